/- The reference's Levelled. -/
import Derived.Test.YtolcndchfnifhaaSensorLevel
import Derived.Test.YtolcndchfnifhaaRefPlane
namespace Go.Proofs.Ytolcndchfnifhaa
set_option linter.unusedVariables false
open Go.RowKit

/-- what stands, when k samples are out. -/
def LvJ (w : World) (W H : Nat) (qv : Value) (m : Nat → Int) (L : List Int) (k : Nat) (wr : World) : Prop :=
  ∃ so scap, wr.heap[w.heap.size + 3]? = some (.cells #[.int .i64 W, .int .i64 H, .slice so k scap] 57 (0, 0)) ∧ wr.ownsRow w.heap.size 3 1 (.slice so k scap) k ((L.take k).map (Value.int .i64)) ∧ wr.heap[w.heap.size]? = some (.cells #[.int .i64 W, .int .i64 H, qv] 57 (0, 0)) ∧ wr.heap[w.heap.size + 2]? = some (.cells #[.int .i64 0, .int .i64 0, .slice none 0 0] 57 (0, 0)) ∧ wr.heap[w.heap.size + 1]? = some (.cells (fourA m) 69 (0, 0)) ∧ Below w.heap.size w wr

set_option maxRecDepth 100000 in
set_option maxHeartbeats 6400000 in
theorem levelled_any (W H : Nat) (hW1 : 1 ≤ W) (hW : W ≤ 64) (hH : H ≤ 64) (v : Value) (zs : List Int) (m : Nat → Int) (white : Int) (hw0 : white ≤ 65535) (hm : ∀ k, k < 4 → 0 ≤ m k ∧ m k ≤ white - 1) (hlen : zs.length = H * W) (hzs : allIn 0 65535 zs = true) (w : World) (hv : IsInts w v zs) :
    Calls Try.prog 54 #[.agg #[.int .i64 W, .int .i64 H, v], .agg (fourA m), .int .i64 white] w fun e w' => ∃ r, e = .returned (.agg #[.int .i64 W, .int .i64 H, r]) ∧ IsInts w' r ((List.range zs.length).map (levelV zs W m white)) ∧ Below w.heap.size w w' ∧ Fresh w.heap.size r := by
  have HZS := hide hzs
  have HV := hide hv
  have HLEN := hide hlen
  have HMM := hide hm
  have hlb : zs.length ≤ 4096 := by rw [hlen]; exact Nat.le_trans (Nat.mul_le_mul hH hW) (by decide)
  have hLL : ((List.range zs.length).map (levelV zs W m white)).length = zs.length := by simp
  have HLG := hide (show ∀ j, j < zs.length → ((List.range zs.length).map (levelV zs W m white))[j]? = some (levelV zs W m white j) from fun j hj => by simp [hj])
  obtain ⟨L, hL⟩ : ∃ L, (List.range zs.length).map (levelV zs W m white) = L := ⟨_, rfl⟩
  rw [hL] at hLL HLG ⊢
  have HLL := hide hLL
  clear hL hLL hzs hlen hm
  obtain ⟨ao, ca, rfl, hla, hc⟩ := hv
  clear hc
  obtain ⟨i0, hi, hz0, hz1, hz2⟩ := info_parts Try.infoInt
  go_enter Try.func54, Try.ntmps54
  go_wp2_with fail
  obtain ⟨a1, a2, a3, a4⟩ := al4 w (Obj.cells #[.int .i64 W, .int .i64 H, .slice ao zs.length ca] 57) (Obj.cells (fourA m) 69) (Obj.cells #[.int .i64 0, .int .i64 0, .slice none 0 0] 57) (Obj.cells #[.int .i64 W, .int .i64 H, .slice none 0 0] 57)
  have hB := be4 w (Obj.cells #[.int .i64 W, .int .i64 H, .slice ao zs.length ca] 57) (Obj.cells (fourA m) 69) (Obj.cells #[.int .i64 0, .int .i64 0, .slice none 0 0] 57) (Obj.cells #[.int .i64 W, .int .i64 H, .slice none 0 0] 57)
  generalize (((w.alloc (Obj.cells #[.int .i64 W, .int .i64 H, .slice ao zs.length ca] 57)).alloc (Obj.cells (fourA m) 69)).alloc (Obj.cells #[.int .i64 0, .int .i64 0, .slice none 0 0] 57)).alloc (Obj.cells #[.int .i64 W, .int .i64 H, .slice none 0 0] 57) = U at *
  go_loopw [8] (fun i wr => ∃ Y : Nat, Y ≤ H ∧ i = .int .i64 Y ∧ LvJ w W H (.slice ao zs.length ca) m L (Y * W) wr) (fun i _ => H - (intOf i).toNat)
  case atStart => exact ⟨0, Nat.zero_le _, rfl, none, 0, by rw [Nat.zero_mul]; exact a4, by rw [Nat.zero_mul]; exact World.ownsRow_nil _ _ _ _, a1, a3, a2, hB⟩
  case round =>
    clear a1 a2 a3 a4 hB
    obtain ⟨Y, hY, rfl, hJ⟩ := hrel
    have HJ := hide hJ
    obtain ⟨so, scap, j1, j2, j3, j4, j6, j5⟩ := hJ
    obtain ⟨q0, q1, q2⟩ := cells3 j3
    by_cases hlt : Y < H
    · have hd : decide ((Y : Int) < (H : Int)) = true := by simp; omega
      obtain ⟨M, hM⟩ : ∃ M, M = Y * W := ⟨_, rfl⟩
      rw [← hM] at HJ j1 j2
      have hMM : M + W ≤ zs.length := by rw [HLEN.out, hM, ← Nat.succ_mul]; exact Nat.mul_le_mul_right _ hlt
      have HM := hide hM
      clear hM
      go_wp2_with fail
      go_loopw [9] (fun i wr => ∃ X : Nat, X ≤ W ∧ i = .int .i64 X ∧ LvJ w W H (.slice ao zs.length ca) m L (M + X) wr) (fun i _ => W - (intOf i).toNat)
      case atStart => exact ⟨0, Nat.zero_le _, rfl, HJ.out⟩
      case round =>
        clear j1 j2 j3 j4 j5 j6 q0 q1 q2 HJ hd
        obtain ⟨X, hX, rfl, hJ⟩ := hrel
        obtain ⟨so, scap, j1, j2, j3, j4, j6, j5⟩ := hJ
        obtain ⟨q0, q1, q2⟩ := cells3 j3
        by_cases hlx : X < W
        · have hdx : decide ((X : Int) < (W : Int)) = true := by simp; omega
          obtain ⟨k, hkk⟩ : ∃ k, M + X = k := ⟨_, rfl⟩
          rw [hkk] at j1 j2
          have hk : k < zs.length := by omega
          have HK := hide hkk
          have hkY : Y * W + X = k := by rw [← HM.out]; exact hkk
          obtain ⟨hpm, hpd⟩ : (Y * W + X) % W = X ∧ (Y * W + X) / W = Y := place_of hlx
          rw [hkY] at hpm hpd
          have HT := hide (show levelV zs W m white k = clampV ((zAt zs k - m (k / W % 2 * 2 + k % W % 2)) * 65535 / (white - m (k / W % 2 * 2 + k % W % 2))) from rfl)
          rw [hpm, hpd] at HT
          obtain ⟨a, ha⟩ : ∃ a, Y % 2 = a := ⟨_, rfl⟩
          obtain ⟨b, hb⟩ : ∃ b, X % 2 = b := ⟨_, rfl⟩
          have hya : (Y : Int) % 2 = (a : Int) := by rw [← ha]; rfl
          have hxb : (X : Int) % 2 = (b : Int) := by rw [← hb]; rfl
          obtain ⟨A2, hA2⟩ : ∃ A2, a * 2 = A2 := ⟨_, rfl⟩
          have hi1 : (a : Int) * 2 = (A2 : Int) := by omega
          obtain ⟨ix, hix⟩ : ∃ ix, A2 + b = ix := ⟨_, rfl⟩
          have hi2 : (A2 : Int) + (b : Int) = (ix : Int) := by omega
          have hix4 : ix < 4 := by omega
          have hixI : (ix : Int) < 4 := by omega
          rw [ha, hb, hA2, hix] at HT
          obtain ⟨hm0, hm1⟩ := HMM.out ix hix4
          have kb0 : wr.cell? ⟨w.heap.size + 1, ix, none⟩ = some (.int .i64 (m ix)) := by rw [Lib.cell_of_heap j6, fourA_get m ix hix4]
          obtain ⟨bl, hbl⟩ : ∃ bl, m ix = bl := ⟨_, rfl⟩
          rw [hbl] at HT hm0 hm1 kb0
          have hzr := zAt_ok HZS.out k
          have HAT := hide (fun (u : World) (hu : Below wr.heap.size wr u) => at_any W H (.slice ao zs.length ca) zs X Y X Y W k u (HV.out.below (j5.trans (hu.mono j5.size)) (Nat.le_refl _)) rfl rfl rfl hkY hk hlb)
          rw [show zs.getD k 0 = zAt zs k from rfl] at HAT
          obtain ⟨z, hz⟩ : ∃ z, zAt zs k = z := ⟨_, rfl⟩
          rw [hz] at HT hzr HAT
          obtain ⟨hzr1, hzr2⟩ := hzr
          obtain ⟨d, hdd⟩ : ∃ d, white - bl = d := ⟨_, rfl⟩
          rw [hdd] at HT
          obtain ⟨n, hn⟩ : ∃ n, (z - bl) * 65535 = n := ⟨_, rfl⟩
          rw [hn] at HT
          have HDN := hide (fun u => downB_any n d (by omega) (by omega) (by omega) (by omega) u)
          have hwd : IntKind.i64.wrap d = d := IntWalk.i64_in _ (by omega)
          have hwe : IntKind.i64.wrap (z - bl) = z - bl := IntWalk.i64_in _ (by omega)
          have hwn : IntKind.i64.wrap n = n := IntWalk.i64_in _ (by omega)
          obtain ⟨y, hy⟩ : ∃ y, clampV (n / d) = y := ⟨_, rfl⟩
          rw [hy] at HT
          have HCL := hide (fun u => clamp_any (n / d) u)
          rw [hy] at HCL
          have HST := hide (show (L.take (k + 1)).map (Value.int .i64) = (L.take k).map (Value.int .i64) ++ [.int .i64 y] by
            have hk2 : k < L.length := by rw [HLL.out]; exact hk
            have hg := HLG.out k hk
            rw [List.getElem?_eq_getElem hk2] at hg
            rw [List.take_succ_eq_append_getElem hk2, Option.some.inj hg, List.map_append, HT.out]; rfl)
          obtain ⟨XS, hXS⟩ : ∃ XS, (L.take k).map (Value.int .i64) = XS := ⟨_, rfl⟩
          rw [hXS] at j2 HST
          have hbW := j5.size
          have HL1 := hide (show k + 1 ≤ maxLen by unfold maxLen; omega)
          have HL2 := hide (show (k + 1) * 8 ≤ 140737488355328 by omega)
          clear ha hb hA2 hix hbl hz hy hXS hpm hpd hkY hkk
          have HS := hide (show ∀ v, Below wr.heap.size wr v → v.cell? ⟨w.heap.size + 1 + 1 + 1, 2, none⟩ = some (.slice so k scap) ∧ v.cell? ⟨w.heap.size, 0, none⟩ = some (.int .i64 W) ∧ v.cell? ⟨w.heap.size, 1, none⟩ = some (.int .i64 H) ∧ v.cell? ⟨w.heap.size, 2, none⟩ = some (.slice ao zs.length ca) from fun v h => by
            obtain ⟨_, _, t2⟩ := cells3 ((h.block (w.heap.size + 3) (Array.getElem?_eq_some_iff.1 j1).1).trans j1)
            exact ⟨t2, cells3 ((h.block _ (Array.getElem?_eq_some_iff.1 j3).1).trans j3)⟩)
          have nq := own_ne j2 j3 (by decide)
          have HTL := hide (show ∀ (V1 : World) (gg cap : Nat) (w3 : World), Below wr.heap.size wr V1 → V1.grownBy w3 (Value.slice so k scap).ownBlock → w3.ownsRow w.heap.size 3 1 (.slice (some ⟨gg, 0, none⟩) (k + 1) cap) (k + 1) (XS ++ [.int .i64 y]) → (w3.cell? ⟨w.heap.size + 1 + 1 + 1, 2, none⟩ = some (.slice so k scap) ∧ w3.cell? ⟨w.heap.size, 0, none⟩ = some (.int .i64 W) ∧ w3.cell? ⟨w.heap.size, 1, none⟩ = some (.int .i64 H) ∧ w3.cell? ⟨w.heap.size, 2, none⟩ = some (.slice ao zs.length ca)) ∧ w3.frozen? ⟨w.heap.size + 1 + 1 + 1, 2, none⟩ = false ∧ LvJ w W H (.slice ao zs.length ca) m L (k + 1) (w3.setCell ⟨w.heap.size + 1 + 1 + 1, 2, none⟩ (.slice (some ⟨gg, 0, none⟩) (k + 1) cap)) from fun V1 gg cap w3 h1 h2 h3 => by
            obtain ⟨t1, t2, t3, t4, t5, t6, t7⟩ := app_gen (by decide) j1 j2 j5 (Nat.le_refl _) (by omega) h1 h2 h3
            exact ⟨⟨t2, cells3 ((t1 _ (Array.getElem?_eq_some_iff.1 j3).1 nq).trans j3)⟩, t3, some ⟨gg, 0, none⟩, cap, t4, by rw [HST.out]; exact t5, (t7 _ (Array.getElem?_eq_some_iff.1 j3).1 nq (by omega)).trans j3, (t7 _ (Array.getElem?_eq_some_iff.1 j4).1 (own_ne j2 j4 (by decide)) (by omega)).trans j4, (t7 _ (Array.getElem?_eq_some_iff.1 j6).1 (own_ne j2 j6 (by decide)) (by omega)).trans j6, t6⟩)
          have hWd : Below wr.heap.size wr wr.drew := (Below.refl _ _).drew
          go_wp2_with fail
          have hSd := HS.out _ hWd
          clear q0 q1 q2 hdx j1 j3 j4 j6 kb0
          have hmx : Try.prog.follows .mixedOrders = true := by kernel_rfl
          refine wp_region_last (S := fun v : World => v.cell? ⟨w.heap.size + 1 + 1 + 1, 2, none⟩ = some (.slice so k scap) ∧ v.cell? ⟨w.heap.size, 0, none⟩ = some (.int .i64 W) ∧ v.cell? ⟨w.heap.size, 1, none⟩ = some (.int .i64 H) ∧ v.cell? ⟨w.heap.size, 2, none⟩ = some (.slice ao zs.length ca)) (f := 17) hmx ?_
          show wpAnyF _ _ _ _ _ _ 18 _ _ wr.drew
          refine wpAnyF_takeD (i := 0) (oi := _) (v := ?vv1) (some 36) rfl rfl (by kernel_rfl) (by kernel_rfl) (by kernel_rfl) (by kernel_rfl) (by kernel_rfl) (fun _ _ _ h => h) (Or.inl ⟨by rfl, ?yy1⟩) hSd ?rr1
          case yy1 => (intro wq hSq; obtain ⟨_, _, _, _⟩ := hSq; go_simp <;> with_reducible rfl)
          simp only [Act.put, List.setIfInBounds_toArray, List.set_cons_succ, List.set_cons_zero]
          refine wpAnyF_takeD (i := 2) (oi := _) (v := ?vv2) (some 38) rfl rfl (by kernel_rfl) (by kernel_rfl) (by kernel_rfl) (by kernel_rfl) (by kernel_rfl) (fun _ _ _ h => h) (Or.inl ⟨by rfl, ?yy2⟩) hSd ?rr2
          case yy2 => (intro wq hSq; obtain ⟨_, _, _, _⟩ := hSq; go_simp <;> with_reducible rfl)
          simp only [Act.put, List.setIfInBounds_toArray, List.set_cons_succ, List.set_cons_zero]
          refine wpAnyF_takeD (i := 3) (oi := _) (v := ?vv3) (some 39) rfl rfl (by kernel_rfl) (by kernel_rfl) (by kernel_rfl) (by kernel_rfl) (by kernel_rfl) (fun _ _ _ h => h) (Or.inl ⟨by rfl, ?yy3⟩) hSd ?rr3
          case yy3 => (intro wq hSq; obtain ⟨_, _, _, _⟩ := hSq; go_simp <;> with_reducible rfl)
          simp only [Act.put, List.setIfInBounds_toArray, List.set_cons_succ, List.set_cons_zero]
          refine wpAnyF_takeD (i := 4) (oi := _) (v := ?vv4) (some 40) rfl rfl (by kernel_rfl) (by kernel_rfl) (by kernel_rfl) (by kernel_rfl) (by kernel_rfl) (fun _ _ _ h => h) (Or.inl ⟨by rfl, ?yy4⟩) hSd ?rr4
          case yy4 => (intro wq hSq; obtain ⟨_, _, _, _⟩ := hSq; go_simp <;> with_reducible rfl)
          simp only [Act.put, List.setIfInBounds_toArray, List.set_cons_succ, List.set_cons_zero]
          refine wpAnyF_takeD (i := 6) (oi := _) (v := ?vv5) (some 42) rfl rfl (by kernel_rfl) (by kernel_rfl) (by kernel_rfl) (by kernel_rfl) (by kernel_rfl) (fun _ _ _ h => h) (Or.inl ⟨by rfl, ?yy5⟩) hSd ?rr5
          case yy5 => (intro wq hSq; obtain ⟨_, _, _, _⟩ := hSq; go_simp <;> with_reducible rfl)
          simp only [Act.put, List.setIfInBounds_toArray, List.set_cons_succ, List.set_cons_zero]
          refine wpAnyF_takeD (i := 9) (oi := _) (v := ?vv6) (some 45) rfl rfl (by kernel_rfl) (by kernel_rfl) (by kernel_rfl) (by kernel_rfl) (by kernel_rfl) (fun _ _ _ h => h) (Or.inl ⟨by rfl, ?yy6⟩) hSd ?rr6
          case yy6 => (intro wq hSq; obtain ⟨_, _, _, _⟩ := hSq; go_simp <;> with_reducible rfl)
          simp only [Act.put, List.setIfInBounds_toArray, List.set_cons_succ, List.set_cons_zero]
          refine wpAnyF_takeD (i := 10) (oi := _) (v := ?vv7) (some 46) rfl rfl (by kernel_rfl) (by kernel_rfl) (by kernel_rfl) (by kernel_rfl) (by kernel_rfl) (fun _ _ _ h => h) (Or.inl ⟨by rfl, ?yy7⟩) hSd ?rr7
          case yy7 => (intro wq hSq; obtain ⟨_, _, _, _⟩ := hSq; go_simp <;> with_reducible rfl)
          simp only [Act.put, List.setIfInBounds_toArray, List.set_cons_succ, List.set_cons_zero]
          refine wpAnyF_takeD (i := 1) (oi := _) (v := ?vv8) (some 37) rfl rfl (by kernel_rfl) (by kernel_rfl) (by kernel_rfl) (by kernel_rfl) (by kernel_rfl) (fun _ _ _ h => h) (Or.inl ⟨by rfl, ?yy8⟩) hSd ?rr8
          case yy8 => (intro wq hSq; obtain ⟨_, _, _, _⟩ := hSq; go_simp <;> with_reducible rfl)
          simp only [Act.put, List.setIfInBounds_toArray, List.set_cons_succ, List.set_cons_zero]
          refine wpAnyF_takeD (i := 11) (oi := _) (v := ?vv9) (some 47) rfl rfl (by kernel_rfl) (by kernel_rfl) (by kernel_rfl) (by kernel_rfl) (by kernel_rfl) (fun _ _ _ h => h) (Or.inl ⟨by rfl, ?yy9⟩) hSd ?rr9
          case yy9 => (intro wq hSq; obtain ⟨_, _, _, _⟩ := hSq; go_simp <;> with_reducible rfl)
          simp only [Act.put, List.setIfInBounds_toArray, List.set_cons_succ, List.set_cons_zero]
          refine wpAnyF_one (i := 5) (o := _) (by kernel_rfl) rfl (fun K' hK => ?_)
          rw [if_pos (by rfl)]
          go_simp
          refine (HAT.out _ hWd).mono ?_
          rintro e V0 ⟨rfl, hb0⟩
          have hB0 : Below wr.heap.size wr V0 := hWd.trans (hb0.mono hWd.size)
          have hSd := HS.out _ hB0
          refine hK.out _ _ hSd ?_
          clear hK
          try simp only [Act.put]
          refine wpAnyF_takeD (i := 7) (oi := _) (v := ?vv10) (some 43) rfl rfl (by kernel_rfl) (by kernel_rfl) (by kernel_rfl) (by kernel_rfl) (by kernel_rfl) (fun _ _ _ h => h) (Or.inl ⟨by rfl, ?yy10⟩) hSd ?rr10
          case yy10 => (intro wq hSq; obtain ⟨_, _, _, _⟩ := hSq; go_simp <;> with_reducible rfl)
          simp only [Act.put, List.setIfInBounds_toArray, List.set_cons_succ, List.set_cons_zero]
          refine wpAnyF_takeD (i := 8) (oi := _) (v := ?vv11) (some 44) rfl rfl (by kernel_rfl) (by kernel_rfl) (by kernel_rfl) (by kernel_rfl) (by kernel_rfl) (fun _ _ _ h => h) (Or.inl ⟨by rfl, ?yy11⟩) hSd ?rr11
          case yy11 => (intro wq hSq; obtain ⟨_, _, _, _⟩ := hSq; go_simp <;> with_reducible rfl)
          simp only [Act.put, List.setIfInBounds_toArray, List.set_cons_succ, List.set_cons_zero]
          refine wpAnyF_one (i := 12) (o := _) (by kernel_rfl) rfl (fun K' hK => ?_)
          rw [if_pos (by rfl)]
          go_simp
          refine (HDN.out _).mono ?_
          rintro e Vx ⟨rfl, rfl⟩
          have hSd := hSd
          refine hK.out _ _ hSd ?_
          clear hK
          try simp only [Act.put]
          refine wpAnyF_one (i := 13) (o := _) (by kernel_rfl) rfl (fun K' hK => ?_)
          rw [if_pos (by rfl)]
          go_simp
          refine (HCL.out _).mono ?_
          rintro e Vy ⟨rfl, rfl⟩
          have hSd := hSd
          refine hK.out _ _ hSd ?_
          clear hK
          try simp only [Act.put]
          refine wpAnyF_one (i := 14) (o := _) (by kernel_rfl) rfl (fun K' hK => ?_)
          rw [if_pos (by rfl)]
          go_simp
          have hBs : Below wr.heap.size wr (V0.alloc (Obj.cells #[.int .i64 y] 3)) := hB0.alloc hB0.size _
          have hSd := HS.out _ hBs
          refine hK.out _ _ hSd ?_
          clear hK
          try simp only [Act.put]
          refine wpAnyF_one (i := 15) (o := _) (by kernel_rfl) rfl (fun K' hK => ?_)
          refine step_append_lies _ rfl _ _ 35 rfl w.heap.size 3 i0 (.int .i64 0) 1 8 Try.underlying35 hi hz0 hz1 hz2 rfl (by decide) (.slice so k scap) k XS rfl ((ownsRow_below j2 hB0).alloc _) ⟨V0.heap.size, 0, none⟩ 1 1 [.int .i64 y] rfl rfl (World.news_of_block (al1 V0 _)) (fun u hu => by simp at hu; subst hu; rfl) Nat.one_pos HL1.out HL2.out (Nat.le_trans hbW hBs.size) _ rfl ?_
          intro gg cap w3 hown hgrow hat hltg
          obtain ⟨hSx, p2f, HFIN⟩ := HTL.out _ gg cap w3 hBs hgrow hown
          have hSd := hSx
          refine hK.out _ _ hSd ?_
          clear hK
          try simp only [Act.put]
          refine wpAnyF_take (i := 16) (oi := _) (v := ?vv12) rfl (by kernel_rfl) (by kernel_rfl) (by kernel_rfl) (by kernel_rfl) (by kernel_rfl) (fun _ _ _ h => h) (Or.inl ⟨by rfl, ?yy12⟩) hSd ?rr12
          case yy12 => (intro wq hSq; obtain ⟨_, _, _, _⟩ := hSq; go_simp <;> with_reducible rfl)
          try simp only [Act.put]
          refine wpAnyF_last (o := _) (by kernel_rfl) rfl (fun K' hK => ?_)
          rw [if_pos (by rfl)]
          go_simp
          refine hK.out _ _ ?_
          clear hK
          refine wpAnyF_done (by kernel_rfl) ?_ _
          try simp only [Act.put]
          go_wp2
          go_roundw
          case rel => exact ⟨X + 1, by omega, by go_num, by rw [show M + (X + 1) = k + 1 by have := HK.out; omega]; exact HFIN⟩
          case measure => simp [intOf]; omega
        · have hdx : decide ((X : Int) < (W : Int)) = false := by simp; omega
          have h3 : X = W := by omega
          subst h3
          have HJ1 := hide (show LvJ w X H (.slice ao zs.length ca) m L ((Y + 1) * X) wr from ⟨so, scap, by rw [Nat.succ_mul, ← HM.out]; exact j1, by rw [Nat.succ_mul, ← HM.out]; exact j2, j3, j4, j6, j5⟩)
          go_wp2
          go_roundw
          case rel => exact ⟨Y + 1, by omega, by go_num, HJ1.out⟩
          case measure => simp [intOf]; omega
    · have hd : decide ((Y : Int) < (H : Int)) = false := by simp; omega
      obtain rfl : Y = H := by omega
      rw [← HLEN.out] at j1 j2
      rw [List.take_of_length_le (by rw [HLL.out]; exact Nat.le_refl _)] at j2
      obtain ⟨p0, p1, p2⟩ := cells3 (b := w.heap.size + 1 + 1 + 1) j1
      obtain ⟨z0, z1, z2⟩ := cells3 (b := w.heap.size + 1 + 1) j4
      have f0 := Lib.frozen_of_heap (b := w.heap.size + 1 + 1) j4 0
      have f1 := Lib.frozen_of_heap (b := w.heap.size + 1 + 1) j4 1
      have f2 := Lib.frozen_of_heap (b := w.heap.size + 1 + 1) j4 2
      have HFI := hide (set3_below j5 (show w.heap.size ≤ w.heap.size + 1 + 1 by omega) (.int .i64 (W : Nat)) (.int .i64 (Y : Nat)) (.slice so zs.length scap))
      have hpx : IsInts wr (.slice so zs.length scap) L := IsInts.own (base := w.heap.size) (xs := L) (v := .slice so zs.length scap) (by rw [HLL.out]; exact j2) (by rw [HLL.out]; omega)
      have hne : (Value.slice so zs.length scap).ownBlock ≠ some (w.heap.size + 1 + 1) := fun e => own_ne j2 j4 (by decide) e.symm
      have HX := hide (hpx.other (set3_size wr (w.heap.size + 1 + 1) (.int .i64 (W : Nat)) (.int .i64 (Y : Nat)) (.slice so zs.length scap)) (fun b hb => set3_heap _ _ _ _ _ b hb) hne)
      have HF := hide (Fresh.own j2)
      clear hpx hne
      go_wp2
      exact bodyPost_ret (v := .agg #[.int .i64 (W : Nat), .int .i64 (Y : Nat), .slice so zs.length scap]) (by simp [results, Try.results54, go_sem, z0, z1, z2]) rfl ⟨_, rfl, HX.out, HFI.out, HF.out⟩

end Go.Proofs.Ytolcndchfnifhaa
