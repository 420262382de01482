/- Line: part 9 of what the proofs need. -/
import Derived.Test.YtolcndchfnifhabC4Line
import Derived.Test.YtolcndchfnifhabC6Line
import Derived.Test.YtolcndchfnifhabC8Line
namespace Go.Proofs.Ytolcndchfnifhab
set_option linter.unusedVariables false
open Go.RowKit
def cOf (t : Nat) : Nat := (if 2 < t then 1 else 0) + (if 10 < t then 1 else 0) + (if 14 < t then 1 else 0) + (if 22 < t then 1 else 0)
theorem cOf_same (t : Nat) (h : t ≠ 2 ∧ t ≠ 10 ∧ t ≠ 14 ∧ t ≠ 22) : cOf (t + 1) = cOf t := by
  unfold cOf; split <;> split <;> split <;> split <;> split <;> split <;> split <;> split <;> omega
theorem cOf_le (t : Nat) : cOf t ≤ 4 := by unfold cOf; split <;> split <;> split <;> split <;> omega
def rpS (zs : List Int) (W H : Nat) (ls : List Pt) (X Y c : Nat) : Int × Nat := mF zs W H (crX X) (crY Y) (repC ls X Y) (idx 4 c)
theorem rpS_step (zs : List Int) (W H : Nat) (ls : List Pt) (X Y c : Nat) (hc : c < 4) (ua vb : Int) (hu : ua = (X : Int) + crDx c) (hv : vb = (Y : Int) + crDy c) :
    rpS zs W H ls X Y (c + 1) = if hasB W H ua vb = true ∧ goodB ls (ua, vb) = true then ((rpS zs W H ls X Y c).1 + zAt zs (vb.toNat * W + ua.toNat), (rpS zs W H ls X Y c).2 + 1) else rpS zs W H ls X Y c := by
  subst hu hv
  unfold rpS
  rw [idx_succ 4 c hc, mF_snoc]
  rfl
theorem rpS_ok {zs : List Int} (h : allIn 0 65535 zs = true) (W H : Nat) (ls : List Pt) (X Y c : Nat) (hc : c ≤ 4) : 0 ≤ (rpS zs W H ls X Y c).1 ∧ (rpS zs W H ls X Y c).1 ≤ (rpS zs W H ls X Y c).2 * 65535 ∧ (rpS zs W H ls X Y c).2 ≤ 4 := by
  have := mF_range h W H (crX X) (crY Y) (repC ls X Y) (idx 4 c) (0, 0) 0 (Int.le_refl _) (by decide) (Nat.le_refl _)
  rw [idx_length 4 c hc] at this
  exact ⟨this.1, this.2.1, by have := this.2.2; unfold rpS mF; omega⟩
theorem rpS_end {zs : List Int} (hz : allIn 0 65535 zs = true) (W H : Nat) (ls : List Pt) (X Y : Nat) (mm : Int) (hm : mm = max ((rpS zs W H ls X Y 4).2 : Int) 1) : meanV zs W H (crX X) (crY Y) (repC ls X Y) = (rpS zs W H ls X Y 4).1.tdiv mm := by
  have hr := rpS_ok hz W H ls X Y 4 (Nat.le_refl _)
  have he : rpS zs W H ls X Y 4 = mF zs W H (crX X) (crY Y) (repC ls X Y) (List.finRange 4) := by unfold rpS; rw [← idx_all]
  unfold meanV
  rw [← he, Int.tdiv_eq_ediv_of_nonneg hr.1]
  split
  · rename_i h
    have : (rpS zs W H ls X Y 4).1 = 0 := by rw [h] at hr; omega
    rw [this]; simp
  · rw [hm, Int.max_eq_left (by omega)]
def RpJ (w : World) (W H : Nat) (qv : Value) (L : List Int) (k : Nat) (wr : World) : Prop :=
  ∃ so scap, wr.heap[w.heap.size + 2]? = some (.cells #[.int .i64 W, .int .i64 H, .slice so k scap] 24 (0, 0)) ∧ wr.ownsRow w.heap.size 3 1 (.slice so k scap) k ((L.take k).map (Value.int .i64)) ∧ wr.heap[w.heap.size]? = some (.cells #[.int .i64 W, .int .i64 H, qv] 24 (0, 0)) ∧ wr.heap[w.heap.size + 1]? = some (.cells #[.int .i64 0, .int .i64 0, .slice none 0 0] 24 (0, 0)) ∧ Below w.heap.size w wr
theorem RpJ.below {w : World} {W H : Nat} {qv : Value} {L : List Int} {k : Nat} {wr wv : World} (h : RpJ w W H qv L k wr) (hb : Below wr.heap.size wr wv) : RpJ w W H qv L k wv := by
  obtain ⟨so, scap, j1, j2, j3, j4, j5⟩ := h
  exact ⟨so, scap, (hb.block _ (Array.getElem?_eq_some_iff.1 j1).1).trans j1, ownsRow_below j2 hb, (hb.block _ (Array.getElem?_eq_some_iff.1 j3).1).trans j3, (hb.block _ (Array.getElem?_eq_some_iff.1 j4).1).trans j4, j5.trans (hb.mono j5.size)⟩
set_option maxRecDepth 100000 in
set_option maxHeartbeats 16000000 in
theorem repaired_any (W H : Nat) (hW1 : 1 ≤ W) (hW : W ≤ 64) (hH1 : 1 ≤ H) (hH : H ≤ 64) (v : Value) (zs : List Int) (lv : Value) (ls : List Pt) (hlen : zs.length = H * W) (hzs : allIn 0 65535 zs = true) (w : World) (hv : IsInts w v zs) (hlv : IsPts w lv ls) :
    Calls Try.prog 91 #[.agg #[.int .i64 W, .int .i64 H, v], lv] w fun e w' => ∃ r, e = .returned (.agg #[.int .i64 W, .int .i64 H, r]) ∧ IsInts w' r ((List.range zs.length).map (repV zs W H ls)) ∧ Below w.heap.size w w' ∧ Fresh w.heap.size r := by
  have HZS := hide hzs
  have HV := hide hv
  have HLV := hide hlv
  have HLEN := hide hlen
  have hlb : zs.length ≤ 4096 := by rw [hlen]; exact Nat.le_trans (Nat.mul_le_mul hH hW) (by decide)
  have hLL : ((List.range zs.length).map (repV zs W H ls)).length = zs.length := by simp
  have HLG := hide (show ∀ j, j < zs.length → ((List.range zs.length).map (repV zs W H ls))[j]? = some (repV zs W H ls j) from fun j hj => by simp [hj])
  obtain ⟨L, hL⟩ : ∃ L, (List.range zs.length).map (repV zs W H ls) = L := ⟨_, rfl⟩
  rw [hL] at hLL HLG ⊢
  have HLL := hide hLL
  clear hL hLL hzs hlen
  obtain ⟨ao, ca, rfl, hla, hc⟩ := hv
  obtain ⟨lo, lc, rfl, hll, hlc⟩ := hlv
  clear hc hlc
  obtain ⟨i0, hi, hz0, hz1, hz2⟩ := info_parts Try.infoInt
  go_enter Try.func91, Try.ntmps91
  go_wp2_with fail
  obtain ⟨a1, a2, a3⟩ := al3 w (Obj.cells #[.int .i64 W, .int .i64 H, .slice ao zs.length ca] 24) (Obj.cells #[.int .i64 0, .int .i64 0, .slice none 0 0] 24) (Obj.cells #[.int .i64 W, .int .i64 H, .slice none 0 0] 24)
  have hB := be3 w (Obj.cells #[.int .i64 W, .int .i64 H, .slice ao zs.length ca] 24) (Obj.cells #[.int .i64 0, .int .i64 0, .slice none 0 0] 24) (Obj.cells #[.int .i64 W, .int .i64 H, .slice none 0 0] 24)
  generalize ((w.alloc (Obj.cells #[.int .i64 W, .int .i64 H, .slice ao zs.length ca] 24)).alloc (Obj.cells #[.int .i64 0, .int .i64 0, .slice none 0 0] 24)).alloc (Obj.cells #[.int .i64 W, .int .i64 H, .slice none 0 0] 24) = U at *
  go_loopw [6] (fun i wr => ∃ Y : Nat, Y ≤ H ∧ i = .int .i64 Y ∧ RpJ w W H (.slice ao zs.length ca) L (Y * W) wr) (fun i _ => H - (intOf i).toNat)
  case atStart => exact ⟨0, Nat.zero_le _, rfl, none, 0, by rw [Nat.zero_mul]; exact a3, by rw [Nat.zero_mul]; exact World.ownsRow_nil _ _ _ _, a1, a2, hB⟩
  case round =>
    clear a1 a2 a3 hB
    obtain ⟨Y, hY, rfl, hJ⟩ := hrel
    have HJ := hide hJ
    obtain ⟨so, scap, j1, j2, j3, j4, j5⟩ := hJ
    obtain ⟨q0, q1, q2⟩ := cells3 j3
    by_cases hlt : Y < H
    · have hd : decide ((Y : Int) < (H : Int)) = true := by simp; omega
      obtain ⟨M, hM⟩ : ∃ M, M = Y * W := ⟨_, rfl⟩
      rw [← hM] at HJ j1 j2
      have hMM : M + W ≤ zs.length := by rw [HLEN.out, hM, ← Nat.succ_mul]; exact Nat.mul_le_mul_right _ hlt
      have HM := hide hM
      clear hM
      go_wp2_with fail
      go_loopw [7] (fun i wr => ∃ X : Nat, X ≤ W ∧ i = .int .i64 X ∧ RpJ w W H (.slice ao zs.length ca) L (M + X) wr) (fun i _ => W - (intOf i).toNat)
      case atStart => exact ⟨0, Nat.zero_le _, rfl, HJ.out⟩
      case round =>
        clear j1 j2 j3 j4 j5 q0 q1 q2 HJ hd
        obtain ⟨X, hX, rfl, hJ⟩ := hrel
        by_cases hlx : X < W
        · have hdx : decide ((X : Int) < (W : Int)) = true := by simp; omega
          have hk : M + X < zs.length := by omega
          obtain ⟨k, hkk⟩ : ∃ k, M + X = k := ⟨_, rfl⟩
          rw [hkk] at hJ hk
          have HJ0 := hide hJ
          have HK := hide hkk
          have hkY : Y * W + X = k := by rw [← HM.out]; exact hkk
          obtain ⟨hpm, hpd⟩ : (Y * W + X) % W = X ∧ (Y * W + X) / W = Y := place_of hlx
          rw [hkY] at hpm hpd
          have HT := hide (show repV zs W H ls k = if goodB ls ((k % W : Nat), (k / W : Nat)) = true then zAt zs k else meanV zs W H (crX (k % W)) (crY (k / W)) (repC ls (k % W) (k / W)) from rfl)
          rw [hpm, hpd] at HT
          have HYK := hide hkY
          clear hkk hpm hpd hkY
          generalize wr = R at *
          obtain ⟨so, scap, j1, j2, j3, j4, j5⟩ := hJ
          have HBR := hide j5
          have HISP := hide (fun (x y : Int) (u : World) (hu : Below R.heap.size R u) => isSpot_any (.slice lo ls.length lc) ls x y u (HLV.out.below (HBR.out.trans (hu.mono HBR.out.size)) (Nat.le_refl _)))
          obtain ⟨q0, q1, q2⟩ := cells3 j3
          have HST1 := hide (show ∀ y, repV zs W H ls k = y → (L.take (k + 1)).map (Value.int .i64) = (L.take k).map (Value.int .i64) ++ [.int .i64 y] from fun y hy => by
            have hk2 : k < L.length := by rw [HLL.out]; exact hk
            have hg := HLG.out k hk
            rw [List.getElem?_eq_getElem hk2] at hg
            rw [List.take_succ_eq_append_getElem hk2, Option.some.inj hg, List.map_append, hy]; rfl)
          have HL1 := hide (show k + 1 ≤ maxLen by unfold maxLen; omega)
          have HL2 := hide (show (k + 1) * 8 ≤ 140737488355328 by omega)
          go_wp2_with fail
          refine (HISP.out _ _ _ (Below.refl _ _)).mono ?_
          rintro e wq ⟨rfl, rfl⟩
          by_cases hg : goodB ls ((X : Nat), (Y : Nat)) = true
          · rw [hg]
            rw [if_pos hg] at HT
            have HAT := hide (fun (u : World) (hu : Below R.heap.size R u) => at_any W H (.slice ao zs.length ca) zs X Y X Y W k u (HV.out.below (HBR.out.trans (hu.mono HBR.out.size)) (Nat.le_refl _)) rfl rfl rfl HYK.out hk hlb)
            rw [show zs.getD k 0 = zAt zs k from rfl] at HAT
            obtain ⟨y, hy⟩ : ∃ y, zAt zs k = y := ⟨_, rfl⟩
            rw [hy] at HT HAT
            have HST := hide (HST1.out y HT.out)
            obtain ⟨XS, hXS⟩ : ∃ XS, (L.take k).map (Value.int .i64) = XS := ⟨_, rfl⟩
            rw [hXS] at j2 HST
            have hbW := j5.size
            clear hy hXS HJ0 HST1 HT
            have HS := hide (show ∀ v, Below R.heap.size R v → v.cell? ⟨w.heap.size + 1 + 1, 2, none⟩ = some (.slice so k scap) ∧ v.cell? ⟨w.heap.size, 0, none⟩ = some (.int .i64 W) ∧ v.cell? ⟨w.heap.size, 1, none⟩ = some (.int .i64 H) ∧ v.cell? ⟨w.heap.size, 2, none⟩ = some (.slice ao zs.length ca) from fun v h => by
              obtain ⟨_, _, t2⟩ := cells3 ((h.block (w.heap.size + 2) (Array.getElem?_eq_some_iff.1 j1).1).trans j1)
              exact ⟨t2, cells3 ((h.block _ (Array.getElem?_eq_some_iff.1 j3).1).trans j3)⟩)
            have nq := own_ne j2 j3 (by decide)
            have HTL := hide (show ∀ (V1 : World) (gg cap : Nat) (w3 : World), Below R.heap.size R V1 → V1.grownBy w3 (Value.slice so k scap).ownBlock → w3.ownsRow w.heap.size 3 1 (.slice (some ⟨gg, 0, none⟩) (k + 1) cap) (k + 1) (XS ++ [.int .i64 y]) → (w3.cell? ⟨w.heap.size + 1 + 1, 2, none⟩ = some (.slice so k scap) ∧ w3.cell? ⟨w.heap.size, 0, none⟩ = some (.int .i64 W) ∧ w3.cell? ⟨w.heap.size, 1, none⟩ = some (.int .i64 H) ∧ w3.cell? ⟨w.heap.size, 2, none⟩ = some (.slice ao zs.length ca)) ∧ w3.frozen? ⟨w.heap.size + 1 + 1, 2, none⟩ = false ∧ RpJ w W H (.slice ao zs.length ca) L (k + 1) (w3.setCell ⟨w.heap.size + 1 + 1, 2, none⟩ (.slice (some ⟨gg, 0, none⟩) (k + 1) cap)) from fun V1 gg cap w3 h1 h2 h3 => by
              obtain ⟨t1, t2, t3, t4, t5, t6, t7⟩ := app_gen (by decide) j1 j2 j5 (Nat.le_refl _) (by omega) h1 h2 h3
              exact ⟨⟨t2, cells3 ((t1 _ (Array.getElem?_eq_some_iff.1 j3).1 nq).trans j3)⟩, t3, some ⟨gg, 0, none⟩, cap, t4, by rw [HST.out]; exact t5, (t7 _ (Array.getElem?_eq_some_iff.1 j3).1 nq (by omega)).trans j3, (t7 _ (Array.getElem?_eq_some_iff.1 j4).1 (own_ne j2 j4 (by decide)) (by omega)).trans j4, t6⟩)
            have hWd : Below R.heap.size R R.drew := (Below.refl _ _).drew
            go_wp2_with fail
            have hSd := HS.out _ hWd
            clear q0 q1 q2 j1 j3 j4
            have hmx : Try.prog.follows .mixedOrders = true := by kernel_rfl
            refine wp_region_last (S := fun v : World => v.cell? ⟨w.heap.size + 1 + 1, 2, none⟩ = some (.slice so k scap) ∧ v.cell? ⟨w.heap.size, 0, none⟩ = some (.int .i64 W) ∧ v.cell? ⟨w.heap.size, 1, none⟩ = some (.int .i64 H) ∧ v.cell? ⟨w.heap.size, 2, none⟩ = some (.slice ao zs.length ca)) (f := 9) hmx ?_
            show wpAnyF _ _ _ _ _ _ 10 _ _ R.drew
            refine wpAnyF_takeD (i := 0) (oi := _) (v := ?vv1) (some 35) rfl rfl (by kernel_rfl) (by kernel_rfl) (by kernel_rfl) (by kernel_rfl) (by kernel_rfl) (fun _ _ _ h => h) (Or.inl ⟨by rfl, ?yy1⟩) hSd ?rr1
            case yy1 => (intro wq hSq; obtain ⟨_, _, _, _⟩ := hSq; go_simp <;> with_reducible rfl)
            simp only [Act.put, List.setIfInBounds_toArray, List.set_cons_succ, List.set_cons_zero]
            refine wpAnyF_takeD (i := 2) (oi := _) (v := ?vv2) (some 37) rfl rfl (by kernel_rfl) (by kernel_rfl) (by kernel_rfl) (by kernel_rfl) (by kernel_rfl) (fun _ _ _ h => h) (Or.inl ⟨by rfl, ?yy2⟩) hSd ?rr2
            case yy2 => (intro wq hSq; obtain ⟨_, _, _, _⟩ := hSq; go_simp <;> with_reducible rfl)
            simp only [Act.put, List.setIfInBounds_toArray, List.set_cons_succ, List.set_cons_zero]
            refine wpAnyF_takeD (i := 3) (oi := _) (v := ?vv3) (some 38) rfl rfl (by kernel_rfl) (by kernel_rfl) (by kernel_rfl) (by kernel_rfl) (by kernel_rfl) (fun _ _ _ h => h) (Or.inl ⟨by rfl, ?yy3⟩) hSd ?rr3
            case yy3 => (intro wq hSq; obtain ⟨_, _, _, _⟩ := hSq; go_simp <;> with_reducible rfl)
            simp only [Act.put, List.setIfInBounds_toArray, List.set_cons_succ, List.set_cons_zero]
            refine wpAnyF_takeD (i := 4) (oi := _) (v := ?vv4) (some 39) rfl rfl (by kernel_rfl) (by kernel_rfl) (by kernel_rfl) (by kernel_rfl) (by kernel_rfl) (fun _ _ _ h => h) (Or.inl ⟨by rfl, ?yy4⟩) hSd ?rr4
            case yy4 => (intro wq hSq; obtain ⟨_, _, _, _⟩ := hSq; go_simp <;> with_reducible rfl)
            simp only [Act.put, List.setIfInBounds_toArray, List.set_cons_succ, List.set_cons_zero]
            refine wpAnyF_takeD (i := 1) (oi := _) (v := ?vv5) (some 36) rfl rfl (by kernel_rfl) (by kernel_rfl) (by kernel_rfl) (by kernel_rfl) (by kernel_rfl) (fun _ _ _ h => h) (Or.inl ⟨by rfl, ?yy5⟩) hSd ?rr5
            case yy5 => (intro wq hSq; obtain ⟨_, _, _, _⟩ := hSq; go_simp <;> with_reducible rfl)
            simp only [Act.put, List.setIfInBounds_toArray, List.set_cons_succ, List.set_cons_zero]
            refine wpAnyF_one (i := 5) (o := _) (by kernel_rfl) rfl (fun K' hK => ?_)
            rw [if_pos (by rfl)]
            go_simp
            refine (HAT.out _ hWd).mono ?_
            rintro e V0 ⟨rfl, hb0⟩
            have hB0 : Below R.heap.size R V0 := hWd.trans (hb0.mono hWd.size)
            have hSd := HS.out _ hB0
            refine hK.out _ _ hSd ?_
            clear hK
            try simp only [Act.put]
            refine wpAnyF_one (i := 6) (o := _) (by kernel_rfl) rfl (fun K' hK => ?_)
            rw [if_pos (by rfl)]
            go_simp
            have hBs : Below R.heap.size R (V0.alloc (Obj.cells #[.int .i64 y] 3)) := hB0.alloc hB0.size _
            have hSd := HS.out _ hBs
            refine hK.out _ _ hSd ?_
            clear hK
            try simp only [Act.put]
            refine wpAnyF_one (i := 7) (o := _) (by kernel_rfl) rfl (fun K' hK => ?_)
            refine step_append_lies _ rfl _ _ 22 rfl w.heap.size 3 i0 (.int .i64 0) 1 8 Try.underlying22 hi hz0 hz1 hz2 rfl (by decide) (.slice so k scap) k XS rfl ((ownsRow_below j2 hB0).alloc _) ⟨V0.heap.size, 0, none⟩ 1 1 [.int .i64 y] rfl rfl (World.news_of_block (al1 V0 _)) (fun u hu => by simp at hu; subst hu; rfl) Nat.one_pos HL1.out HL2.out (Nat.le_trans hbW hBs.size) _ rfl ?_
            intro gg cap w3 hown hgrow hat hltg
            obtain ⟨hSx, p2f, HFIN⟩ := HTL.out _ gg cap w3 hBs hgrow hown
            have hSd := hSx
            refine hK.out _ _ hSd ?_
            clear hK
            try simp only [Act.put]
            refine wpAnyF_take (i := 8) (oi := _) (v := ?vv6) rfl (by kernel_rfl) (by kernel_rfl) (by kernel_rfl) (by kernel_rfl) (by kernel_rfl) (fun _ _ _ h => h) (Or.inl ⟨by rfl, ?yy6⟩) hSd ?rr6
            case yy6 => (intro wq hSq; obtain ⟨_, _, _, _⟩ := hSq; go_simp <;> with_reducible rfl)
            try simp only [Act.put]
            refine wpAnyF_last (o := _) (by kernel_rfl) rfl (fun K' hK => ?_)
            rw [if_pos (by rfl)]
            go_simp
            refine hK.out _ _ ?_
            clear hK
            refine wpAnyF_done (by kernel_rfl) ?_ _
            try simp only [Act.put]
            go_wp2
            go_roundw
            case rel => exact ⟨X + 1, by omega, by go_num, by rw [show M + (X + 1) = k + 1 by have := HK.out; omega]; exact HFIN⟩
            case measure => simp [intOf]; omega
          · have hg2 : goodB ls ((X : Nat), (Y : Nat)) = false := by simpa using hg
            rw [hg2]
            rw [if_neg hg] at HT
            clear j1 j2 j3 j4 j5
            go_wp2_with fail
            clear q0 q1 q2 hdx
            go_loopw [8, 9, 10] (fun s n i wv => ∃ (b : Nat) (vb : Int), b ≤ 5 ∧ Hid (vb = (Y : Int) - 2 + (b : Nat)) ∧ s = .int .i64 (rpS zs W H ls X Y (cOf (5 * b))).1 ∧ n = .int .i64 ((rpS zs W H ls X Y (cOf (5 * b))).2 : Nat) ∧ i = .int .i64 vb ∧ Below R.heap.size R wv) (fun _ _ i _ => ((Y : Int) + 3 - intOf i).toNat)
            case atStart => exact ⟨0, (Y : Int) - 2, by omega, hide (by simp), rfl, rfl, rfl, Below.refl _ _⟩
            case round =>
              obtain ⟨b, vb, hb5, HVB, rfl, rfl, rfl, hbv⟩ := hrel
              have hvb0 : -2 ≤ vb ∧ vb ≤ 67 := by have := HVB.out; omega
              obtain ⟨hvb0, hvb1⟩ := hvb0
              by_cases hlb5 : b < 5
              · have hdv : decide (vb ≤ (Y : Int) + 2) = true := by have := HVB.out; simp; omega
                go_wp2_with fail
                go_loopw [8, 9, 11] (fun s n i wv => ∃ (a : Nat) (ua : Int), a ≤ 5 ∧ Hid (ua = (X : Int) - 2 + (a : Nat)) ∧ s = .int .i64 (rpS zs W H ls X Y (cOf (5 * b + a))).1 ∧ n = .int .i64 ((rpS zs W H ls X Y (cOf (5 * b + a))).2 : Nat) ∧ i = .int .i64 ua ∧ Below R.heap.size R wv) (fun _ _ i _ => ((X : Int) + 3 - intOf i).toNat)
                case atStart => exact ⟨0, (X : Int) - 2, by omega, hide (by simp), rfl, rfl, rfl, hbv⟩
                case round =>
                  clear hbv hdv
                  obtain ⟨a, ua, ha5, HUA, rfl, rfl, rfl, hbv⟩ := hrel
                  obtain ⟨so2, scap2, x1, x2, j3, x3, x4⟩ := HJ0.out.below hbv
                  obtain ⟨q0, q1, q2⟩ := cells3 j3
                  clear j3 x1 x2 x3 x4 so2 scap2
                  have hua0 : -2 ≤ ua ∧ ua ≤ 67 := by have := HUA.out; omega
                  obtain ⟨hua0, hua1⟩ := hua0
                  have hro := rpS_ok HZS.out W H ls X Y (cOf (5 * b + a)) (cOf_le _)
                  have HNX := hide (show ∀ c, c < 4 → cOf (5 * b + a) = c → cOf (5 * b + (a + 1)) = c + 1 → ua = (X : Int) + crDx c → vb = (Y : Int) + crDy c → (rpS zs W H ls X Y (cOf (5 * b + (a + 1)))) = if hasB W H ua vb = true ∧ goodB ls (ua, vb) = true then ((rpS zs W H ls X Y (cOf (5 * b + a))).1 + zAt zs (vb.toNat * W + ua.toNat), (rpS zs W H ls X Y (cOf (5 * b + a))).2 + 1) else (rpS zs W H ls X Y (cOf (5 * b + a))) from fun c hc h1 h2 h3 h4 => by rw [h2, h1]; exact rpS_step zs W H ls X Y c hc ua vb h3 h4)
                  have HSM := hide (show 5 * b + a ≠ 2 ∧ 5 * b + a ≠ 10 ∧ 5 * b + a ≠ 14 ∧ 5 * b + a ≠ 22 → (rpS zs W H ls X Y (cOf (5 * b + (a + 1)))) = (rpS zs W H ls X Y (cOf (5 * b + a))) from fun h => by rw [show 5 * b + (a + 1) = 5 * b + a + 1 from rfl, cOf_same _ h])
                  by_cases hla5 : a < 5
                  · have hdu : decide (ua ≤ (X : Int) + 2) = true := by have := HUA.out; simp; omega
                    obtain ⟨sn, hsn⟩ : ∃ sn, (rpS zs W H ls X Y (cOf (5 * b + (a + 1)))) = sn := ⟨_, rfl⟩
                    obtain ⟨st, hst⟩ : ∃ st, (rpS zs W H ls X Y (cOf (5 * b + a))) = st := ⟨_, rfl⟩
                    rw [hsn, hst] at HNX HSM
                    rw [hst] at hro ⊢
                    obtain ⟨sm, nn⟩ := st
                    simp only at hro HNX HSM ⊢
                    obtain ⟨hr1, hr2, hr3⟩ := hro
                    have HSN := hide hsn
                    clear hsn hst
                    have HUN := hide (show ua + 1 = (X : Int) - 2 + ((a + 1 : Nat) : Int) by have := HUA.out; omega)
                    have hms : ((X : Int) + 3 - (ua + 1)).toNat < ((X : Int) + 3 - ua).toNat := by have := HUA.out; omega
                    have hzr : ∀ j, 0 ≤ zAt zs j ∧ zAt zs j ≤ 65535 := fun j => zAt_ok HZS.out j
                    have HZR := hide hzr
                    clear hzr
                    have hcas : (a = 2 ∧ b = 0) ∨ (a = 2 ∧ b = 4) ∨ (a = 2 ∧ b = 2) ∨ (a = 2 ∧ b ≠ 0 ∧ b ≠ 2 ∧ b ≠ 4) ∨ (a = 0 ∧ b = 2) ∨ (a = 4 ∧ b = 2) ∨ ((a = 1 ∨ a = 3) ∧ b = 2) ∨ (a ≠ 2 ∧ b ≠ 2) := by omega
                    rcases hcas with hcs | hcs | hcs | hcs | hcs | hcs | hcs | hcs
                    · skip
                      obtain rfl : a = 2 := by omega
                      obtain rfl : b = 0 := by omega
                      have hq0 : (ua == (X : Int)) = true := by have := HUA.out; have := HVB.out; simp; omega
                      have hq1 : (vb == (Y : Int) - 2) = true := by have := HUA.out; have := HVB.out; simp; omega
                      have HN1 := hide (HNX.out 0 (by omega) (by decide) (by decide) (by have := HUA.out; simp [crDx]; omega) (by have := HVB.out; simp [crDy]; omega))
                      by_cases hu : 0 ≤ ua ∧ ua ≤ (W : Int) - 1
                      · have hud : decide (0 ≤ ua ∧ ua ≤ (W : Int) - 1) = true := by simpa using hu
                        by_cases hv : 0 ≤ vb ∧ vb ≤ (H : Int) - 1
                        · have hvd : decide (0 ≤ vb ∧ vb ≤ (H : Int) - 1) = true := by simpa using hv
                          have hhas : hasB W H ua vb = true := by simp [hasB]; omega
                          by_cases hgd : goodB ls (ua, vb) = true
                          · have he : sn = (sm + zAt zs (vb.toNat * W + ua.toNat), nn + 1) := by rw [HN1.out, if_pos ⟨hhas, hgd⟩]
                            obtain ⟨UN, hUN⟩ := Int.eq_ofNat_of_zero_le hu.1
                            obtain ⟨VN, hVN⟩ := Int.eq_ofNat_of_zero_le hv.1
                            have hkl : VN * W + UN < zs.length := by
                              have h1 : (VN + 1) * W ≤ H * W := Nat.mul_le_mul_right _ (by omega)
                              rw [Nat.succ_mul] at h1
                              rw [HLEN.out]; omega
                            rw [show vb.toNat * W + ua.toNat = VN * W + UN by rw [hUN, hVN]; rfl] at he
                            obtain ⟨K1, hK1⟩ : ∃ K1, VN * W + UN = K1 := ⟨_, rfl⟩
                            rw [hK1] at hkl he
                            have HAT := hide (fun (u : World) (hu : Below R.heap.size R u) => at_any W H (.slice ao zs.length ca) zs ua vb UN VN W K1 u (HV.out.below (HBR.out.trans (hu.mono HBR.out.size)) (Nat.le_refl _)) rfl hUN hVN hK1 hkl hlb)
                            rw [show zs.getD K1 0 = zAt zs K1 from rfl] at HAT
                            have hzr := HZR.out K1
                            obtain ⟨z, hz⟩ : ∃ z, zAt zs K1 = z := ⟨_, rfl⟩
                            rw [hz] at he HAT hzr
                            obtain ⟨hz1, hz2⟩ := hzr
                            subst he
                            have HKP := hide HSN.out
                            have hws : IntKind.i64.wrap (sm + z) = sm + z := IntWalk.i64_in _ (by omega)
                            clear hz hK1 hUN hVN hu hv
                            go_wp2_with (first | (go_at_call 59; refine (within_any _ _ _ _).mono ?_; rintro e wx ⟨rfl, rfl⟩; first | rw [hud] | rw [hvd]) | (go_at_call 116; refine (HISP.out _ _ _ hbv).mono ?_; rintro e wx ⟨rfl, rfl⟩; rw [hgd]) | (go_at_call 71; refine (HAT.out _ hbv).mono ?_; rintro e wx ⟨rfl, hbx⟩))
                            go_roundw
                            case rel => exact ⟨_, _, by omega, HUN, by rw [HKP.out], by rw [HKP.out]; rfl, rfl, hbv.trans (hbx.mono hbv.size)⟩
                            case measure => simpa [intOf] using hms
                          · have hgd : goodB ls (ua, vb) = false := by simpa using hgd
                            have he : sn = (sm, nn) := by rw [HN1.out, if_neg (fun h => by rw [hgd] at h; exact absurd h.2 (by decide))]
                            subst he
                            have HKP := hide HSN.out
                            go_wp2_with (first | (go_at_call 59; refine (within_any _ _ _ _).mono ?_; rintro e wx ⟨rfl, rfl⟩; first | rw [hud] | rw [hvd]) | (go_at_call 116; refine (HISP.out _ _ _ hbv).mono ?_; rintro e wx ⟨rfl, rfl⟩; rw [hgd]))
                            go_roundw
                            case rel => exact ⟨_, _, by omega, HUN, by rw [HKP.out], by rw [HKP.out], rfl, hbv⟩
                            case measure => simpa [intOf] using hms
                        · have hvd : decide (0 ≤ vb ∧ vb ≤ (H : Int) - 1) = false := by simpa using hv
                          have he : sn = (sm, nn) := by rw [HN1.out, if_neg (fun h => hv (by have := h.1; simp [hasB] at this; omega))]
                          subst he
                          have HKP := hide HSN.out
                          go_wp2_with (first | (go_at_call 59; refine (within_any _ _ _ _).mono ?_; rintro e wx ⟨rfl, rfl⟩; first | rw [hud] | rw [hvd]))
                          go_roundw
                          case rel => exact ⟨_, _, by omega, HUN, by rw [HKP.out], by rw [HKP.out], rfl, hbv⟩
                          case measure => simpa [intOf] using hms
                      · have hud : decide (0 ≤ ua ∧ ua ≤ (W : Int) - 1) = false := by simpa using hu
                        have he : sn = (sm, nn) := by rw [HN1.out, if_neg (fun h => hu (by have := h.1; simp [hasB] at this; omega))]
                        subst he
                        have HKP := hide HSN.out
                        go_wp2_with (first | (go_at_call 59; refine (within_any _ _ _ _).mono ?_; rintro e wx ⟨rfl, rfl⟩; rw [hud]))
                        go_roundw
                        case rel => exact ⟨_, _, by omega, HUN, by rw [HKP.out], by rw [HKP.out], rfl, hbv⟩
                        case measure => simpa [intOf] using hms
                    · skip
                      obtain rfl : a = 2 := by omega
                      obtain rfl : b = 4 := by omega
                      have hq0 : (ua == (X : Int)) = true := by have := HUA.out; have := HVB.out; simp; omega
                      have hq1 : (vb == (Y : Int) - 2) = false := by have := HUA.out; have := HVB.out; simp; omega
                      have hq2 : (vb == (Y : Int) + 2) = true := by have := HUA.out; have := HVB.out; simp; omega
                      have HN1 := hide (HNX.out 3 (by omega) (by decide) (by decide) (by have := HUA.out; simp [crDx]; omega) (by have := HVB.out; simp [crDy]; omega))
                      by_cases hu : 0 ≤ ua ∧ ua ≤ (W : Int) - 1
                      · have hud : decide (0 ≤ ua ∧ ua ≤ (W : Int) - 1) = true := by simpa using hu
                        by_cases hv : 0 ≤ vb ∧ vb ≤ (H : Int) - 1
                        · have hvd : decide (0 ≤ vb ∧ vb ≤ (H : Int) - 1) = true := by simpa using hv
                          have hhas : hasB W H ua vb = true := by simp [hasB]; omega
                          by_cases hgd : goodB ls (ua, vb) = true
                          · have he : sn = (sm + zAt zs (vb.toNat * W + ua.toNat), nn + 1) := by rw [HN1.out, if_pos ⟨hhas, hgd⟩]
                            obtain ⟨UN, hUN⟩ := Int.eq_ofNat_of_zero_le hu.1
                            obtain ⟨VN, hVN⟩ := Int.eq_ofNat_of_zero_le hv.1
                            have hkl : VN * W + UN < zs.length := by
                              have h1 : (VN + 1) * W ≤ H * W := Nat.mul_le_mul_right _ (by omega)
                              rw [Nat.succ_mul] at h1
                              rw [HLEN.out]; omega
                            rw [show vb.toNat * W + ua.toNat = VN * W + UN by rw [hUN, hVN]; rfl] at he
                            obtain ⟨K1, hK1⟩ : ∃ K1, VN * W + UN = K1 := ⟨_, rfl⟩
                            rw [hK1] at hkl he
                            have HAT := hide (fun (u : World) (hu : Below R.heap.size R u) => at_any W H (.slice ao zs.length ca) zs ua vb UN VN W K1 u (HV.out.below (HBR.out.trans (hu.mono HBR.out.size)) (Nat.le_refl _)) rfl hUN hVN hK1 hkl hlb)
                            rw [show zs.getD K1 0 = zAt zs K1 from rfl] at HAT
                            have hzr := HZR.out K1
                            obtain ⟨z, hz⟩ : ∃ z, zAt zs K1 = z := ⟨_, rfl⟩
                            rw [hz] at he HAT hzr
                            obtain ⟨hz1, hz2⟩ := hzr
                            subst he
                            have HKP := hide HSN.out
                            have hws : IntKind.i64.wrap (sm + z) = sm + z := IntWalk.i64_in _ (by omega)
                            clear hz hK1 hUN hVN hu hv
                            go_wp2_with (first | (go_at_call 59; refine (within_any _ _ _ _).mono ?_; rintro e wx ⟨rfl, rfl⟩; first | rw [hud] | rw [hvd]) | (go_at_call 116; refine (HISP.out _ _ _ hbv).mono ?_; rintro e wx ⟨rfl, rfl⟩; rw [hgd]) | (go_at_call 71; refine (HAT.out _ hbv).mono ?_; rintro e wx ⟨rfl, hbx⟩))
                            go_roundw
                            case rel => exact ⟨_, _, by omega, HUN, by rw [HKP.out], by rw [HKP.out]; rfl, rfl, hbv.trans (hbx.mono hbv.size)⟩
                            case measure => simpa [intOf] using hms
                          · have hgd : goodB ls (ua, vb) = false := by simpa using hgd
                            have he : sn = (sm, nn) := by rw [HN1.out, if_neg (fun h => by rw [hgd] at h; exact absurd h.2 (by decide))]
                            subst he
                            have HKP := hide HSN.out
                            go_wp2_with (first | (go_at_call 59; refine (within_any _ _ _ _).mono ?_; rintro e wx ⟨rfl, rfl⟩; first | rw [hud] | rw [hvd]) | (go_at_call 116; refine (HISP.out _ _ _ hbv).mono ?_; rintro e wx ⟨rfl, rfl⟩; rw [hgd]))
                            go_roundw
                            case rel => exact ⟨_, _, by omega, HUN, by rw [HKP.out], by rw [HKP.out], rfl, hbv⟩
                            case measure => simpa [intOf] using hms
                        · have hvd : decide (0 ≤ vb ∧ vb ≤ (H : Int) - 1) = false := by simpa using hv
                          have he : sn = (sm, nn) := by rw [HN1.out, if_neg (fun h => hv (by have := h.1; simp [hasB] at this; omega))]
                          subst he
                          have HKP := hide HSN.out
                          go_wp2_with (first | (go_at_call 59; refine (within_any _ _ _ _).mono ?_; rintro e wx ⟨rfl, rfl⟩; first | rw [hud] | rw [hvd]))
                          go_roundw
                          case rel => exact ⟨_, _, by omega, HUN, by rw [HKP.out], by rw [HKP.out], rfl, hbv⟩
                          case measure => simpa [intOf] using hms
                      · have hud : decide (0 ≤ ua ∧ ua ≤ (W : Int) - 1) = false := by simpa using hu
                        have he : sn = (sm, nn) := by rw [HN1.out, if_neg (fun h => hu (by have := h.1; simp [hasB] at this; omega))]
                        subst he
                        have HKP := hide HSN.out
                        go_wp2_with (first | (go_at_call 59; refine (within_any _ _ _ _).mono ?_; rintro e wx ⟨rfl, rfl⟩; rw [hud]))
                        go_roundw
                        case rel => exact ⟨_, _, by omega, HUN, by rw [HKP.out], by rw [HKP.out], rfl, hbv⟩
                        case measure => simpa [intOf] using hms
                    · skip
                      have hq0 : (ua == (X : Int)) = true := by have := HUA.out; have := HVB.out; simp; omega
                      have hq1 : (vb == (Y : Int) - 2) = false := by have := HUA.out; have := HVB.out; simp; omega
                      have hq2 : (vb == (Y : Int) + 2) = false := by have := HUA.out; have := HVB.out; simp; omega
                      have hq3 : (vb == (Y : Int)) = true := by have := HUA.out; have := HVB.out; simp; omega
                      have hq4 : (ua == (X : Int) - 2) = false := by have := HUA.out; have := HVB.out; simp; omega
                      have hq5 : (ua == (X : Int) + 2) = false := by have := HUA.out; have := HVB.out; simp; omega
                      have he : sn = (sm, nn) := HSM.out (by have := HUA.out; have := HVB.out; omega)
                      subst he
                      have HKP := hide HSN.out
                      go_wp2
                      go_roundw
                      case rel => exact ⟨a + 1, _, by omega, HUN, by rw [HKP.out], by rw [HKP.out], rfl, hbv⟩
                      case measure => simpa [intOf] using hms
                    · skip
                      have hq0 : (ua == (X : Int)) = true := by have := HUA.out; have := HVB.out; simp; omega
                      have hq1 : (vb == (Y : Int) - 2) = false := by have := HUA.out; have := HVB.out; simp; omega
                      have hq2 : (vb == (Y : Int) + 2) = false := by have := HUA.out; have := HVB.out; simp; omega
                      have hq3 : (vb == (Y : Int)) = false := by have := HUA.out; have := HVB.out; simp; omega
                      have he : sn = (sm, nn) := HSM.out (by have := HUA.out; have := HVB.out; omega)
                      subst he
                      have HKP := hide HSN.out
                      go_wp2
                      go_roundw
                      case rel => exact ⟨a + 1, _, by omega, HUN, by rw [HKP.out], by rw [HKP.out], rfl, hbv⟩
                      case measure => simpa [intOf] using hms
                    · skip
                      obtain rfl : a = 0 := by omega
                      obtain rfl : b = 2 := by omega
                      have hq0 : (ua == (X : Int)) = false := by have := HUA.out; have := HVB.out; simp; omega
                      have hq1 : (vb == (Y : Int)) = true := by have := HUA.out; have := HVB.out; simp; omega
                      have hq2 : (ua == (X : Int) - 2) = true := by have := HUA.out; have := HVB.out; simp; omega
                      have HN1 := hide (HNX.out 1 (by omega) (by decide) (by decide) (by have := HUA.out; simp [crDx]; omega) (by have := HVB.out; simp [crDy]; omega))
                      by_cases hu : 0 ≤ ua ∧ ua ≤ (W : Int) - 1
                      · have hud : decide (0 ≤ ua ∧ ua ≤ (W : Int) - 1) = true := by simpa using hu
                        by_cases hv : 0 ≤ vb ∧ vb ≤ (H : Int) - 1
                        · have hvd : decide (0 ≤ vb ∧ vb ≤ (H : Int) - 1) = true := by simpa using hv
                          have hhas : hasB W H ua vb = true := by simp [hasB]; omega
                          by_cases hgd : goodB ls (ua, vb) = true
                          · have he : sn = (sm + zAt zs (vb.toNat * W + ua.toNat), nn + 1) := by rw [HN1.out, if_pos ⟨hhas, hgd⟩]
                            obtain ⟨UN, hUN⟩ := Int.eq_ofNat_of_zero_le hu.1
                            obtain ⟨VN, hVN⟩ := Int.eq_ofNat_of_zero_le hv.1
                            have hkl : VN * W + UN < zs.length := by
                              have h1 : (VN + 1) * W ≤ H * W := Nat.mul_le_mul_right _ (by omega)
                              rw [Nat.succ_mul] at h1
                              rw [HLEN.out]; omega
                            rw [show vb.toNat * W + ua.toNat = VN * W + UN by rw [hUN, hVN]; rfl] at he
                            obtain ⟨K1, hK1⟩ : ∃ K1, VN * W + UN = K1 := ⟨_, rfl⟩
                            rw [hK1] at hkl he
                            have HAT := hide (fun (u : World) (hu : Below R.heap.size R u) => at_any W H (.slice ao zs.length ca) zs ua vb UN VN W K1 u (HV.out.below (HBR.out.trans (hu.mono HBR.out.size)) (Nat.le_refl _)) rfl hUN hVN hK1 hkl hlb)
                            rw [show zs.getD K1 0 = zAt zs K1 from rfl] at HAT
                            have hzr := HZR.out K1
                            obtain ⟨z, hz⟩ : ∃ z, zAt zs K1 = z := ⟨_, rfl⟩
                            rw [hz] at he HAT hzr
                            obtain ⟨hz1, hz2⟩ := hzr
                            subst he
                            have HKP := hide HSN.out
                            have hws : IntKind.i64.wrap (sm + z) = sm + z := IntWalk.i64_in _ (by omega)
                            clear hz hK1 hUN hVN hu hv
                            go_wp2_with (first | (go_at_call 59; refine (within_any _ _ _ _).mono ?_; rintro e wx ⟨rfl, rfl⟩; first | rw [hud] | rw [hvd]) | (go_at_call 116; refine (HISP.out _ _ _ hbv).mono ?_; rintro e wx ⟨rfl, rfl⟩; rw [hgd]) | (go_at_call 71; refine (HAT.out _ hbv).mono ?_; rintro e wx ⟨rfl, hbx⟩))
                            go_roundw
                            case rel => exact ⟨_, _, by omega, HUN, by rw [HKP.out], by rw [HKP.out]; rfl, rfl, hbv.trans (hbx.mono hbv.size)⟩
                            case measure => simpa [intOf] using hms
                          · have hgd : goodB ls (ua, vb) = false := by simpa using hgd
                            have he : sn = (sm, nn) := by rw [HN1.out, if_neg (fun h => by rw [hgd] at h; exact absurd h.2 (by decide))]
                            subst he
                            have HKP := hide HSN.out
                            go_wp2_with (first | (go_at_call 59; refine (within_any _ _ _ _).mono ?_; rintro e wx ⟨rfl, rfl⟩; first | rw [hud] | rw [hvd]) | (go_at_call 116; refine (HISP.out _ _ _ hbv).mono ?_; rintro e wx ⟨rfl, rfl⟩; rw [hgd]))
                            go_roundw
                            case rel => exact ⟨_, _, by omega, HUN, by rw [HKP.out], by rw [HKP.out], rfl, hbv⟩
                            case measure => simpa [intOf] using hms
                        · have hvd : decide (0 ≤ vb ∧ vb ≤ (H : Int) - 1) = false := by simpa using hv
                          have he : sn = (sm, nn) := by rw [HN1.out, if_neg (fun h => hv (by have := h.1; simp [hasB] at this; omega))]
                          subst he
                          have HKP := hide HSN.out
                          go_wp2_with (first | (go_at_call 59; refine (within_any _ _ _ _).mono ?_; rintro e wx ⟨rfl, rfl⟩; first | rw [hud] | rw [hvd]))
                          go_roundw
                          case rel => exact ⟨_, _, by omega, HUN, by rw [HKP.out], by rw [HKP.out], rfl, hbv⟩
                          case measure => simpa [intOf] using hms
                      · have hud : decide (0 ≤ ua ∧ ua ≤ (W : Int) - 1) = false := by simpa using hu
                        have he : sn = (sm, nn) := by rw [HN1.out, if_neg (fun h => hu (by have := h.1; simp [hasB] at this; omega))]
                        subst he
                        have HKP := hide HSN.out
                        go_wp2_with (first | (go_at_call 59; refine (within_any _ _ _ _).mono ?_; rintro e wx ⟨rfl, rfl⟩; rw [hud]))
                        go_roundw
                        case rel => exact ⟨_, _, by omega, HUN, by rw [HKP.out], by rw [HKP.out], rfl, hbv⟩
                        case measure => simpa [intOf] using hms
                    · skip
                      obtain rfl : a = 4 := by omega
                      obtain rfl : b = 2 := by omega
                      have hq0 : (ua == (X : Int)) = false := by have := HUA.out; have := HVB.out; simp; omega
                      have hq1 : (vb == (Y : Int)) = true := by have := HUA.out; have := HVB.out; simp; omega
                      have hq2 : (ua == (X : Int) - 2) = false := by have := HUA.out; have := HVB.out; simp; omega
                      have hq3 : (ua == (X : Int) + 2) = true := by have := HUA.out; have := HVB.out; simp; omega
                      have HN1 := hide (HNX.out 2 (by omega) (by decide) (by decide) (by have := HUA.out; simp [crDx]; omega) (by have := HVB.out; simp [crDy]; omega))
                      by_cases hu : 0 ≤ ua ∧ ua ≤ (W : Int) - 1
                      · have hud : decide (0 ≤ ua ∧ ua ≤ (W : Int) - 1) = true := by simpa using hu
                        by_cases hv : 0 ≤ vb ∧ vb ≤ (H : Int) - 1
                        · have hvd : decide (0 ≤ vb ∧ vb ≤ (H : Int) - 1) = true := by simpa using hv
                          have hhas : hasB W H ua vb = true := by simp [hasB]; omega
                          by_cases hgd : goodB ls (ua, vb) = true
                          · have he : sn = (sm + zAt zs (vb.toNat * W + ua.toNat), nn + 1) := by rw [HN1.out, if_pos ⟨hhas, hgd⟩]
                            obtain ⟨UN, hUN⟩ := Int.eq_ofNat_of_zero_le hu.1
                            obtain ⟨VN, hVN⟩ := Int.eq_ofNat_of_zero_le hv.1
                            have hkl : VN * W + UN < zs.length := by
                              have h1 : (VN + 1) * W ≤ H * W := Nat.mul_le_mul_right _ (by omega)
                              rw [Nat.succ_mul] at h1
                              rw [HLEN.out]; omega
                            rw [show vb.toNat * W + ua.toNat = VN * W + UN by rw [hUN, hVN]; rfl] at he
                            obtain ⟨K1, hK1⟩ : ∃ K1, VN * W + UN = K1 := ⟨_, rfl⟩
                            rw [hK1] at hkl he
                            have HAT := hide (fun (u : World) (hu : Below R.heap.size R u) => at_any W H (.slice ao zs.length ca) zs ua vb UN VN W K1 u (HV.out.below (HBR.out.trans (hu.mono HBR.out.size)) (Nat.le_refl _)) rfl hUN hVN hK1 hkl hlb)
                            rw [show zs.getD K1 0 = zAt zs K1 from rfl] at HAT
                            have hzr := HZR.out K1
                            obtain ⟨z, hz⟩ : ∃ z, zAt zs K1 = z := ⟨_, rfl⟩
                            rw [hz] at he HAT hzr
                            obtain ⟨hz1, hz2⟩ := hzr
                            subst he
                            have HKP := hide HSN.out
                            have hws : IntKind.i64.wrap (sm + z) = sm + z := IntWalk.i64_in _ (by omega)
                            clear hz hK1 hUN hVN hu hv
                            go_wp2_with (first | (go_at_call 59; refine (within_any _ _ _ _).mono ?_; rintro e wx ⟨rfl, rfl⟩; first | rw [hud] | rw [hvd]) | (go_at_call 116; refine (HISP.out _ _ _ hbv).mono ?_; rintro e wx ⟨rfl, rfl⟩; rw [hgd]) | (go_at_call 71; refine (HAT.out _ hbv).mono ?_; rintro e wx ⟨rfl, hbx⟩))
                            go_roundw
                            case rel => exact ⟨_, _, by omega, HUN, by rw [HKP.out], by rw [HKP.out]; rfl, rfl, hbv.trans (hbx.mono hbv.size)⟩
                            case measure => simpa [intOf] using hms
                          · have hgd : goodB ls (ua, vb) = false := by simpa using hgd
                            have he : sn = (sm, nn) := by rw [HN1.out, if_neg (fun h => by rw [hgd] at h; exact absurd h.2 (by decide))]
                            subst he
                            have HKP := hide HSN.out
                            go_wp2_with (first | (go_at_call 59; refine (within_any _ _ _ _).mono ?_; rintro e wx ⟨rfl, rfl⟩; first | rw [hud] | rw [hvd]) | (go_at_call 116; refine (HISP.out _ _ _ hbv).mono ?_; rintro e wx ⟨rfl, rfl⟩; rw [hgd]))
                            go_roundw
                            case rel => exact ⟨_, _, by omega, HUN, by rw [HKP.out], by rw [HKP.out], rfl, hbv⟩
                            case measure => simpa [intOf] using hms
                        · have hvd : decide (0 ≤ vb ∧ vb ≤ (H : Int) - 1) = false := by simpa using hv
                          have he : sn = (sm, nn) := by rw [HN1.out, if_neg (fun h => hv (by have := h.1; simp [hasB] at this; omega))]
                          subst he
                          have HKP := hide HSN.out
                          go_wp2_with (first | (go_at_call 59; refine (within_any _ _ _ _).mono ?_; rintro e wx ⟨rfl, rfl⟩; first | rw [hud] | rw [hvd]))
                          go_roundw
                          case rel => exact ⟨_, _, by omega, HUN, by rw [HKP.out], by rw [HKP.out], rfl, hbv⟩
                          case measure => simpa [intOf] using hms
                      · have hud : decide (0 ≤ ua ∧ ua ≤ (W : Int) - 1) = false := by simpa using hu
                        have he : sn = (sm, nn) := by rw [HN1.out, if_neg (fun h => hu (by have := h.1; simp [hasB] at this; omega))]
                        subst he
                        have HKP := hide HSN.out
                        go_wp2_with (first | (go_at_call 59; refine (within_any _ _ _ _).mono ?_; rintro e wx ⟨rfl, rfl⟩; rw [hud]))
                        go_roundw
                        case rel => exact ⟨_, _, by omega, HUN, by rw [HKP.out], by rw [HKP.out], rfl, hbv⟩
                        case measure => simpa [intOf] using hms
                    · skip
                      have hq0 : (ua == (X : Int)) = false := by have := HUA.out; have := HVB.out; simp; omega
                      have hq1 : (vb == (Y : Int)) = true := by have := HUA.out; have := HVB.out; simp; omega
                      have hq2 : (ua == (X : Int) - 2) = false := by have := HUA.out; have := HVB.out; simp; omega
                      have hq3 : (ua == (X : Int) + 2) = false := by have := HUA.out; have := HVB.out; simp; omega
                      have he : sn = (sm, nn) := HSM.out (by have := HUA.out; have := HVB.out; omega)
                      subst he
                      have HKP := hide HSN.out
                      go_wp2
                      go_roundw
                      case rel => exact ⟨a + 1, _, by omega, HUN, by rw [HKP.out], by rw [HKP.out], rfl, hbv⟩
                      case measure => simpa [intOf] using hms
                    · skip
                      have hq0 : (ua == (X : Int)) = false := by have := HUA.out; have := HVB.out; simp; omega
                      have hq1 : (vb == (Y : Int)) = false := by have := HUA.out; have := HVB.out; simp; omega
                      have he : sn = (sm, nn) := HSM.out (by have := HUA.out; have := HVB.out; omega)
                      subst he
                      have HKP := hide HSN.out
                      go_wp2
                      go_roundw
                      case rel => exact ⟨a + 1, _, by omega, HUN, by rw [HKP.out], by rw [HKP.out], rfl, hbv⟩
                      case measure => simpa [intOf] using hms
                  · have hdu : decide (ua ≤ (X : Int) + 2) = false := by have := HUA.out; simp; omega
                    obtain rfl : a = 5 := by omega
                    have HVN := hide (show vb + 1 = (Y : Int) - 2 + ((b + 1 : Nat) : Int) by have := HVB.out; omega)
                    have hms : ((Y : Int) + 3 - (vb + 1)).toNat < ((Y : Int) + 3 - vb).toNat := by have := HVB.out; omega
                    obtain ⟨st, hst⟩ : ∃ st, (rpS zs W H ls X Y (cOf (5 * b + 5))) = st := ⟨_, rfl⟩
                    have HKP := hide (show (rpS zs W H ls X Y (cOf (5 * (b + 1)))) = st from hst)
                    rw [hst]
                    clear hst HNX HSM hro
                    go_wp2
                    go_roundw
                    case rel => exact ⟨b + 1, _, by omega, HVN, by rw [HKP.out], by rw [HKP.out], rfl, hbv⟩
                    case measure => simpa [intOf] using hms
              · have hdv : decide (vb ≤ (Y : Int) + 2) = false := by have := HVB.out; simp; omega
                obtain rfl : b = 5 := by omega
                have HEN := hide (show ∀ mm : Int, mm = max ((rpS zs W H ls X Y (cOf (5 * 5))).2 : Int) 1 → repV zs W H ls k = (rpS zs W H ls X Y (cOf (5 * 5))).1.tdiv mm from fun mm hm => by rw [HT.out]; exact rpS_end HZS.out W H ls X Y mm hm)
                have hro := rpS_ok HZS.out W H ls X Y (cOf (5 * 5)) (cOf_le _)
                obtain ⟨st, hst⟩ : ∃ st, (rpS zs W H ls X Y (cOf (5 * 5))) = st := ⟨_, rfl⟩
                rw [hst] at HEN hro ⊢
                obtain ⟨sm, nn⟩ := st
                simp only at HEN hro ⊢
                obtain ⟨hr1, hr2, hr3⟩ := hro
                clear hst
                obtain ⟨mm, hmm⟩ : ∃ mm, (if (nn : Int) < 1 then 1 else (nn : Int)) = mm := ⟨_, rfl⟩
                have hmx : mm = max (nn : Int) 1 := by rw [← hmm]; split <;> omega
                have hm1 : 1 ≤ mm := by omega
                have hm0 : ¬ (mm = 0) := by omega
                have hmz : (mm == 0) = false := by rw [beq_eq_false_iff_ne]; omega
                have hq := Int.tdiv_eq_ediv_of_nonneg (b := mm) hr1
                have hq0 : 0 ≤ sm.tdiv mm := by rw [hq]; exact Int.ediv_nonneg hr1 (by omega)
                have hq1 : sm.tdiv mm ≤ sm := by rw [hq]; exact Int.ediv_le_self _ hr1
                have HYY := hide (HEN.out mm hmx)
                obtain ⟨y, hyy⟩ : ∃ y, sm.tdiv mm = y := ⟨_, rfl⟩
                rw [hyy] at HYY hq0 hq1
                have hwq : IntKind.i64.wrap y = y := IntWalk.i64_in _ (by omega)
                have HST := hide (HST1.out y HYY.out)
                obtain ⟨XS, hXS⟩ : ∃ XS, (L.take k).map (Value.int .i64) = XS := ⟨_, rfl⟩
                rw [hXS] at HST
                obtain ⟨so, scap, j1, j2, j3, j4, j5⟩ := HJ0.out.below hbv
                obtain ⟨q0, q1, q2⟩ := cells3 j3
                rw [hXS] at j2
                have hbW := j5.size
                clear hXS HST1 HT HEN hq hmx
                have HS := hide (show ∀ v, Below wr.heap.size wr v → v.cell? ⟨w.heap.size + 1 + 1, 2, none⟩ = some (.slice so k scap) ∧ v.cell? ⟨w.heap.size, 0, none⟩ = some (.int .i64 W) ∧ v.cell? ⟨w.heap.size, 1, none⟩ = some (.int .i64 H) ∧ v.cell? ⟨w.heap.size, 2, none⟩ = some (.slice ao zs.length ca) from fun v h => by
                  obtain ⟨_, _, t2⟩ := cells3 ((h.block (w.heap.size + 2) (Array.getElem?_eq_some_iff.1 j1).1).trans j1)
                  exact ⟨t2, cells3 ((h.block _ (Array.getElem?_eq_some_iff.1 j3).1).trans j3)⟩)
                have nq := own_ne j2 j3 (by decide)
                have HTL := hide (show ∀ (V1 : World) (gg cap : Nat) (w3 : World), Below wr.heap.size wr V1 → V1.grownBy w3 (Value.slice so k scap).ownBlock → w3.ownsRow w.heap.size 3 1 (.slice (some ⟨gg, 0, none⟩) (k + 1) cap) (k + 1) (XS ++ [.int .i64 y]) → (w3.cell? ⟨w.heap.size + 1 + 1, 2, none⟩ = some (.slice so k scap) ∧ w3.cell? ⟨w.heap.size, 0, none⟩ = some (.int .i64 W) ∧ w3.cell? ⟨w.heap.size, 1, none⟩ = some (.int .i64 H) ∧ w3.cell? ⟨w.heap.size, 2, none⟩ = some (.slice ao zs.length ca)) ∧ w3.frozen? ⟨w.heap.size + 1 + 1, 2, none⟩ = false ∧ RpJ w W H (.slice ao zs.length ca) L (k + 1) (w3.setCell ⟨w.heap.size + 1 + 1, 2, none⟩ (.slice (some ⟨gg, 0, none⟩) (k + 1) cap)) from fun V1 gg cap w3 h1 h2 h3 => by
                  obtain ⟨t1, t2, t3, t4, t5, t6, t7⟩ := app_gen (by decide) j1 j2 j5 (Nat.le_refl _) (by omega) h1 h2 h3
                  exact ⟨⟨t2, cells3 ((t1 _ (Array.getElem?_eq_some_iff.1 j3).1 nq).trans j3)⟩, t3, some ⟨gg, 0, none⟩, cap, t4, by rw [HST.out]; exact t5, (t7 _ (Array.getElem?_eq_some_iff.1 j3).1 nq (by omega)).trans j3, (t7 _ (Array.getElem?_eq_some_iff.1 j4).1 (own_ne j2 j4 (by decide)) (by omega)).trans j4, t6⟩)
                have hWd : Below wr.heap.size wr wr.drew := (Below.refl _ _).drew
                go_wp2_with fail
                have hSd := HS.out _ hWd
                clear q0 q1 q2 j1 j3 j4
                have hmx : Try.prog.follows .mixedOrders = true := by kernel_rfl
                refine wp_region_last (S := fun v : World => v.cell? ⟨w.heap.size + 1 + 1, 2, none⟩ = some (.slice so k scap) ∧ v.cell? ⟨w.heap.size, 0, none⟩ = some (.int .i64 W) ∧ v.cell? ⟨w.heap.size, 1, none⟩ = some (.int .i64 H) ∧ v.cell? ⟨w.heap.size, 2, none⟩ = some (.slice ao zs.length ca)) (f := 9) hmx ?_
                show wpAnyF _ _ _ _ _ _ 10 _ _ wr.drew
                refine wpAnyF_takeD (i := 0) (oi := _) (v := ?vv7) (some 122) rfl rfl (by kernel_rfl) (by kernel_rfl) (by kernel_rfl) (by kernel_rfl) (by kernel_rfl) (fun _ _ _ h => h) (Or.inl ⟨by rfl, ?yy7⟩) hSd ?rr7
                case yy7 => (intro wq hSq; obtain ⟨_, _, _, _⟩ := hSq; go_simp <;> with_reducible rfl)
                simp only [Act.put, List.setIfInBounds_toArray, List.set_cons_succ, List.set_cons_zero]
                refine wpAnyF_takeD (i := 2) (oi := _) (v := ?vv8) (some 124) rfl rfl (by kernel_rfl) (by kernel_rfl) (by kernel_rfl) (by kernel_rfl) (by kernel_rfl) (fun _ _ _ h => h) (Or.inl ⟨by rfl, ?yy8⟩) hSd ?rr8
                case yy8 => (intro wq hSq; obtain ⟨_, _, _, _⟩ := hSq; go_simp <;> with_reducible rfl)
                simp only [Act.put, List.setIfInBounds_toArray, List.set_cons_succ, List.set_cons_zero]
                refine wpAnyF_takeD (i := 3) (oi := _) (v := ?vv9) (some 125) rfl rfl (by kernel_rfl) (by kernel_rfl) (by kernel_rfl) (by kernel_rfl) (by kernel_rfl) (fun _ _ _ h => h) (Or.inl ⟨by rfl, ?yy9⟩) hSd ?rr9
                case yy9 => (intro wq hSq; obtain ⟨_, _, _, _⟩ := hSq; go_simp <;> with_reducible rfl)
                simp only [Act.put, List.setIfInBounds_toArray, List.set_cons_succ, List.set_cons_zero]
                refine wpAnyF_takeD (i := 1) (oi := _) (v := ?vv10) (some 123) rfl rfl (by kernel_rfl) (by kernel_rfl) (by kernel_rfl) (by kernel_rfl) (by kernel_rfl) (fun _ _ _ h => h) (Or.inl ⟨by rfl, ?yy10⟩) hSd ?rr10
                case yy10 => (intro wq hSq; obtain ⟨_, _, _, _⟩ := hSq; go_simp <;> with_reducible rfl)
                simp only [Act.put, List.setIfInBounds_toArray, List.set_cons_succ, List.set_cons_zero]
                refine wpAnyF_takeD (i := 4) (oi := _) (v := ?vv11) (some 126) rfl rfl (by kernel_rfl) (by kernel_rfl) (by kernel_rfl) (by kernel_rfl) (by kernel_rfl) (fun _ _ _ h => h) (Or.inl ⟨by rfl, ?yy11⟩) hSd ?rr11
                case yy11 => (intro wq hSq; obtain ⟨_, _, _, _⟩ := hSq; go_simp <;> with_reducible rfl)
                simp only [Act.put, List.setIfInBounds_toArray, List.set_cons_succ, List.set_cons_zero]
                refine wpAnyF_takeD (i := 5) (oi := _) (v := ?vv12) (some 127) rfl rfl (by kernel_rfl) (by kernel_rfl) (by kernel_rfl) (by kernel_rfl) (by kernel_rfl) (fun _ _ _ h => h) (Or.inl ⟨by rfl, ?yy12⟩) hSd ?rr12
                case yy12 => (intro wq hSq; obtain ⟨_, _, _, _⟩ := hSq; go_simp <;> with_reducible rfl)
                simp only [Act.put, List.setIfInBounds_toArray, List.set_cons_succ, List.set_cons_zero]
                refine wpAnyF_one (i := 6) (o := _) (by kernel_rfl) rfl (fun K' hK => ?_)
                rw [if_pos (by rfl)]
                go_simp
                have hBs : Below wr.heap.size wr (wr.drew.alloc (Obj.cells #[.int .i64 y] 3)) := hWd.alloc hWd.size _
                have hSd := HS.out _ hBs
                refine hK.out _ _ hSd ?_
                clear hK
                try simp only [Act.put]
                refine wpAnyF_one (i := 7) (o := _) (by kernel_rfl) rfl (fun K' hK => ?_)
                refine step_append_lies _ rfl _ _ 22 rfl w.heap.size 3 i0 (.int .i64 0) 1 8 Try.underlying22 hi hz0 hz1 hz2 rfl (by decide) (.slice so k scap) k XS rfl ((ownsRow_below j2 hWd).alloc _) ⟨wr.drew.heap.size, 0, none⟩ 1 1 [.int .i64 y] rfl rfl (World.news_of_block (al1 wr.drew _)) (fun u hu => by simp at hu; subst hu; rfl) Nat.one_pos HL1.out HL2.out (Nat.le_trans hbW hBs.size) _ rfl ?_
                intro gg cap w3 hown hgrow hat hltg
                obtain ⟨hSx, p2f, HFIN⟩ := HTL.out _ gg cap w3 hBs hgrow hown
                have hSd := hSx
                refine hK.out _ _ hSd ?_
                clear hK
                try simp only [Act.put]
                refine wpAnyF_take (i := 8) (oi := _) (v := ?vv13) rfl (by kernel_rfl) (by kernel_rfl) (by kernel_rfl) (by kernel_rfl) (by kernel_rfl) (fun _ _ _ h => h) (Or.inl ⟨by rfl, ?yy13⟩) hSd ?rr13
                case yy13 => (intro wq hSq; obtain ⟨_, _, _, _⟩ := hSq; go_simp <;> with_reducible rfl)
                try simp only [Act.put]
                refine wpAnyF_last (o := _) (by kernel_rfl) rfl (fun K' hK => ?_)
                rw [if_pos (by rfl)]
                go_simp
                refine hK.out _ _ ?_
                clear hK
                refine wpAnyF_done (by kernel_rfl) ?_ _
                try simp only [Act.put]
                go_wp2
                go_roundw
                case rel => exact ⟨X + 1, by omega, by go_num, by rw [show M + (X + 1) = k + 1 by have := HK.out; omega]; exact HFIN⟩
                case measure => simp [intOf]; omega
        · have hdx : decide ((X : Int) < (W : Int)) = false := by simp; omega
          obtain ⟨so, scap, j1, j2, j3, j4, j5⟩ := hJ
          obtain ⟨q0, q1, q2⟩ := cells3 j3
          have h3 : X = W := by omega
          subst h3
          have HJ1 := hide (show RpJ w X H (.slice ao zs.length ca) L ((Y + 1) * X) wr from ⟨so, scap, by rw [Nat.succ_mul, ← HM.out]; exact j1, by rw [Nat.succ_mul, ← HM.out]; exact j2, j3, j4, j5⟩)
          go_wp2
          go_roundw
          case rel => exact ⟨Y + 1, by omega, by go_num, HJ1.out⟩
          case measure => simp [intOf]; omega
    · have hd : decide ((Y : Int) < (H : Int)) = false := by simp; omega
      obtain rfl : Y = H := by omega
      rw [← HLEN.out] at j1 j2
      rw [List.take_of_length_le (by rw [HLL.out]; exact Nat.le_refl _)] at j2
      obtain ⟨p0, p1, p2⟩ := cells3 (b := w.heap.size + 1 + 1) j1
      obtain ⟨z0, z1, z2⟩ := cells3 j4
      have f0 := Lib.frozen_of_heap j4 0
      have f1 := Lib.frozen_of_heap j4 1
      have f2 := Lib.frozen_of_heap j4 2
      have HFI := hide (set3_below j5 (show w.heap.size ≤ w.heap.size + 1 by omega) (.int .i64 (W : Nat)) (.int .i64 (Y : Nat)) (.slice so zs.length scap))
      have hpx : IsInts wr (.slice so zs.length scap) L := IsInts.own (base := w.heap.size) (xs := L) (v := .slice so zs.length scap) (by rw [HLL.out]; exact j2) (by rw [HLL.out]; omega)
      have hne : (Value.slice so zs.length scap).ownBlock ≠ some (w.heap.size + 1) := fun e => own_ne j2 j4 (by decide) e.symm
      have HX := hide (hpx.other (set3_size wr (w.heap.size + 1) (.int .i64 (W : Nat)) (.int .i64 (Y : Nat)) (.slice so zs.length scap)) (fun b hb => set3_heap _ _ _ _ _ b hb) hne)
      have HF := hide (Fresh.own j2)
      clear hpx hne
      go_wp2
      exact bodyPost_ret (v := .agg #[.int .i64 (W : Nat), .int .i64 (Y : Nat), .slice so zs.length scap]) (by simp [results, Try.results91, go_sem, z0, z1, z2]) rfl ⟨_, rfl, HX.out, HFI.out, HF.out⟩
end Go.Proofs.Ytolcndchfnifhab

namespace Go.Proofs.Ytolcndchfnifhab
set_option linter.unusedVariables false
open Go.RowKit
set_option maxRecDepth 100000 in
set_option maxHeartbeats 800000 in
theorem colourAt_any (p X Y : Nat) (hp : p ≤ 3) (hX : X ≤ 4096) (hY : Y ≤ 4096) (w : World) :
    Calls Try.prog 19 #[.int .i64 p, .int .i64 X, .int .i64 Y] w fun e w' => e = .returned (.int .i64 (colV p X Y : Nat)) ∧ w = w' := by
  obtain ⟨C, hC⟩ : ∃ C, colV p X Y = C := ⟨_, rfl⟩
  rw [hC]
  have hx : X % 2 = 0 ∨ X % 2 = 1 := by omega
  have hy : Y % 2 = 0 ∨ Y % 2 = 1 := by omega
  rcases (show p = 0 ∨ p = 1 ∨ p = 2 ∨ p = 3 by omega) with rfl | rfl | rfl | rfl <;> rcases hx with hx | hx <;> rcases hy with hy | hy
  all_goals
    rw [colV, colB, hx, hy] at hC
    simp at hC
    have HC := hide hC.symm
    have hxi : (X : Int) % 2 = ((X % 2 : Nat) : Int) := rfl
    have hyi : (Y : Int) % 2 = ((Y % 2 : Nat) : Int) := rfl
    rw [hx] at hxi
    rw [hy] at hyi
    have hx1 : ((X : Int) + 1) % 2 = 1 - (X : Int) % 2 := by omega
    have hy1 : ((Y : Int) + 1) % 2 = 1 - (Y : Int) % 2 := by omega
    rw [hxi] at hx1
    rw [hyi] at hy1
    clear hC hx hy
    go_enter Try.func19, Try.ntmps19
    go_wp2
    go_ret
    rw [HC.out]
    exact ⟨rfl, rfl⟩
theorem atZ_any (W H X Y k : Nat) (v : Value) (zs : List Int) (w : World) (hv : IsInts w v zs) (hm : Y * W + X = k) (hk : k < zs.length) (hk2 : zs.length ≤ 4096) :
    Calls Try.prog 71 #[.agg #[.int .i64 W, .int .i64 H, v], .int .i64 X, .int .i64 Y] w fun e w' => e = .returned (.int .i64 (zAt zs k)) ∧ Below w.heap.size w w' := by
  obtain ⟨bk, off, ca, rfl, hbk, hcell⟩ := hv.cells (by omega)
  have hc1 : ∀ o, (w.alloc o).cell? ⟨bk, off + k, none⟩ = some (.int .i64 (zAt zs k)) := fun o => by
    rw [World.cell?_of_block (w := w) (Below.heap_alloc w o bk hbk), hcell k hk]
  clear hcell
  obtain ⟨M, hM⟩ : ∃ M : Nat, M = Y * W := ⟨_, rfl⟩
  have hmm : (Y : Int) * (W : Int) = (M : Int) := by rw [hM]; simp
  rw [← hM] at hm
  have hat : (M : Int) + (X : Int) = (k : Int) := by omega
  clear hM
  generalize zAt zs k = Z at *
  go_enter Try.func71, Try.ntmps71
  go_wp2
  go_ret
  exact ⟨rfl, bel_alloc _ _⟩
end Go.Proofs.Ytolcndchfnifhab

namespace Go.Proofs.Ytolcndchfnifhab
set_option linter.unusedVariables false
open Go.RowKit
def GaJ (w : World) (W H : Nat) (qv : Value) (m : Nat → Int) (L : List Int) (k : Nat) (wr : World) : Prop :=
  ∃ so scap, wr.heap[w.heap.size + 3]? = some (.cells #[.int .i64 W, .int .i64 H, .slice so k scap] 24 (0, 0)) ∧ wr.ownsRow w.heap.size 3 1 (.slice so k scap) k ((L.take k).map (Value.int .i64)) ∧ wr.heap[w.heap.size]? = some (.cells #[.int .i64 W, .int .i64 H, qv] 24 (0, 0)) ∧ wr.heap[w.heap.size + 2]? = some (.cells #[.int .i64 0, .int .i64 0, .slice none 0 0] 24 (0, 0)) ∧ wr.heap[w.heap.size + 1]? = some (.cells (threeA m) 25 (0, 0)) ∧ Below w.heap.size w wr
set_option maxRecDepth 100000 in
set_option maxHeartbeats 6400000 in
theorem gained_any (W H p : Nat) (hW1 : 1 ≤ W) (hW : W ≤ 64) (hH : H ≤ 64) (hp : p ≤ 3) (v : Value) (zs : List Int) (m : Nat → Int) (hm : ∀ k, k < 3 → 0 ≤ m k ∧ m k ≤ 65535) (hlen : zs.length = H * W) (hzs : allIn 0 65535 zs = true) (w : World) (hv : IsInts w v zs) :
    Calls Try.prog 17 #[.agg #[.int .i64 W, .int .i64 H, v], .int .i64 p, .agg (threeA m)] w fun e w' => ∃ r, e = .returned (.agg #[.int .i64 W, .int .i64 H, r]) ∧ IsInts w' r ((List.range zs.length).map (gainV zs W p m)) ∧ Below w.heap.size w w' ∧ Fresh w.heap.size r := by
  have HZS := hide hzs
  have HMM := hide hm
  have hlb : zs.length ≤ 4096 := by rw [hlen]; exact Nat.le_trans (Nat.mul_le_mul hH hW) (by decide)
  have hLL : ((List.range zs.length).map (gainV zs W p m)).length = zs.length := by simp
  have HLG := hide (show ∀ j, j < zs.length → ((List.range zs.length).map (gainV zs W p m))[j]? = some (gainV zs W p m j) from fun j hj => by simp [hj])
  obtain ⟨L, hL⟩ : ∃ L, (List.range zs.length).map (gainV zs W p m) = L := ⟨_, rfl⟩
  rw [hL] at hLL HLG ⊢
  have HLL := hide hLL
  clear hL hLL hzs hlen hm
  obtain ⟨ao, ca, rfl, hla, hc⟩ := hv
  have HC := hide (show ∀ j, j < zs.length → ∃ bk off, ao = some ⟨bk, off, none⟩ ∧ bk < w.heap.size ∧ w.cell? ⟨bk, off + j, none⟩ = some (.int .i64 (zAt zs j)) from fun j hj => by
    rcases hc with h | ⟨b, off, h1, h2, h3⟩
    · subst h; simp at hj
    · have := h3 j hj
      rw [zAt_get zs j hj] at this
      exact ⟨b, off, h1, h2, this⟩)
  clear hc
  obtain ⟨i0, hi, hz0, hz1, hz2⟩ := info_parts Try.infoInt
  go_enter Try.func17, Try.ntmps17
  go_wp2_with fail
  obtain ⟨a1, a2, a3, a4⟩ := al4 w (Obj.cells #[.int .i64 W, .int .i64 H, .slice ao zs.length ca] 24) (Obj.cells (threeA m) 25) (Obj.cells #[.int .i64 0, .int .i64 0, .slice none 0 0] 24) (Obj.cells #[.int .i64 W, .int .i64 H, .slice none 0 0] 24)
  have hB := be4 w (Obj.cells #[.int .i64 W, .int .i64 H, .slice ao zs.length ca] 24) (Obj.cells (threeA m) 25) (Obj.cells #[.int .i64 0, .int .i64 0, .slice none 0 0] 24) (Obj.cells #[.int .i64 W, .int .i64 H, .slice none 0 0] 24)
  generalize (((w.alloc (Obj.cells #[.int .i64 W, .int .i64 H, .slice ao zs.length ca] 24)).alloc (Obj.cells (threeA m) 25)).alloc (Obj.cells #[.int .i64 0, .int .i64 0, .slice none 0 0] 24)).alloc (Obj.cells #[.int .i64 W, .int .i64 H, .slice none 0 0] 24) = U at *
  go_loopw [8] (fun i wr => ∃ k : Nat, k ≤ zs.length ∧ i = .int .i64 k ∧ GaJ w W H (.slice ao zs.length ca) m L k wr) (fun i _ => zs.length - (intOf i).toNat)
  case atStart => exact ⟨0, Nat.zero_le _, rfl, none, 0, a4, World.ownsRow_nil _ _ _ _, a1, a3, a2, hB⟩
  case round =>
    clear a1 a2 a3 a4 hB
    obtain ⟨k, hk, rfl, so, scap, j1, j2, j3, j4, j6, j5⟩ := hrel
    obtain ⟨q0, q1, q2⟩ := cells3 j3
    by_cases hlt : k < zs.length
    · have hd : decide ((k : Int) < (zs.length : Int)) = true := by simp; omega
      have hlI : (k : Int) < (zs.length : Int) := by omega
      obtain ⟨bk, off, rfl, hbl, c0⟩ := HC.out k hlt
      have HTV := hide (show gainV zs W p m k = clampV (zAt zs k * m (colV p (k % W) (k / W)) / 256) from rfl)
      have hXW : k % W < W := Nat.mod_lt _ (by omega)
      have hYl : k / W ≤ 4096 := Nat.le_trans (Nat.div_le_self _ _) (by omega)
      have hm1 : (k : Int).tmod (W : Int) = ((k % W : Nat) : Int) := rfl
      have hm2 : (k : Int) % (W : Int) = ((k % W : Nat) : Int) := rfl
      have hd1 : (k : Int).tdiv (W : Int) = ((k / W : Nat) : Int) := rfl
      have hd2 : (k : Int) / (W : Int) = ((k / W : Nat) : Int) := rfl
      obtain ⟨X, hX⟩ : ∃ X, k % W = X := ⟨_, rfl⟩
      obtain ⟨Y, hY⟩ : ∃ Y, k / W = Y := ⟨_, rfl⟩
      rw [hX] at hm1 hm2 hXW HTV
      rw [hY] at hd1 hd2 hYl HTV
      have hW0 : ¬ (W = 0) := by omega
      have hwz : ((W : Int) == 0) = false := by rw [beq_eq_false_iff_ne]; omega
      have hwX : IntKind.i64.wrap (X : Int) = (X : Int) := IntWalk.i64_in _ (by omega)
      have hwY : IntKind.i64.wrap (Y : Int) = (Y : Int) := IntWalk.i64_in _ (by omega)
      have HCO := hide (fun u => colourAt_any p X Y hp (by omega) hYl u)
      have hq3 := colV_lt3 p X Y
      obtain ⟨c, hc⟩ : ∃ c, colV p X Y = c := ⟨_, rfl⟩
      rw [hc] at HCO HTV hq3
      have hcI : (c : Int) < 3 := by omega
      obtain ⟨hg0, hg1⟩ := HMM.out c hq3
      have kg : ∀ u : World, u.heap[w.heap.size + 1]? = some (.cells (threeA m) 25 (0, 0)) → u.cell? ⟨w.heap.size + 1, c, none⟩ = some (.int .i64 (m c)) := fun u h => by rw [Lib.cell_of_heap h, threeA_get m c hq3]
      obtain ⟨gn, hgn⟩ : ∃ gn, m c = gn := ⟨_, rfl⟩
      rw [hgn] at HTV hg0 hg1 kg
      have hzr := zAt_ok HZS.out k
      obtain ⟨z, hz⟩ : ∃ z, zAt zs k = z := ⟨_, rfl⟩
      rw [hz] at HTV hzr c0
      obtain ⟨hzr1, hzr2⟩ := hzr
      have hn0 : 0 ≤ z * gn := Int.mul_nonneg hzr1 hg0
      have hn1 : z * gn ≤ 65535 * 65535 := Int.mul_le_mul hzr2 hg1 hg0 (by omega)
      obtain ⟨n, hn⟩ : ∃ n, z * gn = n := ⟨_, rfl⟩
      rw [hn] at HTV hn0 hn1
      have hq0 := Int.tdiv_eq_ediv_of_nonneg (b := 256) hn0
      obtain ⟨q, hq⟩ : ∃ q, n / 256 = q := ⟨_, rfl⟩
      rw [hq] at HTV hq0
      have hwn : IntKind.i64.wrap n = n := IntWalk.i64_in _ (by omega)
      have hwq : IntKind.i64.wrap q = q := IntWalk.i64_in _ (by omega)
      obtain ⟨y, hy⟩ : ∃ y, clampV q = y := ⟨_, rfl⟩
      rw [hy] at HTV
      have HCL := hide (fun u => clamp_any q u)
      rw [hy] at HCL
      have HST := hide (show (L.take (k + 1)).map (Value.int .i64) = (L.take k).map (Value.int .i64) ++ [.int .i64 y] by
        have hk2 : k < L.length := by rw [HLL.out]; exact hlt
        have hg := HLG.out k hlt
        rw [List.getElem?_eq_getElem hk2] at hg
        rw [List.take_succ_eq_append_getElem hk2, Option.some.inj hg, List.map_append, HTV.out]; rfl)
      obtain ⟨XS, hXS⟩ : ∃ XS, (L.take k).map (Value.int .i64) = XS := ⟨_, rfl⟩
      rw [hXS] at j2 HST
      have hbW := j5.size
      have HL1 := hide (show k + 1 ≤ maxLen by unfold maxLen; omega)
      have HL2 := hide (show (k + 1) * 8 ≤ 140737488355328 by omega)
      clear hX hY hc hz hgn hy hXS
      have HS := hide (show ∀ v, Below wr.heap.size wr v → v.cell? ⟨w.heap.size + 1 + 1 + 1, 2, none⟩ = some (.slice so k scap) ∧ v.cell? ⟨w.heap.size, 0, none⟩ = some (.int .i64 W) ∧ v.cell? ⟨w.heap.size, 2, none⟩ = some (.slice (some ⟨bk, off, none⟩) zs.length ca) ∧ v.cell? ⟨bk, off + k, none⟩ = some (.int .i64 z) ∧ v.cell? ⟨w.heap.size + 1, c, none⟩ = some (.int .i64 gn) from fun v h => by
        obtain ⟨_, _, t2⟩ := cells3 ((h.block (w.heap.size + 3) (Array.getElem?_eq_some_iff.1 j1).1).trans j1)
        obtain ⟨y0, _, y2⟩ := cells3 ((h.block _ (Array.getElem?_eq_some_iff.1 j3).1).trans j3)
        exact ⟨t2, y0, y2, ((j5.trans (h.mono j5.size)).cell (p := ⟨bk, off + k, none⟩) hbl).trans c0, kg _ ((h.block _ (Array.getElem?_eq_some_iff.1 j6).1).trans j6)⟩)
      have nq := own_ne j2 j3 (by decide)
      have nb : some bk ≠ (Value.slice so k scap).ownBlock := fun e => by have := (j2.lt bk e.symm).1; omega
      have HTL := hide (show ∀ (V1 : World) (gg cap : Nat) (w3 : World), Below wr.heap.size wr V1 → V1.grownBy w3 (Value.slice so k scap).ownBlock → w3.ownsRow w.heap.size 3 1 (.slice (some ⟨gg, 0, none⟩) (k + 1) cap) (k + 1) (XS ++ [.int .i64 y]) → (w3.cell? ⟨w.heap.size + 1 + 1 + 1, 2, none⟩ = some (.slice so k scap) ∧ w3.cell? ⟨w.heap.size, 0, none⟩ = some (.int .i64 W) ∧ w3.cell? ⟨w.heap.size, 2, none⟩ = some (.slice (some ⟨bk, off, none⟩) zs.length ca) ∧ w3.cell? ⟨bk, off + k, none⟩ = some (.int .i64 z) ∧ w3.cell? ⟨w.heap.size + 1, c, none⟩ = some (.int .i64 gn)) ∧ w3.frozen? ⟨w.heap.size + 1 + 1 + 1, 2, none⟩ = false ∧ GaJ w W H (.slice (some ⟨bk, off, none⟩) zs.length ca) m L (k + 1) (w3.setCell ⟨w.heap.size + 1 + 1 + 1, 2, none⟩ (.slice (some ⟨gg, 0, none⟩) (k + 1) cap)) from fun V1 gg cap w3 h1 h2 h3 => by
        obtain ⟨t1, t2, t3, t4, t5, t6, t7⟩ := app_gen (by decide) j1 j2 j5 (Nat.le_refl _) (by omega) h1 h2 h3
        obtain ⟨y0, _, y2⟩ := cells3 ((t1 _ (Array.getElem?_eq_some_iff.1 j3).1 nq).trans j3)
        have kb := t1 bk (by omega) nb
        have n6 := own_ne j2 j6 (by decide)
        exact ⟨⟨t2, y0, y2, (World.cell?_of_block (a := ⟨bk, off + k, none⟩) kb).trans ((j5.cell (p := ⟨bk, off + k, none⟩) hbl).trans c0), kg _ ((t1 _ (Array.getElem?_eq_some_iff.1 j6).1 n6).trans j6)⟩, t3, some ⟨gg, 0, none⟩, cap, t4, by rw [HST.out]; exact t5, (t7 _ (Array.getElem?_eq_some_iff.1 j3).1 nq (by omega)).trans j3, (t7 _ (Array.getElem?_eq_some_iff.1 j4).1 (own_ne j2 j4 (by decide)) (by omega)).trans j4, (t7 _ (Array.getElem?_eq_some_iff.1 j6).1 n6 (by omega)).trans j6, t6⟩)
      have hWd : Below wr.heap.size wr wr.drew := (Below.refl _ _).drew
      clear kg
      go_wp2_with fail
      have hSd := HS.out _ hWd
      clear c0 q0 q1 q2 hd j1 j3 j4 j6
      have hmx : Try.prog.follows .mixedOrders = true := by kernel_rfl
      refine wp_region_last (S := fun v : World => v.cell? ⟨w.heap.size + 1 + 1 + 1, 2, none⟩ = some (.slice so k scap) ∧ v.cell? ⟨w.heap.size, 0, none⟩ = some (.int .i64 W) ∧ v.cell? ⟨w.heap.size, 2, none⟩ = some (.slice (some ⟨bk, off, none⟩) zs.length ca) ∧ v.cell? ⟨bk, off + k, none⟩ = some (.int .i64 z) ∧ v.cell? ⟨w.heap.size + 1, c, none⟩ = some (.int .i64 gn)) (f := 25) hmx ?_
      show wpAnyF _ _ _ _ _ _ 26 _ _ wr.drew
      refine wpAnyF_takeD (i := 0) (oi := _) (v := ?vv1) (some 21) rfl rfl (by kernel_rfl) (by kernel_rfl) (by kernel_rfl) (by kernel_rfl) (by kernel_rfl) (fun _ _ _ h => h) (Or.inl ⟨by rfl, ?yy1⟩) hSd ?rr1
      case yy1 => (intro wq hSq; obtain ⟨_, _, _, _, _⟩ := hSq; go_simp <;> with_reducible rfl)
      simp only [Act.put, List.setIfInBounds_toArray, List.set_cons_succ, List.set_cons_zero]
      refine wpAnyF_takeD (i := 2) (oi := _) (v := ?vv2) (some 23) rfl rfl (by kernel_rfl) (by kernel_rfl) (by kernel_rfl) (by kernel_rfl) (by kernel_rfl) (fun _ _ _ h => h) (Or.inl ⟨by rfl, ?yy2⟩) hSd ?rr2
      case yy2 => (intro wq hSq; obtain ⟨_, _, _, _, _⟩ := hSq; go_simp <;> with_reducible rfl)
      simp only [Act.put, List.setIfInBounds_toArray, List.set_cons_succ, List.set_cons_zero]
      refine wpAnyF_takeD (i := 4) (oi := _) (v := ?vv3) (some 25) rfl rfl (by kernel_rfl) (by kernel_rfl) (by kernel_rfl) (by kernel_rfl) (by kernel_rfl) (fun _ _ _ h => h) (Or.inl ⟨by rfl, ?yy3⟩) hSd ?rr3
      case yy3 => (intro wq hSq; obtain ⟨_, _, _, _, _⟩ := hSq; go_simp <;> with_reducible rfl)
      simp only [Act.put, List.setIfInBounds_toArray, List.set_cons_succ, List.set_cons_zero]
      refine wpAnyF_takeD (i := 7) (oi := _) (v := ?vv4) (some 28) rfl rfl (by kernel_rfl) (by kernel_rfl) (by kernel_rfl) (by kernel_rfl) (by kernel_rfl) (fun _ _ _ h => h) (Or.inl ⟨by rfl, ?yy4⟩) hSd ?rr4
      case yy4 => (intro wq hSq; obtain ⟨_, _, _, _, _⟩ := hSq; go_simp <;> with_reducible rfl)
      simp only [Act.put, List.setIfInBounds_toArray, List.set_cons_succ, List.set_cons_zero]
      refine wpAnyF_takeD (i := 8) (oi := _) (v := ?vv5) (some 29) rfl rfl (by kernel_rfl) (by kernel_rfl) (by kernel_rfl) (by kernel_rfl) (by kernel_rfl) (fun _ _ _ h => h) (Or.inl ⟨by rfl, ?yy5⟩) hSd ?rr5
      case yy5 => (intro wq hSq; obtain ⟨_, _, _, _, _⟩ := hSq; go_simp <;> with_reducible rfl)
      simp only [Act.put, List.setIfInBounds_toArray, List.set_cons_succ, List.set_cons_zero]
      refine wpAnyF_takeD (i := 9) (oi := _) (v := ?vv6) (some 30) rfl rfl (by kernel_rfl) (by kernel_rfl) (by kernel_rfl) (by kernel_rfl) (by kernel_rfl) (fun _ _ _ h => h) (Or.inl ⟨by rfl, ?yy6⟩) hSd ?rr6
      case yy6 => (intro wq hSq; obtain ⟨_, _, _, _, _⟩ := hSq; go_simp <;> with_reducible rfl)
      simp only [Act.put, List.setIfInBounds_toArray, List.set_cons_succ, List.set_cons_zero]
      refine wpAnyF_takeD (i := 12) (oi := _) (v := ?vv7) (some 33) rfl rfl (by kernel_rfl) (by kernel_rfl) (by kernel_rfl) (by kernel_rfl) (by kernel_rfl) (fun _ _ _ h => h) (Or.inl ⟨by rfl, ?yy7⟩) hSd ?rr7
      case yy7 => (intro wq hSq; obtain ⟨_, _, _, _, _⟩ := hSq; go_simp <;> with_reducible rfl)
      simp only [Act.put, List.setIfInBounds_toArray, List.set_cons_succ, List.set_cons_zero]
      refine wpAnyF_takeD (i := 13) (oi := _) (v := ?vv8) (some 34) rfl rfl (by kernel_rfl) (by kernel_rfl) (by kernel_rfl) (by kernel_rfl) (by kernel_rfl) (fun _ _ _ h => h) (Or.inl ⟨by rfl, ?yy8⟩) hSd ?rr8
      case yy8 => (intro wq hSq; obtain ⟨_, _, _, _, _⟩ := hSq; go_simp <;> with_reducible rfl)
      simp only [Act.put, List.setIfInBounds_toArray, List.set_cons_succ, List.set_cons_zero]
      refine wpAnyF_takeD (i := 1) (oi := _) (v := ?vv9) (some 22) rfl rfl (by kernel_rfl) (by kernel_rfl) (by kernel_rfl) (by kernel_rfl) (by kernel_rfl) (fun _ _ _ h => h) (Or.inl ⟨by rfl, ?yy9⟩) hSd ?rr9
      case yy9 => (intro wq hSq; obtain ⟨_, _, _, _, _⟩ := hSq; go_simp <;> with_reducible rfl)
      simp only [Act.put, List.setIfInBounds_toArray, List.set_cons_succ, List.set_cons_zero]
      refine wpAnyF_takeD (i := 3) (oi := _) (v := ?vv10) (some 24) rfl rfl (by kernel_rfl) (by kernel_rfl) (by kernel_rfl) (by kernel_rfl) (by kernel_rfl) (fun _ _ _ h => h) (Or.inl ⟨by rfl, ?yy10⟩) hSd ?rr10
      case yy10 => (intro wq hSq; obtain ⟨_, _, _, _, _⟩ := hSq; go_simp <;> with_reducible rfl)
      simp only [Act.put, List.setIfInBounds_toArray, List.set_cons_succ, List.set_cons_zero]
      refine wpAnyF_takeD (i := 10) (oi := _) (v := ?vv11) (some 31) rfl rfl (by kernel_rfl) (by kernel_rfl) (by kernel_rfl) (by kernel_rfl) (by kernel_rfl) (fun _ _ _ h => h) (Or.inl ⟨by rfl, ?yy11⟩) hSd ?rr11
      case yy11 => (intro wq hSq; obtain ⟨_, _, _, _, _⟩ := hSq; go_simp <;> with_reducible rfl)
      simp only [Act.put, List.setIfInBounds_toArray, List.set_cons_succ, List.set_cons_zero]
      refine wpAnyF_takeD (i := 14) (oi := _) (v := ?vv12) (some 35) rfl rfl (by kernel_rfl) (by kernel_rfl) (by kernel_rfl) (by kernel_rfl) (by kernel_rfl) (fun _ _ _ h => h) (Or.inl ⟨by rfl, ?yy12⟩) hSd ?rr12
      case yy12 => (intro wq hSq; obtain ⟨_, _, _, _, _⟩ := hSq; go_simp <;> with_reducible rfl)
      simp only [Act.put, List.setIfInBounds_toArray, List.set_cons_succ, List.set_cons_zero]
      refine wpAnyF_takeD (i := 5) (oi := _) (v := ?vv13) (some 26) rfl rfl (by kernel_rfl) (by kernel_rfl) (by kernel_rfl) (by kernel_rfl) (by kernel_rfl) (fun _ _ _ h => h) (Or.inl ⟨by rfl, ?yy13⟩) hSd ?rr13
      case yy13 => (intro wq hSq; obtain ⟨_, _, _, _, _⟩ := hSq; go_simp <;> with_reducible rfl)
      simp only [Act.put, List.setIfInBounds_toArray, List.set_cons_succ, List.set_cons_zero]
      refine wpAnyF_takeD (i := 11) (oi := _) (v := ?vv14) (some 32) rfl rfl (by kernel_rfl) (by kernel_rfl) (by kernel_rfl) (by kernel_rfl) (by kernel_rfl) (fun _ _ _ h => h) (Or.inl ⟨by rfl, ?yy14⟩) hSd ?rr14
      case yy14 => (intro wq hSq; obtain ⟨_, _, _, _, _⟩ := hSq; go_simp <;> with_reducible rfl)
      simp only [Act.put, List.setIfInBounds_toArray, List.set_cons_succ, List.set_cons_zero]
      refine wpAnyF_takeD (i := 15) (oi := _) (v := ?vv15) (some 36) rfl rfl (by kernel_rfl) (by kernel_rfl) (by kernel_rfl) (by kernel_rfl) (by kernel_rfl) (fun _ _ _ h => h) (Or.inl ⟨by rfl, ?yy15⟩) hSd ?rr15
      case yy15 => (intro wq hSq; obtain ⟨_, _, _, _, _⟩ := hSq; go_simp <;> with_reducible rfl)
      simp only [Act.put, List.setIfInBounds_toArray, List.set_cons_succ, List.set_cons_zero]
      refine wpAnyF_takeD (i := 6) (oi := _) (v := ?vv16) (some 27) rfl rfl (by kernel_rfl) (by kernel_rfl) (by kernel_rfl) (by kernel_rfl) (by kernel_rfl) (fun _ _ _ h => h) (Or.inl ⟨by rfl, ?yy16⟩) hSd ?rr16
      case yy16 => (intro wq hSq; obtain ⟨_, _, _, _, _⟩ := hSq; go_simp <;> with_reducible rfl)
      simp only [Act.put, List.setIfInBounds_toArray, List.set_cons_succ, List.set_cons_zero]
      refine wpAnyF_one (i := 16) (o := _) (by kernel_rfl) rfl (fun K' hK => ?_)
      rw [if_pos (by rfl)]
      go_simp
      refine (HCO.out _).mono ?_
      rintro e Vx ⟨rfl, rfl⟩
      have hSd := hSd
      refine hK.out _ _ hSd ?_
      clear hK
      try simp only [Act.put]
      refine wpAnyF_takeD (i := 17) (oi := _) (v := ?vv17) (some 38) rfl rfl (by kernel_rfl) (by kernel_rfl) (by kernel_rfl) (by kernel_rfl) (by kernel_rfl) (fun _ _ _ h => h) (Or.inl ⟨by rfl, ?yy17⟩) hSd ?rr17
      case yy17 => (intro wq hSq; obtain ⟨_, _, _, _, _⟩ := hSq; go_simp <;> with_reducible rfl)
      simp only [Act.put, List.setIfInBounds_toArray, List.set_cons_succ, List.set_cons_zero]
      refine wpAnyF_takeD (i := 18) (oi := _) (v := ?vv18) (some 39) rfl rfl (by kernel_rfl) (by kernel_rfl) (by kernel_rfl) (by kernel_rfl) (by kernel_rfl) (fun _ _ _ h => h) (Or.inl ⟨by rfl, ?yy18⟩) hSd ?rr18
      case yy18 => (intro wq hSq; obtain ⟨_, _, _, _, _⟩ := hSq; go_simp <;> with_reducible rfl)
      simp only [Act.put, List.setIfInBounds_toArray, List.set_cons_succ, List.set_cons_zero]
      refine wpAnyF_takeD (i := 19) (oi := _) (v := ?vv19) (some 40) rfl rfl (by kernel_rfl) (by kernel_rfl) (by kernel_rfl) (by kernel_rfl) (by kernel_rfl) (fun _ _ _ h => h) (Or.inl ⟨by rfl, ?yy19⟩) hSd ?rr19
      case yy19 => (intro wq hSq; obtain ⟨_, _, _, _, _⟩ := hSq; go_simp <;> with_reducible rfl)
      simp only [Act.put, List.setIfInBounds_toArray, List.set_cons_succ, List.set_cons_zero]
      refine wpAnyF_takeD (i := 20) (oi := _) (v := ?vv20) (some 41) rfl rfl (by kernel_rfl) (by kernel_rfl) (by kernel_rfl) (by kernel_rfl) (by kernel_rfl) (fun _ _ _ h => h) (Or.inl ⟨by rfl, ?yy20⟩) hSd ?rr20
      case yy20 => (intro wq hSq; obtain ⟨_, _, _, _, _⟩ := hSq; go_simp <;> with_reducible rfl)
      simp only [Act.put, List.setIfInBounds_toArray, List.set_cons_succ, List.set_cons_zero]
      refine wpAnyF_one (i := 21) (o := _) (by kernel_rfl) rfl (fun K' hK => ?_)
      rw [if_pos (by rfl)]
      go_simp
      refine (HCL.out _).mono ?_
      rintro e Vy ⟨rfl, rfl⟩
      have hSd := hSd
      refine hK.out _ _ hSd ?_
      clear hK
      try simp only [Act.put]
      refine wpAnyF_one (i := 22) (o := _) (by kernel_rfl) rfl (fun K' hK => ?_)
      rw [if_pos (by rfl)]
      go_simp
      have hBs : Below wr.heap.size wr (wr.drew.alloc (Obj.cells #[.int .i64 y] 3)) := hWd.alloc hWd.size _
      have hSd := HS.out _ hBs
      refine hK.out _ _ hSd ?_
      clear hK
      try simp only [Act.put]
      refine wpAnyF_one (i := 23) (o := _) (by kernel_rfl) rfl (fun K' hK => ?_)
      refine step_append_lies _ rfl _ _ 22 rfl w.heap.size 3 i0 (.int .i64 0) 1 8 Try.underlying22 hi hz0 hz1 hz2 rfl (by decide) (.slice so k scap) k XS rfl ((ownsRow_below j2 hWd).alloc _) ⟨wr.drew.heap.size, 0, none⟩ 1 1 [.int .i64 y] rfl rfl (World.news_of_block (al1 wr.drew _)) (fun u hu => by simp at hu; subst hu; rfl) Nat.one_pos HL1.out HL2.out (Nat.le_trans hbW hBs.size) _ rfl ?_
      intro gg cap w3 hown hgrow hat hltg
      obtain ⟨hSx, p2f, HFIN⟩ := HTL.out _ gg cap w3 hBs hgrow hown
      have hSd := hSx
      refine hK.out _ _ hSd ?_
      clear hK
      try simp only [Act.put]
      refine wpAnyF_take (i := 24) (oi := _) (v := ?vv21) rfl (by kernel_rfl) (by kernel_rfl) (by kernel_rfl) (by kernel_rfl) (by kernel_rfl) (fun _ _ _ h => h) (Or.inl ⟨by rfl, ?yy21⟩) hSd ?rr21
      case yy21 => (intro wq hSq; obtain ⟨_, _, _, _, _⟩ := hSq; go_simp <;> with_reducible rfl)
      try simp only [Act.put]
      refine wpAnyF_last (o := _) (by kernel_rfl) rfl (fun K' hK => ?_)
      rw [if_pos (by rfl)]
      go_simp
      refine hK.out _ _ ?_
      clear hK
      refine wpAnyF_done (by kernel_rfl) ?_ _
      try simp only [Act.put]
      go_wp2
      go_roundw
      case rel => exact ⟨k + 1, by omega, by go_num, HFIN⟩
      case measure => simp [intOf]; omega
    · have hd : decide ((k : Int) < (zs.length : Int)) = false := by simp; omega
      obtain rfl : k = zs.length := by omega
      rw [List.take_of_length_le (by rw [HLL.out]; exact Nat.le_refl _)] at j2
      obtain ⟨p0, p1, p2⟩ := cells3 (b := w.heap.size + 1 + 1 + 1) j1
      obtain ⟨z0, z1, z2⟩ := cells3 (b := w.heap.size + 1 + 1) j4
      have f0 := Lib.frozen_of_heap (b := w.heap.size + 1 + 1) j4 0
      have f1 := Lib.frozen_of_heap (b := w.heap.size + 1 + 1) j4 1
      have f2 := Lib.frozen_of_heap (b := w.heap.size + 1 + 1) j4 2
      have HFI := hide (set3_below j5 (show w.heap.size ≤ w.heap.size + 1 + 1 by omega) (.int .i64 (W : Nat)) (.int .i64 (H : Nat)) (.slice so zs.length scap))
      have hpx : IsInts wr (.slice so zs.length scap) L := IsInts.own (base := w.heap.size) (xs := L) (v := .slice so zs.length scap) (by rw [HLL.out]; exact j2) (by rw [HLL.out]; omega)
      have hne : (Value.slice so zs.length scap).ownBlock ≠ some (w.heap.size + 1 + 1) := fun e => own_ne j2 j4 (by decide) e.symm
      have HX := hide (hpx.other (set3_size wr (w.heap.size + 1 + 1) (.int .i64 (W : Nat)) (.int .i64 (H : Nat)) (.slice so zs.length scap)) (fun b hb => set3_heap _ _ _ _ _ b hb) hne)
      have HF := hide (Fresh.own j2)
      clear hpx hne
      go_wp2
      exact bodyPost_ret (v := .agg #[.int .i64 (W : Nat), .int .i64 (H : Nat), .slice so zs.length scap]) (by simp [results, Try.results17, go_sem, z0, z1, z2]) rfl ⟨_, rfl, HX.out, HFI.out, HF.out⟩
end Go.Proofs.Ytolcndchfnifhab

namespace Go.Proofs.Ytolcndchfnifhab
def fX (X i : Nat) : Int := (X : Int) - 1 + (i % 3 : Nat)
def fY (Y i : Nat) : Int := (Y : Int) - 1 + (i / 3 : Nat)
def fOk (W H p X Y c i : Nat) : Prop := hasB W H (fX X i) (fY Y i) = true ∧ colV p (fX X i).toNat (fY Y i).toNat = c
instance (W H p X Y c i : Nat) : Decidable (fOk W H p X Y c i) := by unfold fOk; infer_instance
def fS (zs : List Int) (W H p X Y c i : Nat) : Int := if fOk W H p X Y c i then zAt zs ((fY Y i).toNat * W + (fX X i).toNat) else 0
def fN (W H p X Y c i : Nat) : Int := if fOk W H p X Y c i then 1 else 0
def fQ (zs : List Int) (W H p X Y c : Nat) : Int := sumN (fS zs W H p X Y c) 9 / max (sumN (fN W H p X Y c) 9) 1
theorem sumN_skip (g : Nat → Int) (m n : Nat) (h : m ≤ n) (hz : ∀ i, m ≤ i → i < n → g i = 0) : sumN g n = sumN g m := by
  induction n with
  | zero => rw [show m = 0 by omega]
  | succ n ih =>
    by_cases hm : m = n + 1
    · rw [hm]
    · simp only [sumN]
      rw [hz n (by omega) (by omega), ih (by omega) (fun i h1 h2 => hz i h1 (by omega)), Int.add_zero]
theorem fS_out (zs : List Int) {W H p X Y c i : Nat} (h : ¬ (0 ≤ fX X i ∧ fX X i < W ∧ 0 ≤ fY Y i ∧ fY Y i < H)) : fS zs W H p X Y c i = 0 := by
  rw [fS, if_neg]; rintro ⟨h1, _⟩; exact h (by simpa [hasB] using h1)
theorem fN_out {W H p X Y c i : Nat} (h : ¬ (0 ≤ fX X i ∧ fX X i < W ∧ 0 ≤ fY Y i ∧ fY Y i < H)) : fN W H p X Y c i = 0 := by
  rw [fN, if_neg]; rintro ⟨h1, _⟩; exact h (by simpa [hasB] using h1)
theorem fS_range {zs : List Int} (h : allIn 0 65535 zs = true) (W H p X Y c i : Nat) : 0 ≤ fS zs W H p X Y c i ∧ fS zs W H p X Y c i ≤ 262140 := by
  have := zAt_ok h ((fY Y i).toNat * W + (fX X i).toNat)
  unfold fS; split <;> omega
theorem fN_range (W H p X Y c i : Nat) : 0 ≤ fN W H p X Y c i ∧ fN W H p X Y c i ≤ 1 := by unfold fN; split <;> omega
theorem sumN_le1 {g : Nat → Int} (h : ∀ n, 0 ≤ g n ∧ g n ≤ 1) (n : Nat) : 0 ≤ sumN g n ∧ sumN g n ≤ n := by
  induction n with
  | zero => simp [sumN]
  | succ n ih =>
    obtain ⟨a, b⟩ := h n
    obtain ⟨c, d⟩ := ih
    refine ⟨?_, ?_⟩ <;> (simp only [sumN]; omega)
theorem mStep_f (zs : List Int) (W H p X Y c : Nat) (s : Int × Nat) (x : Fin 8) :
    (mStep zs W H (parX X) (parY Y) (parC p X Y c) s x).1 = s.1 + fS zs W H p X Y c (nOf x.1) ∧ ((mStep zs W H (parX X) (parY Y) (parC p X Y c) s x).2 : Int) = (s.2 : Int) + fN W H p X Y c (nOf x.1) := by
  have hiff : (hasB W H (parX X x) (parY Y x) = true ∧ parC p X Y c x = true) ↔ fOk W H p X Y c (nOf x.1) := by
    unfold fOk parC; rw [decide_eq_true_iff]; exact Iff.rfl
  unfold mStep fS fN
  by_cases h : fOk W H p X Y c (nOf x.1)
  · rw [if_pos (hiff.2 h), if_pos h, if_pos h]
    exact ⟨rfl, by simp⟩
  · rw [if_neg (fun e => h (hiff.1 e)), if_neg h, if_neg h]
    exact ⟨by simp, by simp⟩
theorem mF_zero {N : Nat} (zs : List Int) (W H : Nat) (px py : Fin N → Int) (cnt : Fin N → Bool) (pre : List (Fin N)) (s : Int × Nat) (h : s.2 = 0 → s.1 = 0) :
    (pre.foldl (mStep zs W H px py cnt) s).2 = 0 → (pre.foldl (mStep zs W H px py cnt) s).1 = 0 := by
  induction pre generalizing s with
  | nil => exact h
  | cons x pre ih =>
    simp only [List.foldl_cons]
    refine ih _ ?_
    unfold mStep
    split
    · intro e; simp at e
    · exact h
theorem mF_nine {zs : List Int} {W H p X Y c : Nat} (hne : colV p X Y ≠ c) :
    (mF zs W H (parX X) (parY Y) (parC p X Y c) (List.finRange 8)).1 = sumN (fS zs W H p X Y c) 9 ∧ ((mF zs W H (parX X) (parY Y) (parC p X Y c) (List.finRange 8)).2 : Int) = sumN (fN W H p X Y c) 9 := by
  have h4 : ¬ fOk W H p X Y c 4 := by
    rintro ⟨_, h⟩
    rw [show fX X 4 = (X : Int) by unfold fX; omega, show fY Y 4 = (Y : Int) by unfold fY; omega, Int.toNat_natCast, Int.toNat_natCast] at h
    exact hne h
  have e4 : fS zs W H p X Y c 4 = 0 := by rw [fS, if_neg h4]
  have e5 : fN W H p X Y c 4 = 0 := by rw [fN, if_neg h4]
  have hl : List.finRange 8 = [0, 1, 2, 3, 4, 5, 6, 7] := by decide
  have st := mStep_f zs W H p X Y c
  rw [mF, hl]
  simp only [List.foldl_cons, List.foldl_nil]
  constructor
  · rw [(st _ _).1, (st _ _).1, (st _ _).1, (st _ _).1, (st _ _).1, (st _ _).1, (st _ _).1, (st _ _).1]
    simp only [sumN, e4]
    simp only [show nOf ((0 : Fin 8) : Nat) = 0 from rfl, show nOf ((1 : Fin 8) : Nat) = 1 from rfl, show nOf ((2 : Fin 8) : Nat) = 2 from rfl, show nOf ((3 : Fin 8) : Nat) = 3 from rfl, show nOf ((4 : Fin 8) : Nat) = 5 from rfl, show nOf ((5 : Fin 8) : Nat) = 6 from rfl, show nOf ((6 : Fin 8) : Nat) = 7 from rfl, show nOf ((7 : Fin 8) : Nat) = 8 from rfl]
    omega
  · rw [(st _ _).2, (st _ _).2, (st _ _).2, (st _ _).2, (st _ _).2, (st _ _).2, (st _ _).2, (st _ _).2]
    simp only [sumN, e5]
    simp only [show nOf ((0 : Fin 8) : Nat) = 0 from rfl, show nOf ((1 : Fin 8) : Nat) = 1 from rfl, show nOf ((2 : Fin 8) : Nat) = 2 from rfl, show nOf ((3 : Fin 8) : Nat) = 3 from rfl, show nOf ((4 : Fin 8) : Nat) = 5 from rfl, show nOf ((5 : Fin 8) : Nat) = 6 from rfl, show nOf ((6 : Fin 8) : Nat) = 7 from rfl, show nOf ((7 : Fin 8) : Nat) = 8 from rfl]
    simp
theorem part_f {zs : List Int} {W H p X Y c : Nat} : partV zs W H p X Y c = if c = colV p X Y then zAt zs (Y * W + X) else fQ zs W H p X Y c := by
  unfold partV
  by_cases h : colV p X Y = c
  · rw [if_pos h, if_pos h.symm]
  · rw [if_neg h, if_neg (fun e => h e.symm)]
    obtain ⟨h1, h2⟩ := mF_nine (zs := zs) (W := W) (H := H) h
    have h0 := mF_zero zs W H (parX X) (parY Y) (parC p X Y c) (List.finRange 8) (0, 0) (fun _ => rfl)
    unfold meanV fQ
    rw [← h1, ← h2]
    unfold mF
    unfold mF at h1 h2
    generalize (List.finRange 8).foldl (mStep zs W H (parX X) (parY Y) (parC p X Y c)) (0, 0) = s at *
    split
    · rename_i hn
      rw [h0 hn, Int.zero_ediv]
    · rw [show max (s.2 : Int) 1 = s.2 by omega]
end Go.Proofs.Ytolcndchfnifhab
