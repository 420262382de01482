/- Turns: part 3 of what the proofs need. -/
import Derived.Test.YtolcndchfnifhacDoorC1Turns
import Derived.Test.YtolcndchfnifhacDoorC2Turns
import Derived.Deep.AppendLies
import Derived.Test.YtolcndchfnifhacDoorRows
import Derived.Lib.LaidTab
import Derived.ChangeArms
import Derived.OpenShut
import Derived.ProofKit
import Derived.ChangeSame
import Derived.DataReads
namespace Go.Proofs.YtolcndchfnifhacDoor
set_option linter.unusedVariables false
open Go.RowKit
theorem turn_place {X Y W : Nat} (h : X < W) : (Y * W + X) % W = X ∧ (Y * W + X) / W = Y := by
  refine ⟨by rw [Nat.add_comm, Nat.add_mul_mod_self_right, Nat.mod_eq_of_lt h], ?_⟩
  rw [Nat.add_comm, Nat.add_mul_div_right _ _ (by omega), Nat.div_eq_of_lt h, Nat.zero_add]
def TuJ (w : World) (W H TW TH : Nat) (qv : Value) (L : List Px) (k : Nat) (wr : World) : Prop :=
  ∃ so scap, wr.heap[w.heap.size + 2]? = some (.cells #[.int .i64 TW, .int .i64 TH, .slice so k scap] 24 (0, 0)) ∧ wr.ownsRow w.heap.size 51 3 (.slice so k scap) k ((L.take k).flatMap pixL) ∧ wr.heap[w.heap.size]? = some (.cells #[.int .i64 W, .int .i64 H, qv] 24 (0, 0)) ∧ wr.heap[w.heap.size + 1]? = some (.cells #[.int .i64 0, .int .i64 0, .slice none 0 0] 24 (0, 0)) ∧ Below w.heap.size w wr
set_option maxRecDepth 100000 in
set_option maxHeartbeats 6400000 in
theorem refTurned_any (W H : Nat) (hW : W ≤ 64) (hH : H ≤ 64) (v : Value) (ps : List Px) (hlen : ps.length = H * W) (kk : Nat) (hkk : kk < 8) (w : World) (hv : IsPix w v ps) :
    Calls Tryd.prog 15 #[.agg #[.int .i64 W, .int .i64 H, v], .int .i64 ((kk : Int) + 1)] w fun e w' => ∃ r, e = .returned (.agg #[.int .i64 (turnedN (mvAt kk) W H : Nat), .int .i64 (turnedN (mvAt kk) H W : Nat), r]) ∧ IsPix w' r (turnL W H ps (mvAt kk)) ∧ Below w.heap.size w w' ∧ Fresh w.heap.size r := by
  have HV := hide hv
  have HLEN := hide hlen
  have hlb : ps.length ≤ 4096 := by rw [hlen]; exact Nat.le_trans (Nat.mul_le_mul hH hW) (by decide)
  have hNN : turnedN (mvAt kk) H W * turnedN (mvAt kk) W H = ps.length := by
    rw [hlen]; unfold turnedN; split
    · rw [Nat.mul_comm]
    · rfl
  have HSRC := hide (fun X Y hX hY => src_in (mvAt kk) W H X Y hX hY)
  have HTW := hide (show turnedN (mvAt kk) W H = if (mvAt kk).1 = true then H else W from rfl)
  have HTH := hide (show turnedN (mvAt kk) H W = if (mvAt kk).1 = true then W else H from rfl)
  have hT1 : turnedN (mvAt kk) W H ≤ 64 := by unfold turnedN; split <;> assumption
  have hT2 : turnedN (mvAt kk) H W ≤ 64 := by unfold turnedN; split <;> assumption
  have hLd : turnL W H ps (mvAt kk) = (List.range ps.length).map (turnP ps W H (mvAt kk)) := by rw [turnL, hNN]
  have HLG := hide (show ∀ j, j < ps.length → (turnL W H ps (mvAt kk))[j]? = some (turnP ps W H (mvAt kk) j) from fun j hj => by rw [hLd]; simp [hj])
  have hLL : (turnL W H ps (mvAt kk)).length = ps.length := by rw [hLd]; simp
  have HTP := hide (show ∀ j, turnP ps W H (mvAt kk) j = pxAt ps (srcN (mvAt kk) W H (j % turnedN (mvAt kk) W H) (j / turnedN (mvAt kk) W H)) from fun j => rfl)
  generalize turnL W H ps (mvAt kk) = L at *
  generalize turnP ps W H (mvAt kk) = TP at *
  obtain ⟨TW, hTW⟩ : ∃ TW, turnedN (mvAt kk) W H = TW := ⟨_, rfl⟩
  obtain ⟨TH, hTH⟩ : ∃ TH, turnedN (mvAt kk) H W = TH := ⟨_, rfl⟩
  rw [hTW] at HTW HTP HSRC hT1 hNN ⊢
  rw [hTH] at HTH HSRC hT2 hNN ⊢
  have HNN := hide hNN
  have HLL := hide hLL
  clear hTW hTH hLd hLL hNN hlen
  obtain ⟨ao, ca, rfl, hla, hc⟩ := hv
  obtain ⟨i0, hi, hz0, hz1, hz2⟩ := info_parts Tryd.infoPixel
  obtain ⟨how, hhow⟩ : ∃ how, (kk : Int) + 1 = how := ⟨_, rfl⟩
  rw [hhow]
  have HK8 := hide (show ∃ j : Nat, j < 8 ∧ how = (j : Int) + 1 ∧ mvAt kk = mvAt j from ⟨kk, hkk, hhow.symm, rfl⟩)
  generalize mvAt kk = m at *
  clear hhow hkk
  go_enter Tryd.func15, Tryd.ntmps15
  go_upto_if 16 with fail
  obtain ⟨a1, a2, a3⟩ := al3 w (Obj.cells #[.int .i64 W, .int .i64 H, .slice ao ps.length ca] 24) (Obj.cells #[.int .i64 0, .int .i64 0, .slice none 0 0] 24) (Obj.cells #[.int .i64 W, .int .i64 H, .slice none 0 0] 24)
  have hB := be3 w (Obj.cells #[.int .i64 W, .int .i64 H, .slice ao ps.length ca] 24) (Obj.cells #[.int .i64 0, .int .i64 0, .slice none 0 0] 24) (Obj.cells #[.int .i64 W, .int .i64 H, .slice none 0 0] 24)
  generalize ((w.alloc (Obj.cells #[.int .i64 W, .int .i64 H, .slice ao ps.length ca] 24)).alloc (Obj.cells #[.int .i64 0, .int .i64 0, .slice none 0 0] 24)).alloc (Obj.cells #[.int .i64 W, .int .i64 H, .slice none 0 0] 24) = U at *
  go_cut [5] from 10 to 22 (fun s v => s = .pointer (some ⟨w.heap.size + 2, 0, none⟩) ∧ v.heap[w.heap.size + 2]? = some (.cells #[.int .i64 TW, .int .i64 TH, .slice none 0 0] 24 (0, 0)) ∧ v.heap[w.heap.size]? = some (.cells #[.int .i64 W, .int .i64 H, .slice ao ps.length ca] 24 (0, 0)) ∧ v.heap[w.heap.size + 1]? = some (.cells #[.int .i64 0, .int .i64 0, .slice none 0 0] 24 (0, 0)) ∧ Below w.heap.size w v)
  case first =>
    obtain ⟨j, hj, hw, hmj⟩ := HK8.out
    by_cases h5 : 5 ≤ how
    · have hd : decide ((5 : Int) ≤ how) = true := decide_eq_true h5
      have hm1 : m.1 = true := by
        rw [hmj]
        have : j = 4 ∨ j = 5 ∨ j = 6 ∨ j = 7 := by omega
        rcases this with rfl | rfl | rfl | rfl <;> rfl
      clear hw hmj hj
      obtain rfl : TW = H := by rw [HTW.out, if_pos hm1]
      obtain rfl : TH = W := by rw [HTH.out, if_pos hm1]
      go_upto_region 3 with fail
      have g2 : U.heap[w.heap.size + 2]? = some (.cells #[.int .i64 TH, .int .i64 TW, .slice none 0 0] 24 (0, 0)) := a3
      obtain ⟨q0, q1, _⟩ := cells3 a1
      obtain ⟨z0, z1, z2⟩ := cells3 (b := w.heap.size + 1 + 1) g2
      have f0 := Lib.frozen_of_heap (b := w.heap.size + 1 + 1) g2 0
      have f1 := Lib.frozen_of_heap (b := w.heap.size + 1 + 1) g2 1
      have e1 := heap_setCell_same U (w.heap.size + 1 + 1) 0 _ _ (.int .i64 TW) g2
      have e2 := heap_setCell_same (U.setCell ⟨w.heap.size + 1 + 1, 0, none⟩ (.int .i64 TW)) (w.heap.size + 1 + 1) 1 _ _ (.int .i64 TH) e1
      have z1' := (show (U.setCell ⟨w.heap.size + 1 + 1, 0, none⟩ (.int .i64 TW)).cell? ⟨w.heap.size + 1 + 1, 1, none⟩ = some (.int .i64 TW) by rw [Lib.cell_of_heap e1]; rfl)
      have hk : ∀ b, b ≠ w.heap.size + 1 + 1 → ((U.setCell ⟨w.heap.size + 1 + 1, 0, none⟩ (.int .i64 TW)).setCell ⟨w.heap.size + 1 + 1, 1, none⟩ (.int .i64 TH)).heap[b]? = U.heap[b]? := fun b hb => (heap_setCell_other _ ⟨w.heap.size + 1 + 1, 1, none⟩ b _ (fun e => hb e)).trans (heap_setCell_other _ ⟨w.heap.size + 1 + 1, 0, none⟩ b _ (fun e => hb e))
      have hBf : Below w.heap.size w ((U.setCell ⟨w.heap.size + 1 + 1, 0, none⟩ (.int .i64 TW)).setCell ⟨w.heap.size + 1 + 1, 1, none⟩ (.int .i64 TH)) := hB.trans ⟨rfl, rfl, rfl, by simp [World.setCell], fun b hb => hk b (by omega)⟩
      have hSd : (fun v : World => v.cell? ⟨w.heap.size, 0, none⟩ = some (.int .i64 TH) ∧ v.cell? ⟨w.heap.size, 1, none⟩ = some (.int .i64 TW)) U.drew := ⟨q0, q1⟩
      have hmx : Tryd.prog.follows .mixedOrders = true := by kernel_rfl
      refine wp_region_last (S := fun v : World => v.cell? ⟨w.heap.size, 0, none⟩ = some (.int .i64 TH) ∧ v.cell? ⟨w.heap.size, 1, none⟩ = some (.int .i64 TW)) (f := 7) hmx ?_
      show wpAnyF _ _ _ _ _ _ 8 _ _ U.drew
      refine wpAnyF_takeP (i := 0) (oi := _) (v := ?vv1) (some 17) [] rfl rfl (by kernel_rfl) (by kernel_rfl) (by kernel_rfl) (by kernel_rfl) (by kernel_rfl) (fun _ _ _ h => h) (Or.inl ⟨by rfl, ?yy1⟩) hSd ?rr1
      case yy1 => (intro wq hSq; obtain ⟨_, _⟩ := hSq; go_simp <;> with_reducible rfl)
      simp only [Act.put, List.setIfInBounds_toArray, List.set_cons_succ, List.set_cons_zero]
      refine wpAnyF_takeP (i := 2) (oi := _) (v := ?vv2) (some 19) [] rfl rfl (by kernel_rfl) (by kernel_rfl) (by kernel_rfl) (by kernel_rfl) (by kernel_rfl) (fun _ _ _ h => h) (Or.inl ⟨by rfl, ?yy2⟩) hSd ?rr2
      case yy2 => (intro wq hSq; obtain ⟨_, _⟩ := hSq; go_simp <;> with_reducible rfl)
      simp only [Act.put, List.setIfInBounds_toArray, List.set_cons_succ, List.set_cons_zero]
      refine wpAnyF_takeP (i := 1) (oi := _) (v := ?vv3) (some 18) [] rfl rfl (by kernel_rfl) (by kernel_rfl) (by kernel_rfl) (by kernel_rfl) (by kernel_rfl) (fun _ _ _ h => h) (Or.inl ⟨by rfl, ?yy3⟩) hSd ?rr3
      case yy3 => (intro wq hSq; obtain ⟨_, _⟩ := hSq; go_simp <;> with_reducible rfl)
      simp only [Act.put, List.setIfInBounds_toArray, List.set_cons_succ, List.set_cons_zero]
      refine wpAnyF_takeP (i := 3) (oi := _) (v := ?vv4) (some 20) [] rfl rfl (by kernel_rfl) (by kernel_rfl) (by kernel_rfl) (by kernel_rfl) (by kernel_rfl) (fun _ _ _ h => h) (Or.inl ⟨by rfl, ?yy4⟩) hSd ?rr4
      case yy4 => (intro wq hSq; obtain ⟨_, _⟩ := hSq; go_simp <;> with_reducible rfl)
      simp only [Act.put, List.setIfInBounds_toArray, List.set_cons_succ, List.set_cons_zero]
      refine wpAnyF_takeP (i := 4) (oi := _) (v := ?vv5) (some 21) [] rfl rfl (by kernel_rfl) (by kernel_rfl) (by kernel_rfl) (by kernel_rfl) (by kernel_rfl) (fun _ _ _ h => h) (Or.inl ⟨by rfl, ?yy5⟩) hSd ?rr5
      case yy5 => (intro wq hSq; obtain ⟨_, _⟩ := hSq; go_simp <;> with_reducible rfl)
      simp only [Act.put, List.setIfInBounds_toArray, List.set_cons_succ, List.set_cons_zero]
      refine wpAnyF_one (i := 5) (o := _) (by kernel_rfl) rfl (fun K' hK => ?_)
      rw [if_pos (by rfl)]
      go_simp
      have hSd := (⟨(World.cell?_setCell_far _ ⟨w.heap.size + 1 + 1, 0, none⟩ ⟨w.heap.size, 0, none⟩ _ (show w.heap.size + 1 + 1 ≠ w.heap.size by omega)).trans q0, (World.cell?_setCell_far _ ⟨w.heap.size + 1 + 1, 0, none⟩ ⟨w.heap.size, 1, none⟩ _ (show w.heap.size + 1 + 1 ≠ w.heap.size by omega)).trans q1⟩ : (fun v : World => v.cell? ⟨w.heap.size, 0, none⟩ = some (.int .i64 TH) ∧ v.cell? ⟨w.heap.size, 1, none⟩ = some (.int .i64 TW)) (U.setCell ⟨w.heap.size + 1 + 1, 0, none⟩ (.int .i64 TW)).drew)
      refine hK.out _ _ hSd ?_
      clear hK
      try simp only [Act.put]
      refine wpAnyF_takeP (i := 6) (oi := _) (v := ?vv6) (some 22) [] rfl rfl (by kernel_rfl) (by kernel_rfl) (by kernel_rfl) (by kernel_rfl) (by kernel_rfl) (fun _ _ _ h => h) (Or.inl ⟨by rfl, ?yy6⟩) hSd ?rr6
      case yy6 => (intro wq hSq; obtain ⟨_, _⟩ := hSq; go_simp <;> with_reducible rfl)
      simp only [Act.put, List.setIfInBounds_toArray, List.set_cons_succ, List.set_cons_zero]
      refine wpAnyF_last (o := _) (by kernel_rfl) rfl (fun K' hK => ?_)
      rw [if_pos (by rfl)]
      go_simp
      refine hK.out _ _ ?_
      clear hK
      refine wpAnyF_done (by kernel_rfl) ?_ _
      try simp only [Act.put]
      clear hSd
      go_wp2
      go_meet
      case rel => exact ⟨rfl, e2, (hk _ (by omega)).trans a1, (hk _ (by omega)).trans a2, hBf.drew⟩
    · have hd : decide ((5 : Int) ≤ how) = false := decide_eq_false h5
      have hm1 : ¬ m.1 = true := by
        rw [hmj]
        have : j = 0 ∨ j = 1 ∨ j = 2 ∨ j = 3 := by omega
        rcases this with rfl | rfl | rfl | rfl <;> decide
      clear hw hmj hj
      obtain rfl : TW = W := by rw [HTW.out, if_neg hm1]
      obtain rfl : TH = H := by rw [HTH.out, if_neg hm1]
      go_wp2
      go_meet
      case rel => exact ⟨rfl, a3, a1, a2, hB⟩
  case rest =>
    obtain ⟨rfl, b3, b1, b2, hB2⟩ := hcut
    clear a1 a2 a3 hB
    go_wp2_with fail
    go_loopw [6] (fun i wr => ∃ Y : Nat, Y ≤ TH ∧ i = .int .i64 Y ∧ TuJ w W H TW TH (.slice ao ps.length ca) L (Y * TW) wr) (fun i _ => TH - (intOf i).toNat)
    case atStart => exact ⟨0, Nat.zero_le _, rfl, none, 0, by rw [Nat.zero_mul]; exact b3, by rw [Nat.zero_mul]; exact World.ownsRow_nil _ _ _ _, b1, b2, hB2⟩
    case round =>
      clear b1 b2 b3 hB2
      obtain ⟨Y, hY, rfl, hJ⟩ := hrel
      have HJ := hide hJ
      obtain ⟨so, scap, j1, j2, j3, j4, j5⟩ := hJ
      obtain ⟨q0, q1, q2⟩ := cells3 (b := w.heap.size + 1 + 1) j1
      by_cases hlt : Y < TH
      · have hd : decide ((Y : Int) < (TH : Int)) = true := decide_eq_true (by omega)
        obtain ⟨M, hM⟩ : ∃ M, M = Y * TW := ⟨_, rfl⟩
        rw [← hM] at HJ j1 j2
        have hMM : M + TW ≤ ps.length := by rw [← HNN.out, hM, ← Nat.succ_mul]; exact Nat.mul_le_mul_right _ hlt
        have HM := hide hM
        clear hM
        go_wp2_with fail
        go_loopw [7] (fun i wr => ∃ X : Nat, X ≤ TW ∧ i = .int .i64 X ∧ TuJ w W H TW TH (.slice ao ps.length ca) L (M + X) wr) (fun i _ => TW - (intOf i).toNat)
        case atStart => exact ⟨0, Nat.zero_le _, rfl, HJ.out⟩
        case round =>
          clear j1 j2 j3 j4 j5 q0 q1 q2 HJ hd
          obtain ⟨X, hX, rfl, hJ⟩ := hrel
          obtain ⟨so, scap, j1, j2, j3, j4, j5⟩ := hJ
          obtain ⟨t0, t1, t2⟩ := cells3 (b := w.heap.size + 1 + 1) j1
          by_cases hlx : X < TW
          · have hdx : decide ((X : Int) < (TW : Int)) = true := decide_eq_true (by omega)
            obtain ⟨⟨s1, s2⟩, s3, s4⟩ := HSRC.out X Y hlx hlt
            obtain ⟨k, hkd⟩ : ∃ k, M + X = k := ⟨_, rfl⟩
            rw [hkd] at j1 j2
            have hk : k < ps.length := by omega
            have HK := hide hkd
            have hkY : Y * TW + X = k := by rw [← HM.out]; exact hkd
            obtain ⟨hpm, hpd⟩ : (Y * TW + X) % TW = X ∧ (Y * TW + X) / TW = Y := turn_place hlx
            rw [hkY] at hpm hpd
            have HT := hide (HTP.out k)
            rw [hpm, hpd] at HT
            have hsn : srcN m W H X Y = (srcY m H X Y).toNat * W + (srcX m W X Y).toNat := rfl
            obtain ⟨SX, hSX⟩ := Int.eq_ofNat_of_zero_le s1
            obtain ⟨SY, hSY⟩ := Int.eq_ofNat_of_zero_le s3
            have HSX := hide hSX
            have HSY := hide hSY
            rw [hSX, hSY] at hsn
            simp only [Int.toNat_natCast] at hsn
            rw [hSX] at s2
            rw [hSY] at s4
            obtain ⟨D, hD⟩ : ∃ D, srcN m W H X Y = D := ⟨_, rfl⟩
            rw [hD] at hsn HT
            have hDl : D < ps.length := by
              have h1 := Nat.mul_le_mul_right W (show SY + 1 ≤ H by omega)
              rw [Nat.add_mul, Nat.one_mul] at h1
              rw [HLEN.out]; omega
            have hw64 : X ≤ 64 ∧ Y ≤ 64 := by omega
            clear hSX hSY s1 s3 hD
            obtain ⟨q0, q1, q2⟩ := cells3 j3
            have HSW := hide (show ∀ j : Nat, j < 8 → how = (j : Int) + 1 → m = mvAt j → (decide ((5 : Int) ≤ how) = m.1) ∧ ((how == 2 || how == 3 || how == 7 || how == 8) = m.2.1) ∧ ((how == 3 || how == 4 || how == 6 || how == 7) = m.2.2) from fun j hj hw hmj => by
              subst hw
              rw [hmj]
              have h8 : j = 0 ∨ j = 1 ∨ j = 2 ∨ j = 3 ∨ j = 4 ∨ j = 5 ∨ j = 6 ∨ j = 7 := by omega
              rcases h8 with rfl | rfl | rfl | rfl | rfl | rfl | rfl | rfl <;> decide)
            have HSXD := hide (show SX = if m.2.1 = true then (W : Int) - 1 - (if m.1 = true then (Y : Int) else X) else if m.1 = true then (Y : Int) else X from by rw [← HSX.out]; rfl)
            have HSYD := hide (show SY = if m.2.2 = true then (H : Int) - 1 - (if m.1 = true then (X : Int) else Y) else if m.1 = true then (X : Int) else Y from by rw [← HSY.out]; rfl)
            obtain ⟨PX, hPX⟩ : ∃ PX, (if m.1 = true then Y else X) = PX := ⟨_, rfl⟩
            obtain ⟨PY, hPY⟩ : ∃ PY, (if m.1 = true then X else Y) = PY := ⟨_, rfl⟩
            have hP1 : (if m.1 = true then (Y : Int) else X) = (PX : Int) := by rw [← hPX]; split <;> rfl
            have hP2 : (if m.1 = true then (X : Int) else Y) = (PY : Int) := by rw [← hPY]; split <;> rfl
            have hPl : PX ≤ 64 ∧ PY ≤ 64 := by rw [← hPX, ← hPY]; split <;> omega
            rw [hP1] at HSXD
            rw [hP2] at HSYD
            have HP1 := hide hPX
            have HP2 := hide hPY
            clear hP1 hP2 hPX hPY
            have HHW := hide (show (decide ((5 : Int) ≤ how) = m.1) ∧ ((how == 2 || how == 3 || how == 7 || how == 8) = m.2.1) ∧ ((how == 3 || how == 4 || how == 6 || how == 7) = m.2.2) from by
              obtain ⟨j, h1, h2, h3⟩ := HK8.out
              exact HSW.out j h1 h2 h3)
            clear HSW
            obtain ⟨B1, hB1⟩ : ∃ B1, m.2.1 = B1 := ⟨_, rfl⟩
            obtain ⟨B2, hB2⟩ : ∃ B2, m.2.2 = B2 := ⟨_, rfl⟩
            rw [hB1] at HHW HSXD
            rw [hB2] at HHW HSYD
            have HB1 := hide HHW.out.2.1
            have HB2 := hide HHW.out.2.2
            clear hB1 hB2
            go_upto_if 38 with fail
            go_cut [8, 9] from 29 to 93 (fun p q wv => p = .int .i64 (PX : Nat) ∧ q = .int .i64 (PY : Nat) ∧ wv = wr)
            case first =>
              have hh := HHW.out.1
              cases hm1 : m.1
              · rw [hm1] at hh
                have h5 := of_decide_eq_false hh
                obtain rfl : X = PX := by rw [← HP1.out, if_neg (by rw [hm1]; decide)]
                obtain rfl : Y = PY := by rw [← HP2.out, if_neg (by rw [hm1]; decide)]
                go_wp2
                go_meet
                case rel => exact ⟨rfl, rfl, rfl⟩
              · rw [hm1] at hh
                have h5 := of_decide_eq_true hh
                obtain rfl : Y = PX := by rw [← HP1.out, if_pos hm1]
                obtain rfl : X = PY := by rw [← HP2.out, if_pos hm1]
                go_wp2
                go_meet
                case rel => exact ⟨rfl, rfl, rfl⟩
            case rest =>
              obtain ⟨rfl, rfl, rfl⟩ := hcut
              go_upto_region 13 with fail
              go_cut [54] from 29 to 93 (fun c wv => c = .bool B1 ∧ wv = wc)
              case first =>
                by_cases hA : how = 2
                · have hh := HB1.out
                  subst hA; go_wp2; go_meet; case rel => exact ⟨congrArg Value.bool (by rw [← hh]; rfl), rfl⟩
                · have bA : (how == 2) = false := by simpa using hA
                  by_cases hB : how = 3
                  · have hh := HB1.out
                    subst hB; go_wp2; go_meet; case rel => exact ⟨congrArg Value.bool (by rw [← hh]; rfl), rfl⟩
                  · have bB : (how == 3) = false := by simpa using hB
                    by_cases hC : how = 7
                    · have hh := HB1.out
                      subst hC; go_wp2; go_meet; case rel => exact ⟨congrArg Value.bool (by rw [← hh]; rfl), rfl⟩
                    · have bC : (how == 7) = false := by simpa using hC
                      by_cases hD : how = 8
                      · have hh := HB1.out
                        subst hD; go_wp2; go_meet; case rel => exact ⟨congrArg Value.bool (by rw [← hh]; rfl), rfl⟩
                      · have bD : (how == 8) = false := by simpa using hD
                        have hh := HB1.out
                        rw [bA, bB, bC, bD] at hh
                        clear hA hB hC hD
                        go_wp2; go_meet; case rel => exact ⟨congrArg Value.bool (by rw [← hh]; rfl), rfl⟩
              case rest =>
                obtain ⟨rfl, rfl⟩ := hcut
                go_upto_if 54 with fail
                go_cut [8] from 29 to 93 (fun p wv => p = .int .i64 (SX : Nat) ∧ wv = wc)
                case first =>
                  cases hB1 : B1
                  · rw [hB1] at HSXD
                    have hS := HSXD.out
                    rw [if_neg (by decide)] at hS
                    go_wp2; go_meet; case rel => exact ⟨by rw [hS], rfl⟩
                  · rw [hB1] at HSXD
                    have hS := HSXD.out
                    rw [if_pos rfl] at hS
                    have HS1 := hide hS
                    clear hS
                    go_wp2; go_meet; case rel => exact ⟨by rw [HS1.out], rfl⟩
                case rest =>
                  obtain ⟨rfl, rfl⟩ := hcut
                  go_upto_region 15 with fail
                  go_cut [73] from 29 to 93 (fun c wv => c = .bool B2 ∧ wv = wc)
                  case first =>
                    by_cases hA : how = 3
                    · have hh := HB2.out
                      subst hA; go_wp2; go_meet; case rel => exact ⟨congrArg Value.bool (by rw [← hh]; rfl), rfl⟩
                    · have bA : (how == 3) = false := by simpa using hA
                      by_cases hB : how = 4
                      · have hh := HB2.out
                        subst hB; go_wp2; go_meet; case rel => exact ⟨congrArg Value.bool (by rw [← hh]; rfl), rfl⟩
                      · have bB : (how == 4) = false := by simpa using hB
                        by_cases hC : how = 6
                        · have hh := HB2.out
                          subst hC; go_wp2; go_meet; case rel => exact ⟨congrArg Value.bool (by rw [← hh]; rfl), rfl⟩
                        · have bC : (how == 6) = false := by simpa using hC
                          by_cases hD : how = 7
                          · have hh := HB2.out
                            subst hD; go_wp2; go_meet; case rel => exact ⟨congrArg Value.bool (by rw [← hh]; rfl), rfl⟩
                          · have bD : (how == 7) = false := by simpa using hD
                            have hh := HB2.out
                            rw [bA, bB, bC, bD] at hh
                            clear hA hB hC hD
                            go_wp2; go_meet; case rel => exact ⟨congrArg Value.bool (by rw [← hh]; rfl), rfl⟩
                  case rest =>
                    obtain ⟨rfl, rfl⟩ := hcut
                    go_upto_if 73 with fail
                    go_cut [9] from 29 to 93 (fun p wv => p = .int .i64 (SY : Nat) ∧ wv = wc)
                    case first =>
                      cases hB2 : B2
                      · rw [hB2] at HSYD
                        have hS := HSYD.out
                        rw [if_neg (by decide)] at hS
                        go_wp2; go_meet; case rel => exact ⟨by rw [hS], rfl⟩
                      · rw [hB2] at HSYD
                        have hS := HSYD.out
                        rw [if_pos rfl] at hS
                        have HS1 := hide hS
                        clear hS
                        go_wp2; go_meet; case rel => exact ⟨by rw [HS1.out], rfl⟩
                    case rest =>
                      obtain ⟨rfl, rfl⟩ := hcut
                      obtain ⟨bk, off, rfl, hbl, hcell⟩ : ∃ b off, ao = some ⟨b, off, none⟩ ∧ b < w.heap.size ∧ ∀ j (h : j < ps.length), w.cell? ⟨b, off + j * 3, none⟩ = some (.int .i64 ps[j].1) ∧ w.cell? ⟨b, off + j * 3 + 1, none⟩ = some (.int .i64 ps[j].2.1) ∧ w.cell? ⟨b, off + j * 3 + 2, none⟩ = some (.int .i64 ps[j].2.2) := by
                        rcases hc with h | h
                        · rw [h] at hk; simp at hk
                        · exact h
                      obtain ⟨e0, e1, e2⟩ := hcell D hDl
                      rw [pxAt_get ps D hDl] at e0 e1 e2
                      obtain ⟨P, hP⟩ : ∃ P, pxAt ps D = P := ⟨_, rfl⟩
                      rw [hP] at e0 e1 e2 HT
                      obtain ⟨Q, hQ⟩ : ∃ Q, SY * W = Q := ⟨_, rfl⟩
                      have m1 : (SY : Int) * (W : Int) = (Q : Int) := by rw [← hQ]; simp
                      rw [hQ] at hsn
                      have m2 : (Q : Int) + (SX : Int) = (D : Int) := by omega
                      have m3 : IntKind.i64.wrap (Q : Int) = (Q : Int) := IntWalk.i64_in _ (by omega)
                      have m4 : IntKind.i64.wrap (D : Int) = (D : Int) := IntWalk.i64_in _ (by omega)
                      have m5 : (D : Int) < (ps.length : Int) := by omega
                      have HST := hide (show (L.take (k + 1)).flatMap pixL = (L.take k).flatMap pixL ++ pixL P by
                        have hk2 : k < L.length := by rw [HLL.out]; exact hk
                        have hg := HLG.out k hk
                        rw [List.getElem?_eq_getElem hk2] at hg
                        rw [List.take_succ_eq_append_getElem hk2, Option.some.inj hg, List.flatMap_append, HT.out]; simp)
                      obtain ⟨XS, hXS⟩ : ∃ XS, (L.take k).flatMap pixL = XS := ⟨_, rfl⟩
                      rw [hXS] at j2 HST
                      have hbW := j5.size
                      have HL1 := hide (show k + 1 ≤ maxLen by unfold maxLen; omega)
                      have HL2 := hide (show (k + 1) * 24 ≤ 140737488355328 by omega)
                      have nq := own_ne j2 j3 (by decide)
                      have nz := own_ne j2 j4 (by decide)
                      have l3 := (Array.getElem?_eq_some_iff.1 j3).1
                      have l4 := (Array.getElem?_eq_some_iff.1 j4).1
                      clear hP hQ hXS hpm hpd hkY hkd q0 q1 q2 t0 t1 t2 hcell hdx hsn
                      have HS := hide (show ∀ v, Below wc.heap.size wc v → v.cell? ⟨w.heap.size + 1 + 1, 2, none⟩ = some (.slice so k scap) ∧ v.cell? ⟨w.heap.size, 0, none⟩ = some (.int .i64 W) ∧ v.cell? ⟨w.heap.size, 2, none⟩ = some (.slice (some ⟨bk, off, none⟩) ps.length ca) ∧ v.cell? ⟨bk, off + D * 3, none⟩ = some (.int .i64 P.1) ∧ v.cell? ⟨bk, off + D * 3 + 1, none⟩ = some (.int .i64 P.2.1) ∧ v.cell? ⟨bk, off + D * 3 + 2, none⟩ = some (.int .i64 P.2.2) from fun v h => by
                        obtain ⟨_, _, t2⟩ := cells3 ((h.block (w.heap.size + 2) (Array.getElem?_eq_some_iff.1 j1).1).trans j1)
                        obtain ⟨u0, _, u2⟩ := cells3 ((h.block _ l3).trans j3)
                        have hV := j5.trans (h.mono j5.size)
                        exact ⟨t2, u0, u2, (hV.cell (p := ⟨bk, off + D * 3, none⟩) hbl).trans e0, (hV.cell (p := ⟨bk, off + D * 3 + 1, none⟩) hbl).trans e1, (hV.cell (p := ⟨bk, off + D * 3 + 2, none⟩) hbl).trans e2⟩)
                      have HTL := hide (show ∀ (V1 : World) (gg cap : Nat) (w3 : World), Below wc.heap.size wc V1 → V1.grownBy w3 (Value.slice so k scap).ownBlock → w3.ownsRow w.heap.size 51 3 (.slice (some ⟨gg, 0, none⟩) (k + 1) cap) (k + 1) (XS ++ pixL P) → (w3.cell? ⟨w.heap.size + 1 + 1, 2, none⟩ = some (.slice so k scap) ∧ w3.cell? ⟨w.heap.size, 0, none⟩ = some (.int .i64 W) ∧ w3.cell? ⟨w.heap.size, 2, none⟩ = some (.slice (some ⟨bk, off, none⟩) ps.length ca) ∧ w3.cell? ⟨bk, off + D * 3, none⟩ = some (.int .i64 P.1) ∧ w3.cell? ⟨bk, off + D * 3 + 1, none⟩ = some (.int .i64 P.2.1) ∧ w3.cell? ⟨bk, off + D * 3 + 2, none⟩ = some (.int .i64 P.2.2)) ∧ w3.frozen? ⟨w.heap.size + 1 + 1, 2, none⟩ = false ∧ TuJ w W H TW TH (.slice (some ⟨bk, off, none⟩) ps.length ca) L (k + 1) (w3.setCell ⟨w.heap.size + 1 + 1, 2, none⟩ (.slice (some ⟨gg, 0, none⟩) (k + 1) cap)) from fun V1 gg cap w3 h1 h2 h3 => by
                        obtain ⟨t1, t2, t3, t4, t5, t6, t7⟩ := app_gen (by decide) j1 j2 j5 (Nat.le_refl _) (by omega) h1 h2 h3
                        obtain ⟨u0, _, u2⟩ := cells3 ((t1 _ l3 nq).trans j3)
                        have hbo : ∀ b, some b = (Value.slice so k scap).ownBlock → w.heap.size ≤ b := fun b hb => (j2.lt b hb.symm).1
                        have hpx : ∀ i, w3.cell? ⟨bk, i, none⟩ = w.cell? ⟨bk, i, none⟩ := fun i => World.cell?_of_block ((t1 bk (by omega) (fun e => by have := hbo bk e; omega)).trans (j5.block bk hbl))
                        exact ⟨⟨t2, u0, u2, (hpx _).trans e0, (hpx _).trans e1, (hpx _).trans e2⟩, t3, some ⟨gg, 0, none⟩, cap, t4, by rw [HST.out]; exact t5, (t7 _ l3 nq (by omega)).trans j3, (t7 _ l4 nz (by omega)).trans j4, t6⟩)
                      have hWd : Below wc.heap.size wc wc.drew := (Below.refl _ _).drew
                      go_upto_region 17 with fail
                      have hSd := HS.out _ hWd
                      clear j1 j3 j4 e0 e1 e2
                      have hmx : Tryd.prog.follows .mixedOrders = true := by kernel_rfl
                      refine wp_region_last (S := fun v : World => v.cell? ⟨w.heap.size + 1 + 1, 2, none⟩ = some (.slice so k scap) ∧ v.cell? ⟨w.heap.size, 0, none⟩ = some (.int .i64 W) ∧ v.cell? ⟨w.heap.size, 2, none⟩ = some (.slice (some ⟨bk, off, none⟩) ps.length ca) ∧ v.cell? ⟨bk, off + D * 3, none⟩ = some (.int .i64 P.1) ∧ v.cell? ⟨bk, off + D * 3 + 1, none⟩ = some (.int .i64 P.2.1) ∧ v.cell? ⟨bk, off + D * 3 + 2, none⟩ = some (.int .i64 P.2.2)) (f := 15) hmx ?_
                      show wpAnyF _ _ _ _ _ _ 16 _ _ wc.drew
                      refine wpAnyF_takeP (i := 0) (oi := _) (v := ?vv7) (some 79) [] rfl rfl (by kernel_rfl) (by kernel_rfl) (by kernel_rfl) (by kernel_rfl) (by kernel_rfl) (fun _ _ _ h => h) (Or.inl ⟨by rfl, ?yy7⟩) hSd ?rr7
                      case yy7 => (intro wq hSq; obtain ⟨_, _, _, _, _, _⟩ := hSq; go_simp <;> with_reducible rfl)
                      simp only [Act.put, List.setIfInBounds_toArray, List.set_cons_succ, List.set_cons_zero]
                      refine wpAnyF_takeP (i := 2) (oi := _) (v := ?vv8) (some 81) [] rfl rfl (by kernel_rfl) (by kernel_rfl) (by kernel_rfl) (by kernel_rfl) (by kernel_rfl) (fun _ _ _ h => h) (Or.inl ⟨by rfl, ?yy8⟩) hSd ?rr8
                      case yy8 => (intro wq hSq; obtain ⟨_, _, _, _, _, _⟩ := hSq; go_simp <;> with_reducible rfl)
                      simp only [Act.put, List.setIfInBounds_toArray, List.set_cons_succ, List.set_cons_zero]
                      refine wpAnyF_takeP (i := 4) (oi := _) (v := ?vv9) (some 83) [] rfl rfl (by kernel_rfl) (by kernel_rfl) (by kernel_rfl) (by kernel_rfl) (by kernel_rfl) (fun _ _ _ h => h) (Or.inl ⟨by rfl, ?yy9⟩) hSd ?rr9
                      case yy9 => (intro wq hSq; obtain ⟨_, _, _, _, _, _⟩ := hSq; go_simp <;> with_reducible rfl)
                      simp only [Act.put, List.setIfInBounds_toArray, List.set_cons_succ, List.set_cons_zero]
                      refine wpAnyF_takeP (i := 5) (oi := _) (v := ?vv10) (some 84) [] rfl rfl (by kernel_rfl) (by kernel_rfl) (by kernel_rfl) (by kernel_rfl) (by kernel_rfl) (fun _ _ _ h => h) (Or.inl ⟨by rfl, ?yy10⟩) hSd ?rr10
                      case yy10 => (intro wq hSq; obtain ⟨_, _, _, _, _, _⟩ := hSq; go_simp <;> with_reducible rfl)
                      simp only [Act.put, List.setIfInBounds_toArray, List.set_cons_succ, List.set_cons_zero]
                      refine wpAnyF_takeP (i := 8) (oi := _) (v := ?vv11) (some 87) [] rfl rfl (by kernel_rfl) (by kernel_rfl) (by kernel_rfl) (by kernel_rfl) (by kernel_rfl) (fun _ _ _ h => h) (Or.inl ⟨by rfl, ?yy11⟩) hSd ?rr11
                      case yy11 => (intro wq hSq; obtain ⟨_, _, _, _, _, _⟩ := hSq; go_simp <;> with_reducible rfl)
                      simp only [Act.put, List.setIfInBounds_toArray, List.set_cons_succ, List.set_cons_zero]
                      refine wpAnyF_takeP (i := 1) (oi := _) (v := ?vv12) (some 80) [] rfl rfl (by kernel_rfl) (by kernel_rfl) (by kernel_rfl) (by kernel_rfl) (by kernel_rfl) (fun _ _ _ h => h) (Or.inl ⟨by rfl, ?yy12⟩) hSd ?rr12
                      case yy12 => (intro wq hSq; obtain ⟨_, _, _, _, _, _⟩ := hSq; go_simp <;> with_reducible rfl)
                      simp only [Act.put, List.setIfInBounds_toArray, List.set_cons_succ, List.set_cons_zero]
                      refine wpAnyF_takeP (i := 3) (oi := _) (v := ?vv13) (some 82) [] rfl rfl (by kernel_rfl) (by kernel_rfl) (by kernel_rfl) (by kernel_rfl) (by kernel_rfl) (fun _ _ _ h => h) (Or.inl ⟨by rfl, ?yy13⟩) hSd ?rr13
                      case yy13 => (intro wq hSq; obtain ⟨_, _, _, _, _, _⟩ := hSq; go_simp <;> with_reducible rfl)
                      simp only [Act.put, List.setIfInBounds_toArray, List.set_cons_succ, List.set_cons_zero]
                      refine wpAnyF_takeP (i := 6) (oi := _) (v := ?vv14) (some 85) [] rfl rfl (by kernel_rfl) (by kernel_rfl) (by kernel_rfl) (by kernel_rfl) (by kernel_rfl) (fun _ _ _ h => h) (Or.inl ⟨by rfl, ?yy14⟩) hSd ?rr14
                      case yy14 => (intro wq hSq; obtain ⟨_, _, _, _, _, _⟩ := hSq; go_simp <;> with_reducible rfl)
                      simp only [Act.put, List.setIfInBounds_toArray, List.set_cons_succ, List.set_cons_zero]
                      refine wpAnyF_takeP (i := 7) (oi := _) (v := ?vv15) (some 86) [] rfl rfl (by kernel_rfl) (by kernel_rfl) (by kernel_rfl) (by kernel_rfl) (by kernel_rfl) (fun _ _ _ h => h) (Or.inl ⟨by rfl, ?yy15⟩) hSd ?rr15
                      case yy15 => (intro wq hSq; obtain ⟨_, _, _, _, _, _⟩ := hSq; go_simp <;> with_reducible rfl)
                      simp only [Act.put, List.setIfInBounds_toArray, List.set_cons_succ, List.set_cons_zero]
                      refine wpAnyF_takeP (i := 9) (oi := _) (v := ?vv16) (some 88) [] rfl rfl (by kernel_rfl) (by kernel_rfl) (by kernel_rfl) (by kernel_rfl) (by kernel_rfl) (fun _ _ _ h => h) (Or.inl ⟨by rfl, ?yy16⟩) hSd ?rr16
                      case yy16 => (intro wq hSq; obtain ⟨_, _, _, _, _, _⟩ := hSq; go_simp <;> with_reducible rfl)
                      simp only [Act.put, List.setIfInBounds_toArray, List.set_cons_succ, List.set_cons_zero]
                      refine wpAnyF_takeP (i := 10) (oi := _) (v := ?vv17) (some 89) [] rfl rfl (by kernel_rfl) (by kernel_rfl) (by kernel_rfl) (by kernel_rfl) (by kernel_rfl) (fun _ _ _ h => h) (Or.inl ⟨by rfl, ?yy17⟩) hSd ?rr17
                      case yy17 => (intro wq hSq; obtain ⟨_, _, _, _, _, _⟩ := hSq; go_simp <;> with_reducible rfl)
                      simp only [Act.put, List.setIfInBounds_toArray, List.set_cons_succ, List.set_cons_zero]
                      refine wpAnyF_takeP (i := 11) (oi := _) (v := ?vv18) (some 90) [] rfl rfl (by kernel_rfl) (by kernel_rfl) (by kernel_rfl) (by kernel_rfl) (by kernel_rfl) (fun _ _ _ h => h) (Or.inl ⟨by rfl, ?yy18⟩) hSd ?rr18
                      case yy18 => (intro wq hSq; obtain ⟨_, _, _, _, _, _⟩ := hSq; go_simp <;> with_reducible rfl)
                      simp only [Act.put, List.setIfInBounds_toArray, List.set_cons_succ, List.set_cons_zero]
                      refine wpAnyF_one (i := 12) (o := _) (by kernel_rfl) rfl (fun K' hK => ?_)
                      rw [if_pos (by rfl)]
                      go_simp
                      have hBs : Below wc.heap.size wc (wc.alloc (Obj.cells #[.int .i64 P.1, .int .i64 P.2.1, .int .i64 P.2.2] 51)).drew := (bel_alloc wc _).drew
                      have hSd := HS.out _ hBs
                      refine hK.out _ _ hSd ?_
                      clear hK
                      try simp only [Act.put]
                      refine wpAnyF_one (i := 13) (o := _) (by kernel_rfl) rfl (fun K' hK => ?_)
                      refine step_append_lies _ rfl _ _ 22 rfl w.heap.size 51 i0 pixZ 3 24 Tryd.underlying22 hi hz0 hz1 hz2 rfl (by decide) (.slice so k scap) k XS rfl ((j2.alloc _).drew) ⟨wc.heap.size, 0, none⟩ 1 1 (pixL P) rfl rfl (World.news_of_block (w := (wc.alloc (Obj.cells #[.int .i64 P.1, .int .i64 P.2.1, .int .i64 P.2.2] 51)).drew) (al1 wc _)) (fun u hu => by simp [pixL] at hu; rcases hu with rfl | rfl | rfl <;> rfl) Nat.one_pos HL1.out HL2.out (Nat.le_trans hbW hBs.size) _ rfl ?_
                      intro gg cap w3 hown hgrow hat hltg
                      obtain ⟨hSx, p2f, HFIN⟩ := HTL.out _ gg cap w3 hBs hgrow hown
                      have hSd := hSx
                      refine hK.out _ _ hSd ?_
                      clear hK
                      try simp only [Act.put]
                      refine wpAnyF_takeP (i := 14) (oi := _) (v := ?vv19) (some 93) [] rfl rfl (by kernel_rfl) (by kernel_rfl) (by kernel_rfl) (by kernel_rfl) (by kernel_rfl) (fun _ _ _ h => h) (Or.inl ⟨by rfl, ?yy19⟩) hSd ?rr19
                      case yy19 => (intro wq hSq; obtain ⟨_, _, _, _, _, _⟩ := hSq; go_simp <;> with_reducible rfl)
                      try simp only [Act.put]
                      refine wpAnyF_last (o := _) (by kernel_rfl) rfl (fun K' hK => ?_)
                      rw [if_pos (by rfl)]
                      go_simp
                      refine hK.out _ _ ?_
                      clear hK
                      refine wpAnyF_done (by kernel_rfl) ?_ _
                      try simp only [Act.put]
                      go_wp2
                      go_roundw
                      case rel => exact ⟨X + 1, by omega, by go_num, by rw [show M + (X + 1) = k + 1 by have := HK.out; omega]; exact HFIN⟩
                      case measure => simp [intOf]; omega
          · have hdx : decide ((X : Int) < (TW : Int)) = false := decide_eq_false (by omega)
            have h3 : X = TW := by omega
            subst h3
            have HJ1 := hide (show TuJ w W H X TH (.slice ao ps.length ca) L ((Y + 1) * X) wr from ⟨so, scap, by rw [Nat.succ_mul, ← HM.out]; exact j1, by rw [Nat.succ_mul, ← HM.out]; exact j2, j3, j4, j5⟩)
            go_wp2
            go_roundw
            case rel => exact ⟨Y + 1, by omega, by go_num, HJ1.out⟩
            case measure => simp [intOf]; omega
      · have hd : decide ((Y : Int) < (TH : Int)) = false := decide_eq_false (by omega)
        obtain rfl : Y = TH := by omega
        rw [HNN.out] at j1 j2
        rw [List.take_of_length_le (by rw [HLL.out]; exact Nat.le_refl _)] at j2
        clear q0 q1 q2
        obtain ⟨p0, p1, p2⟩ := cells3 (b := w.heap.size + 1 + 1) j1
        obtain ⟨z0, z1, z2⟩ := cells3 j4
        have f0 := Lib.frozen_of_heap j4 0
        have f1 := Lib.frozen_of_heap j4 1
        have f2 := Lib.frozen_of_heap j4 2
        have HFI := hide (set3_below j5 (show w.heap.size ≤ w.heap.size + 1 by omega) (.int .i64 (TW : Nat)) (.int .i64 (Y : Nat)) (.slice so ps.length scap))
        have hpx : IsPix wr (.slice so ps.length scap) L := IsPix.own (base := w.heap.size) (ps := L) (v := .slice so ps.length scap) (by rw [HLL.out]; exact j2) (by rw [HLL.out]; omega)
        have hne : (Value.slice so ps.length scap).ownBlock ≠ some (w.heap.size + 1) := fun e => own_ne j2 j4 (by decide) e.symm
        have HX := hide (hpx.other (set3_size wr (w.heap.size + 1) (.int .i64 (TW : Nat)) (.int .i64 (Y : Nat)) (.slice so ps.length scap)) (fun b hb => set3_heap _ _ _ _ _ b hb) hne)
        have HF := hide (Fresh.own j2)
        clear hpx hne
        go_wp2
        exact bodyPost_ret (v := .agg #[.int .i64 (TW : Nat), .int .i64 (Y : Nat), .slice so ps.length scap]) (by simp [results, Tryd.results15, go_sem, z0, z1, z2]) rfl ⟨_, rfl, HX.out, HFI.out, HF.out⟩
end Go.Proofs.YtolcndchfnifhacDoor

namespace Go.Proofs.YtolcndchfnifhacDoor
set_option linter.unusedVariables false
open Go.RowKit
def sampL : List Px := [(1, 0, 0), (2, 0, 0), (3, 0, 0), (4, 0, 0), (5, 0, 0), (6, 0, 0)]
theorem pix_block (w : World) (ps : List Px) (cs : Array Value) (h : cs.toList = ps.flatMap pixL) (hl : ps.length ≤ 4096) : IsPix (w.alloc (.cells cs 51)) (.slice (some ⟨w.heap.size, 0, none⟩) ps.length ps.length) ps := by
  have hfl : (ps.flatMap pixL).length = ps.length * 3 := by
    clear h hl
    induction ps with
    | nil => rfl
    | cons p r ih => rw [List.flatMap_cons, List.length_append, ih]; simp [pixL]; omega
  have hs : cs.size = ps.length * 3 := by rw [← Array.length_toList, h, hfl]
  have ho := World.ownsRow_lit (base := w.heap.size) (e := 51) (size := 3) w cs ps.length (Nat.le_refl _) (by unfold maxLen; omega) hs
  rw [h] at ho
  exact IsPix.own ho (by omega)
set_option maxRecDepth 100000 in
theorem sample_any (w : World) : Calls Tryd.prog 30 #[] w fun e w' => ∃ r, e = .returned (.agg #[.int .i64 2, .int .i64 3, r]) ∧ IsPix w' r sampL ∧ Below w.heap.size w w' ∧ Fresh w.heap.size r := by
  go_enter Tryd.func30, Tryd.ntmps30
  go_wp2
  have hb := be2 w (Obj.cells #[.int .i64 2, .int .i64 3, .slice (some ⟨w.heap.size + 1, 0, none⟩) 6 6] 24) (Obj.cells #[.int .i64 1, .int .i64 0, .int .i64 0, .int .i64 2, .int .i64 0, .int .i64 0, .int .i64 3, .int .i64 0, .int .i64 0, .int .i64 4, .int .i64 0, .int .i64 0, .int .i64 5, .int .i64 0, .int .i64 0, .int .i64 6, .int .i64 0, .int .i64 0] 51)
  have hI := pix_block (w.alloc (Obj.cells #[.int .i64 2, .int .i64 3, .slice (some ⟨w.heap.size + 1, 0, none⟩) 6 6] 24)) sampL #[.int .i64 1, .int .i64 0, .int .i64 0, .int .i64 2, .int .i64 0, .int .i64 0, .int .i64 3, .int .i64 0, .int .i64 0, .int .i64 4, .int .i64 0, .int .i64 0, .int .i64 5, .int .i64 0, .int .i64 0, .int .i64 6, .int .i64 0, .int .i64 0] rfl (by decide)
  rw [World.size_alloc] at hI
  have a1 := (al2 w (Obj.cells #[.int .i64 2, .int .i64 3, .slice (some ⟨w.heap.size + 1, 0, none⟩) 6 6] 24) (Obj.cells #[.int .i64 1, .int .i64 0, .int .i64 0, .int .i64 2, .int .i64 0, .int .i64 0, .int .i64 3, .int .i64 0, .int .i64 0, .int .i64 4, .int .i64 0, .int .i64 0, .int .i64 5, .int .i64 0, .int .i64 0, .int .i64 6, .int .i64 0, .int .i64 0] 51)).1
  obtain ⟨z0, z1, z2⟩ := cells3 a1
  exact bodyPost_ret (v := .agg #[.int .i64 2, .int .i64 3, .slice (some ⟨w.heap.size + 1, 0, none⟩) 6 6]) (by simp [results, Tryd.results30, go_sem]) rfl ⟨_, rfl, hI, hb, ⟨fun b hb => by simp [Value.ownBlock] at hb; omega, Nat.le_refl _⟩⟩
def oneOf (a b : Nat) : Nat × Nat × List Px := (turnedN (mvAt b) (turnedN (mvAt a) 2 3) (turnedN (mvAt a) 3 2), turnedN (mvAt b) (turnedN (mvAt a) 3 2) (turnedN (mvAt a) 2 3), turnL (turnedN (mvAt a) 2 3) (turnedN (mvAt a) 3 2) (turnL 2 3 sampL (mvAt a)) (mvAt b))
def onceOf (k : Nat) : Nat × Nat × List Px := (turnedN (mvAt k) 2 3, turnedN (mvAt k) 3 2, turnL 2 3 sampL (mvAt k))
def oneB (a b c : Nat) : Bool := decide (howN (thenM (mvAt a) (mvAt b)) = c + 1) && decide (onceOf c = oneOf a b) && (List.range c).all fun j => decide (onceOf j ≠ oneOf a b)
theorem one_all : ((List.range 8).all fun a => (List.range 8).all fun b => (List.range 8).any (oneB a b)) = true := by decide +kernel
theorem one_first (a b : Nat) (ha : a < 8) (hb : b < 8) : ∃ c, c < 8 ∧ howN (thenM (mvAt a) (mvAt b)) = c + 1 ∧ onceOf c = oneOf a b ∧ ∀ j, j < c → onceOf j ≠ oneOf a b := by
  have h := List.all_eq_true.1 (List.all_eq_true.1 one_all a (List.mem_range.2 ha)) b (List.mem_range.2 hb)
  obtain ⟨c, hc, h⟩ := List.any_eq_true.1 h
  simp only [oneB, Bool.and_eq_true, decide_eq_true_eq] at h
  exact ⟨c, List.mem_range.1 hc, h.1.1, h.1.2, fun j hj => of_decide_eq_true (List.all_eq_true.1 h.2 j (List.mem_range.2 hj))⟩
theorem turn_len (m : Mv) (W H : Nat) (ps : List Px) : (turnL W H ps m).length = turnedN m H W * turnedN m W H := by simp [turnL]
set_option maxRecDepth 100000 in
set_option maxHeartbeats 3200000 in
theorem one_any (a b : Nat) (ha : a < 8) (hb : b < 8) (w : World) : Calls Tryd.prog 16 #[.int .i64 ((a : Int) + 1), .int .i64 ((b : Int) + 1)] w fun e w' => e = .returned (.int .i64 (howN (thenM (mvAt a) (mvAt b)) : Nat)) ∧ Below w.heap.size w w' := by
  obtain ⟨c, hc8, h1, h2, h3⟩ := one_first a b ha hb
  rw [h1]
  clear h1
  have HS := hide (fun (u : World) => sample_any u)
  have HT1 := hide (fun (u : World) (v : Value) (hv : IsPix u v sampL) => refTurned_any 2 3 (by decide) (by decide) v sampL rfl a ha u hv)
  have HT2 := hide (fun (u : World) (v : Value) (hv : IsPix u v (turnL 2 3 sampL (mvAt a))) => refTurned_any (turnedN (mvAt a) 2 3) (turnedN (mvAt a) 3 2) (by unfold turnedN; split <;> decide) (by unfold turnedN; split <;> decide) v (turnL 2 3 sampL (mvAt a)) (turn_len _ _ _ _) b hb u hv)
  have HT3 := hide (fun (u : World) (k : Nat) (hk : k < 8) (v : Value) (hv : IsPix u v sampL) => refTurned_any 2 3 (by decide) (by decide) v sampL rfl k hk u hv)
  have h2' : onceOf c = (turnedN (mvAt b) (turnedN (mvAt a) 2 3) (turnedN (mvAt a) 3 2), turnedN (mvAt b) (turnedN (mvAt a) 3 2) (turnedN (mvAt a) 2 3), turnL (turnedN (mvAt a) 2 3) (turnedN (mvAt a) 3 2) (turnL 2 3 sampL (mvAt a)) (mvAt b)) := h2
  have h3' : ∀ j, j < c → onceOf j ≠ (turnedN (mvAt b) (turnedN (mvAt a) 2 3) (turnedN (mvAt a) 3 2), turnedN (mvAt b) (turnedN (mvAt a) 3 2) (turnedN (mvAt a) 2 3), turnL (turnedN (mvAt a) 2 3) (turnedN (mvAt a) 3 2) (turnL 2 3 sampL (mvAt a)) (mvAt b)) := h3
  clear h2 h3
  generalize turnedN (mvAt b) (turnedN (mvAt a) 2 3) (turnedN (mvAt a) 3 2) = QW at *
  generalize turnedN (mvAt b) (turnedN (mvAt a) 3 2) (turnedN (mvAt a) 2 3) = QH at *
  generalize turnL (turnedN (mvAt a) 2 3) (turnedN (mvAt a) 3 2) (turnL 2 3 sampL (mvAt a)) (mvAt b) = QL at *
  have H2 := hide h2'
  have H3 := hide h3'
  clear h2' h3'
  generalize turnL 2 3 sampL (mvAt a) = PL at *
  generalize turnedN (mvAt a) 2 3 = PW at *
  generalize turnedN (mvAt a) 3 2 = PH at *
  go_enter Tryd.func16, Tryd.ntmps16
  go_wp2_with fail
  refine (HS.out _).mono ?_
  rintro e w1 ⟨r1, rfl, hr1, hb1, _⟩
  go_wp2_with fail
  refine (HT1.out _ r1 hr1).mono ?_
  rintro e w2 ⟨r2, rfl, hr2, hb2, _⟩
  go_wp2_with fail
  refine (HT2.out _ r2 hr2).mono ?_
  rintro e w3 ⟨r3, rfl, hr3, hb3, _⟩
  have HR := hide hr3
  obtain ⟨ro, rc, rfl, x1, x2⟩ := hr3
  clear x1 x2 hr1 hr2
  have t1 := al1 w3 (Obj.cells #[.int .i64 (QW : Nat), .int .i64 (QH : Nat), .slice ro QL.length rc] 24)
  have HB := hide (bel_trans (bel_trans (bel_trans hb1 hb2) hb3) (bel_alloc w3 (Obj.cells #[.int .i64 (QW : Nat), .int .i64 (QH : Nat), .slice ro QL.length rc] 24)))
  have HR2 := hide (HR.out.alloc (Obj.cells #[.int .i64 (QW : Nat), .int .i64 (QH : Nat), .slice ro QL.length rc] 24))
  go_wp2_with fail
  have l1 := (Array.getElem?_eq_some_iff.1 t1).1
  generalize w3.alloc (Obj.cells #[.int .i64 (QW : Nat), .int .i64 (QH : Nat), .slice ro QL.length rc] 24) = U at *
  generalize w3.heap.size = WB at *
  clear hb1 hb2 hb3 HR
  go_loopw [6] (fun i wr => ∃ k : Nat, k ≤ c ∧ i = .int .i64 ((k : Int) + 1) ∧ Below U.heap.size U wr) (fun i _ => 9 - (intOf i).toNat)
  case atStart => exact ⟨0, Nat.zero_le _, rfl, Below.refl _ _⟩
  case round =>
    obtain ⟨k, hk, rfl, hbr⟩ := hrel
    have hk8 : k < 8 := by omega
    have hd : decide ((k : Int) + 1 ≤ 8) = true := decide_eq_true (by omega)
    go_upto_region 5 with fail
    have HSS := hide (show ∀ v, Below wr.heap.size wr v → v.cell? ⟨WB, 0, none⟩ = some (.int .i64 (QW : Nat)) ∧ v.cell? ⟨WB, 1, none⟩ = some (.int .i64 (QH : Nat)) ∧ v.cell? ⟨WB, 2, none⟩ = some (.slice ro QL.length rc) from fun v h => cells3 (((bel_trans hbr h).block _ l1).trans t1))
    have hWd : Below wr.heap.size wr wr.drew := (Below.refl _ _).drew
    have hSd := HSS.out _ hWd
    obtain ⟨EQ, hEQ⟩ : ∃ EQ, sameB (turnedN (mvAt k) 2 3 : Nat) (turnedN (mvAt k) 3 2 : Nat) (turnL 2 3 sampL (mvAt k)) QW QH QL = EQ := ⟨_, rfl⟩
    have HEQ := hide hEQ
    clear hEQ
    have hmx : Tryd.prog.follows .mixedOrders = true := by kernel_rfl
    refine wp_region_last (S := fun v : World => v.cell? ⟨WB, 0, none⟩ = some (.int .i64 (QW : Nat)) ∧ v.cell? ⟨WB, 1, none⟩ = some (.int .i64 (QH : Nat)) ∧ v.cell? ⟨WB, 2, none⟩ = some (.slice ro QL.length rc)) (f := 4) hmx ?_
    show wpAnyF _ _ _ _ _ _ 5 _ _ wr.drew
    refine wpAnyF_takeP (i := 1) (oi := _) (v := ?vv1) (some 17) [2] rfl rfl (by kernel_rfl) (by kernel_rfl) (by kernel_rfl) (by kernel_rfl) (by kernel_rfl) (fun _ _ _ h => h) (Or.inl ⟨by rfl, ?yy1⟩) hSd ?rr1
    case yy1 => (intro wq hSq; obtain ⟨_, _, _⟩ := hSq; go_simp <;> with_reducible rfl)
    simp only [Act.put, List.setIfInBounds_toArray, List.set_cons_succ, List.set_cons_zero]
    refine wpAnyF_takeP (i := 3) (oi := _) (v := ?vv2) (some 19) [] rfl rfl (by kernel_rfl) (by kernel_rfl) (by kernel_rfl) (by kernel_rfl) (by kernel_rfl) (fun _ _ _ h => h) (Or.inl ⟨by rfl, ?yy2⟩) hSd ?rr2
    case yy2 => (intro wq hSq; obtain ⟨_, _, _⟩ := hSq; go_simp <;> with_reducible rfl)
    simp only [Act.put, List.setIfInBounds_toArray, List.set_cons_succ, List.set_cons_zero]
    refine wpAnyF_one (i := 0) (o := _) (by kernel_rfl) rfl (fun K' hK => ?_)
    rw [if_pos (by rfl)]
    go_simp
    refine (HS.out _).mono ?_
    rintro e V1 ⟨s1, rfl, hs1, hbv1, _⟩
    have hBV1 : Below wr.heap.size wr V1 := hWd.trans (hbv1.mono hWd.size)
    have hSd := HSS.out _ hBV1
    refine hK.out _ _ hSd ?_
    clear hK
    try simp only [Act.put]
    refine wpAnyF_one (i := 2) (o := _) (by kernel_rfl) rfl (fun K' hK => ?_)
    rw [if_pos (by rfl)]
    go_simp
    refine (HT3.out _ k hk8 s1 hs1).mono ?_
    rintro e V2 ⟨s2, rfl, hs2, hbv2, _⟩
    have hBV2 : Below wr.heap.size wr V2 := hBV1.trans (hbv2.mono hBV1.size)
    have hSd := HSS.out _ hBV2
    refine hK.out _ _ hSd ?_
    clear hK
    try simp only [Act.put]
    refine wpAnyF_last (o := _) (by kernel_rfl) rfl (fun K' hK => ?_)
    rw [if_pos (by rfl)]
    go_simp
    refine (samePictures_any (turnedN (mvAt k) 2 3 : Nat) (turnedN (mvAt k) 3 2 : Nat) _ (turnL 2 3 sampL (mvAt k)) QW QH _ QL _ hs2 (HR2.out.below (bel_trans hbr hBV2) (Nat.le_refl _))).mono ?_
    rintro e V4 ⟨rfl, hbv4⟩
    rw [HEQ.out]
    have hBV4 : Below wr.heap.size wr V4 := hBV2.trans (hbv4.mono hBV2.size)
    refine hK.out _ _ ?_
    clear hK
    refine wpAnyF_done (by kernel_rfl) ?_ _
    try simp only [Act.put]
    clear hSd
    cases hE : EQ
    · have hlt : k < c := by
        rcases Nat.eq_or_lt_of_le hk with e | h
        · exfalso
          have h := HEQ.out
          have h4 := H2.out
          rw [e] at h
          unfold onceOf at h4
          cases h4
          rw [hE] at h
          simp [sameB] at h
        · exact h
      go_wp2
      go_roundw
      case rel => exact ⟨k + 1, hlt, by go_num, bel_trans hbr hBV4⟩
      case measure => simp [intOf]; omega
    · have hkc : k = c := by
        rcases Nat.eq_or_lt_of_le hk with e | h
        · exact e
        · exfalso
          have h5 := HEQ.out
          rw [hE] at h5
          have h6 : ((turnedN (mvAt k) 2 3 : Nat) : Int) = QW ∧ ((turnedN (mvAt k) 3 2 : Nat) : Int) = QH ∧ turnL 2 3 sampL (mvAt k) = QL := by simpa [sameB] using h5
          refine H3.out k h ?_
          unfold onceOf
          rw [Int.ofNat.inj h6.1, Int.ofNat.inj h6.2.1, h6.2.2]
      subst hkc
      go_wp2
      go_ret
      exact ⟨rfl, bel_trans HB.out (bel_trans hbr hBV4)⟩
end Go.Proofs.YtolcndchfnifhacDoor

namespace Go.Proofs.YtolcndchfnifhacDoor
set_option linter.unusedVariables false
open Go.RowKit
def begTL : List Px := [(1, 0, 0), (2, 0, 0)]
theorem beg1 : turnE 2 1 begTL 6 = 0 ∧ turnedW (mvOf 6) 2 1 = 1 ∧ turnedW (mvOf 6) 1 2 = 2 ∧ turnL (2 : Int).toNat (1 : Int).toNat begTL (mvOf 6) = [(1, 0, 0), (2, 0, 0)] := by decide +kernel
theorem beg2 : cutE 2 1 begTL 1 0 1 1 = 0 ∧ cutL (2 : Int).toNat begTL (1 : Int).toNat (0 : Int).toNat (1 : Int).toNat (1 : Int).toNat = [(2, 0, 0)] := by decide +kernel
theorem beg3 : backN 6 = 8 ∧ howE 6 = 0 ∧ bothN 2 4 = 3 ∧ bothE 2 4 = 0 := by decide +kernel
abbrev begTC : Obj := Obj.cells #[.int .i64 1, .int .i64 0, .int .i64 0, .int .i64 2, .int .i64 0, .int .i64 0] 51
set_option maxRecDepth 100000 in
set_option maxHeartbeats 6400000 in
theorem turnBegun_any (w : World) (hm : MovesAt w) : Calls Tryd.prog 9 #[] w fun e w' => e = .returned (.bool true) ∧ Below w.heap.size w w' := by
  have HM := hide hm
  clear hm
  have hI := (pix_block w begTL #[.int .i64 1, .int .i64 0, .int .i64 0, .int .i64 2, .int .i64 0, .int .i64 0] rfl (by decide)).alloc (Obj.cells #[.int .i64 2, .int .i64 1, .slice (some ⟨w.heap.size, 0, none⟩) 2 2] 24)
  have HI := hide hI
  clear hI
  obtain ⟨_, a1⟩ := al2 w begTC (Obj.cells #[.int .i64 2, .int .i64 1, .slice (some ⟨w.heap.size, 0, none⟩) 2 2] 24)
  have HB := hide (be2 w begTC (Obj.cells #[.int .i64 2, .int .i64 1, .slice (some ⟨w.heap.size, 0, none⟩) 2 2] 24))
  have HT := hide (fun (u : World) (hu : MovesAt u) (v : Value) (hv : IsPix u v begTL) => turn_any 2 1 v begTL 6 u hu hv)
  rw [beg1.1, beg1.2.1, beg1.2.2.1, beg1.2.2.2, show okW 0 1 = 1 from rfl, show okW 0 2 = 2 from rfl, show okL 0 [((1 : Int), (0 : Int), (0 : Int)), (2, 0, 0)] = [(1, 0, 0), (2, 0, 0)] from rfl] at HT
  have HC := hide (fun (u : World) (v : Value) (hv : IsPix u v begTL) => cut_any 2 1 v begTL 1 0 1 1 u hv)
  rw [beg2.1, beg2.2, show okW 0 1 = 1 from rfl, show okL 0 [((2 : Int), (0 : Int), (0 : Int))] = [(2, 0, 0)] from rfl] at HC
  have HK := hide (fun (u : World) (hu : MovesAt u) => turnBack_any 6 u hu)
  rw [beg3.1, beg3.2.1] at HK
  have HO := hide (fun (u : World) (hu : MovesAt u) => turnBoth_any 2 4 u hu)
  rw [beg3.2.2.1, beg3.2.2.2] at HO
  have l1 := (Array.getElem?_eq_some_iff.1 a1).1
  obtain ⟨p0, p1, p2⟩ := cells3 (b := w.heap.size + 1) a1
  go_enter Tryd.func9, Tryd.ntmps9
  go_wp2_with fail
  clear p0 p1 p2
  generalize (w.alloc begTC).alloc (Obj.cells #[.int .i64 2, .int .i64 1, .slice (some ⟨w.heap.size, 0, none⟩) 2 2] 24) = U at *
  refine (HT.out _ (HM.out.below HB.out (Nat.le_refl _)) _ HI.out).mono ?_
  rintro e w1 ⟨r1, rfl, hr1, hb1, _⟩
  have HR1 := hide hr1
  obtain ⟨ro, rc, rfl, x1, x2⟩ := hr1
  clear x1 x2
  have t1 := al1 w1 (Obj.cells #[.int .i64 1, .int .i64 2, .slice ro 2 rc] 24)
  have h1 := bel_trans hb1 (bel_alloc w1 (Obj.cells #[.int .i64 1, .int .i64 2, .slice ro 2 rc] 24))
  replace HR1 := hide (HR1.out.alloc (Obj.cells #[.int .i64 1, .int .i64 2, .slice ro 2 rc] 24))
  obtain ⟨p0, p1, p2⟩ := cells3 (b := w.heap.size + 1) ((h1.block _ l1).trans a1)
  go_wp2_with fail
  clear p0 p1 p2
  have lt1 := (Array.getElem?_eq_some_iff.1 t1).1
  generalize w1.alloc (Obj.cells #[.int .i64 1, .int .i64 2, .slice ro 2 rc] 24) = X1 at *
  generalize w1.heap.size = B1 at *
  refine (HC.out _ _ (HI.out.below h1 (Nat.le_refl _))).mono ?_
  rintro e w2 ⟨r2, rfl, hr2, hb2, _⟩
  have HR2 := hide hr2
  obtain ⟨so, sc, rfl, x1, x2⟩ := hr2
  clear x1 x2
  have t2 := al1 w2 (Obj.cells #[.int .i64 1, .int .i64 1, .slice so 1 sc] 24)
  have h2 := bel_trans hb2 (bel_alloc w2 (Obj.cells #[.int .i64 1, .int .i64 1, .slice so 1 sc] 24))
  replace HR2 := hide (HR2.out.alloc (Obj.cells #[.int .i64 1, .int .i64 1, .slice so 1 sc] 24))
  replace HR1 := hide (HR1.out.below h2 (Nat.le_refl _))
  replace t1 := (h2.block _ lt1).trans t1
  have h12 := bel_trans h1 h2
  go_wp2_with fail
  have lt2 := (Array.getElem?_eq_some_iff.1 t2).1
  replace lt1 := (Array.getElem?_eq_some_iff.1 t1).1
  generalize w2.alloc (Obj.cells #[.int .i64 1, .int .i64 1, .slice so 1 sc] 24) = X2 at *
  generalize w2.heap.size = B2 at *
  have HBX := hide (HB.out.trans (h12.mono HB.out.size))
  refine (HK.out _ (HM.out.below HBX.out (Nat.le_refl _))).mono ?_
  rintro e w3 ⟨rfl, hb3⟩
  go_wp2_with fail
  refine (HO.out _ (HM.out.below (HBX.out.trans (hb3.mono HBX.out.size)) (Nat.le_refl _))).mono ?_
  rintro e w4 ⟨rfl, hb4⟩
  have h4 := bel_trans hb3 hb4
  obtain ⟨p0, p1, p2⟩ := cells3 ((h4.block _ lt1).trans t1)
  obtain ⟨q0, q1, q2⟩ := cells3 ((h4.block _ lt2).trans t2)
  obtain ⟨x, y, hxe, _, hxc⟩ := HR1.out.below h4 (Nat.le_refl _)
  cases hxe
  rcases hxc with hxc | ⟨qb, qf, rfl, _, hqc⟩
  · cases hxc
  obtain ⟨x, y, hxe, _, hxc⟩ := HR2.out.below h4 (Nat.le_refl _)
  cases hxe
  rcases hxc with hxc | ⟨tb, tf, rfl, _, htc⟩
  · cases hxc
  obtain ⟨c0, _, _⟩ := hqc 0 (by decide)
  obtain ⟨d0, _, _⟩ := htc 0 (by decide)
  rw [Nat.zero_mul, Nat.add_zero] at c0 d0
  replace c0 : w4.cell? ⟨qb, qf, none⟩ = some (.int .i64 1) := c0
  replace d0 : w4.cell? ⟨tb, tf, none⟩ = some (.int .i64 2) := d0
  clear hqc htc
  go_wp2
  go_ret
  exact ⟨rfl, HBX.out.trans (h4.mono HBX.out.size)⟩
end Go.Proofs.YtolcndchfnifhacDoor

namespace Go.Proofs.YtolcndchfnifhacDoor
theorem pix_lt {w : World} {ao : Option Addr} {n c : Nat} {ps : List Px} (h : IsPix w (.slice ao n c) ps) {b : Nat} (hb : (Value.slice ao n c).ownBlock = some b) : ps = [] ∨ b < w.heap.size := by
  obtain ⟨x, y, hx, _, hc⟩ := h
  cases hx
  rcases hc with hc | ⟨b', o', rfl, hb', _⟩
  · exact .inl hc
  · right
    have e : b' = b := by simpa [Value.ownBlock] using hb
    rw [← e]
    exact hb'
theorem pix_keep {w1 w5 : World} {ro : Option Addr} {N rc B : Nat} {D : List Px} (h1 : IsPix w1 (.slice ro N rc) D) (h : IsPix w5 (.slice ro N rc) D) (hN : D.length = N) (hB : w1.heap.size ≤ B) (x y z : Value) :
    IsPix (((w5.setCell ⟨B, 0, none⟩ x).setCell ⟨B, 1, none⟩ y).setCell ⟨B, 2, none⟩ z) (.slice ro N rc) D := by
  by_cases h0 : N = 0
  · have hD : D = [] := List.eq_nil_of_length_eq_zero (hN.trans h0)
    subst hD
    subst h0
    obtain ⟨a, b, ha, hb, _⟩ := h
    exact ⟨a, b, ha, hb, .inl rfl⟩
  · refine h.other (set3_size w5 B x y z) (fun b hb => set3_heap _ _ _ _ _ b hb) fun e => ?_
    rcases pix_lt h1 e with h | h
    · exact h0 (by rw [← hN, h]; rfl)
    · omega
end Go.Proofs.YtolcndchfnifhacDoor

namespace Go.Proofs.YtolcndchfnifhacDoor
set_option linter.unusedVariables false
open Go.RowKit
def backB (a b : Nat) : Bool := decide ((howN (thenM (mvAt a) (mvAt b)) = 1) ↔ (b + 1 = howN (backM (mvAt a))))
theorem back_all : ((List.range 8).all fun a => decide (1 ≤ howN (backM (mvAt a)) ∧ howN (backM (mvAt a)) ≤ 8) && (List.range 8).all (backB a)) = true := by decide +kernel
theorem back_one (a : Nat) (ha : a < 8) : (1 ≤ howN (backM (mvAt a)) ∧ howN (backM (mvAt a)) ≤ 8) ∧ ∀ b, b < 8 → ((howN (thenM (mvAt a) (mvAt b)) = 1) ↔ (b + 1 = howN (backM (mvAt a)))) := by
  have h := List.all_eq_true.1 back_all a (List.mem_range.2 ha)
  rw [Bool.and_eq_true] at h
  exact ⟨of_decide_eq_true h.1, fun b hb => of_decide_eq_true (List.all_eq_true.1 h.2 b (List.mem_range.2 hb))⟩
set_option maxRecDepth 100000 in
set_option maxHeartbeats 6400000 in
theorem turnTurns_walk (W H : Int) (v : Value) (ps : List Px) (how two : Int) (w : World) (hm : MovesAt w) (hv : IsPix w v ps) :
    Calls Tryd.prog 4 #[.agg #[.int .i64 W, .int .i64 H, v], .int .i64 how, .int .i64 two] w fun e w' => e = .returned (.bool true) ∧ Below w.heap.size w w' := by
  have HM := hide hm
  have HV := hide hv
  have HMB := hide (fun (u : World) (hu : Below w.heap.size w u) => HM.out.below hu (Nat.le_refl _))
  have HC := hide (fun (u : World) (hu : Below w.heap.size w u) => turn_any W H v ps how u (HMB.out u hu) (HV.out.below hu (Nat.le_refl _)))
  have HK := hide (fun (u : World) (hu : Below w.heap.size w u) => turnBack_any how u (HMB.out u hu))
  have HO := hide (fun (u : World) (hu : Below w.heap.size w u) => turnBoth_any how two u (HMB.out u hu))
  have HPF := hide (fun (u : World) (hu : Below w.heap.size w u) => pictureFine_any W H v ps u (HV.out.below hu (Nat.le_refl _)))
  have HG := hide (fun (u : World) (hu : Below w.heap.size w u) => turnBegun_any u (HMB.out u hu))
  obtain ⟨ao, ca, rfl, _, _⟩ := hv
  have a1 := al1 w (Obj.cells #[.int .i64 W, .int .i64 H, .slice ao ps.length ca] 24)
  have HB := hide (bel_alloc w (Obj.cells #[.int .i64 W, .int .i64 H, .slice ao ps.length ca] 24))
  have hl1 := (Array.getElem?_eq_some_iff.1 a1).1
  by_cases hok : howOk how = true
  case neg =>
    have hnok : ¬ (1 ≤ how ∧ how ≤ 8) := by simpa [howOk] using hok
    have hEk : howE how = 3 := by rw [howE, if_neg hok]
    have hNk : backN how = 0 := by rw [backN, if_neg hok]
    have hNo : bothN how two = 0 := by rw [bothN, if_neg (fun h => hok h.1)]
    have hEo : bothE how two = 3 := by rw [bothE, if_neg hok]
    rw [hEk, hNk] at HK
    rw [hNo, hEo] at HO
    have hcs : (decide (1 ≤ how) = false) ∨ (decide (1 ≤ how) = true ∧ decide (how ≤ 8) = false) := by
      by_cases h : 1 ≤ how
      · exact .inr ⟨decide_eq_true h, decide_eq_false (fun h2 => hnok ⟨h, h2⟩)⟩
      · exact .inl (decide_eq_false h)
    have hpp : (picOk W H ps = true ∧ turnE W H ps how = 3) ∨ (picOk W H ps = false ∧ turnE W H ps how = 1) := by
      cases hp : picOk W H ps
      · exact .inr ⟨rfl, by rw [turnE, hp]; rfl⟩
      · exact .inl ⟨rfl, by rw [turnE, if_pos hp, hEk]⟩
    clear hEk hNk hNo hEo hok hnok
    rcases hpp with ⟨hp, hE⟩ | ⟨hp, hE⟩ <;> rcases hcs with hd1 | ⟨hd1, hd2⟩
    all_goals
      rw [hE, okW, if_neg (by decide), okW, if_neg (by decide), okL, if_neg (by decide)] at HC
      go_enter Tryd.func4, Tryd.ntmps4
      obtain ⟨p0, p1, p2⟩ := cells3 a1
      go_wp2_with fail
      clear p0 p1 p2
      generalize w.alloc (Obj.cells #[.int .i64 W, .int .i64 H, .slice ao ps.length ca] 24) = U at *
      refine (HC.out _ HB.out).mono ?_
      rintro e w1 ⟨r, rfl, hr, hb1, hfr⟩
      have HR := hide hr
      obtain ⟨ro, rc, rfl, x1, x2⟩ := hr
      clear x1 x2 hfr
      obtain ⟨N, hN⟩ : ∃ N, (([] : List Px) : List Px).length = N := ⟨_, rfl⟩
      rw [hN] at HR ⊢
      have HN := hide hN
      clear hN
      have t1 := al1 w1 (Obj.cells #[.int .i64 0, .int .i64 0, .slice ro N rc] 24)
      have hbx := bel_trans hb1 (bel_alloc w1 (Obj.cells #[.int .i64 0, .int .i64 0, .slice ro N rc] 24))
      have HR2 := hide (HR.out.alloc (Obj.cells #[.int .i64 0, .int .i64 0, .slice ro N rc] 24))
      go_wp2_with fail
      have hlt := (Array.getElem?_eq_some_iff.1 t1).1
      have HSZ := hide hb1.size
      generalize w1.alloc (Obj.cells #[.int .i64 0, .int .i64 0, .slice ro N rc] 24) = w2 at *
      have HB2 := hide (HB.out.trans (hbx.mono HB.out.size))
      refine (HK.out _ HB2.out).mono ?_
      rintro e w3 ⟨rfl, hb3⟩
      have hx3 := bel_trans hbx hb3
      have HB3 := hide (HB.out.trans (hx3.mono HB.out.size))
      go_wp2_with fail
      refine (HO.out _ HB3.out).mono ?_
      rintro e w4 ⟨rfl, hb4⟩
      have hx4 := bel_trans hb3 hb4
      have t3 := al1 w4 (Obj.cells #[.int .i64 0, .int .i64 0, .slice none 0 0] 24)
      have hby := bel_trans hx4 (bel_alloc w4 (Obj.cells #[.int .i64 0, .int .i64 0, .slice none 0 0] 24))
      have g1 := (hby.block _ hlt).trans t1
      have HR4 := hide (HR2.out.below hby (Nat.le_refl _))
      have hbz := bel_trans hbx hby
      obtain ⟨p0, p1, p2⟩ := cells3 ((hbz.block _ hl1).trans a1)
      go_wp2_with fail
      clear p0 p1 p2
      have HZ := hide hx4.size
      have hl3 := (Array.getElem?_eq_some_iff.1 t3).1
      generalize w4.alloc (Obj.cells #[.int .i64 0, .int .i64 0, .slice none 0 0] 24) = w5 at *
      have HB5 := hide (HB.out.trans (hbz.mono HB.out.size))
      refine (HPF.out _ HB5.out).mono ?_
      rintro e w6 ⟨rfl, hb6⟩
      rw [hp]
      have g1' := (hb6.block _ (Array.getElem?_eq_some_iff.1 g1).1).trans g1
      have g3' := (hb6.block _ hl3).trans t3
      have hb7 := bel_trans hbz hb6
      have HB7 := hide (HB.out.trans (hb7.mono HB.out.size))
      have HR6 := hide (HR4.out.below hb6 (Nat.le_refl _))
      obtain rfl : N = 0 := HN.out.symm
      have HRB := hide (IsPix.nil w6)
      generalize w1.heap.size = QB at *
      generalize w4.heap.size = ZB at *
      go_wp2_with fail
      refine (HG.out _ HB7.out).mono ?_
      rintro e V0 ⟨rfl, hbv⟩
      obtain ⟨m0, m1, m2⟩ := cells3 ((hbv.block _ (Array.getElem?_eq_some_iff.1 g1').1).trans g1')
      obtain ⟨n0, n1, n2⟩ := cells3 ((hbv.block _ (Array.getElem?_eq_some_iff.1 g3').1).trans g3')
      go_wp2_with fail
      refine (samePictures_any 0 0 _ ([] : List Px) 0 0 _ ([] : List Px) _ (HR6.out.below hbv (Nat.le_refl _)) (HRB.out.below hbv (Nat.le_refl _))).mono ?_
      rintro e V3 ⟨rfl, hb9⟩
      rw [show sameB 0 0 ([] : List Px) 0 0 ([] : List Px) = true by simp [sameB]]
      go_wp2
      go_ret
      exact ⟨rfl, HB7.out.trans ((bel_trans hbv hb9).mono HB7.out.size)⟩
  obtain ⟨kk, hk8, hhow, hmv⟩ := mvOf_ok hok
  have hEk : howE how = 0 := by rw [howE, if_pos hok]
  obtain ⟨⟨hb1l, hb1u⟩, hb1⟩ := back_one kk hk8
  have HB1 := hide hb1
  have hNk : backN how = (howN (backM (mvAt kk)) : Nat) := by rw [backN, if_pos hok, hmv]
  obtain ⟨BK, hBK⟩ : ∃ BK, howN (backM (mvAt kk)) = BK := ⟨_, rfl⟩
  rw [hBK] at HB1 hNk hb1l hb1u
  rw [hEk, hNk] at HK
  have HONE := hide (fun (b : Nat) (hb : b < 8) (u : World) => one_any kk b hk8 hb u)
  have hd1 : decide (1 ≤ how) = true := decide_eq_true (by omega)
  have hd2 : decide (how ≤ 8) = true := decide_eq_true (by omega)
  rw [hmv] at HC
  have HTU := hide (show picOk W H ps = true → ∀ (u : World), Below w.heap.size w u → Calls Tryd.prog 15 #[.agg #[.int .i64 W, .int .i64 H, .slice ao ps.length ca], .int .i64 ((kk : Int) + 1)] u fun e w' => ∃ r, e = .returned (.agg #[.int .i64 (turnedW (mvAt kk) W H), .int .i64 (turnedW (mvAt kk) H W), r]) ∧ IsPix w' r (turnL W.toNat H.toNat ps (mvAt kk)) ∧ Below u.heap.size u w' ∧ Fresh u.heap.size r from fun hp u hu => by
    obtain ⟨hg1, hg2, hg3, hg4⟩ := picOk_parts hp
    have hV2 := HV.out.below hu (Nat.le_refl _)
    clear HC HPF
    obtain ⟨WN, rfl⟩ := Int.eq_ofNat_of_zero_le (show 0 ≤ W by omega)
    obtain ⟨HN, rfl⟩ := Int.eq_ofNat_of_zero_le (show 0 ≤ H by omega)
    have h := refTurned_any WN HN (by omega) (by omega) _ ps (by rw [Nat.mul_comm]; exact_mod_cast hg3) kk hk8 u hV2
    rw [turnedN_int, turnedN_int]
    exact h)
  rw [← hhow] at HTU
  have HTWO := hide (show (howOk two = true ∧ ∃ j : Nat, j < 8 ∧ two = (j : Int) + 1 ∧ decide (1 ≤ two) = true ∧ decide (two ≤ 8) = true ∧ bothE how two = 0 ∧ bothN how two = (howN (thenM (mvAt kk) (mvAt j)) : Nat)) ∨ ((bothE how two = 3 ∧ bothN how two = 0) ∧ (decide (1 ≤ two) = false ∨ (decide (1 ≤ two) = true ∧ decide (two ≤ 8) = false))) from by
    by_cases h2 : howOk two = true
    · obtain ⟨j, hj8, hj, hmj⟩ := mvOf_ok h2
      exact .inl ⟨h2, j, hj8, hj, decide_eq_true (by omega), decide_eq_true (by omega), by rw [bothE, if_pos hok, howE, if_pos h2], by rw [bothN, if_pos ⟨hok, h2⟩, hmv, hmj]⟩
    · have hn2 : ¬ (1 ≤ two ∧ two ≤ 8) := by simpa [howOk] using h2
      refine .inr ⟨⟨by rw [bothE, if_pos hok, howE, if_neg h2], by rw [bothN, if_neg (fun h => h2 h.2)]⟩, ?_⟩
      by_cases h : 1 ≤ two
      · exact .inr ⟨decide_eq_true h, decide_eq_false (fun h3 => hn2 ⟨h, h3⟩)⟩
      · exact .inl (decide_eq_false h))
  have HONE1 := hide (show ∀ (b : Nat), b < 8 → ∀ u : World, Calls Tryd.prog 16 #[.int .i64 how, .int .i64 ((b : Int) + 1)] u fun e w' => e = .returned (.int .i64 (howN (thenM (mvAt kk) (mvAt b)) : Nat)) ∧ Below u.heap.size u w' from fun b hb u => by rw [hhow]; exact HONE.out b hb u)
  clear HONE hBK hNk hmv hb1
  have HHK := hide hhow
  clear hhow
  have hpp : (picOk W H ps = true ∧ turnE W H ps how = 0) ∨ (picOk W H ps = false ∧ turnE W H ps how = 1) := by
    cases hp : picOk W H ps
    · exact .inr ⟨rfl, by rw [turnE, hp]; rfl⟩
    · exact .inl ⟨rfl, by rw [turnE, if_pos hp, hEk]⟩
  clear hEk
  generalize turnedW (mvAt kk) W H = TW at *
  generalize turnedW (mvAt kk) H W = TH at *
  generalize turnL W.toNat H.toNat ps (mvAt kk) = D at *
  generalize mvAt kk = MK at *
  rcases HTWO.out with ⟨_, j, hj8, htwo, ht1, ht2, hbE, hbN⟩ | ⟨⟨hbE, hbN⟩, hts⟩
  · have HONE2 := hide (HONE1.out j hj8)
    rw [← htwo] at HONE2
    obtain ⟨BN, hBN⟩ : ∃ BN, howN (thenM MK (mvAt j)) = BN := ⟨_, rfl⟩
    rw [hBN] at HONE2 hbN
    rw [hbE, hbN] at HO
    clear hbE hbN htwo hBN HTWO
    rcases hpp with ⟨hp, hE⟩ | ⟨hp, hE⟩
    · rw [hE, show okW 0 TW = TW from rfl, show okW 0 TH = TH from rfl, show okL 0 D = D from rfl] at HC
      go_enter Tryd.func4, Tryd.ntmps4
      obtain ⟨p0, p1, p2⟩ := cells3 a1
      go_wp2_with fail
      clear p0 p1 p2
      generalize w.alloc (Obj.cells #[.int .i64 W, .int .i64 H, .slice ao ps.length ca] 24) = U at *
      refine (HC.out _ HB.out).mono ?_
      rintro e w1 ⟨r, rfl, hr, hb1, hfr⟩
      have HR := hide hr
      obtain ⟨ro, rc, rfl, x1, x2⟩ := hr
      clear x1 x2 hfr
      obtain ⟨N, hN⟩ : ∃ N, (D : List Px).length = N := ⟨_, rfl⟩
      rw [hN] at HR ⊢
      have HN := hide hN
      clear hN
      have t1 := al1 w1 (Obj.cells #[.int .i64 TW, .int .i64 TH, .slice ro N rc] 24)
      have hbx := bel_trans hb1 (bel_alloc w1 (Obj.cells #[.int .i64 TW, .int .i64 TH, .slice ro N rc] 24))
      have HR2 := hide (HR.out.alloc (Obj.cells #[.int .i64 TW, .int .i64 TH, .slice ro N rc] 24))
      go_wp2_with fail
      have hlt := (Array.getElem?_eq_some_iff.1 t1).1
      have HSZ := hide hb1.size
      generalize w1.alloc (Obj.cells #[.int .i64 TW, .int .i64 TH, .slice ro N rc] 24) = w2 at *
      have HB2 := hide (HB.out.trans (hbx.mono HB.out.size))
      refine (HK.out _ HB2.out).mono ?_
      rintro e w3 ⟨rfl, hb3⟩
      have hx3 := bel_trans hbx hb3
      have HB3 := hide (HB.out.trans (hx3.mono HB.out.size))
      go_wp2_with fail
      refine (HO.out _ HB3.out).mono ?_
      rintro e w4 ⟨rfl, hb4⟩
      have hx4 := bel_trans hb3 hb4
      have t3 := al1 w4 (Obj.cells #[.int .i64 0, .int .i64 0, .slice none 0 0] 24)
      have hby := bel_trans hx4 (bel_alloc w4 (Obj.cells #[.int .i64 0, .int .i64 0, .slice none 0 0] 24))
      have g1 := (hby.block _ hlt).trans t1
      have HR4 := hide (HR2.out.below hby (Nat.le_refl _))
      have hbz := bel_trans hbx hby
      obtain ⟨p0, p1, p2⟩ := cells3 ((hbz.block _ hl1).trans a1)
      go_wp2_with fail
      clear p0 p1 p2
      have HZ := hide hx4.size
      have hl3 := (Array.getElem?_eq_some_iff.1 t3).1
      generalize w4.alloc (Obj.cells #[.int .i64 0, .int .i64 0, .slice none 0 0] 24) = w5 at *
      have HB5 := hide (HB.out.trans (hbz.mono HB.out.size))
      refine (HPF.out _ HB5.out).mono ?_
      rintro e w6 ⟨rfl, hb6⟩
      rw [hp]
      have g1' := (hb6.block _ (Array.getElem?_eq_some_iff.1 g1).1).trans g1
      have g3' := (hb6.block _ hl3).trans t3
      have hb7 := bel_trans hbz hb6
      have HB7 := hide (HB.out.trans (hb7.mono HB.out.size))
      have HR6 := hide (HR4.out.below hb6 (Nat.le_refl _))
      obtain ⟨p0, p1, p2⟩ := cells3 ((hb7.block _ hl1).trans a1)
      go_wp2_with fail
      clear p0 p1 p2
      refine (HTU.out hp _ HB7.out).mono ?_
      rintro e w8 ⟨s, rfl, hs, hb8, hfs⟩
      have HSX := hide hs
      obtain ⟨so, sc, rfl, x1, x2⟩ := hs
      clear x1 x2
      rw [HN.out] at HSX hfs ⊢
      have g3 := (hb8.block _ (Array.getElem?_eq_some_iff.1 g3').1).trans g3'
      obtain ⟨z0, z1, z2⟩ := cells3 g3
      have f0 := Lib.frozen_of_heap g3 0
      have f1 := Lib.frozen_of_heap g3 1
      have f2 := Lib.frozen_of_heap g3 2
      have hB8 := bel_trans hb7 hb8
      have hz1 := HSZ.out
      have hz2 := HZ.out
      have hz3 := hb6.size
      obtain ⟨y1, y2, y3, y4⟩ := box3_set g3 (.int .i64 TW) (.int .i64 TH) (.slice so N sc) U (show U.heap.size ≤ w4.heap.size by omega) hB8
      have HRB := hide (HSX.out.set3 hfs (show w4.heap.size < w6.heap.size by omega) (.int .i64 TW) (.int .i64 TH) (.slice so N sc))
      have hne : w1.heap.size ≠ w4.heap.size := by omega
      have gQ := (y2 w1.heap.size hne).trans ((hb8.block _ (Array.getElem?_eq_some_iff.1 g1').1).trans g1')
      have HRA := hide (pix_keep HR.out (HR6.out.below hb8 (Nat.le_refl _)) HN.out (show w1.heap.size ≤ w4.heap.size by omega) (.int .i64 TW) (.int .i64 TH) (.slice so N sc))
      have HBX := hide (HB.out.trans (y4.mono HB.out.size))
      clear hne hz1 hz2 hz3
      go_wp2_with fail
      clear z0 z1 z2 f0 f1 f2
      generalize ((w8.setCell ⟨w4.heap.size, 0, none⟩ (.int .i64 TW)).setCell ⟨w4.heap.size, 1, none⟩ (.int .i64 TH)).setCell ⟨w4.heap.size, 2, none⟩ (.slice so N sc) = X at *
      clear y2 y3 y4
      generalize w1.heap.size = QB at *
      generalize w4.heap.size = ZB at *
      go_loopw [18, 20] (fun bk i wr => ∃ (k : Nat) (CB : Int), k ≤ 8 ∧ i = .int .i64 ((k : Int) + 1) ∧ bk = .int .i64 CB ∧ Hid (CB = if BK ≤ k then (BK : Int) else 0) ∧ Below X.heap.size X wr) (fun _ i _ => 9 - (intOf i).toNat)
      case atStart => exact ⟨0, 0, by omega, rfl, rfl, hide (by rw [if_neg (by omega)]), Below.refl _ _⟩
      case round =>
        obtain ⟨k, CB, hk, rfl, rfl, HCB, hbr⟩ := hrel
        by_cases hlt : k < 8
        · have hdk : decide ((k : Int) + 1 ≤ 8) = true := decide_eq_true (by omega)
          go_wp2_with fail
          refine (HONE1.out k hlt _).mono ?_
          rintro e V1 ⟨rfl, hbv1⟩
          have hiff := HB1.out k hlt
          obtain ⟨OO, hOO⟩ : ∃ OO, howN (thenM MK (mvAt k)) = OO := ⟨_, rfl⟩
          rw [hOO] at hiff ⊢
          clear hOO
          have hbr2 := bel_trans hbr hbv1
          by_cases h1 : OO = 1
          · have hkb : k + 1 = BK := hiff.1 h1
            subst h1
            have HIF := hide (show ((k : Int) + 1) = (if BK ≤ k + 1 then (BK : Int) else 0) by rw [if_pos (by omega)]; omega)
            clear hiff
            go_wp2
            go_roundw
            case rel => exact ⟨k + 1, (k : Int) + 1, by omega, by go_num, rfl, HIF, hbr2⟩
            case measure => simp [intOf]; omega
          · have hkb : ¬ (k + 1 = BK) := fun h => h1 (hiff.2 h)
            have hb1' : ((OO : Int) == 1) = false := by simp; omega
            have hb1'' : decide ((OO : Int) = 1) = false := decide_eq_false (by omega)
            have HIF := hide (show CB = (if BK ≤ k + 1 then (BK : Int) else 0) by
              rw [HCB.out]
              by_cases hle : BK ≤ k
              · rw [if_pos hle, if_pos (by omega)]
              · rw [if_neg hle, if_neg (by omega)])
            clear hiff
            go_wp2
            go_roundw
            case rel => exact ⟨k + 1, CB, by omega, by go_num, rfl, HIF, hbr2⟩
            case measure => simp [intOf]; omega
        · have hdk : decide ((k : Int) + 1 ≤ 8) = false := decide_eq_false (by omega)
          obtain rfl : CB = BK := by rw [HCB.out, if_pos (by omega)]
          have gA := (hbr.block _ (Array.getElem?_eq_some_iff.1 gQ).1).trans gQ
          have gB := (hbr.block _ (Array.getElem?_eq_some_iff.1 y1).1).trans y1
          have HRA' := hide (HRA.out.below hbr (Nat.le_refl _))
          have HRB' := hide (HRB.out.below hbr (Nat.le_refl _))
          have HBr := hide (HBX.out.trans (hbr.mono HBX.out.size))
          go_wp2_with fail
          refine (HONE2.out _).mono ?_
          rintro e V2 ⟨rfl, hbv2⟩
          have gA2 := (hbv2.block _ (Array.getElem?_eq_some_iff.1 gA).1).trans gA
          have gB2 := (hbv2.block _ (Array.getElem?_eq_some_iff.1 gB).1).trans gB
          have HRA2 := hide (HRA'.out.below hbv2 (Nat.le_refl _))
          have HRB2 := hide (HRB'.out.below hbv2 (Nat.le_refl _))
          have HBr2 := hide (HBr.out.trans (hbv2.mono HBr.out.size))
          go_wp2_with fail
          refine (HG.out _ HBr2.out).mono ?_
          rintro e V0 ⟨rfl, hbv⟩
          obtain ⟨m0, m1, m2⟩ := cells3 ((hbv.block _ (Array.getElem?_eq_some_iff.1 gA2).1).trans gA2)
          obtain ⟨n0, n1, n2⟩ := cells3 ((hbv.block _ (Array.getElem?_eq_some_iff.1 gB2).1).trans gB2)
          go_wp2_with fail
          refine (samePictures_any TW TH _ D TW TH _ D _ (HRA2.out.below hbv (Nat.le_refl _)) (HRB2.out.below hbv (Nat.le_refl _))).mono ?_
          rintro e V3 ⟨rfl, hb9⟩
          rw [show sameB TW TH D TW TH D = true by simp [sameB]]
          go_wp2
          go_ret
          exact ⟨rfl, HBr2.out.trans ((bel_trans hbv hb9).mono HBr2.out.size)⟩
    · rw [hE, okW, if_neg (by decide), okW, if_neg (by decide), okL, if_neg (by decide)] at HC
      go_enter Tryd.func4, Tryd.ntmps4
      obtain ⟨p0, p1, p2⟩ := cells3 a1
      go_wp2_with fail
      clear p0 p1 p2
      generalize w.alloc (Obj.cells #[.int .i64 W, .int .i64 H, .slice ao ps.length ca] 24) = U at *
      refine (HC.out _ HB.out).mono ?_
      rintro e w1 ⟨r, rfl, hr, hb1, hfr⟩
      have HR := hide hr
      obtain ⟨ro, rc, rfl, x1, x2⟩ := hr
      clear x1 x2 hfr
      obtain ⟨N, hN⟩ : ∃ N, (([] : List Px) : List Px).length = N := ⟨_, rfl⟩
      rw [hN] at HR ⊢
      have HN := hide hN
      clear hN
      have t1 := al1 w1 (Obj.cells #[.int .i64 0, .int .i64 0, .slice ro N rc] 24)
      have hbx := bel_trans hb1 (bel_alloc w1 (Obj.cells #[.int .i64 0, .int .i64 0, .slice ro N rc] 24))
      have HR2 := hide (HR.out.alloc (Obj.cells #[.int .i64 0, .int .i64 0, .slice ro N rc] 24))
      go_wp2_with fail
      have hlt := (Array.getElem?_eq_some_iff.1 t1).1
      have HSZ := hide hb1.size
      generalize w1.alloc (Obj.cells #[.int .i64 0, .int .i64 0, .slice ro N rc] 24) = w2 at *
      have HB2 := hide (HB.out.trans (hbx.mono HB.out.size))
      refine (HK.out _ HB2.out).mono ?_
      rintro e w3 ⟨rfl, hb3⟩
      have hx3 := bel_trans hbx hb3
      have HB3 := hide (HB.out.trans (hx3.mono HB.out.size))
      go_wp2_with fail
      refine (HO.out _ HB3.out).mono ?_
      rintro e w4 ⟨rfl, hb4⟩
      have hx4 := bel_trans hb3 hb4
      have t3 := al1 w4 (Obj.cells #[.int .i64 0, .int .i64 0, .slice none 0 0] 24)
      have hby := bel_trans hx4 (bel_alloc w4 (Obj.cells #[.int .i64 0, .int .i64 0, .slice none 0 0] 24))
      have g1 := (hby.block _ hlt).trans t1
      have HR4 := hide (HR2.out.below hby (Nat.le_refl _))
      have hbz := bel_trans hbx hby
      obtain ⟨p0, p1, p2⟩ := cells3 ((hbz.block _ hl1).trans a1)
      go_wp2_with fail
      clear p0 p1 p2
      have HZ := hide hx4.size
      have hl3 := (Array.getElem?_eq_some_iff.1 t3).1
      generalize w4.alloc (Obj.cells #[.int .i64 0, .int .i64 0, .slice none 0 0] 24) = w5 at *
      have HB5 := hide (HB.out.trans (hbz.mono HB.out.size))
      refine (HPF.out _ HB5.out).mono ?_
      rintro e w6 ⟨rfl, hb6⟩
      rw [hp]
      have g1' := (hb6.block _ (Array.getElem?_eq_some_iff.1 g1).1).trans g1
      have g3' := (hb6.block _ hl3).trans t3
      have hb7 := bel_trans hbz hb6
      have HB7 := hide (HB.out.trans (hb7.mono HB.out.size))
      have HR6 := hide (HR4.out.below hb6 (Nat.le_refl _))
      obtain rfl : N = 0 := HN.out.symm
      have HRB := hide (IsPix.nil w6)
      generalize w1.heap.size = QB at *
      generalize w4.heap.size = ZB at *
      go_wp2_with fail
      go_loopw [18, 20] (fun bk i wr => ∃ (k : Nat) (CB : Int), k ≤ 8 ∧ i = .int .i64 ((k : Int) + 1) ∧ bk = .int .i64 CB ∧ Hid (CB = if BK ≤ k then (BK : Int) else 0) ∧ Below w6.heap.size w6 wr) (fun _ i _ => 9 - (intOf i).toNat)
      case atStart => exact ⟨0, 0, by omega, rfl, rfl, hide (by rw [if_neg (by omega)]), Below.refl _ _⟩
      case round =>
        obtain ⟨k, CB, hk, rfl, rfl, HCB, hbr⟩ := hrel
        by_cases hlt : k < 8
        · have hdk : decide ((k : Int) + 1 ≤ 8) = true := decide_eq_true (by omega)
          go_wp2_with fail
          refine (HONE1.out k hlt _).mono ?_
          rintro e V1 ⟨rfl, hbv1⟩
          have hiff := HB1.out k hlt
          obtain ⟨OO, hOO⟩ : ∃ OO, howN (thenM MK (mvAt k)) = OO := ⟨_, rfl⟩
          rw [hOO] at hiff ⊢
          clear hOO
          have hbr2 := bel_trans hbr hbv1
          by_cases h1 : OO = 1
          · have hkb : k + 1 = BK := hiff.1 h1
            subst h1
            have HIF := hide (show ((k : Int) + 1) = (if BK ≤ k + 1 then (BK : Int) else 0) by rw [if_pos (by omega)]; omega)
            clear hiff
            go_wp2
            go_roundw
            case rel => exact ⟨k + 1, (k : Int) + 1, by omega, by go_num, rfl, HIF, hbr2⟩
            case measure => simp [intOf]; omega
          · have hkb : ¬ (k + 1 = BK) := fun h => h1 (hiff.2 h)
            have hb1' : ((OO : Int) == 1) = false := by simp; omega
            have hb1'' : decide ((OO : Int) = 1) = false := decide_eq_false (by omega)
            have HIF := hide (show CB = (if BK ≤ k + 1 then (BK : Int) else 0) by
              rw [HCB.out]
              by_cases hle : BK ≤ k
              · rw [if_pos hle, if_pos (by omega)]
              · rw [if_neg hle, if_neg (by omega)])
            clear hiff
            go_wp2
            go_roundw
            case rel => exact ⟨k + 1, CB, by omega, by go_num, rfl, HIF, hbr2⟩
            case measure => simp [intOf]; omega
        · have hdk : decide ((k : Int) + 1 ≤ 8) = false := decide_eq_false (by omega)
          obtain rfl : CB = BK := by rw [HCB.out, if_pos (by omega)]
          have gA := (hbr.block _ (Array.getElem?_eq_some_iff.1 g1').1).trans g1'
          have gB := (hbr.block _ (Array.getElem?_eq_some_iff.1 g3').1).trans g3'
          have HRA' := hide (HR6.out.below hbr (Nat.le_refl _))
          have HRB' := hide (HRB.out.below hbr (Nat.le_refl _))
          have HBr := hide (HB7.out.trans (hbr.mono HB7.out.size))
          go_wp2_with fail
          refine (HONE2.out _).mono ?_
          rintro e V2 ⟨rfl, hbv2⟩
          have gA2 := (hbv2.block _ (Array.getElem?_eq_some_iff.1 gA).1).trans gA
          have gB2 := (hbv2.block _ (Array.getElem?_eq_some_iff.1 gB).1).trans gB
          have HRA2 := hide (HRA'.out.below hbv2 (Nat.le_refl _))
          have HRB2 := hide (HRB'.out.below hbv2 (Nat.le_refl _))
          have HBr2 := hide (HBr.out.trans (hbv2.mono HBr.out.size))
          go_wp2_with fail
          refine (HG.out _ HBr2.out).mono ?_
          rintro e V0 ⟨rfl, hbv⟩
          obtain ⟨m0, m1, m2⟩ := cells3 ((hbv.block _ (Array.getElem?_eq_some_iff.1 gA2).1).trans gA2)
          obtain ⟨n0, n1, n2⟩ := cells3 ((hbv.block _ (Array.getElem?_eq_some_iff.1 gB2).1).trans gB2)
          go_wp2_with fail
          refine (samePictures_any 0 0 _ ([] : List Px) 0 0 _ ([] : List Px) _ (HRA2.out.below hbv (Nat.le_refl _)) (HRB2.out.below hbv (Nat.le_refl _))).mono ?_
          rintro e V3 ⟨rfl, hb9⟩
          rw [show sameB 0 0 ([] : List Px) 0 0 ([] : List Px) = true by simp [sameB]]
          go_wp2
          go_ret
          exact ⟨rfl, HBr2.out.trans ((bel_trans hbv hb9).mono HBr2.out.size)⟩
  · rw [hbE, hbN] at HO
    clear hbE hbN HTWO
    rcases hpp with ⟨hp, hE⟩ | ⟨hp, hE⟩
    · rcases hts with ht1 | ⟨ht1, ht2⟩
      all_goals
        rw [hE, show okW 0 TW = TW from rfl, show okW 0 TH = TH from rfl, show okL 0 D = D from rfl] at HC
        go_enter Tryd.func4, Tryd.ntmps4
        obtain ⟨p0, p1, p2⟩ := cells3 a1
        go_wp2_with fail
        clear p0 p1 p2
        generalize w.alloc (Obj.cells #[.int .i64 W, .int .i64 H, .slice ao ps.length ca] 24) = U at *
        refine (HC.out _ HB.out).mono ?_
        rintro e w1 ⟨r, rfl, hr, hb1, hfr⟩
        have HR := hide hr
        obtain ⟨ro, rc, rfl, x1, x2⟩ := hr
        clear x1 x2 hfr
        obtain ⟨N, hN⟩ : ∃ N, (D : List Px).length = N := ⟨_, rfl⟩
        rw [hN] at HR ⊢
        have HN := hide hN
        clear hN
        have t1 := al1 w1 (Obj.cells #[.int .i64 TW, .int .i64 TH, .slice ro N rc] 24)
        have hbx := bel_trans hb1 (bel_alloc w1 (Obj.cells #[.int .i64 TW, .int .i64 TH, .slice ro N rc] 24))
        have HR2 := hide (HR.out.alloc (Obj.cells #[.int .i64 TW, .int .i64 TH, .slice ro N rc] 24))
        go_wp2_with fail
        have hlt := (Array.getElem?_eq_some_iff.1 t1).1
        have HSZ := hide hb1.size
        generalize w1.alloc (Obj.cells #[.int .i64 TW, .int .i64 TH, .slice ro N rc] 24) = w2 at *
        have HB2 := hide (HB.out.trans (hbx.mono HB.out.size))
        refine (HK.out _ HB2.out).mono ?_
        rintro e w3 ⟨rfl, hb3⟩
        have hx3 := bel_trans hbx hb3
        have HB3 := hide (HB.out.trans (hx3.mono HB.out.size))
        go_wp2_with fail
        refine (HO.out _ HB3.out).mono ?_
        rintro e w4 ⟨rfl, hb4⟩
        have hx4 := bel_trans hb3 hb4
        have t3 := al1 w4 (Obj.cells #[.int .i64 0, .int .i64 0, .slice none 0 0] 24)
        have hby := bel_trans hx4 (bel_alloc w4 (Obj.cells #[.int .i64 0, .int .i64 0, .slice none 0 0] 24))
        have g1 := (hby.block _ hlt).trans t1
        have HR4 := hide (HR2.out.below hby (Nat.le_refl _))
        have hbz := bel_trans hbx hby
        obtain ⟨p0, p1, p2⟩ := cells3 ((hbz.block _ hl1).trans a1)
        go_wp2_with fail
        clear p0 p1 p2
        have HZ := hide hx4.size
        have hl3 := (Array.getElem?_eq_some_iff.1 t3).1
        generalize w4.alloc (Obj.cells #[.int .i64 0, .int .i64 0, .slice none 0 0] 24) = w5 at *
        have HB5 := hide (HB.out.trans (hbz.mono HB.out.size))
        refine (HPF.out _ HB5.out).mono ?_
        rintro e w6 ⟨rfl, hb6⟩
        rw [hp]
        have g1' := (hb6.block _ (Array.getElem?_eq_some_iff.1 g1).1).trans g1
        have g3' := (hb6.block _ hl3).trans t3
        have hb7 := bel_trans hbz hb6
        have HB7 := hide (HB.out.trans (hb7.mono HB.out.size))
        have HR6 := hide (HR4.out.below hb6 (Nat.le_refl _))
        obtain ⟨p0, p1, p2⟩ := cells3 ((hb7.block _ hl1).trans a1)
        go_wp2_with fail
        clear p0 p1 p2
        refine (HTU.out hp _ HB7.out).mono ?_
        rintro e w8 ⟨s, rfl, hs, hb8, hfs⟩
        have HSX := hide hs
        obtain ⟨so, sc, rfl, x1, x2⟩ := hs
        clear x1 x2
        rw [HN.out] at HSX hfs ⊢
        have g3 := (hb8.block _ (Array.getElem?_eq_some_iff.1 g3').1).trans g3'
        obtain ⟨z0, z1, z2⟩ := cells3 g3
        have f0 := Lib.frozen_of_heap g3 0
        have f1 := Lib.frozen_of_heap g3 1
        have f2 := Lib.frozen_of_heap g3 2
        have hB8 := bel_trans hb7 hb8
        have hz1 := HSZ.out
        have hz2 := HZ.out
        have hz3 := hb6.size
        obtain ⟨y1, y2, y3, y4⟩ := box3_set g3 (.int .i64 TW) (.int .i64 TH) (.slice so N sc) U (show U.heap.size ≤ w4.heap.size by omega) hB8
        have HRB := hide (HSX.out.set3 hfs (show w4.heap.size < w6.heap.size by omega) (.int .i64 TW) (.int .i64 TH) (.slice so N sc))
        have hne : w1.heap.size ≠ w4.heap.size := by omega
        have gQ := (y2 w1.heap.size hne).trans ((hb8.block _ (Array.getElem?_eq_some_iff.1 g1').1).trans g1')
        have HRA := hide (pix_keep HR.out (HR6.out.below hb8 (Nat.le_refl _)) HN.out (show w1.heap.size ≤ w4.heap.size by omega) (.int .i64 TW) (.int .i64 TH) (.slice so N sc))
        have HBX := hide (HB.out.trans (y4.mono HB.out.size))
        clear hne hz1 hz2 hz3
        go_wp2_with fail
        clear z0 z1 z2 f0 f1 f2
        generalize ((w8.setCell ⟨w4.heap.size, 0, none⟩ (.int .i64 TW)).setCell ⟨w4.heap.size, 1, none⟩ (.int .i64 TH)).setCell ⟨w4.heap.size, 2, none⟩ (.slice so N sc) = X at *
        clear y2 y3 y4
        generalize w1.heap.size = QB at *
        generalize w4.heap.size = ZB at *
        go_loopw [18, 20] (fun bk i wr => ∃ (k : Nat) (CB : Int), k ≤ 8 ∧ i = .int .i64 ((k : Int) + 1) ∧ bk = .int .i64 CB ∧ Hid (CB = if BK ≤ k then (BK : Int) else 0) ∧ Below X.heap.size X wr) (fun _ i _ => 9 - (intOf i).toNat)
        case atStart => exact ⟨0, 0, by omega, rfl, rfl, hide (by rw [if_neg (by omega)]), Below.refl _ _⟩
        case round =>
          obtain ⟨k, CB, hk, rfl, rfl, HCB, hbr⟩ := hrel
          by_cases hlt : k < 8
          · have hdk : decide ((k : Int) + 1 ≤ 8) = true := decide_eq_true (by omega)
            go_wp2_with fail
            refine (HONE1.out k hlt _).mono ?_
            rintro e V1 ⟨rfl, hbv1⟩
            have hiff := HB1.out k hlt
            obtain ⟨OO, hOO⟩ : ∃ OO, howN (thenM MK (mvAt k)) = OO := ⟨_, rfl⟩
            rw [hOO] at hiff ⊢
            clear hOO
            have hbr2 := bel_trans hbr hbv1
            by_cases h1 : OO = 1
            · have hkb : k + 1 = BK := hiff.1 h1
              subst h1
              have HIF := hide (show ((k : Int) + 1) = (if BK ≤ k + 1 then (BK : Int) else 0) by rw [if_pos (by omega)]; omega)
              clear hiff
              go_wp2
              go_roundw
              case rel => exact ⟨k + 1, (k : Int) + 1, by omega, by go_num, rfl, HIF, hbr2⟩
              case measure => simp [intOf]; omega
            · have hkb : ¬ (k + 1 = BK) := fun h => h1 (hiff.2 h)
              have hb1' : ((OO : Int) == 1) = false := by simp; omega
              have hb1'' : decide ((OO : Int) = 1) = false := decide_eq_false (by omega)
              have HIF := hide (show CB = (if BK ≤ k + 1 then (BK : Int) else 0) by
                rw [HCB.out]
                by_cases hle : BK ≤ k
                · rw [if_pos hle, if_pos (by omega)]
                · rw [if_neg hle, if_neg (by omega)])
              clear hiff
              go_wp2
              go_roundw
              case rel => exact ⟨k + 1, CB, by omega, by go_num, rfl, HIF, hbr2⟩
              case measure => simp [intOf]; omega
          · have hdk : decide ((k : Int) + 1 ≤ 8) = false := decide_eq_false (by omega)
            obtain rfl : CB = BK := by rw [HCB.out, if_pos (by omega)]
            have gA := (hbr.block _ (Array.getElem?_eq_some_iff.1 gQ).1).trans gQ
            have gB := (hbr.block _ (Array.getElem?_eq_some_iff.1 y1).1).trans y1
            have HRA' := hide (HRA.out.below hbr (Nat.le_refl _))
            have HRB' := hide (HRB.out.below hbr (Nat.le_refl _))
            have HBr := hide (HBX.out.trans (hbr.mono HBX.out.size))
            go_wp2_with fail
            refine (HG.out _ HBr.out).mono ?_
            rintro e V0 ⟨rfl, hbv⟩
            obtain ⟨m0, m1, m2⟩ := cells3 ((hbv.block _ (Array.getElem?_eq_some_iff.1 gA).1).trans gA)
            obtain ⟨n0, n1, n2⟩ := cells3 ((hbv.block _ (Array.getElem?_eq_some_iff.1 gB).1).trans gB)
            go_wp2_with fail
            refine (samePictures_any TW TH _ D TW TH _ D _ (HRA'.out.below hbv (Nat.le_refl _)) (HRB'.out.below hbv (Nat.le_refl _))).mono ?_
            rintro e V3 ⟨rfl, hb9⟩
            rw [show sameB TW TH D TW TH D = true by simp [sameB]]
            go_wp2
            go_ret
            exact ⟨rfl, HBr.out.trans ((bel_trans hbv hb9).mono HBr.out.size)⟩
    · rcases hts with ht1 | ⟨ht1, ht2⟩
      all_goals
        rw [hE, okW, if_neg (by decide), okW, if_neg (by decide), okL, if_neg (by decide)] at HC
        go_enter Tryd.func4, Tryd.ntmps4
        obtain ⟨p0, p1, p2⟩ := cells3 a1
        go_wp2_with fail
        clear p0 p1 p2
        generalize w.alloc (Obj.cells #[.int .i64 W, .int .i64 H, .slice ao ps.length ca] 24) = U at *
        refine (HC.out _ HB.out).mono ?_
        rintro e w1 ⟨r, rfl, hr, hb1, hfr⟩
        have HR := hide hr
        obtain ⟨ro, rc, rfl, x1, x2⟩ := hr
        clear x1 x2 hfr
        obtain ⟨N, hN⟩ : ∃ N, (([] : List Px) : List Px).length = N := ⟨_, rfl⟩
        rw [hN] at HR ⊢
        have HN := hide hN
        clear hN
        have t1 := al1 w1 (Obj.cells #[.int .i64 0, .int .i64 0, .slice ro N rc] 24)
        have hbx := bel_trans hb1 (bel_alloc w1 (Obj.cells #[.int .i64 0, .int .i64 0, .slice ro N rc] 24))
        have HR2 := hide (HR.out.alloc (Obj.cells #[.int .i64 0, .int .i64 0, .slice ro N rc] 24))
        go_wp2_with fail
        have hlt := (Array.getElem?_eq_some_iff.1 t1).1
        have HSZ := hide hb1.size
        generalize w1.alloc (Obj.cells #[.int .i64 0, .int .i64 0, .slice ro N rc] 24) = w2 at *
        have HB2 := hide (HB.out.trans (hbx.mono HB.out.size))
        refine (HK.out _ HB2.out).mono ?_
        rintro e w3 ⟨rfl, hb3⟩
        have hx3 := bel_trans hbx hb3
        have HB3 := hide (HB.out.trans (hx3.mono HB.out.size))
        go_wp2_with fail
        refine (HO.out _ HB3.out).mono ?_
        rintro e w4 ⟨rfl, hb4⟩
        have hx4 := bel_trans hb3 hb4
        have t3 := al1 w4 (Obj.cells #[.int .i64 0, .int .i64 0, .slice none 0 0] 24)
        have hby := bel_trans hx4 (bel_alloc w4 (Obj.cells #[.int .i64 0, .int .i64 0, .slice none 0 0] 24))
        have g1 := (hby.block _ hlt).trans t1
        have HR4 := hide (HR2.out.below hby (Nat.le_refl _))
        have hbz := bel_trans hbx hby
        obtain ⟨p0, p1, p2⟩ := cells3 ((hbz.block _ hl1).trans a1)
        go_wp2_with fail
        clear p0 p1 p2
        have HZ := hide hx4.size
        have hl3 := (Array.getElem?_eq_some_iff.1 t3).1
        generalize w4.alloc (Obj.cells #[.int .i64 0, .int .i64 0, .slice none 0 0] 24) = w5 at *
        have HB5 := hide (HB.out.trans (hbz.mono HB.out.size))
        refine (HPF.out _ HB5.out).mono ?_
        rintro e w6 ⟨rfl, hb6⟩
        rw [hp]
        have g1' := (hb6.block _ (Array.getElem?_eq_some_iff.1 g1).1).trans g1
        have g3' := (hb6.block _ hl3).trans t3
        have hb7 := bel_trans hbz hb6
        have HB7 := hide (HB.out.trans (hb7.mono HB.out.size))
        have HR6 := hide (HR4.out.below hb6 (Nat.le_refl _))
        obtain rfl : N = 0 := HN.out.symm
        have HRB := hide (IsPix.nil w6)
        generalize w1.heap.size = QB at *
        generalize w4.heap.size = ZB at *
        go_wp2_with fail
        go_loopw [18, 20] (fun bk i wr => ∃ (k : Nat) (CB : Int), k ≤ 8 ∧ i = .int .i64 ((k : Int) + 1) ∧ bk = .int .i64 CB ∧ Hid (CB = if BK ≤ k then (BK : Int) else 0) ∧ Below w6.heap.size w6 wr) (fun _ i _ => 9 - (intOf i).toNat)
        case atStart => exact ⟨0, 0, by omega, rfl, rfl, hide (by rw [if_neg (by omega)]), Below.refl _ _⟩
        case round =>
          obtain ⟨k, CB, hk, rfl, rfl, HCB, hbr⟩ := hrel
          by_cases hlt : k < 8
          · have hdk : decide ((k : Int) + 1 ≤ 8) = true := decide_eq_true (by omega)
            go_wp2_with fail
            refine (HONE1.out k hlt _).mono ?_
            rintro e V1 ⟨rfl, hbv1⟩
            have hiff := HB1.out k hlt
            obtain ⟨OO, hOO⟩ : ∃ OO, howN (thenM MK (mvAt k)) = OO := ⟨_, rfl⟩
            rw [hOO] at hiff ⊢
            clear hOO
            have hbr2 := bel_trans hbr hbv1
            by_cases h1 : OO = 1
            · have hkb : k + 1 = BK := hiff.1 h1
              subst h1
              have HIF := hide (show ((k : Int) + 1) = (if BK ≤ k + 1 then (BK : Int) else 0) by rw [if_pos (by omega)]; omega)
              clear hiff
              go_wp2
              go_roundw
              case rel => exact ⟨k + 1, (k : Int) + 1, by omega, by go_num, rfl, HIF, hbr2⟩
              case measure => simp [intOf]; omega
            · have hkb : ¬ (k + 1 = BK) := fun h => h1 (hiff.2 h)
              have hb1' : ((OO : Int) == 1) = false := by simp; omega
              have hb1'' : decide ((OO : Int) = 1) = false := decide_eq_false (by omega)
              have HIF := hide (show CB = (if BK ≤ k + 1 then (BK : Int) else 0) by
                rw [HCB.out]
                by_cases hle : BK ≤ k
                · rw [if_pos hle, if_pos (by omega)]
                · rw [if_neg hle, if_neg (by omega)])
              clear hiff
              go_wp2
              go_roundw
              case rel => exact ⟨k + 1, CB, by omega, by go_num, rfl, HIF, hbr2⟩
              case measure => simp [intOf]; omega
          · have hdk : decide ((k : Int) + 1 ≤ 8) = false := decide_eq_false (by omega)
            obtain rfl : CB = BK := by rw [HCB.out, if_pos (by omega)]
            have gA := (hbr.block _ (Array.getElem?_eq_some_iff.1 g1').1).trans g1'
            have gB := (hbr.block _ (Array.getElem?_eq_some_iff.1 g3').1).trans g3'
            have HRA' := hide (HR6.out.below hbr (Nat.le_refl _))
            have HRB' := hide (HRB.out.below hbr (Nat.le_refl _))
            have HBr := hide (HB7.out.trans (hbr.mono HB7.out.size))
            go_wp2_with fail
            refine (HG.out _ HBr.out).mono ?_
            rintro e V0 ⟨rfl, hbv⟩
            obtain ⟨m0, m1, m2⟩ := cells3 ((hbv.block _ (Array.getElem?_eq_some_iff.1 gA).1).trans gA)
            obtain ⟨n0, n1, n2⟩ := cells3 ((hbv.block _ (Array.getElem?_eq_some_iff.1 gB).1).trans gB)
            go_wp2_with fail
            refine (samePictures_any 0 0 _ ([] : List Px) 0 0 _ ([] : List Px) _ (HRA'.out.below hbv (Nat.le_refl _)) (HRB'.out.below hbv (Nat.le_refl _))).mono ?_
            rintro e V3 ⟨rfl, hb9⟩
            rw [show sameB 0 0 ([] : List Px) 0 0 ([] : List Px) = true by simp [sameB]]
            go_wp2
            go_ret
            exact ⟨rfl, HBr.out.trans ((bel_trans hbv hb9).mono HBr.out.size)⟩
end Go.Proofs.YtolcndchfnifhacDoor

namespace Go.Proofs.YtolcndchfnifhacDoor
open Go.RowKit Go.ChangeShapes
set_option linter.unusedVariables false
theorem moves_row {H : Type} {enc : TypeId × Value → H} {P : Program} {w : World} {base : Nat} {sp : Nat → Bool} {held : Bool} {fuel : Nat} {t e tb : TypeId} {f0 f1 f2 : Field} {cs : List Value} {p : List MemPlace} {ms : List Mv}
    (ht : P.underlying t = some (.array 8 e)) (he : P.underlying e = some (.struct #[f0, f1, f2])) (h0 : f0.type = tb) (h1 : f1.type = tb) (h2 : f2.type = tb) (o0 : f0.offset = 0) (o1 : f1.offset = 1) (o2 : f2.offset = 2) (hb : P.underlying tb = some .bool) (cb : P.cellsOf tb = 1) (ce : P.cellsOf e = 3)
    (h : DataW.trod enc P w base sp held fuel t cs = some (.agg (ms.map fun m => .agg [.lit (.bool m.1), .lit (.bool m.2.1), .lit (.bool m.2.2)]), p)) (i : Nat) (hi : i < 8) (m : Mv) (hm : ms[i]? = some m) :
    cs[i * 3]? = some (.bool m.1) ∧ cs[i * 3 + 1]? = some (.bool m.2.1) ∧ cs[i * 3 + 2]? = some (.bool m.2.2) := by
  obtain ⟨xs, n, _, hx, _, hl, hel⟩ := DataW.trod_array ht h
  have hE := hel i hi
  rw [ce, List.getElem?_eq_getElem (by omega)] at hE
  obtain ⟨ys, n2, _, hy, _, hyl, hye⟩ := DataW.trod_struct he hE
  have hyl' : ys.length = 3 := hyl
  have e0 := hye 0 f0 rfl
  have e1 := hye 1 f1 rfl
  have e2 := hye 2 f2 rfl
  rw [h0, o0, cb, List.getElem?_eq_getElem (by omega)] at e0
  rw [h1, o1, cb, List.getElem?_eq_getElem (by omega)] at e1
  rw [h2, o2, cb, List.getElem?_eq_getElem (by omega)] at e2
  obtain ⟨b0, c0, y0⟩ := DataW.trod_bool hb e0
  obtain ⟨b1, c1, y1⟩ := DataW.trod_bool hb e1
  obtain ⟨b2, c2, y2⟩ := DataW.trod_bool hb e2
  have hxi : (xs.map (·.1))[i]? = some (.agg [.lit (.bool m.1), .lit (.bool m.2.1), .lit (.bool m.2.2)]) := by
    have := congrArg Prod.fst hx
    simp only at this
    have h3 : ms.map (fun m => (DataW.agg [.lit (.bool m.1), .lit (.bool m.2.1), .lit (.bool m.2.2)] : DataW H)) = xs.map (·.1) := by
      have h4 := this
      simp only [DataW.agg.injEq] at h4
      exact h4
    rw [← h3, List.getElem?_map, hm]
    rfl
  rw [List.getElem?_map, List.getElem?_eq_getElem (by omega), hy] at hxi
  have hyy : ys.map (·.1) = [.lit (.bool m.1), .lit (.bool m.2.1), .lit (.bool m.2.2)] := by
    simpa using hxi
  have z0 : (ys.map (·.1))[0]? = some (DataW.lit (.bool b0) : DataW H) := by rw [List.getElem?_map, List.getElem?_eq_getElem (by omega), y0]; rfl
  have z1 : (ys.map (·.1))[1]? = some (DataW.lit (.bool b1) : DataW H) := by rw [List.getElem?_map, List.getElem?_eq_getElem (by omega), y1]; rfl
  have z2 : (ys.map (·.1))[2]? = some (DataW.lit (.bool b2) : DataW H) := by rw [List.getElem?_map, List.getElem?_eq_getElem (by omega), y2]; rfl
  rw [hyy] at z0 z1 z2
  simp at z0 z1 z2
  subst z0 z1 z2
  have g : ∀ (k : Nat) (v : Value), ((((cs.drop (i * 3)).take 3).drop k).take 1) = [v] → k < 3 → cs[i * 3 + k]? = some v := fun k v hk hk3 => by
    have h0 : ((((cs.drop (i * 3)).take 3).drop k).take 1)[0]? = some v := by rw [hk]; rfl
    rw [List.getElem?_take_of_lt (by omega), List.getElem?_drop, List.getElem?_take_of_lt (by omega), List.getElem?_drop] at h0
    exact h0
  exact ⟨g 0 _ c0 (by omega), g 1 _ c1 (by omega), g 2 _ c2 (by omega)⟩
theorem gMoves : Tryd.prog.globalNamed "darkslide/turn.moves" = some 0 := by kernel_rfl
theorem gMovesType : (Tryd.prog.globals[0]?).map (·.type) = some 68 := by kernel_rfl
theorem cellsMove : Tryd.prog.cellsOf 55 = 3 := by kernel_rfl
theorem cellsBool : Tryd.prog.cellsOf 4 = 1 := by kernel_rfl
theorem moves_laid {W : World} {rest : List (String × DataW Unit)} (h : laidMet Tryd.prog (("darkslide/turn.moves", Rows.laid_darkslide_turn_moves) :: rest) W) : MovesAt W := by
  obtain ⟨ps, ⟨g', t', cs, fuel, p, q, hg', ht', hvar, hd, _, _⟩, _⟩ := h
  obtain rfl := Option.some.inj (gMoves.symm.trans hg')
  obtain rfl := Option.some.inj (gMovesType.symm.trans ht')
  have hrow := fun i hi m hm => moves_row (ms := mvL) Tryd.underlying68 Tryd.underlying55 rfl rfl rfl rfl rfl rfl Tryd.underlying4 cellsBool cellsMove hd i hi m hm
  have hcell := fun i => World.var?_cell gMoves hvar i
  have key : ∀ k, k < 8 → W.cell? ⟨0, k * 3, none⟩ = some (.bool (mvAt k).1) ∧ W.cell? ⟨0, k * 3 + 1, none⟩ = some (.bool (mvAt k).2.1) ∧ W.cell? ⟨0, k * 3 + 2, none⟩ = some (.bool (mvAt k).2.2) := fun k hk => by
    have hmk : mvL[k]? = some (mvAt k) := by
      unfold mvAt
      rw [List.getD_eq_getElem?_getD, List.getElem?_eq_getElem (show k < mvL.length from hk)]
      rfl
    obtain ⟨c0, c1, c2⟩ := hrow k hk _ hmk
    refine ⟨?_, ?_, ?_⟩
    · rw [hcell]; simpa using c0
    · rw [hcell]; simpa using c1
    · rw [hcell]; simpa using c2
  exact ⟨World.block_lt_of_cell? W _ (key 0 (by omega)).1, key⟩
end Go.Proofs.YtolcndchfnifhacDoor

namespace Go.Proofs.YtolcndchfnifhacDoor
abbrev Pt := Int × Int
def ptAt (ls : List Pt) (i : Nat) : Pt := ls.getD i (0, 0)
structure IsCurve (ls : List Pt) : Prop where
  two : 2 ≤ ls.length
  most : ls.length ≤ 16
  first : (ptAt ls 0).1 = 0
  last : (ptAt ls (ls.length - 1)).1 = 65535
  y : ∀ k, k < ls.length → 0 ≤ (ptAt ls k).2 ∧ (ptAt ls k).2 ≤ 65535
  step : ∀ k, k + 1 < ls.length → (ptAt ls k).1 < (ptAt ls (k + 1)).1 ∧ (ptAt ls k).2 ≤ (ptAt ls (k + 1)).2
theorem IsCurve.lt {ls : List Pt} (h : IsCurve ls) (i d : Nat) (hj : i + d + 1 < ls.length) : (ptAt ls i).1 < (ptAt ls (i + d + 1)).1 ∧ (ptAt ls i).2 ≤ (ptAt ls (i + d + 1)).2 := by
  induction d with
  | zero => exact h.step i hj
  | succ d ih =>
    have h1 := ih (by omega)
    have h2 := h.step (i + d + 1) (by omega)
    rw [show i + (d + 1) + 1 = i + d + 1 + 1 by omega]
    omega
theorem IsCurve.x {ls : List Pt} (h : IsCurve ls) (k : Nat) (hk : k < ls.length) : 0 ≤ (ptAt ls k).1 ∧ (ptAt ls k).1 ≤ 65535 := by
  have h1 := h.first
  have h2 := h.last
  have h3 := h.two
  constructor
  · rcases Nat.eq_zero_or_pos k with rfl | hp
    · omega
    · have := (h.lt 0 (k - 1) (by omega)).1
      rw [show 0 + (k - 1) + 1 = k by omega] at this
      omega
  · rcases Nat.eq_or_lt_of_le (show k ≤ ls.length - 1 by omega) with e | hlt
    · rw [e]; omega
    · have := (h.lt k (ls.length - 1 - k - 1) (by omega)).1
      rw [show k + (ls.length - 1 - k - 1) + 1 = ls.length - 1 by omega] at this
      omega
end Go.Proofs.YtolcndchfnifhacDoor

namespace Go.Proofs.YtolcndchfnifhacDoor
open Go.RowKit
def IsPts (w : World) (v : Value) (ls : List Pt) : Prop :=
  ∃ ao cap, v = .slice ao ls.length cap ∧ ls.length ≤ 9223372036854775807 ∧ (ls = [] ∨ ∃ b off, ao = some ⟨b, off, none⟩ ∧ b < w.heap.size ∧ ∀ j, j < ls.length →
    w.cell? ⟨b, off + j * 2, none⟩ = some (.int .i64 (ptAt ls j).1) ∧ w.cell? ⟨b, off + j * 2 + 1, none⟩ = some (.int .i64 (ptAt ls j).2))
theorem IsPts.below {w w' : World} {v : Value} {ls : List Pt} {B : Nat} (h : IsPts w v ls) (hb : Below B w w') (hB : w.heap.size ≤ B) : IsPts w' v ls := by
  obtain ⟨ao, cap, hv, hl, h⟩ := h
  refine ⟨ao, cap, hv, hl, ?_⟩
  rcases h with h | ⟨b, off, ha, hlt, hc⟩
  · exact .inl h
  · refine .inr ⟨b, off, ha, Nat.lt_of_lt_of_le hlt hb.size, fun j hj => ?_⟩
    rw [hb.cell (p := ⟨b, off + j * 2, none⟩) (by exact Nat.lt_of_lt_of_le hlt hB), hb.cell (p := ⟨b, off + j * 2 + 1, none⟩) (by exact Nat.lt_of_lt_of_le hlt hB)]
    exact hc j hj
theorem IsPts.alloc {w : World} {v : Value} {ls : List Pt} (h : IsPts w v ls) (o : Obj) : IsPts (w.alloc o) v ls :=
  h.below ((Below.refl _ _).alloc (Nat.le_refl _) o) (Nat.le_refl _)
theorem IsPts.nil (w : World) : IsPts w (.slice none 0 0) [] := ⟨none, 0, rfl, by simp, .inl rfl⟩
end Go.Proofs.YtolcndchfnifhacDoor

namespace Go.Proofs.YtolcndchfnifhacDoor
open Go.RowKit Go.ChangeShapes
theorem list_of {α : Type} (P : Nat → α → Prop) (n : Nat) (h : ∀ i, i < n → ∃ p, P i p) (d : α) : ∃ ls : List α, ls.length = n ∧ ∀ i, i < n → P i (ls.getD i d) := by
  induction n with
  | zero => exact ⟨[], rfl, fun i hi => by omega⟩
  | succ n ih =>
    obtain ⟨ls, hl, hp⟩ := ih (fun i hi => h i (by omega))
    obtain ⟨p, hp'⟩ := h n (by omega)
    refine ⟨ls ++ [p], by simp [hl], fun i hi => ?_⟩
    rcases Nat.eq_or_lt_of_le (show i ≤ n by omega) with e | hlt
    · subst e
      rw [List.getD_eq_getElem?_getD, List.getElem?_append_right (by omega), hl]
      simpa using hp'
    · rw [List.getD_eq_getElem?_getD, List.getElem?_append_left (by omega), ← List.getD_eq_getElem?_getD]
      exact hp i hlt
end Go.Proofs.YtolcndchfnifhacDoor

namespace Go.Proofs.YtolcndchfnifhacDoor
open Go.RowKit Go.ChangeShapes
theorem cellsQ3 {W : World} {base : Nat} {a : Addr} {cs : List Value} (h : W.cells? base a 3 = some cs) : ∃ x y z, cs = [x, y, z] ∧ W.cell? (a.add 0) = some x ∧ W.cell? (a.add 1) = some y ∧ W.cell? (a.add 2) = some z := by
  obtain ⟨_, hl, hc⟩ := World.cells?_some h
  match cs, hl with
  | [x, y, z], _ => exact ⟨x, y, z, rfl, hc 0 (by omega), hc 1 (by omega), hc 2 (by omega)⟩
theorem pix_open {P : Program} {H : Type} {enc : TypeId × Value → H} {W : World} {base : Nat} {spare : Nat → Bool} {held : Bool} {fuel : Nat} {t e : TypeId} {f0 f1 f2 : Field} {v : Value} {x : DataW H × List MemPlace}
    (ht : P.underlying t = some (.slice e)) (he : P.underlying e = some (.struct #[f0, f1, f2])) (h0 : P.underlying f0.type = some (.int .i64)) (h1 : P.underlying f1.type = some (.int .i64)) (h2 : P.underlying f2.type = some (.int .i64)) (o0 : f0.offset = 0) (o1 : f1.offset = 1) (o2 : f2.offset = 2)
    (ce : P.cellsOf e = 3) (c0 : P.cellsOf f0.type = 1) (c1 : P.cellsOf f1.type = 1) (c2 : P.cellsOf f2.type = 1) (h : DataW.trod enc P W base spare held fuel t [v] = some x) : ∃ ps, IsPix W v ps := by
  rcases DataW.trod_slice ht h with ⟨hcs, _⟩ | ⟨a, len, cap, elems, rest, n, _, hcs, _, hb, hl, hm, hlen, hel, _, _⟩
  · simp at hcs
    subst hcs
    exact ⟨[], IsPix.nil _⟩
  · simp at hcs
    subst hcs
    have each : ∀ i, i < len → ∃ p : Px, W.cell? ((a.add (i * 3)).add 0) = some (.int .i64 p.1) ∧ W.cell? ((a.add (i * 3)).add 1) = some (.int .i64 p.2.1) ∧ W.cell? ((a.add (i * 3)).add 2) = some (.int .i64 p.2.2) := by
      intro i hi
      have h2' := hel i hi
      rw [List.getElem?_eq_getElem (by omega), ce, Option.bind_eq_some_iff] at h2'
      obtain ⟨cs, hc, hy⟩ := h2'
      obtain ⟨p, q, r, rfl, hp, hq, hr⟩ := cellsQ3 hc
      obtain ⟨xs, m, _, _, _, hxl, hx⟩ := DataW.trod_struct he hy
      have g0 := hx 0 f0 rfl
      have g1 := hx 1 f1 rfl
      have g2 := hx 2 f2 rfl
      rw [o0, c0, List.getElem?_eq_getElem (by rw [hxl]; simp)] at g0
      rw [o1, c1, List.getElem?_eq_getElem (by rw [hxl]; simp)] at g1
      rw [o2, c2, List.getElem?_eq_getElem (by rw [hxl]; simp)] at g2
      obtain ⟨z0, e0, _, _⟩ := DataW.trod_int h0 g0
      obtain ⟨z1, e1, _, _⟩ := DataW.trod_int h1 g1
      obtain ⟨z2, e2, _, _⟩ := DataW.trod_int h2 g2
      simp at e0 e1 e2
      subst e0 e1 e2
      exact ⟨(z0, z1, z2), hp, hq, hr⟩
    obtain ⟨ls, hll, hls⟩ := list_of _ len each (0, 0, 0)
    unfold maxLen at hm
    refine ⟨ls, some a, cap, by rw [hll], by omega, ?_⟩
    by_cases hz : len = 0
    · exact .inl (List.eq_nil_of_length_eq_zero (by omega))
    · right
      obtain ⟨b, off, spot⟩ := a
      have hspot : spot = none := by simpa [Addr.add] using World.cell?_spot (hls 0 (by omega)).1
      subst hspot
      have hk : ∀ j (hj : j < ls.length), W.cell? ⟨b, off + j * 3, none⟩ = some (.int .i64 ls[j].1) ∧ W.cell? ⟨b, off + j * 3 + 1, none⟩ = some (.int .i64 ls[j].2.1) ∧ W.cell? ⟨b, off + j * 3 + 2, none⟩ = some (.int .i64 ls[j].2.2) := by
        intro j hj
        have h2' := hls j (by omega)
        rw [Go.WideShapes.add_plain, Go.WideShapes.add_plain, Go.WideShapes.add_plain, Go.WideShapes.add_plain] at h2'
        rw [pxAt_get ls j hj]
        exact h2'
      exact ⟨b, off, rfl, World.block_lt_of_cell? W _ (hk 0 (by omega)).1, hk⟩
end Go.Proofs.YtolcndchfnifhacDoor
