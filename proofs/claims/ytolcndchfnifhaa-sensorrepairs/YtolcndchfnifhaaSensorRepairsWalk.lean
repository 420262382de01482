/- SensorRepairs: the walk. -/
import Derived.Test.YtolcndchfnifhaaRefRepaired
import Derived.Test.YtolcndchfnifhaaSensorBegun
namespace Go.Proofs.Ytolcndchfnifhaa
set_option linter.unusedVariables false
open Go.RowKit

theorem okW_err {e : Int} (h : e ≠ 0) (W : Int) : okW e W = 0 := if_neg h
theorem okL_err {α : Type} {e : Int} (h : e ≠ 0) (l : List α) : okL e l = [] := if_neg h
theorem IsInts.blockLt {w : World} {ao : Option Addr} {n c : Nat} {zs : List Int} (h : IsInts w (.slice ao n c) zs) {b : Nat} (hb : (Value.slice ao n c).ownBlock = some b) : zs = [] ∨ b < w.heap.size := by
  obtain ⟨ao', c', e, _, hor⟩ := h
  cases e
  rcases hor with h | ⟨b', off, rfl, hlt, _⟩
  · exact .inl h
  · exact .inr (by simp [Value.ownBlock] at hb; omega)
theorem repE_zero {W H : Int} {zs : List Int} {ls : List Pt} (h : repE W H zs ls = 0) : planeOk W H zs = true := by
  unfold repE at h
  split at h
  · rename_i h1; exact h1
  · cases h

set_option maxRecDepth 100000 in
set_option maxHeartbeats 3200000 in
theorem sensorRepairs_walk (W H : Int) (v : Value) (zs : List Int) (lv : Value) (ls : List Pt) (hls : ∀ j, j < ls.length → ptWf (ptAt ls j)) (w : World) (hv : IsInts w v zs) (hlv : IsPts w lv ls) :
    Calls Try.prog 14 #[.agg #[.int .i64 W, .int .i64 H, v], lv] w fun e w' => e = .returned (.bool true) ∧ Below w.heap.size w w' := by
  have HV := hide hv
  obtain ⟨ao, ca, rfl, _, _⟩ := hv
  have HLV := hide hlv
  obtain ⟨lo, lc, rfl, hll, _⟩ := hlv
  have u1 := al1 w (Obj.cells #[.int .i64 W, .int .i64 H, .slice ao zs.length ca] 57)
  have HU := hide (bel_alloc w (Obj.cells #[.int .i64 W, .int .i64 H, .slice ao zs.length ca] 57))
  have HB := hide (repair_any W H _ zs _ ls hls _ (HV.out.below HU.out (Nat.le_refl _)) (HLV.out.below HU.out (Nat.le_refl _)))
  have hLL : (repL W H zs ls).length = zs.length := by simp [repL]
  by_cases hE : repE W H zs ls = 0
  · have hp := repE_zero hE
    obtain ⟨hg1, hg2, hg3, _⟩ := planeOk_parts hp
    have hz := planeOk_all hp
    have hsm := side_mul hg1 hg2
    obtain ⟨WN, hWN⟩ := Int.eq_ofNat_of_zero_le (show 0 ≤ W by omega)
    obtain ⟨HN, hHN⟩ := Int.eq_ofNat_of_zero_le (show 0 ≤ H by omega)
    have hlen : zs.length = HN * WN := by rw [Nat.mul_comm]; rw [hWN, hHN] at hg3; exact_mod_cast hg3
    have hpos : 1 ≤ zs.length := by omega
    have HRF := hide (fun (V : World) (hV : Below w.heap.size w V) => repaired_any WN HN (by omega) (by omega) (by omega) (by omega) _ zs _ ls hlen hz V (HV.out.below hV (Nat.le_refl _)) (HLV.out.below hV (Nat.le_refl _)))
    rw [← hWN, ← hHN, show (List.range zs.length).map (repV zs WN HN ls) = repL W H zs ls by rw [hWN, hHN]; rfl] at HRF
    clear hg1 hg2 hg3 hsm hlen hWN hHN
    rw [hE] at HB
    rw [show okW 0 W = W from rfl, show okW 0 H = H from rfl, show okL 0 (repL W H zs ls) = repL W H zs ls from rfl] at HB
    go_enter Try.func14, Try.ntmps14
    go_wp2_with fail
    generalize w.alloc (Obj.cells #[.int .i64 W, .int .i64 H, .slice ao zs.length ca] 57) = U at *
    refine HB.out.mono ?_
    rintro e w1 ⟨r, rfl, hr, hb1, _⟩
    have HR1 := hide hr
    obtain ⟨ro, rc, rfl, _, _⟩ := hr
    rw [hLL] at HR1 ⊢
    have hlU := (Array.getElem?_eq_some_iff.1 u1).1
    have hs1 := hb1.size
    have B2 := bel_trans hb1 (bel_alloc w1 (Obj.cells #[.int .i64 W, .int .i64 H, .slice ro zs.length rc] 57))
    have t7 := al1 w1 (Obj.cells #[.int .i64 W, .int .i64 H, .slice ro zs.length rc] 57)
    have HR2 := hide (HR1.out.alloc (Obj.cells #[.int .i64 W, .int .i64 H, .slice ro zs.length rc] 57))
    obtain ⟨q0, q1, q2⟩ := cells3 ((B2.block w.heap.size hlU).trans u1)
    go_wp2_with fail
    generalize w1.alloc (Obj.cells #[.int .i64 W, .int .i64 H, .slice ro zs.length rc] 57) = W2 at *
    clear q0 q1 q2
    refine (repairError_any W H _ zs _ ls _ (HV.out.below (bel_trans HU.out B2) (Nat.le_refl _)) (HLV.out.below (bel_trans HU.out B2) (Nat.le_refl _))).mono ?_
    rintro e w5 ⟨rfl, hb3⟩
    rw [hE]
    have hl7 := (Array.getElem?_eq_some_iff.1 t7).1
    have B5 := bel_trans B2 hb3
    have t7c := (hb3.block w1.heap.size hl7).trans t7
    have HR5 := hide (HR2.out.below hb3 (Nat.le_refl _))
    have hb6 := bel_alloc w5 (Obj.cells #[.int .i64 0, .int .i64 0, .slice none 0 0] 57)
    have B6 := bel_trans B5 hb6
    have t14 := al1 w5 (Obj.cells #[.int .i64 0, .int .i64 0, .slice none 0 0] 57)
    have hl7c := (Array.getElem?_eq_some_iff.1 t7c).1
    have t7d := (hb6.block w1.heap.size hl7c).trans t7c
    have HR6 := hide (HR5.out.alloc (Obj.cells #[.int .i64 0, .int .i64 0, .slice none 0 0] 57))
    have hs5 := B5.size
    obtain ⟨q0, q1, q2⟩ := cells3 ((B6.block w.heap.size hlU).trans u1)
    go_wp2_with fail
    generalize w5.alloc (Obj.cells #[.int .i64 0, .int .i64 0, .slice none 0 0] 57) = W6 at *
    clear q0 q1 q2
    have hl14 := (Array.getElem?_eq_some_iff.1 t14).1
    have hl7d := (Array.getElem?_eq_some_iff.1 t7d).1
    refine (HRF.out _ (bel_trans HU.out B6)).mono ?_
    rintro e w8 ⟨r2, rfl, hr2, hb8, hfr⟩
    have B8 := bel_trans B6 hb8
    have g14 := (hb8.block w5.heap.size hl14).trans t14
    obtain ⟨z0, z1, z2⟩ := cells3 g14
    have f0 := Lib.frozen_of_heap g14 0
    have f1 := Lib.frozen_of_heap g14 1
    have f2 := Lib.frozen_of_heap g14 2
    have HX := hide hr2
    obtain ⟨so, sc, rfl, _, _⟩ := hr2
    rw [hLL] at HX hfr ⊢
    have hUs := HU.out.size
    have hwU : w.heap.size ≤ w5.heap.size := by omega
    obtain ⟨y1, y2, y3, y4⟩ := box3_set g14 (.int .i64 W) (.int .i64 H) (.slice so zs.length sc) w hwU (bel_trans HU.out B8)
    have HRB := hide (HX.out.set3 hfr hl14 (.int .i64 W) (.int .i64 H) (.slice so zs.length sc))
    have g7 := (hb8.block w1.heap.size hl7d).trans t7d
    have hne7 : w1.heap.size ≠ w5.heap.size := by omega
    have g7' := (y2 w1.heap.size hne7).trans g7
    have hbo : (Value.slice ro zs.length rc).ownBlock ≠ some w5.heap.size := fun e => by
      rcases HR1.out.blockLt e with h | h
      · have := congrArg List.length h; rw [hLL, List.length_nil] at this; omega
      · omega
    have HRA := hide ((HR6.out.below hb8 (Nat.le_refl _)).other (set3_size w8 w5.heap.size (.int .i64 W) (.int .i64 H) (.slice so zs.length sc)) (fun b hb => set3_heap _ _ _ _ _ b hb) hbo)
    go_wp2_with fail
    generalize ((w8.setCell ⟨w5.heap.size, 0, none⟩ (.int .i64 W)).setCell ⟨w5.heap.size, 1, none⟩ (.int .i64 H)).setCell ⟨w5.heap.size, 2, none⟩ (.slice so zs.length sc) = W9 at *
    refine (sensorBegun_any _).mono ?_
    rintro e w10 ⟨rfl, hb10⟩
    obtain ⟨m0, m1, m2⟩ := cells3 ((hb10.block w5.heap.size (Array.getElem?_eq_some_iff.1 y1).1).trans y1)
    obtain ⟨k0, k1, k2⟩ := cells3 ((hb10.block w1.heap.size (Array.getElem?_eq_some_iff.1 g7').1).trans g7')
    have HF := hide (bel_trans y4 hb10)
    go_wp2_with fail
    refine (samePlanes_any W H W H _ _ (repL W H zs ls) (repL W H zs ls) _ (HRA.out.below hb10 (Nat.le_refl _)) (HRB.out.below hb10 (Nat.le_refl _))).mono ?_
    rintro e w11 ⟨rfl, hb11⟩
    rw [show decide ((W : Int) = (W : Int) ∧ (H : Int) = (H : Int) ∧ (repL W H zs ls) = (repL W H zs ls)) = true by simp]
    go_wp2
    go_ret
    exact ⟨rfl, bel_trans HF.out hb11⟩
  · skip
    rw [okW_err hE, okW_err hE, okL_err hE] at HB
    go_enter Try.func14, Try.ntmps14
    go_wp2_with fail
    generalize w.alloc (Obj.cells #[.int .i64 W, .int .i64 H, .slice ao zs.length ca] 57) = U at *
    refine HB.out.mono ?_
    rintro e w1 ⟨r, rfl, hr, hb1, _⟩
    have HR1 := hide hr
    obtain ⟨ro, rc, rfl, _, _⟩ := hr
    rw [List.length_nil] at HR1 ⊢
    have hlU := (Array.getElem?_eq_some_iff.1 u1).1
    have hs1 := hb1.size
    have B2 := bel_trans hb1 (bel_alloc w1 (Obj.cells #[.int .i64 0, .int .i64 0, .slice ro 0 rc] 57))
    have t7 := al1 w1 (Obj.cells #[.int .i64 0, .int .i64 0, .slice ro 0 rc] 57)
    have HR2 := hide (HR1.out.alloc (Obj.cells #[.int .i64 0, .int .i64 0, .slice ro 0 rc] 57))
    obtain ⟨q0, q1, q2⟩ := cells3 ((B2.block w.heap.size hlU).trans u1)
    go_wp2_with fail
    generalize w1.alloc (Obj.cells #[.int .i64 0, .int .i64 0, .slice ro 0 rc] 57) = W2 at *
    clear q0 q1 q2
    refine (repairError_any W H _ zs _ ls _ (HV.out.below (bel_trans HU.out B2) (Nat.le_refl _)) (HLV.out.below (bel_trans HU.out B2) (Nat.le_refl _))).mono ?_
    rintro e w5 ⟨rfl, hb3⟩
    obtain ⟨E, hEE⟩ : ∃ E, repE W H zs ls = E := ⟨_, rfl⟩
    rw [hEE] at hE ⊢
    have hE0 : (E == 0) = false := by simpa using hE
    clear hEE
    have hl7 := (Array.getElem?_eq_some_iff.1 t7).1
    have B5 := bel_trans B2 hb3
    have t7c := (hb3.block w1.heap.size hl7).trans t7
    have HR5 := hide (HR2.out.below hb3 (Nat.le_refl _))
    have hb6 := bel_alloc w5 (Obj.cells #[.int .i64 0, .int .i64 0, .slice none 0 0] 57)
    have B6 := bel_trans B5 hb6
    have t14 := al1 w5 (Obj.cells #[.int .i64 0, .int .i64 0, .slice none 0 0] 57)
    have hl7c := (Array.getElem?_eq_some_iff.1 t7c).1
    have t7d := (hb6.block w1.heap.size hl7c).trans t7c
    have HR6 := hide (HR5.out.alloc (Obj.cells #[.int .i64 0, .int .i64 0, .slice none 0 0] 57))
    have hs5 := B5.size
    have y4 := bel_trans HU.out B6
    have HRB := hide (IsInts.nil (w5.alloc (Obj.cells #[.int .i64 0, .int .i64 0, .slice none 0 0] 57)))
    have HRA := HR6
    have y1 := t14
    have g7' := t7d
    go_wp2_with fail
    generalize w5.alloc (Obj.cells #[.int .i64 0, .int .i64 0, .slice none 0 0] 57) = W9 at *
    refine (sensorBegun_any _).mono ?_
    rintro e w10 ⟨rfl, hb10⟩
    obtain ⟨m0, m1, m2⟩ := cells3 ((hb10.block w5.heap.size (Array.getElem?_eq_some_iff.1 y1).1).trans y1)
    obtain ⟨k0, k1, k2⟩ := cells3 ((hb10.block w1.heap.size (Array.getElem?_eq_some_iff.1 g7').1).trans g7')
    have HF := hide (bel_trans y4 hb10)
    go_wp2_with fail
    refine (samePlanes_any 0 0 0 0 _ _ ([] : List Int) ([] : List Int) _ (HRA.out.below hb10 (Nat.le_refl _)) (HRB.out.below hb10 (Nat.le_refl _))).mono ?_
    rintro e w11 ⟨rfl, hb11⟩
    rw [show decide ((0 : Int) = (0 : Int) ∧ (0 : Int) = (0 : Int) ∧ ([] : List Int) = ([] : List Int)) = true by simp]
    go_wp2
    go_ret
    exact ⟨rfl, bel_trans HF.out hb11⟩

end Go.Proofs.Ytolcndchfnifhaa
