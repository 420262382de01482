/- sensorgains: part 12 of what its proof needs. -/
import Derived.Test.YtolcndchfnifhabM1Sensorgains
import Derived.Test.YtolcndchfnifhabM3Sensorgains
import Derived.Test.YtolcndchfnifhabM9Sensorgains
import Derived.Test.YtolcndchfnifhabM10Sensorgains
import Derived.Test.YtolcndchfnifhabM11Sensorgains
import Derived.ProofKit
import Derived.OpenShut
import Derived.ChangeSame
import Derived.ChangeArms
import Derived.DataReads
/- The law's sensorBegun. -/
namespace Go.Proofs.Ytolcndchfnifhab
open Go.RowKit

def mFive (k : Nat) : Int := if k % 2 = 0 then 0 else 5
def mGain (k : Nat) : Int := if k = 0 then 512 else if k = 1 then 256 else 128
theorem ints3s (w : World) (a b c : Int) : IsInts (w.alloc (.cells #[.int .i64 a, .int .i64 b, .int .i64 c] 3)) (.slice (some ⟨w.heap.size, 0, none⟩) 3 3) [a, b, c] :=
  IsInts.own (base := w.heap.size) (World.ownsRow_lit w #[.int .i64 a, .int .i64 b, .int .i64 c] 3 (Nat.le_refl _) (by decide) (by simp)) (by simp)
theorem pts1 (w : World) (a b : Int) : IsPts (w.alloc (.cells #[.int .i64 a, .int .i64 b] 93)) (.slice (some ⟨w.heap.size, 0, none⟩) 1 1) [(a, b)] := by
  refine ⟨_, _, rfl, by simp, .inr ⟨w.heap.size, 0, rfl, by simp, fun j hj => ?_⟩⟩
  obtain rfl : j = 0 := by simp at hj; omega
  exact bx2 (al1 w _)

theorem begLevel (W : World) (v : Value) (hv : IsInts W v [10, 65535, 0, 7]) : Calls Try.prog 61 #[.agg #[.int .i64 2, .int .i64 2, v], .agg #[.int .i64 0, .int .i64 5, .int .i64 0, .int .i64 5], .int .i64 10] W fun e w' =>
    ∃ ro rc, e = .returned (.tuple #[.agg #[.int .i64 2, .int .i64 2, .slice ro 4 rc], .int .i64 0]) ∧ Hid (IsInts w' (.slice ro 4 rc) [65535, 65535, 0, 26214]) ∧ Below W.heap.size W w' := by
  refine (level_any 2 2 v [10, 65535, 0, 7] mFive 10 W hv).mono ?_
  rintro e w' ⟨r, rfl, hr, hb, _⟩
  rw [show levE 2 2 [10, 65535, 0, 7] mFive 10 = 0 by decide +kernel] at hr ⊢
  rw [show okL 0 (levL 2 [10, 65535, 0, 7] mFive 10) = [65535, 65535, 0, 26214] by decide +kernel] at hr
  obtain ⟨ro, rc, rfl, h1, h2⟩ := hr
  exact ⟨ro, rc, rfl, ⟨ro, rc, rfl, h1, h2⟩, hb⟩
theorem begRepair (W : World) (v lv : Value) (hv : IsInts W v [4, 9, 7]) (hl : IsPts W lv [(0, 0)]) : Calls Try.prog 63 #[.agg #[.int .i64 3, .int .i64 1, v], lv] W fun e w' =>
    ∃ ro rc, e = .returned (.tuple #[.agg #[.int .i64 3, .int .i64 1, .slice ro 3 rc], .int .i64 0]) ∧ Hid (IsInts w' (.slice ro 3 rc) [7, 9, 7]) ∧ Below W.heap.size W w' := by
  refine (repair_any 3 1 v [4, 9, 7] lv [(0, 0)] (fun j hj => by
    have hj0 : j = 0 := by simp only [List.length_cons, List.length_nil] at hj; omega
    subst hj0
    exact ⟨by decide, by decide⟩) W hv hl).mono ?_
  rintro e w' ⟨r, rfl, hr, hb, _⟩
  rw [show repE 3 1 [4, 9, 7] [(0, 0)] = 0 by decide +kernel] at hr ⊢
  rw [show okL 0 (repL 3 1 [4, 9, 7] [(0, 0)]) = [7, 9, 7] by decide +kernel] at hr
  obtain ⟨ro, rc, rfl, h1, h2⟩ := hr
  exact ⟨ro, rc, rfl, ⟨ro, rc, rfl, h1, h2⟩, hb⟩
theorem begGain (W : World) (v : Value) (hv : IsInts W v [10, 65535, 0, 7]) : Calls Try.prog 15 #[.agg #[.int .i64 2, .int .i64 2, v], .int .i64 0, .agg #[.int .i64 512, .int .i64 256, .int .i64 128]] W fun e w' =>
    ∃ ro rc, e = .returned (.tuple #[.agg #[.int .i64 2, .int .i64 2, .slice ro 4 rc], .int .i64 0]) ∧ Hid (IsInts w' (.slice ro 4 rc) [20, 65535, 0, 3]) ∧ Below W.heap.size W w' := by
  refine (gain_any 2 2 v [10, 65535, 0, 7] 0 mGain W hv).mono ?_
  rintro e w' ⟨r, rfl, hr, hb, _⟩
  rw [show gaiE 2 2 [10, 65535, 0, 7] 0 mGain = 0 by decide +kernel] at hr ⊢
  rw [show okL 0 (gaiL 2 [10, 65535, 0, 7] 0 mGain) = [20, 65535, 0, 3] by decide +kernel] at hr
  obtain ⟨ro, rc, rfl, h1, h2⟩ := hr
  exact ⟨ro, rc, rfl, ⟨ro, rc, rfl, h1, h2⟩, hb⟩
theorem begColour (w : World) : Calls Try.prog 18 #[.int .i64 3, .int .i64 0, .int .i64 0] w fun e w' => e = .returned (.tuple #[.int .i64 2, .int .i64 0]) ∧ Below w.heap.size w w' := colour_ok 3 0 0 (by omega) w
theorem smallH (w : World) : Calls Try.prog 62 #[] w fun e w' => ∃ ro rc, e = .returned (.agg #[.int .i64 2, .int .i64 2, .slice ro 4 rc]) ∧ Hid (IsInts w' (.slice ro 4 rc) [10, 65535, 0, 7]) ∧ Below w.heap.size w w' :=
  (small_any w).mono fun e w' ⟨r, h1, h2, h3⟩ => by
    obtain ⟨ro, rc, rfl, h4, h5⟩ := h2
    exact ⟨ro, rc, h1, ⟨ro, rc, rfl, h4, h5⟩, h3⟩

set_option maxRecDepth 100000 in
set_option maxHeartbeats 3200000 in
theorem sensorBegun_any (w : World) : Calls Try.prog 20 #[] w fun e w' => e = .returned (.bool true) ∧ Below w.heap.size w w' := by
  go_enter Try.func20, Try.ntmps20
  go_wp2_with fail
  refine (smallH _).mono ?_
  rintro e w1 ⟨so, sc, rfl, HS1, hb1⟩
  go_wp2_with fail
  refine (begLevel _ _ HS1.out).mono ?_
  rintro e w2 ⟨ao, ac, rfl, HA, hb2⟩
  have hB2 := bel_trans hb1 hb2
  clear HS1 hb1 hb2
  have tA := al1 w2 (Obj.cells #[.int .i64 2, .int .i64 2, .slice ao 4 ac] 24)
  have HA3 := hide (HA.out.alloc (Obj.cells #[.int .i64 2, .int .i64 2, .slice ao 4 ac] 24))
  have hB3 := bel_trans hB2 (bel_alloc w2 (Obj.cells #[.int .i64 2, .int .i64 2, .slice ao 4 ac] 24))
  go_wp2_with fail
  have hlA := (Array.getElem?_eq_some_iff.1 tA).1
  have hsU : (w2.alloc (Obj.cells #[.int .i64 2, .int .i64 2, .slice ao 4 ac] 24)).heap.size = w2.heap.size + 1 := by simp
  generalize w2.alloc (Obj.cells #[.int .i64 2, .int .i64 2, .slice ao 4 ac] 24) = U at *
  have hI := ints3s U 4 9 7
  have hP := pts1 (U.alloc (Obj.cells #[.int .i64 4, .int .i64 9, .int .i64 7] 3)) 0 0
  rw [World.size_alloc] at hP
  rw [hsU] at hI hP
  replace hsU := Nat.le_of_eq hsU.symm
  refine (begRepair _ _ _ (hI.alloc _) hP).mono ?_
  rintro e w3 ⟨bo, bc, rfl, HB, hb3⟩
  have hU3 := bel_trans (be2 U (Obj.cells #[.int .i64 4, .int .i64 9, .int .i64 7] 3) (Obj.cells #[.int .i64 0, .int .i64 0] 93)) hb3
  clear hI hP hb3
  have tB := al1 w3 (Obj.cells #[.int .i64 3, .int .i64 1, .slice bo 3 bc] 24)
  have HB4 := hide (HB.out.alloc (Obj.cells #[.int .i64 3, .int .i64 1, .slice bo 3 bc] 24))
  have hU4 := bel_trans hU3 (bel_alloc w3 (Obj.cells #[.int .i64 3, .int .i64 1, .slice bo 3 bc] 24))
  have tA4 := (hU4.block w2.heap.size hlA).trans tA
  have HA4 := hide (HA3.out.below hU4 (Nat.le_refl _))
  have hB4 := bel_trans hB3 hU4
  clear hU3 hU4 tA HA3 HA HB hB3
  go_wp2_with fail
  have hlA4 := (Array.getElem?_eq_some_iff.1 tA4).1
  have hlB := (Array.getElem?_eq_some_iff.1 tB).1
  generalize w3.alloc (Obj.cells #[.int .i64 3, .int .i64 1, .slice bo 3 bc] 24) = U4 at *
  refine (begColour _).mono ?_
  rintro e w5 ⟨rfl, hb5⟩
  go_wp2_with fail
  refine (smallH _).mono ?_
  rintro e w6 ⟨so2, sc2, rfl, HS6, hb6⟩
  go_wp2_with fail
  refine (begGain _ _ HS6.out).mono ?_
  rintro e w7 ⟨co, cc, rfl, HC, hb7⟩
  have h47 := bel_trans (bel_trans hb5 hb6) hb7
  clear hb5 hb6 hb7 HS6
  have tC := al1 w7 (Obj.cells #[.int .i64 2, .int .i64 2, .slice co 4 cc] 24)
  have HC8 := hide (HC.out.alloc (Obj.cells #[.int .i64 2, .int .i64 2, .slice co 4 cc] 24))
  have h48 := bel_trans h47 (bel_alloc w7 (Obj.cells #[.int .i64 2, .int .i64 2, .slice co 4 cc] 24))
  have tA8 := (h48.block w2.heap.size hlA4).trans tA4
  have tB8 := (h48.block w3.heap.size hlB).trans tB
  have HA8 := hide (HA4.out.below h48 (Nat.le_refl _))
  have HB8 := hide (HB4.out.below h48 (Nat.le_refl _))
  have hB8 := bel_trans hB4 h48
  obtain ⟨_, _, x2⟩ := cells3 tA8
  clear h47 h48 tA4 tB HA4 HB4 HC hB4
  go_wp2_with fail
  have hlA8 := (Array.getElem?_eq_some_iff.1 tA8).1
  have hlB8 := (Array.getElem?_eq_some_iff.1 tB8).1
  have hlC8 := (Array.getElem?_eq_some_iff.1 tC).1
  have hsV : (w7.alloc (Obj.cells #[.int .i64 2, .int .i64 2, .slice co 4 cc] 24)).heap.size = w7.heap.size + 1 := by simp
  generalize w7.alloc (Obj.cells #[.int .i64 2, .int .i64 2, .slice co 4 cc] 24) = U8 at *
  have hI := ints4 U8 65535 65535 0 26214
  rw [hsV] at hI
  replace hsV := Nat.le_of_eq hsV.symm
  refine (sameInts_any _ _ _ _ _ (HA8.out.alloc _) hI).mono ?_
  rintro e w9 ⟨rfl, hb9⟩
  have h89 := bel_trans (bel_alloc U8 _) hb9
  rw [show decide (([65535, 65535, 0, 26214] : List Int) = [65535, 65535, 0, 26214]) = true by decide]
  obtain ⟨_, _, y2⟩ := cells3 ((h89.block w3.heap.size hlB8).trans tB8)
  clear hI hb9 x2
  go_wp2_with fail
  have hI := ints3s w9 7 9 7
  refine (sameInts_any _ _ _ _ _ ((HB8.out.below h89 (Nat.le_refl _)).alloc _) hI).mono ?_
  rintro e w10 ⟨rfl, hb10⟩
  have h810 := bel_trans h89 (bel_trans (bel_alloc w9 _) hb10)
  rw [show decide (([7, 9, 7] : List Int) = [7, 9, 7]) = true by decide]
  obtain ⟨_, _, z2⟩ := cells3 ((h810.block w7.heap.size hlC8).trans tC)
  clear hI hb10 y2
  go_wp2_with fail
  have hI := ints4 w10 20 65535 0 3
  refine (sameInts_any _ _ _ _ _ ((HC8.out.below h810 (Nat.le_refl _)).alloc _) hI).mono ?_
  rintro e w11 ⟨rfl, hb11⟩
  have h811 := bel_trans h810 (bel_trans (bel_alloc w10 _) hb11)
  rw [show decide (([20, 65535, 0, 3] : List Int) = [20, 65535, 0, 3]) = true by decide]
  have HF := hide (bel_trans hB8 h811)
  clear hI hb11 z2
  go_wp2
  go_ret
  exact ⟨rfl, HF.out⟩

end Go.Proofs.Ytolcndchfnifhab

/- SensorGains: the walk. -/
namespace Go.Proofs.Ytolcndchfnifhab
set_option linter.unusedVariables false
open Go.RowKit

theorem okW_err {e : Int} (h : e ≠ 0) (W : Int) : okW e W = 0 := if_neg h
theorem okL_err {α : Type} {e : Int} (h : e ≠ 0) (l : List α) : okL e l = [] := if_neg h
theorem IsInts.blockLt {w : World} {ao : Option Addr} {n c : Nat} {zs : List Int} (h : IsInts w (.slice ao n c) zs) {b : Nat} (hb : (Value.slice ao n c).ownBlock = some b) : zs = [] ∨ b < w.heap.size := by
  obtain ⟨ao', c', e, _, hor⟩ := h
  cases e
  rcases hor with h | ⟨b', off, rfl, hlt, _⟩
  · exact .inl h
  · exact .inr (by simp [Value.ownBlock] at hb; omega)
theorem colV_mod (p X Y : Nat) : colV p (X % 2) (Y % 2) = colV p X Y := by simp [colV, colB]
theorem threeA_cells {w : World} {b : Nat} {t : TypeId} {fr : Nat × Nat} {m : Nat → Int} (h : w.heap[b]? = some (.cells (threeA m) t fr)) :
    w.cell? ⟨b, 0, none⟩ = some (.int .i64 (m 0)) ∧ w.cell? ⟨b, 1, none⟩ = some (.int .i64 (m 1)) ∧ w.cell? ⟨b, 2, none⟩ = some (.int .i64 (m 2)) :=
  ⟨by rw [Lib.cell_of_heap h]; rfl, by rw [Lib.cell_of_heap h]; rfl, by rw [Lib.cell_of_heap h]; rfl⟩
theorem gaiE_zero {W H : Int} {zs : List Int} {phase : Int} {m : Nat → Int} (h : gaiE W H zs phase m = 0) : planeOk W H zs = true ∧ phaseOk phase = true ∧ gainsOk m = true := by
  unfold gaiE at h
  split at h
  · rename_i h1
    split at h
    · rename_i h2; exact ⟨h1, h2.1, h2.2⟩
    · cases h
  · cases h

set_option maxRecDepth 100000 in
set_option maxHeartbeats 3200000 in
theorem sensorGains_walk (W H : Int) (v : Value) (zs : List Int) (phase : Int) (m : Nat → Int) (x y : Int) (w : World) (hv : IsInts w v zs) :
    Calls Try.prog 3 #[.agg #[.int .i64 W, .int .i64 H, v], .int .i64 phase, .agg (threeA m), .int .i64 x, .int .i64 y] w fun e w' => e = .returned (.bool true) ∧ Below w.heap.size w w' := by
  have HV := hide hv
  obtain ⟨ao, ca, rfl, _, _⟩ := hv
  obtain ⟨u1, u2⟩ := al2 w (Obj.cells #[.int .i64 W, .int .i64 H, .slice ao zs.length ca] 24) (Obj.cells (threeA m) 25)
  have HU := hide (be2 w (Obj.cells #[.int .i64 W, .int .i64 H, .slice ao zs.length ca] 24) (Obj.cells (threeA m) 25))
  have HB := hide (gain_any W H _ zs phase m _ (HV.out.below HU.out (Nat.le_refl _)))
  have hLL : (gaiL W zs phase m).length = zs.length := by simp [gaiL]
  have HCOL := hide (fun u => colour_any phase x y u)
  have HCV := hide (show ¬ (phaseOk phase = true ∧ 0 ≤ x ∧ 0 ≤ y) → colourV phase x y = 0 ∧ colourE phase x y = 3 from fun h => ⟨if_neg h, if_neg h⟩)
  have HCW := hide (show phaseOk phase = true ∧ 0 ≤ x ∧ 0 ≤ y → colourV phase x y = (colV phase.toNat x.toNat y.toNat : Nat) ∧ colourE phase x y = 0 from fun h => ⟨if_pos h, if_pos h⟩)
  obtain ⟨CV, hcv⟩ : ∃ CV, colourV phase x y = CV := ⟨_, rfl⟩
  obtain ⟨CE, hce⟩ : ∃ CE, colourE phase x y = CE := ⟨_, rfl⟩
  rw [hcv, hce] at HCOL HCV HCW
  clear hcv hce
  by_cases hE : gaiE W H zs phase m = 0
  · obtain ⟨hp, hph, hgn⟩ := gaiE_zero hE
    have hph2 : 0 ≤ phase ∧ phase ≤ 3 := by simpa [phaseOk] using hph
    have HMM := hide (fun k (hk : k < 3) => arrL_all hgn k hk)
    obtain ⟨hg1, hg2, hg3, _⟩ := planeOk_parts hp
    have hz := planeOk_all hp
    have hsm := side_mul hg1 hg2
    obtain ⟨WN, hWN⟩ := Int.eq_ofNat_of_zero_le (show 0 ≤ W by omega)
    obtain ⟨HN, hHN⟩ := Int.eq_ofNat_of_zero_le (show 0 ≤ H by omega)
    have hlen : zs.length = HN * WN := by rw [Nat.mul_comm]; rw [hWN, hHN] at hg3; exact_mod_cast hg3
    have hpos : 1 ≤ zs.length := by omega
    obtain ⟨PN, hPN⟩ := Int.eq_ofNat_of_zero_le hph2.1
    have HRF := hide (fun (V : World) (hV : Below w.heap.size w V) => gained_any WN HN PN (by omega) (by omega) (by omega) (by omega) _ zs m (fun k hk => HMM.out k hk) hlen hz V (HV.out.below hV (Nat.le_refl _)))
    rw [← hWN, ← hHN, ← hPN, show (List.range zs.length).map (gainV zs WN PN m) = gaiL W zs phase m by rw [hWN, hPN]; rfl] at HRF
    clear hg1 hg2 hg3 hsm hlen hWN hHN hPN
    rw [hE] at HB
    rw [show okW 0 W = W from rfl, show okW 0 H = H from rfl, show okL 0 (gaiL W zs phase m) = gaiL W zs phase m from rfl] at HB
    go_enter Try.func3, Try.ntmps3
    go_wp2_with fail
    generalize (w.alloc (Obj.cells #[.int .i64 W, .int .i64 H, .slice ao zs.length ca] 24)).alloc (Obj.cells (threeA m) 25) = U at *
    refine HB.out.mono ?_
    rintro e w1 ⟨r, rfl, hr, hb1, _⟩
    have HR1 := hide hr
    obtain ⟨ro, rc, rfl, _, _⟩ := hr
    rw [hLL] at HR1 ⊢
    have hlU := (Array.getElem?_eq_some_iff.1 u1).1
    have hlU2 := (Array.getElem?_eq_some_iff.1 u2).1
    have hs1 := hb1.size
    have B2 := bel_trans hb1 (bel_alloc w1 (Obj.cells #[.int .i64 W, .int .i64 H, .slice ro zs.length rc] 24))
    have t7 := al1 w1 (Obj.cells #[.int .i64 W, .int .i64 H, .slice ro zs.length rc] 24)
    have HR2 := hide (HR1.out.alloc (Obj.cells #[.int .i64 W, .int .i64 H, .slice ro zs.length rc] 24))
    obtain ⟨q0, q1, q2⟩ := cells3 ((B2.block w.heap.size hlU).trans u1)
    obtain ⟨n0, n1, n2⟩ := threeA_cells ((B2.block (w.heap.size + 1) hlU2).trans u2)
    go_wp2_with fail
    generalize w1.alloc (Obj.cells #[.int .i64 W, .int .i64 H, .slice ro zs.length rc] 24) = W2 at *
    clear q0 q1 q2 n0 n1 n2
    refine (gainError_any W H _ zs phase m _ (HV.out.below (bel_trans HU.out B2) (Nat.le_refl _))).mono ?_
    rintro e w5 ⟨rfl, hb3⟩
    rw [hE]
    have hl7 := (Array.getElem?_eq_some_iff.1 t7).1
    have B5 := bel_trans B2 hb3
    have t7c := (hb3.block w1.heap.size hl7).trans t7
    have HR5 := hide (HR2.out.below hb3 (Nat.le_refl _))
    have hb6 := bel_alloc w5 (Obj.cells #[.int .i64 0, .int .i64 0, .slice none 0 0] 24)
    have B6 := bel_trans B5 hb6
    have t14 := al1 w5 (Obj.cells #[.int .i64 0, .int .i64 0, .slice none 0 0] 24)
    have hl7c := (Array.getElem?_eq_some_iff.1 t7c).1
    have t7d := (hb6.block w1.heap.size hl7c).trans t7c
    have HR6 := hide (HR5.out.alloc (Obj.cells #[.int .i64 0, .int .i64 0, .slice none 0 0] 24))
    have hs5 := B5.size
    obtain ⟨q0, q1, q2⟩ := cells3 ((B6.block w.heap.size hlU).trans u1)
    obtain ⟨n0, n1, n2⟩ := threeA_cells ((B6.block (w.heap.size + 1) hlU2).trans u2)
    go_wp2_with fail
    generalize w5.alloc (Obj.cells #[.int .i64 0, .int .i64 0, .slice none 0 0] 24) = W6 at *
    clear q0 q1 q2 n0 n1 n2
    have hl14 := (Array.getElem?_eq_some_iff.1 t14).1
    have hl7d := (Array.getElem?_eq_some_iff.1 t7d).1
    refine (HRF.out _ (bel_trans HU.out B6)).mono ?_
    rintro e w8 ⟨r2, rfl, hr2, hb8, hfr⟩
    have B8 := bel_trans B6 hb8
    have g14 := (hb8.block w5.heap.size hl14).trans t14
    obtain ⟨z0, z1, z2⟩ := cells3 g14
    have f0 := Lib.frozen_of_heap g14 0
    have f1 := Lib.frozen_of_heap g14 1
    have f2 := Lib.frozen_of_heap g14 2
    have HX := hide hr2
    obtain ⟨so, sc, rfl, _, _⟩ := hr2
    rw [hLL] at HX hfr ⊢
    have hUs := HU.out.size
    have hwU : w.heap.size ≤ w5.heap.size := by omega
    obtain ⟨y1, y2, y3, y4⟩ := box3_set g14 (.int .i64 W) (.int .i64 H) (.slice so zs.length sc) w hwU (bel_trans HU.out B8)
    have HRB := hide (HX.out.set3 hfr hl14 (.int .i64 W) (.int .i64 H) (.slice so zs.length sc))
    have g7 := (hb8.block w1.heap.size hl7d).trans t7d
    have hne7 : w1.heap.size ≠ w5.heap.size := by omega
    have g7' := (y2 w1.heap.size hne7).trans g7
    have hbo : (Value.slice ro zs.length rc).ownBlock ≠ some w5.heap.size := fun e => by
      rcases HR1.out.blockLt e with h | h
      · have := congrArg List.length h; rw [hLL, List.length_nil] at this; omega
      · omega
    have HRA := hide ((HR6.out.below hb8 (Nat.le_refl _)).other (set3_size w8 w5.heap.size (.int .i64 W) (.int .i64 H) (.slice so zs.length sc)) (fun b hb => set3_heap _ _ _ _ _ b hb) hbo)
    go_wp2_with fail
    generalize ((w8.setCell ⟨w5.heap.size, 0, none⟩ (.int .i64 W)).setCell ⟨w5.heap.size, 1, none⟩ (.int .i64 H)).setCell ⟨w5.heap.size, 2, none⟩ (.slice so zs.length sc) = W9 at *
    refine (HCOL.out _).mono ?_
    rintro e w12 ⟨rfl, hb12⟩
    replace y1 := (hb12.block w5.heap.size (Array.getElem?_eq_some_iff.1 y1).1).trans y1
    replace g7' := (hb12.block w1.heap.size (Array.getElem?_eq_some_iff.1 g7').1).trans g7'
    replace y4 := bel_trans y4 hb12
    have HRA2 := hide (HRA.out.below hb12 (Nat.le_refl _))
    have HRB2 := hide (HRB.out.below hb12 (Nat.le_refl _))
    clear hb12 HRA HRB
    have hcas : (0 ≤ phase ∧ phase ≤ 3 ∧ x < 0) ∨ (0 ≤ phase ∧ phase ≤ 3 ∧ 0 ≤ x ∧ y < 0) ∨ (0 ≤ phase ∧ phase ≤ 3 ∧ 0 ≤ x ∧ 0 ≤ y) := by omega
    rcases hcas with hcs | hcs | hcs
    · obtain ⟨hcv, hce⟩ := HCV.out (by simp [phaseOk]; omega)
      subst hcv hce
      have hd0 : decide (0 ≤ phase) = true := by simp; omega
      have hd1 : decide (phase ≤ 3) = true := by simp; omega
      have hd2 : decide (0 ≤ x) = false := by simp; omega
      go_wp2_with fail
      have HRA := HRA2
      have HRB := HRB2
      refine (sensorBegun_any _).mono ?_
      rintro e w10 ⟨rfl, hb10⟩
      obtain ⟨m0, m1, m2⟩ := cells3 ((hb10.block w5.heap.size (Array.getElem?_eq_some_iff.1 y1).1).trans y1)
      obtain ⟨k0, k1, k2⟩ := cells3 ((hb10.block w1.heap.size (Array.getElem?_eq_some_iff.1 g7').1).trans g7')
      have HF := hide (bel_trans y4 hb10)
      go_wp2_with fail
      refine (samePlanes_any W H W H _ _ (gaiL W zs phase m) (gaiL W zs phase m) _ (HRA.out.below hb10 (Nat.le_refl _)) (HRB.out.below hb10 (Nat.le_refl _))).mono ?_
      rintro e w11 ⟨rfl, hb11⟩
      rw [show decide ((W : Int) = (W : Int) ∧ (H : Int) = (H : Int) ∧ (gaiL W zs phase m) = (gaiL W zs phase m)) = true by simp]
      go_wp2
      go_ret
      exact ⟨rfl, bel_trans HF.out hb11⟩
    · obtain ⟨hcv, hce⟩ := HCV.out (by simp [phaseOk]; omega)
      subst hcv hce
      have hd0 : decide (0 ≤ phase) = true := by simp; omega
      have hd1 : decide (phase ≤ 3) = true := by simp; omega
      have hd2 : decide (0 ≤ x) = true := by simp; omega
      have hd3 : decide (0 ≤ y) = false := by simp; omega
      go_wp2_with fail
      have HRA := HRA2
      have HRB := HRB2
      refine (sensorBegun_any _).mono ?_
      rintro e w10 ⟨rfl, hb10⟩
      obtain ⟨m0, m1, m2⟩ := cells3 ((hb10.block w5.heap.size (Array.getElem?_eq_some_iff.1 y1).1).trans y1)
      obtain ⟨k0, k1, k2⟩ := cells3 ((hb10.block w1.heap.size (Array.getElem?_eq_some_iff.1 g7').1).trans g7')
      have HF := hide (bel_trans y4 hb10)
      go_wp2_with fail
      refine (samePlanes_any W H W H _ _ (gaiL W zs phase m) (gaiL W zs phase m) _ (HRA.out.below hb10 (Nat.le_refl _)) (HRB.out.below hb10 (Nat.le_refl _))).mono ?_
      rintro e w11 ⟨rfl, hb11⟩
      rw [show decide ((W : Int) = (W : Int) ∧ (H : Int) = (H : Int) ∧ (gaiL W zs phase m) = (gaiL W zs phase m)) = true by simp]
      go_wp2
      go_ret
      exact ⟨rfl, bel_trans HF.out hb11⟩
    · obtain ⟨hcv, hce⟩ := HCW.out (by simp [phaseOk]; omega)
      subst hce
      obtain ⟨PP, hPP⟩ := Int.eq_ofNat_of_zero_le hcs.1
      obtain ⟨XX, hXX⟩ := Int.eq_ofNat_of_zero_le hcs.2.2.1
      obtain ⟨YY, hYY⟩ := Int.eq_ofNat_of_zero_le hcs.2.2.2
      have hp3 : PP ≤ 3 := by omega
      rw [hPP, hXX, hYY, Int.toNat_natCast, Int.toNat_natCast, Int.toNat_natCast, ← colV_mod] at hcv
      have hd0 : decide (0 ≤ phase) = true := by simp; omega
      have hd1 : decide (phase ≤ 3) = true := by simp; omega
      have hd2 : decide (0 ≤ x) = true := by simp; omega
      have hd3 : decide (0 ≤ y) = true := by simp; omega
      have hxa : x.tmod 2 = ((XX % 2 : Nat) : Int) := by rw [hXX]; rfl
      have hya : y.tmod 2 = ((YY % 2 : Nat) : Int) := by rw [hYY]; rfl
      have hxa2 : x % 2 = ((XX % 2 : Nat) : Int) := by rw [hXX]; rfl
      have hya2 : y % 2 = ((YY % 2 : Nat) : Int) := by rw [hYY]; rfl
      have HCA := hide (fun u => colourAt_any PP (XX % 2) (YY % 2) hp3 (by omega) (by omega) u)
      rw [← hcv, ← hPP] at HCA
      clear hcv hPP hXX hYY
      obtain ⟨xa, hxe⟩ : ∃ xa, XX % 2 = xa := ⟨_, rfl⟩
      obtain ⟨ya, hye⟩ : ∃ ya, YY % 2 = ya := ⟨_, rfl⟩
      rw [hxe] at hxa hxa2 HCA
      rw [hye] at hya hya2 HCA
      have hxr : xa ≤ 1 := by omega
      have hyr : ya ≤ 1 := by omega
      clear hxe hye
      go_wp2_with fail
      refine (HCA.out _).mono ?_
      rintro e w13 ⟨rfl, rfl⟩
      go_wp2_with fail
      have HRA := HRA2
      have HRB := HRB2
      refine (sensorBegun_any _).mono ?_
      rintro e w10 ⟨rfl, hb10⟩
      obtain ⟨m0, m1, m2⟩ := cells3 ((hb10.block w5.heap.size (Array.getElem?_eq_some_iff.1 y1).1).trans y1)
      obtain ⟨k0, k1, k2⟩ := cells3 ((hb10.block w1.heap.size (Array.getElem?_eq_some_iff.1 g7').1).trans g7')
      have HF := hide (bel_trans y4 hb10)
      go_wp2_with fail
      refine (samePlanes_any W H W H _ _ (gaiL W zs phase m) (gaiL W zs phase m) _ (HRA.out.below hb10 (Nat.le_refl _)) (HRB.out.below hb10 (Nat.le_refl _))).mono ?_
      rintro e w11 ⟨rfl, hb11⟩
      rw [show decide ((W : Int) = (W : Int) ∧ (H : Int) = (H : Int) ∧ (gaiL W zs phase m) = (gaiL W zs phase m)) = true by simp]
      go_wp2
      go_ret
      exact ⟨rfl, bel_trans HF.out hb11⟩
  · skip
    rw [okW_err hE, okW_err hE, okL_err hE] at HB
    go_enter Try.func3, Try.ntmps3
    go_wp2_with fail
    generalize (w.alloc (Obj.cells #[.int .i64 W, .int .i64 H, .slice ao zs.length ca] 24)).alloc (Obj.cells (threeA m) 25) = U at *
    refine HB.out.mono ?_
    rintro e w1 ⟨r, rfl, hr, hb1, _⟩
    have HR1 := hide hr
    obtain ⟨ro, rc, rfl, _, _⟩ := hr
    rw [List.length_nil] at HR1 ⊢
    have hlU := (Array.getElem?_eq_some_iff.1 u1).1
    have hlU2 := (Array.getElem?_eq_some_iff.1 u2).1
    have hs1 := hb1.size
    have B2 := bel_trans hb1 (bel_alloc w1 (Obj.cells #[.int .i64 0, .int .i64 0, .slice ro 0 rc] 24))
    have t7 := al1 w1 (Obj.cells #[.int .i64 0, .int .i64 0, .slice ro 0 rc] 24)
    have HR2 := hide (HR1.out.alloc (Obj.cells #[.int .i64 0, .int .i64 0, .slice ro 0 rc] 24))
    obtain ⟨q0, q1, q2⟩ := cells3 ((B2.block w.heap.size hlU).trans u1)
    obtain ⟨n0, n1, n2⟩ := threeA_cells ((B2.block (w.heap.size + 1) hlU2).trans u2)
    go_wp2_with fail
    generalize w1.alloc (Obj.cells #[.int .i64 0, .int .i64 0, .slice ro 0 rc] 24) = W2 at *
    clear q0 q1 q2 n0 n1 n2
    refine (gainError_any W H _ zs phase m _ (HV.out.below (bel_trans HU.out B2) (Nat.le_refl _))).mono ?_
    rintro e w5 ⟨rfl, hb3⟩
    obtain ⟨E, hEE⟩ : ∃ E, gaiE W H zs phase m = E := ⟨_, rfl⟩
    rw [hEE] at hE ⊢
    have hE0 : (E == 0) = false := by simpa using hE
    clear hEE
    have hl7 := (Array.getElem?_eq_some_iff.1 t7).1
    have B5 := bel_trans B2 hb3
    have t7c := (hb3.block w1.heap.size hl7).trans t7
    have HR5 := hide (HR2.out.below hb3 (Nat.le_refl _))
    have hb6 := bel_alloc w5 (Obj.cells #[.int .i64 0, .int .i64 0, .slice none 0 0] 24)
    have B6 := bel_trans B5 hb6
    have t14 := al1 w5 (Obj.cells #[.int .i64 0, .int .i64 0, .slice none 0 0] 24)
    have hl7c := (Array.getElem?_eq_some_iff.1 t7c).1
    have t7d := (hb6.block w1.heap.size hl7c).trans t7c
    have HR6 := hide (HR5.out.alloc (Obj.cells #[.int .i64 0, .int .i64 0, .slice none 0 0] 24))
    have hs5 := B5.size
    have y4 := bel_trans HU.out B6
    have HRB := hide (IsInts.nil (w5.alloc (Obj.cells #[.int .i64 0, .int .i64 0, .slice none 0 0] 24)))
    have HRA := HR6
    have y1 := t14
    have g7' := t7d
    go_wp2_with fail
    generalize w5.alloc (Obj.cells #[.int .i64 0, .int .i64 0, .slice none 0 0] 24) = W9 at *
    refine (HCOL.out _).mono ?_
    rintro e w12 ⟨rfl, hb12⟩
    replace y1 := (hb12.block w5.heap.size (Array.getElem?_eq_some_iff.1 y1).1).trans y1
    replace g7' := (hb12.block w1.heap.size (Array.getElem?_eq_some_iff.1 g7').1).trans g7'
    replace y4 := bel_trans y4 hb12
    have HRA2 := hide (HRA.out.below hb12 (Nat.le_refl _))
    have HRB2 := hide (HRB.out.below hb12 (Nat.le_refl _))
    clear hb12 HRA HRB
    have hcas : (phase < 0) ∨ (0 ≤ phase ∧ 3 < phase) ∨ (0 ≤ phase ∧ phase ≤ 3 ∧ x < 0) ∨ (0 ≤ phase ∧ phase ≤ 3 ∧ 0 ≤ x ∧ y < 0) ∨ (0 ≤ phase ∧ phase ≤ 3 ∧ 0 ≤ x ∧ 0 ≤ y) := by omega
    rcases hcas with hcs | hcs | hcs | hcs | hcs
    · obtain ⟨hcv, hce⟩ := HCV.out (by simp [phaseOk]; omega)
      subst hcv hce
      have hd0 : decide (0 ≤ phase) = false := by simp; omega
      go_wp2_with fail
      have HRA := HRA2
      have HRB := HRB2
      refine (sensorBegun_any _).mono ?_
      rintro e w10 ⟨rfl, hb10⟩
      obtain ⟨m0, m1, m2⟩ := cells3 ((hb10.block w5.heap.size (Array.getElem?_eq_some_iff.1 y1).1).trans y1)
      obtain ⟨k0, k1, k2⟩ := cells3 ((hb10.block w1.heap.size (Array.getElem?_eq_some_iff.1 g7').1).trans g7')
      have HF := hide (bel_trans y4 hb10)
      go_wp2_with fail
      refine (samePlanes_any 0 0 0 0 _ _ ([] : List Int) ([] : List Int) _ (HRA.out.below hb10 (Nat.le_refl _)) (HRB.out.below hb10 (Nat.le_refl _))).mono ?_
      rintro e w11 ⟨rfl, hb11⟩
      rw [show decide ((0 : Int) = (0 : Int) ∧ (0 : Int) = (0 : Int) ∧ ([] : List Int) = ([] : List Int)) = true by simp]
      go_wp2
      go_ret
      exact ⟨rfl, bel_trans HF.out hb11⟩
    · obtain ⟨hcv, hce⟩ := HCV.out (by simp [phaseOk]; omega)
      subst hcv hce
      have hd0 : decide (0 ≤ phase) = true := by simp; omega
      have hd1 : decide (phase ≤ 3) = false := by simp; omega
      go_wp2_with fail
      have HRA := HRA2
      have HRB := HRB2
      refine (sensorBegun_any _).mono ?_
      rintro e w10 ⟨rfl, hb10⟩
      obtain ⟨m0, m1, m2⟩ := cells3 ((hb10.block w5.heap.size (Array.getElem?_eq_some_iff.1 y1).1).trans y1)
      obtain ⟨k0, k1, k2⟩ := cells3 ((hb10.block w1.heap.size (Array.getElem?_eq_some_iff.1 g7').1).trans g7')
      have HF := hide (bel_trans y4 hb10)
      go_wp2_with fail
      refine (samePlanes_any 0 0 0 0 _ _ ([] : List Int) ([] : List Int) _ (HRA.out.below hb10 (Nat.le_refl _)) (HRB.out.below hb10 (Nat.le_refl _))).mono ?_
      rintro e w11 ⟨rfl, hb11⟩
      rw [show decide ((0 : Int) = (0 : Int) ∧ (0 : Int) = (0 : Int) ∧ ([] : List Int) = ([] : List Int)) = true by simp]
      go_wp2
      go_ret
      exact ⟨rfl, bel_trans HF.out hb11⟩
    · obtain ⟨hcv, hce⟩ := HCV.out (by simp [phaseOk]; omega)
      subst hcv hce
      have hd0 : decide (0 ≤ phase) = true := by simp; omega
      have hd1 : decide (phase ≤ 3) = true := by simp; omega
      have hd2 : decide (0 ≤ x) = false := by simp; omega
      go_wp2_with fail
      have HRA := HRA2
      have HRB := HRB2
      refine (sensorBegun_any _).mono ?_
      rintro e w10 ⟨rfl, hb10⟩
      obtain ⟨m0, m1, m2⟩ := cells3 ((hb10.block w5.heap.size (Array.getElem?_eq_some_iff.1 y1).1).trans y1)
      obtain ⟨k0, k1, k2⟩ := cells3 ((hb10.block w1.heap.size (Array.getElem?_eq_some_iff.1 g7').1).trans g7')
      have HF := hide (bel_trans y4 hb10)
      go_wp2_with fail
      refine (samePlanes_any 0 0 0 0 _ _ ([] : List Int) ([] : List Int) _ (HRA.out.below hb10 (Nat.le_refl _)) (HRB.out.below hb10 (Nat.le_refl _))).mono ?_
      rintro e w11 ⟨rfl, hb11⟩
      rw [show decide ((0 : Int) = (0 : Int) ∧ (0 : Int) = (0 : Int) ∧ ([] : List Int) = ([] : List Int)) = true by simp]
      go_wp2
      go_ret
      exact ⟨rfl, bel_trans HF.out hb11⟩
    · obtain ⟨hcv, hce⟩ := HCV.out (by simp [phaseOk]; omega)
      subst hcv hce
      have hd0 : decide (0 ≤ phase) = true := by simp; omega
      have hd1 : decide (phase ≤ 3) = true := by simp; omega
      have hd2 : decide (0 ≤ x) = true := by simp; omega
      have hd3 : decide (0 ≤ y) = false := by simp; omega
      go_wp2_with fail
      have HRA := HRA2
      have HRB := HRB2
      refine (sensorBegun_any _).mono ?_
      rintro e w10 ⟨rfl, hb10⟩
      obtain ⟨m0, m1, m2⟩ := cells3 ((hb10.block w5.heap.size (Array.getElem?_eq_some_iff.1 y1).1).trans y1)
      obtain ⟨k0, k1, k2⟩ := cells3 ((hb10.block w1.heap.size (Array.getElem?_eq_some_iff.1 g7').1).trans g7')
      have HF := hide (bel_trans y4 hb10)
      go_wp2_with fail
      refine (samePlanes_any 0 0 0 0 _ _ ([] : List Int) ([] : List Int) _ (HRA.out.below hb10 (Nat.le_refl _)) (HRB.out.below hb10 (Nat.le_refl _))).mono ?_
      rintro e w11 ⟨rfl, hb11⟩
      rw [show decide ((0 : Int) = (0 : Int) ∧ (0 : Int) = (0 : Int) ∧ ([] : List Int) = ([] : List Int)) = true by simp]
      go_wp2
      go_ret
      exact ⟨rfl, bel_trans HF.out hb11⟩
    · obtain ⟨hcv, hce⟩ := HCW.out (by simp [phaseOk]; omega)
      subst hce
      obtain ⟨PP, hPP⟩ := Int.eq_ofNat_of_zero_le hcs.1
      obtain ⟨XX, hXX⟩ := Int.eq_ofNat_of_zero_le hcs.2.2.1
      obtain ⟨YY, hYY⟩ := Int.eq_ofNat_of_zero_le hcs.2.2.2
      have hp3 : PP ≤ 3 := by omega
      rw [hPP, hXX, hYY, Int.toNat_natCast, Int.toNat_natCast, Int.toNat_natCast, ← colV_mod] at hcv
      have hd0 : decide (0 ≤ phase) = true := by simp; omega
      have hd1 : decide (phase ≤ 3) = true := by simp; omega
      have hd2 : decide (0 ≤ x) = true := by simp; omega
      have hd3 : decide (0 ≤ y) = true := by simp; omega
      have hxa : x.tmod 2 = ((XX % 2 : Nat) : Int) := by rw [hXX]; rfl
      have hya : y.tmod 2 = ((YY % 2 : Nat) : Int) := by rw [hYY]; rfl
      have hxa2 : x % 2 = ((XX % 2 : Nat) : Int) := by rw [hXX]; rfl
      have hya2 : y % 2 = ((YY % 2 : Nat) : Int) := by rw [hYY]; rfl
      have HCA := hide (fun u => colourAt_any PP (XX % 2) (YY % 2) hp3 (by omega) (by omega) u)
      rw [← hcv, ← hPP] at HCA
      clear hcv hPP hXX hYY
      obtain ⟨xa, hxe⟩ : ∃ xa, XX % 2 = xa := ⟨_, rfl⟩
      obtain ⟨ya, hye⟩ : ∃ ya, YY % 2 = ya := ⟨_, rfl⟩
      rw [hxe] at hxa hxa2 HCA
      rw [hye] at hya hya2 HCA
      have hxr : xa ≤ 1 := by omega
      have hyr : ya ≤ 1 := by omega
      clear hxe hye
      go_wp2_with fail
      refine (HCA.out _).mono ?_
      rintro e w13 ⟨rfl, rfl⟩
      go_wp2_with fail
      have HRA := HRA2
      have HRB := HRB2
      refine (sensorBegun_any _).mono ?_
      rintro e w10 ⟨rfl, hb10⟩
      obtain ⟨m0, m1, m2⟩ := cells3 ((hb10.block w5.heap.size (Array.getElem?_eq_some_iff.1 y1).1).trans y1)
      obtain ⟨k0, k1, k2⟩ := cells3 ((hb10.block w1.heap.size (Array.getElem?_eq_some_iff.1 g7').1).trans g7')
      have HF := hide (bel_trans y4 hb10)
      go_wp2_with fail
      refine (samePlanes_any 0 0 0 0 _ _ ([] : List Int) ([] : List Int) _ (HRA.out.below hb10 (Nat.le_refl _)) (HRB.out.below hb10 (Nat.le_refl _))).mono ?_
      rintro e w11 ⟨rfl, hb11⟩
      rw [show decide ((0 : Int) = (0 : Int) ∧ (0 : Int) = (0 : Int) ∧ ([] : List Int) = ([] : List Int)) = true by simp]
      go_wp2
      go_ret
      exact ⟨rfl, bel_trans HF.out hb11⟩

end Go.Proofs.Ytolcndchfnifhab

/- A slice of integers that came in, as the walks are told of it. -/
namespace Go.Proofs.Ytolcndchfnifhab
open Go.RowKit

theorem ints_of_row {W : World} {x : Addr} {len cap : Nat} {zs : List Int} (hl : len ≤ cap) (hm : cap ≤ maxLen) (hz : zs.length = cap)
    (hcell : ∀ i, i < zs.length → W.cell? (x.add i) = some (.int .i64 (zs.getD i 0))) : IsInts W (.slice (some x) len cap) (zs.take len) := by
  have hlen : (zs.take len).length = len := by rw [List.length_take]; omega
  unfold maxLen at hm
  refine ⟨some x, cap, by rw [hlen], by rw [hlen]; omega, ?_⟩
  by_cases h0 : len = 0
  · left; subst h0; rfl
  · right
    obtain ⟨b, off, rfl, hc⟩ := ints_at hcell (by omega)
    refine ⟨b, off, rfl, World.block_lt_of_cell? W _ (hc 0 (by omega)), fun j hj => ?_⟩
    rw [hlen] at hj
    rw [hc j (by omega)]
    simp [List.getD, List.getElem?_eq_getElem (show j < zs.length by omega)]

end Go.Proofs.Ytolcndchfnifhab

/- How a list of points, or spots, that came in is held. -/
namespace Go.Proofs.Ytolcndchfnifhab
open Go.RowKit Go.ChangeShapes

theorem cells2 {W : World} {base : Nat} {a : Addr} {cs : List Value} (h : W.cells? base a 2 = some cs) : ∃ x y, cs = [x, y] ∧ W.cell? (a.add 0) = some x ∧ W.cell? (a.add 1) = some y := by
  obtain ⟨_, hl, hc⟩ := World.cells?_some h
  match cs, hl with
  | [x, y], _ => exact ⟨x, y, rfl, hc 0 (by omega), hc 1 (by omega)⟩

theorem list_of {α : Type} (P : Nat → α → Prop) (n : Nat) (h : ∀ i, i < n → ∃ p, P i p) (d : α) : ∃ ls : List α, ls.length = n ∧ ∀ i, i < n → P i (ls.getD i d) := by
  induction n with
  | zero => exact ⟨[], rfl, fun i hi => by omega⟩
  | succ n ih =>
    obtain ⟨ls, hl, hp⟩ := ih (fun i hi => h i (by omega))
    obtain ⟨p, hp'⟩ := h n (by omega)
    refine ⟨ls ++ [p], by simp [hl], fun i hi => ?_⟩
    rcases Nat.eq_or_lt_of_le (show i ≤ n by omega) with e | hlt
    · subst e
      rw [List.getD_eq_getElem?_getD, List.getElem?_append_right (by omega), hl]
      simpa using hp'
    · rw [List.getD_eq_getElem?_getD, List.getElem?_append_left (by omega), ← List.getD_eq_getElem?_getD]
      exact hp i hlt

theorem pts_openW {P : Program} {H : Type} {enc : TypeId × Value → H} {W : World} {base : Nat} {spare : Nat → Bool} {held : Bool} {fuel : Nat} {t e : TypeId} {f0 f1 : Field} {v : Value} {x : DataW H × List MemPlace}
    (ht : P.underlying t = some (.slice e)) (he : P.underlying e = some (.struct #[f0, f1])) (h0 : P.underlying f0.type = some (.int .i64)) (h1 : P.underlying f1.type = some (.int .i64)) (o0 : f0.offset = 0) (o1 : f1.offset = 1)
    (ce : P.cellsOf e = 2) (c0 : P.cellsOf f0.type = 1) (c1 : P.cellsOf f1.type = 1) (h : DataW.trod enc P W base spare held fuel t [v] = some x) : ∃ ls, IsPts W v ls ∧ ∀ j, j < ls.length → (Lit.int .i64 (ptAt ls j).1).wf = true ∧ (Lit.int .i64 (ptAt ls j).2).wf = true := by
  rcases DataW.trod_slice ht h with ⟨hcs, _⟩ | ⟨a, len, cap, elems, rest, n, _, hcs, _, hb, hl, hm, hlen, hel, _, _⟩
  · simp at hcs
    subst hcs
    exact ⟨[], IsPts.nil _, fun j hj => by simp at hj⟩
  · simp at hcs
    subst hcs
    have each : ∀ i, i < len → ∃ p : Pt, (W.cell? ((a.add (i * 2)).add 0) = some (.int .i64 p.1) ∧ W.cell? ((a.add (i * 2)).add 1) = some (.int .i64 p.2)) ∧ (Lit.int .i64 p.1).wf = true ∧ (Lit.int .i64 p.2).wf = true := by
      intro i hi
      have h2 := hel i hi
      rw [List.getElem?_eq_getElem (by omega), ce, Option.bind_eq_some_iff] at h2
      obtain ⟨cs, hc, hy⟩ := h2
      obtain ⟨p, q, rfl, hp, hq⟩ := cells2 hc
      obtain ⟨y0, y1, m, _, _, g0, g1⟩ := Go.ChangeShapes.trod_struct2 he hy
      rw [o0, c0] at g0
      rw [o1, c1] at g1
      obtain ⟨z0, e0, _, wf0⟩ := DataW.trod_int h0 g0
      obtain ⟨z1, e1, _, wf1⟩ := DataW.trod_int h1 g1
      simp at e0 e1
      subst e0 e1
      exact ⟨(z0, z1), ⟨hp, hq⟩, wf0, wf1⟩
    obtain ⟨ls, hll, hls⟩ := list_of _ len each (0, 0)
    unfold maxLen at hm
    refine ⟨ls, ⟨some a, cap, by rw [hll], by omega, ?_⟩, fun j hj => (hls j (by omega)).2⟩
    by_cases hz : len = 0
    · exact .inl (List.eq_nil_of_length_eq_zero (by omega))
    · right
      obtain ⟨b, off, spot⟩ := a
      have hspot : spot = none := by simpa [Addr.add] using World.cell?_spot (hls 0 (by omega)).1.1
      subst hspot
      have hk : ∀ j, j < ls.length → W.cell? ⟨b, off + j * 2, none⟩ = some (.int .i64 (ptAt ls j).1) ∧ W.cell? ⟨b, off + j * 2 + 1, none⟩ = some (.int .i64 (ptAt ls j).2) := by
        intro j hj
        have h2 := (hls j (by omega)).1
        rw [Go.WideShapes.add_plain, Go.WideShapes.add_plain, Go.WideShapes.add_plain] at h2
        exact h2
      exact ⟨b, off, rfl, World.block_lt_of_cell? W _ (hk 0 (by omega)).1, hk⟩

theorem pts_open {P : Program} {H : Type} {enc : TypeId × Value → H} {W : World} {base : Nat} {spare : Nat → Bool} {held : Bool} {fuel : Nat} {t e : TypeId} {f0 f1 : Field} {v : Value} {x : DataW H × List MemPlace}
    (ht : P.underlying t = some (.slice e)) (he : P.underlying e = some (.struct #[f0, f1])) (h0 : P.underlying f0.type = some (.int .i64)) (h1 : P.underlying f1.type = some (.int .i64)) (o0 : f0.offset = 0) (o1 : f1.offset = 1)
    (ce : P.cellsOf e = 2) (c0 : P.cellsOf f0.type = 1) (c1 : P.cellsOf f1.type = 1) (h : DataW.trod enc P W base spare held fuel t [v] = some x) : ∃ ls, IsPts W v ls := by
  obtain ⟨ls, h, _⟩ := pts_openW ht he h0 h1 o0 o1 ce c0 c1 h
  exact ⟨ls, h⟩

end Go.Proofs.Ytolcndchfnifhab

/- How an array of numbers that came in is held. -/
namespace Go.Proofs.Ytolcndchfnifhab
open Go.RowKit Go.ChangeShapes

theorem arr_open {P : Program} {H : Type} {enc : TypeId × Value → H} {W : World} {base b0 : Nat} {spare : Nat → Bool} {held : Bool} {r : Reach} {t e : TypeId} {n : Nat} {v : Value} {d : DataW H} {p : List MemPlace}
    (ht : P.underlying t = some (.array n e)) (he : P.underlying e = some (.int .i64)) (ce : P.cellsOf e = 1) (ct : P.cellsOf t = n) (hv : Value.okWide P W r b0 t v) (h : DataW.Trod enc P W base spare held t v d p) :
    ∃ m : Nat → Int, v = .agg ((List.range n).map fun k => Value.int .i64 (m k)).toArray := by
  obtain ⟨cs, rfl, hsz, _⟩ : ∃ cs, v = .agg cs ∧ cs.size = P.cellsOf t ∧ Row.okWide P W r b0 t cs := by
    simpa [Value.okWide, ht] using hv
  rw [ct] at hsz
  obtain ⟨fuel, hf⟩ := h
  obtain ⟨xs, m, _, _, _, hl, hel⟩ := DataW.trod_array ht hf
  have each : ∀ i, i < n → ∃ z : Int, cs[i]? = some (.int .i64 z) := by
    intro i hi
    have hE := hel i hi
    rw [ce, Nat.mul_one, List.getElem?_eq_getElem (by omega)] at hE
    obtain ⟨z, e1, _, _⟩ := DataW.trod_int he hE
    refine ⟨z, ?_⟩
    have h0 : (((Value.cells (.agg cs)).toList.drop i).take 1)[0]? = some (.int .i64 z) := by rw [e1]; rfl
    simpa [Value.cells] using h0
  obtain ⟨ls, hll, hls⟩ := list_of _ n each 0
  refine ⟨fun k => ls.getD k 0, ?_⟩
  congr 1
  apply Array.ext_getElem?
  intro i
  by_cases hi : i < n
  · rw [hls i hi]
    simp [hi]
  · rw [Array.getElem?_eq_none (by omega)]
    simp [hi]

end Go.Proofs.Ytolcndchfnifhab

/- How arrays of four, and of three, numbers that came in are held. -/
namespace Go.Proofs.Ytolcndchfnifhab
open Go.RowKit Go.ChangeShapes

theorem four_open {P : Program} {H : Type} {enc : TypeId × Value → H} {W : World} {base b0 : Nat} {spare : Nat → Bool} {held : Bool} {r : Reach} {t e : TypeId} {v : Value} {d : DataW H} {p : List MemPlace}
    (ht : P.underlying t = some (.array 4 e)) (he : P.underlying e = some (.int .i64)) (ce : P.cellsOf e = 1) (ct : P.cellsOf t = 4) (hv : Value.okWide P W r b0 t v) (h : DataW.Trod enc P W base spare held t v d p) :
    ∃ m : Nat → Int, v = .agg (fourA m) := by
  obtain ⟨m, rfl⟩ := arr_open ht he ce ct hv h
  exact ⟨m, rfl⟩

theorem three_open {P : Program} {H : Type} {enc : TypeId × Value → H} {W : World} {base b0 : Nat} {spare : Nat → Bool} {held : Bool} {r : Reach} {t e : TypeId} {v : Value} {d : DataW H} {p : List MemPlace}
    (ht : P.underlying t = some (.array 3 e)) (he : P.underlying e = some (.int .i64)) (ce : P.cellsOf e = 1) (ct : P.cellsOf t = 3) (hv : Value.okWide P W r b0 t v) (h : DataW.Trod enc P W base spare held t v d p) :
    ∃ m : Nat → Int, v = .agg (threeA m) := by
  obtain ⟨m, rfl⟩ := arr_open ht he ce ct hv h
  exact ⟨m, rfl⟩

end Go.Proofs.Ytolcndchfnifhab

