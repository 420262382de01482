/- MosaicFills: the walk. -/
import Derived.Test.YtolcndchfnifhabMosaicBegun
import Derived.Test.YtolcndchfnifhabRefFilled
import Derived.Test.YtolcndchfnifhabRefTaken
namespace Go.Proofs.Ytolcndchfnifhab
set_option linter.unusedVariables false
open Go.RowKit

/-- the boxes. -/
def MfJ (w w1 w2 : World) (P Q Ab Bb F O : Array Value) (X : World) : Prop :=
  X.heap[w.heap.size]? = some (.cells P 24 (0, 0)) ∧ X.heap[w.heap.size + 1]? = some (.cells Q 39 (0, 0)) ∧ X.heap[w1.heap.size]? = some (.cells Ab 39 (0, 0)) ∧ X.heap[w2.heap.size]? = some (.cells Bb 24 (0, 0)) ∧ X.heap[w2.heap.size + 1]? = some (.cells F 39 (0, 0)) ∧ X.heap[w2.heap.size + 2]? = some (.cells O 24 (0, 0)) ∧ Below w.heap.size w X ∧ Below w1.heap.size w1 X ∧ Below w2.heap.size w2 X
theorem MfJ.below {w w1 w2 : World} {P Q Ab Bb F O : Array Value} {X X2 : World} (h : MfJ w w1 w2 P Q Ab Bb F O X) (hb : Below X.heap.size X X2) : MfJ w w1 w2 P Q Ab Bb F O X2 := by
  obtain ⟨h1, h2, h3, h4, h5, h6, h7, h8, h9⟩ := h
  exact ⟨(hb.block _ (Array.getElem?_eq_some_iff.1 h1).1).trans h1, (hb.block _ (Array.getElem?_eq_some_iff.1 h2).1).trans h2, (hb.block _ (Array.getElem?_eq_some_iff.1 h3).1).trans h3, (hb.block _ (Array.getElem?_eq_some_iff.1 h4).1).trans h4, (hb.block _ (Array.getElem?_eq_some_iff.1 h5).1).trans h5, (hb.block _ (Array.getElem?_eq_some_iff.1 h6).1).trans h6, h7.trans (hb.mono h7.size), h8.trans (hb.mono h8.size), h9.trans (hb.mono h9.size)⟩
theorem MfJ.setF {w w1 w2 : World} {P Q Ab Bb O : Array Value} {a b c : Value} {X : World} (h : MfJ w w1 w2 P Q Ab Bb #[a, b, c] O X) (hw : w.heap.size + 1 < w1.heap.size) (hw1 : w1.heap.size < w2.heap.size) (x y z : Value) : MfJ w w1 w2 P Q Ab Bb #[x, y, z] O (((X.setCell ⟨w2.heap.size + 1, 0, none⟩ x).setCell ⟨w2.heap.size + 1, 1, none⟩ y).setCell ⟨w2.heap.size + 1, 2, none⟩ z) := by
  obtain ⟨h1, h2, h3, h4, h5, h6, h7, h8, h9⟩ := h
  obtain ⟨y1, y2, _, y4⟩ := box3_set h5 x y z w (by omega) h7
  exact ⟨(y2 _ (by omega)).trans h1, (y2 _ (by omega)).trans h2, (y2 _ (by omega)).trans h3, (y2 _ (by omega)).trans h4, y1, (y2 _ (by omega)).trans h6, y4, set3_below h8 (by omega) x y z, set3_below h9 (by omega) x y z⟩
theorem MfJ.setO {w w1 w2 : World} {P Q Ab Bb F : Array Value} {a b c : Value} {X : World} (h : MfJ w w1 w2 P Q Ab Bb F #[a, b, c] X) (hw : w.heap.size + 1 < w1.heap.size) (hw1 : w1.heap.size < w2.heap.size) (x y z : Value) : MfJ w w1 w2 P Q Ab Bb F #[x, y, z] (((X.setCell ⟨w2.heap.size + 2, 0, none⟩ x).setCell ⟨w2.heap.size + 2, 1, none⟩ y).setCell ⟨w2.heap.size + 2, 2, none⟩ z) := by
  obtain ⟨h1, h2, h3, h4, h5, h6, h7, h8, h9⟩ := h
  obtain ⟨y1, y2, _, y4⟩ := box3_set h6 x y z w (by omega) h7
  exact ⟨(y2 _ (by omega)).trans h1, (y2 _ (by omega)).trans h2, (y2 _ (by omega)).trans h3, (y2 _ (by omega)).trans h4, (y2 _ (by omega)).trans h5, y1, y4, set3_below h8 (by omega) x y z, set3_below h9 (by omega) x y z⟩

set_option maxRecDepth 100000 in
set_option maxHeartbeats 3200000 in
theorem mosaicFills_111 (W H : Int) (v : Value) (zs : List Int) (W2 H2 : Int) (v2 : Value) (ps : List Px) (phase : Int) (w : World) (hv : IsInts w v zs) (hv2 : IsPix w v2 ps) (hp : planeOk W H zs = true) (hq : picOk W2 H2 ps = true) (hph : phaseOk phase = true) :
    Calls Try.prog 4 #[.agg #[.int .i64 W, .int .i64 H, v], .agg #[.int .i64 W2, .int .i64 H2, v2], .int .i64 phase] w fun e w' => e = .returned (.bool true) ∧ Below w.heap.size w w' := by
  have HV := hide hv
  have HV2 := hide hv2
  obtain ⟨ao, ca, rfl, _, _⟩ := hv
  obtain ⟨bo, cb, rfl, _, _⟩ := hv2
  have hFE : fillE W H zs phase = 0 := by simp [fillE, hp, hph]
  have hTE : takeE W2 H2 ps phase = 0 := by simp [takeE, hq, hph]
  have HB1 := hide (fun (u : World) (hu : IsInts u (.slice ao zs.length ca) zs) => fill_any W H _ zs phase u hu)
  have HB2 := hide (fun (u : World) (hu : IsPix u (.slice bo ps.length cb) ps) => take_any W2 H2 _ ps phase u hu)
  rw [hFE] at HB1
  rw [hTE] at HB2
  have hFL := fillL_length W H zs phase
  have hTL : (takeL W2 ps phase).length = ps.length := by simp [takeL]
  obtain ⟨hph1, hph2⟩ : 0 ≤ phase ∧ phase ≤ 3 := by simpa [phaseOk] using hph
  have hd1 : decide (0 ≤ phase) = true := by simpa using hph1
  have hd2 : decide (phase ≤ 3) = true := by simpa using hph2
  rw [show okW 0 W = W from rfl, show okW 0 H = H from rfl, show okL 0 (fillL W H zs phase) = fillL W H zs phase from rfl] at HB1
  obtain ⟨hg1, hg2, hg3, _⟩ := planeOk_parts hp
  have HRF := hide (fun (u : World) (hu : IsInts u (.slice ao zs.length ca) zs) => filled_any W.toNat H.toNat phase.toNat (by omega) (by omega) (by omega) (by omega) (by omega) _ zs (by have h := hg3; rw [← Int.toNat_of_nonneg (show 0 ≤ W by omega), ← Int.toNat_of_nonneg (show 0 ≤ H by omega)] at h; rw [Nat.mul_comm]; exact_mod_cast h) (planeOk_all hp) u hu)
  rw [show (List.range zs.length).map (fillP zs W.toNat H.toNat phase.toNat) = fillL W H zs phase from rfl, Int.toNat_of_nonneg (show 0 ≤ W by omega), Int.toNat_of_nonneg (show 0 ≤ H by omega), Int.toNat_of_nonneg (show 0 ≤ phase by omega)] at HRF
  clear hg1 hg2 hg3
  rw [show okW 0 W2 = W2 from rfl, show okW 0 H2 = H2 from rfl, show okL 0 (takeL W2 ps phase) = takeL W2 ps phase from rfl] at HB2
  obtain ⟨hg1, hg2, hg3, _⟩ := picOk_parts hq
  have HRT := hide (fun (u : World) (hu : IsPix u (.slice bo ps.length cb) ps) => taken_any W2.toNat H2.toNat phase.toNat (by omega) (by omega) (by omega) (by omega) _ ps (by have h := hg3; rw [← Int.toNat_of_nonneg (show 0 ≤ W2 by omega), ← Int.toNat_of_nonneg (show 0 ≤ H2 by omega)] at h; rw [Nat.mul_comm]; exact_mod_cast h) u hu)
  rw [show (List.range ps.length).map (takeV ps W2.toNat phase.toNat) = takeL W2 ps phase from rfl, Int.toNat_of_nonneg (show 0 ≤ W2 by omega), Int.toNat_of_nonneg (show 0 ≤ H2 by omega), Int.toNat_of_nonneg (show 0 ≤ phase by omega)] at HRT
  clear hg1 hg2 hg3
  clear hFE hTE
  obtain ⟨u1, u2⟩ := al2 w (Obj.cells #[.int .i64 W, .int .i64 H, .slice ao zs.length ca] 24) (Obj.cells #[.int .i64 W2, .int .i64 H2, .slice bo ps.length cb] 39)
  have HU := hide (be2 w (Obj.cells #[.int .i64 W, .int .i64 H, .slice ao zs.length ca] 24) (Obj.cells #[.int .i64 W2, .int .i64 H2, .slice bo ps.length cb] 39))
  have hsU : ((w.alloc (Obj.cells #[.int .i64 W, .int .i64 H, .slice ao zs.length ca] 24)).alloc (Obj.cells #[.int .i64 W2, .int .i64 H2, .slice bo ps.length cb] 39)).heap.size = w.heap.size + 2 := by simp
  go_enter Try.func4, Try.ntmps4
  go_wp2_with fail
  generalize (w.alloc (Obj.cells #[.int .i64 W, .int .i64 H, .slice ao zs.length ca] 24)).alloc (Obj.cells #[.int .i64 W2, .int .i64 H2, .slice bo ps.length cb] 39) = U at *
  replace hsU := Nat.le_of_eq hsU.symm
  refine (HB1.out _ (HV.out.below HU.out (Nat.le_refl _))).mono ?_
  rintro e w1 ⟨r, rfl, hr, hb1, _⟩
  have HR1 := hide hr
  obtain ⟨ro, rc, rfl, _, _⟩ := hr
  rw [hFL] at HR1 ⊢
  have ta := al1 w1 (Obj.cells #[.int .i64 W, .int .i64 H, .slice ro zs.length rc] 39)
  have hb1a := bel_trans hb1 (bel_alloc w1 (Obj.cells #[.int .i64 W, .int .i64 H, .slice ro zs.length rc] 39))
  obtain ⟨c0, c1, c2⟩ := cells3 ((hb1a.block (w.heap.size + 1) (by omega)).trans u2)
  go_wp2_with fail
  have hlw1 : w.heap.size + 1 < w1.heap.size := by have := hb1.size; omega
  have HS1 := hide (bel_alloc w1 (Obj.cells #[.int .i64 W, .int .i64 H, .slice ro zs.length rc] 39))
  generalize w1.alloc (Obj.cells #[.int .i64 W, .int .i64 H, .slice ro zs.length rc] 39) = w1a at *
  clear c0 c1 c2
  refine (HB2.out _ (HV2.out.below (HU.out.trans (hb1a.mono HU.out.size)) (Nat.le_refl _))).mono ?_
  rintro e w2 ⟨r2, rfl, hr2, hb2, _⟩
  have HR2 := hide hr2
  obtain ⟨to_, tc, rfl, _, _⟩ := hr2
  rw [hTL] at HR2 ⊢
  obtain ⟨tb, tf, to2⟩ := al3 w2 (Obj.cells #[.int .i64 W2, .int .i64 H2, .slice to_ ps.length tc] 24) (Obj.cells #[.int .i64 0, .int .i64 0, .slice none 0 0] 39) (Obj.cells #[.int .i64 0, .int .i64 0, .slice none 0 0] 24)
  have hb3 := be3 w2 (Obj.cells #[.int .i64 W2, .int .i64 H2, .slice to_ ps.length tc] 24) (Obj.cells #[.int .i64 0, .int .i64 0, .slice none 0 0] 39) (Obj.cells #[.int .i64 0, .int .i64 0, .slice none 0 0] 24)
  have hlw2 : w1.heap.size < w2.heap.size := Nat.lt_of_lt_of_le (Array.getElem?_eq_some_iff.1 ta).1 hb2.size
  have hU3 := bel_trans hb1a (bel_trans hb2 hb3)
  have hJ : MfJ w w1 w2 #[.int .i64 W, .int .i64 H, .slice ao zs.length ca] #[.int .i64 W2, .int .i64 H2, .slice bo ps.length cb] #[.int .i64 W, .int .i64 H, .slice ro zs.length rc] #[.int .i64 W2, .int .i64 H2, .slice to_ ps.length tc] #[.int .i64 0, .int .i64 0, .slice none 0 0] #[.int .i64 0, .int .i64 0, .slice none 0 0] (((w2.alloc (Obj.cells #[.int .i64 W2, .int .i64 H2, .slice to_ ps.length tc] 24)).alloc (Obj.cells #[.int .i64 0, .int .i64 0, .slice none 0 0] 39)).alloc (Obj.cells #[.int .i64 0, .int .i64 0, .slice none 0 0] 24)) := ⟨(hU3.block w.heap.size (by omega)).trans u1, (hU3.block (w.heap.size + 1) (by omega)).trans u2, ((bel_trans hb2 hb3).block w1.heap.size (Array.getElem?_eq_some_iff.1 ta).1).trans ta, tb, tf, to2, HU.out.trans (hU3.mono HU.out.size), HS1.out.trans ((bel_trans hb2 hb3).mono HS1.out.size), hb3⟩
  clear u1 u2 ta tb tf to2 hb1 hb1a hb2 hb3 hU3 HS1 HB1 HB2
  have HJ := hide hJ
  obtain ⟨e0, e1, e2⟩ := cells3 hJ.1
  clear hJ
  go_wp2_with fail
  generalize ((w2.alloc (Obj.cells #[.int .i64 W2, .int .i64 H2, .slice to_ ps.length tc] 24)).alloc (Obj.cells #[.int .i64 0, .int .i64 0, .slice none 0 0] 39)).alloc (Obj.cells #[.int .i64 0, .int .i64 0, .slice none 0 0] 24) = X0 at *
  clear e0 e1 e2
  refine (planeFine_any W H _ zs _ (HV.out.below HJ.out.2.2.2.2.2.2.1 (Nat.le_refl _))).mono ?_
  rintro e X1 ⟨rfl, hx1⟩
  rw [hp]
  replace HJ := hide (HJ.out.below hx1)
  obtain ⟨e0, e1, e2⟩ := cells3 HJ.out.1
  go_wp2_with fail
  clear e0 e1 e2
  refine (HRF.out _ (HV.out.below HJ.out.2.2.2.2.2.2.1 (Nat.le_refl _))).mono ?_
  rintro e X2 ⟨rf, rfl, hrf, hx2, hfr⟩
  have hlF := (Array.getElem?_eq_some_iff.1 HJ.out.2.2.2.2.2.1).1
  replace HJ := hide (HJ.out.below hx2)
  have HRFx := hide hrf
  obtain ⟨fo, fc, rfl, _, _⟩ := hrf
  rw [hFL] at HRFx hfr ⊢
  obtain ⟨z0, z1, z2⟩ := cells3 HJ.out.2.2.2.2.1
  have f0 := Lib.frozen_of_heap HJ.out.2.2.2.2.1 0
  have f1 := Lib.frozen_of_heap HJ.out.2.2.2.2.1 1
  have f2 := Lib.frozen_of_heap HJ.out.2.2.2.2.1 2
  have HF1 := hide (HRFx.out.set3 hfr (show w2.heap.size + 1 < X1.heap.size by omega) (.int .i64 W) (.int .i64 H) (.slice fo zs.length fc))
  have HJ2 := hide (HJ.out.setF hlw1 hlw2 (.int .i64 W) (.int .i64 H) (.slice fo zs.length fc))
  obtain ⟨q0, q1, q2⟩ := cells3 HJ2.out.2.1
  go_wp2_with fail
  generalize ((X2.setCell ⟨w2.heap.size + 1, 0, none⟩ (.int .i64 W)).setCell ⟨w2.heap.size + 1, 1, none⟩ (.int .i64 H)).setCell ⟨w2.heap.size + 1, 2, none⟩ (.slice fo zs.length fc) = X3 at *
  clear z0 z1 z2 f0 f1 f2 q0 q1 q2 HJ
  refine (pictureFine_any W2 H2 _ ps _ (HV2.out.below HJ2.out.2.2.2.2.2.2.1 (Nat.le_refl _))).mono ?_
  rintro e X4 ⟨rfl, hx4⟩
  rw [hq]
  have HJ4 := hide (HJ2.out.below hx4)
  have HF4 := hide (HF1.out.below hx4 (Nat.le_refl _))
  have hsz4 := hx4.size
  obtain ⟨e0, e1, e2⟩ := cells3 HJ4.out.2.1
  go_wp2_with fail
  clear e0 e1 e2
  refine (HRT.out _ (HV2.out.below HJ4.out.2.2.2.2.2.2.1 (Nat.le_refl _))).mono ?_
  rintro e X5 ⟨rt, rfl, hrt, hx5, hft⟩
  have hlO := (Array.getElem?_eq_some_iff.1 HJ4.out.2.2.2.2.2.1).1
  replace HJ4 := hide (HJ4.out.below hx5)
  replace HF4 := hide (HF4.out.below hx5 (Nat.le_refl _))
  have HRTx := hide hrt
  obtain ⟨go_, gc, rfl, _, _⟩ := hrt
  rw [hTL] at HRTx hft ⊢
  obtain ⟨z0, z1, z2⟩ := cells3 HJ4.out.2.2.2.2.2.1
  have f0 := Lib.frozen_of_heap HJ4.out.2.2.2.2.2.1 0
  have f1 := Lib.frozen_of_heap HJ4.out.2.2.2.2.2.1 1
  have f2 := Lib.frozen_of_heap HJ4.out.2.2.2.2.2.1 2
  have HT6 := hide (HRTx.out.set3 hft (show w2.heap.size + 2 < X4.heap.size by omega) (.int .i64 W2) (.int .i64 H2) (.slice go_ ps.length gc))
  have HJ6 := hide (HJ4.out.setO hlw1 hlw2 (.int .i64 W2) (.int .i64 H2) (.slice go_ ps.length gc))
  have HF6 := hide (HF4.out.set3 hfr (show w2.heap.size + 2 < X1.heap.size by omega) (.int .i64 W2) (.int .i64 H2) (.slice go_ ps.length gc))
  go_wp2_with fail
  generalize ((X5.setCell ⟨w2.heap.size + 2, 0, none⟩ (.int .i64 W2)).setCell ⟨w2.heap.size + 2, 1, none⟩ (.int .i64 H2)).setCell ⟨w2.heap.size + 2, 2, none⟩ (.slice go_ ps.length gc) = X6 at *
  clear z0 z1 z2 f0 f1 f2
  refine (mosaicBegun_any _).mono ?_
  rintro e X7 ⟨rfl, hx7⟩
  have HJ7 := hide (HJ6.out.below hx7)
  obtain ⟨m0, m1, m2⟩ := cells3 HJ7.out.2.2.1
  obtain ⟨k0, k1, k2⟩ := cells3 HJ7.out.2.2.2.2.1
  go_wp2_with fail
  clear m0 m1 m2 k0 k1 k2
  refine (samePictures_any W H _ (fillL W H zs phase) W H _ (fillL W H zs phase) _ (HR1.out.below HJ7.out.2.2.2.2.2.2.2.1 (Nat.le_refl _)) (HF6.out.below hx7 (Nat.le_refl _))).mono ?_
  rintro e X8 ⟨rfl, hx8⟩
  rw [show sameB W H (fillL W H zs phase) W H (fillL W H zs phase) = true by simp [sameB]]
  have HJ8 := hide (HJ7.out.below hx8)
  obtain ⟨m0, m1, m2⟩ := cells3 HJ8.out.2.2.2.1
  obtain ⟨k0, k1, k2⟩ := cells3 HJ8.out.2.2.2.2.2.1
  go_wp2_with fail
  clear m0 m1 m2 k0 k1 k2
  refine (samePlanes_any W2 H2 W2 H2 _ _ (takeL W2 ps phase) (takeL W2 ps phase) _ (HR2.out.below HJ8.out.2.2.2.2.2.2.2.2 (Nat.le_refl _)) (HT6.out.below (bel_trans hx7 hx8) (Nat.le_refl _))).mono ?_
  rintro e X9 ⟨rfl, hx9⟩
  rw [show decide ((W2 : Int) = W2 ∧ (H2 : Int) = H2 ∧ (takeL W2 ps phase) = (takeL W2 ps phase)) = true by simp]
  have HFIN := hide ((HJ8.out.below hx9).2.2.2.2.2.2.1)
  go_wp2
  go_ret
  exact ⟨rfl, HFIN.out⟩

set_option maxRecDepth 100000 in
set_option maxHeartbeats 3200000 in
theorem mosaicFills_110 (W H : Int) (v : Value) (zs : List Int) (W2 H2 : Int) (v2 : Value) (ps : List Px) (phase : Int) (w : World) (hv : IsInts w v zs) (hv2 : IsPix w v2 ps) (hp : planeOk W H zs = true) (hq : picOk W2 H2 ps = true) (hph : phaseOk phase = false) :
    Calls Try.prog 4 #[.agg #[.int .i64 W, .int .i64 H, v], .agg #[.int .i64 W2, .int .i64 H2, v2], .int .i64 phase] w fun e w' => e = .returned (.bool true) ∧ Below w.heap.size w w' := by
  have HV := hide hv
  have HV2 := hide hv2
  obtain ⟨ao, ca, rfl, _, _⟩ := hv
  obtain ⟨bo, cb, rfl, _, _⟩ := hv2
  have hFE : fillE W H zs phase = 3 := by simp [fillE, hp, hph]
  have hTE : takeE W2 H2 ps phase = 3 := by simp [takeE, hq, hph]
  have HB1 := hide (fun (u : World) (hu : IsInts u (.slice ao zs.length ca) zs) => fill_any W H _ zs phase u hu)
  have HB2 := hide (fun (u : World) (hu : IsPix u (.slice bo ps.length cb) ps) => take_any W2 H2 _ ps phase u hu)
  rw [hFE] at HB1
  rw [hTE] at HB2
  have hFL := fillL_length W H zs phase
  have hTL : (takeL W2 ps phase).length = ps.length := by simp [takeL]
  rw [show okW 3 W = 0 from rfl, show okW 3 H = 0 from rfl, show okL 3 (fillL W H zs phase) = [] from rfl] at HB1
  rw [show okW 3 W2 = 0 from rfl, show okW 3 H2 = 0 from rfl, show okL 3 (takeL W2 ps phase) = [] from rfl] at HB2
  clear hFE hTE
  have hcas : phase < 0 ∨ (0 ≤ phase ∧ 3 < phase) := by
    have h : ¬ (0 ≤ phase ∧ phase ≤ 3) := by simpa [phaseOk] using hph
    omega
  rcases hcas with hcas | ⟨hc1, hc2⟩
  · have hd1 : decide (0 ≤ phase) = false := by simpa using hcas
    clear hcas
    obtain ⟨u1, u2⟩ := al2 w (Obj.cells #[.int .i64 W, .int .i64 H, .slice ao zs.length ca] 24) (Obj.cells #[.int .i64 W2, .int .i64 H2, .slice bo ps.length cb] 39)
    have HU := hide (be2 w (Obj.cells #[.int .i64 W, .int .i64 H, .slice ao zs.length ca] 24) (Obj.cells #[.int .i64 W2, .int .i64 H2, .slice bo ps.length cb] 39))
    have hsU : ((w.alloc (Obj.cells #[.int .i64 W, .int .i64 H, .slice ao zs.length ca] 24)).alloc (Obj.cells #[.int .i64 W2, .int .i64 H2, .slice bo ps.length cb] 39)).heap.size = w.heap.size + 2 := by simp
    go_enter Try.func4, Try.ntmps4
    go_wp2_with fail
    generalize (w.alloc (Obj.cells #[.int .i64 W, .int .i64 H, .slice ao zs.length ca] 24)).alloc (Obj.cells #[.int .i64 W2, .int .i64 H2, .slice bo ps.length cb] 39) = U at *
    replace hsU := Nat.le_of_eq hsU.symm
    refine (HB1.out _ (HV.out.below HU.out (Nat.le_refl _))).mono ?_
    rintro e w1 ⟨r, rfl, hr, hb1, _⟩
    have HR1 := hide hr
    obtain ⟨ro, rc, rfl, _, _⟩ := hr
    rw [List.length_nil] at HR1 ⊢
    have ta := al1 w1 (Obj.cells #[.int .i64 0, .int .i64 0, .slice ro 0 rc] 39)
    have hb1a := bel_trans hb1 (bel_alloc w1 (Obj.cells #[.int .i64 0, .int .i64 0, .slice ro 0 rc] 39))
    obtain ⟨c0, c1, c2⟩ := cells3 ((hb1a.block (w.heap.size + 1) (by omega)).trans u2)
    go_wp2_with fail
    have hlw1 : w.heap.size + 1 < w1.heap.size := by have := hb1.size; omega
    have HS1 := hide (bel_alloc w1 (Obj.cells #[.int .i64 0, .int .i64 0, .slice ro 0 rc] 39))
    generalize w1.alloc (Obj.cells #[.int .i64 0, .int .i64 0, .slice ro 0 rc] 39) = w1a at *
    clear c0 c1 c2
    refine (HB2.out _ (HV2.out.below (HU.out.trans (hb1a.mono HU.out.size)) (Nat.le_refl _))).mono ?_
    rintro e w2 ⟨r2, rfl, hr2, hb2, _⟩
    have HR2 := hide hr2
    obtain ⟨to_, tc, rfl, _, _⟩ := hr2
    rw [List.length_nil] at HR2 ⊢
    obtain ⟨tb, tf, to2⟩ := al3 w2 (Obj.cells #[.int .i64 0, .int .i64 0, .slice to_ 0 tc] 24) (Obj.cells #[.int .i64 0, .int .i64 0, .slice none 0 0] 39) (Obj.cells #[.int .i64 0, .int .i64 0, .slice none 0 0] 24)
    have hb3 := be3 w2 (Obj.cells #[.int .i64 0, .int .i64 0, .slice to_ 0 tc] 24) (Obj.cells #[.int .i64 0, .int .i64 0, .slice none 0 0] 39) (Obj.cells #[.int .i64 0, .int .i64 0, .slice none 0 0] 24)
    have hlw2 : w1.heap.size < w2.heap.size := Nat.lt_of_lt_of_le (Array.getElem?_eq_some_iff.1 ta).1 hb2.size
    have hU3 := bel_trans hb1a (bel_trans hb2 hb3)
    have hJ : MfJ w w1 w2 #[.int .i64 W, .int .i64 H, .slice ao zs.length ca] #[.int .i64 W2, .int .i64 H2, .slice bo ps.length cb] #[.int .i64 0, .int .i64 0, .slice ro 0 rc] #[.int .i64 0, .int .i64 0, .slice to_ 0 tc] #[.int .i64 0, .int .i64 0, .slice none 0 0] #[.int .i64 0, .int .i64 0, .slice none 0 0] (((w2.alloc (Obj.cells #[.int .i64 0, .int .i64 0, .slice to_ 0 tc] 24)).alloc (Obj.cells #[.int .i64 0, .int .i64 0, .slice none 0 0] 39)).alloc (Obj.cells #[.int .i64 0, .int .i64 0, .slice none 0 0] 24)) := ⟨(hU3.block w.heap.size (by omega)).trans u1, (hU3.block (w.heap.size + 1) (by omega)).trans u2, ((bel_trans hb2 hb3).block w1.heap.size (Array.getElem?_eq_some_iff.1 ta).1).trans ta, tb, tf, to2, HU.out.trans (hU3.mono HU.out.size), HS1.out.trans ((bel_trans hb2 hb3).mono HS1.out.size), hb3⟩
    clear u1 u2 ta tb tf to2 hb1 hb1a hb2 hb3 hU3 HS1 HB1 HB2
    have HJ := hide hJ
    obtain ⟨e0, e1, e2⟩ := cells3 hJ.1
    clear hJ
    go_wp2_with fail
    generalize ((w2.alloc (Obj.cells #[.int .i64 0, .int .i64 0, .slice to_ 0 tc] 24)).alloc (Obj.cells #[.int .i64 0, .int .i64 0, .slice none 0 0] 39)).alloc (Obj.cells #[.int .i64 0, .int .i64 0, .slice none 0 0] 24) = X0 at *
    clear e0 e1 e2
    refine (planeFine_any W H _ zs _ (HV.out.below HJ.out.2.2.2.2.2.2.1 (Nat.le_refl _))).mono ?_
    rintro e X1 ⟨rfl, hx1⟩
    rw [hp]
    replace HJ := hide (HJ.out.below hx1)
    obtain ⟨q0, q1, q2⟩ := cells3 HJ.out.2.1
    have HF1 := hide (IsPix.nil X1)
    go_wp2_with fail
    clear q0 q1 q2
    refine (pictureFine_any W2 H2 _ ps _ (HV2.out.below HJ.out.2.2.2.2.2.2.1 (Nat.le_refl _))).mono ?_
    rintro e X4 ⟨rfl, hx4⟩
    rw [hq]
    have HJ4 := hide (HJ.out.below hx4)
    have HF4 := hide (HF1.out.below hx4 (Nat.le_refl _))
    have HT6 := hide (IsInts.nil X4)
    have HJ6 := HJ4
    have HF6 := HF4
    go_wp2_with fail
    refine (mosaicBegun_any _).mono ?_
    rintro e X7 ⟨rfl, hx7⟩
    have HJ7 := hide (HJ6.out.below hx7)
    obtain ⟨m0, m1, m2⟩ := cells3 HJ7.out.2.2.1
    obtain ⟨k0, k1, k2⟩ := cells3 HJ7.out.2.2.2.2.1
    go_wp2_with fail
    clear m0 m1 m2 k0 k1 k2
    refine (samePictures_any 0 0 _ ([] : List Px) 0 0 _ ([] : List Px) _ (HR1.out.below HJ7.out.2.2.2.2.2.2.2.1 (Nat.le_refl _)) (HF6.out.below hx7 (Nat.le_refl _))).mono ?_
    rintro e X8 ⟨rfl, hx8⟩
    rw [show sameB 0 0 ([] : List Px) 0 0 ([] : List Px) = true by simp [sameB]]
    have HJ8 := hide (HJ7.out.below hx8)
    obtain ⟨m0, m1, m2⟩ := cells3 HJ8.out.2.2.2.1
    obtain ⟨k0, k1, k2⟩ := cells3 HJ8.out.2.2.2.2.2.1
    go_wp2_with fail
    clear m0 m1 m2 k0 k1 k2
    refine (samePlanes_any 0 0 0 0 _ _ ([] : List Int) ([] : List Int) _ (HR2.out.below HJ8.out.2.2.2.2.2.2.2.2 (Nat.le_refl _)) (HT6.out.below (bel_trans hx7 hx8) (Nat.le_refl _))).mono ?_
    rintro e X9 ⟨rfl, hx9⟩
    rw [show decide ((0 : Int) = 0 ∧ (0 : Int) = 0 ∧ ([] : List Int) = ([] : List Int)) = true by simp]
    have HFIN := hide ((HJ8.out.below hx9).2.2.2.2.2.2.1)
    go_wp2
    go_ret
    exact ⟨rfl, HFIN.out⟩
  · have hd1 : decide (0 ≤ phase) = true := by simpa using hc1
    have hd2 : decide (phase ≤ 3) = false := by simpa using hc2
    clear hc1 hc2
    obtain ⟨u1, u2⟩ := al2 w (Obj.cells #[.int .i64 W, .int .i64 H, .slice ao zs.length ca] 24) (Obj.cells #[.int .i64 W2, .int .i64 H2, .slice bo ps.length cb] 39)
    have HU := hide (be2 w (Obj.cells #[.int .i64 W, .int .i64 H, .slice ao zs.length ca] 24) (Obj.cells #[.int .i64 W2, .int .i64 H2, .slice bo ps.length cb] 39))
    have hsU : ((w.alloc (Obj.cells #[.int .i64 W, .int .i64 H, .slice ao zs.length ca] 24)).alloc (Obj.cells #[.int .i64 W2, .int .i64 H2, .slice bo ps.length cb] 39)).heap.size = w.heap.size + 2 := by simp
    go_enter Try.func4, Try.ntmps4
    go_wp2_with fail
    generalize (w.alloc (Obj.cells #[.int .i64 W, .int .i64 H, .slice ao zs.length ca] 24)).alloc (Obj.cells #[.int .i64 W2, .int .i64 H2, .slice bo ps.length cb] 39) = U at *
    replace hsU := Nat.le_of_eq hsU.symm
    refine (HB1.out _ (HV.out.below HU.out (Nat.le_refl _))).mono ?_
    rintro e w1 ⟨r, rfl, hr, hb1, _⟩
    have HR1 := hide hr
    obtain ⟨ro, rc, rfl, _, _⟩ := hr
    rw [List.length_nil] at HR1 ⊢
    have ta := al1 w1 (Obj.cells #[.int .i64 0, .int .i64 0, .slice ro 0 rc] 39)
    have hb1a := bel_trans hb1 (bel_alloc w1 (Obj.cells #[.int .i64 0, .int .i64 0, .slice ro 0 rc] 39))
    obtain ⟨c0, c1, c2⟩ := cells3 ((hb1a.block (w.heap.size + 1) (by omega)).trans u2)
    go_wp2_with fail
    have hlw1 : w.heap.size + 1 < w1.heap.size := by have := hb1.size; omega
    have HS1 := hide (bel_alloc w1 (Obj.cells #[.int .i64 0, .int .i64 0, .slice ro 0 rc] 39))
    generalize w1.alloc (Obj.cells #[.int .i64 0, .int .i64 0, .slice ro 0 rc] 39) = w1a at *
    clear c0 c1 c2
    refine (HB2.out _ (HV2.out.below (HU.out.trans (hb1a.mono HU.out.size)) (Nat.le_refl _))).mono ?_
    rintro e w2 ⟨r2, rfl, hr2, hb2, _⟩
    have HR2 := hide hr2
    obtain ⟨to_, tc, rfl, _, _⟩ := hr2
    rw [List.length_nil] at HR2 ⊢
    obtain ⟨tb, tf, to2⟩ := al3 w2 (Obj.cells #[.int .i64 0, .int .i64 0, .slice to_ 0 tc] 24) (Obj.cells #[.int .i64 0, .int .i64 0, .slice none 0 0] 39) (Obj.cells #[.int .i64 0, .int .i64 0, .slice none 0 0] 24)
    have hb3 := be3 w2 (Obj.cells #[.int .i64 0, .int .i64 0, .slice to_ 0 tc] 24) (Obj.cells #[.int .i64 0, .int .i64 0, .slice none 0 0] 39) (Obj.cells #[.int .i64 0, .int .i64 0, .slice none 0 0] 24)
    have hlw2 : w1.heap.size < w2.heap.size := Nat.lt_of_lt_of_le (Array.getElem?_eq_some_iff.1 ta).1 hb2.size
    have hU3 := bel_trans hb1a (bel_trans hb2 hb3)
    have hJ : MfJ w w1 w2 #[.int .i64 W, .int .i64 H, .slice ao zs.length ca] #[.int .i64 W2, .int .i64 H2, .slice bo ps.length cb] #[.int .i64 0, .int .i64 0, .slice ro 0 rc] #[.int .i64 0, .int .i64 0, .slice to_ 0 tc] #[.int .i64 0, .int .i64 0, .slice none 0 0] #[.int .i64 0, .int .i64 0, .slice none 0 0] (((w2.alloc (Obj.cells #[.int .i64 0, .int .i64 0, .slice to_ 0 tc] 24)).alloc (Obj.cells #[.int .i64 0, .int .i64 0, .slice none 0 0] 39)).alloc (Obj.cells #[.int .i64 0, .int .i64 0, .slice none 0 0] 24)) := ⟨(hU3.block w.heap.size (by omega)).trans u1, (hU3.block (w.heap.size + 1) (by omega)).trans u2, ((bel_trans hb2 hb3).block w1.heap.size (Array.getElem?_eq_some_iff.1 ta).1).trans ta, tb, tf, to2, HU.out.trans (hU3.mono HU.out.size), HS1.out.trans ((bel_trans hb2 hb3).mono HS1.out.size), hb3⟩
    clear u1 u2 ta tb tf to2 hb1 hb1a hb2 hb3 hU3 HS1 HB1 HB2
    have HJ := hide hJ
    obtain ⟨e0, e1, e2⟩ := cells3 hJ.1
    clear hJ
    go_wp2_with fail
    generalize ((w2.alloc (Obj.cells #[.int .i64 0, .int .i64 0, .slice to_ 0 tc] 24)).alloc (Obj.cells #[.int .i64 0, .int .i64 0, .slice none 0 0] 39)).alloc (Obj.cells #[.int .i64 0, .int .i64 0, .slice none 0 0] 24) = X0 at *
    clear e0 e1 e2
    refine (planeFine_any W H _ zs _ (HV.out.below HJ.out.2.2.2.2.2.2.1 (Nat.le_refl _))).mono ?_
    rintro e X1 ⟨rfl, hx1⟩
    rw [hp]
    replace HJ := hide (HJ.out.below hx1)
    obtain ⟨q0, q1, q2⟩ := cells3 HJ.out.2.1
    have HF1 := hide (IsPix.nil X1)
    go_wp2_with fail
    clear q0 q1 q2
    refine (pictureFine_any W2 H2 _ ps _ (HV2.out.below HJ.out.2.2.2.2.2.2.1 (Nat.le_refl _))).mono ?_
    rintro e X4 ⟨rfl, hx4⟩
    rw [hq]
    have HJ4 := hide (HJ.out.below hx4)
    have HF4 := hide (HF1.out.below hx4 (Nat.le_refl _))
    have HT6 := hide (IsInts.nil X4)
    have HJ6 := HJ4
    have HF6 := HF4
    go_wp2_with fail
    refine (mosaicBegun_any _).mono ?_
    rintro e X7 ⟨rfl, hx7⟩
    have HJ7 := hide (HJ6.out.below hx7)
    obtain ⟨m0, m1, m2⟩ := cells3 HJ7.out.2.2.1
    obtain ⟨k0, k1, k2⟩ := cells3 HJ7.out.2.2.2.2.1
    go_wp2_with fail
    clear m0 m1 m2 k0 k1 k2
    refine (samePictures_any 0 0 _ ([] : List Px) 0 0 _ ([] : List Px) _ (HR1.out.below HJ7.out.2.2.2.2.2.2.2.1 (Nat.le_refl _)) (HF6.out.below hx7 (Nat.le_refl _))).mono ?_
    rintro e X8 ⟨rfl, hx8⟩
    rw [show sameB 0 0 ([] : List Px) 0 0 ([] : List Px) = true by simp [sameB]]
    have HJ8 := hide (HJ7.out.below hx8)
    obtain ⟨m0, m1, m2⟩ := cells3 HJ8.out.2.2.2.1
    obtain ⟨k0, k1, k2⟩ := cells3 HJ8.out.2.2.2.2.2.1
    go_wp2_with fail
    clear m0 m1 m2 k0 k1 k2
    refine (samePlanes_any 0 0 0 0 _ _ ([] : List Int) ([] : List Int) _ (HR2.out.below HJ8.out.2.2.2.2.2.2.2.2 (Nat.le_refl _)) (HT6.out.below (bel_trans hx7 hx8) (Nat.le_refl _))).mono ?_
    rintro e X9 ⟨rfl, hx9⟩
    rw [show decide ((0 : Int) = 0 ∧ (0 : Int) = 0 ∧ ([] : List Int) = ([] : List Int)) = true by simp]
    have HFIN := hide ((HJ8.out.below hx9).2.2.2.2.2.2.1)
    go_wp2
    go_ret
    exact ⟨rfl, HFIN.out⟩

set_option maxRecDepth 100000 in
set_option maxHeartbeats 3200000 in
theorem mosaicFills_101 (W H : Int) (v : Value) (zs : List Int) (W2 H2 : Int) (v2 : Value) (ps : List Px) (phase : Int) (w : World) (hv : IsInts w v zs) (hv2 : IsPix w v2 ps) (hp : planeOk W H zs = true) (hq : picOk W2 H2 ps = false) (hph : phaseOk phase = true) :
    Calls Try.prog 4 #[.agg #[.int .i64 W, .int .i64 H, v], .agg #[.int .i64 W2, .int .i64 H2, v2], .int .i64 phase] w fun e w' => e = .returned (.bool true) ∧ Below w.heap.size w w' := by
  have HV := hide hv
  have HV2 := hide hv2
  obtain ⟨ao, ca, rfl, _, _⟩ := hv
  obtain ⟨bo, cb, rfl, _, _⟩ := hv2
  have hFE : fillE W H zs phase = 0 := by simp [fillE, hp, hph]
  have hTE : takeE W2 H2 ps phase = 1 := by simp [takeE, hq]
  have HB1 := hide (fun (u : World) (hu : IsInts u (.slice ao zs.length ca) zs) => fill_any W H _ zs phase u hu)
  have HB2 := hide (fun (u : World) (hu : IsPix u (.slice bo ps.length cb) ps) => take_any W2 H2 _ ps phase u hu)
  rw [hFE] at HB1
  rw [hTE] at HB2
  have hFL := fillL_length W H zs phase
  have hTL : (takeL W2 ps phase).length = ps.length := by simp [takeL]
  obtain ⟨hph1, hph2⟩ : 0 ≤ phase ∧ phase ≤ 3 := by simpa [phaseOk] using hph
  have hd1 : decide (0 ≤ phase) = true := by simpa using hph1
  have hd2 : decide (phase ≤ 3) = true := by simpa using hph2
  rw [show okW 0 W = W from rfl, show okW 0 H = H from rfl, show okL 0 (fillL W H zs phase) = fillL W H zs phase from rfl] at HB1
  obtain ⟨hg1, hg2, hg3, _⟩ := planeOk_parts hp
  have HRF := hide (fun (u : World) (hu : IsInts u (.slice ao zs.length ca) zs) => filled_any W.toNat H.toNat phase.toNat (by omega) (by omega) (by omega) (by omega) (by omega) _ zs (by have h := hg3; rw [← Int.toNat_of_nonneg (show 0 ≤ W by omega), ← Int.toNat_of_nonneg (show 0 ≤ H by omega)] at h; rw [Nat.mul_comm]; exact_mod_cast h) (planeOk_all hp) u hu)
  rw [show (List.range zs.length).map (fillP zs W.toNat H.toNat phase.toNat) = fillL W H zs phase from rfl, Int.toNat_of_nonneg (show 0 ≤ W by omega), Int.toNat_of_nonneg (show 0 ≤ H by omega), Int.toNat_of_nonneg (show 0 ≤ phase by omega)] at HRF
  clear hg1 hg2 hg3
  rw [show okW 1 W2 = 0 from rfl, show okW 1 H2 = 0 from rfl, show okL 1 (takeL W2 ps phase) = [] from rfl] at HB2
  clear hFE hTE
  obtain ⟨u1, u2⟩ := al2 w (Obj.cells #[.int .i64 W, .int .i64 H, .slice ao zs.length ca] 24) (Obj.cells #[.int .i64 W2, .int .i64 H2, .slice bo ps.length cb] 39)
  have HU := hide (be2 w (Obj.cells #[.int .i64 W, .int .i64 H, .slice ao zs.length ca] 24) (Obj.cells #[.int .i64 W2, .int .i64 H2, .slice bo ps.length cb] 39))
  have hsU : ((w.alloc (Obj.cells #[.int .i64 W, .int .i64 H, .slice ao zs.length ca] 24)).alloc (Obj.cells #[.int .i64 W2, .int .i64 H2, .slice bo ps.length cb] 39)).heap.size = w.heap.size + 2 := by simp
  go_enter Try.func4, Try.ntmps4
  go_wp2_with fail
  generalize (w.alloc (Obj.cells #[.int .i64 W, .int .i64 H, .slice ao zs.length ca] 24)).alloc (Obj.cells #[.int .i64 W2, .int .i64 H2, .slice bo ps.length cb] 39) = U at *
  replace hsU := Nat.le_of_eq hsU.symm
  refine (HB1.out _ (HV.out.below HU.out (Nat.le_refl _))).mono ?_
  rintro e w1 ⟨r, rfl, hr, hb1, _⟩
  have HR1 := hide hr
  obtain ⟨ro, rc, rfl, _, _⟩ := hr
  rw [hFL] at HR1 ⊢
  have ta := al1 w1 (Obj.cells #[.int .i64 W, .int .i64 H, .slice ro zs.length rc] 39)
  have hb1a := bel_trans hb1 (bel_alloc w1 (Obj.cells #[.int .i64 W, .int .i64 H, .slice ro zs.length rc] 39))
  obtain ⟨c0, c1, c2⟩ := cells3 ((hb1a.block (w.heap.size + 1) (by omega)).trans u2)
  go_wp2_with fail
  have hlw1 : w.heap.size + 1 < w1.heap.size := by have := hb1.size; omega
  have HS1 := hide (bel_alloc w1 (Obj.cells #[.int .i64 W, .int .i64 H, .slice ro zs.length rc] 39))
  generalize w1.alloc (Obj.cells #[.int .i64 W, .int .i64 H, .slice ro zs.length rc] 39) = w1a at *
  clear c0 c1 c2
  refine (HB2.out _ (HV2.out.below (HU.out.trans (hb1a.mono HU.out.size)) (Nat.le_refl _))).mono ?_
  rintro e w2 ⟨r2, rfl, hr2, hb2, _⟩
  have HR2 := hide hr2
  obtain ⟨to_, tc, rfl, _, _⟩ := hr2
  rw [List.length_nil] at HR2 ⊢
  obtain ⟨tb, tf, to2⟩ := al3 w2 (Obj.cells #[.int .i64 0, .int .i64 0, .slice to_ 0 tc] 24) (Obj.cells #[.int .i64 0, .int .i64 0, .slice none 0 0] 39) (Obj.cells #[.int .i64 0, .int .i64 0, .slice none 0 0] 24)
  have hb3 := be3 w2 (Obj.cells #[.int .i64 0, .int .i64 0, .slice to_ 0 tc] 24) (Obj.cells #[.int .i64 0, .int .i64 0, .slice none 0 0] 39) (Obj.cells #[.int .i64 0, .int .i64 0, .slice none 0 0] 24)
  have hlw2 : w1.heap.size < w2.heap.size := Nat.lt_of_lt_of_le (Array.getElem?_eq_some_iff.1 ta).1 hb2.size
  have hU3 := bel_trans hb1a (bel_trans hb2 hb3)
  have hJ : MfJ w w1 w2 #[.int .i64 W, .int .i64 H, .slice ao zs.length ca] #[.int .i64 W2, .int .i64 H2, .slice bo ps.length cb] #[.int .i64 W, .int .i64 H, .slice ro zs.length rc] #[.int .i64 0, .int .i64 0, .slice to_ 0 tc] #[.int .i64 0, .int .i64 0, .slice none 0 0] #[.int .i64 0, .int .i64 0, .slice none 0 0] (((w2.alloc (Obj.cells #[.int .i64 0, .int .i64 0, .slice to_ 0 tc] 24)).alloc (Obj.cells #[.int .i64 0, .int .i64 0, .slice none 0 0] 39)).alloc (Obj.cells #[.int .i64 0, .int .i64 0, .slice none 0 0] 24)) := ⟨(hU3.block w.heap.size (by omega)).trans u1, (hU3.block (w.heap.size + 1) (by omega)).trans u2, ((bel_trans hb2 hb3).block w1.heap.size (Array.getElem?_eq_some_iff.1 ta).1).trans ta, tb, tf, to2, HU.out.trans (hU3.mono HU.out.size), HS1.out.trans ((bel_trans hb2 hb3).mono HS1.out.size), hb3⟩
  clear u1 u2 ta tb tf to2 hb1 hb1a hb2 hb3 hU3 HS1 HB1 HB2
  have HJ := hide hJ
  obtain ⟨e0, e1, e2⟩ := cells3 hJ.1
  clear hJ
  go_wp2_with fail
  generalize ((w2.alloc (Obj.cells #[.int .i64 0, .int .i64 0, .slice to_ 0 tc] 24)).alloc (Obj.cells #[.int .i64 0, .int .i64 0, .slice none 0 0] 39)).alloc (Obj.cells #[.int .i64 0, .int .i64 0, .slice none 0 0] 24) = X0 at *
  clear e0 e1 e2
  refine (planeFine_any W H _ zs _ (HV.out.below HJ.out.2.2.2.2.2.2.1 (Nat.le_refl _))).mono ?_
  rintro e X1 ⟨rfl, hx1⟩
  rw [hp]
  replace HJ := hide (HJ.out.below hx1)
  obtain ⟨e0, e1, e2⟩ := cells3 HJ.out.1
  go_wp2_with fail
  clear e0 e1 e2
  refine (HRF.out _ (HV.out.below HJ.out.2.2.2.2.2.2.1 (Nat.le_refl _))).mono ?_
  rintro e X2 ⟨rf, rfl, hrf, hx2, hfr⟩
  have hlF := (Array.getElem?_eq_some_iff.1 HJ.out.2.2.2.2.2.1).1
  replace HJ := hide (HJ.out.below hx2)
  have HRFx := hide hrf
  obtain ⟨fo, fc, rfl, _, _⟩ := hrf
  rw [hFL] at HRFx hfr ⊢
  obtain ⟨z0, z1, z2⟩ := cells3 HJ.out.2.2.2.2.1
  have f0 := Lib.frozen_of_heap HJ.out.2.2.2.2.1 0
  have f1 := Lib.frozen_of_heap HJ.out.2.2.2.2.1 1
  have f2 := Lib.frozen_of_heap HJ.out.2.2.2.2.1 2
  have HF1 := hide (HRFx.out.set3 hfr (show w2.heap.size + 1 < X1.heap.size by omega) (.int .i64 W) (.int .i64 H) (.slice fo zs.length fc))
  have HJ2 := hide (HJ.out.setF hlw1 hlw2 (.int .i64 W) (.int .i64 H) (.slice fo zs.length fc))
  obtain ⟨q0, q1, q2⟩ := cells3 HJ2.out.2.1
  go_wp2_with fail
  generalize ((X2.setCell ⟨w2.heap.size + 1, 0, none⟩ (.int .i64 W)).setCell ⟨w2.heap.size + 1, 1, none⟩ (.int .i64 H)).setCell ⟨w2.heap.size + 1, 2, none⟩ (.slice fo zs.length fc) = X3 at *
  clear z0 z1 z2 f0 f1 f2 q0 q1 q2 HJ
  refine (pictureFine_any W2 H2 _ ps _ (HV2.out.below HJ2.out.2.2.2.2.2.2.1 (Nat.le_refl _))).mono ?_
  rintro e X4 ⟨rfl, hx4⟩
  rw [hq]
  have HJ4 := hide (HJ2.out.below hx4)
  have HF4 := hide (HF1.out.below hx4 (Nat.le_refl _))
  have hsz4 := hx4.size
  have HT6 := hide (IsInts.nil X4)
  have HJ6 := HJ4
  have HF6 := HF4
  go_wp2_with fail
  refine (mosaicBegun_any _).mono ?_
  rintro e X7 ⟨rfl, hx7⟩
  have HJ7 := hide (HJ6.out.below hx7)
  obtain ⟨m0, m1, m2⟩ := cells3 HJ7.out.2.2.1
  obtain ⟨k0, k1, k2⟩ := cells3 HJ7.out.2.2.2.2.1
  go_wp2_with fail
  clear m0 m1 m2 k0 k1 k2
  refine (samePictures_any W H _ (fillL W H zs phase) W H _ (fillL W H zs phase) _ (HR1.out.below HJ7.out.2.2.2.2.2.2.2.1 (Nat.le_refl _)) (HF6.out.below hx7 (Nat.le_refl _))).mono ?_
  rintro e X8 ⟨rfl, hx8⟩
  rw [show sameB W H (fillL W H zs phase) W H (fillL W H zs phase) = true by simp [sameB]]
  have HJ8 := hide (HJ7.out.below hx8)
  obtain ⟨m0, m1, m2⟩ := cells3 HJ8.out.2.2.2.1
  obtain ⟨k0, k1, k2⟩ := cells3 HJ8.out.2.2.2.2.2.1
  go_wp2_with fail
  clear m0 m1 m2 k0 k1 k2
  refine (samePlanes_any 0 0 0 0 _ _ ([] : List Int) ([] : List Int) _ (HR2.out.below HJ8.out.2.2.2.2.2.2.2.2 (Nat.le_refl _)) (HT6.out.below (bel_trans hx7 hx8) (Nat.le_refl _))).mono ?_
  rintro e X9 ⟨rfl, hx9⟩
  rw [show decide ((0 : Int) = 0 ∧ (0 : Int) = 0 ∧ ([] : List Int) = ([] : List Int)) = true by simp]
  have HFIN := hide ((HJ8.out.below hx9).2.2.2.2.2.2.1)
  go_wp2
  go_ret
  exact ⟨rfl, HFIN.out⟩

set_option maxRecDepth 100000 in
set_option maxHeartbeats 3200000 in
theorem mosaicFills_100 (W H : Int) (v : Value) (zs : List Int) (W2 H2 : Int) (v2 : Value) (ps : List Px) (phase : Int) (w : World) (hv : IsInts w v zs) (hv2 : IsPix w v2 ps) (hp : planeOk W H zs = true) (hq : picOk W2 H2 ps = false) (hph : phaseOk phase = false) :
    Calls Try.prog 4 #[.agg #[.int .i64 W, .int .i64 H, v], .agg #[.int .i64 W2, .int .i64 H2, v2], .int .i64 phase] w fun e w' => e = .returned (.bool true) ∧ Below w.heap.size w w' := by
  have HV := hide hv
  have HV2 := hide hv2
  obtain ⟨ao, ca, rfl, _, _⟩ := hv
  obtain ⟨bo, cb, rfl, _, _⟩ := hv2
  have hFE : fillE W H zs phase = 3 := by simp [fillE, hp, hph]
  have hTE : takeE W2 H2 ps phase = 1 := by simp [takeE, hq]
  have HB1 := hide (fun (u : World) (hu : IsInts u (.slice ao zs.length ca) zs) => fill_any W H _ zs phase u hu)
  have HB2 := hide (fun (u : World) (hu : IsPix u (.slice bo ps.length cb) ps) => take_any W2 H2 _ ps phase u hu)
  rw [hFE] at HB1
  rw [hTE] at HB2
  have hFL := fillL_length W H zs phase
  have hTL : (takeL W2 ps phase).length = ps.length := by simp [takeL]
  rw [show okW 3 W = 0 from rfl, show okW 3 H = 0 from rfl, show okL 3 (fillL W H zs phase) = [] from rfl] at HB1
  rw [show okW 1 W2 = 0 from rfl, show okW 1 H2 = 0 from rfl, show okL 1 (takeL W2 ps phase) = [] from rfl] at HB2
  clear hFE hTE
  have hcas : phase < 0 ∨ (0 ≤ phase ∧ 3 < phase) := by
    have h : ¬ (0 ≤ phase ∧ phase ≤ 3) := by simpa [phaseOk] using hph
    omega
  rcases hcas with hcas | ⟨hc1, hc2⟩
  · have hd1 : decide (0 ≤ phase) = false := by simpa using hcas
    clear hcas
    obtain ⟨u1, u2⟩ := al2 w (Obj.cells #[.int .i64 W, .int .i64 H, .slice ao zs.length ca] 24) (Obj.cells #[.int .i64 W2, .int .i64 H2, .slice bo ps.length cb] 39)
    have HU := hide (be2 w (Obj.cells #[.int .i64 W, .int .i64 H, .slice ao zs.length ca] 24) (Obj.cells #[.int .i64 W2, .int .i64 H2, .slice bo ps.length cb] 39))
    have hsU : ((w.alloc (Obj.cells #[.int .i64 W, .int .i64 H, .slice ao zs.length ca] 24)).alloc (Obj.cells #[.int .i64 W2, .int .i64 H2, .slice bo ps.length cb] 39)).heap.size = w.heap.size + 2 := by simp
    go_enter Try.func4, Try.ntmps4
    go_wp2_with fail
    generalize (w.alloc (Obj.cells #[.int .i64 W, .int .i64 H, .slice ao zs.length ca] 24)).alloc (Obj.cells #[.int .i64 W2, .int .i64 H2, .slice bo ps.length cb] 39) = U at *
    replace hsU := Nat.le_of_eq hsU.symm
    refine (HB1.out _ (HV.out.below HU.out (Nat.le_refl _))).mono ?_
    rintro e w1 ⟨r, rfl, hr, hb1, _⟩
    have HR1 := hide hr
    obtain ⟨ro, rc, rfl, _, _⟩ := hr
    rw [List.length_nil] at HR1 ⊢
    have ta := al1 w1 (Obj.cells #[.int .i64 0, .int .i64 0, .slice ro 0 rc] 39)
    have hb1a := bel_trans hb1 (bel_alloc w1 (Obj.cells #[.int .i64 0, .int .i64 0, .slice ro 0 rc] 39))
    obtain ⟨c0, c1, c2⟩ := cells3 ((hb1a.block (w.heap.size + 1) (by omega)).trans u2)
    go_wp2_with fail
    have hlw1 : w.heap.size + 1 < w1.heap.size := by have := hb1.size; omega
    have HS1 := hide (bel_alloc w1 (Obj.cells #[.int .i64 0, .int .i64 0, .slice ro 0 rc] 39))
    generalize w1.alloc (Obj.cells #[.int .i64 0, .int .i64 0, .slice ro 0 rc] 39) = w1a at *
    clear c0 c1 c2
    refine (HB2.out _ (HV2.out.below (HU.out.trans (hb1a.mono HU.out.size)) (Nat.le_refl _))).mono ?_
    rintro e w2 ⟨r2, rfl, hr2, hb2, _⟩
    have HR2 := hide hr2
    obtain ⟨to_, tc, rfl, _, _⟩ := hr2
    rw [List.length_nil] at HR2 ⊢
    obtain ⟨tb, tf, to2⟩ := al3 w2 (Obj.cells #[.int .i64 0, .int .i64 0, .slice to_ 0 tc] 24) (Obj.cells #[.int .i64 0, .int .i64 0, .slice none 0 0] 39) (Obj.cells #[.int .i64 0, .int .i64 0, .slice none 0 0] 24)
    have hb3 := be3 w2 (Obj.cells #[.int .i64 0, .int .i64 0, .slice to_ 0 tc] 24) (Obj.cells #[.int .i64 0, .int .i64 0, .slice none 0 0] 39) (Obj.cells #[.int .i64 0, .int .i64 0, .slice none 0 0] 24)
    have hlw2 : w1.heap.size < w2.heap.size := Nat.lt_of_lt_of_le (Array.getElem?_eq_some_iff.1 ta).1 hb2.size
    have hU3 := bel_trans hb1a (bel_trans hb2 hb3)
    have hJ : MfJ w w1 w2 #[.int .i64 W, .int .i64 H, .slice ao zs.length ca] #[.int .i64 W2, .int .i64 H2, .slice bo ps.length cb] #[.int .i64 0, .int .i64 0, .slice ro 0 rc] #[.int .i64 0, .int .i64 0, .slice to_ 0 tc] #[.int .i64 0, .int .i64 0, .slice none 0 0] #[.int .i64 0, .int .i64 0, .slice none 0 0] (((w2.alloc (Obj.cells #[.int .i64 0, .int .i64 0, .slice to_ 0 tc] 24)).alloc (Obj.cells #[.int .i64 0, .int .i64 0, .slice none 0 0] 39)).alloc (Obj.cells #[.int .i64 0, .int .i64 0, .slice none 0 0] 24)) := ⟨(hU3.block w.heap.size (by omega)).trans u1, (hU3.block (w.heap.size + 1) (by omega)).trans u2, ((bel_trans hb2 hb3).block w1.heap.size (Array.getElem?_eq_some_iff.1 ta).1).trans ta, tb, tf, to2, HU.out.trans (hU3.mono HU.out.size), HS1.out.trans ((bel_trans hb2 hb3).mono HS1.out.size), hb3⟩
    clear u1 u2 ta tb tf to2 hb1 hb1a hb2 hb3 hU3 HS1 HB1 HB2
    have HJ := hide hJ
    obtain ⟨e0, e1, e2⟩ := cells3 hJ.1
    clear hJ
    go_wp2_with fail
    generalize ((w2.alloc (Obj.cells #[.int .i64 0, .int .i64 0, .slice to_ 0 tc] 24)).alloc (Obj.cells #[.int .i64 0, .int .i64 0, .slice none 0 0] 39)).alloc (Obj.cells #[.int .i64 0, .int .i64 0, .slice none 0 0] 24) = X0 at *
    clear e0 e1 e2
    refine (planeFine_any W H _ zs _ (HV.out.below HJ.out.2.2.2.2.2.2.1 (Nat.le_refl _))).mono ?_
    rintro e X1 ⟨rfl, hx1⟩
    rw [hp]
    replace HJ := hide (HJ.out.below hx1)
    obtain ⟨q0, q1, q2⟩ := cells3 HJ.out.2.1
    have HF1 := hide (IsPix.nil X1)
    go_wp2_with fail
    clear q0 q1 q2
    refine (pictureFine_any W2 H2 _ ps _ (HV2.out.below HJ.out.2.2.2.2.2.2.1 (Nat.le_refl _))).mono ?_
    rintro e X4 ⟨rfl, hx4⟩
    rw [hq]
    have HJ4 := hide (HJ.out.below hx4)
    have HF4 := hide (HF1.out.below hx4 (Nat.le_refl _))
    have HT6 := hide (IsInts.nil X4)
    have HJ6 := HJ4
    have HF6 := HF4
    go_wp2_with fail
    refine (mosaicBegun_any _).mono ?_
    rintro e X7 ⟨rfl, hx7⟩
    have HJ7 := hide (HJ6.out.below hx7)
    obtain ⟨m0, m1, m2⟩ := cells3 HJ7.out.2.2.1
    obtain ⟨k0, k1, k2⟩ := cells3 HJ7.out.2.2.2.2.1
    go_wp2_with fail
    clear m0 m1 m2 k0 k1 k2
    refine (samePictures_any 0 0 _ ([] : List Px) 0 0 _ ([] : List Px) _ (HR1.out.below HJ7.out.2.2.2.2.2.2.2.1 (Nat.le_refl _)) (HF6.out.below hx7 (Nat.le_refl _))).mono ?_
    rintro e X8 ⟨rfl, hx8⟩
    rw [show sameB 0 0 ([] : List Px) 0 0 ([] : List Px) = true by simp [sameB]]
    have HJ8 := hide (HJ7.out.below hx8)
    obtain ⟨m0, m1, m2⟩ := cells3 HJ8.out.2.2.2.1
    obtain ⟨k0, k1, k2⟩ := cells3 HJ8.out.2.2.2.2.2.1
    go_wp2_with fail
    clear m0 m1 m2 k0 k1 k2
    refine (samePlanes_any 0 0 0 0 _ _ ([] : List Int) ([] : List Int) _ (HR2.out.below HJ8.out.2.2.2.2.2.2.2.2 (Nat.le_refl _)) (HT6.out.below (bel_trans hx7 hx8) (Nat.le_refl _))).mono ?_
    rintro e X9 ⟨rfl, hx9⟩
    rw [show decide ((0 : Int) = 0 ∧ (0 : Int) = 0 ∧ ([] : List Int) = ([] : List Int)) = true by simp]
    have HFIN := hide ((HJ8.out.below hx9).2.2.2.2.2.2.1)
    go_wp2
    go_ret
    exact ⟨rfl, HFIN.out⟩
  · have hd1 : decide (0 ≤ phase) = true := by simpa using hc1
    have hd2 : decide (phase ≤ 3) = false := by simpa using hc2
    clear hc1 hc2
    obtain ⟨u1, u2⟩ := al2 w (Obj.cells #[.int .i64 W, .int .i64 H, .slice ao zs.length ca] 24) (Obj.cells #[.int .i64 W2, .int .i64 H2, .slice bo ps.length cb] 39)
    have HU := hide (be2 w (Obj.cells #[.int .i64 W, .int .i64 H, .slice ao zs.length ca] 24) (Obj.cells #[.int .i64 W2, .int .i64 H2, .slice bo ps.length cb] 39))
    have hsU : ((w.alloc (Obj.cells #[.int .i64 W, .int .i64 H, .slice ao zs.length ca] 24)).alloc (Obj.cells #[.int .i64 W2, .int .i64 H2, .slice bo ps.length cb] 39)).heap.size = w.heap.size + 2 := by simp
    go_enter Try.func4, Try.ntmps4
    go_wp2_with fail
    generalize (w.alloc (Obj.cells #[.int .i64 W, .int .i64 H, .slice ao zs.length ca] 24)).alloc (Obj.cells #[.int .i64 W2, .int .i64 H2, .slice bo ps.length cb] 39) = U at *
    replace hsU := Nat.le_of_eq hsU.symm
    refine (HB1.out _ (HV.out.below HU.out (Nat.le_refl _))).mono ?_
    rintro e w1 ⟨r, rfl, hr, hb1, _⟩
    have HR1 := hide hr
    obtain ⟨ro, rc, rfl, _, _⟩ := hr
    rw [List.length_nil] at HR1 ⊢
    have ta := al1 w1 (Obj.cells #[.int .i64 0, .int .i64 0, .slice ro 0 rc] 39)
    have hb1a := bel_trans hb1 (bel_alloc w1 (Obj.cells #[.int .i64 0, .int .i64 0, .slice ro 0 rc] 39))
    obtain ⟨c0, c1, c2⟩ := cells3 ((hb1a.block (w.heap.size + 1) (by omega)).trans u2)
    go_wp2_with fail
    have hlw1 : w.heap.size + 1 < w1.heap.size := by have := hb1.size; omega
    have HS1 := hide (bel_alloc w1 (Obj.cells #[.int .i64 0, .int .i64 0, .slice ro 0 rc] 39))
    generalize w1.alloc (Obj.cells #[.int .i64 0, .int .i64 0, .slice ro 0 rc] 39) = w1a at *
    clear c0 c1 c2
    refine (HB2.out _ (HV2.out.below (HU.out.trans (hb1a.mono HU.out.size)) (Nat.le_refl _))).mono ?_
    rintro e w2 ⟨r2, rfl, hr2, hb2, _⟩
    have HR2 := hide hr2
    obtain ⟨to_, tc, rfl, _, _⟩ := hr2
    rw [List.length_nil] at HR2 ⊢
    obtain ⟨tb, tf, to2⟩ := al3 w2 (Obj.cells #[.int .i64 0, .int .i64 0, .slice to_ 0 tc] 24) (Obj.cells #[.int .i64 0, .int .i64 0, .slice none 0 0] 39) (Obj.cells #[.int .i64 0, .int .i64 0, .slice none 0 0] 24)
    have hb3 := be3 w2 (Obj.cells #[.int .i64 0, .int .i64 0, .slice to_ 0 tc] 24) (Obj.cells #[.int .i64 0, .int .i64 0, .slice none 0 0] 39) (Obj.cells #[.int .i64 0, .int .i64 0, .slice none 0 0] 24)
    have hlw2 : w1.heap.size < w2.heap.size := Nat.lt_of_lt_of_le (Array.getElem?_eq_some_iff.1 ta).1 hb2.size
    have hU3 := bel_trans hb1a (bel_trans hb2 hb3)
    have hJ : MfJ w w1 w2 #[.int .i64 W, .int .i64 H, .slice ao zs.length ca] #[.int .i64 W2, .int .i64 H2, .slice bo ps.length cb] #[.int .i64 0, .int .i64 0, .slice ro 0 rc] #[.int .i64 0, .int .i64 0, .slice to_ 0 tc] #[.int .i64 0, .int .i64 0, .slice none 0 0] #[.int .i64 0, .int .i64 0, .slice none 0 0] (((w2.alloc (Obj.cells #[.int .i64 0, .int .i64 0, .slice to_ 0 tc] 24)).alloc (Obj.cells #[.int .i64 0, .int .i64 0, .slice none 0 0] 39)).alloc (Obj.cells #[.int .i64 0, .int .i64 0, .slice none 0 0] 24)) := ⟨(hU3.block w.heap.size (by omega)).trans u1, (hU3.block (w.heap.size + 1) (by omega)).trans u2, ((bel_trans hb2 hb3).block w1.heap.size (Array.getElem?_eq_some_iff.1 ta).1).trans ta, tb, tf, to2, HU.out.trans (hU3.mono HU.out.size), HS1.out.trans ((bel_trans hb2 hb3).mono HS1.out.size), hb3⟩
    clear u1 u2 ta tb tf to2 hb1 hb1a hb2 hb3 hU3 HS1 HB1 HB2
    have HJ := hide hJ
    obtain ⟨e0, e1, e2⟩ := cells3 hJ.1
    clear hJ
    go_wp2_with fail
    generalize ((w2.alloc (Obj.cells #[.int .i64 0, .int .i64 0, .slice to_ 0 tc] 24)).alloc (Obj.cells #[.int .i64 0, .int .i64 0, .slice none 0 0] 39)).alloc (Obj.cells #[.int .i64 0, .int .i64 0, .slice none 0 0] 24) = X0 at *
    clear e0 e1 e2
    refine (planeFine_any W H _ zs _ (HV.out.below HJ.out.2.2.2.2.2.2.1 (Nat.le_refl _))).mono ?_
    rintro e X1 ⟨rfl, hx1⟩
    rw [hp]
    replace HJ := hide (HJ.out.below hx1)
    obtain ⟨q0, q1, q2⟩ := cells3 HJ.out.2.1
    have HF1 := hide (IsPix.nil X1)
    go_wp2_with fail
    clear q0 q1 q2
    refine (pictureFine_any W2 H2 _ ps _ (HV2.out.below HJ.out.2.2.2.2.2.2.1 (Nat.le_refl _))).mono ?_
    rintro e X4 ⟨rfl, hx4⟩
    rw [hq]
    have HJ4 := hide (HJ.out.below hx4)
    have HF4 := hide (HF1.out.below hx4 (Nat.le_refl _))
    have HT6 := hide (IsInts.nil X4)
    have HJ6 := HJ4
    have HF6 := HF4
    go_wp2_with fail
    refine (mosaicBegun_any _).mono ?_
    rintro e X7 ⟨rfl, hx7⟩
    have HJ7 := hide (HJ6.out.below hx7)
    obtain ⟨m0, m1, m2⟩ := cells3 HJ7.out.2.2.1
    obtain ⟨k0, k1, k2⟩ := cells3 HJ7.out.2.2.2.2.1
    go_wp2_with fail
    clear m0 m1 m2 k0 k1 k2
    refine (samePictures_any 0 0 _ ([] : List Px) 0 0 _ ([] : List Px) _ (HR1.out.below HJ7.out.2.2.2.2.2.2.2.1 (Nat.le_refl _)) (HF6.out.below hx7 (Nat.le_refl _))).mono ?_
    rintro e X8 ⟨rfl, hx8⟩
    rw [show sameB 0 0 ([] : List Px) 0 0 ([] : List Px) = true by simp [sameB]]
    have HJ8 := hide (HJ7.out.below hx8)
    obtain ⟨m0, m1, m2⟩ := cells3 HJ8.out.2.2.2.1
    obtain ⟨k0, k1, k2⟩ := cells3 HJ8.out.2.2.2.2.2.1
    go_wp2_with fail
    clear m0 m1 m2 k0 k1 k2
    refine (samePlanes_any 0 0 0 0 _ _ ([] : List Int) ([] : List Int) _ (HR2.out.below HJ8.out.2.2.2.2.2.2.2.2 (Nat.le_refl _)) (HT6.out.below (bel_trans hx7 hx8) (Nat.le_refl _))).mono ?_
    rintro e X9 ⟨rfl, hx9⟩
    rw [show decide ((0 : Int) = 0 ∧ (0 : Int) = 0 ∧ ([] : List Int) = ([] : List Int)) = true by simp]
    have HFIN := hide ((HJ8.out.below hx9).2.2.2.2.2.2.1)
    go_wp2
    go_ret
    exact ⟨rfl, HFIN.out⟩

set_option maxRecDepth 100000 in
set_option maxHeartbeats 3200000 in
theorem mosaicFills_011 (W H : Int) (v : Value) (zs : List Int) (W2 H2 : Int) (v2 : Value) (ps : List Px) (phase : Int) (w : World) (hv : IsInts w v zs) (hv2 : IsPix w v2 ps) (hp : planeOk W H zs = false) (hq : picOk W2 H2 ps = true) (hph : phaseOk phase = true) :
    Calls Try.prog 4 #[.agg #[.int .i64 W, .int .i64 H, v], .agg #[.int .i64 W2, .int .i64 H2, v2], .int .i64 phase] w fun e w' => e = .returned (.bool true) ∧ Below w.heap.size w w' := by
  have HV := hide hv
  have HV2 := hide hv2
  obtain ⟨ao, ca, rfl, _, _⟩ := hv
  obtain ⟨bo, cb, rfl, _, _⟩ := hv2
  have hFE : fillE W H zs phase = 1 := by simp [fillE, hp]
  have hTE : takeE W2 H2 ps phase = 0 := by simp [takeE, hq, hph]
  have HB1 := hide (fun (u : World) (hu : IsInts u (.slice ao zs.length ca) zs) => fill_any W H _ zs phase u hu)
  have HB2 := hide (fun (u : World) (hu : IsPix u (.slice bo ps.length cb) ps) => take_any W2 H2 _ ps phase u hu)
  rw [hFE] at HB1
  rw [hTE] at HB2
  have hFL := fillL_length W H zs phase
  have hTL : (takeL W2 ps phase).length = ps.length := by simp [takeL]
  obtain ⟨hph1, hph2⟩ : 0 ≤ phase ∧ phase ≤ 3 := by simpa [phaseOk] using hph
  have hd1 : decide (0 ≤ phase) = true := by simpa using hph1
  have hd2 : decide (phase ≤ 3) = true := by simpa using hph2
  rw [show okW 1 W = 0 from rfl, show okW 1 H = 0 from rfl, show okL 1 (fillL W H zs phase) = [] from rfl] at HB1
  rw [show okW 0 W2 = W2 from rfl, show okW 0 H2 = H2 from rfl, show okL 0 (takeL W2 ps phase) = takeL W2 ps phase from rfl] at HB2
  obtain ⟨hg1, hg2, hg3, _⟩ := picOk_parts hq
  have HRT := hide (fun (u : World) (hu : IsPix u (.slice bo ps.length cb) ps) => taken_any W2.toNat H2.toNat phase.toNat (by omega) (by omega) (by omega) (by omega) _ ps (by have h := hg3; rw [← Int.toNat_of_nonneg (show 0 ≤ W2 by omega), ← Int.toNat_of_nonneg (show 0 ≤ H2 by omega)] at h; rw [Nat.mul_comm]; exact_mod_cast h) u hu)
  rw [show (List.range ps.length).map (takeV ps W2.toNat phase.toNat) = takeL W2 ps phase from rfl, Int.toNat_of_nonneg (show 0 ≤ W2 by omega), Int.toNat_of_nonneg (show 0 ≤ H2 by omega), Int.toNat_of_nonneg (show 0 ≤ phase by omega)] at HRT
  clear hg1 hg2 hg3
  clear hFE hTE
  obtain ⟨u1, u2⟩ := al2 w (Obj.cells #[.int .i64 W, .int .i64 H, .slice ao zs.length ca] 24) (Obj.cells #[.int .i64 W2, .int .i64 H2, .slice bo ps.length cb] 39)
  have HU := hide (be2 w (Obj.cells #[.int .i64 W, .int .i64 H, .slice ao zs.length ca] 24) (Obj.cells #[.int .i64 W2, .int .i64 H2, .slice bo ps.length cb] 39))
  have hsU : ((w.alloc (Obj.cells #[.int .i64 W, .int .i64 H, .slice ao zs.length ca] 24)).alloc (Obj.cells #[.int .i64 W2, .int .i64 H2, .slice bo ps.length cb] 39)).heap.size = w.heap.size + 2 := by simp
  go_enter Try.func4, Try.ntmps4
  go_wp2_with fail
  generalize (w.alloc (Obj.cells #[.int .i64 W, .int .i64 H, .slice ao zs.length ca] 24)).alloc (Obj.cells #[.int .i64 W2, .int .i64 H2, .slice bo ps.length cb] 39) = U at *
  replace hsU := Nat.le_of_eq hsU.symm
  refine (HB1.out _ (HV.out.below HU.out (Nat.le_refl _))).mono ?_
  rintro e w1 ⟨r, rfl, hr, hb1, _⟩
  have HR1 := hide hr
  obtain ⟨ro, rc, rfl, _, _⟩ := hr
  rw [List.length_nil] at HR1 ⊢
  have ta := al1 w1 (Obj.cells #[.int .i64 0, .int .i64 0, .slice ro 0 rc] 39)
  have hb1a := bel_trans hb1 (bel_alloc w1 (Obj.cells #[.int .i64 0, .int .i64 0, .slice ro 0 rc] 39))
  obtain ⟨c0, c1, c2⟩ := cells3 ((hb1a.block (w.heap.size + 1) (by omega)).trans u2)
  go_wp2_with fail
  have hlw1 : w.heap.size + 1 < w1.heap.size := by have := hb1.size; omega
  have HS1 := hide (bel_alloc w1 (Obj.cells #[.int .i64 0, .int .i64 0, .slice ro 0 rc] 39))
  generalize w1.alloc (Obj.cells #[.int .i64 0, .int .i64 0, .slice ro 0 rc] 39) = w1a at *
  clear c0 c1 c2
  refine (HB2.out _ (HV2.out.below (HU.out.trans (hb1a.mono HU.out.size)) (Nat.le_refl _))).mono ?_
  rintro e w2 ⟨r2, rfl, hr2, hb2, _⟩
  have HR2 := hide hr2
  obtain ⟨to_, tc, rfl, _, _⟩ := hr2
  rw [hTL] at HR2 ⊢
  obtain ⟨tb, tf, to2⟩ := al3 w2 (Obj.cells #[.int .i64 W2, .int .i64 H2, .slice to_ ps.length tc] 24) (Obj.cells #[.int .i64 0, .int .i64 0, .slice none 0 0] 39) (Obj.cells #[.int .i64 0, .int .i64 0, .slice none 0 0] 24)
  have hb3 := be3 w2 (Obj.cells #[.int .i64 W2, .int .i64 H2, .slice to_ ps.length tc] 24) (Obj.cells #[.int .i64 0, .int .i64 0, .slice none 0 0] 39) (Obj.cells #[.int .i64 0, .int .i64 0, .slice none 0 0] 24)
  have hlw2 : w1.heap.size < w2.heap.size := Nat.lt_of_lt_of_le (Array.getElem?_eq_some_iff.1 ta).1 hb2.size
  have hU3 := bel_trans hb1a (bel_trans hb2 hb3)
  have hJ : MfJ w w1 w2 #[.int .i64 W, .int .i64 H, .slice ao zs.length ca] #[.int .i64 W2, .int .i64 H2, .slice bo ps.length cb] #[.int .i64 0, .int .i64 0, .slice ro 0 rc] #[.int .i64 W2, .int .i64 H2, .slice to_ ps.length tc] #[.int .i64 0, .int .i64 0, .slice none 0 0] #[.int .i64 0, .int .i64 0, .slice none 0 0] (((w2.alloc (Obj.cells #[.int .i64 W2, .int .i64 H2, .slice to_ ps.length tc] 24)).alloc (Obj.cells #[.int .i64 0, .int .i64 0, .slice none 0 0] 39)).alloc (Obj.cells #[.int .i64 0, .int .i64 0, .slice none 0 0] 24)) := ⟨(hU3.block w.heap.size (by omega)).trans u1, (hU3.block (w.heap.size + 1) (by omega)).trans u2, ((bel_trans hb2 hb3).block w1.heap.size (Array.getElem?_eq_some_iff.1 ta).1).trans ta, tb, tf, to2, HU.out.trans (hU3.mono HU.out.size), HS1.out.trans ((bel_trans hb2 hb3).mono HS1.out.size), hb3⟩
  clear u1 u2 ta tb tf to2 hb1 hb1a hb2 hb3 hU3 HS1 HB1 HB2
  have HJ := hide hJ
  obtain ⟨e0, e1, e2⟩ := cells3 hJ.1
  clear hJ
  go_wp2_with fail
  generalize ((w2.alloc (Obj.cells #[.int .i64 W2, .int .i64 H2, .slice to_ ps.length tc] 24)).alloc (Obj.cells #[.int .i64 0, .int .i64 0, .slice none 0 0] 39)).alloc (Obj.cells #[.int .i64 0, .int .i64 0, .slice none 0 0] 24) = X0 at *
  clear e0 e1 e2
  refine (planeFine_any W H _ zs _ (HV.out.below HJ.out.2.2.2.2.2.2.1 (Nat.le_refl _))).mono ?_
  rintro e X1 ⟨rfl, hx1⟩
  rw [hp]
  replace HJ := hide (HJ.out.below hx1)
  obtain ⟨q0, q1, q2⟩ := cells3 HJ.out.2.1
  have HF1 := hide (IsPix.nil X1)
  go_wp2_with fail
  clear q0 q1 q2
  refine (pictureFine_any W2 H2 _ ps _ (HV2.out.below HJ.out.2.2.2.2.2.2.1 (Nat.le_refl _))).mono ?_
  rintro e X4 ⟨rfl, hx4⟩
  rw [hq]
  have HJ4 := hide (HJ.out.below hx4)
  have HF4 := hide (HF1.out.below hx4 (Nat.le_refl _))
  obtain ⟨e0, e1, e2⟩ := cells3 HJ4.out.2.1
  go_wp2_with fail
  clear e0 e1 e2
  refine (HRT.out _ (HV2.out.below HJ4.out.2.2.2.2.2.2.1 (Nat.le_refl _))).mono ?_
  rintro e X5 ⟨rt, rfl, hrt, hx5, hft⟩
  have hlO := (Array.getElem?_eq_some_iff.1 HJ4.out.2.2.2.2.2.1).1
  replace HJ4 := hide (HJ4.out.below hx5)
  replace HF4 := hide (HF4.out.below hx5 (Nat.le_refl _))
  have HRTx := hide hrt
  obtain ⟨go_, gc, rfl, _, _⟩ := hrt
  rw [hTL] at HRTx hft ⊢
  obtain ⟨z0, z1, z2⟩ := cells3 HJ4.out.2.2.2.2.2.1
  have f0 := Lib.frozen_of_heap HJ4.out.2.2.2.2.2.1 0
  have f1 := Lib.frozen_of_heap HJ4.out.2.2.2.2.2.1 1
  have f2 := Lib.frozen_of_heap HJ4.out.2.2.2.2.2.1 2
  have HT6 := hide (HRTx.out.set3 hft (show w2.heap.size + 2 < X4.heap.size by omega) (.int .i64 W2) (.int .i64 H2) (.slice go_ ps.length gc))
  have HJ6 := hide (HJ4.out.setO hlw1 hlw2 (.int .i64 W2) (.int .i64 H2) (.slice go_ ps.length gc))
  have HF6 := hide (IsPix.nil (((X5.setCell ⟨w2.heap.size + 2, 0, none⟩ (.int .i64 W2)).setCell ⟨w2.heap.size + 2, 1, none⟩ (.int .i64 H2)).setCell ⟨w2.heap.size + 2, 2, none⟩ (.slice go_ ps.length gc)))
  go_wp2_with fail
  generalize ((X5.setCell ⟨w2.heap.size + 2, 0, none⟩ (.int .i64 W2)).setCell ⟨w2.heap.size + 2, 1, none⟩ (.int .i64 H2)).setCell ⟨w2.heap.size + 2, 2, none⟩ (.slice go_ ps.length gc) = X6 at *
  clear z0 z1 z2 f0 f1 f2
  refine (mosaicBegun_any _).mono ?_
  rintro e X7 ⟨rfl, hx7⟩
  have HJ7 := hide (HJ6.out.below hx7)
  obtain ⟨m0, m1, m2⟩ := cells3 HJ7.out.2.2.1
  obtain ⟨k0, k1, k2⟩ := cells3 HJ7.out.2.2.2.2.1
  go_wp2_with fail
  clear m0 m1 m2 k0 k1 k2
  refine (samePictures_any 0 0 _ ([] : List Px) 0 0 _ ([] : List Px) _ (HR1.out.below HJ7.out.2.2.2.2.2.2.2.1 (Nat.le_refl _)) (HF6.out.below hx7 (Nat.le_refl _))).mono ?_
  rintro e X8 ⟨rfl, hx8⟩
  rw [show sameB 0 0 ([] : List Px) 0 0 ([] : List Px) = true by simp [sameB]]
  have HJ8 := hide (HJ7.out.below hx8)
  obtain ⟨m0, m1, m2⟩ := cells3 HJ8.out.2.2.2.1
  obtain ⟨k0, k1, k2⟩ := cells3 HJ8.out.2.2.2.2.2.1
  go_wp2_with fail
  clear m0 m1 m2 k0 k1 k2
  refine (samePlanes_any W2 H2 W2 H2 _ _ (takeL W2 ps phase) (takeL W2 ps phase) _ (HR2.out.below HJ8.out.2.2.2.2.2.2.2.2 (Nat.le_refl _)) (HT6.out.below (bel_trans hx7 hx8) (Nat.le_refl _))).mono ?_
  rintro e X9 ⟨rfl, hx9⟩
  rw [show decide ((W2 : Int) = W2 ∧ (H2 : Int) = H2 ∧ (takeL W2 ps phase) = (takeL W2 ps phase)) = true by simp]
  have HFIN := hide ((HJ8.out.below hx9).2.2.2.2.2.2.1)
  go_wp2
  go_ret
  exact ⟨rfl, HFIN.out⟩

set_option maxRecDepth 100000 in
set_option maxHeartbeats 3200000 in
theorem mosaicFills_010 (W H : Int) (v : Value) (zs : List Int) (W2 H2 : Int) (v2 : Value) (ps : List Px) (phase : Int) (w : World) (hv : IsInts w v zs) (hv2 : IsPix w v2 ps) (hp : planeOk W H zs = false) (hq : picOk W2 H2 ps = true) (hph : phaseOk phase = false) :
    Calls Try.prog 4 #[.agg #[.int .i64 W, .int .i64 H, v], .agg #[.int .i64 W2, .int .i64 H2, v2], .int .i64 phase] w fun e w' => e = .returned (.bool true) ∧ Below w.heap.size w w' := by
  have HV := hide hv
  have HV2 := hide hv2
  obtain ⟨ao, ca, rfl, _, _⟩ := hv
  obtain ⟨bo, cb, rfl, _, _⟩ := hv2
  have hFE : fillE W H zs phase = 1 := by simp [fillE, hp]
  have hTE : takeE W2 H2 ps phase = 3 := by simp [takeE, hq, hph]
  have HB1 := hide (fun (u : World) (hu : IsInts u (.slice ao zs.length ca) zs) => fill_any W H _ zs phase u hu)
  have HB2 := hide (fun (u : World) (hu : IsPix u (.slice bo ps.length cb) ps) => take_any W2 H2 _ ps phase u hu)
  rw [hFE] at HB1
  rw [hTE] at HB2
  have hFL := fillL_length W H zs phase
  have hTL : (takeL W2 ps phase).length = ps.length := by simp [takeL]
  rw [show okW 1 W = 0 from rfl, show okW 1 H = 0 from rfl, show okL 1 (fillL W H zs phase) = [] from rfl] at HB1
  rw [show okW 3 W2 = 0 from rfl, show okW 3 H2 = 0 from rfl, show okL 3 (takeL W2 ps phase) = [] from rfl] at HB2
  clear hFE hTE
  have hcas : phase < 0 ∨ (0 ≤ phase ∧ 3 < phase) := by
    have h : ¬ (0 ≤ phase ∧ phase ≤ 3) := by simpa [phaseOk] using hph
    omega
  rcases hcas with hcas | ⟨hc1, hc2⟩
  · have hd1 : decide (0 ≤ phase) = false := by simpa using hcas
    clear hcas
    obtain ⟨u1, u2⟩ := al2 w (Obj.cells #[.int .i64 W, .int .i64 H, .slice ao zs.length ca] 24) (Obj.cells #[.int .i64 W2, .int .i64 H2, .slice bo ps.length cb] 39)
    have HU := hide (be2 w (Obj.cells #[.int .i64 W, .int .i64 H, .slice ao zs.length ca] 24) (Obj.cells #[.int .i64 W2, .int .i64 H2, .slice bo ps.length cb] 39))
    have hsU : ((w.alloc (Obj.cells #[.int .i64 W, .int .i64 H, .slice ao zs.length ca] 24)).alloc (Obj.cells #[.int .i64 W2, .int .i64 H2, .slice bo ps.length cb] 39)).heap.size = w.heap.size + 2 := by simp
    go_enter Try.func4, Try.ntmps4
    go_wp2_with fail
    generalize (w.alloc (Obj.cells #[.int .i64 W, .int .i64 H, .slice ao zs.length ca] 24)).alloc (Obj.cells #[.int .i64 W2, .int .i64 H2, .slice bo ps.length cb] 39) = U at *
    replace hsU := Nat.le_of_eq hsU.symm
    refine (HB1.out _ (HV.out.below HU.out (Nat.le_refl _))).mono ?_
    rintro e w1 ⟨r, rfl, hr, hb1, _⟩
    have HR1 := hide hr
    obtain ⟨ro, rc, rfl, _, _⟩ := hr
    rw [List.length_nil] at HR1 ⊢
    have ta := al1 w1 (Obj.cells #[.int .i64 0, .int .i64 0, .slice ro 0 rc] 39)
    have hb1a := bel_trans hb1 (bel_alloc w1 (Obj.cells #[.int .i64 0, .int .i64 0, .slice ro 0 rc] 39))
    obtain ⟨c0, c1, c2⟩ := cells3 ((hb1a.block (w.heap.size + 1) (by omega)).trans u2)
    go_wp2_with fail
    have hlw1 : w.heap.size + 1 < w1.heap.size := by have := hb1.size; omega
    have HS1 := hide (bel_alloc w1 (Obj.cells #[.int .i64 0, .int .i64 0, .slice ro 0 rc] 39))
    generalize w1.alloc (Obj.cells #[.int .i64 0, .int .i64 0, .slice ro 0 rc] 39) = w1a at *
    clear c0 c1 c2
    refine (HB2.out _ (HV2.out.below (HU.out.trans (hb1a.mono HU.out.size)) (Nat.le_refl _))).mono ?_
    rintro e w2 ⟨r2, rfl, hr2, hb2, _⟩
    have HR2 := hide hr2
    obtain ⟨to_, tc, rfl, _, _⟩ := hr2
    rw [List.length_nil] at HR2 ⊢
    obtain ⟨tb, tf, to2⟩ := al3 w2 (Obj.cells #[.int .i64 0, .int .i64 0, .slice to_ 0 tc] 24) (Obj.cells #[.int .i64 0, .int .i64 0, .slice none 0 0] 39) (Obj.cells #[.int .i64 0, .int .i64 0, .slice none 0 0] 24)
    have hb3 := be3 w2 (Obj.cells #[.int .i64 0, .int .i64 0, .slice to_ 0 tc] 24) (Obj.cells #[.int .i64 0, .int .i64 0, .slice none 0 0] 39) (Obj.cells #[.int .i64 0, .int .i64 0, .slice none 0 0] 24)
    have hlw2 : w1.heap.size < w2.heap.size := Nat.lt_of_lt_of_le (Array.getElem?_eq_some_iff.1 ta).1 hb2.size
    have hU3 := bel_trans hb1a (bel_trans hb2 hb3)
    have hJ : MfJ w w1 w2 #[.int .i64 W, .int .i64 H, .slice ao zs.length ca] #[.int .i64 W2, .int .i64 H2, .slice bo ps.length cb] #[.int .i64 0, .int .i64 0, .slice ro 0 rc] #[.int .i64 0, .int .i64 0, .slice to_ 0 tc] #[.int .i64 0, .int .i64 0, .slice none 0 0] #[.int .i64 0, .int .i64 0, .slice none 0 0] (((w2.alloc (Obj.cells #[.int .i64 0, .int .i64 0, .slice to_ 0 tc] 24)).alloc (Obj.cells #[.int .i64 0, .int .i64 0, .slice none 0 0] 39)).alloc (Obj.cells #[.int .i64 0, .int .i64 0, .slice none 0 0] 24)) := ⟨(hU3.block w.heap.size (by omega)).trans u1, (hU3.block (w.heap.size + 1) (by omega)).trans u2, ((bel_trans hb2 hb3).block w1.heap.size (Array.getElem?_eq_some_iff.1 ta).1).trans ta, tb, tf, to2, HU.out.trans (hU3.mono HU.out.size), HS1.out.trans ((bel_trans hb2 hb3).mono HS1.out.size), hb3⟩
    clear u1 u2 ta tb tf to2 hb1 hb1a hb2 hb3 hU3 HS1 HB1 HB2
    have HJ := hide hJ
    obtain ⟨e0, e1, e2⟩ := cells3 hJ.1
    clear hJ
    go_wp2_with fail
    generalize ((w2.alloc (Obj.cells #[.int .i64 0, .int .i64 0, .slice to_ 0 tc] 24)).alloc (Obj.cells #[.int .i64 0, .int .i64 0, .slice none 0 0] 39)).alloc (Obj.cells #[.int .i64 0, .int .i64 0, .slice none 0 0] 24) = X0 at *
    clear e0 e1 e2
    refine (planeFine_any W H _ zs _ (HV.out.below HJ.out.2.2.2.2.2.2.1 (Nat.le_refl _))).mono ?_
    rintro e X1 ⟨rfl, hx1⟩
    rw [hp]
    replace HJ := hide (HJ.out.below hx1)
    obtain ⟨q0, q1, q2⟩ := cells3 HJ.out.2.1
    have HF1 := hide (IsPix.nil X1)
    go_wp2_with fail
    clear q0 q1 q2
    refine (pictureFine_any W2 H2 _ ps _ (HV2.out.below HJ.out.2.2.2.2.2.2.1 (Nat.le_refl _))).mono ?_
    rintro e X4 ⟨rfl, hx4⟩
    rw [hq]
    have HJ4 := hide (HJ.out.below hx4)
    have HF4 := hide (HF1.out.below hx4 (Nat.le_refl _))
    have HT6 := hide (IsInts.nil X4)
    have HJ6 := HJ4
    have HF6 := HF4
    go_wp2_with fail
    refine (mosaicBegun_any _).mono ?_
    rintro e X7 ⟨rfl, hx7⟩
    have HJ7 := hide (HJ6.out.below hx7)
    obtain ⟨m0, m1, m2⟩ := cells3 HJ7.out.2.2.1
    obtain ⟨k0, k1, k2⟩ := cells3 HJ7.out.2.2.2.2.1
    go_wp2_with fail
    clear m0 m1 m2 k0 k1 k2
    refine (samePictures_any 0 0 _ ([] : List Px) 0 0 _ ([] : List Px) _ (HR1.out.below HJ7.out.2.2.2.2.2.2.2.1 (Nat.le_refl _)) (HF6.out.below hx7 (Nat.le_refl _))).mono ?_
    rintro e X8 ⟨rfl, hx8⟩
    rw [show sameB 0 0 ([] : List Px) 0 0 ([] : List Px) = true by simp [sameB]]
    have HJ8 := hide (HJ7.out.below hx8)
    obtain ⟨m0, m1, m2⟩ := cells3 HJ8.out.2.2.2.1
    obtain ⟨k0, k1, k2⟩ := cells3 HJ8.out.2.2.2.2.2.1
    go_wp2_with fail
    clear m0 m1 m2 k0 k1 k2
    refine (samePlanes_any 0 0 0 0 _ _ ([] : List Int) ([] : List Int) _ (HR2.out.below HJ8.out.2.2.2.2.2.2.2.2 (Nat.le_refl _)) (HT6.out.below (bel_trans hx7 hx8) (Nat.le_refl _))).mono ?_
    rintro e X9 ⟨rfl, hx9⟩
    rw [show decide ((0 : Int) = 0 ∧ (0 : Int) = 0 ∧ ([] : List Int) = ([] : List Int)) = true by simp]
    have HFIN := hide ((HJ8.out.below hx9).2.2.2.2.2.2.1)
    go_wp2
    go_ret
    exact ⟨rfl, HFIN.out⟩
  · have hd1 : decide (0 ≤ phase) = true := by simpa using hc1
    have hd2 : decide (phase ≤ 3) = false := by simpa using hc2
    clear hc1 hc2
    obtain ⟨u1, u2⟩ := al2 w (Obj.cells #[.int .i64 W, .int .i64 H, .slice ao zs.length ca] 24) (Obj.cells #[.int .i64 W2, .int .i64 H2, .slice bo ps.length cb] 39)
    have HU := hide (be2 w (Obj.cells #[.int .i64 W, .int .i64 H, .slice ao zs.length ca] 24) (Obj.cells #[.int .i64 W2, .int .i64 H2, .slice bo ps.length cb] 39))
    have hsU : ((w.alloc (Obj.cells #[.int .i64 W, .int .i64 H, .slice ao zs.length ca] 24)).alloc (Obj.cells #[.int .i64 W2, .int .i64 H2, .slice bo ps.length cb] 39)).heap.size = w.heap.size + 2 := by simp
    go_enter Try.func4, Try.ntmps4
    go_wp2_with fail
    generalize (w.alloc (Obj.cells #[.int .i64 W, .int .i64 H, .slice ao zs.length ca] 24)).alloc (Obj.cells #[.int .i64 W2, .int .i64 H2, .slice bo ps.length cb] 39) = U at *
    replace hsU := Nat.le_of_eq hsU.symm
    refine (HB1.out _ (HV.out.below HU.out (Nat.le_refl _))).mono ?_
    rintro e w1 ⟨r, rfl, hr, hb1, _⟩
    have HR1 := hide hr
    obtain ⟨ro, rc, rfl, _, _⟩ := hr
    rw [List.length_nil] at HR1 ⊢
    have ta := al1 w1 (Obj.cells #[.int .i64 0, .int .i64 0, .slice ro 0 rc] 39)
    have hb1a := bel_trans hb1 (bel_alloc w1 (Obj.cells #[.int .i64 0, .int .i64 0, .slice ro 0 rc] 39))
    obtain ⟨c0, c1, c2⟩ := cells3 ((hb1a.block (w.heap.size + 1) (by omega)).trans u2)
    go_wp2_with fail
    have hlw1 : w.heap.size + 1 < w1.heap.size := by have := hb1.size; omega
    have HS1 := hide (bel_alloc w1 (Obj.cells #[.int .i64 0, .int .i64 0, .slice ro 0 rc] 39))
    generalize w1.alloc (Obj.cells #[.int .i64 0, .int .i64 0, .slice ro 0 rc] 39) = w1a at *
    clear c0 c1 c2
    refine (HB2.out _ (HV2.out.below (HU.out.trans (hb1a.mono HU.out.size)) (Nat.le_refl _))).mono ?_
    rintro e w2 ⟨r2, rfl, hr2, hb2, _⟩
    have HR2 := hide hr2
    obtain ⟨to_, tc, rfl, _, _⟩ := hr2
    rw [List.length_nil] at HR2 ⊢
    obtain ⟨tb, tf, to2⟩ := al3 w2 (Obj.cells #[.int .i64 0, .int .i64 0, .slice to_ 0 tc] 24) (Obj.cells #[.int .i64 0, .int .i64 0, .slice none 0 0] 39) (Obj.cells #[.int .i64 0, .int .i64 0, .slice none 0 0] 24)
    have hb3 := be3 w2 (Obj.cells #[.int .i64 0, .int .i64 0, .slice to_ 0 tc] 24) (Obj.cells #[.int .i64 0, .int .i64 0, .slice none 0 0] 39) (Obj.cells #[.int .i64 0, .int .i64 0, .slice none 0 0] 24)
    have hlw2 : w1.heap.size < w2.heap.size := Nat.lt_of_lt_of_le (Array.getElem?_eq_some_iff.1 ta).1 hb2.size
    have hU3 := bel_trans hb1a (bel_trans hb2 hb3)
    have hJ : MfJ w w1 w2 #[.int .i64 W, .int .i64 H, .slice ao zs.length ca] #[.int .i64 W2, .int .i64 H2, .slice bo ps.length cb] #[.int .i64 0, .int .i64 0, .slice ro 0 rc] #[.int .i64 0, .int .i64 0, .slice to_ 0 tc] #[.int .i64 0, .int .i64 0, .slice none 0 0] #[.int .i64 0, .int .i64 0, .slice none 0 0] (((w2.alloc (Obj.cells #[.int .i64 0, .int .i64 0, .slice to_ 0 tc] 24)).alloc (Obj.cells #[.int .i64 0, .int .i64 0, .slice none 0 0] 39)).alloc (Obj.cells #[.int .i64 0, .int .i64 0, .slice none 0 0] 24)) := ⟨(hU3.block w.heap.size (by omega)).trans u1, (hU3.block (w.heap.size + 1) (by omega)).trans u2, ((bel_trans hb2 hb3).block w1.heap.size (Array.getElem?_eq_some_iff.1 ta).1).trans ta, tb, tf, to2, HU.out.trans (hU3.mono HU.out.size), HS1.out.trans ((bel_trans hb2 hb3).mono HS1.out.size), hb3⟩
    clear u1 u2 ta tb tf to2 hb1 hb1a hb2 hb3 hU3 HS1 HB1 HB2
    have HJ := hide hJ
    obtain ⟨e0, e1, e2⟩ := cells3 hJ.1
    clear hJ
    go_wp2_with fail
    generalize ((w2.alloc (Obj.cells #[.int .i64 0, .int .i64 0, .slice to_ 0 tc] 24)).alloc (Obj.cells #[.int .i64 0, .int .i64 0, .slice none 0 0] 39)).alloc (Obj.cells #[.int .i64 0, .int .i64 0, .slice none 0 0] 24) = X0 at *
    clear e0 e1 e2
    refine (planeFine_any W H _ zs _ (HV.out.below HJ.out.2.2.2.2.2.2.1 (Nat.le_refl _))).mono ?_
    rintro e X1 ⟨rfl, hx1⟩
    rw [hp]
    replace HJ := hide (HJ.out.below hx1)
    obtain ⟨q0, q1, q2⟩ := cells3 HJ.out.2.1
    have HF1 := hide (IsPix.nil X1)
    go_wp2_with fail
    clear q0 q1 q2
    refine (pictureFine_any W2 H2 _ ps _ (HV2.out.below HJ.out.2.2.2.2.2.2.1 (Nat.le_refl _))).mono ?_
    rintro e X4 ⟨rfl, hx4⟩
    rw [hq]
    have HJ4 := hide (HJ.out.below hx4)
    have HF4 := hide (HF1.out.below hx4 (Nat.le_refl _))
    have HT6 := hide (IsInts.nil X4)
    have HJ6 := HJ4
    have HF6 := HF4
    go_wp2_with fail
    refine (mosaicBegun_any _).mono ?_
    rintro e X7 ⟨rfl, hx7⟩
    have HJ7 := hide (HJ6.out.below hx7)
    obtain ⟨m0, m1, m2⟩ := cells3 HJ7.out.2.2.1
    obtain ⟨k0, k1, k2⟩ := cells3 HJ7.out.2.2.2.2.1
    go_wp2_with fail
    clear m0 m1 m2 k0 k1 k2
    refine (samePictures_any 0 0 _ ([] : List Px) 0 0 _ ([] : List Px) _ (HR1.out.below HJ7.out.2.2.2.2.2.2.2.1 (Nat.le_refl _)) (HF6.out.below hx7 (Nat.le_refl _))).mono ?_
    rintro e X8 ⟨rfl, hx8⟩
    rw [show sameB 0 0 ([] : List Px) 0 0 ([] : List Px) = true by simp [sameB]]
    have HJ8 := hide (HJ7.out.below hx8)
    obtain ⟨m0, m1, m2⟩ := cells3 HJ8.out.2.2.2.1
    obtain ⟨k0, k1, k2⟩ := cells3 HJ8.out.2.2.2.2.2.1
    go_wp2_with fail
    clear m0 m1 m2 k0 k1 k2
    refine (samePlanes_any 0 0 0 0 _ _ ([] : List Int) ([] : List Int) _ (HR2.out.below HJ8.out.2.2.2.2.2.2.2.2 (Nat.le_refl _)) (HT6.out.below (bel_trans hx7 hx8) (Nat.le_refl _))).mono ?_
    rintro e X9 ⟨rfl, hx9⟩
    rw [show decide ((0 : Int) = 0 ∧ (0 : Int) = 0 ∧ ([] : List Int) = ([] : List Int)) = true by simp]
    have HFIN := hide ((HJ8.out.below hx9).2.2.2.2.2.2.1)
    go_wp2
    go_ret
    exact ⟨rfl, HFIN.out⟩

set_option maxRecDepth 100000 in
set_option maxHeartbeats 3200000 in
theorem mosaicFills_001 (W H : Int) (v : Value) (zs : List Int) (W2 H2 : Int) (v2 : Value) (ps : List Px) (phase : Int) (w : World) (hv : IsInts w v zs) (hv2 : IsPix w v2 ps) (hp : planeOk W H zs = false) (hq : picOk W2 H2 ps = false) (hph : phaseOk phase = true) :
    Calls Try.prog 4 #[.agg #[.int .i64 W, .int .i64 H, v], .agg #[.int .i64 W2, .int .i64 H2, v2], .int .i64 phase] w fun e w' => e = .returned (.bool true) ∧ Below w.heap.size w w' := by
  have HV := hide hv
  have HV2 := hide hv2
  obtain ⟨ao, ca, rfl, _, _⟩ := hv
  obtain ⟨bo, cb, rfl, _, _⟩ := hv2
  have hFE : fillE W H zs phase = 1 := by simp [fillE, hp]
  have hTE : takeE W2 H2 ps phase = 1 := by simp [takeE, hq]
  have HB1 := hide (fun (u : World) (hu : IsInts u (.slice ao zs.length ca) zs) => fill_any W H _ zs phase u hu)
  have HB2 := hide (fun (u : World) (hu : IsPix u (.slice bo ps.length cb) ps) => take_any W2 H2 _ ps phase u hu)
  rw [hFE] at HB1
  rw [hTE] at HB2
  have hFL := fillL_length W H zs phase
  have hTL : (takeL W2 ps phase).length = ps.length := by simp [takeL]
  obtain ⟨hph1, hph2⟩ : 0 ≤ phase ∧ phase ≤ 3 := by simpa [phaseOk] using hph
  have hd1 : decide (0 ≤ phase) = true := by simpa using hph1
  have hd2 : decide (phase ≤ 3) = true := by simpa using hph2
  rw [show okW 1 W = 0 from rfl, show okW 1 H = 0 from rfl, show okL 1 (fillL W H zs phase) = [] from rfl] at HB1
  rw [show okW 1 W2 = 0 from rfl, show okW 1 H2 = 0 from rfl, show okL 1 (takeL W2 ps phase) = [] from rfl] at HB2
  clear hFE hTE
  obtain ⟨u1, u2⟩ := al2 w (Obj.cells #[.int .i64 W, .int .i64 H, .slice ao zs.length ca] 24) (Obj.cells #[.int .i64 W2, .int .i64 H2, .slice bo ps.length cb] 39)
  have HU := hide (be2 w (Obj.cells #[.int .i64 W, .int .i64 H, .slice ao zs.length ca] 24) (Obj.cells #[.int .i64 W2, .int .i64 H2, .slice bo ps.length cb] 39))
  have hsU : ((w.alloc (Obj.cells #[.int .i64 W, .int .i64 H, .slice ao zs.length ca] 24)).alloc (Obj.cells #[.int .i64 W2, .int .i64 H2, .slice bo ps.length cb] 39)).heap.size = w.heap.size + 2 := by simp
  go_enter Try.func4, Try.ntmps4
  go_wp2_with fail
  generalize (w.alloc (Obj.cells #[.int .i64 W, .int .i64 H, .slice ao zs.length ca] 24)).alloc (Obj.cells #[.int .i64 W2, .int .i64 H2, .slice bo ps.length cb] 39) = U at *
  replace hsU := Nat.le_of_eq hsU.symm
  refine (HB1.out _ (HV.out.below HU.out (Nat.le_refl _))).mono ?_
  rintro e w1 ⟨r, rfl, hr, hb1, _⟩
  have HR1 := hide hr
  obtain ⟨ro, rc, rfl, _, _⟩ := hr
  rw [List.length_nil] at HR1 ⊢
  have ta := al1 w1 (Obj.cells #[.int .i64 0, .int .i64 0, .slice ro 0 rc] 39)
  have hb1a := bel_trans hb1 (bel_alloc w1 (Obj.cells #[.int .i64 0, .int .i64 0, .slice ro 0 rc] 39))
  obtain ⟨c0, c1, c2⟩ := cells3 ((hb1a.block (w.heap.size + 1) (by omega)).trans u2)
  go_wp2_with fail
  have hlw1 : w.heap.size + 1 < w1.heap.size := by have := hb1.size; omega
  have HS1 := hide (bel_alloc w1 (Obj.cells #[.int .i64 0, .int .i64 0, .slice ro 0 rc] 39))
  generalize w1.alloc (Obj.cells #[.int .i64 0, .int .i64 0, .slice ro 0 rc] 39) = w1a at *
  clear c0 c1 c2
  refine (HB2.out _ (HV2.out.below (HU.out.trans (hb1a.mono HU.out.size)) (Nat.le_refl _))).mono ?_
  rintro e w2 ⟨r2, rfl, hr2, hb2, _⟩
  have HR2 := hide hr2
  obtain ⟨to_, tc, rfl, _, _⟩ := hr2
  rw [List.length_nil] at HR2 ⊢
  obtain ⟨tb, tf, to2⟩ := al3 w2 (Obj.cells #[.int .i64 0, .int .i64 0, .slice to_ 0 tc] 24) (Obj.cells #[.int .i64 0, .int .i64 0, .slice none 0 0] 39) (Obj.cells #[.int .i64 0, .int .i64 0, .slice none 0 0] 24)
  have hb3 := be3 w2 (Obj.cells #[.int .i64 0, .int .i64 0, .slice to_ 0 tc] 24) (Obj.cells #[.int .i64 0, .int .i64 0, .slice none 0 0] 39) (Obj.cells #[.int .i64 0, .int .i64 0, .slice none 0 0] 24)
  have hlw2 : w1.heap.size < w2.heap.size := Nat.lt_of_lt_of_le (Array.getElem?_eq_some_iff.1 ta).1 hb2.size
  have hU3 := bel_trans hb1a (bel_trans hb2 hb3)
  have hJ : MfJ w w1 w2 #[.int .i64 W, .int .i64 H, .slice ao zs.length ca] #[.int .i64 W2, .int .i64 H2, .slice bo ps.length cb] #[.int .i64 0, .int .i64 0, .slice ro 0 rc] #[.int .i64 0, .int .i64 0, .slice to_ 0 tc] #[.int .i64 0, .int .i64 0, .slice none 0 0] #[.int .i64 0, .int .i64 0, .slice none 0 0] (((w2.alloc (Obj.cells #[.int .i64 0, .int .i64 0, .slice to_ 0 tc] 24)).alloc (Obj.cells #[.int .i64 0, .int .i64 0, .slice none 0 0] 39)).alloc (Obj.cells #[.int .i64 0, .int .i64 0, .slice none 0 0] 24)) := ⟨(hU3.block w.heap.size (by omega)).trans u1, (hU3.block (w.heap.size + 1) (by omega)).trans u2, ((bel_trans hb2 hb3).block w1.heap.size (Array.getElem?_eq_some_iff.1 ta).1).trans ta, tb, tf, to2, HU.out.trans (hU3.mono HU.out.size), HS1.out.trans ((bel_trans hb2 hb3).mono HS1.out.size), hb3⟩
  clear u1 u2 ta tb tf to2 hb1 hb1a hb2 hb3 hU3 HS1 HB1 HB2
  have HJ := hide hJ
  obtain ⟨e0, e1, e2⟩ := cells3 hJ.1
  clear hJ
  go_wp2_with fail
  generalize ((w2.alloc (Obj.cells #[.int .i64 0, .int .i64 0, .slice to_ 0 tc] 24)).alloc (Obj.cells #[.int .i64 0, .int .i64 0, .slice none 0 0] 39)).alloc (Obj.cells #[.int .i64 0, .int .i64 0, .slice none 0 0] 24) = X0 at *
  clear e0 e1 e2
  refine (planeFine_any W H _ zs _ (HV.out.below HJ.out.2.2.2.2.2.2.1 (Nat.le_refl _))).mono ?_
  rintro e X1 ⟨rfl, hx1⟩
  rw [hp]
  replace HJ := hide (HJ.out.below hx1)
  obtain ⟨q0, q1, q2⟩ := cells3 HJ.out.2.1
  have HF1 := hide (IsPix.nil X1)
  go_wp2_with fail
  clear q0 q1 q2
  refine (pictureFine_any W2 H2 _ ps _ (HV2.out.below HJ.out.2.2.2.2.2.2.1 (Nat.le_refl _))).mono ?_
  rintro e X4 ⟨rfl, hx4⟩
  rw [hq]
  have HJ4 := hide (HJ.out.below hx4)
  have HF4 := hide (HF1.out.below hx4 (Nat.le_refl _))
  have HT6 := hide (IsInts.nil X4)
  have HJ6 := HJ4
  have HF6 := HF4
  go_wp2_with fail
  refine (mosaicBegun_any _).mono ?_
  rintro e X7 ⟨rfl, hx7⟩
  have HJ7 := hide (HJ6.out.below hx7)
  obtain ⟨m0, m1, m2⟩ := cells3 HJ7.out.2.2.1
  obtain ⟨k0, k1, k2⟩ := cells3 HJ7.out.2.2.2.2.1
  go_wp2_with fail
  clear m0 m1 m2 k0 k1 k2
  refine (samePictures_any 0 0 _ ([] : List Px) 0 0 _ ([] : List Px) _ (HR1.out.below HJ7.out.2.2.2.2.2.2.2.1 (Nat.le_refl _)) (HF6.out.below hx7 (Nat.le_refl _))).mono ?_
  rintro e X8 ⟨rfl, hx8⟩
  rw [show sameB 0 0 ([] : List Px) 0 0 ([] : List Px) = true by simp [sameB]]
  have HJ8 := hide (HJ7.out.below hx8)
  obtain ⟨m0, m1, m2⟩ := cells3 HJ8.out.2.2.2.1
  obtain ⟨k0, k1, k2⟩ := cells3 HJ8.out.2.2.2.2.2.1
  go_wp2_with fail
  clear m0 m1 m2 k0 k1 k2
  refine (samePlanes_any 0 0 0 0 _ _ ([] : List Int) ([] : List Int) _ (HR2.out.below HJ8.out.2.2.2.2.2.2.2.2 (Nat.le_refl _)) (HT6.out.below (bel_trans hx7 hx8) (Nat.le_refl _))).mono ?_
  rintro e X9 ⟨rfl, hx9⟩
  rw [show decide ((0 : Int) = 0 ∧ (0 : Int) = 0 ∧ ([] : List Int) = ([] : List Int)) = true by simp]
  have HFIN := hide ((HJ8.out.below hx9).2.2.2.2.2.2.1)
  go_wp2
  go_ret
  exact ⟨rfl, HFIN.out⟩

set_option maxRecDepth 100000 in
set_option maxHeartbeats 3200000 in
theorem mosaicFills_000 (W H : Int) (v : Value) (zs : List Int) (W2 H2 : Int) (v2 : Value) (ps : List Px) (phase : Int) (w : World) (hv : IsInts w v zs) (hv2 : IsPix w v2 ps) (hp : planeOk W H zs = false) (hq : picOk W2 H2 ps = false) (hph : phaseOk phase = false) :
    Calls Try.prog 4 #[.agg #[.int .i64 W, .int .i64 H, v], .agg #[.int .i64 W2, .int .i64 H2, v2], .int .i64 phase] w fun e w' => e = .returned (.bool true) ∧ Below w.heap.size w w' := by
  have HV := hide hv
  have HV2 := hide hv2
  obtain ⟨ao, ca, rfl, _, _⟩ := hv
  obtain ⟨bo, cb, rfl, _, _⟩ := hv2
  have hFE : fillE W H zs phase = 1 := by simp [fillE, hp]
  have hTE : takeE W2 H2 ps phase = 1 := by simp [takeE, hq]
  have HB1 := hide (fun (u : World) (hu : IsInts u (.slice ao zs.length ca) zs) => fill_any W H _ zs phase u hu)
  have HB2 := hide (fun (u : World) (hu : IsPix u (.slice bo ps.length cb) ps) => take_any W2 H2 _ ps phase u hu)
  rw [hFE] at HB1
  rw [hTE] at HB2
  have hFL := fillL_length W H zs phase
  have hTL : (takeL W2 ps phase).length = ps.length := by simp [takeL]
  rw [show okW 1 W = 0 from rfl, show okW 1 H = 0 from rfl, show okL 1 (fillL W H zs phase) = [] from rfl] at HB1
  rw [show okW 1 W2 = 0 from rfl, show okW 1 H2 = 0 from rfl, show okL 1 (takeL W2 ps phase) = [] from rfl] at HB2
  clear hFE hTE
  have hcas : phase < 0 ∨ (0 ≤ phase ∧ 3 < phase) := by
    have h : ¬ (0 ≤ phase ∧ phase ≤ 3) := by simpa [phaseOk] using hph
    omega
  rcases hcas with hcas | ⟨hc1, hc2⟩
  · have hd1 : decide (0 ≤ phase) = false := by simpa using hcas
    clear hcas
    obtain ⟨u1, u2⟩ := al2 w (Obj.cells #[.int .i64 W, .int .i64 H, .slice ao zs.length ca] 24) (Obj.cells #[.int .i64 W2, .int .i64 H2, .slice bo ps.length cb] 39)
    have HU := hide (be2 w (Obj.cells #[.int .i64 W, .int .i64 H, .slice ao zs.length ca] 24) (Obj.cells #[.int .i64 W2, .int .i64 H2, .slice bo ps.length cb] 39))
    have hsU : ((w.alloc (Obj.cells #[.int .i64 W, .int .i64 H, .slice ao zs.length ca] 24)).alloc (Obj.cells #[.int .i64 W2, .int .i64 H2, .slice bo ps.length cb] 39)).heap.size = w.heap.size + 2 := by simp
    go_enter Try.func4, Try.ntmps4
    go_wp2_with fail
    generalize (w.alloc (Obj.cells #[.int .i64 W, .int .i64 H, .slice ao zs.length ca] 24)).alloc (Obj.cells #[.int .i64 W2, .int .i64 H2, .slice bo ps.length cb] 39) = U at *
    replace hsU := Nat.le_of_eq hsU.symm
    refine (HB1.out _ (HV.out.below HU.out (Nat.le_refl _))).mono ?_
    rintro e w1 ⟨r, rfl, hr, hb1, _⟩
    have HR1 := hide hr
    obtain ⟨ro, rc, rfl, _, _⟩ := hr
    rw [List.length_nil] at HR1 ⊢
    have ta := al1 w1 (Obj.cells #[.int .i64 0, .int .i64 0, .slice ro 0 rc] 39)
    have hb1a := bel_trans hb1 (bel_alloc w1 (Obj.cells #[.int .i64 0, .int .i64 0, .slice ro 0 rc] 39))
    obtain ⟨c0, c1, c2⟩ := cells3 ((hb1a.block (w.heap.size + 1) (by omega)).trans u2)
    go_wp2_with fail
    have hlw1 : w.heap.size + 1 < w1.heap.size := by have := hb1.size; omega
    have HS1 := hide (bel_alloc w1 (Obj.cells #[.int .i64 0, .int .i64 0, .slice ro 0 rc] 39))
    generalize w1.alloc (Obj.cells #[.int .i64 0, .int .i64 0, .slice ro 0 rc] 39) = w1a at *
    clear c0 c1 c2
    refine (HB2.out _ (HV2.out.below (HU.out.trans (hb1a.mono HU.out.size)) (Nat.le_refl _))).mono ?_
    rintro e w2 ⟨r2, rfl, hr2, hb2, _⟩
    have HR2 := hide hr2
    obtain ⟨to_, tc, rfl, _, _⟩ := hr2
    rw [List.length_nil] at HR2 ⊢
    obtain ⟨tb, tf, to2⟩ := al3 w2 (Obj.cells #[.int .i64 0, .int .i64 0, .slice to_ 0 tc] 24) (Obj.cells #[.int .i64 0, .int .i64 0, .slice none 0 0] 39) (Obj.cells #[.int .i64 0, .int .i64 0, .slice none 0 0] 24)
    have hb3 := be3 w2 (Obj.cells #[.int .i64 0, .int .i64 0, .slice to_ 0 tc] 24) (Obj.cells #[.int .i64 0, .int .i64 0, .slice none 0 0] 39) (Obj.cells #[.int .i64 0, .int .i64 0, .slice none 0 0] 24)
    have hlw2 : w1.heap.size < w2.heap.size := Nat.lt_of_lt_of_le (Array.getElem?_eq_some_iff.1 ta).1 hb2.size
    have hU3 := bel_trans hb1a (bel_trans hb2 hb3)
    have hJ : MfJ w w1 w2 #[.int .i64 W, .int .i64 H, .slice ao zs.length ca] #[.int .i64 W2, .int .i64 H2, .slice bo ps.length cb] #[.int .i64 0, .int .i64 0, .slice ro 0 rc] #[.int .i64 0, .int .i64 0, .slice to_ 0 tc] #[.int .i64 0, .int .i64 0, .slice none 0 0] #[.int .i64 0, .int .i64 0, .slice none 0 0] (((w2.alloc (Obj.cells #[.int .i64 0, .int .i64 0, .slice to_ 0 tc] 24)).alloc (Obj.cells #[.int .i64 0, .int .i64 0, .slice none 0 0] 39)).alloc (Obj.cells #[.int .i64 0, .int .i64 0, .slice none 0 0] 24)) := ⟨(hU3.block w.heap.size (by omega)).trans u1, (hU3.block (w.heap.size + 1) (by omega)).trans u2, ((bel_trans hb2 hb3).block w1.heap.size (Array.getElem?_eq_some_iff.1 ta).1).trans ta, tb, tf, to2, HU.out.trans (hU3.mono HU.out.size), HS1.out.trans ((bel_trans hb2 hb3).mono HS1.out.size), hb3⟩
    clear u1 u2 ta tb tf to2 hb1 hb1a hb2 hb3 hU3 HS1 HB1 HB2
    have HJ := hide hJ
    obtain ⟨e0, e1, e2⟩ := cells3 hJ.1
    clear hJ
    go_wp2_with fail
    generalize ((w2.alloc (Obj.cells #[.int .i64 0, .int .i64 0, .slice to_ 0 tc] 24)).alloc (Obj.cells #[.int .i64 0, .int .i64 0, .slice none 0 0] 39)).alloc (Obj.cells #[.int .i64 0, .int .i64 0, .slice none 0 0] 24) = X0 at *
    clear e0 e1 e2
    refine (planeFine_any W H _ zs _ (HV.out.below HJ.out.2.2.2.2.2.2.1 (Nat.le_refl _))).mono ?_
    rintro e X1 ⟨rfl, hx1⟩
    rw [hp]
    replace HJ := hide (HJ.out.below hx1)
    obtain ⟨q0, q1, q2⟩ := cells3 HJ.out.2.1
    have HF1 := hide (IsPix.nil X1)
    go_wp2_with fail
    clear q0 q1 q2
    refine (pictureFine_any W2 H2 _ ps _ (HV2.out.below HJ.out.2.2.2.2.2.2.1 (Nat.le_refl _))).mono ?_
    rintro e X4 ⟨rfl, hx4⟩
    rw [hq]
    have HJ4 := hide (HJ.out.below hx4)
    have HF4 := hide (HF1.out.below hx4 (Nat.le_refl _))
    have HT6 := hide (IsInts.nil X4)
    have HJ6 := HJ4
    have HF6 := HF4
    go_wp2_with fail
    refine (mosaicBegun_any _).mono ?_
    rintro e X7 ⟨rfl, hx7⟩
    have HJ7 := hide (HJ6.out.below hx7)
    obtain ⟨m0, m1, m2⟩ := cells3 HJ7.out.2.2.1
    obtain ⟨k0, k1, k2⟩ := cells3 HJ7.out.2.2.2.2.1
    go_wp2_with fail
    clear m0 m1 m2 k0 k1 k2
    refine (samePictures_any 0 0 _ ([] : List Px) 0 0 _ ([] : List Px) _ (HR1.out.below HJ7.out.2.2.2.2.2.2.2.1 (Nat.le_refl _)) (HF6.out.below hx7 (Nat.le_refl _))).mono ?_
    rintro e X8 ⟨rfl, hx8⟩
    rw [show sameB 0 0 ([] : List Px) 0 0 ([] : List Px) = true by simp [sameB]]
    have HJ8 := hide (HJ7.out.below hx8)
    obtain ⟨m0, m1, m2⟩ := cells3 HJ8.out.2.2.2.1
    obtain ⟨k0, k1, k2⟩ := cells3 HJ8.out.2.2.2.2.2.1
    go_wp2_with fail
    clear m0 m1 m2 k0 k1 k2
    refine (samePlanes_any 0 0 0 0 _ _ ([] : List Int) ([] : List Int) _ (HR2.out.below HJ8.out.2.2.2.2.2.2.2.2 (Nat.le_refl _)) (HT6.out.below (bel_trans hx7 hx8) (Nat.le_refl _))).mono ?_
    rintro e X9 ⟨rfl, hx9⟩
    rw [show decide ((0 : Int) = 0 ∧ (0 : Int) = 0 ∧ ([] : List Int) = ([] : List Int)) = true by simp]
    have HFIN := hide ((HJ8.out.below hx9).2.2.2.2.2.2.1)
    go_wp2
    go_ret
    exact ⟨rfl, HFIN.out⟩
  · have hd1 : decide (0 ≤ phase) = true := by simpa using hc1
    have hd2 : decide (phase ≤ 3) = false := by simpa using hc2
    clear hc1 hc2
    obtain ⟨u1, u2⟩ := al2 w (Obj.cells #[.int .i64 W, .int .i64 H, .slice ao zs.length ca] 24) (Obj.cells #[.int .i64 W2, .int .i64 H2, .slice bo ps.length cb] 39)
    have HU := hide (be2 w (Obj.cells #[.int .i64 W, .int .i64 H, .slice ao zs.length ca] 24) (Obj.cells #[.int .i64 W2, .int .i64 H2, .slice bo ps.length cb] 39))
    have hsU : ((w.alloc (Obj.cells #[.int .i64 W, .int .i64 H, .slice ao zs.length ca] 24)).alloc (Obj.cells #[.int .i64 W2, .int .i64 H2, .slice bo ps.length cb] 39)).heap.size = w.heap.size + 2 := by simp
    go_enter Try.func4, Try.ntmps4
    go_wp2_with fail
    generalize (w.alloc (Obj.cells #[.int .i64 W, .int .i64 H, .slice ao zs.length ca] 24)).alloc (Obj.cells #[.int .i64 W2, .int .i64 H2, .slice bo ps.length cb] 39) = U at *
    replace hsU := Nat.le_of_eq hsU.symm
    refine (HB1.out _ (HV.out.below HU.out (Nat.le_refl _))).mono ?_
    rintro e w1 ⟨r, rfl, hr, hb1, _⟩
    have HR1 := hide hr
    obtain ⟨ro, rc, rfl, _, _⟩ := hr
    rw [List.length_nil] at HR1 ⊢
    have ta := al1 w1 (Obj.cells #[.int .i64 0, .int .i64 0, .slice ro 0 rc] 39)
    have hb1a := bel_trans hb1 (bel_alloc w1 (Obj.cells #[.int .i64 0, .int .i64 0, .slice ro 0 rc] 39))
    obtain ⟨c0, c1, c2⟩ := cells3 ((hb1a.block (w.heap.size + 1) (by omega)).trans u2)
    go_wp2_with fail
    have hlw1 : w.heap.size + 1 < w1.heap.size := by have := hb1.size; omega
    have HS1 := hide (bel_alloc w1 (Obj.cells #[.int .i64 0, .int .i64 0, .slice ro 0 rc] 39))
    generalize w1.alloc (Obj.cells #[.int .i64 0, .int .i64 0, .slice ro 0 rc] 39) = w1a at *
    clear c0 c1 c2
    refine (HB2.out _ (HV2.out.below (HU.out.trans (hb1a.mono HU.out.size)) (Nat.le_refl _))).mono ?_
    rintro e w2 ⟨r2, rfl, hr2, hb2, _⟩
    have HR2 := hide hr2
    obtain ⟨to_, tc, rfl, _, _⟩ := hr2
    rw [List.length_nil] at HR2 ⊢
    obtain ⟨tb, tf, to2⟩ := al3 w2 (Obj.cells #[.int .i64 0, .int .i64 0, .slice to_ 0 tc] 24) (Obj.cells #[.int .i64 0, .int .i64 0, .slice none 0 0] 39) (Obj.cells #[.int .i64 0, .int .i64 0, .slice none 0 0] 24)
    have hb3 := be3 w2 (Obj.cells #[.int .i64 0, .int .i64 0, .slice to_ 0 tc] 24) (Obj.cells #[.int .i64 0, .int .i64 0, .slice none 0 0] 39) (Obj.cells #[.int .i64 0, .int .i64 0, .slice none 0 0] 24)
    have hlw2 : w1.heap.size < w2.heap.size := Nat.lt_of_lt_of_le (Array.getElem?_eq_some_iff.1 ta).1 hb2.size
    have hU3 := bel_trans hb1a (bel_trans hb2 hb3)
    have hJ : MfJ w w1 w2 #[.int .i64 W, .int .i64 H, .slice ao zs.length ca] #[.int .i64 W2, .int .i64 H2, .slice bo ps.length cb] #[.int .i64 0, .int .i64 0, .slice ro 0 rc] #[.int .i64 0, .int .i64 0, .slice to_ 0 tc] #[.int .i64 0, .int .i64 0, .slice none 0 0] #[.int .i64 0, .int .i64 0, .slice none 0 0] (((w2.alloc (Obj.cells #[.int .i64 0, .int .i64 0, .slice to_ 0 tc] 24)).alloc (Obj.cells #[.int .i64 0, .int .i64 0, .slice none 0 0] 39)).alloc (Obj.cells #[.int .i64 0, .int .i64 0, .slice none 0 0] 24)) := ⟨(hU3.block w.heap.size (by omega)).trans u1, (hU3.block (w.heap.size + 1) (by omega)).trans u2, ((bel_trans hb2 hb3).block w1.heap.size (Array.getElem?_eq_some_iff.1 ta).1).trans ta, tb, tf, to2, HU.out.trans (hU3.mono HU.out.size), HS1.out.trans ((bel_trans hb2 hb3).mono HS1.out.size), hb3⟩
    clear u1 u2 ta tb tf to2 hb1 hb1a hb2 hb3 hU3 HS1 HB1 HB2
    have HJ := hide hJ
    obtain ⟨e0, e1, e2⟩ := cells3 hJ.1
    clear hJ
    go_wp2_with fail
    generalize ((w2.alloc (Obj.cells #[.int .i64 0, .int .i64 0, .slice to_ 0 tc] 24)).alloc (Obj.cells #[.int .i64 0, .int .i64 0, .slice none 0 0] 39)).alloc (Obj.cells #[.int .i64 0, .int .i64 0, .slice none 0 0] 24) = X0 at *
    clear e0 e1 e2
    refine (planeFine_any W H _ zs _ (HV.out.below HJ.out.2.2.2.2.2.2.1 (Nat.le_refl _))).mono ?_
    rintro e X1 ⟨rfl, hx1⟩
    rw [hp]
    replace HJ := hide (HJ.out.below hx1)
    obtain ⟨q0, q1, q2⟩ := cells3 HJ.out.2.1
    have HF1 := hide (IsPix.nil X1)
    go_wp2_with fail
    clear q0 q1 q2
    refine (pictureFine_any W2 H2 _ ps _ (HV2.out.below HJ.out.2.2.2.2.2.2.1 (Nat.le_refl _))).mono ?_
    rintro e X4 ⟨rfl, hx4⟩
    rw [hq]
    have HJ4 := hide (HJ.out.below hx4)
    have HF4 := hide (HF1.out.below hx4 (Nat.le_refl _))
    have HT6 := hide (IsInts.nil X4)
    have HJ6 := HJ4
    have HF6 := HF4
    go_wp2_with fail
    refine (mosaicBegun_any _).mono ?_
    rintro e X7 ⟨rfl, hx7⟩
    have HJ7 := hide (HJ6.out.below hx7)
    obtain ⟨m0, m1, m2⟩ := cells3 HJ7.out.2.2.1
    obtain ⟨k0, k1, k2⟩ := cells3 HJ7.out.2.2.2.2.1
    go_wp2_with fail
    clear m0 m1 m2 k0 k1 k2
    refine (samePictures_any 0 0 _ ([] : List Px) 0 0 _ ([] : List Px) _ (HR1.out.below HJ7.out.2.2.2.2.2.2.2.1 (Nat.le_refl _)) (HF6.out.below hx7 (Nat.le_refl _))).mono ?_
    rintro e X8 ⟨rfl, hx8⟩
    rw [show sameB 0 0 ([] : List Px) 0 0 ([] : List Px) = true by simp [sameB]]
    have HJ8 := hide (HJ7.out.below hx8)
    obtain ⟨m0, m1, m2⟩ := cells3 HJ8.out.2.2.2.1
    obtain ⟨k0, k1, k2⟩ := cells3 HJ8.out.2.2.2.2.2.1
    go_wp2_with fail
    clear m0 m1 m2 k0 k1 k2
    refine (samePlanes_any 0 0 0 0 _ _ ([] : List Int) ([] : List Int) _ (HR2.out.below HJ8.out.2.2.2.2.2.2.2.2 (Nat.le_refl _)) (HT6.out.below (bel_trans hx7 hx8) (Nat.le_refl _))).mono ?_
    rintro e X9 ⟨rfl, hx9⟩
    rw [show decide ((0 : Int) = 0 ∧ (0 : Int) = 0 ∧ ([] : List Int) = ([] : List Int)) = true by simp]
    have HFIN := hide ((HJ8.out.below hx9).2.2.2.2.2.2.1)
    go_wp2
    go_ret
    exact ⟨rfl, HFIN.out⟩

theorem mosaicFills_walk (W H : Int) (v : Value) (zs : List Int) (W2 H2 : Int) (v2 : Value) (ps : List Px) (phase : Int) (w : World) (hv : IsInts w v zs) (hv2 : IsPix w v2 ps) :
    Calls Try.prog 4 #[.agg #[.int .i64 W, .int .i64 H, v], .agg #[.int .i64 W2, .int .i64 H2, v2], .int .i64 phase] w fun e w' => e = .returned (.bool true) ∧ Below w.heap.size w w' := by
  cases hp : planeOk W H zs <;> cases hq : picOk W2 H2 ps <;> cases hph : phaseOk phase
  · exact mosaicFills_000 W H v zs W2 H2 v2 ps phase w hv hv2 hp hq hph
  · exact mosaicFills_001 W H v zs W2 H2 v2 ps phase w hv hv2 hp hq hph
  · exact mosaicFills_010 W H v zs W2 H2 v2 ps phase w hv hv2 hp hq hph
  · exact mosaicFills_011 W H v zs W2 H2 v2 ps phase w hv hv2 hp hq hph
  · exact mosaicFills_100 W H v zs W2 H2 v2 ps phase w hv hv2 hp hq hph
  · exact mosaicFills_101 W H v zs W2 H2 v2 ps phase w hv hv2 hp hq hph
  · exact mosaicFills_110 W H v zs W2 H2 v2 ps phase w hv hv2 hp hq hph
  · exact mosaicFills_111 W H v zs W2 H2 v2 ps phase w hv hv2 hp hq hph

end Go.Proofs.Ytolcndchfnifhab
