/- sensorgains: part 10 of what its proof needs. -/
import Derived.Test.YtolcndchfnifhabM1Sensorgains
import Derived.Test.YtolcndchfnifhabM2Sensorgains
import Derived.Test.YtolcndchfnifhabM3Sensorgains
import Derived.Test.YtolcndchfnifhabM5Sensorgains
/- sensor.Level, sensor.Gain. -/
namespace Go.Proofs.Ytolcndchfnifhab
set_option linter.unusedVariables false
open Go.RowKit

theorem fourA_cells {w : World} {b : Nat} {t : TypeId} {fr : Nat × Nat} {m : Nat → Int} (h : w.heap[b]? = some (.cells (fourA m) t fr)) :
    w.cell? ⟨b, 0, none⟩ = some (.int .i64 (m 0)) ∧ w.cell? ⟨b, 1, none⟩ = some (.int .i64 (m 1)) ∧ w.cell? ⟨b, 2, none⟩ = some (.int .i64 (m 2)) ∧ w.cell? ⟨b, 3, none⟩ = some (.int .i64 (m 3)) :=
  ⟨by rw [Lib.cell_of_heap h]; rfl, by rw [Lib.cell_of_heap h]; rfl, by rw [Lib.cell_of_heap h]; rfl, by rw [Lib.cell_of_heap h]; rfl⟩
def levE (W H : Int) (zs : List Int) (m : Nat → Int) (white : Int) : Int := if planeOk W H zs = true then (if levelsOk m white = true then 0 else 3) else 1
def levL (W : Int) (zs : List Int) (m : Nat → Int) (white : Int) : List Int := (List.range zs.length).map (levelV zs W.toNat m white)

set_option maxRecDepth 100000 in
set_option maxHeartbeats 1600000 in
theorem level_any (W H : Int) (v : Value) (zs : List Int) (m : Nat → Int) (white : Int) (w : World) (hv : IsInts w v zs) :
    Calls Try.prog 61 #[.agg #[.int .i64 W, .int .i64 H, v], .agg (fourA m), .int .i64 white] w fun e w' => ∃ r, e = .returned (.tuple #[.agg #[.int .i64 (okW (levE W H zs m white) W), .int .i64 (okW (levE W H zs m white) H), r], .int .i64 (levE W H zs m white)]) ∧ IsInts w' r (okL (levE W H zs m white) (levL W zs m white)) ∧ Below w.heap.size w w' ∧ Fresh w.heap.size r := by
  have HV := hide hv
  obtain ⟨E, hE⟩ : ∃ E, levE W H zs m white = E := ⟨_, rfl⟩
  rw [hE]
  by_cases hp : planeOk W H zs = true
  · by_cases hph : levelsOk m white = true
    · have he : E = 0 := by rw [← hE, levE, if_pos hp, if_pos hph]
      subst he
      clear hE
      obtain ⟨⟨w1, w2⟩, ⟨h1, h2⟩, hl, _⟩ := planeOk_parts hp
      have hz := planeOk_all hp
      have hph3 := hph
      rw [levelsOk, Bool.and_eq_true] at hph3
      have hph2 : 1 ≤ white ∧ white ≤ 65535 := by simpa using hph3.1
      have HMM := hide (fun k (hk : k < 4) => arrL_all hph3.2 k hk)
      have hsm := side_mul ⟨w1, w2⟩ ⟨h1, h2⟩
      have hn1 : 1 ≤ zs.length := by omega
      obtain ⟨bk, off, ca, rfl, hbk, hcell⟩ := hv.cells hn1
      obtain ⟨WN, rfl⟩ := Int.eq_ofNat_of_zero_le (show 0 ≤ W by omega)
      obtain ⟨HN, rfl⟩ := Int.eq_ofNat_of_zero_le (show 0 ≤ H by omega)
      have HLEN := hide (show zs.length = HN * WN by rw [Nat.mul_comm]; exact_mod_cast hl)
      have HZ := hide hz
      have HC := hide hcell
      rw [show okW 0 (WN : Int) = WN from rfl, show okW 0 (HN : Int) = HN from rfl, show okL 0 (levL (WN : Int) zs m white) = (List.range zs.length).map (levelV zs WN m white) from rfl]
      clear hl hz hcell hsm hv hph3
      go_enter Try.func61, Try.ntmps61
      go_wp2_with fail
      obtain ⟨a1, a2, a3, a4⟩ := al4 w (Obj.cells #[.int .i64 (WN : Nat), .int .i64 (HN : Nat), .slice (some ⟨bk, off, none⟩) zs.length ca] 24) (Obj.cells (fourA m) 72) (Obj.cells #[.int .i64 white] 3) (Obj.cells #[.int .i64 0, .int .i64 0, .slice none 0 0] 24)
      have hB := be4 w (Obj.cells #[.int .i64 (WN : Nat), .int .i64 (HN : Nat), .slice (some ⟨bk, off, none⟩) zs.length ca] 24) (Obj.cells (fourA m) 72) (Obj.cells #[.int .i64 white] 3) (Obj.cells #[.int .i64 0, .int .i64 0, .slice none 0 0] 24)
      have hs3 : ((((w.alloc (Obj.cells #[.int .i64 (WN : Nat), .int .i64 (HN : Nat), .slice (some ⟨bk, off, none⟩) zs.length ca] 24)).alloc (Obj.cells (fourA m) 72)).alloc (Obj.cells #[.int .i64 white] 3)).alloc (Obj.cells #[.int .i64 0, .int .i64 0, .slice none 0 0] 24)).heap.size = w.heap.size + 4 := by simp
      generalize (((w.alloc (Obj.cells #[.int .i64 (WN : Nat), .int .i64 (HN : Nat), .slice (some ⟨bk, off, none⟩) zs.length ca] 24)).alloc (Obj.cells (fourA m) 72)).alloc (Obj.cells #[.int .i64 white] 3)).alloc (Obj.cells #[.int .i64 0, .int .i64 0, .slice none 0 0] 24) = U at *
      refine (plane_any WN HN _ zs _ (HV.out.below hB (Nat.le_refl _))).mono ?_
      rintro e w1 ⟨rfl, hb1⟩
      rw [hp]
      have g4 := (hb1.block (w.heap.size + 3) (by omega)).trans a4
      obtain ⟨n0, n1, n2, n3⟩ := fourA_cells ((hb1.block (w.heap.size + 1) (by omega)).trans a2)
      have g3 := bx1 ((hb1.block (w.heap.size + 1 + 1) (by omega)).trans a3)
      go_wp2_with fail
      refine (levels_any m white _).mono ?_
      rintro e w2 ⟨rfl, hb2⟩
      rw [hph]
      clear n0 n1 n2 n3 g3
      replace hb2 := bel_trans hb1 hb2
      replace g4 := (hb2.block (w.heap.size + 3) (by omega)).trans a4
      obtain ⟨p0, p1, p2⟩ := cells3 ((hb2.block (w.heap.size) (by omega)).trans a1)
      go_wp2_with fail
      have hbG := bel_trans hb2 (bel_alloc w2 (Obj.cells #[.int .i64 (WN : Nat), .int .i64 (HN : Nat)] 91))
      have aG := al1 w2 (Obj.cells #[.int .i64 (WN : Nat), .int .i64 (HN : Nat)] 91)
      have hlG := (Array.getElem?_eq_some_iff.1 aG).1
      have hs2 := hb2.size
      clear p0 p1 p2
      generalize w2.alloc (Obj.cells #[.int .i64 (WN : Nat), .int .i64 (HN : Nat)] 91) = w2g at *
      refine (gridPlane_any WN HN zs.length (by omega) (by omega) HLEN.out 104 #[.pointer (some ⟨w.heap.size + 1, 0, none⟩), .pointer (some ⟨w.heap.size, 0, none⟩), .pointer (some ⟨w2.heap.size, 0, none⟩), .pointer (some ⟨w.heap.size + 1 + 1, 0, none⟩)] (levelV zs WN m white) _ (enters_of Try.func104 (by kernel_rfl) rfl) ?_).mono ?_
      · intro j V hj hV
        have hb3 := bel_trans hbG hV
        have hbw := hB.trans (hb3.mono hB.size)
        obtain ⟨e0, e1, e2⟩ := cells3 ((hb3.block (w.heap.size) (by omega)).trans a1)
        have e3 := bx1 ((hb3.block (w.heap.size + 2) (by omega)).trans a3)
        have e6 := (hb3.block (w.heap.size + 1) (by omega)).trans a2
        obtain ⟨e4, e5⟩ := bx2 ((hV.block w2.heap.size hlG).trans aG)
        have hs := hb3.size
        have hsV := hV.size
        exact level1_any WN HN j bk off ca (by omega) (by omega) (by omega) zs HLEN.out HZ.out hj m white (by omega) (fun k hk => HMM.out k hk) (w.heap.size + 1) w.heap.size w2.heap.size (w.heap.size + 2) V (by omega) (by omega) (Nat.lt_of_lt_of_le hbk hbw.size) e2 e4 e5 (by omega) (by omega) (fun k hk => by rw [Lib.cell_of_heap e6, fourA_get m k hk]) e3 (fun i hi => (hbw.cell (p := ⟨bk, off + i, none⟩) hbk).trans (HC.out i hi))
      · rintro e w3 ⟨r, rfl, hr, hb3, hfr⟩
        replace hb3 := bel_trans hbG hb3
        replace g4 := (hb3.block (w.heap.size + 3) (by omega)).trans a4
        obtain ⟨z0, z1, z2⟩ := cells3 (b := w.heap.size + 1 + 1 + 1) g4
        have f0 := Lib.frozen_of_heap (b := w.heap.size + 1 + 1 + 1) g4 0
        have f1 := Lib.frozen_of_heap (b := w.heap.size + 1 + 1 + 1) g4 1
        have f2 := Lib.frozen_of_heap (b := w.heap.size + 1 + 1 + 1) g4 2
        have HR := hide hr
        obtain ⟨ro, rc, rfl, _, _⟩ := hr
        have HFIN := hide (set3_below (hB.trans (hb3.mono hB.size)) (show w.heap.size ≤ w.heap.size + 1 + 1 + 1 by omega) (.int .i64 (WN : Nat)) (.int .i64 (HN : Nat)) (.slice ro ((List.range zs.length).map (levelV zs WN m white)).length rc))
        have hsG := hbG.size
        have HPX2 := hide (HR.out.set3 hfr (show w.heap.size + 1 + 1 + 1 < w2g.heap.size by omega) (.int .i64 (WN : Nat)) (.int .i64 (HN : Nat)) (.slice ro ((List.range zs.length).map (levelV zs WN m white)).length rc))
        rw [List.length_map, List.length_range] at HPX2 HFIN hfr
        rw [List.length_map, List.length_range]
        go_wp2
        exact bodyPost_ret (v := .tuple #[.agg #[.int .i64 (WN : Nat), .int .i64 (HN : Nat), .slice ro zs.length rc], .int .i64 0]) (by simp [results, Try.results61, go_sem, z0, z1, z2]) rfl ⟨_, rfl, HPX2.out, HFIN.out, hfr.mono (by omega)⟩
    · have he : E = 3 := by rw [← hE, levE, if_pos hp, if_neg hph]
      have hph : levelsOk m white = false := by simpa using hph
      subst he
      clear hE
      obtain ⟨ao, ca, rfl, _, _⟩ := hv
      go_enter Try.func61, Try.ntmps61
      go_wp2_with fail
      obtain ⟨a1, a2, a3, a4⟩ := al4 w (Obj.cells #[.int .i64 W, .int .i64 H, .slice ao zs.length ca] 24) (Obj.cells (fourA m) 72) (Obj.cells #[.int .i64 white] 3) (Obj.cells #[.int .i64 0, .int .i64 0, .slice none 0 0] 24)
      have hB := be4 w (Obj.cells #[.int .i64 W, .int .i64 H, .slice ao zs.length ca] 24) (Obj.cells (fourA m) 72) (Obj.cells #[.int .i64 white] 3) (Obj.cells #[.int .i64 0, .int .i64 0, .slice none 0 0] 24)
      have hs3 : ((((w.alloc (Obj.cells #[.int .i64 W, .int .i64 H, .slice ao zs.length ca] 24)).alloc (Obj.cells (fourA m) 72)).alloc (Obj.cells #[.int .i64 white] 3)).alloc (Obj.cells #[.int .i64 0, .int .i64 0, .slice none 0 0] 24)).heap.size = w.heap.size + 4 := by simp
      generalize (((w.alloc (Obj.cells #[.int .i64 W, .int .i64 H, .slice ao zs.length ca] 24)).alloc (Obj.cells (fourA m) 72)).alloc (Obj.cells #[.int .i64 white] 3)).alloc (Obj.cells #[.int .i64 0, .int .i64 0, .slice none 0 0] 24) = U at *
      refine (plane_any W H _ zs _ (HV.out.below hB (Nat.le_refl _))).mono ?_
      rintro e w1 ⟨rfl, hb1⟩
      rw [hp]
      have g4 := (hb1.block (w.heap.size + 3) (by omega)).trans a4
      obtain ⟨n0, n1, n2, n3⟩ := fourA_cells ((hb1.block (w.heap.size + 1) (by omega)).trans a2)
      have g3 := bx1 ((hb1.block (w.heap.size + 1 + 1) (by omega)).trans a3)
      go_wp2_with fail
      refine (levels_any m white _).mono ?_
      rintro e w2 ⟨rfl, hb2⟩
      rw [hph]
      clear n0 n1 n2 n3 g3
      replace hb2 := bel_trans hb1 hb2
      replace g4 := (hb2.block (w.heap.size + 3) (by omega)).trans a4
      obtain ⟨z0, z1, z2⟩ := cells3 (b := w.heap.size + 1 + 1 + 1) g4
      have f0 := Lib.frozen_of_heap (b := w.heap.size + 1 + 1 + 1) g4 0
      have f1 := Lib.frozen_of_heap (b := w.heap.size + 1 + 1 + 1) g4 1
      have f2 := Lib.frozen_of_heap (b := w.heap.size + 1 + 1 + 1) g4 2
      have HFIN := hide (set3_below (hB.trans (hb2.mono hB.size)) (show w.heap.size ≤ w.heap.size + 1 + 1 + 1 by omega) (.int .i64 0) (.int .i64 0) (.slice none 0 0))
      go_wp2
      exact bodyPost_ret (v := .tuple #[.agg #[.int .i64 0, .int .i64 0, .slice none 0 0], .int .i64 3]) (by simp [results, Try.results61, go_sem, z0, z1, z2]) rfl ⟨.slice none 0 0, rfl, IsInts.nil _, HFIN.out, Fresh.nil _⟩
  · have he : E = 1 := by rw [← hE, levE, if_neg hp]
    have hp : planeOk W H zs = false := by simpa using hp
    subst he
    clear hE
    obtain ⟨ao, ca, rfl, _, _⟩ := hv
    go_enter Try.func61, Try.ntmps61
    go_wp2_with fail
    obtain ⟨a1, a2, a3, a4⟩ := al4 w (Obj.cells #[.int .i64 W, .int .i64 H, .slice ao zs.length ca] 24) (Obj.cells (fourA m) 72) (Obj.cells #[.int .i64 white] 3) (Obj.cells #[.int .i64 0, .int .i64 0, .slice none 0 0] 24)
    have hB := be4 w (Obj.cells #[.int .i64 W, .int .i64 H, .slice ao zs.length ca] 24) (Obj.cells (fourA m) 72) (Obj.cells #[.int .i64 white] 3) (Obj.cells #[.int .i64 0, .int .i64 0, .slice none 0 0] 24)
    have hs3 : ((((w.alloc (Obj.cells #[.int .i64 W, .int .i64 H, .slice ao zs.length ca] 24)).alloc (Obj.cells (fourA m) 72)).alloc (Obj.cells #[.int .i64 white] 3)).alloc (Obj.cells #[.int .i64 0, .int .i64 0, .slice none 0 0] 24)).heap.size = w.heap.size + 4 := by simp
    generalize (((w.alloc (Obj.cells #[.int .i64 W, .int .i64 H, .slice ao zs.length ca] 24)).alloc (Obj.cells (fourA m) 72)).alloc (Obj.cells #[.int .i64 white] 3)).alloc (Obj.cells #[.int .i64 0, .int .i64 0, .slice none 0 0] 24) = U at *
    refine (plane_any W H _ zs _ (HV.out.below hB (Nat.le_refl _))).mono ?_
    rintro e w1 ⟨rfl, hb1⟩
    rw [hp]
    have g4 := (hb1.block (w.heap.size + 3) (by omega)).trans a4
    generalize w1 = w2 at *
    have hb2 := hb1
    obtain ⟨z0, z1, z2⟩ := cells3 (b := w.heap.size + 1 + 1 + 1) g4
    have f0 := Lib.frozen_of_heap (b := w.heap.size + 1 + 1 + 1) g4 0
    have f1 := Lib.frozen_of_heap (b := w.heap.size + 1 + 1 + 1) g4 1
    have f2 := Lib.frozen_of_heap (b := w.heap.size + 1 + 1 + 1) g4 2
    have HFIN := hide (set3_below (hB.trans (hb2.mono hB.size)) (show w.heap.size ≤ w.heap.size + 1 + 1 + 1 by omega) (.int .i64 0) (.int .i64 0) (.slice none 0 0))
    go_wp2
    exact bodyPost_ret (v := .tuple #[.agg #[.int .i64 0, .int .i64 0, .slice none 0 0], .int .i64 1]) (by simp [results, Try.results61, go_sem, z0, z1, z2]) rfl ⟨.slice none 0 0, rfl, IsInts.nil _, HFIN.out, Fresh.nil _⟩

end Go.Proofs.Ytolcndchfnifhab

/- sensor.Gain. -/
namespace Go.Proofs.Ytolcndchfnifhab
set_option linter.unusedVariables false
open Go.RowKit

def gaiE (W H : Int) (zs : List Int) (phase : Int) (m : Nat → Int) : Int := if planeOk W H zs = true then (if phaseOk phase = true ∧ gainsOk m = true then 0 else 3) else 1
def gaiL (W : Int) (zs : List Int) (phase : Int) (m : Nat → Int) : List Int := (List.range zs.length).map (gainV zs W.toNat phase.toNat m)

set_option maxRecDepth 100000 in
set_option maxHeartbeats 1600000 in
theorem gain_any (W H : Int) (v : Value) (zs : List Int) (phase : Int) (m : Nat → Int) (w : World) (hv : IsInts w v zs) :
    Calls Try.prog 15 #[.agg #[.int .i64 W, .int .i64 H, v], .int .i64 phase, .agg (threeA m)] w fun e w' => ∃ r, e = .returned (.tuple #[.agg #[.int .i64 (okW (gaiE W H zs phase m) W), .int .i64 (okW (gaiE W H zs phase m) H), r], .int .i64 (gaiE W H zs phase m)]) ∧ IsInts w' r (okL (gaiE W H zs phase m) (gaiL W zs phase m)) ∧ Below w.heap.size w w' ∧ Fresh w.heap.size r := by
  have HV := hide hv
  obtain ⟨E, hE⟩ : ∃ E, gaiE W H zs phase m = E := ⟨_, rfl⟩
  rw [hE]
  by_cases hp : planeOk W H zs = true
  · by_cases hph : phaseOk phase = true
    · by_cases hgn : gainsOk m = true
      · have he : E = 0 := by rw [← hE, gaiE, if_pos hp, if_pos ⟨hph, hgn⟩]
        subst he
        clear hE
        obtain ⟨⟨w1, w2⟩, ⟨h1, h2⟩, hl, _⟩ := planeOk_parts hp
        have hz := planeOk_all hp
        have hph2 : 0 ≤ phase ∧ phase ≤ 3 := by simpa [phaseOk] using hph
        have HMM := hide (fun k (hk : k < 3) => arrL_all hgn k hk)
        have hsm := side_mul ⟨w1, w2⟩ ⟨h1, h2⟩
        have hn1 : 1 ≤ zs.length := by omega
        obtain ⟨bk, off, ca, rfl, hbk, hcell⟩ := hv.cells hn1
        obtain ⟨WN, rfl⟩ := Int.eq_ofNat_of_zero_le (show 0 ≤ W by omega)
        obtain ⟨HN, rfl⟩ := Int.eq_ofNat_of_zero_le (show 0 ≤ H by omega)
        obtain ⟨PN, rfl⟩ := Int.eq_ofNat_of_zero_le hph2.1
        have HLEN := hide (show zs.length = HN * WN by rw [Nat.mul_comm]; exact_mod_cast hl)
        have HZ := hide hz
        have HC := hide hcell
        rw [show okW 0 (WN : Int) = WN from rfl, show okW 0 (HN : Int) = HN from rfl, show okL 0 (gaiL (WN : Int) zs (PN : Int) m) = (List.range zs.length).map (gainV zs WN PN m) from rfl]
        clear hl hz hcell hsm hv
        go_enter Try.func15, Try.ntmps15
        go_wp2_with fail
        obtain ⟨a1, a2, a3, a4⟩ := al4 w (Obj.cells #[.int .i64 (WN : Nat), .int .i64 (HN : Nat), .slice (some ⟨bk, off, none⟩) zs.length ca] 24) (Obj.cells #[.int .i64 (PN : Nat)] 3) (Obj.cells (threeA m) 25) (Obj.cells #[.int .i64 0, .int .i64 0, .slice none 0 0] 24)
        have hB := be4 w (Obj.cells #[.int .i64 (WN : Nat), .int .i64 (HN : Nat), .slice (some ⟨bk, off, none⟩) zs.length ca] 24) (Obj.cells #[.int .i64 (PN : Nat)] 3) (Obj.cells (threeA m) 25) (Obj.cells #[.int .i64 0, .int .i64 0, .slice none 0 0] 24)
        have hs3 : ((((w.alloc (Obj.cells #[.int .i64 (WN : Nat), .int .i64 (HN : Nat), .slice (some ⟨bk, off, none⟩) zs.length ca] 24)).alloc (Obj.cells #[.int .i64 (PN : Nat)] 3)).alloc (Obj.cells (threeA m) 25)).alloc (Obj.cells #[.int .i64 0, .int .i64 0, .slice none 0 0] 24)).heap.size = w.heap.size + 4 := by simp
        generalize (((w.alloc (Obj.cells #[.int .i64 (WN : Nat), .int .i64 (HN : Nat), .slice (some ⟨bk, off, none⟩) zs.length ca] 24)).alloc (Obj.cells #[.int .i64 (PN : Nat)] 3)).alloc (Obj.cells (threeA m) 25)).alloc (Obj.cells #[.int .i64 0, .int .i64 0, .slice none 0 0] 24) = U at *
        refine (plane_any WN HN _ zs _ (HV.out.below hB (Nat.le_refl _))).mono ?_
        rintro e w1 ⟨rfl, hb1⟩
        rw [hp]
        have g4 := (hb1.block (w.heap.size + 3) (by omega)).trans a4
        have g2 := bx1 ((hb1.block (w.heap.size + 1) (by omega)).trans a2)
        go_wp2_with fail
        refine (phase_any _ _).mono ?_
        rintro e w2 ⟨rfl, hb2⟩
        rw [hph]
        clear g2
        replace hb2 := bel_trans hb1 hb2
        replace g4 := (hb2.block (w.heap.size + 3) (by omega)).trans a4
        obtain ⟨n0, n1, n2⟩ := cells3 (b := w.heap.size + 1 + 1) ((hb2.block (w.heap.size + 2) (by omega)).trans a3)
        go_wp2_with fail
        refine (gains_any m _).mono ?_
        rintro e w2b ⟨rfl, hb2b⟩
        rw [hgn]
        clear n0 n1 n2
        replace hb2 := bel_trans hb2 hb2b
        clear hb2b
        generalize w2b = w2 at *
        replace g4 := (hb2.block (w.heap.size + 3) (by omega)).trans a4
        obtain ⟨p0, p1, p2⟩ := cells3 ((hb2.block (w.heap.size) (by omega)).trans a1)
        go_wp2_with fail
        have hbG := bel_trans hb2 (bel_alloc w2 (Obj.cells #[.int .i64 (WN : Nat), .int .i64 (HN : Nat)] 91))
        have aG := al1 w2 (Obj.cells #[.int .i64 (WN : Nat), .int .i64 (HN : Nat)] 91)
        have hlG := (Array.getElem?_eq_some_iff.1 aG).1
        have hs2 := hb2.size
        clear p0 p1 p2
        generalize w2.alloc (Obj.cells #[.int .i64 (WN : Nat), .int .i64 (HN : Nat)] 91) = w2g at *
        refine (gridPlane_any WN HN zs.length (by omega) (by omega) HLEN.out 56 #[.pointer (some ⟨w.heap.size + 1, 0, none⟩), .pointer (some ⟨w.heap.size, 0, none⟩), .pointer (some ⟨w2.heap.size, 0, none⟩), .pointer (some ⟨w.heap.size + 1 + 1, 0, none⟩)] (gainV zs WN PN m) _ (enters_of Try.func56 (by kernel_rfl) rfl) ?_).mono ?_
        · intro j V hj hV
          have hb3 := bel_trans hbG hV
          have hbw := hB.trans (hb3.mono hB.size)
          obtain ⟨e0, e1, e2⟩ := cells3 ((hb3.block (w.heap.size) (by omega)).trans a1)
          have e3 := bx1 ((hb3.block (w.heap.size + 1) (by omega)).trans a2)
          have e6 := (hb3.block (w.heap.size + 2) (by omega)).trans a3
          obtain ⟨e4, e5⟩ := bx2 ((hV.block w2.heap.size hlG).trans aG)
          have hs := hb3.size
          have hsV := hV.size
          exact gain1_any WN HN j bk off ca (by omega) (by omega) (by omega) zs HLEN.out HZ.out hj PN (by omega) m (fun k hk => HMM.out k hk) (w.heap.size + 1) w.heap.size w2.heap.size (w.heap.size + 2) V (by omega) (by omega) (Nat.lt_of_lt_of_le hbk hbw.size) e2 e4 e5 (by omega) (by omega) e3 (fun k hk => by rw [Lib.cell_of_heap e6, threeA_get m k hk]) (fun i hi => (hbw.cell (p := ⟨bk, off + i, none⟩) hbk).trans (HC.out i hi))
        · rintro e w3 ⟨r, rfl, hr, hb3, hfr⟩
          replace hb3 := bel_trans hbG hb3
          replace g4 := (hb3.block (w.heap.size + 3) (by omega)).trans a4
          obtain ⟨z0, z1, z2⟩ := cells3 (b := w.heap.size + 1 + 1 + 1) g4
          have f0 := Lib.frozen_of_heap (b := w.heap.size + 1 + 1 + 1) g4 0
          have f1 := Lib.frozen_of_heap (b := w.heap.size + 1 + 1 + 1) g4 1
          have f2 := Lib.frozen_of_heap (b := w.heap.size + 1 + 1 + 1) g4 2
          have HR := hide hr
          obtain ⟨ro, rc, rfl, _, _⟩ := hr
          have HFIN := hide (set3_below (hB.trans (hb3.mono hB.size)) (show w.heap.size ≤ w.heap.size + 1 + 1 + 1 by omega) (.int .i64 (WN : Nat)) (.int .i64 (HN : Nat)) (.slice ro ((List.range zs.length).map (gainV zs WN PN m)).length rc))
          have hsG := hbG.size
          have HPX2 := hide (HR.out.set3 hfr (show w.heap.size + 1 + 1 + 1 < w2g.heap.size by omega) (.int .i64 (WN : Nat)) (.int .i64 (HN : Nat)) (.slice ro ((List.range zs.length).map (gainV zs WN PN m)).length rc))
          rw [List.length_map, List.length_range] at HPX2 HFIN hfr
          rw [List.length_map, List.length_range]
          go_wp2
          exact bodyPost_ret (v := .tuple #[.agg #[.int .i64 (WN : Nat), .int .i64 (HN : Nat), .slice ro zs.length rc], .int .i64 0]) (by simp [results, Try.results15, go_sem, z0, z1, z2]) rfl ⟨_, rfl, HPX2.out, HFIN.out, hfr.mono (by omega)⟩
      · have he : E = 3 := by rw [← hE, gaiE, if_pos hp, if_neg (fun h => hgn h.2)]
        have hgn : gainsOk m = false := by simpa using hgn
        subst he
        clear hE
        obtain ⟨ao, ca, rfl, _, _⟩ := hv
        go_enter Try.func15, Try.ntmps15
        go_wp2_with fail
        obtain ⟨a1, a2, a3, a4⟩ := al4 w (Obj.cells #[.int .i64 W, .int .i64 H, .slice ao zs.length ca] 24) (Obj.cells #[.int .i64 phase] 3) (Obj.cells (threeA m) 25) (Obj.cells #[.int .i64 0, .int .i64 0, .slice none 0 0] 24)
        have hB := be4 w (Obj.cells #[.int .i64 W, .int .i64 H, .slice ao zs.length ca] 24) (Obj.cells #[.int .i64 phase] 3) (Obj.cells (threeA m) 25) (Obj.cells #[.int .i64 0, .int .i64 0, .slice none 0 0] 24)
        have hs3 : ((((w.alloc (Obj.cells #[.int .i64 W, .int .i64 H, .slice ao zs.length ca] 24)).alloc (Obj.cells #[.int .i64 phase] 3)).alloc (Obj.cells (threeA m) 25)).alloc (Obj.cells #[.int .i64 0, .int .i64 0, .slice none 0 0] 24)).heap.size = w.heap.size + 4 := by simp
        generalize (((w.alloc (Obj.cells #[.int .i64 W, .int .i64 H, .slice ao zs.length ca] 24)).alloc (Obj.cells #[.int .i64 phase] 3)).alloc (Obj.cells (threeA m) 25)).alloc (Obj.cells #[.int .i64 0, .int .i64 0, .slice none 0 0] 24) = U at *
        refine (plane_any W H _ zs _ (HV.out.below hB (Nat.le_refl _))).mono ?_
        rintro e w1 ⟨rfl, hb1⟩
        rw [hp]
        have g4 := (hb1.block (w.heap.size + 3) (by omega)).trans a4
        have g2 := bx1 ((hb1.block (w.heap.size + 1) (by omega)).trans a2)
        go_wp2_with fail
        refine (phase_any _ _).mono ?_
        rintro e w2 ⟨rfl, hb2⟩
        rw [hph]
        clear g2
        replace hb2 := bel_trans hb1 hb2
        replace g4 := (hb2.block (w.heap.size + 3) (by omega)).trans a4
        obtain ⟨n0, n1, n2⟩ := cells3 (b := w.heap.size + 1 + 1) ((hb2.block (w.heap.size + 2) (by omega)).trans a3)
        go_wp2_with fail
        refine (gains_any m _).mono ?_
        rintro e w2b ⟨rfl, hb2b⟩
        rw [hgn]
        clear n0 n1 n2
        replace hb2 := bel_trans hb2 hb2b
        clear hb2b
        generalize w2b = w2 at *
        replace g4 := (hb2.block (w.heap.size + 3) (by omega)).trans a4
        obtain ⟨z0, z1, z2⟩ := cells3 (b := w.heap.size + 1 + 1 + 1) g4
        have f0 := Lib.frozen_of_heap (b := w.heap.size + 1 + 1 + 1) g4 0
        have f1 := Lib.frozen_of_heap (b := w.heap.size + 1 + 1 + 1) g4 1
        have f2 := Lib.frozen_of_heap (b := w.heap.size + 1 + 1 + 1) g4 2
        have HFIN := hide (set3_below (hB.trans (hb2.mono hB.size)) (show w.heap.size ≤ w.heap.size + 1 + 1 + 1 by omega) (.int .i64 0) (.int .i64 0) (.slice none 0 0))
        go_wp2
        exact bodyPost_ret (v := .tuple #[.agg #[.int .i64 0, .int .i64 0, .slice none 0 0], .int .i64 3]) (by simp [results, Try.results15, go_sem, z0, z1, z2]) rfl ⟨.slice none 0 0, rfl, IsInts.nil _, HFIN.out, Fresh.nil _⟩
    · have he : E = 3 := by rw [← hE, gaiE, if_pos hp, if_neg (fun h => hph h.1)]
      have hph : phaseOk phase = false := by simpa using hph
      subst he
      clear hE
      obtain ⟨ao, ca, rfl, _, _⟩ := hv
      go_enter Try.func15, Try.ntmps15
      go_wp2_with fail
      obtain ⟨a1, a2, a3, a4⟩ := al4 w (Obj.cells #[.int .i64 W, .int .i64 H, .slice ao zs.length ca] 24) (Obj.cells #[.int .i64 phase] 3) (Obj.cells (threeA m) 25) (Obj.cells #[.int .i64 0, .int .i64 0, .slice none 0 0] 24)
      have hB := be4 w (Obj.cells #[.int .i64 W, .int .i64 H, .slice ao zs.length ca] 24) (Obj.cells #[.int .i64 phase] 3) (Obj.cells (threeA m) 25) (Obj.cells #[.int .i64 0, .int .i64 0, .slice none 0 0] 24)
      have hs3 : ((((w.alloc (Obj.cells #[.int .i64 W, .int .i64 H, .slice ao zs.length ca] 24)).alloc (Obj.cells #[.int .i64 phase] 3)).alloc (Obj.cells (threeA m) 25)).alloc (Obj.cells #[.int .i64 0, .int .i64 0, .slice none 0 0] 24)).heap.size = w.heap.size + 4 := by simp
      generalize (((w.alloc (Obj.cells #[.int .i64 W, .int .i64 H, .slice ao zs.length ca] 24)).alloc (Obj.cells #[.int .i64 phase] 3)).alloc (Obj.cells (threeA m) 25)).alloc (Obj.cells #[.int .i64 0, .int .i64 0, .slice none 0 0] 24) = U at *
      refine (plane_any W H _ zs _ (HV.out.below hB (Nat.le_refl _))).mono ?_
      rintro e w1 ⟨rfl, hb1⟩
      rw [hp]
      have g4 := (hb1.block (w.heap.size + 3) (by omega)).trans a4
      have g2 := bx1 ((hb1.block (w.heap.size + 1) (by omega)).trans a2)
      go_wp2_with fail
      refine (phase_any _ _).mono ?_
      rintro e w2 ⟨rfl, hb2⟩
      rw [hph]
      clear g2
      replace hb2 := bel_trans hb1 hb2
      replace g4 := (hb2.block (w.heap.size + 3) (by omega)).trans a4
      obtain ⟨z0, z1, z2⟩ := cells3 (b := w.heap.size + 1 + 1 + 1) g4
      have f0 := Lib.frozen_of_heap (b := w.heap.size + 1 + 1 + 1) g4 0
      have f1 := Lib.frozen_of_heap (b := w.heap.size + 1 + 1 + 1) g4 1
      have f2 := Lib.frozen_of_heap (b := w.heap.size + 1 + 1 + 1) g4 2
      have HFIN := hide (set3_below (hB.trans (hb2.mono hB.size)) (show w.heap.size ≤ w.heap.size + 1 + 1 + 1 by omega) (.int .i64 0) (.int .i64 0) (.slice none 0 0))
      go_wp2
      exact bodyPost_ret (v := .tuple #[.agg #[.int .i64 0, .int .i64 0, .slice none 0 0], .int .i64 3]) (by simp [results, Try.results15, go_sem, z0, z1, z2]) rfl ⟨.slice none 0 0, rfl, IsInts.nil _, HFIN.out, Fresh.nil _⟩
  · have he : E = 1 := by rw [← hE, gaiE, if_neg hp]
    have hp : planeOk W H zs = false := by simpa using hp
    subst he
    clear hE
    obtain ⟨ao, ca, rfl, _, _⟩ := hv
    go_enter Try.func15, Try.ntmps15
    go_wp2_with fail
    obtain ⟨a1, a2, a3, a4⟩ := al4 w (Obj.cells #[.int .i64 W, .int .i64 H, .slice ao zs.length ca] 24) (Obj.cells #[.int .i64 phase] 3) (Obj.cells (threeA m) 25) (Obj.cells #[.int .i64 0, .int .i64 0, .slice none 0 0] 24)
    have hB := be4 w (Obj.cells #[.int .i64 W, .int .i64 H, .slice ao zs.length ca] 24) (Obj.cells #[.int .i64 phase] 3) (Obj.cells (threeA m) 25) (Obj.cells #[.int .i64 0, .int .i64 0, .slice none 0 0] 24)
    have hs3 : ((((w.alloc (Obj.cells #[.int .i64 W, .int .i64 H, .slice ao zs.length ca] 24)).alloc (Obj.cells #[.int .i64 phase] 3)).alloc (Obj.cells (threeA m) 25)).alloc (Obj.cells #[.int .i64 0, .int .i64 0, .slice none 0 0] 24)).heap.size = w.heap.size + 4 := by simp
    generalize (((w.alloc (Obj.cells #[.int .i64 W, .int .i64 H, .slice ao zs.length ca] 24)).alloc (Obj.cells #[.int .i64 phase] 3)).alloc (Obj.cells (threeA m) 25)).alloc (Obj.cells #[.int .i64 0, .int .i64 0, .slice none 0 0] 24) = U at *
    refine (plane_any W H _ zs _ (HV.out.below hB (Nat.le_refl _))).mono ?_
    rintro e w1 ⟨rfl, hb1⟩
    rw [hp]
    have g4 := (hb1.block (w.heap.size + 3) (by omega)).trans a4
    generalize w1 = w2 at *
    have hb2 := hb1
    obtain ⟨z0, z1, z2⟩ := cells3 (b := w.heap.size + 1 + 1 + 1) g4
    have f0 := Lib.frozen_of_heap (b := w.heap.size + 1 + 1 + 1) g4 0
    have f1 := Lib.frozen_of_heap (b := w.heap.size + 1 + 1 + 1) g4 1
    have f2 := Lib.frozen_of_heap (b := w.heap.size + 1 + 1 + 1) g4 2
    have HFIN := hide (set3_below (hB.trans (hb2.mono hB.size)) (show w.heap.size ≤ w.heap.size + 1 + 1 + 1 by omega) (.int .i64 0) (.int .i64 0) (.slice none 0 0))
    go_wp2
    exact bodyPost_ret (v := .tuple #[.agg #[.int .i64 0, .int .i64 0, .slice none 0 0], .int .i64 1]) (by simp [results, Try.results15, go_sem, z0, z1, z2]) rfl ⟨.slice none 0 0, rfl, IsInts.nil _, HFIN.out, Fresh.nil _⟩

end Go.Proofs.Ytolcndchfnifhab

/- The reference's GainError. -/
namespace Go.Proofs.Ytolcndchfnifhab
set_option linter.unusedVariables false
open Go.RowKit

set_option maxRecDepth 100000 in
set_option maxHeartbeats 1600000 in
theorem gainError_any (W H : Int) (v : Value) (zs : List Int) (phase : Int) (m : Nat → Int) (w : World) (hv : IsInts w v zs) :
    Calls Try.prog 16 #[.agg #[.int .i64 W, .int .i64 H, v], .int .i64 phase, .agg (threeA m)] w fun e w' => e = .returned (.int .i64 (gaiE W H zs phase m)) ∧ Below w.heap.size w w' := by
  have HV := hide hv
  obtain ⟨ao, ca, rfl, _, _⟩ := hv
  have HA := hide (show arrL m 3 = [m 0, m 1, m 2] from rfl)
  obtain ⟨E, hE⟩ : ∃ E, gaiE W H zs phase m = E := ⟨_, rfl⟩
  rw [hE]
  have hgd : gainsOk m = (decide (0 ≤ m 0 ∧ m 0 ≤ 65535) && (decide (0 ≤ m 1 ∧ m 1 ≤ 65535) && decide (0 ≤ m 2 ∧ m 2 ≤ 65535))) := by rw [gainsOk, HA.out]; simp [allIn]
  rw [gaiE, hgd] at hE
  clear hgd HA
  have HB := hide (be2 w (Obj.cells #[.int .i64 W, .int .i64 H, .slice ao zs.length ca] 24) (Obj.cells (threeA m) 25))
  obtain ⟨a1, a2⟩ := al2 w (Obj.cells #[.int .i64 W, .int .i64 H, .slice ao zs.length ca] 24) (Obj.cells (threeA m) 25)
  cases hp : planeOk W H zs
  · have HE := hide (show (1 : Int) = E by rw [← hE, hp]; rfl)
    go_enter Try.func16, Try.ntmps16
    go_wp2_with fail
    have hl2 := (Array.getElem?_eq_some_iff.1 a2).1
    generalize (w.alloc (Obj.cells #[.int .i64 W, .int .i64 H, .slice ao zs.length ca] 24)).alloc (Obj.cells (threeA m) 25) = U at *
    refine (planeFine_any W H _ zs _ (HV.out.below HB.out (Nat.le_refl _))).mono ?_
    rintro e w1 ⟨rfl, hb1⟩
    rw [hp]
    have HFIN := hide (HB.out.trans (hb1.mono HB.out.size))
    obtain ⟨c0, c1, c2⟩ := cells3 ((hb1.block _ hl2).trans a2)
    go_wp2
    go_ret
    exact ⟨ret_int HE.out, HFIN.out⟩
  · rw [hp, phaseOk] at hE
    cases hd0 : decide (0 ≤ phase ∧ phase ≤ 3)
    · have HE := hide (show (3 : Int) = E by rw [← hE, hd0]; simp)
      go_enter Try.func16, Try.ntmps16
      go_wp2_with fail
      have hl2 := (Array.getElem?_eq_some_iff.1 a2).1
      generalize (w.alloc (Obj.cells #[.int .i64 W, .int .i64 H, .slice ao zs.length ca] 24)).alloc (Obj.cells (threeA m) 25) = U at *
      refine (planeFine_any W H _ zs _ (HV.out.below HB.out (Nat.le_refl _))).mono ?_
      rintro e w1 ⟨rfl, hb1⟩
      rw [hp]
      have HFIN := hide (HB.out.trans (hb1.mono HB.out.size))
      obtain ⟨c0, c1, c2⟩ := cells3 ((hb1.block _ hl2).trans a2)
      go_wp2_with fail
      refine (within_any _ _ _ _).mono ?_
      rintro e wx ⟨rfl, rfl⟩
      rw [hd0]
      go_wp2
      go_ret
      exact ⟨ret_int HE.out, HFIN.out⟩
    · have hx0 := trivial
      cases hd1 : decide (0 ≤ m 0 ∧ m 0 ≤ 65535)
      · have HE := hide (show (3 : Int) = E by rw [← hE, hd0, hd1]; simp)
        go_enter Try.func16, Try.ntmps16
        go_wp2_with fail
        have hl2 := (Array.getElem?_eq_some_iff.1 a2).1
        generalize (w.alloc (Obj.cells #[.int .i64 W, .int .i64 H, .slice ao zs.length ca] 24)).alloc (Obj.cells (threeA m) 25) = U at *
        refine (planeFine_any W H _ zs _ (HV.out.below HB.out (Nat.le_refl _))).mono ?_
        rintro e w1 ⟨rfl, hb1⟩
        rw [hp]
        have HFIN := hide (HB.out.trans (hb1.mono HB.out.size))
        obtain ⟨c0, c1, c2⟩ := cells3 ((hb1.block _ hl2).trans a2)
        go_wp2_with fail
        refine (within_any _ _ _ _).mono ?_
        rintro e wx ⟨rfl, rfl⟩
        rw [hd0]
        go_wp2_with fail
        refine (within_any _ _ _ _).mono ?_
        rintro e wx ⟨rfl, rfl⟩
        rw [hd1]
        go_wp2
        go_ret
        exact ⟨ret_int HE.out, HFIN.out⟩
      · have hx1 := trivial
        cases hd2 : decide (0 ≤ m 1 ∧ m 1 ≤ 65535)
        · have HE := hide (show (3 : Int) = E by rw [← hE, hd0, hd1, hd2]; simp)
          go_enter Try.func16, Try.ntmps16
          go_wp2_with fail
          have hl2 := (Array.getElem?_eq_some_iff.1 a2).1
          generalize (w.alloc (Obj.cells #[.int .i64 W, .int .i64 H, .slice ao zs.length ca] 24)).alloc (Obj.cells (threeA m) 25) = U at *
          refine (planeFine_any W H _ zs _ (HV.out.below HB.out (Nat.le_refl _))).mono ?_
          rintro e w1 ⟨rfl, hb1⟩
          rw [hp]
          have HFIN := hide (HB.out.trans (hb1.mono HB.out.size))
          obtain ⟨c0, c1, c2⟩ := cells3 ((hb1.block _ hl2).trans a2)
          go_wp2_with fail
          refine (within_any _ _ _ _).mono ?_
          rintro e wx ⟨rfl, rfl⟩
          rw [hd0]
          go_wp2_with fail
          refine (within_any _ _ _ _).mono ?_
          rintro e wx ⟨rfl, rfl⟩
          rw [hd1]
          go_wp2_with fail
          refine (within_any _ _ _ _).mono ?_
          rintro e wx ⟨rfl, rfl⟩
          rw [hd2]
          go_wp2
          go_ret
          exact ⟨ret_int HE.out, HFIN.out⟩
        · have hx2 := trivial
          cases hd3 : decide (0 ≤ m 2 ∧ m 2 ≤ 65535)
          · have HE := hide (show (3 : Int) = E by rw [← hE, hd0, hd1, hd2, hd3]; simp)
            go_enter Try.func16, Try.ntmps16
            go_wp2_with fail
            have hl2 := (Array.getElem?_eq_some_iff.1 a2).1
            generalize (w.alloc (Obj.cells #[.int .i64 W, .int .i64 H, .slice ao zs.length ca] 24)).alloc (Obj.cells (threeA m) 25) = U at *
            refine (planeFine_any W H _ zs _ (HV.out.below HB.out (Nat.le_refl _))).mono ?_
            rintro e w1 ⟨rfl, hb1⟩
            rw [hp]
            have HFIN := hide (HB.out.trans (hb1.mono HB.out.size))
            obtain ⟨c0, c1, c2⟩ := cells3 ((hb1.block _ hl2).trans a2)
            go_wp2_with fail
            refine (within_any _ _ _ _).mono ?_
            rintro e wx ⟨rfl, rfl⟩
            rw [hd0]
            go_wp2_with fail
            refine (within_any _ _ _ _).mono ?_
            rintro e wx ⟨rfl, rfl⟩
            rw [hd1]
            go_wp2_with fail
            refine (within_any _ _ _ _).mono ?_
            rintro e wx ⟨rfl, rfl⟩
            rw [hd2]
            go_wp2_with fail
            refine (within_any _ _ _ _).mono ?_
            rintro e wx ⟨rfl, rfl⟩
            rw [hd3]
            go_wp2
            go_ret
            exact ⟨ret_int HE.out, HFIN.out⟩
          · have HE := hide (show (0 : Int) = E by rw [← hE, hd0, hd1, hd2, hd3]; simp)
            go_enter Try.func16, Try.ntmps16
            go_wp2_with fail
            have hl2 := (Array.getElem?_eq_some_iff.1 a2).1
            generalize (w.alloc (Obj.cells #[.int .i64 W, .int .i64 H, .slice ao zs.length ca] 24)).alloc (Obj.cells (threeA m) 25) = U at *
            refine (planeFine_any W H _ zs _ (HV.out.below HB.out (Nat.le_refl _))).mono ?_
            rintro e w1 ⟨rfl, hb1⟩
            rw [hp]
            have HFIN := hide (HB.out.trans (hb1.mono HB.out.size))
            obtain ⟨c0, c1, c2⟩ := cells3 ((hb1.block _ hl2).trans a2)
            go_wp2_with fail
            refine (within_any _ _ _ _).mono ?_
            rintro e wx ⟨rfl, rfl⟩
            rw [hd0]
            go_wp2_with fail
            refine (within_any _ _ _ _).mono ?_
            rintro e wx ⟨rfl, rfl⟩
            rw [hd1]
            go_wp2_with fail
            refine (within_any _ _ _ _).mono ?_
            rintro e wx ⟨rfl, rfl⟩
            rw [hd2]
            go_wp2_with fail
            refine (within_any _ _ _ _).mono ?_
            rintro e wx ⟨rfl, rfl⟩
            rw [hd3]
            go_wp2
            go_ret
            exact ⟨ret_int HE.out, HFIN.out⟩

end Go.Proofs.Ytolcndchfnifhab

/- grid: the four places two columns, or rows, from one, as the loop over a function gets them. -/
namespace Go.Proofs.Ytolcndchfnifhab
open Go.RowKit Go.Shelf

attribute [local go_sem] Oper.semAt_some

/-- the k-th of the four: how far it is. -/
def crDx (k : Nat) : Int := if k = 1 then -2 else if k = 2 then 2 else 0
def crDy (k : Nat) : Int := if k = 0 then -2 else if k = 3 then 2 else 0
def crX (X : Nat) (x : Fin 4) : Int := (X : Int) + crDx x.1
def crY (Y : Nat) (x : Fin 4) : Int := (Y : Int) + crDy x.1
theorem cr0 (w : World) : (Instr.index 144 (.agg #[.int .i64 0, .int .i64 (-2), .int .i64 (-2), .int .i64 0, .int .i64 2, .int .i64 0, .int .i64 0, .int .i64 2]) (.int .i64 0)).run Try.prog w = .ok (.agg #[.int .i64 0, .int .i64 (-2)]) w := by kernel_rfl
theorem cr1 (w : World) : (Instr.index 144 (.agg #[.int .i64 0, .int .i64 (-2), .int .i64 (-2), .int .i64 0, .int .i64 2, .int .i64 0, .int .i64 0, .int .i64 2]) (.int .i64 1)).run Try.prog w = .ok (.agg #[.int .i64 (-2), .int .i64 0]) w := by kernel_rfl
theorem cr2 (w : World) : (Instr.index 144 (.agg #[.int .i64 0, .int .i64 (-2), .int .i64 (-2), .int .i64 0, .int .i64 2, .int .i64 0, .int .i64 0, .int .i64 2]) (.int .i64 2)).run Try.prog w = .ok (.agg #[.int .i64 2, .int .i64 0]) w := by kernel_rfl
theorem cr3 (w : World) : (Instr.index 144 (.agg #[.int .i64 0, .int .i64 (-2), .int .i64 (-2), .int .i64 0, .int .i64 2, .int .i64 0, .int .i64 0, .int .i64 2]) (.int .i64 3)).run Try.prog w = .ok (.agg #[.int .i64 0, .int .i64 2]) w := by kernel_rfl
theorem crAt (k : Nat) (hk : k < 4) (w : World) : (Instr.index 144 (.agg #[.int .i64 0, .int .i64 (-2), .int .i64 (-2), .int .i64 0, .int .i64 2, .int .i64 0, .int .i64 0, .int .i64 2]) (.int .i64 k)).run Try.prog w = .ok (.agg #[.int .i64 (crDx k), .int .i64 (crDy k)]) w := by
  rcases (show k = 0 ∨ k = 1 ∨ k = 2 ∨ k = 3 by omega) with rfl | rfl | rfl | rfl
  · exact cr0 w
  · exact cr1 w
  · exact cr2 w
  · exact cr3 w
theorem crDx_ok (k : Nat) : -2 ≤ crDx k ∧ crDx k ≤ 2 := by unfold crDx; split <;> (try split) <;> omega
theorem crDy_ok (k : Nat) : -2 ≤ crDy k ∧ crDy k ≤ 2 := by unfold crDy; split <;> (try split) <;> omega

theorem cross_in (F : Fence) (n : Nat) (hf : F.fn 109) (hro : F.round = none) (X Y far : Int) (w : World) :
    CallsIn F n Try.prog 109 #[.agg #[.int .i64 X, .int .i64 Y], .int .i64 far] w fun e w' => e = .returned (.func (.func 118) #[] #[.pointer (some ⟨w.heap.size + 1, 0, none⟩), .pointer (some ⟨w.heap.size, 0, none⟩)]) ∧ w' = (w.alloc (.cells #[.int .i64 X, .int .i64 Y] 93)).alloc (.cells #[.int .i64 far] 3) := by
  refine callsIn_of_wp Try.func109 rfl hf ?_ hro
  simp only [Try.ntmps109, List.size_toArray, List.length_cons, List.length_nil, Nat.reduceAdd, Nat.reduceSub, Array.replicate_succ, Array.replicate_zero, List.push_toArray, List.append_toArray, List.nil_append, List.cons_append]
  gi_wp2
  go_ret
  exact ⟨rfl, rfl⟩

set_option maxRecDepth 100000 in
set_option maxHeartbeats 1600000 in
theorem cross1_in (F : Fence) (n : Nat) (hf : F.fn 118) (hro : F.round = none) (hn : 1 ≤ n) (l Bs Bf X Y : Nat) (hX : X ≤ 64) (hY0 : Y ≤ 64) (J Jx : List (Fin 4) → World → Prop) (hJa : ∀ s W o, J s W → J s (W.alloc o))
    (hY : ∀ pre (x : Fin 4) V, J pre V → pre.length < 4 → YieldAt F (n - 1) Try.prog l #[.agg #[.int .i64 (crX X x), .int .i64 (crY Y x)]] V fun e V' =>
      (e = .returned (.bool true) ∧ J (pre ++ [x]) V' ∧ KeepB Bs V V') ∨ (e = .returned (.bool false) ∧ Jx (pre ++ [x]) V'))
    (V : World) (hcf : V.cell? ⟨Bf, 0, none⟩ = some (.int .i64 2)) (hc0 : V.cell? ⟨Bs, 0, none⟩ = some (.int .i64 X)) (hc1 : V.cell? ⟨Bs, 1, none⟩ = some (.int .i64 Y)) (h0 : J [] V) :
    CallsIn F n Try.prog 118 #[.func (.yield l) #[] #[], .pointer (some ⟨Bf, 0, none⟩), .pointer (some ⟨Bs, 0, none⟩)] V fun e V' => (∃ v, e = .returned v) ∧
      ((∃ ys, ys = List.finRange 4 ∧ J ys V') ∨ (∃ pre, pre <+: List.finRange 4 ∧ Jx pre V')) := by
  refine callsIn_of_wp Try.func118 rfl hf ?_ hro
  simp only [Try.ntmps118, List.size_toArray, List.length_cons, List.length_nil, Nat.reduceAdd, Nat.reduceSub, Array.replicate_succ, Array.replicate_zero, List.push_toArray, List.append_toArray, List.nil_append, List.cons_append]
  gi_wp2
  gi_loopw [17] (fun i wr => ∃ (b : Nat), b ≤ 4 ∧ i = .int .i64 b ∧ J (idx 4 b) wr ∧ wr.cell? ⟨Bs, 0, none⟩ = some (.int .i64 X) ∧ wr.cell? ⟨Bs, 1, none⟩ = some (.int .i64 Y)) (fun i _ => 4 - (intOf i).toNat)
  case atStart => exact ⟨0, by omega, rfl, h0, hc0, hc1⟩
  case round =>
    obtain ⟨b, hb, rfl, hJ, c0, c1⟩ := hrel
    clear hc0 hc1 h0 hcf
    have hbs : Bs < wr.heap.size := World.block_lt_of_cell? wr _ c0
    by_cases hlt : b < 4
    · have hd : decide ((b : Int) < 4) = true := by simp; omega
      have hix := crAt b hlt
      have hdx := crDx_ok b
      have hdy := crDy_ok b
      have hYx := hY (idx 4 b) ⟨b, hlt⟩ (wr.alloc (Obj.cells #[.int .i64 (crDx b), .int .i64 (crDy b)] 93)) (hJa _ _ _ hJ) (by rw [idx_length _ _ (Nat.le_of_lt hlt)]; exact hlt)
      simp only [crX, crY] at hYx
      have k0 := (World.cell?_of_block (a := ⟨Bs, 0, none⟩) (Below.heap_alloc wr (Obj.cells #[.int .i64 (crDx b), .int .i64 (crDy b)] 93) Bs hbs)).trans c0
      have k1 := (World.cell?_of_block (a := ⟨Bs, 1, none⟩) (Below.heap_alloc wr (Obj.cells #[.int .i64 (crDx b), .int .i64 (crDy b)] 93) Bs hbs)).trans c1
      have HSP := hide (show idx 4 (b + 1) = idx 4 b ++ [⟨b, hlt⟩] from idx_succ 4 b hlt)
      have HPR := hide (show idx 4 b ++ [⟨b, hlt⟩] <+: List.finRange 4 by rw [← idx_succ 4 _ hlt]; exact idx_prefix 4 _)
      obtain ⟨dx, hdxe⟩ : ∃ dx, crDx b = dx := ⟨_, rfl⟩
      obtain ⟨dy, hdye⟩ : ∃ dy, crDy b = dy := ⟨_, rfl⟩
      rw [hdxe] at hix hdx hYx k0 k1
      rw [hdye] at hix hdy hYx k0 k1
      obtain ⟨hdx1, hdx2⟩ := hdx
      obtain ⟨hdy1, hdy2⟩ := hdy
      obtain ⟨fn, tmps, assign, body, hy', hR⟩ := hYx
      clear hdxe hdye
      gi_wp2
      refine hR.mono ?_
      rintro e V3 (⟨rfl, hJ3, hk3⟩ | ⟨rfl, hJx3⟩)
      · have c3 := (World.cell?_of_block (a := ⟨Bs, 0, none⟩) hk3).trans k0
        have c4 := (World.cell?_of_block (a := ⟨Bs, 1, none⟩) hk3).trans k1
        rw [← HSP.out] at hJ3
        gi_wp2
        go_roundw
        case rel => exact ⟨b + 1, by omega, by go_num, hJ3, c3, c4⟩
        case measure => simp [intOf]; omega
      · gi_wp2
        refine bodyPost_ret (results_none rfl _ _ _) rfl ?_
        exact ⟨⟨_, rfl⟩, .inr ⟨_, HPR.out, hJx3⟩⟩
    · obtain rfl : b = 4 := by omega
      have hd : decide (((4 : Nat) : Int) < 4) = false := by simp
      gi_wp2
      go_end0
      exact ⟨⟨_, rfl⟩, .inl ⟨_, by rw [← idx_all], hJ⟩⟩

theorem cross_stops (F : Fence) (n : Nat) (hf : F.fn 118) (hro : F.round = none) (hn : 1 ≤ n) (Bs Bf X Y : Nat) (hX : X ≤ 64) (hY0 : Y ≤ 64) (w : World) (hBw : Bs < w.heap.size) (hBf : Bf < w.heap.size) (hcf : w.cell? ⟨Bf, 0, none⟩ = some (.int .i64 2))
    (hc0 : w.cell? ⟨Bs, 0, none⟩ = some (.int .i64 X)) (hc1 : w.cell? ⟨Bs, 1, none⟩ = some (.int .i64 Y)) :
    SeqStopsK F n Try.prog 118 #[.pointer (some ⟨Bf, 0, none⟩), .pointer (some ⟨Bs, 0, none⟩)] (fun x : Fin 4 => #[Value.agg #[.int .i64 (crX X x), .int .i64 (crY Y x)]]) (KeepB Bs) (fun ys => ys = List.finRange 4) (fun pre => pre <+: List.finRange 4) 4 w := fun l J Jx V hV hJ _ hY h0 =>
  cross1_in F n hf hro hn l Bs Bf X Y hX hY0 J Jx (fun s W o h => hJ s W (W.alloc o) none h (World.grownBy_alloc W o none) (fun r e => by cases e)) hY V ((hV.cell (p := ⟨Bf, 0, none⟩) hBf).trans hcf) ((hV.cell (p := ⟨Bs, 0, none⟩) hBw).trans hc0) ((hV.cell (p := ⟨Bs, 1, none⟩) hBw).trans hc1) h0

end Go.Proofs.Ytolcndchfnifhab

/- Curves: the mathematics. -/
namespace Go.Proofs.Ytolcndchfnifhab

abbrev Pt := Int × Int
def ptAt (ls : List Pt) (i : Nat) : Pt := ls.getD i (0, 0)
theorem ptAt_get (ls : List Pt) (i : Nat) (h : i < ls.length) : ls[i] = ptAt ls i := by simp [ptAt, List.getD_eq_getElem?_getD, List.getElem?_eq_getElem h]
/-- the point i is right, beside the one ahead of it. -/
def ptY (ls : List Pt) (i : Nat) : Bool := decide (0 ≤ (ptAt ls i).2 ∧ (ptAt ls i).2 ≤ 65535)
def ptStep (ls : List Pt) (i : Nat) : Bool := decide (0 < i → (ptAt ls (i - 1)).1 < (ptAt ls i).1 ∧ (ptAt ls (i - 1)).2 ≤ (ptAt ls i).2)
def ptsOk (ls : List Pt) (k : Nat) : Bool := (List.range k).all fun i => ptY ls i && ptStep ls i
def endsOk (ls : List Pt) : Bool := decide (2 ≤ (ls.length : Int) ∧ (ls.length : Int) ≤ 16) && decide ((ptAt ls 0).1 = 0) && decide ((ptAt ls (ls.length - 1)).1 = 65535)
def curveOk (ls : List Pt) : Bool := endsOk ls && ptsOk ls ls.length

theorem ptsOk_succ (ls : List Pt) (k : Nat) : ptsOk ls (k + 1) = (ptsOk ls k && (ptY ls k && ptStep ls k)) := by simp [ptsOk, List.range_succ]
theorem ptsOk_false (ls : List Pt) (k n : Nat) (h : k < n) (hf : (ptY ls k && ptStep ls k) = false) : ptsOk ls n = false := by
  rw [Bool.eq_false_iff]; intro he
  have := List.all_eq_true.1 he k (List.mem_range.2 h)
  rw [hf] at this; cases this
theorem ptsOk_get {ls : List Pt} {n : Nat} (h : ptsOk ls n = true) (k : Nat) (hk : k < n) : (0 ≤ (ptAt ls k).2 ∧ (ptAt ls k).2 ≤ 65535) ∧ (0 < k → (ptAt ls (k - 1)).1 < (ptAt ls k).1 ∧ (ptAt ls (k - 1)).2 ≤ (ptAt ls k).2) := by
  have := List.all_eq_true.1 h k (List.mem_range.2 hk)
  rw [Bool.and_eq_true] at this
  exact ⟨of_decide_eq_true this.1, of_decide_eq_true this.2⟩

structure IsCurve (ls : List Pt) : Prop where
  two : 2 ≤ ls.length
  most : ls.length ≤ 16
  first : (ptAt ls 0).1 = 0
  last : (ptAt ls (ls.length - 1)).1 = 65535
  y : ∀ k, k < ls.length → 0 ≤ (ptAt ls k).2 ∧ (ptAt ls k).2 ≤ 65535
  step : ∀ k, k + 1 < ls.length → (ptAt ls k).1 < (ptAt ls (k + 1)).1 ∧ (ptAt ls k).2 ≤ (ptAt ls (k + 1)).2

theorem isCurve_of {ls : List Pt} (h : curveOk ls = true) : IsCurve ls := by
  rw [curveOk, endsOk, Bool.and_eq_true, Bool.and_eq_true, Bool.and_eq_true] at h
  obtain ⟨⟨⟨h1, h2⟩, h3⟩, h4⟩ := h
  have h1 := of_decide_eq_true h1
  exact ⟨by omega, by omega, of_decide_eq_true h2, of_decide_eq_true h3, fun k hk => (ptsOk_get h4 k hk).1, fun k hk => (ptsOk_get h4 (k + 1) hk).2 (by omega)⟩

theorem IsCurve.lt {ls : List Pt} (h : IsCurve ls) (i d : Nat) (hj : i + d + 1 < ls.length) : (ptAt ls i).1 < (ptAt ls (i + d + 1)).1 ∧ (ptAt ls i).2 ≤ (ptAt ls (i + d + 1)).2 := by
  induction d with
  | zero => exact h.step i hj
  | succ d ih =>
    have h1 := ih (by omega)
    have h2 := h.step (i + d + 1) (by omega)
    rw [show i + (d + 1) + 1 = i + d + 1 + 1 by omega]
    omega
theorem IsCurve.x {ls : List Pt} (h : IsCurve ls) (k : Nat) (hk : k < ls.length) : 0 ≤ (ptAt ls k).1 ∧ (ptAt ls k).1 ≤ 65535 := by
  have h1 := h.first
  have h2 := h.last
  have h3 := h.two
  constructor
  · rcases Nat.eq_zero_or_pos k with rfl | hp
    · omega
    · have := (h.lt 0 (k - 1) (by omega)).1
      rw [show 0 + (k - 1) + 1 = k by omega] at this
      omega
  · rcases Nat.eq_or_lt_of_le (show k ≤ ls.length - 1 by omega) with e | hlt
    · rw [e]; omega
    · have := (h.lt k (ls.length - 1 - k - 1) (by omega)).1
      rw [show k + (ls.length - 1 - k - 1) + 1 = ls.length - 1 by omega] at this
      omega

/-- how high the curve is between the point ahead of i and i. -/
def between (ls : List Pt) (i : Nat) (x : Int) : Int := (ptAt ls (i - 1)).2 + ((ptAt ls i).2 - (ptAt ls (i - 1)).2) * (x - (ptAt ls (i - 1)).1) / ((ptAt ls i).1 - (ptAt ls (i - 1)).1)
/-- the first point that is not ahead of x. -/
def isAt (ls : List Pt) (x : Int) (i : Nat) : Prop := i < ls.length ∧ x ≤ (ptAt ls i).1 ∧ ∀ j, j < i → (ptAt ls j).1 < x
def firstAt (ls : List Pt) (x : Int) : Nat := ls.findIdx fun p => decide (x ≤ p.1)
def heightV (ls : List Pt) (x : Int) : Int := if (ptAt ls (firstAt ls x)).1 = x then (ptAt ls (firstAt ls x)).2 else between ls (firstAt ls x) x
theorem isAt_first {ls : List Pt} {x : Int} {i : Nat} (h : isAt ls x i) : firstAt ls x = i := by
  rw [firstAt, List.findIdx_eq h.1]
  refine ⟨by rw [ptAt_get ls i h.1]; simpa using h.2.1, fun j hj => ?_⟩
  have := h.2.2 j hj
  rw [ptAt_get ls j (by have := h.1; omega)]
  simp; omega
theorem heightV_eq {ls : List Pt} {x : Int} {i : Nat} (h : isAt ls x i) : heightV ls x = if (ptAt ls i).1 = x then (ptAt ls i).2 else between ls i x := by
  rw [heightV, isAt_first h]
theorem between_end {ls : List Pt} (h : IsCurve ls) (i : Nat) (hi : i + 1 < ls.length) : between ls (i + 1) (ptAt ls (i + 1)).1 = (ptAt ls (i + 1)).2 ∧ between ls (i + 1) (ptAt ls i).1 = (ptAt ls i).2 := by
  have hs := (h.step i hi).1
  have hd : (ptAt ls (i + 1)).1 - (ptAt ls i).1 ≠ 0 := by omega
  constructor
  · rw [between, Nat.add_sub_cancel, Int.mul_ediv_cancel _ hd]; omega
  · rw [between, Nat.add_sub_cancel, Int.sub_self, Int.mul_zero, Int.zero_ediv]; omega
/-- the reference's way: from the second point on. -/
theorem heightV_ref {ls : List Pt} (h : IsCurve ls) {x : Int} (h0 : 0 ≤ x) {i : Nat} (hi : 1 ≤ i) (hl : i < ls.length) (hx : x ≤ (ptAt ls i).1) (hj : ∀ j, 1 ≤ j → j < i → (ptAt ls j).1 < x) : heightV ls x = between ls i x := by
  by_cases hz : x = 0
  · subst hz
    have hf := h.first
    have hi1 : i = 1 := by
      rcases Nat.eq_or_lt_of_le hi with e | hlt
      · exact e.symm
      · have := hj 1 (by omega) hlt
        have := h.x 1 (by omega)
        omega
    subst hi1
    rw [heightV_eq (i := 0) ⟨by omega, by omega, fun j hj => by omega⟩, if_pos hf]
    have := (between_end h 0 hl).2
    rw [hf] at this
    exact this.symm
  · have hf := h.first
    rw [heightV_eq (i := i) ⟨hl, hx, fun j hji => by
      rcases Nat.eq_zero_or_pos j with rfl | hp
      · omega
      · exact hj j hp hji⟩]
    split
    · rename_i e
      obtain ⟨k, rfl⟩ : ∃ k, i = k + 1 := ⟨i - 1, by omega⟩
      rw [← e, (between_end h k hl).1]
    · rfl

/-- what is between two points lies between their heights. -/
theorem between_bounds {ls : List Pt} (h : IsCurve ls) (i : Nat) (hi : i + 1 < ls.length) (x : Int) (h1 : (ptAt ls i).1 ≤ x) (h2 : x ≤ (ptAt ls (i + 1)).1) :
    0 ≤ ((ptAt ls (i + 1)).2 - (ptAt ls i).2) * (x - (ptAt ls i).1) ∧ ((ptAt ls (i + 1)).2 - (ptAt ls i).2) * (x - (ptAt ls i).1) ≤ 4294836225 ∧ (ptAt ls i).2 ≤ between ls (i + 1) x ∧ between ls (i + 1) x ≤ (ptAt ls (i + 1)).2 := by
  have hs := h.step i hi
  have y1 := h.y i (by omega)
  have y2 := h.y (i + 1) hi
  have x1 := h.x i (by omega)
  have x2 := h.x (i + 1) hi
  have a : 0 ≤ (ptAt ls (i + 1)).2 - (ptAt ls i).2 := by omega
  have b : 0 ≤ x - (ptAt ls i).1 := by omega
  have hnn := Int.mul_nonneg a b
  have hle := Int.mul_le_mul (show (ptAt ls (i + 1)).2 - (ptAt ls i).2 ≤ 65535 by omega) (show x - (ptAt ls i).1 ≤ 65535 by omega) b (by omega)
  have hd : 0 < (ptAt ls (i + 1)).1 - (ptAt ls i).1 := by omega
  have hq0 := Int.ediv_nonneg hnn (Int.le_of_lt hd)
  have hle2 := Int.mul_le_mul_of_nonneg_left (show x - (ptAt ls i).1 ≤ (ptAt ls (i + 1)).1 - (ptAt ls i).1 by omega) a
  have hq1 := Int.ediv_le_of_le_mul hd hle2
  refine ⟨hnn, by omega, ?_, ?_⟩
  · rw [between, Nat.add_sub_cancel]; omega
  · rw [between, Nat.add_sub_cancel]; omega
theorem heightV_range {ls : List Pt} (h : IsCurve ls) {x : Int} {i : Nat} (hi : isAt ls x i) (h0 : 0 ≤ x) : 0 ≤ heightV ls x ∧ heightV ls x ≤ 65535 := by
  rw [heightV_eq hi]
  split
  · exact h.y i hi.1
  · rename_i hne
    have hf := h.first
    obtain ⟨k, rfl⟩ : ∃ k, i = k + 1 := by
      cases i with
      | zero => exact absurd (by have := hi.2.1; omega) hne
      | succ k => exact ⟨k, rfl⟩
    have hb := between_bounds h k hi.1 x (Int.le_of_lt (hi.2.2 k (by omega))) hi.2.1
    have y1 := h.y k (by have := hi.1; omega)
    have y2 := h.y (k + 1) hi.1
    omega

end Go.Proofs.Ytolcndchfnifhab

/- A slice of points, or of spots. -/
namespace Go.Proofs.Ytolcndchfnifhab
open Go.RowKit

/-- The slice v holds these points, or spots, in the world w. -/
def IsPts (w : World) (v : Value) (ls : List Pt) : Prop :=
  ∃ ao cap, v = .slice ao ls.length cap ∧ ls.length ≤ 9223372036854775807 ∧ (ls = [] ∨ ∃ b off, ao = some ⟨b, off, none⟩ ∧ b < w.heap.size ∧ ∀ j, j < ls.length →
    w.cell? ⟨b, off + j * 2, none⟩ = some (.int .i64 (ptAt ls j).1) ∧ w.cell? ⟨b, off + j * 2 + 1, none⟩ = some (.int .i64 (ptAt ls j).2))
theorem IsPts.below {w w' : World} {v : Value} {ls : List Pt} {B : Nat} (h : IsPts w v ls) (hb : Below B w w') (hB : w.heap.size ≤ B) : IsPts w' v ls := by
  obtain ⟨ao, cap, hv, hl, h⟩ := h
  refine ⟨ao, cap, hv, hl, ?_⟩
  rcases h with h | ⟨b, off, ha, hlt, hc⟩
  · exact .inl h
  · refine .inr ⟨b, off, ha, Nat.lt_of_lt_of_le hlt hb.size, fun j hj => ?_⟩
    rw [hb.cell (p := ⟨b, off + j * 2, none⟩) (by exact Nat.lt_of_lt_of_le hlt hB), hb.cell (p := ⟨b, off + j * 2 + 1, none⟩) (by exact Nat.lt_of_lt_of_le hlt hB)]
    exact hc j hj
theorem IsPts.alloc {w : World} {v : Value} {ls : List Pt} (h : IsPts w v ls) (o : Obj) : IsPts (w.alloc o) v ls :=
  h.below ((Below.refl _ _).alloc (Nat.le_refl _) o) (Nat.le_refl _)
theorem IsPts.nil (w : World) : IsPts w (.slice none 0 0) [] := ⟨none, 0, rfl, by simp, .inl rfl⟩

end Go.Proofs.Ytolcndchfnifhab

