/- sensor.Level, sensor.Gain. -/
import Derived.Test.YtolcndchfnifhaaSensorPlace
namespace Go.Proofs.Ytolcndchfnifhaa
set_option linter.unusedVariables false
open Go.RowKit

theorem fourA_cells {w : World} {b : Nat} {t : TypeId} {fr : Nat × Nat} {m : Nat → Int} (h : w.heap[b]? = some (.cells (fourA m) t fr)) :
    w.cell? ⟨b, 0, none⟩ = some (.int .i64 (m 0)) ∧ w.cell? ⟨b, 1, none⟩ = some (.int .i64 (m 1)) ∧ w.cell? ⟨b, 2, none⟩ = some (.int .i64 (m 2)) ∧ w.cell? ⟨b, 3, none⟩ = some (.int .i64 (m 3)) :=
  ⟨by rw [Lib.cell_of_heap h]; rfl, by rw [Lib.cell_of_heap h]; rfl, by rw [Lib.cell_of_heap h]; rfl, by rw [Lib.cell_of_heap h]; rfl⟩
def levE (W H : Int) (zs : List Int) (m : Nat → Int) (white : Int) : Int := if planeOk W H zs = true then (if levelsOk m white = true then 0 else 3) else 1
def levL (W : Int) (zs : List Int) (m : Nat → Int) (white : Int) : List Int := (List.range zs.length).map (levelV zs W.toNat m white)

set_option maxRecDepth 100000 in
set_option maxHeartbeats 1600000 in
theorem level_any (W H : Int) (v : Value) (zs : List Int) (m : Nat → Int) (white : Int) (w : World) (hv : IsInts w v zs) :
    Calls Try.prog 52 #[.agg #[.int .i64 W, .int .i64 H, v], .agg (fourA m), .int .i64 white] w fun e w' => ∃ r, e = .returned (.tuple #[.agg #[.int .i64 (okW (levE W H zs m white) W), .int .i64 (okW (levE W H zs m white) H), r], .int .i64 (levE W H zs m white)]) ∧ IsInts w' r (okL (levE W H zs m white) (levL W zs m white)) ∧ Below w.heap.size w w' ∧ Fresh w.heap.size r := by
  have HV := hide hv
  obtain ⟨E, hE⟩ : ∃ E, levE W H zs m white = E := ⟨_, rfl⟩
  rw [hE]
  by_cases hp : planeOk W H zs = true
  · by_cases hph : levelsOk m white = true
    · have he : E = 0 := by rw [← hE, levE, if_pos hp, if_pos hph]
      subst he
      clear hE
      obtain ⟨⟨w1, w2⟩, ⟨h1, h2⟩, hl, _⟩ := planeOk_parts hp
      have hz := planeOk_all hp
      have hph3 := hph
      rw [levelsOk, Bool.and_eq_true] at hph3
      have hph2 : 1 ≤ white ∧ white ≤ 65535 := by simpa using hph3.1
      have HMM := hide (fun k (hk : k < 4) => arrL_all hph3.2 k hk)
      have hsm := side_mul ⟨w1, w2⟩ ⟨h1, h2⟩
      have hn1 : 1 ≤ zs.length := by omega
      obtain ⟨bk, off, ca, rfl, hbk, hcell⟩ := hv.cells hn1
      obtain ⟨WN, rfl⟩ := Int.eq_ofNat_of_zero_le (show 0 ≤ W by omega)
      obtain ⟨HN, rfl⟩ := Int.eq_ofNat_of_zero_le (show 0 ≤ H by omega)
      have HLEN := hide (show zs.length = HN * WN by rw [Nat.mul_comm]; exact_mod_cast hl)
      have HZ := hide hz
      have HC := hide hcell
      rw [show okW 0 (WN : Int) = WN from rfl, show okW 0 (HN : Int) = HN from rfl, show okL 0 (levL (WN : Int) zs m white) = (List.range zs.length).map (levelV zs WN m white) from rfl]
      clear hl hz hcell hsm hv hph3
      go_enter Try.func52, Try.ntmps52
      go_wp2_with fail
      obtain ⟨a1, a2, a3, a4⟩ := al4 w (Obj.cells #[.int .i64 (WN : Nat), .int .i64 (HN : Nat), .slice (some ⟨bk, off, none⟩) zs.length ca] 57) (Obj.cells (fourA m) 69) (Obj.cells #[.int .i64 white] 3) (Obj.cells #[.int .i64 0, .int .i64 0, .slice none 0 0] 57)
      have hB := be4 w (Obj.cells #[.int .i64 (WN : Nat), .int .i64 (HN : Nat), .slice (some ⟨bk, off, none⟩) zs.length ca] 57) (Obj.cells (fourA m) 69) (Obj.cells #[.int .i64 white] 3) (Obj.cells #[.int .i64 0, .int .i64 0, .slice none 0 0] 57)
      have hs3 : ((((w.alloc (Obj.cells #[.int .i64 (WN : Nat), .int .i64 (HN : Nat), .slice (some ⟨bk, off, none⟩) zs.length ca] 57)).alloc (Obj.cells (fourA m) 69)).alloc (Obj.cells #[.int .i64 white] 3)).alloc (Obj.cells #[.int .i64 0, .int .i64 0, .slice none 0 0] 57)).heap.size = w.heap.size + 4 := by simp
      generalize (((w.alloc (Obj.cells #[.int .i64 (WN : Nat), .int .i64 (HN : Nat), .slice (some ⟨bk, off, none⟩) zs.length ca] 57)).alloc (Obj.cells (fourA m) 69)).alloc (Obj.cells #[.int .i64 white] 3)).alloc (Obj.cells #[.int .i64 0, .int .i64 0, .slice none 0 0] 57) = U at *
      refine (plane_any WN HN _ zs _ (HV.out.below hB (Nat.le_refl _))).mono ?_
      rintro e w1 ⟨rfl, hb1⟩
      rw [hp]
      have g4 := (hb1.block (w.heap.size + 3) (by omega)).trans a4
      obtain ⟨n0, n1, n2, n3⟩ := fourA_cells ((hb1.block (w.heap.size + 1) (by omega)).trans a2)
      have g3 := bx1 ((hb1.block (w.heap.size + 1 + 1) (by omega)).trans a3)
      go_wp2_with fail
      refine (levels_any m white _).mono ?_
      rintro e w2 ⟨rfl, hb2⟩
      rw [hph]
      clear n0 n1 n2 n3 g3
      replace hb2 := bel_trans hb1 hb2
      replace g4 := (hb2.block (w.heap.size + 3) (by omega)).trans a4
      obtain ⟨p0, p1, p2⟩ := cells3 ((hb2.block (w.heap.size) (by omega)).trans a1)
      go_wp2_with fail
      have hbG := bel_trans hb2 (bel_alloc w2 (Obj.cells #[.int .i64 (WN : Nat), .int .i64 (HN : Nat)] 114))
      have aG := al1 w2 (Obj.cells #[.int .i64 (WN : Nat), .int .i64 (HN : Nat)] 114)
      have hlG := (Array.getElem?_eq_some_iff.1 aG).1
      have hs2 := hb2.size
      clear p0 p1 p2
      generalize w2.alloc (Obj.cells #[.int .i64 (WN : Nat), .int .i64 (HN : Nat)] 114) = w2g at *
      refine (gridPlane_any WN HN zs.length (by omega) (by omega) HLEN.out 96 #[.pointer (some ⟨w.heap.size + 1, 0, none⟩), .pointer (some ⟨w.heap.size, 0, none⟩), .pointer (some ⟨w2.heap.size, 0, none⟩), .pointer (some ⟨w.heap.size + 1 + 1, 0, none⟩)] (levelV zs WN m white) _ (enters_of Try.func96 (by kernel_rfl) rfl) ?_).mono ?_
      · intro j V hj hV
        have hb3 := bel_trans hbG hV
        have hbw := hB.trans (hb3.mono hB.size)
        obtain ⟨e0, e1, e2⟩ := cells3 ((hb3.block (w.heap.size) (by omega)).trans a1)
        have e3 := bx1 ((hb3.block (w.heap.size + 2) (by omega)).trans a3)
        have e6 := (hb3.block (w.heap.size + 1) (by omega)).trans a2
        obtain ⟨e4, e5⟩ := bx2 ((hV.block w2.heap.size hlG).trans aG)
        have hs := hb3.size
        have hsV := hV.size
        exact level1_any WN HN j bk off ca (by omega) (by omega) (by omega) zs HLEN.out HZ.out hj m white (by omega) (fun k hk => HMM.out k hk) (w.heap.size + 1) w.heap.size w2.heap.size (w.heap.size + 2) V (by omega) (by omega) (Nat.lt_of_lt_of_le hbk hbw.size) e2 e4 e5 (by omega) (by omega) (fun k hk => by rw [Lib.cell_of_heap e6, fourA_get m k hk]) e3 (fun i hi => (hbw.cell (p := ⟨bk, off + i, none⟩) hbk).trans (HC.out i hi))
      · rintro e w3 ⟨r, rfl, hr, hb3, hfr⟩
        replace hb3 := bel_trans hbG hb3
        replace g4 := (hb3.block (w.heap.size + 3) (by omega)).trans a4
        obtain ⟨z0, z1, z2⟩ := cells3 (b := w.heap.size + 1 + 1 + 1) g4
        have f0 := Lib.frozen_of_heap (b := w.heap.size + 1 + 1 + 1) g4 0
        have f1 := Lib.frozen_of_heap (b := w.heap.size + 1 + 1 + 1) g4 1
        have f2 := Lib.frozen_of_heap (b := w.heap.size + 1 + 1 + 1) g4 2
        have HR := hide hr
        obtain ⟨ro, rc, rfl, _, _⟩ := hr
        have HFIN := hide (set3_below (hB.trans (hb3.mono hB.size)) (show w.heap.size ≤ w.heap.size + 1 + 1 + 1 by omega) (.int .i64 (WN : Nat)) (.int .i64 (HN : Nat)) (.slice ro ((List.range zs.length).map (levelV zs WN m white)).length rc))
        have hsG := hbG.size
        have HPX2 := hide (HR.out.set3 hfr (show w.heap.size + 1 + 1 + 1 < w2g.heap.size by omega) (.int .i64 (WN : Nat)) (.int .i64 (HN : Nat)) (.slice ro ((List.range zs.length).map (levelV zs WN m white)).length rc))
        rw [List.length_map, List.length_range] at HPX2 HFIN hfr
        rw [List.length_map, List.length_range]
        go_wp2
        exact bodyPost_ret (v := .tuple #[.agg #[.int .i64 (WN : Nat), .int .i64 (HN : Nat), .slice ro zs.length rc], .int .i64 0]) (by simp [results, Try.results52, go_sem, z0, z1, z2]) rfl ⟨_, rfl, HPX2.out, HFIN.out, hfr.mono (by omega)⟩
    · have he : E = 3 := by rw [← hE, levE, if_pos hp, if_neg hph]
      have hph : levelsOk m white = false := by simpa using hph
      subst he
      clear hE
      obtain ⟨ao, ca, rfl, _, _⟩ := hv
      go_enter Try.func52, Try.ntmps52
      go_wp2_with fail
      obtain ⟨a1, a2, a3, a4⟩ := al4 w (Obj.cells #[.int .i64 W, .int .i64 H, .slice ao zs.length ca] 57) (Obj.cells (fourA m) 69) (Obj.cells #[.int .i64 white] 3) (Obj.cells #[.int .i64 0, .int .i64 0, .slice none 0 0] 57)
      have hB := be4 w (Obj.cells #[.int .i64 W, .int .i64 H, .slice ao zs.length ca] 57) (Obj.cells (fourA m) 69) (Obj.cells #[.int .i64 white] 3) (Obj.cells #[.int .i64 0, .int .i64 0, .slice none 0 0] 57)
      have hs3 : ((((w.alloc (Obj.cells #[.int .i64 W, .int .i64 H, .slice ao zs.length ca] 57)).alloc (Obj.cells (fourA m) 69)).alloc (Obj.cells #[.int .i64 white] 3)).alloc (Obj.cells #[.int .i64 0, .int .i64 0, .slice none 0 0] 57)).heap.size = w.heap.size + 4 := by simp
      generalize (((w.alloc (Obj.cells #[.int .i64 W, .int .i64 H, .slice ao zs.length ca] 57)).alloc (Obj.cells (fourA m) 69)).alloc (Obj.cells #[.int .i64 white] 3)).alloc (Obj.cells #[.int .i64 0, .int .i64 0, .slice none 0 0] 57) = U at *
      refine (plane_any W H _ zs _ (HV.out.below hB (Nat.le_refl _))).mono ?_
      rintro e w1 ⟨rfl, hb1⟩
      rw [hp]
      have g4 := (hb1.block (w.heap.size + 3) (by omega)).trans a4
      obtain ⟨n0, n1, n2, n3⟩ := fourA_cells ((hb1.block (w.heap.size + 1) (by omega)).trans a2)
      have g3 := bx1 ((hb1.block (w.heap.size + 1 + 1) (by omega)).trans a3)
      go_wp2_with fail
      refine (levels_any m white _).mono ?_
      rintro e w2 ⟨rfl, hb2⟩
      rw [hph]
      clear n0 n1 n2 n3 g3
      replace hb2 := bel_trans hb1 hb2
      replace g4 := (hb2.block (w.heap.size + 3) (by omega)).trans a4
      obtain ⟨z0, z1, z2⟩ := cells3 (b := w.heap.size + 1 + 1 + 1) g4
      have f0 := Lib.frozen_of_heap (b := w.heap.size + 1 + 1 + 1) g4 0
      have f1 := Lib.frozen_of_heap (b := w.heap.size + 1 + 1 + 1) g4 1
      have f2 := Lib.frozen_of_heap (b := w.heap.size + 1 + 1 + 1) g4 2
      have HFIN := hide (set3_below (hB.trans (hb2.mono hB.size)) (show w.heap.size ≤ w.heap.size + 1 + 1 + 1 by omega) (.int .i64 0) (.int .i64 0) (.slice none 0 0))
      go_wp2
      exact bodyPost_ret (v := .tuple #[.agg #[.int .i64 0, .int .i64 0, .slice none 0 0], .int .i64 3]) (by simp [results, Try.results52, go_sem, z0, z1, z2]) rfl ⟨.slice none 0 0, rfl, IsInts.nil _, HFIN.out, Fresh.nil _⟩
  · have he : E = 1 := by rw [← hE, levE, if_neg hp]
    have hp : planeOk W H zs = false := by simpa using hp
    subst he
    clear hE
    obtain ⟨ao, ca, rfl, _, _⟩ := hv
    go_enter Try.func52, Try.ntmps52
    go_wp2_with fail
    obtain ⟨a1, a2, a3, a4⟩ := al4 w (Obj.cells #[.int .i64 W, .int .i64 H, .slice ao zs.length ca] 57) (Obj.cells (fourA m) 69) (Obj.cells #[.int .i64 white] 3) (Obj.cells #[.int .i64 0, .int .i64 0, .slice none 0 0] 57)
    have hB := be4 w (Obj.cells #[.int .i64 W, .int .i64 H, .slice ao zs.length ca] 57) (Obj.cells (fourA m) 69) (Obj.cells #[.int .i64 white] 3) (Obj.cells #[.int .i64 0, .int .i64 0, .slice none 0 0] 57)
    have hs3 : ((((w.alloc (Obj.cells #[.int .i64 W, .int .i64 H, .slice ao zs.length ca] 57)).alloc (Obj.cells (fourA m) 69)).alloc (Obj.cells #[.int .i64 white] 3)).alloc (Obj.cells #[.int .i64 0, .int .i64 0, .slice none 0 0] 57)).heap.size = w.heap.size + 4 := by simp
    generalize (((w.alloc (Obj.cells #[.int .i64 W, .int .i64 H, .slice ao zs.length ca] 57)).alloc (Obj.cells (fourA m) 69)).alloc (Obj.cells #[.int .i64 white] 3)).alloc (Obj.cells #[.int .i64 0, .int .i64 0, .slice none 0 0] 57) = U at *
    refine (plane_any W H _ zs _ (HV.out.below hB (Nat.le_refl _))).mono ?_
    rintro e w1 ⟨rfl, hb1⟩
    rw [hp]
    have g4 := (hb1.block (w.heap.size + 3) (by omega)).trans a4
    generalize w1 = w2 at *
    have hb2 := hb1
    obtain ⟨z0, z1, z2⟩ := cells3 (b := w.heap.size + 1 + 1 + 1) g4
    have f0 := Lib.frozen_of_heap (b := w.heap.size + 1 + 1 + 1) g4 0
    have f1 := Lib.frozen_of_heap (b := w.heap.size + 1 + 1 + 1) g4 1
    have f2 := Lib.frozen_of_heap (b := w.heap.size + 1 + 1 + 1) g4 2
    have HFIN := hide (set3_below (hB.trans (hb2.mono hB.size)) (show w.heap.size ≤ w.heap.size + 1 + 1 + 1 by omega) (.int .i64 0) (.int .i64 0) (.slice none 0 0))
    go_wp2
    exact bodyPost_ret (v := .tuple #[.agg #[.int .i64 0, .int .i64 0, .slice none 0 0], .int .i64 1]) (by simp [results, Try.results52, go_sem, z0, z1, z2]) rfl ⟨.slice none 0 0, rfl, IsInts.nil _, HFIN.out, Fresh.nil _⟩

end Go.Proofs.Ytolcndchfnifhaa
