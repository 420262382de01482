/- mosaic.Take, whole. -/
import Derived.Test.YtolcndchfnifhabMosaicTake1
import Derived.Test.YtolcndchfnifhabPlaneAll
namespace Go.Proofs.Ytolcndchfnifhab
set_option linter.unusedVariables false
open Go.RowKit

def takeE (W H : Int) (ps : List Px) (phase : Int) : Int := if picOk W H ps = true then (if phaseOk phase = true then 0 else 3) else 1
def takeL (W : Int) (ps : List Px) (phase : Int) : List Int := (List.range ps.length).map (takeV ps W.toNat phase.toNat)

theorem IsPix.cells {w : World} {v : Value} {ps : List Px} (h : IsPix w v ps) (hn : 1 ≤ ps.length) : ∃ bk off ca, v = .slice (some ⟨bk, off, none⟩) ps.length ca ∧ bk < w.heap.size ∧ ∀ j, j < ps.length → w.cell? ⟨bk, off + j * 3, none⟩ = some (.int .i64 (pxAt ps j).1) ∧ w.cell? ⟨bk, off + j * 3 + 1, none⟩ = some (.int .i64 (pxAt ps j).2.1) ∧ w.cell? ⟨bk, off + j * 3 + 2, none⟩ = some (.int .i64 (pxAt ps j).2.2) := by
  obtain ⟨ao, ca, rfl, _, h⟩ := h
  rcases h with h | ⟨b, off, rfl, hlt, hc⟩
  · subst h; simp at hn
  · exact ⟨b, off, ca, rfl, hlt, fun j hj => by
      have := hc j hj
      rw [pxAt_get ps j hj] at this
      exact this⟩

set_option maxRecDepth 100000 in
set_option maxHeartbeats 1600000 in
theorem take_any (W H : Int) (v : Value) (ps : List Px) (phase : Int) (w : World) (hv : IsPix w v ps) :
    Calls Try.prog 23 #[.agg #[.int .i64 W, .int .i64 H, v], .int .i64 phase] w fun e w' => ∃ r, e = .returned (.tuple #[.agg #[.int .i64 (okW (takeE W H ps phase) W), .int .i64 (okW (takeE W H ps phase) H), r], .int .i64 (takeE W H ps phase)]) ∧ IsInts w' r (okL (takeE W H ps phase) (takeL W ps phase)) ∧ Below w.heap.size w w' ∧ Fresh w.heap.size r := by
  have HV := hide hv
  obtain ⟨E, hE⟩ : ∃ E, takeE W H ps phase = E := ⟨_, rfl⟩
  rw [hE]
  by_cases hp : picOk W H ps = true
  · by_cases hph : phaseOk phase = true
    · have he : E = 0 := by rw [← hE, takeE, if_pos hp, if_pos hph]
      subst he
      clear hE
      obtain ⟨⟨w1, w2⟩, ⟨h1, h2⟩, hl, _⟩ := picOk_parts hp
      have hph2 : 0 ≤ phase ∧ phase ≤ 3 := by simpa [phaseOk] using hph
      have hsm := side_mul ⟨w1, w2⟩ ⟨h1, h2⟩
      have hn1 : 1 ≤ ps.length := by omega
      obtain ⟨bk, off, ca, rfl, hbk, hcell⟩ := hv.cells hn1
      obtain ⟨WN, rfl⟩ := Int.eq_ofNat_of_zero_le (show 0 ≤ W by omega)
      obtain ⟨HN, rfl⟩ := Int.eq_ofNat_of_zero_le (show 0 ≤ H by omega)
      obtain ⟨PN, rfl⟩ := Int.eq_ofNat_of_zero_le hph2.1
      have HLEN := hide (show ps.length = HN * WN by rw [Nat.mul_comm]; exact_mod_cast hl)
      have HC := hide hcell
      rw [show okW 0 (WN : Int) = WN from rfl, show okW 0 (HN : Int) = HN from rfl, show okL 0 (takeL (WN : Int) ps (PN : Int)) = (List.range ps.length).map (takeV ps WN PN) from rfl]
      clear hl hcell hsm hv
      go_enter Try.func23, Try.ntmps23
      go_wp2_with fail
      obtain ⟨a1, a2, a3⟩ := al3 w (Obj.cells #[.int .i64 (WN : Nat), .int .i64 (HN : Nat), .slice (some ⟨bk, off, none⟩) ps.length ca] 39) (Obj.cells #[.int .i64 (PN : Nat)] 3) (Obj.cells #[.int .i64 0, .int .i64 0, .slice none 0 0] 24)
      have hB := be3 w (Obj.cells #[.int .i64 (WN : Nat), .int .i64 (HN : Nat), .slice (some ⟨bk, off, none⟩) ps.length ca] 39) (Obj.cells #[.int .i64 (PN : Nat)] 3) (Obj.cells #[.int .i64 0, .int .i64 0, .slice none 0 0] 24)
      have hs3 : (((w.alloc (Obj.cells #[.int .i64 (WN : Nat), .int .i64 (HN : Nat), .slice (some ⟨bk, off, none⟩) ps.length ca] 39)).alloc (Obj.cells #[.int .i64 (PN : Nat)] 3)).alloc (Obj.cells #[.int .i64 0, .int .i64 0, .slice none 0 0] 24)).heap.size = w.heap.size + 3 := by simp
      generalize ((w.alloc (Obj.cells #[.int .i64 (WN : Nat), .int .i64 (HN : Nat), .slice (some ⟨bk, off, none⟩) ps.length ca] 39)).alloc (Obj.cells #[.int .i64 (PN : Nat)] 3)).alloc (Obj.cells #[.int .i64 0, .int .i64 0, .slice none 0 0] 24) = U at *
      refine (picture_any WN HN _ ps _ (HV.out.below hB (Nat.le_refl _))).mono ?_
      rintro e w1 ⟨rfl, hb1⟩
      rw [hp]
      have g2 := bx1 ((hb1.block (w.heap.size + 1) (by omega)).trans a2)
      have g3 := (hb1.block (w.heap.size + 1 + 1) (by omega)).trans a3
      go_wp2_with fail
      refine (phase_any _ _).mono ?_
      rintro e w2 ⟨rfl, hb2⟩
      rw [hph]
      clear g2
      replace hb2 := bel_trans hb1 hb2
      replace g3 := (hb2.block (w.heap.size + 1 + 1) (by omega)).trans a3
      obtain ⟨p0, p1, p2⟩ := cells3 ((hb2.block (w.heap.size) (by omega)).trans a1)
      go_wp2_with fail
      have hbG := bel_trans hb2 (bel_alloc w2 (Obj.cells #[.int .i64 (WN : Nat), .int .i64 (HN : Nat)] 91))
      have aG := al1 w2 (Obj.cells #[.int .i64 (WN : Nat), .int .i64 (HN : Nat)] 91)
      have hlG := (Array.getElem?_eq_some_iff.1 aG).1
      have hs2 := hb2.size
      clear p0 p1 p2
      generalize w2.alloc (Obj.cells #[.int .i64 (WN : Nat), .int .i64 (HN : Nat)] 91) = w2g at *
      refine (gridPlane_any WN HN ps.length (by omega) (by omega) HLEN.out 69 #[.pointer (some ⟨w.heap.size, 0, none⟩), .pointer (some ⟨w2.heap.size, 0, none⟩), .pointer (some ⟨w.heap.size + 1, 0, none⟩)] (takeV ps WN PN) _ (enters_of Try.func69 (by kernel_rfl) rfl) ?_).mono ?_
      · intro j V hj hV
        have hb3 := bel_trans hbG hV
        have hbw := hB.trans (hb3.mono hB.size)
        obtain ⟨e0, e1, e2⟩ := cells3 ((hb3.block (w.heap.size) (by omega)).trans a1)
        have e3 := bx1 ((hb3.block (w.heap.size + 1) (by omega)).trans a2)
        obtain ⟨e4, e5⟩ := bx2 ((hV.block w2.heap.size hlG).trans aG)
        have hs := hb3.size
        have hsV := hV.size
        exact take1_any WN HN PN j bk off ca (by omega) (by omega) (by omega) (by omega) ps HLEN.out hj w.heap.size w2.heap.size (w.heap.size + 1) V (by omega) (by omega) (by omega) (Nat.lt_of_lt_of_le hbk hbw.size) e2 e4 e5 e3 (fun i hi => by
          obtain ⟨c0, c1, c2⟩ := HC.out i hi
          exact ⟨(hbw.cell (p := ⟨bk, off + i * 3, none⟩) hbk).trans c0, (hbw.cell (p := ⟨bk, off + i * 3 + 1, none⟩) hbk).trans c1, (hbw.cell (p := ⟨bk, off + i * 3 + 2, none⟩) hbk).trans c2⟩)
      · rintro e w3 ⟨r, rfl, hr, hb3, hfr⟩
        replace hb3 := bel_trans hbG hb3
        replace g3 := (hb3.block (w.heap.size + 1 + 1) (by omega)).trans a3
        obtain ⟨z0, z1, z2⟩ := cells3 g3
        have f0 := Lib.frozen_of_heap g3 0
        have f1 := Lib.frozen_of_heap g3 1
        have f2 := Lib.frozen_of_heap g3 2
        have HR := hide hr
        obtain ⟨ro, rc, rfl, _, _⟩ := hr
        have HFIN := hide (set3_below (hB.trans (hb3.mono hB.size)) (show w.heap.size ≤ w.heap.size + 1 + 1 by omega) (.int .i64 (WN : Nat)) (.int .i64 (HN : Nat)) (.slice ro ((List.range ps.length).map (takeV ps WN PN)).length rc))
        have hsG := hbG.size
        have HPX2 := hide (HR.out.set3 hfr (show w.heap.size + 1 + 1 < w2g.heap.size by omega) (.int .i64 (WN : Nat)) (.int .i64 (HN : Nat)) (.slice ro ((List.range ps.length).map (takeV ps WN PN)).length rc))
        rw [List.length_map, List.length_range] at HPX2 HFIN hfr
        rw [List.length_map, List.length_range]
        go_wp2
        exact bodyPost_ret (v := .tuple #[.agg #[.int .i64 (WN : Nat), .int .i64 (HN : Nat), .slice ro ps.length rc], .int .i64 0]) (by simp [results, Try.results23, go_sem, z0, z1, z2]) rfl ⟨_, rfl, HPX2.out, HFIN.out, hfr.mono (by omega)⟩
    · have he : E = 3 := by rw [← hE, takeE, if_pos hp, if_neg hph]
      have hph : phaseOk phase = false := by simpa using hph
      subst he
      clear hE
      obtain ⟨ao, ca, rfl, _, _⟩ := hv
      go_enter Try.func23, Try.ntmps23
      go_wp2_with fail
      obtain ⟨a1, a2, a3⟩ := al3 w (Obj.cells #[.int .i64 W, .int .i64 H, .slice ao ps.length ca] 39) (Obj.cells #[.int .i64 phase] 3) (Obj.cells #[.int .i64 0, .int .i64 0, .slice none 0 0] 24)
      have hB := be3 w (Obj.cells #[.int .i64 W, .int .i64 H, .slice ao ps.length ca] 39) (Obj.cells #[.int .i64 phase] 3) (Obj.cells #[.int .i64 0, .int .i64 0, .slice none 0 0] 24)
      have hs3 : (((w.alloc (Obj.cells #[.int .i64 W, .int .i64 H, .slice ao ps.length ca] 39)).alloc (Obj.cells #[.int .i64 phase] 3)).alloc (Obj.cells #[.int .i64 0, .int .i64 0, .slice none 0 0] 24)).heap.size = w.heap.size + 3 := by simp
      generalize ((w.alloc (Obj.cells #[.int .i64 W, .int .i64 H, .slice ao ps.length ca] 39)).alloc (Obj.cells #[.int .i64 phase] 3)).alloc (Obj.cells #[.int .i64 0, .int .i64 0, .slice none 0 0] 24) = U at *
      refine (picture_any W H _ ps _ (HV.out.below hB (Nat.le_refl _))).mono ?_
      rintro e w1 ⟨rfl, hb1⟩
      rw [hp]
      have g2 := bx1 ((hb1.block (w.heap.size + 1) (by omega)).trans a2)
      have g3 := (hb1.block (w.heap.size + 1 + 1) (by omega)).trans a3
      go_wp2_with fail
      refine (phase_any _ _).mono ?_
      rintro e w2 ⟨rfl, hb2⟩
      rw [hph]
      clear g2
      replace hb2 := bel_trans hb1 hb2
      replace g3 := (hb2.block (w.heap.size + 1 + 1) (by omega)).trans a3
      obtain ⟨z0, z1, z2⟩ := cells3 g3
      have f0 := Lib.frozen_of_heap g3 0
      have f1 := Lib.frozen_of_heap g3 1
      have f2 := Lib.frozen_of_heap g3 2
      have HFIN := hide (set3_below (hB.trans (hb2.mono hB.size)) (show w.heap.size ≤ w.heap.size + 1 + 1 by omega) (.int .i64 0) (.int .i64 0) (.slice none 0 0))
      go_wp2
      exact bodyPost_ret (v := .tuple #[.agg #[.int .i64 0, .int .i64 0, .slice none 0 0], .int .i64 3]) (by simp [results, Try.results23, go_sem, z0, z1, z2]) rfl ⟨.slice none 0 0, rfl, IsInts.nil _, HFIN.out, Fresh.nil _⟩
  · have he : E = 1 := by rw [← hE, takeE, if_neg hp]
    have hp : picOk W H ps = false := by simpa using hp
    subst he
    clear hE
    obtain ⟨ao, ca, rfl, _, _⟩ := hv
    go_enter Try.func23, Try.ntmps23
    go_wp2_with fail
    obtain ⟨a1, a2, a3⟩ := al3 w (Obj.cells #[.int .i64 W, .int .i64 H, .slice ao ps.length ca] 39) (Obj.cells #[.int .i64 phase] 3) (Obj.cells #[.int .i64 0, .int .i64 0, .slice none 0 0] 24)
    have hB := be3 w (Obj.cells #[.int .i64 W, .int .i64 H, .slice ao ps.length ca] 39) (Obj.cells #[.int .i64 phase] 3) (Obj.cells #[.int .i64 0, .int .i64 0, .slice none 0 0] 24)
    have hs3 : (((w.alloc (Obj.cells #[.int .i64 W, .int .i64 H, .slice ao ps.length ca] 39)).alloc (Obj.cells #[.int .i64 phase] 3)).alloc (Obj.cells #[.int .i64 0, .int .i64 0, .slice none 0 0] 24)).heap.size = w.heap.size + 3 := by simp
    generalize ((w.alloc (Obj.cells #[.int .i64 W, .int .i64 H, .slice ao ps.length ca] 39)).alloc (Obj.cells #[.int .i64 phase] 3)).alloc (Obj.cells #[.int .i64 0, .int .i64 0, .slice none 0 0] 24) = U at *
    refine (picture_any W H _ ps _ (HV.out.below hB (Nat.le_refl _))).mono ?_
    rintro e w1 ⟨rfl, hb1⟩
    rw [hp]
    have g2 := bx1 ((hb1.block (w.heap.size + 1) (by omega)).trans a2)
    have g3 := (hb1.block (w.heap.size + 1 + 1) (by omega)).trans a3
    generalize w1 = w2 at *
    have hb2 := hb1
    obtain ⟨z0, z1, z2⟩ := cells3 g3
    have f0 := Lib.frozen_of_heap g3 0
    have f1 := Lib.frozen_of_heap g3 1
    have f2 := Lib.frozen_of_heap g3 2
    have HFIN := hide (set3_below (hB.trans (hb2.mono hB.size)) (show w.heap.size ≤ w.heap.size + 1 + 1 by omega) (.int .i64 0) (.int .i64 0) (.slice none 0 0))
    go_wp2
    exact bodyPost_ret (v := .tuple #[.agg #[.int .i64 0, .int .i64 0, .slice none 0 0], .int .i64 1]) (by simp [results, Try.results23, go_sem, z0, z1, z2]) rfl ⟨.slice none 0 0, rfl, IsInts.nil _, HFIN.out, Fresh.nil _⟩

end Go.Proofs.Ytolcndchfnifhab
