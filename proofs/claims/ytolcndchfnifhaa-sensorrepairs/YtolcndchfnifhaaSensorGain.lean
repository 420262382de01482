/- sensor.Gain. -/
import Derived.Test.YtolcndchfnifhaaSensorLevel
namespace Go.Proofs.Ytolcndchfnifhaa
set_option linter.unusedVariables false
open Go.RowKit

def gaiE (W H : Int) (zs : List Int) (phase : Int) (m : Nat → Int) : Int := if planeOk W H zs = true then (if phaseOk phase = true ∧ gainsOk m = true then 0 else 3) else 1
def gaiL (W : Int) (zs : List Int) (phase : Int) (m : Nat → Int) : List Int := (List.range zs.length).map (gainV zs W.toNat phase.toNat m)

set_option maxRecDepth 100000 in
set_option maxHeartbeats 1600000 in
theorem gain_any (W H : Int) (v : Value) (zs : List Int) (phase : Int) (m : Nat → Int) (w : World) (hv : IsInts w v zs) :
    Calls Try.prog 101 #[.agg #[.int .i64 W, .int .i64 H, v], .int .i64 phase, .agg (threeA m)] w fun e w' => ∃ r, e = .returned (.tuple #[.agg #[.int .i64 (okW (gaiE W H zs phase m) W), .int .i64 (okW (gaiE W H zs phase m) H), r], .int .i64 (gaiE W H zs phase m)]) ∧ IsInts w' r (okL (gaiE W H zs phase m) (gaiL W zs phase m)) ∧ Below w.heap.size w w' ∧ Fresh w.heap.size r := by
  have HV := hide hv
  obtain ⟨E, hE⟩ : ∃ E, gaiE W H zs phase m = E := ⟨_, rfl⟩
  rw [hE]
  by_cases hp : planeOk W H zs = true
  · by_cases hph : phaseOk phase = true
    · by_cases hgn : gainsOk m = true
      · have he : E = 0 := by rw [← hE, gaiE, if_pos hp, if_pos ⟨hph, hgn⟩]
        subst he
        clear hE
        obtain ⟨⟨w1, w2⟩, ⟨h1, h2⟩, hl, _⟩ := planeOk_parts hp
        have hz := planeOk_all hp
        have hph2 : 0 ≤ phase ∧ phase ≤ 3 := by simpa [phaseOk] using hph
        have HMM := hide (fun k (hk : k < 3) => arrL_all hgn k hk)
        have hsm := side_mul ⟨w1, w2⟩ ⟨h1, h2⟩
        have hn1 : 1 ≤ zs.length := by omega
        obtain ⟨bk, off, ca, rfl, hbk, hcell⟩ := hv.cells hn1
        obtain ⟨WN, rfl⟩ := Int.eq_ofNat_of_zero_le (show 0 ≤ W by omega)
        obtain ⟨HN, rfl⟩ := Int.eq_ofNat_of_zero_le (show 0 ≤ H by omega)
        obtain ⟨PN, rfl⟩ := Int.eq_ofNat_of_zero_le hph2.1
        have HLEN := hide (show zs.length = HN * WN by rw [Nat.mul_comm]; exact_mod_cast hl)
        have HZ := hide hz
        have HC := hide hcell
        rw [show okW 0 (WN : Int) = WN from rfl, show okW 0 (HN : Int) = HN from rfl, show okL 0 (gaiL (WN : Int) zs (PN : Int) m) = (List.range zs.length).map (gainV zs WN PN m) from rfl]
        clear hl hz hcell hsm hv
        go_enter Try.func101, Try.ntmps101
        go_wp2_with fail
        obtain ⟨a1, a2, a3, a4⟩ := al4 w (Obj.cells #[.int .i64 (WN : Nat), .int .i64 (HN : Nat), .slice (some ⟨bk, off, none⟩) zs.length ca] 57) (Obj.cells #[.int .i64 (PN : Nat)] 3) (Obj.cells (threeA m) 121) (Obj.cells #[.int .i64 0, .int .i64 0, .slice none 0 0] 57)
        have hB := be4 w (Obj.cells #[.int .i64 (WN : Nat), .int .i64 (HN : Nat), .slice (some ⟨bk, off, none⟩) zs.length ca] 57) (Obj.cells #[.int .i64 (PN : Nat)] 3) (Obj.cells (threeA m) 121) (Obj.cells #[.int .i64 0, .int .i64 0, .slice none 0 0] 57)
        have hs3 : ((((w.alloc (Obj.cells #[.int .i64 (WN : Nat), .int .i64 (HN : Nat), .slice (some ⟨bk, off, none⟩) zs.length ca] 57)).alloc (Obj.cells #[.int .i64 (PN : Nat)] 3)).alloc (Obj.cells (threeA m) 121)).alloc (Obj.cells #[.int .i64 0, .int .i64 0, .slice none 0 0] 57)).heap.size = w.heap.size + 4 := by simp
        generalize (((w.alloc (Obj.cells #[.int .i64 (WN : Nat), .int .i64 (HN : Nat), .slice (some ⟨bk, off, none⟩) zs.length ca] 57)).alloc (Obj.cells #[.int .i64 (PN : Nat)] 3)).alloc (Obj.cells (threeA m) 121)).alloc (Obj.cells #[.int .i64 0, .int .i64 0, .slice none 0 0] 57) = U at *
        refine (plane_any WN HN _ zs _ (HV.out.below hB (Nat.le_refl _))).mono ?_
        rintro e w1 ⟨rfl, hb1⟩
        rw [hp]
        have g4 := (hb1.block (w.heap.size + 3) (by omega)).trans a4
        have g2 := bx1 ((hb1.block (w.heap.size + 1) (by omega)).trans a2)
        go_wp2_with fail
        refine (phase_any _ _).mono ?_
        rintro e w2 ⟨rfl, hb2⟩
        rw [hph]
        clear g2
        replace hb2 := bel_trans hb1 hb2
        replace g4 := (hb2.block (w.heap.size + 3) (by omega)).trans a4
        obtain ⟨n0, n1, n2⟩ := cells3 (b := w.heap.size + 1 + 1) ((hb2.block (w.heap.size + 2) (by omega)).trans a3)
        go_wp2_with fail
        refine (gains_any m _).mono ?_
        rintro e w2b ⟨rfl, hb2b⟩
        rw [hgn]
        clear n0 n1 n2
        replace hb2 := bel_trans hb2 hb2b
        clear hb2b
        generalize w2b = w2 at *
        replace g4 := (hb2.block (w.heap.size + 3) (by omega)).trans a4
        obtain ⟨p0, p1, p2⟩ := cells3 ((hb2.block (w.heap.size) (by omega)).trans a1)
        go_wp2_with fail
        have hbG := bel_trans hb2 (bel_alloc w2 (Obj.cells #[.int .i64 (WN : Nat), .int .i64 (HN : Nat)] 114))
        have aG := al1 w2 (Obj.cells #[.int .i64 (WN : Nat), .int .i64 (HN : Nat)] 114)
        have hlG := (Array.getElem?_eq_some_iff.1 aG).1
        have hs2 := hb2.size
        clear p0 p1 p2
        generalize w2.alloc (Obj.cells #[.int .i64 (WN : Nat), .int .i64 (HN : Nat)] 114) = w2g at *
        refine (gridPlane_any WN HN zs.length (by omega) (by omega) HLEN.out 124 #[.pointer (some ⟨w.heap.size + 1, 0, none⟩), .pointer (some ⟨w.heap.size, 0, none⟩), .pointer (some ⟨w2.heap.size, 0, none⟩), .pointer (some ⟨w.heap.size + 1 + 1, 0, none⟩)] (gainV zs WN PN m) _ (enters_of Try.func124 (by kernel_rfl) rfl) ?_).mono ?_
        · intro j V hj hV
          have hb3 := bel_trans hbG hV
          have hbw := hB.trans (hb3.mono hB.size)
          obtain ⟨e0, e1, e2⟩ := cells3 ((hb3.block (w.heap.size) (by omega)).trans a1)
          have e3 := bx1 ((hb3.block (w.heap.size + 1) (by omega)).trans a2)
          have e6 := (hb3.block (w.heap.size + 2) (by omega)).trans a3
          obtain ⟨e4, e5⟩ := bx2 ((hV.block w2.heap.size hlG).trans aG)
          have hs := hb3.size
          have hsV := hV.size
          exact gain1_any WN HN j bk off ca (by omega) (by omega) (by omega) zs HLEN.out HZ.out hj PN (by omega) m (fun k hk => HMM.out k hk) (w.heap.size + 1) w.heap.size w2.heap.size (w.heap.size + 2) V (by omega) (by omega) (Nat.lt_of_lt_of_le hbk hbw.size) e2 e4 e5 (by omega) (by omega) e3 (fun k hk => by rw [Lib.cell_of_heap e6, threeA_get m k hk]) (fun i hi => (hbw.cell (p := ⟨bk, off + i, none⟩) hbk).trans (HC.out i hi))
        · rintro e w3 ⟨r, rfl, hr, hb3, hfr⟩
          replace hb3 := bel_trans hbG hb3
          replace g4 := (hb3.block (w.heap.size + 3) (by omega)).trans a4
          obtain ⟨z0, z1, z2⟩ := cells3 (b := w.heap.size + 1 + 1 + 1) g4
          have f0 := Lib.frozen_of_heap (b := w.heap.size + 1 + 1 + 1) g4 0
          have f1 := Lib.frozen_of_heap (b := w.heap.size + 1 + 1 + 1) g4 1
          have f2 := Lib.frozen_of_heap (b := w.heap.size + 1 + 1 + 1) g4 2
          have HR := hide hr
          obtain ⟨ro, rc, rfl, _, _⟩ := hr
          have HFIN := hide (set3_below (hB.trans (hb3.mono hB.size)) (show w.heap.size ≤ w.heap.size + 1 + 1 + 1 by omega) (.int .i64 (WN : Nat)) (.int .i64 (HN : Nat)) (.slice ro ((List.range zs.length).map (gainV zs WN PN m)).length rc))
          have hsG := hbG.size
          have HPX2 := hide (HR.out.set3 hfr (show w.heap.size + 1 + 1 + 1 < w2g.heap.size by omega) (.int .i64 (WN : Nat)) (.int .i64 (HN : Nat)) (.slice ro ((List.range zs.length).map (gainV zs WN PN m)).length rc))
          rw [List.length_map, List.length_range] at HPX2 HFIN hfr
          rw [List.length_map, List.length_range]
          go_wp2
          exact bodyPost_ret (v := .tuple #[.agg #[.int .i64 (WN : Nat), .int .i64 (HN : Nat), .slice ro zs.length rc], .int .i64 0]) (by simp [results, Try.results101, go_sem, z0, z1, z2]) rfl ⟨_, rfl, HPX2.out, HFIN.out, hfr.mono (by omega)⟩
      · have he : E = 3 := by rw [← hE, gaiE, if_pos hp, if_neg (fun h => hgn h.2)]
        have hgn : gainsOk m = false := by simpa using hgn
        subst he
        clear hE
        obtain ⟨ao, ca, rfl, _, _⟩ := hv
        go_enter Try.func101, Try.ntmps101
        go_wp2_with fail
        obtain ⟨a1, a2, a3, a4⟩ := al4 w (Obj.cells #[.int .i64 W, .int .i64 H, .slice ao zs.length ca] 57) (Obj.cells #[.int .i64 phase] 3) (Obj.cells (threeA m) 121) (Obj.cells #[.int .i64 0, .int .i64 0, .slice none 0 0] 57)
        have hB := be4 w (Obj.cells #[.int .i64 W, .int .i64 H, .slice ao zs.length ca] 57) (Obj.cells #[.int .i64 phase] 3) (Obj.cells (threeA m) 121) (Obj.cells #[.int .i64 0, .int .i64 0, .slice none 0 0] 57)
        have hs3 : ((((w.alloc (Obj.cells #[.int .i64 W, .int .i64 H, .slice ao zs.length ca] 57)).alloc (Obj.cells #[.int .i64 phase] 3)).alloc (Obj.cells (threeA m) 121)).alloc (Obj.cells #[.int .i64 0, .int .i64 0, .slice none 0 0] 57)).heap.size = w.heap.size + 4 := by simp
        generalize (((w.alloc (Obj.cells #[.int .i64 W, .int .i64 H, .slice ao zs.length ca] 57)).alloc (Obj.cells #[.int .i64 phase] 3)).alloc (Obj.cells (threeA m) 121)).alloc (Obj.cells #[.int .i64 0, .int .i64 0, .slice none 0 0] 57) = U at *
        refine (plane_any W H _ zs _ (HV.out.below hB (Nat.le_refl _))).mono ?_
        rintro e w1 ⟨rfl, hb1⟩
        rw [hp]
        have g4 := (hb1.block (w.heap.size + 3) (by omega)).trans a4
        have g2 := bx1 ((hb1.block (w.heap.size + 1) (by omega)).trans a2)
        go_wp2_with fail
        refine (phase_any _ _).mono ?_
        rintro e w2 ⟨rfl, hb2⟩
        rw [hph]
        clear g2
        replace hb2 := bel_trans hb1 hb2
        replace g4 := (hb2.block (w.heap.size + 3) (by omega)).trans a4
        obtain ⟨n0, n1, n2⟩ := cells3 (b := w.heap.size + 1 + 1) ((hb2.block (w.heap.size + 2) (by omega)).trans a3)
        go_wp2_with fail
        refine (gains_any m _).mono ?_
        rintro e w2b ⟨rfl, hb2b⟩
        rw [hgn]
        clear n0 n1 n2
        replace hb2 := bel_trans hb2 hb2b
        clear hb2b
        generalize w2b = w2 at *
        replace g4 := (hb2.block (w.heap.size + 3) (by omega)).trans a4
        obtain ⟨z0, z1, z2⟩ := cells3 (b := w.heap.size + 1 + 1 + 1) g4
        have f0 := Lib.frozen_of_heap (b := w.heap.size + 1 + 1 + 1) g4 0
        have f1 := Lib.frozen_of_heap (b := w.heap.size + 1 + 1 + 1) g4 1
        have f2 := Lib.frozen_of_heap (b := w.heap.size + 1 + 1 + 1) g4 2
        have HFIN := hide (set3_below (hB.trans (hb2.mono hB.size)) (show w.heap.size ≤ w.heap.size + 1 + 1 + 1 by omega) (.int .i64 0) (.int .i64 0) (.slice none 0 0))
        go_wp2
        exact bodyPost_ret (v := .tuple #[.agg #[.int .i64 0, .int .i64 0, .slice none 0 0], .int .i64 3]) (by simp [results, Try.results101, go_sem, z0, z1, z2]) rfl ⟨.slice none 0 0, rfl, IsInts.nil _, HFIN.out, Fresh.nil _⟩
    · have he : E = 3 := by rw [← hE, gaiE, if_pos hp, if_neg (fun h => hph h.1)]
      have hph : phaseOk phase = false := by simpa using hph
      subst he
      clear hE
      obtain ⟨ao, ca, rfl, _, _⟩ := hv
      go_enter Try.func101, Try.ntmps101
      go_wp2_with fail
      obtain ⟨a1, a2, a3, a4⟩ := al4 w (Obj.cells #[.int .i64 W, .int .i64 H, .slice ao zs.length ca] 57) (Obj.cells #[.int .i64 phase] 3) (Obj.cells (threeA m) 121) (Obj.cells #[.int .i64 0, .int .i64 0, .slice none 0 0] 57)
      have hB := be4 w (Obj.cells #[.int .i64 W, .int .i64 H, .slice ao zs.length ca] 57) (Obj.cells #[.int .i64 phase] 3) (Obj.cells (threeA m) 121) (Obj.cells #[.int .i64 0, .int .i64 0, .slice none 0 0] 57)
      have hs3 : ((((w.alloc (Obj.cells #[.int .i64 W, .int .i64 H, .slice ao zs.length ca] 57)).alloc (Obj.cells #[.int .i64 phase] 3)).alloc (Obj.cells (threeA m) 121)).alloc (Obj.cells #[.int .i64 0, .int .i64 0, .slice none 0 0] 57)).heap.size = w.heap.size + 4 := by simp
      generalize (((w.alloc (Obj.cells #[.int .i64 W, .int .i64 H, .slice ao zs.length ca] 57)).alloc (Obj.cells #[.int .i64 phase] 3)).alloc (Obj.cells (threeA m) 121)).alloc (Obj.cells #[.int .i64 0, .int .i64 0, .slice none 0 0] 57) = U at *
      refine (plane_any W H _ zs _ (HV.out.below hB (Nat.le_refl _))).mono ?_
      rintro e w1 ⟨rfl, hb1⟩
      rw [hp]
      have g4 := (hb1.block (w.heap.size + 3) (by omega)).trans a4
      have g2 := bx1 ((hb1.block (w.heap.size + 1) (by omega)).trans a2)
      go_wp2_with fail
      refine (phase_any _ _).mono ?_
      rintro e w2 ⟨rfl, hb2⟩
      rw [hph]
      clear g2
      replace hb2 := bel_trans hb1 hb2
      replace g4 := (hb2.block (w.heap.size + 3) (by omega)).trans a4
      obtain ⟨z0, z1, z2⟩ := cells3 (b := w.heap.size + 1 + 1 + 1) g4
      have f0 := Lib.frozen_of_heap (b := w.heap.size + 1 + 1 + 1) g4 0
      have f1 := Lib.frozen_of_heap (b := w.heap.size + 1 + 1 + 1) g4 1
      have f2 := Lib.frozen_of_heap (b := w.heap.size + 1 + 1 + 1) g4 2
      have HFIN := hide (set3_below (hB.trans (hb2.mono hB.size)) (show w.heap.size ≤ w.heap.size + 1 + 1 + 1 by omega) (.int .i64 0) (.int .i64 0) (.slice none 0 0))
      go_wp2
      exact bodyPost_ret (v := .tuple #[.agg #[.int .i64 0, .int .i64 0, .slice none 0 0], .int .i64 3]) (by simp [results, Try.results101, go_sem, z0, z1, z2]) rfl ⟨.slice none 0 0, rfl, IsInts.nil _, HFIN.out, Fresh.nil _⟩
  · have he : E = 1 := by rw [← hE, gaiE, if_neg hp]
    have hp : planeOk W H zs = false := by simpa using hp
    subst he
    clear hE
    obtain ⟨ao, ca, rfl, _, _⟩ := hv
    go_enter Try.func101, Try.ntmps101
    go_wp2_with fail
    obtain ⟨a1, a2, a3, a4⟩ := al4 w (Obj.cells #[.int .i64 W, .int .i64 H, .slice ao zs.length ca] 57) (Obj.cells #[.int .i64 phase] 3) (Obj.cells (threeA m) 121) (Obj.cells #[.int .i64 0, .int .i64 0, .slice none 0 0] 57)
    have hB := be4 w (Obj.cells #[.int .i64 W, .int .i64 H, .slice ao zs.length ca] 57) (Obj.cells #[.int .i64 phase] 3) (Obj.cells (threeA m) 121) (Obj.cells #[.int .i64 0, .int .i64 0, .slice none 0 0] 57)
    have hs3 : ((((w.alloc (Obj.cells #[.int .i64 W, .int .i64 H, .slice ao zs.length ca] 57)).alloc (Obj.cells #[.int .i64 phase] 3)).alloc (Obj.cells (threeA m) 121)).alloc (Obj.cells #[.int .i64 0, .int .i64 0, .slice none 0 0] 57)).heap.size = w.heap.size + 4 := by simp
    generalize (((w.alloc (Obj.cells #[.int .i64 W, .int .i64 H, .slice ao zs.length ca] 57)).alloc (Obj.cells #[.int .i64 phase] 3)).alloc (Obj.cells (threeA m) 121)).alloc (Obj.cells #[.int .i64 0, .int .i64 0, .slice none 0 0] 57) = U at *
    refine (plane_any W H _ zs _ (HV.out.below hB (Nat.le_refl _))).mono ?_
    rintro e w1 ⟨rfl, hb1⟩
    rw [hp]
    have g4 := (hb1.block (w.heap.size + 3) (by omega)).trans a4
    generalize w1 = w2 at *
    have hb2 := hb1
    obtain ⟨z0, z1, z2⟩ := cells3 (b := w.heap.size + 1 + 1 + 1) g4
    have f0 := Lib.frozen_of_heap (b := w.heap.size + 1 + 1 + 1) g4 0
    have f1 := Lib.frozen_of_heap (b := w.heap.size + 1 + 1 + 1) g4 1
    have f2 := Lib.frozen_of_heap (b := w.heap.size + 1 + 1 + 1) g4 2
    have HFIN := hide (set3_below (hB.trans (hb2.mono hB.size)) (show w.heap.size ≤ w.heap.size + 1 + 1 + 1 by omega) (.int .i64 0) (.int .i64 0) (.slice none 0 0))
    go_wp2
    exact bodyPost_ret (v := .tuple #[.agg #[.int .i64 0, .int .i64 0, .slice none 0 0], .int .i64 1]) (by simp [results, Try.results101, go_sem, z0, z1, z2]) rfl ⟨.slice none 0 0, rfl, IsInts.nil _, HFIN.out, Fresh.nil _⟩

end Go.Proofs.Ytolcndchfnifhaa
