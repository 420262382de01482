/- Far: part 6 of what the proofs need. -/
import Derived.Test.YtolcndchfnifhacC1Far
import Derived.Test.YtolcndchfnifhacC2Far
import Derived.Test.YtolcndchfnifhacC3Far
import Derived.Test.YtolcndchfnifhacC4Far
import Derived.Test.YtolcndchfnifhacC5Far
import Derived.Laws.EntriesVeiled
import Derived.Laws.CopyOwn
namespace Go.Proofs.Ytolcndchfnifhac
open Go.RowKit
def sharpE (W H : Int) (ps : List Px) (amount : Int) : Int := if picOk W H ps = true then (if amountOk amount = true then 0 else 3) else 1
def sharpL (W H : Int) (ps : List Px) (amount : Int) : List Px := (List.range ps.length).map (sharpP ps W.toNat H.toNat amount)
set_option maxRecDepth 100000 in
set_option maxHeartbeats 1600000 in
theorem sharpen_any (W H : Int) (v : Value) (ps : List Px) (amount : Int) (w : World) (hv : IsPix w v ps) :
    Calls Try.prog 89 #[.agg #[.int .i64 W, .int .i64 H, v], .int .i64 amount] w fun e w' => ∃ r, e = .returned (.tuple #[.agg #[.int .i64 (okW (sharpE W H ps amount) W), .int .i64 (okW (sharpE W H ps amount) H), r], .int .i64 (sharpE W H ps amount)]) ∧ IsPix w' r (okL (sharpE W H ps amount) (sharpL W H ps amount)) ∧ Below w.heap.size w w' ∧ Fresh w.heap.size r := by
  have HV := hide hv
  obtain ⟨ao, ca, rfl, hla, hc⟩ := hv
  obtain ⟨E, hE⟩ : ∃ E, sharpE W H ps amount = E := ⟨_, rfl⟩
  rw [hE]
  by_cases hp : picOk W H ps = true
  · by_cases hm : amountOk amount = true
    · have he : E = 0 := by rw [← hE, sharpE, if_pos hp, if_pos hm]
      subst he
      clear hE
      have HAM := hide (show 0 ≤ amount ∧ amount ≤ 1024 by simpa [amountOk] using hm)
      obtain ⟨⟨w1, w2⟩, ⟨h1, h2⟩, hl, hpx⟩ := picOk_parts hp
      obtain ⟨WN, rfl⟩ := Int.eq_ofNat_of_zero_le (show 0 ≤ W by omega)
      obtain ⟨HN, rfl⟩ := Int.eq_ofNat_of_zero_le (show 0 ≤ H by omega)
      have HLEN := hide (show ps.length = HN * WN by rw [Nat.mul_comm]; exact_mod_cast hl)
      have HPX := hide hpx
      have HSL := hide (show sharpL (WN : Nat) (HN : Nat) ps amount = (List.range (HN * WN)).map (sharpP ps WN HN amount) by rw [sharpL, HLEN.out]; rfl)
      clear hl hpx
      go_enter Try.func89, Try.ntmps89
      go_wp2_with fail
      obtain ⟨a1, a2, a3⟩ := al3 w (Obj.cells #[.int .i64 (WN : Nat), .int .i64 (HN : Nat), .slice ao ps.length ca] 34) (Obj.cells #[.int .i64 amount] 3) (Obj.cells #[.int .i64 0, .int .i64 0, .slice none 0 0] 34)
      have hB := be3 w (Obj.cells #[.int .i64 (WN : Nat), .int .i64 (HN : Nat), .slice ao ps.length ca] 34) (Obj.cells #[.int .i64 amount] 3) (Obj.cells #[.int .i64 0, .int .i64 0, .slice none 0 0] 34)
      have hs3 : (((w.alloc (Obj.cells #[.int .i64 (WN : Nat), .int .i64 (HN : Nat), .slice ao ps.length ca] 34)).alloc (Obj.cells #[.int .i64 amount] 3)).alloc (Obj.cells #[.int .i64 0, .int .i64 0, .slice none 0 0] 34)).heap.size = w.heap.size + 3 := by simp
      generalize ((w.alloc (Obj.cells #[.int .i64 (WN : Nat), .int .i64 (HN : Nat), .slice ao ps.length ca] 34)).alloc (Obj.cells #[.int .i64 amount] 3)).alloc (Obj.cells #[.int .i64 0, .int .i64 0, .slice none 0 0] 34) = U at *
      replace hs3 := Nat.le_of_eq hs3.symm
      refine (picture_any WN HN _ ps _ (HV.out.below hB (Nat.le_refl _))).mono ?_
      rintro e w1 ⟨rfl, hb1⟩
      rw [hp]
      have g1 := (hb1.block (w.heap.size) (by omega)).trans a1
      have g2 := (hb1.block (w.heap.size + 1) (by omega)).trans a2
      have g3 := (hb1.block (w.heap.size + 1 + 1) (by omega)).trans a3
      have l0 : w1.cell? ⟨w.heap.size + 1, 0, none⟩ = some (.int .i64 amount) := by rw [Lib.cell_of_heap g2]; rfl
      go_wp2_with fail
      refine (amount_any _ _).mono ?_
      rintro e w2 ⟨rfl, hb2⟩
      rw [hm]
      clear l0
      replace hb2 := bel_trans hb1 hb2
      replace g1 := (hb2.block (w.heap.size) (by omega)).trans a1
      replace g2 := (hb2.block (w.heap.size + 1) (by omega)).trans a2
      replace g3 := (hb2.block (w.heap.size + 1 + 1) (by omega)).trans a3
      obtain ⟨p0, p1, p2⟩ := cells3 g1
      have hww : w.heap.size < w2.heap.size := by have := hb2.size; omega
      go_wp2_with fail
      obtain ⟨d1, d2⟩ := al2 w2 (Obj.cells #[.func (.func 90) #[] #[.pointer (some ⟨w.heap.size + 1, 0, none⟩)]] 39) (Obj.cells #[.int .i64 (WN : Nat), .int .i64 (HN : Nat)] 52)
      have hD := be2 w2 (Obj.cells #[.func (.func 90) #[] #[.pointer (some ⟨w.heap.size + 1, 0, none⟩)]] 39) (Obj.cells #[.int .i64 (WN : Nat), .int .i64 (HN : Nat)] 52)
      have hsD : ((w2.alloc (Obj.cells #[.func (.func 90) #[] #[.pointer (some ⟨w.heap.size + 1, 0, none⟩)]] 39)).alloc (Obj.cells #[.int .i64 (WN : Nat), .int .i64 (HN : Nat)] 52)).heap.size = w2.heap.size + 2 := by simp
      generalize (w2.alloc (Obj.cells #[.func (.func 90) #[] #[.pointer (some ⟨w.heap.size + 1, 0, none⟩)]] 39)).alloc (Obj.cells #[.int .i64 (WN : Nat), .int .i64 (HN : Nat)] 52) = Z at *
      replace hsD := Nat.le_of_eq hsD.symm
      have hb2s := hb2.size
      have hbZ := bel_trans hb2 hD
      refine (gridPicture_any WN HN (HN * WN) (by omega) (by omega) rfl 91 _ (sharpP ps WN HN amount) Z (enters_of Try.func91 (by kernel_rfl) rfl) ?_).mono ?_
      · intro j M hj hM
        have hj' : j < ps.length := by rw [HLEN.out]; exact hj
        obtain ⟨bk, off, hao, hbl, hcell⟩ : ∃ b off, ao = some ⟨b, off, none⟩ ∧ b < w.heap.size ∧ ∀ j (h : j < ps.length),
            w.cell? ⟨b, off + j * 3, none⟩ = some (.int .i64 ps[j].1) ∧ w.cell? ⟨b, off + j * 3 + 1, none⟩ = some (.int .i64 ps[j].2.1) ∧ w.cell? ⟨b, off + j * 3 + 2, none⟩ = some (.int .i64 ps[j].2.2) := by
          rcases hc with h | h
          · subst h; simp at hj'
          · exact h
        subst hao
        have hUM := bel_trans hbZ hM
        have hwM := hB.trans (hUM.mono hB.size)
        have hsM := hM.size
        have m1 := (hUM.block w.heap.size (by omega)).trans a1
        have m2 := (hUM.block (w.heap.size + 1) (by omega)).trans a2
        have m3 := (hM.block w2.heap.size (by omega)).trans d1
        have m4 := (hM.block (w2.heap.size + 1) (by omega)).trans d2
        obtain ⟨e0, e1, e2⟩ := cells3 m1
        exact sharpen2_any WN HN j bk off ca (by omega) (by omega) (by omega) (by omega) amount HAM.out.1 HAM.out.2 ps HLEN.out HPX.out hj' w.heap.size (w2.heap.size + 1) w2.heap.size (w.heap.size + 1) M (by omega) (by omega) (by omega) (by omega) (by omega)
          e0 e1 e2 (by rw [Lib.cell_of_heap m4]; rfl) (by rw [Lib.cell_of_heap m4]; rfl) (by rw [Lib.cell_of_heap m3]; rfl) (by rw [Lib.cell_of_heap m2]; rfl) (fun i hi => by
            obtain ⟨c0, c1, c2⟩ := hcell i hi
            rw [pxAt_get ps i hi] at c0 c1 c2
            exact ⟨(hwM.cell (p := ⟨bk, off + i * 3, none⟩) hbl).trans c0, (hwM.cell (p := ⟨bk, off + i * 3 + 1, none⟩) hbl).trans c1, (hwM.cell (p := ⟨bk, off + i * 3 + 2, none⟩) hbl).trans c2⟩)
      · rintro e w3 ⟨r, rfl, hr, hb3, hfr⟩
        clear p0 p1 p2
        rw [← HSL.out] at hr
        have hsl : (sharpL (WN : Nat) (HN : Nat) ps amount).length = ps.length := by simp [sharpL]
        have HSLL := hide hsl
        clear hsl
        replace hb3 := bel_trans hbZ hb3
        replace g3 := (hb3.block (w.heap.size + 1 + 1) (by omega)).trans a3
        obtain ⟨z0, z1, z2⟩ := cells3 g3
        have f0 := Lib.frozen_of_heap g3 0
        have f1 := Lib.frozen_of_heap g3 1
        have f2 := Lib.frozen_of_heap g3 2
        have HR := hide hr
        obtain ⟨ro, rc, rfl, _, _⟩ := hr
        have HFIN := hide (set3_below (hB.trans (hb3.mono hB.size)) (show w.heap.size ≤ w.heap.size + 1 + 1 by omega) (.int .i64 (WN : Nat)) (.int .i64 (HN : Nat)) (.slice ro (sharpL (WN : Nat) (HN : Nat) ps amount).length rc))
        have HPX2 := hide (HR.out.set3 hfr (show w.heap.size + 1 + 1 < Z.heap.size by omega) (.int .i64 (WN : Nat)) (.int .i64 (HN : Nat)) (.slice ro (sharpL (WN : Nat) (HN : Nat) ps amount).length rc))
        rw [HSLL.out] at HPX2 HFIN hfr
        rw [HSLL.out]
        go_wp2
        exact bodyPost_ret (v := .tuple #[.agg #[.int .i64 (WN : Nat), .int .i64 (HN : Nat), .slice ro ps.length rc], .int .i64 0]) (by simp [results, Try.results89, go_sem, z0, z1, z2]) rfl ⟨_, rfl, HPX2.out, HFIN.out, hfr.mono (by omega)⟩
    · have he : E = 3 := by rw [← hE, sharpE, if_pos hp, if_neg hm]
      have hm : amountOk amount = false := by simpa using hm
      subst he
      clear hE
      go_enter Try.func89, Try.ntmps89
      go_wp2_with fail
      obtain ⟨a1, a2, a3⟩ := al3 w (Obj.cells #[.int .i64 W, .int .i64 H, .slice ao ps.length ca] 34) (Obj.cells #[.int .i64 amount] 3) (Obj.cells #[.int .i64 0, .int .i64 0, .slice none 0 0] 34)
      have hB := be3 w (Obj.cells #[.int .i64 W, .int .i64 H, .slice ao ps.length ca] 34) (Obj.cells #[.int .i64 amount] 3) (Obj.cells #[.int .i64 0, .int .i64 0, .slice none 0 0] 34)
      have hs3 : (((w.alloc (Obj.cells #[.int .i64 W, .int .i64 H, .slice ao ps.length ca] 34)).alloc (Obj.cells #[.int .i64 amount] 3)).alloc (Obj.cells #[.int .i64 0, .int .i64 0, .slice none 0 0] 34)).heap.size = w.heap.size + 3 := by simp
      generalize ((w.alloc (Obj.cells #[.int .i64 W, .int .i64 H, .slice ao ps.length ca] 34)).alloc (Obj.cells #[.int .i64 amount] 3)).alloc (Obj.cells #[.int .i64 0, .int .i64 0, .slice none 0 0] 34) = U at *
      replace hs3 := Nat.le_of_eq hs3.symm
      refine (picture_any W H _ ps _ (HV.out.below hB (Nat.le_refl _))).mono ?_
      rintro e w1 ⟨rfl, hb1⟩
      rw [hp]
      have g1 := (hb1.block (w.heap.size) (by omega)).trans a1
      have g2 := (hb1.block (w.heap.size + 1) (by omega)).trans a2
      have g3 := (hb1.block (w.heap.size + 1 + 1) (by omega)).trans a3
      have l0 : w1.cell? ⟨w.heap.size + 1, 0, none⟩ = some (.int .i64 amount) := by rw [Lib.cell_of_heap g2]; rfl
      go_wp2_with fail
      refine (amount_any _ _).mono ?_
      rintro e w2 ⟨rfl, hb2⟩
      rw [hm]
      clear l0
      replace hb2 := bel_trans hb1 hb2
      replace g1 := (hb2.block (w.heap.size) (by omega)).trans a1
      replace g2 := (hb2.block (w.heap.size + 1) (by omega)).trans a2
      replace g3 := (hb2.block (w.heap.size + 1 + 1) (by omega)).trans a3
      obtain ⟨z0, z1, z2⟩ := cells3 g3
      have f0 := Lib.frozen_of_heap g3 0
      have f1 := Lib.frozen_of_heap g3 1
      have f2 := Lib.frozen_of_heap g3 2
      have HBL := hb2
      have HFIN := hide (set3_below (hB.trans (HBL.mono hB.size)) (show w.heap.size ≤ w.heap.size + 1 + 1 by omega) (.int .i64 0) (.int .i64 0) (.slice none 0 0))
      go_wp2
      exact bodyPost_ret (v := .tuple #[.agg #[.int .i64 0, .int .i64 0, .slice none 0 0], .int .i64 3]) (by simp [results, Try.results89, go_sem, z0, z1, z2]) rfl ⟨.slice none 0 0, rfl, IsPix.nil _, HFIN.out, Fresh.nil _⟩
  · have he : E = 1 := by rw [← hE, sharpE, if_neg hp]
    have hp : picOk W H ps = false := by simpa using hp
    subst he
    clear hE
    go_enter Try.func89, Try.ntmps89
    go_wp2_with fail
    obtain ⟨a1, a2, a3⟩ := al3 w (Obj.cells #[.int .i64 W, .int .i64 H, .slice ao ps.length ca] 34) (Obj.cells #[.int .i64 amount] 3) (Obj.cells #[.int .i64 0, .int .i64 0, .slice none 0 0] 34)
    have hB := be3 w (Obj.cells #[.int .i64 W, .int .i64 H, .slice ao ps.length ca] 34) (Obj.cells #[.int .i64 amount] 3) (Obj.cells #[.int .i64 0, .int .i64 0, .slice none 0 0] 34)
    have hs3 : (((w.alloc (Obj.cells #[.int .i64 W, .int .i64 H, .slice ao ps.length ca] 34)).alloc (Obj.cells #[.int .i64 amount] 3)).alloc (Obj.cells #[.int .i64 0, .int .i64 0, .slice none 0 0] 34)).heap.size = w.heap.size + 3 := by simp
    generalize ((w.alloc (Obj.cells #[.int .i64 W, .int .i64 H, .slice ao ps.length ca] 34)).alloc (Obj.cells #[.int .i64 amount] 3)).alloc (Obj.cells #[.int .i64 0, .int .i64 0, .slice none 0 0] 34) = U at *
    replace hs3 := Nat.le_of_eq hs3.symm
    refine (picture_any W H _ ps _ (HV.out.below hB (Nat.le_refl _))).mono ?_
    rintro e w1 ⟨rfl, hb1⟩
    rw [hp]
    have g1 := (hb1.block (w.heap.size) (by omega)).trans a1
    have g2 := (hb1.block (w.heap.size + 1) (by omega)).trans a2
    have g3 := (hb1.block (w.heap.size + 1 + 1) (by omega)).trans a3
    obtain ⟨z0, z1, z2⟩ := cells3 g3
    have f0 := Lib.frozen_of_heap g3 0
    have f1 := Lib.frozen_of_heap g3 1
    have f2 := Lib.frozen_of_heap g3 2
    have HBL := hb1
    have HFIN := hide (set3_below (hB.trans (HBL.mono hB.size)) (show w.heap.size ≤ w.heap.size + 1 + 1 by omega) (.int .i64 0) (.int .i64 0) (.slice none 0 0))
    go_wp2
    exact bodyPost_ret (v := .tuple #[.agg #[.int .i64 0, .int .i64 0, .slice none 0 0], .int .i64 1]) (by simp [results, Try.results89, go_sem, z0, z1, z2]) rfl ⟨.slice none 0 0, rfl, IsPix.nil _, HFIN.out, Fresh.nil _⟩
end Go.Proofs.Ytolcndchfnifhac

namespace Go.Proofs.Ytolcndchfnifhac
set_option linter.unusedVariables false
open Go.RowKit
abbrev frP (W H : Int) (v : Value) : Array Value := #[.int .i64 W, .int .i64 H, v, .int .i64 0, .int .i64 0, .slice none 0 0]
abbrev frQ (W H : Int) (v : Value) : Array Value := #[.int .i64 0, .int .i64 0, .slice none 0 0, .int .i64 W, .int .i64 H, v]
theorem cells6 {w : World} {b : Nat} {a0 a1 a2 a3 a4 a5 : Value} {t : TypeId} {fr : Nat × Nat} (h : w.heap[b]? = some (.cells #[a0, a1, a2, a3, a4, a5] t fr)) :
    w.cell? ⟨b, 0, none⟩ = some a0 ∧ w.cell? ⟨b, 1, none⟩ = some a1 ∧ w.cell? ⟨b, 2, none⟩ = some a2 ∧ w.cell? ⟨b, 3, none⟩ = some a3 ∧ w.cell? ⟨b, 4, none⟩ = some a4 ∧ w.cell? ⟨b, 5, none⟩ = some a5 :=
  ⟨by rw [Lib.cell_of_heap h]; rfl, by rw [Lib.cell_of_heap h]; rfl, by rw [Lib.cell_of_heap h]; rfl, by rw [Lib.cell_of_heap h]; rfl, by rw [Lib.cell_of_heap h]; rfl, by rw [Lib.cell_of_heap h]; rfl⟩
theorem IsInts.setRow {w : World} {v : Value} {xs : List Int} {B k : Nat} (h : IsInts w v xs) (hf : Fresh B v) (hk : k < B) (cs : Array Value) : IsInts (w.setRow k cs) v xs :=
  h.other (by simp) (fun b hb => setRow_other w k b cs hb) (hf.ne hk)
theorem IsPix.setRow {w : World} {v : Value} {xs : List Px} {B k : Nat} (h : IsPix w v xs) (hf : Fresh B v) (hk : k < B) (cs : Array Value) : IsPix (w.setRow k cs) v xs :=
  h.other (by simp) (fun b hb => setRow_other w k b cs hb) (hf.ne hk)
set_option maxRecDepth 100000 in
set_option maxHeartbeats 800000 in
theorem run_level (W H : Int) (v : Value) (zs : List Int) (m : Nat → Int) (white : Int) (w : World) (hv : IsInts w v zs) (hE : levE W H zs m white = 0) :
    Calls Try.prog 51 #[.agg #[.int .i64 (m 0), .int .i64 (m 1), .int .i64 (m 2), .int .i64 (m 3), .int .i64 white], .agg (frP W H v)] w fun e w' => ∃ r, e = .returned (.tuple #[.agg (frP W H r), .int .i64 0]) ∧ IsInts w' r (levL W zs m white) ∧ Below w.heap.size w w' ∧ Fresh w.heap.size r := by
  have HV := hide hv
  obtain ⟨ao, ca, rfl, _, _⟩ := hv
  obtain ⟨a1, a2, a3⟩ := al3 w (Obj.cells #[.int .i64 (m 0), .int .i64 (m 1), .int .i64 (m 2), .int .i64 (m 3), .int .i64 white] 80) (Obj.cells (frP W H (.slice ao zs.length ca)) 55) (Obj.cells #[.int .i64 0, .int .i64 0, .slice none 0 0, .int .i64 0, .int .i64 0, .slice none 0 0] 55)
  have HB := hide (be3 w (Obj.cells #[.int .i64 (m 0), .int .i64 (m 1), .int .i64 (m 2), .int .i64 (m 3), .int .i64 white] 80) (Obj.cells (frP W H (.slice ao zs.length ca)) 55) (Obj.cells #[.int .i64 0, .int .i64 0, .slice none 0 0, .int .i64 0, .int .i64 0, .slice none 0 0] 55))
  have HC := hide (level_any W H _ zs m white _ (HV.out.below HB.out (Nat.le_refl _)))
  rw [hE, show okW 0 W = W from rfl, show okW 0 H = H from rfl, show okL 0 (levL W zs m white) = levL W zs m white from rfl] at HC
  obtain ⟨q0, q1, q2, q3, q4, q5⟩ := cells6 a2
  have r0 := cell_of_row _ _ 0 _ _ _ a1
  have r1 := cell_of_row _ _ 1 _ _ _ a1
  have r2 := cell_of_row _ _ 2 _ _ _ a1
  have r3 := cell_of_row _ _ 3 _ _ _ a1
  have r4 := cell_of_row _ _ 4 _ _ _ a1
  simp only [List.getElem?_toArray, List.getElem?_cons_zero, List.getElem?_cons_succ] at r0 r1 r2 r3 r4
  go_enter Try.func51, Try.ntmps51
  go_wp2_with fail
  clear q0 q1 q2 q3 q4 q5 r0 r1 r2 r3 r4
  have hl3 := (Array.getElem?_eq_some_iff.1 a3).1
  generalize ((w.alloc (Obj.cells #[.int .i64 (m 0), .int .i64 (m 1), .int .i64 (m 2), .int .i64 (m 3), .int .i64 white] 80)).alloc (Obj.cells (frP W H (.slice ao zs.length ca)) 55)).alloc (Obj.cells #[.int .i64 0, .int .i64 0, .slice none 0 0, .int .i64 0, .int .i64 0, .slice none 0 0] 55) = U at *
  refine HC.out.mono ?_
  rintro e w1 ⟨r, rfl, hr, hb1, hfr⟩
  have HR := hide hr
  obtain ⟨ro, rc, rfl, x1, x2⟩ := hr
  clear x1 x2
  generalize (levL W zs m white).length = N at *
  have t6 := al1 w1 (Obj.cells #[.int .i64 W, .int .i64 H, .slice ro N rc] 31)
  have hb2 := bel_trans hb1 (bel_alloc w1 (Obj.cells #[.int .i64 W, .int .i64 H, .slice ro N rc] 31))
  have HR2 := hide (HR.out.alloc (Obj.cells #[.int .i64 W, .int .i64 H, .slice ro N rc] 31))
  have b3 := (hb2.block _ hl3).trans a3
  obtain ⟨k0, k1, k2⟩ := cells3 t6
  have hsz : w.heap.size + 2 < U.heap.size := hl3
  have HX := hide (HR2.out.setRow hfr hsz (frP W H (.slice ro N rc)))
  have HF := hide (below_setRow (g := w.heap.size + 2) (HB.out.trans (hb2.mono HB.out.size)) (by omega) (frP W H (.slice ro N rc)))
  have i1 : (Try.prog.info? 55).map (·.size) = some (frP W H (.slice ro N rc)).size := by kernel_rfl
  have i3 : (frP W H (.slice ro N rc)).all (·.oneCell') = true := by simp [Value.oneCell']
  have i4 : (w1.alloc (Obj.cells #[.int .i64 W, .int .i64 H, .slice ro N rc] 31)).heap[w.heap.size + 1 + 1]? = some (Obj.cells #[.int .i64 0, .int .i64 0, .slice none 0 0, .int .i64 0, .int .i64 0, .slice none 0 0] 55 (0, 0)) := b3
  go_wp2_with (refine wpList_store_row rfl 55 _ _ rfl (w.heap.size + 1 + 1) (frP W H (.slice ro N rc)) rfl rfl _ _ i4 i1 rfl i3 ?_)
  have hUw := HB.out.size
  obtain ⟨z0, z1, z2, z3, z4, z5⟩ := cells6 (setRow_heap _ _ _ (frP W H (.slice ro N rc)) _ _ i4)
  exact bodyPost_ret (v := .tuple #[.agg (frP W H (.slice ro N rc)), .int .i64 0]) (by simp [results, Try.results51, go_sem, z0, z1, z2, z3, z4, z5]) rfl ⟨_, rfl, HX.out, HF.out, hfr.mono hUw⟩
set_option maxRecDepth 100000 in
set_option maxHeartbeats 800000 in
theorem run_repair (W H : Int) (v : Value) (zs : List Int) (lv : Value) (ls : List Pt) (hls : ∀ j, j < ls.length → ptWf (ptAt ls j)) (w : World) (hv : IsInts w v zs) (hlv : IsPts w lv ls) (hE : repE W H zs ls = 0) :
    Calls Try.prog 58 #[.agg #[lv], .agg (frP W H v)] w fun e w' => ∃ r, e = .returned (.tuple #[.agg (frP W H r), .int .i64 0]) ∧ IsInts w' r (repL W H zs ls) ∧ Below w.heap.size w w' ∧ Fresh w.heap.size r := by
  have HV := hide hv
  obtain ⟨ao, ca, rfl, _, _⟩ := hv
  have HL := hide hlv
  obtain ⟨lo, lc, rfl, _, _⟩ := hlv
  obtain ⟨a1, a2, a3⟩ := al3 w (Obj.cells #[.slice lo ls.length lc] 82) (Obj.cells (frP W H (.slice ao zs.length ca)) 55) (Obj.cells #[.int .i64 0, .int .i64 0, .slice none 0 0, .int .i64 0, .int .i64 0, .slice none 0 0] 55)
  have HB := hide (be3 w (Obj.cells #[.slice lo ls.length lc] 82) (Obj.cells (frP W H (.slice ao zs.length ca)) 55) (Obj.cells #[.int .i64 0, .int .i64 0, .slice none 0 0, .int .i64 0, .int .i64 0, .slice none 0 0] 55))
  have HC := hide (repair_any W H _ zs _ ls hls _ (HV.out.below HB.out (Nat.le_refl _)) (HL.out.below HB.out (Nat.le_refl _)))
  rw [hE, show okW 0 W = W from rfl, show okW 0 H = H from rfl, show okL 0 (repL W H zs ls) = repL W H zs ls from rfl] at HC
  obtain ⟨q0, q1, q2, q3, q4, q5⟩ := cells6 a2
  have r0 := cell_of_row _ _ 0 _ _ _ a1
  simp only [List.getElem?_toArray, List.getElem?_cons_zero] at r0
  go_enter Try.func58, Try.ntmps58
  go_wp2_with fail
  clear q0 q1 q2 q3 q4 q5 r0
  have hl3 := (Array.getElem?_eq_some_iff.1 a3).1
  generalize ((w.alloc (Obj.cells #[.slice lo ls.length lc] 82)).alloc (Obj.cells (frP W H (.slice ao zs.length ca)) 55)).alloc (Obj.cells #[.int .i64 0, .int .i64 0, .slice none 0 0, .int .i64 0, .int .i64 0, .slice none 0 0] 55) = U at *
  refine HC.out.mono ?_
  rintro e w1 ⟨r, rfl, hr, hb1, hfr⟩
  have HR := hide hr
  obtain ⟨ro, rc, rfl, x1, x2⟩ := hr
  clear x1 x2
  generalize (repL W H zs ls).length = N at *
  have t6 := al1 w1 (Obj.cells #[.int .i64 W, .int .i64 H, .slice ro N rc] 31)
  have hb2 := bel_trans hb1 (bel_alloc w1 (Obj.cells #[.int .i64 W, .int .i64 H, .slice ro N rc] 31))
  have HR2 := hide (HR.out.alloc (Obj.cells #[.int .i64 W, .int .i64 H, .slice ro N rc] 31))
  have b3 := (hb2.block _ hl3).trans a3
  obtain ⟨k0, k1, k2⟩ := cells3 t6
  have hsz : w.heap.size + 2 < U.heap.size := hl3
  have HX := hide (HR2.out.setRow hfr hsz (frP W H (.slice ro N rc)))
  have HF := hide (below_setRow (g := w.heap.size + 2) (HB.out.trans (hb2.mono HB.out.size)) (by omega) (frP W H (.slice ro N rc)))
  have i1 : (Try.prog.info? 55).map (·.size) = some (frP W H (.slice ro N rc)).size := by kernel_rfl
  have i3 : (frP W H (.slice ro N rc)).all (·.oneCell') = true := by simp [Value.oneCell']
  have i4 : (w1.alloc (Obj.cells #[.int .i64 W, .int .i64 H, .slice ro N rc] 31)).heap[w.heap.size + 1 + 1]? = some (Obj.cells #[.int .i64 0, .int .i64 0, .slice none 0 0, .int .i64 0, .int .i64 0, .slice none 0 0] 55 (0, 0)) := b3
  go_wp2_with (refine wpList_store_row rfl 55 _ _ rfl (w.heap.size + 1 + 1) (frP W H (.slice ro N rc)) rfl rfl _ _ i4 i1 rfl i3 ?_)
  have hUw := HB.out.size
  obtain ⟨z0, z1, z2, z3, z4, z5⟩ := cells6 (setRow_heap _ _ _ (frP W H (.slice ro N rc)) _ _ i4)
  exact bodyPost_ret (v := .tuple #[.agg (frP W H (.slice ro N rc)), .int .i64 0]) (by simp [results, Try.results58, go_sem, z0, z1, z2, z3, z4, z5]) rfl ⟨_, rfl, HX.out, HF.out, hfr.mono hUw⟩
set_option maxRecDepth 100000 in
set_option maxHeartbeats 800000 in
theorem run_gain (W H : Int) (v : Value) (zs : List Int) (phase : Int) (m : Nat → Int) (w : World) (hv : IsInts w v zs) (hE : gaiE W H zs phase m = 0) :
    Calls Try.prog 65 #[.agg #[.int .i64 phase, .int .i64 (m 0), .int .i64 (m 1), .int .i64 (m 2)], .agg (frP W H v)] w fun e w' => ∃ r, e = .returned (.tuple #[.agg (frP W H r), .int .i64 0]) ∧ IsInts w' r (gaiL W zs phase m) ∧ Below w.heap.size w w' ∧ Fresh w.heap.size r := by
  have HV := hide hv
  obtain ⟨ao, ca, rfl, _, _⟩ := hv
  obtain ⟨a1, a2, a3⟩ := al3 w (Obj.cells #[.int .i64 phase, .int .i64 (m 0), .int .i64 (m 1), .int .i64 (m 2)] 84) (Obj.cells (frP W H (.slice ao zs.length ca)) 55) (Obj.cells #[.int .i64 0, .int .i64 0, .slice none 0 0, .int .i64 0, .int .i64 0, .slice none 0 0] 55)
  have HB := hide (be3 w (Obj.cells #[.int .i64 phase, .int .i64 (m 0), .int .i64 (m 1), .int .i64 (m 2)] 84) (Obj.cells (frP W H (.slice ao zs.length ca)) 55) (Obj.cells #[.int .i64 0, .int .i64 0, .slice none 0 0, .int .i64 0, .int .i64 0, .slice none 0 0] 55))
  have HC := hide (gain_any W H _ zs phase m _ (HV.out.below HB.out (Nat.le_refl _)))
  rw [hE, show okW 0 W = W from rfl, show okW 0 H = H from rfl, show okL 0 (gaiL W zs phase m) = gaiL W zs phase m from rfl] at HC
  obtain ⟨q0, q1, q2, q3, q4, q5⟩ := cells6 a2
  have r0 := cell_of_row _ _ 0 _ _ _ a1
  have r1 := cell_of_row _ _ 1 _ _ _ a1
  have r2 := cell_of_row _ _ 2 _ _ _ a1
  have r3 := cell_of_row _ _ 3 _ _ _ a1
  simp only [List.getElem?_toArray, List.getElem?_cons_zero, List.getElem?_cons_succ] at r0 r1 r2 r3
  go_enter Try.func65, Try.ntmps65
  go_wp2_with fail
  clear q0 q1 q2 q3 q4 q5 r0 r1 r2 r3
  have hl3 := (Array.getElem?_eq_some_iff.1 a3).1
  generalize ((w.alloc (Obj.cells #[.int .i64 phase, .int .i64 (m 0), .int .i64 (m 1), .int .i64 (m 2)] 84)).alloc (Obj.cells (frP W H (.slice ao zs.length ca)) 55)).alloc (Obj.cells #[.int .i64 0, .int .i64 0, .slice none 0 0, .int .i64 0, .int .i64 0, .slice none 0 0] 55) = U at *
  refine HC.out.mono ?_
  rintro e w1 ⟨r, rfl, hr, hb1, hfr⟩
  have HR := hide hr
  obtain ⟨ro, rc, rfl, x1, x2⟩ := hr
  clear x1 x2
  generalize (gaiL W zs phase m).length = N at *
  have t6 := al1 w1 (Obj.cells #[.int .i64 W, .int .i64 H, .slice ro N rc] 31)
  have hb2 := bel_trans hb1 (bel_alloc w1 (Obj.cells #[.int .i64 W, .int .i64 H, .slice ro N rc] 31))
  have HR2 := hide (HR.out.alloc (Obj.cells #[.int .i64 W, .int .i64 H, .slice ro N rc] 31))
  have b3 := (hb2.block _ hl3).trans a3
  obtain ⟨k0, k1, k2⟩ := cells3 t6
  have hsz : w.heap.size + 2 < U.heap.size := hl3
  have HX := hide (HR2.out.setRow hfr hsz (frP W H (.slice ro N rc)))
  have HF := hide (below_setRow (g := w.heap.size + 2) (HB.out.trans (hb2.mono HB.out.size)) (by omega) (frP W H (.slice ro N rc)))
  have i1 : (Try.prog.info? 55).map (·.size) = some (frP W H (.slice ro N rc)).size := by kernel_rfl
  have i3 : (frP W H (.slice ro N rc)).all (·.oneCell') = true := by simp [Value.oneCell']
  have i4 : (w1.alloc (Obj.cells #[.int .i64 W, .int .i64 H, .slice ro N rc] 31)).heap[w.heap.size + 1 + 1]? = some (Obj.cells #[.int .i64 0, .int .i64 0, .slice none 0 0, .int .i64 0, .int .i64 0, .slice none 0 0] 55 (0, 0)) := b3
  go_wp2_with (refine wpList_store_row rfl 55 _ _ rfl (w.heap.size + 1 + 1) (frP W H (.slice ro N rc)) rfl rfl _ _ i4 i1 rfl i3 ?_)
  have hUw := HB.out.size
  obtain ⟨z0, z1, z2, z3, z4, z5⟩ := cells6 (setRow_heap _ _ _ (frP W H (.slice ro N rc)) _ _ i4)
  exact bodyPost_ret (v := .tuple #[.agg (frP W H (.slice ro N rc)), .int .i64 0]) (by simp [results, Try.results65, go_sem, z0, z1, z2, z3, z4, z5]) rfl ⟨_, rfl, HX.out, HF.out, hfr.mono hUw⟩
set_option maxRecDepth 100000 in
set_option maxHeartbeats 800000 in
theorem run_fill (W H : Int) (v : Value) (zs : List Int) (phase : Int) (w : World) (hv : IsInts w v zs) (hE : fillE W H zs phase = 0) :
    Calls Try.prog 69 #[.agg #[.int .i64 phase], .agg (frP W H v)] w fun e w' => ∃ r, e = .returned (.tuple #[.agg (frQ W H r), .int .i64 0]) ∧ IsPix w' r (fillL W H zs phase) ∧ Below w.heap.size w w' ∧ Fresh w.heap.size r := by
  have HV := hide hv
  obtain ⟨ao, ca, rfl, _, _⟩ := hv
  obtain ⟨a1, a2, a3⟩ := al3 w (Obj.cells #[.int .i64 phase] 86) (Obj.cells (frP W H (.slice ao zs.length ca)) 55) (Obj.cells #[.int .i64 0, .int .i64 0, .slice none 0 0, .int .i64 0, .int .i64 0, .slice none 0 0] 55)
  have HB := hide (be3 w (Obj.cells #[.int .i64 phase] 86) (Obj.cells (frP W H (.slice ao zs.length ca)) 55) (Obj.cells #[.int .i64 0, .int .i64 0, .slice none 0 0, .int .i64 0, .int .i64 0, .slice none 0 0] 55))
  have HC := hide (fill_any W H _ zs phase _ (HV.out.below HB.out (Nat.le_refl _)))
  rw [hE, show okW 0 W = W from rfl, show okW 0 H = H from rfl, show okL 0 (fillL W H zs phase) = fillL W H zs phase from rfl] at HC
  obtain ⟨q0, q1, q2, q3, q4, q5⟩ := cells6 a2
  have r0 := cell_of_row _ _ 0 _ _ _ a1
  simp only [List.getElem?_toArray, List.getElem?_cons_zero] at r0
  go_enter Try.func69, Try.ntmps69
  go_wp2_with fail
  clear q0 q1 q2 q3 q4 q5 r0
  have hl3 := (Array.getElem?_eq_some_iff.1 a3).1
  generalize ((w.alloc (Obj.cells #[.int .i64 phase] 86)).alloc (Obj.cells (frP W H (.slice ao zs.length ca)) 55)).alloc (Obj.cells #[.int .i64 0, .int .i64 0, .slice none 0 0, .int .i64 0, .int .i64 0, .slice none 0 0] 55) = U at *
  refine HC.out.mono ?_
  rintro e w1 ⟨r, rfl, hr, hb1, hfr⟩
  have HR := hide hr
  obtain ⟨ro, rc, rfl, x1, x2⟩ := hr
  clear x1 x2
  generalize (fillL W H zs phase).length = N at *
  have t6 := al1 w1 (Obj.cells #[.int .i64 W, .int .i64 H, .slice ro N rc] 34)
  have hb2 := bel_trans hb1 (bel_alloc w1 (Obj.cells #[.int .i64 W, .int .i64 H, .slice ro N rc] 34))
  have HR2 := hide (HR.out.alloc (Obj.cells #[.int .i64 W, .int .i64 H, .slice ro N rc] 34))
  have b3 := (hb2.block _ hl3).trans a3
  obtain ⟨k0, k1, k2⟩ := cells3 t6
  have hsz : w.heap.size + 2 < U.heap.size := hl3
  have HX := hide (HR2.out.setRow hfr hsz (frQ W H (.slice ro N rc)))
  have HF := hide (below_setRow (g := w.heap.size + 2) (HB.out.trans (hb2.mono HB.out.size)) (by omega) (frQ W H (.slice ro N rc)))
  have i1 : (Try.prog.info? 55).map (·.size) = some (frQ W H (.slice ro N rc)).size := by kernel_rfl
  have i3 : (frQ W H (.slice ro N rc)).all (·.oneCell') = true := by simp [Value.oneCell']
  have i4 : (w1.alloc (Obj.cells #[.int .i64 W, .int .i64 H, .slice ro N rc] 34)).heap[w.heap.size + 1 + 1]? = some (Obj.cells #[.int .i64 0, .int .i64 0, .slice none 0 0, .int .i64 0, .int .i64 0, .slice none 0 0] 55 (0, 0)) := b3
  go_wp2_with (refine wpList_store_row rfl 55 _ _ rfl (w.heap.size + 1 + 1) (frQ W H (.slice ro N rc)) rfl rfl _ _ i4 i1 rfl i3 ?_)
  have hUw := HB.out.size
  obtain ⟨z0, z1, z2, z3, z4, z5⟩ := cells6 (setRow_heap _ _ _ (frQ W H (.slice ro N rc)) _ _ i4)
  exact bodyPost_ret (v := .tuple #[.agg (frQ W H (.slice ro N rc)), .int .i64 0]) (by simp [results, Try.results69, go_sem, z0, z1, z2, z3, z4, z5]) rfl ⟨_, rfl, HX.out, HF.out, hfr.mono hUw⟩
set_option maxRecDepth 100000 in
set_option maxHeartbeats 800000 in
theorem run_mix (W H : Int) (v : Value) (ps : List Px) (m : Nat → Int) (w : World) (hv : IsPix w v ps) (hE : mixE W H ps m = 0) :
    Calls Try.prog 78 #[.agg #[.int .i64 (m 0), .int .i64 (m 1), .int .i64 (m 2), .int .i64 (m 3), .int .i64 (m 4), .int .i64 (m 5), .int .i64 (m 6), .int .i64 (m 7), .int .i64 (m 8)], .agg (frQ W H v)] w fun e w' => ∃ r, e = .returned (.tuple #[.agg (frQ W H r), .int .i64 0]) ∧ IsPix w' r (ps.map (mixP m)) ∧ Below w.heap.size w w' ∧ Fresh w.heap.size r := by
  have HV := hide hv
  obtain ⟨ao, ca, rfl, _, _⟩ := hv
  obtain ⟨a1, a2, a3⟩ := al3 w (Obj.cells #[.int .i64 (m 0), .int .i64 (m 1), .int .i64 (m 2), .int .i64 (m 3), .int .i64 (m 4), .int .i64 (m 5), .int .i64 (m 6), .int .i64 (m 7), .int .i64 (m 8)] 88) (Obj.cells (frQ W H (.slice ao ps.length ca)) 55) (Obj.cells #[.int .i64 0, .int .i64 0, .slice none 0 0, .int .i64 0, .int .i64 0, .slice none 0 0] 55)
  have HB := hide (be3 w (Obj.cells #[.int .i64 (m 0), .int .i64 (m 1), .int .i64 (m 2), .int .i64 (m 3), .int .i64 (m 4), .int .i64 (m 5), .int .i64 (m 6), .int .i64 (m 7), .int .i64 (m 8)] 88) (Obj.cells (frQ W H (.slice ao ps.length ca)) 55) (Obj.cells #[.int .i64 0, .int .i64 0, .slice none 0 0, .int .i64 0, .int .i64 0, .slice none 0 0] 55))
  have HC := hide (mix_any W H _ ps m _ (HV.out.below HB.out (Nat.le_refl _)))
  rw [hE, show okW 0 W = W from rfl, show okW 0 H = H from rfl, show okL 0 (ps.map (mixP m)) = ps.map (mixP m) from rfl] at HC
  obtain ⟨q0, q1, q2, q3, q4, q5⟩ := cells6 a2
  have r0 := cell_of_row _ _ 0 _ _ _ a1
  have r1 := cell_of_row _ _ 1 _ _ _ a1
  have r2 := cell_of_row _ _ 2 _ _ _ a1
  have r3 := cell_of_row _ _ 3 _ _ _ a1
  have r4 := cell_of_row _ _ 4 _ _ _ a1
  have r5 := cell_of_row _ _ 5 _ _ _ a1
  have r6 := cell_of_row _ _ 6 _ _ _ a1
  have r7 := cell_of_row _ _ 7 _ _ _ a1
  have r8 := cell_of_row _ _ 8 _ _ _ a1
  simp only [List.getElem?_toArray, List.getElem?_cons_zero, List.getElem?_cons_succ] at r0 r1 r2 r3 r4 r5 r6 r7 r8
  go_enter Try.func78, Try.ntmps78
  go_wp2_with fail
  clear q0 q1 q2 q3 q4 q5 r0 r1 r2 r3 r4 r5 r6 r7 r8
  have hl3 := (Array.getElem?_eq_some_iff.1 a3).1
  generalize ((w.alloc (Obj.cells #[.int .i64 (m 0), .int .i64 (m 1), .int .i64 (m 2), .int .i64 (m 3), .int .i64 (m 4), .int .i64 (m 5), .int .i64 (m 6), .int .i64 (m 7), .int .i64 (m 8)] 88)).alloc (Obj.cells (frQ W H (.slice ao ps.length ca)) 55)).alloc (Obj.cells #[.int .i64 0, .int .i64 0, .slice none 0 0, .int .i64 0, .int .i64 0, .slice none 0 0] 55) = U at *
  refine HC.out.mono ?_
  rintro e w1 ⟨r, rfl, hr, hb1, hfr⟩
  have HR := hide hr
  obtain ⟨ro, rc, rfl, x1, x2⟩ := hr
  clear x1 x2
  generalize (ps.map (mixP m)).length = N at *
  have t6 := al1 w1 (Obj.cells #[.int .i64 W, .int .i64 H, .slice ro N rc] 34)
  have hb2 := bel_trans hb1 (bel_alloc w1 (Obj.cells #[.int .i64 W, .int .i64 H, .slice ro N rc] 34))
  have HR2 := hide (HR.out.alloc (Obj.cells #[.int .i64 W, .int .i64 H, .slice ro N rc] 34))
  have b3 := (hb2.block _ hl3).trans a3
  obtain ⟨k0, k1, k2⟩ := cells3 t6
  have hsz : w.heap.size + 2 < U.heap.size := hl3
  have HX := hide (HR2.out.setRow hfr hsz (frQ W H (.slice ro N rc)))
  have HF := hide (below_setRow (g := w.heap.size + 2) (HB.out.trans (hb2.mono HB.out.size)) (by omega) (frQ W H (.slice ro N rc)))
  have i1 : (Try.prog.info? 55).map (·.size) = some (frQ W H (.slice ro N rc)).size := by kernel_rfl
  have i3 : (frQ W H (.slice ro N rc)).all (·.oneCell') = true := by simp [Value.oneCell']
  have i4 : (w1.alloc (Obj.cells #[.int .i64 W, .int .i64 H, .slice ro N rc] 34)).heap[w.heap.size + 1 + 1]? = some (Obj.cells #[.int .i64 0, .int .i64 0, .slice none 0 0, .int .i64 0, .int .i64 0, .slice none 0 0] 55 (0, 0)) := b3
  go_wp2_with (refine wpList_store_row rfl 55 _ _ rfl (w.heap.size + 1 + 1) (frQ W H (.slice ro N rc)) rfl rfl _ _ i4 i1 rfl i3 ?_)
  have hUw := HB.out.size
  obtain ⟨z0, z1, z2, z3, z4, z5⟩ := cells6 (setRow_heap _ _ _ (frQ W H (.slice ro N rc)) _ _ i4)
  exact bodyPost_ret (v := .tuple #[.agg (frQ W H (.slice ro N rc)), .int .i64 0]) (by simp [results, Try.results78, go_sem, z0, z1, z2, z3, z4, z5]) rfl ⟨_, rfl, HX.out, HF.out, hfr.mono hUw⟩
set_option maxRecDepth 100000 in
set_option maxHeartbeats 800000 in
theorem run_bend (W H : Int) (v : Value) (ps : List Px) (lv : Value) (ls : List Pt) (w : World) (hv : IsPix w v ps) (hlv : IsPts w lv ls) (hE : bendE W H ps ls = 0) :
    Calls Try.prog 85 #[.agg #[lv], .agg (frQ W H v)] w fun e w' => ∃ r, e = .returned (.tuple #[.agg (frQ W H r), .int .i64 0]) ∧ IsPix w' r (ps.map (bendP ls)) ∧ Below w.heap.size w w' ∧ Fresh w.heap.size r := by
  have HV := hide hv
  obtain ⟨ao, ca, rfl, _, _⟩ := hv
  have HL := hide hlv
  obtain ⟨lo, lc, rfl, _, _⟩ := hlv
  obtain ⟨a1, a2, a3⟩ := al3 w (Obj.cells #[.slice lo ls.length lc] 90) (Obj.cells (frQ W H (.slice ao ps.length ca)) 55) (Obj.cells #[.int .i64 0, .int .i64 0, .slice none 0 0, .int .i64 0, .int .i64 0, .slice none 0 0] 55)
  have HB := hide (be3 w (Obj.cells #[.slice lo ls.length lc] 90) (Obj.cells (frQ W H (.slice ao ps.length ca)) 55) (Obj.cells #[.int .i64 0, .int .i64 0, .slice none 0 0, .int .i64 0, .int .i64 0, .slice none 0 0] 55))
  have HC := hide (bend_any W H _ ps _ ls _ (HV.out.below HB.out (Nat.le_refl _)) (HL.out.below HB.out (Nat.le_refl _)))
  rw [hE, show okW 0 W = W from rfl, show okW 0 H = H from rfl, show okL 0 (ps.map (bendP ls)) = ps.map (bendP ls) from rfl] at HC
  obtain ⟨q0, q1, q2, q3, q4, q5⟩ := cells6 a2
  have r0 := cell_of_row _ _ 0 _ _ _ a1
  simp only [List.getElem?_toArray, List.getElem?_cons_zero] at r0
  go_enter Try.func85, Try.ntmps85
  go_wp2_with fail
  clear q0 q1 q2 q3 q4 q5 r0
  have hl3 := (Array.getElem?_eq_some_iff.1 a3).1
  generalize ((w.alloc (Obj.cells #[.slice lo ls.length lc] 90)).alloc (Obj.cells (frQ W H (.slice ao ps.length ca)) 55)).alloc (Obj.cells #[.int .i64 0, .int .i64 0, .slice none 0 0, .int .i64 0, .int .i64 0, .slice none 0 0] 55) = U at *
  refine HC.out.mono ?_
  rintro e w1 ⟨r, rfl, hr, hb1, hfr⟩
  have HR := hide hr
  obtain ⟨ro, rc, rfl, x1, x2⟩ := hr
  clear x1 x2
  generalize (ps.map (bendP ls)).length = N at *
  have t6 := al1 w1 (Obj.cells #[.int .i64 W, .int .i64 H, .slice ro N rc] 34)
  have hb2 := bel_trans hb1 (bel_alloc w1 (Obj.cells #[.int .i64 W, .int .i64 H, .slice ro N rc] 34))
  have HR2 := hide (HR.out.alloc (Obj.cells #[.int .i64 W, .int .i64 H, .slice ro N rc] 34))
  have b3 := (hb2.block _ hl3).trans a3
  obtain ⟨k0, k1, k2⟩ := cells3 t6
  have hsz : w.heap.size + 2 < U.heap.size := hl3
  have HX := hide (HR2.out.setRow hfr hsz (frQ W H (.slice ro N rc)))
  have HF := hide (below_setRow (g := w.heap.size + 2) (HB.out.trans (hb2.mono HB.out.size)) (by omega) (frQ W H (.slice ro N rc)))
  have i1 : (Try.prog.info? 55).map (·.size) = some (frQ W H (.slice ro N rc)).size := by kernel_rfl
  have i3 : (frQ W H (.slice ro N rc)).all (·.oneCell') = true := by simp [Value.oneCell']
  have i4 : (w1.alloc (Obj.cells #[.int .i64 W, .int .i64 H, .slice ro N rc] 34)).heap[w.heap.size + 1 + 1]? = some (Obj.cells #[.int .i64 0, .int .i64 0, .slice none 0 0, .int .i64 0, .int .i64 0, .slice none 0 0] 55 (0, 0)) := b3
  go_wp2_with (refine wpList_store_row rfl 55 _ _ rfl (w.heap.size + 1 + 1) (frQ W H (.slice ro N rc)) rfl rfl _ _ i4 i1 rfl i3 ?_)
  have hUw := HB.out.size
  obtain ⟨z0, z1, z2, z3, z4, z5⟩ := cells6 (setRow_heap _ _ _ (frQ W H (.slice ro N rc)) _ _ i4)
  exact bodyPost_ret (v := .tuple #[.agg (frQ W H (.slice ro N rc)), .int .i64 0]) (by simp [results, Try.results85, go_sem, z0, z1, z2, z3, z4, z5]) rfl ⟨_, rfl, HX.out, HF.out, hfr.mono hUw⟩
set_option maxRecDepth 100000 in
set_option maxHeartbeats 800000 in
theorem run_sharpen (W H : Int) (v : Value) (ps : List Px) (amount : Int) (w : World) (hv : IsPix w v ps) (hE : sharpE W H ps amount = 0) :
    Calls Try.prog 88 #[.agg #[.int .i64 amount], .agg (frQ W H v)] w fun e w' => ∃ r, e = .returned (.tuple #[.agg (frQ W H r), .int .i64 0]) ∧ IsPix w' r (sharpL W H ps amount) ∧ Below w.heap.size w w' ∧ Fresh w.heap.size r := by
  have HV := hide hv
  obtain ⟨ao, ca, rfl, _, _⟩ := hv
  obtain ⟨a1, a2, a3⟩ := al3 w (Obj.cells #[.int .i64 amount] 92) (Obj.cells (frQ W H (.slice ao ps.length ca)) 55) (Obj.cells #[.int .i64 0, .int .i64 0, .slice none 0 0, .int .i64 0, .int .i64 0, .slice none 0 0] 55)
  have HB := hide (be3 w (Obj.cells #[.int .i64 amount] 92) (Obj.cells (frQ W H (.slice ao ps.length ca)) 55) (Obj.cells #[.int .i64 0, .int .i64 0, .slice none 0 0, .int .i64 0, .int .i64 0, .slice none 0 0] 55))
  have HC := hide (sharpen_any W H _ ps amount _ (HV.out.below HB.out (Nat.le_refl _)))
  rw [hE, show okW 0 W = W from rfl, show okW 0 H = H from rfl, show okL 0 (sharpL W H ps amount) = sharpL W H ps amount from rfl] at HC
  obtain ⟨q0, q1, q2, q3, q4, q5⟩ := cells6 a2
  have r0 := cell_of_row _ _ 0 _ _ _ a1
  simp only [List.getElem?_toArray, List.getElem?_cons_zero] at r0
  go_enter Try.func88, Try.ntmps88
  go_wp2_with fail
  clear q0 q1 q2 q3 q4 q5 r0
  have hl3 := (Array.getElem?_eq_some_iff.1 a3).1
  generalize ((w.alloc (Obj.cells #[.int .i64 amount] 92)).alloc (Obj.cells (frQ W H (.slice ao ps.length ca)) 55)).alloc (Obj.cells #[.int .i64 0, .int .i64 0, .slice none 0 0, .int .i64 0, .int .i64 0, .slice none 0 0] 55) = U at *
  refine HC.out.mono ?_
  rintro e w1 ⟨r, rfl, hr, hb1, hfr⟩
  have HR := hide hr
  obtain ⟨ro, rc, rfl, x1, x2⟩ := hr
  clear x1 x2
  generalize (sharpL W H ps amount).length = N at *
  have t6 := al1 w1 (Obj.cells #[.int .i64 W, .int .i64 H, .slice ro N rc] 34)
  have hb2 := bel_trans hb1 (bel_alloc w1 (Obj.cells #[.int .i64 W, .int .i64 H, .slice ro N rc] 34))
  have HR2 := hide (HR.out.alloc (Obj.cells #[.int .i64 W, .int .i64 H, .slice ro N rc] 34))
  have b3 := (hb2.block _ hl3).trans a3
  obtain ⟨k0, k1, k2⟩ := cells3 t6
  have hsz : w.heap.size + 2 < U.heap.size := hl3
  have HX := hide (HR2.out.setRow hfr hsz (frQ W H (.slice ro N rc)))
  have HF := hide (below_setRow (g := w.heap.size + 2) (HB.out.trans (hb2.mono HB.out.size)) (by omega) (frQ W H (.slice ro N rc)))
  have i1 : (Try.prog.info? 55).map (·.size) = some (frQ W H (.slice ro N rc)).size := by kernel_rfl
  have i3 : (frQ W H (.slice ro N rc)).all (·.oneCell') = true := by simp [Value.oneCell']
  have i4 : (w1.alloc (Obj.cells #[.int .i64 W, .int .i64 H, .slice ro N rc] 34)).heap[w.heap.size + 1 + 1]? = some (Obj.cells #[.int .i64 0, .int .i64 0, .slice none 0 0, .int .i64 0, .int .i64 0, .slice none 0 0] 55 (0, 0)) := b3
  go_wp2_with (refine wpList_store_row rfl 55 _ _ rfl (w.heap.size + 1 + 1) (frQ W H (.slice ro N rc)) rfl rfl _ _ i4 i1 rfl i3 ?_)
  have hUw := HB.out.size
  obtain ⟨z0, z1, z2, z3, z4, z5⟩ := cells6 (setRow_heap _ _ _ (frQ W H (.slice ro N rc)) _ _ i4)
  exact bodyPost_ret (v := .tuple #[.agg (frQ W H (.slice ro N rc)), .int .i64 0]) (by simp [results, Try.results88, go_sem, z0, z1, z2, z3, z4, z5]) rfl ⟨_, rfl, HX.out, HF.out, hfr.mono hUw⟩
end Go.Proofs.Ytolcndchfnifhac

namespace Go.Proofs.Ytolcndchfnifhac
set_option linter.unusedVariables false
open Go.RowKit
theorem IsPix.cells {w : World} {v : Value} {ps : List Px} (h : IsPix w v ps) (hn : 1 ≤ ps.length) : ∃ bk off ca, v = .slice (some ⟨bk, off, none⟩) ps.length ca ∧ bk < w.heap.size ∧ ∀ j, j < ps.length → w.cell? ⟨bk, off + j * 3, none⟩ = some (.int .i64 (pxAt ps j).1) ∧ w.cell? ⟨bk, off + j * 3 + 1, none⟩ = some (.int .i64 (pxAt ps j).2.1) ∧ w.cell? ⟨bk, off + j * 3 + 2, none⟩ = some (.int .i64 (pxAt ps j).2.2) := by
  obtain ⟨ao, ca, rfl, _, h⟩ := h
  rcases h with h | ⟨b, off, rfl, hlt, hc⟩
  · subst h; simp at hn
  · exact ⟨b, off, ca, rfl, hlt, fun j hj => by
      have := hc j hj
      rw [pxAt_get ps j hj] at this
      exact this⟩
end Go.Proofs.Ytolcndchfnifhac

namespace Go.Proofs.Ytolcndchfnifhac
theorem mF_upto {N : Nat} {zs : List Int} {B : Int} (h : ∀ j, 0 ≤ zAt zs j ∧ zAt zs j ≤ B) (W H : Nat) (px py : Fin N → Int) (cnt : Fin N → Bool) (pre : List (Fin N)) (s : Int × Nat) (h1 : 0 ≤ s.1) (h2 : s.1 ≤ s.2 * B) :
    0 ≤ (pre.foldl (mStep zs W H px py cnt) s).1 ∧ (pre.foldl (mStep zs W H px py cnt) s).1 ≤ (pre.foldl (mStep zs W H px py cnt) s).2 * B := by
  induction pre generalizing s with
  | nil => exact ⟨h1, h2⟩
  | cons x pre ih =>
    simp only [List.foldl_cons]
    have hz := h ((py x).toNat * W + (px x).toNat)
    refine ih (mStep zs W H px py cnt s x) ?_ ?_
    · unfold mStep
      split
      · show 0 ≤ s.1 + zAt zs ((py x).toNat * W + (px x).toNat); omega
      · exact h1
    · unfold mStep
      split
      · show s.1 + zAt zs ((py x).toNat * W + (px x).toNat) ≤ ((s.2 + 1 : Nat) : Int) * B
        have e : ((s.2 + 1 : Nat) : Int) * B = s.2 * B + B := by rw [Int.natCast_add, Int.add_mul]; simp
        omega
      · exact h2
theorem meanV_upto {N : Nat} {zs : List Int} {B : Int} (h : ∀ j, 0 ≤ zAt zs j ∧ zAt zs j ≤ B) (W H : Nat) (px py : Fin N → Int) (cnt : Fin N → Bool) : 0 ≤ meanV zs W H px py cnt ∧ meanV zs W H px py cnt ≤ B := by
  have hB : 0 ≤ B := by have := h 0; omega
  obtain ⟨h1, h2⟩ := mF_upto h W H px py cnt (List.finRange N) (0, 0) (Int.le_refl _) (by simp)
  unfold meanV mF
  generalize (List.finRange N).foldl (mStep zs W H px py cnt) (0, 0) = s at *
  split
  · exact ⟨Int.le_refl _, hB⟩
  · rename_i hn
    refine ⟨Int.ediv_nonneg h1 (by omega), Int.ediv_le_of_le_mul (by omega) ?_⟩
    rw [Int.mul_comm]; exact h2
theorem partV_upto {zs : List Int} {B : Int} (h : ∀ j, 0 ≤ zAt zs j ∧ zAt zs j ≤ B) (W H p X Y c : Nat) : 0 ≤ partV zs W H p X Y c ∧ partV zs W H p X Y c ≤ B := by
  unfold partV
  split
  · exact h _
  · exact meanV_upto h W H _ _ _
theorem fillL_length (W H : Int) (zs : List Int) (phase : Int) : (fillL W H zs phase).length = zs.length := by simp [fillL]
theorem fill_ok {W H : Int} {zs : List Int} (phase : Int) (h : planeOk W H zs = true) : picOk W H (fillL W H zs phase) = true := by
  obtain ⟨h1, h2, h3, _⟩ := planeOk_parts h
  have hz := zAt_ok (planeOk_all h)
  rw [planeOk_eq, Bool.and_eq_true] at h
  rw [picOk, fillL_length, h.1, Bool.true_and]
  refine List.all_eq_true.2 fun q hq => ?_
  obtain ⟨j, _, rfl⟩ := List.mem_map.1 hq
  exact (pxOk_iff _).2 ⟨partV_upto hz _ _ _ _ _ 0, partV_upto hz _ _ _ _ _ 1, partV_upto hz _ _ _ _ _ 2⟩
end Go.Proofs.Ytolcndchfnifhac

namespace Go.Proofs.Ytolcndchfnifhac
theorem isAt_exists {ls : List Pt} (h : IsCurve ls) {x : Int} (hx : x ≤ 65535) : ∃ i, isAt ls x i := by
  have key : ∀ k, k ≤ ls.length → (∃ i, isAt ls x i) ∨ ∀ j, j < k → (ptAt ls j).1 < x := by
    intro k
    induction k with
    | zero => intro _; exact .inr fun j hj => by omega
    | succ k ih =>
      intro hk
      rcases ih (by omega) with h1 | h1
      · exact .inl h1
      · by_cases hc : (ptAt ls k).1 < x
        · refine .inr fun j hj => ?_
          rcases Nat.eq_or_lt_of_le (show j ≤ k by omega) with e | hlt
          · rw [e]; exact hc
          · exact h1 j hlt
        · exact .inl ⟨k, by omega, by omega, h1⟩
  rcases key ls.length (Nat.le_refl _) with h1 | h1
  · exact h1
  · have := h1 (ls.length - 1) (by have := h.two; omega)
    have := h.last
    omega
end Go.Proofs.Ytolcndchfnifhac

namespace Go.Proofs.Ytolcndchfnifhac
set_option linter.unusedVariables false
theorem allIn_of {a b : Int} {xs : List Int} (h : ∀ x ∈ xs, a ≤ x ∧ x ≤ b) : allIn a b xs = true := List.all_eq_true.2 fun x hx => decide_eq_true (h x hx)
theorem planeOk_map {W H : Int} {zs : List Int} (h : planeOk W H zs = true) (f : Nat → Int) (hf : ∀ j, 0 ≤ f j ∧ f j ≤ 65535) : planeOk W H ((List.range zs.length).map f) = true := by
  rw [planeOk_eq, Bool.and_eq_true] at h ⊢
  refine ⟨by simpa using h.1, allIn_of fun x hx => ?_⟩
  obtain ⟨j, _, rfl⟩ := List.mem_map.1 hx
  exact hf j
theorem pxOk_of {p : Px} (h1 : 0 ≤ p.1 ∧ p.1 ≤ 65535) (h2 : 0 ≤ p.2.1 ∧ p.2.1 ≤ 65535) (h3 : 0 ≤ p.2.2 ∧ p.2.2 ≤ 65535) : pxOk p = true :=
  allIn_of fun x hx => by
    simp only [List.mem_cons, List.not_mem_nil, or_false] at hx
    rcases hx with rfl | rfl | rfl
    · exact h1
    · exact h2
    · exact h3
theorem picOk_of {W H : Int} {ps qs : List Px} (h : picOk W H ps = true) (hl : qs.length = ps.length) (hq : ∀ q ∈ qs, pxOk q = true) : picOk W H qs = true := by
  rw [picOk, Bool.and_eq_true] at h ⊢
  exact ⟨by rw [hl]; exact h.1, List.all_eq_true.2 hq⟩
def dev1 (n : Plan) (W : Int) (zs : List Int) : List Int := levL W zs n.black n.white
def dev2 (n : Plan) (W H : Int) (zs : List Int) : List Int := repL W H (dev1 n W zs) n.spots
def dev3 (n : Plan) (W H : Int) (zs : List Int) : List Int := gaiL W (dev2 n W H zs) n.phase n.gains
def dev4 (n : Plan) (W H : Int) (zs : List Int) : List Px := fillL W H (dev3 n W H zs) n.phase
def dev5 (n : Plan) (W H : Int) (zs : List Int) : List Px := (dev4 n W H zs).map (mixP n.matrix)
def dev6 (n : Plan) (W H : Int) (zs : List Int) : List Px := (dev5 n W H zs).map (bendP n.curve)
def dev7 (n : Plan) (W H : Int) (zs : List Int) : List Px := sharpL W H (dev6 n W H zs) n.amount
theorem dev1_length (n : Plan) (W : Int) (zs : List Int) : (dev1 n W zs).length = zs.length := by simp [dev1, levL]
theorem dev2_length (n : Plan) (W H : Int) (zs : List Int) : (dev2 n W H zs).length = zs.length := by simp [dev2, repL, dev1_length]
theorem dev3_length (n : Plan) (W H : Int) (zs : List Int) : (dev3 n W H zs).length = zs.length := by simp [dev3, gaiL, dev2_length]
theorem dev4_length (n : Plan) (W H : Int) (zs : List Int) : (dev4 n W H zs).length = zs.length := by simp [dev4, fillL_length, dev3_length]
theorem dev5_length (n : Plan) (W H : Int) (zs : List Int) : (dev5 n W H zs).length = zs.length := by simp [dev5, dev4_length]
theorem dev6_length (n : Plan) (W H : Int) (zs : List Int) : (dev6 n W H zs).length = zs.length := by simp [dev6, dev5_length]
theorem dev7_length (n : Plan) (W H : Int) (zs : List Int) : (dev7 n W H zs).length = zs.length := by simp [dev7, sharpL, dev6_length]
structure DevOk (n : Plan) (W H : Int) (zs : List Int) : Prop where
  plane : planeOk W H zs = true
  phase : phaseOk n.phase = true
  levels : levelsOk n.black n.white = true
  gains : gainsOk n.gains = true
  matrix : matOk n.matrix = true
  amount : amountOk n.amount = true
  many : (n.spots.length : Int) ≤ 64
  spots : spotsB W H n.spots = true
  curve : curveOk n.curve = true
theorem planE_zero {n : Plan} (h : planE n = 0) : phaseOk n.phase = true ∧ levelsOk n.black n.white = true ∧ gainsOk n.gains = true ∧ matOk n.matrix = true ∧ amountOk n.amount = true ∧ (n.spots.length : Int) ≤ 64 ∧ spotsB 64 64 n.spots = true ∧ curveOk n.curve = true := by
  unfold planE at h
  split at h
  · rename_i h1
    split at h
    · rename_i h2
      simp only [sensOk, toneOk, spotOk, Bool.and_eq_true, decide_eq_true_eq] at h1
      exact ⟨h1.1.1.1.1, h1.1.1.1.2, h1.1.1.2, h1.1.2.1, h1.1.2.2, h1.2.1, h1.2.2, h2⟩
    · cases h
  · cases h
section
variable {n : Plan} {W H : Int} {zs : List Int} (h : DevOk n W H zs)
include h
theorem DevOk.e1 : levE W H zs n.black n.white = 0 := by rw [levE, if_pos h.plane, if_pos h.levels]
theorem DevOk.p1 : planeOk W H (dev1 n W zs) = true := planeOk_map h.plane _ fun j => clampV_range _
theorem DevOk.e2 : repE W H (dev1 n W zs) n.spots = 0 := by rw [repE, if_pos h.p1, if_pos h.many, if_pos h.spots]
theorem DevOk.p2 : planeOk W H (dev2 n W H zs) = true := planeOk_map h.p1 _ fun j => by
  have hz := fun j => zAt_ok (planeOk_all h.p1) j
  unfold repV
  split
  · exact hz j
  · exact meanV_upto hz _ _ _ _ _
theorem DevOk.e3 : gaiE W H (dev2 n W H zs) n.phase n.gains = 0 := by rw [gaiE, if_pos h.p2, if_pos ⟨h.phase, h.gains⟩]
theorem DevOk.p3 : planeOk W H (dev3 n W H zs) = true := planeOk_map h.p2 _ fun j => clampV_range _
theorem DevOk.e4 : fillE W H (dev3 n W H zs) n.phase = 0 := by rw [fillE, if_pos h.p3, if_pos h.phase]
theorem DevOk.p4 : picOk W H (dev4 n W H zs) = true := fill_ok _ h.p3
theorem DevOk.e5 : mixE W H (dev4 n W H zs) n.matrix = 0 := by rw [mixE, if_pos h.p4, if_pos h.matrix]
theorem DevOk.p5 : picOk W H (dev5 n W H zs) = true := picOk_of h.p4 (by simp [dev5]) fun q hq => by
  obtain ⟨p, _, rfl⟩ := List.mem_map.1 hq
  exact pxOk_of (clampV_range _) (clampV_range _) (clampV_range _)
theorem DevOk.e6 : bendE W H (dev5 n W H zs) n.curve = 0 := by rw [bendE, if_pos ⟨h.p5, h.curve⟩]
theorem DevOk.p6 : picOk W H (dev6 n W H zs) = true := picOk_of h.p5 (by simp [dev6]) fun q hq => by
  obtain ⟨p, hp, rfl⟩ := List.mem_map.1 hq
  have hps := (picOk_parts h.p5).2.2.2
  have hpo : pxOk p = true := List.all_eq_true.1 hps p hp
  have hpp : (0 ≤ p.1 ∧ p.1 ≤ 65535) ∧ (0 ≤ p.2.1 ∧ p.2.1 ≤ 65535) ∧ (0 ≤ p.2.2 ∧ p.2.2 ≤ 65535) := by simpa [pxOk, allIn] using hpo
  have hc := isCurve_of h.curve
  have hr : ∀ x, 0 ≤ x ∧ x ≤ 65535 → 0 ≤ heightV n.curve x ∧ heightV n.curve x ≤ 65535 := fun x hx => by
    obtain ⟨i, hi⟩ := isAt_exists hc hx.2
    exact heightV_range hc hi hx.1
  exact pxOk_of (hr _ hpp.1) (hr _ hpp.2.1) (hr _ hpp.2.2)
theorem DevOk.e7 : sharpE W H (dev6 n W H zs) n.amount = 0 := by rw [sharpE, if_pos h.p6, if_pos h.amount]
theorem DevOk.p7 : picOk W H (dev7 n W H zs) = true := picOk_of h.p6 (by simp [dev7, sharpL]) fun q hq => by
  obtain ⟨j, _, rfl⟩ := List.mem_map.1 hq
  exact pxOk_of (clampV_range _) (clampV_range _) (clampV_range _)
end
end Go.Proofs.Ytolcndchfnifhac

namespace Go.Proofs.Ytolcndchfnifhac
set_option linter.unusedVariables false
open Go.RowKit
abbrev stA (n : Plan) (sv cv : Value) : Array Value := #[.iface 80 (.agg #[.int .i64 (n.black 0), .int .i64 (n.black 1), .int .i64 (n.black 2), .int .i64 (n.black 3), .int .i64 n.white]), .iface 82 (.agg #[sv]), .iface 84 (.agg #[.int .i64 n.phase, .int .i64 (n.gains 0), .int .i64 (n.gains 1), .int .i64 (n.gains 2)]), .iface 86 (.agg #[.int .i64 n.phase]), .iface 88 (.agg #[.int .i64 (n.matrix 0), .int .i64 (n.matrix 1), .int .i64 (n.matrix 2), .int .i64 (n.matrix 3), .int .i64 (n.matrix 4), .int .i64 (n.matrix 5), .int .i64 (n.matrix 6), .int .i64 (n.matrix 7), .int .i64 (n.matrix 8)]), .iface 90 (.agg #[cv]), .iface 92 (.agg #[.int .i64 n.amount])]
set_option maxRecDepth 100000 in
set_option maxHeartbeats 1600000 in
theorem stages_any (n : Plan) (sv cv : Value) (w : World) (hp : IsPlan w n sv cv) :
    Calls Try.prog 17 #[.agg (planA n sv cv)] w fun e w' => ∃ b, e = .returned (.slice (some ⟨b, 0, none⟩) 7 7) ∧ w.heap.size ≤ b ∧ w'.heap[b]? = some (.cells (stA n sv cv) 59 (0, 0)) ∧ Below w.heap.size w w' := by
  obtain ⟨⟨lo, lc, rfl, hll, _⟩, ⟨ko, kc, rfl, hkl, _⟩⟩ := hp
  have a1 := al1 w (Obj.cells (planA n (.slice lo n.spots.length lc) (.slice ko n.curve.length kc)) 28)
  obtain ⟨c0, c1, c2, c3, c4, c5, c6, c7, c8, c9, c10, c11, c12, c13, c14, c15, c16, c17, c18, c19, c20⟩ := plan_cells a1
  have HB := hide (be2 w (Obj.cells (planA n (.slice lo n.spots.length lc) (.slice ko n.curve.length kc)) 28) (Obj.cells (stA n (.slice lo n.spots.length lc) (.slice ko n.curve.length kc)) 59))
  have HS := hide (al2 w (Obj.cells (planA n (.slice lo n.spots.length lc) (.slice ko n.curve.length kc)) 28) (Obj.cells (stA n (.slice lo n.spots.length lc) (.slice ko n.curve.length kc)) 59)).2
  go_enter Try.func17, Try.ntmps17
  go_wp2
  go_ret
  exact ⟨w.heap.size + 1, rfl, Nat.le_succ _, HS.out, HB.out⟩
def FrIs (n : Plan) (W H : Int) (zs : List Int) (B F : Nat) (wr : World) : Nat → Prop
  | 0 => ∃ r, wr.heap[F]? = some (.cells (frP W H r) 55 (0, 0)) ∧ IsInts wr r zs
  | 1 => ∃ r, wr.heap[F]? = some (.cells (frP W H r) 55 (0, 0)) ∧ IsInts wr r (dev1 n W zs)
  | 2 => ∃ r, wr.heap[F]? = some (.cells (frP W H r) 55 (0, 0)) ∧ IsInts wr r (dev2 n W H zs)
  | 3 => ∃ r, wr.heap[F]? = some (.cells (frP W H r) 55 (0, 0)) ∧ IsInts wr r (dev3 n W H zs)
  | 4 => ∃ r, wr.heap[F]? = some (.cells (frQ W H r) 55 (0, 0)) ∧ IsPix wr r (dev4 n W H zs)
  | 5 => ∃ r, wr.heap[F]? = some (.cells (frQ W H r) 55 (0, 0)) ∧ IsPix wr r (dev5 n W H zs)
  | 6 => ∃ r, wr.heap[F]? = some (.cells (frQ W H r) 55 (0, 0)) ∧ IsPix wr r (dev6 n W H zs)
  | _ => ∃ r, wr.heap[F]? = some (.cells (frQ W H r) 55 (0, 0)) ∧ IsPix wr r (dev7 n W H zs) ∧ Fresh B r
def DvK (w W1 : World) (F : Nat) (wr : World) : Prop := (∀ b, b < W1.heap.size → b ≠ F → wr.heap[b]? = W1.heap[b]?) ∧ W1.heap.size ≤ wr.heap.size ∧ Below w.heap.size w wr
theorem DvK.next {w W1 : World} {F : Nat} {wr V : World} (h : DvK w W1 F wr) (hF : w.heap.size ≤ F) (hV : Below wr.heap.size wr V) (cs : Array Value) : DvK w W1 F (V.setRow F cs) :=
  ⟨fun b hb hne => (setRow_other V F b cs hne).trans ((hV.block b (Nat.lt_of_lt_of_le hb h.2.1)).trans (h.1 b hb hne)), by rw [setRow_size]; exact Nat.le_trans h.2.1 hV.size, below_setRow (h.2.2.trans (hV.mono h.2.2.size)) hF cs⟩
theorem meth0 (n : Plan) (w : World) : (method 244 80 (.agg #[.int .i64 (n.black 0), .int .i64 (n.black 1), .int .i64 (n.black 2), .int .i64 (n.black 3), .int .i64 n.white]) "darkslide/line.run").run Try.prog w = .ok (51, .agg #[.int .i64 (n.black 0), .int .i64 (n.black 1), .int .i64 (n.black 2), .int .i64 (n.black 3), .int .i64 n.white]) w := by kernel_rfl
theorem meth1 (lo : Option Addr) (ll lc : Nat) (w : World) : (method 244 82 (.agg #[.slice lo ll lc]) "darkslide/line.run").run Try.prog w = .ok (58, .agg #[.slice lo ll lc]) w := by kernel_rfl
theorem meth2 (n : Plan) (w : World) : (method 244 84 (.agg #[.int .i64 n.phase, .int .i64 (n.gains 0), .int .i64 (n.gains 1), .int .i64 (n.gains 2)]) "darkslide/line.run").run Try.prog w = .ok (65, .agg #[.int .i64 n.phase, .int .i64 (n.gains 0), .int .i64 (n.gains 1), .int .i64 (n.gains 2)]) w := by kernel_rfl
theorem meth3 (n : Plan) (w : World) : (method 244 86 (.agg #[.int .i64 n.phase]) "darkslide/line.run").run Try.prog w = .ok (69, .agg #[.int .i64 n.phase]) w := by kernel_rfl
theorem meth4 (n : Plan) (w : World) : (method 244 88 (.agg #[.int .i64 (n.matrix 0), .int .i64 (n.matrix 1), .int .i64 (n.matrix 2), .int .i64 (n.matrix 3), .int .i64 (n.matrix 4), .int .i64 (n.matrix 5), .int .i64 (n.matrix 6), .int .i64 (n.matrix 7), .int .i64 (n.matrix 8)]) "darkslide/line.run").run Try.prog w = .ok (78, .agg #[.int .i64 (n.matrix 0), .int .i64 (n.matrix 1), .int .i64 (n.matrix 2), .int .i64 (n.matrix 3), .int .i64 (n.matrix 4), .int .i64 (n.matrix 5), .int .i64 (n.matrix 6), .int .i64 (n.matrix 7), .int .i64 (n.matrix 8)]) w := by kernel_rfl
theorem meth5 (lo : Option Addr) (ll lc : Nat) (w : World) : (method 244 90 (.agg #[.slice lo ll lc]) "darkslide/line.run").run Try.prog w = .ok (85, .agg #[.slice lo ll lc]) w := by kernel_rfl
theorem meth6 (n : Plan) (w : World) : (method 244 92 (.agg #[.int .i64 n.amount]) "darkslide/line.run").run Try.prog w = .ok (88, .agg #[.int .i64 n.amount]) w := by kernel_rfl
set_option maxRecDepth 100000 in
set_option maxHeartbeats 6400000 in
theorem develop_any (n : Plan) (sv cv : Value) (W H : Int) (v : Value) (zs : List Int) (w : World) (hp : IsPlan w n sv cv) (hls : ∀ j, j < n.spots.length → ptWf (ptAt n.spots j)) (hv : IsInts w v zs) (hD : DevOk n W H zs) :
    Calls Try.prog 8 #[.agg (planA n sv cv), .agg #[.int .i64 W, .int .i64 H, v]] w fun e w' => ∃ r, e = .returned (.tuple #[.agg #[.int .i64 W, .int .i64 H, r], .int .i64 0]) ∧ IsPix w' r (dev7 n W H zs) ∧ Below w.heap.size w w' ∧ Fresh w.heap.size r := by
  have HP := hide hp
  have HV := hide hv
  have HD := hide hD
  clear hD
  obtain ⟨⟨lo, lc, rfl, hll, _⟩, ⟨ko, kc, rfl, hkl, _⟩⟩ := hp
  obtain ⟨ao, ca, rfl, _, _⟩ := hv
  obtain ⟨a1, a2, a3, a4⟩ := al4 w (Obj.cells (planA n (.slice lo n.spots.length lc) (.slice ko n.curve.length kc)) 28) (Obj.cells #[.int .i64 W, .int .i64 H, .slice ao zs.length ca] 31) (Obj.cells #[.int .i64 0, .int .i64 0, .slice none 0 0] 34) (Obj.cells (frP W H (.slice ao zs.length ca)) 55)
  have HB := hide (be4 w (Obj.cells (planA n (.slice lo n.spots.length lc) (.slice ko n.curve.length kc)) 28) (Obj.cells #[.int .i64 W, .int .i64 H, .slice ao zs.length ca] 31) (Obj.cells #[.int .i64 0, .int .i64 0, .slice none 0 0] 34) (Obj.cells (frP W H (.slice ao zs.length ca)) 55))
  have HST := hide (fun (u : World) (hu : Below w.heap.size w u) => stages_any n _ _ u (HP.out.below hu (Nat.le_refl _)))
  obtain ⟨p0, p1, p2⟩ := cells3 (al3 w (Obj.cells (planA n (.slice lo n.spots.length lc) (.slice ko n.curve.length kc)) 28) (Obj.cells #[.int .i64 W, .int .i64 H, .slice ao zs.length ca] 31) (Obj.cells #[.int .i64 0, .int .i64 0, .slice none 0 0] 34)).2.1
  go_enter Try.func8, Try.ntmps8
  go_wp2_with (refine wpList_load_row rfl 28 _ rfl _ rfl _ _ _ _ a1 Try.underlying28 rfl (by kernel_rfl) ?_)
  have hl1 := (Array.getElem?_eq_some_iff.1 a1).1
  have hl3 := (Array.getElem?_eq_some_iff.1 a3).1
  have hl4 := (Array.getElem?_eq_some_iff.1 a4).1
  clear p0 p1 p2
  generalize (((w.alloc (Obj.cells (planA n (.slice lo n.spots.length lc) (.slice ko n.curve.length kc)) 28)).alloc (Obj.cells #[.int .i64 W, .int .i64 H, .slice ao zs.length ca] 31)).alloc (Obj.cells #[.int .i64 0, .int .i64 0, .slice none 0 0] 34)).alloc (Obj.cells (frP W H (.slice ao zs.length ca)) 55) = U at *
  refine (HST.out _ HB.out).mono ?_
  rintro e w1 ⟨sb, rfl, hsb, hst, hb1⟩
  have hls1 := (Array.getElem?_eq_some_iff.1 hst).1
  have hsz1 := hb1.size
  have f4 := (hb1.block _ hl4).trans a4
  have g3 := (hb1.block _ hl3).trans a3
  have HBW := hide (HB.out.trans (hb1.mono HB.out.size))
  have HI0 := hide (HV.out.below HBW.out (Nat.le_refl _))
  go_wp2_with fail
  go_loopw [16] (fun i wr => ∃ k : Nat, k ≤ 7 ∧ i = .int .i64 k ∧ FrIs n W H zs (w.heap.size + 4) (w.heap.size + 3) wr k ∧ DvK w w1 (w.heap.size + 3) wr) (fun i _ => 7 - (intOf i).toNat)
  case atStart => exact ⟨0, by omega, rfl, ⟨_, f4, HI0.out⟩, fun _ _ _ => rfl, Nat.le_refl _, HBW.out⟩
  case round =>
    clear f4 HI0
    obtain ⟨k, hk, rfl, hF, hK⟩ := hrel
    have hst1 := (hK.1 sb hls1 (by omega)).trans hst
    have g3r := (hK.1 (w.heap.size + 2) (by omega) (by omega)).trans g3
    have HBr := hide hK.2.2
    have HSPr := hide (HP.out.spots.below HBr.out (Nat.le_refl _))
    have HCVr := hide (HP.out.curve.below HBr.out (Nat.le_refl _))
    have HNX := hide (fun (V : World) (hV : Below wr.heap.size wr V) (cs : Array Value) => hK.next (show w.heap.size ≤ w.heap.size + 3 by omega) hV cs)
    have hszr := hK.2.1
    clear hK
    rcases (show k = 0 ∨ k = 1 ∨ k = 2 ∨ k = 3 ∨ k = 4 ∨ k = 5 ∨ k = 6 ∨ k = 7 by omega) with rfl | rfl | rfl | rfl | rfl | rfl | rfl | rfl
    · obtain ⟨r, f4, hr⟩ := hF
      have HR := hide hr
      obtain ⟨ro, rc, rfl, x1, x2⟩ := hr
      clear x1 x2
      have HRUN := hide (run_level W H _ zs n.black n.white _ HR.out HD.out.e1)
      obtain ⟨N, hN⟩ : ∃ N, (zs).length = N := ⟨_, rfl⟩
      rw [hN] at f4 HRUN
      clear hN
      have ck : wr.cell? ⟨sb, 0, none⟩ = some (.iface 80 (.agg #[.int .i64 (n.black 0), .int .i64 (n.black 1), .int .i64 (n.black 2), .int .i64 (n.black 3), .int .i64 n.white])) := by rw [Lib.cell_of_heap hst1]; rfl
      have hm := meth0 n
      have hna := enters_of Try.func51 (by kernel_rfl) rfl
      obtain ⟨q0, q1, q2, q3, q4, q5⟩ := cells6 (b := w.heap.size + 1 + 1 + 1) f4
      go_wp2_with fail
      refine HRUN.out.mono ?_
      rintro e V1 ⟨r2, rfl, hr2, hb1, hfr2⟩
      have HR2 := hide hr2
      obtain ⟨so, sc, rfl, x1, x2⟩ := hr2
      clear x1 x2
      obtain ⟨N2, hN2⟩ : ∃ N2, (dev1 n W zs).length = N2 := ⟨_, rfl⟩
      first | rw [show _ = N2 from hN2] at HR2 hfr2 ⊢ | (change (levL W zs n.black n.white).length = N2 at hN2; rw [hN2] at HR2 hfr2 ⊢)
      clear hN2
      have t9 := al1 V1 (Obj.cells (frP W H (.slice so N2 sc)) 55)
      have hb2 := bel_trans hb1 (bel_alloc V1 (Obj.cells (frP W H (.slice so N2 sc)) 55))
      have HR3 := hide (HR2.out.alloc (Obj.cells (frP W H (.slice so N2 sc)) 55))
      have i1 : (Try.prog.info? 55).map (·.size) = some (frP W H (.slice so N2 sc)).size := by kernel_rfl
      have i3 : (frP W H (.slice so N2 sc)).all (·.oneCell') = true := by simp [Value.oneCell']
      have hl4r := (Array.getElem?_eq_some_iff.1 f4).1
      have i4 : (V1.alloc (Obj.cells (frP W H (.slice so N2 sc)) 55)).heap[w.heap.size + 1 + 1 + 1]? = some (.cells (frP W H (.slice ro N rc)) 55 (0, 0)) := (hb2.block _ hl4r).trans f4
      have HX := hide (HR3.out.setRow hfr2 (show w.heap.size + 1 + 1 + 1 < wr.heap.size from hl4r) (frP W H (.slice so N2 sc)))
      have HN := hide (HNX.out _ hb2 (frP W H (.slice so N2 sc)))
      have HBX := hide (setRow_heap _ _ _ (frP W H (.slice so N2 sc)) _ _ i4)
      have hwr := HBr.out.size
      have HFR := hide (hfr2.mono (show w.heap.size + 4 ≤ wr.heap.size by omega))
      clear q0 q1 q2 q3 q4 q5 ck hm hna
      go_wp2_with (first | refine wpList_load_row rfl 55 _ rfl _ rfl _ _ _ _ t9 Try.underlying55 rfl (by kernel_rfl) ?_ | refine wpList_store_row rfl 55 _ _ rfl (w.heap.size + 1 + 1 + 1) (frP W H (.slice so N2 sc)) rfl rfl _ _ i4 i1 rfl i3 ?_)
      go_roundw
      case rel => exact ⟨1, by omega, rfl, ⟨_, HBX.out, HX.out⟩, HN.out⟩
      case measure => simp [intOf]
    · obtain ⟨r, f4, hr⟩ := hF
      have HR := hide hr
      obtain ⟨ro, rc, rfl, x1, x2⟩ := hr
      clear x1 x2
      have HRUN := hide (run_repair W H _ (dev1 n W zs) _ n.spots hls _ HR.out HSPr.out HD.out.e2)
      obtain ⟨N, hN⟩ : ∃ N, (dev1 n W zs).length = N := ⟨_, rfl⟩
      rw [hN] at f4 HRUN
      clear hN
      have ck : wr.cell? ⟨sb, 1, none⟩ = some (.iface 82 (.agg #[.slice lo n.spots.length lc])) := by rw [Lib.cell_of_heap hst1]; rfl
      have hm := meth1 lo n.spots.length lc
      have hna := enters_of Try.func58 (by kernel_rfl) rfl
      obtain ⟨q0, q1, q2, q3, q4, q5⟩ := cells6 (b := w.heap.size + 1 + 1 + 1) f4
      go_wp2_with fail
      refine HRUN.out.mono ?_
      rintro e V1 ⟨r2, rfl, hr2, hb1, hfr2⟩
      have HR2 := hide hr2
      obtain ⟨so, sc, rfl, x1, x2⟩ := hr2
      clear x1 x2
      obtain ⟨N2, hN2⟩ : ∃ N2, (dev2 n W H zs).length = N2 := ⟨_, rfl⟩
      first | rw [show _ = N2 from hN2] at HR2 hfr2 ⊢ | (change (repL W H (dev1 n W zs) n.spots).length = N2 at hN2; rw [hN2] at HR2 hfr2 ⊢)
      clear hN2
      have t9 := al1 V1 (Obj.cells (frP W H (.slice so N2 sc)) 55)
      have hb2 := bel_trans hb1 (bel_alloc V1 (Obj.cells (frP W H (.slice so N2 sc)) 55))
      have HR3 := hide (HR2.out.alloc (Obj.cells (frP W H (.slice so N2 sc)) 55))
      have i1 : (Try.prog.info? 55).map (·.size) = some (frP W H (.slice so N2 sc)).size := by kernel_rfl
      have i3 : (frP W H (.slice so N2 sc)).all (·.oneCell') = true := by simp [Value.oneCell']
      have hl4r := (Array.getElem?_eq_some_iff.1 f4).1
      have i4 : (V1.alloc (Obj.cells (frP W H (.slice so N2 sc)) 55)).heap[w.heap.size + 1 + 1 + 1]? = some (.cells (frP W H (.slice ro N rc)) 55 (0, 0)) := (hb2.block _ hl4r).trans f4
      have HX := hide (HR3.out.setRow hfr2 (show w.heap.size + 1 + 1 + 1 < wr.heap.size from hl4r) (frP W H (.slice so N2 sc)))
      have HN := hide (HNX.out _ hb2 (frP W H (.slice so N2 sc)))
      have HBX := hide (setRow_heap _ _ _ (frP W H (.slice so N2 sc)) _ _ i4)
      have hwr := HBr.out.size
      have HFR := hide (hfr2.mono (show w.heap.size + 4 ≤ wr.heap.size by omega))
      clear q0 q1 q2 q3 q4 q5 ck hm hna
      go_wp2_with (first | refine wpList_load_row rfl 55 _ rfl _ rfl _ _ _ _ t9 Try.underlying55 rfl (by kernel_rfl) ?_ | refine wpList_store_row rfl 55 _ _ rfl (w.heap.size + 1 + 1 + 1) (frP W H (.slice so N2 sc)) rfl rfl _ _ i4 i1 rfl i3 ?_)
      go_roundw
      case rel => exact ⟨2, by omega, rfl, ⟨_, HBX.out, HX.out⟩, HN.out⟩
      case measure => simp [intOf]
    · obtain ⟨r, f4, hr⟩ := hF
      have HR := hide hr
      obtain ⟨ro, rc, rfl, x1, x2⟩ := hr
      clear x1 x2
      have HRUN := hide (run_gain W H _ (dev2 n W H zs) n.phase n.gains _ HR.out HD.out.e3)
      obtain ⟨N, hN⟩ : ∃ N, (dev2 n W H zs).length = N := ⟨_, rfl⟩
      rw [hN] at f4 HRUN
      clear hN
      have ck : wr.cell? ⟨sb, 2, none⟩ = some (.iface 84 (.agg #[.int .i64 n.phase, .int .i64 (n.gains 0), .int .i64 (n.gains 1), .int .i64 (n.gains 2)])) := by rw [Lib.cell_of_heap hst1]; rfl
      have hm := meth2 n
      have hna := enters_of Try.func65 (by kernel_rfl) rfl
      obtain ⟨q0, q1, q2, q3, q4, q5⟩ := cells6 (b := w.heap.size + 1 + 1 + 1) f4
      go_wp2_with fail
      refine HRUN.out.mono ?_
      rintro e V1 ⟨r2, rfl, hr2, hb1, hfr2⟩
      have HR2 := hide hr2
      obtain ⟨so, sc, rfl, x1, x2⟩ := hr2
      clear x1 x2
      obtain ⟨N2, hN2⟩ : ∃ N2, (dev3 n W H zs).length = N2 := ⟨_, rfl⟩
      first | rw [show _ = N2 from hN2] at HR2 hfr2 ⊢ | (change (gaiL W (dev2 n W H zs) n.phase n.gains).length = N2 at hN2; rw [hN2] at HR2 hfr2 ⊢)
      clear hN2
      have t9 := al1 V1 (Obj.cells (frP W H (.slice so N2 sc)) 55)
      have hb2 := bel_trans hb1 (bel_alloc V1 (Obj.cells (frP W H (.slice so N2 sc)) 55))
      have HR3 := hide (HR2.out.alloc (Obj.cells (frP W H (.slice so N2 sc)) 55))
      have i1 : (Try.prog.info? 55).map (·.size) = some (frP W H (.slice so N2 sc)).size := by kernel_rfl
      have i3 : (frP W H (.slice so N2 sc)).all (·.oneCell') = true := by simp [Value.oneCell']
      have hl4r := (Array.getElem?_eq_some_iff.1 f4).1
      have i4 : (V1.alloc (Obj.cells (frP W H (.slice so N2 sc)) 55)).heap[w.heap.size + 1 + 1 + 1]? = some (.cells (frP W H (.slice ro N rc)) 55 (0, 0)) := (hb2.block _ hl4r).trans f4
      have HX := hide (HR3.out.setRow hfr2 (show w.heap.size + 1 + 1 + 1 < wr.heap.size from hl4r) (frP W H (.slice so N2 sc)))
      have HN := hide (HNX.out _ hb2 (frP W H (.slice so N2 sc)))
      have HBX := hide (setRow_heap _ _ _ (frP W H (.slice so N2 sc)) _ _ i4)
      have hwr := HBr.out.size
      have HFR := hide (hfr2.mono (show w.heap.size + 4 ≤ wr.heap.size by omega))
      clear q0 q1 q2 q3 q4 q5 ck hm hna
      go_wp2_with (first | refine wpList_load_row rfl 55 _ rfl _ rfl _ _ _ _ t9 Try.underlying55 rfl (by kernel_rfl) ?_ | refine wpList_store_row rfl 55 _ _ rfl (w.heap.size + 1 + 1 + 1) (frP W H (.slice so N2 sc)) rfl rfl _ _ i4 i1 rfl i3 ?_)
      go_roundw
      case rel => exact ⟨3, by omega, rfl, ⟨_, HBX.out, HX.out⟩, HN.out⟩
      case measure => simp [intOf]
    · obtain ⟨r, f4, hr⟩ := hF
      have HR := hide hr
      obtain ⟨ro, rc, rfl, x1, x2⟩ := hr
      clear x1 x2
      have HRUN := hide (run_fill W H _ (dev3 n W H zs) n.phase _ HR.out HD.out.e4)
      obtain ⟨N, hN⟩ : ∃ N, (dev3 n W H zs).length = N := ⟨_, rfl⟩
      rw [hN] at f4 HRUN
      clear hN
      have ck : wr.cell? ⟨sb, 3, none⟩ = some (.iface 86 (.agg #[.int .i64 n.phase])) := by rw [Lib.cell_of_heap hst1]; rfl
      have hm := meth3 n
      have hna := enters_of Try.func69 (by kernel_rfl) rfl
      obtain ⟨q0, q1, q2, q3, q4, q5⟩ := cells6 (b := w.heap.size + 1 + 1 + 1) f4
      go_wp2_with fail
      refine HRUN.out.mono ?_
      rintro e V1 ⟨r2, rfl, hr2, hb1, hfr2⟩
      have HR2 := hide hr2
      obtain ⟨so, sc, rfl, x1, x2⟩ := hr2
      clear x1 x2
      obtain ⟨N2, hN2⟩ : ∃ N2, (dev4 n W H zs).length = N2 := ⟨_, rfl⟩
      first | rw [show _ = N2 from hN2] at HR2 hfr2 ⊢ | (change (fillL W H (dev3 n W H zs) n.phase).length = N2 at hN2; rw [hN2] at HR2 hfr2 ⊢)
      clear hN2
      have t9 := al1 V1 (Obj.cells (frQ W H (.slice so N2 sc)) 55)
      have hb2 := bel_trans hb1 (bel_alloc V1 (Obj.cells (frQ W H (.slice so N2 sc)) 55))
      have HR3 := hide (HR2.out.alloc (Obj.cells (frQ W H (.slice so N2 sc)) 55))
      have i1 : (Try.prog.info? 55).map (·.size) = some (frQ W H (.slice so N2 sc)).size := by kernel_rfl
      have i3 : (frQ W H (.slice so N2 sc)).all (·.oneCell') = true := by simp [Value.oneCell']
      have hl4r := (Array.getElem?_eq_some_iff.1 f4).1
      have i4 : (V1.alloc (Obj.cells (frQ W H (.slice so N2 sc)) 55)).heap[w.heap.size + 1 + 1 + 1]? = some (.cells (frP W H (.slice ro N rc)) 55 (0, 0)) := (hb2.block _ hl4r).trans f4
      have HX := hide (HR3.out.setRow hfr2 (show w.heap.size + 1 + 1 + 1 < wr.heap.size from hl4r) (frQ W H (.slice so N2 sc)))
      have HN := hide (HNX.out _ hb2 (frQ W H (.slice so N2 sc)))
      have HBX := hide (setRow_heap _ _ _ (frQ W H (.slice so N2 sc)) _ _ i4)
      have hwr := HBr.out.size
      have HFR := hide (hfr2.mono (show w.heap.size + 4 ≤ wr.heap.size by omega))
      clear q0 q1 q2 q3 q4 q5 ck hm hna
      go_wp2_with (first | refine wpList_load_row rfl 55 _ rfl _ rfl _ _ _ _ t9 Try.underlying55 rfl (by kernel_rfl) ?_ | refine wpList_store_row rfl 55 _ _ rfl (w.heap.size + 1 + 1 + 1) (frQ W H (.slice so N2 sc)) rfl rfl _ _ i4 i1 rfl i3 ?_)
      go_roundw
      case rel => exact ⟨4, by omega, rfl, ⟨_, HBX.out, HX.out⟩, HN.out⟩
      case measure => simp [intOf]
    · obtain ⟨r, f4, hr⟩ := hF
      have HR := hide hr
      obtain ⟨ro, rc, rfl, x1, x2⟩ := hr
      clear x1 x2
      have HRUN := hide (run_mix W H _ (dev4 n W H zs) n.matrix _ HR.out HD.out.e5)
      obtain ⟨N, hN⟩ : ∃ N, (dev4 n W H zs).length = N := ⟨_, rfl⟩
      rw [hN] at f4 HRUN
      clear hN
      have ck : wr.cell? ⟨sb, 4, none⟩ = some (.iface 88 (.agg #[.int .i64 (n.matrix 0), .int .i64 (n.matrix 1), .int .i64 (n.matrix 2), .int .i64 (n.matrix 3), .int .i64 (n.matrix 4), .int .i64 (n.matrix 5), .int .i64 (n.matrix 6), .int .i64 (n.matrix 7), .int .i64 (n.matrix 8)])) := by rw [Lib.cell_of_heap hst1]; rfl
      have hm := meth4 n
      have hna := enters_of Try.func78 (by kernel_rfl) rfl
      obtain ⟨q0, q1, q2, q3, q4, q5⟩ := cells6 (b := w.heap.size + 1 + 1 + 1) f4
      go_wp2_with fail
      refine HRUN.out.mono ?_
      rintro e V1 ⟨r2, rfl, hr2, hb1, hfr2⟩
      have HR2 := hide hr2
      obtain ⟨so, sc, rfl, x1, x2⟩ := hr2
      clear x1 x2
      obtain ⟨N2, hN2⟩ : ∃ N2, (dev5 n W H zs).length = N2 := ⟨_, rfl⟩
      first | rw [show _ = N2 from hN2] at HR2 hfr2 ⊢ | (change ((dev4 n W H zs).map (mixP n.matrix)).length = N2 at hN2; rw [hN2] at HR2 hfr2 ⊢)
      clear hN2
      have t9 := al1 V1 (Obj.cells (frQ W H (.slice so N2 sc)) 55)
      have hb2 := bel_trans hb1 (bel_alloc V1 (Obj.cells (frQ W H (.slice so N2 sc)) 55))
      have HR3 := hide (HR2.out.alloc (Obj.cells (frQ W H (.slice so N2 sc)) 55))
      have i1 : (Try.prog.info? 55).map (·.size) = some (frQ W H (.slice so N2 sc)).size := by kernel_rfl
      have i3 : (frQ W H (.slice so N2 sc)).all (·.oneCell') = true := by simp [Value.oneCell']
      have hl4r := (Array.getElem?_eq_some_iff.1 f4).1
      have i4 : (V1.alloc (Obj.cells (frQ W H (.slice so N2 sc)) 55)).heap[w.heap.size + 1 + 1 + 1]? = some (.cells (frQ W H (.slice ro N rc)) 55 (0, 0)) := (hb2.block _ hl4r).trans f4
      have HX := hide (HR3.out.setRow hfr2 (show w.heap.size + 1 + 1 + 1 < wr.heap.size from hl4r) (frQ W H (.slice so N2 sc)))
      have HN := hide (HNX.out _ hb2 (frQ W H (.slice so N2 sc)))
      have HBX := hide (setRow_heap _ _ _ (frQ W H (.slice so N2 sc)) _ _ i4)
      have hwr := HBr.out.size
      have HFR := hide (hfr2.mono (show w.heap.size + 4 ≤ wr.heap.size by omega))
      clear q0 q1 q2 q3 q4 q5 ck hm hna
      go_wp2_with (first | refine wpList_load_row rfl 55 _ rfl _ rfl _ _ _ _ t9 Try.underlying55 rfl (by kernel_rfl) ?_ | refine wpList_store_row rfl 55 _ _ rfl (w.heap.size + 1 + 1 + 1) (frQ W H (.slice so N2 sc)) rfl rfl _ _ i4 i1 rfl i3 ?_)
      go_roundw
      case rel => exact ⟨5, by omega, rfl, ⟨_, HBX.out, HX.out⟩, HN.out⟩
      case measure => simp [intOf]
    · obtain ⟨r, f4, hr⟩ := hF
      have HR := hide hr
      obtain ⟨ro, rc, rfl, x1, x2⟩ := hr
      clear x1 x2
      have HRUN := hide (run_bend W H _ (dev5 n W H zs) _ n.curve _ HR.out HCVr.out HD.out.e6)
      obtain ⟨N, hN⟩ : ∃ N, (dev5 n W H zs).length = N := ⟨_, rfl⟩
      rw [hN] at f4 HRUN
      clear hN
      have ck : wr.cell? ⟨sb, 5, none⟩ = some (.iface 90 (.agg #[.slice ko n.curve.length kc])) := by rw [Lib.cell_of_heap hst1]; rfl
      have hm := meth5 ko n.curve.length kc
      have hna := enters_of Try.func85 (by kernel_rfl) rfl
      obtain ⟨q0, q1, q2, q3, q4, q5⟩ := cells6 (b := w.heap.size + 1 + 1 + 1) f4
      go_wp2_with fail
      refine HRUN.out.mono ?_
      rintro e V1 ⟨r2, rfl, hr2, hb1, hfr2⟩
      have HR2 := hide hr2
      obtain ⟨so, sc, rfl, x1, x2⟩ := hr2
      clear x1 x2
      obtain ⟨N2, hN2⟩ : ∃ N2, (dev6 n W H zs).length = N2 := ⟨_, rfl⟩
      first | rw [show _ = N2 from hN2] at HR2 hfr2 ⊢ | (change ((dev5 n W H zs).map (bendP n.curve)).length = N2 at hN2; rw [hN2] at HR2 hfr2 ⊢)
      clear hN2
      have t9 := al1 V1 (Obj.cells (frQ W H (.slice so N2 sc)) 55)
      have hb2 := bel_trans hb1 (bel_alloc V1 (Obj.cells (frQ W H (.slice so N2 sc)) 55))
      have HR3 := hide (HR2.out.alloc (Obj.cells (frQ W H (.slice so N2 sc)) 55))
      have i1 : (Try.prog.info? 55).map (·.size) = some (frQ W H (.slice so N2 sc)).size := by kernel_rfl
      have i3 : (frQ W H (.slice so N2 sc)).all (·.oneCell') = true := by simp [Value.oneCell']
      have hl4r := (Array.getElem?_eq_some_iff.1 f4).1
      have i4 : (V1.alloc (Obj.cells (frQ W H (.slice so N2 sc)) 55)).heap[w.heap.size + 1 + 1 + 1]? = some (.cells (frQ W H (.slice ro N rc)) 55 (0, 0)) := (hb2.block _ hl4r).trans f4
      have HX := hide (HR3.out.setRow hfr2 (show w.heap.size + 1 + 1 + 1 < wr.heap.size from hl4r) (frQ W H (.slice so N2 sc)))
      have HN := hide (HNX.out _ hb2 (frQ W H (.slice so N2 sc)))
      have HBX := hide (setRow_heap _ _ _ (frQ W H (.slice so N2 sc)) _ _ i4)
      have hwr := HBr.out.size
      have HFR := hide (hfr2.mono (show w.heap.size + 4 ≤ wr.heap.size by omega))
      clear q0 q1 q2 q3 q4 q5 ck hm hna
      go_wp2_with (first | refine wpList_load_row rfl 55 _ rfl _ rfl _ _ _ _ t9 Try.underlying55 rfl (by kernel_rfl) ?_ | refine wpList_store_row rfl 55 _ _ rfl (w.heap.size + 1 + 1 + 1) (frQ W H (.slice so N2 sc)) rfl rfl _ _ i4 i1 rfl i3 ?_)
      go_roundw
      case rel => exact ⟨6, by omega, rfl, ⟨_, HBX.out, HX.out⟩, HN.out⟩
      case measure => simp [intOf]
    · obtain ⟨r, f4, hr⟩ := hF
      have HR := hide hr
      obtain ⟨ro, rc, rfl, x1, x2⟩ := hr
      clear x1 x2
      have HRUN := hide (run_sharpen W H _ (dev6 n W H zs) n.amount _ HR.out HD.out.e7)
      obtain ⟨N, hN⟩ : ∃ N, (dev6 n W H zs).length = N := ⟨_, rfl⟩
      rw [hN] at f4 HRUN
      clear hN
      have ck : wr.cell? ⟨sb, 6, none⟩ = some (.iface 92 (.agg #[.int .i64 n.amount])) := by rw [Lib.cell_of_heap hst1]; rfl
      have hm := meth6 n
      have hna := enters_of Try.func88 (by kernel_rfl) rfl
      obtain ⟨q0, q1, q2, q3, q4, q5⟩ := cells6 (b := w.heap.size + 1 + 1 + 1) f4
      go_wp2_with fail
      refine HRUN.out.mono ?_
      rintro e V1 ⟨r2, rfl, hr2, hb1, hfr2⟩
      have HR2 := hide hr2
      obtain ⟨so, sc, rfl, x1, x2⟩ := hr2
      clear x1 x2
      obtain ⟨N2, hN2⟩ : ∃ N2, (dev7 n W H zs).length = N2 := ⟨_, rfl⟩
      first | rw [show _ = N2 from hN2] at HR2 hfr2 ⊢ | (change (sharpL W H (dev6 n W H zs) n.amount).length = N2 at hN2; rw [hN2] at HR2 hfr2 ⊢)
      clear hN2
      have t9 := al1 V1 (Obj.cells (frQ W H (.slice so N2 sc)) 55)
      have hb2 := bel_trans hb1 (bel_alloc V1 (Obj.cells (frQ W H (.slice so N2 sc)) 55))
      have HR3 := hide (HR2.out.alloc (Obj.cells (frQ W H (.slice so N2 sc)) 55))
      have i1 : (Try.prog.info? 55).map (·.size) = some (frQ W H (.slice so N2 sc)).size := by kernel_rfl
      have i3 : (frQ W H (.slice so N2 sc)).all (·.oneCell') = true := by simp [Value.oneCell']
      have hl4r := (Array.getElem?_eq_some_iff.1 f4).1
      have i4 : (V1.alloc (Obj.cells (frQ W H (.slice so N2 sc)) 55)).heap[w.heap.size + 1 + 1 + 1]? = some (.cells (frQ W H (.slice ro N rc)) 55 (0, 0)) := (hb2.block _ hl4r).trans f4
      have HX := hide (HR3.out.setRow hfr2 (show w.heap.size + 1 + 1 + 1 < wr.heap.size from hl4r) (frQ W H (.slice so N2 sc)))
      have HN := hide (HNX.out _ hb2 (frQ W H (.slice so N2 sc)))
      have HBX := hide (setRow_heap _ _ _ (frQ W H (.slice so N2 sc)) _ _ i4)
      have hwr := HBr.out.size
      have HFR := hide (hfr2.mono (show w.heap.size + 4 ≤ wr.heap.size by omega))
      clear q0 q1 q2 q3 q4 q5 ck hm hna
      go_wp2_with (first | refine wpList_load_row rfl 55 _ rfl _ rfl _ _ _ _ t9 Try.underlying55 rfl (by kernel_rfl) ?_ | refine wpList_store_row rfl 55 _ _ rfl (w.heap.size + 1 + 1 + 1) (frQ W H (.slice so N2 sc)) rfl rfl _ _ i4 i1 rfl i3 ?_)
      go_roundw
      case rel => exact ⟨7, by omega, rfl, ⟨_, HBX.out, HX.out, HFR.out⟩, HN.out⟩
      case measure => simp [intOf]
    · obtain ⟨r, f4, hr, hfr⟩ := hF
      have HR := hide hr
      obtain ⟨ro, rc, rfl, x1, x2⟩ := hr
      clear x1 x2
      obtain ⟨N, hN⟩ : ∃ N, (dev7 n W H zs).length = N := ⟨_, rfl⟩
      rw [hN] at f4 HR hfr
      clear hN
      obtain ⟨q0, q1, q2, q3, q4, q5⟩ := cells6 (b := w.heap.size + 1 + 1 + 1) f4
      obtain ⟨z0, z1, z2⟩ := cells3 (b := w.heap.size + 1 + 1) g3r
      have y0 := Lib.frozen_of_heap (b := w.heap.size + 1 + 1) g3r 0
      have y1 := Lib.frozen_of_heap (b := w.heap.size + 1 + 1) g3r 1
      have y2 := Lib.frozen_of_heap (b := w.heap.size + 1 + 1) g3r 2
      have HFI := hide (set3_below HBr.out (show w.heap.size ≤ w.heap.size + 1 + 1 by omega) (.int .i64 W) (.int .i64 H) (.slice ro N rc))
      have hne : (Value.slice ro N rc).ownBlock ≠ some (w.heap.size + 1 + 1) := hfr.ne (by omega)
      have HX := hide (HR.out.other (set3_size wr (w.heap.size + 1 + 1) (.int .i64 W) (.int .i64 H) (.slice ro N rc)) (fun b hb => set3_heap _ _ _ _ _ b hb) hne)
      go_wp2
      exact bodyPost_ret (v := .tuple #[.agg #[.int .i64 W, .int .i64 H, .slice ro N rc], .int .i64 0]) (by simp [results, Try.results8, go_sem, z0, z1, z2]) rfl ⟨_, rfl, HX.out, HFI.out, hfr.mono (by omega)⟩
end Go.Proofs.Ytolcndchfnifhac

namespace Go.Proofs.Ytolcndchfnifhac
set_option linter.unusedVariables false
open Go.RowKit
theorem devOk_of {n : Plan} {W H : Int} {zs : List Int} (h : planE n = 0) (hp : planeOk W H zs = true) (hs : spotsB W H n.spots = true) : DevOk n W H zs := by
  obtain ⟨h1, h2, h3, h4, h5, h6, _, h8⟩ := planE_zero h
  exact ⟨hp, h1, h2, h3, h4, h5, h6, hs, h8⟩
theorem fitsE_zero {n : Plan} {W H : Int} {zs : List Int} {height : Int} (h : fitsE n W H zs height = 0) : planE n = 0 ∧ planeOk W H zs = true ∧ spotsB W height n.spots = true := by
  unfold fitsE at h
  split at h
  · rename_i h1
    split at h
    · rename_i h2
      split at h
      · rename_i h3; exact ⟨h1, h2, h3⟩
      · cases h
    · cases h
  · rename_i h1; exact absurd h h1
set_option maxRecDepth 100000 in
set_option maxHeartbeats 1600000 in
theorem whole_any (n : Plan) (sv cv : Value) (W H : Int) (v : Value) (zs : List Int) (w : World) (hp : IsPlan w n sv cv) (hls : ∀ j, j < n.spots.length → ptWf (ptAt n.spots j)) (hv : IsInts w v zs) :
    Calls Try.prog 4 #[.agg (planA n sv cv), .agg #[.int .i64 W, .int .i64 H, v]] w fun e w' => ∃ r, e = .returned (.tuple #[.agg #[.int .i64 (okW (fitsE n W H zs H) W), .int .i64 (okW (fitsE n W H zs H) H), r], .int .i64 (fitsE n W H zs H)]) ∧ IsPix w' r (okL (fitsE n W H zs H) (dev7 n W H zs)) ∧ Below w.heap.size w w' ∧ Fresh w.heap.size r := by
  have HP := hide hp
  have HV := hide hv
  have HFI := hide (fun (u : World) (hu : Below w.heap.size w u) => fits_any n sv cv W H v zs H u (HP.out.below hu (Nat.le_refl _)) (HV.out.below hu (Nat.le_refl _)))
  have HDV := hide (fun (h : fitsE n W H zs H = 0) (u : World) (hu : Below w.heap.size w u) => develop_any n sv cv W H v zs u (HP.out.below hu (Nat.le_refl _)) hls (HV.out.below hu (Nat.le_refl _)) (devOk_of (fitsE_zero h).1 (fitsE_zero h).2.1 (fitsE_zero h).2.2))
  obtain ⟨⟨lo, lc, rfl, hll, _⟩, ⟨ko, kc, rfl, hkl, _⟩⟩ := hp
  obtain ⟨ao, ca, rfl, _, _⟩ := hv
  obtain ⟨a1, a2, a3⟩ := al3 w (Obj.cells (planA n (.slice lo n.spots.length lc) (.slice ko n.curve.length kc)) 28) (Obj.cells #[.int .i64 W, .int .i64 H, .slice ao zs.length ca] 31) (Obj.cells #[.int .i64 0, .int .i64 0, .slice none 0 0] 34)
  have HB := hide (be3 w (Obj.cells (planA n (.slice lo n.spots.length lc) (.slice ko n.curve.length kc)) 28) (Obj.cells #[.int .i64 W, .int .i64 H, .slice ao zs.length ca] 31) (Obj.cells #[.int .i64 0, .int .i64 0, .slice none 0 0] 34))
  obtain ⟨E, hE⟩ : ∃ E, fitsE n W H zs H = E := ⟨_, rfl⟩
  rw [hE] at HFI ⊢
  have HEQ := hide hE
  clear hE
  obtain ⟨p0, p1, p2⟩ := cells3 a2
  go_enter Try.func4, Try.ntmps4
  go_wp2_with (refine wpList_load_row rfl 28 _ rfl _ rfl _ _ _ _ a1 Try.underlying28 rfl (by kernel_rfl) ?_)
  clear p0 p1 p2
  have hl1 := (Array.getElem?_eq_some_iff.1 a1).1
  have hl2 := (Array.getElem?_eq_some_iff.1 a2).1
  have hl3 := (Array.getElem?_eq_some_iff.1 a3).1
  generalize ((w.alloc (Obj.cells (planA n (.slice lo n.spots.length lc) (.slice ko n.curve.length kc)) 28)).alloc (Obj.cells #[.int .i64 W, .int .i64 H, .slice ao zs.length ca] 31)).alloc (Obj.cells #[.int .i64 0, .int .i64 0, .slice none 0 0] 34) = U at *
  refine (HFI.out _ HB.out).mono ?_
  rintro e w1 ⟨rfl, hb1⟩
  have HB1 := hide (HB.out.trans (hb1.mono HB.out.size))
  by_cases hE : E = 0
  · have HE0 := hide (HEQ.out.trans hE)
    subst hE
    have b1 := (hb1.block _ hl1).trans a1
    obtain ⟨p0, p1, p2⟩ := cells3 ((hb1.block _ hl2).trans a2)
    go_wp2_with (refine wpList_load_row rfl 28 _ rfl _ rfl _ _ _ _ b1 Try.underlying28 rfl (by kernel_rfl) ?_)
    clear p0 p1 p2
    refine (HDV.out HE0.out _ HB1.out).mono ?_
    rintro e w2 ⟨r, rfl, hr, hb2, hfr⟩
    have HR := hide hr
    obtain ⟨ro, rc, rfl, x1, x2⟩ := hr
    clear x1 x2
    obtain ⟨N, hN⟩ : ∃ N, (dev7 n W H zs).length = N := ⟨_, rfl⟩
    rw [hN] at HR hfr ⊢
    clear hN
    have hb3 := bel_trans hb1 hb2
    have g3 := (hb3.block _ hl3).trans a3
    obtain ⟨z0, z1, z2⟩ := cells3 (b := w.heap.size + 1 + 1) g3
    have f0 := Lib.frozen_of_heap (b := w.heap.size + 1 + 1) g3 0
    have f1 := Lib.frozen_of_heap (b := w.heap.size + 1 + 1) g3 1
    have f2 := Lib.frozen_of_heap (b := w.heap.size + 1 + 1) g3 2
    have hs1 := hb1.size
    have HX := hide (HR.out.set3 hfr (show w.heap.size + 1 + 1 < w1.heap.size by omega) (.int .i64 W) (.int .i64 H) (.slice ro N rc))
    have HF := hide (set3_below (HB.out.trans (hb3.mono HB.out.size)) (show w.heap.size ≤ w.heap.size + 1 + 1 by omega) (.int .i64 W) (.int .i64 H) (.slice ro N rc))
    have hw1 := HB1.out.size
    go_wp2
    exact bodyPost_ret (v := .tuple #[.agg #[.int .i64 W, .int .i64 H, .slice ro N rc], .int .i64 0]) (by simp [results, Try.results4, go_sem, z0, z1, z2]) rfl ⟨_, rfl, HX.out, HF.out, hfr.mono hw1⟩
  · have hn : (E != 0) = true := by simpa using hE
    have HE := hide hE
    have g3 := (hb1.block _ hl3).trans a3
    obtain ⟨z0, z1, z2⟩ := cells3 (b := w.heap.size + 1 + 1) g3
    have f0 := Lib.frozen_of_heap (b := w.heap.size + 1 + 1) g3 0
    have f1 := Lib.frozen_of_heap (b := w.heap.size + 1 + 1) g3 1
    have f2 := Lib.frozen_of_heap (b := w.heap.size + 1 + 1) g3 2
    have HF := hide (set3_below HB1.out (show w.heap.size ≤ w.heap.size + 1 + 1 by omega) (.int .i64 0) (.int .i64 0) (.slice none 0 0))
    go_wp2
    refine bodyPost_ret (v := .tuple #[.agg #[.int .i64 0, .int .i64 0, .slice none 0 0], .int .i64 E]) (by simp [results, Try.results4, go_sem, z0, z1, z2]) rfl ⟨.slice none 0 0, ?_, ?_, HF.out, Fresh.nil _⟩
    · rw [okW, if_neg HE.out, okW, if_neg HE.out]
    · rw [okL, if_neg HE.out]; exact IsPix.nil _
end Go.Proofs.Ytolcndchfnifhac

namespace Go.Proofs.Ytolcndchfnifhac
set_option linter.unusedVariables false
theorem oddPhase_ok {p : Int} (h : phaseOk p = true) : phaseOk (oddPhase p) = true := by
  have h2 : 0 ≤ p ∧ p ≤ 3 := by simpa [phaseOk] using h
  unfold oddPhase
  simp only [phaseOk, decide_eq_true_eq]
  split <;> omega
theorem oddBlack_ok {m : Nat → Int} {white : Int} (h : levelsOk m white = true) : levelsOk (oddBlack m) white = true := by
  rw [levelsOk, Bool.and_eq_true] at h ⊢
  refine ⟨h.1, List.all_eq_true.2 fun x hx => ?_⟩
  obtain ⟨k, hk, rfl⟩ := List.mem_map.1 hx
  exact decide_eq_true (arrL_all h.2 ((k + 2) % 4) (Nat.mod_lt _ (by omega)))
theorem movedSpots_in {W H height : Int} {ls : List Pt} {top rows : Nat} (h : spotsB W height ls = true) (hH : (rows : Int) = H) : spotsB W H (movedSpots ls top rows) = true := by
  refine List.all_eq_true.2 fun p hp => ?_
  obtain ⟨s, hs, rfl⟩ := List.mem_map.1 hp
  obtain ⟨hm, hr⟩ := List.mem_filter.1 hs
  have h1 := List.all_eq_true.1 h s hm
  simp only [hasB, inRows, decide_eq_true_eq] at h1 hr ⊢
  omega
theorem devOk_moved {n : Plan} {W H : Int} {zs : List Int} {height : Int} {TP HN : Nat} (h : planE n = 0) (hp : planeOk W H zs = true) (hs : spotsB W height n.spots = true) (hH : (HN : Int) = H) : DevOk (movedP n TP HN) W H zs := by
  obtain ⟨h1, h2, h3, h4, h5, h6, _, h8⟩ := planE_zero h
  refine ⟨hp, ?_, ?_, h3, h4, h5, ?_, movedSpots_in hs hH, h8⟩
  · show phaseOk (if TP % 2 = 1 then oddPhase n.phase else n.phase) = true
    split
    · exact oddPhase_ok h1
    · exact h1
  · show levelsOk (if TP % 2 = 1 then oddBlack n.black else n.black) n.white = true
    split
    · exact oddBlack_ok h2
    · exact h2
  · have := movedSpots_le n.spots TP HN
    show ((movedSpots n.spots TP HN).length : Int) ≤ 64
    omega
theorem spotsB_wf {W H : Int} {ls : List Pt} (h : spotsB W H ls = true) (hW : W ≤ 64) (hH : H ≤ 64) (j : Nat) (hj : j < ls.length) : ptWf (ptAt ls j) := by
  have h1 := spotsB_at h j hj
  simp only [hasB, decide_eq_true_eq] at h1
  exact ⟨WalkArith.wf_i64 (by omega), WalkArith.wf_i64 (by omega)⟩
def partOk (H top height fm tm : Int) : Bool := decide ((1 ≤ height ∧ height ≤ 64) ∧ (0 ≤ top ∧ top ≤ height) ∧ (0 ≤ fm ∧ fm ≤ height) ∧ (0 ≤ tm ∧ tm ≤ height) ∧ fm < tm ∧ top + H ≤ height ∧ top ≤ max 0 (fm - 4) ∧ min height (tm + 4) ≤ top + H)
def partE (n : Plan) (W H : Int) (zs : List Int) (top height fm tm : Int) : Int := if fitsE n W H zs height = 0 then (if partOk H top height fm tm = true then 0 else 3) else fitsE n W H zs height
def partL (n : Plan) (W H : Int) (zs : List Int) (top fm tm : Int) : List Px := rowsL (dev7 (movedP n top.toNat H.toNat) W H zs) W.toNat (fm - top).toNat (tm - fm).toNat
theorem exec_load_row {P : Program} {o : Oper} {a : Act} {w : World} (ty : TypeId) (x : Operand) (ho : o.op = .load ty x) (g : Nat) (hx : a.eval x = .pointer (some ⟨g, 0, none⟩)) (t : TypeId) (cs : Array Value) (fr : Nat × Nat) (d : TypeDesc) (hg : w.heap[g]? = some (.cells cs t fr))
    (hu : P.underlying ty = some d) (hd : (match d with | .struct _ | .array _ _ => true | _ => false) = true) (hi : (P.info? ty).map (·.size) = some cs.size) : (execOp a.eval o).run P w = .ok (.value (.agg cs)) w := by
  unfold execOp
  simp only [ho, hx, Instr.loadAt, Instr.sureAddr, Sem.run_bind, Sem.run_pure, Result.andThen_ok, run_loadVar_row w g t ty cs fr d hg hu hd hi]
end Go.Proofs.Ytolcndchfnifhac
