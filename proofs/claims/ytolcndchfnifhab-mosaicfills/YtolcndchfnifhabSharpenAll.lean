/- tone.Sharpen. -/
import Derived.Test.YtolcndchfnifhabSharp2
import Derived.Laws.EntriesVeiled
namespace Go.Proofs.Ytolcndchfnifhab
open Go.RowKit

/-- what Sharpen answers. -/
def sharpE (W H : Int) (ps : List Px) (amount : Int) : Int := if picOk W H ps = true then (if amountOk amount = true then 0 else 3) else 1
def sharpL (W H : Int) (ps : List Px) (amount : Int) : List Px := (List.range ps.length).map (sharpP ps W.toNat H.toNat amount)

set_option maxRecDepth 100000 in
set_option maxHeartbeats 1600000 in
theorem sharpen_any (W H : Int) (v : Value) (ps : List Px) (amount : Int) (w : World) (hv : IsPix w v ps) :
    Calls Try.prog 40 #[.agg #[.int .i64 W, .int .i64 H, v], .int .i64 amount] w fun e w' => ∃ r, e = .returned (.tuple #[.agg #[.int .i64 (okW (sharpE W H ps amount) W), .int .i64 (okW (sharpE W H ps amount) H), r], .int .i64 (sharpE W H ps amount)]) ∧ IsPix w' r (okL (sharpE W H ps amount) (sharpL W H ps amount)) ∧ Below w.heap.size w w' ∧ Fresh w.heap.size r := by
  have HV := hide hv
  obtain ⟨ao, ca, rfl, hla, hc⟩ := hv
  obtain ⟨E, hE⟩ : ∃ E, sharpE W H ps amount = E := ⟨_, rfl⟩
  rw [hE]
  by_cases hp : picOk W H ps = true
  · by_cases hm : amountOk amount = true
    · have he : E = 0 := by rw [← hE, sharpE, if_pos hp, if_pos hm]
      subst he
      clear hE
      have HAM := hide (show 0 ≤ amount ∧ amount ≤ 1024 by simpa [amountOk] using hm)
      obtain ⟨⟨w1, w2⟩, ⟨h1, h2⟩, hl, hpx⟩ := picOk_parts hp
      obtain ⟨WN, rfl⟩ := Int.eq_ofNat_of_zero_le (show 0 ≤ W by omega)
      obtain ⟨HN, rfl⟩ := Int.eq_ofNat_of_zero_le (show 0 ≤ H by omega)
      have HLEN := hide (show ps.length = HN * WN by rw [Nat.mul_comm]; exact_mod_cast hl)
      have HPX := hide hpx
      have HSL := hide (show sharpL (WN : Nat) (HN : Nat) ps amount = (List.range (HN * WN)).map (sharpP ps WN HN amount) by rw [sharpL, HLEN.out]; rfl)
      clear hl hpx
      go_enter Try.func40, Try.ntmps40
      go_wp2_with fail
      obtain ⟨a1, a2, a3⟩ := al3 w (Obj.cells #[.int .i64 (WN : Nat), .int .i64 (HN : Nat), .slice ao ps.length ca] 39) (Obj.cells #[.int .i64 amount] 3) (Obj.cells #[.int .i64 0, .int .i64 0, .slice none 0 0] 39)
      have hB := be3 w (Obj.cells #[.int .i64 (WN : Nat), .int .i64 (HN : Nat), .slice ao ps.length ca] 39) (Obj.cells #[.int .i64 amount] 3) (Obj.cells #[.int .i64 0, .int .i64 0, .slice none 0 0] 39)
      have hs3 : (((w.alloc (Obj.cells #[.int .i64 (WN : Nat), .int .i64 (HN : Nat), .slice ao ps.length ca] 39)).alloc (Obj.cells #[.int .i64 amount] 3)).alloc (Obj.cells #[.int .i64 0, .int .i64 0, .slice none 0 0] 39)).heap.size = w.heap.size + 3 := by simp
      generalize ((w.alloc (Obj.cells #[.int .i64 (WN : Nat), .int .i64 (HN : Nat), .slice ao ps.length ca] 39)).alloc (Obj.cells #[.int .i64 amount] 3)).alloc (Obj.cells #[.int .i64 0, .int .i64 0, .slice none 0 0] 39) = U at *
      replace hs3 := Nat.le_of_eq hs3.symm
      refine (picture_any WN HN _ ps _ (HV.out.below hB (Nat.le_refl _))).mono ?_
      rintro e w1 ⟨rfl, hb1⟩
      rw [hp]
      have g1 := (hb1.block (w.heap.size) (by omega)).trans a1
      have g2 := (hb1.block (w.heap.size + 1) (by omega)).trans a2
      have g3 := (hb1.block (w.heap.size + 1 + 1) (by omega)).trans a3
      have l0 : w1.cell? ⟨w.heap.size + 1, 0, none⟩ = some (.int .i64 amount) := by rw [Lib.cell_of_heap g2]; rfl
      go_wp2_with fail
      refine (amount_any _ _).mono ?_
      rintro e w2 ⟨rfl, hb2⟩
      rw [hm]
      clear l0
      replace hb2 := bel_trans hb1 hb2
      replace g1 := (hb2.block (w.heap.size) (by omega)).trans a1
      replace g2 := (hb2.block (w.heap.size + 1) (by omega)).trans a2
      replace g3 := (hb2.block (w.heap.size + 1 + 1) (by omega)).trans a3
      obtain ⟨p0, p1, p2⟩ := cells3 g1
      have hww : w.heap.size < w2.heap.size := by have := hb2.size; omega
      go_wp2_with fail
      obtain ⟨d1, d2⟩ := al2 w2 (Obj.cells #[.func (.func 85) #[] #[.pointer (some ⟨w.heap.size + 1, 0, none⟩)]] 51) (Obj.cells #[.int .i64 (WN : Nat), .int .i64 (HN : Nat)] 91)
      have hD := be2 w2 (Obj.cells #[.func (.func 85) #[] #[.pointer (some ⟨w.heap.size + 1, 0, none⟩)]] 51) (Obj.cells #[.int .i64 (WN : Nat), .int .i64 (HN : Nat)] 91)
      have hsD : ((w2.alloc (Obj.cells #[.func (.func 85) #[] #[.pointer (some ⟨w.heap.size + 1, 0, none⟩)]] 51)).alloc (Obj.cells #[.int .i64 (WN : Nat), .int .i64 (HN : Nat)] 91)).heap.size = w2.heap.size + 2 := by simp
      generalize (w2.alloc (Obj.cells #[.func (.func 85) #[] #[.pointer (some ⟨w.heap.size + 1, 0, none⟩)]] 51)).alloc (Obj.cells #[.int .i64 (WN : Nat), .int .i64 (HN : Nat)] 91) = Z at *
      replace hsD := Nat.le_of_eq hsD.symm
      have hb2s := hb2.size
      have hbZ := bel_trans hb2 hD
      refine (gridPicture_any WN HN (HN * WN) (by omega) (by omega) rfl 86 _ (sharpP ps WN HN amount) Z (enters_of Try.func86 (by kernel_rfl) rfl) ?_).mono ?_
      · intro j M hj hM
        have hj' : j < ps.length := by rw [HLEN.out]; exact hj
        obtain ⟨bk, off, hao, hbl, hcell⟩ : ∃ b off, ao = some ⟨b, off, none⟩ ∧ b < w.heap.size ∧ ∀ j (h : j < ps.length),
            w.cell? ⟨b, off + j * 3, none⟩ = some (.int .i64 ps[j].1) ∧ w.cell? ⟨b, off + j * 3 + 1, none⟩ = some (.int .i64 ps[j].2.1) ∧ w.cell? ⟨b, off + j * 3 + 2, none⟩ = some (.int .i64 ps[j].2.2) := by
          rcases hc with h | h
          · subst h; simp at hj'
          · exact h
        subst hao
        have hUM := bel_trans hbZ hM
        have hwM := hB.trans (hUM.mono hB.size)
        have hsM := hM.size
        have m1 := (hUM.block w.heap.size (by omega)).trans a1
        have m2 := (hUM.block (w.heap.size + 1) (by omega)).trans a2
        have m3 := (hM.block w2.heap.size (by omega)).trans d1
        have m4 := (hM.block (w2.heap.size + 1) (by omega)).trans d2
        obtain ⟨e0, e1, e2⟩ := cells3 m1
        exact sharpen2_any WN HN j bk off ca (by omega) (by omega) (by omega) (by omega) amount HAM.out.1 HAM.out.2 ps HLEN.out HPX.out hj' w.heap.size (w2.heap.size + 1) w2.heap.size (w.heap.size + 1) M (by omega) (by omega) (by omega) (by omega) (by omega)
          e0 e1 e2 (by rw [Lib.cell_of_heap m4]; rfl) (by rw [Lib.cell_of_heap m4]; rfl) (by rw [Lib.cell_of_heap m3]; rfl) (by rw [Lib.cell_of_heap m2]; rfl) (fun i hi => by
            obtain ⟨c0, c1, c2⟩ := hcell i hi
            rw [pxAt_get ps i hi] at c0 c1 c2
            exact ⟨(hwM.cell (p := ⟨bk, off + i * 3, none⟩) hbl).trans c0, (hwM.cell (p := ⟨bk, off + i * 3 + 1, none⟩) hbl).trans c1, (hwM.cell (p := ⟨bk, off + i * 3 + 2, none⟩) hbl).trans c2⟩)
      · rintro e w3 ⟨r, rfl, hr, hb3, hfr⟩
        clear p0 p1 p2
        rw [← HSL.out] at hr
        have hsl : (sharpL (WN : Nat) (HN : Nat) ps amount).length = ps.length := by simp [sharpL]
        have HSLL := hide hsl
        clear hsl
        replace hb3 := bel_trans hbZ hb3
        replace g3 := (hb3.block (w.heap.size + 1 + 1) (by omega)).trans a3
        obtain ⟨z0, z1, z2⟩ := cells3 g3
        have f0 := Lib.frozen_of_heap g3 0
        have f1 := Lib.frozen_of_heap g3 1
        have f2 := Lib.frozen_of_heap g3 2
        have HR := hide hr
        obtain ⟨ro, rc, rfl, _, _⟩ := hr
        have HFIN := hide (set3_below (hB.trans (hb3.mono hB.size)) (show w.heap.size ≤ w.heap.size + 1 + 1 by omega) (.int .i64 (WN : Nat)) (.int .i64 (HN : Nat)) (.slice ro (sharpL (WN : Nat) (HN : Nat) ps amount).length rc))
        have HPX2 := hide (HR.out.set3 hfr (show w.heap.size + 1 + 1 < Z.heap.size by omega) (.int .i64 (WN : Nat)) (.int .i64 (HN : Nat)) (.slice ro (sharpL (WN : Nat) (HN : Nat) ps amount).length rc))
        rw [HSLL.out] at HPX2 HFIN hfr
        rw [HSLL.out]
        go_wp2
        exact bodyPost_ret (v := .tuple #[.agg #[.int .i64 (WN : Nat), .int .i64 (HN : Nat), .slice ro ps.length rc], .int .i64 0]) (by simp [results, Try.results40, go_sem, z0, z1, z2]) rfl ⟨_, rfl, HPX2.out, HFIN.out, hfr.mono (by omega)⟩
    · have he : E = 3 := by rw [← hE, sharpE, if_pos hp, if_neg hm]
      have hm : amountOk amount = false := by simpa using hm
      subst he
      clear hE
      go_enter Try.func40, Try.ntmps40
      go_wp2_with fail
      obtain ⟨a1, a2, a3⟩ := al3 w (Obj.cells #[.int .i64 W, .int .i64 H, .slice ao ps.length ca] 39) (Obj.cells #[.int .i64 amount] 3) (Obj.cells #[.int .i64 0, .int .i64 0, .slice none 0 0] 39)
      have hB := be3 w (Obj.cells #[.int .i64 W, .int .i64 H, .slice ao ps.length ca] 39) (Obj.cells #[.int .i64 amount] 3) (Obj.cells #[.int .i64 0, .int .i64 0, .slice none 0 0] 39)
      have hs3 : (((w.alloc (Obj.cells #[.int .i64 W, .int .i64 H, .slice ao ps.length ca] 39)).alloc (Obj.cells #[.int .i64 amount] 3)).alloc (Obj.cells #[.int .i64 0, .int .i64 0, .slice none 0 0] 39)).heap.size = w.heap.size + 3 := by simp
      generalize ((w.alloc (Obj.cells #[.int .i64 W, .int .i64 H, .slice ao ps.length ca] 39)).alloc (Obj.cells #[.int .i64 amount] 3)).alloc (Obj.cells #[.int .i64 0, .int .i64 0, .slice none 0 0] 39) = U at *
      replace hs3 := Nat.le_of_eq hs3.symm
      refine (picture_any W H _ ps _ (HV.out.below hB (Nat.le_refl _))).mono ?_
      rintro e w1 ⟨rfl, hb1⟩
      rw [hp]
      have g1 := (hb1.block (w.heap.size) (by omega)).trans a1
      have g2 := (hb1.block (w.heap.size + 1) (by omega)).trans a2
      have g3 := (hb1.block (w.heap.size + 1 + 1) (by omega)).trans a3
      have l0 : w1.cell? ⟨w.heap.size + 1, 0, none⟩ = some (.int .i64 amount) := by rw [Lib.cell_of_heap g2]; rfl
      go_wp2_with fail
      refine (amount_any _ _).mono ?_
      rintro e w2 ⟨rfl, hb2⟩
      rw [hm]
      clear l0
      replace hb2 := bel_trans hb1 hb2
      replace g1 := (hb2.block (w.heap.size) (by omega)).trans a1
      replace g2 := (hb2.block (w.heap.size + 1) (by omega)).trans a2
      replace g3 := (hb2.block (w.heap.size + 1 + 1) (by omega)).trans a3
      obtain ⟨z0, z1, z2⟩ := cells3 g3
      have f0 := Lib.frozen_of_heap g3 0
      have f1 := Lib.frozen_of_heap g3 1
      have f2 := Lib.frozen_of_heap g3 2
      have HBL := hb2
      have HFIN := hide (set3_below (hB.trans (HBL.mono hB.size)) (show w.heap.size ≤ w.heap.size + 1 + 1 by omega) (.int .i64 0) (.int .i64 0) (.slice none 0 0))
      go_wp2
      exact bodyPost_ret (v := .tuple #[.agg #[.int .i64 0, .int .i64 0, .slice none 0 0], .int .i64 3]) (by simp [results, Try.results40, go_sem, z0, z1, z2]) rfl ⟨.slice none 0 0, rfl, IsPix.nil _, HFIN.out, Fresh.nil _⟩
  · have he : E = 1 := by rw [← hE, sharpE, if_neg hp]
    have hp : picOk W H ps = false := by simpa using hp
    subst he
    clear hE
    go_enter Try.func40, Try.ntmps40
    go_wp2_with fail
    obtain ⟨a1, a2, a3⟩ := al3 w (Obj.cells #[.int .i64 W, .int .i64 H, .slice ao ps.length ca] 39) (Obj.cells #[.int .i64 amount] 3) (Obj.cells #[.int .i64 0, .int .i64 0, .slice none 0 0] 39)
    have hB := be3 w (Obj.cells #[.int .i64 W, .int .i64 H, .slice ao ps.length ca] 39) (Obj.cells #[.int .i64 amount] 3) (Obj.cells #[.int .i64 0, .int .i64 0, .slice none 0 0] 39)
    have hs3 : (((w.alloc (Obj.cells #[.int .i64 W, .int .i64 H, .slice ao ps.length ca] 39)).alloc (Obj.cells #[.int .i64 amount] 3)).alloc (Obj.cells #[.int .i64 0, .int .i64 0, .slice none 0 0] 39)).heap.size = w.heap.size + 3 := by simp
    generalize ((w.alloc (Obj.cells #[.int .i64 W, .int .i64 H, .slice ao ps.length ca] 39)).alloc (Obj.cells #[.int .i64 amount] 3)).alloc (Obj.cells #[.int .i64 0, .int .i64 0, .slice none 0 0] 39) = U at *
    replace hs3 := Nat.le_of_eq hs3.symm
    refine (picture_any W H _ ps _ (HV.out.below hB (Nat.le_refl _))).mono ?_
    rintro e w1 ⟨rfl, hb1⟩
    rw [hp]
    have g1 := (hb1.block (w.heap.size) (by omega)).trans a1
    have g2 := (hb1.block (w.heap.size + 1) (by omega)).trans a2
    have g3 := (hb1.block (w.heap.size + 1 + 1) (by omega)).trans a3
    obtain ⟨z0, z1, z2⟩ := cells3 g3
    have f0 := Lib.frozen_of_heap g3 0
    have f1 := Lib.frozen_of_heap g3 1
    have f2 := Lib.frozen_of_heap g3 2
    have HBL := hb1
    have HFIN := hide (set3_below (hB.trans (HBL.mono hB.size)) (show w.heap.size ≤ w.heap.size + 1 + 1 by omega) (.int .i64 0) (.int .i64 0) (.slice none 0 0))
    go_wp2
    exact bodyPost_ret (v := .tuple #[.agg #[.int .i64 0, .int .i64 0, .slice none 0 0], .int .i64 1]) (by simp [results, Try.results40, go_sem, z0, z1, z2]) rfl ⟨.slice none 0 0, rfl, IsPix.nil _, HFIN.out, Fresh.nil _⟩

end Go.Proofs.Ytolcndchfnifhab
