/- tone.Mix. -/
import Derived.Test.YtolcndchfnifhabEach
import Derived.Test.YtolcndchfnifhabMix
namespace Go.Proofs.Ytolcndchfnifhab
open Go.RowKit

abbrev nine (m : Nat → Int) : Array Value := #[.int .i64 (m 0), .int .i64 (m 1), .int .i64 (m 2), .int .i64 (m 3), .int .i64 (m 4), .int .i64 (m 5), .int .i64 (m 6), .int .i64 (m 7), .int .i64 (m 8)]
def nineL (m : Nat → Int) : List Int := (List.range 9).map m
def matOk (m : Nat → Int) : Bool := allIn (-32768) 32768 (nineL m)
theorem nine_get (m : Nat → Int) (k : Nat) (h : k < 9) : (nine m)[k]? = some (.int .i64 (m k)) := by
  rcases (show k = 0 ∨ k = 1 ∨ k = 2 ∨ k = 3 ∨ k = 4 ∨ k = 5 ∨ k = 6 ∨ k = 7 ∨ k = 8 by omega) with rfl | rfl | rfl | rfl | rfl | rfl | rfl | rfl | rfl <;> rfl
theorem matOk_get {m : Nat → Int} (h : matOk m = true) (k : Nat) (hk : k < 9) : -32768 ≤ m k ∧ m k ≤ 32768 := by
  have := List.all_eq_true.1 h (m k) (List.mem_map.2 ⟨k, List.mem_range.2 hk, rfl⟩)
  simpa using this

theorem nine_ints {w w' : World} {t : TypeId} (m : Nat → Int) (hb : Below (w.alloc (.cells (nine m) t)).heap.size (w.alloc (.cells (nine m) t)) w') : IsInts w' (.slice (some ⟨w.heap.size, 0, none⟩) 9 9) (nineL m) := by
  refine ⟨_, _, rfl, by simp [nineL], .inr ⟨w.heap.size, 0, rfl, by have := hb.size; simp at this; omega, fun j hj => ?_⟩⟩
  have hj9 : j < 9 := by simpa [nineL] using hj
  rw [hb.cell (p := ⟨w.heap.size, 0 + j, none⟩) (by simp), Lib.cell_of_heap (heap_alloc_new w _), Nat.zero_add, nine_get m j hj9]
  simp [nineL]

set_option maxRecDepth 100000 in
theorem matrix_any (m : Nat → Int) (w : World) : Calls Try.prog 74 #[.agg (nine m)] w fun e w' => e = .returned (.bool (matOk m)) ∧ Below w.heap.size w w' := by
  go_enter Try.func74, Try.ntmps74
  go_wp2_with fail
  refine (rWithin_any (-32768) 32768 _ (nineL m) _ (nine_ints m (Below.refl _ _))).mono ?_
  rintro e w1 ⟨rfl, rfl⟩
  rw [show allIn (-32768) 32768 (nineL m) = matOk m from rfl]
  go_wp2
  go_ret
  exact ⟨rfl, bel_alloc _ _⟩

theorem nine_cells {w : World} {b : Nat} {t : TypeId} {fr : Nat × Nat} {m : Nat → Int} (h : w.heap[b]? = some (.cells (nine m) t fr)) :
    w.cell? ⟨b, 0, none⟩ = some (.int .i64 (m 0)) ∧ w.cell? ⟨b, 1, none⟩ = some (.int .i64 (m 1)) ∧ w.cell? ⟨b, 2, none⟩ = some (.int .i64 (m 2)) ∧ w.cell? ⟨b, 3, none⟩ = some (.int .i64 (m 3)) ∧ w.cell? ⟨b, 4, none⟩ = some (.int .i64 (m 4)) ∧ w.cell? ⟨b, 5, none⟩ = some (.int .i64 (m 5)) ∧ w.cell? ⟨b, 6, none⟩ = some (.int .i64 (m 6)) ∧ w.cell? ⟨b, 7, none⟩ = some (.int .i64 (m 7)) ∧ w.cell? ⟨b, 8, none⟩ = some (.int .i64 (m 8)) :=
  ⟨by rw [Lib.cell_of_heap h]; rfl, by rw [Lib.cell_of_heap h]; rfl, by rw [Lib.cell_of_heap h]; rfl, by rw [Lib.cell_of_heap h]; rfl, by rw [Lib.cell_of_heap h]; rfl, by rw [Lib.cell_of_heap h]; rfl, by rw [Lib.cell_of_heap h]; rfl, by rw [Lib.cell_of_heap h]; rfl, by rw [Lib.cell_of_heap h]; rfl⟩

/-- what Mix answers. -/
def mixE (W H : Int) (ps : List Px) (m : Nat → Int) : Int := if picOk W H ps = true then (if matOk m = true then 0 else 3) else 1
def okW (e W : Int) : Int := if e = 0 then W else 0
def okL {α : Type} (e : Int) (l : List α) : List α := if e = 0 then l else []

set_option maxRecDepth 100000 in
set_option maxHeartbeats 1600000 in
theorem mix_any (W H : Int) (v : Value) (ps : List Px) (m : Nat → Int) (w : World) (hv : IsPix w v ps) :
    Calls Try.prog 31 #[.agg #[.int .i64 W, .int .i64 H, v], .agg (nine m)] w fun e w' => ∃ r, e = .returned (.tuple #[.agg #[.int .i64 (okW (mixE W H ps m) W), .int .i64 (okW (mixE W H ps m) H), r], .int .i64 (mixE W H ps m)]) ∧ IsPix w' r (okL (mixE W H ps m) (ps.map (mixP m))) ∧ Below w.heap.size w w' ∧ Fresh w.heap.size r := by
  have HV := hide hv
  obtain ⟨ao, ca, rfl, hla, hc⟩ := hv
  obtain ⟨E, hE⟩ : ∃ E, mixE W H ps m = E := ⟨_, rfl⟩
  rw [hE]
  by_cases hp : picOk W H ps = true
  · by_cases hm : matOk m = true
    · have he : E = 0 := by rw [← hE, mixE, if_pos hp, if_pos hm]
      subst he
      clear hE
      obtain ⟨⟨w1, w2⟩, ⟨h1, h2⟩, hl, hpx⟩ := picOk_parts hp
      obtain ⟨WN, rfl⟩ := Int.eq_ofNat_of_zero_le (show 0 ≤ W by omega)
      obtain ⟨HN, rfl⟩ := Int.eq_ofNat_of_zero_le (show 0 ≤ H by omega)
      have HLEN := hide (show ps.length = HN * WN by rw [Nat.mul_comm]; exact_mod_cast hl)
      have HPX := hide hpx
      clear hl hpx
      go_enter Try.func31, Try.ntmps31
      go_wp2_with fail
      obtain ⟨a1, a2, a3⟩ := al3 w (Obj.cells #[.int .i64 (WN : Nat), .int .i64 (HN : Nat), .slice ao ps.length ca] 39) (Obj.cells (nine m) 53) (Obj.cells #[.int .i64 0, .int .i64 0, .slice none 0 0] 39)
      have hB := be3 w (Obj.cells #[.int .i64 (WN : Nat), .int .i64 (HN : Nat), .slice ao ps.length ca] 39) (Obj.cells (nine m) 53) (Obj.cells #[.int .i64 0, .int .i64 0, .slice none 0 0] 39)
      have hs3 : (((w.alloc (Obj.cells #[.int .i64 (WN : Nat), .int .i64 (HN : Nat), .slice ao ps.length ca] 39)).alloc (Obj.cells (nine m) 53)).alloc (Obj.cells #[.int .i64 0, .int .i64 0, .slice none 0 0] 39)).heap.size = w.heap.size + 3 := by simp
      generalize ((w.alloc (Obj.cells #[.int .i64 (WN : Nat), .int .i64 (HN : Nat), .slice ao ps.length ca] 39)).alloc (Obj.cells (nine m) 53)).alloc (Obj.cells #[.int .i64 0, .int .i64 0, .slice none 0 0] 39) = U at *
      refine (picture_any WN HN _ ps _ (HV.out.below hB (Nat.le_refl _))).mono ?_
      rintro e w1 ⟨rfl, hb1⟩
      rw [hp]
      have g1 := (hb1.block (w.heap.size) (by omega)).trans a1
      have g2 := (hb1.block (w.heap.size + 1) (by omega)).trans a2
      have g3 := (hb1.block (w.heap.size + 1 + 1) (by omega)).trans a3
      obtain ⟨n0, n1, n2, n3, n4, n5, n6, n7, n8⟩ := nine_cells g2
      go_wp2_with fail
      refine (matrix_any m _).mono ?_
      rintro e w2 ⟨rfl, hb2⟩
      rw [hm]
      clear n0 n1 n2 n3 n4 n5 n6 n7 n8
      replace hb2 := bel_trans hb1 hb2
      replace g1 := (hb2.block (w.heap.size) (by omega)).trans a1
      replace g2 := (hb2.block (w.heap.size + 1) (by omega)).trans a2
      replace g3 := (hb2.block (w.heap.size + 1 + 1) (by omega)).trans a3
      obtain ⟨p0, p1, p2⟩ := cells3 g1
      go_wp2_with fail
      refine (each_any WN HN (by omega) (by omega) _ ps HLEN.out 76 #[.pointer (some ⟨w.heap.size + 1, 0, none⟩)] (mixP m) _ (HV.out.below (hB.trans (hb2.mono hB.size)) (Nat.le_refl _)) (enters_of Try.func76 (by kernel_rfl) rfl) ?_).mono ?_
      · intro j hj V hV
        have hb3 := bel_trans hb2 hV
        have g2' := (hb3.block (w.heap.size + 1) (by omega)).trans a2
        exact mix1_any (w.heap.size + 1) m (fun k hk => matOk_get hm k hk) ps[j] (List.all_eq_true.1 HPX.out _ (List.getElem_mem hj)) V (by have := hb3.size; omega) (fun k hk => by rw [Lib.cell_of_heap g2', nine_get m k hk])
      · rintro e w3 ⟨r, rfl, hr, hb3, hfr⟩
        clear p0 p1 p2
        replace hb3 := bel_trans hb2 hb3
        replace g3 := (hb3.block (w.heap.size + 1 + 1) (by omega)).trans a3
        have hs2 := hb2.size
        obtain ⟨z0, z1, z2⟩ := cells3 g3
        have f0 := Lib.frozen_of_heap g3 0
        have f1 := Lib.frozen_of_heap g3 1
        have f2 := Lib.frozen_of_heap g3 2
        have HR := hide hr
        obtain ⟨ro, rc, rfl, _, _⟩ := hr
        have HFIN := hide (set3_below (hB.trans (hb3.mono hB.size)) (show w.heap.size ≤ w.heap.size + 1 + 1 by omega) (.int .i64 (WN : Nat)) (.int .i64 (HN : Nat)) (.slice ro (ps.map (mixP m)).length rc))
        have HPX2 := hide (HR.out.set3 hfr (show w.heap.size + 1 + 1 < w2.heap.size by omega) (.int .i64 (WN : Nat)) (.int .i64 (HN : Nat)) (.slice ro (ps.map (mixP m)).length rc))
        rw [List.length_map] at HPX2 HFIN hfr
        go_wp2
        exact bodyPost_ret (v := .tuple #[.agg #[.int .i64 (WN : Nat), .int .i64 (HN : Nat), .slice ro ps.length rc], .int .i64 0]) (by simp [results, Try.results31, go_sem, z0, z1, z2]) rfl ⟨_, rfl, HPX2.out, HFIN.out, hfr.mono (by omega)⟩
    · have he : E = 3 := by rw [← hE, mixE, if_pos hp, if_neg hm]
      have hm : matOk m = false := by simpa using hm
      subst he
      clear hE
      go_enter Try.func31, Try.ntmps31
      go_wp2_with fail
      obtain ⟨a1, a2, a3⟩ := al3 w (Obj.cells #[.int .i64 W, .int .i64 H, .slice ao ps.length ca] 39) (Obj.cells (nine m) 53) (Obj.cells #[.int .i64 0, .int .i64 0, .slice none 0 0] 39)
      have hB := be3 w (Obj.cells #[.int .i64 W, .int .i64 H, .slice ao ps.length ca] 39) (Obj.cells (nine m) 53) (Obj.cells #[.int .i64 0, .int .i64 0, .slice none 0 0] 39)
      have hs3 : (((w.alloc (Obj.cells #[.int .i64 W, .int .i64 H, .slice ao ps.length ca] 39)).alloc (Obj.cells (nine m) 53)).alloc (Obj.cells #[.int .i64 0, .int .i64 0, .slice none 0 0] 39)).heap.size = w.heap.size + 3 := by simp
      generalize ((w.alloc (Obj.cells #[.int .i64 W, .int .i64 H, .slice ao ps.length ca] 39)).alloc (Obj.cells (nine m) 53)).alloc (Obj.cells #[.int .i64 0, .int .i64 0, .slice none 0 0] 39) = U at *
      refine (picture_any W H _ ps _ (HV.out.below hB (Nat.le_refl _))).mono ?_
      rintro e w1 ⟨rfl, hb1⟩
      rw [hp]
      have g1 := (hb1.block (w.heap.size) (by omega)).trans a1
      have g2 := (hb1.block (w.heap.size + 1) (by omega)).trans a2
      have g3 := (hb1.block (w.heap.size + 1 + 1) (by omega)).trans a3
      obtain ⟨n0, n1, n2, n3, n4, n5, n6, n7, n8⟩ := nine_cells g2
      go_wp2_with fail
      refine (matrix_any m _).mono ?_
      rintro e w2 ⟨rfl, hb2⟩
      rw [hm]
      clear n0 n1 n2 n3 n4 n5 n6 n7 n8
      replace hb2 := bel_trans hb1 hb2
      replace g1 := (hb2.block (w.heap.size) (by omega)).trans a1
      replace g2 := (hb2.block (w.heap.size + 1) (by omega)).trans a2
      replace g3 := (hb2.block (w.heap.size + 1 + 1) (by omega)).trans a3
      obtain ⟨z0, z1, z2⟩ := cells3 g3
      have f0 := Lib.frozen_of_heap g3 0
      have f1 := Lib.frozen_of_heap g3 1
      have f2 := Lib.frozen_of_heap g3 2
      have HBL := hb2
      have HFIN := hide (set3_below (hB.trans (HBL.mono hB.size)) (show w.heap.size ≤ w.heap.size + 1 + 1 by omega) (.int .i64 0) (.int .i64 0) (.slice none 0 0))
      go_wp2
      exact bodyPost_ret (v := .tuple #[.agg #[.int .i64 0, .int .i64 0, .slice none 0 0], .int .i64 3]) (by simp [results, Try.results31, go_sem, z0, z1, z2]) rfl ⟨.slice none 0 0, rfl, IsPix.nil _, HFIN.out, Fresh.nil _⟩
  · have he : E = 1 := by rw [← hE, mixE, if_neg hp]
    have hp : picOk W H ps = false := by simpa using hp
    subst he
    clear hE
    go_enter Try.func31, Try.ntmps31
    go_wp2_with fail
    obtain ⟨a1, a2, a3⟩ := al3 w (Obj.cells #[.int .i64 W, .int .i64 H, .slice ao ps.length ca] 39) (Obj.cells (nine m) 53) (Obj.cells #[.int .i64 0, .int .i64 0, .slice none 0 0] 39)
    have hB := be3 w (Obj.cells #[.int .i64 W, .int .i64 H, .slice ao ps.length ca] 39) (Obj.cells (nine m) 53) (Obj.cells #[.int .i64 0, .int .i64 0, .slice none 0 0] 39)
    have hs3 : (((w.alloc (Obj.cells #[.int .i64 W, .int .i64 H, .slice ao ps.length ca] 39)).alloc (Obj.cells (nine m) 53)).alloc (Obj.cells #[.int .i64 0, .int .i64 0, .slice none 0 0] 39)).heap.size = w.heap.size + 3 := by simp
    generalize ((w.alloc (Obj.cells #[.int .i64 W, .int .i64 H, .slice ao ps.length ca] 39)).alloc (Obj.cells (nine m) 53)).alloc (Obj.cells #[.int .i64 0, .int .i64 0, .slice none 0 0] 39) = U at *
    refine (picture_any W H _ ps _ (HV.out.below hB (Nat.le_refl _))).mono ?_
    rintro e w1 ⟨rfl, hb1⟩
    rw [hp]
    have g1 := (hb1.block (w.heap.size) (by omega)).trans a1
    have g2 := (hb1.block (w.heap.size + 1) (by omega)).trans a2
    have g3 := (hb1.block (w.heap.size + 1 + 1) (by omega)).trans a3
    obtain ⟨z0, z1, z2⟩ := cells3 g3
    have f0 := Lib.frozen_of_heap g3 0
    have f1 := Lib.frozen_of_heap g3 1
    have f2 := Lib.frozen_of_heap g3 2
    have HBL := hb1
    have HFIN := hide (set3_below (hB.trans (HBL.mono hB.size)) (show w.heap.size ≤ w.heap.size + 1 + 1 by omega) (.int .i64 0) (.int .i64 0) (.slice none 0 0))
    go_wp2
    exact bodyPost_ret (v := .tuple #[.agg #[.int .i64 0, .int .i64 0, .slice none 0 0], .int .i64 1]) (by simp [results, Try.results31, go_sem, z0, z1, z2]) rfl ⟨.slice none 0 0, rfl, IsPix.nil _, HFIN.out, Fresh.nil _⟩

end Go.Proofs.Ytolcndchfnifhab
