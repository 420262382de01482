/- Boxes in memory: what lies behind allocs and stores of three; samples by their numbers. -/
import Derived.Test.YtolcndchfnifhaaBase
namespace Go.Proofs.Ytolcndchfnifhaa
set_option linter.unusedVariables false
open Go.RowKit

theorem al1 (w : World) (a : Obj) : (w.alloc a).heap[w.heap.size]? = some a := heap_alloc_new w a
theorem al2 (w : World) (a b : Obj) : ((w.alloc a).alloc b).heap[w.heap.size]? = some a ∧ ((w.alloc a).alloc b).heap[w.heap.size + 1]? = some b := by
  refine ⟨(Below.heap_alloc _ _ _ (by simp only [World.size_alloc]; omega)).trans (al1 w a), ?_⟩
  have h := al1 (w.alloc a) b
  rw [World.size_alloc] at h; exact h
theorem al3 (w : World) (a b c : Obj) : (((w.alloc a).alloc b).alloc c).heap[w.heap.size]? = some a ∧ (((w.alloc a).alloc b).alloc c).heap[w.heap.size + 1]? = some b ∧ (((w.alloc a).alloc b).alloc c).heap[w.heap.size + 2]? = some c := by
  obtain ⟨h1, h2⟩ := al2 w a b
  refine ⟨(Below.heap_alloc _ _ _ (by simp only [World.size_alloc]; omega)).trans h1, (Below.heap_alloc _ _ _ (by simp only [World.size_alloc]; omega)).trans h2, ?_⟩
  have h := al1 ((w.alloc a).alloc b) c
  rw [World.size_alloc, World.size_alloc] at h; exact h
theorem al4 (w : World) (a b c d : Obj) : ((((w.alloc a).alloc b).alloc c).alloc d).heap[w.heap.size]? = some a ∧ ((((w.alloc a).alloc b).alloc c).alloc d).heap[w.heap.size + 1]? = some b ∧ ((((w.alloc a).alloc b).alloc c).alloc d).heap[w.heap.size + 2]? = some c ∧ ((((w.alloc a).alloc b).alloc c).alloc d).heap[w.heap.size + 3]? = some d := by
  obtain ⟨h1, h2, h3⟩ := al3 w a b c
  refine ⟨(Below.heap_alloc _ _ _ (by simp only [World.size_alloc]; omega)).trans h1, (Below.heap_alloc _ _ _ (by simp only [World.size_alloc]; omega)).trans h2, (Below.heap_alloc _ _ _ (by simp only [World.size_alloc]; omega)).trans h3, ?_⟩
  have h := al1 (((w.alloc a).alloc b).alloc c) d
  rw [World.size_alloc, World.size_alloc, World.size_alloc] at h; exact h
theorem be2 (w : World) (a b : Obj) : Below w.heap.size w ((w.alloc a).alloc b) := bel_trans (bel_alloc _ _) (bel_alloc _ _)
theorem be3 (w : World) (a b c : Obj) : Below w.heap.size w (((w.alloc a).alloc b).alloc c) := bel_trans (be2 _ _ _) (bel_alloc _ _)
theorem be4 (w : World) (a b c d : Obj) : Below w.heap.size w ((((w.alloc a).alloc b).alloc c).alloc d) := bel_trans (be3 _ _ _ _) (bel_alloc _ _)

theorem set3_size (w : World) (b : Nat) (x y z : Value) : w.heap.size ≤ (((w.setCell ⟨b, 0, none⟩ x).setCell ⟨b, 1, none⟩ y).setCell ⟨b, 2, none⟩ z).heap.size := by simp [World.setCell]
theorem set3_heap (w : World) (b : Nat) (x y z : Value) (k : Nat) (h : k ≠ b) : (((w.setCell ⟨b, 0, none⟩ x).setCell ⟨b, 1, none⟩ y).setCell ⟨b, 2, none⟩ z).heap[k]? = w.heap[k]? := by
  rw [Below.heap_setCell _ _ _ _ h, Below.heap_setCell _ _ _ _ h, Below.heap_setCell _ _ _ _ h]
theorem Fresh.ne {B k : Nat} {v : Value} (h : Fresh B v) (hk : k < B) : v.ownBlock ≠ some k := fun e => by have := h k e; omega

theorem IsInts.set3 {w : World} {v : Value} {xs : List Int} {B k : Nat} (h : IsInts w v xs) (hf : Fresh B v) (hk : k < B) (x y z : Value) : IsInts (((w.setCell ⟨k, 0, none⟩ x).setCell ⟨k, 1, none⟩ y).setCell ⟨k, 2, none⟩ z) v xs :=
  h.other (set3_size _ _ _ _ _) (fun b hb => set3_heap _ _ _ _ _ b hb) (hf.ne hk)

theorem set3_below {B b : Nat} {w U : World} (h : Below B w U) (hb : B ≤ b) (x y z : Value) : Below B w (((U.setCell ⟨b, 0, none⟩ x).setCell ⟨b, 1, none⟩ y).setCell ⟨b, 2, none⟩ z) :=
  ((h.setCell (p := ⟨b, 0, none⟩) hb _).setCell (p := ⟨b, 1, none⟩) hb _).setCell (p := ⟨b, 2, none⟩) hb _
theorem set3_cell {w : World} {b : Nat} (x y z : Value) {a : Addr} (h : a.block ≠ b) : (((w.setCell ⟨b, 0, none⟩ x).setCell ⟨b, 1, none⟩ y).setCell ⟨b, 2, none⟩ z).cell? a = w.cell? a := by
  refine World.cell?_of_block ?_
  rw [Below.heap_setCell _ _ _ _ h, Below.heap_setCell _ _ _ _ h, Below.heap_setCell _ _ _ _ h]

theorem cells3 {w : World} {b : Nat} {x y z : Value} {t : TypeId} {fr : Nat × Nat} (h : w.heap[b]? = some (.cells #[x, y, z] t fr)) :
    w.cell? ⟨b, 0, none⟩ = some x ∧ w.cell? ⟨b, 1, none⟩ = some y ∧ w.cell? ⟨b, 2, none⟩ = some z :=
  ⟨by rw [Lib.cell_of_heap h]; rfl, by rw [Lib.cell_of_heap h]; rfl, by rw [Lib.cell_of_heap h]; rfl⟩

def okW (e W : Int) : Int := if e = 0 then W else 0
def okL {α : Type} (e : Int) (l : List α) : List α := if e = 0 then l else []

def zAt (zs : List Int) (j : Nat) : Int := zs.getD j 0
theorem zAt_get (zs : List Int) (i : Nat) (h : i < zs.length) : zs[i] = zAt zs i := by simp [zAt, List.getD_eq_getElem?_getD, List.getElem?_eq_getElem h]
theorem zAt_ok {zs : List Int} (h : allIn 0 65535 zs = true) (j : Nat) : 0 ≤ zAt zs j ∧ zAt zs j ≤ 65535 := by
  by_cases hj : j < zs.length
  · rw [← zAt_get zs j hj]; simpa using List.all_eq_true.1 h _ (List.getElem_mem hj)
  · rw [zAt, List.getD_eq_getElem?_getD, List.getElem?_eq_none (by omega)]; decide

theorem planeOk_all {W H : Int} {zs : List Int} (h : planeOk W H zs = true) : allIn 0 65535 zs = true := by
  rw [planeOk_eq, Bool.and_eq_true] at h
  exact h.2

theorem IsInts.cells {w : World} {v : Value} {zs : List Int} (h : IsInts w v zs) (hn : 1 ≤ zs.length) : ∃ bk off ca, v = .slice (some ⟨bk, off, none⟩) zs.length ca ∧ bk < w.heap.size ∧ ∀ j, j < zs.length → w.cell? ⟨bk, off + j, none⟩ = some (.int .i64 (zAt zs j)) := by
  obtain ⟨ao, ca, rfl, _, h⟩ := h
  rcases h with h | ⟨b, off, rfl, hlt, hc⟩
  · subst h; simp at hn
  · exact ⟨b, off, ca, rfl, hlt, fun j hj => by rw [hc j hj, zAt_get zs j hj]⟩
theorem bx1 {w : World} {b : Nat} {x : Value} {t : TypeId} {fr : Nat × Nat} (h : w.heap[b]? = some (.cells #[x] t fr)) : w.cell? ⟨b, 0, none⟩ = some x := by rw [Lib.cell_of_heap h]; rfl
theorem bx2 {w : World} {b : Nat} {x y : Value} {t : TypeId} {fr : Nat × Nat} (h : w.heap[b]? = some (.cells #[x, y] t fr)) : w.cell? ⟨b, 0, none⟩ = some x ∧ w.cell? ⟨b, 1, none⟩ = some y := ⟨by rw [Lib.cell_of_heap h]; rfl, by rw [Lib.cell_of_heap h]; rfl⟩

end Go.Proofs.Ytolcndchfnifhaa
