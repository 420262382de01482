/- Pixels in memory. -/
import Derived.Test.YtolcndchfnifhabBase
namespace Go.Proofs.Ytolcndchfnifhab
open Go.RowKit

abbrev Px := Int × Int × Int
def pixZ : Value := .agg #[.int .i64 0, .int .i64 0, .int .i64 0]
abbrev pixV (t : Px) : Value := .agg #[.int .i64 t.1, .int .i64 t.2.1, .int .i64 t.2.2]
abbrev pixA (t : Px) : Array Value := #[.int .i64 t.1, .int .i64 t.2.1, .int .i64 t.2.2]
def pixL (t : Px) : List Value := [.int .i64 t.1, .int .i64 t.2.1, .int .i64 t.2.2]

theorem Try.infoPixel : (Try.prog.info? 50).map (fun i => (i.zero, i.size, i.bytes)) = some (some pixZ, 3, 24) := by kernel_rfl

/-- The slice v holds these pixels in the world w. -/
def IsPix (w : World) (v : Value) (ps : List Px) : Prop :=
  ∃ ao cap, v = .slice ao ps.length cap ∧ ps.length ≤ 9223372036854775807 ∧ (ps = [] ∨ ∃ b off, ao = some ⟨b, off, none⟩ ∧ b < w.heap.size ∧ ∀ j (h : j < ps.length),
    w.cell? ⟨b, off + j * 3, none⟩ = some (.int .i64 ps[j].1) ∧ w.cell? ⟨b, off + j * 3 + 1, none⟩ = some (.int .i64 ps[j].2.1) ∧ w.cell? ⟨b, off + j * 3 + 2, none⟩ = some (.int .i64 ps[j].2.2))

theorem IsPix.len {w : World} {v : Value} {ps : List Px} (h : IsPix w v ps) : ps.length ≤ 9223372036854775807 := by
  obtain ⟨_, _, _, h, _⟩ := h; exact h
theorem IsPix.below {w w' : World} {v : Value} {ps : List Px} {B : Nat} (h : IsPix w v ps) (hb : Below B w w') (hB : w.heap.size ≤ B) : IsPix w' v ps := by
  obtain ⟨ao, cap, hv, hl, h⟩ := h
  refine ⟨ao, cap, hv, hl, ?_⟩
  rcases h with h | ⟨b, off, ha, hlt, hc⟩
  · exact .inl h
  · refine .inr ⟨b, off, ha, Nat.lt_of_lt_of_le hlt hb.size, fun j hj => ?_⟩
    rw [hb.cell (p := ⟨b, off + j * 3, none⟩) (by exact Nat.lt_of_lt_of_le hlt hB), hb.cell (p := ⟨b, off + j * 3 + 1, none⟩) (by exact Nat.lt_of_lt_of_le hlt hB), hb.cell (p := ⟨b, off + j * 3 + 2, none⟩) (by exact Nat.lt_of_lt_of_le hlt hB)]
    exact hc j hj
theorem IsPix.alloc {w : World} {v : Value} {ps : List Px} (h : IsPix w v ps) (o : Obj) : IsPix (w.alloc o) v ps :=
  h.below ((Below.refl _ _).alloc (Nat.le_refl _) o) (Nat.le_refl _)
theorem IsPix.drew {w : World} {v : Value} {ps : List Px} (h : IsPix w v ps) : IsPix w.drew v ps := h
theorem IsPix.nil (w : World) : IsPix w (.slice none 0 0) [] := ⟨none, 0, rfl, by simp, .inl rfl⟩

theorem flat_length (ps : List Px) : (ps.flatMap pixL).length = ps.length * 3 := by
  induction ps with
  | nil => rfl
  | cons p ps ih => rw [List.flatMap_cons, List.length_append, ih, List.length_cons]; simp [pixL]; omega
theorem flat_get (ps : List Px) (j : Nat) (h : j < ps.length) :
    (ps.flatMap pixL)[j * 3]? = some (.int .i64 ps[j].1) ∧ (ps.flatMap pixL)[j * 3 + 1]? = some (.int .i64 ps[j].2.1) ∧ (ps.flatMap pixL)[j * 3 + 2]? = some (.int .i64 ps[j].2.2) := by
  induction ps generalizing j with
  | nil => simp at h
  | cons p ps ih =>
    cases j with
    | zero => simp [pixL, List.flatMap_cons]
    | succ j =>
      have h' : j < ps.length := by simpa using h
      have := ih j h'
      rw [List.flatMap_cons, show (j + 1) * 3 = j * 3 + 3 by omega]
      simp only [pixL, List.cons_append, List.nil_append, List.getElem?_cons_succ, List.getElem_cons_succ]
      exact this

theorem IsPix.own {w : World} {base : Nat} {v : Value} {ps : List Px} (h : w.ownsRow base 50 3 v ps.length (ps.flatMap pixL)) (hl : ps.length ≤ 9223372036854775807) : IsPix w v ps := by
  rcases h.2 with ⟨hv, hn⟩ | ⟨g, cap, cur, hv, _, hg, h1, h2, h3, h4⟩
  · exact ⟨none, 0, by rw [hv, hn], hl, .inl (List.eq_nil_of_length_eq_zero hn)⟩
  · refine ⟨_, cap, hv, hl, .inr ⟨g, 0, rfl, (Array.getElem?_eq_some_iff.1 hg).1, fun j hj => ?_⟩⟩
    have key : ∀ i u, i < ps.length * 3 → (ps.flatMap pixL)[i]? = some u → w.cell? ⟨g, 0 + i, none⟩ = some u := fun i u hi hu => by
      rw [Nat.zero_add, cell_of_row w g i cur _ _ hg]
      rw [← h4, List.getElem?_take_of_lt hi] at hu
      simpa using hu
    obtain ⟨a, b, c⟩ := flat_get ps j hj
    exact ⟨key _ _ (by omega) a, key _ _ (by omega) b, key _ _ (by omega) c⟩

theorem al1 (w : World) (a : Obj) : (w.alloc a).heap[w.heap.size]? = some a := heap_alloc_new w a
theorem al2 (w : World) (a b : Obj) : ((w.alloc a).alloc b).heap[w.heap.size]? = some a ∧ ((w.alloc a).alloc b).heap[w.heap.size + 1]? = some b := by
  refine ⟨(Below.heap_alloc _ _ _ (by simp only [World.size_alloc]; omega)).trans (al1 w a), ?_⟩
  have h := al1 (w.alloc a) b
  rw [World.size_alloc] at h; exact h
theorem al3 (w : World) (a b c : Obj) : (((w.alloc a).alloc b).alloc c).heap[w.heap.size]? = some a ∧ (((w.alloc a).alloc b).alloc c).heap[w.heap.size + 1]? = some b ∧ (((w.alloc a).alloc b).alloc c).heap[w.heap.size + 2]? = some c := by
  obtain ⟨h1, h2⟩ := al2 w a b
  refine ⟨(Below.heap_alloc _ _ _ (by simp only [World.size_alloc]; omega)).trans h1, (Below.heap_alloc _ _ _ (by simp only [World.size_alloc]; omega)).trans h2, ?_⟩
  have h := al1 ((w.alloc a).alloc b) c
  rw [World.size_alloc, World.size_alloc] at h; exact h
theorem al4 (w : World) (a b c d : Obj) : ((((w.alloc a).alloc b).alloc c).alloc d).heap[w.heap.size]? = some a ∧ ((((w.alloc a).alloc b).alloc c).alloc d).heap[w.heap.size + 1]? = some b ∧ ((((w.alloc a).alloc b).alloc c).alloc d).heap[w.heap.size + 2]? = some c ∧ ((((w.alloc a).alloc b).alloc c).alloc d).heap[w.heap.size + 3]? = some d := by
  obtain ⟨h1, h2, h3⟩ := al3 w a b c
  refine ⟨(Below.heap_alloc _ _ _ (by simp only [World.size_alloc]; omega)).trans h1, (Below.heap_alloc _ _ _ (by simp only [World.size_alloc]; omega)).trans h2, (Below.heap_alloc _ _ _ (by simp only [World.size_alloc]; omega)).trans h3, ?_⟩
  have h := al1 (((w.alloc a).alloc b).alloc c) d
  rw [World.size_alloc, World.size_alloc, World.size_alloc] at h; exact h
theorem be2 (w : World) (a b : Obj) : Below w.heap.size w ((w.alloc a).alloc b) := bel_trans (bel_alloc _ _) (bel_alloc _ _)
theorem be3 (w : World) (a b c : Obj) : Below w.heap.size w (((w.alloc a).alloc b).alloc c) := bel_trans (be2 _ _ _) (bel_alloc _ _)
theorem be4 (w : World) (a b c d : Obj) : Below w.heap.size w ((((w.alloc a).alloc b).alloc c).alloc d) := bel_trans (be3 _ _ _ _) (bel_alloc _ _)

theorem IsPix.other {w w' : World} {v : Value} {ps : List Px} {k : Nat} (h : IsPix w v ps) (hs : w.heap.size ≤ w'.heap.size) (hk : ∀ b, b ≠ k → w'.heap[b]? = w.heap[b]?) (hne : v.ownBlock ≠ some k) : IsPix w' v ps := by
  obtain ⟨ao, cap, rfl, hl, h⟩ := h
  refine ⟨ao, cap, rfl, hl, ?_⟩
  rcases h with h | ⟨b, off, rfl, hlt, hc⟩
  · exact .inl h
  · have hb : b ≠ k := fun e => hne (by rw [e]; rfl)
    refine .inr ⟨b, off, rfl, Nat.lt_of_lt_of_le hlt hs, fun j hj => ?_⟩
    rw [World.cell?_of_block (a := ⟨b, off + j * 3, none⟩) (hk b hb), World.cell?_of_block (a := ⟨b, off + j * 3 + 1, none⟩) (hk b hb), World.cell?_of_block (a := ⟨b, off + j * 3 + 2, none⟩) (hk b hb)]
    exact hc j hj
theorem set3_size (w : World) (b : Nat) (x y z : Value) : w.heap.size ≤ (((w.setCell ⟨b, 0, none⟩ x).setCell ⟨b, 1, none⟩ y).setCell ⟨b, 2, none⟩ z).heap.size := by simp [World.setCell]
theorem set3_heap (w : World) (b : Nat) (x y z : Value) (k : Nat) (h : k ≠ b) : (((w.setCell ⟨b, 0, none⟩ x).setCell ⟨b, 1, none⟩ y).setCell ⟨b, 2, none⟩ z).heap[k]? = w.heap[k]? := by
  rw [Below.heap_setCell _ _ _ _ h, Below.heap_setCell _ _ _ _ h, Below.heap_setCell _ _ _ _ h]
theorem Fresh.ne {B k : Nat} {v : Value} (h : Fresh B v) (hk : k < B) : v.ownBlock ≠ some k := fun e => by have := h k e; omega
theorem IsPix.set3 {w : World} {v : Value} {ps : List Px} {B k : Nat} (h : IsPix w v ps) (hf : Fresh B v) (hk : k < B) (x y z : Value) : IsPix (((w.setCell ⟨k, 0, none⟩ x).setCell ⟨k, 1, none⟩ y).setCell ⟨k, 2, none⟩ z) v ps :=
  h.other (set3_size _ _ _ _ _) (fun b hb => set3_heap _ _ _ _ _ b hb) (hf.ne hk)
theorem IsInts.set3 {w : World} {v : Value} {xs : List Int} {B k : Nat} (h : IsInts w v xs) (hf : Fresh B v) (hk : k < B) (x y z : Value) : IsInts (((w.setCell ⟨k, 0, none⟩ x).setCell ⟨k, 1, none⟩ y).setCell ⟨k, 2, none⟩ z) v xs :=
  h.other (set3_size _ _ _ _ _) (fun b hb => set3_heap _ _ _ _ _ b hb) (hf.ne hk)

theorem set3_below {B b : Nat} {w U : World} (h : Below B w U) (hb : B ≤ b) (x y z : Value) : Below B w (((U.setCell ⟨b, 0, none⟩ x).setCell ⟨b, 1, none⟩ y).setCell ⟨b, 2, none⟩ z) :=
  ((h.setCell (p := ⟨b, 0, none⟩) hb _).setCell (p := ⟨b, 1, none⟩) hb _).setCell (p := ⟨b, 2, none⟩) hb _
theorem set3_cell {w : World} {b : Nat} (x y z : Value) {a : Addr} (h : a.block ≠ b) : (((w.setCell ⟨b, 0, none⟩ x).setCell ⟨b, 1, none⟩ y).setCell ⟨b, 2, none⟩ z).cell? a = w.cell? a := by
  refine World.cell?_of_block ?_
  rw [Below.heap_setCell _ _ _ _ h, Below.heap_setCell _ _ _ _ h, Below.heap_setCell _ _ _ _ h]

end Go.Proofs.Ytolcndchfnifhab
