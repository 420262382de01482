/- What lies behind an append to a slice that lies in a box of three, and the store of it. -/
import Derived.Test.YtolcndchfnifhaaRegionLast
import Derived.Test.YtolcndchfnifhaaPlaneTail
namespace Go.Proofs.Ytolcndchfnifhaa
open Go.RowKit

theorem app_gen {et ct : TypeId} {sz : Nat} (ce : ct ≠ et) {W' V1 w1 w : World} {base PB : Nat} {x y : Value} {so : Option Addr} {scap k m g cap : Nat} {xs ys : List Value}
    (i1 : W'.heap[PB]? = some (.cells #[x, y, .slice so k scap] ct (0, 0))) (i2 : W'.ownsRow base et sz (.slice so k scap) k xs)
    (i5 : Below w.heap.size w W') (hb : w.heap.size ≤ base) (hPB : w.heap.size ≤ PB) (hV1 : Below W'.heap.size W' V1) (hg : V1.grownBy w1 (Value.slice so k scap).ownBlock)
    (ho : w1.ownsRow base et sz (.slice (some ⟨g, 0, none⟩) m cap) m ys) :
    (∀ b, b < W'.heap.size → some b ≠ (Value.slice so k scap).ownBlock → w1.heap[b]? = W'.heap[b]?) ∧ w1.cell? ⟨PB, 2, none⟩ = some (.slice so k scap) ∧ w1.frozen? ⟨PB, 2, none⟩ = false ∧
      (w1.setCell ⟨PB, 2, none⟩ (.slice (some ⟨g, 0, none⟩) m cap)).heap[PB]? = some (.cells #[x, y, .slice (some ⟨g, 0, none⟩) m cap] ct (0, 0)) ∧
      (w1.setCell ⟨PB, 2, none⟩ (.slice (some ⟨g, 0, none⟩) m cap)).ownsRow base et sz (.slice (some ⟨g, 0, none⟩) m cap) m ys ∧ Below w.heap.size w (w1.setCell ⟨PB, 2, none⟩ (.slice (some ⟨g, 0, none⟩) m cap)) ∧
      (∀ b, b < W'.heap.size → some b ≠ (Value.slice so k scap).ownBlock → b ≠ PB → (w1.setCell ⟨PB, 2, none⟩ (.slice (some ⟨g, 0, none⟩) m cap)).heap[b]? = W'.heap[b]?) := by
  have hs := hV1.size
  have keep : ∀ b, b < W'.heap.size → some b ≠ (Value.slice so k scap).ownBlock → w1.heap[b]? = W'.heap[b]? := fun b hb hne => by
    rw [hg.block b (by omega) hne, hV1.block b hb]
  have l1 := (Array.getElem?_eq_some_iff.1 i1).1
  have kP := (keep PB l1 (own_ne i2 i1 ce)).trans i1
  have hc := heap_setCell_same w1 PB 2 _ _ (.slice (some ⟨g, 0, none⟩) m cap) kP
  refine ⟨keep, by rw [Lib.cell_of_heap kP]; rfl, Lib.frozen_of_heap kP 2, by rw [hc]; rfl, ownsRow_setCell_other ho (fun e => own_ne ho kP ce e.symm) _, ?_, fun b hb hne hn => (Below.heap_setCell _ _ _ _ hn).trans (keep b hb hne)⟩
  exact ((i5.trans (hV1.mono i5.size)).grown hg (by have := i5.size; omega) (fun j hj => Nat.le_trans hb (i2.lt j hj).1)).setCell (p := ⟨PB, 2, none⟩) hPB _

end Go.Proofs.Ytolcndchfnifhaa
