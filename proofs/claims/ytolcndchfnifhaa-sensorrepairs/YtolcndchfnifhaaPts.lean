/- A slice of points, or of spots. -/
import Derived.Test.YtolcndchfnifhaaBase
import Derived.Test.YtolcndchfnifhaaCurveMath
namespace Go.Proofs.Ytolcndchfnifhaa
open Go.RowKit

/-- The slice v holds these points, or spots, in the world w. -/
def IsPts (w : World) (v : Value) (ls : List Pt) : Prop :=
  ∃ ao cap, v = .slice ao ls.length cap ∧ ls.length ≤ 9223372036854775807 ∧ (ls = [] ∨ ∃ b off, ao = some ⟨b, off, none⟩ ∧ b < w.heap.size ∧ ∀ j, j < ls.length →
    w.cell? ⟨b, off + j * 2, none⟩ = some (.int .i64 (ptAt ls j).1) ∧ w.cell? ⟨b, off + j * 2 + 1, none⟩ = some (.int .i64 (ptAt ls j).2))
theorem IsPts.below {w w' : World} {v : Value} {ls : List Pt} {B : Nat} (h : IsPts w v ls) (hb : Below B w w') (hB : w.heap.size ≤ B) : IsPts w' v ls := by
  obtain ⟨ao, cap, hv, hl, h⟩ := h
  refine ⟨ao, cap, hv, hl, ?_⟩
  rcases h with h | ⟨b, off, ha, hlt, hc⟩
  · exact .inl h
  · refine .inr ⟨b, off, ha, Nat.lt_of_lt_of_le hlt hb.size, fun j hj => ?_⟩
    rw [hb.cell (p := ⟨b, off + j * 2, none⟩) (by exact Nat.lt_of_lt_of_le hlt hB), hb.cell (p := ⟨b, off + j * 2 + 1, none⟩) (by exact Nat.lt_of_lt_of_le hlt hB)]
    exact hc j hj
theorem IsPts.alloc {w : World} {v : Value} {ls : List Pt} (h : IsPts w v ls) (o : Obj) : IsPts (w.alloc o) v ls :=
  h.below ((Below.refl _ _).alloc (Nat.le_refl _) o) (Nat.le_refl _)
theorem IsPts.nil (w : World) : IsPts w (.slice none 0 0) [] := ⟨none, 0, rfl, by simp, .inl rfl⟩

end Go.Proofs.Ytolcndchfnifhaa
