/- Curves rise. -/
import Derived.Test.YtolcndchfnifhabCurveMath
namespace Go.Proofs.Ytolcndchfnifhab

theorem isAt_exists {ls : List Pt} (h : IsCurve ls) {x : Int} (hx : x ≤ 65535) : ∃ i, isAt ls x i := by
  have key : ∀ k, k ≤ ls.length → (∃ i, isAt ls x i) ∨ ∀ j, j < k → (ptAt ls j).1 < x := by
    intro k
    induction k with
    | zero => intro _; exact .inr fun j hj => by omega
    | succ k ih =>
      intro hk
      rcases ih (by omega) with h1 | h1
      · exact .inl h1
      · by_cases hc : (ptAt ls k).1 < x
        · refine .inr fun j hj => ?_
          rcases Nat.eq_or_lt_of_le (show j ≤ k by omega) with e | hlt
          · rw [e]; exact hc
          · exact h1 j hlt
        · exact .inl ⟨k, by omega, by omega, h1⟩
  rcases key ls.length (Nat.le_refl _) with h1 | h1
  · exact h1
  · have := h1 (ls.length - 1) (by have := h.two; omega)
    have := h.last
    omega
theorem IsCurve.le {ls : List Pt} (h : IsCurve ls) (i j : Nat) (hij : i ≤ j) (hj : j < ls.length) : (ptAt ls i).2 ≤ (ptAt ls j).2 := by
  rcases Nat.eq_or_lt_of_le hij with e | hlt
  · rw [e]; exact Int.le_refl _
  · have := (h.lt i (j - i - 1) (by omega)).2
    rw [show i + (j - i - 1) + 1 = j by omega] at this
    exact this
/-- behind the first point, the curve is what is between two points. -/
theorem heightV_between {ls : List Pt} (h : IsCurve ls) {x : Int} {k : Nat} (hi : isAt ls x (k + 1)) : heightV ls x = between ls (k + 1) x := by
  rw [heightV_eq hi]
  split
  · rename_i e
    rw [← e, (between_end h k hi.1).1]
  · rfl
theorem heightV_mono {ls : List Pt} (h : IsCurve ls) {a b : Int} (h0 : 0 ≤ a) (hab : a ≤ b) (hb : b ≤ 65535) : heightV ls a ≤ heightV ls b := by
  obtain ⟨i, hi⟩ := isAt_exists h (x := a) (by omega)
  obtain ⟨j, hj⟩ := isAt_exists h (x := b) hb
  have hf := h.first
  cases j with
  | zero =>
    have : b = 0 := by have := hj.2.1; omega
    have : a = b := by omega
    rw [this]; exact Int.le_refl _
  | succ m =>
    have bj := between_bounds h m hj.1 b (Int.le_of_lt (hj.2.2 m (by omega))) hj.2.1
    rw [heightV_between h hj]
    cases i with
    | zero =>
      have ha : a = 0 := by have := hi.2.1; omega
      rw [heightV_eq hi, if_pos (by omega)]
      have := h.le 0 m (by omega) (by have := hj.1; omega)
      omega
    | succ n =>
      rw [heightV_between h hi]
      have bi := between_bounds h n hi.1 a (Int.le_of_lt (hi.2.2 n (by omega))) hi.2.1
      rcases Nat.lt_trichotomy n m with hlt | e | hlt
      · have := h.le (n + 1) m (by omega) (by have := hj.1; omega)
        omega
      · subst e
        have hs := h.step n hi.1
        rw [between, between, Nat.add_sub_cancel]
        have hm := Int.mul_le_mul_of_nonneg_left (show a - (ptAt ls n).1 ≤ b - (ptAt ls n).1 by omega) (show 0 ≤ (ptAt ls (n + 1)).2 - (ptAt ls n).2 by omega)
        have := Int.ediv_le_ediv (show 0 < (ptAt ls (n + 1)).1 - (ptAt ls n).1 by omega) hm
        omega
      · have h1 := hi.2.2 (m + 1) (by omega)
        have h2 := hj.2.1
        omega
theorem heightV_point {ls : List Pt} (h : IsCurve ls) (k : Nat) (hk : k < ls.length) : heightV ls (ptAt ls k).1 = (ptAt ls k).2 := by
  have hi : isAt ls (ptAt ls k).1 k := ⟨hk, Int.le_refl _, fun j hj => by
    have := (h.lt j (k - j - 1) (by omega)).1
    rw [show j + (k - j - 1) + 1 = k by omega] at this
    exact this⟩
  rw [heightV_eq hi, if_pos rfl]

end Go.Proofs.Ytolcndchfnifhab
