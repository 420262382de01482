/- Arrays of three numbers, a pixel's parts by their numbers, sums. -/
import Derived.Test.YtolcndchfnifhabWSum
namespace Go.Proofs.Ytolcndchfnifhab

def tri (s : Nat → Int) : Array Value := #[.int .i64 (s 0), .int .i64 (s 1), .int .i64 (s 2)]
theorem tri_get (s : Nat → Int) (k : Nat) (h : k < 3) : (tri s)[k]? = some (.int .i64 (s k)) := by
  rcases (show k = 0 ∨ k = 1 ∨ k = 2 by omega) with rfl | rfl | rfl <;> rfl
theorem tri_set (s t : Nat → Int) (k : Nat) (x : Int) (hk : k < 3) (hx : x = t k) (ht : ∀ j, j < 3 → j ≠ k → s j = t j) : (tri s).setIfInBounds k (.int .i64 x) = tri t := by
  subst hx
  rcases (show k = 0 ∨ k = 1 ∨ k = 2 by omega) with rfl | rfl | rfl
  · have h1 := ht 1 (by omega) (by omega)
    have h2 := ht 2 (by omega) (by omega)
    simp [tri, h1, h2]
  · have h1 := ht 0 (by omega) (by omega)
    have h2 := ht 2 (by omega) (by omega)
    simp [tri, h1, h2]
  · have h1 := ht 0 (by omega) (by omega)
    have h2 := ht 1 (by omega) (by omega)
    simp [tri, h1, h2]
theorem tri_congr (s t : Nat → Int) (h : ∀ j, j < 3 → s j = t j) : tri s = tri t := by
  simp [tri, h 0 (by omega), h 1 (by omega), h 2 (by omega)]

def pxF (p : Px) (k : Nat) : Int := if k = 0 then p.1 else if k = 1 then p.2.1 else p.2.2
theorem pxF_tri (p : Px) : tri (pxF p) = #[.int .i64 p.1, .int .i64 p.2.1, .int .i64 p.2.2] := rfl
theorem pxF_ok {p : Px} (h : pxOk p = true) (k : Nat) : 0 ≤ pxF p k ∧ pxF p k ≤ 65535 := by
  obtain ⟨h1, h2, h3⟩ := (pxOk_iff p).1 h
  unfold pxF
  split
  · exact h1
  · split
    · exact h2
    · exact h3

def sumN (g : Nat → Int) : Nat → Int
  | 0 => 0
  | n + 1 => sumN g n + g n
theorem sumN_range {g : Nat → Int} (h : ∀ n, 0 ≤ g n ∧ g n ≤ 262140) (n : Nat) : 0 ≤ sumN g n ∧ sumN g n ≤ n * 262140 := by
  induction n with
  | zero => simp [sumN]
  | succ n ih =>
    obtain ⟨a, b⟩ := h n
    obtain ⟨c, d⟩ := ih
    refine ⟨?_, ?_⟩
    · simp only [sumN]; omega
    · simp only [sumN]; omega

end Go.Proofs.Ytolcndchfnifhab
