/- Samples as bits, and back: plain mathematics. -/
import Derived.Test.YtolcndchfnifhaaRowMath
namespace Go.Proofs.Ytolcndchfnifhaa
open Go.RowKit

/-- may the number be written so? -/
def numOk (n size : Int) : Bool := decide (0 ≤ size ∧ size ≤ 16 ∧ 0 ≤ n ∧ n < 2 ^ size.toNat)
/-- what Number answers. -/
def numS (n size : Int) : ByteArray := if numOk n size = true then str (numBits n.toNat size.toNat) else str []
def numE (n size : Int) : Int := if numOk n size = true then 0 else 3

theorem pow16 {n : Nat} (h : n ≤ 16) : 2 ^ n ≤ 65536 := Nat.le_trans (Nat.pow_le_pow_right (by decide) h) (by decide)

theorem numOk_cases (n size : Int) : (∃ m k : Nat, n = m ∧ size = k ∧ k ≤ 16 ∧ m < 2 ^ k ∧ numOk n size = true) ∨
    (numOk n size = false ∧ (size < 0 ∨ 16 < size ∨ (0 ≤ size ∧ size ≤ 16 ∧ n < 0) ∨ ∃ k p : Nat, size = k ∧ k ≤ 16 ∧ p = 2 ^ k ∧ (p : Int) ≤ n)) := by
  by_cases h : numOk n size = true
  · left
    have h' := h
    simp only [numOk, decide_eq_true_eq] at h'
    obtain ⟨h1, h2, h3, h4⟩ := h'
    refine ⟨n.toNat, size.toNat, by omega, by omega, by omega, ?_, h⟩
    rw [pow_cast] at h4
    generalize 2 ^ size.toNat = p at *
    omega
  · right
    have h : numOk n size = false := by simpa using h
    refine ⟨h, ?_⟩
    simp only [numOk, decide_eq_false_iff_not] at h
    by_cases a : size < 0
    · exact .inl a
    by_cases b : 16 < size
    · exact .inr (.inl b)
    by_cases c : n < 0
    · exact .inr (.inr (.inl ⟨by omega, by omega, c⟩))
    · refine .inr (.inr (.inr ⟨size.toNat, 2 ^ size.toNat, by omega, by omega, rfl, ?_⟩))
      have : ¬ n < 2 ^ size.toNat := fun hh => h ⟨by omega, by omega, by omega, hh⟩
      rw [pow_cast] at this
      generalize 2 ^ size.toNat = p at *
      omega

/-- the bits of all samples. -/
def packBits (xs : List Int) (d : Int) : List UInt8 := xs.flatMap fun n => numBits n.toNat d.toNat
theorem packBits_snoc (xs : List Int) (n d : Int) : packBits (xs ++ [n]) d = packBits xs d ++ numBits n.toNat d.toNat := by simp [packBits]
theorem packBits_cons (xs : List Int) (n d : Int) : packBits (n :: xs) d = numBits n.toNat d.toNat ++ packBits xs d := by simp [packBits]
theorem packBits_length (xs : List Int) (d : Int) : (packBits xs d).length = xs.length * d.toNat := by
  induction xs with
  | nil => simp [packBits]
  | cons n xs ih => rw [packBits_cons, List.length_append, numBits_length, ih, List.length_cons, Nat.succ_mul]; omega
theorem packBits_allB (xs : List Int) (d : Int) : allB (packBits xs d) = true := by
  induction xs with
  | nil => rfl
  | cons n xs ih => rw [packBits_cons, allB_append, numBits_allB, ih]; rfl

/-- may all samples be written so? -/
def allOk (xs : List Int) (d : Int) : Bool := xs.all fun n => numOk n d
theorem allOk_snoc (xs : List Int) (n d : Int) : allOk (xs ++ [n]) d = (allOk xs d && numOk n d) := by simp [allOk]
theorem allOk_false (xs : List Int) (d : Int) (k : Nat) (h : k < xs.length) (hn : numOk xs[k] d = false) : allOk xs d = false := by
  rw [Bool.eq_false_iff]; intro hh
  have := List.all_eq_true.1 hh xs[k] (List.getElem_mem h)
  rw [hn] at this; cases this

def isDepthB (d : Int) : Bool := decide (1 ≤ d ∧ d ≤ 16)
/-- what Pack answers. -/
def packE (xs : List Int) (d : Int) : Int := if isDepthB d = true then (if xs.length ≤ 4096 then (if allOk xs d = true then 0 else 3) else 2) else 3
def packS (xs : List Int) (d : Int) : List UInt8 := if packE xs d = 0 then bytesOf (packBits xs d) else []

end Go.Proofs.Ytolcndchfnifhaa
