/- What Write answers: plain mathematics. -/
import Derived.Test.YtolcndchfnifhaaCodeMath
namespace Go.Proofs.Ytolcndchfnifhaa
open Go.RowKit

/-- what Word answers. -/
def wordS (ts : List (List UInt8)) (n : Int) : List UInt8 := if 0 ≤ n ∧ n < ts.length then ts.getD n.toNat [] else []
def wordE (ts : List (List UInt8)) (n : Int) : Int := if wordS ts n = [] then 4 else 0
def allWords (ts : List (List UInt8)) (l : List Int) : Bool := l.all fun n => decide (wordS ts n ≠ [])
def writeBits (ts : List (List UInt8)) (l : List Int) : List UInt8 := l.flatMap (wordS ts)
theorem allWords_snoc (ts : List (List UInt8)) (l : List Int) (n : Int) : allWords ts (l ++ [n]) = (allWords ts l && decide (wordS ts n ≠ [])) := by simp [allWords]
theorem writeBits_snoc (ts : List (List UInt8)) (l : List Int) (n : Int) : writeBits ts (l ++ [n]) = writeBits ts l ++ wordS ts n := by simp [writeBits]
theorem allWords_false (ts : List (List UInt8)) (l : List Int) (k : Nat) (h : k < l.length) (hn : wordS ts l[k] = []) : allWords ts l = false := by
  rw [Bool.eq_false_iff]; intro hh
  have := List.all_eq_true.1 hh l[k] (List.getElem_mem h)
  simp [hn] at this
/-- no word of a code has more than 15 bits. -/
theorem word_length (xs : List Int) (hok : lensOk xs = true) (i : Nat) : (word xs i).length ≤ 15 := by
  unfold word
  split
  · rename_i h
    rw [numBits_length]
    by_cases hi : i < xs.length
    · have h2 := lensOk_get hok i hi
      have hg : xs.getD i 0 = xs[i] := by simp [List.getD, List.getElem?_eq_getElem hi]
      omega
    · have hg : xs.getD i 0 = 0 := by simp [List.getD, List.getElem?_eq_none (show xs.length ≤ i by omega)]
      omega
  · simp
theorem wordS_length (xs : List Int) (hok : lensOk xs = true) (n : Int) : (wordS (wordsOf xs) n).length ≤ 15 := by
  unfold wordS
  split
  · rename_i h
    have h2 : n.toNat < xs.length := by rw [wordsOf_length] at h; omega
    have : (wordsOf xs).getD n.toNat [] = word xs n.toNat := by simp [List.getD, wordsOf, h2]
    rw [this]
    exact word_length xs hok _
  · simp
theorem writeBits_length (xs : List Int) (hok : lensOk xs = true) (l : List Int) : (writeBits (wordsOf xs) l).length ≤ 15 * l.length := by
  induction l with
  | nil => simp [writeBits]
  | cons n l ih =>
    have h := wordS_length xs hok n
    simp only [writeBits, List.flatMap_cons, List.length_append, List.length_cons] at *
    omega
/-- what Write answers. -/
def writeE (xs l : List Int) : Int := if checkE xs = 0 then (if l.length ≤ 4096 then (if allWords (wordsOf xs) l = true then 0 else 4) else 2) else checkE xs
def writeS (xs l : List Int) : List UInt8 := if writeE xs l = 0 then writeBits (wordsOf xs) l else []
end Go.Proofs.Ytolcndchfnifhaa
