/- Codes: plain mathematics. -/
import Derived.Test.YtolcndchfnifhaaBackMath
namespace Go.Proofs.Ytolcndchfnifhaa
open Go.RowKit

def lenOk (x : Int) : Bool := decide (0 ≤ x ∧ x ≤ 15)
def lensOk (xs : List Int) : Bool := xs.all lenOk
/-- what a length takes of the whole. -/
def wt (x : Int) : Nat := if 0 < x then 2 ^ (15 - x.toNat) else 0
def ksum : List Int → Nat
  | [] => 0
  | x :: xs => wt x + ksum xs
theorem ksum_snoc (xs : List Int) (x : Int) : ksum (xs ++ [x]) = ksum xs + wt x := by
  induction xs with
  | nil => simp [ksum]
  | cons y xs ih => simp only [List.cons_append, ksum, ih]; omega
theorem lensOk_snoc (xs : List Int) (x : Int) : lensOk (xs ++ [x]) = (lensOk xs && lenOk x) := by simp [lensOk]
theorem lensOk_false (xs : List Int) (k : Nat) (h : k < xs.length) (hn : lenOk xs[k] = false) : lensOk xs = false := by
  rw [Bool.eq_false_iff]; intro hh
  have := List.all_eq_true.1 hh xs[k] (List.getElem_mem h)
  rw [hn] at this; cases this
theorem lensOk_get {xs : List Int} (h : lensOk xs = true) (k : Nat) (hk : k < xs.length) : 0 ≤ xs[k] ∧ xs[k] ≤ 15 := by
  have := List.all_eq_true.1 h xs[k] (List.getElem_mem hk)
  simpa [lenOk] using this
theorem wt_le (x : Int) : wt x ≤ 32768 := by
  unfold wt
  split
  · exact Nat.le_trans (Nat.pow_le_pow_right (by decide) (Nat.sub_le _ _)) (by decide)
  · decide
theorem wt_pos (x : Int) (h : 0 < x) : 0 < wt x := by unfold wt; rw [if_pos h]; exact Nat.pow_pos (by decide)
theorem ksum_le (xs : List Int) : ksum xs ≤ 32768 * xs.length := by
  induction xs with
  | nil => simp [ksum]
  | cons x xs ih => have := wt_le x; simp only [ksum, List.length_cons]; omega
/-- has a number a word? -/
def anyUsed (xs : List Int) : Bool := xs.any fun x => decide (0 < x)
theorem anyUsed_snoc (xs : List Int) (x : Int) : anyUsed (xs ++ [x]) = (anyUsed xs || decide (0 < x)) := by simp [anyUsed]
theorem used_iff (xs : List Int) : ksum xs = 0 ↔ anyUsed xs = false := by
  induction xs with
  | nil => simp [ksum, anyUsed]
  | cons x xs ih =>
    simp only [ksum, anyUsed, List.any_cons, Bool.or_eq_false_iff, decide_eq_false_iff_not] at *
    rw [← ih]
    by_cases h : 0 < x
    · have := wt_pos x h
      constructor
      · intro h2; omega
      · intro h2; exact absurd h h2.1
    · have : wt x = 0 := by unfold wt; rw [if_neg h]
      rw [this]
      constructor
      · intro h2; exact ⟨h, by omega⟩
      · intro h2; omega

/-- what Check answers. -/
def checkE (xs : List Int) : Int :=
  if 1 ≤ xs.length ∧ xs.length ≤ 17 then (if lensOk xs = true then (if ksum xs = 0 ∨ 32768 < ksum xs then 1 else 0) else 3) else 2
theorem checkE_zero {xs : List Int} (h : checkE xs = 0) : 1 ≤ xs.length ∧ xs.length ≤ 17 ∧ lensOk xs = true ∧ 0 < ksum xs ∧ ksum xs ≤ 32768 := by
  unfold checkE at h
  by_cases h1 : 1 ≤ xs.length ∧ xs.length ≤ 17
  · rw [if_pos h1] at h
    by_cases h2 : lensOk xs = true
    · rw [if_pos h2] at h
      by_cases h3 : ksum xs = 0 ∨ 32768 < ksum xs
      · rw [if_pos h3] at h; exact absurd h (by decide)
      · exact ⟨h1.1, h1.2, h2, by omega, by omega⟩
    · rw [if_neg h2] at h; exact absurd h (by decide)
  · rw [if_neg h1] at h; exact absurd h (by decide)

/-- how many have just this length. -/
def cntAll (xs : List Int) (s : Int) : Nat := (xs.filter fun x => decide (x = s)).length
def cnt (xs : List Int) (s : Int) (k : Nat) : Nat := cntAll (xs.take k) s
theorem cnt_zero (xs : List Int) (s : Int) : cnt xs s 0 = 0 := rfl
theorem cnt_succ (xs : List Int) (s : Int) (k : Nat) (h : k < xs.length) : cnt xs s (k + 1) = cnt xs s k + if xs[k] = s then 1 else 0 := by
  unfold cnt cntAll
  rw [List.take_succ_eq_append_getElem h, List.filter_append, List.length_append]
  by_cases e : xs[k] = s <;> simp [e]
theorem cnt_all (xs : List Int) (s : Int) : cnt xs s xs.length = cntAll xs s := by unfold cnt; rw [List.take_length]
theorem cnt_le (xs : List Int) (s : Int) (k : Nat) : cnt xs s k ≤ cntAll xs s := by
  unfold cnt cntAll
  exact (List.Sublist.filter _ (List.take_sublist k xs)).length_le

/-- what is taken by lengths up to t. -/
def low : List Int → Nat → Nat
  | [], _ => 0
  | x :: xs, t => (if x ≤ t then wt x else 0) + low xs t
theorem low_le (xs : List Int) (t : Nat) : low xs t ≤ ksum xs := by
  induction xs with
  | nil => exact Nat.le_refl _
  | cons x xs ih => simp only [low, ksum]; split <;> omega
theorem low_zero (xs : List Int) : low xs 0 = 0 := by
  induction xs with
  | nil => rfl
  | cons x xs ih =>
    simp only [low, ih]
    split
    · rename_i h
      have : wt x = 0 := by unfold wt; rw [if_neg (by omega)]
      omega
    · rfl
theorem low_succ (xs : List Int) (t : Nat) (_ht : t ≤ 14) : low xs (t + 1) = low xs t + cntAll xs ((t : Int) + 1) * 2 ^ (14 - t) := by
  induction xs with
  | nil => simp [low, cntAll]
  | cons x xs ih =>
    simp only [low, cntAll, List.filter_cons] at *
    rw [ih]
    by_cases h : x = (t : Int) + 1
    · subst h
      have hw : wt ((t : Int) + 1) = 2 ^ (14 - t) := by
        unfold wt
        rw [if_pos (by omega), show 15 - ((t : Int) + 1).toNat = 14 - t by omega]
      rw [if_pos (by omega), if_neg (by omega), hw]
      simp only [decide_true, if_true, List.length_cons]
      rw [Nat.succ_mul]
      omega
    · have e : (if x ≤ ((t + 1 : Nat) : Int) then wt x else 0) = (if x ≤ (t : Int) then wt x else 0) := by
        by_cases h2 : x ≤ (t : Int)
        · rw [if_pos h2, if_pos (by omega)]
        · rw [if_neg h2, if_neg (by omega)]
      rw [e]
      simp only [h, decide_false]
      simp only [Bool.false_eq_true, if_false]
      omega

/-- the number with which the words of t + 1 bits begin. -/
def base (xs : List Int) : Nat → Nat
  | 0 => 0
  | t + 1 => 2 * (base xs t + cntAll xs ((t : Int) + 1))
theorem base_low (xs : List Int) (t : Nat) (ht : t ≤ 14) : base xs t * 2 ^ (14 - t) = low xs t := by
  induction t with
  | zero => rw [low_zero]; simp [base]
  | succ t ih =>
    have ih := ih (by omega)
    rw [base, low_succ xs t (by omega), ← ih, show 14 - t = (14 - (t + 1)) + 1 by omega, Nat.pow_succ]
    generalize 2 ^ (14 - (t + 1)) = p
    generalize base xs t = a
    generalize cntAll xs ((t : Int) + 1) = c
    rw [Nat.mul_comm 2, Nat.mul_assoc, Nat.mul_comm 2 p, Nat.add_mul]

/-- the next number at size t + 1, behind k lengths. -/
def nxt (xs : List Int) (t k : Nat) : Nat := base xs t + cnt xs ((t : Int) + 1) k
theorem nxt_zero (xs : List Int) (t : Nat) : nxt xs t 0 = base xs t := by rw [nxt, cnt_zero, Nat.add_zero]
theorem nxt_end (xs : List Int) (t : Nat) : base xs (t + 1) = 2 * nxt xs t xs.length := by rw [nxt, cnt_all]; rfl
theorem nxt_fits (xs : List Int) (t k : Nat) (ht : t ≤ 14) (hs : ksum xs ≤ 32768) : nxt xs t k ≤ 2 ^ (t + 1) := by
  have h1 := base_low xs t ht
  have h2 := low_succ xs t ht
  have h3 := low_le xs (t + 1)
  have h4 := cnt_le xs ((t : Int) + 1) k
  have h5 : nxt xs t k * 2 ^ (14 - t) ≤ 2 ^ (t + 1) * 2 ^ (14 - t) := by
    rw [← Nat.pow_add, show t + 1 + (14 - t) = 15 by omega, nxt, Nat.add_mul, h1]
    have := Nat.mul_le_mul_right (2 ^ (14 - t)) h4
    omega
  exact Nat.le_of_mul_le_mul_right h5 (Nat.pow_pos (by decide))
theorem nxt_lt (xs : List Int) (t k : Nat) (ht : t ≤ 14) (hs : ksum xs ≤ 32768) (hk : k < xs.length) (he : xs[k] = (t : Int) + 1) : nxt xs t k < 2 ^ (t + 1) := by
  have h := nxt_fits xs t (k + 1) ht hs
  rw [nxt, cnt_succ xs _ k hk, if_pos he] at h
  rw [nxt]
  omega

/-- the word of the number i. -/
def word (xs : List Int) (i : Nat) : List UInt8 :=
  if 1 ≤ xs.getD i 0 then numBits (nxt xs ((xs.getD i 0).toNat - 1) i) (xs.getD i 0).toNat else []
/-- all words. -/
def wordsOf (xs : List Int) : List (List UInt8) := (List.range xs.length).map (word xs)
theorem wordsOf_length (xs : List Int) : (wordsOf xs).length = xs.length := by simp [wordsOf]
theorem wordsOf_get (xs : List Int) (i : Nat) (h : i < xs.length) : (wordsOf xs)[i]'(by rw [wordsOf_length]; exact h) = word xs i := by simp [wordsOf]

/-- has the number i its word, behind all sizes up to t and k lengths of the next one? -/
def doneB (xs : List Int) (t k i : Nat) : Bool := decide (1 ≤ xs.getD i 0 ∧ (xs.getD i 0 ≤ t ∨ (xs.getD i 0 = (t : Int) + 1 ∧ i < k)))
def wordAt (xs : List Int) (t k i : Nat) : List UInt8 := if doneB xs t k i = true then word xs i else []

/-- texts as cells. -/
def txtRow (n : Nat) (f : Nat → List UInt8) : List Value := (List.range n).map fun i => Value.string (str (f i))
theorem txtRow_length (n : Nat) (f : Nat → List UInt8) : (txtRow n f).length = n := by simp [txtRow]
theorem txtRow_get (n : Nat) (f : Nat → List UInt8) (i : Nat) (h : i < n) : (txtRow n f)[i]? = some (.string (str (f i))) := by simp [txtRow, h]
theorem txtRow_congr (n : Nat) (f g : Nat → List UInt8) (h : ∀ i, i < n → f i = g i) : txtRow n f = txtRow n g := by
  unfold txtRow
  apply List.map_congr_left
  intro i hi
  rw [h i (by simpa using hi)]
theorem txtRow_set (n : Nat) (f g : Nat → List UInt8) (k : Nat) (v : List UInt8) (hk : g k = v) (ho : ∀ i, i < n → i ≠ k → g i = f i) : (txtRow n f).set k (.string (str v)) = txtRow n g := by
  apply List.ext_getElem?
  intro j
  rw [List.getElem?_set]
  by_cases hj : j < n
  · rw [txtRow_get n g j hj]
    by_cases e : k = j
    · subst e; rw [if_pos rfl, txtRow_length, if_pos hj, hk]
    · rw [if_neg e, txtRow_get n f j hj, ho j hj (fun h => e h.symm)]
  · rw [List.getElem?_eq_none (by rw [txtRow_length]; omega), List.getElem?_eq_none (by rw [txtRow_length]; omega), txtRow_length]
    by_cases e : k = j
    · subst e; rw [if_pos rfl, if_neg hj]
    · rw [if_neg e]

theorem wordAt_start (xs : List Int) (i : Nat) : wordAt xs 0 0 i = [] := by
  unfold wordAt
  rw [if_neg]
  simp only [doneB, decide_eq_true_eq]
  omega
theorem wordAt_skip (xs : List Int) (t k i : Nat) (hk : k < xs.length) (h : xs[k] ≠ (t : Int) + 1) : wordAt xs t (k + 1) i = wordAt xs t k i := by
  unfold wordAt
  have hg : xs.getD k 0 = xs[k] := by simp [List.getD, List.getElem?_eq_getElem hk]
  have e : doneB xs t (k + 1) i = doneB xs t k i := by
    unfold doneB
    apply decide_eq_decide.2
    by_cases hi : i = k
    · subst hi; omega
    · omega
  rw [e]
theorem wordAt_other (xs : List Int) (t k i : Nat) (hi : i ≠ k) : wordAt xs t (k + 1) i = wordAt xs t k i := by
  unfold wordAt
  have e : doneB xs t (k + 1) i = doneB xs t k i := by
    unfold doneB
    apply decide_eq_decide.2
    omega
  rw [e]
theorem wordAt_this (xs : List Int) (t k : Nat) (hk : k < xs.length) (h : xs[k] = (t : Int) + 1) : wordAt xs t (k + 1) k = numBits (nxt xs t k) (t + 1) := by
  have hg : xs.getD k 0 = xs[k] := by simp [List.getD, List.getElem?_eq_getElem hk]
  unfold wordAt
  rw [if_pos (by simp only [doneB, decide_eq_true_eq]; omega), word, if_pos (by omega), hg, h]
  simp
theorem wordAt_turn (xs : List Int) (t i : Nat) (hi : i < xs.length) : wordAt xs (t + 1) 0 i = wordAt xs t xs.length i := by
  unfold wordAt
  have e : doneB xs (t + 1) 0 i = doneB xs t xs.length i := by
    unfold doneB
    apply decide_eq_decide.2
    omega
  rw [e]
theorem wordAt_end (xs : List Int) (i : Nat) (hi : i < xs.length) (hok : lensOk xs = true) : wordAt xs 15 0 i = word xs i := by
  have hg : xs.getD i 0 = xs[i] := by simp [List.getD, List.getElem?_eq_getElem hi]
  have h := lensOk_get hok i hi
  unfold wordAt
  by_cases h1 : 1 ≤ xs.getD i 0
  · rw [if_pos (by simp only [doneB, decide_eq_true_eq]; omega)]
  · rw [if_neg (by simp only [doneB, decide_eq_true_eq]; omega), word, if_neg h1]

end Go.Proofs.Ytolcndchfnifhaa
