/- What Write wrote is read again, with any bits behind it: plain mathematics. -/
import Derived.Test.YtolcndchfnifhaaCodeRead
namespace Go.Proofs.Ytolcndchfnifhaa
open Go.RowKit

theorem wordS_bits (xs : List Int) (n : Int) : allB (wordS (wordsOf xs) n) = true := by
  unfold wordS
  split
  · rename_i h
    have h2 : n.toNat < xs.length := by rw [wordsOf_length] at h; omega
    have : (wordsOf xs).getD n.toNat [] = word xs n.toNat := by simp [List.getD, wordsOf, h2]
    rw [this, word]
    split
    · exact numBits_allB _ _
    · rfl
  · rfl
theorem writeBits_bits (xs l : List Int) : allB (writeBits (wordsOf xs) l) = true := by
  induction l with
  | nil => rfl
  | cons n l ih =>
    rw [writeBits, List.flatMap_cons, allB_append, wordS_bits, Bool.true_and]
    exact ih
theorem writeBits_append (ts : List (List UInt8)) (l m : List Int) : writeBits ts (l ++ m) = writeBits ts l ++ writeBits ts m := by simp [writeBits]

/-- the next word is the one that stands there. -/
theorem next_word (xs : List Int) (hE : checkE xs = 0) (n : Int) (hw : wordS (wordsOf xs) n ≠ []) (rest : List UInt8) :
    nextF (bookOf xs) [] (wordS (wordsOf xs) n ++ rest) = (n, 0, (wordS (wordsOf xs) n).length) := by
  have hr : 0 ≤ n ∧ n < (wordsOf xs).length := by
    refine Decidable.byContradiction fun h => hw ?_
    rw [wordS, if_neg h]
  have he : wordS (wordsOf xs) n = (wordsOf xs).getD n.toNat [] := by rw [wordS, if_pos hr]
  rw [he] at hw ⊢
  have h := next_found (wordsOf xs) (words_pf xs hE) n.toNat (by omega) hw ((wordsOf xs).getD n.toNat [] ++ rest) [] (by rw [List.nil_append]; exact List.prefix_append _ _) (by
    rw [List.length_nil]
    exact List.length_pos_iff.2 hw)
  unfold bookOf
  rw [h]
  rw [show ((n.toNat : Nat) : Int) = n by omega]
  rfl

theorem read_written (xs : List Int) (hE : checkE xs = 0) (l : List Int) (b : List UInt8) (ha : allWords (wordsOf xs) l = true) (k : Nat) (hk : k ≤ l.length) :
    stN (bookOf xs) (writeBits (wordsOf xs) l ++ b) k = (writeBits (wordsOf xs) (l.take k)).length ∧ ∀ j (h : j < k), vlN (bookOf xs) (writeBits (wordsOf xs) l ++ b) j = l[j]'(by omega) ∧ erN (bookOf xs) (writeBits (wordsOf xs) l ++ b) j = 0 := by
  induction k with
  | zero => exact ⟨by simp [stN, writeBits], fun j h => by omega⟩
  | succ k ih =>
    obtain ⟨h1, h2⟩ := ih (by omega)
    have hw : wordS (wordsOf xs) l[k] ≠ [] := by
      intro h
      have := allWords_false (wordsOf xs) l k (by omega) h
      rw [ha] at this; cases this
    have hd : (writeBits (wordsOf xs) l ++ b).drop (stN (bookOf xs) (writeBits (wordsOf xs) l ++ b) k) = wordS (wordsOf xs) l[k] ++ (writeBits (wordsOf xs) (l.drop (k + 1)) ++ b) := by
      rw [h1]
      have e : l = l.take k ++ (l[k] :: l.drop (k + 1)) := by rw [← List.drop_eq_getElem_cons (show k < l.length by omega), List.take_append_drop]
      have e2 : writeBits (wordsOf xs) l = writeBits (wordsOf xs) (l.take k) ++ (wordS (wordsOf xs) l[k] ++ writeBits (wordsOf xs) (l.drop (k + 1))) := by
        have h : writeBits (wordsOf xs) l = writeBits (wordsOf xs) (l.take k ++ (l[k] :: l.drop (k + 1))) := by rw [← e]
        rw [h, writeBits_append]
        congr 1
      rw [e2, List.append_assoc, List.drop_left, List.append_assoc]
    have hn := next_word xs hE l[k] hw (writeBits (wordsOf xs) (l.drop (k + 1)) ++ b)
    rw [← hd] at hn
    refine ⟨?_, fun j h => ?_⟩
    · rw [stN, hn, h1, List.take_succ_eq_append_getElem (show k < l.length by omega), writeBits_append, List.length_append]
      congr 1
      simp [writeBits]
    · by_cases hj : j = k
      · subst hj
        exact ⟨by rw [vlN, hn], by rw [erN, hn]⟩
      · exact h2 j (by omega)

theorem write_ok {xs l : List Int} (h : writeE xs l = 0) : checkE xs = 0 ∧ l.length ≤ 4096 ∧ allWords (wordsOf xs) l = true ∧ writeS xs l = writeBits (wordsOf xs) l := by
  have h' := h
  unfold writeE at h
  by_cases h1 : checkE xs = 0
  · rw [if_pos h1] at h
    by_cases h2 : l.length ≤ 4096
    · rw [if_pos h2] at h
      by_cases h3 : allWords (wordsOf xs) l = true
      · exact ⟨h1, h2, h3, by rw [writeS, h', if_pos rfl]⟩
      · rw [if_neg h3] at h; exact absurd h (by decide)
    · rw [if_neg h2] at h; exact absurd h (by decide)
  · rw [if_neg h1] at h; exact absurd h h1

theorem read_back {xs l : List Int} (h : writeE xs l = 0) (b : List UInt8) (hb : allB b = true) :
    readE xs (writeS xs l ++ b) l.length = 0 ∧ readV xs (writeS xs l ++ b) l.length = l ∧ readR xs (writeS xs l ++ b) l.length = b := by
  obtain ⟨hE, h4, ha, hs⟩ := write_ok h
  rw [hs]
  obtain ⟨h1, h2⟩ := read_written xs hE l b ha l.length (Nat.le_refl _)
  have e : readE xs (writeBits (wordsOf xs) l ++ b) l.length = 0 := by
    rw [readE, if_pos hE, if_pos (by omega), if_pos (by rw [allB_append, writeBits_bits, hb]; rfl), Int.toNat_natCast]
    exact rdE_zero _ _ _ fun i hi => (h2 i hi).2
  refine ⟨e, ?_, ?_⟩
  · rw [readV, if_pos e, Int.toNat_natCast]
    apply List.ext_getElem
    · simp
    · intro i hi hi2
      simp only [List.getElem_map, List.getElem_range]
      exact (h2 i hi2).1
  · rw [readR, if_pos e, Int.toNat_natCast, h1, List.take_of_length_le (Nat.le_refl _), List.drop_left]

theorem writeS_length (xs l : List Int) : (writeS xs l).length ≤ 61440 := by
  unfold writeS
  split
  · rename_i h
    obtain ⟨hE, h4, _, _⟩ := write_ok h
    have := writeBits_length xs (checkE_zero hE).2.2.1 l
    omega
  · simp

end Go.Proofs.Ytolcndchfnifhaa
