/- No word of a code begins with another one; what the book tells: plain mathematics. -/
import Derived.Test.YtolcndchfnifhaaWriteMath
namespace Go.Proofs.Ytolcndchfnifhaa
open Go.RowKit

theorem numBits_split (n a b : Nat) : numBits n (a + b) = numBits (n / 2 ^ b) a ++ numBits n b := by
  induction b generalizing n with
  | zero => simp [numBits]
  | succ b ih =>
    rw [show a + (b + 1) = (a + b) + 1 by omega, numBits, ih (n / 2), numBits, List.append_assoc, Nat.div_div_eq_div_mul, Nat.pow_succ, Nat.mul_comm 2]
theorem numBits_inj {x y a : Nat} (hx : x < 2 ^ a) (hy : y < 2 ^ a) (h : numBits x a = numBits y a) : x = y := by
  have h1 := valOf_numBits x a hx
  rw [h, valOf_numBits y a hy] at h1
  exact h1.symm
theorem numBits_prefix {x y a b : Nat} (hx : x < 2 ^ a) (hy : y < 2 ^ b) (h : numBits x a <+: numBits y b) : a ≤ b ∧ y / 2 ^ (b - a) = x := by
  have hl := h.length_le
  rw [numBits_length, numBits_length] at hl
  refine ⟨hl, ?_⟩
  have e : b = a + (b - a) := by omega
  have h2 : numBits y b = numBits (y / 2 ^ (b - a)) a ++ numBits y (b - a) := by
    have := numBits_split y a (b - a)
    rw [← e] at this
    exact this
  have h3 : (numBits y b).take a = numBits x a := by
    have h4 := List.prefix_iff_eq_take.1 h
    rw [numBits_length] at h4
    exact h4.symm
  rw [h2, List.take_append_of_le_length (by rw [numBits_length]; exact Nat.le_refl _), List.take_of_length_le (by rw [numBits_length]; exact Nat.le_refl _)] at h3
  refine numBits_inj ?_ hx h3
  rw [Nat.div_lt_iff_lt_mul (Nat.pow_pos (by decide)), ← Nat.pow_add, ← e]
  exact hy

theorem low_mono (xs : List Int) (t d : Nat) (h : t + d ≤ 15) : low xs t ≤ low xs (t + d) := by
  induction d with
  | zero => exact Nat.le_refl _
  | succ d ih =>
    have := low_succ xs (t + d) (by omega)
    have := ih (by omega)
    rw [show t + (d + 1) = t + d + 1 by omega]
    omega
theorem cnt_lt (xs : List Int) (s : Int) (i j : Nat) (hij : i < j) (hi : i < xs.length) (he : xs[i] = s) : cnt xs s i + 1 ≤ cnt xs s j := by
  have h1 : cnt xs s (i + 1) = cnt xs s i + 1 := by rw [cnt_succ xs s i hi, if_pos he]
  have h2 : cnt xs s (i + 1) ≤ cnt xs s j := by
    unfold cnt cntAll
    exact (List.Sublist.filter _ (List.take_sublist_take_left (by omega))).length_le
  omega

/-- no word begins with another one. -/
theorem prefixFree (xs : List Int) (hE : checkE xs = 0) (i j : Nat) (hi : i < xs.length) (hj : j < xs.length) (hne : i ≠ j) (hw : word xs i ≠ []) : ¬ word xs i <+: word xs j := by
  obtain ⟨_, _, hok, _, hs⟩ := checkE_zero hE
  intro hp
  have gi : xs.getD i 0 = xs[i] := by simp [List.getD, List.getElem?_eq_getElem hi]
  have gj : xs.getD j 0 = xs[j] := by simp [List.getD, List.getElem?_eq_getElem hj]
  have oi := lensOk_get hok i hi
  have oj := lensOk_get hok j hj
  have h1 : 1 ≤ xs[i] := by
    rw [← gi]
    refine Decidable.byContradiction fun h => hw ?_
    rw [word, if_neg h]
  have h2 : 1 ≤ xs[j] := by
    rw [← gj]
    refine Decidable.byContradiction fun h => hw ?_
    have e : word xs j = [] := by rw [word, if_neg h]
    rw [e] at hp
    exact List.prefix_nil.1 hp
  obtain ⟨a, ha⟩ : ∃ a : Nat, xs[i] = (a : Int) + 1 := ⟨(xs[i] - 1).toNat, by omega⟩
  obtain ⟨c, hc⟩ : ∃ c : Nat, xs[j] = (c : Int) + 1 := ⟨(xs[j] - 1).toNat, by omega⟩
  have e1 : word xs i = numBits (nxt xs a i) (a + 1) := by
    rw [word, gi, if_pos h1, ha, show ((a : Int) + 1).toNat = a + 1 by omega, show a + 1 - 1 = a by omega]
  have e2 : word xs j = numBits (nxt xs c j) (c + 1) := by
    rw [word, gj, if_pos h2, hc, show ((c : Int) + 1).toNat = c + 1 by omega, show c + 1 - 1 = c by omega]
  rw [e1, e2] at hp
  obtain ⟨hle, hdiv⟩ := numBits_prefix (nxt_lt xs a i (by omega) hs hi ha) (nxt_lt xs c j (by omega) hs hj hc) hp
  by_cases hac : a = c
  · subst hac
    rw [Nat.sub_self, Nat.pow_zero, Nat.div_one, nxt, nxt] at hdiv
    rcases Nat.lt_or_gt_of_ne hne with h | h
    · have := cnt_lt xs _ i j h hi ha; omega
    · have := cnt_lt xs _ j i h hj hc; omega
  · have hlt : a < c := by omega
    have b1 := base_low xs a (by omega)
    have b2 := base_low xs c (by omega)
    have l1 := low_succ xs a (by omega)
    have l2 := low_mono xs (a + 1) (c - (a + 1)) (by omega)
    rw [show a + 1 + (c - (a + 1)) = c by omega] at l2
    have k1 := cnt_lt xs _ i xs.length hi hi ha
    rw [cnt_all] at k1
    have q1 : (nxt xs a i + 1) * 2 ^ (14 - a) ≤ low xs (a + 1) := by
      rw [l1, nxt, ← b1, ← Nat.add_mul]
      exact Nat.mul_le_mul_right _ (by omega)
    have q2 : low xs c ≤ nxt xs c j * 2 ^ (14 - c) := by
      rw [← b2, nxt]
      exact Nat.mul_le_mul_right _ (by omega)
    have q3 : nxt xs c j < (nxt xs a i + 1) * 2 ^ (c - a) := by
      rw [show c + 1 - (a + 1) = c - a by omega] at hdiv
      have := Nat.lt_mul_div_succ (nxt xs c j) (show 0 < 2 ^ (c - a) from Nat.pow_pos (by decide))
      rw [hdiv, Nat.mul_comm] at this
      exact this
    have q4 : nxt xs c j * 2 ^ (14 - c) < (nxt xs a i + 1) * 2 ^ (14 - a) := by
      have := Nat.mul_lt_mul_of_pos_right q3 (show 0 < 2 ^ (14 - c) from Nat.pow_pos (by decide))
      rw [Nat.mul_assoc, ← Nat.pow_add, show c - a + (14 - c) = 14 - a by omega] at this
      exact this
    omega

/-- no text of the list begins with another one. -/
def PF (ts : List (List UInt8)) : Prop := ∀ i j, i < ts.length → j < ts.length → i ≠ j → ts.getD i [] ≠ [] → ¬ ts.getD i [] <+: ts.getD j []
theorem words_pf (xs : List Int) (hE : checkE xs = 0) : PF (wordsOf xs) := by
  intro i j hi hj hne hw
  rw [wordsOf_length] at hi hj
  have e : ∀ k, k < xs.length → (wordsOf xs).getD k [] = word xs k := fun k hk => by simp [List.getD, wordsOf, hk]
  rw [e i hi] at hw ⊢
  rw [e j hj]
  exact prefixFree xs hE i j hi hj hne hw

def putF (f : List UInt8 → Option (Int × Bool)) (k : List UInt8) (p : Int × Bool) : List UInt8 → Option (Int × Bool) := fun key => if key = k then some p else f key
def preF (f : List UInt8 → Option (Int × Bool)) (wd : List UInt8) : Nat → List UInt8 → Option (Int × Bool)
  | 0 => f
  | j + 1 => putF (preF f wd j) (wd.take (j + 1)) (0, false)
def addW (f : List UInt8 → Option (Int × Bool)) (i : Nat) (wd : List UInt8) : List UInt8 → Option (Int × Bool) := if wd = [] then f else putF (preF f wd (wd.length - 1)) wd (i, true)
/-- what the book of the first i words holds. -/
def bookF (ts : List (List UInt8)) : Nat → List UInt8 → Option (Int × Bool)
  | 0 => fun _ => none
  | i + 1 => addW (bookF ts i) i (ts.getD i [])

theorem preF_in (f : List UInt8 → Option (Int × Bool)) (wd key : List UInt8) (j : Nat) (h1 : 1 ≤ key.length) (h2 : key.length ≤ j) (h : key <+: wd) : preF f wd j key = some (0, false) := by
  have hk : wd.take key.length = key := (List.prefix_iff_eq_take.1 h).symm
  induction j with
  | zero => omega
  | succ j ih =>
    rw [preF, putF]
    by_cases e : key = wd.take (j + 1)
    · rw [if_pos e]
    · rw [if_neg e]
      refine ih ?_
      refine Decidable.byContradiction fun hn => e ?_
      have : key.length = j + 1 := by omega
      rw [← this, hk]
theorem preF_out (f : List UInt8 → Option (Int × Bool)) (wd key : List UInt8) (j : Nat) (h : ¬ (1 ≤ key.length ∧ key <+: wd)) (hw : wd ≠ []) : preF f wd j key = f key := by
  induction j with
  | zero => rfl
  | succ j ih =>
    rw [preF, putF, if_neg, ih]
    intro e
    refine h ⟨?_, by rw [e]; exact List.take_prefix _ _⟩
    rw [e, List.length_take]
    have : wd.length ≠ 0 := fun h => hw (List.eq_nil_of_length_eq_zero h)
    omega

/-- what the book tells: of a word its number .. -/
theorem book_whole (ts : List (List UInt8)) (hpf : PF ts) (m : Nat) (hm : m ≤ ts.length) (i : Nat) (hi : i < m) (hw : ts.getD i [] ≠ []) : bookF ts m (ts.getD i []) = some ((i : Int), true) := by
  induction m with
  | zero => omega
  | succ m ih =>
    rw [bookF, addW]
    by_cases e : i = m
    · subst e; rw [if_neg hw, putF, if_pos rfl]
    · split
      · exact ih (by omega) (by omega)
      · rename_i hmw
        have hnp := hpf i m (by omega) (by omega) e hw
        rw [putF, if_neg (fun h => hnp (by rw [h]; exact List.prefix_rfl)), preF_out _ _ _ _ (fun h => hnp h.2) hmw]
        exact ih (by omega) (by omega)
/-- .. of a part of one, that is no word, that it is a part .. -/
theorem book_part (ts : List (List UInt8)) (m : Nat) (hm : m ≤ ts.length) (key : List UInt8) (hk : key ≠ []) (hno : ∀ i, i < m → ts.getD i [] ≠ key) (hyes : ∃ i, i < m ∧ key <+: ts.getD i []) : bookF ts m key = some (0, false) := by
  have hk1 : 1 ≤ key.length := by
    have : key.length ≠ 0 := fun h => hk (List.eq_nil_of_length_eq_zero h)
    omega
  induction m with
  | zero => obtain ⟨i, hi, _⟩ := hyes; omega
  | succ m ih =>
    obtain ⟨i, hi, hp⟩ := hyes
    rw [bookF, addW]
    by_cases hpm : key <+: ts.getD m []
    · have hmw : ts.getD m [] ≠ [] := fun h => hk (by rw [h] at hpm; exact List.prefix_nil.1 hpm)
      have hne := hno m (by omega)
      rw [if_neg hmw, putF, if_neg (fun h => hne h.symm)]
      refine preF_in _ _ _ _ hk1 ?_ hpm
      have hl := hpm.length_le
      have : key.length ≠ (ts.getD m []).length := fun h => hne (hpm.eq_of_length h).symm
      omega
    · have him : i ≠ m := fun h => hpm (by rw [← h]; exact hp)
      have ih' := ih (by omega) (fun k hk => hno k (by omega)) ⟨i, by omega, hp⟩
      split
      · exact ih'
      · rename_i hmw
        rw [putF, if_neg (fun h => hno m (by omega) h.symm), preF_out _ _ _ _ (fun h => hpm h.2) hmw]
        exact ih'
/-- .. of all else nothing. -/
theorem book_none (ts : List (List UInt8)) (m : Nat) (key : List UInt8) (hno : ∀ i, i < m → ¬ key <+: ts.getD i []) : bookF ts m key = none := by
  induction m with
  | zero => rfl
  | succ m ih =>
    have ih' := ih (fun k hk => hno k (by omega))
    rw [bookF, addW]
    split
    · exact ih'
    · rename_i hmw
      rw [putF, if_neg (fun h => hno m (by omega) (by rw [h]; exact List.prefix_rfl)), preF_out _ _ _ _ (fun h => hno m (by omega) h.2) hmw]
      exact ih'

/-- what Next answers: the number, the error, how many bits it takes. -/
def nextF (f : List UInt8 → Option (Int × Bool)) : List UInt8 → List UInt8 → Int × Int × Nat
  | _, [] => (0, 5, 0)
  | pre, c :: rest =>
    match f (pre ++ [c]) with
    | none => (0, 4, 1)
    | some (n, true) => (n, 0, 1)
    | some (_, false) => ((nextF f (pre ++ [c]) rest).1, (nextF f (pre ++ [c]) rest).2.1, (nextF f (pre ++ [c]) rest).2.2 + 1)

theorem next_found (ts : List (List UInt8)) (hpf : PF ts) (i : Nat) (hi : i < ts.length) (hw : ts.getD i [] ≠ []) (rest : List UInt8) : ∀ pre, ts.getD i [] <+: pre ++ rest → pre.length < (ts.getD i []).length → nextF (bookF ts ts.length) pre rest = ((i : Int), 0, (ts.getD i []).length - pre.length) := by
  induction rest with
  | nil => intro pre hp hl; have := hp.length_le; rw [List.append_nil] at this; omega
  | cons c rest ih =>
    intro pre hp hl
    have hkp : pre ++ [c] <+: ts.getD i [] := by
      refine List.prefix_of_prefix_length_le (l₃ := pre ++ c :: rest) ⟨rest, by simp⟩ hp ?_
      rw [List.length_append, List.length_singleton]; omega
    rw [nextF]
    by_cases he : pre.length + 1 = (ts.getD i []).length
    · have e : pre ++ [c] = ts.getD i [] := hkp.eq_of_length (by rw [List.length_append, List.length_singleton]; exact he)
      rw [e, book_whole ts hpf ts.length (Nat.le_refl _) i hi hw]
      simp only []
      congr 2
      omega
    · have hno : ∀ k, k < ts.length → ts.getD k [] ≠ pre ++ [c] := by
        intro k hk e
        have hkw : ts.getD k [] ≠ [] := by rw [e]; simp
        by_cases hki : k = i
        · subst hki; rw [e, List.length_append, List.length_singleton] at he; exact he rfl
        · exact hpf k i hk hi hki hkw (by rw [e]; exact hkp)
      rw [book_part ts ts.length (Nat.le_refl _) (pre ++ [c]) (by simp) hno ⟨i, hi, hkp⟩]
      have h := ih (pre ++ [c]) (by rw [List.append_assoc]; exact hp) (by rw [List.length_append, List.length_singleton]; omega)
      simp only [h]
      congr 2
      rw [List.length_append, List.length_singleton]
      omega

theorem next_short (ts : List (List UInt8)) (rest : List UInt8) : ∀ pre, (∀ i, i < ts.length → ts.getD i [] ≠ [] → ¬ ts.getD i [] <+: pre ++ rest) → (∃ i, i < ts.length ∧ pre ++ rest <+: ts.getD i []) → nextF (bookF ts ts.length) pre rest = (0, 5, rest.length) := by
  induction rest with
  | nil => intro pre _ _; rfl
  | cons c rest ih =>
    intro pre hno hyes
    obtain ⟨i, hi, hp⟩ := hyes
    have hkb : pre ++ [c] <+: pre ++ c :: rest := ⟨rest, by simp⟩
    rw [nextF, book_part ts ts.length (Nat.le_refl _) (pre ++ [c]) (by simp) (fun k hk e => hno k hk (by rw [e]; simp) (by rw [e]; exact hkb)) ⟨i, hi, hkb.trans hp⟩]
    have h := ih (pre ++ [c]) (by rw [List.append_assoc]; exact hno) ⟨i, hi, by rw [List.append_assoc]; exact hp⟩
    simp only [h]
    rfl

theorem next_none (ts : List (List UInt8)) (rest : List UInt8) : ∀ pre, (∀ i, i < ts.length → ts.getD i [] ≠ [] → ¬ ts.getD i [] <+: pre ++ rest) → (∀ i, i < ts.length → ts.getD i [] ≠ [] → ¬ pre ++ rest <+: ts.getD i []) → (∃ i, i < ts.length ∧ ts.getD i [] ≠ [] ∧ pre <+: ts.getD i []) →
    (nextF (bookF ts ts.length) pre rest).1 = 0 ∧ (nextF (bookF ts ts.length) pre rest).2.1 = 4 := by
  induction rest with
  | nil =>
    intro pre _ hno hyes
    obtain ⟨i, hi, hw, hp⟩ := hyes
    exact absurd (by rw [List.append_nil]; exact hp) (hno i hi hw)
  | cons c rest ih =>
    intro pre hno hno2 _
    have hkb : pre ++ [c] <+: pre ++ c :: rest := ⟨rest, by simp⟩
    rw [nextF]
    by_cases hex : ∃ i, i < ts.length ∧ pre ++ [c] <+: ts.getD i []
    · obtain ⟨i, hi, hp⟩ := hex
      rw [book_part ts ts.length (Nat.le_refl _) (pre ++ [c]) (by simp) (fun k hk e => hno k hk (by rw [e]; simp) (by rw [e]; exact hkb)) ⟨i, hi, hp⟩]
      exact ih (pre ++ [c]) (by rw [List.append_assoc]; exact hno) (by rw [List.append_assoc]; exact hno2) ⟨i, hi, fun h => by rw [h] at hp; have := List.prefix_nil.1 hp; simp at this, hp⟩
    · rw [book_none ts ts.length (pre ++ [c]) (fun i hi h => hex ⟨i, hi, h⟩)]
      exact ⟨rfl, rfl⟩
end Go.Proofs.Ytolcndchfnifhaa
