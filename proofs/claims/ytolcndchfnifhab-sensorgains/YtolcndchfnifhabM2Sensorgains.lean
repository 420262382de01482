/- sensorgains: part 2 of what its proof needs. -/
import Derived.Test.YtolcndchfnifhabM1Sensorgains
/- No word of a code begins with another one; what the book tells: plain mathematics. -/
namespace Go.Proofs.Ytolcndchfnifhab
open Go.RowKit

theorem numBits_split (n a b : Nat) : numBits n (a + b) = numBits (n / 2 ^ b) a ++ numBits n b := by
  induction b generalizing n with
  | zero => simp [numBits]
  | succ b ih =>
    rw [show a + (b + 1) = (a + b) + 1 by omega, numBits, ih (n / 2), numBits, List.append_assoc, Nat.div_div_eq_div_mul, Nat.pow_succ, Nat.mul_comm 2]
theorem numBits_inj {x y a : Nat} (hx : x < 2 ^ a) (hy : y < 2 ^ a) (h : numBits x a = numBits y a) : x = y := by
  have h1 := valOf_numBits x a hx
  rw [h, valOf_numBits y a hy] at h1
  exact h1.symm
theorem numBits_prefix {x y a b : Nat} (hx : x < 2 ^ a) (hy : y < 2 ^ b) (h : numBits x a <+: numBits y b) : a ≤ b ∧ y / 2 ^ (b - a) = x := by
  have hl := h.length_le
  rw [numBits_length, numBits_length] at hl
  refine ⟨hl, ?_⟩
  have e : b = a + (b - a) := by omega
  have h2 : numBits y b = numBits (y / 2 ^ (b - a)) a ++ numBits y (b - a) := by
    have := numBits_split y a (b - a)
    rw [← e] at this
    exact this
  have h3 : (numBits y b).take a = numBits x a := by
    have h4 := List.prefix_iff_eq_take.1 h
    rw [numBits_length] at h4
    exact h4.symm
  rw [h2, List.take_append_of_le_length (by rw [numBits_length]; exact Nat.le_refl _), List.take_of_length_le (by rw [numBits_length]; exact Nat.le_refl _)] at h3
  refine numBits_inj ?_ hx h3
  rw [Nat.div_lt_iff_lt_mul (Nat.pow_pos (by decide)), ← Nat.pow_add, ← e]
  exact hy

theorem low_mono (xs : List Int) (t d : Nat) (h : t + d ≤ 15) : low xs t ≤ low xs (t + d) := by
  induction d with
  | zero => exact Nat.le_refl _
  | succ d ih =>
    have := low_succ xs (t + d) (by omega)
    have := ih (by omega)
    rw [show t + (d + 1) = t + d + 1 by omega]
    omega
theorem cnt_lt (xs : List Int) (s : Int) (i j : Nat) (hij : i < j) (hi : i < xs.length) (he : xs[i] = s) : cnt xs s i + 1 ≤ cnt xs s j := by
  have h1 : cnt xs s (i + 1) = cnt xs s i + 1 := by rw [cnt_succ xs s i hi, if_pos he]
  have h2 : cnt xs s (i + 1) ≤ cnt xs s j := by
    unfold cnt cntAll
    exact (List.Sublist.filter _ (List.take_sublist_take_left (by omega))).length_le
  omega

/-- no word begins with another one. -/
theorem prefixFree (xs : List Int) (hE : checkE xs = 0) (i j : Nat) (hi : i < xs.length) (hj : j < xs.length) (hne : i ≠ j) (hw : word xs i ≠ []) : ¬ word xs i <+: word xs j := by
  obtain ⟨_, _, hok, _, hs⟩ := checkE_zero hE
  intro hp
  have gi : xs.getD i 0 = xs[i] := by simp [List.getD, List.getElem?_eq_getElem hi]
  have gj : xs.getD j 0 = xs[j] := by simp [List.getD, List.getElem?_eq_getElem hj]
  have oi := lensOk_get hok i hi
  have oj := lensOk_get hok j hj
  have h1 : 1 ≤ xs[i] := by
    rw [← gi]
    refine Decidable.byContradiction fun h => hw ?_
    rw [word, if_neg h]
  have h2 : 1 ≤ xs[j] := by
    rw [← gj]
    refine Decidable.byContradiction fun h => hw ?_
    have e : word xs j = [] := by rw [word, if_neg h]
    rw [e] at hp
    exact List.prefix_nil.1 hp
  obtain ⟨a, ha⟩ : ∃ a : Nat, xs[i] = (a : Int) + 1 := ⟨(xs[i] - 1).toNat, by omega⟩
  obtain ⟨c, hc⟩ : ∃ c : Nat, xs[j] = (c : Int) + 1 := ⟨(xs[j] - 1).toNat, by omega⟩
  have e1 : word xs i = numBits (nxt xs a i) (a + 1) := by
    rw [word, gi, if_pos h1, ha, show ((a : Int) + 1).toNat = a + 1 by omega, show a + 1 - 1 = a by omega]
  have e2 : word xs j = numBits (nxt xs c j) (c + 1) := by
    rw [word, gj, if_pos h2, hc, show ((c : Int) + 1).toNat = c + 1 by omega, show c + 1 - 1 = c by omega]
  rw [e1, e2] at hp
  obtain ⟨hle, hdiv⟩ := numBits_prefix (nxt_lt xs a i (by omega) hs hi ha) (nxt_lt xs c j (by omega) hs hj hc) hp
  by_cases hac : a = c
  · subst hac
    rw [Nat.sub_self, Nat.pow_zero, Nat.div_one, nxt, nxt] at hdiv
    rcases Nat.lt_or_gt_of_ne hne with h | h
    · have := cnt_lt xs _ i j h hi ha; omega
    · have := cnt_lt xs _ j i h hj hc; omega
  · have hlt : a < c := by omega
    have b1 := base_low xs a (by omega)
    have b2 := base_low xs c (by omega)
    have l1 := low_succ xs a (by omega)
    have l2 := low_mono xs (a + 1) (c - (a + 1)) (by omega)
    rw [show a + 1 + (c - (a + 1)) = c by omega] at l2
    have k1 := cnt_lt xs _ i xs.length hi hi ha
    rw [cnt_all] at k1
    have q1 : (nxt xs a i + 1) * 2 ^ (14 - a) ≤ low xs (a + 1) := by
      rw [l1, nxt, ← b1, ← Nat.add_mul]
      exact Nat.mul_le_mul_right _ (by omega)
    have q2 : low xs c ≤ nxt xs c j * 2 ^ (14 - c) := by
      rw [← b2, nxt]
      exact Nat.mul_le_mul_right _ (by omega)
    have q3 : nxt xs c j < (nxt xs a i + 1) * 2 ^ (c - a) := by
      rw [show c + 1 - (a + 1) = c - a by omega] at hdiv
      have := Nat.lt_mul_div_succ (nxt xs c j) (show 0 < 2 ^ (c - a) from Nat.pow_pos (by decide))
      rw [hdiv, Nat.mul_comm] at this
      exact this
    have q4 : nxt xs c j * 2 ^ (14 - c) < (nxt xs a i + 1) * 2 ^ (14 - a) := by
      have := Nat.mul_lt_mul_of_pos_right q3 (show 0 < 2 ^ (14 - c) from Nat.pow_pos (by decide))
      rw [Nat.mul_assoc, ← Nat.pow_add, show c - a + (14 - c) = 14 - a by omega] at this
      exact this
    omega

/-- no text of the list begins with another one. -/
def PF (ts : List (List UInt8)) : Prop := ∀ i j, i < ts.length → j < ts.length → i ≠ j → ts.getD i [] ≠ [] → ¬ ts.getD i [] <+: ts.getD j []
theorem words_pf (xs : List Int) (hE : checkE xs = 0) : PF (wordsOf xs) := by
  intro i j hi hj hne hw
  rw [wordsOf_length] at hi hj
  have e : ∀ k, k < xs.length → (wordsOf xs).getD k [] = word xs k := fun k hk => by simp [List.getD, wordsOf, hk]
  rw [e i hi] at hw ⊢
  rw [e j hj]
  exact prefixFree xs hE i j hi hj hne hw

def putF (f : List UInt8 → Option (Int × Bool)) (k : List UInt8) (p : Int × Bool) : List UInt8 → Option (Int × Bool) := fun key => if key = k then some p else f key
def preF (f : List UInt8 → Option (Int × Bool)) (wd : List UInt8) : Nat → List UInt8 → Option (Int × Bool)
  | 0 => f
  | j + 1 => putF (preF f wd j) (wd.take (j + 1)) (0, false)
def addW (f : List UInt8 → Option (Int × Bool)) (i : Nat) (wd : List UInt8) : List UInt8 → Option (Int × Bool) := if wd = [] then f else putF (preF f wd (wd.length - 1)) wd (i, true)
/-- what the book of the first i words holds. -/
def bookF (ts : List (List UInt8)) : Nat → List UInt8 → Option (Int × Bool)
  | 0 => fun _ => none
  | i + 1 => addW (bookF ts i) i (ts.getD i [])

theorem preF_in (f : List UInt8 → Option (Int × Bool)) (wd key : List UInt8) (j : Nat) (h1 : 1 ≤ key.length) (h2 : key.length ≤ j) (h : key <+: wd) : preF f wd j key = some (0, false) := by
  have hk : wd.take key.length = key := (List.prefix_iff_eq_take.1 h).symm
  induction j with
  | zero => omega
  | succ j ih =>
    rw [preF, putF]
    by_cases e : key = wd.take (j + 1)
    · rw [if_pos e]
    · rw [if_neg e]
      refine ih ?_
      refine Decidable.byContradiction fun hn => e ?_
      have : key.length = j + 1 := by omega
      rw [← this, hk]
theorem preF_out (f : List UInt8 → Option (Int × Bool)) (wd key : List UInt8) (j : Nat) (h : ¬ (1 ≤ key.length ∧ key <+: wd)) (hw : wd ≠ []) : preF f wd j key = f key := by
  induction j with
  | zero => rfl
  | succ j ih =>
    rw [preF, putF, if_neg, ih]
    intro e
    refine h ⟨?_, by rw [e]; exact List.take_prefix _ _⟩
    rw [e, List.length_take]
    have : wd.length ≠ 0 := fun h => hw (List.eq_nil_of_length_eq_zero h)
    omega

/-- what the book tells: of a word its number .. -/
theorem book_whole (ts : List (List UInt8)) (hpf : PF ts) (m : Nat) (hm : m ≤ ts.length) (i : Nat) (hi : i < m) (hw : ts.getD i [] ≠ []) : bookF ts m (ts.getD i []) = some ((i : Int), true) := by
  induction m with
  | zero => omega
  | succ m ih =>
    rw [bookF, addW]
    by_cases e : i = m
    · subst e; rw [if_neg hw, putF, if_pos rfl]
    · split
      · exact ih (by omega) (by omega)
      · rename_i hmw
        have hnp := hpf i m (by omega) (by omega) e hw
        rw [putF, if_neg (fun h => hnp (by rw [h]; exact List.prefix_rfl)), preF_out _ _ _ _ (fun h => hnp h.2) hmw]
        exact ih (by omega) (by omega)
/-- .. of a part of one, that is no word, that it is a part .. -/
theorem book_part (ts : List (List UInt8)) (m : Nat) (hm : m ≤ ts.length) (key : List UInt8) (hk : key ≠ []) (hno : ∀ i, i < m → ts.getD i [] ≠ key) (hyes : ∃ i, i < m ∧ key <+: ts.getD i []) : bookF ts m key = some (0, false) := by
  have hk1 : 1 ≤ key.length := by
    have : key.length ≠ 0 := fun h => hk (List.eq_nil_of_length_eq_zero h)
    omega
  induction m with
  | zero => obtain ⟨i, hi, _⟩ := hyes; omega
  | succ m ih =>
    obtain ⟨i, hi, hp⟩ := hyes
    rw [bookF, addW]
    by_cases hpm : key <+: ts.getD m []
    · have hmw : ts.getD m [] ≠ [] := fun h => hk (by rw [h] at hpm; exact List.prefix_nil.1 hpm)
      have hne := hno m (by omega)
      rw [if_neg hmw, putF, if_neg (fun h => hne h.symm)]
      refine preF_in _ _ _ _ hk1 ?_ hpm
      have hl := hpm.length_le
      have : key.length ≠ (ts.getD m []).length := fun h => hne (hpm.eq_of_length h).symm
      omega
    · have him : i ≠ m := fun h => hpm (by rw [← h]; exact hp)
      have ih' := ih (by omega) (fun k hk => hno k (by omega)) ⟨i, by omega, hp⟩
      split
      · exact ih'
      · rename_i hmw
        rw [putF, if_neg (fun h => hno m (by omega) h.symm), preF_out _ _ _ _ (fun h => hpm h.2) hmw]
        exact ih'
/-- .. of all else nothing. -/
theorem book_none (ts : List (List UInt8)) (m : Nat) (key : List UInt8) (hno : ∀ i, i < m → ¬ key <+: ts.getD i []) : bookF ts m key = none := by
  induction m with
  | zero => rfl
  | succ m ih =>
    have ih' := ih (fun k hk => hno k (by omega))
    rw [bookF, addW]
    split
    · exact ih'
    · rename_i hmw
      rw [putF, if_neg (fun h => hno m (by omega) (by rw [h]; exact List.prefix_rfl)), preF_out _ _ _ _ (fun h => hno m (by omega) h.2) hmw]
      exact ih'

/-- what Next answers: the number, the error, how many bits it takes. -/
def nextF (f : List UInt8 → Option (Int × Bool)) : List UInt8 → List UInt8 → Int × Int × Nat
  | _, [] => (0, 5, 0)
  | pre, c :: rest =>
    match f (pre ++ [c]) with
    | none => (0, 4, 1)
    | some (n, true) => (n, 0, 1)
    | some (_, false) => ((nextF f (pre ++ [c]) rest).1, (nextF f (pre ++ [c]) rest).2.1, (nextF f (pre ++ [c]) rest).2.2 + 1)

theorem next_found (ts : List (List UInt8)) (hpf : PF ts) (i : Nat) (hi : i < ts.length) (hw : ts.getD i [] ≠ []) (rest : List UInt8) : ∀ pre, ts.getD i [] <+: pre ++ rest → pre.length < (ts.getD i []).length → nextF (bookF ts ts.length) pre rest = ((i : Int), 0, (ts.getD i []).length - pre.length) := by
  induction rest with
  | nil => intro pre hp hl; have := hp.length_le; rw [List.append_nil] at this; omega
  | cons c rest ih =>
    intro pre hp hl
    have hkp : pre ++ [c] <+: ts.getD i [] := by
      refine List.prefix_of_prefix_length_le (l₃ := pre ++ c :: rest) ⟨rest, by simp⟩ hp ?_
      rw [List.length_append, List.length_singleton]; omega
    rw [nextF]
    by_cases he : pre.length + 1 = (ts.getD i []).length
    · have e : pre ++ [c] = ts.getD i [] := hkp.eq_of_length (by rw [List.length_append, List.length_singleton]; exact he)
      rw [e, book_whole ts hpf ts.length (Nat.le_refl _) i hi hw]
      simp only []
      congr 2
      omega
    · have hno : ∀ k, k < ts.length → ts.getD k [] ≠ pre ++ [c] := by
        intro k hk e
        have hkw : ts.getD k [] ≠ [] := by rw [e]; simp
        by_cases hki : k = i
        · subst hki; rw [e, List.length_append, List.length_singleton] at he; exact he rfl
        · exact hpf k i hk hi hki hkw (by rw [e]; exact hkp)
      rw [book_part ts ts.length (Nat.le_refl _) (pre ++ [c]) (by simp) hno ⟨i, hi, hkp⟩]
      have h := ih (pre ++ [c]) (by rw [List.append_assoc]; exact hp) (by rw [List.length_append, List.length_singleton]; omega)
      simp only [h]
      congr 2
      rw [List.length_append, List.length_singleton]
      omega

theorem next_short (ts : List (List UInt8)) (rest : List UInt8) : ∀ pre, (∀ i, i < ts.length → ts.getD i [] ≠ [] → ¬ ts.getD i [] <+: pre ++ rest) → (∃ i, i < ts.length ∧ pre ++ rest <+: ts.getD i []) → nextF (bookF ts ts.length) pre rest = (0, 5, rest.length) := by
  induction rest with
  | nil => intro pre _ _; rfl
  | cons c rest ih =>
    intro pre hno hyes
    obtain ⟨i, hi, hp⟩ := hyes
    have hkb : pre ++ [c] <+: pre ++ c :: rest := ⟨rest, by simp⟩
    rw [nextF, book_part ts ts.length (Nat.le_refl _) (pre ++ [c]) (by simp) (fun k hk e => hno k hk (by rw [e]; simp) (by rw [e]; exact hkb)) ⟨i, hi, hkb.trans hp⟩]
    have h := ih (pre ++ [c]) (by rw [List.append_assoc]; exact hno) ⟨i, hi, by rw [List.append_assoc]; exact hp⟩
    simp only [h]
    rfl

theorem next_none (ts : List (List UInt8)) (rest : List UInt8) : ∀ pre, (∀ i, i < ts.length → ts.getD i [] ≠ [] → ¬ ts.getD i [] <+: pre ++ rest) → (∀ i, i < ts.length → ts.getD i [] ≠ [] → ¬ pre ++ rest <+: ts.getD i []) → (∃ i, i < ts.length ∧ ts.getD i [] ≠ [] ∧ pre <+: ts.getD i []) →
    (nextF (bookF ts ts.length) pre rest).1 = 0 ∧ (nextF (bookF ts ts.length) pre rest).2.1 = 4 := by
  induction rest with
  | nil =>
    intro pre _ hno hyes
    obtain ⟨i, hi, hw, hp⟩ := hyes
    exact absurd (by rw [List.append_nil]; exact hp) (hno i hi hw)
  | cons c rest ih =>
    intro pre hno hno2 _
    have hkb : pre ++ [c] <+: pre ++ c :: rest := ⟨rest, by simp⟩
    rw [nextF]
    by_cases hex : ∃ i, i < ts.length ∧ pre ++ [c] <+: ts.getD i []
    · obtain ⟨i, hi, hp⟩ := hex
      rw [book_part ts ts.length (Nat.le_refl _) (pre ++ [c]) (by simp) (fun k hk e => hno k hk (by rw [e]; simp) (by rw [e]; exact hkb)) ⟨i, hi, hp⟩]
      exact ih (pre ++ [c]) (by rw [List.append_assoc]; exact hno) (by rw [List.append_assoc]; exact hno2) ⟨i, hi, fun h => by rw [h] at hp; have := List.prefix_nil.1 hp; simp at this, hp⟩
    · rw [book_none ts ts.length (pre ++ [c]) (fun i hi h => hex ⟨i, hi, h⟩)]
      exact ⟨rfl, rfl⟩
end Go.Proofs.Ytolcndchfnifhab

/- Planes by differences: plain mathematics. -/
namespace Go.Proofs.Ytolcndchfnifhab
open Go.RowKit

def sideOk (n : Int) : Bool := decide (1 ≤ n ∧ n ≤ 64)
def sampOk (v : Int) : Bool := decide (0 ≤ v ∧ v ≤ 65535)
def sampsOk (zs : List Int) : Bool := zs.all sampOk
def planeOk (W H : Int) (zs : List Int) : Bool := sideOk W && sideOk H && decide ((zs.length : Int) = W * H) && sampsOk zs
def kindOk (k : Int) : Bool := decide (1 ≤ k ∧ k ≤ 7)
theorem sampsOk_get {zs : List Int} (h : sampsOk zs = true) (k : Nat) (hk : k < zs.length) : 0 ≤ zs[k] ∧ zs[k] ≤ 65535 := by
  have := List.all_eq_true.1 h _ (List.getElem_mem hk)
  simpa [sampOk] using this
theorem sampsOk_getD {zs : List Int} (h : sampsOk zs = true) (k : Nat) : 0 ≤ zs.getD k 0 ∧ zs.getD k 0 ≤ 65535 := by
  by_cases hk : k < zs.length
  · rw [show zs.getD k 0 = zs[k] by simp [List.getD, hk]]; exact sampsOk_get h k hk
  · rw [show zs.getD k 0 = 0 by simp [List.getD, hk]]; omega
theorem sampsOk_snoc (zs : List Int) (x : Int) : sampsOk (zs ++ [x]) = (sampsOk zs && sampOk x) := by simp [sampsOk]
theorem sampsOk_false (zs : List Int) (k : Nat) (hk : k < zs.length) (h : sampOk zs[k] = false) : sampsOk zs = false := by
  rw [Bool.eq_false_iff]; intro he
  have := List.all_eq_true.1 he _ (List.getElem_mem hk)
  rw [h] at this; cases this
theorem planeOk_parts {W H : Int} {zs : List Int} (h : planeOk W H zs = true) : (1 ≤ W ∧ W ≤ 64) ∧ (1 ≤ H ∧ H ≤ 64) ∧ (zs.length : Int) = W * H ∧ sampsOk zs = true := by
  simp only [planeOk, sideOk, Bool.and_eq_true, decide_eq_true_eq] at h
  exact ⟨h.1.1.1, h.1.1.2, h.1.2, h.2⟩
theorem side_mul {W H : Int} (h1 : 1 ≤ W ∧ W ≤ 64) (h2 : 1 ≤ H ∧ H ≤ 64) : 1 ≤ W * H ∧ W * H ≤ 4096 := by
  have a := Int.mul_le_mul h1.2 h2.2 (by omega) (by omega)
  have b := Int.mul_le_mul h1.1 h2.1 (by omega) (by omega)
  omega

def insideG (kind a b c : Int) : Int :=
  if kind = 1 then a else if kind = 2 then b else if kind = 3 then c else if kind = 4 then a + b - c else if kind = 5 then a + (b - c) / 2 else if kind = 6 then b + (a - c) / 2 else (a + b) / 2
/-- the guess at the k-th place of W columns. -/
def gAt (zs : List Int) (W : Nat) (kind : Int) (k : Nat) : Int :=
  if k % W = 0 ∧ k / W = 0 then 32768 else if k / W = 0 then zs.getD (k - 1) 0 else if k % W = 0 then zs.getD (k - W) 0 else insideG kind (zs.getD (k - 1) 0) (zs.getD (k - W) 0) (zs.getD (k - W - 1) 0)
theorem insideG_range (kind a b c : Int) (ha : 0 ≤ a ∧ a ≤ 65535) (hb : 0 ≤ b ∧ b ≤ 65535) (hc : 0 ≤ c ∧ c ≤ 65535) : -65536 ≤ insideG kind a b c ∧ insideG kind a b c ≤ 131070 := by
  unfold insideG
  repeat' split
  all_goals omega
theorem gAt_range (zs : List Int) (W : Nat) (kind : Int) (k : Nat) (h : sampsOk zs = true) : -65536 ≤ gAt zs W kind k ∧ gAt zs W kind k ≤ 131070 := by
  have a := sampsOk_getD h (k - 1)
  have b := sampsOk_getD h (k - W)
  have c := sampsOk_getD h (k - W - 1)
  have d := insideG_range kind _ _ _ a b c
  unfold gAt
  repeat' split
  all_goals omega
theorem gAt_pre {zs ys : List Int} {W : Nat} {kind : Int} {k : Nat} (hW : 1 ≤ W) (h : ∀ j, j < k → zs.getD j 0 = ys.getD j 0) : gAt zs W kind k = gAt ys W kind k := by
  unfold gAt
  by_cases hk : k = 0
  · subst hk; simp
  · rw [h (k - 1) (by omega), h (k - W) (by omega), h (k - W - 1) (by omega)]

def dif (s g : Int) : Int := if 32768 < (s - g) % 65536 then (s - g) % 65536 - 65536 else (s - g) % 65536
theorem dif_range (s g : Int) : -32768 < dif s g ∧ dif s g ≤ 32768 := by unfold dif; split <;> omega
theorem dif_back (s g : Int) (h0 : 0 ≤ s) (h1 : s ≤ 65535) : (g + dif s g) % 65536 = s := by unfold dif; split <;> omega
theorem dif_of (d g : Int) (h0 : -32768 < d) (h1 : d ≤ 32768) : dif ((g + d) % 65536) g = d := by unfold dif; split <;> omega

/-- how many bits a number has. -/
def blen (n : Nat) : Nat := if n = 0 then 0 else n.log2 + 1
theorem blen_lt (n : Nat) : n < 2 ^ blen n := by
  unfold blen
  split
  · subst_vars; decide
  · exact Nat.lt_log2_self
theorem blen_ge (n : Nat) (h : n ≠ 0) : 2 ^ (blen n - 1) ≤ n := by
  unfold blen
  rw [if_neg h, Nat.add_sub_cancel]
  exact Nat.log2_self_le h
theorem blen_le {n k : Nat} (h : n < 2 ^ k) : blen n ≤ k := by
  unfold blen
  split
  · omega
  · rename_i h0
    exact (Nat.log2_lt h0).2 h
theorem blen_gt {n k : Nat} (h : 2 ^ k ≤ n) : k < blen n := by
  refine Decidable.byContradiction fun hn => ?_
  have h1 := blen_lt n
  have h2 := Nat.pow_le_pow_right (n := 2) (by decide) (show blen n ≤ k by omega)
  omega
theorem blen_eq {n k : Nat} (h1 : 2 ^ k ≤ n) (h2 : n < 2 ^ (k + 1)) : blen n = k + 1 := by
  have := blen_gt h1
  have := blen_le h2
  omega
def cls (d : Int) : Nat := blen d.natAbs
theorem cls_le {d : Int} (h0 : -32768 < d) (h1 : d ≤ 32768) : cls d ≤ 16 := blen_le (by omega)
theorem cls_top {d : Int} (h0 : -32768 < d) (h1 : d ≤ 32768) (h : cls d = 16) : d = 32768 := by
  have h2 : d.natAbs ≠ 0 := fun e => by rw [cls, e] at h; simp [blen] at h
  have := blen_ge d.natAbs h2
  rw [show blen d.natAbs = 16 from h] at this
  omega
theorem cls_nil {d : Int} (h : cls d = 0) : d = 0 := by
  have := blen_lt d.natAbs
  rw [show blen d.natAbs = 0 from h] at this
  omega
theorem cls_half : cls 32768 = 16 := by decide
def tailN (d : Int) : Nat := (if d < 0 then d + 2 ^ cls d - 1 else d).toNat
def tailB (d : Int) : List UInt8 := if cls d = 0 ∨ cls d = 16 then [] else numBits (tailN d) (cls d)
def wrD (ts : List (List UInt8)) (d : Int) : List UInt8 := wordS ts (cls d) ++ tailB d
def tailV (c v : Nat) : Int := if v < 2 ^ c / 2 then (v : Int) - (2 ^ c - 1) else v
theorem cls_bounds (d : Int) (h : cls d ≠ 0) : ∃ c, cls d = c + 1 ∧ 2 ^ c ≤ d.natAbs ∧ d.natAbs < 2 * 2 ^ c ∧ (2 : Int) ^ cls d = ((2 * 2 ^ c : Nat) : Int) := by
  have h0 : d.natAbs ≠ 0 := fun e => h (by rw [cls, e]; rfl)
  have h1 := blen_ge _ h0
  have h2 := blen_lt d.natAbs
  obtain ⟨c, hc⟩ : ∃ c, blen d.natAbs = c + 1 := ⟨blen d.natAbs - 1, by unfold cls at h; omega⟩
  rw [hc, Nat.add_sub_cancel] at h1
  rw [hc, Nat.pow_succ] at h2
  refine ⟨c, hc, h1, by omega, ?_⟩
  rw [show cls d = c + 1 from hc, pow_cast, Nat.pow_succ, Nat.mul_comm]
theorem tailV_succ (c v : Nat) : tailV (c + 1) v = if v < 2 ^ c then (v : Int) - (2 * ((2 ^ c : Nat) : Int) - 1) else v := by
  have h1 : (2 : Nat) ^ (c + 1) / 2 = 2 ^ c := by rw [Nat.pow_succ]; omega
  have h2 : (2 : Int) ^ (c + 1) = 2 * ((2 ^ c : Nat) : Int) := by rw [pow_cast, Nat.pow_succ, Nat.mul_comm, Int.natCast_mul]; rfl
  unfold tailV
  rw [h1, h2]
theorem tailN_of (d : Int) (c : Nat) (h : cls d = c + 1) : tailN d = (if d < 0 then d + 2 * ((2 ^ c : Nat) : Int) - 1 else d).toNat := by
  have h2 : (2 : Int) ^ (c + 1) = 2 * ((2 ^ c : Nat) : Int) := by rw [pow_cast, Nat.pow_succ, Nat.mul_comm, Int.natCast_mul]; rfl
  rw [tailN, h, h2]
theorem tailN_lt (d : Int) (h : cls d ≠ 0) : tailN d < 2 ^ cls d ∧ ((tailN d : Nat) : Int) = if d < 0 then d + 2 ^ cls d - 1 else d := by
  obtain ⟨c, hc, h1, h2, h3⟩ := cls_bounds d h
  have h4 : (2 : Nat) ^ cls d = 2 * 2 ^ c := by rw [hc, Nat.pow_succ]; omega
  rw [tailN_of d c hc, h3, h4]
  generalize (2 : Nat) ^ c = p at *
  split <;> omega
theorem tailV_tailN (d : Int) (h : cls d ≠ 0) : tailV (cls d) (tailN d) = d := by
  obtain ⟨c, hc, h1, h2, h3⟩ := cls_bounds d h
  have h5 := tailN_of d c hc
  rw [hc, tailV_succ]
  generalize tailN d = t at *
  generalize (2 : Nat) ^ c = p at *
  split <;> split at h5 <;> omega
theorem tailV_cls (c v : Nat) (hc : c ≤ 15) (hv : v < 2 ^ c) : cls (tailV c v) = c ∧ -32768 < tailV c v ∧ tailV c v ≤ 32768 ∧ (c ≠ 0 → tailN (tailV c v) = v) := by
  have hp : 2 ^ c ≤ 32768 := Nat.le_trans (Nat.pow_le_pow_right (by decide) hc) (by decide)
  cases c with
  | zero =>
    have : v = 0 := by simpa using hv
    subst this
    exact ⟨by decide, by decide, by decide, fun h => absurd rfl h⟩
  | succ c =>
    have hcl : cls (tailV (c + 1) v) = c + 1 := by
      refine blen_eq ?_ ?_
      all_goals
        rw [tailV_succ]
        rw [Nat.pow_succ] at *
        generalize (2 : Nat) ^ c = p at *
        split <;> omega
    rw [tailN_of _ c hcl, hcl, tailV_succ]
    rw [Nat.pow_succ] at *
    clear hcl
    generalize (2 : Nat) ^ c = p at *
    refine ⟨rfl, ?_, ?_, fun _ => ?_⟩
    · split <;> omega
    · split <;> omega
    · repeat' split
      all_goals omega
theorem tailB_length {d : Int} (h0 : -32768 < d) (h1 : d ≤ 32768) : (tailB d).length ≤ 15 := by
  have := cls_le h0 h1
  unfold tailB
  split
  · simp
  · rw [numBits_length]; omega
theorem tailB_bits (d : Int) : allB (tailB d) = true := by
  unfold tailB
  split
  · rfl
  · exact numBits_allB _ _

theorem nextF_len (f : List UInt8 → Option (Int × Bool)) (pre b : List UInt8) (h : (nextF f pre b).2.1 = 0) : 1 ≤ (nextF f pre b).2.2 := by
  cases b with
  | nil => simp [nextF] at h
  | cons c b =>
    rw [nextF] at h ⊢
    split
    · exact Nat.le_refl _
    · exact Nat.le_refl _
    · simp

/-- the next difference, and how many bits it takes. -/
def nxD (f : List UInt8 → Option (Int × Bool)) (b : List UInt8) : Option (Int × Nat) :=
  if (nextF f [] b).2.1 = 0 then
    (if (nextF f [] b).1 = 16 then some (32768, (nextF f [] b).2.2)
     else if b.length < (nextF f [] b).2.2 + (nextF f [] b).1.toNat then none
     else some (tailV (nextF f [] b).1.toNat (valOf ((b.drop (nextF f [] b).2.2).take (nextF f [] b).1.toNat)), (nextF f [] b).2.2 + (nextF f [] b).1.toNat))
  else none

theorem wordS_nat (ts : List (List UInt8)) (c : Nat) (h : wordS ts c ≠ []) : c < ts.length ∧ wordS ts c = ts.getD c [] := by
  unfold wordS at h ⊢
  split at h
  · rename_i hc
    exact ⟨by omega, by rw [if_pos hc]; simp⟩
  · exact absurd rfl h

theorem nxD_wr (ts : List (List UInt8)) (hpf : PF ts) (d : Int) (h0 : -32768 < d) (h1 : d ≤ 32768) (hw : wordS ts (cls d) ≠ []) (rest : List UInt8) :
    nxD (bookF ts ts.length) (wrD ts d ++ rest) = some (d, (wrD ts d).length) := by
  obtain ⟨hc, he⟩ := wordS_nat ts _ hw
  have hw2 : ts.getD (cls d) [] ≠ [] := by rw [← he]; exact hw
  have hl : 0 < (ts.getD (cls d) []).length := List.length_pos_iff.2 hw2
  have hn := next_found ts hpf (cls d) hc hw2 (wrD ts d ++ rest) [] (by rw [List.nil_append, wrD, he, List.append_assoc]; exact List.prefix_append _ _) (by simpa using hl)
  rw [nxD, hn]
  simp only [List.length_nil, Nat.sub_zero, Int.toNat_natCast, if_true]
  have hcl := cls_le h0 h1
  by_cases h16 : cls d = 16
  · rw [if_pos (by omega), cls_top h0 h1 h16]
    rw [wrD, cls_half, show tailB 32768 = [] by rw [tailB, if_pos (.inr cls_half)], List.append_nil, ← h16, he]
  · rw [if_neg (by omega)]
    have htl : (tailB d).length = cls d := by
      unfold tailB
      split
      · rename_i h; simp; omega
      · rw [numBits_length]
    have hwl : (wrD ts d).length = (ts.getD (cls d) []).length + cls d := by rw [wrD, List.length_append, he, htl]
    rw [if_neg (by rw [List.length_append, hwl]; omega)]
    have hdrop : ((wrD ts d ++ rest).drop (ts.getD (cls d) []).length).take (cls d) = tailB d := by
      rw [wrD, he, List.append_assoc, List.drop_left, ← htl, List.take_left]
    rw [hdrop, hwl]
    by_cases hz : cls d = 0
    · have hd := cls_nil hz
      subst hd
      rfl
    · rw [tailB, if_neg (by omega), valOf_numBits _ _ (tailN_lt d hz).1, tailV_tailN d hz]

theorem nxD_some (ts : List (List UInt8)) (hts : ts.length ≤ 17) (b : List UInt8) (hb : allB b = true)
    (hnx : (nextF (bookF ts ts.length) [] b).2.1 = 0 → ∃ i : Nat, i < ts.length ∧ (nextF (bookF ts ts.length) [] b).1 = i ∧ (nextF (bookF ts ts.length) [] b).2.2 = (ts.getD i []).length ∧ ts.getD i [] <+: b)
    (d : Int) (n : Nat) (h : nxD (bookF ts ts.length) b = some (d, n)) :
    n ≤ b.length ∧ b.take n = wrD ts d ∧ -32768 < d ∧ d ≤ 32768 ∧ wordS ts (cls d) ≠ [] := by
  rw [nxD] at h
  split at h
  · rename_i he
    have hl1 := nextF_len _ _ _ he
    obtain ⟨i, hi, h1, h2, hp⟩ := hnx he
    rw [h1, h2] at h
    rw [h2] at hl1
    have hw2 : ts.getD i [] ≠ [] := fun e => by rw [e] at hl1; simp at hl1
    have hws : wordS ts (i : Int) = ts.getD i [] := by rw [wordS, if_pos (by omega)]; simp
    have hpl := hp.length_le
    have htk : b.take (ts.getD i []).length = ts.getD i [] := (List.prefix_iff_eq_take.1 hp).symm
    split at h
    · rename_i h16
      simp only [Option.some.injEq, Prod.mk.injEq] at h
      obtain ⟨rfl, rfl⟩ := h
      have hi16 : i = 16 := by omega
      subst hi16
      refine ⟨hpl, ?_, by decide, by decide, ?_⟩
      · rw [htk, wrD, cls_half, show tailB 32768 = [] by rw [tailB, if_pos (.inr cls_half)], List.append_nil]; exact hws.symm
      · rw [cls_half]; show wordS ts ((16 : Nat) : Int) ≠ []; rw [hws]; exact hw2
    · rename_i h16
      split at h
      · cases h
      · rename_i hlen
        simp only [Option.some.injEq, Prod.mk.injEq, Int.toNat_natCast] at h hlen
        obtain ⟨rfl, rfl⟩ := h
        have hcl : ((b.drop (ts.getD i []).length).take i).length = i := by rw [List.length_take, List.length_drop]; omega
        have hab : allB ((b.drop (ts.getD i []).length).take i) = true := allB_take (allB_drop hb _) _
        have hv := valOf_lt _ hab
        rw [hcl] at hv
        obtain ⟨k1, k2, k3, k4⟩ := tailV_cls i _ (by omega) hv
        refine ⟨by omega, ?_, k2, k3, by rw [k1, hws]; exact hw2⟩
        rw [wrD, k1, hws, List.take_add, htk]
        congr 1
        rw [tailB, k1]
        by_cases hz : i = 0
        · subst hz; simp
        · rw [if_neg (by omega), k4 hz]
          have := numBits_valOf _ hab
          rw [hcl] at this
          exact this.symm
  · cases h

/-- the differences of a plane. -/
def dAt (zs : List Int) (W : Nat) (kind : Int) (i : Nat) : Int := dif (zs.getD i 0) (gAt zs W kind i)
def dBits (ts : List (List UInt8)) (zs : List Int) (W : Nat) (kind : Int) (n : Nat) : List UInt8 := (List.range n).flatMap fun i => wrD ts (dAt zs W kind i)
def dAll (ts : List (List UInt8)) (zs : List Int) (W : Nat) (kind : Int) (n : Nat) : Bool := (List.range n).all fun i => decide (wordS ts (cls (dAt zs W kind i)) ≠ [])
theorem dBits_succ (ts : List (List UInt8)) (zs : List Int) (W : Nat) (kind : Int) (n : Nat) : dBits ts zs W kind (n + 1) = dBits ts zs W kind n ++ wrD ts (dAt zs W kind n) := by simp [dBits, List.range_succ]
theorem dAll_succ (ts : List (List UInt8)) (zs : List Int) (W : Nat) (kind : Int) (n : Nat) : dAll ts zs W kind (n + 1) = (dAll ts zs W kind n && decide (wordS ts (cls (dAt zs W kind n)) ≠ [])) := by simp [dAll, List.range_succ]
theorem dAll_false (ts : List (List UInt8)) (zs : List Int) (W : Nat) (kind : Int) (n k : Nat) (hk : k < n) (h : wordS ts (cls (dAt zs W kind k)) = []) : dAll ts zs W kind n = false := by
  rw [Bool.eq_false_iff]; intro he
  have := List.all_eq_true.1 he k (List.mem_range.2 hk)
  simp [h] at this
theorem dAll_get {ts : List (List UInt8)} {zs : List Int} {W : Nat} {kind : Int} {n : Nat} (h : dAll ts zs W kind n = true) (k : Nat) (hk : k < n) : wordS ts (cls (dAt zs W kind k)) ≠ [] := by
  have := List.all_eq_true.1 h k (List.mem_range.2 hk)
  simpa using this
theorem wrD_length (xs : List Int) (hok : lensOk xs = true) (d : Int) (h0 : -32768 < d) (h1 : d ≤ 32768) : (wrD (wordsOf xs) d).length ≤ 30 := by
  have := wordS_length xs hok (cls d)
  have := tailB_length h0 h1
  rw [wrD, List.length_append]; omega
theorem dBits_length (xs : List Int) (hok : lensOk xs = true) (zs : List Int) (W : Nat) (kind : Int) (n : Nat) : (dBits (wordsOf xs) zs W kind n).length ≤ 30 * n := by
  induction n with
  | zero => simp [dBits]
  | succ n ih =>
    have := dif_range (zs.getD n 0) (gAt zs W kind n)
    have := wrD_length xs hok (dAt zs W kind n) this.1 this.2
    rw [dBits_succ, List.length_append]; omega

/-- what the first k samples are, and how many bits they take. -/
def rdD (f : List UInt8 → Option (Int × Bool)) (b : List UInt8) (W : Nat) (kind : Int) : Nat → Option (Nat × List Int)
  | 0 => some (0, [])
  | k + 1 => match rdD f b W kind k with
    | none => none
    | some (pos, zs) => match nxD f (b.drop pos) with
      | none => none
      | some (d, n) => some (pos + n, zs ++ [(gAt zs W kind k + d) % 65536])
theorem rdD_none {f : List UInt8 → Option (Int × Bool)} {b : List UInt8} {W : Nat} {kind : Int} {k n : Nat} (hk : k ≤ n) (h : rdD f b W kind k = none) : rdD f b W kind n = none := by
  induction n with
  | zero => obtain rfl : k = 0 := by omega
            exact h
  | succ n ih =>
    by_cases e : k = n + 1
    · subst e; exact h
    · rw [rdD, ih (by omega)]
theorem rdD_len {f : List UInt8 → Option (Int × Bool)} {b : List UInt8} {W : Nat} {kind : Int} {k pos : Nat} {zs : List Int} (h : rdD f b W kind k = some (pos, zs)) : zs.length = k ∧ sampsOk zs = true := by
  induction k generalizing pos zs with
  | zero => rw [rdD] at h; cases h; exact ⟨rfl, rfl⟩
  | succ k ih =>
    rw [rdD] at h
    split at h
    · cases h
    · rename_i p ys hy
      split at h
      · cases h
      · cases h
        obtain ⟨h1, h2⟩ := ih hy
        refine ⟨by simp [h1], ?_⟩
        rw [sampsOk_snoc, h2, sampOk]
        simp; omega
theorem getD_snoc (zs : List Int) (x : Int) (j : Nat) (h : j < zs.length) : (zs ++ [x]).getD j 0 = zs.getD j 0 := by
  simp [List.getD, List.getElem?_append_left h]

theorem rdD_back (ts : List (List UInt8)) (hts : ts.length ≤ 17) (b : List UInt8) (hb : allB b = true) (W : Nat) (hW : 1 ≤ W) (kind : Int)
    (hnx : ∀ b, (nextF (bookF ts ts.length) [] b).2.1 = 0 → ∃ i : Nat, i < ts.length ∧ (nextF (bookF ts ts.length) [] b).1 = i ∧ (nextF (bookF ts ts.length) [] b).2.2 = (ts.getD i []).length ∧ ts.getD i [] <+: b)
    (k pos : Nat) (zs : List Int) (h : rdD (bookF ts ts.length) b W kind k = some (pos, zs)) :
    pos ≤ b.length ∧ b.take pos = dBits ts zs W kind k ∧ dAll ts zs W kind k = true := by
  induction k generalizing pos zs with
  | zero => rw [rdD] at h; cases h; simp [dBits, dAll]
  | succ k ih =>
    rw [rdD] at h
    split at h
    · cases h
    · rename_i p ys hy
      split at h
      · cases h
      · rename_i d n hd
        cases h
        obtain ⟨h1, h2, h3⟩ := ih p ys hy
        obtain ⟨hl, _⟩ := rdD_len hy
        obtain ⟨e1, e2, e3, e4, e5⟩ := nxD_some ts hts _ (allB_drop hb p) (hnx _) d n hd
        rw [List.length_drop] at e1
        have hpre : ∀ j, j < k → (ys ++ [(gAt ys W kind k + d) % 65536]).getD j 0 = ys.getD j 0 := fun j hj => getD_snoc _ _ _ (by omega)
        have hg : ∀ i, i ≤ k → gAt (ys ++ [(gAt ys W kind k + d) % 65536]) W kind i = gAt ys W kind i := fun i hi => gAt_pre hW fun j hj => hpre j (by omega)
        have hdd : ∀ i, i < k → dAt (ys ++ [(gAt ys W kind k + d) % 65536]) W kind i = dAt ys W kind i := fun i hi => by rw [dAt, dAt, hpre i hi, hg i (by omega)]
        have hdk : dAt (ys ++ [(gAt ys W kind k + d) % 65536]) W kind k = d := by
          rw [dAt, hg k (Nat.le_refl _), show (ys ++ [(gAt ys W kind k + d) % 65536]).getD k 0 = (gAt ys W kind k + d) % 65536 by simp [List.getD, ← hl], dif_of d _ e3 e4]
        have hB : dBits ts (ys ++ [(gAt ys W kind k + d) % 65536]) W kind k = dBits ts ys W kind k := by
          unfold dBits
          rw [List.flatMap_def, List.flatMap_def]
          congr 1
          refine List.map_congr_left fun i hi => ?_
          rw [hdd i (List.mem_range.1 hi)]
        have hA : dAll ts (ys ++ [(gAt ys W kind k + d) % 65536]) W kind k = true := by
          unfold dAll
          rw [List.all_eq_true]
          intro i hi
          rw [hdd i (List.mem_range.1 hi)]
          exact List.all_eq_true.1 h3 i hi
        refine ⟨by omega, ?_, ?_⟩
        · rw [dBits_succ, hB, hdk, List.take_add, h2, e2]
        · rw [dAll_succ, hA, hdk]; simpa using e5

theorem rdD_of (ts : List (List UInt8)) (hpf : PF ts) (zs : List Int) (hz : sampsOk zs = true) (W : Nat) (hW : 1 ≤ W) (kind : Int) (hall : dAll ts zs W kind zs.length = true) (rest : List UInt8) (k : Nat) (hk : k ≤ zs.length) :
    rdD (bookF ts ts.length) (dBits ts zs W kind zs.length ++ rest) W kind k = some ((dBits ts zs W kind k).length, zs.take k) := by
  have hsplit : ∀ k, k ≤ zs.length → ∃ r, dBits ts zs W kind zs.length = dBits ts zs W kind k ++ r := by
    intro k hk
    obtain ⟨m, hm⟩ : ∃ m, zs.length = k + m := ⟨zs.length - k, by omega⟩
    rw [hm]
    clear hm hk
    induction m with
    | zero => exact ⟨[], by simp⟩
    | succ m ih => obtain ⟨r, hr⟩ := ih; exact ⟨r ++ wrD ts (dAt zs W kind (k + m)), by rw [show k + (m + 1) = (k + m) + 1 by omega, dBits_succ, hr, List.append_assoc]⟩
  induction k with
  | zero => simp [rdD, dBits]
  | succ k ih =>
    rw [rdD, ih (by omega)]
    obtain ⟨r, hr⟩ := hsplit (k + 1) hk
    have hrange := dif_range (zs.getD k 0) (gAt zs W kind k)
    have hdrop : (dBits ts zs W kind zs.length ++ rest).drop (dBits ts zs W kind k).length = wrD ts (dAt zs W kind k) ++ (r ++ rest) := by
      rw [hr, dBits_succ, List.append_assoc, List.append_assoc, List.drop_left]
    simp only [hdrop]
    rw [nxD_wr ts hpf (dAt zs W kind k) hrange.1 hrange.2 (dAll_get hall k (by omega))]
    have hg : gAt (zs.take k) W kind k = gAt zs W kind k := gAt_pre hW fun j hj => by simp [List.getD, List.getElem?_take_of_lt hj]
    have hs := sampsOk_getD hz k
    simp only [Option.some.injEq, Prod.mk.injEq]
    refine ⟨by rw [dBits_succ, List.length_append], ?_⟩
    rw [hg, dAt, dif_back _ _ hs.1 hs.2, List.take_succ_eq_append_getElem (by omega)]
    simp [List.getD, show k < zs.length by omega]

/-- the bits behind the last sample. -/
def fillOk (l : List UInt8) : Bool := decide (l.length < 8) && !hasOne l
theorem fill_iff (s : List UInt8) (pos : Nat) (hp : pos ≤ 8 * s.length) : bytesOf ((rowOf s).take pos) = s ↔ fillOk ((rowOf s).drop pos) = true := by
  have hdl : ((rowOf s).drop pos).length = 8 * s.length - pos := by rw [List.length_drop, rowOf_length]
  rw [fillOk, Bool.and_eq_true, decide_eq_true_eq, hdl, Bool.not_eq_true']
  constructor
  · intro h
    have hl := congrArg List.length h
    rw [bytesOf_length, List.length_take, rowOf_length, Nat.min_eq_left hp] at hl
    refine ⟨by omega, ?_⟩
    have := (packed_iff s pos 1 (by omega)).1 (by rw [Nat.mul_one]; exact h)
    rwa [Nat.mul_one] at this
  · rintro ⟨h1, h2⟩
    have := (packed_iff s pos 1 (by omega)).2 (by rw [Nat.mul_one]; exact h2)
    rwa [Nat.mul_one] at this

/-- what Write answers. -/
def writeDE (W H : Int) (zs : List Int) (kind : Int) (xs : List Int) : Int :=
  if planeOk W H zs = true then (if kindOk kind = true then (if checkE xs = 0 then (if dAll (wordsOf xs) zs W.toNat kind zs.length = true then 0 else 4) else checkE xs) else 6) else 1
def writeDS (W H : Int) (zs : List Int) (kind : Int) (xs : List Int) : List UInt8 := if writeDE W H zs kind xs = 0 then bytesOf (dBits (wordsOf xs) zs W.toNat kind zs.length) else []
end Go.Proofs.Ytolcndchfnifhab

/- Numbers and planes: the small functions of package right and of the reference that later texts share. -/
namespace Go.Proofs.Ytolcndchfnifhab
open Go.RowKit

theorem within_any (n a b : Int) (w : World) :
    Calls Try.prog 59 #[.int .i64 n, .int .i64 a, .int .i64 b] w fun e w' => e = .returned (.bool (decide (a ≤ n ∧ n ≤ b))) ∧ w = w' := by
  by_cases h1 : a ≤ n
  all_goals by_cases h2 : n ≤ b
  all_goals
    go_enter Try.func59, Try.ntmps59
    go_wp2
    go_ret
    exact ⟨ret_bool (by simp [h1, h2]), rfl⟩

theorem ownsRow_lenOf {w : World} {base : Nat} {e : TypeId} {v : Value} {n : Nat} {xs : List Value} (h : w.ownsRow base e 1 v n xs) : ∃ ao cap, v = .slice ao n cap := by
  rcases h.2 with ⟨hv, hn⟩ | ⟨g, cap, cur, hv, _⟩
  · exact ⟨none, 0, by rw [hv, hn]⟩
  · exact ⟨_, cap, hv⟩


theorem place_of {W X Y : Nat} (h : X < W) : (Y * W + X) % W = X ∧ (Y * W + X) / W = Y := by
  constructor
  · rw [Nat.mul_comm, Nat.mul_add_mod, Nat.mod_eq_of_lt h]
  · rw [Nat.mul_comm, Nat.mul_add_div (by omega), Nat.div_eq_of_lt h, Nat.add_zero]

def allIn (a b : Int) (xs : List Int) : Bool := xs.all fun n => decide (a ≤ n ∧ n ≤ b)
theorem allIn_snoc (a b : Int) (xs : List Int) (x : Int) : allIn a b (xs ++ [x]) = (allIn a b xs && decide (a ≤ x ∧ x ≤ b)) := by simp [allIn]
theorem allIn_false (a b : Int) (xs : List Int) (k : Nat) (hk : k < xs.length) (h : ¬ (a ≤ xs[k] ∧ xs[k] ≤ b)) : allIn a b xs = false := by
  rw [Bool.eq_false_iff]; intro he
  have := List.all_eq_true.1 he _ (List.getElem_mem hk)
  exact h (by simpa using this)

theorem rWithin_any (a b : Int) (v : Value) (xs : List Int) (w : World) (hv : IsInts w v xs) :
    Calls Try.prog 83 #[.int .i64 a, .int .i64 b, v] w fun e w' => e = .returned (.bool (allIn a b xs)) ∧ w = w' := by
  obtain ⟨ao, ca, rfl, hla, hc⟩ := hv
  by_cases h0 : xs = []
  · subst h0
    clear hc
    go_enter Try.func83, Try.ntmps83
    go_wp2
    go_loop [11] (fun i => i = .int .i64 0) (fun _ => 0)
    case atStart => rfl
    case round =>
      subst hrel
      go_wp2
      go_ret
      exact ⟨rfl, rfl⟩
  · obtain ⟨bk, off, hao, hbl, hcell⟩ : ∃ b off, ao = some ⟨b, off, none⟩ ∧ b < w.heap.size ∧ ∀ j (h : j < xs.length), w.cell? ⟨b, off + j, none⟩ = some (.int .i64 xs[j]) := by
      rcases hc with h | h
      · exact absurd h h0
      · exact h
    subst hao
    have HCELL := hide hcell; clear hcell hc h0
    go_enter Try.func83, Try.ntmps83
    go_wp2
    go_loop [11] (fun i => ∃ k : Nat, k ≤ xs.length ∧ i = .int .i64 k ∧ Hid (allIn a b (xs.take k) = true)) (fun i => xs.length - (intOf i).toNat)
    case atStart => exact ⟨0, Nat.zero_le _, rfl, rfl⟩
    case round =>
      obtain ⟨k, hk, rfl, HA⟩ := hrel
      by_cases hlt : k < xs.length
      · have c1 := HCELL.out k hlt
        by_cases hx0 : a ≤ xs[k]
        · by_cases hx1 : xs[k] ≤ b
          · have HT := hide (show allIn a b (xs.take (k + 1)) = true by rw [List.take_succ_eq_append_getElem hlt, allIn_snoc, HA.out]; simp [hx0, hx1])
            go_wp2
            go_round
            case rel => exact ⟨k + 1, by omega, by go_num, HT⟩
            case measure => simp [intOf]; omega
          · have HE := hide (allIn_false a b xs k hlt (fun h => hx1 h.2))
            go_wp2
            go_ret
            exact ⟨ret_bool HE.out.symm, rfl⟩
        · have HE := hide (allIn_false a b xs k hlt (fun h => hx0 h.1))
          go_wp2
          go_ret
          exact ⟨ret_bool HE.out.symm, rfl⟩
      · have HE := hide (show true = allIn a b xs by rw [← HA.out, List.take_of_length_le (by omega)])
        go_wp2
        go_ret
        exact ⟨ret_bool HE.out, rfl⟩

theorem ints1 (w : World) (n : Int) : IsInts (w.alloc (.cells #[.int .i64 n] 3)) (.slice (some ⟨w.heap.size, 0, none⟩) 1 1) [n] :=
  IsInts.own (base := w.heap.size) (World.ownsRow_lit w #[.int .i64 n] 1 (Nat.le_refl _) (by decide) (by simp)) (by simp)

theorem side_any (n : Int) (w : World) : Calls Try.prog 97 #[.int .i64 n] w fun e w' => e = .returned (.bool (sideOk n)) ∧ Below w.heap.size w w' := by
  have HS := hide (show allIn 1 64 [n] = sideOk n by simp [allIn, sideOk])
  go_enter Try.func97, Try.ntmps97
  go_wp2_with fail
  refine (rWithin_any 1 64 _ [n] _ (ints1 w n)).mono ?_
  rintro e w1 ⟨rfl, rfl⟩
  rw [HS.out]
  go_wp2
  go_ret
  exact ⟨rfl, bel_alloc _ _⟩

def sizeOk (W H m : Int) : Bool := sideOk W && sideOk H && decide (m = W * H)
set_option maxHeartbeats 400000 in
theorem size_any (W H m : Int) (w : World) : Calls Try.prog 102 #[.int .i64 W, .int .i64 H, .int .i64 m] w fun e w' => e = .returned (.bool (sizeOk W H m)) ∧ Below w.heap.size w w' := by
  by_cases h1 : sideOk W = true
  · by_cases h2 : sideOk H = true
    · have HE := hide (show decide (m = W * H) = sizeOk W H m by rw [sizeOk, h1, h2]; rfl)
      have b1 : 1 ≤ W ∧ W ≤ 64 := by simpa [sideOk] using h1
      have b2 : 1 ≤ H ∧ H ≤ 64 := by simpa [sideOk] using h2
      obtain ⟨b3, b4⟩ := side_mul b1 b2
      obtain ⟨M, hM⟩ : ∃ M, W * H = M := ⟨_, rfl⟩
      have HEM := hide (show (m == M) = decide (m = W * H) by rw [hM]; rfl)
      rw [hM] at b3 b4
      go_enter Try.func102, Try.ntmps102
      go_wp2_with fail
      refine (side_any _ _).mono ?_
      rintro e w1 ⟨rfl, hb1⟩
      rw [h1]
      go_wp2_with fail
      refine (side_any _ _).mono ?_
      rintro e w2 ⟨rfl, hb2⟩
      rw [h2]
      go_wp2
      go_ret
      exact ⟨ret_bool (HEM.out.trans HE.out), bel_trans hb1 hb2⟩
    · have h2 : sideOk H = false := by simpa using h2
      have HE := hide (show false = sizeOk W H m by rw [sizeOk, h1, h2]; rfl)
      go_enter Try.func102, Try.ntmps102
      go_wp2_with fail
      refine (side_any _ _).mono ?_
      rintro e w1 ⟨rfl, hb1⟩
      rw [h1]
      go_wp2_with fail
      refine (side_any _ _).mono ?_
      rintro e w2 ⟨rfl, hb2⟩
      rw [h2]
      go_wp2
      go_ret
      exact ⟨ret_bool HE.out, bel_trans hb1 hb2⟩
  · have h1 : sideOk W = false := by simpa using h1
    have HE := hide (show false = sizeOk W H m by rw [sizeOk, h1]; rfl)
    go_enter Try.func102, Try.ntmps102
    go_wp2_with fail
    refine (side_any _ _).mono ?_
    rintro e w1 ⟨rfl, hb1⟩
    rw [h1]
    go_wp2
    go_ret
    exact ⟨ret_bool HE.out, hb1⟩

theorem planeOk_eq (W H : Int) (zs : List Int) : planeOk W H zs = (sizeOk W H zs.length && allIn 0 65535 zs) := by
  rw [planeOk, sizeOk]; rfl

theorem pl3 {w w' : World} {a b c : Value} {t : TypeId} (hb : Below (w.alloc (.cells #[a, b, c] t)).heap.size (w.alloc (.cells #[a, b, c] t)) w') :
    w'.cell? ⟨w.heap.size, 0, none⟩ = some a ∧ w'.cell? ⟨w.heap.size, 1, none⟩ = some b ∧ w'.cell? ⟨w.heap.size, 2, none⟩ = some c := by
  refine ⟨?_, ?_, ?_⟩
  · rw [hb.cell (p := ⟨w.heap.size, 0, none⟩) (by simp), Lib.cell_of_heap (heap_alloc_new w _)]; rfl
  · rw [hb.cell (p := ⟨w.heap.size, 1, none⟩) (by simp), Lib.cell_of_heap (heap_alloc_new w _)]; rfl
  · rw [hb.cell (p := ⟨w.heap.size, 2, none⟩) (by simp), Lib.cell_of_heap (heap_alloc_new w _)]; rfl

theorem plane_any (W H : Int) (v : Value) (zs : List Int) (w : World) (hv : IsInts w v zs) :
    Calls Try.prog 52 #[.agg #[.int .i64 W, .int .i64 H, v]] w fun e w' => e = .returned (.bool (planeOk W H zs)) ∧ Below w.heap.size w w' := by
  have HV := hide hv
  obtain ⟨ao, ca, rfl, hla, _⟩ := hv
  by_cases h1 : sizeOk W H zs.length = true
  · have HE := hide (show allIn 0 65535 zs = planeOk W H zs by rw [planeOk_eq, h1]; rfl)
    go_enter Try.func52, Try.ntmps52
    go_wp2_with fail
    refine (size_any _ _ _ _).mono ?_
    rintro e w1 ⟨rfl, hb1⟩
    rw [h1]
    have c2 := (pl3 hb1).2.2
    go_wp2_with fail
    refine (rWithin_any _ _ _ zs _ ((HV.out.alloc _).below hb1 (Nat.le_refl _))).mono ?_
    rintro e w2 ⟨rfl, rfl⟩
    rw [HE.out]
    go_wp2
    go_ret
    exact ⟨rfl, bel_trans (bel_alloc _ _) hb1⟩
  · have h1 : sizeOk W H zs.length = false := by simpa using h1
    have HE := hide (show false = planeOk W H zs by rw [planeOk_eq, h1]; rfl)
    go_enter Try.func52, Try.ntmps52
    go_wp2_with fail
    refine (size_any _ _ _ _).mono ?_
    rintro e w1 ⟨rfl, hb1⟩
    rw [h1]
    go_wp2
    go_ret
    exact ⟨ret_bool HE.out, bel_trans (bel_alloc _ _) hb1⟩

theorem withinQ (n a b : Int) (w : World) :
    Calls Try.prog 59 #[.int .i64 n, .int .i64 a, .int .i64 b] w fun e w' => e = .returned (.bool (decide (a ≤ n ∧ n ≤ b))) ∧ w' = w :=
  (within_any n a b w).mono fun _ _ h => ⟨h.1, h.2.symm⟩

set_option maxRecDepth 100000 in
set_option maxHeartbeats 800000 in
theorem planeFine_any (W H : Int) (v : Value) (zs : List Int) (w : World) (hv : IsInts w v zs) :
    Calls Try.prog 24 #[.agg #[.int .i64 W, .int .i64 H, v]] w fun e w' => e = .returned (.bool (planeOk W H zs)) ∧ Below w.heap.size w w' := by
  obtain ⟨ao, ca, rfl, hla, hc⟩ := hv
  have hwi : ∀ n : Int, decide (1 ≤ n ∧ n ≤ 64) = sideOk n := fun n => rfl
  have HWI := hide hwi
  clear hwi
  by_cases h1 : sideOk W = true
  · by_cases h2 : sideOk H = true
    · have b1 : 1 ≤ W ∧ W ≤ 64 := by simpa [sideOk] using h1
      have b2 : 1 ≤ H ∧ H ≤ 64 := by simpa [sideOk] using h2
      obtain ⟨b3, b4⟩ := side_mul b1 b2
      obtain ⟨M, hM⟩ : ∃ M, W * H = M := ⟨_, rfl⟩
      rw [hM] at b3 b4
      by_cases hl : (zs.length : Int) = M
      · have HP := hide (show planeOk W H zs = sampsOk zs by rw [planeOk, h1, h2, hM, hl]; simp)
        have hlb : ((zs.length : Int) != M) = false := by simpa using hl
        obtain ⟨bk, off, hao, hbl, hcell⟩ : ∃ b off, ao = some ⟨b, off, none⟩ ∧ b < w.heap.size ∧ ∀ j (h : j < zs.length), w.cell? ⟨b, off + j, none⟩ = some (.int .i64 zs[j]) := by
          rcases hc with h | h
          · subst h; simp at hl; omega
          · exact h
        subst hao
        have HCELL := hide (show ∀ j (h : j < zs.length), (w.alloc (Obj.cells #[.int .i64 W, .int .i64 H, .slice (some ⟨bk, off, none⟩) zs.length ca] 24)).cell? ⟨bk, off + j, none⟩ = some (.int .i64 zs[j]) from fun j h => by
          rw [World.cell?_of_block (w := w) (Below.heap_alloc w _ bk hbl)]; exact hcell j h)
        clear hcell hc
        have HB := hide (bel_alloc w (Obj.cells #[.int .i64 W, .int .i64 H, .slice (some ⟨bk, off, none⟩) zs.length ca] 24))
        obtain ⟨e0, e1, e2⟩ := pl3 (Below.refl (w.alloc (Obj.cells #[.int .i64 W, .int .i64 H, .slice (some ⟨bk, off, none⟩) zs.length ca] 24)).heap.size _)
        go_enter Try.func24, Try.ntmps24
        go_wp2_with fail
        generalize w.alloc (Obj.cells #[.int .i64 W, .int .i64 H, .slice (some ⟨bk, off, none⟩) zs.length ca] 24) = W0 at *
        refine (within_any _ _ _ _).mono ?_
        rintro e w1 ⟨rfl, rfl⟩
        rw [HWI.out, h1]
        go_wp2_with fail
        refine (within_any _ _ _ _).mono ?_
        rintro e w1 ⟨rfl, rfl⟩
        rw [HWI.out, h2]
        go_wp2
        clear h1 h2 b1 b2
        go_loopw [3] (fun i wr => ∃ k : Nat, k ≤ zs.length ∧ i = .int .i64 k ∧ Hid (sampsOk (zs.take k) = true) ∧ (∃ n, wr = W0.drewN n)) (fun i _ => zs.length - (intOf i).toNat)
        case atStart => exact ⟨0, Nat.zero_le _, rfl, rfl, 0, rfl⟩
        case round =>
          obtain ⟨k, hk, rfl, HS, nn, rfl⟩ := hrel
          by_cases hlt : k < zs.length
          · have c1 := HCELL.out k hlt
            by_cases hx0 : 0 ≤ zs[k] ∧ zs[k] ≤ 65535
            · have hd : decide (0 ≤ zs[k] ∧ zs[k] ≤ 65535) = true := by simpa using hx0
              have HT := hide (show sampsOk (zs.take (k + 1)) = true by rw [List.take_succ_eq_append_getElem hlt, sampsOk_snoc, HS.out]; exact hd)
              go_wp2_with (go_at_call 59; refine (within_any _ _ _ _).mono ?_; rintro e w1 ⟨rfl, rfl⟩; rw [hd])
              go_roundw
              case rel => exact ⟨k + 1, by omega, by go_num, HT, nn, rfl⟩
              case measure => simp [intOf]; omega
            · have hd : decide (0 ≤ zs[k] ∧ zs[k] ≤ 65535) = false := by simpa using hx0
              have HE := hide (show false = planeOk W H zs by rw [HP.out, sampsOk_false zs k hlt hd])
              go_wp2_with (go_at_call 59; refine (within_any _ _ _ _).mono ?_; rintro e w1 ⟨rfl, rfl⟩; rw [hd])
              go_ret
              exact ⟨ret_bool HE.out, below_drewN HB.out _⟩
          · have HE := hide (show true = planeOk W H zs by rw [HP.out, ← HS.out, List.take_of_length_le (by omega)])
            go_wp2
            go_ret
            exact ⟨ret_bool HE.out, below_drewN HB.out _⟩
      · have HE := hide (show false = planeOk W H zs by rw [planeOk, h1, h2, hM]; simp [hl])
        have hlb : ((zs.length : Int) != M) = true := by simpa using hl
        clear hc
        go_enter Try.func24, Try.ntmps24
        go_wp2_with fail
        refine (within_any _ _ _ _).mono ?_
        rintro e w1 ⟨rfl, rfl⟩
        rw [HWI.out, h1]
        go_wp2_with fail
        refine (within_any _ _ _ _).mono ?_
        rintro e w1 ⟨rfl, rfl⟩
        rw [HWI.out, h2]
        go_wp2
        go_ret
        exact ⟨ret_bool HE.out, bel_alloc _ _⟩
    · have h2 : sideOk H = false := by simpa using h2
      have HE := hide (show false = planeOk W H zs by rw [planeOk, h1, h2]; rfl)
      clear hc
      go_enter Try.func24, Try.ntmps24
      go_wp2_with fail
      refine (within_any _ _ _ _).mono ?_
      rintro e w1 ⟨rfl, rfl⟩
      rw [HWI.out, h1]
      go_wp2_with fail
      refine (within_any _ _ _ _).mono ?_
      rintro e w1 ⟨rfl, rfl⟩
      rw [HWI.out, h2]
      go_wp2
      go_ret
      exact ⟨ret_bool HE.out, bel_alloc _ _⟩
  · have h1 : sideOk W = false := by simpa using h1
    have HE := hide (show false = planeOk W H zs by rw [planeOk, h1]; rfl)
    clear hc
    go_enter Try.func24, Try.ntmps24
    go_wp2_with fail
    refine (within_any _ _ _ _).mono ?_
    rintro e w1 ⟨rfl, rfl⟩
    rw [HWI.out, h1]
    go_wp2
    go_ret
    exact ⟨ret_bool HE.out, bel_alloc _ _⟩


end Go.Proofs.Ytolcndchfnifhab

/- Boxes in memory: what lies behind allocs and stores of three; samples by their numbers. -/
namespace Go.Proofs.Ytolcndchfnifhab
set_option linter.unusedVariables false
open Go.RowKit

theorem al1 (w : World) (a : Obj) : (w.alloc a).heap[w.heap.size]? = some a := heap_alloc_new w a
theorem al2 (w : World) (a b : Obj) : ((w.alloc a).alloc b).heap[w.heap.size]? = some a ∧ ((w.alloc a).alloc b).heap[w.heap.size + 1]? = some b := by
  refine ⟨(Below.heap_alloc _ _ _ (by simp only [World.size_alloc]; omega)).trans (al1 w a), ?_⟩
  have h := al1 (w.alloc a) b
  rw [World.size_alloc] at h; exact h
theorem al3 (w : World) (a b c : Obj) : (((w.alloc a).alloc b).alloc c).heap[w.heap.size]? = some a ∧ (((w.alloc a).alloc b).alloc c).heap[w.heap.size + 1]? = some b ∧ (((w.alloc a).alloc b).alloc c).heap[w.heap.size + 2]? = some c := by
  obtain ⟨h1, h2⟩ := al2 w a b
  refine ⟨(Below.heap_alloc _ _ _ (by simp only [World.size_alloc]; omega)).trans h1, (Below.heap_alloc _ _ _ (by simp only [World.size_alloc]; omega)).trans h2, ?_⟩
  have h := al1 ((w.alloc a).alloc b) c
  rw [World.size_alloc, World.size_alloc] at h; exact h
theorem al4 (w : World) (a b c d : Obj) : ((((w.alloc a).alloc b).alloc c).alloc d).heap[w.heap.size]? = some a ∧ ((((w.alloc a).alloc b).alloc c).alloc d).heap[w.heap.size + 1]? = some b ∧ ((((w.alloc a).alloc b).alloc c).alloc d).heap[w.heap.size + 2]? = some c ∧ ((((w.alloc a).alloc b).alloc c).alloc d).heap[w.heap.size + 3]? = some d := by
  obtain ⟨h1, h2, h3⟩ := al3 w a b c
  refine ⟨(Below.heap_alloc _ _ _ (by simp only [World.size_alloc]; omega)).trans h1, (Below.heap_alloc _ _ _ (by simp only [World.size_alloc]; omega)).trans h2, (Below.heap_alloc _ _ _ (by simp only [World.size_alloc]; omega)).trans h3, ?_⟩
  have h := al1 (((w.alloc a).alloc b).alloc c) d
  rw [World.size_alloc, World.size_alloc, World.size_alloc] at h; exact h
theorem be2 (w : World) (a b : Obj) : Below w.heap.size w ((w.alloc a).alloc b) := bel_trans (bel_alloc _ _) (bel_alloc _ _)
theorem be3 (w : World) (a b c : Obj) : Below w.heap.size w (((w.alloc a).alloc b).alloc c) := bel_trans (be2 _ _ _) (bel_alloc _ _)
theorem be4 (w : World) (a b c d : Obj) : Below w.heap.size w ((((w.alloc a).alloc b).alloc c).alloc d) := bel_trans (be3 _ _ _ _) (bel_alloc _ _)

theorem set3_size (w : World) (b : Nat) (x y z : Value) : w.heap.size ≤ (((w.setCell ⟨b, 0, none⟩ x).setCell ⟨b, 1, none⟩ y).setCell ⟨b, 2, none⟩ z).heap.size := by simp [World.setCell]
theorem set3_heap (w : World) (b : Nat) (x y z : Value) (k : Nat) (h : k ≠ b) : (((w.setCell ⟨b, 0, none⟩ x).setCell ⟨b, 1, none⟩ y).setCell ⟨b, 2, none⟩ z).heap[k]? = w.heap[k]? := by
  rw [Below.heap_setCell _ _ _ _ h, Below.heap_setCell _ _ _ _ h, Below.heap_setCell _ _ _ _ h]
theorem Fresh.ne {B k : Nat} {v : Value} (h : Fresh B v) (hk : k < B) : v.ownBlock ≠ some k := fun e => by have := h k e; omega

theorem IsInts.set3 {w : World} {v : Value} {xs : List Int} {B k : Nat} (h : IsInts w v xs) (hf : Fresh B v) (hk : k < B) (x y z : Value) : IsInts (((w.setCell ⟨k, 0, none⟩ x).setCell ⟨k, 1, none⟩ y).setCell ⟨k, 2, none⟩ z) v xs :=
  h.other (set3_size _ _ _ _ _) (fun b hb => set3_heap _ _ _ _ _ b hb) (hf.ne hk)

theorem set3_below {B b : Nat} {w U : World} (h : Below B w U) (hb : B ≤ b) (x y z : Value) : Below B w (((U.setCell ⟨b, 0, none⟩ x).setCell ⟨b, 1, none⟩ y).setCell ⟨b, 2, none⟩ z) :=
  ((h.setCell (p := ⟨b, 0, none⟩) hb _).setCell (p := ⟨b, 1, none⟩) hb _).setCell (p := ⟨b, 2, none⟩) hb _
theorem set3_cell {w : World} {b : Nat} (x y z : Value) {a : Addr} (h : a.block ≠ b) : (((w.setCell ⟨b, 0, none⟩ x).setCell ⟨b, 1, none⟩ y).setCell ⟨b, 2, none⟩ z).cell? a = w.cell? a := by
  refine World.cell?_of_block ?_
  rw [Below.heap_setCell _ _ _ _ h, Below.heap_setCell _ _ _ _ h, Below.heap_setCell _ _ _ _ h]

theorem cells3 {w : World} {b : Nat} {x y z : Value} {t : TypeId} {fr : Nat × Nat} (h : w.heap[b]? = some (.cells #[x, y, z] t fr)) :
    w.cell? ⟨b, 0, none⟩ = some x ∧ w.cell? ⟨b, 1, none⟩ = some y ∧ w.cell? ⟨b, 2, none⟩ = some z :=
  ⟨by rw [Lib.cell_of_heap h]; rfl, by rw [Lib.cell_of_heap h]; rfl, by rw [Lib.cell_of_heap h]; rfl⟩

def okW (e W : Int) : Int := if e = 0 then W else 0
def okL {α : Type} (e : Int) (l : List α) : List α := if e = 0 then l else []

def zAt (zs : List Int) (j : Nat) : Int := zs.getD j 0
theorem zAt_get (zs : List Int) (i : Nat) (h : i < zs.length) : zs[i] = zAt zs i := by simp [zAt, List.getD_eq_getElem?_getD, List.getElem?_eq_getElem h]
theorem zAt_ok {zs : List Int} (h : allIn 0 65535 zs = true) (j : Nat) : 0 ≤ zAt zs j ∧ zAt zs j ≤ 65535 := by
  by_cases hj : j < zs.length
  · rw [← zAt_get zs j hj]; simpa using List.all_eq_true.1 h _ (List.getElem_mem hj)
  · rw [zAt, List.getD_eq_getElem?_getD, List.getElem?_eq_none (by omega)]; decide

theorem planeOk_all {W H : Int} {zs : List Int} (h : planeOk W H zs = true) : allIn 0 65535 zs = true := by
  rw [planeOk_eq, Bool.and_eq_true] at h
  exact h.2

theorem IsInts.cells {w : World} {v : Value} {zs : List Int} (h : IsInts w v zs) (hn : 1 ≤ zs.length) : ∃ bk off ca, v = .slice (some ⟨bk, off, none⟩) zs.length ca ∧ bk < w.heap.size ∧ ∀ j, j < zs.length → w.cell? ⟨bk, off + j, none⟩ = some (.int .i64 (zAt zs j)) := by
  obtain ⟨ao, ca, rfl, _, h⟩ := h
  rcases h with h | ⟨b, off, rfl, hlt, hc⟩
  · subst h; simp at hn
  · exact ⟨b, off, ca, rfl, hlt, fun j hj => by rw [hc j hj, zAt_get zs j hj]⟩
theorem bx1 {w : World} {b : Nat} {x : Value} {t : TypeId} {fr : Nat × Nat} (h : w.heap[b]? = some (.cells #[x] t fr)) : w.cell? ⟨b, 0, none⟩ = some x := by rw [Lib.cell_of_heap h]; rfl
theorem bx2 {w : World} {b : Nat} {x y : Value} {t : TypeId} {fr : Nat × Nat} (h : w.heap[b]? = some (.cells #[x, y] t fr)) : w.cell? ⟨b, 0, none⟩ = some x ∧ w.cell? ⟨b, 1, none⟩ = some y := ⟨by rw [Lib.cell_of_heap h]; rfl, by rw [Lib.cell_of_heap h]; rfl⟩

end Go.Proofs.Ytolcndchfnifhab

