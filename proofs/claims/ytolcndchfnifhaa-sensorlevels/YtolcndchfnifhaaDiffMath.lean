/- Planes by differences: plain mathematics. -/
import Derived.Test.YtolcndchfnifhaaFrontMath
import Derived.Test.YtolcndchfnifhaaBackMath
namespace Go.Proofs.Ytolcndchfnifhaa
open Go.RowKit

def sideOk (n : Int) : Bool := decide (1 ≤ n ∧ n ≤ 64)
def sampOk (v : Int) : Bool := decide (0 ≤ v ∧ v ≤ 65535)
def sampsOk (zs : List Int) : Bool := zs.all sampOk
def planeOk (W H : Int) (zs : List Int) : Bool := sideOk W && sideOk H && decide ((zs.length : Int) = W * H) && sampsOk zs
def kindOk (k : Int) : Bool := decide (1 ≤ k ∧ k ≤ 7)
theorem sampsOk_get {zs : List Int} (h : sampsOk zs = true) (k : Nat) (hk : k < zs.length) : 0 ≤ zs[k] ∧ zs[k] ≤ 65535 := by
  have := List.all_eq_true.1 h _ (List.getElem_mem hk)
  simpa [sampOk] using this
theorem sampsOk_getD {zs : List Int} (h : sampsOk zs = true) (k : Nat) : 0 ≤ zs.getD k 0 ∧ zs.getD k 0 ≤ 65535 := by
  by_cases hk : k < zs.length
  · rw [show zs.getD k 0 = zs[k] by simp [List.getD, hk]]; exact sampsOk_get h k hk
  · rw [show zs.getD k 0 = 0 by simp [List.getD, hk]]; omega
theorem sampsOk_snoc (zs : List Int) (x : Int) : sampsOk (zs ++ [x]) = (sampsOk zs && sampOk x) := by simp [sampsOk]
theorem sampsOk_false (zs : List Int) (k : Nat) (hk : k < zs.length) (h : sampOk zs[k] = false) : sampsOk zs = false := by
  rw [Bool.eq_false_iff]; intro he
  have := List.all_eq_true.1 he _ (List.getElem_mem hk)
  rw [h] at this; cases this
theorem planeOk_parts {W H : Int} {zs : List Int} (h : planeOk W H zs = true) : (1 ≤ W ∧ W ≤ 64) ∧ (1 ≤ H ∧ H ≤ 64) ∧ (zs.length : Int) = W * H ∧ sampsOk zs = true := by
  simp only [planeOk, sideOk, Bool.and_eq_true, decide_eq_true_eq] at h
  exact ⟨h.1.1.1, h.1.1.2, h.1.2, h.2⟩
theorem side_mul {W H : Int} (h1 : 1 ≤ W ∧ W ≤ 64) (h2 : 1 ≤ H ∧ H ≤ 64) : 1 ≤ W * H ∧ W * H ≤ 4096 := by
  have a := Int.mul_le_mul h1.2 h2.2 (by omega) (by omega)
  have b := Int.mul_le_mul h1.1 h2.1 (by omega) (by omega)
  omega

def insideG (kind a b c : Int) : Int :=
  if kind = 1 then a else if kind = 2 then b else if kind = 3 then c else if kind = 4 then a + b - c else if kind = 5 then a + (b - c) / 2 else if kind = 6 then b + (a - c) / 2 else (a + b) / 2
/-- the guess at the k-th place of W columns. -/
def gAt (zs : List Int) (W : Nat) (kind : Int) (k : Nat) : Int :=
  if k % W = 0 ∧ k / W = 0 then 32768 else if k / W = 0 then zs.getD (k - 1) 0 else if k % W = 0 then zs.getD (k - W) 0 else insideG kind (zs.getD (k - 1) 0) (zs.getD (k - W) 0) (zs.getD (k - W - 1) 0)
theorem insideG_range (kind a b c : Int) (ha : 0 ≤ a ∧ a ≤ 65535) (hb : 0 ≤ b ∧ b ≤ 65535) (hc : 0 ≤ c ∧ c ≤ 65535) : -65536 ≤ insideG kind a b c ∧ insideG kind a b c ≤ 131070 := by
  unfold insideG
  repeat' split
  all_goals omega
theorem gAt_range (zs : List Int) (W : Nat) (kind : Int) (k : Nat) (h : sampsOk zs = true) : -65536 ≤ gAt zs W kind k ∧ gAt zs W kind k ≤ 131070 := by
  have a := sampsOk_getD h (k - 1)
  have b := sampsOk_getD h (k - W)
  have c := sampsOk_getD h (k - W - 1)
  have d := insideG_range kind _ _ _ a b c
  unfold gAt
  repeat' split
  all_goals omega
theorem gAt_pre {zs ys : List Int} {W : Nat} {kind : Int} {k : Nat} (hW : 1 ≤ W) (h : ∀ j, j < k → zs.getD j 0 = ys.getD j 0) : gAt zs W kind k = gAt ys W kind k := by
  unfold gAt
  by_cases hk : k = 0
  · subst hk; simp
  · rw [h (k - 1) (by omega), h (k - W) (by omega), h (k - W - 1) (by omega)]

def dif (s g : Int) : Int := if 32768 < (s - g) % 65536 then (s - g) % 65536 - 65536 else (s - g) % 65536
theorem dif_range (s g : Int) : -32768 < dif s g ∧ dif s g ≤ 32768 := by unfold dif; split <;> omega
theorem dif_back (s g : Int) (h0 : 0 ≤ s) (h1 : s ≤ 65535) : (g + dif s g) % 65536 = s := by unfold dif; split <;> omega
theorem dif_of (d g : Int) (h0 : -32768 < d) (h1 : d ≤ 32768) : dif ((g + d) % 65536) g = d := by unfold dif; split <;> omega

/-- how many bits a number has. -/
def blen (n : Nat) : Nat := if n = 0 then 0 else n.log2 + 1
theorem blen_lt (n : Nat) : n < 2 ^ blen n := by
  unfold blen
  split
  · subst_vars; decide
  · exact Nat.lt_log2_self
theorem blen_ge (n : Nat) (h : n ≠ 0) : 2 ^ (blen n - 1) ≤ n := by
  unfold blen
  rw [if_neg h, Nat.add_sub_cancel]
  exact Nat.log2_self_le h
theorem blen_le {n k : Nat} (h : n < 2 ^ k) : blen n ≤ k := by
  unfold blen
  split
  · omega
  · rename_i h0
    exact (Nat.log2_lt h0).2 h
theorem blen_gt {n k : Nat} (h : 2 ^ k ≤ n) : k < blen n := by
  refine Decidable.byContradiction fun hn => ?_
  have h1 := blen_lt n
  have h2 := Nat.pow_le_pow_right (n := 2) (by decide) (show blen n ≤ k by omega)
  omega
theorem blen_eq {n k : Nat} (h1 : 2 ^ k ≤ n) (h2 : n < 2 ^ (k + 1)) : blen n = k + 1 := by
  have := blen_gt h1
  have := blen_le h2
  omega
def cls (d : Int) : Nat := blen d.natAbs
theorem cls_le {d : Int} (h0 : -32768 < d) (h1 : d ≤ 32768) : cls d ≤ 16 := blen_le (by omega)
theorem cls_top {d : Int} (h0 : -32768 < d) (h1 : d ≤ 32768) (h : cls d = 16) : d = 32768 := by
  have h2 : d.natAbs ≠ 0 := fun e => by rw [cls, e] at h; simp [blen] at h
  have := blen_ge d.natAbs h2
  rw [show blen d.natAbs = 16 from h] at this
  omega
theorem cls_nil {d : Int} (h : cls d = 0) : d = 0 := by
  have := blen_lt d.natAbs
  rw [show blen d.natAbs = 0 from h] at this
  omega
theorem cls_half : cls 32768 = 16 := by decide
def tailN (d : Int) : Nat := (if d < 0 then d + 2 ^ cls d - 1 else d).toNat
def tailB (d : Int) : List UInt8 := if cls d = 0 ∨ cls d = 16 then [] else numBits (tailN d) (cls d)
def wrD (ts : List (List UInt8)) (d : Int) : List UInt8 := wordS ts (cls d) ++ tailB d
def tailV (c v : Nat) : Int := if v < 2 ^ c / 2 then (v : Int) - (2 ^ c - 1) else v
theorem cls_bounds (d : Int) (h : cls d ≠ 0) : ∃ c, cls d = c + 1 ∧ 2 ^ c ≤ d.natAbs ∧ d.natAbs < 2 * 2 ^ c ∧ (2 : Int) ^ cls d = ((2 * 2 ^ c : Nat) : Int) := by
  have h0 : d.natAbs ≠ 0 := fun e => h (by rw [cls, e]; rfl)
  have h1 := blen_ge _ h0
  have h2 := blen_lt d.natAbs
  obtain ⟨c, hc⟩ : ∃ c, blen d.natAbs = c + 1 := ⟨blen d.natAbs - 1, by unfold cls at h; omega⟩
  rw [hc, Nat.add_sub_cancel] at h1
  rw [hc, Nat.pow_succ] at h2
  refine ⟨c, hc, h1, by omega, ?_⟩
  rw [show cls d = c + 1 from hc, pow_cast, Nat.pow_succ, Nat.mul_comm]
theorem tailV_succ (c v : Nat) : tailV (c + 1) v = if v < 2 ^ c then (v : Int) - (2 * ((2 ^ c : Nat) : Int) - 1) else v := by
  have h1 : (2 : Nat) ^ (c + 1) / 2 = 2 ^ c := by rw [Nat.pow_succ]; omega
  have h2 : (2 : Int) ^ (c + 1) = 2 * ((2 ^ c : Nat) : Int) := by rw [pow_cast, Nat.pow_succ, Nat.mul_comm, Int.natCast_mul]; rfl
  unfold tailV
  rw [h1, h2]
theorem tailN_of (d : Int) (c : Nat) (h : cls d = c + 1) : tailN d = (if d < 0 then d + 2 * ((2 ^ c : Nat) : Int) - 1 else d).toNat := by
  have h2 : (2 : Int) ^ (c + 1) = 2 * ((2 ^ c : Nat) : Int) := by rw [pow_cast, Nat.pow_succ, Nat.mul_comm, Int.natCast_mul]; rfl
  rw [tailN, h, h2]
theorem tailN_lt (d : Int) (h : cls d ≠ 0) : tailN d < 2 ^ cls d ∧ ((tailN d : Nat) : Int) = if d < 0 then d + 2 ^ cls d - 1 else d := by
  obtain ⟨c, hc, h1, h2, h3⟩ := cls_bounds d h
  have h4 : (2 : Nat) ^ cls d = 2 * 2 ^ c := by rw [hc, Nat.pow_succ]; omega
  rw [tailN_of d c hc, h3, h4]
  generalize (2 : Nat) ^ c = p at *
  split <;> omega
theorem tailV_tailN (d : Int) (h : cls d ≠ 0) : tailV (cls d) (tailN d) = d := by
  obtain ⟨c, hc, h1, h2, h3⟩ := cls_bounds d h
  have h5 := tailN_of d c hc
  rw [hc, tailV_succ]
  generalize tailN d = t at *
  generalize (2 : Nat) ^ c = p at *
  split <;> split at h5 <;> omega
theorem tailV_cls (c v : Nat) (hc : c ≤ 15) (hv : v < 2 ^ c) : cls (tailV c v) = c ∧ -32768 < tailV c v ∧ tailV c v ≤ 32768 ∧ (c ≠ 0 → tailN (tailV c v) = v) := by
  have hp : 2 ^ c ≤ 32768 := Nat.le_trans (Nat.pow_le_pow_right (by decide) hc) (by decide)
  cases c with
  | zero =>
    have : v = 0 := by simpa using hv
    subst this
    exact ⟨by decide, by decide, by decide, fun h => absurd rfl h⟩
  | succ c =>
    have hcl : cls (tailV (c + 1) v) = c + 1 := by
      refine blen_eq ?_ ?_
      all_goals
        rw [tailV_succ]
        rw [Nat.pow_succ] at *
        generalize (2 : Nat) ^ c = p at *
        split <;> omega
    rw [tailN_of _ c hcl, hcl, tailV_succ]
    rw [Nat.pow_succ] at *
    clear hcl
    generalize (2 : Nat) ^ c = p at *
    refine ⟨rfl, ?_, ?_, fun _ => ?_⟩
    · split <;> omega
    · split <;> omega
    · repeat' split
      all_goals omega
theorem tailB_length {d : Int} (h0 : -32768 < d) (h1 : d ≤ 32768) : (tailB d).length ≤ 15 := by
  have := cls_le h0 h1
  unfold tailB
  split
  · simp
  · rw [numBits_length]; omega
theorem tailB_bits (d : Int) : allB (tailB d) = true := by
  unfold tailB
  split
  · rfl
  · exact numBits_allB _ _

theorem nextF_len (f : List UInt8 → Option (Int × Bool)) (pre b : List UInt8) (h : (nextF f pre b).2.1 = 0) : 1 ≤ (nextF f pre b).2.2 := by
  cases b with
  | nil => simp [nextF] at h
  | cons c b =>
    rw [nextF] at h ⊢
    split
    · exact Nat.le_refl _
    · exact Nat.le_refl _
    · simp

/-- the next difference, and how many bits it takes. -/
def nxD (f : List UInt8 → Option (Int × Bool)) (b : List UInt8) : Option (Int × Nat) :=
  if (nextF f [] b).2.1 = 0 then
    (if (nextF f [] b).1 = 16 then some (32768, (nextF f [] b).2.2)
     else if b.length < (nextF f [] b).2.2 + (nextF f [] b).1.toNat then none
     else some (tailV (nextF f [] b).1.toNat (valOf ((b.drop (nextF f [] b).2.2).take (nextF f [] b).1.toNat)), (nextF f [] b).2.2 + (nextF f [] b).1.toNat))
  else none

theorem wordS_nat (ts : List (List UInt8)) (c : Nat) (h : wordS ts c ≠ []) : c < ts.length ∧ wordS ts c = ts.getD c [] := by
  unfold wordS at h ⊢
  split at h
  · rename_i hc
    exact ⟨by omega, by rw [if_pos hc]; simp⟩
  · exact absurd rfl h

theorem nxD_wr (ts : List (List UInt8)) (hpf : PF ts) (d : Int) (h0 : -32768 < d) (h1 : d ≤ 32768) (hw : wordS ts (cls d) ≠ []) (rest : List UInt8) :
    nxD (bookF ts ts.length) (wrD ts d ++ rest) = some (d, (wrD ts d).length) := by
  obtain ⟨hc, he⟩ := wordS_nat ts _ hw
  have hw2 : ts.getD (cls d) [] ≠ [] := by rw [← he]; exact hw
  have hl : 0 < (ts.getD (cls d) []).length := List.length_pos_iff.2 hw2
  have hn := next_found ts hpf (cls d) hc hw2 (wrD ts d ++ rest) [] (by rw [List.nil_append, wrD, he, List.append_assoc]; exact List.prefix_append _ _) (by simpa using hl)
  rw [nxD, hn]
  simp only [List.length_nil, Nat.sub_zero, Int.toNat_natCast, if_true]
  have hcl := cls_le h0 h1
  by_cases h16 : cls d = 16
  · rw [if_pos (by omega), cls_top h0 h1 h16]
    rw [wrD, cls_half, show tailB 32768 = [] by rw [tailB, if_pos (.inr cls_half)], List.append_nil, ← h16, he]
  · rw [if_neg (by omega)]
    have htl : (tailB d).length = cls d := by
      unfold tailB
      split
      · rename_i h; simp; omega
      · rw [numBits_length]
    have hwl : (wrD ts d).length = (ts.getD (cls d) []).length + cls d := by rw [wrD, List.length_append, he, htl]
    rw [if_neg (by rw [List.length_append, hwl]; omega)]
    have hdrop : ((wrD ts d ++ rest).drop (ts.getD (cls d) []).length).take (cls d) = tailB d := by
      rw [wrD, he, List.append_assoc, List.drop_left, ← htl, List.take_left]
    rw [hdrop, hwl]
    by_cases hz : cls d = 0
    · have hd := cls_nil hz
      subst hd
      rfl
    · rw [tailB, if_neg (by omega), valOf_numBits _ _ (tailN_lt d hz).1, tailV_tailN d hz]

theorem nxD_some (ts : List (List UInt8)) (hts : ts.length ≤ 17) (b : List UInt8) (hb : allB b = true)
    (hnx : (nextF (bookF ts ts.length) [] b).2.1 = 0 → ∃ i : Nat, i < ts.length ∧ (nextF (bookF ts ts.length) [] b).1 = i ∧ (nextF (bookF ts ts.length) [] b).2.2 = (ts.getD i []).length ∧ ts.getD i [] <+: b)
    (d : Int) (n : Nat) (h : nxD (bookF ts ts.length) b = some (d, n)) :
    n ≤ b.length ∧ b.take n = wrD ts d ∧ -32768 < d ∧ d ≤ 32768 ∧ wordS ts (cls d) ≠ [] := by
  rw [nxD] at h
  split at h
  · rename_i he
    have hl1 := nextF_len _ _ _ he
    obtain ⟨i, hi, h1, h2, hp⟩ := hnx he
    rw [h1, h2] at h
    rw [h2] at hl1
    have hw2 : ts.getD i [] ≠ [] := fun e => by rw [e] at hl1; simp at hl1
    have hws : wordS ts (i : Int) = ts.getD i [] := by rw [wordS, if_pos (by omega)]; simp
    have hpl := hp.length_le
    have htk : b.take (ts.getD i []).length = ts.getD i [] := (List.prefix_iff_eq_take.1 hp).symm
    split at h
    · rename_i h16
      simp only [Option.some.injEq, Prod.mk.injEq] at h
      obtain ⟨rfl, rfl⟩ := h
      have hi16 : i = 16 := by omega
      subst hi16
      refine ⟨hpl, ?_, by decide, by decide, ?_⟩
      · rw [htk, wrD, cls_half, show tailB 32768 = [] by rw [tailB, if_pos (.inr cls_half)], List.append_nil]; exact hws.symm
      · rw [cls_half]; show wordS ts ((16 : Nat) : Int) ≠ []; rw [hws]; exact hw2
    · rename_i h16
      split at h
      · cases h
      · rename_i hlen
        simp only [Option.some.injEq, Prod.mk.injEq, Int.toNat_natCast] at h hlen
        obtain ⟨rfl, rfl⟩ := h
        have hcl : ((b.drop (ts.getD i []).length).take i).length = i := by rw [List.length_take, List.length_drop]; omega
        have hab : allB ((b.drop (ts.getD i []).length).take i) = true := allB_take (allB_drop hb _) _
        have hv := valOf_lt _ hab
        rw [hcl] at hv
        obtain ⟨k1, k2, k3, k4⟩ := tailV_cls i _ (by omega) hv
        refine ⟨by omega, ?_, k2, k3, by rw [k1, hws]; exact hw2⟩
        rw [wrD, k1, hws, List.take_add, htk]
        congr 1
        rw [tailB, k1]
        by_cases hz : i = 0
        · subst hz; simp
        · rw [if_neg (by omega), k4 hz]
          have := numBits_valOf _ hab
          rw [hcl] at this
          exact this.symm
  · cases h

/-- the differences of a plane. -/
def dAt (zs : List Int) (W : Nat) (kind : Int) (i : Nat) : Int := dif (zs.getD i 0) (gAt zs W kind i)
def dBits (ts : List (List UInt8)) (zs : List Int) (W : Nat) (kind : Int) (n : Nat) : List UInt8 := (List.range n).flatMap fun i => wrD ts (dAt zs W kind i)
def dAll (ts : List (List UInt8)) (zs : List Int) (W : Nat) (kind : Int) (n : Nat) : Bool := (List.range n).all fun i => decide (wordS ts (cls (dAt zs W kind i)) ≠ [])
theorem dBits_succ (ts : List (List UInt8)) (zs : List Int) (W : Nat) (kind : Int) (n : Nat) : dBits ts zs W kind (n + 1) = dBits ts zs W kind n ++ wrD ts (dAt zs W kind n) := by simp [dBits, List.range_succ]
theorem dAll_succ (ts : List (List UInt8)) (zs : List Int) (W : Nat) (kind : Int) (n : Nat) : dAll ts zs W kind (n + 1) = (dAll ts zs W kind n && decide (wordS ts (cls (dAt zs W kind n)) ≠ [])) := by simp [dAll, List.range_succ]
theorem dAll_false (ts : List (List UInt8)) (zs : List Int) (W : Nat) (kind : Int) (n k : Nat) (hk : k < n) (h : wordS ts (cls (dAt zs W kind k)) = []) : dAll ts zs W kind n = false := by
  rw [Bool.eq_false_iff]; intro he
  have := List.all_eq_true.1 he k (List.mem_range.2 hk)
  simp [h] at this
theorem dAll_get {ts : List (List UInt8)} {zs : List Int} {W : Nat} {kind : Int} {n : Nat} (h : dAll ts zs W kind n = true) (k : Nat) (hk : k < n) : wordS ts (cls (dAt zs W kind k)) ≠ [] := by
  have := List.all_eq_true.1 h k (List.mem_range.2 hk)
  simpa using this
theorem wrD_length (xs : List Int) (hok : lensOk xs = true) (d : Int) (h0 : -32768 < d) (h1 : d ≤ 32768) : (wrD (wordsOf xs) d).length ≤ 30 := by
  have := wordS_length xs hok (cls d)
  have := tailB_length h0 h1
  rw [wrD, List.length_append]; omega
theorem dBits_length (xs : List Int) (hok : lensOk xs = true) (zs : List Int) (W : Nat) (kind : Int) (n : Nat) : (dBits (wordsOf xs) zs W kind n).length ≤ 30 * n := by
  induction n with
  | zero => simp [dBits]
  | succ n ih =>
    have := dif_range (zs.getD n 0) (gAt zs W kind n)
    have := wrD_length xs hok (dAt zs W kind n) this.1 this.2
    rw [dBits_succ, List.length_append]; omega

/-- what the first k samples are, and how many bits they take. -/
def rdD (f : List UInt8 → Option (Int × Bool)) (b : List UInt8) (W : Nat) (kind : Int) : Nat → Option (Nat × List Int)
  | 0 => some (0, [])
  | k + 1 => match rdD f b W kind k with
    | none => none
    | some (pos, zs) => match nxD f (b.drop pos) with
      | none => none
      | some (d, n) => some (pos + n, zs ++ [(gAt zs W kind k + d) % 65536])
theorem rdD_none {f : List UInt8 → Option (Int × Bool)} {b : List UInt8} {W : Nat} {kind : Int} {k n : Nat} (hk : k ≤ n) (h : rdD f b W kind k = none) : rdD f b W kind n = none := by
  induction n with
  | zero => obtain rfl : k = 0 := by omega
            exact h
  | succ n ih =>
    by_cases e : k = n + 1
    · subst e; exact h
    · rw [rdD, ih (by omega)]
theorem rdD_len {f : List UInt8 → Option (Int × Bool)} {b : List UInt8} {W : Nat} {kind : Int} {k pos : Nat} {zs : List Int} (h : rdD f b W kind k = some (pos, zs)) : zs.length = k ∧ sampsOk zs = true := by
  induction k generalizing pos zs with
  | zero => rw [rdD] at h; cases h; exact ⟨rfl, rfl⟩
  | succ k ih =>
    rw [rdD] at h
    split at h
    · cases h
    · rename_i p ys hy
      split at h
      · cases h
      · cases h
        obtain ⟨h1, h2⟩ := ih hy
        refine ⟨by simp [h1], ?_⟩
        rw [sampsOk_snoc, h2, sampOk]
        simp; omega
theorem getD_snoc (zs : List Int) (x : Int) (j : Nat) (h : j < zs.length) : (zs ++ [x]).getD j 0 = zs.getD j 0 := by
  simp [List.getD, List.getElem?_append_left h]

theorem rdD_back (ts : List (List UInt8)) (hts : ts.length ≤ 17) (b : List UInt8) (hb : allB b = true) (W : Nat) (hW : 1 ≤ W) (kind : Int)
    (hnx : ∀ b, (nextF (bookF ts ts.length) [] b).2.1 = 0 → ∃ i : Nat, i < ts.length ∧ (nextF (bookF ts ts.length) [] b).1 = i ∧ (nextF (bookF ts ts.length) [] b).2.2 = (ts.getD i []).length ∧ ts.getD i [] <+: b)
    (k pos : Nat) (zs : List Int) (h : rdD (bookF ts ts.length) b W kind k = some (pos, zs)) :
    pos ≤ b.length ∧ b.take pos = dBits ts zs W kind k ∧ dAll ts zs W kind k = true := by
  induction k generalizing pos zs with
  | zero => rw [rdD] at h; cases h; simp [dBits, dAll]
  | succ k ih =>
    rw [rdD] at h
    split at h
    · cases h
    · rename_i p ys hy
      split at h
      · cases h
      · rename_i d n hd
        cases h
        obtain ⟨h1, h2, h3⟩ := ih p ys hy
        obtain ⟨hl, _⟩ := rdD_len hy
        obtain ⟨e1, e2, e3, e4, e5⟩ := nxD_some ts hts _ (allB_drop hb p) (hnx _) d n hd
        rw [List.length_drop] at e1
        have hpre : ∀ j, j < k → (ys ++ [(gAt ys W kind k + d) % 65536]).getD j 0 = ys.getD j 0 := fun j hj => getD_snoc _ _ _ (by omega)
        have hg : ∀ i, i ≤ k → gAt (ys ++ [(gAt ys W kind k + d) % 65536]) W kind i = gAt ys W kind i := fun i hi => gAt_pre hW fun j hj => hpre j (by omega)
        have hdd : ∀ i, i < k → dAt (ys ++ [(gAt ys W kind k + d) % 65536]) W kind i = dAt ys W kind i := fun i hi => by rw [dAt, dAt, hpre i hi, hg i (by omega)]
        have hdk : dAt (ys ++ [(gAt ys W kind k + d) % 65536]) W kind k = d := by
          rw [dAt, hg k (Nat.le_refl _), show (ys ++ [(gAt ys W kind k + d) % 65536]).getD k 0 = (gAt ys W kind k + d) % 65536 by simp [List.getD, ← hl], dif_of d _ e3 e4]
        have hB : dBits ts (ys ++ [(gAt ys W kind k + d) % 65536]) W kind k = dBits ts ys W kind k := by
          unfold dBits
          rw [List.flatMap_def, List.flatMap_def]
          congr 1
          refine List.map_congr_left fun i hi => ?_
          rw [hdd i (List.mem_range.1 hi)]
        have hA : dAll ts (ys ++ [(gAt ys W kind k + d) % 65536]) W kind k = true := by
          unfold dAll
          rw [List.all_eq_true]
          intro i hi
          rw [hdd i (List.mem_range.1 hi)]
          exact List.all_eq_true.1 h3 i hi
        refine ⟨by omega, ?_, ?_⟩
        · rw [dBits_succ, hB, hdk, List.take_add, h2, e2]
        · rw [dAll_succ, hA, hdk]; simpa using e5

theorem rdD_of (ts : List (List UInt8)) (hpf : PF ts) (zs : List Int) (hz : sampsOk zs = true) (W : Nat) (hW : 1 ≤ W) (kind : Int) (hall : dAll ts zs W kind zs.length = true) (rest : List UInt8) (k : Nat) (hk : k ≤ zs.length) :
    rdD (bookF ts ts.length) (dBits ts zs W kind zs.length ++ rest) W kind k = some ((dBits ts zs W kind k).length, zs.take k) := by
  have hsplit : ∀ k, k ≤ zs.length → ∃ r, dBits ts zs W kind zs.length = dBits ts zs W kind k ++ r := by
    intro k hk
    obtain ⟨m, hm⟩ : ∃ m, zs.length = k + m := ⟨zs.length - k, by omega⟩
    rw [hm]
    clear hm hk
    induction m with
    | zero => exact ⟨[], by simp⟩
    | succ m ih => obtain ⟨r, hr⟩ := ih; exact ⟨r ++ wrD ts (dAt zs W kind (k + m)), by rw [show k + (m + 1) = (k + m) + 1 by omega, dBits_succ, hr, List.append_assoc]⟩
  induction k with
  | zero => simp [rdD, dBits]
  | succ k ih =>
    rw [rdD, ih (by omega)]
    obtain ⟨r, hr⟩ := hsplit (k + 1) hk
    have hrange := dif_range (zs.getD k 0) (gAt zs W kind k)
    have hdrop : (dBits ts zs W kind zs.length ++ rest).drop (dBits ts zs W kind k).length = wrD ts (dAt zs W kind k) ++ (r ++ rest) := by
      rw [hr, dBits_succ, List.append_assoc, List.append_assoc, List.drop_left]
    simp only [hdrop]
    rw [nxD_wr ts hpf (dAt zs W kind k) hrange.1 hrange.2 (dAll_get hall k (by omega))]
    have hg : gAt (zs.take k) W kind k = gAt zs W kind k := gAt_pre hW fun j hj => by simp [List.getD, List.getElem?_take_of_lt hj]
    have hs := sampsOk_getD hz k
    simp only [Option.some.injEq, Prod.mk.injEq]
    refine ⟨by rw [dBits_succ, List.length_append], ?_⟩
    rw [hg, dAt, dif_back _ _ hs.1 hs.2, List.take_succ_eq_append_getElem (by omega)]
    simp [List.getD, show k < zs.length by omega]

/-- the bits behind the last sample. -/
def fillOk (l : List UInt8) : Bool := decide (l.length < 8) && !hasOne l
theorem fill_iff (s : List UInt8) (pos : Nat) (hp : pos ≤ 8 * s.length) : bytesOf ((rowOf s).take pos) = s ↔ fillOk ((rowOf s).drop pos) = true := by
  have hdl : ((rowOf s).drop pos).length = 8 * s.length - pos := by rw [List.length_drop, rowOf_length]
  rw [fillOk, Bool.and_eq_true, decide_eq_true_eq, hdl, Bool.not_eq_true']
  constructor
  · intro h
    have hl := congrArg List.length h
    rw [bytesOf_length, List.length_take, rowOf_length, Nat.min_eq_left hp] at hl
    refine ⟨by omega, ?_⟩
    have := (packed_iff s pos 1 (by omega)).1 (by rw [Nat.mul_one]; exact h)
    rwa [Nat.mul_one] at this
  · rintro ⟨h1, h2⟩
    have := (packed_iff s pos 1 (by omega)).2 (by rw [Nat.mul_one]; exact h2)
    rwa [Nat.mul_one] at this

/-- what Write answers. -/
def writeDE (W H : Int) (zs : List Int) (kind : Int) (xs : List Int) : Int :=
  if planeOk W H zs = true then (if kindOk kind = true then (if checkE xs = 0 then (if dAll (wordsOf xs) zs W.toNat kind zs.length = true then 0 else 4) else checkE xs) else 6) else 1
def writeDS (W H : Int) (zs : List Int) (kind : Int) (xs : List Int) : List UInt8 := if writeDE W H zs kind xs = 0 then bytesOf (dBits (wordsOf xs) zs W.toNat kind zs.length) else []
end Go.Proofs.Ytolcndchfnifhaa
