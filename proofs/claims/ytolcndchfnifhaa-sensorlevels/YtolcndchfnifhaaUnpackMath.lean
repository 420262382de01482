/- Bits as samples: plain mathematics. -/
import Derived.Test.YtolcndchfnifhaaPackMath
namespace Go.Proofs.Ytolcndchfnifhaa
open Go.RowKit

def bitCh (l : List UInt8) (k : Nat) : UInt8 := UInt8.ofNat (48 + bitAt l k)

theorem numBits_partVal (l : List UInt8) (i j : Nat) : numBits (partVal l i j) j = (List.range j).map fun r => bitCh l (i + r) := by
  induction j with
  | zero => rfl
  | succ j ih =>
    have hb := bitAt_le l (i + j)
    rw [partVal, numBits, show (2 * partVal l i j + bitAt l (i + j)) / 2 = partVal l i j by omega, show (2 * partVal l i j + bitAt l (i + j)) % 2 = bitAt l (i + j) by omega, ih, List.range_succ, List.map_append]
    rfl

theorem bytesTo_row (l : List UInt8) (n : Nat) : rowOf ((List.range n).map fun q => UInt8.ofNat (partVal l (8 * q) 8)) = (List.range (8 * n)).map (bitCh l) := by
  induction n with
  | zero => rfl
  | succ n ih =>
    rw [List.range_succ, List.map_append, List.map_singleton, rowOf_snoc, ih]
    have h : (UInt8.ofNat (partVal l (8 * n) 8)).toNat = partVal l (8 * n) 8 := by
      have := partVal_lt l (8 * n) 8
      rw [UInt8.toNat_ofNat']; omega
    rw [h, numBits_partVal, show 8 * (n + 1) = 8 * n + 8 by omega, List.range_add, List.map_append, List.map_map]
    rfl

theorem bitCh_of (l : List UInt8) (hb : allB l = true) (k : Nat) (h : k < l.length) : bitCh l k = l[k] := by
  have h1 := allB_get hb k h
  rw [bitCh, bitAt_of l k h hb, show 48 + (l[k].toNat - 48) = l[k].toNat by omega]
  simp

/-- the bits of the bytes of bits: these, and 0 behind them. -/
theorem row_bytes (l : List UInt8) (hb : allB l = true) : rowOf (bytesOf l) = l ++ List.replicate (8 * ((l.length + 7) / 8) - l.length) 48 := by
  rw [bytesOf, bytesTo_row]
  apply List.ext_getElem?
  intro j
  by_cases h1 : j < l.length
  · rw [List.getElem?_append_left h1, List.getElem?_map, List.getElem?_range (by omega), List.getElem?_eq_getElem h1]
    simp [bitCh_of l hb j h1]
  · rw [List.getElem?_append_right (by omega), List.getElem?_map]
    by_cases h2 : j < 8 * ((l.length + 7) / 8)
    · rw [List.getElem?_range h2, List.getElem?_replicate, if_pos (by omega)]
      simp [bitCh, bitAt_past l j (by omega)]
    · rw [List.getElem?_replicate, if_neg (by omega), List.getElem?_eq_none (by simp; omega)]
      rfl

theorem row_get (l : List UInt8) (q r : Nat) (hq : q < l.length) (hr : r < 8) : (rowOf l)[8 * q + r]? = some (UInt8.ofNat (48 + l[q].toNat / 2 ^ (7 - r) % 2)) := by
  induction l generalizing q with
  | nil => simp at hq
  | cons c l ih =>
    rw [rowOf_cons]
    cases q with
    | zero =>
      rw [List.getElem?_append_left (by rw [numBits_length]; omega)]
      have := numBits_get c.toNat 8 r hr
      simpa [show 8 - 1 - r = 7 - r by omega] using this
    | succ q =>
      rw [List.getElem?_append_right (by rw [numBits_length]; omega), numBits_length, show 8 * (q + 1) + r - 8 = 8 * q + r by omega, ih q (by simpa using hq)]
      rfl

theorem bitAt_row (l : List UInt8) (q r : Nat) (hq : q < l.length) (hr : r < 8) : bitAt (rowOf l) (8 * q + r) = l[q].toNat / 2 ^ (7 - r) % 2 := by
  unfold bitAt
  rw [row_get l q r hq hr]
  have h2 : l[q].toNat / 2 ^ (7 - r) % 2 < 2 := Nat.mod_lt _ (by decide)
  generalize l[q].toNat / 2 ^ (7 - r) % 2 = z at *
  rcases (show z = 0 ∨ z = 1 by omega) with rfl | rfl <;> decide

theorem partVal_row (l : List UInt8) (q : Nat) (hq : q < l.length) (j : Nat) (hj : j ≤ 8) : partVal (rowOf l) (8 * q) j = l[q].toNat / 2 ^ (8 - j) := by
  induction j with
  | zero =>
    have : l[q].toNat < 256 := l[q].toNat_lt
    rw [partVal, Nat.div_eq_of_lt (by simpa using this)]
  | succ j ih =>
    rw [partVal, ih (by omega), bitAt_row l q j hq (by omega), show 8 - j = (7 - j) + 1 by omega, Nat.pow_succ, ← Nat.div_div_eq_div_mul, show 8 - (j + 1) = 7 - j by omega]
    omega

theorem bytes_row (l : List UInt8) : bytesOf (rowOf l) = l := by
  rw [bytesOf, rowOf_length, show (8 * l.length + 7) / 8 = l.length by omega]
  apply List.ext_getElem?
  intro j
  by_cases h : j < l.length
  · rw [List.getElem?_map, List.getElem?_range h, List.getElem?_eq_getElem h]
    simp [partVal_row l j h 8 (by omega)]
  · rw [List.getElem?_eq_none (by simp; omega), List.getElem?_eq_none (by omega)]

/-- bits that are a number's. -/
theorem numBits_valOf (l : List UInt8) (hb : allB l = true) : numBits (valOf l) l.length = l := by
  refine snoc_ind (P := fun l => allB l = true → numBits (valOf l) l.length = l) ?_ ?_ l hb
  · intro _; rfl
  · intro l c ih h
    rw [allB_snoc, Bool.and_eq_true] at h
    have hc : c.toNat = 48 ∨ c.toNat = 49 := by simpa [isBit] using h.2
    rw [List.length_append, List.length_singleton, numBits, valOf_snoc, show (2 * valOf l + (c.toNat - 48)) / 2 = valOf l by omega, ih h.1,
      show 48 + (2 * valOf l + (c.toNat - 48)) % 2 = c.toNat by omega]
    simp

/-- the first n samples of so many bits each. -/
def vals (b : List UInt8) (D n : Nat) : List Int := (List.range n).map fun i => (valOf ((b.drop (i * D)).take D) : Int)
theorem vals_length (b : List UInt8) (D n : Nat) : (vals b D n).length = n := by simp [vals]
theorem vals_succ (b : List UInt8) (D n : Nat) : vals b D (n + 1) = vals b D n ++ [(valOf ((b.drop (n * D)).take D) : Int)] := by simp [vals, List.range_succ]

theorem chunk_length (b : List UInt8) (D n i : Nat) (h : n * D ≤ b.length) (hi : i < n) : ((b.drop (i * D)).take D).length = D := by
  rw [List.length_take, List.length_drop]
  have : (i + 1) * D ≤ n * D := Nat.mul_le_mul_right _ hi
  rw [Nat.succ_mul] at this
  omega

theorem pack_vals (b : List UInt8) (D n : Nat) (hb : allB b = true) (h : n * D ≤ b.length) : packBits (vals b D n) D = b.take (n * D) := by
  induction n with
  | zero => simp [vals, packBits]
  | succ n ih =>
    have h' : n * D ≤ b.length := by rw [Nat.succ_mul] at h; omega
    rw [vals_succ, packBits_snoc, ih h', Int.toNat_natCast, Int.toNat_natCast]
    have hl := chunk_length b D (n + 1) n h (by omega)
    have := numBits_valOf ((b.drop (n * D)).take D) (allB_take (allB_drop hb _) _)
    rw [hl] at this
    rw [this, Nat.succ_mul, List.take_add]

theorem vals_ok (b : List UInt8) (D n : Nat) (hD : D ≤ 16) (hb : allB b = true) (h : n * D ≤ b.length) : allOk (vals b D n) D = true := by
  rw [allOk, List.all_eq_true]
  intro x hx
  simp only [vals, List.mem_map, List.mem_range] at hx
  obtain ⟨i, hi, rfl⟩ := hx
  have h1 := valOf_lt ((b.drop (i * D)).take D) (allB_take (allB_drop hb _) _)
  rw [chunk_length b D n i h hi] at h1
  simp only [numOk, decide_eq_true_eq]
  rw [pow_cast, Int.toNat_natCast]
  generalize 2 ^ D = p at *
  omega

/-- is a 1 among them? -/
def hasOne (l : List UInt8) : Bool := l.any fun c => c == 49

theorem zeros_of (l : List UInt8) (hb : allB l = true) (h : hasOne l = false) : l = List.replicate l.length 48 := by
  apply List.eq_replicate_of_mem
  intro c hc
  have h1 := List.all_eq_true.1 hb c hc
  have h2 : ¬ c = 49 := by
    intro e
    have : hasOne l = true := List.any_eq_true.2 ⟨c, hc, by simp [e]⟩
    rw [h] at this; cases this
  have h3 : c.toNat = 48 ∨ c.toNat = 49 := by simpa [isBit] using h1
  rcases h3 with h3 | h3
  · exact UInt8.toNat_inj.1 h3
  · exact absurd (UInt8.toNat_inj.1 h3) h2
theorem hasOne_zeros (n : Nat) : hasOne (List.replicate n 48) = false := by
  rw [Bool.eq_false_iff]
  intro h
  obtain ⟨c, hc, h1⟩ := List.any_eq_true.1 h
  rw [List.eq_of_mem_replicate hc] at h1
  cases h1

/-- only what Pack makes is read. -/
theorem packed_iff (s : List UInt8) (n D : Nat) (hl : s.length = (n * D + 7) / 8) : bytesOf ((rowOf s).take (n * D)) = s ↔ hasOne ((rowOf s).drop (n * D)) = false := by
  have hb := rowOf_allB s
  have hL := rowOf_length s
  have hle : n * D ≤ (rowOf s).length := by rw [hL]; omega
  have ht : ((rowOf s).take (n * D)).length = n * D := by rw [List.length_take]; omega
  constructor
  · intro h
    have h2 := row_bytes ((rowOf s).take (n * D)) (allB_take hb _)
    rw [h, ht] at h2
    have h3 : (rowOf s).drop (n * D) = List.replicate (8 * ((n * D + 7) / 8) - n * D) 48 := by
      rw [h2, List.drop_append_of_le_length (by rw [ht]; exact Nat.le_refl _), List.drop_of_length_le (by rw [ht]; exact Nat.le_refl _), List.nil_append]
    rw [h3]; exact hasOne_zeros _
  · intro h
    have h2 := zeros_of _ (allB_drop hb (n * D)) h
    have h3 : bytesOf ((rowOf s).take (n * D)) = bytesOf (rowOf s) := by
      rw [bytesOf, bytesOf, ht, hL, show (8 * s.length + 7) / 8 = (n * D + 7) / 8 by omega]
      apply List.map_congr_left
      intro q hq
      congr 1
      have key : ∀ k, bitAt ((rowOf s).take (n * D)) k = bitAt (rowOf s) k := by
        intro k
        unfold bitAt
        by_cases hk : k < n * D
        · rw [List.getElem?_take, if_pos hk]
        · rw [List.getElem?_take, if_neg hk]
          have : (rowOf s)[k]? ≠ some 49 := by
            have e : (rowOf s)[k]? = ((rowOf s).drop (n * D))[k - n * D]? := by rw [List.getElem?_drop]; congr 1; omega
            rw [e, h2, List.getElem?_replicate]
            split
            · decide
            · simp
          simp [this]
      have : ∀ j, partVal ((rowOf s).take (n * D)) (8 * q) j = partVal (rowOf s) (8 * q) j := by
        intro j
        induction j with
        | zero => rfl
        | succ j ih => rw [partVal, partVal, ih, key]
      exact this 8
    rw [h3, bytes_row]

end Go.Proofs.Ytolcndchfnifhaa
