/- Bits as bytes: plain mathematics. -/
import Derived.Test.YtolcndchfnifhaaMath
namespace Go.Proofs.Ytolcndchfnifhaa
open Go.RowKit

/-- the k-th bit as a number; behind the end: 0. -/
def bitAt (l : List UInt8) (k : Nat) : Nat := if l[k]? = some 49 then 1 else 0
/-- the number of the j bits from i on. -/
def partVal (l : List UInt8) (i : Nat) : Nat → Nat
  | 0 => 0
  | j + 1 => 2 * partVal l i j + bitAt l (i + j)
/-- the bytes whose bits these are. -/
def bytesOf (l : List UInt8) : List UInt8 := (List.range ((l.length + 7) / 8)).map fun q => UInt8.ofNat (partVal l (8 * q) 8)

theorem bitAt_le (l : List UInt8) (k : Nat) : bitAt l k ≤ 1 := by unfold bitAt; split <;> omega
theorem bitAt_past (l : List UInt8) (k : Nat) (h : l.length ≤ k) : bitAt l k = 0 := by
  unfold bitAt; rw [List.getElem?_eq_none h]; rfl
theorem bitAt_of (l : List UInt8) (k : Nat) (h : k < l.length) (hb : allB l = true) : bitAt l k = l[k].toNat - 48 := by
  unfold bitAt
  rw [List.getElem?_eq_getElem h]
  rcases allB_get hb k h with e | e
  · rw [if_neg (by intro hh; simp only [Option.some.injEq] at hh; rw [hh] at e; revert e; decide)]; omega
  · rw [if_pos (by rw [show l[k] = 49 from UInt8.toNat_inj.1 e])]; omega
theorem bitAt_one (l : List UInt8) (k : Nat) (h : k < l.length) (e : l[k].toNat = 49) : bitAt l k = 1 := by
  unfold bitAt; rw [List.getElem?_eq_getElem h, if_pos (by rw [show l[k] = 49 from UInt8.toNat_inj.1 e])]
theorem bitAt_zero (l : List UInt8) (k : Nat) (h : k < l.length) (e : l[k].toNat ≠ 49) : bitAt l k = 0 := by
  unfold bitAt; rw [List.getElem?_eq_getElem h, if_neg (by intro hh; simp only [Option.some.injEq] at hh; rw [hh] at e; exact e rfl)]
theorem partVal_lt (l : List UInt8) (i j : Nat) : partVal l i j < 2 ^ j := by
  induction j with
  | zero => exact Nat.one_pos
  | succ j ih => have := bitAt_le l (i + j); rw [partVal, Nat.pow_succ]; omega
theorem partVal_past (l : List UInt8) (i j d : Nat) (h : l.length ≤ i + j) : partVal l i (j + d) = partVal l i j * 2 ^ d := by
  induction d with
  | zero => simp
  | succ d ih =>
    rw [show j + (d + 1) = (j + d) + 1 by omega, partVal, ih, bitAt_past _ _ (by omega), Nat.pow_succ, Nat.add_zero, Nat.mul_comm 2, Nat.mul_assoc]
theorem bytesOf_length (l : List UInt8) : (bytesOf l).length = (l.length + 7) / 8 := by simp [bytesOf]

/-- what bits.Bytes' row holds at q behind k bits. -/
def accAt (l : List UInt8) (k q : Nat) : Nat := partVal l (8 * q) (min 8 (k - 8 * q)) * 2 ^ (8 - min 8 (k - 8 * q))
def accRow (l : List UInt8) (n k : Nat) : List Value := (List.range n).map fun q => Value.int .u8 (accAt l k q)
theorem accRow_length (l : List UInt8) (n k : Nat) : (accRow l n k).length = n := by simp [accRow]
theorem accRow_get (l : List UInt8) (n k q : Nat) (h : q < n) : (accRow l n k)[q]? = some (.int .u8 (accAt l k q)) := by
  simp [accRow, h]
theorem accAt_other (l : List UInt8) (k q : Nat) (h : q ≠ k / 8) : accAt l (k + 1) q = accAt l k q := by
  unfold accAt
  rw [show min 8 (k + 1 - 8 * q) = min 8 (k - 8 * q) by omega]
theorem pow_split (r : Nat) (h : r < 8) : 2 ^ (8 - r) = 2 * 2 ^ (7 - r) := by
  rw [show 8 - r = (7 - r) + 1 by omega, Nat.pow_succ]; omega
theorem accAt_this (l : List UInt8) (k : Nat) : accAt l (k + 1) (k / 8) = accAt l k (k / 8) + bitAt l k * 2 ^ (7 - k % 8) := by
  unfold accAt
  rw [show min 8 (k - 8 * (k / 8)) = k % 8 by omega, show min 8 (k + 1 - 8 * (k / 8)) = k % 8 + 1 by omega, partVal, show 8 * (k / 8) + k % 8 = k by omega,
    pow_split _ (Nat.mod_lt _ (by decide)), show 8 - (k % 8 + 1) = 7 - k % 8 by omega]
  generalize 2 ^ (7 - k % 8) = p
  generalize partVal l (8 * (k / 8)) (k % 8) = a
  generalize bitAt l k = b
  rw [Nat.add_mul, Nat.mul_comm 2 a, Nat.mul_assoc]
theorem accRow_set (l : List UInt8) (n k : Nat) (u : Int) (hu : u = (accAt l (k + 1) (k / 8) : Nat)) : (accRow l n k).set (k / 8) (.int .u8 u) = accRow l n (k + 1) := by
  apply List.ext_getElem?
  intro j
  rw [List.getElem?_set]
  by_cases e : k / 8 = j
  · subst e
    rw [if_pos rfl]
    by_cases hn : k / 8 < n
    · rw [accRow_get _ _ _ _ hn, accRow_length, if_pos hn, hu]
    · rw [accRow_length, if_neg hn, List.getElem?_eq_none (by rw [accRow_length]; omega)]
  · rw [if_neg e]
    by_cases hn : j < n
    · rw [accRow_get _ _ _ _ hn, accRow_get _ _ _ _ hn, accAt_other _ _ _ (fun h => e h.symm)]
    · rw [List.getElem?_eq_none (by rw [accRow_length]; omega), List.getElem?_eq_none (by rw [accRow_length]; omega)]
theorem accRow_start (l : List UInt8) (n : Nat) : accRow l n 0 = (madeCells (Value.int .u8 0).cells (n * 1)).toList := by
  rw [show (Value.int .u8 0).cells = #[Value.int .u8 0] from rfl, toList_madeCells_one]
  apply List.ext_getElem?
  intro j
  by_cases hn : j < n
  · rw [accRow_get _ _ _ _ hn, List.getElem?_replicate, if_pos (by omega)]; simp [accAt, partVal]
  · rw [List.getElem?_eq_none (by rw [accRow_length]; omega), List.getElem?_eq_none (by simp; omega)]
theorem accRow_end (l : List UInt8) : accRow l ((l.length + 7) / 8) l.length = byt (bytesOf l) := by
  simp only [accRow, byt, bytesOf, List.map_map]
  apply List.map_congr_left
  intro q hq
  have hq : q < (l.length + 7) / 8 := by simpa using hq
  have h1 : accAt l l.length q = partVal l (8 * q) 8 := by
    unfold accAt
    have hj : min 8 (l.length - 8 * q) ≤ 8 := Nat.min_le_left _ _
    by_cases h : 8 ≤ l.length - 8 * q
    · rw [Nat.min_eq_left h]; simp
    · rw [← partVal_past _ _ _ _ (by omega), show min 8 (l.length - 8 * q) + (8 - min 8 (l.length - 8 * q)) = 8 by omega]
  have h2 := partVal_lt l (8 * q) 8
  simp only [Function.comp]
  rw [h1, UInt8.toNat_ofNat']
  congr 2
  omega

/-- one step of the row's byte, in the walk's own form. -/
theorem acc_bounds (l : List UInt8) (k : Nat) : accAt l k (k / 8) % 2 ^ (8 - k % 8) = 0 ∧ accAt l k (k / 8) < 256 := by
  unfold accAt
  rw [show min 8 (k - 8 * (k / 8)) = k % 8 by omega]
  refine ⟨by simp, ?_⟩
  have h := partVal_lt l (8 * (k / 8)) (k % 8)
  calc partVal l (8 * (k / 8)) (k % 8) * 2 ^ (8 - k % 8) < 2 ^ (k % 8) * 2 ^ (8 - k % 8) := Nat.mul_lt_mul_of_pos_right h (Nat.pow_pos (by decide))
    _ = 256 := by rw [← Nat.pow_add, show k % 8 + (8 - k % 8) = 8 by omega]

theorem or_cell (l : List UInt8) (k : Nat) (c : Int) (hc : c - 48 = bitAt l k) :
    bits .or .u8 (accAt l k (k / 8) : Nat) ((c - 48) * 2 ^ (7 - k % 8) % 256) = (accAt l (k + 1) (k / 8) : Nat) := by
  rw [hc, accAt_this]
  obtain ⟨h1, h2⟩ := acc_bounds l k
  have h3 := bitAt_le l k
  have hp : 2 ^ (7 - k % 8) ≤ 2 ^ 7 := Nat.pow_le_pow_right (by decide) (by omega)
  have hq := pow_split (k % 8) (Nat.mod_lt _ (by decide))
  rw [hq] at h1
  have hx : (bitAt l k : Int) * 2 ^ (7 - k % 8) % 256 = ((bitAt l k * 2 ^ (7 - k % 8) : Nat) : Int) := by
    rw [pow_cast, ← Int.natCast_mul]
    have : bitAt l k * 2 ^ (7 - k % 8) < 256 := by
      have : bitAt l k * 2 ^ (7 - k % 8) ≤ 1 * 2 ^ (7 - k % 8) := Nat.mul_le_mul_right _ h3
      omega
    omega
  rw [hx]
  have hlt : bitAt l k * 2 ^ (7 - k % 8) < 2 ^ (8 - k % 8) := by
    have : bitAt l k * 2 ^ (7 - k % 8) ≤ 1 * 2 ^ (7 - k % 8) := Nat.mul_le_mul_right _ h3
    have : 0 < 2 ^ (7 - k % 8) := Nat.pow_pos (by decide)
    omega
  rw [bits_join .u8 8 (by decide) wraps_u8 (8 - k % 8) _ _ (by omega) (by rw [pow_cast, hq, ← Int.natCast_emod, h1]; rfl) (by omega) (by omega) (by rw [pow_cast]; exact Int.ofNat_lt.2 hlt) (by
    have : bitAt l k * 2 ^ (7 - k % 8) ≤ 1 * 2 ^ (7 - k % 8) := Nat.mul_le_mul_right _ h3
    generalize bitAt l k * 2 ^ (7 - k % 8) = z at *
    omega)]
  rw [Int.natCast_add]

end Go.Proofs.Ytolcndchfnifhaa
