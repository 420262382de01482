/- Bytes as bits: plain mathematics. -/
import Derived.Test.YtolcndchfnifhaaBytesMath
namespace Go.Proofs.Ytolcndchfnifhaa
open Go.RowKit

/-- eight bits of each byte, the highest first. -/
def rowOf (l : List UInt8) : List UInt8 := l.flatMap fun c => numBits c.toNat 8
theorem rowOf_nil : rowOf [] = [] := rfl
theorem rowOf_snoc (l : List UInt8) (c : UInt8) : rowOf (l ++ [c]) = rowOf l ++ numBits c.toNat 8 := by simp [rowOf]
theorem rowOf_cons (l : List UInt8) (c : UInt8) : rowOf (c :: l) = numBits c.toNat 8 ++ rowOf l := by simp [rowOf]
theorem rowOf_length (l : List UInt8) : (rowOf l).length = 8 * l.length := by
  induction l with
  | nil => rfl
  | cons c l ih => rw [rowOf_cons, List.length_append, numBits_length, ih, List.length_cons]; omega

theorem numBits_get (n k j : Nat) (h : j < k) : (numBits n k)[j]? = some (UInt8.ofNat (48 + n / 2 ^ (k - 1 - j) % 2)) := by
  induction k generalizing j with
  | zero => omega
  | succ k ih =>
    rw [numBits_cons]
    cases j with
    | zero => simp
    | succ j => rw [List.getElem?_cons_succ, ih j (by omega), show k + 1 - 1 - (j + 1) = k - 1 - j by omega]

theorem and1u8 (x : Nat) (h : x < 256) : bits .and .u8 (x : Int) 1 = ((x % 2 : Nat) : Int) := by
  have h1 : (BitVec.ofInt 8 1).toNat = 2 ^ 1 - 1 := by decide
  have key : (BitVec.ofInt 8 (x : Int) &&& BitVec.ofInt 8 1).toNat = ((x : Int) % ((2 ^ 8 : Nat) : Int)).toNat % 2 ^ 1 := by
    rw [BitVec.toNat_and, BitVec.toNat_ofInt, h1, Nat.and_two_pow_sub_one_eq_mod]
  show IntKind.u8.wrap ((BitVec.ofInt 8 (x : Int) &&& BitVec.ofInt 8 1).toNat : Nat) = _
  rw [key, IntKind.wrap_u8]
  omega
/-- the byte that both loops lay, in the walk's own form. -/
theorem bit8_cell (c t : Nat) (hc : c < 256) : (48 + bits BinOp.and IntKind.u8 ((c : Int) / 2 ^ t) 1) % 256 = ((48 + c / 2 ^ t % 2 : Nat) : Int) := by
  rw [pow_cast, ← Int.natCast_ediv, and1u8 _ (Nat.lt_of_le_of_lt (Nat.div_le_self _ _) hc)]
  omega
theorem byt_bit (n : Nat) : byt [UInt8.ofNat (48 + n % 2)] = [Value.int .u8 ((48 + n % 2 : Nat) : Int)] := byt_one _ (by omega)
theorem take_bits (c t : Nat) (h : t < 8) : (numBits c 8).take (8 - t) = (numBits c 8).take (7 - t) ++ [UInt8.ofNat (48 + c / 2 ^ t % 2)] := by
  have h1 : 7 - t < (numBits c 8).length := by rw [numBits_length]; omega
  rw [show 8 - t = (7 - t) + 1 by omega, List.take_succ_eq_append_getElem h1]
  congr 2
  have := numBits_get c 8 (7 - t) (by omega)
  rw [List.getElem?_eq_getElem h1] at this
  simp only [Option.some.injEq] at this
  rw [this, show 8 - 1 - (7 - t) = t by omega]

theorem numBits_allB (n k : Nat) : allB (numBits n k) = true := by
  induction k generalizing n with
  | zero => rfl
  | succ k ih =>
    rw [numBits, allB_snoc, ih, Bool.true_and]
    have h2 : n % 2 < 2 := Nat.mod_lt _ (by decide)
    simp only [isBit, UInt8.toNat_ofNat', decide_eq_true_eq]
    omega
theorem rowOf_allB (l : List UInt8) : allB (rowOf l) = true := by
  induction l with
  | nil => rfl
  | cons c l ih => rw [rowOf_cons, allB_append, numBits_allB, ih]; rfl

end Go.Proofs.Ytolcndchfnifhaa
