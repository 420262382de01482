/- Plain mathematics on bits and bytes: no program is named here. -/
import Derived.WalkKit
import Derived.Laws.BytesArg
namespace Go.Proofs.Ytolcndchfnifhaa
open Go.RowKit

theorem snoc_ind {α : Type} {P : List α → Prop} (h0 : P []) (h1 : ∀ l a, P l → P (l ++ [a])) (l : List α) : P l := by
  have h : ∀ m : List α, P m.reverse := by
    intro m
    induction m with
    | nil => exact h0
    | cons a m ih => rw [List.reverse_cons]; exact h1 _ _ ih
  have := h l.reverse
  rwa [List.reverse_reverse] at this

/-- Is the byte a bit? -/
def isBit (c : UInt8) : Bool := decide (c.toNat = 48 ∨ c.toNat = 49)
/-- Are all bytes bits? -/
def allB (l : List UInt8) : Bool := l.all isBit

theorem allB_nil : allB [] = true := rfl
theorem allB_snoc (l : List UInt8) (c : UInt8) : allB (l ++ [c]) = (allB l && isBit c) := by simp [allB]
theorem allB_append (l m : List UInt8) : allB (l ++ m) = (allB l && allB m) := by simp [allB]
theorem allB_take {l : List UInt8} (h : allB l = true) (k : Nat) : allB (l.take k) = true := by
  have := List.take_append_drop k l
  rw [← this, allB_append, Bool.and_eq_true] at h; exact h.1
theorem allB_drop {l : List UInt8} (h : allB l = true) (k : Nat) : allB (l.drop k) = true := by
  have := List.take_append_drop k l
  rw [← this, allB_append, Bool.and_eq_true] at h; exact h.2
theorem allB_get {l : List UInt8} (h : allB l = true) (k : Nat) (hk : k < l.length) : l[k].toNat = 48 ∨ l[k].toNat = 49 := by
  have := List.all_eq_true.1 h l[k] (List.getElem_mem hk)
  simpa [isBit] using this
theorem allB_false_of {l : List UInt8} (k : Nat) (hk : k < l.length) (h0 : l[k].toNat ≠ 48) (h1 : l[k].toNat ≠ 49) : allB l = false := by
  rw [Bool.eq_false_iff]; intro h
  rcases allB_get h k hk with h | h <;> omega

theorem take_snoc (s : ByteArray) (k : Nat) (h : k < s.size) : s.data.toList.take (k + 1) = s.data.toList.take k ++ [s[k]] := by
  rw [List.take_succ_eq_append_getElem (by simpa using h)]; rfl
theorem take_all (s : ByteArray) (k : Nat) (h : s.size ≤ k) : s.data.toList.take k = s.data.toList := by
  apply List.take_of_length_le; simpa using h
theorem get_data (s : ByteArray) (k : Nat) (h : k < s.size) : s.data.toList[k]'(by simpa using h) = s[k] := rfl
theorem len_data (s : ByteArray) : s.data.toList.length = s.size := by simp

theorem hide {p : Prop} (h : p) : Hid p := h
theorem unhide {p : Prop} (h : Hid p) : p := h

/-- The number of which these are the bits. -/
def valOf (l : List UInt8) : Nat := l.foldl (fun n c => 2 * n + (c.toNat - 48)) 0
theorem valOf_snoc (l : List UInt8) (c : UInt8) : valOf (l ++ [c]) = 2 * valOf l + (c.toNat - 48) := by simp [valOf]
theorem valOf_lt : ∀ (l : List UInt8), allB l = true → valOf l < 2 ^ l.length := by
  intro l
  refine snoc_ind (P := fun l => allB l = true → valOf l < 2 ^ l.length) ?_ ?_ l
  · intro _; decide
  · intro l c ih h
    rw [allB_snoc, Bool.and_eq_true] at h
    have := ih h.1
    have hc : c.toNat = 48 ∨ c.toNat = 49 := by simpa [isBit] using h.2
    rw [valOf_snoc, List.length_append, List.length_singleton, Nat.pow_succ]
    omega

/-- A number as so many bits, the highest first. -/
def numBits : Nat → Nat → List UInt8
  | _, 0 => []
  | n, k + 1 => numBits (n / 2) k ++ [UInt8.ofNat (48 + n % 2)]
theorem numBits_length (n k : Nat) : (numBits n k).length = k := by
  induction k generalizing n with
  | zero => rfl
  | succ k ih => simp [numBits, ih]
theorem numBits_cons (n k : Nat) : numBits n (k + 1) = UInt8.ofNat (48 + n / 2 ^ k % 2) :: numBits n k := by
  induction k generalizing n with
  | zero => simp [numBits]
  | succ k ih =>
    rw [numBits, ih (n / 2)]
    simp only [List.cons_append, Nat.div_div_eq_div_mul, numBits]
    rw [show 2 * 2 ^ k = 2 ^ (k + 1) by rw [Nat.pow_succ]; omega]

/-- A text out of its bytes. -/
def str (l : List UInt8) : ByteArray := ⟨l.toArray⟩
theorem str_data (l : List UInt8) : (str l).data.toList = l := rfl
theorem str_size (l : List UInt8) : (str l).size = l.length := by simp [str, ByteArray.size]
theorem str_of (s : ByteArray) : str s.data.toList = s := rfl
theorem str_nil : str [] = ByteArray.empty := rfl

/-- The bytes as cells. -/
def byt (l : List UInt8) : List Value := l.map fun c => Value.int .u8 c.toNat
theorem byt_length (l : List UInt8) : (byt l).length = l.length := by simp [byt]
theorem byt_append (l m : List UInt8) : byt (l ++ m) = byt l ++ byt m := by simp [byt]
theorem byt_get? (l : List UInt8) (j : Nat) : (byt l)[j]? = (l[j]?).map fun c => Value.int .u8 c.toNat := by simp [byt]
theorem byt_oneCell (l : List UInt8) : ∀ u ∈ byt l, u.oneCell' = true := by
  intro u hu
  simp only [byt, List.mem_map] at hu
  obtain ⟨c, _, rfl⟩ := hu
  rfl

/-- 'string(b)' of a row of the call's own. -/
theorem run_string_own {P : Program} {w : World} {base src e dst : TypeId} {g n cap : Nat} {l : List UInt8} (hs : P.underlying src = some (.slice e)) (he : P.underlying e = some (.int .u8)) (hd : P.underlying dst = some .string)
    (h : w.ownsRow base e 1 (.slice (some ⟨g, 0, none⟩) n cap) n (byt l)) :
    (convert src dst (.slice (some ⟨g, 0, none⟩) n cap)).run P w = .ok (.string (str l)) w := by
  have hl : l.length = n := by have := h.1; rw [byt_length] at this; omega
  have := run_convert_bytes_arg (P := P) w src e hs he g 0 n cap (l.map fun c => (c.toNat : Int)) (by simpa using hl) (fun i hi => by
    rw [Nat.zero_add, h.cellAt i (by omega), byt_get?]
    simp [List.getElem?_eq_getElem (show i < l.length by omega)]) dst hd
  rw [this]
  congr 2
  simp only [strOfNums, str, List.map_map]
  congr 2
  exact (List.map_congr_left (fun c _ => by simp)).trans (List.map_id l)

theorem and1 (n : Int) : bits .and .i64 n 1 = n % 2 := by
  have h1 : (BitVec.ofInt 64 1).toNat = 2 ^ 1 - 1 := by decide
  have key : (BitVec.ofInt 64 n &&& BitVec.ofInt 64 1).toNat = (n % ((2 ^ 64 : Nat) : Int)).toNat % 2 ^ 1 := by
    rw [BitVec.toNat_and, BitVec.toNat_ofInt, h1, Nat.and_two_pow_sub_one_eq_mod]
  show IntKind.i64.wrap ((BitVec.ofInt 64 n &&& BitVec.ofInt 64 1).toNat : Nat) = n % 2
  rw [key, IntKind.wrap_i64]
  omega
theorem andTop (n : Int) : bits .and .i64 n 65535 = n % 65536 := by
  have h1 : (BitVec.ofInt 64 65535).toNat = 2 ^ 16 - 1 := by decide
  have key : (BitVec.ofInt 64 n &&& BitVec.ofInt 64 65535).toNat = (n % ((2 ^ 64 : Nat) : Int)).toNat % 2 ^ 16 := by
    rw [BitVec.toNat_and, BitVec.toNat_ofInt, h1, Nat.and_two_pow_sub_one_eq_mod]
  show IntKind.i64.wrap ((BitVec.ofInt 64 n &&& BitVec.ofInt 64 65535).toNat : Nat) = n % 65536
  rw [key, IntKind.wrap_i64]
  omega
theorem pow_cast (k : Nat) : ((2 : Int) ^ k) = ((2 ^ k : Nat) : Int) := (Int.natCast_pow 2 k).symm
theorem bit_cell (n k : Nat) : (48 + bits BinOp.and IntKind.i64 ((n : Int) / 2 ^ k) 1) % 256 = (48 + (n / 2 ^ k % 2 : Nat) : Int) := by
  rw [and1, pow_cast, ← Int.natCast_ediv]
  omega

theorem byt_one (p : Nat) (h : p < 256) : byt [UInt8.ofNat p] = [Value.int .u8 (p : Nat)] := by
  simp only [byt, List.map_cons, List.map_nil, UInt8.toNat_ofNat']
  congr 3
  omega
theorem one_get {α : Type} {x u : α} {j : Nat} (h : [x][j]? = some u) : j = 0 ∧ u = x := by
  match j, h with
  | 0, h => simp at h; exact ⟨rfl, h.symm⟩
theorem ret_tup2 {a b c d : Value} (h1 : a = c) (h2 : b = d) : Ending.returned (.tuple #[a, b]) = .returned (.tuple #[c, d]) := by rw [h1, h2]
theorem ret_int {k : IntKind} {a b : Int} (h : a = b) : Ending.returned (.int k a) = .returned (.int k b) := by rw [h]
theorem ret_bool {a b : Bool} (h : a = b) : Ending.returned (.bool a) = .returned (.bool b) := by rw [h]

end Go.Proofs.Ytolcndchfnifhaa
