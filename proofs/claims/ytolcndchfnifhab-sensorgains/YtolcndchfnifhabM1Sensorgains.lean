/- sensorgains: part 1 of what its proof needs. -/
import Derived.WalkKit
import Derived.Laws.BytesArg
import Derived.Test.YtolcndchfnifhabProg
import Derived.WalkSpells
import Derived.WalkLawsBesides
import Derived.Deep.QuietTactic
import Derived.BigQuiet
/- Plain mathematics on bits and bytes: no program is named here. -/
namespace Go.Proofs.Ytolcndchfnifhab
open Go.RowKit

theorem snoc_ind {α : Type} {P : List α → Prop} (h0 : P []) (h1 : ∀ l a, P l → P (l ++ [a])) (l : List α) : P l := by
  have h : ∀ m : List α, P m.reverse := by
    intro m
    induction m with
    | nil => exact h0
    | cons a m ih => rw [List.reverse_cons]; exact h1 _ _ ih
  have := h l.reverse
  rwa [List.reverse_reverse] at this

/-- Is the byte a bit? -/
def isBit (c : UInt8) : Bool := decide (c.toNat = 48 ∨ c.toNat = 49)
/-- Are all bytes bits? -/
def allB (l : List UInt8) : Bool := l.all isBit

theorem allB_nil : allB [] = true := rfl
theorem allB_snoc (l : List UInt8) (c : UInt8) : allB (l ++ [c]) = (allB l && isBit c) := by simp [allB]
theorem allB_append (l m : List UInt8) : allB (l ++ m) = (allB l && allB m) := by simp [allB]
theorem allB_take {l : List UInt8} (h : allB l = true) (k : Nat) : allB (l.take k) = true := by
  have := List.take_append_drop k l
  rw [← this, allB_append, Bool.and_eq_true] at h; exact h.1
theorem allB_drop {l : List UInt8} (h : allB l = true) (k : Nat) : allB (l.drop k) = true := by
  have := List.take_append_drop k l
  rw [← this, allB_append, Bool.and_eq_true] at h; exact h.2
theorem allB_get {l : List UInt8} (h : allB l = true) (k : Nat) (hk : k < l.length) : l[k].toNat = 48 ∨ l[k].toNat = 49 := by
  have := List.all_eq_true.1 h l[k] (List.getElem_mem hk)
  simpa [isBit] using this
theorem allB_false_of {l : List UInt8} (k : Nat) (hk : k < l.length) (h0 : l[k].toNat ≠ 48) (h1 : l[k].toNat ≠ 49) : allB l = false := by
  rw [Bool.eq_false_iff]; intro h
  rcases allB_get h k hk with h | h <;> omega

theorem take_snoc (s : ByteArray) (k : Nat) (h : k < s.size) : s.data.toList.take (k + 1) = s.data.toList.take k ++ [s[k]] := by
  rw [List.take_succ_eq_append_getElem (by simpa using h)]; rfl
theorem take_all (s : ByteArray) (k : Nat) (h : s.size ≤ k) : s.data.toList.take k = s.data.toList := by
  apply List.take_of_length_le; simpa using h
theorem get_data (s : ByteArray) (k : Nat) (h : k < s.size) : s.data.toList[k]'(by simpa using h) = s[k] := rfl
theorem len_data (s : ByteArray) : s.data.toList.length = s.size := by simp

theorem hide {p : Prop} (h : p) : Hid p := h
theorem unhide {p : Prop} (h : Hid p) : p := h

/-- The number of which these are the bits. -/
def valOf (l : List UInt8) : Nat := l.foldl (fun n c => 2 * n + (c.toNat - 48)) 0
theorem valOf_snoc (l : List UInt8) (c : UInt8) : valOf (l ++ [c]) = 2 * valOf l + (c.toNat - 48) := by simp [valOf]
theorem valOf_lt : ∀ (l : List UInt8), allB l = true → valOf l < 2 ^ l.length := by
  intro l
  refine snoc_ind (P := fun l => allB l = true → valOf l < 2 ^ l.length) ?_ ?_ l
  · intro _; decide
  · intro l c ih h
    rw [allB_snoc, Bool.and_eq_true] at h
    have := ih h.1
    have hc : c.toNat = 48 ∨ c.toNat = 49 := by simpa [isBit] using h.2
    rw [valOf_snoc, List.length_append, List.length_singleton, Nat.pow_succ]
    omega

/-- A number as so many bits, the highest first. -/
def numBits : Nat → Nat → List UInt8
  | _, 0 => []
  | n, k + 1 => numBits (n / 2) k ++ [UInt8.ofNat (48 + n % 2)]
theorem numBits_length (n k : Nat) : (numBits n k).length = k := by
  induction k generalizing n with
  | zero => rfl
  | succ k ih => simp [numBits, ih]
theorem numBits_cons (n k : Nat) : numBits n (k + 1) = UInt8.ofNat (48 + n / 2 ^ k % 2) :: numBits n k := by
  induction k generalizing n with
  | zero => simp [numBits]
  | succ k ih =>
    rw [numBits, ih (n / 2)]
    simp only [List.cons_append, Nat.div_div_eq_div_mul, numBits]
    rw [show 2 * 2 ^ k = 2 ^ (k + 1) by rw [Nat.pow_succ]; omega]

/-- A text out of its bytes. -/
def str (l : List UInt8) : ByteArray := ⟨l.toArray⟩
theorem str_data (l : List UInt8) : (str l).data.toList = l := rfl
theorem str_size (l : List UInt8) : (str l).size = l.length := by simp [str, ByteArray.size]
theorem str_of (s : ByteArray) : str s.data.toList = s := rfl
theorem str_nil : str [] = ByteArray.empty := rfl

/-- The bytes as cells. -/
def byt (l : List UInt8) : List Value := l.map fun c => Value.int .u8 c.toNat
theorem byt_length (l : List UInt8) : (byt l).length = l.length := by simp [byt]
theorem byt_append (l m : List UInt8) : byt (l ++ m) = byt l ++ byt m := by simp [byt]
theorem byt_get? (l : List UInt8) (j : Nat) : (byt l)[j]? = (l[j]?).map fun c => Value.int .u8 c.toNat := by simp [byt]
theorem byt_oneCell (l : List UInt8) : ∀ u ∈ byt l, u.oneCell' = true := by
  intro u hu
  simp only [byt, List.mem_map] at hu
  obtain ⟨c, _, rfl⟩ := hu
  rfl

/-- 'string(b)' of a row of the call's own. -/
theorem run_string_own {P : Program} {w : World} {base src e dst : TypeId} {g n cap : Nat} {l : List UInt8} (hs : P.underlying src = some (.slice e)) (he : P.underlying e = some (.int .u8)) (hd : P.underlying dst = some .string)
    (h : w.ownsRow base e 1 (.slice (some ⟨g, 0, none⟩) n cap) n (byt l)) :
    (convert src dst (.slice (some ⟨g, 0, none⟩) n cap)).run P w = .ok (.string (str l)) w := by
  have hl : l.length = n := by have := h.1; rw [byt_length] at this; omega
  have := run_convert_bytes_arg (P := P) w src e hs he g 0 n cap (l.map fun c => (c.toNat : Int)) (by simpa using hl) (fun i hi => by
    rw [Nat.zero_add, h.cellAt i (by omega), byt_get?]
    simp [List.getElem?_eq_getElem (show i < l.length by omega)]) dst hd
  rw [this]
  congr 2
  simp only [strOfNums, str, List.map_map]
  congr 2
  exact (List.map_congr_left (fun c _ => by simp)).trans (List.map_id l)

theorem and1 (n : Int) : bits .and .i64 n 1 = n % 2 := by
  have h1 : (BitVec.ofInt 64 1).toNat = 2 ^ 1 - 1 := by decide
  have key : (BitVec.ofInt 64 n &&& BitVec.ofInt 64 1).toNat = (n % ((2 ^ 64 : Nat) : Int)).toNat % 2 ^ 1 := by
    rw [BitVec.toNat_and, BitVec.toNat_ofInt, h1, Nat.and_two_pow_sub_one_eq_mod]
  show IntKind.i64.wrap ((BitVec.ofInt 64 n &&& BitVec.ofInt 64 1).toNat : Nat) = n % 2
  rw [key, IntKind.wrap_i64]
  omega
theorem andTop (n : Int) : bits .and .i64 n 65535 = n % 65536 := by
  have h1 : (BitVec.ofInt 64 65535).toNat = 2 ^ 16 - 1 := by decide
  have key : (BitVec.ofInt 64 n &&& BitVec.ofInt 64 65535).toNat = (n % ((2 ^ 64 : Nat) : Int)).toNat % 2 ^ 16 := by
    rw [BitVec.toNat_and, BitVec.toNat_ofInt, h1, Nat.and_two_pow_sub_one_eq_mod]
  show IntKind.i64.wrap ((BitVec.ofInt 64 n &&& BitVec.ofInt 64 65535).toNat : Nat) = n % 65536
  rw [key, IntKind.wrap_i64]
  omega
theorem pow_cast (k : Nat) : ((2 : Int) ^ k) = ((2 ^ k : Nat) : Int) := (Int.natCast_pow 2 k).symm
theorem bit_cell (n k : Nat) : (48 + bits BinOp.and IntKind.i64 ((n : Int) / 2 ^ k) 1) % 256 = (48 + (n / 2 ^ k % 2 : Nat) : Int) := by
  rw [and1, pow_cast, ← Int.natCast_ediv]
  omega

theorem byt_one (p : Nat) (h : p < 256) : byt [UInt8.ofNat p] = [Value.int .u8 (p : Nat)] := by
  simp only [byt, List.map_cons, List.map_nil, UInt8.toNat_ofNat']
  congr 3
  omega
theorem one_get {α : Type} {x u : α} {j : Nat} (h : [x][j]? = some u) : j = 0 ∧ u = x := by
  match j, h with
  | 0, h => simp at h; exact ⟨rfl, h.symm⟩
theorem ret_tup2 {a b c d : Value} (h1 : a = c) (h2 : b = d) : Ending.returned (.tuple #[a, b]) = .returned (.tuple #[c, d]) := by rw [h1, h2]
theorem ret_int {k : IntKind} {a b : Int} (h : a = b) : Ending.returned (.int k a) = .returned (.int k b) := by rw [h]
theorem ret_bool {a b : Bool} (h : a = b) : Ending.returned (.bool a) = .returned (.bool b) := by rw [h]

end Go.Proofs.Ytolcndchfnifhab

/- Lists of numbers in memory; the reference's SameInts. -/
namespace Go.Proofs.Ytolcndchfnifhab
open Go.RowKit

theorem Try.infoInt : (Try.prog.info? 3).map (fun i => (i.zero, i.size, i.bytes)) = some (some (.int .i64 0), 1, 8) := by kernel_rfl

theorem bel_trans {a b c : World} (h : Below a.heap.size a b) (k : Below b.heap.size b c) : Below a.heap.size a c := h.trans (k.mono h.size)
theorem bel_alloc (w : World) (o : Obj) : Below w.heap.size w (w.alloc o) := (Below.refl _ _).alloc (Nat.le_refl _) o
theorem bel_drew (w : World) : Below w.heap.size w w.drew := (Below.refl _ _).drew

/-- The slice v holds these numbers in the world w. -/
def IsInts (w : World) (v : Value) (xs : List Int) : Prop :=
  ∃ ao cap, v = .slice ao xs.length cap ∧ xs.length ≤ 9223372036854775807 ∧ (xs = [] ∨ ∃ b off, ao = some ⟨b, off, none⟩ ∧ b < w.heap.size ∧ ∀ j (h : j < xs.length), w.cell? ⟨b, off + j, none⟩ = some (.int .i64 xs[j]))

theorem IsInts.len {w : World} {v : Value} {xs : List Int} (h : IsInts w v xs) : xs.length ≤ 9223372036854775807 := by
  obtain ⟨_, _, _, h, _⟩ := h; exact h
theorem IsInts.below {w w' : World} {v : Value} {xs : List Int} {B : Nat} (h : IsInts w v xs) (hb : Below B w w') (hB : w.heap.size ≤ B) : IsInts w' v xs := by
  obtain ⟨ao, cap, hv, hl, h⟩ := h
  refine ⟨ao, cap, hv, hl, ?_⟩
  rcases h with h | ⟨b, off, ha, hlt, hc⟩
  · exact .inl h
  · exact .inr ⟨b, off, ha, Nat.lt_of_lt_of_le hlt hb.size, fun j hj => by rw [hb.cell (p := ⟨b, off + j, none⟩) (by exact Nat.lt_of_lt_of_le hlt hB)]; exact hc j hj⟩
theorem IsInts.alloc {w : World} {v : Value} {xs : List Int} (h : IsInts w v xs) (o : Obj) : IsInts (w.alloc o) v xs :=
  h.below ((Below.refl _ _).alloc (Nat.le_refl _) o) (Nat.le_refl _)
theorem IsInts.drew {w : World} {v : Value} {xs : List Int} (h : IsInts w v xs) : IsInts w.drew v xs := h
theorem IsInts.nil (w : World) : IsInts w (.slice none 0 0) [] := ⟨none, 0, rfl, by simp, .inl rfl⟩
theorem IsInts.own {w : World} {base : Nat} {v : Value} {xs : List Int} (h : w.ownsRow base 3 1 v xs.length (xs.map (Value.int .i64))) (hl : xs.length ≤ 9223372036854775807) : IsInts w v xs := by
  rcases h.2 with ⟨hv, hn⟩ | ⟨g, cap, cur, hv, _, hg, _⟩
  · exact ⟨none, 0, by rw [hv, hn], hl, .inl (List.eq_nil_of_length_eq_zero hn)⟩
  · refine ⟨_, cap, hv, hl, .inr ⟨g, 0, rfl, (Array.getElem?_eq_some_iff.1 hg).1, fun j hj => ?_⟩⟩
    subst hv
    rw [Nat.zero_add, h.cellAt j (by omega)]
    simp [hj]

/-- the slice lies in memory that was not there. -/
def Fresh (B : Nat) (v : Value) : Prop := ∀ b, v.ownBlock = some b → B ≤ b
theorem Fresh.mono {B B' : Nat} {v : Value} (h : Fresh B v) (hb : B' ≤ B) : Fresh B' v := fun b e => Nat.le_trans hb (h b e)
theorem Fresh.nil (B : Nat) : Fresh B (.slice none 0 0) := fun b e => by cases e
theorem Fresh.own {w : World} {base : Nat} {e : TypeId} {sz : Nat} {v : Value} {n : Nat} {xs : List Value} (h : w.ownsRow base e sz v n xs) : Fresh base v := fun b hb => (h.lt b hb).1
theorem IsInts.other {w w' : World} {v : Value} {xs : List Int} {k : Nat} (h : IsInts w v xs) (hs : w.heap.size ≤ w'.heap.size) (hk : ∀ b, b ≠ k → w'.heap[b]? = w.heap[b]?) (hne : v.ownBlock ≠ some k) : IsInts w' v xs := by
  obtain ⟨ao, cap, rfl, hl, h⟩ := h
  refine ⟨ao, cap, rfl, hl, ?_⟩
  rcases h with h | ⟨b, off, rfl, hlt, hc⟩
  · exact .inl h
  · have hb : b ≠ k := fun e => hne (by rw [e]; rfl)
    exact .inr ⟨b, off, rfl, Nat.lt_of_lt_of_le hlt hs, fun j hj => (World.cell?_of_block (a := ⟨b, off + j, none⟩) (hk b hb)).trans (hc j hj)⟩

theorem ownsRow_below {w w' : World} {base : Nat} {e : TypeId} {size : Nat} {v : Value} {n : Nat} {xs : List Value} (h : w.ownsRow base e size v n xs) (hb : Below w.heap.size w w') : w'.ownsRow base e size v n xs := by
  refine ⟨h.1, ?_⟩
  rcases h.2 with h | ⟨g, cap, cur, hv, hg, hh, r⟩
  · exact .inl h
  · exact .inr ⟨g, cap, cur, hv, hg, by rw [hb.block g (Array.getElem?_eq_some_iff.1 hh).1]; exact hh, r⟩

set_option maxHeartbeats 400000 in
theorem sameInts_any (va vb : Value) (xs ys : List Int) (w : World) (ha : IsInts w va xs) (hb : IsInts w vb ys) :
    Calls Try.prog 64 #[va, vb] w fun e w' => e = .returned (.bool (decide (xs = ys))) ∧ Below w.heap.size w w' := by
  obtain ⟨ao, ca, rfl, hla, ha⟩ := ha
  obtain ⟨bo, cb, rfl, hlb, hb⟩ := hb
  by_cases hl : xs.length = ys.length
  · have hl2 : ((xs.length : Int) != (ys.length : Int)) = false := by simp [hl]
    by_cases h0 : xs.length = 0
    · have e : xs = ys := (List.eq_nil_of_length_eq_zero h0).trans (List.eq_nil_of_length_eq_zero (hl.symm.trans h0)).symm
      have HE := hide e; clear e
      have HL := hide hl; clear hl
      clear ha hb
      go_enter Try.func64, Try.ntmps64
      go_wp2
      go_loop [5] (fun i => i = .int .i64 0) (fun _ => 0)
      case atStart => rfl
      case round =>
        subst hrel
        go_wp2
        go_ret
        exact ⟨ret_bool (by simp [HE.out]), Below.refl _ _⟩
    · have ha : ∃ b off, ao = some ⟨b, off, none⟩ ∧ b < w.heap.size ∧ ∀ j (h : j < xs.length), w.cell? ⟨b, off + j, none⟩ = some (.int .i64 xs[j]) := by
        rcases ha with rfl | ha
        · exact absurd rfl h0
        · exact ha
      have hb : ∃ b off, bo = some ⟨b, off, none⟩ ∧ b < w.heap.size ∧ ∀ j (h : j < ys.length), w.cell? ⟨b, off + j, none⟩ = some (.int .i64 ys[j]) := by
        rcases hb with rfl | hb
        · exact absurd hl h0
        · exact hb
      obtain ⟨ba, oa, rfl, hba, hca⟩ := ha
      obtain ⟨bb, ob, rfl, hbb, hcb⟩ := hb
      have HCA := hide hca; clear hca
      have HCB := hide hcb; clear hcb
      have HL := hide hl
      clear hl
      go_enter Try.func64, Try.ntmps64
      go_wp2
      go_loopw [5] (fun i wr => ∃ k : Nat, k ≤ xs.length ∧ i = .int .i64 k ∧ Hid (xs.take k = ys.take k) ∧ Below w.heap.size w wr) (fun i _ => xs.length - (intOf i).toNat)
      case atStart => exact ⟨0, Nat.zero_le _, rfl, rfl, Below.refl _ _⟩
      case round =>
        obtain ⟨k, hk, rfl, HT, hbel⟩ := hrel
        by_cases hlt : k < xs.length
        · have hlt2 : k < ys.length := by have := HL.out; omega
          have c1 := (hbel.cell (p := ⟨ba, oa + k, none⟩) hba).trans (HCA.out k hlt)
          have c2 := (hbel.cell (p := ⟨bb, ob + k, none⟩) hbb).trans (HCB.out k hlt2)
          by_cases he : xs[k] = ys[k]
          · have he2 : (xs[k] != ys[k]) = false := by simp [he]
            have HT2 : Hid (xs.take (k + 1) = ys.take (k + 1)) := by
              show _ = _
              rw [List.take_succ_eq_append_getElem hlt, List.take_succ_eq_append_getElem hlt2, HT.out, he]
            clear he
            go_wp2
            go_region
            go_wp2
            go_roundw
            case rel => exact ⟨k + 1, by omega, by go_num, HT2, hbel.drew⟩
            case measure => simp [intOf]; omega
          · have he2 : (xs[k] != ys[k]) = true := by simp [he]
            have HNE := hide (show ¬ xs = ys from fun h => he (by subst h; rfl))
            clear he
            go_wp2
            go_region
            go_wp2
            go_ret
            exact ⟨ret_bool (by simp [HNE.out]), hbel.drew⟩
        · have HE := hide (show xs = ys by
            have h := HT.out
            rwa [List.take_of_length_le (by omega), List.take_of_length_le (by have := HL.out; omega)] at h)
          go_wp2
          go_ret
          exact ⟨ret_bool (by simp [HE.out]), hbel⟩
  · have hl2 : ((xs.length : Int) != (ys.length : Int)) = true := by simp; omega
    have HNE := hide (show ¬ xs = ys from fun h => hl (by rw [h]))
    clear hl
    go_enter Try.func64, Try.ntmps64
    go_wp2
    go_ret
    exact ⟨ret_bool (by simp [HNE.out]), Below.refl _ _⟩

end Go.Proofs.Ytolcndchfnifhab

/- Bits as bytes: plain mathematics. -/
namespace Go.Proofs.Ytolcndchfnifhab
open Go.RowKit

/-- the k-th bit as a number; behind the end: 0. -/
def bitAt (l : List UInt8) (k : Nat) : Nat := if l[k]? = some 49 then 1 else 0
/-- the number of the j bits from i on. -/
def partVal (l : List UInt8) (i : Nat) : Nat → Nat
  | 0 => 0
  | j + 1 => 2 * partVal l i j + bitAt l (i + j)
/-- the bytes whose bits these are. -/
def bytesOf (l : List UInt8) : List UInt8 := (List.range ((l.length + 7) / 8)).map fun q => UInt8.ofNat (partVal l (8 * q) 8)

theorem bitAt_le (l : List UInt8) (k : Nat) : bitAt l k ≤ 1 := by unfold bitAt; split <;> omega
theorem bitAt_past (l : List UInt8) (k : Nat) (h : l.length ≤ k) : bitAt l k = 0 := by
  unfold bitAt; rw [List.getElem?_eq_none h]; rfl
theorem bitAt_of (l : List UInt8) (k : Nat) (h : k < l.length) (hb : allB l = true) : bitAt l k = l[k].toNat - 48 := by
  unfold bitAt
  rw [List.getElem?_eq_getElem h]
  rcases allB_get hb k h with e | e
  · rw [if_neg (by intro hh; simp only [Option.some.injEq] at hh; rw [hh] at e; revert e; decide)]; omega
  · rw [if_pos (by rw [show l[k] = 49 from UInt8.toNat_inj.1 e])]; omega
theorem bitAt_one (l : List UInt8) (k : Nat) (h : k < l.length) (e : l[k].toNat = 49) : bitAt l k = 1 := by
  unfold bitAt; rw [List.getElem?_eq_getElem h, if_pos (by rw [show l[k] = 49 from UInt8.toNat_inj.1 e])]
theorem bitAt_zero (l : List UInt8) (k : Nat) (h : k < l.length) (e : l[k].toNat ≠ 49) : bitAt l k = 0 := by
  unfold bitAt; rw [List.getElem?_eq_getElem h, if_neg (by intro hh; simp only [Option.some.injEq] at hh; rw [hh] at e; exact e rfl)]
theorem partVal_lt (l : List UInt8) (i j : Nat) : partVal l i j < 2 ^ j := by
  induction j with
  | zero => exact Nat.one_pos
  | succ j ih => have := bitAt_le l (i + j); rw [partVal, Nat.pow_succ]; omega
theorem partVal_past (l : List UInt8) (i j d : Nat) (h : l.length ≤ i + j) : partVal l i (j + d) = partVal l i j * 2 ^ d := by
  induction d with
  | zero => simp
  | succ d ih =>
    rw [show j + (d + 1) = (j + d) + 1 by omega, partVal, ih, bitAt_past _ _ (by omega), Nat.pow_succ, Nat.add_zero, Nat.mul_comm 2, Nat.mul_assoc]
theorem bytesOf_length (l : List UInt8) : (bytesOf l).length = (l.length + 7) / 8 := by simp [bytesOf]

/-- what bits.Bytes' row holds at q behind k bits. -/
def accAt (l : List UInt8) (k q : Nat) : Nat := partVal l (8 * q) (min 8 (k - 8 * q)) * 2 ^ (8 - min 8 (k - 8 * q))
def accRow (l : List UInt8) (n k : Nat) : List Value := (List.range n).map fun q => Value.int .u8 (accAt l k q)
theorem accRow_length (l : List UInt8) (n k : Nat) : (accRow l n k).length = n := by simp [accRow]
theorem accRow_get (l : List UInt8) (n k q : Nat) (h : q < n) : (accRow l n k)[q]? = some (.int .u8 (accAt l k q)) := by
  simp [accRow, h]
theorem accAt_other (l : List UInt8) (k q : Nat) (h : q ≠ k / 8) : accAt l (k + 1) q = accAt l k q := by
  unfold accAt
  rw [show min 8 (k + 1 - 8 * q) = min 8 (k - 8 * q) by omega]
theorem pow_split (r : Nat) (h : r < 8) : 2 ^ (8 - r) = 2 * 2 ^ (7 - r) := by
  rw [show 8 - r = (7 - r) + 1 by omega, Nat.pow_succ]; omega
theorem accAt_this (l : List UInt8) (k : Nat) : accAt l (k + 1) (k / 8) = accAt l k (k / 8) + bitAt l k * 2 ^ (7 - k % 8) := by
  unfold accAt
  rw [show min 8 (k - 8 * (k / 8)) = k % 8 by omega, show min 8 (k + 1 - 8 * (k / 8)) = k % 8 + 1 by omega, partVal, show 8 * (k / 8) + k % 8 = k by omega,
    pow_split _ (Nat.mod_lt _ (by decide)), show 8 - (k % 8 + 1) = 7 - k % 8 by omega]
  generalize 2 ^ (7 - k % 8) = p
  generalize partVal l (8 * (k / 8)) (k % 8) = a
  generalize bitAt l k = b
  rw [Nat.add_mul, Nat.mul_comm 2 a, Nat.mul_assoc]
theorem accRow_set (l : List UInt8) (n k : Nat) (u : Int) (hu : u = (accAt l (k + 1) (k / 8) : Nat)) : (accRow l n k).set (k / 8) (.int .u8 u) = accRow l n (k + 1) := by
  apply List.ext_getElem?
  intro j
  rw [List.getElem?_set]
  by_cases e : k / 8 = j
  · subst e
    rw [if_pos rfl]
    by_cases hn : k / 8 < n
    · rw [accRow_get _ _ _ _ hn, accRow_length, if_pos hn, hu]
    · rw [accRow_length, if_neg hn, List.getElem?_eq_none (by rw [accRow_length]; omega)]
  · rw [if_neg e]
    by_cases hn : j < n
    · rw [accRow_get _ _ _ _ hn, accRow_get _ _ _ _ hn, accAt_other _ _ _ (fun h => e h.symm)]
    · rw [List.getElem?_eq_none (by rw [accRow_length]; omega), List.getElem?_eq_none (by rw [accRow_length]; omega)]
theorem accRow_start (l : List UInt8) (n : Nat) : accRow l n 0 = (madeCells (Value.int .u8 0).cells (n * 1)).toList := by
  rw [show (Value.int .u8 0).cells = #[Value.int .u8 0] from rfl, toList_madeCells_one]
  apply List.ext_getElem?
  intro j
  by_cases hn : j < n
  · rw [accRow_get _ _ _ _ hn, List.getElem?_replicate, if_pos (by omega)]; simp [accAt, partVal]
  · rw [List.getElem?_eq_none (by rw [accRow_length]; omega), List.getElem?_eq_none (by simp; omega)]
theorem accRow_end (l : List UInt8) : accRow l ((l.length + 7) / 8) l.length = byt (bytesOf l) := by
  simp only [accRow, byt, bytesOf, List.map_map]
  apply List.map_congr_left
  intro q hq
  have hq : q < (l.length + 7) / 8 := by simpa using hq
  have h1 : accAt l l.length q = partVal l (8 * q) 8 := by
    unfold accAt
    have hj : min 8 (l.length - 8 * q) ≤ 8 := Nat.min_le_left _ _
    by_cases h : 8 ≤ l.length - 8 * q
    · rw [Nat.min_eq_left h]; simp
    · rw [← partVal_past _ _ _ _ (by omega), show min 8 (l.length - 8 * q) + (8 - min 8 (l.length - 8 * q)) = 8 by omega]
  have h2 := partVal_lt l (8 * q) 8
  simp only [Function.comp]
  rw [h1, UInt8.toNat_ofNat']
  congr 2
  omega

/-- one step of the row's byte, in the walk's own form. -/
theorem acc_bounds (l : List UInt8) (k : Nat) : accAt l k (k / 8) % 2 ^ (8 - k % 8) = 0 ∧ accAt l k (k / 8) < 256 := by
  unfold accAt
  rw [show min 8 (k - 8 * (k / 8)) = k % 8 by omega]
  refine ⟨by simp, ?_⟩
  have h := partVal_lt l (8 * (k / 8)) (k % 8)
  calc partVal l (8 * (k / 8)) (k % 8) * 2 ^ (8 - k % 8) < 2 ^ (k % 8) * 2 ^ (8 - k % 8) := Nat.mul_lt_mul_of_pos_right h (Nat.pow_pos (by decide))
    _ = 256 := by rw [← Nat.pow_add, show k % 8 + (8 - k % 8) = 8 by omega]

theorem or_cell (l : List UInt8) (k : Nat) (c : Int) (hc : c - 48 = bitAt l k) :
    bits .or .u8 (accAt l k (k / 8) : Nat) ((c - 48) * 2 ^ (7 - k % 8) % 256) = (accAt l (k + 1) (k / 8) : Nat) := by
  rw [hc, accAt_this]
  obtain ⟨h1, h2⟩ := acc_bounds l k
  have h3 := bitAt_le l k
  have hp : 2 ^ (7 - k % 8) ≤ 2 ^ 7 := Nat.pow_le_pow_right (by decide) (by omega)
  have hq := pow_split (k % 8) (Nat.mod_lt _ (by decide))
  rw [hq] at h1
  have hx : (bitAt l k : Int) * 2 ^ (7 - k % 8) % 256 = ((bitAt l k * 2 ^ (7 - k % 8) : Nat) : Int) := by
    rw [pow_cast, ← Int.natCast_mul]
    have : bitAt l k * 2 ^ (7 - k % 8) < 256 := by
      have : bitAt l k * 2 ^ (7 - k % 8) ≤ 1 * 2 ^ (7 - k % 8) := Nat.mul_le_mul_right _ h3
      omega
    omega
  rw [hx]
  have hlt : bitAt l k * 2 ^ (7 - k % 8) < 2 ^ (8 - k % 8) := by
    have : bitAt l k * 2 ^ (7 - k % 8) ≤ 1 * 2 ^ (7 - k % 8) := Nat.mul_le_mul_right _ h3
    have : 0 < 2 ^ (7 - k % 8) := Nat.pow_pos (by decide)
    omega
  rw [bits_join .u8 8 (by decide) wraps_u8 (8 - k % 8) _ _ (by omega) (by rw [pow_cast, hq, ← Int.natCast_emod, h1]; rfl) (by omega) (by omega) (by rw [pow_cast]; exact Int.ofNat_lt.2 hlt) (by
    have : bitAt l k * 2 ^ (7 - k % 8) ≤ 1 * 2 ^ (7 - k % 8) := Nat.mul_le_mul_right _ h3
    generalize bitAt l k * 2 ^ (7 - k % 8) = z at *
    omega)]
  rw [Int.natCast_add]

end Go.Proofs.Ytolcndchfnifhab

/- Bytes as bits: plain mathematics. -/
namespace Go.Proofs.Ytolcndchfnifhab
open Go.RowKit

/-- eight bits of each byte, the highest first. -/
def rowOf (l : List UInt8) : List UInt8 := l.flatMap fun c => numBits c.toNat 8
theorem rowOf_nil : rowOf [] = [] := rfl
theorem rowOf_snoc (l : List UInt8) (c : UInt8) : rowOf (l ++ [c]) = rowOf l ++ numBits c.toNat 8 := by simp [rowOf]
theorem rowOf_cons (l : List UInt8) (c : UInt8) : rowOf (c :: l) = numBits c.toNat 8 ++ rowOf l := by simp [rowOf]
theorem rowOf_length (l : List UInt8) : (rowOf l).length = 8 * l.length := by
  induction l with
  | nil => rfl
  | cons c l ih => rw [rowOf_cons, List.length_append, numBits_length, ih, List.length_cons]; omega

theorem numBits_get (n k j : Nat) (h : j < k) : (numBits n k)[j]? = some (UInt8.ofNat (48 + n / 2 ^ (k - 1 - j) % 2)) := by
  induction k generalizing j with
  | zero => omega
  | succ k ih =>
    rw [numBits_cons]
    cases j with
    | zero => simp
    | succ j => rw [List.getElem?_cons_succ, ih j (by omega), show k + 1 - 1 - (j + 1) = k - 1 - j by omega]

theorem and1u8 (x : Nat) (h : x < 256) : bits .and .u8 (x : Int) 1 = ((x % 2 : Nat) : Int) := by
  have h1 : (BitVec.ofInt 8 1).toNat = 2 ^ 1 - 1 := by decide
  have key : (BitVec.ofInt 8 (x : Int) &&& BitVec.ofInt 8 1).toNat = ((x : Int) % ((2 ^ 8 : Nat) : Int)).toNat % 2 ^ 1 := by
    rw [BitVec.toNat_and, BitVec.toNat_ofInt, h1, Nat.and_two_pow_sub_one_eq_mod]
  show IntKind.u8.wrap ((BitVec.ofInt 8 (x : Int) &&& BitVec.ofInt 8 1).toNat : Nat) = _
  rw [key, IntKind.wrap_u8]
  omega
/-- the byte that both loops lay, in the walk's own form. -/
theorem bit8_cell (c t : Nat) (hc : c < 256) : (48 + bits BinOp.and IntKind.u8 ((c : Int) / 2 ^ t) 1) % 256 = ((48 + c / 2 ^ t % 2 : Nat) : Int) := by
  rw [pow_cast, ← Int.natCast_ediv, and1u8 _ (Nat.lt_of_le_of_lt (Nat.div_le_self _ _) hc)]
  omega
theorem byt_bit (n : Nat) : byt [UInt8.ofNat (48 + n % 2)] = [Value.int .u8 ((48 + n % 2 : Nat) : Int)] := byt_one _ (by omega)
theorem take_bits (c t : Nat) (h : t < 8) : (numBits c 8).take (8 - t) = (numBits c 8).take (7 - t) ++ [UInt8.ofNat (48 + c / 2 ^ t % 2)] := by
  have h1 : 7 - t < (numBits c 8).length := by rw [numBits_length]; omega
  rw [show 8 - t = (7 - t) + 1 by omega, List.take_succ_eq_append_getElem h1]
  congr 2
  have := numBits_get c 8 (7 - t) (by omega)
  rw [List.getElem?_eq_getElem h1] at this
  simp only [Option.some.injEq] at this
  rw [this, show 8 - 1 - (7 - t) = t by omega]

theorem numBits_allB (n k : Nat) : allB (numBits n k) = true := by
  induction k generalizing n with
  | zero => rfl
  | succ k ih =>
    rw [numBits, allB_snoc, ih, Bool.true_and]
    have h2 : n % 2 < 2 := Nat.mod_lt _ (by decide)
    simp only [isBit, UInt8.toNat_ofNat', decide_eq_true_eq]
    omega
theorem rowOf_allB (l : List UInt8) : allB (rowOf l) = true := by
  induction l with
  | nil => rfl
  | cons c l ih => rw [rowOf_cons, allB_append, numBits_allB, ih]; rfl

end Go.Proofs.Ytolcndchfnifhab

/- Samples as bits, and back: plain mathematics. -/
namespace Go.Proofs.Ytolcndchfnifhab
open Go.RowKit

/-- may the number be written so? -/
def numOk (n size : Int) : Bool := decide (0 ≤ size ∧ size ≤ 16 ∧ 0 ≤ n ∧ n < 2 ^ size.toNat)
/-- what Number answers. -/
def numS (n size : Int) : ByteArray := if numOk n size = true then str (numBits n.toNat size.toNat) else str []
def numE (n size : Int) : Int := if numOk n size = true then 0 else 3

theorem pow16 {n : Nat} (h : n ≤ 16) : 2 ^ n ≤ 65536 := Nat.le_trans (Nat.pow_le_pow_right (by decide) h) (by decide)

theorem numOk_cases (n size : Int) : (∃ m k : Nat, n = m ∧ size = k ∧ k ≤ 16 ∧ m < 2 ^ k ∧ numOk n size = true) ∨
    (numOk n size = false ∧ (size < 0 ∨ 16 < size ∨ (0 ≤ size ∧ size ≤ 16 ∧ n < 0) ∨ ∃ k p : Nat, size = k ∧ k ≤ 16 ∧ p = 2 ^ k ∧ (p : Int) ≤ n)) := by
  by_cases h : numOk n size = true
  · left
    have h' := h
    simp only [numOk, decide_eq_true_eq] at h'
    obtain ⟨h1, h2, h3, h4⟩ := h'
    refine ⟨n.toNat, size.toNat, by omega, by omega, by omega, ?_, h⟩
    rw [pow_cast] at h4
    generalize 2 ^ size.toNat = p at *
    omega
  · right
    have h : numOk n size = false := by simpa using h
    refine ⟨h, ?_⟩
    simp only [numOk, decide_eq_false_iff_not] at h
    by_cases a : size < 0
    · exact .inl a
    by_cases b : 16 < size
    · exact .inr (.inl b)
    by_cases c : n < 0
    · exact .inr (.inr (.inl ⟨by omega, by omega, c⟩))
    · refine .inr (.inr (.inr ⟨size.toNat, 2 ^ size.toNat, by omega, by omega, rfl, ?_⟩))
      have : ¬ n < 2 ^ size.toNat := fun hh => h ⟨by omega, by omega, by omega, hh⟩
      rw [pow_cast] at this
      generalize 2 ^ size.toNat = p at *
      omega

/-- the bits of all samples. -/
def packBits (xs : List Int) (d : Int) : List UInt8 := xs.flatMap fun n => numBits n.toNat d.toNat
theorem packBits_snoc (xs : List Int) (n d : Int) : packBits (xs ++ [n]) d = packBits xs d ++ numBits n.toNat d.toNat := by simp [packBits]
theorem packBits_cons (xs : List Int) (n d : Int) : packBits (n :: xs) d = numBits n.toNat d.toNat ++ packBits xs d := by simp [packBits]
theorem packBits_length (xs : List Int) (d : Int) : (packBits xs d).length = xs.length * d.toNat := by
  induction xs with
  | nil => simp [packBits]
  | cons n xs ih => rw [packBits_cons, List.length_append, numBits_length, ih, List.length_cons, Nat.succ_mul]; omega
theorem packBits_allB (xs : List Int) (d : Int) : allB (packBits xs d) = true := by
  induction xs with
  | nil => rfl
  | cons n xs ih => rw [packBits_cons, allB_append, numBits_allB, ih]; rfl

/-- may all samples be written so? -/
def allOk (xs : List Int) (d : Int) : Bool := xs.all fun n => numOk n d
theorem allOk_snoc (xs : List Int) (n d : Int) : allOk (xs ++ [n]) d = (allOk xs d && numOk n d) := by simp [allOk]
theorem allOk_false (xs : List Int) (d : Int) (k : Nat) (h : k < xs.length) (hn : numOk xs[k] d = false) : allOk xs d = false := by
  rw [Bool.eq_false_iff]; intro hh
  have := List.all_eq_true.1 hh xs[k] (List.getElem_mem h)
  rw [hn] at this; cases this

def isDepthB (d : Int) : Bool := decide (1 ≤ d ∧ d ≤ 16)
/-- what Pack answers. -/
def packE (xs : List Int) (d : Int) : Int := if isDepthB d = true then (if xs.length ≤ 4096 then (if allOk xs d = true then 0 else 3) else 2) else 3
def packS (xs : List Int) (d : Int) : List UInt8 := if packE xs d = 0 then bytesOf (packBits xs d) else []

end Go.Proofs.Ytolcndchfnifhab

/- Bits as samples: plain mathematics. -/
namespace Go.Proofs.Ytolcndchfnifhab
open Go.RowKit

def bitCh (l : List UInt8) (k : Nat) : UInt8 := UInt8.ofNat (48 + bitAt l k)

theorem numBits_partVal (l : List UInt8) (i j : Nat) : numBits (partVal l i j) j = (List.range j).map fun r => bitCh l (i + r) := by
  induction j with
  | zero => rfl
  | succ j ih =>
    have hb := bitAt_le l (i + j)
    rw [partVal, numBits, show (2 * partVal l i j + bitAt l (i + j)) / 2 = partVal l i j by omega, show (2 * partVal l i j + bitAt l (i + j)) % 2 = bitAt l (i + j) by omega, ih, List.range_succ, List.map_append]
    rfl

theorem bytesTo_row (l : List UInt8) (n : Nat) : rowOf ((List.range n).map fun q => UInt8.ofNat (partVal l (8 * q) 8)) = (List.range (8 * n)).map (bitCh l) := by
  induction n with
  | zero => rfl
  | succ n ih =>
    rw [List.range_succ, List.map_append, List.map_singleton, rowOf_snoc, ih]
    have h : (UInt8.ofNat (partVal l (8 * n) 8)).toNat = partVal l (8 * n) 8 := by
      have := partVal_lt l (8 * n) 8
      rw [UInt8.toNat_ofNat']; omega
    rw [h, numBits_partVal, show 8 * (n + 1) = 8 * n + 8 by omega, List.range_add, List.map_append, List.map_map]
    rfl

theorem bitCh_of (l : List UInt8) (hb : allB l = true) (k : Nat) (h : k < l.length) : bitCh l k = l[k] := by
  have h1 := allB_get hb k h
  rw [bitCh, bitAt_of l k h hb, show 48 + (l[k].toNat - 48) = l[k].toNat by omega]
  simp

/-- the bits of the bytes of bits: these, and 0 behind them. -/
theorem row_bytes (l : List UInt8) (hb : allB l = true) : rowOf (bytesOf l) = l ++ List.replicate (8 * ((l.length + 7) / 8) - l.length) 48 := by
  rw [bytesOf, bytesTo_row]
  apply List.ext_getElem?
  intro j
  by_cases h1 : j < l.length
  · rw [List.getElem?_append_left h1, List.getElem?_map, List.getElem?_range (by omega), List.getElem?_eq_getElem h1]
    simp [bitCh_of l hb j h1]
  · rw [List.getElem?_append_right (by omega), List.getElem?_map]
    by_cases h2 : j < 8 * ((l.length + 7) / 8)
    · rw [List.getElem?_range h2, List.getElem?_replicate, if_pos (by omega)]
      simp [bitCh, bitAt_past l j (by omega)]
    · rw [List.getElem?_replicate, if_neg (by omega), List.getElem?_eq_none (by simp; omega)]
      rfl

theorem row_get (l : List UInt8) (q r : Nat) (hq : q < l.length) (hr : r < 8) : (rowOf l)[8 * q + r]? = some (UInt8.ofNat (48 + l[q].toNat / 2 ^ (7 - r) % 2)) := by
  induction l generalizing q with
  | nil => simp at hq
  | cons c l ih =>
    rw [rowOf_cons]
    cases q with
    | zero =>
      rw [List.getElem?_append_left (by rw [numBits_length]; omega)]
      have := numBits_get c.toNat 8 r hr
      simpa [show 8 - 1 - r = 7 - r by omega] using this
    | succ q =>
      rw [List.getElem?_append_right (by rw [numBits_length]; omega), numBits_length, show 8 * (q + 1) + r - 8 = 8 * q + r by omega, ih q (by simpa using hq)]
      rfl

theorem bitAt_row (l : List UInt8) (q r : Nat) (hq : q < l.length) (hr : r < 8) : bitAt (rowOf l) (8 * q + r) = l[q].toNat / 2 ^ (7 - r) % 2 := by
  unfold bitAt
  rw [row_get l q r hq hr]
  have h2 : l[q].toNat / 2 ^ (7 - r) % 2 < 2 := Nat.mod_lt _ (by decide)
  generalize l[q].toNat / 2 ^ (7 - r) % 2 = z at *
  rcases (show z = 0 ∨ z = 1 by omega) with rfl | rfl <;> decide

theorem partVal_row (l : List UInt8) (q : Nat) (hq : q < l.length) (j : Nat) (hj : j ≤ 8) : partVal (rowOf l) (8 * q) j = l[q].toNat / 2 ^ (8 - j) := by
  induction j with
  | zero =>
    have : l[q].toNat < 256 := l[q].toNat_lt
    rw [partVal, Nat.div_eq_of_lt (by simpa using this)]
  | succ j ih =>
    rw [partVal, ih (by omega), bitAt_row l q j hq (by omega), show 8 - j = (7 - j) + 1 by omega, Nat.pow_succ, ← Nat.div_div_eq_div_mul, show 8 - (j + 1) = 7 - j by omega]
    omega

theorem bytes_row (l : List UInt8) : bytesOf (rowOf l) = l := by
  rw [bytesOf, rowOf_length, show (8 * l.length + 7) / 8 = l.length by omega]
  apply List.ext_getElem?
  intro j
  by_cases h : j < l.length
  · rw [List.getElem?_map, List.getElem?_range h, List.getElem?_eq_getElem h]
    simp [partVal_row l j h 8 (by omega)]
  · rw [List.getElem?_eq_none (by simp; omega), List.getElem?_eq_none (by omega)]

/-- bits that are a number's. -/
theorem numBits_valOf (l : List UInt8) (hb : allB l = true) : numBits (valOf l) l.length = l := by
  refine snoc_ind (P := fun l => allB l = true → numBits (valOf l) l.length = l) ?_ ?_ l hb
  · intro _; rfl
  · intro l c ih h
    rw [allB_snoc, Bool.and_eq_true] at h
    have hc : c.toNat = 48 ∨ c.toNat = 49 := by simpa [isBit] using h.2
    rw [List.length_append, List.length_singleton, numBits, valOf_snoc, show (2 * valOf l + (c.toNat - 48)) / 2 = valOf l by omega, ih h.1,
      show 48 + (2 * valOf l + (c.toNat - 48)) % 2 = c.toNat by omega]
    simp

/-- the first n samples of so many bits each. -/
def vals (b : List UInt8) (D n : Nat) : List Int := (List.range n).map fun i => (valOf ((b.drop (i * D)).take D) : Int)
theorem vals_length (b : List UInt8) (D n : Nat) : (vals b D n).length = n := by simp [vals]
theorem vals_succ (b : List UInt8) (D n : Nat) : vals b D (n + 1) = vals b D n ++ [(valOf ((b.drop (n * D)).take D) : Int)] := by simp [vals, List.range_succ]

theorem chunk_length (b : List UInt8) (D n i : Nat) (h : n * D ≤ b.length) (hi : i < n) : ((b.drop (i * D)).take D).length = D := by
  rw [List.length_take, List.length_drop]
  have : (i + 1) * D ≤ n * D := Nat.mul_le_mul_right _ hi
  rw [Nat.succ_mul] at this
  omega

theorem pack_vals (b : List UInt8) (D n : Nat) (hb : allB b = true) (h : n * D ≤ b.length) : packBits (vals b D n) D = b.take (n * D) := by
  induction n with
  | zero => simp [vals, packBits]
  | succ n ih =>
    have h' : n * D ≤ b.length := by rw [Nat.succ_mul] at h; omega
    rw [vals_succ, packBits_snoc, ih h', Int.toNat_natCast, Int.toNat_natCast]
    have hl := chunk_length b D (n + 1) n h (by omega)
    have := numBits_valOf ((b.drop (n * D)).take D) (allB_take (allB_drop hb _) _)
    rw [hl] at this
    rw [this, Nat.succ_mul, List.take_add]

theorem vals_ok (b : List UInt8) (D n : Nat) (hD : D ≤ 16) (hb : allB b = true) (h : n * D ≤ b.length) : allOk (vals b D n) D = true := by
  rw [allOk, List.all_eq_true]
  intro x hx
  simp only [vals, List.mem_map, List.mem_range] at hx
  obtain ⟨i, hi, rfl⟩ := hx
  have h1 := valOf_lt ((b.drop (i * D)).take D) (allB_take (allB_drop hb _) _)
  rw [chunk_length b D n i h hi] at h1
  simp only [numOk, decide_eq_true_eq]
  rw [pow_cast, Int.toNat_natCast]
  generalize 2 ^ D = p at *
  omega

/-- is a 1 among them? -/
def hasOne (l : List UInt8) : Bool := l.any fun c => c == 49

theorem zeros_of (l : List UInt8) (hb : allB l = true) (h : hasOne l = false) : l = List.replicate l.length 48 := by
  apply List.eq_replicate_of_mem
  intro c hc
  have h1 := List.all_eq_true.1 hb c hc
  have h2 : ¬ c = 49 := by
    intro e
    have : hasOne l = true := List.any_eq_true.2 ⟨c, hc, by simp [e]⟩
    rw [h] at this; cases this
  have h3 : c.toNat = 48 ∨ c.toNat = 49 := by simpa [isBit] using h1
  rcases h3 with h3 | h3
  · exact UInt8.toNat_inj.1 h3
  · exact absurd (UInt8.toNat_inj.1 h3) h2
theorem hasOne_zeros (n : Nat) : hasOne (List.replicate n 48) = false := by
  rw [Bool.eq_false_iff]
  intro h
  obtain ⟨c, hc, h1⟩ := List.any_eq_true.1 h
  rw [List.eq_of_mem_replicate hc] at h1
  cases h1

/-- only what Pack makes is read. -/
theorem packed_iff (s : List UInt8) (n D : Nat) (hl : s.length = (n * D + 7) / 8) : bytesOf ((rowOf s).take (n * D)) = s ↔ hasOne ((rowOf s).drop (n * D)) = false := by
  have hb := rowOf_allB s
  have hL := rowOf_length s
  have hle : n * D ≤ (rowOf s).length := by rw [hL]; omega
  have ht : ((rowOf s).take (n * D)).length = n * D := by rw [List.length_take]; omega
  constructor
  · intro h
    have h2 := row_bytes ((rowOf s).take (n * D)) (allB_take hb _)
    rw [h, ht] at h2
    have h3 : (rowOf s).drop (n * D) = List.replicate (8 * ((n * D + 7) / 8) - n * D) 48 := by
      rw [h2, List.drop_append_of_le_length (by rw [ht]; exact Nat.le_refl _), List.drop_of_length_le (by rw [ht]; exact Nat.le_refl _), List.nil_append]
    rw [h3]; exact hasOne_zeros _
  · intro h
    have h2 := zeros_of _ (allB_drop hb (n * D)) h
    have h3 : bytesOf ((rowOf s).take (n * D)) = bytesOf (rowOf s) := by
      rw [bytesOf, bytesOf, ht, hL, show (8 * s.length + 7) / 8 = (n * D + 7) / 8 by omega]
      apply List.map_congr_left
      intro q hq
      congr 1
      have key : ∀ k, bitAt ((rowOf s).take (n * D)) k = bitAt (rowOf s) k := by
        intro k
        unfold bitAt
        by_cases hk : k < n * D
        · rw [List.getElem?_take, if_pos hk]
        · rw [List.getElem?_take, if_neg hk]
          have : (rowOf s)[k]? ≠ some 49 := by
            have e : (rowOf s)[k]? = ((rowOf s).drop (n * D))[k - n * D]? := by rw [List.getElem?_drop]; congr 1; omega
            rw [e, h2, List.getElem?_replicate]
            split
            · decide
            · simp
          simp [this]
      have : ∀ j, partVal ((rowOf s).take (n * D)) (8 * q) j = partVal (rowOf s) (8 * q) j := by
        intro j
        induction j with
        | zero => rfl
        | succ j ih => rw [partVal, partVal, ih, key]
      exact this 8
    rw [h3, bytes_row]

end Go.Proofs.Ytolcndchfnifhab

/- Pack and Unpack undo each other: plain mathematics. -/
namespace Go.Proofs.Ytolcndchfnifhab
open Go.RowKit

theorem valOf_numBits (n k : Nat) (h : n < 2 ^ k) : valOf (numBits n k) = n := by
  induction k generalizing n with
  | zero => rw [numBits]; simp at h; rw [h]; rfl
  | succ k ih =>
    rw [Nat.pow_succ] at h
    have h2 : n % 2 < 2 := Nat.mod_lt _ (by decide)
    rw [numBits, valOf_snoc, ih (n / 2) (by omega), UInt8.toNat_ofNat']
    omega

theorem vals_pack (d : Int) (r : List UInt8) (xs : List Int) (hok : allOk xs d = true) : vals (packBits xs d ++ r) d.toNat xs.length = xs := by
  refine snoc_ind (P := fun xs => ∀ r, allOk xs d = true → vals (packBits xs d ++ r) d.toNat xs.length = xs) ?_ ?_ xs r hok
  · intro r _; rfl
  · intro xs x ih r h
    rw [allOk_snoc, Bool.and_eq_true] at h
    rw [packBits_snoc, List.append_assoc, List.length_append, List.length_singleton, vals_succ, ih _ h.1]
    have hl : (packBits xs d).length = xs.length * d.toNat := packBits_length xs d
    rw [List.drop_append_of_le_length (by omega), List.drop_of_length_le (by omega), List.nil_append, List.take_append_of_le_length (by rw [numBits_length]; exact Nat.le_refl _), List.take_of_length_le (by rw [numBits_length]; exact Nat.le_refl _)]
    rcases numOk_cases x d with ⟨m, k, rfl, rfl, h1, h2, _⟩ | ⟨h1, _⟩
    · rw [Int.toNat_natCast, Int.toNat_natCast, valOf_numBits m k h2]
    · rw [h1] at h; cases h.2

theorem packE_zero {xs : List Int} {d : Int} (h : packE xs d = 0) : isDepthB d = true ∧ xs.length ≤ 4096 ∧ allOk xs d = true := by
  unfold packE at h
  by_cases h1 : isDepthB d = true
  · rw [if_pos h1] at h
    by_cases h2 : xs.length ≤ 4096
    · rw [if_pos h2] at h
      by_cases h3 : allOk xs d = true
      · exact ⟨h1, h2, h3⟩
      · rw [if_neg h3] at h; exact absurd h (by decide)
    · rw [if_neg h2] at h; exact absurd h (by decide)
  · rw [if_neg h1] at h; exact absurd h (by decide)
theorem packE_of {xs : List Int} {d : Int} (h1 : isDepthB d = true) (h2 : xs.length ≤ 4096) (h3 : allOk xs d = true) : packE xs d = 0 := by
  rw [packE, if_pos h1, if_pos h2, if_pos h3]

/-- what Unpack answers: the list, the error. -/
def unpFine (s : List UInt8) (d n : Int) : Bool := decide (isDepthB d = true ∧ 0 ≤ n ∧ n ≤ 4096 ∧ s.length = (n.toNat * d.toNat + 7) / 8 ∧ hasOne ((rowOf s).drop (n.toNat * d.toNat)) = false)
def unpV (s : List UInt8) (d n : Int) : List Int := if unpFine s d n = true then vals (rowOf s) d.toNat n.toNat else []
def unpE (s : List UInt8) (d n : Int) : Int :=
  if isDepthB d = true ∧ 0 ≤ n then (if n ≤ 4096 then (if unpFine s d n = true then 0 else 1) else 2) else 3

theorem unpE_zero {s : List UInt8} {d n : Int} (h : unpE s d n = 0) : unpFine s d n = true := by
  unfold unpE at h
  by_cases h1 : isDepthB d = true ∧ 0 ≤ n
  · rw [if_pos h1] at h
    by_cases h2 : n ≤ 4096
    · rw [if_pos h2] at h
      by_cases h3 : unpFine s d n = true
      · exact h3
      · rw [if_neg h3] at h; exact absurd h (by decide)
    · rw [if_neg h2] at h; exact absurd h (by decide)
  · rw [if_neg h1] at h; exact absurd h (by decide)

theorem unpack_of_pack {xs : List Int} {d : Int} (h : packE xs d = 0) : unpE (packS xs d) d xs.length = 0 ∧ unpV (packS xs d) d xs.length = xs := by
  obtain ⟨h1, h2, h3⟩ := packE_zero h
  have hS : packS xs d = bytesOf (packBits xs d) := by rw [packS, if_pos h]
  have hb := packBits_allB xs d
  have hl := packBits_length xs d
  have hr := row_bytes (packBits xs d) hb
  have hf : unpFine (packS xs d) d xs.length = true := by
    simp only [unpFine, decide_eq_true_eq]
    refine ⟨h1, by omega, by omega, ?_, ?_⟩
    · rw [hS, bytesOf_length, hl, Int.toNat_natCast]
    · rw [hS, hr, Int.toNat_natCast, List.drop_append_of_le_length (by omega), List.drop_of_length_le (by omega), List.nil_append]
      exact hasOne_zeros _
  refine ⟨?_, ?_⟩
  · rw [unpE, if_pos ⟨h1, by omega⟩, if_pos (by omega), if_pos hf]
  · rw [unpV, if_pos hf, hS, hr, Int.toNat_natCast]
    exact vals_pack d _ xs h3

theorem pack_of_unpack {s : List UInt8} {d n : Int} (h : unpE s d n = 0) : packE (unpV s d n) d = 0 ∧ packS (unpV s d n) d = s ∧ (((unpV s d n).length : Nat) : Int) = n := by
  have hf := unpE_zero h
  have hf' := hf
  simp only [unpFine, decide_eq_true_eq] at hf'
  obtain ⟨h1, h2, h3, h4, h5⟩ := hf'
  have hd16 : 1 ≤ d ∧ d ≤ 16 := by simpa [isDepthB] using h1
  have hV : unpV s d n = vals (rowOf s) d.toNat n.toNat := by rw [unpV, if_pos hf]
  have hle : n.toNat * d.toNat ≤ (rowOf s).length := by rw [rowOf_length]; omega
  have hok := vals_ok (rowOf s) d.toNat n.toNat (by omega) (rowOf_allB s) hle
  have hdd : ((d.toNat : Nat) : Int) = d := by omega
  rw [hdd] at hok
  have hE : packE (unpV s d n) d = 0 := by
    rw [hV]
    exact packE_of h1 (by rw [vals_length]; omega) hok
  refine ⟨hE, ?_, ?_⟩
  · rw [packS, if_pos hE, hV]
    have := pack_vals (rowOf s) d.toNat n.toNat (rowOf_allB s) hle
    rw [hdd] at this
    rw [this]
    exact (packed_iff s n.toNat d.toNat h4).2 h5
  · rw [hV, vals_length]; omega

end Go.Proofs.Ytolcndchfnifhab

/- Codes: plain mathematics. -/
namespace Go.Proofs.Ytolcndchfnifhab
open Go.RowKit

def lenOk (x : Int) : Bool := decide (0 ≤ x ∧ x ≤ 15)
def lensOk (xs : List Int) : Bool := xs.all lenOk
/-- what a length takes of the whole. -/
def wt (x : Int) : Nat := if 0 < x then 2 ^ (15 - x.toNat) else 0
def ksum : List Int → Nat
  | [] => 0
  | x :: xs => wt x + ksum xs
theorem ksum_snoc (xs : List Int) (x : Int) : ksum (xs ++ [x]) = ksum xs + wt x := by
  induction xs with
  | nil => simp [ksum]
  | cons y xs ih => simp only [List.cons_append, ksum, ih]; omega
theorem lensOk_snoc (xs : List Int) (x : Int) : lensOk (xs ++ [x]) = (lensOk xs && lenOk x) := by simp [lensOk]
theorem lensOk_false (xs : List Int) (k : Nat) (h : k < xs.length) (hn : lenOk xs[k] = false) : lensOk xs = false := by
  rw [Bool.eq_false_iff]; intro hh
  have := List.all_eq_true.1 hh xs[k] (List.getElem_mem h)
  rw [hn] at this; cases this
theorem lensOk_get {xs : List Int} (h : lensOk xs = true) (k : Nat) (hk : k < xs.length) : 0 ≤ xs[k] ∧ xs[k] ≤ 15 := by
  have := List.all_eq_true.1 h xs[k] (List.getElem_mem hk)
  simpa [lenOk] using this
theorem wt_le (x : Int) : wt x ≤ 32768 := by
  unfold wt
  split
  · exact Nat.le_trans (Nat.pow_le_pow_right (by decide) (Nat.sub_le _ _)) (by decide)
  · decide
theorem wt_pos (x : Int) (h : 0 < x) : 0 < wt x := by unfold wt; rw [if_pos h]; exact Nat.pow_pos (by decide)
theorem ksum_le (xs : List Int) : ksum xs ≤ 32768 * xs.length := by
  induction xs with
  | nil => simp [ksum]
  | cons x xs ih => have := wt_le x; simp only [ksum, List.length_cons]; omega
/-- has a number a word? -/
def anyUsed (xs : List Int) : Bool := xs.any fun x => decide (0 < x)
theorem anyUsed_snoc (xs : List Int) (x : Int) : anyUsed (xs ++ [x]) = (anyUsed xs || decide (0 < x)) := by simp [anyUsed]
theorem used_iff (xs : List Int) : ksum xs = 0 ↔ anyUsed xs = false := by
  induction xs with
  | nil => simp [ksum, anyUsed]
  | cons x xs ih =>
    simp only [ksum, anyUsed, List.any_cons, Bool.or_eq_false_iff, decide_eq_false_iff_not] at *
    rw [← ih]
    by_cases h : 0 < x
    · have := wt_pos x h
      constructor
      · intro h2; omega
      · intro h2; exact absurd h h2.1
    · have : wt x = 0 := by unfold wt; rw [if_neg h]
      rw [this]
      constructor
      · intro h2; exact ⟨h, by omega⟩
      · intro h2; omega

/-- what Check answers. -/
def checkE (xs : List Int) : Int :=
  if 1 ≤ xs.length ∧ xs.length ≤ 17 then (if lensOk xs = true then (if ksum xs = 0 ∨ 32768 < ksum xs then 1 else 0) else 3) else 2
theorem checkE_zero {xs : List Int} (h : checkE xs = 0) : 1 ≤ xs.length ∧ xs.length ≤ 17 ∧ lensOk xs = true ∧ 0 < ksum xs ∧ ksum xs ≤ 32768 := by
  unfold checkE at h
  by_cases h1 : 1 ≤ xs.length ∧ xs.length ≤ 17
  · rw [if_pos h1] at h
    by_cases h2 : lensOk xs = true
    · rw [if_pos h2] at h
      by_cases h3 : ksum xs = 0 ∨ 32768 < ksum xs
      · rw [if_pos h3] at h; exact absurd h (by decide)
      · exact ⟨h1.1, h1.2, h2, by omega, by omega⟩
    · rw [if_neg h2] at h; exact absurd h (by decide)
  · rw [if_neg h1] at h; exact absurd h (by decide)

/-- how many have just this length. -/
def cntAll (xs : List Int) (s : Int) : Nat := (xs.filter fun x => decide (x = s)).length
def cnt (xs : List Int) (s : Int) (k : Nat) : Nat := cntAll (xs.take k) s
theorem cnt_zero (xs : List Int) (s : Int) : cnt xs s 0 = 0 := rfl
theorem cnt_succ (xs : List Int) (s : Int) (k : Nat) (h : k < xs.length) : cnt xs s (k + 1) = cnt xs s k + if xs[k] = s then 1 else 0 := by
  unfold cnt cntAll
  rw [List.take_succ_eq_append_getElem h, List.filter_append, List.length_append]
  by_cases e : xs[k] = s <;> simp [e]
theorem cnt_all (xs : List Int) (s : Int) : cnt xs s xs.length = cntAll xs s := by unfold cnt; rw [List.take_length]
theorem cnt_le (xs : List Int) (s : Int) (k : Nat) : cnt xs s k ≤ cntAll xs s := by
  unfold cnt cntAll
  exact (List.Sublist.filter _ (List.take_sublist k xs)).length_le

/-- what is taken by lengths up to t. -/
def low : List Int → Nat → Nat
  | [], _ => 0
  | x :: xs, t => (if x ≤ t then wt x else 0) + low xs t
theorem low_le (xs : List Int) (t : Nat) : low xs t ≤ ksum xs := by
  induction xs with
  | nil => exact Nat.le_refl _
  | cons x xs ih => simp only [low, ksum]; split <;> omega
theorem low_zero (xs : List Int) : low xs 0 = 0 := by
  induction xs with
  | nil => rfl
  | cons x xs ih =>
    simp only [low, ih]
    split
    · rename_i h
      have : wt x = 0 := by unfold wt; rw [if_neg (by omega)]
      omega
    · rfl
theorem low_succ (xs : List Int) (t : Nat) (_ht : t ≤ 14) : low xs (t + 1) = low xs t + cntAll xs ((t : Int) + 1) * 2 ^ (14 - t) := by
  induction xs with
  | nil => simp [low, cntAll]
  | cons x xs ih =>
    simp only [low, cntAll, List.filter_cons] at *
    rw [ih]
    by_cases h : x = (t : Int) + 1
    · subst h
      have hw : wt ((t : Int) + 1) = 2 ^ (14 - t) := by
        unfold wt
        rw [if_pos (by omega), show 15 - ((t : Int) + 1).toNat = 14 - t by omega]
      rw [if_pos (by omega), if_neg (by omega), hw]
      simp only [decide_true, if_true, List.length_cons]
      rw [Nat.succ_mul]
      omega
    · have e : (if x ≤ ((t + 1 : Nat) : Int) then wt x else 0) = (if x ≤ (t : Int) then wt x else 0) := by
        by_cases h2 : x ≤ (t : Int)
        · rw [if_pos h2, if_pos (by omega)]
        · rw [if_neg h2, if_neg (by omega)]
      rw [e]
      simp only [h, decide_false]
      simp only [Bool.false_eq_true, if_false]
      omega

/-- the number with which the words of t + 1 bits begin. -/
def base (xs : List Int) : Nat → Nat
  | 0 => 0
  | t + 1 => 2 * (base xs t + cntAll xs ((t : Int) + 1))
theorem base_low (xs : List Int) (t : Nat) (ht : t ≤ 14) : base xs t * 2 ^ (14 - t) = low xs t := by
  induction t with
  | zero => rw [low_zero]; simp [base]
  | succ t ih =>
    have ih := ih (by omega)
    rw [base, low_succ xs t (by omega), ← ih, show 14 - t = (14 - (t + 1)) + 1 by omega, Nat.pow_succ]
    generalize 2 ^ (14 - (t + 1)) = p
    generalize base xs t = a
    generalize cntAll xs ((t : Int) + 1) = c
    rw [Nat.mul_comm 2, Nat.mul_assoc, Nat.mul_comm 2 p, Nat.add_mul]

/-- the next number at size t + 1, behind k lengths. -/
def nxt (xs : List Int) (t k : Nat) : Nat := base xs t + cnt xs ((t : Int) + 1) k
theorem nxt_zero (xs : List Int) (t : Nat) : nxt xs t 0 = base xs t := by rw [nxt, cnt_zero, Nat.add_zero]
theorem nxt_end (xs : List Int) (t : Nat) : base xs (t + 1) = 2 * nxt xs t xs.length := by rw [nxt, cnt_all]; rfl
theorem nxt_fits (xs : List Int) (t k : Nat) (ht : t ≤ 14) (hs : ksum xs ≤ 32768) : nxt xs t k ≤ 2 ^ (t + 1) := by
  have h1 := base_low xs t ht
  have h2 := low_succ xs t ht
  have h3 := low_le xs (t + 1)
  have h4 := cnt_le xs ((t : Int) + 1) k
  have h5 : nxt xs t k * 2 ^ (14 - t) ≤ 2 ^ (t + 1) * 2 ^ (14 - t) := by
    rw [← Nat.pow_add, show t + 1 + (14 - t) = 15 by omega, nxt, Nat.add_mul, h1]
    have := Nat.mul_le_mul_right (2 ^ (14 - t)) h4
    omega
  exact Nat.le_of_mul_le_mul_right h5 (Nat.pow_pos (by decide))
theorem nxt_lt (xs : List Int) (t k : Nat) (ht : t ≤ 14) (hs : ksum xs ≤ 32768) (hk : k < xs.length) (he : xs[k] = (t : Int) + 1) : nxt xs t k < 2 ^ (t + 1) := by
  have h := nxt_fits xs t (k + 1) ht hs
  rw [nxt, cnt_succ xs _ k hk, if_pos he] at h
  rw [nxt]
  omega

/-- the word of the number i. -/
def word (xs : List Int) (i : Nat) : List UInt8 :=
  if 1 ≤ xs.getD i 0 then numBits (nxt xs ((xs.getD i 0).toNat - 1) i) (xs.getD i 0).toNat else []
/-- all words. -/
def wordsOf (xs : List Int) : List (List UInt8) := (List.range xs.length).map (word xs)
theorem wordsOf_length (xs : List Int) : (wordsOf xs).length = xs.length := by simp [wordsOf]
theorem wordsOf_get (xs : List Int) (i : Nat) (h : i < xs.length) : (wordsOf xs)[i]'(by rw [wordsOf_length]; exact h) = word xs i := by simp [wordsOf]

/-- has the number i its word, behind all sizes up to t and k lengths of the next one? -/
def doneB (xs : List Int) (t k i : Nat) : Bool := decide (1 ≤ xs.getD i 0 ∧ (xs.getD i 0 ≤ t ∨ (xs.getD i 0 = (t : Int) + 1 ∧ i < k)))
def wordAt (xs : List Int) (t k i : Nat) : List UInt8 := if doneB xs t k i = true then word xs i else []

/-- texts as cells. -/
def txtRow (n : Nat) (f : Nat → List UInt8) : List Value := (List.range n).map fun i => Value.string (str (f i))
theorem txtRow_length (n : Nat) (f : Nat → List UInt8) : (txtRow n f).length = n := by simp [txtRow]
theorem txtRow_get (n : Nat) (f : Nat → List UInt8) (i : Nat) (h : i < n) : (txtRow n f)[i]? = some (.string (str (f i))) := by simp [txtRow, h]
theorem txtRow_congr (n : Nat) (f g : Nat → List UInt8) (h : ∀ i, i < n → f i = g i) : txtRow n f = txtRow n g := by
  unfold txtRow
  apply List.map_congr_left
  intro i hi
  rw [h i (by simpa using hi)]
theorem txtRow_set (n : Nat) (f g : Nat → List UInt8) (k : Nat) (v : List UInt8) (hk : g k = v) (ho : ∀ i, i < n → i ≠ k → g i = f i) : (txtRow n f).set k (.string (str v)) = txtRow n g := by
  apply List.ext_getElem?
  intro j
  rw [List.getElem?_set]
  by_cases hj : j < n
  · rw [txtRow_get n g j hj]
    by_cases e : k = j
    · subst e; rw [if_pos rfl, txtRow_length, if_pos hj, hk]
    · rw [if_neg e, txtRow_get n f j hj, ho j hj (fun h => e h.symm)]
  · rw [List.getElem?_eq_none (by rw [txtRow_length]; omega), List.getElem?_eq_none (by rw [txtRow_length]; omega), txtRow_length]
    by_cases e : k = j
    · subst e; rw [if_pos rfl, if_neg hj]
    · rw [if_neg e]

theorem wordAt_start (xs : List Int) (i : Nat) : wordAt xs 0 0 i = [] := by
  unfold wordAt
  rw [if_neg]
  simp only [doneB, decide_eq_true_eq]
  omega
theorem wordAt_skip (xs : List Int) (t k i : Nat) (hk : k < xs.length) (h : xs[k] ≠ (t : Int) + 1) : wordAt xs t (k + 1) i = wordAt xs t k i := by
  unfold wordAt
  have hg : xs.getD k 0 = xs[k] := by simp [List.getD, List.getElem?_eq_getElem hk]
  have e : doneB xs t (k + 1) i = doneB xs t k i := by
    unfold doneB
    apply decide_eq_decide.2
    by_cases hi : i = k
    · subst hi; omega
    · omega
  rw [e]
theorem wordAt_other (xs : List Int) (t k i : Nat) (hi : i ≠ k) : wordAt xs t (k + 1) i = wordAt xs t k i := by
  unfold wordAt
  have e : doneB xs t (k + 1) i = doneB xs t k i := by
    unfold doneB
    apply decide_eq_decide.2
    omega
  rw [e]
theorem wordAt_this (xs : List Int) (t k : Nat) (hk : k < xs.length) (h : xs[k] = (t : Int) + 1) : wordAt xs t (k + 1) k = numBits (nxt xs t k) (t + 1) := by
  have hg : xs.getD k 0 = xs[k] := by simp [List.getD, List.getElem?_eq_getElem hk]
  unfold wordAt
  rw [if_pos (by simp only [doneB, decide_eq_true_eq]; omega), word, if_pos (by omega), hg, h]
  simp
theorem wordAt_turn (xs : List Int) (t i : Nat) (hi : i < xs.length) : wordAt xs (t + 1) 0 i = wordAt xs t xs.length i := by
  unfold wordAt
  have e : doneB xs (t + 1) 0 i = doneB xs t xs.length i := by
    unfold doneB
    apply decide_eq_decide.2
    omega
  rw [e]
theorem wordAt_end (xs : List Int) (i : Nat) (hi : i < xs.length) (hok : lensOk xs = true) : wordAt xs 15 0 i = word xs i := by
  have hg : xs.getD i 0 = xs[i] := by simp [List.getD, List.getElem?_eq_getElem hi]
  have h := lensOk_get hok i hi
  unfold wordAt
  by_cases h1 : 1 ≤ xs.getD i 0
  · rw [if_pos (by simp only [doneB, decide_eq_true_eq]; omega)]
  · rw [if_neg (by simp only [doneB, decide_eq_true_eq]; omega), word, if_neg h1]

end Go.Proofs.Ytolcndchfnifhab

/- What Write answers: plain mathematics. -/
namespace Go.Proofs.Ytolcndchfnifhab
open Go.RowKit

/-- what Word answers. -/
def wordS (ts : List (List UInt8)) (n : Int) : List UInt8 := if 0 ≤ n ∧ n < ts.length then ts.getD n.toNat [] else []
def wordE (ts : List (List UInt8)) (n : Int) : Int := if wordS ts n = [] then 4 else 0
def allWords (ts : List (List UInt8)) (l : List Int) : Bool := l.all fun n => decide (wordS ts n ≠ [])
def writeBits (ts : List (List UInt8)) (l : List Int) : List UInt8 := l.flatMap (wordS ts)
theorem allWords_snoc (ts : List (List UInt8)) (l : List Int) (n : Int) : allWords ts (l ++ [n]) = (allWords ts l && decide (wordS ts n ≠ [])) := by simp [allWords]
theorem writeBits_snoc (ts : List (List UInt8)) (l : List Int) (n : Int) : writeBits ts (l ++ [n]) = writeBits ts l ++ wordS ts n := by simp [writeBits]
theorem allWords_false (ts : List (List UInt8)) (l : List Int) (k : Nat) (h : k < l.length) (hn : wordS ts l[k] = []) : allWords ts l = false := by
  rw [Bool.eq_false_iff]; intro hh
  have := List.all_eq_true.1 hh l[k] (List.getElem_mem h)
  simp [hn] at this
/-- no word of a code has more than 15 bits. -/
theorem word_length (xs : List Int) (hok : lensOk xs = true) (i : Nat) : (word xs i).length ≤ 15 := by
  unfold word
  split
  · rename_i h
    rw [numBits_length]
    by_cases hi : i < xs.length
    · have h2 := lensOk_get hok i hi
      have hg : xs.getD i 0 = xs[i] := by simp [List.getD, List.getElem?_eq_getElem hi]
      omega
    · have hg : xs.getD i 0 = 0 := by simp [List.getD, List.getElem?_eq_none (show xs.length ≤ i by omega)]
      omega
  · simp
theorem wordS_length (xs : List Int) (hok : lensOk xs = true) (n : Int) : (wordS (wordsOf xs) n).length ≤ 15 := by
  unfold wordS
  split
  · rename_i h
    have h2 : n.toNat < xs.length := by rw [wordsOf_length] at h; omega
    have : (wordsOf xs).getD n.toNat [] = word xs n.toNat := by simp [List.getD, wordsOf, h2]
    rw [this]
    exact word_length xs hok _
  · simp
theorem writeBits_length (xs : List Int) (hok : lensOk xs = true) (l : List Int) : (writeBits (wordsOf xs) l).length ≤ 15 * l.length := by
  induction l with
  | nil => simp [writeBits]
  | cons n l ih =>
    have h := wordS_length xs hok n
    simp only [writeBits, List.flatMap_cons, List.length_append, List.length_cons] at *
    omega
/-- what Write answers. -/
def writeE (xs l : List Int) : Int := if checkE xs = 0 then (if l.length ≤ 4096 then (if allWords (wordsOf xs) l = true then 0 else 4) else 2) else checkE xs
def writeS (xs l : List Int) : List UInt8 := if writeE xs l = 0 then writeBits (wordsOf xs) l else []
end Go.Proofs.Ytolcndchfnifhab

