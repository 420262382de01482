/- bits.Number, and the reference's. -/
import Derived.Test.YtolcndchfnifhaaSmall
import Derived.Test.YtolcndchfnifhaaPackMath
namespace Go.Proofs.Ytolcndchfnifhaa
open Go.RowKit

theorem Try.infoU8 : (Try.prog.info? 5).map (fun i => (i.zero, i.size, i.bytes)) = some (some (.int .u8 0), 1, 1) := by kernel_rfl

theorem wrap_pow {n : Nat} (h : n ≤ 16) : wrap64 ((2 : Int) ^ n) = ((2 ^ n : Nat) : Int) := by
  have := pow16 h
  rw [pow_cast]
  generalize 2 ^ n = p at *
  exact IntWalk.wrap64_in _ (by omega)

/-- what bits.Number's row holds behind k rounds. -/
def numRow (n size k : Nat) : List Value := List.replicate (size - k) (.int .u8 0) ++ byt (numBits n k)
theorem numRow_length (n size k : Nat) (h : k ≤ size) : (numRow n size k).length = size := by simp [numRow, byt_length, numBits_length]; omega
theorem numRow_get (n size k : Nat) (h : k < size) : (numRow n size k)[size - 1 - k]? = some (.int .u8 0) := by
  rw [numRow, List.getElem?_append_left (by simp; omega), List.getElem?_replicate, if_pos (by omega)]
theorem numRow_set (n size k : Nat) (h : k < size) : (numRow n size k).set (size - 1 - k) (.int .u8 (48 + (n / 2 ^ k % 2 : Nat) : Int)) = numRow n size (k + 1) := by
  rw [numRow, numRow, numBits_cons, List.set_append_left _ _ (by simp; omega)]
  have : size - k = (size - 1 - k) + 1 := by omega
  rw [this, List.replicate_succ', List.set_append_right _ _ (by simp)]
  simp only [List.length_replicate, Nat.sub_self, List.set_cons_zero]
  rw [show size - (k + 1) = size - 1 - k by omega]
  simp only [byt, List.map_cons, List.append_assoc, List.cons_append, List.nil_append]
  congr 3
  have : n / 2 ^ k % 2 < 2 := Nat.mod_lt _ (by decide)
  simp [UInt8.toNat_ofNat']
  omega
theorem numRow_start (n size : Nat) : numRow n size 0 = (madeCells (Value.int .u8 0).cells (size * 1)).toList := by
  rw [show (Value.int .u8 0).cells = #[Value.int .u8 0] from rfl, toList_madeCells_one]; simp [numRow, numBits, byt]
theorem numRow_end (n size : Nat) : numRow n size size = byt (numBits n size) := by simp [numRow]

set_option maxRecDepth 100000 in
set_option maxHeartbeats 400000 in
theorem number_ok (n size : Nat) (h16 : size ≤ 16) (hn : n < 2 ^ size) (w : World) :
    Calls Try.prog 20 #[.int .i64 n, .int .i64 size] w fun e w' => e = .returned (.tuple #[.string (str (numBits n size)), .int .i64 0]) ∧ Below w.heap.size w w' := by
  obtain ⟨p, hp⟩ : ∃ p : Nat, p = 2 ^ size := ⟨_, rfl⟩
  have hw := wrap_pow h16
  have hp16 := pow16 h16
  rw [← hp] at hw hn hp16
  have HP := hide hp; clear hp
  obtain ⟨i0, hi, hz0, hz1, hz2⟩ := info_parts Try.infoU8
  go_enter Try.func20, Try.ntmps20
  go_wp2_with (at_make; refine wpList_make_full _ rfl _ _ 79 rfl w.heap.size 5 i0 (.int .u8 0) 1 Try.underlying79 hi hz0 hz1 .i64 .i64 _ _ size rfl rfl rfl rfl (by rw [hz2]; omega) (by unfold maxLen; omega) (Nat.le_refl _) ?_; intro w1 hown hgr)
  go_loopw [28] (fun i wr => ∃ k : Nat, k ≤ size ∧ i = .int .i64 k ∧ wr.ownsRow w.heap.size 5 1 (.slice (some ⟨w.heap.size, 0, none⟩) size size) size (numRow n size k) ∧ Below w.heap.size w wr)
    (fun i _ => size - (intOf i).toNat)
  case atStart => exact ⟨0, Nat.zero_le _, rfl, by rw [numRow_start]; exact hown, (Below.refl _ _).grown hgr (Nat.le_refl _) (by simp)⟩
  case round =>
    obtain ⟨k, hk, rfl, ho, hb⟩ := hrel
    by_cases hlt : k < size
    · have hc := ho.cellAt (size - 1 - k) (by omega)
      rw [numRow_get n size k hlt] at hc
      have hf := ho.frozenAt (size - 1 - k)
      have hs := ho.stored (size - 1 - k) (.int .u8 (48 + (n / 2 ^ k % 2 : Nat) : Int))
      rw [numRow_set n size k hlt] at hs
      have HS := hide hs; clear hs
      go_wp2
      go_roundw
      case rel =>
        rw [bit_cell]
        exact ⟨k + 1, by omega, by go_num, HS.out.1, hb.setCell (Nat.le_refl _) _⟩
      case measure => simp [intOf]; omega
    · obtain rfl : k = size := by omega
      rw [numRow_end] at ho
      have hcv := run_string_own (dst := 9) Try.underlying79 Try.underlying5 Try.underlying9 ho
      go_wp2
      go_ret2
      exact ⟨rfl, hb⟩

set_option maxRecDepth 100000 in
set_option maxHeartbeats 400000 in
theorem number_bad (n size : Int) (h : size < 0 ∨ 16 < size ∨ (0 ≤ size ∧ size ≤ 16 ∧ n < 0) ∨ ∃ k p : Nat, size = k ∧ k ≤ 16 ∧ p = 2 ^ k ∧ (p : Int) ≤ n) (w : World) :
    Calls Try.prog 20 #[.int .i64 n, .int .i64 size] w fun e w' => e = .returned (.tuple #[.string (str []), .int .i64 3]) ∧ w = w' := by
  rcases h with h | h | ⟨h1, h2, h3⟩ | ⟨k, p, rfl, hk, hp, hle⟩
  · go_enter Try.func20, Try.ntmps20
    go_wp2
    go_ret2
    exact ⟨rfl, rfl⟩
  · go_enter Try.func20, Try.ntmps20
    go_wp2
    go_ret2
    exact ⟨rfl, rfl⟩
  · go_enter Try.func20, Try.ntmps20
    go_wp2
    go_ret2
    exact ⟨rfl, rfl⟩
  · have hw := wrap_pow hk
    rw [← hp] at hw
    have h0 : 0 ≤ n := by omega
    clear hp
    go_enter Try.func20, Try.ntmps20
    go_wp2
    go_ret2
    exact ⟨rfl, rfl⟩

theorem number_any (n size : Int) (w : World) :
    Calls Try.prog 20 #[.int .i64 n, .int .i64 size] w fun e w' => e = .returned (.tuple #[.string (numS n size), .int .i64 (numE n size)]) ∧ Below w.heap.size w w' := by
  rcases numOk_cases n size with ⟨m, k, rfl, rfl, h1, h2, h3⟩ | ⟨h1, h2⟩
  · refine (number_ok m k h1 h2 w).mono fun e w' ⟨he, hb⟩ => ⟨?_, hb⟩
    rw [he, numS, numE, if_pos h3, if_pos h3]; simp
  · refine (number_bad n size h2 w).mono fun e w' ⟨he, hb⟩ => ⟨?_, hb ▸ Below.refl _ _⟩
    rw [he, numS, numE, if_neg (by simp [h1]), if_neg (by simp [h1])]

end Go.Proofs.Ytolcndchfnifhaa
