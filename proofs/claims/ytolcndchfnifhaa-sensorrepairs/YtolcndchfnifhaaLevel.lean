/- right: Held, Phase; grid: Index, Has; sensor: Colour; the reference's clamp, down and LevelError. -/
import Derived.Test.YtolcndchfnifhaaBase
namespace Go.Proofs.Ytolcndchfnifhaa
open Go.RowKit

/-- the nearest number that a sample may be. -/
def clampV (n : Int) : Int := if n < 0 then 0 else if 65535 < n then 65535 else n
theorem clampV_range (n : Int) : 0 ≤ clampV n ∧ clampV n ≤ 65535 := by unfold clampV; split <;> (try split) <;> omega

theorem held_any (n : Int) (w : World) : Calls Try.prog 97 #[.int .i64 n] w fun e w' => e = .returned (.int .i64 (clampV n)) ∧ w = w' := by
  have hor : n < 0 ∨ (0 ≤ n ∧ 65535 < n) ∨ (0 ≤ n ∧ n ≤ 65535) := by omega
  rcases hor with h | ⟨h, h2⟩ | ⟨h, h2⟩
  · have HE := hide (show 0 = clampV n by rw [clampV, if_pos h])
    have hd : decide (n < 0) = true := by simpa using h
    go_enter Try.func97, Try.ntmps97
    go_wp2
    all_goals (go_ret; exact ⟨ret_int (by have := HE.out; omega), rfl⟩)
  · have HE := hide (show 65535 = clampV n by rw [clampV, if_neg (by omega), if_pos h2])
    go_enter Try.func97, Try.ntmps97
    go_wp2
    all_goals (go_ret; exact ⟨ret_int (by have := HE.out; omega), rfl⟩)
  · have HE := hide (show n = clampV n by rw [clampV, if_neg (by omega), if_neg (by omega)])
    go_enter Try.func97, Try.ntmps97
    go_wp2
    all_goals (go_ret; exact ⟨ret_int (by have := HE.out; omega), rfl⟩)

theorem clamp_any (n : Int) (w : World) : Calls Try.prog 99 #[.int .i64 n] w fun e w' => e = .returned (.int .i64 (clampV n)) ∧ w = w' := by
  have hor : n < 0 ∨ (0 ≤ n ∧ 65535 < n) ∨ (0 ≤ n ∧ n ≤ 65535) := by omega
  rcases hor with h | ⟨h, h2⟩ | ⟨h, h2⟩
  · have HE := hide (show 0 = clampV n by rw [clampV, if_pos h])
    go_enter Try.func99, Try.ntmps99
    go_wp2
    all_goals (go_ret; exact ⟨ret_int (by have := HE.out; omega), rfl⟩)
  · have HE := hide (show 65535 = clampV n by rw [clampV, if_neg (by omega), if_pos h2])
    go_enter Try.func99, Try.ntmps99
    go_wp2
    all_goals (go_ret; exact ⟨ret_int (by have := HE.out; omega), rfl⟩)
  · have HE := hide (show n = clampV n by rw [clampV, if_neg (by omega), if_neg (by omega)])
    go_enter Try.func99, Try.ntmps99
    go_wp2
    all_goals (go_ret; exact ⟨ret_int (by have := HE.out; omega), rfl⟩)

def phaseOk (n : Int) : Bool := decide (0 ≤ n ∧ n ≤ 3)
theorem phase_any (n : Int) (w : World) : Calls Try.prog 122 #[.int .i64 n] w fun e w' => e = .returned (.bool (phaseOk n)) ∧ Below w.heap.size w w' := by
  have HS := hide (show allIn 0 3 [n] = phaseOk n by simp [allIn, phaseOk])
  go_enter Try.func122, Try.ntmps122
  go_wp2_with fail
  refine (rWithin_any 0 3 _ [n] _ (ints1 w n)).mono ?_
  rintro e w1 ⟨rfl, rfl⟩
  rw [HS.out]
  go_wp2
  go_ret
  exact ⟨rfl, bel_alloc _ _⟩

theorem index_any (W H : Int) (X Y WN k : Nat) (hW : W = WN) (hk : Y * WN + X = k) (hb : k ≤ 4096) (w : World) :
    Calls Try.prog 98 #[.agg #[.int .i64 W, .int .i64 H], .agg #[.int .i64 X, .int .i64 Y]] w fun e w' => e = .returned (.int .i64 k) ∧ Below w.heap.size w w' := by
  subst hW
  obtain ⟨M, hM⟩ : ∃ M : Nat, M = Y * WN := ⟨_, rfl⟩
  have hmm : (Y : Int) * (WN : Int) = (M : Int) := by rw [hM]; simp
  rw [← hM] at hk
  have hat : (M : Int) + (X : Int) = (k : Int) := by omega
  clear hM
  go_enter Try.func98, Try.ntmps98
  go_wp2
  go_ret
  exact ⟨rfl, bel_trans (bel_alloc _ _) (bel_alloc _ _)⟩

def hasB (W H x y : Int) : Bool := decide (0 ≤ x ∧ x < W ∧ 0 ≤ y ∧ y < H)
theorem has_any (W H x y : Int) (w : World) :
    Calls Try.prog 102 #[.agg #[.int .i64 W, .int .i64 H], .agg #[.int .i64 x, .int .i64 y]] w fun e w' => e = .returned (.bool (hasB W H x y)) ∧ Below w.heap.size w w' := by
  have hor : (0 ≤ x ∧ x < W ∧ 0 ≤ y ∧ y < H) ∨ (0 ≤ x ∧ x < W ∧ 0 ≤ y ∧ ¬ y < H) ∨ (0 ≤ x ∧ x < W ∧ ¬ 0 ≤ y) ∨ (0 ≤ x ∧ ¬ x < W) ∨ ¬ 0 ≤ x := by omega
  obtain ⟨R, hR⟩ : ∃ R, hasB W H x y = R := ⟨_, rfl⟩
  rw [hR]
  rcases hor with ⟨a, b, c, d⟩ | ⟨a, b, c, d⟩ | ⟨a, b, c⟩ | ⟨a, b⟩ | a
  · have HE := hide (show true = R by rw [← hR, hasB]; symm; simp; omega)
    clear hR
    go_enter Try.func102, Try.ntmps102
    go_wp2
    go_ret
    exact ⟨ret_bool HE.out, bel_trans (bel_alloc _ _) (bel_alloc _ _)⟩
  all_goals
    have HE := hide (show false = R by rw [← hR, hasB]; symm; simp; omega)
    clear hR
    go_enter Try.func102, Try.ntmps102
    go_wp2
    go_ret
    exact ⟨ret_bool HE.out, bel_trans (bel_alloc _ _) (bel_alloc _ _)⟩

theorem down_facts (n b : Int) (hb : 0 < b) : (n < n.tdiv b * b ∧ n.tdiv b - 1 = n / b) ∨ (¬ n < n.tdiv b * b ∧ n.tdiv b = n / b) := by
  have h1 := Int.emod_add_mul_ediv n b
  have h2 := Int.emod_nonneg n (show b ≠ 0 by omega)
  have h3 := Int.emod_lt_of_pos n hb
  rw [Int.mul_comm] at h1
  have h4 := Int.tdiv_eq_ediv (a := n) (b := b)
  split at h4
  · rename_i hor
    right
    rw [h4, Int.add_zero]
    exact ⟨by omega, rfl⟩
  · rename_i hno
    left
    rw [Int.sign_eq_one_of_pos hb] at h4
    rw [h4, Int.add_mul, Int.one_mul]
    exact ⟨by omega, by omega⟩

set_option maxRecDepth 100000 in
theorem downB_any (n b : Int) (hb : 1 ≤ b) (hb2 : b ≤ 65536) (h0 : -5000000000 ≤ n) (h1 : n ≤ 5000000000) (w : World) :
    Calls Try.prog 83 #[.int .i64 n, .int .i64 b] w fun e w' => e = .returned (.int .i64 (n / b)) ∧ w = w' := by
  have hf := down_facts n b (by omega)
  have hr1 : -5000000001 ≤ n / b := Int.le_ediv_of_mul_le (by omega) (by omega)
  have hr2 : n / b ≤ 5000000001 := Int.ediv_le_of_le_mul (by omega) (by omega)
  have e1 := Int.emod_add_mul_ediv n b
  have e2 := Int.emod_nonneg n (show b ≠ 0 by omega)
  have e3 := Int.emod_lt_of_pos n (show 0 < b by omega)
  obtain ⟨q, hq⟩ : ∃ q, n.tdiv b = q := ⟨_, rfl⟩
  obtain ⟨P, hP⟩ : ∃ P, q * b = P := ⟨_, rfl⟩
  have hqb : (-5000000001 ≤ q ∧ q ≤ 5000000002) ∧ (-5000065537 ≤ P ∧ P ≤ 5000065537) := by
    rw [Int.mul_comm] at e1
    rcases hf with ⟨_, he⟩ | ⟨_, he⟩
    · rw [hq] at he
      have : P = n / b * b + b := by rw [← hP, show q = n / b + 1 by omega, Int.add_mul, Int.one_mul]
      omega
    · rw [hq] at he
      have : P = n / b * b := by rw [← hP, he]
      omega
  obtain ⟨⟨hq1, hq2⟩, hP1, hP2⟩ := hqb
  rw [hq, hP] at hf
  clear e1 e2 e3
  have hbz : (b == 0) = false := by simp; omega
  rcases hf with ⟨ht, he⟩ | ⟨ht, he⟩
  · have hd : decide (n < P) = true := by simpa using ht
    have HE := hide he
    clear ht he hr1 hr2
    go_enter Try.func83, Try.ntmps83
    go_wp2
    go_ret
    exact ⟨ret_int HE.out, rfl⟩
  · have hd : decide (n < P) = false := by simpa using ht
    have HE := hide he
    clear ht he hr1 hr2
    go_enter Try.func83, Try.ntmps83
    go_wp2
    go_ret
    exact ⟨ret_int HE.out, rfl⟩

end Go.Proofs.Ytolcndchfnifhaa
