/- The small functions of package bits and of the reference, each by what it returns. -/
import Derived.Test.YtolcndchfnifhaaProg
import Derived.Test.YtolcndchfnifhaaPackMath
import Derived.Test.YtolcndchfnifhaaBase
import Derived.WalkSpells
import Derived.WalkLawsBesides
import Derived.Deep.QuietTactic
import Derived.BigQuiet
namespace Go.Proofs.Ytolcndchfnifhaa
open Go.RowKit

theorem byteCount_any (n : Int) (h0 : 0 ≤ n) (h1 : n ≤ 1000000000000000) (w : World) :
    Calls Try.prog 60 #[.int .i64 n] w fun e w' => e = .returned (.int .i64 ((n + 7) / 8)) ∧ w = w' := by
  go_enter Try.func60, Try.ntmps60
  go_wp2
  go_ret
  exact ⟨rfl, rfl⟩

set_option maxHeartbeats 400000 in
theorem allBits_any (s : ByteArray) (w : World) (hs : s.size ≤ maxLen) :
    Calls Try.prog 59 #[.string s] w fun e w' => e = .returned (.bool (allB s.data.toList)) ∧ w = w' := by
  unfold maxLen at hs
  go_enter Try.func59, Try.ntmps59
  go_wp2
  go_loop [6] (fun i => ∃ k : Nat, k ≤ s.size ∧ i = .int .i64 k ∧ Hid (allB (s.data.toList.take k) = true)) (fun i => s.size - (intOf i).toNat)
  case atStart => exact ⟨0, Nat.zero_le _, rfl, rfl⟩
  case round =>
    obtain ⟨k, hk, rfl, H⟩ := hrel
    by_cases hlt : k < s.size
    · have step : (s[k].toNat : Int) = 48 ∨ (s[k].toNat : Int) = 49 → Hid (allB (s.data.toList.take (k + 1)) = true) := fun h => by
        show allB _ = true
        rw [take_snoc s k hlt, allB_snoc, H.out]; simp [isBit]; omega
      have stop : ¬ (s[k].toNat : Int) = 48 → ¬ (s[k].toNat : Int) = 49 → allB s.data.toList = false := fun a b =>
        allB_false_of k (by simpa using hlt) (by rw [get_data s k hlt]; omega) (by rw [get_data s k hlt]; omega)
      have step := hide step
      have stop := hide stop
      go_wp2
      · go_round
        case rel => exact ⟨k + 1, by omega, by go_num, (unhide step) (.inl (by assumption))⟩
        case measure => simp [intOf]; omega
      · rename_i h _
        simp only [bne_iff_ne, ne_eq] at h
        go_ret
        exact ⟨ret_bool (by rw [(unhide stop) h.1 h.2]), rfl⟩
      · rename_i h
        simp only [bne_eq_false_iff_eq] at h
        go_round
        case rel => exact ⟨k + 1, by omega, by go_num, (unhide step) h⟩
        case measure => simp [intOf]; omega
    · go_wp2
      go_ret
      exact ⟨ret_bool (by rw [← H.out, take_all _ _ (by omega)]), rfl⟩

set_option maxHeartbeats 400000 in
theorem isRow_any (s : ByteArray) (w : World) (hs : s.size ≤ maxLen) :
    Calls Try.prog 16 #[.string s] w fun e w' => e = .returned (.bool (allB s.data.toList)) ∧ w = w' := by
  unfold maxLen at hs
  go_enter Try.func16, Try.ntmps16
  go_wp2
  go_loop [3] (fun i => ∃ k : Nat, k ≤ s.size ∧ i = .int .i64 k ∧ Hid (allB (s.data.toList.take k) = true)) (fun i => s.size - (intOf i).toNat)
  case atStart => exact ⟨0, Nat.zero_le _, rfl, rfl⟩
  case round =>
    obtain ⟨k, hk, rfl, H⟩ := hrel
    by_cases hlt : k < s.size
    · have step : (s[k].toNat : Int) = 48 ∨ (s[k].toNat : Int) = 49 → Hid (allB (s.data.toList.take (k + 1)) = true) := fun h => by
        show allB _ = true
        rw [take_snoc s k hlt, allB_snoc, H.out]; simp [isBit]; omega
      have stop : ¬ (s[k].toNat : Int) = 48 → ¬ (s[k].toNat : Int) = 49 → allB s.data.toList = false := fun a b =>
        allB_false_of k (by simpa using hlt) (by rw [get_data s k hlt]; omega) (by rw [get_data s k hlt]; omega)
      have step := hide step
      have stop := hide stop
      go_wp2
      · go_round
        case rel => exact ⟨k + 1, by omega, by go_num, (unhide step) (.inl (by assumption))⟩
        case measure => simp [intOf]; omega
      · rename_i h _
        simp only [bne_iff_ne, ne_eq] at h
        go_ret
        exact ⟨ret_bool (by rw [(unhide stop) h.1 h.2]), rfl⟩
      · rename_i h
        simp only [bne_eq_false_iff_eq] at h
        go_round
        case rel => exact ⟨k + 1, by omega, by go_num, (unhide step) h⟩
        case measure => simp [intOf]; omega
    · go_wp2
      go_ret
      exact ⟨ret_bool (by rw [← H.out, take_all _ _ (by omega)]), rfl⟩

theorem isDepth_any (n : Int) (w : World) :
    Calls Try.prog 65 #[.int .i64 n] w fun e w' => e = .returned (.bool (isDepthB n)) ∧ w = w' := by
  by_cases h1 : 1 ≤ n
  all_goals by_cases h2 : n ≤ 16
  all_goals
    go_enter Try.func65, Try.ntmps65
    go_wp2
    go_ret
    exact ⟨ret_bool (by simp [isDepthB, h1, h2]), rfl⟩

/-- one step of a value's loop, in the walk's own form. -/
theorem val_step (s : ByteArray) (k : Nat) (hlt : k < s.size) (h16 : s.size ≤ 16) (hb : allB s.data.toList = true) :
    valOf (s.data.toList.take k) < 65536 ∧ 48 ≤ s[k].toNat ∧ s[k].toNat ≤ 49 ∧
    (valOf (s.data.toList.take (k + 1)) : Int) = 2 * (valOf (s.data.toList.take k) : Int) + ((s[k].toNat : Int) - 48) := by
  have h1 := valOf_lt _ (allB_take hb k)
  have hl : (s.data.toList.take k).length ≤ 16 := by simp; omega
  have h2 := pow16 hl
  have h3 := allB_get hb k (by simpa using hlt)
  rw [get_data s k hlt] at h3
  rw [take_snoc s k hlt, valOf_snoc]
  omega

set_option maxHeartbeats 400000 in
theorem refValue_any (s : ByteArray) (w : World) (hs : s.size ≤ 16) (hb : allB s.data.toList = true) :
    Calls Try.prog 18 #[.string s] w fun e w' => e = .returned (.int .i64 (valOf s.data.toList)) ∧ w = w' := by
  have HB := hide hb; clear hb
  go_enter Try.func18, Try.ntmps18
  go_wp2
  go_loop [3, 4] (fun n i => ∃ k : Nat, k ≤ s.size ∧ i = .int .i64 k ∧ n = .int .i64 (valOf (s.data.toList.take k))) (fun _ i => s.size - (intOf i).toNat)
  case atStart => exact ⟨0, Nat.zero_le _, rfl, rfl⟩
  case round =>
    obtain ⟨k, hk, rfl, rfl⟩ := hrel
    by_cases hlt : k < s.size
    · obtain ⟨a, b, c, d⟩ := val_step s k hlt hs HB.out
      have D := hide d; clear d
      go_wp2
      go_round
      case rel => exact ⟨k + 1, by omega, by go_num, congrArg (Value.int IntKind.i64) D.out.symm⟩
      case measure => simp [intOf]; omega
    · go_wp2
      go_ret
      exact ⟨ret_int (by rw [take_all _ _ (by omega)]), rfl⟩

/-- what bits.Value answers. -/
def valueN (s : ByteArray) : Int := if allB s.data.toList = true ∧ s.size ≤ 16 then (valOf s.data.toList : Int) else 0
def valueE (s : ByteArray) : Int := if allB s.data.toList = true then (if s.size ≤ 16 then 0 else 3) else 1

set_option maxHeartbeats 400000 in
theorem value_any (s : ByteArray) (w : World) (hs : s.size ≤ maxLen) :
    Calls Try.prog 19 #[.string s] w fun e w' => e = .returned (.tuple #[.int .i64 (valueN s), .int .i64 (valueE s)]) ∧ w = w' := by
  have hs0 := hs
  unfold maxLen at hs
  by_cases hb : allB s.data.toList = true
  · by_cases h16 : s.size ≤ 16
    · have hN : Hid (valueN s = valOf s.data.toList) := if_pos ⟨hb, h16⟩
      have hE : Hid (valueE s = 0) := (if_pos hb).trans (if_pos h16)
      have HB := hide hb
      go_enter Try.func19, Try.ntmps19
      go_wp2_with (go_at_call 59; refine (allBits_any _ _ hs0).mono ?_; rintro e w' ⟨rfl, rfl⟩)
      clear hb
      go_loop [4, 14] (fun n i => ∃ k : Nat, k ≤ s.size ∧ i = .int .i64 k ∧ n = .int .i64 (valOf (s.data.toList.take k))) (fun _ i => s.size - (intOf i).toNat)
      case atStart => exact ⟨0, Nat.zero_le _, rfl, rfl⟩
      case round =>
        obtain ⟨k, hk, rfl, rfl⟩ := hrel
        by_cases hlt : k < s.size
        · obtain ⟨a, b, c, d⟩ := val_step s k hlt h16 HB.out
          have D := hide d; clear d
          go_wp2
          go_round
          case rel => exact ⟨k + 1, by omega, by go_num, congrArg (Value.int IntKind.i64) D.out.symm⟩
          case measure => simp [intOf]; omega
        · go_wp2
          go_ret2
          rw [hN.out, hE.out]
          exact ⟨ret_tup2 (congrArg (fun l => Value.int IntKind.i64 (valOf l : Nat)) (take_all s k (by omega))) rfl, rfl⟩
    · have hN : Hid (valueN s = 0) := if_neg (fun h => h16 h.2)
      have hE : Hid (valueE s = 3) := (if_pos hb).trans (if_neg h16)
      go_enter Try.func19, Try.ntmps19
      go_wp2_with (go_at_call 59; refine (allBits_any _ _ hs0).mono ?_; rintro e w' ⟨rfl, rfl⟩)
      go_ret2
      rw [hN.out, hE.out]
      exact ⟨rfl, rfl⟩
  · have hN : Hid (valueN s = 0) := if_neg (fun h => hb h.1)
    have hE : Hid (valueE s = 1) := if_neg hb
    have hb : allB s.data.toList = false := by simpa using hb
    go_enter Try.func19, Try.ntmps19
    go_wp2_with (go_at_call 59; refine (allBits_any _ _ hs0).mono ?_; rintro e w' ⟨rfl, rfl⟩)
    go_ret2
    rw [hN.out, hE.out]
    exact ⟨rfl, rfl⟩

end Go.Proofs.Ytolcndchfnifhaa
