/- darkslidelaw.BitsRows: the walk. -/
import Derived.Test.YtolcndchfnifhaaBegun
namespace Go.Proofs.Ytolcndchfnifhaa
open Go.RowKit

set_option maxRecDepth 100000 in
set_option maxHeartbeats 1600000 in
theorem bitsRows_walk (s b : ByteArray) (n size : Int) (hs : s.size ≤ 17592186044416) (hb : b.size ≤ 140737488355328) (w : World) :
    Calls Try.prog 3 #[.string s, .string b, .int .i64 n, .int .i64 size] w fun e w' => e = .returned (.bool true) ∧ Below w.heap.size w w' := by
  have hb0 : b.size ≤ maxLen := by unfold maxLen; omega
  have hnil : str [] = ⟨#[]⟩ := rfl
  by_cases hrow : allB b.data.toList = true
  · have HROW := hide hrow
    by_cases h16 : b.size ≤ 16
    · have hN : valueN b = valOf b.data.toList := if_pos ⟨hrow, h16⟩
      have hE : valueE b = 0 := (if_pos hrow).trans (if_pos h16)
      rcases numOk_cases n size with ⟨m, k, rfl, rfl, hk, hm, hok⟩ | ⟨hok, _⟩
      · have hnE : numE m k = 0 := if_pos hok
        have hnS : numS m k = str (numBits m k) := (if_pos hok).trans (by simp)
        have hm2 : m < 65536 := Nat.lt_of_lt_of_le hm (pow16 hk)
        clear hok hm
        go_enter Try.func3, Try.ntmps3
        go_wp2_with (first | (go_at_call 15; refine (bytes_ok _ hb HROW.out _).mono ?_; rintro e w1 ⟨rfl, hb1⟩) | (go_at_call 16; refine (isRow_any _ _ hb0).mono ?_; rintro e w2 ⟨rfl, rfl⟩) | (go_at_call 17; refine (refBytes_any _ hb _).mono ?_; rintro e w3 ⟨rfl, hb3⟩) | (go_at_call 18; refine (refValue_any _ _ h16 HROW.out).mono ?_; rintro e w4 ⟨rfl, rfl⟩) | (go_at_call 19; refine (value_any _ _ hb0).mono ?_; rintro e w4 ⟨rfl, rfl⟩) | (go_at_call 20; refine (number_any _ _ _).mono ?_; rintro e w5 ⟨rfl, hb5⟩) | (go_at_call 21; refine (numberError_any _ _ _).mono ?_; rintro e w6 ⟨rfl, rfl⟩) | (go_at_call 22; refine (refNumber_any k m _ hk hm2).mono ?_; rintro e w6 ⟨rfl, hb6⟩) | (go_at_call 23; refine (bitsBegun_any _).mono ?_; rintro e w7 ⟨rfl, hb7⟩) | (go_at_call 24; refine (bits_any _ hs _).mono ?_; rintro e w8 ⟨rfl, hb8⟩) | (go_at_call 25; refine (row_any _ hs _).mono ?_; rintro e w9 ⟨rfl, hb9⟩))
        go_ret
        exact ⟨rfl, bel_trans (bel_trans (bel_trans (bel_trans (bel_trans (bel_trans hb1 hb3) hb5) hb6) hb7) hb8) hb9⟩
      · have hnE : numE n size = 3 := if_neg (by simp [hok])
        have hnS : numS n size = str [] := if_neg (by simp [hok])
        clear hok
        go_enter Try.func3, Try.ntmps3
        go_wp2_with (first | (go_at_call 15; refine (bytes_ok _ hb HROW.out _).mono ?_; rintro e w1 ⟨rfl, hb1⟩) | (go_at_call 16; refine (isRow_any _ _ hb0).mono ?_; rintro e w2 ⟨rfl, rfl⟩) | (go_at_call 17; refine (refBytes_any _ hb _).mono ?_; rintro e w3 ⟨rfl, hb3⟩) | (go_at_call 18; refine (refValue_any _ _ h16 HROW.out).mono ?_; rintro e w4 ⟨rfl, rfl⟩) | (go_at_call 19; refine (value_any _ _ hb0).mono ?_; rintro e w4 ⟨rfl, rfl⟩) | (go_at_call 20; refine (number_any _ _ _).mono ?_; rintro e w5 ⟨rfl, hb5⟩) | (go_at_call 21; refine (numberError_any _ _ _).mono ?_; rintro e w6 ⟨rfl, rfl⟩) | (go_at_call 23; refine (bitsBegun_any _).mono ?_; rintro e w7 ⟨rfl, hb7⟩) | (go_at_call 24; refine (bits_any _ hs _).mono ?_; rintro e w8 ⟨rfl, hb8⟩) | (go_at_call 25; refine (row_any _ hs _).mono ?_; rintro e w9 ⟨rfl, hb9⟩))
        go_ret
        exact ⟨rfl, bel_trans (bel_trans (bel_trans (bel_trans (bel_trans hb1 hb3) hb5) hb7) hb8) hb9⟩
    · have hN : valueN b = 0 := if_neg (fun h => h16 h.2)
      have hE : valueE b = 3 := (if_pos hrow).trans (if_neg h16)
      rcases numOk_cases n size with ⟨m, k, rfl, rfl, hk, hm, hok⟩ | ⟨hok, _⟩
      · have hnE : numE m k = 0 := if_pos hok
        have hnS : numS m k = str (numBits m k) := (if_pos hok).trans (by simp)
        have hm2 : m < 65536 := Nat.lt_of_lt_of_le hm (pow16 hk)
        clear hok hm
        go_enter Try.func3, Try.ntmps3
        go_wp2_with (first | (go_at_call 15; refine (bytes_ok _ hb HROW.out _).mono ?_; rintro e w1 ⟨rfl, hb1⟩) | (go_at_call 16; refine (isRow_any _ _ hb0).mono ?_; rintro e w2 ⟨rfl, rfl⟩) | (go_at_call 17; refine (refBytes_any _ hb _).mono ?_; rintro e w3 ⟨rfl, hb3⟩) | (go_at_call 19; refine (value_any _ _ hb0).mono ?_; rintro e w4 ⟨rfl, rfl⟩) | (go_at_call 20; refine (number_any _ _ _).mono ?_; rintro e w5 ⟨rfl, hb5⟩) | (go_at_call 21; refine (numberError_any _ _ _).mono ?_; rintro e w6 ⟨rfl, rfl⟩) | (go_at_call 22; refine (refNumber_any k m _ hk hm2).mono ?_; rintro e w6 ⟨rfl, hb6⟩) | (go_at_call 23; refine (bitsBegun_any _).mono ?_; rintro e w7 ⟨rfl, hb7⟩) | (go_at_call 24; refine (bits_any _ hs _).mono ?_; rintro e w8 ⟨rfl, hb8⟩) | (go_at_call 25; refine (row_any _ hs _).mono ?_; rintro e w9 ⟨rfl, hb9⟩))
        go_ret
        exact ⟨rfl, bel_trans (bel_trans (bel_trans (bel_trans (bel_trans (bel_trans hb1 hb3) hb5) hb6) hb7) hb8) hb9⟩
      · have hnE : numE n size = 3 := if_neg (by simp [hok])
        have hnS : numS n size = str [] := if_neg (by simp [hok])
        clear hok
        go_enter Try.func3, Try.ntmps3
        go_wp2_with (first | (go_at_call 15; refine (bytes_ok _ hb HROW.out _).mono ?_; rintro e w1 ⟨rfl, hb1⟩) | (go_at_call 16; refine (isRow_any _ _ hb0).mono ?_; rintro e w2 ⟨rfl, rfl⟩) | (go_at_call 17; refine (refBytes_any _ hb _).mono ?_; rintro e w3 ⟨rfl, hb3⟩) | (go_at_call 19; refine (value_any _ _ hb0).mono ?_; rintro e w4 ⟨rfl, rfl⟩) | (go_at_call 20; refine (number_any _ _ _).mono ?_; rintro e w5 ⟨rfl, hb5⟩) | (go_at_call 21; refine (numberError_any _ _ _).mono ?_; rintro e w6 ⟨rfl, rfl⟩) | (go_at_call 23; refine (bitsBegun_any _).mono ?_; rintro e w7 ⟨rfl, hb7⟩) | (go_at_call 24; refine (bits_any _ hs _).mono ?_; rintro e w8 ⟨rfl, hb8⟩) | (go_at_call 25; refine (row_any _ hs _).mono ?_; rintro e w9 ⟨rfl, hb9⟩))
        go_ret
        exact ⟨rfl, bel_trans (bel_trans (bel_trans (bel_trans (bel_trans hb1 hb3) hb5) hb7) hb8) hb9⟩
  · have hN : valueN b = 0 := if_neg (fun h => hrow h.1)
    have hE : valueE b = 1 := if_neg hrow
    have hrow : allB b.data.toList = false := by simpa using hrow
    have HROW := hide hrow
    rcases numOk_cases n size with ⟨m, k, rfl, rfl, hk, hm, hok⟩ | ⟨hok, _⟩
    · have hnE : numE m k = 0 := if_pos hok
      have hnS : numS m k = str (numBits m k) := (if_pos hok).trans (by simp)
      have hm2 : m < 65536 := Nat.lt_of_lt_of_le hm (pow16 hk)
      clear hok hm
      go_enter Try.func3, Try.ntmps3
      go_wp2_with (first | (go_at_call 15; refine (bytes_bad _ hb HROW.out _).mono ?_; rintro e w1 ⟨rfl, hb1⟩) | (go_at_call 16; refine (isRow_any _ _ hb0).mono ?_; rintro e w2 ⟨rfl, rfl⟩) | (go_at_call 19; refine (value_any _ _ hb0).mono ?_; rintro e w4 ⟨rfl, rfl⟩) | (go_at_call 20; refine (number_any _ _ _).mono ?_; rintro e w5 ⟨rfl, hb5⟩) | (go_at_call 21; refine (numberError_any _ _ _).mono ?_; rintro e w6 ⟨rfl, rfl⟩) | (go_at_call 22; refine (refNumber_any k m _ hk hm2).mono ?_; rintro e w6 ⟨rfl, hb6⟩) | (go_at_call 23; refine (bitsBegun_any _).mono ?_; rintro e w7 ⟨rfl, hb7⟩) | (go_at_call 24; refine (bits_any _ hs _).mono ?_; rintro e w8 ⟨rfl, hb8⟩) | (go_at_call 25; refine (row_any _ hs _).mono ?_; rintro e w9 ⟨rfl, hb9⟩))
      go_ret
      exact ⟨rfl, bel_trans (bel_trans (bel_trans (bel_trans (bel_trans hb1 hb5) hb6) hb7) hb8) hb9⟩
    · have hnE : numE n size = 3 := if_neg (by simp [hok])
      have hnS : numS n size = str [] := if_neg (by simp [hok])
      clear hok
      go_enter Try.func3, Try.ntmps3
      go_wp2_with (first | (go_at_call 15; refine (bytes_bad _ hb HROW.out _).mono ?_; rintro e w1 ⟨rfl, hb1⟩) | (go_at_call 16; refine (isRow_any _ _ hb0).mono ?_; rintro e w2 ⟨rfl, rfl⟩) | (go_at_call 19; refine (value_any _ _ hb0).mono ?_; rintro e w4 ⟨rfl, rfl⟩) | (go_at_call 20; refine (number_any _ _ _).mono ?_; rintro e w5 ⟨rfl, hb5⟩) | (go_at_call 21; refine (numberError_any _ _ _).mono ?_; rintro e w6 ⟨rfl, rfl⟩) | (go_at_call 23; refine (bitsBegun_any _).mono ?_; rintro e w7 ⟨rfl, hb7⟩) | (go_at_call 24; refine (bits_any _ hs _).mono ?_; rintro e w8 ⟨rfl, hb8⟩) | (go_at_call 25; refine (row_any _ hs _).mono ?_; rintro e w9 ⟨rfl, hb9⟩))
      go_ret
      exact ⟨rfl, bel_trans (bel_trans (bel_trans (bel_trans hb1 hb5) hb7) hb8) hb9⟩

end Go.Proofs.Ytolcndchfnifhaa
