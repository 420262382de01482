/- darkslidelaw.BitsPacks and BitsBack: the walks. -/
import Derived.Test.YtolcndchfnifhaaBegun
namespace Go.Proofs.Ytolcndchfnifhaa
open Go.RowKit

theorem pack_small {xs : List Int} {d : Int} (h : packE xs d = 0) : (xs.length * d.toNat + 7) / 8 ≤ maxLen := by
  obtain ⟨h1, h2, _⟩ := packE_zero h
  have hd16 : 1 ≤ d ∧ d ≤ 16 := by simpa [isDepthB] using h1
  have h3 : xs.length * d.toNat ≤ 4096 * 16 := Nat.mul_le_mul h2 (by omega)
  unfold maxLen
  omega

set_option maxRecDepth 100000 in
set_option maxHeartbeats 800000 in
theorem bitsPacks_walk (v : Value) (xs : List Int) (d : Int) (s : ByteArray) (n : Int) (hs : s.size ≤ maxLen) (w : World) (hv : IsInts w v xs) :
    Calls Try.prog 4 #[v, .int .i64 d, .string s, .int .i64 n] w fun e w' => e = .returned (.bool true) ∧ Below w.heap.size w w' := by
  have hnil : str [] = ⟨#[]⟩ := rfl
  have HV := hide hv; clear hv
  by_cases hE : packE xs d = 0
  · obtain ⟨h1, h2, h3⟩ := packE_zero hE
    have hd16 : 1 ≤ d ∧ d ≤ 16 := by simpa [isDepthB] using h1
    obtain ⟨D, rfl⟩ := Int.eq_ofNat_of_zero_le (show 0 ≤ d by omega)
    have hD : D ≤ 16 := by omega
    have hS : packS xs D = bytesOf (packBits xs D) := by rw [packS, if_pos hE]
    have H3 := hide h3
    clear h1 h3 hd16
    go_enter Try.func4, Try.ntmps4
    go_wp2_with fail
    refine (pack_any _ _ _ _ HV.out).mono ?_
    rintro e w1 ⟨rfl, hb1⟩
    have HV1 := hide (HV.out.below hb1 (Nat.le_refl _))
    go_wp2_with fail
    refine (packError_any _ _ _ _ HV1.out).mono ?_
    rintro e w2 ⟨rfl, hb2⟩
    have HV2 := hide (HV1.out.below hb2 (Nat.le_refl _))
    go_wp2_with fail
    refine (packed_any _ _ _ hD h2 H3.out _ HV2.out).mono ?_
    rintro e w3 ⟨rfl, hb3⟩
    go_wp2_with fail
    refine (unpack_any s _ _ hs _).mono ?_
    rintro e w4 ⟨k, rfl, hk, hb4⟩
    have HK := hide hk; clear hk
    go_wp2_with fail
    refine (unpacked_any s _ _ hs _).mono ?_
    rintro e w5 ⟨m, rfl, hm, hb5⟩
    have HM := hide hm; clear hm
    go_wp2_with fail
    refine (bitsBegun_any _).mono ?_
    rintro e w6 ⟨rfl, hb6⟩
    go_wp2_with fail
    refine (sameInts_any _ _ _ _ _ ((HK.out.below hb5 (Nat.le_refl _)).below hb6 (Nat.le_refl _)) (HM.out.below hb6 (Nat.le_refl _))).mono ?_
    rintro e w7 ⟨rfl, hb7⟩
    have hd : decide (unpV s.data.toList D n = unpV s.data.toList D n) = true := by simp
    rw [hd]
    clear hd
    go_wp2
    go_ret
    exact ⟨rfl, bel_trans (bel_trans (bel_trans (bel_trans (bel_trans (bel_trans hb1 hb2) hb3) hb4) hb5) hb6) hb7⟩
  · have hS : packS xs d = [] := by rw [packS, if_neg hE]
    have hE2 : (packE xs d == 0) = false := by simpa using hE
    clear hE
    go_enter Try.func4, Try.ntmps4
    go_wp2_with fail
    refine (pack_any _ _ _ _ HV.out).mono ?_
    rintro e w1 ⟨rfl, hb1⟩
    have HV1 := hide (HV.out.below hb1 (Nat.le_refl _))
    go_wp2_with fail
    refine (packError_any _ _ _ _ HV1.out).mono ?_
    rintro e w2 ⟨rfl, hb2⟩
    go_wp2_with fail
    refine (unpack_any s _ _ hs _).mono ?_
    rintro e w4 ⟨k, rfl, hk, hb4⟩
    have HK := hide hk; clear hk
    go_wp2_with fail
    refine (unpacked_any s _ _ hs _).mono ?_
    rintro e w5 ⟨m, rfl, hm, hb5⟩
    have HM := hide hm; clear hm
    go_wp2_with fail
    refine (bitsBegun_any _).mono ?_
    rintro e w6 ⟨rfl, hb6⟩
    go_wp2_with fail
    refine (sameInts_any _ _ _ _ _ ((HK.out.below hb5 (Nat.le_refl _)).below hb6 (Nat.le_refl _)) (HM.out.below hb6 (Nat.le_refl _))).mono ?_
    rintro e w7 ⟨rfl, hb7⟩
    have hd : decide (unpV s.data.toList d n = unpV s.data.toList d n) = true := by simp
    rw [hd]
    clear hd
    go_wp2
    go_ret
    exact ⟨rfl, bel_trans (bel_trans (bel_trans (bel_trans (bel_trans hb1 hb2) hb4) hb5) hb6) hb7⟩

set_option maxRecDepth 100000 in
set_option maxHeartbeats 800000 in
theorem bitsBack_walk (v : Value) (xs : List Int) (d : Int) (s : ByteArray) (n : Int) (hs : s.size ≤ maxLen) (w : World) (hv : IsInts w v xs) :
    Calls Try.prog 5 #[v, .int .i64 d, .string s, .int .i64 n] w fun e w' => e = .returned (.bool true) ∧ Below w.heap.size w w' := by
  have HV := hide hv
  obtain ⟨ao, cap, rfl, hlen, _⟩ := hv
  by_cases hE : packE xs d = 0
  · have HU := hide (unpack_of_pack hE)
    have HPS := hide (show (str (packS xs d)).size ≤ maxLen by rw [str_size, packS, if_pos hE, bytesOf_length, packBits_length]; exact pack_small hE)
    by_cases hG : unpE s.data.toList d n = 0
    · have HP := hide (pack_of_unpack hG)
      have hP3 := HP.out.2.2
      go_enter Try.func5, Try.ntmps5
      go_wp2_with fail
      refine (pack_any _ _ _ _ HV.out).mono ?_
      rintro e w1 ⟨rfl, hb1⟩
      have HV1 := hide (HV.out.below hb1 (Nat.le_refl _))
      go_wp2_with fail
      refine (unpack_any (str (packS xs d)) _ _ HPS.out _).mono ?_
      rintro e w2 ⟨k, rfl, hk, hb2⟩
      rw [str_data, HU.out.2] at hk
      rw [str_data, HU.out.1]
      have HK := hide hk; clear hk
      go_wp2_with fail
      refine (sameInts_any _ _ _ _ _ HK.out (HV1.out.below hb2 (Nat.le_refl _))).mono ?_
      rintro e w3 ⟨rfl, hb3⟩
      have hd : decide (xs = xs) = true := by simp
      rw [hd]
      clear hd
      go_wp2_with fail
      refine (unpack_any s _ _ hs _).mono ?_
      rintro e w4 ⟨m, rfl, hm, hb4⟩
      have HM := hide hm
      obtain ⟨mo, mc, hmv, hml, _⟩ := hm
      rw [hmv] at HM
      rw [hmv]
      clear hmv
      go_wp2_with fail
      refine (pack_any _ _ _ _ HM.out).mono ?_
      rintro e w5 ⟨rfl, hb5⟩
      rw [HP.out.2.1, HP.out.1]
      go_wp2_with (go_at_call 23; refine (bitsBegun_any _).mono ?_; rintro e w6 ⟨rfl, hb6⟩)
      go_ret
      exact ⟨rfl, bel_trans (bel_trans (bel_trans (bel_trans (bel_trans hb1 hb2) hb3) hb4) hb5) hb6⟩
    · have hG2 : (unpE s.data.toList d n != 0) = true := by simpa using hG
      clear hG
      go_enter Try.func5, Try.ntmps5
      go_wp2_with fail
      refine (pack_any _ _ _ _ HV.out).mono ?_
      rintro e w1 ⟨rfl, hb1⟩
      have HV1 := hide (HV.out.below hb1 (Nat.le_refl _))
      go_wp2_with fail
      refine (unpack_any (str (packS xs d)) _ _ HPS.out _).mono ?_
      rintro e w2 ⟨k, rfl, hk, hb2⟩
      rw [str_data, HU.out.2] at hk
      rw [str_data, HU.out.1]
      have HK := hide hk; clear hk
      go_wp2_with fail
      refine (sameInts_any _ _ _ _ _ HK.out (HV1.out.below hb2 (Nat.le_refl _))).mono ?_
      rintro e w3 ⟨rfl, hb3⟩
      have hd : decide (xs = xs) = true := by simp
      rw [hd]
      clear hd
      go_wp2_with fail
      refine (unpack_any s _ _ hs _).mono ?_
      rintro e w4 ⟨m, rfl, hm, hb4⟩
      clear hm
      go_wp2_with (go_at_call 23; refine (bitsBegun_any _).mono ?_; rintro e w6 ⟨rfl, hb6⟩)
      go_ret
      exact ⟨rfl, bel_trans (bel_trans (bel_trans (bel_trans hb1 hb2) hb3) hb4) hb6⟩
  · have hE2 : (packE xs d == 0) = false := by simpa using hE
    clear hE
    by_cases hG : unpE s.data.toList d n = 0
    · have HP := hide (pack_of_unpack hG)
      have hP3 := HP.out.2.2
      go_enter Try.func5, Try.ntmps5
      go_wp2_with fail
      refine (pack_any _ _ _ _ HV.out).mono ?_
      rintro e w1 ⟨rfl, hb1⟩
      go_wp2_with fail
      refine (unpack_any s _ _ hs _).mono ?_
      rintro e w4 ⟨m, rfl, hm, hb4⟩
      have HM := hide hm
      obtain ⟨mo, mc, hmv, hml, _⟩ := hm
      rw [hmv] at HM
      rw [hmv]
      clear hmv
      go_wp2_with fail
      refine (pack_any _ _ _ _ HM.out).mono ?_
      rintro e w5 ⟨rfl, hb5⟩
      rw [HP.out.2.1, HP.out.1]
      go_wp2_with (go_at_call 23; refine (bitsBegun_any _).mono ?_; rintro e w6 ⟨rfl, hb6⟩)
      go_ret
      exact ⟨rfl, bel_trans (bel_trans (bel_trans hb1 hb4) hb5) hb6⟩
    · have hG2 : (unpE s.data.toList d n != 0) = true := by simpa using hG
      clear hG
      go_enter Try.func5, Try.ntmps5
      go_wp2_with fail
      refine (pack_any _ _ _ _ HV.out).mono ?_
      rintro e w1 ⟨rfl, hb1⟩
      go_wp2_with fail
      refine (unpack_any s _ _ hs _).mono ?_
      rintro e w4 ⟨m, rfl, hm, hb4⟩
      clear hm
      go_wp2_with (go_at_call 23; refine (bitsBegun_any _).mono ?_; rintro e w6 ⟨rfl, hb6⟩)
      go_ret
      exact ⟨rfl, bel_trans (bel_trans hb1 hb4) hb6⟩

end Go.Proofs.Ytolcndchfnifhaa
