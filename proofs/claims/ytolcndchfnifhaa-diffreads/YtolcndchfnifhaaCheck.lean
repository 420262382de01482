/- code.Check, and the reference's CheckCode. -/
import Derived.Test.YtolcndchfnifhaaCodeMath
import Derived.Test.YtolcndchfnifhaaNumber
import Derived.Test.YtolcndchfnifhaaInts
namespace Go.Proofs.Ytolcndchfnifhaa
open Go.RowKit

set_option maxRecDepth 100000 in
set_option maxHeartbeats 400000 in
theorem check_any (v : Value) (xs : List Int) (w : World) (hv : IsInts w v xs) :
    Calls Try.prog 36 #[v] w fun e w' => e = .returned (.int .i64 (checkE xs)) ∧ w = w' := by
  obtain ⟨ao, ca, rfl, hla, hc⟩ := hv
  have HC := hide hc; clear hc
  by_cases hl : 1 ≤ xs.length ∧ xs.length ≤ 17
  · obtain ⟨hl1, hl2⟩ := hl
    have hd1 : decide ((xs.length : Int) < 1) = false := by simp; omega
    have hd2 : decide (17 < (xs.length : Int)) = false := by simp; omega
    obtain ⟨b, off, hao, hbl, hcell⟩ : ∃ b off, ao = some ⟨b, off, none⟩ ∧ b < w.heap.size ∧ ∀ j (h : j < xs.length), w.cell? ⟨b, off + j, none⟩ = some (.int .i64 xs[j]) := by
      rcases HC.out with h | h
      · subst h; exact absurd hl1 (by simp)
      · exact h
    subst hao
    have HCELL := hide hcell; clear hcell HC
    go_enter Try.func36, Try.ntmps36
    go_wp2
    go_loop [3, 16] (fun t i => ∃ k : Nat, k ≤ xs.length ∧ i = .int .i64 k ∧ t = .int .i64 (ksum (xs.take k) : Nat) ∧ Hid (lensOk (xs.take k) = true)) (fun _ i => xs.length - (intOf i).toNat)
    case atStart => exact ⟨0, Nat.zero_le _, rfl, rfl, rfl⟩
    case round =>
      obtain ⟨k, hk, rfl, rfl, HA⟩ := hrel
      have hks : ksum (xs.take k) ≤ 557056 := by
        have h1 := ksum_le (xs.take k)
        have h2 : (xs.take k).length ≤ 17 := by simp; omega
        omega
      by_cases hlt : k < xs.length
      · have c1 := HCELL.out k hlt
        have HT := hide (show xs.take (k + 1) = xs.take k ++ [xs[k]] from List.take_succ_eq_append_getElem hlt)
        by_cases hx0 : 0 ≤ xs[k]
        · by_cases hx1 : xs[k] ≤ 15
          · have HO := hide (show lensOk (xs.take (k + 1)) = true by rw [HT.out, lensOk_snoc, HA.out]; simp [lenOk, hx0, hx1])
            by_cases hx2 : 0 < xs[k]
            · obtain ⟨m, hm⟩ := Int.eq_ofNat_of_zero_le hx0
              rw [hm] at c1 hx1 hx2
              have HK := hide (show ksum (xs.take (k + 1)) = ksum (xs.take k) + 2 ^ (15 - m) by
                rw [HT.out, ksum_snoc, hm, wt, if_pos hx2]; simp)
              have hw := wrap_pow (n := 15 - m) (by omega)
              have hp := pow16 (n := 15 - m) (by omega)
              generalize 2 ^ (15 - m) = p at *
              clear hm hx0
              generalize ksum (xs.take k) = S at *
              go_wp2
              go_round
              case rel => exact ⟨k + 1, by omega, by go_num, by rw [HK.out]; go_num, HO⟩
              case measure => simp [intOf]; omega
            · obtain hm : xs[k] = 0 := by omega
              have HK := hide (show ksum (xs.take (k + 1)) = ksum (xs.take k) by
                rw [HT.out, ksum_snoc, wt, if_neg hx2]; simp)
              rw [hm] at c1
              clear hx0 hx1 hx2 hm
              generalize ksum (xs.take k) = S at *
              go_wp2
              go_round
              case rel => exact ⟨k + 1, by omega, by go_num, by rw [HK.out], HO⟩
              case measure => simp [intOf]; omega
          · have HE : Hid (checkE xs = 3) := by show _ = _; rw [checkE, if_pos ⟨hl1, hl2⟩, lensOk_false xs k hlt (by simp [lenOk]; omega)]; rfl
            go_wp2
            go_ret
            rw [HE.out]
            exact ⟨rfl, rfl⟩
        · have HE : Hid (checkE xs = 3) := by show _ = _; rw [checkE, if_pos ⟨hl1, hl2⟩, lensOk_false xs k hlt (by simp [lenOk]; omega)]; rfl
          go_wp2
          go_ret
          rw [HE.out]
          exact ⟨rfl, rfl⟩
      · have HX : xs.take k = xs := List.take_of_length_le (by omega)
        rw [HX] at HA hks ⊢
        clear HX
        by_cases hz : ksum xs = 0
        · have HE : Hid (checkE xs = 1) := by show _ = _; rw [checkE, if_pos ⟨hl1, hl2⟩, if_pos HA.out, if_pos (.inl hz)]
          rw [hz]
          go_wp2
          go_ret
          rw [HE.out]
          exact ⟨rfl, rfl⟩
        · by_cases hb : 32768 < ksum xs
          · have HE : Hid (checkE xs = 1) := by show _ = _; rw [checkE, if_pos ⟨hl1, hl2⟩, if_pos HA.out, if_pos (.inr hb)]
            generalize ksum xs = S at *
            go_wp2
            go_ret
            rw [HE.out]
            exact ⟨rfl, rfl⟩
          · have HE : Hid (checkE xs = 0) := by show _ = _; rw [checkE, if_pos ⟨hl1, hl2⟩, if_pos HA.out, if_neg (by omega)]
            generalize ksum xs = S at *
            have hz2 : ((S : Int) == 0) = false := by simp; omega
            have hb2 : decide (32768 < (S : Int)) = false := by simp; omega
            go_wp2
            go_ret
            rw [HE.out]
            exact ⟨rfl, rfl⟩
  · have HE : Hid (checkE xs = 2) := by show _ = _; rw [checkE, if_neg hl]
    by_cases h1 : xs.length < 1
    · have hd1 : decide ((xs.length : Int) < 1) = true := by simp; omega
      go_enter Try.func36, Try.ntmps36
      go_wp2
      go_ret
      rw [HE.out]
      exact ⟨rfl, rfl⟩
    · have hd1 : decide ((xs.length : Int) < 1) = false := by simp; omega
      have hd2 : decide (17 < (xs.length : Int)) = true := by simp; omega
      go_enter Try.func36, Try.ntmps36
      go_wp2
      go_ret
      rw [HE.out]
      exact ⟨rfl, rfl⟩

set_option maxRecDepth 100000 in
set_option maxHeartbeats 400000 in
theorem checkCode_any (v : Value) (xs : List Int) (w : World) (hv : IsInts w v xs) :
    Calls Try.prog 33 #[v] w fun e w' => e = .returned (.int .i64 (checkE xs)) ∧ w = w' := by
  obtain ⟨ao, ca, rfl, hla, hc⟩ := hv
  have HC := hide hc; clear hc
  by_cases hl : 1 ≤ xs.length ∧ xs.length ≤ 17
  · obtain ⟨hl1, hl2⟩ := hl
    have hd1 : decide (1 ≤ (xs.length : Int) ∧ (xs.length : Int) ≤ 17) = true := by simp; omega
    obtain ⟨b, off, hao, hbl, hcell⟩ : ∃ b off, ao = some ⟨b, off, none⟩ ∧ b < w.heap.size ∧ ∀ j (h : j < xs.length), w.cell? ⟨b, off + j, none⟩ = some (.int .i64 xs[j]) := by
      rcases HC.out with h | h
      · subst h; exact absurd hl1 (by simp)
      · exact h
    subst hao
    have HCELL := hide hcell; clear hcell HC
    go_enter Try.func33, Try.ntmps33
    go_wp2_with (go_at_call 61; refine (within_any _ _ _ _).mono ?_; rintro e w1 ⟨rfl, rfl⟩)
    go_loop [3, 4, 5] (fun t u i => ∃ k : Nat, k ≤ xs.length ∧ i = .int .i64 k ∧ t = .int .i64 (ksum (xs.take k) : Nat) ∧ u = .bool (anyUsed (xs.take k)) ∧ Hid (lensOk (xs.take k) = true)) (fun _ _ i => xs.length - (intOf i).toNat)
    case atStart => exact ⟨0, Nat.zero_le _, rfl, rfl, rfl, rfl⟩
    case round =>
      obtain ⟨k, hk, rfl, rfl, rfl, HA⟩ := hrel
      have hks : ksum (xs.take k) ≤ 557056 := by
        have h1 := ksum_le (xs.take k)
        have h2 : (xs.take k).length ≤ 17 := by simp; omega
        omega
      by_cases hlt : k < xs.length
      · have c1 := HCELL.out k hlt
        have HT := hide (show xs.take (k + 1) = xs.take k ++ [xs[k]] from List.take_succ_eq_append_getElem hlt)
        by_cases hx0 : 0 ≤ xs[k]
        · by_cases hx1 : xs[k] ≤ 15
          · have HO := hide (show lensOk (xs.take (k + 1)) = true by rw [HT.out, lensOk_snoc, HA.out]; simp [lenOk, hx0, hx1])
            by_cases hx2 : 0 < xs[k]
            · obtain ⟨m, hm⟩ := Int.eq_ofNat_of_zero_le hx0
              have HU := hide (show anyUsed (xs.take (k + 1)) = true by rw [HT.out, anyUsed_snoc]; simp [hx2])
              rw [hm] at c1 hx1 hx2
              have HK := hide (show ksum (xs.take (k + 1)) = ksum (xs.take k) + 2 ^ (15 - m) by
                rw [HT.out, ksum_snoc, hm, wt, if_pos hx2]; simp)
              have hw := wrap_pow (n := 15 - m) (by omega)
              have hp := pow16 (n := 15 - m) (by omega)
              generalize 2 ^ (15 - m) = p at *
              clear hm hx0
              have hq : decide ((m : Int) ≤ 15) = true := by simpa using hx1
              generalize ksum (xs.take k) = S at *
              go_wp2_with (go_at_call 61; refine (within_any _ _ _ _).mono ?_; rintro e w1 ⟨rfl, rfl⟩)
              go_round
              case rel => exact ⟨k + 1, by omega, by go_num, by rw [HK.out]; go_num, by rw [HU.out], HO⟩
              case measure => simp [intOf]; omega
            · obtain hm : xs[k] = 0 := by omega
              have HU := hide (show anyUsed (xs.take (k + 1)) = anyUsed (xs.take k) by rw [HT.out, anyUsed_snoc]; simp [hx2])
              have HK := hide (show ksum (xs.take (k + 1)) = ksum (xs.take k) by
                rw [HT.out, ksum_snoc, wt, if_neg hx2]; simp)
              rw [hm] at c1
              clear hx0 hx1 hx2 hm
              generalize ksum (xs.take k) = S at *
              generalize anyUsed (xs.take k) = U at *
              go_wp2_with (go_at_call 61; refine (within_any _ _ _ _).mono ?_; rintro e w1 ⟨rfl, rfl⟩)
              go_round
              case rel => exact ⟨k + 1, by omega, by go_num, by rw [HK.out], by rw [HU.out], HO⟩
              case measure => simp [intOf]; omega
          · have HE : Hid (checkE xs = 3) := by show _ = _; rw [checkE, if_pos ⟨hl1, hl2⟩, lensOk_false xs k hlt (by simp [lenOk]; omega)]; rfl
            have hq : decide (xs[k] ≤ 15) = false := by simpa using hx1
            go_wp2_with (go_at_call 61; refine (within_any _ _ _ _).mono ?_; rintro e w1 ⟨rfl, rfl⟩)
            go_ret
            rw [HE.out]
            exact ⟨rfl, rfl⟩
        · have HE : Hid (checkE xs = 3) := by show _ = _; rw [checkE, if_pos ⟨hl1, hl2⟩, lensOk_false xs k hlt (by simp [lenOk]; omega)]; rfl
          have hq : decide (0 ≤ xs[k]) = false := by simpa using hx0
          go_wp2_with (go_at_call 61; refine (within_any _ _ _ _).mono ?_; rintro e w1 ⟨rfl, rfl⟩)
          go_ret
          rw [HE.out]
          exact ⟨rfl, rfl⟩
      · have HX : xs.take k = xs := List.take_of_length_le (by omega)
        have HZ := hide (used_iff xs)
        rw [HX] at HA hks ⊢
        clear HX
        by_cases hz : ksum xs = 0
        · have HE : Hid (checkE xs = 1) := by show _ = _; rw [checkE, if_pos ⟨hl1, hl2⟩, if_pos HA.out, if_pos (.inl hz)]
          have hu := HZ.out.1 hz
          go_wp2
          go_ret
          rw [HE.out]
          exact ⟨rfl, rfl⟩
        · have hu : anyUsed xs = true := by
            cases h : anyUsed xs with
            | true => rfl
            | false => exact absurd (HZ.out.2 h) hz
          by_cases hb : 32768 < ksum xs
          · have HE : Hid (checkE xs = 1) := by show _ = _; rw [checkE, if_pos ⟨hl1, hl2⟩, if_pos HA.out, if_pos (.inr hb)]
            clear HZ
            generalize ksum xs = S at *
            go_wp2
            go_ret
            rw [HE.out]
            exact ⟨rfl, rfl⟩
          · have HE : Hid (checkE xs = 0) := by show _ = _; rw [checkE, if_pos ⟨hl1, hl2⟩, if_pos HA.out, if_neg (by omega)]
            clear HZ
            generalize ksum xs = S at *
            go_wp2
            go_ret
            rw [HE.out]
            exact ⟨rfl, rfl⟩
  · have HE : Hid (checkE xs = 2) := by show _ = _; rw [checkE, if_neg hl]
    have hd1 : decide (1 ≤ (xs.length : Int) ∧ (xs.length : Int) ≤ 17) = false := by
      rw [decide_eq_false_iff_not]; omega
    go_enter Try.func33, Try.ntmps33
    go_wp2_with (go_at_call 61; refine (within_any _ _ _ _).mono ?_; rintro e w1 ⟨rfl, rfl⟩)
    go_ret
    rw [HE.out]
    exact ⟨rfl, rfl⟩

end Go.Proofs.Ytolcndchfnifhaa
