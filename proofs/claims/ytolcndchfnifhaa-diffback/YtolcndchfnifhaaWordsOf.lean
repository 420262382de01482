/- The reference's WordsOf. -/
import Derived.Test.YtolcndchfnifhaaWords
namespace Go.Proofs.Ytolcndchfnifhaa
open Go.RowKit

theorem refNumber_int (n size : Int) (N S : Nat) (hn : n = N) (hS : size = S) (h16 : S ≤ 16) (hlt : N < 65536) (w : World) :
    Calls Try.prog 22 #[.int .i64 n, .int .i64 size] w fun e w' => e = .returned (.string (str (numBits N S))) ∧ Below w.heap.size w w' := by
  subst hn hS
  exact refNumber_any S N w h16 hlt

set_option maxRecDepth 100000 in
set_option maxHeartbeats 800000 in
theorem wordsOf_any (v : Value) (xs : List Int) (w : World) (hv : IsInts w v xs) (hE : checkE xs = 0) :
    Calls Try.prog 34 #[v] w fun e w' => ∃ r, e = .returned r ∧ IsTexts w' r (wordsOf xs) ∧ Below w.heap.size w w' := by
  obtain ⟨hl1, hl2, hok, hs1, hs2⟩ := checkE_zero hE
  obtain ⟨i0, hi, hz0, hz1, hz2⟩ := info_parts Try.infoStr
  obtain ⟨ao, ca, rfl, hla, hc⟩ := hv
  obtain ⟨b, off, hao, hbl, hcell⟩ : ∃ b off, ao = some ⟨b, off, none⟩ ∧ b < w.heap.size ∧ ∀ j (h : j < xs.length), w.cell? ⟨b, off + j, none⟩ = some (.int .i64 xs[j]) := by
    rcases hc with h | h
    · subst h; exact absurd hl1 (by simp)
    · exact h
  subst hao
  have HCELL := hide hcell; clear hcell hc
  have HOK := hide hok; clear hok
  have HK := hide hs2; clear hs1 hs2
  go_enter Try.func34, Try.ntmps34
  go_wp2_with (at_make; refine wpList_make_full _ rfl _ _ 43 rfl w.heap.size 9 i0 (.string ⟨#[]⟩) 1 Try.underlying43 hi hz0 hz1 .i64 .i64 _ _ xs.length rfl rfl rfl rfl (by rw [hz2]; omega) (by unfold maxLen; omega) (Nat.le_refl _) ?_; intro w1 hown hgr)
  have hb1 : Below w.heap.size w w1 := (Below.refl _ _).grown hgr (Nat.le_refl _) (by simp)
  have ho1 : w1.ownsRow w.heap.size 9 1 (.slice (some ⟨w.heap.size, 0, none⟩) xs.length xs.length) xs.length (txtRow xs.length (wordAt xs 0 0)) := by
    rw [show txtRow xs.length (wordAt xs 0 0) = (madeCells (Value.string ⟨#[]⟩).cells (xs.length * 1)).toList from txtRow_start xs]
    exact hown
  clear hown hgr hE
  go_loopw [4, 5, 6] (fun nx la sz wr => ∃ t N L : Nat, t ≤ 15 ∧ sz = .int .i64 ((t : Int) + 1) ∧ nx = .int .i64 (N : Nat) ∧ la = .int .i64 (L : Nat) ∧ L ≤ t ∧ N ≤ 65536 ∧ Hid (N * 2 ^ (t + 1 - L) = base xs t) ∧
      wr.ownsRow w.heap.size 9 1 (.slice (some ⟨w.heap.size, 0, none⟩) xs.length xs.length) xs.length (txtRow xs.length (wordAt xs t 0)) ∧ Below w.heap.size w wr)
    (fun _ _ sz _ => 16 - (intOf sz).toNat)
  case atStart => exact ⟨0, 0, 0, by omega, by go_num, rfl, rfl, by omega, by omega, by show _ = _; simp [base], ho1, hb1⟩
  case round =>
    obtain ⟨t, N, L, ht, rfl, rfl, rfl, hLt, hN, HNL, ho, hb⟩ := hrel
    clear ho1 hb1
    by_cases hlt : t < 15
    · have hd : decide ((t : Int) + 1 ≤ 15) = true := by simp; omega
      have HZ := hide (nxt_zero xs t)
      go_wp2
      go_loopw [4, 5, 7] (fun nx la i wq => ∃ k N L : Nat, k ≤ xs.length ∧ i = .int .i64 k ∧ nx = .int .i64 (N : Nat) ∧ la = .int .i64 (L : Nat) ∧ L ≤ t + 1 ∧ N ≤ 65536 ∧ Hid (N * 2 ^ (t + 1 - L) = nxt xs t k) ∧
          wq.ownsRow w.heap.size 9 1 (.slice (some ⟨w.heap.size, 0, none⟩) xs.length xs.length) xs.length (txtRow xs.length (wordAt xs t k)) ∧ Below w.heap.size w wq)
        (fun _ _ i _ => xs.length - (intOf i).toNat)
      case atStart => exact ⟨0, N, L, Nat.zero_le _, rfl, rfl, rfl, by omega, hN, by show _ = _; rw [HNL.out, HZ.out], ho, hb⟩
      case round =>
        obtain ⟨k, N, L, hk, rfl, rfl, rfl, hLt, hN, HNL, ho2, hb2⟩ := hrel
        clear ho hb
        by_cases hkl : k < xs.length
        · have c1 := (hb2.cell (p := ⟨b, off + k, none⟩) hbl).trans (HCELL.out k hkl)
          by_cases he : xs[k] = (t : Int) + 1
          · have hnl := nxt_lt xs t k (by omega) HK.out hkl he
            have hp16 := pow16 (n := t + 1) (by omega)
            have HN1 := hide (show nxt xs t (k + 1) = nxt xs t k + 1 by rw [nxt, nxt, cnt_succ xs _ k hkl, if_pos he]; omega)
            have HS := hide (txtRow_set xs.length (wordAt xs t k) (wordAt xs t (k + 1)) k (numBits (nxt xs t k) (t + 1)) (wordAt_this xs t k hkl he) (fun i _ hi => wordAt_other xs t k i hi))
            have c2 := ho2.cellAt k (by omega)
            rw [txtRow_get _ _ _ hkl] at c2
            have f2 := ho2.frozenAt k
            have heq : (xs[k] != (t : Int) + 1) = false := by simpa using he
            have hM : nxt xs t k < 65536 := by omega
            have hsz := hb2.size
            have hsh : wrap64 ((N : Int) * 2 ^ (t + 1 - L)) = (nxt xs t k : Nat) := by
              rw [pow_cast, ← Int.natCast_mul, HNL.out]
              exact IntWalk.wrap64_in _ (by omega)
            clear he hnl hp16
            generalize nxt xs t k = M at *
            have e1 : (t : Int) + 1 = ((t + 1 : Nat) : Int) := by omega
            have E1 := hide e1
            have e2 : t + 1 ≤ 16 := by omega
            clear e1
            go_wp2_with fail
            try rw [hsh]
            clear hsh
            refine (refNumber_int _ _ M (t + 1) rfl E1.out e2 hM _).mono ?_
            rintro e w3 ⟨rfl, hb3⟩
            have ho3 := ownsRow_below ho2 hb3
            have c3 := (ho3.cellAt k (by rw [Nat.mul_one]; exact hkl)).trans (ho2.cellAt k (by rw [Nat.mul_one]; exact hkl) ▸ c2)
            have f3 := ho3.frozenAt k
            go_wp2
            have ho4 := (ho3.stored k (.string (str (numBits M (t + 1))))).1
            rw [HS.out] at ho4
            go_roundw
            case rel => exact ⟨k + 1, M + 1, t + 1, by omega, by go_num, by go_num, by go_num, by omega, by omega, by show _ = _; rw [HN1.out]; simp, ho4, (hb2.trans (hb3.mono hsz)).setCell (Nat.le_refl _) _⟩
            case measure => simp [intOf]; omega
          · have HN1 := hide (show nxt xs t (k + 1) = nxt xs t k by rw [nxt, nxt, cnt_succ xs _ k hkl, if_neg he]; omega)
            have HS := hide (txtRow_congr xs.length (wordAt xs t (k + 1)) (wordAt xs t k) (fun i _ => wordAt_skip xs t k i hkl he))
            have heq : (xs[k] != (t : Int) + 1) = true := by simpa using he
            clear he
            go_wp2
            go_roundw
            case rel => exact ⟨k + 1, N, L, by omega, by go_num, rfl, rfl, hLt, hN, by show _ = _; rw [HN1.out, HNL.out], by rw [HS.out]; exact ho2, hb2⟩
            case measure => simp [intOf]; omega
        · obtain rfl : k = xs.length := by omega
          have HS := hide (txtRow_congr xs.length (wordAt xs (t + 1) 0) (wordAt xs t xs.length) (fun i hi => wordAt_turn xs t i hi))
          have HB := hide (show N * 2 ^ (t + 1 + 1 - L) = base xs (t + 1) by
            rw [nxt_end, ← HNL.out, show t + 1 + 1 - L = (t + 1 - L) + 1 by omega, Nat.pow_succ, ← Nat.mul_assoc, Nat.mul_comm])
          go_wp2
          go_roundw
          case rel => exact ⟨t + 1, N, L, by omega, by go_num, rfl, rfl, by omega, hN, HB, by rw [HS.out]; exact ho2, hb2⟩
          case measure => simp [intOf]; omega
    · obtain rfl : t = 15 := by omega
      have HS := hide (txtRow_congr xs.length (wordAt xs 15 0) (word xs) (fun i hi => wordAt_end xs i hi HOK.out))
      rw [HS.out] at ho
      have hT := IsTexts.own ho (by omega)
      go_wp2
      go_ret
      exact ⟨_, rfl, hT, hb⟩

end Go.Proofs.Ytolcndchfnifhaa
