/- bits.Bytes, and the reference's. -/
import Derived.Test.YtolcndchfnifhaaNumber
import Derived.Test.YtolcndchfnifhaaBytesMath
import Derived.BigRegion
namespace Go.Proofs.Ytolcndchfnifhaa
open Go.RowKit

set_option maxRecDepth 100000 in
set_option maxHeartbeats 400000 in
theorem bytes_ok (s : ByteArray) (hs : s.size ≤ 140737488355328) (hb : allB s.data.toList = true) (w : World) :
    Calls Try.prog 15 #[.string s] w fun e w' => e = .returned (.tuple #[.string (str (bytesOf s.data.toList)), .int .i64 0]) ∧ Below w.heap.size w w' := by
  have hs0 : s.size ≤ maxLen := by unfold maxLen; omega
  obtain ⟨i0, hi, hz0, hz1, hz2⟩ := info_parts Try.infoU8
  obtain ⟨n, hn⟩ : ∃ n, n = (s.size + 7) / 8 := ⟨_, rfl⟩
  have HN := hide hn; clear hn
  have HB := hide hb
  go_enter Try.func15, Try.ntmps15
  go_wp2_with (first | (go_at_call 59; refine (allBits_any _ _ hs0).mono ?_; rintro e w' ⟨rfl, rfl⟩) | (go_at_call 60; refine (byteCount_any _ (by omega) (by omega) _).mono ?_; rintro e w' ⟨rfl, rfl⟩) | (at_make; refine wpList_make_full _ rfl _ _ 79 rfl w.heap.size 5 i0 (.int .u8 0) 1 Try.underlying79 hi hz0 hz1 .i64 .i64 _ _ n rfl rfl ?_ ?_ ?_ ?_ (Nat.le_refl _) ?_; (have := HN.out; omega); (have := HN.out; omega); (have := HN.out; rw [hz2]; omega); (have := HN.out; unfold maxLen; omega); intro w1 hown hgr))
  clear hb
  go_loopw [15] (fun i wr => ∃ k : Nat, k ≤ s.size ∧ i = .int .i64 k ∧ wr.ownsRow w.heap.size 5 1 (.slice (some ⟨w.heap.size, 0, none⟩) n n) n (accRow s.data.toList n k) ∧ Below w.heap.size w wr)
    (fun i _ => s.size - (intOf i).toNat)
  case atStart => exact ⟨0, Nat.zero_le _, rfl, by rw [accRow_start]; exact hown, (Below.refl _ _).grown hgr (Nat.le_refl _) (by simp)⟩
  case round =>
    obtain ⟨k, hk, rfl, ho, hb⟩ := hrel
    clear hown hgr
    by_cases hlt : k < s.size
    · have hkn : k / 8 < n := by have := HN.out; omega
      have hc := ho.cellAt (k / 8) (by omega)
      rw [accRow_get _ _ _ _ hkn] at hc
      have hf := ho.frozenAt (k / 8)
      have hb2 := (acc_bounds s.data.toList k).2
      have h4 : 48 ≤ (s[k].toNat : Int) ∧ (s[k].toNat : Int) ≤ 49 := by
        have := allB_get HB.out k (by simpa using hlt)
        rw [get_data s k hlt] at this
        omega
      obtain ⟨h4, h5⟩ := h4
      have hst := ho.stored (k / 8) (.int .u8 (accAt s.data.toList (k + 1) (k / 8) : Nat))
      rw [accRow_set _ _ _ _ rfl, ← or_cell s.data.toList k (s[k].toNat : Int) (by
        rw [bitAt_of _ _ (by simpa using hlt) HB.out, get_data s k hlt]; omega)] at hst
      have HS := hide hst; clear hst
      generalize accAt s.data.toList k (k / 8) = a at *
      go_wp2
      go_region
      go_wp2
      go_roundw
      case rel =>
        exact ⟨k + 1, by omega, by go_num, HS.out.1.drew, (hb.setCell (Nat.le_refl _) _).drew⟩
      case measure => simp [intOf]; omega
    · obtain rfl : k = s.size := by omega
      have hown2 : wr.ownsRow w.heap.size 5 1 (.slice (some ⟨w.heap.size, 0, none⟩) n n) n (byt (bytesOf s.data.toList)) := by
        have := accRow_end s.data.toList
        rw [len_data, ← HN.out] at this
        rw [← this]; exact ho
      clear ho
      have hcv := run_string_own (dst := 9) Try.underlying79 Try.underlying5 Try.underlying9 hown2
      go_wp2
      go_ret2
      exact ⟨rfl, hb⟩

theorem bytes_bad (s : ByteArray) (hs : s.size ≤ 140737488355328) (hb : allB s.data.toList = false) (w : World) :
    Calls Try.prog 15 #[.string s] w fun e w' => e = .returned (.tuple #[.string (str []), .int .i64 1]) ∧ Below w.heap.size w w' := by
  have hs0 : s.size ≤ maxLen := by unfold maxLen; omega
  go_enter Try.func15, Try.ntmps15
  go_wp2_with (go_at_call 59; refine (allBits_any _ _ hs0).mono ?_; rintro e w' ⟨rfl, rfl⟩)
  go_ret2
  exact ⟨rfl, Below.refl _ _⟩

/-- the first q bytes. -/
def bytesUp (l : List UInt8) (q : Nat) : List UInt8 := (List.range q).map fun q => UInt8.ofNat (partVal l (8 * q) 8)
theorem bytesUp_succ (l : List UInt8) (q : Nat) : bytesUp l (q + 1) = bytesUp l q ++ [UInt8.ofNat (partVal l (8 * q) 8)] := by
  simp [bytesUp, List.range_succ]
theorem bytesUp_length (l : List UInt8) (q : Nat) : (bytesUp l q).length = q := by simp [bytesUp]

set_option maxRecDepth 100000 in
set_option maxHeartbeats 400000 in
theorem refBytes_any (s : ByteArray) (hs : s.size ≤ 140737488355328) (w : World) :
    Calls Try.prog 17 #[.string s] w fun e w' => e = .returned (.string (str (bytesOf s.data.toList))) ∧ Below w.heap.size w w' := by
  obtain ⟨i0, hi, hz0, hz1, hz2⟩ := info_parts Try.infoU8
  obtain ⟨n, hn⟩ : ∃ n, n = s.size / 8 + 1 := ⟨_, rfl⟩
  have HN := hide hn; clear hn
  go_enter Try.func17, Try.ntmps17
  go_wp2_with (at_make; refine wpList_make_own _ rfl _ _ 79 rfl w.heap.size 5 i0 (.int .u8 0) 1 Try.underlying79 hi hz0 hz1 .i64 .i64 _ n rfl rfl ?_ ?_ ?_ (Nat.le_refl _) ?_; (have := HN.out; omega); (have := HN.out; rw [hz2]; omega); (have := HN.out; unfold maxLen; omega); intro w1 hown hgr)
  go_loopw [3, 4] (fun v i wr => ∃ q : Nat, 8 * q ≤ s.size + 7 ∧ i = .int .i64 (8 * (q : Int)) ∧ v = .slice (some ⟨w.heap.size, 0, none⟩) q n ∧
      wr.ownsRow w.heap.size 5 1 (.slice (some ⟨w.heap.size, 0, none⟩) q n) q (byt (bytesUp s.data.toList q)) ∧ Below w.heap.size w wr)
    (fun _ i _ => s.size + 8 - (intOf i).toNat)
  case atStart => exact ⟨0, Nat.zero_le _, rfl, rfl, hown, (Below.refl _ _).grown hgr (Nat.le_refl _) (by simp)⟩
  case round =>
    obtain ⟨q, hq, rfl, rfl, ho, hb⟩ := hrel
    clear hown hgr
    by_cases hlt : 8 * q < s.size
    · have hd : decide (8 * (q : Int) < (s.size : Int)) = true := by simp; omega
      go_wp2
      go_loop [5, 6] (fun t i => ∃ j : Nat, j ≤ 8 ∧ i = .int .i64 (8 * (q : Int) + (j : Int)) ∧ t = .int .i64 (partVal s.data.toList (8 * q) j : Nat)) (fun _ i => 8 * q + 8 - (intOf i).toNat)
      case atStart => exact ⟨0, Nat.zero_le _, by go_num, rfl⟩
      case round =>
        obtain ⟨j, hj, rfl, rfl⟩ := hrel
        have hp := partVal_lt s.data.toList (8 * q) j
        have hp2 : 2 ^ j ≤ 2 ^ 8 := Nat.pow_le_pow_right (by decide) hj
        have hp3 : partVal s.data.toList (8 * q) j < 256 := by omega
        clear hp hp2
        have hstep : partVal s.data.toList (8 * q) (j + 1) = 2 * partVal s.data.toList (8 * q) j + bitAt s.data.toList (8 * q + j) := rfl
        by_cases hj8 : j < 8
        · by_cases h1 : 8 * q + j < s.size
          · by_cases h2 : (s[8 * q + j].toNat : Int) = 49
            · rw [bitAt_one _ _ (by simpa using h1) (by rw [get_data s _ h1]; omega)] at hstep
              have HS := hide hstep; clear hstep
              generalize partVal s.data.toList (8 * q) j = pv at *
              go_wp2
              go_round
              case rel => exact ⟨j + 1, by omega, by go_num, by rw [HS.out]; go_num⟩
              case measure => simp [intOf]; omega
            · rw [bitAt_zero _ _ (by simpa using h1) (by rw [get_data s _ h1]; omega)] at hstep
              have HS := hide hstep; clear hstep
              have h2' : ((s[8 * q + j].toNat : Int) == 49) = false := by simpa using h2
              generalize partVal s.data.toList (8 * q) j = pv at *
              go_wp2
              go_round
              case rel => exact ⟨j + 1, by omega, by go_num, by rw [HS.out]; go_num⟩
              case measure => simp [intOf]; omega
          · rw [bitAt_past _ _ (by rw [len_data]; omega)] at hstep
            have HS := hide hstep; clear hstep
            generalize partVal s.data.toList (8 * q) j = pv at *
            go_wp2
            go_round
            case rel => exact ⟨j + 1, by omega, by go_num, by rw [HS.out]; go_num⟩
            case measure => simp [intOf]; omega
        · obtain rfl : j = 8 := by omega
          clear hstep
          have hlt2 : q < n := by have := HN.out; omega
          have HU := hide (bytesUp_succ s.data.toList q)
          generalize partVal s.data.toList (8 * q) 8 = pv at *
          go_wp2_with (at_builtin; refine wpList_append_fits _ rfl _ _ 79 rfl w.heap.size 5 i0 1 Try.underlying79 hi hz1 w.heap.size q n _ rfl (ho.alloc _) ⟨wr.heap.size, 0, none⟩ 1 1 [.int .u8 pv] rfl rfl ?_ ?_ (by omega) ?_; (intro a u hu; obtain ⟨rfl, rfl⟩ := one_get hu; simp [Addr.add]); (intro u hu; simp at hu; subst hu; rfl); intro w2 ho2 hgr2)
          have ho3 : w2.ownsRow w.heap.size 5 1 (.slice (some ⟨w.heap.size, 0, none⟩) (q + 1) n) (q + 1) (byt (bytesUp s.data.toList (q + 1))) := by
            rw [HU.out, byt_append, byt_one pv hp3]; exact ho2
          go_roundw
          case rel => exact ⟨q + 1, by omega, by go_num, rfl, ho3, (hb.alloc hb.size _).grown hgr2 (by have := hb.size; simp; omega) (by simp)⟩
          case measure => simp [intOf]; omega
    · have hq2 : q = (s.size + 7) / 8 := by omega
      have hown2 : wr.ownsRow w.heap.size 5 1 (.slice (some ⟨w.heap.size, 0, none⟩) q n) q (byt (bytesOf s.data.toList)) := by
        have : bytesOf s.data.toList = bytesUp s.data.toList q := by rw [bytesOf, bytesUp, len_data, hq2]
        rw [this]; exact ho
      clear ho hq2
      have hcv := run_string_own (dst := 9) Try.underlying79 Try.underlying5 Try.underlying9 hown2
      go_wp2
      go_ret
      exact ⟨rfl, hb⟩

end Go.Proofs.Ytolcndchfnifhaa
