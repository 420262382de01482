/- The reference's Unpacked. -/
import Derived.Test.YtolcndchfnifhaaUnpack
import Derived.Test.YtolcndchfnifhaaPacked
namespace Go.Proofs.Ytolcndchfnifhaa
open Go.RowKit

theorem str_beq (l : List UInt8) (s : ByteArray) : ((str l).toList == s.toList) = decide (l = s.data.toList) := by
  rw [Lib.toList_data, Lib.toList_data, str_data, Bool.eq_iff_iff, decide_eq_true_eq, beq_iff_eq]

set_option maxRecDepth 100000 in
set_option maxHeartbeats 800000 in
theorem unpacked_walk (s : ByteArray) (D n : Nat) (hD1 : 1 ≤ D) (hD : D ≤ 16) (hn : n ≤ 4096) (hl : s.size = (n * D + 7) / 8) (w : World) :
    Calls Try.prog 30 #[.string s, .int .i64 D, .int .i64 n] w fun e w' => ∃ v, e = .returned (.tuple #[v, .int .i64 (if hasOne ((rowOf s.data.toList).drop (n * D)) = true then 1 else 0)]) ∧
      IsInts w' v (if hasOne ((rowOf s.data.toList).drop (n * D)) = true then [] else vals (rowOf s.data.toList) D n) ∧ Below w.heap.size w w' := by
  obtain ⟨i0, hi, hz0, hz1, hz2⟩ := info_parts Try.infoInt
  have hm : (n * D : Nat) ≤ 65536 := Nat.le_trans (Nat.mul_le_mul hn hD) (by decide)
  have HPI := hide (packed_iff s.data.toList n D (by rw [len_data]; exact hl))
  obtain ⟨m, hm0⟩ : ∃ m : Nat, m = n * D := ⟨_, rfl⟩
  have hmi : (n : Int) * (D : Int) = (m : Int) := by rw [hm0]; simp
  have HM := hide hm0
  rw [← hm0] at hm hl ⊢
  clear hm0
  have hdd : decide (1 ≤ (D : Int) ∧ (D : Int) ≤ 16) = true := by simp; omega
  have hn0 : decide ((n : Int) < 0) = false := by simp
  have hn1 : decide (4096 < (n : Int)) = false := by simp; omega
  have hne : ((s.size : Int) != ((m : Int) + 7) / 8) = false := by simp; omega
  have hsz : s.size ≤ 17592186044416 := by omega
  have HR := hide (rowOf_allB s.data.toList)
  have HRL := hide (show m ≤ (rowOf s.data.toList).length by rw [rowOf_length, len_data]; omega)
  have HRU := hide (show (rowOf s.data.toList).length ≤ 140737488355328 by rw [rowOf_length, len_data]; omega)
  generalize hR : rowOf s.data.toList = R at *
  have HRR := hide hR; clear hR
  have hl := hide hl
  go_enter Try.func30, Try.ntmps30
  go_wp2_with (first | (go_at_call 61; refine (within_any _ _ _ _).mono ?_; rintro e w1 ⟨rfl, rfl⟩) | (go_at_call 25; refine (row_any _ hsz _).mono ?_; rintro e w1 ⟨rfl, hb1⟩; rw [HRR.out]))
  have hs1 := hb1.size
  go_loopw [9, 10] (fun t i wr => ∃ k : Nat, k ≤ n ∧ i = .int .i64 k ∧ wr.ownsRow w.heap.size 3 1 t (vals R D k).length ((vals R D k).map (Value.int .i64)) ∧ Below w.heap.size w wr)
    (fun _ i _ => n - (intOf i).toNat)
  case atStart => exact ⟨0, Nat.zero_le _, rfl, World.ownsRow_nil _ _ _ _, hb1⟩
  case round =>
    obtain ⟨k, hk, rfl, ho, hb⟩ := hrel
    have hsw := hb.size
    by_cases hlt : k < n
    · have hkm : (k + 1) * D ≤ m := by rw [HM.out]; exact Nat.mul_le_mul_right _ hlt
      have hRL : (k + 1) * D ≤ R.length := by have := HRL.out; omega
      have hRU := HRU.out
      have hr0 : 0 ≤ (k : Int) * (D : Int) := by rw [← Int.natCast_mul]; omega
      have hr1 : (k : Int) * (D : Int) ≤ ((k : Int) + 1) * (D : Int) := by rw [Int.add_mul]; omega
      have hr2 : ((k : Int) + 1) * (D : Int) ≤ (R.length : Int) := by
        have h := Int.ofNat_le.2 hRL
        rw [Int.natCast_mul] at h
        exact h
      have hRs : (str R).size = R.length := str_size R
      have HX := hide (show (str R).extract (k * D) ((k + 1) * D) = str ((R.drop (k * D)).take D) by rw [Lib.extract_eq, str_data, Nat.succ_mul]; simp [str])
      have HB := hide (show allB ((R.drop (k * D)).take D) = true from allB_take (allB_drop HR.out _) _)
      have hcl : ((R.drop (k * D)).take D).length = D := by rw [List.length_take, List.length_drop]; rw [Nat.succ_mul] at hRL; omega
      have HV := hide (vals_succ R D k)
      have hvl : (vals R D k).length = k := vals_length R D k
      have HVL := hide hvl
      rw [hvl] at ho
      have hcs : (str ((R.drop (k * D)).take D)).size ≤ 16 := by rw [str_size, hcl]; exact hD
      clear hkm hvl hcl hRL
      generalize vals R D k = Vs at *
      generalize hC : (R.drop (k * D)).take D = C at *
      clear hC
      go_wp2_with fail
      rw [HX.out]
      refine (refValue_any _ _ hcs HB.out).mono ?_
      rintro e w2 ⟨rfl, rfl⟩
      go_wp2_with (at_builtin; refine wpList_append_own _ rfl _ _ 35 rfl w.heap.size 3 i0 (.int .i64 0) 1 8 Try.underlying35 hi hz0 hz1 hz2 rfl (by decide) _ _ _ rfl (ho.alloc _) ⟨wr.heap.size, 0, none⟩ 1 1 [.int .i64 (valOf C : Nat)] rfl rfl ?_ ?_ ?_ ?_ ?_ ?_; (intro j u hj; obtain ⟨rfl, rfl⟩ := one_get hj; simp [Addr.add, str_data]); (intro u hu; simp at hu; subst hu; rfl); (unfold maxLen; omega); omega; (simp; omega); intro v' w3 hown' hgrow _)
      have ho4 : w3.ownsRow w.heap.size 3 1 v' (vals R D (k + 1)).length ((vals R D (k + 1)).map (Value.int .i64)) := by
        rw [HV.out, List.map_append, List.length_append, HVL.out]
        exact hown'
      have hb4 : Below w.heap.size w w3 := (hb.alloc hsw _).grown hgrow (by simp; omega) (fun j hj => (ho.lt j hj).1)
      clear hown' hgrow ho
      go_roundw
      case rel => exact ⟨k + 1, by omega, by go_num, ho4, hb4⟩
      case measure => simp [intOf]; omega
    · obtain rfl : k = n := by omega
      have hints : IsInts wr _ (vals R D k) := IsInts.own ho (by rw [vals_length]; omega)
      have HPV := hide (pack_vals R D k HR.out (by rw [← HM.out]; exact HRL.out))
      have HVO := hide (vals_ok R D k hD HR.out (by rw [← HM.out]; exact HRL.out))
      have HI := hide hints
      have hvl := vals_length R D k
      have hpi := HPI.out
      rw [← HM.out] at hpi
      rw [← HM.out] at HPV
      have HPI2 := hide hpi
      clear hpi ho
      by_cases hone : hasOne (R.drop m) = true
      · have hq : ((str (bytesOf (R.take m))).toList == s.toList) = false := by
          rw [str_beq, decide_eq_false_iff_not]
          intro h
          rw [HPI2.out.1 h] at hone
          cases hone
        go_wp2_with (go_at_call 28; refine (packed_any _ _ D hD (by omega) HVO.out _ HI.out).mono ?_; rintro e w3 ⟨rfl, hb3⟩; rw [HPV.out])
        go_ret2
        exact ⟨_, rfl, IsInts.nil _, hb.trans (hb3.mono hsw)⟩
      · have hone : hasOne (R.drop m) = false := by simpa using hone
        have hq : ((str (bytesOf (R.take m))).toList == s.toList) = true := by
          rw [str_beq, decide_eq_true_eq]
          exact HPI2.out.2 hone
        go_wp2_with (go_at_call 28; refine (packed_any _ _ D hD (by omega) HVO.out _ HI.out).mono ?_; rintro e w3 ⟨rfl, hb3⟩; rw [HPV.out])
        go_ret2
        exact ⟨_, rfl, HI.out.below hb3 (Nat.le_refl _), hb.trans (hb3.mono hsw)⟩

set_option maxRecDepth 100000 in
set_option maxHeartbeats 400000 in
theorem unpacked_any (s : ByteArray) (d n : Int) (_hs : s.size ≤ maxLen) (w : World) :
    Calls Try.prog 30 #[.string s, .int .i64 d, .int .i64 n] w fun e w' => ∃ v, e = .returned (.tuple #[v, .int .i64 (unpE s.data.toList d n)]) ∧ IsInts w' v (unpV s.data.toList d n) ∧ Below w.heap.size w w' := by
  rcases unp_ways s.data.toList d n with ⟨hE, hV, h | ⟨h1, h2⟩⟩ | ⟨hE, hV, h1, h2⟩ | ⟨hE, hV, h1, h2, h3, h4⟩ | ⟨D, N, rfl, rfl, h1, h2, h3, h4, hE, hV⟩
  · have HE := hide hE; have HV := hide hV; clear hE hV
    have hdd : decide (1 ≤ d ∧ d ≤ 16) = false := h
    go_enter Try.func30, Try.ntmps30
    go_wp2_with (go_at_call 61; refine (within_any _ _ _ _).mono ?_; rintro e w1 ⟨rfl, rfl⟩)
    go_ret2
    rw [HE.out, HV.out]
    exact ⟨_, rfl, IsInts.nil _, Below.refl _ _⟩
  · have HE := hide hE; have HV := hide hV; clear hE hV
    have hdd : decide (1 ≤ d ∧ d ≤ 16) = true := h1
    go_enter Try.func30, Try.ntmps30
    go_wp2_with (go_at_call 61; refine (within_any _ _ _ _).mono ?_; rintro e w1 ⟨rfl, rfl⟩)
    go_ret2
    rw [HE.out, HV.out]
    exact ⟨_, rfl, IsInts.nil _, Below.refl _ _⟩
  · have HE := hide hE; have HV := hide hV; clear hE hV
    have hdd : decide (1 ≤ d ∧ d ≤ 16) = true := h1
    go_enter Try.func30, Try.ntmps30
    go_wp2_with (go_at_call 61; refine (within_any _ _ _ _).mono ?_; rintro e w1 ⟨rfl, rfl⟩)
    go_ret2
    rw [HE.out, HV.out]
    exact ⟨_, rfl, IsInts.nil _, Below.refl _ _⟩
  · have HE := hide hE; have HV := hide hV; clear hE hV
    have hdd : decide (1 ≤ d ∧ d ≤ 16) = true := h1
    have hd16 : 1 ≤ d ∧ d ≤ 16 := by simpa [isDepthB] using h1
    obtain ⟨hm0, hm1⟩ := mul_fits hd16.1 hd16.2 h2 h3
    have hmm : n * d = ((n.toNat * d.toNat : Nat) : Int) := by
      rw [Int.natCast_mul, Int.toNat_of_nonneg h2, Int.toNat_of_nonneg (by omega)]
    have hne : ((s.size : Int) != (n * d + 7) / 8) = true := by
      rw [len_data] at h4
      rw [hmm]
      generalize n.toNat * d.toNat = z at *
      simp
      omega
    clear hmm h4 hd16
    go_enter Try.func30, Try.ntmps30
    go_wp2_with (go_at_call 61; refine (within_any _ _ _ _).mono ?_; rintro e w1 ⟨rfl, rfl⟩)
    go_ret2
    rw [HE.out, HV.out]
    exact ⟨_, rfl, IsInts.nil _, Below.refl _ _⟩
  · rw [hE, hV]
    exact unpacked_walk s D N h1 h2 h3 (by rw [← len_data]; exact h4) w

end Go.Proofs.Ytolcndchfnifhaa
