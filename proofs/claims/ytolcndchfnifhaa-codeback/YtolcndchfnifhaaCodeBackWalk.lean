/- darkslidelaw.CodeBack: the walk. -/
import Derived.Test.YtolcndchfnifhaaBackCodeMath
import Derived.Test.YtolcndchfnifhaaCodeBegun
import Derived.Test.YtolcndchfnifhaaChoose
import Derived.Deep.QuietTactic
import Derived.BigQuiet
import Derived.WalkSmall
namespace Go.Proofs.Ytolcndchfnifhaa
open Go.RowKit

set_option maxRecDepth 100000 in
theorem str_append (a b : List UInt8) : str a ++ str b = str (a ++ b) := by
  apply ByteArray.ext
  simp [str]

set_option maxRecDepth 100000 in
set_option maxHeartbeats 1600000 in
theorem codeBack_walk (v : Value) (xs : List Int) (vl : Value) (l : List Int) (s : ByteArray) (i k : Int) (hs : s.size ≤ 140737488355328) (hi : (Lit.int .i64 i).wf = true) (hk : (Lit.int .i64 k).wf = true) (w : World) (hv : IsInts w v xs) (hl : IsInts w vl l) :
    Calls Try.prog 8 #[v, vl, .string s, .int .i64 i, .int .i64 k] w fun e w' => e = .returned (.bool true) ∧ Below w.heap.size w w' := by
  obtain ⟨b, rfl⟩ : ∃ b, s = str b := ⟨s.data.toList, rfl⟩
  rw [str_size] at hs
  obtain ⟨hi0, hi1⟩ := wf_int hi
  obtain ⟨hk0, hk1⟩ := wf_int hk
  clear hi hk
  have HV := hide hv
  have HL := hide hl
  obtain ⟨vo, vc, hvv, hvl, _⟩ := hv
  obtain ⟨lo, lc, hlv, hll, _⟩ := hl
  rw [hvv] at HV ⊢
  rw [hlv] at HL ⊢
  clear hvv hlv
  have hbm0 : (str b).size ≤ maxLen := by rw [str_size]; unfold maxLen; omega
  by_cases hE : checkE xs = 0
  · obtain ⟨hl1, hl2, hok, _, _⟩ := checkE_zero hE
    have HE := hide hE
    have HPF := hide (words_pf xs hE)
    clear hE
    go_enter Try.func8, Try.ntmps8
    go_wp2_with fail
    refine (write_any _ _ _ _ _ HV.out HL.out).mono ?_
    rintro e w1 ⟨rfl, hb1⟩
    have HV1 := hide (HV.out.below hb1 (Nat.le_refl _))
    have HL1 := hide (HL.out.below hb1 (Nat.le_refl _))
    go_wp2_with fail
    refine (words_walk _ _ _ HV1.out HE.out).mono ?_
    rintro e w2 ⟨r, rfl, hr, hb2⟩
    have HV2 := hide (HV1.out.below hb2 (Nat.le_refl _))
    have HL2 := hide (HL1.out.below hb2 (Nat.le_refl _))
    have hwl := wordsOf_length xs
    obtain ⟨ro, rc, hrv, hrl0, hrc⟩ := hr
    obtain ⟨rb, rof, hro, hrl, hrcell⟩ : ∃ b off, ro = some ⟨b, off, none⟩ ∧ b < w2.heap.size ∧ ∀ j (h : j < (wordsOf xs).length), w2.cell? ⟨b, off + j, none⟩ = some (.string (str (wordsOf xs)[j])) := by
      rcases hrc with h | h
      · rw [h] at hwl; simp at hwl; omega
      · exact h
    have HRC := hide hrcell
    clear hrcell hrc hrl0
    rw [hro] at hrv
    rw [hrv]
    clear hro hrv
    rw [hwl]
    have HWL := hide hwl
    clear hwl
    go_wp2_with fail
    refine (choose_any i xs.length hi0 hi1 hl1 (by omega) _).mono ?_
    rintro e w3 ⟨⟨x, hx, rfl⟩, rfl⟩
    go_wp2_with fail
    refine (choose_any k xs.length hk0 hk1 hl1 (by omega) _).mono ?_
    rintro e w3 ⟨⟨y, hy, rfl⟩, rfl⟩
    have c1 := HRC.out x (by rw [HWL.out]; exact hx)
    have c2 := HRC.out y (by rw [HWL.out]; exact hy)
    have HNP := hide (show x ≠ y → (wordsOf xs)[x]'(by rw [HWL.out]; exact hx) ≠ [] → ¬ (wordsOf xs)[x]'(by rw [HWL.out]; exact hx) <+: (wordsOf xs)[y]'(by rw [HWL.out]; exact hy) from fun hne hw => by
      have hg : ∀ j (h : j < (wordsOf xs).length), (wordsOf xs).getD j [] = (wordsOf xs)[j] := fun j h => by simp [List.getD, h]
      have h := HPF.out x y (by rw [HWL.out]; exact hx) (by rw [HWL.out]; exact hy) hne
      rw [hg x (by rw [HWL.out]; exact hx), hg y (by rw [HWL.out]; exact hy)] at h
      exact h hw)
    have h15x := words15 xs hok x (by rw [HWL.out]; exact hx)
    have h15y := words15 xs hok y (by rw [HWL.out]; exact hy)
    clear hok
    generalize (wordsOf xs)[x]'(by rw [HWL.out]; exact hx) = wx at *
    generalize (wordsOf xs)[y]'(by rw [HWL.out]; exact hy) = wy at *
    have hzx : (str wx).size = wx.length := str_size _
    have hzy : (str wy).size = wy.length := str_size _
    have hsum : (str (writeS xs l)).size + (str b).size ≤ 9223372036854775807 := by rw [str_size, str_size]; have := writeS_length xs l; omega
    have hadd := fun W => run_string_add_sum (P := Try.prog) W _ _ hsum
    by_cases hxy : x = y
    · have h1 : ((x : Int) != (y : Int)) = false := by simp [hxy]
      clear hxy
      go_wp2_with fail
      go_quiet (fail)
      obtain ⟨wq, hwq⟩ : ∃ wq, wq = w2.drewN nq := ⟨_, rfl⟩
      have hbq : Below w2.heap.size w2 wq := by rw [hwq]; exact below_drewN (Below.refl _ _) _
      rw [← hwq]
      clear hwq c1 c2
      by_cases hw : writeE xs l = 0
      · have hw0 : (writeE xs l != 0) = false := by simpa using hw
        by_cases hb : allB b = true
        · have hb0 : allB (str b).data.toList = true := hb
          have HRB := hide (read_back hw b hb)
          clear hw hb
          go_wp2_with fail
          refine (isRow_any _ _ hbm0).mono ?_
          rintro e wx ⟨rfl, rfl⟩
          rw [hb0]
          go_wp2_with fail
          rw [show str (writeS xs l) ++ str b = str (writeS xs l ++ b) from str_append _ _]
          have hlen4 : (writeS xs l ++ b).length ≤ 281474976710656 := by rw [List.length_append]; have := writeS_length xs l; omega
          refine (read_any _ _ _ _ _ (HV2.out.below hbq (Nat.le_refl _)) hlen4).mono ?_
          rintro e w4 ⟨r4, rfl, hr4, hb4⟩
          rw [HRB.out.1, HRB.out.2.2]
          rw [HRB.out.2.1] at hr4
          have HR4 := hide hr4
          clear hr4 hlen4
          go_wp2_with fail
          refine (codeBegun_any _).mono ?_
          rintro e w5 ⟨rfl, hb5⟩
          go_wp2_with fail
          refine (sameInts_any _ _ _ _ _ (HR4.out.below hb5 (Nat.le_refl _)) (((HL2.out.below hbq (Nat.le_refl _)).below hb4 (Nat.le_refl _)).below hb5 (Nat.le_refl _))).mono ?_
          rintro e w6 ⟨rfl, hb6⟩
          rw [show decide (l = l) = true by simp]
          go_wp2
          go_ret
          exact ⟨rfl, bel_trans (bel_trans (bel_trans (bel_trans (bel_trans hb1 hb2) hbq) hb4) hb5) hb6⟩
        · have hb0 : allB (str b).data.toList = false := by rw [str_data]; simpa using hb
          clear hw hb
          go_wp2_with fail
          refine (isRow_any _ _ hbm0).mono ?_
          rintro e wx ⟨rfl, rfl⟩
          rw [hb0]
          go_wp2_with fail
          refine (codeBegun_any _).mono ?_
          rintro e w5 ⟨rfl, hb5⟩
          go_wp2
          go_ret
          exact ⟨rfl, bel_trans (bel_trans (bel_trans hb1 hb2) hbq) hb5⟩
      · have hw0 : (writeE xs l != 0) = true := by simpa using hw
        clear hw
        go_wp2_with fail
        refine (codeBegun_any _).mono ?_
        rintro e w5 ⟨rfl, hb5⟩
        go_wp2
        go_ret
        exact ⟨rfl, bel_trans (bel_trans (bel_trans hb1 hb2) hbq) hb5⟩
    · have h1 : ((x : Int) != (y : Int)) = true := by simp; omega
      by_cases hwx : wx = []
      · have he : (str wx).toList.isEmpty = true := by rw [Lib.toList_data, str_data, hwx]; rfl
        clear hwx hxy
        go_wp2_with fail
        go_quiet (fail)
        obtain ⟨wq, hwq⟩ : ∃ wq, wq = w2.drewN nq := ⟨_, rfl⟩
        have hbq : Below w2.heap.size w2 wq := by rw [hwq]; exact below_drewN (Below.refl _ _) _
        rw [← hwq]
        clear hwq c1 c2
        by_cases hw : writeE xs l = 0
        · have hw0 : (writeE xs l != 0) = false := by simpa using hw
          by_cases hb : allB b = true
          · have hb0 : allB (str b).data.toList = true := hb
            have HRB := hide (read_back hw b hb)
            clear hw hb
            go_wp2_with fail
            refine (isRow_any _ _ hbm0).mono ?_
            rintro e wx ⟨rfl, rfl⟩
            rw [hb0]
            go_wp2_with fail
            rw [show str (writeS xs l) ++ str b = str (writeS xs l ++ b) from str_append _ _]
            have hlen4 : (writeS xs l ++ b).length ≤ 281474976710656 := by rw [List.length_append]; have := writeS_length xs l; omega
            refine (read_any _ _ _ _ _ (HV2.out.below hbq (Nat.le_refl _)) hlen4).mono ?_
            rintro e w4 ⟨r4, rfl, hr4, hb4⟩
            rw [HRB.out.1, HRB.out.2.2]
            rw [HRB.out.2.1] at hr4
            have HR4 := hide hr4
            clear hr4 hlen4
            go_wp2_with fail
            refine (codeBegun_any _).mono ?_
            rintro e w5 ⟨rfl, hb5⟩
            go_wp2_with fail
            refine (sameInts_any _ _ _ _ _ (HR4.out.below hb5 (Nat.le_refl _)) (((HL2.out.below hbq (Nat.le_refl _)).below hb4 (Nat.le_refl _)).below hb5 (Nat.le_refl _))).mono ?_
            rintro e w6 ⟨rfl, hb6⟩
            rw [show decide (l = l) = true by simp]
            go_wp2
            go_ret
            exact ⟨rfl, bel_trans (bel_trans (bel_trans (bel_trans (bel_trans hb1 hb2) hbq) hb4) hb5) hb6⟩
          · have hb0 : allB (str b).data.toList = false := by rw [str_data]; simpa using hb
            clear hw hb
            go_wp2_with fail
            refine (isRow_any _ _ hbm0).mono ?_
            rintro e wx ⟨rfl, rfl⟩
            rw [hb0]
            go_wp2_with fail
            refine (codeBegun_any _).mono ?_
            rintro e w5 ⟨rfl, hb5⟩
            go_wp2
            go_ret
            exact ⟨rfl, bel_trans (bel_trans (bel_trans hb1 hb2) hbq) hb5⟩
        · have hw0 : (writeE xs l != 0) = true := by simpa using hw
          clear hw
          go_wp2_with fail
          refine (codeBegun_any _).mono ?_
          rintro e w5 ⟨rfl, hb5⟩
          go_wp2
          go_ret
          exact ⟨rfl, bel_trans (bel_trans (bel_trans hb1 hb2) hbq) hb5⟩
      · have he : (str wx).toList.isEmpty = false := by rw [Lib.toList_data, str_data]; simpa using hwx
        by_cases hlen : wx.length ≤ wy.length
        · have h3 : decide ((wx.length : Int) ≤ (wy.length : Int)) = true := by simpa using hlen
          have h4 : (((str wy).extract 0 wx.length).toList == (str wx).toList) = false := by
            rw [Lib.extract_toList, Lib.toList_data, str_data, str_data, List.drop_zero, Bool.eq_false_iff]
            intro h
            refine HNP.out hxy hwx ?_
            rw [List.prefix_iff_eq_take]
            simpa using (beq_iff_eq.1 h).symm
          have h5 : decide (((str wx).size : Int) ≤ ((str wy).size : Int)) = true := by rw [hzx, hzy]; exact h3
          clear hwx hxy
          go_wp2_with fail
          go_quiet (fail)
          obtain ⟨wq, hwq⟩ : ∃ wq, wq = w2.drewN nq := ⟨_, rfl⟩
          have hbq : Below w2.heap.size w2 wq := by rw [hwq]; exact below_drewN (Below.refl _ _) _
          rw [← hwq]
          clear hwq c1 c2
          by_cases hw : writeE xs l = 0
          · have hw0 : (writeE xs l != 0) = false := by simpa using hw
            by_cases hb : allB b = true
            · have hb0 : allB (str b).data.toList = true := hb
              have HRB := hide (read_back hw b hb)
              clear hw hb
              go_wp2_with fail
              refine (isRow_any _ _ hbm0).mono ?_
              rintro e wx ⟨rfl, rfl⟩
              rw [hb0]
              go_wp2_with fail
              rw [show str (writeS xs l) ++ str b = str (writeS xs l ++ b) from str_append _ _]
              have hlen4 : (writeS xs l ++ b).length ≤ 281474976710656 := by rw [List.length_append]; have := writeS_length xs l; omega
              refine (read_any _ _ _ _ _ (HV2.out.below hbq (Nat.le_refl _)) hlen4).mono ?_
              rintro e w4 ⟨r4, rfl, hr4, hb4⟩
              rw [HRB.out.1, HRB.out.2.2]
              rw [HRB.out.2.1] at hr4
              have HR4 := hide hr4
              clear hr4 hlen4
              go_wp2_with fail
              refine (codeBegun_any _).mono ?_
              rintro e w5 ⟨rfl, hb5⟩
              go_wp2_with fail
              refine (sameInts_any _ _ _ _ _ (HR4.out.below hb5 (Nat.le_refl _)) (((HL2.out.below hbq (Nat.le_refl _)).below hb4 (Nat.le_refl _)).below hb5 (Nat.le_refl _))).mono ?_
              rintro e w6 ⟨rfl, hb6⟩
              rw [show decide (l = l) = true by simp]
              go_wp2
              go_ret
              exact ⟨rfl, bel_trans (bel_trans (bel_trans (bel_trans (bel_trans hb1 hb2) hbq) hb4) hb5) hb6⟩
            · have hb0 : allB (str b).data.toList = false := by rw [str_data]; simpa using hb
              clear hw hb
              go_wp2_with fail
              refine (isRow_any _ _ hbm0).mono ?_
              rintro e wx ⟨rfl, rfl⟩
              rw [hb0]
              go_wp2_with fail
              refine (codeBegun_any _).mono ?_
              rintro e w5 ⟨rfl, hb5⟩
              go_wp2
              go_ret
              exact ⟨rfl, bel_trans (bel_trans (bel_trans hb1 hb2) hbq) hb5⟩
          · have hw0 : (writeE xs l != 0) = true := by simpa using hw
            clear hw
            go_wp2_with fail
            refine (codeBegun_any _).mono ?_
            rintro e w5 ⟨rfl, hb5⟩
            go_wp2
            go_ret
            exact ⟨rfl, bel_trans (bel_trans (bel_trans hb1 hb2) hbq) hb5⟩
        · have h3 : decide ((wx.length : Int) ≤ (wy.length : Int)) = false := by simpa using hlen
          have h5 : decide (((str wx).size : Int) ≤ ((str wy).size : Int)) = false := by rw [hzx, hzy]; exact h3
          clear hwx hxy
          go_wp2_with fail
          go_quiet (fail)
          obtain ⟨wq, hwq⟩ : ∃ wq, wq = w2.drewN nq := ⟨_, rfl⟩
          have hbq : Below w2.heap.size w2 wq := by rw [hwq]; exact below_drewN (Below.refl _ _) _
          rw [← hwq]
          clear hwq c1 c2
          by_cases hw : writeE xs l = 0
          · have hw0 : (writeE xs l != 0) = false := by simpa using hw
            by_cases hb : allB b = true
            · have hb0 : allB (str b).data.toList = true := hb
              have HRB := hide (read_back hw b hb)
              clear hw hb
              go_wp2_with fail
              refine (isRow_any _ _ hbm0).mono ?_
              rintro e wx ⟨rfl, rfl⟩
              rw [hb0]
              go_wp2_with fail
              rw [show str (writeS xs l) ++ str b = str (writeS xs l ++ b) from str_append _ _]
              have hlen4 : (writeS xs l ++ b).length ≤ 281474976710656 := by rw [List.length_append]; have := writeS_length xs l; omega
              refine (read_any _ _ _ _ _ (HV2.out.below hbq (Nat.le_refl _)) hlen4).mono ?_
              rintro e w4 ⟨r4, rfl, hr4, hb4⟩
              rw [HRB.out.1, HRB.out.2.2]
              rw [HRB.out.2.1] at hr4
              have HR4 := hide hr4
              clear hr4 hlen4
              go_wp2_with fail
              refine (codeBegun_any _).mono ?_
              rintro e w5 ⟨rfl, hb5⟩
              go_wp2_with fail
              refine (sameInts_any _ _ _ _ _ (HR4.out.below hb5 (Nat.le_refl _)) (((HL2.out.below hbq (Nat.le_refl _)).below hb4 (Nat.le_refl _)).below hb5 (Nat.le_refl _))).mono ?_
              rintro e w6 ⟨rfl, hb6⟩
              rw [show decide (l = l) = true by simp]
              go_wp2
              go_ret
              exact ⟨rfl, bel_trans (bel_trans (bel_trans (bel_trans (bel_trans hb1 hb2) hbq) hb4) hb5) hb6⟩
            · have hb0 : allB (str b).data.toList = false := by rw [str_data]; simpa using hb
              clear hw hb
              go_wp2_with fail
              refine (isRow_any _ _ hbm0).mono ?_
              rintro e wx ⟨rfl, rfl⟩
              rw [hb0]
              go_wp2_with fail
              refine (codeBegun_any _).mono ?_
              rintro e w5 ⟨rfl, hb5⟩
              go_wp2
              go_ret
              exact ⟨rfl, bel_trans (bel_trans (bel_trans hb1 hb2) hbq) hb5⟩
          · have hw0 : (writeE xs l != 0) = true := by simpa using hw
            clear hw
            go_wp2_with fail
            refine (codeBegun_any _).mono ?_
            rintro e w5 ⟨rfl, hb5⟩
            go_wp2
            go_ret
            exact ⟨rfl, bel_trans (bel_trans (bel_trans hb1 hb2) hbq) hb5⟩
  · have hE0 : (checkE xs == 0) = false := by simpa using hE
    have hw0 : (writeE xs l != 0) = true := by rw [writeE, if_neg hE]; simpa using hE
    have HE := hide hE
    clear hE
    go_enter Try.func8, Try.ntmps8
    go_wp2_with fail
    refine (write_any _ _ _ _ _ HV.out HL.out).mono ?_
    rintro e w1 ⟨rfl, hb1⟩
    have HV1 := hide (HV.out.below hb1 (Nat.le_refl _))
    go_wp2_with fail
    refine (words_any _ _ _ HV1.out).mono ?_
    rintro e w2 ⟨r, rfl, hr, hb2⟩
    clear hr
    go_wp2_with fail
    refine (codeBegun_any _).mono ?_
    rintro e w5 ⟨rfl, hb5⟩
    go_wp2
    go_ret
    exact ⟨rfl, bel_trans (bel_trans hb1 hb2) hb5⟩

end Go.Proofs.Ytolcndchfnifhaa
