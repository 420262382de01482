/- What must be in any case, of codes: codeBegun is true; darkslidelaw.CodeWords: the walk. -/
import Derived.Test.YtolcndchfnifhaaCodeRead
import Derived.Test.YtolcndchfnifhaaWordsOf
import Derived.Test.YtolcndchfnifhaaSameTexts
namespace Go.Proofs.Ytolcndchfnifhaa
open Go.RowKit

theorem lens_any (w : World) : Calls Try.prog 69 #[] w fun e w' => e = .returned (.slice (some ⟨w.heap.size, 0, none⟩) 3 3) ∧ IsInts w' (.slice (some ⟨w.heap.size, 0, none⟩) 3 3) [1, 2, 2] ∧ Below w.heap.size w w' := by
  go_enter Try.func69, Try.ntmps69
  go_wp2
  go_ret
  exact ⟨rfl, IsInts.own (base := w.heap.size) (World.ownsRow_lit w #[.int .i64 1, .int .i64 2, .int .i64 2] 3 (Nat.le_refl _) (by decide) (by decide)) (by decide), bel_alloc _ _⟩
theorem ints201 (w : World) : IsInts (w.alloc (.cells #[.int .i64 2, .int .i64 0, .int .i64 1] 3)) (.slice (some ⟨w.heap.size, 0, none⟩) 3 3) [2, 0, 1] :=
  IsInts.own (base := w.heap.size) (World.ownsRow_lit w #[.int .i64 2, .int .i64 0, .int .i64 1] 3 (Nat.le_refl _) (by decide) (by decide)) (by decide)
theorem ints20 (w : World) : IsInts (w.alloc (.cells #[.int .i64 2, .int .i64 0] 3)) (.slice (some ⟨w.heap.size, 0, none⟩) 2 2) [2, 0] :=
  IsInts.own (base := w.heap.size) (World.ownsRow_lit w #[.int .i64 2, .int .i64 0] 2 (Nat.le_refl _) (by decide) (by decide)) (by decide)
theorem ints111 (w : World) : IsInts (w.alloc (.cells #[.int .i64 1, .int .i64 1, .int .i64 1] 3)) (.slice (some ⟨w.heap.size, 0, none⟩) 3 3) [1, 1, 1] :=
  IsInts.own (base := w.heap.size) (World.ownsRow_lit w #[.int .i64 1, .int .i64 1, .int .i64 1] 3 (Nat.le_refl _) (by decide) (by decide)) (by decide)

theorem cb_check : checkE [1, 2, 2] = 0 := by decide +kernel
theorem cb_check1 : checkE [1, 1, 1] = 1 := by decide +kernel
theorem cb_words : wordsOf [1, 2, 2] = [[48], [49, 48], [49, 49]] := by decide +kernel
theorem cb_write : writeS [1, 2, 2] [2, 0, 1] = [49, 49, 48, 49, 48] := by decide +kernel
theorem cb_writeE : writeE [1, 2, 2] [2, 0, 1] = 0 := by decide +kernel
theorem cb_readE : readE [1, 2, 2] [49, 49, 48, 49, 48] 2 = 0 := by decide +kernel
theorem cb_readV : readV [1, 2, 2] [49, 49, 48, 49, 48] 2 = [2, 0] := by decide +kernel
theorem cb_readR : readR [1, 2, 2] [49, 49, 48, 49, 48] 2 = [49, 48] := by decide +kernel

set_option maxRecDepth 100000 in
set_option maxHeartbeats 800000 in
theorem codeBegun_any (w : World) : Calls Try.prog 35 #[] w fun e w' => e = .returned (.bool true) ∧ Below w.heap.size w w' := by
  go_enter Try.func35, Try.ntmps35
  go_wp2_with fail
  refine (lens_any w).mono ?_
  rintro e w1 ⟨rfl, hi1, hb1⟩
  have HI1 := hide hi1; clear hi1
  go_wp2_with fail
  refine (words_walk _ _ _ HI1.out cb_check).mono ?_
  rintro e w2 ⟨r, rfl, hr, hb2⟩
  rw [cb_words] at hr
  have HR := hide hr
  obtain ⟨ro, rc, rfl, _, hrc⟩ := hr
  obtain ⟨rb, rof, rfl, hrl, hrcell⟩ : ∃ b off, ro = some ⟨b, off, none⟩ ∧ b < w2.heap.size ∧ ∀ j (h : j < ([[48], [49, 48], [49, 49]] : List (List UInt8)).length), w2.cell? ⟨b, off + j, none⟩ = some (.string (str ([[48], [49, 48], [49, 49]] : List (List UInt8))[j])) := by
    rcases hrc with h | h
    · cases h
    · exact h
  have HC0 := hide (hrcell 0 (by decide))
  have HC1 := hide (hrcell 1 (by decide))
  have HC2 := hide (hrcell 2 (by decide))
  clear hrcell hrc
  go_wp2_with fail
  refine (lens_any w2).mono ?_
  rintro e w3 ⟨rfl, hi3, hb3⟩
  have HI3 := hide hi3; clear hi3
  go_wp2_with fail
  refine (write_any _ _ [1, 2, 2] [2, 0, 1] _ (HI3.out.alloc _) (ints201 w3)).mono ?_
  rintro e w4 ⟨rfl, hb4⟩
  rw [cb_write, cb_writeE]
  go_wp2_with fail
  refine (lens_any w4).mono ?_
  rintro e w5 ⟨rfl, hi5, hb5⟩
  have HI5 := hide hi5; clear hi5
  go_wp2_with fail
  refine (read_any _ [1, 2, 2] [49, 49, 48, 49, 48] 2 _ HI5.out (by decide)).mono ?_
  rintro e w6 ⟨q, rfl, hq, hb6⟩
  rw [cb_readE, cb_readR]
  rw [cb_readV] at hq
  have HQ := hide hq; clear hq
  have HB26 := hide (bel_trans (bel_trans (bel_trans (bel_trans hb3 (bel_alloc _ _)) hb4) hb5) hb6)
  have c0 := (HB26.out.cell (p := ⟨rb, rof, none⟩) hrl).trans HC0.out
  have c1 := (HB26.out.cell (p := ⟨rb, rof + 1, none⟩) hrl).trans HC1.out
  have c2 := (HB26.out.cell (p := ⟨rb, rof + 2, none⟩) hrl).trans HC2.out
  have hstr : ∀ l : List UInt8, (str l).toList = l := fun l => by rw [Lib.toList_data, str_data]
  go_wp2_with fail
  refine (sameInts_any _ _ _ [2, 0] _ (HQ.out.alloc _) (ints20 w6)).mono ?_
  rintro e w7 ⟨rfl, hb7⟩
  have hd : decide (([2, 0] : List Int) = [2, 0]) = true := by decide
  rw [hd]
  clear hd
  go_wp2_with fail
  refine (check_any _ [1, 1, 1] _ (ints111 w7)).mono ?_
  rintro e w8 ⟨rfl, rfl⟩
  rw [cb_check1]
  go_wp2
  go_ret
  exact ⟨rfl, bel_trans (bel_trans (bel_trans (bel_trans hb1 hb2) HB26.out) (bel_trans (bel_alloc _ _) hb7)) (bel_alloc _ _)⟩

set_option maxRecDepth 100000 in
set_option maxHeartbeats 800000 in
theorem codeWords_walk (v : Value) (xs : List Int) (w : World) (hv : IsInts w v xs) :
    Calls Try.prog 6 #[v] w fun e w' => e = .returned (.bool true) ∧ Below w.heap.size w w' := by
  have HV := hide hv; clear hv
  by_cases hE : checkE xs = 0
  · have HE := hide hE
    go_enter Try.func6, Try.ntmps6
    go_wp2_with fail
    refine (words_any _ _ _ HV.out).mono ?_
    rintro e w1 ⟨r, rfl, hr, hb1⟩
    rw [if_pos HE.out] at hr
    have HR := hide hr; clear hr
    have HV1 := hide (HV.out.below hb1 (Nat.le_refl _))
    go_wp2_with fail
    refine (checkCode_any _ _ _ HV1.out).mono ?_
    rintro e w2 ⟨rfl, rfl⟩
    go_wp2_with fail
    refine (wordsOf_any _ _ _ HV1.out HE.out).mono ?_
    rintro e w3 ⟨q, rfl, hq, hb3⟩
    have HQ := hide hq; clear hq
    go_wp2_with fail
    refine (codeBegun_any _).mono ?_
    rintro e w4 ⟨rfl, hb4⟩
    go_wp2_with fail
    refine (check_any _ _ _ ((HV1.out.below hb3 (Nat.le_refl _)).below hb4 (Nat.le_refl _))).mono ?_
    rintro e w5 ⟨rfl, rfl⟩
    go_wp2_with fail
    refine (sameTexts_any _ _ _ _ _ ((HR.out.below hb3 (Nat.le_refl _)).below hb4 (Nat.le_refl _)) (HQ.out.below hb4 (Nat.le_refl _))).mono ?_
    rintro e w6 ⟨rfl, hb6⟩
    have hd : decide (wordsOf xs = wordsOf xs) = true := by simp
    rw [hd]
    clear hd
    go_wp2
    go_ret
    exact ⟨rfl, bel_trans (bel_trans (bel_trans hb1 hb3) hb4) hb6⟩
  · have HE := hide hE
    have hne : (checkE xs == 0) = false := by simpa using hE
    clear hE
    go_enter Try.func6, Try.ntmps6
    go_wp2_with fail
    refine (words_any _ _ _ HV.out).mono ?_
    rintro e w1 ⟨r, rfl, hr, hb1⟩
    rw [if_neg HE.out] at hr
    have HR := hide hr; clear hr
    have HV1 := hide (HV.out.below hb1 (Nat.le_refl _))
    go_wp2_with fail
    refine (checkCode_any _ _ _ HV1.out).mono ?_
    rintro e w2 ⟨rfl, rfl⟩
    go_wp2_with fail
    refine (codeBegun_any _).mono ?_
    rintro e w4 ⟨rfl, hb4⟩
    go_wp2_with fail
    refine (check_any _ _ _ (HV1.out.below hb4 (Nat.le_refl _))).mono ?_
    rintro e w5 ⟨rfl, rfl⟩
    go_wp2_with fail
    refine (sameTexts_any _ _ _ [] _ (HR.out.below hb4 (Nat.le_refl _)) (IsTexts.nil _)).mono ?_
    rintro e w6 ⟨rfl, hb6⟩
    have hd : decide (([] : List (List UInt8)) = []) = true := by simp
    rw [hd]
    clear hd
    go_wp2
    go_ret
    exact ⟨rfl, bel_trans (bel_trans hb1 hb4) hb6⟩

end Go.Proofs.Ytolcndchfnifhaa
