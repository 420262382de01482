/- darkslidelaw.CodeWrites: the walk. -/
import Derived.Test.YtolcndchfnifhaaRefRead
import Derived.Test.YtolcndchfnifhaaCodeBegun
namespace Go.Proofs.Ytolcndchfnifhaa
open Go.RowKit

set_option maxRecDepth 100000 in
set_option maxHeartbeats 800000 in
theorem codeWrites_walk (v : Value) (xs : List Int) (vl : Value) (l : List Int) (s : ByteArray) (n : Int) (hs : s.size ≤ 140737488355328) (w : World) (hv : IsInts w v xs) (hl : IsInts w vl l) :
    Calls Try.prog 7 #[v, vl, .string s, .int .i64 n] w fun e w' => e = .returned (.bool true) ∧ Below w.heap.size w w' := by
  obtain ⟨b, rfl⟩ : ∃ b, s = str b := ⟨s.data.toList, rfl⟩
  rw [str_size] at hs
  have HV := hide hv; clear hv
  have HL := hide hl; clear hl
  go_enter Try.func7, Try.ntmps7
  go_wp2_with fail
  refine (write_any _ _ _ _ _ HV.out HL.out).mono ?_
  rintro e w1 ⟨rfl, hb1⟩
  have HV1 := hide (HV.out.below hb1 (Nat.le_refl _))
  have HL1 := hide (HL.out.below hb1 (Nat.le_refl _))
  go_wp2_with fail
  refine (writeCode_any _ _ _ _ _ HV1.out HL1.out).mono ?_
  rintro e w2 ⟨rfl, hb2⟩
  have HV2 := hide (HV1.out.below hb2 (Nat.le_refl _))
  go_wp2_with fail
  refine (read_any _ _ b n _ HV2.out (by omega)).mono ?_
  rintro e w3 ⟨r, rfl, hr, hb3⟩
  have HR := hide hr; clear hr
  have HV3 := hide (HV2.out.below hb3 (Nat.le_refl _))
  go_wp2_with fail
  refine (readCode_any _ _ b n _ HV3.out hs).mono ?_
  rintro e w4 ⟨q, rfl, hq, hb4⟩
  have HQ := hide hq; clear hq
  go_wp2_with fail
  refine (codeBegun_any _).mono ?_
  rintro e w5 ⟨rfl, hb5⟩
  go_wp2_with fail
  refine (sameInts_any _ _ _ _ _ ((HR.out.below hb4 (Nat.le_refl _)).below hb5 (Nat.le_refl _)) (HQ.out.below hb5 (Nat.le_refl _))).mono ?_
  rintro e w6 ⟨rfl, hb6⟩
  have hd : decide (readV xs b n = readV xs b n) = true := by simp
  rw [hd]
  clear hd
  go_wp2
  go_ret
  exact ⟨rfl, bel_trans (bel_trans (bel_trans (bel_trans (bel_trans hb1 hb2) hb3) hb4) hb5) hb6⟩

end Go.Proofs.Ytolcndchfnifhaa
