/- The reference's LevelError. -/
import Derived.Test.YtolcndchfnifhaaLevel
namespace Go.Proofs.Ytolcndchfnifhaa
open Go.RowKit

/-- what Level's error is. -/
def levelOk (bs : List Int) (white : Int) : Bool := decide (1 ≤ white ∧ white ≤ 65535) && allIn 0 (white - 1) bs
def levelE (W H : Int) (zs bs : List Int) (white : Int) : Int := if planeOk W H zs = true then (if levelOk bs white = true then 0 else 3) else 1

theorem four_cells {w w' : World} {a b c d : Int} {t : TypeId} (hb : Below (w.alloc (.cells #[.int .i64 a, .int .i64 b, .int .i64 c, .int .i64 d] t)).heap.size (w.alloc (.cells #[.int .i64 a, .int .i64 b, .int .i64 c, .int .i64 d] t)) w') (k : Nat) (hk : k < [a, b, c, d].length) :
    w'.cell? ⟨w.heap.size, k, none⟩ = some (.int .i64 [a, b, c, d][k]) := by
  rw [hb.cell (p := ⟨w.heap.size, k, none⟩) (by simp), Lib.cell_of_heap (heap_alloc_new w _)]
  simp only [List.length_cons, List.length_nil] at hk
  rcases (show k = 0 ∨ k = 1 ∨ k = 2 ∨ k = 3 by omega) with rfl | rfl | rfl | rfl <;> rfl

set_option maxRecDepth 100000 in
set_option maxHeartbeats 800000 in
theorem levelError_any (W H : Int) (v : Value) (zs : List Int) (a b c d white : Int) (w : World) (hv : IsInts w v zs) :
    Calls Try.prog 53 #[.agg #[.int .i64 W, .int .i64 H, v], .agg #[.int .i64 a, .int .i64 b, .int .i64 c, .int .i64 d], .int .i64 white] w fun e w' => e = .returned (.int .i64 (levelE W H zs [a, b, c, d] white)) ∧ Below w.heap.size w w' := by
  have HV := hide hv
  obtain ⟨ao, ca, rfl, hla, _⟩ := hv
  obtain ⟨E, hE⟩ : ∃ E, levelE W H zs [a, b, c, d] white = E := ⟨_, rfl⟩
  rw [hE]
  by_cases hp : planeOk W H zs = true
  · by_cases hw : 1 ≤ white ∧ white ≤ 65535
    · have hsw : decide (1 ≤ white ∧ white ≤ 65535) = true := by simpa using hw
      obtain ⟨hw1, hw2⟩ := hw
      have HLE := hide (show E = if allIn 0 (white - 1) [a, b, c, d] = true then 0 else 3 by rw [← hE, levelE, if_pos hp, levelOk, hsw, Bool.true_and])
      clear hE
      go_enter Try.func53, Try.ntmps53
      go_wp2_with fail
      refine (planeFine_any _ _ _ zs _ ((HV.out.alloc _).alloc _)).mono ?_
      rintro e w1 ⟨rfl, hb1⟩
      rw [hp]
      have HC := hide (four_cells hb1)
      have HB := hide (bel_trans (bel_trans (bel_alloc _ _) (bel_alloc _ _)) hb1)
      rw [World.size_alloc] at HC
      clear hb1
      generalize hbs : [a, b, c, d] = bs at *
      have hl4 : bs.length = 4 := by rw [← hbs]; rfl
      clear hbs
      go_wp2_with (go_at_call 61; refine (within_any _ _ _ _).mono ?_; rintro e wx ⟨rfl, rfl⟩; rw [hsw])
      go_loop [7] (fun i => ∃ k : Nat, k ≤ 4 ∧ i = .int .i64 k ∧ Hid (allIn 0 (white - 1) (bs.take k) = true)) (fun i => 4 - (intOf i).toNat)
      case atStart => exact ⟨0, by omega, rfl, rfl⟩
      case round =>
        obtain ⟨k, hk, rfl, HA⟩ := hrel
        by_cases hlt : k < 4
        · have c1 := HC.out k (by omega)
          have hlt' : k < bs.length := by omega
          by_cases hx : 0 ≤ bs[k] ∧ bs[k] ≤ white - 1
          · have hsx : decide (0 ≤ bs[k] ∧ bs[k] ≤ white - 1) = true := by simpa using hx
            have HT := hide (show allIn 0 (white - 1) (bs.take (k + 1)) = true by rw [List.take_succ_eq_append_getElem hlt', allIn_snoc, HA.out]; exact hsx)
            go_wp2_with (go_at_call 61; refine (within_any _ _ _ _).mono ?_; rintro e wx ⟨rfl, rfl⟩; rw [hsx])
            go_round
            case rel => exact ⟨k + 1, by omega, by go_num, HT⟩
            case measure => simp [intOf]; omega
          · have hsx : decide (0 ≤ bs[k] ∧ bs[k] ≤ white - 1) = false := by simpa using hx
            have HE := hide (show (3 : Int) = E by rw [HLE.out, allIn_false 0 (white - 1) bs k hlt' hx]; rfl)
            go_wp2_with (go_at_call 61; refine (within_any _ _ _ _).mono ?_; rintro e wx ⟨rfl, rfl⟩; rw [hsx])
            go_ret
            exact ⟨ret_int HE.out, HB.out⟩
        · have HE := hide (show (0 : Int) = E by rw [HLE.out, ← List.take_of_length_le (show bs.length ≤ k by omega), HA.out]; rfl)
          go_wp2
          go_ret
          exact ⟨ret_int HE.out, HB.out⟩
    · have hsw : decide (1 ≤ white ∧ white ≤ 65535) = false := by simpa using hw
      have HLE := hide (show E = 3 by rw [← hE, levelE, if_pos hp, levelOk, hsw]; rfl)
      clear hE
      go_enter Try.func53, Try.ntmps53
      go_wp2_with fail
      refine (planeFine_any _ _ _ zs _ ((HV.out.alloc _).alloc _)).mono ?_
      rintro e w1 ⟨rfl, hb1⟩
      rw [hp]
      go_wp2_with (go_at_call 61; refine (within_any _ _ _ _).mono ?_; rintro e wx ⟨rfl, rfl⟩; rw [hsw])
      go_ret
      rw [HLE.out]
      exact ⟨rfl, bel_trans (bel_trans (bel_alloc _ _) (bel_alloc _ _)) hb1⟩
  · have HLE := hide (show E = 1 by rw [← hE, levelE, if_neg hp])
    have hp : planeOk W H zs = false := by simpa using hp
    clear hE
    go_enter Try.func53, Try.ntmps53
    go_wp2_with fail
    refine (planeFine_any _ _ _ zs _ ((HV.out.alloc _).alloc _)).mono ?_
    rintro e w1 ⟨rfl, hb1⟩
    rw [hp]
    go_wp2
    go_ret
    rw [HLE.out]
    exact ⟨rfl, bel_trans (bel_trans (bel_alloc _ _) (bel_alloc _ _)) hb1⟩

end Go.Proofs.Ytolcndchfnifhaa
