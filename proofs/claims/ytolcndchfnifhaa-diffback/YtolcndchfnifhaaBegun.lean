/- What must be in any case, of bits: bitsBegun is true. -/
import Derived.Test.YtolcndchfnifhaaUnpacked
namespace Go.Proofs.Ytolcndchfnifhaa
open Go.RowKit

theorem ints123 (w : World) : IsInts (w.alloc (.cells #[.int .i64 1, .int .i64 2, .int .i64 3] 3)) (.slice (some ⟨w.heap.size, 0, none⟩) 3 3) [1, 2, 3] :=
  IsInts.own (base := w.heap.size) (World.ownsRow_lit w #[.int .i64 1, .int .i64 2, .int .i64 3] 3 (Nat.le_refl _) (by decide) (by decide)) (by decide)

theorem bg_pack (w : World) : Calls Try.prog 26 #[.slice (some ⟨w.heap.size, 0, none⟩) 3 3, .int .i64 3] (w.alloc (.cells #[.int .i64 1, .int .i64 2, .int .i64 3] 3)) fun e w' =>
    e = .returned (.tuple #[.string ⟨#[41, 128]⟩, .int .i64 0]) ∧ Below w.heap.size w w' := by
  refine (pack_any _ _ 3 _ (ints123 w)).mono ?_
  rintro e w' ⟨rfl, hb⟩
  refine ⟨?_, ((Below.refl _ w).alloc (Nat.le_refl _) _).trans (hb.mono (by simp))⟩
  rw [show packS [1, 2, 3] 3 = [41, 128] by decide +kernel, show packE [1, 2, 3] 3 = 0 by decide +kernel]
  rfl
theorem bg_unpack (w : World) : Calls Try.prog 29 #[.string ⟨#[41, 128]⟩, .int .i64 3, .int .i64 3] w fun e w' =>
    ∃ v, e = .returned (.tuple #[v, .int .i64 0]) ∧ IsInts w' v [1, 2, 3] ∧ Below w.heap.size w w' := by
  refine (unpack_any ⟨#[41, 128]⟩ 3 3 (by decide) w).mono ?_
  rintro e w' ⟨v, rfl, hi, hb⟩
  refine ⟨v, ?_, ?_, hb⟩
  · rw [show unpE (⟨#[41, 128]⟩ : ByteArray).data.toList 3 3 = 0 by decide +kernel]
  · rw [show unpV (⟨#[41, 128]⟩ : ByteArray).data.toList 3 3 = [1, 2, 3] by decide +kernel] at hi; exact hi
theorem bg_bytes (w : World) : Calls Try.prog 15 #[.string ⟨#[48, 49, 49, 48, 48, 48, 48, 49, 48, 49]⟩] w fun e w' => e = .returned (.tuple #[.string ⟨#[97, 64]⟩, .int .i64 0]) ∧ Below w.heap.size w w' := by
  refine (bytes_ok ⟨#[48, 49, 49, 48, 48, 48, 48, 49, 48, 49]⟩ (by decide) (by decide) w).mono ?_
  rintro e w' ⟨rfl, hb⟩
  refine ⟨?_, hb⟩
  rw [show bytesOf (⟨#[48, 49, 49, 48, 48, 48, 48, 49, 48, 49]⟩ : ByteArray).data.toList = [97, 64] by decide +kernel]
  rfl
theorem bg_value (w : World) : Calls Try.prog 19 #[.string ⟨#[49, 48, 49]⟩] w fun e w' => e = .returned (.tuple #[.int .i64 5, .int .i64 0]) ∧ w = w' := by
  refine (value_any ⟨#[49, 48, 49]⟩ w (by decide)).mono ?_
  rintro e w' ⟨rfl, hb⟩
  refine ⟨?_, hb⟩
  rw [show valueN ⟨#[49, 48, 49]⟩ = 5 by decide +kernel, show valueE ⟨#[49, 48, 49]⟩ = 0 by decide +kernel]
theorem bg_number (w : World) : Calls Try.prog 20 #[.int .i64 5, .int .i64 4] w fun e w' => e = .returned (.tuple #[.string ⟨#[48, 49, 48, 49]⟩, .int .i64 0]) ∧ Below w.heap.size w w' := by
  refine (number_ok 5 4 (by decide) (by decide) w).mono ?_
  rintro e w' ⟨rfl, hb⟩
  exact ⟨rfl, hb⟩
theorem bg_bits (w : World) : Calls Try.prog 24 #[.string ⟨#[97]⟩] w fun e w' => e = .returned (.string ⟨#[48, 49, 49, 48, 48, 48, 48, 49]⟩) ∧ Below w.heap.size w w' := by
  refine (bits_any ⟨#[97]⟩ (by decide) w).mono ?_
  rintro e w' ⟨rfl, hb⟩
  refine ⟨?_, hb⟩
  rw [show rowOf (⟨#[97]⟩ : ByteArray).data.toList = [48, 49, 49, 48, 48, 48, 48, 49] by decide +kernel]
  rfl

set_option maxRecDepth 100000 in
set_option maxHeartbeats 400000 in
theorem bitsBegun_any (w : World) : Calls Try.prog 23 #[] w fun e w' => e = .returned (.bool true) ∧ Below w.heap.size w w' := by
  go_enter Try.func23, Try.ntmps23
  go_wp2_with fail
  refine (bg_pack w).mono ?_
  rintro e w1 ⟨rfl, hb1⟩
  go_wp2_with fail
  refine (bg_unpack w1).mono ?_
  rintro e w2 ⟨v, rfl, hi, hb2⟩
  have HI := hide hi; clear hi
  go_wp2_with fail
  refine (bg_bytes w2).mono ?_
  rintro e w3 ⟨rfl, hb3⟩
  go_wp2_with fail
  refine (bg_value w3).mono ?_
  rintro e w4 ⟨rfl, rfl⟩
  go_wp2_with fail
  refine (bg_number w3).mono ?_
  rintro e w5 ⟨rfl, hb5⟩
  go_wp2_with fail
  refine (sameInts_any _ _ _ [1, 2, 3] _ (((HI.out.below hb3 (Nat.le_refl _)).below hb5 (Nat.le_refl _)).alloc _) (ints123 w5)).mono ?_
  rintro e w6 ⟨rfl, hb6⟩
  have hd : decide (([1, 2, 3] : List Int) = [1, 2, 3]) = true := by decide
  rw [hd]
  clear hd
  go_wp2_with fail
  refine (bg_bits w6).mono ?_
  rintro e w7 ⟨rfl, hb7⟩
  go_wp2
  go_ret
  exact ⟨rfl, bel_trans (bel_trans (bel_trans (bel_trans (bel_trans hb1 hb2) hb3) hb5) (bel_trans (bel_alloc _ _) hb6)) hb7⟩

end Go.Proofs.Ytolcndchfnifhaa
