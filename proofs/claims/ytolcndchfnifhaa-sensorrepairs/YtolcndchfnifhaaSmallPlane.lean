/- The law's small plane; the reference's SamePlanes. -/
import Derived.Test.YtolcndchfnifhaaBase

namespace Go.Proofs.Ytolcndchfnifhaa
open Go.RowKit

theorem ints4 (w : World) (a b c d : Int) : IsInts (w.alloc (.cells #[.int .i64 a, .int .i64 b, .int .i64 c, .int .i64 d] 3)) (.slice (some ⟨w.heap.size, 0, none⟩) 4 4) [a, b, c, d] :=
  IsInts.own (base := w.heap.size) (World.ownsRow_lit w #[.int .i64 a, .int .i64 b, .int .i64 c, .int .i64 d] 4 (Nat.le_refl _) (by decide) (by simp)) (by simp)

theorem small_any (w : World) : Calls Try.prog 80 #[] w fun e w' => ∃ r, e = .returned (.agg #[.int .i64 2, .int .i64 2, r]) ∧ IsInts w' r [10, 65535, 0, 7] ∧ Below w.heap.size w w' := by
  go_enter Try.func80, Try.ntmps80
  go_wp2
  have HI := hide (ints4 (w.alloc (Obj.cells #[.int .i64 2, .int .i64 2, .slice (some ⟨w.heap.size + 1, 0, none⟩) 4 4] 57)) 10 65535 0 7)
  rw [World.size_alloc] at HI
  refine bodyPost_ret (v := .agg #[.int .i64 2, .int .i64 2, .slice (some ⟨w.heap.size + 1, 0, none⟩) 4 4]) (by simp [results, Try.results80, go_sem]) rfl ⟨_, rfl, HI.out, bel_trans (bel_alloc _ _) (bel_alloc _ _)⟩

theorem samePlanes_any (W1 H1 W2 H2 : Int) (va vb : Value) (xs ys : List Int) (w : World) (ha : IsInts w va xs) (hb : IsInts w vb ys) :
    Calls Try.prog 51 #[.agg #[.int .i64 W1, .int .i64 H1, va], .agg #[.int .i64 W2, .int .i64 H2, vb]] w fun e w' => e = .returned (.bool (decide (W1 = W2 ∧ H1 = H2 ∧ xs = ys))) ∧ Below w.heap.size w w' := by
  have HA := hide ha
  have HB := hide hb
  obtain ⟨ao, ca, rfl, _, _⟩ := ha
  obtain ⟨bo, cb, rfl, _, _⟩ := hb
  obtain ⟨R, hR⟩ : ∃ R, decide (W1 = W2 ∧ H1 = H2 ∧ xs = ys) = R := ⟨_, rfl⟩
  rw [hR]
  by_cases h1 : W1 = W2
  · by_cases h2 : H1 = H2
    · subst h1 h2
      have HE := hide (show decide (xs = ys) = R by rw [← hR]; simp)
      clear hR
      go_enter Try.func51, Try.ntmps51
      go_wp2_with fail
      refine (sameInts_any _ _ xs ys _ ((HA.out.alloc _).alloc _) ((HB.out.alloc _).alloc _)).mono ?_
      rintro e w1 ⟨rfl, hb1⟩
      go_wp2
      go_ret
      exact ⟨ret_bool HE.out, bel_trans (bel_trans (bel_alloc _ _) (bel_alloc _ _)) hb1⟩
    · have hd : (H1 == H2) = false := by simpa using h2
      have HE := hide (show false = R by rw [← hR]; simp [h2])
      subst h1
      clear hR
      go_enter Try.func51, Try.ntmps51
      go_wp2
      go_ret
      exact ⟨ret_bool HE.out, bel_trans (bel_alloc _ _) (bel_alloc _ _)⟩
  · have hd : (W1 == W2) = false := by simpa using h1
    have HE := hide (show false = R by rw [← hR]; simp [h1])
    clear hR
    go_enter Try.func51, Try.ntmps51
    go_wp2
    go_ret
    exact ⟨ret_bool HE.out, bel_trans (bel_alloc _ _) (bel_alloc _ _)⟩


end Go.Proofs.Ytolcndchfnifhaa
