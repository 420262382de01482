/- What must be in any case, of differences: diffBegun is true. -/
import Derived.Test.YtolcndchfnifhaaDiffRead
import Derived.Test.YtolcndchfnifhaaBegun
namespace Go.Proofs.Ytolcndchfnifhaa
open Go.RowKit

theorem ints4 (w : World) (a b c d : Int) : IsInts (w.alloc (.cells #[.int .i64 a, .int .i64 b, .int .i64 c, .int .i64 d] 3)) (.slice (some ⟨w.heap.size, 0, none⟩) 4 4) [a, b, c, d] :=
  IsInts.own (base := w.heap.size) (World.ownsRow_lit w #[.int .i64 a, .int .i64 b, .int .i64 c, .int .i64 d] 4 (Nat.le_refl _) (by decide) (by simp)) (by simp)

theorem small_any (w : World) : Calls Try.prog 80 #[] w fun e w' => ∃ r, e = .returned (.agg #[.int .i64 2, .int .i64 2, r]) ∧ IsInts w' r [10, 65535, 0, 7] ∧ Below w.heap.size w w' := by
  go_enter Try.func80, Try.ntmps80
  go_wp2
  have HI := hide (ints4 (w.alloc (Obj.cells #[.int .i64 2, .int .i64 2, .slice (some ⟨w.heap.size + 1, 0, none⟩) 4 4] 57)) 10 65535 0 7)
  rw [World.size_alloc] at HI
  refine bodyPost_ret (v := .agg #[.int .i64 2, .int .i64 2, .slice (some ⟨w.heap.size + 1, 0, none⟩) 4 4]) (by simp [results, Try.results80, go_sem]) rfl ⟨_, rfl, HI.out, bel_trans (bel_alloc _ _) (bel_alloc _ _)⟩

theorem all_any (w : World) : Calls Try.prog 81 #[] w fun e w' => ∃ r, e = .returned r ∧ IsInts w' r [2, 3, 3, 4, 4, 4, 5, 5, 5, 6, 6, 6, 7, 7, 7, 8, 8] ∧ Below w.heap.size w w' := by
  go_enter Try.func81, Try.ntmps81
  go_wp2
  go_ret
  exact ⟨_, rfl, IsInts.own (base := w.heap.size) (World.ownsRow_lit w #[.int .i64 2, .int .i64 3, .int .i64 3, .int .i64 4, .int .i64 4, .int .i64 4, .int .i64 5, .int .i64 5, .int .i64 5, .int .i64 6, .int .i64 6, .int .i64 6, .int .i64 7, .int .i64 7, .int .i64 7, .int .i64 8, .int .i64 8] 17 (Nat.le_refl _) (by decide) (by decide)) (by decide), bel_alloc _ _⟩

theorem samePlanes_any (W1 H1 W2 H2 : Int) (va vb : Value) (xs ys : List Int) (w : World) (ha : IsInts w va xs) (hb : IsInts w vb ys) :
    Calls Try.prog 51 #[.agg #[.int .i64 W1, .int .i64 H1, va], .agg #[.int .i64 W2, .int .i64 H2, vb]] w fun e w' => e = .returned (.bool (decide (W1 = W2 ∧ H1 = H2 ∧ xs = ys))) ∧ Below w.heap.size w w' := by
  have HA := hide ha
  have HB := hide hb
  obtain ⟨ao, ca, rfl, _, _⟩ := ha
  obtain ⟨bo, cb, rfl, _, _⟩ := hb
  obtain ⟨R, hR⟩ : ∃ R, decide (W1 = W2 ∧ H1 = H2 ∧ xs = ys) = R := ⟨_, rfl⟩
  rw [hR]
  by_cases h1 : W1 = W2
  · by_cases h2 : H1 = H2
    · subst h1 h2
      have HE := hide (show decide (xs = ys) = R by rw [← hR]; simp)
      clear hR
      go_enter Try.func51, Try.ntmps51
      go_wp2_with fail
      refine (sameInts_any _ _ xs ys _ ((HA.out.alloc _).alloc _) ((HB.out.alloc _).alloc _)).mono ?_
      rintro e w1 ⟨rfl, hb1⟩
      go_wp2
      go_ret
      exact ⟨ret_bool HE.out, bel_trans (bel_trans (bel_alloc _ _) (bel_alloc _ _)) hb1⟩
    · have hd : (H1 == H2) = false := by simpa using h2
      have HE := hide (show false = R by rw [← hR]; simp [h2])
      subst h1
      clear hR
      go_enter Try.func51, Try.ntmps51
      go_wp2
      go_ret
      exact ⟨ret_bool HE.out, bel_trans (bel_alloc _ _) (bel_alloc _ _)⟩
  · have hd : (W1 == W2) = false := by simpa using h1
    have HE := hide (show false = R by rw [← hR]; simp [h1])
    clear hR
    go_enter Try.func51, Try.ntmps51
    go_wp2
    go_ret
    exact ⟨ret_bool HE.out, bel_trans (bel_alloc _ _) (bel_alloc _ _)⟩

theorem db_ok : writeDE 2 2 [10, 65535, 0, 7] 1 [2, 3, 3, 4, 4, 4, 5, 5, 5, 6, 6, 6, 7, 7, 7, 8, 8] = 0 := by decide +kernel
theorem db_gv : guessV 2 2 [10, 65535, 0, 7] 5 1 1 = 32762 := by decide +kernel
theorem db_ge : guessE 2 2 [10, 65535, 0, 7] 5 1 1 = 0 := by decide +kernel

set_option maxRecDepth 100000 in
set_option maxHeartbeats 800000 in
theorem diffBegun_any (w : World) : Calls Try.prog 45 #[] w fun e w' => e = .returned (.bool true) ∧ Below w.heap.size w w' := by
  go_enter Try.func45, Try.ntmps45
  go_wp2_with fail
  refine (small_any _).mono ?_
  rintro e w1 ⟨r1, rfl, hr1, hb1⟩
  have HR1 := hide hr1; clear hr1
  go_wp2_with fail
  refine (guessP_any _ _ _ _ _ _ _ _ HR1.out).mono ?_
  rintro e w2 ⟨rfl, hb2⟩
  rw [db_gv, db_ge]
  go_wp2_with fail
  refine (small_any _).mono ?_
  rintro e w3 ⟨r3, rfl, hr3, hb3⟩
  have HR3 := hide hr3; clear hr3
  go_wp2_with fail
  refine (all_any _).mono ?_
  rintro e w4 ⟨r4, rfl, hr4, hb4⟩
  have HR4 := hide hr4; clear hr4
  go_wp2_with fail
  refine (writeD_any _ _ _ _ _ _ _ _ (HR3.out.below hb4 (Nat.le_refl _)) HR4.out).mono ?_
  rintro e w5 ⟨rfl, hb5⟩
  obtain ⟨k1, k2, k3, k4⟩ := read_of_write db_ok
  rw [db_ok]
  generalize writeDS 2 2 [10, 65535, 0, 7] 1 [2, 3, 3, 4, 4, 4, 5, 5, 5, 6, 6, 6, 7, 7, 7, 8, 8] = S at *
  go_wp2_with fail
  refine (all_any _).mono ?_
  rintro e w6 ⟨r6, rfl, hr6, hb6⟩
  have HR6 := hide hr6; clear hr6
  go_wp2_with fail
  refine (readD_any _ _ _ _ _ _ _ HR6.out).mono ?_
  rintro e w7 ⟨r7, rfl, hr7, hb7⟩
  rw [str_data] at hr7 ⊢
  rw [k2] at hr7
  rw [k1, k3, k4]
  have HB7 := hide (bel_trans (bel_trans (bel_trans (bel_trans (bel_trans (bel_trans hb1 hb2) hb3) hb4) hb5) hb6) hb7)
  have HR7 := hide hr7
  obtain ⟨ro, rc, rfl, _, _⟩ := hr7
  clear hb1 hb2 hb3 hb4 hb5 hb6 hb7 k1 k2 k3 k4 HR1 HR3 HR4 HR6
  go_wp2_with fail
  obtain ⟨e0, e1, e2⟩ := pl3 (Below.refl (w7.alloc (Obj.cells #[.int .i64 2, .int .i64 2, .slice ro 4 rc] 57)).heap.size _)
  have hlt : w7.heap.size < (w7.alloc (Obj.cells #[.int .i64 2, .int .i64 2, .slice ro 4 rc] 57)).heap.size := by simp
  have HB8 := hide (bel_trans HB7.out (bel_alloc w7 (Obj.cells #[.int .i64 2, .int .i64 2, .slice ro 4 rc] 57)))
  have HI8 : Hid (IsInts (w7.alloc (Obj.cells #[.int .i64 2, .int .i64 2, .slice ro 4 rc] 57)) (.slice ro 4 rc) [10, 65535, 0, 7]) := HR7.out.alloc _
  generalize w7.alloc (Obj.cells #[.int .i64 2, .int .i64 2, .slice ro 4 rc] 57) = W8 at *
  have HS := hide (show ∀ w', Below W8.heap.size W8 w' → w'.cell? ⟨w7.heap.size, 0, none⟩ = some (.int .i64 2) ∧ w'.cell? ⟨w7.heap.size, 1, none⟩ = some (.int .i64 2) ∧ w'.cell? ⟨w7.heap.size, 2, none⟩ = some (.slice ro 4 rc) ∧ Below W8.heap.size W8 w' from fun w' h =>
    ⟨(h.cell (p := ⟨w7.heap.size, 0, none⟩) hlt).trans e0, (h.cell (p := ⟨w7.heap.size, 1, none⟩) hlt).trans e1, (h.cell (p := ⟨w7.heap.size, 2, none⟩) hlt).trans e2, h⟩)
  have HSM := hide (show ∀ w', Below W8.heap.size W8 w' → Calls Try.prog 80 #[] w' fun e w'' => ∃ r, e = .returned (.agg #[.int .i64 2, .int .i64 2, r]) ∧ IsInts w'' r [10, 65535, 0, 7] ∧ Below W8.heap.size W8 w'' from fun w' h =>
    (small_any w').mono fun e w'' ⟨r, h1, h2, h3⟩ => ⟨r, h1, h2, h.trans (h3.mono h.size)⟩)
  have HSP := hide (show ∀ w' r, Below W8.heap.size W8 w' → IsInts w' r [10, 65535, 0, 7] → Calls Try.prog 51 #[.agg #[.int .i64 2, .int .i64 2, .slice ro 4 rc], .agg #[.int .i64 2, .int .i64 2, r]] w' fun e w'' => e = .returned (.bool true) ∧ Below W8.heap.size W8 w'' from fun w' r h hr =>
    (samePlanes_any 2 2 2 2 _ _ _ _ w' (HI8.out.below h (Nat.le_refl _)) hr).mono fun e w'' ⟨h1, h3⟩ => ⟨by rw [h1]; rfl, h.trans (h3.mono h.size)⟩)
  have hrefl := Below.refl W8.heap.size W8
  have hdrew : Below W8.heap.size W8 W8.drew := (Below.refl _ _).drew
  clear HR7
  go_region_held3 (fun w' => w'.cell? ⟨w7.heap.size, 0, none⟩ = some (.int .i64 2) ∧ w'.cell? ⟨w7.heap.size, 1, none⟩ = some (.int .i64 2) ∧ w'.cell? ⟨w7.heap.size, 2, none⟩ = some (.slice ro 4 rc) ∧ Below W8.heap.size W8 w')
    (first | (refine HS.out _ ?_; assumption) | go_keep)
    (first
      | (go_at_call 80; refine (HSM.out _ ?_).mono ?_; assumption; rintro e wx ⟨rx, rfl, hrx, hN⟩)
      | (go_at_call 51; refine (HSP.out _ _ ?_ ?_).mono ?_; assumption; assumption; rintro e wy ⟨rfl, hN2⟩))
  have HBY := hide (HB8.out.trans (hN2.mono HB8.out.size))
  go_wp2
  go_ret
  exact ⟨rfl, HBY.out⟩

end Go.Proofs.Ytolcndchfnifhaa
