/- Planes: whether one is right; the code's way. -/
import Derived.Test.YtalpihadfbghdaaInts
import Derived.Test.YtalpihadfbghdaaSmall
import Derived.Test.YtalpihadfbghdaaDiffMath
namespace Go.Proofs.Ytalpihadfbghdaa
open Go.RowKit

def allIn (a b : Int) (xs : List Int) : Bool := xs.all fun n => decide (a ≤ n ∧ n ≤ b)
theorem allIn_snoc (a b : Int) (xs : List Int) (x : Int) : allIn a b (xs ++ [x]) = (allIn a b xs && decide (a ≤ x ∧ x ≤ b)) := by simp [allIn]
theorem allIn_false (a b : Int) (xs : List Int) (k : Nat) (hk : k < xs.length) (h : ¬ (a ≤ xs[k] ∧ xs[k] ≤ b)) : allIn a b xs = false := by
  rw [Bool.eq_false_iff]; intro he
  have := List.all_eq_true.1 he _ (List.getElem_mem hk)
  exact h (by simpa using this)

theorem rWithin_any (a b : Int) (v : Value) (xs : List Int) (w : World) (hv : IsInts w v xs) :
    Calls Try.prog 94 #[.int .i64 a, .int .i64 b, v] w fun e w' => e = .returned (.bool (allIn a b xs)) ∧ w = w' := by
  obtain ⟨ao, ca, rfl, hla, hc⟩ := hv
  by_cases h0 : xs = []
  · subst h0
    clear hc
    go_enter Try.func94, Try.ntmps94
    go_wp2
    go_loop [11] (fun i => i = .int .i64 0) (fun _ => 0)
    case atStart => rfl
    case round =>
      subst hrel
      go_wp2
      go_ret
      exact ⟨rfl, rfl⟩
  · obtain ⟨bk, off, hao, hbl, hcell⟩ : ∃ b off, ao = some ⟨b, off, none⟩ ∧ b < w.heap.size ∧ ∀ j (h : j < xs.length), w.cell? ⟨b, off + j, none⟩ = some (.int .i64 xs[j]) := by
      rcases hc with h | h
      · exact absurd h h0
      · exact h
    subst hao
    have HCELL := hide hcell; clear hcell hc h0
    go_enter Try.func94, Try.ntmps94
    go_wp2
    go_loop [11] (fun i => ∃ k : Nat, k ≤ xs.length ∧ i = .int .i64 k ∧ Hid (allIn a b (xs.take k) = true)) (fun i => xs.length - (intOf i).toNat)
    case atStart => exact ⟨0, Nat.zero_le _, rfl, rfl⟩
    case round =>
      obtain ⟨k, hk, rfl, HA⟩ := hrel
      by_cases hlt : k < xs.length
      · have c1 := HCELL.out k hlt
        by_cases hx0 : a ≤ xs[k]
        · by_cases hx1 : xs[k] ≤ b
          · have HT := hide (show allIn a b (xs.take (k + 1)) = true by rw [List.take_succ_eq_append_getElem hlt, allIn_snoc, HA.out]; simp [hx0, hx1])
            go_wp2
            go_round
            case rel => exact ⟨k + 1, by omega, by go_num, HT⟩
            case measure => simp [intOf]; omega
          · have HE := hide (allIn_false a b xs k hlt (fun h => hx1 h.2))
            go_wp2
            go_ret
            exact ⟨ret_bool HE.out.symm, rfl⟩
        · have HE := hide (allIn_false a b xs k hlt (fun h => hx0 h.1))
          go_wp2
          go_ret
          exact ⟨ret_bool HE.out.symm, rfl⟩
      · have HE := hide (show true = allIn a b xs by rw [← HA.out, List.take_of_length_le (by omega)])
        go_wp2
        go_ret
        exact ⟨ret_bool HE.out, rfl⟩

theorem ints1 (w : World) (n : Int) : IsInts (w.alloc (.cells #[.int .i64 n] 3)) (.slice (some ⟨w.heap.size, 0, none⟩) 1 1) [n] :=
  IsInts.own (base := w.heap.size) (World.ownsRow_lit w #[.int .i64 n] 1 (Nat.le_refl _) (by decide) (by simp)) (by simp)

theorem side_any (n : Int) (w : World) : Calls Try.prog 90 #[.int .i64 n] w fun e w' => e = .returned (.bool (sideOk n)) ∧ Below w.heap.size w w' := by
  have HS := hide (show allIn 1 64 [n] = sideOk n by simp [allIn, sideOk])
  go_enter Try.func90, Try.ntmps90
  go_wp2_with fail
  refine (rWithin_any 1 64 _ [n] _ (ints1 w n)).mono ?_
  rintro e w1 ⟨rfl, rfl⟩
  rw [HS.out]
  go_wp2
  go_ret
  exact ⟨rfl, bel_alloc _ _⟩

def sizeOk (W H m : Int) : Bool := sideOk W && sideOk H && decide (m = W * H)
set_option maxHeartbeats 400000 in
theorem size_any (W H m : Int) (w : World) : Calls Try.prog 117 #[.int .i64 W, .int .i64 H, .int .i64 m] w fun e w' => e = .returned (.bool (sizeOk W H m)) ∧ Below w.heap.size w w' := by
  by_cases h1 : sideOk W = true
  · by_cases h2 : sideOk H = true
    · have HE := hide (show decide (m = W * H) = sizeOk W H m by rw [sizeOk, h1, h2]; rfl)
      have b1 : 1 ≤ W ∧ W ≤ 64 := by simpa [sideOk] using h1
      have b2 : 1 ≤ H ∧ H ≤ 64 := by simpa [sideOk] using h2
      obtain ⟨b3, b4⟩ := side_mul b1 b2
      obtain ⟨M, hM⟩ : ∃ M, W * H = M := ⟨_, rfl⟩
      have HEM := hide (show (m == M) = decide (m = W * H) by rw [hM]; rfl)
      rw [hM] at b3 b4
      go_enter Try.func117, Try.ntmps117
      go_wp2_with fail
      refine (side_any _ _).mono ?_
      rintro e w1 ⟨rfl, hb1⟩
      rw [h1]
      go_wp2_with fail
      refine (side_any _ _).mono ?_
      rintro e w2 ⟨rfl, hb2⟩
      rw [h2]
      go_wp2
      go_ret
      exact ⟨ret_bool (HEM.out.trans HE.out), bel_trans hb1 hb2⟩
    · have h2 : sideOk H = false := by simpa using h2
      have HE := hide (show false = sizeOk W H m by rw [sizeOk, h1, h2]; rfl)
      go_enter Try.func117, Try.ntmps117
      go_wp2_with fail
      refine (side_any _ _).mono ?_
      rintro e w1 ⟨rfl, hb1⟩
      rw [h1]
      go_wp2_with fail
      refine (side_any _ _).mono ?_
      rintro e w2 ⟨rfl, hb2⟩
      rw [h2]
      go_wp2
      go_ret
      exact ⟨ret_bool HE.out, bel_trans hb1 hb2⟩
  · have h1 : sideOk W = false := by simpa using h1
    have HE := hide (show false = sizeOk W H m by rw [sizeOk, h1]; rfl)
    go_enter Try.func117, Try.ntmps117
    go_wp2_with fail
    refine (side_any _ _).mono ?_
    rintro e w1 ⟨rfl, hb1⟩
    rw [h1]
    go_wp2
    go_ret
    exact ⟨ret_bool HE.out, hb1⟩

theorem planeOk_eq (W H : Int) (zs : List Int) : planeOk W H zs = (sizeOk W H zs.length && allIn 0 65535 zs) := by
  rw [planeOk, sizeOk]; rfl

theorem pl3 {w w' : World} {a b c : Value} {t : TypeId} (hb : Below (w.alloc (.cells #[a, b, c] t)).heap.size (w.alloc (.cells #[a, b, c] t)) w') :
    w'.cell? ⟨w.heap.size, 0, none⟩ = some a ∧ w'.cell? ⟨w.heap.size, 1, none⟩ = some b ∧ w'.cell? ⟨w.heap.size, 2, none⟩ = some c := by
  refine ⟨?_, ?_, ?_⟩
  · rw [hb.cell (p := ⟨w.heap.size, 0, none⟩) (by simp), Lib.cell_of_heap (heap_alloc_new w _)]; rfl
  · rw [hb.cell (p := ⟨w.heap.size, 1, none⟩) (by simp), Lib.cell_of_heap (heap_alloc_new w _)]; rfl
  · rw [hb.cell (p := ⟨w.heap.size, 2, none⟩) (by simp), Lib.cell_of_heap (heap_alloc_new w _)]; rfl

theorem plane_any (W H : Int) (v : Value) (zs : List Int) (w : World) (hv : IsInts w v zs) :
    Calls Try.prog 77 #[.agg #[.int .i64 W, .int .i64 H, v]] w fun e w' => e = .returned (.bool (planeOk W H zs)) ∧ Below w.heap.size w w' := by
  have HV := hide hv
  obtain ⟨ao, ca, rfl, hla, _⟩ := hv
  by_cases h1 : sizeOk W H zs.length = true
  · have HE := hide (show allIn 0 65535 zs = planeOk W H zs by rw [planeOk_eq, h1]; rfl)
    go_enter Try.func77, Try.ntmps77
    go_wp2_with fail
    refine (size_any _ _ _ _).mono ?_
    rintro e w1 ⟨rfl, hb1⟩
    rw [h1]
    have c2 := (pl3 hb1).2.2
    go_wp2_with fail
    refine (rWithin_any _ _ _ zs _ ((HV.out.alloc _).below hb1 (Nat.le_refl _))).mono ?_
    rintro e w2 ⟨rfl, rfl⟩
    rw [HE.out]
    go_wp2
    go_ret
    exact ⟨rfl, bel_trans (bel_alloc _ _) hb1⟩
  · have h1 : sizeOk W H zs.length = false := by simpa using h1
    have HE := hide (show false = planeOk W H zs by rw [planeOk_eq, h1]; rfl)
    go_enter Try.func77, Try.ntmps77
    go_wp2_with fail
    refine (size_any _ _ _ _).mono ?_
    rintro e w1 ⟨rfl, hb1⟩
    rw [h1]
    go_wp2
    go_ret
    exact ⟨ret_bool HE.out, bel_trans (bel_alloc _ _) hb1⟩

theorem isKind_any (n : Int) (w : World) : Calls Try.prog 78 #[.int .i64 n] w fun e w' => e = .returned (.bool (kindOk n)) ∧ w = w' := by
  by_cases h1 : 1 ≤ n
  all_goals by_cases h2 : n ≤ 7
  all_goals
    go_enter Try.func78, Try.ntmps78
    go_wp2
    go_ret
    exact ⟨ret_bool (by simp [kindOk, h1, h2]), rfl⟩

end Go.Proofs.Ytalpihadfbghdaa
