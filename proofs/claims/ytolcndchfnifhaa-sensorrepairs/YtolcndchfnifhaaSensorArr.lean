/- Arrays of four and of three numbers; right: Levels, Gains. -/
import Derived.Test.YtolcndchfnifhaaBoxes
import Derived.Test.YtolcndchfnifhaaLevel
namespace Go.Proofs.Ytolcndchfnifhaa
set_option linter.unusedVariables false
open Go.RowKit

abbrev fourA (m : Nat → Int) : Array Value := #[.int .i64 (m 0), .int .i64 (m 1), .int .i64 (m 2), .int .i64 (m 3)]
abbrev threeA (m : Nat → Int) : Array Value := #[.int .i64 (m 0), .int .i64 (m 1), .int .i64 (m 2)]
def arrL (m : Nat → Int) (n : Nat) : List Int := (List.range n).map m
theorem fourA_get (m : Nat → Int) (k : Nat) (h : k < 4) : (fourA m)[k]? = some (.int .i64 (m k)) := by
  rcases (show k = 0 ∨ k = 1 ∨ k = 2 ∨ k = 3 by omega) with rfl | rfl | rfl | rfl <;> rfl
theorem threeA_get (m : Nat → Int) (k : Nat) (h : k < 3) : (threeA m)[k]? = some (.int .i64 (m k)) := by
  rcases (show k = 0 ∨ k = 1 ∨ k = 2 by omega) with rfl | rfl | rfl <;> rfl
theorem arrL_all {m : Nat → Int} {n : Nat} {a b : Int} (h : allIn a b (arrL m n) = true) (k : Nat) (hk : k < n) : a ≤ m k ∧ m k ≤ b := by
  have := List.all_eq_true.1 h (m k) (List.mem_map.2 ⟨k, List.mem_range.2 hk, rfl⟩)
  simpa using this
theorem four_ints {w w' : World} {t : TypeId} (m : Nat → Int) (hb : Below (w.alloc (.cells (fourA m) t)).heap.size (w.alloc (.cells (fourA m) t)) w') : IsInts w' (.slice (some ⟨w.heap.size, 0, none⟩) 4 4) (arrL m 4) := by
  refine ⟨_, _, rfl, by simp [arrL], .inr ⟨w.heap.size, 0, rfl, by have := hb.size; simp at this; omega, fun j hj => ?_⟩⟩
  have hj4 : j < 4 := by simpa [arrL] using hj
  rw [hb.cell (p := ⟨w.heap.size, 0 + j, none⟩) (by simp), Lib.cell_of_heap (heap_alloc_new w _), Nat.zero_add, fourA_get m j hj4]
  simp [arrL]
theorem three_ints {w w' : World} {t : TypeId} (m : Nat → Int) (hb : Below (w.alloc (.cells (threeA m) t)).heap.size (w.alloc (.cells (threeA m) t)) w') : IsInts w' (.slice (some ⟨w.heap.size, 0, none⟩) 3 3) (arrL m 3) := by
  refine ⟨_, _, rfl, by simp [arrL], .inr ⟨w.heap.size, 0, rfl, by have := hb.size; simp at this; omega, fun j hj => ?_⟩⟩
  have hj3 : j < 3 := by simpa [arrL] using hj
  rw [hb.cell (p := ⟨w.heap.size, 0 + j, none⟩) (by simp), Lib.cell_of_heap (heap_alloc_new w _), Nat.zero_add, threeA_get m j hj3]
  simp [arrL]

def gainsOk (m : Nat → Int) : Bool := allIn 0 65535 (arrL m 3)
set_option maxRecDepth 100000 in
theorem gains_any (m : Nat → Int) (w : World) : Calls Try.prog 123 #[.agg (threeA m)] w fun e w' => e = .returned (.bool (gainsOk m)) ∧ Below w.heap.size w w' := by
  go_enter Try.func123, Try.ntmps123
  go_wp2_with fail
  refine (rWithin_any 0 65535 _ (arrL m 3) _ (three_ints m (Below.refl _ _))).mono ?_
  rintro e w1 ⟨rfl, rfl⟩
  rw [show allIn 0 65535 (arrL m 3) = gainsOk m from rfl]
  go_wp2
  go_ret
  exact ⟨rfl, bel_alloc _ _⟩

def levelsOk (m : Nat → Int) (white : Int) : Bool := decide (1 ≤ white ∧ white ≤ 65535) && allIn 0 (white - 1) (arrL m 4)
set_option maxRecDepth 100000 in
set_option maxHeartbeats 800000 in
theorem levels_any (m : Nat → Int) (white : Int) (w : World) : Calls Try.prog 94 #[.agg (fourA m), .int .i64 white] w fun e w' => e = .returned (.bool (levelsOk m white)) ∧ Below w.heap.size w w' := by
  have HB := hide (be2 w (Obj.cells (fourA m) 69) (Obj.cells #[.int .i64 white] 3))
  have H1 := hide (ints1 (w.alloc (Obj.cells (fourA m) 69)) white)
  rw [World.size_alloc] at H1
  have H4 := hide (four_ints (w := w) (t := 69) m (bel_alloc _ (Obj.cells #[.int .i64 white] 3)))
  by_cases hw : 1 ≤ white ∧ white ≤ 65535
  · have hd : allIn 1 65535 [white] = true := by simpa [allIn] using hw
    have HE := hide (show allIn 0 (white - 1) (arrL m 4) = levelsOk m white by rw [levelsOk, decide_eq_true hw, Bool.true_and])
    obtain ⟨hw1, hw2⟩ := hw
    go_enter Try.func94, Try.ntmps94
    go_wp2_with fail
    refine (rWithin_any 1 65535 _ [white] _ H1.out).mono ?_
    rintro e w1 ⟨rfl, rfl⟩
    rw [hd]
    go_wp2_with fail
    refine (rWithin_any 0 (white - 1) _ (arrL m 4) _ H4.out).mono ?_
    rintro e w1 ⟨rfl, rfl⟩
    rw [HE.out]
    go_wp2
    go_ret
    exact ⟨rfl, HB.out⟩
  · have hd : allIn 1 65535 [white] = false := by simpa [allIn] using hw
    have HE := hide (show false = levelsOk m white by rw [levelsOk, decide_eq_false hw, Bool.false_and])
    go_enter Try.func94, Try.ntmps94
    go_wp2_with fail
    refine (rWithin_any 1 65535 _ [white] _ H1.out).mono ?_
    rintro e w1 ⟨rfl, rfl⟩
    rw [hd]
    go_wp2
    go_ret
    exact ⟨ret_bool HE.out, HB.out⟩

theorem clamp_tdiv (n d : Int) (hd : 0 < d) : clampV (n.tdiv d) = clampV (n / d) := by
  rcases down_facts n d hd with ⟨h1, h2⟩ | ⟨_, h2⟩
  · have hn : n < 0 := by
      rcases Int.lt_or_le n 0 with h | h
      · exact h
      · have := Int.tdiv_eq_ediv_of_nonneg (b := d) h; omega
    have h3 : n / d < 0 := Int.ediv_neg_of_neg_of_pos hn hd
    have h4 : n.tdiv d ≤ 0 := by omega
    unfold clampV
    rw [if_pos h3]
    split
    · rfl
    · rw [if_neg (by omega)]; omega
  · rw [h2]

end Go.Proofs.Ytolcndchfnifhaa
