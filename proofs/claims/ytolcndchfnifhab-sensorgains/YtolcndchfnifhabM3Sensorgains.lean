/- sensorgains: part 3 of what its proof needs. -/
import Derived.Test.YtolcndchfnifhabM2Sensorgains
import Derived.Deep.RegionHeld3
import Derived.OrdersHeld
import Derived.RangeFuncNested
import Derived.RangeFuncCalls
import Derived.OrdersIn
import Derived.Test.YtolcndchfnifhabProg
import Derived.RangeFuncBound
import Derived.RangeFuncLeaves
import Derived.Shelf.Abstract
import Derived.Shelf.RegionOpen
import Derived.WalkKit
import Derived.OwnWalkIn
import Derived.TacticsInMore
import Derived.LoopNIn
import Derived.LoopIn
import Derived.RangeFuncBox
import Derived.Maps.AppendAt
import Derived.Deep.AppendLies
import Derived.OneCell
/- right: Held, Phase; grid: Index, Has; sensor: Colour; the reference's clamp, down and LevelError. -/
namespace Go.Proofs.Ytolcndchfnifhab
open Go.RowKit

/-- the nearest number that a sample may be. -/
def clampV (n : Int) : Int := if n < 0 then 0 else if 65535 < n then 65535 else n
theorem clampV_range (n : Int) : 0 ≤ clampV n ∧ clampV n ≤ 65535 := by unfold clampV; split <;> (try split) <;> omega

theorem held_any (n : Int) (w : World) : Calls Try.prog 57 #[.int .i64 n] w fun e w' => e = .returned (.int .i64 (clampV n)) ∧ w = w' := by
  have hor : n < 0 ∨ (0 ≤ n ∧ 65535 < n) ∨ (0 ≤ n ∧ n ≤ 65535) := by omega
  rcases hor with h | ⟨h, h2⟩ | ⟨h, h2⟩
  · have HE := hide (show 0 = clampV n by rw [clampV, if_pos h])
    have hd : decide (n < 0) = true := by simpa using h
    go_enter Try.func57, Try.ntmps57
    go_wp2
    all_goals (go_ret; exact ⟨ret_int (by have := HE.out; omega), rfl⟩)
  · have HE := hide (show 65535 = clampV n by rw [clampV, if_neg (by omega), if_pos h2])
    go_enter Try.func57, Try.ntmps57
    go_wp2
    all_goals (go_ret; exact ⟨ret_int (by have := HE.out; omega), rfl⟩)
  · have HE := hide (show n = clampV n by rw [clampV, if_neg (by omega), if_neg (by omega)])
    go_enter Try.func57, Try.ntmps57
    go_wp2
    all_goals (go_ret; exact ⟨ret_int (by have := HE.out; omega), rfl⟩)

theorem clamp_any (n : Int) (w : World) : Calls Try.prog 60 #[.int .i64 n] w fun e w' => e = .returned (.int .i64 (clampV n)) ∧ w = w' := by
  have hor : n < 0 ∨ (0 ≤ n ∧ 65535 < n) ∨ (0 ≤ n ∧ n ≤ 65535) := by omega
  rcases hor with h | ⟨h, h2⟩ | ⟨h, h2⟩
  · have HE := hide (show 0 = clampV n by rw [clampV, if_pos h])
    go_enter Try.func60, Try.ntmps60
    go_wp2
    all_goals (go_ret; exact ⟨ret_int (by have := HE.out; omega), rfl⟩)
  · have HE := hide (show 65535 = clampV n by rw [clampV, if_neg (by omega), if_pos h2])
    go_enter Try.func60, Try.ntmps60
    go_wp2
    all_goals (go_ret; exact ⟨ret_int (by have := HE.out; omega), rfl⟩)
  · have HE := hide (show n = clampV n by rw [clampV, if_neg (by omega), if_neg (by omega)])
    go_enter Try.func60, Try.ntmps60
    go_wp2
    all_goals (go_ret; exact ⟨ret_int (by have := HE.out; omega), rfl⟩)

def phaseOk (n : Int) : Bool := decide (0 ≤ n ∧ n ≤ 3)
theorem phase_any (n : Int) (w : World) : Calls Try.prog 53 #[.int .i64 n] w fun e w' => e = .returned (.bool (phaseOk n)) ∧ Below w.heap.size w w' := by
  have HS := hide (show allIn 0 3 [n] = phaseOk n by simp [allIn, phaseOk])
  go_enter Try.func53, Try.ntmps53
  go_wp2_with fail
  refine (rWithin_any 0 3 _ [n] _ (ints1 w n)).mono ?_
  rintro e w1 ⟨rfl, rfl⟩
  rw [HS.out]
  go_wp2
  go_ret
  exact ⟨rfl, bel_alloc _ _⟩

theorem index_any (W H : Int) (X Y WN k : Nat) (hW : W = WN) (hk : Y * WN + X = k) (hb : k ≤ 4096) (w : World) :
    Calls Try.prog 58 #[.agg #[.int .i64 W, .int .i64 H], .agg #[.int .i64 X, .int .i64 Y]] w fun e w' => e = .returned (.int .i64 k) ∧ Below w.heap.size w w' := by
  subst hW
  obtain ⟨M, hM⟩ : ∃ M : Nat, M = Y * WN := ⟨_, rfl⟩
  have hmm : (Y : Int) * (WN : Int) = (M : Int) := by rw [hM]; simp
  rw [← hM] at hk
  have hat : (M : Int) + (X : Int) = (k : Int) := by omega
  clear hM
  go_enter Try.func58, Try.ntmps58
  go_wp2
  go_ret
  exact ⟨rfl, bel_trans (bel_alloc _ _) (bel_alloc _ _)⟩

def hasB (W H x y : Int) : Bool := decide (0 ≤ x ∧ x < W ∧ 0 ≤ y ∧ y < H)
theorem has_any (W H x y : Int) (w : World) :
    Calls Try.prog 105 #[.agg #[.int .i64 W, .int .i64 H], .agg #[.int .i64 x, .int .i64 y]] w fun e w' => e = .returned (.bool (hasB W H x y)) ∧ Below w.heap.size w w' := by
  have hor : (0 ≤ x ∧ x < W ∧ 0 ≤ y ∧ y < H) ∨ (0 ≤ x ∧ x < W ∧ 0 ≤ y ∧ ¬ y < H) ∨ (0 ≤ x ∧ x < W ∧ ¬ 0 ≤ y) ∨ (0 ≤ x ∧ ¬ x < W) ∨ ¬ 0 ≤ x := by omega
  obtain ⟨R, hR⟩ : ∃ R, hasB W H x y = R := ⟨_, rfl⟩
  rw [hR]
  rcases hor with ⟨a, b, c, d⟩ | ⟨a, b, c, d⟩ | ⟨a, b, c⟩ | ⟨a, b⟩ | a
  · have HE := hide (show true = R by rw [← hR, hasB]; symm; simp; omega)
    clear hR
    go_enter Try.func105, Try.ntmps105
    go_wp2
    go_ret
    exact ⟨ret_bool HE.out, bel_trans (bel_alloc _ _) (bel_alloc _ _)⟩
  all_goals
    have HE := hide (show false = R by rw [← hR, hasB]; symm; simp; omega)
    clear hR
    go_enter Try.func105, Try.ntmps105
    go_wp2
    go_ret
    exact ⟨ret_bool HE.out, bel_trans (bel_alloc _ _) (bel_alloc _ _)⟩

theorem down_facts (n b : Int) (hb : 0 < b) : (n < n.tdiv b * b ∧ n.tdiv b - 1 = n / b) ∨ (¬ n < n.tdiv b * b ∧ n.tdiv b = n / b) := by
  have h1 := Int.emod_add_mul_ediv n b
  have h2 := Int.emod_nonneg n (show b ≠ 0 by omega)
  have h3 := Int.emod_lt_of_pos n hb
  rw [Int.mul_comm] at h1
  have h4 := Int.tdiv_eq_ediv (a := n) (b := b)
  split at h4
  · rename_i hor
    right
    rw [h4, Int.add_zero]
    exact ⟨by omega, rfl⟩
  · rename_i hno
    left
    rw [Int.sign_eq_one_of_pos hb] at h4
    rw [h4, Int.add_mul, Int.one_mul]
    exact ⟨by omega, by omega⟩

set_option maxRecDepth 100000 in
theorem downB_any (n b : Int) (hb : 1 ≤ b) (hb2 : b ≤ 65536) (h0 : -5000000000 ≤ n) (h1 : n ≤ 5000000000) (w : World) :
    Calls Try.prog 78 #[.int .i64 n, .int .i64 b] w fun e w' => e = .returned (.int .i64 (n / b)) ∧ w = w' := by
  have hf := down_facts n b (by omega)
  have hr1 : -5000000001 ≤ n / b := Int.le_ediv_of_mul_le (by omega) (by omega)
  have hr2 : n / b ≤ 5000000001 := Int.ediv_le_of_le_mul (by omega) (by omega)
  have e1 := Int.emod_add_mul_ediv n b
  have e2 := Int.emod_nonneg n (show b ≠ 0 by omega)
  have e3 := Int.emod_lt_of_pos n (show 0 < b by omega)
  obtain ⟨q, hq⟩ : ∃ q, n.tdiv b = q := ⟨_, rfl⟩
  obtain ⟨P, hP⟩ : ∃ P, q * b = P := ⟨_, rfl⟩
  have hqb : (-5000000001 ≤ q ∧ q ≤ 5000000002) ∧ (-5000065537 ≤ P ∧ P ≤ 5000065537) := by
    rw [Int.mul_comm] at e1
    rcases hf with ⟨_, he⟩ | ⟨_, he⟩
    · rw [hq] at he
      have : P = n / b * b + b := by rw [← hP, show q = n / b + 1 by omega, Int.add_mul, Int.one_mul]
      omega
    · rw [hq] at he
      have : P = n / b * b := by rw [← hP, he]
      omega
  obtain ⟨⟨hq1, hq2⟩, hP1, hP2⟩ := hqb
  rw [hq, hP] at hf
  clear e1 e2 e3
  have hbz : (b == 0) = false := by simp; omega
  rcases hf with ⟨ht, he⟩ | ⟨ht, he⟩
  · have hd : decide (n < P) = true := by simpa using ht
    have HE := hide he
    clear ht he hr1 hr2
    go_enter Try.func78, Try.ntmps78
    go_wp2
    go_ret
    exact ⟨ret_int HE.out, rfl⟩
  · have hd : decide (n < P) = false := by simpa using ht
    have HE := hide he
    clear ht he hr1 hr2
    go_enter Try.func78, Try.ntmps78
    go_wp2
    go_ret
    exact ⟨ret_int HE.out, rfl⟩

end Go.Proofs.Ytolcndchfnifhab

/- Arrays of four and of three numbers; right: Levels, Gains. -/
namespace Go.Proofs.Ytolcndchfnifhab
set_option linter.unusedVariables false
open Go.RowKit

abbrev fourA (m : Nat → Int) : Array Value := #[.int .i64 (m 0), .int .i64 (m 1), .int .i64 (m 2), .int .i64 (m 3)]
abbrev threeA (m : Nat → Int) : Array Value := #[.int .i64 (m 0), .int .i64 (m 1), .int .i64 (m 2)]
def arrL (m : Nat → Int) (n : Nat) : List Int := (List.range n).map m
theorem fourA_get (m : Nat → Int) (k : Nat) (h : k < 4) : (fourA m)[k]? = some (.int .i64 (m k)) := by
  rcases (show k = 0 ∨ k = 1 ∨ k = 2 ∨ k = 3 by omega) with rfl | rfl | rfl | rfl <;> rfl
theorem threeA_get (m : Nat → Int) (k : Nat) (h : k < 3) : (threeA m)[k]? = some (.int .i64 (m k)) := by
  rcases (show k = 0 ∨ k = 1 ∨ k = 2 by omega) with rfl | rfl | rfl <;> rfl
theorem arrL_all {m : Nat → Int} {n : Nat} {a b : Int} (h : allIn a b (arrL m n) = true) (k : Nat) (hk : k < n) : a ≤ m k ∧ m k ≤ b := by
  have := List.all_eq_true.1 h (m k) (List.mem_map.2 ⟨k, List.mem_range.2 hk, rfl⟩)
  simpa using this
theorem four_ints {w w' : World} {t : TypeId} (m : Nat → Int) (hb : Below (w.alloc (.cells (fourA m) t)).heap.size (w.alloc (.cells (fourA m) t)) w') : IsInts w' (.slice (some ⟨w.heap.size, 0, none⟩) 4 4) (arrL m 4) := by
  refine ⟨_, _, rfl, by simp [arrL], .inr ⟨w.heap.size, 0, rfl, by have := hb.size; simp at this; omega, fun j hj => ?_⟩⟩
  have hj4 : j < 4 := by simpa [arrL] using hj
  rw [hb.cell (p := ⟨w.heap.size, 0 + j, none⟩) (by simp), Lib.cell_of_heap (heap_alloc_new w _), Nat.zero_add, fourA_get m j hj4]
  simp [arrL]
theorem three_ints {w w' : World} {t : TypeId} (m : Nat → Int) (hb : Below (w.alloc (.cells (threeA m) t)).heap.size (w.alloc (.cells (threeA m) t)) w') : IsInts w' (.slice (some ⟨w.heap.size, 0, none⟩) 3 3) (arrL m 3) := by
  refine ⟨_, _, rfl, by simp [arrL], .inr ⟨w.heap.size, 0, rfl, by have := hb.size; simp at this; omega, fun j hj => ?_⟩⟩
  have hj3 : j < 3 := by simpa [arrL] using hj
  rw [hb.cell (p := ⟨w.heap.size, 0 + j, none⟩) (by simp), Lib.cell_of_heap (heap_alloc_new w _), Nat.zero_add, threeA_get m j hj3]
  simp [arrL]

def gainsOk (m : Nat → Int) : Bool := allIn 0 65535 (arrL m 3)
set_option maxRecDepth 100000 in
theorem gains_any (m : Nat → Int) (w : World) : Calls Try.prog 54 #[.agg (threeA m)] w fun e w' => e = .returned (.bool (gainsOk m)) ∧ Below w.heap.size w w' := by
  go_enter Try.func54, Try.ntmps54
  go_wp2_with fail
  refine (rWithin_any 0 65535 _ (arrL m 3) _ (three_ints m (Below.refl _ _))).mono ?_
  rintro e w1 ⟨rfl, rfl⟩
  rw [show allIn 0 65535 (arrL m 3) = gainsOk m from rfl]
  go_wp2
  go_ret
  exact ⟨rfl, bel_alloc _ _⟩

def levelsOk (m : Nat → Int) (white : Int) : Bool := decide (1 ≤ white ∧ white ≤ 65535) && allIn 0 (white - 1) (arrL m 4)
set_option maxRecDepth 100000 in
set_option maxHeartbeats 800000 in
theorem levels_any (m : Nat → Int) (white : Int) (w : World) : Calls Try.prog 95 #[.agg (fourA m), .int .i64 white] w fun e w' => e = .returned (.bool (levelsOk m white)) ∧ Below w.heap.size w w' := by
  have HB := hide (be2 w (Obj.cells (fourA m) 72) (Obj.cells #[.int .i64 white] 3))
  have H1 := hide (ints1 (w.alloc (Obj.cells (fourA m) 72)) white)
  rw [World.size_alloc] at H1
  have H4 := hide (four_ints (w := w) (t := 72) m (bel_alloc _ (Obj.cells #[.int .i64 white] 3)))
  by_cases hw : 1 ≤ white ∧ white ≤ 65535
  · have hd : allIn 1 65535 [white] = true := by simpa [allIn] using hw
    have HE := hide (show allIn 0 (white - 1) (arrL m 4) = levelsOk m white by rw [levelsOk, decide_eq_true hw, Bool.true_and])
    obtain ⟨hw1, hw2⟩ := hw
    go_enter Try.func95, Try.ntmps95
    go_wp2_with fail
    refine (rWithin_any 1 65535 _ [white] _ H1.out).mono ?_
    rintro e w1 ⟨rfl, rfl⟩
    rw [hd]
    go_wp2_with fail
    refine (rWithin_any 0 (white - 1) _ (arrL m 4) _ H4.out).mono ?_
    rintro e w1 ⟨rfl, rfl⟩
    rw [HE.out]
    go_wp2
    go_ret
    exact ⟨rfl, HB.out⟩
  · have hd : allIn 1 65535 [white] = false := by simpa [allIn] using hw
    have HE := hide (show false = levelsOk m white by rw [levelsOk, decide_eq_false hw, Bool.false_and])
    go_enter Try.func95, Try.ntmps95
    go_wp2_with fail
    refine (rWithin_any 1 65535 _ [white] _ H1.out).mono ?_
    rintro e w1 ⟨rfl, rfl⟩
    rw [hd]
    go_wp2
    go_ret
    exact ⟨ret_bool HE.out, HB.out⟩

theorem clamp_tdiv (n d : Int) (hd : 0 < d) : clampV (n.tdiv d) = clampV (n / d) := by
  rcases down_facts n d hd with ⟨h1, h2⟩ | ⟨_, h2⟩
  · have hn : n < 0 := by
      rcases Int.lt_or_le n 0 with h | h
      · exact h
      · have := Int.tdiv_eq_ediv_of_nonneg (b := d) h; omega
    have h3 : n / d < 0 := Int.ediv_neg_of_neg_of_pos hn hd
    have h4 : n.tdiv d ≤ 0 := by omega
    unfold clampV
    rw [if_pos h3]
    split
    · rfl
    · rw [if_neg (by omega)]; omega
  · rw [h2]

end Go.Proofs.Ytolcndchfnifhab

/- A region that draws its order and whose last operation is a store: what the others read is held till then, so that it may be read first. -/
namespace Go.Proofs.Ytolcndchfnifhab
open Go

section
variable {P : Program} {ops : Array Oper} {Q : Exit → Act → World → Prop} {md : Region.Mode} {S : World → Prop} {f : Nat}

/-- whichever order is picked, and S holds behind every operation but f. -/
def wpAnyF (P : Program) (md : Region.Mode) (ops : Array Oper) (Q : Exit → Act → World → Prop) (S : World → Prop) (f : Nat) : Nat → Array Bool → Act → World → Prop
  | 0, listed, a, w => Region.ready md ops listed = [] ∧ Q .normal a w
  | fuel + 1, listed, a, w =>
    (Region.ready md ops listed = [] → Q .normal a w) ∧
    ∀ i ∈ Region.ready md ops listed, wpOp P ops Q i (fun a' w' => (i ≠ f → S w') ∧ wpAnyF P md ops Q S f fuel (listed.setIfInBounds i true) a' w') a w

theorem wpAny_of_F : ∀ (fuel : Nat) (listed : Array Bool) (a : Act) (w : World), wpAnyF P md ops Q S f fuel listed a w → wpAny P md ops Q fuel listed a w
  | 0, _, _, _, h => h
  | fuel + 1, _, _, _, h => ⟨h.1, fun i hi => wpOp_mono (fun a' w' h' => wpAny_of_F fuel _ a' w' h'.2) (h.2 i hi)⟩

/-- operation j waits for operation i. -/
def waits (md : Region.Mode) (ops : Array Oper) (i : Nat) : Nat → Nat → Bool
  | 0, _ => false
  | n + 1, j => match ops[j]? with
    | some o => o.after.any fun e => Region.binds md e && (e.on == i || waits md ops i n e.on)
    | none => false
/-- what has come up had all come up that it waits for. -/
def Closed (md : Region.Mode) (ops : Array Oper) (listed : Array Bool) : Prop := ∀ k o, ops[k]? = some o → listed.getD k false = true → ∀ e ∈ o.after, Region.binds md e = true → listed.getD e.on false = true
def closedB (md : Region.Mode) (ops : Array Oper) (listed : Array Bool) : Bool :=
  (List.range ops.size).all fun k => match ops[k]? with
    | some o => !listed.getD k false || o.after.all fun e => !Region.binds md e || listed.getD e.on false
    | none => true
theorem closed_of {listed : Array Bool} (h : closedB md ops listed = true) : Closed md ops listed := by
  intro k o ho hk e he hb
  have h1 := List.all_eq_true.1 h k (List.mem_range.2 (Array.getElem?_eq_some_iff.1 ho).1)
  simp only [ho, hk, Bool.not_true, Bool.false_or] at h1
  have h2 : (!Region.binds md e || listed.getD e.on false) = true := by
    first
      | exact List.all_eq_true.1 h1 e he
      | exact Array.all_eq_true'.1 h1 e he
  rw [hb] at h2
  simpa using h2

theorem waits_spec {i : Nat} {listed : Array Bool} (hc : Closed md ops listed) : ∀ (n j : Nat), (j ∈ Region.ready md ops listed ∨ listed.getD j false = true) → waits md ops i n j = true → listed.getD i false = true
  | 0, _, _, h => by cases h
  | n + 1, j, hj, h => by
    unfold waits at h
    cases ho : ops[j]? with
    | none => rw [ho] at h; cases h
    | some o =>
      rw [ho] at h
      have hall : ∀ e ∈ o.after, Region.binds md e = true → listed.getD e.on false = true := by
        rcases hj with hj | hj
        · obtain ⟨_, o', ho', hall⟩ := mem_ready.1 hj
          obtain rfl := Option.some.inj (ho.symm.trans ho')
          exact hall
        · exact hc j o ho hj
      have h' : ∃ e ∈ o.after, (Region.binds md e && (e.on == i || waits md ops i n e.on)) = true := by
        first
          | exact List.any_eq_true.1 h
          | exact Array.any_eq_true'.1 h
      obtain ⟨e, he, hx⟩ := h'
      rw [Bool.and_eq_true] at hx
      have h1 := hall e he hx.1
      rcases Bool.or_eq_true _ _ |>.mp hx.2 with h2 | h2
      · rw [← eq_of_beq h2]; exact h1
      · exact waits_spec hc n e.on (.inr h1) h2

theorem closed_set {j : Nat} {listed : Array Bool} (hc : Closed md ops listed) (hj : j ∈ Region.ready md ops listed) : Closed md ops (listed.setIfInBounds j true) := by
  intro k o ho hk e he hb
  by_cases hkj : j = k
  · subst hkj
    obtain ⟨_, o', ho', hall⟩ := mem_ready.1 hj
    obtain rfl := Option.some.inj (ho.symm.trans ho')
    exact getD_set_true (hall e he hb)
  · rw [getD_set_ne false hkj] at hk
    exact getD_set_true (hc k o ho hk e he hb)

theorem wpAnyF_first {i n : Nat} {oi : Oper} {v : Value} (hi : ops[i]? = some oi) (hsel : ∀ (j : Nat) (o : Oper) cs b, ops[j]? = some o → o.op ≠ .select cs b)
    (hQ : ∀ c a w, Q (.panic c) (a.put oi.dst v) w → Q (.panic c) a w) (hwt : waits md ops i n f = true) :
    ∀ (fuel : Nat) (listed : Array Bool) (a : Act) (w : World),
      (∀ j oj, ops[j]? = some oj → j ≠ i → listed.getD j true = false → (∀ e ∈ oj.after, Region.binds md e = true → e.on ≠ i) → oi.apart ops oj = true) →
      Closed md ops listed →
      i ∈ Region.ready md ops listed → YieldsIf P ops S oi v a → S w →
      wpAnyF P md ops Q S f fuel (listed.setIfInBounds i true) (a.put oi.dst v) w → wpAnyF P md ops Q S f (fuel + 1) listed a w := by
  intro fuel
  induction fuel with
  | zero =>
    intro listed a w _ _ hr hy hS H
    refine ⟨fun h => (by rw [h] at hr; cases hr), fun j hj => ?_⟩
    by_cases hji : j = i
    · subst hji; exact hy.wpOp hi hS ⟨fun _ => hS, H⟩
    · have := ready_mono hj hji
      rw [H.1] at this
      cases this
  | succ fuel ih =>
    intro listed a w hfree hcl hr hy hS H
    refine ⟨fun h => (by rw [h] at hr; cases hr), fun j hj => ?_⟩
    by_cases hji : j = i
    · subst hji; exact hy.wpOp hi hS ⟨fun _ => hS, H⟩
    · have hiun : ¬ listed.getD i false = true := by
        intro h1
        have h0 := (mem_ready.1 hr).1
        rcases Nat.lt_or_ge i listed.size with h' | h'
        · simp [h'] at h0 h1; rw [h0] at h1; cases h1
        · simp [Array.getElem?_eq_none h'] at h1
      have hjf : j ≠ f := fun e => hiun (waits_spec hcl n f (.inl (e ▸ hj)) hwt)
      have h1 := H.2 j (ready_mono hj hji)
      obtain ⟨hjun, oj, hoj, hall⟩ := mem_ready.1 hj
      have hnot : ∀ e ∈ oj.after, Region.binds md e = true → e.on ≠ i := fun e he hb heq => by
        have h1 := hall e he hb
        rw [heq] at h1
        exact hiun h1
      have h2 := wpOp_putIf hoj (hfree j oj hoj hji hjun hnot) (fun cs b => hsel i oi cs b hi) (fun cs b => hsel j oj cs b hoj) hQ hy h1
      have hfree' : ∀ k ok, ops[k]? = some ok → k ≠ i → (listed.setIfInBounds j true).getD k true = false →
          (∀ e ∈ ok.after, Region.binds md e = true → e.on ≠ i) → oi.apart ops ok = true := fun k ok hk hki hun hno => by
        refine hfree k ok hk hki ?_ hno
        by_cases hjk : j = k
        · subst hjk; exact hjun
        · rw [getD_set_ne true hjk] at hun; exact hun
      refine wpOp_mono (fun a' w' h3 => ⟨h3.2.1, ih (listed.setIfInBounds j true) a' w' hfree' (closed_set hcl hj) (ready_mono hr (Ne.symm hji)) h3.1 (h3.2.1 hjf) ?_⟩) h2
      rw [Array.setIfInBounds_comm _ _ hji]
      exact h3.2.2

/-- take number i first. -/
theorem wpAnyF_take {i : Nat} {oi : Oper} {v : Value} {fuel : Nat} {listed : Array Bool} {a : Act} {w : World} (hi : ops[i]? = some oi)
    (hs : Region.noSelect ops = true) (hf : Region.free md ops listed i = true) (hr : (Region.ready md ops listed).contains i = true) (hwt : waits md ops i ops.size f = true) (hcl : closedB md ops listed = true)
    (hQ : ∀ c a w, Q (.panic c) (a.put oi.dst v) w → Q (.panic c) a w) (hy : YieldsIf P ops S oi v a) (hS : S w)
    (h : wpAnyF P md ops Q S f fuel (listed.setIfInBounds i true) (a.put oi.dst v) w) : wpAnyF P md ops Q S f (fuel + 1) listed a w :=
  wpAnyF_first hi (Region.noSelect_spec hs) hQ hwt fuel listed a w (Region.free_spec hi hf) (closed_of hcl) (by simpa using hr) hy hS h

/-- one alone may come up: behind it S is to be shown anew, if it is not the last. -/
theorem wpAnyF_one {i : Nat} {o : Oper} {fuel : Nat} {listed : Array Bool} {a : Act} {w : World} (hr : Region.ready md ops listed = [i]) (ho : ops[i]? = some o)
    (h : ∀ K' : Act → World → Prop, Shut (∀ a w, S w → wpAnyF P md ops Q S f fuel (listed.setIfInBounds i true) a w → K' a w) → if Region.wanted o (yielded ops a.tmps) = true then Oper.wp P o a w K' Q else K' (a.put o.dst undef) w) :
    wpAnyF P md ops Q S f (fuel + 1) listed a w :=
  ⟨fun h0 => (by rw [hr] at h0; cases h0), fun j hj => by
    rw [hr] at hj
    obtain rfl := List.mem_singleton.1 hj
    exact wpOp_step ho (fun K' hK => h K' (fun a w hS hW => hK a w ⟨fun _ => hS, hW⟩))⟩
theorem wpAnyF_last {o : Oper} {fuel : Nat} {listed : Array Bool} {a : Act} {w : World} (hr : Region.ready md ops listed = [f]) (ho : ops[f]? = some o)
    (h : ∀ K' : Act → World → Prop, Shut (∀ a w, wpAnyF P md ops Q S f fuel (listed.setIfInBounds f true) a w → K' a w) → if Region.wanted o (yielded ops a.tmps) = true then Oper.wp P o a w K' Q else K' (a.put o.dst undef) w) :
    wpAnyF P md ops Q S f (fuel + 1) listed a w :=
  ⟨fun h0 => (by rw [hr] at h0; cases h0), fun j hj => by
    rw [hr] at hj
    obtain rfl := List.mem_singleton.1 hj
    exact wpOp_step ho (fun K' hK => h K' (fun a w hW => hK a w ⟨fun e => absurd rfl e, hW⟩))⟩
theorem wpAnyF_done {listed : Array Bool} {a : Act} {w : World} (hr : Region.ready md ops listed = []) (h : Q .normal a w) :
    ∀ fuel, wpAnyF P md ops Q S f fuel listed a w
  | 0 => ⟨hr, h⟩
  | _ + 1 => ⟨fun _ => h, by rw [hr]; simp⟩
theorem wp_region_last {id : Nat} {a : Act} {w : World} (hm : P.follows .mixedOrders = true)
    (h : wpAnyF P .any ops Q S f ops.size (Array.replicate ops.size false) a { w with drawn := w.drawn + 1 }) : (Code.region id ops true).wp P Q a w :=
  wp_region_any hm (wpAny_of_F _ _ _ _ h)
end

end Go.Proofs.Ytolcndchfnifhab

/- A region that draws its order, inside a round of a loop over a function, at the wide fence: what is shown of all its orders outside of a round holds there, if it defers nothing. -/
namespace Go.Proofs.Ytolcndchfnifhab
open Go.RowKit

/-- no operation defers. -/
def NoDefer (ops : Array Oper) : Prop := ∀ (i : Nat) (o : Oper), ops[i]? = some o → ∀ c, o.op ≠ .defer c

theorem wpIn_of_wp {P : Program} {o : Oper} {a : Act} {w : World} {K : Act → World → Prop} {Q : Exit → Act → World → Prop} {l n : Nat} (hd : ∀ c, o.op ≠ .defer c)
    (h : o.wp P a w K Q) : o.wpIn (Fence.wide.inRound l) n P a w K Q := by
  unfold Oper.wp at h
  unfold Oper.wpIn
  refine ⟨fun _ _ => trivial, ?_⟩
  rw [Oper.semAt_eq _ _ _ hd]
  generalize (execOp a.eval o).run P w = r at *
  cases r with
  | ok x w' =>
    cases x <;> simp only [Oper.upon, Oper.uponIn] at h ⊢
    all_goals first
      | exact h
      | exact ⟨fun hh => by simp [Fence.wide, Fence.inRound] at hh, CallsIn.inRound l (callsIn_wide.2 h)⟩
      | exact ⟨fun hh => by simp [Fence.wide, Fence.inRound] at hh, fun c cs _ => let ⟨v, w', r, s⟩ := h c cs; ⟨v, w', r, stepsIn_wide.2 s⟩⟩
      | exact h.elim
  | halt x w' => cases x <;> simp only [Oper.upon, Oper.uponIn] at h ⊢ <;> first | exact h | exact h.elim

theorem wpOpIn_of_wpOp {P : Program} {ops : Array Oper} {a : Act} {w : World} {K : Act → World → Prop} {Q : Exit → Act → World → Prop} {l n i : Nat} (hd : NoDefer ops) (hno : ¬ LetsOut Q)
    (h : wpOp P ops Q i K a w) : wpOpIn (Fence.wide.inRound l) n P ops Q i K a w := by
  unfold wpOp at h
  unfold wpOpIn
  cases ho : ops[i]? with
  | none => simp only [ho] at h ⊢; exact h
  | some o =>
    simp only [ho] at h ⊢
    split
    · rename_i hw
      rw [if_pos hw] at h
      rcases h with h | h
      · exact wpIn_of_wp (hd i o ho) h
      · exact absurd h.2 hno
    · rename_i hw
      rw [if_neg hw] at h
      exact ⟨fun _ _ => trivial, h⟩

theorem wpAnyIn_of_wpAny {P : Program} {md : Region.Mode} {ops : Array Oper} {Q : Exit → Act → World → Prop} {l n : Nat} (hd : NoDefer ops) (hno : ¬ LetsOut Q) :
    ∀ (fuel : Nat) (listed : Array Bool) (a : Act) (w : World), wpAny P md ops Q fuel listed a w → wpAnyIn (Fence.wide.inRound l) n P md ops Q fuel listed a w
  | 0, _, _, _, h => h
  | fuel + 1, _, _, _, h => ⟨h.1, fun i hi => wpOpIn_mono (fun a' w' h' => wpAnyIn_of_wpAny hd hno fuel _ a' w' h') (wpOpIn_of_wpOp hd hno (h.2 i hi))⟩

/-- the beginning: as wp_region_held, in a round. -/
theorem wpIn_region_held {P : Program} {id l n : Nat} {ops : Array Oper} {S : World → Prop} {Q : Exit → Act → World → Prop} {a : Act} {w : World} (hm : P.follows .mixedOrders = true) (hd : NoDefer ops) (hno : ¬ LetsOut Q)
    (h : wpAnyH P .any ops Q S ops.size (Array.replicate ops.size false) a { w with drawn := w.drawn + 1 }) : (Code.region id ops true).wpIn (Fence.wide.inRound l) n P Q a w :=
  wpIn_region_any hm (wpAnyIn_of_wpAny hd hno _ _ _ _ (wpAny_of_held _ _ _ _ h))

end Go.Proofs.Ytolcndchfnifhab

/- A region that ends with a store, inside a round of a loop over a function. -/
namespace Go.Proofs.Ytolcndchfnifhab
open Go.RowKit

theorem wpIn_region_last {P : Program} {id l n f : Nat} {ops : Array Oper} {S : World → Prop} {Q : Exit → Act → World → Prop} {a : Act} {w : World} (hm : P.follows .mixedOrders = true) (hd : NoDefer ops) (hno : ¬ LetsOut Q)
    (h : wpAnyF P .any ops Q S f ops.size (Array.replicate ops.size false) a { w with drawn := w.drawn + 1 }) : (Code.region id ops true).wpIn (Fence.wide.inRound l) n P Q a w :=
  wpIn_region_any hm (wpAnyIn_of_wpAny hd hno _ _ _ _ (wpAny_of_F _ _ _ _ h))

end Go.Proofs.Ytolcndchfnifhab

/- grid: the places of a grid, row by row, as the loop over a function gets them. -/
namespace Go.Proofs.Ytolcndchfnifhab
open Go.RowKit Go.Shelf

attribute [local go_sem] Oper.semAt_some

/-- the first k numbers below N. -/
def idx (N k : Nat) : List (Fin N) := (List.finRange N).take k
theorem idx_succ (N k : Nat) (h : k < N) : idx N (k + 1) = idx N k ++ [⟨k, h⟩] := by
  unfold idx; rw [List.take_succ_eq_append_getElem (by simpa using h)]; simp
theorem idx_length (N k : Nat) (h : k ≤ N) : (idx N k).length = k := by unfold idx; simp; omega
theorem idx_prefix (N k : Nat) : idx N k <+: List.finRange N := List.take_prefix _ _
theorem idx_all (N : Nat) : idx N N = List.finRange N := List.take_of_length_le (by simp)
theorem idx_zero (N : Nat) : idx N 0 = [] := rfl
theorem map_finRange {α : Type} (N : Nat) (f : Nat → α) : (List.finRange N).map (fun j => f j.1) = (List.range N).map f := by
  apply List.ext_getElem
  · simp
  · intro i h1 h2; simp

/-- the block lies as it lay. -/
def KeepB (Bg : Nat) (A B : World) : Prop := B.heap[Bg]? = A.heap[Bg]?

set_option maxRecDepth 100000 in
set_option maxHeartbeats 1000000 in
theorem places1_in (F : Fence) (n : Nat) (hf : F.fn 117) (hro : F.round = none) (hn : 1 ≤ n) (l Bg W H N : Nat) (hW : W ≤ 64) (hH : H ≤ 64) (hN : N = H * W) (J Jx : List (Fin N) → World → Prop)
    (hY : ∀ pre (x : Fin N) V, J pre V → pre.length < N → YieldAt F (n - 1) Try.prog l #[.agg #[.int .i64 (x.1 % W : Nat), .int .i64 (x.1 / W : Nat)]] V fun e V' =>
      (e = .returned (.bool true) ∧ J (pre ++ [x]) V' ∧ KeepB Bg V V') ∨ (e = .returned (.bool false) ∧ Jx (pre ++ [x]) V'))
    (V : World) (hc0 : V.cell? ⟨Bg, 0, none⟩ = some (.int .i64 W)) (hc1 : V.cell? ⟨Bg, 1, none⟩ = some (.int .i64 H)) (h0 : J [] V) :
    CallsIn F n Try.prog 117 #[.func (.yield l) #[] #[], .pointer (some ⟨Bg, 0, none⟩)] V fun e V' => (∃ v, e = .returned v) ∧
      ((∃ ys, ys = List.finRange N ∧ J ys V') ∨ (∃ pre, pre <+: List.finRange N ∧ Jx pre V')) := by
  have HN := hide hN
  clear hN
  refine callsIn_of_wp Try.func117 rfl hf ?_ hro
  simp only [Try.ntmps117, List.size_toArray, List.length_cons, List.length_nil, Nat.reduceAdd, Nat.reduceSub, Array.replicate_succ, Array.replicate_zero, List.push_toArray, List.append_toArray, List.nil_append, List.cons_append]
  gi_wp2
  gi_loopw [7] (fun i wr => ∃ y : Nat, y ≤ H ∧ i = .int .i64 y ∧ J (idx N (y * W)) wr ∧ wr.cell? ⟨Bg, 0, none⟩ = some (.int .i64 W)) (fun i _ => H - (intOf i).toNat)
  case atStart => exact ⟨0, Nat.zero_le _, rfl, by rw [Nat.zero_mul]; exact h0, hc0⟩
  case round =>
    obtain ⟨y, hy, rfl, hJ, c0⟩ := hrel
    clear hc0 hc1 h0
    by_cases hlt : y < H
    · have hd : decide ((y : Int) < (H : Int)) = true := by simp; omega
      obtain ⟨M, hM⟩ : ∃ M, M = y * W := ⟨_, rfl⟩
      rw [← hM] at hJ
      have hmul : M + W ≤ N := by
        rw [HN.out, hM, ← Nat.succ_mul]; exact Nat.mul_le_mul_right W hlt
      have HMUL := hide hmul
      have HPL := hide (fun x (hx : x < W) => show (M + x) % W = x ∧ (M + x) / W = y by rw [hM]; exact place_of hx)
      have HNX := hide (show idx N ((y + 1) * W) = idx N (M + W) by rw [Nat.succ_mul, hM])
      clear hM hmul
      gi_wp2
      gi_loopw [12] (fun i wr => ∃ x : Nat, x ≤ W ∧ i = .int .i64 x ∧ J (idx N (M + x)) wr ∧ wr.cell? ⟨Bg, 0, none⟩ = some (.int .i64 W)) (fun i _ => W - (intOf i).toNat)
      case atStart => exact ⟨0, Nat.zero_le _, rfl, hJ, c0⟩
      case round =>
        clear hJ c0
        obtain ⟨x, hx, rfl, hJ, c0⟩ := hrel
        by_cases hxl : x < W
        · have hd2 : decide ((x : Int) < (W : Int)) = true := by simp; omega
          have hxN : M + x < N := by have := HMUL.out; omega
          have HSP := hide (idx_succ N (M + x) hxN)
          have HPR := hide (show idx N (M + x) ++ [⟨M + x, hxN⟩] <+: List.finRange N by
            rw [← HSP.out]; exact idx_prefix N _)
          have hYx := hY (idx N (M + x)) ⟨M + x, hxN⟩ _ hJ (by rw [idx_length _ _ (by omega)]; exact hxN)
          simp only [(HPL.out x hxl).1, (HPL.out x hxl).2] at hYx
          obtain ⟨fn, tmps, assign, body, hy', hR⟩ := hYx
          gi_wp2
          refine hR.mono ?_
          rintro e V3 (⟨rfl, hJ3, hk3⟩ | ⟨rfl, hJx3⟩)
          · have c3 := (World.cell?_of_block (a := ⟨Bg, 0, none⟩) hk3).trans c0
            rw [← HSP.out] at hJ3
            gi_wp2
            go_roundw
            case rel => exact ⟨x + 1, by omega, by go_num, hJ3, c3⟩
            case measure => simp [intOf]; omega
          · gi_wp2
            refine bodyPost_ret (results_none rfl _ _ _) rfl ?_
            exact ⟨⟨_, rfl⟩, .inr ⟨_, HPR.out, hJx3⟩⟩
        · have hd2 : decide ((x : Int) < (W : Int)) = false := by simp; omega
          obtain rfl : x = W := by omega
          gi_wp2
          go_roundw
          case rel => exact ⟨y + 1, by omega, by go_num, by rw [HNX.out]; exact hJ, c0⟩
          case measure => simp [intOf]; omega
    · obtain rfl : y = H := by omega
      have hd : decide ((y : Int) < (y : Int)) = false := by simp
      gi_wp2
      go_end0
      exact ⟨⟨_, rfl⟩, .inl ⟨_, by rw [← HN.out, idx_all], hJ⟩⟩

end Go.Proofs.Ytolcndchfnifhab

/- grid: Plane, with what sensor.Level tells of each place. -/
namespace Go.Proofs.Ytolcndchfnifhab
open Go.RowKit Go.Shelf

attribute [local go_sem] Oper.semAt_some

theorem KeepB.trans' {Bg : Nat} {A B C : World} (h : KeepB Bg A B) (k : KeepB Bg B C) : KeepB Bg A C := Eq.trans k h
theorem keepB_put {Bg l : Nat} {X : World} {o : Obj} (h : Bg ≠ l) : KeepB Bg X (X.putObj l o) := by
  show (X.putObj l o).heap[Bg]? = X.heap[Bg]?
  unfold World.putObj
  simp [Ne.symm h]
theorem below_drew'' {B : Nat} {a w : World} (h : Below B a w) : Below B a w.drew := h.drew

set_option maxHeartbeats 400000 in
theorem places_in (F : Fence) (n : Nat) (hf : F.fn 103) (hro : F.round = none) (W H : Int) (w : World) :
    CallsIn F n Try.prog 103 #[.agg #[.int .i64 W, .int .i64 H]] w fun e w' => e = .returned (.func (.func 117) #[] #[.pointer (some ⟨w.heap.size, 0, none⟩)]) ∧ w' = w.alloc (.cells #[.int .i64 W, .int .i64 H] 91) := by
  refine callsIn_of_wp Try.func103 rfl hf ?_ hro
  simp only [Try.ntmps103, List.size_toArray, List.length_cons, List.length_nil, Nat.reduceAdd, Nat.reduceSub, Array.replicate_succ, Array.replicate_zero, List.push_toArray, List.append_toArray, List.nil_append, List.cons_append]
  gi_wp2
  go_ret
  exact ⟨rfl, rfl⟩

theorem places_stops (F : Fence) (n : Nat) (hf : F.fn 117) (hro : F.round = none) (hn : 1 ≤ n) (Bg W H N : Nat) (hW : W ≤ 64) (hH : H ≤ 64) (hN : N = H * W) (w : World) (hBw : Bg < w.heap.size)
    (hc0 : w.cell? ⟨Bg, 0, none⟩ = some (.int .i64 W)) (hc1 : w.cell? ⟨Bg, 1, none⟩ = some (.int .i64 H)) :
    SeqStopsK F n Try.prog 117 #[.pointer (some ⟨Bg, 0, none⟩)] (fun x : Fin N => #[Value.agg #[.int .i64 (x.1 % W : Nat), .int .i64 (x.1 / W : Nat)]]) (KeepB Bg) (fun ys => ys = List.finRange N) (fun pre => pre <+: List.finRange N) N w := fun l J Jx V hV _ _ hY h0 =>
  places1_in F n hf hro hn l Bg W H N hW hH hN J Jx hY V ((hV.cell (p := ⟨Bg, 0, none⟩) hBw).trans hc0) ((hV.cell (p := ⟨Bg, 1, none⟩) hBw).trans hc1) h0

end Go.Proofs.Ytolcndchfnifhab

/- grid: what a round of Plane's loop, or Picture's, leaves. -/
namespace Go.Proofs.Ytolcndchfnifhab
open Go.RowKit

theorem own_ne {V : World} {base : Nat} {et : TypeId} {sz : Nat} {v : Value} {n : Nat} {xs : List Value} (h : V.ownsRow base et sz v n xs) {b : Nat} {cs : Array Value} {t : TypeId} {fr : Nat × Nat} (hb : V.heap[b]? = some (.cells cs t fr)) (ht : t ≠ et) : some b ≠ v.ownBlock := by
  rcases h.2 with ⟨hv, _⟩ | ⟨g, cap, cur, hv, _, hg, _⟩
  · rw [hv]; simp [Value.ownBlock]
  · rw [hv]
    simp only [Value.ownBlock]
    intro e
    simp only [Option.some.injEq] at e
    subst e
    rw [hb] at hg
    simp only [Option.some.injEq, Obj.cells.injEq] at hg
    exact ht hg.2.1
theorem own_cells {V : World} {base : Nat} {et : TypeId} {sz : Nat} {v : Value} {n : Nat} {xs : List Value} (h : V.ownsRow base et sz v n xs) {b : Nat} {o : Obj} (hb : V.heap[b]? = some o) (ho : o.isCells = false) : some b ≠ v.ownBlock := by
  rcases h.2 with ⟨hv, _⟩ | ⟨g, cap, cur, hv, _, hg, _⟩
  · rw [hv]; simp [Value.ownBlock]
  · rw [hv]
    simp only [Value.ownBlock]
    intro e
    simp only [Option.some.injEq] at e
    subst e
    rw [hb] at hg
    cases hg
    simp [Obj.isCells] at ho
theorem lenOf_any {w : World} {base : Nat} {e : TypeId} {sz : Nat} {v : Value} {n : Nat} {xs : List Value} (h : w.ownsRow base e sz v n xs) : ∃ ao cap, v = .slice ao n cap := by
  rcases h.2 with ⟨hv, hn⟩ | ⟨g, cap, cur, hv, _⟩
  · exact ⟨none, 0, by rw [hv, hn]⟩
  · exact ⟨_, _, hv⟩

theorem noDefer_of {ops : Array Oper} (h : (ops.toList.all fun o => match o.op with | .defer _ => false | _ => true) = true) : NoDefer ops := by
  intro i o ho c hc
  have hm : o ∈ ops.toList := by
    rw [← Array.getElem?_toList] at ho
    exact List.mem_of_getElem? ho
  have := List.all_eq_true.1 h o hm
  rw [hc] at this
  cases this

/-- a block of cells stands, where a block that is none is turned. -/
theorem own_keep {B : Nat} {X Y : World} {row : Option Nat} (hg : X.grownBy Y row) (hr : ∀ r, row = some r → B ≤ r ∧ ∃ o : Obj, X.heap[r]? = some o ∧ o.isCells = false) {b : Nat} {cs : Array Value} {t : TypeId} {fr : Nat × Nat} (h : X.heap[b]? = some (.cells cs t fr)) : Y.heap[b]? = some (.cells cs t fr) := by
  refine (hg.block b (Array.getElem?_eq_some_iff.1 h).1 (fun e => ?_)).trans h
  obtain ⟨_, o, ho, hc⟩ := hr b e.symm
  rw [h] at ho; cases ho; cases hc
theorem own_keepRow {B : Nat} {X Y : World} {row : Option Nat} (hg : X.grownBy Y row) (hr : ∀ r, row = some r → B ≤ r ∧ ∃ o : Obj, X.heap[r]? = some o ∧ o.isCells = false) {base : Nat} {et : TypeId} {sz : Nat} {v : Value} {n : Nat} {xs : List Value} (h : X.ownsRow base et sz v n xs) : Y.ownsRow base et sz v n xs := by
  refine h.kept hg ?_
  by_cases hv : v.ownBlock = none
  · exact .inl hv
  · refine .inr fun e => ?_
    cases hrow : row with
    | none => rw [hrow] at e; exact hv e
    | some r =>
      obtain ⟨_, o, ho, hc⟩ := hr r hrow
      exact own_cells h ho hc (by rw [e, hrow])

/-- what lies behind a round, where an element has been appended. -/
theorem grid_tail {et ct ft gt xt : TypeId} {sz : Nat} (ce : ct ≠ et) (fe : ft ≠ et) (ge : gt ≠ et) (xe : xt ≠ et) (cf : ct ≠ ft) (cg : ct ≠ gt) (cx : ct ≠ xt)
    {W' V1 w1 w : World} {base PB Bt Br Bx Bg B0 : Nat} {W H : Int} {so : Option Addr} {scap n g cap : Nat} {fn x0 x1 : Value} {es : Array Value} {xs : List Value}
    (i1 : W'.heap[PB]? = some (.cells #[.int .i64 W, .int .i64 H, .slice so n scap] ct (0, 0))) (i2 : W'.ownsRow base et sz (.slice so n scap) n xs)
    (i3 : W'.heap[Bt]? = some (.cells #[fn] ft (0, 0))) (i4 : W'.heap[Br]? = some (.cells #[.int .i64 0, .int .i64 0, .slice none 0 0] ct (0, 0)))
    (i6 : W'.heap[Bg]? = some (.cells #[.int .i64 W, .int .i64 H] gt (0, 0))) (bX : W'.heap[Bx]? = some (.cells #[x0, x1] xt (0, 0)))
    (i5 : Below w.heap.size w W') (hbase : w.heap.size ≤ base) (hPw : w.heap.size ≤ PB) (hPR : PB ≠ Br)
    (hV1 : Below W'.heap.size W' V1) (hg : (V1.alloc (Obj.cells es et)).grownBy w1 (Value.slice so n scap).ownBlock)
    (ho : w1.ownsRow base et sz (.slice (some ⟨g, 0, none⟩) (n + 1) cap) (n + 1) (xs ++ es.toList)) :
    (w1.cell? ⟨Bt, 0, none⟩ = some fn ∧ w1.cell? ⟨Bx, 0, none⟩ = some x0 ∧ w1.cell? ⟨Bx, 1, none⟩ = some x1) ∧ w1.cell? ⟨PB, 2, none⟩ = some (.slice so n scap) ∧ w1.frozen? ⟨PB, 2, none⟩ = false ∧
    (((w1.setCell ⟨PB, 2, none⟩ (.slice (some ⟨g, 0, none⟩) (n + 1) cap)).cell? ⟨Bt, 0, none⟩ = some fn ∧ (w1.setCell ⟨PB, 2, none⟩ (.slice (some ⟨g, 0, none⟩) (n + 1) cap)).cell? ⟨Bx, 0, none⟩ = some x0 ∧ (w1.setCell ⟨PB, 2, none⟩ (.slice (some ⟨g, 0, none⟩) (n + 1) cap)).cell? ⟨Bx, 1, none⟩ = some x1) ∧
      (KeepsFrom B0 W' (w1.setCell ⟨PB, 2, none⟩ (.slice (some ⟨g, 0, none⟩) (n + 1) cap)) ∧ KeepB Bg W' (w1.setCell ⟨PB, 2, none⟩ (.slice (some ⟨g, 0, none⟩) (n + 1) cap)) ∧
        ((∃ v, (w1.setCell ⟨PB, 2, none⟩ (.slice (some ⟨g, 0, none⟩) (n + 1) cap)).heap[PB]? = some (.cells #[.int .i64 W, .int .i64 H, v] ct (0, 0)) ∧ (w1.setCell ⟨PB, 2, none⟩ (.slice (some ⟨g, 0, none⟩) (n + 1) cap)).ownsRow base et sz v (n + 1) (xs ++ es.toList)) ∧
          (w1.setCell ⟨PB, 2, none⟩ (.slice (some ⟨g, 0, none⟩) (n + 1) cap)).heap[Bt]? = some (.cells #[fn] ft (0, 0)) ∧ (w1.setCell ⟨PB, 2, none⟩ (.slice (some ⟨g, 0, none⟩) (n + 1) cap)).heap[Br]? = some (.cells #[.int .i64 0, .int .i64 0, .slice none 0 0] ct (0, 0)) ∧
          (w1.setCell ⟨PB, 2, none⟩ (.slice (some ⟨g, 0, none⟩) (n + 1) cap)).heap[Bg]? = some (.cells #[.int .i64 W, .int .i64 H] gt (0, 0)) ∧ Below w.heap.size w (w1.setCell ⟨PB, 2, none⟩ (.slice (some ⟨g, 0, none⟩) (n + 1) cap))))) := by
  have keep : ∀ b o, W'.heap[b]? = some o → some b ≠ (Value.slice so n scap).ownBlock → w1.heap[b]? = some o := fun b o hb hne => by
    have hl := (Array.getElem?_eq_some_iff.1 hb).1
    have hs := hV1.size
    rw [hg.block b (by simp; omega) hne, Below.heap_alloc _ _ _ (by omega), hV1.block b hl]; exact hb
  have kP := keep PB _ i1 (own_ne i2 i1 ce)
  have kT := keep Bt _ i3 (own_ne i2 i3 fe)
  have kR := keep Br _ i4 (own_ne i2 i4 ce)
  have kG := keep Bg _ i6 (own_ne i2 i6 ge)
  have kX := keep Bx _ bX (own_ne i2 bX xe)
  have nT : PB ≠ Bt := fun e => by rw [e] at i1; rw [i1] at i3; simp only [Option.some.injEq, Obj.cells.injEq] at i3; exact cf i3.2.1
  have nG : PB ≠ Bg := fun e => by rw [e] at i1; rw [i1] at i6; simp only [Option.some.injEq, Obj.cells.injEq] at i6; exact cg i6.2.1
  have nX : PB ≠ Bx := fun e => by rw [e] at i1; rw [i1] at bX; simp only [Option.some.injEq, Obj.cells.injEq] at bX; exact cx bX.2.1
  have fT := (Below.heap_setCell w1 ⟨PB, 2, none⟩ (.slice (some ⟨g, 0, none⟩) (n + 1) cap) Bt (Ne.symm nT)).trans kT
  have fR := (Below.heap_setCell w1 ⟨PB, 2, none⟩ (.slice (some ⟨g, 0, none⟩) (n + 1) cap) Br (Ne.symm hPR)).trans kR
  have fG := (Below.heap_setCell w1 ⟨PB, 2, none⟩ (.slice (some ⟨g, 0, none⟩) (n + 1) cap) Bg (Ne.symm nG)).trans kG
  have fX := (Below.heap_setCell w1 ⟨PB, 2, none⟩ (.slice (some ⟨g, 0, none⟩) (n + 1) cap) Bx (Ne.symm nX)).trans kX
  refine ⟨⟨by rw [Lib.cell_of_heap kT]; rfl, by rw [Lib.cell_of_heap kX]; rfl, by rw [Lib.cell_of_heap kX]; rfl⟩, by rw [Lib.cell_of_heap kP]; rfl, Lib.frozen_of_heap kP 2,
    ⟨by rw [Lib.cell_of_heap fT]; rfl, by rw [Lib.cell_of_heap fX]; rfl, by rw [Lib.cell_of_heap fX]; rfl⟩, ?_, by rw [KeepB, fG, i6], ⟨_, ?_, ownsRow_setCell_other ho (fun e => own_ne ho kP ce e.symm) _⟩, fT, fR, fG, ?_⟩
  · refine ⟨?_, fun k o _ hk hoc => ?_⟩
    · have h1 := hV1.size
      have h2 := hg.size
      simp only [World.size_alloc] at h2
      simp only [World.setCell, Array.size_modify]
      omega
    · rw [Below.heap_setCell _ _ _ _ (fun e => by rw [show k = PB from e, i1] at hk; cases hk; simp [Obj.isCells] at hoc)]
      exact keep k o hk (own_cells i2 hk hoc)
  · have := heap_setCell_same w1 PB 2 _ _ (.slice (some ⟨g, 0, none⟩) (n + 1) cap) kP
    rw [this]; rfl
  · have hs := hV1.size
    exact ((((i5.trans (hV1.mono i5.size)).alloc (by have := i5.size; omega) _).grown hg (by have := i5.size; simp; omega) (fun j hj => Nat.le_trans hbase (i2.lt j hj).1))).setCell (p := ⟨PB, 2, none⟩) hPw _

theorem box3_set {W' : World} {Br : Nat} {ct : TypeId} {a b c : Value} (i4 : W'.heap[Br]? = some (.cells #[a, b, c] ct (0, 0))) (x y z : Value) (w : World) (hBr : w.heap.size ≤ Br) (i5 : Below w.heap.size w W') :
    (((W'.setCell ⟨Br, 0, none⟩ x).setCell ⟨Br, 1, none⟩ y).setCell ⟨Br, 2, none⟩ z).heap[Br]? = some (.cells #[x, y, z] ct (0, 0)) ∧ (∀ k, k ≠ Br → (((W'.setCell ⟨Br, 0, none⟩ x).setCell ⟨Br, 1, none⟩ y).setCell ⟨Br, 2, none⟩ z).heap[k]? = W'.heap[k]?) ∧
      (((W'.setCell ⟨Br, 0, none⟩ x).setCell ⟨Br, 1, none⟩ y).setCell ⟨Br, 2, none⟩ z).heap.size = W'.heap.size ∧ Below w.heap.size w (((W'.setCell ⟨Br, 0, none⟩ x).setCell ⟨Br, 1, none⟩ y).setCell ⟨Br, 2, none⟩ z) := by
  refine ⟨?_, fun k hk => ?_, by simp [World.setCell], ((i5.setCell (p := ⟨Br, 0, none⟩) hBr _).setCell (p := ⟨Br, 1, none⟩) hBr _).setCell (p := ⟨Br, 2, none⟩) hBr _⟩
  · have h1 := heap_setCell_same W' Br 0 _ _ x i4
    have h2 := heap_setCell_same _ Br 1 _ _ y h1
    have h3 := heap_setCell_same _ Br 2 _ _ z h2
    rw [h3]; rfl
  · rw [Below.heap_setCell _ _ _ _ hk, Below.heap_setCell _ _ _ _ hk, Below.heap_setCell _ _ _ _ hk]
theorem own_other {W' X : World} {Br : Nat} (h : ∀ k, k ≠ Br → X.heap[k]? = W'.heap[k]?) {base : Nat} {et : TypeId} {sz : Nat} {v : Value} {n : Nat} {xs : List Value} (hne : some Br ≠ v.ownBlock) (ho : W'.ownsRow base et sz v n xs) : X.ownsRow base et sz v n xs := by
  refine ⟨ho.1, ?_⟩
  rcases ho.2 with ho | ⟨g, cap, cur, hv, hg, hh, r⟩
  · exact .inl ho
  · refine .inr ⟨g, cap, cur, hv, hg, ?_, r⟩
    rw [h g (fun e => hne (by rw [hv, e]; rfl))]; exact hh

end Go.Proofs.Ytolcndchfnifhab

/- What lies behind an append to a slice that lies in a box of three, and the store of it. -/
namespace Go.Proofs.Ytolcndchfnifhab
open Go.RowKit

theorem app_gen {et ct : TypeId} {sz : Nat} (ce : ct ≠ et) {W' V1 w1 w : World} {base PB : Nat} {x y : Value} {so : Option Addr} {scap k m g cap : Nat} {xs ys : List Value}
    (i1 : W'.heap[PB]? = some (.cells #[x, y, .slice so k scap] ct (0, 0))) (i2 : W'.ownsRow base et sz (.slice so k scap) k xs)
    (i5 : Below w.heap.size w W') (hb : w.heap.size ≤ base) (hPB : w.heap.size ≤ PB) (hV1 : Below W'.heap.size W' V1) (hg : V1.grownBy w1 (Value.slice so k scap).ownBlock)
    (ho : w1.ownsRow base et sz (.slice (some ⟨g, 0, none⟩) m cap) m ys) :
    (∀ b, b < W'.heap.size → some b ≠ (Value.slice so k scap).ownBlock → w1.heap[b]? = W'.heap[b]?) ∧ w1.cell? ⟨PB, 2, none⟩ = some (.slice so k scap) ∧ w1.frozen? ⟨PB, 2, none⟩ = false ∧
      (w1.setCell ⟨PB, 2, none⟩ (.slice (some ⟨g, 0, none⟩) m cap)).heap[PB]? = some (.cells #[x, y, .slice (some ⟨g, 0, none⟩) m cap] ct (0, 0)) ∧
      (w1.setCell ⟨PB, 2, none⟩ (.slice (some ⟨g, 0, none⟩) m cap)).ownsRow base et sz (.slice (some ⟨g, 0, none⟩) m cap) m ys ∧ Below w.heap.size w (w1.setCell ⟨PB, 2, none⟩ (.slice (some ⟨g, 0, none⟩) m cap)) ∧
      (∀ b, b < W'.heap.size → some b ≠ (Value.slice so k scap).ownBlock → b ≠ PB → (w1.setCell ⟨PB, 2, none⟩ (.slice (some ⟨g, 0, none⟩) m cap)).heap[b]? = W'.heap[b]?) := by
  have hs := hV1.size
  have keep : ∀ b, b < W'.heap.size → some b ≠ (Value.slice so k scap).ownBlock → w1.heap[b]? = W'.heap[b]? := fun b hb hne => by
    rw [hg.block b (by omega) hne, hV1.block b hb]
  have l1 := (Array.getElem?_eq_some_iff.1 i1).1
  have kP := (keep PB l1 (own_ne i2 i1 ce)).trans i1
  have hc := heap_setCell_same w1 PB 2 _ _ (.slice (some ⟨g, 0, none⟩) m cap) kP
  refine ⟨keep, by rw [Lib.cell_of_heap kP]; rfl, Lib.frozen_of_heap kP 2, by rw [hc]; rfl, ownsRow_setCell_other ho (fun e => own_ne ho kP ce e.symm) _, ?_, fun b hb hne hn => (Below.heap_setCell _ _ _ _ hn).trans (keep b hb hne)⟩
  exact ((i5.trans (hV1.mono i5.size)).grown hg (by have := i5.size; omega) (fun j hj => Nat.le_trans hb (i2.lt j hj).1)).setCell (p := ⟨PB, 2, none⟩) hPB _

end Go.Proofs.Ytolcndchfnifhab

