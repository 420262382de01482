/- Curves: the mathematics. -/
import Derived.Test.YtolcndchfnifhaaMath
namespace Go.Proofs.Ytolcndchfnifhaa

abbrev Pt := Int × Int
def ptAt (ls : List Pt) (i : Nat) : Pt := ls.getD i (0, 0)
theorem ptAt_get (ls : List Pt) (i : Nat) (h : i < ls.length) : ls[i] = ptAt ls i := by simp [ptAt, List.getD_eq_getElem?_getD, List.getElem?_eq_getElem h]
/-- the point i is right, beside the one ahead of it. -/
def ptY (ls : List Pt) (i : Nat) : Bool := decide (0 ≤ (ptAt ls i).2 ∧ (ptAt ls i).2 ≤ 65535)
def ptStep (ls : List Pt) (i : Nat) : Bool := decide (0 < i → (ptAt ls (i - 1)).1 < (ptAt ls i).1 ∧ (ptAt ls (i - 1)).2 ≤ (ptAt ls i).2)
def ptsOk (ls : List Pt) (k : Nat) : Bool := (List.range k).all fun i => ptY ls i && ptStep ls i
def endsOk (ls : List Pt) : Bool := decide (2 ≤ (ls.length : Int) ∧ (ls.length : Int) ≤ 16) && decide ((ptAt ls 0).1 = 0) && decide ((ptAt ls (ls.length - 1)).1 = 65535)
def curveOk (ls : List Pt) : Bool := endsOk ls && ptsOk ls ls.length

theorem ptsOk_succ (ls : List Pt) (k : Nat) : ptsOk ls (k + 1) = (ptsOk ls k && (ptY ls k && ptStep ls k)) := by simp [ptsOk, List.range_succ]
theorem ptsOk_false (ls : List Pt) (k n : Nat) (h : k < n) (hf : (ptY ls k && ptStep ls k) = false) : ptsOk ls n = false := by
  rw [Bool.eq_false_iff]; intro he
  have := List.all_eq_true.1 he k (List.mem_range.2 h)
  rw [hf] at this; cases this
theorem ptsOk_get {ls : List Pt} {n : Nat} (h : ptsOk ls n = true) (k : Nat) (hk : k < n) : (0 ≤ (ptAt ls k).2 ∧ (ptAt ls k).2 ≤ 65535) ∧ (0 < k → (ptAt ls (k - 1)).1 < (ptAt ls k).1 ∧ (ptAt ls (k - 1)).2 ≤ (ptAt ls k).2) := by
  have := List.all_eq_true.1 h k (List.mem_range.2 hk)
  rw [Bool.and_eq_true] at this
  exact ⟨of_decide_eq_true this.1, of_decide_eq_true this.2⟩

structure IsCurve (ls : List Pt) : Prop where
  two : 2 ≤ ls.length
  most : ls.length ≤ 16
  first : (ptAt ls 0).1 = 0
  last : (ptAt ls (ls.length - 1)).1 = 65535
  y : ∀ k, k < ls.length → 0 ≤ (ptAt ls k).2 ∧ (ptAt ls k).2 ≤ 65535
  step : ∀ k, k + 1 < ls.length → (ptAt ls k).1 < (ptAt ls (k + 1)).1 ∧ (ptAt ls k).2 ≤ (ptAt ls (k + 1)).2

theorem isCurve_of {ls : List Pt} (h : curveOk ls = true) : IsCurve ls := by
  rw [curveOk, endsOk, Bool.and_eq_true, Bool.and_eq_true, Bool.and_eq_true] at h
  obtain ⟨⟨⟨h1, h2⟩, h3⟩, h4⟩ := h
  have h1 := of_decide_eq_true h1
  exact ⟨by omega, by omega, of_decide_eq_true h2, of_decide_eq_true h3, fun k hk => (ptsOk_get h4 k hk).1, fun k hk => (ptsOk_get h4 (k + 1) hk).2 (by omega)⟩

theorem IsCurve.lt {ls : List Pt} (h : IsCurve ls) (i d : Nat) (hj : i + d + 1 < ls.length) : (ptAt ls i).1 < (ptAt ls (i + d + 1)).1 ∧ (ptAt ls i).2 ≤ (ptAt ls (i + d + 1)).2 := by
  induction d with
  | zero => exact h.step i hj
  | succ d ih =>
    have h1 := ih (by omega)
    have h2 := h.step (i + d + 1) (by omega)
    rw [show i + (d + 1) + 1 = i + d + 1 + 1 by omega]
    omega
theorem IsCurve.x {ls : List Pt} (h : IsCurve ls) (k : Nat) (hk : k < ls.length) : 0 ≤ (ptAt ls k).1 ∧ (ptAt ls k).1 ≤ 65535 := by
  have h1 := h.first
  have h2 := h.last
  have h3 := h.two
  constructor
  · rcases Nat.eq_zero_or_pos k with rfl | hp
    · omega
    · have := (h.lt 0 (k - 1) (by omega)).1
      rw [show 0 + (k - 1) + 1 = k by omega] at this
      omega
  · rcases Nat.eq_or_lt_of_le (show k ≤ ls.length - 1 by omega) with e | hlt
    · rw [e]; omega
    · have := (h.lt k (ls.length - 1 - k - 1) (by omega)).1
      rw [show k + (ls.length - 1 - k - 1) + 1 = ls.length - 1 by omega] at this
      omega

/-- how high the curve is between the point ahead of i and i. -/
def between (ls : List Pt) (i : Nat) (x : Int) : Int := (ptAt ls (i - 1)).2 + ((ptAt ls i).2 - (ptAt ls (i - 1)).2) * (x - (ptAt ls (i - 1)).1) / ((ptAt ls i).1 - (ptAt ls (i - 1)).1)
/-- the first point that is not ahead of x. -/
def isAt (ls : List Pt) (x : Int) (i : Nat) : Prop := i < ls.length ∧ x ≤ (ptAt ls i).1 ∧ ∀ j, j < i → (ptAt ls j).1 < x
def firstAt (ls : List Pt) (x : Int) : Nat := ls.findIdx fun p => decide (x ≤ p.1)
def heightV (ls : List Pt) (x : Int) : Int := if (ptAt ls (firstAt ls x)).1 = x then (ptAt ls (firstAt ls x)).2 else between ls (firstAt ls x) x
theorem isAt_first {ls : List Pt} {x : Int} {i : Nat} (h : isAt ls x i) : firstAt ls x = i := by
  rw [firstAt, List.findIdx_eq h.1]
  refine ⟨by rw [ptAt_get ls i h.1]; simpa using h.2.1, fun j hj => ?_⟩
  have := h.2.2 j hj
  rw [ptAt_get ls j (by have := h.1; omega)]
  simp; omega
theorem heightV_eq {ls : List Pt} {x : Int} {i : Nat} (h : isAt ls x i) : heightV ls x = if (ptAt ls i).1 = x then (ptAt ls i).2 else between ls i x := by
  rw [heightV, isAt_first h]
theorem between_end {ls : List Pt} (h : IsCurve ls) (i : Nat) (hi : i + 1 < ls.length) : between ls (i + 1) (ptAt ls (i + 1)).1 = (ptAt ls (i + 1)).2 ∧ between ls (i + 1) (ptAt ls i).1 = (ptAt ls i).2 := by
  have hs := (h.step i hi).1
  have hd : (ptAt ls (i + 1)).1 - (ptAt ls i).1 ≠ 0 := by omega
  constructor
  · rw [between, Nat.add_sub_cancel, Int.mul_ediv_cancel _ hd]; omega
  · rw [between, Nat.add_sub_cancel, Int.sub_self, Int.mul_zero, Int.zero_ediv]; omega
/-- the reference's way: from the second point on. -/
theorem heightV_ref {ls : List Pt} (h : IsCurve ls) {x : Int} (h0 : 0 ≤ x) {i : Nat} (hi : 1 ≤ i) (hl : i < ls.length) (hx : x ≤ (ptAt ls i).1) (hj : ∀ j, 1 ≤ j → j < i → (ptAt ls j).1 < x) : heightV ls x = between ls i x := by
  by_cases hz : x = 0
  · subst hz
    have hf := h.first
    have hi1 : i = 1 := by
      rcases Nat.eq_or_lt_of_le hi with e | hlt
      · exact e.symm
      · have := hj 1 (by omega) hlt
        have := h.x 1 (by omega)
        omega
    subst hi1
    rw [heightV_eq (i := 0) ⟨by omega, by omega, fun j hj => by omega⟩, if_pos hf]
    have := (between_end h 0 hl).2
    rw [hf] at this
    exact this.symm
  · have hf := h.first
    rw [heightV_eq (i := i) ⟨hl, hx, fun j hji => by
      rcases Nat.eq_zero_or_pos j with rfl | hp
      · omega
      · exact hj j hp hji⟩]
    split
    · rename_i e
      obtain ⟨k, rfl⟩ : ∃ k, i = k + 1 := ⟨i - 1, by omega⟩
      rw [← e, (between_end h k hl).1]
    · rfl

/-- what is between two points lies between their heights. -/
theorem between_bounds {ls : List Pt} (h : IsCurve ls) (i : Nat) (hi : i + 1 < ls.length) (x : Int) (h1 : (ptAt ls i).1 ≤ x) (h2 : x ≤ (ptAt ls (i + 1)).1) :
    0 ≤ ((ptAt ls (i + 1)).2 - (ptAt ls i).2) * (x - (ptAt ls i).1) ∧ ((ptAt ls (i + 1)).2 - (ptAt ls i).2) * (x - (ptAt ls i).1) ≤ 4294836225 ∧ (ptAt ls i).2 ≤ between ls (i + 1) x ∧ between ls (i + 1) x ≤ (ptAt ls (i + 1)).2 := by
  have hs := h.step i hi
  have y1 := h.y i (by omega)
  have y2 := h.y (i + 1) hi
  have x1 := h.x i (by omega)
  have x2 := h.x (i + 1) hi
  have a : 0 ≤ (ptAt ls (i + 1)).2 - (ptAt ls i).2 := by omega
  have b : 0 ≤ x - (ptAt ls i).1 := by omega
  have hnn := Int.mul_nonneg a b
  have hle := Int.mul_le_mul (show (ptAt ls (i + 1)).2 - (ptAt ls i).2 ≤ 65535 by omega) (show x - (ptAt ls i).1 ≤ 65535 by omega) b (by omega)
  have hd : 0 < (ptAt ls (i + 1)).1 - (ptAt ls i).1 := by omega
  have hq0 := Int.ediv_nonneg hnn (Int.le_of_lt hd)
  have hle2 := Int.mul_le_mul_of_nonneg_left (show x - (ptAt ls i).1 ≤ (ptAt ls (i + 1)).1 - (ptAt ls i).1 by omega) a
  have hq1 := Int.ediv_le_of_le_mul hd hle2
  refine ⟨hnn, by omega, ?_, ?_⟩
  · rw [between, Nat.add_sub_cancel]; omega
  · rw [between, Nat.add_sub_cancel]; omega
theorem heightV_range {ls : List Pt} (h : IsCurve ls) {x : Int} {i : Nat} (hi : isAt ls x i) (h0 : 0 ≤ x) : 0 ≤ heightV ls x ∧ heightV ls x ≤ 65535 := by
  rw [heightV_eq hi]
  split
  · exact h.y i hi.1
  · rename_i hne
    have hf := h.first
    obtain ⟨k, rfl⟩ : ∃ k, i = k + 1 := by
      cases i with
      | zero => exact absurd (by have := hi.2.1; omega) hne
      | succ k => exact ⟨k, rfl⟩
    have hb := between_bounds h k hi.1 x (Int.le_of_lt (hi.2.2 k (by omega))) hi.2.1
    have y1 := h.y k (by have := hi.1; omega)
    have y2 := h.y (k + 1) hi.1
    omega

end Go.Proofs.Ytolcndchfnifhaa
