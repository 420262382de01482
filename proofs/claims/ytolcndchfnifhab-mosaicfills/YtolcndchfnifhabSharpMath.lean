/- Sharpening, as the reference sums up: nine places row by row. -/
import Derived.Test.YtolcndchfnifhabSharpenAll
namespace Go.Proofs.Ytolcndchfnifhab

def tri (s : Nat → Int) : Array Value := #[.int .i64 (s 0), .int .i64 (s 1), .int .i64 (s 2)]
theorem tri_get (s : Nat → Int) (k : Nat) (h : k < 3) : (tri s)[k]? = some (.int .i64 (s k)) := by
  rcases (show k = 0 ∨ k = 1 ∨ k = 2 by omega) with rfl | rfl | rfl <;> rfl
theorem tri_set (s t : Nat → Int) (k : Nat) (x : Int) (hk : k < 3) (hx : x = t k) (ht : ∀ j, j < 3 → j ≠ k → s j = t j) : (tri s).setIfInBounds k (.int .i64 x) = tri t := by
  subst hx
  rcases (show k = 0 ∨ k = 1 ∨ k = 2 by omega) with rfl | rfl | rfl
  · have h1 := ht 1 (by omega) (by omega)
    have h2 := ht 2 (by omega) (by omega)
    simp [tri, h1, h2]
  · have h1 := ht 0 (by omega) (by omega)
    have h2 := ht 2 (by omega) (by omega)
    simp [tri, h1, h2]
  · have h1 := ht 0 (by omega) (by omega)
    have h2 := ht 1 (by omega) (by omega)
    simp [tri, h1, h2]
theorem tri_congr (s t : Nat → Int) (h : ∀ j, j < 3 → s j = t j) : tri s = tri t := by
  simp [tri, h 0 (by omega), h 1 (by omega), h 2 (by omega)]

def wtN (n : Nat) : Int := if n = 1 then 2 else 1
def pxF (p : Px) (k : Nat) : Int := if k = 0 then p.1 else if k = 1 then p.2.1 else p.2.2
theorem pxF_tri (p : Px) : tri (pxF p) = #[.int .i64 p.1, .int .i64 p.2.1, .int .i64 p.2.2] := rfl
theorem pxF_ok {p : Px} (h : pxOk p = true) (k : Nat) : 0 ≤ pxF p k ∧ pxF p k ≤ 65535 := by
  obtain ⟨h1, h2, h3⟩ := (pxOk_iff p).1 h
  unfold pxF
  split
  · exact h1
  · split
    · exact h2
    · exact h3
theorem wtN_range (n : Nat) : 1 ≤ wtN n ∧ wtN n ≤ 2 := by unfold wtN; split <;> omega

def sIx (W H X Y n : Nat) : Nat := (near H ((Y : Int) - 1 + (n / 3 : Nat))).toNat * W + (near W ((X : Int) - 1 + (n % 3 : Nat))).toNat
def sumN (g : Nat → Int) : Nat → Int
  | 0 => 0
  | n + 1 => sumN g n + g n
def sG (ps : List Px) (W H X Y j n : Nat) : Int := pxF (pxAt ps (sIx W H X Y n)) j * wtN (n % 3) * wtN (n / 3)

theorem mul_upto {a b A B : Int} (h1 : 0 ≤ a) (h2 : a ≤ A) (h3 : 0 ≤ b) (h4 : b ≤ B) : 0 ≤ a * b ∧ a * b ≤ A * B :=
  ⟨Int.mul_nonneg h1 h3, Int.mul_le_mul h2 h4 h3 (by omega)⟩
theorem sG_range {ps : List Px} (h : pxsOk ps = true) (W H X Y j n : Nat) : 0 ≤ sG ps W H X Y j n ∧ sG ps W H X Y j n ≤ 262140 := by
  obtain ⟨a, b⟩ := pxF_ok (pxAt_ok h (sIx W H X Y n)) j
  obtain ⟨c, d⟩ := wtN_range (n % 3)
  obtain ⟨e, f⟩ := wtN_range (n / 3)
  obtain ⟨g, i⟩ := mul_upto a b (by omega : 0 ≤ wtN (n % 3)) d
  obtain ⟨k, l⟩ := mul_upto g i (by omega : 0 ≤ wtN (n / 3)) f
  exact ⟨k, by unfold sG; omega⟩
theorem sumN_range {g : Nat → Int} (h : ∀ n, 0 ≤ g n ∧ g n ≤ 262140) (n : Nat) : 0 ≤ sumN g n ∧ sumN g n ≤ n * 262140 := by
  induction n with
  | zero => simp [sumN]
  | succ n ih =>
    obtain ⟨a, b⟩ := h n
    obtain ⟨c, d⟩ := ih
    refine ⟨?_, ?_⟩
    · simp only [sumN]; omega
    · simp only [sumN]; omega

theorem near_in (W : Nat) (x : Nat) (h : x < W) : (near W ((x : Int) - 1 + ((1 : Nat) : Int))).toNat = x := by
  rw [near, if_neg (by omega), if_neg (by omega)]; omega
theorem sIx_mid {W H X Y : Nat} (hX : X < W) (hY : Y < H) : sIx W H X Y 4 = Y * W + X := by
  have h1 := near_in H Y hY
  have h2 := near_in W X hX
  rw [sIx, show 4 / 3 = 1 from rfl, show 4 % 3 = 1 from rfl, h1, h2]

theorem sum_nine {ps : List Px} {W H X Y : Nat} (hX : X < W) (hY : Y < H) (j : Nat) : sumN (sG ps W H X Y j) 9 = pxF (wF ps W H X Y (List.finRange 8)) j := by
  have hm := sIx_mid (W := W) (H := H) hX hY
  have hl : List.finRange 8 = [0, 1, 2, 3, 4, 5, 6, 7] := by decide
  have h0 : wIx W H X Y 0 = sIx W H X Y 0 := rfl
  have h1 : wIx W H X Y 1 = sIx W H X Y 1 := rfl
  have h2 : wIx W H X Y 2 = sIx W H X Y 2 := rfl
  have h3 : wIx W H X Y 3 = sIx W H X Y 3 := rfl
  have h4 : wIx W H X Y 4 = sIx W H X Y 5 := rfl
  have h5 : wIx W H X Y 5 = sIx W H X Y 6 := rfl
  have h6 : wIx W H X Y 6 = sIx W H X Y 7 := rfl
  have h7 : wIx W H X Y 7 = sIx W H X Y 8 := rfl
  rw [wF, hl]
  simp only [List.foldl_cons, List.foldl_nil]
  simp only [show ((0 : Fin 8) : Nat) = 0 from rfl, show ((1 : Fin 8) : Nat) = 1 from rfl, show ((2 : Fin 8) : Nat) = 2 from rfl, show ((3 : Fin 8) : Nat) = 3 from rfl, show ((4 : Fin 8) : Nat) = 4 from rfl, show ((5 : Fin 8) : Nat) = 5 from rfl, show ((6 : Fin 8) : Nat) = 6 from rfl, show ((7 : Fin 8) : Nat) = 7 from rfl]
  rw [h0, h1, h2, h3, h4, h5, h6, h7]
  rw [show wWt 0 = 1 by decide, show wWt 1 = 2 by decide, show wWt 2 = 1 by decide, show wWt 3 = 2 by decide, show wWt 4 = 2 by decide, show wWt 5 = 1 by decide, show wWt 6 = 2 by decide, show wWt 7 = 1 by decide]
  simp only [sumN, sG]
  rw [hm]
  simp only [show wtN (0 % 3) = 1 by decide, show wtN (1 % 3) = 2 by decide, show wtN (2 % 3) = 1 by decide]
  generalize pxAt ps (sIx W H X Y 0) = a0
  generalize pxAt ps (sIx W H X Y 1) = a1
  generalize pxAt ps (sIx W H X Y 2) = a2
  generalize pxAt ps (sIx W H X Y 3) = a3
  generalize pxAt ps (Y * W + X) = a4
  generalize pxAt ps (sIx W H X Y 5) = a5
  generalize pxAt ps (sIx W H X Y 6) = a6
  generalize pxAt ps (sIx W H X Y 7) = a7
  generalize pxAt ps (sIx W H X Y 8) = a8
  unfold pxF addP
  by_cases e0 : j = 0
  · simp only [e0, if_true]; omega
  · by_cases e1 : j = 1
    · subst e1; simp only [if_neg e0, if_true]; omega
    · simp only [if_neg e0, if_neg e1]; omega

theorem sIx_lt {W H : Nat} (hW : 1 ≤ W) (hH : 1 ≤ H) (X Y n : Nat) : sIx W H X Y n < H * W := by
  obtain ⟨a1, a2⟩ := near_range H ((Y : Int) - 1 + (n / 3 : Nat)) (by omega)
  obtain ⟨b1, b2⟩ := near_range W ((X : Int) - 1 + (n % 3 : Nat)) (by omega)
  unfold sIx
  generalize near H ((Y : Int) - 1 + (n / 3 : Nat)) = a at *
  generalize near W ((X : Int) - 1 + (n % 3 : Nat)) = b at *
  obtain ⟨A, rfl⟩ := Int.eq_ofNat_of_zero_le a1
  obtain ⟨B, rfl⟩ := Int.eq_ofNat_of_zero_le b1
  simp only [Int.toNat_natCast]
  have h1 : (A + 1) * W ≤ H * W := Nat.mul_le_mul_right _ (by omega)
  rw [Nat.succ_mul] at h1
  omega

/-- the pixel, as the reference reckons it. -/
def sharpQ (ps : List Px) (W H X Y : Nat) (amount : Int) (j : Nat) : Int := sharpV (pxF (pxAt ps (Y * W + X)) j) (sumN (sG ps W H X Y j) 9) amount
theorem sharpQ_eq {ps : List Px} {W H X Y : Nat} (hX : X < W) (hY : Y < H) (amount : Int) : (sharpQ ps W H X Y amount 0, sharpQ ps W H X Y amount 1, sharpQ ps W H X Y amount 2) = sharpP ps W H amount (Y * W + X) := by
  have hm : (Y * W + X) % W = X ∧ (Y * W + X) / W = Y := place_of hX
  simp only [sharpQ, sum_nine hX hY]
  unfold sharpP
  rw [hm.1, hm.2]
  rfl

end Go.Proofs.Ytolcndchfnifhab
