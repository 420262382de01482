/- Filling, as the reference sums up: nine places row by row, those in the plane, by colours. -/
import Derived.Test.YtolcndchfnifhabMosaicMath
namespace Go.Proofs.Ytolcndchfnifhab

def fX (X i : Nat) : Int := (X : Int) - 1 + (i % 3 : Nat)
def fY (Y i : Nat) : Int := (Y : Int) - 1 + (i / 3 : Nat)
def fOk (W H p X Y c i : Nat) : Prop := hasB W H (fX X i) (fY Y i) = true ∧ colV p (fX X i).toNat (fY Y i).toNat = c
instance (W H p X Y c i : Nat) : Decidable (fOk W H p X Y c i) := by unfold fOk; infer_instance
def fS (zs : List Int) (W H p X Y c i : Nat) : Int := if fOk W H p X Y c i then zAt zs ((fY Y i).toNat * W + (fX X i).toNat) else 0
def fN (W H p X Y c i : Nat) : Int := if fOk W H p X Y c i then 1 else 0
def fQ (zs : List Int) (W H p X Y c : Nat) : Int := sumN (fS zs W H p X Y c) 9 / max (sumN (fN W H p X Y c) 9) 1

theorem sumN_skip (g : Nat → Int) (m n : Nat) (h : m ≤ n) (hz : ∀ i, m ≤ i → i < n → g i = 0) : sumN g n = sumN g m := by
  induction n with
  | zero => rw [show m = 0 by omega]
  | succ n ih =>
    by_cases hm : m = n + 1
    · rw [hm]
    · simp only [sumN]
      rw [hz n (by omega) (by omega), ih (by omega) (fun i h1 h2 => hz i h1 (by omega)), Int.add_zero]
theorem fS_out (zs : List Int) {W H p X Y c i : Nat} (h : ¬ (0 ≤ fX X i ∧ fX X i < W ∧ 0 ≤ fY Y i ∧ fY Y i < H)) : fS zs W H p X Y c i = 0 := by
  rw [fS, if_neg]; rintro ⟨h1, _⟩; exact h (by simpa [hasB] using h1)
theorem fN_out {W H p X Y c i : Nat} (h : ¬ (0 ≤ fX X i ∧ fX X i < W ∧ 0 ≤ fY Y i ∧ fY Y i < H)) : fN W H p X Y c i = 0 := by
  rw [fN, if_neg]; rintro ⟨h1, _⟩; exact h (by simpa [hasB] using h1)
theorem fS_range {zs : List Int} (h : allIn 0 65535 zs = true) (W H p X Y c i : Nat) : 0 ≤ fS zs W H p X Y c i ∧ fS zs W H p X Y c i ≤ 262140 := by
  have := zAt_ok h ((fY Y i).toNat * W + (fX X i).toNat)
  unfold fS; split <;> omega
theorem fN_range (W H p X Y c i : Nat) : 0 ≤ fN W H p X Y c i ∧ fN W H p X Y c i ≤ 1 := by unfold fN; split <;> omega
theorem sumN_le1 {g : Nat → Int} (h : ∀ n, 0 ≤ g n ∧ g n ≤ 1) (n : Nat) : 0 ≤ sumN g n ∧ sumN g n ≤ n := by
  induction n with
  | zero => simp [sumN]
  | succ n ih =>
    obtain ⟨a, b⟩ := h n
    obtain ⟨c, d⟩ := ih
    refine ⟨?_, ?_⟩ <;> (simp only [sumN]; omega)

theorem mStep_f (zs : List Int) (W H p X Y c : Nat) (s : Int × Nat) (x : Fin 8) :
    (mStep zs W H (parX X) (parY Y) (parC p X Y c) s x).1 = s.1 + fS zs W H p X Y c (nOf x.1) ∧ ((mStep zs W H (parX X) (parY Y) (parC p X Y c) s x).2 : Int) = (s.2 : Int) + fN W H p X Y c (nOf x.1) := by
  have hiff : (hasB W H (parX X x) (parY Y x) = true ∧ parC p X Y c x = true) ↔ fOk W H p X Y c (nOf x.1) := by
    unfold fOk parC; rw [decide_eq_true_iff]; exact Iff.rfl
  unfold mStep fS fN
  by_cases h : fOk W H p X Y c (nOf x.1)
  · rw [if_pos (hiff.2 h), if_pos h, if_pos h]
    exact ⟨rfl, by simp⟩
  · rw [if_neg (fun e => h (hiff.1 e)), if_neg h, if_neg h]
    exact ⟨by simp, by simp⟩
theorem mF_zero {N : Nat} (zs : List Int) (W H : Nat) (px py : Fin N → Int) (cnt : Fin N → Bool) (pre : List (Fin N)) (s : Int × Nat) (h : s.2 = 0 → s.1 = 0) :
    (pre.foldl (mStep zs W H px py cnt) s).2 = 0 → (pre.foldl (mStep zs W H px py cnt) s).1 = 0 := by
  induction pre generalizing s with
  | nil => exact h
  | cons x pre ih =>
    simp only [List.foldl_cons]
    refine ih _ ?_
    unfold mStep
    split
    · intro e; simp at e
    · exact h

theorem mF_nine {zs : List Int} {W H p X Y c : Nat} (hne : colV p X Y ≠ c) :
    (mF zs W H (parX X) (parY Y) (parC p X Y c) (List.finRange 8)).1 = sumN (fS zs W H p X Y c) 9 ∧ ((mF zs W H (parX X) (parY Y) (parC p X Y c) (List.finRange 8)).2 : Int) = sumN (fN W H p X Y c) 9 := by
  have h4 : ¬ fOk W H p X Y c 4 := by
    rintro ⟨_, h⟩
    rw [show fX X 4 = (X : Int) by unfold fX; omega, show fY Y 4 = (Y : Int) by unfold fY; omega, Int.toNat_natCast, Int.toNat_natCast] at h
    exact hne h
  have e4 : fS zs W H p X Y c 4 = 0 := by rw [fS, if_neg h4]
  have e5 : fN W H p X Y c 4 = 0 := by rw [fN, if_neg h4]
  have hl : List.finRange 8 = [0, 1, 2, 3, 4, 5, 6, 7] := by decide
  have st := mStep_f zs W H p X Y c
  rw [mF, hl]
  simp only [List.foldl_cons, List.foldl_nil]
  constructor
  · rw [(st _ _).1, (st _ _).1, (st _ _).1, (st _ _).1, (st _ _).1, (st _ _).1, (st _ _).1, (st _ _).1]
    simp only [sumN, e4]
    simp only [show nOf ((0 : Fin 8) : Nat) = 0 from rfl, show nOf ((1 : Fin 8) : Nat) = 1 from rfl, show nOf ((2 : Fin 8) : Nat) = 2 from rfl, show nOf ((3 : Fin 8) : Nat) = 3 from rfl, show nOf ((4 : Fin 8) : Nat) = 5 from rfl, show nOf ((5 : Fin 8) : Nat) = 6 from rfl, show nOf ((6 : Fin 8) : Nat) = 7 from rfl, show nOf ((7 : Fin 8) : Nat) = 8 from rfl]
    omega
  · rw [(st _ _).2, (st _ _).2, (st _ _).2, (st _ _).2, (st _ _).2, (st _ _).2, (st _ _).2, (st _ _).2]
    simp only [sumN, e5]
    simp only [show nOf ((0 : Fin 8) : Nat) = 0 from rfl, show nOf ((1 : Fin 8) : Nat) = 1 from rfl, show nOf ((2 : Fin 8) : Nat) = 2 from rfl, show nOf ((3 : Fin 8) : Nat) = 3 from rfl, show nOf ((4 : Fin 8) : Nat) = 5 from rfl, show nOf ((5 : Fin 8) : Nat) = 6 from rfl, show nOf ((6 : Fin 8) : Nat) = 7 from rfl, show nOf ((7 : Fin 8) : Nat) = 8 from rfl]
    simp

theorem part_f {zs : List Int} {W H p X Y c : Nat} : partV zs W H p X Y c = if c = colV p X Y then zAt zs (Y * W + X) else fQ zs W H p X Y c := by
  unfold partV
  by_cases h : colV p X Y = c
  · rw [if_pos h, if_pos h.symm]
  · rw [if_neg h, if_neg (fun e => h e.symm)]
    obtain ⟨h1, h2⟩ := mF_nine (zs := zs) (W := W) (H := H) h
    have h0 := mF_zero zs W H (parX X) (parY Y) (parC p X Y c) (List.finRange 8) (0, 0) (fun _ => rfl)
    unfold meanV fQ
    rw [← h1, ← h2]
    unfold mF
    unfold mF at h1 h2
    generalize (List.finRange 8).foldl (mStep zs W H (parX X) (parY Y) (parC p X Y c)) (0, 0) = s at *
    split
    · rename_i hn
      rw [h0 hn, Int.zero_ediv]
    · rw [show max (s.2 : Int) 1 = s.2 by omega]

end Go.Proofs.Ytolcndchfnifhab
