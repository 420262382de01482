/- tone.weighedAround: what it sums up. -/
import Derived.Test.YtolcndchfnifhabWeighed
import Derived.Test.YtolcndchfnifhabAround
namespace Go.Proofs.Ytolcndchfnifhab
open Go.RowKit

def pxAt (ps : List Px) (j : Nat) : Px := ps.getD j (0, 0, 0)
theorem pxAt_get (ps : List Px) (i : Nat) (h : i < ps.length) : ps[i] = pxAt ps i := by simp [pxAt, List.getD_eq_getElem?_getD, List.getElem?_eq_getElem h]
theorem pxAt_ok {ps : List Px} (h : pxsOk ps = true) (j : Nat) : pxOk (pxAt ps j) = true := by
  by_cases hj : j < ps.length
  · rw [← pxAt_get ps j hj]; exact List.all_eq_true.1 h _ (List.getElem_mem hj)
  · rw [pxAt, List.getD_eq_getElem?_getD, List.getElem?_eq_none (by omega)]; rfl
/-- the place of the k-th of the eight around (X, Y), the nearest one in the plane. -/
def wIx (W H X Y : Nat) (k : Nat) : Nat := (near H ((Y : Int) - 1 + (nOf k / 3 : Nat))).toNat * W + (near W ((X : Int) - 1 + (nOf k % 3 : Nat))).toNat
def wWt (k : Nat) : Int := if nOf k % 3 = 1 ∨ nOf k / 3 = 1 then 2 else 1
/-- the sum, when these of the eight have come. -/
def wF (ps : List Px) (W H X Y : Nat) (pre : List (Fin 8)) : Px := pre.foldl (fun s x => addP s (wWt x.1) (pxAt ps (wIx W H X Y x.1))) (addP (0, 0, 0) 4 (pxAt ps (Y * W + X)))
theorem wF_snoc (ps : List Px) (W H X Y : Nat) (pre : List (Fin 8)) (x : Fin 8) : wF ps W H X Y (pre ++ [x]) = addP (wF ps W H X Y pre) (wWt x.1) (pxAt ps (wIx W H X Y x.1)) := by simp [wF]
theorem wWt_range (k : Nat) : 0 ≤ wWt k ∧ wWt k ≤ 2 := by unfold wWt; split <;> omega
theorem addP_upto {m n : Int} {s p : Px} {k : Int} (hs : pxUpto m s) (hp : pxOk p = true) (h0 : 0 ≤ k) (h1 : k ≤ n) : pxUpto (m + n) (addP s k p) := by
  obtain ⟨⟨r1, r2⟩, ⟨g1, g2⟩, u1, u2⟩ := (pxOk_iff p).1 hp
  obtain ⟨⟨s1, s2⟩, ⟨s3, s4⟩, s5, s6⟩ := hs
  obtain ⟨m1, m2⟩ := mul_bounds0 h0 h1 r1 r2
  obtain ⟨m3, m4⟩ := mul_bounds0 h0 h1 g1 g2
  obtain ⟨m5, m6⟩ := mul_bounds0 h0 h1 u1 u2
  have e : (m + n) * 65535 = m * 65535 + n * 65535 := Int.add_mul _ _ _
  refine ⟨⟨?_, ?_⟩, ⟨?_, ?_⟩, ?_, ?_⟩ <;> (simp only [addP]; omega)
theorem foldl_upto {ps : List Px} (h : pxsOk ps = true) (W H X Y : Nat) (pre : List (Fin 8)) (m : Int) (s : Px) (hs : pxUpto m s) : pxUpto (m + 2 * (pre.length : Int)) (pre.foldl (fun s x => addP s (wWt x.1) (pxAt ps (wIx W H X Y x.1))) s) := by
  induction pre generalizing m s with
  | nil => simpa using hs
  | cons x pre ih =>
    have := ih (m + 2) _ (addP_upto hs (pxAt_ok h (wIx W H X Y x.1)) (wWt_range x.1).1 (wWt_range x.1).2)
    rw [show (m + 2) + 2 * (pre.length : Int) = m + 2 * ((x :: pre).length : Int) by simp; omega] at this
    exact this
theorem wF_upto {ps : List Px} (h : pxsOk ps = true) (W H X Y : Nat) (pre : List (Fin 8)) : pxUpto (4 + 2 * (pre.length : Int)) (wF ps W H X Y pre) :=
  foldl_upto h W H X Y pre 4 _ (addP_upto (m := 0) (n := 4) (s := (0, 0, 0)) (k := 4) ⟨⟨by decide, by decide⟩, ⟨by decide, by decide⟩, by decide, by decide⟩ (pxAt_ok h (Y * W + X)) (by omega) (by omega))
theorem pxUpto_mono {m n : Int} {p : Px} (h : pxUpto m p) (hm : m ≤ n) : pxUpto n p := by
  obtain ⟨⟨s1, s2⟩, ⟨s3, s4⟩, s5, s6⟩ := h
  refine ⟨⟨s1, ?_⟩, ⟨s3, ?_⟩, s5, ?_⟩ <;> omega
theorem wIx_lt {W H : Nat} (hW : 1 ≤ W) (hH : 1 ≤ H) (X Y k : Nat) : wIx W H X Y k < H * W := by
  obtain ⟨a1, a2⟩ := near_range H ((Y : Int) - 1 + (nOf k / 3 : Nat)) (by omega)
  obtain ⟨b1, b2⟩ := near_range W ((X : Int) - 1 + (nOf k % 3 : Nat)) (by omega)
  unfold wIx
  generalize near H ((Y : Int) - 1 + (nOf k / 3 : Nat)) = a at *
  generalize near W ((X : Int) - 1 + (nOf k % 3 : Nat)) = b at *
  obtain ⟨A, rfl⟩ := Int.eq_ofNat_of_zero_le a1
  obtain ⟨B, rfl⟩ := Int.eq_ofNat_of_zero_le b1
  simp only [Int.toNat_natCast]
  have h1 : (A + 1) * W ≤ H * W := Nat.mul_le_mul_right _ (by omega)
  rw [Nat.succ_mul] at h1
  omega

end Go.Proofs.Ytolcndchfnifhab
