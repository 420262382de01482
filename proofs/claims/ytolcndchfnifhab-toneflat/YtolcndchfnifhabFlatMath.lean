/- Sharpening: a picture of one colour, and the amount 0. -/
import Derived.Test.YtolcndchfnifhabSharpenAll
namespace Go.Proofs.Ytolcndchfnifhab

theorem clampV_in {p : Int} (h0 : 0 ≤ p) (h1 : p ≤ 65535) : clampV p = p := by rw [clampV, if_neg (by omega), if_neg (by omega)]
theorem sharpV_zero {p s : Int} (h0 : 0 ≤ p) (h1 : p ≤ 65535) : sharpV p s 0 = p := by
  rw [sharpV, Int.mul_zero, Int.zero_ediv, Int.add_zero, clampV_in h0 h1]
theorem sharpV_flat {p a : Int} (h0 : 0 ≤ p) (h1 : p ≤ 65535) : sharpV p (16 * p) a = p := by
  rw [sharpV, Int.mul_ediv_cancel_left _ (by decide), Int.sub_self, Int.zero_mul, Int.zero_ediv, Int.add_zero, clampV_in h0 h1]

theorem sharpL_zero {W H : Int} {ps : List Px} (h : pxsOk ps = true) : sharpL W H ps 0 = ps := by
  apply List.ext_getElem
  · simp [sharpL]
  · intro i h1 h2
    obtain ⟨⟨r1, r2⟩, ⟨g1, g2⟩, u1, u2⟩ := pxsOk_get h i h2
    simp only [sharpL, List.getElem_map, List.getElem_range, sharpP, ← pxAt_get ps i h2]
    rw [sharpV_zero r1 r2, sharpV_zero g1 g2, sharpV_zero u1 u2]

theorem wF_flat {ps : List Px} {c : Px} {W H X Y : Nat} (hW : 1 ≤ W) (hH : 1 ≤ H) (hX : X < W) (hY : Y < H) (hc : ∀ j, j < H * W → pxAt ps j = c) : wF ps W H X Y (List.finRange 8) = (16 * c.1, 16 * c.2.1, 16 * c.2.2) := by
  have hj : Y * W + X < H * W := by
    have h1 : (Y + 1) * W ≤ H * W := Nat.mul_le_mul_right _ hY
    rw [Nat.succ_mul] at h1
    omega
  have key : ∀ (l : List (Fin 8)) (s : Px), l.foldl (fun s x => addP s (wWt x.1) (pxAt ps (wIx W H X Y x.1))) s = l.foldl (fun s x => addP s (wWt x.1) c) s := by
    intro l
    induction l with
    | nil => intro s; rfl
    | cons x l ih => intro s; simp only [List.foldl_cons]; rw [hc _ (wIx_lt hW hH X Y x.1), ih]
  rw [wF, key, hc _ hj]
  obtain ⟨r, g, u⟩ := c
  have hw : (List.finRange 8).map (fun x => wWt x.1) = [1, 2, 1, 2, 2, 1, 2, 1] := by decide
  have fold : ∀ (l : List (Fin 8)) (s : Px), l.foldl (fun s x => addP s (wWt x.1) (r, g, u)) s = (l.map (fun x => wWt x.1)).foldl (fun s k => addP s k (r, g, u)) s := by
    intro l
    induction l with
    | nil => intro s; rfl
    | cons x l ih => intro s; simp only [List.foldl_cons, List.map_cons]; rw [ih]
  rw [fold, hw]
  simp only [List.foldl_cons, List.foldl_nil, addP]
  refine Prod.ext ?_ (Prod.ext ?_ ?_) <;> (simp only; omega)

theorem sharpL_flat {W H : Nat} {ps : List Px} {c : Px} {a : Int} (hW : 1 ≤ W) (hH : 1 ≤ H) (hl : ps.length = H * W) (hok : pxsOk ps = true) (hc : ∀ j, j < H * W → pxAt ps j = c) : sharpL (W : Int) (H : Int) ps a = ps := by
  apply List.ext_getElem
  · simp [sharpL]
  · intro i h1 h2
    obtain ⟨⟨r1, r2⟩, ⟨g1, g2⟩, u1, u2⟩ := pxsOk_get hok i h2
    have hci := hc i (by omega)
    rw [pxAt_get ps i h2] at r1 r2 g1 g2 u1 u2 ⊢
    rw [hci] at r1 r2 g1 g2 u1 u2
    simp only [sharpL, List.getElem_map, List.getElem_range, sharpP, Int.toNat_natCast]
    rw [wF_flat hW hH (Nat.mod_lt _ hW) (Nat.div_lt_of_lt_mul (by rw [Nat.mul_comm]; omega)) hc, hci, sharpV_flat r1 r2, sharpV_flat g1 g2, sharpV_flat u1 u2]

end Go.Proofs.Ytolcndchfnifhab
