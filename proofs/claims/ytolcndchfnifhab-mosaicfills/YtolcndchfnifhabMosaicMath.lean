/- Mosaics: Take of Fill is the plane; no part is above the greatest sample. -/
import Derived.Test.YtolcndchfnifhabMosaicTake
namespace Go.Proofs.Ytolcndchfnifhab

theorem mF_upto {N : Nat} {zs : List Int} {B : Int} (h : ∀ j, 0 ≤ zAt zs j ∧ zAt zs j ≤ B) (W H : Nat) (px py : Fin N → Int) (cnt : Fin N → Bool) (pre : List (Fin N)) (s : Int × Nat) (h1 : 0 ≤ s.1) (h2 : s.1 ≤ s.2 * B) :
    0 ≤ (pre.foldl (mStep zs W H px py cnt) s).1 ∧ (pre.foldl (mStep zs W H px py cnt) s).1 ≤ (pre.foldl (mStep zs W H px py cnt) s).2 * B := by
  induction pre generalizing s with
  | nil => exact ⟨h1, h2⟩
  | cons x pre ih =>
    simp only [List.foldl_cons]
    have hz := h ((py x).toNat * W + (px x).toNat)
    refine ih (mStep zs W H px py cnt s x) ?_ ?_
    · unfold mStep
      split
      · show 0 ≤ s.1 + zAt zs ((py x).toNat * W + (px x).toNat); omega
      · exact h1
    · unfold mStep
      split
      · show s.1 + zAt zs ((py x).toNat * W + (px x).toNat) ≤ ((s.2 + 1 : Nat) : Int) * B
        have e : ((s.2 + 1 : Nat) : Int) * B = s.2 * B + B := by rw [Int.natCast_add, Int.add_mul]; simp
        omega
      · exact h2
theorem meanV_upto {N : Nat} {zs : List Int} {B : Int} (h : ∀ j, 0 ≤ zAt zs j ∧ zAt zs j ≤ B) (W H : Nat) (px py : Fin N → Int) (cnt : Fin N → Bool) : 0 ≤ meanV zs W H px py cnt ∧ meanV zs W H px py cnt ≤ B := by
  have hB : 0 ≤ B := by have := h 0; omega
  obtain ⟨h1, h2⟩ := mF_upto h W H px py cnt (List.finRange N) (0, 0) (Int.le_refl _) (by simp)
  unfold meanV mF
  generalize (List.finRange N).foldl (mStep zs W H px py cnt) (0, 0) = s at *
  split
  · exact ⟨Int.le_refl _, hB⟩
  · rename_i hn
    refine ⟨Int.ediv_nonneg h1 (by omega), Int.ediv_le_of_le_mul (by omega) ?_⟩
    rw [Int.mul_comm]; exact h2
theorem partV_upto {zs : List Int} {B : Int} (h : ∀ j, 0 ≤ zAt zs j ∧ zAt zs j ≤ B) (W H p X Y c : Nat) : 0 ≤ partV zs W H p X Y c ∧ partV zs W H p X Y c ≤ B := by
  unfold partV
  split
  · exact h _
  · exact meanV_upto h W H _ _ _

theorem fillL_length (W H : Int) (zs : List Int) (phase : Int) : (fillL W H zs phase).length = zs.length := by simp [fillL]
theorem fillL_at (W H : Int) (zs : List Int) (phase : Int) (j : Nat) (hj : j < zs.length) : pxAt (fillL W H zs phase) j = fillP zs W.toNat H.toNat phase.toNat j := by
  rw [← pxAt_get _ j (by rw [fillL_length]; exact hj)]
  simp [fillL]

theorem take_fill (W H : Int) (zs : List Int) (phase : Int) (hW : 1 ≤ W) : takeL W (fillL W H zs phase) phase = zs := by
  apply List.ext_getElem
  · simp [takeL, fillL_length]
  · intro j h1 h2
    simp only [takeL, List.getElem_map, List.getElem_range, takeV]
    rw [fillL_at W H zs phase j h2]
    obtain ⟨WN, rfl⟩ := Int.eq_ofNat_of_zero_le (show 0 ≤ W by omega)
    simp only [Int.toNat_natCast]
    have hj : j / WN * WN + j % WN = j := by rw [Nat.mul_comm]; exact Nat.div_add_mod j WN
    have hc := colV_lt phase.toNat (j % WN) (j / WN)
    obtain ⟨c, hcc⟩ : ∃ c, colV phase.toNat (j % WN) (j / WN) = c := ⟨_, rfl⟩
    have key : partV zs WN H.toNat phase.toNat (j % WN) (j / WN) c = zs[j] := by
      rw [partV, if_pos hcc, hj, zAt_get zs j h2]
    rw [hcc] at hc ⊢
    rcases (show c = 0 ∨ c = 1 ∨ c = 2 by omega) with rfl | rfl | rfl <;> exact key

theorem fill_ok {W H : Int} {zs : List Int} (phase : Int) (h : planeOk W H zs = true) : picOk W H (fillL W H zs phase) = true := by
  obtain ⟨h1, h2, h3, _⟩ := planeOk_parts h
  have hz := zAt_ok (planeOk_all h)
  rw [planeOk_eq, Bool.and_eq_true] at h
  rw [picOk, fillL_length, h.1, Bool.true_and]
  refine List.all_eq_true.2 fun q hq => ?_
  obtain ⟨j, _, rfl⟩ := List.mem_map.1 hq
  exact (pxOk_iff _).2 ⟨partV_upto hz _ _ _ _ _ 0, partV_upto hz _ _ _ _ _ 1, partV_upto hz _ _ _ _ _ 2⟩

/-- the greatest sample. -/
def topV (zs : List Int) : Int := zs.foldl max 0
theorem topV_snoc (zs : List Int) (z : Int) : topV (zs ++ [z]) = max (topV zs) z := by simp [topV]
theorem topV_ge (zs : List Int) (s : Int) : s ≤ zs.foldl max s ∧ ∀ z ∈ zs, z ≤ zs.foldl max s := by
  induction zs generalizing s with
  | nil => exact ⟨Int.le_refl _, fun z h => by cases h⟩
  | cons x zs ih =>
    obtain ⟨h1, h2⟩ := ih (max s x)
    refine ⟨by simp only [List.foldl_cons]; omega, fun z hz => ?_⟩
    simp only [List.foldl_cons]
    rcases List.mem_cons.1 hz with rfl | hz
    · omega
    · exact h2 z hz
theorem topV_at {zs : List Int} (h : allIn 0 65535 zs = true) (j : Nat) : 0 ≤ zAt zs j ∧ zAt zs j ≤ topV zs := by
  refine ⟨(zAt_ok h j).1, ?_⟩
  by_cases hj : j < zs.length
  · rw [← zAt_get zs j hj]; exact (topV_ge zs 0).2 _ (List.getElem_mem hj)
  · rw [zAt, List.getD_eq_getElem?_getD, List.getElem?_eq_none (by omega)]; exact (topV_ge zs 0).1
theorem fillL_top {W H : Int} {zs : List Int} (phase : Int) (h : allIn 0 65535 zs = true) (j : Nat) (hj : j < zs.length) : (pxAt (fillL W H zs phase) j).1 ≤ topV zs ∧ (pxAt (fillL W H zs phase) j).2.1 ≤ topV zs ∧ (pxAt (fillL W H zs phase) j).2.2 ≤ topV zs := by
  rw [fillL_at W H zs phase j hj]
  exact ⟨(partV_upto (topV_at h) _ _ _ _ _ 0).2, (partV_upto (topV_at h) _ _ _ _ _ 1).2, (partV_upto (topV_at h) _ _ _ _ _ 2).2⟩

end Go.Proofs.Ytolcndchfnifhab
