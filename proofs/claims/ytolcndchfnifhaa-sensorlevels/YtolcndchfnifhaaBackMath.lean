/- Pack and Unpack undo each other: plain mathematics. -/
import Derived.Test.YtolcndchfnifhaaUnpackMath
namespace Go.Proofs.Ytolcndchfnifhaa
open Go.RowKit

theorem valOf_numBits (n k : Nat) (h : n < 2 ^ k) : valOf (numBits n k) = n := by
  induction k generalizing n with
  | zero => rw [numBits]; simp at h; rw [h]; rfl
  | succ k ih =>
    rw [Nat.pow_succ] at h
    have h2 : n % 2 < 2 := Nat.mod_lt _ (by decide)
    rw [numBits, valOf_snoc, ih (n / 2) (by omega), UInt8.toNat_ofNat']
    omega

theorem vals_pack (d : Int) (r : List UInt8) (xs : List Int) (hok : allOk xs d = true) : vals (packBits xs d ++ r) d.toNat xs.length = xs := by
  refine snoc_ind (P := fun xs => ∀ r, allOk xs d = true → vals (packBits xs d ++ r) d.toNat xs.length = xs) ?_ ?_ xs r hok
  · intro r _; rfl
  · intro xs x ih r h
    rw [allOk_snoc, Bool.and_eq_true] at h
    rw [packBits_snoc, List.append_assoc, List.length_append, List.length_singleton, vals_succ, ih _ h.1]
    have hl : (packBits xs d).length = xs.length * d.toNat := packBits_length xs d
    rw [List.drop_append_of_le_length (by omega), List.drop_of_length_le (by omega), List.nil_append, List.take_append_of_le_length (by rw [numBits_length]; exact Nat.le_refl _), List.take_of_length_le (by rw [numBits_length]; exact Nat.le_refl _)]
    rcases numOk_cases x d with ⟨m, k, rfl, rfl, h1, h2, _⟩ | ⟨h1, _⟩
    · rw [Int.toNat_natCast, Int.toNat_natCast, valOf_numBits m k h2]
    · rw [h1] at h; cases h.2

theorem packE_zero {xs : List Int} {d : Int} (h : packE xs d = 0) : isDepthB d = true ∧ xs.length ≤ 4096 ∧ allOk xs d = true := by
  unfold packE at h
  by_cases h1 : isDepthB d = true
  · rw [if_pos h1] at h
    by_cases h2 : xs.length ≤ 4096
    · rw [if_pos h2] at h
      by_cases h3 : allOk xs d = true
      · exact ⟨h1, h2, h3⟩
      · rw [if_neg h3] at h; exact absurd h (by decide)
    · rw [if_neg h2] at h; exact absurd h (by decide)
  · rw [if_neg h1] at h; exact absurd h (by decide)
theorem packE_of {xs : List Int} {d : Int} (h1 : isDepthB d = true) (h2 : xs.length ≤ 4096) (h3 : allOk xs d = true) : packE xs d = 0 := by
  rw [packE, if_pos h1, if_pos h2, if_pos h3]

/-- what Unpack answers: the list, the error. -/
def unpFine (s : List UInt8) (d n : Int) : Bool := decide (isDepthB d = true ∧ 0 ≤ n ∧ n ≤ 4096 ∧ s.length = (n.toNat * d.toNat + 7) / 8 ∧ hasOne ((rowOf s).drop (n.toNat * d.toNat)) = false)
def unpV (s : List UInt8) (d n : Int) : List Int := if unpFine s d n = true then vals (rowOf s) d.toNat n.toNat else []
def unpE (s : List UInt8) (d n : Int) : Int :=
  if isDepthB d = true ∧ 0 ≤ n then (if n ≤ 4096 then (if unpFine s d n = true then 0 else 1) else 2) else 3

theorem unpE_zero {s : List UInt8} {d n : Int} (h : unpE s d n = 0) : unpFine s d n = true := by
  unfold unpE at h
  by_cases h1 : isDepthB d = true ∧ 0 ≤ n
  · rw [if_pos h1] at h
    by_cases h2 : n ≤ 4096
    · rw [if_pos h2] at h
      by_cases h3 : unpFine s d n = true
      · exact h3
      · rw [if_neg h3] at h; exact absurd h (by decide)
    · rw [if_neg h2] at h; exact absurd h (by decide)
  · rw [if_neg h1] at h; exact absurd h (by decide)

theorem unpack_of_pack {xs : List Int} {d : Int} (h : packE xs d = 0) : unpE (packS xs d) d xs.length = 0 ∧ unpV (packS xs d) d xs.length = xs := by
  obtain ⟨h1, h2, h3⟩ := packE_zero h
  have hS : packS xs d = bytesOf (packBits xs d) := by rw [packS, if_pos h]
  have hb := packBits_allB xs d
  have hl := packBits_length xs d
  have hr := row_bytes (packBits xs d) hb
  have hf : unpFine (packS xs d) d xs.length = true := by
    simp only [unpFine, decide_eq_true_eq]
    refine ⟨h1, by omega, by omega, ?_, ?_⟩
    · rw [hS, bytesOf_length, hl, Int.toNat_natCast]
    · rw [hS, hr, Int.toNat_natCast, List.drop_append_of_le_length (by omega), List.drop_of_length_le (by omega), List.nil_append]
      exact hasOne_zeros _
  refine ⟨?_, ?_⟩
  · rw [unpE, if_pos ⟨h1, by omega⟩, if_pos (by omega), if_pos hf]
  · rw [unpV, if_pos hf, hS, hr, Int.toNat_natCast]
    exact vals_pack d _ xs h3

theorem pack_of_unpack {s : List UInt8} {d n : Int} (h : unpE s d n = 0) : packE (unpV s d n) d = 0 ∧ packS (unpV s d n) d = s ∧ (((unpV s d n).length : Nat) : Int) = n := by
  have hf := unpE_zero h
  have hf' := hf
  simp only [unpFine, decide_eq_true_eq] at hf'
  obtain ⟨h1, h2, h3, h4, h5⟩ := hf'
  have hd16 : 1 ≤ d ∧ d ≤ 16 := by simpa [isDepthB] using h1
  have hV : unpV s d n = vals (rowOf s) d.toNat n.toNat := by rw [unpV, if_pos hf]
  have hle : n.toNat * d.toNat ≤ (rowOf s).length := by rw [rowOf_length]; omega
  have hok := vals_ok (rowOf s) d.toNat n.toNat (by omega) (rowOf_allB s) hle
  have hdd : ((d.toNat : Nat) : Int) = d := by omega
  rw [hdd] at hok
  have hE : packE (unpV s d n) d = 0 := by
    rw [hV]
    exact packE_of h1 (by rw [vals_length]; omega) hok
  refine ⟨hE, ?_, ?_⟩
  · rw [packS, if_pos hE, hV]
    have := pack_vals (rowOf s) d.toNat n.toNat (rowOf_allB s) hle
    rw [hdd] at this
    rw [this]
    exact (packed_iff s n.toNat d.toNat h4).2 h5
  · rw [hV, vals_length]; omega

end Go.Proofs.Ytolcndchfnifhaa
