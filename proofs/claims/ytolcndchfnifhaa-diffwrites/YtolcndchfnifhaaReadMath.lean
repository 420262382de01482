/- What Read answers, of planes by differences; and that it undoes Write: plain mathematics. -/
import Derived.Test.YtolcndchfnifhaaDiffMath
import Derived.Test.YtolcndchfnifhaaRefRead
import Derived.Test.YtolcndchfnifhaaDiffWrite
namespace Go.Proofs.Ytolcndchfnifhaa
open Go.RowKit

def readD (s : List UInt8) (W H kind : Int) (xs : List Int) : Option (List Int) :=
  if s.length ≤ (W.toNat * H.toNat * 30 + 7) / 8 then
    (match rdD (bookOf xs) (rowOf s) W.toNat kind (W.toNat * H.toNat) with
     | some (pos, zs) => if fillOk ((rowOf s).drop pos) = true then some zs else none
     | none => none)
  else none
def readDE (s : List UInt8) (W H kind : Int) (xs : List Int) : Int :=
  if sideOk W = true ∧ sideOk H = true then (if kindOk kind = true then (if checkE xs = 0 then (if (readD s W H kind xs).isSome = true then 0 else 1) else checkE xs) else 6) else 3
def readDZ (s : List UInt8) (W H kind : Int) (xs : List Int) : List Int := if readDE s W H kind xs = 0 then (readD s W H kind xs).getD [] else []
def readDW (s : List UInt8) (W H kind : Int) (xs : List Int) : Int := if readDE s W H kind xs = 0 then W else 0
def readDH (s : List UInt8) (W H kind : Int) (xs : List Int) : Int := if readDE s W H kind xs = 0 then H else 0

theorem readD_rn {s : List UInt8} {W H N : Nat} {kind : Int} {xs : List Int} (hN : W * H = N) (h : rdD (bookOf xs) (rowOf s) W kind N = none) : readD s W H kind xs = none := by
  rw [readD, Int.toNat_natCast, Int.toNat_natCast, hN, h]; split <;> rfl
theorem readD_rs {s : List UInt8} {W H N : Nat} {kind : Int} {xs zs : List Int} {pos : Nat} (hN : W * H = N) (hl : s.length ≤ (N * 30 + 7) / 8) (h : rdD (bookOf xs) (rowOf s) W kind N = some (pos, zs)) : readD s W H kind xs = if fillOk ((rowOf s).drop pos) = true then some zs else none := by
  rw [readD, Int.toNat_natCast, Int.toNat_natCast, hN, h, if_pos hl]
theorem nx_front (xs : List Int) (hE : checkE xs = 0) (b : List UInt8) (h : (nextF (bookOf xs) [] b).2.1 = 0) :
    ∃ i : Nat, i < (wordsOf xs).length ∧ (nextF (bookOf xs) [] b).1 = i ∧ (nextF (bookOf xs) [] b).2.2 = ((wordsOf xs).getD i []).length ∧ (wordsOf xs).getD i [] <+: b := by
  obtain ⟨h1, h2, h3⟩ := next_front (wordsOf xs) (words_pf xs hE) (some_word xs hE) b
  have h0 : frE (wordsOf xs) b = 0 := by rw [← h2]; exact h
  obtain ⟨i, hi, hv, hn, hp⟩ := h3 h0
  exact ⟨i, hi, h1.trans hv, hn, hp⟩
theorem nx_cls (xs : List Int) (hE : checkE xs = 0) (b : List UInt8) (h : (nextF (bookOf xs) [] b).2.1 = 0) : ∃ i : Nat, i ≤ 16 ∧ (nextF (bookOf xs) [] b).1 = i := by
  obtain ⟨i, hi, hv, _⟩ := nx_front xs hE b h
  have := (checkE_zero hE).2.1
  rw [wordsOf_length] at hi
  exact ⟨i, by omega, hv⟩

/-- what is read is what is written. -/
theorem readD_some {s : List UInt8} {W H kind : Int} {xs zs : List Int} (hW : sideOk W = true) (hH : sideOk H = true) (hk : kindOk kind = true) (hE : checkE xs = 0) (h : readD s W H kind xs = some zs) :
    planeOk W H zs = true ∧ writeDE W H zs kind xs = 0 ∧ writeDS W H zs kind xs = s := by
  have b1 : 1 ≤ W ∧ W ≤ 64 := by simpa [sideOk] using hW
  have b2 : 1 ≤ H ∧ H ≤ 64 := by simpa [sideOk] using hH
  rw [readD] at h
  split at h
  · split at h
    · rename_i pos ys hr
      split at h
      · rename_i hf
        cases h
        obtain ⟨hl, hs⟩ := rdD_len hr
        have hts : (wordsOf xs).length ≤ 17 := by rw [wordsOf_length]; exact (checkE_zero hE).2.1
        obtain ⟨e1, e2, e3⟩ := rdD_back (wordsOf xs) hts (rowOf s) (rowOf_allB s) W.toNat (by omega) kind (nx_front xs hE) _ _ _ hr
        have hp : planeOk W H zs = true := by
          rw [planeOk, hW, hH, hs]
          simp only [Bool.true_and, Bool.and_true, decide_eq_true_eq]
          rw [hl, Int.natCast_mul, Int.toNat_of_nonneg (by omega), Int.toNat_of_nonneg (by omega)]
        have hd : writeDE W H zs kind xs = 0 := by rw [writeDE, if_pos hp, if_pos hk, if_pos hE, hl, if_pos e3]
        refine ⟨hp, hd, ?_⟩
        rw [writeDS, if_pos hd, hl, ← e2]
        rw [rowOf_length] at e1
        exact (fill_iff s pos e1).2 hf
      · cases h
    · cases h
  · cases h

/-- what is written is read. -/
theorem readD_of {W H kind : Int} {xs zs : List Int} (h : writeDE W H zs kind xs = 0) : readD (writeDS W H zs kind xs) W H kind xs = some zs ∧ sideOk W = true ∧ sideOk H = true ∧ kindOk kind = true ∧ checkE xs = 0 ∧ planeOk W H zs = true := by
  have hS := h
  rw [writeDE] at h
  split at h
  · rename_i hp
    split at h
    · rename_i hk
      split at h
      · rename_i hE
        split at h
        · rename_i hall
          obtain ⟨b1, b2, hl, hs⟩ := planeOk_parts hp
          have hn : zs.length = W.toNat * H.toNat := by
            have : (zs.length : Int) = ((W.toNat * H.toNat : Nat) : Int) := by rw [hl, Int.natCast_mul]; congr 1 <;> omega
            omega
          have hbl := dBits_length xs (checkE_zero hE).2.2.1 zs W.toNat kind zs.length
          have hab := dBits_bits xs zs W.toNat kind zs.length
          refine ⟨?_, by simpa [sideOk] using b1, by simpa [sideOk] using b2, hk, hE, hp⟩
          rw [writeDS, if_pos hS, readD, if_pos (by rw [bytesOf_length, ← hn]; omega), row_bytes _ hab]
          have hr := rdD_of (wordsOf xs) (words_pf xs hE) zs hs W.toNat (by omega) kind hall (List.replicate (8 * (((dBits (wordsOf xs) zs W.toNat kind zs.length).length + 7) / 8) - (dBits (wordsOf xs) zs W.toNat kind zs.length).length) 48) zs.length (Nat.le_refl _)
          rw [← hn]
          show (match rdD (bookF (wordsOf xs) (wordsOf xs).length) _ _ _ _ with | some (pos, zs) => _ | none => none) = _
          rw [hr]
          simp only [List.take_length, List.drop_left]
          rw [if_pos]
          rw [fillOk, hasOne_zeros]
          simp
          omega
        · cases h
      · rename_i hE; exact absurd h hE
    · cases h
  · cases h

theorem readDE_zero {s : List UInt8} {W H kind : Int} {xs : List Int} (h : readDE s W H kind xs = 0) : sideOk W = true ∧ sideOk H = true ∧ kindOk kind = true ∧ checkE xs = 0 ∧ ∃ zs, readD s W H kind xs = some zs ∧ readDZ s W H kind xs = zs ∧ readDW s W H kind xs = W ∧ readDH s W H kind xs = H := by
  have h0 := h
  rw [readDE] at h
  split at h
  · rename_i hs
    split at h
    · rename_i hk
      split at h
      · rename_i hE
        split at h
        · rename_i hi
          obtain ⟨zs, hz⟩ := Option.isSome_iff_exists.1 hi
          exact ⟨hs.1, hs.2, hk, hE, zs, hz, by rw [readDZ, if_pos h0, hz]; rfl, by rw [readDW, if_pos h0], by rw [readDH, if_pos h0]⟩
        · cases h
      · rename_i hE; exact absurd h hE
    · cases h
  · cases h
/-- Read of what Write wrote. -/
theorem read_of_write {W H kind : Int} {xs zs : List Int} (h : writeDE W H zs kind xs = 0) : readDE (writeDS W H zs kind xs) W H kind xs = 0 ∧ readDZ (writeDS W H zs kind xs) W H kind xs = zs ∧ readDW (writeDS W H zs kind xs) W H kind xs = W ∧ readDH (writeDS W H zs kind xs) W H kind xs = H := by
  obtain ⟨h1, h2, h3, h4, h5, _⟩ := readD_of h
  have h0 : readDE (writeDS W H zs kind xs) W H kind xs = 0 := by rw [readDE, if_pos ⟨h2, h3⟩, if_pos h4, if_pos h5, h1]; rfl
  obtain ⟨_, _, _, _, ys, hy, e1, e2, e3⟩ := readDE_zero h0
  rw [h1] at hy
  cases hy
  exact ⟨h0, e1, e2, e3⟩
/-- Write of what Read read. -/
theorem write_of_read {s : List UInt8} {W H kind : Int} {xs : List Int} (h : readDE s W H kind xs = 0) : writeDE W H (readDZ s W H kind xs) kind xs = 0 ∧ writeDS W H (readDZ s W H kind xs) kind xs = s ∧ readDW s W H kind xs = W ∧ readDH s W H kind xs = H := by
  obtain ⟨h1, h2, h3, h4, zs, hz, e1, e2, e3⟩ := readDE_zero h
  rw [e1]
  have := readD_some h1 h2 h3 h4 hz
  exact ⟨this.2.1, this.2.2, e2, e3⟩

end Go.Proofs.Ytolcndchfnifhaa
