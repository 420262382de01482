/- The reference's Packed. -/
import Derived.Test.YtolcndchfnifhaaPack
namespace Go.Proofs.Ytolcndchfnifhaa
open Go.RowKit

/-- 'string(b)' of a slice of the call's own, nil or not. -/
theorem run_string_any {P : Program} {w : World} {base src e dst : TypeId} {v : Value} {l : List UInt8} (hs : P.underlying src = some (.slice e)) (he : P.underlying e = some (.int .u8)) (hd : P.underlying dst = some .string)
    (h : w.ownsRow base e 1 v l.length (byt l)) : (convert src dst v).run P w = .ok (.string (str l)) w := by
  rcases h.2 with ⟨hv, hn⟩ | ⟨g, cap, cur, hv, _⟩
  · rw [hv, run_convert_bytes_nil w src e hs he 0 0 dst hd, List.eq_nil_of_length_eq_zero hn]; rfl
  · subst hv; exact run_string_own hs he hd h

set_option maxRecDepth 100000 in
set_option maxHeartbeats 400000 in
theorem packed_any (v : Value) (xs : List Int) (D : Nat) (hD : D ≤ 16) (hl : xs.length ≤ 4096) (hok : allOk xs D = true) (w : World) (hv : IsInts w v xs) :
    Calls Try.prog 28 #[v, .int .i64 D] w fun e w' => e = .returned (.string (str (bytesOf (packBits xs D)))) ∧ Below w.heap.size w w' := by
  obtain ⟨ao, ca, rfl, hla, hc⟩ := hv
  obtain ⟨i0, hi, hz0, hz1, hz2⟩ := info_parts Try.infoU8
  have HC := hide hc; clear hc
  have HOK := hide hok; clear hok
  go_enter Try.func28, Try.ntmps28
  go_wp2
  go_loopw [5, 6] (fun t i wr => ∃ k : Nat, k ≤ xs.length ∧ i = .int .i64 k ∧ wr.ownsRow w.heap.size 5 1 t (packBits (xs.take k) D).length (byt (packBits (xs.take k) D)) ∧ Below w.heap.size w wr)
    (fun _ i _ => xs.length - (intOf i).toNat)
  case atStart => exact ⟨0, Nat.zero_le _, rfl, World.ownsRow_nil _ _ _ _, Below.refl _ _⟩
  case round =>
    obtain ⟨k, hk, rfl, ho, hb⟩ := hrel
    have hpl : (packBits (xs.take k) D).length ≤ 65536 := by
      rw [packBits_length]
      have h1 : (xs.take k).length ≤ 4096 := by simp; omega
      exact Nat.le_trans (Nat.mul_le_mul h1 (show ((D : Int)).toNat ≤ 16 by omega)) (by decide)
    have hsz := hb.size
    by_cases hlt : k < xs.length
    · obtain ⟨b, off, hao, hbl, hcell⟩ : ∃ b off, ao = some ⟨b, off, none⟩ ∧ b < w.heap.size ∧ ∀ j (h : j < xs.length), w.cell? ⟨b, off + j, none⟩ = some (.int .i64 xs[j]) := by
        rcases HC.out with h | h
        · subst h; exact absurd hlt (by simp)
        · exact h
      subst hao
      obtain ⟨m, hm, hm2⟩ : ∃ m : Nat, xs[k] = m ∧ m < 65536 := by
        have h := List.all_eq_true.1 HOK.out xs[k] (List.getElem_mem hlt)
        rcases numOk_cases xs[k] D with ⟨m, j, h1, h2, h3, h4, _⟩ | ⟨h1, _⟩
        · exact ⟨m, h1, Nat.lt_of_lt_of_le h4 (pow16 h3)⟩
        · rw [h1] at h; cases h
      have c1 := (hb.cell (p := ⟨b, off + k, none⟩) hbl).trans (hcell k hlt)
      clear hcell
      rw [hm] at c1
      have HP := hide (show packBits (xs.take (k + 1)) D = packBits (xs.take k) D ++ numBits m D by
        rw [List.take_succ_eq_append_getElem hlt, packBits_snoc, hm]; simp)
      clear hm
      generalize packBits (xs.take k) D = L at *
      go_wp2_with (first | (go_at_call 22; refine (refNumber_any D m _ hD hm2).mono ?_; rintro e w2 ⟨rfl, hb2⟩; have ho2 := ownsRow_below ho hb2; have hsz2 := hb2.size) | (at_builtin; refine Lib.wpList_append_own_string _ rfl _ _ 79 9 rfl w.heap.size 5 i0 Try.underlying79 Try.underlying9 hi hz0 hz1 hz2 _ _ _ rfl ho2 (str (numBits m D)) rfl (by rw [str_size, numBits_length]; unfold maxLen; omega) (by rw [str_size, numBits_length]; omega) (by omega) ?_; intro v' w3 hown' hgrow _))
      have ho4 : w3.ownsRow w.heap.size 5 1 v' (packBits (xs.take (k + 1)) D).length (byt (packBits (xs.take (k + 1)) D)) := by
        rw [HP.out, byt_append, List.length_append, ← str_data (numBits m D)]
        have hx := hown'
        rw [str_size] at hx
        exact hx
      have hb4 : Below w.heap.size w w3 := (hb.trans (hb2.mono hsz)).grown hgrow (by omega) (fun j hj => (ho2.lt j hj).1)
      clear hown' hgrow ho2 hb2
      go_roundw
      case rel => exact ⟨k + 1, by omega, by go_num, ho4, hb4⟩
      case measure => simp [intOf]; omega
    · have HX : xs.take k = xs := List.take_of_length_le (by omega)
      rw [HX] at ho hpl
      clear HX
      have hcv := run_string_any (dst := 9) Try.underlying79 Try.underlying5 Try.underlying9 ho
      go_wp2_with (go_at_call 17; refine (refBytes_any _ (by rw [str_size]; omega) _).mono ?_; rintro e w3 ⟨rfl, hb3⟩)
      go_ret
      exact ⟨rfl, hb.trans (hb3.mono hsz)⟩

end Go.Proofs.Ytolcndchfnifhaa
