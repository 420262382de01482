/- bits.Pack, and the reference's PackError and Packed. -/
import Derived.Test.YtolcndchfnifhaaBytes
import Derived.Test.YtolcndchfnifhaaRow
import Derived.Test.YtolcndchfnifhaaRefNumber
import Derived.Test.YtolcndchfnifhaaInts
namespace Go.Proofs.Ytolcndchfnifhaa
open Go.RowKit

theorem isBuilder_below {T e : TypeId} {B b : Nat} {bs : List Value} {w w' : World} (h : Lib.IsBuilder T e B b bs w) (hb : Below w.heap.size w w') (_ : B ≤ w.heap.size) : Lib.IsBuilder T e B b bs w' := by
  have key : ∀ p, Lib.BuilderAt T e B b p bs w → Lib.BuilderAt T e B b p bs w' := by
    intro p h
    have hlt := h.lt
    obtain ⟨hB, v, hbk, hown, hne⟩ := h
    refine ⟨hB, v, by rw [hb.block b hlt]; exact hbk, ?_, hne⟩
    refine ⟨hown.1, ?_⟩
    rcases hown.2 with h | ⟨g, cap, cur, hv, hg, hh, r⟩
    · exact .inl h
    · exact .inr ⟨g, cap, cur, hv, hg, by rw [hb.block g (Array.getElem?_eq_some_iff.1 hh).1]; exact hh, r⟩
  rcases h with h | h
  · exact .inl (key _ h)
  · exact .inr (key _ h)

set_option maxRecDepth 100000 in
set_option maxHeartbeats 400000 in
theorem pack_any (v : Value) (xs : List Int) (d : Int) (w : World) (hv : IsInts w v xs) :
    Calls Try.prog 26 #[v, .int .i64 d] w fun e w' => e = .returned (.tuple #[.string (str (packS xs d)), .int .i64 (packE xs d)]) ∧ Below w.heap.size w w' := by
  obtain ⟨ao, ca, rfl, hla, hc⟩ := hv
  by_cases hd : isDepthB d = true
  · by_cases hl : xs.length ≤ 4096
    · have hd16 : 1 ≤ d ∧ d ≤ 16 := by simpa [isDepthB] using hd
      obtain ⟨hd1, hd2⟩ := hd16
      have HC := hide hc; clear hc
      have hl2 : decide (4096 < (xs.length : Int)) = false := by simp; omega
      have HD := hide hd
      go_enter Try.func26, Try.ntmps26
      go_wp2_with (go_at_call 65; refine (isDepth_any _ _).mono ?_; rintro e w1 ⟨rfl, rfl⟩)
      clear hd
      go_loopw [19] (fun i wr => ∃ k : Nat, k ≤ xs.length ∧ i = .int .i64 k ∧ Hid (allOk (xs.take k) d = true) ∧ Lib.IsBuilder 84 5 w.heap.size w.heap.size (byt (packBits (xs.take k) d)) wr ∧ Below w.heap.size w wr)
        (fun i _ => xs.length - (intOf i).toNat)
      case atStart => exact ⟨0, Nat.zero_le _, rfl, rfl, Lib.fresh_isBuilder _ _ w, (Below.refl _ _).alloc (Nat.le_refl _) _⟩
      case round =>
        obtain ⟨k, hk, rfl, HA, hbd, hb⟩ := hrel
        have hpl : (packBits (xs.take k) d).length ≤ 65536 := by
          rw [packBits_length]
          have h1 : (xs.take k).length ≤ 4096 := by simp; omega
          have h2 : d.toNat ≤ 16 := by omega
          exact Nat.le_trans (Nat.mul_le_mul h1 h2) (by decide)
        have hsz := hb.size
        by_cases hlt : k < xs.length
        · obtain ⟨b, off, hao, hbl, hcell⟩ : ∃ b off, ao = some ⟨b, off, none⟩ ∧ b < w.heap.size ∧ ∀ j (h : j < xs.length), w.cell? ⟨b, off + j, none⟩ = some (.int .i64 xs[j]) := by
            rcases HC.out with h | h
            · subst h; exact absurd hlt (by simp)
            · exact h
          subst hao
          have c1 := (hb.cell (p := ⟨b, off + k, none⟩) hbl).trans (hcell k hlt)
          clear hcell
          have HT := hide (show xs.take (k + 1) = xs.take k ++ [xs[k]] from List.take_succ_eq_append_getElem hlt)
          by_cases hok : numOk xs[k] d = true
          · have hE : numE xs[k] d = 0 := if_pos hok
            have HS := hide (show (numS xs[k] d).data.toList = numBits xs[k].toNat d.toNat by rw [numS, if_pos hok, str_data])
            have hS2 : (numS xs[k] d).size ≤ 16 := by rw [numS, if_pos hok, str_size, numBits_length]; omega
            have HO := hide (show allOk (xs.take (k + 1)) d = true by rw [HT.out, allOk_snoc, HA.out, hok]; rfl)
            have HP := hide (show packBits (xs.take (k + 1)) d = packBits (xs.take k) d ++ numBits xs[k].toNat d.toNat by rw [HT.out, packBits_snoc])
            clear hok
            go_wp2_with (first | (go_at_call 20; refine (number_any _ _ _).mono ?_; rintro e w2 ⟨rfl, hb2⟩; have hbd2 := isBuilder_below hbd hb2 hsz; have hsz2 := hb2.size) | (go_at_call 66; refine (writeString_any w.heap.size w.heap.size _ _ _ hbd2 (by omega) (by omega)).mono ?_; rintro e w3 ⟨rfl, hbd3, hb3⟩))
            go_roundw
            case rel => exact ⟨k + 1, by omega, by go_num, HO, by rw [HP.out, ← HS.out]; exact hbd3, (hb.trans (hb2.mono hsz)).trans hb3⟩
            case measure => simp [intOf]; omega
          · have hok : numOk xs[k] d = false := by simpa using hok
            have hE : numE xs[k] d = 3 := if_neg (by simp [hok])
            have HE : Hid (packE xs d = 3) := by show _ = _; rw [packE, if_pos HD.out, if_pos hl, allOk_false xs d k hlt hok]; rfl
            have HS : Hid (packS xs d = []) := by show _ = _; rw [packS, HE.out, if_neg (by decide)]
            clear hok
            go_wp2_with (go_at_call 20; refine (number_any _ _ _).mono ?_; rintro e w2 ⟨rfl, hb2⟩)
            go_ret2
            rw [HE.out, HS.out]
            exact ⟨rfl, hb.trans (hb2.mono hsz)⟩
        · have hkl : k = xs.length := by omega
          have HX := hide (show xs.take k = xs from List.take_of_length_le (by omega))
          have HE : Hid (packE xs d = 0) := by show _ = _; rw [packE, if_pos HD.out, if_pos hl, ← HX.out, HA.out]; rfl
          have HS : Hid (packS xs d = bytesOf (packBits xs d)) := by show _ = _; rw [packS, HE.out, if_pos rfl]
          rw [HX.out] at hbd hpl
          clear hkl
          go_wp2_with (first | (go_at_call 64; refine (string_any w.heap.size w.heap.size _ _ hbd hsz).mono ?_; rintro e w2 ⟨rfl, hb2⟩; have hsz2 := hb2.size) | (go_at_call 15; refine (bytes_ok _ (by rw [str_size]; omega) (packBits_allB xs d) _).mono ?_; rintro e w3 ⟨rfl, hb3⟩))
          go_ret2
          rw [HE.out, HS.out]
          exact ⟨rfl, (hb.trans hb2).trans (hb3.mono (by omega))⟩

    · have HE : Hid (packE xs d = 2) := by show _ = _; rw [packE, if_pos hd, if_neg hl]
      have HS : Hid (packS xs d = []) := by show _ = _; rw [packS, HE.out, if_neg (by decide)]
      clear hc
      go_enter Try.func26, Try.ntmps26
      go_wp2_with (go_at_call 65; refine (isDepth_any _ _).mono ?_; rintro e w1 ⟨rfl, rfl⟩)
      go_ret2
      rw [HE.out, HS.out]
      exact ⟨rfl, Below.refl _ _⟩
  · have HE : Hid (packE xs d = 3) := by show _ = _; rw [packE, if_neg hd]
    have HS : Hid (packS xs d = []) := by show _ = _; rw [packS, HE.out, if_neg (by decide)]
    have hd : isDepthB d = false := by simpa using hd
    clear hc
    go_enter Try.func26, Try.ntmps26
    go_wp2_with (go_at_call 65; refine (isDepth_any _ _).mono ?_; rintro e w1 ⟨rfl, rfl⟩)
    go_ret2
    rw [HE.out, HS.out]
    exact ⟨rfl, Below.refl _ _⟩


theorem within_q (n a b : Int) (w : World) :
    Calls Try.prog 61 #[.int .i64 n, .int .i64 a, .int .i64 b] w fun e w' => e = .returned (.bool (decide (a ≤ n ∧ n ≤ b))) ∧ w' = w :=
  (within_any n a b w).mono fun _ _ h => ⟨h.1, h.2.symm⟩

theorem ok_iff (n : Int) (D p : Nat) (h : D ≤ 16) (hp : p = 2 ^ ((D : Int)).toNat) : numOk n D = true ↔ 0 ≤ n ∧ n ≤ (p : Int) - 1 := by
  simp only [numOk, decide_eq_true_eq]
  rw [pow_cast, ← hp]
  omega
theorem bel_drewN {B : Nat} {a w : World} (h : Below B a w) (n : Nat) : Below B a (w.drewN n) := ⟨h.os, h.tape, h.output, h.size, h.block⟩

theorem depth_wrap (d : Int) (h1 : 1 ≤ d) (h2 : d ≤ 16) : ∃ p : Nat, p = 2 ^ d.toNat ∧ p ≤ 65536 ∧ ∃ D : Nat, d = D ∧ wrap64 ((2 : Int) ^ D) = p := by
  refine ⟨_, rfl, pow16 (by omega), d.toNat, by omega, wrap_pow (by omega)⟩

set_option maxRecDepth 100000 in
set_option maxHeartbeats 400000 in
theorem packError_any (v : Value) (xs : List Int) (d : Int) (w : World) (hv : IsInts w v xs) :
    Calls Try.prog 27 #[v, .int .i64 d] w fun e w' => e = .returned (.int .i64 (packE xs d)) ∧ Below w.heap.size w w' := by
  obtain ⟨ao, ca, rfl, hla, hc⟩ := hv
  by_cases hd : isDepthB d = true
  · by_cases hl : xs.length ≤ 4096
    · have hd16 : 1 ≤ d ∧ d ≤ 16 := by simpa [isDepthB] using hd
      obtain ⟨hd1, hd2⟩ := hd16
      have HC := hide hc; clear hc
      have hl2 : decide (4096 < (xs.length : Int)) = false := by simp; omega
      have hw1 : decide (1 ≤ d ∧ d ≤ 16) = true := hd
      have HD := hide hd
      clear hd
      obtain ⟨p, hp, hp16, D, rfl, hw⟩ := depth_wrap d hd1 hd2
      have HP := hide hp; clear hp
      go_enter Try.func27, Try.ntmps27
      go_wp2_with (go_at_call 61; refine (within_any _ _ _ _).mono ?_; rintro e w1 ⟨rfl, rfl⟩)
      go_loopw [5] (fun i wr => ∃ k : Nat, k ≤ xs.length ∧ i = .int .i64 k ∧ Hid (allOk (xs.take k) D = true) ∧ Below w.heap.size w wr)
        (fun i _ => xs.length - (intOf i).toNat)
      case atStart => exact ⟨0, Nat.zero_le _, rfl, rfl, Below.refl _ _⟩
      case round =>
        obtain ⟨k, hk, rfl, HA, hb⟩ := hrel
        by_cases hlt : k < xs.length
        · obtain ⟨b, off, hao, hbl, hcell⟩ : ∃ b off, ao = some ⟨b, off, none⟩ ∧ b < w.heap.size ∧ ∀ j (h : j < xs.length), w.cell? ⟨b, off + j, none⟩ = some (.int .i64 xs[j]) := by
            rcases HC.out with h | h
            · subst h; exact absurd hlt (by simp)
            · exact h
          subst hao
          have c1 := (hb.cell (p := ⟨b, off + k, none⟩) hbl).trans (hcell k hlt)
          clear hcell
          have HT := hide (show xs.take (k + 1) = xs.take k ++ [xs[k]] from List.take_succ_eq_append_getElem hlt)
          have HK := hide (ok_iff xs[k] D p (by omega) HP.out)
          by_cases h1 : 0 ≤ xs[k]
          · by_cases h2 : xs[k] ≤ (p : Int) - 1
            · have hq : decide (xs[k] ≤ (p : Int) - 1) = true := by simpa using h2
              have HO := hide (show allOk (xs.take (k + 1)) D = true by rw [HT.out, allOk_snoc, HA.out, HK.out.2 ⟨h1, h2⟩]; rfl)
              go_wp2
              go_quiet ((go_at_call 61; exact Calls.quiet_of_same (within_q _ _ _ _)))
              go_wp2
              go_roundw
              case rel => exact ⟨k + 1, by omega, by go_num, HO, bel_drewN hb _⟩
              case measure => simp [intOf]; omega
            · have hq : decide (xs[k] ≤ (p : Int) - 1) = false := by simpa using h2
              have HE : Hid (packE xs D = 3) := by show _ = _; rw [packE, if_pos HD.out, if_pos hl, allOk_false xs D k hlt (by rw [Bool.eq_false_iff]; exact fun h => h2 (HK.out.1 h).2)]; rfl
              go_wp2
              go_quiet ((go_at_call 61; exact Calls.quiet_of_same (within_q _ _ _ _)))
              go_wp2
              go_ret
              rw [HE.out]
              exact ⟨rfl, bel_drewN hb _⟩
          · have hq : decide (0 ≤ xs[k]) = false := by simpa using h1
            have HE : Hid (packE xs D = 3) := by show _ = _; rw [packE, if_pos HD.out, if_pos hl, allOk_false xs D k hlt (by rw [Bool.eq_false_iff]; exact fun h => h1 (HK.out.1 h).1)]; rfl
            go_wp2
            go_quiet ((go_at_call 61; exact Calls.quiet_of_same (within_q _ _ _ _)))
            go_wp2
            go_ret
            rw [HE.out]
            exact ⟨rfl, bel_drewN hb _⟩
        · have HX := hide (show xs.take k = xs from List.take_of_length_le (by omega))
          have HE : Hid (packE xs D = 0) := by show _ = _; rw [packE, if_pos HD.out, if_pos hl, ← HX.out, HA.out]; rfl
          go_wp2
          go_ret
          rw [HE.out]
          exact ⟨rfl, hb⟩
    · have HE : Hid (packE xs d = 2) := by show _ = _; rw [packE, if_pos hd, if_neg hl]
      have hw1 : decide (1 ≤ d ∧ d ≤ 16) = true := hd
      clear hc
      go_enter Try.func27, Try.ntmps27
      go_wp2_with (go_at_call 61; refine (within_any _ _ _ _).mono ?_; rintro e w1 ⟨rfl, rfl⟩)
      go_ret
      rw [HE.out]
      exact ⟨rfl, Below.refl _ _⟩
  · have HE : Hid (packE xs d = 3) := by show _ = _; rw [packE, if_neg hd]
    have hw1 : decide (1 ≤ d ∧ d ≤ 16) = false := by simpa [isDepthB] using hd
    clear hc
    go_enter Try.func27, Try.ntmps27
    go_wp2_with (go_at_call 61; refine (within_any _ _ _ _).mono ?_; rintro e w1 ⟨rfl, rfl⟩)
    go_ret
    rw [HE.out]
    exact ⟨rfl, Below.refl _ _⟩

end Go.Proofs.Ytolcndchfnifhaa
