/- diff: tail, Guess. -/
import Derived.Test.YtolcndchfnifhaaGuess
import Derived.Test.YtolcndchfnifhaaWords
namespace Go.Proofs.Ytolcndchfnifhaa
open Go.RowKit

set_option maxRecDepth 100000 in
set_option maxHeartbeats 400000 in
theorem tail_any (d : Int) (h0 : -32768 < d) (h1 : d ≤ 32768) (C : Nat) (hC : C = cls d) (w : World) :
    Calls Try.prog 86 #[.int .i64 d, .int .i64 C] w fun e w' => e = .returned (.string (str (tailB d))) ∧ Below w.heap.size w w' := by
  have hcl := cls_le h0 h1
  rw [← hC] at hcl
  by_cases hz : C = 0
  · have HE := hide (show ⟨#[]⟩ = str (tailB d) by rw [tailB, if_pos (.inl (hC ▸ hz))]; rfl)
    clear hC
    subst hz
    go_enter Try.func86, Try.ntmps86
    go_wp2
    go_ret
    exact ⟨congrArg (fun x => Ending.returned (.string x)) HE.out, Below.refl _ _⟩
  by_cases ht : C = 16
  · have HE := hide (show ⟨#[]⟩ = str (tailB d) by rw [tailB, if_pos (.inr (hC ▸ ht))]; rfl)
    clear hC
    subst ht
    go_enter Try.func86, Try.ntmps86
    go_wp2
    go_ret
    exact ⟨congrArg (fun x => Ending.returned (.string x)) HE.out, Below.refl _ _⟩
  have HE := hide (show str (numBits (tailN d) C) = str (tailB d) by rw [tailB, if_neg (by omega), ← hC])
  obtain ⟨hlt, hN⟩ := tailN_lt d (by omega)
  rw [← hC] at hlt hN
  have HLT := hide hlt
  have hw := wrap_pow (n := C) (by omega)
  have hp := pow16 (n := C) (by omega)
  rw [pow_cast] at hN
  have hb0 : ((C : Int) == 0) = false := by simp; omega
  have hb16 : ((C : Int) == 16) = false := by simp; omega
  clear hC hlt
  generalize tailN d = N at *
  by_cases hneg : d < 0
  · have hd : decide (d < 0) = true := by simpa using hneg
    rw [if_pos hneg] at hN
    obtain ⟨p, hpe⟩ : ∃ p : Nat, 2 ^ C = p := ⟨_, rfl⟩
    rw [hpe] at hN hp hw
    have HPE := hide hpe
    go_enter Try.func86, Try.ntmps86
    go_wp2_with fail
    refine (number_int _ _ N C (by rw [hN]) rfl (by omega) HLT.out _).mono ?_
    rintro e w1 ⟨rfl, hb1⟩
    go_wp2
    go_ret
    exact ⟨congrArg (fun x => Ending.returned (.string x)) HE.out, hb1⟩
  · have hd : decide (d < 0) = false := by simpa using hneg
    rw [if_neg hneg] at hN
    clear hw hp
    go_enter Try.func86, Try.ntmps86
    go_wp2_with fail
    refine (number_int _ _ N C (by rw [hN]) rfl (by omega) HLT.out _).mono ?_
    rintro e w1 ⟨rfl, hb1⟩
    go_wp2
    go_ret
    exact ⟨congrArg (fun x => Ending.returned (.string x)) HE.out, hb1⟩

/-- what Guess answers. -/
def placeOk (W H x y : Int) : Bool := decide (0 ≤ x ∧ x < W ∧ 0 ≤ y ∧ y < H)
def guessE (W H : Int) (zs : List Int) (kind x y : Int) : Int := if planeOk W H zs = true then (if kindOk kind = true then (if placeOk W H x y = true then 0 else 3) else 6) else 1
def guessV (W H : Int) (zs : List Int) (kind x y : Int) : Int := if guessE W H zs kind x y = 0 then gAt zs W.toNat kind (y.toNat * W.toNat + x.toNat) else 0

set_option maxRecDepth 100000 in
set_option maxHeartbeats 800000 in
theorem guessP_any (W H : Int) (v : Value) (zs : List Int) (kind x y : Int) (w : World) (hv : IsInts w v zs) :
    Calls Try.prog 43 #[.agg #[.int .i64 W, .int .i64 H, v], .int .i64 kind, .int .i64 x, .int .i64 y] w fun e w' => e = .returned (.tuple #[.int .i64 (guessV W H zs kind x y), .int .i64 (guessE W H zs kind x y)]) ∧ Below w.heap.size w w' := by
  have HV := hide hv
  obtain ⟨ao, ca, rfl, _, _⟩ := hv
  by_cases hp : planeOk W H zs = true
  · by_cases hk : kindOk kind = true
    · by_cases hx : placeOk W H x y = true
      · have HE := hide (show guessE W H zs kind x y = 0 by rw [guessE, if_pos hp, if_pos hk, if_pos hx])
        have HG := hide (show guessV W H zs kind x y = gAt zs W.toNat kind (y.toNat * W.toNat + x.toNat) by rw [guessV, if_pos HE.out])
        obtain ⟨⟨b1, b2⟩, ⟨b3, b4⟩, b5, b6⟩ := planeOk_parts hp
        obtain ⟨q1, q2, q3, q4⟩ : 0 ≤ x ∧ x < W ∧ 0 ≤ y ∧ y < H := by simpa [placeOk] using hx
        obtain ⟨X, rfl⟩ := Int.eq_ofNat_of_zero_le q1
        obtain ⟨Y, rfl⟩ := Int.eq_ofNat_of_zero_le q3
        obtain ⟨WN, rfl⟩ := Int.eq_ofNat_of_zero_le (show 0 ≤ W by omega)
        obtain ⟨HN, rfl⟩ := Int.eq_ofNat_of_zero_le (show 0 ≤ H by omega)
        have hlen : zs.length = WN * HN := by exact_mod_cast b5
        have hmul : Y * WN + X < zs.length := by
          have h1 : (Y + 1) * WN ≤ HN * WN := Nat.mul_le_mul_right _ (by omega)
          rw [Nat.succ_mul] at h1
          rw [hlen, Nat.mul_comm WN HN]; omega
        have h4096 : zs.length ≤ 4096 := by rw [hlen]; exact Nat.le_trans (Nat.mul_le_mul (show WN ≤ 64 by omega) (show HN ≤ 64 by omega)) (by decide)
        obtain ⟨m1, m2⟩ := place_of (W := WN) (X := X) (Y := Y) (by omega)
        have hxd : decide ((X : Int) < 0) = false := by simp
        have hyd : decide ((Y : Int) < 0) = false := by simp
        have hxw : decide ((WN : Int) ≤ (X : Int)) = false := by simp; omega
        have hyh : decide ((HN : Int) ≤ (Y : Int)) = false := by simp; omega
        simp only [Int.toNat_natCast] at HG
        have HM := hide hmul
        have HL := hide h4096
        have HS := hide b6
        have HM1 := hide m1.symm
        have HM2 := hide m2.symm
        clear hmul h4096 b6 m1 m2 hlen b5 hx
        go_enter Try.func43, Try.ntmps43
        go_wp2_with fail
        refine (plane_any _ _ _ zs _ (HV.out.alloc _)).mono ?_
        rintro e w1 ⟨rfl, hb1⟩
        rw [hp]
        obtain ⟨c0, c1, c2⟩ := pl3 hb1
        go_wp2_with (go_at_call 78; refine (isKind_any _ _).mono ?_; rintro e w2 ⟨rfl, rfl⟩; rw [hk])
        refine (guess_any _ zs WN X Y _ kind _ _ ((HV.out.alloc _).below hb1 (Nat.le_refl _)) (by omega) (by omega) HM.out HL.out HS.out HM1.out HM2.out).mono ?_
        rintro e w3 ⟨rfl, hb3⟩
        go_wp2
        go_ret2
        rw [HE.out, HG.out]
        exact ⟨rfl, bel_trans (bel_trans (bel_alloc _ _) hb1) hb3⟩
      · have HE := hide (show guessE W H zs kind x y = 3 by rw [guessE, if_pos hp, if_pos hk, if_neg hx])
        have HG := hide (show guessV W H zs kind x y = 0 by rw [guessV, HE.out]; rfl)
        have hx : ¬ (0 ≤ x ∧ x < W ∧ 0 ≤ y ∧ y < H) := by simpa [placeOk] using hx
        by_cases t1 : x < 0
        · go_enter Try.func43, Try.ntmps43
          go_wp2_with fail
          refine (plane_any _ _ _ zs _ (HV.out.alloc _)).mono ?_
          rintro e w1 ⟨rfl, hb1⟩
          rw [hp]
          obtain ⟨c0, c1, c2⟩ := pl3 hb1
          go_wp2_with (go_at_call 78; refine (isKind_any _ _).mono ?_; rintro e w2 ⟨rfl, rfl⟩; rw [hk])
          go_ret2
          rw [HE.out, HG.out]
          exact ⟨rfl, bel_trans (bel_alloc _ _) hb1⟩
        by_cases t2 : W ≤ x
        · go_enter Try.func43, Try.ntmps43
          go_wp2_with fail
          refine (plane_any _ _ _ zs _ (HV.out.alloc _)).mono ?_
          rintro e w1 ⟨rfl, hb1⟩
          rw [hp]
          obtain ⟨c0, c1, c2⟩ := pl3 hb1
          go_wp2_with (go_at_call 78; refine (isKind_any _ _).mono ?_; rintro e w2 ⟨rfl, rfl⟩; rw [hk])
          go_ret2
          rw [HE.out, HG.out]
          exact ⟨rfl, bel_trans (bel_alloc _ _) hb1⟩
        by_cases t3 : y < 0
        · go_enter Try.func43, Try.ntmps43
          go_wp2_with fail
          refine (plane_any _ _ _ zs _ (HV.out.alloc _)).mono ?_
          rintro e w1 ⟨rfl, hb1⟩
          rw [hp]
          obtain ⟨c0, c1, c2⟩ := pl3 hb1
          go_wp2_with (go_at_call 78; refine (isKind_any _ _).mono ?_; rintro e w2 ⟨rfl, rfl⟩; rw [hk])
          go_ret2
          rw [HE.out, HG.out]
          exact ⟨rfl, bel_trans (bel_alloc _ _) hb1⟩
        have t4 : H ≤ y := by omega
        go_enter Try.func43, Try.ntmps43
        go_wp2_with fail
        refine (plane_any _ _ _ zs _ (HV.out.alloc _)).mono ?_
        rintro e w1 ⟨rfl, hb1⟩
        rw [hp]
        obtain ⟨c0, c1, c2⟩ := pl3 hb1
        go_wp2_with (go_at_call 78; refine (isKind_any _ _).mono ?_; rintro e w2 ⟨rfl, rfl⟩; rw [hk])
        go_ret2
        rw [HE.out, HG.out]
        exact ⟨rfl, bel_trans (bel_alloc _ _) hb1⟩
    · have HE := hide (show guessE W H zs kind x y = 6 by rw [guessE, if_pos hp, if_neg hk])
      have HG := hide (show guessV W H zs kind x y = 0 by rw [guessV, HE.out]; rfl)
      have hk : kindOk kind = false := by simpa using hk
      go_enter Try.func43, Try.ntmps43
      go_wp2_with fail
      refine (plane_any _ _ _ zs _ (HV.out.alloc _)).mono ?_
      rintro e w1 ⟨rfl, hb1⟩
      rw [hp]
      go_wp2_with (go_at_call 78; refine (isKind_any _ _).mono ?_; rintro e w2 ⟨rfl, rfl⟩; rw [hk])
      go_ret2
      rw [HE.out, HG.out]
      exact ⟨rfl, bel_trans (bel_alloc _ _) hb1⟩
  · have HE := hide (show guessE W H zs kind x y = 1 by rw [guessE, if_neg hp])
    have HG := hide (show guessV W H zs kind x y = 0 by rw [guessV, HE.out]; rfl)
    have hp : planeOk W H zs = false := by simpa using hp
    go_enter Try.func43, Try.ntmps43
    go_wp2_with fail
    refine (plane_any _ _ _ zs _ (HV.out.alloc _)).mono ?_
    rintro e w1 ⟨rfl, hb1⟩
    rw [hp]
    go_wp2
    go_ret2
    rw [HE.out, HG.out]
    exact ⟨rfl, bel_trans (bel_alloc _ _) hb1⟩

end Go.Proofs.Ytolcndchfnifhaa
