/- darkslidelaw.DiffGuesses, DiffWrites, DiffBack: the walks. -/
import Derived.Test.YtolcndchfnifhaaDiffBegun
import Derived.Test.YtolcndchfnifhaaRefWrite
namespace Go.Proofs.Ytolcndchfnifhaa
open Go.RowKit

set_option maxRecDepth 100000 in
set_option maxHeartbeats 800000 in
theorem diffWrites_walk (W H : Int) (vp : Value) (zs : List Int) (kind : Int) (vc : Value) (xs : List Int) (w : World) (hvp : IsInts w vp zs) (hvc : IsInts w vc xs) :
    Calls Try.prog 10 #[.agg #[.int .i64 W, .int .i64 H, vp], .int .i64 kind, vc] w fun e w' => e = .returned (.bool true) ∧ Below w.heap.size w w' := by
  have HP := hide (hvp.alloc (Obj.cells #[.int .i64 W, .int .i64 H, vp] 57))
  have HC := hide (hvc.alloc (Obj.cells #[.int .i64 W, .int .i64 H, vp] 57))
  clear hvc
  obtain ⟨po, pc, rfl, _, _⟩ := hvp
  go_enter Try.func10, Try.ntmps10
  go_wp2_with fail
  refine (writeD_any _ _ _ _ _ _ _ _ HP.out HC.out).mono ?_
  rintro e w1 ⟨rfl, hb1⟩
  obtain ⟨c0, c1, c2⟩ := pl3 hb1
  go_wp2_with fail
  refine (writeDiff_any _ _ _ _ _ _ _ _ (HP.out.below hb1 (Nat.le_refl _)) (HC.out.below hb1 (Nat.le_refl _))).mono ?_
  rintro e w2 ⟨rfl, hb2⟩
  go_wp2_with fail
  refine (diffBegun_any _).mono ?_
  rintro e w3 ⟨rfl, hb3⟩
  generalize writeDS W H zs kind xs = S
  generalize writeDE W H zs kind xs = E
  go_wp2
  go_ret
  exact ⟨rfl, bel_trans (bel_trans (bel_trans (bel_alloc _ _) hb1) hb2) hb3⟩

set_option maxRecDepth 100000 in
set_option maxHeartbeats 800000 in
theorem diffGuesses_walk (W H : Int) (vp : Value) (zs : List Int) (kind x y : Int) (w : World) (hvp : IsInts w vp zs) :
    Calls Try.prog 9 #[.agg #[.int .i64 W, .int .i64 H, vp], .int .i64 kind, .int .i64 x, .int .i64 y] w fun e w' => e = .returned (.bool true) ∧ Below w.heap.size w w' := by
  have HP := hide (hvp.alloc (Obj.cells #[.int .i64 W, .int .i64 H, vp] 57))
  obtain ⟨po, pc, rfl, _, _⟩ := hvp
  by_cases hp : planeOk W H zs = true
  · by_cases hk : kindOk kind = true
    · have hkk : 1 ≤ kind ∧ kind ≤ 7 := by simpa [kindOk] using hk
      obtain ⟨hk1, hk2⟩ := hkk
      by_cases hx : placeOk W H x y = true
      · have HE := hide (show guessE W H zs kind x y = 0 by rw [guessE, if_pos hp, if_pos hk, if_pos hx])
        have HG := hide (show guessV W H zs kind x y = gAt zs W.toNat kind (y.toNat * W.toNat + x.toNat) by rw [guessV, if_pos HE.out])
        obtain ⟨⟨b1, b2⟩, ⟨b3, b4⟩, b5, b6⟩ := planeOk_parts hp
        obtain ⟨q1, q2, q3, q4⟩ : 0 ≤ x ∧ x < W ∧ 0 ≤ y ∧ y < H := by simpa [placeOk] using hx
        obtain ⟨X, rfl⟩ := Int.eq_ofNat_of_zero_le q1
        obtain ⟨Y, rfl⟩ := Int.eq_ofNat_of_zero_le q3
        obtain ⟨WN, rfl⟩ := Int.eq_ofNat_of_zero_le (show 0 ≤ W by omega)
        obtain ⟨HN, rfl⟩ := Int.eq_ofNat_of_zero_le (show 0 ≤ H by omega)
        have hlen : zs.length = WN * HN := by exact_mod_cast b5
        have hmul : Y * WN + X < zs.length := by
          have h1 : (Y + 1) * WN ≤ HN * WN := Nat.mul_le_mul_right _ (by omega)
          rw [Nat.succ_mul] at h1
          rw [hlen, Nat.mul_comm WN HN]; omega
        have h4096 : zs.length ≤ 4096 := by rw [hlen]; exact Nat.le_trans (Nat.mul_le_mul (show WN ≤ 64 by omega) (show HN ≤ 64 by omega)) (by decide)
        obtain ⟨m1, m2⟩ := place_of (W := WN) (X := X) (Y := Y) (by omega)
        have hxd : decide ((X : Int) < 0) = false := by simp
        have hyd : decide ((Y : Int) < 0) = false := by simp
        have hxw : decide ((WN : Int) ≤ (X : Int)) = false := by simp; omega
        have hyh : decide ((HN : Int) ≤ (Y : Int)) = false := by simp; omega
        simp only [Int.toNat_natCast] at HG
        have HM := hide hmul
        have HL := hide h4096
        have HS := hide b6
        have HM1 := hide m1.symm
        have HM2 := hide m2.symm
        clear hmul h4096 b6 m1 m2 hlen b5 hx
        go_enter Try.func9, Try.ntmps9
        go_wp2_with fail
        refine (guessP_any _ _ _ zs _ _ _ _ HP.out).mono ?_
        rintro e w1 ⟨rfl, hb1⟩
        rw [HG.out, HE.out]
        obtain ⟨c0, c1, c2⟩ := pl3 hb1
        go_wp2_with fail
        refine (planeFine_any _ _ _ zs _ (HP.out.below hb1 (Nat.le_refl _))).mono ?_
        rintro e w2 ⟨rfl, hb2⟩
        rw [hp]
        have hb12 := bel_trans hb1 hb2
        obtain ⟨c0, c1, c2⟩ := pl3 hb12
        go_wp2_with fail
        refine (diffBegun_any _).mono ?_
        rintro e w3 ⟨rfl, hb3⟩
        have hb123 := bel_trans hb12 hb3
        obtain ⟨c0, c1, c2⟩ := pl3 hb123
        go_wp2_with fail
        refine (guessOf_any _ zs WN X Y _ kind _ _ (HP.out.below hb123 (Nat.le_refl _)) (by omega) (by omega) HM.out HL.out HS.out HM1.out HM2.out).mono ?_
        rintro e w4 ⟨rfl, hb4⟩
        generalize gAt zs WN kind (Y * WN + X) = G
        go_wp2
        go_ret
        exact ⟨rfl, bel_trans (bel_trans (bel_alloc _ _) hb123) hb4⟩
      · have HE := hide (show guessE W H zs kind x y = 3 by rw [guessE, if_pos hp, if_pos hk, if_neg hx])
        have HG := hide (show guessV W H zs kind x y = 0 by rw [guessV, HE.out]; rfl)
        have hx : ¬ (0 ≤ x ∧ x < W ∧ 0 ≤ y ∧ y < H) := by simpa [placeOk] using hx
        have hor : x < 0 ∨ (¬ x < 0 ∧ W ≤ x) ∨ (¬ x < 0 ∧ ¬ W ≤ x ∧ y < 0) ∨ (¬ x < 0 ∧ ¬ W ≤ x ∧ ¬ y < 0 ∧ H ≤ y) := by omega
        clear hx
        rcases hor with t1 | ⟨t1, t2⟩ | ⟨t1, t2, t3⟩ | ⟨t1, t2, t3, t4⟩
        all_goals
          go_enter Try.func9, Try.ntmps9
          go_wp2_with fail
          refine (guessP_any _ _ _ zs _ _ _ _ HP.out).mono ?_
          rintro e w1 ⟨rfl, hb1⟩
          rw [HG.out, HE.out]
          obtain ⟨c0, c1, c2⟩ := pl3 hb1
          go_wp2_with fail
          refine (planeFine_any _ _ _ zs _ (HP.out.below hb1 (Nat.le_refl _))).mono ?_
          rintro e w2 ⟨rfl, hb2⟩
          rw [hp]
          have hb12 := bel_trans hb1 hb2
          obtain ⟨c0, c1, c2⟩ := pl3 hb12
          go_wp2_with fail
          refine (diffBegun_any _).mono ?_
          rintro e w3 ⟨rfl, hb3⟩
          go_wp2
          go_ret
          exact ⟨rfl, bel_trans (bel_trans (bel_alloc _ _) hb12) hb3⟩
    · have HE := hide (show guessE W H zs kind x y = 6 by rw [guessE, if_pos hp, if_neg hk])
      have HG := hide (show guessV W H zs kind x y = 0 by rw [guessV, HE.out]; rfl)
      have hk : ¬ (1 ≤ kind ∧ kind ≤ 7) := by simpa [kindOk] using hk
      have hor : kind < 1 ∨ (¬ kind < 1 ∧ 7 < kind) := by omega
      clear hk
      rcases hor with t1 | ⟨t1, t2⟩
      all_goals
        go_enter Try.func9, Try.ntmps9
        go_wp2_with fail
        refine (guessP_any _ _ _ zs _ _ _ _ HP.out).mono ?_
        rintro e w1 ⟨rfl, hb1⟩
        rw [HG.out, HE.out]
        obtain ⟨c0, c1, c2⟩ := pl3 hb1
        go_wp2_with fail
        refine (planeFine_any _ _ _ zs _ (HP.out.below hb1 (Nat.le_refl _))).mono ?_
        rintro e w2 ⟨rfl, hb2⟩
        rw [hp]
        go_wp2_with fail
        refine (diffBegun_any _).mono ?_
        rintro e w3 ⟨rfl, hb3⟩
        go_wp2
        go_ret
        exact ⟨rfl, bel_trans (bel_trans (bel_trans (bel_alloc _ _) hb1) hb2) hb3⟩
  · have HE := hide (show guessE W H zs kind x y = 1 by rw [guessE, if_neg hp])
    have HG := hide (show guessV W H zs kind x y = 0 by rw [guessV, HE.out]; rfl)
    have hp : planeOk W H zs = false := by simpa using hp
    go_enter Try.func9, Try.ntmps9
    go_wp2_with fail
    refine (guessP_any _ _ _ zs _ _ _ _ HP.out).mono ?_
    rintro e w1 ⟨rfl, hb1⟩
    rw [HG.out, HE.out]
    obtain ⟨c0, c1, c2⟩ := pl3 hb1
    go_wp2_with fail
    refine (planeFine_any _ _ _ zs _ (HP.out.below hb1 (Nat.le_refl _))).mono ?_
    rintro e w2 ⟨rfl, hb2⟩
    rw [hp]
    go_wp2_with fail
    refine (diffBegun_any _).mono ?_
    rintro e w3 ⟨rfl, hb3⟩
    go_wp2
    go_ret
    exact ⟨rfl, bel_trans (bel_trans (bel_trans (bel_alloc _ _) hb1) hb2) hb3⟩

set_option maxRecDepth 100000 in
set_option maxHeartbeats 1600000 in
theorem diffBack_walk (W H : Int) (vp : Value) (zs : List Int) (kind : Int) (vc : Value) (xs : List Int) (s : ByteArray) (w0 h0 : Int) (w : World) (hvp : IsInts w vp zs) (hvc : IsInts w vc xs) :
    Calls Try.prog 12 #[.agg #[.int .i64 W, .int .i64 H, vp], .int .i64 kind, vc, .string s, .int .i64 w0, .int .i64 h0] w fun e w' => e = .returned (.bool true) ∧ Below w.heap.size w w' := by
  obtain ⟨b, rfl⟩ : ∃ b, s = str b := ⟨s.data.toList, rfl⟩
  have HP := hide (hvp.alloc (Obj.cells #[.int .i64 W, .int .i64 H, vp] 57))
  have HC := hide (hvc.alloc (Obj.cells #[.int .i64 W, .int .i64 H, vp] 57))
  clear hvc
  obtain ⟨po, pc, rfl, _, _⟩ := hvp
  by_cases hw : writeDE W H zs kind xs = 0
  · obtain ⟨k1, k2, k3, k4⟩ := read_of_write hw
    generalize hS : writeDS W H zs kind xs = S at *
    have HS := hide hS
    clear hS
    by_cases hr : readDE b w0 h0 kind xs = 0
    · obtain ⟨j1, j2, j3, j4⟩ := write_of_read hr
      go_enter Try.func12, Try.ntmps12
      go_wp2_with fail
      refine (writeD_any _ _ _ _ _ _ _ _ HP.out HC.out).mono ?_
      rintro e w1 ⟨rfl, hb1⟩
      rw [hw, HS.out]
      obtain ⟨c0, c1, c2⟩ := pl3 hb1
      go_wp2_with fail
      refine (readD_any _ _ _ _ _ _ _ (HC.out.below hb1 (Nat.le_refl _))).mono ?_
      rintro e w2 ⟨r2, rfl, hr2, hb2⟩
      rw [str_data] at hr2 ⊢
      rw [k2] at hr2
      rw [k1, k3, k4]
      have HR2 := hide hr2
      obtain ⟨qo, qc, rfl, _, _⟩ := hr2
      have hb12 := bel_trans hb1 hb2
      have hb12a := bel_trans hb12 (bel_alloc w2 (Obj.cells #[.int .i64 W, .int .i64 H, .slice qo zs.length qc] 57))
      obtain ⟨c0, c1, c2⟩ := pl3 hb12a
      go_wp2_with fail
      refine (samePlanes_any _ _ _ _ _ _ zs zs _ (HR2.out.alloc _) (HP.out.below hb12a (Nat.le_refl _))).mono ?_
      rintro e w3 ⟨rfl, hb3⟩
      have hdd : decide (W = W ∧ H = H ∧ zs = zs) = true := by simp
      rw [hdd]
      clear hdd c0 c1 c2
      have hb123 := bel_trans hb12a hb3
      go_wp2_with fail
      refine (readD_any _ _ _ _ _ _ _ (HC.out.below hb123 (Nat.le_refl _))).mono ?_
      rintro e w4 ⟨r4, rfl, hr4, hb4⟩
      rw [str_data] at hr4 ⊢
      rw [hr, j3, j4]
      have HR4 := hide hr4
      obtain ⟨uo, uc, rfl, _, _⟩ := hr4
      have hb1234 := bel_trans hb123 hb4
      go_wp2_with fail
      refine (writeD_any _ _ _ _ _ _ _ _ (HR4.out.alloc _) ((HC.out.below hb1234 (Nat.le_refl _)).alloc _)).mono ?_
      rintro e w5 ⟨rfl, hb5⟩
      rw [j1, j2]
      go_wp2_with fail
      refine (diffBegun_any _).mono ?_
      rintro e w6 ⟨rfl, hb6⟩
      go_wp2
      go_ret
      exact ⟨rfl, bel_trans (bel_trans (bel_trans (bel_trans (bel_alloc _ _) hb1234) (bel_alloc _ _)) hb5) hb6⟩
    · have hne : (readDE b w0 h0 kind xs != 0) = true := by simpa using hr
      clear hr
      go_enter Try.func12, Try.ntmps12
      go_wp2_with fail
      refine (writeD_any _ _ _ _ _ _ _ _ HP.out HC.out).mono ?_
      rintro e w1 ⟨rfl, hb1⟩
      rw [hw, HS.out]
      obtain ⟨c0, c1, c2⟩ := pl3 hb1
      go_wp2_with fail
      refine (readD_any _ _ _ _ _ _ _ (HC.out.below hb1 (Nat.le_refl _))).mono ?_
      rintro e w2 ⟨r2, rfl, hr2, hb2⟩
      rw [str_data] at hr2 ⊢
      rw [k2] at hr2
      rw [k1, k3, k4]
      have HR2 := hide hr2
      obtain ⟨qo, qc, rfl, _, _⟩ := hr2
      have hb12 := bel_trans hb1 hb2
      have hb12a := bel_trans hb12 (bel_alloc w2 (Obj.cells #[.int .i64 W, .int .i64 H, .slice qo zs.length qc] 57))
      obtain ⟨c0, c1, c2⟩ := pl3 hb12a
      go_wp2_with fail
      refine (samePlanes_any _ _ _ _ _ _ zs zs _ (HR2.out.alloc _) (HP.out.below hb12a (Nat.le_refl _))).mono ?_
      rintro e w3 ⟨rfl, hb3⟩
      have hdd : decide (W = W ∧ H = H ∧ zs = zs) = true := by simp
      rw [hdd]
      clear hdd c0 c1 c2
      have hb123 := bel_trans hb12a hb3
      go_wp2_with fail
      refine (readD_any _ _ _ _ _ _ _ (HC.out.below hb123 (Nat.le_refl _))).mono ?_
      rintro e w4 ⟨r4, rfl, hr4, hb4⟩
      rw [str_data] at hr4 ⊢
      obtain ⟨uo, uc, rfl, _, _⟩ := hr4
      have hb1234 := bel_trans hb123 hb4
      go_wp2_with fail
      refine (diffBegun_any _).mono ?_
      rintro e w6 ⟨rfl, hb6⟩
      go_wp2
      go_ret
      exact ⟨rfl, bel_trans (bel_trans (bel_trans (bel_alloc _ _) hb1234) (bel_alloc _ _)) hb6⟩
  · have hwne : (writeDE W H zs kind xs == 0) = false := by simpa using hw
    clear hw
    by_cases hr : readDE b w0 h0 kind xs = 0
    · obtain ⟨j1, j2, j3, j4⟩ := write_of_read hr
      go_enter Try.func12, Try.ntmps12
      go_wp2_with fail
      refine (writeD_any _ _ _ _ _ _ _ _ HP.out HC.out).mono ?_
      rintro e w1 ⟨rfl, hb1⟩
      go_wp2_with fail
      refine (readD_any _ _ _ _ _ _ _ (HC.out.below hb1 (Nat.le_refl _))).mono ?_
      rintro e w4 ⟨r4, rfl, hr4, hb4⟩
      rw [str_data] at hr4 ⊢
      rw [hr, j3, j4]
      have HR4 := hide hr4
      obtain ⟨uo, uc, rfl, _, _⟩ := hr4
      have hb14 := bel_trans hb1 hb4
      go_wp2_with fail
      refine (writeD_any _ _ _ _ _ _ _ _ (HR4.out.alloc _) ((HC.out.below hb14 (Nat.le_refl _)).alloc _)).mono ?_
      rintro e w5 ⟨rfl, hb5⟩
      rw [j1, j2]
      go_wp2_with fail
      refine (diffBegun_any _).mono ?_
      rintro e w6 ⟨rfl, hb6⟩
      go_wp2
      go_ret
      exact ⟨rfl, bel_trans (bel_trans (bel_trans (bel_trans (bel_alloc _ _) hb14) (bel_alloc _ _)) hb5) hb6⟩
    · have hne : (readDE b w0 h0 kind xs != 0) = true := by simpa using hr
      clear hr
      go_enter Try.func12, Try.ntmps12
      go_wp2_with fail
      refine (writeD_any _ _ _ _ _ _ _ _ HP.out HC.out).mono ?_
      rintro e w1 ⟨rfl, hb1⟩
      go_wp2_with fail
      refine (readD_any _ _ _ _ _ _ _ (HC.out.below hb1 (Nat.le_refl _))).mono ?_
      rintro e w4 ⟨r4, rfl, hr4, hb4⟩
      rw [str_data] at hr4 ⊢
      obtain ⟨uo, uc, rfl, _, _⟩ := hr4
      have hb14 := bel_trans hb1 hb4
      go_wp2_with fail
      refine (diffBegun_any _).mono ?_
      rintro e w6 ⟨rfl, hb6⟩
      go_wp2
      go_ret
      exact ⟨rfl, bel_trans (bel_trans (bel_trans (bel_alloc _ _) hb14) (bel_alloc _ _)) hb6⟩

end Go.Proofs.Ytolcndchfnifhaa
