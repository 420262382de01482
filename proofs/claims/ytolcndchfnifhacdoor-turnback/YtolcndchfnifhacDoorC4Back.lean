/- Back: part 4 of what the proofs need. -/
import Derived.Test.YtolcndchfnifhacDoorC1Back
import Derived.Test.YtolcndchfnifhacDoorC2Back
import Derived.Test.YtolcndchfnifhacDoorC3Back
import Derived.Test.YtolcndchfnifhacDoorRows
import Derived.Lib.LaidTab
import Derived.ChangeArms
import Derived.OpenShut
import Derived.ProofKit
import Derived.ChangeSame
import Derived.DataReads
namespace Go.Proofs.YtolcndchfnifhacDoor
set_option linter.unusedVariables false
open Go.RowKit
theorem turnE_zero {W H : Int} {ps : List Px} {how : Int} (h : turnE W H ps how = 0) : picOk W H ps = true ∧ howOk how = true := by
  unfold turnE at h
  split at h
  · rename_i hp
    unfold howE at h
    split at h
    · rename_i hk; exact ⟨hp, hk⟩
    · cases h
  · cases h
theorem turnE_mk {W H : Int} {ps : List Px} {how : Int} (hp : picOk W H ps = true) (hk : howOk how = true) : turnE W H ps how = 0 := by rw [turnE, if_pos hp, howE, if_pos hk]
theorem cut_picOk {W H : Nat} {ps : List Px} {RX RY RW RH : Nat} (hp : picOk W H ps = true) (h1 : 1 ≤ RW) (h2 : 1 ≤ RH) (hx : RX + RW ≤ W) (hy : RY + RH ≤ H) : picOk RW RH (cutL W ps RX RY RW RH) = true := by
  obtain ⟨hg1, hg2, hg3, hg4⟩ := picOk_parts hp
  have hl : ps.length = H * W := by rw [Nat.mul_comm]; exact_mod_cast hg3
  rw [picOk, Bool.and_eq_true]
  refine ⟨?_, List.all_eq_true.2 fun q hq => ?_⟩
  · simp only [sizeOk, sideOk, Bool.and_eq_true, decide_eq_true_eq]
    refine ⟨⟨by omega, by omega⟩, ?_⟩
    rw [show (cutL W ps RX RY RW RH).length = RH * RW by simp [cutL], Int.natCast_mul, Int.mul_comm]
  · obtain ⟨j, hj, rfl⟩ := List.mem_map.1 hq
    have hj := List.mem_range.1 hj
    have hm := Nat.mod_lt j (show 0 < RW by omega)
    have hd : j / RW < RH := Nat.div_lt_of_lt_mul (by rw [Nat.mul_comm]; exact hj)
    unfold cutP
    have hlt : (RY + j / RW) * W + (RX + j % RW) < ps.length := by rw [hl]; exact place_lt (by omega) (by omega)
    rw [← pxAt_get ps _ hlt]
    exact List.all_eq_true.1 hg4 _ (List.getElem_mem hlt)
theorem cutE_nat {W H : Nat} {ps : List Px} (hp : picOk W H ps = true) {x y rw rh : Nat} (h1 : 1 ≤ rw) (h2 : 1 ≤ rh) (hx : x + rw ≤ W) (hy : y + rh ≤ H) : cutE W H ps x y rw rh = 0 := by
  rw [cutE, if_pos hp, if_pos]
  simp [liesB]; omega
theorem cutE_parts {W H : Int} {ps : List Px} {rx ry rw rh : Int} (h : cutE W H ps rx ry rw rh = 0) : ((1 ≤ rw ∧ rw ≤ W) ∧ (0 ≤ rx ∧ rx ≤ W - rw)) ∧ ((1 ≤ rh ∧ rh ≤ H) ∧ (0 ≤ ry ∧ ry ≤ H - rh)) := by
  unfold cutE at h
  split at h
  · split at h
    · rename_i _ hl
      simpa [liesB] using hl
    · cases h
  · cases h
set_option maxRecDepth 100000 in
set_option maxHeartbeats 12800000 in
theorem turnBack_walk (W H : Int) (v : Value) (ps : List Px) (one two : Int) (rx ry rw rh : Int) (w : World) (hm : MovesAt w) (hv : IsPix w v ps) :
    Calls Tryd.prog 5 #[.agg #[.int .i64 W, .int .i64 H, v], .int .i64 one, .int .i64 two, .agg #[.int .i64 rx, .int .i64 ry, .int .i64 rw, .int .i64 rh]] w fun e w' => e = .returned (.bool true) ∧ Below w.heap.size w w' := by
  have HM := hide hm
  have HV := hide hv
  have HMB := hide (fun (u : World) (hu : Below w.heap.size w u) => HM.out.below hu (Nat.le_refl _))
  have HG := hide (fun (u : World) (hu : Below w.heap.size w u) => turnBegun_any u (HMB.out u hu))
  have HT := hide (fun (u : World) (hu : Below w.heap.size w u) (W H : Int) (v : Value) (ps : List Px) (how : Int) (hv : IsPix u v ps) => turn_any W H v ps how u (HMB.out u hu) hv)
  have HT1 := hide (fun (u : World) (hu : Below w.heap.size w u) => HT.out u hu W H v ps one (HV.out.below hu (Nat.le_refl _)))
  have HK := hide (fun (u : World) (hu : Below w.heap.size w u) => turnBack_any one u (HMB.out u hu))
  have HO := hide (fun (u : World) (hu : Below w.heap.size w u) => turnBoth_any one two u (HMB.out u hu))
  obtain ⟨ao, ca, rfl, _, _⟩ := hv
  obtain ⟨a1, a2⟩ := al2 w (Obj.cells #[.int .i64 W, .int .i64 H, .slice ao ps.length ca] 24) (Obj.cells #[.int .i64 rx, .int .i64 ry, .int .i64 rw, .int .i64 rh] 26)
  have HB := hide (be2 w (Obj.cells #[.int .i64 W, .int .i64 H, .slice ao ps.length ca] 24) (Obj.cells #[.int .i64 rx, .int .i64 ry, .int .i64 rw, .int .i64 rh] 26))
  have hl1 := (Array.getElem?_eq_some_iff.1 a1).1
  have hl2 := (Array.getElem?_eq_some_iff.1 a2).1
  by_cases hE1 : turnE W H ps one = 0
  case neg =>
    rw [okW, if_neg hE1, okW, if_neg hE1, okL, if_neg hE1] at HT1
    generalize turnE W H ps one = E1 at *
    have hn : (E1 != 0) = true := by simpa using hE1
    go_enter Tryd.func5, Tryd.ntmps5
    obtain ⟨p0, p1, p2⟩ := cells3 a1
    go_wp2_with fail
    clear p0 p1 p2
    generalize (w.alloc (Obj.cells #[.int .i64 W, .int .i64 H, .slice ao ps.length ca] 24)).alloc (Obj.cells #[.int .i64 rx, .int .i64 ry, .int .i64 rw, .int .i64 rh] 26) = U at *
    have hU : Below U.heap.size U U := Below.refl _ _
    refine (HT1.out _ HB.out).mono ?_
    rintro e wa ⟨r, rfl, hr, hb, hfr⟩
    have HRa := hide hr
    obtain ⟨roa, rca, rfl, x1, x2⟩ := hr
    clear x1 x2 hfr
    obtain ⟨Na, hN⟩ : ∃ Na, (([] : List Px) : List Px).length = Na := ⟨_, rfl⟩
    rw [hN] at HRa ⊢
    clear hN
    have ga := al1 wa (Obj.cells #[.int .i64 0, .int .i64 0, .slice roa Na rca] 24)
    have hxa := bel_trans hb (bel_alloc wa (Obj.cells #[.int .i64 0, .int .i64 0, .slice roa Na rca] 24))
    replace HRa := hide (HRa.out.alloc (Obj.cells #[.int .i64 0, .int .i64 0, .slice roa Na rca] 24))
    clear hb
    replace hU := bel_trans hU hxa
    obtain ⟨pa0, pa1, pa2⟩ := cells3 ga
    go_wp2_with fail
    clear pa0 pa1 pa2
    generalize wa.alloc (Obj.cells #[.int .i64 0, .int .i64 0, .slice roa Na rca] 24) = Xa at *
    generalize wa.heap.size = Ba at *
    have HBUa := hide (HB.out.trans (hU.mono HB.out.size))
    refine (HT.out _ HBUa.out 0 0 _ [] two (by obtain ⟨x, y, hx, hy, _⟩ := HRa.out; exact ⟨x, y, hx, hy, .inl rfl⟩)).mono ?_
    rintro e w2 ⟨r, rfl, hr, hb, hfr⟩
    obtain ⟨ro, rc, rfl, x1, x2⟩ := hr
    clear x1 x2 hfr
    obtain ⟨E2, hE2⟩ : ∃ E2, turnE 0 0 [] two = E2 := ⟨_, rfl⟩
    generalize okW (turnE 0 0 [] two) (turnedW (mvOf two) 0 0) = Z1 at *
    generalize (okL (turnE 0 0 [] two) (turnL (0 : Int).toNat (0 : Int).toNat [] (mvOf two))).length = Z2 at *
    rw [hE2]
    have hb2 := bel_trans hb (bel_alloc w2 (Obj.cells #[.int .i64 Z1, .int .i64 Z1, .slice ro Z2 rc] 24))
    go_wp2_with fail
    have HB3 := hide (HBUa.out.trans (hb2.mono HBUa.out.size))
    generalize w2.alloc (Obj.cells #[.int .i64 Z1, .int .i64 Z1, .slice ro Z2 rc] 24) = Y at *
    refine (HG.out _ HB3.out).mono ?_
    rintro e V0 ⟨rfl, hbv⟩
    go_wp2
    go_ret
    exact ⟨rfl, HB3.out.trans (hbv.mono HB3.out.size)⟩
  obtain ⟨hp, hk1⟩ := turnE_zero hE1
  obtain ⟨hg1, hg2, hg3, hg4⟩ := picOk_parts hp
  obtain ⟨WN, rfl⟩ := Int.eq_ofNat_of_zero_le (show 0 ≤ W by omega)
  obtain ⟨HN, rfl⟩ := Int.eq_ofNat_of_zero_le (show 0 ≤ H by omega)
  have hlen : ps.length = HN * WN := by rw [Nat.mul_comm]; exact_mod_cast hg3
  rw [hE1, turnedN_int, turnedN_int, Int.toNat_natCast, Int.toNat_natCast, show okL 0 (turnL WN HN ps (mvOf one)) = turnL WN HN ps (mvOf one) from rfl, show okW 0 ((turnedN (mvOf one) WN HN : Nat) : Int) = (turnedN (mvOf one) WN HN : Nat) from rfl, show okW 0 ((turnedN (mvOf one) HN WN : Nat) : Int) = (turnedN (mvOf one) HN WN : Nat) from rfl] at HT1
  have HUN := hide (turn_undone WN HN ps (mvOf one) hlen)
  have HTH := hide (fun n => turn_then WN HN ps (mvOf one) n)
  have HTC := hide (fun RX RY RW RH hx hy => turn_cut WN HN ps (mvOf one) RX RY RW RH hx hy)
  have HPI := hide (fun RX RY RW RH hx hy => @part_in (mvOf one) WN HN RX RY RW RH hx hy)
  have hEk : howE one = 0 := by rw [howE, if_pos hk1]
  have hNk : backN one = (howN (backM (mvOf one)) : Nat) := by rw [backN, if_pos hk1]
  rw [hEk, hNk] at HK
  obtain ⟨m, hmd⟩ : ∃ m, mvOf one = m := ⟨_, rfl⟩
  rw [hmd] at HT1 HUN HTH HTC HPI HK
  have HBA := hide (show howOk ((howN (backM m) : Nat) : Int) = true ∧ mvOf ((howN (backM m) : Nat) : Int) = backM m from by
    obtain ⟨x, y, z⟩ := backM m
    exact mvOf_how x y z)
  have HHH := hide (show turnedN (backM m) (turnedN m WN HN) (turnedN m HN WN) = WN ∧ turnedN (backM m) (turnedN m HN WN) (turnedN m WN HN) = HN from by
    obtain ⟨x, y, z⟩ := m
    cases x <;> exact ⟨rfl, rfl⟩)
  obtain ⟨BK, hBK⟩ : ∃ BK, howN (backM m) = BK := ⟨_, rfl⟩
  rw [hBK] at HK HBA
  clear hBK hE1 hEk hNk hg1 hg2 hg3 hg4 hlen
  obtain ⟨A, hA⟩ : ∃ A, turnL WN HN ps m = A := ⟨_, rfl⟩
  obtain ⟨AW, hAW⟩ : ∃ AW, turnedN m WN HN = AW := ⟨_, rfl⟩
  obtain ⟨AH, hAH⟩ : ∃ AH, turnedN m HN WN = AH := ⟨_, rfl⟩
  rw [hA] at HT1 HUN HTH HTC
  rw [hAW] at HT1 HUN HTH HTC HPI HHH
  rw [hAH] at HT1 HUN HTH HPI HHH
  by_cases hE2 : turnE AW AH A two = 0
  case neg =>
    go_enter Tryd.func5, Tryd.ntmps5
    obtain ⟨p0, p1, p2⟩ := cells3 a1
    go_wp2_with fail
    clear p0 p1 p2
    generalize (w.alloc (Obj.cells #[.int .i64 (WN : Int), .int .i64 (HN : Int), .slice ao ps.length ca] 24)).alloc (Obj.cells #[.int .i64 rx, .int .i64 ry, .int .i64 rw, .int .i64 rh] 26) = U at *
    have hU : Below U.heap.size U U := Below.refl _ _
    refine (HT1.out _ HB.out).mono ?_
    rintro e wa ⟨r, rfl, hr, hb, hfr⟩
    have HRa := hide hr
    obtain ⟨roa, rca, rfl, x1, x2⟩ := hr
    clear x1 x2 hfr
    obtain ⟨Na, hN⟩ : ∃ Na, (A : List Px).length = Na := ⟨_, rfl⟩
    rw [hN] at HRa ⊢
    clear hN
    have ga := al1 wa (Obj.cells #[.int .i64 (AW : Nat), .int .i64 (AH : Nat), .slice roa Na rca] 24)
    have hxa := bel_trans hb (bel_alloc wa (Obj.cells #[.int .i64 (AW : Nat), .int .i64 (AH : Nat), .slice roa Na rca] 24))
    replace HRa := hide (HRa.out.alloc (Obj.cells #[.int .i64 (AW : Nat), .int .i64 (AH : Nat), .slice roa Na rca] 24))
    clear hb
    replace hU := bel_trans hU hxa
    obtain ⟨pa0, pa1, pa2⟩ := cells3 ga
    go_wp2_with fail
    clear pa0 pa1 pa2
    generalize wa.alloc (Obj.cells #[.int .i64 (AW : Nat), .int .i64 (AH : Nat), .slice roa Na rca] 24) = Xa at *
    generalize wa.heap.size = Ba at *
    have HBUa := hide (HB.out.trans (hU.mono HB.out.size))
    refine (HT.out _ HBUa.out AW AH _ A two HRa.out).mono ?_
    rintro e w2 ⟨r, rfl, hr, hb, hfr⟩
    obtain ⟨ro, rc, rfl, x1, x2⟩ := hr
    clear x1 x2 hfr
    generalize okW (turnE AW AH A two) (turnedW (mvOf two) AW AH) = Z1 at *
    generalize okW (turnE AW AH A two) (turnedW (mvOf two) AH AW) = Z3 at *
    generalize (okL (turnE AW AH A two) (turnL (AW : Int).toNat (AH : Int).toNat A (mvOf two))).length = Z2 at *
    generalize turnE AW AH A two = E2 at *
    have hn : (E2 != 0) = true := by simpa using hE2
    have hb2 := bel_trans hb (bel_alloc w2 (Obj.cells #[.int .i64 Z1, .int .i64 Z3, .slice ro Z2 rc] 24))
    go_wp2_with fail
    have HB3 := hide (HBUa.out.trans (hb2.mono HBUa.out.size))
    generalize w2.alloc (Obj.cells #[.int .i64 Z1, .int .i64 Z3, .slice ro Z2 rc] 24) = Y at *
    refine (HG.out _ HB3.out).mono ?_
    rintro e V0 ⟨rfl, hbv⟩
    go_wp2
    go_ret
    exact ⟨rfl, HB3.out.trans (hbv.mono HB3.out.size)⟩
  obtain ⟨hpA, hk2⟩ := turnE_zero hE2
  have hEo : bothE one two = 0 := by rw [bothE, if_pos hk1, howE, if_pos hk2]
  have hNo : bothN one two = (howN (thenM m (mvOf two)) : Nat) := by rw [bothN, if_pos ⟨hk1, hk2⟩, hmd]
  rw [hEo, hNo] at HO
  have HBO := hide (show howOk ((howN (thenM m (mvOf two)) : Nat) : Int) = true ∧ mvOf ((howN (thenM m (mvOf two)) : Nat) : Int) = thenM m (mvOf two) from by
    obtain ⟨x, y, z⟩ := thenM m (mvOf two)
    exact mvOf_how x y z)
  obtain ⟨BO, hBO⟩ : ∃ BO, howN (thenM m (mvOf two)) = BO := ⟨_, rfl⟩
  rw [hBO] at HO HBO
  clear hBO hEo hNo
  have HT2 := hide (fun (u : World) (hu : Below w.heap.size w u) (v : Value) (hv : IsPix u v A) => HT.out u hu AW AH v A two hv)
  have HT3 := hide (fun (u : World) (hu : Below w.heap.size w u) (v : Value) (hv : IsPix u v A) => HT.out u hu AW AH v A BK hv)
  have HT4 := hide (fun (u : World) (hu : Below w.heap.size w u) => HT.out u hu WN HN _ ps BO (HV.out.below hu (Nat.le_refl _)))
  rw [hE2, turnedN_int, turnedN_int, Int.toNat_natCast, Int.toNat_natCast, HTH.out (mvOf two)] at HT2
  rw [turnE_mk hpA HBA.out.1, HBA.out.2, turnedN_int, turnedN_int, Int.toNat_natCast, Int.toNat_natCast, HUN.out, HHH.out.1, HHH.out.2] at HT3
  rw [turnE_mk hp HBO.out.1, HBO.out.2, turnedN_int, turnedN_int, Int.toNat_natCast, Int.toNat_natCast, ← then_n m (mvOf two) WN HN, ← then_n m (mvOf two) HN WN, hAW, hAH] at HT4
  obtain ⟨BW, hBW⟩ : ∃ BW, turnedN (mvOf two) AW AH = BW := ⟨_, rfl⟩
  obtain ⟨BH, hBH⟩ : ∃ BH, turnedN (mvOf two) AH AW = BH := ⟨_, rfl⟩
  obtain ⟨BL, hBL⟩ : ∃ BL, turnL WN HN ps (thenM m (mvOf two)) = BL := ⟨_, rfl⟩
  rw [hBW, hBH, hBL] at HT2 HT4
  simp only [show ∀ z : Int, okW 0 z = z from fun _ => rfl, show ∀ l : List Px, okL 0 l = l from fun _ => rfl] at HT2 HT3 HT4
  clear hBW hBH hBL HUN HTH HHH HBA HBO hE2
  have HCQ := hide (fun (u : World) (hu : Below w.heap.size w u) => cut_any WN HN _ ps rx ry rw rh u (HV.out.below hu (Nat.le_refl _)))
  by_cases hE5 : cutE WN HN ps rx ry rw rh = 0
  case neg =>
    rw [okW, if_neg hE5, okW, if_neg hE5, okL, if_neg hE5] at HCQ
    generalize cutE WN HN ps rx ry rw rh = E5 at *
    have hn : (E5 != 0) = true := by simpa using hE5
    go_enter Tryd.func5, Tryd.ntmps5
    obtain ⟨p0, p1, p2⟩ := cells3 a1
    go_wp2_with fail
    clear p0 p1 p2
    generalize (w.alloc (Obj.cells #[.int .i64 (WN : Int), .int .i64 (HN : Int), .slice ao ps.length ca] 24)).alloc (Obj.cells #[.int .i64 rx, .int .i64 ry, .int .i64 rw, .int .i64 rh] 26) = U at *
    have hU : Below U.heap.size U U := Below.refl _ _
    refine (HT1.out _ HB.out).mono ?_
    rintro e wa ⟨r, rfl, hr, hb, hfr⟩
    have HRa := hide hr
    obtain ⟨roa, rca, rfl, x1, x2⟩ := hr
    clear x1 x2 hfr
    obtain ⟨Na, hN⟩ : ∃ Na, (A : List Px).length = Na := ⟨_, rfl⟩
    rw [hN] at HRa ⊢
    clear hN
    have ga := al1 wa (Obj.cells #[.int .i64 (AW : Nat), .int .i64 (AH : Nat), .slice roa Na rca] 24)
    have hxa := bel_trans hb (bel_alloc wa (Obj.cells #[.int .i64 (AW : Nat), .int .i64 (AH : Nat), .slice roa Na rca] 24))
    replace HRa := hide (HRa.out.alloc (Obj.cells #[.int .i64 (AW : Nat), .int .i64 (AH : Nat), .slice roa Na rca] 24))
    clear hb
    replace hU := bel_trans hU hxa
    obtain ⟨pa0, pa1, pa2⟩ := cells3 ga
    go_wp2_with fail
    clear pa0 pa1 pa2
    generalize wa.alloc (Obj.cells #[.int .i64 (AW : Nat), .int .i64 (AH : Nat), .slice roa Na rca] 24) = Xa at *
    generalize wa.heap.size = Ba at *
    have HBUa := hide (HB.out.trans (hU.mono HB.out.size))
    refine (HT2.out _ HBUa.out _ HRa.out).mono ?_
    rintro e wb ⟨r, rfl, hr, hb, hfr⟩
    have HRb := hide hr
    obtain ⟨rob, rcb, rfl, x1, x2⟩ := hr
    clear x1 x2 hfr
    obtain ⟨Nb, hN⟩ : ∃ Nb, (BL : List Px).length = Nb := ⟨_, rfl⟩
    rw [hN] at HRb ⊢
    clear hN
    have gb := al1 wb (Obj.cells #[.int .i64 (BW : Nat), .int .i64 (BH : Nat), .slice rob Nb rcb] 24)
    have hxb := bel_trans hb (bel_alloc wb (Obj.cells #[.int .i64 (BW : Nat), .int .i64 (BH : Nat), .slice rob Nb rcb] 24))
    replace HRb := hide (HRb.out.alloc (Obj.cells #[.int .i64 (BW : Nat), .int .i64 (BH : Nat), .slice rob Nb rcb] 24))
    clear hb
    replace ga := (hxb.block _ (Array.getElem?_eq_some_iff.1 ga).1).trans ga
    replace HRa := hide (HRa.out.below hxb (Nat.le_refl _))
    replace hU := bel_trans hU hxb
    go_wp2_with fail
    generalize wb.alloc (Obj.cells #[.int .i64 (BW : Nat), .int .i64 (BH : Nat), .slice rob Nb rcb] 24) = Xb at *
    generalize wb.heap.size = Bb at *
    have HBUb := hide (HB.out.trans (hU.mono HB.out.size))
    refine (HK.out _ HBUb.out).mono ?_
    rintro e w3 ⟨rfl, hb3⟩
    have HB3 := hide (HBUb.out.trans (hb3.mono HBUb.out.size))
    go_wp2_with fail
    refine (HO.out _ HB3.out).mono ?_
    rintro e w4 ⟨rfl, hb4⟩
    have hx4 := bel_trans hb3 hb4
    replace ga := (hx4.block _ (Array.getElem?_eq_some_iff.1 ga).1).trans ga
    replace gb := (hx4.block _ (Array.getElem?_eq_some_iff.1 gb).1).trans gb
    replace HRa := hide (HRa.out.below hx4 (Nat.le_refl _))
    replace HRb := hide (HRb.out.below hx4 (Nat.le_refl _))
    replace hU := bel_trans hU hx4
    have HBU4 := hide (HB.out.trans (hU.mono HB.out.size))
    obtain ⟨p0, p1, p2⟩ := cells3 ga
    go_wp2_with fail
    clear p0 p1 p2
    refine (HT3.out _ HBU4.out _ HRa.out).mono ?_
    rintro e wc ⟨r, rfl, hr, hb, hfr⟩
    have HRc := hide hr
    obtain ⟨roc, rcc, rfl, x1, x2⟩ := hr
    clear x1 x2 hfr
    obtain ⟨Nc, hN⟩ : ∃ Nc, (ps : List Px).length = Nc := ⟨_, rfl⟩
    rw [hN] at HRc ⊢
    clear hN
    have gc := al1 wc (Obj.cells #[.int .i64 (WN : Nat), .int .i64 (HN : Nat), .slice roc Nc rcc] 24)
    have hxc := bel_trans hb (bel_alloc wc (Obj.cells #[.int .i64 (WN : Nat), .int .i64 (HN : Nat), .slice roc Nc rcc] 24))
    replace HRc := hide (HRc.out.alloc (Obj.cells #[.int .i64 (WN : Nat), .int .i64 (HN : Nat), .slice roc Nc rcc] 24))
    clear hb
    replace ga := (hxc.block _ (Array.getElem?_eq_some_iff.1 ga).1).trans ga
    replace HRa := hide (HRa.out.below hxc (Nat.le_refl _))
    replace gb := (hxc.block _ (Array.getElem?_eq_some_iff.1 gb).1).trans gb
    replace HRb := hide (HRb.out.below hxc (Nat.le_refl _))
    replace hU := bel_trans hU hxc
    obtain ⟨pq0, pq1, pq2⟩ := cells3 ((hU.block _ hl1).trans a1)
    go_wp2_with fail
    clear pq0 pq1 pq2
    generalize wc.alloc (Obj.cells #[.int .i64 (WN : Nat), .int .i64 (HN : Nat), .slice roc Nc rcc] 24) = Xc at *
    generalize wc.heap.size = Bc at *
    have HBUc := hide (HB.out.trans (hU.mono HB.out.size))
    refine (HT4.out _ HBUc.out).mono ?_
    rintro e wd ⟨r, rfl, hr, hb, hfr⟩
    have HRd := hide hr
    obtain ⟨rod, rcd, rfl, x1, x2⟩ := hr
    clear x1 x2 hfr
    obtain ⟨Nd, hN⟩ : ∃ Nd, (BL : List Px).length = Nd := ⟨_, rfl⟩
    rw [hN] at HRd ⊢
    clear hN
    have gd := al1 wd (Obj.cells #[.int .i64 (BW : Nat), .int .i64 (BH : Nat), .slice rod Nd rcd] 24)
    have hxd := bel_trans hb (bel_alloc wd (Obj.cells #[.int .i64 (BW : Nat), .int .i64 (BH : Nat), .slice rod Nd rcd] 24))
    replace HRd := hide (HRd.out.alloc (Obj.cells #[.int .i64 (BW : Nat), .int .i64 (BH : Nat), .slice rod Nd rcd] 24))
    clear hb
    replace ga := (hxd.block _ (Array.getElem?_eq_some_iff.1 ga).1).trans ga
    replace HRa := hide (HRa.out.below hxd (Nat.le_refl _))
    replace gb := (hxd.block _ (Array.getElem?_eq_some_iff.1 gb).1).trans gb
    replace HRb := hide (HRb.out.below hxd (Nat.le_refl _))
    replace gc := (hxd.block _ (Array.getElem?_eq_some_iff.1 gc).1).trans gc
    replace HRc := hide (HRc.out.below hxd (Nat.le_refl _))
    replace hU := bel_trans hU hxd
    obtain ⟨pc0, pc1, pc2⟩ := cells3 gc
    obtain ⟨pq0, pq1, pq2⟩ := cells3 ((hU.block _ hl1).trans a1)
    go_wp2_with fail
    clear pc0 pc1 pc2
    clear pq0 pq1 pq2
    generalize wd.alloc (Obj.cells #[.int .i64 (BW : Nat), .int .i64 (BH : Nat), .slice rod Nd rcd] 24) = Xd at *
    generalize wd.heap.size = Bd at *
    have HBUd := hide (HB.out.trans (hU.mono HB.out.size))
    refine (samePictures_any WN HN _ ps WN HN _ ps _ HRc.out (HV.out.below HBUd.out (Nat.le_refl _))).mono ?_
    rintro e w7 ⟨rfl, hb7⟩
    rw [show sameB WN HN ps WN HN ps = true by simp [sameB]]
    replace ga := (hb7.block _ (Array.getElem?_eq_some_iff.1 ga).1).trans ga
    replace HRa := hide (HRa.out.below hb7 (Nat.le_refl _))
    replace gb := (hb7.block _ (Array.getElem?_eq_some_iff.1 gb).1).trans gb
    replace HRb := hide (HRb.out.below hb7 (Nat.le_refl _))
    replace gc := (hb7.block _ (Array.getElem?_eq_some_iff.1 gc).1).trans gc
    replace HRc := hide (HRc.out.below hb7 (Nat.le_refl _))
    replace gd := (hb7.block _ (Array.getElem?_eq_some_iff.1 gd).1).trans gd
    replace HRd := hide (HRd.out.below hb7 (Nat.le_refl _))
    replace hU := bel_trans hU hb7
    have HBU7 := hide (HB.out.trans (hU.mono HB.out.size))
    obtain ⟨p0, p1, p2⟩ := cells3 gd
    obtain ⟨q0, q1, q2⟩ := cells3 gb
    go_wp2_with fail
    clear p0 p1 p2 q0 q1 q2
    refine (samePictures_any BW BH _ BL BW BH _ BL _ HRd.out HRb.out).mono ?_
    rintro e w8 ⟨rfl, hb8⟩
    rw [show sameB BW BH BL BW BH BL = true by simp [sameB]]
    replace ga := (hb8.block _ (Array.getElem?_eq_some_iff.1 ga).1).trans ga
    replace HRa := hide (HRa.out.below hb8 (Nat.le_refl _))
    clear gb gc gd HRb HRc HRd
    replace hU := bel_trans hU hb8
    have HBU8 := hide (HB.out.trans (hU.mono HB.out.size))
    obtain ⟨p0, p1, p2⟩ := cells3 ((hU.block _ hl1).trans a1)
    obtain ⟨q0, q1, q2, q3⟩ := cells4b (b := w.heap.size + 1) ((hU.block _ hl2).trans a2)
    go_wp2_with fail
    clear p0 p1 p2 q0 q1 q2 q3
    refine (HCQ.out _ HBU8.out).mono ?_
    rintro e wp ⟨r, rfl, hr, hb, hfr⟩
    have HRp := hide hr
    obtain ⟨rop, rcp, rfl, x1, x2⟩ := hr
    clear x1 x2 hfr
    obtain ⟨Np, hN⟩ : ∃ Np, (([] : List Px) : List Px).length = Np := ⟨_, rfl⟩
    rw [hN] at HRp ⊢
    clear hN
    have gp := al1 wp (Obj.cells #[.int .i64 0, .int .i64 0, .slice rop Np rcp] 24)
    have hxp := bel_trans hb (bel_alloc wp (Obj.cells #[.int .i64 0, .int .i64 0, .slice rop Np rcp] 24))
    replace HRp := hide (HRp.out.alloc (Obj.cells #[.int .i64 0, .int .i64 0, .slice rop Np rcp] 24))
    clear hb
    replace ga := (hxp.block _ (Array.getElem?_eq_some_iff.1 ga).1).trans ga
    replace HRa := hide (HRa.out.below hxp (Nat.le_refl _))
    replace hU := bel_trans hU hxp
    go_wp2_with fail
    generalize wp.alloc (Obj.cells #[.int .i64 0, .int .i64 0, .slice rop Np rcp] 24) = Xp at *
    generalize wp.heap.size = Bp at *
    have HBUp := hide (HB.out.trans (hU.mono HB.out.size))
    refine (HG.out _ HBUp.out).mono ?_
    rintro e V0 ⟨rfl, hbv⟩
    go_wp2
    go_ret
    exact ⟨rfl, HBUp.out.trans (hbv.mono HBUp.out.size)⟩
  have hr := cutE_parts hE5
  obtain ⟨RX, rfl⟩ := Int.eq_ofNat_of_zero_le (show 0 ≤ rx by omega)
  obtain ⟨RY, rfl⟩ := Int.eq_ofNat_of_zero_le (show 0 ≤ ry by omega)
  obtain ⟨RW, rfl⟩ := Int.eq_ofNat_of_zero_le (show 0 ≤ rw by omega)
  obtain ⟨RH, rfl⟩ := Int.eq_ofNat_of_zero_le (show 0 ≤ rh by omega)
  rw [hE5, show okL 0 (cutL (WN : Int).toNat ps (RX : Int).toNat (RY : Int).toNat (RW : Int).toNat (RH : Int).toNat) = cutL WN ps RX RY RW RH from rfl, show okW 0 (RW : Int) = RW from rfl, show okW 0 (RH : Int) = RH from rfl] at HCQ
  have hpC := cut_picOk (RX := RX) (RY := RY) (RW := RW) (RH := RH) hp (by omega) (by omega) (by omega) (by omega)
  have hTC := HTC.out RX RY RW RH (by omega) (by omega)
  have hPI := HPI.out RX RY RW RH (by omega) (by omega)
  have hS1 : 1 ≤ turnedN m RW RH ∧ 1 ≤ turnedN m RH RW := by unfold turnedN; split <;> omega
  have HT6 := hide (fun (u : World) (hu : Below w.heap.size w u) (v : Value) (hv : IsPix u v (cutL WN ps RX RY RW RH)) => HT.out u hu RW RH v (cutL WN ps RX RY RW RH) one hv)
  rw [turnE_mk hpC hk1, hmd, turnedN_int, turnedN_int, Int.toNat_natCast, Int.toNat_natCast, hTC] at HT6
  simp only [show ∀ z : Int, okW 0 z = z from fun _ => rfl, show ∀ l : List Px, okL 0 l = l from fun _ => rfl] at HT6
  generalize cutL WN ps RX RY RW RH = CL at *
  generalize turnedN m RW RH = SW at *
  generalize turnedN m RH RW = SH at *
  generalize partX m WN HN RX RY RW RH = TX at *
  generalize partY m WN HN RX RY RW RH = TY at *
  obtain ⟨TL, hTL⟩ : ∃ TL, cutL AW A TX TY SW SH = TL := ⟨_, rfl⟩
  rw [hTL] at HT6
  have HTL := hide hTL
  obtain ⟨hA1, hA2, _, _⟩ := picOk_parts hpA
  have HCA := hide (fun (u : World) (v : Value) (hv : IsPix u v A) (x y : Nat) => cut_any AW AH v A x y SW SH u hv)
  have HCE := hide (fun (x y : Nat) (hx : x + SW ≤ AW) (hy : y + SH ≤ AH) => cutE_nat (rw := SW) (rh := SH) hpA hS1.1 hS1.2 hx hy)
  have HSZ := hide (show (TX + SW ≤ AW ∧ TY + SH ≤ AH) ∧ (AW ≤ 64 ∧ AH ≤ 64) from ⟨hPI, by omega⟩)
  clear hr hE5 hTC hPI hTL hp hpA hpC hA1 hA2 hA hAW hAH hmd hk1 hk2 HTC HPI
  go_enter Tryd.func5, Tryd.ntmps5
  obtain ⟨p0, p1, p2⟩ := cells3 a1
  go_wp2_with fail
  clear p0 p1 p2
  generalize (w.alloc (Obj.cells #[.int .i64 (WN : Int), .int .i64 (HN : Int), .slice ao ps.length ca] 24)).alloc (Obj.cells #[.int .i64 (RX : Int), .int .i64 (RY : Int), .int .i64 (RW : Int), .int .i64 (RH : Int)] 26) = U at *
  have hU : Below U.heap.size U U := Below.refl _ _
  refine (HT1.out _ HB.out).mono ?_
  rintro e wa ⟨r, rfl, hr, hb, hfr⟩
  have HRa := hide hr
  obtain ⟨roa, rca, rfl, x1, x2⟩ := hr
  clear x1 x2 hfr
  obtain ⟨Na, hN⟩ : ∃ Na, (A : List Px).length = Na := ⟨_, rfl⟩
  rw [hN] at HRa ⊢
  clear hN
  have ga := al1 wa (Obj.cells #[.int .i64 (AW : Nat), .int .i64 (AH : Nat), .slice roa Na rca] 24)
  have hxa := bel_trans hb (bel_alloc wa (Obj.cells #[.int .i64 (AW : Nat), .int .i64 (AH : Nat), .slice roa Na rca] 24))
  replace HRa := hide (HRa.out.alloc (Obj.cells #[.int .i64 (AW : Nat), .int .i64 (AH : Nat), .slice roa Na rca] 24))
  clear hb
  replace hU := bel_trans hU hxa
  obtain ⟨pa0, pa1, pa2⟩ := cells3 ga
  go_wp2_with fail
  clear pa0 pa1 pa2
  generalize wa.alloc (Obj.cells #[.int .i64 (AW : Nat), .int .i64 (AH : Nat), .slice roa Na rca] 24) = Xa at *
  generalize wa.heap.size = Ba at *
  have HBUa := hide (HB.out.trans (hU.mono HB.out.size))
  refine (HT2.out _ HBUa.out _ HRa.out).mono ?_
  rintro e wb ⟨r, rfl, hr, hb, hfr⟩
  have HRb := hide hr
  obtain ⟨rob, rcb, rfl, x1, x2⟩ := hr
  clear x1 x2 hfr
  obtain ⟨Nb, hN⟩ : ∃ Nb, (BL : List Px).length = Nb := ⟨_, rfl⟩
  rw [hN] at HRb ⊢
  clear hN
  have gb := al1 wb (Obj.cells #[.int .i64 (BW : Nat), .int .i64 (BH : Nat), .slice rob Nb rcb] 24)
  have hxb := bel_trans hb (bel_alloc wb (Obj.cells #[.int .i64 (BW : Nat), .int .i64 (BH : Nat), .slice rob Nb rcb] 24))
  replace HRb := hide (HRb.out.alloc (Obj.cells #[.int .i64 (BW : Nat), .int .i64 (BH : Nat), .slice rob Nb rcb] 24))
  clear hb
  replace ga := (hxb.block _ (Array.getElem?_eq_some_iff.1 ga).1).trans ga
  replace HRa := hide (HRa.out.below hxb (Nat.le_refl _))
  replace hU := bel_trans hU hxb
  go_wp2_with fail
  generalize wb.alloc (Obj.cells #[.int .i64 (BW : Nat), .int .i64 (BH : Nat), .slice rob Nb rcb] 24) = Xb at *
  generalize wb.heap.size = Bb at *
  have HBUb := hide (HB.out.trans (hU.mono HB.out.size))
  refine (HK.out _ HBUb.out).mono ?_
  rintro e w3 ⟨rfl, hb3⟩
  have HB3 := hide (HBUb.out.trans (hb3.mono HBUb.out.size))
  go_wp2_with fail
  refine (HO.out _ HB3.out).mono ?_
  rintro e w4 ⟨rfl, hb4⟩
  have hx4 := bel_trans hb3 hb4
  replace ga := (hx4.block _ (Array.getElem?_eq_some_iff.1 ga).1).trans ga
  replace gb := (hx4.block _ (Array.getElem?_eq_some_iff.1 gb).1).trans gb
  replace HRa := hide (HRa.out.below hx4 (Nat.le_refl _))
  replace HRb := hide (HRb.out.below hx4 (Nat.le_refl _))
  replace hU := bel_trans hU hx4
  have HBU4 := hide (HB.out.trans (hU.mono HB.out.size))
  obtain ⟨p0, p1, p2⟩ := cells3 ga
  go_wp2_with fail
  clear p0 p1 p2
  refine (HT3.out _ HBU4.out _ HRa.out).mono ?_
  rintro e wc ⟨r, rfl, hr, hb, hfr⟩
  have HRc := hide hr
  obtain ⟨roc, rcc, rfl, x1, x2⟩ := hr
  clear x1 x2 hfr
  obtain ⟨Nc, hN⟩ : ∃ Nc, (ps : List Px).length = Nc := ⟨_, rfl⟩
  rw [hN] at HRc ⊢
  clear hN
  have gc := al1 wc (Obj.cells #[.int .i64 (WN : Nat), .int .i64 (HN : Nat), .slice roc Nc rcc] 24)
  have hxc := bel_trans hb (bel_alloc wc (Obj.cells #[.int .i64 (WN : Nat), .int .i64 (HN : Nat), .slice roc Nc rcc] 24))
  replace HRc := hide (HRc.out.alloc (Obj.cells #[.int .i64 (WN : Nat), .int .i64 (HN : Nat), .slice roc Nc rcc] 24))
  clear hb
  replace ga := (hxc.block _ (Array.getElem?_eq_some_iff.1 ga).1).trans ga
  replace HRa := hide (HRa.out.below hxc (Nat.le_refl _))
  replace gb := (hxc.block _ (Array.getElem?_eq_some_iff.1 gb).1).trans gb
  replace HRb := hide (HRb.out.below hxc (Nat.le_refl _))
  replace hU := bel_trans hU hxc
  obtain ⟨pq0, pq1, pq2⟩ := cells3 ((hU.block _ hl1).trans a1)
  go_wp2_with fail
  clear pq0 pq1 pq2
  generalize wc.alloc (Obj.cells #[.int .i64 (WN : Nat), .int .i64 (HN : Nat), .slice roc Nc rcc] 24) = Xc at *
  generalize wc.heap.size = Bc at *
  have HBUc := hide (HB.out.trans (hU.mono HB.out.size))
  refine (HT4.out _ HBUc.out).mono ?_
  rintro e wd ⟨r, rfl, hr, hb, hfr⟩
  have HRd := hide hr
  obtain ⟨rod, rcd, rfl, x1, x2⟩ := hr
  clear x1 x2 hfr
  obtain ⟨Nd, hN⟩ : ∃ Nd, (BL : List Px).length = Nd := ⟨_, rfl⟩
  rw [hN] at HRd ⊢
  clear hN
  have gd := al1 wd (Obj.cells #[.int .i64 (BW : Nat), .int .i64 (BH : Nat), .slice rod Nd rcd] 24)
  have hxd := bel_trans hb (bel_alloc wd (Obj.cells #[.int .i64 (BW : Nat), .int .i64 (BH : Nat), .slice rod Nd rcd] 24))
  replace HRd := hide (HRd.out.alloc (Obj.cells #[.int .i64 (BW : Nat), .int .i64 (BH : Nat), .slice rod Nd rcd] 24))
  clear hb
  replace ga := (hxd.block _ (Array.getElem?_eq_some_iff.1 ga).1).trans ga
  replace HRa := hide (HRa.out.below hxd (Nat.le_refl _))
  replace gb := (hxd.block _ (Array.getElem?_eq_some_iff.1 gb).1).trans gb
  replace HRb := hide (HRb.out.below hxd (Nat.le_refl _))
  replace gc := (hxd.block _ (Array.getElem?_eq_some_iff.1 gc).1).trans gc
  replace HRc := hide (HRc.out.below hxd (Nat.le_refl _))
  replace hU := bel_trans hU hxd
  obtain ⟨pc0, pc1, pc2⟩ := cells3 gc
  obtain ⟨pq0, pq1, pq2⟩ := cells3 ((hU.block _ hl1).trans a1)
  go_wp2_with fail
  clear pc0 pc1 pc2
  clear pq0 pq1 pq2
  generalize wd.alloc (Obj.cells #[.int .i64 (BW : Nat), .int .i64 (BH : Nat), .slice rod Nd rcd] 24) = Xd at *
  generalize wd.heap.size = Bd at *
  have HBUd := hide (HB.out.trans (hU.mono HB.out.size))
  refine (samePictures_any WN HN _ ps WN HN _ ps _ HRc.out (HV.out.below HBUd.out (Nat.le_refl _))).mono ?_
  rintro e w7 ⟨rfl, hb7⟩
  rw [show sameB WN HN ps WN HN ps = true by simp [sameB]]
  replace ga := (hb7.block _ (Array.getElem?_eq_some_iff.1 ga).1).trans ga
  replace HRa := hide (HRa.out.below hb7 (Nat.le_refl _))
  replace gb := (hb7.block _ (Array.getElem?_eq_some_iff.1 gb).1).trans gb
  replace HRb := hide (HRb.out.below hb7 (Nat.le_refl _))
  replace gc := (hb7.block _ (Array.getElem?_eq_some_iff.1 gc).1).trans gc
  replace HRc := hide (HRc.out.below hb7 (Nat.le_refl _))
  replace gd := (hb7.block _ (Array.getElem?_eq_some_iff.1 gd).1).trans gd
  replace HRd := hide (HRd.out.below hb7 (Nat.le_refl _))
  replace hU := bel_trans hU hb7
  have HBU7 := hide (HB.out.trans (hU.mono HB.out.size))
  obtain ⟨p0, p1, p2⟩ := cells3 gd
  obtain ⟨q0, q1, q2⟩ := cells3 gb
  go_wp2_with fail
  clear p0 p1 p2 q0 q1 q2
  refine (samePictures_any BW BH _ BL BW BH _ BL _ HRd.out HRb.out).mono ?_
  rintro e w8 ⟨rfl, hb8⟩
  rw [show sameB BW BH BL BW BH BL = true by simp [sameB]]
  replace ga := (hb8.block _ (Array.getElem?_eq_some_iff.1 ga).1).trans ga
  replace HRa := hide (HRa.out.below hb8 (Nat.le_refl _))
  clear gb gc gd HRb HRc HRd
  replace hU := bel_trans hU hb8
  have HBU8 := hide (HB.out.trans (hU.mono HB.out.size))
  obtain ⟨p0, p1, p2⟩ := cells3 ((hU.block _ hl1).trans a1)
  obtain ⟨q0, q1, q2, q3⟩ := cells4b (b := w.heap.size + 1) ((hU.block _ hl2).trans a2)
  go_wp2_with fail
  clear p0 p1 p2 q0 q1 q2 q3
  refine (HCQ.out _ HBU8.out).mono ?_
  rintro e wp ⟨r, rfl, hr, hb, hfr⟩
  have HRp := hide hr
  obtain ⟨rop, rcp, rfl, x1, x2⟩ := hr
  clear x1 x2 hfr
  obtain ⟨Np, hN⟩ : ∃ Np, (CL : List Px).length = Np := ⟨_, rfl⟩
  rw [hN] at HRp ⊢
  clear hN
  have gp := al1 wp (Obj.cells #[.int .i64 (RW : Nat), .int .i64 (RH : Nat), .slice rop Np rcp] 24)
  have hxp := bel_trans hb (bel_alloc wp (Obj.cells #[.int .i64 (RW : Nat), .int .i64 (RH : Nat), .slice rop Np rcp] 24))
  replace HRp := hide (HRp.out.alloc (Obj.cells #[.int .i64 (RW : Nat), .int .i64 (RH : Nat), .slice rop Np rcp] 24))
  clear hb
  replace ga := (hxp.block _ (Array.getElem?_eq_some_iff.1 ga).1).trans ga
  replace HRa := hide (HRa.out.below hxp (Nat.le_refl _))
  replace hU := bel_trans hU hxp
  obtain ⟨pp0, pp1, pp2⟩ := cells3 gp
  go_wp2_with fail
  clear pp0 pp1 pp2
  generalize wp.alloc (Obj.cells #[.int .i64 (RW : Nat), .int .i64 (RH : Nat), .slice rop Np rcp] 24) = Xp at *
  generalize wp.heap.size = Bp at *
  have HBUp := hide (HB.out.trans (hU.mono HB.out.size))
  refine (HT6.out _ HBUp.out _ HRp.out).mono ?_
  rintro e wt ⟨r, rfl, hr, hb, hfr⟩
  have HRt := hide hr
  obtain ⟨rot, rct, rfl, x1, x2⟩ := hr
  clear x1 x2 hfr
  obtain ⟨Nt, hN⟩ : ∃ Nt, (TL : List Px).length = Nt := ⟨_, rfl⟩
  rw [hN] at HRt ⊢
  clear hN
  have gt := al1 wt (Obj.cells #[.int .i64 (SW : Nat), .int .i64 (SH : Nat), .slice rot Nt rct] 24)
  have hxt := bel_trans hb (bel_alloc wt (Obj.cells #[.int .i64 (SW : Nat), .int .i64 (SH : Nat), .slice rot Nt rct] 24))
  replace HRt := hide (HRt.out.alloc (Obj.cells #[.int .i64 (SW : Nat), .int .i64 (SH : Nat), .slice rot Nt rct] 24))
  clear hb
  replace ga := (hxt.block _ (Array.getElem?_eq_some_iff.1 ga).1).trans ga
  replace HRa := hide (HRa.out.below hxt (Nat.le_refl _))
  replace gp := (hxt.block _ (Array.getElem?_eq_some_iff.1 gp).1).trans gp
  replace HRp := hide (HRp.out.below hxt (Nat.le_refl _))
  replace hU := bel_trans hU hxt
  go_wp2_with fail
  generalize wt.alloc (Obj.cells #[.int .i64 (SW : Nat), .int .i64 (SH : Nat), .slice rot Nt rct] 24) = Xt at *
  generalize wt.heap.size = Bt at *
  have HBUt := hide (HB.out.trans (hU.mono HB.out.size))
  obtain ⟨⟨hz1, hz2⟩, hz3, hz4⟩ := HSZ.out
  clear gp HRp
  have lga := (Array.getElem?_eq_some_iff.1 ga).1
  have lgt := (Array.getElem?_eq_some_iff.1 gt).1
  go_loopw [25] (fun i wr => ∃ y : Nat, y ≤ TY ∧ i = .int .i64 y ∧ Below Xt.heap.size Xt wr) (fun i _ => TY + 1 - (intOf i).toNat)
  case atStart => exact ⟨0, Nat.zero_le _, rfl, Below.refl _ _⟩
  case round =>
    obtain ⟨y, hy, rfl, hbr⟩ := hrel
    obtain ⟨p0, p1, p2⟩ := cells3 ((hbr.block _ lga).trans ga)
    obtain ⟨q0, q1, q2⟩ := cells3 ((hbr.block _ lgt).trans gt)
    have hd : decide ((y : Int) + (SH : Int) ≤ (AH : Int)) = true := decide_eq_true (by omega)
    go_wp2_with fail
    clear p0 p1 p2 q0 q1 q2
    go_loopw [26] (fun i ws => ∃ x : Nat, (y = TY → x ≤ TX) ∧ x ≤ AW + 1 ∧ i = .int .i64 x ∧ Below Xt.heap.size Xt ws) (fun i _ => AW + 2 - (intOf i).toNat)
    case atStart => exact ⟨0, fun _ => Nat.zero_le _, by omega, rfl, hbr⟩
    case round =>
      obtain ⟨x, hx, hx2, rfl, hbs⟩ := hrel
      clear hbr
      obtain ⟨p0, p1, p2⟩ := cells3 ((hbs.block _ lga).trans ga)
      obtain ⟨q0, q1, q2⟩ := cells3 ((hbs.block _ lgt).trans gt)
      by_cases hlt : x + SW ≤ AW
      · have hdx : decide ((x : Int) + (SW : Int) ≤ (AW : Int)) = true := decide_eq_true (by omega)
        go_wp2_with fail
        clear p0 p1 p2 q0 q1 q2
        have hC := HCA.out _ _ (HRa.out.below hbs (Nat.le_refl _)) x y
        rw [HCE.out x y hlt (by omega), show okL 0 (cutL (AW : Int).toNat A (x : Int).toNat (y : Int).toNat (SW : Int).toNat (SH : Int).toNat) = cutL AW A x y SW SH from rfl, show okW 0 (SW : Int) = SW from rfl, show okW 0 (SH : Int) = SH from rfl] at hC
        refine hC.mono ?_
        rintro e w9 ⟨r, rfl, hr, hb9, hfr⟩
        have HRs := hide hr
        obtain ⟨ros, rcs, rfl, x1, x2⟩ := hr
        clear x1 x2 hfr hC
        obtain ⟨NS, hNS⟩ : ∃ NS, (cutL AW A x y SW SH).length = NS := ⟨_, rfl⟩
        rw [hNS] at HRs ⊢
        clear hNS
        have gs := al1 w9 (Obj.cells #[.int .i64 (SW : Nat), .int .i64 (SH : Nat), .slice ros NS rcs] 24)
        have hb10 := bel_trans hbs (bel_trans hb9 (bel_alloc w9 (Obj.cells #[.int .i64 (SW : Nat), .int .i64 (SH : Nat), .slice ros NS rcs] 24)))
        replace HRs := hide (HRs.out.alloc (Obj.cells #[.int .i64 (SW : Nat), .int .i64 (SH : Nat), .slice ros NS rcs] 24))
        obtain ⟨p0, p1, p2⟩ := cells3 gs
        obtain ⟨q0, q1, q2⟩ := cells3 ((hb10.block _ lgt).trans gt)
        go_wp2_with fail
        clear p0 p1 p2 q0 q1 q2 gs
        generalize w9.alloc (Obj.cells #[.int .i64 (SW : Nat), .int .i64 (SH : Nat), .slice ros NS rcs] 24) = Ys at *
        generalize w9.heap.size = Bs at *
        refine (samePictures_any SW SH _ (cutL AW A x y SW SH) SW SH _ TL _ HRs.out (HRt.out.below hb10 (Nat.le_refl _))).mono ?_
        rintro e w10 ⟨rfl, hb11⟩
        have hb12 := bel_trans hb10 hb11
        obtain ⟨EQ, hEQ⟩ : ∃ EQ, sameB SW SH (cutL AW A x y SW SH) SW SH TL = EQ := ⟨_, rfl⟩
        rw [hEQ]
        have HEQ := hide hEQ
        clear hEQ
        cases hE : EQ
        · have hne : ¬ (y = TY ∧ x = TX) := by
            rintro ⟨rfl, rfl⟩
            have h := HEQ.out
            rw [HTL.out, hE] at h
            simp [sameB] at h
          go_wp2
          go_roundw
          case rel => exact ⟨x + 1, fun h => by have := hx h; omega, by omega, by go_num, hb12⟩
          case measure => simp [intOf]; omega
        · have HBE := hide (HBUt.out.trans (hb12.mono HBUt.out.size))
          go_wp2_with fail
          refine (HG.out _ HBE.out).mono ?_
          rintro e V0 ⟨rfl, hbv⟩
          go_wp2
          go_ret
          exact ⟨rfl, HBE.out.trans (hbv.mono HBE.out.size)⟩
      · have hdx : decide ((x : Int) + (SW : Int) ≤ (AW : Int)) = false := decide_eq_false (by omega)
        have hyT : y < TY := by
          rcases Nat.eq_or_lt_of_le hy with e | h
          · have := hx e; omega
          · exact h
        go_wp2
        go_roundw
        case rel => exact ⟨y + 1, by omega, by go_num, hbs⟩
        case measure => simp [intOf]; omega
end Go.Proofs.YtolcndchfnifhacDoor

namespace Go.Proofs.YtolcndchfnifhacDoor
open Go.RowKit Go.ChangeShapes
set_option linter.unusedVariables false
theorem moves_row {H : Type} {enc : TypeId × Value → H} {P : Program} {w : World} {base : Nat} {sp : Nat → Bool} {held : Bool} {fuel : Nat} {t e tb : TypeId} {f0 f1 f2 : Field} {cs : List Value} {p : List MemPlace} {ms : List Mv}
    (ht : P.underlying t = some (.array 8 e)) (he : P.underlying e = some (.struct #[f0, f1, f2])) (h0 : f0.type = tb) (h1 : f1.type = tb) (h2 : f2.type = tb) (o0 : f0.offset = 0) (o1 : f1.offset = 1) (o2 : f2.offset = 2) (hb : P.underlying tb = some .bool) (cb : P.cellsOf tb = 1) (ce : P.cellsOf e = 3)
    (h : DataW.trod enc P w base sp held fuel t cs = some (.agg (ms.map fun m => .agg [.lit (.bool m.1), .lit (.bool m.2.1), .lit (.bool m.2.2)]), p)) (i : Nat) (hi : i < 8) (m : Mv) (hm : ms[i]? = some m) :
    cs[i * 3]? = some (.bool m.1) ∧ cs[i * 3 + 1]? = some (.bool m.2.1) ∧ cs[i * 3 + 2]? = some (.bool m.2.2) := by
  obtain ⟨xs, n, _, hx, _, hl, hel⟩ := DataW.trod_array ht h
  have hE := hel i hi
  rw [ce, List.getElem?_eq_getElem (by omega)] at hE
  obtain ⟨ys, n2, _, hy, _, hyl, hye⟩ := DataW.trod_struct he hE
  have hyl' : ys.length = 3 := hyl
  have e0 := hye 0 f0 rfl
  have e1 := hye 1 f1 rfl
  have e2 := hye 2 f2 rfl
  rw [h0, o0, cb, List.getElem?_eq_getElem (by omega)] at e0
  rw [h1, o1, cb, List.getElem?_eq_getElem (by omega)] at e1
  rw [h2, o2, cb, List.getElem?_eq_getElem (by omega)] at e2
  obtain ⟨b0, c0, y0⟩ := DataW.trod_bool hb e0
  obtain ⟨b1, c1, y1⟩ := DataW.trod_bool hb e1
  obtain ⟨b2, c2, y2⟩ := DataW.trod_bool hb e2
  have hxi : (xs.map (·.1))[i]? = some (.agg [.lit (.bool m.1), .lit (.bool m.2.1), .lit (.bool m.2.2)]) := by
    have := congrArg Prod.fst hx
    simp only at this
    have h3 : ms.map (fun m => (DataW.agg [.lit (.bool m.1), .lit (.bool m.2.1), .lit (.bool m.2.2)] : DataW H)) = xs.map (·.1) := by
      have h4 := this
      simp only [DataW.agg.injEq] at h4
      exact h4
    rw [← h3, List.getElem?_map, hm]
    rfl
  rw [List.getElem?_map, List.getElem?_eq_getElem (by omega), hy] at hxi
  have hyy : ys.map (·.1) = [.lit (.bool m.1), .lit (.bool m.2.1), .lit (.bool m.2.2)] := by
    simpa using hxi
  have z0 : (ys.map (·.1))[0]? = some (DataW.lit (.bool b0) : DataW H) := by rw [List.getElem?_map, List.getElem?_eq_getElem (by omega), y0]; rfl
  have z1 : (ys.map (·.1))[1]? = some (DataW.lit (.bool b1) : DataW H) := by rw [List.getElem?_map, List.getElem?_eq_getElem (by omega), y1]; rfl
  have z2 : (ys.map (·.1))[2]? = some (DataW.lit (.bool b2) : DataW H) := by rw [List.getElem?_map, List.getElem?_eq_getElem (by omega), y2]; rfl
  rw [hyy] at z0 z1 z2
  simp at z0 z1 z2
  subst z0 z1 z2
  have g : ∀ (k : Nat) (v : Value), ((((cs.drop (i * 3)).take 3).drop k).take 1) = [v] → k < 3 → cs[i * 3 + k]? = some v := fun k v hk hk3 => by
    have h0 : ((((cs.drop (i * 3)).take 3).drop k).take 1)[0]? = some v := by rw [hk]; rfl
    rw [List.getElem?_take_of_lt (by omega), List.getElem?_drop, List.getElem?_take_of_lt (by omega), List.getElem?_drop] at h0
    exact h0
  exact ⟨g 0 _ c0 (by omega), g 1 _ c1 (by omega), g 2 _ c2 (by omega)⟩
theorem gMoves : Tryd.prog.globalNamed "darkslide/turn.moves" = some 0 := by kernel_rfl
theorem gMovesType : (Tryd.prog.globals[0]?).map (·.type) = some 68 := by kernel_rfl
theorem cellsMove : Tryd.prog.cellsOf 55 = 3 := by kernel_rfl
theorem cellsBool : Tryd.prog.cellsOf 4 = 1 := by kernel_rfl
theorem moves_laid {W : World} {rest : List (String × DataW Unit)} (h : laidMet Tryd.prog (("darkslide/turn.moves", Rows.laid_darkslide_turn_moves) :: rest) W) : MovesAt W := by
  obtain ⟨ps, ⟨g', t', cs, fuel, p, q, hg', ht', hvar, hd, _, _⟩, _⟩ := h
  obtain rfl := Option.some.inj (gMoves.symm.trans hg')
  obtain rfl := Option.some.inj (gMovesType.symm.trans ht')
  have hrow := fun i hi m hm => moves_row (ms := mvL) Tryd.underlying68 Tryd.underlying55 rfl rfl rfl rfl rfl rfl Tryd.underlying4 cellsBool cellsMove hd i hi m hm
  have hcell := fun i => World.var?_cell gMoves hvar i
  have key : ∀ k, k < 8 → W.cell? ⟨0, k * 3, none⟩ = some (.bool (mvAt k).1) ∧ W.cell? ⟨0, k * 3 + 1, none⟩ = some (.bool (mvAt k).2.1) ∧ W.cell? ⟨0, k * 3 + 2, none⟩ = some (.bool (mvAt k).2.2) := fun k hk => by
    have hmk : mvL[k]? = some (mvAt k) := by
      unfold mvAt
      rw [List.getD_eq_getElem?_getD, List.getElem?_eq_getElem (show k < mvL.length from hk)]
      rfl
    obtain ⟨c0, c1, c2⟩ := hrow k hk _ hmk
    refine ⟨?_, ?_, ?_⟩
    · rw [hcell]; simpa using c0
    · rw [hcell]; simpa using c1
    · rw [hcell]; simpa using c2
  exact ⟨World.block_lt_of_cell? W _ (key 0 (by omega)).1, key⟩
end Go.Proofs.YtolcndchfnifhacDoor

namespace Go.Proofs.YtolcndchfnifhacDoor
abbrev Pt := Int × Int
def ptAt (ls : List Pt) (i : Nat) : Pt := ls.getD i (0, 0)
structure IsCurve (ls : List Pt) : Prop where
  two : 2 ≤ ls.length
  most : ls.length ≤ 16
  first : (ptAt ls 0).1 = 0
  last : (ptAt ls (ls.length - 1)).1 = 65535
  y : ∀ k, k < ls.length → 0 ≤ (ptAt ls k).2 ∧ (ptAt ls k).2 ≤ 65535
  step : ∀ k, k + 1 < ls.length → (ptAt ls k).1 < (ptAt ls (k + 1)).1 ∧ (ptAt ls k).2 ≤ (ptAt ls (k + 1)).2
theorem IsCurve.lt {ls : List Pt} (h : IsCurve ls) (i d : Nat) (hj : i + d + 1 < ls.length) : (ptAt ls i).1 < (ptAt ls (i + d + 1)).1 ∧ (ptAt ls i).2 ≤ (ptAt ls (i + d + 1)).2 := by
  induction d with
  | zero => exact h.step i hj
  | succ d ih =>
    have h1 := ih (by omega)
    have h2 := h.step (i + d + 1) (by omega)
    rw [show i + (d + 1) + 1 = i + d + 1 + 1 by omega]
    omega
theorem IsCurve.x {ls : List Pt} (h : IsCurve ls) (k : Nat) (hk : k < ls.length) : 0 ≤ (ptAt ls k).1 ∧ (ptAt ls k).1 ≤ 65535 := by
  have h1 := h.first
  have h2 := h.last
  have h3 := h.two
  constructor
  · rcases Nat.eq_zero_or_pos k with rfl | hp
    · omega
    · have := (h.lt 0 (k - 1) (by omega)).1
      rw [show 0 + (k - 1) + 1 = k by omega] at this
      omega
  · rcases Nat.eq_or_lt_of_le (show k ≤ ls.length - 1 by omega) with e | hlt
    · rw [e]; omega
    · have := (h.lt k (ls.length - 1 - k - 1) (by omega)).1
      rw [show k + (ls.length - 1 - k - 1) + 1 = ls.length - 1 by omega] at this
      omega
end Go.Proofs.YtolcndchfnifhacDoor

namespace Go.Proofs.YtolcndchfnifhacDoor
open Go.RowKit
def IsPts (w : World) (v : Value) (ls : List Pt) : Prop :=
  ∃ ao cap, v = .slice ao ls.length cap ∧ ls.length ≤ 9223372036854775807 ∧ (ls = [] ∨ ∃ b off, ao = some ⟨b, off, none⟩ ∧ b < w.heap.size ∧ ∀ j, j < ls.length →
    w.cell? ⟨b, off + j * 2, none⟩ = some (.int .i64 (ptAt ls j).1) ∧ w.cell? ⟨b, off + j * 2 + 1, none⟩ = some (.int .i64 (ptAt ls j).2))
theorem IsPts.below {w w' : World} {v : Value} {ls : List Pt} {B : Nat} (h : IsPts w v ls) (hb : Below B w w') (hB : w.heap.size ≤ B) : IsPts w' v ls := by
  obtain ⟨ao, cap, hv, hl, h⟩ := h
  refine ⟨ao, cap, hv, hl, ?_⟩
  rcases h with h | ⟨b, off, ha, hlt, hc⟩
  · exact .inl h
  · refine .inr ⟨b, off, ha, Nat.lt_of_lt_of_le hlt hb.size, fun j hj => ?_⟩
    rw [hb.cell (p := ⟨b, off + j * 2, none⟩) (by exact Nat.lt_of_lt_of_le hlt hB), hb.cell (p := ⟨b, off + j * 2 + 1, none⟩) (by exact Nat.lt_of_lt_of_le hlt hB)]
    exact hc j hj
theorem IsPts.alloc {w : World} {v : Value} {ls : List Pt} (h : IsPts w v ls) (o : Obj) : IsPts (w.alloc o) v ls :=
  h.below ((Below.refl _ _).alloc (Nat.le_refl _) o) (Nat.le_refl _)
theorem IsPts.nil (w : World) : IsPts w (.slice none 0 0) [] := ⟨none, 0, rfl, by simp, .inl rfl⟩
end Go.Proofs.YtolcndchfnifhacDoor

namespace Go.Proofs.YtolcndchfnifhacDoor
open Go.RowKit Go.ChangeShapes
theorem list_of {α : Type} (P : Nat → α → Prop) (n : Nat) (h : ∀ i, i < n → ∃ p, P i p) (d : α) : ∃ ls : List α, ls.length = n ∧ ∀ i, i < n → P i (ls.getD i d) := by
  induction n with
  | zero => exact ⟨[], rfl, fun i hi => by omega⟩
  | succ n ih =>
    obtain ⟨ls, hl, hp⟩ := ih (fun i hi => h i (by omega))
    obtain ⟨p, hp'⟩ := h n (by omega)
    refine ⟨ls ++ [p], by simp [hl], fun i hi => ?_⟩
    rcases Nat.eq_or_lt_of_le (show i ≤ n by omega) with e | hlt
    · subst e
      rw [List.getD_eq_getElem?_getD, List.getElem?_append_right (by omega), hl]
      simpa using hp'
    · rw [List.getD_eq_getElem?_getD, List.getElem?_append_left (by omega), ← List.getD_eq_getElem?_getD]
      exact hp i hlt
end Go.Proofs.YtolcndchfnifhacDoor

namespace Go.Proofs.YtolcndchfnifhacDoor
open Go.RowKit Go.ChangeShapes
theorem cellsQ3 {W : World} {base : Nat} {a : Addr} {cs : List Value} (h : W.cells? base a 3 = some cs) : ∃ x y z, cs = [x, y, z] ∧ W.cell? (a.add 0) = some x ∧ W.cell? (a.add 1) = some y ∧ W.cell? (a.add 2) = some z := by
  obtain ⟨_, hl, hc⟩ := World.cells?_some h
  match cs, hl with
  | [x, y, z], _ => exact ⟨x, y, z, rfl, hc 0 (by omega), hc 1 (by omega), hc 2 (by omega)⟩
theorem pix_open {P : Program} {H : Type} {enc : TypeId × Value → H} {W : World} {base : Nat} {spare : Nat → Bool} {held : Bool} {fuel : Nat} {t e : TypeId} {f0 f1 f2 : Field} {v : Value} {x : DataW H × List MemPlace}
    (ht : P.underlying t = some (.slice e)) (he : P.underlying e = some (.struct #[f0, f1, f2])) (h0 : P.underlying f0.type = some (.int .i64)) (h1 : P.underlying f1.type = some (.int .i64)) (h2 : P.underlying f2.type = some (.int .i64)) (o0 : f0.offset = 0) (o1 : f1.offset = 1) (o2 : f2.offset = 2)
    (ce : P.cellsOf e = 3) (c0 : P.cellsOf f0.type = 1) (c1 : P.cellsOf f1.type = 1) (c2 : P.cellsOf f2.type = 1) (h : DataW.trod enc P W base spare held fuel t [v] = some x) : ∃ ps, IsPix W v ps := by
  rcases DataW.trod_slice ht h with ⟨hcs, _⟩ | ⟨a, len, cap, elems, rest, n, _, hcs, _, hb, hl, hm, hlen, hel, _, _⟩
  · simp at hcs
    subst hcs
    exact ⟨[], IsPix.nil _⟩
  · simp at hcs
    subst hcs
    have each : ∀ i, i < len → ∃ p : Px, W.cell? ((a.add (i * 3)).add 0) = some (.int .i64 p.1) ∧ W.cell? ((a.add (i * 3)).add 1) = some (.int .i64 p.2.1) ∧ W.cell? ((a.add (i * 3)).add 2) = some (.int .i64 p.2.2) := by
      intro i hi
      have h2' := hel i hi
      rw [List.getElem?_eq_getElem (by omega), ce, Option.bind_eq_some_iff] at h2'
      obtain ⟨cs, hc, hy⟩ := h2'
      obtain ⟨p, q, r, rfl, hp, hq, hr⟩ := cellsQ3 hc
      obtain ⟨xs, m, _, _, _, hxl, hx⟩ := DataW.trod_struct he hy
      have g0 := hx 0 f0 rfl
      have g1 := hx 1 f1 rfl
      have g2 := hx 2 f2 rfl
      rw [o0, c0, List.getElem?_eq_getElem (by rw [hxl]; simp)] at g0
      rw [o1, c1, List.getElem?_eq_getElem (by rw [hxl]; simp)] at g1
      rw [o2, c2, List.getElem?_eq_getElem (by rw [hxl]; simp)] at g2
      obtain ⟨z0, e0, _, _⟩ := DataW.trod_int h0 g0
      obtain ⟨z1, e1, _, _⟩ := DataW.trod_int h1 g1
      obtain ⟨z2, e2, _, _⟩ := DataW.trod_int h2 g2
      simp at e0 e1 e2
      subst e0 e1 e2
      exact ⟨(z0, z1, z2), hp, hq, hr⟩
    obtain ⟨ls, hll, hls⟩ := list_of _ len each (0, 0, 0)
    unfold maxLen at hm
    refine ⟨ls, some a, cap, by rw [hll], by omega, ?_⟩
    by_cases hz : len = 0
    · exact .inl (List.eq_nil_of_length_eq_zero (by omega))
    · right
      obtain ⟨b, off, spot⟩ := a
      have hspot : spot = none := by simpa [Addr.add] using World.cell?_spot (hls 0 (by omega)).1
      subst hspot
      have hk : ∀ j (hj : j < ls.length), W.cell? ⟨b, off + j * 3, none⟩ = some (.int .i64 ls[j].1) ∧ W.cell? ⟨b, off + j * 3 + 1, none⟩ = some (.int .i64 ls[j].2.1) ∧ W.cell? ⟨b, off + j * 3 + 2, none⟩ = some (.int .i64 ls[j].2.2) := by
        intro j hj
        have h2' := hls j (by omega)
        rw [Go.WideShapes.add_plain, Go.WideShapes.add_plain, Go.WideShapes.add_plain, Go.WideShapes.add_plain] at h2'
        rw [pxAt_get ls j hj]
        exact h2'
      exact ⟨b, off, rfl, World.block_lt_of_cell? W _ (hk 0 (by omega)).1, hk⟩
end Go.Proofs.YtolcndchfnifhacDoor

namespace Go.Proofs.YtolcndchfnifhacDoor
open Go.RowKit Go.ChangeShapes
set_option linter.unusedVariables false
theorem aggCells {P : Program} {H : Type} {enc : TypeId × Value → H} {W : World} {base b0 : Nat} {spare : Nat → Bool} {held : Bool} {r : Reach} {t : TypeId} {fs : Array Field} {v : Value} {d : DataW H} {p : List MemPlace}
    (ht : P.underlying t = some (.struct fs)) (hv : Value.okWide P W r b0 t v) (h : DataW.Trod enc P W base spare held t v d p) : ∃ cs fuel, v = .agg cs ∧ DataW.trod enc P W base spare held fuel t cs.toList = some (d, p) := by
  obtain ⟨cs, rfl, _, _⟩ : ∃ cs, v = .agg cs ∧ cs.size = P.cellsOf t ∧ Row.okWide P W r b0 t cs := by
    simpa [Value.okWide, ht] using hv
  obtain ⟨fuel, hf⟩ := h
  exact ⟨cs, fuel, rfl, hf⟩
theorem slotGet {cs : List Value} {a : Nat} {v : Value} (h : (cs.drop a).take 1 = [v]) : cs[a]? = some v := by
  have h0 : ((cs.drop a).take 1)[0]? = some v := by rw [h]; rfl
  simpa using h0
theorem rect_open {P : Program} {H : Type} {enc : TypeId × Value → H} {W : World} {base : Nat} {spare : Nat → Bool} {held : Bool} {fuel : Nat} {t ti : TypeId} {g0 g1 g2 g3 : Field} {cs : List Value} {x : DataW H × List MemPlace}
    (ht : P.underlying t = some (.struct #[g0, g1, g2, g3])) (hi : P.underlying ti = some (.int .i64)) (ci : P.cellsOf ti = 1) (ct : P.cellsOf t = 4)
    (y0 : g0.type = ti) (y1 : g1.type = ti) (y2 : g2.type = ti) (y3 : g3.type = ti) (o0 : g0.offset = 0) (o1 : g1.offset = 1) (o2 : g2.offset = 2) (o3 : g3.offset = 3)
    (h : DataW.trod enc P W base spare held fuel t cs = some x) : ∃ a b c d : Int, cs = [.int .i64 a, .int .i64 b, .int .i64 c, .int .i64 d] := by
  obtain ⟨xs, m, _, _, hl, hxl, hx⟩ := DataW.trod_struct ht h
  rw [ct] at hl
  have hxl' : xs.length = 4 := hxl
  have e0 := hx 0 g0 rfl
  have e1 := hx 1 g1 rfl
  have e2 := hx 2 g2 rfl
  have e3 := hx 3 g3 rfl
  rw [o0, y0, ci, List.getElem?_eq_getElem (by omega)] at e0
  rw [o1, y1, ci, List.getElem?_eq_getElem (by omega)] at e1
  rw [o2, y2, ci, List.getElem?_eq_getElem (by omega)] at e2
  rw [o3, y3, ci, List.getElem?_eq_getElem (by omega)] at e3
  obtain ⟨a, p0, _, _⟩ := DataW.trod_int hi e0
  obtain ⟨b, p1, _, _⟩ := DataW.trod_int hi e1
  obtain ⟨c, p2, _, _⟩ := DataW.trod_int hi e2
  obtain ⟨d, p3, _, _⟩ := DataW.trod_int hi e3
  have q0 := slotGet p0
  have q1 := slotGet p1
  have q2 := slotGet p2
  have q3 := slotGet p3
  match cs, hl with
  | [c0, c1, c2, c3], _ =>
    simp at q0 q1 q2 q3
    subst q0 q1 q2 q3
    exact ⟨a, b, c, d, rfl⟩
end Go.Proofs.YtolcndchfnifhacDoor
