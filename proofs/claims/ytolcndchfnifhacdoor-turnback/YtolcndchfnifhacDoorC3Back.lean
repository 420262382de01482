/- Back: part 3 of what the proofs need. -/
import Derived.Test.YtolcndchfnifhacDoorC1Back
import Derived.Test.YtolcndchfnifhacDoorC2Back
import Derived.Deep.AppendLies
namespace Go.Proofs.YtolcndchfnifhacDoor
set_option linter.unusedVariables false
open Go.RowKit
def turnE (W H : Int) (ps : List Px) (how : Int) : Int := if picOk W H ps = true then howE how else 1
theorem mvOf_ok {how : Int} (h : howOk how = true) : ∃ k : Nat, k < 8 ∧ how = (k : Int) + 1 ∧ mvOf how = mvAt k := by
  have hh : 1 ≤ how ∧ how ≤ 8 := by simpa [howOk] using h
  refine ⟨how.toNat - 1, by omega, by omega, by rw [mvOf, if_pos h]⟩
theorem turnedN_le {m : Mv} {W H : Nat} (hW : W ≤ 64) (hH : H ≤ 64) : turnedN m W H ≤ 64 := by unfold turnedN; split <;> assumption
set_option maxRecDepth 100000 in
set_option maxHeartbeats 3200000 in
theorem turn_any (W H : Int) (v : Value) (ps : List Px) (how : Int) (w : World) (hm : MovesAt w) (hv : IsPix w v ps) :
    Calls Tryd.prog 11 #[.agg #[.int .i64 W, .int .i64 H, v], .int .i64 how] w fun e w' => ∃ r, e = .returned (.tuple #[.agg #[.int .i64 (okW (turnE W H ps how) (turnedW (mvOf how) W H)), .int .i64 (okW (turnE W H ps how) (turnedW (mvOf how) H W)), r], .int .i64 (turnE W H ps how)]) ∧ IsPix w' r (okL (turnE W H ps how) (turnL W.toNat H.toNat ps (mvOf how))) ∧ Below w.heap.size w w' ∧ Fresh w.heap.size r := by
  have HM := hide hm
  have HV := hide hv
  obtain ⟨ao, ca, rfl, hla, hc⟩ := hv
  clear hm
  obtain ⟨a1, a2⟩ := al2 w (Obj.cells #[.int .i64 W, .int .i64 H, .slice ao ps.length ca] 24) (Obj.cells #[.int .i64 0, .int .i64 0, .slice none 0 0] 24)
  have HB := hide (be2 w (Obj.cells #[.int .i64 W, .int .i64 H, .slice ao ps.length ca] 24) (Obj.cells #[.int .i64 0, .int .i64 0, .slice none 0 0] 24))
  have HTE := hide (show turnE W H ps how = if picOk W H ps = true then howE how else 1 from rfl)
  obtain ⟨E, hE⟩ : ∃ E, turnE W H ps how = E := ⟨_, rfl⟩
  rw [hE] at HTE ⊢
  clear hE
  obtain ⟨M, hMV⟩ : ∃ M, mvOf how = M := ⟨_, rfl⟩
  rw [hMV]
  have HMV := hide hMV
  clear hMV
  have hl1 := (Array.getElem?_eq_some_iff.1 a1).1
  have hl2 := (Array.getElem?_eq_some_iff.1 a2).1
  have ERR : ∀ (V : World) (E : Int), E ≠ 0 → Below w.heap.size w V → ∃ r, (Ending.returned (.tuple #[.agg #[.int .i64 0, .int .i64 0, .slice none 0 0], .int .i64 E]) = .returned (.tuple #[.agg #[.int .i64 (okW E (turnedW (M) W H)), .int .i64 (okW E (turnedW (M) H W)), r], .int .i64 E])) ∧ IsPix V r (okL E (turnL W.toNat H.toNat ps (M))) ∧ Below w.heap.size w V ∧ Fresh w.heap.size r := fun V E hE hB => by
    refine ⟨.slice none 0 0, ?_, ?_, hB, Fresh.nil _⟩
    · rw [okW, if_neg hE, okW, if_neg hE]
    · rw [okL, if_neg hE]; exact IsPix.nil _
  have HERR := hide ERR
  clear ERR
  go_enter Tryd.func11, Tryd.ntmps11
  obtain ⟨p0, p1, p2⟩ := cells3 a1
  go_wp2_with fail
  clear p0 p1 p2
  generalize (w.alloc (Obj.cells #[.int .i64 W, .int .i64 H, .slice ao ps.length ca] 24)).alloc (Obj.cells #[.int .i64 0, .int .i64 0, .slice none 0 0] 24) = U at *
  refine (picture_any W H _ ps _ (HV.out.below HB.out (Nat.le_refl _))).mono ?_
  rintro e V1 ⟨rfl, hb1⟩
  have HB1 := hide (HB.out.trans (hb1.mono HB.out.size))
  by_cases hp : picOk W H ps = true
  case neg =>
    rw [if_neg hp] at HTE
    have hp2 : picOk W H ps = false := by simpa using hp
    obtain rfl : E = 1 := HTE.out
    rw [hp2]
    have g := (hb1.block _ hl2).trans a2
    obtain ⟨z0, z1, z2⟩ := cells3 g
    have f0 := Lib.frozen_of_heap g 0
    have f1 := Lib.frozen_of_heap g 1
    have f2 := Lib.frozen_of_heap g 2
    have HF := hide (set3_below HB1.out (show w.heap.size ≤ w.heap.size + 1 by omega) (.int .i64 0) (.int .i64 0) (.slice none 0 0))
    go_wp2
    exact bodyPost_ret (v := .tuple #[.agg #[.int .i64 0, .int .i64 0, .slice none 0 0], .int .i64 1]) (by simp [results, Tryd.results11, go_sem, z0, z1, z2]) rfl (HERR.out _ 1 (by decide) HF.out)
  rw [if_pos hp] at HTE
  rw [hp]
  obtain ⟨hg1, hg2, hg3, hg4⟩ := picOk_parts hp
  go_wp2_with fail
  by_cases hk : howOk how = true
  case neg =>
    have hk2 : howOk how = false := by simpa using hk
    obtain rfl : E = 3 := by rw [HTE.out, howE, if_neg hk]
    refine (moveOf_no how hk2 V1).mono ?_
    rintro e V2 ⟨rfl, hb2⟩
    have hb2' := bel_trans (bel_trans hb1 hb2) (bel_alloc V2 (Obj.cells #[.bool false, .bool false, .bool false] 55))
    have g := (hb2'.block _ hl2).trans a2
    obtain ⟨z0, z1, z2⟩ := cells3 g
    have f0 := Lib.frozen_of_heap g 0
    have f1 := Lib.frozen_of_heap g 1
    have f2 := Lib.frozen_of_heap g 2
    have HF := hide (set3_below (HB.out.trans (hb2'.mono HB.out.size)) (show w.heap.size ≤ w.heap.size + 1 by omega) (.int .i64 0) (.int .i64 0) (.slice none 0 0))
    go_wp2
    exact bodyPost_ret (v := .tuple #[.agg #[.int .i64 0, .int .i64 0, .slice none 0 0], .int .i64 3]) (by simp [results, Tryd.results11, go_sem, z0, z1, z2]) rfl (HERR.out _ 3 (by decide) HF.out)
  obtain rfl : E = 0 := by rw [HTE.out, howE, if_pos hk]
  obtain ⟨k, hk8, rfl, hmv⟩ := mvOf_ok hk
  have hMk := hmv.symm.trans HMV.out
  obtain ⟨WN, rfl⟩ := Int.eq_ofNat_of_zero_le (show 0 ≤ W by omega)
  obtain ⟨HN, rfl⟩ := Int.eq_ofNat_of_zero_le (show 0 ≤ H by omega)
  have hlen : ps.length = HN * WN := by rw [Nat.mul_comm]; exact_mod_cast hg3
  have hW64 : WN ≤ 64 := by omega
  have hH64 : HN ≤ 64 := by omega
  have hpos : 1 ≤ ps.length := by rw [hlen]; exact Nat.mul_le_mul (show 1 ≤ HN by omega) (show 1 ≤ WN by omega)
  have HLEN := hide hlen
  clear hg1 hg2 hg3 hg4 hlen HERR HTE hk hp hmv
  refine (moveOf_ok k hk8 V1 (HM.out.below HB1.out (Nat.le_refl _))).mono ?_
  rintro e V2 ⟨rfl, hb2⟩
  rw [hMk]
  clear hMk HMV
  obtain ⟨x, y, z⟩ := M
  have b1 := al2 V2 (Obj.cells #[.bool x, .bool y, .bool z] 55) (Obj.cells #[.int .i64 (WN : Int), .int .i64 (HN : Int)] 46)
  have HB2 := bel_trans (bel_trans hb1 hb2) (be2 V2 (Obj.cells #[.bool x, .bool y, .bool z] 55) (Obj.cells #[.int .i64 (WN : Int), .int .i64 (HN : Int)] 46))
  obtain ⟨p0, p1, p2⟩ := cells3 (((bel_trans (bel_trans hb1 hb2) (bel_alloc V2 (Obj.cells #[.bool x, .bool y, .bool z] 55))).block _ hl1).trans a1)
  go_wp2_with fail
  clear p0 p1 p2
  obtain ⟨c1, c2⟩ := b1
  have hlc1 := (Array.getElem?_eq_some_iff.1 c1).1
  have hlc2 := (Array.getElem?_eq_some_iff.1 c2).1
  have hV2 := (bel_trans hb1 hb2).size
  generalize (V2.alloc (Obj.cells #[.bool x, .bool y, .bool z] 55)).alloc (Obj.cells #[.int .i64 (WN : Int), .int .i64 (HN : Int)] 46) = X at *
  generalize V2.heap.size = MB at *
  have HBX := hide (HB.out.trans (HB2.mono HB.out.size))
  refine (turnedG_any (x, y, z) WN HN X).mono ?_
  rintro e V3 ⟨rfl, hb3⟩
  rw [turnedN_int, turnedN_int]
  go_wp2_with fail
  have hVX := bel_trans HB2 hb3
  refine (gridPicture_any (turnedN (x, y, z) WN HN) (turnedN (x, y, z) HN WN) (turnedN (x, y, z) HN WN * turnedN (x, y, z) WN HN) (turnedN_le hW64 hH64) (turnedN_le hH64 hW64) rfl 25 _ (turnP ps WN HN (x, y, z)) V3 (enters_of Tryd.func25 (by kernel_rfl) rfl) ?_).mono ?_
  · intro j V hj hV
    have hT : 0 < turnedN (x, y, z) WN HN := by
      rcases Nat.eq_zero_or_pos (turnedN (x, y, z) WN HN) with h0 | h0
      · rw [h0] at hj; simp at hj
      · exact h0
    have hXV := bel_trans hb3 hV
    have hUV := bel_trans HB2 hXV
    have hwV := HB.out.trans (hUV.mono HB.out.size)
    have g1 := (hUV.block _ hl1).trans a1
    have g2 := (hXV.block _ hlc1).trans c1
    have g3 := (hXV.block _ hlc2).trans c2
    have hs := hXV.size
    have hs2 := hwV.size
    obtain ⟨bk, off, hao, hbl, hcell⟩ : ∃ b off, ao = some ⟨b, off, none⟩ ∧ b < w.heap.size ∧ ∀ j (h : j < ps.length), w.cell? ⟨b, off + j * 3, none⟩ = some (.int .i64 ps[j].1) ∧ w.cell? ⟨b, off + j * 3 + 1, none⟩ = some (.int .i64 ps[j].2.1) ∧ w.cell? ⟨b, off + j * 3 + 2, none⟩ = some (.int .i64 ps[j].2.2) := by
      rcases hc with h | h
      · rw [h] at hpos; simp at hpos
      · exact h
    subst hao
    obtain ⟨q0, q1, q2⟩ := cells3 g1
    obtain ⟨r0, r1, r2⟩ := cells3 g2
    refine turn1_any WN HN (j % turnedN (x, y, z) WN HN) (j / turnedN (x, y, z) WN HN) hW64 hH64 (x, y, z) (Nat.mod_lt _ hT) (Nat.div_lt_of_lt_mul (by rw [Nat.mul_comm]; exact hj)) ps HLEN.out bk off ca w.heap.size (MB + 1) MB V (by omega) (by omega) (by omega) (by omega) q2 (by rw [Lib.cell_of_heap g3]; rfl) (by rw [Lib.cell_of_heap g3]; rfl) r0 r1 r2 (fun i hi => ?_)
    obtain ⟨e0, e1, e2⟩ := hcell i hi
    rw [pxAt_get ps i hi] at e0 e1 e2
    exact ⟨(hwV.cell (p := ⟨bk, off + i * 3, none⟩) hbl).trans e0, (hwV.cell (p := ⟨bk, off + i * 3 + 1, none⟩) hbl).trans e1, (hwV.cell (p := ⟨bk, off + i * 3 + 2, none⟩) hbl).trans e2⟩
  · rintro e V4 ⟨r, rfl, hr, hb4, hfr⟩
    have HR := hide hr
    obtain ⟨ro, rc, rfl, x1, x2⟩ := hr
    clear x1 x2
    rw [List.length_map, List.length_range] at HR hfr ⊢
    have hB4 := bel_trans hVX hb4
    have g := (hB4.block _ hl2).trans a2
    obtain ⟨z0, z1, z2⟩ := cells3 g
    have f0 := Lib.frozen_of_heap g 0
    have f1 := Lib.frozen_of_heap g 1
    have f2 := Lib.frozen_of_heap g 2
    have hs3 := hVX.size
    have HX := hide (HR.out.set3 hfr (show w.heap.size + 1 < V3.heap.size by omega) (.int .i64 ((turnedN (x, y, z) WN HN : Nat) : Int)) (.int .i64 ((turnedN (x, y, z) HN WN : Nat) : Int)) (.slice ro (turnedN (x, y, z) HN WN * turnedN (x, y, z) WN HN) rc))
    have HF := hide (set3_below (HB.out.trans (hB4.mono HB.out.size)) (show w.heap.size ≤ w.heap.size + 1 by omega) (.int .i64 ((turnedN (x, y, z) WN HN : Nat) : Int)) (.int .i64 ((turnedN (x, y, z) HN WN : Nat) : Int)) (.slice ro (turnedN (x, y, z) HN WN * turnedN (x, y, z) WN HN) rc))
    have HFR := hide (hfr.mono (show w.heap.size ≤ V3.heap.size by have := HB.out.size; omega))
    go_wp2
    refine bodyPost_ret (v := .tuple #[.agg #[.int .i64 ((turnedN (x, y, z) WN HN : Nat) : Int), .int .i64 ((turnedN (x, y, z) HN WN : Nat) : Int), (.slice ro (turnedN (x, y, z) HN WN * turnedN (x, y, z) WN HN) rc)], .int .i64 0]) (by simp [results, Tryd.results11, go_sem, z0, z1, z2]) rfl ⟨_, ?_, HX.out, HF.out, HFR.out⟩
    rw [turnedN_int, turnedN_int]
    rfl
end Go.Proofs.YtolcndchfnifhacDoor

namespace Go.Proofs.YtolcndchfnifhacDoor
set_option linter.unusedVariables false
open Go.RowKit
def backN (how : Int) : Int := if howOk how = true then (howN (backM (mvOf how)) : Nat) else 0
set_option maxRecDepth 100000 in
theorem turnBack_any (how : Int) (w : World) (hm : MovesAt w) : Calls Tryd.prog 12 #[.int .i64 how] w fun e w' => e = .returned (.tuple #[.int .i64 (backN how), .int .i64 (howE how)]) ∧ Below w.heap.size w w' := by
  have HM := hide hm
  clear hm
  by_cases hk : howOk how = true
  · have hE : howE how = 0 := by rw [howE, if_pos hk]
    have hN : backN how = (howN (backM (mvOf how)) : Nat) := by rw [backN, if_pos hk]
    rw [hE, hN]
    obtain ⟨k, hk8, rfl, hmv⟩ := mvOf_ok hk
    rw [hmv]
    clear hE hN hmv hk
    have HK := hide hk8
    obtain ⟨M, hM⟩ : ∃ M, mvAt k = M := ⟨_, rfl⟩
    rw [hM]
    go_enter Tryd.func12, Tryd.ntmps12
    go_wp2_with fail
    refine (moveOf_ok k HK.out w HM.out).mono ?_
    rintro e V1 ⟨rfl, hb1⟩
    rw [hM]
    clear hM
    obtain ⟨x, y, z⟩ := M
    have b := bel_trans hb1 (bel_alloc V1 (Obj.cells #[.bool x, .bool y, .bool z] 55))
    go_wp2_with fail
    generalize V1.alloc (Obj.cells #[.bool x, .bool y, .bool z] 55) = X at *
    refine (back_any (x, y, z) X).mono ?_
    rintro e V2 ⟨rfl, hb2⟩
    go_wp2_with fail
    refine (how_any _ V2 (HM.out.below (bel_trans b hb2) (Nat.le_refl _))).mono ?_
    rintro e V3 ⟨rfl, hb3⟩
    go_wp2
    go_ret2
    exact ⟨rfl, bel_trans (bel_trans b hb2) hb3⟩
  · have hE : howE how = 3 := by rw [howE, if_neg hk]
    have hN : backN how = 0 := by rw [backN, if_neg hk]
    rw [hE, hN]
    have HK := hide (show howOk how = false by simpa using hk)
    clear hE hN hk
    go_enter Tryd.func12, Tryd.ntmps12
    go_wp2_with fail
    refine (moveOf_no how HK.out w).mono ?_
    rintro e V1 ⟨rfl, hb1⟩
    go_wp2
    go_ret2
    exact ⟨rfl, bel_trans hb1 (bel_alloc V1 _)⟩
def bothE (one two : Int) : Int := if howOk one = true then howE two else 3
def bothN (one two : Int) : Int := if howOk one = true ∧ howOk two = true then (howN (thenM (mvOf one) (mvOf two)) : Nat) else 0
set_option maxRecDepth 100000 in
theorem turnBoth_any (one two : Int) (w : World) (hm : MovesAt w) : Calls Tryd.prog 13 #[.int .i64 one, .int .i64 two] w fun e w' => e = .returned (.tuple #[.int .i64 (bothN one two), .int .i64 (bothE one two)]) ∧ Below w.heap.size w w' := by
  have HM := hide hm
  clear hm
  by_cases hk : howOk one = true
  · by_cases hj : howOk two = true
    · have hE : bothE one two = 0 := by rw [bothE, if_pos hk, howE, if_pos hj]
      have hN : bothN one two = (howN (thenM (mvOf one) (mvOf two)) : Nat) := by rw [bothN, if_pos ⟨hk, hj⟩]
      rw [hE, hN]
      obtain ⟨k, hk8, rfl, hmv⟩ := mvOf_ok hk
      obtain ⟨j, hj8, rfl, hmw⟩ := mvOf_ok hj
      rw [hmv, hmw]
      clear hE hN hmv hmw hk hj
      have HK := hide hk8
      have HJ := hide hj8
      obtain ⟨M, hM⟩ : ∃ M, mvAt k = M := ⟨_, rfl⟩
      obtain ⟨N, hN⟩ : ∃ N, mvAt j = N := ⟨_, rfl⟩
      rw [hM, hN]
      go_enter Tryd.func13, Tryd.ntmps13
      go_wp2_with fail
      refine (moveOf_ok k HK.out w HM.out).mono ?_
      rintro e V1 ⟨rfl, hb1⟩
      rw [hM]
      clear hM
      obtain ⟨x, y, z⟩ := M
      have b := bel_trans hb1 (bel_alloc V1 (Obj.cells #[.bool x, .bool y, .bool z] 55))
      have a1 := al1 V1 (Obj.cells #[.bool x, .bool y, .bool z] 55)
      go_wp2_with fail
      have l1 := (Array.getElem?_eq_some_iff.1 a1).1
      generalize V1.alloc (Obj.cells #[.bool x, .bool y, .bool z] 55) = X at *
      generalize V1.heap.size = MB at *
      refine (moveOf_ok j HJ.out X (HM.out.below b (Nat.le_refl _))).mono ?_
      rintro e V2 ⟨rfl, hb2⟩
      rw [hN]
      clear hN
      obtain ⟨p, q, r⟩ := N
      have b2 := bel_trans hb2 (bel_alloc V2 (Obj.cells #[.bool p, .bool q, .bool r] 55))
      obtain ⟨e0, e1, e2⟩ := cells3 ((b2.block _ l1).trans a1)
      go_wp2_with fail
      generalize V2.alloc (Obj.cells #[.bool p, .bool q, .bool r] 55) = Y at *
      refine (then_any (x, y, z) (p, q, r) Y).mono ?_
      rintro e V3 ⟨rfl, hb3⟩
      have b3 := bel_trans (bel_trans b b2) hb3
      go_wp2_with fail
      refine (how_any _ V3 (HM.out.below b3 (Nat.le_refl _))).mono ?_
      rintro e V4 ⟨rfl, hb4⟩
      go_wp2
      go_ret2
      exact ⟨rfl, bel_trans b3 hb4⟩
    · have hE : bothE one two = 3 := by rw [bothE, if_pos hk, howE, if_neg hj]
      have hN : bothN one two = 0 := by rw [bothN, if_neg (fun h => hj h.2)]
      rw [hE, hN]
      obtain ⟨k, hk8, rfl, hmv⟩ := mvOf_ok hk
      have HJ := hide (show howOk two = false by simpa using hj)
      clear hE hN hmv hk hj
      have HK := hide hk8
      go_enter Tryd.func13, Tryd.ntmps13
      go_wp2_with fail
      refine (moveOf_ok k HK.out w HM.out).mono ?_
      rintro e V1 ⟨rfl, hb1⟩
      generalize mvAt k = M at *
      obtain ⟨x, y, z⟩ := M
      have b := bel_trans hb1 (bel_alloc V1 (Obj.cells #[.bool x, .bool y, .bool z] 55))
      go_wp2_with fail
      generalize V1.alloc (Obj.cells #[.bool x, .bool y, .bool z] 55) = X at *
      refine (moveOf_no two HJ.out X).mono ?_
      rintro e V2 ⟨rfl, hb2⟩
      go_wp2
      go_ret2
      exact ⟨rfl, bel_trans (bel_trans b hb2) (bel_alloc V2 _)⟩
  · have hE : bothE one two = 3 := by rw [bothE, if_neg hk]
    have hN : bothN one two = 0 := by rw [bothN, if_neg (fun h => hk h.1)]
    rw [hE, hN]
    have HK := hide (show howOk one = false by simpa using hk)
    clear hE hN hk
    go_enter Tryd.func13, Tryd.ntmps13
    go_wp2_with fail
    refine (moveOf_no one HK.out w).mono ?_
    rintro e V1 ⟨rfl, hb1⟩
    go_wp2
    go_ret2
    exact ⟨rfl, bel_trans hb1 (bel_alloc V1 _)⟩
def liesB (first many all : Int) : Bool := decide (1 ≤ many ∧ many ≤ all) && decide (0 ≤ first ∧ first ≤ all - many)
set_option maxRecDepth 100000 in
theorem lies_any (first many all : Int) (h0 : 0 ≤ all) (h1 : all ≤ 64) (w : World) : Calls Tryd.prog 18 #[.int .i64 first, .int .i64 many, .int .i64 all] w fun e w' => e = .returned (.bool (liesB first many all)) ∧ Below w.heap.size w w' := by
  have HS1 := hide (show allIn 1 all [many] = decide (1 ≤ many ∧ many ≤ all) by simp [allIn])
  have HS2 := hide (show allIn 0 (all - many) [first] = decide (0 ≤ first ∧ first ≤ all - many) by simp [allIn])
  by_cases hk : 1 ≤ many ∧ many ≤ all
  · have hd : decide (1 ≤ many ∧ many ≤ all) = true := decide_eq_true hk
    have HL := hide (show liesB first many all = decide (0 ≤ first ∧ first ≤ all - many) by rw [liesB, hd]; rfl)
    rw [HL.out]
    obtain ⟨k1, k2⟩ := hk
    obtain ⟨B, hB⟩ : ∃ B, decide (0 ≤ first ∧ first ≤ all - many) = B := ⟨_, rfl⟩
    rw [hB] at HS2 ⊢
    clear hB HL
    go_enter Tryd.func18, Tryd.ntmps18
    go_wp2_with fail
    refine (rWithin_any 1 all _ [many] _ (ints1 w many)).mono ?_
    rintro e w1 ⟨rfl, rfl⟩
    rw [HS1.out, hd]
    go_wp2_with fail
    refine (rWithin_any 0 (all - many) _ [first] _ (ints1b w (Obj.cells #[.int .i64 many] 3) first)).mono ?_
    rintro e w1 ⟨rfl, rfl⟩
    rw [HS2.out]
    go_wp2
    go_ret
    exact ⟨rfl, be2 w _ _⟩
  · have hd : decide (1 ≤ many ∧ many ≤ all) = false := decide_eq_false hk
    have HL := hide (show liesB first many all = false by rw [liesB, hd]; rfl)
    rw [HL.out]
    clear hk
    go_enter Tryd.func18, Tryd.ntmps18
    go_wp2_with fail
    refine (rWithin_any 1 all _ [many] _ (ints1 w many)).mono ?_
    rintro e w1 ⟨rfl, rfl⟩
    rw [HS1.out, hd]
    go_wp2
    go_ret
    exact ⟨rfl, bel_alloc w _⟩
end Go.Proofs.YtolcndchfnifhacDoor

namespace Go.Proofs.YtolcndchfnifhacDoor
set_option linter.unusedVariables false
open Go.RowKit
theorem cells2b {w : World} {b : Nat} {x y : Value} {t : TypeId} {fr : Nat × Nat} (h : w.heap[b]? = some (.cells #[x, y] t fr)) : w.cell? ⟨b, 0, none⟩ = some x ∧ w.cell? ⟨b, 1, none⟩ = some y := by
  refine ⟨?_, ?_⟩ <;> (rw [Lib.cell_of_heap h]; rfl)
theorem cells4b {w : World} {b : Nat} {x y z u : Value} {t : TypeId} {fr : Nat × Nat} (h : w.heap[b]? = some (.cells #[x, y, z, u] t fr)) : w.cell? ⟨b, 0, none⟩ = some x ∧ w.cell? ⟨b, 1, none⟩ = some y ∧ w.cell? ⟨b, 2, none⟩ = some z ∧ w.cell? ⟨b, 3, none⟩ = some u := by
  refine ⟨?_, ?_, ?_, ?_⟩ <;> (rw [Lib.cell_of_heap h]; rfl)
set_option maxRecDepth 100000 in
set_option maxHeartbeats 3200000 in
theorem cut1_any (W H X Y RX RY : Nat) (hW : W ≤ 64) (hH : H ≤ 64) (hX : RX + X < W) (hY : RY + Y < H) (ps : List Px) (hlen : ps.length = H * W) (bk off ca Bq Bo Br : Nat) (V : World) (hBq : Bq < V.heap.size) (hBo : Bo < V.heap.size) (hBr : Br < V.heap.size) (hbk : bk < V.heap.size)
    (k2 : V.cell? ⟨Bq, 2, none⟩ = some (.slice (some ⟨bk, off, none⟩) ps.length ca)) (o0 : V.cell? ⟨Bo, 0, none⟩ = some (.int .i64 W)) (o1 : V.cell? ⟨Bo, 1, none⟩ = some (.int .i64 H))
    (m0 : V.cell? ⟨Br, 0, none⟩ = some (.int .i64 RX)) (m1 : V.cell? ⟨Br, 1, none⟩ = some (.int .i64 RY))
    (hcell : ∀ j, j < ps.length → V.cell? ⟨bk, off + j * 3, none⟩ = some (.int .i64 (pxAt ps j).1) ∧ V.cell? ⟨bk, off + j * 3 + 1, none⟩ = some (.int .i64 (pxAt ps j).2.1) ∧ V.cell? ⟨bk, off + j * 3 + 2, none⟩ = some (.int .i64 (pxAt ps j).2.2)) :
    Calls Tryd.prog 20 #[.agg #[.int .i64 (X : Nat), .int .i64 (Y : Nat)], .pointer (some ⟨Bq, 0, none⟩), .pointer (some ⟨Bo, 0, none⟩), .pointer (some ⟨Br, 0, none⟩)] V fun e V' => e = .returned (pixV (pxAt ps ((RY + Y) * W + (RX + X)))) ∧ Below V.heap.size V V' := by
  obtain ⟨k, hk⟩ : ∃ k, (RY + Y) * W + (RX + X) = k := ⟨_, rfl⟩
  have hkl : k < ps.length := by
    have h1 := Nat.mul_le_mul_right W (show RY + Y + 1 ≤ H by omega)
    rw [Nat.add_mul, Nat.one_mul] at h1
    rw [hlen]; omega
  have hl4 : ps.length ≤ 4096 := by rw [hlen]; exact Nat.le_trans (Nat.mul_le_mul hH hW) (by decide)
  have HIX := hide (fun (u : World) => index_any W H (RX + X) (RY + Y) W k rfl hk (by omega) u)
  rw [hk]
  obtain ⟨c0, c1, c2⟩ := hcell k hkl
  have hkI : (k : Int) < (ps.length : Int) := by omega
  obtain ⟨SX, hSX⟩ : ∃ SX, RX + X = SX := ⟨_, rfl⟩
  obtain ⟨SY, hSY⟩ : ∃ SY, RY + Y = SY := ⟨_, rfl⟩
  have w1 : (RX : Int) + (X : Int) = (SX : Int) := by omega
  have w2 : (RY : Int) + (Y : Int) = (SY : Int) := by omega
  have w3 : IntKind.i64.wrap (SX : Int) = (SX : Int) := IntWalk.i64_in _ (by omega)
  have w4 : IntKind.i64.wrap (SY : Int) = (SY : Int) := IntWalk.i64_in _ (by omega)
  rw [hSX, hSY] at HIX
  generalize pxAt ps k = P at *
  clear hcell hk hX hY hlen hSX hSY
  obtain ⟨n1, n2⟩ := al2 V (Obj.cells #[.int .i64 (X : Nat), .int .i64 (Y : Nat)] 49) (Obj.cells #[.int .i64 0, .int .i64 0, .int .i64 0] 51)
  have HB := hide (be2 V (Obj.cells #[.int .i64 (X : Nat), .int .i64 (Y : Nat)] 49) (Obj.cells #[.int .i64 0, .int .i64 0, .int .i64 0] 51))
  go_enter Tryd.func20, Tryd.ntmps20
  go_upto_region 1 with fail
  have hl1 := (Array.getElem?_eq_some_iff.1 n1).1
  have hl2 := (Array.getElem?_eq_some_iff.1 n2).1
  generalize (V.alloc (Obj.cells #[.int .i64 (X : Nat), .int .i64 (Y : Nat)] 49)).alloc (Obj.cells #[.int .i64 0, .int .i64 0, .int .i64 0] 51) = U at *
  have HS := hide (show ∀ v, Below U.heap.size U v → v.cell? ⟨Bq, 2, none⟩ = some (.slice (some ⟨bk, off, none⟩) ps.length ca) ∧ v.cell? ⟨Bo, 0, none⟩ = some (.int .i64 W) ∧ v.cell? ⟨Bo, 1, none⟩ = some (.int .i64 H) ∧ v.cell? ⟨Br, 0, none⟩ = some (.int .i64 RX) ∧ v.cell? ⟨Br, 1, none⟩ = some (.int .i64 RY) ∧ v.cell? ⟨bk, off + k * 3, none⟩ = some (.int .i64 P.1) ∧ v.cell? ⟨bk, off + k * 3 + 1, none⟩ = some (.int .i64 P.2.1) ∧ v.cell? ⟨bk, off + k * 3 + 2, none⟩ = some (.int .i64 P.2.2) ∧ v.cell? ⟨V.heap.size, 0, none⟩ = some (.int .i64 (X : Nat)) ∧ v.cell? ⟨V.heap.size, 1, none⟩ = some (.int .i64 (Y : Nat)) from fun v h => by
    have hV := HB.out.trans (h.mono HB.out.size)
    have hn := (h.block _ hl1).trans n1
    exact ⟨(hV.cell (p := ⟨Bq, 2, none⟩) hBq).trans k2, (hV.cell (p := ⟨Bo, 0, none⟩) hBo).trans o0, (hV.cell (p := ⟨Bo, 1, none⟩) hBo).trans o1, (hV.cell (p := ⟨Br, 0, none⟩) hBr).trans m0, (hV.cell (p := ⟨Br, 1, none⟩) hBr).trans m1, (hV.cell (p := ⟨bk, off + k * 3, none⟩) hbk).trans c0, (hV.cell (p := ⟨bk, off + k * 3 + 1, none⟩) hbk).trans c1, (hV.cell (p := ⟨bk, off + k * 3 + 2, none⟩) hbk).trans c2, by rw [Lib.cell_of_heap hn]; rfl, by rw [Lib.cell_of_heap hn]; rfl⟩)
  have hWd : Below U.heap.size U U.drew := (Below.refl _ _).drew
  have hSd := HS.out _ hWd
  clear k2 o0 o1 m0 m1 c0 c1 c2
  have hmx : Tryd.prog.follows .mixedOrders = true := by kernel_rfl
  refine wp_region_last (S := fun v : World => v.cell? ⟨Bq, 2, none⟩ = some (.slice (some ⟨bk, off, none⟩) ps.length ca) ∧ v.cell? ⟨Bo, 0, none⟩ = some (.int .i64 W) ∧ v.cell? ⟨Bo, 1, none⟩ = some (.int .i64 H) ∧ v.cell? ⟨Br, 0, none⟩ = some (.int .i64 RX) ∧ v.cell? ⟨Br, 1, none⟩ = some (.int .i64 RY) ∧ v.cell? ⟨bk, off + k * 3, none⟩ = some (.int .i64 P.1) ∧ v.cell? ⟨bk, off + k * 3 + 1, none⟩ = some (.int .i64 P.2.1) ∧ v.cell? ⟨bk, off + k * 3 + 2, none⟩ = some (.int .i64 P.2.2) ∧ v.cell? ⟨V.heap.size, 0, none⟩ = some (.int .i64 (X : Nat)) ∧ v.cell? ⟨V.heap.size, 1, none⟩ = some (.int .i64 (Y : Nat))) (f := 17) hmx ?_
  show wpAnyF _ _ _ _ _ _ 18 _ _ U.drew
  refine wpAnyF_takeP (i := 0) (oi := _) (v := ?vv1) (some 6) [] rfl rfl (by kernel_rfl) (by kernel_rfl) (by kernel_rfl) (by kernel_rfl) (by kernel_rfl) (fun _ _ _ h => h) (Or.inl ⟨by rfl, ?yy1⟩) hSd ?rr1
  case yy1 => (intro wq hSq; obtain ⟨_, _, _, _, _, _, _, _, _, _⟩ := hSq; go_simp <;> with_reducible rfl)
  simp only [Act.put, List.setIfInBounds_toArray, List.set_cons_succ, List.set_cons_zero]
  refine wpAnyF_takeP (i := 2) (oi := _) (v := ?vv2) (some 8) [] rfl rfl (by kernel_rfl) (by kernel_rfl) (by kernel_rfl) (by kernel_rfl) (by kernel_rfl) (fun _ _ _ h => h) (Or.inl ⟨by rfl, ?yy2⟩) hSd ?rr2
  case yy2 => (intro wq hSq; obtain ⟨_, _, _, _, _, _, _, _, _, _⟩ := hSq; go_simp <;> with_reducible rfl)
  simp only [Act.put, List.setIfInBounds_toArray, List.set_cons_succ, List.set_cons_zero]
  refine wpAnyF_takeP (i := 3) (oi := _) (v := ?vv3) (some 9) [] rfl rfl (by kernel_rfl) (by kernel_rfl) (by kernel_rfl) (by kernel_rfl) (by kernel_rfl) (fun _ _ _ h => h) (Or.inl ⟨by rfl, ?yy3⟩) hSd ?rr3
  case yy3 => (intro wq hSq; obtain ⟨_, _, _, _, _, _, _, _, _, _⟩ := hSq; go_simp <;> with_reducible rfl)
  simp only [Act.put, List.setIfInBounds_toArray, List.set_cons_succ, List.set_cons_zero]
  refine wpAnyF_takeP (i := 5) (oi := _) (v := ?vv4) (some 11) [] rfl rfl (by kernel_rfl) (by kernel_rfl) (by kernel_rfl) (by kernel_rfl) (by kernel_rfl) (fun _ _ _ h => h) (Or.inl ⟨by rfl, ?yy4⟩) hSd ?rr4
  case yy4 => (intro wq hSq; obtain ⟨_, _, _, _, _, _, _, _, _, _⟩ := hSq; go_simp <;> with_reducible rfl)
  simp only [Act.put, List.setIfInBounds_toArray, List.set_cons_succ, List.set_cons_zero]
  refine wpAnyF_takeP (i := 8) (oi := _) (v := ?vv5) (some 14) [] rfl rfl (by kernel_rfl) (by kernel_rfl) (by kernel_rfl) (by kernel_rfl) (by kernel_rfl) (fun _ _ _ h => h) (Or.inl ⟨by rfl, ?yy5⟩) hSd ?rr5
  case yy5 => (intro wq hSq; obtain ⟨_, _, _, _, _, _, _, _, _, _⟩ := hSq; go_simp <;> with_reducible rfl)
  simp only [Act.put, List.setIfInBounds_toArray, List.set_cons_succ, List.set_cons_zero]
  refine wpAnyF_takeP (i := 10) (oi := _) (v := ?vv6) (some 16) [] rfl rfl (by kernel_rfl) (by kernel_rfl) (by kernel_rfl) (by kernel_rfl) (by kernel_rfl) (fun _ _ _ h => h) (Or.inl ⟨by rfl, ?yy6⟩) hSd ?rr6
  case yy6 => (intro wq hSq; obtain ⟨_, _, _, _, _, _, _, _, _, _⟩ := hSq; go_simp <;> with_reducible rfl)
  simp only [Act.put, List.setIfInBounds_toArray, List.set_cons_succ, List.set_cons_zero]
  refine wpAnyF_takeP (i := 1) (oi := _) (v := ?vv7) (some 7) [] rfl rfl (by kernel_rfl) (by kernel_rfl) (by kernel_rfl) (by kernel_rfl) (by kernel_rfl) (fun _ _ _ h => h) (Or.inl ⟨by rfl, ?yy7⟩) hSd ?rr7
  case yy7 => (intro wq hSq; obtain ⟨_, _, _, _, _, _, _, _, _, _⟩ := hSq; go_simp <;> with_reducible rfl)
  simp only [Act.put, List.setIfInBounds_toArray, List.set_cons_succ, List.set_cons_zero]
  refine wpAnyF_takeP (i := 4) (oi := _) (v := ?vv8) (some 10) [] rfl rfl (by kernel_rfl) (by kernel_rfl) (by kernel_rfl) (by kernel_rfl) (by kernel_rfl) (fun _ _ _ h => h) (Or.inl ⟨by rfl, ?yy8⟩) hSd ?rr8
  case yy8 => (intro wq hSq; obtain ⟨_, _, _, _, _, _, _, _, _, _⟩ := hSq; go_simp <;> with_reducible rfl)
  simp only [Act.put, List.setIfInBounds_toArray, List.set_cons_succ, List.set_cons_zero]
  refine wpAnyF_takeP (i := 6) (oi := _) (v := ?vv9) (some 12) [] rfl rfl (by kernel_rfl) (by kernel_rfl) (by kernel_rfl) (by kernel_rfl) (by kernel_rfl) (fun _ _ _ h => h) (Or.inl ⟨by rfl, ?yy9⟩) hSd ?rr9
  case yy9 => (intro wq hSq; obtain ⟨_, _, _, _, _, _, _, _, _, _⟩ := hSq; go_simp <;> with_reducible rfl)
  simp only [Act.put, List.setIfInBounds_toArray, List.set_cons_succ, List.set_cons_zero]
  refine wpAnyF_takeP (i := 9) (oi := _) (v := ?vv10) (some 15) [] rfl rfl (by kernel_rfl) (by kernel_rfl) (by kernel_rfl) (by kernel_rfl) (by kernel_rfl) (fun _ _ _ h => h) (Or.inl ⟨by rfl, ?yy10⟩) hSd ?rr10
  case yy10 => (intro wq hSq; obtain ⟨_, _, _, _, _, _, _, _, _, _⟩ := hSq; go_simp <;> with_reducible rfl)
  simp only [Act.put, List.setIfInBounds_toArray, List.set_cons_succ, List.set_cons_zero]
  refine wpAnyF_takeP (i := 11) (oi := _) (v := ?vv11) (some 17) [] rfl rfl (by kernel_rfl) (by kernel_rfl) (by kernel_rfl) (by kernel_rfl) (by kernel_rfl) (fun _ _ _ h => h) (Or.inl ⟨by rfl, ?yy11⟩) hSd ?rr11
  case yy11 => (intro wq hSq; obtain ⟨_, _, _, _, _, _, _, _, _, _⟩ := hSq; go_simp <;> with_reducible rfl)
  simp only [Act.put, List.setIfInBounds_toArray, List.set_cons_succ, List.set_cons_zero]
  refine wpAnyF_takeP (i := 7) (oi := _) (v := ?vv12) (some 13) [] rfl rfl (by kernel_rfl) (by kernel_rfl) (by kernel_rfl) (by kernel_rfl) (by kernel_rfl) (fun _ _ _ h => h) (Or.inl ⟨by rfl, ?yy12⟩) hSd ?rr12
  case yy12 => (intro wq hSq; obtain ⟨_, _, _, _, _, _, _, _, _, _⟩ := hSq; go_simp <;> with_reducible rfl)
  simp only [Act.put, List.setIfInBounds_toArray, List.set_cons_succ, List.set_cons_zero]
  refine wpAnyF_takeP (i := 12) (oi := _) (v := ?vv13) (some 18) [] rfl rfl (by kernel_rfl) (by kernel_rfl) (by kernel_rfl) (by kernel_rfl) (by kernel_rfl) (fun _ _ _ h => h) (Or.inl ⟨by rfl, ?yy13⟩) hSd ?rr13
  case yy13 => (intro wq hSq; obtain ⟨_, _, _, _, _, _, _, _, _, _⟩ := hSq; go_simp <;> with_reducible rfl)
  simp only [Act.put, List.setIfInBounds_toArray, List.set_cons_succ, List.set_cons_zero]
  refine wpAnyF_takeP (i := 13) (oi := _) (v := ?vv14) (some 19) [] rfl rfl (by kernel_rfl) (by kernel_rfl) (by kernel_rfl) (by kernel_rfl) (by kernel_rfl) (fun _ _ _ h => h) (Or.inl ⟨by rfl, ?yy14⟩) hSd ?rr14
  case yy14 => (intro wq hSq; obtain ⟨_, _, _, _, _, _, _, _, _, _⟩ := hSq; go_simp <;> with_reducible rfl)
  simp only [Act.put, List.setIfInBounds_toArray, List.set_cons_succ, List.set_cons_zero]
  refine wpAnyF_one (i := 14) (o := _) (by kernel_rfl) rfl (fun K' hK => ?_)
  rw [if_pos (by rfl)]
  go_simp
  refine (HIX.out _).mono ?_
  rintro e V2 ⟨rfl, hbvV2⟩
  have hBV2 : Below U.heap.size U V2 := hWd.trans (hbvV2.mono hWd.size)
  have hSd := HS.out _ hBV2
  refine hK.out _ _ hSd ?_
  clear hK
  try simp only [Act.put]
  refine wpAnyF_takeP (i := 15) (oi := _) (v := ?vv15) (some 21) [] rfl rfl (by kernel_rfl) (by kernel_rfl) (by kernel_rfl) (by kernel_rfl) (by kernel_rfl) (fun _ _ _ h => h) (Or.inl ⟨by rfl, ?yy15⟩) hSd ?rr15
  case yy15 => (intro wq hSq; obtain ⟨_, _, _, _, _, _, _, _, _, _⟩ := hSq; go_simp <;> with_reducible rfl)
  simp only [Act.put, List.setIfInBounds_toArray, List.set_cons_succ, List.set_cons_zero]
  refine wpAnyF_takeP (i := 16) (oi := _) (v := ?vv16) (some 22) [] rfl rfl (by kernel_rfl) (by kernel_rfl) (by kernel_rfl) (by kernel_rfl) (by kernel_rfl) (fun _ _ _ h => h) (Or.inl ⟨by rfl, ?yy16⟩) hSd ?rr16
  case yy16 => (intro wq hSq; obtain ⟨_, _, _, _, _, _, _, _, _, _⟩ := hSq; go_simp <;> with_reducible rfl)
  simp only [Act.put, List.setIfInBounds_toArray, List.set_cons_succ, List.set_cons_zero]
  refine wpAnyF_last (o := _) (by kernel_rfl) rfl (fun K' hK => ?_)
  have g := (hBV2.block _ hl2).trans n2
  obtain ⟨z0, z1, z2⟩ := cells3 (b := V.heap.size + 1) g
  have f0 := Lib.frozen_of_heap (b := V.heap.size + 1) g 0
  have f1 := Lib.frozen_of_heap (b := V.heap.size + 1) g 1
  have f2 := Lib.frozen_of_heap (b := V.heap.size + 1) g 2
  rw [if_pos (by rfl)]
  go_simp
  refine hK.out _ _ ?_
  clear hK
  refine wpAnyF_done (by kernel_rfl) ?_ _
  try simp only [Act.put]
  clear hSd
  have HF := hide (set3_below (HB.out.trans (hBV2.mono HB.out.size)) (show V.heap.size ≤ V.heap.size + 1 by omega) (.int .i64 P.1) (.int .i64 P.2.1) (.int .i64 P.2.2))
  go_wp2
  exact bodyPost_ret (v := .agg #[.int .i64 P.1, .int .i64 P.2.1, .int .i64 P.2.2]) (by simp [results, Tryd.results20, go_sem, z0, z1, z2]) rfl ⟨rfl, HF.out⟩
def cutE (W H : Int) (ps : List Px) (rx ry rw rh : Int) : Int := if picOk W H ps = true then (if (liesB rx rw W && liesB ry rh H) = true then 0 else 3) else 1
def cutP (ps : List Px) (W RX RY RW j : Nat) : Px := pxAt ps ((RY + j / RW) * W + (RX + j % RW))
def cutL (W : Nat) (ps : List Px) (RX RY RW RH : Nat) : List Px := (List.range (RH * RW)).map (cutP ps W RX RY RW)
set_option maxRecDepth 100000 in
set_option maxHeartbeats 3200000 in
theorem cut_any (W H : Int) (v : Value) (ps : List Px) (rx ry rw rh : Int) (w : World) (hv : IsPix w v ps) :
    Calls Tryd.prog 6 #[.agg #[.int .i64 W, .int .i64 H, v], .agg #[.int .i64 rx, .int .i64 ry, .int .i64 rw, .int .i64 rh]] w fun e w' => ∃ r, e = .returned (.tuple #[.agg #[.int .i64 (okW (cutE W H ps rx ry rw rh) rw), .int .i64 (okW (cutE W H ps rx ry rw rh) rh), r], .int .i64 (cutE W H ps rx ry rw rh)]) ∧ IsPix w' r (okL (cutE W H ps rx ry rw rh) (cutL W.toNat ps rx.toNat ry.toNat rw.toNat rh.toNat)) ∧ Below w.heap.size w w' ∧ Fresh w.heap.size r := by
  have HV := hide hv
  obtain ⟨ao, ca, rfl, hla, hc⟩ := hv
  obtain ⟨a1, a2, a3⟩ := al3 w (Obj.cells #[.int .i64 W, .int .i64 H, .slice ao ps.length ca] 24) (Obj.cells #[.int .i64 rx, .int .i64 ry, .int .i64 rw, .int .i64 rh] 26) (Obj.cells #[.int .i64 0, .int .i64 0, .slice none 0 0] 24)
  have HB := hide (be3 w (Obj.cells #[.int .i64 W, .int .i64 H, .slice ao ps.length ca] 24) (Obj.cells #[.int .i64 rx, .int .i64 ry, .int .i64 rw, .int .i64 rh] 26) (Obj.cells #[.int .i64 0, .int .i64 0, .slice none 0 0] 24))
  have HTE := hide (show cutE W H ps rx ry rw rh = if picOk W H ps = true then (if (liesB rx rw W && liesB ry rh H) = true then 0 else 3) else 1 from rfl)
  obtain ⟨E, hE⟩ : ∃ E, cutE W H ps rx ry rw rh = E := ⟨_, rfl⟩
  rw [hE] at HTE ⊢
  clear hE
  have hl1 := (Array.getElem?_eq_some_iff.1 a1).1
  have hl2 := (Array.getElem?_eq_some_iff.1 a2).1
  have hl3 := (Array.getElem?_eq_some_iff.1 a3).1
  have ERR : ∀ (V : World) (E : Int), E ≠ 0 → Below w.heap.size w V → ∃ r, (Ending.returned (.tuple #[.agg #[.int .i64 0, .int .i64 0, .slice none 0 0], .int .i64 E]) = .returned (.tuple #[.agg #[.int .i64 (okW E rw), .int .i64 (okW E rh), r], .int .i64 E])) ∧ IsPix V r (okL E (cutL W.toNat ps rx.toNat ry.toNat rw.toNat rh.toNat)) ∧ Below w.heap.size w V ∧ Fresh w.heap.size r := fun V E hE hB => by
    refine ⟨.slice none 0 0, ?_, ?_, hB, Fresh.nil _⟩
    · rw [okW, if_neg hE, okW, if_neg hE]
    · rw [okL, if_neg hE]; exact IsPix.nil _
  have HERR := hide ERR
  clear ERR
  go_enter Tryd.func6, Tryd.ntmps6
  obtain ⟨p0, p1, p2⟩ := cells3 a1
  go_wp2_with fail
  clear p0 p1 p2
  generalize ((w.alloc (Obj.cells #[.int .i64 W, .int .i64 H, .slice ao ps.length ca] 24)).alloc (Obj.cells #[.int .i64 rx, .int .i64 ry, .int .i64 rw, .int .i64 rh] 26)).alloc (Obj.cells #[.int .i64 0, .int .i64 0, .slice none 0 0] 24) = U at *
  refine (picture_any W H _ ps _ (HV.out.below HB.out (Nat.le_refl _))).mono ?_
  rintro e V1 ⟨rfl, hb1⟩
  have HB1 := hide (HB.out.trans (hb1.mono HB.out.size))
  by_cases hp : picOk W H ps = true
  case neg =>
    rw [if_neg hp] at HTE
    have hp2 : picOk W H ps = false := by simpa using hp
    obtain rfl : E = 1 := HTE.out
    rw [hp2]
    have g := (hb1.block _ hl3).trans a3
    obtain ⟨z0, z1, z2⟩ := cells3 (b := w.heap.size + 1 + 1) g
    have f0 := Lib.frozen_of_heap (b := w.heap.size + 1 + 1) g 0
    have f1 := Lib.frozen_of_heap (b := w.heap.size + 1 + 1) g 1
    have f2 := Lib.frozen_of_heap (b := w.heap.size + 1 + 1) g 2
    have HF := hide (set3_below (HB.out.trans (hb1.mono HB.out.size)) (show w.heap.size ≤ w.heap.size + 1 + 1 by omega) (.int .i64 0) (.int .i64 0) (.slice none 0 0))
    go_wp2
    exact bodyPost_ret (v := .tuple #[.agg #[.int .i64 0, .int .i64 0, .slice none 0 0], .int .i64 1]) (by simp [results, Tryd.results6, go_sem, z0, z1, z2]) rfl (HERR.out _ 1 (by decide) HF.out)
  rw [if_pos hp] at HTE
  rw [hp]
  obtain ⟨hg1, hg2, hg3, hg4⟩ := picOk_parts hp
  obtain ⟨p0, p1, p2⟩ := cells3 ((hb1.block _ hl1).trans a1)
  obtain ⟨q0, q1, q2, q3⟩ := cells4b (b := w.heap.size + 1) ((hb1.block _ hl2).trans a2)
  go_wp2_with fail
  clear p0 p1 p2 q0 q1 q2 q3
  refine (lies_any rx rw W (by omega) (by omega) V1).mono ?_
  rintro e V2 ⟨rfl, hb2⟩
  replace hb2 := bel_trans hb1 hb2
  cases hL1 : liesB rx rw W
  case false =>
    obtain rfl : E = 3 := by rw [HTE.out, hL1]; rfl
    have g := (hb2.block _ hl3).trans a3
    obtain ⟨z0, z1, z2⟩ := cells3 (b := w.heap.size + 1 + 1) g
    have f0 := Lib.frozen_of_heap (b := w.heap.size + 1 + 1) g 0
    have f1 := Lib.frozen_of_heap (b := w.heap.size + 1 + 1) g 1
    have f2 := Lib.frozen_of_heap (b := w.heap.size + 1 + 1) g 2
    have HF := hide (set3_below (HB.out.trans (hb2.mono HB.out.size)) (show w.heap.size ≤ w.heap.size + 1 + 1 by omega) (.int .i64 0) (.int .i64 0) (.slice none 0 0))
    go_wp2
    exact bodyPost_ret (v := .tuple #[.agg #[.int .i64 0, .int .i64 0, .slice none 0 0], .int .i64 3]) (by simp [results, Tryd.results6, go_sem, z0, z1, z2]) rfl (HERR.out _ 3 (by decide) HF.out)
  obtain ⟨p0, p1, p2⟩ := cells3 ((hb2.block _ hl1).trans a1)
  obtain ⟨q0, q1, q2, q3⟩ := cells4b (b := w.heap.size + 1) ((hb2.block _ hl2).trans a2)
  go_wp2_with fail
  clear p0 p1 p2 q0 q1 q2 q3
  refine (lies_any ry rh H (by omega) (by omega) V2).mono ?_
  rintro e V3 ⟨rfl, hb3⟩
  replace hb3 := bel_trans hb2 hb3
  cases hL2 : liesB ry rh H
  case false =>
    obtain rfl : E = 3 := by rw [HTE.out, hL1, hL2]; rfl
    have g := (hb3.block _ hl3).trans a3
    obtain ⟨z0, z1, z2⟩ := cells3 (b := w.heap.size + 1 + 1) g
    have f0 := Lib.frozen_of_heap (b := w.heap.size + 1 + 1) g 0
    have f1 := Lib.frozen_of_heap (b := w.heap.size + 1 + 1) g 1
    have f2 := Lib.frozen_of_heap (b := w.heap.size + 1 + 1) g 2
    have HF := hide (set3_below (HB.out.trans (hb3.mono HB.out.size)) (show w.heap.size ≤ w.heap.size + 1 + 1 by omega) (.int .i64 0) (.int .i64 0) (.slice none 0 0))
    go_wp2
    exact bodyPost_ret (v := .tuple #[.agg #[.int .i64 0, .int .i64 0, .slice none 0 0], .int .i64 3]) (by simp [results, Tryd.results6, go_sem, z0, z1, z2]) rfl (HERR.out _ 3 (by decide) HF.out)
  obtain rfl : E = 0 := by rw [HTE.out, hL1, hL2]; rfl
  have hr1 : (1 ≤ rw ∧ rw ≤ W) ∧ (0 ≤ rx ∧ rx ≤ W - rw) := by simpa [liesB] using hL1
  have hr2 : (1 ≤ rh ∧ rh ≤ H) ∧ (0 ≤ ry ∧ ry ≤ H - rh) := by simpa [liesB] using hL2
  obtain ⟨WN, rfl⟩ := Int.eq_ofNat_of_zero_le (show 0 ≤ W by omega)
  obtain ⟨HN, rfl⟩ := Int.eq_ofNat_of_zero_le (show 0 ≤ H by omega)
  obtain ⟨RX, rfl⟩ := Int.eq_ofNat_of_zero_le (show 0 ≤ rx by omega)
  obtain ⟨RY, rfl⟩ := Int.eq_ofNat_of_zero_le (show 0 ≤ ry by omega)
  obtain ⟨RW, rfl⟩ := Int.eq_ofNat_of_zero_le (show 0 ≤ rw by omega)
  obtain ⟨RH, rfl⟩ := Int.eq_ofNat_of_zero_le (show 0 ≤ rh by omega)
  have hlen : ps.length = HN * WN := by rw [Nat.mul_comm]; exact_mod_cast hg3
  have hpos : 1 ≤ ps.length := by rw [hlen]; exact Nat.mul_le_mul (show 1 ≤ HN by omega) (show 1 ≤ WN by omega)
  have HLEN := hide hlen
  have HIN := hide (show (RX + RW ≤ WN ∧ RY + RH ≤ HN) ∧ 1 ≤ RW ∧ (WN ≤ 64 ∧ HN ≤ 64) ∧ (RW ≤ 64 ∧ RH ≤ 64) by omega)
  clear hg1 hg2 hg3 hg4 hlen HERR HTE hp hr1 hr2 hL1 hL2
  go_upto_region 5 with fail
  have HS := hide (show ∀ v, Below U.heap.size U v → v.cell? ⟨w.heap.size, 0, none⟩ = some (.int .i64 (WN : Nat)) ∧ v.cell? ⟨w.heap.size, 1, none⟩ = some (.int .i64 (HN : Nat)) ∧ v.cell? ⟨w.heap.size + 1, 2, none⟩ = some (.int .i64 (RW : Nat)) ∧ v.cell? ⟨w.heap.size + 1, 3, none⟩ = some (.int .i64 (RH : Nat)) from fun v h => by
    obtain ⟨p0, p1, _⟩ := cells3 ((h.block _ hl1).trans a1)
    obtain ⟨_, _, q2, q3⟩ := cells4b (b := w.heap.size + 1) ((h.block _ hl2).trans a2)
    exact ⟨p0, p1, q2, q3⟩)
  go_cut [6, 7] from 8 (fun p q v => ∃ B6 B7, p = .pointer (some ⟨B6, 0, none⟩) ∧ q = .pointer (some ⟨B7, 0, none⟩) ∧ v.heap[B6]? = some (.cells #[.int .i64 (WN : Nat), .int .i64 (HN : Nat)] 46 (0, 0)) ∧ v.heap[B7]? = some (.cells #[.int .i64 (RW : Nat), .int .i64 (RH : Nat)] 46 (0, 0)) ∧ Below U.heap.size U v)
  case first =>
    have hWd : Below U.heap.size U V3.drew := hb3.drew
    have hSd := HS.out _ hWd
    have hmx : Tryd.prog.follows .mixedOrders = true := by kernel_rfl
    refine wp_region_last (S := fun v : World => v.cell? ⟨w.heap.size, 0, none⟩ = some (.int .i64 (WN : Nat)) ∧ v.cell? ⟨w.heap.size, 1, none⟩ = some (.int .i64 (HN : Nat)) ∧ v.cell? ⟨w.heap.size + 1, 2, none⟩ = some (.int .i64 (RW : Nat)) ∧ v.cell? ⟨w.heap.size + 1, 3, none⟩ = some (.int .i64 (RH : Nat))) (f := 13) hmx ?_
    show wpAnyF _ _ _ _ _ _ 14 _ _ V3.drew
    refine wpAnyF_takeP (i := 0) (oi := _) (v := ?vv17) (some 31) [] rfl rfl (by kernel_rfl) (by kernel_rfl) (by kernel_rfl) (by kernel_rfl) (by kernel_rfl) (fun _ _ _ h => h) (Or.inl ⟨by rfl, ?yy17⟩) hSd ?rr17
    case yy17 => (intro wq hSq; obtain ⟨_, _, _, _⟩ := hSq; go_simp <;> with_reducible rfl)
    simp only [Act.put, List.setIfInBounds_toArray, List.set_cons_succ, List.set_cons_zero]
    refine wpAnyF_takeP (i := 2) (oi := _) (v := ?vv18) (some 33) [] rfl rfl (by kernel_rfl) (by kernel_rfl) (by kernel_rfl) (by kernel_rfl) (by kernel_rfl) (fun _ _ _ h => h) (Or.inl ⟨by rfl, ?yy18⟩) hSd ?rr18
    case yy18 => (intro wq hSq; obtain ⟨_, _, _, _⟩ := hSq; go_simp <;> with_reducible rfl)
    simp only [Act.put, List.setIfInBounds_toArray, List.set_cons_succ, List.set_cons_zero]
    refine wpAnyF_takeP (i := 5) (oi := _) (v := ?vv19) (some 36) [] rfl rfl (by kernel_rfl) (by kernel_rfl) (by kernel_rfl) (by kernel_rfl) (by kernel_rfl) (fun _ _ _ h => h) (Or.inl ⟨by rfl, ?yy19⟩) hSd ?rr19
    case yy19 => (intro wq hSq; obtain ⟨_, _, _, _⟩ := hSq; go_simp <;> with_reducible rfl)
    simp only [Act.put, List.setIfInBounds_toArray, List.set_cons_succ, List.set_cons_zero]
    refine wpAnyF_takeP (i := 7) (oi := _) (v := ?vv20) (some 38) [] rfl rfl (by kernel_rfl) (by kernel_rfl) (by kernel_rfl) (by kernel_rfl) (by kernel_rfl) (fun _ _ _ h => h) (Or.inl ⟨by rfl, ?yy20⟩) hSd ?rr20
    case yy20 => (intro wq hSq; obtain ⟨_, _, _, _⟩ := hSq; go_simp <;> with_reducible rfl)
    simp only [Act.put, List.setIfInBounds_toArray, List.set_cons_succ, List.set_cons_zero]
    refine wpAnyF_takeP (i := 1) (oi := _) (v := ?vv21) (some 32) [] rfl rfl (by kernel_rfl) (by kernel_rfl) (by kernel_rfl) (by kernel_rfl) (by kernel_rfl) (fun _ _ _ h => h) (Or.inl ⟨by rfl, ?yy21⟩) hSd ?rr21
    case yy21 => (intro wq hSq; obtain ⟨_, _, _, _⟩ := hSq; go_simp <;> with_reducible rfl)
    simp only [Act.put, List.setIfInBounds_toArray, List.set_cons_succ, List.set_cons_zero]
    refine wpAnyF_takeP (i := 3) (oi := _) (v := ?vv22) (some 34) [] rfl rfl (by kernel_rfl) (by kernel_rfl) (by kernel_rfl) (by kernel_rfl) (by kernel_rfl) (fun _ _ _ h => h) (Or.inl ⟨by rfl, ?yy22⟩) hSd ?rr22
    case yy22 => (intro wq hSq; obtain ⟨_, _, _, _⟩ := hSq; go_simp <;> with_reducible rfl)
    simp only [Act.put, List.setIfInBounds_toArray, List.set_cons_succ, List.set_cons_zero]
    refine wpAnyF_takeP (i := 6) (oi := _) (v := ?vv23) (some 37) [] rfl rfl (by kernel_rfl) (by kernel_rfl) (by kernel_rfl) (by kernel_rfl) (by kernel_rfl) (fun _ _ _ h => h) (Or.inl ⟨by rfl, ?yy23⟩) hSd ?rr23
    case yy23 => (intro wq hSq; obtain ⟨_, _, _, _⟩ := hSq; go_simp <;> with_reducible rfl)
    simp only [Act.put, List.setIfInBounds_toArray, List.set_cons_succ, List.set_cons_zero]
    refine wpAnyF_takeP (i := 8) (oi := _) (v := ?vv24) (some 39) [] rfl rfl (by kernel_rfl) (by kernel_rfl) (by kernel_rfl) (by kernel_rfl) (by kernel_rfl) (fun _ _ _ h => h) (Or.inl ⟨by rfl, ?yy24⟩) hSd ?rr24
    case yy24 => (intro wq hSq; obtain ⟨_, _, _, _⟩ := hSq; go_simp <;> with_reducible rfl)
    simp only [Act.put, List.setIfInBounds_toArray, List.set_cons_succ, List.set_cons_zero]
    refine wpAnyF_takeP (i := 4) (oi := _) (v := ?vv25) (some 35) [] rfl rfl (by kernel_rfl) (by kernel_rfl) (by kernel_rfl) (by kernel_rfl) (by kernel_rfl) (fun _ _ _ h => h) (Or.inl ⟨by rfl, ?yy25⟩) hSd ?rr25
    case yy25 => (intro wq hSq; obtain ⟨_, _, _, _⟩ := hSq; go_simp <;> with_reducible rfl)
    simp only [Act.put, List.setIfInBounds_toArray, List.set_cons_succ, List.set_cons_zero]
    refine wpAnyF_takeP (i := 9) (oi := _) (v := ?vv26) (some 40) [] rfl rfl (by kernel_rfl) (by kernel_rfl) (by kernel_rfl) (by kernel_rfl) (by kernel_rfl) (fun _ _ _ h => h) (Or.inl ⟨by rfl, ?yy26⟩) hSd ?rr26
    case yy26 => (intro wq hSq; obtain ⟨_, _, _, _⟩ := hSq; go_simp <;> with_reducible rfl)
    simp only [Act.put, List.setIfInBounds_toArray, List.set_cons_succ, List.set_cons_zero]
    refine wpAnyF_two (i := 10) (j := 11) (oi := _) (oj := _) (by kernel_rfl) rfl rfl (fun K' hK => ?brA) (fun K' hK => ?brB)
    case brA =>
      rw [if_pos (by rfl)]
      go_simp
      have hBm : Below U.heap.size U (V3.alloc (Obj.cells #[.int .i64 0, .int .i64 0] 46)).drew := (bel_trans hb3 (bel_alloc V3 _)).drew
      have hSd := HS.out _ hBm
      refine hK.out _ _ hSd ?_
      clear hK
      try simp only [Act.put]
      refine wpAnyF_one (i := 11) (o := _) (by kernel_rfl) rfl (fun K' hK => ?_)
      rw [if_pos (by rfl)]
      go_simp
      have hBn : Below U.heap.size U ((V3.alloc (Obj.cells #[.int .i64 0, .int .i64 0] 46)).alloc (Obj.cells #[.int .i64 0, .int .i64 0] 46)).drew := (bel_trans hb3 (be2 V3 _ _)).drew
      have hSd := HS.out _ hBn
      refine hK.out _ _ hSd ?_
      clear hK
      try simp only [Act.put]
      refine wpAnyF_one (i := 12) (o := _) (by kernel_rfl) rfl (fun K' hK => ?_)
      rw [if_pos (by rfl)]
      go_simp
      have hBo : Below U.heap.size U ((V3.alloc (Obj.cells #[.int .i64 (WN : Nat), .int .i64 (HN : Nat)] 46)).alloc (Obj.cells #[.int .i64 0, .int .i64 0] 46)).drew := (bel_trans hb3 (be2 V3 _ _)).drew
      have hSd := HS.out _ hBo
      refine hK.out _ _ hSd ?_
      clear hK
      try simp only [Act.put]
      obtain ⟨v1, v2⟩ := al2 V3 (Obj.cells #[.int .i64 (WN : Nat), .int .i64 (HN : Nat)] 46) (Obj.cells #[.int .i64 (RW : Nat), .int .i64 (RH : Nat)] 46)
      refine wpAnyF_last (o := _) (by kernel_rfl) rfl (fun K' hK => ?_)
      rw [if_pos (by rfl)]
      go_simp
      refine hK.out _ _ ?_
      clear hK
      refine wpAnyF_done (by kernel_rfl) ?_ _
      try simp only [Act.put]
      clear hSd
      go_wp2
      go_meet
      case rel => exact ⟨V3.heap.size, V3.heap.size + 1, rfl, rfl, v1, v2, (bel_trans hb3 (be2 V3 _ _)).drew⟩
    case brB =>
      rw [if_pos (by rfl)]
      go_simp
      have hBm : Below U.heap.size U (V3.alloc (Obj.cells #[.int .i64 0, .int .i64 0] 46)).drew := (bel_trans hb3 (bel_alloc V3 _)).drew
      have hSd := HS.out _ hBm
      refine hK.out _ _ hSd ?_
      clear hK
      try simp only [Act.put]
      refine wpAnyF_one (i := 10) (o := _) (by kernel_rfl) rfl (fun K' hK => ?_)
      rw [if_pos (by rfl)]
      go_simp
      have hBn : Below U.heap.size U ((V3.alloc (Obj.cells #[.int .i64 0, .int .i64 0] 46)).alloc (Obj.cells #[.int .i64 0, .int .i64 0] 46)).drew := (bel_trans hb3 (be2 V3 _ _)).drew
      have hSd := HS.out _ hBn
      refine hK.out _ _ hSd ?_
      clear hK
      try simp only [Act.put]
      refine wpAnyF_one (i := 12) (o := _) (by kernel_rfl) rfl (fun K' hK => ?_)
      rw [if_pos (by rfl)]
      go_simp
      have hBo : Below U.heap.size U ((V3.alloc (Obj.cells #[.int .i64 0, .int .i64 0] 46)).alloc (Obj.cells #[.int .i64 (WN : Nat), .int .i64 (HN : Nat)] 46)).drew := (bel_trans hb3 (be2 V3 _ _)).drew
      have hSd := HS.out _ hBo
      refine hK.out _ _ hSd ?_
      clear hK
      try simp only [Act.put]
      obtain ⟨v1, v2⟩ := al2 V3 (Obj.cells #[.int .i64 (RW : Nat), .int .i64 (RH : Nat)] 46) (Obj.cells #[.int .i64 (WN : Nat), .int .i64 (HN : Nat)] 46)
      refine wpAnyF_last (o := _) (by kernel_rfl) rfl (fun K' hK => ?_)
      rw [if_pos (by rfl)]
      go_simp
      refine hK.out _ _ ?_
      clear hK
      refine wpAnyF_done (by kernel_rfl) ?_ _
      try simp only [Act.put]
      clear hSd
      go_wp2
      go_meet
      case rel => exact ⟨V3.heap.size + 1, V3.heap.size, rfl, rfl, v2, v1, (bel_trans hb3 (be2 V3 _ _)).drew⟩
  case rest =>
    obtain ⟨B6, B7, rfl, rfl, c6, c7, vB⟩ := hcut
    have l6 := (Array.getElem?_eq_some_iff.1 c6).1
    have l7 := (Array.getElem?_eq_some_iff.1 c7).1
    obtain ⟨g0, g1⟩ := cells2b c7
    go_wp2_with fail
    clear g0 g1
    obtain ⟨⟨hi1, hi2⟩, hi3, ⟨hi4, hi5⟩, hi6, hi7⟩ := HIN.out
    refine (gridPicture_any RW RH (RH * RW) hi6 hi7 rfl 20 _ (cutP ps WN RX RY RW) wc (enters_of Tryd.func20 (by kernel_rfl) rfl) ?_).mono ?_
    · intro j V hj hV
      have hj1 : j % RW < RW := Nat.mod_lt _ (by omega)
      have hj2 : j / RW < RH := Nat.div_lt_of_lt_mul (by rw [Nat.mul_comm]; exact hj)
      have hUV := bel_trans vB hV
      have hwV := HB.out.trans (hUV.mono HB.out.size)
      have gA := (hUV.block _ hl1).trans a1
      have gR := (hUV.block _ hl2).trans a2
      have gO := (hV.block _ l6).trans c6
      have hs := hV.size
      have hs2 := hwV.size
      have hs3 := hUV.size
      obtain ⟨bk, off, hao, hbl, hcell⟩ : ∃ b off, ao = some ⟨b, off, none⟩ ∧ b < w.heap.size ∧ ∀ j (h : j < ps.length), w.cell? ⟨b, off + j * 3, none⟩ = some (.int .i64 ps[j].1) ∧ w.cell? ⟨b, off + j * 3 + 1, none⟩ = some (.int .i64 ps[j].2.1) ∧ w.cell? ⟨b, off + j * 3 + 2, none⟩ = some (.int .i64 ps[j].2.2) := by
        rcases hc with h | h
        · rw [h] at hpos; simp at hpos
        · exact h
      subst hao
      obtain ⟨q0, q1, q2⟩ := cells3 gA
      obtain ⟨r0, r1, _, _⟩ := cells4b (b := w.heap.size + 1) gR
      obtain ⟨s0, s1⟩ := cells2b gO
      refine cut1_any WN HN (j % RW) (j / RW) RX RY hi4 hi5 (by omega) (by omega) ps HLEN.out bk off ca w.heap.size B6 (w.heap.size + 1) V (by omega) (by omega) (by omega) (by omega) q2 s0 s1 r0 r1 (fun i hi => ?_)
      obtain ⟨e0, e1, e2⟩ := hcell i hi
      rw [pxAt_get ps i hi] at e0 e1 e2
      exact ⟨(hwV.cell (p := ⟨bk, off + i * 3, none⟩) hbl).trans e0, (hwV.cell (p := ⟨bk, off + i * 3 + 1, none⟩) hbl).trans e1, (hwV.cell (p := ⟨bk, off + i * 3 + 2, none⟩) hbl).trans e2⟩
    · rintro e V4 ⟨r, rfl, hr, hb4, hfr⟩
      have HR := hide hr
      obtain ⟨ro, rc, rfl, x1, x2⟩ := hr
      clear x1 x2
      rw [List.length_map, List.length_range] at HR hfr ⊢
      have hB4 := bel_trans vB hb4
      have g := (hB4.block _ hl3).trans a3
      obtain ⟨z0, z1, z2⟩ := cells3 (b := w.heap.size + 1 + 1) g
      have f0 := Lib.frozen_of_heap (b := w.heap.size + 1 + 1) g 0
      have f1 := Lib.frozen_of_heap (b := w.heap.size + 1 + 1) g 1
      have f2 := Lib.frozen_of_heap (b := w.heap.size + 1 + 1) g 2
      have hs3 := vB.size
      have HX := hide (HR.out.set3 hfr (show w.heap.size + 1 + 1 < wc.heap.size by omega) (.int .i64 (RW : Nat)) (.int .i64 (RH : Nat)) (.slice ro (RH * RW) rc))
      have HF := hide (set3_below (HB.out.trans (hB4.mono HB.out.size)) (show w.heap.size ≤ w.heap.size + 1 + 1 by omega) (.int .i64 (RW : Nat)) (.int .i64 (RH : Nat)) (.slice ro (RH * RW) rc))
      have HFR := hide (hfr.mono (show w.heap.size ≤ wc.heap.size by have := HB.out.size; omega))
      go_wp2
      exact bodyPost_ret (v := .tuple #[.agg #[.int .i64 (RW : Nat), .int .i64 (RH : Nat), .slice ro (RH * RW) rc], .int .i64 0]) (by simp [results, Tryd.results6, go_sem, z0, z1, z2]) rfl ⟨_, rfl, HX.out, HF.out, HFR.out⟩
end Go.Proofs.YtolcndchfnifhacDoor

namespace Go.Proofs.YtolcndchfnifhacDoor
set_option linter.unusedVariables false
open Go.RowKit
theorem pix_block (w : World) (ps : List Px) (cs : Array Value) (h : cs.toList = ps.flatMap pixL) (hl : ps.length ≤ 4096) : IsPix (w.alloc (.cells cs 51)) (.slice (some ⟨w.heap.size, 0, none⟩) ps.length ps.length) ps := by
  have hfl : (ps.flatMap pixL).length = ps.length * 3 := by
    clear h hl
    induction ps with
    | nil => rfl
    | cons p r ih => rw [List.flatMap_cons, List.length_append, ih]; simp [pixL]; omega
  have hs : cs.size = ps.length * 3 := by rw [← Array.length_toList, h, hfl]
  have ho := World.ownsRow_lit (base := w.heap.size) (e := 51) (size := 3) w cs ps.length (Nat.le_refl _) (by unfold maxLen; omega) hs
  rw [h] at ho
  exact IsPix.own ho (by omega)
end Go.Proofs.YtolcndchfnifhacDoor

namespace Go.Proofs.YtolcndchfnifhacDoor
set_option linter.unusedVariables false
open Go.RowKit
def begTL : List Px := [(1, 0, 0), (2, 0, 0)]
theorem beg1 : turnE 2 1 begTL 6 = 0 ∧ turnedW (mvOf 6) 2 1 = 1 ∧ turnedW (mvOf 6) 1 2 = 2 ∧ turnL (2 : Int).toNat (1 : Int).toNat begTL (mvOf 6) = [(1, 0, 0), (2, 0, 0)] := by decide +kernel
theorem beg2 : cutE 2 1 begTL 1 0 1 1 = 0 ∧ cutL (2 : Int).toNat begTL (1 : Int).toNat (0 : Int).toNat (1 : Int).toNat (1 : Int).toNat = [(2, 0, 0)] := by decide +kernel
theorem beg3 : backN 6 = 8 ∧ howE 6 = 0 ∧ bothN 2 4 = 3 ∧ bothE 2 4 = 0 := by decide +kernel
abbrev begTC : Obj := Obj.cells #[.int .i64 1, .int .i64 0, .int .i64 0, .int .i64 2, .int .i64 0, .int .i64 0] 51
set_option maxRecDepth 100000 in
set_option maxHeartbeats 6400000 in
theorem turnBegun_any (w : World) (hm : MovesAt w) : Calls Tryd.prog 9 #[] w fun e w' => e = .returned (.bool true) ∧ Below w.heap.size w w' := by
  have HM := hide hm
  clear hm
  have hI := (pix_block w begTL #[.int .i64 1, .int .i64 0, .int .i64 0, .int .i64 2, .int .i64 0, .int .i64 0] rfl (by decide)).alloc (Obj.cells #[.int .i64 2, .int .i64 1, .slice (some ⟨w.heap.size, 0, none⟩) 2 2] 24)
  have HI := hide hI
  clear hI
  obtain ⟨_, a1⟩ := al2 w begTC (Obj.cells #[.int .i64 2, .int .i64 1, .slice (some ⟨w.heap.size, 0, none⟩) 2 2] 24)
  have HB := hide (be2 w begTC (Obj.cells #[.int .i64 2, .int .i64 1, .slice (some ⟨w.heap.size, 0, none⟩) 2 2] 24))
  have HT := hide (fun (u : World) (hu : MovesAt u) (v : Value) (hv : IsPix u v begTL) => turn_any 2 1 v begTL 6 u hu hv)
  rw [beg1.1, beg1.2.1, beg1.2.2.1, beg1.2.2.2, show okW 0 1 = 1 from rfl, show okW 0 2 = 2 from rfl, show okL 0 [((1 : Int), (0 : Int), (0 : Int)), (2, 0, 0)] = [(1, 0, 0), (2, 0, 0)] from rfl] at HT
  have HC := hide (fun (u : World) (v : Value) (hv : IsPix u v begTL) => cut_any 2 1 v begTL 1 0 1 1 u hv)
  rw [beg2.1, beg2.2, show okW 0 1 = 1 from rfl, show okL 0 [((2 : Int), (0 : Int), (0 : Int))] = [(2, 0, 0)] from rfl] at HC
  have HK := hide (fun (u : World) (hu : MovesAt u) => turnBack_any 6 u hu)
  rw [beg3.1, beg3.2.1] at HK
  have HO := hide (fun (u : World) (hu : MovesAt u) => turnBoth_any 2 4 u hu)
  rw [beg3.2.2.1, beg3.2.2.2] at HO
  have l1 := (Array.getElem?_eq_some_iff.1 a1).1
  obtain ⟨p0, p1, p2⟩ := cells3 (b := w.heap.size + 1) a1
  go_enter Tryd.func9, Tryd.ntmps9
  go_wp2_with fail
  clear p0 p1 p2
  generalize (w.alloc begTC).alloc (Obj.cells #[.int .i64 2, .int .i64 1, .slice (some ⟨w.heap.size, 0, none⟩) 2 2] 24) = U at *
  refine (HT.out _ (HM.out.below HB.out (Nat.le_refl _)) _ HI.out).mono ?_
  rintro e w1 ⟨r1, rfl, hr1, hb1, _⟩
  have HR1 := hide hr1
  obtain ⟨ro, rc, rfl, x1, x2⟩ := hr1
  clear x1 x2
  have t1 := al1 w1 (Obj.cells #[.int .i64 1, .int .i64 2, .slice ro 2 rc] 24)
  have h1 := bel_trans hb1 (bel_alloc w1 (Obj.cells #[.int .i64 1, .int .i64 2, .slice ro 2 rc] 24))
  replace HR1 := hide (HR1.out.alloc (Obj.cells #[.int .i64 1, .int .i64 2, .slice ro 2 rc] 24))
  obtain ⟨p0, p1, p2⟩ := cells3 (b := w.heap.size + 1) ((h1.block _ l1).trans a1)
  go_wp2_with fail
  clear p0 p1 p2
  have lt1 := (Array.getElem?_eq_some_iff.1 t1).1
  generalize w1.alloc (Obj.cells #[.int .i64 1, .int .i64 2, .slice ro 2 rc] 24) = X1 at *
  generalize w1.heap.size = B1 at *
  refine (HC.out _ _ (HI.out.below h1 (Nat.le_refl _))).mono ?_
  rintro e w2 ⟨r2, rfl, hr2, hb2, _⟩
  have HR2 := hide hr2
  obtain ⟨so, sc, rfl, x1, x2⟩ := hr2
  clear x1 x2
  have t2 := al1 w2 (Obj.cells #[.int .i64 1, .int .i64 1, .slice so 1 sc] 24)
  have h2 := bel_trans hb2 (bel_alloc w2 (Obj.cells #[.int .i64 1, .int .i64 1, .slice so 1 sc] 24))
  replace HR2 := hide (HR2.out.alloc (Obj.cells #[.int .i64 1, .int .i64 1, .slice so 1 sc] 24))
  replace HR1 := hide (HR1.out.below h2 (Nat.le_refl _))
  replace t1 := (h2.block _ lt1).trans t1
  have h12 := bel_trans h1 h2
  go_wp2_with fail
  have lt2 := (Array.getElem?_eq_some_iff.1 t2).1
  replace lt1 := (Array.getElem?_eq_some_iff.1 t1).1
  generalize w2.alloc (Obj.cells #[.int .i64 1, .int .i64 1, .slice so 1 sc] 24) = X2 at *
  generalize w2.heap.size = B2 at *
  have HBX := hide (HB.out.trans (h12.mono HB.out.size))
  refine (HK.out _ (HM.out.below HBX.out (Nat.le_refl _))).mono ?_
  rintro e w3 ⟨rfl, hb3⟩
  go_wp2_with fail
  refine (HO.out _ (HM.out.below (HBX.out.trans (hb3.mono HBX.out.size)) (Nat.le_refl _))).mono ?_
  rintro e w4 ⟨rfl, hb4⟩
  have h4 := bel_trans hb3 hb4
  obtain ⟨p0, p1, p2⟩ := cells3 ((h4.block _ lt1).trans t1)
  obtain ⟨q0, q1, q2⟩ := cells3 ((h4.block _ lt2).trans t2)
  obtain ⟨x, y, hxe, _, hxc⟩ := HR1.out.below h4 (Nat.le_refl _)
  cases hxe
  rcases hxc with hxc | ⟨qb, qf, rfl, _, hqc⟩
  · cases hxc
  obtain ⟨x, y, hxe, _, hxc⟩ := HR2.out.below h4 (Nat.le_refl _)
  cases hxe
  rcases hxc with hxc | ⟨tb, tf, rfl, _, htc⟩
  · cases hxc
  obtain ⟨c0, _, _⟩ := hqc 0 (by decide)
  obtain ⟨d0, _, _⟩ := htc 0 (by decide)
  rw [Nat.zero_mul, Nat.add_zero] at c0 d0
  replace c0 : w4.cell? ⟨qb, qf, none⟩ = some (.int .i64 1) := c0
  replace d0 : w4.cell? ⟨tb, tf, none⟩ = some (.int .i64 2) := d0
  clear hqc htc
  go_wp2
  go_ret
  exact ⟨rfl, HBX.out.trans (h4.mono HBX.out.size)⟩
end Go.Proofs.YtolcndchfnifhacDoor

namespace Go.Proofs.YtolcndchfnifhacDoor
set_option linter.unusedVariables false
theorem pxAt_range (f : Nat → Px) {n j : Nat} (h : j < n) : pxAt ((List.range n).map f) j = f j := by
  unfold pxAt
  rw [List.getD_eq_getElem?_getD, List.getElem?_map, List.getElem?_range h]
  rfl
theorem place_lt {W H y x : Nat} (hy : y < H) (hx : x < W) : y * W + x < H * W := by
  have h := Nat.mul_le_mul_right W (show y + 1 ≤ H from hy)
  rw [Nat.add_mul, Nat.one_mul] at h
  omega
theorem place_mod {X Y W : Nat} (h : X < W) : (Y * W + X) % W = X := by rw [Nat.add_comm, Nat.add_mul_mod_self_right, Nat.mod_eq_of_lt h]
theorem place_div {X Y W : Nat} (h : X < W) : (Y * W + X) / W = Y := by
  rw [Nat.add_comm, Nat.add_mul_div_right _ _ (by omega), Nat.div_eq_of_lt h, Nat.zero_add]
theorem turnL_at (W H : Nat) (ps : List Px) (m : Mv) (x y : Nat) (hx : x < turnedN m W H) (hy : y < turnedN m H W) : pxAt (turnL W H ps m) (y * turnedN m W H + x) = pxAt ps (srcN m W H x y) := by
  unfold turnL
  rw [pxAt_range _ (place_lt hy hx), turnP, place_mod hx, place_div hx]
theorem cutL_at (W : Nat) (ps : List Px) (RX RY RW RH x y : Nat) (hx : x < RW) (hy : y < RH) : pxAt (cutL W ps RX RY RW RH) (y * RW + x) = pxAt ps ((RY + y) * W + (RX + x)) := by
  unfold cutL
  rw [pxAt_range _ (place_lt hy hx), cutP, place_mod hx, place_div hx]
theorem then_x (m n : Mv) (W H x y : Int) : srcX m W (srcX n (turnedW m W H) x y) (srcY n (turnedW m H W) x y) = srcX (thenM m n) W x y := by
  obtain ⟨a, b, c⟩ := m
  obtain ⟨p, q, r⟩ := n
  cases a <;> cases b <;> cases p <;> cases q <;> cases r <;> simp [srcX, srcY, thenM, turnedW] <;> omega
theorem then_y (m n : Mv) (W H x y : Int) : srcY m H (srcX n (turnedW m W H) x y) (srcY n (turnedW m H W) x y) = srcY (thenM m n) H x y := by
  obtain ⟨a, b, c⟩ := m
  obtain ⟨p, q, r⟩ := n
  cases a <;> cases c <;> cases p <;> cases q <;> cases r <;> simp [srcX, srcY, thenM, turnedW] <;> omega
theorem then_n (m n : Mv) (W H : Nat) : turnedN n (turnedN m W H) (turnedN m H W) = turnedN (thenM m n) W H := by
  obtain ⟨a, b, c⟩ := m
  obtain ⟨p, q, r⟩ := n
  cases a <;> cases p <;> simp [turnedN, thenM]
theorem src_nat (m : Mv) (W H x y : Nat) (hx : x < turnedN m W H) (hy : y < turnedN m H W) : ∃ sx sy : Nat, srcX m W x y = (sx : Int) ∧ srcY m H x y = (sy : Int) ∧ sx < W ∧ sy < H ∧ srcN m W H x y = sy * W + sx := by
  obtain ⟨⟨s1, s2⟩, s3, s4⟩ := src_in m W H x y hx hy
  obtain ⟨sx, e1⟩ := Int.eq_ofNat_of_zero_le s1
  obtain ⟨sy, e2⟩ := Int.eq_ofNat_of_zero_le s3
  refine ⟨sx, sy, e1, e2, by omega, by omega, ?_⟩
  unfold srcN
  rw [e1, e2, Int.toNat_natCast, Int.toNat_natCast]
theorem turn_then (W H : Nat) (ps : List Px) (m n : Mv) : turnL (turnedN m W H) (turnedN m H W) (turnL W H ps m) n = turnL W H ps (thenM m n) := by
  have hw := then_n m n W H
  have hh := then_n m n H W
  have h1 : turnL (turnedN m W H) (turnedN m H W) (turnL W H ps m) n = (List.range (turnedN (thenM m n) H W * turnedN (thenM m n) W H)).map (turnP (turnL W H ps m) (turnedN m W H) (turnedN m H W) n) := by unfold turnL; rw [hw, hh]
  rw [h1]
  unfold turnL
  refine List.map_congr_left fun j hj => ?_
  have hj := List.mem_range.1 hj
  have hp : 0 < turnedN (thenM m n) W H := by
    rcases Nat.eq_zero_or_pos (turnedN (thenM m n) W H) with h0 | h0
    · rw [h0] at hj; simp at hj
    · exact h0
  show turnP (turnL W H ps m) (turnedN m W H) (turnedN m H W) n j = turnP ps W H (thenM m n) j
  unfold turnP
  rw [hw]
  have hx := Nat.mod_lt j hp
  have hy : j / turnedN (thenM m n) W H < turnedN (thenM m n) H W := Nat.div_lt_of_lt_mul (by rw [Nat.mul_comm]; exact hj)
  generalize j % turnedN (thenM m n) W H = x at *
  generalize j / turnedN (thenM m n) W H = y at *
  obtain ⟨sx, sy, e1, e2, l1, l2, e3⟩ := src_nat n (turnedN m W H) (turnedN m H W) x y (by rw [hw]; exact hx) (by rw [hh]; exact hy)
  rw [e3, turnL_at W H ps m sx sy l1 l2]
  congr 1
  have k1 := then_x m n W H x y
  have k2 := then_y m n W H x y
  rw [turnedN_int, turnedN_int, e1, e2] at k1 k2
  unfold srcN
  rw [k1, k2]
theorem back_then : ∀ x y z : Bool, thenM (x, y, z) (backM (x, y, z)) = (false, false, false) := by decide
theorem turn_none (W H : Nat) (ps : List Px) (hl : ps.length = H * W) : turnL W H ps (false, false, false) = ps := by
  refine List.ext_getElem? fun j => ?_
  by_cases hj : j < H * W
  · have hW : 0 < W := by
      rcases Nat.eq_zero_or_pos W with h0 | h0
      · rw [h0] at hj; simp at hj
      · exact h0
    have h := pxAt_range (turnP ps W H (false, false, false)) hj
    have e : turnP ps W H (false, false, false) j = pxAt ps j := by
      show pxAt ps ((((j / W : Nat) : Int)).toNat * W + (((j % W : Nat) : Int)).toNat) = pxAt ps j
      rw [Int.toNat_natCast, Int.toNat_natCast, Nat.mul_comm, Nat.div_add_mod]
    have h2 : (turnL W H ps (false, false, false))[j]? = some (turnP ps W H (false, false, false) j) := by
      show ((List.range (H * W)).map (turnP ps W H (false, false, false)))[j]? = _
      rw [List.getElem?_map, List.getElem?_range hj]; rfl
    rw [h2, e]
    unfold pxAt
    rw [List.getD_eq_getElem?_getD, List.getElem?_eq_getElem (by omega)]
    rfl
  · rw [List.getElem?_eq_none (by show ((List.range (H * W)).map _).length ≤ j; simp; omega), List.getElem?_eq_none (by omega)]
theorem turn_undone (W H : Nat) (ps : List Px) (m : Mv) (hl : ps.length = H * W) : turnL (turnedN m W H) (turnedN m H W) (turnL W H ps m) (backM m) = ps := by
  obtain ⟨x, y, z⟩ := m
  rw [turn_then, back_then, turn_none W H ps hl]
theorem mvOf_how : ∀ x y z : Bool, howOk ((howN (x, y, z) : Nat) : Int) = true ∧ mvOf ((howN (x, y, z) : Nat) : Int) = (x, y, z) := by decide
def partX (m : Mv) (W H RX RY RW RH : Nat) : Nat := if m.1 = true then (if m.2.2 = true then H - RY - RH else RY) else (if m.2.1 = true then W - RX - RW else RX)
def partY (m : Mv) (W H RX RY RW RH : Nat) : Nat := if m.1 = true then (if m.2.1 = true then W - RX - RW else RX) else (if m.2.2 = true then H - RY - RH else RY)
theorem part_in (m : Mv) {W H RX RY RW RH : Nat} (hx : RX + RW ≤ W) (hy : RY + RH ≤ H) : partX m W H RX RY RW RH + turnedN m RW RH ≤ turnedN m W H ∧ partY m W H RX RY RW RH + turnedN m RH RW ≤ turnedN m H W := by
  obtain ⟨a, b, c⟩ := m
  cases a <;> cases b <;> cases c <;> simp [partX, partY, turnedN] <;> omega
theorem part_src (m : Mv) {W H RX RY RW RH : Nat} (hx : RX + RW ≤ W) (hy : RY + RH ≤ H) (x y : Nat) : srcX m W (partX m W H RX RY RW RH + x : Nat) (partY m W H RX RY RW RH + y : Nat) = RX + srcX m RW x y ∧ srcY m H (partX m W H RX RY RW RH + x : Nat) (partY m W H RX RY RW RH + y : Nat) = RY + srcY m RH x y := by
  obtain ⟨a, b, c⟩ := m
  cases a <;> cases b <;> cases c <;> simp [partX, partY, srcX, srcY] <;> omega
theorem turn_cut (W H : Nat) (ps : List Px) (m : Mv) (RX RY RW RH : Nat) (hx : RX + RW ≤ W) (hy : RY + RH ≤ H) :
    turnL RW RH (cutL W ps RX RY RW RH) m = cutL (turnedN m W H) (turnL W H ps m) (partX m W H RX RY RW RH) (partY m W H RX RY RW RH) (turnedN m RW RH) (turnedN m RH RW) := by
  have hpi := part_in m hx hy
  have hps := part_src m hx hy
  generalize partX m W H RX RY RW RH = TX at *
  generalize partY m W H RX RY RW RH = TY at *
  unfold turnL
  show (List.range (turnedN m RH RW * turnedN m RW RH)).map (turnP (cutL W ps RX RY RW RH) RW RH m) = (List.range (turnedN m RH RW * turnedN m RW RH)).map (cutP (turnL W H ps m) (turnedN m W H) TX TY (turnedN m RW RH))
  refine List.map_congr_left fun j hj => ?_
  have hj := List.mem_range.1 hj
  have hp : 0 < turnedN m RW RH := by
    rcases Nat.eq_zero_or_pos (turnedN m RW RH) with h0 | h0
    · rw [h0] at hj; simp at hj
    · exact h0
  have hxx := Nat.mod_lt j hp
  have hyy : j / turnedN m RW RH < turnedN m RH RW := Nat.div_lt_of_lt_mul (by rw [Nat.mul_comm]; exact hj)
  unfold turnP cutP
  generalize j % turnedN m RW RH = x at *
  generalize j / turnedN m RW RH = y at *
  obtain ⟨sx, sy, e1, e2, l1, l2, e3⟩ := src_nat m RW RH x y hxx hyy
  rw [e3, cutL_at W ps RX RY RW RH sx sy l1 l2]
  rw [turnL_at W H ps m (TX + x) (TY + y) (by omega) (by omega)]
  congr 1
  obtain ⟨k1, k2⟩ := hps x y
  rw [e1] at k1
  rw [e2] at k2
  unfold srcN
  rw [k1, k2]
  have t1 : ((RX : Int) + (sx : Int)).toNat = RX + sx := by omega
  have t2 : ((RY : Int) + (sy : Int)).toNat = RY + sy := by omega
  rw [t1, t2]
end Go.Proofs.YtolcndchfnifhacDoor
