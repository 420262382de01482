/- ToneBends: the walk. -/
import Derived.Test.YtolcndchfnifhabRefBent
import Derived.Test.YtolcndchfnifhabToneBegun
namespace Go.Proofs.Ytolcndchfnifhab
open Go.RowKit

theorem IsPix.blockLt {w : World} {ao : Option Addr} {n c : Nat} {ps : List Px} (h : IsPix w (.slice ao n c) ps) {b : Nat} (hb : (Value.slice ao n c).ownBlock = some b) : ps = [] ∨ b < w.heap.size := by
  obtain ⟨a, c', he, _, hor⟩ := h
  rcases hor with h | ⟨b', off, h1, h2, _⟩
  · exact .inl h
  · right
    simp only [Value.slice.injEq] at he
    rw [he.1, h1] at hb
    simp only [Value.ownBlock, Option.some.injEq] at hb
    omega

set_option maxRecDepth 100000 in
set_option maxHeartbeats 3200000 in
theorem toneBends_walk (W H : Int) (v : Value) (ps : List Px) (vl : Value) (ls : List Pt) (x : Int) (w : World) (hv : IsPix w v ps) (hvl : IsPts w vl ls) :
    Calls Try.prog 7 #[.agg #[.int .i64 W, .int .i64 H, v], vl, .int .i64 x] w fun e w' => e = .returned (.bool true) ∧ Below w.heap.size w w' := by
  have HV := hide hv
  have HL := hide hvl
  obtain ⟨ao, ca, rfl, _, _⟩ := hv
  obtain ⟨lo, lc, rfl, _, _⟩ := hvl
  by_cases hc : curveOk ls = true
  · by_cases hp : picOk W H ps = true
    · have h4 : ps.length ≤ 4096 := by
        obtain ⟨a, b, c, _⟩ := picOk_parts hp
        have := side_mul a b
        omega
      have hpos : 1 ≤ ps.length := by
        obtain ⟨a, b, c, _⟩ := picOk_parts hp
        have := side_mul a b
        omega
      by_cases hx : inTop x = true
      · obtain ⟨x0, x1⟩ := (inTop_iff x).1 hx
        have hEB : bendE W H ps ls = 0 := by rw [bendE, if_pos ⟨hp, hc⟩]
        have hEC : curveE ls x = 0 := by rw [curveE, if_pos hc, if_pos hx]
        have hVC : curveV ls x = heightV ls x := by rw [curveV, hEC]; rfl
        have HB := hide (bend_any W H _ ps _ ls _ (HV.out.alloc (Obj.cells #[.int .i64 W, .int .i64 H, .slice ao ps.length ca] 39)) (HL.out.alloc (Obj.cells #[.int .i64 W, .int .i64 H, .slice ao ps.length ca] 39)))
        rw [hEB] at HB
        rw [show okW 0 W = W from rfl, show okW 0 H = H from rfl, show okL 0 (ps.map (bendP ls)) = ps.map (bendP ls) from rfl] at HB
        have HU := hide (bel_alloc w (Obj.cells #[.int .i64 W, .int .i64 H, .slice ao ps.length ca] 39))
        have u1 := al1 w (Obj.cells #[.int .i64 W, .int .i64 H, .slice ao ps.length ca] 39)
        clear hEB
        go_enter Try.func7, Try.ntmps7
        go_wp2_with fail
        generalize w.alloc (Obj.cells #[.int .i64 W, .int .i64 H, .slice ao ps.length ca] 39) = U at *
        refine HB.out.mono ?_
        rintro e w1 ⟨r, rfl, hr, hb1, _⟩
        have HR1 := hide hr
        obtain ⟨ro, rc, rfl, _, _⟩ := hr
        rw [List.length_map] at HR1 ⊢
        have hlU := (Array.getElem?_eq_some_iff.1 u1).1
        have B1 := hb1
        go_wp2_with fail
        have B2 := bel_trans B1 (bel_alloc w1 (Obj.cells #[.int .i64 W, .int .i64 H, .slice ro ps.length rc] 39))
        have t7 := al1 w1 (Obj.cells #[.int .i64 W, .int .i64 H, .slice ro ps.length rc] 39)
        have HR2 := hide (HR1.out.alloc (Obj.cells #[.int .i64 W, .int .i64 H, .slice ro ps.length rc] 39))
        generalize w1.alloc (Obj.cells #[.int .i64 W, .int .i64 H, .slice ro ps.length rc] 39) = W2 at *
        refine (curve_any _ ls x _ (HL.out.below (bel_trans HU.out B2) (Nat.le_refl _))).mono ?_
        rintro e w3 ⟨rfl, hb3⟩
        rw [hEC, hVC]
        have hl7 := (Array.getElem?_eq_some_iff.1 t7).1
        have B3 := bel_trans B2 hb3
        have t7a := (hb3.block w1.heap.size hl7).trans t7
        have HR3 := hide (HR2.out.below hb3 (Nat.le_refl _))
        go_wp2_with fail
        have hb4 := bel_alloc w3 (Obj.cells #[.int .i64 0, .int .i64 0, .slice none 0 0] 39)
        have B4 := bel_trans B3 hb4
        have t14 := al1 w3 (Obj.cells #[.int .i64 0, .int .i64 0, .slice none 0 0] 39)
        have t7b := (hb4.block w1.heap.size (by have := hb3.size; omega)).trans t7a
        have HR4 := hide (HR3.out.alloc (Obj.cells #[.int .i64 0, .int .i64 0, .slice none 0 0] 39))
        generalize w3.alloc (Obj.cells #[.int .i64 0, .int .i64 0, .slice none 0 0] 39) = W4 at *
        refine (curveFine_any _ ls _ (HL.out.below (bel_trans HU.out B4) (Nat.le_refl _))).mono ?_
        rintro e w5 ⟨rfl, hb5⟩
        rw [hc]
        have hl14 := (Array.getElem?_eq_some_iff.1 t14).1
        have hl7b := (Array.getElem?_eq_some_iff.1 t7b).1
        have B5 := bel_trans B4 hb5
        have x5 := hb5
        go_wp2_with fail
        refine (onCurve_any _ ls x x0 x1 (isCurve_of hc) _ (HL.out.below (bel_trans HU.out B5) (Nat.le_refl _))).mono ?_
        rintro e w6 ⟨rfl, hb6⟩
        have B6 := bel_trans B5 hb6
        have x6 := bel_trans x5 hb6
        obtain ⟨q0, q1, q2⟩ := cells3 ((B6.block w.heap.size hlU).trans u1)
        go_wp2_with fail
        refine (pictureFine_any W H _ ps _ (HV.out.below (bel_trans HU.out B6) (Nat.le_refl _))).mono ?_
        rintro e w7 ⟨rfl, hb7⟩
        rw [hp]
        have B7 := bel_trans B6 hb7
        have x7 := bel_trans x6 hb7
        clear q0 q1 q2
        obtain ⟨q0, q1, q2⟩ := cells3 ((B7.block w.heap.size hlU).trans u1)
        go_wp2_with fail
        refine (bent_any W H _ ps _ ls (isCurve_of hc) (picOk_parts hp).2.2.2 h4 _ (HV.out.below (bel_trans HU.out B7) (Nat.le_refl _)) (HL.out.below (bel_trans HU.out B7) (Nat.le_refl _))).mono ?_
        rintro e w8 ⟨r2, rfl, hr2, hb8, hfr⟩
        have B8 := bel_trans B7 hb8
        have x8 := bel_trans x7 hb8
        have g14 := (x8.block w3.heap.size hl14).trans t14
        obtain ⟨z0, z1, z2⟩ := cells3 g14
        have f0 := Lib.frozen_of_heap g14 0
        have f1 := Lib.frozen_of_heap g14 1
        have f2 := Lib.frozen_of_heap g14 2
        have hs7 := x7.size
        have HR5 := hide hr2
        obtain ⟨so, sc, rfl, _, _⟩ := hr2
        rw [List.length_map] at HR5 hfr ⊢
        have hwU : w.heap.size ≤ w3.heap.size := by have := B3.size; omega
        obtain ⟨y1, y2, y3, y4⟩ := box3_set g14 (.int .i64 W) (.int .i64 H) (.slice so ps.length sc) w hwU ((bel_trans HU.out B8))
        have HR6 := hide (HR5.out.set3 hfr (show w3.heap.size < w7.heap.size by omega) (.int .i64 W) (.int .i64 H) (.slice so ps.length sc))
        have g7 := (x8.block w1.heap.size hl7b).trans t7b
        have hne7 : w1.heap.size ≠ w3.heap.size := by have := hb3.size; omega
        have g7' := (y2 w1.heap.size hne7).trans g7
        have hbo : (Value.slice ro ps.length rc).ownBlock ≠ some w3.heap.size := fun e => by
            rcases HR1.out.blockLt e with h | h
            · have := congrArg List.length h; rw [List.length_map, List.length_nil] at this; omega
            · have := hb3.size; omega
        have HRA := hide ((HR4.out.below x8 (Nat.le_refl _)).other (set3_size w8 w3.heap.size (.int .i64 W) (.int .i64 H) (.slice so ps.length sc)) (fun b hb => set3_heap _ _ _ _ _ b hb) hbo)
        clear q0 q1 q2
        go_wp2_with fail
        generalize ((w8.setCell ⟨w3.heap.size, 0, none⟩ (.int .i64 W)).setCell ⟨w3.heap.size, 1, none⟩ (.int .i64 H)).setCell ⟨w3.heap.size, 2, none⟩ (.slice so ps.length sc) = W9 at *
        obtain ⟨b0, b1, b2⟩ := cells3 g7'
        refine (toneBegun_any _).mono ?_
        rintro e w10 ⟨rfl, hb10⟩
        obtain ⟨m0, m1, m2⟩ := cells3 ((hb10.block w3.heap.size (Array.getElem?_eq_some_iff.1 y1).1).trans y1)
        obtain ⟨k0, k1, k2⟩ := cells3 ((hb10.block w1.heap.size (Array.getElem?_eq_some_iff.1 g7').1).trans g7')
        have HF := hide (bel_trans y4 hb10)
        go_wp2_with fail
        refine (samePictures_any W H _ (ps.map (bendP ls)) W H _ (ps.map (bendP ls)) _ (HRA.out.below hb10 (Nat.le_refl _)) (HR6.out.below hb10 (Nat.le_refl _))).mono ?_
        rintro e w11 ⟨rfl, hb11⟩
        rw [show sameB W H (ps.map (bendP ls)) W H (ps.map (bendP ls)) = true by simp [sameB]]
        go_wp2
        go_ret
        exact ⟨rfl, bel_trans HF.out hb11⟩
      · have hx : inTop x = false := by simpa using hx
        have hx' : x < 0 ∨ (0 ≤ x ∧ 65535 < x) := by
          by_cases h : 0 ≤ x
          · refine .inr ⟨h, ?_⟩
            by_cases h2 : x ≤ 65535
            · have h3 := (inTop_iff x).2 ⟨h, h2⟩
              rw [hx] at h3; cases h3
            · omega
          · exact .inl (by omega)
        rcases hx' with hx1 | ⟨hx0, hx1⟩
        all_goals
          have hEB : bendE W H ps ls = 0 := by rw [bendE, if_pos ⟨hp, hc⟩]
          have hEC : curveE ls x = 3 := by rw [curveE, if_pos hc, if_neg (by rw [hx]; decide)]
          have hVC : curveV ls x = 0 := by rw [curveV, hEC]; rfl
          have HB := hide (bend_any W H _ ps _ ls _ (HV.out.alloc (Obj.cells #[.int .i64 W, .int .i64 H, .slice ao ps.length ca] 39)) (HL.out.alloc (Obj.cells #[.int .i64 W, .int .i64 H, .slice ao ps.length ca] 39)))
          rw [hEB] at HB
          rw [show okW 0 W = W from rfl, show okW 0 H = H from rfl, show okL 0 (ps.map (bendP ls)) = ps.map (bendP ls) from rfl] at HB
          have HU := hide (bel_alloc w (Obj.cells #[.int .i64 W, .int .i64 H, .slice ao ps.length ca] 39))
          have u1 := al1 w (Obj.cells #[.int .i64 W, .int .i64 H, .slice ao ps.length ca] 39)
          clear hEB
          go_enter Try.func7, Try.ntmps7
          go_wp2_with fail
          generalize w.alloc (Obj.cells #[.int .i64 W, .int .i64 H, .slice ao ps.length ca] 39) = U at *
          refine HB.out.mono ?_
          rintro e w1 ⟨r, rfl, hr, hb1, _⟩
          have HR1 := hide hr
          obtain ⟨ro, rc, rfl, _, _⟩ := hr
          rw [List.length_map] at HR1 ⊢
          have hlU := (Array.getElem?_eq_some_iff.1 u1).1
          have B1 := hb1
          go_wp2_with fail
          have B2 := bel_trans B1 (bel_alloc w1 (Obj.cells #[.int .i64 W, .int .i64 H, .slice ro ps.length rc] 39))
          have t7 := al1 w1 (Obj.cells #[.int .i64 W, .int .i64 H, .slice ro ps.length rc] 39)
          have HR2 := hide (HR1.out.alloc (Obj.cells #[.int .i64 W, .int .i64 H, .slice ro ps.length rc] 39))
          generalize w1.alloc (Obj.cells #[.int .i64 W, .int .i64 H, .slice ro ps.length rc] 39) = W2 at *
          refine (curve_any _ ls x _ (HL.out.below (bel_trans HU.out B2) (Nat.le_refl _))).mono ?_
          rintro e w3 ⟨rfl, hb3⟩
          rw [hEC, hVC]
          have hl7 := (Array.getElem?_eq_some_iff.1 t7).1
          have B3 := bel_trans B2 hb3
          have t7a := (hb3.block w1.heap.size hl7).trans t7
          have HR3 := hide (HR2.out.below hb3 (Nat.le_refl _))
          go_wp2_with fail
          have hb4 := bel_alloc w3 (Obj.cells #[.int .i64 0, .int .i64 0, .slice none 0 0] 39)
          have B4 := bel_trans B3 hb4
          have t14 := al1 w3 (Obj.cells #[.int .i64 0, .int .i64 0, .slice none 0 0] 39)
          have t7b := (hb4.block w1.heap.size (by have := hb3.size; omega)).trans t7a
          have HR4 := hide (HR3.out.alloc (Obj.cells #[.int .i64 0, .int .i64 0, .slice none 0 0] 39))
          generalize w3.alloc (Obj.cells #[.int .i64 0, .int .i64 0, .slice none 0 0] 39) = W4 at *
          refine (curveFine_any _ ls _ (HL.out.below (bel_trans HU.out B4) (Nat.le_refl _))).mono ?_
          rintro e w5 ⟨rfl, hb5⟩
          rw [hc]
          have hl14 := (Array.getElem?_eq_some_iff.1 t14).1
          have hl7b := (Array.getElem?_eq_some_iff.1 t7b).1
          have B5 := bel_trans B4 hb5
          have x5 := hb5
          have B6 := B5
          have x6 := x5
          obtain ⟨q0, q1, q2⟩ := cells3 ((B6.block w.heap.size hlU).trans u1)
          go_wp2_with fail
          refine (pictureFine_any W H _ ps _ (HV.out.below (bel_trans HU.out B6) (Nat.le_refl _))).mono ?_
          rintro e w7 ⟨rfl, hb7⟩
          rw [hp]
          have B7 := bel_trans B6 hb7
          have x7 := bel_trans x6 hb7
          clear q0 q1 q2
          obtain ⟨q0, q1, q2⟩ := cells3 ((B7.block w.heap.size hlU).trans u1)
          go_wp2_with fail
          refine (bent_any W H _ ps _ ls (isCurve_of hc) (picOk_parts hp).2.2.2 h4 _ (HV.out.below (bel_trans HU.out B7) (Nat.le_refl _)) (HL.out.below (bel_trans HU.out B7) (Nat.le_refl _))).mono ?_
          rintro e w8 ⟨r2, rfl, hr2, hb8, hfr⟩
          have B8 := bel_trans B7 hb8
          have x8 := bel_trans x7 hb8
          have g14 := (x8.block w3.heap.size hl14).trans t14
          obtain ⟨z0, z1, z2⟩ := cells3 g14
          have f0 := Lib.frozen_of_heap g14 0
          have f1 := Lib.frozen_of_heap g14 1
          have f2 := Lib.frozen_of_heap g14 2
          have hs7 := x7.size
          have HR5 := hide hr2
          obtain ⟨so, sc, rfl, _, _⟩ := hr2
          rw [List.length_map] at HR5 hfr ⊢
          have hwU : w.heap.size ≤ w3.heap.size := by have := B3.size; omega
          obtain ⟨y1, y2, y3, y4⟩ := box3_set g14 (.int .i64 W) (.int .i64 H) (.slice so ps.length sc) w hwU ((bel_trans HU.out B8))
          have HR6 := hide (HR5.out.set3 hfr (show w3.heap.size < w7.heap.size by omega) (.int .i64 W) (.int .i64 H) (.slice so ps.length sc))
          have g7 := (x8.block w1.heap.size hl7b).trans t7b
          have hne7 : w1.heap.size ≠ w3.heap.size := by have := hb3.size; omega
          have g7' := (y2 w1.heap.size hne7).trans g7
          have hbo : (Value.slice ro ps.length rc).ownBlock ≠ some w3.heap.size := fun e => by
            rcases HR1.out.blockLt e with h | h
            · have := congrArg List.length h; rw [List.length_map, List.length_nil] at this; omega
            · have := hb3.size; omega
          have HRA := hide ((HR4.out.below x8 (Nat.le_refl _)).other (set3_size w8 w3.heap.size (.int .i64 W) (.int .i64 H) (.slice so ps.length sc)) (fun b hb => set3_heap _ _ _ _ _ b hb) hbo)
          clear q0 q1 q2
          go_wp2_with fail
          generalize ((w8.setCell ⟨w3.heap.size, 0, none⟩ (.int .i64 W)).setCell ⟨w3.heap.size, 1, none⟩ (.int .i64 H)).setCell ⟨w3.heap.size, 2, none⟩ (.slice so ps.length sc) = W9 at *
          obtain ⟨b0, b1, b2⟩ := cells3 g7'
          refine (toneBegun_any _).mono ?_
          rintro e w10 ⟨rfl, hb10⟩
          obtain ⟨m0, m1, m2⟩ := cells3 ((hb10.block w3.heap.size (Array.getElem?_eq_some_iff.1 y1).1).trans y1)
          obtain ⟨k0, k1, k2⟩ := cells3 ((hb10.block w1.heap.size (Array.getElem?_eq_some_iff.1 g7').1).trans g7')
          have HF := hide (bel_trans y4 hb10)
          go_wp2_with fail
          refine (samePictures_any W H _ (ps.map (bendP ls)) W H _ (ps.map (bendP ls)) _ (HRA.out.below hb10 (Nat.le_refl _)) (HR6.out.below hb10 (Nat.le_refl _))).mono ?_
          rintro e w11 ⟨rfl, hb11⟩
          rw [show sameB W H (ps.map (bendP ls)) W H (ps.map (bendP ls)) = true by simp [sameB]]
          go_wp2
          go_ret
          exact ⟨rfl, bel_trans HF.out hb11⟩
    · have hp : picOk W H ps = false := by simpa using hp
      by_cases hx : inTop x = true
      · obtain ⟨x0, x1⟩ := (inTop_iff x).1 hx
        have hEB : bendE W H ps ls = 1 := by rw [bendE, if_neg (fun h => by rw [hp] at h; exact absurd h.1 (by decide))]
        have hEC : curveE ls x = 0 := by rw [curveE, if_pos hc, if_pos hx]
        have hVC : curveV ls x = heightV ls x := by rw [curveV, hEC]; rfl
        have HB := hide (bend_any W H _ ps _ ls _ (HV.out.alloc (Obj.cells #[.int .i64 W, .int .i64 H, .slice ao ps.length ca] 39)) (HL.out.alloc (Obj.cells #[.int .i64 W, .int .i64 H, .slice ao ps.length ca] 39)))
        rw [hEB] at HB
        rw [show okW 1 W = 0 from rfl, show okW 1 H = 0 from rfl, show okL 1 (ps.map (bendP ls)) = [] from rfl] at HB
        have HU := hide (bel_alloc w (Obj.cells #[.int .i64 W, .int .i64 H, .slice ao ps.length ca] 39))
        have u1 := al1 w (Obj.cells #[.int .i64 W, .int .i64 H, .slice ao ps.length ca] 39)
        clear hEB
        go_enter Try.func7, Try.ntmps7
        go_wp2_with fail
        generalize w.alloc (Obj.cells #[.int .i64 W, .int .i64 H, .slice ao ps.length ca] 39) = U at *
        refine HB.out.mono ?_
        rintro e w1 ⟨r, rfl, hr, hb1, _⟩
        have HR1 := hide hr
        obtain ⟨ro, rc, rfl, _, _⟩ := hr
        rw [List.length_nil] at HR1 ⊢
        have hlU := (Array.getElem?_eq_some_iff.1 u1).1
        have B1 := hb1
        go_wp2_with fail
        have B2 := bel_trans B1 (bel_alloc w1 (Obj.cells #[.int .i64 0, .int .i64 0, .slice ro 0 rc] 39))
        have t7 := al1 w1 (Obj.cells #[.int .i64 0, .int .i64 0, .slice ro 0 rc] 39)
        have HR2 := hide (HR1.out.alloc (Obj.cells #[.int .i64 0, .int .i64 0, .slice ro 0 rc] 39))
        generalize w1.alloc (Obj.cells #[.int .i64 0, .int .i64 0, .slice ro 0 rc] 39) = W2 at *
        refine (curve_any _ ls x _ (HL.out.below (bel_trans HU.out B2) (Nat.le_refl _))).mono ?_
        rintro e w3 ⟨rfl, hb3⟩
        rw [hEC, hVC]
        have hl7 := (Array.getElem?_eq_some_iff.1 t7).1
        have B3 := bel_trans B2 hb3
        have t7a := (hb3.block w1.heap.size hl7).trans t7
        have HR3 := hide (HR2.out.below hb3 (Nat.le_refl _))
        go_wp2_with fail
        have hb4 := bel_alloc w3 (Obj.cells #[.int .i64 0, .int .i64 0, .slice none 0 0] 39)
        have B4 := bel_trans B3 hb4
        have t14 := al1 w3 (Obj.cells #[.int .i64 0, .int .i64 0, .slice none 0 0] 39)
        have t7b := (hb4.block w1.heap.size (by have := hb3.size; omega)).trans t7a
        have HR4 := hide (HR3.out.alloc (Obj.cells #[.int .i64 0, .int .i64 0, .slice none 0 0] 39))
        generalize w3.alloc (Obj.cells #[.int .i64 0, .int .i64 0, .slice none 0 0] 39) = W4 at *
        refine (curveFine_any _ ls _ (HL.out.below (bel_trans HU.out B4) (Nat.le_refl _))).mono ?_
        rintro e w5 ⟨rfl, hb5⟩
        rw [hc]
        have hl14 := (Array.getElem?_eq_some_iff.1 t14).1
        have hl7b := (Array.getElem?_eq_some_iff.1 t7b).1
        have B5 := bel_trans B4 hb5
        have x5 := hb5
        go_wp2_with fail
        refine (onCurve_any _ ls x x0 x1 (isCurve_of hc) _ (HL.out.below (bel_trans HU.out B5) (Nat.le_refl _))).mono ?_
        rintro e w6 ⟨rfl, hb6⟩
        have B6 := bel_trans B5 hb6
        have x6 := bel_trans x5 hb6
        obtain ⟨q0, q1, q2⟩ := cells3 ((B6.block w.heap.size hlU).trans u1)
        go_wp2_with fail
        refine (pictureFine_any W H _ ps _ (HV.out.below (bel_trans HU.out B6) (Nat.le_refl _))).mono ?_
        rintro e w7 ⟨rfl, hb7⟩
        rw [hp]
        have B7 := bel_trans B6 hb7
        have x7 := bel_trans x6 hb7
        clear q0 q1 q2
        have W9e : True := trivial
        have y4 := bel_trans HU.out B7
        have HR6 := hide (IsPix.nil w7)
        have HRA := hide (HR4.out.below x7 (Nat.le_refl _))
        have y1 := (x7.block w3.heap.size hl14).trans t14
        have g7' := (x7.block w1.heap.size hl7b).trans t7b
        go_wp2_with fail
        generalize w7 = W9 at *
        refine (toneBegun_any _).mono ?_
        rintro e w10 ⟨rfl, hb10⟩
        obtain ⟨m0, m1, m2⟩ := cells3 ((hb10.block w3.heap.size (Array.getElem?_eq_some_iff.1 y1).1).trans y1)
        obtain ⟨k0, k1, k2⟩ := cells3 ((hb10.block w1.heap.size (Array.getElem?_eq_some_iff.1 g7').1).trans g7')
        have HF := hide (bel_trans y4 hb10)
        go_wp2_with fail
        refine (samePictures_any 0 0 _ ([] : List Px) 0 0 _ ([] : List Px) _ (HRA.out.below hb10 (Nat.le_refl _)) (HR6.out.below hb10 (Nat.le_refl _))).mono ?_
        rintro e w11 ⟨rfl, hb11⟩
        rw [show sameB 0 0 ([] : List Px) 0 0 ([] : List Px) = true by simp [sameB]]
        go_wp2
        go_ret
        exact ⟨rfl, bel_trans HF.out hb11⟩
      · have hx : inTop x = false := by simpa using hx
        have hx' : x < 0 ∨ (0 ≤ x ∧ 65535 < x) := by
          by_cases h : 0 ≤ x
          · refine .inr ⟨h, ?_⟩
            by_cases h2 : x ≤ 65535
            · have h3 := (inTop_iff x).2 ⟨h, h2⟩
              rw [hx] at h3; cases h3
            · omega
          · exact .inl (by omega)
        rcases hx' with hx1 | ⟨hx0, hx1⟩
        all_goals
          have hEB : bendE W H ps ls = 1 := by rw [bendE, if_neg (fun h => by rw [hp] at h; exact absurd h.1 (by decide))]
          have hEC : curveE ls x = 3 := by rw [curveE, if_pos hc, if_neg (by rw [hx]; decide)]
          have hVC : curveV ls x = 0 := by rw [curveV, hEC]; rfl
          have HB := hide (bend_any W H _ ps _ ls _ (HV.out.alloc (Obj.cells #[.int .i64 W, .int .i64 H, .slice ao ps.length ca] 39)) (HL.out.alloc (Obj.cells #[.int .i64 W, .int .i64 H, .slice ao ps.length ca] 39)))
          rw [hEB] at HB
          rw [show okW 1 W = 0 from rfl, show okW 1 H = 0 from rfl, show okL 1 (ps.map (bendP ls)) = [] from rfl] at HB
          have HU := hide (bel_alloc w (Obj.cells #[.int .i64 W, .int .i64 H, .slice ao ps.length ca] 39))
          have u1 := al1 w (Obj.cells #[.int .i64 W, .int .i64 H, .slice ao ps.length ca] 39)
          clear hEB
          go_enter Try.func7, Try.ntmps7
          go_wp2_with fail
          generalize w.alloc (Obj.cells #[.int .i64 W, .int .i64 H, .slice ao ps.length ca] 39) = U at *
          refine HB.out.mono ?_
          rintro e w1 ⟨r, rfl, hr, hb1, _⟩
          have HR1 := hide hr
          obtain ⟨ro, rc, rfl, _, _⟩ := hr
          rw [List.length_nil] at HR1 ⊢
          have hlU := (Array.getElem?_eq_some_iff.1 u1).1
          have B1 := hb1
          go_wp2_with fail
          have B2 := bel_trans B1 (bel_alloc w1 (Obj.cells #[.int .i64 0, .int .i64 0, .slice ro 0 rc] 39))
          have t7 := al1 w1 (Obj.cells #[.int .i64 0, .int .i64 0, .slice ro 0 rc] 39)
          have HR2 := hide (HR1.out.alloc (Obj.cells #[.int .i64 0, .int .i64 0, .slice ro 0 rc] 39))
          generalize w1.alloc (Obj.cells #[.int .i64 0, .int .i64 0, .slice ro 0 rc] 39) = W2 at *
          refine (curve_any _ ls x _ (HL.out.below (bel_trans HU.out B2) (Nat.le_refl _))).mono ?_
          rintro e w3 ⟨rfl, hb3⟩
          rw [hEC, hVC]
          have hl7 := (Array.getElem?_eq_some_iff.1 t7).1
          have B3 := bel_trans B2 hb3
          have t7a := (hb3.block w1.heap.size hl7).trans t7
          have HR3 := hide (HR2.out.below hb3 (Nat.le_refl _))
          go_wp2_with fail
          have hb4 := bel_alloc w3 (Obj.cells #[.int .i64 0, .int .i64 0, .slice none 0 0] 39)
          have B4 := bel_trans B3 hb4
          have t14 := al1 w3 (Obj.cells #[.int .i64 0, .int .i64 0, .slice none 0 0] 39)
          have t7b := (hb4.block w1.heap.size (by have := hb3.size; omega)).trans t7a
          have HR4 := hide (HR3.out.alloc (Obj.cells #[.int .i64 0, .int .i64 0, .slice none 0 0] 39))
          generalize w3.alloc (Obj.cells #[.int .i64 0, .int .i64 0, .slice none 0 0] 39) = W4 at *
          refine (curveFine_any _ ls _ (HL.out.below (bel_trans HU.out B4) (Nat.le_refl _))).mono ?_
          rintro e w5 ⟨rfl, hb5⟩
          rw [hc]
          have hl14 := (Array.getElem?_eq_some_iff.1 t14).1
          have hl7b := (Array.getElem?_eq_some_iff.1 t7b).1
          have B5 := bel_trans B4 hb5
          have x5 := hb5
          have B6 := B5
          have x6 := x5
          obtain ⟨q0, q1, q2⟩ := cells3 ((B6.block w.heap.size hlU).trans u1)
          go_wp2_with fail
          refine (pictureFine_any W H _ ps _ (HV.out.below (bel_trans HU.out B6) (Nat.le_refl _))).mono ?_
          rintro e w7 ⟨rfl, hb7⟩
          rw [hp]
          have B7 := bel_trans B6 hb7
          have x7 := bel_trans x6 hb7
          clear q0 q1 q2
          have W9e : True := trivial
          have y4 := bel_trans HU.out B7
          have HR6 := hide (IsPix.nil w7)
          have HRA := hide (HR4.out.below x7 (Nat.le_refl _))
          have y1 := (x7.block w3.heap.size hl14).trans t14
          have g7' := (x7.block w1.heap.size hl7b).trans t7b
          go_wp2_with fail
          generalize w7 = W9 at *
          refine (toneBegun_any _).mono ?_
          rintro e w10 ⟨rfl, hb10⟩
          obtain ⟨m0, m1, m2⟩ := cells3 ((hb10.block w3.heap.size (Array.getElem?_eq_some_iff.1 y1).1).trans y1)
          obtain ⟨k0, k1, k2⟩ := cells3 ((hb10.block w1.heap.size (Array.getElem?_eq_some_iff.1 g7').1).trans g7')
          have HF := hide (bel_trans y4 hb10)
          go_wp2_with fail
          refine (samePictures_any 0 0 _ ([] : List Px) 0 0 _ ([] : List Px) _ (HRA.out.below hb10 (Nat.le_refl _)) (HR6.out.below hb10 (Nat.le_refl _))).mono ?_
          rintro e w11 ⟨rfl, hb11⟩
          rw [show sameB 0 0 ([] : List Px) 0 0 ([] : List Px) = true by simp [sameB]]
          go_wp2
          go_ret
          exact ⟨rfl, bel_trans HF.out hb11⟩
  · have hc : curveOk ls = false := by simpa using hc
    have hEB : bendE W H ps ls = 1 := by rw [bendE, if_neg (fun h => by rw [hc] at h; exact absurd h.2 (by decide))]
    have hEC : curveE ls x = 1 := by rw [curveE, if_neg (by rw [hc]; decide)]
    have hVC : curveV ls x = 0 := by rw [curveV, hEC]; rfl
    have HB := hide (bend_any W H _ ps _ ls _ (HV.out.alloc (Obj.cells #[.int .i64 W, .int .i64 H, .slice ao ps.length ca] 39)) (HL.out.alloc (Obj.cells #[.int .i64 W, .int .i64 H, .slice ao ps.length ca] 39)))
    rw [hEB] at HB
    rw [show okW 1 W = 0 from rfl, show okW 1 H = 0 from rfl, show okL 1 (ps.map (bendP ls)) = [] from rfl] at HB
    have HU := hide (bel_alloc w (Obj.cells #[.int .i64 W, .int .i64 H, .slice ao ps.length ca] 39))
    have u1 := al1 w (Obj.cells #[.int .i64 W, .int .i64 H, .slice ao ps.length ca] 39)
    clear hEB
    go_enter Try.func7, Try.ntmps7
    go_wp2_with fail
    generalize w.alloc (Obj.cells #[.int .i64 W, .int .i64 H, .slice ao ps.length ca] 39) = U at *
    refine HB.out.mono ?_
    rintro e w1 ⟨r, rfl, hr, hb1, _⟩
    have HR1 := hide hr
    obtain ⟨ro, rc, rfl, _, _⟩ := hr
    rw [List.length_nil] at HR1 ⊢
    have hlU := (Array.getElem?_eq_some_iff.1 u1).1
    have B1 := hb1
    go_wp2_with fail
    have B2 := bel_trans B1 (bel_alloc w1 (Obj.cells #[.int .i64 0, .int .i64 0, .slice ro 0 rc] 39))
    have t7 := al1 w1 (Obj.cells #[.int .i64 0, .int .i64 0, .slice ro 0 rc] 39)
    have HR2 := hide (HR1.out.alloc (Obj.cells #[.int .i64 0, .int .i64 0, .slice ro 0 rc] 39))
    generalize w1.alloc (Obj.cells #[.int .i64 0, .int .i64 0, .slice ro 0 rc] 39) = W2 at *
    refine (curve_any _ ls x _ (HL.out.below (bel_trans HU.out B2) (Nat.le_refl _))).mono ?_
    rintro e w3 ⟨rfl, hb3⟩
    rw [hEC, hVC]
    have hl7 := (Array.getElem?_eq_some_iff.1 t7).1
    have B3 := bel_trans B2 hb3
    have t7a := (hb3.block w1.heap.size hl7).trans t7
    have HR3 := hide (HR2.out.below hb3 (Nat.le_refl _))
    go_wp2_with fail
    have hb4 := bel_alloc w3 (Obj.cells #[.int .i64 0, .int .i64 0, .slice none 0 0] 39)
    have B4 := bel_trans B3 hb4
    have t14 := al1 w3 (Obj.cells #[.int .i64 0, .int .i64 0, .slice none 0 0] 39)
    have t7b := (hb4.block w1.heap.size (by have := hb3.size; omega)).trans t7a
    have HR4 := hide (HR3.out.alloc (Obj.cells #[.int .i64 0, .int .i64 0, .slice none 0 0] 39))
    generalize w3.alloc (Obj.cells #[.int .i64 0, .int .i64 0, .slice none 0 0] 39) = W4 at *
    refine (curveFine_any _ ls _ (HL.out.below (bel_trans HU.out B4) (Nat.le_refl _))).mono ?_
    rintro e w5 ⟨rfl, hb5⟩
    rw [hc]
    have hl14 := (Array.getElem?_eq_some_iff.1 t14).1
    have hl7b := (Array.getElem?_eq_some_iff.1 t7b).1
    have B5 := bel_trans B4 hb5
    have x5 := hb5
    have y4 := bel_trans HU.out B5
    have HR6 := hide (IsPix.nil w5)
    have HRA := hide (HR4.out.below x5 (Nat.le_refl _))
    have y1 := (x5.block w3.heap.size hl14).trans t14
    have g7' := (x5.block w1.heap.size hl7b).trans t7b
    go_wp2_with fail
    generalize w5 = W9 at *
    refine (toneBegun_any _).mono ?_
    rintro e w10 ⟨rfl, hb10⟩
    obtain ⟨m0, m1, m2⟩ := cells3 ((hb10.block w3.heap.size (Array.getElem?_eq_some_iff.1 y1).1).trans y1)
    obtain ⟨k0, k1, k2⟩ := cells3 ((hb10.block w1.heap.size (Array.getElem?_eq_some_iff.1 g7').1).trans g7')
    have HF := hide (bel_trans y4 hb10)
    go_wp2_with fail
    refine (samePictures_any 0 0 _ ([] : List Px) 0 0 _ ([] : List Px) _ (HRA.out.below hb10 (Nat.le_refl _)) (HR6.out.below hb10 (Nat.le_refl _))).mono ?_
    rintro e w11 ⟨rfl, hb11⟩
    rw [show sameB 0 0 ([] : List Px) 0 0 ([] : List Px) = true by simp [sameB]]
    go_wp2
    go_ret
    exact ⟨rfl, bel_trans HF.out hb11⟩

end Go.Proofs.Ytolcndchfnifhab
