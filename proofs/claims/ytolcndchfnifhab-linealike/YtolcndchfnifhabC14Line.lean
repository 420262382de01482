/- Line: part 14 of what the proofs need. -/
import Derived.Test.YtolcndchfnifhabC6Line
import Derived.Test.YtolcndchfnifhabC8Line
import Derived.Test.YtolcndchfnifhabC12Line
import Derived.Test.YtolcndchfnifhabC13Line
namespace Go.Proofs.Ytolcndchfnifhab
set_option linter.unusedVariables false
open Go.RowKit
set_option maxRecDepth 100000 in
set_option maxHeartbeats 16000000 in
theorem lineAlike_walk (n : Plan) (sv cv : Value) (W H : Int) (v : Value) (zs : List Int) (one two : Int) (hls : ∀ j, j < n.spots.length → ptWf (ptAt n.spots j)) (hroom : roomy v) (w : World) (hp : IsPlan w n sv cv) (hv : IsInts w v zs) :
    Calls Try.prog 14 #[.agg (planA n sv cv), .agg #[.int .i64 W, .int .i64 H, v], .int .i64 one, .int .i64 two] w fun e w' => e = .returned (.bool true) ∧ Below w.heap.size w w' := by
  have HP := hide hp
  have HV := hide hv
  have HC1 := hide (fun (u : World) (hu : Below w.heap.size w u) => whole_any n sv cv W H v zs u (HP.out.below hu (Nat.le_refl _)) hls (HV.out.below hu (Nat.le_refl _)))
  have HC2 := hide (fun (u : World) (hu : Below w.heap.size w u) => strips_any n sv cv W H v zs one u (HP.out.below hu (Nat.le_refl _)) (HV.out.below hu (Nat.le_refl _)) hroom)
  have HC3 := hide (fun (u : World) (hu : Below w.heap.size w u) => strips_any n sv cv W H v zs two u (HP.out.below hu (Nat.le_refl _)) (HV.out.below hu (Nat.le_refl _)) hroom)
  obtain ⟨⟨lo, lc, rfl, hll, _⟩, ⟨ko, kc, rfl, hkl, _⟩⟩ := hp
  obtain ⟨ao, ca, rfl, _, _⟩ := hv
  obtain ⟨a1, a2⟩ := al2 w (Obj.cells (planA n (.slice lo n.spots.length lc) (.slice ko n.curve.length kc)) 75) (Obj.cells #[.int .i64 W, .int .i64 H, .slice ao zs.length ca] 24)
  have HB := hide (be2 w (Obj.cells (planA n (.slice lo n.spots.length lc) (.slice ko n.curve.length kc)) 75) (Obj.cells #[.int .i64 W, .int .i64 H, .slice ao zs.length ca] 24))
  have hl1 := (Array.getElem?_eq_some_iff.1 a1).1
  have hl2 := (Array.getElem?_eq_some_iff.1 a2).1
  by_cases hE : fitsE n W H zs H = 0
  · rw [hE, show okW 0 W = W from rfl, show okW 0 H = H from rfl, show okL 0 (dev7 n W H zs) = dev7 n W H zs from rfl] at HC1
    by_cases r2 : 1 ≤ one
    · have hS2 : stripsE n W H zs one = 0 := by rw [stripsE, if_pos hE, if_pos r2]
      have d2 : decide (one < 1) = false := by simp; omega
      rw [hS2, show okW 0 W = W from rfl, show okW 0 H = H from rfl, show okL 0 (stripsL n W H zs one) = stripsL n W H zs one from rfl, strips_whole hE r2] at HC2
      by_cases r3 : 1 ≤ two
      · have hS3 : stripsE n W H zs two = 0 := by rw [stripsE, if_pos hE, if_pos r3]
        have d3 : decide (two < 1) = false := by simp; omega
        rw [hS3, show okW 0 W = W from rfl, show okW 0 H = H from rfl, show okL 0 (stripsL n W H zs two) = stripsL n W H zs two from rfl, strips_whole hE r3] at HC3
        clear hE hS2 hS3 r2 r3
        generalize dev7 n W H zs = D at *
        go_enter Try.func14, Try.ntmps14
        obtain ⟨p0, p1, p2⟩ := cells3 a2
        go_wp2_with (refine wpList_load_row rfl 75 _ rfl _ rfl _ _ _ _ a1 Try.underlying75 rfl (by kernel_rfl) ?_)
        clear p0 p1 p2
        generalize (w.alloc (Obj.cells (planA n (.slice lo n.spots.length lc) (.slice ko n.curve.length kc)) 75)).alloc (Obj.cells #[.int .i64 W, .int .i64 H, .slice ao zs.length ca] 24) = U at *
        have hU : Below U.heap.size U U := Below.refl _ _
        refine (HC1.out _ (HB.out.trans (hU.mono HB.out.size))).mono ?_
        rintro e w1 ⟨r, rfl, hr, hb, hfr⟩
        have HR1 := hide hr
        obtain ⟨ro1, rc1, rfl, x1, x2⟩ := hr
        clear x1 x2 hfr
        obtain ⟨N1, hN⟩ : ∃ N1, (D : List Px).length = N1 := ⟨_, rfl⟩
        rw [hN] at HR1 ⊢
        clear hN
        have g1 := al1 w1 (Obj.cells #[.int .i64 W, .int .i64 H, .slice ro1 N1 rc1] 39)
        have hx1 := bel_trans hb (bel_alloc w1 (Obj.cells #[.int .i64 W, .int .i64 H, .slice ro1 N1 rc1] 39))
        replace HR1 := hide (HR1.out.alloc (Obj.cells #[.int .i64 W, .int .i64 H, .slice ro1 N1 rc1] 39))
        clear hb
        have hp1 := bel_trans hU hx1
        have b1 := (hp1.block _ hl1).trans a1
        obtain ⟨p0, p1, p2⟩ := cells3 ((hp1.block _ hl2).trans a2)
        go_wp2_with (refine wpList_load_row rfl 75 _ rfl _ rfl _ _ _ _ b1 Try.underlying75 rfl (by kernel_rfl) ?_)
        clear p0 p1 p2 b1
        have q1 := (Array.getElem?_eq_some_iff.1 g1).1
        generalize w1.alloc (Obj.cells #[.int .i64 W, .int .i64 H, .slice ro1 N1 rc1] 39) = X1 at *
        generalize w1.heap.size = B1 at *
        refine (HC2.out _ (HB.out.trans (hp1.mono HB.out.size))).mono ?_
        rintro e w2 ⟨r, rfl, hr, hb, hfr⟩
        have HR2 := hide hr
        obtain ⟨ro2, rc2, rfl, x1, x2⟩ := hr
        clear x1 x2 hfr
        obtain ⟨N2, hN⟩ : ∃ N2, (D : List Px).length = N2 := ⟨_, rfl⟩
        rw [hN] at HR2 ⊢
        clear hN
        have g2 := al1 w2 (Obj.cells #[.int .i64 W, .int .i64 H, .slice ro2 N2 rc2] 39)
        have hx2 := bel_trans hb (bel_alloc w2 (Obj.cells #[.int .i64 W, .int .i64 H, .slice ro2 N2 rc2] 39))
        replace HR2 := hide (HR2.out.alloc (Obj.cells #[.int .i64 W, .int .i64 H, .slice ro2 N2 rc2] 39))
        clear hb
        replace g1 := (hx2.block _ q1).trans g1
        replace HR1 := hide (HR1.out.below hx2 (Nat.le_refl _))
        have hp2 := bel_trans hp1 hx2
        have b1 := (hp2.block _ hl1).trans a1
        obtain ⟨p0, p1, p2⟩ := cells3 ((hp2.block _ hl2).trans a2)
        go_wp2_with (refine wpList_load_row rfl 75 _ rfl _ rfl _ _ _ _ b1 Try.underlying75 rfl (by kernel_rfl) ?_)
        clear p0 p1 p2 b1
        replace q1 := (Array.getElem?_eq_some_iff.1 g1).1
        have q2 := (Array.getElem?_eq_some_iff.1 g2).1
        generalize w2.alloc (Obj.cells #[.int .i64 W, .int .i64 H, .slice ro2 N2 rc2] 39) = X2 at *
        generalize w2.heap.size = B2 at *
        refine (HC3.out _ (HB.out.trans (hp2.mono HB.out.size))).mono ?_
        rintro e w3 ⟨r, rfl, hr, hb, hfr⟩
        have HR3 := hide hr
        obtain ⟨ro3, rc3, rfl, x1, x2⟩ := hr
        clear x1 x2 hfr
        obtain ⟨N3, hN⟩ : ∃ N3, (D : List Px).length = N3 := ⟨_, rfl⟩
        rw [hN] at HR3 ⊢
        clear hN
        have g3 := al1 w3 (Obj.cells #[.int .i64 W, .int .i64 H, .slice ro3 N3 rc3] 39)
        have hx3 := bel_trans hb (bel_alloc w3 (Obj.cells #[.int .i64 W, .int .i64 H, .slice ro3 N3 rc3] 39))
        replace HR3 := hide (HR3.out.alloc (Obj.cells #[.int .i64 W, .int .i64 H, .slice ro3 N3 rc3] 39))
        clear hb
        replace g1 := (hx3.block _ q1).trans g1
        replace HR1 := hide (HR1.out.below hx3 (Nat.le_refl _))
        replace g2 := (hx3.block _ q2).trans g2
        replace HR2 := hide (HR2.out.below hx3 (Nat.le_refl _))
        have hp3 := bel_trans hp2 hx3
        go_wp2_with fail
        have q3 := (Array.getElem?_eq_some_iff.1 g3).1
        replace q1 := (Array.getElem?_eq_some_iff.1 g1).1
        replace q2 := (Array.getElem?_eq_some_iff.1 g2).1
        generalize w3.alloc (Obj.cells #[.int .i64 W, .int .i64 H, .slice ro3 N3 rc3] 39) = X3 at *
        generalize w3.heap.size = B3 at *
        have HBX := hide (HB.out.trans (hp3.mono HB.out.size))
        refine (lineBegun_any _).mono ?_
        rintro e V0 ⟨rfl, hb0⟩
        obtain ⟨m0, m1, m2⟩ := cells3 ((hb0.block _ q1).trans g1)
        obtain ⟨n0, n1, n2⟩ := cells3 ((hb0.block _ q2).trans g2)
        go_wp2_with fail
        clear m0 m1 m2 n0 n1 n2
        refine (samePictures_any W H _ D W H _ D _ (HR2.out.below hb0 (Nat.le_refl _)) (HR1.out.below hb0 (Nat.le_refl _))).mono ?_
        rintro e V2 ⟨rfl, hs2⟩
        rw [show sameB W H D W H D = true by simp [sameB]]
        have hb2 := bel_trans hb0 hs2
        obtain ⟨m0, m1, m2⟩ := cells3 ((hb2.block _ q1).trans g1)
        obtain ⟨n0, n1, n2⟩ := cells3 ((hb2.block _ q3).trans g3)
        go_wp2_with fail
        clear m0 m1 m2 n0 n1 n2
        refine (samePictures_any W H _ D W H _ D _ (HR3.out.below hb2 (Nat.le_refl _)) (HR1.out.below hb2 (Nat.le_refl _))).mono ?_
        rintro e V3 ⟨rfl, hs3⟩
        rw [show sameB W H D W H D = true by simp [sameB]]
        have hb3 := bel_trans hb2 hs3
        go_wp2
        go_ret
        exact ⟨rfl, HBX.out.trans (hb3.mono HBX.out.size)⟩
      · have hS3 : stripsE n W H zs two = 3 := by rw [stripsE, if_pos hE, if_neg r3]
        have d3 : decide (two < 1) = true := by simp; omega
        rw [hS3, show okW 3 W = 0 from rfl, show okW 3 H = 0 from rfl, show okL 3 (stripsL n W H zs two) = [] from rfl] at HC3
        clear hE hS2 hS3 r2 r3
        generalize dev7 n W H zs = D at *
        go_enter Try.func14, Try.ntmps14
        obtain ⟨p0, p1, p2⟩ := cells3 a2
        go_wp2_with (refine wpList_load_row rfl 75 _ rfl _ rfl _ _ _ _ a1 Try.underlying75 rfl (by kernel_rfl) ?_)
        clear p0 p1 p2
        generalize (w.alloc (Obj.cells (planA n (.slice lo n.spots.length lc) (.slice ko n.curve.length kc)) 75)).alloc (Obj.cells #[.int .i64 W, .int .i64 H, .slice ao zs.length ca] 24) = U at *
        have hU : Below U.heap.size U U := Below.refl _ _
        refine (HC1.out _ (HB.out.trans (hU.mono HB.out.size))).mono ?_
        rintro e w1 ⟨r, rfl, hr, hb, hfr⟩
        have HR1 := hide hr
        obtain ⟨ro1, rc1, rfl, x1, x2⟩ := hr
        clear x1 x2 hfr
        obtain ⟨N1, hN⟩ : ∃ N1, (D : List Px).length = N1 := ⟨_, rfl⟩
        rw [hN] at HR1 ⊢
        clear hN
        have g1 := al1 w1 (Obj.cells #[.int .i64 W, .int .i64 H, .slice ro1 N1 rc1] 39)
        have hx1 := bel_trans hb (bel_alloc w1 (Obj.cells #[.int .i64 W, .int .i64 H, .slice ro1 N1 rc1] 39))
        replace HR1 := hide (HR1.out.alloc (Obj.cells #[.int .i64 W, .int .i64 H, .slice ro1 N1 rc1] 39))
        clear hb
        have hp1 := bel_trans hU hx1
        have b1 := (hp1.block _ hl1).trans a1
        obtain ⟨p0, p1, p2⟩ := cells3 ((hp1.block _ hl2).trans a2)
        go_wp2_with (refine wpList_load_row rfl 75 _ rfl _ rfl _ _ _ _ b1 Try.underlying75 rfl (by kernel_rfl) ?_)
        clear p0 p1 p2 b1
        have q1 := (Array.getElem?_eq_some_iff.1 g1).1
        generalize w1.alloc (Obj.cells #[.int .i64 W, .int .i64 H, .slice ro1 N1 rc1] 39) = X1 at *
        generalize w1.heap.size = B1 at *
        refine (HC2.out _ (HB.out.trans (hp1.mono HB.out.size))).mono ?_
        rintro e w2 ⟨r, rfl, hr, hb, hfr⟩
        have HR2 := hide hr
        obtain ⟨ro2, rc2, rfl, x1, x2⟩ := hr
        clear x1 x2 hfr
        obtain ⟨N2, hN⟩ : ∃ N2, (D : List Px).length = N2 := ⟨_, rfl⟩
        rw [hN] at HR2 ⊢
        clear hN
        have g2 := al1 w2 (Obj.cells #[.int .i64 W, .int .i64 H, .slice ro2 N2 rc2] 39)
        have hx2 := bel_trans hb (bel_alloc w2 (Obj.cells #[.int .i64 W, .int .i64 H, .slice ro2 N2 rc2] 39))
        replace HR2 := hide (HR2.out.alloc (Obj.cells #[.int .i64 W, .int .i64 H, .slice ro2 N2 rc2] 39))
        clear hb
        replace g1 := (hx2.block _ q1).trans g1
        replace HR1 := hide (HR1.out.below hx2 (Nat.le_refl _))
        have hp2 := bel_trans hp1 hx2
        have b1 := (hp2.block _ hl1).trans a1
        obtain ⟨p0, p1, p2⟩ := cells3 ((hp2.block _ hl2).trans a2)
        go_wp2_with (refine wpList_load_row rfl 75 _ rfl _ rfl _ _ _ _ b1 Try.underlying75 rfl (by kernel_rfl) ?_)
        clear p0 p1 p2 b1
        replace q1 := (Array.getElem?_eq_some_iff.1 g1).1
        have q2 := (Array.getElem?_eq_some_iff.1 g2).1
        generalize w2.alloc (Obj.cells #[.int .i64 W, .int .i64 H, .slice ro2 N2 rc2] 39) = X2 at *
        generalize w2.heap.size = B2 at *
        refine (HC3.out _ (HB.out.trans (hp2.mono HB.out.size))).mono ?_
        rintro e w3 ⟨r, rfl, hr, hb, hfr⟩
        have HR3 := hide hr
        obtain ⟨ro3, rc3, rfl, x1, x2⟩ := hr
        clear x1 x2 hfr
        obtain ⟨N3, hN⟩ : ∃ N3, (([] : List Px) : List Px).length = N3 := ⟨_, rfl⟩
        rw [hN] at HR3 ⊢
        clear hN
        have g3 := al1 w3 (Obj.cells #[.int .i64 0, .int .i64 0, .slice ro3 N3 rc3] 39)
        have hx3 := bel_trans hb (bel_alloc w3 (Obj.cells #[.int .i64 0, .int .i64 0, .slice ro3 N3 rc3] 39))
        replace HR3 := hide (HR3.out.alloc (Obj.cells #[.int .i64 0, .int .i64 0, .slice ro3 N3 rc3] 39))
        clear hb
        replace g1 := (hx3.block _ q1).trans g1
        replace HR1 := hide (HR1.out.below hx3 (Nat.le_refl _))
        replace g2 := (hx3.block _ q2).trans g2
        replace HR2 := hide (HR2.out.below hx3 (Nat.le_refl _))
        have hp3 := bel_trans hp2 hx3
        go_wp2_with fail
        have q3 := (Array.getElem?_eq_some_iff.1 g3).1
        replace q1 := (Array.getElem?_eq_some_iff.1 g1).1
        replace q2 := (Array.getElem?_eq_some_iff.1 g2).1
        generalize w3.alloc (Obj.cells #[.int .i64 0, .int .i64 0, .slice ro3 N3 rc3] 39) = X3 at *
        generalize w3.heap.size = B3 at *
        have HBX := hide (HB.out.trans (hp3.mono HB.out.size))
        refine (lineBegun_any _).mono ?_
        rintro e V0 ⟨rfl, hb0⟩
        obtain ⟨m0, m1, m2⟩ := cells3 ((hb0.block _ q1).trans g1)
        obtain ⟨n0, n1, n2⟩ := cells3 ((hb0.block _ q2).trans g2)
        go_wp2_with fail
        clear m0 m1 m2 n0 n1 n2
        refine (samePictures_any W H _ D W H _ D _ (HR2.out.below hb0 (Nat.le_refl _)) (HR1.out.below hb0 (Nat.le_refl _))).mono ?_
        rintro e V2 ⟨rfl, hs2⟩
        rw [show sameB W H D W H D = true by simp [sameB]]
        have hb2 := bel_trans hb0 hs2
        go_wp2
        go_ret
        exact ⟨rfl, HBX.out.trans (hb2.mono HBX.out.size)⟩
    · have hS2 : stripsE n W H zs one = 3 := by rw [stripsE, if_pos hE, if_neg r2]
      have d2 : decide (one < 1) = true := by simp; omega
      rw [hS2, show okW 3 W = 0 from rfl, show okW 3 H = 0 from rfl, show okL 3 (stripsL n W H zs one) = [] from rfl] at HC2
      by_cases r3 : 1 ≤ two
      · have hS3 : stripsE n W H zs two = 0 := by rw [stripsE, if_pos hE, if_pos r3]
        have d3 : decide (two < 1) = false := by simp; omega
        rw [hS3, show okW 0 W = W from rfl, show okW 0 H = H from rfl, show okL 0 (stripsL n W H zs two) = stripsL n W H zs two from rfl, strips_whole hE r3] at HC3
        clear hE hS2 hS3 r2 r3
        generalize dev7 n W H zs = D at *
        go_enter Try.func14, Try.ntmps14
        obtain ⟨p0, p1, p2⟩ := cells3 a2
        go_wp2_with (refine wpList_load_row rfl 75 _ rfl _ rfl _ _ _ _ a1 Try.underlying75 rfl (by kernel_rfl) ?_)
        clear p0 p1 p2
        generalize (w.alloc (Obj.cells (planA n (.slice lo n.spots.length lc) (.slice ko n.curve.length kc)) 75)).alloc (Obj.cells #[.int .i64 W, .int .i64 H, .slice ao zs.length ca] 24) = U at *
        have hU : Below U.heap.size U U := Below.refl _ _
        refine (HC1.out _ (HB.out.trans (hU.mono HB.out.size))).mono ?_
        rintro e w1 ⟨r, rfl, hr, hb, hfr⟩
        have HR1 := hide hr
        obtain ⟨ro1, rc1, rfl, x1, x2⟩ := hr
        clear x1 x2 hfr
        obtain ⟨N1, hN⟩ : ∃ N1, (D : List Px).length = N1 := ⟨_, rfl⟩
        rw [hN] at HR1 ⊢
        clear hN
        have g1 := al1 w1 (Obj.cells #[.int .i64 W, .int .i64 H, .slice ro1 N1 rc1] 39)
        have hx1 := bel_trans hb (bel_alloc w1 (Obj.cells #[.int .i64 W, .int .i64 H, .slice ro1 N1 rc1] 39))
        replace HR1 := hide (HR1.out.alloc (Obj.cells #[.int .i64 W, .int .i64 H, .slice ro1 N1 rc1] 39))
        clear hb
        have hp1 := bel_trans hU hx1
        have b1 := (hp1.block _ hl1).trans a1
        obtain ⟨p0, p1, p2⟩ := cells3 ((hp1.block _ hl2).trans a2)
        go_wp2_with (refine wpList_load_row rfl 75 _ rfl _ rfl _ _ _ _ b1 Try.underlying75 rfl (by kernel_rfl) ?_)
        clear p0 p1 p2 b1
        have q1 := (Array.getElem?_eq_some_iff.1 g1).1
        generalize w1.alloc (Obj.cells #[.int .i64 W, .int .i64 H, .slice ro1 N1 rc1] 39) = X1 at *
        generalize w1.heap.size = B1 at *
        refine (HC2.out _ (HB.out.trans (hp1.mono HB.out.size))).mono ?_
        rintro e w2 ⟨r, rfl, hr, hb, hfr⟩
        have HR2 := hide hr
        obtain ⟨ro2, rc2, rfl, x1, x2⟩ := hr
        clear x1 x2 hfr
        obtain ⟨N2, hN⟩ : ∃ N2, (([] : List Px) : List Px).length = N2 := ⟨_, rfl⟩
        rw [hN] at HR2 ⊢
        clear hN
        have g2 := al1 w2 (Obj.cells #[.int .i64 0, .int .i64 0, .slice ro2 N2 rc2] 39)
        have hx2 := bel_trans hb (bel_alloc w2 (Obj.cells #[.int .i64 0, .int .i64 0, .slice ro2 N2 rc2] 39))
        replace HR2 := hide (HR2.out.alloc (Obj.cells #[.int .i64 0, .int .i64 0, .slice ro2 N2 rc2] 39))
        clear hb
        replace g1 := (hx2.block _ q1).trans g1
        replace HR1 := hide (HR1.out.below hx2 (Nat.le_refl _))
        have hp2 := bel_trans hp1 hx2
        have b1 := (hp2.block _ hl1).trans a1
        obtain ⟨p0, p1, p2⟩ := cells3 ((hp2.block _ hl2).trans a2)
        go_wp2_with (refine wpList_load_row rfl 75 _ rfl _ rfl _ _ _ _ b1 Try.underlying75 rfl (by kernel_rfl) ?_)
        clear p0 p1 p2 b1
        replace q1 := (Array.getElem?_eq_some_iff.1 g1).1
        have q2 := (Array.getElem?_eq_some_iff.1 g2).1
        generalize w2.alloc (Obj.cells #[.int .i64 0, .int .i64 0, .slice ro2 N2 rc2] 39) = X2 at *
        generalize w2.heap.size = B2 at *
        refine (HC3.out _ (HB.out.trans (hp2.mono HB.out.size))).mono ?_
        rintro e w3 ⟨r, rfl, hr, hb, hfr⟩
        have HR3 := hide hr
        obtain ⟨ro3, rc3, rfl, x1, x2⟩ := hr
        clear x1 x2 hfr
        obtain ⟨N3, hN⟩ : ∃ N3, (D : List Px).length = N3 := ⟨_, rfl⟩
        rw [hN] at HR3 ⊢
        clear hN
        have g3 := al1 w3 (Obj.cells #[.int .i64 W, .int .i64 H, .slice ro3 N3 rc3] 39)
        have hx3 := bel_trans hb (bel_alloc w3 (Obj.cells #[.int .i64 W, .int .i64 H, .slice ro3 N3 rc3] 39))
        replace HR3 := hide (HR3.out.alloc (Obj.cells #[.int .i64 W, .int .i64 H, .slice ro3 N3 rc3] 39))
        clear hb
        replace g1 := (hx3.block _ q1).trans g1
        replace HR1 := hide (HR1.out.below hx3 (Nat.le_refl _))
        replace g2 := (hx3.block _ q2).trans g2
        replace HR2 := hide (HR2.out.below hx3 (Nat.le_refl _))
        have hp3 := bel_trans hp2 hx3
        go_wp2_with fail
        have q3 := (Array.getElem?_eq_some_iff.1 g3).1
        replace q1 := (Array.getElem?_eq_some_iff.1 g1).1
        replace q2 := (Array.getElem?_eq_some_iff.1 g2).1
        generalize w3.alloc (Obj.cells #[.int .i64 W, .int .i64 H, .slice ro3 N3 rc3] 39) = X3 at *
        generalize w3.heap.size = B3 at *
        have HBX := hide (HB.out.trans (hp3.mono HB.out.size))
        refine (lineBegun_any _).mono ?_
        rintro e V0 ⟨rfl, hb0⟩
        obtain ⟨m0, m1, m2⟩ := cells3 ((hb0.block _ q1).trans g1)
        obtain ⟨n0, n1, n2⟩ := cells3 ((hb0.block _ q3).trans g3)
        go_wp2_with fail
        clear m0 m1 m2 n0 n1 n2
        refine (samePictures_any W H _ D W H _ D _ (HR3.out.below hb0 (Nat.le_refl _)) (HR1.out.below hb0 (Nat.le_refl _))).mono ?_
        rintro e V3 ⟨rfl, hs3⟩
        rw [show sameB W H D W H D = true by simp [sameB]]
        have hb3 := bel_trans hb0 hs3
        go_wp2
        go_ret
        exact ⟨rfl, HBX.out.trans (hb3.mono HBX.out.size)⟩
      · have hS3 : stripsE n W H zs two = 3 := by rw [stripsE, if_pos hE, if_neg r3]
        have d3 : decide (two < 1) = true := by simp; omega
        rw [hS3, show okW 3 W = 0 from rfl, show okW 3 H = 0 from rfl, show okL 3 (stripsL n W H zs two) = [] from rfl] at HC3
        clear hE hS2 hS3 r2 r3
        generalize dev7 n W H zs = D at *
        go_enter Try.func14, Try.ntmps14
        obtain ⟨p0, p1, p2⟩ := cells3 a2
        go_wp2_with (refine wpList_load_row rfl 75 _ rfl _ rfl _ _ _ _ a1 Try.underlying75 rfl (by kernel_rfl) ?_)
        clear p0 p1 p2
        generalize (w.alloc (Obj.cells (planA n (.slice lo n.spots.length lc) (.slice ko n.curve.length kc)) 75)).alloc (Obj.cells #[.int .i64 W, .int .i64 H, .slice ao zs.length ca] 24) = U at *
        have hU : Below U.heap.size U U := Below.refl _ _
        refine (HC1.out _ (HB.out.trans (hU.mono HB.out.size))).mono ?_
        rintro e w1 ⟨r, rfl, hr, hb, hfr⟩
        have HR1 := hide hr
        obtain ⟨ro1, rc1, rfl, x1, x2⟩ := hr
        clear x1 x2 hfr
        obtain ⟨N1, hN⟩ : ∃ N1, (D : List Px).length = N1 := ⟨_, rfl⟩
        rw [hN] at HR1 ⊢
        clear hN
        have g1 := al1 w1 (Obj.cells #[.int .i64 W, .int .i64 H, .slice ro1 N1 rc1] 39)
        have hx1 := bel_trans hb (bel_alloc w1 (Obj.cells #[.int .i64 W, .int .i64 H, .slice ro1 N1 rc1] 39))
        replace HR1 := hide (HR1.out.alloc (Obj.cells #[.int .i64 W, .int .i64 H, .slice ro1 N1 rc1] 39))
        clear hb
        have hp1 := bel_trans hU hx1
        have b1 := (hp1.block _ hl1).trans a1
        obtain ⟨p0, p1, p2⟩ := cells3 ((hp1.block _ hl2).trans a2)
        go_wp2_with (refine wpList_load_row rfl 75 _ rfl _ rfl _ _ _ _ b1 Try.underlying75 rfl (by kernel_rfl) ?_)
        clear p0 p1 p2 b1
        have q1 := (Array.getElem?_eq_some_iff.1 g1).1
        generalize w1.alloc (Obj.cells #[.int .i64 W, .int .i64 H, .slice ro1 N1 rc1] 39) = X1 at *
        generalize w1.heap.size = B1 at *
        refine (HC2.out _ (HB.out.trans (hp1.mono HB.out.size))).mono ?_
        rintro e w2 ⟨r, rfl, hr, hb, hfr⟩
        have HR2 := hide hr
        obtain ⟨ro2, rc2, rfl, x1, x2⟩ := hr
        clear x1 x2 hfr
        obtain ⟨N2, hN⟩ : ∃ N2, (([] : List Px) : List Px).length = N2 := ⟨_, rfl⟩
        rw [hN] at HR2 ⊢
        clear hN
        have g2 := al1 w2 (Obj.cells #[.int .i64 0, .int .i64 0, .slice ro2 N2 rc2] 39)
        have hx2 := bel_trans hb (bel_alloc w2 (Obj.cells #[.int .i64 0, .int .i64 0, .slice ro2 N2 rc2] 39))
        replace HR2 := hide (HR2.out.alloc (Obj.cells #[.int .i64 0, .int .i64 0, .slice ro2 N2 rc2] 39))
        clear hb
        replace g1 := (hx2.block _ q1).trans g1
        replace HR1 := hide (HR1.out.below hx2 (Nat.le_refl _))
        have hp2 := bel_trans hp1 hx2
        have b1 := (hp2.block _ hl1).trans a1
        obtain ⟨p0, p1, p2⟩ := cells3 ((hp2.block _ hl2).trans a2)
        go_wp2_with (refine wpList_load_row rfl 75 _ rfl _ rfl _ _ _ _ b1 Try.underlying75 rfl (by kernel_rfl) ?_)
        clear p0 p1 p2 b1
        replace q1 := (Array.getElem?_eq_some_iff.1 g1).1
        have q2 := (Array.getElem?_eq_some_iff.1 g2).1
        generalize w2.alloc (Obj.cells #[.int .i64 0, .int .i64 0, .slice ro2 N2 rc2] 39) = X2 at *
        generalize w2.heap.size = B2 at *
        refine (HC3.out _ (HB.out.trans (hp2.mono HB.out.size))).mono ?_
        rintro e w3 ⟨r, rfl, hr, hb, hfr⟩
        have HR3 := hide hr
        obtain ⟨ro3, rc3, rfl, x1, x2⟩ := hr
        clear x1 x2 hfr
        obtain ⟨N3, hN⟩ : ∃ N3, (([] : List Px) : List Px).length = N3 := ⟨_, rfl⟩
        rw [hN] at HR3 ⊢
        clear hN
        have g3 := al1 w3 (Obj.cells #[.int .i64 0, .int .i64 0, .slice ro3 N3 rc3] 39)
        have hx3 := bel_trans hb (bel_alloc w3 (Obj.cells #[.int .i64 0, .int .i64 0, .slice ro3 N3 rc3] 39))
        replace HR3 := hide (HR3.out.alloc (Obj.cells #[.int .i64 0, .int .i64 0, .slice ro3 N3 rc3] 39))
        clear hb
        replace g1 := (hx3.block _ q1).trans g1
        replace HR1 := hide (HR1.out.below hx3 (Nat.le_refl _))
        replace g2 := (hx3.block _ q2).trans g2
        replace HR2 := hide (HR2.out.below hx3 (Nat.le_refl _))
        have hp3 := bel_trans hp2 hx3
        go_wp2_with fail
        have q3 := (Array.getElem?_eq_some_iff.1 g3).1
        replace q1 := (Array.getElem?_eq_some_iff.1 g1).1
        replace q2 := (Array.getElem?_eq_some_iff.1 g2).1
        generalize w3.alloc (Obj.cells #[.int .i64 0, .int .i64 0, .slice ro3 N3 rc3] 39) = X3 at *
        generalize w3.heap.size = B3 at *
        have HBX := hide (HB.out.trans (hp3.mono HB.out.size))
        refine (lineBegun_any _).mono ?_
        rintro e V0 ⟨rfl, hb0⟩
        go_wp2
        go_ret
        exact ⟨rfl, HBX.out.trans (hb0.mono HBX.out.size)⟩
  · have h2 : stripsE n W H zs one = fitsE n W H zs H := by rw [stripsE, if_neg hE]
    have h3 : stripsE n W H zs two = fitsE n W H zs H := by rw [stripsE, if_neg hE]
    rw [okW, if_neg hE, okW, if_neg hE, okL, if_neg hE] at HC1
    rw [h2, okW, if_neg hE, okW, if_neg hE, okL, if_neg hE] at HC2
    rw [h3, okW, if_neg hE, okW, if_neg hE, okL, if_neg hE] at HC3
    clear h2 h3
    generalize fitsE n W H zs H = E at *
    have hn : (E != 0) = true := by simpa using hE
    go_enter Try.func14, Try.ntmps14
    obtain ⟨p0, p1, p2⟩ := cells3 a2
    go_wp2_with (refine wpList_load_row rfl 75 _ rfl _ rfl _ _ _ _ a1 Try.underlying75 rfl (by kernel_rfl) ?_)
    clear p0 p1 p2
    generalize (w.alloc (Obj.cells (planA n (.slice lo n.spots.length lc) (.slice ko n.curve.length kc)) 75)).alloc (Obj.cells #[.int .i64 W, .int .i64 H, .slice ao zs.length ca] 24) = U at *
    have hU : Below U.heap.size U U := Below.refl _ _
    refine (HC1.out _ (HB.out.trans (hU.mono HB.out.size))).mono ?_
    rintro e w1 ⟨r, rfl, hr, hb, hfr⟩
    have HR1 := hide hr
    obtain ⟨ro1, rc1, rfl, x1, x2⟩ := hr
    clear x1 x2 hfr
    obtain ⟨N1, hN⟩ : ∃ N1, (([] : List Px) : List Px).length = N1 := ⟨_, rfl⟩
    rw [hN] at HR1 ⊢
    clear hN
    have g1 := al1 w1 (Obj.cells #[.int .i64 0, .int .i64 0, .slice ro1 N1 rc1] 39)
    have hx1 := bel_trans hb (bel_alloc w1 (Obj.cells #[.int .i64 0, .int .i64 0, .slice ro1 N1 rc1] 39))
    replace HR1 := hide (HR1.out.alloc (Obj.cells #[.int .i64 0, .int .i64 0, .slice ro1 N1 rc1] 39))
    clear hb
    have hp1 := bel_trans hU hx1
    have b1 := (hp1.block _ hl1).trans a1
    obtain ⟨p0, p1, p2⟩ := cells3 ((hp1.block _ hl2).trans a2)
    go_wp2_with (refine wpList_load_row rfl 75 _ rfl _ rfl _ _ _ _ b1 Try.underlying75 rfl (by kernel_rfl) ?_)
    clear p0 p1 p2 b1
    have q1 := (Array.getElem?_eq_some_iff.1 g1).1
    generalize w1.alloc (Obj.cells #[.int .i64 0, .int .i64 0, .slice ro1 N1 rc1] 39) = X1 at *
    generalize w1.heap.size = B1 at *
    refine (HC2.out _ (HB.out.trans (hp1.mono HB.out.size))).mono ?_
    rintro e w2 ⟨r, rfl, hr, hb, hfr⟩
    have HR2 := hide hr
    obtain ⟨ro2, rc2, rfl, x1, x2⟩ := hr
    clear x1 x2 hfr
    obtain ⟨N2, hN⟩ : ∃ N2, (([] : List Px) : List Px).length = N2 := ⟨_, rfl⟩
    rw [hN] at HR2 ⊢
    clear hN
    have g2 := al1 w2 (Obj.cells #[.int .i64 0, .int .i64 0, .slice ro2 N2 rc2] 39)
    have hx2 := bel_trans hb (bel_alloc w2 (Obj.cells #[.int .i64 0, .int .i64 0, .slice ro2 N2 rc2] 39))
    replace HR2 := hide (HR2.out.alloc (Obj.cells #[.int .i64 0, .int .i64 0, .slice ro2 N2 rc2] 39))
    clear hb
    replace g1 := (hx2.block _ q1).trans g1
    replace HR1 := hide (HR1.out.below hx2 (Nat.le_refl _))
    have hp2 := bel_trans hp1 hx2
    have b1 := (hp2.block _ hl1).trans a1
    obtain ⟨p0, p1, p2⟩ := cells3 ((hp2.block _ hl2).trans a2)
    go_wp2_with (refine wpList_load_row rfl 75 _ rfl _ rfl _ _ _ _ b1 Try.underlying75 rfl (by kernel_rfl) ?_)
    clear p0 p1 p2 b1
    replace q1 := (Array.getElem?_eq_some_iff.1 g1).1
    have q2 := (Array.getElem?_eq_some_iff.1 g2).1
    generalize w2.alloc (Obj.cells #[.int .i64 0, .int .i64 0, .slice ro2 N2 rc2] 39) = X2 at *
    generalize w2.heap.size = B2 at *
    refine (HC3.out _ (HB.out.trans (hp2.mono HB.out.size))).mono ?_
    rintro e w3 ⟨r, rfl, hr, hb, hfr⟩
    have HR3 := hide hr
    obtain ⟨ro3, rc3, rfl, x1, x2⟩ := hr
    clear x1 x2 hfr
    obtain ⟨N3, hN⟩ : ∃ N3, (([] : List Px) : List Px).length = N3 := ⟨_, rfl⟩
    rw [hN] at HR3 ⊢
    clear hN
    have g3 := al1 w3 (Obj.cells #[.int .i64 0, .int .i64 0, .slice ro3 N3 rc3] 39)
    have hx3 := bel_trans hb (bel_alloc w3 (Obj.cells #[.int .i64 0, .int .i64 0, .slice ro3 N3 rc3] 39))
    replace HR3 := hide (HR3.out.alloc (Obj.cells #[.int .i64 0, .int .i64 0, .slice ro3 N3 rc3] 39))
    clear hb
    replace g1 := (hx3.block _ q1).trans g1
    replace HR1 := hide (HR1.out.below hx3 (Nat.le_refl _))
    replace g2 := (hx3.block _ q2).trans g2
    replace HR2 := hide (HR2.out.below hx3 (Nat.le_refl _))
    have hp3 := bel_trans hp2 hx3
    go_wp2_with fail
    have q3 := (Array.getElem?_eq_some_iff.1 g3).1
    replace q1 := (Array.getElem?_eq_some_iff.1 g1).1
    replace q2 := (Array.getElem?_eq_some_iff.1 g2).1
    generalize w3.alloc (Obj.cells #[.int .i64 0, .int .i64 0, .slice ro3 N3 rc3] 39) = X3 at *
    generalize w3.heap.size = B3 at *
    have HBX := hide (HB.out.trans (hp3.mono HB.out.size))
    refine (lineBegun_any _).mono ?_
    rintro e V0 ⟨rfl, hb0⟩
    go_wp2
    go_ret
    exact ⟨rfl, HBX.out.trans (hb0.mono HBX.out.size)⟩
end Go.Proofs.Ytolcndchfnifhab
