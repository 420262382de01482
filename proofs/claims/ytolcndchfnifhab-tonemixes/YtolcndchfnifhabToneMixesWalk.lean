/- ToneMixes: the walk. -/
import Derived.Test.YtolcndchfnifhabRefMixed
import Derived.Test.YtolcndchfnifhabToneBendsWalk
namespace Go.Proofs.Ytolcndchfnifhab
open Go.RowKit

set_option maxRecDepth 100000 in
set_option maxHeartbeats 3200000 in
theorem toneMixes_walk (W H : Int) (v : Value) (ps : List Px) (m : Nat → Int) (w : World) (hv : IsPix w v ps) :
    Calls Try.prog 6 #[.agg #[.int .i64 W, .int .i64 H, v], .agg (nine m)] w fun e w' => e = .returned (.bool true) ∧ Below w.heap.size w w' := by
  have HV := hide hv
  obtain ⟨ao, ca, rfl, _, _⟩ := hv
  by_cases hp : picOk W H ps = true
  · by_cases hm : matOk m = true
    · have h4 : ps.length ≤ 4096 := by
        obtain ⟨a, b, c, _⟩ := picOk_parts hp
        have := side_mul a b
        omega
      have hpos : 1 ≤ ps.length := by
        obtain ⟨a, b, c, _⟩ := picOk_parts hp
        have := side_mul a b
        omega
      have hE : mixE W H ps m = 0 := by rw [mixE, if_pos hp, if_pos hm]
      have HB := hide (mix_any W H _ ps m _ ((HV.out.alloc (Obj.cells #[.int .i64 W, .int .i64 H, .slice ao ps.length ca] 39)).alloc (Obj.cells (nine m) 53)))
      rw [hE] at HB
      rw [show okW 0 W = W from rfl, show okW 0 H = H from rfl, show okL 0 (ps.map (mixP m)) = ps.map (mixP m) from rfl] at HB
      have HU := hide (be2 w (Obj.cells #[.int .i64 W, .int .i64 H, .slice ao ps.length ca] 39) (Obj.cells (nine m) 53))
      obtain ⟨u1, u2⟩ := al2 w (Obj.cells #[.int .i64 W, .int .i64 H, .slice ao ps.length ca] 39) (Obj.cells (nine m) 53)
      clear hE
      go_enter Try.func6, Try.ntmps6
      go_wp2_with fail
      generalize (w.alloc (Obj.cells #[.int .i64 W, .int .i64 H, .slice ao ps.length ca] 39)).alloc (Obj.cells (nine m) 53) = U at *
      refine HB.out.mono ?_
      rintro e w1 ⟨r, rfl, hr, hb1, _⟩
      have HR1 := hide hr
      obtain ⟨ro, rc, rfl, _, _⟩ := hr
      rw [List.length_map] at HR1 ⊢
      have hlU := (Array.getElem?_eq_some_iff.1 u1).1
      have hlM := (Array.getElem?_eq_some_iff.1 u2).1
      have hs1 := hb1.size
      have B2 := bel_trans hb1 (bel_alloc w1 (Obj.cells #[.int .i64 W, .int .i64 H, .slice ro ps.length rc] 39))
      have t7 := al1 w1 (Obj.cells #[.int .i64 W, .int .i64 H, .slice ro ps.length rc] 39)
      have HR2 := hide (HR1.out.alloc (Obj.cells #[.int .i64 W, .int .i64 H, .slice ro ps.length rc] 39))
      obtain ⟨q0, q1, q2⟩ := cells3 ((hb1.block w.heap.size hlU).trans u1)
      obtain ⟨q3, q4, q5⟩ := cells3 ((B2.block w.heap.size hlU).trans u1)
      go_wp2_with fail
      generalize w1.alloc (Obj.cells #[.int .i64 W, .int .i64 H, .slice ro ps.length rc] 39) = W2 at *
      clear q0 q1 q2 q3 q4 q5
      refine (pictureFine_any W H _ ps _ (HV.out.below (bel_trans HU.out B2) (Nat.le_refl _))).mono ?_
      rintro e w3 ⟨rfl, hb3⟩
      rw [hp]
      have hl7 := (Array.getElem?_eq_some_iff.1 t7).1
      have B3 := bel_trans B2 hb3
      have t7a := (hb3.block w1.heap.size hl7).trans t7
      have HR3 := hide (HR2.out.below hb3 (Nat.le_refl _))
      have nc := nine_cells ((B3.block (w.heap.size + 1) hlM).trans u2)
      obtain ⟨c0, c1, c2, c3, c4, c5, c6, c7, c8⟩ := nc
      go_wp2_with fail
      refine (mixFine_any m _).mono ?_
      rintro e w5 ⟨rfl, hb5⟩
      rw [hm]
      clear c0 c1 c2 c3 c4 c5 c6 c7 c8
      have B5 := bel_trans B3 hb5
      have t7c := (hb5.block w1.heap.size (Array.getElem?_eq_some_iff.1 t7a).1).trans t7a
      have HR5 := hide (HR3.out.below hb5 (Nat.le_refl _))
      have hb6 := bel_alloc w5 (Obj.cells #[.int .i64 0, .int .i64 0, .slice none 0 0] 39)
      have B6 := bel_trans B5 hb6
      have t14 := al1 w5 (Obj.cells #[.int .i64 0, .int .i64 0, .slice none 0 0] 39)
      have hl7c := (Array.getElem?_eq_some_iff.1 t7c).1
      have t7d := (hb6.block w1.heap.size hl7c).trans t7c
      have HR6 := hide (HR5.out.alloc (Obj.cells #[.int .i64 0, .int .i64 0, .slice none 0 0] 39))
      have hs5 := B5.size
      obtain ⟨q0, q1, q2⟩ := cells3 ((B5.block w.heap.size hlU).trans u1)
      obtain ⟨q3, q4, q5⟩ := cells3 ((B6.block w.heap.size hlU).trans u1)
      obtain ⟨c0, c1, c2, c3, c4, c5, c6, c7, c8⟩ := nine_cells ((B5.block (w.heap.size + 1) hlM).trans u2)
      obtain ⟨d0, d1, d2, d3, d4, d5, d6, d7, d8⟩ := nine_cells ((B6.block (w.heap.size + 1) hlM).trans u2)
      go_wp2_with fail
      generalize w5.alloc (Obj.cells #[.int .i64 0, .int .i64 0, .slice none 0 0] 39) = W6 at *
      clear q0 q1 q2 q3 q4 q5 c0 c1 c2 c3 c4 c5 c6 c7 c8 d0 d1 d2 d3 d4 d5 d6 d7 d8
      have hl14 := (Array.getElem?_eq_some_iff.1 t14).1
      have hl7d := (Array.getElem?_eq_some_iff.1 t7d).1
      refine (mixed_any W H _ ps m hm (picOk_parts hp).2.2.2 h4 _ (HV.out.below (bel_trans HU.out B6) (Nat.le_refl _))).mono ?_
      rintro e w8 ⟨r2, rfl, hr2, hb8, hfr⟩
      have B8 := bel_trans B6 hb8
      have g14 := (hb8.block w5.heap.size hl14).trans t14
      obtain ⟨z0, z1, z2⟩ := cells3 g14
      have f0 := Lib.frozen_of_heap g14 0
      have f1 := Lib.frozen_of_heap g14 1
      have f2 := Lib.frozen_of_heap g14 2
      have HX := hide hr2
      obtain ⟨so, sc, rfl, _, _⟩ := hr2
      rw [List.length_map] at HX hfr ⊢
      have hUs := HU.out.size
      have hwU : w.heap.size ≤ w5.heap.size := by omega
      obtain ⟨y1, y2, y3, y4⟩ := box3_set g14 (.int .i64 W) (.int .i64 H) (.slice so ps.length sc) w hwU ((bel_trans HU.out B8))
      have HRB := hide (HX.out.set3 hfr hl14 (.int .i64 W) (.int .i64 H) (.slice so ps.length sc))
      have g7 := (hb8.block w1.heap.size hl7d).trans t7d
      have hne7 : w1.heap.size ≠ w5.heap.size := by omega
      have g7' := (y2 w1.heap.size hne7).trans g7
      have hbo : (Value.slice ro ps.length rc).ownBlock ≠ some w5.heap.size := fun e => by
        rcases HR1.out.blockLt e with h | h
        · have := congrArg List.length h; rw [List.length_map, List.length_nil] at this; omega
        · omega
      have HRA := hide ((HR6.out.below hb8 (Nat.le_refl _)).other (set3_size w8 w5.heap.size (.int .i64 W) (.int .i64 H) (.slice so ps.length sc)) (fun b hb => set3_heap _ _ _ _ _ b hb) hbo)
      go_wp2_with fail
      generalize ((w8.setCell ⟨w5.heap.size, 0, none⟩ (.int .i64 W)).setCell ⟨w5.heap.size, 1, none⟩ (.int .i64 H)).setCell ⟨w5.heap.size, 2, none⟩ (.slice so ps.length sc) = W9 at *
      refine (toneBegun_any _).mono ?_
      rintro e w10 ⟨rfl, hb10⟩
      obtain ⟨m0, m1, m2⟩ := cells3 ((hb10.block w5.heap.size (Array.getElem?_eq_some_iff.1 y1).1).trans y1)
      obtain ⟨k0, k1, k2⟩ := cells3 ((hb10.block w1.heap.size (Array.getElem?_eq_some_iff.1 g7').1).trans g7')
      have HF := hide (bel_trans y4 hb10)
      go_wp2_with fail
      refine (samePictures_any W H _ (ps.map (mixP m)) W H _ (ps.map (mixP m)) _ (HRA.out.below hb10 (Nat.le_refl _)) (HRB.out.below hb10 (Nat.le_refl _))).mono ?_
      rintro e w11 ⟨rfl, hb11⟩
      rw [show sameB W H (ps.map (mixP m)) W H (ps.map (mixP m)) = true by simp [sameB]]
      go_wp2
      go_ret
      exact ⟨rfl, bel_trans HF.out hb11⟩
    · have hm : matOk m = false := by simpa using hm
      have hE : mixE W H ps m = 3 := by rw [mixE, if_pos hp, if_neg (by rw [hm]; decide)]
      have HB := hide (mix_any W H _ ps m _ ((HV.out.alloc (Obj.cells #[.int .i64 W, .int .i64 H, .slice ao ps.length ca] 39)).alloc (Obj.cells (nine m) 53)))
      rw [hE] at HB
      rw [show okW 3 W = 0 from rfl, show okW 3 H = 0 from rfl, show okL 3 (ps.map (mixP m)) = [] from rfl] at HB
      have HU := hide (be2 w (Obj.cells #[.int .i64 W, .int .i64 H, .slice ao ps.length ca] 39) (Obj.cells (nine m) 53))
      obtain ⟨u1, u2⟩ := al2 w (Obj.cells #[.int .i64 W, .int .i64 H, .slice ao ps.length ca] 39) (Obj.cells (nine m) 53)
      clear hE
      go_enter Try.func6, Try.ntmps6
      go_wp2_with fail
      generalize (w.alloc (Obj.cells #[.int .i64 W, .int .i64 H, .slice ao ps.length ca] 39)).alloc (Obj.cells (nine m) 53) = U at *
      refine HB.out.mono ?_
      rintro e w1 ⟨r, rfl, hr, hb1, _⟩
      have HR1 := hide hr
      obtain ⟨ro, rc, rfl, _, _⟩ := hr
      rw [List.length_nil] at HR1 ⊢
      have hlU := (Array.getElem?_eq_some_iff.1 u1).1
      have hlM := (Array.getElem?_eq_some_iff.1 u2).1
      have hs1 := hb1.size
      have B2 := bel_trans hb1 (bel_alloc w1 (Obj.cells #[.int .i64 0, .int .i64 0, .slice ro 0 rc] 39))
      have t7 := al1 w1 (Obj.cells #[.int .i64 0, .int .i64 0, .slice ro 0 rc] 39)
      have HR2 := hide (HR1.out.alloc (Obj.cells #[.int .i64 0, .int .i64 0, .slice ro 0 rc] 39))
      obtain ⟨q0, q1, q2⟩ := cells3 ((hb1.block w.heap.size hlU).trans u1)
      obtain ⟨q3, q4, q5⟩ := cells3 ((B2.block w.heap.size hlU).trans u1)
      go_wp2_with fail
      generalize w1.alloc (Obj.cells #[.int .i64 0, .int .i64 0, .slice ro 0 rc] 39) = W2 at *
      clear q0 q1 q2 q3 q4 q5
      refine (pictureFine_any W H _ ps _ (HV.out.below (bel_trans HU.out B2) (Nat.le_refl _))).mono ?_
      rintro e w3 ⟨rfl, hb3⟩
      rw [hp]
      have hl7 := (Array.getElem?_eq_some_iff.1 t7).1
      have B3 := bel_trans B2 hb3
      have t7a := (hb3.block w1.heap.size hl7).trans t7
      have HR3 := hide (HR2.out.below hb3 (Nat.le_refl _))
      have nc := nine_cells ((B3.block (w.heap.size + 1) hlM).trans u2)
      obtain ⟨c0, c1, c2, c3, c4, c5, c6, c7, c8⟩ := nc
      go_wp2_with fail
      refine (mixFine_any m _).mono ?_
      rintro e w5 ⟨rfl, hb5⟩
      rw [hm]
      clear c0 c1 c2 c3 c4 c5 c6 c7 c8
      have B5 := bel_trans B3 hb5
      have t7c := (hb5.block w1.heap.size (Array.getElem?_eq_some_iff.1 t7a).1).trans t7a
      have HR5 := hide (HR3.out.below hb5 (Nat.le_refl _))
      have hb6 := bel_alloc w5 (Obj.cells #[.int .i64 0, .int .i64 0, .slice none 0 0] 39)
      have B6 := bel_trans B5 hb6
      have t14 := al1 w5 (Obj.cells #[.int .i64 0, .int .i64 0, .slice none 0 0] 39)
      have hl7c := (Array.getElem?_eq_some_iff.1 t7c).1
      have t7d := (hb6.block w1.heap.size hl7c).trans t7c
      have HR6 := hide (HR5.out.alloc (Obj.cells #[.int .i64 0, .int .i64 0, .slice none 0 0] 39))
      have hs5 := B5.size
      have y4 := bel_trans HU.out B6
      have HRB := hide (IsPix.nil (w5.alloc (Obj.cells #[.int .i64 0, .int .i64 0, .slice none 0 0] 39)))
      have HRA := HR6
      have y1 := t14
      have g7' := t7d
      go_wp2_with fail
      generalize w5.alloc (Obj.cells #[.int .i64 0, .int .i64 0, .slice none 0 0] 39) = W9 at *
      refine (toneBegun_any _).mono ?_
      rintro e w10 ⟨rfl, hb10⟩
      obtain ⟨m0, m1, m2⟩ := cells3 ((hb10.block w5.heap.size (Array.getElem?_eq_some_iff.1 y1).1).trans y1)
      obtain ⟨k0, k1, k2⟩ := cells3 ((hb10.block w1.heap.size (Array.getElem?_eq_some_iff.1 g7').1).trans g7')
      have HF := hide (bel_trans y4 hb10)
      go_wp2_with fail
      refine (samePictures_any 0 0 _ (([] : List Px)) 0 0 _ (([] : List Px)) _ (HRA.out.below hb10 (Nat.le_refl _)) (HRB.out.below hb10 (Nat.le_refl _))).mono ?_
      rintro e w11 ⟨rfl, hb11⟩
      rw [show sameB 0 0 (([] : List Px)) 0 0 (([] : List Px)) = true by simp [sameB]]
      go_wp2
      go_ret
      exact ⟨rfl, bel_trans HF.out hb11⟩
  · have hp : picOk W H ps = false := by simpa using hp
    have hE : mixE W H ps m = 1 := by rw [mixE, if_neg (by rw [hp]; decide)]
    have HB := hide (mix_any W H _ ps m _ ((HV.out.alloc (Obj.cells #[.int .i64 W, .int .i64 H, .slice ao ps.length ca] 39)).alloc (Obj.cells (nine m) 53)))
    rw [hE] at HB
    rw [show okW 1 W = 0 from rfl, show okW 1 H = 0 from rfl, show okL 1 (ps.map (mixP m)) = [] from rfl] at HB
    have HU := hide (be2 w (Obj.cells #[.int .i64 W, .int .i64 H, .slice ao ps.length ca] 39) (Obj.cells (nine m) 53))
    obtain ⟨u1, u2⟩ := al2 w (Obj.cells #[.int .i64 W, .int .i64 H, .slice ao ps.length ca] 39) (Obj.cells (nine m) 53)
    clear hE
    go_enter Try.func6, Try.ntmps6
    go_wp2_with fail
    generalize (w.alloc (Obj.cells #[.int .i64 W, .int .i64 H, .slice ao ps.length ca] 39)).alloc (Obj.cells (nine m) 53) = U at *
    refine HB.out.mono ?_
    rintro e w1 ⟨r, rfl, hr, hb1, _⟩
    have HR1 := hide hr
    obtain ⟨ro, rc, rfl, _, _⟩ := hr
    rw [List.length_nil] at HR1 ⊢
    have hlU := (Array.getElem?_eq_some_iff.1 u1).1
    have hlM := (Array.getElem?_eq_some_iff.1 u2).1
    have hs1 := hb1.size
    have B2 := bel_trans hb1 (bel_alloc w1 (Obj.cells #[.int .i64 0, .int .i64 0, .slice ro 0 rc] 39))
    have t7 := al1 w1 (Obj.cells #[.int .i64 0, .int .i64 0, .slice ro 0 rc] 39)
    have HR2 := hide (HR1.out.alloc (Obj.cells #[.int .i64 0, .int .i64 0, .slice ro 0 rc] 39))
    obtain ⟨q0, q1, q2⟩ := cells3 ((hb1.block w.heap.size hlU).trans u1)
    obtain ⟨q3, q4, q5⟩ := cells3 ((B2.block w.heap.size hlU).trans u1)
    go_wp2_with fail
    generalize w1.alloc (Obj.cells #[.int .i64 0, .int .i64 0, .slice ro 0 rc] 39) = W2 at *
    clear q0 q1 q2 q3 q4 q5
    refine (pictureFine_any W H _ ps _ (HV.out.below (bel_trans HU.out B2) (Nat.le_refl _))).mono ?_
    rintro e w3 ⟨rfl, hb3⟩
    rw [hp]
    have hl7 := (Array.getElem?_eq_some_iff.1 t7).1
    have B3 := bel_trans B2 hb3
    have t7a := (hb3.block w1.heap.size hl7).trans t7
    have HR3 := hide (HR2.out.below hb3 (Nat.le_refl _))
    have B5 := B3
    have t7c := t7a
    have HR5 := HR3
    generalize w3 = w5 at *
    have hb6 := bel_alloc w5 (Obj.cells #[.int .i64 0, .int .i64 0, .slice none 0 0] 39)
    have B6 := bel_trans B5 hb6
    have t14 := al1 w5 (Obj.cells #[.int .i64 0, .int .i64 0, .slice none 0 0] 39)
    have hl7c := (Array.getElem?_eq_some_iff.1 t7c).1
    have t7d := (hb6.block w1.heap.size hl7c).trans t7c
    have HR6 := hide (HR5.out.alloc (Obj.cells #[.int .i64 0, .int .i64 0, .slice none 0 0] 39))
    have hs5 := B5.size
    have y4 := bel_trans HU.out B6
    have HRB := hide (IsPix.nil (w5.alloc (Obj.cells #[.int .i64 0, .int .i64 0, .slice none 0 0] 39)))
    have HRA := HR6
    have y1 := t14
    have g7' := t7d
    go_wp2_with fail
    generalize w5.alloc (Obj.cells #[.int .i64 0, .int .i64 0, .slice none 0 0] 39) = W9 at *
    refine (toneBegun_any _).mono ?_
    rintro e w10 ⟨rfl, hb10⟩
    obtain ⟨m0, m1, m2⟩ := cells3 ((hb10.block w5.heap.size (Array.getElem?_eq_some_iff.1 y1).1).trans y1)
    obtain ⟨k0, k1, k2⟩ := cells3 ((hb10.block w1.heap.size (Array.getElem?_eq_some_iff.1 g7').1).trans g7')
    have HF := hide (bel_trans y4 hb10)
    go_wp2_with fail
    refine (samePictures_any 0 0 _ (([] : List Px)) 0 0 _ (([] : List Px)) _ (HRA.out.below hb10 (Nat.le_refl _)) (HRB.out.below hb10 (Nat.le_refl _))).mono ?_
    rintro e w11 ⟨rfl, hb11⟩
    rw [show sameB 0 0 (([] : List Px)) 0 0 (([] : List Px)) = true by simp [sameB]]
    go_wp2
    go_ret
    exact ⟨rfl, bel_trans HF.out hb11⟩

end Go.Proofs.Ytolcndchfnifhab
