/- ToneSharpens: the walk. -/
import Derived.Test.YtolcndchfnifhabRefSharp
import Derived.Test.YtolcndchfnifhabToneBendsWalk
namespace Go.Proofs.Ytolcndchfnifhab
open Go.RowKit

set_option maxRecDepth 100000 in
set_option maxHeartbeats 3200000 in
theorem toneSharpens_walk (W H : Int) (v : Value) (ps : List Px) (amount : Int) (w : World) (hv : IsPix w v ps) :
    Calls Try.prog 9 #[.agg #[.int .i64 W, .int .i64 H, v], .int .i64 amount] w fun e w' => e = .returned (.bool true) ∧ Below w.heap.size w w' := by
  have HV := hide hv
  obtain ⟨ao, ca, rfl, _, _⟩ := hv
  have HU := hide (bel_alloc w (Obj.cells #[.int .i64 W, .int .i64 H, .slice ao ps.length ca] 39))
  have u1 := al1 w (Obj.cells #[.int .i64 W, .int .i64 H, .slice ao ps.length ca] 39)
  have HB := hide (sharpen_any W H _ ps amount _ (HV.out.alloc (Obj.cells #[.int .i64 W, .int .i64 H, .slice ao ps.length ca] 39)))
  have hLL : (sharpL W H ps amount).length = ps.length := by simp [sharpL]
  by_cases hp : picOk W H ps = true
  · by_cases ha : 0 ≤ amount ∧ amount ≤ 1024
    · have hE : sharpE W H ps amount = 0 := by rw [sharpE, if_pos hp, if_pos (by simpa [amountOk] using ha)]
      obtain ⟨hg1, hg2, hg3, hg4⟩ := picOk_parts hp
      have hsm := side_mul hg1 hg2
      obtain ⟨WN, rfl⟩ := Int.eq_ofNat_of_zero_le (show 0 ≤ W by omega)
      obtain ⟨HN, rfl⟩ := Int.eq_ofNat_of_zero_le (show 0 ≤ H by omega)
      have hlen : ps.length = HN * WN := by rw [Nat.mul_comm]; exact_mod_cast hg3
      have hpos : 1 ≤ ps.length := by omega
      have HRF := hide (fun (V : World) (hV : IsPix V (.slice ao ps.length ca) ps) => sharp_any WN HN (by omega) (by omega) (by omega) (by omega) _ ps amount ha.1 ha.2 hlen hg4 V hV)
      obtain ⟨ha1, ha2⟩ := ha
      have hd1 : decide (amount < 0) = false := by simp; omega
      have hd2 : decide (1024 < amount) = false := by simp; omega
      clear hg1 hg2 hg3 hg4 hsm hlen
      rw [hE] at HB
      rw [show okW 0 (WN : Int) = WN from rfl, show okW 0 (HN : Int) = HN from rfl, show okL 0 (sharpL WN HN ps amount) = (sharpL WN HN ps amount) from rfl] at HB
      clear hE
      go_enter Try.func9, Try.ntmps9
      go_wp2_with fail
      generalize w.alloc (Obj.cells #[.int .i64 (WN : Nat), .int .i64 (HN : Nat), .slice ao ps.length ca] 39) = U at *
      refine HB.out.mono ?_
      rintro e w1 ⟨r, rfl, hr, hb1, _⟩
      have HR1 := hide hr
      obtain ⟨ro, rc, rfl, _, _⟩ := hr
      rw [hLL] at HR1 ⊢
      have hlU := (Array.getElem?_eq_some_iff.1 u1).1
      have hs1 := hb1.size
      have B2 := bel_trans hb1 (bel_alloc w1 (Obj.cells #[.int .i64 (WN : Nat), .int .i64 (HN : Nat), .slice ro ps.length rc] 39))
      have t7 := al1 w1 (Obj.cells #[.int .i64 (WN : Nat), .int .i64 (HN : Nat), .slice ro ps.length rc] 39)
      have HR2 := hide (HR1.out.alloc (Obj.cells #[.int .i64 (WN : Nat), .int .i64 (HN : Nat), .slice ro ps.length rc] 39))
      obtain ⟨q0, q1, q2⟩ := cells3 ((hb1.block w.heap.size hlU).trans u1)
      obtain ⟨q3, q4, q5⟩ := cells3 ((B2.block w.heap.size hlU).trans u1)
      go_wp2_with fail
      generalize w1.alloc (Obj.cells #[.int .i64 (WN : Nat), .int .i64 (HN : Nat), .slice ro ps.length rc] 39) = W2 at *
      clear q0 q1 q2 q3 q4 q5
      refine (pictureFine_any WN HN _ ps _ (HV.out.below (bel_trans HU.out B2) (Nat.le_refl _))).mono ?_
      rintro e w5 ⟨rfl, hb3⟩
      rw [hp]
      have hl7 := (Array.getElem?_eq_some_iff.1 t7).1
      have B5 := bel_trans B2 hb3
      have t7c := (hb3.block w1.heap.size hl7).trans t7
      have HR5 := hide (HR2.out.below hb3 (Nat.le_refl _))
      have hb6 := bel_alloc w5 (Obj.cells #[.int .i64 0, .int .i64 0, .slice none 0 0] 39)
      have B6 := bel_trans B5 hb6
      have t14 := al1 w5 (Obj.cells #[.int .i64 0, .int .i64 0, .slice none 0 0] 39)
      have hl7c := (Array.getElem?_eq_some_iff.1 t7c).1
      have t7d := (hb6.block w1.heap.size hl7c).trans t7c
      have HR6 := hide (HR5.out.alloc (Obj.cells #[.int .i64 0, .int .i64 0, .slice none 0 0] 39))
      have hs5 := B5.size
      obtain ⟨q0, q1, q2⟩ := cells3 ((B5.block w.heap.size hlU).trans u1)
      obtain ⟨q3, q4, q5⟩ := cells3 ((B6.block w.heap.size hlU).trans u1)
      go_wp2_with fail
      generalize w5.alloc (Obj.cells #[.int .i64 0, .int .i64 0, .slice none 0 0] 39) = W6 at *
      clear q0 q1 q2 q3 q4 q5
      have hl14 := (Array.getElem?_eq_some_iff.1 t14).1
      have hl7d := (Array.getElem?_eq_some_iff.1 t7d).1
      refine (HRF.out _ (HV.out.below (bel_trans HU.out B6) (Nat.le_refl _))).mono ?_
      rintro e w8 ⟨r2, rfl, hr2, hb8, hfr⟩
      have B8 := bel_trans B6 hb8
      have g14 := (hb8.block w5.heap.size hl14).trans t14
      obtain ⟨z0, z1, z2⟩ := cells3 g14
      have f0 := Lib.frozen_of_heap g14 0
      have f1 := Lib.frozen_of_heap g14 1
      have f2 := Lib.frozen_of_heap g14 2
      have HX := hide hr2
      obtain ⟨so, sc, rfl, _, _⟩ := hr2
      rw [hLL] at HX hfr ⊢
      have hUs := HU.out.size
      have hwU : w.heap.size ≤ w5.heap.size := by omega
      obtain ⟨y1, y2, y3, y4⟩ := box3_set g14 (.int .i64 (WN : Nat)) (.int .i64 (HN : Nat)) (.slice so ps.length sc) w hwU ((bel_trans HU.out B8))
      have HRB := hide (HX.out.set3 hfr hl14 (.int .i64 (WN : Nat)) (.int .i64 (HN : Nat)) (.slice so ps.length sc))
      have g7 := (hb8.block w1.heap.size hl7d).trans t7d
      have hne7 : w1.heap.size ≠ w5.heap.size := by omega
      have g7' := (y2 w1.heap.size hne7).trans g7
      have hbo : (Value.slice ro ps.length rc).ownBlock ≠ some w5.heap.size := fun e => by
        rcases HR1.out.blockLt e with h | h
        · have := congrArg List.length h; rw [hLL, List.length_nil] at this; omega
        · omega
      have HRA := hide ((HR6.out.below hb8 (Nat.le_refl _)).other (set3_size w8 w5.heap.size (.int .i64 (WN : Nat)) (.int .i64 (HN : Nat)) (.slice so ps.length sc)) (fun b hb => set3_heap _ _ _ _ _ b hb) hbo)
      go_wp2_with fail
      generalize ((w8.setCell ⟨w5.heap.size, 0, none⟩ (.int .i64 (WN : Nat))).setCell ⟨w5.heap.size, 1, none⟩ (.int .i64 (HN : Nat))).setCell ⟨w5.heap.size, 2, none⟩ (.slice so ps.length sc) = W9 at *
      refine (toneBegun_any _).mono ?_
      rintro e w10 ⟨rfl, hb10⟩
      obtain ⟨m0, m1, m2⟩ := cells3 ((hb10.block w5.heap.size (Array.getElem?_eq_some_iff.1 y1).1).trans y1)
      obtain ⟨k0, k1, k2⟩ := cells3 ((hb10.block w1.heap.size (Array.getElem?_eq_some_iff.1 g7').1).trans g7')
      have HF := hide (bel_trans y4 hb10)
      go_wp2_with fail
      refine (samePictures_any WN HN _ (sharpL WN HN ps amount) WN HN _ (sharpL WN HN ps amount) _ (HRA.out.below hb10 (Nat.le_refl _)) (HRB.out.below hb10 (Nat.le_refl _))).mono ?_
      rintro e w11 ⟨rfl, hb11⟩
      rw [show sameB WN HN (sharpL WN HN ps amount) WN HN (sharpL WN HN ps amount) = true by simp [sameB]]
      go_wp2
      go_ret
      exact ⟨rfl, bel_trans HF.out hb11⟩
    · have hd3 : amountOk amount = false := by simpa [amountOk] using ha
      have hE : sharpE W H ps amount = 3 := by rw [sharpE, if_pos hp, if_neg (by rw [hd3]; decide)]
      have hcas : amount < 0 ∨ (0 ≤ amount ∧ 1024 < amount) := by omega
      rcases hcas with hc | ⟨hc1, hc⟩
      all_goals
        rw [hE] at HB
        rw [show okW 3 W = 0 from rfl, show okW 3 H = 0 from rfl, show okL 3 (sharpL W H ps amount) = ([] : List Px) from rfl] at HB
        clear hE
        go_enter Try.func9, Try.ntmps9
        go_wp2_with fail
        generalize w.alloc (Obj.cells #[.int .i64 W, .int .i64 H, .slice ao ps.length ca] 39) = U at *
        refine HB.out.mono ?_
        rintro e w1 ⟨r, rfl, hr, hb1, _⟩
        have HR1 := hide hr
        obtain ⟨ro, rc, rfl, _, _⟩ := hr
        rw [List.length_nil] at HR1 ⊢
        have hlU := (Array.getElem?_eq_some_iff.1 u1).1
        have hs1 := hb1.size
        have B2 := bel_trans hb1 (bel_alloc w1 (Obj.cells #[.int .i64 0, .int .i64 0, .slice ro 0 rc] 39))
        have t7 := al1 w1 (Obj.cells #[.int .i64 0, .int .i64 0, .slice ro 0 rc] 39)
        have HR2 := hide (HR1.out.alloc (Obj.cells #[.int .i64 0, .int .i64 0, .slice ro 0 rc] 39))
        obtain ⟨q0, q1, q2⟩ := cells3 ((hb1.block w.heap.size hlU).trans u1)
        obtain ⟨q3, q4, q5⟩ := cells3 ((B2.block w.heap.size hlU).trans u1)
        go_wp2_with fail
        generalize w1.alloc (Obj.cells #[.int .i64 0, .int .i64 0, .slice ro 0 rc] 39) = W2 at *
        clear q0 q1 q2 q3 q4 q5
        refine (pictureFine_any W H _ ps _ (HV.out.below (bel_trans HU.out B2) (Nat.le_refl _))).mono ?_
        rintro e w5 ⟨rfl, hb3⟩
        rw [hp]
        have hl7 := (Array.getElem?_eq_some_iff.1 t7).1
        have B5 := bel_trans B2 hb3
        have t7c := (hb3.block w1.heap.size hl7).trans t7
        have HR5 := hide (HR2.out.below hb3 (Nat.le_refl _))
        have hb6 := bel_alloc w5 (Obj.cells #[.int .i64 0, .int .i64 0, .slice none 0 0] 39)
        have B6 := bel_trans B5 hb6
        have t14 := al1 w5 (Obj.cells #[.int .i64 0, .int .i64 0, .slice none 0 0] 39)
        have hl7c := (Array.getElem?_eq_some_iff.1 t7c).1
        have t7d := (hb6.block w1.heap.size hl7c).trans t7c
        have HR6 := hide (HR5.out.alloc (Obj.cells #[.int .i64 0, .int .i64 0, .slice none 0 0] 39))
        have hs5 := B5.size
        have y4 := bel_trans HU.out B6
        have HRB := hide (IsPix.nil (w5.alloc (Obj.cells #[.int .i64 0, .int .i64 0, .slice none 0 0] 39)))
        have HRA := HR6
        have y1 := t14
        have g7' := t7d
        go_wp2_with fail
        generalize w5.alloc (Obj.cells #[.int .i64 0, .int .i64 0, .slice none 0 0] 39) = W9 at *
        refine (toneBegun_any _).mono ?_
        rintro e w10 ⟨rfl, hb10⟩
        obtain ⟨m0, m1, m2⟩ := cells3 ((hb10.block w5.heap.size (Array.getElem?_eq_some_iff.1 y1).1).trans y1)
        obtain ⟨k0, k1, k2⟩ := cells3 ((hb10.block w1.heap.size (Array.getElem?_eq_some_iff.1 g7').1).trans g7')
        have HF := hide (bel_trans y4 hb10)
        go_wp2_with fail
        refine (samePictures_any 0 0 _ ([] : List Px) 0 0 _ ([] : List Px) _ (HRA.out.below hb10 (Nat.le_refl _)) (HRB.out.below hb10 (Nat.le_refl _))).mono ?_
        rintro e w11 ⟨rfl, hb11⟩
        rw [show sameB 0 0 ([] : List Px) 0 0 ([] : List Px) = true by simp [sameB]]
        go_wp2
        go_ret
        exact ⟨rfl, bel_trans HF.out hb11⟩
  · have hp : picOk W H ps = false := by simpa using hp
    have hE : sharpE W H ps amount = 1 := by rw [sharpE, if_neg (by rw [hp]; decide)]
    rw [hE] at HB
    rw [show okW 1 W = 0 from rfl, show okW 1 H = 0 from rfl, show okL 1 (sharpL W H ps amount) = ([] : List Px) from rfl] at HB
    clear hE
    go_enter Try.func9, Try.ntmps9
    go_wp2_with fail
    generalize w.alloc (Obj.cells #[.int .i64 W, .int .i64 H, .slice ao ps.length ca] 39) = U at *
    refine HB.out.mono ?_
    rintro e w1 ⟨r, rfl, hr, hb1, _⟩
    have HR1 := hide hr
    obtain ⟨ro, rc, rfl, _, _⟩ := hr
    rw [List.length_nil] at HR1 ⊢
    have hlU := (Array.getElem?_eq_some_iff.1 u1).1
    have hs1 := hb1.size
    have B2 := bel_trans hb1 (bel_alloc w1 (Obj.cells #[.int .i64 0, .int .i64 0, .slice ro 0 rc] 39))
    have t7 := al1 w1 (Obj.cells #[.int .i64 0, .int .i64 0, .slice ro 0 rc] 39)
    have HR2 := hide (HR1.out.alloc (Obj.cells #[.int .i64 0, .int .i64 0, .slice ro 0 rc] 39))
    obtain ⟨q0, q1, q2⟩ := cells3 ((hb1.block w.heap.size hlU).trans u1)
    obtain ⟨q3, q4, q5⟩ := cells3 ((B2.block w.heap.size hlU).trans u1)
    go_wp2_with fail
    generalize w1.alloc (Obj.cells #[.int .i64 0, .int .i64 0, .slice ro 0 rc] 39) = W2 at *
    clear q0 q1 q2 q3 q4 q5
    refine (pictureFine_any W H _ ps _ (HV.out.below (bel_trans HU.out B2) (Nat.le_refl _))).mono ?_
    rintro e w5 ⟨rfl, hb3⟩
    rw [hp]
    have hl7 := (Array.getElem?_eq_some_iff.1 t7).1
    have B5 := bel_trans B2 hb3
    have t7c := (hb3.block w1.heap.size hl7).trans t7
    have HR5 := hide (HR2.out.below hb3 (Nat.le_refl _))
    have hb6 := bel_alloc w5 (Obj.cells #[.int .i64 0, .int .i64 0, .slice none 0 0] 39)
    have B6 := bel_trans B5 hb6
    have t14 := al1 w5 (Obj.cells #[.int .i64 0, .int .i64 0, .slice none 0 0] 39)
    have hl7c := (Array.getElem?_eq_some_iff.1 t7c).1
    have t7d := (hb6.block w1.heap.size hl7c).trans t7c
    have HR6 := hide (HR5.out.alloc (Obj.cells #[.int .i64 0, .int .i64 0, .slice none 0 0] 39))
    have hs5 := B5.size
    have y4 := bel_trans HU.out B6
    have HRB := hide (IsPix.nil (w5.alloc (Obj.cells #[.int .i64 0, .int .i64 0, .slice none 0 0] 39)))
    have HRA := HR6
    have y1 := t14
    have g7' := t7d
    go_wp2_with fail
    generalize w5.alloc (Obj.cells #[.int .i64 0, .int .i64 0, .slice none 0 0] 39) = W9 at *
    refine (toneBegun_any _).mono ?_
    rintro e w10 ⟨rfl, hb10⟩
    obtain ⟨m0, m1, m2⟩ := cells3 ((hb10.block w5.heap.size (Array.getElem?_eq_some_iff.1 y1).1).trans y1)
    obtain ⟨k0, k1, k2⟩ := cells3 ((hb10.block w1.heap.size (Array.getElem?_eq_some_iff.1 g7').1).trans g7')
    have HF := hide (bel_trans y4 hb10)
    go_wp2_with fail
    refine (samePictures_any 0 0 _ ([] : List Px) 0 0 _ ([] : List Px) _ (HRA.out.below hb10 (Nat.le_refl _)) (HRB.out.below hb10 (Nat.le_refl _))).mono ?_
    rintro e w11 ⟨rfl, hb11⟩
    rw [show sameB 0 0 ([] : List Px) 0 0 ([] : List Px) = true by simp [sameB]]
    go_wp2
    go_ret
    exact ⟨rfl, bel_trans HF.out hb11⟩

end Go.Proofs.Ytolcndchfnifhab
