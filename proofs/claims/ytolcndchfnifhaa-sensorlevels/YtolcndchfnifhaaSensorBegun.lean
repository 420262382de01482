/- The law's sensorBegun. -/
import Derived.Test.YtolcndchfnifhaaRepair
import Derived.Test.YtolcndchfnifhaaSensorGain
import Derived.Test.YtolcndchfnifhaaSmallPlane
namespace Go.Proofs.Ytolcndchfnifhaa
open Go.RowKit

def mFive (k : Nat) : Int := if k % 2 = 0 then 0 else 5
def mGain (k : Nat) : Int := if k = 0 then 512 else if k = 1 then 256 else 128
theorem ints3 (w : World) (a b c : Int) : IsInts (w.alloc (.cells #[.int .i64 a, .int .i64 b, .int .i64 c] 3)) (.slice (some ⟨w.heap.size, 0, none⟩) 3 3) [a, b, c] :=
  IsInts.own (base := w.heap.size) (World.ownsRow_lit w #[.int .i64 a, .int .i64 b, .int .i64 c] 3 (Nat.le_refl _) (by decide) (by simp)) (by simp)
theorem pts1 (w : World) (a b : Int) : IsPts (w.alloc (.cells #[.int .i64 a, .int .i64 b] 117)) (.slice (some ⟨w.heap.size, 0, none⟩) 1 1) [(a, b)] := by
  refine ⟨_, _, rfl, by simp, .inr ⟨w.heap.size, 0, rfl, by simp, fun j hj => ?_⟩⟩
  obtain rfl : j = 0 := by simp at hj; omega
  exact bx2 (al1 w _)

theorem begLevel (W : World) (v : Value) (hv : IsInts W v [10, 65535, 0, 7]) : Calls Try.prog 52 #[.agg #[.int .i64 2, .int .i64 2, v], .agg #[.int .i64 0, .int .i64 5, .int .i64 0, .int .i64 5], .int .i64 10] W fun e w' =>
    ∃ ro rc, e = .returned (.tuple #[.agg #[.int .i64 2, .int .i64 2, .slice ro 4 rc], .int .i64 0]) ∧ Hid (IsInts w' (.slice ro 4 rc) [65535, 65535, 0, 26214]) ∧ Below W.heap.size W w' := by
  refine (level_any 2 2 v [10, 65535, 0, 7] mFive 10 W hv).mono ?_
  rintro e w' ⟨r, rfl, hr, hb, _⟩
  rw [show levE 2 2 [10, 65535, 0, 7] mFive 10 = 0 by decide +kernel] at hr ⊢
  rw [show okL 0 (levL 2 [10, 65535, 0, 7] mFive 10) = [65535, 65535, 0, 26214] by decide +kernel] at hr
  obtain ⟨ro, rc, rfl, h1, h2⟩ := hr
  exact ⟨ro, rc, rfl, ⟨ro, rc, rfl, h1, h2⟩, hb⟩
theorem begRepair (W : World) (v lv : Value) (hv : IsInts W v [4, 9, 7]) (hl : IsPts W lv [(0, 0)]) : Calls Try.prog 56 #[.agg #[.int .i64 3, .int .i64 1, v], lv] W fun e w' =>
    ∃ ro rc, e = .returned (.tuple #[.agg #[.int .i64 3, .int .i64 1, .slice ro 3 rc], .int .i64 0]) ∧ Hid (IsInts w' (.slice ro 3 rc) [7, 9, 7]) ∧ Below W.heap.size W w' := by
  refine (repair_any 3 1 v [4, 9, 7] lv [(0, 0)] (fun j hj => by
    have hj0 : j = 0 := by simp only [List.length_cons, List.length_nil] at hj; omega
    subst hj0
    exact ⟨by decide, by decide⟩) W hv hl).mono ?_
  rintro e w' ⟨r, rfl, hr, hb, _⟩
  rw [show repE 3 1 [4, 9, 7] [(0, 0)] = 0 by decide +kernel] at hr ⊢
  rw [show okL 0 (repL 3 1 [4, 9, 7] [(0, 0)]) = [7, 9, 7] by decide +kernel] at hr
  obtain ⟨ro, rc, rfl, h1, h2⟩ := hr
  exact ⟨ro, rc, rfl, ⟨ro, rc, rfl, h1, h2⟩, hb⟩
theorem begGain (W : World) (v : Value) (hv : IsInts W v [10, 65535, 0, 7]) : Calls Try.prog 101 #[.agg #[.int .i64 2, .int .i64 2, v], .int .i64 0, .agg #[.int .i64 512, .int .i64 256, .int .i64 128]] W fun e w' =>
    ∃ ro rc, e = .returned (.tuple #[.agg #[.int .i64 2, .int .i64 2, .slice ro 4 rc], .int .i64 0]) ∧ Hid (IsInts w' (.slice ro 4 rc) [20, 65535, 0, 3]) ∧ Below W.heap.size W w' := by
  refine (gain_any 2 2 v [10, 65535, 0, 7] 0 mGain W hv).mono ?_
  rintro e w' ⟨r, rfl, hr, hb, _⟩
  rw [show gaiE 2 2 [10, 65535, 0, 7] 0 mGain = 0 by decide +kernel] at hr ⊢
  rw [show okL 0 (gaiL 2 [10, 65535, 0, 7] 0 mGain) = [20, 65535, 0, 3] by decide +kernel] at hr
  obtain ⟨ro, rc, rfl, h1, h2⟩ := hr
  exact ⟨ro, rc, rfl, ⟨ro, rc, rfl, h1, h2⟩, hb⟩
theorem begColour (w : World) : Calls Try.prog 100 #[.int .i64 3, .int .i64 0, .int .i64 0] w fun e w' => e = .returned (.tuple #[.int .i64 2, .int .i64 0]) ∧ Below w.heap.size w w' := colour_ok 3 0 0 (by omega) w
theorem smallH (w : World) : Calls Try.prog 80 #[] w fun e w' => ∃ ro rc, e = .returned (.agg #[.int .i64 2, .int .i64 2, .slice ro 4 rc]) ∧ Hid (IsInts w' (.slice ro 4 rc) [10, 65535, 0, 7]) ∧ Below w.heap.size w w' :=
  (small_any w).mono fun e w' ⟨r, h1, h2, h3⟩ => by
    obtain ⟨ro, rc, rfl, h4, h5⟩ := h2
    exact ⟨ro, rc, h1, ⟨ro, rc, rfl, h4, h5⟩, h3⟩

set_option maxRecDepth 100000 in
set_option maxHeartbeats 3200000 in
theorem sensorBegun_any (w : World) : Calls Try.prog 55 #[] w fun e w' => e = .returned (.bool true) ∧ Below w.heap.size w w' := by
  go_enter Try.func55, Try.ntmps55
  go_wp2_with fail
  refine (smallH _).mono ?_
  rintro e w1 ⟨so, sc, rfl, HS1, hb1⟩
  go_wp2_with fail
  refine (begLevel _ _ HS1.out).mono ?_
  rintro e w2 ⟨ao, ac, rfl, HA, hb2⟩
  have hB2 := bel_trans hb1 hb2
  clear HS1 hb1 hb2
  have tA := al1 w2 (Obj.cells #[.int .i64 2, .int .i64 2, .slice ao 4 ac] 57)
  have HA3 := hide (HA.out.alloc (Obj.cells #[.int .i64 2, .int .i64 2, .slice ao 4 ac] 57))
  have hB3 := bel_trans hB2 (bel_alloc w2 (Obj.cells #[.int .i64 2, .int .i64 2, .slice ao 4 ac] 57))
  go_wp2_with fail
  have hlA := (Array.getElem?_eq_some_iff.1 tA).1
  have hsU : (w2.alloc (Obj.cells #[.int .i64 2, .int .i64 2, .slice ao 4 ac] 57)).heap.size = w2.heap.size + 1 := by simp
  generalize w2.alloc (Obj.cells #[.int .i64 2, .int .i64 2, .slice ao 4 ac] 57) = U at *
  have hI := ints3 U 4 9 7
  have hP := pts1 (U.alloc (Obj.cells #[.int .i64 4, .int .i64 9, .int .i64 7] 3)) 0 0
  rw [World.size_alloc] at hP
  rw [hsU] at hI hP
  replace hsU := Nat.le_of_eq hsU.symm
  refine (begRepair _ _ _ (hI.alloc _) hP).mono ?_
  rintro e w3 ⟨bo, bc, rfl, HB, hb3⟩
  have hU3 := bel_trans (be2 U (Obj.cells #[.int .i64 4, .int .i64 9, .int .i64 7] 3) (Obj.cells #[.int .i64 0, .int .i64 0] 117)) hb3
  clear hI hP hb3
  have tB := al1 w3 (Obj.cells #[.int .i64 3, .int .i64 1, .slice bo 3 bc] 57)
  have HB4 := hide (HB.out.alloc (Obj.cells #[.int .i64 3, .int .i64 1, .slice bo 3 bc] 57))
  have hU4 := bel_trans hU3 (bel_alloc w3 (Obj.cells #[.int .i64 3, .int .i64 1, .slice bo 3 bc] 57))
  have tA4 := (hU4.block w2.heap.size hlA).trans tA
  have HA4 := hide (HA3.out.below hU4 (Nat.le_refl _))
  have hB4 := bel_trans hB3 hU4
  clear hU3 hU4 tA HA3 HA HB hB3
  go_wp2_with fail
  have hlA4 := (Array.getElem?_eq_some_iff.1 tA4).1
  have hlB := (Array.getElem?_eq_some_iff.1 tB).1
  generalize w3.alloc (Obj.cells #[.int .i64 3, .int .i64 1, .slice bo 3 bc] 57) = U4 at *
  refine (begColour _).mono ?_
  rintro e w5 ⟨rfl, hb5⟩
  go_wp2_with fail
  refine (smallH _).mono ?_
  rintro e w6 ⟨so2, sc2, rfl, HS6, hb6⟩
  go_wp2_with fail
  refine (begGain _ _ HS6.out).mono ?_
  rintro e w7 ⟨co, cc, rfl, HC, hb7⟩
  have h47 := bel_trans (bel_trans hb5 hb6) hb7
  clear hb5 hb6 hb7 HS6
  have tC := al1 w7 (Obj.cells #[.int .i64 2, .int .i64 2, .slice co 4 cc] 57)
  have HC8 := hide (HC.out.alloc (Obj.cells #[.int .i64 2, .int .i64 2, .slice co 4 cc] 57))
  have h48 := bel_trans h47 (bel_alloc w7 (Obj.cells #[.int .i64 2, .int .i64 2, .slice co 4 cc] 57))
  have tA8 := (h48.block w2.heap.size hlA4).trans tA4
  have tB8 := (h48.block w3.heap.size hlB).trans tB
  have HA8 := hide (HA4.out.below h48 (Nat.le_refl _))
  have HB8 := hide (HB4.out.below h48 (Nat.le_refl _))
  have hB8 := bel_trans hB4 h48
  obtain ⟨_, _, x2⟩ := cells3 tA8
  clear h47 h48 tA4 tB HA4 HB4 HC hB4
  go_wp2_with fail
  have hlA8 := (Array.getElem?_eq_some_iff.1 tA8).1
  have hlB8 := (Array.getElem?_eq_some_iff.1 tB8).1
  have hlC8 := (Array.getElem?_eq_some_iff.1 tC).1
  have hsV : (w7.alloc (Obj.cells #[.int .i64 2, .int .i64 2, .slice co 4 cc] 57)).heap.size = w7.heap.size + 1 := by simp
  generalize w7.alloc (Obj.cells #[.int .i64 2, .int .i64 2, .slice co 4 cc] 57) = U8 at *
  have hI := ints4 U8 65535 65535 0 26214
  rw [hsV] at hI
  replace hsV := Nat.le_of_eq hsV.symm
  refine (sameInts_any _ _ _ _ _ (HA8.out.alloc _) hI).mono ?_
  rintro e w9 ⟨rfl, hb9⟩
  have h89 := bel_trans (bel_alloc U8 _) hb9
  rw [show decide (([65535, 65535, 0, 26214] : List Int) = [65535, 65535, 0, 26214]) = true by decide]
  obtain ⟨_, _, y2⟩ := cells3 ((h89.block w3.heap.size hlB8).trans tB8)
  clear hI hb9 x2
  go_wp2_with fail
  have hI := ints3 w9 7 9 7
  refine (sameInts_any _ _ _ _ _ ((HB8.out.below h89 (Nat.le_refl _)).alloc _) hI).mono ?_
  rintro e w10 ⟨rfl, hb10⟩
  have h810 := bel_trans h89 (bel_trans (bel_alloc w9 _) hb10)
  rw [show decide (([7, 9, 7] : List Int) = [7, 9, 7]) = true by decide]
  obtain ⟨_, _, z2⟩ := cells3 ((h810.block w7.heap.size hlC8).trans tC)
  clear hI hb10 y2
  go_wp2_with fail
  have hI := ints4 w10 20 65535 0 3
  refine (sameInts_any _ _ _ _ _ ((HC8.out.below h810 (Nat.le_refl _)).alloc _) hI).mono ?_
  rintro e w11 ⟨rfl, hb11⟩
  have h811 := bel_trans h810 (bel_trans (bel_alloc w10 _) hb11)
  rw [show decide (([20, 65535, 0, 3] : List Int) = [20, 65535, 0, 3]) = true by decide]
  have HF := hide (bel_trans hB8 h811)
  clear hI hb11 z2
  go_wp2
  go_ret
  exact ⟨rfl, HF.out⟩

end Go.Proofs.Ytolcndchfnifhaa
