/- The law's toneBegun. -/
import Derived.Test.YtolcndchfnifhabSharpenAll
import Derived.Test.YtolcndchfnifhabBend
namespace Go.Proofs.Ytolcndchfnifhab
open Go.RowKit

theorem pix_lit (w : World) (ps : List Px) (cs : Array Value) (n : Nat) (hn : ps.length = n) (hc : cs.toList = ps.flatMap pixL) (hb : n ≤ 4096) : IsPix (w.alloc (.cells cs 50)) (.slice (some ⟨w.heap.size, 0, none⟩) n n) ps := by
  subst hn
  have hs : cs.size = ps.length * 3 := by rw [← Array.length_toList, hc, flat_length]
  refine IsPix.own (base := w.heap.size) ⟨flat_length ps, .inr ⟨w.heap.size, ps.length, cs, rfl, Nat.le_refl _, al1 w _, Nat.le_refl _, by unfold maxLen; omega, hs, ?_⟩⟩ (by omega)
  rw [List.take_of_length_le (by rw [Array.length_toList]; omega), hc]
theorem pts_lit (w : World) (ls : List Pt) (cs : Array Value) (t : TypeId) (n : Nat) (hn : ls.length = n) (hc : ∀ j, j < n → cs[j * 2]? = some (.int .i64 (ptAt ls j).1) ∧ cs[j * 2 + 1]? = some (.int .i64 (ptAt ls j).2)) (hb : n ≤ 4096) : IsPts (w.alloc (.cells cs t)) (.slice (some ⟨w.heap.size, 0, none⟩) n n) ls := by
  subst hn
  refine ⟨_, _, rfl, by omega, .inr ⟨w.heap.size, 0, rfl, by simp, fun j hj => ?_⟩⟩
  obtain ⟨h1, h2⟩ := hc j hj
  rw [Nat.zero_add]
  exact ⟨by rw [Lib.cell_of_heap (al1 w _)]; exact h1, by rw [Lib.cell_of_heap (al1 w _)]; exact h2⟩

theorem line2_any (w : World) : Calls Try.prog 79 #[] w fun e w' => ∃ v, e = .returned v ∧ IsPts w' v [(0, 0), (65535, 65535)] ∧ Below w.heap.size w w' := by
  go_enter Try.func79, Try.ntmps79
  go_wp2
  go_ret
  refine ⟨_, rfl, pts_lit w [(0, 0), (65535, 65535)] _ _ 2 rfl (fun j hj => ?_) (by omega), bel_alloc _ _⟩
  rcases (show j = 0 ∨ j = 1 by omega) with rfl | rfl <;> exact ⟨rfl, rfl⟩

def begM (k : Nat) : Int := [4096, 0, 0, 0, 8192, 0, 0, 0, -1].getD k 0

theorem begMix (W : World) (v : Value) (hv : IsPix W v [(100, 200, 300)]) : Calls Try.prog 31 #[.agg #[.int .i64 1, .int .i64 1, v], .agg #[.int .i64 4096, .int .i64 0, .int .i64 0, .int .i64 0, .int .i64 8192, .int .i64 0, .int .i64 0, .int .i64 0, .int .i64 (-1)]] W fun e w' =>
    ∃ ro rc, e = .returned (.tuple #[.agg #[.int .i64 1, .int .i64 1, .slice ro 1 rc], .int .i64 0]) ∧ IsPix w' (.slice ro 1 rc) [(100, 400, 0)] ∧ Below W.heap.size W w' := by
  refine (mix_any 1 1 v [(100, 200, 300)] begM W hv).mono ?_
  rintro e w' ⟨r, rfl, hr, hb, _⟩
  rw [show mixE 1 1 [(100, 200, 300)] begM = 0 by decide] at hr ⊢
  rw [show okL 0 ([(100, 200, 300)].map (mixP begM)) = [(100, 400, 0)] by decide] at hr
  obtain ⟨ro, rc, rfl, h1, h2⟩ := hr
  exact ⟨ro, rc, rfl, ⟨ro, rc, rfl, h1, h2⟩, hb⟩
theorem begCurve (W : World) (v : Value) (hv : IsPts W v [(0, 0), (10, 5), (65535, 5)]) : Calls Try.prog 36 #[v, .int .i64 5] W fun e w' => e = .returned (.tuple #[.int .i64 2, .int .i64 0]) ∧ Below W.heap.size W w' := by
  have h := curve_any v _ 5 W hv
  rw [show curveV [(0, 0), (10, 5), (65535, 5)] 5 = 2 by decide, show curveE [(0, 0), (10, 5), (65535, 5)] 5 = 0 by decide] at h
  exact h
theorem begBend (W : World) (v vl : Value) (hv : IsPix W v [(100, 200, 300)]) (hl : IsPts W vl [(0, 0), (65535, 65535)]) : Calls Try.prog 35 #[.agg #[.int .i64 1, .int .i64 1, v], vl] W fun e w' =>
    ∃ ro rc, e = .returned (.tuple #[.agg #[.int .i64 1, .int .i64 1, .slice ro 1 rc], .int .i64 0]) ∧ IsPix w' (.slice ro 1 rc) [(100, 200, 300)] ∧ Below W.heap.size W w' ∧ Fresh W.heap.size (.slice ro 1 rc) := by
  refine (bend_any 1 1 v [(100, 200, 300)] vl _ W hv hl).mono ?_
  rintro e w' ⟨r, rfl, hr, hb, hf⟩
  rw [show bendE 1 1 [(100, 200, 300)] [(0, 0), (65535, 65535)] = 0 by decide] at hr ⊢
  rw [show okL 0 ([(100, 200, 300)].map (bendP [(0, 0), (65535, 65535)])) = [(100, 200, 300)] by decide] at hr
  obtain ⟨ro, rc, rfl, h1, h2⟩ := hr
  exact ⟨ro, rc, rfl, ⟨ro, rc, rfl, h1, h2⟩, hb, hf⟩
theorem begSharp (W : World) (v : Value) (hv : IsPix W v [(0, 0, 0), (160, 0, 0)]) : Calls Try.prog 40 #[.agg #[.int .i64 2, .int .i64 1, v], .int .i64 256] W fun e w' =>
    ∃ ro rc, e = .returned (.tuple #[.agg #[.int .i64 2, .int .i64 1, .slice ro 2 rc], .int .i64 0]) ∧ IsPix w' (.slice ro 2 rc) [(0, 0, 0), (200, 0, 0)] ∧ Below W.heap.size W w' := by
  refine (sharpen_any 2 1 v [(0, 0, 0), (160, 0, 0)] 256 W hv).mono ?_
  rintro e w' ⟨r, rfl, hr, hb, _⟩
  rw [show sharpE 2 1 [(0, 0, 0), (160, 0, 0)] 256 = 0 by decide] at hr ⊢
  rw [show okL 0 (sharpL 2 1 [(0, 0, 0), (160, 0, 0)] 256) = [(0, 0, 0), (200, 0, 0)] by decide] at hr
  obtain ⟨ro, rc, rfl, h1, h2⟩ := hr
  exact ⟨ro, rc, rfl, ⟨ro, rc, rfl, h1, h2⟩, hb⟩

set_option maxRecDepth 100000 in
set_option maxHeartbeats 1600000 in
theorem toneBegun_any (w : World) : Calls Try.prog 34 #[] w fun e w' => e = .returned (.bool true) ∧ Below w.heap.size w w' := by
  go_enter Try.func34, Try.ntmps34
  go_wp2_with fail
  have HQ0 := pix_lit w [(100, 200, 300)] #[.int .i64 100, .int .i64 200, .int .i64 300] 1 rfl rfl (by omega)
  have HQ := hide (HQ0.alloc (Obj.cells #[.int .i64 1, .int .i64 1, .slice (some ⟨w.heap.size, 0, none⟩) 1 1] 39))
  have hB := be2 w (Obj.cells #[.int .i64 100, .int .i64 200, .int .i64 300] 50) (Obj.cells #[.int .i64 1, .int .i64 1, .slice (some ⟨w.heap.size, 0, none⟩) 1 1] 39)
  obtain ⟨_, q1⟩ := al2 w (Obj.cells #[.int .i64 100, .int .i64 200, .int .i64 300] 50) (Obj.cells #[.int .i64 1, .int .i64 1, .slice (some ⟨w.heap.size, 0, none⟩) 1 1] 39)
  have hs1 : ((w.alloc (Obj.cells #[.int .i64 100, .int .i64 200, .int .i64 300] 50)).alloc (Obj.cells #[.int .i64 1, .int .i64 1, .slice (some ⟨w.heap.size, 0, none⟩) 1 1] 39)).heap.size = w.heap.size + 2 := by simp
  clear HQ0
  generalize (w.alloc (Obj.cells #[.int .i64 100, .int .i64 200, .int .i64 300] 50)).alloc (Obj.cells #[.int .i64 1, .int .i64 1, .slice (some ⟨w.heap.size, 0, none⟩) 1 1] 39) = W1 at *
  replace hs1 := Nat.le_of_eq hs1.symm
  refine (begMix W1 _ HQ.out).mono ?_
  rintro e w2 ⟨ro, rc, rfl, hr2, hb2⟩
  go_wp2_with fail
  have hD := be2 w2 (Obj.cells #[.int .i64 1, .int .i64 1, .slice ro 1 rc] 39) (Obj.cells #[.int .i64 0, .int .i64 0, .int .i64 10, .int .i64 5, .int .i64 65535, .int .i64 5] 66)
  have t2 := (al2 w2 (Obj.cells #[.int .i64 1, .int .i64 1, .slice ro 1 rc] 39) (Obj.cells #[.int .i64 0, .int .i64 0, .int .i64 10, .int .i64 5, .int .i64 65535, .int .i64 5] 66)).1
  have hpt : IsPts ((w2.alloc (Obj.cells #[.int .i64 1, .int .i64 1, .slice ro 1 rc] 39)).alloc (Obj.cells #[.int .i64 0, .int .i64 0, .int .i64 10, .int .i64 5, .int .i64 65535, .int .i64 5] 66)) (.slice (some ⟨w2.heap.size + 1, 0, none⟩) 3 3) [(0, 0), (10, 5), (65535, 5)] := by
    have h := pts_lit (w2.alloc (Obj.cells #[.int .i64 1, .int .i64 1, .slice ro 1 rc] 39)) [(0, 0), (10, 5), (65535, 5)] #[.int .i64 0, .int .i64 0, .int .i64 10, .int .i64 5, .int .i64 65535, .int .i64 5] 66 3 rfl (fun j hj => by
      rcases (show j = 0 ∨ j = 1 ∨ j = 2 by omega) with rfl | rfl | rfl <;> exact ⟨rfl, rfl⟩) (by omega)
    rw [World.size_alloc] at h; exact h
  refine (begCurve _ _ hpt).mono ?_
  rintro e U ⟨rfl, hb3⟩
  have hU2 := bel_trans hD hb3
  have hUW := bel_trans hb2 hU2
  have hs2 := hb2.size
  have hs3 := hU2.size
  have T2 := hide ((hb3.block w2.heap.size (by simp; omega)).trans t2)
  have HA2 := hide (hr2.below hU2 (Nat.le_refl _))
  have HQU := hide (HQ.out.below hUW (Nat.le_refl _))
  have Q1 := hide ((hUW.block (w.heap.size + 1) (by omega)).trans q1)
  have HBW := hide (hB.trans (hUW.mono hB.size))
  have hlU : w.heap.size + 1 < U.heap.size := by omega
  have hlU2 : w2.heap.size < U.heap.size := (Array.getElem?_eq_some_iff.1 T2.out).1
  clear hpt t2 hD hb3 hU2 hUW hr2 hb2 q1 hB HQ hs1 hs2 hs3
  go_wp2_with fail
  have HS := hide (show ∀ w', Below U.heap.size U w' → w'.cell? ⟨w.heap.size + 1, 0, none⟩ = some (.int .i64 1) ∧ w'.cell? ⟨w.heap.size + 1, 1, none⟩ = some (.int .i64 1) ∧ w'.cell? ⟨w.heap.size + 1, 2, none⟩ = some (.slice (some ⟨w.heap.size, 0, none⟩) 1 1) from fun w' h => cells3 ((h.block (w.heap.size + 1) hlU).trans Q1.out))
  have HL2 := hide (show ∀ w', Below U.heap.size U w' → Calls Try.prog 79 #[] w' fun e w'' => ∃ lo lc, e = .returned (.slice lo 2 lc) ∧ Hid (IsPts w'' (.slice lo 2 lc) [(0, 0), (65535, 65535)]) ∧ Below U.heap.size U w'' ∧ Below w'.heap.size w' w'' from fun w' h =>
    (line2_any w').mono fun e w'' ⟨v, he, hv, hb⟩ => by
      have hv' := hv
      obtain ⟨lo, lc, rfl, _, _⟩ := hv
      exact ⟨lo, lc, he, hv', h.trans (hb.mono h.size), hb⟩)
  have HBE := hide (show ∀ w' lo lc, Below U.heap.size U w' → IsPts w' (.slice lo 2 lc) [(0, 0), (65535, 65535)] → Calls Try.prog 35 #[.agg #[.int .i64 1, .int .i64 1, .slice (some ⟨w.heap.size, 0, none⟩) 1 1], .slice lo 2 lc] w' fun e w'' => ∃ bo bc, e = .returned (.tuple #[.agg #[.int .i64 1, .int .i64 1, .slice bo 1 bc], .int .i64 0]) ∧ Hid (IsPix w'' (.slice bo 1 bc) [(100, 200, 300)]) ∧ Below U.heap.size U w'' ∧ Below w'.heap.size w' w'' ∧ Fresh w'.heap.size (.slice bo 1 bc) from fun w' lo lc h hl =>
    (begBend w' _ _ (HQU.out.below h (Nat.le_refl _)) hl).mono fun e w'' ⟨bo, bc, he, hp, hb, hf⟩ => ⟨bo, bc, he, hp, h.trans (hb.mono h.size), hb, hf⟩)
  have HSA := hide (show ∀ w' o, Below U.heap.size U w' → Below U.heap.size U (w'.alloc o) from fun w' o h => h.alloc h.size o)
  have HS3 := hide (show ∀ w' b x y z, Below U.heap.size U w' → U.heap.size ≤ b → Below U.heap.size U (((w'.setCell ⟨b, 0, none⟩ x).setCell ⟨b, 1, none⟩ y).setCell ⟨b, 2, none⟩ z) from fun w' b x y z h hb => set3_below h hb x y z)
  have HZU := hide (show (U.alloc (Obj.cells #[.int .i64 0, .int .i64 0, .slice none 0 0] 39)).drew.heap[U.heap.size]? = some (.cells #[.int .i64 0, .int .i64 0, .slice none 0 0] 39 (0, 0)) from al1 U _)
  have HLT1 := hide (show True → U.heap.size < (U.alloc (Obj.cells #[.int .i64 0, .int .i64 0, .slice none 0 0] 39)).drew.heap.size from fun _ => by show _ < (U.alloc (Obj.cells #[.int .i64 0, .int .i64 0, .slice none 0 0] 39)).heap.size; simp)
  have HLC1 := hide (show ∀ (w' : World), w'.heap.size < (w'.alloc (Obj.cells #[.int .i64 0, .int .i64 0, .slice none 0 0] 39)).heap.size from fun w' => by simp)
  have hdrew : Below U.heap.size U U.drew := (Below.refl _ _).drew
  have hrefl : Below U.heap.size U U := Below.refl _ _
  go_region_held3 (fun w' => w'.cell? ⟨w.heap.size + 1, 0, none⟩ = some (.int .i64 1) ∧ w'.cell? ⟨w.heap.size + 1, 1, none⟩ = some (.int .i64 1) ∧ w'.cell? ⟨w.heap.size + 1, 2, none⟩ = some (.slice (some ⟨w.heap.size, 0, none⟩) 1 1))
    (first | (refine HS.out _ ?_; repeat (first | with_reducible assumption | (with_reducible refine HSA.out _ _ ?_) | (with_reducible refine HS3.out _ _ _ _ _ ?_ (by omega)) | (with_reducible refine below_drew'' ?_))))
    (first
      | (go_at_call 79; refine (HL2.out _ ?_).mono ?_; (repeat (first | with_reducible assumption | (with_reducible refine HSA.out _ _ ?_) | (with_reducible refine below_drew'' ?_))); rintro e wl ⟨lo, lc, rfl, HVL, hN, hNx⟩; have hszU := hN.size; (first | (with_reducible have hz := (hNx.block U.heap.size (HLT1.out trivial)).trans HZU.out; have hszz : U.heap.size < wl.heap.size := (Array.getElem?_eq_some_iff.1 hz).1) | skip))
      | (go_at_call 35; refine (HBE.out _ _ _ ?_ ?_).mono ?_; (repeat (first | with_reducible assumption | (with_reducible refine HSA.out _ _ ?_) | (with_reducible refine below_drew'' ?_))); (first | with_reducible exact HVL.out | with_reducible exact HVL.out.alloc _); rintro e wy ⟨bo, bc, rfl, HPY, hN2, hNy, hfr⟩; have hszV := hN2.size; (first | (with_reducible have hzz := (hNy.block U.heap.size hszz).trans hz; obtain ⟨z0, z1, z2⟩ := cells3 hzz; have f0 := Lib.frozen_of_heap hzz 0; have f1 := Lib.frozen_of_heap hzz 1; have f2 := Lib.frozen_of_heap hzz 2) | (with_reducible have hzz := (hNy.block wl.heap.size (HLC1.out _)).trans (al1 wl _); obtain ⟨z0, z1, z2⟩ := cells3 hzz; have f0 := Lib.frozen_of_heap hzz 0; have f1 := Lib.frozen_of_heap hzz 1; have f2 := Lib.frozen_of_heap hzz 2) | skip)))
  all_goals first
    | (show Exit.then _ _ _ _ (wy.alloc (Obj.cells #[.int .i64 1, .int .i64 1, .slice bo 1 bc] 39))
       have vB := HSA.out wy (Obj.cells #[.int .i64 1, .int .i64 1, .slice bo 1 bc] 39) hN2
       have vS := al1 wy (Obj.cells #[.int .i64 1, .int .i64 1, .slice bo 1 bc] 39)
       have vP := hide (HPY.out.alloc (Obj.cells #[.int .i64 1, .int .i64 1, .slice bo 1 bc] 39))
       generalize wy.alloc (Obj.cells #[.int .i64 1, .int .i64 1, .slice bo 1 bc] 39) = V at *
       generalize wy.heap.size = SB at vS ⊢)
    | (show Exit.then _ _ _ _ (((wy.setCell ⟨wl.heap.size, 0, none⟩ (.int .i64 1)).setCell ⟨wl.heap.size, 1, none⟩ (.int .i64 1)).setCell ⟨wl.heap.size, 2, none⟩ (.slice bo 1 bc))
       have vB := HS3.out wy wl.heap.size (.int .i64 1) (.int .i64 1) (.slice bo 1 bc) hN2 hszU
       have vS := (box3_set hzz (.int .i64 1) (.int .i64 1) (.slice bo 1 bc) U hszU hN2).1
       have vP := hide (HPY.out.set3 hfr (HLC1.out _) (.int .i64 1) (.int .i64 1) (.slice bo 1 bc))
       generalize ((wy.setCell ⟨wl.heap.size, 0, none⟩ (.int .i64 1)).setCell ⟨wl.heap.size, 1, none⟩ (.int .i64 1)).setCell ⟨wl.heap.size, 2, none⟩ (.slice bo 1 bc) = V at *
       generalize wl.heap.size = SB at vS ⊢)
    | (show Exit.then _ _ _ _ (((wy.setCell ⟨U.heap.size, 0, none⟩ (.int .i64 1)).setCell ⟨U.heap.size, 1, none⟩ (.int .i64 1)).setCell ⟨U.heap.size, 2, none⟩ (.slice bo 1 bc))
       have vB := HS3.out wy U.heap.size (.int .i64 1) (.int .i64 1) (.slice bo 1 bc) hN2 (Nat.le_refl _)
       have vS := (box3_set hzz (.int .i64 1) (.int .i64 1) (.slice bo 1 bc) U (Nat.le_refl _) hN2).1
       have vP := hide (HPY.out.set3 hfr hszz (.int .i64 1) (.int .i64 1) (.slice bo 1 bc))
       generalize ((wy.setCell ⟨U.heap.size, 0, none⟩ (.int .i64 1)).setCell ⟨U.heap.size, 1, none⟩ (.int .i64 1)).setCell ⟨U.heap.size, 2, none⟩ (.slice bo 1 bc) = V at *
       generalize U.heap.size = SB at vS ⊢)
  all_goals
    have hsV := vB.size
    have hlS := (Array.getElem?_eq_some_iff.1 vS).1
    go_wp2_with fail
    refine (begSharp _ _ (pix_lit V [(0, 0, 0), (160, 0, 0)] #[.int .i64 0, .int .i64 0, .int .i64 0, .int .i64 160, .int .i64 0, .int .i64 0] 2 rfl rfl (by omega))).mono ?_
    rintro e w5 ⟨so, sc, rfl, hs5, hb5⟩
    have hV5 := bel_trans (bel_alloc V _) hb5
    have hU5 := vB.trans (hV5.mono vB.size)
    have hs5' := hV5.size
    have HP6 := hide (vP.out.below hV5 (Nat.le_refl _))
    have HP1 := hide (HQU.out.below hU5 (Nat.le_refl _))
    obtain ⟨q0, q1, q2⟩ := cells3 ((hU5.block (w.heap.size + 1) hlU).trans Q1.out)
    obtain ⟨_, _, t2⟩ := cells3 ((hU5.block w2.heap.size hlU2).trans T2.out)
    obtain ⟨b0, b1, b2⟩ := cells3 ((hV5.block SB hlS).trans vS)
    have HA5 := HA2.out.below hU5 (Nat.le_refl _)
    obtain ⟨ao, ac, hae, _, hor⟩ := HA5
    rcases hor with hor | ⟨ab, af, rfl, hab, hac⟩
    · cases hor
    obtain ⟨a0, a1, a2⟩ := hac 0 (by simp)
    simp only [List.length_cons, List.length_nil, Value.slice.injEq] at hae
    obtain ⟨rfl, _, rfl⟩ := hae
    obtain ⟨do_, dc, hde, _, hor⟩ := hs5
    rcases hor with hor | ⟨db, df, rfl, hdb, hdc⟩
    · cases hor
    obtain ⟨d0, _, _⟩ := hdc 1 (by simp)
    simp only [List.length_cons, List.length_nil, Value.slice.injEq] at hde
    obtain ⟨rfl, _, rfl⟩ := hde
    simp only [Nat.zero_mul, Nat.one_mul, Nat.add_zero, List.getElem_cons_zero, List.getElem_cons_succ] at a0 a1 a2 d0
    have hw5a : w.heap.size + 1 < w5.heap.size := by omega
    have hw5b : w2.heap.size < w5.heap.size := by omega
    have hw5c : SB < w5.heap.size := by omega
    have HFIN := hide ((HBW.out.trans (hU5.mono HBW.out.size)).alloc (Nat.le_trans HBW.out.size hU5.size) (Obj.cells #[.int .i64 2, .int .i64 1, .slice (some ⟨db, df, none⟩) 2 sc] 39))
    clear hac hdc vB vS vP HS HL2 HBE HSA HS3 HZU HLT1 HLC1 hdrew hrefl hV5 hU5 hb5 Q1 T2 HA2 HQU
    go_wp2_with fail
    refine (samePictures_any 1 1 _ [(100, 200, 300)] 1 1 _ [(100, 200, 300)] _ (HP6.out.alloc _) (HP1.out.alloc _)).mono ?_
    rintro e w6 ⟨rfl, hb6⟩
    rw [show sameB 1 1 [(100, 200, 300)] 1 1 [(100, 200, 300)] = true by decide]
    obtain ⟨_, _, g2⟩ := cells3 ((hb6.block w5.heap.size (by simp)).trans (al1 w5 _))
    have d0' := (hb6.cell (p := ⟨db, df + 3, none⟩) (by show db < _; simp; omega)).trans ((World.cell?_of_block (a := ⟨db, df + 3, none⟩) (Below.heap_alloc w5 _ db hdb)).trans d0)
    have hF := HFIN.out.trans (hb6.mono HFIN.out.size)
    clear d0 a0 a1 a2 q0 q1 q2 t2 b0 b1 b2
    go_wp2
    go_ret
    exact ⟨rfl, hF⟩

end Go.Proofs.Ytolcndchfnifhab
