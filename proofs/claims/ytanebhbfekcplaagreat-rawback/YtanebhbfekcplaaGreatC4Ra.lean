/- Ra: part 4 of what the proofs need. -/
import Derived.Test.YtanebhbfekcplaaGreatC1Ra
import Derived.Test.YtanebhbfekcplaaGreatC2Ra
import Derived.Test.YtanebhbfekcplaaGreatC3Ra
import Derived.BigQuiet
import Derived.Deep.RegionHeld3
import Derived.Deep.AppendLies
import Derived.ProofKit
import Derived.OpenShut
import Derived.ChangeSame
import Derived.ChangeArms
import Derived.DataReads
import Derived.Deep.CutRange
import Derived.Deep.CutBlock
namespace Go.Proofs.YtanebhbfekcplaaGreat
set_option linter.unusedVariables false
open Go.RowKit
theorem rangeOk_ref (r : RawF) : rangeOk r = (decide (1 ≤ r.w ∧ r.w ≤ 64) && decide (1 ≤ r.h ∧ r.h ≤ 64) && decide (1 ≤ r.depth ∧ r.depth ≤ 16) && decide (1 ≤ r.rows ∧ r.rows ≤ r.h)) := rfl
set_option maxRecDepth 100000 in
set_option maxHeartbeats 1600000 in
theorem headError_any (r : RawF) (lv tv sv cv : Value) (w : World) (hl : IsInts w lv r.lens) :
    Calls Tryz.prog 24 #[.agg (rawA r lv tv sv cv)] w fun e w' => e = .returned (.int .i64 (headE r)) ∧ Below w.heap.size w w' := by
  have HL := hide hl
  obtain ⟨ao, ca, rfl, _, _⟩ := hl
  have a1 := al1 w (Obj.cells (rawA r (.slice ao r.lens.length ca) tv sv cv) 32)
  have HB := hide (bel_alloc w (Obj.cells (rawA r (.slice ao r.lens.length ca) tv sv cv) 32))
  have HE := hide (show headE r = if rangeOk r = true then (if 0 ≤ r.kind ∧ r.kind ≤ 7 then kindE r else 6) else 3 from rfl)
  have HG := hide (rangeOk_ref r)
  have HK := hide (show kindE r = if r.kind = 0 then (if r.lens.length = 0 then 0 else 1) else checkE r.lens from rfl)
  generalize headE r = E at *
  obtain ⟨s0, s1, s2, s3, s4, s5, s6, s13, s26⟩ := raw_cells a1
  have HW1 := hide (fun u => within_any r.w 1 64 u)
  have HW2 := hide (fun u => within_any r.h 1 64 u)
  have HW3 := hide (fun u => within_any r.depth 1 16 u)
  have HW4 := hide (fun u => within_any r.rows 1 r.h u)
  have HW5 := hide (fun u => within_any r.kind 0 7 u)
  have HL4 := hide (HL.out.below HB.out (Nat.le_refl _))
  go_enter Tryz.func24, Tryz.ntmps24
  go_wp2_with fail
  clear a1
  generalize w.alloc (Obj.cells (rawA r (.slice ao r.lens.length ca) tv sv cv) 32) = U at *
  refine (HW1.out _).mono ?_
  rintro e w1 ⟨rfl, rfl⟩
  by_cases q1 : 1 ≤ r.w ∧ r.w ≤ 64
  rotate_left
  · have he : E = 3 := by rw [HE.out, HG.out, decide_eq_false q1]; rfl
    rw [decide_eq_false q1]
    subst he
    go_wp2
    go_ret
    exact ⟨rfl, HB.out⟩
  rw [decide_eq_true q1]
  go_wp2_with fail
  refine (HW2.out _).mono ?_
  rintro e w1 ⟨rfl, rfl⟩
  by_cases q2 : 1 ≤ r.h ∧ r.h ≤ 64
  rotate_left
  · have he : E = 3 := by rw [HE.out, HG.out, decide_eq_true q1, decide_eq_false q2]; rfl
    rw [decide_eq_false q2]
    subst he
    go_wp2
    go_ret
    exact ⟨rfl, HB.out⟩
  rw [decide_eq_true q2]
  go_wp2_with fail
  refine (HW3.out _).mono ?_
  rintro e w1 ⟨rfl, rfl⟩
  by_cases q3 : 1 ≤ r.depth ∧ r.depth ≤ 16
  rotate_left
  · have he : E = 3 := by rw [HE.out, HG.out, decide_eq_true q1, decide_eq_true q2, decide_eq_false q3]; rfl
    rw [decide_eq_false q3]
    subst he
    go_wp2
    go_ret
    exact ⟨rfl, HB.out⟩
  rw [decide_eq_true q3]
  go_wp2_with fail
  refine (HW4.out _).mono ?_
  rintro e w1 ⟨rfl, rfl⟩
  by_cases q4 : 1 ≤ r.rows ∧ r.rows ≤ r.h
  rotate_left
  · have he : E = 3 := by rw [HE.out, HG.out, decide_eq_true q1, decide_eq_true q2, decide_eq_true q3, decide_eq_false q4]; rfl
    rw [decide_eq_false q4]
    subst he
    go_wp2
    go_ret
    exact ⟨rfl, HB.out⟩
  rw [decide_eq_true q4]
  have HE' := hide (show E = if 0 ≤ r.kind ∧ r.kind ≤ 7 then kindE r else 6 by rw [HE.out, HG.out, decide_eq_true q1, decide_eq_true q2, decide_eq_true q3, decide_eq_true q4]; rfl)
  clear HE HG q1 q2 q3 q4 HW1 HW2 HW3 HW4
  go_wp2_with fail
  refine (HW5.out _).mono ?_
  rintro e w1 ⟨rfl, rfl⟩
  by_cases q5 : 0 ≤ r.kind ∧ r.kind ≤ 7
  rotate_left
  · have he : E = 6 := by rw [HE'.out, if_neg q5]
    rw [decide_eq_false q5]
    subst he
    go_wp2
    go_ret
    exact ⟨rfl, HB.out⟩
  rw [decide_eq_true q5]
  have HE2 := hide (show E = if r.kind = 0 then (if r.lens.length = 0 then 0 else 1) else checkE r.lens by rw [HE'.out, if_pos q5]; exact HK.out)
  clear HE' HK HW5
  by_cases hk : r.kind = 0
  · have hk' : (r.kind == 0) = true := by simpa using hk
    have hk2 : decide (0 < r.kind) = false := decide_eq_false (by omega)
    rw [if_pos hk] at HE2
    by_cases hn : r.lens.length = 0
    · have he : E = 0 := by rw [HE2.out, if_pos hn]
      have hn' : decide (0 < (r.lens.length : Int)) = false := decide_eq_false (by omega)
      subst he
      go_wp2
      go_ret
      exact ⟨rfl, HB.out⟩
    · have he : E = 1 := by rw [HE2.out, if_neg hn]
      have hn' : decide (0 < (r.lens.length : Int)) = true := decide_eq_true (by omega)
      subst he
      go_wp2
      go_ret
      exact ⟨rfl, HB.out⟩
  · have hk' : (r.kind == 0) = false := by simpa using hk
    have hk2 : decide (0 < r.kind) = true := decide_eq_true (by omega)
    rw [if_neg hk] at HE2
    go_wp2_with fail
    refine (checkCode_any _ r.lens _ HL4.out).mono ?_
    rintro e w1 ⟨rfl, rfl⟩
    go_wp2
    go_ret
    exact ⟨ret_int HE2.out.symm, HB.out⟩
set_option maxRecDepth 100000 in
set_option maxHeartbeats 1600000 in
theorem planError_any (r : RawF) (lv tv sv cv : Value) (w : World) (hh : Head r) (hp : IsPlan w r.plan sv cv) :
    Calls Tryz.prog 26 #[.agg (rawA r lv tv sv cv)] w fun e w' => e = .returned (.int .i64 (pErr r)) ∧ Below w.heap.size w w' := by
  have HP := hide hp
  obtain ⟨⟨lo, lc, rfl, hll, _⟩, ⟨ko, kc, rfl, hkl, _⟩⟩ := hp
  have a1 := al1 w (Obj.cells (rawA r lv tv (.slice lo r.plan.spots.length lc) (.slice ko r.plan.curve.length kc)) 32)
  have HB := hide (bel_alloc w (Obj.cells (rawA r lv tv (.slice lo r.plan.spots.length lc) (.slice ko r.plan.curve.length kc)) 32))
  have hlt := (Array.getElem?_eq_some_iff.1 a1).1
  have HE := hide (show pErr r = if planE r.plan = 0 then (if spotsB r.w r.h r.plan.spots = true then 0 else 3) else planE r.plan from rfl)
  generalize pErr r = E at *
  have HT := hide (plan_at a1)
  have HHD := hide hh
  have HCK := hide (fun (u : World) (hu : Below w.heap.size w u) => checkPlan_any r.plan _ _ u (HP.out.below hu (Nat.le_refl _)))
  clear hh
  go_enter Tryz.func26, Tryz.ntmps26
  go_wp2_with (refine wpList_load_at rfl 30 _ rfl _ 7 rfl (planA r.plan (.slice lo r.plan.spots.length lc) (.slice ko r.plan.curve.length kc)) _ HT.out Tryz.underlying30 rfl (by kernel_rfl) ?_)
  generalize w.alloc (Obj.cells (rawA r lv tv (.slice lo r.plan.spots.length lc) (.slice ko r.plan.curve.length kc)) 32) = U at *
  refine (HCK.out _ HB.out).mono ?_
  rintro e V1 ⟨rfl, hb1⟩
  have HB1 := hide (bel_trans HB.out hb1)
  by_cases hF : planE r.plan = 0
  · rw [if_pos hF] at HE
    rw [hF]
    obtain ⟨s0, s1, s2, s3, s4, s5, s6, s13, s26⟩ := raw_cells ((hb1.block _ hlt).trans a1)
    go_wp2_with fail
    clear s0 s1 s2 s3 s4 s5 s6 s13 s26
    refine (spotsIn_any _ r.plan.spots r.w r.h HHD.out.w HHD.out.h _ (HP.out.spots.below HB1.out (Nat.le_refl _))).mono ?_
    rintro e V3 ⟨rfl, rfl⟩
    cases hs : spotsB r.w r.h r.plan.spots
    · have he : E = 3 := by rw [HE.out, hs]; rfl
      subst he
      go_wp2
      go_ret
      exact ⟨rfl, HB1.out⟩
    · have he : E = 0 := by rw [HE.out, hs]; rfl
      subst he
      go_wp2
      go_ret
      exact ⟨rfl, HB1.out⟩
  · rw [if_neg hF] at HE
    have hn : (planE r.plan != 0) = true := by simpa using hF
    have he : E = planE r.plan := HE.out
    subst he
    go_wp2
    go_ret
    exact ⟨rfl, HB1.out⟩
set_option maxRecDepth 100000 in
set_option maxHeartbeats 800000 in
theorem rcount2_any (r : RawF) (lv tv sv cv : Value) (w : World) (h : Head r) :
    Calls Tryz.prog 25 #[.agg (rawA r lv tv sv cv)] w fun e w' => e = .returned (.int .i64 (cntN r)) ∧ Below w.heap.size w w' := by
  have hb := h.rows
  have hc := h.h
  obtain ⟨X, hX⟩ : ∃ X : Int, r.h + r.rows - 1 = X := ⟨_, rfl⟩
  have hp := h.cnt_int
  rw [hX] at hp
  have hx : 0 ≤ X := by omega
  have hn : ¬ r.rows = 0 := by omega
  have a1 := al1 w (Obj.cells (rawA r lv tv sv cv) 32)
  have HB := hide (bel_alloc w (Obj.cells (rawA r lv tv sv cv) 32))
  have t1 : IntKind.i64.wrap (r.h + r.rows) = r.h + r.rows := IntWalk.i64_in _ (by omega)
  have t2 : IntKind.i64.wrap (r.h + r.rows - 1) = X := by rw [← hX]; exact IntWalk.i64_in _ (by omega)
  have hq : X.tdiv r.rows = (cntN r : Int) := by rw [hp]; exact Int.tdiv_eq_ediv_of_nonneg hx
  have hle := h.cnt_le
  have t3 : IntKind.i64.wrap (X.tdiv r.rows) = (cntN r : Int) := by rw [hq]; exact IntWalk.i64_in _ (by omega)
  have HC := hide hp.symm
  clear hp
  generalize cntN r = C at *
  obtain ⟨s0, s1, s2, s3, s4, s5, s6, s13, s26⟩ := raw_cells a1
  go_enter Tryz.func25, Tryz.ntmps25
  go_wp2
  go_ret
  exact ⟨ret_int (by first | rfl | exact HC.out), HB.out⟩
set_option maxRecDepth 100000 in
set_option maxHeartbeats 800000 in
theorem rowsOf2_any (r : RawF) (lv tv sv cv : Value) (i : Nat) (w : World) (h : Head r) (hi : i < cntN r) :
    Calls Tryz.prog 38 #[.agg (rawA r lv tv sv cv), .int .i64 i] w fun e w' => e = .returned (.int .i64 (rowN r i)) ∧ Below w.heap.size w w' := by
  have hb := h.rows
  have hc := h.h
  have hlt := (h.cnt_pos i).1 hi
  have hle := h.cnt_le
  have a1 := al1 w (Obj.cells (rawA r lv tv sv cv) 32)
  have HB := hide (bel_alloc w (Obj.cells (rawA r lv tv sv cv) 32))
  have h0 : 0 ≤ (i : Int) * r.rows := Int.mul_nonneg (by omega) (by omega)
  have t1 : wrap64 ((i : Int) * r.rows) = i * r.rows := IntWalk.wrap64_in _ (by omega)
  have t2 : wrap64 (r.h - (i : Int) * r.rows) = r.h - i * r.rows := IntWalk.wrap64_in _ (by omega)
  have HR := hide (show min r.rows (wrap64 (r.h - wrap64 ((i : Int) * r.rows))) = rowN r i by rw [t1, t2]; rfl)
  have HR2 := hide (show min r.rows (r.h - (i : Int) * r.rows) = rowN r i from rfl)
  clear t1 t2
  generalize rowN r i = R at *
  obtain ⟨s0, s1, s2, s3, s4, s5, s6, s13, s26⟩ := raw_cells a1
  go_enter Tryz.func38, Tryz.ntmps38
  go_wp2
  go_ret
  exact ⟨ret_int (by first | exact HR.out | exact HR2.out), HB.out⟩
end Go.Proofs.YtanebhbfekcplaaGreat

namespace Go.Proofs.YtanebhbfekcplaaGreat
set_option linter.unusedVariables false
open Go.RowKit
theorem run_part_int (W : World) (xs : Array Value) (i : Nat) (z : Int) (h : xs[i]? = some (.int .i64 z)) : (part 3 xs i).run Tryz.prog W = .ok (.int .i64 z) W := by
  have ha := Tryz.isAgg3 W
  simp [part, Sem.run_bind, ha, h, go_sem]
theorem arr_same {N : Nat} {t : TypeId} (ht : Tryz.prog.underlying t = some (.array N 3)) (xs : Array Value) (f : Nat → Int) (hx : ∀ i, i < N → xs[i]? = some (.int .i64 (f i))) (d : Nat) (W : World) :
    (Op.equalIn (d + 2) t (.agg xs) (.agg xs)).run Tryz.prog W = .ok true W := by
  have hs := Tryz.sizeOf3
  unfold Op.equalIn
  simp only [Sem.run_bind, run_underlying ht, Result.andThen_ok, hs]
  have hm : ∀ i ∈ List.range' 0 N, i < N := fun i hi => by simp at hi; exact hi
  simp only [Std.Legacy.Range.forIn_eq_forIn_range', Std.Legacy.Range.size, Nat.sub_zero, Nat.add_one_sub_one, Nat.div_one]
  generalize List.range' 0 N = is at hm ⊢
  induction is with
  | nil => rfl
  | cons i is ih =>
    have hp := run_part_int W xs (i * 1) (f i) (by rw [Nat.mul_one]; exact hx i (hm i (by simp)))
    have he := run_equalIn_int (P := Tryz.prog) W d 3 .i64 .i64 (f i) (f i) Tryz.underlying3
    simp only [List.forIn_cons, Sem.run_bind, hp, he, Result.andThen_ok]
    simpa using ih (fun j hj => hm j (by simp [hj]))
end Go.Proofs.YtanebhbfekcplaaGreat

namespace Go.Proofs.YtanebhbfekcplaaGreat
set_option linter.unusedVariables false
open Go.RowKit
set_option maxRecDepth 100000 in
set_option maxHeartbeats 3200000 in
theorem samePlans_same (n : Plan) (sv cv su cu : Value) (w : World) (h1 : IsPlan w n sv cv) (h2 : IsPlan w n su cu) :
    Calls Tryz.prog 41 #[.agg (planA n sv cv), .agg (planA n su cu)] w fun e w' => e = .returned (.bool true) ∧ Below w.heap.size w w' := by
  have H1 := hide h1
  have H2 := hide h2
  obtain ⟨⟨lo, lc, rfl, hll, _⟩, ⟨ko, kc, rfl, hkl, _⟩⟩ := h1
  obtain ⟨⟨mo, mc, rfl, _, _⟩, ⟨po, pc, rfl, _, _⟩⟩ := h2
  obtain ⟨a1, a2⟩ := al2 w (Obj.cells (planA n (.slice lo n.spots.length lc) (.slice ko n.curve.length kc)) 30) (Obj.cells (planA n (.slice mo n.spots.length mc) (.slice po n.curve.length pc)) 30)
  have HB := hide (be2 w (Obj.cells (planA n (.slice lo n.spots.length lc) (.slice ko n.curve.length kc)) 30) (Obj.cells (planA n (.slice mo n.spots.length mc) (.slice po n.curve.length pc)) 30))
  obtain ⟨c0, c1, c2, c3, c4, c5, c6, c7, c8, c9, c10, c11, c12, c13, c14, c15, c16, c17, c18, c19, c20⟩ := plan_cells a1
  obtain ⟨d0, d1, d2, d3, d4, d5, d6, d7, d8, d9, d10, d11, d12, d13, d14, d15, d16, d17, d18, d19, d20⟩ := plan_cells a2
  have e4 : ∀ W, (Op.equalIn 10000 24 (.agg #[.int .i64 (n.black 0), .int .i64 (n.black 1), .int .i64 (n.black 2), .int .i64 (n.black 3)]) (.agg #[.int .i64 (n.black 0), .int .i64 (n.black 1), .int .i64 (n.black 2), .int .i64 (n.black 3)])).run Tryz.prog W = .ok true W := fun W => arr_same (N := 4) Tryz.underlying24 _ n.black (fun i hi => by rcases (show i = 0 ∨ i = 1 ∨ i = 2 ∨ i = 3 by omega) with rfl | rfl | rfl | rfl <;> rfl) 9998 W
  have e3 : ∀ W, (Op.equalIn 10000 26 (.agg #[.int .i64 (n.gains 0), .int .i64 (n.gains 1), .int .i64 (n.gains 2)]) (.agg #[.int .i64 (n.gains 0), .int .i64 (n.gains 1), .int .i64 (n.gains 2)])).run Tryz.prog W = .ok true W := fun W => arr_same (N := 3) Tryz.underlying26 _ n.gains (fun i hi => by rcases (show i = 0 ∨ i = 1 ∨ i = 2 by omega) with rfl | rfl | rfl <;> rfl) 9998 W
  have e9 : ∀ W, (Op.equalIn 10000 27 (.agg #[.int .i64 (n.matrix 0), .int .i64 (n.matrix 1), .int .i64 (n.matrix 2), .int .i64 (n.matrix 3), .int .i64 (n.matrix 4), .int .i64 (n.matrix 5), .int .i64 (n.matrix 6), .int .i64 (n.matrix 7), .int .i64 (n.matrix 8)]) (.agg #[.int .i64 (n.matrix 0), .int .i64 (n.matrix 1), .int .i64 (n.matrix 2), .int .i64 (n.matrix 3), .int .i64 (n.matrix 4), .int .i64 (n.matrix 5), .int .i64 (n.matrix 6), .int .i64 (n.matrix 7), .int .i64 (n.matrix 8)])).run Tryz.prog W = .ok true W := fun W => arr_same (N := 9) Tryz.underlying27 _ n.matrix (fun i hi => by rcases (show i = 0 ∨ i = 1 ∨ i = 2 ∨ i = 3 ∨ i = 4 ∨ i = 5 ∨ i = 6 ∨ i = 7 ∨ i = 8 by omega) with rfl | rfl | rfl | rfl | rfl | rfl | rfl | rfl | rfl <;> rfl) 9998 W
  have hl1 := (Array.getElem?_eq_some_iff.1 a1).1
  have hl2 := (Array.getElem?_eq_some_iff.1 a2).1
  go_enter Tryz.func41, Tryz.ntmps41
  go_upto_region 3 with fail
  clear c0 c1 c2 c3 c4 c5 c6 c7 c8 c9 c10 c11 c12 c13 c14 c15 c16 c17 c18 c19 c20 d0 d1 d2 d3 d4 d5 d6 d7 d8 d9 d10 d11 d12 d13 d14 d15 d16 d17 d18 d19 d20 e4 e3 e9
  generalize (w.alloc (Obj.cells (planA n (.slice lo n.spots.length lc) (.slice ko n.curve.length kc)) 30)).alloc (Obj.cells (planA n (.slice mo n.spots.length mc) (.slice po n.curve.length pc)) 30) = U at *
  have HP1 := hide (fun (V : World) (hV : Below U.heap.size U V) => plan_cells ((hV.block _ hl1).trans a1))
  have HP2 := hide (fun (V : World) (hV : Below U.heap.size U V) => plan_cells ((hV.block _ hl2).trans a2))
  clear a1 a2 hl1 hl2
  go_wp2_with fail
  go_loopw [5] (fun i wr => ∃ k : Nat, k ≤ n.spots.length ∧ i = .int .i64 k ∧ Below U.heap.size U wr) (fun i _ => n.spots.length - (intOf i).toNat)
  case atStart => exact ⟨0, Nat.zero_le _, rfl, Below.refl _ _⟩
  case round =>
    obtain ⟨k, hk, rfl, hbel⟩ := hrel
    obtain ⟨c0, c1, c2, c3, c4, c5, c6, c7, c8, c9, c10, c11, c12, c13, c14, c15, c16, c17, c18, c19, c20⟩ := HP1.out wr hbel
    obtain ⟨d0, d1, d2, d3, d4, d5, d6, d7, d8, d9, d10, d11, d12, d13, d14, d15, d16, d17, d18, d19, d20⟩ := HP2.out wr hbel
    by_cases hlt : k < n.spots.length
    · have hd : decide ((k : Int) < (n.spots.length : Int)) = true := by simp; omega
      obtain ⟨bq, oq, rfl, hbq, x0, x1⟩ := (H1.out.spots.below (bel_trans HB.out hbel) (Nat.le_refl _)).at k hlt
      obtain ⟨br, or', rfl, hbr, y0, y1⟩ := (H2.out.spots.below (bel_trans HB.out hbel) (Nat.le_refl _)).at k hlt
      obtain ⟨⟨x, y⟩, hxy⟩ : ∃ t, ptAt n.spots k = t := ⟨_, rfl⟩
      rw [hxy] at x0 x1 y0 y1
      go_upto_region 6 with fail
      go_quiet (fail)
      go_wp2
      go_roundw
      case rel => exact ⟨k + 1, hlt, by go_num, below_drewN hbel _⟩
      case measure => simp [intOf]; omega
    · have hd : decide ((k : Int) < (n.spots.length : Int)) = false := by simp; omega
      obtain rfl : k = n.spots.length := by omega
      go_wp2_with fail
      go_loopw [6] (fun i wr => ∃ k : Nat, k ≤ n.curve.length ∧ i = .int .i64 k ∧ Below U.heap.size U wr) (fun i _ => n.curve.length - (intOf i).toNat)
      case atStart => exact ⟨0, Nat.zero_le _, rfl, hbel⟩
      case round =>
        obtain ⟨k, hk, rfl, hbel⟩ := hrel
        obtain ⟨c0, c1, c2, c3, c4, c5, c6, c7, c8, c9, c10, c11, c12, c13, c14, c15, c16, c17, c18, c19, c20⟩ := HP1.out wr hbel
        obtain ⟨d0, d1, d2, d3, d4, d5, d6, d7, d8, d9, d10, d11, d12, d13, d14, d15, d16, d17, d18, d19, d20⟩ := HP2.out wr hbel
        by_cases hlt : k < n.curve.length
        · have hd : decide ((k : Int) < (n.curve.length : Int)) = true := by simp; omega
          obtain ⟨bq, oq, rfl, hbq, x0, x1⟩ := (H1.out.curve.below (bel_trans HB.out hbel) (Nat.le_refl _)).at k hlt
          obtain ⟨br, or', rfl, hbr, y0, y1⟩ := (H2.out.curve.below (bel_trans HB.out hbel) (Nat.le_refl _)).at k hlt
          obtain ⟨⟨x, y⟩, hxy⟩ : ∃ t, ptAt n.curve k = t := ⟨_, rfl⟩
          rw [hxy] at x0 x1 y0 y1
          go_upto_region 11 with fail
          go_quiet (fail)
          go_wp2
          go_roundw
          case rel => exact ⟨k + 1, hlt, by go_num, below_drewN hbel _⟩
          case measure => simp [intOf]; omega
        · have hd : decide ((k : Int) < (n.curve.length : Int)) = false := by simp; omega
          obtain rfl : k = n.curve.length := by omega
          go_wp2
          go_ret
          exact ⟨rfl, bel_trans HB.out hbel⟩
end Go.Proofs.YtanebhbfekcplaaGreat

namespace Go.Proofs.YtanebhbfekcplaaGreat
set_option linter.unusedVariables false
open Go.RowKit
theorem wpList_load_at_w {P : Program} {ops : Array Oper} {rest : List Oper} {o : Oper} {a : Act} {w : World} {Q : Exit → Act → World → Prop} (hw : Region.wanted o (yielded ops a.tmps) = true) (ty : TypeId) (x : Operand) (ho : o.op = .load ty x)
    (g of : Nat) (hx : a.eval x = .pointer (some ⟨g, of, none⟩)) (cs : Array Value) (d : TypeDesc) (hc : ∀ j v, cs.toList[j]? = some v → w.cell? ⟨g, of + j, none⟩ = some v)
    (hu : P.underlying ty = some d) (hd : (match d with | .struct _ | .array _ _ => true | _ => false) = true) (hi : (P.info? ty).map (·.size) = some cs.size)
    (h : wpList P ops Q rest (a.put o.dst (.agg cs)) w) : wpList P ops Q (o :: rest) a w := by
  unfold wpList
  rw [if_pos hw]
  refine .inl ?_
  unfold Oper.wp execOp
  simp only [ho, hx, Instr.loadAt, Instr.sureAddr, Sem.run_bind, Sem.run_pure, Result.andThen_ok, run_loadVar_at w g of ty cs d hc hu hd hi]
  exact h
set_option maxRecDepth 100000 in
set_option maxHeartbeats 3200000 in
theorem sameRaws_same (r : RawF) (lv tv sv cv lu tu su cu : Value) (w : World) (h1 : IsRaw w r lv tv sv cv) (h2 : IsRaw w r lu tu su cu) :
    Calls Tryz.prog 14 #[.agg (rawA r lv tv sv cv), .agg (rawA r lu tu su cu)] w fun e w' => e = .returned (.bool true) ∧ Below w.heap.size w w' := by
  have H1 := hide h1
  have H2 := hide h2
  obtain ⟨lo, lc, rfl, _, _⟩ := h1.lens
  obtain ⟨tp, tc, rfl, _, _⟩ := h1.strips
  obtain ⟨mo, mc, rfl, _, _⟩ := h2.lens
  obtain ⟨up, uc, rfl, _, _⟩ := h2.strips
  clear h1 h2
  obtain ⟨a1, a2⟩ := al2 w (Obj.cells (rawA r (.slice lo r.lens.length lc) (.slice tp r.strips.length tc) sv cv) 32) (Obj.cells (rawA r (.slice mo r.lens.length mc) (.slice up r.strips.length uc) su cu) 32)
  have HB := hide (be2 w (Obj.cells (rawA r (.slice lo r.lens.length lc) (.slice tp r.strips.length tc) sv cv) 32) (Obj.cells (rawA r (.slice mo r.lens.length mc) (.slice up r.strips.length uc) su cu) 32))
  have hl1 := (Array.getElem?_eq_some_iff.1 a1).1
  have hl2 := (Array.getElem?_eq_some_iff.1 a2).1
  obtain ⟨s0, s1, s2, s3, s4, s5, s6, s13, s26⟩ := raw_cells a1
  obtain ⟨t0, t1, t2, t3, t4, t5, t6, t13, t26⟩ := raw_cells a2
  go_enter Tryz.func14, Tryz.ntmps14
  go_wp2_with fail
  clear s0 s1 s2 s3 s4 s5 s6 s13 s26 t0 t1 t2 t3 t4 t5 t6 t13 t26
  generalize (w.alloc (Obj.cells (rawA r (.slice lo r.lens.length lc) (.slice tp r.strips.length tc) sv cv) 32)).alloc (Obj.cells (rawA r (.slice mo r.lens.length mc) (.slice up r.strips.length uc) su cu) 32) = U at *
  have HC1 := hide (fun (V : World) (hV : Below U.heap.size U V) => raw_cells ((hV.block _ hl1).trans a1))
  have HC2 := hide (fun (V : World) (hV : Below U.heap.size U V) => raw_cells ((hV.block _ hl2).trans a2))
  have HT1 := hide (fun (V : World) (hV : Below U.heap.size U V) => plan_at ((hV.block _ hl1).trans a1))
  have HT2 := hide (fun (V : World) (hV : Below U.heap.size U V) => plan_at ((hV.block _ hl2).trans a2))
  clear a1 a2 hl1 hl2
  refine (sameInts_any _ _ r.lens r.lens _ (H1.out.lens.below HB.out (Nat.le_refl _)) (H2.out.lens.below HB.out (Nat.le_refl _))).mono ?_
  rintro e V1 ⟨rfl, hb1⟩
  rw [decide_eq_true rfl]
  obtain ⟨s0, s1, s2, s3, s4, s5, s6, s13, s26⟩ := HC1.out V1 hb1
  obtain ⟨t0, t1, t2, t3, t4, t5, t6, t13, t26⟩ := HC2.out V1 hb1
  have p1 := HT1.out V1 hb1
  have p2 := HT2.out V1 hb1
  have HP1 := hide p1
  have HP2 := hide p2
  clear p1 p2
  go_wp2_with (first | refine wpList_load_at_w (by rfl) 30 _ rfl w.heap.size 7 rfl (planA r.plan sv cv) _ HP1.out Tryz.underlying30 rfl (by kernel_rfl) ?_ | refine wpList_load_at_w (by rfl) 30 _ rfl (w.heap.size + 1) 7 rfl (planA r.plan su cu) _ HP2.out Tryz.underlying30 rfl (by kernel_rfl) ?_)
  clear s0 s1 s2 s3 s4 s5 s6 s13 s26 t0 t1 t2 t3 t4 t5 t6 t13 t26
  refine (samePlans_same r.plan _ _ _ _ _ (H1.out.plan.below (bel_trans HB.out hb1) (Nat.le_refl _)) (H2.out.plan.below (bel_trans HB.out hb1) (Nat.le_refl _))).mono ?_
  rintro e V2 ⟨rfl, hb2⟩
  replace hb2 := bel_trans hb1 hb2
  go_wp2_with fail
  go_loopw [5] (fun i wr => ∃ k : Nat, k ≤ r.strips.length ∧ i = .int .i64 k ∧ Below U.heap.size U wr) (fun i _ => r.strips.length - (intOf i).toNat)
  case atStart => exact ⟨0, Nat.zero_le _, rfl, hb2⟩
  case round =>
    obtain ⟨k, hk, rfl, hbel⟩ := hrel
    obtain ⟨s0, s1, s2, s3, s4, s5, s6, s13, s26⟩ := HC1.out wr hbel
    obtain ⟨t0, t1, t2, t3, t4, t5, t6, t13, t26⟩ := HC2.out wr hbel
    by_cases hlt : k < r.strips.length
    · have hd : decide ((k : Int) < (r.strips.length : Int)) = true := by simp; omega
      obtain ⟨bq, oq, rfl, hbq, x0⟩ := (H1.out.strips.below (bel_trans HB.out hbel) (Nat.le_refl _)).at k hlt
      obtain ⟨br, or', rfl, hbr, y0⟩ := (H2.out.strips.below (bel_trans HB.out hbel) (Nat.le_refl _)).at k hlt
      obtain ⟨T, hT⟩ : ∃ t, str (r.strips.getD k []) = t := ⟨_, rfl⟩
      rw [hT] at x0 y0
      clear hT
      go_upto_region 6 with fail
      go_quiet (fail)
      go_wp2
      go_roundw
      case rel => exact ⟨k + 1, hlt, by go_num, below_drewN hbel _⟩
      case measure => simp [intOf]; omega
    · have hd : decide ((k : Int) < (r.strips.length : Int)) = false := by simp; omega
      obtain rfl : k = r.strips.length := by omega
      go_wp2
      go_ret
      exact ⟨rfl, bel_trans HB.out hbel⟩
end Go.Proofs.YtanebhbfekcplaaGreat

namespace Go.Proofs.YtanebhbfekcplaaGreat
open Go.RowKit
theorem str_beq (l : List UInt8) (s : ByteArray) : ((str l).toList == s.toList) = decide (l = s.data.toList) := by
  rw [Lib.toList_data, Lib.toList_data, str_data, Bool.eq_iff_iff, decide_eq_true_eq, beq_iff_eq]
set_option maxRecDepth 100000 in
set_option maxHeartbeats 800000 in
theorem unpacked_walk (s : ByteArray) (D n : Nat) (hD1 : 1 ≤ D) (hD : D ≤ 16) (hn : n ≤ 4096) (hl : s.size = (n * D + 7) / 8) (w : World) :
    Calls Tryz.prog 59 #[.string s, .int .i64 D, .int .i64 n] w fun e w' => ∃ v, e = .returned (.tuple #[v, .int .i64 (if hasOne ((rowOf s.data.toList).drop (n * D)) = true then 1 else 0)]) ∧
      IsInts w' v (if hasOne ((rowOf s.data.toList).drop (n * D)) = true then [] else vals (rowOf s.data.toList) D n) ∧ Below w.heap.size w w' := by
  obtain ⟨i0, hi, hz0, hz1, hz2⟩ := info_parts Tryz.infoInt
  have hm : (n * D : Nat) ≤ 65536 := Nat.le_trans (Nat.mul_le_mul hn hD) (by decide)
  have HPI := hide (packed_iff s.data.toList n D (by rw [len_data]; exact hl))
  obtain ⟨m, hm0⟩ : ∃ m : Nat, m = n * D := ⟨_, rfl⟩
  have hmi : (n : Int) * (D : Int) = (m : Int) := by rw [hm0]; simp
  have HM := hide hm0
  rw [← hm0] at hm hl ⊢
  clear hm0
  have hdd : decide (1 ≤ (D : Int) ∧ (D : Int) ≤ 16) = true := by simp; omega
  have hn0 : decide ((n : Int) < 0) = false := by simp
  have hn1 : decide (4096 < (n : Int)) = false := by simp; omega
  have hne : ((s.size : Int) != ((m : Int) + 7) / 8) = false := by simp; omega
  have hsz : s.size ≤ 17592186044416 := by omega
  have HR := hide (rowOf_allB s.data.toList)
  have HRL := hide (show m ≤ (rowOf s.data.toList).length by rw [rowOf_length, len_data]; omega)
  have HRU := hide (show (rowOf s.data.toList).length ≤ 140737488355328 by rw [rowOf_length, len_data]; omega)
  generalize hR : rowOf s.data.toList = R at *
  have HRR := hide hR; clear hR
  have hl := hide hl
  go_enter Tryz.func59, Tryz.ntmps59
  go_wp2_with (first | (go_at_call 55; refine (within_any _ _ _ _).mono ?_; rintro e w1 ⟨rfl, rfl⟩) | (go_at_call 111; refine (row_any _ hsz _).mono ?_; rintro e w1 ⟨rfl, hb1⟩; rw [HRR.out]))
  have hs1 := hb1.size
  go_loopw [9, 10] (fun t i wr => ∃ k : Nat, k ≤ n ∧ i = .int .i64 k ∧ wr.ownsRow w.heap.size 3 1 t (vals R D k).length ((vals R D k).map (Value.int .i64)) ∧ Below w.heap.size w wr)
    (fun _ i _ => n - (intOf i).toNat)
  case atStart => exact ⟨0, Nat.zero_le _, rfl, World.ownsRow_nil _ _ _ _, hb1⟩
  case round =>
    obtain ⟨k, hk, rfl, ho, hb⟩ := hrel
    have hsw := hb.size
    by_cases hlt : k < n
    · have hkm : (k + 1) * D ≤ m := by rw [HM.out]; exact Nat.mul_le_mul_right _ hlt
      have hRL : (k + 1) * D ≤ R.length := by have := HRL.out; omega
      have hRU := HRU.out
      have hr0 : 0 ≤ (k : Int) * (D : Int) := by rw [← Int.natCast_mul]; omega
      have hr1 : (k : Int) * (D : Int) ≤ ((k : Int) + 1) * (D : Int) := by rw [Int.add_mul]; omega
      have hr2 : ((k : Int) + 1) * (D : Int) ≤ (R.length : Int) := by
        have h := Int.ofNat_le.2 hRL
        rw [Int.natCast_mul] at h
        exact h
      have hRs : (str R).size = R.length := str_size R
      have HX := hide (show (str R).extract (k * D) ((k + 1) * D) = str ((R.drop (k * D)).take D) by rw [Lib.extract_eq, str_data, Nat.succ_mul]; simp [str])
      have HB := hide (show allB ((R.drop (k * D)).take D) = true from allB_take (allB_drop HR.out _) _)
      have hcl : ((R.drop (k * D)).take D).length = D := by rw [List.length_take, List.length_drop]; rw [Nat.succ_mul] at hRL; omega
      have HV := hide (vals_succ R D k)
      have hvl : (vals R D k).length = k := vals_length R D k
      have HVL := hide hvl
      rw [hvl] at ho
      have hcs : (str ((R.drop (k * D)).take D)).size ≤ 16 := by rw [str_size, hcl]; exact hD
      clear hkm hvl hcl hRL
      generalize vals R D k = Vs at *
      generalize hC : (R.drop (k * D)).take D = C at *
      clear hC
      go_wp2_with fail
      rw [HX.out]
      refine (refValue_any _ _ hcs HB.out).mono ?_
      rintro e w2 ⟨rfl, rfl⟩
      go_wp2_with (at_builtin; refine wpList_append_own _ rfl _ _ 22 rfl w.heap.size 3 i0 (.int .i64 0) 1 8 Tryz.underlying22 hi hz0 hz1 hz2 rfl (by decide) _ _ _ rfl (ho.alloc _) ⟨wr.heap.size, 0, none⟩ 1 1 [.int .i64 (valOf C : Nat)] rfl rfl ?_ ?_ ?_ ?_ ?_ ?_; (intro j u hj; obtain ⟨rfl, rfl⟩ := one_get hj; simp [Addr.add, str_data]); (intro u hu; simp at hu; subst hu; rfl); (unfold maxLen; omega); omega; (simp; omega); intro v' w3 hown' hgrow _)
      have ho4 : w3.ownsRow w.heap.size 3 1 v' (vals R D (k + 1)).length ((vals R D (k + 1)).map (Value.int .i64)) := by
        rw [HV.out, List.map_append, List.length_append, HVL.out]
        exact hown'
      have hb4 : Below w.heap.size w w3 := (hb.alloc hsw _).grown hgrow (by simp; omega) (fun j hj => (ho.lt j hj).1)
      clear hown' hgrow ho
      go_roundw
      case rel => exact ⟨k + 1, by omega, by go_num, ho4, hb4⟩
      case measure => simp [intOf]; omega
    · obtain rfl : k = n := by omega
      have hints : IsInts wr _ (vals R D k) := IsInts.own ho (by rw [vals_length]; omega)
      have HPV := hide (pack_vals R D k HR.out (by rw [← HM.out]; exact HRL.out))
      have HVO := hide (vals_ok R D k hD HR.out (by rw [← HM.out]; exact HRL.out))
      have HI := hide hints
      have hvl := vals_length R D k
      have hpi := HPI.out
      rw [← HM.out] at hpi
      rw [← HM.out] at HPV
      have HPI2 := hide hpi
      clear hpi ho
      by_cases hone : hasOne (R.drop m) = true
      · have hq : ((str (bytesOf (R.take m))).toList == s.toList) = false := by
          rw [str_beq, decide_eq_false_iff_not]
          intro h
          rw [HPI2.out.1 h] at hone
          cases hone
        go_wp2_with (go_at_call 39; refine (packed_any _ _ D hD (by omega) HVO.out _ HI.out).mono ?_; rintro e w3 ⟨rfl, hb3⟩; rw [HPV.out])
        go_ret2
        exact ⟨_, rfl, IsInts.nil _, hb.trans (hb3.mono hsw)⟩
      · have hone : hasOne (R.drop m) = false := by simpa using hone
        have hq : ((str (bytesOf (R.take m))).toList == s.toList) = true := by
          rw [str_beq, decide_eq_true_eq]
          exact HPI2.out.2 hone
        go_wp2_with (go_at_call 39; refine (packed_any _ _ D hD (by omega) HVO.out _ HI.out).mono ?_; rintro e w3 ⟨rfl, hb3⟩; rw [HPV.out])
        go_ret2
        exact ⟨_, rfl, HI.out.below hb3 (Nat.le_refl _), hb.trans (hb3.mono hsw)⟩
set_option maxRecDepth 100000 in
set_option maxHeartbeats 400000 in
theorem unpackedC_any (s : ByteArray) (d n : Int) (w : World) :
    Calls Tryz.prog 59 #[.string s, .int .i64 d, .int .i64 n] w fun e w' => ∃ v, e = .returned (.tuple #[v, .int .i64 (unpE s.data.toList d n)]) ∧ IsInts w' v (unpV s.data.toList d n) ∧ Below w.heap.size w w' := by
  rcases unp_ways s.data.toList d n with ⟨hE, hV, h | ⟨h1, h2⟩⟩ | ⟨hE, hV, h1, h2⟩ | ⟨hE, hV, h1, h2, h3, h4⟩ | ⟨D, N, rfl, rfl, h1, h2, h3, h4, hE, hV⟩
  · have HE := hide hE; have HV := hide hV; clear hE hV
    have hdd : decide (1 ≤ d ∧ d ≤ 16) = false := h
    go_enter Tryz.func59, Tryz.ntmps59
    go_wp2_with (go_at_call 55; refine (within_any _ _ _ _).mono ?_; rintro e w1 ⟨rfl, rfl⟩)
    go_ret2
    rw [HE.out, HV.out]
    exact ⟨_, rfl, IsInts.nil _, Below.refl _ _⟩
  · have HE := hide hE; have HV := hide hV; clear hE hV
    have hdd : decide (1 ≤ d ∧ d ≤ 16) = true := h1
    go_enter Tryz.func59, Tryz.ntmps59
    go_wp2_with (go_at_call 55; refine (within_any _ _ _ _).mono ?_; rintro e w1 ⟨rfl, rfl⟩)
    go_ret2
    rw [HE.out, HV.out]
    exact ⟨_, rfl, IsInts.nil _, Below.refl _ _⟩
  · have HE := hide hE; have HV := hide hV; clear hE hV
    have hdd : decide (1 ≤ d ∧ d ≤ 16) = true := h1
    go_enter Tryz.func59, Tryz.ntmps59
    go_wp2_with (go_at_call 55; refine (within_any _ _ _ _).mono ?_; rintro e w1 ⟨rfl, rfl⟩)
    go_ret2
    rw [HE.out, HV.out]
    exact ⟨_, rfl, IsInts.nil _, Below.refl _ _⟩
  · have HE := hide hE; have HV := hide hV; clear hE hV
    have hdd : decide (1 ≤ d ∧ d ≤ 16) = true := h1
    have hd16 : 1 ≤ d ∧ d ≤ 16 := by simpa [isDepthB] using h1
    obtain ⟨hm0, hm1⟩ := mul_fits hd16.1 hd16.2 h2 h3
    have hmm : n * d = ((n.toNat * d.toNat : Nat) : Int) := by
      rw [Int.natCast_mul, Int.toNat_of_nonneg h2, Int.toNat_of_nonneg (by omega)]
    have hne : ((s.size : Int) != (n * d + 7) / 8) = true := by
      rw [len_data] at h4
      rw [hmm]
      generalize n.toNat * d.toNat = z at *
      simp
      omega
    clear hmm h4 hd16
    go_enter Tryz.func59, Tryz.ntmps59
    go_wp2_with (go_at_call 55; refine (within_any _ _ _ _).mono ?_; rintro e w1 ⟨rfl, rfl⟩)
    go_ret2
    rw [HE.out, HV.out]
    exact ⟨_, rfl, IsInts.nil _, Below.refl _ _⟩
  · rw [hE, hV]
    exact unpacked_walk s D N h1 h2 h3 (by rw [← len_data]; exact h4) w
end Go.Proofs.YtanebhbfekcplaaGreat

namespace Go.Proofs.YtanebhbfekcplaaGreat
open Go.RowKit
theorem ints4 (w : World) (a b c d : Int) : IsInts (w.alloc (.cells #[.int .i64 a, .int .i64 b, .int .i64 c, .int .i64 d] 3)) (.slice (some ⟨w.heap.size, 0, none⟩) 4 4) [a, b, c, d] :=
  IsInts.own (base := w.heap.size) (World.ownsRow_lit w #[.int .i64 a, .int .i64 b, .int .i64 c, .int .i64 d] 4 (Nat.le_refl _) (by decide) (by simp)) (by simp)
theorem samePlanes_any (W1 H1 W2 H2 : Int) (va vb : Value) (xs ys : List Int) (w : World) (ha : IsInts w va xs) (hb : IsInts w vb ys) :
    Calls Tryz.prog 11 #[.agg #[.int .i64 W1, .int .i64 H1, va], .agg #[.int .i64 W2, .int .i64 H2, vb]] w fun e w' => e = .returned (.bool (decide (W1 = W2 ∧ H1 = H2 ∧ xs = ys))) ∧ Below w.heap.size w w' := by
  have HA := hide ha
  have HB := hide hb
  obtain ⟨ao, ca, rfl, _, _⟩ := ha
  obtain ⟨bo, cb, rfl, _, _⟩ := hb
  obtain ⟨R, hR⟩ : ∃ R, decide (W1 = W2 ∧ H1 = H2 ∧ xs = ys) = R := ⟨_, rfl⟩
  rw [hR]
  by_cases h1 : W1 = W2
  · by_cases h2 : H1 = H2
    · subst h1 h2
      have HE := hide (show decide (xs = ys) = R by rw [← hR]; simp)
      clear hR
      go_enter Tryz.func11, Tryz.ntmps11
      go_wp2_with fail
      refine (sameInts_any _ _ xs ys _ ((HA.out.alloc _).alloc _) ((HB.out.alloc _).alloc _)).mono ?_
      rintro e w1 ⟨rfl, hb1⟩
      go_wp2
      go_ret
      exact ⟨ret_bool HE.out, bel_trans (bel_trans (bel_alloc _ _) (bel_alloc _ _)) hb1⟩
    · have hd : (H1 == H2) = false := by simpa using h2
      have HE := hide (show false = R by rw [← hR]; simp [h2])
      subst h1
      clear hR
      go_enter Tryz.func11, Tryz.ntmps11
      go_wp2
      go_ret
      exact ⟨ret_bool HE.out, bel_trans (bel_alloc _ _) (bel_alloc _ _)⟩
  · have hd : (W1 == W2) = false := by simpa using h1
    have HE := hide (show false = R by rw [← hR]; simp [h1])
    clear hR
    go_enter Tryz.func11, Tryz.ntmps11
    go_wp2
    go_ret
    exact ⟨ret_bool HE.out, bel_trans (bel_alloc _ _) (bel_alloc _ _)⟩
end Go.Proofs.YtanebhbfekcplaaGreat

namespace Go.Proofs.YtanebhbfekcplaaGreat
open Go.RowKit
theorem all_any (w : World) : Calls Tryz.prog 61 #[] w fun e w' => ∃ r, e = .returned r ∧ IsInts w' r [2, 3, 3, 4, 4, 4, 5, 5, 5, 6, 6, 6, 7, 7, 7, 8, 8] ∧ Below w.heap.size w w' := by
  go_enter Tryz.func61, Tryz.ntmps61
  go_wp2
  go_ret
  exact ⟨_, rfl, IsInts.own (base := w.heap.size) (World.ownsRow_lit w #[.int .i64 2, .int .i64 3, .int .i64 3, .int .i64 4, .int .i64 4, .int .i64 4, .int .i64 5, .int .i64 5, .int .i64 5, .int .i64 6, .int .i64 6, .int .i64 6, .int .i64 7, .int .i64 7, .int .i64 7, .int .i64 8, .int .i64 8] 17 (Nat.le_refl _) (by decide) (by decide)) (by decide), bel_alloc _ _⟩
end Go.Proofs.YtanebhbfekcplaaGreat

namespace Go.Proofs.YtanebhbfekcplaaGreat
def idM (k : Nat) : Int := if k = 0 ∨ k = 4 ∨ k = 8 then 4096 else 0
def plainN : Plan := ⟨0, fun _ => 0, 65535, [], fun _ => 256, idM, [(0, 0), (65535, 65535)], 64⟩
def zeroN : Plan := ⟨0, fun _ => 0, 0, [], fun _ => 0, fun _ => 0, [], 0⟩
end Go.Proofs.YtanebhbfekcplaaGreat

namespace Go.Proofs.YtanebhbfekcplaaGreat
open Go.RowKit
theorem pts_lit (w : World) (ls : List Pt) (cs : Array Value) (t : TypeId) (n : Nat) (hn : ls.length = n) (hc : ∀ j, j < n → cs[j * 2]? = some (.int .i64 (ptAt ls j).1) ∧ cs[j * 2 + 1]? = some (.int .i64 (ptAt ls j).2)) (hb : n ≤ 4096) : IsPts (w.alloc (.cells cs t)) (.slice (some ⟨w.heap.size, 0, none⟩) n n) ls := by
  subst hn
  refine ⟨_, _, rfl, by omega, .inr ⟨w.heap.size, 0, rfl, by simp, fun j hj => ?_⟩⟩
  obtain ⟨h1, h2⟩ := hc j hj
  rw [Nat.zero_add]
  exact ⟨by rw [Lib.cell_of_heap (al1 w _)]; exact h1, by rw [Lib.cell_of_heap (al1 w _)]; exact h2⟩
end Go.Proofs.YtanebhbfekcplaaGreat

namespace Go.Proofs.YtanebhbfekcplaaGreat
set_option linter.unusedVariables false
open Go.RowKit
abbrev plainA (cv : Value) : Array Value := #[.int .i64 0, .int .i64 0, .int .i64 0, .int .i64 0, .int .i64 0, .int .i64 65535, .slice none 0 0, .int .i64 256, .int .i64 256, .int .i64 256, .int .i64 4096, .int .i64 0, .int .i64 0, .int .i64 0, .int .i64 4096, .int .i64 0, .int .i64 0, .int .i64 0, .int .i64 4096, cv, .int .i64 64]
theorem line2_fresh (w : World) : Calls Tryz.prog 116 #[] w fun e w' => ∃ v, e = .returned v ∧ IsPts w' v [(0, 0), (65535, 65535)] ∧ Below w.heap.size w w' ∧ Fresh w.heap.size v := by
  go_enter Tryz.func116, Tryz.ntmps116
  go_wp2
  go_ret
  refine ⟨_, rfl, pts_lit w [(0, 0), (65535, 65535)] _ _ 2 rfl (fun j hj => ?_) (by omega), bel_alloc _ _, fun b e => ?_, Nat.le_refl _⟩
  · rcases (show j = 0 ∨ j = 1 by omega) with rfl | rfl <;> exact ⟨rfl, rfl⟩
  · cases e
    exact Nat.le_refl _
set_option maxRecDepth 100000 in
set_option maxHeartbeats 1600000 in
theorem plain_any (w : World) : Calls Tryz.prog 62 #[] w fun e w' => ∃ cv, e = .returned (.agg (plainA cv)) ∧ IsPlan w' plainN (.slice none 0 0) cv ∧ Below w.heap.size w w' := by
  have a1 := al1 w (Obj.cells planZ 30)
  have hl := (Array.getElem?_eq_some_iff.1 a1).1
  have HB := hide (bel_alloc w (Obj.cells planZ 30))
  go_enter Tryz.func62, Tryz.ntmps62
  go_wp2_with fail
  refine (line2_fresh _).mono ?_
  rintro e w1 ⟨v, rfl, hv, hb, hfr⟩
  have g1 := (hb.block _ hl).trans a1
  have hB := bel_trans HB.out hb
  have HV := hide hv
  obtain ⟨co, cc, rfl, x1, x2⟩ := hv
  clear x1 x2
  have i1 : (Tryz.prog.info? 30).map (·.size) = some (plainA (.slice co 2 cc)).size := by kernel_rfl
  have i3 : (plainA (.slice co 2 cc)).all (·.oneCell') = true := by simp [Value.oneCell']
  have HX := hide (HV.out.other (k := w.heap.size) (w' := w1.setRow w.heap.size (plainA (.slice co 2 cc))) (by simp) (fun b hb => setRow_other _ _ _ _ hb) (hfr.ne hl))
  have HF := hide (below_setRow (g := w.heap.size) hB (Nat.le_refl _) (plainA (.slice co 2 cc)))
  have HG := hide (setRow_heap _ _ _ (plainA (.slice co 2 cc)) _ _ g1)
  go_wp2_with (refine wpList_store_row rfl 30 _ _ rfl w.heap.size (plainA (.slice co 2 cc)) rfl rfl _ _ g1 i1 rfl i3 ?_)
  refine bodyPost_ret (v := .agg (plainA (.slice co 2 cc))) (results_cell_row Tryz.results62 _ _ _ _ _ _ _ rfl HG.out Tryz.underlying30 rfl (by kernel_rfl)) rfl ⟨_, rfl, ⟨⟨none, 0, rfl, by decide, .inl rfl⟩, HX.out⟩, HF.out⟩
end Go.Proofs.YtanebhbfekcplaaGreat

namespace Go.Proofs.YtanebhbfekcplaaGreat
set_option linter.unusedVariables false
open Go.RowKit
theorem wpList_build_row2 {P : Program} {ops : Array Oper} {rest : List Oper} {o : Oper} {a : Act} {w : World} {Q : Exit → Act → World → Prop} (hg : o.guard = none) (t : TypeId) (parts : Array (Nat × Operand)) (ho : o.op = .build t parts) (cs : Array Value)
    (hf : P.built t (parts.map fun (i, x) => (i, a.eval x)).toList = some cs)
    (h : wpList P ops Q rest (a.put o.dst (.agg cs)) w) : wpList P ops Q (o :: rest) a w :=
  wpList_build hg t parts ho (by rw [hf]; rfl) (by rw [hf]; exact h)
theorem smallR_any (w : World) : Calls Tryz.prog 29 #[] w fun e w' => ∃ so sc, e = .returned (.agg #[.int .i64 2, .int .i64 2, .slice so 4 sc]) ∧ IsInts w' (.slice so 4 sc) [10, 65535, 0, 7] ∧ 4 ≤ sc ∧ Below w.heap.size w w' := by
  go_enter Tryz.func29, Tryz.ntmps29
  go_wp2
  have HI := hide (ints4 (w.alloc (Obj.cells #[.int .i64 2, .int .i64 2, .slice (some ⟨w.heap.size + 1, 0, none⟩) 4 4] 34)) 10 65535 0 7)
  rw [World.size_alloc] at HI
  refine bodyPost_ret (v := .agg #[.int .i64 2, .int .i64 2, .slice (some ⟨w.heap.size + 1, 0, none⟩) 4 4]) (by simp [results, Tryz.results29, go_sem]) rfl ⟨_, _, rfl, HI.out, Nat.le_refl _, bel_trans (bel_alloc _ _) (bel_alloc _ _)⟩
def fileR : RawF := ⟨2, 2, 16, 7, 1, [2, 3, 3, 4, 4, 4, 5, 5, 5, 6, 6, 6, 7, 7, 7, 8, 8], [], plainN⟩
def fileF : RawF := fillFR fileR [10, 65535, 0, 7]
theorem file_zero : fillFE fileR 2 2 [10, 65535, 0, 7] = 0 := by decide +kernel
theorem file_right : Right fileF ∧ planeZ fileF = [10, 65535, 0, 7] ∧ planeW fileF = 2 ∧ planeH fileF = 2 ∧ fileF.strips.length = 2 := by
  obtain ⟨h1, h2, _, _, h3, h4⟩ := fill_right file_zero
  exact ⟨h1, h2, h3, h4, by rw [fileF, fillFR, fiS_length]; decide⟩
set_option maxRecDepth 100000 in
set_option maxHeartbeats 3200000 in
theorem file_any (w : World) : Calls Tryz.prog 28 #[] w fun e w' => ∃ lv tv sv cv, e = .returned (.agg (rawA fileF lv tv sv cv)) ∧ IsRaw w' fileF lv tv sv cv ∧ Below w.heap.size w w' := by
  have a1 := al1 w (Obj.cells rawZ 32)
  have HB := hide (bel_alloc w (Obj.cells rawZ 32))
  have hl1 := (Array.getElem?_eq_some_iff.1 a1).1
  have iz : (Tryz.prog.info? 32).map (·.size) = some (rawZ : Array Value).size := by kernel_rfl
  go_enter Tryz.func28, Tryz.ntmps28
  go_wp2_with fail
  generalize w.alloc (Obj.cells rawZ 32) = U at *
  refine (all_any U).mono ?_
  rintro e V1 ⟨lv, rfl, hI1, hb1⟩
  have HI1 := hide hI1
  obtain ⟨lo, lc, rfl, hx3, hx4⟩ := hI1
  clear hx3 hx4
  go_wp2_with fail
  refine (plain_any V1).mono ?_
  rintro e V2 ⟨cv, rfl, hP, hb2⟩
  have HP := hide hP
  obtain ⟨ko, kc, rfl, hx1, hx2⟩ := hP.curve
  clear hP hx1 hx2
  rw [show plainN.curve.length = 2 from rfl] at HP ⊢
  rw [show ([2, 3, 3, 4, 4, 4, 5, 5, 5, 6, 6, 6, 7, 7, 7, 8, 8] : List Int).length = 17 from rfl] at HI1
  obtain ⟨RA, hRA⟩ : ∃ RA : Array Value, #[.int .i64 2, .int .i64 2, .int .i64 16, .int .i64 7, .int .i64 1, .slice lo 17 lc, .slice none 0 0, .int .i64 0, .int .i64 0, .int .i64 0, .int .i64 0, .int .i64 0, .int .i64 65535, .slice none 0 0, .int .i64 256, .int .i64 256, .int .i64 256, .int .i64 4096, .int .i64 0, .int .i64 0, .int .i64 0, .int .i64 4096, .int .i64 0, .int .i64 0, .int .i64 0, .int .i64 4096, .slice ko 2 kc, .int .i64 64] = RA := ⟨_, rfl⟩
  have hbu : Tryz.prog.built 32 [(0, .int .i64 2), (1, .int .i64 2), (2, .int .i64 16), (3, .int .i64 7), (4, .int .i64 1), (5, .slice lo 17 lc), (7, .agg (plainA (.slice ko 2 kc)))] = some RA := by rw [← hRA]; kernel_rfl
  have HRW := hide (show rawA fileR (.slice lo 17 lc) (.slice none 0 0) (.slice none 0 0) (.slice ko 2 kc) = RA from hRA)
  have HIR := hide (show IsRaw V2 fileR (.slice lo 17 lc) (.slice none 0 0) (.slice none 0 0) (.slice ko 2 kc) from ⟨HI1.out.below hb2 (Nat.le_refl _), IsStrs.nil _, HP.out.spots, HP.out.curve⟩)
  clear hRA
  dsimp only
  rename_i hKK
  refine hKK _ _ ?_
  clear hKK
  refine wpList_build_row2 rfl 32 _ rfl RA ?hf ?_
  case hf => exact Eq.trans (congrArg (Tryz.prog.built 32) (by kernel_rfl)) hbu
  simp only [Act.put, List.setIfInBounds_toArray, List.set_cons_succ, List.set_cons_zero]
  clear hbu
  go_wp2_with fail
  refine (smallR_any V2).mono ?_
  rintro e V3 ⟨so, sc, rfl, hI3, hr3, hb3⟩
  have HF := hide (rawFill_any fileR _ _ _ _ 2 2 (.slice so 4 sc) [10, 65535, 0, 7] V3 (HIR.out.below hb3 (Nat.le_refl _)) hI3 hr3)
  rw [HRW.out] at HF
  have hbU := bel_trans (bel_trans hb1 hb2) hb3
  clear hI3 hr3 hb3 hb1 hb2
  go_wp2_with fail
  refine (HF.out).mono ?_
  rintro e V4 ⟨hb4, hc⟩
  rcases hc with ⟨_, lv', tv', sv', cv', rfl, hI, f1, f2, f3, f4⟩ | ⟨hn, _⟩
  rotate_left
  · exact absurd file_zero hn
  have HO := hide (raw_one hI)
  have i1 : (Tryz.prog.info? 32).map (·.size) = some (rawA (fillFR fileR [10, 65535, 0, 7]) lv' tv' sv' cv').size := by kernel_rfl
  obtain ⟨RB, hRB⟩ : ∃ RB, rawA (fillFR fileR [10, 65535, 0, 7]) lv' tv' sv' cv' = RB := ⟨_, rfl⟩
  rw [hRB] at i1 HO ⊢
  have HRB := hide hRB
  have z1 := al1 V4 (Obj.cells rawZ 32)
  have i2 : (rawZ : Array Value).size = RB.size := by rw [← hRB]; rfl
  have c1 := setRow_heap _ _ _ RB _ _ z1
  have HBX := hide (below_setRow (g := V4.heap.size) (bel_alloc V4 (Obj.cells rawZ 32)) (Nat.le_refl _) RB)
  have hos := HO.out
  have hbV := bel_trans hbU hb4
  have hV3 := hbU.size
  clear hRB
  go_upto_region 2 with (refine wpList_store_row rfl 32 _ _ rfl V4.heap.size RB rfl rfl _ _ z1 i1 i2 hos ?_)
  clear z1
  have g1 : ((V4.alloc (Obj.cells rawZ 32)).setRow V4.heap.size RB).heap[w.heap.size]? = some (.cells rawZ 32 (0, 0)) := ((hbV.trans (HBX.out.mono hbV.size)).block _ hl1).trans a1
  have HBF0 := hide (bel_trans (bel_trans HB.out hbV) HBX.out)
  have HI4 := hide (hI.below HBX.out (Nat.le_refl _))
  generalize (V4.alloc (Obj.cells rawZ 32)).setRow V4.heap.size RB = V5 at *
  have HG := hide (setRow_heap _ _ _ RB _ _ g1)
  have HBF := hide (below_setRow (g := w.heap.size) HBF0.out (Nat.le_refl _) RB)
  have hw3 : w.heap.size < V3.heap.size := Nat.lt_of_lt_of_le hl1 hV3
  have HIF := hide (HI4.out.other (k := w.heap.size) (w' := V5.setRow w.heap.size RB) (B := V3.heap.size) (by simp) (fun b hb => setRow_other _ _ _ _ hb) hw3 f1 f2 f3 f4)
  clear f1 f2 f3 f4 hI
  go_wp2_with (first | refine wpList_load_row rfl 32 _ rfl _ rfl _ _ _ _ c1 Tryz.underlying32 rfl i1 ?_ | refine wpList_store_row rfl 32 _ _ rfl w.heap.size RB rfl rfl _ _ g1 i1 i2 hos ?_)
  refine bodyPost_ret (v := .agg RB) (results_cell_row Tryz.results28 _ _ _ _ _ _ _ rfl HG.out Tryz.underlying32 rfl i1) rfl ⟨_, _, _, _, by rw [← HRB.out]; rfl, HIF.out, HBF.out⟩
theorem file_len {tv : Value} {lv sv cv : Value} {w : World} (h : IsRaw w fileF lv tv sv cv) : ∃ tn tc, tv = .slice tn 2 tc := by
  obtain ⟨tn, tc, h1, _⟩ := h.strips
  rw [file_right.2.2.2.2] at h1
  exact ⟨tn, tc, h1⟩
set_option maxRecDepth 100000 in
set_option maxHeartbeats 6400000 in
theorem rawBegun_any (w : World) : Calls Tryz.prog 9 #[] w fun e w' => e = .returned (.bool true) ∧ Below w.heap.size w w' := by
  obtain ⟨hR, hZ, hW, hH, hL⟩ := file_right
  have HR := hide hR
  have HZ := hide hZ
  have HPE := hide hR.zero
  have HRS := hide (show rawS fileF = rawW fileF by rw [rawS, if_pos hR.zero])
  have HRD := hide (rd_of_right hR)
  have HBL := hide (show (rawW fileF).length ≤ 140737488355328 by decide +kernel)
  have iz : (Tryz.prog.info? 32).map (·.size) = some (rawZ : Array Value).size := by kernel_rfl
  clear hR hZ hL
  have HFA := hide (fun u => file_any u)
  generalize hFF : fileF = FF at *
  have HFF := hide hFF
  clear hFF
  go_enter Tryz.func9, Tryz.ntmps9
  go_wp2_with fail
  refine (HFA.out w).mono ?_
  rintro e V1 ⟨lv, tv, sv, cv, rfl, hI, hb1⟩
  have HC := hide (rawPlane_any FF lv tv sv cv V1 hI)
  rw [hW, hH, HPE.out, HZ.out] at HC
  obtain ⟨RA, hRA⟩ : ∃ RA, rawA FF lv tv sv cv = RA := ⟨_, rfl⟩
  rw [hRA] at HC ⊢
  clear hRA hI
  go_wp2_with fail
  refine (HC.out).mono ?_
  rintro e V2 ⟨pv, rfl, hp, hb2, _⟩
  have HP := hide hp
  obtain ⟨po, pc, rfl, _, _⟩ := hp
  rw [show ([10, 65535, 0, 7] : List Int).length = 4 from rfl] at HP ⊢
  have B1 := al1 V2 (Obj.cells #[.int .i64 2, .int .i64 2, .slice po 4 pc] 34)
  have hb3 := bel_trans (bel_trans hb1 hb2) (bel_alloc V2 (Obj.cells #[.int .i64 2, .int .i64 2, .slice po 4 pc] 34))
  replace HP := hide (HP.out.alloc (Obj.cells #[.int .i64 2, .int .i64 2, .slice po 4 pc] 34))
  clear hb1 hb2 HC
  go_wp2_with fail
  generalize V2.alloc (Obj.cells #[.int .i64 2, .int .i64 2, .slice po 4 pc] 34) = U1 at *
  generalize V2.heap.size = PB at *
  have l1 := (Array.getElem?_eq_some_iff.1 B1).1
  refine (HFA.out U1).mono ?_
  rintro e V3 ⟨lv, tv, sv, cv, rfl, hI, hb4⟩
  have HC := hide (rawWrite_any FF lv tv sv cv V3 hI)
  rw [HRS.out, HPE.out] at HC
  obtain ⟨RB, hRB⟩ : ∃ RB, rawA FF lv tv sv cv = RB := ⟨_, rfl⟩
  rw [hRB] at HC ⊢
  clear hRB hI
  go_wp2_with fail
  refine (HC.out).mono ?_
  rintro e V4 ⟨rfl, hb5⟩
  have hb6 := bel_trans hb4 hb5
  replace HP := hide (HP.out.below hb6 (Nat.le_refl _))
  replace B1 := (hb6.block _ l1).trans B1
  replace hb3 := bel_trans hb3 hb6
  replace l1 := (Array.getElem?_eq_some_iff.1 B1).1
  clear hb4 hb5 hb6 HC
  have HC := hide (rawRead_any (rawW FF) V4 HBL.out)
  obtain ⟨SS, hSS⟩ : ∃ SS, str (rawW FF) = SS := ⟨_, rfl⟩
  rw [hSS] at HC ⊢
  clear hSS
  go_wp2_with fail
  refine (HC.out).mono ?_
  rintro e V5 ⟨hb7, hc⟩
  rcases hc with ⟨r', lv, tv, sv, cv, hrd, rfl, hI, f1, f2, f3, f4⟩ | ⟨hrd, _⟩
  rotate_left
  · rw [HRD.out] at hrd; cases hrd
  rw [HRD.out] at hrd
  cases hrd
  have hI := isRaw_nrm.1 hI
  have HO := hide (raw_one hI)
  have i1 : (Tryz.prog.info? 32).map (·.size) = some (rawA FF lv tv sv cv).size := by kernel_rfl
  rw [rawA_nrm]
  obtain ⟨RC, hRC⟩ : ∃ RC, rawA FF lv tv sv cv = RC := ⟨_, rfl⟩
  rw [hRC] at i1 HO ⊢
  have HRC := hide hRC
  have z1 := al1 V5 (Obj.cells rawZ 32)
  have i2 : (rawZ : Array Value).size = RC.size := by rw [← hRC]; rfl
  have c1 := setRow_heap _ _ _ RC _ _ z1
  have HBX := hide (below_setRow (g := V5.heap.size) (bel_alloc V5 (Obj.cells rawZ 32)) (Nat.le_refl _) RC)
  have hos := HO.out
  have hb8 := bel_trans hb7 HBX.out
  clear hRC f1 f2 f3 f4
  go_upto_region 4 with (refine wpList_store_row rfl 32 _ _ rfl V5.heap.size RC rfl rfl _ _ z1 i1 i2 hos ?_)
  try simp only [Act.put]
  clear z1
  have HI5 := hide (hI.below HBX.out (Nat.le_refl _))
  replace HP := hide (HP.out.below hb8 (Nat.le_refl _))
  replace B1 := (hb8.block _ l1).trans B1
  have HBW := hide (bel_trans hb3 hb8)
  clear hb3 hb7 hb8 hI HBX
  generalize (V5.alloc (Obj.cells rawZ 32)).setRow V5.heap.size RC = U at *
  generalize V5.heap.size = RX at *
  replace l1 := (Array.getElem?_eq_some_iff.1 B1).1
  have l2 := (Array.getElem?_eq_some_iff.1 c1).1
  have HS := hide (show ∀ v, Below U.heap.size U v → (v.cell? ⟨PB, 0, none⟩ = some (.int .i64 2) ∧ v.cell? ⟨PB, 1, none⟩ = some (.int .i64 2) ∧ v.cell? ⟨PB, 2, none⟩ = some (.slice po 4 pc)) ∧ v.heap[RX]? = some (.cells RC 32 (0, 0)) from fun v h => ⟨cells3 ((h.block _ l1).trans B1), (h.block _ l2).trans c1⟩)
  have hWd : Below U.heap.size U U.drew := (Below.refl _ _).drew
  have hSd := HS.out _ hWd
  generalize Value.agg RA = g1
  generalize Value.agg RB = g2
  have HTL := hide (fun (tv lv sv cv : Value) (u : World) (h : IsRaw u FF lv tv sv cv) => show ∃ tn tc, tv = .slice tn 2 tc from file_len (w := u) (lv := lv) (sv := sv) (cv := cv) (HFF.out.symm ▸ h))
  have hmx : Tryz.prog.follows .mixedOrders = true := by kernel_rfl
  refine wp_region_last (S := (fun v : World => (v.cell? ⟨PB, 0, none⟩ = some (.int .i64 2) ∧ v.cell? ⟨PB, 1, none⟩ = some (.int .i64 2) ∧ v.cell? ⟨PB, 2, none⟩ = some (.slice po 4 pc)) ∧ v.heap[RX]? = some (.cells RC 32 (0, 0)))) (f := 31) hmx ?_
  show wpAnyF _ _ _ _ _ _ 32 _ _ U.drew
  refine wpAnyF_takeP (i := 0) (oi := _) (v := ?vv1) (some 22) [] rfl rfl (by kernel_rfl) (by kernel_rfl) (by kernel_rfl) (by kernel_rfl) (by kernel_rfl) (fun _ _ _ h => h) (Or.inl ⟨by rfl, ?yy1⟩) hSd ?rr1
  case yy1 => (intro wq hSq; obtain ⟨⟨_, _, _⟩, hq4⟩ := hSq; go_simp <;> with_reducible rfl)
  simp only [Act.put, List.setIfInBounds_toArray, List.set_cons_succ, List.set_cons_zero]
  refine wpAnyF_takeP (i := 1) (oi := _) (v := ?vv2) (some 23) [] rfl rfl (by kernel_rfl) (by kernel_rfl) (by kernel_rfl) (by kernel_rfl) (by kernel_rfl) (fun _ _ _ h => h) (Or.inl ⟨by rfl, ?yy2⟩) hSd ?rr2
  case yy2 => (intro wq hSq; obtain ⟨⟨_, _, _⟩, hq4⟩ := hSq; go_simp <;> with_reducible rfl)
  simp only [Act.put, List.setIfInBounds_toArray, List.set_cons_succ, List.set_cons_zero]
  refine wpAnyF_takeP (i := 2) (oi := _) (v := ?vv3) (some 24) [] rfl rfl (by kernel_rfl) (by kernel_rfl) (by kernel_rfl) (by kernel_rfl) (by kernel_rfl) (fun _ _ _ h => h) (Or.inl ⟨by rfl, ?yy3⟩) hSd ?rr3
  case yy3 => (intro wq hSq; obtain ⟨⟨_, _, _⟩, hq4⟩ := hSq; go_simp <;> with_reducible rfl)
  simp only [Act.put, List.setIfInBounds_toArray, List.set_cons_succ, List.set_cons_zero]
  refine wpAnyF_takeP (i := 3) (oi := _) (v := ?vv4) (some 25) [] rfl rfl (by kernel_rfl) (by kernel_rfl) (by kernel_rfl) (by kernel_rfl) (by kernel_rfl) (fun _ _ _ h => h) (Or.inl ⟨by rfl, ?yy4⟩) hSd ?rr4
  case yy4 => (intro wq hSq; obtain ⟨⟨_, _, _⟩, hq4⟩ := hSq; go_simp <;> with_reducible rfl)
  simp only [Act.put, List.setIfInBounds_toArray, List.set_cons_succ, List.set_cons_zero]
  refine wpAnyF_takeP (i := 4) (oi := _) (v := ?vv5) (some 26) [] rfl rfl (by kernel_rfl) (by kernel_rfl) (by kernel_rfl) (by kernel_rfl) (by kernel_rfl) (fun _ _ _ h => h) (Or.inl ⟨by rfl, ?yy5⟩) hSd ?rr5
  case yy5 => (intro wq hSq; obtain ⟨⟨_, _, _⟩, hq4⟩ := hSq; go_simp <;> with_reducible rfl)
  simp only [Act.put, List.setIfInBounds_toArray, List.set_cons_succ, List.set_cons_zero]
  refine wpAnyF_takeP (i := 5) (oi := _) (v := ?vv6) (some 27) [] rfl rfl (by kernel_rfl) (by kernel_rfl) (by kernel_rfl) (by kernel_rfl) (by kernel_rfl) (fun _ _ _ h => h) (Or.inl ⟨by rfl, ?yy6⟩) hSd ?rr6
  case yy6 => (intro wq hSq; obtain ⟨⟨_, _, _⟩, hq4⟩ := hSq; go_simp <;> with_reducible rfl)
  simp only [Act.put, List.setIfInBounds_toArray, List.set_cons_succ, List.set_cons_zero]
  refine wpAnyF_takeP (i := 6) (oi := _) (v := ?vv7) (some 28) [] rfl rfl (by kernel_rfl) (by kernel_rfl) (by kernel_rfl) (by kernel_rfl) (by kernel_rfl) (fun _ _ _ h => h) (Or.inl ⟨by rfl, ?yy7⟩) hSd ?rr7
  case yy7 => (intro wq hSq; obtain ⟨⟨_, _, _⟩, hq4⟩ := hSq; go_simp <;> with_reducible rfl)
  simp only [Act.put, List.setIfInBounds_toArray, List.set_cons_succ, List.set_cons_zero]
  refine wpAnyF_takeP (i := 7) (oi := _) (v := ?vv8) (some 29) [] rfl rfl (by kernel_rfl) (by kernel_rfl) (by kernel_rfl) (by kernel_rfl) (by kernel_rfl) (fun _ _ _ h => h) (Or.inl ⟨by rfl, ?yy8⟩) hSd ?rr8
  case yy8 => (intro wq hSq; obtain ⟨⟨_, _, _⟩, hq4⟩ := hSq; go_simp <;> with_reducible rfl)
  simp only [Act.put, List.setIfInBounds_toArray, List.set_cons_succ, List.set_cons_zero]
  refine wpAnyF_takeP (i := 8) (oi := _) (v := ?vv9) (some 30) [] rfl rfl (by kernel_rfl) (by kernel_rfl) (by kernel_rfl) (by kernel_rfl) (by kernel_rfl) (fun _ _ _ h => h) (Or.inl ⟨by rfl, ?yy9⟩) hSd ?rr9
  case yy9 => (intro wq hSq; obtain ⟨⟨_, _, _⟩, hq4⟩ := hSq; go_simp <;> with_reducible rfl)
  simp only [Act.put, List.setIfInBounds_toArray, List.set_cons_succ, List.set_cons_zero]
  refine wpAnyF_takeP (i := 9) (oi := _) (v := ?vv10) (some 31) [] rfl rfl (by kernel_rfl) (by kernel_rfl) (by kernel_rfl) (by kernel_rfl) (by kernel_rfl) (fun _ _ _ h => h) (Or.inl ⟨by rfl, ?yy10⟩) hSd ?rr10
  case yy10 => (intro wq hSq; obtain ⟨⟨_, _, _⟩, hq4⟩ := hSq; go_simp <;> with_reducible rfl)
  simp only [Act.put, List.setIfInBounds_toArray, List.set_cons_succ, List.set_cons_zero]
  refine wpAnyF_takeP (i := 10) (oi := _) (v := ?vv11) (some 32) [] rfl rfl (by kernel_rfl) (by kernel_rfl) (by kernel_rfl) (by kernel_rfl) (by kernel_rfl) (fun _ _ _ h => h) (Or.inl ⟨by rfl, ?yy11⟩) hSd ?rr11
  case yy11 => (intro wq hSq; obtain ⟨⟨_, _, _⟩, hq4⟩ := hSq; go_simp <;> with_reducible rfl)
  simp only [Act.put, List.setIfInBounds_toArray, List.set_cons_succ, List.set_cons_zero]
  refine wpAnyF_one (i := 11) (o := _) (by kernel_rfl) rfl (fun K' hK => ?_)
  rw [if_pos (by rfl)]
  go_simp
  refine (HFA.out _).mono ?_
  rintro e Y1 ⟨lw, tw, sw, cw, rfl, hJ, hbv⟩
  have hY1 : Below U.heap.size U Y1 := bel_trans hWd hbv
  have HJ := hide hJ
  obtain ⟨tn, tc, rfl⟩ := HTL.out _ _ _ _ _ hJ
  clear hJ hbv
  have hSd := HS.out _ hY1
  refine hK.out _ _ hSd ?_
  clear hK
  try simp only [Act.put]
  refine wpAnyF_one (i := 12) (o := _) (by kernel_rfl) rfl (fun K' hK => ?_)
  have HCK := hide (rawCheck_any FF lw (.slice tn 2 tc) sw cw Y1 HJ.out)
  rw [HPE.out] at HCK
  obtain ⟨RD, hRD⟩ : ∃ RD, rawA FF lw (.slice tn 2 tc) sw cw = RD := ⟨_, rfl⟩
  rw [hRD] at HCK ⊢
  clear hRD
  rw [if_pos (by rfl)]
  go_simp
  refine (HCK.out).mono ?_
  rintro e Y2 ⟨rfl, hbv⟩
  have hY2 : Below U.heap.size U Y2 := bel_trans hY1 hbv
  clear hbv
  generalize Value.agg RD = g3
  clear HCK HJ
  have hSd := HS.out _ hY2
  refine hK.out _ _ hSd ?_
  clear hK
  try simp only [Act.put]
  refine wpAnyF_takeP (i := 13) (oi := _) (v := ?vv12) (some 35) [] rfl rfl (by kernel_rfl) (by kernel_rfl) (by kernel_rfl) (by kernel_rfl) (by kernel_rfl) (fun _ _ _ h => h) (Or.inl ⟨by rfl, ?yy12⟩) hSd ?rr12
  case yy12 => (intro wq hSq; obtain ⟨⟨_, _, _⟩, hq4⟩ := hSq; go_simp <;> with_reducible rfl)
  simp only [Act.put, List.setIfInBounds_toArray, List.set_cons_succ, List.set_cons_zero]
  refine wpAnyF_takeP (i := 14) (oi := _) (v := ?vv13) (some 36) [] rfl rfl (by kernel_rfl) (by kernel_rfl) (by kernel_rfl) (by kernel_rfl) (by kernel_rfl) (fun _ _ _ h => h) (Or.inl ⟨by rfl, ?yy13⟩) hSd ?rr13
  case yy13 => (intro wq hSq; obtain ⟨⟨_, _, _⟩, hq4⟩ := hSq; go_simp <;> with_reducible rfl)
  simp only [Act.put, List.setIfInBounds_toArray, List.set_cons_succ, List.set_cons_zero]
  refine wpAnyF_takeP (i := 15) (oi := _) (v := ?vv14) (some 37) [] rfl rfl (by kernel_rfl) (by kernel_rfl) (by kernel_rfl) (by kernel_rfl) (by kernel_rfl) (fun _ _ _ h => h) (Or.inl ⟨by rfl, ?yy14⟩) hSd ?rr14
  case yy14 => (intro wq hSq; obtain ⟨⟨_, _, _⟩, hq4⟩ := hSq; go_simp <;> with_reducible rfl)
  simp only [Act.put, List.setIfInBounds_toArray, List.set_cons_succ, List.set_cons_zero]
  refine wpAnyF_one (i := 16) (o := _) (by kernel_rfl) rfl (fun K' hK => ?_)
  rw [if_pos (by rfl)]
  go_simp
  refine (HFA.out _).mono ?_
  rintro e Y3 ⟨lw, tw, sw, cw, rfl, hJ, hbv⟩
  have hY3 : Below U.heap.size U Y3 := bel_trans hY2 hbv
  have HJ := hide hJ
  obtain ⟨tn, tc, rfl⟩ := HTL.out _ _ _ _ _ hJ
  clear hJ hbv
  have hfd : ∀ V : World, (Instr.field 32 (.agg (rawA FF lw (.slice tn 2 tc) sw cw)) 6).run Tryz.prog V = .ok (.slice tn 2 tc) V := fun V => by kernel_rfl
  obtain ⟨RD, hRD⟩ : ∃ RD, rawA FF lw (.slice tn 2 tc) sw cw = RD := ⟨_, rfl⟩
  rw [hRD] at hfd ⊢
  clear hRD
  have hSd := HS.out _ hY3
  refine hK.out _ _ hSd ?_
  clear hK
  try simp only [Act.put]
  refine wpAnyF_takeP (i := 17) (oi := _) (v := ?vv15) (some 39) [] rfl rfl (by kernel_rfl) (by kernel_rfl) (by kernel_rfl) (by kernel_rfl) (by kernel_rfl) (fun _ _ _ h => h) (Or.inl ⟨by rfl, ?yy15⟩) hSd ?rr15
  case yy15 => (intro wq hSq; obtain ⟨⟨_, _, _⟩, hq4⟩ := hSq; go_simp <;> with_reducible rfl)
  simp only [Act.put, List.setIfInBounds_toArray, List.set_cons_succ, List.set_cons_zero]
  refine wpAnyF_takeP (i := 18) (oi := _) (v := ?vv16) (some 40) [] rfl rfl (by kernel_rfl) (by kernel_rfl) (by kernel_rfl) (by kernel_rfl) (by kernel_rfl) (fun _ _ _ h => h) (Or.inl ⟨by rfl, ?yy16⟩) hSd ?rr16
  case yy16 => (intro wq hSq; obtain ⟨⟨_, _, _⟩, hq4⟩ := hSq; go_simp <;> with_reducible rfl)
  simp only [Act.put, List.setIfInBounds_toArray, List.set_cons_succ, List.set_cons_zero]
  refine wpAnyF_takeP (i := 19) (oi := _) (v := ?vv17) (some 41) [] rfl rfl (by kernel_rfl) (by kernel_rfl) (by kernel_rfl) (by kernel_rfl) (by kernel_rfl) (fun _ _ _ h => h) (Or.inl ⟨by rfl, ?yy17⟩) hSd ?rr17
  case yy17 => (intro wq hSq; obtain ⟨⟨_, _, _⟩, hq4⟩ := hSq; go_simp <;> with_reducible rfl)
  simp only [Act.put, List.setIfInBounds_toArray, List.set_cons_succ, List.set_cons_zero]
  refine wpAnyF_takeP (i := 20) (oi := _) (v := ?vv18) (some 42) [] rfl rfl (by kernel_rfl) (by kernel_rfl) (by kernel_rfl) (by kernel_rfl) (by kernel_rfl) (fun _ _ _ h => h) (Or.inl ⟨by rfl, ?yy18⟩) hSd ?rr18
  case yy18 => (intro wq hSq; obtain ⟨⟨_, _, _⟩, hq4⟩ := hSq; go_simp <;> with_reducible rfl)
  simp only [Act.put, List.setIfInBounds_toArray, List.set_cons_succ, List.set_cons_zero]
  refine wpAnyF_takeP (i := 21) (oi := _) (v := ?vv19) (some 43) [] rfl rfl (by kernel_rfl) (by kernel_rfl) (by kernel_rfl) (by kernel_rfl) (by kernel_rfl) (fun _ _ _ h => h) (Or.inl ⟨by rfl, ?yy19⟩) hSd ?rr19
  case yy19 => (intro wq hSq; obtain ⟨⟨_, _, _⟩, hq4⟩ := hSq; go_simp <;> with_reducible rfl)
  simp only [Act.put, List.setIfInBounds_toArray, List.set_cons_succ, List.set_cons_zero]
  refine wpAnyF_takeP (i := 22) (oi := _) (v := ?vv20) (some 44) [] rfl rfl (by kernel_rfl) (by kernel_rfl) (by kernel_rfl) (by kernel_rfl) (by kernel_rfl) (fun _ _ _ h => h) (Or.inl ⟨by rfl, ?yy20⟩) hSd ?rr20
  case yy20 => (intro wq hSq; obtain ⟨⟨_, _, _⟩, hq4⟩ := hSq; go_simp <;> with_reducible rfl)
  simp only [Act.put, List.setIfInBounds_toArray, List.set_cons_succ, List.set_cons_zero]
  refine wpAnyF_one (i := 23) (o := _) (by kernel_rfl) rfl (fun K' hK => ?_)
  rw [if_pos (by rfl)]
  go_simp
  refine (smallR_any _).mono ?_
  rintro e Y4 ⟨so, sc, rfl, hI4, _, hbv⟩
  have hY4 : Below U.heap.size U Y4 := bel_trans hY3 hbv
  have HI4 := hide hI4
  clear hI4 hbv hfd
  have hSd := HS.out _ hY4
  refine hK.out _ _ hSd ?_
  clear hK
  try simp only [Act.put]
  refine wpAnyF_one (i := 24) (o := _) (by kernel_rfl) rfl (fun K' hK => ?_)
  rw [if_pos (by rfl)]
  go_simp
  refine (samePlanes_any 2 2 2 2 _ _ [10, 65535, 0, 7] [10, 65535, 0, 7] Y4 (HP.out.below hY4 (Nat.le_refl _)) HI4.out).mono ?_
  rintro e Y5 ⟨rfl, hbv⟩
  have hY5 : Below U.heap.size U Y5 := bel_trans hY4 hbv
  clear hbv
  rw [show decide ((2 : Int) = 2 ∧ (2 : Int) = 2 ∧ ([10, 65535, 0, 7] : List Int) = [10, 65535, 0, 7]) = true by decide]
  have hSd := HS.out _ hY5
  refine hK.out _ _ hSd ?_
  clear hK
  try simp only [Act.put]
  refine wpAnyF_takeP (i := 25) (oi := _) (v := ?vv21) (some 47) [] rfl rfl (by kernel_rfl) (by kernel_rfl) (by kernel_rfl) (by kernel_rfl) (by kernel_rfl) (fun _ _ _ h => h) (Or.inl ⟨by rfl, ?yy21⟩) hSd ?rr21
  case yy21 => (intro wq hSq; obtain ⟨⟨_, _, _⟩, hq4⟩ := hSq; go_simp <;> with_reducible rfl)
  simp only [Act.put, List.setIfInBounds_toArray, List.set_cons_succ, List.set_cons_zero]
  refine wpAnyF_takeP (i := 26) (oi := _) (v := ?vv22) (some 48) [] rfl rfl (by kernel_rfl) (by kernel_rfl) (by kernel_rfl) (by kernel_rfl) (by kernel_rfl) (fun _ _ _ h => h) (Or.inl ⟨by rfl, ?yy22⟩) hSd ?rr22
  case yy22 => (intro wq hSq; obtain ⟨⟨_, _, _⟩, hq4⟩ := hSq; go_simp <;> with_reducible rfl)
  simp only [Act.put, List.setIfInBounds_toArray, List.set_cons_succ, List.set_cons_zero]
  refine wpAnyF_takeP (i := 27) (oi := _) (v := .agg RC) (some 49) [] rfl rfl (by kernel_rfl) (by kernel_rfl) (by kernel_rfl) (by kernel_rfl) (by kernel_rfl) (fun _ _ _ h => h) (Or.inl ⟨by rfl, ?yy23⟩) hSd ?rr23
  case yy23 => (intro wq hSq; obtain ⟨⟨_, _, _⟩, hq4⟩ := hSq; exact exec_row 32 _ rfl _ rfl _ _ _ _ hq4 Tryz.underlying32 rfl i1)
  simp only [Act.put, List.setIfInBounds_toArray, List.set_cons_succ, List.set_cons_zero]
  refine wpAnyF_one (i := 28) (o := _) (by kernel_rfl) rfl (fun K' hK => ?_)
  rw [if_pos (by rfl)]
  go_simp
  refine (HFA.out _).mono ?_
  rintro e Y6 ⟨lw, tw, sw, cw, rfl, hJ, hbv⟩
  have hY6 : Below U.heap.size U Y6 := bel_trans hY5 hbv
  have HJ := hide hJ
  obtain ⟨tn, tc, rfl⟩ := HTL.out _ _ _ _ _ hJ
  clear hJ hbv
  have hSd := HS.out _ hY6
  refine hK.out _ _ hSd ?_
  clear hK
  try simp only [Act.put]
  refine wpAnyF_one (i := 29) (o := _) (by kernel_rfl) rfl (fun K' hK => ?_)
  have HCK := hide (sameRaws_same FF lv tv sv cv lw (.slice tn 2 tc) sw cw Y6 (HI5.out.below hY6 (Nat.le_refl _)) HJ.out)
  rw [HRC.out] at HCK
  obtain ⟨RE, hRE⟩ : ∃ RE, rawA FF lw (.slice tn 2 tc) sw cw = RE := ⟨_, rfl⟩
  rw [hRE] at HCK ⊢
  clear hRE
  rw [if_pos (by rfl)]
  go_simp
  refine (HCK.out).mono ?_
  rintro e Y7 ⟨rfl, hbv⟩
  have hY7 : Below U.heap.size U Y7 := bel_trans hY6 hbv
  clear hbv
  clear HCK HJ
  have hSd := HS.out _ hY7
  refine hK.out _ _ hSd ?_
  clear hK
  try simp only [Act.put]
  refine wpAnyF_takeP (i := 30) (oi := _) (v := ?vv24) (some 52) [] rfl rfl (by kernel_rfl) (by kernel_rfl) (by kernel_rfl) (by kernel_rfl) (by kernel_rfl) (fun _ _ _ h => h) (Or.inl ⟨by rfl, ?yy24⟩) hSd ?rr24
  case yy24 => (intro wq hSq; obtain ⟨⟨_, _, _⟩, hq4⟩ := hSq; go_simp <;> with_reducible rfl)
  simp only [Act.put, List.setIfInBounds_toArray, List.set_cons_succ, List.set_cons_zero]
  refine wpAnyF_last (o := _) (by kernel_rfl) rfl (fun K' hK => ?_)
  rw [if_pos (by rfl)]
  go_simp
  refine hK.out _ _ ?_
  clear hK
  refine wpAnyF_done (by kernel_rfl) ?_ _
  try simp only [Act.put]
  clear hSd
  go_wp2
  go_ret
  exact ⟨rfl, bel_trans HBW.out hY7⟩
end Go.Proofs.YtanebhbfekcplaaGreat

namespace Go.Proofs.YtanebhbfekcplaaGreat
set_option linter.unusedVariables false
open Go.RowKit
def shalB (d : Int) (xs : List Int) : Bool := xs.all fun n => decide (n ≤ 2 ^ d.toNat - 1)
theorem shalB_eq {d : Int} {xs : List Int} (h : ∀ x ∈ xs, 0 ≤ x) : shalB d xs = deepOk d xs := by
  unfold shalB deepOk allIn
  induction xs with
  | nil => rfl
  | cons x xs ih =>
    have h0 := h x (by simp)
    rw [List.all_cons, List.all_cons, ih (fun y hy => h y (by simp [hy]))]
    congr 1
    exact decide_eq_decide.2 ⟨fun h => ⟨h0, h⟩, fun h => h.2⟩
theorem shalB_false {d : Int} {xs : List Int} {k : Nat} (hk : k < xs.length) (h : ¬ xs[k] ≤ 2 ^ d.toNat - 1) : shalB d xs = false := by
  rw [Bool.eq_false_iff]; intro he
  exact h (of_decide_eq_true (List.all_eq_true.1 he _ (List.getElem_mem hk)))
theorem shalB_take {d : Int} {xs : List Int} {k : Nat} (hk : k < xs.length) (h : shalB d (xs.take k) = true) (h2 : xs[k] ≤ 2 ^ d.toNat - 1) : shalB d (xs.take (k + 1)) = true := by
  unfold shalB at h ⊢
  rw [List.take_succ_eq_append_getElem hk, List.all_append, h]
  simp [h2]
set_option maxRecDepth 100000 in
set_option maxHeartbeats 1600000 in
theorem shallow_any (v : Value) (xs : List Int) (d : Int) (w : World) (hd : 1 ≤ d ∧ d ≤ 16) (hv : IsInts w v xs) :
    Calls Tryz.prog 36 #[v, .int .i64 d] w fun e w' => e = .returned (.bool (shalB d xs)) ∧ Below w.heap.size w w' := by
  obtain ⟨q1, q2, q3⟩ := shl_pow hd
  obtain ⟨ao, ca, rfl, hxl, hc⟩ := hv
  have HSF := hide (fun k (hk : k < xs.length) (h : ¬ xs[k] ≤ 2 ^ d.toNat - 1) => shalB_false (d := d) hk h)
  have HST := hide (fun k (hk : k < xs.length) (h : shalB d (xs.take k) = true) (h2 : xs[k] ≤ 2 ^ d.toNat - 1) => shalB_take (d := d) hk h h2)
  have HS0 := hide (show shalB d (xs.take 0) = true from rfl)
  have HSL := hide (show shalB d xs = shalB d (xs.take xs.length) by rw [List.take_length])
  obtain ⟨D, rfl⟩ : ∃ D : Nat, d = D := ⟨d.toNat, by omega⟩
  rw [Int.toNat_natCast] at HSF HST q1 q2 q3
  generalize shalB (D : Int) = SB at *
  obtain ⟨X, hX⟩ : ∃ X : Int, (2 : Int) ^ D = X := ⟨_, rfl⟩
  rw [hX] at HSF HST q1 q2 q3
  have hx2 : (1 : Int) * 2 ^ D = X := by rw [hX, Int.one_mul]
  have t1 : IntKind.i64.wrap X = X := IntWalk.i64_in _ (by omega)
  have hsh : ((1 : Int) <<< D) = X := by rw [Int.shiftLeft_eq, hX, Int.one_mul]
  go_enter Tryz.func36, Tryz.ntmps36
  go_wp2_with fail
  go_loopw [5] (fun i wr => ∃ k : Nat, k ≤ xs.length ∧ i = .int .i64 k ∧ Hid (SB (xs.take k) = true) ∧ Below w.heap.size w wr) (fun i _ => xs.length - (intOf i).toNat)
  case atStart => exact ⟨0, Nat.zero_le _, rfl, HS0.out, Below.refl _ _⟩
  case round =>
    obtain ⟨k, hk, rfl, HJ, hbel⟩ := hrel
    by_cases hlt : k < xs.length
    · have hd : decide ((k : Int) < (xs.length : Int)) = true := by simp; omega
      obtain ⟨b, off, rfl, hb, hcell⟩ : ∃ b off, ao = some ⟨b, off, none⟩ ∧ b < w.heap.size ∧ wr.cell? ⟨b, off + k, none⟩ = some (.int .i64 xs[k]) := by
        rcases hc with h | ⟨b, off, h1, h2, h3⟩
        · rw [h] at hlt; simp at hlt
        · exact ⟨b, off, h1, h2, (hbel.cell (p := ⟨b, off + k, none⟩) h2).trans (h3 k hlt)⟩
      have HF := hide (HSF.out k hlt)
      have HT := hide (HST.out k hlt HJ.out)
      obtain ⟨z, hz⟩ : ∃ z, xs[k] = z := ⟨_, rfl⟩
      rw [hz] at hcell HF HT
      by_cases hle : z ≤ X - 1
      · have hdz : decide (X - 1 < z) = false := decide_eq_false (by omega)
        have HT2 := hide (HT.out hle)
        go_upto_region 4 with fail
        go_quiet (fail)
        go_wp2
        go_roundw
        case rel => exact ⟨k + 1, hlt, by go_num, HT2.out, below_drewN hbel _⟩
        case measure => simp [intOf]; omega
      · have hdz : decide (X - 1 < z) = true := decide_eq_true (by omega)
        have HF2 := hide (HF.out (by first | exact hle | omega))
        go_upto_region 4 with fail
        go_quiet (fail)
        go_wp2
        go_ret
        exact ⟨ret_bool HF2.out.symm, below_drewN hbel _⟩
    · have hd : decide ((k : Int) < (xs.length : Int)) = false := by simp; omega
      obtain rfl : xs.length = k := by omega
      have HF := hide (HSL.out.trans HJ.out)
      go_wp2
      go_ret
      exact ⟨ret_bool HF.out.symm, hbel⟩
end Go.Proofs.YtanebhbfekcplaaGreat

namespace Go.Proofs.YtanebhbfekcplaaGreat
open Go.RowKit
theorem at_any (W H : Int) (v : Value) (zs : List Int) (x y : Int) (X Y WN k : Nat) (w : World) (hv : IsInts w v zs) (hW : W = WN) (hx : x = X) (hy : y = Y) (hm : Y * WN + X = k) (hk : k < zs.length) (hk2 : zs.length ≤ 4096) :
    Calls Tryz.prog 125 #[.agg #[.int .i64 W, .int .i64 H, v], .int .i64 x, .int .i64 y] w fun e w' => e = .returned (.int .i64 (zs.getD k 0)) ∧ Below w.heap.size w w' := by
  subst hx hy
  obtain ⟨ao, ca, rfl, hla, hc⟩ := hv
  obtain ⟨bk, off, hao, hbl, hcell⟩ : ∃ b off, ao = some ⟨b, off, none⟩ ∧ b < w.heap.size ∧ ∀ j (h : j < zs.length), w.cell? ⟨b, off + j, none⟩ = some (.int .i64 zs[j]) := by
    rcases hc with h | h
    · subst h; simp at hk
    · exact h
  subst hao hW
  have hc1 : ∀ o, (w.alloc o).cell? ⟨bk, off + k, none⟩ = some (.int .i64 (zs.getD k 0)) := fun o => by
    rw [World.cell?_of_block (w := w) (Below.heap_alloc w o bk hbl), hcell k hk]; simp [List.getD, hk]
  clear hcell hc
  obtain ⟨M, hM⟩ : ∃ M : Nat, M = Y * WN := ⟨_, rfl⟩
  have hmm : (Y : Int) * (WN : Int) = (M : Int) := by rw [hM]; simp
  rw [← hM] at hm
  have hat : (M : Int) + (X : Int) = (k : Int) := by omega
  clear hM
  generalize zs.getD k 0 = Z at *
  go_enter Tryz.func125, Tryz.ntmps125
  go_wp2
  go_ret
  exact ⟨rfl, bel_alloc _ _⟩
end Go.Proofs.YtanebhbfekcplaaGreat

namespace Go.Proofs.YtanebhbfekcplaaGreat
open Go.RowKit
theorem tdiv_cases (n : Int) (b : Nat) : (0 ≤ n ∧ n.tdiv b = n / b) ∨ (n < 0 ∧ n.tdiv b = -((-n) / b)) := by
  by_cases h : 0 ≤ n
  · exact .inl ⟨h, Int.tdiv_eq_ediv_of_nonneg h⟩
  · refine .inr ⟨by omega, ?_⟩
    have := Int.neg_tdiv (-n) b
    rw [Int.neg_neg] at this
    rw [this, Int.tdiv_eq_ediv_of_nonneg (by omega)]
set_option maxRecDepth 100000 in
theorem down2_any (n : Int) (h0 : -4000000 ≤ n) (h1 : n ≤ 4000000) (w : World) :
    Calls Tryz.prog 115 #[.int .i64 n, .int .i64 2] w fun e w' => e = .returned (.int .i64 (n / 2)) ∧ w = w' := by
  have hc := tdiv_cases n 2
  obtain ⟨q, hq⟩ : ∃ q, n.tdiv 2 = q := ⟨_, rfl⟩
  simp only [show ((2 : Nat) : Int) = 2 from rfl, hq] at hc
  by_cases ht : n < q * 2
  · have hd : decide (n < q * 2) = true := by simpa using ht
    have HE := hide (show q - 1 = n / 2 by omega)
    have hb : -4000001 ≤ q ∧ q ≤ 4000000 := by omega
    clear hc ht
    go_enter Tryz.func115, Tryz.ntmps115
    go_wp2
    go_ret
    exact ⟨ret_int HE.out, rfl⟩
  · have hd : decide (n < q * 2) = false := by simpa using ht
    have HE := hide (show q = n / 2 by omega)
    have hb : -4000001 ≤ q ∧ q ≤ 4000000 := by omega
    clear hc ht
    go_enter Tryz.func115, Tryz.ntmps115
    go_wp2
    go_ret
    exact ⟨ret_int HE.out, rfl⟩
set_option maxRecDepth 100000 in
theorem down16_any (n : Int) (h0 : -4000000 ≤ n) (h1 : n ≤ 4000000) (w : World) :
    Calls Tryz.prog 115 #[.int .i64 n, .int .i64 65536] w fun e w' => e = .returned (.int .i64 (n / 65536)) ∧ w = w' := by
  have hc := tdiv_cases n 65536
  obtain ⟨q, hq⟩ : ∃ q, n.tdiv 65536 = q := ⟨_, rfl⟩
  simp only [show ((65536 : Nat) : Int) = 65536 from rfl, hq] at hc
  by_cases ht : n < q * 65536
  · have hd : decide (n < q * 65536) = true := by simpa using ht
    have HE := hide (show q - 1 = n / 65536 by omega)
    have hb : -4000001 ≤ q ∧ q ≤ 4000000 := by omega
    clear hc ht
    go_enter Tryz.func115, Tryz.ntmps115
    go_wp2
    go_ret
    exact ⟨ret_int HE.out, rfl⟩
  · have hd : decide (n < q * 65536) = false := by simpa using ht
    have HE := hide (show q = n / 65536 by omega)
    have hb : -4000001 ≤ q ∧ q ≤ 4000000 := by omega
    clear hc ht
    go_enter Tryz.func115, Tryz.ntmps115
    go_wp2
    go_ret
    exact ⟨ret_int HE.out, rfl⟩
set_option maxRecDepth 100000 in
set_option maxHeartbeats 400000 in
theorem refClassOf_any (d : Int) (h0 : -32768 < d) (h1 : d ≤ 32768) (w : World) :
    Calls Tryz.prog 73 #[.int .i64 d] w fun e w' => e = .returned (.int .i64 (cls d : Nat)) ∧ w = w' := by
  have hN : ∃ N : Nat, N ≤ 32768 ∧ (d = N ∨ (d = -(N : Int) ∧ 0 < N)) := ⟨d.natAbs, by omega, by omega⟩
  obtain ⟨N, hNb, hN⟩ := hN
  have HB := hide (show blen N ≤ 16 from blen_le (by omega))
  have HC := hide (show blen N = cls d by rw [cls]; congr 1; omega)
  clear h0 h1
  generalize cls d = C at *
  rcases hN with rfl | ⟨rfl, hpos⟩
  · have hdc : decide ((N : Int) < -(N : Int)) = false := by simp
    go_enter Tryz.func73, Tryz.ntmps73
    go_wp2
    go_loop [3, 4] (fun c n => ∃ k : Nat, k ≤ 16 ∧ c = .int .i64 k ∧ n = .int .i64 ((N / 2 ^ k : Nat) : Int) ∧ Hid (k ≤ blen N)) (fun c _ => 16 - (intOf c).toNat)
    case atStart => exact ⟨0, by omega, rfl, by (simp; try omega), by show _ ≤ _; omega⟩
    case round =>
      obtain ⟨k, hk, rfl, rfl, HK⟩ := hrel
      have HH := hide (halves N k)
      have HM := hide (@blen_more N k)
      have HD := hide (@blen_done N k)
      have hle : N / 2 ^ k ≤ 32768 := Nat.le_trans (Nat.div_le_self _ _) hNb
      generalize N / 2 ^ k = n at *
      by_cases hn : n = 0
      · subst hn
        have HE := hide (show (k : Int) = (C : Nat) by rw [← HC.out]; have := HD.out rfl; have := HK.out; omega)
        go_wp2
        go_ret
        exact ⟨ret_int HE.out, rfl⟩
      · have hlt := HM.out hn
        have HK2 : Hid (k + 1 ≤ blen N) := hlt
        have hk2 : k + 1 ≤ 16 := by have := HB.out; omega
        clear hlt
        go_wp2
        go_round
        case rel => exact ⟨k + 1, hk2, by go_num, by rw [HH.out]; go_num, HK2⟩
        case measure => simp [intOf]; omega
  · have hdc : decide (-(N : Int) < - -(N : Int)) = true := by simp; omega
    have hdd : decide (-(N : Int) < (N : Int)) = true := by simp; omega
    have hnn : - -(N : Int) = (N : Int) := Int.neg_neg _
    go_enter Tryz.func73, Tryz.ntmps73
    go_wp2
    go_loop [3, 4] (fun c n => ∃ k : Nat, k ≤ 16 ∧ c = .int .i64 k ∧ n = .int .i64 ((N / 2 ^ k : Nat) : Int) ∧ Hid (k ≤ blen N)) (fun c _ => 16 - (intOf c).toNat)
    case atStart => exact ⟨0, by omega, rfl, by (simp; try omega), by show _ ≤ _; omega⟩
    case round =>
      obtain ⟨k, hk, rfl, rfl, HK⟩ := hrel
      have HH := hide (halves N k)
      have HM := hide (@blen_more N k)
      have HD := hide (@blen_done N k)
      have hle : N / 2 ^ k ≤ 32768 := Nat.le_trans (Nat.div_le_self _ _) hNb
      generalize N / 2 ^ k = n at *
      by_cases hn : n = 0
      · subst hn
        have HE := hide (show (k : Int) = (C : Nat) by rw [← HC.out]; have := HD.out rfl; have := HK.out; omega)
        go_wp2
        go_ret
        exact ⟨ret_int HE.out, rfl⟩
      · have hlt := HM.out hn
        have HK2 : Hid (k + 1 ≤ blen N) := hlt
        have hk2 : k + 1 ≤ 16 := by have := HB.out; omega
        clear hlt
        go_wp2
        go_round
        case rel => exact ⟨k + 1, hk2, by go_num, by rw [HH.out]; go_num, HK2⟩
        case measure => simp [intOf]; omega
end Go.Proofs.YtanebhbfekcplaaGreat

namespace Go.Proofs.YtanebhbfekcplaaGreat
open Go.RowKit
set_option maxRecDepth 100000 in
set_option maxHeartbeats 400000 in
theorem refDifference_any (s g : Int) (hs : 0 ≤ s ∧ s ≤ 65535) (hg : -65536 ≤ g ∧ g ≤ 131070) (w : World) :
    Calls Tryz.prog 124 #[.int .i64 s, .int .i64 g] w fun e w' => e = .returned (.int .i64 (dif s g)) ∧ w = w' := by
  have HD := hide (show ∀ d : Int, -32768 < d → d ≤ 32768 → (d - (s - g)) % 65536 = 0 → d = dif s g from fun d a b c => by unfold dif; split <;> omega)
  go_enter Tryz.func124, Tryz.ntmps124
  go_wp2
  go_loop [5] (fun v => ∃ d : Int, v = .int .i64 d ∧ -131070 ≤ d ∧ d ≤ 131071 ∧ (d - (s - g)) % 65536 = 0) (fun v => (intOf v + 200000).toNat)
  case atStart => exact ⟨s - g, rfl, by omega, by omega, by omega⟩
  case round =>
    obtain ⟨d, rfl, q1, q2, q3⟩ := hrel
    by_cases h : 32768 < d
    · go_wp2
      go_round
      case rel => exact ⟨d - 65536, rfl, by omega, by omega, by omega⟩
      case measure => simp [intOf]; omega
    · go_wp2
      go_loop [5] (fun v => ∃ d : Int, v = .int .i64 d ∧ -131070 ≤ d ∧ d ≤ 32768 ∧ (d - (s - g)) % 65536 = 0) (fun v => (200000 - intOf v).toNat)
      case atStart => exact ⟨d, rfl, by omega, by omega, by omega⟩
      case round =>
        obtain ⟨d, rfl, q1, q2, q3⟩ := hrel
        by_cases h : d ≤ -32768
        · go_wp2
          go_round
          case rel => exact ⟨d + 65536, rfl, by omega, by omega, by omega⟩
          case measure => simp [intOf]; omega
        · have HE := hide (HD.out d (by omega) q2 q3)
          go_wp2
          go_ret
          exact ⟨ret_int HE.out, rfl⟩
set_option maxRecDepth 100000 in
set_option maxHeartbeats 400000 in
theorem more_any (d : Int) (h0 : -32768 < d) (h1 : d ≤ 32768) (w : World) :
    Calls Tryz.prog 74 #[.int .i64 d] w fun e w' => e = .returned (.string (str (tailB d))) ∧ Below w.heap.size w w' := by
  have hcl := cls_le h0 h1
  obtain ⟨C, hC⟩ : ∃ C, C = cls d := ⟨_, rfl⟩
  have HCO := hide (refClassOf_any d h0 h1)
  rw [← hC] at hcl HCO
  by_cases hz : C = 0
  · have HE := hide (show ⟨#[]⟩ = str (tailB d) by rw [tailB, if_pos (.inl (hC ▸ hz))]; rfl)
    clear hC
    subst hz
    go_enter Tryz.func74, Tryz.ntmps74
    go_wp2_with (go_at_call 73; refine (HCO.out _).mono ?_; rintro e w1 ⟨rfl, rfl⟩)
    go_ret
    exact ⟨congrArg (fun x => Ending.returned (.string x)) HE.out, Below.refl _ _⟩
  by_cases ht : C = 16
  · have HE := hide (show ⟨#[]⟩ = str (tailB d) by rw [tailB, if_pos (.inr (hC ▸ ht))]; rfl)
    clear hC
    subst ht
    go_enter Tryz.func74, Tryz.ntmps74
    go_wp2_with (go_at_call 73; refine (HCO.out _).mono ?_; rintro e w1 ⟨rfl, rfl⟩)
    go_ret
    exact ⟨congrArg (fun x => Ending.returned (.string x)) HE.out, Below.refl _ _⟩
  have HE := hide (show str (numBits (tailN d) C) = str (tailB d) by rw [tailB, if_neg (by omega), ← hC])
  obtain ⟨hlt, hN⟩ := tailN_lt d (by omega)
  rw [← hC] at hlt hN
  have HLT := hide hlt
  have hw := wrap_pow (n := C) (by omega)
  have hp := pow16 (n := C) (by omega)
  have HLT6 := hide (show tailN d < 65536 from Nat.lt_of_lt_of_le hlt hp)
  rw [pow_cast] at hN
  have hb0 : ((C : Int) == 0) = false := by simp; omega
  have hb16 : ((C : Int) == 16) = false := by simp; omega
  have hd0 : d ≠ 0 := fun e => by rw [e] at hC; exact hz hC
  clear hC hlt
  generalize tailN d = N at *
  by_cases hneg : d < 0
  · have hd : decide (0 < d) = false := by simp; omega
    rw [if_pos hneg] at hN
    obtain ⟨p, hpe⟩ : ∃ p : Nat, 2 ^ C = p := ⟨_, rfl⟩
    rw [hpe] at hN hp hw
    have HPE := hide hpe
    clear hpe
    go_enter Tryz.func74, Tryz.ntmps74
    go_wp2_with (go_at_call 73; refine (HCO.out _).mono ?_; rintro e w1 ⟨rfl, rfl⟩)
    refine (refNumber_int _ _ N C (by rw [hN]) rfl (by omega) HLT6.out _).mono ?_
    rintro e w1 ⟨rfl, hb1⟩
    go_wp2
    go_ret
    exact ⟨congrArg (fun x => Ending.returned (.string x)) HE.out, hb1⟩
  · have hd : decide (0 < d) = true := by simp; omega
    rw [if_neg hneg] at hN
    clear hw hp
    go_enter Tryz.func74, Tryz.ntmps74
    go_wp2_with (go_at_call 73; refine (HCO.out _).mono ?_; rintro e w1 ⟨rfl, rfl⟩)
    refine (refNumber_int _ _ N C (by rw [hN]) rfl (by omega) HLT6.out _).mono ?_
    rintro e w1 ⟨rfl, hb1⟩
    go_wp2
    go_ret
    exact ⟨congrArg (fun x => Ending.returned (.string x)) HE.out, hb1⟩
set_option maxRecDepth 100000 in
set_option maxHeartbeats 800000 in
theorem guessOf_any (v : Value) (zs : List Int) (W X Y : Nat) (H kind : Int) (k : Nat) (w : World) (hv : IsInts w v zs) (hW1 : 1 ≤ W) (hW : W ≤ 64) (hk : k < zs.length) (hl : zs.length ≤ 4096) (hz : sampsOk zs = true) (hX : X = k % W) (hY : Y = k / W) :
    Calls Tryz.prog 114 #[.agg #[.int .i64 W, .int .i64 H, v], .int .i64 kind, .int .i64 X, .int .i64 Y] w fun e w' => e = .returned (.int .i64 (gAt zs W kind k)) ∧ Below w.heap.size w w' := by
  obtain ⟨p1, p2, p3, p4⟩ := place_parts W k hW1
  rw [← hX, ← hY] at p1
  rw [← hY] at p2 p3
  rw [← hX] at p3 p4
  have HV := hide hv
  obtain ⟨ao, ca, rfl, hla, _⟩ := hv
  have hYb : Y ≤ 4096 := by rw [hY]; exact Nat.le_trans (Nat.div_le_self k W) (by omega)
  have hs1 := sampsOk_getD hz (k - 1)
  have hs2 := sampsOk_getD hz (k - W)
  have hs3 := sampsOk_getD hz (k - W - 1)
  clear hz
  by_cases hx : X = 0
  · by_cases hy : Y = 0
    · have HE := hide (show 32768 = gAt zs W kind k by rw [gAt, if_pos ⟨hX ▸ hx, hY ▸ hy⟩])
      subst hx hy
      clear hX hY hs1 hs2 hs3 p2 p3 p1
      go_enter Tryz.func114, Tryz.ntmps114
      go_wp2
      go_ret
      exact ⟨ret_int HE.out, bel_alloc _ _⟩
    · have HE := hide (show zs.getD (k - W) 0 = gAt zs W kind k by rw [gAt, if_neg (fun h => hy (hY.trans h.2)), if_neg (fun h => hy (hY.trans h)), if_pos (hX ▸ hx)])
      have hkW := p2 hy
      have hyb : ((Y : Int) == 0) = false := by simp; omega
      subst hx
      obtain ⟨y1, hy1⟩ : ∃ y1, Y = y1 + 1 := ⟨Y - 1, by omega⟩
      have hyi : (Y : Int) - 1 = (y1 : Int) := by omega
      have hyb1 : y1 ≤ 4096 := by omega
      have HM := hide (show y1 * W + 0 = k - W by rw [hy1, Nat.succ_mul] at p1; omega)
      clear hX hY p3 p2 p1 hy hs1 hs3 hy1
      go_enter Tryz.func114, Tryz.ntmps114
      go_wp2_with fail
      refine (at_any _ _ _ zs _ _ 0 y1 W (k - W) _ (HV.out.alloc _) rfl rfl rfl HM.out (by omega) hl).mono ?_
      rintro e w1 ⟨rfl, hb1⟩
      go_wp2
      go_ret
      exact ⟨ret_int HE.out, bel_trans (bel_alloc _ _) hb1⟩
  · have hxb : ((X : Int) == 0) = false := by simp; omega
    obtain ⟨x1, hx1⟩ : ∃ x1, X = x1 + 1 := ⟨X - 1, by omega⟩
    have hxi : (X : Int) - 1 = (x1 : Int) := by omega
    have hxb1 : x1 ≤ 64 := by omega
    by_cases hy : Y = 0
    · have HE := hide (show zs.getD (k - 1) 0 = gAt zs W kind k by rw [gAt, if_neg (fun h => hx (hX.trans h.1)), if_pos (hY ▸ hy)])
      subst hy
      have HM := hide (show 0 * W + x1 = k - 1 by rw [Nat.zero_mul] at p1 ⊢; omega)
      clear hX hY p3 p2 hs2 hs3 p1 hx1 hx
      go_enter Tryz.func114, Tryz.ntmps114
      go_wp2_with fail
      refine (at_any _ _ _ zs _ _ x1 0 W (k - 1) _ (HV.out.alloc _) rfl rfl rfl HM.out (by omega) hl).mono ?_
      rintro e w1 ⟨rfl, hb1⟩
      go_wp2
      go_ret
      exact ⟨ret_int HE.out, bel_trans (bel_alloc _ _) hb1⟩
    · have HE := hide (show insideG kind (zs.getD (k - 1) 0) (zs.getD (k - W) 0) (zs.getD (k - W - 1) 0) = gAt zs W kind k by rw [gAt, if_neg (fun h => hx (hX.trans h.1)), if_neg (fun h => hy (hY.trans h)), if_neg (fun h => hx (hX.trans h))])
      have hkW := p2 hy
      have hyb : ((Y : Int) == 0) = false := by simp; omega
      obtain ⟨y1, hy1⟩ : ∃ y1, Y = y1 + 1 := ⟨Y - 1, by omega⟩
      have hyi : (Y : Int) - 1 = (y1 : Int) := by omega
      have hyb1 : y1 ≤ 4096 := by omega
      rw [hy1, Nat.succ_mul] at p1
      have m1 : Y * W + x1 = k - 1 := by rw [hy1, Nat.succ_mul]; omega
      have m2 : y1 * W + X = k - W := by omega
      have m3 : y1 * W + x1 = k - W - 1 := by omega
      have W0b := bel_alloc w (Obj.cells #[.int .i64 W, .int .i64 H, .slice ao zs.length ca] 34)
      obtain ⟨e0, e1, e2⟩ := pl3 (Below.refl (w.alloc (Obj.cells #[.int .i64 W, .int .i64 H, .slice ao zs.length ca] 34)).heap.size _)
      have hlt0 : w.heap.size < (w.alloc (Obj.cells #[.int .i64 W, .int .i64 H, .slice ao zs.length ca] 34)).heap.size := by simp
      clear hX hY p3 p2 hy p1 hy1 hx1 hx
      go_enter Tryz.func114, Tryz.ntmps114
      go_wp2_with fail
      generalize w.alloc (Obj.cells #[.int .i64 W, .int .i64 H, .slice ao zs.length ca] 34) = W0 at *
      have HI0 := hide (HV.out.below W0b (Nat.le_refl _))
      obtain ⟨F, hF⟩ : ∃ F : Nat → Nat → Int, ∀ y x, F y x = zs.getD (y * W + x) 0 := ⟨_, fun _ _ => rfl⟩
      have A : ∀ w' (x y : Nat), y * W + x < zs.length → Below W0.heap.size W0 w' → Calls Tryz.prog 125 #[.agg #[.int .i64 W, .int .i64 H, .slice ao zs.length ca], .int .i64 x, .int .i64 y] w' fun e w'' => e = .returned (.int .i64 (F y x)) ∧ Below W0.heap.size W0 w'' := fun w' x y hxy h =>
        (at_any _ _ _ zs _ _ x y W _ _ (HI0.out.below h (Nat.le_refl _)) rfl rfl rfl rfl hxy hl).mono fun e w'' h2 => ⟨by rw [hF]; exact h2.1, h.trans (h2.2.mono h.size)⟩
      have HA := hide A
      have HWX := hide (show IntKind.i64.wrap (x1 : Int) = (x1 : Int) from IntWalk.i64_in _ (by omega))
      have HWY := hide (show IntKind.i64.wrap (y1 : Int) = (y1 : Int) from IntWalk.i64_in _ (by omega))
      have L1 := hide (show Y * W + x1 < zs.length by omega)
      have L2 := hide (show y1 * W + X < zs.length by omega)
      have L3 := hide (show y1 * W + x1 < zs.length by omega)
      have hZ1 : F Y x1 = zs.getD (k - 1) 0 := by rw [hF, m1]
      have hZ2 : F y1 X = zs.getD (k - W) 0 := by rw [hF, m2]
      have hZ3 : F y1 x1 = zs.getD (k - W - 1) 0 := by rw [hF, m3]
      have HS := hide (show ∀ w', Below W0.heap.size W0 w' → w'.cell? ⟨w.heap.size, 0, none⟩ = some (.int .i64 W) ∧ w'.cell? ⟨w.heap.size, 1, none⟩ = some (.int .i64 H) ∧ w'.cell? ⟨w.heap.size, 2, none⟩ = some (.slice ao zs.length ca) ∧ Below W0.heap.size W0 w' from fun w' h =>
        ⟨(h.cell (p := ⟨w.heap.size, 0, none⟩) hlt0).trans e0, (h.cell (p := ⟨w.heap.size, 1, none⟩) hlt0).trans e1, (h.cell (p := ⟨w.heap.size, 2, none⟩) hlt0).trans e2, h⟩)
      have hrefl := Below.refl W0.heap.size W0
      have hdrew : Below W0.heap.size W0 W0.drew := (Below.refl _ _).drew
      clear A m1 m2 m3 hkW hF
      generalize zs.getD (k - 1) 0 = Z1 at *
      generalize zs.getD (k - W) 0 = Z2 at *
      generalize zs.getD (k - W - 1) 0 = Z3 at *
      go_region_held3 (fun w' => w'.cell? ⟨w.heap.size, 0, none⟩ = some (.int .i64 W) ∧ w'.cell? ⟨w.heap.size, 1, none⟩ = some (.int .i64 H) ∧ w'.cell? ⟨w.heap.size, 2, none⟩ = some (.slice ao zs.length ca) ∧ Below W0.heap.size W0 w')
        (first | (refine HS.out _ ?_; assumption) | go_keep)
        (first | (go_at_call 125; (try rw [HWX.out]); (try rw [HWY.out]); refine (HA.out _ _ _ ?_ ?_).mono ?_; (first | exact L1.out | exact L2.out | exact L3.out); assumption; rintro e wx ⟨rfl, hN⟩))
      have HWB := hide (W0b.trans (hN.mono W0b.size))
      by_cases h1 : kind = 1
      · subst h1
        go_wp2
        go_ret
        exact ⟨ret_int (by rw [← HE.out]; simp [insideG]), HWB.out⟩
      by_cases h2 : kind = 2
      · subst h2
        go_wp2
        go_ret
        exact ⟨ret_int (by rw [← HE.out]; simp [insideG]), HWB.out⟩
      by_cases h3 : kind = 3
      · subst h3
        go_wp2
        go_ret
        exact ⟨ret_int (by rw [← HE.out]; simp [insideG]), HWB.out⟩
      by_cases h4 : kind = 4
      · subst h4
        go_wp2
        go_ret
        exact ⟨ret_int (by rw [← HE.out]; simp [insideG]), HWB.out⟩
      by_cases h5 : kind = 5
      · subst h5
        go_wp2_with (go_at_call 115; refine (down2_any _ (by omega) (by omega) _).mono ?_; rintro e wy ⟨rfl, rfl⟩)
        go_ret
        exact ⟨ret_int (by rw [← HE.out]; simp [insideG]), HWB.out⟩
      by_cases h6 : kind = 6
      · subst h6
        go_wp2_with (go_at_call 115; refine (down2_any _ (by omega) (by omega) _).mono ?_; rintro e wy ⟨rfl, rfl⟩)
        go_ret
        exact ⟨ret_int (by rw [← HE.out]; simp [insideG]), HWB.out⟩
      have k1 : (kind == 1) = false := by simpa using h1
      have k2 : (kind == 2) = false := by simpa using h2
      have k3 : (kind == 3) = false := by simpa using h3
      have k4 : (kind == 4) = false := by simpa using h4
      have k5 : (kind == 5) = false := by simpa using h5
      have k6 : (kind == 6) = false := by simpa using h6
      have HE2 := hide (show (Z1 + Z2) / 2 = gAt zs W kind k by rw [← HE.out]; simp [insideG, h1, h2, h3, h4, h5, h6])
      clear h1 h2 h3 h4 h5 h6
      go_wp2_with (go_at_call 115; refine (down2_any _ (by omega) (by omega) _).mono ?_; rintro e wy ⟨rfl, rfl⟩)
      go_ret
      exact ⟨ret_int HE2.out, HWB.out⟩
end Go.Proofs.YtanebhbfekcplaaGreat

namespace Go.Proofs.YtanebhbfekcplaaGreat
open Go.RowKit
def dList (zs : List Int) (W : Nat) (kind : Int) (n : Nat) : List Int := (List.range n).map (dAt zs W kind)
theorem dList_length (zs : List Int) (W : Nat) (kind : Int) (n : Nat) : (dList zs W kind n).length = n := by simp [dList]
theorem dList_succ (zs : List Int) (W : Nat) (kind : Int) (n : Nat) : (dList zs W kind (n + 1)).map (Value.int .i64) = (dList zs W kind n).map (Value.int .i64) ++ [.int .i64 (dAt zs W kind n)] := by
  simp [dList, List.range_succ]
set_option maxRecDepth 100000 in
set_option maxHeartbeats 1600000 in
theorem differences_any (W H : Nat) (v : Value) (zs : List Int) (kind : Int) (w : World) (hv : IsInts w v zs) (hp : planeOk W H zs = true) :
    Calls Tryz.prog 72 #[.agg #[.int .i64 W, .int .i64 H, v], .int .i64 kind] w fun e w' => ∃ r, e = .returned r ∧ IsInts w' r (dList zs W kind zs.length) ∧ Below w.heap.size w w' := by
  obtain ⟨⟨b1, b2⟩, ⟨b3, b4⟩, b5, b6⟩ := planeOk_parts hp
  have h4096 : zs.length ≤ 4096 := by have := side_mul ⟨b1, b2⟩ ⟨b3, b4⟩; omega
  have hlen : zs.length = H * W := by rw [Nat.mul_comm]; exact_mod_cast b5
  have HZ := hide b6
  have HLEN := hide hlen
  clear b5 b6 hp hlen
  obtain ⟨i0, hi, hz0, hz1, hz2⟩ := info_parts Tryz.infoInt
  have HV := hide hv
  obtain ⟨ao, ca, rfl, hla, _⟩ := hv
  have W0b := bel_alloc w (Obj.cells #[.int .i64 W, .int .i64 H, .slice ao zs.length ca] 34)
  obtain ⟨e0, e1, e2⟩ := pl3 (Below.refl (w.alloc (Obj.cells #[.int .i64 W, .int .i64 H, .slice ao zs.length ca] 34)).heap.size _)
  have hlt0 : w.heap.size < (w.alloc (Obj.cells #[.int .i64 W, .int .i64 H, .slice ao zs.length ca] 34)).heap.size := by simp
  go_enter Tryz.func72, Tryz.ntmps72
  go_wp2_with fail
  generalize w.alloc (Obj.cells #[.int .i64 W, .int .i64 H, .slice ao zs.length ca] 34) = W0 at *
  have HW0 := hide W0b
  have HI0 := hide (HV.out.below W0b (Nat.le_refl _))
  have HE0 := hide e0
  have HE1 := hide e1
  have HE2 := hide e2
  have HS := hide (show ∀ w', Below W0.heap.size W0 w' → w'.cell? ⟨w.heap.size, 0, none⟩ = some (.int .i64 W) ∧ w'.cell? ⟨w.heap.size, 1, none⟩ = some (.int .i64 H) ∧ w'.cell? ⟨w.heap.size, 2, none⟩ = some (.slice ao zs.length ca) ∧ Below W0.heap.size W0 w' from fun w' h =>
    ⟨(h.cell (p := ⟨w.heap.size, 0, none⟩) hlt0).trans e0, (h.cell (p := ⟨w.heap.size, 1, none⟩) hlt0).trans e1, (h.cell (p := ⟨w.heap.size, 2, none⟩) hlt0).trans e2, h⟩)
  clear e0 e1 e2 W0b HV
  go_loopw [5, 6] (fun t i wr => ∃ y : Nat, y ≤ H ∧ i = .int .i64 y ∧ (∃ ao cap, t = .slice ao (y * W) cap) ∧ wr.ownsRow W0.heap.size 3 1 t (y * W) ((dList zs W kind (y * W)).map (Value.int .i64)) ∧ Below W0.heap.size W0 wr)
    (fun _ i _ => H - (intOf i).toNat)
  case atStart => exact ⟨0, Nat.zero_le _, rfl, ⟨none, 0, by simp⟩, by rw [Nat.zero_mul]; exact World.ownsRow_nil _ _ _ _, Below.refl _ _⟩
  case round =>
    obtain ⟨y, hy, rfl, ⟨tq, tc, rfl⟩, ho, hb⟩ := hrel
    have q0 := (hb.cell (p := ⟨w.heap.size, 0, none⟩) hlt0).trans HE0.out
    have q1 := (hb.cell (p := ⟨w.heap.size, 1, none⟩) hlt0).trans HE1.out
    by_cases hlt : y < H
    · have hmul : y * W + W ≤ zs.length := by
        rw [HLEN.out]
        have := Nat.mul_le_mul_right W (show y + 1 ≤ H from hlt)
        rw [Nat.succ_mul] at this; exact this
      have HM := hide (show (y + 1) * W = y * W + W from Nat.succ_mul y W)
      have HPL := hide (fun x (h : x < W) => place_of (W := W) (X := x) (Y := y) h)
      obtain ⟨M, hM⟩ : ∃ M, M = y * W := ⟨_, rfl⟩
      rw [← hM] at ho hmul HM HPL
      simp only [← hM]
      have HMY := hide hM
      clear hM
      have hd : decide ((y : Int) < (H : Int)) = true := by simp; omega
      go_wp2
      go_loopw [5, 7] (fun t i wr => ∃ x : Nat, x ≤ W ∧ i = .int .i64 x ∧ (∃ ao cap, t = .slice ao (M + x) cap) ∧ wr.ownsRow W0.heap.size 3 1 t (M + x) ((dList zs W kind (M + x)).map (Value.int .i64)) ∧ Below W0.heap.size W0 wr)
        (fun _ i _ => W - (intOf i).toNat)
      case atStart => exact ⟨0, Nat.zero_le _, rfl, ⟨_, _, rfl⟩, ho, hb⟩
      case round =>
        clear ho hb q0 q1
        obtain ⟨x, hx, rfl, ⟨tq, tc, rfl⟩, ho, hb⟩ := hrel
        have q0 := (hb.cell (p := ⟨w.heap.size, 0, none⟩) hlt0).trans HE0.out
        have q1 := (hb.cell (p := ⟨w.heap.size, 1, none⟩) hlt0).trans HE1.out
        have hsz := hb.size
        by_cases hxl : x < W
        · have hd2 : decide ((x : Int) < (W : Int)) = true := by simp; omega
          have hkl : M + x < zs.length := by omega
          obtain ⟨m1, m2⟩ := HPL.out x hxl
          have hs := sampsOk_getD HZ.out (M + x)
          have hgr := gAt_range zs W kind (M + x) HZ.out
          have HAT := hide (show ∀ w', Below wr.heap.size wr w' → Calls Tryz.prog 125 #[.agg #[.int .i64 W, .int .i64 H, .slice ao zs.length ca], .int .i64 x, .int .i64 y] w' fun e w'' => e = .returned (.int .i64 (zs.getD (M + x) 0)) ∧ Below wr.heap.size wr w'' from fun w' h =>
            (at_any _ _ _ zs _ _ x y W (M + x) _ ((HI0.out.below hb (Nat.le_refl _)).below h (Nat.le_refl _)) rfl rfl rfl (by rw [HMY.out]) hkl h4096).mono fun e w'' h2 => ⟨h2.1, h.trans (h2.2.mono h.size)⟩)
          have HGU := hide (show ∀ w', Below wr.heap.size wr w' → Calls Tryz.prog 114 #[.agg #[.int .i64 W, .int .i64 H, .slice ao zs.length ca], .int .i64 kind, .int .i64 x, .int .i64 y] w' fun e w'' => e = .returned (.int .i64 (gAt zs W kind (M + x))) ∧ Below wr.heap.size wr w'' from fun w' h =>
            (guessOf_any _ zs W x y H kind (M + x) w' ((HI0.out.below hb (Nat.le_refl _)).below h (Nat.le_refl _)) (by omega) (by omega) hkl h4096 HZ.out m1.symm m2.symm).mono fun e w'' h2 => ⟨h2.1, h.trans (h2.2.mono h.size)⟩)
          have HDA := hide (show dif (zs.getD (M + x) 0) (gAt zs W kind (M + x)) = dAt zs W kind (M + x) from rfl)
          have HDI := hide (refDifference_any _ _ hs hgr)
          have HLS := hide (dList_succ zs W kind (M + x))
          rw [HDA.out] at HDI
          clear hs hgr m1 m2 HDA
          generalize zs.getD (M + x) 0 = Z at *
          generalize gAt zs W kind (M + x) = G at *
          generalize dAt zs W kind (M + x) = D at *
          have HWR := hide (show ∀ w', Below wr.heap.size wr w' → Below W0.heap.size W0 w' from fun w' h => hb.trans (h.mono hsz))
          have HWA := hide (show ∀ w' o, Below wr.heap.size wr w' → Below W0.heap.size W0 (w'.alloc o) from fun w' o h => hb.trans ((bel_trans h (bel_alloc _ _)).mono hsz))
          have HOW := hide (show ∀ w' o, Below wr.heap.size wr w' → (w'.alloc o).ownsRow W0.heap.size 3 1 (.slice tq (M + x) tc) (M + x) ((dList zs W kind (M + x)).map (Value.int .i64)) from fun w' o h => (ownsRow_below ho h).alloc _)
          have HSZ := hide (show ∀ w' o, Below wr.heap.size wr w' → W0.heap.size ≤ (w'.alloc o).heap.size from fun w' o h => by have := h.size; simp; omega)
          have HGR := hide (show ∀ w' o w1, Below wr.heap.size wr w' → (w'.alloc o).grownBy w1 (Value.slice tq (M + x) tc).ownBlock → Below W0.heap.size W0 w1 from fun w' o w1 h hg =>
            (hb.trans ((bel_trans h (bel_alloc _ _)).mono hsz)).grown hg (by have := h.size; simp; omega) (fun j hj => (ho.lt j hj).1))
          have HNW := hide (show ∀ (w' : World), ∀ j u, [Value.int .i64 D][j]? = some u → (w'.alloc (.cells #[.int .i64 D] 3)).cell? ((⟨w'.heap.size, 0, none⟩ : Addr).add j) = some u from fun w' j u hj => by obtain ⟨rfl, rfl⟩ := one_get hj; simp [Addr.add])
          have HON := hide (show ∀ u ∈ [Value.int .i64 D], u.oneCell' = true from fun u hu => by simp at hu; subst hu; rfl)
          have hrefl := Below.refl wr.heap.size wr
          have hdrew : Below wr.heap.size wr wr.drew := (Below.refl _ _).drew
          go_wp2_with fail
          go_region_held3 (fun w' => w'.cell? ⟨w.heap.size, 0, none⟩ = some (.int .i64 W) ∧ w'.cell? ⟨w.heap.size, 1, none⟩ = some (.int .i64 H) ∧ w'.cell? ⟨w.heap.size, 2, none⟩ = some (.slice ao zs.length ca) ∧ Below W0.heap.size W0 w')
            (first | (refine HS.out _ ?_; assumption) | (refine HS.out _ (HWR.out _ ?_); assumption) | (refine HS.out _ (HWA.out _ _ ?_); assumption))
            (first
              | (go_at_call 125; refine (HAT.out _ ?_).mono ?_; assumption; rintro e wx ⟨rfl, hN⟩)
              | (go_at_call 114; refine (HGU.out _ ?_).mono ?_; assumption; rintro e wx ⟨rfl, hN⟩)
              | (go_at_call 124; refine (HDI.out _).mono ?_; rintro e wy ⟨rfl, rfl⟩)
              | (refine step_append_lies _ rfl _ _ 22 rfl W0.heap.size 3 i0 (.int .i64 0) 1 8 Tryz.underlying22 hi hz0 hz1 hz2 rfl Nat.one_pos _ _ _ rfl (HOW.out _ _ hN) _ 1 1 [.int .i64 D] rfl rfl (HNW.out _) HON.out Nat.one_pos ?_ ?_ (HSZ.out _ _ hN) _ rfl ?_; (unfold maxLen; omega); omega; intro g cap w1 hown hgrow hat hltg; have hB1 := HGR.out _ _ _ hN hgrow))
          have ho4 : w1.ownsRow W0.heap.size 3 1 (.slice (some ⟨g, 0, none⟩) (M + (x + 1)) cap) (M + (x + 1)) ((dList zs W kind (M + (x + 1))).map (Value.int .i64)) := by
            rw [show M + (x + 1) = M + x + 1 from rfl, HLS.out]; exact hown
          clear hown hgrow hat hrefl hdrew ho hb hN
          go_wp2
          go_roundw
          case rel => exact ⟨x + 1, by omega, by go_num, ⟨_, _, rfl⟩, ho4, hB1⟩
          case measure => simp [intOf]; omega
        · have hd2 : decide ((x : Int) < (W : Int)) = false := by simp; omega
          obtain rfl : x = W := by omega
          go_wp2
          go_roundw
          case rel =>
            refine ⟨y + 1, by omega, by go_num, ⟨_, _, by rw [HM.out]⟩, by rw [HM.out]; exact ho, hb⟩
          case measure => simp [intOf]; omega
    · obtain rfl : y = H := by omega
      have hd : decide ((y : Int) < (y : Int)) = false := by simp
      have HIN := hide (show IsInts wr (.slice tq (y * W) tc) (dList zs W kind zs.length) by
        rw [HLEN.out]
        exact IsInts.own (by rw [dList_length]; exact ho) (by rw [dList_length, ← HLEN.out]; omega))
      clear ho
      go_wp2
      go_ret
      exact ⟨_, rfl, HIN.out, HW0.out.trans (hb.mono HW0.out.size)⟩
end Go.Proofs.YtanebhbfekcplaaGreat

namespace Go.Proofs.YtanebhbfekcplaaGreat
open Go.RowKit
theorem dList_get (zs : List Int) (W : Nat) (kind : Int) (n k : Nat) (h : k < (dList zs W kind n).length) : (dList zs W kind n)[k] = dAt zs W kind k := by simp [dList]
theorem grown_cell {w3 wr w4 : World} {e : TypeId} {t : Value} {n : Nat} {xs : List Value} (ho : wr.ownsRow w3.heap.size e 1 t n xs) (hb : Below w3.heap.size w3 wr) {p : Addr} {x : Value} (hp : p.block < w3.heap.size) (hc : w3.cell? p = some x) (hg : wr.grownBy w4 t.ownBlock) : w4.cell? p = some x :=
  ((hb.grown hg hb.size (fun j hj => (ho.lt j hj).1)).cell hp).trans hc
set_option maxRecDepth 100000 in
set_option maxHeartbeats 1600000 in
theorem writeDiff_walk (W H : Nat) (vp v : Value) (zs : List Int) (kind : Int) (xs : List Int) (w : World) (hvp : IsInts w vp zs) (hv : IsInts w v xs) (hp : planeOk W H zs = true) (hk : kindOk kind = true) (hE : checkE xs = 0) :
    Calls Tryz.prog 40 #[.agg #[.int .i64 W, .int .i64 H, vp], .int .i64 kind, v] w fun e w' => e = .returned (.tuple #[.string (str (writeDS W H zs kind xs)), .int .i64 (writeDE W H zs kind xs)]) ∧ Below w.heap.size w w' := by
  have hnil : str [] = ⟨#[]⟩ := rfl
  obtain ⟨i0, hi, hz0, hz1, hz2⟩ := info_parts Tryz.infoU8
  obtain ⟨hl1, hl2, hok, _, _⟩ := checkE_zero hE
  obtain ⟨⟨b1, b2⟩, ⟨b3, b4⟩, b5, b6⟩ := planeOk_parts hp
  have h4096 : zs.length ≤ 4096 := by have := side_mul ⟨b1, b2⟩ ⟨b3, b4⟩; omega
  have hz1' : 1 ≤ zs.length := by have := side_mul ⟨b1, b2⟩ ⟨b3, b4⟩; omega
  have HV := hide hv; clear hv
  have HVP := hide hvp
  obtain ⟨po, pc, rfl, hpl, _⟩ := hvp
  have HE := hide hE
  have HOK := hide hok
  have HP := hide hp
  have HK := hide hk
  have hwk : decide (1 ≤ kind ∧ kind ≤ 7) = true := hk
  clear b5 b6 hok hk
  go_enter Tryz.func40, Tryz.ntmps40
  go_wp2_with fail
  refine (planeFine_any _ _ _ zs _ (HVP.out.alloc _)).mono ?_
  rintro e w1 ⟨rfl, hb1⟩
  rw [hp]
  have HB1 := hide (bel_trans (bel_alloc w _) hb1)
  obtain ⟨c0, c1, c2⟩ := pl3 hb1
  have hlt0 : w.heap.size < w1.heap.size := by have := hb1.size; simp at this; omega
  clear hb1
  go_wp2_with (go_at_call 55; refine (within_any _ _ _ _).mono ?_; rintro e wx ⟨rfl, rfl⟩; rw [hwk])
  refine (checkCode_any _ _ _ (HV.out.below HB1.out (Nat.le_refl _))).mono ?_
  rintro e wx ⟨rfl, rfl⟩
  rw [HE.out]
  go_wp2_with fail
  refine (wordsOf_any _ _ _ (HV.out.below HB1.out (Nat.le_refl _)) HE.out).mono ?_
  rintro e w2 ⟨r, rfl, hr, hb2⟩
  have c0 := (hb2.cell (p := ⟨w.heap.size, 0, none⟩) hlt0).trans c0
  have c1 := (hb2.cell (p := ⟨w.heap.size, 1, none⟩) hlt0).trans c1
  have c2 := (hb2.cell (p := ⟨w.heap.size, 2, none⟩) hlt0).trans c2
  have HB2 := hide (bel_trans HB1.out hb2)
  obtain ⟨ro, rc, rfl, hrl0, hrc⟩ := hr
  obtain ⟨rb, rof, hro, hrl, hrcell⟩ : ∃ b off, ro = some ⟨b, off, none⟩ ∧ b < w2.heap.size ∧ ∀ j (h : j < (wordsOf xs).length), w2.cell? ⟨b, off + j, none⟩ = some (.string (str (wordsOf xs)[j])) := by
    rcases hrc with h | h
    · have h2 := wordsOf_length xs; rw [h] at h2; simp at h2; omega
    · exact h
  have HRC := hide hrcell
  clear hrcell hrc hrl0 hb2 HB1
  subst hro
  go_wp2_with fail
  refine (differences_any W H _ zs kind _ (HVP.out.below HB2.out (Nat.le_refl _)) HP.out).mono ?_
  rintro e w3 ⟨q, rfl, hq, hb3⟩
  have hql := dList_length zs W kind zs.length
  obtain ⟨qo, qc, rfl, _, hqc⟩ := hq
  obtain ⟨qb, qof, hqo, hqlt, hqcell⟩ : ∃ b off, qo = some ⟨b, off, none⟩ ∧ b < w3.heap.size ∧ ∀ j (h : j < (dList zs W kind zs.length).length), w3.cell? ⟨b, off + j, none⟩ = some (.int .i64 (dList zs W kind zs.length)[j]) := by
    rcases hqc with h | h
    · rw [h] at hql; simp at hql; omega
    · exact h
  subst hqo
  have HQC := hide (show ∀ j, j < zs.length → w3.cell? ⟨qb, qof + j, none⟩ = some (.int .i64 (dAt zs W kind j)) from fun j hj => by
    rw [hqcell j (by rw [hql]; exact hj), dList_get])
  have HB3 := hide (bel_trans HB2.out hb3)
  have HRC3 := hide (show ∀ j (h : j < (wordsOf xs).length), w3.cell? ⟨rb, rof + j, none⟩ = some (.string (str (wordsOf xs)[j])) from fun j h => (hb3.cell (p := ⟨rb, rof + j, none⟩) hrl).trans (HRC.out j h))
  have hrl3 : rb < w3.heap.size := Nat.lt_of_lt_of_le hrl hb3.size
  rw [hql]
  clear hqcell hqc hb3 HRC hrl HB2 c0 c1 c2 hql hlt0 HVP HV
  have HWL := hide (wordsOf_length xs)
  have hwl : (wordsOf xs).length ≤ 17 := by rw [wordsOf_length]; exact hl2
  generalize hts : wordsOf xs = ts at *
  have HTS := hide hts; clear hts
  go_wp2
  go_loopw [11, 12] (fun t i wr => ∃ k : Nat, k ≤ zs.length ∧ i = .int .i64 k ∧ Hid (dAll ts zs W kind k = true) ∧ wr.ownsRow w3.heap.size 5 1 t (dBits ts zs W kind k).length (byt (dBits ts zs W kind k)) ∧ Below w3.heap.size w3 wr) (fun _ i _ => zs.length - (intOf i).toNat)
  case atStart => exact ⟨0, Nat.zero_le _, rfl, rfl, World.ownsRow_nil _ _ _ _, Below.refl _ _⟩
  case round =>
    obtain ⟨k, hk, rfl, HA, ho, hb⟩ := hrel
    have hsz := hb.size
    have hpl2 : (dBits ts zs W kind k).length ≤ 122880 := by
      have h := dBits_length xs HOK.out zs W kind k
      rw [HTS.out] at h
      omega
    by_cases hlt : k < zs.length
    · have HQK := hide (HQC.out k hlt)
      have c1 := (hb.cell (p := ⟨qb, qof + k, none⟩) hqlt).trans HQK.out
      have hdr := dif_range (zs.getD k 0) (gAt zs W kind k)
      have HDA := hide (rfl : dif (zs.getD k 0) (gAt zs W kind k) = dAt zs W kind k)
      have hdr : -32768 < dAt zs W kind k ∧ dAt zs W kind k ≤ 32768 := hdr
      have HBS := hide (dBits_succ ts zs W kind k)
      have HAS := hide (dAll_succ ts zs W kind k)
      have HAF := hide (dAll_false ts zs W kind zs.length k hlt)
      generalize dAt zs W kind k = D at *
      have hcl := cls_le hdr.1 hdr.2
      have HCO := hide (refClassOf_any D hdr.1 hdr.2)
      have HMO := hide (more_any D hdr.1 hdr.2)
      have htl : (tailB D).length ≤ 15 := tailB_length hdr.1 hdr.2
      rw [wrD] at HBS
      generalize tailB D = TB at *
      generalize cls D = C at *
      by_cases hcl2 : C < ts.length
      · have hd2 : decide ((ts.length : Int) ≤ (C : Int)) = false := by simp; omega
        have c2 := (hb.cell (p := ⟨rb, rof + C, none⟩) hrl3).trans (HRC3.out C hcl2)
        have hws : wordS ts C = ts[C] := by rw [wordS, if_pos (by omega)]; simp [List.getD, hcl2]
        have hwl15 : (ts[C]).length ≤ 15 := by
          have h := wordS_length xs HOK.out C
          rw [HTS.out, hws] at h; exact h
        rw [hws] at HBS HAS HAF
        clear hws
        generalize ts[C] = wd at *
        by_cases he : wd = []
        · have hem : (str wd).toList.isEmpty = true := by rw [Lib.toList_data, str_data, he]; rfl
          have HNE := hide (show writeDE W H zs kind xs = 4 by rw [writeDE, if_pos HP.out, if_pos HK.out, if_pos HE.out, HTS.out, Int.toNat_natCast, HAF.out he]; rfl)
          have HNS := hide (show writeDS W H zs kind xs = [] by rw [writeDS, HNE.out, if_neg (by decide)])
          clear he
          go_wp2_with (go_at_call 73; refine (HCO.out _).mono ?_; rintro e wy ⟨rfl, rfl⟩)
          go_ret2
          rw [HNE.out, HNS.out]
          exact ⟨rfl, bel_trans HB3.out hb⟩
        · have hem : (str wd).toList.isEmpty = false := by rw [Lib.toList_data, str_data]; simpa using he
          have HO := hide (show dAll ts zs W kind (k + 1) = true by rw [HAS.out, HA.out]; simpa using he)
          clear he
          generalize dBits ts zs W kind k = L at *
          go_wp2_with (first | (go_at_call 73; refine (HCO.out _).mono ?_; rintro e wy ⟨rfl, rfl⟩) | (at_builtin; refine Lib.wpList_append_own_string _ rfl _ _ 71 9 rfl w3.heap.size 5 i0 Tryz.underlying71 Tryz.underlying9 hi hz0 hz1 hz2 _ _ _ rfl ho (str wd) rfl (by rw [str_size]; unfold maxLen; omega) (by rw [str_size]; omega) (by omega) ?_; intro v' w4 hown' hgrow _; have c4 := grown_cell ho hb (p := ⟨qb, qof + k, none⟩) hqlt HQK.out hgrow))
          have hb4 : Below w3.heap.size w3 w4 := hb.grown hgrow (by omega) (fun j hj => (ho.lt j hj).1)
          have ho4 : w4.ownsRow w3.heap.size 5 1 v' (L ++ wd).length (byt (L ++ wd)) := by
            rw [byt_append, List.length_append]
            have hx := hown'
            rw [str_size] at hx
            exact hx
          have hsz4 := hb4.size
          have hlw : (L ++ wd).length ≤ 122895 := by rw [List.length_append]; omega
          clear hown' hgrow ho hb c1 c2
          generalize hLW : L ++ wd = LW at *
          have HLW := hide hLW; clear hLW
          refine (HMO.out _).mono ?_
          rintro e w5 ⟨rfl, hb5⟩
          have ho5 := ownsRow_below ho4 hb5
          have hsz5 := hb5.size
          go_wp2_with (at_builtin; refine Lib.wpList_append_own_string _ rfl _ _ 71 9 rfl w3.heap.size 5 i0 Tryz.underlying71 Tryz.underlying9 hi hz0 hz1 hz2 _ _ _ rfl ho5 (str TB) rfl (by rw [str_size]; unfold maxLen; omega) (by rw [str_size]; omega) (by omega) ?_; intro v6 w6 hown6 hgrow6 _)
          have hb6 : Below w3.heap.size w3 w6 := (hb4.trans (hb5.mono hsz4)).grown hgrow6 (by omega) (fun j hj => (ho5.lt j hj).1)
          have ho6 : w6.ownsRow w3.heap.size 5 1 v6 (dBits ts zs W kind (k + 1)).length (byt (dBits ts zs W kind (k + 1))) := by
            rw [HBS.out, ← List.append_assoc, HLW.out, byt_append, List.length_append]
            have hx := hown6
            rw [str_size] at hx
            exact hx
          clear hown6 hgrow6 ho5 ho4
          go_roundw
          case rel => exact ⟨k + 1, by omega, by go_num, HO, ho6, hb6⟩
          case measure => simp [intOf]; omega
      · have hd2 : decide ((ts.length : Int) ≤ (C : Int)) = true := by simp; omega
        have HNE := hide (show writeDE W H zs kind xs = 4 by rw [writeDE, if_pos HP.out, if_pos HK.out, if_pos HE.out, HTS.out, Int.toNat_natCast, HAF.out (by rw [wordS, if_neg (by omega)])]; rfl)
        have HNS := hide (show writeDS W H zs kind xs = [] by rw [writeDS, HNE.out, if_neg (by decide)])
        go_wp2_with (go_at_call 73; refine (HCO.out _).mono ?_; rintro e wy ⟨rfl, rfl⟩)
        go_ret2
        rw [HNE.out, HNS.out]
        exact ⟨rfl, bel_trans HB3.out hb⟩
    · obtain rfl : k = zs.length := by omega
      have HNE := hide (show writeDE W H zs kind xs = 0 by rw [writeDE, if_pos HP.out, if_pos HK.out, if_pos HE.out, HTS.out, Int.toNat_natCast, if_pos HA.out])
      have HNS := hide (show writeDS W H zs kind xs = bytesOf (dBits ts zs W kind zs.length) by rw [writeDS, HNE.out, if_pos rfl, HTS.out, Int.toNat_natCast])
      generalize dBits ts zs W kind zs.length = DB at *
      have hcv := run_string_any (dst := 9) Tryz.underlying71 Tryz.underlying5 Tryz.underlying9 ho
      go_wp2_with fail
      refine (refBytes_any (str DB) (by rw [str_size]; omega) _).mono ?_
      rintro e w4 ⟨rfl, hb4⟩
      go_wp2
      go_ret2
      rw [HNE.out, HNS.out]
      exact ⟨rfl, bel_trans (bel_trans HB3.out hb) hb4⟩
theorem writeDiff_any (W H : Int) (vp v : Value) (zs : List Int) (kind : Int) (xs : List Int) (w : World) (hvp : IsInts w vp zs) (hv : IsInts w v xs) :
    Calls Tryz.prog 40 #[.agg #[.int .i64 W, .int .i64 H, vp], .int .i64 kind, v] w fun e w' => e = .returned (.tuple #[.string (str (writeDS W H zs kind xs)), .int .i64 (writeDE W H zs kind xs)]) ∧ Below w.heap.size w w' := by
  by_cases hp : planeOk W H zs = true
  · by_cases hk : kindOk kind = true
    · by_cases hE : checkE xs = 0
      · obtain ⟨⟨b1, _⟩, ⟨b3, _⟩, _, _⟩ := planeOk_parts hp
        obtain ⟨WN, rfl⟩ := Int.eq_ofNat_of_zero_le (show 0 ≤ W by omega)
        obtain ⟨HN, rfl⟩ := Int.eq_ofNat_of_zero_le (show 0 ≤ H by omega)
        exact writeDiff_walk WN HN vp v zs kind xs w hvp hv hp hk hE
      · have HNE := hide (show writeDE W H zs kind xs = checkE xs by rw [writeDE, if_pos hp, if_pos hk, if_neg hE])
        have HNS := hide (show writeDS W H zs kind xs = [] by rw [writeDS, HNE.out, if_neg hE])
        have hwk : decide (1 ≤ kind ∧ kind ≤ 7) = true := hk
        have HV := hide hv; clear hv
        have HVP := hide hvp
        obtain ⟨po, pc, rfl, hpl, hpc⟩ := hvp
        have hne : (checkE xs != 0) = true := by simpa using hE
        clear hpc hE hk
        go_enter Tryz.func40, Tryz.ntmps40
        go_wp2_with fail
        refine (planeFine_any _ _ _ zs _ (HVP.out.alloc _)).mono ?_
        rintro e w1 ⟨rfl, hb1⟩
        rw [hp]
        have HB1 := hide (bel_trans (bel_alloc w _) hb1)
        go_wp2_with (go_at_call 55; refine (within_any _ _ _ _).mono ?_; rintro e wx ⟨rfl, rfl⟩; rw [hwk])
        refine (checkCode_any _ _ _ (HV.out.below HB1.out (Nat.le_refl _))).mono ?_
        rintro e wx ⟨rfl, rfl⟩
        go_wp2
        go_ret2
        rw [HNE.out, HNS.out]
        exact ⟨rfl, HB1.out⟩
    · have HNE := hide (show writeDE W H zs kind xs = 6 by rw [writeDE, if_pos hp, if_neg hk])
      have HNS := hide (show writeDS W H zs kind xs = [] by rw [writeDS, HNE.out, if_neg (by decide)])
      have hk : kindOk kind = false := by simpa using hk
      have hwk : decide (1 ≤ kind ∧ kind ≤ 7) = false := hk
      have HVP := hide hvp
      obtain ⟨po, pc, rfl, hpl, hpc⟩ := hvp
      clear hpc hv hk
      go_enter Tryz.func40, Tryz.ntmps40
      go_wp2_with fail
      refine (planeFine_any _ _ _ zs _ (HVP.out.alloc _)).mono ?_
      rintro e w1 ⟨rfl, hb1⟩
      rw [hp]
      have HB1 := hide (bel_trans (bel_alloc w _) hb1)
      go_wp2_with (go_at_call 55; refine (within_any _ _ _ _).mono ?_; rintro e wx ⟨rfl, rfl⟩; rw [hwk])
      go_ret2
      rw [HNE.out, HNS.out]
      exact ⟨rfl, HB1.out⟩
  · have HNE := hide (show writeDE W H zs kind xs = 1 by rw [writeDE, if_neg hp])
    have HNS := hide (show writeDS W H zs kind xs = [] by rw [writeDS, HNE.out, if_neg (by decide)])
    have hp : planeOk W H zs = false := by simpa using hp
    have HVP := hide hvp
    obtain ⟨po, pc, rfl, hpl, hpc⟩ := hvp
    clear hpc hv
    go_enter Tryz.func40, Tryz.ntmps40
    go_wp2_with fail
    refine (planeFine_any _ _ _ zs _ (HVP.out.alloc _)).mono ?_
    rintro e w1 ⟨rfl, hb1⟩
    rw [hp]
    have HB1 := hide (bel_trans (bel_alloc w _) hb1)
    go_wp2
    go_ret2
    rw [HNE.out, HNS.out]
    exact ⟨rfl, HB1.out⟩
end Go.Proofs.YtanebhbfekcplaaGreat

namespace Go.Proofs.YtanebhbfekcplaaGreat
open Go.RowKit
theorem nxD_front (xs : List Int) (hE : checkE xs = 0) (b : List UInt8) :
    (frE (wordsOf xs) b ≠ 0 → nxD (bookOf xs) b = none) ∧
    (frE (wordsOf xs) b = 0 → ∃ i : Nat, i ≤ 16 ∧ ∃ hi : i < (wordsOf xs).length, frV (wordsOf xs) b = i ∧ (wordsOf xs)[i].length ≤ b.length ∧
      (i = 16 → nxD (bookOf xs) b = some (32768, (wordsOf xs)[i].length)) ∧
      (i ≤ 15 → b.length < (wordsOf xs)[i].length + i → nxD (bookOf xs) b = none) ∧
      (i ≤ 15 → (wordsOf xs)[i].length + i ≤ b.length → nxD (bookOf xs) b = some (tailV i (valOf ((b.drop (wordsOf xs)[i].length).take i)), (wordsOf xs)[i].length + i))) := by
  obtain ⟨h1, h2, h3⟩ := next_front (wordsOf xs) (words_pf xs hE) (some_word xs hE) b
  have h1' : (nextF (bookOf xs) [] b).1 = frV (wordsOf xs) b := h1
  have h2' : (nextF (bookOf xs) [] b).2.1 = frE (wordsOf xs) b := h2
  refine ⟨fun h => nxD_err (by rw [h2']; exact h), fun h => ?_⟩
  obtain ⟨i, hi, hv, hn, hp⟩ := h3 h
  have hg : (wordsOf xs).getD i [] = (wordsOf xs)[i] := by simp [List.getD, hi]
  have hn' : (nextF (bookOf xs) [] b).2.2 = (wordsOf xs)[i].length := by rw [← hg]; exact hn
  have h0 : (nextF (bookOf xs) [] b).2.1 = 0 := by rw [h2']; exact h
  have hv' : (nextF (bookOf xs) [] b).1 = i := by rw [h1']; exact hv
  have hl := (checkE_zero hE).2.1
  rw [hg] at hp
  have hle := hp.length_le
  rw [← wordsOf_length xs] at hl
  refine ⟨i, by omega, hi, hv, hle, fun h16 => ?_, fun h15 hs => ?_, fun h15 hs => ?_⟩
  · rw [nxD_top h0 (by rw [hv', h16]; rfl), hn']
  · exact nxD_short h0 i hv' h15 (by rw [hn']; exact hs)
  · have := nxD_ok h0 i hv' h15 (by rw [hn']; exact hs)
    rw [hn'] at this; exact this
theorem read_last {sb : List UInt8} {W H N pos : Nat} {kind : Int} {xs zs : List Int} (hN : W * H = N) (hW : sideOk W = true) (hH : sideOk H = true) (hk : kindOk kind = true) (hE : checkE xs = 0) (h : rdD (bookOf xs) (rowOf sb) W kind N = some (pos, zs)) :
    planeOk W H zs = true ∧ writeDE W H zs kind xs = 0 ∧ (writeDS W H zs kind xs = sb → readD sb W H kind xs = some zs) ∧ (writeDS W H zs kind xs ≠ sb → readD sb W H kind xs = none) := by
  have b1 : 1 ≤ (W : Int) ∧ (W : Int) ≤ 64 := by simpa [sideOk] using hW
  obtain ⟨hl, hs⟩ := rdD_len h
  have hts : (wordsOf xs).length ≤ 17 := by rw [wordsOf_length]; exact (checkE_zero hE).2.1
  obtain ⟨e1, e2, e3⟩ := rdD_back (wordsOf xs) hts (rowOf sb) (rowOf_allB sb) W (by omega) kind (nx_front xs hE) _ _ _ h
  have hp : planeOk W H zs = true := by
    rw [planeOk, hW, hH, hs]
    simp only [Bool.true_and, Bool.and_true, decide_eq_true_eq]
    rw [hl, ← hN, Int.natCast_mul]
  have hd : writeDE W H zs kind xs = 0 := by rw [writeDE, if_pos hp, if_pos hk, if_pos hE, hl, Int.toNat_natCast, if_pos e3]
  have hS : writeDS W H zs kind xs = bytesOf ((rowOf sb).take pos) := by rw [writeDS, if_pos hd, hl, Int.toNat_natCast, e2]
  rw [rowOf_length] at e1
  have hfi := fill_iff sb pos e1
  rw [← hS] at hfi
  refine ⟨hp, hd, fun hh => ?_, fun hh => ?_⟩
  · have hlen : sb.length ≤ (N * 30 + 7) / 8 := by
      rw [← hh, hS, bytesOf_length, e2]
      have := dBits_length xs (checkE_zero hE).2.2.1 zs W kind N
      omega
    rw [readD_rs hN hlen h, if_pos (hfi.1 hh)]
  · by_cases hlen : sb.length ≤ (N * 30 + 7) / 8
    · rw [readD_rs hN hlen h, if_neg (fun hf => hh (hfi.2 hf))]
    · rw [readD, Int.toNat_natCast, Int.toNat_natCast, hN]; exact if_neg hlen
set_option maxRecDepth 100000 in
set_option maxHeartbeats 1600000 in
theorem readDiff_walk (sb : List UInt8) (W H : Nat) (kind : Int) (v : Value) (xs : List Int) (w : World) (hv : IsInts w v xs) (hW : sideOk W = true) (hH : sideOk H = true) (hk : kindOk kind = true) (hE : checkE xs = 0) (hlen : sb.length ≤ 32768) :
    Calls Tryz.prog 60 #[.string (str sb), .int .i64 W, .int .i64 H, .int .i64 kind, v] w fun e w' => ∃ r, e = .returned (.tuple #[.agg #[.int .i64 (readDW sb W H kind xs), .int .i64 (readDH sb W H kind xs), r], .int .i64 (readDE sb W H kind xs)]) ∧ IsInts w' r (readDZ sb W H kind xs) ∧ Below w.heap.size w w' ∧ Fresh w.heap.size r := by
  obtain ⟨hl1, hl2, hok, _, _⟩ := checkE_zero hE
  obtain ⟨i0, hi, hz0, hz1, hz2⟩ := info_parts Tryz.infoInt
  have b1 : 1 ≤ (W : Int) ∧ (W : Int) ≤ 64 := by simpa [sideOk] using hW
  have b2 : 1 ≤ (H : Int) ∧ (H : Int) ≤ 64 := by simpa [sideOk] using hH
  have b3 := side_mul b1 b2
  obtain ⟨b1, b1'⟩ := b1
  obtain ⟨b2, b2'⟩ := b2
  obtain ⟨N, hN⟩ : ∃ N, W * H = N := ⟨_, rfl⟩
  have hNi : (W : Int) * (H : Int) = (N : Int) := by rw [← hN]; simp
  rw [hNi] at b3
  have HRN := hide (readD_rn (s := sb) (kind := kind) (xs := xs) hN)
  have HLA := hide (fun pos zs => read_last (sb := sb) (zs := zs) (pos := pos) hN hW hH hk hE)
  have HRE := hide (show readDE sb W H kind xs = if (readD sb W H kind xs).isSome = true then 0 else 1 by rw [readDE, if_pos ⟨hW, hH⟩, if_pos hk, if_pos hE])
  clear hN
  have hws : (str sb).size = sb.length := str_size sb
  have HV := hide hv; clear hv
  have HE := hide hE
  have HOK := hide hok
  have hsW : decide (1 ≤ (W : Int) ∧ (W : Int) ≤ 64) = true := hW
  have hsH : decide (1 ≤ (H : Int) ∧ (H : Int) ≤ 64) = true := hH
  have hsK : decide (1 ≤ kind ∧ kind ≤ 7) = true := hk
  have hl32 : decide (32768 < (sb.length : Int)) = false := by simp; omega
  clear hok hW hH hk
  go_enter Tryz.func60, Tryz.ntmps60
  go_wp2_with fail
  have R0 := heap_alloc_new w (Obj.cells #[.int .i64 0, .int .i64 0, .slice none 0 0] 34)
  have HB0 := hide (bel_alloc w (Obj.cells #[.int .i64 0, .int .i64 0, .slice none 0 0] 34))
  have hlt0 : w.heap.size < (w.alloc (Obj.cells #[.int .i64 0, .int .i64 0, .slice none 0 0] 34)).heap.size := by simp
  generalize w.alloc (Obj.cells #[.int .i64 0, .int .i64 0, .slice none 0 0] 34) = w0 at *
  refine (within_any _ _ _ _).mono ?_
  rintro e wx ⟨rfl, rfl⟩
  rw [hsW]
  go_wp2_with fail
  refine (within_any _ _ _ _).mono ?_
  rintro e wx ⟨rfl, rfl⟩
  rw [hsH]
  go_wp2_with fail
  refine (within_any _ _ _ _).mono ?_
  rintro e wx ⟨rfl, rfl⟩
  rw [hsK]
  have HV0 := hide (HV.out.below HB0.out (Nat.le_refl _))
  go_wp2_with fail
  refine (checkCode_any _ _ _ HV0.out).mono ?_
  rintro e wx ⟨rfl, rfl⟩
  rw [HE.out]
  go_wp2_with fail
  refine (wordsOf_any _ _ _ HV0.out HE.out).mono ?_
  rintro e w4 ⟨r, rfl, hr, hb4⟩
  have HRT := hide hr
  obtain ⟨ro, rc, rfl, hrl0, hrc⟩ := hr
  obtain ⟨rb, rof, hro, hrl, hrcell⟩ : ∃ b off, ro = some ⟨b, off, none⟩ ∧ b < w4.heap.size ∧ ∀ j (h : j < (wordsOf xs).length), w4.cell? ⟨b, off + j, none⟩ = some (.string (str (wordsOf xs)[j])) := by
    rcases hrc with h | h
    · have h2 := wordsOf_length xs; rw [h] at h2; simp at h2; omega
    · exact h
  subst hro
  have HRC := hide hrcell
  clear hrcell hrc hrl0
  go_wp2_with fail
  refine (row_any (str sb) (by omega) _).mono ?_
  rintro e w5 ⟨rfl, hb5⟩
  rw [str_data]
  have hbl : (rowOf sb).length ≤ 262144 := by rw [rowOf_length]; omega
  have hbm : allB (rowOf sb) = true := rowOf_allB _
  have h05 : w.heap.size < w5.heap.size := by have := hb4.size; have := hb5.size; omega
  have HB5 := hide (bel_trans hb4 hb5)
  have HR5 := hide (show w5.heap[w.heap.size]? = some (.cells #[.int .i64 0, .int .i64 0, .slice none 0 0] 34 (0, 0)) by rw [HB5.out.block _ hlt0]; exact R0)
  have HT5 := hide (HRT.out.below hb5 (Nat.le_refl _))
  have HRC5 := hide (show ∀ j (h : j < (wordsOf xs).length), w5.cell? ⟨rb, rof + j, none⟩ = some (.string (str (wordsOf xs)[j])) from fun j h => (hb5.cell (p := ⟨rb, rof + j, none⟩) hrl).trans (HRC.out j h))
  have hrl5 : rb < w5.heap.size := Nat.lt_of_lt_of_le hrl hb5.size
  have HVC5 := hide (HV0.out.below HB5.out (Nat.le_refl _))
  have HF := hide (nxD_front xs HE.out)
  have HDR := hide (show ∀ p d n, nxD (bookOf xs) ((rowOf sb).drop p) = some (d, n) → -32768 < d ∧ d ≤ 32768 from fun p d n h => by
    have := nxD_some (wordsOf xs) (by rw [wordsOf_length]; exact hl2) _ (allB_drop (rowOf_allB sb) p) (nx_front xs HE.out _) d n h
    exact ⟨this.2.2.1, this.2.2.2.1⟩)
  have HWL := hide (wordsOf_length xs)
  have H15 := hide (words15 xs HOK.out)
  clear hb4 hb5 R0 HRT HRC hrl HV0 HV
  generalize hbf : bookOf xs = f at *
  have HBF := hide hbf; clear hbf
  generalize hbb : rowOf sb = b at *
  have HBB := hide hbb; clear hbb
  generalize hts : wordsOf xs = ts at *
  have HTS := hide hts; clear hts
  obtain ⟨w6, hw6⟩ : ∃ w6, w6 = w5 := ⟨_, rfl⟩
  have h56 : w5.heap.size ≤ w6.heap.size := by rw [hw6]; exact Nat.le_refl _
  have hb6 : Below w5.heap.size w5 w6 := by rw [hw6]; exact Below.refl _ _
  go_wp2_with (at_make; refine wpList_make_full _ rfl _ _ 22 rfl w5.heap.size 3 i0 (.int .i64 0) 1 Tryz.underlying22 hi hz0 hz1 .i64 .i64 _ _ N rfl rfl rfl rfl (by rw [hz2]; omega) (by unfold maxLen; omega) (Nat.le_refl _) ?_; intro w7 hown hgr)
  rw [← hw6] at hown hgr ⊢
  have h67 : w6.heap.size < w7.heap.size := (hown.lt w6.heap.size rfl).2
  have HI := hide (show Below w5.heap.size w5 (w7.alloc (Obj.cells #[.int .i64 W, .int .i64 H, .slice (some ⟨w6.heap.size, 0, none⟩) N N] 34)) from (hb6.grown hgr hb6.size (by simp)).alloc (by omega) _)
  have HP0 := hide (heap_alloc_new w7 (Obj.cells #[.int .i64 W, .int .i64 H, .slice (some ⟨w6.heap.size, 0, none⟩) N N] 34))
  have hown2 := hown.alloc (Obj.cells #[.int .i64 W, .int .i64 H, .slice (some ⟨w6.heap.size, 0, none⟩) N N] 34)
  rw [← zRow_start] at hown2
  have hPs : w7.heap.size < (w7.alloc (Obj.cells #[.int .i64 W, .int .i64 H, .slice (some ⟨w6.heap.size, 0, none⟩) N N] 34)).heap.size := by simp
  generalize w7.alloc (Obj.cells #[.int .i64 W, .int .i64 H, .slice (some ⟨w6.heap.size, 0, none⟩) N N] 34) = W8 at *
  clear hown hgr hw6
  generalize w7.heap.size = PB at *
  go_loopw [14, 16] (fun bs i wr => ∃ (k pos : Nat) (zs : List Int), k ≤ N ∧ i = .int .i64 k ∧ zs.length = k ∧ bs = .string (str (b.drop pos)) ∧ Hid (rdD f b W kind k = some (pos, zs)) ∧ wr.ownsRow w6.heap.size 3 1 (.slice (some ⟨w6.heap.size, 0, none⟩) N N) N (zRow zs N) ∧ Hid (wr.heap[PB]? = some (.cells #[.int .i64 W, .int .i64 H, .slice (some ⟨w6.heap.size, 0, none⟩) N N] 34 (0, 0))) ∧ Hid (Below w5.heap.size w5 wr) ∧ PB < wr.heap.size)
    (fun _ i _ => N - (intOf i).toNat)
  case atStart => exact ⟨0, 0, [], Nat.zero_le _, rfl, rfl, rfl, rfl, hown2, HP0, HI, hPs⟩
  case round =>
    obtain ⟨k, pos, zs, hk, rfl, hzl, rfl, HRK, ho, HPB, HBL, hPl⟩ := hrel
    clear hown2 HI HP0 hPs
    have hsz := HBL.out.size
    have HWR := hide (HB0.out.trans ((HB5.out.trans (HBL.out.mono HB5.out.size)).mono HB0.out.size))
    have hRr : wr.heap[w.heap.size]? = some (.cells #[.int .i64 0, .int .i64 0, .slice none 0 0] 34 (0, 0)) := by rw [HBL.out.block _ h05]; exact HR5.out
    have q0 : wr.cell? ⟨w.heap.size, 0, none⟩ = some (.int .i64 0) := by rw [Lib.cell_of_heap hRr]; rfl
    have q1 : wr.cell? ⟨w.heap.size, 1, none⟩ = some (.int .i64 0) := by rw [Lib.cell_of_heap hRr]; rfl
    have q2 : wr.cell? ⟨w.heap.size, 2, none⟩ = some (.slice none 0 0) := by rw [Lib.cell_of_heap hRr]; rfl
    have f0 := Lib.frozen_of_heap hRr 0
    have f1 := Lib.frozen_of_heap hRr 1
    have f2 := Lib.frozen_of_heap hRr 2
    have p0 : wr.cell? ⟨PB, 0, none⟩ = some (.int .i64 W) := by rw [Lib.cell_of_heap HPB.out]; rfl
    have p1 : wr.cell? ⟨PB, 1, none⟩ = some (.int .i64 H) := by rw [Lib.cell_of_heap HPB.out]; rfl
    have p2 : wr.cell? ⟨PB, 2, none⟩ = some (.slice (some ⟨w6.heap.size, 0, none⟩) N N) := by rw [Lib.cell_of_heap HPB.out]; rfl
    by_cases hlt : k < N
    · have hd : decide ((k : Int) < (N : Int)) = true := by simp; omega
      have HRKN := hide (show nxD f (b.drop pos) = none → rdD f b W kind N = none from fun h => rdD_none (k := k + 1) hlt (by rw [rdD, HRK.out]; simp only [h]))
      have HRKS := hide (show ∀ d m, nxD f (b.drop pos) = some (d, m) → rdD f b W kind (k + 1) = some (pos + m, zs ++ [(gAt zs W kind k + d) % 65536]) from fun d m h => by rw [rdD, HRK.out]; simp only [h])
      have HDRP := hide (HDR.out pos)
      have HTW := hide (HT5.out.below HBL.out (Nat.le_refl _))
      have hrest : (b.drop pos).length ≤ 262144 := by rw [List.length_drop]; omega
      have HAB := hide (allB_drop hbm pos)
      have HDD := hide (fun m => show (b.drop pos).drop m = b.drop (pos + m) by rw [List.drop_drop])
      obtain ⟨hF1, hF2⟩ := HF.out (b.drop pos)
      have HF1 := hide hF1
      have HF2 := hide hF2
      clear hF1 hF2
      obtain ⟨hzs1, hzs2⟩ := rdD_len HRK.out
      have HIN9 := hide (show IsInts wr (.slice (some ⟨w6.heap.size, 0, none⟩) N N) (zs ++ List.replicate (N - zs.length) 0) by
        have hlp : (zs ++ List.replicate (N - zs.length) 0).length = N := by rw [List.length_append, List.length_replicate]; omega
        have h9 : IsInts wr (.slice (some ⟨w6.heap.size, 0, none⟩) N N) (zs ++ List.replicate (N - zs.length) 0) := by
          refine IsInts.own (base := w6.heap.size) ?_ (by rw [hlp]; omega)
          rw [hlp, ← zRow_ints]; exact ho
        exact h9)
      have hgp : gAt (zs ++ List.replicate (N - zs.length) 0) W kind k = gAt zs W kind k := gAt_pre (by omega) fun j hj => by simp [List.getD, List.getElem?_append_left (show j < zs.length by omega)]
      have hgr := gAt_range zs W kind k hzs2
      have hqb : k / W ≤ 4096 := Nat.le_trans (Nat.div_le_self k W) (by omega)
      have HGU := hide (show ∀ w', Below wr.heap.size wr w' → Calls Tryz.prog 114 #[.agg #[.int .i64 W, .int .i64 H, .slice (some ⟨w6.heap.size, 0, none⟩) N N], .int .i64 kind, .int .i64 ((k % W : Nat) : Int), .int .i64 ((k / W : Nat) : Int)] w' fun e w'' => e = .returned (.int .i64 (gAt zs W kind k)) ∧ Below wr.heap.size wr w'' from fun w' h => by
        have hlp : (zs ++ List.replicate (N - zs.length) 0).length = N := by rw [List.length_append, List.length_replicate]; omega
        refine (guessOf_any _ (zs ++ List.replicate (N - zs.length) 0) W _ _ H kind k w' (HIN9.out.below h (Nat.le_refl _)) (by omega) (by omega) (by rw [hlp]; exact hlt) (by rw [hlp]; omega) (pad_ok _ _ hzs2) rfl rfl).mono fun e w'' h2 => ⟨?_, h.trans (h2.2.mono h.size)⟩
        rw [← hgp]; exact h2.1)
      clear hgp
      generalize gAt zs W kind k = G at *
      have hne6 : PB ≠ w6.heap.size := by omega
      have c9 := ho.cellAt k (by omega)
      rw [zRow_getk zs N k hzl hlt] at c9
      have f9 := ho.frozenAt k
      have HCX := hide (show ∀ w', Below wr.heap.size wr w' → w'.cell? ⟨w6.heap.size, k, none⟩ = some (.int .i64 0) ∧ w'.frozen? ⟨w6.heap.size, k, none⟩ = false from fun w' h =>
        ⟨(h.cell (p := ⟨w6.heap.size, k, none⟩) (by show w6.heap.size < _; omega)).trans c9, (World.frozen?_of_block (h.block w6.heap.size (by omega))).trans f9⟩)
      have HS := hide (show ∀ w', Below wr.heap.size wr w' → w'.cell? ⟨PB, 0, none⟩ = some (.int .i64 W) ∧ w'.cell? ⟨PB, 1, none⟩ = some (.int .i64 H) ∧ w'.cell? ⟨PB, 2, none⟩ = some (.slice (some ⟨w6.heap.size, 0, none⟩) N N) from fun w' h =>
        ⟨(h.cell (p := ⟨PB, 0, none⟩) hPl).trans p0, (h.cell (p := ⟨PB, 1, none⟩) hPl).trans p1, (h.cell (p := ⟨PB, 2, none⟩) hPl).trans p2⟩)
      have HS2 := hide (show ∀ w' u, Below wr.heap.size wr w' → (w'.setCell ⟨w6.heap.size, k, none⟩ u).cell? ⟨PB, 0, none⟩ = some (.int .i64 W) ∧ (w'.setCell ⟨w6.heap.size, k, none⟩ u).cell? ⟨PB, 1, none⟩ = some (.int .i64 H) ∧ (w'.setCell ⟨w6.heap.size, k, none⟩ u).cell? ⟨PB, 2, none⟩ = some (.slice (some ⟨w6.heap.size, 0, none⟩) N N) from fun w' u h => by
        obtain ⟨t0, t1, t2⟩ := HS.out w' h
        have hbk := Below.heap_setCell w' ⟨w6.heap.size, k, none⟩ u PB hne6
        exact ⟨(World.cell?_of_block (a := ⟨PB, 0, none⟩) hbk).trans t0, (World.cell?_of_block (a := ⟨PB, 1, none⟩) hbk).trans t1, (World.cell?_of_block (a := ⟨PB, 2, none⟩) hbk).trans t2⟩)
      have hk0 : (0 : Int) ≤ (k : Int) := by omega
      have hkN : (k : Int) < (N : Int) := by omega
      clear c9 f9
      generalize hLe : b.drop pos = L at *
      clear hLe
      go_wp2_with fail
      refine (front_any _ ts L _ HTW.out (by rw [HWL.out]; exact hl1) (by omega) H15.out).mono ?_
      rintro e wz ⟨rfl, rfl⟩
      by_cases hfe : frE ts L = 0
      · obtain ⟨i, hi16, hil, hfv, hle, g16, g15, gok⟩ := HF2.out hfe
        have G16 := hide g16
        have G15 := hide g15
        have GOK := hide gok
        rw [hfe, hfv]
        have c1 := (HBL.out.cell (p := ⟨rb, rof + i, none⟩) hrl5).trans (HRC5.out i hil)
        have hwsz : (str ts[i]).size = ts[i].length := str_size _
        have hrs : (str L).size = L.length := str_size _
        have HX2 := hide (fun m => show (str L).extract m L.length = str (L.drop m) by rw [Lib.extract_eq, str_data, List.take_of_length_le (by rw [List.length_drop]; exact Nat.le_refl _)]; rfl)
        clear g16 g15 gok hfe hfv HF1 HF2
        generalize ts[i] = wd at *
        have hx2 := HX2.out wd.length
        by_cases h16 : i = 16
        · subst h16
          have HNXS := hide (G16.out rfl)
          have hDr := HDRP.out 32768 wd.length HNXS.out
          have HDROP := hide (show Value.string (str (L.drop wd.length)) = .string (str (b.drop (pos + wd.length))) by rw [HDD.out])
          have HDROP2 := hide (show Value.string ((str L).extract wd.length L.length) = .string (str (L.drop wd.length)) from congrArg _ (HX2.out wd.length))
          have hw1 : ¬ (W = 0) := by omega
          have hw2 : ¬ ((W : Int) = 0) := by omega
          have HREM := hide (show (k : Int) % (W : Int) = ((k % W : Nat) : Int) from rfl)
          have HQUO := hide (show IntKind.i64.wrap ((k : Int) / (W : Int)) = ((k / W : Nat) : Int) by rw [show (k : Int) / (W : Int) = ((k / W : Nat) : Int) from rfl]; generalize k / W = q at hqb ⊢; exact IntWalk.i64_in _ (by omega))
          have hgd : IntKind.i64.wrap (G + 32768) = G + 32768 := IntWalk.i64_in _ (by omega)
          have HDN := hide (down16_any (G + 32768) (by omega) (by omega))
          have hwq : IntKind.i64.wrap (65536 * ((G + 32768) / 65536)) = 65536 * ((G + 32768) / 65536) := IntWalk.i64_in _ (by omega)
          have hwm : IntKind.i64.wrap (G + 32768 - 65536 * ((G + 32768) / 65536)) = (G + 32768) % 65536 := by rw [IntWalk.i64_in _ (by omega)]; omega
          have HRK2 := hide (HRKS.out 32768 (wd.length) HNXS.out)
          have hrefl := Below.refl wr.heap.size wr
          have hdrew : Below wr.heap.size wr wr.drew := (Below.refl _ _).drew
          generalize hEE : G + 32768 = E at *
          generalize E / 65536 = Q at *
          generalize E % 65536 = M at *
          go_wp2_with fail
          go_region_held3 (fun w' => w'.cell? ⟨PB, 0, none⟩ = some (.int .i64 W) ∧ w'.cell? ⟨PB, 1, none⟩ = some (.int .i64 H) ∧ w'.cell? ⟨PB, 2, none⟩ = some (.slice (some ⟨w6.heap.size, 0, none⟩) N N))
            (first | (refine HS.out _ ?_; assumption) | go_keep)
            (first | (go_at_call 114; (try rw [HREM.out]); (try rw [HQUO.out]); refine (HGU.out _ ?_).mono ?_; assumption; rintro e wx ⟨rfl, hNB⟩))
          obtain ⟨cx, fx⟩ := HCX.out _ hNB
          obtain ⟨y0, y1, y2⟩ := HS.out _ hNB
          have HT2 := hide (show ∀ w' u, Below wx.heap.size wx w' → (w'.setCell ⟨w6.heap.size, k, none⟩ u).cell? ⟨PB, 2, none⟩ = some (.slice (some ⟨w6.heap.size, 0, none⟩) N N) from fun w' u h => (HS2.out w' u (hNB.trans (h.mono hNB.size))).2.2)
          have HT1 := hide (show ∀ w', Below wx.heap.size wx w' → w'.cell? ⟨PB, 2, none⟩ = some (.slice (some ⟨w6.heap.size, 0, none⟩) N N) from fun w' h => (HS.out w' (hNB.trans (h.mono hNB.size))).2.2)
          have HCX2 := hide (show ∀ w', Below wx.heap.size wx w' → w'.cell? ⟨w6.heap.size, k, none⟩ = some (.int .i64 0) ∧ w'.frozen? ⟨w6.heap.size, k, none⟩ = false from fun w' h => HCX.out w' (hNB.trans (h.mono hNB.size)))
          clear hrefl hdrew
          have hrefl := Below.refl wx.heap.size wx
          have hdrew : Below wx.heap.size wx wx.drew := (Below.refl _ _).drew
          have fxd : wx.drew.frozen? ⟨w6.heap.size, k, none⟩ = false := fx
          have cxd : wx.drew.cell? ⟨w6.heap.size, k, none⟩ = some (.int .i64 0) := cx
          go_wp2_with fail
          go_region_held3 (fun w' => w'.cell? ⟨PB, 2, none⟩ = some (.slice (some ⟨w6.heap.size, 0, none⟩) N N))
            (first | (refine HT1.out _ ?_; assumption) | (refine HT2.out _ _ ?_; assumption) | go_keep)
            (first | (go_at_call 115; refine (HDN.out _).mono ?_; rintro e wy ⟨rfl, rfl⟩))
          have hox0 := ((ownsRow_below ho hNB).stored k (.int .i64 M)).1
          rw [zRow_setk zs N k _ hzl hlt] at hox0
          have hox : (wx.setCell ⟨w6.heap.size, k, none⟩ (.int .i64 M)).drew.ownsRow w6.heap.size 3 1 (.slice (some ⟨w6.heap.size, 0, none⟩) N N) N (zRow (zs ++ [M]) N) := hox0
          have HPX := hide (show (wx.setCell ⟨w6.heap.size, k, none⟩ (.int .i64 M)).drew.heap[PB]? = some (.cells #[.int .i64 W, .int .i64 H, .slice (some ⟨w6.heap.size, 0, none⟩) N N] 34 (0, 0)) by
            show (wx.setCell ⟨w6.heap.size, k, none⟩ (.int .i64 M)).heap[PB]? = _
            rw [Below.heap_setCell _ _ _ _ hne6, hNB.block PB hPl]; exact HPB.out)
          have HBX := hide (show Below w5.heap.size w5 (wx.setCell ⟨w6.heap.size, k, none⟩ (.int .i64 M)).drew from ((HBL.out.trans (hNB.mono HBL.out.size)).setCell (p := ⟨w6.heap.size, k, none⟩) h56 _).drew)
          have hszx : PB < (wx.setCell ⟨w6.heap.size, k, none⟩ (.int .i64 M)).drew.heap.size := by
            have hs := hNB.size
            show PB < (wx.setCell ⟨w6.heap.size, k, none⟩ (.int .i64 M)).heap.size
            simp only [World.setCell, Array.size_modify]
            exact Nat.lt_of_lt_of_le hPl hs
          have hzl2 : (zs ++ [M]).length = k + 1 := by simp [hzl]
          clear hox0
          generalize (wx.setCell ⟨w6.heap.size, k, none⟩ (.int .i64 M)).drew = WX at *
          clear hrefl hdrew cx fx hNB HS HS2 HCX HGU HT1 HT2 HCX2 cxd fxd y0 y1 y2 ho
          go_wp2
          go_roundw
          case rel => exact ⟨k + 1, pos + (wd.length), zs ++ [M], by omega, by go_num, hzl2, by first | exact HDROP.out | exact HDROP2.out.trans HDROP.out, HRK2, hox, HPX, HBX, hszx⟩
          case measure => simp [intOf]; omega
        · have hi15 : i ≤ 15 := by omega
          have hib : ((i : Int) == 16) = false := by simp; omega
          have HD1 := hide (HDD.out (wd.length + i))
          have hL1 : (L.drop wd.length).length = L.length - wd.length := List.length_drop
          have HAB1 := hide (allB_drop HAB.out wd.length)
          have HD2 := hide (show (L.drop wd.length).drop i = L.drop (wd.length + i) from List.drop_drop)
          have G15 := hide (G15.out hi15)
          have GOK := hide (GOK.out hi15)
          clear G16 h16
          generalize L.drop wd.length = L1 at *
          have hrs1 : (str L1).size = L1.length := str_size _
          by_cases hsh : L1.length < i
          · have HNX := hide (G15.out (by omega))
            have HNE := hide (show readDE sb W H kind xs = 1 by rw [HRE.out, HRN.out (HRKN.out HNX.out)]; rfl)
            have hd2 : decide ((L1.length : Int) < (i : Int)) = true := by simp; omega
            clear hL1
            go_wp2
            refine bodyPost_ret (v := .tuple #[.agg #[.int .i64 0, .int .i64 0, .slice none 0 0], .int .i64 1]) (by simp [results, Tryz.results60, go_sem, q0, q1, q2]) rfl ⟨.slice none 0 0, ?_, ?_, ?_, Fresh.nil _⟩
            · rw [readDW, readDH, HNE.out]; rfl
            · rw [readDZ, HNE.out]; exact IsInts.nil _
            · exact ((HWR.out.setCell (p := ⟨w.heap.size, 0, none⟩) (Nat.le_refl _) _).setCell (p := ⟨w.heap.size, 1, none⟩) (Nat.le_refl _) _).setCell (p := ⟨w.heap.size, 2, none⟩) (Nat.le_refl _) _
          · have hd2 : decide ((L1.length : Int) < (i : Int)) = false := by simp; omega
            have HNXG := hide (GOK.out (by omega))
            have hx3 : (str L1).extract 0 i = str (L1.take i) := by rw [Lib.extract_eq, str_data, List.drop_zero, Nat.sub_zero]; rfl
            have hx4 : (str L1).extract i L1.length = str (L1.drop i) := by rw [Lib.extract_eq, str_data, List.take_of_length_le (by rw [List.length_drop]; exact Nat.le_refl _)]; rfl
            have hlt1 : (L1.take i).length = i := by rw [List.length_take]; omega
            have HABT := hide (allB_take HAB1.out i)
            have hv := valOf_lt _ HABT.out
            rw [hlt1] at hv
            have HTV := hide (show tailV i (valOf (L1.take i)) = if valOf (L1.take i) < 2 ^ i / 2 then ((valOf (L1.take i) : Nat) : Int) - ((2 ^ i : Nat) - 1) else ((valOf (L1.take i) : Nat) : Int) by rw [tailV, pow_cast])
            have HVAL := hide (fun w => refValue_any (str (L1.take i)) w (by rw [str_size]; omega) HABT.out)
            rw [str_data] at HVAL
            have hp := pow16 (n := i) (by omega)
            have hDr := HDRP.out _ _ HNXG.out
            generalize valOf (L1.take i) = V at *
            generalize hTV : tailV i V = TV at *
            clear hTV
            obtain ⟨pp, hpe⟩ : ∃ p : Nat, 2 ^ i = p := ⟨_, rfl⟩
            rw [hpe] at hp hv HTV
            have HPE := hide hpe
            have HDROP := hide (show Value.string (str (L1.drop i)) = .string (str (b.drop (pos + (wd.length + i)))) by rw [HD2.out, HD1.out])
            have HDROP2 := hide (show Value.string ((str L1).extract i L1.length) = .string (str (L1.drop i)) from congrArg _ hx4)
            generalize hT1 : str L1 = T1 at hx2 hrs1 hx3 hx4 HDROP2
            clear hT1
            have hlL1 : L1.length ≤ 262144 := by omega
            have hil2 : i ≤ L1.length := by omega
            clear hpe hL1 hsh hlt1 HD1 HD2
            by_cases hlow : V < pp / 2
            · have HDE := hide (HTV.out.trans (if_pos hlow))
              obtain ⟨D, hDe⟩ : ∃ D : Int, (V : Int) - (pp : Int) + 1 = D := ⟨_, rfl⟩
              have HNXS := hide (show nxD f L = some (D, wd.length + i) by rw [HNXG.out, HDE.out, ← hDe]; congr 2; omega)
              have hDr : -32768 < D ∧ D ≤ 32768 := by have := HDE.out; omega
              clear HTV HNXG HDE
              have HAR := hide (And.intro hne6 (And.intro hqb (And.intro hgr (And.intro hDr (And.intro hNi (And.intro b3 (And.intro hk (And.intro hkN (And.intro hk0 (And.intro hzl (And.intro hzs1 (And.intro hlt (And.intro hPl (And.intro hsz (And.intro h56 (And.intro h67 (And.intro h05 (And.intro hlt0 (And.intro hrl5 (And.intro hlen (And.intro hbl (And.intro b1 (And.intro b1' (And.intro b2 (And.intro b2' (And.intro hl1 (And.intro hl2 (hws))))))))))))))))))))))))))))
              clear hne6 hqb hgr hDr hNi b3 hk hkN hk0 hzl hzs1 hlt hPl hsz h56 h67 h05 hlt0 hrl5 hlen hbl b1 b1' b2 b2' hl1 hl2 hws hd
              go_wp2_with fail
              refine (HVAL.out _).mono ?_
              rintro e wv ⟨rfl, rfl⟩
              clear hx2 hx3 hrs hwsz hrest hle hil c1
              have hw : Value.int .i64 (wrap64 ((2 : Int) ^ i)) = Value.int .i64 (pp : Int) := by rw [wrap_pow (n := i) (by omega), HPE.out]
              go_wp2_with fail
              clear hw
              obtain ⟨hne6, hqb, hgr, hDr, hNi, b3, hk, hkN, hk0, hzl, hzs1, hlt, hPl, hsz, h56, h67, h05, hlt0, hrl5, hlen, hbl, b1, b1', b2, b2', hl1, hl2, hws⟩ := HAR.out
              clear hp hv hlow hDe
              have hw1 : ¬ (W = 0) := by omega
              have hw2 : ¬ ((W : Int) = 0) := by omega
              have HREM := hide (show (k : Int) % (W : Int) = ((k % W : Nat) : Int) from rfl)
              have HQUO := hide (show IntKind.i64.wrap ((k : Int) / (W : Int)) = ((k / W : Nat) : Int) by rw [show (k : Int) / (W : Int) = ((k / W : Nat) : Int) from rfl]; generalize k / W = q at hqb ⊢; exact IntWalk.i64_in _ (by omega))
              have hgd : IntKind.i64.wrap (G + D) = G + D := IntWalk.i64_in _ (by omega)
              have HDN := hide (down16_any (G + D) (by omega) (by omega))
              have hwq : IntKind.i64.wrap (65536 * ((G + D) / 65536)) = 65536 * ((G + D) / 65536) := IntWalk.i64_in _ (by omega)
              have hwm : IntKind.i64.wrap (G + D - 65536 * ((G + D) / 65536)) = (G + D) % 65536 := by rw [IntWalk.i64_in _ (by omega)]; omega
              have HRK2 := hide (HRKS.out D (wd.length + i) HNXS.out)
              have hrefl := Below.refl wr.heap.size wr
              have hdrew : Below wr.heap.size wr wr.drew := (Below.refl _ _).drew
              generalize hEE : G + D = E at *
              generalize E / 65536 = Q at *
              generalize E % 65536 = M at *
              go_region_held3 (fun w' => w'.cell? ⟨PB, 0, none⟩ = some (.int .i64 W) ∧ w'.cell? ⟨PB, 1, none⟩ = some (.int .i64 H) ∧ w'.cell? ⟨PB, 2, none⟩ = some (.slice (some ⟨w6.heap.size, 0, none⟩) N N))
                (first | (refine HS.out _ ?_; assumption) | go_keep)
                (first | (go_at_call 114; (try rw [HREM.out]); (try rw [HQUO.out]); refine (HGU.out _ ?_).mono ?_; assumption; rintro e wx ⟨rfl, hNB⟩))
              obtain ⟨cx, fx⟩ := HCX.out _ hNB
              obtain ⟨y0, y1, y2⟩ := HS.out _ hNB
              have HT2 := hide (show ∀ w' u, Below wx.heap.size wx w' → (w'.setCell ⟨w6.heap.size, k, none⟩ u).cell? ⟨PB, 2, none⟩ = some (.slice (some ⟨w6.heap.size, 0, none⟩) N N) from fun w' u h => (HS2.out w' u (hNB.trans (h.mono hNB.size))).2.2)
              have HT1 := hide (show ∀ w', Below wx.heap.size wx w' → w'.cell? ⟨PB, 2, none⟩ = some (.slice (some ⟨w6.heap.size, 0, none⟩) N N) from fun w' h => (HS.out w' (hNB.trans (h.mono hNB.size))).2.2)
              have HCX2 := hide (show ∀ w', Below wx.heap.size wx w' → w'.cell? ⟨w6.heap.size, k, none⟩ = some (.int .i64 0) ∧ w'.frozen? ⟨w6.heap.size, k, none⟩ = false from fun w' h => HCX.out w' (hNB.trans (h.mono hNB.size)))
              clear hrefl hdrew
              have hrefl := Below.refl wx.heap.size wx
              have hdrew : Below wx.heap.size wx wx.drew := (Below.refl _ _).drew
              have fxd : wx.drew.frozen? ⟨w6.heap.size, k, none⟩ = false := fx
              have cxd : wx.drew.cell? ⟨w6.heap.size, k, none⟩ = some (.int .i64 0) := cx
              go_wp2_with fail
              go_region_held3 (fun w' => w'.cell? ⟨PB, 2, none⟩ = some (.slice (some ⟨w6.heap.size, 0, none⟩) N N))
                (first | (refine HT1.out _ ?_; assumption) | (refine HT2.out _ _ ?_; assumption) | go_keep)
                (first | (go_at_call 115; refine (HDN.out _).mono ?_; rintro e wy ⟨rfl, rfl⟩))
              have hox0 := ((ownsRow_below ho hNB).stored k (.int .i64 M)).1
              rw [zRow_setk zs N k _ hzl hlt] at hox0
              have hox : (wx.setCell ⟨w6.heap.size, k, none⟩ (.int .i64 M)).drew.ownsRow w6.heap.size 3 1 (.slice (some ⟨w6.heap.size, 0, none⟩) N N) N (zRow (zs ++ [M]) N) := hox0
              have HPX := hide (show (wx.setCell ⟨w6.heap.size, k, none⟩ (.int .i64 M)).drew.heap[PB]? = some (.cells #[.int .i64 W, .int .i64 H, .slice (some ⟨w6.heap.size, 0, none⟩) N N] 34 (0, 0)) by
                show (wx.setCell ⟨w6.heap.size, k, none⟩ (.int .i64 M)).heap[PB]? = _
                rw [Below.heap_setCell _ _ _ _ hne6, hNB.block PB hPl]; exact HPB.out)
              have HBX := hide (show Below w5.heap.size w5 (wx.setCell ⟨w6.heap.size, k, none⟩ (.int .i64 M)).drew from ((HBL.out.trans (hNB.mono HBL.out.size)).setCell (p := ⟨w6.heap.size, k, none⟩) h56 _).drew)
              have hszx : PB < (wx.setCell ⟨w6.heap.size, k, none⟩ (.int .i64 M)).drew.heap.size := by
                have hs := hNB.size
                show PB < (wx.setCell ⟨w6.heap.size, k, none⟩ (.int .i64 M)).heap.size
                simp only [World.setCell, Array.size_modify]
                exact Nat.lt_of_lt_of_le hPl hs
              have hzl2 : (zs ++ [M]).length = k + 1 := by simp [hzl]
              clear hox0
              generalize (wx.setCell ⟨w6.heap.size, k, none⟩ (.int .i64 M)).drew = WX at *
              clear hrefl hdrew cx fx hNB HS HS2 HCX HGU HT1 HT2 HCX2 cxd fxd y0 y1 y2 ho
              go_wp2
              go_roundw
              case rel => exact ⟨k + 1, pos + (wd.length + i), zs ++ [M], by omega, by go_num, hzl2, by first | exact HDROP.out | exact HDROP2.out.trans HDROP.out, HRK2, hox, HPX, HBX, hszx⟩
              case measure => simp [intOf]; omega
            · have HDE := hide (HTV.out.trans (if_neg hlow))
              have HNXS := hide (show nxD f L = some ((V : Int), wd.length + i) by rw [HNXG.out, HDE.out])
              have hDr : -32768 < (V : Int) ∧ (V : Int) ≤ 32768 := by have := HDE.out; omega
              clear HTV HNXG HDE
              have HAR := hide (And.intro hne6 (And.intro hqb (And.intro hgr (And.intro hDr (And.intro hNi (And.intro b3 (And.intro hk (And.intro hkN (And.intro hk0 (And.intro hzl (And.intro hzs1 (And.intro hlt (And.intro hPl (And.intro hsz (And.intro h56 (And.intro h67 (And.intro h05 (And.intro hlt0 (And.intro hrl5 (And.intro hlen (And.intro hbl (And.intro b1 (And.intro b1' (And.intro b2 (And.intro b2' (And.intro hl1 (And.intro hl2 (hws))))))))))))))))))))))))))))
              clear hne6 hqb hgr hDr hNi b3 hk hkN hk0 hzl hzs1 hlt hPl hsz h56 h67 h05 hlt0 hrl5 hlen hbl b1 b1' b2 b2' hl1 hl2 hws hd
              go_wp2_with fail
              refine (HVAL.out _).mono ?_
              rintro e wv ⟨rfl, rfl⟩
              clear hx2 hx3 hrs hwsz hrest hle hil c1
              have hw : Value.int .i64 (wrap64 ((2 : Int) ^ i)) = Value.int .i64 (pp : Int) := by rw [wrap_pow (n := i) (by omega), HPE.out]
              go_wp2_with fail
              clear hw
              obtain ⟨hne6, hqb, hgr, hDr, hNi, b3, hk, hkN, hk0, hzl, hzs1, hlt, hPl, hsz, h56, h67, h05, hlt0, hrl5, hlen, hbl, b1, b1', b2, b2', hl1, hl2, hws⟩ := HAR.out
              clear hp hv hlow
              have hw1 : ¬ (W = 0) := by omega
              have hw2 : ¬ ((W : Int) = 0) := by omega
              have HREM := hide (show (k : Int) % (W : Int) = ((k % W : Nat) : Int) from rfl)
              have HQUO := hide (show IntKind.i64.wrap ((k : Int) / (W : Int)) = ((k / W : Nat) : Int) by rw [show (k : Int) / (W : Int) = ((k / W : Nat) : Int) from rfl]; generalize k / W = q at hqb ⊢; exact IntWalk.i64_in _ (by omega))
              have hgd : IntKind.i64.wrap (G + (V : Int)) = G + (V : Int) := IntWalk.i64_in _ (by omega)
              have HDN := hide (down16_any (G + (V : Int)) (by omega) (by omega))
              have hwq : IntKind.i64.wrap (65536 * ((G + (V : Int)) / 65536)) = 65536 * ((G + (V : Int)) / 65536) := IntWalk.i64_in _ (by omega)
              have hwm : IntKind.i64.wrap (G + (V : Int) - 65536 * ((G + (V : Int)) / 65536)) = (G + (V : Int)) % 65536 := by rw [IntWalk.i64_in _ (by omega)]; omega
              have HRK2 := hide (HRKS.out (V : Int) (wd.length + i) HNXS.out)
              have hrefl := Below.refl wr.heap.size wr
              have hdrew : Below wr.heap.size wr wr.drew := (Below.refl _ _).drew
              generalize hEE : G + (V : Int) = E at *
              generalize E / 65536 = Q at *
              generalize E % 65536 = M at *
              go_region_held3 (fun w' => w'.cell? ⟨PB, 0, none⟩ = some (.int .i64 W) ∧ w'.cell? ⟨PB, 1, none⟩ = some (.int .i64 H) ∧ w'.cell? ⟨PB, 2, none⟩ = some (.slice (some ⟨w6.heap.size, 0, none⟩) N N))
                (first | (refine HS.out _ ?_; assumption) | go_keep)
                (first | (go_at_call 114; (try rw [HREM.out]); (try rw [HQUO.out]); refine (HGU.out _ ?_).mono ?_; assumption; rintro e wx ⟨rfl, hNB⟩))
              obtain ⟨cx, fx⟩ := HCX.out _ hNB
              obtain ⟨y0, y1, y2⟩ := HS.out _ hNB
              have HT2 := hide (show ∀ w' u, Below wx.heap.size wx w' → (w'.setCell ⟨w6.heap.size, k, none⟩ u).cell? ⟨PB, 2, none⟩ = some (.slice (some ⟨w6.heap.size, 0, none⟩) N N) from fun w' u h => (HS2.out w' u (hNB.trans (h.mono hNB.size))).2.2)
              have HT1 := hide (show ∀ w', Below wx.heap.size wx w' → w'.cell? ⟨PB, 2, none⟩ = some (.slice (some ⟨w6.heap.size, 0, none⟩) N N) from fun w' h => (HS.out w' (hNB.trans (h.mono hNB.size))).2.2)
              have HCX2 := hide (show ∀ w', Below wx.heap.size wx w' → w'.cell? ⟨w6.heap.size, k, none⟩ = some (.int .i64 0) ∧ w'.frozen? ⟨w6.heap.size, k, none⟩ = false from fun w' h => HCX.out w' (hNB.trans (h.mono hNB.size)))
              clear hrefl hdrew
              have hrefl := Below.refl wx.heap.size wx
              have hdrew : Below wx.heap.size wx wx.drew := (Below.refl _ _).drew
              have fxd : wx.drew.frozen? ⟨w6.heap.size, k, none⟩ = false := fx
              have cxd : wx.drew.cell? ⟨w6.heap.size, k, none⟩ = some (.int .i64 0) := cx
              go_wp2_with fail
              go_region_held3 (fun w' => w'.cell? ⟨PB, 2, none⟩ = some (.slice (some ⟨w6.heap.size, 0, none⟩) N N))
                (first | (refine HT1.out _ ?_; assumption) | (refine HT2.out _ _ ?_; assumption) | go_keep)
                (first | (go_at_call 115; refine (HDN.out _).mono ?_; rintro e wy ⟨rfl, rfl⟩))
              have hox0 := ((ownsRow_below ho hNB).stored k (.int .i64 M)).1
              rw [zRow_setk zs N k _ hzl hlt] at hox0
              have hox : (wx.setCell ⟨w6.heap.size, k, none⟩ (.int .i64 M)).drew.ownsRow w6.heap.size 3 1 (.slice (some ⟨w6.heap.size, 0, none⟩) N N) N (zRow (zs ++ [M]) N) := hox0
              have HPX := hide (show (wx.setCell ⟨w6.heap.size, k, none⟩ (.int .i64 M)).drew.heap[PB]? = some (.cells #[.int .i64 W, .int .i64 H, .slice (some ⟨w6.heap.size, 0, none⟩) N N] 34 (0, 0)) by
                show (wx.setCell ⟨w6.heap.size, k, none⟩ (.int .i64 M)).heap[PB]? = _
                rw [Below.heap_setCell _ _ _ _ hne6, hNB.block PB hPl]; exact HPB.out)
              have HBX := hide (show Below w5.heap.size w5 (wx.setCell ⟨w6.heap.size, k, none⟩ (.int .i64 M)).drew from ((HBL.out.trans (hNB.mono HBL.out.size)).setCell (p := ⟨w6.heap.size, k, none⟩) h56 _).drew)
              have hszx : PB < (wx.setCell ⟨w6.heap.size, k, none⟩ (.int .i64 M)).drew.heap.size := by
                have hs := hNB.size
                show PB < (wx.setCell ⟨w6.heap.size, k, none⟩ (.int .i64 M)).heap.size
                simp only [World.setCell, Array.size_modify]
                exact Nat.lt_of_lt_of_le hPl hs
              have hzl2 : (zs ++ [M]).length = k + 1 := by simp [hzl]
              clear hox0
              generalize (wx.setCell ⟨w6.heap.size, k, none⟩ (.int .i64 M)).drew = WX at *
              clear hrefl hdrew cx fx hNB HS HS2 HCX HGU HT1 HT2 HCX2 cxd fxd y0 y1 y2 ho
              go_wp2
              go_roundw
              case rel => exact ⟨k + 1, pos + (wd.length + i), zs ++ [M], by omega, by go_num, hzl2, by first | exact HDROP.out | exact HDROP2.out.trans HDROP.out, HRK2, hox, HPX, HBX, hszx⟩
              case measure => simp [intOf]; omega
      · have HNX := hide (HF1.out hfe)
        have HNE := hide (show readDE sb W H kind xs = 1 by rw [HRE.out, HRN.out (HRKN.out HNX.out)]; rfl)
        have hne : (frE ts L != 0) = true := by simpa using hfe
        clear hfe HF1 HF2
        go_wp2
        refine bodyPost_ret (v := .tuple #[.agg #[.int .i64 0, .int .i64 0, .slice none 0 0], .int .i64 1]) (by simp [results, Tryz.results60, go_sem, q0, q1, q2]) rfl ⟨.slice none 0 0, ?_, ?_, ?_, Fresh.nil _⟩
        · rw [readDW, readDH, HNE.out]; rfl
        · rw [readDZ, HNE.out]; exact IsInts.nil _
        · exact ((HWR.out.setCell (p := ⟨w.heap.size, 0, none⟩) (Nat.le_refl _) _).setCell (p := ⟨w.heap.size, 1, none⟩) (Nat.le_refl _) _).setCell (p := ⟨w.heap.size, 2, none⟩) (Nat.le_refl _) _
    · obtain rfl : k = N := by omega
      have hd : decide ((k : Int) < (k : Int)) = false := by simp
      obtain ⟨hpk, hwe, hS1, hS2⟩ := HLA.out pos zs HRK.out
      have HIN := hide (show IsInts wr (.slice (some ⟨w6.heap.size, 0, none⟩) k k) zs by
        have h := ho
        rw [← hzl, zRow_end] at h
        rw [← hzl]
        exact IsInts.own h (by omega))
      have hR6 : w.heap.size < w6.heap.size := by omega
      have hRP : w.heap.size ≠ PB := by omega
      have HW9 := hide (fun w' (h : Below wr.heap.size wr w') => HWR.out.trans (h.mono HWR.out.size))
      have hRw : w.heap.size < wr.heap.size := by omega
      go_wp2_with fail
      refine (writeDiff_any _ _ _ _ zs _ xs _ HIN.out (HVC5.out.below HBL.out (Nat.le_refl _))).mono ?_
      rintro e w9 ⟨rfl, hb9⟩
      rw [hwe]
      have HWR := hide (HW9.out w9 hb9)
      have ho9 := ownsRow_below ho hb9
      have hR9 : w9.heap[w.heap.size]? = some (.cells #[.int .i64 0, .int .i64 0, .slice none 0 0] 34 (0, 0)) := by rw [hb9.block _ hRw]; exact hRr
      have hP9 : w9.heap[PB]? = some (.cells #[.int .i64 W, .int .i64 H, .slice (some ⟨w6.heap.size, 0, none⟩) k k] 34 (0, 0)) := by rw [hb9.block _ hPl]; exact HPB.out
      clear q0 q1 q2 f0 f1 f2 p0 p1 p2 hRr
      have q0 : w9.cell? ⟨w.heap.size, 0, none⟩ = some (.int .i64 0) := by rw [Lib.cell_of_heap hR9]; rfl
      have q1 : w9.cell? ⟨w.heap.size, 1, none⟩ = some (.int .i64 0) := by rw [Lib.cell_of_heap hR9]; rfl
      have q2 : w9.cell? ⟨w.heap.size, 2, none⟩ = some (.slice none 0 0) := by rw [Lib.cell_of_heap hR9]; rfl
      have f0 := Lib.frozen_of_heap hR9 0
      have f1 := Lib.frozen_of_heap hR9 1
      have f2 := Lib.frozen_of_heap hR9 2
      have p0 : w9.cell? ⟨PB, 0, none⟩ = some (.int .i64 W) := by rw [Lib.cell_of_heap hP9]; rfl
      have p1 : w9.cell? ⟨PB, 1, none⟩ = some (.int .i64 H) := by rw [Lib.cell_of_heap hP9]; rfl
      have p2 : w9.cell? ⟨PB, 2, none⟩ = some (.slice (some ⟨w6.heap.size, 0, none⟩) k k) := by rw [Lib.cell_of_heap hP9]; rfl
      have HS1 := hide hS1
      have HS2 := hide hS2
      clear hS1 hS2 ho
      generalize writeDS W H zs kind xs = S at *
      by_cases hS : S = sb
      · have HNS := hide (HS1.out hS)
        have HNE := hide (show readDE sb W H kind xs = 0 by rw [HRE.out, HNS.out]; rfl)
        have HOW := hide (((ownsRow_setCell_below (ownsRow_setCell_below (ownsRow_setCell_below ho9 (a := ⟨w.heap.size, 0, none⟩) hR6 (.int .i64 W)) (a := ⟨w.heap.size, 1, none⟩) hR6 (.int .i64 H)) (a := ⟨w.heap.size, 2, none⟩) hR6 (.slice (some ⟨w6.heap.size, 0, none⟩) k k))))
        clear ho9
        subst hS
        go_wp2
        refine bodyPost_ret (v := .tuple #[.agg #[.int .i64 W, .int .i64 H, .slice (some ⟨w6.heap.size, 0, none⟩) k k], .int .i64 0]) (by simp [results, Tryz.results60, go_sem, q0, q1, q2]) rfl ⟨.slice (some ⟨w6.heap.size, 0, none⟩) k k, ?_, ?_, ?_, ⟨fun b e => by simp [Value.ownBlock] at e; omega, Nat.le_refl _⟩⟩
        · rw [readDW, readDH, HNE.out]; rfl
        · rw [readDZ, HNE.out, if_pos rfl, HNS.out]
          have h := HOW.out
          rw [← hzl, zRow_end] at h
          rw [← hzl]
          show IsInts _ _ zs
          exact IsInts.own h (by omega)
        · exact ((HWR.out.setCell (p := ⟨w.heap.size, 0, none⟩) (Nat.le_refl _) _).setCell (p := ⟨w.heap.size, 1, none⟩) (Nat.le_refl _) _).setCell (p := ⟨w.heap.size, 2, none⟩) (Nat.le_refl _) _
      · have HNS := hide (HS2.out hS)
        have HNE := hide (show readDE sb W H kind xs = 1 by rw [HRE.out, HNS.out]; rfl)
        have hcmp : ((str S).toList == (str sb).toList) = false := by rw [Lib.toList_data, Lib.toList_data, str_data, str_data]; simpa using hS
        clear ho9 hS
        go_wp2
        refine bodyPost_ret (v := .tuple #[.agg #[.int .i64 0, .int .i64 0, .slice none 0 0], .int .i64 1]) (by simp [results, Tryz.results60, go_sem, q0, q1, q2]) rfl ⟨.slice none 0 0, ?_, ?_, ?_, Fresh.nil _⟩
        · rw [readDW, readDH, HNE.out]; rfl
        · rw [readDZ, HNE.out]; exact IsInts.nil _
        · exact ((HWR.out.setCell (p := ⟨w.heap.size, 0, none⟩) (Nat.le_refl _) _).setCell (p := ⟨w.heap.size, 1, none⟩) (Nat.le_refl _) _).setCell (p := ⟨w.heap.size, 2, none⟩) (Nat.le_refl _) _
end Go.Proofs.YtanebhbfekcplaaGreat

namespace Go.Proofs.YtanebhbfekcplaaGreat
open Go.RowKit
set_option maxRecDepth 100000 in
set_option maxHeartbeats 800000 in
theorem readDiff_any (sb : List UInt8) (W H kind : Int) (v : Value) (xs : List Int) (w : World) (hv : IsInts w v xs) :
    Calls Tryz.prog 60 #[.string (str sb), .int .i64 W, .int .i64 H, .int .i64 kind, v] w fun e w' => ∃ r, e = .returned (.tuple #[.agg #[.int .i64 (readDW sb W H kind xs), .int .i64 (readDH sb W H kind xs), r], .int .i64 (readDE sb W H kind xs)]) ∧ IsInts w' r (readDZ sb W H kind xs) ∧ Below w.heap.size w w' ∧ Fresh w.heap.size r := by
  have hws : (str sb).size = sb.length := str_size sb
  by_cases hW : sideOk W = true
  · have hsW : decide (1 ≤ W ∧ W ≤ 64) = true := hW
    by_cases hH : sideOk H = true
    · have hsH : decide (1 ≤ H ∧ H ≤ 64) = true := hH
      by_cases hk : kindOk kind = true
      · have hsK : decide (1 ≤ kind ∧ kind ≤ 7) = true := hk
        by_cases hE : checkE xs = 0
        · have b1 : 1 ≤ W ∧ W ≤ 64 := by simpa [sideOk] using hW
          have b2 : 1 ≤ H ∧ H ≤ 64 := by simpa [sideOk] using hH
          obtain ⟨WN, rfl⟩ := Int.eq_ofNat_of_zero_le (show 0 ≤ W by omega)
          obtain ⟨HN, rfl⟩ := Int.eq_ofNat_of_zero_le (show 0 ≤ H by omega)
          by_cases hl : sb.length ≤ 32768
          · exact readDiff_walk sb WN HN kind v xs w hv hW hH hk hE hl
          · have HNE := hide (show readDE sb WN HN kind xs = 1 by
              have h4 : WN * HN ≤ 4096 := Nat.le_trans (Nat.mul_le_mul (show WN ≤ 64 by omega) (show HN ≤ 64 by omega)) (by decide)
              have hn : readD sb WN HN kind xs = none := by rw [readD, Int.toNat_natCast, Int.toNat_natCast]; exact if_neg (by omega)
              rw [readDE, if_pos ⟨hW, hH⟩, if_pos hk, if_pos hE, hn]; rfl)
            have hl32 : decide (32768 < (sb.length : Int)) = true := by simp; omega
            have HV := hide hv
            have HE := hide hE
            clear hl hv hE
            go_enter Tryz.func60, Tryz.ntmps60
            go_wp2_with fail
            have R0 := heap_alloc_new w (Obj.cells #[.int .i64 0, .int .i64 0, .slice none 0 0] 34)
            have HB0 := hide (bel_alloc w (Obj.cells #[.int .i64 0, .int .i64 0, .slice none 0 0] 34))
            have hlt0 : w.heap.size < (w.alloc (Obj.cells #[.int .i64 0, .int .i64 0, .slice none 0 0] 34)).heap.size := by simp
            generalize w.alloc (Obj.cells #[.int .i64 0, .int .i64 0, .slice none 0 0] 34) = w0 at *
            refine (within_any _ _ _ _).mono ?_
            rintro e wx ⟨rfl, rfl⟩
            rw [hsW]
            go_wp2_with fail
            refine (within_any _ _ _ _).mono ?_
            rintro e wx ⟨rfl, rfl⟩
            rw [hsH]
            go_wp2_with fail
            refine (within_any _ _ _ _).mono ?_
            rintro e wx ⟨rfl, rfl⟩
            rw [hsK]
            go_wp2_with fail
            refine (checkCode_any _ _ _ (HV.out.below HB0.out (Nat.le_refl _))).mono ?_
            rintro e wx ⟨rfl, rfl⟩
            rw [HE.out]
            go_wp2_with fail
            refine (wordsOf_any _ _ _ (HV.out.below HB0.out (Nat.le_refl _)) HE.out).mono ?_
            rintro e w1 ⟨r, rfl, hr, hb1⟩
            clear hr
            have hR1 : w1.heap[w.heap.size]? = some (.cells #[.int .i64 0, .int .i64 0, .slice none 0 0] 34 (0, 0)) := by rw [hb1.block _ hlt0]; exact R0
            have HW1 := hide (bel_trans HB0.out hb1)
            clear R0 HB0
            have q0 : w1.cell? ⟨w.heap.size, 0, none⟩ = some (.int .i64 0) := by rw [Lib.cell_of_heap hR1]; rfl
            have q1 : w1.cell? ⟨w.heap.size, 1, none⟩ = some (.int .i64 0) := by rw [Lib.cell_of_heap hR1]; rfl
            have q2 : w1.cell? ⟨w.heap.size, 2, none⟩ = some (.slice none 0 0) := by rw [Lib.cell_of_heap hR1]; rfl
            have f0 := Lib.frozen_of_heap hR1 0
            have f1 := Lib.frozen_of_heap hR1 1
            have f2 := Lib.frozen_of_heap hR1 2
            go_wp2
            refine bodyPost_ret (v := .tuple #[.agg #[.int .i64 0, .int .i64 0, .slice none 0 0], .int .i64 1]) (by simp [results, Tryz.results60, go_sem, q0, q1, q2]) rfl ⟨.slice none 0 0, ?_, ?_, ?_, Fresh.nil _⟩
            · rw [readDW, readDH, HNE.out]; simp
            · rw [readDZ, HNE.out]; exact IsInts.nil _
            · exact ((HW1.out.setCell (p := ⟨w.heap.size, 0, none⟩) (Nat.le_refl _) _).setCell (p := ⟨w.heap.size, 1, none⟩) (Nat.le_refl _) _).setCell (p := ⟨w.heap.size, 2, none⟩) (Nat.le_refl _) _
        · have HNE := hide (show readDE sb W H kind xs = checkE xs by rw [readDE, if_pos ⟨hW, hH⟩, if_pos hk, if_neg hE])
          have hne : (checkE xs != 0) = true := by simpa using hE
          have HNZ := hide hE
          have HV := hide hv
          clear hE hv
          go_enter Tryz.func60, Tryz.ntmps60
          go_wp2_with fail
          have R0 := heap_alloc_new w (Obj.cells #[.int .i64 0, .int .i64 0, .slice none 0 0] 34)
          have HB0 := hide (bel_alloc w (Obj.cells #[.int .i64 0, .int .i64 0, .slice none 0 0] 34))
          have hlt0 : w.heap.size < (w.alloc (Obj.cells #[.int .i64 0, .int .i64 0, .slice none 0 0] 34)).heap.size := by simp
          generalize w.alloc (Obj.cells #[.int .i64 0, .int .i64 0, .slice none 0 0] 34) = w0 at *
          refine (within_any _ _ _ _).mono ?_
          rintro e wx ⟨rfl, rfl⟩
          rw [hsW]
          go_wp2_with fail
          refine (within_any _ _ _ _).mono ?_
          rintro e wx ⟨rfl, rfl⟩
          rw [hsH]
          go_wp2_with fail
          refine (within_any _ _ _ _).mono ?_
          rintro e wx ⟨rfl, rfl⟩
          rw [hsK]
          have q0 : w0.cell? ⟨w.heap.size, 0, none⟩ = some (.int .i64 0) := by rw [Lib.cell_of_heap R0]; rfl
          have q1 : w0.cell? ⟨w.heap.size, 1, none⟩ = some (.int .i64 0) := by rw [Lib.cell_of_heap R0]; rfl
          have q2 : w0.cell? ⟨w.heap.size, 2, none⟩ = some (.slice none 0 0) := by rw [Lib.cell_of_heap R0]; rfl
          have f0 := Lib.frozen_of_heap R0 0
          have f1 := Lib.frozen_of_heap R0 1
          have f2 := Lib.frozen_of_heap R0 2
          go_wp2_with fail
          refine (checkCode_any _ _ _ (HV.out.below HB0.out (Nat.le_refl _))).mono ?_
          rintro e wx ⟨rfl, rfl⟩
          go_wp2
          refine bodyPost_ret (v := .tuple #[.agg #[.int .i64 0, .int .i64 0, .slice none 0 0], .int .i64 (checkE xs)]) (by simp [results, Tryz.results60, go_sem, q0, q1, q2]) rfl ⟨.slice none 0 0, ?_, ?_, ?_, Fresh.nil _⟩
          · rw [readDW, readDH, HNE.out, if_neg HNZ.out, if_neg HNZ.out]
          · rw [readDZ, HNE.out, if_neg HNZ.out]; exact IsInts.nil _
          · exact ((HB0.out.setCell (p := ⟨w.heap.size, 0, none⟩) (Nat.le_refl _) _).setCell (p := ⟨w.heap.size, 1, none⟩) (Nat.le_refl _) _).setCell (p := ⟨w.heap.size, 2, none⟩) (Nat.le_refl _) _
      · have HNE := hide (show readDE sb W H kind xs = 6 by rw [readDE, if_pos ⟨hW, hH⟩, if_neg hk])
        have hsK : decide (1 ≤ kind ∧ kind ≤ 7) = false := by simpa [kindOk] using hk
        clear hv
        go_enter Tryz.func60, Tryz.ntmps60
        go_wp2_with fail
        have R0 := heap_alloc_new w (Obj.cells #[.int .i64 0, .int .i64 0, .slice none 0 0] 34)
        have HB0 := hide (bel_alloc w (Obj.cells #[.int .i64 0, .int .i64 0, .slice none 0 0] 34))
        have hlt0 : w.heap.size < (w.alloc (Obj.cells #[.int .i64 0, .int .i64 0, .slice none 0 0] 34)).heap.size := by simp
        generalize w.alloc (Obj.cells #[.int .i64 0, .int .i64 0, .slice none 0 0] 34) = w0 at *
        refine (within_any _ _ _ _).mono ?_
        rintro e wx ⟨rfl, rfl⟩
        rw [hsW]
        go_wp2_with fail
        refine (within_any _ _ _ _).mono ?_
        rintro e wx ⟨rfl, rfl⟩
        rw [hsH]
        go_wp2_with fail
        refine (within_any _ _ _ _).mono ?_
        rintro e wx ⟨rfl, rfl⟩
        rw [hsK]
        have q0 : w0.cell? ⟨w.heap.size, 0, none⟩ = some (.int .i64 0) := by rw [Lib.cell_of_heap R0]; rfl
        have q1 : w0.cell? ⟨w.heap.size, 1, none⟩ = some (.int .i64 0) := by rw [Lib.cell_of_heap R0]; rfl
        have q2 : w0.cell? ⟨w.heap.size, 2, none⟩ = some (.slice none 0 0) := by rw [Lib.cell_of_heap R0]; rfl
        have f0 := Lib.frozen_of_heap R0 0
        have f1 := Lib.frozen_of_heap R0 1
        have f2 := Lib.frozen_of_heap R0 2
        go_wp2
        refine bodyPost_ret (v := .tuple #[.agg #[.int .i64 0, .int .i64 0, .slice none 0 0], .int .i64 6]) (by simp [results, Tryz.results60, go_sem, q0, q1, q2]) rfl ⟨.slice none 0 0, ?_, ?_, ?_, Fresh.nil _⟩
        · rw [readDW, readDH, HNE.out]; simp
        · rw [readDZ, HNE.out]; exact IsInts.nil _
        · exact ((HB0.out.setCell (p := ⟨w.heap.size, 0, none⟩) (Nat.le_refl _) _).setCell (p := ⟨w.heap.size, 1, none⟩) (Nat.le_refl _) _).setCell (p := ⟨w.heap.size, 2, none⟩) (Nat.le_refl _) _
    · have HNE := hide (show readDE sb W H kind xs = 3 by rw [readDE, if_neg (fun h => hH h.2)])
      have hsH : decide (1 ≤ H ∧ H ≤ 64) = false := by simpa [sideOk] using hH
      clear hv
      go_enter Tryz.func60, Tryz.ntmps60
      go_wp2_with fail
      have R0 := heap_alloc_new w (Obj.cells #[.int .i64 0, .int .i64 0, .slice none 0 0] 34)
      have HB0 := hide (bel_alloc w (Obj.cells #[.int .i64 0, .int .i64 0, .slice none 0 0] 34))
      have hlt0 : w.heap.size < (w.alloc (Obj.cells #[.int .i64 0, .int .i64 0, .slice none 0 0] 34)).heap.size := by simp
      generalize w.alloc (Obj.cells #[.int .i64 0, .int .i64 0, .slice none 0 0] 34) = w0 at *
      refine (within_any _ _ _ _).mono ?_
      rintro e wx ⟨rfl, rfl⟩
      rw [hsW]
      go_wp2_with fail
      refine (within_any _ _ _ _).mono ?_
      rintro e wx ⟨rfl, rfl⟩
      rw [hsH]
      have q0 : w0.cell? ⟨w.heap.size, 0, none⟩ = some (.int .i64 0) := by rw [Lib.cell_of_heap R0]; rfl
      have q1 : w0.cell? ⟨w.heap.size, 1, none⟩ = some (.int .i64 0) := by rw [Lib.cell_of_heap R0]; rfl
      have q2 : w0.cell? ⟨w.heap.size, 2, none⟩ = some (.slice none 0 0) := by rw [Lib.cell_of_heap R0]; rfl
      have f0 := Lib.frozen_of_heap R0 0
      have f1 := Lib.frozen_of_heap R0 1
      have f2 := Lib.frozen_of_heap R0 2
      go_wp2
      refine bodyPost_ret (v := .tuple #[.agg #[.int .i64 0, .int .i64 0, .slice none 0 0], .int .i64 3]) (by simp [results, Tryz.results60, go_sem, q0, q1, q2]) rfl ⟨.slice none 0 0, ?_, ?_, ?_, Fresh.nil _⟩
      · rw [readDW, readDH, HNE.out]; simp
      · rw [readDZ, HNE.out]; exact IsInts.nil _
      · exact ((HB0.out.setCell (p := ⟨w.heap.size, 0, none⟩) (Nat.le_refl _) _).setCell (p := ⟨w.heap.size, 1, none⟩) (Nat.le_refl _) _).setCell (p := ⟨w.heap.size, 2, none⟩) (Nat.le_refl _) _
  · have HNE := hide (show readDE sb W H kind xs = 3 by rw [readDE, if_neg (fun h => hW h.1)])
    have hsW : decide (1 ≤ W ∧ W ≤ 64) = false := by simpa [sideOk] using hW
    clear hv
    go_enter Tryz.func60, Tryz.ntmps60
    go_wp2_with fail
    have R0 := heap_alloc_new w (Obj.cells #[.int .i64 0, .int .i64 0, .slice none 0 0] 34)
    have HB0 := hide (bel_alloc w (Obj.cells #[.int .i64 0, .int .i64 0, .slice none 0 0] 34))
    have hlt0 : w.heap.size < (w.alloc (Obj.cells #[.int .i64 0, .int .i64 0, .slice none 0 0] 34)).heap.size := by simp
    generalize w.alloc (Obj.cells #[.int .i64 0, .int .i64 0, .slice none 0 0] 34) = w0 at *
    refine (within_any _ _ _ _).mono ?_
    rintro e wx ⟨rfl, rfl⟩
    rw [hsW]
    have q0 : w0.cell? ⟨w.heap.size, 0, none⟩ = some (.int .i64 0) := by rw [Lib.cell_of_heap R0]; rfl
    have q1 : w0.cell? ⟨w.heap.size, 1, none⟩ = some (.int .i64 0) := by rw [Lib.cell_of_heap R0]; rfl
    have q2 : w0.cell? ⟨w.heap.size, 2, none⟩ = some (.slice none 0 0) := by rw [Lib.cell_of_heap R0]; rfl
    have f0 := Lib.frozen_of_heap R0 0
    have f1 := Lib.frozen_of_heap R0 1
    have f2 := Lib.frozen_of_heap R0 2
    go_wp2
    refine bodyPost_ret (v := .tuple #[.agg #[.int .i64 0, .int .i64 0, .slice none 0 0], .int .i64 3]) (by simp [results, Tryz.results60, go_sem, q0, q1, q2]) rfl ⟨.slice none 0 0, ?_, ?_, ?_, Fresh.nil _⟩
    · rw [readDW, readDH, HNE.out]; simp
    · rw [readDZ, HNE.out]; exact IsInts.nil _
    · exact ((HB0.out.setCell (p := ⟨w.heap.size, 0, none⟩) (Nat.le_refl _) _).setCell (p := ⟨w.heap.size, 1, none⟩) (Nat.le_refl _) _).setCell (p := ⟨w.heap.size, 2, none⟩) (Nat.le_refl _) _
end Go.Proofs.YtanebhbfekcplaaGreat

namespace Go.Proofs.YtanebhbfekcplaaGreat
set_option linter.unusedVariables false
set_option linter.unusedSimpArgs false
open Go.RowKit
theorem readDZ_nonneg {s : List UInt8} {W H kind : Int} {xs : List Int} : ∀ z ∈ readDZ s W H kind xs, 0 ≤ z := by
  intro z hz
  unfold readDZ at hz
  split at hz
  · cases hr : readD s W H kind xs with
    | none => rw [hr] at hz; simp at hz
    | some zs =>
      rw [hr] at hz
      rw [readD] at hr
      split at hr
      · split at hr
        · rename_i hq
          split at hr
          · cases hr
            have := List.all_eq_true.1 (rdD_len hq).2 z hz
            simp only [sampOk, decide_eq_true_eq] at this
            exact this.1
          · cases hr
        · cases hr
      · cases hr
  · simp at hz
set_option maxRecDepth 100000 in
set_option maxHeartbeats 6400000 in
theorem rstrip_any (r : RawF) (lv tv sv cv : Value) (i : Nat) (w : World) (hr : IsRaw w r lv tv sv cv) (hh : Head r) (hi : i < cntN r) (hs : i < r.strips.length) :
    Calls Tryz.prog 27 #[.agg (rawA r lv tv sv cv), .int .i64 i] w fun e w' => ∃ v, e = .returned (.tuple #[v, .bool (decide (stE r (stAt r i) (rowN r i) = 0))]) ∧ (stE r (stAt r i) (rowN r i) = 0 → IsInts w' v (stZ r (stAt r i) (rowN r i))) ∧ Below w.heap.size w w' := by
  have HR := hide hr
  have HL := hide hr.lens
  obtain ⟨lo, lc, rfl, _, _⟩ := hr.lens
  obtain ⟨tp, tc, rfl, _, _⟩ := hr.strips
  obtain ⟨sb, soff, rfl, hsb, hsc0⟩ := hr.strips.at i hs
  have hsc : w.cell? ⟨sb, soff + i, none⟩ = some (.string (str (stAt r i))) := hsc0
  clear hsc0 hr
  have HRO := hide (fun (u : World) => rowsOf2_any r (.slice lo r.lens.length lc) (.slice (some ⟨sb, soff, none⟩) r.strips.length tc) sv cv i u hh hi)
  have hrow := hh.row hi
  have hsiz := hh.size hi
  have hw := hh.w
  have hd := hh.depth
  have hcl := hh.cnt_le
  have HZ0 := hide (fun (hk : r.kind = 0) => stZ_kind0 hk (stAt r i) (rowN r i))
  have HE1 := hide (fun (hk : ¬ r.kind = 0) => show stE r (stAt r i) (rowN r i) = if readDE (stAt r i) r.w (rowN r i) r.kind r.lens = 0 then (if deepOk r.depth (readDZ (stAt r i) r.w (rowN r i) r.kind r.lens) = true then 0 else 1) else readDE (stAt r i) r.w (rowN r i) r.kind r.lens by rw [stE, if_neg hk])
  have HZ1 := hide (fun (hk : ¬ r.kind = 0) => show stZ r (stAt r i) (rowN r i) = if stE r (stAt r i) (rowN r i) = 0 then readDZ (stAt r i) r.w (rowN r i) r.kind r.lens else [] by rw [stZ, if_neg hk])
  generalize stE r (stAt r i) (rowN r i) = E at *
  generalize stZ r (stAt r i) (rowN r i) = Z at *
  generalize stAt r i = SS at *
  generalize rowN r i = RN at *
  have a1 := al1 w (Obj.cells (rawA r (.slice lo r.lens.length lc) (.slice (some ⟨sb, soff, none⟩) r.strips.length tc) sv cv) 32)
  have HB := hide (bel_alloc w (Obj.cells (rawA r (.slice lo r.lens.length lc) (.slice (some ⟨sb, soff, none⟩) r.strips.length tc) sv cv) 32))
  have hlt := (Array.getElem?_eq_some_iff.1 a1).1
  have i28 : (Tryz.prog.info? 32).map (·.size) = some ((rawA r (.slice lo r.lens.length lc) (.slice (some ⟨sb, soff, none⟩) r.strips.length tc) sv cv) : Array Value).size := by kernel_rfl
  have HRC := hide (fun (v : World) (h : v.heap[w.heap.size]? = some (.cells (rawA r (.slice lo r.lens.length lc) (.slice (some ⟨sb, soff, none⟩) r.strips.length tc) sv cv) 32 (0, 0))) => raw_cells h)
  go_enter Tryz.func27, Tryz.ntmps27
  go_wp2_with (refine wpList_load_row rfl 32 _ rfl _ rfl _ _ _ _ a1 Tryz.underlying32 rfl i28 ?_)
  generalize w.alloc (Obj.cells (rawA r (.slice lo r.lens.length lc) (.slice (some ⟨sb, soff, none⟩) r.strips.length tc) sv cv) 32) = U at *
  generalize (rawA r (.slice lo r.lens.length lc) (.slice (some ⟨sb, soff, none⟩) r.strips.length tc) sv cv) = RQ at *
  refine (HRO.out _).mono ?_
  rintro e V1 ⟨rfl, hb1⟩
  have HS := hide (show ∀ v, Below U.heap.size U v → (v.cell? ⟨w.heap.size, 6, none⟩ = some (.slice (some ⟨sb, soff, none⟩) r.strips.length tc) ∧ v.cell? ⟨w.heap.size, 2, none⟩ = some (.int .i64 r.depth) ∧ v.cell? ⟨w.heap.size, 0, none⟩ = some (.int .i64 r.w) ∧ v.cell? ⟨w.heap.size, 3, none⟩ = some (.int .i64 r.kind) ∧ v.cell? ⟨w.heap.size, 5, none⟩ = some (.slice lo r.lens.length lc) ∧ v.cell? ⟨sb, soff + i, none⟩ = some (.string (str SS))) from fun v h => by
    obtain ⟨s0, s1, s2, s3, s4, s5, s6, s13, s26⟩ := HRC.out v ((h.block _ hlt).trans a1)
    exact ⟨s6, s2, s0, s3, s5, ((bel_trans HB.out h).cell (p := ⟨sb, soff + i, none⟩) hsb).trans hsc⟩)
  obtain ⟨_, _, _, s3, _, _⟩ := HS.out V1 hb1
  by_cases hk : r.kind = 0
  · obtain ⟨e1, e2⟩ := HZ0.out hk
    have hk' : (r.kind == 0) = true := by simpa using hk
    obtain ⟨M, hM⟩ : ∃ M, r.w * RN = M := ⟨_, rfl⟩
    rw [Int.mul_comm, hM] at e1 e2
    have hm : 1 ≤ M ∧ M ≤ 4096 := by rw [← hM, Int.mul_comm]; exact hsiz
    have t1 : IntKind.i64.wrap M = M := IntWalk.i64_in _ (by omega)
    have HEE := hide e1
    have HZZ := hide e2
    clear e1 e2 hsiz
    go_upto_region 3 with fail
    have hWd : Below U.heap.size U V1.drew := hb1.drew
    have hSd := HS.out _ hWd
    have hmx : Tryz.prog.follows .mixedOrders = true := by kernel_rfl
    refine wp_region_last (S := (fun v : World => v.cell? ⟨w.heap.size, 6, none⟩ = some (.slice (some ⟨sb, soff, none⟩) r.strips.length tc) ∧ v.cell? ⟨w.heap.size, 2, none⟩ = some (.int .i64 r.depth) ∧ v.cell? ⟨w.heap.size, 0, none⟩ = some (.int .i64 r.w) ∧ v.cell? ⟨w.heap.size, 3, none⟩ = some (.int .i64 r.kind) ∧ v.cell? ⟨w.heap.size, 5, none⟩ = some (.slice lo r.lens.length lc) ∧ v.cell? ⟨sb, soff + i, none⟩ = some (.string (str SS)))) (f := 16) hmx ?_
    show wpAnyF _ _ _ _ _ _ 17 _ _ V1.drew
    refine wpAnyF_takeP (i := 0) (oi := _) (v := ?vv1) (some 18) [] rfl rfl (by kernel_rfl) (by kernel_rfl) (by kernel_rfl) (by kernel_rfl) (by kernel_rfl) (fun _ _ _ h => h) (Or.inl ⟨by rfl, ?yy1⟩) hSd ?rr1
    case yy1 => (intro wq hSq; obtain ⟨_, _, _, _, _, _⟩ := hSq; go_simp <;> with_reducible rfl)
    simp only [Act.put, List.setIfInBounds_toArray, List.set_cons_succ, List.set_cons_zero]
    refine wpAnyF_takeP (i := 2) (oi := _) (v := ?vv2) (some 20) [] rfl rfl (by kernel_rfl) (by kernel_rfl) (by kernel_rfl) (by kernel_rfl) (by kernel_rfl) (fun _ _ _ h => h) (Or.inl ⟨by rfl, ?yy2⟩) hSd ?rr2
    case yy2 => (intro wq hSq; obtain ⟨_, _, _, _, _, _⟩ := hSq; go_simp <;> with_reducible rfl)
    simp only [Act.put, List.setIfInBounds_toArray, List.set_cons_succ, List.set_cons_zero]
    refine wpAnyF_takeP (i := 5) (oi := _) (v := ?vv3) (some 23) [] rfl rfl (by kernel_rfl) (by kernel_rfl) (by kernel_rfl) (by kernel_rfl) (by kernel_rfl) (fun _ _ _ h => h) (Or.inl ⟨by rfl, ?yy3⟩) hSd ?rr3
    case yy3 => (intro wq hSq; obtain ⟨_, _, _, _, _, _⟩ := hSq; go_simp <;> with_reducible rfl)
    simp only [Act.put, List.setIfInBounds_toArray, List.set_cons_succ, List.set_cons_zero]
    refine wpAnyF_takeP (i := 7) (oi := _) (v := ?vv4) (some 25) [] rfl rfl (by kernel_rfl) (by kernel_rfl) (by kernel_rfl) (by kernel_rfl) (by kernel_rfl) (fun _ _ _ h => h) (Or.inl ⟨by rfl, ?yy4⟩) hSd ?rr4
    case yy4 => (intro wq hSq; obtain ⟨_, _, _, _, _, _⟩ := hSq; go_simp <;> with_reducible rfl)
    simp only [Act.put, List.setIfInBounds_toArray, List.set_cons_succ, List.set_cons_zero]
    refine wpAnyF_takeP (i := 9) (oi := _) (v := ?vv5) (some 27) [] rfl rfl (by kernel_rfl) (by kernel_rfl) (by kernel_rfl) (by kernel_rfl) (by kernel_rfl) (fun _ _ _ h => h) (Or.inl ⟨by rfl, ?yy5⟩) hSd ?rr5
    case yy5 => (intro wq hSq; obtain ⟨_, _, _, _, _, _⟩ := hSq; go_simp <;> with_reducible rfl)
    simp only [Act.put, List.setIfInBounds_toArray, List.set_cons_succ, List.set_cons_zero]
    refine wpAnyF_takeP (i := 1) (oi := _) (v := ?vv6) (some 19) [] rfl rfl (by kernel_rfl) (by kernel_rfl) (by kernel_rfl) (by kernel_rfl) (by kernel_rfl) (fun _ _ _ h => h) (Or.inl ⟨by rfl, ?yy6⟩) hSd ?rr6
    case yy6 => (intro wq hSq; obtain ⟨_, _, _, _, _, _⟩ := hSq; go_simp <;> with_reducible rfl)
    simp only [Act.put, List.setIfInBounds_toArray, List.set_cons_succ, List.set_cons_zero]
    refine wpAnyF_takeP (i := 6) (oi := _) (v := ?vv7) (some 24) [] rfl rfl (by kernel_rfl) (by kernel_rfl) (by kernel_rfl) (by kernel_rfl) (by kernel_rfl) (fun _ _ _ h => h) (Or.inl ⟨by rfl, ?yy7⟩) hSd ?rr7
    case yy7 => (intro wq hSq; obtain ⟨_, _, _, _, _, _⟩ := hSq; go_simp <;> with_reducible rfl)
    simp only [Act.put, List.setIfInBounds_toArray, List.set_cons_succ, List.set_cons_zero]
    refine wpAnyF_takeP (i := 8) (oi := _) (v := ?vv8) (some 26) [] rfl rfl (by kernel_rfl) (by kernel_rfl) (by kernel_rfl) (by kernel_rfl) (by kernel_rfl) (fun _ _ _ h => h) (Or.inl ⟨by rfl, ?yy8⟩) hSd ?rr8
    case yy8 => (intro wq hSq; obtain ⟨_, _, _, _, _, _⟩ := hSq; go_simp <;> with_reducible rfl)
    simp only [Act.put, List.setIfInBounds_toArray, List.set_cons_succ, List.set_cons_zero]
    refine wpAnyF_takeP (i := 3) (oi := _) (v := ?vv9) (some 21) [] rfl rfl (by kernel_rfl) (by kernel_rfl) (by kernel_rfl) (by kernel_rfl) (by kernel_rfl) (fun _ _ _ h => h) (Or.inl ⟨by rfl, ?yy9⟩) hSd ?rr9
    case yy9 => (intro wq hSq; obtain ⟨_, _, _, _, _, _⟩ := hSq; go_simp <;> with_reducible rfl)
    simp only [Act.put, List.setIfInBounds_toArray, List.set_cons_succ, List.set_cons_zero]
    refine wpAnyF_takeP (i := 10) (oi := _) (v := .int .i64 M) (some 28) [] rfl rfl (by kernel_rfl) (by kernel_rfl) (by kernel_rfl) (by kernel_rfl) (by kernel_rfl) (fun _ _ _ h => h) (Or.inl ⟨by rfl, ?yy10⟩) hSd ?rr10
    case yy10 => (intro wq hSq; obtain ⟨_, _, _, _, _, _⟩ := hSq; first | (go_simp; done) | (go_simp; rw [hM]; try (go_simp <;> with_reducible rfl)))
    simp only [Act.put, List.setIfInBounds_toArray, List.set_cons_succ, List.set_cons_zero]
    refine wpAnyF_takeP (i := 4) (oi := _) (v := ?vv11) (some 22) [] rfl rfl (by kernel_rfl) (by kernel_rfl) (by kernel_rfl) (by kernel_rfl) (by kernel_rfl) (fun _ _ _ h => h) (Or.inl ⟨by rfl, ?yy11⟩) hSd ?rr11
    case yy11 => (intro wq hSq; obtain ⟨_, _, _, _, _, _⟩ := hSq; go_simp <;> with_reducible rfl)
    simp only [Act.put, List.setIfInBounds_toArray, List.set_cons_succ, List.set_cons_zero]
    refine wpAnyF_one (i := 11) (o := _) (by kernel_rfl) rfl (fun K' hK => ?_)
    rw [if_pos (by rfl)]
    go_simp
    refine (unpackedC_any (str SS) r.depth M _).mono ?_
    rintro e X2 ⟨v, rfl, hv, hx2⟩
    have hX2 : Below U.heap.size U X2 := hWd.trans (hx2.mono hWd.size)
    rw [str_data] at hv ⊢
    have HV := hide hv
    obtain ⟨vo, vc, rfl, y1, y2⟩ := hv
    clear y1 y2
    have hSd := HS.out _ hX2
    refine hK.out _ _ hSd ?_
    clear hK
    try simp only [Act.put]
    refine wpAnyF_takeP (i := 12) (oi := _) (v := ?vv12) (some 17) [] rfl rfl (by kernel_rfl) (by kernel_rfl) (by kernel_rfl) (by kernel_rfl) (by kernel_rfl) (fun _ _ _ h => h) (Or.inl ⟨by rfl, ?yy12⟩) hSd ?rr12
    case yy12 => (intro wq hSq; obtain ⟨_, _, _, _, _, _⟩ := hSq; go_simp <;> with_reducible rfl)
    simp only [Act.put, List.setIfInBounds_toArray, List.set_cons_succ, List.set_cons_zero]
    refine wpAnyF_takeP (i := 13) (oi := _) (v := ?vv13) (some 30) [] rfl rfl (by kernel_rfl) (by kernel_rfl) (by kernel_rfl) (by kernel_rfl) (by kernel_rfl) (fun _ _ _ h => h) (Or.inl ⟨by rfl, ?yy13⟩) hSd ?rr13
    case yy13 => (intro wq hSq; obtain ⟨_, _, _, _, _, _⟩ := hSq; go_simp <;> with_reducible rfl)
    simp only [Act.put, List.setIfInBounds_toArray, List.set_cons_succ, List.set_cons_zero]
    refine wpAnyF_takeP (i := 14) (oi := _) (v := ?vv14) (some 31) [] rfl rfl (by kernel_rfl) (by kernel_rfl) (by kernel_rfl) (by kernel_rfl) (by kernel_rfl) (fun _ _ _ h => h) (Or.inl ⟨by rfl, ?yy14⟩) hSd ?rr14
    case yy14 => (intro wq hSq; obtain ⟨_, _, _, _, _, _⟩ := hSq; go_simp <;> with_reducible rfl)
    simp only [Act.put, List.setIfInBounds_toArray, List.set_cons_succ, List.set_cons_zero]
    refine wpAnyF_one (i := 15) (o := _) (by kernel_rfl) rfl (fun K' hK => ?_)
    rw [if_pos (by rfl)]
    go_simp
    have hSd := hSd
    refine hK.out _ _ hSd ?_
    clear hK
    try simp only [Act.put]
    refine wpAnyF_last (o := _) (by kernel_rfl) rfl (fun K' hK => ?_)
    rw [if_pos (by rfl)]
    go_simp
    refine hK.out _ _ ?_
    clear hK
    refine wpAnyF_done (by kernel_rfl) ?_ _
    try simp only [Act.put]
    clear hSd hWd hx2
    have HBF := hide (bel_trans HB.out hX2)
    clear HZ0 HE1 HZ1 HRO HRC a1 HB
    go_wp2
    go_ret2
    exact ⟨_, ret_tup2 rfl (congrArg Value.bool (by rw [HEE.out]; rfl)), fun _ => by rw [HZZ.out]; exact HV.out, HBF.out⟩
  · have hk' : (r.kind == 0) = false := by simpa using hk
    have HEE := hide (HE1.out hk)
    have HZZ := hide (HZ1.out hk)
    have HRD := hide (fun (u : World) (hu : Below w.heap.size w u) => readDiff_any SS r.w RN r.kind _ r.lens u (HL.out.below hu (Nat.le_refl _)))
    have HNN := hide (readDZ_nonneg (s := SS) (W := r.w) (H := RN) (kind := r.kind) (xs := r.lens))
    generalize readDE SS r.w RN r.kind r.lens = F at *
    generalize readDZ SS r.w RN r.kind r.lens = Y at *
    generalize readDW SS r.w RN r.kind r.lens = W' at *
    generalize readDH SS r.w RN r.kind r.lens = H' at *
    clear HZ0 HE1 HZ1 hsiz
    go_upto_region 5 with fail
    have hs1 := hb1.size
    go_cut [9, 10] from 11 (fun q e v => ∃ PX ro rc, q = .pointer (some ⟨PX, 0, none⟩) ∧ e = .int .i64 F ∧ v.heap[PX]? = some (.cells #[.int .i64 W', .int .i64 H', .slice ro Y.length rc] 34 (0, 0)) ∧ IsInts v (.slice ro Y.length rc) Y ∧ Below U.heap.size U v)
    case first =>
      have hWd : Below U.heap.size U V1.drew := hb1.drew
      have hSd := HS.out _ hWd
      have hmx : Tryz.prog.follows .mixedOrders = true := by kernel_rfl
      refine wp_region_last (S := (fun v : World => v.cell? ⟨w.heap.size, 6, none⟩ = some (.slice (some ⟨sb, soff, none⟩) r.strips.length tc) ∧ v.cell? ⟨w.heap.size, 2, none⟩ = some (.int .i64 r.depth) ∧ v.cell? ⟨w.heap.size, 0, none⟩ = some (.int .i64 r.w) ∧ v.cell? ⟨w.heap.size, 3, none⟩ = some (.int .i64 r.kind) ∧ v.cell? ⟨w.heap.size, 5, none⟩ = some (.slice lo r.lens.length lc) ∧ v.cell? ⟨sb, soff + i, none⟩ = some (.string (str SS)))) (f := 18) hmx ?_
      show wpAnyF _ _ _ _ _ _ 19 _ _ V1.drew
      refine wpAnyF_takeP (i := 0) (oi := _) (v := ?vv15) (some 36) [] rfl rfl (by kernel_rfl) (by kernel_rfl) (by kernel_rfl) (by kernel_rfl) (by kernel_rfl) (fun _ _ _ h => h) (Or.inl ⟨by rfl, ?yy15⟩) hSd ?rr15
      case yy15 => (intro wq hSq; obtain ⟨_, _, _, _, _, _⟩ := hSq; go_simp <;> with_reducible rfl)
      simp only [Act.put, List.setIfInBounds_toArray, List.set_cons_succ, List.set_cons_zero]
      refine wpAnyF_takeP (i := 2) (oi := _) (v := ?vv16) (some 38) [] rfl rfl (by kernel_rfl) (by kernel_rfl) (by kernel_rfl) (by kernel_rfl) (by kernel_rfl) (fun _ _ _ h => h) (Or.inl ⟨by rfl, ?yy16⟩) hSd ?rr16
      case yy16 => (intro wq hSq; obtain ⟨_, _, _, _, _, _⟩ := hSq; go_simp <;> with_reducible rfl)
      simp only [Act.put, List.setIfInBounds_toArray, List.set_cons_succ, List.set_cons_zero]
      refine wpAnyF_takeP (i := 5) (oi := _) (v := ?vv17) (some 41) [] rfl rfl (by kernel_rfl) (by kernel_rfl) (by kernel_rfl) (by kernel_rfl) (by kernel_rfl) (fun _ _ _ h => h) (Or.inl ⟨by rfl, ?yy17⟩) hSd ?rr17
      case yy17 => (intro wq hSq; obtain ⟨_, _, _, _, _, _⟩ := hSq; go_simp <;> with_reducible rfl)
      simp only [Act.put, List.setIfInBounds_toArray, List.set_cons_succ, List.set_cons_zero]
      refine wpAnyF_takeP (i := 7) (oi := _) (v := ?vv18) (some 43) [] rfl rfl (by kernel_rfl) (by kernel_rfl) (by kernel_rfl) (by kernel_rfl) (by kernel_rfl) (fun _ _ _ h => h) (Or.inl ⟨by rfl, ?yy18⟩) hSd ?rr18
      case yy18 => (intro wq hSq; obtain ⟨_, _, _, _, _, _⟩ := hSq; go_simp <;> with_reducible rfl)
      simp only [Act.put, List.setIfInBounds_toArray, List.set_cons_succ, List.set_cons_zero]
      refine wpAnyF_takeP (i := 8) (oi := _) (v := ?vv19) (some 44) [] rfl rfl (by kernel_rfl) (by kernel_rfl) (by kernel_rfl) (by kernel_rfl) (by kernel_rfl) (fun _ _ _ h => h) (Or.inl ⟨by rfl, ?yy19⟩) hSd ?rr19
      case yy19 => (intro wq hSq; obtain ⟨_, _, _, _, _, _⟩ := hSq; go_simp <;> with_reducible rfl)
      simp only [Act.put, List.setIfInBounds_toArray, List.set_cons_succ, List.set_cons_zero]
      refine wpAnyF_takeP (i := 10) (oi := _) (v := ?vv20) (some 46) [] rfl rfl (by kernel_rfl) (by kernel_rfl) (by kernel_rfl) (by kernel_rfl) (by kernel_rfl) (fun _ _ _ h => h) (Or.inl ⟨by rfl, ?yy20⟩) hSd ?rr20
      case yy20 => (intro wq hSq; obtain ⟨_, _, _, _, _, _⟩ := hSq; go_simp <;> with_reducible rfl)
      simp only [Act.put, List.setIfInBounds_toArray, List.set_cons_succ, List.set_cons_zero]
      refine wpAnyF_takeP (i := 1) (oi := _) (v := ?vv21) (some 37) [] rfl rfl (by kernel_rfl) (by kernel_rfl) (by kernel_rfl) (by kernel_rfl) (by kernel_rfl) (fun _ _ _ h => h) (Or.inl ⟨by rfl, ?yy21⟩) hSd ?rr21
      case yy21 => (intro wq hSq; obtain ⟨_, _, _, _, _, _⟩ := hSq; go_simp <;> with_reducible rfl)
      simp only [Act.put, List.setIfInBounds_toArray, List.set_cons_succ, List.set_cons_zero]
      refine wpAnyF_takeP (i := 6) (oi := _) (v := ?vv22) (some 42) [] rfl rfl (by kernel_rfl) (by kernel_rfl) (by kernel_rfl) (by kernel_rfl) (by kernel_rfl) (fun _ _ _ h => h) (Or.inl ⟨by rfl, ?yy22⟩) hSd ?rr22
      case yy22 => (intro wq hSq; obtain ⟨_, _, _, _, _, _⟩ := hSq; go_simp <;> with_reducible rfl)
      simp only [Act.put, List.setIfInBounds_toArray, List.set_cons_succ, List.set_cons_zero]
      refine wpAnyF_takeP (i := 9) (oi := _) (v := ?vv23) (some 45) [] rfl rfl (by kernel_rfl) (by kernel_rfl) (by kernel_rfl) (by kernel_rfl) (by kernel_rfl) (fun _ _ _ h => h) (Or.inl ⟨by rfl, ?yy23⟩) hSd ?rr23
      case yy23 => (intro wq hSq; obtain ⟨_, _, _, _, _, _⟩ := hSq; go_simp <;> with_reducible rfl)
      simp only [Act.put, List.setIfInBounds_toArray, List.set_cons_succ, List.set_cons_zero]
      refine wpAnyF_takeP (i := 11) (oi := _) (v := ?vv24) (some 47) [] rfl rfl (by kernel_rfl) (by kernel_rfl) (by kernel_rfl) (by kernel_rfl) (by kernel_rfl) (fun _ _ _ h => h) (Or.inl ⟨by rfl, ?yy24⟩) hSd ?rr24
      case yy24 => (intro wq hSq; obtain ⟨_, _, _, _, _, _⟩ := hSq; go_simp <;> with_reducible rfl)
      simp only [Act.put, List.setIfInBounds_toArray, List.set_cons_succ, List.set_cons_zero]
      refine wpAnyF_takeP (i := 3) (oi := _) (v := ?vv25) (some 39) [] rfl rfl (by kernel_rfl) (by kernel_rfl) (by kernel_rfl) (by kernel_rfl) (by kernel_rfl) (fun _ _ _ h => h) (Or.inl ⟨by rfl, ?yy25⟩) hSd ?rr25
      case yy25 => (intro wq hSq; obtain ⟨_, _, _, _, _, _⟩ := hSq; go_simp <;> with_reducible rfl)
      simp only [Act.put, List.setIfInBounds_toArray, List.set_cons_succ, List.set_cons_zero]
      refine wpAnyF_takeP (i := 4) (oi := _) (v := ?vv26) (some 40) [] rfl rfl (by kernel_rfl) (by kernel_rfl) (by kernel_rfl) (by kernel_rfl) (by kernel_rfl) (fun _ _ _ h => h) (Or.inl ⟨by rfl, ?yy26⟩) hSd ?rr26
      case yy26 => (intro wq hSq; obtain ⟨_, _, _, _, _, _⟩ := hSq; go_simp <;> with_reducible rfl)
      simp only [Act.put, List.setIfInBounds_toArray, List.set_cons_succ, List.set_cons_zero]
      refine wpAnyF_two (i := 12) (j := 16) (oi := _) (oj := _) (by kernel_rfl) rfl rfl (fun K' hK => ?brA) (fun K' hK => ?brB)
      case brA =>
        rw [if_pos (by rfl)]
        go_simp
        refine (HRD.out _ (bel_trans HB.out hWd)).mono ?_
        rintro e X1 ⟨rv, rfl, hv, hx1, hfr⟩
        have hX1 : Below U.heap.size U X1 := hWd.trans (hx1.mono hWd.size)
        have HV := hide hv
        obtain ⟨ro, rc, rfl, y1, y2⟩ := hv
        clear y1 y2
        have hSd := HS.out _ hX1
        refine hK.out _ _ hSd ?_
        clear hK
        try simp only [Act.put]
        refine wpAnyF_takeP (i := 13) (oi := _) (v := ?vv27) (some 35) [] rfl rfl (by kernel_rfl) (by kernel_rfl) (by kernel_rfl) (by kernel_rfl) (by kernel_rfl) (fun _ _ _ h => h) (Or.inl ⟨by rfl, ?yy27⟩) hSd ?rr27
        case yy27 => (intro wq hSq; obtain ⟨_, _, _, _, _, _⟩ := hSq; go_simp <;> with_reducible rfl)
        simp only [Act.put, List.setIfInBounds_toArray, List.set_cons_succ, List.set_cons_zero]
        refine wpAnyF_takeP (i := 14) (oi := _) (v := ?vv28) (some 49) [] rfl rfl (by kernel_rfl) (by kernel_rfl) (by kernel_rfl) (by kernel_rfl) (by kernel_rfl) (fun _ _ _ h => h) (Or.inl ⟨by rfl, ?yy28⟩) hSd ?rr28
        case yy28 => (intro wq hSq; obtain ⟨_, _, _, _, _, _⟩ := hSq; go_simp <;> with_reducible rfl)
        simp only [Act.put, List.setIfInBounds_toArray, List.set_cons_succ, List.set_cons_zero]
        refine wpAnyF_takeP (i := 15) (oi := _) (v := ?vv29) (some 50) [] rfl rfl (by kernel_rfl) (by kernel_rfl) (by kernel_rfl) (by kernel_rfl) (by kernel_rfl) (fun _ _ _ h => h) (Or.inl ⟨by rfl, ?yy29⟩) hSd ?rr29
        case yy29 => (intro wq hSq; obtain ⟨_, _, _, _, _, _⟩ := hSq; go_simp <;> with_reducible rfl)
        simp only [Act.put, List.setIfInBounds_toArray, List.set_cons_succ, List.set_cons_zero]
        refine wpAnyF_one (i := 16) (o := _) (by kernel_rfl) rfl (fun K' hK => ?_)
        rw [if_pos (by rfl)]
        go_simp
        have hX2 : Below U.heap.size U (X1.alloc (Obj.cells #[.int .i64 0, .int .i64 0, .slice none 0 0] 34)) := hX1.alloc hX1.size _
        have hSd := HS.out _ hX2
        refine hK.out _ _ hSd ?_
        clear hK
        try simp only [Act.put]
        refine wpAnyF_one (i := 17) (o := _) (by kernel_rfl) rfl (fun K' hK => ?_)
        rw [if_pos (by rfl)]
        go_simp
        have hX3 : Below U.heap.size U (X1.alloc (Obj.cells #[.int .i64 W', .int .i64 H', .slice ro Y.length rc] 34)) := hX1.alloc hX1.size _
        have hSd := HS.out _ hX3
        refine hK.out _ _ hSd ?_
        clear hK
        try simp only [Act.put]
        refine wpAnyF_last (o := _) (by kernel_rfl) rfl (fun K' hK => ?_)
        rw [if_pos (by rfl)]
        go_simp
        refine hK.out _ _ ?_
        clear hK
        refine wpAnyF_done (by kernel_rfl) ?_ _
        try simp only [Act.put]
        clear hSd
        go_wp2
        go_meet
        case rel => exact ⟨X1.heap.size, ro, rc, rfl, rfl, al1 X1 _, HV.out.alloc _, hX3⟩
      case brB =>
        rw [if_pos (by rfl)]
        go_simp
        have hBz : Below U.heap.size U (V1.alloc (Obj.cells #[.int .i64 0, .int .i64 0, .slice none 0 0] 34)).drew := (hb1.alloc hb1.size _).drew
        have hSd := HS.out _ hBz
        refine hK.out _ _ hSd ?_
        clear hK
        try simp only [Act.put]
        have gz0 : (V1.alloc (Obj.cells #[.int .i64 0, .int .i64 0, .slice none 0 0] 34)).drew.heap[V1.heap.size]? = _ := al1 V1 (Obj.cells #[.int .i64 0, .int .i64 0, .slice none 0 0] 34)
        have hlz := (Array.getElem?_eq_some_iff.1 gz0).1
        generalize (V1.alloc (Obj.cells #[.int .i64 0, .int .i64 0, .slice none 0 0] 34)).drew = Vz at *
        have hq : U.heap.size ≤ V1.heap.size := hs1
        generalize V1.heap.size = QX at *
        refine wpAnyF_one (i := 12) (o := _) (by kernel_rfl) rfl (fun K' hK => ?_)
        rw [if_pos (by rfl)]
        go_simp
        refine (HRD.out _ (bel_trans HB.out hBz)).mono ?_
        rintro e X1 ⟨rv, rfl, hv, hx1, hfr⟩
        have hX1 : Below U.heap.size U X1 := hBz.trans (hx1.mono hBz.size)
        have HV := hide hv
        obtain ⟨ro, rc, rfl, y1, y2⟩ := hv
        clear y1 y2
        have hSd := HS.out _ hX1
        refine hK.out _ _ hSd ?_
        clear hK
        try simp only [Act.put]
        have gz := (hx1.block QX hlz).trans gz0
        refine wpAnyF_takeP (i := 13) (oi := _) (v := ?vv30) (some 35) [] rfl rfl (by kernel_rfl) (by kernel_rfl) (by kernel_rfl) (by kernel_rfl) (by kernel_rfl) (fun _ _ _ h => h) (Or.inl ⟨by rfl, ?yy30⟩) hSd ?rr30
        case yy30 => (intro wq hSq; obtain ⟨_, _, _, _, _, _⟩ := hSq; go_simp <;> with_reducible rfl)
        simp only [Act.put, List.setIfInBounds_toArray, List.set_cons_succ, List.set_cons_zero]
        refine wpAnyF_takeP (i := 14) (oi := _) (v := ?vv31) (some 49) [] rfl rfl (by kernel_rfl) (by kernel_rfl) (by kernel_rfl) (by kernel_rfl) (by kernel_rfl) (fun _ _ _ h => h) (Or.inl ⟨by rfl, ?yy31⟩) hSd ?rr31
        case yy31 => (intro wq hSq; obtain ⟨_, _, _, _, _, _⟩ := hSq; go_simp <;> with_reducible rfl)
        simp only [Act.put, List.setIfInBounds_toArray, List.set_cons_succ, List.set_cons_zero]
        refine wpAnyF_takeP (i := 15) (oi := _) (v := ?vv32) (some 50) [] rfl rfl (by kernel_rfl) (by kernel_rfl) (by kernel_rfl) (by kernel_rfl) (by kernel_rfl) (fun _ _ _ h => h) (Or.inl ⟨by rfl, ?yy32⟩) hSd ?rr32
        case yy32 => (intro wq hSq; obtain ⟨_, _, _, _, _, _⟩ := hSq; go_simp <;> with_reducible rfl)
        simp only [Act.put, List.setIfInBounds_toArray, List.set_cons_succ, List.set_cons_zero]
        obtain ⟨z0, z1, z2⟩ := cells3 gz
        have f0 := Lib.frozen_of_heap gz 0
        have f1 := Lib.frozen_of_heap gz 1
        have f2 := Lib.frozen_of_heap gz 2
        obtain ⟨vS, _, _, _⟩ := box3_set gz (.int .i64 W') (.int .i64 H') (.slice ro Y.length rc) w (Nat.le_trans HB.out.size hq) (HB.out.trans (hX1.mono HB.out.size))
        have hB4 := set3_below hX1 hq (.int .i64 W') (.int .i64 H') (.slice ro Y.length rc)
        have HX := hide (HV.out.set3 hfr hlz (.int .i64 W') (.int .i64 H') (.slice ro Y.length rc))
        refine wpAnyF_one (i := 17) (o := _) (by kernel_rfl) rfl (fun K' hK => ?_)
        rw [if_pos (by rfl)]
        go_simp
        have hSd := HS.out _ hB4
        refine hK.out _ _ hSd ?_
        clear hK
        try simp only [Act.put]
        clear z0 z1 z2 f0 f1 f2
        refine wpAnyF_last (o := _) (by kernel_rfl) rfl (fun K' hK => ?_)
        rw [if_pos (by rfl)]
        go_simp
        refine hK.out _ _ ?_
        clear hK
        refine wpAnyF_done (by kernel_rfl) ?_ _
        try simp only [Act.put]
        clear hSd
        go_wp2
        go_meet
        case rel => exact ⟨QX, ro, rc, rfl, rfl, vS, HX.out, hB4⟩
    case rest =>
      obtain ⟨PX, ro, rc, rfl, rfl, vS, hpx, vB⟩ := hcut
      have HV := hide hpx
      have hlp := (Array.getElem?_eq_some_iff.1 vS).1
      have HS6 := hide (show ∀ v, Below wc.heap.size wc v → (v.cell? ⟨PX, 2, none⟩ = some (.slice ro Y.length rc) ∧ v.cell? ⟨w.heap.size, 2, none⟩ = some (.int .i64 r.depth)) from fun v h => ⟨(cells3 ((h.block _ hlp).trans vS)).2.2, (HS.out v (bel_trans vB h)).2.1⟩)
      have HBW := hide (bel_trans HB.out vB)
      clear hpx vS vB HS HRD HRO HRC a1 hb1 hs1
      by_cases hF : F = 0
      · have hFb : (F == 0) = true := by simpa using hF
        rw [if_pos hF] at HEE
        go_upto_region 6 with fail
        have hWd : Below wc.heap.size wc wc.drew := (Below.refl _ _).drew
        have hSd := HS6.out _ hWd
        have hmx : Tryz.prog.follows .mixedOrders = true := by kernel_rfl
        refine wp_region_last (S := (fun v : World => v.cell? ⟨PX, 2, none⟩ = some (.slice ro Y.length rc) ∧ v.cell? ⟨w.heap.size, 2, none⟩ = some (.int .i64 r.depth))) (f := 12) hmx ?_
        show wpAnyF _ _ _ _ _ _ 13 _ _ wc.drew
        refine wpAnyF_takeP (i := 0) (oi := _) (v := ?vv33) (some 51) [] rfl rfl (by kernel_rfl) (by kernel_rfl) (by kernel_rfl) (by kernel_rfl) (by kernel_rfl) (fun _ _ _ h => h) (Or.inl ⟨by rfl, ?yy33⟩) hSd ?rr33
        case yy33 => (intro wq hSq; obtain ⟨_, _⟩ := hSq; go_simp <;> with_reducible rfl)
        simp only [Act.put, List.setIfInBounds_toArray, List.set_cons_succ, List.set_cons_zero]
        refine wpAnyF_takeP (i := 2) (oi := _) (v := ?vv34) (some 53) [] rfl rfl (by kernel_rfl) (by kernel_rfl) (by kernel_rfl) (by kernel_rfl) (by kernel_rfl) (fun _ _ _ h => h) (Or.inl ⟨by rfl, ?yy34⟩) hSd ?rr34
        case yy34 => (intro wq hSq; obtain ⟨_, _⟩ := hSq; go_simp <;> with_reducible rfl)
        simp only [Act.put, List.setIfInBounds_toArray, List.set_cons_succ, List.set_cons_zero]
        refine wpAnyF_takeP (i := 1) (oi := _) (v := ?vv35) (some 52) [] rfl rfl (by kernel_rfl) (by kernel_rfl) (by kernel_rfl) (by kernel_rfl) (by kernel_rfl) (fun _ _ _ h => h) (Or.inl ⟨by rfl, ?yy35⟩) hSd ?rr35
        case yy35 => (intro wq hSq; obtain ⟨_, _⟩ := hSq; go_simp <;> with_reducible rfl)
        simp only [Act.put, List.setIfInBounds_toArray, List.set_cons_succ, List.set_cons_zero]
        refine wpAnyF_takeP (i := 3) (oi := _) (v := ?vv36) (some 54) [] rfl rfl (by kernel_rfl) (by kernel_rfl) (by kernel_rfl) (by kernel_rfl) (by kernel_rfl) (fun _ _ _ h => h) (Or.inl ⟨by rfl, ?yy36⟩) hSd ?rr36
        case yy36 => (intro wq hSq; obtain ⟨_, _⟩ := hSq; go_simp <;> with_reducible rfl)
        simp only [Act.put, List.setIfInBounds_toArray, List.set_cons_succ, List.set_cons_zero]
        refine wpAnyF_takeP (i := 4) (oi := _) (v := ?vv37) (some 55) [] rfl rfl (by kernel_rfl) (by kernel_rfl) (by kernel_rfl) (by kernel_rfl) (by kernel_rfl) (fun _ _ _ h => h) (Or.inl ⟨by rfl, ?yy37⟩) hSd ?rr37
        case yy37 => (intro wq hSq; obtain ⟨_, _⟩ := hSq; go_simp <;> with_reducible rfl)
        simp only [Act.put, List.setIfInBounds_toArray, List.set_cons_succ, List.set_cons_zero]
        refine wpAnyF_takeP (i := 5) (oi := _) (v := ?vv38) (some 56) [] rfl rfl (by kernel_rfl) (by kernel_rfl) (by kernel_rfl) (by kernel_rfl) (by kernel_rfl) (fun _ _ _ h => h) (Or.inl ⟨by rfl, ?yy38⟩) hSd ?rr38
        case yy38 => (intro wq hSq; obtain ⟨_, _⟩ := hSq; go_simp <;> with_reducible rfl)
        simp only [Act.put, List.setIfInBounds_toArray, List.set_cons_succ, List.set_cons_zero]
        refine wpAnyF_takeP (i := 7) (oi := _) (v := ?vv39) (some 58) [] rfl rfl (by kernel_rfl) (by kernel_rfl) (by kernel_rfl) (by kernel_rfl) (by kernel_rfl) (fun _ _ _ h => h) (Or.inl ⟨by rfl, ?yy39⟩) hSd ?rr39
        case yy39 => (intro wq hSq; obtain ⟨_, _⟩ := hSq; go_simp <;> with_reducible rfl)
        simp only [Act.put, List.setIfInBounds_toArray, List.set_cons_succ, List.set_cons_zero]
        refine wpAnyF_takeP (i := 6) (oi := _) (v := ?vv40) (some 57) [] rfl rfl (by kernel_rfl) (by kernel_rfl) (by kernel_rfl) (by kernel_rfl) (by kernel_rfl) (fun _ _ _ h => h) (Or.inl ⟨by rfl, ?yy40⟩) hSd ?rr40
        case yy40 => (intro wq hSq; obtain ⟨_, _⟩ := hSq; go_simp <;> with_reducible rfl)
        simp only [Act.put, List.setIfInBounds_toArray, List.set_cons_succ, List.set_cons_zero]
        refine wpAnyF_takeP (i := 8) (oi := _) (v := ?vv41) (some 59) [] rfl rfl (by kernel_rfl) (by kernel_rfl) (by kernel_rfl) (by kernel_rfl) (by kernel_rfl) (fun _ _ _ h => h) (Or.inl ⟨by rfl, ?yy41⟩) hSd ?rr41
        case yy41 => (intro wq hSq; obtain ⟨_, _⟩ := hSq; go_simp <;> with_reducible rfl)
        simp only [Act.put, List.setIfInBounds_toArray, List.set_cons_succ, List.set_cons_zero]
        refine wpAnyF_one (i := 9) (o := _) (by kernel_rfl) rfl (fun K' hK => ?_)
        rw [if_pos (by rfl)]
        go_simp
        refine (shallow_any _ Y r.depth _ hd (HV.out.below hWd (Nat.le_refl _))).mono ?_
        rintro e X2 ⟨rfl, hx2⟩
        have hX2 : Below wc.heap.size wc X2 := hWd.trans (hx2.mono hWd.size)
        rw [shalB_eq HNN.out]
        have hSd := HS6.out _ hX2
        refine hK.out _ _ hSd ?_
        clear hK
        try simp only [Act.put]
        refine wpAnyF_takeP (i := 10) (oi := _) (v := ?vv42) (some 61) [] rfl rfl (by kernel_rfl) (by kernel_rfl) (by kernel_rfl) (by kernel_rfl) (by kernel_rfl) (fun _ _ _ h => h) (Or.inl ⟨by rfl, ?yy42⟩) hSd ?rr42
        case yy42 => (intro wq hSq; obtain ⟨_, _⟩ := hSq; go_simp <;> with_reducible rfl)
        simp only [Act.put, List.setIfInBounds_toArray, List.set_cons_succ, List.set_cons_zero]
        refine wpAnyF_one (i := 11) (o := _) (by kernel_rfl) rfl (fun K' hK => ?_)
        rw [if_pos (by rfl)]
        go_simp
        have hSd := hSd
        refine hK.out _ _ hSd ?_
        clear hK
        try simp only [Act.put]
        refine wpAnyF_last (o := _) (by kernel_rfl) rfl (fun K' hK => ?_)
        rw [if_pos (by rfl)]
        go_simp
        refine hK.out _ _ ?_
        clear hK
        refine wpAnyF_done (by kernel_rfl) ?_ _
        try simp only [Act.put]
        clear hSd hWd hx2
        have HBF := hide (bel_trans HBW.out hX2)
        have HVF := hide (HV.out.below hX2 (Nat.le_refl _))
        go_wp2
        go_ret2
        refine ⟨_, ret_tup2 rfl (congrArg Value.bool ?_), fun h0 => ?_, HBF.out⟩
        · rw [HEE.out]; cases deepOk r.depth Y <;> simp
        · rw [HZZ.out, if_pos h0]; exact HVF.out
      · have hFb : (F == 0) = false := by simpa using hF
        rw [if_neg hF] at HEE
        go_upto_region 6 with fail
        have hWd : Below wc.heap.size wc wc.drew := (Below.refl _ _).drew
        have hSd := HS6.out _ hWd
        have hmx : Tryz.prog.follows .mixedOrders = true := by kernel_rfl
        refine wp_region_last (S := (fun v : World => v.cell? ⟨PX, 2, none⟩ = some (.slice ro Y.length rc) ∧ v.cell? ⟨w.heap.size, 2, none⟩ = some (.int .i64 r.depth))) (f := 12) hmx ?_
        show wpAnyF _ _ _ _ _ _ 13 _ _ wc.drew
        refine wpAnyF_takeP (i := 0) (oi := _) (v := ?vv43) (some 51) [] rfl rfl (by kernel_rfl) (by kernel_rfl) (by kernel_rfl) (by kernel_rfl) (by kernel_rfl) (fun _ _ _ h => h) (Or.inl ⟨by rfl, ?yy43⟩) hSd ?rr43
        case yy43 => (intro wq hSq; obtain ⟨_, _⟩ := hSq; go_simp <;> with_reducible rfl)
        simp only [Act.put, List.setIfInBounds_toArray, List.set_cons_succ, List.set_cons_zero]
        refine wpAnyF_takeP (i := 2) (oi := _) (v := ?vv44) (some 53) [] rfl rfl (by kernel_rfl) (by kernel_rfl) (by kernel_rfl) (by kernel_rfl) (by kernel_rfl) (fun _ _ _ h => h) (Or.inl ⟨by rfl, ?yy44⟩) hSd ?rr44
        case yy44 => (intro wq hSq; obtain ⟨_, _⟩ := hSq; go_simp <;> with_reducible rfl)
        simp only [Act.put, List.setIfInBounds_toArray, List.set_cons_succ, List.set_cons_zero]
        refine wpAnyF_takeP (i := 1) (oi := _) (v := ?vv45) (some 52) [] rfl rfl (by kernel_rfl) (by kernel_rfl) (by kernel_rfl) (by kernel_rfl) (by kernel_rfl) (fun _ _ _ h => h) (Or.inl ⟨by rfl, ?yy45⟩) hSd ?rr45
        case yy45 => (intro wq hSq; obtain ⟨_, _⟩ := hSq; go_simp <;> with_reducible rfl)
        simp only [Act.put, List.setIfInBounds_toArray, List.set_cons_succ, List.set_cons_zero]
        refine wpAnyF_takeP (i := 3) (oi := _) (v := ?vv46) (some 54) [] rfl rfl (by kernel_rfl) (by kernel_rfl) (by kernel_rfl) (by kernel_rfl) (by kernel_rfl) (fun _ _ _ h => h) (Or.inl ⟨by rfl, ?yy46⟩) hSd ?rr46
        case yy46 => (intro wq hSq; obtain ⟨_, _⟩ := hSq; go_simp <;> with_reducible rfl)
        simp only [Act.put, List.setIfInBounds_toArray, List.set_cons_succ, List.set_cons_zero]
        refine wpAnyF_takeP (i := 4) (oi := _) (v := ?vv47) (some 55) [] rfl rfl (by kernel_rfl) (by kernel_rfl) (by kernel_rfl) (by kernel_rfl) (by kernel_rfl) (fun _ _ _ h => h) (Or.inl ⟨by rfl, ?yy47⟩) hSd ?rr47
        case yy47 => (intro wq hSq; obtain ⟨_, _⟩ := hSq; go_simp <;> with_reducible rfl)
        simp only [Act.put, List.setIfInBounds_toArray, List.set_cons_succ, List.set_cons_zero]
        refine wpAnyF_takeP (i := 5) (oi := _) (v := undef) (some 56) [] rfl rfl (by kernel_rfl) (by kernel_rfl) (by kernel_rfl) (by kernel_rfl) (by kernel_rfl) (fun _ _ _ h => h) (Or.inr ⟨by rfl, rfl⟩) hSd ?rr48
        simp only [Act.put, List.setIfInBounds_toArray, List.set_cons_succ, List.set_cons_zero]
        refine wpAnyF_takeP (i := 7) (oi := _) (v := undef) (some 58) [] rfl rfl (by kernel_rfl) (by kernel_rfl) (by kernel_rfl) (by kernel_rfl) (by kernel_rfl) (fun _ _ _ h => h) (Or.inr ⟨by rfl, rfl⟩) hSd ?rr49
        simp only [Act.put, List.setIfInBounds_toArray, List.set_cons_succ, List.set_cons_zero]
        refine wpAnyF_takeP (i := 6) (oi := _) (v := undef) (some 57) [] rfl rfl (by kernel_rfl) (by kernel_rfl) (by kernel_rfl) (by kernel_rfl) (by kernel_rfl) (fun _ _ _ h => h) (Or.inr ⟨by rfl, rfl⟩) hSd ?rr50
        simp only [Act.put, List.setIfInBounds_toArray, List.set_cons_succ, List.set_cons_zero]
        refine wpAnyF_takeP (i := 8) (oi := _) (v := undef) (some 59) [] rfl rfl (by kernel_rfl) (by kernel_rfl) (by kernel_rfl) (by kernel_rfl) (by kernel_rfl) (fun _ _ _ h => h) (Or.inr ⟨by rfl, rfl⟩) hSd ?rr51
        simp only [Act.put, List.setIfInBounds_toArray, List.set_cons_succ, List.set_cons_zero]
        refine wpAnyF_one (i := 9) (o := _) (by kernel_rfl) rfl (fun K' hK => ?_)
        rw [if_neg (by intro h; exact Bool.false_ne_true h)]
        have hSd := hSd
        refine hK.out _ _ hSd ?_
        clear hK
        try simp only [Act.put]
        refine wpAnyF_takeP (i := 10) (oi := _) (v := ?vv52) (some 61) [] rfl rfl (by kernel_rfl) (by kernel_rfl) (by kernel_rfl) (by kernel_rfl) (by kernel_rfl) (fun _ _ _ h => h) (Or.inl ⟨by rfl, ?yy52⟩) hSd ?rr52
        case yy52 => (intro wq hSq; obtain ⟨_, _⟩ := hSq; go_simp <;> with_reducible rfl)
        simp only [Act.put, List.setIfInBounds_toArray, List.set_cons_succ, List.set_cons_zero]
        refine wpAnyF_one (i := 11) (o := _) (by kernel_rfl) rfl (fun K' hK => ?_)
        rw [if_pos (by rfl)]
        go_simp
        have hSd := hSd
        refine hK.out _ _ hSd ?_
        clear hK
        try simp only [Act.put]
        refine wpAnyF_last (o := _) (by kernel_rfl) rfl (fun K' hK => ?_)
        rw [if_pos (by rfl)]
        go_simp
        refine hK.out _ _ ?_
        clear hK
        refine wpAnyF_done (by kernel_rfl) ?_ _
        try simp only [Act.put]
        clear hSd
        have HBF := hide (bel_trans HBW.out hWd)
        go_wp2
        go_ret2
        refine ⟨_, ret_tup2 rfl (congrArg Value.bool ?_), fun h0 => absurd (HEE.out.symm.trans h0) hF, HBF.out⟩
        rw [HEE.out]; simp [hF]
        end Go.Proofs.YtanebhbfekcplaaGreat

namespace Go.Proofs.YtanebhbfekcplaaGreat
set_option linter.unusedVariables false
set_option linter.unusedSimpArgs false
open Go.RowKit
set_option maxRecDepth 100000 in
set_option maxHeartbeats 3200000 in
theorem refPlane_any (r : RawF) (lv tv sv cv : Value) (w : World) (hr : IsRaw w r lv tv sv cv) :
    Calls Tryz.prog 8 #[.agg (rawA r lv tv sv cv)] w fun e w' => ∃ v, e = .returned (.tuple #[.agg #[.int .i64 (planeW r), .int .i64 (planeH r), v], .int .i64 (planeE r)]) ∧ IsInts w' v (planeZ r) ∧ Below w.heap.size w w' ∧ Fresh w.heap.size v := by
  have HR := hide hr
  have HCH := hide (fun (u : World) (hu : Below w.heap.size w u) => headError_any r lv tv sv cv u (HR.out.lens.below hu (Nat.le_refl _)))
  have HCP := hide (fun (u : World) (hu : Below w.heap.size w u) (hh : Head r) => planError_any r lv tv sv cv u hh (HR.out.plan.below hu (Nat.le_refl _)))
  have HST := hide hr.strips
  obtain ⟨tp, tc, rfl, htl, _⟩ := hr.strips
  have HE := hide (show planeE r = if headE r = 0 then (if r.strips.length = cntN r then (if pErr r = 0 then (if stOk r r.strips.length = true then 0 else 1) else pErr r) else 2) else headE r from rfl)
  have HZ := hide (show planeZ r = if planeE r = 0 then plUp r r.strips.length else [] from rfl)
  have HW := hide (show planeW r = if planeE r = 0 then r.w else 0 from rfl)
  have HH := hide (show planeH r = if planeE r = 0 then r.h else 0 from rfl)
  generalize planeE r = E at *
  generalize planeZ r = Z at *
  generalize planeW r = PW at *
  generalize planeH r = PH at *
  clear hr
  obtain ⟨a1, a2⟩ := al2 w (Obj.cells (rawA r lv (.slice tp r.strips.length tc) sv cv) 32) (Obj.cells #[.int .i64 0, .int .i64 0, .slice none 0 0] 34)
  have HB := hide (be2 w (Obj.cells (rawA r lv (.slice tp r.strips.length tc) sv cv) 32) (Obj.cells #[.int .i64 0, .int .i64 0, .slice none 0 0] 34))
  have hl1 := (Array.getElem?_eq_some_iff.1 a1).1
  have hl2 := (Array.getElem?_eq_some_iff.1 a2).1
  go_enter Tryz.func8, Tryz.ntmps8
  go_wp2_with (refine wpList_load_row rfl 32 _ rfl _ rfl _ _ _ _ a1 Tryz.underlying32 rfl (by kernel_rfl) ?_)
  generalize (w.alloc (Obj.cells (rawA r lv (.slice tp r.strips.length tc) sv cv) 32)).alloc (Obj.cells #[.int .i64 0, .int .i64 0, .slice none 0 0] 34) = U at *
  have HRS0 := hide (fun (k : Nat) (u : World) (h : Head r) (hk : k < cntN r) (hk2 : k < r.strips.length) (hu : Below w.heap.size w u) => rstrip_any r lv (.slice tp r.strips.length tc) sv cv k u (HR.out.below hu (Nat.le_refl _)) h hk hk2)
  have HSC0 := hide (fun (u : World) (h : Head r) => rcount2_any r lv (.slice tp r.strips.length tc) sv cv u h)
  have HRC := hide (fun (v : World) (h : v.heap[w.heap.size]? = some (.cells (rawA r lv (.slice tp r.strips.length tc) sv cv) 32 (0, 0))) => raw_cells h)
  have hi28 : (Tryz.prog.info? 32).map (·.size) = some ((rawA r lv (.slice tp r.strips.length tc) sv cv) : Array Value).size := by kernel_rfl
  generalize (rawA r lv (.slice tp r.strips.length tc) sv cv) = RQ at *
  have HZZ := hide (fun (V : World) (hb : Below U.heap.size U V) => cells3 ((hb.block _ hl2).trans a2))
  have HFZ := hide (fun (V : World) (hb : Below U.heap.size U V) (j : Nat) => Lib.frozen_of_heap ((hb.block _ hl2).trans a2) j)
  have HBZ := hide (fun (V : World) (hb : Below U.heap.size U V) => set3_below (bel_trans HB.out hb) (show w.heap.size ≤ w.heap.size + 1 by omega) (.int .i64 0) (.int .i64 0) (.slice none 0 0))
  refine (HCH.out _ HB.out).mono ?_
  rintro e V1 ⟨rfl, hb1⟩
  by_cases hF : headE r = 0
  · rw [if_pos hF] at HE
    rw [hF]
    have hH := headE_zero hF
    have HHD := hide hH
    have HSC := hide (fun (u : World) => HSC0.out u hH)
    have HS := hide (show ∀ v, Below U.heap.size U v → v.heap[w.heap.size]? = some (.cells RQ 32 (0, 0)) ∧ v.cell? ⟨w.heap.size, 6, none⟩ = some (.slice tp r.strips.length tc) from fun v h => ⟨(h.block _ hl1).trans a1, (HRC.out v ((h.block _ hl1).trans a1)).2.2.2.2.2.2.1⟩)
    clear hF HCH hH
    go_upto_region 4 with fail
    have hWd : Below U.heap.size U V1.drew := hb1.drew
    have hSd := HS.out _ hWd
    have hmx : Tryz.prog.follows .mixedOrders = true := by kernel_rfl
    refine wp_region_last (S := (fun v : World => v.heap[w.heap.size]? = some (.cells RQ 32 (0, 0)) ∧ v.cell? ⟨w.heap.size, 6, none⟩ = some (.slice tp r.strips.length tc))) (f := 5) hmx ?_
    show wpAnyF _ _ _ _ _ _ 6 _ _ V1.drew
    refine wpAnyF_takeP (i := 0) (oi := _) (v := ?vv23) (some 16) [2, 1] rfl rfl (by kernel_rfl) (by kernel_rfl) (by kernel_rfl) (by kernel_rfl) (by kernel_rfl) (fun _ _ _ h => h) (Or.inl ⟨by rfl, ?yy23⟩) hSd ?rr23
    case yy23 => (intro wq hSq; obtain ⟨hq1, hq2⟩ := hSq; go_simp <;> with_reducible rfl)
    simp only [Act.put, List.setIfInBounds_toArray, List.set_cons_succ, List.set_cons_zero]
    refine wpAnyF_takeP (i := 3) (oi := _) (v := .agg RQ) (some 19) [4] rfl rfl (by kernel_rfl) (by kernel_rfl) (by kernel_rfl) (by kernel_rfl) (by kernel_rfl) (fun _ _ _ h => h) (Or.inl ⟨by rfl, ?yy24⟩) hSd ?rr24
    case yy24 => (intro wq hSq; obtain ⟨hq1, hq2⟩ := hSq; exact exec_row 32 _ rfl _ rfl _ _ _ _ hq1 Tryz.underlying32 rfl hi28)
    simp only [Act.put, List.setIfInBounds_toArray, List.set_cons_succ, List.set_cons_zero]
    refine wpAnyF_takeP (i := 1) (oi := _) (v := ?vv25) (some 17) [2] rfl rfl (by kernel_rfl) (by kernel_rfl) (by kernel_rfl) (by kernel_rfl) (by kernel_rfl) (fun _ _ _ h => h) (Or.inl ⟨by rfl, ?yy25⟩) hSd ?rr25
    case yy25 => (intro wq hSq; obtain ⟨hq1, hq2⟩ := hSq; go_simp <;> with_reducible rfl)
    simp only [Act.put, List.setIfInBounds_toArray, List.set_cons_succ, List.set_cons_zero]
    refine wpAnyF_takeP (i := 2) (oi := _) (v := ?vv26) (some 18) [] rfl rfl (by kernel_rfl) (by kernel_rfl) (by kernel_rfl) (by kernel_rfl) (by kernel_rfl) (fun _ _ _ h => h) (Or.inl ⟨by rfl, ?yy26⟩) hSd ?rr26
    case yy26 => (intro wq hSq; obtain ⟨hq1, hq2⟩ := hSq; go_simp <;> with_reducible rfl)
    simp only [Act.put, List.setIfInBounds_toArray, List.set_cons_succ, List.set_cons_zero]
    refine wpAnyF_one (i := 4) (o := _) (by kernel_rfl) rfl (fun K' hK => ?_)
    rw [if_pos (by rfl)]
    go_simp
    refine (HSC.out _).mono ?_
    rintro e V2 ⟨rfl, hb2⟩
    have hB2 : Below U.heap.size U V2 := hWd.trans (hb2.mono hWd.size)
    have hSd := HS.out _ hB2
    refine hK.out _ _ hSd ?_
    clear hK
    try simp only [Act.put]
    refine wpAnyF_last (o := _) (by kernel_rfl) rfl (fun K' hK => ?_)
    rw [if_pos (by rfl)]
    go_simp
    refine hK.out _ _ ?_
    clear hK
    refine wpAnyF_done (by kernel_rfl) ?_ _
    try simp only [Act.put]
    clear hSd hWd hb2
    by_cases hN : r.strips.length = cntN r
    · rw [if_pos hN] at HE
      have hn : ((r.strips.length : Int) != (cntN r : Int)) = false := by simp [hN]
      have g1 := (hB2.block _ hl1).trans a1
      have hcl := HHD.out.cnt_le
      have hsl : r.strips.length ≤ 64 := by omega
      have HNC := hide hN
      clear hcl hN
      go_wp2_with (refine wpList_load_row rfl 32 _ rfl _ rfl _ _ _ _ g1 Tryz.underlying32 rfl hi28 ?_)
      clear hn g1
      refine (HCP.out _ (bel_trans HB.out hB2) HHD.out).mono ?_
      rintro e V3 ⟨rfl, hb3⟩
      replace hb3 := bel_trans hB2 hb3
      by_cases hP : pErr r = 0
      · rw [if_pos hP] at HE
        rw [hP]
        clear HCP HSC hB2 hP
        obtain ⟨i0, hi, hz0, hz1, hz2⟩ := info_parts Tryz.infoInt
        obtain ⟨s0, s1, s2, s3, s4, s5, s6, s13, s26⟩ := HRC.out _ ((hb3.block _ hl1).trans a1)
        have vB0 := bel_trans hb3 (bel_alloc V3 (Obj.cells #[.int .i64 r.w, .int .i64 r.h, .slice none 0 0] 34))
        have HJ0 := hide (show PlJ w r RQ V3.heap.size 0 (V3.alloc (Obj.cells #[.int .i64 r.w, .int .i64 r.h, .slice none 0 0] 34)) from ⟨none, 0, rfl, al1 V3 _, ⟨rfl, .inl ⟨rfl, rfl⟩⟩, (vB0.block _ hl1).trans a1, (vB0.block _ hl2).trans a2, bel_trans HB.out vB0⟩)
        have hQw : w.heap.size + 1 < V3.heap.size := by have := hb3.size; omega
        go_wp2_with fail
        clear s0 s1 s2 s3 s4 s5 s6 s13 s26 HS hb3 vB0
        clear HZZ HFZ HBZ a1 a2 hl1 hl2 HB
        generalize V3.alloc (Obj.cells #[.int .i64 r.w, .int .i64 r.h, .slice none 0 0] 34) = V4 at *
        generalize V3.heap.size = QX at *
        · go_loopw [7] (fun i wr => ∃ k : Nat, k ≤ r.strips.length ∧ i = .int .i64 k ∧ PlJ w r RQ QX k wr) (fun i _ => r.strips.length - (intOf i).toNat)
          case atStart => exact ⟨0, Nat.zero_le _, rfl, HJ0.out⟩
          case round =>
            clear HJ0
            obtain ⟨k, hk, rfl, hJ⟩ := hrel
            have HJ := hide hJ
            obtain ⟨so, cap, j1, j3, j4, j5, j6, j8⟩ := hJ
            by_cases hlt : k < r.strips.length
            · have hd : decide ((k : Int) < (r.strips.length : Int)) = true := by simp; omega
              have hlc : k < cntN r := by have := HNC.out; omega
              have HRS := hide (fun (u : World) (hu : Below w.heap.size w u) => HRS0.out k u HHD.out hlc hlt hu)
              have HEI := hide (HHD.out.stE hlc (stAt r k))
              have HLN := hide (fun h0 => head_stZ_len HHD.out hlc (s := stAt r k) h0)
              have HSZ := hide (HHD.out.size hlc)
              have HZF := hide (fun hk0 => stOk_false (r := r) hlt hk0)
              have HPL := hide (plUp_len HHD.out k (by omega) j1)
              have HSU := hide (plUp_succ r k)
              have HOK := hide (show stE r (stAt r k) (rowN r k) = 0 → stOk r (k + 1) = true from fun h0 => by rw [stOk_succ, j1, h0]; rfl)
              generalize stAt r k = SS at *
              generalize rowN r k = RN at *
              have hl1 := (Array.getElem?_eq_some_iff.1 j5).1
              obtain ⟨s0, s1, s2, s3, s4, s5, s6, s13, s26⟩ := HRC.out _ j5
              have j5' := j5
              clear j1 j3 j4 j5 j6 HRS0
              go_wp2_with (refine wpList_load_row rfl 32 _ rfl _ rfl _ _ _ _ j5' Tryz.underlying32 rfl hi28 ?_)
              clear s0 s1 s2 s3 s4 s5 s6 s13 s26 j5'
              refine (HRS.out _ j8).mono ?_
              rintro e X2 ⟨v, rfl, hv, hX2⟩
              have HJ2 := hide (HJ.out.below hX2)
              clear HJ j8 HRS
              obtain ⟨so, cap, k1, k3, k4, k5, k6, k8⟩ := HJ2.out
              by_cases h0 : stE r SS RN = 0
              · have HV := hide (hv h0)
                obtain ⟨vo, vc, rfl, y1, y2⟩ := hv h0
                clear y1 y2 hv
                rw [decide_eq_true h0]
                have hln := HLN.out h0
                have hsz := HSZ.out
                have HOW := hide k4
                have HK3 := hide k3
                obtain ⟨q0, q1, q2⟩ := cells3 k3
                have hpl := HPL.out
                generalize stZ r SS RN = Y at *
                have HVP := hide (HV.out)
                obtain ⟨vo', vc', hve, _, hvo⟩ := HVP.out
                cases hve
                rcases hvo with hvo | ⟨pb, po, rfl, hpb, hpc⟩
                · exfalso
                  rw [hvo] at hln
                  simp at hln
                  omega
                have HFC := hide (show ∀ j u, (Y.map (Value.int .i64))[j]? = some u → X2.cell? ((⟨pb, po, none⟩ : Addr).add j) = some u from fun j u hj => by
                  rw [List.getElem?_map] at hj
                  obtain ⟨z, hz, rfl⟩ := Option.map_eq_some_iff.1 hj
                  obtain ⟨hl, rfl⟩ := List.getElem?_eq_some_iff.1 hz
                  rw [Addr.add_lit]
                  exact hpc j hl)
                obtain ⟨P, hPU⟩ : ∃ P, plUp r k = P := ⟨_, rfl⟩
                rw [hPU] at HOW HK3 HSU hpl q2
                have hyl : Y.length ≤ 4096 := by omega
                have hy1 : 1 ≤ Y.length := by omega
                have hk8s := k8.size
                clear hpc hln hsz
                go_wp2_with (at_builtin; refine wpList_append_own _ rfl _ _ 22 rfl w.heap.size 3 i0 (.int .i64 0) 1 8 Tryz.underlying22 hi hz0 hz1 hz2 rfl (by decide) _ P.length (P.map (Value.int .i64)) rfl HOW.out ⟨pb, po, none⟩ Y.length vc (Y.map (Value.int .i64)) rfl ?qc1 ?qc2 ?qc3 ?qc4 ?qc5 ?qc6 ?_)
                case qc1 => rw [List.length_map, Nat.mul_one]
                case qc2 => exact HFC.out
                case qc3 => intro u hu; obtain ⟨z, _, rfl⟩ := List.mem_map.1 hu; rfl
                case qc4 => unfold maxLen; omega
                case qc5 => omega
                case qc6 => exact hk8s
                intro v' w1 hown hgrow hnil
                rcases id hown.2 with ⟨_, hn0⟩ | ⟨g, cp, cur, rfl, _⟩
                · exfalso; omega
                obtain ⟨_, c2, fz, g1, g2, g3, g4⟩ := app_gen (by decide) HK3.out HOW.out k8 (Nat.le_refl _) (show w.heap.size ≤ QX by omega) (Below.refl _ _) hgrow hown
                have hpe : (plUp r (k + 1)).length = P.length + Y.length := by rw [HSU.out, List.length_append]
                have hpm : (plUp r (k + 1)).map (Value.int .i64) = P.map (Value.int .i64) ++ Y.map (Value.int .i64) := by rw [HSU.out, List.map_append]
                have HJ3 := hide (show PlJ w r RQ QX (k + 1) _ from ⟨some ⟨g, 0, none⟩, cp, HOK.out h0, by rw [hpe]; exact g1, by rw [hpe, hpm]; exact g2,
                  (g4 _ (Array.getElem?_eq_some_iff.1 k5).1 (own_ne (by rw [hPU] at k4; exact k4) k5 (by decide)) (by omega)).trans k5, (g4 _ (Array.getElem?_eq_some_iff.1 k6).1 (own_ne (by rw [hPU] at k4; exact k4) k6 (by decide)) (by omega)).trans k6, g3⟩)
                clear g1 g2 g3 g4 k1 k3 k4 k5 k6 k8 hown hgrow hnil q0 q1 q2 hpe hpm
                go_wp2
                go_roundw
                case rel => exact ⟨k + 1, hlt, by go_num, HJ3.out⟩
                case measure => simp [intOf]; omega
              · rw [decide_eq_false h0]
                clear hv
                have hzf := HZF.out h0
                have hee : E = 1 := by rw [HE.out, hzf]; rfl
                subst hee
                have hz : Z = [] := by rw [HZ.out]; rfl
                have hpw : PW = 0 := by rw [HW.out]; rfl
                have hph : PH = 0 := by rw [HH.out]; rfl
                subst hz hpw hph
                obtain ⟨z0, z1, z2⟩ := cells3 k6
                have f0 := Lib.frozen_of_heap k6 0
                have f1 := Lib.frozen_of_heap k6 1
                have f2 := Lib.frozen_of_heap k6 2
                have HBZ := hide (set3_below k8 (show w.heap.size ≤ w.heap.size + 1 by omega) (.int .i64 0) (.int .i64 0) (.slice none 0 0))
                clear k1 k3 k4 k5 k6 k8
                go_wp2
                refine bodyPost_ret (v := .tuple #[.agg #[.int .i64 0, .int .i64 0, .slice none 0 0], .int .i64 1]) (by simp [results, Tryz.results8, go_sem, z0, z1, z2]) rfl ⟨_, rfl, IsInts.nil _, HBZ.out, Fresh.nil _⟩
            · have hd : decide ((k : Int) < (r.strips.length : Int)) = false := by simp; omega
              obtain ⟨s0, s1, s2, s3, s4, s5, s6, s13, s26⟩ := HRC.out _ j5
              obtain rfl : k = r.strips.length := by omega
              have he : E = 0 := by rw [HE.out, if_pos j1]
              subst he
              rw [if_pos rfl] at HZ HW HH
              obtain ⟨y0, y1, y2⟩ := cells3 j3
              obtain ⟨z0, z1, z2⟩ := cells3 j6
              have f0 := Lib.frozen_of_heap j6 0
              have f1 := Lib.frozen_of_heap j6 1
              have f2 := Lib.frozen_of_heap j6 2
              have hpl := plUp_len HHD.out r.strips.length (by have := HNC.out; omega) j1
              have hne : (Value.slice so (plUp r r.strips.length).length cap).ownBlock ≠ some (w.heap.size + 1) := fun e => own_ne j4 j6 (by decide) e.symm
              have hpx : IsInts wr (.slice so (plUp r r.strips.length).length cap) (plUp r r.strips.length) := IsInts.own j4 (by omega)
              have HX := hide (hpx.other (set3_size wr (w.heap.size + 1) (.int .i64 r.w) (.int .i64 r.h) (.slice so (plUp r r.strips.length).length cap)) (fun b hb => set3_heap _ _ _ _ _ b hb) hne)
              have HF := hide (set3_below j8 (show w.heap.size ≤ w.heap.size + 1 by omega) (.int .i64 r.w) (.int .i64 r.h) (.slice so (plUp r r.strips.length).length cap))
              have HFR := hide (Fresh.own j4)
              have hpw := HW.out
              have hph := HH.out
              have hzz := HZ.out
              obtain ⟨N, hN⟩ : ∃ N, (plUp r r.strips.length).length = N := ⟨_, rfl⟩
              rw [hN] at HX HF HFR y2
              rw [← hzz] at HX
              clear j1 j3 j4 j5 j6 j8 hpx hne hN hpl hzz HZ HW HH
              subst hpw hph
              go_wp2
              refine bodyPost_ret (v := .tuple #[.agg #[.int .i64 r.w, .int .i64 r.h, .slice so N cap], .int .i64 0]) (by simp [results, Tryz.results8, go_sem, z0, z1, z2]) rfl ⟨_, rfl, HX.out, HF.out, HFR.out⟩
      · rw [if_neg hP] at HE
        have hn : (pErr r != 0) = true := by simpa using hP
        have he : E = pErr r := HE.out
        subst he
        have HEN := hide hP
        have hz : Z = [] := by rw [HZ.out, if_neg HEN.out]
        have hpw : PW = 0 := by rw [HW.out, if_neg HEN.out]
        have hph : PH = 0 := by rw [HH.out, if_neg HEN.out]
        subst hz hpw hph
        obtain ⟨z0, z1, z2⟩ := HZZ.out V3 hb3
        have f0 := HFZ.out V3 hb3 0
        have f1 := HFZ.out V3 hb3 1
        have f2 := HFZ.out V3 hb3 2
        go_wp2
        refine bodyPost_ret (v := .tuple #[.agg #[.int .i64 0, .int .i64 0, .slice none 0 0], .int .i64 (pErr r)]) (by simp [results, Tryz.results8, go_sem, z0, z1, z2]) rfl ⟨_, rfl, IsInts.nil _, HBZ.out V3 hb3, Fresh.nil _⟩
    · rw [if_neg hN] at HE
      have hn : ((r.strips.length : Int) != (cntN r : Int)) = true := bne_iff_ne.2 (by omega)
      have he : E = 2 := HE.out
      subst he
      have HEN := hide (show ¬ (2 : Int) = 0 by decide)
      clear hN
      generalize cntN r = C at *
      have hz : Z = [] := by rw [HZ.out, if_neg HEN.out]
      have hpw : PW = 0 := by rw [HW.out, if_neg HEN.out]
      have hph : PH = 0 := by rw [HH.out, if_neg HEN.out]
      subst hz hpw hph
      obtain ⟨z0, z1, z2⟩ := HZZ.out V2 hB2
      have f0 := HFZ.out V2 hB2 0
      have f1 := HFZ.out V2 hB2 1
      have f2 := HFZ.out V2 hB2 2
      go_wp2
      refine bodyPost_ret (v := .tuple #[.agg #[.int .i64 0, .int .i64 0, .slice none 0 0], .int .i64 2]) (by simp [results, Tryz.results8, go_sem, z0, z1, z2]) rfl ⟨_, rfl, IsInts.nil _, HBZ.out V2 hB2, Fresh.nil _⟩
  · rw [if_neg hF] at HE
    have hn : (headE r != 0) = true := by simpa using hF
    have he : E = headE r := HE.out
    subst he
    have HEN := hide hF
    have hz : Z = [] := by rw [HZ.out, if_neg HEN.out]
    have hpw : PW = 0 := by rw [HW.out, if_neg HEN.out]
    have hph : PH = 0 := by rw [HH.out, if_neg HEN.out]
    subst hz hpw hph
    obtain ⟨z0, z1, z2⟩ := HZZ.out V1 hb1
    have f0 := HFZ.out V1 hb1 0
    have f1 := HFZ.out V1 hb1 1
    have f2 := HFZ.out V1 hb1 2
    go_wp2
    refine bodyPost_ret (v := .tuple #[.agg #[.int .i64 0, .int .i64 0, .slice none 0 0], .int .i64 (headE r)]) (by simp [results, Tryz.results8, go_sem, z0, z1, z2]) rfl ⟨_, rfl, IsInts.nil _, HBZ.out V1 hb1, Fresh.nil _⟩
end Go.Proofs.YtanebhbfekcplaaGreat

namespace Go.Proofs.YtanebhbfekcplaaGreat
set_option linter.unusedVariables false
open Go.RowKit
set_option maxRecDepth 100000 in
set_option maxHeartbeats 3200000 in
theorem rawPlanes_walk (r : RawF) (lv tv sv cv : Value) (w : World) (hr : IsRaw w r lv tv sv cv) :
    Calls Tryz.prog 3 #[.agg (rawA r lv tv sv cv)] w fun e w' => e = .returned (.bool true) ∧ Below w.heap.size w w' := by
  have HR := hide hr
  have a1 := al1 w (Obj.cells (rawA r lv tv sv cv) 32)
  have HB := hide (bel_alloc w (Obj.cells (rawA r lv tv sv cv) 32))
  have hl1 := (Array.getElem?_eq_some_iff.1 a1).1
  have hi28 : (Tryz.prog.info? 32).map (·.size) = some ((rawA r lv tv sv cv) : Array Value).size := by kernel_rfl
  have HP := hide (fun (u : World) (hu : Below w.heap.size w u) => rawPlane_any r lv tv sv cv u (HR.out.below hu (Nat.le_refl _)))
  have HQ := hide (fun (u : World) (hu : Below w.heap.size w u) => refPlane_any r lv tv sv cv u (HR.out.below hu (Nat.le_refl _)))
  have HC := hide (fun (u : World) (hu : Below w.heap.size w u) => rawCheck_any r lv tv sv cv u (HR.out.below hu (Nat.le_refl _)))
  clear hr
  generalize planeE r = E at *
  generalize planeW r = PW at *
  generalize planeH r = PH at *
  generalize planeZ r = Z at *
  go_enter Tryz.func3, Tryz.ntmps3
  go_wp2_with (refine wpList_load_row rfl 32 _ rfl _ rfl _ _ _ _ a1 Tryz.underlying32 rfl hi28 ?_)
  generalize w.alloc (Obj.cells (rawA r lv tv sv cv) 32) = U at *
  generalize (rawA r lv tv sv cv) = RQ at *
  refine (HP.out _ HB.out).mono ?_
  rintro e V1 ⟨pv, rfl, hp, hb1, _⟩
  have HPI := hide hp
  obtain ⟨po, pc, rfl, hx1, hx2⟩ := hp
  clear hx1 hx2
  have B1 := al1 V1 (Obj.cells #[.int .i64 PW, .int .i64 PH, .slice po Z.length pc] 34)
  have l1 := (Array.getElem?_eq_some_iff.1 B1).1
  replace HPI := hide (HPI.out.alloc (Obj.cells #[.int .i64 PW, .int .i64 PH, .slice po Z.length pc] 34))
  have hb2 := bel_trans hb1 (bel_alloc V1 (Obj.cells #[.int .i64 PW, .int .i64 PH, .slice po Z.length pc] 34))
  have g1 := (hb2.block _ hl1).trans a1
  clear hb1
  go_wp2_with (refine wpList_load_row rfl 32 _ rfl _ rfl _ _ _ _ g1 Tryz.underlying32 rfl hi28 ?_)
  generalize V1.alloc (Obj.cells #[.int .i64 PW, .int .i64 PH, .slice po Z.length pc] 34) = U1 at *
  generalize V1.heap.size = PB at *
  refine (HQ.out _ (bel_trans HB.out hb2)).mono ?_
  rintro e V2 ⟨qv, rfl, hq, hb3, _⟩
  have HQI := hide hq
  obtain ⟨qo, qc, rfl, hx1, hx2⟩ := hq
  clear hx1 hx2
  have B2 := al1 V2 (Obj.cells #[.int .i64 PW, .int .i64 PH, .slice qo Z.length qc] 34)
  have l2 := (Array.getElem?_eq_some_iff.1 B2).1
  replace HQI := hide (HQI.out.alloc (Obj.cells #[.int .i64 PW, .int .i64 PH, .slice qo Z.length qc] 34))
  have hb4 := bel_trans hb3 (bel_alloc V2 (Obj.cells #[.int .i64 PW, .int .i64 PH, .slice qo Z.length qc] 34))
  replace HPI := hide (HPI.out.below hb4 (Nat.le_refl _))
  replace B1 := (hb4.block _ l1).trans B1
  replace hb2 := bel_trans hb2 hb4
  clear hb3 hb4 g1
  go_wp2_with fail
  generalize V2.alloc (Obj.cells #[.int .i64 PW, .int .i64 PH, .slice qo Z.length qc] 34) = U2 at *
  generalize V2.heap.size = QB at *
  replace l1 := (Array.getElem?_eq_some_iff.1 B1).1
  refine (rawBegun_any _).mono ?_
  rintro e V3 ⟨rfl, hb5⟩
  replace HPI := hide (HPI.out.below hb5 (Nat.le_refl _))
  replace HQI := hide (HQI.out.below hb5 (Nat.le_refl _))
  replace B1 := (hb5.block _ l1).trans B1
  replace B2 := (hb5.block _ l2).trans B2
  replace hb2 := bel_trans hb2 hb5
  replace l1 := (Array.getElem?_eq_some_iff.1 B1).1
  replace l2 := (Array.getElem?_eq_some_iff.1 B2).1
  have g1 := (hb2.block _ hl1).trans a1
  clear hb5
  go_wp2_with (first | refine wpList_load_row_w (by rfl) 32 _ rfl _ rfl _ _ _ _ g1 Tryz.underlying32 rfl hi28 ?_ | refine wpList_load_row rfl 32 _ rfl _ rfl _ _ _ _ g1 Tryz.underlying32 rfl hi28 ?_)
  refine (HC.out _ (bel_trans HB.out hb2)).mono ?_
  rintro e V4 ⟨rfl, hb6⟩
  replace HPI := hide (HPI.out.below hb6 (Nat.le_refl _))
  replace HQI := hide (HQI.out.below hb6 (Nat.le_refl _))
  replace B1 := (hb6.block _ l1).trans B1
  replace B2 := (hb6.block _ l2).trans B2
  replace hb2 := bel_trans hb2 hb6
  obtain ⟨p0, p1, p2⟩ := cells3 B1
  obtain ⟨q0, q1, q2⟩ := cells3 B2
  clear hb6 g1
  go_wp2_with fail
  refine (samePlanes_any PW PH PW PH _ _ Z Z _ HPI.out HQI.out).mono ?_
  rintro e V5 ⟨rfl, hb7⟩
  rw [show decide (PW = PW ∧ PH = PH ∧ Z = Z) = true by simp]
  clear p0 p1 p2 q0 q1 q2
  go_wp2
  go_ret
  exact ⟨rfl, bel_trans (bel_trans HB.out hb2) hb7⟩
end Go.Proofs.YtanebhbfekcplaaGreat

namespace Go.Proofs.YtanebhbfekcplaaGreat
open Go.RowKit
theorem ints_of_row {W : World} {x : Addr} {len cap : Nat} {zs : List Int} (hl : len ≤ cap) (hm : cap ≤ maxLen) (hz : zs.length = cap)
    (hcell : ∀ i, i < zs.length → W.cell? (x.add i) = some (.int .i64 (zs.getD i 0))) : IsInts W (.slice (some x) len cap) (zs.take len) := by
  have hlen : (zs.take len).length = len := by rw [List.length_take]; omega
  unfold maxLen at hm
  refine ⟨some x, cap, by rw [hlen], by rw [hlen]; omega, ?_⟩
  by_cases h0 : len = 0
  · left; subst h0; rfl
  · right
    obtain ⟨b, off, rfl, hc⟩ := ints_at hcell (by omega)
    refine ⟨b, off, rfl, World.block_lt_of_cell? W _ (hc 0 (by omega)), fun j hj => ?_⟩
    rw [hlen] at hj
    rw [hc j (by omega)]
    simp [List.getD, List.getElem?_eq_getElem (show j < zs.length by omega)]
end Go.Proofs.YtanebhbfekcplaaGreat

namespace Go.Proofs.YtanebhbfekcplaaGreat
open Go.RowKit Go.ChangeShapes
theorem cells2 {W : World} {base : Nat} {a : Addr} {cs : List Value} (h : W.cells? base a 2 = some cs) : ∃ x y, cs = [x, y] ∧ W.cell? (a.add 0) = some x ∧ W.cell? (a.add 1) = some y := by
  obtain ⟨_, hl, hc⟩ := World.cells?_some h
  match cs, hl with
  | [x, y], _ => exact ⟨x, y, rfl, hc 0 (by omega), hc 1 (by omega)⟩
theorem list_of {α : Type} (P : Nat → α → Prop) (n : Nat) (h : ∀ i, i < n → ∃ p, P i p) (d : α) : ∃ ls : List α, ls.length = n ∧ ∀ i, i < n → P i (ls.getD i d) := by
  induction n with
  | zero => exact ⟨[], rfl, fun i hi => by omega⟩
  | succ n ih =>
    obtain ⟨ls, hl, hp⟩ := ih (fun i hi => h i (by omega))
    obtain ⟨p, hp'⟩ := h n (by omega)
    refine ⟨ls ++ [p], by simp [hl], fun i hi => ?_⟩
    rcases Nat.eq_or_lt_of_le (show i ≤ n by omega) with e | hlt
    · subst e
      rw [List.getD_eq_getElem?_getD, List.getElem?_append_right (by omega), hl]
      simpa using hp'
    · rw [List.getD_eq_getElem?_getD, List.getElem?_append_left (by omega), ← List.getD_eq_getElem?_getD]
      exact hp i hlt
theorem pts_openW {P : Program} {H : Type} {enc : TypeId × Value → H} {W : World} {base : Nat} {spare : Nat → Bool} {held : Bool} {fuel : Nat} {t e : TypeId} {f0 f1 : Field} {v : Value} {x : DataW H × List MemPlace}
    (ht : P.underlying t = some (.slice e)) (he : P.underlying e = some (.struct #[f0, f1])) (h0 : P.underlying f0.type = some (.int .i64)) (h1 : P.underlying f1.type = some (.int .i64)) (o0 : f0.offset = 0) (o1 : f1.offset = 1)
    (ce : P.cellsOf e = 2) (c0 : P.cellsOf f0.type = 1) (c1 : P.cellsOf f1.type = 1) (h : DataW.trod enc P W base spare held fuel t [v] = some x) : ∃ ls, IsPts W v ls ∧ ∀ j, j < ls.length → (Lit.int .i64 (ptAt ls j).1).wf = true ∧ (Lit.int .i64 (ptAt ls j).2).wf = true := by
  rcases DataW.trod_slice ht h with ⟨hcs, _⟩ | ⟨a, len, cap, elems, rest, n, _, hcs, _, hb, hl, hm, hlen, hel, _, _⟩
  · simp at hcs
    subst hcs
    exact ⟨[], IsPts.nil _, fun j hj => by simp at hj⟩
  · simp at hcs
    subst hcs
    have each : ∀ i, i < len → ∃ p : Pt, (W.cell? ((a.add (i * 2)).add 0) = some (.int .i64 p.1) ∧ W.cell? ((a.add (i * 2)).add 1) = some (.int .i64 p.2)) ∧ (Lit.int .i64 p.1).wf = true ∧ (Lit.int .i64 p.2).wf = true := by
      intro i hi
      have h2 := hel i hi
      rw [List.getElem?_eq_getElem (by omega), ce, Option.bind_eq_some_iff] at h2
      obtain ⟨cs, hc, hy⟩ := h2
      obtain ⟨p, q, rfl, hp, hq⟩ := cells2 hc
      obtain ⟨y0, y1, m, _, _, g0, g1⟩ := Go.ChangeShapes.trod_struct2 he hy
      rw [o0, c0] at g0
      rw [o1, c1] at g1
      obtain ⟨z0, e0, _, wf0⟩ := DataW.trod_int h0 g0
      obtain ⟨z1, e1, _, wf1⟩ := DataW.trod_int h1 g1
      simp at e0 e1
      subst e0 e1
      exact ⟨(z0, z1), ⟨hp, hq⟩, wf0, wf1⟩
    obtain ⟨ls, hll, hls⟩ := list_of _ len each (0, 0)
    unfold maxLen at hm
    refine ⟨ls, ⟨some a, cap, by rw [hll], by omega, ?_⟩, fun j hj => (hls j (by omega)).2⟩
    by_cases hz : len = 0
    · exact .inl (List.eq_nil_of_length_eq_zero (by omega))
    · right
      obtain ⟨b, off, spot⟩ := a
      have hspot : spot = none := by simpa [Addr.add] using World.cell?_spot (hls 0 (by omega)).1.1
      subst hspot
      have hk : ∀ j, j < ls.length → W.cell? ⟨b, off + j * 2, none⟩ = some (.int .i64 (ptAt ls j).1) ∧ W.cell? ⟨b, off + j * 2 + 1, none⟩ = some (.int .i64 (ptAt ls j).2) := by
        intro j hj
        have h2 := (hls j (by omega)).1
        rw [Go.WideShapes.add_plain, Go.WideShapes.add_plain, Go.WideShapes.add_plain] at h2
        exact h2
      exact ⟨b, off, rfl, World.block_lt_of_cell? W _ (hk 0 (by omega)).1, hk⟩
end Go.Proofs.YtanebhbfekcplaaGreat

namespace Go.Proofs.YtanebhbfekcplaaGreat
open Go.RowKit Go.ChangeShapes
set_option linter.unusedVariables false
theorem arr_cellsW {P : Program} {H : Type} {enc : TypeId × Value → H} {W : World} {base : Nat} {spare : Nat → Bool} {held : Bool} {fuel : Nat} {t e : TypeId} {n : Nat} {cs : List Value} {x : DataW H × List MemPlace}
    (ht : P.underlying t = some (.array n e)) (he : P.underlying e = some (.int .i64)) (ce : P.cellsOf e = 1) (hf : DataW.trod enc P W base spare held fuel t cs = some x) (i : Nat) (hi : i < n) : ∃ z : Int, cs[i]? = some (.int .i64 z) ∧ (Lit.int .i64 z).wf = true := by
  obtain ⟨xs, m, _, _, _, hl, hel⟩ := DataW.trod_array ht hf
  have hE := hel i hi
  rw [ce, Nat.mul_one, List.getElem?_eq_getElem (by omega)] at hE
  obtain ⟨z, e1, _, wf⟩ := DataW.trod_int he hE
  refine ⟨z, ?_, wf⟩
  have h0 : ((cs.drop i).take 1)[0]? = some (.int .i64 z) := by rw [e1]; rfl
  simpa using h0
theorem drop_take_get {cs : List Value} {a n i : Nat} {v : Value} (hi : i < n) (h : ((cs.drop a).take n)[i]? = some v) : cs[a + i]? = some v := by
  rw [List.getElem?_take_of_lt hi, List.getElem?_drop] at h
  exact h
theorem slot_get {cs : List Value} {a : Nat} {v : Value} (h : (cs.drop a).take 1 = [v]) : cs[a]? = some v := by
  have h0 : ((cs.drop a).take 1)[0]? = some v := by rw [h]; rfl
  simpa using h0
theorem ptsW_slot {P : Program} {H : Type} {enc : TypeId × Value → H} {W : World} {base : Nat} {spare : Nat → Bool} {held : Bool} {fuel : Nat} {t e : TypeId} {f0 f1 : Field} {cs : List Value} {x : DataW H × List MemPlace}
    (ht : P.underlying t = some (.slice e)) (he : P.underlying e = some (.struct #[f0, f1])) (h0 : P.underlying f0.type = some (.int .i64)) (h1 : P.underlying f1.type = some (.int .i64)) (o0 : f0.offset = 0) (o1 : f1.offset = 1)
    (ce : P.cellsOf e = 2) (c0 : P.cellsOf f0.type = 1) (c1 : P.cellsOf f1.type = 1) (h : DataW.trod enc P W base spare held fuel t cs = some x) : ∃ v ls, cs = [v] ∧ IsPts W v ls ∧ roomy v ∧ ∀ j, j < ls.length → ptWf (ptAt ls j) := by
  have hone : ∃ v, cs = [v] ∧ roomy v := by
    rcases DataW.trod_slice ht h with ⟨hcs, _⟩ | ⟨a, len, cap, elems, rest, n, _, hcs, _, _, hl, _, _, _, _, _⟩
    · exact ⟨_, hcs, Nat.le_refl _⟩
    · exact ⟨_, hcs, hl⟩
  obtain ⟨v, rfl, hr⟩ := hone
  obtain ⟨ls, h2, h3⟩ := pts_openW ht he h0 h1 o0 o1 ce c0 c1 h
  exact ⟨v, ls, rfl, h2, hr, h3⟩
set_option maxHeartbeats 1600000 in
theorem plan_open {P : Program} {H : Type} {enc : TypeId × Value → H} {W : World} {base : Nat} {spare : Nat → Bool} {held : Bool} {fuel : Nat} {t ti t4 t3 t9 ts tc es ec : TypeId} {g0 g1 g2 g3 g4 g5 g6 g7 s0 s1 q0 q1 : Field} {cs : List Value} {x : DataW H × List MemPlace}
    (ht : P.underlying t = some (.struct #[g0, g1, g2, g3, g4, g5, g6, g7])) (hi : P.underlying ti = some (.int .i64)) (ci : P.cellsOf ti = 1)
    (y0 : g0.type = ti) (y1 : g1.type = t4) (y2 : g2.type = ti) (y3 : g3.type = ts) (y4 : g4.type = t3) (y5 : g5.type = t9) (y6 : g6.type = tc) (y7 : g7.type = ti)
    (o0 : g0.offset = 0) (o1 : g1.offset = 1) (o2 : g2.offset = 5) (o3 : g3.offset = 6) (o4 : g4.offset = 7) (o5 : g5.offset = 10) (o6 : g6.offset = 19) (o7 : g7.offset = 20)
    (h4 : P.underlying t4 = some (.array 4 ti)) (c4 : P.cellsOf t4 = 4) (h3 : P.underlying t3 = some (.array 3 ti)) (c3 : P.cellsOf t3 = 3) (h9 : P.underlying t9 = some (.array 9 ti)) (c9 : P.cellsOf t9 = 9)
    (hs : P.underlying ts = some (.slice es)) (cs1 : P.cellsOf ts = 1) (hes : P.underlying es = some (.struct #[s0, s1])) (ces : P.cellsOf es = 2) (sy0 : s0.type = ti) (sy1 : s1.type = ti) (so0 : s0.offset = 0) (so1 : s1.offset = 1)
    (hc : P.underlying tc = some (.slice ec)) (cc1 : P.cellsOf tc = 1) (hec : P.underlying ec = some (.struct #[q0, q1])) (cec : P.cellsOf ec = 2) (qy0 : q0.type = ti) (qy1 : q1.type = ti) (qo0 : q0.offset = 0) (qo1 : q1.offset = 1)
    (ct : P.cellsOf t = 21) (h : DataW.trod enc P W base spare held fuel t cs = some x) :
    ∃ n sv cv, cs = (planA n sv cv).toList ∧ IsPlan W n sv cv ∧ (roomy sv ∧ roomy cv) ∧ (∀ j, j < n.spots.length → ptWf (ptAt n.spots j)) ∧ (∀ j, j < n.curve.length → ptWf (ptAt n.curve j)) := by
  obtain ⟨xs, m, _, _, hl, hxl, hx⟩ := DataW.trod_struct ht h
  rw [ct] at hl
  have e0 := hx 0 g0 rfl
  have e1 := hx 1 g1 rfl
  have e2 := hx 2 g2 rfl
  have e3 := hx 3 g3 rfl
  have e4 := hx 4 g4 rfl
  have e5 := hx 5 g5 rfl
  have e6 := hx 6 g6 rfl
  have e7 := hx 7 g7 rfl
  have hxl' : xs.length = 8 := by rw [hxl]; rfl
  rw [o0, y0, ci, List.getElem?_eq_getElem (by omega)] at e0
  rw [o1, y1, c4, List.getElem?_eq_getElem (by omega)] at e1
  rw [o2, y2, ci, List.getElem?_eq_getElem (by omega)] at e2
  rw [o3, y3, cs1, List.getElem?_eq_getElem (by omega)] at e3
  rw [o4, y4, c3, List.getElem?_eq_getElem (by omega)] at e4
  rw [o5, y5, c9, List.getElem?_eq_getElem (by omega)] at e5
  rw [o6, y6, cc1, List.getElem?_eq_getElem (by omega)] at e6
  rw [o7, y7, ci, List.getElem?_eq_getElem (by omega)] at e7
  obtain ⟨ph, p0, _, _⟩ := DataW.trod_int hi e0
  obtain ⟨wh, p2, _, _⟩ := DataW.trod_int hi e2
  obtain ⟨am, p7, _, _⟩ := DataW.trod_int hi e7
  obtain ⟨sv, ls, p3, i3, r3, w3⟩ := ptsW_slot hs hes (by rw [sy0]; exact hi) (by rw [sy1]; exact hi) so0 so1 ces (by rw [sy0]; exact ci) (by rw [sy1]; exact ci) e3
  obtain ⟨cv, lc, p6, i6, r6, w6⟩ := ptsW_slot hc hec (by rw [qy0]; exact hi) (by rw [qy1]; exact hi) qo0 qo1 cec (by rw [qy0]; exact ci) (by rw [qy1]; exact ci) e6
  obtain ⟨lb, lbl, hb⟩ := list_of _ 4 (arr_cellsW h4 hi ci e1) 0
  obtain ⟨lg, lgl, hg⟩ := list_of _ 3 (arr_cellsW h3 hi ci e4) 0
  obtain ⟨lm, lml, hm⟩ := list_of _ 9 (arr_cellsW h9 hi ci e5) 0
  refine ⟨⟨ph, fun k => lb.getD k 0, wh, ls, fun k => lg.getD k 0, fun k => lm.getD k 0, lc, am⟩, sv, cv, ?_, ⟨i3, i6⟩, ⟨r3, r6⟩, w3, w6⟩
  have q0 := slot_get p0
  have q5 := slot_get p2
  have q6 := slot_get p3
  have q19 := slot_get p6
  have q20 := slot_get p7
  have b := fun i hi => drop_take_get hi (hb i hi).1
  have g := fun i hi => drop_take_get hi (hg i hi).1
  have mm := fun i hi => drop_take_get hi (hm i hi).1
  refine List.ext_getElem? fun i => ?_
  by_cases hlt : i < 21
  · have h21 : i = 0 ∨ i = 1 ∨ i = 2 ∨ i = 3 ∨ i = 4 ∨ i = 5 ∨ i = 6 ∨ i = 7 ∨ i = 8 ∨ i = 9 ∨ i = 10 ∨ i = 11 ∨ i = 12 ∨ i = 13 ∨ i = 14 ∨ i = 15 ∨ i = 16 ∨ i = 17 ∨ i = 18 ∨ i = 19 ∨ i = 20 := by omega
    rcases h21 with rfl | rfl | rfl | rfl | rfl | rfl | rfl | rfl | rfl | rfl | rfl | rfl | rfl | rfl | rfl | rfl | rfl | rfl | rfl | rfl | rfl
    · exact q0
    · exact b 0 (by omega)
    · exact b 1 (by omega)
    · exact b 2 (by omega)
    · exact b 3 (by omega)
    · exact q5
    · exact q6
    · exact g 0 (by omega)
    · exact g 1 (by omega)
    · exact g 2 (by omega)
    · exact mm 0 (by omega)
    · exact mm 1 (by omega)
    · exact mm 2 (by omega)
    · exact mm 3 (by omega)
    · exact mm 4 (by omega)
    · exact mm 5 (by omega)
    · exact mm 6 (by omega)
    · exact mm 7 (by omega)
    · exact mm 8 (by omega)
    · exact q19
    · exact q20
  · rw [List.getElem?_eq_none (by omega), List.getElem?_eq_none (by simp; omega)]
theorem agg_cells {P : Program} {H : Type} {enc : TypeId × Value → H} {W : World} {base b0 : Nat} {spare : Nat → Bool} {held : Bool} {r : Reach} {t : TypeId} {fs : Array Field} {v : Value} {d : DataW H} {p : List MemPlace}
    (ht : P.underlying t = some (.struct fs)) (hv : Value.okWide P W r b0 t v) (h : DataW.Trod enc P W base spare held t v d p) : ∃ cs fuel, v = .agg cs ∧ DataW.trod enc P W base spare held fuel t cs.toList = some (d, p) := by
  obtain ⟨cs, rfl, _, _⟩ : ∃ cs, v = .agg cs ∧ cs.size = P.cellsOf t ∧ Row.okWide P W r b0 t cs := by
    simpa [Value.okWide, ht] using hv
  obtain ⟨fuel, hf⟩ := h
  exact ⟨cs, fuel, rfl, hf⟩
end Go.Proofs.YtanebhbfekcplaaGreat

namespace Go.Proofs.YtanebhbfekcplaaGreat
open Go.RowKit Go.ChangeShapes
set_option linter.unusedVariables false
theorem cells1 {W : World} {base : Nat} {a : Addr} {x : Value} (h : W.cells? base a 1 = some [x]) : W.cell? a = some x := by
  obtain ⟨_, _, hc⟩ := World.cells?_some h
  have := hc 0 (by omega)
  simpa [Addr.add] using this
theorem strs_open {P : Program} {H : Type} {enc : TypeId × Value → H} {W : World} {base : Nat} {spare : Nat → Bool} {held : Bool} {fuel : Nat} {t e : TypeId} {v : Value} {x : DataW H × List MemPlace}
    (ht : P.underlying t = some (.slice e)) (he : P.underlying e = some .string) (ce : P.cellsOf e = 1) (h : DataW.trod enc P W base spare held fuel t [v] = some x) : ∃ ts, IsStrs W v ts := by
  rcases DataW.trod_slice ht h with ⟨hcs, _⟩ | ⟨a, len, cap, elems, rest, n, _, hcs, _, hb, hl, hm, hlen, hel, _, _⟩
  · simp at hcs
    subst hcs
    exact ⟨[], IsStrs.nil _⟩
  · simp at hcs
    subst hcs
    have each : ∀ i, i < len → ∃ s : List UInt8, W.cell? (a.add i) = some (.string (str s)) := by
      intro i hi
      have h2 := hel i hi
      rw [List.getElem?_eq_getElem (by omega), ce, Nat.mul_one, Option.bind_eq_some_iff] at h2
      obtain ⟨cs, hc, hy⟩ := h2
      obtain ⟨s, rfl, _, _⟩ := DataW.trod_string he hy
      have hc1 := cells1 hc
      exact ⟨s.data.toList, by rw [str_of]; exact hc1⟩
    obtain ⟨ts, hll, hls⟩ := list_of _ len each []
    unfold maxLen at hm
    refine ⟨ts, ⟨some a, cap, by rw [hll], by omega, ?_⟩⟩
    by_cases hz : len = 0
    · exact .inl (List.eq_nil_of_length_eq_zero (by omega))
    · right
      obtain ⟨b, off, spot⟩ := a
      have hspot : spot = none := by simpa [Addr.add] using World.cell?_spot (hls 0 (by omega))
      subst hspot
      have hk : ∀ j, j < ts.length → W.cell? ⟨b, off + j, none⟩ = some (.string (str (ts.getD j []))) := by
        intro j hj
        have h2 := hls j (by omega)
        rw [Go.WideShapes.add_plain] at h2
        exact h2
      exact ⟨b, off, rfl, World.block_lt_of_cell? W _ (hk 0 (by omega)), hk⟩
theorem slot_one {cs : List Value} {a : Nat} {n : Nat} (hl : a < cs.length) : ∃ v, (cs.drop a).take 1 = [v] := by
  refine ⟨cs[a], ?_⟩
  rw [List.drop_eq_getElem_cons hl]; rfl
set_option maxHeartbeats 1600000 in
theorem raw_open {P : Program} {H : Type} {enc : TypeId × Value → H} {W : World} {base : Nat} {held : Bool} {fuel : Nat} {t ti tl tt tst tp : TypeId} {f0 f1 f2 f3 f4 f5 f6 f7 : Field} {cs : List Value} {x : DataW H × List MemPlace}
    (ht : P.underlying t = some (.struct #[f0, f1, f2, f3, f4, f5, f6, f7])) (hi : P.underlying ti = some (.int .i64)) (ci : P.cellsOf ti = 1)
    (y0 : f0.type = ti) (y1 : f1.type = ti) (y2 : f2.type = ti) (y3 : f3.type = ti) (y4 : f4.type = ti) (y5 : f5.type = tl) (y6 : f6.type = tt) (y7 : f7.type = tp)
    (o0 : f0.offset = 0) (o1 : f1.offset = 1) (o2 : f2.offset = 2) (o3 : f3.offset = 3) (o4 : f4.offset = 4) (o5 : f5.offset = 5) (o6 : f6.offset = 6) (o7 : f7.offset = 7)
    (hl5 : P.underlying tl = some (.slice ti)) (cl5 : P.cellsOf tl = 1) (ht6 : P.underlying tt = some (.slice tst)) (ct6 : P.cellsOf tt = 1) (hst : P.underlying tst = some .string) (cst : P.cellsOf tst = 1)
    (cp : P.cellsOf tp = 21) (ct : P.cellsOf t = 28) (h : DataW.trod enc P W base (fun _ => true) held fuel t cs = some x)
    (hplan : ∀ (fuel : Nat) (ps : List Value) (y : DataW H × List MemPlace), DataW.trod enc P W base (fun _ => true) held fuel tp ps = some y → ∃ n sv cv, ps = (planA n sv cv).toList ∧ IsPlan W n sv cv) :
    ∃ r lv tv sv cv, cs = (rawA r lv tv sv cv).toList ∧ IsRaw W r lv tv sv cv := by
  obtain ⟨xs, m, _, _, hl, hxl, hx⟩ := DataW.trod_struct ht h
  rw [ct] at hl
  have e0 := hx 0 f0 rfl
  have e1 := hx 1 f1 rfl
  have e2 := hx 2 f2 rfl
  have e3 := hx 3 f3 rfl
  have e4 := hx 4 f4 rfl
  have e5 := hx 5 f5 rfl
  have e6 := hx 6 f6 rfl
  have e7 := hx 7 f7 rfl
  have hxl' : xs.length = 8 := by rw [hxl]; rfl
  rw [o0, y0, ci, List.getElem?_eq_getElem (by omega)] at e0
  rw [o1, y1, ci, List.getElem?_eq_getElem (by omega)] at e1
  rw [o2, y2, ci, List.getElem?_eq_getElem (by omega)] at e2
  rw [o3, y3, ci, List.getElem?_eq_getElem (by omega)] at e3
  rw [o4, y4, ci, List.getElem?_eq_getElem (by omega)] at e4
  rw [o5, y5, cl5, List.getElem?_eq_getElem (by omega)] at e5
  rw [o6, y6, ct6, List.getElem?_eq_getElem (by omega)] at e6
  rw [o7, y7, cp, List.getElem?_eq_getElem (by omega)] at e7
  obtain ⟨a0, p0, _, _⟩ := DataW.trod_int hi e0
  obtain ⟨a1, p1, _, _⟩ := DataW.trod_int hi e1
  obtain ⟨a2, p2, _, _⟩ := DataW.trod_int hi e2
  obtain ⟨a3, p3, _, _⟩ := DataW.trod_int hi e3
  obtain ⟨a4, p4, _, _⟩ := DataW.trod_int hi e4
  obtain ⟨lv, p5⟩ := slot_one (cs := cs) (a := 5) (n := 0) (by omega)
  obtain ⟨tv, p6⟩ := slot_one (cs := cs) (a := 6) (n := 0) (by omega)
  rw [p5] at e5
  rw [p6] at e6
  obtain ⟨zs, i5⟩ : ∃ zs, IsInts W lv zs := by
    rcases open_ints hl5 hi ci e5 with ⟨hcs, _⟩ | ⟨x, l, c, zs, hcs, _, hl, hm, hz, _, hcell, hwz⟩
    · simp at hcs
      subst hcs
      exact ⟨[], IsInts.nil _⟩
    · simp at hcs
      subst hcs
      exact ⟨_, ints_of_row hl hm (by simpa using hz) hcell⟩
  obtain ⟨ts, i6⟩ := strs_open ht6 hst cst e6
  obtain ⟨n, sv, cv, p7, i7⟩ := hplan _ _ _ e7
  refine ⟨⟨a0, a1, a2, a3, a4, zs, ts, n⟩, lv, tv, sv, cv, ?_, ⟨i5, i6, i7⟩⟩
  have q0 := slot_get p0
  have q1 := slot_get p1
  have q2 := slot_get p2
  have q3 := slot_get p3
  have q4 := slot_get p4
  have q5 := slot_get p5
  have q6 := slot_get p6
  show cs = [.int .i64 a0, .int .i64 a1, .int .i64 a2, .int .i64 a3, .int .i64 a4, lv, tv] ++ (planA n sv cv).toList
  rw [← p7, List.take_of_length_le (by rw [List.length_drop]; omega)]
  refine List.ext_getElem? fun i => ?_
  by_cases hlt : i < 7
  · rcases (show i = 0 ∨ i = 1 ∨ i = 2 ∨ i = 3 ∨ i = 4 ∨ i = 5 ∨ i = 6 by omega) with rfl | rfl | rfl | rfl | rfl | rfl | rfl
    · exact q0
    · exact q1
    · exact q2
    · exact q3
    · exact q4
    · exact q5
    · exact q6
  · rw [List.getElem?_append_right (by simp; omega), List.getElem?_drop]
    congr 1
    simp; omega
end Go.Proofs.YtanebhbfekcplaaGreat

namespace Go.Proofs.YtanebhbfekcplaaGreat
set_option linter.unusedVariables false
open Go.RowKit
theorem right_len {r : RawF} (h : Right r) : (rawW r).length ≤ 140737488355328 := by
  have h1 := h.lens_le
  have h2 : r.strips.length ≤ 64 := by have := h.many; have := h.head.cnt_le; omega
  have h3 := texts_length h.strip_le r.strips.length
  rw [List.take_length] at h3
  have h4 := (fits_of h.plan).many
  have h5 := (fits_of h.plan).points
  have h6 : r.strips.length * (15360 + 4) ≤ 64 * (15360 + 4) := Nat.mul_le_mul_right _ h2
  simp only [rawW, planW, listW, List.length_append, nums_length, num4_length, pairs_length, headL, blackL, gainsL, matL, List.length_cons, List.length_nil, textW, darkL]
  omega
set_option maxRecDepth 100000 in
set_option maxHeartbeats 6400000 in
theorem rawBack_walk (r : RawF) (lv tv sv cv : Value) (PW PH : Int) (v : Value) (zs : List Int) (a2 : ByteArray) (hroom : roomy v) (hs : a2.size ≤ 140737488355328) (w : World) (hr : IsRaw w r lv tv sv cv) (hv : IsInts w v zs) :
    Calls Tryz.prog 6 #[.agg (rawA r lv tv sv cv), .agg #[.int .i64 PW, .int .i64 PH, v], .string a2] w fun e w' => e = .returned (.bool true) ∧ Below w.heap.size w w' := by
  obtain ⟨s, rfl⟩ : ∃ s, a2 = str s := ⟨a2.data.toList, rfl⟩
  rw [str_size] at hs
  have HF := hide (fun (u : World) (hu : Below w.heap.size w u) => rawFill_any r lv tv sv cv PW PH v zs u (hr.below hu (Nat.le_refl _)) (hv.below hu (Nat.le_refl _)) hroom)
  have HV := hide hv
  obtain ⟨vo, vc, rfl, hx1, hx2⟩ := hv
  clear hx1 hx2 hr hroom
  obtain ⟨a1, a2⟩ := al2 w (Obj.cells (rawA r lv tv sv cv) 32) (Obj.cells #[.int .i64 PW, .int .i64 PH, .slice vo zs.length vc] 34)
  have HB := hide (be2 w (Obj.cells (rawA r lv tv sv cv) 32) (Obj.cells #[.int .i64 PW, .int .i64 PH, .slice vo zs.length vc] 34))
  have hl1 := (Array.getElem?_eq_some_iff.1 a1).1
  have hl2 := (Array.getElem?_eq_some_iff.1 a2).1
  have hi28 : (Tryz.prog.info? 32).map (·.size) = some ((rawA r lv tv sv cv) : Array Value).size := by kernel_rfl
  have iz : (Tryz.prog.info? 32).map (·.size) = some (rawZ : Array Value).size := by kernel_rfl
  have HRD := hide (fun (u : World) => rawRead_any s u hs)
  have HSB := hide (show ∀ t : List UInt8, t = s → ((str t).toList == (str s).toList) = true from fun t e => by rw [e]; simp)
  obtain ⟨p0, p1, p2⟩ := cells3 a2
  go_enter Tryz.func6, Tryz.ntmps6
  go_wp2_with (refine wpList_load_row rfl 32 _ rfl _ rfl _ _ _ _ a1 Tryz.underlying32 rfl hi28 ?_)
  clear p0 p1 p2
  generalize (w.alloc (Obj.cells (rawA r lv tv sv cv) 32)).alloc (Obj.cells #[.int .i64 PW, .int .i64 PH, .slice vo zs.length vc] 34) = U at *
  generalize (rawA r lv tv sv cv) = RQ at *
  refine (HF.out _ HB.out).mono ?_
  rintro e V1 ⟨hb1, hc⟩
  obtain ⟨FE, hFE⟩ : ∃ FE, fillFE r PW PH zs = FE := ⟨_, rfl⟩
  rw [hFE] at hc
  obtain ⟨QA, hone, hsz, hQ⟩ : ∃ QA : Array Value, QA.all (·.oneCell') = true ∧ (Tryz.prog.info? 32).map (·.size) = some QA.size ∧ e = .returned (.tuple #[.agg QA, .int .i64 FE]) := by
    rcases hc with ⟨h0, lv', tv', sv', cv', he, hI, _⟩ | ⟨hn, he⟩
    · exact ⟨_, raw_one hI, by kernel_rfl, by rw [h0]; exact he⟩
    · exact ⟨rawZ, by simp [Value.oneCell'], iz, he⟩
  subst hQ
  have i2 : (rawZ : Array Value).size = QA.size := by
    have := iz.symm.trans hsz
    simpa using this
  have z1 := al1 V1 (Obj.cells rawZ 32)
  have c1 := setRow_heap _ _ _ QA _ _ z1
  have HBX := hide (below_setRow (g := V1.heap.size) (bel_alloc V1 (Obj.cells rawZ 32)) (Nat.le_refl _) QA)
  have HFE := hide hFE
  have HC := hide hc
  clear hc hFE
  go_upto_if 26 with (refine wpList_store_row rfl 32 _ _ rfl V1.heap.size QA rfl rfl _ _ z1 hsz i2 hone ?_)
  clear z1
  have hb2 := bel_trans hb1 HBX.out
  generalize (V1.alloc (Obj.cells rawZ 32)).setRow V1.heap.size QA = U1 at *
  have HIU := hide (fun (F : RawF) (a b c d : Value) (h : IsRaw V1 F a b c d) => h.below HBX.out (Nat.le_refl _))
  generalize V1.heap.size = QX at *
  go_cut [6] from 27 (fun x v => Below w.heap.size w v ∧ True)
  case first =>
    by_cases h0 : FE = 0
    rotate_left
    · have hn : (FE == 0) = false := by simpa using h0
      go_wp2
      go_meet
      case rel => exact ⟨bel_trans HB.out hb2, trivial⟩
    subst h0
    obtain ⟨lv', tv', sv', cv', hQA, hI⟩ : ∃ lv' tv' sv' cv', QA = rawA (fillFR r zs) lv' tv' sv' cv' ∧ IsRaw V1 (fillFR r zs) lv' tv' sv' cv' := by
      rcases HC.out with ⟨_, lv', tv', sv', cv', he, hI, _⟩ | ⟨hn, _⟩
      · simp only [Ending.returned.injEq, Value.tuple.injEq, Array.mk.injEq, List.cons.injEq, Value.agg.injEq, and_true] at he
        exact ⟨lv', tv', sv', cv', he, hI⟩
      · exact absurd rfl hn
    obtain ⟨hR, hZ, hx5, hx6, hW, hH⟩ := fill_right HFE.out
    clear hx5 hx6
    have HPE := hide hR.zero
    have HRS := hide (show rawS (fillFR r zs) = rawW (fillFR r zs) by rw [rawS, if_pos hR.zero])
    have HRDQ := hide (rd_of_right hR)
    have HIQ := hide (HIU.out _ _ _ _ _ hI)
    have hlen : (rawW (fillFR r zs)).length ≤ 140737488355328 := right_len hR
    clear hI hR
    generalize fillFR r zs = FF at *
    have HQA := hide hQA
    have HPL := hide (rawPlane_any FF lv' tv' sv' cv' U1 HIQ.out)
    rw [hW, hH, hZ, HPE.out, ← hQA] at HPL
    have HWR := hide (fun (u : World) (hu : Below U1.heap.size U1 u) => rawWrite_any FF lv' tv' sv' cv' u (HIQ.out.below hu (Nat.le_refl _)))
    rw [HRS.out, HPE.out, ← hQA] at HWR
    clear hW hH hZ hQA
    have lq := (Array.getElem?_eq_some_iff.1 c1).1
    go_wp2_with (refine wpList_load_row rfl 32 _ rfl _ rfl _ _ _ _ c1 Tryz.underlying32 rfl hsz ?_)
    refine (HPL.out).mono ?_
    rintro e V2 ⟨pv, rfl, hp, hb3, _⟩
    have HPI := hide hp
    obtain ⟨po, pc, rfl, hx1, hx2⟩ := hp
    clear hx1 hx2
    have B1 := al1 V2 (Obj.cells #[.int .i64 PW, .int .i64 PH, .slice po zs.length pc] 34)
    have l1 := (Array.getElem?_eq_some_iff.1 B1).1
    replace HPI := hide (HPI.out.alloc (Obj.cells #[.int .i64 PW, .int .i64 PH, .slice po zs.length pc] 34))
    have hb4 := bel_trans hb3 (bel_alloc V2 (Obj.cells #[.int .i64 PW, .int .i64 PH, .slice po zs.length pc] 34))
    have g1 := (hb4.block _ lq).trans c1
    clear hb3
    go_wp2_with (refine wpList_load_row rfl 32 _ rfl _ rfl _ _ _ _ g1 Tryz.underlying32 rfl hsz ?_)
    generalize V2.alloc (Obj.cells #[.int .i64 PW, .int .i64 PH, .slice po zs.length pc] 34) = U2 at *
    generalize V2.heap.size = PB at *
    refine (HWR.out _ hb4).mono ?_
    rintro e V3 ⟨rfl, hb5⟩
    replace HPI := hide (HPI.out.below hb5 (Nat.le_refl _))
    replace B1 := (hb5.block _ l1).trans B1
    replace l1 := (Array.getElem?_eq_some_iff.1 B1).1
    replace hb4 := bel_trans hb4 hb5
    clear hb5 g1
    have HR3 := hide (rawRead_any (rawW FF) V3 hlen)
    generalize str (rawW FF) = TT at *
    go_wp2_with fail
    refine (HR3.out).mono ?_
    rintro e V4 ⟨hb6, hc⟩
    rcases hc with ⟨r', lu, tu, su, cu, hrd, rfl, hI, _, _, _, _⟩ | ⟨hrd, _⟩
    rotate_left
    · rw [HRDQ.out] at hrd; cases hrd
    rw [HRDQ.out] at hrd
    cases hrd
    have hI := isRaw_nrm.1 hI
    rw [rawA_nrm]
    obtain ⟨RB, hRB⟩ : ∃ RB, rawA FF lu tu su cu = RB := ⟨_, rfl⟩
    have iRB : (Tryz.prog.info? 32).map (·.size) = some RB.size := by rw [← hRB]; kernel_rfl
    have jRB : (rawZ : Array Value).size = RB.size := by rw [← hRB]; rfl
    have oRB : RB.all (·.oneCell') = true := by rw [← hRB]; exact raw_one hI
    have zRB := al1 V4 (Obj.cells rawZ 32)
    have cRB := setRow_heap _ _ _ RB _ _ zRB
    have XRB := hide (below_setRow (g := V4.heap.size) (bel_alloc V4 (Obj.cells rawZ 32)) (Nat.le_refl _) RB)
    have hbb := bel_trans hb6 XRB.out
    replace HPI := hide (HPI.out.below hbb (Nat.le_refl _))
    replace B1 := (hbb.block _ l1).trans B1
    replace hb4 := bel_trans hb4 hbb
    have HIB := hide (hI.below XRB.out (Nat.le_refl _))
    clear hb6 hbb hI
    have HRB := hide hRB
    rw [hRB]
    clear hRB
    go_upto_region 6 with (refine wpList_store_row rfl 32 _ _ rfl V4.heap.size RB rfl rfl _ _ zRB iRB jRB oRB ?_)
    clear zRB
    generalize (V4.alloc (Obj.cells rawZ 32)).setRow V4.heap.size RB = U3 at *
    generalize V4.heap.size = BX at *
    have g2 := ((bel_trans hb2 hb4).block _ hl2).trans a2
    obtain ⟨p0, p1, p2⟩ := cells3 g2
    obtain ⟨q0, q1, q2⟩ := cells3 B1
    go_wp2_with fail
    clear p0 p1 p2 q0 q1 q2
    refine (samePlanes_any PW PH PW PH _ _ zs zs _ HPI.out (HV.out.below (bel_trans HB.out (bel_trans hb2 hb4)) (Nat.le_refl _))).mono ?_
    rintro e V5 ⟨rfl, hb7⟩
    rw [show decide (PW = PW ∧ PH = PH ∧ zs = zs) = true by simp]
    have d1 := (hb7.block _ (Array.getElem?_eq_some_iff.1 cRB).1).trans cRB
    have d2 := ((bel_trans hb4 hb7).block _ lq).trans c1
    have HSR := hide (sameRaws_same FF lu tu su cu lv' tv' sv' cv' V5 (HIB.out.below hb7 (Nat.le_refl _)) (HIQ.out.below (bel_trans hb4 hb7) (Nat.le_refl _)))
    rw [HRB.out, ← HQA.out] at HSR
    go_wp2_with (first | refine wpList_load_row_w (by rfl) 32 _ rfl _ rfl _ _ _ _ d1 Tryz.underlying32 rfl iRB ?_ | refine wpList_load_row_w (by rfl) 32 _ rfl _ rfl _ _ _ _ d2 Tryz.underlying32 rfl hsz ?_)
    refine (HSR.out).mono ?_
    rintro e V6 ⟨rfl, hb8⟩
    have HBF := hide (bel_trans HB.out (bel_trans hb2 (bel_trans hb4 (bel_trans hb7 hb8))))
    clear d1 d2 hb7 hb8
    go_wp2
    go_meet
    case rel => exact ⟨HBF.out, trivial⟩
  case rest =>
    obtain ⟨hbc, _⟩ := hcut
    clear HC HF hb1 hb2 c1 HBX a1 a2 hl1 hl2 HB hone hsz i2
    go_wp2_with fail
    refine (HRD.out _).mono ?_
    rintro e V2 ⟨hb3, hc⟩
    rcases hc with ⟨r', lu, tu, su, cu, hrd, rfl, hI, _, _, _, _⟩ | ⟨hrd, rfl⟩
    · obtain ⟨hR, hsw⟩ := rd_some hrd
      obtain ⟨RX, hRX⟩ : ∃ RX, rawA r' lu tu su cu = RX := ⟨_, rfl⟩
      have iRX : (Tryz.prog.info? 32).map (·.size) = some RX.size := by rw [← hRX]; kernel_rfl
      have jRX : (rawZ : Array Value).size = RX.size := by rw [← hRX]; rfl
      have oRX : RX.all (·.oneCell') = true := by rw [← hRX]; exact raw_one hI
      have zRX := al1 V2 (Obj.cells rawZ 32)
      have cRX := setRow_heap _ _ _ RX _ _ zRX
      have XRX := hide (below_setRow (g := V2.heap.size) (bel_alloc V2 (Obj.cells rawZ 32)) (Nat.le_refl _) RX)
      have HWR := hide (fun (u : World) (hu : Below V2.heap.size V2 u) => rawWrite_any r' lu tu su cu u (hI.below hu (Nat.le_refl _)))
      rw [rawS, if_pos hR.zero, hR.zero, ← hsw, hRX] at HWR
      rw [hRX]
      have hsq := HSB.out s rfl
      have hbb := bel_trans hbc (bel_trans hb3 XRX.out)
      clear hRX hI hrd hR hsw hb3
      generalize str s = SS at *
      go_upto_region 9 with (refine wpList_store_row rfl 32 _ _ rfl V2.heap.size RX rfl rfl _ _ zRX iRX jRX oRX ?_)
      clear zRX
      have hXB := XRX.out
      generalize (V2.alloc (Obj.cells rawZ 32)).setRow V2.heap.size RX = U3 at *
      go_wp2_with (refine wpList_load_row rfl 32 _ rfl _ rfl _ _ _ _ cRX Tryz.underlying32 rfl iRX ?_)
      refine (HWR.out _ hXB).mono ?_
      rintro e V3 ⟨rfl, hb4⟩
      go_wp2_with fail
      refine (rawBegun_any _).mono ?_
      rintro e V4 ⟨rfl, hb5⟩
      have HBF := hide (bel_trans hbb (bel_trans hb4 hb5))
      clear hbb hb4 hb5
      go_wp2
      go_ret
      exact ⟨rfl, HBF.out⟩
    · obtain ⟨ZR, hZR⟩ : ∃ ZR : Array Value, rawZ = ZR := ⟨_, rfl⟩
      rw [show Ending.returned (.tuple #[.agg rawZ, .int .i64 1]) = Ending.returned (.tuple #[.agg ZR, .int .i64 1]) by rw [hZR]]
      have z1 := al1 V2 (Obj.cells rawZ 32)
      have i1 : (Tryz.prog.info? 32).map (·.size) = some ZR.size := by rw [← hZR]; exact iz
      have i2 : (rawZ : Array Value).size = ZR.size := by rw [← hZR]
      have hos : ZR.all (·.oneCell') = true := by rw [← hZR]; simp [Value.oneCell']
      have hbb := bel_trans hbc (bel_trans hb3 (below_setRow (g := V2.heap.size) (bel_alloc V2 (Obj.cells rawZ 32)) (Nat.le_refl _) ZR))
      clear hZR hrd hb3
      generalize str s = SS at *
      go_upto_region 9 with (refine wpList_store_row rfl 32 _ _ rfl V2.heap.size ZR rfl rfl _ _ z1 i1 i2 hos ?_)
      clear z1
      generalize (V2.alloc (Obj.cells rawZ 32)).setRow V2.heap.size ZR = U3 at *
      go_wp2_with fail
      refine (rawBegun_any _).mono ?_
      rintro e V4 ⟨rfl, hb5⟩
      have HBF := hide (bel_trans hbb hb5)
      clear hbb hb5
      go_wp2
      go_ret
      exact ⟨rfl, HBF.out⟩
end Go.Proofs.YtanebhbfekcplaaGreat
