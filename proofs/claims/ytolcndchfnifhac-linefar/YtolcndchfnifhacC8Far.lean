/- Far: part 8 of what the proofs need. -/
import Derived.Test.YtolcndchfnifhacC1Far
import Derived.Test.YtolcndchfnifhacC2Far
import Derived.Test.YtolcndchfnifhacC6Far
import Derived.Test.YtolcndchfnifhacC7Far
namespace Go.Proofs.Ytolcndchfnifhac
set_option linter.unusedVariables false
open Go.RowKit
def tallX (k : Nat) : Int := (k : Int) * 1000 % 7919
def TaJ (w : World) (k : Nat) (wr : World) : Prop :=
  ∃ (so : Option Addr) (cap : Nat), wr.heap[w.heap.size + 1]? = some (.cells #[.int .i64 2, .int .i64 12, .slice so k cap] 31 (0, 0)) ∧ wr.ownsRow w.heap.size 3 1 (.slice so k cap) k (((List.range k).map tallX).map (.int .i64 ·)) ∧
    wr.heap[w.heap.size]? = some (.cells #[.int .i64 0, .int .i64 0, .slice none 0 0] 31 (0, 0)) ∧ Below w.heap.size w wr
set_option maxRecDepth 100000 in
set_option maxHeartbeats 3200000 in
theorem tall_any (w : World) : Calls Try.prog 10 #[] w fun e w' => ∃ r, e = .returned (.agg #[.int .i64 2, .int .i64 12, r]) ∧ IsInts w' r tallL ∧ Below w.heap.size w w' ∧ Fresh w.heap.size r := by
  obtain ⟨i0, hi, hz0, hz1, hz2⟩ := info_parts Try.infoInt
  obtain ⟨a1, a2⟩ := al2 w (Obj.cells #[.int .i64 0, .int .i64 0, .slice none 0 0] 31) (Obj.cells #[.int .i64 2, .int .i64 12, .slice none 0 0] 31)
  have HJ0 := hide (show TaJ w 0 _ from ⟨none, 0, a2, ⟨rfl, .inl ⟨rfl, rfl⟩⟩, a1, be2 w _ _⟩)
  clear a1 a2
  go_enter Try.func10, Try.ntmps10
  go_wp2_with fail
  go_loopw [2] (fun i wr => ∃ k : Nat, k ≤ 24 ∧ i = .int .i64 k ∧ TaJ w k wr) (fun i _ => 24 - (intOf i).toNat)
  case atStart => exact ⟨0, by omega, rfl, HJ0.out⟩
  case round =>
    clear HJ0
    obtain ⟨k, hk, rfl, hJ⟩ := hrel
    have HJ := hide hJ
    obtain ⟨so, cap, j1, j2, j3, j4⟩ := hJ
    obtain ⟨q0, q1, q2⟩ := cells3 j1
    by_cases hlt : k < 24
    · have hd : decide ((k : Int) < 24) = true := by simp; omega
      have hm : IntKind.i64.wrap ((k : Int) * 1000) = (k : Int) * 1000 := IntWalk.i64_in _ (by omega)
      have hx : ((k : Int) * 1000).tmod 7919 = tallX k := by rw [Int.tmod_eq_emod_of_nonneg (by omega)]; rfl
      have hxr : 0 ≤ tallX k ∧ tallX k < 7919 := by unfold tallX; omega
      generalize hX : tallX k = X at *
      have HX := hide hX
      clear hX
      have hwx : IntKind.i64.wrap X = X := IntWalk.i64_in _ (by omega)
      have hb := bel_alloc wr (Obj.cells #[.int .i64 X] 3)
      obtain ⟨p0, p1, p2⟩ := cells3 ((hb.block _ (Array.getElem?_eq_some_iff.1 j1).1).trans j1)
      have HO := hide (j2.alloc (Obj.cells #[.int .i64 X] 3))
      have hnb := al1 wr (Obj.cells #[.int .i64 X] 3)
      go_wp2_with (at_builtin; refine wpList_append_own _ rfl _ _ 29 rfl w.heap.size 3 i0 (.int .i64 0) 1 8 Try.underlying29 hi hz0 hz1 hz2 rfl (by decide) _ _ _ rfl HO.out ⟨wr.heap.size, 0, none⟩ 1 1 [.int .i64 X] rfl ?qc1 ?qc2 ?qc3 ?qc4 ?qc5 ?qc6 ?_)
      case qc1 => rfl
      case qc2 => exact World.news_of_block hnb
      case qc3 => exact fun u hu => by simp at hu; subst hu; rfl
      case qc4 => unfold maxLen; omega
      case qc5 => omega
      case qc6 => exact Nat.le_trans j4.size hb.size
      intro v' w1 hown hgrow hnil
      rcases id hown.2 with ⟨_, hn0⟩ | ⟨g, cp, cur, rfl, _⟩
      · exfalso; omega
      obtain ⟨_, c2, fz, g1, g2, g3, g4⟩ := app_gen (by decide) j1 j2 j4 (Nat.le_refl _) (show w.heap.size ≤ w.heap.size + 1 by omega) hb hgrow hown
      have HJ3 := hide (show TaJ w (k + 1) _ from ⟨some ⟨g, 0, none⟩, cp, g1, by rw [List.range_succ, List.map_append, List.map_append, List.map_cons, List.map_nil, HX.out, List.map_map]; exact g2, (g4 _ (Array.getElem?_eq_some_iff.1 j3).1 (own_ne j2 j3 (by decide)) (by omega)).trans j3, g3⟩)
      clear g1 g2 g3 g4 j1 j2 j3 j4 hown hgrow hnil q0 q1 q2 p0 p1 p2
      go_wp2
      go_roundw
      case rel => exact ⟨k + 1, by omega, by go_num, HJ3.out⟩
      case measure => simp [intOf]; omega
    · have hd : decide ((k : Int) < 24) = false := by simp; omega
      obtain rfl : k = 24 := by omega
      obtain ⟨z0, z1, z2⟩ := cells3 j3
      have f0 := Lib.frozen_of_heap j3 0
      have f1 := Lib.frozen_of_heap j3 1
      have f2 := Lib.frozen_of_heap j3 2
      have hne : (Value.slice so 24 cap).ownBlock ≠ some w.heap.size := fun e => own_ne j2 j3 (by decide) e.symm
      have HI := hide ((IsInts.own j2 (by decide)).other (set3_size wr w.heap.size (.int .i64 2) (.int .i64 12) (.slice so 24 cap)) (fun b hb => set3_heap _ _ _ _ _ b hb) hne)
      have HF := hide (set3_below j4 (Nat.le_refl _) (.int .i64 2) (.int .i64 12) (.slice so 24 cap))
      have HFR := hide (Fresh.own j2)
      clear j2 hne
      go_wp2
      refine bodyPost_ret (v := .agg #[.int .i64 2, .int .i64 12, .slice so 24 cap]) (by simp [results, Try.results10, go_sem, z0, z1, z2]) rfl ⟨_, rfl, HI.out, HF.out, HFR.out⟩
end Go.Proofs.Ytolcndchfnifhac

namespace Go.Proofs.Ytolcndchfnifhac
set_option linter.unusedVariables false
open Go.RowKit
def tallQ : List Px := dev7 plainN 2 12 tallL
theorem tallQ_length : tallQ.length = 24 := by unfold tallQ; rw [dev7_length]; rfl
theorem tall_len : tallL.length = 24 := rfl
theorem begWhole (u : World) (cv v : Value) (hp : IsPlan u plainN (.slice none 0 0) cv) (hv : IsInts u v tallL) : Calls Try.prog 4 #[.agg (plainA cv), .agg #[.int .i64 2, .int .i64 12, v]] u fun e w' =>
    ∃ ro rc, e = .returned (.tuple #[.agg #[.int .i64 2, .int .i64 12, .slice ro 24 rc], .int .i64 0]) ∧ IsPix w' (.slice ro 24 rc) tallQ ∧ Below u.heap.size u w' ∧ Fresh u.heap.size (.slice ro 24 rc) := by
  have h := whole_any plainN _ cv 2 12 v tallL u hp (fun j hj => by simp [plainN] at hj) hv
  rw [tall_fits] at h
  refine h.mono ?_
  rintro e w' ⟨r, rfl, hr, hb, hf⟩
  obtain ⟨ro, rc, rfl, h1, h2⟩ := id hr
  have hl : (okL 0 (dev7 plainN 2 12 tallL)).length = 24 := tallQ_length
  rw [hl] at hr hf ⊢
  exact ⟨ro, rc, rfl, hr, hb, hf⟩
theorem begStrips (u : World) (cv v : Value) (hp : IsPlan u plainN (.slice none 0 0) cv) (hv : IsInts u v tallL) (hr : roomy v) : Calls Try.prog 11 #[.agg (plainA cv), .agg #[.int .i64 2, .int .i64 12, v], .int .i64 5] u fun e w' =>
    ∃ ro rc, e = .returned (.tuple #[.agg #[.int .i64 2, .int .i64 12, .slice ro 24 rc], .int .i64 0]) ∧ IsPix w' (.slice ro 24 rc) tallQ ∧ Below u.heap.size u w' ∧ Fresh u.heap.size (.slice ro 24 rc) := by
  have h := strips_any plainN _ cv 2 12 v tallL 5 u hp hv hr
  rw [show stripsE plainN 2 12 tallL 5 = 0 by rw [stripsE, tall_fits]; rfl, tall_strips] at h
  refine h.mono ?_
  rintro e w' ⟨r, rfl, hr, hb, hf⟩
  obtain ⟨ro, rc, rfl, h1, h2⟩ := id hr
  have hl : (okL 0 (dev7 plainN 2 12 tallL)).length = 24 := tallQ_length
  rw [hl] at hr hf ⊢
  exact ⟨ro, rc, rfl, hr, hb, hf⟩
def tallR : List Px := (tallQ.drop 14).take 4
theorem tallR_length : tallR.length = 4 := by unfold tallR; rw [List.length_take, List.length_drop, tallQ_length]; rfl
theorem tallR_zero : pxAt tallR 0 = pxAt tallQ 14 := by
  unfold tallR pxAt
  rw [List.getD_eq_getElem?_getD, List.getD_eq_getElem?_getD, List.getElem?_take_of_lt (by decide), List.getElem?_drop]
theorem begPart (u : World) (cv v : Value) (hp : IsPlan u plainN (.slice none 0 0) cv) (hv : IsInts u v (tallL.drop 6)) : Calls Try.prog 12 #[.agg (plainA cv), .agg #[.int .i64 2, .int .i64 9, v], .int .i64 3, .int .i64 12, .int .i64 7, .int .i64 9] u fun e w' =>
    ∃ ro rc, e = .returned (.tuple #[.agg #[.int .i64 2, .int .i64 2, .slice ro 4 rc], .int .i64 0]) ∧ IsPix w' (.slice ro 4 rc) tallR ∧ Below u.heap.size u w' ∧ Fresh u.heap.size (.slice ro 4 rc) := by
  have h := linePart_any plainN _ cv 2 9 v (tallL.drop 6) 3 12 7 9 u hp hv
  rw [tall_part, tall_rows] at h
  refine h.mono ?_
  rintro e w' ⟨r, rfl, hr, hb, hf⟩
  obtain ⟨ro, rc, rfl, h1, h2⟩ := id hr
  have hl : (okL 0 (((dev7 plainN 2 12 tallL).drop 14).take 4)).length = 4 := tallR_length
  rw [hl] at hr hf ⊢
  exact ⟨ro, rc, rfl, hr, hb, hf⟩
theorem begCheck (u : World) (cv : Value) (hp : IsPlan u plainN (.slice none 0 0) cv) : Calls Try.prog 13 #[.agg (plainA cv)] u fun e w' => e = .returned (.int .i64 0) ∧ Below u.heap.size u w' := by
  have h := check_any plainN _ cv u hp
  rw [plain_ok] at h
  exact h
theorem begZero (u : World) : Calls Try.prog 13 #[.agg planZ] u fun e w' => e = .returned (.int .i64 3) ∧ Below u.heap.size u w' := by
  have h := check_any zeroN (.slice none 0 0) (.slice none 0 0) u ⟨⟨none, 0, rfl, by decide, .inl rfl⟩, ⟨none, 0, rfl, by decide, .inl rfl⟩⟩
  rw [zero_no] at h
  exact h
theorem tall_sub {u : World} {b off cap : Nat} (h : IsInts u (.slice (some ⟨b, off, none⟩) 24 cap) tallL) : IsInts u (.slice (some ⟨b, off + 6, none⟩) 18 (cap - 6)) (tallL.drop 6) := by
  obtain ⟨ao, c, hv, _, hc⟩ := h
  cases hv
  rcases hc with hc | ⟨b', o', he, hb, hc⟩
  · exact absurd (congrArg List.length hc) (by decide)
  · cases he
    refine ⟨_, _, rfl, by decide, .inr ⟨b, off + 6, rfl, hb, fun j hj => ?_⟩⟩
    have hj2 : j < 18 := hj
    have e := hc (6 + j) (by rw [tall_len]; omega)
    rw [Nat.add_assoc, e, List.getElem_drop]
theorem begSame (u : World) (va vb : Value) (ha : IsPix u va tallQ) (hb : IsPix u vb tallQ) : Calls Try.prog 14 #[.agg #[.int .i64 2, .int .i64 12, va], .agg #[.int .i64 2, .int .i64 12, vb]] u fun e w' => e = .returned (.bool true) ∧ Below u.heap.size u w' := by
  have h := samePictures_any 2 12 va tallQ 2 12 vb tallQ u ha hb
  rw [show sameB 2 12 tallQ 2 12 tallQ = true by simp [sameB]] at h
  exact h
end Go.Proofs.Ytolcndchfnifhac

namespace Go.Proofs.Ytolcndchfnifhac
open Go
section
variable {P : Program} {ops : Array Oper} {Q : Exit → Act → World → Prop} {md : Region.Mode} {S : World → Prop} {f : Nat}
def pathB (md : Region.Mode) (ops : Array Oper) (i : Nat) : List Nat → Nat → Bool
  | [], j => match ops[j]? with
    | some o => o.after.any fun e => Region.binds md e && e.on == i
    | none => false
  | k :: r, j => (match ops[j]? with
    | some o => o.after.any fun e => Region.binds md e && e.on == k
    | none => false) && pathB md ops i r k
theorem path_one {i j : Nat} {listed : Array Bool} (hc : Closed md ops listed) (hj : j ∈ Region.ready md ops listed ∨ listed.getD j false = true)
    (h : (match ops[j]? with
    | some o => o.after.any fun e => Region.binds md e && e.on == i
    | none => false) = true) : listed.getD i false = true := by
  cases ho : ops[j]? with
  | none => rw [ho] at h; cases h
  | some o =>
    rw [ho] at h
    have hall : ∀ e ∈ o.after, Region.binds md e = true → listed.getD e.on false = true := by
      rcases hj with hj | hj
      · obtain ⟨_, o', ho', hall⟩ := mem_ready.1 hj
        obtain rfl := Option.some.inj (ho.symm.trans ho')
        exact hall
      · exact hc j o ho hj
    have h' : ∃ e ∈ o.after, (Region.binds md e && e.on == i) = true := by
      first
        | exact List.any_eq_true.1 h
        | exact Array.any_eq_true'.1 h
    obtain ⟨e, he, hx⟩ := h'
    rw [Bool.and_eq_true] at hx
    rw [← eq_of_beq hx.2]
    exact hall e he hx.1
theorem path_spec {i : Nat} {listed : Array Bool} (hc : Closed md ops listed) : ∀ (p : List Nat) (j : Nat), (j ∈ Region.ready md ops listed ∨ listed.getD j false = true) → pathB md ops i p j = true → listed.getD i false = true
  | [], j, hj, h => path_one hc hj h
  | k :: r, j, hj, h => by
    unfold pathB at h
    rw [Bool.and_eq_true] at h
    exact path_spec hc r k (.inr (path_one hc hj h.1)) h.2
theorem wpAnyF_firstP {i : Nat} {p : List Nat} {oi : Oper} {v : Value} (hi : ops[i]? = some oi) (hsel : ∀ (j : Nat) (o : Oper) cs b, ops[j]? = some o → o.op ≠ .select cs b)
    (hQ : ∀ c a w, Q (.panic c) (a.put oi.dst v) w → Q (.panic c) a w) (hwt : pathB md ops i p f = true) :
    ∀ (fuel : Nat) (listed : Array Bool) (a : Act) (w : World),
      (∀ j oj, ops[j]? = some oj → j ≠ i → listed.getD j true = false → (∀ e ∈ oj.after, Region.binds md e = true → e.on ≠ i) → oi.apart ops oj = true) →
      Closed md ops listed →
      i ∈ Region.ready md ops listed → YieldsIf P ops S oi v a → S w →
      wpAnyF P md ops Q S f fuel (listed.setIfInBounds i true) (a.put oi.dst v) w → wpAnyF P md ops Q S f (fuel + 1) listed a w := by
  intro fuel
  induction fuel with
  | zero =>
    intro listed a w _ _ hr hy hS H
    refine ⟨fun h => (by rw [h] at hr; cases hr), fun j hj => ?_⟩
    by_cases hji : j = i
    · subst hji; exact hy.wpOp hi hS ⟨fun _ => hS, H⟩
    · have := ready_mono hj hji
      rw [H.1] at this
      cases this
  | succ fuel ih =>
    intro listed a w hfree hcl hr hy hS H
    refine ⟨fun h => (by rw [h] at hr; cases hr), fun j hj => ?_⟩
    by_cases hji : j = i
    · subst hji; exact hy.wpOp hi hS ⟨fun _ => hS, H⟩
    · have hiun : ¬ listed.getD i false = true := by
        intro h1
        have h0 := (mem_ready.1 hr).1
        rcases Nat.lt_or_ge i listed.size with h' | h'
        · simp [h'] at h0 h1; rw [h0] at h1; cases h1
        · simp [Array.getElem?_eq_none h'] at h1
      have hjf : j ≠ f := fun e => hiun (path_spec hcl p f (.inl (e ▸ hj)) hwt)
      have h1 := H.2 j (ready_mono hj hji)
      obtain ⟨hjun, oj, hoj, hall⟩ := mem_ready.1 hj
      have hnot : ∀ e ∈ oj.after, Region.binds md e = true → e.on ≠ i := fun e he hb heq => by
        have h1 := hall e he hb
        rw [heq] at h1
        exact hiun h1
      have h2 := wpOp_putIf hoj (hfree j oj hoj hji hjun hnot) (fun cs b => hsel i oi cs b hi) (fun cs b => hsel j oj cs b hoj) hQ hy h1
      have hfree' : ∀ k ok, ops[k]? = some ok → k ≠ i → (listed.setIfInBounds j true).getD k true = false →
          (∀ e ∈ ok.after, Region.binds md e = true → e.on ≠ i) → oi.apart ops ok = true := fun k ok hk hki hun hno => by
        refine hfree k ok hk hki ?_ hno
        by_cases hjk : j = k
        · subst hjk; exact hjun
        · rw [getD_set_ne true hjk] at hun; exact hun
      refine wpOp_mono (fun a' w' h3 => ⟨h3.2.1, ih (listed.setIfInBounds j true) a' w' hfree' (closed_set hcl hj) (ready_mono hr (Ne.symm hji)) h3.1 (h3.2.1 hjf) ?_⟩) h2
      rw [Array.setIfInBounds_comm _ _ hji]
      exact h3.2.2
theorem wpAnyF_takeP {i : Nat} {oi : Oper} {v : Value} {fuel : Nat} {listed : Array Bool} {a : Act} {w : World} (d : Option Nat) (p : List Nat) (hi : ops[i]? = some oi) (hd : oi.dst = d)
    (hs : Region.noSelect ops = true) (hf : Region.free md ops listed i = true) (hr : (Region.ready md ops listed).contains i = true) (hwt : pathB md ops i p f = true) (hcl : closedB md ops listed = true)
    (hQ : ∀ c a w, Q (.panic c) (a.put oi.dst v) w → Q (.panic c) a w) (hy : YieldsIf P ops S oi v a) (hS : S w)
    (h : wpAnyF P md ops Q S f fuel (listed.setIfInBounds i true) (a.put d v) w) : wpAnyF P md ops Q S f (fuel + 1) listed a w := by
  subst hd
  exact wpAnyF_firstP hi (Region.noSelect_spec hs) hQ hwt fuel listed a w (Region.free_spec hi hf) (closed_of hcl) (by simpa using hr) hy hS h
end
end Go.Proofs.Ytolcndchfnifhac

namespace Go.Proofs.Ytolcndchfnifhac
set_option linter.unusedVariables false
open Go.RowKit
theorem tallH (w : World) : Calls Try.prog 10 #[] w fun e w' => ∃ b off ca, e = .returned (.agg #[.int .i64 2, .int .i64 12, .slice (some ⟨b, off, none⟩) 24 ca]) ∧ Hid (IsInts w' (.slice (some ⟨b, off, none⟩) 24 ca) tallL) ∧ 24 ≤ ca ∧ Below w.heap.size w w' :=
  (tall_any w).mono fun e w' ⟨r, h1, h2, h3, h4⟩ => by
    obtain ⟨b, off, ca, rfl, _, _⟩ := h2.cells (by rw [tall_len]; decide)
    exact ⟨b, off, ca, h1, hide h2, h4.2, h3⟩
set_option maxRecDepth 100000 in
set_option maxHeartbeats 16000000 in
theorem lineBegun_any (w : World) : Calls Try.prog 5 #[] w fun e w' => e = .returned (.bool true) ∧ Below w.heap.size w w' := by
  go_enter Try.func5, Try.ntmps5
  go_wp2_with fail
  refine (plain_any _).mono ?_
  rintro e p1 ⟨cv1, rfl, hp1, hbp1⟩
  go_wp2_with fail
  refine (tallH _).mono ?_
  rintro e t1 ⟨tb, tf, tc, rfl, HT, htc, hbt⟩
  go_wp2_with fail
  refine (begWhole _ _ _ (hp1.below hbt (Nat.le_refl _)) HT.out).mono ?_
  rintro e r1 ⟨qo, qc, rfl, hx, hbr, _⟩
  have hC1 := bel_trans (bel_trans (bel_trans hbp1 hbt) hbr) (bel_alloc r1 (Obj.cells #[.int .i64 2, .int .i64 12, .slice qo 24 qc] 34))
  have B1 := al1 r1 (Obj.cells #[.int .i64 2, .int .i64 12, .slice qo 24 qc] 34)
  have X1 := hide (hx.alloc (Obj.cells #[.int .i64 2, .int .i64 12, .slice qo 24 qc] 34))
  clear hp1 hbp1 HT htc hbt hx hbr
  go_wp2_with fail
  have l1 := (Array.getElem?_eq_some_iff.1 B1).1
  generalize r1.alloc (Obj.cells #[.int .i64 2, .int .i64 12, .slice qo 24 qc] 34) = U1 at *
  generalize r1.heap.size = QB at *
  clear r1
  refine (plain_any _).mono ?_
  rintro e p2 ⟨cv2, rfl, hp2, hbp2⟩
  go_wp2_with fail
  refine (tallH _).mono ?_
  rintro e t2 ⟨tb, tf, tc, rfl, HT, htc, hbt⟩
  go_wp2_with fail
  refine (begStrips _ _ _ (hp2.below hbt (Nat.le_refl _)) HT.out htc).mono ?_
  rintro e r2 ⟨so, sc, rfl, hx, hbr, _⟩
  have hC2 := bel_trans (bel_trans (bel_trans hbp2 hbt) hbr) (bel_alloc r2 (Obj.cells #[.int .i64 2, .int .i64 12, .slice so 24 sc] 34))
  have B2 := al1 r2 (Obj.cells #[.int .i64 2, .int .i64 12, .slice so 24 sc] 34)
  have X2 := hide (hx.alloc (Obj.cells #[.int .i64 2, .int .i64 12, .slice so 24 sc] 34))
  clear hp2 hbp2 HT htc hbt hx hbr
  replace B1 := (hC2.block QB l1).trans B1
  replace X1 := hide (X1.out.below hC2 (Nat.le_refl _))
  replace hC1 := bel_trans hC1 hC2
  clear hC2
  go_wp2_with fail
  replace l1 := (Array.getElem?_eq_some_iff.1 B1).1
  have l2 := (Array.getElem?_eq_some_iff.1 B2).1
  generalize r2.alloc (Obj.cells #[.int .i64 2, .int .i64 12, .slice so 24 sc] 34) = U2 at *
  generalize r2.heap.size = SB at *
  clear r2
  refine (plain_any _).mono ?_
  rintro e p3 ⟨cv3, rfl, hp3, hbp3⟩
  go_wp2_with fail
  refine (tallH _).mono ?_
  rintro e t3 ⟨tb, tf, tc, rfl, HT, htc, hbt⟩
  have hfd : ∀ V : World, (Instr.field 31 (.agg #[.int .i64 2, .int .i64 12, .slice (some ⟨tb, tf, none⟩) 24 tc]) 2).run Try.prog V = .ok (.slice (some ⟨tb, tf, none⟩) 24 tc) V := fun V => by kernel_rfl
  have hg1 : (24 : Int) ≤ (tc : Int) := by omega
  have hg2 : ¬ (tc = 6) := by omega
  have hg3 : ¬ ((tc : Int) < 24) := by omega
  go_wp2_with fail
  refine (begPart _ _ _ (hp3.below hbt (Nat.le_refl _)) (tall_sub HT.out)).mono ?_
  rintro e r3 ⟨zo, zc, rfl, hx, hbr, _⟩
  have hC3 := bel_trans (bel_trans (bel_trans hbp3 hbt) hbr) (bel_alloc r3 (Obj.cells #[.int .i64 2, .int .i64 2, .slice zo 4 zc] 34))
  have B3 := al1 r3 (Obj.cells #[.int .i64 2, .int .i64 2, .slice zo 4 zc] 34)
  have X3 := hide (hx.alloc (Obj.cells #[.int .i64 2, .int .i64 2, .slice zo 4 zc] 34))
  clear hp3 hbp3 HT htc hbt hx hbr hfd hg1 hg2 hg3
  replace B1 := (hC3.block QB l1).trans B1
  replace B2 := (hC3.block SB l2).trans B2
  replace X1 := hide (X1.out.below hC3 (Nat.le_refl _))
  replace X2 := hide (X2.out.below hC3 (Nat.le_refl _))
  have HBW := hide (bel_trans hC1 hC3)
  clear hC1 hC3
  go_upto_region 4 with fail
  generalize Value.agg (plainA cv1) = g1
  generalize Value.agg (plainA cv2) = g2
  generalize Value.agg (plainA cv3) = g3
  replace l1 := (Array.getElem?_eq_some_iff.1 B1).1
  replace l2 := (Array.getElem?_eq_some_iff.1 B2).1
  have l3 := (Array.getElem?_eq_some_iff.1 B3).1
  generalize r3.alloc (Obj.cells #[.int .i64 2, .int .i64 2, .slice zo 4 zc] 34) = U at *
  generalize r3.heap.size = TB at *
  clear r3
  obtain ⟨qo2, qc2, hqe, _, hqor⟩ := X1.out
  rcases hqor with hqor | ⟨qb, qf, rfl, hqb, hqc⟩
  · exact absurd (congrArg List.length hqor) (by rw [tallQ_length]; decide)
  obtain ⟨zo2, zc2, hte, _, htor⟩ := X3.out
  rcases htor with htor | ⟨tb, tf, rfl, htb, htc⟩
  · exact absurd (congrArg List.length htor) (by rw [tallR_length]; decide)
  cases hqe
  cases hte
  obtain ⟨x0, x1, x2⟩ := hqc 14 (by rw [tallQ_length]; decide)
  obtain ⟨y0, y1, y2⟩ := htc 0 (by rw [tallR_length]; decide)
  rw [pxAt_get tallQ 14 (by rw [tallQ_length]; decide)] at x0 x1 x2
  rw [pxAt_get tallR 0 (by rw [tallR_length]; decide), tallR_zero] at y0 y1 y2
  simp only [Nat.zero_mul, Nat.add_zero] at y0 y1 y2
  simp only [Nat.reduceMul] at x0 x1 x2
  generalize (pxAt tallQ 14).1 = A0 at *
  generalize (pxAt tallQ 14).2.1 = A1 at *
  generalize (pxAt tallQ 14).2.2 = A2 at *
  clear hqc htc
  have HS := hide (show ∀ v, Below U.heap.size U v → v.cell? ⟨QB, 0, none⟩ = some (.int .i64 2) ∧ v.cell? ⟨QB, 1, none⟩ = some (.int .i64 12) ∧ v.cell? ⟨QB, 2, none⟩ = some (.slice (some ⟨qb, qf, none⟩) 24 qc) ∧ v.cell? ⟨SB, 0, none⟩ = some (.int .i64 2) ∧ v.cell? ⟨SB, 1, none⟩ = some (.int .i64 12) ∧ v.cell? ⟨SB, 2, none⟩ = some (.slice so 24 sc) ∧ v.cell? ⟨TB, 1, none⟩ = some (.int .i64 2) ∧ v.cell? ⟨TB, 2, none⟩ = some (.slice (some ⟨tb, tf, none⟩) 4 zc) ∧ v.cell? ⟨qb, qf + 42, none⟩ = some (.int .i64 A0) ∧ v.cell? ⟨qb, qf + 42 + 1, none⟩ = some (.int .i64 A1) ∧ v.cell? ⟨qb, qf + 42 + 2, none⟩ = some (.int .i64 A2) ∧ v.cell? ⟨tb, tf, none⟩ = some (.int .i64 A0) ∧ v.cell? ⟨tb, tf + 1, none⟩ = some (.int .i64 A1) ∧ v.cell? ⟨tb, tf + 2, none⟩ = some (.int .i64 A2) from fun v h => by
    obtain ⟨a0, a1, a2⟩ := cells3 ((h.block _ l1).trans B1)
    obtain ⟨b0, b1, b2⟩ := cells3 ((h.block _ l2).trans B2)
    obtain ⟨_, c1, c2⟩ := cells3 ((h.block _ l3).trans B3)
    exact ⟨a0, a1, a2, b0, b1, b2, c1, c2, (h.cell (p := ⟨qb, qf + 42, none⟩) hqb).trans x0, (h.cell (p := ⟨qb, qf + 42 + 1, none⟩) hqb).trans x1, (h.cell (p := ⟨qb, qf + 42 + 2, none⟩) hqb).trans x2, (h.cell (p := ⟨tb, tf, none⟩) htb).trans y0, (h.cell (p := ⟨tb, tf + 1, none⟩) htb).trans y1, (h.cell (p := ⟨tb, tf + 2, none⟩) htb).trans y2⟩)
  have hWd : Below U.heap.size U U.drew := (Below.refl _ _).drew
  have hSd := HS.out _ hWd
  clear x0 x1 x2 y0 y1 y2
  have hmx : Try.prog.follows .mixedOrders = true := by kernel_rfl
  refine wp_region_last (S := fun v : World => v.cell? ⟨QB, 0, none⟩ = some (.int .i64 2) ∧ v.cell? ⟨QB, 1, none⟩ = some (.int .i64 12) ∧ v.cell? ⟨QB, 2, none⟩ = some (.slice (some ⟨qb, qf, none⟩) 24 qc) ∧ v.cell? ⟨SB, 0, none⟩ = some (.int .i64 2) ∧ v.cell? ⟨SB, 1, none⟩ = some (.int .i64 12) ∧ v.cell? ⟨SB, 2, none⟩ = some (.slice so 24 sc) ∧ v.cell? ⟨TB, 1, none⟩ = some (.int .i64 2) ∧ v.cell? ⟨TB, 2, none⟩ = some (.slice (some ⟨tb, tf, none⟩) 4 zc) ∧ v.cell? ⟨qb, qf + 42, none⟩ = some (.int .i64 A0) ∧ v.cell? ⟨qb, qf + 42 + 1, none⟩ = some (.int .i64 A1) ∧ v.cell? ⟨qb, qf + 42 + 2, none⟩ = some (.int .i64 A2) ∧ v.cell? ⟨tb, tf, none⟩ = some (.int .i64 A0) ∧ v.cell? ⟨tb, tf + 1, none⟩ = some (.int .i64 A1) ∧ v.cell? ⟨tb, tf + 2, none⟩ = some (.int .i64 A2)) (f := 53) hmx ?_
  show wpAnyF _ _ _ _ _ _ 54 _ _ U.drew
  refine wpAnyF_one (i := 0) (o := _) (by kernel_rfl) rfl (fun K' hK => ?_)
  rw [if_pos (by rfl)]
  go_simp
  refine (plain_any _).mono ?_
  rintro e V0 ⟨cvz, rfl, hpz, hbvV0⟩
  have hBV0 : Below U.heap.size U V0 := hWd.trans (hbvV0.mono hWd.size)
  have hSd := HS.out _ hBV0
  refine hK.out _ _ hSd ?_
  clear hK
  try simp only [Act.put]
  refine wpAnyF_one (i := 1) (o := _) (by kernel_rfl) rfl (fun K' hK => ?_)
  rw [if_pos (by rfl)]
  go_simp
  refine (begCheck _ _ hpz).mono ?_
  rintro e V1 ⟨rfl, hbvV1⟩
  have hBV1 : Below U.heap.size U V1 := hBV0.trans (hbvV1.mono hBV0.size)
  clear hpz
  generalize Value.agg (plainA cvz) = g4
  have hSd := HS.out _ hBV1
  refine hK.out _ _ hSd ?_
  clear hK
  try simp only [Act.put]
  refine wpAnyF_takeP (i := 2) (oi := _) (v := ?vv1) (some 30) [] rfl rfl (by kernel_rfl) (by kernel_rfl) (by kernel_rfl) (by kernel_rfl) (by kernel_rfl) (fun _ _ _ h => h) (Or.inl ⟨by rfl, ?yy1⟩) hSd ?rr1
  case yy1 => (intro wq hSq; obtain ⟨_, _, _, _, _, _, _, _, _, _, _, _, _, _⟩ := hSq; go_simp <;> with_reducible rfl)
  simp only [Act.put, List.setIfInBounds_toArray, List.set_cons_succ, List.set_cons_zero]
  refine wpAnyF_takeP (i := 3) (oi := _) (v := ?vv2) (some 31) [] rfl rfl (by kernel_rfl) (by kernel_rfl) (by kernel_rfl) (by kernel_rfl) (by kernel_rfl) (fun _ _ _ h => h) (Or.inl ⟨by rfl, ?yy2⟩) hSd ?rr2
  case yy2 => (intro wq hSq; obtain ⟨_, _, _, _, _, _, _, _, _, _, _, _, _, _⟩ := hSq; go_simp <;> with_reducible rfl)
  simp only [Act.put, List.setIfInBounds_toArray, List.set_cons_succ, List.set_cons_zero]
  refine wpAnyF_takeP (i := 4) (oi := _) (v := ?vv3) (some 32) [] rfl rfl (by kernel_rfl) (by kernel_rfl) (by kernel_rfl) (by kernel_rfl) (by kernel_rfl) (fun _ _ _ h => h) (Or.inl ⟨by rfl, ?yy3⟩) hSd ?rr3
  case yy3 => (intro wq hSq; obtain ⟨_, _, _, _, _, _, _, _, _, _, _, _, _, _⟩ := hSq; go_simp <;> with_reducible rfl)
  simp only [Act.put, List.setIfInBounds_toArray, List.set_cons_succ, List.set_cons_zero]
  refine wpAnyF_one (i := 5) (o := _) (by kernel_rfl) rfl (fun K' hK => ?_)
  rw [if_pos (by rfl)]
  go_simp
  refine (begZero _).mono ?_
  rintro e V2 ⟨rfl, hbvV2⟩
  have hBV2 : Below U.heap.size U V2 := hBV1.trans (hbvV2.mono hBV1.size)
  generalize Value.agg planZ = g5
  have hSd := HS.out _ hBV2
  refine hK.out _ _ hSd ?_
  clear hK
  try simp only [Act.put]
  refine wpAnyF_takeP (i := 6) (oi := _) (v := ?vv4) (some 34) [] rfl rfl (by kernel_rfl) (by kernel_rfl) (by kernel_rfl) (by kernel_rfl) (by kernel_rfl) (fun _ _ _ h => h) (Or.inl ⟨by rfl, ?yy4⟩) hSd ?rr4
  case yy4 => (intro wq hSq; obtain ⟨_, _, _, _, _, _, _, _, _, _, _, _, _, _⟩ := hSq; go_simp <;> with_reducible rfl)
  simp only [Act.put, List.setIfInBounds_toArray, List.set_cons_succ, List.set_cons_zero]
  refine wpAnyF_takeP (i := 7) (oi := _) (v := ?vv5) (some 35) [] rfl rfl (by kernel_rfl) (by kernel_rfl) (by kernel_rfl) (by kernel_rfl) (by kernel_rfl) (fun _ _ _ h => h) (Or.inl ⟨by rfl, ?yy5⟩) hSd ?rr5
  case yy5 => (intro wq hSq; obtain ⟨_, _, _, _, _, _, _, _, _, _, _, _, _, _⟩ := hSq; go_simp <;> with_reducible rfl)
  simp only [Act.put, List.setIfInBounds_toArray, List.set_cons_succ, List.set_cons_zero]
  refine wpAnyF_takeP (i := 8) (oi := _) (v := ?vv6) (some 36) [] rfl rfl (by kernel_rfl) (by kernel_rfl) (by kernel_rfl) (by kernel_rfl) (by kernel_rfl) (fun _ _ _ h => h) (Or.inl ⟨by rfl, ?yy6⟩) hSd ?rr6
  case yy6 => (intro wq hSq; obtain ⟨_, _, _, _, _, _, _, _, _, _, _, _, _, _⟩ := hSq; go_simp <;> with_reducible rfl)
  simp only [Act.put, List.setIfInBounds_toArray, List.set_cons_succ, List.set_cons_zero]
  refine wpAnyF_takeP (i := 9) (oi := _) (v := ?vv7) (some 37) [] rfl rfl (by kernel_rfl) (by kernel_rfl) (by kernel_rfl) (by kernel_rfl) (by kernel_rfl) (fun _ _ _ h => h) (Or.inl ⟨by rfl, ?yy7⟩) hSd ?rr7
  case yy7 => (intro wq hSq; obtain ⟨_, _, _, _, _, _, _, _, _, _, _, _, _, _⟩ := hSq; go_simp <;> with_reducible rfl)
  simp only [Act.put, List.setIfInBounds_toArray, List.set_cons_succ, List.set_cons_zero]
  refine wpAnyF_takeP (i := 10) (oi := _) (v := ?vv8) (some 38) [] rfl rfl (by kernel_rfl) (by kernel_rfl) (by kernel_rfl) (by kernel_rfl) (by kernel_rfl) (fun _ _ _ h => h) (Or.inl ⟨by rfl, ?yy8⟩) hSd ?rr8
  case yy8 => (intro wq hSq; obtain ⟨_, _, _, _, _, _, _, _, _, _, _, _, _, _⟩ := hSq; go_simp <;> with_reducible rfl)
  simp only [Act.put, List.setIfInBounds_toArray, List.set_cons_succ, List.set_cons_zero]
  refine wpAnyF_takeP (i := 11) (oi := _) (v := ?vv9) (some 39) [] rfl rfl (by kernel_rfl) (by kernel_rfl) (by kernel_rfl) (by kernel_rfl) (by kernel_rfl) (fun _ _ _ h => h) (Or.inl ⟨by rfl, ?yy9⟩) hSd ?rr9
  case yy9 => (intro wq hSq; obtain ⟨_, _, _, _, _, _, _, _, _, _, _, _, _, _⟩ := hSq; go_simp <;> with_reducible rfl)
  simp only [Act.put, List.setIfInBounds_toArray, List.set_cons_succ, List.set_cons_zero]
  refine wpAnyF_takeP (i := 12) (oi := _) (v := ?vv10) (some 40) [] rfl rfl (by kernel_rfl) (by kernel_rfl) (by kernel_rfl) (by kernel_rfl) (by kernel_rfl) (fun _ _ _ h => h) (Or.inl ⟨by rfl, ?yy10⟩) hSd ?rr10
  case yy10 => (intro wq hSq; obtain ⟨_, _, _, _, _, _, _, _, _, _, _, _, _, _⟩ := hSq; go_simp <;> with_reducible rfl)
  simp only [Act.put, List.setIfInBounds_toArray, List.set_cons_succ, List.set_cons_zero]
  refine wpAnyF_takeP (i := 13) (oi := _) (v := ?vv11) (some 41) [] rfl rfl (by kernel_rfl) (by kernel_rfl) (by kernel_rfl) (by kernel_rfl) (by kernel_rfl) (fun _ _ _ h => h) (Or.inl ⟨by rfl, ?yy11⟩) hSd ?rr11
  case yy11 => (intro wq hSq; obtain ⟨_, _, _, _, _, _, _, _, _, _, _, _, _, _⟩ := hSq; go_simp <;> with_reducible rfl)
  simp only [Act.put, List.setIfInBounds_toArray, List.set_cons_succ, List.set_cons_zero]
  refine wpAnyF_takeP (i := 14) (oi := _) (v := ?vv12) (some 42) [] rfl rfl (by kernel_rfl) (by kernel_rfl) (by kernel_rfl) (by kernel_rfl) (by kernel_rfl) (fun _ _ _ h => h) (Or.inl ⟨by rfl, ?yy12⟩) hSd ?rr12
  case yy12 => (intro wq hSq; obtain ⟨_, _, _, _, _, _, _, _, _, _, _, _, _, _⟩ := hSq; go_simp <;> with_reducible rfl)
  simp only [Act.put, List.setIfInBounds_toArray, List.set_cons_succ, List.set_cons_zero]
  refine wpAnyF_takeP (i := 15) (oi := _) (v := ?vv13) (some 43) [] rfl rfl (by kernel_rfl) (by kernel_rfl) (by kernel_rfl) (by kernel_rfl) (by kernel_rfl) (fun _ _ _ h => h) (Or.inl ⟨by rfl, ?yy13⟩) hSd ?rr13
  case yy13 => (intro wq hSq; obtain ⟨_, _, _, _, _, _, _, _, _, _, _, _, _, _⟩ := hSq; go_simp <;> with_reducible rfl)
  simp only [Act.put, List.setIfInBounds_toArray, List.set_cons_succ, List.set_cons_zero]
  refine wpAnyF_takeP (i := 16) (oi := _) (v := ?vv14) (some 44) [] rfl rfl (by kernel_rfl) (by kernel_rfl) (by kernel_rfl) (by kernel_rfl) (by kernel_rfl) (fun _ _ _ h => h) (Or.inl ⟨by rfl, ?yy14⟩) hSd ?rr14
  case yy14 => (intro wq hSq; obtain ⟨_, _, _, _, _, _, _, _, _, _, _, _, _, _⟩ := hSq; go_simp <;> with_reducible rfl)
  simp only [Act.put, List.setIfInBounds_toArray, List.set_cons_succ, List.set_cons_zero]
  refine wpAnyF_takeP (i := 17) (oi := _) (v := ?vv15) (some 45) [] rfl rfl (by kernel_rfl) (by kernel_rfl) (by kernel_rfl) (by kernel_rfl) (by kernel_rfl) (fun _ _ _ h => h) (Or.inl ⟨by rfl, ?yy15⟩) hSd ?rr15
  case yy15 => (intro wq hSq; obtain ⟨_, _, _, _, _, _, _, _, _, _, _, _, _, _⟩ := hSq; go_simp <;> with_reducible rfl)
  simp only [Act.put, List.setIfInBounds_toArray, List.set_cons_succ, List.set_cons_zero]
  refine wpAnyF_takeP (i := 18) (oi := _) (v := ?vv16) (some 46) [] rfl rfl (by kernel_rfl) (by kernel_rfl) (by kernel_rfl) (by kernel_rfl) (by kernel_rfl) (fun _ _ _ h => h) (Or.inl ⟨by rfl, ?yy16⟩) hSd ?rr16
  case yy16 => (intro wq hSq; obtain ⟨_, _, _, _, _, _, _, _, _, _, _, _, _, _⟩ := hSq; go_simp <;> with_reducible rfl)
  simp only [Act.put, List.setIfInBounds_toArray, List.set_cons_succ, List.set_cons_zero]
  refine wpAnyF_takeP (i := 19) (oi := _) (v := ?vv17) (some 47) [] rfl rfl (by kernel_rfl) (by kernel_rfl) (by kernel_rfl) (by kernel_rfl) (by kernel_rfl) (fun _ _ _ h => h) (Or.inl ⟨by rfl, ?yy17⟩) hSd ?rr17
  case yy17 => (intro wq hSq; obtain ⟨_, _, _, _, _, _, _, _, _, _, _, _, _, _⟩ := hSq; go_simp <;> with_reducible rfl)
  simp only [Act.put, List.setIfInBounds_toArray, List.set_cons_succ, List.set_cons_zero]
  refine wpAnyF_takeP (i := 20) (oi := _) (v := ?vv18) (some 48) [] rfl rfl (by kernel_rfl) (by kernel_rfl) (by kernel_rfl) (by kernel_rfl) (by kernel_rfl) (fun _ _ _ h => h) (Or.inl ⟨by rfl, ?yy18⟩) hSd ?rr18
  case yy18 => (intro wq hSq; obtain ⟨_, _, _, _, _, _, _, _, _, _, _, _, _, _⟩ := hSq; go_simp <;> with_reducible rfl)
  simp only [Act.put, List.setIfInBounds_toArray, List.set_cons_succ, List.set_cons_zero]
  refine wpAnyF_takeP (i := 21) (oi := _) (v := ?vv19) (some 49) [] rfl rfl (by kernel_rfl) (by kernel_rfl) (by kernel_rfl) (by kernel_rfl) (by kernel_rfl) (fun _ _ _ h => h) (Or.inl ⟨by rfl, ?yy19⟩) hSd ?rr19
  case yy19 => (intro wq hSq; obtain ⟨_, _, _, _, _, _, _, _, _, _, _, _, _, _⟩ := hSq; go_simp <;> with_reducible rfl)
  simp only [Act.put, List.setIfInBounds_toArray, List.set_cons_succ, List.set_cons_zero]
  refine wpAnyF_takeP (i := 22) (oi := _) (v := ?vv20) (some 50) [] rfl rfl (by kernel_rfl) (by kernel_rfl) (by kernel_rfl) (by kernel_rfl) (by kernel_rfl) (fun _ _ _ h => h) (Or.inl ⟨by rfl, ?yy20⟩) hSd ?rr20
  case yy20 => (intro wq hSq; obtain ⟨_, _, _, _, _, _, _, _, _, _, _, _, _, _⟩ := hSq; go_simp <;> with_reducible rfl)
  simp only [Act.put, List.setIfInBounds_toArray, List.set_cons_succ, List.set_cons_zero]
  refine wpAnyF_takeP (i := 23) (oi := _) (v := ?vv21) (some 51) [] rfl rfl (by kernel_rfl) (by kernel_rfl) (by kernel_rfl) (by kernel_rfl) (by kernel_rfl) (fun _ _ _ h => h) (Or.inl ⟨by rfl, ?yy21⟩) hSd ?rr21
  case yy21 => (intro wq hSq; obtain ⟨_, _, _, _, _, _, _, _, _, _, _, _, _, _⟩ := hSq; go_simp <;> with_reducible rfl)
  simp only [Act.put, List.setIfInBounds_toArray, List.set_cons_succ, List.set_cons_zero]
  refine wpAnyF_takeP (i := 24) (oi := _) (v := ?vv22) (some 52) [] rfl rfl (by kernel_rfl) (by kernel_rfl) (by kernel_rfl) (by kernel_rfl) (by kernel_rfl) (fun _ _ _ h => h) (Or.inl ⟨by rfl, ?yy22⟩) hSd ?rr22
  case yy22 => (intro wq hSq; obtain ⟨_, _, _, _, _, _, _, _, _, _, _, _, _, _⟩ := hSq; go_simp <;> with_reducible rfl)
  simp only [Act.put, List.setIfInBounds_toArray, List.set_cons_succ, List.set_cons_zero]
  refine wpAnyF_takeP (i := 25) (oi := _) (v := ?vv23) (some 53) [] rfl rfl (by kernel_rfl) (by kernel_rfl) (by kernel_rfl) (by kernel_rfl) (by kernel_rfl) (fun _ _ _ h => h) (Or.inl ⟨by rfl, ?yy23⟩) hSd ?rr23
  case yy23 => (intro wq hSq; obtain ⟨_, _, _, _, _, _, _, _, _, _, _, _, _, _⟩ := hSq; go_simp <;> with_reducible rfl)
  simp only [Act.put, List.setIfInBounds_toArray, List.set_cons_succ, List.set_cons_zero]
  refine wpAnyF_takeP (i := 26) (oi := _) (v := ?vv24) (some 54) [] rfl rfl (by kernel_rfl) (by kernel_rfl) (by kernel_rfl) (by kernel_rfl) (by kernel_rfl) (fun _ _ _ h => h) (Or.inl ⟨by rfl, ?yy24⟩) hSd ?rr24
  case yy24 => (intro wq hSq; obtain ⟨_, _, _, _, _, _, _, _, _, _, _, _, _, _⟩ := hSq; go_simp <;> with_reducible rfl)
  simp only [Act.put, List.setIfInBounds_toArray, List.set_cons_succ, List.set_cons_zero]
  refine wpAnyF_takeP (i := 27) (oi := _) (v := ?vv25) (some 55) [] rfl rfl (by kernel_rfl) (by kernel_rfl) (by kernel_rfl) (by kernel_rfl) (by kernel_rfl) (fun _ _ _ h => h) (Or.inl ⟨by rfl, ?yy25⟩) hSd ?rr25
  case yy25 => (intro wq hSq; obtain ⟨_, _, _, _, _, _, _, _, _, _, _, _, _, _⟩ := hSq; go_simp <;> with_reducible rfl)
  simp only [Act.put, List.setIfInBounds_toArray, List.set_cons_succ, List.set_cons_zero]
  refine wpAnyF_takeP (i := 28) (oi := _) (v := ?vv26) (some 56) [] rfl rfl (by kernel_rfl) (by kernel_rfl) (by kernel_rfl) (by kernel_rfl) (by kernel_rfl) (fun _ _ _ h => h) (Or.inl ⟨by rfl, ?yy26⟩) hSd ?rr26
  case yy26 => (intro wq hSq; obtain ⟨_, _, _, _, _, _, _, _, _, _, _, _, _, _⟩ := hSq; go_simp <;> with_reducible rfl)
  simp only [Act.put, List.setIfInBounds_toArray, List.set_cons_succ, List.set_cons_zero]
  refine wpAnyF_one (i := 29) (o := _) (by kernel_rfl) rfl (fun K' hK => ?_)
  rw [if_pos (by rfl)]
  go_simp
  refine (begSame _ _ _ (X2.out.below hBV2 (Nat.le_refl _)) (X1.out.below hBV2 (Nat.le_refl _))).mono ?_
  rintro e V3 ⟨rfl, hbvV3⟩
  have hBV3 : Below U.heap.size U V3 := hBV2.trans (hbvV3.mono hBV2.size)
  have hSd := HS.out _ hBV3
  refine hK.out _ _ hSd ?_
  clear hK
  try simp only [Act.put]
  refine wpAnyF_takeP (i := 30) (oi := _) (v := ?vv27) (some 58) [] rfl rfl (by kernel_rfl) (by kernel_rfl) (by kernel_rfl) (by kernel_rfl) (by kernel_rfl) (fun _ _ _ h => h) (Or.inl ⟨by rfl, ?yy27⟩) hSd ?rr27
  case yy27 => (intro wq hSq; obtain ⟨_, _, _, _, _, _, _, _, _, _, _, _, _, _⟩ := hSq; go_simp <;> with_reducible rfl)
  simp only [Act.put, List.setIfInBounds_toArray, List.set_cons_succ, List.set_cons_zero]
  refine wpAnyF_takeP (i := 31) (oi := _) (v := ?vv28) (some 59) [] rfl rfl (by kernel_rfl) (by kernel_rfl) (by kernel_rfl) (by kernel_rfl) (by kernel_rfl) (fun _ _ _ h => h) (Or.inl ⟨by rfl, ?yy28⟩) hSd ?rr28
  case yy28 => (intro wq hSq; obtain ⟨_, _, _, _, _, _, _, _, _, _, _, _, _, _⟩ := hSq; go_simp <;> with_reducible rfl)
  simp only [Act.put, List.setIfInBounds_toArray, List.set_cons_succ, List.set_cons_zero]
  refine wpAnyF_takeP (i := 32) (oi := _) (v := ?vv29) (some 60) [] rfl rfl (by kernel_rfl) (by kernel_rfl) (by kernel_rfl) (by kernel_rfl) (by kernel_rfl) (fun _ _ _ h => h) (Or.inl ⟨by rfl, ?yy29⟩) hSd ?rr29
  case yy29 => (intro wq hSq; obtain ⟨_, _, _, _, _, _, _, _, _, _, _, _, _, _⟩ := hSq; go_simp <;> with_reducible rfl)
  simp only [Act.put, List.setIfInBounds_toArray, List.set_cons_succ, List.set_cons_zero]
  refine wpAnyF_takeP (i := 33) (oi := _) (v := ?vv30) (some 61) [] rfl rfl (by kernel_rfl) (by kernel_rfl) (by kernel_rfl) (by kernel_rfl) (by kernel_rfl) (fun _ _ _ h => h) (Or.inl ⟨by rfl, ?yy30⟩) hSd ?rr30
  case yy30 => (intro wq hSq; obtain ⟨_, _, _, _, _, _, _, _, _, _, _, _, _, _⟩ := hSq; go_simp <;> with_reducible rfl)
  simp only [Act.put, List.setIfInBounds_toArray, List.set_cons_succ, List.set_cons_zero]
  refine wpAnyF_takeP (i := 34) (oi := _) (v := ?vv31) (some 62) [] rfl rfl (by kernel_rfl) (by kernel_rfl) (by kernel_rfl) (by kernel_rfl) (by kernel_rfl) (fun _ _ _ h => h) (Or.inl ⟨by rfl, ?yy31⟩) hSd ?rr31
  case yy31 => (intro wq hSq; obtain ⟨_, _, _, _, _, _, _, _, _, _, _, _, _, _⟩ := hSq; go_simp <;> with_reducible rfl)
  simp only [Act.put, List.setIfInBounds_toArray, List.set_cons_succ, List.set_cons_zero]
  refine wpAnyF_takeP (i := 35) (oi := _) (v := ?vv32) (some 63) [] rfl rfl (by kernel_rfl) (by kernel_rfl) (by kernel_rfl) (by kernel_rfl) (by kernel_rfl) (fun _ _ _ h => h) (Or.inl ⟨by rfl, ?yy32⟩) hSd ?rr32
  case yy32 => (intro wq hSq; obtain ⟨_, _, _, _, _, _, _, _, _, _, _, _, _, _⟩ := hSq; go_simp <;> with_reducible rfl)
  simp only [Act.put, List.setIfInBounds_toArray, List.set_cons_succ, List.set_cons_zero]
  refine wpAnyF_takeP (i := 36) (oi := _) (v := ?vv33) (some 64) [] rfl rfl (by kernel_rfl) (by kernel_rfl) (by kernel_rfl) (by kernel_rfl) (by kernel_rfl) (fun _ _ _ h => h) (Or.inl ⟨by rfl, ?yy33⟩) hSd ?rr33
  case yy33 => (intro wq hSq; obtain ⟨_, _, _, _, _, _, _, _, _, _, _, _, _, _⟩ := hSq; go_simp <;> with_reducible rfl)
  simp only [Act.put, List.setIfInBounds_toArray, List.set_cons_succ, List.set_cons_zero]
  refine wpAnyF_takeP (i := 37) (oi := _) (v := ?vv34) (some 65) [] rfl rfl (by kernel_rfl) (by kernel_rfl) (by kernel_rfl) (by kernel_rfl) (by kernel_rfl) (fun _ _ _ h => h) (Or.inl ⟨by rfl, ?yy34⟩) hSd ?rr34
  case yy34 => (intro wq hSq; obtain ⟨_, _, _, _, _, _, _, _, _, _, _, _, _, _⟩ := hSq; go_simp <;> with_reducible rfl)
  simp only [Act.put, List.setIfInBounds_toArray, List.set_cons_succ, List.set_cons_zero]
  refine wpAnyF_takeP (i := 38) (oi := _) (v := ?vv35) (some 66) [] rfl rfl (by kernel_rfl) (by kernel_rfl) (by kernel_rfl) (by kernel_rfl) (by kernel_rfl) (fun _ _ _ h => h) (Or.inl ⟨by rfl, ?yy35⟩) hSd ?rr35
  case yy35 => (intro wq hSq; obtain ⟨_, _, _, _, _, _, _, _, _, _, _, _, _, _⟩ := hSq; go_simp <;> with_reducible rfl)
  simp only [Act.put, List.setIfInBounds_toArray, List.set_cons_succ, List.set_cons_zero]
  refine wpAnyF_takeP (i := 39) (oi := _) (v := ?vv36) (some 67) [] rfl rfl (by kernel_rfl) (by kernel_rfl) (by kernel_rfl) (by kernel_rfl) (by kernel_rfl) (fun _ _ _ h => h) (Or.inl ⟨by rfl, ?yy36⟩) hSd ?rr36
  case yy36 => (intro wq hSq; obtain ⟨_, _, _, _, _, _, _, _, _, _, _, _, _, _⟩ := hSq; go_simp <;> with_reducible rfl)
  simp only [Act.put, List.setIfInBounds_toArray, List.set_cons_succ, List.set_cons_zero]
  refine wpAnyF_takeP (i := 40) (oi := _) (v := ?vv37) (some 68) [] rfl rfl (by kernel_rfl) (by kernel_rfl) (by kernel_rfl) (by kernel_rfl) (by kernel_rfl) (fun _ _ _ h => h) (Or.inl ⟨by rfl, ?yy37⟩) hSd ?rr37
  case yy37 => (intro wq hSq; obtain ⟨_, _, _, _, _, _, _, _, _, _, _, _, _, _⟩ := hSq; go_simp <;> with_reducible rfl)
  simp only [Act.put, List.setIfInBounds_toArray, List.set_cons_succ, List.set_cons_zero]
  refine wpAnyF_takeP (i := 41) (oi := _) (v := ?vv38) (some 69) [] rfl rfl (by kernel_rfl) (by kernel_rfl) (by kernel_rfl) (by kernel_rfl) (by kernel_rfl) (fun _ _ _ h => h) (Or.inl ⟨by rfl, ?yy38⟩) hSd ?rr38
  case yy38 => (intro wq hSq; obtain ⟨_, _, _, _, _, _, _, _, _, _, _, _, _, _⟩ := hSq; go_simp <;> with_reducible rfl)
  simp only [Act.put, List.setIfInBounds_toArray, List.set_cons_succ, List.set_cons_zero]
  refine wpAnyF_takeP (i := 42) (oi := _) (v := ?vv39) (some 70) [] rfl rfl (by kernel_rfl) (by kernel_rfl) (by kernel_rfl) (by kernel_rfl) (by kernel_rfl) (fun _ _ _ h => h) (Or.inl ⟨by rfl, ?yy39⟩) hSd ?rr39
  case yy39 => (intro wq hSq; obtain ⟨_, _, _, _, _, _, _, _, _, _, _, _, _, _⟩ := hSq; go_simp <;> with_reducible rfl)
  simp only [Act.put, List.setIfInBounds_toArray, List.set_cons_succ, List.set_cons_zero]
  refine wpAnyF_takeP (i := 43) (oi := _) (v := ?vv40) (some 71) [] rfl rfl (by kernel_rfl) (by kernel_rfl) (by kernel_rfl) (by kernel_rfl) (by kernel_rfl) (fun _ _ _ h => h) (Or.inl ⟨by rfl, ?yy40⟩) hSd ?rr40
  case yy40 => (intro wq hSq; obtain ⟨_, _, _, _, _, _, _, _, _, _, _, _, _, _⟩ := hSq; go_simp <;> with_reducible rfl)
  simp only [Act.put, List.setIfInBounds_toArray, List.set_cons_succ, List.set_cons_zero]
  refine wpAnyF_takeP (i := 47) (oi := _) (v := ?vv41) (some 75) [] rfl rfl (by kernel_rfl) (by kernel_rfl) (by kernel_rfl) (by kernel_rfl) (by kernel_rfl) (fun _ _ _ h => h) (Or.inl ⟨by rfl, ?yy41⟩) hSd ?rr41
  case yy41 => (intro wq hSq; obtain ⟨_, _, _, _, _, _, _, _, _, _, _, _, _, _⟩ := hSq; go_simp <;> with_reducible rfl)
  simp only [Act.put, List.setIfInBounds_toArray, List.set_cons_succ, List.set_cons_zero]
  refine wpAnyF_takeP (i := 44) (oi := _) (v := ?vv42) (some 72) [] rfl rfl (by kernel_rfl) (by kernel_rfl) (by kernel_rfl) (by kernel_rfl) (by kernel_rfl) (fun _ _ _ h => h) (Or.inl ⟨by rfl, ?yy42⟩) hSd ?rr42
  case yy42 => (intro wq hSq; obtain ⟨_, _, _, _, _, _, _, _, _, _, _, _, _, _⟩ := hSq; go_simp <;> with_reducible rfl)
  simp only [Act.put, List.setIfInBounds_toArray, List.set_cons_succ, List.set_cons_zero]
  refine wpAnyF_takeP (i := 48) (oi := _) (v := ?vv43) (some 76) [] rfl rfl (by kernel_rfl) (by kernel_rfl) (by kernel_rfl) (by kernel_rfl) (by kernel_rfl) (fun _ _ _ h => h) (Or.inl ⟨by rfl, ?yy43⟩) hSd ?rr43
  case yy43 => (intro wq hSq; obtain ⟨_, _, _, _, _, _, _, _, _, _, _, _, _, _⟩ := hSq; go_simp <;> with_reducible rfl)
  simp only [Act.put, List.setIfInBounds_toArray, List.set_cons_succ, List.set_cons_zero]
  refine wpAnyF_takeP (i := 45) (oi := _) (v := ?vv44) (some 73) [] rfl rfl (by kernel_rfl) (by kernel_rfl) (by kernel_rfl) (by kernel_rfl) (by kernel_rfl) (fun _ _ _ h => h) (Or.inl ⟨by rfl, ?yy44⟩) hSd ?rr44
  case yy44 => (intro wq hSq; obtain ⟨_, _, _, _, _, _, _, _, _, _, _, _, _, _⟩ := hSq; go_simp <;> with_reducible rfl)
  simp only [Act.put, List.setIfInBounds_toArray, List.set_cons_succ, List.set_cons_zero]
  refine wpAnyF_takeP (i := 49) (oi := _) (v := ?vv45) (some 77) [] rfl rfl (by kernel_rfl) (by kernel_rfl) (by kernel_rfl) (by kernel_rfl) (by kernel_rfl) (fun _ _ _ h => h) (Or.inl ⟨by rfl, ?yy45⟩) hSd ?rr45
  case yy45 => (intro wq hSq; obtain ⟨_, _, _, _, _, _, _, _, _, _, _, _, _, _⟩ := hSq; go_simp <;> with_reducible rfl)
  simp only [Act.put, List.setIfInBounds_toArray, List.set_cons_succ, List.set_cons_zero]
  refine wpAnyF_takeP (i := 46) (oi := _) (v := ?vv46) (some 74) [] rfl rfl (by kernel_rfl) (by kernel_rfl) (by kernel_rfl) (by kernel_rfl) (by kernel_rfl) (fun _ _ _ h => h) (Or.inl ⟨by rfl, ?yy46⟩) hSd ?rr46
  case yy46 => (intro wq hSq; obtain ⟨_, _, _, _, _, _, _, _, _, _, _, _, _, _⟩ := hSq; go_simp <;> with_reducible rfl)
  simp only [Act.put, List.setIfInBounds_toArray, List.set_cons_succ, List.set_cons_zero]
  refine wpAnyF_takeP (i := 50) (oi := _) (v := ?vv47) (some 78) [] rfl rfl (by kernel_rfl) (by kernel_rfl) (by kernel_rfl) (by kernel_rfl) (by kernel_rfl) (fun _ _ _ h => h) (Or.inl ⟨by rfl, ?yy47⟩) hSd ?rr47
  case yy47 => (intro wq hSq; obtain ⟨_, _, _, _, _, _, _, _, _, _, _, _, _, _⟩ := hSq; go_simp <;> with_reducible rfl)
  simp only [Act.put, List.setIfInBounds_toArray, List.set_cons_succ, List.set_cons_zero]
  refine wpAnyF_takeP (i := 51) (oi := _) (v := ?vv48) (some 79) [] rfl rfl (by kernel_rfl) (by kernel_rfl) (by kernel_rfl) (by kernel_rfl) (by kernel_rfl) (fun _ _ _ h => h) (Or.inl ⟨by rfl, ?yy48⟩) hSd ?rr48
  case yy48 => (intro wq hSq; obtain ⟨_, _, _, _, _, _, _, _, _, _, _, _, _, _⟩ := hSq; go_simp <;> with_reducible rfl)
  simp only [Act.put, List.setIfInBounds_toArray, List.set_cons_succ, List.set_cons_zero]
  refine wpAnyF_takeP (i := 52) (oi := _) (v := ?vv49) (some 80) [] rfl rfl (by kernel_rfl) (by kernel_rfl) (by kernel_rfl) (by kernel_rfl) (by kernel_rfl) (fun _ _ _ h => h) (Or.inl ⟨by rfl, ?yy49⟩) hSd ?rr49
  case yy49 => (intro wq hSq; obtain ⟨_, _, _, _, _, _, _, _, _, _, _, _, _, _⟩ := hSq; go_simp <;> with_reducible rfl)
  simp only [Act.put, List.setIfInBounds_toArray, List.set_cons_succ, List.set_cons_zero]
  refine wpAnyF_last (o := _) (by kernel_rfl) rfl (fun K' hK => ?_)
  rw [if_pos (by rfl)]
  go_simp
  refine hK.out _ _ ?_
  clear hK
  refine wpAnyF_done (by kernel_rfl) ?_ _
  try simp only [Act.put]
  go_wp2
  go_ret
  exact ⟨rfl, HBW.out.trans (hBV3.mono HBW.out.size)⟩
end Go.Proofs.Ytolcndchfnifhac

namespace Go.Proofs.Ytolcndchfnifhac
set_option linter.unusedVariables false
structure Win (top HA HB lo hi : Nat) : Prop where
  low : top ≤ lo
  high : hi ≤ top + HA
  all : top + HA ≤ HB
  zero : lo = 0 → top = 0
def shrL (lo r : Nat) : Nat := if lo = 0 then 0 else lo + r
def shrH (HB hi r : Nat) : Nat := if hi = HB then HB else hi - r
theorem Win.shr {top HA HB lo hi : Nat} (h : Win top HA HB lo hi) (r : Nat) : Win top HA HB (shrL lo r) (shrH HB hi r) := by
  obtain ⟨h1, h2, h3, h4⟩ := h
  refine ⟨?_, ?_, h3, ?_⟩
  · unfold shrL; split <;> omega
  · unfold shrH; split <;> omega
  · unfold shrL; split <;> omega
def AgZ (W top lo hi : Nat) (za zb : List Int) : Prop := ∀ y x, lo ≤ y → y < hi → x < W → zAt za ((y - top) * W + x) = zAt zb (y * W + x)
def AgP (W top lo hi : Nat) (pa pb : List Px) : Prop := ∀ y x, lo ≤ y → y < hi → x < W → pxAt pa ((y - top) * W + x) = pxAt pb (y * W + x)
theorem ix_mod {W y x : Nat} (hx : x < W) : (y * W + x) % W = x := by rw [Nat.add_comm, Nat.add_mul_mod_self_right, Nat.mod_eq_of_lt hx]
theorem ix_div {W y x : Nat} (hx : x < W) : (y * W + x) / W = y := by
  rw [Nat.add_comm, Nat.add_mul_div_right _ _ (by omega), Nat.div_eq_of_lt hx, Nat.zero_add]
theorem ix_lt {W H y x : Nat} (hy : y < H) (hx : x < W) : y * W + x < H * W := by
  have h := Nat.mul_le_mul_right W (show y + 1 ≤ H from hy)
  rw [Nat.add_mul, Nat.one_mul] at h
  omega
theorem zAt_mapR (f : Nat → Int) {n j : Nat} (h : j < n) : zAt ((List.range n).map f) j = f j := by
  unfold zAt
  rw [List.getD_eq_getElem?_getD, List.getElem?_map, List.getElem?_range h]
  rfl
theorem pxAt_mapR (f : Nat → Px) {n j : Nat} (h : j < n) : pxAt ((List.range n).map f) j = f j := by
  unfold pxAt
  rw [List.getD_eq_getElem?_getD, List.getElem?_map, List.getElem?_range h]
  rfl
theorem pxAt_map (f : Px → Px) {ps : List Px} {j : Nat} (h : j < ps.length) : pxAt (ps.map f) j = f (pxAt ps j) := by
  unfold pxAt
  rw [List.getD_eq_getElem?_getD, List.getD_eq_getElem?_getD, List.getElem?_map, List.getElem?_eq_getElem h]
  rfl
theorem mean_congr {N : Nat} {za zb : List Int} {W HA HB : Nat} {pa qa pb qb : Fin N → Int} {ca cb : Fin N → Bool}
    (h1 : ∀ x, (hasB W HA (pa x) (qa x) = true ∧ ca x = true) ↔ (hasB W HB (pb x) (qb x) = true ∧ cb x = true))
    (h2 : ∀ x, hasB W HB (pb x) (qb x) = true → cb x = true → zAt za ((qa x).toNat * W + (pa x).toNat) = zAt zb ((qb x).toNat * W + (pb x).toNat)) :
    meanV za W HA pa qa ca = meanV zb W HB pb qb cb := by
  have hs : mStep za W HA pa qa ca = mStep zb W HB pb qb cb := by
    funext s x
    unfold mStep
    by_cases hc : hasB W HB (pb x) (qb x) = true ∧ cb x = true
    · rw [if_pos ((h1 x).2 hc), if_pos hc, h2 x hc.1 hc.2]
    · rw [if_neg (fun h => hc ((h1 x).1 h)), if_neg hc]
  unfold meanV mF
  rw [hs]
section
variable {W top HA HB lo hi : Nat}
theorem AgZ.map {za zb : List Int} {fa fb : Nat → Int} {lo' hi' : Nat} (hw : Win top HA HB lo' hi') (ha : za.length = HA * W) (hb : zb.length = HB * W)
    (h : ∀ y x, lo' ≤ y → y < hi' → x < W → fa ((y - top) * W + x) = fb (y * W + x)) : AgZ W top lo' hi' ((List.range za.length).map fa) ((List.range zb.length).map fb) := by
  intro y x h1 h2 hx
  have := hw.low; have := hw.high; have := hw.all
  rw [zAt_mapR _ (by rw [ha]; exact ix_lt (by omega) hx), zAt_mapR _ (by rw [hb]; exact ix_lt (by omega) hx)]
  exact h y x h1 h2 hx
theorem AgP.map {na nb : Nat} {fa fb : Nat → Px} {lo' hi' : Nat} (hw : Win top HA HB lo' hi') (ha : na = HA * W) (hb : nb = HB * W)
    (h : ∀ y x, lo' ≤ y → y < hi' → x < W → fa ((y - top) * W + x) = fb (y * W + x)) : AgP W top lo' hi' ((List.range na).map fa) ((List.range nb).map fb) := by
  intro y x h1 h2 hx
  have := hw.low; have := hw.high; have := hw.all
  rw [pxAt_mapR _ (by rw [ha]; exact ix_lt (by omega) hx), pxAt_mapR _ (by rw [hb]; exact ix_lt (by omega) hx)]
  exact h y x h1 h2 hx
theorem lev_local {za zb : List Int} {ma mb : Nat → Int} {white : Int} (hw : Win top HA HB lo hi) (ha : za.length = HA * W) (hb : zb.length = HB * W) (hz : AgZ W top lo hi za zb)
    (hm : ∀ y x, top ≤ y → ma ((y - top) % 2 * 2 + x % 2) = mb (y % 2 * 2 + x % 2)) : AgZ W top lo hi (levL W za ma white) (levL W zb mb white) := by
  refine AgZ.map hw ha hb fun y x h1 h2 hx => ?_
  have h3 := hz y x h1 h2 hx
  have h4 := hm y x (Nat.le_trans hw.low h1)
  simp only [levelV, Int.toNat_natCast, ix_mod hx, ix_div hx, h3, h4]
theorem gai_local {za zb : List Int} {pa pb : Int} {m : Nat → Int} (hw : Win top HA HB lo hi) (ha : za.length = HA * W) (hb : zb.length = HB * W) (hz : AgZ W top lo hi za zb)
    (hm : ∀ y x, top ≤ y → colV pa.toNat x (y - top) = colV pb.toNat x y) : AgZ W top lo hi (gaiL W za pa m) (gaiL W zb pb m) := by
  refine AgZ.map hw ha hb fun y x h1 h2 hx => ?_
  have h3 := hz y x h1 h2 hx
  have h4 := hm y x (Nat.le_trans hw.low h1)
  simp only [gainV, Int.toNat_natCast, ix_mod hx, ix_div hx, h3, h4]
theorem rows_near {y r : Nat} {d : Int} (hw : Win top HA HB lo hi) (h1 : shrL lo r ≤ y) (h2 : y < shrH HB hi r) (hd1 : -(r : Int) ≤ d) (hd2 : d ≤ r) :
    (0 ≤ ((y - top : Nat) : Int) + d ∧ ((y - top : Nat) : Int) + d < HA ↔ 0 ≤ (y : Int) + d ∧ (y : Int) + d < HB) ∧ (0 ≤ (y : Int) + d ∧ (y : Int) + d < HB → lo ≤ ((y : Int) + d).toNat ∧ ((y : Int) + d).toNat < hi ∧ (((y - top : Nat) : Int) + d).toNat = ((y : Int) + d).toNat - top) := by
  obtain ⟨h3, h4, h5, h6⟩ := hw
  have ht : top ≤ y := by
    unfold shrL at h1
    split at h1 <;> omega
  have hlo : lo = 0 ∨ lo + r ≤ y := by
    unfold shrL at h1
    split at h1
    · exact .inl ‹_›
    · exact .inr h1
  have hhi : (hi = HB ∧ y < HB) ∨ y + r < hi := by
    unfold shrH at h2
    split at h2
    · exact .inl ⟨‹_›, h2⟩
    · exact .inr (by omega)
  rcases hlo with hlo | hlo <;> rcases hhi with hhi | hhi
  · have := h6 hlo; omega
  · have := h6 hlo; omega
  · omega
  · omega
theorem rep_local {za zb : List Int} {la lb : List Pt} (hw : Win top HA HB lo hi) (ha : za.length = HA * W) (hb : zb.length = HB * W) (hz : AgZ W top lo hi za zb)
    (hm : ∀ (y : Nat) (x : Int), top ≤ y → y < top + HA → goodB la (x, ((y - top : Nat) : Int)) = goodB lb (x, (y : Int))) : AgZ W top (shrL lo 2) (shrH HB hi 2) (repL W HA za la) (repL W HB zb lb) := by
  refine AgZ.map (hw.shr 2) ha hb fun y x h1 h2 hx => ?_
  have hw2 := hw.shr 2
  have hty : top ≤ y := Nat.le_trans hw2.low h1
  have hyt : y < top + HA := Nat.lt_of_lt_of_le h2 hw2.high
  have h3 := hz y x (by unfold shrL at h1; split at h1 <;> omega) (by have := hw.high; have := hw.all; unfold shrH at h2; split at h2 <;> omega) hx
  have h4 := hm y x hty hyt
  simp only [repV, Int.toNat_natCast, ix_mod hx, ix_div hx, h3, h4]
  refine congrArg (fun u => if goodB lb ((x : Int), (y : Int)) = true then zAt zb (y * W + x) else u) ?_
  have key : ∀ k : Fin 4, (0 ≤ crY (y - top) k ∧ crY (y - top) k < HA ↔ 0 ≤ crY y k ∧ crY y k < HB) ∧ (0 ≤ crY y k ∧ crY y k < HB → lo ≤ (crY y k).toNat ∧ (crY y k).toNat < hi ∧ (crY (y - top) k).toNat = (crY y k).toNat - top) := fun k =>
    rows_near (d := crDy k.1) hw h1 h2 (by unfold crDy; (repeat' split) <;> omega) (by unfold crDy; (repeat' split) <;> omega)
  refine mean_congr (fun k => ?_) (fun k hk hc => ?_)
  · obtain ⟨k1, k2⟩ := key k
    have hh : hasB W HA (crX x k) (crY (y - top) k) = true ↔ hasB W HB (crX x k) (crY y k) = true := by
      simp only [hasB, decide_eq_true_eq]
      constructor
      · intro h; have := k1.1 ⟨h.2.2.1, h.2.2.2⟩; exact ⟨h.1, h.2.1, this.1, this.2⟩
      · intro h; have := k1.2 ⟨h.2.2.1, h.2.2.2⟩; exact ⟨h.1, h.2.1, this.1, this.2⟩
    have hcc : hasB W HB (crX x k) (crY y k) = true → repC la x (y - top) k = repC lb x y k := fun h => by
      simp only [hasB, decide_eq_true_eq] at h
      have k3 := k2 ⟨h.2.2.1, h.2.2.2⟩
      have hA := k1.2 ⟨h.2.2.1, h.2.2.2⟩
      have := hm (crY y k).toNat (crX x k) (by have := hw.low; omega) (by have := hw.high; omega)
      rw [← k3.2.2, Int.toNat_of_nonneg hA.1, Int.toNat_of_nonneg h.2.2.1] at this
      exact this
    constructor
    · intro h; have h1 := hh.1 h.1; exact ⟨h1, by rw [← hcc h1]; exact h.2⟩
    · intro h; exact ⟨hh.2 h.1, by rw [hcc h.1]; exact h.2⟩
  · simp only [hasB, decide_eq_true_eq] at hk
    have k3 := (key k).2 ⟨hk.2.2.1, hk.2.2.2⟩
    rw [k3.2.2]
    exact hz _ _ k3.1 k3.2.1 (by omega)
theorem nOf_div {k : Nat} (h : k < 8) : nOf k / 3 ≤ 2 := by unfold nOf; split <;> omega
theorem fill_local {za zb : List Int} {pa pb : Int} (hw : Win top HA HB lo hi) (ha : za.length = HA * W) (hb : zb.length = HB * W) (hz : AgZ W top lo hi za zb)
    (hm : ∀ y x, top ≤ y → colV pa.toNat x (y - top) = colV pb.toNat x y) : AgP W top (shrL lo 1) (shrH HB hi 1) (fillL W HA za pa) (fillL W HB zb pb) := by
  refine AgP.map (hw.shr 1) ha hb fun y x h1 h2 hx => ?_
  have hw2 := hw.shr 1
  have hty : top ≤ y := Nat.le_trans hw2.low h1
  have h3 := hz y x (by unfold shrL at h1; split at h1 <;> omega) (by have := hw.high; have := hw.all; unfold shrH at h2; split at h2 <;> omega) hx
  have h4 := hm y x hty
  have key : ∀ k : Fin 8, (0 ≤ parY (y - top) k ∧ parY (y - top) k < HA ↔ 0 ≤ parY y k ∧ parY y k < HB) ∧ (0 ≤ parY y k ∧ parY y k < HB → lo ≤ (parY y k).toNat ∧ (parY y k).toNat < hi ∧ (parY (y - top) k).toNat = (parY y k).toNat - top) := fun k => by
    have h := rows_near (d := -1 + (nOf k.1 / 3 : Nat)) hw h1 h2 (by omega) (by have := nOf_div k.2; omega)
    have e1 : parY (y - top) k = ((y - top : Nat) : Int) + (-1 + (nOf k.1 / 3 : Nat)) := by unfold parY; omega
    have e2 : parY y k = (y : Int) + (-1 + (nOf k.1 / 3 : Nat)) := by unfold parY; omega
    rw [e1, e2]
    exact h
  have part : ∀ c, partV za W HA pa.toNat x (y - top) c = partV zb W HB pb.toNat x y c := fun c => by
    unfold partV
    rw [h3, h4]
    refine congrArg (fun u => if colV pb.toNat x y = c then zAt zb (y * W + x) else u) ?_
    refine mean_congr (fun k => ?_) (fun k hk hc => ?_)
    · obtain ⟨k1, k2⟩ := key k
      have hh : hasB W HA (parX x k) (parY (y - top) k) = true ↔ hasB W HB (parX x k) (parY y k) = true := by
        simp only [hasB, decide_eq_true_eq]
        constructor
        · intro h; have := k1.1 ⟨h.2.2.1, h.2.2.2⟩; exact ⟨h.1, h.2.1, this.1, this.2⟩
        · intro h; have := k1.2 ⟨h.2.2.1, h.2.2.2⟩; exact ⟨h.1, h.2.1, this.1, this.2⟩
      have hcc : hasB W HB (parX x k) (parY y k) = true → parC pa.toNat x (y - top) c k = parC pb.toNat x y c k := fun h => by
        simp only [hasB, decide_eq_true_eq] at h
        have k3 := k2 ⟨h.2.2.1, h.2.2.2⟩
        have := hm (parY y k).toNat (parX x k).toNat (by have := hw.low; omega)
        unfold parC
        rw [k3.2.2, this]
      constructor
      · intro h; have h1 := hh.1 h.1; exact ⟨h1, by rw [← hcc h1]; exact h.2⟩
      · intro h; exact ⟨hh.2 h.1, by rw [hcc h.1]; exact h.2⟩
    · simp only [hasB, decide_eq_true_eq] at hk
      have k3 := (key k).2 ⟨hk.2.2.1, hk.2.2.2⟩
      rw [k3.2.2]
      exact hz _ _ k3.1 k3.2.1 (by omega)
  simp only [fillP, Int.toNat_natCast, ix_mod hx, ix_div hx, part]
theorem each_local {pa pb : List Px} {f : Px → Px} (hw : Win top HA HB lo hi) (ha : pa.length = HA * W) (hb : pb.length = HB * W) (hz : AgP W top lo hi pa pb) : AgP W top lo hi (pa.map f) (pb.map f) := by
  intro y x h1 h2 hx
  have := hw.low; have := hw.high; have := hw.all
  rw [pxAt_map _ (by rw [ha]; exact ix_lt (by omega) hx), pxAt_map _ (by rw [hb]; exact ix_lt (by omega) hx), hz y x h1 h2 hx]
theorem near_lt {W : Nat} {x : Int} (h : 1 ≤ W) : (near W x).toNat < W := by unfold near; (repeat' split) <;> omega
theorem sharp_local {pa pb : List Px} {amount : Int} (hw : Win top HA HB lo hi) (ha : pa.length = HA * W) (hb : pb.length = HB * W) (hz : AgP W top lo hi pa pb) :
    AgP W top (shrL lo 1) (shrH HB hi 1) (sharpL W HA pa amount) (sharpL W HB pb amount) := by
  refine AgP.map (hw.shr 1) ha hb fun y x h1 h2 hx => ?_
  have hw2 := hw.shr 1
  have hty : top ≤ y := Nat.le_trans hw2.low h1
  have h3 := hz y x (by unfold shrL at h1; split at h1 <;> omega) (by have := hw.high; have := hw.all; unfold shrH at h2; split at h2 <;> omega) hx
  have key : ∀ k : Fin 8, pxAt pa (wIx W HA x (y - top) k.1) = pxAt pb (wIx W HB x y k.1) := fun k => by
    unfold wIx
    have hk := nOf_div k.2
    generalize nOf k.1 / 3 = q at hk
    have hx2 := near_lt (x := (x : Int) - 1 + (nOf k.1 % 3 : Nat)) (show 1 ≤ W by omega)
    generalize (near W ((x : Int) - 1 + (nOf k.1 % 3 : Nat))).toNat = xx at hx2
    have hyB : ∃ yy : Nat, (near HB ((y : Int) - 1 + (q : Nat))).toNat = yy ∧ (near HA (((y - top : Nat) : Int) - 1 + (q : Nat))).toNat = yy - top ∧ lo ≤ yy ∧ yy < hi := by
      refine ⟨_, rfl, ?_⟩
      obtain ⟨h5, h6, h7, h8⟩ := hw
      have hlo : (lo = 0 ∧ top = 0) ∨ (lo + 1 ≤ y ∧ 0 < lo) := by
        unfold shrL at h1
        split at h1
        · exact .inl ⟨‹_›, h8 ‹_›⟩
        · exact .inr ⟨h1, by omega⟩
      have hhi : (hi = HB ∧ y < HB ∧ top + HA = HB) ∨ (y + 1 < hi ∧ hi < HB) ∨ (y + 1 < hi ∧ hi = HB) := by
        unfold shrH at h2
        split at h2
        · exact .inl ⟨‹_›, h2, by omega⟩
        · exact .inr (.inl ⟨by omega, by omega⟩)
      unfold near
      rcases hlo with hlo | hlo <;> rcases hhi with hhi | hhi | hhi <;> (repeat' split) <;> omega
    obtain ⟨yy, e1, e2, e3, e4⟩ := hyB
    rw [e1, e2]
    exact hz yy xx e3 e4 hx2
  have hF : wF pa W HA x (y - top) (List.finRange 8) = wF pb W HB x y (List.finRange 8) := by
    unfold wF
    rw [h3]
    refine congrArg (fun g => (List.finRange 8).foldl g (addP (0, 0, 0) 4 (pxAt pb (y * W + x)))) ?_
    funext s k
    rw [key k]
  simp only [sharpP, Int.toNat_natCast, ix_mod hx, ix_div hx, hF, h3]
end
structure Seen (top HA : Nat) (na nb : Plan) : Prop where
  black : ∀ y x, top ≤ y → na.black ((y - top) % 2 * 2 + x % 2) = nb.black (y % 2 * 2 + x % 2)
  phase : ∀ y x, top ≤ y → colV na.phase.toNat x (y - top) = colV nb.phase.toNat x y
  spots : ∀ (y : Nat) (x : Int), top ≤ y → y < top + HA → goodB na.spots (x, ((y - top : Nat) : Int)) = goodB nb.spots (x, (y : Int))
  white : na.white = nb.white
  gains : na.gains = nb.gains
  matrix : na.matrix = nb.matrix
  curve : na.curve = nb.curve
  amount : na.amount = nb.amount
theorem seen_self (n : Plan) (H : Nat) : Seen 0 H n n := ⟨fun _ _ _ => rfl, fun _ _ _ => rfl, fun _ _ _ _ => rfl, rfl, rfl, rfl, rfl, rfl⟩
theorem dev_local {na nb : Plan} {W top HA HB lo hi : Nat} {za zb : List Int} (hn : Seen top HA na nb) (hw : Win top HA HB lo hi) (ha : za.length = HA * W) (hb : zb.length = HB * W) (hz : AgZ W top lo hi za zb) :
    AgP W top (shrL lo 4) (shrH HB hi 4) (dev7 na W HA za) (dev7 nb W HB zb) := by
  have g1 : AgZ W top lo hi (dev1 na W za) (dev1 nb W zb) := by
    unfold dev1; rw [hn.white]; exact lev_local hw ha hb hz hn.black
  have g2 : AgZ W top (shrL lo 2) (shrH HB hi 2) (dev2 na W HA za) (dev2 nb W HB zb) :=
    rep_local hw (by rw [dev1_length, ha]) (by rw [dev1_length, hb]) g1 hn.spots
  have g3 : AgZ W top (shrL lo 2) (shrH HB hi 2) (dev3 na W HA za) (dev3 nb W HB zb) := by
    unfold dev3; rw [hn.gains]; exact gai_local (hw.shr 2) (by rw [dev2_length, ha]) (by rw [dev2_length, hb]) g2 hn.phase
  have g4 := fill_local (hw.shr 2) (by rw [dev3_length, ha]) (by rw [dev3_length, hb]) g3 hn.phase
  have g5 : AgP W top (shrL (shrL lo 2) 1) (shrH HB (shrH HB hi 2) 1) (dev5 na W HA za) (dev5 nb W HB zb) := by
    unfold dev5; rw [hn.matrix]; exact each_local ((hw.shr 2).shr 1) (by rw [dev4_length, ha]) (by rw [dev4_length, hb]) g4
  have g6 : AgP W top (shrL (shrL lo 2) 1) (shrH HB (shrH HB hi 2) 1) (dev6 na W HA za) (dev6 nb W HB zb) := by
    unfold dev6; rw [hn.curve]; exact each_local ((hw.shr 2).shr 1) (by rw [dev5_length, ha]) (by rw [dev5_length, hb]) g5
  have g7 : AgP W top (shrL (shrL (shrL lo 2) 1) 1) (shrH HB (shrH HB (shrH HB hi 2) 1) 1) (dev7 na W HA za) (dev7 nb W HB zb) := by
    unfold dev7; rw [hn.amount]; exact sharp_local ((hw.shr 2).shr 1) (by rw [dev6_length, ha]) (by rw [dev6_length, hb]) g6
  intro y x h1 h2 hx
  refine g7 y x ?_ ?_ hx
  · unfold shrL at h1 ⊢
    split at h1 <;> (repeat' split) <;> omega
  · unfold shrH at h2 ⊢
    split at h2 <;> (repeat' split) <;> omega
end Go.Proofs.Ytolcndchfnifhac

namespace Go.Proofs.Ytolcndchfnifhac
set_option linter.unusedVariables false
theorem set_at (zs : List Int) (i j : Nat) (u : Int) (h : j ≠ i) : zAt (zs.set i u) j = zAt zs j := by
  unfold zAt
  rw [List.getD_eq_getElem?_getD, List.getD_eq_getElem?_getD, List.getElem?_set_ne (Ne.symm h)]
theorem far_same {n : Plan} {W H : Nat} {zs : List Int} {i k : Nat} {u : Int} (hW : 1 ≤ W) (hl : zs.length = H * W) (hi : i < zs.length) (hk : k < zs.length) (hf : i / W + 4 < k / W ∨ k / W + 4 < i / W) :
    pxAt (dev7 n W H zs) k = pxAt (dev7 n W H (zs.set i u)) k := by
  have hl2 : (zs.set i u).length = H * W := by rw [List.length_set, hl]
  have hq : ∀ j, j < zs.length → j / W < H := fun j hj => Nat.div_lt_of_lt_mul (by rw [Nat.mul_comm, ← hl]; exact hj)
  have hi2 := hq i hi
  have hk2 := hq k hk
  have hkk : k / W * W + k % W = k := by rw [Nat.mul_comm]; exact Nat.div_add_mod k W
  have hm := Nat.mod_lt k (show 0 < W by omega)
  have hne : ∀ y x, x < W → y ≠ i / W → y * W + x ≠ i := fun y x hx hy e => hy (by rw [← e, ix_div hx])
  clear hq
  generalize i / W = qi at *
  generalize k / W = qk at *
  generalize k % W = rk at *
  rcases hf with hf | hf
  · have hw : Win 0 H H (qi + 1) H := ⟨by omega, by omega, by omega, fun h => by omega⟩
    have g := dev_local (seen_self n H) hw hl hl2 (fun y x h1 h2 hx => by
      rw [Nat.sub_zero]; exact (set_at zs i _ u (hne y x hx (by omega))).symm)
    have h := g qk rk (by unfold shrL; split <;> omega) (by unfold shrH; split <;> omega) hm
    rw [Nat.sub_zero, hkk] at h
    exact h
  · have hw : Win 0 H H 0 qi := ⟨by omega, by omega, by omega, fun h => rfl⟩
    have g := dev_local (seen_self n H) hw hl hl2 (fun y x h1 h2 hx => by
      rw [Nat.sub_zero]; exact (set_at zs i _ u (hne y x hx (by omega))).symm)
    have h := g qk rk (by unfold shrL; split <;> omega) (by unfold shrH; split <;> omega) hm
    rw [Nat.sub_zero, hkk] at h
    exact h
theorem set_fits {n : Plan} {W H : Int} {zs : List Int} {i : Nat} {u : Int} (h : fitsE n W H zs H = 0) (h0 : 0 ≤ u) (h1 : u ≤ 65535) : fitsE n W H (zs.set i u) H = 0 := by
  obtain ⟨e1, e2, e3⟩ := fitsE_zero h
  have hp : planeOk W H (zs.set i u) = true := by
    rw [planeOk_eq, Bool.and_eq_true] at e2 ⊢
    refine ⟨by rw [List.length_set]; exact e2.1, allIn_of fun x hx => ?_⟩
    rcases List.mem_or_eq_of_mem_set hx with h | h
    · exact of_decide_eq_true (List.all_eq_true.1 e2.2 x h)
    · rw [h]; exact ⟨h0, h1⟩
  rw [fitsE, if_pos e1, if_pos hp, if_pos e3]
end Go.Proofs.Ytolcndchfnifhac

namespace Go.Proofs.Ytolcndchfnifhac
open Go.RowKit
theorem wf_int {c : Int} (h : (Lit.int .i64 c).wf = true) : -9223372036854775808 ≤ c ∧ c ≤ 9223372036854775807 := by
  have h1 : IntKind.i64.min = -9223372036854775808 := by decide
  have h2 : IntKind.i64.max = 9223372036854775807 := by decide
  simp [Lit.wf] at h
  omega
theorem choose_any (c : Int) (n : Nat) (h0 : -9223372036854775808 ≤ c) (h1 : c ≤ 9223372036854775807) (hn : 1 ≤ n) (hn2 : n ≤ 9223372036854775807) (w : World) :
    Calls Try.prog 6 #[.int .i64 c, .int .i64 n] w fun e w' => (∃ j : Nat, j < n ∧ e = .returned (.int .i64 j)) ∧ w = w' := by
  have hmod : ∀ d : Int, 0 ≤ d → ∃ j : Nat, j < n ∧ d % (n : Int) = (j : Int) := by
    intro d hd
    have h2 := Int.emod_lt_of_pos d (show (0 : Int) < n by omega)
    have h3 := Int.emod_nonneg d (show (n : Int) ≠ 0 by omega)
    exact ⟨(d % (n : Int)).toNat, by omega, by omega⟩
  have HM := hide hmod; clear hmod
  by_cases hc : c < 0
  · have hd : decide (c < 0) = true := by simpa using hc
    obtain ⟨j, hj, he⟩ := HM.out (-(c + 1)) (by omega)
    have HE := hide (show -((c + 1).tmod (n : Int)) = (j : Int) by rw [← Int.neg_tmod, Int.tmod_eq_emod_of_nonneg (by omega), he])
    clear he
    go_enter Try.func6, Try.ntmps6
    go_wp2
    go_ret
    exact ⟨⟨j, hj, by rw [← HE.out]; rfl⟩, rfl⟩
  · have hd : decide (c < 0) = false := by simpa using hc
    obtain ⟨j, hj, he⟩ := HM.out c (by omega)
    have HE := hide he
    clear he
    go_enter Try.func6, Try.ntmps6
    go_wp2
    go_ret
    exact ⟨⟨j, hj, by rw [← HE.out]; rfl⟩, rfl⟩
end Go.Proofs.Ytolcndchfnifhac
