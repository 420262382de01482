/- Line: part 8 of what the proofs need. -/
import Derived.Test.YtolcndchfnifhabC1Line
import Derived.Test.YtolcndchfnifhabC2Line
import Derived.Test.YtolcndchfnifhabC3Line
import Derived.Test.YtolcndchfnifhabC4Line
import Derived.Test.YtolcndchfnifhabC7Line
namespace Go.Proofs.Ytolcndchfnifhab
set_option linter.unusedVariables false
open Go.RowKit
def tallX (k : Nat) : Int := (k : Int) * 1000 % 7919
def TaJ (w : World) (k : Nat) (wr : World) : Prop :=
  ∃ (so : Option Addr) (cap : Nat), wr.heap[w.heap.size + 1]? = some (.cells #[.int .i64 2, .int .i64 12, .slice so k cap] 24 (0, 0)) ∧ wr.ownsRow w.heap.size 3 1 (.slice so k cap) k (((List.range k).map tallX).map (.int .i64 ·)) ∧
    wr.heap[w.heap.size]? = some (.cells #[.int .i64 0, .int .i64 0, .slice none 0 0] 24 (0, 0)) ∧ Below w.heap.size w wr
set_option maxRecDepth 100000 in
set_option maxHeartbeats 3200000 in
theorem tall_any (w : World) : Calls Try.prog 94 #[] w fun e w' => ∃ r, e = .returned (.agg #[.int .i64 2, .int .i64 12, r]) ∧ IsInts w' r tallL ∧ Below w.heap.size w w' ∧ Fresh w.heap.size r := by
  obtain ⟨i0, hi, hz0, hz1, hz2⟩ := info_parts Try.infoInt
  obtain ⟨a1, a2⟩ := al2 w (Obj.cells #[.int .i64 0, .int .i64 0, .slice none 0 0] 24) (Obj.cells #[.int .i64 2, .int .i64 12, .slice none 0 0] 24)
  have HJ0 := hide (show TaJ w 0 _ from ⟨none, 0, a2, ⟨rfl, .inl ⟨rfl, rfl⟩⟩, a1, be2 w _ _⟩)
  clear a1 a2
  go_enter Try.func94, Try.ntmps94
  go_wp2_with fail
  go_loopw [2] (fun i wr => ∃ k : Nat, k ≤ 24 ∧ i = .int .i64 k ∧ TaJ w k wr) (fun i _ => 24 - (intOf i).toNat)
  case atStart => exact ⟨0, by omega, rfl, HJ0.out⟩
  case round =>
    clear HJ0
    obtain ⟨k, hk, rfl, hJ⟩ := hrel
    have HJ := hide hJ
    obtain ⟨so, cap, j1, j2, j3, j4⟩ := hJ
    obtain ⟨q0, q1, q2⟩ := cells3 j1
    by_cases hlt : k < 24
    · have hd : decide ((k : Int) < 24) = true := by simp; omega
      have hm : IntKind.i64.wrap ((k : Int) * 1000) = (k : Int) * 1000 := IntWalk.i64_in _ (by omega)
      have hx : ((k : Int) * 1000).tmod 7919 = tallX k := by rw [Int.tmod_eq_emod_of_nonneg (by omega)]; rfl
      have hxr : 0 ≤ tallX k ∧ tallX k < 7919 := by unfold tallX; omega
      generalize hX : tallX k = X at *
      have HX := hide hX
      clear hX
      have hwx : IntKind.i64.wrap X = X := IntWalk.i64_in _ (by omega)
      have hb := bel_alloc wr (Obj.cells #[.int .i64 X] 3)
      obtain ⟨p0, p1, p2⟩ := cells3 ((hb.block _ (Array.getElem?_eq_some_iff.1 j1).1).trans j1)
      have HO := hide (j2.alloc (Obj.cells #[.int .i64 X] 3))
      have hnb := al1 wr (Obj.cells #[.int .i64 X] 3)
      go_wp2_with (at_builtin; refine wpList_append_own _ rfl _ _ 22 rfl w.heap.size 3 i0 (.int .i64 0) 1 8 Try.underlying22 hi hz0 hz1 hz2 rfl (by decide) _ _ _ rfl HO.out ⟨wr.heap.size, 0, none⟩ 1 1 [.int .i64 X] rfl ?qc1 ?qc2 ?qc3 ?qc4 ?qc5 ?qc6 ?_)
      case qc1 => rfl
      case qc2 => exact World.news_of_block hnb
      case qc3 => exact fun u hu => by simp at hu; subst hu; rfl
      case qc4 => unfold maxLen; omega
      case qc5 => omega
      case qc6 => exact Nat.le_trans j4.size hb.size
      intro v' w1 hown hgrow hnil
      rcases id hown.2 with ⟨_, hn0⟩ | ⟨g, cp, cur, rfl, _⟩
      · exfalso; omega
      obtain ⟨_, c2, fz, g1, g2, g3, g4⟩ := app_gen (by decide) j1 j2 j4 (Nat.le_refl _) (show w.heap.size ≤ w.heap.size + 1 by omega) hb hgrow hown
      have HJ3 := hide (show TaJ w (k + 1) _ from ⟨some ⟨g, 0, none⟩, cp, g1, by rw [List.range_succ, List.map_append, List.map_append, List.map_cons, List.map_nil, HX.out, List.map_map]; exact g2, (g4 _ (Array.getElem?_eq_some_iff.1 j3).1 (own_ne j2 j3 (by decide)) (by omega)).trans j3, g3⟩)
      clear g1 g2 g3 g4 j1 j2 j3 j4 hown hgrow hnil q0 q1 q2 p0 p1 p2
      go_wp2
      go_roundw
      case rel => exact ⟨k + 1, by omega, by go_num, HJ3.out⟩
      case measure => simp [intOf]; omega
    · have hd : decide ((k : Int) < 24) = false := by simp; omega
      obtain rfl : k = 24 := by omega
      obtain ⟨z0, z1, z2⟩ := cells3 j3
      have f0 := Lib.frozen_of_heap j3 0
      have f1 := Lib.frozen_of_heap j3 1
      have f2 := Lib.frozen_of_heap j3 2
      have hne : (Value.slice so 24 cap).ownBlock ≠ some w.heap.size := fun e => own_ne j2 j3 (by decide) e.symm
      have HI := hide ((IsInts.own j2 (by decide)).other (set3_size wr w.heap.size (.int .i64 2) (.int .i64 12) (.slice so 24 cap)) (fun b hb => set3_heap _ _ _ _ _ b hb) hne)
      have HF := hide (set3_below j4 (Nat.le_refl _) (.int .i64 2) (.int .i64 12) (.slice so 24 cap))
      have HFR := hide (Fresh.own j2)
      clear j2 hne
      go_wp2
      refine bodyPost_ret (v := .agg #[.int .i64 2, .int .i64 12, .slice so 24 cap]) (by simp [results, Try.results94, go_sem, z0, z1, z2]) rfl ⟨_, rfl, HI.out, HF.out, HFR.out⟩
end Go.Proofs.Ytolcndchfnifhab

namespace Go.Proofs.Ytolcndchfnifhab
set_option linter.unusedVariables false
open Go.RowKit
def tallQ : List Px := dev7 plainN 2 12 tallL
theorem tallQ_length : tallQ.length = 24 := by unfold tallQ; rw [dev7_length]; rfl
theorem tall_len : tallL.length = 24 := rfl
theorem begWhole (u : World) (cv v : Value) (hp : IsPlan u plainN (.slice none 0 0) cv) (hv : IsInts u v tallL) : Calls Try.prog 42 #[.agg (plainA cv), .agg #[.int .i64 2, .int .i64 12, v]] u fun e w' =>
    ∃ ro rc, e = .returned (.tuple #[.agg #[.int .i64 2, .int .i64 12, .slice ro 24 rc], .int .i64 0]) ∧ IsPix w' (.slice ro 24 rc) tallQ ∧ Below u.heap.size u w' ∧ Fresh u.heap.size (.slice ro 24 rc) := by
  have h := whole_any plainN _ cv 2 12 v tallL u hp (fun j hj => by simp [plainN] at hj) hv
  rw [tall_fits] at h
  refine h.mono ?_
  rintro e w' ⟨r, rfl, hr, hb, hf⟩
  obtain ⟨ro, rc, rfl, h1, h2⟩ := id hr
  have hl : (okL 0 (dev7 plainN 2 12 tallL)).length = 24 := tallQ_length
  rw [hl] at hr hf ⊢
  exact ⟨ro, rc, rfl, hr, hb, hf⟩
theorem begStrips (u : World) (cv v : Value) (hp : IsPlan u plainN (.slice none 0 0) cv) (hv : IsInts u v tallL) (hr : roomy v) : Calls Try.prog 51 #[.agg (plainA cv), .agg #[.int .i64 2, .int .i64 12, v], .int .i64 5] u fun e w' =>
    ∃ ro rc, e = .returned (.tuple #[.agg #[.int .i64 2, .int .i64 12, .slice ro 24 rc], .int .i64 0]) ∧ IsPix w' (.slice ro 24 rc) tallQ ∧ Below u.heap.size u w' ∧ Fresh u.heap.size (.slice ro 24 rc) := by
  have h := strips_any plainN _ cv 2 12 v tallL 5 u hp hv hr
  rw [show stripsE plainN 2 12 tallL 5 = 0 by rw [stripsE, tall_fits]; rfl, tall_strips] at h
  refine h.mono ?_
  rintro e w' ⟨r, rfl, hr, hb, hf⟩
  obtain ⟨ro, rc, rfl, h1, h2⟩ := id hr
  have hl : (okL 0 (dev7 plainN 2 12 tallL)).length = 24 := tallQ_length
  rw [hl] at hr hf ⊢
  exact ⟨ro, rc, rfl, hr, hb, hf⟩
def tallR : List Px := (tallQ.drop 14).take 4
theorem tallR_length : tallR.length = 4 := by unfold tallR; rw [List.length_take, List.length_drop, tallQ_length]; rfl
theorem tallR_zero : pxAt tallR 0 = pxAt tallQ 14 := by
  unfold tallR pxAt
  rw [List.getD_eq_getElem?_getD, List.getD_eq_getElem?_getD, List.getElem?_take_of_lt (by decide), List.getElem?_drop]
theorem begPart (u : World) (cv v : Value) (hp : IsPlan u plainN (.slice none 0 0) cv) (hv : IsInts u v (tallL.drop 6)) : Calls Try.prog 48 #[.agg (plainA cv), .agg #[.int .i64 2, .int .i64 9, v], .int .i64 3, .int .i64 12, .int .i64 7, .int .i64 9] u fun e w' =>
    ∃ ro rc, e = .returned (.tuple #[.agg #[.int .i64 2, .int .i64 2, .slice ro 4 rc], .int .i64 0]) ∧ IsPix w' (.slice ro 4 rc) tallR ∧ Below u.heap.size u w' ∧ Fresh u.heap.size (.slice ro 4 rc) := by
  have h := linePart_any plainN _ cv 2 9 v (tallL.drop 6) 3 12 7 9 u hp hv
  rw [tall_part, tall_rows] at h
  refine h.mono ?_
  rintro e w' ⟨r, rfl, hr, hb, hf⟩
  obtain ⟨ro, rc, rfl, h1, h2⟩ := id hr
  have hl : (okL 0 (((dev7 plainN 2 12 tallL).drop 14).take 4)).length = 4 := tallR_length
  rw [hl] at hr hf ⊢
  exact ⟨ro, rc, rfl, hr, hb, hf⟩
theorem begCheck (u : World) (cv : Value) (hp : IsPlan u plainN (.slice none 0 0) cv) : Calls Try.prog 46 #[.agg (plainA cv)] u fun e w' => e = .returned (.int .i64 0) ∧ Below u.heap.size u w' := by
  have h := check_any plainN _ cv u hp
  rw [plain_ok] at h
  exact h
theorem begZero (u : World) : Calls Try.prog 46 #[.agg planZ] u fun e w' => e = .returned (.int .i64 3) ∧ Below u.heap.size u w' := by
  have h := check_any zeroN (.slice none 0 0) (.slice none 0 0) u ⟨⟨none, 0, rfl, by decide, .inl rfl⟩, ⟨none, 0, rfl, by decide, .inl rfl⟩⟩
  rw [zero_no] at h
  exact h
theorem tall_sub {u : World} {b off cap : Nat} (h : IsInts u (.slice (some ⟨b, off, none⟩) 24 cap) tallL) : IsInts u (.slice (some ⟨b, off + 6, none⟩) 18 (cap - 6)) (tallL.drop 6) := by
  obtain ⟨ao, c, hv, _, hc⟩ := h
  cases hv
  rcases hc with hc | ⟨b', o', he, hb, hc⟩
  · exact absurd (congrArg List.length hc) (by decide)
  · cases he
    refine ⟨_, _, rfl, by decide, .inr ⟨b, off + 6, rfl, hb, fun j hj => ?_⟩⟩
    have hj2 : j < 18 := hj
    have e := hc (6 + j) (by rw [tall_len]; omega)
    rw [Nat.add_assoc, e, List.getElem_drop]
theorem begSame (u : World) (va vb : Value) (ha : IsPix u va tallQ) (hb : IsPix u vb tallQ) : Calls Try.prog 29 #[.agg #[.int .i64 2, .int .i64 12, va], .agg #[.int .i64 2, .int .i64 12, vb]] u fun e w' => e = .returned (.bool true) ∧ Below u.heap.size u w' := by
  have h := samePictures_any 2 12 va tallQ 2 12 vb tallQ u ha hb
  rw [show sameB 2 12 tallQ 2 12 tallQ = true by simp [sameB]] at h
  exact h
end Go.Proofs.Ytolcndchfnifhab

namespace Go.Proofs.Ytolcndchfnifhab
open Go
section
variable {P : Program} {ops : Array Oper} {Q : Exit → Act → World → Prop} {md : Region.Mode} {S : World → Prop} {f : Nat}
def pathB (md : Region.Mode) (ops : Array Oper) (i : Nat) : List Nat → Nat → Bool
  | [], j => match ops[j]? with
    | some o => o.after.any fun e => Region.binds md e && e.on == i
    | none => false
  | k :: r, j => (match ops[j]? with
    | some o => o.after.any fun e => Region.binds md e && e.on == k
    | none => false) && pathB md ops i r k
theorem path_one {i j : Nat} {listed : Array Bool} (hc : Closed md ops listed) (hj : j ∈ Region.ready md ops listed ∨ listed.getD j false = true)
    (h : (match ops[j]? with
    | some o => o.after.any fun e => Region.binds md e && e.on == i
    | none => false) = true) : listed.getD i false = true := by
  cases ho : ops[j]? with
  | none => rw [ho] at h; cases h
  | some o =>
    rw [ho] at h
    have hall : ∀ e ∈ o.after, Region.binds md e = true → listed.getD e.on false = true := by
      rcases hj with hj | hj
      · obtain ⟨_, o', ho', hall⟩ := mem_ready.1 hj
        obtain rfl := Option.some.inj (ho.symm.trans ho')
        exact hall
      · exact hc j o ho hj
    have h' : ∃ e ∈ o.after, (Region.binds md e && e.on == i) = true := by
      first
        | exact List.any_eq_true.1 h
        | exact Array.any_eq_true'.1 h
    obtain ⟨e, he, hx⟩ := h'
    rw [Bool.and_eq_true] at hx
    rw [← eq_of_beq hx.2]
    exact hall e he hx.1
theorem path_spec {i : Nat} {listed : Array Bool} (hc : Closed md ops listed) : ∀ (p : List Nat) (j : Nat), (j ∈ Region.ready md ops listed ∨ listed.getD j false = true) → pathB md ops i p j = true → listed.getD i false = true
  | [], j, hj, h => path_one hc hj h
  | k :: r, j, hj, h => by
    unfold pathB at h
    rw [Bool.and_eq_true] at h
    exact path_spec hc r k (.inr (path_one hc hj h.1)) h.2
theorem wpAnyF_firstP {i : Nat} {p : List Nat} {oi : Oper} {v : Value} (hi : ops[i]? = some oi) (hsel : ∀ (j : Nat) (o : Oper) cs b, ops[j]? = some o → o.op ≠ .select cs b)
    (hQ : ∀ c a w, Q (.panic c) (a.put oi.dst v) w → Q (.panic c) a w) (hwt : pathB md ops i p f = true) :
    ∀ (fuel : Nat) (listed : Array Bool) (a : Act) (w : World),
      (∀ j oj, ops[j]? = some oj → j ≠ i → listed.getD j true = false → (∀ e ∈ oj.after, Region.binds md e = true → e.on ≠ i) → oi.apart ops oj = true) →
      Closed md ops listed →
      i ∈ Region.ready md ops listed → YieldsIf P ops S oi v a → S w →
      wpAnyF P md ops Q S f fuel (listed.setIfInBounds i true) (a.put oi.dst v) w → wpAnyF P md ops Q S f (fuel + 1) listed a w := by
  intro fuel
  induction fuel with
  | zero =>
    intro listed a w _ _ hr hy hS H
    refine ⟨fun h => (by rw [h] at hr; cases hr), fun j hj => ?_⟩
    by_cases hji : j = i
    · subst hji; exact hy.wpOp hi hS ⟨fun _ => hS, H⟩
    · have := ready_mono hj hji
      rw [H.1] at this
      cases this
  | succ fuel ih =>
    intro listed a w hfree hcl hr hy hS H
    refine ⟨fun h => (by rw [h] at hr; cases hr), fun j hj => ?_⟩
    by_cases hji : j = i
    · subst hji; exact hy.wpOp hi hS ⟨fun _ => hS, H⟩
    · have hiun : ¬ listed.getD i false = true := by
        intro h1
        have h0 := (mem_ready.1 hr).1
        rcases Nat.lt_or_ge i listed.size with h' | h'
        · simp [h'] at h0 h1; rw [h0] at h1; cases h1
        · simp [Array.getElem?_eq_none h'] at h1
      have hjf : j ≠ f := fun e => hiun (path_spec hcl p f (.inl (e ▸ hj)) hwt)
      have h1 := H.2 j (ready_mono hj hji)
      obtain ⟨hjun, oj, hoj, hall⟩ := mem_ready.1 hj
      have hnot : ∀ e ∈ oj.after, Region.binds md e = true → e.on ≠ i := fun e he hb heq => by
        have h1 := hall e he hb
        rw [heq] at h1
        exact hiun h1
      have h2 := wpOp_putIf hoj (hfree j oj hoj hji hjun hnot) (fun cs b => hsel i oi cs b hi) (fun cs b => hsel j oj cs b hoj) hQ hy h1
      have hfree' : ∀ k ok, ops[k]? = some ok → k ≠ i → (listed.setIfInBounds j true).getD k true = false →
          (∀ e ∈ ok.after, Region.binds md e = true → e.on ≠ i) → oi.apart ops ok = true := fun k ok hk hki hun hno => by
        refine hfree k ok hk hki ?_ hno
        by_cases hjk : j = k
        · subst hjk; exact hjun
        · rw [getD_set_ne true hjk] at hun; exact hun
      refine wpOp_mono (fun a' w' h3 => ⟨h3.2.1, ih (listed.setIfInBounds j true) a' w' hfree' (closed_set hcl hj) (ready_mono hr (Ne.symm hji)) h3.1 (h3.2.1 hjf) ?_⟩) h2
      rw [Array.setIfInBounds_comm _ _ hji]
      exact h3.2.2
theorem wpAnyF_takeP {i : Nat} {oi : Oper} {v : Value} {fuel : Nat} {listed : Array Bool} {a : Act} {w : World} (d : Option Nat) (p : List Nat) (hi : ops[i]? = some oi) (hd : oi.dst = d)
    (hs : Region.noSelect ops = true) (hf : Region.free md ops listed i = true) (hr : (Region.ready md ops listed).contains i = true) (hwt : pathB md ops i p f = true) (hcl : closedB md ops listed = true)
    (hQ : ∀ c a w, Q (.panic c) (a.put oi.dst v) w → Q (.panic c) a w) (hy : YieldsIf P ops S oi v a) (hS : S w)
    (h : wpAnyF P md ops Q S f fuel (listed.setIfInBounds i true) (a.put d v) w) : wpAnyF P md ops Q S f (fuel + 1) listed a w := by
  subst hd
  exact wpAnyF_firstP hi (Region.noSelect_spec hs) hQ hwt fuel listed a w (Region.free_spec hi hf) (closed_of hcl) (by simpa using hr) hy hS h
end
end Go.Proofs.Ytolcndchfnifhab

namespace Go.Proofs.Ytolcndchfnifhab
set_option linter.unusedVariables false
open Go.RowKit
theorem tallH (w : World) : Calls Try.prog 94 #[] w fun e w' => ∃ b off ca, e = .returned (.agg #[.int .i64 2, .int .i64 12, .slice (some ⟨b, off, none⟩) 24 ca]) ∧ Hid (IsInts w' (.slice (some ⟨b, off, none⟩) 24 ca) tallL) ∧ 24 ≤ ca ∧ Below w.heap.size w w' :=
  (tall_any w).mono fun e w' ⟨r, h1, h2, h3, h4⟩ => by
    obtain ⟨b, off, ca, rfl, _, _⟩ := h2.cells (by rw [tall_len]; decide)
    exact ⟨b, off, ca, h1, hide h2, h4.2, h3⟩
set_option maxRecDepth 100000 in
set_option maxHeartbeats 16000000 in
theorem lineBegun_any (w : World) : Calls Try.prog 45 #[] w fun e w' => e = .returned (.bool true) ∧ Below w.heap.size w w' := by
  go_enter Try.func45, Try.ntmps45
  go_wp2_with fail
  refine (plain_any _).mono ?_
  rintro e p1 ⟨cv1, rfl, hp1, hbp1⟩
  go_wp2_with fail
  refine (tallH _).mono ?_
  rintro e t1 ⟨tb, tf, tc, rfl, HT, htc, hbt⟩
  go_wp2_with fail
  refine (begWhole _ _ _ (hp1.below hbt (Nat.le_refl _)) HT.out).mono ?_
  rintro e r1 ⟨qo, qc, rfl, hx, hbr, _⟩
  have hC1 := bel_trans (bel_trans (bel_trans hbp1 hbt) hbr) (bel_alloc r1 (Obj.cells #[.int .i64 2, .int .i64 12, .slice qo 24 qc] 39))
  have B1 := al1 r1 (Obj.cells #[.int .i64 2, .int .i64 12, .slice qo 24 qc] 39)
  have X1 := hide (hx.alloc (Obj.cells #[.int .i64 2, .int .i64 12, .slice qo 24 qc] 39))
  clear hp1 hbp1 HT htc hbt hx hbr
  go_wp2_with fail
  have l1 := (Array.getElem?_eq_some_iff.1 B1).1
  generalize r1.alloc (Obj.cells #[.int .i64 2, .int .i64 12, .slice qo 24 qc] 39) = U1 at *
  generalize r1.heap.size = QB at *
  clear r1
  refine (plain_any _).mono ?_
  rintro e p2 ⟨cv2, rfl, hp2, hbp2⟩
  go_wp2_with fail
  refine (tallH _).mono ?_
  rintro e t2 ⟨tb, tf, tc, rfl, HT, htc, hbt⟩
  go_wp2_with fail
  refine (begStrips _ _ _ (hp2.below hbt (Nat.le_refl _)) HT.out htc).mono ?_
  rintro e r2 ⟨so, sc, rfl, hx, hbr, _⟩
  have hC2 := bel_trans (bel_trans (bel_trans hbp2 hbt) hbr) (bel_alloc r2 (Obj.cells #[.int .i64 2, .int .i64 12, .slice so 24 sc] 39))
  have B2 := al1 r2 (Obj.cells #[.int .i64 2, .int .i64 12, .slice so 24 sc] 39)
  have X2 := hide (hx.alloc (Obj.cells #[.int .i64 2, .int .i64 12, .slice so 24 sc] 39))
  clear hp2 hbp2 HT htc hbt hx hbr
  replace B1 := (hC2.block QB l1).trans B1
  replace X1 := hide (X1.out.below hC2 (Nat.le_refl _))
  replace hC1 := bel_trans hC1 hC2
  clear hC2
  go_wp2_with fail
  replace l1 := (Array.getElem?_eq_some_iff.1 B1).1
  have l2 := (Array.getElem?_eq_some_iff.1 B2).1
  generalize r2.alloc (Obj.cells #[.int .i64 2, .int .i64 12, .slice so 24 sc] 39) = U2 at *
  generalize r2.heap.size = SB at *
  clear r2
  refine (plain_any _).mono ?_
  rintro e p3 ⟨cv3, rfl, hp3, hbp3⟩
  go_wp2_with fail
  refine (tallH _).mono ?_
  rintro e t3 ⟨tb, tf, tc, rfl, HT, htc, hbt⟩
  have hfd : ∀ V : World, (Instr.field 24 (.agg #[.int .i64 2, .int .i64 12, .slice (some ⟨tb, tf, none⟩) 24 tc]) 2).run Try.prog V = .ok (.slice (some ⟨tb, tf, none⟩) 24 tc) V := fun V => by kernel_rfl
  have hg1 : (24 : Int) ≤ (tc : Int) := by omega
  have hg2 : ¬ (tc = 6) := by omega
  have hg3 : ¬ ((tc : Int) < 24) := by omega
  go_wp2_with fail
  refine (begPart _ _ _ (hp3.below hbt (Nat.le_refl _)) (tall_sub HT.out)).mono ?_
  rintro e r3 ⟨zo, zc, rfl, hx, hbr, _⟩
  have hC3 := bel_trans (bel_trans (bel_trans hbp3 hbt) hbr) (bel_alloc r3 (Obj.cells #[.int .i64 2, .int .i64 2, .slice zo 4 zc] 39))
  have B3 := al1 r3 (Obj.cells #[.int .i64 2, .int .i64 2, .slice zo 4 zc] 39)
  have X3 := hide (hx.alloc (Obj.cells #[.int .i64 2, .int .i64 2, .slice zo 4 zc] 39))
  clear hp3 hbp3 HT htc hbt hx hbr hfd hg1 hg2 hg3
  replace B1 := (hC3.block QB l1).trans B1
  replace B2 := (hC3.block SB l2).trans B2
  replace X1 := hide (X1.out.below hC3 (Nat.le_refl _))
  replace X2 := hide (X2.out.below hC3 (Nat.le_refl _))
  have HBW := hide (bel_trans hC1 hC3)
  clear hC1 hC3
  go_upto_region 4 with fail
  generalize Value.agg (plainA cv1) = g1
  generalize Value.agg (plainA cv2) = g2
  generalize Value.agg (plainA cv3) = g3
  replace l1 := (Array.getElem?_eq_some_iff.1 B1).1
  replace l2 := (Array.getElem?_eq_some_iff.1 B2).1
  have l3 := (Array.getElem?_eq_some_iff.1 B3).1
  generalize r3.alloc (Obj.cells #[.int .i64 2, .int .i64 2, .slice zo 4 zc] 39) = U at *
  generalize r3.heap.size = TB at *
  clear r3
  obtain ⟨qo2, qc2, hqe, _, hqor⟩ := X1.out
  rcases hqor with hqor | ⟨qb, qf, rfl, hqb, hqc⟩
  · exact absurd (congrArg List.length hqor) (by rw [tallQ_length]; decide)
  obtain ⟨zo2, zc2, hte, _, htor⟩ := X3.out
  rcases htor with htor | ⟨tb, tf, rfl, htb, htc⟩
  · exact absurd (congrArg List.length htor) (by rw [tallR_length]; decide)
  cases hqe
  cases hte
  obtain ⟨x0, x1, x2⟩ := hqc 14 (by rw [tallQ_length]; decide)
  obtain ⟨y0, y1, y2⟩ := htc 0 (by rw [tallR_length]; decide)
  rw [pxAt_get tallQ 14 (by rw [tallQ_length]; decide)] at x0 x1 x2
  rw [pxAt_get tallR 0 (by rw [tallR_length]; decide), tallR_zero] at y0 y1 y2
  simp only [Nat.zero_mul, Nat.add_zero] at y0 y1 y2
  simp only [Nat.reduceMul] at x0 x1 x2
  generalize (pxAt tallQ 14).1 = A0 at *
  generalize (pxAt tallQ 14).2.1 = A1 at *
  generalize (pxAt tallQ 14).2.2 = A2 at *
  clear hqc htc
  have HS := hide (show ∀ v, Below U.heap.size U v → v.cell? ⟨QB, 0, none⟩ = some (.int .i64 2) ∧ v.cell? ⟨QB, 1, none⟩ = some (.int .i64 12) ∧ v.cell? ⟨QB, 2, none⟩ = some (.slice (some ⟨qb, qf, none⟩) 24 qc) ∧ v.cell? ⟨SB, 0, none⟩ = some (.int .i64 2) ∧ v.cell? ⟨SB, 1, none⟩ = some (.int .i64 12) ∧ v.cell? ⟨SB, 2, none⟩ = some (.slice so 24 sc) ∧ v.cell? ⟨TB, 1, none⟩ = some (.int .i64 2) ∧ v.cell? ⟨TB, 2, none⟩ = some (.slice (some ⟨tb, tf, none⟩) 4 zc) ∧ v.cell? ⟨qb, qf + 42, none⟩ = some (.int .i64 A0) ∧ v.cell? ⟨qb, qf + 42 + 1, none⟩ = some (.int .i64 A1) ∧ v.cell? ⟨qb, qf + 42 + 2, none⟩ = some (.int .i64 A2) ∧ v.cell? ⟨tb, tf, none⟩ = some (.int .i64 A0) ∧ v.cell? ⟨tb, tf + 1, none⟩ = some (.int .i64 A1) ∧ v.cell? ⟨tb, tf + 2, none⟩ = some (.int .i64 A2) from fun v h => by
    obtain ⟨a0, a1, a2⟩ := cells3 ((h.block _ l1).trans B1)
    obtain ⟨b0, b1, b2⟩ := cells3 ((h.block _ l2).trans B2)
    obtain ⟨_, c1, c2⟩ := cells3 ((h.block _ l3).trans B3)
    exact ⟨a0, a1, a2, b0, b1, b2, c1, c2, (h.cell (p := ⟨qb, qf + 42, none⟩) hqb).trans x0, (h.cell (p := ⟨qb, qf + 42 + 1, none⟩) hqb).trans x1, (h.cell (p := ⟨qb, qf + 42 + 2, none⟩) hqb).trans x2, (h.cell (p := ⟨tb, tf, none⟩) htb).trans y0, (h.cell (p := ⟨tb, tf + 1, none⟩) htb).trans y1, (h.cell (p := ⟨tb, tf + 2, none⟩) htb).trans y2⟩)
  have hWd : Below U.heap.size U U.drew := (Below.refl _ _).drew
  have hSd := HS.out _ hWd
  clear x0 x1 x2 y0 y1 y2
  have hmx : Try.prog.follows .mixedOrders = true := by kernel_rfl
  refine wp_region_last (S := fun v : World => v.cell? ⟨QB, 0, none⟩ = some (.int .i64 2) ∧ v.cell? ⟨QB, 1, none⟩ = some (.int .i64 12) ∧ v.cell? ⟨QB, 2, none⟩ = some (.slice (some ⟨qb, qf, none⟩) 24 qc) ∧ v.cell? ⟨SB, 0, none⟩ = some (.int .i64 2) ∧ v.cell? ⟨SB, 1, none⟩ = some (.int .i64 12) ∧ v.cell? ⟨SB, 2, none⟩ = some (.slice so 24 sc) ∧ v.cell? ⟨TB, 1, none⟩ = some (.int .i64 2) ∧ v.cell? ⟨TB, 2, none⟩ = some (.slice (some ⟨tb, tf, none⟩) 4 zc) ∧ v.cell? ⟨qb, qf + 42, none⟩ = some (.int .i64 A0) ∧ v.cell? ⟨qb, qf + 42 + 1, none⟩ = some (.int .i64 A1) ∧ v.cell? ⟨qb, qf + 42 + 2, none⟩ = some (.int .i64 A2) ∧ v.cell? ⟨tb, tf, none⟩ = some (.int .i64 A0) ∧ v.cell? ⟨tb, tf + 1, none⟩ = some (.int .i64 A1) ∧ v.cell? ⟨tb, tf + 2, none⟩ = some (.int .i64 A2)) (f := 53) hmx ?_
  show wpAnyF _ _ _ _ _ _ 54 _ _ U.drew
  refine wpAnyF_one (i := 0) (o := _) (by kernel_rfl) rfl (fun K' hK => ?_)
  rw [if_pos (by rfl)]
  go_simp
  refine (plain_any _).mono ?_
  rintro e V0 ⟨cvz, rfl, hpz, hbvV0⟩
  have hBV0 : Below U.heap.size U V0 := hWd.trans (hbvV0.mono hWd.size)
  have hSd := HS.out _ hBV0
  refine hK.out _ _ hSd ?_
  clear hK
  try simp only [Act.put]
  refine wpAnyF_one (i := 1) (o := _) (by kernel_rfl) rfl (fun K' hK => ?_)
  rw [if_pos (by rfl)]
  go_simp
  refine (begCheck _ _ hpz).mono ?_
  rintro e V1 ⟨rfl, hbvV1⟩
  have hBV1 : Below U.heap.size U V1 := hBV0.trans (hbvV1.mono hBV0.size)
  clear hpz
  generalize Value.agg (plainA cvz) = g4
  have hSd := HS.out _ hBV1
  refine hK.out _ _ hSd ?_
  clear hK
  try simp only [Act.put]
  refine wpAnyF_takeP (i := 2) (oi := _) (v := ?vv1) (some 30) [] rfl rfl (by kernel_rfl) (by kernel_rfl) (by kernel_rfl) (by kernel_rfl) (by kernel_rfl) (fun _ _ _ h => h) (Or.inl ⟨by rfl, ?yy1⟩) hSd ?rr1
  case yy1 => (intro wq hSq; obtain ⟨_, _, _, _, _, _, _, _, _, _, _, _, _, _⟩ := hSq; go_simp <;> with_reducible rfl)
  simp only [Act.put, List.setIfInBounds_toArray, List.set_cons_succ, List.set_cons_zero]
  refine wpAnyF_takeP (i := 3) (oi := _) (v := ?vv2) (some 31) [] rfl rfl (by kernel_rfl) (by kernel_rfl) (by kernel_rfl) (by kernel_rfl) (by kernel_rfl) (fun _ _ _ h => h) (Or.inl ⟨by rfl, ?yy2⟩) hSd ?rr2
  case yy2 => (intro wq hSq; obtain ⟨_, _, _, _, _, _, _, _, _, _, _, _, _, _⟩ := hSq; go_simp <;> with_reducible rfl)
  simp only [Act.put, List.setIfInBounds_toArray, List.set_cons_succ, List.set_cons_zero]
  refine wpAnyF_takeP (i := 4) (oi := _) (v := ?vv3) (some 32) [] rfl rfl (by kernel_rfl) (by kernel_rfl) (by kernel_rfl) (by kernel_rfl) (by kernel_rfl) (fun _ _ _ h => h) (Or.inl ⟨by rfl, ?yy3⟩) hSd ?rr3
  case yy3 => (intro wq hSq; obtain ⟨_, _, _, _, _, _, _, _, _, _, _, _, _, _⟩ := hSq; go_simp <;> with_reducible rfl)
  simp only [Act.put, List.setIfInBounds_toArray, List.set_cons_succ, List.set_cons_zero]
  refine wpAnyF_one (i := 5) (o := _) (by kernel_rfl) rfl (fun K' hK => ?_)
  rw [if_pos (by rfl)]
  go_simp
  refine (begZero _).mono ?_
  rintro e V2 ⟨rfl, hbvV2⟩
  have hBV2 : Below U.heap.size U V2 := hBV1.trans (hbvV2.mono hBV1.size)
  generalize Value.agg planZ = g5
  have hSd := HS.out _ hBV2
  refine hK.out _ _ hSd ?_
  clear hK
  try simp only [Act.put]
  refine wpAnyF_takeP (i := 6) (oi := _) (v := ?vv4) (some 34) [] rfl rfl (by kernel_rfl) (by kernel_rfl) (by kernel_rfl) (by kernel_rfl) (by kernel_rfl) (fun _ _ _ h => h) (Or.inl ⟨by rfl, ?yy4⟩) hSd ?rr4
  case yy4 => (intro wq hSq; obtain ⟨_, _, _, _, _, _, _, _, _, _, _, _, _, _⟩ := hSq; go_simp <;> with_reducible rfl)
  simp only [Act.put, List.setIfInBounds_toArray, List.set_cons_succ, List.set_cons_zero]
  refine wpAnyF_takeP (i := 7) (oi := _) (v := ?vv5) (some 35) [] rfl rfl (by kernel_rfl) (by kernel_rfl) (by kernel_rfl) (by kernel_rfl) (by kernel_rfl) (fun _ _ _ h => h) (Or.inl ⟨by rfl, ?yy5⟩) hSd ?rr5
  case yy5 => (intro wq hSq; obtain ⟨_, _, _, _, _, _, _, _, _, _, _, _, _, _⟩ := hSq; go_simp <;> with_reducible rfl)
  simp only [Act.put, List.setIfInBounds_toArray, List.set_cons_succ, List.set_cons_zero]
  refine wpAnyF_takeP (i := 8) (oi := _) (v := ?vv6) (some 36) [] rfl rfl (by kernel_rfl) (by kernel_rfl) (by kernel_rfl) (by kernel_rfl) (by kernel_rfl) (fun _ _ _ h => h) (Or.inl ⟨by rfl, ?yy6⟩) hSd ?rr6
  case yy6 => (intro wq hSq; obtain ⟨_, _, _, _, _, _, _, _, _, _, _, _, _, _⟩ := hSq; go_simp <;> with_reducible rfl)
  simp only [Act.put, List.setIfInBounds_toArray, List.set_cons_succ, List.set_cons_zero]
  refine wpAnyF_takeP (i := 9) (oi := _) (v := ?vv7) (some 37) [] rfl rfl (by kernel_rfl) (by kernel_rfl) (by kernel_rfl) (by kernel_rfl) (by kernel_rfl) (fun _ _ _ h => h) (Or.inl ⟨by rfl, ?yy7⟩) hSd ?rr7
  case yy7 => (intro wq hSq; obtain ⟨_, _, _, _, _, _, _, _, _, _, _, _, _, _⟩ := hSq; go_simp <;> with_reducible rfl)
  simp only [Act.put, List.setIfInBounds_toArray, List.set_cons_succ, List.set_cons_zero]
  refine wpAnyF_takeP (i := 10) (oi := _) (v := ?vv8) (some 38) [] rfl rfl (by kernel_rfl) (by kernel_rfl) (by kernel_rfl) (by kernel_rfl) (by kernel_rfl) (fun _ _ _ h => h) (Or.inl ⟨by rfl, ?yy8⟩) hSd ?rr8
  case yy8 => (intro wq hSq; obtain ⟨_, _, _, _, _, _, _, _, _, _, _, _, _, _⟩ := hSq; go_simp <;> with_reducible rfl)
  simp only [Act.put, List.setIfInBounds_toArray, List.set_cons_succ, List.set_cons_zero]
  refine wpAnyF_takeP (i := 11) (oi := _) (v := ?vv9) (some 39) [] rfl rfl (by kernel_rfl) (by kernel_rfl) (by kernel_rfl) (by kernel_rfl) (by kernel_rfl) (fun _ _ _ h => h) (Or.inl ⟨by rfl, ?yy9⟩) hSd ?rr9
  case yy9 => (intro wq hSq; obtain ⟨_, _, _, _, _, _, _, _, _, _, _, _, _, _⟩ := hSq; go_simp <;> with_reducible rfl)
  simp only [Act.put, List.setIfInBounds_toArray, List.set_cons_succ, List.set_cons_zero]
  refine wpAnyF_takeP (i := 12) (oi := _) (v := ?vv10) (some 40) [] rfl rfl (by kernel_rfl) (by kernel_rfl) (by kernel_rfl) (by kernel_rfl) (by kernel_rfl) (fun _ _ _ h => h) (Or.inl ⟨by rfl, ?yy10⟩) hSd ?rr10
  case yy10 => (intro wq hSq; obtain ⟨_, _, _, _, _, _, _, _, _, _, _, _, _, _⟩ := hSq; go_simp <;> with_reducible rfl)
  simp only [Act.put, List.setIfInBounds_toArray, List.set_cons_succ, List.set_cons_zero]
  refine wpAnyF_takeP (i := 13) (oi := _) (v := ?vv11) (some 41) [] rfl rfl (by kernel_rfl) (by kernel_rfl) (by kernel_rfl) (by kernel_rfl) (by kernel_rfl) (fun _ _ _ h => h) (Or.inl ⟨by rfl, ?yy11⟩) hSd ?rr11
  case yy11 => (intro wq hSq; obtain ⟨_, _, _, _, _, _, _, _, _, _, _, _, _, _⟩ := hSq; go_simp <;> with_reducible rfl)
  simp only [Act.put, List.setIfInBounds_toArray, List.set_cons_succ, List.set_cons_zero]
  refine wpAnyF_takeP (i := 14) (oi := _) (v := ?vv12) (some 42) [] rfl rfl (by kernel_rfl) (by kernel_rfl) (by kernel_rfl) (by kernel_rfl) (by kernel_rfl) (fun _ _ _ h => h) (Or.inl ⟨by rfl, ?yy12⟩) hSd ?rr12
  case yy12 => (intro wq hSq; obtain ⟨_, _, _, _, _, _, _, _, _, _, _, _, _, _⟩ := hSq; go_simp <;> with_reducible rfl)
  simp only [Act.put, List.setIfInBounds_toArray, List.set_cons_succ, List.set_cons_zero]
  refine wpAnyF_takeP (i := 15) (oi := _) (v := ?vv13) (some 43) [] rfl rfl (by kernel_rfl) (by kernel_rfl) (by kernel_rfl) (by kernel_rfl) (by kernel_rfl) (fun _ _ _ h => h) (Or.inl ⟨by rfl, ?yy13⟩) hSd ?rr13
  case yy13 => (intro wq hSq; obtain ⟨_, _, _, _, _, _, _, _, _, _, _, _, _, _⟩ := hSq; go_simp <;> with_reducible rfl)
  simp only [Act.put, List.setIfInBounds_toArray, List.set_cons_succ, List.set_cons_zero]
  refine wpAnyF_takeP (i := 16) (oi := _) (v := ?vv14) (some 44) [] rfl rfl (by kernel_rfl) (by kernel_rfl) (by kernel_rfl) (by kernel_rfl) (by kernel_rfl) (fun _ _ _ h => h) (Or.inl ⟨by rfl, ?yy14⟩) hSd ?rr14
  case yy14 => (intro wq hSq; obtain ⟨_, _, _, _, _, _, _, _, _, _, _, _, _, _⟩ := hSq; go_simp <;> with_reducible rfl)
  simp only [Act.put, List.setIfInBounds_toArray, List.set_cons_succ, List.set_cons_zero]
  refine wpAnyF_takeP (i := 17) (oi := _) (v := ?vv15) (some 45) [] rfl rfl (by kernel_rfl) (by kernel_rfl) (by kernel_rfl) (by kernel_rfl) (by kernel_rfl) (fun _ _ _ h => h) (Or.inl ⟨by rfl, ?yy15⟩) hSd ?rr15
  case yy15 => (intro wq hSq; obtain ⟨_, _, _, _, _, _, _, _, _, _, _, _, _, _⟩ := hSq; go_simp <;> with_reducible rfl)
  simp only [Act.put, List.setIfInBounds_toArray, List.set_cons_succ, List.set_cons_zero]
  refine wpAnyF_takeP (i := 18) (oi := _) (v := ?vv16) (some 46) [] rfl rfl (by kernel_rfl) (by kernel_rfl) (by kernel_rfl) (by kernel_rfl) (by kernel_rfl) (fun _ _ _ h => h) (Or.inl ⟨by rfl, ?yy16⟩) hSd ?rr16
  case yy16 => (intro wq hSq; obtain ⟨_, _, _, _, _, _, _, _, _, _, _, _, _, _⟩ := hSq; go_simp <;> with_reducible rfl)
  simp only [Act.put, List.setIfInBounds_toArray, List.set_cons_succ, List.set_cons_zero]
  refine wpAnyF_takeP (i := 19) (oi := _) (v := ?vv17) (some 47) [] rfl rfl (by kernel_rfl) (by kernel_rfl) (by kernel_rfl) (by kernel_rfl) (by kernel_rfl) (fun _ _ _ h => h) (Or.inl ⟨by rfl, ?yy17⟩) hSd ?rr17
  case yy17 => (intro wq hSq; obtain ⟨_, _, _, _, _, _, _, _, _, _, _, _, _, _⟩ := hSq; go_simp <;> with_reducible rfl)
  simp only [Act.put, List.setIfInBounds_toArray, List.set_cons_succ, List.set_cons_zero]
  refine wpAnyF_takeP (i := 20) (oi := _) (v := ?vv18) (some 48) [] rfl rfl (by kernel_rfl) (by kernel_rfl) (by kernel_rfl) (by kernel_rfl) (by kernel_rfl) (fun _ _ _ h => h) (Or.inl ⟨by rfl, ?yy18⟩) hSd ?rr18
  case yy18 => (intro wq hSq; obtain ⟨_, _, _, _, _, _, _, _, _, _, _, _, _, _⟩ := hSq; go_simp <;> with_reducible rfl)
  simp only [Act.put, List.setIfInBounds_toArray, List.set_cons_succ, List.set_cons_zero]
  refine wpAnyF_takeP (i := 21) (oi := _) (v := ?vv19) (some 49) [] rfl rfl (by kernel_rfl) (by kernel_rfl) (by kernel_rfl) (by kernel_rfl) (by kernel_rfl) (fun _ _ _ h => h) (Or.inl ⟨by rfl, ?yy19⟩) hSd ?rr19
  case yy19 => (intro wq hSq; obtain ⟨_, _, _, _, _, _, _, _, _, _, _, _, _, _⟩ := hSq; go_simp <;> with_reducible rfl)
  simp only [Act.put, List.setIfInBounds_toArray, List.set_cons_succ, List.set_cons_zero]
  refine wpAnyF_takeP (i := 22) (oi := _) (v := ?vv20) (some 50) [] rfl rfl (by kernel_rfl) (by kernel_rfl) (by kernel_rfl) (by kernel_rfl) (by kernel_rfl) (fun _ _ _ h => h) (Or.inl ⟨by rfl, ?yy20⟩) hSd ?rr20
  case yy20 => (intro wq hSq; obtain ⟨_, _, _, _, _, _, _, _, _, _, _, _, _, _⟩ := hSq; go_simp <;> with_reducible rfl)
  simp only [Act.put, List.setIfInBounds_toArray, List.set_cons_succ, List.set_cons_zero]
  refine wpAnyF_takeP (i := 23) (oi := _) (v := ?vv21) (some 51) [] rfl rfl (by kernel_rfl) (by kernel_rfl) (by kernel_rfl) (by kernel_rfl) (by kernel_rfl) (fun _ _ _ h => h) (Or.inl ⟨by rfl, ?yy21⟩) hSd ?rr21
  case yy21 => (intro wq hSq; obtain ⟨_, _, _, _, _, _, _, _, _, _, _, _, _, _⟩ := hSq; go_simp <;> with_reducible rfl)
  simp only [Act.put, List.setIfInBounds_toArray, List.set_cons_succ, List.set_cons_zero]
  refine wpAnyF_takeP (i := 24) (oi := _) (v := ?vv22) (some 52) [] rfl rfl (by kernel_rfl) (by kernel_rfl) (by kernel_rfl) (by kernel_rfl) (by kernel_rfl) (fun _ _ _ h => h) (Or.inl ⟨by rfl, ?yy22⟩) hSd ?rr22
  case yy22 => (intro wq hSq; obtain ⟨_, _, _, _, _, _, _, _, _, _, _, _, _, _⟩ := hSq; go_simp <;> with_reducible rfl)
  simp only [Act.put, List.setIfInBounds_toArray, List.set_cons_succ, List.set_cons_zero]
  refine wpAnyF_takeP (i := 25) (oi := _) (v := ?vv23) (some 53) [] rfl rfl (by kernel_rfl) (by kernel_rfl) (by kernel_rfl) (by kernel_rfl) (by kernel_rfl) (fun _ _ _ h => h) (Or.inl ⟨by rfl, ?yy23⟩) hSd ?rr23
  case yy23 => (intro wq hSq; obtain ⟨_, _, _, _, _, _, _, _, _, _, _, _, _, _⟩ := hSq; go_simp <;> with_reducible rfl)
  simp only [Act.put, List.setIfInBounds_toArray, List.set_cons_succ, List.set_cons_zero]
  refine wpAnyF_takeP (i := 26) (oi := _) (v := ?vv24) (some 54) [] rfl rfl (by kernel_rfl) (by kernel_rfl) (by kernel_rfl) (by kernel_rfl) (by kernel_rfl) (fun _ _ _ h => h) (Or.inl ⟨by rfl, ?yy24⟩) hSd ?rr24
  case yy24 => (intro wq hSq; obtain ⟨_, _, _, _, _, _, _, _, _, _, _, _, _, _⟩ := hSq; go_simp <;> with_reducible rfl)
  simp only [Act.put, List.setIfInBounds_toArray, List.set_cons_succ, List.set_cons_zero]
  refine wpAnyF_takeP (i := 27) (oi := _) (v := ?vv25) (some 55) [] rfl rfl (by kernel_rfl) (by kernel_rfl) (by kernel_rfl) (by kernel_rfl) (by kernel_rfl) (fun _ _ _ h => h) (Or.inl ⟨by rfl, ?yy25⟩) hSd ?rr25
  case yy25 => (intro wq hSq; obtain ⟨_, _, _, _, _, _, _, _, _, _, _, _, _, _⟩ := hSq; go_simp <;> with_reducible rfl)
  simp only [Act.put, List.setIfInBounds_toArray, List.set_cons_succ, List.set_cons_zero]
  refine wpAnyF_takeP (i := 28) (oi := _) (v := ?vv26) (some 56) [] rfl rfl (by kernel_rfl) (by kernel_rfl) (by kernel_rfl) (by kernel_rfl) (by kernel_rfl) (fun _ _ _ h => h) (Or.inl ⟨by rfl, ?yy26⟩) hSd ?rr26
  case yy26 => (intro wq hSq; obtain ⟨_, _, _, _, _, _, _, _, _, _, _, _, _, _⟩ := hSq; go_simp <;> with_reducible rfl)
  simp only [Act.put, List.setIfInBounds_toArray, List.set_cons_succ, List.set_cons_zero]
  refine wpAnyF_one (i := 29) (o := _) (by kernel_rfl) rfl (fun K' hK => ?_)
  rw [if_pos (by rfl)]
  go_simp
  refine (begSame _ _ _ (X2.out.below hBV2 (Nat.le_refl _)) (X1.out.below hBV2 (Nat.le_refl _))).mono ?_
  rintro e V3 ⟨rfl, hbvV3⟩
  have hBV3 : Below U.heap.size U V3 := hBV2.trans (hbvV3.mono hBV2.size)
  have hSd := HS.out _ hBV3
  refine hK.out _ _ hSd ?_
  clear hK
  try simp only [Act.put]
  refine wpAnyF_takeP (i := 30) (oi := _) (v := ?vv27) (some 58) [] rfl rfl (by kernel_rfl) (by kernel_rfl) (by kernel_rfl) (by kernel_rfl) (by kernel_rfl) (fun _ _ _ h => h) (Or.inl ⟨by rfl, ?yy27⟩) hSd ?rr27
  case yy27 => (intro wq hSq; obtain ⟨_, _, _, _, _, _, _, _, _, _, _, _, _, _⟩ := hSq; go_simp <;> with_reducible rfl)
  simp only [Act.put, List.setIfInBounds_toArray, List.set_cons_succ, List.set_cons_zero]
  refine wpAnyF_takeP (i := 31) (oi := _) (v := ?vv28) (some 59) [] rfl rfl (by kernel_rfl) (by kernel_rfl) (by kernel_rfl) (by kernel_rfl) (by kernel_rfl) (fun _ _ _ h => h) (Or.inl ⟨by rfl, ?yy28⟩) hSd ?rr28
  case yy28 => (intro wq hSq; obtain ⟨_, _, _, _, _, _, _, _, _, _, _, _, _, _⟩ := hSq; go_simp <;> with_reducible rfl)
  simp only [Act.put, List.setIfInBounds_toArray, List.set_cons_succ, List.set_cons_zero]
  refine wpAnyF_takeP (i := 32) (oi := _) (v := ?vv29) (some 60) [] rfl rfl (by kernel_rfl) (by kernel_rfl) (by kernel_rfl) (by kernel_rfl) (by kernel_rfl) (fun _ _ _ h => h) (Or.inl ⟨by rfl, ?yy29⟩) hSd ?rr29
  case yy29 => (intro wq hSq; obtain ⟨_, _, _, _, _, _, _, _, _, _, _, _, _, _⟩ := hSq; go_simp <;> with_reducible rfl)
  simp only [Act.put, List.setIfInBounds_toArray, List.set_cons_succ, List.set_cons_zero]
  refine wpAnyF_takeP (i := 33) (oi := _) (v := ?vv30) (some 61) [] rfl rfl (by kernel_rfl) (by kernel_rfl) (by kernel_rfl) (by kernel_rfl) (by kernel_rfl) (fun _ _ _ h => h) (Or.inl ⟨by rfl, ?yy30⟩) hSd ?rr30
  case yy30 => (intro wq hSq; obtain ⟨_, _, _, _, _, _, _, _, _, _, _, _, _, _⟩ := hSq; go_simp <;> with_reducible rfl)
  simp only [Act.put, List.setIfInBounds_toArray, List.set_cons_succ, List.set_cons_zero]
  refine wpAnyF_takeP (i := 34) (oi := _) (v := ?vv31) (some 62) [] rfl rfl (by kernel_rfl) (by kernel_rfl) (by kernel_rfl) (by kernel_rfl) (by kernel_rfl) (fun _ _ _ h => h) (Or.inl ⟨by rfl, ?yy31⟩) hSd ?rr31
  case yy31 => (intro wq hSq; obtain ⟨_, _, _, _, _, _, _, _, _, _, _, _, _, _⟩ := hSq; go_simp <;> with_reducible rfl)
  simp only [Act.put, List.setIfInBounds_toArray, List.set_cons_succ, List.set_cons_zero]
  refine wpAnyF_takeP (i := 35) (oi := _) (v := ?vv32) (some 63) [] rfl rfl (by kernel_rfl) (by kernel_rfl) (by kernel_rfl) (by kernel_rfl) (by kernel_rfl) (fun _ _ _ h => h) (Or.inl ⟨by rfl, ?yy32⟩) hSd ?rr32
  case yy32 => (intro wq hSq; obtain ⟨_, _, _, _, _, _, _, _, _, _, _, _, _, _⟩ := hSq; go_simp <;> with_reducible rfl)
  simp only [Act.put, List.setIfInBounds_toArray, List.set_cons_succ, List.set_cons_zero]
  refine wpAnyF_takeP (i := 36) (oi := _) (v := ?vv33) (some 64) [] rfl rfl (by kernel_rfl) (by kernel_rfl) (by kernel_rfl) (by kernel_rfl) (by kernel_rfl) (fun _ _ _ h => h) (Or.inl ⟨by rfl, ?yy33⟩) hSd ?rr33
  case yy33 => (intro wq hSq; obtain ⟨_, _, _, _, _, _, _, _, _, _, _, _, _, _⟩ := hSq; go_simp <;> with_reducible rfl)
  simp only [Act.put, List.setIfInBounds_toArray, List.set_cons_succ, List.set_cons_zero]
  refine wpAnyF_takeP (i := 37) (oi := _) (v := ?vv34) (some 65) [] rfl rfl (by kernel_rfl) (by kernel_rfl) (by kernel_rfl) (by kernel_rfl) (by kernel_rfl) (fun _ _ _ h => h) (Or.inl ⟨by rfl, ?yy34⟩) hSd ?rr34
  case yy34 => (intro wq hSq; obtain ⟨_, _, _, _, _, _, _, _, _, _, _, _, _, _⟩ := hSq; go_simp <;> with_reducible rfl)
  simp only [Act.put, List.setIfInBounds_toArray, List.set_cons_succ, List.set_cons_zero]
  refine wpAnyF_takeP (i := 38) (oi := _) (v := ?vv35) (some 66) [] rfl rfl (by kernel_rfl) (by kernel_rfl) (by kernel_rfl) (by kernel_rfl) (by kernel_rfl) (fun _ _ _ h => h) (Or.inl ⟨by rfl, ?yy35⟩) hSd ?rr35
  case yy35 => (intro wq hSq; obtain ⟨_, _, _, _, _, _, _, _, _, _, _, _, _, _⟩ := hSq; go_simp <;> with_reducible rfl)
  simp only [Act.put, List.setIfInBounds_toArray, List.set_cons_succ, List.set_cons_zero]
  refine wpAnyF_takeP (i := 39) (oi := _) (v := ?vv36) (some 67) [] rfl rfl (by kernel_rfl) (by kernel_rfl) (by kernel_rfl) (by kernel_rfl) (by kernel_rfl) (fun _ _ _ h => h) (Or.inl ⟨by rfl, ?yy36⟩) hSd ?rr36
  case yy36 => (intro wq hSq; obtain ⟨_, _, _, _, _, _, _, _, _, _, _, _, _, _⟩ := hSq; go_simp <;> with_reducible rfl)
  simp only [Act.put, List.setIfInBounds_toArray, List.set_cons_succ, List.set_cons_zero]
  refine wpAnyF_takeP (i := 40) (oi := _) (v := ?vv37) (some 68) [] rfl rfl (by kernel_rfl) (by kernel_rfl) (by kernel_rfl) (by kernel_rfl) (by kernel_rfl) (fun _ _ _ h => h) (Or.inl ⟨by rfl, ?yy37⟩) hSd ?rr37
  case yy37 => (intro wq hSq; obtain ⟨_, _, _, _, _, _, _, _, _, _, _, _, _, _⟩ := hSq; go_simp <;> with_reducible rfl)
  simp only [Act.put, List.setIfInBounds_toArray, List.set_cons_succ, List.set_cons_zero]
  refine wpAnyF_takeP (i := 41) (oi := _) (v := ?vv38) (some 69) [] rfl rfl (by kernel_rfl) (by kernel_rfl) (by kernel_rfl) (by kernel_rfl) (by kernel_rfl) (fun _ _ _ h => h) (Or.inl ⟨by rfl, ?yy38⟩) hSd ?rr38
  case yy38 => (intro wq hSq; obtain ⟨_, _, _, _, _, _, _, _, _, _, _, _, _, _⟩ := hSq; go_simp <;> with_reducible rfl)
  simp only [Act.put, List.setIfInBounds_toArray, List.set_cons_succ, List.set_cons_zero]
  refine wpAnyF_takeP (i := 42) (oi := _) (v := ?vv39) (some 70) [] rfl rfl (by kernel_rfl) (by kernel_rfl) (by kernel_rfl) (by kernel_rfl) (by kernel_rfl) (fun _ _ _ h => h) (Or.inl ⟨by rfl, ?yy39⟩) hSd ?rr39
  case yy39 => (intro wq hSq; obtain ⟨_, _, _, _, _, _, _, _, _, _, _, _, _, _⟩ := hSq; go_simp <;> with_reducible rfl)
  simp only [Act.put, List.setIfInBounds_toArray, List.set_cons_succ, List.set_cons_zero]
  refine wpAnyF_takeP (i := 43) (oi := _) (v := ?vv40) (some 71) [] rfl rfl (by kernel_rfl) (by kernel_rfl) (by kernel_rfl) (by kernel_rfl) (by kernel_rfl) (fun _ _ _ h => h) (Or.inl ⟨by rfl, ?yy40⟩) hSd ?rr40
  case yy40 => (intro wq hSq; obtain ⟨_, _, _, _, _, _, _, _, _, _, _, _, _, _⟩ := hSq; go_simp <;> with_reducible rfl)
  simp only [Act.put, List.setIfInBounds_toArray, List.set_cons_succ, List.set_cons_zero]
  refine wpAnyF_takeP (i := 47) (oi := _) (v := ?vv41) (some 75) [] rfl rfl (by kernel_rfl) (by kernel_rfl) (by kernel_rfl) (by kernel_rfl) (by kernel_rfl) (fun _ _ _ h => h) (Or.inl ⟨by rfl, ?yy41⟩) hSd ?rr41
  case yy41 => (intro wq hSq; obtain ⟨_, _, _, _, _, _, _, _, _, _, _, _, _, _⟩ := hSq; go_simp <;> with_reducible rfl)
  simp only [Act.put, List.setIfInBounds_toArray, List.set_cons_succ, List.set_cons_zero]
  refine wpAnyF_takeP (i := 44) (oi := _) (v := ?vv42) (some 72) [] rfl rfl (by kernel_rfl) (by kernel_rfl) (by kernel_rfl) (by kernel_rfl) (by kernel_rfl) (fun _ _ _ h => h) (Or.inl ⟨by rfl, ?yy42⟩) hSd ?rr42
  case yy42 => (intro wq hSq; obtain ⟨_, _, _, _, _, _, _, _, _, _, _, _, _, _⟩ := hSq; go_simp <;> with_reducible rfl)
  simp only [Act.put, List.setIfInBounds_toArray, List.set_cons_succ, List.set_cons_zero]
  refine wpAnyF_takeP (i := 48) (oi := _) (v := ?vv43) (some 76) [] rfl rfl (by kernel_rfl) (by kernel_rfl) (by kernel_rfl) (by kernel_rfl) (by kernel_rfl) (fun _ _ _ h => h) (Or.inl ⟨by rfl, ?yy43⟩) hSd ?rr43
  case yy43 => (intro wq hSq; obtain ⟨_, _, _, _, _, _, _, _, _, _, _, _, _, _⟩ := hSq; go_simp <;> with_reducible rfl)
  simp only [Act.put, List.setIfInBounds_toArray, List.set_cons_succ, List.set_cons_zero]
  refine wpAnyF_takeP (i := 45) (oi := _) (v := ?vv44) (some 73) [] rfl rfl (by kernel_rfl) (by kernel_rfl) (by kernel_rfl) (by kernel_rfl) (by kernel_rfl) (fun _ _ _ h => h) (Or.inl ⟨by rfl, ?yy44⟩) hSd ?rr44
  case yy44 => (intro wq hSq; obtain ⟨_, _, _, _, _, _, _, _, _, _, _, _, _, _⟩ := hSq; go_simp <;> with_reducible rfl)
  simp only [Act.put, List.setIfInBounds_toArray, List.set_cons_succ, List.set_cons_zero]
  refine wpAnyF_takeP (i := 49) (oi := _) (v := ?vv45) (some 77) [] rfl rfl (by kernel_rfl) (by kernel_rfl) (by kernel_rfl) (by kernel_rfl) (by kernel_rfl) (fun _ _ _ h => h) (Or.inl ⟨by rfl, ?yy45⟩) hSd ?rr45
  case yy45 => (intro wq hSq; obtain ⟨_, _, _, _, _, _, _, _, _, _, _, _, _, _⟩ := hSq; go_simp <;> with_reducible rfl)
  simp only [Act.put, List.setIfInBounds_toArray, List.set_cons_succ, List.set_cons_zero]
  refine wpAnyF_takeP (i := 46) (oi := _) (v := ?vv46) (some 74) [] rfl rfl (by kernel_rfl) (by kernel_rfl) (by kernel_rfl) (by kernel_rfl) (by kernel_rfl) (fun _ _ _ h => h) (Or.inl ⟨by rfl, ?yy46⟩) hSd ?rr46
  case yy46 => (intro wq hSq; obtain ⟨_, _, _, _, _, _, _, _, _, _, _, _, _, _⟩ := hSq; go_simp <;> with_reducible rfl)
  simp only [Act.put, List.setIfInBounds_toArray, List.set_cons_succ, List.set_cons_zero]
  refine wpAnyF_takeP (i := 50) (oi := _) (v := ?vv47) (some 78) [] rfl rfl (by kernel_rfl) (by kernel_rfl) (by kernel_rfl) (by kernel_rfl) (by kernel_rfl) (fun _ _ _ h => h) (Or.inl ⟨by rfl, ?yy47⟩) hSd ?rr47
  case yy47 => (intro wq hSq; obtain ⟨_, _, _, _, _, _, _, _, _, _, _, _, _, _⟩ := hSq; go_simp <;> with_reducible rfl)
  simp only [Act.put, List.setIfInBounds_toArray, List.set_cons_succ, List.set_cons_zero]
  refine wpAnyF_takeP (i := 51) (oi := _) (v := ?vv48) (some 79) [] rfl rfl (by kernel_rfl) (by kernel_rfl) (by kernel_rfl) (by kernel_rfl) (by kernel_rfl) (fun _ _ _ h => h) (Or.inl ⟨by rfl, ?yy48⟩) hSd ?rr48
  case yy48 => (intro wq hSq; obtain ⟨_, _, _, _, _, _, _, _, _, _, _, _, _, _⟩ := hSq; go_simp <;> with_reducible rfl)
  simp only [Act.put, List.setIfInBounds_toArray, List.set_cons_succ, List.set_cons_zero]
  refine wpAnyF_takeP (i := 52) (oi := _) (v := ?vv49) (some 80) [] rfl rfl (by kernel_rfl) (by kernel_rfl) (by kernel_rfl) (by kernel_rfl) (by kernel_rfl) (fun _ _ _ h => h) (Or.inl ⟨by rfl, ?yy49⟩) hSd ?rr49
  case yy49 => (intro wq hSq; obtain ⟨_, _, _, _, _, _, _, _, _, _, _, _, _, _⟩ := hSq; go_simp <;> with_reducible rfl)
  simp only [Act.put, List.setIfInBounds_toArray, List.set_cons_succ, List.set_cons_zero]
  refine wpAnyF_last (o := _) (by kernel_rfl) rfl (fun K' hK => ?_)
  rw [if_pos (by rfl)]
  go_simp
  refine hK.out _ _ ?_
  clear hK
  refine wpAnyF_done (by kernel_rfl) ?_ _
  try simp only [Act.put]
  go_wp2
  go_ret
  exact ⟨rfl, HBW.out.trans (hBV3.mono HBW.out.size)⟩
end Go.Proofs.Ytolcndchfnifhab

namespace Go.Proofs.Ytolcndchfnifhab
open Go.RowKit
theorem at_any (W H : Int) (v : Value) (zs : List Int) (x y : Int) (X Y WN k : Nat) (w : World) (hv : IsInts w v zs) (hW : W = WN) (hx : x = X) (hy : y = Y) (hm : Y * WN + X = k) (hk : k < zs.length) (hk2 : zs.length ≤ 4096) :
    Calls Try.prog 71 #[.agg #[.int .i64 W, .int .i64 H, v], .int .i64 x, .int .i64 y] w fun e w' => e = .returned (.int .i64 (zs.getD k 0)) ∧ Below w.heap.size w w' := by
  subst hx hy
  obtain ⟨ao, ca, rfl, hla, hc⟩ := hv
  obtain ⟨bk, off, hao, hbl, hcell⟩ : ∃ b off, ao = some ⟨b, off, none⟩ ∧ b < w.heap.size ∧ ∀ j (h : j < zs.length), w.cell? ⟨b, off + j, none⟩ = some (.int .i64 zs[j]) := by
    rcases hc with h | h
    · subst h; simp at hk
    · exact h
  subst hao hW
  have hc1 : ∀ o, (w.alloc o).cell? ⟨bk, off + k, none⟩ = some (.int .i64 (zs.getD k 0)) := fun o => by
    rw [World.cell?_of_block (w := w) (Below.heap_alloc w o bk hbl), hcell k hk]; simp [List.getD, hk]
  clear hcell hc
  obtain ⟨M, hM⟩ : ∃ M : Nat, M = Y * WN := ⟨_, rfl⟩
  have hmm : (Y : Int) * (WN : Int) = (M : Int) := by rw [hM]; simp
  rw [← hM] at hm
  have hat : (M : Int) + (X : Int) = (k : Int) := by omega
  clear hM
  generalize zs.getD k 0 = Z at *
  go_enter Try.func71, Try.ntmps71
  go_wp2
  go_ret
  exact ⟨rfl, bel_alloc _ _⟩
end Go.Proofs.Ytolcndchfnifhab

namespace Go.Proofs.Ytolcndchfnifhab
set_option linter.unusedVariables false
open Go.RowKit
def LvJ (w : World) (W H : Nat) (qv : Value) (m : Nat → Int) (L : List Int) (k : Nat) (wr : World) : Prop :=
  ∃ so scap, wr.heap[w.heap.size + 3]? = some (.cells #[.int .i64 W, .int .i64 H, .slice so k scap] 24 (0, 0)) ∧ wr.ownsRow w.heap.size 3 1 (.slice so k scap) k ((L.take k).map (Value.int .i64)) ∧ wr.heap[w.heap.size]? = some (.cells #[.int .i64 W, .int .i64 H, qv] 24 (0, 0)) ∧ wr.heap[w.heap.size + 2]? = some (.cells #[.int .i64 0, .int .i64 0, .slice none 0 0] 24 (0, 0)) ∧ wr.heap[w.heap.size + 1]? = some (.cells (fourA m) 72 (0, 0)) ∧ Below w.heap.size w wr
set_option maxRecDepth 100000 in
set_option maxHeartbeats 6400000 in
theorem levelled_any (W H : Nat) (hW1 : 1 ≤ W) (hW : W ≤ 64) (hH : H ≤ 64) (v : Value) (zs : List Int) (m : Nat → Int) (white : Int) (hw0 : white ≤ 65535) (hm : ∀ k, k < 4 → 0 ≤ m k ∧ m k ≤ white - 1) (hlen : zs.length = H * W) (hzs : allIn 0 65535 zs = true) (w : World) (hv : IsInts w v zs) :
    Calls Try.prog 92 #[.agg #[.int .i64 W, .int .i64 H, v], .agg (fourA m), .int .i64 white] w fun e w' => ∃ r, e = .returned (.agg #[.int .i64 W, .int .i64 H, r]) ∧ IsInts w' r ((List.range zs.length).map (levelV zs W m white)) ∧ Below w.heap.size w w' ∧ Fresh w.heap.size r := by
  have HZS := hide hzs
  have HV := hide hv
  have HLEN := hide hlen
  have HMM := hide hm
  have hlb : zs.length ≤ 4096 := by rw [hlen]; exact Nat.le_trans (Nat.mul_le_mul hH hW) (by decide)
  have hLL : ((List.range zs.length).map (levelV zs W m white)).length = zs.length := by simp
  have HLG := hide (show ∀ j, j < zs.length → ((List.range zs.length).map (levelV zs W m white))[j]? = some (levelV zs W m white j) from fun j hj => by simp [hj])
  obtain ⟨L, hL⟩ : ∃ L, (List.range zs.length).map (levelV zs W m white) = L := ⟨_, rfl⟩
  rw [hL] at hLL HLG ⊢
  have HLL := hide hLL
  clear hL hLL hzs hlen hm
  obtain ⟨ao, ca, rfl, hla, hc⟩ := hv
  clear hc
  obtain ⟨i0, hi, hz0, hz1, hz2⟩ := info_parts Try.infoInt
  go_enter Try.func92, Try.ntmps92
  go_wp2_with fail
  obtain ⟨a1, a2, a3, a4⟩ := al4 w (Obj.cells #[.int .i64 W, .int .i64 H, .slice ao zs.length ca] 24) (Obj.cells (fourA m) 72) (Obj.cells #[.int .i64 0, .int .i64 0, .slice none 0 0] 24) (Obj.cells #[.int .i64 W, .int .i64 H, .slice none 0 0] 24)
  have hB := be4 w (Obj.cells #[.int .i64 W, .int .i64 H, .slice ao zs.length ca] 24) (Obj.cells (fourA m) 72) (Obj.cells #[.int .i64 0, .int .i64 0, .slice none 0 0] 24) (Obj.cells #[.int .i64 W, .int .i64 H, .slice none 0 0] 24)
  generalize (((w.alloc (Obj.cells #[.int .i64 W, .int .i64 H, .slice ao zs.length ca] 24)).alloc (Obj.cells (fourA m) 72)).alloc (Obj.cells #[.int .i64 0, .int .i64 0, .slice none 0 0] 24)).alloc (Obj.cells #[.int .i64 W, .int .i64 H, .slice none 0 0] 24) = U at *
  go_loopw [8] (fun i wr => ∃ Y : Nat, Y ≤ H ∧ i = .int .i64 Y ∧ LvJ w W H (.slice ao zs.length ca) m L (Y * W) wr) (fun i _ => H - (intOf i).toNat)
  case atStart => exact ⟨0, Nat.zero_le _, rfl, none, 0, by rw [Nat.zero_mul]; exact a4, by rw [Nat.zero_mul]; exact World.ownsRow_nil _ _ _ _, a1, a3, a2, hB⟩
  case round =>
    clear a1 a2 a3 a4 hB
    obtain ⟨Y, hY, rfl, hJ⟩ := hrel
    have HJ := hide hJ
    obtain ⟨so, scap, j1, j2, j3, j4, j6, j5⟩ := hJ
    obtain ⟨q0, q1, q2⟩ := cells3 j3
    by_cases hlt : Y < H
    · have hd : decide ((Y : Int) < (H : Int)) = true := by simp; omega
      obtain ⟨M, hM⟩ : ∃ M, M = Y * W := ⟨_, rfl⟩
      rw [← hM] at HJ j1 j2
      have hMM : M + W ≤ zs.length := by rw [HLEN.out, hM, ← Nat.succ_mul]; exact Nat.mul_le_mul_right _ hlt
      have HM := hide hM
      clear hM
      go_wp2_with fail
      go_loopw [9] (fun i wr => ∃ X : Nat, X ≤ W ∧ i = .int .i64 X ∧ LvJ w W H (.slice ao zs.length ca) m L (M + X) wr) (fun i _ => W - (intOf i).toNat)
      case atStart => exact ⟨0, Nat.zero_le _, rfl, HJ.out⟩
      case round =>
        clear j1 j2 j3 j4 j5 j6 q0 q1 q2 HJ hd
        obtain ⟨X, hX, rfl, hJ⟩ := hrel
        obtain ⟨so, scap, j1, j2, j3, j4, j6, j5⟩ := hJ
        obtain ⟨q0, q1, q2⟩ := cells3 j3
        by_cases hlx : X < W
        · have hdx : decide ((X : Int) < (W : Int)) = true := by simp; omega
          obtain ⟨k, hkk⟩ : ∃ k, M + X = k := ⟨_, rfl⟩
          rw [hkk] at j1 j2
          have hk : k < zs.length := by omega
          have HK := hide hkk
          have hkY : Y * W + X = k := by rw [← HM.out]; exact hkk
          obtain ⟨hpm, hpd⟩ : (Y * W + X) % W = X ∧ (Y * W + X) / W = Y := place_of hlx
          rw [hkY] at hpm hpd
          have HT := hide (show levelV zs W m white k = clampV ((zAt zs k - m (k / W % 2 * 2 + k % W % 2)) * 65535 / (white - m (k / W % 2 * 2 + k % W % 2))) from rfl)
          rw [hpm, hpd] at HT
          obtain ⟨a, ha⟩ : ∃ a, Y % 2 = a := ⟨_, rfl⟩
          obtain ⟨b, hb⟩ : ∃ b, X % 2 = b := ⟨_, rfl⟩
          have hya : (Y : Int) % 2 = (a : Int) := by rw [← ha]; rfl
          have hxb : (X : Int) % 2 = (b : Int) := by rw [← hb]; rfl
          obtain ⟨A2, hA2⟩ : ∃ A2, a * 2 = A2 := ⟨_, rfl⟩
          have hi1 : (a : Int) * 2 = (A2 : Int) := by omega
          obtain ⟨ix, hix⟩ : ∃ ix, A2 + b = ix := ⟨_, rfl⟩
          have hi2 : (A2 : Int) + (b : Int) = (ix : Int) := by omega
          have hix4 : ix < 4 := by omega
          have hixI : (ix : Int) < 4 := by omega
          rw [ha, hb, hA2, hix] at HT
          obtain ⟨hm0, hm1⟩ := HMM.out ix hix4
          have kb0 : wr.cell? ⟨w.heap.size + 1, ix, none⟩ = some (.int .i64 (m ix)) := by rw [Lib.cell_of_heap j6, fourA_get m ix hix4]
          obtain ⟨bl, hbl⟩ : ∃ bl, m ix = bl := ⟨_, rfl⟩
          rw [hbl] at HT hm0 hm1 kb0
          have hzr := zAt_ok HZS.out k
          have HAT := hide (fun (u : World) (hu : Below wr.heap.size wr u) => at_any W H (.slice ao zs.length ca) zs X Y X Y W k u (HV.out.below (j5.trans (hu.mono j5.size)) (Nat.le_refl _)) rfl rfl rfl hkY hk hlb)
          rw [show zs.getD k 0 = zAt zs k from rfl] at HAT
          obtain ⟨z, hz⟩ : ∃ z, zAt zs k = z := ⟨_, rfl⟩
          rw [hz] at HT hzr HAT
          obtain ⟨hzr1, hzr2⟩ := hzr
          obtain ⟨d, hdd⟩ : ∃ d, white - bl = d := ⟨_, rfl⟩
          rw [hdd] at HT
          obtain ⟨n, hn⟩ : ∃ n, (z - bl) * 65535 = n := ⟨_, rfl⟩
          rw [hn] at HT
          have HDN := hide (fun u => downB_any n d (by omega) (by omega) (by omega) (by omega) u)
          have hwd : IntKind.i64.wrap d = d := IntWalk.i64_in _ (by omega)
          have hwe : IntKind.i64.wrap (z - bl) = z - bl := IntWalk.i64_in _ (by omega)
          have hwn : IntKind.i64.wrap n = n := IntWalk.i64_in _ (by omega)
          obtain ⟨y, hy⟩ : ∃ y, clampV (n / d) = y := ⟨_, rfl⟩
          rw [hy] at HT
          have HCL := hide (fun u => clamp_any (n / d) u)
          rw [hy] at HCL
          have HST := hide (show (L.take (k + 1)).map (Value.int .i64) = (L.take k).map (Value.int .i64) ++ [.int .i64 y] by
            have hk2 : k < L.length := by rw [HLL.out]; exact hk
            have hg := HLG.out k hk
            rw [List.getElem?_eq_getElem hk2] at hg
            rw [List.take_succ_eq_append_getElem hk2, Option.some.inj hg, List.map_append, HT.out]; rfl)
          obtain ⟨XS, hXS⟩ : ∃ XS, (L.take k).map (Value.int .i64) = XS := ⟨_, rfl⟩
          rw [hXS] at j2 HST
          have hbW := j5.size
          have HL1 := hide (show k + 1 ≤ maxLen by unfold maxLen; omega)
          have HL2 := hide (show (k + 1) * 8 ≤ 140737488355328 by omega)
          clear ha hb hA2 hix hbl hz hy hXS hpm hpd hkY hkk
          have HS := hide (show ∀ v, Below wr.heap.size wr v → v.cell? ⟨w.heap.size + 1 + 1 + 1, 2, none⟩ = some (.slice so k scap) ∧ v.cell? ⟨w.heap.size, 0, none⟩ = some (.int .i64 W) ∧ v.cell? ⟨w.heap.size, 1, none⟩ = some (.int .i64 H) ∧ v.cell? ⟨w.heap.size, 2, none⟩ = some (.slice ao zs.length ca) from fun v h => by
            obtain ⟨_, _, t2⟩ := cells3 ((h.block (w.heap.size + 3) (Array.getElem?_eq_some_iff.1 j1).1).trans j1)
            exact ⟨t2, cells3 ((h.block _ (Array.getElem?_eq_some_iff.1 j3).1).trans j3)⟩)
          have nq := own_ne j2 j3 (by decide)
          have HTL := hide (show ∀ (V1 : World) (gg cap : Nat) (w3 : World), Below wr.heap.size wr V1 → V1.grownBy w3 (Value.slice so k scap).ownBlock → w3.ownsRow w.heap.size 3 1 (.slice (some ⟨gg, 0, none⟩) (k + 1) cap) (k + 1) (XS ++ [.int .i64 y]) → (w3.cell? ⟨w.heap.size + 1 + 1 + 1, 2, none⟩ = some (.slice so k scap) ∧ w3.cell? ⟨w.heap.size, 0, none⟩ = some (.int .i64 W) ∧ w3.cell? ⟨w.heap.size, 1, none⟩ = some (.int .i64 H) ∧ w3.cell? ⟨w.heap.size, 2, none⟩ = some (.slice ao zs.length ca)) ∧ w3.frozen? ⟨w.heap.size + 1 + 1 + 1, 2, none⟩ = false ∧ LvJ w W H (.slice ao zs.length ca) m L (k + 1) (w3.setCell ⟨w.heap.size + 1 + 1 + 1, 2, none⟩ (.slice (some ⟨gg, 0, none⟩) (k + 1) cap)) from fun V1 gg cap w3 h1 h2 h3 => by
            obtain ⟨t1, t2, t3, t4, t5, t6, t7⟩ := app_gen (by decide) j1 j2 j5 (Nat.le_refl _) (by omega) h1 h2 h3
            exact ⟨⟨t2, cells3 ((t1 _ (Array.getElem?_eq_some_iff.1 j3).1 nq).trans j3)⟩, t3, some ⟨gg, 0, none⟩, cap, t4, by rw [HST.out]; exact t5, (t7 _ (Array.getElem?_eq_some_iff.1 j3).1 nq (by omega)).trans j3, (t7 _ (Array.getElem?_eq_some_iff.1 j4).1 (own_ne j2 j4 (by decide)) (by omega)).trans j4, (t7 _ (Array.getElem?_eq_some_iff.1 j6).1 (own_ne j2 j6 (by decide)) (by omega)).trans j6, t6⟩)
          have hWd : Below wr.heap.size wr wr.drew := (Below.refl _ _).drew
          go_wp2_with fail
          have hSd := HS.out _ hWd
          clear q0 q1 q2 hdx j1 j3 j4 j6 kb0
          have hmx : Try.prog.follows .mixedOrders = true := by kernel_rfl
          refine wp_region_last (S := fun v : World => v.cell? ⟨w.heap.size + 1 + 1 + 1, 2, none⟩ = some (.slice so k scap) ∧ v.cell? ⟨w.heap.size, 0, none⟩ = some (.int .i64 W) ∧ v.cell? ⟨w.heap.size, 1, none⟩ = some (.int .i64 H) ∧ v.cell? ⟨w.heap.size, 2, none⟩ = some (.slice ao zs.length ca)) (f := 17) hmx ?_
          show wpAnyF _ _ _ _ _ _ 18 _ _ wr.drew
          refine wpAnyF_takeD (i := 0) (oi := _) (v := ?vv1) (some 36) rfl rfl (by kernel_rfl) (by kernel_rfl) (by kernel_rfl) (by kernel_rfl) (by kernel_rfl) (fun _ _ _ h => h) (Or.inl ⟨by rfl, ?yy1⟩) hSd ?rr1
          case yy1 => (intro wq hSq; obtain ⟨_, _, _, _⟩ := hSq; go_simp <;> with_reducible rfl)
          simp only [Act.put, List.setIfInBounds_toArray, List.set_cons_succ, List.set_cons_zero]
          refine wpAnyF_takeD (i := 2) (oi := _) (v := ?vv2) (some 38) rfl rfl (by kernel_rfl) (by kernel_rfl) (by kernel_rfl) (by kernel_rfl) (by kernel_rfl) (fun _ _ _ h => h) (Or.inl ⟨by rfl, ?yy2⟩) hSd ?rr2
          case yy2 => (intro wq hSq; obtain ⟨_, _, _, _⟩ := hSq; go_simp <;> with_reducible rfl)
          simp only [Act.put, List.setIfInBounds_toArray, List.set_cons_succ, List.set_cons_zero]
          refine wpAnyF_takeD (i := 3) (oi := _) (v := ?vv3) (some 39) rfl rfl (by kernel_rfl) (by kernel_rfl) (by kernel_rfl) (by kernel_rfl) (by kernel_rfl) (fun _ _ _ h => h) (Or.inl ⟨by rfl, ?yy3⟩) hSd ?rr3
          case yy3 => (intro wq hSq; obtain ⟨_, _, _, _⟩ := hSq; go_simp <;> with_reducible rfl)
          simp only [Act.put, List.setIfInBounds_toArray, List.set_cons_succ, List.set_cons_zero]
          refine wpAnyF_takeD (i := 4) (oi := _) (v := ?vv4) (some 40) rfl rfl (by kernel_rfl) (by kernel_rfl) (by kernel_rfl) (by kernel_rfl) (by kernel_rfl) (fun _ _ _ h => h) (Or.inl ⟨by rfl, ?yy4⟩) hSd ?rr4
          case yy4 => (intro wq hSq; obtain ⟨_, _, _, _⟩ := hSq; go_simp <;> with_reducible rfl)
          simp only [Act.put, List.setIfInBounds_toArray, List.set_cons_succ, List.set_cons_zero]
          refine wpAnyF_takeD (i := 6) (oi := _) (v := ?vv5) (some 42) rfl rfl (by kernel_rfl) (by kernel_rfl) (by kernel_rfl) (by kernel_rfl) (by kernel_rfl) (fun _ _ _ h => h) (Or.inl ⟨by rfl, ?yy5⟩) hSd ?rr5
          case yy5 => (intro wq hSq; obtain ⟨_, _, _, _⟩ := hSq; go_simp <;> with_reducible rfl)
          simp only [Act.put, List.setIfInBounds_toArray, List.set_cons_succ, List.set_cons_zero]
          refine wpAnyF_takeD (i := 9) (oi := _) (v := ?vv6) (some 45) rfl rfl (by kernel_rfl) (by kernel_rfl) (by kernel_rfl) (by kernel_rfl) (by kernel_rfl) (fun _ _ _ h => h) (Or.inl ⟨by rfl, ?yy6⟩) hSd ?rr6
          case yy6 => (intro wq hSq; obtain ⟨_, _, _, _⟩ := hSq; go_simp <;> with_reducible rfl)
          simp only [Act.put, List.setIfInBounds_toArray, List.set_cons_succ, List.set_cons_zero]
          refine wpAnyF_takeD (i := 10) (oi := _) (v := ?vv7) (some 46) rfl rfl (by kernel_rfl) (by kernel_rfl) (by kernel_rfl) (by kernel_rfl) (by kernel_rfl) (fun _ _ _ h => h) (Or.inl ⟨by rfl, ?yy7⟩) hSd ?rr7
          case yy7 => (intro wq hSq; obtain ⟨_, _, _, _⟩ := hSq; go_simp <;> with_reducible rfl)
          simp only [Act.put, List.setIfInBounds_toArray, List.set_cons_succ, List.set_cons_zero]
          refine wpAnyF_takeD (i := 1) (oi := _) (v := ?vv8) (some 37) rfl rfl (by kernel_rfl) (by kernel_rfl) (by kernel_rfl) (by kernel_rfl) (by kernel_rfl) (fun _ _ _ h => h) (Or.inl ⟨by rfl, ?yy8⟩) hSd ?rr8
          case yy8 => (intro wq hSq; obtain ⟨_, _, _, _⟩ := hSq; go_simp <;> with_reducible rfl)
          simp only [Act.put, List.setIfInBounds_toArray, List.set_cons_succ, List.set_cons_zero]
          refine wpAnyF_takeD (i := 11) (oi := _) (v := ?vv9) (some 47) rfl rfl (by kernel_rfl) (by kernel_rfl) (by kernel_rfl) (by kernel_rfl) (by kernel_rfl) (fun _ _ _ h => h) (Or.inl ⟨by rfl, ?yy9⟩) hSd ?rr9
          case yy9 => (intro wq hSq; obtain ⟨_, _, _, _⟩ := hSq; go_simp <;> with_reducible rfl)
          simp only [Act.put, List.setIfInBounds_toArray, List.set_cons_succ, List.set_cons_zero]
          refine wpAnyF_one (i := 5) (o := _) (by kernel_rfl) rfl (fun K' hK => ?_)
          rw [if_pos (by rfl)]
          go_simp
          refine (HAT.out _ hWd).mono ?_
          rintro e V0 ⟨rfl, hb0⟩
          have hB0 : Below wr.heap.size wr V0 := hWd.trans (hb0.mono hWd.size)
          have hSd := HS.out _ hB0
          refine hK.out _ _ hSd ?_
          clear hK
          try simp only [Act.put]
          refine wpAnyF_takeD (i := 7) (oi := _) (v := ?vv10) (some 43) rfl rfl (by kernel_rfl) (by kernel_rfl) (by kernel_rfl) (by kernel_rfl) (by kernel_rfl) (fun _ _ _ h => h) (Or.inl ⟨by rfl, ?yy10⟩) hSd ?rr10
          case yy10 => (intro wq hSq; obtain ⟨_, _, _, _⟩ := hSq; go_simp <;> with_reducible rfl)
          simp only [Act.put, List.setIfInBounds_toArray, List.set_cons_succ, List.set_cons_zero]
          refine wpAnyF_takeD (i := 8) (oi := _) (v := ?vv11) (some 44) rfl rfl (by kernel_rfl) (by kernel_rfl) (by kernel_rfl) (by kernel_rfl) (by kernel_rfl) (fun _ _ _ h => h) (Or.inl ⟨by rfl, ?yy11⟩) hSd ?rr11
          case yy11 => (intro wq hSq; obtain ⟨_, _, _, _⟩ := hSq; go_simp <;> with_reducible rfl)
          simp only [Act.put, List.setIfInBounds_toArray, List.set_cons_succ, List.set_cons_zero]
          refine wpAnyF_one (i := 12) (o := _) (by kernel_rfl) rfl (fun K' hK => ?_)
          rw [if_pos (by rfl)]
          go_simp
          refine (HDN.out _).mono ?_
          rintro e Vx ⟨rfl, rfl⟩
          have hSd := hSd
          refine hK.out _ _ hSd ?_
          clear hK
          try simp only [Act.put]
          refine wpAnyF_one (i := 13) (o := _) (by kernel_rfl) rfl (fun K' hK => ?_)
          rw [if_pos (by rfl)]
          go_simp
          refine (HCL.out _).mono ?_
          rintro e Vy ⟨rfl, rfl⟩
          have hSd := hSd
          refine hK.out _ _ hSd ?_
          clear hK
          try simp only [Act.put]
          refine wpAnyF_one (i := 14) (o := _) (by kernel_rfl) rfl (fun K' hK => ?_)
          rw [if_pos (by rfl)]
          go_simp
          have hBs : Below wr.heap.size wr (V0.alloc (Obj.cells #[.int .i64 y] 3)) := hB0.alloc hB0.size _
          have hSd := HS.out _ hBs
          refine hK.out _ _ hSd ?_
          clear hK
          try simp only [Act.put]
          refine wpAnyF_one (i := 15) (o := _) (by kernel_rfl) rfl (fun K' hK => ?_)
          refine step_append_lies _ rfl _ _ 22 rfl w.heap.size 3 i0 (.int .i64 0) 1 8 Try.underlying22 hi hz0 hz1 hz2 rfl (by decide) (.slice so k scap) k XS rfl ((ownsRow_below j2 hB0).alloc _) ⟨V0.heap.size, 0, none⟩ 1 1 [.int .i64 y] rfl rfl (World.news_of_block (al1 V0 _)) (fun u hu => by simp at hu; subst hu; rfl) Nat.one_pos HL1.out HL2.out (Nat.le_trans hbW hBs.size) _ rfl ?_
          intro gg cap w3 hown hgrow hat hltg
          obtain ⟨hSx, p2f, HFIN⟩ := HTL.out _ gg cap w3 hBs hgrow hown
          have hSd := hSx
          refine hK.out _ _ hSd ?_
          clear hK
          try simp only [Act.put]
          refine wpAnyF_take (i := 16) (oi := _) (v := ?vv12) rfl (by kernel_rfl) (by kernel_rfl) (by kernel_rfl) (by kernel_rfl) (by kernel_rfl) (fun _ _ _ h => h) (Or.inl ⟨by rfl, ?yy12⟩) hSd ?rr12
          case yy12 => (intro wq hSq; obtain ⟨_, _, _, _⟩ := hSq; go_simp <;> with_reducible rfl)
          try simp only [Act.put]
          refine wpAnyF_last (o := _) (by kernel_rfl) rfl (fun K' hK => ?_)
          rw [if_pos (by rfl)]
          go_simp
          refine hK.out _ _ ?_
          clear hK
          refine wpAnyF_done (by kernel_rfl) ?_ _
          try simp only [Act.put]
          go_wp2
          go_roundw
          case rel => exact ⟨X + 1, by omega, by go_num, by rw [show M + (X + 1) = k + 1 by have := HK.out; omega]; exact HFIN⟩
          case measure => simp [intOf]; omega
        · have hdx : decide ((X : Int) < (W : Int)) = false := by simp; omega
          have h3 : X = W := by omega
          subst h3
          have HJ1 := hide (show LvJ w X H (.slice ao zs.length ca) m L ((Y + 1) * X) wr from ⟨so, scap, by rw [Nat.succ_mul, ← HM.out]; exact j1, by rw [Nat.succ_mul, ← HM.out]; exact j2, j3, j4, j6, j5⟩)
          go_wp2
          go_roundw
          case rel => exact ⟨Y + 1, by omega, by go_num, HJ1.out⟩
          case measure => simp [intOf]; omega
    · have hd : decide ((Y : Int) < (H : Int)) = false := by simp; omega
      obtain rfl : Y = H := by omega
      rw [← HLEN.out] at j1 j2
      rw [List.take_of_length_le (by rw [HLL.out]; exact Nat.le_refl _)] at j2
      obtain ⟨p0, p1, p2⟩ := cells3 (b := w.heap.size + 1 + 1 + 1) j1
      obtain ⟨z0, z1, z2⟩ := cells3 (b := w.heap.size + 1 + 1) j4
      have f0 := Lib.frozen_of_heap (b := w.heap.size + 1 + 1) j4 0
      have f1 := Lib.frozen_of_heap (b := w.heap.size + 1 + 1) j4 1
      have f2 := Lib.frozen_of_heap (b := w.heap.size + 1 + 1) j4 2
      have HFI := hide (set3_below j5 (show w.heap.size ≤ w.heap.size + 1 + 1 by omega) (.int .i64 (W : Nat)) (.int .i64 (Y : Nat)) (.slice so zs.length scap))
      have hpx : IsInts wr (.slice so zs.length scap) L := IsInts.own (base := w.heap.size) (xs := L) (v := .slice so zs.length scap) (by rw [HLL.out]; exact j2) (by rw [HLL.out]; omega)
      have hne : (Value.slice so zs.length scap).ownBlock ≠ some (w.heap.size + 1 + 1) := fun e => own_ne j2 j4 (by decide) e.symm
      have HX := hide (hpx.other (set3_size wr (w.heap.size + 1 + 1) (.int .i64 (W : Nat)) (.int .i64 (Y : Nat)) (.slice so zs.length scap)) (fun b hb => set3_heap _ _ _ _ _ b hb) hne)
      have HF := hide (Fresh.own j2)
      clear hpx hne
      go_wp2
      exact bodyPost_ret (v := .agg #[.int .i64 (W : Nat), .int .i64 (Y : Nat), .slice so zs.length scap]) (by simp [results, Try.results92, go_sem, z0, z1, z2]) rfl ⟨_, rfl, HX.out, HFI.out, HF.out⟩
end Go.Proofs.Ytolcndchfnifhab

namespace Go.Proofs.Ytolcndchfnifhab
set_option linter.unusedVariables false
open Go.RowKit
theorem goodB_false {ls : List Pt} {p : Pt} (i : Nat) (hi : i < ls.length) (h : ptAt ls i = p) : goodB ls p = false := by
  have hm : p ∈ ls := by rw [← h, ← ptAt_get ls i hi]; exact List.getElem_mem hi
  have := List.count_pos_iff.2 hm
  exact decide_eq_false (by omega)
theorem goodB_true {ls : List Pt} {p : Pt} (h : ∀ i, i < ls.length → ptAt ls i ≠ p) : goodB ls p = true := by
  refine decide_eq_true (List.count_eq_zero.2 fun hm => ?_)
  obtain ⟨i, hi, e⟩ := List.getElem_of_mem hm
  exact h i hi (by rw [← ptAt_get ls i hi]; exact e)
set_option maxRecDepth 100000 in
set_option maxHeartbeats 800000 in
theorem isSpot_any (v : Value) (ls : List Pt) (x y : Int) (w : World) (hv : IsPts w v ls) :
    Calls Try.prog 116 #[v, .int .i64 x, .int .i64 y] w fun e w' => e = .returned (.bool (!goodB ls (x, y))) ∧ w = w' := by
  obtain ⟨ao, ca, rfl, hla, hc0⟩ := hv
  have HC := hide (fun j hj => IsPts.at ⟨ao, ca, rfl, hla, hc0⟩ j hj)
  clear hc0
  obtain ⟨R, hR⟩ : ∃ R, goodB ls (x, y) = R := ⟨_, rfl⟩
  rw [hR]
  have HR := hide hR
  clear hR
  go_enter Try.func116, Try.ntmps116
  go_wp2
  go_loop [7] (fun i => ∃ k : Nat, k ≤ ls.length ∧ i = .int .i64 k ∧ Hid (∀ i, i < k → ptAt ls i ≠ (x, y))) (fun i => ls.length - (intOf i).toNat)
  case atStart => exact ⟨0, Nat.zero_le _, rfl, hide (fun i hi => by omega)⟩
  case round =>
    obtain ⟨k, hk, rfl, HA⟩ := hrel
    by_cases hlt : k < ls.length
    · have hd : decide ((k : Int) < (ls.length : Int)) = true := by simp; omega
      obtain ⟨bq, oq, rfl, hbq, e0, e1⟩ := HC.out k hlt
      have HF := hide (fun h => goodB_false (p := (x, y)) k hlt h)
      have HT := hide (show ptAt ls k ≠ (x, y) → ∀ i, i < k + 1 → ptAt ls i ≠ (x, y) from fun hn i hi => by
        rcases Nat.lt_succ_iff_lt_or_eq.1 hi with h | rfl
        · exact HA.out i h
        · exact hn)
      obtain ⟨⟨a, b⟩, hab⟩ : ∃ p, ptAt ls k = p := ⟨_, rfl⟩
      rw [hab] at e0 e1 HF HT
      simp only at e0 e1
      clear hab
      by_cases hx : a = x
      · subst hx
        by_cases hy : b = y
        · subst hy
          have hr : R = false := HR.out.symm.trans (HF.out rfl)
          subst hr
          go_wp2
          go_ret
          exact ⟨rfl, rfl⟩
        · have hyb : (b == y) = false := by simpa using hy
          have HN := hide (HT.out (by simpa using hy))
          go_wp2
          go_round
          case rel => exact ⟨k + 1, by omega, by go_num, HN⟩
          case measure => simp [intOf]; omega
      · have hxb : (a == x) = false := by simpa using hx
        have HN := hide (HT.out (fun e => hx (congrArg Prod.fst e)))
        go_wp2
        go_round
        case rel => exact ⟨k + 1, by omega, by go_num, HN⟩
        case measure => simp [intOf]; omega
    · have hd : decide ((k : Int) < (ls.length : Int)) = false := by simp; omega
      have hkl : k = ls.length := by omega
      have hr : R = true := HR.out.symm.trans (goodB_true (fun i hi => HA.out i (by omega)))
      subst hr
      go_wp2
      go_ret
      exact ⟨rfl, rfl⟩
set_option maxRecDepth 100000 in
set_option maxHeartbeats 800000 in
theorem spotsIn_any (v : Value) (ls : List Pt) (W H : Int) (hW : 1 ≤ W ∧ W ≤ 64) (hH : 1 ≤ H ∧ H ≤ 64) (w : World) (hv : IsPts w v ls) :
    Calls Try.prog 90 #[v, .int .i64 W, .int .i64 H] w fun e w' => e = .returned (.bool (spotsB W H ls)) ∧ w = w' := by
  obtain ⟨ao, ca, rfl, hla, hc0⟩ := hv
  have HC := hide (fun j hj => IsPts.at ⟨ao, ca, rfl, hla, hc0⟩ j hj)
  clear hc0
  obtain ⟨hW1, hW2⟩ := hW
  obtain ⟨hH1, hH2⟩ := hH
  obtain ⟨R, hR⟩ : ∃ R, spotsB W H ls = R := ⟨_, rfl⟩
  rw [hR]
  have HR := hide hR
  clear hR
  go_enter Try.func90, Try.ntmps90
  go_wp2
  go_loop [7] (fun i => ∃ k : Nat, k ≤ ls.length ∧ i = .int .i64 k ∧ Hid (∀ i, i < k → hasB W H (ptAt ls i).1 (ptAt ls i).2 = true)) (fun i => ls.length - (intOf i).toNat)
  case atStart => exact ⟨0, Nat.zero_le _, rfl, hide (fun i hi => by omega)⟩
  case round =>
    obtain ⟨k, hk, rfl, HA⟩ := hrel
    by_cases hlt : k < ls.length
    · have hd : decide ((k : Int) < (ls.length : Int)) = true := by simp; omega
      obtain ⟨bq, oq, rfl, hbq, e0, e1⟩ := HC.out k hlt
      have HF := hide (fun h => spotsB_not (W := W) (H := H) k hlt h)
      have HT := hide (show hasB W H (ptAt ls k).1 (ptAt ls k).2 = true → ∀ i, i < k + 1 → hasB W H (ptAt ls i).1 (ptAt ls i).2 = true from fun hn i hi => by
        rcases Nat.lt_succ_iff_lt_or_eq.1 hi with h | rfl
        · exact HA.out i h
        · exact hn)
      obtain ⟨⟨a, b⟩, hab⟩ : ∃ p, ptAt ls k = p := ⟨_, rfl⟩
      rw [hab] at e0 e1 HF HT
      simp only at e0 e1 HF HT
      clear hab
      by_cases hx : 0 ≤ a ∧ a ≤ W - 1
      · have hxd : decide (0 ≤ a ∧ a ≤ W - 1) = true := by simpa using hx
        by_cases hy : 0 ≤ b ∧ b ≤ H - 1
        · have hyd : decide (0 ≤ b ∧ b ≤ H - 1) = true := by simpa using hy
          have HN := hide (HT.out (by simp [hasB]; omega))
          clear hx hy
          go_wp2_with (go_at_call 59; refine (within_any _ _ _ _).mono ?_; rintro e wx ⟨rfl, rfl⟩; first | rw [hxd] | rw [hyd])
          go_round
          case rel => exact ⟨k + 1, by omega, by go_num, HN⟩
          case measure => simp [intOf]; omega
        · have hyd : decide (0 ≤ b ∧ b ≤ H - 1) = false := by simpa using hy
          have hr : R = false := HR.out.symm.trans (HF.out (by simp [hasB]; omega))
          subst hr
          clear hx hy
          go_wp2_with (go_at_call 59; refine (within_any _ _ _ _).mono ?_; rintro e wx ⟨rfl, rfl⟩; first | rw [hxd] | rw [hyd])
          go_ret
          exact ⟨rfl, rfl⟩
      · have hxd : decide (0 ≤ a ∧ a ≤ W - 1) = false := by simpa using hx
        have hr : R = false := HR.out.symm.trans (HF.out (by simp [hasB]; omega))
        subst hr
        clear hx
        go_wp2_with (go_at_call 59; refine (within_any _ _ _ _).mono ?_; rintro e wx ⟨rfl, rfl⟩; rw [hxd])
        go_ret
        exact ⟨rfl, rfl⟩
    · have hd : decide ((k : Int) < (ls.length : Int)) = false := by simp; omega
      have hkl : k = ls.length := by omega
      have hr : R = true := HR.out.symm.trans (spotsB_get (fun i hi => HA.out i (by omega)))
      subst hr
      go_wp2
      go_ret
      exact ⟨rfl, rfl⟩
end Go.Proofs.Ytolcndchfnifhab
