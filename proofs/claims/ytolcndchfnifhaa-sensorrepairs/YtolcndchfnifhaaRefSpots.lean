/- The reference's isSpot, spotsIn, RepairError. -/
import Derived.Test.YtolcndchfnifhaaRepair
namespace Go.Proofs.Ytolcndchfnifhaa
set_option linter.unusedVariables false
open Go.RowKit

theorem goodB_false {ls : List Pt} {p : Pt} (i : Nat) (hi : i < ls.length) (h : ptAt ls i = p) : goodB ls p = false := by
  have hm : p ∈ ls := by rw [← h, ← ptAt_get ls i hi]; exact List.getElem_mem hi
  have := List.count_pos_iff.2 hm
  exact decide_eq_false (by omega)
theorem goodB_true {ls : List Pt} {p : Pt} (h : ∀ i, i < ls.length → ptAt ls i ≠ p) : goodB ls p = true := by
  refine decide_eq_true (List.count_eq_zero.2 fun hm => ?_)
  obtain ⟨i, hi, e⟩ := List.getElem_of_mem hm
  exact h i hi (by rw [← ptAt_get ls i hi]; exact e)
theorem IsPts.at {w : World} {ao : Option Addr} {ca n : Nat} {ls : List Pt} (h : IsPts w (.slice ao n ca) ls) (j : Nat) (hj : j < ls.length) : ∃ bq oq, ao = some ⟨bq, oq, none⟩ ∧ bq < w.heap.size ∧ w.cell? ⟨bq, oq + j * 2, none⟩ = some (.int .i64 (ptAt ls j).1) ∧ w.cell? ⟨bq, oq + j * 2 + 1, none⟩ = some (.int .i64 (ptAt ls j).2) := by
  obtain ⟨ao', ca', e, _, hc⟩ := h
  cases e
  rcases hc with h | ⟨b, off, h1, h2, h3⟩
  · subst h; simp at hj
  · exact ⟨b, off, h1, h2, h3 j hj⟩

set_option maxRecDepth 100000 in
set_option maxHeartbeats 800000 in
theorem isSpot_any (v : Value) (ls : List Pt) (x y : Int) (w : World) (hv : IsPts w v ls) :
    Calls Try.prog 108 #[v, .int .i64 x, .int .i64 y] w fun e w' => e = .returned (.bool (!goodB ls (x, y))) ∧ w = w' := by
  obtain ⟨ao, ca, rfl, hla, hc0⟩ := hv
  have HC := hide (fun j hj => IsPts.at ⟨ao, ca, rfl, hla, hc0⟩ j hj)
  clear hc0
  obtain ⟨R, hR⟩ : ∃ R, goodB ls (x, y) = R := ⟨_, rfl⟩
  rw [hR]
  have HR := hide hR
  clear hR
  go_enter Try.func108, Try.ntmps108
  go_wp2
  go_loop [7] (fun i => ∃ k : Nat, k ≤ ls.length ∧ i = .int .i64 k ∧ Hid (∀ i, i < k → ptAt ls i ≠ (x, y))) (fun i => ls.length - (intOf i).toNat)
  case atStart => exact ⟨0, Nat.zero_le _, rfl, hide (fun i hi => by omega)⟩
  case round =>
    obtain ⟨k, hk, rfl, HA⟩ := hrel
    by_cases hlt : k < ls.length
    · have hd : decide ((k : Int) < (ls.length : Int)) = true := by simp; omega
      obtain ⟨bq, oq, rfl, hbq, e0, e1⟩ := HC.out k hlt
      have HF := hide (fun h => goodB_false (p := (x, y)) k hlt h)
      have HT := hide (show ptAt ls k ≠ (x, y) → ∀ i, i < k + 1 → ptAt ls i ≠ (x, y) from fun hn i hi => by
        rcases Nat.lt_succ_iff_lt_or_eq.1 hi with h | rfl
        · exact HA.out i h
        · exact hn)
      obtain ⟨⟨a, b⟩, hab⟩ : ∃ p, ptAt ls k = p := ⟨_, rfl⟩
      rw [hab] at e0 e1 HF HT
      simp only at e0 e1
      clear hab
      by_cases hx : a = x
      · subst hx
        by_cases hy : b = y
        · subst hy
          have hr : R = false := HR.out.symm.trans (HF.out rfl)
          subst hr
          go_wp2
          go_ret
          exact ⟨rfl, rfl⟩
        · have hyb : (b == y) = false := by simpa using hy
          have HN := hide (HT.out (by simpa using hy))
          go_wp2
          go_round
          case rel => exact ⟨k + 1, by omega, by go_num, HN⟩
          case measure => simp [intOf]; omega
      · have hxb : (a == x) = false := by simpa using hx
        have HN := hide (HT.out (fun e => hx (congrArg Prod.fst e)))
        go_wp2
        go_round
        case rel => exact ⟨k + 1, by omega, by go_num, HN⟩
        case measure => simp [intOf]; omega
    · have hd : decide ((k : Int) < (ls.length : Int)) = false := by simp; omega
      have hkl : k = ls.length := by omega
      have hr : R = true := HR.out.symm.trans (goodB_true (fun i hi => HA.out i (by omega)))
      subst hr
      go_wp2
      go_ret
      exact ⟨rfl, rfl⟩

set_option maxRecDepth 100000 in
set_option maxHeartbeats 800000 in
theorem spotsIn_any (v : Value) (ls : List Pt) (W H : Int) (hW : 1 ≤ W ∧ W ≤ 64) (hH : 1 ≤ H ∧ H ≤ 64) (w : World) (hv : IsPts w v ls) :
    Calls Try.prog 107 #[v, .int .i64 W, .int .i64 H] w fun e w' => e = .returned (.bool (spotsB W H ls)) ∧ w = w' := by
  obtain ⟨ao, ca, rfl, hla, hc0⟩ := hv
  have HC := hide (fun j hj => IsPts.at ⟨ao, ca, rfl, hla, hc0⟩ j hj)
  clear hc0
  obtain ⟨hW1, hW2⟩ := hW
  obtain ⟨hH1, hH2⟩ := hH
  obtain ⟨R, hR⟩ : ∃ R, spotsB W H ls = R := ⟨_, rfl⟩
  rw [hR]
  have HR := hide hR
  clear hR
  go_enter Try.func107, Try.ntmps107
  go_wp2
  go_loop [7] (fun i => ∃ k : Nat, k ≤ ls.length ∧ i = .int .i64 k ∧ Hid (∀ i, i < k → hasB W H (ptAt ls i).1 (ptAt ls i).2 = true)) (fun i => ls.length - (intOf i).toNat)
  case atStart => exact ⟨0, Nat.zero_le _, rfl, hide (fun i hi => by omega)⟩
  case round =>
    obtain ⟨k, hk, rfl, HA⟩ := hrel
    by_cases hlt : k < ls.length
    · have hd : decide ((k : Int) < (ls.length : Int)) = true := by simp; omega
      obtain ⟨bq, oq, rfl, hbq, e0, e1⟩ := HC.out k hlt
      have HF := hide (fun h => spotsB_not (W := W) (H := H) k hlt h)
      have HT := hide (show hasB W H (ptAt ls k).1 (ptAt ls k).2 = true → ∀ i, i < k + 1 → hasB W H (ptAt ls i).1 (ptAt ls i).2 = true from fun hn i hi => by
        rcases Nat.lt_succ_iff_lt_or_eq.1 hi with h | rfl
        · exact HA.out i h
        · exact hn)
      obtain ⟨⟨a, b⟩, hab⟩ : ∃ p, ptAt ls k = p := ⟨_, rfl⟩
      rw [hab] at e0 e1 HF HT
      simp only at e0 e1 HF HT
      clear hab
      by_cases hx : 0 ≤ a ∧ a ≤ W - 1
      · have hxd : decide (0 ≤ a ∧ a ≤ W - 1) = true := by simpa using hx
        by_cases hy : 0 ≤ b ∧ b ≤ H - 1
        · have hyd : decide (0 ≤ b ∧ b ≤ H - 1) = true := by simpa using hy
          have HN := hide (HT.out (by simp [hasB]; omega))
          clear hx hy
          go_wp2_with (go_at_call 61; refine (within_any _ _ _ _).mono ?_; rintro e wx ⟨rfl, rfl⟩; first | rw [hxd] | rw [hyd])
          go_round
          case rel => exact ⟨k + 1, by omega, by go_num, HN⟩
          case measure => simp [intOf]; omega
        · have hyd : decide (0 ≤ b ∧ b ≤ H - 1) = false := by simpa using hy
          have hr : R = false := HR.out.symm.trans (HF.out (by simp [hasB]; omega))
          subst hr
          clear hx hy
          go_wp2_with (go_at_call 61; refine (within_any _ _ _ _).mono ?_; rintro e wx ⟨rfl, rfl⟩; first | rw [hxd] | rw [hyd])
          go_ret
          exact ⟨rfl, rfl⟩
      · have hxd : decide (0 ≤ a ∧ a ≤ W - 1) = false := by simpa using hx
        have hr : R = false := HR.out.symm.trans (HF.out (by simp [hasB]; omega))
        subst hr
        clear hx
        go_wp2_with (go_at_call 61; refine (within_any _ _ _ _).mono ?_; rintro e wx ⟨rfl, rfl⟩; rw [hxd])
        go_ret
        exact ⟨rfl, rfl⟩
    · have hd : decide ((k : Int) < (ls.length : Int)) = false := by simp; omega
      have hkl : k = ls.length := by omega
      have hr : R = true := HR.out.symm.trans (spotsB_get (fun i hi => HA.out i (by omega)))
      subst hr
      go_wp2
      go_ret
      exact ⟨rfl, rfl⟩

set_option maxRecDepth 100000 in
set_option maxHeartbeats 800000 in
theorem repairError_any (W H : Int) (v : Value) (zs : List Int) (lv : Value) (ls : List Pt) (w : World) (hv : IsInts w v zs) (hlv : IsPts w lv ls) :
    Calls Try.prog 57 #[.agg #[.int .i64 W, .int .i64 H, v], lv] w fun e w' => e = .returned (.int .i64 (repE W H zs ls)) ∧ Below w.heap.size w w' := by
  have HV := hide hv
  have HL := hide hlv
  obtain ⟨ao, ca, rfl, _, _⟩ := hv
  obtain ⟨lo, lc, rfl, hll, _⟩ := hlv
  obtain ⟨E, hE⟩ : ∃ E, repE W H zs ls = E := ⟨_, rfl⟩
  rw [hE]
  have a1 := al1 w (Obj.cells #[.int .i64 W, .int .i64 H, .slice ao zs.length ca] 57)
  have HB := hide (bel_alloc w (Obj.cells #[.int .i64 W, .int .i64 H, .slice ao zs.length ca] 57))
  have hl1 := (Array.getElem?_eq_some_iff.1 a1).1
  by_cases hp : planeOk W H zs = true
  · obtain ⟨hW, hH, _, _⟩ := planeOk_parts hp
    by_cases hmn : (ls.length : Int) ≤ 64
    · have hd64 : decide (64 < (ls.length : Int)) = false := by simp; omega
      have HE := hide (show E = if spotsB W H ls = true then 0 else 3 by rw [← hE, repE, if_pos hp, if_pos hmn])
      clear hE
      go_enter Try.func57, Try.ntmps57
      go_wp2_with fail
      generalize w.alloc (Obj.cells #[.int .i64 W, .int .i64 H, .slice ao zs.length ca] 57) = U at *
      refine (planeFine_any W H _ zs _ (HV.out.below HB.out (Nat.le_refl _))).mono ?_
      rintro e w1 ⟨rfl, hb1⟩
      rw [hp]
      obtain ⟨p0, p1, p2⟩ := cells3 ((hb1.block w.heap.size hl1).trans a1)
      have HB1 := hide (HB.out.trans (hb1.mono HB.out.size))
      go_wp2_with fail
      refine (spotsIn_any _ ls W H hW hH _ (HL.out.below HB1.out (Nat.le_refl _))).mono ?_
      rintro e w2 ⟨rfl, rfl⟩
      by_cases hs : spotsB W H ls = true
      · rw [hs]
        have he : E = 0 := by rw [HE.out, if_pos hs]
        subst he
        go_wp2
        go_ret
        exact ⟨rfl, HB1.out⟩
      · have hs : spotsB W H ls = false := by simpa using hs
        rw [hs]
        have he : E = 3 := by rw [HE.out, hs]; rfl
        subst he
        go_wp2
        go_ret
        exact ⟨rfl, HB1.out⟩
    · have hd64 : decide (64 < (ls.length : Int)) = true := by simp; omega
      have he : E = 2 := by rw [← hE, repE, if_pos hp, if_neg hmn]
      subst he
      clear hE
      go_enter Try.func57, Try.ntmps57
      go_wp2_with fail
      generalize w.alloc (Obj.cells #[.int .i64 W, .int .i64 H, .slice ao zs.length ca] 57) = U at *
      refine (planeFine_any W H _ zs _ (HV.out.below HB.out (Nat.le_refl _))).mono ?_
      rintro e w1 ⟨rfl, hb1⟩
      rw [hp]
      have HB1 := hide (HB.out.trans (hb1.mono HB.out.size))
      go_wp2
      go_ret
      exact ⟨rfl, HB1.out⟩
  · have he : E = 1 := by rw [← hE, repE, if_neg hp]
    have hp : planeOk W H zs = false := by simpa using hp
    subst he
    clear hE
    go_enter Try.func57, Try.ntmps57
    go_wp2_with fail
    generalize w.alloc (Obj.cells #[.int .i64 W, .int .i64 H, .slice ao zs.length ca] 57) = U at *
    refine (planeFine_any W H _ zs _ (HV.out.below HB.out (Nat.le_refl _))).mono ?_
    rintro e w1 ⟨rfl, hb1⟩
    rw [hp]
    have HB1 := hide (HB.out.trans (hb1.mono HB.out.size))
    go_wp2
    go_ret
    exact ⟨rfl, HB1.out⟩

end Go.Proofs.Ytolcndchfnifhaa
