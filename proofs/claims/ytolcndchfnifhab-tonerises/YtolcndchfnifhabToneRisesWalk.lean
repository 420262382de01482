/- ToneRises: what is not darker does not become darker. -/
import Derived.Test.YtolcndchfnifhabToneBegun
import Derived.Test.YtolcndchfnifhabCurveRise
import Derived.Test.YtolcndchfnifhabChoose
namespace Go.Proofs.Ytolcndchfnifhab
open Go.RowKit

set_option maxRecDepth 100000 in
set_option maxHeartbeats 1600000 in
theorem toneRises_walk (v : Value) (ls : List Pt) (a b k : Int) (hk : (Lit.int .i64 k).wf = true) (w : World) (hv : IsPts w v ls) :
    Calls Try.prog 8 #[v, .int .i64 a, .int .i64 b, .int .i64 k] w fun e w' => e = .returned (.bool true) ∧ Below w.heap.size w w' := by
  have HV := hide hv
  obtain ⟨hk0, hk1⟩ := wf_int hk
  clear hk
  obtain ⟨ao, ca, rfl, hla, hor⟩ := hv
  have HMONO := hide (show curveE ls a = 0 → curveE ls b = 0 → a ≤ b → curveV ls a ≤ curveV ls b from fun ha hb hab => by
    have hc : curveOk ls = true := by
      by_cases h : curveOk ls = true
      · exact h
      · rw [curveE, if_neg h] at ha; cases ha
    have h1 : inTop a = true := by
      by_cases h : inTop a = true
      · exact h
      · rw [curveE, if_pos hc, if_neg h] at ha; cases ha
    have h2 : inTop b = true := by
      by_cases h : inTop b = true
      · exact h
      · rw [curveE, if_pos hc, if_neg h] at hb; cases hb
    rw [curveV, curveV, if_pos ha, if_pos hb]
    exact heightV_mono (isCurve_of hc) ((inTop_iff a).1 h1).1 hab ((inTop_iff b).1 h2).2)
  have HPT := hide (show ∀ j, j < ls.length → curveE ls (ptAt ls j).1 = 0 → curveV ls (ptAt ls j).1 = (ptAt ls j).2 from fun j hj he => by
    have hc : curveOk ls = true := by
      by_cases h : curveOk ls = true
      · exact h
      · rw [curveE, if_neg h] at he; cases he
    rw [curveV, if_pos he]
    exact heightV_point (isCurve_of hc) j hj)
  have HNIL := hide (show ls.length = 0 → curveE ls a = 1 from fun h => by
    rw [List.eq_nil_of_length_eq_zero h]; rfl)
  have h63 : ls.length ≤ 9223372036854775807 := by omega
  go_enter Try.func8, Try.ntmps8
  go_wp2_with fail
  refine (curve_any _ ls a _ HV.out).mono ?_
  rintro e w1 ⟨rfl, hb1⟩
  go_wp2_with fail
  refine (curve_any _ ls b _ (HV.out.below hb1 (Nat.le_refl _))).mono ?_
  rintro e w2 ⟨rfl, hb2⟩
  have hw2 := bel_trans hb1 hb2
  clear hb1 hb2
  have HV2 := hide (HV.out.below hw2 (Nat.le_refl _))
  obtain ⟨e1, he1⟩ : ∃ e1, curveE ls a = e1 := ⟨_, rfl⟩
  obtain ⟨e2, he2⟩ : ∃ e2, curveE ls b = e2 := ⟨_, rfl⟩
  obtain ⟨x1, hx1⟩ : ∃ x1, curveV ls a = x1 := ⟨_, rfl⟩
  obtain ⟨x2, hx2⟩ : ∃ x2, curveV ls b = x2 := ⟨_, rfl⟩
  rw [he1, he2, hx1, hx2] at HMONO
  rw [he1] at HNIL
  rw [he1, he2, hx1, hx2]
  clear he1 he2 hx1 hx2
  by_cases hl : ls.length = 0
  · obtain rfl := HNIL.out hl
    have hlb : ((ls.length : Int) == 0) = true := by simp [hl]
    clear hl hor
    go_wp2_with (go_at_call 34; refine (toneBegun_any _).mono ?_; rintro e w3 ⟨rfl, hb3⟩)
    go_ret
    exact ⟨rfl, bel_trans hw2 hb3⟩
  · have hlb : ((ls.length : Int) == 0) = false := by rw [beq_eq_false_iff_ne]; omega
    have hl1 : 1 ≤ ls.length := by omega
    obtain ⟨bk, off, hao, hbl, hcell⟩ : ∃ b off, ao = some ⟨b, off, none⟩ ∧ b < w.heap.size ∧ ∀ j, j < ls.length →
        w.cell? ⟨b, off + j * 2, none⟩ = some (.int .i64 (ptAt ls j).1) ∧ w.cell? ⟨b, off + j * 2 + 1, none⟩ = some (.int .i64 (ptAt ls j).2) := by
      rcases hor with h | h
      · subst h; simp at hl
      · exact h
    subst hao
    have HCELL := hide hcell
    clear hcell hor hl
    have hcs : (e1 == 0) = false ∨ ((e1 == 0) = true ∧ (e2 == 0) = false) ∨ ((e1 == 0) = true ∧ (e2 == 0) = true ∧ decide (a ≤ b) = false) ∨ ((e1 == 0) = true ∧ (e2 == 0) = true ∧ decide (a ≤ b) = true ∧ decide (x2 < x1) = false) := by
      by_cases h1 : e1 = 0
      · by_cases h2 : e2 = 0
        · by_cases h3 : a ≤ b
          · have := HMONO.out h1 h2 h3
            exact .inr (.inr (.inr ⟨by simpa using h1, by simpa using h2, by simpa using h3, by simp; omega⟩))
          · exact .inr (.inr (.inl ⟨by simpa using h1, by simpa using h2, by simpa using h3⟩))
        · exact .inr (.inl ⟨by simpa using h1, by simpa using h2⟩)
      · exact .inl (by simpa using h1)
    clear HMONO HNIL
    rcases hcs with t1 | ⟨t1, t2⟩ | ⟨t1, t2, t3⟩ | ⟨t1, t2, t3, t4⟩
    all_goals
      go_wp2_with fail
      refine (choose_any k ls.length hk0 hk1 hl1 h63 _).mono ?_
      rintro e w3 ⟨⟨j, hj, rfl⟩, rfl⟩
      have c0 := (hw2.cell (p := ⟨bk, off + j * 2, none⟩) hbl).trans (HCELL.out j hj).1
      have c1 := (hw2.cell (p := ⟨bk, off + j * 2 + 1, none⟩) hbl).trans (HCELL.out j hj).2
      go_wp2_with fail
      refine (curve_any _ ls (ptAt ls j).1 _ (HV2.out.alloc _)).mono ?_
      rintro e w4 ⟨rfl, hb4⟩
      have hw4 := bel_trans hw2 (bel_trans (bel_alloc _ _) hb4)
      have g4 := (hb4.block w2.heap.size (by simp)).trans (al1 w2 _)
      have HPJ := hide (HPT.out j hj)
      have hl4 := (Array.getElem?_eq_some_iff.1 g4).1
      obtain ⟨e3, he3⟩ : ∃ e3, curveE ls (ptAt ls j).1 = e3 := ⟨_, rfl⟩
      obtain ⟨x3, hx3⟩ : ∃ x3, curveV ls (ptAt ls j).1 = x3 := ⟨_, rfl⟩
      rw [he3, hx3] at HPJ
      rw [he3, hx3]
      clear he3 hx3 c0 c1 hb4
      go_wp2_with fail
      refine (toneBegun_any _).mono ?_
      rintro e w5 ⟨rfl, hb5⟩
      have g5 := (hb5.block w2.heap.size hl4).trans g4
      have d1 : w5.cell? ⟨w2.heap.size, 1, none⟩ = some (.int .i64 (ptAt ls j).2) := by rw [Lib.cell_of_heap g5]; rfl
      have hw5 := bel_trans hw4 hb5
      by_cases h3 : e3 = 0
      · have hx := HPJ.out h3
        have b3 : (e3 != 0) = false := by simpa using h3
        have bx : (x3 == (ptAt ls j).2) = true := by simpa using hx
        clear hx h3
        go_wp2
        go_ret
        exact ⟨rfl, hw5⟩
      · have b3 : (e3 != 0) = true := by simpa using h3
        clear h3
        go_wp2
        go_ret
        exact ⟨rfl, hw5⟩

end Go.Proofs.Ytolcndchfnifhab
