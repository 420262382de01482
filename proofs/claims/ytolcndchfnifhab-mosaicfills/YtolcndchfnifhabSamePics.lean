/- The reference's SamePictures, SamePlanes. -/
import Derived.Test.YtolcndchfnifhabPictures
namespace Go.Proofs.Ytolcndchfnifhab
open Go.RowKit

def sameB (W1 H1 : Int) (ps : List Px) (W2 H2 : Int) (qs : List Px) : Bool := decide (W1 = W2 ∧ H1 = H2 ∧ ps = qs)

theorem box2 {w : World} {x y : Array Value} {t : TypeId} {w' : World} (hb : Below ((w.alloc (.cells x t)).alloc (.cells y t)).heap.size ((w.alloc (.cells x t)).alloc (.cells y t)) w') :
    w'.heap[w.heap.size]? = some (.cells x t (0, 0)) ∧ w'.heap[w.heap.size + 1]? = some (.cells y t (0, 0)) := by
  constructor
  · rw [hb.block _ (by simp; omega), Below.heap_alloc _ _ _ (by simp)]; exact heap_alloc_new w _
  · rw [hb.block _ (by simp)]
    have h := heap_alloc_new (w.alloc (.cells x t)) (.cells y t)
    rw [World.size_alloc] at h; exact h
theorem cells3 {w : World} {b : Nat} {x y z : Value} {t : TypeId} {fr : Nat × Nat} (h : w.heap[b]? = some (.cells #[x, y, z] t fr)) :
    w.cell? ⟨b, 0, none⟩ = some x ∧ w.cell? ⟨b, 1, none⟩ = some y ∧ w.cell? ⟨b, 2, none⟩ = some z :=
  ⟨by rw [Lib.cell_of_heap h]; rfl, by rw [Lib.cell_of_heap h]; rfl, by rw [Lib.cell_of_heap h]; rfl⟩

set_option maxRecDepth 100000 in
set_option maxHeartbeats 1600000 in
theorem samePictures_any (W1 H1 : Int) (va : Value) (ps : List Px) (W2 H2 : Int) (vb : Value) (qs : List Px) (w : World) (ha : IsPix w va ps) (hb : IsPix w vb qs) :
    Calls Try.prog 29 #[.agg #[.int .i64 W1, .int .i64 H1, va], .agg #[.int .i64 W2, .int .i64 H2, vb]] w fun e w' => e = .returned (.bool (sameB W1 H1 ps W2 H2 qs)) ∧ Below w.heap.size w w' := by
  obtain ⟨ao, ca, rfl, hla, ha⟩ := ha
  obtain ⟨bo, cb, rfl, hlb, hb⟩ := hb
  obtain ⟨R, hR⟩ : ∃ R, sameB W1 H1 ps W2 H2 qs = R := ⟨_, rfl⟩
  rw [hR]
  have HR := hide hR
  clear hR
  have HB := hide (bel_trans (bel_alloc w (.cells #[.int .i64 W1, .int .i64 H1, .slice ao ps.length ca] 39)) (bel_alloc _ (.cells #[.int .i64 W2, .int .i64 H2, .slice bo qs.length cb] 39)))
  obtain ⟨k1, k2⟩ := box2 (w := w) (x := #[.int .i64 W1, .int .i64 H1, .slice ao ps.length ca]) (y := #[.int .i64 W2, .int .i64 H2, .slice bo qs.length cb]) (t := 39) (Below.refl _ _)
  obtain ⟨e0, e1, e2⟩ := cells3 k1
  obtain ⟨f0, f1, f2⟩ := cells3 k2
  clear k1 k2
  by_cases hW : W1 = W2
  · subst hW
    have hWb : (W1 != W1) = false := by simp
    by_cases hH : H1 = H2
    · subst hH
      have hHb : (H1 != H1) = false := by simp
      have HR2 := hide (show R = decide (ps = qs) by rw [← HR.out, sameB]; simp)
      clear HR
      by_cases hl : ps.length = qs.length
      · have hlb2 : ((ps.length : Int) != (qs.length : Int)) = false := by simp [hl]
        by_cases h0 : ps.length = 0
        · obtain rfl := List.eq_nil_of_length_eq_zero h0
          obtain rfl := List.eq_nil_of_length_eq_zero (hl.symm.trans h0)
          have HX := hide (show true = R by rw [HR2.out]; rfl)
          clear ha hb h0 hl hlb2
          go_enter Try.func29, Try.ntmps29
          go_wp2
          go_loop [5] (fun i => i = .int .i64 0) (fun _ => 0)
          case atStart => rfl
          case round =>
            subst hrel
            go_wp2
            go_ret
            exact ⟨ret_bool HX.out, HB.out⟩
        · obtain ⟨ba, oa, hao, hba, hca⟩ : ∃ b off, ao = some ⟨b, off, none⟩ ∧ b < w.heap.size ∧ ∀ j (h : j < ps.length),
              w.cell? ⟨b, off + j * 3, none⟩ = some (.int .i64 ps[j].1) ∧ w.cell? ⟨b, off + j * 3 + 1, none⟩ = some (.int .i64 ps[j].2.1) ∧ w.cell? ⟨b, off + j * 3 + 2, none⟩ = some (.int .i64 ps[j].2.2) := by
            rcases ha with h | h
            · subst h; exact absurd rfl h0
            · exact h
          obtain ⟨bb, ob, hbo, hbb, hcb⟩ : ∃ b off, bo = some ⟨b, off, none⟩ ∧ b < w.heap.size ∧ ∀ j (h : j < qs.length),
              w.cell? ⟨b, off + j * 3, none⟩ = some (.int .i64 qs[j].1) ∧ w.cell? ⟨b, off + j * 3 + 1, none⟩ = some (.int .i64 qs[j].2.1) ∧ w.cell? ⟨b, off + j * 3 + 2, none⟩ = some (.int .i64 qs[j].2.2) := by
            rcases hb with h | h
            · subst h; exact absurd hl h0
            · exact h
          subst hao
          subst hbo
          have HCA := hide hca; clear hca ha
          have HCB := hide hcb; clear hcb hb
          have HL := hide hl; clear hl
          go_enter Try.func29, Try.ntmps29
          go_wp2_with fail
          generalize (w.alloc (.cells #[.int .i64 W1, .int .i64 H1, .slice (some ⟨ba, oa, none⟩) ps.length ca] 39)).alloc (.cells #[.int .i64 W1, .int .i64 H1, .slice (some ⟨bb, ob, none⟩) qs.length cb] 39) = W0 at *
          go_loopw [5] (fun i wr => ∃ k : Nat, k ≤ ps.length ∧ i = .int .i64 k ∧ Hid (ps.take k = qs.take k) ∧ (∃ n, wr = W0.drewN n)) (fun i _ => ps.length - (intOf i).toNat)
          case atStart => exact ⟨0, Nat.zero_le _, rfl, rfl, 0, rfl⟩
          case round =>
            obtain ⟨k, hk, rfl, HT, nn, rfl⟩ := hrel
            by_cases hlt : k < ps.length
            · have hlt2 : k < qs.length := by have := HL.out; omega
              have a0 := (HB.out.cell (p := ⟨ba, oa + k * 3, none⟩) hba).trans (HCA.out k hlt).1
              have a1 := (HB.out.cell (p := ⟨ba, oa + k * 3 + 1, none⟩) hba).trans (HCA.out k hlt).2.1
              have a2 := (HB.out.cell (p := ⟨ba, oa + k * 3 + 2, none⟩) hba).trans (HCA.out k hlt).2.2
              have b0 := (HB.out.cell (p := ⟨bb, ob + k * 3, none⟩) hbb).trans (HCB.out k hlt2).1
              have b1 := (HB.out.cell (p := ⟨bb, ob + k * 3 + 1, none⟩) hbb).trans (HCB.out k hlt2).2.1
              have b2 := (HB.out.cell (p := ⟨bb, ob + k * 3 + 2, none⟩) hbb).trans (HCB.out k hlt2).2.2
              have HTK := hide (show ps[k] = qs[k] → ps.take (k + 1) = qs.take (k + 1) from fun he => by
                rw [List.take_succ_eq_append_getElem hlt, List.take_succ_eq_append_getElem hlt2, HT.out, he])
              have HNE := hide (show ¬ ps[k] = qs[k] → false = R from fun he => by
                rw [HR2.out]; symm; simp only [decide_eq_false_iff_not]; exact fun h => he (by subst h; rfl))
              obtain ⟨⟨p1, p2, p3⟩, hp⟩ : ∃ p, ps[k] = p := ⟨_, rfl⟩
              obtain ⟨⟨q1, q2, q3⟩, hq⟩ : ∃ q, qs[k] = q := ⟨_, rfl⟩
              rw [hp] at a0 a1 a2
              rw [hq] at b0 b1 b2
              rw [hp, hq] at HTK HNE
              clear hp hq
              simp only at a0 a1 a2 b0 b1 b2
              by_cases h1 : p1 = q1
              · by_cases h2 : p2 = q2
                · by_cases h3 : p3 = q3
                  · subst h1; subst h2; subst h3
                    have HT2 := hide (HTK.out rfl)
                    clear HTK HNE
                    go_wp2
                    go_region
                    go_wp2
                    go_roundw
                    case rel => exact ⟨k + 1, by omega, by go_num, HT2, nn + 1, rfl⟩
                    case measure => simp [intOf]; omega
                  · have HX := hide (HNE.out (fun h => h3 (by cases h; rfl)))
                    subst h1; subst h2
                    clear HTK HNE
                    go_wp2
                    go_region
                    go_wp2
                    go_ret
                    exact ⟨ret_bool HX.out, below_drewN HB.out _⟩
                · have HX := hide (HNE.out (fun h => h2 (by cases h; rfl)))
                  subst h1
                  clear HTK HNE
                  go_wp2
                  go_region
                  go_wp2
                  go_ret
                  exact ⟨ret_bool HX.out, below_drewN HB.out _⟩
              · have HX := hide (HNE.out (fun h => h1 (by cases h; rfl)))
                clear HTK HNE
                go_wp2
                go_region
                go_wp2
                go_ret
                exact ⟨ret_bool HX.out, below_drewN HB.out _⟩
            · have HX := hide (show true = R by
                have h := HT.out
                rw [List.take_of_length_le (by omega), List.take_of_length_le (by have := HL.out; omega)] at h
                rw [HR2.out]; symm; simp [h])
              go_wp2
              go_ret
              exact ⟨ret_bool HX.out, below_drewN HB.out _⟩
      · have HX := hide (show false = R by rw [HR2.out]; symm; simp only [decide_eq_false_iff_not]; exact fun h => hl (by rw [h]))
        have hlb2 : ((ps.length : Int) != (qs.length : Int)) = true := by simp; omega
        clear hl
        go_enter Try.func29, Try.ntmps29
        go_wp2
        go_ret
        exact ⟨ret_bool HX.out, HB.out⟩
    · have HX := hide (show false = R by rw [← HR.out, sameB]; symm; simp [hH])
      have hHb : (H1 != H2) = true := by simpa using hH
      clear hH
      go_enter Try.func29, Try.ntmps29
      go_wp2
      go_ret
      exact ⟨ret_bool HX.out, HB.out⟩
  · have HX := hide (show false = R by rw [← HR.out, sameB]; symm; simp [hW])
    have hWb : (W1 != W2) = true := by simpa using hW
    clear hW
    go_enter Try.func29, Try.ntmps29
    go_wp2
    go_ret
    exact ⟨ret_bool HX.out, HB.out⟩

def samePB (W1 H1 : Int) (xs : List Int) (W2 H2 : Int) (ys : List Int) : Bool := decide (W1 = W2 ∧ H1 = H2 ∧ xs = ys)
end Go.Proofs.Ytolcndchfnifhab
