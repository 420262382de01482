/- darkslidelaw.sameTexts. -/
import Derived.Test.YtolcndchfnifhaaWords
namespace Go.Proofs.Ytolcndchfnifhaa
open Go.RowKit

set_option maxRecDepth 100000 in
set_option maxHeartbeats 400000 in
theorem sameTexts_any (va vb : Value) (xs ys : List (List UInt8)) (w : World) (ha : IsTexts w va xs) (hb : IsTexts w vb ys) :
    Calls Try.prog 37 #[va, vb] w fun e w' => e = .returned (.bool (decide (xs = ys))) ∧ Below w.heap.size w w' := by
  obtain ⟨ao, ca, rfl, hla, ha⟩ := ha
  obtain ⟨bo, cb, rfl, hlb, hb⟩ := hb
  by_cases hl : xs.length = ys.length
  · have hl2 : ((xs.length : Int) != (ys.length : Int)) = false := by simp [hl]
    by_cases h0 : xs.length = 0
    · have e : xs = ys := (List.eq_nil_of_length_eq_zero h0).trans (List.eq_nil_of_length_eq_zero (hl.symm.trans h0)).symm
      have HE := hide e; clear e
      have HL := hide hl; clear hl
      clear ha hb
      go_enter Try.func37, Try.ntmps37
      go_wp2
      go_loop [5] (fun i => i = .int .i64 0) (fun _ => 0)
      case atStart => rfl
      case round =>
        subst hrel
        go_wp2
        go_ret
        exact ⟨ret_bool (by simp [HE.out]), Below.refl _ _⟩
    · have ha : ∃ b off, ao = some ⟨b, off, none⟩ ∧ b < w.heap.size ∧ ∀ j (h : j < xs.length), w.cell? ⟨b, off + j, none⟩ = some (.string (str xs[j])) := by
        rcases ha with rfl | ha
        · exact absurd rfl h0
        · exact ha
      have hb : ∃ b off, bo = some ⟨b, off, none⟩ ∧ b < w.heap.size ∧ ∀ j (h : j < ys.length), w.cell? ⟨b, off + j, none⟩ = some (.string (str ys[j])) := by
        rcases hb with rfl | hb
        · exact absurd hl h0
        · exact hb
      obtain ⟨ba, oa, rfl, hba, hca⟩ := ha
      obtain ⟨bb, ob, rfl, hbb, hcb⟩ := hb
      have HCA := hide hca; clear hca
      have HCB := hide hcb; clear hcb
      have HL := hide hl
      clear hl
      go_enter Try.func37, Try.ntmps37
      go_wp2
      go_loopw [5] (fun i wr => ∃ k : Nat, k ≤ xs.length ∧ i = .int .i64 k ∧ Hid (xs.take k = ys.take k) ∧ Below w.heap.size w wr) (fun i _ => xs.length - (intOf i).toNat)
      case atStart => exact ⟨0, Nat.zero_le _, rfl, rfl, Below.refl _ _⟩
      case round =>
        obtain ⟨k, hk, rfl, HT, hbel⟩ := hrel
        by_cases hlt : k < xs.length
        · have hlt2 : k < ys.length := by have := HL.out; omega
          have c1 := (hbel.cell (p := ⟨ba, oa + k, none⟩) hba).trans (HCA.out k hlt)
          have c2 := (hbel.cell (p := ⟨bb, ob + k, none⟩) hbb).trans (HCB.out k hlt2)
          by_cases he : xs[k] = ys[k]
          · have he2 : ((str xs[k]).toList == (str ys[k]).toList) = true := by simp [he]
            have HT2 : Hid (xs.take (k + 1) = ys.take (k + 1)) := by
              show _ = _
              rw [List.take_succ_eq_append_getElem hlt, List.take_succ_eq_append_getElem hlt2, HT.out, he]
            clear he
            go_wp2
            go_region
            go_wp2
            go_roundw
            case rel => exact ⟨k + 1, by omega, by go_num, HT2, hbel.drew⟩
            case measure => simp [intOf]; omega
          · have he2 : ((str xs[k]).toList == (str ys[k]).toList) = false := by
              rw [Bool.eq_false_iff]
              intro h
              rw [Lib.toList_data, Lib.toList_data, str_data, str_data, beq_iff_eq] at h
              exact he h
            have HNE := hide (show ¬ xs = ys from fun h => he (by subst h; rfl))
            clear he
            go_wp2
            go_region
            go_wp2
            go_ret
            exact ⟨ret_bool (by simp [HNE.out]), hbel.drew⟩
        · have HE := hide (show xs = ys by
            have h := HT.out
            rwa [List.take_of_length_le (by omega), List.take_of_length_le (by have := HL.out; omega)] at h)
          go_wp2
          go_ret
          exact ⟨ret_bool (by simp [HE.out]), hbel⟩
  · have hl2 : ((xs.length : Int) != (ys.length : Int)) = true := by simp; omega
    have HNE := hide (show ¬ xs = ys from fun h => hl (by rw [h]))
    clear hl
    go_enter Try.func37, Try.ntmps37
    go_wp2
    go_ret
    exact ⟨ret_bool (by simp [HNE.out]), Below.refl _ _⟩

end Go.Proofs.Ytolcndchfnifhaa
