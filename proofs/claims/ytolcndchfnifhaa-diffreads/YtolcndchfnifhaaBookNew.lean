/- wordbook.New. -/
import Derived.Test.YtolcndchfnifhaaBook
import Derived.BigRegion
import Derived.Maps.AppendAt
import Derived.Maps.RangeWalk
namespace Go.Proofs.Ytolcndchfnifhaa
open Go.RowKit

theorem IsTexts.same {w w' : World} {v : Value} {ts : List (List UInt8)} (h : IsTexts w v ts) (hb : ∀ j, j < w.heap.size → w'.heap[j]? = w.heap[j]?) (hs : w.heap.size ≤ w'.heap.size) : IsTexts w' v ts := by
  obtain ⟨ao, cap, hv, hl, h⟩ := h
  refine ⟨ao, cap, hv, hl, ?_⟩
  rcases h with h | ⟨b, off, ha, hlt, hc⟩
  · exact .inl h
  · exact .inr ⟨b, off, ha, Nat.lt_of_lt_of_le hlt hs, fun j hj => by rw [World.cell?_of_block (w := w) (hb b hlt)]; exact hc j hj⟩
theorem IsTexts.set {w : World} {v : Value} {ts : List (List UInt8)} (h : IsTexts w v ts) {a : Addr} (u : Value) (hn : ∀ off s, w.cell? ⟨a.block, off, none⟩ ≠ some (.string s)) : IsTexts (w.setCell a u) v ts := by
  obtain ⟨ao, cap, hv, hl, h⟩ := h
  refine ⟨ao, cap, hv, hl, ?_⟩
  rcases h with h | ⟨b, off, ha, hlt, hc⟩
  · exact .inl h
  · refine .inr ⟨b, off, ha, by simpa [World.setCell] using hlt, fun j hj => ?_⟩
    have hne : b ≠ a.block := fun e => hn (off + j) _ (by rw [← e]; exact hc j hj)
    rw [World.cell?_of_block (w := w) (Below.heap_setCell _ _ _ _ hne)]
    exact hc j hj
theorem BookMap.setCell {w : World} {bm n : Nat} {f : List UInt8 → Option (Int × Bool)} (h : BookMap w bm n f) {a : Addr} (ha : bm ≠ a.block) (u : Value) : BookMap (w.setCell a u) bm n f := by
  obtain ⟨D, hD, hf⟩ := h
  exact ⟨D, hD.setCell ha u, hf⟩
theorem two_not (x y : Value) (o : Nat) (s : ByteArray) (hx : x ≠ .string s) (hy : y ≠ .string s) : (#[x, y] : Array Value)[o]? ≠ some (.string s) := by
  match o with
  | 0 => simpa using hx
  | 1 => simpa using hy
  | o + 2 => simp
theorem grown_drew {w w' : World} {row : Option Nat} (h : w.grownBy w' row) : w.grownBy w'.drew row := ⟨h.os, h.tape, h.output, h.size, h.block⟩

theorem clone_any (v : Value) (ts : List (List UInt8)) (w : World) (hv : IsTexts w v ts) (h1 : 1 ≤ ts.length) :
    Calls Try.prog 112 #[v] w fun e w' => ∃ co cc, e = .returned (.slice co ts.length cc) ∧ IsTexts w' (.slice co ts.length cc) ts ∧ Below w.heap.size w w' := by
  obtain ⟨ao, cap, rfl, hl, hc⟩ := hv
  obtain ⟨b, off, rfl, hbl, hcell⟩ : ∃ b off, ao = some ⟨b, off, none⟩ ∧ b < w.heap.size ∧ ∀ j (h : j < ts.length), w.cell? ⟨b, off + j, none⟩ = some (.string (str ts[j])) := by
    rcases hc with h | h
    · subst h; exact absurd h1 (by simp)
    · exact h
  refine (Try.slices_Clone_string b off ts.length cap (ts.map str) w (by simp) (by omega) (fun j hj => ?_)).mono ?_
  · have hj' : j < ts.length := by simpa using hj
    rw [hcell j hj']
    simp [List.getD, List.getElem?_eq_getElem hj']
  · rintro e w' ⟨cv, rfl, hown, _, hb⟩
    suffices h : IsTexts w' cv ts by
      have h' := h
      obtain ⟨co, cc, rfl, _⟩ := h'
      exact ⟨co, cc, rfl, h, hb⟩
    have e1 : ((ts.map str).take ts.length).map Value.string = txtRow ts.length (fun i => ts.getD i []) := by
      apply List.ext_getElem?
      intro j
      by_cases hj : j < ts.length
      · rw [txtRow_get _ _ _ hj]
        simp [List.getD, hj]
      · rw [List.getElem?_eq_none (by simp; omega), List.getElem?_eq_none (by rw [txtRow_length]; omega)]
    rw [e1] at hown
    have := IsTexts.own hown (by omega)
    rw [show (List.range ts.length).map (fun i => ts.getD i []) = ts by
      apply List.ext_getElem?
      intro j
      by_cases hj : j < ts.length
      · simp [List.getD, hj]
      · rw [List.getElem?_eq_none (by simp; omega), List.getElem?_eq_none (by omega)]] at this
    exact this

set_option maxRecDepth 100000 in
set_option maxHeartbeats 800000 in
theorem new_any (v : Value) (ts : List (List UInt8)) (w : World) (hv : IsTexts w v ts) (h1 : 1 ≤ ts.length) (h17 : ts.length ≤ 17) (h15 : ∀ i (h : i < ts.length), ts[i].length ≤ 15) :
    Calls Try.prog 70 #[v] w fun e w' => ∃ cv bm n, e = .returned (.agg #[cv, .map (some bm)]) ∧ IsTexts w' cv ts ∧ BookMap w' bm n (bookF ts ts.length) ∧ Below w.heap.size w w' := by
  have HV := hide hv
  obtain ⟨ao, ca, rfl, hla, hc⟩ := hv
  obtain ⟨b, off, hao, hbl, hcell⟩ : ∃ b off, ao = some ⟨b, off, none⟩ ∧ b < w.heap.size ∧ ∀ j (h : j < ts.length), w.cell? ⟨b, off + j, none⟩ = some (.string (str ts[j])) := by
    rcases hc with h | h
    · subst h; exact absurd h1 (by simp)
    · exact h
  subst hao
  have HCELL := hide hcell; clear hcell hc
  have H15 := hide h15; clear h15
  have hmm := @run_makeMap Try.prog
  go_enter Try.func70, Try.ntmps70
  go_wp2_with (go_at_call 112; refine (clone_any _ ts _ (HV.out.below (bel_alloc _ _) (Nat.le_refl _)) h1).mono ?_; rintro e w1 ⟨co, cc, rfl, hcv, hb1⟩)
  have hsz1 : w.heap.size + 1 ≤ w1.heap.size := by have := hb1.size; simpa using this
  have HCV := hide hcv; clear hcv
  obtain ⟨W2, hW2⟩ : ∃ W2, W2 = (w1.alloc (.map #[] 0)).alloc (.cells #[.slice co ts.length cc, .map (some w1.heap.size)] 98) := ⟨_, rfl⟩
  have HB2 := hide (show Below w1.heap.size w1 W2 by rw [hW2]; exact ((Below.refl _ _).alloc (Nat.le_refl _) _).alloc (by simp) _)
  have HM2 := hide (show BookMap W2 w1.heap.size 0 (fun _ => none) by
    rw [hW2]
    exact (BookMap.made w1).kept (World.grownBy_alloc _ _ none) (by simp))
  have HC2 := hide (show W2.heap[w1.heap.size + 1]? = some (.cells #[.slice co ts.length cc, .map (some w1.heap.size)] 98 (0, 0)) by
    rw [hW2]
    have h := heap_alloc_new (w1.alloc (.map #[] 0)) (.cells #[.slice co ts.length cc, .map (some w1.heap.size)] 98)
    rw [World.size_alloc] at h
    exact h)
  have HR2 := hide (show W2.heap[w.heap.size]? = some (.cells #[.slice none 0 0, .map none] 98 (0, 0)) by
    rw [HB2.out.block w.heap.size (by omega), hb1.block w.heap.size (by simp)]
    exact heap_alloc_new w _)
  have HS2 := hide (show W2.heap.size = w1.heap.size + 2 by rw [hW2]; simp)
  rw [← hW2]
  clear hW2 hmm
  go_loopw [13] (fun i wr => ∃ k : Nat, k ≤ ts.length ∧ i = .int .i64 k ∧ BookMap wr w1.heap.size (16 * k) (bookF ts k) ∧ W2.grownBy wr (some w1.heap.size)) (fun i _ => ts.length - (intOf i).toNat)
  case atStart => exact ⟨0, Nat.zero_le _, rfl, HM2.out, World.grownBy.refl _ _⟩
  case round =>
    obtain ⟨k, hk, rfl, hbm, hgr⟩ := hrel
    have hblk : ∀ j, j < w1.heap.size + 2 → j ≠ w1.heap.size → wr.heap[j]? = W2.heap[j]? := fun j h1 h2 => hgr.block j (by rw [HS2.out]; exact h1) (fun e => h2 (by simpa using e))
    have HBLK := hide hblk; clear hblk
    by_cases hlt : k < ts.length
    · have c1 : wr.cell? ⟨b, off + k, none⟩ = some (.string (str ts[k])) := by
        rw [World.cell?_of_block (w := W2) (HBLK.out b (by omega) (by omega)), HB2.out.cell (p := ⟨b, off + k, none⟩) (by show b < _; omega), hb1.cell (p := ⟨b, off + k, none⟩) (by simp; omega)]
        rw [World.cell?_of_block (w := w) (Below.heap_alloc w _ b hbl)]
        exact HCELL.out k hlt
      have hd : decide ((k : Int) < (ts.length : Int)) = true := by simp; omega
      have HBF := hide (show bookF ts (k + 1) = addW (bookF ts k) k ts[k] by rw [bookF]; simp [List.getD, hlt])
      have hl15 := H15.out k hlt
      generalize ts[k] = wd at *
      have hss : (str wd).size = wd.length := str_size wd
      by_cases hw : wd = []
      · subst hw
        have he : (str ([] : List UInt8)).toList.isEmpty = true := by rw [Lib.toList_data, str_data]; rfl
        have HADD := hide (show addW (bookF ts k) k [] = bookF ts k from if_pos rfl)
        go_wp2
        go_roundw
        case rel => exact ⟨k + 1, by omega, by go_num, by rw [HBF.out, HADD.out]; exact hbm.mono (by omega), hgr⟩
        case measure => simp [intOf]; omega
      · have hlen0 : wd.length ≠ 0 := fun h => hw (List.eq_nil_of_length_eq_zero h)
        have he : (str wd).toList.isEmpty = false := by rw [Lib.toList_data, str_data]; simpa using hw
        have HADD := hide (show addW (bookF ts k) k wd = putF (preF (bookF ts k) wd (wd.length - 1)) wd (k, true) by rw [addW, if_neg hw])
        clear hw
        go_wp2
        go_loopw [6] (fun i wq => ∃ j : Nat, j + 1 ≤ wd.length ∧ i = .int .i64 ((j : Int) + 1) ∧ BookMap wq w1.heap.size (16 * k + j) (preF (bookF ts k) wd j) ∧ W2.grownBy wq (some w1.heap.size)) (fun i _ => wd.length + 1 - (intOf i).toNat)
        case atStart => exact ⟨0, by omega, by go_num, hbm, hgr⟩
        case round =>
          obtain ⟨j, hj, rfl, hbm2, hgr2⟩ := hrel
          clear hbm hgr HBLK
          have hcb : ∀ u, (wr.drewN u).cell? ⟨w1.heap.size + 1, 1, none⟩ = some (.map (some w1.heap.size)) := fun u => by
            show wr.cell? _ = _
            rw [World.cell?_of_block (w := W2) (hgr2.block (w1.heap.size + 1) (by rw [HS2.out]; omega) (by simp)), Lib.cell_of_heap HC2.out]; rfl
          have hcb0 := hcb 0
          have hcb0' : wr.cell? ⟨w1.heap.size + 1, 1, none⟩ = some (.map (some w1.heap.size)) := hcb0
          clear hcb hcb0
          by_cases hjl : j + 1 < wd.length
          · obtain ⟨w', hrun0, hbm3, hgr3⟩ := hbm2.drew.put (by omega) ((str wd).extract 0 (j + 1)) (by rw [Lib.extract_eq, str_data]; unfold maxLen; simp [ByteArray.size]; omega) (0, false)
            have hrun : (Instr.mapUpdate 96 (.map (some w1.heap.size)) (.string ((str wd).extract 0 (j + 1))) (.agg #[.int .i64 0, .bool false])).run Try.prog wr.drew = .ok () w' := hrun0
            clear hrun0
            have HPRE := hide (show preF (bookF ts k) wd (j + 1) = putF (preF (bookF ts k) wd j) ((str wd).extract 0 (j + 1)).data.toList (0, false) by
              rw [preF, Lib.extract_data, str_data]; simp)
            have HB3 := hide hbm3
            have HG3 := hide hgr3
            clear hbm3 hgr3
            go_wp2
            go_region
            go_wp2
            go_roundw
            case rel => exact ⟨j + 1, by omega, by go_num, by rw [HPRE.out]; exact HB3.out, (grown_drew hgr2).trans HG3.out⟩
            case measure => simp [intOf]; omega
          · obtain ⟨w', hrun0, hbm3, hgr3⟩ := hbm2.put (by omega) (str wd) (by rw [hss]; unfold maxLen; omega) ((k : Int), true)
            have hrun : (Instr.mapUpdate 96 (.map (some w1.heap.size)) (.string (str wd)) (.agg #[.int .i64 (k : Int), .bool true])).run Try.prog wr = .ok () w' := hrun0
            clear hrun0
            have HPRE := hide (show bookF ts (k + 1) = putF (preF (bookF ts k) wd j) (str wd).data.toList ((k : Int), true) by
              rw [HBF.out, HADD.out, str_data, show wd.length - 1 = j by omega])
            have HB3 := hide hbm3
            have HG3 := hide hgr3
            clear hbm3 hgr3
            go_wp2
            go_roundw
            case rel => exact ⟨k + 1, by omega, by go_num, by rw [HPRE.out]; exact HB3.out.mono (by omega), hgr2.trans HG3.out⟩
            case measure => simp [intOf]; omega
    · obtain rfl : k = ts.length := by omega
      have hbk := HBLK.out (w1.heap.size + 1) (by omega) (by omega)
      rw [HC2.out] at hbk
      have hbr := HBLK.out w.heap.size (by omega) (by omega)
      rw [HR2.out] at hbr
      have c0 : wr.cell? ⟨w1.heap.size + 1, 0, none⟩ = some (.slice co ts.length cc) := by rw [Lib.cell_of_heap hbk]; rfl
      have c1 : wr.cell? ⟨w1.heap.size + 1, 1, none⟩ = some (.map (some w1.heap.size)) := by rw [Lib.cell_of_heap hbk]; rfl
      have d0 : wr.cell? ⟨w.heap.size, 0, none⟩ = some (.slice none 0 0) := by rw [Lib.cell_of_heap hbr]; rfl
      have d1 : wr.cell? ⟨w.heap.size, 1, none⟩ = some (.map none) := by rw [Lib.cell_of_heap hbr]; rfl
      have f0 : wr.frozen? ⟨w.heap.size, 0, none⟩ = false := Lib.frozen_of_heap hbr 0
      have f1 : wr.frozen? ⟨w.heap.size, 1, none⟩ = false := Lib.frozen_of_heap hbr 1
      have HIT := hide (show IsTexts wr (.slice co ts.length cc) ts from HCV.out.same (fun j hj => (HBLK.out j (by omega) (by omega)).trans (HB2.out.block j hj)) (by have := hgr.size; rw [HS2.out] at this; omega))
      have hbr2 := heap_setCell_same wr w.heap.size 0 _ _ (.slice co ts.length cc) hbr
      have HF := hide (show Below w.heap.size w wr from (bel_trans (bel_trans (bel_alloc w _) hb1) HB2.out).grown hgr (by rw [HS2.out]; omega) (fun j hj => by cases hj; omega))
      go_wp2
      refine bodyPost_ret (v := .agg #[.slice co ts.length cc, .map (some w1.heap.size)]) (by simp [results, Try.results70, go_sem, d0, d1]) rfl ⟨_, w1.heap.size, 16 * ts.length, rfl, ?_, ?_, ?_⟩
      · refine (HIT.out.set (a := ⟨w.heap.size, 0, none⟩) _ (fun o x h => ?_)).set (a := ⟨w.heap.size, 1, none⟩) _ (fun o x h => ?_)
        · rw [Lib.cell_of_heap hbr] at h
          exact absurd h (two_not _ _ _ _ (by simp) (by simp))
        · rw [Lib.cell_of_heap hbr2] at h
          exact absurd h (two_not _ _ _ _ (by simp) (by simp))
      · exact (hbm.setCell (a := ⟨w.heap.size, 0, none⟩) (by show w1.heap.size ≠ w.heap.size; omega) _).setCell (a := ⟨w.heap.size, 1, none⟩) (by show w1.heap.size ≠ w.heap.size; omega) _
      · exact (HF.out.setCell (p := ⟨w.heap.size, 0, none⟩) (Nat.le_refl _) _).setCell (p := ⟨w.heap.size, 1, none⟩) (Nat.le_refl _) _

end Go.Proofs.Ytolcndchfnifhaa
