/- code.Write. -/
import Derived.Test.YtolcndchfnifhaaNext
import Derived.Test.YtolcndchfnifhaaPack
namespace Go.Proofs.Ytolcndchfnifhaa
open Go.RowKit

theorem words15 (xs : List Int) (hok : lensOk xs = true) : ∀ i (h : i < (wordsOf xs).length), (wordsOf xs)[i].length ≤ 15 := by
  intro i h
  rw [wordsOf_length] at h
  rw [wordsOf_get xs i h]
  exact word_length xs hok i

set_option maxRecDepth 100000 in
set_option maxHeartbeats 800000 in
theorem write_walk (v vl : Value) (xs l : List Int) (w : World) (hv : IsInts w v xs) (hl : IsInts w vl l) (hE : checkE xs = 0) (h4 : l.length ≤ 4096) :
    Calls Try.prog 38 #[v, vl] w fun e w' => e = .returned (.tuple #[.string (str (writeS xs l)), .int .i64 (writeE xs l)]) ∧ Below w.heap.size w w' := by
  obtain ⟨hl1, hl2, hok, _, _⟩ := checkE_zero hE
  have HV := hide hv; clear hv
  have HL := hide hl
  obtain ⟨lo, lc, rfl, _, _⟩ := hl
  have h42 : decide (4096 < (l.length : Int)) = false := by simp; omega
  have HE := hide hE
  have HOK := hide hok
  go_enter Try.func38, Try.ntmps38
  go_wp2_with fail
  refine (words_walk _ _ _ HV.out HE.out).mono ?_
  rintro e w1 ⟨r, rfl, hr, hb1⟩
  have HR := hide hr; clear hr
  go_wp2_with fail
  refine (new_any _ _ _ HR.out (by rw [wordsOf_length]; exact hl1) (by rw [wordsOf_length]; exact hl2) (words15 xs HOK.out)).mono ?_
  rintro e w2 ⟨cv, bm, n, rfl, hcv, hbm, hb2⟩
  have HCV := hide hcv
  obtain ⟨co, cc, rfl, _, _⟩ := hcv
  clear hbm hok
  go_wp2
  have HLEN := hide (wordsOf_length xs)
  obtain ⟨W, hW⟩ : ∃ W, W = w2.alloc (.cells #[.slice co (wordsOf xs).length cc, .map (some bm)] 98) := ⟨_, rfl⟩
  have hWs : W.heap.size = w2.heap.size + 1 := by rw [hW]; simp
  have hWk : W.heap[w2.heap.size]? = some (.cells #[.slice co (wordsOf xs).length cc, .map (some bm)] 98 (0, 0)) := by rw [hW]; exact heap_alloc_new w2 _
  have hWb : Below w2.heap.size w2 W := by rw [hW]; exact bel_alloc _ _
  have HWB := hide (bel_trans (bel_trans hb1 hb2) hWb)
  have HWT := hide (HCV.out.below hWb (Nat.le_refl _))
  have HWL := hide (((HL.out.below hb1 (Nat.le_refl _)).below hb2 (Nat.le_refl _)).below hWb (Nat.le_refl _))
  have hW0 : W.cell? ⟨w2.heap.size, 0, none⟩ = some (.slice co (wordsOf xs).length cc) := by rw [Lib.cell_of_heap hWk]; rfl
  have hW1 : W.cell? ⟨w2.heap.size, 1, none⟩ = some (.map (some bm)) := by rw [Lib.cell_of_heap hWk]; rfl
  have HW0 := hide hW0
  have HW1 := hide hW1
  have HST := hide (Lib.fresh_isBuilder 84 5 W)
  rw [← hW]
  have hbp : (⟨w2.heap.size + 1, 0, none⟩ : Addr) = ⟨W.heap.size, 0, none⟩ := by rw [hWs]
  rw [hbp]
  clear hW hWk hWb hW0 hW1 hbp
  have hlt2 : w2.heap.size < W.heap.size := by omega
  clear hWs
  generalize hts : wordsOf xs = ts at *
  have HTS := hide hts; clear hts
  go_loopw [29] (fun i wr => ∃ k : Nat, k ≤ l.length ∧ i = .int .i64 k ∧ Hid (allWords ts (l.take k) = true) ∧ Lib.IsBuilder 84 5 W.heap.size W.heap.size (byt (writeBits ts (l.take k))) wr ∧ Below W.heap.size W wr)
    (fun i _ => l.length - (intOf i).toNat)
  case atStart => exact ⟨0, Nat.zero_le _, rfl, rfl, HST.out, bel_alloc _ _⟩
  case round =>
    obtain ⟨k, hk, rfl, HA, hbd, hb⟩ := hrel
    have hsz := hb.size
    have hpl : (writeBits ts (l.take k)).length ≤ 61440 := by
      have h := writeBits_length xs HOK.out (l.take k)
      rw [HTS.out] at h
      have h2 : (l.take k).length ≤ 4096 := by simp; omega
      omega
    by_cases hlt : k < l.length
    · obtain ⟨b, off, hao, hbl, hcell⟩ : ∃ b off, lo = some ⟨b, off, none⟩ ∧ b < W.heap.size ∧ ∀ j (h : j < l.length), W.cell? ⟨b, off + j, none⟩ = some (.int .i64 l[j]) := by
        obtain ⟨ao, cap, hv, _, hc⟩ := HWL.out
        simp only [Value.slice.injEq] at hv
        obtain ⟨rfl, _, _⟩ := hv
        rcases hc with h | h
        · subst h; exact absurd hlt (by simp)
        · exact h
      subst hao
      have c1 := (hb.cell (p := ⟨b, off + k, none⟩) hbl).trans (hcell k hlt)
      have c2 := (hb.cell (p := ⟨w2.heap.size, 0, none⟩) hlt2).trans HW0.out
      have c3 := (hb.cell (p := ⟨w2.heap.size, 1, none⟩) hlt2).trans HW1.out
      clear hcell
      have HT := hide (show l.take (k + 1) = l.take k ++ [l[k]] from List.take_succ_eq_append_getElem hlt)
      have HIT := hide (HWT.out.below hb (Nat.le_refl _))
      have hwl : (wordS ts l[k]).length ≤ 15 := by
        have h := wordS_length xs HOK.out l[k]
        rw [HTS.out] at h; exact h
      have hws : (str (wordS ts l[k])).size ≤ 15 := by rw [str_size]; exact hwl
      by_cases he : wordS ts l[k] = []
      · have hE : wordE ts l[k] = 4 := if_pos he
        have HNE := hide (show writeE xs l = 4 by rw [writeE, if_pos HE.out, if_pos h4, HTS.out, allWords_false ts l k hlt he]; rfl)
        have HNS := hide (show writeS xs l = [] by rw [writeS, HNE.out, if_neg (by decide)])
        clear he
        go_wp2_with (go_at_call 71; refine (word_any _ bm ts _ _ HIT.out).mono ?_; rintro e w3 ⟨rfl, hb3⟩)
        go_ret2
        rw [HNE.out, HNS.out]
        exact ⟨rfl, bel_trans (bel_trans HWB.out hb) hb3⟩
      · have hE : wordE ts l[k] = 0 := if_neg he
        have HO := hide (show allWords ts (l.take (k + 1)) = true by rw [HT.out, allWords_snoc, HA.out]; simpa using he)
        have HP := hide (show writeBits ts (l.take (k + 1)) = writeBits ts (l.take k) ++ wordS ts l[k] by rw [HT.out, writeBits_snoc])
        clear he
        go_wp2_with (first | (go_at_call 71; refine (word_any _ bm ts _ _ HIT.out).mono ?_; rintro e w3 ⟨rfl, hb3⟩; have hbd3 := isBuilder_below hbd hb3 hsz; have hsz3 := hb3.size) | (go_at_call 66; refine (writeString_any W.heap.size W.heap.size _ _ _ hbd3 (by omega) (by omega)).mono ?_; rintro e w4 ⟨rfl, hbd4, hb4⟩))
        go_roundw
        case rel => exact ⟨k + 1, by omega, by go_num, HO, by rw [HP.out]; exact hbd4, (hb.trans (hb3.mono hsz)).trans hb4⟩
        case measure => simp [intOf]; omega
    · have HX := hide (show l.take k = l from List.take_of_length_le (by omega))
      have HNE := hide (show writeE xs l = 0 by rw [writeE, if_pos HE.out, if_pos h4, HTS.out, ← HX.out, HA.out]; rfl)
      have HNS := hide (show writeS xs l = writeBits ts l by rw [writeS, HNE.out, if_pos rfl, HTS.out])
      rw [HX.out] at hbd
      go_wp2_with (go_at_call 64; refine (string_any W.heap.size W.heap.size _ _ hbd hsz).mono ?_; rintro e w3 ⟨rfl, hb3⟩)
      go_ret2
      rw [HNE.out, HNS.out]
      exact ⟨rfl, HWB.out.trans ((hb.trans hb3).mono (HWB.out.size))⟩

theorem write_any (v vl : Value) (xs l : List Int) (w : World) (hv : IsInts w v xs) (hl : IsInts w vl l) :
    Calls Try.prog 38 #[v, vl] w fun e w' => e = .returned (.tuple #[.string (str (writeS xs l)), .int .i64 (writeE xs l)]) ∧ Below w.heap.size w w' := by
  by_cases hE : checkE xs = 0
  · by_cases h4 : l.length ≤ 4096
    · exact write_walk v vl xs l w hv hl hE h4
    · have HNE := hide (show writeE xs l = 2 by rw [writeE, if_pos hE, if_neg h4])
      have HNS := hide (show writeS xs l = [] by rw [writeS, HNE.out, if_neg (by decide)])
      have HV := hide hv; clear hv
      obtain ⟨lo, lc, rfl, _, _⟩ := hl
      have h42 : decide (4096 < (l.length : Int)) = true := by simp; omega
      have HE := hide hE; clear hE
      go_enter Try.func38, Try.ntmps38
      go_wp2_with fail
      refine (words_walk _ _ _ HV.out HE.out).mono ?_
      rintro e w1 ⟨r, rfl, hr, hb1⟩
      go_wp2
      go_ret2
      rw [HNE.out, HNS.out]
      exact ⟨rfl, hb1⟩
  · have HNE := hide (show writeE xs l = checkE xs by rw [writeE, if_neg hE])
    have HNS := hide (show writeS xs l = [] by rw [writeS, HNE.out, if_neg hE])
    have HV := hide hv; clear hv hl
    have hne : (checkE xs != 0) = true := by simpa using hE
    clear hE
    go_enter Try.func38, Try.ntmps38
    go_wp2_with fail
    refine (words_any _ _ _ HV.out).mono ?_
    rintro e w1 ⟨r, rfl, hr, hb1⟩
    clear hr
    go_wp2
    go_ret2
    rw [HNE.out, HNS.out]
    exact ⟨rfl, hb1⟩

end Go.Proofs.Ytolcndchfnifhaa
