/- The reference's wordless, WriteCode and ReadCode. -/
import Derived.Test.YtolcndchfnifhaaFront
import Derived.Test.YtolcndchfnifhaaWordsOf
import Derived.Test.YtolcndchfnifhaaPacked
import Derived.Test.YtolcndchfnifhaaCodeRead
namespace Go.Proofs.Ytolcndchfnifhaa
open Go.RowKit

set_option maxRecDepth 100000 in
set_option maxHeartbeats 800000 in
theorem wordless_any (v vl : Value) (ts : List (List UInt8)) (l : List Int) (w : World) (hv : IsTexts w v ts) (hl : IsInts w vl l) (h1 : 1 ≤ ts.length) (h17 : ts.length ≤ 17) :
    Calls Try.prog 72 #[v, vl] w fun e w' => e = .returned (.bool (!allWords ts l)) ∧ w = w' := by
  obtain ⟨ao, ca, rfl, hla, hc⟩ := hv
  obtain ⟨bk, off, hao, hbl, hcell⟩ : ∃ b off, ao = some ⟨b, off, none⟩ ∧ b < w.heap.size ∧ ∀ j (h : j < ts.length), w.cell? ⟨b, off + j, none⟩ = some (.string (str ts[j])) := by
    rcases hc with h | h
    · subst h; exact absurd h1 (by simp)
    · exact h
  subst hao
  have HCELL := hide hcell; clear hcell hc
  obtain ⟨lo, lc, rfl, hll, hlc⟩ := hl
  have HLC := hide hlc; clear hlc
  go_enter Try.func72, Try.ntmps72
  go_wp2
  go_loop [5] (fun i => ∃ k : Nat, k ≤ l.length ∧ i = .int .i64 k ∧ Hid (allWords ts (l.take k) = true)) (fun i => l.length - (intOf i).toNat)
  case atStart => exact ⟨0, Nat.zero_le _, rfl, rfl⟩
  case round =>
    obtain ⟨k, hk, rfl, HA⟩ := hrel
    by_cases hlt : k < l.length
    · obtain ⟨b, of2, hao, hbl2, hcell2⟩ : ∃ b off, lo = some ⟨b, off, none⟩ ∧ b < w.heap.size ∧ ∀ j (h : j < l.length), w.cell? ⟨b, off + j, none⟩ = some (.int .i64 l[j]) := by
        rcases HLC.out with h | h
        · subst h; exact absurd hlt (by simp)
        · exact h
      subst hao
      have c1 := hcell2 k hlt
      clear hcell2
      have HT := hide (show l.take (k + 1) = l.take k ++ [l[k]] from List.take_succ_eq_append_getElem hlt)
      by_cases h0 : 0 ≤ l[k]
      · by_cases hx : l[k] ≤ (ts.length : Int) - 1
        · obtain ⟨m, hm⟩ := Int.eq_ofNat_of_zero_le h0
          have hml : m < ts.length := by omega
          have c2 := HCELL.out m hml
          have HWS := hide (show wordS ts l[k] = ts[m] by rw [hm, wordS, if_pos (by omega)]; simp [List.getD, hml])
          have HFA := hide (show wordS ts l[k] = [] → allWords ts l = false from allWords_false ts l k hlt)
          have HSN := hide (show allWords ts (l.take (k + 1)) = (allWords ts (l.take k) && decide (wordS ts l[k] ≠ [])) by rw [HT.out, allWords_snoc])
          rw [hm] at c1 hx
          have hq : decide ((m : Int) ≤ (ts.length : Int) - 1) = true := by simpa using hx
          clear h0 hm
          by_cases hw : ts[m] = []
          · have he : (str ts[m]).toList.isEmpty = true := by rw [Lib.toList_data, str_data, hw]; rfl
            have HF := hide (HFA.out (by rw [HWS.out, hw]))
            clear hw
            go_wp2_with (go_at_call 61; refine (within_any _ _ _ _).mono ?_; rintro e w1 ⟨rfl, rfl⟩)
            go_ret
            rw [HF.out]
            exact ⟨rfl, rfl⟩
          · have he : (str ts[m]).toList.isEmpty = false := by rw [Lib.toList_data, str_data]; simpa using hw
            have HO := hide (show allWords ts (l.take (k + 1)) = true by rw [HSN.out, HA.out, HWS.out]; simpa using hw)
            clear hw
            go_wp2_with (go_at_call 61; refine (within_any _ _ _ _).mono ?_; rintro e w1 ⟨rfl, rfl⟩)
            go_round
            case rel => exact ⟨k + 1, by omega, by go_num, HO⟩
            case measure => simp [intOf]; omega
        · have HF := hide (allWords_false ts l k hlt (if_neg (by omega)))
          have hq : decide (l[k] ≤ (ts.length : Int) - 1) = false := by simpa using hx
          go_wp2_with (go_at_call 61; refine (within_any _ _ _ _).mono ?_; rintro e w1 ⟨rfl, rfl⟩)
          go_ret
          rw [HF.out]
          exact ⟨rfl, rfl⟩
      · have HF := hide (allWords_false ts l k hlt (if_neg (by omega)))
        have hq : decide (0 ≤ l[k]) = false := by simpa using h0
        go_wp2_with (go_at_call 61; refine (within_any _ _ _ _).mono ?_; rintro e w1 ⟨rfl, rfl⟩)
        go_ret
        rw [HF.out]
        exact ⟨rfl, rfl⟩
    · have HX := hide (show l.take k = l from List.take_of_length_le (by omega))
      have HF := hide (show allWords ts l = true by rw [← HX.out]; exact HA.out)
      go_wp2
      go_ret
      rw [HF.out]
      exact ⟨rfl, rfl⟩

theorem allWords_get {ts : List (List UInt8)} {l : List Int} (h : allWords ts l = true) (k : Nat) (hk : k < l.length) : ∃ m : Nat, l[k] = m ∧ m < ts.length ∧ wordS ts l[k] = ts.getD m [] := by
  have h2 := List.all_eq_true.1 h l[k] (List.getElem_mem hk)
  rw [decide_eq_true_eq] at h2
  by_cases hr : 0 ≤ l[k] ∧ l[k] < ts.length
  · exact ⟨l[k].toNat, by omega, by omega, if_pos hr⟩
  · exact absurd (if_neg hr) h2

set_option maxRecDepth 100000 in
set_option maxHeartbeats 800000 in
theorem writeCode_any (v vl : Value) (xs l : List Int) (w : World) (hv : IsInts w v xs) (hl : IsInts w vl l) :
    Calls Try.prog 39 #[v, vl] w fun e w' => e = .returned (.tuple #[.string (str (writeS xs l)), .int .i64 (writeE xs l)]) ∧ Below w.heap.size w w' := by
  have hnil : str [] = ⟨#[]⟩ := rfl
  obtain ⟨i0, hi, hz0, hz1, hz2⟩ := info_parts Try.infoU8
  have HV := hide hv; clear hv
  have HL := hide hl
  obtain ⟨lo, lc, rfl, hll, _⟩ := hl
  by_cases hE : checkE xs = 0
  · have HE := hide hE
    obtain ⟨hl1, hl2, hok, _, _⟩ := checkE_zero hE
    have HOK := hide hok; clear hok
    by_cases h4 : l.length ≤ 4096
    · have h42 : decide (4096 < (l.length : Int)) = false := by simp; omega
      by_cases ha : allWords (wordsOf xs) l = true
      · have HA := hide ha
        have HNE := hide (show writeE xs l = 0 by rw [writeE, if_pos hE, if_pos h4, if_pos ha])
        have HNS := hide (show writeS xs l = writeBits (wordsOf xs) l by rw [writeS, HNE.out, if_pos rfl])
        have hna : (!allWords (wordsOf xs) l) = false := by rw [ha]; rfl
        clear ha
        go_enter Try.func39, Try.ntmps39
        go_wp2_with fail
        refine (checkCode_any _ _ _ HV.out).mono ?_
        rintro e wx ⟨rfl, rfl⟩
        go_wp2_with fail
        refine (wordsOf_any _ _ _ HV.out HE.out).mono ?_
        rintro e w1 ⟨r, rfl, hr, hb1⟩
        have HR := hide hr
        have HL1 := hide (HL.out.below hb1 (Nat.le_refl _))
        obtain ⟨ro, rc, rfl, hrl0, hrc⟩ := hr
        obtain ⟨rb, rof, hro, hrl, hrcell⟩ : ∃ b off, ro = some ⟨b, off, none⟩ ∧ b < w1.heap.size ∧ ∀ j (h : j < (wordsOf xs).length), w1.cell? ⟨b, off + j, none⟩ = some (.string (str (wordsOf xs)[j])) := by
          rcases hrc with h | h
          · have h2 := wordsOf_length xs; rw [h] at h2; simp at h2; omega
          · exact h
        have HRC := hide hrcell
        clear hrcell hrc hrl0
        rw [hro] at HR
        rw [hro]
        clear hro
        go_wp2_with fail
        refine (wordless_any _ _ _ _ _ HR.out HL1.out (by rw [wordsOf_length]; exact hl1) (by rw [wordsOf_length]; exact hl2)).mono ?_
        rintro e wx ⟨rfl, rfl⟩
        rw [hna]
        go_wp2
        go_loopw [8, 9] (fun t i wr => ∃ k : Nat, k ≤ l.length ∧ i = .int .i64 k ∧ wr.ownsRow w1.heap.size 5 1 t (writeBits (wordsOf xs) (l.take k)).length (byt (writeBits (wordsOf xs) (l.take k))) ∧ Below w1.heap.size w1 wr) (fun _ i _ => l.length - (intOf i).toNat)
        case atStart => exact ⟨0, Nat.zero_le _, rfl, World.ownsRow_nil _ _ _ _, Below.refl _ _⟩
        case round =>
          obtain ⟨k, hk, rfl, ho, hb⟩ := hrel
          have hsz := hb.size
          have hpl : (writeBits (wordsOf xs) (l.take k)).length ≤ 61440 := by
            have h := writeBits_length xs HOK.out (l.take k)
            have h2 : (l.take k).length ≤ 4096 := by simp; omega
            omega
          by_cases hlt : k < l.length
          · obtain ⟨m, hm, hml, hws⟩ := allWords_get HA.out k hlt
            obtain ⟨b, of2, hao, hbl2, hcell2⟩ : ∃ b off, lo = some ⟨b, off, none⟩ ∧ b < w1.heap.size ∧ ∀ j (h : j < l.length), w1.cell? ⟨b, off + j, none⟩ = some (.int .i64 l[j]) := by
              obtain ⟨ao, cap, hv, _, hc⟩ := HL1.out
              simp only [Value.slice.injEq] at hv
              obtain ⟨rfl, _, _⟩ := hv
              rcases hc with h | h
              · subst h; exact absurd hlt (by simp)
              · exact h
            subst hao
            have c1 := (hb.cell (p := ⟨b, of2 + k, none⟩) hbl2).trans (hcell2 k hlt)
            have c2 := (hb.cell (p := ⟨rb, rof + m, none⟩) hrl).trans (HRC.out m hml)
            have hg : (wordsOf xs).getD m [] = (wordsOf xs)[m] := by simp [List.getD, hml]
            have HP := hide (show writeBits (wordsOf xs) (l.take (k + 1)) = writeBits (wordsOf xs) (l.take k) ++ (wordsOf xs)[m] by
              rw [List.take_succ_eq_append_getElem hlt, writeBits_snoc, hws, hg])
            have hwl : (wordsOf xs)[m].length ≤ 15 := words15 xs HOK.out m hml
            rw [hm] at c1
            clear hcell2 hws hg hm
            generalize (wordsOf xs)[m] = wd at *
            generalize writeBits (wordsOf xs) (l.take k) = L at *
            go_wp2_with (at_builtin; refine Lib.wpList_append_own_string _ rfl _ _ 79 9 rfl w1.heap.size 5 i0 Try.underlying79 Try.underlying9 hi hz0 hz1 hz2 _ _ _ rfl ho (str wd) rfl (by rw [str_size]; unfold maxLen; omega) (by rw [str_size]; omega) (by omega) ?_; intro v' w3 hown' hgrow _)
            have ho4 : w3.ownsRow w1.heap.size 5 1 v' (writeBits (wordsOf xs) (l.take (k + 1))).length (byt (writeBits (wordsOf xs) (l.take (k + 1)))) := by
              rw [HP.out, byt_append, List.length_append, ← str_data wd]
              have hx := hown'
              rw [str_size] at hx
              exact hx
            have hb4 : Below w1.heap.size w1 w3 := hb.grown hgrow (by omega) (fun j hj => (ho.lt j hj).1)
            clear hown' hgrow ho
            go_roundw
            case rel => exact ⟨k + 1, by omega, by go_num, ho4, hb4⟩
            case measure => simp [intOf]; omega
          · have HX : l.take k = l := List.take_of_length_le (by omega)
            rw [HX] at ho
            have hcv := run_string_any (dst := 9) Try.underlying79 Try.underlying5 Try.underlying9 ho
            clear HX
            go_wp2
            go_ret2
            rw [HNE.out, HNS.out]
            exact ⟨rfl, bel_trans hb1 hb⟩
      · have HNE := hide (show writeE xs l = 4 by rw [writeE, if_pos hE, if_pos h4, if_neg ha])
        have HNS := hide (show writeS xs l = [] by rw [writeS, HNE.out, if_neg (by decide)])
        have hna : (!allWords (wordsOf xs) l) = true := by simpa using ha
        clear ha
        go_enter Try.func39, Try.ntmps39
        go_wp2_with fail
        refine (checkCode_any _ _ _ HV.out).mono ?_
        rintro e wx ⟨rfl, rfl⟩
        go_wp2_with fail
        refine (wordsOf_any _ _ _ HV.out HE.out).mono ?_
        rintro e w1 ⟨r, rfl, hr, hb1⟩
        have HR := hide hr; clear hr
        go_wp2_with fail
        refine (wordless_any _ _ _ _ _ HR.out (HL.out.below hb1 (Nat.le_refl _)) (by rw [wordsOf_length]; exact hl1) (by rw [wordsOf_length]; exact hl2)).mono ?_
        rintro e wx ⟨rfl, rfl⟩
        rw [hna]
        go_wp2
        go_ret2
        rw [HNE.out, HNS.out]
        exact ⟨rfl, hb1⟩
    · have h42 : decide (4096 < (l.length : Int)) = true := by simp; omega
      have HNE := hide (show writeE xs l = 2 by rw [writeE, if_pos hE, if_neg h4])
      have HNS := hide (show writeS xs l = [] by rw [writeS, HNE.out, if_neg (by decide)])
      go_enter Try.func39, Try.ntmps39
      go_wp2_with (go_at_call 33; refine (checkCode_any _ _ _ HV.out).mono ?_; rintro e wx ⟨rfl, rfl⟩)
      go_ret2
      rw [HNE.out, HNS.out]
      exact ⟨rfl, Below.refl _ _⟩
  · have HNE := hide (show writeE xs l = checkE xs by rw [writeE, if_neg hE])
    have HNS := hide (show writeS xs l = [] by rw [writeS, HNE.out, if_neg hE])
    have hne : (checkE xs != 0) = true := by simpa using hE
    clear hE
    go_enter Try.func39, Try.ntmps39
    go_wp2_with (go_at_call 33; refine (checkCode_any _ _ _ HV.out).mono ?_; rintro e wx ⟨rfl, rfl⟩)
    go_ret2
    rw [HNE.out, HNS.out]
    exact ⟨rfl, Below.refl _ _⟩

end Go.Proofs.Ytolcndchfnifhaa
