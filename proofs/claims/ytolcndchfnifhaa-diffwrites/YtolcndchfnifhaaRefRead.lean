/- The reference's ReadCode. -/
import Derived.Test.YtolcndchfnifhaaRefCode
namespace Go.Proofs.Ytolcndchfnifhaa
open Go.RowKit

/-- an older cell stands behind an append. -/
theorem cell_grown {w w3 : World} {base B : Nat} {e : TypeId} {v : Value} {k : Nat} {xs : List Value} {o : Obj} (ho : w.ownsRow base e 1 v k xs) (hg : (w.alloc o).grownBy w3 v.ownBlock) {p : Addr} {x : Value} (hp : p.block < B) (hB : B ≤ w.heap.size) (h : w.cell? p = some x) (hb : B ≤ base := by exact Nat.le_refl _) : w3.cell? p = some x := by
  rw [World.cell?_of_block (w := w) ((hg.block p.block (by simp; omega) (fun e => by have := (ho.lt p.block e.symm).1; omega)).trans (Below.heap_alloc w o p.block (by omega)))]
  exact h

theorem some_word (xs : List Int) (hE : checkE xs = 0) : ∃ i, i < (wordsOf xs).length ∧ (wordsOf xs).getD i [] ≠ [] := by
  obtain ⟨_, _, hok, h0, _⟩ := checkE_zero hE
  have hu : anyUsed xs = true := by
    cases h : anyUsed xs with
    | true => rfl
    | false => have := (used_iff xs).2 h; omega
  obtain ⟨x, hx, h1⟩ := List.any_eq_true.1 hu
  obtain ⟨i, hi, rfl⟩ := List.getElem_of_mem hx
  refine ⟨i, by rw [wordsOf_length]; exact hi, ?_⟩
  have e : (wordsOf xs).getD i [] = word xs i := by simp [List.getD, wordsOf, hi]
  have gi : xs.getD i 0 = xs[i] := by simp [List.getD, List.getElem?_eq_getElem hi]
  have h2 : 0 < xs[i] := by simpa using h1
  rw [e, word, gi, if_pos (by omega)]
  intro h
  have hl := congrArg List.length h
  rw [numBits_length, List.length_nil] at hl
  omega

theorem read_step (xs : List Int) (hE : checkE xs = 0) (b : List UInt8) (k : Nat) :
    vlN (bookOf xs) b k = frV (wordsOf xs) (b.drop (stN (bookOf xs) b k)) ∧ erN (bookOf xs) b k = frE (wordsOf xs) (b.drop (stN (bookOf xs) b k)) ∧
    (frE (wordsOf xs) (b.drop (stN (bookOf xs) b k)) = 0 → ∃ i : Nat, i < (wordsOf xs).length ∧ frV (wordsOf xs) (b.drop (stN (bookOf xs) b k)) = i ∧ stN (bookOf xs) b (k + 1) = stN (bookOf xs) b k + ((wordsOf xs).getD i []).length ∧ ((wordsOf xs).getD i []).length ≤ (b.drop (stN (bookOf xs) b k)).length) := by
  obtain ⟨h1, h2, h3⟩ := next_front (wordsOf xs) (words_pf xs hE) (some_word xs hE) (b.drop (stN (bookOf xs) b k))
  refine ⟨h1, h2, fun h => ?_⟩
  obtain ⟨i, hi, hv, hn, hp⟩ := h3 h
  exact ⟨i, hi, hv, by rw [stN]; exact congrArg _ hn, hp.length_le⟩

set_option maxRecDepth 100000 in
set_option maxHeartbeats 1600000 in
theorem readCode_walk (v : Value) (xs : List Int) (b : List UInt8) (n : Nat) (w : World) (hv : IsInts w v xs) (hE : checkE xs = 0) (h4 : n ≤ 4096) (hb : allB b = true) (hbl : b.length ≤ 140737488355328) :
    Calls Try.prog 41 #[v, .string (str b), .int .i64 n] w fun e w' => ∃ r, e = .returned (.tuple #[r, .string (str (readR xs b n)), .int .i64 (readE xs b n)]) ∧ IsInts w' r (readV xs b n) ∧ Below w.heap.size w w' := by
  have hnil : str [] = ⟨#[]⟩ := rfl
  obtain ⟨hl1, hl2, hok, _, _⟩ := checkE_zero hE
  obtain ⟨i0, hi, hz0, hz1, hz2⟩ := info_parts Try.infoInt
  have HV := hide hv; clear hv
  have hn1 : decide ((n : Int) ≤ 4096) = true := by simp; omega
  have HE := hide hE
  have HOK := hide hok
  have hbm0 : (str b).size ≤ maxLen := by rw [str_size]; unfold maxLen; omega
  have hrow : allB (str b).data.toList = true := hb
  have HB := hide hb; clear hb hok
  go_enter Try.func41, Try.ntmps41
  go_wp2_with (first | (go_at_call 33; refine (checkCode_any _ _ _ HV.out).mono ?_; rintro e wx ⟨rfl, rfl⟩) | (go_at_call 61; refine (within_any _ _ _ _).mono ?_; rintro e wx ⟨rfl, rfl⟩) | (go_at_call 16; refine (isRow_any _ _ hbm0).mono ?_; rintro e wx ⟨rfl, rfl⟩) | (go_at_call 34; refine (wordsOf_any _ _ _ HV.out HE.out).mono ?_; rintro e w1 ⟨r, rfl, hr, hb1⟩))
  have HR := hide hr
  obtain ⟨ro, rc, hrv, hrl0, hrc⟩ := hr
  obtain ⟨rb, rof, hro, hrl, hrcell⟩ : ∃ b off, ro = some ⟨b, off, none⟩ ∧ b < w1.heap.size ∧ ∀ j (h : j < (wordsOf xs).length), w1.cell? ⟨b, off + j, none⟩ = some (.string (str (wordsOf xs)[j])) := by
    rcases hrc with h | h
    · have h2 := wordsOf_length xs; rw [h] at h2; simp at h2; omega
    · exact h
  have HRC := hide hrcell
  clear hrcell hrc hrl0
  rw [hro] at hrv
  rw [hrv] at HR
  rw [hrv]
  clear hro hrv hrow
  go_loopw [1, 11] (fun bs t wr => ∃ k : Nat, k ≤ n ∧ bs = .string (str (b.drop (stN (bookOf xs) b k))) ∧ (∃ ao cap, t = .slice ao k cap) ∧ wr.ownsRow w1.heap.size 3 1 t k (((List.range k).map (vlN (bookOf xs) b)).map (Value.int .i64)) ∧ Hid (∀ j, j < k → erN (bookOf xs) b j = 0) ∧ Below w1.heap.size w1 wr)
    (fun _ t _ => n - lenOf t)
  case atStart => exact ⟨0, Nat.zero_le _, rfl, ⟨_, _, rfl⟩, World.ownsRow_nil _ _ _ _, fun j hj => by omega, Below.refl _ _⟩
  case round =>
    obtain ⟨k, hk, rfl, ⟨ao, cap, rfl⟩, ho, HER, hb⟩ := hrel
    have hsz := hb.size
    by_cases hlt : k < n
    · have HRW := hide (HR.out.below hb (Nat.le_refl _))
      have HSTEP := hide (read_step xs HE.out b k)
      have HVS := hide (show ((List.range (k + 1)).map (vlN (bookOf xs) b)).map (Value.int .i64) = ((List.range k).map (vlN (bookOf xs) b)).map (Value.int .i64) ++ [.int .i64 (vlN (bookOf xs) b k)] by
        rw [List.range_succ]; simp)
      have hrest : (b.drop (stN (bookOf xs) b k)).length ≤ 140737488355328 := by rw [List.length_drop]; omega
      have HDD := hide (fun m => show (b.drop (stN (bookOf xs) b k)).drop m = b.drop (stN (bookOf xs) b k + m) by rw [List.drop_drop])
      have HRDE := hide (show erN (bookOf xs) b k ≠ 0 → readE xs b n = erN (bookOf xs) b k from fun he => by
          rw [readE, if_pos HE.out, if_pos (by omega), if_pos HB.out, Int.toNat_natCast]
          exact rdE_at _ b n k hlt HER.out he)
      generalize hRest : b.drop (stN (bookOf xs) b k) = rest at *
      clear hRest
      go_wp2_with fail
      refine (front_any _ _ rest _ HRW.out (by rw [wordsOf_length]; exact hl1) hrest (words15 xs HOK.out)).mono ?_
      rintro e wx ⟨rfl, rfl⟩
      obtain ⟨hv1, he1, hs1⟩ := HSTEP.out
      by_cases he : frE (wordsOf xs) rest = 0
      · obtain ⟨i, hil, hfv, hst, hle⟩ := hs1 he
        have HER2 : Hid (∀ j, j < k + 1 → erN (bookOf xs) b j = 0) := fun j hj => by
          by_cases e : j = k
          · subst e; rw [he1]; exact he
          · exact HER.out j (by omega)
        have c1 := (hb.cell (p := ⟨rb, rof + i, none⟩) hrl).trans (HRC.out i hil)
        have hg : (wordsOf xs).getD i [] = (wordsOf xs)[i] := by simp [List.getD, hil]
        rw [hg] at hst hle
        have HDR := hide (show b.drop (stN (bookOf xs) b (k + 1)) = rest.drop (wordsOf xs)[i].length by rw [hst, HDD.out])
        have HVI := hide (show vlN (bookOf xs) b k = (i : Int) by rw [hv1, hfv])
        rw [he, hfv]
        clear hv1 he1 hs1 he hfv hst hg HSTEP HDD HRDE
        have hws : (str (wordsOf xs)[i]).size = (wordsOf xs)[i].length := str_size _
        have hrs : (str rest).size = rest.length := str_size _
        have HX2 := hide (fun m => show (str rest).extract m rest.length = str (rest.drop m) by rw [Lib.extract_eq, str_data, List.take_of_length_le (by rw [List.length_drop]; exact Nat.le_refl _)]; rfl)
        generalize (wordsOf xs)[i] = wd at *
        go_wp2_with (at_builtin; refine wpList_append_own _ rfl _ _ 35 rfl w1.heap.size 3 i0 (.int .i64 0) 1 8 Try.underlying35 hi hz0 hz1 hz2 rfl (by decide) _ _ _ rfl (ho.alloc _) ⟨wr.heap.size, 0, none⟩ 1 1 [.int .i64 (i : Int)] rfl rfl ?_ ?_ ?_ ?_ ?_ ?_; (intro j u hj; obtain ⟨rfl, rfl⟩ := one_get hj; simp [Addr.add]); (intro u hu; simp at hu; subst hu; rfl); (unfold maxLen; omega); omega; (simp; omega); intro v' w3 hown' hgrow hnn; clear hnn; have c3 := cell_grown ho hgrow hrl hsz c1)
        have ho4 : w3.ownsRow w1.heap.size 3 1 v' (k + 1) (((List.range (k + 1)).map (vlN (bookOf xs) b)).map (Value.int .i64)) := by
          rw [HVS.out, HVI.out]; exact hown'
        have hb4 : Below w1.heap.size w1 w3 := (hb.alloc hsz _).grown hgrow (by simp; omega) (fun j hj => (ho.lt j hj).1)
        clear hown' hgrow ho
        go_roundw
        case rel => exact ⟨k + 1, by omega, by rw [HDR.out, ← HX2.out wd.length], ownsRow_lenOf ho4, ho4, HER2, hb4⟩
        case measure =>
          obtain ⟨ao', cap', hv'⟩ := ownsRow_lenOf ho4
          rw [hv']
          simp only [lenOf]
          omega
      · have HNE := hide (show readE xs b n = frE (wordsOf xs) rest by rw [HRDE.out (by rw [he1]; exact he), he1])
        have HNR := hide (show readR xs b n = [] by rw [readR, HNE.out, if_neg he])
        have HNV := hide (show readV xs b n = [] by rw [readV, HNE.out, if_neg he])
        have hne : (frE (wordsOf xs) rest != 0) = true := by simpa using he
        clear hv1 he1 hs1 he
        go_wp2
        go_ret3
        rw [HNE.out, HNR.out, HNV.out]
        exact ⟨_, rfl, IsInts.nil _, bel_trans hb1 hb⟩
    · obtain rfl : k = n := by omega
      have HNE := hide (show readE xs b k = 0 by
        rw [readE, if_pos HE.out, if_pos (by omega), if_pos HB.out, Int.toNat_natCast]
        exact rdE_zero _ b k HER.out)
      have HNR := hide (show readR xs b k = b.drop (stN (bookOf xs) b k) by rw [readR, HNE.out, if_pos rfl, Int.toNat_natCast])
      have HNV := hide (show readV xs b k = (List.range k).map (vlN (bookOf xs) b) by rw [readV, HNE.out, if_pos rfl, Int.toNat_natCast])
      have HIN := hide (show IsInts wr (.slice ao k cap) ((List.range k).map (vlN (bookOf xs) b)) from IsInts.own (by simpa using ho) (by simp; omega))
      clear ho
      go_wp2
      go_ret3
      rw [HNE.out, HNR.out, HNV.out]
      exact ⟨_, rfl, HIN.out, bel_trans hb1 hb⟩

set_option maxRecDepth 100000 in
set_option maxHeartbeats 400000 in
theorem readCode_any (v : Value) (xs : List Int) (b : List UInt8) (n : Int) (w : World) (hv : IsInts w v xs) (hbl : b.length ≤ 140737488355328) :
    Calls Try.prog 41 #[v, .string (str b), .int .i64 n] w fun e w' => ∃ r, e = .returned (.tuple #[r, .string (str (readR xs b n)), .int .i64 (readE xs b n)]) ∧ IsInts w' r (readV xs b n) ∧ Below w.heap.size w w' := by
  have hnil : str [] = ⟨#[]⟩ := rfl
  by_cases hE : checkE xs = 0
  · by_cases hn : 0 ≤ n ∧ n ≤ 4096
    · by_cases hb : allB b = true
      · obtain ⟨N, rfl⟩ := Int.eq_ofNat_of_zero_le hn.1
        exact readCode_walk v xs b N w hv hE (by omega) hb hbl
      · have HNE := hide (show readE xs b n = 1 by rw [readE, if_pos hE, if_pos hn, if_neg hb])
        have HNR := hide (show readR xs b n = [] by rw [readR, HNE.out, if_neg (by decide)])
        have HNV := hide (show readV xs b n = [] by rw [readV, HNE.out, if_neg (by decide)])
        have hn1 : decide (0 ≤ n) = true := by simp; omega
        have hn2 : decide (n ≤ 4096) = true := by simp; omega
        have hrow : allB (str b).data.toList = false := by rw [str_data]; simpa using hb
        have hbm0 : (str b).size ≤ maxLen := by rw [str_size]; unfold maxLen; omega
        have HV := hide hv
        clear hv hb
        go_enter Try.func41, Try.ntmps41
        go_wp2_with (first | (go_at_call 33; refine (checkCode_any _ _ _ HV.out).mono ?_; rintro e wx ⟨rfl, rfl⟩) | (go_at_call 61; refine (within_any _ _ _ _).mono ?_; rintro e wx ⟨rfl, rfl⟩) | (go_at_call 16; refine (isRow_any _ _ hbm0).mono ?_; rintro e wx ⟨rfl, rfl⟩))
        go_ret3
        rw [HNE.out, HNR.out, HNV.out]
        exact ⟨_, rfl, IsInts.nil _, Below.refl _ _⟩
    · have HNE := hide (show readE xs b n = 3 by rw [readE, if_pos hE, if_neg hn])
      have HNR := hide (show readR xs b n = [] by rw [readR, HNE.out, if_neg (by decide)])
      have HNV := hide (show readV xs b n = [] by rw [readV, HNE.out, if_neg (by decide)])
      have HV := hide hv
      have hnn : decide (0 ≤ n ∧ n ≤ 4096) = false := by simpa using hn
      clear hv
      by_cases h0 : 0 ≤ n
      · have hn1 : decide (0 ≤ n) = true := by simpa using h0
        have hn2 : decide (n ≤ 4096) = false := by simp; omega
        go_enter Try.func41, Try.ntmps41
        go_wp2_with (first | (go_at_call 33; refine (checkCode_any _ _ _ HV.out).mono ?_; rintro e wx ⟨rfl, rfl⟩) | (go_at_call 61; refine (within_any _ _ _ _).mono ?_; rintro e wx ⟨rfl, rfl⟩))
        go_ret3
        rw [HNE.out, HNR.out, HNV.out]
        exact ⟨_, rfl, IsInts.nil _, Below.refl _ _⟩
      · have hn1 : decide (0 ≤ n) = false := by simpa using h0
        go_enter Try.func41, Try.ntmps41
        go_wp2_with (first | (go_at_call 33; refine (checkCode_any _ _ _ HV.out).mono ?_; rintro e wx ⟨rfl, rfl⟩) | (go_at_call 61; refine (within_any _ _ _ _).mono ?_; rintro e wx ⟨rfl, rfl⟩))
        go_ret3
        rw [HNE.out, HNR.out, HNV.out]
        exact ⟨_, rfl, IsInts.nil _, Below.refl _ _⟩
  · have HNE := hide (show readE xs b n = checkE xs by rw [readE, if_neg hE])
    have HNR := hide (show readR xs b n = [] by rw [readR, HNE.out, if_neg hE])
    have HNV := hide (show readV xs b n = [] by rw [readV, HNE.out, if_neg hE])
    have hne : (checkE xs != 0) = true := by simpa using hE
    have HV := hide hv
    clear hv hE
    go_enter Try.func41, Try.ntmps41
    go_wp2_with (go_at_call 33; refine (checkCode_any _ _ _ HV.out).mono ?_; rintro e wx ⟨rfl, rfl⟩)
    go_ret3
    rw [HNE.out, HNR.out, HNV.out]
    exact ⟨_, rfl, IsInts.nil _, Below.refl _ _⟩

end Go.Proofs.Ytolcndchfnifhaa
