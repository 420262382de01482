/- code.Read. -/
import Derived.Test.YtolcndchfnifhaaCodeWrite
namespace Go.Proofs.Ytolcndchfnifhaa
open Go.RowKit

/-- how many bits are taken by the first k numbers; the k-th; its error. -/
def stN (f : List UInt8 → Option (Int × Bool)) (bits : List UInt8) : Nat → Nat
  | 0 => 0
  | k + 1 => stN f bits k + (nextF f [] (bits.drop (stN f bits k))).2.2
def vlN (f : List UInt8 → Option (Int × Bool)) (bits : List UInt8) (k : Nat) : Int := (nextF f [] (bits.drop (stN f bits k))).1
def erN (f : List UInt8 → Option (Int × Bool)) (bits : List UInt8) (k : Nat) : Int := (nextF f [] (bits.drop (stN f bits k))).2.1
theorem stN_le (f : List UInt8 → Option (Int × Bool)) (bits : List UInt8) (k : Nat) : stN f bits k ≤ bits.length := by
  induction k with
  | zero => simp [stN]
  | succ k ih => have := nextF_le f [] (bits.drop (stN f bits k)); rw [List.length_drop] at this; rw [stN]; omega
/-- the first error among the first n. -/
def rdE (f : List UInt8 → Option (Int × Bool)) (bits : List UInt8) : Nat → Int
  | 0 => 0
  | n + 1 => if rdE f bits n = 0 then erN f bits n else rdE f bits n
theorem rdE_zero (f : List UInt8 → Option (Int × Bool)) (bits : List UInt8) (n : Nat) (h : ∀ i, i < n → erN f bits i = 0) : rdE f bits n = 0 := by
  induction n with
  | zero => rfl
  | succ n ih => rw [rdE, ih (fun i hi => h i (by omega)), if_pos rfl, h n (by omega)]
theorem rdE_at (f : List UInt8 → Option (Int × Bool)) (bits : List UInt8) (n k : Nat) (hk : k < n) (h : ∀ i, i < k → erN f bits i = 0) (he : erN f bits k ≠ 0) : rdE f bits n = erN f bits k := by
  induction n with
  | zero => omega
  | succ n ih =>
    by_cases e : k = n
    · subst e; rw [rdE, rdE_zero f bits k h, if_pos rfl]
    · rw [rdE, ih (by omega), if_neg he]
def rdRow (f : List UInt8 → Option (Int × Bool)) (bits : List UInt8) (n k : Nat) : List Value := ((List.range k).map (vlN f bits)).map (Value.int .i64) ++ List.replicate (n - k) (.int .i64 0)
theorem rdRow_start (f : List UInt8 → Option (Int × Bool)) (bits : List UInt8) (n : Nat) : rdRow f bits n 0 = (madeCells (Value.int .i64 0).cells (n * 1)).toList := by
  rw [show (Value.int .i64 0).cells = #[Value.int .i64 0] from rfl, toList_madeCells_one]; simp [rdRow]
theorem rdRow_get (f : List UInt8 → Option (Int × Bool)) (bits : List UInt8) (n k : Nat) (h : k < n) : (rdRow f bits n k)[k]? = some (.int .i64 0) := by
  rw [rdRow, List.getElem?_append_right (by simp), List.length_map, List.length_map, List.length_range, Nat.sub_self, List.getElem?_replicate, if_pos (by omega)]
theorem rdRow_set (f : List UInt8 → Option (Int × Bool)) (bits : List UInt8) (n k : Nat) (h : k < n) : (rdRow f bits n k).set k (.int .i64 (vlN f bits k)) = rdRow f bits n (k + 1) := by
  rw [rdRow, rdRow, List.set_append_right _ _ (by simp), List.length_map, List.length_map, List.length_range, Nat.sub_self, show n - k = (n - (k + 1)) + 1 by omega, List.replicate_succ, List.set_cons_zero, List.range_succ]
  simp
theorem rdRow_end (f : List UInt8 → Option (Int × Bool)) (bits : List UInt8) (n : Nat) : rdRow f bits n n = ((List.range n).map (vlN f bits)).map (Value.int .i64) := by simp [rdRow]

def bookOf (xs : List Int) : List UInt8 → Option (Int × Bool) := bookF (wordsOf xs) (wordsOf xs).length
/-- what Read answers. -/
def readE (xs : List Int) (b : List UInt8) (n : Int) : Int :=
  if checkE xs = 0 then (if 0 ≤ n ∧ n ≤ 4096 then (if allB b = true then rdE (bookOf xs) b n.toNat else 1) else 3) else checkE xs
def readV (xs : List Int) (b : List UInt8) (n : Int) : List Int := if readE xs b n = 0 then (List.range n.toNat).map (vlN (bookOf xs) b) else []
def readR (xs : List Int) (b : List UInt8) (n : Int) : List UInt8 := if readE xs b n = 0 then b.drop (stN (bookOf xs) b n.toNat) else []

theorem bookOf_short (xs : List Int) (hok : lensOk xs = true) : ∀ key, bookOf xs key ≠ none → key.length ≤ 100 := by
  intro key h
  refine Decidable.byContradiction fun hl => h ?_
  refine book_none _ _ _ fun i hi hp => hl ?_
  have h1 := words15 xs hok i hi
  have h2 := hp.length_le
  rw [show (wordsOf xs).getD i [] = (wordsOf xs)[i] by simp [List.getD, hi]] at h2
  omega

theorem strClone_any (s : ByteArray) (w : World) (hlim : s.size ≤ 281474976710656) :
    Calls Try.prog 75 #[.string s] w fun e w' => e = .returned (.string s) ∧ Below w.heap.size w w' := by
  go_enter Try.func75, Try.ntmps75
  go_wp2_with (go_at_call 115; refine (Try.stringslite_Clone s _ (by omega)).mono ?_; rintro e w1 ⟨rfl, hb1⟩)
  go_ret
  exact ⟨rfl, hb1⟩

set_option maxRecDepth 100000 in
set_option maxHeartbeats 1600000 in
theorem read_walk (v : Value) (xs : List Int) (b : List UInt8) (n : Nat) (w : World) (hv : IsInts w v xs) (hE : checkE xs = 0) (h4 : n ≤ 4096) (hb : allB b = true) (hbl : b.length ≤ 281474976710656) :
    Calls Try.prog 40 #[v, .string (str b), .int .i64 n] w fun e w' => ∃ r, e = .returned (.tuple #[r, .string (str (readR xs b n)), .int .i64 (readE xs b n)]) ∧ IsInts w' r (readV xs b n) ∧ Below w.heap.size w w' := by
  obtain ⟨hl1, hl2, hok, _, _⟩ := checkE_zero hE
  obtain ⟨i0, hi, hz0, hz1, hz2⟩ := info_parts Try.infoInt
  have HV := hide hv; clear hv
  have hn1 : decide ((n : Int) < 0) = false := by simp
  have hn2 : decide (4096 < (n : Int)) = false := by simp; omega
  have HE := hide hE
  have HOK := hide hok
  have hbm0 : (str b).size ≤ maxLen := by rw [str_size]; unfold maxLen; omega
  have hvE : (valueE (str b) == 1) = false := by
    rw [valueE, str_data, if_pos hb]; split <;> rfl
  have HB := hide hb; clear hb hok
  go_enter Try.func40, Try.ntmps40
  go_wp2_with fail
  refine (words_walk _ _ _ HV.out HE.out).mono ?_
  rintro e w1 ⟨r, rfl, hr, hb1⟩
  have HR := hide hr; clear hr
  go_wp2_with (go_at_call 19; refine (value_any _ _ hbm0).mono ?_; rintro e wx ⟨rfl, rfl⟩)
  refine (new_any _ _ _ HR.out (by rw [wordsOf_length]; exact hl1) (by rw [wordsOf_length]; exact hl2) (words15 xs HOK.out)).mono ?_
  rintro e w2 ⟨cv, bm, nn, rfl, hcv, hbm, hb2⟩
  have HBM := hide hbm
  obtain ⟨co, cc, rfl, hx1, hx2⟩ := hcv
  clear hbm hx1 hx2
  go_wp2_with fail
  obtain ⟨W, hW⟩ : ∃ W, W = w2.alloc (.cells #[.slice co (wordsOf xs).length cc, .map (some bm)] 98) := ⟨_, rfl⟩
  have hlt2 : w2.heap.size < W.heap.size := by rw [hW]; simp
  have hWk : W.heap[w2.heap.size]? = some (.cells #[.slice co (wordsOf xs).length cc, .map (some bm)] 98 (0, 0)) := by rw [hW]; exact heap_alloc_new w2 _
  have hWb : Below w2.heap.size w2 W := by rw [hW]; exact bel_alloc _ _
  have HWB := hide (bel_trans (bel_trans hb1 hb2) hWb)
  have HWM := hide (HBM.out.below hWb (Nat.le_refl _))
  have HW0 := hide (show W.cell? ⟨w2.heap.size, 0, none⟩ = some (.slice co (wordsOf xs).length cc) by rw [Lib.cell_of_heap hWk]; rfl)
  have HW1 := hide (show W.cell? ⟨w2.heap.size, 1, none⟩ = some (.map (some bm)) by rw [Lib.cell_of_heap hWk]; rfl)
  rw [← hW]
  clear hW hWk hWb
  refine (taker_any b hbl W).mono ?_
  rintro e w3 ⟨ba, bb, rfl, ht3, hwa, hwb, hb3⟩
  have HT3 := hide ht3; clear ht3
  have hla := HT3.out.lt
  have HBOOK : Hid (BookMap W bm nn (bookOf xs)) := HWM.out
  have HFL := hide (bookOf_short xs HOK.out)
  clear HWM HBM
  generalize hbf : bookOf xs = f at *
  have HBF := hide hbf; clear hbf
  go_wp2_with (at_make; refine wpList_make_full _ rfl _ _ 35 rfl w3.heap.size 3 i0 (.int .i64 0) 1 Try.underlying35 hi hz0 hz1 .i64 .i64 _ _ n rfl rfl rfl rfl (by rw [hz2]; omega) (by unfold maxLen; omega) (Nat.le_refl _) ?_; intro w4 hown hgr)
  have HI4 := hide (show TakerAt w4 ba bb b 0 ∧ Below W.heap.size W w4 from ⟨⟨by rw [hgr.block ba hla.1 (by simp)]; exact HT3.out.1, by rw [hgr.block bb hla.2 (by simp)]; exact HT3.out.2.1, HT3.out.2.2⟩, hb3.grown hgr hb3.size (by simp)⟩)
  clear hgr
  go_loopw [51] (fun i wr => ∃ k : Nat, k ≤ n ∧ i = .int .i64 k ∧ Hid (∀ j, j < k → erN f b j = 0) ∧ Hid (TakerAt wr ba bb b (stN f b k)) ∧ wr.ownsRow w3.heap.size 3 1 (.slice (some ⟨w3.heap.size, 0, none⟩) n n) n (rdRow f b n k) ∧ Hid (Below W.heap.size W wr))
    (fun i _ => n - (intOf i).toNat)
  case atStart => exact ⟨0, Nat.zero_le _, rfl, fun j hj => by omega, HI4.out.1, by rw [rdRow_start]; exact hown, HI4.out.2⟩
  case round =>
    obtain ⟨k, hk, rfl, HER, HTK, ho, HBL⟩ := hrel
    clear hown HI4
    have hsz := HBL.out.size
    by_cases hlt : k < n
    · have c2 := (HBL.out.cell (p := ⟨w2.heap.size, 0, none⟩) hlt2).trans HW0.out
      have c3 := (HBL.out.cell (p := ⟨w2.heap.size, 1, none⟩) hlt2).trans HW1.out
      have HBK := hide (HBOOK.out.below HBL.out (Nat.le_refl _))
      have hd : decide ((k : Int) < (n : Int)) = true := by simp; omega
      go_wp2_with fail
      refine (next_any _ co _ cc rfl bm nn f ba bb b (stN f b k) _ HBK.out HFL.out HTK.out).mono ?_
      rintro e w5 ⟨rfl, ht5, hg5⟩
      rw [show (nextF f [] (List.drop (stN f b k) b)).1 = vlN f b k from rfl, show (nextF f [] (List.drop (stN f b k) b)).2.1 = erN f b k from rfl]
      have HT5 : Hid (TakerAt w5 ba bb b (stN f b (k + 1))) := ht5
      have ho5 : w5.ownsRow w3.heap.size 3 1 (.slice (some ⟨w3.heap.size, 0, none⟩) n n) n (rdRow f b n k) := ho.kept hg5 (.inr (by simp only [Value.ownBlock]; intro h; simp only [Option.some.injEq] at h; omega))
      have HB5 := hide (HBL.out.grown hg5 hsz (fun j hj => by cases hj; exact hwa))
      have c5 := ho5.cellAt k (by omega)
      rw [rdRow_get f b n k hlt] at c5
      have f5 := ho5.frozenAt k
      have HS := hide (rdRow_set f b n k hlt)
      clear ht5 hg5 c2 c3
      by_cases he : erN f b k = 0
      · rw [he]
        have HER2 : Hid (∀ j, j < k + 1 → erN f b j = 0) := fun j hj => by
          by_cases e : j = k
          · subst e; exact he
          · exact HER.out j (by omega)
        clear he
        generalize vlN f b k = V at *
        go_wp2
        have ho6 := (ho5.stored k (.int .i64 V)).1
        rw [HS.out] at ho6
        go_roundw
        case rel => exact ⟨k + 1, by omega, by go_num, HER2, ⟨by rw [Below.heap_setCell _ _ _ _ (by show ba ≠ w3.heap.size; omega)]; exact HT5.out.1, by rw [Below.heap_setCell _ _ _ _ (by show bb ≠ w3.heap.size; omega)]; exact HT5.out.2.1, HT5.out.2.2⟩, ho6, HB5.out.setCell (p := ⟨w3.heap.size, k, none⟩) (by show W.heap.size ≤ w3.heap.size; exact hb3.size) _⟩
        case measure => simp [intOf]; omega
      · have HNE := hide (show readE xs b n = erN f b k by
          rw [readE, if_pos HE.out, if_pos (by omega), if_pos HB.out, HBF.out, Int.toNat_natCast]
          exact rdE_at f b n k hlt HER.out he)
        have HNR := hide (show readR xs b n = [] by rw [readR, HNE.out, if_neg he])
        have HNV := hide (show readV xs b n = [] by rw [readV, HNE.out, if_neg he])
        have hne : (erN f b k != 0) = true := by simpa using he
        clear he
        generalize vlN f b k = V at *
        go_wp2
        go_ret3
        rw [HNE.out, HNR.out, HNV.out]
        exact ⟨_, rfl, IsInts.nil _, HWB.out.trans ((HB5.out.setCell (p := ⟨w3.heap.size, k, none⟩) (by show W.heap.size ≤ w3.heap.size; exact hb3.size) _).mono HWB.out.size)⟩
    · obtain rfl : k = n := by omega
      have HNE := hide (show readE xs b k = 0 by
        rw [readE, if_pos HE.out, if_pos (by omega), if_pos HB.out, HBF.out, Int.toNat_natCast]
        exact rdE_zero f b k HER.out)
      have HNR := hide (show readR xs b k = b.drop (stN f b k) by rw [readR, HNE.out, if_pos rfl, HBF.out, Int.toNat_natCast])
      have HNV := hide (show readV xs b k = (List.range k).map (vlN f b) by rw [readV, HNE.out, if_pos rfl, HBF.out, Int.toNat_natCast])
      rw [rdRow_end] at ho
      have HIN := hide (show IsInts wr (.slice (some ⟨w3.heap.size, 0, none⟩) k k) ((List.range k).map (vlN f b)) from IsInts.own (by simpa using ho) (by simp; omega))
      clear ho
      go_wp2_with (first | (go_at_call 114; refine (left_any ba bb b _ _ HTK.out).mono ?_; rintro e w5 ⟨rfl, rfl⟩) | (go_at_call 75; refine (strClone_any _ _ (by rw [str_size, List.length_drop]; omega)).mono ?_; rintro e w6 ⟨rfl, hb6⟩))
      go_ret3
      rw [HNE.out, HNR.out, HNV.out]
      exact ⟨_, rfl, HIN.out.below hb6 (Nat.le_refl _), bel_trans (HWB.out.trans (HBL.out.mono HWB.out.size)) hb6⟩

set_option maxRecDepth 100000 in
set_option maxHeartbeats 400000 in
theorem read_any (v : Value) (xs : List Int) (b : List UInt8) (n : Int) (w : World) (hv : IsInts w v xs) (hbl : b.length ≤ 281474976710656) :
    Calls Try.prog 40 #[v, .string (str b), .int .i64 n] w fun e w' => ∃ r, e = .returned (.tuple #[r, .string (str (readR xs b n)), .int .i64 (readE xs b n)]) ∧ IsInts w' r (readV xs b n) ∧ Below w.heap.size w w' := by
  have hnil : str [] = ⟨#[]⟩ := rfl
  by_cases hE : checkE xs = 0
  · by_cases hn : 0 ≤ n ∧ n ≤ 4096
    · by_cases hb : allB b = true
      · obtain ⟨N, rfl⟩ := Int.eq_ofNat_of_zero_le hn.1
        exact read_walk v xs b N w hv hE (by omega) hb hbl
      · have HNE := hide (show readE xs b n = 1 by rw [readE, if_pos hE, if_pos hn, if_neg hb])
        have HNR := hide (show readR xs b n = [] by rw [readR, HNE.out, if_neg (by decide)])
        have HNV := hide (show readV xs b n = [] by rw [readV, HNE.out, if_neg (by decide)])
        have hn1 : decide (n < 0) = false := by simp; omega
        have hn2 : decide (4096 < n) = false := by simp; omega
        have hvE : valueE (str b) = 1 := by rw [valueE, str_data, if_neg hb]
        have hbm0 : (str b).size ≤ maxLen := by rw [str_size]; unfold maxLen; omega
        have HV := hide hv
        have HE := hide hE
        clear hv hE hb
        go_enter Try.func40, Try.ntmps40
        go_wp2_with fail
        refine (words_walk _ _ _ HV.out HE.out).mono ?_
        rintro e w1 ⟨r, rfl, hr, hb1⟩
        clear hr
        go_wp2_with (go_at_call 19; refine (value_any _ _ hbm0).mono ?_; rintro e wx ⟨rfl, rfl⟩)
        go_ret3
        rw [HNE.out, HNR.out, HNV.out]
        exact ⟨_, rfl, IsInts.nil _, hb1⟩
    · have HNE := hide (show readE xs b n = 3 by rw [readE, if_pos hE, if_neg hn])
      have HNR := hide (show readR xs b n = [] by rw [readR, HNE.out, if_neg (by decide)])
      have HNV := hide (show readV xs b n = [] by rw [readV, HNE.out, if_neg (by decide)])
      have HV := hide hv
      have HE := hide hE
      clear hv hE
      by_cases h0 : n < 0
      · have hn1 : decide (n < 0) = true := by simpa using h0
        go_enter Try.func40, Try.ntmps40
        go_wp2_with fail
        refine (words_walk _ _ _ HV.out HE.out).mono ?_
        rintro e w1 ⟨r, rfl, hr, hb1⟩
        clear hr
        go_wp2
        go_ret3
        rw [HNE.out, HNR.out, HNV.out]
        exact ⟨_, rfl, IsInts.nil _, hb1⟩
      · have hn1 : decide (n < 0) = false := by simpa using h0
        have hn2 : decide (4096 < n) = true := by simp; omega
        go_enter Try.func40, Try.ntmps40
        go_wp2_with fail
        refine (words_walk _ _ _ HV.out HE.out).mono ?_
        rintro e w1 ⟨r, rfl, hr, hb1⟩
        clear hr
        go_wp2
        go_ret3
        rw [HNE.out, HNR.out, HNV.out]
        exact ⟨_, rfl, IsInts.nil _, hb1⟩
  · have HNE := hide (show readE xs b n = checkE xs by rw [readE, if_neg hE])
    have HNR := hide (show readR xs b n = [] by rw [readR, HNE.out, if_neg hE])
    have HNV := hide (show readV xs b n = [] by rw [readV, HNE.out, if_neg hE])
    have hne : (checkE xs != 0) = true := by simpa using hE
    have HV := hide hv
    clear hv hE
    go_enter Try.func40, Try.ntmps40
    go_wp2_with fail
    refine (words_any _ _ _ HV.out).mono ?_
    rintro e w1 ⟨r, rfl, hr, hb1⟩
    clear hr
    go_wp2
    go_ret3
    rw [HNE.out, HNR.out, HNV.out]
    exact ⟨_, rfl, IsInts.nil _, hb1⟩

end Go.Proofs.Ytolcndchfnifhaa
