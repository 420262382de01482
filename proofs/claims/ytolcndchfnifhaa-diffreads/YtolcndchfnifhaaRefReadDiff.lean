/- The reference's ReadDiff. -/
import Derived.Test.YtolcndchfnifhaaDiffRead
import Derived.Test.YtolcndchfnifhaaRefWrite
namespace Go.Proofs.Ytolcndchfnifhaa
open Go.RowKit

/-- one step of the reader, as the reference goes. -/
theorem nxD_front (xs : List Int) (hE : checkE xs = 0) (b : List UInt8) :
    (frE (wordsOf xs) b ≠ 0 → nxD (bookOf xs) b = none) ∧
    (frE (wordsOf xs) b = 0 → ∃ i : Nat, i ≤ 16 ∧ ∃ hi : i < (wordsOf xs).length, frV (wordsOf xs) b = i ∧ (wordsOf xs)[i].length ≤ b.length ∧
      (i = 16 → nxD (bookOf xs) b = some (32768, (wordsOf xs)[i].length)) ∧
      (i ≤ 15 → b.length < (wordsOf xs)[i].length + i → nxD (bookOf xs) b = none) ∧
      (i ≤ 15 → (wordsOf xs)[i].length + i ≤ b.length → nxD (bookOf xs) b = some (tailV i (valOf ((b.drop (wordsOf xs)[i].length).take i)), (wordsOf xs)[i].length + i))) := by
  obtain ⟨h1, h2, h3⟩ := next_front (wordsOf xs) (words_pf xs hE) (some_word xs hE) b
  have h1' : (nextF (bookOf xs) [] b).1 = frV (wordsOf xs) b := h1
  have h2' : (nextF (bookOf xs) [] b).2.1 = frE (wordsOf xs) b := h2
  refine ⟨fun h => nxD_err (by rw [h2']; exact h), fun h => ?_⟩
  obtain ⟨i, hi, hv, hn, hp⟩ := h3 h
  have hg : (wordsOf xs).getD i [] = (wordsOf xs)[i] := by simp [List.getD, hi]
  have hn' : (nextF (bookOf xs) [] b).2.2 = (wordsOf xs)[i].length := by rw [← hg]; exact hn
  have h0 : (nextF (bookOf xs) [] b).2.1 = 0 := by rw [h2']; exact h
  have hv' : (nextF (bookOf xs) [] b).1 = i := by rw [h1']; exact hv
  have hl := (checkE_zero hE).2.1
  rw [hg] at hp
  have hle := hp.length_le
  rw [← wordsOf_length xs] at hl
  refine ⟨i, by omega, hi, hv, hle, fun h16 => ?_, fun h15 hs => ?_, fun h15 hs => ?_⟩
  · rw [nxD_top h0 (by rw [hv', h16]; rfl), hn']
  · exact nxD_short h0 i hv' h15 (by rw [hn']; exact hs)
  · have := nxD_ok h0 i hv' h15 (by rw [hn']; exact hs)
    rw [hn'] at this; exact this

theorem below_drew' {B : Nat} {a w : World} (h : Below B a w) : Below B a w.drew := h.drew

/-- what the last step of the reference's Read asks. -/
theorem read_last {sb : List UInt8} {W H N pos : Nat} {kind : Int} {xs zs : List Int} (hN : W * H = N) (hW : sideOk W = true) (hH : sideOk H = true) (hk : kindOk kind = true) (hE : checkE xs = 0) (h : rdD (bookOf xs) (rowOf sb) W kind N = some (pos, zs)) :
    planeOk W H zs = true ∧ writeDE W H zs kind xs = 0 ∧ (writeDS W H zs kind xs = sb → readD sb W H kind xs = some zs) ∧ (writeDS W H zs kind xs ≠ sb → readD sb W H kind xs = none) := by
  have b1 : 1 ≤ (W : Int) ∧ (W : Int) ≤ 64 := by simpa [sideOk] using hW
  obtain ⟨hl, hs⟩ := rdD_len h
  have hts : (wordsOf xs).length ≤ 17 := by rw [wordsOf_length]; exact (checkE_zero hE).2.1
  obtain ⟨e1, e2, e3⟩ := rdD_back (wordsOf xs) hts (rowOf sb) (rowOf_allB sb) W (by omega) kind (nx_front xs hE) _ _ _ h
  have hp : planeOk W H zs = true := by
    rw [planeOk, hW, hH, hs]
    simp only [Bool.true_and, Bool.and_true, decide_eq_true_eq]
    rw [hl, ← hN, Int.natCast_mul]
  have hd : writeDE W H zs kind xs = 0 := by rw [writeDE, if_pos hp, if_pos hk, if_pos hE, hl, Int.toNat_natCast, if_pos e3]
  have hS : writeDS W H zs kind xs = bytesOf ((rowOf sb).take pos) := by rw [writeDS, if_pos hd, hl, Int.toNat_natCast, e2]
  rw [rowOf_length] at e1
  have hfi := fill_iff sb pos e1
  rw [← hS] at hfi
  refine ⟨hp, hd, fun hh => ?_, fun hh => ?_⟩
  · have hlen : sb.length ≤ (N * 30 + 7) / 8 := by
      rw [← hh, hS, bytesOf_length, e2]
      have := dBits_length xs (checkE_zero hE).2.2.1 zs W kind N
      omega
    rw [readD_rs hN hlen h, if_pos (hfi.1 hh)]
  · by_cases hlen : sb.length ≤ (N * 30 + 7) / 8
    · rw [readD_rs hN hlen h, if_neg (fun hf => hh (hfi.2 hf))]
    · rw [readD, Int.toNat_natCast, Int.toNat_natCast, hN]; exact if_neg hlen

set_option maxRecDepth 100000 in
set_option maxHeartbeats 1600000 in
theorem readDiff_walk (sb : List UInt8) (W H : Nat) (kind : Int) (v : Value) (xs : List Int) (w : World) (hv : IsInts w v xs) (hW : sideOk W = true) (hH : sideOk H = true) (hk : kindOk kind = true) (hE : checkE xs = 0) (hlen : sb.length ≤ 32768) :
    Calls Try.prog 50 #[.string (str sb), .int .i64 W, .int .i64 H, .int .i64 kind, v] w fun e w' => ∃ r, e = .returned (.tuple #[.agg #[.int .i64 (readDW sb W H kind xs), .int .i64 (readDH sb W H kind xs), r], .int .i64 (readDE sb W H kind xs)]) ∧ IsInts w' r (readDZ sb W H kind xs) ∧ Below w.heap.size w w' := by
  obtain ⟨hl1, hl2, hok, _, _⟩ := checkE_zero hE
  obtain ⟨i0, hi, hz0, hz1, hz2⟩ := info_parts Try.infoInt
  have b1 : 1 ≤ (W : Int) ∧ (W : Int) ≤ 64 := by simpa [sideOk] using hW
  have b2 : 1 ≤ (H : Int) ∧ (H : Int) ≤ 64 := by simpa [sideOk] using hH
  have b3 := side_mul b1 b2
  obtain ⟨b1, b1'⟩ := b1
  obtain ⟨b2, b2'⟩ := b2
  obtain ⟨N, hN⟩ : ∃ N, W * H = N := ⟨_, rfl⟩
  have hNi : (W : Int) * (H : Int) = (N : Int) := by rw [← hN]; simp
  rw [hNi] at b3
  have HRN := hide (readD_rn (s := sb) (kind := kind) (xs := xs) hN)
  have HLA := hide (fun pos zs => read_last (sb := sb) (zs := zs) (pos := pos) hN hW hH hk hE)
  have HRE := hide (show readDE sb W H kind xs = if (readD sb W H kind xs).isSome = true then 0 else 1 by rw [readDE, if_pos ⟨hW, hH⟩, if_pos hk, if_pos hE])
  clear hN
  have hws : (str sb).size = sb.length := str_size sb
  have HV := hide hv; clear hv
  have HE := hide hE
  have HOK := hide hok
  have hsW : decide (1 ≤ (W : Int) ∧ (W : Int) ≤ 64) = true := hW
  have hsH : decide (1 ≤ (H : Int) ∧ (H : Int) ≤ 64) = true := hH
  have hsK : decide (1 ≤ kind ∧ kind ≤ 7) = true := hk
  have hl32 : decide (32768 < (sb.length : Int)) = false := by simp; omega
  clear hok hW hH hk
  go_enter Try.func50, Try.ntmps50
  go_wp2_with fail
  have R0 := heap_alloc_new w (Obj.cells #[.int .i64 0, .int .i64 0, .slice none 0 0] 57)
  have HB0 := hide (bel_alloc w (Obj.cells #[.int .i64 0, .int .i64 0, .slice none 0 0] 57))
  have hlt0 : w.heap.size < (w.alloc (Obj.cells #[.int .i64 0, .int .i64 0, .slice none 0 0] 57)).heap.size := by simp
  generalize w.alloc (Obj.cells #[.int .i64 0, .int .i64 0, .slice none 0 0] 57) = w0 at *
  refine (within_any _ _ _ _).mono ?_
  rintro e wx ⟨rfl, rfl⟩
  rw [hsW]
  go_wp2_with fail
  refine (within_any _ _ _ _).mono ?_
  rintro e wx ⟨rfl, rfl⟩
  rw [hsH]
  go_wp2_with fail
  refine (within_any _ _ _ _).mono ?_
  rintro e wx ⟨rfl, rfl⟩
  rw [hsK]
  have HV0 := hide (HV.out.below HB0.out (Nat.le_refl _))
  go_wp2_with fail
  refine (checkCode_any _ _ _ HV0.out).mono ?_
  rintro e wx ⟨rfl, rfl⟩
  rw [HE.out]
  go_wp2_with fail
  refine (wordsOf_any _ _ _ HV0.out HE.out).mono ?_
  rintro e w4 ⟨r, rfl, hr, hb4⟩
  have HRT := hide hr
  obtain ⟨ro, rc, rfl, hrl0, hrc⟩ := hr
  obtain ⟨rb, rof, hro, hrl, hrcell⟩ : ∃ b off, ro = some ⟨b, off, none⟩ ∧ b < w4.heap.size ∧ ∀ j (h : j < (wordsOf xs).length), w4.cell? ⟨b, off + j, none⟩ = some (.string (str (wordsOf xs)[j])) := by
    rcases hrc with h | h
    · have h2 := wordsOf_length xs; rw [h] at h2; simp at h2; omega
    · exact h
  subst hro
  have HRC := hide hrcell
  clear hrcell hrc hrl0
  go_wp2_with fail
  refine (row_any (str sb) (by omega) _).mono ?_
  rintro e w5 ⟨rfl, hb5⟩
  rw [str_data]
  have hbl : (rowOf sb).length ≤ 262144 := by rw [rowOf_length]; omega
  have hbm : allB (rowOf sb) = true := rowOf_allB _
  have h05 : w.heap.size < w5.heap.size := by have := hb4.size; have := hb5.size; omega
  have HB5 := hide (bel_trans hb4 hb5)
  have HR5 := hide (show w5.heap[w.heap.size]? = some (.cells #[.int .i64 0, .int .i64 0, .slice none 0 0] 57 (0, 0)) by rw [HB5.out.block _ hlt0]; exact R0)
  have HT5 := hide (HRT.out.below hb5 (Nat.le_refl _))
  have HRC5 := hide (show ∀ j (h : j < (wordsOf xs).length), w5.cell? ⟨rb, rof + j, none⟩ = some (.string (str (wordsOf xs)[j])) from fun j h => (hb5.cell (p := ⟨rb, rof + j, none⟩) hrl).trans (HRC.out j h))
  have hrl5 : rb < w5.heap.size := Nat.lt_of_lt_of_le hrl hb5.size
  have HVC5 := hide (HV0.out.below HB5.out (Nat.le_refl _))
  have HF := hide (nxD_front xs HE.out)
  have HDR := hide (show ∀ p d n, nxD (bookOf xs) ((rowOf sb).drop p) = some (d, n) → -32768 < d ∧ d ≤ 32768 from fun p d n h => by
    have := nxD_some (wordsOf xs) (by rw [wordsOf_length]; exact hl2) _ (allB_drop (rowOf_allB sb) p) (nx_front xs HE.out _) d n h
    exact ⟨this.2.2.1, this.2.2.2.1⟩)
  have HWL := hide (wordsOf_length xs)
  have H15 := hide (words15 xs HOK.out)
  clear hb4 hb5 R0 HRT HRC hrl HV0 HV
  generalize hbf : bookOf xs = f at *
  have HBF := hide hbf; clear hbf
  generalize hbb : rowOf sb = b at *
  have HBB := hide hbb; clear hbb
  generalize hts : wordsOf xs = ts at *
  have HTS := hide hts; clear hts
  obtain ⟨w6, hw6⟩ : ∃ w6, w6 = w5 := ⟨_, rfl⟩
  have h56 : w5.heap.size ≤ w6.heap.size := by rw [hw6]; exact Nat.le_refl _
  have hb6 : Below w5.heap.size w5 w6 := by rw [hw6]; exact Below.refl _ _
  go_wp2_with (at_make; refine wpList_make_full _ rfl _ _ 35 rfl w5.heap.size 3 i0 (.int .i64 0) 1 Try.underlying35 hi hz0 hz1 .i64 .i64 _ _ N rfl rfl rfl rfl (by rw [hz2]; omega) (by unfold maxLen; omega) (Nat.le_refl _) ?_; intro w7 hown hgr)
  rw [← hw6] at hown hgr ⊢
  have h67 : w6.heap.size < w7.heap.size := (hown.lt w6.heap.size rfl).2
  have HI := hide (show Below w5.heap.size w5 (w7.alloc (Obj.cells #[.int .i64 W, .int .i64 H, .slice (some ⟨w6.heap.size, 0, none⟩) N N] 57)) from (hb6.grown hgr hb6.size (by simp)).alloc (by omega) _)
  have HP0 := hide (heap_alloc_new w7 (Obj.cells #[.int .i64 W, .int .i64 H, .slice (some ⟨w6.heap.size, 0, none⟩) N N] 57))
  have hown2 := hown.alloc (Obj.cells #[.int .i64 W, .int .i64 H, .slice (some ⟨w6.heap.size, 0, none⟩) N N] 57)
  rw [← zRow_start] at hown2
  have hPs : w7.heap.size < (w7.alloc (Obj.cells #[.int .i64 W, .int .i64 H, .slice (some ⟨w6.heap.size, 0, none⟩) N N] 57)).heap.size := by simp
  generalize w7.alloc (Obj.cells #[.int .i64 W, .int .i64 H, .slice (some ⟨w6.heap.size, 0, none⟩) N N] 57) = W8 at *
  clear hown hgr hw6
  generalize w7.heap.size = PB at *
  go_loopw [14, 16] (fun bs i wr => ∃ (k pos : Nat) (zs : List Int), k ≤ N ∧ i = .int .i64 k ∧ zs.length = k ∧ bs = .string (str (b.drop pos)) ∧ Hid (rdD f b W kind k = some (pos, zs)) ∧ wr.ownsRow w6.heap.size 3 1 (.slice (some ⟨w6.heap.size, 0, none⟩) N N) N (zRow zs N) ∧ Hid (wr.heap[PB]? = some (.cells #[.int .i64 W, .int .i64 H, .slice (some ⟨w6.heap.size, 0, none⟩) N N] 57 (0, 0))) ∧ Hid (Below w5.heap.size w5 wr) ∧ PB < wr.heap.size)
    (fun _ i _ => N - (intOf i).toNat)
  case atStart => exact ⟨0, 0, [], Nat.zero_le _, rfl, rfl, rfl, rfl, hown2, HP0, HI, hPs⟩
  case round =>
    obtain ⟨k, pos, zs, hk, rfl, hzl, rfl, HRK, ho, HPB, HBL, hPl⟩ := hrel
    clear hown2 HI HP0 hPs
    have hsz := HBL.out.size
    have HWR := hide (HB0.out.trans ((HB5.out.trans (HBL.out.mono HB5.out.size)).mono HB0.out.size))
    have hRr : wr.heap[w.heap.size]? = some (.cells #[.int .i64 0, .int .i64 0, .slice none 0 0] 57 (0, 0)) := by rw [HBL.out.block _ h05]; exact HR5.out
    have q0 : wr.cell? ⟨w.heap.size, 0, none⟩ = some (.int .i64 0) := by rw [Lib.cell_of_heap hRr]; rfl
    have q1 : wr.cell? ⟨w.heap.size, 1, none⟩ = some (.int .i64 0) := by rw [Lib.cell_of_heap hRr]; rfl
    have q2 : wr.cell? ⟨w.heap.size, 2, none⟩ = some (.slice none 0 0) := by rw [Lib.cell_of_heap hRr]; rfl
    have f0 := Lib.frozen_of_heap hRr 0
    have f1 := Lib.frozen_of_heap hRr 1
    have f2 := Lib.frozen_of_heap hRr 2
    have p0 : wr.cell? ⟨PB, 0, none⟩ = some (.int .i64 W) := by rw [Lib.cell_of_heap HPB.out]; rfl
    have p1 : wr.cell? ⟨PB, 1, none⟩ = some (.int .i64 H) := by rw [Lib.cell_of_heap HPB.out]; rfl
    have p2 : wr.cell? ⟨PB, 2, none⟩ = some (.slice (some ⟨w6.heap.size, 0, none⟩) N N) := by rw [Lib.cell_of_heap HPB.out]; rfl
    by_cases hlt : k < N
    · have hd : decide ((k : Int) < (N : Int)) = true := by simp; omega
      have HRKN := hide (show nxD f (b.drop pos) = none → rdD f b W kind N = none from fun h => rdD_none (k := k + 1) hlt (by rw [rdD, HRK.out]; simp only [h]))
      have HRKS := hide (show ∀ d m, nxD f (b.drop pos) = some (d, m) → rdD f b W kind (k + 1) = some (pos + m, zs ++ [(gAt zs W kind k + d) % 65536]) from fun d m h => by rw [rdD, HRK.out]; simp only [h])
      have HDRP := hide (HDR.out pos)
      have HTW := hide (HT5.out.below HBL.out (Nat.le_refl _))
      have hrest : (b.drop pos).length ≤ 262144 := by rw [List.length_drop]; omega
      have HAB := hide (allB_drop hbm pos)
      have HDD := hide (fun m => show (b.drop pos).drop m = b.drop (pos + m) by rw [List.drop_drop])
      obtain ⟨hF1, hF2⟩ := HF.out (b.drop pos)
      have HF1 := hide hF1
      have HF2 := hide hF2
      clear hF1 hF2
      obtain ⟨hzs1, hzs2⟩ := rdD_len HRK.out
      have HIN9 := hide (show IsInts wr (.slice (some ⟨w6.heap.size, 0, none⟩) N N) (zs ++ List.replicate (N - zs.length) 0) by
        have hlp : (zs ++ List.replicate (N - zs.length) 0).length = N := by rw [List.length_append, List.length_replicate]; omega
        have h9 : IsInts wr (.slice (some ⟨w6.heap.size, 0, none⟩) N N) (zs ++ List.replicate (N - zs.length) 0) := by
          refine IsInts.own (base := w6.heap.size) ?_ (by rw [hlp]; omega)
          rw [hlp, ← zRow_ints]; exact ho
        exact h9)
      have hgp : gAt (zs ++ List.replicate (N - zs.length) 0) W kind k = gAt zs W kind k := gAt_pre (by omega) fun j hj => by simp [List.getD, List.getElem?_append_left (show j < zs.length by omega)]
      have hgr := gAt_range zs W kind k hzs2
      have hqb : k / W ≤ 4096 := Nat.le_trans (Nat.div_le_self k W) (by omega)
      have HGU := hide (show ∀ w', Below wr.heap.size wr w' → Calls Try.prog 46 #[.agg #[.int .i64 W, .int .i64 H, .slice (some ⟨w6.heap.size, 0, none⟩) N N], .int .i64 kind, .int .i64 ((k % W : Nat) : Int), .int .i64 ((k / W : Nat) : Int)] w' fun e w'' => e = .returned (.int .i64 (gAt zs W kind k)) ∧ Below wr.heap.size wr w'' from fun w' h => by
        have hlp : (zs ++ List.replicate (N - zs.length) 0).length = N := by rw [List.length_append, List.length_replicate]; omega
        refine (guessOf_any _ (zs ++ List.replicate (N - zs.length) 0) W _ _ H kind k w' (HIN9.out.below h (Nat.le_refl _)) (by omega) (by omega) (by rw [hlp]; exact hlt) (by rw [hlp]; omega) (pad_ok _ _ hzs2) rfl rfl).mono fun e w'' h2 => ⟨?_, h.trans (h2.2.mono h.size)⟩
        rw [← hgp]; exact h2.1)
      clear hgp
      generalize gAt zs W kind k = G at *
      have hne6 : PB ≠ w6.heap.size := by omega
      have c9 := ho.cellAt k (by omega)
      rw [zRow_getk zs N k hzl hlt] at c9
      have f9 := ho.frozenAt k
      have HCX := hide (show ∀ w', Below wr.heap.size wr w' → w'.cell? ⟨w6.heap.size, k, none⟩ = some (.int .i64 0) ∧ w'.frozen? ⟨w6.heap.size, k, none⟩ = false from fun w' h =>
        ⟨(h.cell (p := ⟨w6.heap.size, k, none⟩) (by show w6.heap.size < _; omega)).trans c9, (World.frozen?_of_block (h.block w6.heap.size (by omega))).trans f9⟩)
      have HS := hide (show ∀ w', Below wr.heap.size wr w' → w'.cell? ⟨PB, 0, none⟩ = some (.int .i64 W) ∧ w'.cell? ⟨PB, 1, none⟩ = some (.int .i64 H) ∧ w'.cell? ⟨PB, 2, none⟩ = some (.slice (some ⟨w6.heap.size, 0, none⟩) N N) from fun w' h =>
        ⟨(h.cell (p := ⟨PB, 0, none⟩) hPl).trans p0, (h.cell (p := ⟨PB, 1, none⟩) hPl).trans p1, (h.cell (p := ⟨PB, 2, none⟩) hPl).trans p2⟩)
      have HS2 := hide (show ∀ w' u, Below wr.heap.size wr w' → (w'.setCell ⟨w6.heap.size, k, none⟩ u).cell? ⟨PB, 0, none⟩ = some (.int .i64 W) ∧ (w'.setCell ⟨w6.heap.size, k, none⟩ u).cell? ⟨PB, 1, none⟩ = some (.int .i64 H) ∧ (w'.setCell ⟨w6.heap.size, k, none⟩ u).cell? ⟨PB, 2, none⟩ = some (.slice (some ⟨w6.heap.size, 0, none⟩) N N) from fun w' u h => by
        obtain ⟨t0, t1, t2⟩ := HS.out w' h
        have hbk := Below.heap_setCell w' ⟨w6.heap.size, k, none⟩ u PB hne6
        exact ⟨(World.cell?_of_block (a := ⟨PB, 0, none⟩) hbk).trans t0, (World.cell?_of_block (a := ⟨PB, 1, none⟩) hbk).trans t1, (World.cell?_of_block (a := ⟨PB, 2, none⟩) hbk).trans t2⟩)
      have hk0 : (0 : Int) ≤ (k : Int) := by omega
      have hkN : (k : Int) < (N : Int) := by omega
      clear c9 f9
      generalize hLe : b.drop pos = L at *
      clear hLe
      go_wp2_with fail
      refine (front_any _ ts L _ HTW.out (by rw [HWL.out]; exact hl1) (by omega) H15.out).mono ?_
      rintro e wz ⟨rfl, rfl⟩
      by_cases hfe : frE ts L = 0
      · obtain ⟨i, hi16, hil, hfv, hle, g16, g15, gok⟩ := HF2.out hfe
        have G16 := hide g16
        have G15 := hide g15
        have GOK := hide gok
        rw [hfe, hfv]
        have c1 := (HBL.out.cell (p := ⟨rb, rof + i, none⟩) hrl5).trans (HRC5.out i hil)
        have hwsz : (str ts[i]).size = ts[i].length := str_size _
        have hrs : (str L).size = L.length := str_size _
        have HX2 := hide (fun m => show (str L).extract m L.length = str (L.drop m) by rw [Lib.extract_eq, str_data, List.take_of_length_le (by rw [List.length_drop]; exact Nat.le_refl _)]; rfl)
        clear g16 g15 gok hfe hfv HF1 HF2
        generalize ts[i] = wd at *
        have hx2 := HX2.out wd.length
        by_cases h16 : i = 16
        · subst h16
          have HNXS := hide (G16.out rfl)
          have hDr := HDRP.out 32768 wd.length HNXS.out
          have HDROP := hide (show Value.string (str (L.drop wd.length)) = .string (str (b.drop (pos + wd.length))) by rw [HDD.out])
          have HDROP2 := hide (show Value.string ((str L).extract wd.length L.length) = .string (str (L.drop wd.length)) from congrArg _ (HX2.out wd.length))
          have hw1 : ¬ (W = 0) := by omega
          have hw2 : ¬ ((W : Int) = 0) := by omega
          have HREM := hide (show (k : Int) % (W : Int) = ((k % W : Nat) : Int) from rfl)
          have HQUO := hide (show IntKind.i64.wrap ((k : Int) / (W : Int)) = ((k / W : Nat) : Int) by rw [show (k : Int) / (W : Int) = ((k / W : Nat) : Int) from rfl]; generalize k / W = q at hqb ⊢; exact IntWalk.i64_in _ (by omega))
          have hgd : IntKind.i64.wrap (G + 32768) = G + 32768 := IntWalk.i64_in _ (by omega)
          have HDN := hide (down16_any (G + 32768) (by omega) (by omega))
          have hwq : IntKind.i64.wrap (65536 * ((G + 32768) / 65536)) = 65536 * ((G + 32768) / 65536) := IntWalk.i64_in _ (by omega)
          have hwm : IntKind.i64.wrap (G + 32768 - 65536 * ((G + 32768) / 65536)) = (G + 32768) % 65536 := by rw [IntWalk.i64_in _ (by omega)]; omega
          have HRK2 := hide (HRKS.out 32768 (wd.length) HNXS.out)
          have hrefl := Below.refl wr.heap.size wr
          have hdrew : Below wr.heap.size wr wr.drew := (Below.refl _ _).drew
          generalize hEE : G + 32768 = E at *
          generalize E / 65536 = Q at *
          generalize E % 65536 = M at *
          go_wp2_with fail
          go_region_held3 (fun w' => w'.cell? ⟨PB, 0, none⟩ = some (.int .i64 W) ∧ w'.cell? ⟨PB, 1, none⟩ = some (.int .i64 H) ∧ w'.cell? ⟨PB, 2, none⟩ = some (.slice (some ⟨w6.heap.size, 0, none⟩) N N))
            (first | (refine HS.out _ ?_; assumption) | go_keep)
            (first | (go_at_call 46; (try rw [HREM.out]); (try rw [HQUO.out]); refine (HGU.out _ ?_).mono ?_; assumption; rintro e wx ⟨rfl, hNB⟩))
          obtain ⟨cx, fx⟩ := HCX.out _ hNB
          obtain ⟨y0, y1, y2⟩ := HS.out _ hNB
          have HT2 := hide (show ∀ w' u, Below wx.heap.size wx w' → (w'.setCell ⟨w6.heap.size, k, none⟩ u).cell? ⟨PB, 2, none⟩ = some (.slice (some ⟨w6.heap.size, 0, none⟩) N N) from fun w' u h => (HS2.out w' u (hNB.trans (h.mono hNB.size))).2.2)
          have HT1 := hide (show ∀ w', Below wx.heap.size wx w' → w'.cell? ⟨PB, 2, none⟩ = some (.slice (some ⟨w6.heap.size, 0, none⟩) N N) from fun w' h => (HS.out w' (hNB.trans (h.mono hNB.size))).2.2)
          have HCX2 := hide (show ∀ w', Below wx.heap.size wx w' → w'.cell? ⟨w6.heap.size, k, none⟩ = some (.int .i64 0) ∧ w'.frozen? ⟨w6.heap.size, k, none⟩ = false from fun w' h => HCX.out w' (hNB.trans (h.mono hNB.size)))
          clear hrefl hdrew
          have hrefl := Below.refl wx.heap.size wx
          have hdrew : Below wx.heap.size wx wx.drew := (Below.refl _ _).drew
          have fxd : wx.drew.frozen? ⟨w6.heap.size, k, none⟩ = false := fx
          have cxd : wx.drew.cell? ⟨w6.heap.size, k, none⟩ = some (.int .i64 0) := cx
          go_wp2_with fail
          go_region_held3 (fun w' => w'.cell? ⟨PB, 2, none⟩ = some (.slice (some ⟨w6.heap.size, 0, none⟩) N N))
            (first | (refine HT1.out _ ?_; assumption) | (refine HT2.out _ _ ?_; assumption) | go_keep)
            (first | (go_at_call 83; refine (HDN.out _).mono ?_; rintro e wy ⟨rfl, rfl⟩))
          have hox0 := ((ownsRow_below ho hNB).stored k (.int .i64 M)).1
          rw [zRow_setk zs N k _ hzl hlt] at hox0
          have hox : (wx.setCell ⟨w6.heap.size, k, none⟩ (.int .i64 M)).drew.ownsRow w6.heap.size 3 1 (.slice (some ⟨w6.heap.size, 0, none⟩) N N) N (zRow (zs ++ [M]) N) := hox0
          have HPX := hide (show (wx.setCell ⟨w6.heap.size, k, none⟩ (.int .i64 M)).drew.heap[PB]? = some (.cells #[.int .i64 W, .int .i64 H, .slice (some ⟨w6.heap.size, 0, none⟩) N N] 57 (0, 0)) by
            show (wx.setCell ⟨w6.heap.size, k, none⟩ (.int .i64 M)).heap[PB]? = _
            rw [Below.heap_setCell _ _ _ _ hne6, hNB.block PB hPl]; exact HPB.out)
          have HBX := hide (show Below w5.heap.size w5 (wx.setCell ⟨w6.heap.size, k, none⟩ (.int .i64 M)).drew from ((HBL.out.trans (hNB.mono HBL.out.size)).setCell (p := ⟨w6.heap.size, k, none⟩) h56 _).drew)
          have hszx : PB < (wx.setCell ⟨w6.heap.size, k, none⟩ (.int .i64 M)).drew.heap.size := by
            have hs := hNB.size
            show PB < (wx.setCell ⟨w6.heap.size, k, none⟩ (.int .i64 M)).heap.size
            simp only [World.setCell, Array.size_modify]
            exact Nat.lt_of_lt_of_le hPl hs
          have hzl2 : (zs ++ [M]).length = k + 1 := by simp [hzl]
          clear hox0
          generalize (wx.setCell ⟨w6.heap.size, k, none⟩ (.int .i64 M)).drew = WX at *
          clear hrefl hdrew cx fx hNB HS HS2 HCX HGU HT1 HT2 HCX2 cxd fxd y0 y1 y2 ho
          go_wp2
          go_roundw
          case rel => exact ⟨k + 1, pos + (wd.length), zs ++ [M], by omega, by go_num, hzl2, by first | exact HDROP.out | exact HDROP2.out.trans HDROP.out, HRK2, hox, HPX, HBX, hszx⟩
          case measure => simp [intOf]; omega
        · have hi15 : i ≤ 15 := by omega
          have hib : ((i : Int) == 16) = false := by simp; omega
          have HD1 := hide (HDD.out (wd.length + i))
          have hL1 : (L.drop wd.length).length = L.length - wd.length := List.length_drop
          have HAB1 := hide (allB_drop HAB.out wd.length)
          have HD2 := hide (show (L.drop wd.length).drop i = L.drop (wd.length + i) from List.drop_drop)
          have G15 := hide (G15.out hi15)
          have GOK := hide (GOK.out hi15)
          clear G16 h16
          generalize L.drop wd.length = L1 at *
          have hrs1 : (str L1).size = L1.length := str_size _
          by_cases hsh : L1.length < i
          · have HNX := hide (G15.out (by omega))
            have HNE := hide (show readDE sb W H kind xs = 1 by rw [HRE.out, HRN.out (HRKN.out HNX.out)]; rfl)
            have hd2 : decide ((L1.length : Int) < (i : Int)) = true := by simp; omega
            clear hL1
            go_wp2
            refine bodyPost_ret (v := .tuple #[.agg #[.int .i64 0, .int .i64 0, .slice none 0 0], .int .i64 1]) (by simp [results, Try.results50, go_sem, q0, q1, q2]) rfl ⟨.slice none 0 0, ?_, ?_, ?_⟩
            · rw [readDW, readDH, HNE.out]; rfl
            · rw [readDZ, HNE.out]; exact IsInts.nil _
            · exact ((HWR.out.setCell (p := ⟨w.heap.size, 0, none⟩) (Nat.le_refl _) _).setCell (p := ⟨w.heap.size, 1, none⟩) (Nat.le_refl _) _).setCell (p := ⟨w.heap.size, 2, none⟩) (Nat.le_refl _) _
          · have hd2 : decide ((L1.length : Int) < (i : Int)) = false := by simp; omega
            have HNXG := hide (GOK.out (by omega))
            have hx3 : (str L1).extract 0 i = str (L1.take i) := by rw [Lib.extract_eq, str_data, List.drop_zero, Nat.sub_zero]; rfl
            have hx4 : (str L1).extract i L1.length = str (L1.drop i) := by rw [Lib.extract_eq, str_data, List.take_of_length_le (by rw [List.length_drop]; exact Nat.le_refl _)]; rfl
            have hlt1 : (L1.take i).length = i := by rw [List.length_take]; omega
            have HABT := hide (allB_take HAB1.out i)
            have hv := valOf_lt _ HABT.out
            rw [hlt1] at hv
            have HTV := hide (show tailV i (valOf (L1.take i)) = if valOf (L1.take i) < 2 ^ i / 2 then ((valOf (L1.take i) : Nat) : Int) - ((2 ^ i : Nat) - 1) else ((valOf (L1.take i) : Nat) : Int) by rw [tailV, pow_cast])
            have HVAL := hide (fun w => refValue_any (str (L1.take i)) w (by rw [str_size]; omega) HABT.out)
            rw [str_data] at HVAL
            have hp := pow16 (n := i) (by omega)
            have hDr := HDRP.out _ _ HNXG.out
            generalize valOf (L1.take i) = V at *
            generalize hTV : tailV i V = TV at *
            clear hTV
            obtain ⟨pp, hpe⟩ : ∃ p : Nat, 2 ^ i = p := ⟨_, rfl⟩
            rw [hpe] at hp hv HTV
            have HPE := hide hpe
            have HDROP := hide (show Value.string (str (L1.drop i)) = .string (str (b.drop (pos + (wd.length + i)))) by rw [HD2.out, HD1.out])
            have HDROP2 := hide (show Value.string ((str L1).extract i L1.length) = .string (str (L1.drop i)) from congrArg _ hx4)
            generalize hT1 : str L1 = T1 at hx2 hrs1 hx3 hx4 HDROP2
            clear hT1
            have hlL1 : L1.length ≤ 262144 := by omega
            have hil2 : i ≤ L1.length := by omega
            clear hpe hL1 hsh hlt1 HD1 HD2
            by_cases hlow : V < pp / 2
            · have HDE := hide (HTV.out.trans (if_pos hlow))
              obtain ⟨D, hDe⟩ : ∃ D : Int, (V : Int) - (pp : Int) + 1 = D := ⟨_, rfl⟩
              have HNXS := hide (show nxD f L = some (D, wd.length + i) by rw [HNXG.out, HDE.out, ← hDe]; congr 2; omega)
              have hDr : -32768 < D ∧ D ≤ 32768 := by have := HDE.out; omega
              clear HTV HNXG HDE
              have HAR := hide (And.intro hne6 (And.intro hqb (And.intro hgr (And.intro hDr (And.intro hNi (And.intro b3 (And.intro hk (And.intro hkN (And.intro hk0 (And.intro hzl (And.intro hzs1 (And.intro hlt (And.intro hPl (And.intro hsz (And.intro h56 (And.intro h67 (And.intro h05 (And.intro hlt0 (And.intro hrl5 (And.intro hlen (And.intro hbl (And.intro b1 (And.intro b1' (And.intro b2 (And.intro b2' (And.intro hl1 (And.intro hl2 (hws))))))))))))))))))))))))))))
              clear hne6 hqb hgr hDr hNi b3 hk hkN hk0 hzl hzs1 hlt hPl hsz h56 h67 h05 hlt0 hrl5 hlen hbl b1 b1' b2 b2' hl1 hl2 hws hd
              go_wp2_with fail
              refine (HVAL.out _).mono ?_
              rintro e wv ⟨rfl, rfl⟩
              clear hx2 hx3 hrs hwsz hrest hle hil c1
              have hw : Value.int .i64 (wrap64 ((2 : Int) ^ i)) = Value.int .i64 (pp : Int) := by rw [wrap_pow (n := i) (by omega), HPE.out]
              go_wp2_with fail
              clear hw
              obtain ⟨hne6, hqb, hgr, hDr, hNi, b3, hk, hkN, hk0, hzl, hzs1, hlt, hPl, hsz, h56, h67, h05, hlt0, hrl5, hlen, hbl, b1, b1', b2, b2', hl1, hl2, hws⟩ := HAR.out
              clear hp hv hlow hDe
              have hw1 : ¬ (W = 0) := by omega
              have hw2 : ¬ ((W : Int) = 0) := by omega
              have HREM := hide (show (k : Int) % (W : Int) = ((k % W : Nat) : Int) from rfl)
              have HQUO := hide (show IntKind.i64.wrap ((k : Int) / (W : Int)) = ((k / W : Nat) : Int) by rw [show (k : Int) / (W : Int) = ((k / W : Nat) : Int) from rfl]; generalize k / W = q at hqb ⊢; exact IntWalk.i64_in _ (by omega))
              have hgd : IntKind.i64.wrap (G + D) = G + D := IntWalk.i64_in _ (by omega)
              have HDN := hide (down16_any (G + D) (by omega) (by omega))
              have hwq : IntKind.i64.wrap (65536 * ((G + D) / 65536)) = 65536 * ((G + D) / 65536) := IntWalk.i64_in _ (by omega)
              have hwm : IntKind.i64.wrap (G + D - 65536 * ((G + D) / 65536)) = (G + D) % 65536 := by rw [IntWalk.i64_in _ (by omega)]; omega
              have HRK2 := hide (HRKS.out D (wd.length + i) HNXS.out)
              have hrefl := Below.refl wr.heap.size wr
              have hdrew : Below wr.heap.size wr wr.drew := (Below.refl _ _).drew
              generalize hEE : G + D = E at *
              generalize E / 65536 = Q at *
              generalize E % 65536 = M at *
              go_region_held3 (fun w' => w'.cell? ⟨PB, 0, none⟩ = some (.int .i64 W) ∧ w'.cell? ⟨PB, 1, none⟩ = some (.int .i64 H) ∧ w'.cell? ⟨PB, 2, none⟩ = some (.slice (some ⟨w6.heap.size, 0, none⟩) N N))
                (first | (refine HS.out _ ?_; assumption) | go_keep)
                (first | (go_at_call 46; (try rw [HREM.out]); (try rw [HQUO.out]); refine (HGU.out _ ?_).mono ?_; assumption; rintro e wx ⟨rfl, hNB⟩))
              obtain ⟨cx, fx⟩ := HCX.out _ hNB
              obtain ⟨y0, y1, y2⟩ := HS.out _ hNB
              have HT2 := hide (show ∀ w' u, Below wx.heap.size wx w' → (w'.setCell ⟨w6.heap.size, k, none⟩ u).cell? ⟨PB, 2, none⟩ = some (.slice (some ⟨w6.heap.size, 0, none⟩) N N) from fun w' u h => (HS2.out w' u (hNB.trans (h.mono hNB.size))).2.2)
              have HT1 := hide (show ∀ w', Below wx.heap.size wx w' → w'.cell? ⟨PB, 2, none⟩ = some (.slice (some ⟨w6.heap.size, 0, none⟩) N N) from fun w' h => (HS.out w' (hNB.trans (h.mono hNB.size))).2.2)
              have HCX2 := hide (show ∀ w', Below wx.heap.size wx w' → w'.cell? ⟨w6.heap.size, k, none⟩ = some (.int .i64 0) ∧ w'.frozen? ⟨w6.heap.size, k, none⟩ = false from fun w' h => HCX.out w' (hNB.trans (h.mono hNB.size)))
              clear hrefl hdrew
              have hrefl := Below.refl wx.heap.size wx
              have hdrew : Below wx.heap.size wx wx.drew := (Below.refl _ _).drew
              have fxd : wx.drew.frozen? ⟨w6.heap.size, k, none⟩ = false := fx
              have cxd : wx.drew.cell? ⟨w6.heap.size, k, none⟩ = some (.int .i64 0) := cx
              go_wp2_with fail
              go_region_held3 (fun w' => w'.cell? ⟨PB, 2, none⟩ = some (.slice (some ⟨w6.heap.size, 0, none⟩) N N))
                (first | (refine HT1.out _ ?_; assumption) | (refine HT2.out _ _ ?_; assumption) | go_keep)
                (first | (go_at_call 83; refine (HDN.out _).mono ?_; rintro e wy ⟨rfl, rfl⟩))
              have hox0 := ((ownsRow_below ho hNB).stored k (.int .i64 M)).1
              rw [zRow_setk zs N k _ hzl hlt] at hox0
              have hox : (wx.setCell ⟨w6.heap.size, k, none⟩ (.int .i64 M)).drew.ownsRow w6.heap.size 3 1 (.slice (some ⟨w6.heap.size, 0, none⟩) N N) N (zRow (zs ++ [M]) N) := hox0
              have HPX := hide (show (wx.setCell ⟨w6.heap.size, k, none⟩ (.int .i64 M)).drew.heap[PB]? = some (.cells #[.int .i64 W, .int .i64 H, .slice (some ⟨w6.heap.size, 0, none⟩) N N] 57 (0, 0)) by
                show (wx.setCell ⟨w6.heap.size, k, none⟩ (.int .i64 M)).heap[PB]? = _
                rw [Below.heap_setCell _ _ _ _ hne6, hNB.block PB hPl]; exact HPB.out)
              have HBX := hide (show Below w5.heap.size w5 (wx.setCell ⟨w6.heap.size, k, none⟩ (.int .i64 M)).drew from ((HBL.out.trans (hNB.mono HBL.out.size)).setCell (p := ⟨w6.heap.size, k, none⟩) h56 _).drew)
              have hszx : PB < (wx.setCell ⟨w6.heap.size, k, none⟩ (.int .i64 M)).drew.heap.size := by
                have hs := hNB.size
                show PB < (wx.setCell ⟨w6.heap.size, k, none⟩ (.int .i64 M)).heap.size
                simp only [World.setCell, Array.size_modify]
                exact Nat.lt_of_lt_of_le hPl hs
              have hzl2 : (zs ++ [M]).length = k + 1 := by simp [hzl]
              clear hox0
              generalize (wx.setCell ⟨w6.heap.size, k, none⟩ (.int .i64 M)).drew = WX at *
              clear hrefl hdrew cx fx hNB HS HS2 HCX HGU HT1 HT2 HCX2 cxd fxd y0 y1 y2 ho
              go_wp2
              go_roundw
              case rel => exact ⟨k + 1, pos + (wd.length + i), zs ++ [M], by omega, by go_num, hzl2, by first | exact HDROP.out | exact HDROP2.out.trans HDROP.out, HRK2, hox, HPX, HBX, hszx⟩
              case measure => simp [intOf]; omega
            · have HDE := hide (HTV.out.trans (if_neg hlow))
              have HNXS := hide (show nxD f L = some ((V : Int), wd.length + i) by rw [HNXG.out, HDE.out])
              have hDr : -32768 < (V : Int) ∧ (V : Int) ≤ 32768 := by have := HDE.out; omega
              clear HTV HNXG HDE
              have HAR := hide (And.intro hne6 (And.intro hqb (And.intro hgr (And.intro hDr (And.intro hNi (And.intro b3 (And.intro hk (And.intro hkN (And.intro hk0 (And.intro hzl (And.intro hzs1 (And.intro hlt (And.intro hPl (And.intro hsz (And.intro h56 (And.intro h67 (And.intro h05 (And.intro hlt0 (And.intro hrl5 (And.intro hlen (And.intro hbl (And.intro b1 (And.intro b1' (And.intro b2 (And.intro b2' (And.intro hl1 (And.intro hl2 (hws))))))))))))))))))))))))))))
              clear hne6 hqb hgr hDr hNi b3 hk hkN hk0 hzl hzs1 hlt hPl hsz h56 h67 h05 hlt0 hrl5 hlen hbl b1 b1' b2 b2' hl1 hl2 hws hd
              go_wp2_with fail
              refine (HVAL.out _).mono ?_
              rintro e wv ⟨rfl, rfl⟩
              clear hx2 hx3 hrs hwsz hrest hle hil c1
              have hw : Value.int .i64 (wrap64 ((2 : Int) ^ i)) = Value.int .i64 (pp : Int) := by rw [wrap_pow (n := i) (by omega), HPE.out]
              go_wp2_with fail
              clear hw
              obtain ⟨hne6, hqb, hgr, hDr, hNi, b3, hk, hkN, hk0, hzl, hzs1, hlt, hPl, hsz, h56, h67, h05, hlt0, hrl5, hlen, hbl, b1, b1', b2, b2', hl1, hl2, hws⟩ := HAR.out
              clear hp hv hlow
              have hw1 : ¬ (W = 0) := by omega
              have hw2 : ¬ ((W : Int) = 0) := by omega
              have HREM := hide (show (k : Int) % (W : Int) = ((k % W : Nat) : Int) from rfl)
              have HQUO := hide (show IntKind.i64.wrap ((k : Int) / (W : Int)) = ((k / W : Nat) : Int) by rw [show (k : Int) / (W : Int) = ((k / W : Nat) : Int) from rfl]; generalize k / W = q at hqb ⊢; exact IntWalk.i64_in _ (by omega))
              have hgd : IntKind.i64.wrap (G + (V : Int)) = G + (V : Int) := IntWalk.i64_in _ (by omega)
              have HDN := hide (down16_any (G + (V : Int)) (by omega) (by omega))
              have hwq : IntKind.i64.wrap (65536 * ((G + (V : Int)) / 65536)) = 65536 * ((G + (V : Int)) / 65536) := IntWalk.i64_in _ (by omega)
              have hwm : IntKind.i64.wrap (G + (V : Int) - 65536 * ((G + (V : Int)) / 65536)) = (G + (V : Int)) % 65536 := by rw [IntWalk.i64_in _ (by omega)]; omega
              have HRK2 := hide (HRKS.out (V : Int) (wd.length + i) HNXS.out)
              have hrefl := Below.refl wr.heap.size wr
              have hdrew : Below wr.heap.size wr wr.drew := (Below.refl _ _).drew
              generalize hEE : G + (V : Int) = E at *
              generalize E / 65536 = Q at *
              generalize E % 65536 = M at *
              go_region_held3 (fun w' => w'.cell? ⟨PB, 0, none⟩ = some (.int .i64 W) ∧ w'.cell? ⟨PB, 1, none⟩ = some (.int .i64 H) ∧ w'.cell? ⟨PB, 2, none⟩ = some (.slice (some ⟨w6.heap.size, 0, none⟩) N N))
                (first | (refine HS.out _ ?_; assumption) | go_keep)
                (first | (go_at_call 46; (try rw [HREM.out]); (try rw [HQUO.out]); refine (HGU.out _ ?_).mono ?_; assumption; rintro e wx ⟨rfl, hNB⟩))
              obtain ⟨cx, fx⟩ := HCX.out _ hNB
              obtain ⟨y0, y1, y2⟩ := HS.out _ hNB
              have HT2 := hide (show ∀ w' u, Below wx.heap.size wx w' → (w'.setCell ⟨w6.heap.size, k, none⟩ u).cell? ⟨PB, 2, none⟩ = some (.slice (some ⟨w6.heap.size, 0, none⟩) N N) from fun w' u h => (HS2.out w' u (hNB.trans (h.mono hNB.size))).2.2)
              have HT1 := hide (show ∀ w', Below wx.heap.size wx w' → w'.cell? ⟨PB, 2, none⟩ = some (.slice (some ⟨w6.heap.size, 0, none⟩) N N) from fun w' h => (HS.out w' (hNB.trans (h.mono hNB.size))).2.2)
              have HCX2 := hide (show ∀ w', Below wx.heap.size wx w' → w'.cell? ⟨w6.heap.size, k, none⟩ = some (.int .i64 0) ∧ w'.frozen? ⟨w6.heap.size, k, none⟩ = false from fun w' h => HCX.out w' (hNB.trans (h.mono hNB.size)))
              clear hrefl hdrew
              have hrefl := Below.refl wx.heap.size wx
              have hdrew : Below wx.heap.size wx wx.drew := (Below.refl _ _).drew
              have fxd : wx.drew.frozen? ⟨w6.heap.size, k, none⟩ = false := fx
              have cxd : wx.drew.cell? ⟨w6.heap.size, k, none⟩ = some (.int .i64 0) := cx
              go_wp2_with fail
              go_region_held3 (fun w' => w'.cell? ⟨PB, 2, none⟩ = some (.slice (some ⟨w6.heap.size, 0, none⟩) N N))
                (first | (refine HT1.out _ ?_; assumption) | (refine HT2.out _ _ ?_; assumption) | go_keep)
                (first | (go_at_call 83; refine (HDN.out _).mono ?_; rintro e wy ⟨rfl, rfl⟩))
              have hox0 := ((ownsRow_below ho hNB).stored k (.int .i64 M)).1
              rw [zRow_setk zs N k _ hzl hlt] at hox0
              have hox : (wx.setCell ⟨w6.heap.size, k, none⟩ (.int .i64 M)).drew.ownsRow w6.heap.size 3 1 (.slice (some ⟨w6.heap.size, 0, none⟩) N N) N (zRow (zs ++ [M]) N) := hox0
              have HPX := hide (show (wx.setCell ⟨w6.heap.size, k, none⟩ (.int .i64 M)).drew.heap[PB]? = some (.cells #[.int .i64 W, .int .i64 H, .slice (some ⟨w6.heap.size, 0, none⟩) N N] 57 (0, 0)) by
                show (wx.setCell ⟨w6.heap.size, k, none⟩ (.int .i64 M)).heap[PB]? = _
                rw [Below.heap_setCell _ _ _ _ hne6, hNB.block PB hPl]; exact HPB.out)
              have HBX := hide (show Below w5.heap.size w5 (wx.setCell ⟨w6.heap.size, k, none⟩ (.int .i64 M)).drew from ((HBL.out.trans (hNB.mono HBL.out.size)).setCell (p := ⟨w6.heap.size, k, none⟩) h56 _).drew)
              have hszx : PB < (wx.setCell ⟨w6.heap.size, k, none⟩ (.int .i64 M)).drew.heap.size := by
                have hs := hNB.size
                show PB < (wx.setCell ⟨w6.heap.size, k, none⟩ (.int .i64 M)).heap.size
                simp only [World.setCell, Array.size_modify]
                exact Nat.lt_of_lt_of_le hPl hs
              have hzl2 : (zs ++ [M]).length = k + 1 := by simp [hzl]
              clear hox0
              generalize (wx.setCell ⟨w6.heap.size, k, none⟩ (.int .i64 M)).drew = WX at *
              clear hrefl hdrew cx fx hNB HS HS2 HCX HGU HT1 HT2 HCX2 cxd fxd y0 y1 y2 ho
              go_wp2
              go_roundw
              case rel => exact ⟨k + 1, pos + (wd.length + i), zs ++ [M], by omega, by go_num, hzl2, by first | exact HDROP.out | exact HDROP2.out.trans HDROP.out, HRK2, hox, HPX, HBX, hszx⟩
              case measure => simp [intOf]; omega
      · have HNX := hide (HF1.out hfe)
        have HNE := hide (show readDE sb W H kind xs = 1 by rw [HRE.out, HRN.out (HRKN.out HNX.out)]; rfl)
        have hne : (frE ts L != 0) = true := by simpa using hfe
        clear hfe HF1 HF2
        go_wp2
        refine bodyPost_ret (v := .tuple #[.agg #[.int .i64 0, .int .i64 0, .slice none 0 0], .int .i64 1]) (by simp [results, Try.results50, go_sem, q0, q1, q2]) rfl ⟨.slice none 0 0, ?_, ?_, ?_⟩
        · rw [readDW, readDH, HNE.out]; rfl
        · rw [readDZ, HNE.out]; exact IsInts.nil _
        · exact ((HWR.out.setCell (p := ⟨w.heap.size, 0, none⟩) (Nat.le_refl _) _).setCell (p := ⟨w.heap.size, 1, none⟩) (Nat.le_refl _) _).setCell (p := ⟨w.heap.size, 2, none⟩) (Nat.le_refl _) _
    · obtain rfl : k = N := by omega
      have hd : decide ((k : Int) < (k : Int)) = false := by simp
      obtain ⟨hpk, hwe, hS1, hS2⟩ := HLA.out pos zs HRK.out
      have HIN := hide (show IsInts wr (.slice (some ⟨w6.heap.size, 0, none⟩) k k) zs by
        have h := ho
        rw [← hzl, zRow_end] at h
        rw [← hzl]
        exact IsInts.own h (by omega))
      have hR6 : w.heap.size < w6.heap.size := by omega
      have hRP : w.heap.size ≠ PB := by omega
      have HW9 := hide (fun w' (h : Below wr.heap.size wr w') => HWR.out.trans (h.mono HWR.out.size))
      have hRw : w.heap.size < wr.heap.size := by omega
      go_wp2_with fail
      refine (writeDiff_any _ _ _ _ zs _ xs _ HIN.out (HVC5.out.below HBL.out (Nat.le_refl _))).mono ?_
      rintro e w9 ⟨rfl, hb9⟩
      rw [hwe]
      have HWR := hide (HW9.out w9 hb9)
      have ho9 := ownsRow_below ho hb9
      have hR9 : w9.heap[w.heap.size]? = some (.cells #[.int .i64 0, .int .i64 0, .slice none 0 0] 57 (0, 0)) := by rw [hb9.block _ hRw]; exact hRr
      have hP9 : w9.heap[PB]? = some (.cells #[.int .i64 W, .int .i64 H, .slice (some ⟨w6.heap.size, 0, none⟩) k k] 57 (0, 0)) := by rw [hb9.block _ hPl]; exact HPB.out
      clear q0 q1 q2 f0 f1 f2 p0 p1 p2 hRr
      have q0 : w9.cell? ⟨w.heap.size, 0, none⟩ = some (.int .i64 0) := by rw [Lib.cell_of_heap hR9]; rfl
      have q1 : w9.cell? ⟨w.heap.size, 1, none⟩ = some (.int .i64 0) := by rw [Lib.cell_of_heap hR9]; rfl
      have q2 : w9.cell? ⟨w.heap.size, 2, none⟩ = some (.slice none 0 0) := by rw [Lib.cell_of_heap hR9]; rfl
      have f0 := Lib.frozen_of_heap hR9 0
      have f1 := Lib.frozen_of_heap hR9 1
      have f2 := Lib.frozen_of_heap hR9 2
      have p0 : w9.cell? ⟨PB, 0, none⟩ = some (.int .i64 W) := by rw [Lib.cell_of_heap hP9]; rfl
      have p1 : w9.cell? ⟨PB, 1, none⟩ = some (.int .i64 H) := by rw [Lib.cell_of_heap hP9]; rfl
      have p2 : w9.cell? ⟨PB, 2, none⟩ = some (.slice (some ⟨w6.heap.size, 0, none⟩) k k) := by rw [Lib.cell_of_heap hP9]; rfl
      have HS1 := hide hS1
      have HS2 := hide hS2
      clear hS1 hS2 ho
      generalize writeDS W H zs kind xs = S at *
      by_cases hS : S = sb
      · have HNS := hide (HS1.out hS)
        have HNE := hide (show readDE sb W H kind xs = 0 by rw [HRE.out, HNS.out]; rfl)
        have HOW := hide (((ownsRow_setCell_below (ownsRow_setCell_below (ownsRow_setCell_below ho9 (a := ⟨w.heap.size, 0, none⟩) hR6 (.int .i64 W)) (a := ⟨w.heap.size, 1, none⟩) hR6 (.int .i64 H)) (a := ⟨w.heap.size, 2, none⟩) hR6 (.slice (some ⟨w6.heap.size, 0, none⟩) k k))))
        clear ho9
        subst hS
        go_wp2
        refine bodyPost_ret (v := .tuple #[.agg #[.int .i64 W, .int .i64 H, .slice (some ⟨w6.heap.size, 0, none⟩) k k], .int .i64 0]) (by simp [results, Try.results50, go_sem, q0, q1, q2]) rfl ⟨.slice (some ⟨w6.heap.size, 0, none⟩) k k, ?_, ?_, ?_⟩
        · rw [readDW, readDH, HNE.out]; rfl
        · rw [readDZ, HNE.out, if_pos rfl, HNS.out]
          have h := HOW.out
          rw [← hzl, zRow_end] at h
          rw [← hzl]
          show IsInts _ _ zs
          exact IsInts.own h (by omega)
        · exact ((HWR.out.setCell (p := ⟨w.heap.size, 0, none⟩) (Nat.le_refl _) _).setCell (p := ⟨w.heap.size, 1, none⟩) (Nat.le_refl _) _).setCell (p := ⟨w.heap.size, 2, none⟩) (Nat.le_refl _) _
      · have HNS := hide (HS2.out hS)
        have HNE := hide (show readDE sb W H kind xs = 1 by rw [HRE.out, HNS.out]; rfl)
        have hcmp : ((str S).toList == (str sb).toList) = false := by rw [Lib.toList_data, Lib.toList_data, str_data, str_data]; simpa using hS
        clear ho9 hS
        go_wp2
        refine bodyPost_ret (v := .tuple #[.agg #[.int .i64 0, .int .i64 0, .slice none 0 0], .int .i64 1]) (by simp [results, Try.results50, go_sem, q0, q1, q2]) rfl ⟨.slice none 0 0, ?_, ?_, ?_⟩
        · rw [readDW, readDH, HNE.out]; rfl
        · rw [readDZ, HNE.out]; exact IsInts.nil _
        · exact ((HWR.out.setCell (p := ⟨w.heap.size, 0, none⟩) (Nat.le_refl _) _).setCell (p := ⟨w.heap.size, 1, none⟩) (Nat.le_refl _) _).setCell (p := ⟨w.heap.size, 2, none⟩) (Nat.le_refl _) _

end Go.Proofs.Ytolcndchfnifhaa
