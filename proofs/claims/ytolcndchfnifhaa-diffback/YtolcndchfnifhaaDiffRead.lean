/- diff.Read. -/
import Derived.Test.YtolcndchfnifhaaReadMath
import Derived.Test.YtolcndchfnifhaaNextDiff
import Derived.Deep.RegionHeld3
namespace Go.Proofs.Ytolcndchfnifhaa
open Go.RowKit

/-- the plane's row, while it is being filled. -/
def zRow (zs : List Int) (n : Nat) : List Value := zs.map (Value.int .i64) ++ List.replicate (n - zs.length) (.int .i64 0)
theorem zRow_start (n : Nat) : zRow [] n = (madeCells (Value.int .i64 0).cells (n * 1)).toList := by
  rw [show (Value.int .i64 0).cells = #[Value.int .i64 0] from rfl, toList_madeCells_one]; simp [zRow]
theorem zRow_get (zs : List Int) (n : Nat) (h : zs.length < n) : (zRow zs n)[zs.length]? = some (.int .i64 0) := by
  rw [zRow, List.getElem?_append_right (by simp), List.length_map, Nat.sub_self, List.getElem?_replicate, if_pos (by omega)]
theorem zRow_getk (zs : List Int) (n k : Nat) (hk : zs.length = k) (h : k < n) : (zRow zs n)[k]? = some (.int .i64 0) := by subst hk; exact zRow_get zs n h
theorem zRow_setk (zs : List Int) (n k : Nat) (x : Int) (hk : zs.length = k) (h : k < n) : (zRow zs n).set k (.int .i64 x) = zRow (zs ++ [x]) n := by
  subst hk
  rw [zRow, zRow, List.set_append_right _ _ (by simp), List.length_map, Nat.sub_self, show n - zs.length = (n - (zs.length + 1)) + 1 by omega, List.replicate_succ, List.set_cons_zero]
  simp
theorem zRow_end (zs : List Int) : zRow zs zs.length = zs.map (Value.int .i64) := by simp [zRow]
theorem zRow_ints (zs : List Int) (n : Nat) : zRow zs n = (zs ++ List.replicate (n - zs.length) 0).map (Value.int .i64) := by simp [zRow]
theorem pad_ok (zs : List Int) (m : Nat) (h : sampsOk zs = true) : sampsOk (zs ++ List.replicate m 0) = true := by
  rw [sampsOk, List.all_append, Bool.and_eq_true]
  refine ⟨h, ?_⟩
  rw [List.all_eq_true]
  intro x hx
  rw [List.eq_of_mem_replicate hx]; rfl

set_option maxRecDepth 100000 in
set_option maxHeartbeats 1600000 in
theorem readD_walk (s : ByteArray) (W H : Nat) (kind : Int) (v : Value) (xs : List Int) (w : World) (hv : IsInts w v xs) (hW : sideOk W = true) (hH : sideOk H = true) (hk : kindOk kind = true) (hE : checkE xs = 0) (hlen : s.size ≤ (W * H * 30 + 7) / 8) :
    Calls Try.prog 49 #[.string s, .int .i64 W, .int .i64 H, .int .i64 kind, v] w fun e w' => ∃ r, e = .returned (.tuple #[.agg #[.int .i64 (readDW s.data.toList W H kind xs), .int .i64 (readDH s.data.toList W H kind xs), r], .int .i64 (readDE s.data.toList W H kind xs)]) ∧ IsInts w' r (readDZ s.data.toList W H kind xs) ∧ Below w.heap.size w w' := by
  obtain ⟨hl1, hl2, hok, _, _⟩ := checkE_zero hE
  obtain ⟨i0, hi, hz0, hz1, hz2⟩ := info_parts Try.infoInt
  have b1 : 1 ≤ (W : Int) ∧ (W : Int) ≤ 64 := by simpa [sideOk] using hW
  have b2 : 1 ≤ (H : Int) ∧ (H : Int) ≤ 64 := by simpa [sideOk] using hH
  have b3 := side_mul b1 b2
  obtain ⟨b1, b1'⟩ := b1
  obtain ⟨b2, b2'⟩ := b2
  obtain ⟨N, hN⟩ : ∃ N, W * H = N := ⟨_, rfl⟩
  have hNi : (W : Int) * (H : Int) = (N : Int) := by rw [← hN]; simp
  rw [hNi] at b3
  rw [hN] at hlen
  have HRN := hide (readD_rn (s := s.data.toList) (kind := kind) (xs := xs) hN)
  have HRS := hide (fun pos zs => readD_rs (s := s.data.toList) (kind := kind) (xs := xs) (zs := zs) (pos := pos) hN (by rw [len_data]; exact hlen))
  have HRE := hide (show readDE s.data.toList W H kind xs = if (readD s.data.toList W H kind xs).isSome = true then 0 else 1 by rw [readDE, if_pos ⟨hW, hH⟩, if_pos hk, if_pos hE])
  have HN := hide hN
  clear hN
  have hle2 : s.size ≤ 15361 := by omega
  have HV := hide hv; clear hv
  have HE := hide hE
  have HOK := hide hok
  have hmb : decide (((N : Int) * 30 + 7) / 8 < (s.size : Int)) = false := by simp; omega
  clear hok
  go_enter Try.func49, Try.ntmps49
  go_wp2_with fail
  have R0 := heap_alloc_new w (Obj.cells #[.int .i64 0, .int .i64 0, .slice none 0 0] 57)
  have HB0 := hide (bel_alloc w (Obj.cells #[.int .i64 0, .int .i64 0, .slice none 0 0] 57))
  have hlt0 : w.heap.size < (w.alloc (Obj.cells #[.int .i64 0, .int .i64 0, .slice none 0 0] 57)).heap.size := by simp
  generalize w.alloc (Obj.cells #[.int .i64 0, .int .i64 0, .slice none 0 0] 57) = w0 at *
  refine (side_any _ _).mono ?_
  rintro e w1 ⟨rfl, hb1⟩
  rw [hW]
  go_wp2_with fail
  refine (side_any _ _).mono ?_
  rintro e w2 ⟨rfl, hb2⟩
  rw [hH]
  go_wp2_with (go_at_call 78; refine (isKind_any _ _).mono ?_; rintro e wx ⟨rfl, rfl⟩; rw [hk])
  have HB2 := hide (bel_trans hb1 hb2)
  refine (words_walk _ _ _ ((HV.out.below HB0.out (Nat.le_refl _)).below HB2.out (Nat.le_refl _)) HE.out).mono ?_
  rintro e w3 ⟨r, rfl, hr, hb3⟩
  have HR := hide hr
  have HB3 := hide (bel_trans HB2.out hb3)
  clear hr hb1 hb2 hb3 HB2
  go_wp2_with (go_at_call 91; refine (mostBytes_any _ (by omega) (by omega) _).mono ?_; rintro e wx ⟨rfl, rfl⟩)
  refine (new_any _ _ _ HR.out (by rw [wordsOf_length]; exact hl1) (by rw [wordsOf_length]; exact hl2) (words15 xs HOK.out)).mono ?_
  rintro e w4 ⟨cv, bm, nn, rfl, hcv, hbm, hb4⟩
  have HBM := hide hbm
  obtain ⟨co, cc, rfl, hx1, hx2⟩ := hcv
  have HB4 := hide (bel_trans HB3.out hb4)
  clear hbm hx1 hx2 hb4 HB3 HR
  go_wp2_with fail
  have hKb := bel_alloc w4 (Obj.cells #[.slice co (wordsOf xs).length cc, .map (some bm)] 98)
  have hK := heap_alloc_new w4 (Obj.cells #[.slice co (wordsOf xs).length cc, .map (some bm)] 98)
  have hKs : (w4.alloc (Obj.cells #[.slice co (wordsOf xs).length cc, .map (some bm)] 98)).heap.size = w4.heap.size + 1 := by simp
  generalize w4.alloc (Obj.cells #[.slice co (wordsOf xs).length cc, .map (some bm)] 98) = V0 at *
  refine (bits_any s (by omega) _).mono ?_
  rintro e w5 ⟨rfl, hb5⟩
  have hbl : (rowOf s.data.toList).length ≤ 122888 := by rw [rowOf_length, len_data]; omega
  have hbm : allB (rowOf s.data.toList) = true := rowOf_allB _
  have HDL := hide (rfl : s.data.toList = s.data.toList)
  have hs5 := hb5.size
  have h45 : w4.heap.size < w5.heap.size := by omega
  have h05 : w.heap.size < w5.heap.size := by have := HB4.out.size; omega
  have HB5 := hide (bel_trans (bel_trans HB4.out hKb) hb5)
  have HBK := hide ((HBM.out.below hKb (Nat.le_refl _)).below hb5 (Nat.le_refl _))
  have hK5 : w5.heap[w4.heap.size]? = some (.cells #[.slice co (wordsOf xs).length cc, .map (some bm)] 98 (0, 0)) := by rw [hb5.block _ (by omega)]; exact hK
  have HK0 := hide (show w5.cell? ⟨w4.heap.size, 0, none⟩ = some (.slice co (wordsOf xs).length cc) by rw [Lib.cell_of_heap hK5]; rfl)
  have HK1 := hide (show w5.cell? ⟨w4.heap.size, 1, none⟩ = some (.map (some bm)) by rw [Lib.cell_of_heap hK5]; rfl)
  have HR5 := hide (show w5.heap[w.heap.size]? = some (.cells #[.int .i64 0, .int .i64 0, .slice none 0 0] 57 (0, 0)) by rw [HB5.out.block _ hlt0]; exact R0)
  have HBK : Hid (BookMap w5 bm nn (bookOf xs)) := HBK
  have HFL := hide (bookOf_short xs HOK.out)
  have HCL := hide (nx_cls xs HE.out)
  have HDR := hide (show ∀ p d n, nxD (bookOf xs) ((rowOf s.data.toList).drop p) = some (d, n) → -32768 < d ∧ d ≤ 32768 from fun p d n h => by
    have := nxD_some (wordsOf xs) (by rw [wordsOf_length]; exact hl2) _ (allB_drop (rowOf_allB s.data.toList) p) (nx_front xs HE.out _) d n h
    exact ⟨this.2.2.1, this.2.2.2.1⟩)
  clear hKb hK hKs hb5 hK5 HBM R0 HB4 hs5
  generalize hbf : bookOf xs = f at *
  have HBF := hide hbf; clear hbf
  generalize hbb : rowOf s.data.toList = b at *
  have HBB := hide hbb; clear hbb
  go_wp2_with fail
  refine (taker_any b (by omega) w5).mono ?_
  rintro e w6 ⟨ba, bb, rfl, ht6, hwa, hwb, hb6⟩
  have HT6 := hide ht6
  have hla := HT6.out.lt
  have h56 := hb6.size
  clear ht6
  go_wp2_with (at_make; refine wpList_make_full _ rfl _ _ 35 rfl w6.heap.size 3 i0 (.int .i64 0) 1 Try.underlying35 hi hz0 hz1 .i64 .i64 _ _ N rfl rfl rfl rfl (by rw [hz2]; omega) (by unfold maxLen; omega) (Nat.le_refl _) ?_; intro w7 hown hgr)
  have h67 : w6.heap.size < w7.heap.size := (hown.lt w6.heap.size rfl).2
  have HI := hide (show TakerAt (w7.alloc (Obj.cells #[.int .i64 W, .int .i64 H, .slice (some ⟨w6.heap.size, 0, none⟩) N N] 57)) ba bb b 0 ∧ Below w5.heap.size w5 (w7.alloc (Obj.cells #[.int .i64 W, .int .i64 H, .slice (some ⟨w6.heap.size, 0, none⟩) N N] 57)) from
    ⟨TakerAt.below (⟨by rw [hgr.block ba hla.1 (by simp)]; exact HT6.out.1, by rw [hgr.block bb hla.2 (by simp)]; exact HT6.out.2.1, HT6.out.2.2⟩ : TakerAt w7 ba bb b 0) (bel_alloc _ _), (hb6.grown hgr hb6.size (by simp)).alloc (by omega) _⟩)
  have HP0 := hide (heap_alloc_new w7 (Obj.cells #[.int .i64 W, .int .i64 H, .slice (some ⟨w6.heap.size, 0, none⟩) N N] 57))
  have hown2 := hown.alloc (Obj.cells #[.int .i64 W, .int .i64 H, .slice (some ⟨w6.heap.size, 0, none⟩) N N] 57)
  rw [← zRow_start] at hown2
  have hPs : w7.heap.size < (w7.alloc (Obj.cells #[.int .i64 W, .int .i64 H, .slice (some ⟨w6.heap.size, 0, none⟩) N N] 57)).heap.size := by simp
  generalize w7.alloc (Obj.cells #[.int .i64 W, .int .i64 H, .slice (some ⟨w6.heap.size, 0, none⟩) N N] 57) = W8 at *
  clear hown hgr HT6
  generalize w7.heap.size = PB at *
  go_loopw [69] (fun i wr => ∃ (k pos : Nat) (zs : List Int), k ≤ N ∧ i = .int .i64 k ∧ zs.length = k ∧ Hid (rdD f b W kind k = some (pos, zs)) ∧ Hid (TakerAt wr ba bb b pos) ∧ wr.ownsRow w6.heap.size 3 1 (.slice (some ⟨w6.heap.size, 0, none⟩) N N) N (zRow zs N) ∧ Hid (wr.heap[PB]? = some (.cells #[.int .i64 W, .int .i64 H, .slice (some ⟨w6.heap.size, 0, none⟩) N N] 57 (0, 0))) ∧ Hid (Below w5.heap.size w5 wr) ∧ PB < wr.heap.size)
    (fun i _ => N - (intOf i).toNat)
  case atStart => exact ⟨0, 0, [], Nat.zero_le _, rfl, rfl, rfl, HI.out.1, hown2, HP0, HI.out.2, hPs⟩
  case round =>
    obtain ⟨k, pos, zs, hk, rfl, hzl, HRK, HTK, ho, HPB, HBL, hPl⟩ := hrel
    clear hown2 HI HP0 hPs
    have hsz := HBL.out.size
    by_cases hlt : k < N
    · have hd : decide ((k : Int) < (N : Int)) = true := by simp; omega
      have c2 := (HBL.out.cell (p := ⟨w4.heap.size, 0, none⟩) h45).trans HK0.out
      have c3 := (HBL.out.cell (p := ⟨w4.heap.size, 1, none⟩) h45).trans HK1.out
      have HBW := hide (HBK.out.below HBL.out (Nat.le_refl _))
      go_wp2_with fail
      refine (nextD_any co _ cc bm nn f ba bb b pos _ HBW.out HFL.out HTK.out hbm (HCL.out _)).mono ?_
      rintro e w9 ⟨hsome, hnone, hg9⟩
      have HB9 := hide (HBL.out.grown hg9 hsz (fun j hj => by cases hj; exact hwa))
      cases hnx : nxD f (b.drop pos) with
      | none =>
        obtain rfl := hnone hnx
        have HRDN := hide (show readD s.data.toList W H kind xs = none from HRN.out (by
          refine rdD_none (k := k + 1) hlt ?_
          rw [rdD, HRK.out]; simp only [hnx]))
        have HNE := hide (show readDE s.data.toList W H kind xs = 1 by rw [HRE.out, HRDN.out]; rfl)
        have hR9 : w9.heap[w.heap.size]? = some (.cells #[.int .i64 0, .int .i64 0, .slice none 0 0] 57 (0, 0)) := by rw [HB9.out.block _ h05]; exact HR5.out
        have q0 : w9.cell? ⟨w.heap.size, 0, none⟩ = some (.int .i64 0) := by rw [Lib.cell_of_heap hR9]; rfl
        have q1 : w9.cell? ⟨w.heap.size, 1, none⟩ = some (.int .i64 0) := by rw [Lib.cell_of_heap hR9]; rfl
        have q2 : w9.cell? ⟨w.heap.size, 2, none⟩ = some (.slice none 0 0) := by rw [Lib.cell_of_heap hR9]; rfl
        have f0 := Lib.frozen_of_heap hR9 0
        have f1 := Lib.frozen_of_heap hR9 1
        have f2 := Lib.frozen_of_heap hR9 2
        clear hsome hnone hg9 hnx
        go_wp2
        refine bodyPost_ret (v := .tuple #[.agg #[.int .i64 0, .int .i64 0, .slice none 0 0], .int .i64 1]) (by simp [results, Try.results49, go_sem, q0, q1, q2]) rfl ⟨.slice none 0 0, ?_, ?_, ?_⟩
        · rw [readDW, readDH, HNE.out]; rfl
        · rw [readDZ, HNE.out]; exact IsInts.nil _
        · exact (((HB0.out.trans ((HB5.out.trans (HB9.out.mono HB5.out.size)).mono HB0.out.size)).setCell (p := ⟨w.heap.size, 0, none⟩) (Nat.le_refl _) _).setCell (p := ⟨w.heap.size, 1, none⟩) (Nat.le_refl _) _).setCell (p := ⟨w.heap.size, 2, none⟩) (Nat.le_refl _) _
      | some q =>
        obtain ⟨D, m⟩ := q
        obtain ⟨rfl, ht9⟩ := hsome D m hnx
        have HT9 := hide ht9
        obtain ⟨hzs1, hzs2⟩ := rdD_len HRK.out
        have HRK2 := hide (show rdD f b W kind (k + 1) = some (pos + m, zs ++ [(gAt zs W kind k + D) % 65536]) by rw [rdD, HRK.out]; simp only [hnx])
        have ho9 : w9.ownsRow w6.heap.size 3 1 (.slice (some ⟨w6.heap.size, 0, none⟩) N N) N (zRow zs N) := ho.kept hg9 (.inr (by simp only [Value.ownBlock]; intro h; simp only [Option.some.injEq] at h; omega))
        have hs9 := hg9.size
        have hP9 : w9.heap[PB]? = some (.cells #[.int .i64 W, .int .i64 H, .slice (some ⟨w6.heap.size, 0, none⟩) N N] 57 (0, 0)) := by rw [hg9.block PB hPl (by simp; omega)]; exact HPB.out
        clear hsome hnone ht9 HTK ho HPB HBL hg9 HBW c2 c3
        have hDr := HDR.out pos D m hnx
        clear hnx
        have HIN9 := hide (show IsInts w9 (.slice (some ⟨w6.heap.size, 0, none⟩) N N) (zs ++ List.replicate (N - zs.length) 0) by
          have hlp : (zs ++ List.replicate (N - zs.length) 0).length = N := by rw [List.length_append, List.length_replicate]; omega
          refine IsInts.own (base := w6.heap.size) ?_ (by rw [hlp]; omega)
          rw [hlp, ← zRow_ints]; exact ho9)
        have hgp : gAt (zs ++ List.replicate (N - zs.length) 0) W kind k = gAt zs W kind k := gAt_pre (by omega) fun j hj => by simp [List.getD, List.getElem?_append_left (show j < zs.length by omega)]
        have hgr := gAt_range zs W kind k hzs2
        have hw1 : ¬ (W = 0) := by omega
        have hw2 : ¬ ((W : Int) = 0) := by omega
        have hqb : k / W ≤ 4096 := Nat.le_trans (Nat.div_le_self k W) (by omega)
        have HREM := hide (show (k : Int) % (W : Int) = ((k % W : Nat) : Int) from rfl)
        have HQUO := hide (show IntKind.i64.wrap ((k : Int) / (W : Int)) = ((k / W : Nat) : Int) by rw [show (k : Int) / (W : Int) = ((k / W : Nat) : Int) from rfl]; generalize k / W = q at hqb ⊢; exact IntWalk.i64_in _ (by omega))
        have HGU := hide (show ∀ w', Below w9.heap.size w9 w' → Calls Try.prog 79 #[.agg #[.int .i64 W, .int .i64 H, .slice (some ⟨w6.heap.size, 0, none⟩) N N], .int .i64 kind, .int .i64 ((k % W : Nat) : Int), .int .i64 ((k / W : Nat) : Int)] w' fun e w'' => e = .returned (.int .i64 (gAt zs W kind k)) ∧ Below w9.heap.size w9 w'' from fun w' h => by
          have hlp : (zs ++ List.replicate (N - zs.length) 0).length = N := by rw [List.length_append, List.length_replicate]; omega
          refine (guess_any _ (zs ++ List.replicate (N - zs.length) 0) W _ _ H kind k w' (HIN9.out.below h (Nat.le_refl _)) (by omega) (by omega) (by rw [hlp]; exact hlt) (by rw [hlp]; omega) (pad_ok _ _ hzs2) rfl rfl).mono fun e w'' h2 => ⟨?_, h.trans (h2.2.mono h.size)⟩
          rw [← hgp]; exact h2.1)
        clear hgp hqb
        generalize gAt zs W kind k = G at *
        have hgd : IntKind.i64.wrap (G + D) = G + D := IntWalk.i64_in _ (by omega)
        have hand := andTop (G + D)
        have p0 : w9.cell? ⟨PB, 0, none⟩ = some (.int .i64 W) := by rw [Lib.cell_of_heap hP9]; rfl
        have p1 : w9.cell? ⟨PB, 1, none⟩ = some (.int .i64 H) := by rw [Lib.cell_of_heap hP9]; rfl
        have p2 : w9.cell? ⟨PB, 2, none⟩ = some (.slice (some ⟨w6.heap.size, 0, none⟩) N N) := by rw [Lib.cell_of_heap hP9]; rfl
        have hPl9 : PB < w9.heap.size := by omega
        have hne6 : PB ≠ w6.heap.size := by omega
        have c9 := ho9.cellAt k (by omega)
        rw [zRow_getk zs N k hzl hlt] at c9
        have f9 := ho9.frozenAt k
        have HCX := hide (show ∀ w', Below w9.heap.size w9 w' → w'.cell? ⟨w6.heap.size, k, none⟩ = some (.int .i64 0) ∧ w'.frozen? ⟨w6.heap.size, k, none⟩ = false from fun w' h =>
          ⟨(h.cell (p := ⟨w6.heap.size, k, none⟩) (by show w6.heap.size < _; omega)).trans c9, (World.frozen?_of_block (h.block w6.heap.size (by omega))).trans f9⟩)
        have HS := hide (show ∀ w', Below w9.heap.size w9 w' → w'.cell? ⟨PB, 0, none⟩ = some (.int .i64 W) ∧ w'.cell? ⟨PB, 1, none⟩ = some (.int .i64 H) ∧ w'.cell? ⟨PB, 2, none⟩ = some (.slice (some ⟨w6.heap.size, 0, none⟩) N N) from fun w' h =>
          ⟨(h.cell (p := ⟨PB, 0, none⟩) hPl9).trans p0, (h.cell (p := ⟨PB, 1, none⟩) hPl9).trans p1, (h.cell (p := ⟨PB, 2, none⟩) hPl9).trans p2⟩)
        have HS2 := hide (show ∀ w' u, Below w9.heap.size w9 w' → (w'.setCell ⟨w6.heap.size, k, none⟩ u).cell? ⟨PB, 0, none⟩ = some (.int .i64 W) ∧ (w'.setCell ⟨w6.heap.size, k, none⟩ u).cell? ⟨PB, 1, none⟩ = some (.int .i64 H) ∧ (w'.setCell ⟨w6.heap.size, k, none⟩ u).cell? ⟨PB, 2, none⟩ = some (.slice (some ⟨w6.heap.size, 0, none⟩) N N) from fun w' u h => by
          obtain ⟨t0, t1, t2⟩ := HS.out w' h
          have hbk := Below.heap_setCell w' ⟨w6.heap.size, k, none⟩ u PB hne6
          exact ⟨(World.cell?_of_block (a := ⟨PB, 0, none⟩) hbk).trans t0, (World.cell?_of_block (a := ⟨PB, 1, none⟩) hbk).trans t1, (World.cell?_of_block (a := ⟨PB, 2, none⟩) hbk).trans t2⟩)
        have hk0 : (0 : Int) ≤ (k : Int) := by omega
        have hkN : (k : Int) < (N : Int) := by omega
        have hrefl := Below.refl w9.heap.size w9
        have hdrew : Below w9.heap.size w9 w9.drew := (Below.refl _ _).drew
        go_wp2_with fail
        go_region_held3 (fun w' => w'.cell? ⟨PB, 0, none⟩ = some (.int .i64 W) ∧ w'.cell? ⟨PB, 1, none⟩ = some (.int .i64 H) ∧ w'.cell? ⟨PB, 2, none⟩ = some (.slice (some ⟨w6.heap.size, 0, none⟩) N N))
          (first | (refine HS.out _ ?_; assumption) | (refine HS2.out _ _ ?_; assumption) | go_keep)
          (first | (go_at_call 79; (try rw [HREM.out]); (try rw [HQUO.out]); refine (HGU.out _ ?_).mono ?_; assumption; rintro e wx ⟨rfl, hNB⟩; obtain ⟨cx, fx⟩ := HCX.out _ hNB))
        have hox := ((ownsRow_below ho9 hNB).stored k (.int .i64 ((G + D) % 65536))).1
        rw [zRow_setk zs N k _ hzl hlt] at hox
        have HTX := hide (show TakerAt (wx.setCell ⟨w6.heap.size, k, none⟩ (.int .i64 ((G + D) % 65536))) ba bb b (pos + m) by
          have h := HT9.out.below hNB
          exact ⟨by rw [Below.heap_setCell _ _ _ _ (by show ba ≠ w6.heap.size; omega)]; exact h.1, by rw [Below.heap_setCell _ _ _ _ (by show bb ≠ w6.heap.size; omega)]; exact h.2.1, h.2.2⟩)
        have HPX := hide (show (wx.setCell ⟨w6.heap.size, k, none⟩ (.int .i64 ((G + D) % 65536))).heap[PB]? = some (.cells #[.int .i64 W, .int .i64 H, .slice (some ⟨w6.heap.size, 0, none⟩) N N] 57 (0, 0)) by
          rw [Below.heap_setCell _ _ _ _ hne6, hNB.block PB hPl9]; exact hP9)
        have HBX := hide (show Below w5.heap.size w5 (wx.setCell ⟨w6.heap.size, k, none⟩ (.int .i64 ((G + D) % 65536))) from (HB9.out.trans (hNB.mono HB9.out.size)).setCell (p := ⟨w6.heap.size, k, none⟩) (by show w5.heap.size ≤ w6.heap.size; omega) _)
        have hszx : PB < (wx.setCell ⟨w6.heap.size, k, none⟩ (.int .i64 ((G + D) % 65536))).heap.size := by have := hNB.size; simp [World.setCell]; omega
        have hzl2 : (zs ++ [(G + D) % 65536]).length = k + 1 := by simp [hzl]
        generalize wx.setCell ⟨w6.heap.size, k, none⟩ (.int .i64 ((G + D) % 65536)) = WX at *
        clear hrefl hdrew cx fx hNB HS HS2 HCX HGU c9 f9 p0 p1 p2 hand hgd ho9
        go_wp2
        go_roundw
        case rel => exact ⟨k + 1, pos + m, zs ++ [(G + D) % 65536], by omega, by go_num, hzl2, HRK2, HTX, hox, HPX, HBX, hszx⟩
        case measure => simp [intOf]; omega
    · obtain rfl : k = N := by omega
      have hd : decide ((k : Int) < (k : Int)) = false := by simp
      have HRSZ := hide (HRS.out pos zs HRK.out)
      have hRr : wr.heap[w.heap.size]? = some (.cells #[.int .i64 0, .int .i64 0, .slice none 0 0] 57 (0, 0)) := by rw [HBL.out.block _ h05]; exact HR5.out
      have q0 : wr.cell? ⟨w.heap.size, 0, none⟩ = some (.int .i64 0) := by rw [Lib.cell_of_heap hRr]; rfl
      have q1 : wr.cell? ⟨w.heap.size, 1, none⟩ = some (.int .i64 0) := by rw [Lib.cell_of_heap hRr]; rfl
      have q2 : wr.cell? ⟨w.heap.size, 2, none⟩ = some (.slice none 0 0) := by rw [Lib.cell_of_heap hRr]; rfl
      have f0 := Lib.frozen_of_heap hRr 0
      have f1 := Lib.frozen_of_heap hRr 1
      have f2 := Lib.frozen_of_heap hRr 2
      have p0 : wr.cell? ⟨PB, 0, none⟩ = some (.int .i64 W) := by rw [Lib.cell_of_heap HPB.out]; rfl
      have p1 : wr.cell? ⟨PB, 1, none⟩ = some (.int .i64 H) := by rw [Lib.cell_of_heap HPB.out]; rfl
      have p2 : wr.cell? ⟨PB, 2, none⟩ = some (.slice (some ⟨w6.heap.size, 0, none⟩) k k) := by rw [Lib.cell_of_heap HPB.out]; rfl
      have HWR := hide (HB0.out.trans ((HB5.out.trans (HBL.out.mono HB5.out.size)).mono HB0.out.size))
      have hdl : (b.drop pos).length ≤ 281474976710656 := by rw [List.length_drop]; omega
      have hR6 : w.heap.size < w6.heap.size := by omega
      have hRP : w.heap.size ≠ PB := by omega
      cases hf : fillOk (b.drop pos) with
      | false =>
        have HNE := hide (show readDE s.data.toList W H kind xs = 1 by rw [HRE.out, HRSZ.out, hf]; rfl)
        clear ho
        go_wp2_with (first | (go_at_call 114; refine (left_any ba bb b _ _ HTK.out).mono ?_; rintro e wx ⟨rfl, rfl⟩) | (go_at_call 93; refine (isFill_any _ hdl _).mono ?_; rintro e wx ⟨rfl, rfl⟩; rw [hf]))
        refine bodyPost_ret (v := .tuple #[.agg #[.int .i64 0, .int .i64 0, .slice none 0 0], .int .i64 1]) (by simp [results, Try.results49, go_sem, q0, q1, q2]) rfl ⟨.slice none 0 0, ?_, ?_, ?_⟩
        · rw [readDW, readDH, HNE.out]; rfl
        · rw [readDZ, HNE.out]; exact IsInts.nil _
        · exact ((HWR.out.setCell (p := ⟨w.heap.size, 0, none⟩) (Nat.le_refl _) _).setCell (p := ⟨w.heap.size, 1, none⟩) (Nat.le_refl _) _).setCell (p := ⟨w.heap.size, 2, none⟩) (Nat.le_refl _) _
      | true =>
        have HNS := hide (show readD s.data.toList W H kind xs = some zs by rw [HRSZ.out, hf]; rfl)
        have HNE := hide (show readDE s.data.toList W H kind xs = 0 by rw [HRE.out, HNS.out]; rfl)
        have HOW := hide (((ownsRow_setCell_below (ownsRow_setCell_below (ownsRow_setCell_below ho (a := ⟨w.heap.size, 0, none⟩) hR6 (.int .i64 W)) (a := ⟨w.heap.size, 1, none⟩) hR6 (.int .i64 H)) (a := ⟨w.heap.size, 2, none⟩) hR6 (.slice (some ⟨w6.heap.size, 0, none⟩) k k))))
        clear ho
        go_wp2_with (first | (go_at_call 114; refine (left_any ba bb b _ _ HTK.out).mono ?_; rintro e wx ⟨rfl, rfl⟩) | (go_at_call 93; refine (isFill_any _ hdl _).mono ?_; rintro e wx ⟨rfl, rfl⟩; rw [hf]))
        refine bodyPost_ret (v := .tuple #[.agg #[.int .i64 W, .int .i64 H, .slice (some ⟨w6.heap.size, 0, none⟩) k k], .int .i64 0]) (by simp [results, Try.results49, go_sem, q0, q1, q2]) rfl ⟨.slice (some ⟨w6.heap.size, 0, none⟩) k k, ?_, ?_, ?_⟩
        · rw [readDW, readDH, HNE.out]; rfl
        · rw [readDZ, HNE.out, if_pos rfl, HNS.out]
          have h := HOW.out
          rw [← hzl, zRow_end] at h
          rw [← hzl]
          show IsInts _ _ zs
          exact IsInts.own h (by omega)
        · exact ((HWR.out.setCell (p := ⟨w.heap.size, 0, none⟩) (Nat.le_refl _) _).setCell (p := ⟨w.heap.size, 1, none⟩) (Nat.le_refl _) _).setCell (p := ⟨w.heap.size, 2, none⟩) (Nat.le_refl _) _

set_option maxRecDepth 100000 in
set_option maxHeartbeats 800000 in
theorem readD_any (s : ByteArray) (W H kind : Int) (v : Value) (xs : List Int) (w : World) (hv : IsInts w v xs) :
    Calls Try.prog 49 #[.string s, .int .i64 W, .int .i64 H, .int .i64 kind, v] w fun e w' => ∃ r, e = .returned (.tuple #[.agg #[.int .i64 (readDW s.data.toList W H kind xs), .int .i64 (readDH s.data.toList W H kind xs), r], .int .i64 (readDE s.data.toList W H kind xs)]) ∧ IsInts w' r (readDZ s.data.toList W H kind xs) ∧ Below w.heap.size w w' := by

  by_cases hW : sideOk W = true
  · by_cases hH : sideOk H = true
    · by_cases hk : kindOk kind = true
      · by_cases hE : checkE xs = 0
        · have b1 : 1 ≤ W ∧ W ≤ 64 := by simpa [sideOk] using hW
          have b2 : 1 ≤ H ∧ H ≤ 64 := by simpa [sideOk] using hH
          obtain ⟨WN, rfl⟩ := Int.eq_ofNat_of_zero_le (show 0 ≤ W by omega)
          obtain ⟨HN, rfl⟩ := Int.eq_ofNat_of_zero_le (show 0 ≤ H by omega)
          by_cases hl : s.size ≤ (WN * HN * 30 + 7) / 8
          · exact readD_walk s WN HN kind v xs w hv hW hH hk hE hl
          · have HNE := hide (show readDE s.data.toList WN HN kind xs = 1 by
              have hn : readD s.data.toList WN HN kind xs = none := by rw [readD, Int.toNat_natCast, Int.toNat_natCast]; exact if_neg (by rw [len_data]; exact hl)
              rw [readDE, if_pos ⟨hW, hH⟩, if_pos hk, if_pos hE, hn]; rfl)
            have b3 := side_mul b1 b2
            obtain ⟨N, hN⟩ : ∃ N, WN * HN = N := ⟨_, rfl⟩
            have hNi : (WN : Int) * (HN : Int) = (N : Int) := by rw [← hN]; simp
            rw [hNi] at b3
            rw [hN] at hl
            clear hN
            have hmb : decide (((N : Int) * 30 + 7) / 8 < (s.size : Int)) = true := by simp; omega
            have HV := hide hv
            have HE := hide hE
            clear hl hv hE
            go_enter Try.func49, Try.ntmps49
            go_wp2_with fail
            have R0 := heap_alloc_new w (Obj.cells #[.int .i64 0, .int .i64 0, .slice none 0 0] 57)
            have HB0 := hide (bel_alloc w (Obj.cells #[.int .i64 0, .int .i64 0, .slice none 0 0] 57))
            have hlt0 : w.heap.size < (w.alloc (Obj.cells #[.int .i64 0, .int .i64 0, .slice none 0 0] 57)).heap.size := by simp
            generalize w.alloc (Obj.cells #[.int .i64 0, .int .i64 0, .slice none 0 0] 57) = w0 at *
            refine (side_any _ _).mono ?_
            rintro e w1 ⟨rfl, hb1⟩
            rw [hW]
            go_wp2_with fail
            refine (side_any _ _).mono ?_
            rintro e w2 ⟨rfl, hb2⟩
            rw [hH]
            go_wp2_with (go_at_call 78; refine (isKind_any _ _).mono ?_; rintro e wx ⟨rfl, rfl⟩; rw [hk])
            have HB2 := hide (bel_trans hb1 hb2)
            refine (words_walk _ _ _ ((HV.out.below HB0.out (Nat.le_refl _)).below HB2.out (Nat.le_refl _)) HE.out).mono ?_
            rintro e WE ⟨r, rfl, hr, hb3⟩
            have HBE := hide (bel_trans HB2.out hb3)
            clear hr hb1 hb2 hb3 HB2
            have HWR := hide (bel_trans HB0.out HBE.out)
            have hRr : WE.heap[w.heap.size]? = some (.cells #[.int .i64 0, .int .i64 0, .slice none 0 0] 57 (0, 0)) := by rw [HBE.out.block _ hlt0]; exact R0
            have q0 : WE.cell? ⟨w.heap.size, 0, none⟩ = some (.int .i64 0) := by rw [Lib.cell_of_heap hRr]; rfl
            have q1 : WE.cell? ⟨w.heap.size, 1, none⟩ = some (.int .i64 0) := by rw [Lib.cell_of_heap hRr]; rfl
            have q2 : WE.cell? ⟨w.heap.size, 2, none⟩ = some (.slice none 0 0) := by rw [Lib.cell_of_heap hRr]; rfl
            have f0 := Lib.frozen_of_heap hRr 0
            have f1 := Lib.frozen_of_heap hRr 1
            have f2 := Lib.frozen_of_heap hRr 2
            go_wp2_with (go_at_call 91; refine (mostBytes_any _ (by omega) (by omega) _).mono ?_; rintro e wx ⟨rfl, rfl⟩)
            refine bodyPost_ret (v := .tuple #[.agg #[.int .i64 0, .int .i64 0, .slice none 0 0], .int .i64 1]) (by simp [results, Try.results49, go_sem, q0, q1, q2]) rfl ⟨.slice none 0 0, ?_, ?_, ?_⟩
            · rw [readDW, readDH, HNE.out]; simp
            · rw [readDZ, HNE.out]; exact IsInts.nil _
            · exact ((HWR.out.setCell (p := ⟨w.heap.size, 0, none⟩) (Nat.le_refl _) _).setCell (p := ⟨w.heap.size, 1, none⟩) (Nat.le_refl _) _).setCell (p := ⟨w.heap.size, 2, none⟩) (Nat.le_refl _) _
        · have HNE := hide (show readDE s.data.toList W H kind xs = checkE xs by rw [readDE, if_pos ⟨hW, hH⟩, if_pos hk, if_neg hE])
          have hne : (checkE xs != 0) = true := by simpa using hE
          have HNZ := hide hE
          have HV := hide hv
          clear hE hv
          go_enter Try.func49, Try.ntmps49
          go_wp2_with fail
          have R0 := heap_alloc_new w (Obj.cells #[.int .i64 0, .int .i64 0, .slice none 0 0] 57)
          have HB0 := hide (bel_alloc w (Obj.cells #[.int .i64 0, .int .i64 0, .slice none 0 0] 57))
          have hlt0 : w.heap.size < (w.alloc (Obj.cells #[.int .i64 0, .int .i64 0, .slice none 0 0] 57)).heap.size := by simp
          generalize w.alloc (Obj.cells #[.int .i64 0, .int .i64 0, .slice none 0 0] 57) = w0 at *
          refine (side_any _ _).mono ?_
          rintro e w1 ⟨rfl, hb1⟩
          rw [hW]
          go_wp2_with fail
          refine (side_any _ _).mono ?_
          rintro e w2 ⟨rfl, hb2⟩
          rw [hH]
          go_wp2_with (go_at_call 78; refine (isKind_any _ _).mono ?_; rintro e wx ⟨rfl, rfl⟩; rw [hk])
          have HB2 := hide (bel_trans hb1 hb2)
          refine (words_any _ _ _ ((HV.out.below HB0.out (Nat.le_refl _)).below HB2.out (Nat.le_refl _))).mono ?_
          rintro e WE ⟨r, rfl, hr, hb3⟩
          have HBE := hide (bel_trans HB2.out hb3)
          clear hr hb1 hb2 hb3 HB2
          have HWR := hide (bel_trans HB0.out HBE.out)
          have hRr : WE.heap[w.heap.size]? = some (.cells #[.int .i64 0, .int .i64 0, .slice none 0 0] 57 (0, 0)) := by rw [HBE.out.block _ hlt0]; exact R0
          have q0 : WE.cell? ⟨w.heap.size, 0, none⟩ = some (.int .i64 0) := by rw [Lib.cell_of_heap hRr]; rfl
          have q1 : WE.cell? ⟨w.heap.size, 1, none⟩ = some (.int .i64 0) := by rw [Lib.cell_of_heap hRr]; rfl
          have q2 : WE.cell? ⟨w.heap.size, 2, none⟩ = some (.slice none 0 0) := by rw [Lib.cell_of_heap hRr]; rfl
          have f0 := Lib.frozen_of_heap hRr 0
          have f1 := Lib.frozen_of_heap hRr 1
          have f2 := Lib.frozen_of_heap hRr 2
          go_wp2
          refine bodyPost_ret (v := .tuple #[.agg #[.int .i64 0, .int .i64 0, .slice none 0 0], .int .i64 (checkE xs)]) (by simp [results, Try.results49, go_sem, q0, q1, q2]) rfl ⟨.slice none 0 0, ?_, ?_, ?_⟩
          · rw [readDW, readDH, HNE.out, if_neg HNZ.out, if_neg HNZ.out]
          · rw [readDZ, HNE.out, if_neg HNZ.out]; exact IsInts.nil _
          · exact ((HWR.out.setCell (p := ⟨w.heap.size, 0, none⟩) (Nat.le_refl _) _).setCell (p := ⟨w.heap.size, 1, none⟩) (Nat.le_refl _) _).setCell (p := ⟨w.heap.size, 2, none⟩) (Nat.le_refl _) _
      · have HNE := hide (show readDE s.data.toList W H kind xs = 6 by rw [readDE, if_pos ⟨hW, hH⟩, if_neg hk])
        have hk : kindOk kind = false := by simpa using hk
        clear hv
        go_enter Try.func49, Try.ntmps49
        go_wp2_with fail
        have R0 := heap_alloc_new w (Obj.cells #[.int .i64 0, .int .i64 0, .slice none 0 0] 57)
        have HB0 := hide (bel_alloc w (Obj.cells #[.int .i64 0, .int .i64 0, .slice none 0 0] 57))
        have hlt0 : w.heap.size < (w.alloc (Obj.cells #[.int .i64 0, .int .i64 0, .slice none 0 0] 57)).heap.size := by simp
        generalize w.alloc (Obj.cells #[.int .i64 0, .int .i64 0, .slice none 0 0] 57) = w0 at *
        refine (side_any _ _).mono ?_
        rintro e w1 ⟨rfl, hb1⟩
        rw [hW]
        go_wp2_with fail
        refine (side_any _ _).mono ?_
        rintro e WE ⟨rfl, hb2⟩
        rw [hH]
        have HBE := hide (bel_trans hb1 hb2)
        clear hb1 hb2
        have HWR := hide (bel_trans HB0.out HBE.out)
        have hRr : WE.heap[w.heap.size]? = some (.cells #[.int .i64 0, .int .i64 0, .slice none 0 0] 57 (0, 0)) := by rw [HBE.out.block _ hlt0]; exact R0
        have q0 : WE.cell? ⟨w.heap.size, 0, none⟩ = some (.int .i64 0) := by rw [Lib.cell_of_heap hRr]; rfl
        have q1 : WE.cell? ⟨w.heap.size, 1, none⟩ = some (.int .i64 0) := by rw [Lib.cell_of_heap hRr]; rfl
        have q2 : WE.cell? ⟨w.heap.size, 2, none⟩ = some (.slice none 0 0) := by rw [Lib.cell_of_heap hRr]; rfl
        have f0 := Lib.frozen_of_heap hRr 0
        have f1 := Lib.frozen_of_heap hRr 1
        have f2 := Lib.frozen_of_heap hRr 2
        go_wp2_with (go_at_call 78; refine (isKind_any _ _).mono ?_; rintro e wx ⟨rfl, rfl⟩; rw [hk])
        refine bodyPost_ret (v := .tuple #[.agg #[.int .i64 0, .int .i64 0, .slice none 0 0], .int .i64 6]) (by simp [results, Try.results49, go_sem, q0, q1, q2]) rfl ⟨.slice none 0 0, ?_, ?_, ?_⟩
        · rw [readDW, readDH, HNE.out]; simp
        · rw [readDZ, HNE.out]; exact IsInts.nil _
        · exact ((HWR.out.setCell (p := ⟨w.heap.size, 0, none⟩) (Nat.le_refl _) _).setCell (p := ⟨w.heap.size, 1, none⟩) (Nat.le_refl _) _).setCell (p := ⟨w.heap.size, 2, none⟩) (Nat.le_refl _) _
    · have HNE := hide (show readDE s.data.toList W H kind xs = 3 by rw [readDE, if_neg (fun h => hH h.2)])
      have hH : sideOk H = false := by simpa using hH
      clear hv
      go_enter Try.func49, Try.ntmps49
      go_wp2_with fail
      have R0 := heap_alloc_new w (Obj.cells #[.int .i64 0, .int .i64 0, .slice none 0 0] 57)
      have HB0 := hide (bel_alloc w (Obj.cells #[.int .i64 0, .int .i64 0, .slice none 0 0] 57))
      have hlt0 : w.heap.size < (w.alloc (Obj.cells #[.int .i64 0, .int .i64 0, .slice none 0 0] 57)).heap.size := by simp
      generalize w.alloc (Obj.cells #[.int .i64 0, .int .i64 0, .slice none 0 0] 57) = w0 at *
      refine (side_any _ _).mono ?_
      rintro e w1 ⟨rfl, hb1⟩
      rw [hW]
      go_wp2_with fail
      refine (side_any _ _).mono ?_
      rintro e WE ⟨rfl, hb2⟩
      rw [hH]
      have HBE := hide (bel_trans hb1 hb2)
      clear hb1 hb2
      have HWR := hide (bel_trans HB0.out HBE.out)
      have hRr : WE.heap[w.heap.size]? = some (.cells #[.int .i64 0, .int .i64 0, .slice none 0 0] 57 (0, 0)) := by rw [HBE.out.block _ hlt0]; exact R0
      have q0 : WE.cell? ⟨w.heap.size, 0, none⟩ = some (.int .i64 0) := by rw [Lib.cell_of_heap hRr]; rfl
      have q1 : WE.cell? ⟨w.heap.size, 1, none⟩ = some (.int .i64 0) := by rw [Lib.cell_of_heap hRr]; rfl
      have q2 : WE.cell? ⟨w.heap.size, 2, none⟩ = some (.slice none 0 0) := by rw [Lib.cell_of_heap hRr]; rfl
      have f0 := Lib.frozen_of_heap hRr 0
      have f1 := Lib.frozen_of_heap hRr 1
      have f2 := Lib.frozen_of_heap hRr 2
      go_wp2
      refine bodyPost_ret (v := .tuple #[.agg #[.int .i64 0, .int .i64 0, .slice none 0 0], .int .i64 3]) (by simp [results, Try.results49, go_sem, q0, q1, q2]) rfl ⟨.slice none 0 0, ?_, ?_, ?_⟩
      · rw [readDW, readDH, HNE.out]; simp
      · rw [readDZ, HNE.out]; exact IsInts.nil _
      · exact ((HWR.out.setCell (p := ⟨w.heap.size, 0, none⟩) (Nat.le_refl _) _).setCell (p := ⟨w.heap.size, 1, none⟩) (Nat.le_refl _) _).setCell (p := ⟨w.heap.size, 2, none⟩) (Nat.le_refl _) _
  · have HNE := hide (show readDE s.data.toList W H kind xs = 3 by rw [readDE, if_neg (fun h => hW h.1)])
    have hW : sideOk W = false := by simpa using hW
    clear hv
    go_enter Try.func49, Try.ntmps49
    go_wp2_with fail
    have R0 := heap_alloc_new w (Obj.cells #[.int .i64 0, .int .i64 0, .slice none 0 0] 57)
    have HB0 := hide (bel_alloc w (Obj.cells #[.int .i64 0, .int .i64 0, .slice none 0 0] 57))
    have hlt0 : w.heap.size < (w.alloc (Obj.cells #[.int .i64 0, .int .i64 0, .slice none 0 0] 57)).heap.size := by simp
    generalize w.alloc (Obj.cells #[.int .i64 0, .int .i64 0, .slice none 0 0] 57) = w0 at *
    refine (side_any _ _).mono ?_
    rintro e WE ⟨rfl, hb1⟩
    rw [hW]
    have HBE := hide hb1
    clear hb1
    have HWR := hide (bel_trans HB0.out HBE.out)
    have hRr : WE.heap[w.heap.size]? = some (.cells #[.int .i64 0, .int .i64 0, .slice none 0 0] 57 (0, 0)) := by rw [HBE.out.block _ hlt0]; exact R0
    have q0 : WE.cell? ⟨w.heap.size, 0, none⟩ = some (.int .i64 0) := by rw [Lib.cell_of_heap hRr]; rfl
    have q1 : WE.cell? ⟨w.heap.size, 1, none⟩ = some (.int .i64 0) := by rw [Lib.cell_of_heap hRr]; rfl
    have q2 : WE.cell? ⟨w.heap.size, 2, none⟩ = some (.slice none 0 0) := by rw [Lib.cell_of_heap hRr]; rfl
    have f0 := Lib.frozen_of_heap hRr 0
    have f1 := Lib.frozen_of_heap hRr 1
    have f2 := Lib.frozen_of_heap hRr 2
    go_wp2
    refine bodyPost_ret (v := .tuple #[.agg #[.int .i64 0, .int .i64 0, .slice none 0 0], .int .i64 3]) (by simp [results, Try.results49, go_sem, q0, q1, q2]) rfl ⟨.slice none 0 0, ?_, ?_, ?_⟩
    · rw [readDW, readDH, HNE.out]; simp
    · rw [readDZ, HNE.out]; exact IsInts.nil _
    · exact ((HWR.out.setCell (p := ⟨w.heap.size, 0, none⟩) (Nat.le_refl _) _).setCell (p := ⟨w.heap.size, 1, none⟩) (Nat.le_refl _) _).setCell (p := ⟨w.heap.size, 2, none⟩) (Nat.le_refl _) _

end Go.Proofs.Ytolcndchfnifhaa
