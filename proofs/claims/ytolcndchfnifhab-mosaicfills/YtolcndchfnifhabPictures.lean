/- Pictures: whether one is right; the code's way and the reference's; whether two are the same. -/
import Derived.Test.YtolcndchfnifhabPixels
namespace Go.Proofs.Ytolcndchfnifhab
open Go.RowKit

def pxOk (p : Px) : Bool := allIn 0 65535 [p.1, p.2.1, p.2.2]
def pxsOk (ps : List Px) : Bool := ps.all pxOk
def picOk (W H : Int) (ps : List Px) : Bool := sizeOk W H ps.length && pxsOk ps
theorem pxsOk_snoc (ps : List Px) (p : Px) : pxsOk (ps ++ [p]) = (pxsOk ps && pxOk p) := by simp [pxsOk]
theorem pxsOk_false (ps : List Px) (k : Nat) (hk : k < ps.length) (h : pxOk ps[k] = false) : pxsOk ps = false := by
  rw [Bool.eq_false_iff]; intro he
  have := List.all_eq_true.1 he _ (List.getElem_mem hk)
  rw [h] at this; cases this
theorem pxOk_iff (p : Px) : pxOk p = true ↔ (0 ≤ p.1 ∧ p.1 ≤ 65535) ∧ (0 ≤ p.2.1 ∧ p.2.1 ≤ 65535) ∧ (0 ≤ p.2.2 ∧ p.2.2 ≤ 65535) := by simp [pxOk, allIn]
theorem pxsOk_get {ps : List Px} (h : pxsOk ps = true) (k : Nat) (hk : k < ps.length) : (0 ≤ ps[k].1 ∧ ps[k].1 ≤ 65535) ∧ (0 ≤ ps[k].2.1 ∧ ps[k].2.1 ≤ 65535) ∧ (0 ≤ ps[k].2.2 ∧ ps[k].2.2 ≤ 65535) :=
  (pxOk_iff _).1 (List.all_eq_true.1 h _ (List.getElem_mem hk))
theorem picOk_parts {W H : Int} {ps : List Px} (h : picOk W H ps = true) : (1 ≤ W ∧ W ≤ 64) ∧ (1 ≤ H ∧ H ≤ 64) ∧ (ps.length : Int) = W * H ∧ pxsOk ps = true := by
  simp only [picOk, sizeOk, sideOk, Bool.and_eq_true, decide_eq_true_eq] at h
  exact ⟨h.1.1.1, h.1.1.2, h.1.2, h.2⟩

theorem ints3 (w : World) (a b c : Int) : IsInts (w.alloc (.cells #[.int .i64 a, .int .i64 b, .int .i64 c] 3)) (.slice (some ⟨w.heap.size, 0, none⟩) 3 3) [a, b, c] :=
  IsInts.own (base := w.heap.size) (World.ownsRow_lit w #[.int .i64 a, .int .i64 b, .int .i64 c] 3 (Nat.le_refl _) (by decide) (by simp)) (by simp)

theorem px3 {w w' : World} {a b c : Value} {t : TypeId} (hb : Below (w.alloc (.cells #[a, b, c] t)).heap.size (w.alloc (.cells #[a, b, c] t)) w') :
    w'.heap[w.heap.size]? = some (.cells #[a, b, c] t (0, 0)) := by
  rw [hb.block _ (by simp)]; exact heap_alloc_new w _

set_option maxRecDepth 100000 in
set_option maxHeartbeats 800000 in
theorem picture_any (W H : Int) (v : Value) (ps : List Px) (w : World) (hv : IsPix w v ps) :
    Calls Try.prog 68 #[.agg #[.int .i64 W, .int .i64 H, v]] w fun e w' => e = .returned (.bool (picOk W H ps)) ∧ Below w.heap.size w w' := by
  have HV := hide hv
  obtain ⟨ao, ca, rfl, hla, hc⟩ := hv
  by_cases h1 : sizeOk W H ps.length = true
  · have HE := hide (show pxsOk ps = picOk W H ps by rw [picOk, h1]; rfl)
    have hpos : 1 ≤ ps.length := by
      simp only [sizeOk, sideOk, Bool.and_eq_true, decide_eq_true_eq] at h1
      have := side_mul h1.1.1 h1.1.2
      omega
    obtain ⟨bk, off, hao, hbl, hcell⟩ : ∃ b off, ao = some ⟨b, off, none⟩ ∧ b < w.heap.size ∧ ∀ j (h : j < ps.length),
      w.cell? ⟨b, off + j * 3, none⟩ = some (.int .i64 ps[j].1) ∧ w.cell? ⟨b, off + j * 3 + 1, none⟩ = some (.int .i64 ps[j].2.1) ∧ w.cell? ⟨b, off + j * 3 + 2, none⟩ = some (.int .i64 ps[j].2.2) := by
      rcases hc with h | h
      · subst h; simp at hpos
      · exact h
    subst hao
    have HCELL := hide hcell; clear hcell hc
    go_enter Try.func68, Try.ntmps68
    go_wp2_with fail
    refine (size_any _ _ _ _).mono ?_
    rintro e w1 ⟨rfl, hb1⟩
    rw [h1]
    have c2 := (pl3 hb1).2.2
    have hW := bel_trans (bel_alloc w _) hb1
    clear hb1
    go_wp2_with fail
    go_loopw [17] (fun i wr => ∃ k : Nat, k ≤ ps.length ∧ i = .int .i64 k ∧ Hid (pxsOk (ps.take k) = true) ∧ Below w.heap.size w wr) (fun i _ => ps.length - (intOf i).toNat)
    case atStart => exact ⟨0, Nat.zero_le _, rfl, rfl, hW⟩
    case round =>
      clear c2 hW
      obtain ⟨k, hk, rfl, HA, hbel⟩ := hrel
      by_cases hlt : k < ps.length
      · have hd : decide ((k : Int) < (ps.length : Int)) = true := by simp; omega
        have c0 := (hbel.cell (p := ⟨bk, off + k * 3, none⟩) hbl).trans (HCELL.out k hlt).1
        have c1 := (hbel.cell (p := ⟨bk, off + k * 3 + 1, none⟩) hbl).trans (HCELL.out k hlt).2.1
        have c2 := (hbel.cell (p := ⟨bk, off + k * 3 + 2, none⟩) hbl).trans (HCELL.out k hlt).2.2
        go_wp2_with fail
        refine (rWithin_any 0 65535 _ [ps[k].1, ps[k].2.1, ps[k].2.2] _ (by have := ints3 (wr.alloc (Obj.cells #[.int .i64 ps[k].1, .int .i64 ps[k].2.1, .int .i64 ps[k].2.2] 50)) ps[k].1 ps[k].2.1 ps[k].2.2; rw [World.size_alloc] at this; exact this)).mono ?_
        rintro e w2 ⟨rfl, rfl⟩
        have hbel2 := (hbel.alloc hbel.size (Obj.cells #[.int .i64 ps[k].1, .int .i64 ps[k].2.1, .int .i64 ps[k].2.2] 50)).alloc (by have := hbel.size; simp; omega) (Obj.cells #[.int .i64 ps[k].1, .int .i64 ps[k].2.1, .int .i64 ps[k].2.2] 3)
        change Hid _ at HA
        by_cases hx : pxOk ps[k] = true
        · have HT := hide (show pxsOk (ps.take (k + 1)) = true by rw [List.take_succ_eq_append_getElem hlt, pxsOk_snoc, HA.out, hx]; rfl)
          rw [show allIn 0 65535 [ps[k].1, ps[k].2.1, ps[k].2.2] = true from hx]
          clear hx
          go_wp2
          go_roundw
          case rel => exact ⟨k + 1, by omega, by go_num, HT, hbel2⟩
          case measure => simp [intOf]; omega
        · have hx : pxOk ps[k] = false := by simpa using hx
          have HX := hide (show false = picOk W H ps by rw [← HE.out, pxsOk_false ps k hlt hx])
          rw [show allIn 0 65535 [ps[k].1, ps[k].2.1, ps[k].2.2] = false from hx]
          clear hx
          go_wp2
          go_ret
          exact ⟨ret_bool HX.out, hbel2⟩
      · have hd : decide ((k : Int) < (ps.length : Int)) = false := by simp; omega
        have HX := hide (show true = picOk W H ps by rw [← HE.out, ← HA.out, List.take_of_length_le (by omega)])
        go_wp2
        go_ret
        exact ⟨ret_bool HX.out, hbel⟩
  · have h1 : sizeOk W H ps.length = false := by simpa using h1
    have HE := hide (show false = picOk W H ps by rw [picOk, h1]; rfl)
    go_enter Try.func68, Try.ntmps68
    go_wp2_with fail
    refine (size_any _ _ _ _).mono ?_
    rintro e w1 ⟨rfl, hb1⟩
    rw [h1]
    go_wp2
    go_ret
    exact ⟨ret_bool HE.out, bel_trans (bel_alloc _ _) hb1⟩

theorem parts_any (p : Px) (w : World) : Calls Try.prog 73 #[pixV p] w fun e w' => e = .returned (pixV p) ∧ Below w.heap.size w w' := by
  go_enter Try.func73, Try.ntmps73
  go_wp2
  exact bodyPost_ret (v := pixV p) (by simp [results, Try.results73, go_sem]) rfl ⟨rfl, bel_trans (bel_alloc _ _) (bel_alloc _ _)⟩

theorem pixel_any (p : Px) (w : World) : Calls Try.prog 72 #[pixV p] w fun e w' => e = .returned (pixV p) ∧ Below w.heap.size w w' := by
  go_enter Try.func72, Try.ntmps72
  go_wp2
  exact bodyPost_ret (v := pixV p) (by simp [results, Try.results72, go_sem]) rfl ⟨rfl, bel_trans (bel_alloc _ _) (bel_alloc _ _)⟩

def amountOk (n : Int) : Bool := decide (0 ≤ n ∧ n ≤ 1024)
theorem amount_any (n : Int) (w : World) : Calls Try.prog 84 #[.int .i64 n] w fun e w' => e = .returned (.bool (amountOk n)) ∧ Below w.heap.size w w' := by
  have HS := hide (show allIn 0 1024 [n] = amountOk n by simp [allIn, amountOk])
  go_enter Try.func84, Try.ntmps84
  go_wp2_with fail
  refine (rWithin_any 0 1024 _ [n] _ (ints1 w n)).mono ?_
  rintro e w1 ⟨rfl, rfl⟩
  rw [HS.out]
  go_wp2
  go_ret
  exact ⟨rfl, bel_alloc _ _⟩

set_option maxRecDepth 100000 in
set_option maxHeartbeats 1600000 in
theorem pictureFine_any (W H : Int) (v : Value) (ps : List Px) (w : World) (hv : IsPix w v ps) :
    Calls Try.prog 26 #[.agg #[.int .i64 W, .int .i64 H, v]] w fun e w' => e = .returned (.bool (picOk W H ps)) ∧ Below w.heap.size w w' := by
  obtain ⟨ao, ca, rfl, hla, hc⟩ := hv
  obtain ⟨R, hR⟩ : ∃ R, picOk W H ps = R := ⟨_, rfl⟩
  rw [hR]
  obtain ⟨e0, e1, e2⟩ := pl3 (Below.refl (w.alloc (Obj.cells #[.int .i64 W, .int .i64 H, .slice ao ps.length ca] 39)).heap.size _)
  have HB := hide (bel_alloc w (Obj.cells #[.int .i64 W, .int .i64 H, .slice ao ps.length ca] 39))
  have hwi : ∀ n : Int, decide (1 ≤ n ∧ n ≤ 64) = sideOk n := fun n => rfl
  have HWI := hide hwi
  clear hwi
  by_cases h1 : sideOk W = true
  · by_cases h2 : sideOk H = true
    · have b1 : 1 ≤ W ∧ W ≤ 64 := by simpa [sideOk] using h1
      have b2 : 1 ≤ H ∧ H ≤ 64 := by simpa [sideOk] using h2
      obtain ⟨b3, b4⟩ := side_mul b1 b2
      obtain ⟨M, hM⟩ : ∃ M, W * H = M := ⟨_, rfl⟩
      by_cases hl : (ps.length : Int) = M
      · have HP := hide (show R = pxsOk ps by rw [← hR, picOk, sizeOk, h1, h2, hM, hl]; simp)
        rw [hM] at b3 b4
        have hlb : ((ps.length : Int) != M) = false := by simpa using hl
        obtain ⟨bk, off, hao, hbl, hcell⟩ : ∃ b off, ao = some ⟨b, off, none⟩ ∧ b < w.heap.size ∧ ∀ j (h : j < ps.length),
            w.cell? ⟨b, off + j * 3, none⟩ = some (.int .i64 ps[j].1) ∧ w.cell? ⟨b, off + j * 3 + 1, none⟩ = some (.int .i64 ps[j].2.1) ∧ w.cell? ⟨b, off + j * 3 + 2, none⟩ = some (.int .i64 ps[j].2.2) := by
          rcases hc with h | h
          · subst h; simp at hl; omega
          · exact h
        subst hao
        have HCELL := hide hcell; clear hcell hc hR hl
        go_enter Try.func26, Try.ntmps26
        go_wp2_with fail
        have HC2 := hide (show ∀ j (h : j < ps.length), (w.alloc (Obj.cells #[.int .i64 W, .int .i64 H, .slice (some ⟨bk, off, none⟩) ps.length ca] 39)).cell? ⟨bk, off + j * 3, none⟩ = some (.int .i64 ps[j].1) ∧ (w.alloc (Obj.cells #[.int .i64 W, .int .i64 H, .slice (some ⟨bk, off, none⟩) ps.length ca] 39)).cell? ⟨bk, off + j * 3 + 1, none⟩ = some (.int .i64 ps[j].2.1) ∧ (w.alloc (Obj.cells #[.int .i64 W, .int .i64 H, .slice (some ⟨bk, off, none⟩) ps.length ca] 39)).cell? ⟨bk, off + j * 3 + 2, none⟩ = some (.int .i64 ps[j].2.2) from fun j h => by
          have hq := Below.heap_alloc w (Obj.cells #[.int .i64 W, .int .i64 H, .slice (some ⟨bk, off, none⟩) ps.length ca] 39) bk hbl
          rw [World.cell?_of_block (w := w) (a := ⟨bk, off + j * 3, none⟩) hq, World.cell?_of_block (w := w) (a := ⟨bk, off + j * 3 + 1, none⟩) hq, World.cell?_of_block (w := w) (a := ⟨bk, off + j * 3 + 2, none⟩) hq]; exact HCELL.out j h)
        clear HCELL
        generalize w.alloc (Obj.cells #[.int .i64 W, .int .i64 H, .slice (some ⟨bk, off, none⟩) ps.length ca] 39) = W0 at *
        refine (within_any _ _ _ _).mono ?_
        rintro e w1 ⟨rfl, rfl⟩
        rw [HWI.out, h1]
        go_wp2_with fail
        refine (within_any _ _ _ _).mono ?_
        rintro e w1 ⟨rfl, rfl⟩
        rw [HWI.out, h2]
        go_wp2
        clear h1 h2 b1 b2
        go_loop [3] (fun i => ∃ k : Nat, k ≤ ps.length ∧ i = .int .i64 k ∧ Hid (pxsOk (ps.take k) = true)) (fun i => ps.length - (intOf i).toNat)
        case atStart => exact ⟨0, Nat.zero_le _, rfl, rfl⟩
        case round =>
          obtain ⟨k, hk, rfl, HS⟩ := hrel
          by_cases hlt : k < ps.length
          · obtain ⟨c0, c1, c2⟩ := HC2.out k hlt
            have hpx := pxOk_iff ps[k]
            by_cases hx0 : 0 ≤ ps[k].1 ∧ ps[k].1 ≤ 65535
            · have hd0 : decide (0 ≤ ps[k].1 ∧ ps[k].1 ≤ 65535) = true := by simpa using hx0
              by_cases hx1 : 0 ≤ ps[k].2.1 ∧ ps[k].2.1 ≤ 65535
              · have hd1 : decide (0 ≤ ps[k].2.1 ∧ ps[k].2.1 ≤ 65535) = true := by simpa using hx1
                by_cases hx2 : 0 ≤ ps[k].2.2 ∧ ps[k].2.2 ≤ 65535
                · have hd2 : decide (0 ≤ ps[k].2.2 ∧ ps[k].2.2 ≤ 65535) = true := by simpa using hx2
                  have HT := hide (show pxsOk (ps.take (k + 1)) = true by rw [List.take_succ_eq_append_getElem hlt, pxsOk_snoc, HS.out, hpx.2 ⟨hx0, hx1, hx2⟩]; rfl)
                  clear hpx hx0 hx1 hx2
                  go_wp2_with (go_at_call 59; refine (within_any _ _ _ _).mono ?_; rintro e w1 ⟨rfl, rfl⟩; first | rw [hd0] | rw [hd1] | rw [hd2])
                  go_round
                  case rel => exact ⟨k + 1, by omega, by go_num, HT⟩
                  case measure => simp [intOf]; omega
                · have hd2 : decide (0 ≤ ps[k].2.2 ∧ ps[k].2.2 ≤ 65535) = false := by simpa using hx2
                  have HX := hide (show false = R by rw [HP.out, pxsOk_false ps k hlt (by rw [Bool.eq_false_iff]; exact fun h => hx2 (hpx.1 h).2.2)])
                  clear hpx hx0 hx1 hx2
                  go_wp2_with (go_at_call 59; refine (within_any _ _ _ _).mono ?_; rintro e w1 ⟨rfl, rfl⟩; first | rw [hd0] | rw [hd1] | rw [hd2])
                  go_ret
                  exact ⟨ret_bool HX.out, HB.out⟩
              · have hd1 : decide (0 ≤ ps[k].2.1 ∧ ps[k].2.1 ≤ 65535) = false := by simpa using hx1
                have HX := hide (show false = R by rw [HP.out, pxsOk_false ps k hlt (by rw [Bool.eq_false_iff]; exact fun h => hx1 (hpx.1 h).2.1)])
                clear hpx hx0 hx1
                go_wp2_with (go_at_call 59; refine (within_any _ _ _ _).mono ?_; rintro e w1 ⟨rfl, rfl⟩; first | rw [hd0] | rw [hd1])
                go_ret
                exact ⟨ret_bool HX.out, HB.out⟩
            · have hd0 : decide (0 ≤ ps[k].1 ∧ ps[k].1 ≤ 65535) = false := by simpa using hx0
              have HX := hide (show false = R by rw [HP.out, pxsOk_false ps k hlt (by rw [Bool.eq_false_iff]; exact fun h => hx0 (hpx.1 h).1)])
              clear hpx hx0
              go_wp2_with (go_at_call 59; refine (within_any _ _ _ _).mono ?_; rintro e w1 ⟨rfl, rfl⟩; rw [hd0])
              go_ret
              exact ⟨ret_bool HX.out, HB.out⟩
          · have HX := hide (show true = R by rw [HP.out, ← HS.out, List.take_of_length_le (by omega)])
            go_wp2
            go_ret
            exact ⟨ret_bool HX.out, HB.out⟩
      · have HX := hide (show false = R by rw [← hR, picOk, sizeOk, hM]; simp [hl])
        rw [hM] at b3 b4
        have hlb : ((ps.length : Int) != M) = true := by simpa using hl
        clear hc hR hl
        go_enter Try.func26, Try.ntmps26
        go_wp2_with fail
        generalize w.alloc (Obj.cells #[.int .i64 W, .int .i64 H, .slice ao ps.length ca] 39) = W0 at *
        refine (within_any _ _ _ _).mono ?_
        rintro e w1 ⟨rfl, rfl⟩
        rw [HWI.out, h1]
        go_wp2_with fail
        refine (within_any _ _ _ _).mono ?_
        rintro e w1 ⟨rfl, rfl⟩
        rw [HWI.out, h2]
        go_wp2
        go_ret
        exact ⟨ret_bool HX.out, HB.out⟩
    · have h2 : sideOk H = false := by simpa using h2
      have HX := hide (show false = R by rw [← hR, picOk, sizeOk, h2]; simp)
      clear hc hR
      go_enter Try.func26, Try.ntmps26
      go_wp2_with fail
      generalize w.alloc (Obj.cells #[.int .i64 W, .int .i64 H, .slice ao ps.length ca] 39) = W0 at *
      refine (within_any _ _ _ _).mono ?_
      rintro e w1 ⟨rfl, rfl⟩
      rw [HWI.out, h1]
      go_wp2_with fail
      refine (within_any _ _ _ _).mono ?_
      rintro e w1 ⟨rfl, rfl⟩
      rw [HWI.out, h2]
      go_wp2
      go_ret
      exact ⟨ret_bool HX.out, HB.out⟩
  · have h1 : sideOk W = false := by simpa using h1
    have HX := hide (show false = R by rw [← hR, picOk, sizeOk, h1]; simp)
    clear hc hR
    go_enter Try.func26, Try.ntmps26
    go_wp2_with fail
    generalize w.alloc (Obj.cells #[.int .i64 W, .int .i64 H, .slice ao ps.length ca] 39) = W0 at *
    refine (within_any _ _ _ _).mono ?_
    rintro e w1 ⟨rfl, rfl⟩
    rw [HWI.out, h1]
    go_wp2
    go_ret
    exact ⟨ret_bool HX.out, HB.out⟩

end Go.Proofs.Ytolcndchfnifhab
