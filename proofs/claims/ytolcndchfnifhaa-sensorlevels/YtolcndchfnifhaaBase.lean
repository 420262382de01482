/- Numbers and planes: the small functions of package right and of the reference that later texts share. -/
import Derived.Test.YtolcndchfnifhaaInts
import Derived.Test.YtolcndchfnifhaaDiffMath
namespace Go.Proofs.Ytolcndchfnifhaa
open Go.RowKit

theorem within_any (n a b : Int) (w : World) :
    Calls Try.prog 61 #[.int .i64 n, .int .i64 a, .int .i64 b] w fun e w' => e = .returned (.bool (decide (a ≤ n ∧ n ≤ b))) ∧ w = w' := by
  by_cases h1 : a ≤ n
  all_goals by_cases h2 : n ≤ b
  all_goals
    go_enter Try.func61, Try.ntmps61
    go_wp2
    go_ret
    exact ⟨ret_bool (by simp [h1, h2]), rfl⟩

theorem ownsRow_lenOf {w : World} {base : Nat} {e : TypeId} {v : Value} {n : Nat} {xs : List Value} (h : w.ownsRow base e 1 v n xs) : ∃ ao cap, v = .slice ao n cap := by
  rcases h.2 with ⟨hv, hn⟩ | ⟨g, cap, cur, hv, _⟩
  · exact ⟨none, 0, by rw [hv, hn]⟩
  · exact ⟨_, cap, hv⟩


theorem place_of {W X Y : Nat} (h : X < W) : (Y * W + X) % W = X ∧ (Y * W + X) / W = Y := by
  constructor
  · rw [Nat.mul_comm, Nat.mul_add_mod, Nat.mod_eq_of_lt h]
  · rw [Nat.mul_comm, Nat.mul_add_div (by omega), Nat.div_eq_of_lt h, Nat.add_zero]

def allIn (a b : Int) (xs : List Int) : Bool := xs.all fun n => decide (a ≤ n ∧ n ≤ b)
theorem allIn_snoc (a b : Int) (xs : List Int) (x : Int) : allIn a b (xs ++ [x]) = (allIn a b xs && decide (a ≤ x ∧ x ≤ b)) := by simp [allIn]
theorem allIn_false (a b : Int) (xs : List Int) (k : Nat) (hk : k < xs.length) (h : ¬ (a ≤ xs[k] ∧ xs[k] ≤ b)) : allIn a b xs = false := by
  rw [Bool.eq_false_iff]; intro he
  have := List.all_eq_true.1 he _ (List.getElem_mem hk)
  exact h (by simpa using this)

theorem rWithin_any (a b : Int) (v : Value) (xs : List Int) (w : World) (hv : IsInts w v xs) :
    Calls Try.prog 118 #[.int .i64 a, .int .i64 b, v] w fun e w' => e = .returned (.bool (allIn a b xs)) ∧ w = w' := by
  obtain ⟨ao, ca, rfl, hla, hc⟩ := hv
  by_cases h0 : xs = []
  · subst h0
    clear hc
    go_enter Try.func118, Try.ntmps118
    go_wp2
    go_loop [11] (fun i => i = .int .i64 0) (fun _ => 0)
    case atStart => rfl
    case round =>
      subst hrel
      go_wp2
      go_ret
      exact ⟨rfl, rfl⟩
  · obtain ⟨bk, off, hao, hbl, hcell⟩ : ∃ b off, ao = some ⟨b, off, none⟩ ∧ b < w.heap.size ∧ ∀ j (h : j < xs.length), w.cell? ⟨b, off + j, none⟩ = some (.int .i64 xs[j]) := by
      rcases hc with h | h
      · exact absurd h h0
      · exact h
    subst hao
    have HCELL := hide hcell; clear hcell hc h0
    go_enter Try.func118, Try.ntmps118
    go_wp2
    go_loop [11] (fun i => ∃ k : Nat, k ≤ xs.length ∧ i = .int .i64 k ∧ Hid (allIn a b (xs.take k) = true)) (fun i => xs.length - (intOf i).toNat)
    case atStart => exact ⟨0, Nat.zero_le _, rfl, rfl⟩
    case round =>
      obtain ⟨k, hk, rfl, HA⟩ := hrel
      by_cases hlt : k < xs.length
      · have c1 := HCELL.out k hlt
        by_cases hx0 : a ≤ xs[k]
        · by_cases hx1 : xs[k] ≤ b
          · have HT := hide (show allIn a b (xs.take (k + 1)) = true by rw [List.take_succ_eq_append_getElem hlt, allIn_snoc, HA.out]; simp [hx0, hx1])
            go_wp2
            go_round
            case rel => exact ⟨k + 1, by omega, by go_num, HT⟩
            case measure => simp [intOf]; omega
          · have HE := hide (allIn_false a b xs k hlt (fun h => hx1 h.2))
            go_wp2
            go_ret
            exact ⟨ret_bool HE.out.symm, rfl⟩
        · have HE := hide (allIn_false a b xs k hlt (fun h => hx0 h.1))
          go_wp2
          go_ret
          exact ⟨ret_bool HE.out.symm, rfl⟩
      · have HE := hide (show true = allIn a b xs by rw [← HA.out, List.take_of_length_le (by omega)])
        go_wp2
        go_ret
        exact ⟨ret_bool HE.out, rfl⟩

theorem ints1 (w : World) (n : Int) : IsInts (w.alloc (.cells #[.int .i64 n] 3)) (.slice (some ⟨w.heap.size, 0, none⟩) 1 1) [n] :=
  IsInts.own (base := w.heap.size) (World.ownsRow_lit w #[.int .i64 n] 1 (Nat.le_refl _) (by decide) (by simp)) (by simp)

theorem side_any (n : Int) (w : World) : Calls Try.prog 90 #[.int .i64 n] w fun e w' => e = .returned (.bool (sideOk n)) ∧ Below w.heap.size w w' := by
  have HS := hide (show allIn 1 64 [n] = sideOk n by simp [allIn, sideOk])
  go_enter Try.func90, Try.ntmps90
  go_wp2_with fail
  refine (rWithin_any 1 64 _ [n] _ (ints1 w n)).mono ?_
  rintro e w1 ⟨rfl, rfl⟩
  rw [HS.out]
  go_wp2
  go_ret
  exact ⟨rfl, bel_alloc _ _⟩

def sizeOk (W H m : Int) : Bool := sideOk W && sideOk H && decide (m = W * H)
set_option maxHeartbeats 400000 in
theorem size_any (W H m : Int) (w : World) : Calls Try.prog 117 #[.int .i64 W, .int .i64 H, .int .i64 m] w fun e w' => e = .returned (.bool (sizeOk W H m)) ∧ Below w.heap.size w w' := by
  by_cases h1 : sideOk W = true
  · by_cases h2 : sideOk H = true
    · have HE := hide (show decide (m = W * H) = sizeOk W H m by rw [sizeOk, h1, h2]; rfl)
      have b1 : 1 ≤ W ∧ W ≤ 64 := by simpa [sideOk] using h1
      have b2 : 1 ≤ H ∧ H ≤ 64 := by simpa [sideOk] using h2
      obtain ⟨b3, b4⟩ := side_mul b1 b2
      obtain ⟨M, hM⟩ : ∃ M, W * H = M := ⟨_, rfl⟩
      have HEM := hide (show (m == M) = decide (m = W * H) by rw [hM]; rfl)
      rw [hM] at b3 b4
      go_enter Try.func117, Try.ntmps117
      go_wp2_with fail
      refine (side_any _ _).mono ?_
      rintro e w1 ⟨rfl, hb1⟩
      rw [h1]
      go_wp2_with fail
      refine (side_any _ _).mono ?_
      rintro e w2 ⟨rfl, hb2⟩
      rw [h2]
      go_wp2
      go_ret
      exact ⟨ret_bool (HEM.out.trans HE.out), bel_trans hb1 hb2⟩
    · have h2 : sideOk H = false := by simpa using h2
      have HE := hide (show false = sizeOk W H m by rw [sizeOk, h1, h2]; rfl)
      go_enter Try.func117, Try.ntmps117
      go_wp2_with fail
      refine (side_any _ _).mono ?_
      rintro e w1 ⟨rfl, hb1⟩
      rw [h1]
      go_wp2_with fail
      refine (side_any _ _).mono ?_
      rintro e w2 ⟨rfl, hb2⟩
      rw [h2]
      go_wp2
      go_ret
      exact ⟨ret_bool HE.out, bel_trans hb1 hb2⟩
  · have h1 : sideOk W = false := by simpa using h1
    have HE := hide (show false = sizeOk W H m by rw [sizeOk, h1]; rfl)
    go_enter Try.func117, Try.ntmps117
    go_wp2_with fail
    refine (side_any _ _).mono ?_
    rintro e w1 ⟨rfl, hb1⟩
    rw [h1]
    go_wp2
    go_ret
    exact ⟨ret_bool HE.out, hb1⟩

theorem planeOk_eq (W H : Int) (zs : List Int) : planeOk W H zs = (sizeOk W H zs.length && allIn 0 65535 zs) := by
  rw [planeOk, sizeOk]; rfl

theorem pl3 {w w' : World} {a b c : Value} {t : TypeId} (hb : Below (w.alloc (.cells #[a, b, c] t)).heap.size (w.alloc (.cells #[a, b, c] t)) w') :
    w'.cell? ⟨w.heap.size, 0, none⟩ = some a ∧ w'.cell? ⟨w.heap.size, 1, none⟩ = some b ∧ w'.cell? ⟨w.heap.size, 2, none⟩ = some c := by
  refine ⟨?_, ?_, ?_⟩
  · rw [hb.cell (p := ⟨w.heap.size, 0, none⟩) (by simp), Lib.cell_of_heap (heap_alloc_new w _)]; rfl
  · rw [hb.cell (p := ⟨w.heap.size, 1, none⟩) (by simp), Lib.cell_of_heap (heap_alloc_new w _)]; rfl
  · rw [hb.cell (p := ⟨w.heap.size, 2, none⟩) (by simp), Lib.cell_of_heap (heap_alloc_new w _)]; rfl

theorem plane_any (W H : Int) (v : Value) (zs : List Int) (w : World) (hv : IsInts w v zs) :
    Calls Try.prog 77 #[.agg #[.int .i64 W, .int .i64 H, v]] w fun e w' => e = .returned (.bool (planeOk W H zs)) ∧ Below w.heap.size w w' := by
  have HV := hide hv
  obtain ⟨ao, ca, rfl, hla, _⟩ := hv
  by_cases h1 : sizeOk W H zs.length = true
  · have HE := hide (show allIn 0 65535 zs = planeOk W H zs by rw [planeOk_eq, h1]; rfl)
    go_enter Try.func77, Try.ntmps77
    go_wp2_with fail
    refine (size_any _ _ _ _).mono ?_
    rintro e w1 ⟨rfl, hb1⟩
    rw [h1]
    have c2 := (pl3 hb1).2.2
    go_wp2_with fail
    refine (rWithin_any _ _ _ zs _ ((HV.out.alloc _).below hb1 (Nat.le_refl _))).mono ?_
    rintro e w2 ⟨rfl, rfl⟩
    rw [HE.out]
    go_wp2
    go_ret
    exact ⟨rfl, bel_trans (bel_alloc _ _) hb1⟩
  · have h1 : sizeOk W H zs.length = false := by simpa using h1
    have HE := hide (show false = planeOk W H zs by rw [planeOk_eq, h1]; rfl)
    go_enter Try.func77, Try.ntmps77
    go_wp2_with fail
    refine (size_any _ _ _ _).mono ?_
    rintro e w1 ⟨rfl, hb1⟩
    rw [h1]
    go_wp2
    go_ret
    exact ⟨ret_bool HE.out, bel_trans (bel_alloc _ _) hb1⟩

theorem withinQ (n a b : Int) (w : World) :
    Calls Try.prog 61 #[.int .i64 n, .int .i64 a, .int .i64 b] w fun e w' => e = .returned (.bool (decide (a ≤ n ∧ n ≤ b))) ∧ w' = w :=
  (within_any n a b w).mono fun _ _ h => ⟨h.1, h.2.symm⟩

set_option maxRecDepth 100000 in
set_option maxHeartbeats 800000 in
theorem planeFine_any (W H : Int) (v : Value) (zs : List Int) (w : World) (hv : IsInts w v zs) :
    Calls Try.prog 44 #[.agg #[.int .i64 W, .int .i64 H, v]] w fun e w' => e = .returned (.bool (planeOk W H zs)) ∧ Below w.heap.size w w' := by
  obtain ⟨ao, ca, rfl, hla, hc⟩ := hv
  have hwi : ∀ n : Int, decide (1 ≤ n ∧ n ≤ 64) = sideOk n := fun n => rfl
  have HWI := hide hwi
  clear hwi
  by_cases h1 : sideOk W = true
  · by_cases h2 : sideOk H = true
    · have b1 : 1 ≤ W ∧ W ≤ 64 := by simpa [sideOk] using h1
      have b2 : 1 ≤ H ∧ H ≤ 64 := by simpa [sideOk] using h2
      obtain ⟨b3, b4⟩ := side_mul b1 b2
      obtain ⟨M, hM⟩ : ∃ M, W * H = M := ⟨_, rfl⟩
      rw [hM] at b3 b4
      by_cases hl : (zs.length : Int) = M
      · have HP := hide (show planeOk W H zs = sampsOk zs by rw [planeOk, h1, h2, hM, hl]; simp)
        have hlb : ((zs.length : Int) != M) = false := by simpa using hl
        obtain ⟨bk, off, hao, hbl, hcell⟩ : ∃ b off, ao = some ⟨b, off, none⟩ ∧ b < w.heap.size ∧ ∀ j (h : j < zs.length), w.cell? ⟨b, off + j, none⟩ = some (.int .i64 zs[j]) := by
          rcases hc with h | h
          · subst h; simp at hl; omega
          · exact h
        subst hao
        have HCELL := hide (show ∀ j (h : j < zs.length), (w.alloc (Obj.cells #[.int .i64 W, .int .i64 H, .slice (some ⟨bk, off, none⟩) zs.length ca] 57)).cell? ⟨bk, off + j, none⟩ = some (.int .i64 zs[j]) from fun j h => by
          rw [World.cell?_of_block (w := w) (Below.heap_alloc w _ bk hbl)]; exact hcell j h)
        clear hcell hc
        have HB := hide (bel_alloc w (Obj.cells #[.int .i64 W, .int .i64 H, .slice (some ⟨bk, off, none⟩) zs.length ca] 57))
        obtain ⟨e0, e1, e2⟩ := pl3 (Below.refl (w.alloc (Obj.cells #[.int .i64 W, .int .i64 H, .slice (some ⟨bk, off, none⟩) zs.length ca] 57)).heap.size _)
        go_enter Try.func44, Try.ntmps44
        go_wp2_with fail
        generalize w.alloc (Obj.cells #[.int .i64 W, .int .i64 H, .slice (some ⟨bk, off, none⟩) zs.length ca] 57) = W0 at *
        refine (within_any _ _ _ _).mono ?_
        rintro e w1 ⟨rfl, rfl⟩
        rw [HWI.out, h1]
        go_wp2_with fail
        refine (within_any _ _ _ _).mono ?_
        rintro e w1 ⟨rfl, rfl⟩
        rw [HWI.out, h2]
        go_wp2
        clear h1 h2 b1 b2
        go_loopw [3] (fun i wr => ∃ k : Nat, k ≤ zs.length ∧ i = .int .i64 k ∧ Hid (sampsOk (zs.take k) = true) ∧ (∃ n, wr = W0.drewN n)) (fun i _ => zs.length - (intOf i).toNat)
        case atStart => exact ⟨0, Nat.zero_le _, rfl, rfl, 0, rfl⟩
        case round =>
          obtain ⟨k, hk, rfl, HS, nn, rfl⟩ := hrel
          by_cases hlt : k < zs.length
          · have c1 := HCELL.out k hlt
            by_cases hx0 : 0 ≤ zs[k] ∧ zs[k] ≤ 65535
            · have hd : decide (0 ≤ zs[k] ∧ zs[k] ≤ 65535) = true := by simpa using hx0
              have HT := hide (show sampsOk (zs.take (k + 1)) = true by rw [List.take_succ_eq_append_getElem hlt, sampsOk_snoc, HS.out]; exact hd)
              go_wp2_with (go_at_call 61; refine (within_any _ _ _ _).mono ?_; rintro e w1 ⟨rfl, rfl⟩; rw [hd])
              go_roundw
              case rel => exact ⟨k + 1, by omega, by go_num, HT, nn, rfl⟩
              case measure => simp [intOf]; omega
            · have hd : decide (0 ≤ zs[k] ∧ zs[k] ≤ 65535) = false := by simpa using hx0
              have HE := hide (show false = planeOk W H zs by rw [HP.out, sampsOk_false zs k hlt hd])
              go_wp2_with (go_at_call 61; refine (within_any _ _ _ _).mono ?_; rintro e w1 ⟨rfl, rfl⟩; rw [hd])
              go_ret
              exact ⟨ret_bool HE.out, below_drewN HB.out _⟩
          · have HE := hide (show true = planeOk W H zs by rw [HP.out, ← HS.out, List.take_of_length_le (by omega)])
            go_wp2
            go_ret
            exact ⟨ret_bool HE.out, below_drewN HB.out _⟩
      · have HE := hide (show false = planeOk W H zs by rw [planeOk, h1, h2, hM]; simp [hl])
        have hlb : ((zs.length : Int) != M) = true := by simpa using hl
        clear hc
        go_enter Try.func44, Try.ntmps44
        go_wp2_with fail
        refine (within_any _ _ _ _).mono ?_
        rintro e w1 ⟨rfl, rfl⟩
        rw [HWI.out, h1]
        go_wp2_with fail
        refine (within_any _ _ _ _).mono ?_
        rintro e w1 ⟨rfl, rfl⟩
        rw [HWI.out, h2]
        go_wp2
        go_ret
        exact ⟨ret_bool HE.out, bel_alloc _ _⟩
    · have h2 : sideOk H = false := by simpa using h2
      have HE := hide (show false = planeOk W H zs by rw [planeOk, h1, h2]; rfl)
      clear hc
      go_enter Try.func44, Try.ntmps44
      go_wp2_with fail
      refine (within_any _ _ _ _).mono ?_
      rintro e w1 ⟨rfl, rfl⟩
      rw [HWI.out, h1]
      go_wp2_with fail
      refine (within_any _ _ _ _).mono ?_
      rintro e w1 ⟨rfl, rfl⟩
      rw [HWI.out, h2]
      go_wp2
      go_ret
      exact ⟨ret_bool HE.out, bel_alloc _ _⟩
  · have h1 : sideOk W = false := by simpa using h1
    have HE := hide (show false = planeOk W H zs by rw [planeOk, h1]; rfl)
    clear hc
    go_enter Try.func44, Try.ntmps44
    go_wp2_with fail
    refine (within_any _ _ _ _).mono ?_
    rintro e w1 ⟨rfl, rfl⟩
    rw [HWI.out, h1]
    go_wp2
    go_ret
    exact ⟨ret_bool HE.out, bel_alloc _ _⟩


end Go.Proofs.Ytolcndchfnifhaa
