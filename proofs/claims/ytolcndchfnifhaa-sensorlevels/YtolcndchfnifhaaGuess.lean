/- diff: guess, difference, classOf. -/
import Derived.Test.YtolcndchfnifhaaPlane
import Derived.WalkSmall
namespace Go.Proofs.Ytolcndchfnifhaa
open Go.RowKit

set_option maxHeartbeats 400000 in
theorem guessInside_any (kind a b c : Int) (ha : 0 ≤ a ∧ a ≤ 65535) (hb : 0 ≤ b ∧ b ≤ 65535) (hc : 0 ≤ c ∧ c ≤ 65535) (w : World) :
    Calls Try.prog 119 #[.int .i64 kind, .int .i64 a, .int .i64 b, .int .i64 c] w fun e w' => e = .returned (.int .i64 (insideG kind a b c)) ∧ w = w' := by
  by_cases h1 : kind = 1
  · subst h1
    go_enter Try.func119, Try.ntmps119
    go_wp2
    go_ret
    exact ⟨ret_int (by simp [insideG]), rfl⟩
  by_cases h2 : kind = 2
  · subst h2
    go_enter Try.func119, Try.ntmps119
    go_wp2
    go_ret
    exact ⟨ret_int (by simp [insideG]), rfl⟩
  by_cases h3 : kind = 3
  · subst h3
    go_enter Try.func119, Try.ntmps119
    go_wp2
    go_ret
    exact ⟨ret_int (by simp [insideG]), rfl⟩
  by_cases h4 : kind = 4
  · subst h4
    go_enter Try.func119, Try.ntmps119
    go_wp2
    go_ret
    exact ⟨ret_int (by simp [insideG]), rfl⟩
  by_cases h5 : kind = 5
  · subst h5
    go_enter Try.func119, Try.ntmps119
    go_wp2
    go_ret
    exact ⟨ret_int (by simp [insideG]), rfl⟩
  by_cases h6 : kind = 6
  · subst h6
    go_enter Try.func119, Try.ntmps119
    go_wp2
    go_ret
    exact ⟨ret_int (by simp [insideG]), rfl⟩
  have k1 : (kind == 1) = false := by simpa using h1
  have k2 : (kind == 2) = false := by simpa using h2
  have k3 : (kind == 3) = false := by simpa using h3
  have k4 : (kind == 4) = false := by simpa using h4
  have k5 : (kind == 5) = false := by simpa using h5
  have k6 : (kind == 6) = false := by simpa using h6
  have HE := hide (show (a + b) / 2 = insideG kind a b c by simp [insideG, h1, h2, h3, h4, h5, h6])
  clear h1 h2 h3 h4 h5 h6
  go_enter Try.func119, Try.ntmps119
  go_wp2
  go_ret
  exact ⟨ret_int HE.out, rfl⟩

theorem guessInside_q (kind a b c : Int) (ha : 0 ≤ a ∧ a ≤ 65535) (hb : 0 ≤ b ∧ b ≤ 65535) (hc : 0 ≤ c ∧ c ≤ 65535) (w : World) :
    Calls Try.prog 119 #[.int .i64 kind, .int .i64 a, .int .i64 b, .int .i64 c] w fun e w' => e = .returned (.int .i64 (insideG kind a b c)) ∧ w' = w :=
  (guessInside_any kind a b c ha hb hc w).mono fun _ _ h => ⟨h.1, h.2.symm⟩

/-- the places around the k-th one. -/
theorem place_parts (W k : Nat) (hW : 1 ≤ W) : k / W * W + k % W = k ∧ (k / W ≠ 0 → W ≤ k) ∧ (k / W = 0 → k % W = k) ∧ k % W < W := by
  have h1 := Nat.div_add_mod k W
  rw [Nat.mul_comm] at h1
  refine ⟨h1, fun h => ?_, fun h => ?_, Nat.mod_lt _ hW⟩
  · refine Decidable.byContradiction fun hn => h (Nat.div_eq_of_lt (by omega))
  · rw [h, Nat.zero_mul, Nat.zero_add] at h1; exact h1

set_option maxRecDepth 100000 in
set_option maxHeartbeats 800000 in
theorem guess_any (v : Value) (zs : List Int) (W X Y : Nat) (H kind : Int) (k : Nat) (w : World) (hv : IsInts w v zs) (hW1 : 1 ≤ W) (hW : W ≤ 64) (hk : k < zs.length) (hl : zs.length ≤ 4096) (hz : sampsOk zs = true) (hX : X = k % W) (hY : Y = k / W) :
    Calls Try.prog 79 #[.agg #[.int .i64 W, .int .i64 H, v], .int .i64 kind, .int .i64 X, .int .i64 Y] w fun e w' => e = .returned (.int .i64 (gAt zs W kind k)) ∧ Below w.heap.size w w' := by
  obtain ⟨p1, p2, p3, p4⟩ := place_parts W k hW1
  rw [← hX, ← hY] at p1
  rw [← hY] at p2 p3
  rw [← hX] at p3 p4
  obtain ⟨ao, ca, rfl, hla, hc⟩ := hv
  obtain ⟨bk, off, hao, hbl, hcell⟩ : ∃ b off, ao = some ⟨b, off, none⟩ ∧ b < w.heap.size ∧ ∀ j (h : j < zs.length), w.cell? ⟨b, off + j, none⟩ = some (.int .i64 zs[j]) := by
    rcases hc with h | h
    · subst h; simp at hk
    · exact h
  subst hao
  have HG : ∀ j, j < zs.length → ∀ o, (w.alloc o).cell? ⟨bk, off + j, none⟩ = some (.int .i64 (zs.getD j 0)) := fun j hj o => by
    rw [World.cell?_of_block (w := w) (Below.heap_alloc w o bk hbl), hcell j hj]; simp [List.getD, hj]
  have HCELL := hide HG
  clear hcell hc HG
  obtain ⟨M, hM⟩ : ∃ M : Nat, M = Y * W := ⟨_, rfl⟩
  rw [← hM] at p1
  have hm : (Y : Int) * (W : Int) = (M : Int) := by rw [hM]; simp
  have hMW : Y ≠ 0 → W ≤ M := fun h => by rw [hM]; exact Nat.le_mul_of_pos_left _ (by omega)
  clear hM
  have hs1 := sampsOk_getD hz (k - 1)
  have hs2 := sampsOk_getD hz (k - W)
  have hs3 := sampsOk_getD hz (k - W - 1)
  clear hz
  by_cases hx : X = 0
  · by_cases hy : Y = 0
    · have HE := hide (show 32768 = gAt zs W kind k by rw [gAt, if_pos ⟨hX ▸ hx, hY ▸ hy⟩])
      subst hx hy
      clear hX hY HCELL hs1 hs2 hs3 p2 p3
      go_enter Try.func79, Try.ntmps79
      go_wp2
      go_ret
      exact ⟨ret_int HE.out, bel_alloc _ _⟩
    · have HE := hide (show zs.getD (k - W) 0 = gAt zs W kind k by rw [gAt, if_neg (fun h => hy (hY.trans h.2)), if_neg (fun h => hy (hY.trans h)), if_pos (hX ▸ hx)])
      have hkW := p2 hy
      have hc1 := HCELL.out (k - W) (by omega)
      have hyb : ((Y : Int) == 0) = false := by simp; omega
      subst hx
      obtain rfl : M = k := by omega
      clear hX hY HCELL p3 p2 p1 hy hs1 hs3
      generalize zs.getD (M - W) 0 = Z at *
      go_enter Try.func79, Try.ntmps79
      go_wp2
      go_ret
      exact ⟨ret_int HE.out, bel_alloc _ _⟩
  · have hxb : ((X : Int) == 0) = false := by simp; omega
    by_cases hy : Y = 0
    · have HE := hide (show zs.getD (k - 1) 0 = gAt zs W kind k by rw [gAt, if_neg (fun h => hx (hX.trans h.1)), if_pos (hY ▸ hy)])
      have hc1 := HCELL.out (k - 1) (by omega)
      subst hy
      obtain rfl : M = 0 := by simp at hm; omega
      obtain rfl : X = k := by omega
      clear hX hY HCELL p3 p2 hs2 hs3 p1
      generalize zs.getD (X - 1) 0 = Z at *
      go_enter Try.func79, Try.ntmps79
      go_wp2
      go_ret
      exact ⟨ret_int HE.out, bel_alloc _ _⟩
    · have HE := hide (show insideG kind (zs.getD (k - 1) 0) (zs.getD (k - W) 0) (zs.getD (k - W - 1) 0) = gAt zs W kind k by rw [gAt, if_neg (fun h => hx (hX.trans h.1)), if_neg (fun h => hy (hY.trans h)), if_neg (fun h => hx (hX.trans h))])
      have hkW := p2 hy
      have hc1 := HCELL.out (k - 1) (by omega)
      have hc2 := HCELL.out (k - W) (by omega)
      have hc3 := HCELL.out (k - W - 1) (by omega)
      have hyb : ((Y : Int) == 0) = false := by simp; omega
      have hMW := hMW hy
      have i1 : (k : Int) - 1 = ((k - 1 : Nat) : Int) := by omega
      have i2 : (k : Int) - (W : Int) = ((k - W : Nat) : Int) := by omega
      have i3 : ((k - W : Nat) : Int) - 1 = ((k - W - 1 : Nat) : Int) := by omega
      have l1 : k - 1 < zs.length := by omega
      have l2 : k - W < zs.length := by omega
      have l3 : k - W - 1 < zs.length := by omega
      have hat : (M : Int) + (X : Int) = (k : Int) := by omega
      clear hX hY HCELL p3 p2 hy p1
      generalize zs.getD (k - 1) 0 = Z1 at *
      generalize zs.getD (k - W) 0 = Z2 at *
      generalize zs.getD (k - W - 1) 0 = Z3 at *
      generalize k - W - 1 = j3 at *
      generalize k - W = j2 at *
      generalize k - 1 = j1 at *
      go_enter Try.func79, Try.ntmps79
      go_wp2_with fail
      have HW := hide (bel_alloc w (Obj.cells #[.int .i64 W, .int .i64 H, .slice (some ⟨bk, off, none⟩) zs.length ca] 57))
      have hd1 := hc1 (Obj.cells #[.int .i64 W, .int .i64 H, .slice (some ⟨bk, off, none⟩) zs.length ca] 57)
      have hd2 := hc2 (Obj.cells #[.int .i64 W, .int .i64 H, .slice (some ⟨bk, off, none⟩) zs.length ca] 57)
      have hd3 := hc3 (Obj.cells #[.int .i64 W, .int .i64 H, .slice (some ⟨bk, off, none⟩) zs.length ca] 57)
      obtain ⟨e0, e1, e2⟩ := pl3 (Below.refl (w.alloc (Obj.cells #[.int .i64 W, .int .i64 H, .slice (some ⟨bk, off, none⟩) zs.length ca] 57)).heap.size _)
      clear hc1 hc2 hc3
      generalize w.alloc (Obj.cells #[.int .i64 W, .int .i64 H, .slice (some ⟨bk, off, none⟩) zs.length ca] 57) = w1 at *
      go_quiet ((go_at_call 119; exact Calls.quiet_of_same (guessInside_q kind Z1 Z2 Z3 hs1 hs2 hs3 _)))
      go_wp2
      go_ret
      exact ⟨ret_int HE.out, below_drewN HW.out _⟩

set_option maxRecDepth 100000 in
theorem difference_any (s g : Int) (hs : 0 ≤ s ∧ s ≤ 65535) (hg : -65536 ≤ g ∧ g ≤ 131070) (w : World) :
    Calls Try.prog 84 #[.int .i64 s, .int .i64 g] w fun e w' => e = .returned (.int .i64 (dif s g)) ∧ w = w' := by
  have ha := andTop (s - g)
  by_cases h : 32768 < (s - g) % 65536
  · have HE := hide (show (s - g) % 65536 - 65536 = dif s g by rw [dif, if_pos h])
    go_enter Try.func84, Try.ntmps84
    go_wp2
    go_ret
    exact ⟨ret_int HE.out, rfl⟩
  · have HE := hide (show (s - g) % 65536 = dif s g by rw [dif, if_neg h])
    go_enter Try.func84, Try.ntmps84
    go_wp2
    go_ret
    exact ⟨ret_int HE.out, rfl⟩

theorem halves (N k : Nat) : N / 2 ^ (k + 1) = N / 2 ^ k / 2 := by rw [Nat.pow_succ, Nat.div_div_eq_div_mul]
theorem blen_more {N k : Nat} (h : N / 2 ^ k ≠ 0) : k < blen N := blen_gt (by
  refine Decidable.byContradiction fun hn => h (Nat.div_eq_of_lt (by omega)))
theorem blen_done {N k : Nat} (h : N / 2 ^ k = 0) : blen N ≤ k := blen_le (by
  have := Nat.pow_pos (n := k) (show 0 < 2 by decide)
  rcases Nat.div_eq_zero_iff.1 h with h | h <;> omega)

set_option maxRecDepth 100000 in
set_option maxHeartbeats 400000 in
theorem classOf_any (d : Int) (h0 : -32768 < d) (h1 : d ≤ 32768) (w : World) :
    Calls Try.prog 85 #[.int .i64 d] w fun e w' => e = .returned (.int .i64 (cls d : Nat)) ∧ w = w' := by
  have hN : ∃ N : Nat, N ≤ 32768 ∧ (d = N ∨ (d = -(N : Int) ∧ 0 < N)) := ⟨d.natAbs, by omega, by omega⟩
  obtain ⟨N, hNb, hN⟩ := hN
  have HB := hide (show blen N ≤ 16 from blen_le (by omega))
  have HC := hide (show blen N = cls d by rw [cls]; congr 1; omega)
  clear h0 h1
  generalize cls d = C at *
  rcases hN with rfl | ⟨rfl, hpos⟩
  · have hdc : decide ((N : Int) < -(N : Int)) = false := by simp
    go_enter Try.func85, Try.ntmps85
    go_wp2
    go_loop [3, 4] (fun c n => ∃ k : Nat, k ≤ 16 ∧ c = .int .i64 k ∧ n = .int .i64 ((N / 2 ^ k : Nat) : Int) ∧ Hid (k ≤ blen N)) (fun c _ => 16 - (intOf c).toNat)
    case atStart => exact ⟨0, by omega, rfl, by simp, by show _ ≤ _; omega⟩
    case round =>
      obtain ⟨k, hk, rfl, rfl, HK⟩ := hrel
      have HH := hide (halves N k)
      have HM := hide (@blen_more N k)
      have HD := hide (@blen_done N k)
      have hle : N / 2 ^ k ≤ 32768 := Nat.le_trans (Nat.div_le_self _ _) hNb
      generalize N / 2 ^ k = n at *
      by_cases hn : n = 0
      · subst hn
        have HE := hide (show (k : Int) = (C : Nat) by rw [← HC.out]; have := HD.out rfl; have := HK.out; omega)
        go_wp2
        go_ret
        exact ⟨ret_int HE.out, rfl⟩
      · have hlt := HM.out hn
        have HK2 : Hid (k + 1 ≤ blen N) := hlt
        have hk2 : k + 1 ≤ 16 := by have := HB.out; omega
        clear hlt
        go_wp2
        go_round
        case rel => exact ⟨k + 1, hk2, by go_num, by rw [HH.out]; go_num, HK2⟩
        case measure => simp [intOf]; omega
  · have hdc : decide (-(N : Int) < - -(N : Int)) = true := by simp; omega
    have hdd : decide (-(N : Int) < (N : Int)) = true := by simp; omega
    have hnn : - -(N : Int) = (N : Int) := Int.neg_neg _
    go_enter Try.func85, Try.ntmps85
    go_wp2
    go_loop [3, 4] (fun c n => ∃ k : Nat, k ≤ 16 ∧ c = .int .i64 k ∧ n = .int .i64 ((N / 2 ^ k : Nat) : Int) ∧ Hid (k ≤ blen N)) (fun c _ => 16 - (intOf c).toNat)
    case atStart => exact ⟨0, by omega, rfl, by simp, by show _ ≤ _; omega⟩
    case round =>
      obtain ⟨k, hk, rfl, rfl, HK⟩ := hrel
      have HH := hide (halves N k)
      have HM := hide (@blen_more N k)
      have HD := hide (@blen_done N k)
      have hle : N / 2 ^ k ≤ 32768 := Nat.le_trans (Nat.div_le_self _ _) hNb
      generalize N / 2 ^ k = n at *
      by_cases hn : n = 0
      · subst hn
        have HE := hide (show (k : Int) = (C : Nat) by rw [← HC.out]; have := HD.out rfl; have := HK.out; omega)
        go_wp2
        go_ret
        exact ⟨ret_int HE.out, rfl⟩
      · have hlt := HM.out hn
        have HK2 : Hid (k + 1 ≤ blen N) := hlt
        have hk2 : k + 1 ≤ 16 := by have := HB.out; omega
        clear hlt
        go_wp2
        go_round
        case rel => exact ⟨k + 1, hk2, by go_num, by rw [HH.out]; go_num, HK2⟩
        case measure => simp [intOf]; omega

end Go.Proofs.Ytolcndchfnifhaa
