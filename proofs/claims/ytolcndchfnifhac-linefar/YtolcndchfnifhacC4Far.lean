/- Far: part 4 of what the proofs need. -/
import Derived.Test.YtolcndchfnifhacC1Far
import Derived.Test.YtolcndchfnifhacC2Far
import Derived.Test.YtolcndchfnifhacC3Far
import Derived.Maps.OwnSet
import Derived.Maps.OwnOps
import Derived.WideKeyEntry
import Derived.DeepKeys4
import Derived.Carry
import Derived.Laws.EntriesVeiled
namespace Go.Proofs.Ytolcndchfnifhac
set_option linter.unusedVariables false
open Go.RowKit
def levelV (zs : List Int) (W : Nat) (m : Nat → Int) (white : Int) (j : Nat) : Int := clampV ((zAt zs j - m (j / W % 2 * 2 + j % W % 2)) * 65535 / (white - m (j / W % 2 * 2 + j % W % 2)))
def gainV (zs : List Int) (W p : Nat) (m : Nat → Int) (j : Nat) : Int := clampV (zAt zs j * m (colV p (j % W) (j / W)) / 256)
theorem colV_lt3 (p X Y : Nat) : colV p X Y < 3 := by unfold colV; split <;> omega
set_option maxRecDepth 100000 in
set_option maxHeartbeats 1600000 in
theorem level1_any (W H j bk off ca : Nat) (hW1 : 1 ≤ W) (hW : W ≤ 64) (hH : H ≤ 64) (zs : List Int) (hlen : zs.length = H * W) (hzs : allIn 0 65535 zs = true) (hj : j < zs.length) (m : Nat → Int) (white : Int) (hw0 : white ≤ 65535) (hm : ∀ k, k < 4 → 0 ≤ m k ∧ m k ≤ white - 1) (Bb Bp Bg Bw : Nat) (w : World) (hBp : Bp < w.heap.size) (hBg : Bg < w.heap.size) (hbk : bk < w.heap.size)
    (k2 : w.cell? ⟨Bp, 2, none⟩ = some (.slice (some ⟨bk, off, none⟩) zs.length ca)) (g0 : w.cell? ⟨Bg, 0, none⟩ = some (.int .i64 W)) (g1 : w.cell? ⟨Bg, 1, none⟩ = some (.int .i64 H)) (hBb : Bb < w.heap.size) (hBw : Bw < w.heap.size) (kb : ∀ k, k < 4 → w.cell? ⟨Bb, k, none⟩ = some (.int .i64 (m k))) (kw : w.cell? ⟨Bw, 0, none⟩ = some (.int .i64 white))
    (hcell : ∀ j, j < zs.length → w.cell? ⟨bk, off + j, none⟩ = some (.int .i64 (zAt zs j))) :
    Calls Try.prog 54 #[.agg #[.int .i64 (j % W : Nat), .int .i64 (j / W : Nat)], .pointer (some ⟨Bb, 0, none⟩), .pointer (some ⟨Bp, 0, none⟩), .pointer (some ⟨Bg, 0, none⟩), .pointer (some ⟨Bw, 0, none⟩)] w fun e w' => e = .returned (.int .i64 (levelV zs W m white j)) ∧ Below w.heap.size w w' := by
  have HT := hide (show levelV zs W m white j = clampV ((zAt zs j - m (j / W % 2 * 2 + j % W % 2)) * 65535 / (white - m (j / W % 2 * 2 + j % W % 2))) from rfl)
  generalize levelV zs W m white j = RES at *
  have hl4 : zs.length ≤ 4096 := by rw [hlen]; exact Nat.le_trans (Nat.mul_le_mul hH hW) (by decide)
  obtain ⟨X, hX⟩ : ∃ X, j % W = X := ⟨_, rfl⟩
  obtain ⟨Y, hY⟩ : ∃ Y, j / W = Y := ⟨_, rfl⟩
  have hk : Y * W + X = j := by rw [← hX, ← hY, Nat.mul_comm]; exact Nat.div_add_mod j W
  have HIX := hide (fun v => index_any W H X Y W j rfl hk (by omega) v)
  have hzr := zAt_ok hzs j
  have hcz := hcell j hj
  have hjI : (j : Int) < (zs.length : Int) := by omega
  rw [hX, hY] at HT
  rw [hX, hY]
  obtain ⟨a, ha⟩ : ∃ a, Y % 2 = a := ⟨_, rfl⟩
  obtain ⟨b, hb⟩ : ∃ b, X % 2 = b := ⟨_, rfl⟩
  have hya : (Y : Int) % 2 = (a : Int) := by rw [← ha]; rfl
  have hxb : (X : Int) % 2 = (b : Int) := by rw [← hb]; rfl
  obtain ⟨A2, hA2⟩ : ∃ A2, a * 2 = A2 := ⟨_, rfl⟩
  have hi1 : (a : Int) * 2 = (A2 : Int) := by omega
  obtain ⟨ix, hix⟩ : ∃ ix, A2 + b = ix := ⟨_, rfl⟩
  have hi2 : (A2 : Int) + (b : Int) = (ix : Int) := by omega
  have hix4 : ix < 4 := by omega
  have hixI : (ix : Int) < 4 := by omega
  rw [ha, hb, hA2, hix] at HT
  obtain ⟨hm0, hm1⟩ := hm ix hix4
  have kb0 := kb ix hix4
  obtain ⟨bl, hbl⟩ : ∃ bl, m ix = bl := ⟨_, rfl⟩
  rw [hbl] at HT hm0 hm1 kb0
  obtain ⟨z, hz⟩ : ∃ z, zAt zs j = z := ⟨_, rfl⟩
  rw [hz] at HT hzr hcz
  obtain ⟨hz1, hz2⟩ := hzr
  obtain ⟨d, hd⟩ : ∃ d, white - bl = d := ⟨_, rfl⟩
  rw [hd] at HT
  have hd1 : 1 ≤ d := by omega
  have hd0 : ¬ (d = 0) := by omega
  obtain ⟨n, hn⟩ : ∃ n, (z - bl) * 65535 = n := ⟨_, rfl⟩
  rw [hn, ← clamp_tdiv n d (by omega)] at HT
  have hn1 : -4294967296 ≤ n ∧ n ≤ 4294967296 := by omega
  have hf := down_facts n d (by omega)
  have hr1 : -4294967296 ≤ n / d := Int.le_ediv_of_mul_le (by omega) (by omega)
  have hr2 : n / d ≤ 4294967296 := Int.ediv_le_of_le_mul (by omega) (by omega)
  obtain ⟨q, hq⟩ : ∃ q, n.tdiv d = q := ⟨_, rfl⟩
  rw [hq] at HT hf
  have hqr : -4294967297 ≤ q ∧ q ≤ 4294967298 := by omega
  obtain ⟨hq1, hq2⟩ := hqr
  have hwd : IntKind.i64.wrap (white - bl) = d := by rw [hd]; exact IntWalk.i64_in _ (by omega)
  have hwd2 : IntKind.i64.wrap d = d := IntWalk.i64_in _ (by omega)
  have hwe : IntKind.i64.wrap (z - bl) = z - bl := IntWalk.i64_in _ (by omega)
  have hwn : IntKind.i64.wrap n = n := IntWalk.i64_in _ (by omega)
  have hwq : IntKind.i64.wrap q = q := IntWalk.i64_in _ (by omega)
  clear hf hr1 hr2 hX hY ha hb hA2 hix hbl hz hk hlen hcell hm kb hzs
  have HB := hide (bel_alloc w (Obj.cells #[.int .i64 X, .int .i64 Y] 77))
  have a1 := al1 w (Obj.cells #[.int .i64 X, .int .i64 Y] 77)
  have kb1 := (HB.out.cell (p := ⟨Bb, ix, none⟩) hBb).trans kb0
  obtain ⟨s0, s1⟩ := bx2 a1
  go_enter Try.func54, Try.ntmps54
  go_wp2_with fail
  have hl1 := (Array.getElem?_eq_some_iff.1 a1).1
  generalize w.alloc (Obj.cells #[.int .i64 X, .int .i64 Y] 77) = U at *
  have HS := hide (show ∀ v, Below U.heap.size U v → v.cell? ⟨Bp, 2, none⟩ = some (.slice (some ⟨bk, off, none⟩) zs.length ca) ∧ v.cell? ⟨Bg, 0, none⟩ = some (.int .i64 W) ∧ v.cell? ⟨Bg, 1, none⟩ = some (.int .i64 H) ∧ v.cell? ⟨w.heap.size, 0, none⟩ = some (.int .i64 X) ∧ v.cell? ⟨w.heap.size, 1, none⟩ = some (.int .i64 Y) ∧ v.cell? ⟨bk, off + j, none⟩ = some (.int .i64 z) ∧ v.cell? ⟨Bw, 0, none⟩ = some (.int .i64 white) from fun v h => by
    have hw := HB.out.trans (h.mono HB.out.size)
    obtain ⟨y0, y1⟩ := bx2 ((h.block _ hl1).trans a1)
    exact ⟨(hw.cell (p := ⟨Bp, 2, none⟩) hBp).trans k2, (hw.cell (p := ⟨Bg, 0, none⟩) hBg).trans g0, (hw.cell (p := ⟨Bg, 1, none⟩) hBg).trans g1, y0, y1, (hw.cell (p := ⟨bk, off + j, none⟩) hbk).trans hcz, (hw.cell (p := ⟨Bw, 0, none⟩) hBw).trans kw⟩)
  have hWd : Below U.heap.size U U.drew := (Below.refl _ _).drew
  have hSd := HS.out _ hWd
  clear s0 s1
  have hmx : Try.prog.follows .mixedOrders = true := by kernel_rfl
  refine wp_region_last (S := fun v : World => v.cell? ⟨Bp, 2, none⟩ = some (.slice (some ⟨bk, off, none⟩) zs.length ca) ∧ v.cell? ⟨Bg, 0, none⟩ = some (.int .i64 W) ∧ v.cell? ⟨Bg, 1, none⟩ = some (.int .i64 H) ∧ v.cell? ⟨w.heap.size, 0, none⟩ = some (.int .i64 X) ∧ v.cell? ⟨w.heap.size, 1, none⟩ = some (.int .i64 Y) ∧ v.cell? ⟨bk, off + j, none⟩ = some (.int .i64 z) ∧ v.cell? ⟨Bw, 0, none⟩ = some (.int .i64 white)) (f := 15) hmx ?_
  show wpAnyF _ _ _ _ _ _ 16 _ _ U.drew
  refine wpAnyF_takeD (i := 0) (oi := _) (v := ?vv1) (some 18) rfl rfl (by kernel_rfl) (by kernel_rfl) (by kernel_rfl) (by kernel_rfl) (by kernel_rfl) (fun _ _ _ h => h) (Or.inl ⟨by rfl, ?yy1⟩) hSd ?rr1
  case yy1 => (intro wq hSq; obtain ⟨_, _, _, _, _, _, _⟩ := hSq; go_simp <;> with_reducible rfl)
  simp only [Act.put, List.setIfInBounds_toArray, List.set_cons_succ, List.set_cons_zero]
  refine wpAnyF_takeD (i := 2) (oi := _) (v := ?vv2) (some 20) rfl rfl (by kernel_rfl) (by kernel_rfl) (by kernel_rfl) (by kernel_rfl) (by kernel_rfl) (fun _ _ _ h => h) (Or.inl ⟨by rfl, ?yy2⟩) hSd ?rr2
  case yy2 => (intro wq hSq; obtain ⟨_, _, _, _, _, _, _⟩ := hSq; go_simp <;> with_reducible rfl)
  simp only [Act.put, List.setIfInBounds_toArray, List.set_cons_succ, List.set_cons_zero]
  refine wpAnyF_takeD (i := 3) (oi := _) (v := ?vv3) (some 21) rfl rfl (by kernel_rfl) (by kernel_rfl) (by kernel_rfl) (by kernel_rfl) (by kernel_rfl) (fun _ _ _ h => h) (Or.inl ⟨by rfl, ?yy3⟩) hSd ?rr3
  case yy3 => (intro wq hSq; obtain ⟨_, _, _, _, _, _, _⟩ := hSq; go_simp <;> with_reducible rfl)
  simp only [Act.put, List.setIfInBounds_toArray, List.set_cons_succ, List.set_cons_zero]
  refine wpAnyF_takeD (i := 7) (oi := _) (v := ?vv4) (some 25) rfl rfl (by kernel_rfl) (by kernel_rfl) (by kernel_rfl) (by kernel_rfl) (by kernel_rfl) (fun _ _ _ h => h) (Or.inl ⟨by rfl, ?yy4⟩) hSd ?rr4
  case yy4 => (intro wq hSq; obtain ⟨_, _, _, _, _, _, _⟩ := hSq; go_simp <;> with_reducible rfl)
  simp only [Act.put, List.setIfInBounds_toArray, List.set_cons_succ, List.set_cons_zero]
  refine wpAnyF_takeD (i := 10) (oi := _) (v := ?vv5) (some 28) rfl rfl (by kernel_rfl) (by kernel_rfl) (by kernel_rfl) (by kernel_rfl) (by kernel_rfl) (fun _ _ _ h => h) (Or.inl ⟨by rfl, ?yy5⟩) hSd ?rr5
  case yy5 => (intro wq hSq; obtain ⟨_, _, _, _, _, _, _⟩ := hSq; go_simp <;> with_reducible rfl)
  simp only [Act.put, List.setIfInBounds_toArray, List.set_cons_succ, List.set_cons_zero]
  refine wpAnyF_takeD (i := 11) (oi := _) (v := ?vv6) (some 29) rfl rfl (by kernel_rfl) (by kernel_rfl) (by kernel_rfl) (by kernel_rfl) (by kernel_rfl) (fun _ _ _ h => h) (Or.inl ⟨by rfl, ?yy6⟩) hSd ?rr6
  case yy6 => (intro wq hSq; obtain ⟨_, _, _, _, _, _, _⟩ := hSq; go_simp <;> with_reducible rfl)
  simp only [Act.put, List.setIfInBounds_toArray, List.set_cons_succ, List.set_cons_zero]
  refine wpAnyF_takeD (i := 1) (oi := _) (v := ?vv7) (some 19) rfl rfl (by kernel_rfl) (by kernel_rfl) (by kernel_rfl) (by kernel_rfl) (by kernel_rfl) (fun _ _ _ h => h) (Or.inl ⟨by rfl, ?yy7⟩) hSd ?rr7
  case yy7 => (intro wq hSq; obtain ⟨_, _, _, _, _, _, _⟩ := hSq; go_simp <;> with_reducible rfl)
  simp only [Act.put, List.setIfInBounds_toArray, List.set_cons_succ, List.set_cons_zero]
  refine wpAnyF_takeD (i := 12) (oi := _) (v := ?vv8) (some 30) rfl rfl (by kernel_rfl) (by kernel_rfl) (by kernel_rfl) (by kernel_rfl) (by kernel_rfl) (fun _ _ _ h => h) (Or.inl ⟨by rfl, ?yy8⟩) hSd ?rr8
  case yy8 => (intro wq hSq; obtain ⟨_, _, _, _, _, _, _⟩ := hSq; go_simp <;> with_reducible rfl)
  simp only [Act.put, List.setIfInBounds_toArray, List.set_cons_succ, List.set_cons_zero]
  refine wpAnyF_one (i := 4) (o := _) (by kernel_rfl) rfl (fun K' hK => ?_)
  rw [if_pos (by rfl)]
  go_simp
  refine (HIX.out _).mono ?_
  rintro e V1 ⟨rfl, hbv⟩
  have hB1 : Below U.heap.size U V1 := hWd.trans (hbv.mono hWd.size)
  have hSd := HS.out _ hB1
  refine hK.out _ _ hSd ?_
  clear hK
  try simp only [Act.put]
  refine wpAnyF_takeD (i := 5) (oi := _) (v := ?vv9) (some 23) rfl rfl (by kernel_rfl) (by kernel_rfl) (by kernel_rfl) (by kernel_rfl) (by kernel_rfl) (fun _ _ _ h => h) (Or.inl ⟨by rfl, ?yy9⟩) hSd ?rr9
  case yy9 => (intro wq hSq; obtain ⟨_, _, _, _, _, _, _⟩ := hSq; go_simp <;> with_reducible rfl)
  simp only [Act.put, List.setIfInBounds_toArray, List.set_cons_succ, List.set_cons_zero]
  refine wpAnyF_takeD (i := 6) (oi := _) (v := ?vv10) (some 24) rfl rfl (by kernel_rfl) (by kernel_rfl) (by kernel_rfl) (by kernel_rfl) (by kernel_rfl) (fun _ _ _ h => h) (Or.inl ⟨by rfl, ?yy10⟩) hSd ?rr10
  case yy10 => (intro wq hSq; obtain ⟨_, _, _, _, _, _, _⟩ := hSq; go_simp <;> with_reducible rfl)
  simp only [Act.put, List.setIfInBounds_toArray, List.set_cons_succ, List.set_cons_zero]
  refine wpAnyF_takeD (i := 8) (oi := _) (v := ?vv11) (some 26) rfl rfl (by kernel_rfl) (by kernel_rfl) (by kernel_rfl) (by kernel_rfl) (by kernel_rfl) (fun _ _ _ h => h) (Or.inl ⟨by rfl, ?yy11⟩) hSd ?rr11
  case yy11 => (intro wq hSq; obtain ⟨_, _, _, _, _, _, _⟩ := hSq; go_simp <;> with_reducible rfl)
  simp only [Act.put, List.setIfInBounds_toArray, List.set_cons_succ, List.set_cons_zero]
  refine wpAnyF_takeD (i := 9) (oi := _) (v := ?vv12) (some 27) rfl rfl (by kernel_rfl) (by kernel_rfl) (by kernel_rfl) (by kernel_rfl) (by kernel_rfl) (fun _ _ _ h => h) (Or.inl ⟨by rfl, ?yy12⟩) hSd ?rr12
  case yy12 => (intro wq hSq; obtain ⟨_, _, _, _, _, _, _⟩ := hSq; go_simp <;> with_reducible rfl)
  simp only [Act.put, List.setIfInBounds_toArray, List.set_cons_succ, List.set_cons_zero]
  refine wpAnyF_takeD (i := 13) (oi := _) (v := ?vv13) (some 31) rfl rfl (by kernel_rfl) (by kernel_rfl) (by kernel_rfl) (by kernel_rfl) (by kernel_rfl) (fun _ _ _ h => h) (Or.inl ⟨by rfl, ?yy13⟩) hSd ?rr13
  case yy13 => (intro wq hSq; obtain ⟨_, _, _, _, _, _, _⟩ := hSq; go_simp <;> with_reducible rfl)
  simp only [Act.put, List.setIfInBounds_toArray, List.set_cons_succ, List.set_cons_zero]
  refine wpAnyF_one (i := 14) (o := _) (by kernel_rfl) rfl (fun K' hK => ?_)
  rw [if_pos (by rfl)]
  go_simp
  refine (held_any _ _).mono ?_
  rintro e Vx ⟨rfl, rfl⟩
  have hSd := hSd
  refine hK.out _ _ hSd ?_
  clear hK
  try simp only [Act.put]
  refine wpAnyF_last (o := _) (by kernel_rfl) rfl (fun K' hK => ?_)
  rw [if_pos (by rfl)]
  go_simp
  refine hK.out _ _ ?_
  clear hK
  refine wpAnyF_done (by kernel_rfl) ?_ _
  try simp only [Act.put]
  go_wp2
  go_ret
  exact ⟨ret_int HT.out.symm, HB.out.trans (hB1.mono HB.out.size)⟩
set_option maxRecDepth 100000 in
set_option maxHeartbeats 1600000 in
theorem gain1_any (W H j bk off ca : Nat) (hW1 : 1 ≤ W) (hW : W ≤ 64) (hH : H ≤ 64) (zs : List Int) (hlen : zs.length = H * W) (hzs : allIn 0 65535 zs = true) (hj : j < zs.length) (p : Nat) (hp : p ≤ 3) (m : Nat → Int) (hm : ∀ k, k < 3 → 0 ≤ m k ∧ m k ≤ 65535) (Bh Bp Bg Bm : Nat) (w : World) (hBp : Bp < w.heap.size) (hBg : Bg < w.heap.size) (hbk : bk < w.heap.size)
    (k2 : w.cell? ⟨Bp, 2, none⟩ = some (.slice (some ⟨bk, off, none⟩) zs.length ca)) (g0 : w.cell? ⟨Bg, 0, none⟩ = some (.int .i64 W)) (g1 : w.cell? ⟨Bg, 1, none⟩ = some (.int .i64 H)) (hBh : Bh < w.heap.size) (hBm : Bm < w.heap.size) (kh : w.cell? ⟨Bh, 0, none⟩ = some (.int .i64 p)) (km : ∀ k, k < 3 → w.cell? ⟨Bm, k, none⟩ = some (.int .i64 (m k)))
    (hcell : ∀ j, j < zs.length → w.cell? ⟨bk, off + j, none⟩ = some (.int .i64 (zAt zs j))) :
    Calls Try.prog 67 #[.agg #[.int .i64 (j % W : Nat), .int .i64 (j / W : Nat)], .pointer (some ⟨Bh, 0, none⟩), .pointer (some ⟨Bp, 0, none⟩), .pointer (some ⟨Bg, 0, none⟩), .pointer (some ⟨Bm, 0, none⟩)] w fun e w' => e = .returned (.int .i64 (gainV zs W p m j)) ∧ Below w.heap.size w w' := by
  have HT := hide (show gainV zs W p m j = clampV (zAt zs j * m (colV p (j % W) (j / W)) / 256) from rfl)
  generalize gainV zs W p m j = RES at *
  have hl4 : zs.length ≤ 4096 := by rw [hlen]; exact Nat.le_trans (Nat.mul_le_mul hH hW) (by decide)
  obtain ⟨X, hX⟩ : ∃ X, j % W = X := ⟨_, rfl⟩
  obtain ⟨Y, hY⟩ : ∃ Y, j / W = Y := ⟨_, rfl⟩
  have hk : Y * W + X = j := by rw [← hX, ← hY, Nat.mul_comm]; exact Nat.div_add_mod j W
  have HIX := hide (fun v => index_any W H X Y W j rfl hk (by omega) v)
  have hzr := zAt_ok hzs j
  have hcz := hcell j hj
  have hjI : (j : Int) < (zs.length : Int) := by omega
  rw [hX, hY] at HT
  rw [hX, hY]
  have HCO := hide (fun v => colour_ok p X Y hp v)
  have hc3 := colV_lt3 p X Y
  obtain ⟨c, hc⟩ : ∃ c, colV p X Y = c := ⟨_, rfl⟩
  rw [hc] at HCO HT hc3
  have hcI : (c : Int) < 3 := by omega
  obtain ⟨hm0, hm1⟩ := hm c hc3
  have km0 := km c hc3
  obtain ⟨gn, hgn⟩ : ∃ gn, m c = gn := ⟨_, rfl⟩
  rw [hgn] at HT hm0 hm1 km0
  obtain ⟨z, hz⟩ : ∃ z, zAt zs j = z := ⟨_, rfl⟩
  rw [hz] at HT hzr hcz
  obtain ⟨hz1, hz2⟩ := hzr
  have hn0 : 0 ≤ z * gn := Int.mul_nonneg hz1 hm0
  have hn1 : z * gn ≤ 65535 * 65535 := Int.mul_le_mul hz2 hm1 hm0 (by omega)
  obtain ⟨n, hn⟩ : ∃ n, z * gn = n := ⟨_, rfl⟩
  rw [hn] at HT hn0 hn1
  have hq0 := Int.tdiv_eq_ediv_of_nonneg (b := 256) hn0
  rw [← hq0] at HT
  have hqr : 0 ≤ n.tdiv 256 ∧ n.tdiv 256 ≤ 4294967296 := by rw [hq0]; omega
  obtain ⟨q, hq⟩ : ∃ q, n.tdiv 256 = q := ⟨_, rfl⟩
  rw [hq] at HT hqr
  obtain ⟨hq1, hq2⟩ := hqr
  have hq3 : n / 256 = q := by rw [← hq0]; exact hq
  have hwn : IntKind.i64.wrap n = n := IntWalk.i64_in _ (by omega)
  have hwq : IntKind.i64.wrap q = q := IntWalk.i64_in _ (by omega)
  clear hq0 hX hY hc hgn hz hk hlen hcell hm km hzs
  have HB := hide (bel_alloc w (Obj.cells #[.int .i64 X, .int .i64 Y] 77))
  have a1 := al1 w (Obj.cells #[.int .i64 X, .int .i64 Y] 77)
  have kh1 := (HB.out.cell (p := ⟨Bh, 0, none⟩) hBh).trans kh
  obtain ⟨s0, s1⟩ := bx2 a1
  go_enter Try.func67, Try.ntmps67
  go_wp2_with fail
  have hl1 := (Array.getElem?_eq_some_iff.1 a1).1
  have hB0 := HB
  generalize w.alloc (Obj.cells #[.int .i64 X, .int .i64 Y] 77) = U0 at *
  refine (HCO.out _).mono ?_
  rintro e U ⟨rfl, hbU⟩
  replace HB := hide (HB.out.trans (hbU.mono HB.out.size))
  replace a1 := (hbU.block _ hl1).trans a1
  replace hl1 := (Array.getElem?_eq_some_iff.1 a1).1
  go_wp2_with fail
  clear kh1 hbU hB0
  have HS := hide (show ∀ v, Below U.heap.size U v → v.cell? ⟨Bp, 2, none⟩ = some (.slice (some ⟨bk, off, none⟩) zs.length ca) ∧ v.cell? ⟨Bg, 0, none⟩ = some (.int .i64 W) ∧ v.cell? ⟨Bg, 1, none⟩ = some (.int .i64 H) ∧ v.cell? ⟨w.heap.size, 0, none⟩ = some (.int .i64 X) ∧ v.cell? ⟨w.heap.size, 1, none⟩ = some (.int .i64 Y) ∧ v.cell? ⟨bk, off + j, none⟩ = some (.int .i64 z) ∧ v.cell? ⟨Bm, c, none⟩ = some (.int .i64 gn) from fun v h => by
    have hw := HB.out.trans (h.mono HB.out.size)
    obtain ⟨y0, y1⟩ := bx2 ((h.block _ hl1).trans a1)
    exact ⟨(hw.cell (p := ⟨Bp, 2, none⟩) hBp).trans k2, (hw.cell (p := ⟨Bg, 0, none⟩) hBg).trans g0, (hw.cell (p := ⟨Bg, 1, none⟩) hBg).trans g1, y0, y1, (hw.cell (p := ⟨bk, off + j, none⟩) hbk).trans hcz, (hw.cell (p := ⟨Bm, c, none⟩) hBm).trans km0⟩)
  have hWd : Below U.heap.size U U.drew := (Below.refl _ _).drew
  have hSd := HS.out _ hWd
  clear s0 s1
  have hmx : Try.prog.follows .mixedOrders = true := by kernel_rfl
  refine wp_region_last (S := fun v : World => v.cell? ⟨Bp, 2, none⟩ = some (.slice (some ⟨bk, off, none⟩) zs.length ca) ∧ v.cell? ⟨Bg, 0, none⟩ = some (.int .i64 W) ∧ v.cell? ⟨Bg, 1, none⟩ = some (.int .i64 H) ∧ v.cell? ⟨w.heap.size, 0, none⟩ = some (.int .i64 X) ∧ v.cell? ⟨w.heap.size, 1, none⟩ = some (.int .i64 Y) ∧ v.cell? ⟨bk, off + j, none⟩ = some (.int .i64 z) ∧ v.cell? ⟨Bm, c, none⟩ = some (.int .i64 gn)) (f := 13) hmx ?_
  show wpAnyF _ _ _ _ _ _ 14 _ _ U.drew
  refine wpAnyF_takeD (i := 0) (oi := _) (v := ?vv14) (some 18) rfl rfl (by kernel_rfl) (by kernel_rfl) (by kernel_rfl) (by kernel_rfl) (by kernel_rfl) (fun _ _ _ h => h) (Or.inl ⟨by rfl, ?yy14⟩) hSd ?rr14
  case yy14 => (intro wq hSq; obtain ⟨_, _, _, _, _, _, _⟩ := hSq; go_simp <;> with_reducible rfl)
  simp only [Act.put, List.setIfInBounds_toArray, List.set_cons_succ, List.set_cons_zero]
  refine wpAnyF_takeD (i := 2) (oi := _) (v := ?vv15) (some 20) rfl rfl (by kernel_rfl) (by kernel_rfl) (by kernel_rfl) (by kernel_rfl) (by kernel_rfl) (fun _ _ _ h => h) (Or.inl ⟨by rfl, ?yy15⟩) hSd ?rr15
  case yy15 => (intro wq hSq; obtain ⟨_, _, _, _, _, _, _⟩ := hSq; go_simp <;> with_reducible rfl)
  simp only [Act.put, List.setIfInBounds_toArray, List.set_cons_succ, List.set_cons_zero]
  refine wpAnyF_takeD (i := 3) (oi := _) (v := ?vv16) (some 21) rfl rfl (by kernel_rfl) (by kernel_rfl) (by kernel_rfl) (by kernel_rfl) (by kernel_rfl) (fun _ _ _ h => h) (Or.inl ⟨by rfl, ?yy16⟩) hSd ?rr16
  case yy16 => (intro wq hSq; obtain ⟨_, _, _, _, _, _, _⟩ := hSq; go_simp <;> with_reducible rfl)
  simp only [Act.put, List.setIfInBounds_toArray, List.set_cons_succ, List.set_cons_zero]
  refine wpAnyF_takeD (i := 7) (oi := _) (v := ?vv17) (some 25) rfl rfl (by kernel_rfl) (by kernel_rfl) (by kernel_rfl) (by kernel_rfl) (by kernel_rfl) (fun _ _ _ h => h) (Or.inl ⟨by rfl, ?yy17⟩) hSd ?rr17
  case yy17 => (intro wq hSq; obtain ⟨_, _, _, _, _, _, _⟩ := hSq; go_simp <;> with_reducible rfl)
  simp only [Act.put, List.setIfInBounds_toArray, List.set_cons_succ, List.set_cons_zero]
  refine wpAnyF_takeD (i := 1) (oi := _) (v := ?vv18) (some 19) rfl rfl (by kernel_rfl) (by kernel_rfl) (by kernel_rfl) (by kernel_rfl) (by kernel_rfl) (fun _ _ _ h => h) (Or.inl ⟨by rfl, ?yy18⟩) hSd ?rr18
  case yy18 => (intro wq hSq; obtain ⟨_, _, _, _, _, _, _⟩ := hSq; go_simp <;> with_reducible rfl)
  simp only [Act.put, List.setIfInBounds_toArray, List.set_cons_succ, List.set_cons_zero]
  refine wpAnyF_takeD (i := 8) (oi := _) (v := ?vv19) (some 26) rfl rfl (by kernel_rfl) (by kernel_rfl) (by kernel_rfl) (by kernel_rfl) (by kernel_rfl) (fun _ _ _ h => h) (Or.inl ⟨by rfl, ?yy19⟩) hSd ?rr19
  case yy19 => (intro wq hSq; obtain ⟨_, _, _, _, _, _, _⟩ := hSq; go_simp <;> with_reducible rfl)
  simp only [Act.put, List.setIfInBounds_toArray, List.set_cons_succ, List.set_cons_zero]
  refine wpAnyF_takeD (i := 9) (oi := _) (v := ?vv20) (some 27) rfl rfl (by kernel_rfl) (by kernel_rfl) (by kernel_rfl) (by kernel_rfl) (by kernel_rfl) (fun _ _ _ h => h) (Or.inl ⟨by rfl, ?yy20⟩) hSd ?rr20
  case yy20 => (intro wq hSq; obtain ⟨_, _, _, _, _, _, _⟩ := hSq; go_simp <;> with_reducible rfl)
  simp only [Act.put, List.setIfInBounds_toArray, List.set_cons_succ, List.set_cons_zero]
  refine wpAnyF_one (i := 4) (o := _) (by kernel_rfl) rfl (fun K' hK => ?_)
  rw [if_pos (by rfl)]
  go_simp
  refine (HIX.out _).mono ?_
  rintro e V1 ⟨rfl, hbv⟩
  have hB1 : Below U.heap.size U V1 := hWd.trans (hbv.mono hWd.size)
  have hSd := HS.out _ hB1
  refine hK.out _ _ hSd ?_
  clear hK
  try simp only [Act.put]
  refine wpAnyF_takeD (i := 5) (oi := _) (v := ?vv21) (some 23) rfl rfl (by kernel_rfl) (by kernel_rfl) (by kernel_rfl) (by kernel_rfl) (by kernel_rfl) (fun _ _ _ h => h) (Or.inl ⟨by rfl, ?yy21⟩) hSd ?rr21
  case yy21 => (intro wq hSq; obtain ⟨_, _, _, _, _, _, _⟩ := hSq; go_simp <;> with_reducible rfl)
  simp only [Act.put, List.setIfInBounds_toArray, List.set_cons_succ, List.set_cons_zero]
  refine wpAnyF_takeD (i := 6) (oi := _) (v := ?vv22) (some 24) rfl rfl (by kernel_rfl) (by kernel_rfl) (by kernel_rfl) (by kernel_rfl) (by kernel_rfl) (fun _ _ _ h => h) (Or.inl ⟨by rfl, ?yy22⟩) hSd ?rr22
  case yy22 => (intro wq hSq; obtain ⟨_, _, _, _, _, _, _⟩ := hSq; go_simp <;> with_reducible rfl)
  simp only [Act.put, List.setIfInBounds_toArray, List.set_cons_succ, List.set_cons_zero]
  refine wpAnyF_takeD (i := 10) (oi := _) (v := ?vv23) (some 28) rfl rfl (by kernel_rfl) (by kernel_rfl) (by kernel_rfl) (by kernel_rfl) (by kernel_rfl) (fun _ _ _ h => h) (Or.inl ⟨by rfl, ?yy23⟩) hSd ?rr23
  case yy23 => (intro wq hSq; obtain ⟨_, _, _, _, _, _, _⟩ := hSq; go_simp <;> with_reducible rfl)
  simp only [Act.put, List.setIfInBounds_toArray, List.set_cons_succ, List.set_cons_zero]
  refine wpAnyF_takeD (i := 11) (oi := _) (v := ?vv24) (some 29) rfl rfl (by kernel_rfl) (by kernel_rfl) (by kernel_rfl) (by kernel_rfl) (by kernel_rfl) (fun _ _ _ h => h) (Or.inl ⟨by rfl, ?yy24⟩) hSd ?rr24
  case yy24 => (intro wq hSq; obtain ⟨_, _, _, _, _, _, _⟩ := hSq; go_simp <;> with_reducible rfl)
  simp only [Act.put, List.setIfInBounds_toArray, List.set_cons_succ, List.set_cons_zero]
  refine wpAnyF_one (i := 12) (o := _) (by kernel_rfl) rfl (fun K' hK => ?_)
  rw [if_pos (by rfl)]
  go_simp
  refine (held_any _ _).mono ?_
  rintro e Vx ⟨rfl, rfl⟩
  have hSd := hSd
  refine hK.out _ _ hSd ?_
  clear hK
  try simp only [Act.put]
  refine wpAnyF_last (o := _) (by kernel_rfl) rfl (fun K' hK => ?_)
  rw [if_pos (by rfl)]
  go_simp
  refine hK.out _ _ ?_
  clear hK
  refine wpAnyF_done (by kernel_rfl) ?_ _
  try simp only [Act.put]
  go_wp2
  go_ret
  exact ⟨ret_int HT.out.symm, HB.out.trans (hB1.mono HB.out.size)⟩
end Go.Proofs.Ytolcndchfnifhac

namespace Go.Proofs.Ytolcndchfnifhac
set_option linter.unusedVariables false
open Go.RowKit
theorem fourA_cells {w : World} {b : Nat} {t : TypeId} {fr : Nat × Nat} {m : Nat → Int} (h : w.heap[b]? = some (.cells (fourA m) t fr)) :
    w.cell? ⟨b, 0, none⟩ = some (.int .i64 (m 0)) ∧ w.cell? ⟨b, 1, none⟩ = some (.int .i64 (m 1)) ∧ w.cell? ⟨b, 2, none⟩ = some (.int .i64 (m 2)) ∧ w.cell? ⟨b, 3, none⟩ = some (.int .i64 (m 3)) :=
  ⟨by rw [Lib.cell_of_heap h]; rfl, by rw [Lib.cell_of_heap h]; rfl, by rw [Lib.cell_of_heap h]; rfl, by rw [Lib.cell_of_heap h]; rfl⟩
def levE (W H : Int) (zs : List Int) (m : Nat → Int) (white : Int) : Int := if planeOk W H zs = true then (if levelsOk m white = true then 0 else 3) else 1
def levL (W : Int) (zs : List Int) (m : Nat → Int) (white : Int) : List Int := (List.range zs.length).map (levelV zs W.toNat m white)
set_option maxRecDepth 100000 in
set_option maxHeartbeats 1600000 in
theorem level_any (W H : Int) (v : Value) (zs : List Int) (m : Nat → Int) (white : Int) (w : World) (hv : IsInts w v zs) :
    Calls Try.prog 52 #[.agg #[.int .i64 W, .int .i64 H, v], .agg (fourA m), .int .i64 white] w fun e w' => ∃ r, e = .returned (.tuple #[.agg #[.int .i64 (okW (levE W H zs m white) W), .int .i64 (okW (levE W H zs m white) H), r], .int .i64 (levE W H zs m white)]) ∧ IsInts w' r (okL (levE W H zs m white) (levL W zs m white)) ∧ Below w.heap.size w w' ∧ Fresh w.heap.size r := by
  have HV := hide hv
  obtain ⟨E, hE⟩ : ∃ E, levE W H zs m white = E := ⟨_, rfl⟩
  rw [hE]
  by_cases hp : planeOk W H zs = true
  · by_cases hph : levelsOk m white = true
    · have he : E = 0 := by rw [← hE, levE, if_pos hp, if_pos hph]
      subst he
      clear hE
      obtain ⟨⟨w1, w2⟩, ⟨h1, h2⟩, hl, _⟩ := planeOk_parts hp
      have hz := planeOk_all hp
      have hph3 := hph
      rw [levelsOk, Bool.and_eq_true] at hph3
      have hph2 : 1 ≤ white ∧ white ≤ 65535 := by simpa using hph3.1
      have HMM := hide (fun k (hk : k < 4) => arrL_all hph3.2 k hk)
      have hsm := side_mul ⟨w1, w2⟩ ⟨h1, h2⟩
      have hn1 : 1 ≤ zs.length := by omega
      obtain ⟨bk, off, ca, rfl, hbk, hcell⟩ := hv.cells hn1
      obtain ⟨WN, rfl⟩ := Int.eq_ofNat_of_zero_le (show 0 ≤ W by omega)
      obtain ⟨HN, rfl⟩ := Int.eq_ofNat_of_zero_le (show 0 ≤ H by omega)
      have HLEN := hide (show zs.length = HN * WN by rw [Nat.mul_comm]; exact_mod_cast hl)
      have HZ := hide hz
      have HC := hide hcell
      rw [show okW 0 (WN : Int) = WN from rfl, show okW 0 (HN : Int) = HN from rfl, show okL 0 (levL (WN : Int) zs m white) = (List.range zs.length).map (levelV zs WN m white) from rfl]
      clear hl hz hcell hsm hv hph3
      go_enter Try.func52, Try.ntmps52
      go_wp2_with fail
      obtain ⟨a1, a2, a3, a4⟩ := al4 w (Obj.cells #[.int .i64 (WN : Nat), .int .i64 (HN : Nat), .slice (some ⟨bk, off, none⟩) zs.length ca] 31) (Obj.cells (fourA m) 22) (Obj.cells #[.int .i64 white] 3) (Obj.cells #[.int .i64 0, .int .i64 0, .slice none 0 0] 31)
      have hB := be4 w (Obj.cells #[.int .i64 (WN : Nat), .int .i64 (HN : Nat), .slice (some ⟨bk, off, none⟩) zs.length ca] 31) (Obj.cells (fourA m) 22) (Obj.cells #[.int .i64 white] 3) (Obj.cells #[.int .i64 0, .int .i64 0, .slice none 0 0] 31)
      have hs3 : ((((w.alloc (Obj.cells #[.int .i64 (WN : Nat), .int .i64 (HN : Nat), .slice (some ⟨bk, off, none⟩) zs.length ca] 31)).alloc (Obj.cells (fourA m) 22)).alloc (Obj.cells #[.int .i64 white] 3)).alloc (Obj.cells #[.int .i64 0, .int .i64 0, .slice none 0 0] 31)).heap.size = w.heap.size + 4 := by simp
      generalize (((w.alloc (Obj.cells #[.int .i64 (WN : Nat), .int .i64 (HN : Nat), .slice (some ⟨bk, off, none⟩) zs.length ca] 31)).alloc (Obj.cells (fourA m) 22)).alloc (Obj.cells #[.int .i64 white] 3)).alloc (Obj.cells #[.int .i64 0, .int .i64 0, .slice none 0 0] 31) = U at *
      refine (plane_any WN HN _ zs _ (HV.out.below hB (Nat.le_refl _))).mono ?_
      rintro e w1 ⟨rfl, hb1⟩
      rw [hp]
      have g4 := (hb1.block (w.heap.size + 3) (by omega)).trans a4
      obtain ⟨n0, n1, n2, n3⟩ := fourA_cells ((hb1.block (w.heap.size + 1) (by omega)).trans a2)
      have g3 := bx1 ((hb1.block (w.heap.size + 1 + 1) (by omega)).trans a3)
      go_wp2_with fail
      refine (levels_any m white _).mono ?_
      rintro e w2 ⟨rfl, hb2⟩
      rw [hph]
      clear n0 n1 n2 n3 g3
      replace hb2 := bel_trans hb1 hb2
      replace g4 := (hb2.block (w.heap.size + 3) (by omega)).trans a4
      obtain ⟨p0, p1, p2⟩ := cells3 ((hb2.block (w.heap.size) (by omega)).trans a1)
      go_wp2_with fail
      have hbG := bel_trans hb2 (bel_alloc w2 (Obj.cells #[.int .i64 (WN : Nat), .int .i64 (HN : Nat)] 52))
      have aG := al1 w2 (Obj.cells #[.int .i64 (WN : Nat), .int .i64 (HN : Nat)] 52)
      have hlG := (Array.getElem?_eq_some_iff.1 aG).1
      have hs2 := hb2.size
      clear p0 p1 p2
      generalize w2.alloc (Obj.cells #[.int .i64 (WN : Nat), .int .i64 (HN : Nat)] 52) = w2g at *
      refine (gridPlane_any WN HN zs.length (by omega) (by omega) HLEN.out 54 #[.pointer (some ⟨w.heap.size + 1, 0, none⟩), .pointer (some ⟨w.heap.size, 0, none⟩), .pointer (some ⟨w2.heap.size, 0, none⟩), .pointer (some ⟨w.heap.size + 1 + 1, 0, none⟩)] (levelV zs WN m white) _ (enters_of Try.func54 (by kernel_rfl) rfl) ?_).mono ?_
      · intro j V hj hV
        have hb3 := bel_trans hbG hV
        have hbw := hB.trans (hb3.mono hB.size)
        obtain ⟨e0, e1, e2⟩ := cells3 ((hb3.block (w.heap.size) (by omega)).trans a1)
        have e3 := bx1 ((hb3.block (w.heap.size + 2) (by omega)).trans a3)
        have e6 := (hb3.block (w.heap.size + 1) (by omega)).trans a2
        obtain ⟨e4, e5⟩ := bx2 ((hV.block w2.heap.size hlG).trans aG)
        have hs := hb3.size
        have hsV := hV.size
        exact level1_any WN HN j bk off ca (by omega) (by omega) (by omega) zs HLEN.out HZ.out hj m white (by omega) (fun k hk => HMM.out k hk) (w.heap.size + 1) w.heap.size w2.heap.size (w.heap.size + 2) V (by omega) (by omega) (Nat.lt_of_lt_of_le hbk hbw.size) e2 e4 e5 (by omega) (by omega) (fun k hk => by rw [Lib.cell_of_heap e6, fourA_get m k hk]) e3 (fun i hi => (hbw.cell (p := ⟨bk, off + i, none⟩) hbk).trans (HC.out i hi))
      · rintro e w3 ⟨r, rfl, hr, hb3, hfr⟩
        replace hb3 := bel_trans hbG hb3
        replace g4 := (hb3.block (w.heap.size + 3) (by omega)).trans a4
        obtain ⟨z0, z1, z2⟩ := cells3 (b := w.heap.size + 1 + 1 + 1) g4
        have f0 := Lib.frozen_of_heap (b := w.heap.size + 1 + 1 + 1) g4 0
        have f1 := Lib.frozen_of_heap (b := w.heap.size + 1 + 1 + 1) g4 1
        have f2 := Lib.frozen_of_heap (b := w.heap.size + 1 + 1 + 1) g4 2
        have HR := hide hr
        obtain ⟨ro, rc, rfl, _, _⟩ := hr
        have HFIN := hide (set3_below (hB.trans (hb3.mono hB.size)) (show w.heap.size ≤ w.heap.size + 1 + 1 + 1 by omega) (.int .i64 (WN : Nat)) (.int .i64 (HN : Nat)) (.slice ro ((List.range zs.length).map (levelV zs WN m white)).length rc))
        have hsG := hbG.size
        have HPX2 := hide (HR.out.set3 hfr (show w.heap.size + 1 + 1 + 1 < w2g.heap.size by omega) (.int .i64 (WN : Nat)) (.int .i64 (HN : Nat)) (.slice ro ((List.range zs.length).map (levelV zs WN m white)).length rc))
        rw [List.length_map, List.length_range] at HPX2 HFIN hfr
        rw [List.length_map, List.length_range]
        go_wp2
        exact bodyPost_ret (v := .tuple #[.agg #[.int .i64 (WN : Nat), .int .i64 (HN : Nat), .slice ro zs.length rc], .int .i64 0]) (by simp [results, Try.results52, go_sem, z0, z1, z2]) rfl ⟨_, rfl, HPX2.out, HFIN.out, hfr.mono (by omega)⟩
    · have he : E = 3 := by rw [← hE, levE, if_pos hp, if_neg hph]
      have hph : levelsOk m white = false := by simpa using hph
      subst he
      clear hE
      obtain ⟨ao, ca, rfl, _, _⟩ := hv
      go_enter Try.func52, Try.ntmps52
      go_wp2_with fail
      obtain ⟨a1, a2, a3, a4⟩ := al4 w (Obj.cells #[.int .i64 W, .int .i64 H, .slice ao zs.length ca] 31) (Obj.cells (fourA m) 22) (Obj.cells #[.int .i64 white] 3) (Obj.cells #[.int .i64 0, .int .i64 0, .slice none 0 0] 31)
      have hB := be4 w (Obj.cells #[.int .i64 W, .int .i64 H, .slice ao zs.length ca] 31) (Obj.cells (fourA m) 22) (Obj.cells #[.int .i64 white] 3) (Obj.cells #[.int .i64 0, .int .i64 0, .slice none 0 0] 31)
      have hs3 : ((((w.alloc (Obj.cells #[.int .i64 W, .int .i64 H, .slice ao zs.length ca] 31)).alloc (Obj.cells (fourA m) 22)).alloc (Obj.cells #[.int .i64 white] 3)).alloc (Obj.cells #[.int .i64 0, .int .i64 0, .slice none 0 0] 31)).heap.size = w.heap.size + 4 := by simp
      generalize (((w.alloc (Obj.cells #[.int .i64 W, .int .i64 H, .slice ao zs.length ca] 31)).alloc (Obj.cells (fourA m) 22)).alloc (Obj.cells #[.int .i64 white] 3)).alloc (Obj.cells #[.int .i64 0, .int .i64 0, .slice none 0 0] 31) = U at *
      refine (plane_any W H _ zs _ (HV.out.below hB (Nat.le_refl _))).mono ?_
      rintro e w1 ⟨rfl, hb1⟩
      rw [hp]
      have g4 := (hb1.block (w.heap.size + 3) (by omega)).trans a4
      obtain ⟨n0, n1, n2, n3⟩ := fourA_cells ((hb1.block (w.heap.size + 1) (by omega)).trans a2)
      have g3 := bx1 ((hb1.block (w.heap.size + 1 + 1) (by omega)).trans a3)
      go_wp2_with fail
      refine (levels_any m white _).mono ?_
      rintro e w2 ⟨rfl, hb2⟩
      rw [hph]
      clear n0 n1 n2 n3 g3
      replace hb2 := bel_trans hb1 hb2
      replace g4 := (hb2.block (w.heap.size + 3) (by omega)).trans a4
      obtain ⟨z0, z1, z2⟩ := cells3 (b := w.heap.size + 1 + 1 + 1) g4
      have f0 := Lib.frozen_of_heap (b := w.heap.size + 1 + 1 + 1) g4 0
      have f1 := Lib.frozen_of_heap (b := w.heap.size + 1 + 1 + 1) g4 1
      have f2 := Lib.frozen_of_heap (b := w.heap.size + 1 + 1 + 1) g4 2
      have HFIN := hide (set3_below (hB.trans (hb2.mono hB.size)) (show w.heap.size ≤ w.heap.size + 1 + 1 + 1 by omega) (.int .i64 0) (.int .i64 0) (.slice none 0 0))
      go_wp2
      exact bodyPost_ret (v := .tuple #[.agg #[.int .i64 0, .int .i64 0, .slice none 0 0], .int .i64 3]) (by simp [results, Try.results52, go_sem, z0, z1, z2]) rfl ⟨.slice none 0 0, rfl, IsInts.nil _, HFIN.out, Fresh.nil _⟩
  · have he : E = 1 := by rw [← hE, levE, if_neg hp]
    have hp : planeOk W H zs = false := by simpa using hp
    subst he
    clear hE
    obtain ⟨ao, ca, rfl, _, _⟩ := hv
    go_enter Try.func52, Try.ntmps52
    go_wp2_with fail
    obtain ⟨a1, a2, a3, a4⟩ := al4 w (Obj.cells #[.int .i64 W, .int .i64 H, .slice ao zs.length ca] 31) (Obj.cells (fourA m) 22) (Obj.cells #[.int .i64 white] 3) (Obj.cells #[.int .i64 0, .int .i64 0, .slice none 0 0] 31)
    have hB := be4 w (Obj.cells #[.int .i64 W, .int .i64 H, .slice ao zs.length ca] 31) (Obj.cells (fourA m) 22) (Obj.cells #[.int .i64 white] 3) (Obj.cells #[.int .i64 0, .int .i64 0, .slice none 0 0] 31)
    have hs3 : ((((w.alloc (Obj.cells #[.int .i64 W, .int .i64 H, .slice ao zs.length ca] 31)).alloc (Obj.cells (fourA m) 22)).alloc (Obj.cells #[.int .i64 white] 3)).alloc (Obj.cells #[.int .i64 0, .int .i64 0, .slice none 0 0] 31)).heap.size = w.heap.size + 4 := by simp
    generalize (((w.alloc (Obj.cells #[.int .i64 W, .int .i64 H, .slice ao zs.length ca] 31)).alloc (Obj.cells (fourA m) 22)).alloc (Obj.cells #[.int .i64 white] 3)).alloc (Obj.cells #[.int .i64 0, .int .i64 0, .slice none 0 0] 31) = U at *
    refine (plane_any W H _ zs _ (HV.out.below hB (Nat.le_refl _))).mono ?_
    rintro e w1 ⟨rfl, hb1⟩
    rw [hp]
    have g4 := (hb1.block (w.heap.size + 3) (by omega)).trans a4
    generalize w1 = w2 at *
    have hb2 := hb1
    obtain ⟨z0, z1, z2⟩ := cells3 (b := w.heap.size + 1 + 1 + 1) g4
    have f0 := Lib.frozen_of_heap (b := w.heap.size + 1 + 1 + 1) g4 0
    have f1 := Lib.frozen_of_heap (b := w.heap.size + 1 + 1 + 1) g4 1
    have f2 := Lib.frozen_of_heap (b := w.heap.size + 1 + 1 + 1) g4 2
    have HFIN := hide (set3_below (hB.trans (hb2.mono hB.size)) (show w.heap.size ≤ w.heap.size + 1 + 1 + 1 by omega) (.int .i64 0) (.int .i64 0) (.slice none 0 0))
    go_wp2
    exact bodyPost_ret (v := .tuple #[.agg #[.int .i64 0, .int .i64 0, .slice none 0 0], .int .i64 1]) (by simp [results, Try.results52, go_sem, z0, z1, z2]) rfl ⟨.slice none 0 0, rfl, IsInts.nil _, HFIN.out, Fresh.nil _⟩
end Go.Proofs.Ytolcndchfnifhac

namespace Go.Proofs.Ytolcndchfnifhac
set_option linter.unusedVariables false
open Go.RowKit
def gaiE (W H : Int) (zs : List Int) (phase : Int) (m : Nat → Int) : Int := if planeOk W H zs = true then (if phaseOk phase = true ∧ gainsOk m = true then 0 else 3) else 1
def gaiL (W : Int) (zs : List Int) (phase : Int) (m : Nat → Int) : List Int := (List.range zs.length).map (gainV zs W.toNat phase.toNat m)
set_option maxRecDepth 100000 in
set_option maxHeartbeats 1600000 in
theorem gain_any (W H : Int) (v : Value) (zs : List Int) (phase : Int) (m : Nat → Int) (w : World) (hv : IsInts w v zs) :
    Calls Try.prog 66 #[.agg #[.int .i64 W, .int .i64 H, v], .int .i64 phase, .agg (threeA m)] w fun e w' => ∃ r, e = .returned (.tuple #[.agg #[.int .i64 (okW (gaiE W H zs phase m) W), .int .i64 (okW (gaiE W H zs phase m) H), r], .int .i64 (gaiE W H zs phase m)]) ∧ IsInts w' r (okL (gaiE W H zs phase m) (gaiL W zs phase m)) ∧ Below w.heap.size w w' ∧ Fresh w.heap.size r := by
  have HV := hide hv
  obtain ⟨E, hE⟩ : ∃ E, gaiE W H zs phase m = E := ⟨_, rfl⟩
  rw [hE]
  by_cases hp : planeOk W H zs = true
  · by_cases hph : phaseOk phase = true
    · by_cases hgn : gainsOk m = true
      · have he : E = 0 := by rw [← hE, gaiE, if_pos hp, if_pos ⟨hph, hgn⟩]
        subst he
        clear hE
        obtain ⟨⟨w1, w2⟩, ⟨h1, h2⟩, hl, _⟩ := planeOk_parts hp
        have hz := planeOk_all hp
        have hph2 : 0 ≤ phase ∧ phase ≤ 3 := by simpa [phaseOk] using hph
        have HMM := hide (fun k (hk : k < 3) => arrL_all hgn k hk)
        have hsm := side_mul ⟨w1, w2⟩ ⟨h1, h2⟩
        have hn1 : 1 ≤ zs.length := by omega
        obtain ⟨bk, off, ca, rfl, hbk, hcell⟩ := hv.cells hn1
        obtain ⟨WN, rfl⟩ := Int.eq_ofNat_of_zero_le (show 0 ≤ W by omega)
        obtain ⟨HN, rfl⟩ := Int.eq_ofNat_of_zero_le (show 0 ≤ H by omega)
        obtain ⟨PN, rfl⟩ := Int.eq_ofNat_of_zero_le hph2.1
        have HLEN := hide (show zs.length = HN * WN by rw [Nat.mul_comm]; exact_mod_cast hl)
        have HZ := hide hz
        have HC := hide hcell
        rw [show okW 0 (WN : Int) = WN from rfl, show okW 0 (HN : Int) = HN from rfl, show okL 0 (gaiL (WN : Int) zs (PN : Int) m) = (List.range zs.length).map (gainV zs WN PN m) from rfl]
        clear hl hz hcell hsm hv
        go_enter Try.func66, Try.ntmps66
        go_wp2_with fail
        obtain ⟨a1, a2, a3, a4⟩ := al4 w (Obj.cells #[.int .i64 (WN : Nat), .int .i64 (HN : Nat), .slice (some ⟨bk, off, none⟩) zs.length ca] 31) (Obj.cells #[.int .i64 (PN : Nat)] 3) (Obj.cells (threeA m) 24) (Obj.cells #[.int .i64 0, .int .i64 0, .slice none 0 0] 31)
        have hB := be4 w (Obj.cells #[.int .i64 (WN : Nat), .int .i64 (HN : Nat), .slice (some ⟨bk, off, none⟩) zs.length ca] 31) (Obj.cells #[.int .i64 (PN : Nat)] 3) (Obj.cells (threeA m) 24) (Obj.cells #[.int .i64 0, .int .i64 0, .slice none 0 0] 31)
        have hs3 : ((((w.alloc (Obj.cells #[.int .i64 (WN : Nat), .int .i64 (HN : Nat), .slice (some ⟨bk, off, none⟩) zs.length ca] 31)).alloc (Obj.cells #[.int .i64 (PN : Nat)] 3)).alloc (Obj.cells (threeA m) 24)).alloc (Obj.cells #[.int .i64 0, .int .i64 0, .slice none 0 0] 31)).heap.size = w.heap.size + 4 := by simp
        generalize (((w.alloc (Obj.cells #[.int .i64 (WN : Nat), .int .i64 (HN : Nat), .slice (some ⟨bk, off, none⟩) zs.length ca] 31)).alloc (Obj.cells #[.int .i64 (PN : Nat)] 3)).alloc (Obj.cells (threeA m) 24)).alloc (Obj.cells #[.int .i64 0, .int .i64 0, .slice none 0 0] 31) = U at *
        refine (plane_any WN HN _ zs _ (HV.out.below hB (Nat.le_refl _))).mono ?_
        rintro e w1 ⟨rfl, hb1⟩
        rw [hp]
        have g4 := (hb1.block (w.heap.size + 3) (by omega)).trans a4
        have g2 := bx1 ((hb1.block (w.heap.size + 1) (by omega)).trans a2)
        go_wp2_with fail
        refine (phase_any _ _).mono ?_
        rintro e w2 ⟨rfl, hb2⟩
        rw [hph]
        clear g2
        replace hb2 := bel_trans hb1 hb2
        replace g4 := (hb2.block (w.heap.size + 3) (by omega)).trans a4
        obtain ⟨n0, n1, n2⟩ := cells3 (b := w.heap.size + 1 + 1) ((hb2.block (w.heap.size + 2) (by omega)).trans a3)
        go_wp2_with fail
        refine (gains_any m _).mono ?_
        rintro e w2b ⟨rfl, hb2b⟩
        rw [hgn]
        clear n0 n1 n2
        replace hb2 := bel_trans hb2 hb2b
        clear hb2b
        generalize w2b = w2 at *
        replace g4 := (hb2.block (w.heap.size + 3) (by omega)).trans a4
        obtain ⟨p0, p1, p2⟩ := cells3 ((hb2.block (w.heap.size) (by omega)).trans a1)
        go_wp2_with fail
        have hbG := bel_trans hb2 (bel_alloc w2 (Obj.cells #[.int .i64 (WN : Nat), .int .i64 (HN : Nat)] 52))
        have aG := al1 w2 (Obj.cells #[.int .i64 (WN : Nat), .int .i64 (HN : Nat)] 52)
        have hlG := (Array.getElem?_eq_some_iff.1 aG).1
        have hs2 := hb2.size
        clear p0 p1 p2
        generalize w2.alloc (Obj.cells #[.int .i64 (WN : Nat), .int .i64 (HN : Nat)] 52) = w2g at *
        refine (gridPlane_any WN HN zs.length (by omega) (by omega) HLEN.out 67 #[.pointer (some ⟨w.heap.size + 1, 0, none⟩), .pointer (some ⟨w.heap.size, 0, none⟩), .pointer (some ⟨w2.heap.size, 0, none⟩), .pointer (some ⟨w.heap.size + 1 + 1, 0, none⟩)] (gainV zs WN PN m) _ (enters_of Try.func67 (by kernel_rfl) rfl) ?_).mono ?_
        · intro j V hj hV
          have hb3 := bel_trans hbG hV
          have hbw := hB.trans (hb3.mono hB.size)
          obtain ⟨e0, e1, e2⟩ := cells3 ((hb3.block (w.heap.size) (by omega)).trans a1)
          have e3 := bx1 ((hb3.block (w.heap.size + 1) (by omega)).trans a2)
          have e6 := (hb3.block (w.heap.size + 2) (by omega)).trans a3
          obtain ⟨e4, e5⟩ := bx2 ((hV.block w2.heap.size hlG).trans aG)
          have hs := hb3.size
          have hsV := hV.size
          exact gain1_any WN HN j bk off ca (by omega) (by omega) (by omega) zs HLEN.out HZ.out hj PN (by omega) m (fun k hk => HMM.out k hk) (w.heap.size + 1) w.heap.size w2.heap.size (w.heap.size + 2) V (by omega) (by omega) (Nat.lt_of_lt_of_le hbk hbw.size) e2 e4 e5 (by omega) (by omega) e3 (fun k hk => by rw [Lib.cell_of_heap e6, threeA_get m k hk]) (fun i hi => (hbw.cell (p := ⟨bk, off + i, none⟩) hbk).trans (HC.out i hi))
        · rintro e w3 ⟨r, rfl, hr, hb3, hfr⟩
          replace hb3 := bel_trans hbG hb3
          replace g4 := (hb3.block (w.heap.size + 3) (by omega)).trans a4
          obtain ⟨z0, z1, z2⟩ := cells3 (b := w.heap.size + 1 + 1 + 1) g4
          have f0 := Lib.frozen_of_heap (b := w.heap.size + 1 + 1 + 1) g4 0
          have f1 := Lib.frozen_of_heap (b := w.heap.size + 1 + 1 + 1) g4 1
          have f2 := Lib.frozen_of_heap (b := w.heap.size + 1 + 1 + 1) g4 2
          have HR := hide hr
          obtain ⟨ro, rc, rfl, _, _⟩ := hr
          have HFIN := hide (set3_below (hB.trans (hb3.mono hB.size)) (show w.heap.size ≤ w.heap.size + 1 + 1 + 1 by omega) (.int .i64 (WN : Nat)) (.int .i64 (HN : Nat)) (.slice ro ((List.range zs.length).map (gainV zs WN PN m)).length rc))
          have hsG := hbG.size
          have HPX2 := hide (HR.out.set3 hfr (show w.heap.size + 1 + 1 + 1 < w2g.heap.size by omega) (.int .i64 (WN : Nat)) (.int .i64 (HN : Nat)) (.slice ro ((List.range zs.length).map (gainV zs WN PN m)).length rc))
          rw [List.length_map, List.length_range] at HPX2 HFIN hfr
          rw [List.length_map, List.length_range]
          go_wp2
          exact bodyPost_ret (v := .tuple #[.agg #[.int .i64 (WN : Nat), .int .i64 (HN : Nat), .slice ro zs.length rc], .int .i64 0]) (by simp [results, Try.results66, go_sem, z0, z1, z2]) rfl ⟨_, rfl, HPX2.out, HFIN.out, hfr.mono (by omega)⟩
      · have he : E = 3 := by rw [← hE, gaiE, if_pos hp, if_neg (fun h => hgn h.2)]
        have hgn : gainsOk m = false := by simpa using hgn
        subst he
        clear hE
        obtain ⟨ao, ca, rfl, _, _⟩ := hv
        go_enter Try.func66, Try.ntmps66
        go_wp2_with fail
        obtain ⟨a1, a2, a3, a4⟩ := al4 w (Obj.cells #[.int .i64 W, .int .i64 H, .slice ao zs.length ca] 31) (Obj.cells #[.int .i64 phase] 3) (Obj.cells (threeA m) 24) (Obj.cells #[.int .i64 0, .int .i64 0, .slice none 0 0] 31)
        have hB := be4 w (Obj.cells #[.int .i64 W, .int .i64 H, .slice ao zs.length ca] 31) (Obj.cells #[.int .i64 phase] 3) (Obj.cells (threeA m) 24) (Obj.cells #[.int .i64 0, .int .i64 0, .slice none 0 0] 31)
        have hs3 : ((((w.alloc (Obj.cells #[.int .i64 W, .int .i64 H, .slice ao zs.length ca] 31)).alloc (Obj.cells #[.int .i64 phase] 3)).alloc (Obj.cells (threeA m) 24)).alloc (Obj.cells #[.int .i64 0, .int .i64 0, .slice none 0 0] 31)).heap.size = w.heap.size + 4 := by simp
        generalize (((w.alloc (Obj.cells #[.int .i64 W, .int .i64 H, .slice ao zs.length ca] 31)).alloc (Obj.cells #[.int .i64 phase] 3)).alloc (Obj.cells (threeA m) 24)).alloc (Obj.cells #[.int .i64 0, .int .i64 0, .slice none 0 0] 31) = U at *
        refine (plane_any W H _ zs _ (HV.out.below hB (Nat.le_refl _))).mono ?_
        rintro e w1 ⟨rfl, hb1⟩
        rw [hp]
        have g4 := (hb1.block (w.heap.size + 3) (by omega)).trans a4
        have g2 := bx1 ((hb1.block (w.heap.size + 1) (by omega)).trans a2)
        go_wp2_with fail
        refine (phase_any _ _).mono ?_
        rintro e w2 ⟨rfl, hb2⟩
        rw [hph]
        clear g2
        replace hb2 := bel_trans hb1 hb2
        replace g4 := (hb2.block (w.heap.size + 3) (by omega)).trans a4
        obtain ⟨n0, n1, n2⟩ := cells3 (b := w.heap.size + 1 + 1) ((hb2.block (w.heap.size + 2) (by omega)).trans a3)
        go_wp2_with fail
        refine (gains_any m _).mono ?_
        rintro e w2b ⟨rfl, hb2b⟩
        rw [hgn]
        clear n0 n1 n2
        replace hb2 := bel_trans hb2 hb2b
        clear hb2b
        generalize w2b = w2 at *
        replace g4 := (hb2.block (w.heap.size + 3) (by omega)).trans a4
        obtain ⟨z0, z1, z2⟩ := cells3 (b := w.heap.size + 1 + 1 + 1) g4
        have f0 := Lib.frozen_of_heap (b := w.heap.size + 1 + 1 + 1) g4 0
        have f1 := Lib.frozen_of_heap (b := w.heap.size + 1 + 1 + 1) g4 1
        have f2 := Lib.frozen_of_heap (b := w.heap.size + 1 + 1 + 1) g4 2
        have HFIN := hide (set3_below (hB.trans (hb2.mono hB.size)) (show w.heap.size ≤ w.heap.size + 1 + 1 + 1 by omega) (.int .i64 0) (.int .i64 0) (.slice none 0 0))
        go_wp2
        exact bodyPost_ret (v := .tuple #[.agg #[.int .i64 0, .int .i64 0, .slice none 0 0], .int .i64 3]) (by simp [results, Try.results66, go_sem, z0, z1, z2]) rfl ⟨.slice none 0 0, rfl, IsInts.nil _, HFIN.out, Fresh.nil _⟩
    · have he : E = 3 := by rw [← hE, gaiE, if_pos hp, if_neg (fun h => hph h.1)]
      have hph : phaseOk phase = false := by simpa using hph
      subst he
      clear hE
      obtain ⟨ao, ca, rfl, _, _⟩ := hv
      go_enter Try.func66, Try.ntmps66
      go_wp2_with fail
      obtain ⟨a1, a2, a3, a4⟩ := al4 w (Obj.cells #[.int .i64 W, .int .i64 H, .slice ao zs.length ca] 31) (Obj.cells #[.int .i64 phase] 3) (Obj.cells (threeA m) 24) (Obj.cells #[.int .i64 0, .int .i64 0, .slice none 0 0] 31)
      have hB := be4 w (Obj.cells #[.int .i64 W, .int .i64 H, .slice ao zs.length ca] 31) (Obj.cells #[.int .i64 phase] 3) (Obj.cells (threeA m) 24) (Obj.cells #[.int .i64 0, .int .i64 0, .slice none 0 0] 31)
      have hs3 : ((((w.alloc (Obj.cells #[.int .i64 W, .int .i64 H, .slice ao zs.length ca] 31)).alloc (Obj.cells #[.int .i64 phase] 3)).alloc (Obj.cells (threeA m) 24)).alloc (Obj.cells #[.int .i64 0, .int .i64 0, .slice none 0 0] 31)).heap.size = w.heap.size + 4 := by simp
      generalize (((w.alloc (Obj.cells #[.int .i64 W, .int .i64 H, .slice ao zs.length ca] 31)).alloc (Obj.cells #[.int .i64 phase] 3)).alloc (Obj.cells (threeA m) 24)).alloc (Obj.cells #[.int .i64 0, .int .i64 0, .slice none 0 0] 31) = U at *
      refine (plane_any W H _ zs _ (HV.out.below hB (Nat.le_refl _))).mono ?_
      rintro e w1 ⟨rfl, hb1⟩
      rw [hp]
      have g4 := (hb1.block (w.heap.size + 3) (by omega)).trans a4
      have g2 := bx1 ((hb1.block (w.heap.size + 1) (by omega)).trans a2)
      go_wp2_with fail
      refine (phase_any _ _).mono ?_
      rintro e w2 ⟨rfl, hb2⟩
      rw [hph]
      clear g2
      replace hb2 := bel_trans hb1 hb2
      replace g4 := (hb2.block (w.heap.size + 3) (by omega)).trans a4
      obtain ⟨z0, z1, z2⟩ := cells3 (b := w.heap.size + 1 + 1 + 1) g4
      have f0 := Lib.frozen_of_heap (b := w.heap.size + 1 + 1 + 1) g4 0
      have f1 := Lib.frozen_of_heap (b := w.heap.size + 1 + 1 + 1) g4 1
      have f2 := Lib.frozen_of_heap (b := w.heap.size + 1 + 1 + 1) g4 2
      have HFIN := hide (set3_below (hB.trans (hb2.mono hB.size)) (show w.heap.size ≤ w.heap.size + 1 + 1 + 1 by omega) (.int .i64 0) (.int .i64 0) (.slice none 0 0))
      go_wp2
      exact bodyPost_ret (v := .tuple #[.agg #[.int .i64 0, .int .i64 0, .slice none 0 0], .int .i64 3]) (by simp [results, Try.results66, go_sem, z0, z1, z2]) rfl ⟨.slice none 0 0, rfl, IsInts.nil _, HFIN.out, Fresh.nil _⟩
  · have he : E = 1 := by rw [← hE, gaiE, if_neg hp]
    have hp : planeOk W H zs = false := by simpa using hp
    subst he
    clear hE
    obtain ⟨ao, ca, rfl, _, _⟩ := hv
    go_enter Try.func66, Try.ntmps66
    go_wp2_with fail
    obtain ⟨a1, a2, a3, a4⟩ := al4 w (Obj.cells #[.int .i64 W, .int .i64 H, .slice ao zs.length ca] 31) (Obj.cells #[.int .i64 phase] 3) (Obj.cells (threeA m) 24) (Obj.cells #[.int .i64 0, .int .i64 0, .slice none 0 0] 31)
    have hB := be4 w (Obj.cells #[.int .i64 W, .int .i64 H, .slice ao zs.length ca] 31) (Obj.cells #[.int .i64 phase] 3) (Obj.cells (threeA m) 24) (Obj.cells #[.int .i64 0, .int .i64 0, .slice none 0 0] 31)
    have hs3 : ((((w.alloc (Obj.cells #[.int .i64 W, .int .i64 H, .slice ao zs.length ca] 31)).alloc (Obj.cells #[.int .i64 phase] 3)).alloc (Obj.cells (threeA m) 24)).alloc (Obj.cells #[.int .i64 0, .int .i64 0, .slice none 0 0] 31)).heap.size = w.heap.size + 4 := by simp
    generalize (((w.alloc (Obj.cells #[.int .i64 W, .int .i64 H, .slice ao zs.length ca] 31)).alloc (Obj.cells #[.int .i64 phase] 3)).alloc (Obj.cells (threeA m) 24)).alloc (Obj.cells #[.int .i64 0, .int .i64 0, .slice none 0 0] 31) = U at *
    refine (plane_any W H _ zs _ (HV.out.below hB (Nat.le_refl _))).mono ?_
    rintro e w1 ⟨rfl, hb1⟩
    rw [hp]
    have g4 := (hb1.block (w.heap.size + 3) (by omega)).trans a4
    generalize w1 = w2 at *
    have hb2 := hb1
    obtain ⟨z0, z1, z2⟩ := cells3 (b := w.heap.size + 1 + 1 + 1) g4
    have f0 := Lib.frozen_of_heap (b := w.heap.size + 1 + 1 + 1) g4 0
    have f1 := Lib.frozen_of_heap (b := w.heap.size + 1 + 1 + 1) g4 1
    have f2 := Lib.frozen_of_heap (b := w.heap.size + 1 + 1 + 1) g4 2
    have HFIN := hide (set3_below (hB.trans (hb2.mono hB.size)) (show w.heap.size ≤ w.heap.size + 1 + 1 + 1 by omega) (.int .i64 0) (.int .i64 0) (.slice none 0 0))
    go_wp2
    exact bodyPost_ret (v := .tuple #[.agg #[.int .i64 0, .int .i64 0, .slice none 0 0], .int .i64 1]) (by simp [results, Try.results66, go_sem, z0, z1, z2]) rfl ⟨.slice none 0 0, rfl, IsInts.nil _, HFIN.out, Fresh.nil _⟩
end Go.Proofs.Ytolcndchfnifhac

namespace Go.Proofs.Ytolcndchfnifhac
open Go.RowKit Go.Shelf
attribute [local go_sem] Oper.semAt_some
def crDx (k : Nat) : Int := if k = 1 then -2 else if k = 2 then 2 else 0
def crDy (k : Nat) : Int := if k = 0 then -2 else if k = 3 then 2 else 0
def crX (X : Nat) (x : Fin 4) : Int := (X : Int) + crDx x.1
def crY (Y : Nat) (x : Fin 4) : Int := (Y : Int) + crDy x.1
theorem cr0 (w : World) : (Instr.index 124 (.agg #[.int .i64 0, .int .i64 (-2), .int .i64 (-2), .int .i64 0, .int .i64 2, .int .i64 0, .int .i64 0, .int .i64 2]) (.int .i64 0)).run Try.prog w = .ok (.agg #[.int .i64 0, .int .i64 (-2)]) w := by kernel_rfl
theorem cr1 (w : World) : (Instr.index 124 (.agg #[.int .i64 0, .int .i64 (-2), .int .i64 (-2), .int .i64 0, .int .i64 2, .int .i64 0, .int .i64 0, .int .i64 2]) (.int .i64 1)).run Try.prog w = .ok (.agg #[.int .i64 (-2), .int .i64 0]) w := by kernel_rfl
theorem cr2 (w : World) : (Instr.index 124 (.agg #[.int .i64 0, .int .i64 (-2), .int .i64 (-2), .int .i64 0, .int .i64 2, .int .i64 0, .int .i64 0, .int .i64 2]) (.int .i64 2)).run Try.prog w = .ok (.agg #[.int .i64 2, .int .i64 0]) w := by kernel_rfl
theorem cr3 (w : World) : (Instr.index 124 (.agg #[.int .i64 0, .int .i64 (-2), .int .i64 (-2), .int .i64 0, .int .i64 2, .int .i64 0, .int .i64 0, .int .i64 2]) (.int .i64 3)).run Try.prog w = .ok (.agg #[.int .i64 0, .int .i64 2]) w := by kernel_rfl
theorem crAt (k : Nat) (hk : k < 4) (w : World) : (Instr.index 124 (.agg #[.int .i64 0, .int .i64 (-2), .int .i64 (-2), .int .i64 0, .int .i64 2, .int .i64 0, .int .i64 0, .int .i64 2]) (.int .i64 k)).run Try.prog w = .ok (.agg #[.int .i64 (crDx k), .int .i64 (crDy k)]) w := by
  rcases (show k = 0 ∨ k = 1 ∨ k = 2 ∨ k = 3 by omega) with rfl | rfl | rfl | rfl
  · exact cr0 w
  · exact cr1 w
  · exact cr2 w
  · exact cr3 w
theorem crDx_ok (k : Nat) : -2 ≤ crDx k ∧ crDx k ≤ 2 := by unfold crDx; split <;> (try split) <;> omega
theorem crDy_ok (k : Nat) : -2 ≤ crDy k ∧ crDy k ≤ 2 := by unfold crDy; split <;> (try split) <;> omega
theorem cross_in (F : Fence) (n : Nat) (hf : F.fn 63) (hro : F.round = none) (X Y far : Int) (w : World) :
    CallsIn F n Try.prog 63 #[.agg #[.int .i64 X, .int .i64 Y], .int .i64 far] w fun e w' => e = .returned (.func (.func 64) #[] #[.pointer (some ⟨w.heap.size + 1, 0, none⟩), .pointer (some ⟨w.heap.size, 0, none⟩)]) ∧ w' = (w.alloc (.cells #[.int .i64 X, .int .i64 Y] 77)).alloc (.cells #[.int .i64 far] 3) := by
  refine callsIn_of_wp Try.func63 rfl hf ?_ hro
  simp only [Try.ntmps63, List.size_toArray, List.length_cons, List.length_nil, Nat.reduceAdd, Nat.reduceSub, Array.replicate_succ, Array.replicate_zero, List.push_toArray, List.append_toArray, List.nil_append, List.cons_append]
  gi_wp2
  go_ret
  exact ⟨rfl, rfl⟩
set_option maxRecDepth 100000 in
set_option maxHeartbeats 1600000 in
theorem cross1_in (F : Fence) (n : Nat) (hf : F.fn 64) (hro : F.round = none) (hn : 1 ≤ n) (l Bs Bf X Y : Nat) (hX : X ≤ 64) (hY0 : Y ≤ 64) (J Jx : List (Fin 4) → World → Prop) (hJa : ∀ s W o, J s W → J s (W.alloc o))
    (hY : ∀ pre (x : Fin 4) V, J pre V → pre.length < 4 → YieldAt F (n - 1) Try.prog l #[.agg #[.int .i64 (crX X x), .int .i64 (crY Y x)]] V fun e V' =>
      (e = .returned (.bool true) ∧ J (pre ++ [x]) V' ∧ KeepB Bs V V') ∨ (e = .returned (.bool false) ∧ Jx (pre ++ [x]) V'))
    (V : World) (hcf : V.cell? ⟨Bf, 0, none⟩ = some (.int .i64 2)) (hc0 : V.cell? ⟨Bs, 0, none⟩ = some (.int .i64 X)) (hc1 : V.cell? ⟨Bs, 1, none⟩ = some (.int .i64 Y)) (h0 : J [] V) :
    CallsIn F n Try.prog 64 #[.func (.yield l) #[] #[], .pointer (some ⟨Bf, 0, none⟩), .pointer (some ⟨Bs, 0, none⟩)] V fun e V' => (∃ v, e = .returned v) ∧
      ((∃ ys, ys = List.finRange 4 ∧ J ys V') ∨ (∃ pre, pre <+: List.finRange 4 ∧ Jx pre V')) := by
  refine callsIn_of_wp Try.func64 rfl hf ?_ hro
  simp only [Try.ntmps64, List.size_toArray, List.length_cons, List.length_nil, Nat.reduceAdd, Nat.reduceSub, Array.replicate_succ, Array.replicate_zero, List.push_toArray, List.append_toArray, List.nil_append, List.cons_append]
  gi_wp2
  gi_loopw [17] (fun i wr => ∃ (b : Nat), b ≤ 4 ∧ i = .int .i64 b ∧ J (idx 4 b) wr ∧ wr.cell? ⟨Bs, 0, none⟩ = some (.int .i64 X) ∧ wr.cell? ⟨Bs, 1, none⟩ = some (.int .i64 Y)) (fun i _ => 4 - (intOf i).toNat)
  case atStart => exact ⟨0, by omega, rfl, h0, hc0, hc1⟩
  case round =>
    obtain ⟨b, hb, rfl, hJ, c0, c1⟩ := hrel
    clear hc0 hc1 h0 hcf
    have hbs : Bs < wr.heap.size := World.block_lt_of_cell? wr _ c0
    by_cases hlt : b < 4
    · have hd : decide ((b : Int) < 4) = true := by simp; omega
      have hix := crAt b hlt
      have hdx := crDx_ok b
      have hdy := crDy_ok b
      have hYx := hY (idx 4 b) ⟨b, hlt⟩ (wr.alloc (Obj.cells #[.int .i64 (crDx b), .int .i64 (crDy b)] 77)) (hJa _ _ _ hJ) (by rw [idx_length _ _ (Nat.le_of_lt hlt)]; exact hlt)
      simp only [crX, crY] at hYx
      have k0 := (World.cell?_of_block (a := ⟨Bs, 0, none⟩) (Below.heap_alloc wr (Obj.cells #[.int .i64 (crDx b), .int .i64 (crDy b)] 77) Bs hbs)).trans c0
      have k1 := (World.cell?_of_block (a := ⟨Bs, 1, none⟩) (Below.heap_alloc wr (Obj.cells #[.int .i64 (crDx b), .int .i64 (crDy b)] 77) Bs hbs)).trans c1
      have HSP := hide (show idx 4 (b + 1) = idx 4 b ++ [⟨b, hlt⟩] from idx_succ 4 b hlt)
      have HPR := hide (show idx 4 b ++ [⟨b, hlt⟩] <+: List.finRange 4 by rw [← idx_succ 4 _ hlt]; exact idx_prefix 4 _)
      obtain ⟨dx, hdxe⟩ : ∃ dx, crDx b = dx := ⟨_, rfl⟩
      obtain ⟨dy, hdye⟩ : ∃ dy, crDy b = dy := ⟨_, rfl⟩
      rw [hdxe] at hix hdx hYx k0 k1
      rw [hdye] at hix hdy hYx k0 k1
      obtain ⟨hdx1, hdx2⟩ := hdx
      obtain ⟨hdy1, hdy2⟩ := hdy
      obtain ⟨fn, tmps, assign, body, hy', hR⟩ := hYx
      clear hdxe hdye
      gi_wp2
      refine hR.mono ?_
      rintro e V3 (⟨rfl, hJ3, hk3⟩ | ⟨rfl, hJx3⟩)
      · have c3 := (World.cell?_of_block (a := ⟨Bs, 0, none⟩) hk3).trans k0
        have c4 := (World.cell?_of_block (a := ⟨Bs, 1, none⟩) hk3).trans k1
        rw [← HSP.out] at hJ3
        gi_wp2
        go_roundw
        case rel => exact ⟨b + 1, by omega, by go_num, hJ3, c3, c4⟩
        case measure => simp [intOf]; omega
      · gi_wp2
        refine bodyPost_ret (results_none rfl _ _ _) rfl ?_
        exact ⟨⟨_, rfl⟩, .inr ⟨_, HPR.out, hJx3⟩⟩
    · obtain rfl : b = 4 := by omega
      have hd : decide (((4 : Nat) : Int) < 4) = false := by simp
      gi_wp2
      go_end0
      exact ⟨⟨_, rfl⟩, .inl ⟨_, by rw [← idx_all], hJ⟩⟩
theorem cross_stops (F : Fence) (n : Nat) (hf : F.fn 64) (hro : F.round = none) (hn : 1 ≤ n) (Bs Bf X Y : Nat) (hX : X ≤ 64) (hY0 : Y ≤ 64) (w : World) (hBw : Bs < w.heap.size) (hBf : Bf < w.heap.size) (hcf : w.cell? ⟨Bf, 0, none⟩ = some (.int .i64 2))
    (hc0 : w.cell? ⟨Bs, 0, none⟩ = some (.int .i64 X)) (hc1 : w.cell? ⟨Bs, 1, none⟩ = some (.int .i64 Y)) :
    SeqStopsK F n Try.prog 64 #[.pointer (some ⟨Bf, 0, none⟩), .pointer (some ⟨Bs, 0, none⟩)] (fun x : Fin 4 => #[Value.agg #[.int .i64 (crX X x), .int .i64 (crY Y x)]]) (KeepB Bs) (fun ys => ys = List.finRange 4) (fun pre => pre <+: List.finRange 4) 4 w := fun l J Jx V hV hJ _ hY h0 =>
  cross1_in F n hf hro hn l Bs Bf X Y hX hY0 J Jx (fun s W o h => hJ s W (W.alloc o) none h (World.grownBy_alloc W o none) (fun r e => by cases e)) hY V ((hV.cell (p := ⟨Bf, 0, none⟩) hBf).trans hcf) ((hV.cell (p := ⟨Bs, 0, none⟩) hBw).trans hc0) ((hV.cell (p := ⟨Bs, 1, none⟩) hBw).trans hc1) h0
end Go.Proofs.Ytolcndchfnifhac

namespace Go.Proofs.Ytolcndchfnifhac
open Go.RowKit
def spotV (p : Pt) : Value := .agg #[.int .i64 p.1, .int .i64 p.2]
def spotK (p : Pt) : Lit := .string (keyBytes [.int .i64 p.1, .int .i64 p.2])
def ptWf (p : Pt) : Prop := (Lit.int .i64 p.1).wf = true ∧ (Lit.int .i64 p.2).wf = true
theorem laidB : laidOutB Try.prog = true := by kernel_rfl
theorem spotLaw : WideMaps.KeyLaw Try.prog 77 := deep_law_laid laidB (m := 2) (by omega) (of_decide_eq_true (by kernel_rfl)) (by kernel_rfl) (by kernel_rfl)
theorem spotKeyed : Maps.Keyed Try.prog 77 := Maps.Keyed.of_law spotLaw
theorem typesPos : ∃ m, Try.prog.types.size = m + 2 := ⟨_, (Nat.sub_add_cancel (of_decide_eq_true (by kernel_rfl) : 2 ≤ Try.prog.types.size)).symm⟩
theorem spotType : Try.prog.keyType 77 = true := by kernel_rfl
theorem spotCells : Try.prog.cellsOf 77 = 2 := by kernel_rfl
theorem intCells : Try.prog.cellsOf 3 = 1 := by kernel_rfl
theorem spotKey (p : Pt) (h : ptWf p) : keyOf Try.prog 77 (spotV p) = some (spotK p) := by
  obtain ⟨m, hm⟩ := typesPos
  unfold keyOf
  simp only [Try.underlying77]
  rw [if_pos (by simp [spotType, spotV, Value.formed, Try.underlying77, spotCells]), hm]
  unfold Program.keyLits
  simp only [Try.underlying77, spotV, Value.cells]
  rw [if_pos ⟨by rw [spotCells]; rfl, by simp⟩, List.mapM_cons, List.mapM_cons, List.mapM_nil]
  simp [intCells, Program.keyLits, Try.underlying3, h.1, h.2, spotK]
theorem spotK_inj {p q : Pt} (hp : ptWf p) (hq : ptWf q) (h : spotK p = spotK q) : p = q := by
  have := spotKeyed.inj (spotKey p hp) (by rw [h]; exact spotKey q hq)
  simp only [spotV, Value.agg.injEq, Array.mk.injEq, List.cons.injEq, Value.int.injEq, true_and, and_true] at this
  exact Prod.ext this.1 this.2
def BadMap (w : World) (bm n : Nat) (ls : List Pt) : Prop :=
  ∃ D : DataW Unit, w.ownsMap Try.prog 77 (plainElem Try.prog 3) bm n D ∧ ∀ p, ptWf p → D.atKey (spotK p) (.lit (.int .i64 0)) = .lit (.int .i64 (ls.count p : Nat))
theorem BadMap.lt {w : World} {bm n : Nat} {ls : List Pt} (h : BadMap w bm n ls) : bm < w.heap.size := by
  obtain ⟨D, hD, _⟩ := h
  exact hD.lt
theorem BadMap.kept {w w' : World} {bm n : Nat} {ls : List Pt} {row : Option Nat} (h : BadMap w bm n ls) (hg : w.grownBy w' row) (hne : some bm ≠ row) : BadMap w' bm n ls := by
  obtain ⟨D, hD, hf⟩ := h
  exact ⟨D, hD.kept hg hne, hf⟩
theorem BadMap.below {w w' : World} {bm n B : Nat} {ls : List Pt} (h : BadMap w bm n ls) (hb : Below B w w') (hB : bm < B) : BadMap w' bm n ls := by
  obtain ⟨D, ⟨es, clock, hh, r⟩, hf⟩ := h
  exact ⟨D, ⟨es, clock, by rw [hb.block bm hB]; exact hh, r⟩, hf⟩
theorem BadMap.alloc {w : World} {bm n : Nat} {ls : List Pt} (h : BadMap w bm n ls) (o : Obj) : BadMap (w.alloc o) bm n ls := h.kept (World.grownBy_alloc w o none) (by simp)
theorem BadMap.drew {w : World} {bm n : Nat} {ls : List Pt} (h : BadMap w bm n ls) : BadMap w.drew bm n ls := h
theorem BadMap.made (w : World) : BadMap (w.alloc (.map #[] 0)) w.heap.size 0 [] :=
  ⟨.map [], World.ownsMap_made w _ _ _, fun _ _ => rfl⟩
theorem zeroInt (w : World) : (zeroValue 3).run Try.prog w = .ok (.int .i64 0) w := by kernel_rfl
theorem BadMap.look {w : World} {bm n : Nat} {ls : List Pt} (h : BadMap w bm n ls) (p : Pt) (hp : ptWf p) :
    (Instr.lookup 121 (.map (some bm)) (spotV p) false).run Try.prog w = .ok (.int .i64 (ls.count p : Nat)) w := by
  obtain ⟨D, hD, hf⟩ := h
  obtain ⟨c, hrun, hat, _⟩ := hD.lookup_int spotKeyed Try.underlying121 Try.underlying3 (zeroInt w) (spotKey p hp)
  rw [hf p hp] at hat
  rw [hrun]
  simp only [DataW.lit.injEq, Lit.int.injEq, true_and] at hat
  rw [hat]
theorem BadMap.same {w w' : World} {bm n : Nat} {ls : List Pt} (h : BadMap w bm n ls) (hb : w'.heap[bm]? = w.heap[bm]?) : BadMap w' bm n ls := by
  obtain ⟨D, ⟨es, clock, hh, r⟩, hf⟩ := h
  exact ⟨D, ⟨es, clock, hb.trans hh, r⟩, hf⟩
theorem BadMap.mono {w : World} {bm n n' : Nat} {ls : List Pt} (h : BadMap w bm n ls) (hn : n ≤ n') : BadMap w bm n' ls := by
  obtain ⟨D, hD, hf⟩ := h
  exact ⟨D, hD.mono hn, hf⟩
section
open Go.ChangeMaps Go.MapKept
open Go.WideElems (Fit set_self)
theorem entry_leaves {P : Program} {w : World} {t k e : TypeId} {H : Type} {R : Value → Option (DataW H × List MemPlace)} {b : Nat} {es : Array MapEntry} {clock : Nat} (K : WideMaps.KeyLaw P k) (ht : P.underlying t = some (.map k e)) {z : Value} (hz : ∀ u : World, (zeroValue e).run P u = .ok z u) (hb : w.heap[b]? = some (.map es clock)) (F : Fit P k R es clock)
    {key : Value} {kl : Lit} (hkey : keyOf P k key = some kl) :
    ∃ (r : Value) (w1 : World), (Instr.mapEntry t (.map (some b)) key).run P w = .ok r w1 ∧ (w1 = setBlock w b (.map es clock) ∨ ((Instr.mapUpdate t (.map (some b)) key z).run P w = .ok () w1 ∧ (Instr.lookup t (.map (some b)) key false).run P w = .ok z w)) := by
  rcases K.find w hkey es.toList F.keys with ⟨h1, h2⟩ | ⟨j, e0, h1, h2, h3⟩
  · refine ⟨.tuple #[z, goInt clock], setBlock w b (.map (es.push ⟨key, z, clock⟩) (clock + 1)), ?_, .inr ⟨?_, ?_⟩⟩
    · simp [Instr.mapEntry, run_underlying ht, MapKept.run_getObj_map hb, K.check w false hkey, h1, hz, MapKept.run_setObj_map _ hb, Result.andThen, setBlock]
    · simp [Instr.mapUpdate, run_underlying ht, MapKept.run_getObj_map hb, K.check w false hkey, h1, MapKept.run_setObj_map _ hb, Result.andThen, setBlock]
    · simp [Instr.lookup, run_underlying ht, MapKept.run_getObj_map hb, K.check w es.isEmpty hkey, h1, hz, Result.andThen]
  · have hj : es[j]? = some e0 := by simpa using h2
    have hsame : es.modify j (fun e => { e with key := key }) = es := by
      apply Array.ext'
      rw [Array.toList_modify, modify_eq_set _ _ _ _ h2]
      have : ({ e0 with key := key } : MapEntry) = e0 := by rw [← h3]
      rw [this]
      exact set_self _ _ _ h2
    refine ⟨.tuple #[e0.val, goInt e0.born], setBlock w b (.map es clock), ?_, .inl rfl⟩
    simp [Instr.mapEntry, run_underlying ht, MapKept.run_getObj_map hb, K.check w false hkey, h1, hj, h3, K.stays w hkey, hsame, MapKept.run_setObj_map _ hb, Result.andThen, setBlock]
theorem BadMap.entry {w : World} {bm n : Nat} {ls : List Pt} (h : BadMap w bm n ls) (hn : n < 1000) (hl : ls.length < 1000) (p : Pt) (hp : ptWf p) :
    ∃ (v0 : Value) (st : Nat) (w1 : World), (Instr.mapEntry 121 (.map (some bm)) (spotV p)).run Try.prog w = .ok (.tuple #[v0, .int .i64 st]) w1 ∧ w.grownBy w1 (some bm) ∧ BadMap w1 bm (n + 1) ls ∧
      ∃ w2, (Instr.entryStore 121 (.map (some bm)) (.int .i64 st) (.int .i64 ((ls.count p + 1 : Nat) : Int))).run Try.prog w1 = .ok () w2 ∧ BadMap w2 bm (n + 1) (ls ++ [p]) ∧ w.grownBy w2 (some bm) := by
  have HB := h
  obtain ⟨D, hD, hf⟩ := h
  have hm := hD.isMap
  have hput : ∀ (w' : World) (c : Nat) (ls' : List Pt), w'.ownsMap Try.prog 77 (plainElem Try.prog 3) bm (n + 1) (D.put (spotK p) (.lit (.int .i64 (c : Nat)))) → (∀ q, ptWf q → ls'.count q = if q = p then c else ls.count q) → BadMap w' bm (n + 1) ls' := fun w' c ls' hown hc => ⟨_, hown, fun q hq => by
    rw [hc q hq]
    by_cases e : q = p
    · subst e
      rw [if_pos rfl]
      exact Maps.atKey_put_same hm (spotKeyed.key (spotKey q hp)) _ _
    · rw [if_neg e, Maps.atKey_put_other (fun h => e (spotK_inj hq hp h))]
      exact hf q hq⟩
  have hw : (Lit.int .i64 ((ls.count p + 1 : Nat) : Int)).wf = true := WalkArith.wf_i64 (by have := List.count_le_length (a := p) (l := ls); omega)
  obtain ⟨w', hrun, hown, hgr⟩ := hD.update spotKeyed Try.underlying121 (by unfold maxLen; omega) (spotKey p hp) (plainElem_int (H := Unit) Try.underlying3 hw)
  have hlook := BadMap.look HB p hp
  obtain ⟨w0, hrun0, hown0, hgr0⟩ := hD.update spotKeyed Try.underlying121 (by unfold maxLen; omega) (spotKey p hp) (plainElem_int (H := Unit) (a := 0) Try.underlying3 (by decide))
  obtain ⟨es, clock, hb, F, hs, hDe⟩ := hD
  obtain ⟨v0, st, es1, clock1, hent, hv0, hst⟩ := WideElems.entry_then_store spotLaw Try.underlying121 zeroInt hb F (spotKey p hp)
  obtain ⟨r, w1, hent2, hor⟩ := entry_leaves spotLaw Try.underlying121 zeroInt hb F (spotKey p hp)
  obtain ⟨es', clock', hst1, hst2⟩ := hst (setBlock w bm (.map es1 clock1)) (.int .i64 ((ls.count p + 1 : Nat) : Int)) (heap_setBlock_same hb _)
  have hw1 : w1 = setBlock w bm (.map es1 clock1) := by
    have h2 := hent.symm.trans hent2
    rw [Result.ok.injEq] at h2
    exact h2.2.symm
  have hw2 : w' = setBlock w bm (.map es' clock') := by
    have h2 := hrun.symm.trans hst2
    rw [Result.ok.injEq] at h2
    exact h2.2
  have hb1 : (setBlock w bm (.map es1 clock1)).heap[bm]? = some (.map es1 clock1) := heap_setBlock_same hb _
  have hg : ∀ (u : World) (a : Array MapEntry) (c : Nat) (o' : Obj), u.heap[bm]? = some (.map a c) → u.grownBy (setBlock u bm o') (some bm) := fun u a c o' ho => ⟨rfl, rfl, rfl, by simp [setBlock], fun i _ hi => heap_setBlock_other ho _ (fun e => hi (by rw [e]))⟩
  refine ⟨v0, st, _, hent, hg _ _ _ _ hb, ?_, _, hst1, ?_, (hg _ _ _ _ hb).trans (hg _ _ _ _ hb1)⟩
  · rw [← hw1]
    rcases hor with e | ⟨e, e0⟩
    · subst e
      exact (HB.same ((heap_setBlock_same hb _).trans hb.symm)).mono (by omega)
    · have h2 := hrun0.symm.trans e
      have h3 := hlook.symm.trans e0
      rw [Result.ok.injEq] at h2 h3
      have h4 := h3.1
      rw [Value.int.injEq] at h4
      have hc0 : ls.count p = 0 := by have := h4.2; omega
      rw [← h2.2]
      refine hput w0 0 ls hown0 (fun q _ => ?_)
      by_cases e : q = p
      · subst e; simp [hc0]
      · rw [if_neg e]
  · refine BadMap.same (w := w') (hput w' (ls.count p + 1) _ hown (fun q _ => ?_)) ?_
    · by_cases e : q = p
      · subst e; simp
      · rw [if_neg e, List.count_append, List.count_singleton]
        simp [Ne.symm e]
    · rw [hw2, heap_setBlock_same hb _]
      exact heap_setBlock_same hb1 _
end
end Go.Proofs.Ytolcndchfnifhac

namespace Go.Proofs.Ytolcndchfnifhac
set_option linter.unusedVariables false
open Go.RowKit
def goodB (ls : List Pt) (p : Pt) : Bool := decide (ls.count p = 0)
theorem beq_zero (c : Nat) : ((c : Int) == 0) = decide (c = 0) := by
  by_cases h : c = 0
  · subst h; rfl
  · rw [decide_eq_false h]; simpa using h
theorem ptWf_of {x y : Int} (hx : 0 ≤ x ∧ x ≤ 64) (hy : 0 ≤ y ∧ y ≤ 64) : ptWf (x, y) := ⟨WalkArith.wf_i64 (by omega), WalkArith.wf_i64 (by omega)⟩
set_option maxRecDepth 100000 in
theorem repair1_any (ls : List Pt) (n bm Bv : Nat) (x y : Int) (hx : 0 ≤ x ∧ x ≤ 64) (hy : 0 ≤ y ∧ y ≤ 64) (w : World) (hBv : Bv < w.heap.size) (kb : w.cell? ⟨Bv, 0, none⟩ = some (.map (some bm))) (hm : BadMap w bm n ls) :
    Calls Try.prog 60 #[.agg #[.int .i64 x, .int .i64 y], .pointer (some ⟨Bv, 0, none⟩)] w fun e w' => e = .returned (.bool (goodB ls (x, y))) ∧ Below w.heap.size w w' := by
  have hlk0 := (hm.alloc (Obj.cells #[.int .i64 x, .int .i64 y] 77)).look (x, y) (ptWf_of hx hy)
  have HE := hide (beq_zero (ls.count (x, y)))
  rw [show decide (ls.count (x, y) = 0) = goodB ls (x, y) from rfl] at HE
  obtain ⟨c, hc⟩ : ∃ c, ls.count (x, y) = c := ⟨_, rfl⟩
  rw [hc] at hlk0 HE
  have hlk : (Instr.lookup 121 (.map (some bm)) (.agg #[.int .i64 x, .int .i64 y]) false).run Try.prog (w.alloc (Obj.cells #[.int .i64 x, .int .i64 y] 77)) = .ok (.int .i64 (c : Nat)) (w.alloc (Obj.cells #[.int .i64 x, .int .i64 y] 77)) := hlk0
  have kb1 := ((bel_alloc w (Obj.cells #[.int .i64 x, .int .i64 y] 77)).cell (p := ⟨Bv, 0, none⟩) hBv).trans kb
  clear hlk0 hc kb hm
  go_enter Try.func60, Try.ntmps60
  go_wp2
  go_ret
  exact ⟨ret_bool HE.out, bel_alloc _ _⟩
def repC (ls : List Pt) (X Y : Nat) (x : Fin 4) : Bool := goodB ls (crX X x, crY Y x)
def repV (zs : List Int) (W H : Nat) (ls : List Pt) (j : Nat) : Int :=
  if goodB ls ((j % W : Nat), (j / W : Nat)) = true then zAt zs j else meanV zs W H (crX (j % W)) (crY (j / W)) (repC ls (j % W) (j / W))
set_option maxRecDepth 100000 in
set_option maxHeartbeats 3200000 in
theorem repair2_any (W H j bk off ca : Nat) (hW1 : 1 ≤ W) (hW : W ≤ 64) (hH1 : 1 ≤ H) (hH : H ≤ 64) (zs : List Int) (hlen : zs.length = H * W) (hzs : allIn 0 65535 zs = true) (hj : j < zs.length) (ls : List Pt) (n bm Bd Bp Bg Bv : Nat) (w : World) (hBp : Bp < w.heap.size) (hBg : Bg < w.heap.size) (hbk : bk < w.heap.size)
    (k0 : w.cell? ⟨Bp, 0, none⟩ = some (.int .i64 W)) (k1 : w.cell? ⟨Bp, 1, none⟩ = some (.int .i64 H)) (k2 : w.cell? ⟨Bp, 2, none⟩ = some (.slice (some ⟨bk, off, none⟩) zs.length ca)) (g0 : w.cell? ⟨Bg, 0, none⟩ = some (.int .i64 W)) (g1 : w.cell? ⟨Bg, 1, none⟩ = some (.int .i64 H)) (hBd : Bd < w.heap.size) (kd : w.cell? ⟨Bd, 0, none⟩ = some (.func (.func 60) #[] #[.pointer (some ⟨Bv, 0, none⟩)])) (hBv : Bv < w.heap.size) (kv : w.cell? ⟨Bv, 0, none⟩ = some (.map (some bm))) (hm : BadMap w bm n ls)
    (hcell : ∀ j, j < zs.length → w.cell? ⟨bk, off + j, none⟩ = some (.int .i64 (zAt zs j))) :
    Calls Try.prog 61 #[.agg #[.int .i64 (j % W : Nat), .int .i64 (j / W : Nat)], .pointer (some ⟨Bd, 0, none⟩), .pointer (some ⟨Bp, 0, none⟩), .pointer (some ⟨Bg, 0, none⟩)] w fun e w' => e = .returned (.int .i64 (repV zs W H ls j)) ∧ Below w.heap.size w w' := by
  have HT := hide (show repV zs W H ls j = if goodB ls ((j % W : Nat), (j / W : Nat)) = true then zAt zs j else meanV zs W H (crX (j % W)) (crY (j / W)) (repC ls (j % W) (j / W)) from rfl)
  generalize repV zs W H ls j = RES at *
  have hl4 : zs.length ≤ 4096 := by rw [hlen]; exact Nat.le_trans (Nat.mul_le_mul hH hW) (by decide)
  have hXW : j % W < W := Nat.mod_lt _ hW1
  have hYH : j / W < H := Nat.div_lt_of_lt_mul (by rw [Nat.mul_comm, ← hlen]; exact hj)
  obtain ⟨X, hX⟩ : ∃ X, j % W = X := ⟨_, rfl⟩
  obtain ⟨Y, hY⟩ : ∃ Y, j / W = Y := ⟨_, rfl⟩
  have hk : Y * W + X = j := by rw [← hX, ← hY, Nat.mul_comm]; exact Nat.div_add_mod j W
  have HIX := hide (fun v => index_any W H X Y W j rfl hk (by omega) v)
  have hcz := hcell j hj
  have hjI : (j : Int) < (zs.length : Int) := by omega
  rw [hX, hY] at HT
  rw [hX] at hXW
  rw [hY] at hYH
  rw [hX, hY]
  obtain ⟨z, hz⟩ : ∃ z, zAt zs j = z := ⟨_, rfl⟩
  rw [hz] at HT hcz
  have HG := hide (fun (u : World) (hu : Below w.heap.size w u) => repair1_any ls n bm Bv X Y (by omega) (by omega) u (Nat.lt_of_lt_of_le hBv hu.size) ((hu.cell (p := ⟨Bv, 0, none⟩) hBv).trans kv) (hm.below hu hm.lt))
  have HMP := hide (fun (u : World) (hu : Below w.heap.size w u) (Bs Bf : Nat) (hBs : Bs < u.heap.size) (hBf : Bf < u.heap.size) (e0 : u.cell? ⟨Bs, 0, none⟩ = some (.int .i64 X)) (e1 : u.cell? ⟨Bs, 1, none⟩ = some (.int .i64 Y)) (e2 : u.cell? ⟨Bf, 0, none⟩ = some (.int .i64 2)) =>
    mean_any 4 W H bk off ca (by omega) hW1 hW hH1 hH zs hlen hzs 64 60 Bs #[.pointer (some ⟨Bf, 0, none⟩), .pointer (some ⟨Bs, 0, none⟩)] #[.pointer (some ⟨Bv, 0, none⟩)] (crX X) (crY Y) (repC ls X Y) u (enters_of Try.func64 (by kernel_rfl) rfl) (enters_of Try.func60 (by kernel_rfl) rfl) hBs (Nat.lt_of_lt_of_le hbk hu.size) (fun j hj => (hu.cell (p := ⟨bk, off + j, none⟩) hbk).trans (hcell j hj))
      (fun V hV => cross_stops Fence.wide (3 - 1) trivial rfl (by omega) Bs Bf X Y (by omega) (by omega) V (Nat.lt_of_lt_of_le hBs hV.size) (Nat.lt_of_lt_of_le hBf hV.size) ((hV.cell (p := ⟨Bf, 0, none⟩) hBf).trans e2) ((hV.cell (p := ⟨Bs, 0, none⟩) hBs).trans e0) ((hV.cell (p := ⟨Bs, 1, none⟩) hBs).trans e1))
      (fun x V hh hV => by
        have hh2 : 0 ≤ crX X x ∧ crX X x < W ∧ 0 ≤ crY Y x ∧ crY Y x < H := by simpa [hasB] using hh
        have hV2 := hu.trans (hV.mono hu.size)
        exact repair1_any ls n bm Bv (crX X x) (crY Y x) (by omega) (by omega) V (Nat.lt_of_lt_of_le hBv hV2.size) ((hV2.cell (p := ⟨Bv, 0, none⟩) hBv).trans kv) (hm.below hV2 hm.lt)))
  have eg1 := enters_of Try.func60 (by kernel_rfl) rfl
  clear hX hY hz hk hlen hcell hzs kv hm
  have HB := hide (bel_alloc w (Obj.cells #[.int .i64 X, .int .i64 Y] 77))
  have a1 := al1 w (Obj.cells #[.int .i64 X, .int .i64 Y] 77)
  have kd1 := (HB.out.cell (p := ⟨Bd, 0, none⟩) hBd).trans kd
  obtain ⟨s0, s1⟩ := bx2 a1
  go_enter Try.func61, Try.ntmps61
  go_wp2_with fail
  have hl1 := (Array.getElem?_eq_some_iff.1 a1).1
  generalize w.alloc (Obj.cells #[.int .i64 X, .int .i64 Y] 77) = U at *
  refine (HG.out _ HB.out).mono ?_
  rintro e V0 ⟨rfl, hb0⟩
  have HS := hide (show ∀ v, Below U.heap.size U v → v.cell? ⟨Bp, 0, none⟩ = some (.int .i64 W) ∧ v.cell? ⟨Bp, 1, none⟩ = some (.int .i64 H) ∧ v.cell? ⟨Bp, 2, none⟩ = some (.slice (some ⟨bk, off, none⟩) zs.length ca) ∧ v.cell? ⟨Bg, 0, none⟩ = some (.int .i64 W) ∧ v.cell? ⟨Bg, 1, none⟩ = some (.int .i64 H) ∧ v.cell? ⟨w.heap.size, 0, none⟩ = some (.int .i64 X) ∧ v.cell? ⟨w.heap.size, 1, none⟩ = some (.int .i64 Y) ∧ v.cell? ⟨bk, off + j, none⟩ = some (.int .i64 z) ∧ v.cell? ⟨Bd, 0, none⟩ = some (.func (.func 60) #[] #[.pointer (some ⟨Bv, 0, none⟩)]) from fun v h => by
    have hw := HB.out.trans (h.mono HB.out.size)
    obtain ⟨y0, y1⟩ := bx2 ((h.block _ hl1).trans a1)
    exact ⟨(hw.cell (p := ⟨Bp, 0, none⟩) hBp).trans k0, (hw.cell (p := ⟨Bp, 1, none⟩) hBp).trans k1, (hw.cell (p := ⟨Bp, 2, none⟩) hBp).trans k2, (hw.cell (p := ⟨Bg, 0, none⟩) hBg).trans g0, (hw.cell (p := ⟨Bg, 1, none⟩) hBg).trans g1, y0, y1, (hw.cell (p := ⟨bk, off + j, none⟩) hbk).trans hcz, (hw.cell (p := ⟨Bd, 0, none⟩) hBd).trans kd⟩)
  clear s0 s1 kd1 k0 k1 k2 g0 g1 kd hcz eg1
  have hWd : Below U.heap.size U V0.drew := hb0.drew
  have hSd := HS.out _ hWd
  by_cases hg : goodB ls ((X : Nat), (Y : Nat)) = true
  · rw [hg]
    rw [if_pos hg] at HT
    go_wp2_with fail
    have hmx : Try.prog.follows .mixedOrders = true := by kernel_rfl
    refine wp_region_last (S := fun v : World => v.cell? ⟨Bp, 0, none⟩ = some (.int .i64 W) ∧ v.cell? ⟨Bp, 1, none⟩ = some (.int .i64 H) ∧ v.cell? ⟨Bp, 2, none⟩ = some (.slice (some ⟨bk, off, none⟩) zs.length ca) ∧ v.cell? ⟨Bg, 0, none⟩ = some (.int .i64 W) ∧ v.cell? ⟨Bg, 1, none⟩ = some (.int .i64 H) ∧ v.cell? ⟨w.heap.size, 0, none⟩ = some (.int .i64 X) ∧ v.cell? ⟨w.heap.size, 1, none⟩ = some (.int .i64 Y) ∧ v.cell? ⟨bk, off + j, none⟩ = some (.int .i64 z) ∧ v.cell? ⟨Bd, 0, none⟩ = some (.func (.func 60) #[] #[.pointer (some ⟨Bv, 0, none⟩)])) (f := 7) hmx ?_
    show wpAnyF _ _ _ _ _ _ 8 _ _ V0.drew
    refine wpAnyF_takeD (i := 0) (oi := _) (v := ?vv1) (some 9) rfl rfl (by kernel_rfl) (by kernel_rfl) (by kernel_rfl) (by kernel_rfl) (by kernel_rfl) (fun _ _ _ h => h) (Or.inl ⟨by rfl, ?yy1⟩) hSd ?rr1
    case yy1 => (intro wq hSq; obtain ⟨_, _, _, _, _, _, _, _, _⟩ := hSq; go_simp <;> with_reducible rfl)
    simp only [Act.put, List.setIfInBounds_toArray, List.set_cons_succ, List.set_cons_zero]
    refine wpAnyF_takeD (i := 2) (oi := _) (v := ?vv2) (some 11) rfl rfl (by kernel_rfl) (by kernel_rfl) (by kernel_rfl) (by kernel_rfl) (by kernel_rfl) (fun _ _ _ h => h) (Or.inl ⟨by rfl, ?yy2⟩) hSd ?rr2
    case yy2 => (intro wq hSq; obtain ⟨_, _, _, _, _, _, _, _, _⟩ := hSq; go_simp <;> with_reducible rfl)
    simp only [Act.put, List.setIfInBounds_toArray, List.set_cons_succ, List.set_cons_zero]
    refine wpAnyF_takeD (i := 3) (oi := _) (v := ?vv3) (some 12) rfl rfl (by kernel_rfl) (by kernel_rfl) (by kernel_rfl) (by kernel_rfl) (by kernel_rfl) (fun _ _ _ h => h) (Or.inl ⟨by rfl, ?yy3⟩) hSd ?rr3
    case yy3 => (intro wq hSq; obtain ⟨_, _, _, _, _, _, _, _, _⟩ := hSq; go_simp <;> with_reducible rfl)
    simp only [Act.put, List.setIfInBounds_toArray, List.set_cons_succ, List.set_cons_zero]
    refine wpAnyF_takeD (i := 1) (oi := _) (v := ?vv4) (some 10) rfl rfl (by kernel_rfl) (by kernel_rfl) (by kernel_rfl) (by kernel_rfl) (by kernel_rfl) (fun _ _ _ h => h) (Or.inl ⟨by rfl, ?yy4⟩) hSd ?rr4
    case yy4 => (intro wq hSq; obtain ⟨_, _, _, _, _, _, _, _, _⟩ := hSq; go_simp <;> with_reducible rfl)
    simp only [Act.put, List.setIfInBounds_toArray, List.set_cons_succ, List.set_cons_zero]
    refine wpAnyF_one (i := 4) (o := _) (by kernel_rfl) rfl (fun K' hK => ?_)
    rw [if_pos (by rfl)]
    go_simp
    refine (HIX.out _).mono ?_
    rintro e V1 ⟨rfl, hbv⟩
    have hB1 : Below U.heap.size U V1 := hWd.trans (hbv.mono hWd.size)
    have hSd := HS.out _ hB1
    refine hK.out _ _ hSd ?_
    clear hK
    try simp only [Act.put]
    refine wpAnyF_takeD (i := 5) (oi := _) (v := ?vv5) (some 14) rfl rfl (by kernel_rfl) (by kernel_rfl) (by kernel_rfl) (by kernel_rfl) (by kernel_rfl) (fun _ _ _ h => h) (Or.inl ⟨by rfl, ?yy5⟩) hSd ?rr5
    case yy5 => (intro wq hSq; obtain ⟨_, _, _, _, _, _, _, _, _⟩ := hSq; go_simp <;> with_reducible rfl)
    simp only [Act.put, List.setIfInBounds_toArray, List.set_cons_succ, List.set_cons_zero]
    refine wpAnyF_takeD (i := 6) (oi := _) (v := ?vv6) (some 15) rfl rfl (by kernel_rfl) (by kernel_rfl) (by kernel_rfl) (by kernel_rfl) (by kernel_rfl) (fun _ _ _ h => h) (Or.inl ⟨by rfl, ?yy6⟩) hSd ?rr6
    case yy6 => (intro wq hSq; obtain ⟨_, _, _, _, _, _, _, _, _⟩ := hSq; go_simp <;> with_reducible rfl)
    simp only [Act.put, List.setIfInBounds_toArray, List.set_cons_succ, List.set_cons_zero]
    refine wpAnyF_last (o := _) (by kernel_rfl) rfl (fun K' hK => ?_)
    rw [if_pos (by rfl)]
    go_simp
    refine hK.out _ _ ?_
    clear hK
    refine wpAnyF_done (by kernel_rfl) ?_ _
    try simp only [Act.put]
    go_wp2
    go_ret
    exact ⟨ret_int HT.out.symm, HB.out.trans (hB1.mono HB.out.size)⟩
  · have hg2 : goodB ls ((X : Nat), (Y : Nat)) = false := by simpa using hg
    rw [hg2]
    rw [if_neg hg] at HT
    go_wp2_with fail
    have hmx : Try.prog.follows .mixedOrders = true := by kernel_rfl
    refine wp_region_last (S := fun v : World => v.cell? ⟨Bp, 0, none⟩ = some (.int .i64 W) ∧ v.cell? ⟨Bp, 1, none⟩ = some (.int .i64 H) ∧ v.cell? ⟨Bp, 2, none⟩ = some (.slice (some ⟨bk, off, none⟩) zs.length ca) ∧ v.cell? ⟨Bg, 0, none⟩ = some (.int .i64 W) ∧ v.cell? ⟨Bg, 1, none⟩ = some (.int .i64 H) ∧ v.cell? ⟨w.heap.size, 0, none⟩ = some (.int .i64 X) ∧ v.cell? ⟨w.heap.size, 1, none⟩ = some (.int .i64 Y) ∧ v.cell? ⟨bk, off + j, none⟩ = some (.int .i64 z) ∧ v.cell? ⟨Bd, 0, none⟩ = some (.func (.func 60) #[] #[.pointer (some ⟨Bv, 0, none⟩)])) (f := 5) hmx ?_
    show wpAnyF _ _ _ _ _ _ 6 _ _ V0.drew
    refine wpAnyF_takeD (i := 0) (oi := _) (v := ?vv7) (some 16) rfl rfl (by kernel_rfl) (by kernel_rfl) (by kernel_rfl) (by kernel_rfl) (by kernel_rfl) (fun _ _ _ h => h) (Or.inl ⟨by rfl, ?yy7⟩) hSd ?rr7
    case yy7 => (intro wq hSq; obtain ⟨_, _, _, _, _, _, _, _, _⟩ := hSq; go_simp <;> with_reducible rfl)
    simp only [Act.put, List.setIfInBounds_toArray, List.set_cons_succ, List.set_cons_zero]
    refine wpAnyF_takeD (i := 1) (oi := _) (v := ?vv8) (some 17) rfl rfl (by kernel_rfl) (by kernel_rfl) (by kernel_rfl) (by kernel_rfl) (by kernel_rfl) (fun _ _ _ h => h) (Or.inl ⟨by rfl, ?yy8⟩) hSd ?rr8
    case yy8 => (intro wq hSq; obtain ⟨_, _, _, _, _, _, _, _, _⟩ := hSq; go_simp <;> with_reducible rfl)
    simp only [Act.put, List.setIfInBounds_toArray, List.set_cons_succ, List.set_cons_zero]
    refine wpAnyF_takeD (i := 3) (oi := _) (v := ?vv9) (some 19) rfl rfl (by kernel_rfl) (by kernel_rfl) (by kernel_rfl) (by kernel_rfl) (by kernel_rfl) (fun _ _ _ h => h) (Or.inl ⟨by rfl, ?yy9⟩) hSd ?rr9
    case yy9 => (intro wq hSq; obtain ⟨_, _, _, _, _, _, _, _, _⟩ := hSq; go_simp <;> with_reducible rfl)
    simp only [Act.put, List.setIfInBounds_toArray, List.set_cons_succ, List.set_cons_zero]
    refine wpAnyF_one (i := 2) (o := _) (by kernel_rfl) rfl (fun K' hK => ?_)
    rw [if_pos (by rfl)]
    go_simp
    refine ((callsIn_wide (n := 3)).1 (cross_in Fence.wide _ trivial rfl _ _ _ _)).mono ?_
    rintro e V2 ⟨rfl, rfl⟩
    have hB2 : Below U.heap.size U ((V0.drew.alloc (Obj.cells #[.int .i64 X, .int .i64 Y] 77)).alloc (Obj.cells #[.int .i64 2] 3)) := (hWd.alloc hWd.size _).alloc (by rw [World.size_alloc]; exact Nat.le_succ_of_le hWd.size) _
    have hSd := HS.out _ hB2
    refine hK.out _ _ hSd ?_
    clear hK
    try simp only [Act.put]
    refine wpAnyF_one (i := 4) (o := _) (by kernel_rfl) rfl (fun K' hK => ?_)
    rw [if_pos (by rfl)]
    go_simp
    have hsU : U.heap.size ≤ V0.heap.size := hWd.size
    obtain ⟨tB, tC⟩ := al2 V0.drew (Obj.cells #[.int .i64 X, .int .i64 Y] 77) (Obj.cells #[.int .i64 2] 3)
    refine (HMP.out _ (HB.out.trans (hB2.mono HB.out.size)) V0.drew.heap.size (V0.drew.heap.size + 1) (by rw [World.size_alloc, World.size_alloc]; omega) (by rw [World.size_alloc, World.size_alloc]; omega) (by rw [Lib.cell_of_heap tB]; rfl) (by rw [Lib.cell_of_heap tB]; rfl) (by rw [Lib.cell_of_heap tC]; rfl)).mono ?_
    rintro e V3 ⟨rfl, hb3⟩
    have hB3 : Below U.heap.size U V3 := hB2.trans (hb3.mono hB2.size)
    have hSd := HS.out _ hB3
    refine hK.out _ _ hSd ?_
    clear hK
    try simp only [Act.put]
    refine wpAnyF_last (o := _) (by kernel_rfl) rfl (fun K' hK => ?_)
    rw [if_pos (by rfl)]
    go_simp
    refine hK.out _ _ ?_
    clear hK
    refine wpAnyF_done (by kernel_rfl) ?_ _
    try simp only [Act.put]
    go_wp2
    go_ret
    exact ⟨ret_int HT.out.symm, HB.out.trans (hB3.mono HB.out.size)⟩
end Go.Proofs.Ytolcndchfnifhac

namespace Go.Proofs.Ytolcndchfnifhac
set_option linter.unusedVariables false
open Go.RowKit
def repE (W H : Int) (zs : List Int) (ls : List Pt) : Int := if planeOk W H zs = true then (if (ls.length : Int) ≤ 64 then (if spotsB W H ls = true then 0 else 3) else 2) else 1
def repL (W H : Int) (zs : List Int) (ls : List Pt) : List Int := (List.range zs.length).map (repV zs W.toNat H.toNat ls)
def ReJ (w W0 : World) (bm W H : Nat) (ls : List Pt) (k : Nat) (wr : World) : Prop :=
  BadMap wr bm k (ls.take k) ∧ (∀ b, b < W0.heap.size → b ≠ bm → wr.heap[b]? = W0.heap[b]?) ∧ W0.heap.size ≤ wr.heap.size ∧ Below w.heap.size w wr ∧ ∀ i, i < k → hasB W H (ptAt ls i).1 (ptAt ls i).2 = true
theorem ReJ.next {w W0 : World} {bm W H : Nat} {ls : List Pt} {k : Nat} {wr V w2 : World} (h : ReJ w W0 bm W H ls k wr) (hbm : w.heap.size ≤ bm) (hV : Below wr.heap.size wr V) (hk : k < ls.length) (hh : hasB W H (ptAt ls k).1 (ptAt ls k).2 = true)
    (hm : BadMap w2 bm (k + 1) (ls.take k ++ [ptAt ls k])) (hg : V.grownBy w2 (some bm)) : ReJ w W0 bm W H ls (k + 1) w2 := by
  obtain ⟨h1, h2, h3, h4, h5⟩ := h
  refine ⟨?_, fun b hb hne => ?_, ?_, (h4.trans (hV.mono h4.size)).grown hg (Nat.le_trans h4.size hV.size) (fun j hj => by cases hj; exact hbm), fun i hi => ?_⟩
  · rw [List.take_succ_eq_append_getElem hk, ptAt_get]; exact hm
  · rw [hg.block b (Nat.lt_of_lt_of_le hb (Nat.le_trans h3 hV.size)) (fun e => hne (by cases e; rfl)), hV.block b (Nat.lt_of_lt_of_le hb h3)]
    exact h2 b hb hne
  · exact Nat.le_trans h3 (Nat.le_trans hV.size hg.size)
  · rcases Nat.lt_succ_iff_lt_or_eq.1 hi with h | rfl
    · exact h5 i h
    · exact hh
set_option maxRecDepth 100000 in
set_option maxHeartbeats 3200000 in
theorem repair_any (W H : Int) (v : Value) (zs : List Int) (lv : Value) (ls : List Pt) (hls : ∀ j, j < ls.length → ptWf (ptAt ls j)) (w : World) (hv : IsInts w v zs) (hlv : IsPts w lv ls) :
    Calls Try.prog 59 #[.agg #[.int .i64 W, .int .i64 H, v], lv] w fun e w' => ∃ r, e = .returned (.tuple #[.agg #[.int .i64 (okW (repE W H zs ls) W), .int .i64 (okW (repE W H zs ls) H), r], .int .i64 (repE W H zs ls)]) ∧ IsInts w' r (okL (repE W H zs ls) (repL W H zs ls)) ∧ Below w.heap.size w w' ∧ Fresh w.heap.size r := by
  have HV := hide hv
  obtain ⟨lo, lc, rfl, hll, hlc⟩ := hlv
  have HLS := hide hls
  have HC := hide (show ∀ j, j < ls.length → ∃ bq oq, lo = some ⟨bq, oq, none⟩ ∧ bq < w.heap.size ∧ w.cell? ⟨bq, oq + j * 2, none⟩ = some (.int .i64 (ptAt ls j).1) ∧ w.cell? ⟨bq, oq + j * 2 + 1, none⟩ = some (.int .i64 (ptAt ls j).2) from fun j hj => by
    rcases hlc with h | ⟨b, off, h1, h2, h3⟩
    · subst h; simp at hj
    · exact ⟨b, off, h1, h2, h3 j hj⟩)
  clear hlc hls
  obtain ⟨E, hE⟩ : ∃ E, repE W H zs ls = E := ⟨_, rfl⟩
  rw [hE]
  by_cases hp : planeOk W H zs = true
  · by_cases hmn : (ls.length : Int) ≤ 64
    · have HE := hide (show E = if spotsB W H ls = true then 0 else 3 by rw [← hE, repE, if_pos hp, if_pos hmn])
      clear hE
      obtain ⟨⟨w1, w2⟩, ⟨h1, h2⟩, hl, _⟩ := planeOk_parts hp
      have hz := planeOk_all hp
      have hsm := side_mul ⟨w1, w2⟩ ⟨h1, h2⟩
      have hn1 : 1 ≤ zs.length := by omega
      obtain ⟨bk, off, ca, rfl, hbk, hcell⟩ := hv.cells hn1
      obtain ⟨WN, rfl⟩ := Int.eq_ofNat_of_zero_le (show 0 ≤ W by omega)
      obtain ⟨HN, rfl⟩ := Int.eq_ofNat_of_zero_le (show 0 ≤ H by omega)
      have HLEN := hide (show zs.length = HN * WN by rw [Nat.mul_comm]; exact_mod_cast hl)
      have HZ := hide hz
      have HCC := hide hcell
      have hd64 : decide (64 < (ls.length : Int)) = false := by simp; omega
      clear hl hz hcell hsm hv
      have hmm := @run_makeMap Try.prog
      go_enter Try.func59, Try.ntmps59
      go_wp2_with fail
      obtain ⟨a1, a2⟩ := al2 w (Obj.cells #[.int .i64 (WN : Nat), .int .i64 (HN : Nat), .slice (some ⟨bk, off, none⟩) zs.length ca] 31) (Obj.cells #[.int .i64 0, .int .i64 0, .slice none 0 0] 31)
      have hB := be2 w (Obj.cells #[.int .i64 (WN : Nat), .int .i64 (HN : Nat), .slice (some ⟨bk, off, none⟩) zs.length ca] 31) (Obj.cells #[.int .i64 0, .int .i64 0, .slice none 0 0] 31)
      generalize (w.alloc (Obj.cells #[.int .i64 (WN : Nat), .int .i64 (HN : Nat), .slice (some ⟨bk, off, none⟩) zs.length ca] 31)).alloc (Obj.cells #[.int .i64 0, .int .i64 0, .slice none 0 0] 31) = U at *
      have hlU := (Array.getElem?_eq_some_iff.1 a2).1
      have hlU0 := (Array.getElem?_eq_some_iff.1 a1).1
      refine (plane_any WN HN _ zs _ (HV.out.below hB (Nat.le_refl _))).mono ?_
      rintro e w1 ⟨rfl, hb1⟩
      rw [hp]
      obtain ⟨p0, p1, p2⟩ := cells3 ((hb1.block w.heap.size hlU0).trans a1)
      have hsU := hb1.size
      have hBw := hB.trans (hb1.mono hB.size)
      go_wp2_with fail
      obtain ⟨c1, c2, c3⟩ := al3 w1 (Obj.cells #[.int .i64 (WN : Nat), .int .i64 (HN : Nat)] 52) (Obj.map #[] 0) (Obj.cells #[.map (some (w1.heap.size + 1))] 121)
      have hB3 := be3 w1 (Obj.cells #[.int .i64 (WN : Nat), .int .i64 (HN : Nat)] 52) (Obj.map #[] 0) (Obj.cells #[.map (some (w1.heap.size + 1))] 121)
      have hM0 : BadMap (((w1.alloc (Obj.cells #[.int .i64 (WN : Nat), .int .i64 (HN : Nat)] 52)).alloc (Obj.map #[] 0)).alloc (Obj.cells #[.map (some (w1.heap.size + 1))] 121)) (w1.heap.size + 1) 0 [] := by
        have h := BadMap.made (w1.alloc (Obj.cells #[.int .i64 (WN : Nat), .int .i64 (HN : Nat)] 52))
        rw [World.size_alloc] at h
        exact h.alloc _
      have hs3 : w1.heap.size + 3 ≤ (((w1.alloc (Obj.cells #[.int .i64 (WN : Nat), .int .i64 (HN : Nat)] 52)).alloc (Obj.map #[] 0)).alloc (Obj.cells #[.map (some (w1.heap.size + 1))] 121)).heap.size := by simp
      clear p0 p1 p2 hmm
      generalize ((w1.alloc (Obj.cells #[.int .i64 (WN : Nat), .int .i64 (HN : Nat)] 52)).alloc (Obj.map #[] 0)).alloc (Obj.cells #[.map (some (w1.heap.size + 1))] 121) = W0 at *
      have A1 := (hB3.block w.heap.size (by omega)).trans ((hb1.block w.heap.size hlU0).trans a1)
      have A2 := (hB3.block (w.heap.size + 1) (by omega)).trans ((hb1.block (w.heap.size + 1) hlU).trans a2)
      have hBW0 := hBw.trans (hB3.mono hBw.size)
      clear a1 a2
      go_loopw [27] (fun i wr => ∃ k : Nat, k ≤ ls.length ∧ i = .int .i64 k ∧ ReJ w W0 (w1.heap.size + 1) WN HN ls k wr) (fun i _ => ls.length - (intOf i).toNat)
      case atStart => exact ⟨0, Nat.zero_le _, rfl, hM0, fun _ _ _ => rfl, Nat.le_refl _, hBW0, fun i hi => by omega⟩
      case round =>
        clear hM0
        obtain ⟨k, hk, rfl, hJ⟩ := hrel
        have HJ := hide hJ
        obtain ⟨j1, j2, j3, j4, j5⟩ := hJ
        have HK2 := hide j2
        clear j2
        have b0 := (HK2.out w.heap.size (by omega) (by omega)).trans A1
        have b1 := (HK2.out (w.heap.size + 1) (by omega) (by omega)).trans A2
        have b2 := (HK2.out w1.heap.size (by omega) (by omega)).trans c1
        have b3 := (HK2.out (w1.heap.size + 2) (by omega) (by omega)).trans c3
        by_cases hlt : k < ls.length
        · have hd : decide ((k : Int) < (ls.length : Int)) = true := by simp; omega
          obtain ⟨bq, oq, rfl, hbq, e0, e1⟩ := HC.out k hlt
          have d0 := (j4.cell (p := ⟨bq, oq + k * 2, none⟩) hbq).trans e0
          have d1 := (j4.cell (p := ⟨bq, oq + k * 2 + 1, none⟩) hbq).trans e1
          have hwf := HLS.out k hlt
          have HNX := hide (fun (V w2 : World) (hV : Below wr.heap.size wr V) hh hm hg => ReJ.next (w2 := w2) HJ.out (show w.heap.size ≤ w1.heap.size + 1 by omega) hV hlt hh hm hg)
          have HFA := hide (fun h => spotsB_not (W := (WN : Int)) (H := (HN : Int)) k hlt h)
          obtain ⟨⟨x, y⟩, hxy⟩ : ∃ p, ptAt ls k = p := ⟨_, rfl⟩
          rw [hxy] at d0 d1 hwf HNX HFA
          simp only at d0 d1 HNX HFA
          have HHA := hide (fun v => has_any WN HN x y v)
          clear hxy e0 e1
          have a5 := al1 wr (Obj.cells #[.int .i64 x, .int .i64 y] 77)
          have hB5 := bel_alloc wr (Obj.cells #[.int .i64 x, .int .i64 y] 77)
          obtain ⟨s0, s1⟩ := bx2 a5
          obtain ⟨g0, g1⟩ := bx2 ((hB5.block w1.heap.size (by omega)).trans b2)
          go_wp2_with fail
          have hl5 := (Array.getElem?_eq_some_iff.1 a5).1
          generalize wr.alloc (Obj.cells #[.int .i64 x, .int .i64 y] 77) = V5 at *
          refine (HHA.out _).mono ?_
          rintro e V6 ⟨rfl, hb6⟩
          have hB6 := bel_trans hB5 hb6
          have hl3 := (Array.getElem?_eq_some_iff.1 b3).1
          clear s0 s1 g0 g1
          by_cases hh : hasB WN HN x y = true
          · rw [hh]
            have hcl : (ls.take k).count (x, y) ≤ 64 := by have := List.count_le_length (a := (x, y)) (l := ls.take k); have := List.length_take_le k ls; omega
            have hM6 : BadMap V6.drew (w1.heap.size + 1) k (ls.take k) := (j1.below hB6 (by have := j1.lt; omega)).drew
            have hlk := hM6.look (x, y) hwf
            obtain ⟨v0, st, w7, hent0, hg7, hM7, w8, hst0, hM8, hg8⟩ := hM6.entry (by omega) (by have := List.length_take_le k ls; omega) (x, y) hwf
            have hlk7 := hM7.look (x, y) hwf
            obtain ⟨c, hc⟩ : ∃ c, (ls.take k).count (x, y) = c := ⟨_, rfl⟩
            rw [hc] at hlk hlk7 hst0 hcl
            have hent : (Instr.mapEntry 121 (.map (some (w1.heap.size + 1))) (.agg #[.int .i64 x, .int .i64 y])).run Try.prog V6.drew = .ok (.tuple #[v0, .int .i64 st]) w7 := hent0
            have hst : (Instr.entryStore 121 (.map (some (w1.heap.size + 1))) (.int .i64 st) (.int .i64 ((c : Int) + 1))).run Try.prog w7 = .ok () w8 := hst0
            have hwc : IntKind.i64.wrap ((c : Int) + 1) = (c : Int) + 1 := IntWalk.i64_in _ (by omega)
            have HEND := hide (HNX.out V6.drew w8 (hB6.drew) hh hM8 hg8)
            clear hc hent0 hst0 HNX
            have t3 := (hB6.block (w1.heap.size + 2) hl3).trans b3
            have t5 := (hb6.block wr.heap.size hl5).trans a5
            have hj1 := j1.lt
            have t3b := (hg7.block (w1.heap.size + 2) (show w1.heap.size + 2 < V6.heap.size from (Array.getElem?_eq_some_iff.1 t3).1) (fun e => by have := Option.some.inj e; omega)).trans t3
            have t5b := (hg7.block wr.heap.size (show wr.heap.size < V6.heap.size from (Array.getElem?_eq_some_iff.1 t5).1) (fun e => by have := Option.some.inj e; omega)).trans t5
            have hSd : V6.drew.cell? ⟨w1.heap.size + 1 + 1, 0, none⟩ = some (.map (some (w1.heap.size + 1))) ∧ V6.drew.cell? ⟨wr.heap.size, 0, none⟩ = some (.int .i64 x) ∧ V6.drew.cell? ⟨wr.heap.size, 1, none⟩ = some (.int .i64 y) ∧ (Instr.lookup 121 (.map (some (w1.heap.size + 1))) (.agg #[.int .i64 x, .int .i64 y]) false).run Try.prog V6.drew = .ok (.int .i64 (c : Nat)) V6.drew := ⟨bx1 (w := V6.drew) (b := w1.heap.size + 1 + 1) t3, (bx2 (w := V6.drew) t5).1, (bx2 (w := V6.drew) t5).2, hlk⟩
            have HS7 := hide (show w7.cell? ⟨w1.heap.size + 1 + 1, 0, none⟩ = some (.map (some (w1.heap.size + 1))) ∧ w7.cell? ⟨wr.heap.size, 0, none⟩ = some (.int .i64 x) ∧ w7.cell? ⟨wr.heap.size, 1, none⟩ = some (.int .i64 y) ∧ (Instr.lookup 121 (.map (some (w1.heap.size + 1))) (.agg #[.int .i64 x, .int .i64 y]) false).run Try.prog w7 = .ok (.int .i64 (c : Nat)) w7 from ⟨bx1 (b := w1.heap.size + 1 + 1) t3b, (bx2 t5b).1, (bx2 t5b).2, hlk7⟩)
            clear t3 t5 t3b t5b hlk hlk7
            go_wp2_with fail
            have hmx : Try.prog.follows .mixedOrders = true := by kernel_rfl
            refine wp_region_last (S := fun v : World => v.cell? ⟨w1.heap.size + 1 + 1, 0, none⟩ = some (.map (some (w1.heap.size + 1))) ∧ v.cell? ⟨wr.heap.size, 0, none⟩ = some (.int .i64 x) ∧ v.cell? ⟨wr.heap.size, 1, none⟩ = some (.int .i64 y) ∧ (Instr.lookup 121 (.map (some (w1.heap.size + 1))) (.agg #[.int .i64 x, .int .i64 y]) false).run Try.prog v = .ok (.int .i64 (c : Nat)) v) (f := 6) hmx ?_
            show wpAnyF _ _ _ _ _ _ 7 _ _ V6.drew
            refine wpAnyF_takeD (i := 0) (oi := _) (v := ?vv1) (some 36) rfl rfl (by kernel_rfl) (by kernel_rfl) (by kernel_rfl) (by kernel_rfl) (by kernel_rfl) (fun _ _ _ h => h) (Or.inl ⟨by rfl, ?yy1⟩) hSd ?rr1
            case yy1 => (intro wq hSq; obtain ⟨_, _, _, _⟩ := hSq; go_simp <;> with_reducible rfl)
            simp only [Act.put, List.setIfInBounds_toArray, List.set_cons_succ, List.set_cons_zero]
            refine wpAnyF_takeD (i := 1) (oi := _) (v := ?vv2) (some 37) rfl rfl (by kernel_rfl) (by kernel_rfl) (by kernel_rfl) (by kernel_rfl) (by kernel_rfl) (fun _ _ _ h => h) (Or.inl ⟨by rfl, ?yy2⟩) hSd ?rr2
            case yy2 => (intro wq hSq; obtain ⟨_, _, _, _⟩ := hSq; go_simp <;> with_reducible rfl)
            simp only [Act.put, List.setIfInBounds_toArray, List.set_cons_succ, List.set_cons_zero]
            refine wpAnyF_takeD (i := 2) (oi := _) (v := ?vv3) (some 38) rfl rfl (by kernel_rfl) (by kernel_rfl) (by kernel_rfl) (by kernel_rfl) (by kernel_rfl) (fun _ _ _ h => h) (Or.inl ⟨by rfl, ?yy3⟩) hSd ?rr3
            case yy3 => (intro wq hSq; obtain ⟨_, _, _, _⟩ := hSq; go_simp <;> with_reducible rfl)
            simp only [Act.put, List.setIfInBounds_toArray, List.set_cons_succ, List.set_cons_zero]
            refine wpAnyF_takeD (i := 3) (oi := _) (v := ?vv4) (some 39) rfl rfl (by kernel_rfl) (by kernel_rfl) (by kernel_rfl) (by kernel_rfl) (by kernel_rfl) (fun _ _ _ h => h) (Or.inl ⟨by rfl, ?yy4⟩) hSd ?rr4
            case yy4 => (intro wq hSq; obtain ⟨_, _, _, _⟩ := hSq; go_simp <;> with_reducible rfl)
            simp only [Act.put, List.setIfInBounds_toArray, List.set_cons_succ, List.set_cons_zero]
            refine wpAnyF_one (i := 4) (o := _) (by kernel_rfl) rfl (fun K' hK => ?_)
            rw [if_pos (by rfl)]
            go_simp
            have hSd := HS7.out
            refine hK.out _ _ hSd ?_
            clear hK
            try simp only [Act.put]
            refine wpAnyF_takeD (i := 5) (oi := _) (v := ?vv5) (some 41) rfl rfl (by kernel_rfl) (by kernel_rfl) (by kernel_rfl) (by kernel_rfl) (by kernel_rfl) (fun _ _ _ h => h) (Or.inl ⟨by rfl, ?yy5⟩) hSd ?rr5
            case yy5 => (intro wq hSq; obtain ⟨_, _, _, _⟩ := hSq; go_simp <;> with_reducible rfl)
            simp only [Act.put, List.setIfInBounds_toArray, List.set_cons_succ, List.set_cons_zero]
            refine wpAnyF_last (o := _) (by kernel_rfl) rfl (fun K' hK => ?_)
            rw [if_pos (by rfl)]
            go_simp
            refine hK.out _ _ ?_
            clear hK
            refine wpAnyF_done (by kernel_rfl) ?_ _
            try simp only [Act.put]
            go_wp2
            go_roundw
            case rel => exact ⟨k + 1, by omega, by go_num, HEND.out⟩
            case measure => simp [intOf]; omega
          · have hh : hasB WN HN x y = false := by simpa using hh
            rw [hh]
            have he : E = 3 := by rw [HE.out, HFA.out hh]; rfl
            subst he
            have g4 := (hB6.block (w.heap.size + 1) (by omega)).trans b1
            obtain ⟨z0, z1, z2⟩ := cells3 g4
            have f0 := Lib.frozen_of_heap g4 0
            have f1 := Lib.frozen_of_heap g4 1
            have f2 := Lib.frozen_of_heap g4 2
            have HFIN := hide (set3_below (j4.trans (hB6.mono j4.size)) (show w.heap.size ≤ w.heap.size + 1 by omega) (.int .i64 0) (.int .i64 0) (.slice none 0 0))
            go_wp2
            exact bodyPost_ret (v := .tuple #[.agg #[.int .i64 0, .int .i64 0, .slice none 0 0], .int .i64 3]) (by simp [results, Try.results59, go_sem, z0, z1, z2]) rfl ⟨.slice none 0 0, rfl, IsInts.nil _, HFIN.out, Fresh.nil _⟩
        · have hd : decide ((k : Int) < (ls.length : Int)) = false := by simp; omega
          have hkl : k = ls.length := by omega
          subst hkl
          have he : E = 0 := by rw [HE.out, spotsB_get j5, if_pos rfl]
          subst he
          rw [List.take_length] at j1
          have hM1 := hide j1
          have a5 := al1 wr (Obj.cells #[.func (.func 60) #[] #[.pointer (some ⟨w1.heap.size + 1 + 1, 0, none⟩)]] 78)
          have hB5 := bel_alloc wr (Obj.cells #[.func (.func 60) #[] #[.pointer (some ⟨w1.heap.size + 1 + 1, 0, none⟩)]] 78)
          obtain ⟨g0, g1⟩ := bx2 ((hB5.block w1.heap.size (by omega)).trans b2)
          obtain ⟨g2, g3⟩ := bx2 b2
          go_wp2_with fail
          have hl5 := (Array.getElem?_eq_some_iff.1 a5).1
          clear g0 g1 g2 g3
          generalize wr.alloc (Obj.cells #[.func (.func 60) #[] #[.pointer (some ⟨w1.heap.size + 1 + 1, 0, none⟩)]] 78) = V5 at *
          refine (gridPlane_any WN HN zs.length (by omega) (by omega) HLEN.out 61 #[.pointer (some ⟨wr.heap.size, 0, none⟩), .pointer (some ⟨w.heap.size, 0, none⟩), .pointer (some ⟨w1.heap.size, 0, none⟩)] (repV zs WN HN ls) _ (enters_of Try.func61 (by kernel_rfl) rfl) ?_).mono ?_
          · intro j V hj hV
            have hb3 := bel_trans hB5 hV
            have hbw := j4.trans (hb3.mono j4.size)
            obtain ⟨e0, e1, e2⟩ := cells3 ((hb3.block w.heap.size (by omega)).trans b0)
            obtain ⟨e4, e5⟩ := bx2 ((hb3.block w1.heap.size (by omega)).trans b2)
            have e6 := bx1 ((hb3.block (w1.heap.size + 2) (by omega)).trans b3)
            have e7 := bx1 ((hV.block wr.heap.size hl5).trans a5)
            have hs := hb3.size
            have hsV := hV.size
            exact repair2_any WN HN j bk off ca (by omega) (by omega) (by omega) (by omega) zs HLEN.out HZ.out hj ls ls.length (w1.heap.size + 1) wr.heap.size w.heap.size w1.heap.size (w1.heap.size + 2) V (by omega) (by omega) (Nat.lt_of_lt_of_le hbk hbw.size) e0 e1 e2 e4 e5 (by omega) e7 (by omega) e6 (hM1.out.below hb3 hM1.out.lt) (fun i hi => (hbw.cell (p := ⟨bk, off + i, none⟩) hbk).trans (HCC.out i hi))
          · rintro e w3 ⟨r, rfl, hr, hb3, hfr⟩
            replace hb3 := bel_trans hB5 hb3
            have g4 := (hb3.block (w.heap.size + 1) (by omega)).trans b1
            obtain ⟨z0, z1, z2⟩ := cells3 g4
            have f0 := Lib.frozen_of_heap g4 0
            have f1 := Lib.frozen_of_heap g4 1
            have f2 := Lib.frozen_of_heap g4 2
            have HR := hide hr
            obtain ⟨ro, rc, rfl, _, _⟩ := hr
            have HFIN := hide (set3_below (j4.trans (hb3.mono j4.size)) (show w.heap.size ≤ w.heap.size + 1 by omega) (.int .i64 (WN : Nat)) (.int .i64 (HN : Nat)) (.slice ro ((List.range zs.length).map (repV zs WN HN ls)).length rc))
            have HPX2 := hide (HR.out.set3 hfr (show w.heap.size + 1 < V5.heap.size by have := hB5.size; omega) (.int .i64 (WN : Nat)) (.int .i64 (HN : Nat)) (.slice ro ((List.range zs.length).map (repV zs WN HN ls)).length rc))
            rw [List.length_map, List.length_range] at HPX2 HFIN hfr
            rw [List.length_map, List.length_range]
            have hsz5 : w.heap.size ≤ V5.heap.size := Nat.le_trans j4.size hB5.size
            go_wp2
            exact bodyPost_ret (v := .tuple #[.agg #[.int .i64 (WN : Nat), .int .i64 (HN : Nat), .slice ro zs.length rc], .int .i64 0]) (by simp [results, Try.results59, go_sem, z0, z1, z2]) rfl ⟨_, rfl, HPX2.out, HFIN.out, hfr.mono hsz5⟩
    · have he : E = 2 := by rw [← hE, repE, if_pos hp, if_neg hmn]
      have hd64 : decide (64 < (ls.length : Int)) = true := by simp; omega
      subst he
      clear hE
      obtain ⟨ao, ca, rfl, _, _⟩ := hv
      go_enter Try.func59, Try.ntmps59
      go_wp2_with fail
      obtain ⟨a1, a2⟩ := al2 w (Obj.cells #[.int .i64 W, .int .i64 H, .slice ao zs.length ca] 31) (Obj.cells #[.int .i64 0, .int .i64 0, .slice none 0 0] 31)
      have hB := be2 w (Obj.cells #[.int .i64 W, .int .i64 H, .slice ao zs.length ca] 31) (Obj.cells #[.int .i64 0, .int .i64 0, .slice none 0 0] 31)
      generalize (w.alloc (Obj.cells #[.int .i64 W, .int .i64 H, .slice ao zs.length ca] 31)).alloc (Obj.cells #[.int .i64 0, .int .i64 0, .slice none 0 0] 31) = U at *
      have hlU := (Array.getElem?_eq_some_iff.1 a2).1
      refine (plane_any W H _ zs _ (HV.out.below hB (Nat.le_refl _))).mono ?_
      rintro e w1 ⟨rfl, hb1⟩
      rw [hp]
      have g4 := (hb1.block (w.heap.size + 1) hlU).trans a2
      obtain ⟨z0, z1, z2⟩ := cells3 g4
      have f0 := Lib.frozen_of_heap g4 0
      have f1 := Lib.frozen_of_heap g4 1
      have f2 := Lib.frozen_of_heap g4 2
      have HFIN := hide (set3_below (hB.trans (hb1.mono hB.size)) (show w.heap.size ≤ w.heap.size + 1 by omega) (.int .i64 0) (.int .i64 0) (.slice none 0 0))
      go_wp2
      exact bodyPost_ret (v := .tuple #[.agg #[.int .i64 0, .int .i64 0, .slice none 0 0], .int .i64 2]) (by simp [results, Try.results59, go_sem, z0, z1, z2]) rfl ⟨.slice none 0 0, rfl, IsInts.nil _, HFIN.out, Fresh.nil _⟩
  · have he : E = 1 := by rw [← hE, repE, if_neg hp]
    have hp : planeOk W H zs = false := by simpa using hp
    subst he
    clear hE
    obtain ⟨ao, ca, rfl, _, _⟩ := hv
    go_enter Try.func59, Try.ntmps59
    go_wp2_with fail
    obtain ⟨a1, a2⟩ := al2 w (Obj.cells #[.int .i64 W, .int .i64 H, .slice ao zs.length ca] 31) (Obj.cells #[.int .i64 0, .int .i64 0, .slice none 0 0] 31)
    have hB := be2 w (Obj.cells #[.int .i64 W, .int .i64 H, .slice ao zs.length ca] 31) (Obj.cells #[.int .i64 0, .int .i64 0, .slice none 0 0] 31)
    generalize (w.alloc (Obj.cells #[.int .i64 W, .int .i64 H, .slice ao zs.length ca] 31)).alloc (Obj.cells #[.int .i64 0, .int .i64 0, .slice none 0 0] 31) = U at *
    have hlU := (Array.getElem?_eq_some_iff.1 a2).1
    refine (plane_any W H _ zs _ (HV.out.below hB (Nat.le_refl _))).mono ?_
    rintro e w1 ⟨rfl, hb1⟩
    rw [hp]
    have g4 := (hb1.block (w.heap.size + 1) hlU).trans a2
    obtain ⟨z0, z1, z2⟩ := cells3 g4
    have f0 := Lib.frozen_of_heap g4 0
    have f1 := Lib.frozen_of_heap g4 1
    have f2 := Lib.frozen_of_heap g4 2
    have HFIN := hide (set3_below (hB.trans (hb1.mono hB.size)) (show w.heap.size ≤ w.heap.size + 1 by omega) (.int .i64 0) (.int .i64 0) (.slice none 0 0))
    go_wp2
    exact bodyPost_ret (v := .tuple #[.agg #[.int .i64 0, .int .i64 0, .slice none 0 0], .int .i64 1]) (by simp [results, Try.results59, go_sem, z0, z1, z2]) rfl ⟨.slice none 0 0, rfl, IsInts.nil _, HFIN.out, Fresh.nil _⟩
end Go.Proofs.Ytolcndchfnifhac
