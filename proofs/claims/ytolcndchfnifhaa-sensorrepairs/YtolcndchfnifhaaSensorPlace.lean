/- sensor: what Level and Gain tell of a place. -/
import Derived.Test.YtolcndchfnifhaaSensorArr
import Derived.Test.YtolcndchfnifhaaMean
import Derived.Test.YtolcndchfnifhaaColour
import Derived.Test.YtolcndchfnifhaaPlaneAll
import Derived.Test.YtolcndchfnifhaaRegionLast2
namespace Go.Proofs.Ytolcndchfnifhaa
set_option linter.unusedVariables false
open Go.RowKit

def levelV (zs : List Int) (W : Nat) (m : Nat → Int) (white : Int) (j : Nat) : Int := clampV ((zAt zs j - m (j / W % 2 * 2 + j % W % 2)) * 65535 / (white - m (j / W % 2 * 2 + j % W % 2)))
def gainV (zs : List Int) (W p : Nat) (m : Nat → Int) (j : Nat) : Int := clampV (zAt zs j * m (colV p (j % W) (j / W)) / 256)
theorem colV_lt3 (p X Y : Nat) : colV p X Y < 3 := by unfold colV; split <;> omega

set_option maxRecDepth 100000 in
set_option maxHeartbeats 1600000 in
theorem level1_any (W H j bk off ca : Nat) (hW1 : 1 ≤ W) (hW : W ≤ 64) (hH : H ≤ 64) (zs : List Int) (hlen : zs.length = H * W) (hzs : allIn 0 65535 zs = true) (hj : j < zs.length) (m : Nat → Int) (white : Int) (hw0 : white ≤ 65535) (hm : ∀ k, k < 4 → 0 ≤ m k ∧ m k ≤ white - 1) (Bb Bp Bg Bw : Nat) (w : World) (hBp : Bp < w.heap.size) (hBg : Bg < w.heap.size) (hbk : bk < w.heap.size)
    (k2 : w.cell? ⟨Bp, 2, none⟩ = some (.slice (some ⟨bk, off, none⟩) zs.length ca)) (g0 : w.cell? ⟨Bg, 0, none⟩ = some (.int .i64 W)) (g1 : w.cell? ⟨Bg, 1, none⟩ = some (.int .i64 H)) (hBb : Bb < w.heap.size) (hBw : Bw < w.heap.size) (kb : ∀ k, k < 4 → w.cell? ⟨Bb, k, none⟩ = some (.int .i64 (m k))) (kw : w.cell? ⟨Bw, 0, none⟩ = some (.int .i64 white))
    (hcell : ∀ j, j < zs.length → w.cell? ⟨bk, off + j, none⟩ = some (.int .i64 (zAt zs j))) :
    Calls Try.prog 96 #[.agg #[.int .i64 (j % W : Nat), .int .i64 (j / W : Nat)], .pointer (some ⟨Bb, 0, none⟩), .pointer (some ⟨Bp, 0, none⟩), .pointer (some ⟨Bg, 0, none⟩), .pointer (some ⟨Bw, 0, none⟩)] w fun e w' => e = .returned (.int .i64 (levelV zs W m white j)) ∧ Below w.heap.size w w' := by
  have HT := hide (show levelV zs W m white j = clampV ((zAt zs j - m (j / W % 2 * 2 + j % W % 2)) * 65535 / (white - m (j / W % 2 * 2 + j % W % 2))) from rfl)
  generalize levelV zs W m white j = RES at *
  have hl4 : zs.length ≤ 4096 := by rw [hlen]; exact Nat.le_trans (Nat.mul_le_mul hH hW) (by decide)
  obtain ⟨X, hX⟩ : ∃ X, j % W = X := ⟨_, rfl⟩
  obtain ⟨Y, hY⟩ : ∃ Y, j / W = Y := ⟨_, rfl⟩
  have hk : Y * W + X = j := by rw [← hX, ← hY, Nat.mul_comm]; exact Nat.div_add_mod j W
  have HIX := hide (fun v => index_any W H X Y W j rfl hk (by omega) v)
  have hzr := zAt_ok hzs j
  have hcz := hcell j hj
  have hjI : (j : Int) < (zs.length : Int) := by omega
  rw [hX, hY] at HT
  rw [hX, hY]
  obtain ⟨a, ha⟩ : ∃ a, Y % 2 = a := ⟨_, rfl⟩
  obtain ⟨b, hb⟩ : ∃ b, X % 2 = b := ⟨_, rfl⟩
  have hya : (Y : Int) % 2 = (a : Int) := by rw [← ha]; rfl
  have hxb : (X : Int) % 2 = (b : Int) := by rw [← hb]; rfl
  obtain ⟨A2, hA2⟩ : ∃ A2, a * 2 = A2 := ⟨_, rfl⟩
  have hi1 : (a : Int) * 2 = (A2 : Int) := by omega
  obtain ⟨ix, hix⟩ : ∃ ix, A2 + b = ix := ⟨_, rfl⟩
  have hi2 : (A2 : Int) + (b : Int) = (ix : Int) := by omega
  have hix4 : ix < 4 := by omega
  have hixI : (ix : Int) < 4 := by omega
  rw [ha, hb, hA2, hix] at HT
  obtain ⟨hm0, hm1⟩ := hm ix hix4
  have kb0 := kb ix hix4
  obtain ⟨bl, hbl⟩ : ∃ bl, m ix = bl := ⟨_, rfl⟩
  rw [hbl] at HT hm0 hm1 kb0
  obtain ⟨z, hz⟩ : ∃ z, zAt zs j = z := ⟨_, rfl⟩
  rw [hz] at HT hzr hcz
  obtain ⟨hz1, hz2⟩ := hzr
  obtain ⟨d, hd⟩ : ∃ d, white - bl = d := ⟨_, rfl⟩
  rw [hd] at HT
  have hd1 : 1 ≤ d := by omega
  have hd0 : ¬ (d = 0) := by omega
  obtain ⟨n, hn⟩ : ∃ n, (z - bl) * 65535 = n := ⟨_, rfl⟩
  rw [hn, ← clamp_tdiv n d (by omega)] at HT
  have hn1 : -4294967296 ≤ n ∧ n ≤ 4294967296 := by omega
  have hf := down_facts n d (by omega)
  have hr1 : -4294967296 ≤ n / d := Int.le_ediv_of_mul_le (by omega) (by omega)
  have hr2 : n / d ≤ 4294967296 := Int.ediv_le_of_le_mul (by omega) (by omega)
  obtain ⟨q, hq⟩ : ∃ q, n.tdiv d = q := ⟨_, rfl⟩
  rw [hq] at HT hf
  have hqr : -4294967297 ≤ q ∧ q ≤ 4294967298 := by omega
  obtain ⟨hq1, hq2⟩ := hqr
  have hwd : IntKind.i64.wrap (white - bl) = d := by rw [hd]; exact IntWalk.i64_in _ (by omega)
  have hwd2 : IntKind.i64.wrap d = d := IntWalk.i64_in _ (by omega)
  have hwe : IntKind.i64.wrap (z - bl) = z - bl := IntWalk.i64_in _ (by omega)
  have hwn : IntKind.i64.wrap n = n := IntWalk.i64_in _ (by omega)
  have hwq : IntKind.i64.wrap q = q := IntWalk.i64_in _ (by omega)
  clear hf hr1 hr2 hX hY ha hb hA2 hix hbl hz hk hlen hcell hm kb hzs
  have HB := hide (bel_alloc w (Obj.cells #[.int .i64 X, .int .i64 Y] 117))
  have a1 := al1 w (Obj.cells #[.int .i64 X, .int .i64 Y] 117)
  have kb1 := (HB.out.cell (p := ⟨Bb, ix, none⟩) hBb).trans kb0
  obtain ⟨s0, s1⟩ := bx2 a1
  go_enter Try.func96, Try.ntmps96
  go_wp2_with fail
  have hl1 := (Array.getElem?_eq_some_iff.1 a1).1
  generalize w.alloc (Obj.cells #[.int .i64 X, .int .i64 Y] 117) = U at *
  have HS := hide (show ∀ v, Below U.heap.size U v → v.cell? ⟨Bp, 2, none⟩ = some (.slice (some ⟨bk, off, none⟩) zs.length ca) ∧ v.cell? ⟨Bg, 0, none⟩ = some (.int .i64 W) ∧ v.cell? ⟨Bg, 1, none⟩ = some (.int .i64 H) ∧ v.cell? ⟨w.heap.size, 0, none⟩ = some (.int .i64 X) ∧ v.cell? ⟨w.heap.size, 1, none⟩ = some (.int .i64 Y) ∧ v.cell? ⟨bk, off + j, none⟩ = some (.int .i64 z) ∧ v.cell? ⟨Bw, 0, none⟩ = some (.int .i64 white) from fun v h => by
    have hw := HB.out.trans (h.mono HB.out.size)
    obtain ⟨y0, y1⟩ := bx2 ((h.block _ hl1).trans a1)
    exact ⟨(hw.cell (p := ⟨Bp, 2, none⟩) hBp).trans k2, (hw.cell (p := ⟨Bg, 0, none⟩) hBg).trans g0, (hw.cell (p := ⟨Bg, 1, none⟩) hBg).trans g1, y0, y1, (hw.cell (p := ⟨bk, off + j, none⟩) hbk).trans hcz, (hw.cell (p := ⟨Bw, 0, none⟩) hBw).trans kw⟩)
  have hWd : Below U.heap.size U U.drew := (Below.refl _ _).drew
  have hSd := HS.out _ hWd
  clear s0 s1
  have hmx : Try.prog.follows .mixedOrders = true := by kernel_rfl
  refine wp_region_last (S := fun v : World => v.cell? ⟨Bp, 2, none⟩ = some (.slice (some ⟨bk, off, none⟩) zs.length ca) ∧ v.cell? ⟨Bg, 0, none⟩ = some (.int .i64 W) ∧ v.cell? ⟨Bg, 1, none⟩ = some (.int .i64 H) ∧ v.cell? ⟨w.heap.size, 0, none⟩ = some (.int .i64 X) ∧ v.cell? ⟨w.heap.size, 1, none⟩ = some (.int .i64 Y) ∧ v.cell? ⟨bk, off + j, none⟩ = some (.int .i64 z) ∧ v.cell? ⟨Bw, 0, none⟩ = some (.int .i64 white)) (f := 15) hmx ?_
  show wpAnyF _ _ _ _ _ _ 16 _ _ U.drew
  refine wpAnyF_takeD (i := 0) (oi := _) (v := ?vv1) (some 18) rfl rfl (by kernel_rfl) (by kernel_rfl) (by kernel_rfl) (by kernel_rfl) (by kernel_rfl) (fun _ _ _ h => h) (Or.inl ⟨by rfl, ?yy1⟩) hSd ?rr1
  case yy1 => (intro wq hSq; obtain ⟨_, _, _, _, _, _, _⟩ := hSq; go_simp <;> with_reducible rfl)
  simp only [Act.put, List.setIfInBounds_toArray, List.set_cons_succ, List.set_cons_zero]
  refine wpAnyF_takeD (i := 2) (oi := _) (v := ?vv2) (some 20) rfl rfl (by kernel_rfl) (by kernel_rfl) (by kernel_rfl) (by kernel_rfl) (by kernel_rfl) (fun _ _ _ h => h) (Or.inl ⟨by rfl, ?yy2⟩) hSd ?rr2
  case yy2 => (intro wq hSq; obtain ⟨_, _, _, _, _, _, _⟩ := hSq; go_simp <;> with_reducible rfl)
  simp only [Act.put, List.setIfInBounds_toArray, List.set_cons_succ, List.set_cons_zero]
  refine wpAnyF_takeD (i := 3) (oi := _) (v := ?vv3) (some 21) rfl rfl (by kernel_rfl) (by kernel_rfl) (by kernel_rfl) (by kernel_rfl) (by kernel_rfl) (fun _ _ _ h => h) (Or.inl ⟨by rfl, ?yy3⟩) hSd ?rr3
  case yy3 => (intro wq hSq; obtain ⟨_, _, _, _, _, _, _⟩ := hSq; go_simp <;> with_reducible rfl)
  simp only [Act.put, List.setIfInBounds_toArray, List.set_cons_succ, List.set_cons_zero]
  refine wpAnyF_takeD (i := 7) (oi := _) (v := ?vv4) (some 25) rfl rfl (by kernel_rfl) (by kernel_rfl) (by kernel_rfl) (by kernel_rfl) (by kernel_rfl) (fun _ _ _ h => h) (Or.inl ⟨by rfl, ?yy4⟩) hSd ?rr4
  case yy4 => (intro wq hSq; obtain ⟨_, _, _, _, _, _, _⟩ := hSq; go_simp <;> with_reducible rfl)
  simp only [Act.put, List.setIfInBounds_toArray, List.set_cons_succ, List.set_cons_zero]
  refine wpAnyF_takeD (i := 10) (oi := _) (v := ?vv5) (some 28) rfl rfl (by kernel_rfl) (by kernel_rfl) (by kernel_rfl) (by kernel_rfl) (by kernel_rfl) (fun _ _ _ h => h) (Or.inl ⟨by rfl, ?yy5⟩) hSd ?rr5
  case yy5 => (intro wq hSq; obtain ⟨_, _, _, _, _, _, _⟩ := hSq; go_simp <;> with_reducible rfl)
  simp only [Act.put, List.setIfInBounds_toArray, List.set_cons_succ, List.set_cons_zero]
  refine wpAnyF_takeD (i := 11) (oi := _) (v := ?vv6) (some 29) rfl rfl (by kernel_rfl) (by kernel_rfl) (by kernel_rfl) (by kernel_rfl) (by kernel_rfl) (fun _ _ _ h => h) (Or.inl ⟨by rfl, ?yy6⟩) hSd ?rr6
  case yy6 => (intro wq hSq; obtain ⟨_, _, _, _, _, _, _⟩ := hSq; go_simp <;> with_reducible rfl)
  simp only [Act.put, List.setIfInBounds_toArray, List.set_cons_succ, List.set_cons_zero]
  refine wpAnyF_takeD (i := 1) (oi := _) (v := ?vv7) (some 19) rfl rfl (by kernel_rfl) (by kernel_rfl) (by kernel_rfl) (by kernel_rfl) (by kernel_rfl) (fun _ _ _ h => h) (Or.inl ⟨by rfl, ?yy7⟩) hSd ?rr7
  case yy7 => (intro wq hSq; obtain ⟨_, _, _, _, _, _, _⟩ := hSq; go_simp <;> with_reducible rfl)
  simp only [Act.put, List.setIfInBounds_toArray, List.set_cons_succ, List.set_cons_zero]
  refine wpAnyF_takeD (i := 12) (oi := _) (v := ?vv8) (some 30) rfl rfl (by kernel_rfl) (by kernel_rfl) (by kernel_rfl) (by kernel_rfl) (by kernel_rfl) (fun _ _ _ h => h) (Or.inl ⟨by rfl, ?yy8⟩) hSd ?rr8
  case yy8 => (intro wq hSq; obtain ⟨_, _, _, _, _, _, _⟩ := hSq; go_simp <;> with_reducible rfl)
  simp only [Act.put, List.setIfInBounds_toArray, List.set_cons_succ, List.set_cons_zero]
  refine wpAnyF_one (i := 4) (o := _) (by kernel_rfl) rfl (fun K' hK => ?_)
  rw [if_pos (by rfl)]
  go_simp
  refine (HIX.out _).mono ?_
  rintro e V1 ⟨rfl, hbv⟩
  have hB1 : Below U.heap.size U V1 := hWd.trans (hbv.mono hWd.size)
  have hSd := HS.out _ hB1
  refine hK.out _ _ hSd ?_
  clear hK
  try simp only [Act.put]
  refine wpAnyF_takeD (i := 5) (oi := _) (v := ?vv9) (some 23) rfl rfl (by kernel_rfl) (by kernel_rfl) (by kernel_rfl) (by kernel_rfl) (by kernel_rfl) (fun _ _ _ h => h) (Or.inl ⟨by rfl, ?yy9⟩) hSd ?rr9
  case yy9 => (intro wq hSq; obtain ⟨_, _, _, _, _, _, _⟩ := hSq; go_simp <;> with_reducible rfl)
  simp only [Act.put, List.setIfInBounds_toArray, List.set_cons_succ, List.set_cons_zero]
  refine wpAnyF_takeD (i := 6) (oi := _) (v := ?vv10) (some 24) rfl rfl (by kernel_rfl) (by kernel_rfl) (by kernel_rfl) (by kernel_rfl) (by kernel_rfl) (fun _ _ _ h => h) (Or.inl ⟨by rfl, ?yy10⟩) hSd ?rr10
  case yy10 => (intro wq hSq; obtain ⟨_, _, _, _, _, _, _⟩ := hSq; go_simp <;> with_reducible rfl)
  simp only [Act.put, List.setIfInBounds_toArray, List.set_cons_succ, List.set_cons_zero]
  refine wpAnyF_takeD (i := 8) (oi := _) (v := ?vv11) (some 26) rfl rfl (by kernel_rfl) (by kernel_rfl) (by kernel_rfl) (by kernel_rfl) (by kernel_rfl) (fun _ _ _ h => h) (Or.inl ⟨by rfl, ?yy11⟩) hSd ?rr11
  case yy11 => (intro wq hSq; obtain ⟨_, _, _, _, _, _, _⟩ := hSq; go_simp <;> with_reducible rfl)
  simp only [Act.put, List.setIfInBounds_toArray, List.set_cons_succ, List.set_cons_zero]
  refine wpAnyF_takeD (i := 9) (oi := _) (v := ?vv12) (some 27) rfl rfl (by kernel_rfl) (by kernel_rfl) (by kernel_rfl) (by kernel_rfl) (by kernel_rfl) (fun _ _ _ h => h) (Or.inl ⟨by rfl, ?yy12⟩) hSd ?rr12
  case yy12 => (intro wq hSq; obtain ⟨_, _, _, _, _, _, _⟩ := hSq; go_simp <;> with_reducible rfl)
  simp only [Act.put, List.setIfInBounds_toArray, List.set_cons_succ, List.set_cons_zero]
  refine wpAnyF_takeD (i := 13) (oi := _) (v := ?vv13) (some 31) rfl rfl (by kernel_rfl) (by kernel_rfl) (by kernel_rfl) (by kernel_rfl) (by kernel_rfl) (fun _ _ _ h => h) (Or.inl ⟨by rfl, ?yy13⟩) hSd ?rr13
  case yy13 => (intro wq hSq; obtain ⟨_, _, _, _, _, _, _⟩ := hSq; go_simp <;> with_reducible rfl)
  simp only [Act.put, List.setIfInBounds_toArray, List.set_cons_succ, List.set_cons_zero]
  refine wpAnyF_one (i := 14) (o := _) (by kernel_rfl) rfl (fun K' hK => ?_)
  rw [if_pos (by rfl)]
  go_simp
  refine (held_any _ _).mono ?_
  rintro e Vx ⟨rfl, rfl⟩
  have hSd := hSd
  refine hK.out _ _ hSd ?_
  clear hK
  try simp only [Act.put]
  refine wpAnyF_last (o := _) (by kernel_rfl) rfl (fun K' hK => ?_)
  rw [if_pos (by rfl)]
  go_simp
  refine hK.out _ _ ?_
  clear hK
  refine wpAnyF_done (by kernel_rfl) ?_ _
  try simp only [Act.put]
  go_wp2
  go_ret
  exact ⟨ret_int HT.out.symm, HB.out.trans (hB1.mono HB.out.size)⟩

set_option maxRecDepth 100000 in
set_option maxHeartbeats 1600000 in
theorem gain1_any (W H j bk off ca : Nat) (hW1 : 1 ≤ W) (hW : W ≤ 64) (hH : H ≤ 64) (zs : List Int) (hlen : zs.length = H * W) (hzs : allIn 0 65535 zs = true) (hj : j < zs.length) (p : Nat) (hp : p ≤ 3) (m : Nat → Int) (hm : ∀ k, k < 3 → 0 ≤ m k ∧ m k ≤ 65535) (Bh Bp Bg Bm : Nat) (w : World) (hBp : Bp < w.heap.size) (hBg : Bg < w.heap.size) (hbk : bk < w.heap.size)
    (k2 : w.cell? ⟨Bp, 2, none⟩ = some (.slice (some ⟨bk, off, none⟩) zs.length ca)) (g0 : w.cell? ⟨Bg, 0, none⟩ = some (.int .i64 W)) (g1 : w.cell? ⟨Bg, 1, none⟩ = some (.int .i64 H)) (hBh : Bh < w.heap.size) (hBm : Bm < w.heap.size) (kh : w.cell? ⟨Bh, 0, none⟩ = some (.int .i64 p)) (km : ∀ k, k < 3 → w.cell? ⟨Bm, k, none⟩ = some (.int .i64 (m k)))
    (hcell : ∀ j, j < zs.length → w.cell? ⟨bk, off + j, none⟩ = some (.int .i64 (zAt zs j))) :
    Calls Try.prog 124 #[.agg #[.int .i64 (j % W : Nat), .int .i64 (j / W : Nat)], .pointer (some ⟨Bh, 0, none⟩), .pointer (some ⟨Bp, 0, none⟩), .pointer (some ⟨Bg, 0, none⟩), .pointer (some ⟨Bm, 0, none⟩)] w fun e w' => e = .returned (.int .i64 (gainV zs W p m j)) ∧ Below w.heap.size w w' := by
  have HT := hide (show gainV zs W p m j = clampV (zAt zs j * m (colV p (j % W) (j / W)) / 256) from rfl)
  generalize gainV zs W p m j = RES at *
  have hl4 : zs.length ≤ 4096 := by rw [hlen]; exact Nat.le_trans (Nat.mul_le_mul hH hW) (by decide)
  obtain ⟨X, hX⟩ : ∃ X, j % W = X := ⟨_, rfl⟩
  obtain ⟨Y, hY⟩ : ∃ Y, j / W = Y := ⟨_, rfl⟩
  have hk : Y * W + X = j := by rw [← hX, ← hY, Nat.mul_comm]; exact Nat.div_add_mod j W
  have HIX := hide (fun v => index_any W H X Y W j rfl hk (by omega) v)
  have hzr := zAt_ok hzs j
  have hcz := hcell j hj
  have hjI : (j : Int) < (zs.length : Int) := by omega
  rw [hX, hY] at HT
  rw [hX, hY]
  have HCO := hide (fun v => colour_ok p X Y hp v)
  have hc3 := colV_lt3 p X Y
  obtain ⟨c, hc⟩ : ∃ c, colV p X Y = c := ⟨_, rfl⟩
  rw [hc] at HCO HT hc3
  have hcI : (c : Int) < 3 := by omega
  obtain ⟨hm0, hm1⟩ := hm c hc3
  have km0 := km c hc3
  obtain ⟨gn, hgn⟩ : ∃ gn, m c = gn := ⟨_, rfl⟩
  rw [hgn] at HT hm0 hm1 km0
  obtain ⟨z, hz⟩ : ∃ z, zAt zs j = z := ⟨_, rfl⟩
  rw [hz] at HT hzr hcz
  obtain ⟨hz1, hz2⟩ := hzr
  have hn0 : 0 ≤ z * gn := Int.mul_nonneg hz1 hm0
  have hn1 : z * gn ≤ 65535 * 65535 := Int.mul_le_mul hz2 hm1 hm0 (by omega)
  obtain ⟨n, hn⟩ : ∃ n, z * gn = n := ⟨_, rfl⟩
  rw [hn] at HT hn0 hn1
  have hq0 := Int.tdiv_eq_ediv_of_nonneg (b := 256) hn0
  rw [← hq0] at HT
  have hqr : 0 ≤ n.tdiv 256 ∧ n.tdiv 256 ≤ 4294967296 := by rw [hq0]; omega
  obtain ⟨q, hq⟩ : ∃ q, n.tdiv 256 = q := ⟨_, rfl⟩
  rw [hq] at HT hqr
  obtain ⟨hq1, hq2⟩ := hqr
  have hq3 : n / 256 = q := by rw [← hq0]; exact hq
  have hwn : IntKind.i64.wrap n = n := IntWalk.i64_in _ (by omega)
  have hwq : IntKind.i64.wrap q = q := IntWalk.i64_in _ (by omega)
  clear hq0 hX hY hc hgn hz hk hlen hcell hm km hzs
  have HB := hide (bel_alloc w (Obj.cells #[.int .i64 X, .int .i64 Y] 117))
  have a1 := al1 w (Obj.cells #[.int .i64 X, .int .i64 Y] 117)
  have kh1 := (HB.out.cell (p := ⟨Bh, 0, none⟩) hBh).trans kh
  obtain ⟨s0, s1⟩ := bx2 a1
  go_enter Try.func124, Try.ntmps124
  go_wp2_with fail
  have hl1 := (Array.getElem?_eq_some_iff.1 a1).1
  have hB0 := HB
  generalize w.alloc (Obj.cells #[.int .i64 X, .int .i64 Y] 117) = U0 at *
  refine (HCO.out _).mono ?_
  rintro e U ⟨rfl, hbU⟩
  replace HB := hide (HB.out.trans (hbU.mono HB.out.size))
  replace a1 := (hbU.block _ hl1).trans a1
  replace hl1 := (Array.getElem?_eq_some_iff.1 a1).1
  go_wp2_with fail
  clear kh1 hbU hB0
  have HS := hide (show ∀ v, Below U.heap.size U v → v.cell? ⟨Bp, 2, none⟩ = some (.slice (some ⟨bk, off, none⟩) zs.length ca) ∧ v.cell? ⟨Bg, 0, none⟩ = some (.int .i64 W) ∧ v.cell? ⟨Bg, 1, none⟩ = some (.int .i64 H) ∧ v.cell? ⟨w.heap.size, 0, none⟩ = some (.int .i64 X) ∧ v.cell? ⟨w.heap.size, 1, none⟩ = some (.int .i64 Y) ∧ v.cell? ⟨bk, off + j, none⟩ = some (.int .i64 z) ∧ v.cell? ⟨Bm, c, none⟩ = some (.int .i64 gn) from fun v h => by
    have hw := HB.out.trans (h.mono HB.out.size)
    obtain ⟨y0, y1⟩ := bx2 ((h.block _ hl1).trans a1)
    exact ⟨(hw.cell (p := ⟨Bp, 2, none⟩) hBp).trans k2, (hw.cell (p := ⟨Bg, 0, none⟩) hBg).trans g0, (hw.cell (p := ⟨Bg, 1, none⟩) hBg).trans g1, y0, y1, (hw.cell (p := ⟨bk, off + j, none⟩) hbk).trans hcz, (hw.cell (p := ⟨Bm, c, none⟩) hBm).trans km0⟩)
  have hWd : Below U.heap.size U U.drew := (Below.refl _ _).drew
  have hSd := HS.out _ hWd
  clear s0 s1
  have hmx : Try.prog.follows .mixedOrders = true := by kernel_rfl
  refine wp_region_last (S := fun v : World => v.cell? ⟨Bp, 2, none⟩ = some (.slice (some ⟨bk, off, none⟩) zs.length ca) ∧ v.cell? ⟨Bg, 0, none⟩ = some (.int .i64 W) ∧ v.cell? ⟨Bg, 1, none⟩ = some (.int .i64 H) ∧ v.cell? ⟨w.heap.size, 0, none⟩ = some (.int .i64 X) ∧ v.cell? ⟨w.heap.size, 1, none⟩ = some (.int .i64 Y) ∧ v.cell? ⟨bk, off + j, none⟩ = some (.int .i64 z) ∧ v.cell? ⟨Bm, c, none⟩ = some (.int .i64 gn)) (f := 13) hmx ?_
  show wpAnyF _ _ _ _ _ _ 14 _ _ U.drew
  refine wpAnyF_takeD (i := 0) (oi := _) (v := ?vv14) (some 18) rfl rfl (by kernel_rfl) (by kernel_rfl) (by kernel_rfl) (by kernel_rfl) (by kernel_rfl) (fun _ _ _ h => h) (Or.inl ⟨by rfl, ?yy14⟩) hSd ?rr14
  case yy14 => (intro wq hSq; obtain ⟨_, _, _, _, _, _, _⟩ := hSq; go_simp <;> with_reducible rfl)
  simp only [Act.put, List.setIfInBounds_toArray, List.set_cons_succ, List.set_cons_zero]
  refine wpAnyF_takeD (i := 2) (oi := _) (v := ?vv15) (some 20) rfl rfl (by kernel_rfl) (by kernel_rfl) (by kernel_rfl) (by kernel_rfl) (by kernel_rfl) (fun _ _ _ h => h) (Or.inl ⟨by rfl, ?yy15⟩) hSd ?rr15
  case yy15 => (intro wq hSq; obtain ⟨_, _, _, _, _, _, _⟩ := hSq; go_simp <;> with_reducible rfl)
  simp only [Act.put, List.setIfInBounds_toArray, List.set_cons_succ, List.set_cons_zero]
  refine wpAnyF_takeD (i := 3) (oi := _) (v := ?vv16) (some 21) rfl rfl (by kernel_rfl) (by kernel_rfl) (by kernel_rfl) (by kernel_rfl) (by kernel_rfl) (fun _ _ _ h => h) (Or.inl ⟨by rfl, ?yy16⟩) hSd ?rr16
  case yy16 => (intro wq hSq; obtain ⟨_, _, _, _, _, _, _⟩ := hSq; go_simp <;> with_reducible rfl)
  simp only [Act.put, List.setIfInBounds_toArray, List.set_cons_succ, List.set_cons_zero]
  refine wpAnyF_takeD (i := 7) (oi := _) (v := ?vv17) (some 25) rfl rfl (by kernel_rfl) (by kernel_rfl) (by kernel_rfl) (by kernel_rfl) (by kernel_rfl) (fun _ _ _ h => h) (Or.inl ⟨by rfl, ?yy17⟩) hSd ?rr17
  case yy17 => (intro wq hSq; obtain ⟨_, _, _, _, _, _, _⟩ := hSq; go_simp <;> with_reducible rfl)
  simp only [Act.put, List.setIfInBounds_toArray, List.set_cons_succ, List.set_cons_zero]
  refine wpAnyF_takeD (i := 1) (oi := _) (v := ?vv18) (some 19) rfl rfl (by kernel_rfl) (by kernel_rfl) (by kernel_rfl) (by kernel_rfl) (by kernel_rfl) (fun _ _ _ h => h) (Or.inl ⟨by rfl, ?yy18⟩) hSd ?rr18
  case yy18 => (intro wq hSq; obtain ⟨_, _, _, _, _, _, _⟩ := hSq; go_simp <;> with_reducible rfl)
  simp only [Act.put, List.setIfInBounds_toArray, List.set_cons_succ, List.set_cons_zero]
  refine wpAnyF_takeD (i := 8) (oi := _) (v := ?vv19) (some 26) rfl rfl (by kernel_rfl) (by kernel_rfl) (by kernel_rfl) (by kernel_rfl) (by kernel_rfl) (fun _ _ _ h => h) (Or.inl ⟨by rfl, ?yy19⟩) hSd ?rr19
  case yy19 => (intro wq hSq; obtain ⟨_, _, _, _, _, _, _⟩ := hSq; go_simp <;> with_reducible rfl)
  simp only [Act.put, List.setIfInBounds_toArray, List.set_cons_succ, List.set_cons_zero]
  refine wpAnyF_takeD (i := 9) (oi := _) (v := ?vv20) (some 27) rfl rfl (by kernel_rfl) (by kernel_rfl) (by kernel_rfl) (by kernel_rfl) (by kernel_rfl) (fun _ _ _ h => h) (Or.inl ⟨by rfl, ?yy20⟩) hSd ?rr20
  case yy20 => (intro wq hSq; obtain ⟨_, _, _, _, _, _, _⟩ := hSq; go_simp <;> with_reducible rfl)
  simp only [Act.put, List.setIfInBounds_toArray, List.set_cons_succ, List.set_cons_zero]
  refine wpAnyF_one (i := 4) (o := _) (by kernel_rfl) rfl (fun K' hK => ?_)
  rw [if_pos (by rfl)]
  go_simp
  refine (HIX.out _).mono ?_
  rintro e V1 ⟨rfl, hbv⟩
  have hB1 : Below U.heap.size U V1 := hWd.trans (hbv.mono hWd.size)
  have hSd := HS.out _ hB1
  refine hK.out _ _ hSd ?_
  clear hK
  try simp only [Act.put]
  refine wpAnyF_takeD (i := 5) (oi := _) (v := ?vv21) (some 23) rfl rfl (by kernel_rfl) (by kernel_rfl) (by kernel_rfl) (by kernel_rfl) (by kernel_rfl) (fun _ _ _ h => h) (Or.inl ⟨by rfl, ?yy21⟩) hSd ?rr21
  case yy21 => (intro wq hSq; obtain ⟨_, _, _, _, _, _, _⟩ := hSq; go_simp <;> with_reducible rfl)
  simp only [Act.put, List.setIfInBounds_toArray, List.set_cons_succ, List.set_cons_zero]
  refine wpAnyF_takeD (i := 6) (oi := _) (v := ?vv22) (some 24) rfl rfl (by kernel_rfl) (by kernel_rfl) (by kernel_rfl) (by kernel_rfl) (by kernel_rfl) (fun _ _ _ h => h) (Or.inl ⟨by rfl, ?yy22⟩) hSd ?rr22
  case yy22 => (intro wq hSq; obtain ⟨_, _, _, _, _, _, _⟩ := hSq; go_simp <;> with_reducible rfl)
  simp only [Act.put, List.setIfInBounds_toArray, List.set_cons_succ, List.set_cons_zero]
  refine wpAnyF_takeD (i := 10) (oi := _) (v := ?vv23) (some 28) rfl rfl (by kernel_rfl) (by kernel_rfl) (by kernel_rfl) (by kernel_rfl) (by kernel_rfl) (fun _ _ _ h => h) (Or.inl ⟨by rfl, ?yy23⟩) hSd ?rr23
  case yy23 => (intro wq hSq; obtain ⟨_, _, _, _, _, _, _⟩ := hSq; go_simp <;> with_reducible rfl)
  simp only [Act.put, List.setIfInBounds_toArray, List.set_cons_succ, List.set_cons_zero]
  refine wpAnyF_takeD (i := 11) (oi := _) (v := ?vv24) (some 29) rfl rfl (by kernel_rfl) (by kernel_rfl) (by kernel_rfl) (by kernel_rfl) (by kernel_rfl) (fun _ _ _ h => h) (Or.inl ⟨by rfl, ?yy24⟩) hSd ?rr24
  case yy24 => (intro wq hSq; obtain ⟨_, _, _, _, _, _, _⟩ := hSq; go_simp <;> with_reducible rfl)
  simp only [Act.put, List.setIfInBounds_toArray, List.set_cons_succ, List.set_cons_zero]
  refine wpAnyF_one (i := 12) (o := _) (by kernel_rfl) rfl (fun K' hK => ?_)
  rw [if_pos (by rfl)]
  go_simp
  refine (held_any _ _).mono ?_
  rintro e Vx ⟨rfl, rfl⟩
  have hSd := hSd
  refine hK.out _ _ hSd ?_
  clear hK
  try simp only [Act.put]
  refine wpAnyF_last (o := _) (by kernel_rfl) rfl (fun K' hK => ?_)
  rw [if_pos (by rfl)]
  go_simp
  refine hK.out _ _ ?_
  clear hK
  refine wpAnyF_done (by kernel_rfl) ?_ _
  try simp only [Act.put]
  go_wp2
  go_ret
  exact ⟨ret_int HT.out.symm, HB.out.trans (hB1.mono HB.out.size)⟩

end Go.Proofs.Ytolcndchfnifhaa
