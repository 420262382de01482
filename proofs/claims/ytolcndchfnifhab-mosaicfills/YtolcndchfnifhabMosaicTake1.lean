/- mosaic.Take. -/
import Derived.Test.YtolcndchfnifhabMosaicFill
import Derived.Test.YtolcndchfnifhabTri
import Derived.Test.YtolcndchfnifhabRegionLast2
namespace Go.Proofs.Ytolcndchfnifhab
set_option linter.unusedVariables false
open Go.RowKit

def takeV (ps : List Px) (W p j : Nat) : Int := pxF (pxAt ps j) (colV p (j % W) (j / W))
theorem colV_lt (p X Y : Nat) : colV p X Y < 3 := by unfold colV; split <;> omega

set_option maxRecDepth 100000 in
set_option maxHeartbeats 1600000 in
theorem take1_any (W H p j bk off ca : Nat) (hW1 : 1 ≤ W) (hW : W ≤ 64) (hH : H ≤ 64) (hp : p ≤ 3) (ps : List Px) (hlen : ps.length = H * W) (hj : j < ps.length) (Bq Bg Bh : Nat) (w : World) (hBq : Bq < w.heap.size) (hBg : Bg < w.heap.size) (hBh : Bh < w.heap.size) (hbk : bk < w.heap.size)
    (k2 : w.cell? ⟨Bq, 2, none⟩ = some (.slice (some ⟨bk, off, none⟩) ps.length ca)) (g0 : w.cell? ⟨Bg, 0, none⟩ = some (.int .i64 W)) (g1 : w.cell? ⟨Bg, 1, none⟩ = some (.int .i64 H)) (k3 : w.cell? ⟨Bh, 0, none⟩ = some (.int .i64 p))
    (hcell : ∀ j, j < ps.length → w.cell? ⟨bk, off + j * 3, none⟩ = some (.int .i64 (pxAt ps j).1) ∧ w.cell? ⟨bk, off + j * 3 + 1, none⟩ = some (.int .i64 (pxAt ps j).2.1) ∧ w.cell? ⟨bk, off + j * 3 + 2, none⟩ = some (.int .i64 (pxAt ps j).2.2)) :
    Calls Try.prog 69 #[.agg #[.int .i64 (j % W : Nat), .int .i64 (j / W : Nat)], .pointer (some ⟨Bq, 0, none⟩), .pointer (some ⟨Bg, 0, none⟩), .pointer (some ⟨Bh, 0, none⟩)] w fun e w' => e = .returned (.int .i64 (takeV ps W p j)) ∧ Below w.heap.size w w' := by
  have hl4 : ps.length ≤ 4096 := by rw [hlen]; exact Nat.le_trans (Nat.mul_le_mul hH hW) (by decide)
  have HT := hide (show takeV ps W p j = pxF (pxAt ps j) (colV p (j % W) (j / W)) from rfl)
  generalize takeV ps W p j = RES at *
  obtain ⟨X, hX⟩ : ∃ X, j % W = X := ⟨_, rfl⟩
  obtain ⟨Y, hY⟩ : ∃ Y, j / W = Y := ⟨_, rfl⟩
  have hk : Y * W + X = j := by rw [← hX, ← hY, Nat.mul_comm]; exact Nat.div_add_mod j W
  rw [hX, hY] at HT
  rw [hX, hY]
  clear hX hY
  have HIX := hide (fun v => index_any W H X Y W j rfl hk (by omega) v)
  have HCO := hide (fun v => colourOf_any p X Y hp v)
  have hq3 := colV_lt p X Y
  obtain ⟨q, hq⟩ : ∃ q, colV p X Y = q := ⟨_, rfl⟩
  rw [hq] at HCO HT hq3
  obtain ⟨c0, c1, c2⟩ := hcell j hj
  obtain ⟨⟨r, g, u⟩, hp2⟩ : ∃ t, pxAt ps j = t := ⟨_, rfl⟩
  rw [hp2] at c0 c1 c2 HT
  have hjI : (j : Int) < (ps.length : Int) := by omega
  clear hcell hq hp2 hk hlen
  have HB := hide (bel_alloc w (Obj.cells #[.int .i64 X, .int .i64 Y] 93))
  have a1 := al1 w (Obj.cells #[.int .i64 X, .int .i64 Y] 93)
  go_enter Try.func69, Try.ntmps69
  go_wp2_with fail
  have hl1 := (Array.getElem?_eq_some_iff.1 a1).1
  generalize w.alloc (Obj.cells #[.int .i64 X, .int .i64 Y] 93) = U at *
  have HS := hide (show ∀ v, Below U.heap.size U v → v.cell? ⟨Bq, 2, none⟩ = some (.slice (some ⟨bk, off, none⟩) ps.length ca) ∧ v.cell? ⟨Bg, 0, none⟩ = some (.int .i64 W) ∧ v.cell? ⟨Bg, 1, none⟩ = some (.int .i64 H) ∧ v.cell? ⟨Bh, 0, none⟩ = some (.int .i64 p) ∧ v.cell? ⟨w.heap.size, 0, none⟩ = some (.int .i64 X) ∧ v.cell? ⟨w.heap.size, 1, none⟩ = some (.int .i64 Y) ∧ v.cell? ⟨bk, off + j * 3, none⟩ = some (.int .i64 r) ∧ v.cell? ⟨bk, off + j * 3 + 1, none⟩ = some (.int .i64 g) ∧ v.cell? ⟨bk, off + j * 3 + 2, none⟩ = some (.int .i64 u) from fun v h => by
    have hw := HB.out.trans (h.mono HB.out.size)
    have t := (h.block _ hl1).trans a1
    exact ⟨(hw.cell (p := ⟨Bq, 2, none⟩) hBq).trans k2, (hw.cell (p := ⟨Bg, 0, none⟩) hBg).trans g0, (hw.cell (p := ⟨Bg, 1, none⟩) hBg).trans g1, (hw.cell (p := ⟨Bh, 0, none⟩) hBh).trans k3, by rw [Lib.cell_of_heap t]; rfl, by rw [Lib.cell_of_heap t]; rfl, (hw.cell (p := ⟨bk, off + j * 3, none⟩) hbk).trans c0, (hw.cell (p := ⟨bk, off + j * 3 + 1, none⟩) hbk).trans c1, (hw.cell (p := ⟨bk, off + j * 3 + 2, none⟩) hbk).trans c2⟩)
  have hWd : Below U.heap.size U U.drew := (Below.refl _ _).drew
  have hSd := HS.out _ hWd
  clear a1 c0 c1 c2 k2 g0 g1 k3
  have hmx : Try.prog.follows .mixedOrders = true := by kernel_rfl
  refine wp_region_last (S := fun v : World => v.cell? ⟨Bq, 2, none⟩ = some (.slice (some ⟨bk, off, none⟩) ps.length ca) ∧ v.cell? ⟨Bg, 0, none⟩ = some (.int .i64 W) ∧ v.cell? ⟨Bg, 1, none⟩ = some (.int .i64 H) ∧ v.cell? ⟨Bh, 0, none⟩ = some (.int .i64 p) ∧ v.cell? ⟨w.heap.size, 0, none⟩ = some (.int .i64 X) ∧ v.cell? ⟨w.heap.size, 1, none⟩ = some (.int .i64 Y) ∧ v.cell? ⟨bk, off + j * 3, none⟩ = some (.int .i64 r) ∧ v.cell? ⟨bk, off + j * 3 + 1, none⟩ = some (.int .i64 g) ∧ v.cell? ⟨bk, off + j * 3 + 2, none⟩ = some (.int .i64 u)) (f := 8) hmx ?_
  show wpAnyF _ _ _ _ _ _ 9 _ _ U.drew
  refine wpAnyF_take (i := 0) (oi := _) (v := ?vv1) rfl (by kernel_rfl) (by kernel_rfl) (by kernel_rfl) (by kernel_rfl) (by kernel_rfl) (fun _ _ _ h => h) (Or.inl ⟨by rfl, ?yy1⟩) hSd ?rr1
  case yy1 => (intro wq hSq; obtain ⟨_, _, _, _, _, _, _, _, _⟩ := hSq; go_simp <;> with_reducible rfl)
  try simp only [Act.put]
  refine wpAnyF_take (i := 1) (oi := _) (v := ?vv2) rfl (by kernel_rfl) (by kernel_rfl) (by kernel_rfl) (by kernel_rfl) (by kernel_rfl) (fun _ _ _ h => h) (Or.inl ⟨by rfl, ?yy2⟩) hSd ?rr2
  case yy2 => (intro wq hSq; obtain ⟨_, _, _, _, _, _, _, _, _⟩ := hSq; go_simp <;> with_reducible rfl)
  try simp only [Act.put]
  refine wpAnyF_take (i := 2) (oi := _) (v := ?vv3) rfl (by kernel_rfl) (by kernel_rfl) (by kernel_rfl) (by kernel_rfl) (by kernel_rfl) (fun _ _ _ h => h) (Or.inl ⟨by rfl, ?yy3⟩) hSd ?rr3
  case yy3 => (intro wq hSq; obtain ⟨_, _, _, _, _, _, _, _, _⟩ := hSq; go_simp <;> with_reducible rfl)
  try simp only [Act.put]
  refine wpAnyF_take (i := 3) (oi := _) (v := ?vv4) rfl (by kernel_rfl) (by kernel_rfl) (by kernel_rfl) (by kernel_rfl) (by kernel_rfl) (fun _ _ _ h => h) (Or.inl ⟨by rfl, ?yy4⟩) hSd ?rr4
  case yy4 => (intro wq hSq; obtain ⟨_, _, _, _, _, _, _, _, _⟩ := hSq; go_simp <;> with_reducible rfl)
  try simp only [Act.put]
  refine wpAnyF_two (i := 4) (j := 7) (oi := _) (oj := _) (by kernel_rfl) rfl rfl (fun K' hK => ?brA) (fun K' hK => ?brB)
  case brA =>
    rw [if_pos (by rfl)]
    go_simp
    refine (HIX.out _).mono ?_
    rintro e V1 ⟨rfl, hbv⟩
    have hB1 : Below U.heap.size U V1 := hWd.trans (hbv.mono hWd.size)
    have hSd := HS.out _ hB1
    refine hK.out _ _ hSd ?_
    clear hK
    try simp only [Act.put]
    refine wpAnyF_take (i := 5) (oi := _) (v := ?vv5) rfl (by kernel_rfl) (by kernel_rfl) (by kernel_rfl) (by kernel_rfl) (by kernel_rfl) (fun _ _ _ h => h) (Or.inl ⟨by rfl, ?yy5⟩) hSd ?rr5
    case yy5 => (intro wq hSq; obtain ⟨_, _, _, _, _, _, _, _, _⟩ := hSq; go_simp <;> with_reducible rfl)
    try simp only [Act.put]
    refine wpAnyF_take (i := 6) (oi := _) (v := ?vv6) rfl (by kernel_rfl) (by kernel_rfl) (by kernel_rfl) (by kernel_rfl) (by kernel_rfl) (fun _ _ _ h => h) (Or.inl ⟨by rfl, ?yy6⟩) hSd ?rr6
    case yy6 => (intro wq hSq; obtain ⟨_, _, _, _, _, _, _, _, _⟩ := hSq; go_simp <;> with_reducible rfl)
    try simp only [Act.put]
    refine wpAnyF_one (i := 7) (o := _) (by kernel_rfl) rfl (fun K' hK => ?_)
    rw [if_pos (by rfl)]
    go_simp
    have hBz : Below U.heap.size U (V1.alloc (Obj.cells #[.int .i64 0, .int .i64 0, .int .i64 0] 50)) := hB1.alloc hB1.size _
    have hSd := HS.out _ hBz
    refine hK.out _ _ hSd ?_
    clear hK
    try simp only [Act.put]
    refine wpAnyF_last (o := _) (by kernel_rfl) rfl (fun K' hK => ?_)
    rw [if_pos (by rfl)]
    go_simp
    refine hK.out _ _ ?_
    clear hK
    refine wpAnyF_done (by kernel_rfl) ?_ _
    try simp only [Act.put]
    have vB : Below U.heap.size U (V1.alloc (Obj.cells #[.int .i64 r, .int .i64 g, .int .i64 u] 50)) := hB1.alloc hB1.size _
    have vS := al1 V1 (Obj.cells #[.int .i64 r, .int .i64 g, .int .i64 u] 50)
    generalize V1.alloc (Obj.cells #[.int .i64 r, .int .i64 g, .int .i64 u] 50) = V at *
    generalize V1.heap.size = SB at vS ⊢
    have hlS := (Array.getElem?_eq_some_iff.1 vS).1
    obtain ⟨y1, y2, y3, y4, y5, y6, y7, y8, y9⟩ := HS.out _ vB
    clear hSd
    go_wp2_with fail
    refine (HCO.out _).mono ?_
    rintro e V3 ⟨rfl, hb3⟩
    obtain ⟨d0, d1, d2⟩ := cells3 ((hb3.block SB hlS).trans vS)
    have HFIN := hide (HB.out.trans ((bel_trans vB hb3).mono HB.out.size))
    rcases (show q = 0 ∨ q = 1 ∨ q = 2 by omega) with rfl | rfl | rfl
    all_goals
      go_wp2
      go_ret
      exact ⟨ret_int (by rw [HT.out]; rfl), HFIN.out⟩
  case brB =>
    rw [if_pos (by rfl)]
    go_simp
    have hBz : Below U.heap.size U (U.drew.alloc (Obj.cells #[.int .i64 0, .int .i64 0, .int .i64 0] 50)) := hWd.alloc hWd.size _
    have hSd := HS.out _ hBz
    refine hK.out _ _ hSd ?_
    clear hK
    try simp only [Act.put]
    refine wpAnyF_one (i := 4) (o := _) (by kernel_rfl) rfl (fun K' hK => ?_)
    rw [if_pos (by rfl)]
    go_simp
    refine (HIX.out _).mono ?_
    rintro e V1 ⟨rfl, hbv⟩
    have hB1 : Below U.heap.size U V1 := hBz.trans (hbv.mono hBz.size)
    have gz := (hbv.block U.heap.size (by show U.heap.size < (U.alloc (Obj.cells #[.int .i64 0, .int .i64 0, .int .i64 0] 50)).heap.size; simp)).trans (al1 U.drew (Obj.cells #[.int .i64 0, .int .i64 0, .int .i64 0] 50))
    have hSd := HS.out _ hB1
    refine hK.out _ _ hSd ?_
    clear hK
    try simp only [Act.put]
    refine wpAnyF_take (i := 5) (oi := _) (v := ?vv7) rfl (by kernel_rfl) (by kernel_rfl) (by kernel_rfl) (by kernel_rfl) (by kernel_rfl) (fun _ _ _ h => h) (Or.inl ⟨by rfl, ?yy7⟩) hSd ?rr7
    case yy7 => (intro wq hSq; obtain ⟨_, _, _, _, _, _, _, _, _⟩ := hSq; go_simp <;> with_reducible rfl)
    try simp only [Act.put]
    refine wpAnyF_take (i := 6) (oi := _) (v := ?vv8) rfl (by kernel_rfl) (by kernel_rfl) (by kernel_rfl) (by kernel_rfl) (by kernel_rfl) (fun _ _ _ h => h) (Or.inl ⟨by rfl, ?yy8⟩) hSd ?rr8
    case yy8 => (intro wq hSq; obtain ⟨_, _, _, _, _, _, _, _, _⟩ := hSq; go_simp <;> with_reducible rfl)
    try simp only [Act.put]
    obtain ⟨z0, z1, z2⟩ := cells3 gz
    have f0 := Lib.frozen_of_heap gz 0
    have f1 := Lib.frozen_of_heap gz 1
    have f2 := Lib.frozen_of_heap gz 2
    refine wpAnyF_last (o := _) (by kernel_rfl) rfl (fun K' hK => ?_)
    rw [if_pos (by rfl)]
    go_simp
    refine hK.out _ _ ?_
    clear hK
    refine wpAnyF_done (by kernel_rfl) ?_ _
    try simp only [Act.put]
    have vB := set3_below hB1 (Nat.le_refl U.heap.size) (.int .i64 r) (.int .i64 g) (.int .i64 u)
    have vS := (box3_set gz (.int .i64 r) (.int .i64 g) (.int .i64 u) U (Nat.le_refl _) hB1).1
    clear z0 z1 z2 f0 f1 f2
    generalize ((V1.setCell ⟨U.heap.size, 0, none⟩ (.int .i64 r)).setCell ⟨U.heap.size, 1, none⟩ (.int .i64 g)).setCell ⟨U.heap.size, 2, none⟩ (.int .i64 u) = V at *
    generalize U.heap.size = SB at vS ⊢
    have hlS := (Array.getElem?_eq_some_iff.1 vS).1
    obtain ⟨y1, y2, y3, y4, y5, y6, y7, y8, y9⟩ := HS.out _ vB
    clear hSd
    go_wp2_with fail
    refine (HCO.out _).mono ?_
    rintro e V3 ⟨rfl, hb3⟩
    obtain ⟨d0, d1, d2⟩ := cells3 ((hb3.block SB hlS).trans vS)
    have HFIN := hide (HB.out.trans ((bel_trans vB hb3).mono HB.out.size))
    rcases (show q = 0 ∨ q = 1 ∨ q = 2 by omega) with rfl | rfl | rfl
    all_goals
      go_wp2
      go_ret
      exact ⟨ret_int (by rw [HT.out]; rfl), HFIN.out⟩

end Go.Proofs.Ytolcndchfnifhab
