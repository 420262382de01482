/- sensorgains: part 9 of what its proof needs. -/
import Derived.Test.YtolcndchfnifhabM5Sensorgains
import Derived.Test.YtolcndchfnifhabM8Sensorgains
/- Arrays of three numbers, a pixel's parts by their numbers, sums. -/
namespace Go.Proofs.Ytolcndchfnifhab

def tri (s : Nat → Int) : Array Value := #[.int .i64 (s 0), .int .i64 (s 1), .int .i64 (s 2)]
theorem tri_get (s : Nat → Int) (k : Nat) (h : k < 3) : (tri s)[k]? = some (.int .i64 (s k)) := by
  rcases (show k = 0 ∨ k = 1 ∨ k = 2 by omega) with rfl | rfl | rfl <;> rfl
theorem tri_set (s t : Nat → Int) (k : Nat) (x : Int) (hk : k < 3) (hx : x = t k) (ht : ∀ j, j < 3 → j ≠ k → s j = t j) : (tri s).setIfInBounds k (.int .i64 x) = tri t := by
  subst hx
  rcases (show k = 0 ∨ k = 1 ∨ k = 2 by omega) with rfl | rfl | rfl
  · have h1 := ht 1 (by omega) (by omega)
    have h2 := ht 2 (by omega) (by omega)
    simp [tri, h1, h2]
  · have h1 := ht 0 (by omega) (by omega)
    have h2 := ht 2 (by omega) (by omega)
    simp [tri, h1, h2]
  · have h1 := ht 0 (by omega) (by omega)
    have h2 := ht 1 (by omega) (by omega)
    simp [tri, h1, h2]
theorem tri_congr (s t : Nat → Int) (h : ∀ j, j < 3 → s j = t j) : tri s = tri t := by
  simp [tri, h 0 (by omega), h 1 (by omega), h 2 (by omega)]

def pxF (p : Px) (k : Nat) : Int := if k = 0 then p.1 else if k = 1 then p.2.1 else p.2.2
theorem pxF_tri (p : Px) : tri (pxF p) = #[.int .i64 p.1, .int .i64 p.2.1, .int .i64 p.2.2] := rfl
theorem pxF_ok {p : Px} (h : pxOk p = true) (k : Nat) : 0 ≤ pxF p k ∧ pxF p k ≤ 65535 := by
  obtain ⟨h1, h2, h3⟩ := (pxOk_iff p).1 h
  unfold pxF
  split
  · exact h1
  · split
    · exact h2
    · exact h3

def sumN (g : Nat → Int) : Nat → Int
  | 0 => 0
  | n + 1 => sumN g n + g n
theorem sumN_range {g : Nat → Int} (h : ∀ n, 0 ≤ g n ∧ g n ≤ 262140) (n : Nat) : 0 ≤ sumN g n ∧ sumN g n ≤ n * 262140 := by
  induction n with
  | zero => simp [sumN]
  | succ n ih =>
    obtain ⟨a, b⟩ := h n
    obtain ⟨c, d⟩ := ih
    refine ⟨?_, ?_⟩
    · simp only [sumN]; omega
    · simp only [sumN]; omega

end Go.Proofs.Ytolcndchfnifhab

/- mosaic.Take. -/
namespace Go.Proofs.Ytolcndchfnifhab
set_option linter.unusedVariables false
open Go.RowKit

def takeV (ps : List Px) (W p j : Nat) : Int := pxF (pxAt ps j) (colV p (j % W) (j / W))
theorem colV_lt (p X Y : Nat) : colV p X Y < 3 := by unfold colV; split <;> omega

set_option maxRecDepth 100000 in
set_option maxHeartbeats 1600000 in
theorem take1_any (W H p j bk off ca : Nat) (hW1 : 1 ≤ W) (hW : W ≤ 64) (hH : H ≤ 64) (hp : p ≤ 3) (ps : List Px) (hlen : ps.length = H * W) (hj : j < ps.length) (Bq Bg Bh : Nat) (w : World) (hBq : Bq < w.heap.size) (hBg : Bg < w.heap.size) (hBh : Bh < w.heap.size) (hbk : bk < w.heap.size)
    (k2 : w.cell? ⟨Bq, 2, none⟩ = some (.slice (some ⟨bk, off, none⟩) ps.length ca)) (g0 : w.cell? ⟨Bg, 0, none⟩ = some (.int .i64 W)) (g1 : w.cell? ⟨Bg, 1, none⟩ = some (.int .i64 H)) (k3 : w.cell? ⟨Bh, 0, none⟩ = some (.int .i64 p))
    (hcell : ∀ j, j < ps.length → w.cell? ⟨bk, off + j * 3, none⟩ = some (.int .i64 (pxAt ps j).1) ∧ w.cell? ⟨bk, off + j * 3 + 1, none⟩ = some (.int .i64 (pxAt ps j).2.1) ∧ w.cell? ⟨bk, off + j * 3 + 2, none⟩ = some (.int .i64 (pxAt ps j).2.2)) :
    Calls Try.prog 69 #[.agg #[.int .i64 (j % W : Nat), .int .i64 (j / W : Nat)], .pointer (some ⟨Bq, 0, none⟩), .pointer (some ⟨Bg, 0, none⟩), .pointer (some ⟨Bh, 0, none⟩)] w fun e w' => e = .returned (.int .i64 (takeV ps W p j)) ∧ Below w.heap.size w w' := by
  have hl4 : ps.length ≤ 4096 := by rw [hlen]; exact Nat.le_trans (Nat.mul_le_mul hH hW) (by decide)
  have HT := hide (show takeV ps W p j = pxF (pxAt ps j) (colV p (j % W) (j / W)) from rfl)
  generalize takeV ps W p j = RES at *
  obtain ⟨X, hX⟩ : ∃ X, j % W = X := ⟨_, rfl⟩
  obtain ⟨Y, hY⟩ : ∃ Y, j / W = Y := ⟨_, rfl⟩
  have hk : Y * W + X = j := by rw [← hX, ← hY, Nat.mul_comm]; exact Nat.div_add_mod j W
  rw [hX, hY] at HT
  rw [hX, hY]
  clear hX hY
  have HIX := hide (fun v => index_any W H X Y W j rfl hk (by omega) v)
  have HCO := hide (fun v => colourOf_any p X Y hp v)
  have hq3 := colV_lt p X Y
  obtain ⟨q, hq⟩ : ∃ q, colV p X Y = q := ⟨_, rfl⟩
  rw [hq] at HCO HT hq3
  obtain ⟨c0, c1, c2⟩ := hcell j hj
  obtain ⟨⟨r, g, u⟩, hp2⟩ : ∃ t, pxAt ps j = t := ⟨_, rfl⟩
  rw [hp2] at c0 c1 c2 HT
  have hjI : (j : Int) < (ps.length : Int) := by omega
  clear hcell hq hp2 hk hlen
  have HB := hide (bel_alloc w (Obj.cells #[.int .i64 X, .int .i64 Y] 93))
  have a1 := al1 w (Obj.cells #[.int .i64 X, .int .i64 Y] 93)
  go_enter Try.func69, Try.ntmps69
  go_wp2_with fail
  have hl1 := (Array.getElem?_eq_some_iff.1 a1).1
  generalize w.alloc (Obj.cells #[.int .i64 X, .int .i64 Y] 93) = U at *
  have HS := hide (show ∀ v, Below U.heap.size U v → v.cell? ⟨Bq, 2, none⟩ = some (.slice (some ⟨bk, off, none⟩) ps.length ca) ∧ v.cell? ⟨Bg, 0, none⟩ = some (.int .i64 W) ∧ v.cell? ⟨Bg, 1, none⟩ = some (.int .i64 H) ∧ v.cell? ⟨Bh, 0, none⟩ = some (.int .i64 p) ∧ v.cell? ⟨w.heap.size, 0, none⟩ = some (.int .i64 X) ∧ v.cell? ⟨w.heap.size, 1, none⟩ = some (.int .i64 Y) ∧ v.cell? ⟨bk, off + j * 3, none⟩ = some (.int .i64 r) ∧ v.cell? ⟨bk, off + j * 3 + 1, none⟩ = some (.int .i64 g) ∧ v.cell? ⟨bk, off + j * 3 + 2, none⟩ = some (.int .i64 u) from fun v h => by
    have hw := HB.out.trans (h.mono HB.out.size)
    have t := (h.block _ hl1).trans a1
    exact ⟨(hw.cell (p := ⟨Bq, 2, none⟩) hBq).trans k2, (hw.cell (p := ⟨Bg, 0, none⟩) hBg).trans g0, (hw.cell (p := ⟨Bg, 1, none⟩) hBg).trans g1, (hw.cell (p := ⟨Bh, 0, none⟩) hBh).trans k3, by rw [Lib.cell_of_heap t]; rfl, by rw [Lib.cell_of_heap t]; rfl, (hw.cell (p := ⟨bk, off + j * 3, none⟩) hbk).trans c0, (hw.cell (p := ⟨bk, off + j * 3 + 1, none⟩) hbk).trans c1, (hw.cell (p := ⟨bk, off + j * 3 + 2, none⟩) hbk).trans c2⟩)
  have hWd : Below U.heap.size U U.drew := (Below.refl _ _).drew
  have hSd := HS.out _ hWd
  clear a1 c0 c1 c2 k2 g0 g1 k3
  have hmx : Try.prog.follows .mixedOrders = true := by kernel_rfl
  refine wp_region_last (S := fun v : World => v.cell? ⟨Bq, 2, none⟩ = some (.slice (some ⟨bk, off, none⟩) ps.length ca) ∧ v.cell? ⟨Bg, 0, none⟩ = some (.int .i64 W) ∧ v.cell? ⟨Bg, 1, none⟩ = some (.int .i64 H) ∧ v.cell? ⟨Bh, 0, none⟩ = some (.int .i64 p) ∧ v.cell? ⟨w.heap.size, 0, none⟩ = some (.int .i64 X) ∧ v.cell? ⟨w.heap.size, 1, none⟩ = some (.int .i64 Y) ∧ v.cell? ⟨bk, off + j * 3, none⟩ = some (.int .i64 r) ∧ v.cell? ⟨bk, off + j * 3 + 1, none⟩ = some (.int .i64 g) ∧ v.cell? ⟨bk, off + j * 3 + 2, none⟩ = some (.int .i64 u)) (f := 8) hmx ?_
  show wpAnyF _ _ _ _ _ _ 9 _ _ U.drew
  refine wpAnyF_take (i := 0) (oi := _) (v := ?vv1) rfl (by kernel_rfl) (by kernel_rfl) (by kernel_rfl) (by kernel_rfl) (by kernel_rfl) (fun _ _ _ h => h) (Or.inl ⟨by rfl, ?yy1⟩) hSd ?rr1
  case yy1 => (intro wq hSq; obtain ⟨_, _, _, _, _, _, _, _, _⟩ := hSq; go_simp <;> with_reducible rfl)
  try simp only [Act.put]
  refine wpAnyF_take (i := 1) (oi := _) (v := ?vv2) rfl (by kernel_rfl) (by kernel_rfl) (by kernel_rfl) (by kernel_rfl) (by kernel_rfl) (fun _ _ _ h => h) (Or.inl ⟨by rfl, ?yy2⟩) hSd ?rr2
  case yy2 => (intro wq hSq; obtain ⟨_, _, _, _, _, _, _, _, _⟩ := hSq; go_simp <;> with_reducible rfl)
  try simp only [Act.put]
  refine wpAnyF_take (i := 2) (oi := _) (v := ?vv3) rfl (by kernel_rfl) (by kernel_rfl) (by kernel_rfl) (by kernel_rfl) (by kernel_rfl) (fun _ _ _ h => h) (Or.inl ⟨by rfl, ?yy3⟩) hSd ?rr3
  case yy3 => (intro wq hSq; obtain ⟨_, _, _, _, _, _, _, _, _⟩ := hSq; go_simp <;> with_reducible rfl)
  try simp only [Act.put]
  refine wpAnyF_take (i := 3) (oi := _) (v := ?vv4) rfl (by kernel_rfl) (by kernel_rfl) (by kernel_rfl) (by kernel_rfl) (by kernel_rfl) (fun _ _ _ h => h) (Or.inl ⟨by rfl, ?yy4⟩) hSd ?rr4
  case yy4 => (intro wq hSq; obtain ⟨_, _, _, _, _, _, _, _, _⟩ := hSq; go_simp <;> with_reducible rfl)
  try simp only [Act.put]
  refine wpAnyF_two (i := 4) (j := 7) (oi := _) (oj := _) (by kernel_rfl) rfl rfl (fun K' hK => ?brA) (fun K' hK => ?brB)
  case brA =>
    rw [if_pos (by rfl)]
    go_simp
    refine (HIX.out _).mono ?_
    rintro e V1 ⟨rfl, hbv⟩
    have hB1 : Below U.heap.size U V1 := hWd.trans (hbv.mono hWd.size)
    have hSd := HS.out _ hB1
    refine hK.out _ _ hSd ?_
    clear hK
    try simp only [Act.put]
    refine wpAnyF_take (i := 5) (oi := _) (v := ?vv5) rfl (by kernel_rfl) (by kernel_rfl) (by kernel_rfl) (by kernel_rfl) (by kernel_rfl) (fun _ _ _ h => h) (Or.inl ⟨by rfl, ?yy5⟩) hSd ?rr5
    case yy5 => (intro wq hSq; obtain ⟨_, _, _, _, _, _, _, _, _⟩ := hSq; go_simp <;> with_reducible rfl)
    try simp only [Act.put]
    refine wpAnyF_take (i := 6) (oi := _) (v := ?vv6) rfl (by kernel_rfl) (by kernel_rfl) (by kernel_rfl) (by kernel_rfl) (by kernel_rfl) (fun _ _ _ h => h) (Or.inl ⟨by rfl, ?yy6⟩) hSd ?rr6
    case yy6 => (intro wq hSq; obtain ⟨_, _, _, _, _, _, _, _, _⟩ := hSq; go_simp <;> with_reducible rfl)
    try simp only [Act.put]
    refine wpAnyF_one (i := 7) (o := _) (by kernel_rfl) rfl (fun K' hK => ?_)
    rw [if_pos (by rfl)]
    go_simp
    have hBz : Below U.heap.size U (V1.alloc (Obj.cells #[.int .i64 0, .int .i64 0, .int .i64 0] 50)) := hB1.alloc hB1.size _
    have hSd := HS.out _ hBz
    refine hK.out _ _ hSd ?_
    clear hK
    try simp only [Act.put]
    refine wpAnyF_last (o := _) (by kernel_rfl) rfl (fun K' hK => ?_)
    rw [if_pos (by rfl)]
    go_simp
    refine hK.out _ _ ?_
    clear hK
    refine wpAnyF_done (by kernel_rfl) ?_ _
    try simp only [Act.put]
    have vB : Below U.heap.size U (V1.alloc (Obj.cells #[.int .i64 r, .int .i64 g, .int .i64 u] 50)) := hB1.alloc hB1.size _
    have vS := al1 V1 (Obj.cells #[.int .i64 r, .int .i64 g, .int .i64 u] 50)
    generalize V1.alloc (Obj.cells #[.int .i64 r, .int .i64 g, .int .i64 u] 50) = V at *
    generalize V1.heap.size = SB at vS ⊢
    have hlS := (Array.getElem?_eq_some_iff.1 vS).1
    obtain ⟨y1, y2, y3, y4, y5, y6, y7, y8, y9⟩ := HS.out _ vB
    clear hSd
    go_wp2_with fail
    refine (HCO.out _).mono ?_
    rintro e V3 ⟨rfl, hb3⟩
    obtain ⟨d0, d1, d2⟩ := cells3 ((hb3.block SB hlS).trans vS)
    have HFIN := hide (HB.out.trans ((bel_trans vB hb3).mono HB.out.size))
    rcases (show q = 0 ∨ q = 1 ∨ q = 2 by omega) with rfl | rfl | rfl
    all_goals
      go_wp2
      go_ret
      exact ⟨ret_int (by rw [HT.out]; rfl), HFIN.out⟩
  case brB =>
    rw [if_pos (by rfl)]
    go_simp
    have hBz : Below U.heap.size U (U.drew.alloc (Obj.cells #[.int .i64 0, .int .i64 0, .int .i64 0] 50)) := hWd.alloc hWd.size _
    have hSd := HS.out _ hBz
    refine hK.out _ _ hSd ?_
    clear hK
    try simp only [Act.put]
    refine wpAnyF_one (i := 4) (o := _) (by kernel_rfl) rfl (fun K' hK => ?_)
    rw [if_pos (by rfl)]
    go_simp
    refine (HIX.out _).mono ?_
    rintro e V1 ⟨rfl, hbv⟩
    have hB1 : Below U.heap.size U V1 := hBz.trans (hbv.mono hBz.size)
    have gz := (hbv.block U.heap.size (by show U.heap.size < (U.alloc (Obj.cells #[.int .i64 0, .int .i64 0, .int .i64 0] 50)).heap.size; simp)).trans (al1 U.drew (Obj.cells #[.int .i64 0, .int .i64 0, .int .i64 0] 50))
    have hSd := HS.out _ hB1
    refine hK.out _ _ hSd ?_
    clear hK
    try simp only [Act.put]
    refine wpAnyF_take (i := 5) (oi := _) (v := ?vv7) rfl (by kernel_rfl) (by kernel_rfl) (by kernel_rfl) (by kernel_rfl) (by kernel_rfl) (fun _ _ _ h => h) (Or.inl ⟨by rfl, ?yy7⟩) hSd ?rr7
    case yy7 => (intro wq hSq; obtain ⟨_, _, _, _, _, _, _, _, _⟩ := hSq; go_simp <;> with_reducible rfl)
    try simp only [Act.put]
    refine wpAnyF_take (i := 6) (oi := _) (v := ?vv8) rfl (by kernel_rfl) (by kernel_rfl) (by kernel_rfl) (by kernel_rfl) (by kernel_rfl) (fun _ _ _ h => h) (Or.inl ⟨by rfl, ?yy8⟩) hSd ?rr8
    case yy8 => (intro wq hSq; obtain ⟨_, _, _, _, _, _, _, _, _⟩ := hSq; go_simp <;> with_reducible rfl)
    try simp only [Act.put]
    obtain ⟨z0, z1, z2⟩ := cells3 gz
    have f0 := Lib.frozen_of_heap gz 0
    have f1 := Lib.frozen_of_heap gz 1
    have f2 := Lib.frozen_of_heap gz 2
    refine wpAnyF_last (o := _) (by kernel_rfl) rfl (fun K' hK => ?_)
    rw [if_pos (by rfl)]
    go_simp
    refine hK.out _ _ ?_
    clear hK
    refine wpAnyF_done (by kernel_rfl) ?_ _
    try simp only [Act.put]
    have vB := set3_below hB1 (Nat.le_refl U.heap.size) (.int .i64 r) (.int .i64 g) (.int .i64 u)
    have vS := (box3_set gz (.int .i64 r) (.int .i64 g) (.int .i64 u) U (Nat.le_refl _) hB1).1
    clear z0 z1 z2 f0 f1 f2
    generalize ((V1.setCell ⟨U.heap.size, 0, none⟩ (.int .i64 r)).setCell ⟨U.heap.size, 1, none⟩ (.int .i64 g)).setCell ⟨U.heap.size, 2, none⟩ (.int .i64 u) = V at *
    generalize U.heap.size = SB at vS ⊢
    have hlS := (Array.getElem?_eq_some_iff.1 vS).1
    obtain ⟨y1, y2, y3, y4, y5, y6, y7, y8, y9⟩ := HS.out _ vB
    clear hSd
    go_wp2_with fail
    refine (HCO.out _).mono ?_
    rintro e V3 ⟨rfl, hb3⟩
    obtain ⟨d0, d1, d2⟩ := cells3 ((hb3.block SB hlS).trans vS)
    have HFIN := hide (HB.out.trans ((bel_trans vB hb3).mono HB.out.size))
    rcases (show q = 0 ∨ q = 1 ∨ q = 2 by omega) with rfl | rfl | rfl
    all_goals
      go_wp2
      go_ret
      exact ⟨ret_int (by rw [HT.out]; rfl), HFIN.out⟩

end Go.Proofs.Ytolcndchfnifhab

/- mosaic.Take, whole. -/
namespace Go.Proofs.Ytolcndchfnifhab
set_option linter.unusedVariables false
open Go.RowKit

def takeE (W H : Int) (ps : List Px) (phase : Int) : Int := if picOk W H ps = true then (if phaseOk phase = true then 0 else 3) else 1
def takeL (W : Int) (ps : List Px) (phase : Int) : List Int := (List.range ps.length).map (takeV ps W.toNat phase.toNat)

theorem IsPix.cells {w : World} {v : Value} {ps : List Px} (h : IsPix w v ps) (hn : 1 ≤ ps.length) : ∃ bk off ca, v = .slice (some ⟨bk, off, none⟩) ps.length ca ∧ bk < w.heap.size ∧ ∀ j, j < ps.length → w.cell? ⟨bk, off + j * 3, none⟩ = some (.int .i64 (pxAt ps j).1) ∧ w.cell? ⟨bk, off + j * 3 + 1, none⟩ = some (.int .i64 (pxAt ps j).2.1) ∧ w.cell? ⟨bk, off + j * 3 + 2, none⟩ = some (.int .i64 (pxAt ps j).2.2) := by
  obtain ⟨ao, ca, rfl, _, h⟩ := h
  rcases h with h | ⟨b, off, rfl, hlt, hc⟩
  · subst h; simp at hn
  · exact ⟨b, off, ca, rfl, hlt, fun j hj => by
      have := hc j hj
      rw [pxAt_get ps j hj] at this
      exact this⟩

set_option maxRecDepth 100000 in
set_option maxHeartbeats 1600000 in
theorem take_any (W H : Int) (v : Value) (ps : List Px) (phase : Int) (w : World) (hv : IsPix w v ps) :
    Calls Try.prog 23 #[.agg #[.int .i64 W, .int .i64 H, v], .int .i64 phase] w fun e w' => ∃ r, e = .returned (.tuple #[.agg #[.int .i64 (okW (takeE W H ps phase) W), .int .i64 (okW (takeE W H ps phase) H), r], .int .i64 (takeE W H ps phase)]) ∧ IsInts w' r (okL (takeE W H ps phase) (takeL W ps phase)) ∧ Below w.heap.size w w' ∧ Fresh w.heap.size r := by
  have HV := hide hv
  obtain ⟨E, hE⟩ : ∃ E, takeE W H ps phase = E := ⟨_, rfl⟩
  rw [hE]
  by_cases hp : picOk W H ps = true
  · by_cases hph : phaseOk phase = true
    · have he : E = 0 := by rw [← hE, takeE, if_pos hp, if_pos hph]
      subst he
      clear hE
      obtain ⟨⟨w1, w2⟩, ⟨h1, h2⟩, hl, _⟩ := picOk_parts hp
      have hph2 : 0 ≤ phase ∧ phase ≤ 3 := by simpa [phaseOk] using hph
      have hsm := side_mul ⟨w1, w2⟩ ⟨h1, h2⟩
      have hn1 : 1 ≤ ps.length := by omega
      obtain ⟨bk, off, ca, rfl, hbk, hcell⟩ := hv.cells hn1
      obtain ⟨WN, rfl⟩ := Int.eq_ofNat_of_zero_le (show 0 ≤ W by omega)
      obtain ⟨HN, rfl⟩ := Int.eq_ofNat_of_zero_le (show 0 ≤ H by omega)
      obtain ⟨PN, rfl⟩ := Int.eq_ofNat_of_zero_le hph2.1
      have HLEN := hide (show ps.length = HN * WN by rw [Nat.mul_comm]; exact_mod_cast hl)
      have HC := hide hcell
      rw [show okW 0 (WN : Int) = WN from rfl, show okW 0 (HN : Int) = HN from rfl, show okL 0 (takeL (WN : Int) ps (PN : Int)) = (List.range ps.length).map (takeV ps WN PN) from rfl]
      clear hl hcell hsm hv
      go_enter Try.func23, Try.ntmps23
      go_wp2_with fail
      obtain ⟨a1, a2, a3⟩ := al3 w (Obj.cells #[.int .i64 (WN : Nat), .int .i64 (HN : Nat), .slice (some ⟨bk, off, none⟩) ps.length ca] 39) (Obj.cells #[.int .i64 (PN : Nat)] 3) (Obj.cells #[.int .i64 0, .int .i64 0, .slice none 0 0] 24)
      have hB := be3 w (Obj.cells #[.int .i64 (WN : Nat), .int .i64 (HN : Nat), .slice (some ⟨bk, off, none⟩) ps.length ca] 39) (Obj.cells #[.int .i64 (PN : Nat)] 3) (Obj.cells #[.int .i64 0, .int .i64 0, .slice none 0 0] 24)
      have hs3 : (((w.alloc (Obj.cells #[.int .i64 (WN : Nat), .int .i64 (HN : Nat), .slice (some ⟨bk, off, none⟩) ps.length ca] 39)).alloc (Obj.cells #[.int .i64 (PN : Nat)] 3)).alloc (Obj.cells #[.int .i64 0, .int .i64 0, .slice none 0 0] 24)).heap.size = w.heap.size + 3 := by simp
      generalize ((w.alloc (Obj.cells #[.int .i64 (WN : Nat), .int .i64 (HN : Nat), .slice (some ⟨bk, off, none⟩) ps.length ca] 39)).alloc (Obj.cells #[.int .i64 (PN : Nat)] 3)).alloc (Obj.cells #[.int .i64 0, .int .i64 0, .slice none 0 0] 24) = U at *
      refine (picture_any WN HN _ ps _ (HV.out.below hB (Nat.le_refl _))).mono ?_
      rintro e w1 ⟨rfl, hb1⟩
      rw [hp]
      have g2 := bx1 ((hb1.block (w.heap.size + 1) (by omega)).trans a2)
      have g3 := (hb1.block (w.heap.size + 1 + 1) (by omega)).trans a3
      go_wp2_with fail
      refine (phase_any _ _).mono ?_
      rintro e w2 ⟨rfl, hb2⟩
      rw [hph]
      clear g2
      replace hb2 := bel_trans hb1 hb2
      replace g3 := (hb2.block (w.heap.size + 1 + 1) (by omega)).trans a3
      obtain ⟨p0, p1, p2⟩ := cells3 ((hb2.block (w.heap.size) (by omega)).trans a1)
      go_wp2_with fail
      have hbG := bel_trans hb2 (bel_alloc w2 (Obj.cells #[.int .i64 (WN : Nat), .int .i64 (HN : Nat)] 91))
      have aG := al1 w2 (Obj.cells #[.int .i64 (WN : Nat), .int .i64 (HN : Nat)] 91)
      have hlG := (Array.getElem?_eq_some_iff.1 aG).1
      have hs2 := hb2.size
      clear p0 p1 p2
      generalize w2.alloc (Obj.cells #[.int .i64 (WN : Nat), .int .i64 (HN : Nat)] 91) = w2g at *
      refine (gridPlane_any WN HN ps.length (by omega) (by omega) HLEN.out 69 #[.pointer (some ⟨w.heap.size, 0, none⟩), .pointer (some ⟨w2.heap.size, 0, none⟩), .pointer (some ⟨w.heap.size + 1, 0, none⟩)] (takeV ps WN PN) _ (enters_of Try.func69 (by kernel_rfl) rfl) ?_).mono ?_
      · intro j V hj hV
        have hb3 := bel_trans hbG hV
        have hbw := hB.trans (hb3.mono hB.size)
        obtain ⟨e0, e1, e2⟩ := cells3 ((hb3.block (w.heap.size) (by omega)).trans a1)
        have e3 := bx1 ((hb3.block (w.heap.size + 1) (by omega)).trans a2)
        obtain ⟨e4, e5⟩ := bx2 ((hV.block w2.heap.size hlG).trans aG)
        have hs := hb3.size
        have hsV := hV.size
        exact take1_any WN HN PN j bk off ca (by omega) (by omega) (by omega) (by omega) ps HLEN.out hj w.heap.size w2.heap.size (w.heap.size + 1) V (by omega) (by omega) (by omega) (Nat.lt_of_lt_of_le hbk hbw.size) e2 e4 e5 e3 (fun i hi => by
          obtain ⟨c0, c1, c2⟩ := HC.out i hi
          exact ⟨(hbw.cell (p := ⟨bk, off + i * 3, none⟩) hbk).trans c0, (hbw.cell (p := ⟨bk, off + i * 3 + 1, none⟩) hbk).trans c1, (hbw.cell (p := ⟨bk, off + i * 3 + 2, none⟩) hbk).trans c2⟩)
      · rintro e w3 ⟨r, rfl, hr, hb3, hfr⟩
        replace hb3 := bel_trans hbG hb3
        replace g3 := (hb3.block (w.heap.size + 1 + 1) (by omega)).trans a3
        obtain ⟨z0, z1, z2⟩ := cells3 g3
        have f0 := Lib.frozen_of_heap g3 0
        have f1 := Lib.frozen_of_heap g3 1
        have f2 := Lib.frozen_of_heap g3 2
        have HR := hide hr
        obtain ⟨ro, rc, rfl, _, _⟩ := hr
        have HFIN := hide (set3_below (hB.trans (hb3.mono hB.size)) (show w.heap.size ≤ w.heap.size + 1 + 1 by omega) (.int .i64 (WN : Nat)) (.int .i64 (HN : Nat)) (.slice ro ((List.range ps.length).map (takeV ps WN PN)).length rc))
        have hsG := hbG.size
        have HPX2 := hide (HR.out.set3 hfr (show w.heap.size + 1 + 1 < w2g.heap.size by omega) (.int .i64 (WN : Nat)) (.int .i64 (HN : Nat)) (.slice ro ((List.range ps.length).map (takeV ps WN PN)).length rc))
        rw [List.length_map, List.length_range] at HPX2 HFIN hfr
        rw [List.length_map, List.length_range]
        go_wp2
        exact bodyPost_ret (v := .tuple #[.agg #[.int .i64 (WN : Nat), .int .i64 (HN : Nat), .slice ro ps.length rc], .int .i64 0]) (by simp [results, Try.results23, go_sem, z0, z1, z2]) rfl ⟨_, rfl, HPX2.out, HFIN.out, hfr.mono (by omega)⟩
    · have he : E = 3 := by rw [← hE, takeE, if_pos hp, if_neg hph]
      have hph : phaseOk phase = false := by simpa using hph
      subst he
      clear hE
      obtain ⟨ao, ca, rfl, _, _⟩ := hv
      go_enter Try.func23, Try.ntmps23
      go_wp2_with fail
      obtain ⟨a1, a2, a3⟩ := al3 w (Obj.cells #[.int .i64 W, .int .i64 H, .slice ao ps.length ca] 39) (Obj.cells #[.int .i64 phase] 3) (Obj.cells #[.int .i64 0, .int .i64 0, .slice none 0 0] 24)
      have hB := be3 w (Obj.cells #[.int .i64 W, .int .i64 H, .slice ao ps.length ca] 39) (Obj.cells #[.int .i64 phase] 3) (Obj.cells #[.int .i64 0, .int .i64 0, .slice none 0 0] 24)
      have hs3 : (((w.alloc (Obj.cells #[.int .i64 W, .int .i64 H, .slice ao ps.length ca] 39)).alloc (Obj.cells #[.int .i64 phase] 3)).alloc (Obj.cells #[.int .i64 0, .int .i64 0, .slice none 0 0] 24)).heap.size = w.heap.size + 3 := by simp
      generalize ((w.alloc (Obj.cells #[.int .i64 W, .int .i64 H, .slice ao ps.length ca] 39)).alloc (Obj.cells #[.int .i64 phase] 3)).alloc (Obj.cells #[.int .i64 0, .int .i64 0, .slice none 0 0] 24) = U at *
      refine (picture_any W H _ ps _ (HV.out.below hB (Nat.le_refl _))).mono ?_
      rintro e w1 ⟨rfl, hb1⟩
      rw [hp]
      have g2 := bx1 ((hb1.block (w.heap.size + 1) (by omega)).trans a2)
      have g3 := (hb1.block (w.heap.size + 1 + 1) (by omega)).trans a3
      go_wp2_with fail
      refine (phase_any _ _).mono ?_
      rintro e w2 ⟨rfl, hb2⟩
      rw [hph]
      clear g2
      replace hb2 := bel_trans hb1 hb2
      replace g3 := (hb2.block (w.heap.size + 1 + 1) (by omega)).trans a3
      obtain ⟨z0, z1, z2⟩ := cells3 g3
      have f0 := Lib.frozen_of_heap g3 0
      have f1 := Lib.frozen_of_heap g3 1
      have f2 := Lib.frozen_of_heap g3 2
      have HFIN := hide (set3_below (hB.trans (hb2.mono hB.size)) (show w.heap.size ≤ w.heap.size + 1 + 1 by omega) (.int .i64 0) (.int .i64 0) (.slice none 0 0))
      go_wp2
      exact bodyPost_ret (v := .tuple #[.agg #[.int .i64 0, .int .i64 0, .slice none 0 0], .int .i64 3]) (by simp [results, Try.results23, go_sem, z0, z1, z2]) rfl ⟨.slice none 0 0, rfl, IsInts.nil _, HFIN.out, Fresh.nil _⟩
  · have he : E = 1 := by rw [← hE, takeE, if_neg hp]
    have hp : picOk W H ps = false := by simpa using hp
    subst he
    clear hE
    obtain ⟨ao, ca, rfl, _, _⟩ := hv
    go_enter Try.func23, Try.ntmps23
    go_wp2_with fail
    obtain ⟨a1, a2, a3⟩ := al3 w (Obj.cells #[.int .i64 W, .int .i64 H, .slice ao ps.length ca] 39) (Obj.cells #[.int .i64 phase] 3) (Obj.cells #[.int .i64 0, .int .i64 0, .slice none 0 0] 24)
    have hB := be3 w (Obj.cells #[.int .i64 W, .int .i64 H, .slice ao ps.length ca] 39) (Obj.cells #[.int .i64 phase] 3) (Obj.cells #[.int .i64 0, .int .i64 0, .slice none 0 0] 24)
    have hs3 : (((w.alloc (Obj.cells #[.int .i64 W, .int .i64 H, .slice ao ps.length ca] 39)).alloc (Obj.cells #[.int .i64 phase] 3)).alloc (Obj.cells #[.int .i64 0, .int .i64 0, .slice none 0 0] 24)).heap.size = w.heap.size + 3 := by simp
    generalize ((w.alloc (Obj.cells #[.int .i64 W, .int .i64 H, .slice ao ps.length ca] 39)).alloc (Obj.cells #[.int .i64 phase] 3)).alloc (Obj.cells #[.int .i64 0, .int .i64 0, .slice none 0 0] 24) = U at *
    refine (picture_any W H _ ps _ (HV.out.below hB (Nat.le_refl _))).mono ?_
    rintro e w1 ⟨rfl, hb1⟩
    rw [hp]
    have g2 := bx1 ((hb1.block (w.heap.size + 1) (by omega)).trans a2)
    have g3 := (hb1.block (w.heap.size + 1 + 1) (by omega)).trans a3
    generalize w1 = w2 at *
    have hb2 := hb1
    obtain ⟨z0, z1, z2⟩ := cells3 g3
    have f0 := Lib.frozen_of_heap g3 0
    have f1 := Lib.frozen_of_heap g3 1
    have f2 := Lib.frozen_of_heap g3 2
    have HFIN := hide (set3_below (hB.trans (hb2.mono hB.size)) (show w.heap.size ≤ w.heap.size + 1 + 1 by omega) (.int .i64 0) (.int .i64 0) (.slice none 0 0))
    go_wp2
    exact bodyPost_ret (v := .tuple #[.agg #[.int .i64 0, .int .i64 0, .slice none 0 0], .int .i64 1]) (by simp [results, Try.results23, go_sem, z0, z1, z2]) rfl ⟨.slice none 0 0, rfl, IsInts.nil _, HFIN.out, Fresh.nil _⟩

end Go.Proofs.Ytolcndchfnifhab

/- The reference's ColourAt and At. -/
namespace Go.Proofs.Ytolcndchfnifhab
set_option linter.unusedVariables false
open Go.RowKit

set_option maxRecDepth 100000 in
set_option maxHeartbeats 800000 in
theorem colourAt_any (p X Y : Nat) (hp : p ≤ 3) (hX : X ≤ 4096) (hY : Y ≤ 4096) (w : World) :
    Calls Try.prog 19 #[.int .i64 p, .int .i64 X, .int .i64 Y] w fun e w' => e = .returned (.int .i64 (colV p X Y : Nat)) ∧ w = w' := by
  obtain ⟨C, hC⟩ : ∃ C, colV p X Y = C := ⟨_, rfl⟩
  rw [hC]
  have hx : X % 2 = 0 ∨ X % 2 = 1 := by omega
  have hy : Y % 2 = 0 ∨ Y % 2 = 1 := by omega
  rcases (show p = 0 ∨ p = 1 ∨ p = 2 ∨ p = 3 by omega) with rfl | rfl | rfl | rfl <;> rcases hx with hx | hx <;> rcases hy with hy | hy
  all_goals
    rw [colV, colB, hx, hy] at hC
    simp at hC
    have HC := hide hC.symm
    have hxi : (X : Int) % 2 = ((X % 2 : Nat) : Int) := rfl
    have hyi : (Y : Int) % 2 = ((Y % 2 : Nat) : Int) := rfl
    rw [hx] at hxi
    rw [hy] at hyi
    have hx1 : ((X : Int) + 1) % 2 = 1 - (X : Int) % 2 := by omega
    have hy1 : ((Y : Int) + 1) % 2 = 1 - (Y : Int) % 2 := by omega
    rw [hxi] at hx1
    rw [hyi] at hy1
    clear hC hx hy
    go_enter Try.func19, Try.ntmps19
    go_wp2
    go_ret
    rw [HC.out]
    exact ⟨rfl, rfl⟩

theorem atZ_any (W H X Y k : Nat) (v : Value) (zs : List Int) (w : World) (hv : IsInts w v zs) (hm : Y * W + X = k) (hk : k < zs.length) (hk2 : zs.length ≤ 4096) :
    Calls Try.prog 71 #[.agg #[.int .i64 W, .int .i64 H, v], .int .i64 X, .int .i64 Y] w fun e w' => e = .returned (.int .i64 (zAt zs k)) ∧ Below w.heap.size w w' := by
  obtain ⟨bk, off, ca, rfl, hbk, hcell⟩ := hv.cells (by omega)
  have hc1 : ∀ o, (w.alloc o).cell? ⟨bk, off + k, none⟩ = some (.int .i64 (zAt zs k)) := fun o => by
    rw [World.cell?_of_block (w := w) (Below.heap_alloc w o bk hbk), hcell k hk]
  clear hcell
  obtain ⟨M, hM⟩ : ∃ M : Nat, M = Y * W := ⟨_, rfl⟩
  have hmm : (Y : Int) * (W : Int) = (M : Int) := by rw [hM]; simp
  rw [← hM] at hm
  have hat : (M : Int) + (X : Int) = (k : Int) := by omega
  clear hM
  generalize zAt zs k = Z at *
  go_enter Try.func71, Try.ntmps71
  go_wp2
  go_ret
  exact ⟨rfl, bel_alloc _ _⟩

end Go.Proofs.Ytolcndchfnifhab

/- The reference's Gained. -/
namespace Go.Proofs.Ytolcndchfnifhab
set_option linter.unusedVariables false
open Go.RowKit

/-- what stands, when k samples are out. -/
def GaJ (w : World) (W H : Nat) (qv : Value) (m : Nat → Int) (L : List Int) (k : Nat) (wr : World) : Prop :=
  ∃ so scap, wr.heap[w.heap.size + 3]? = some (.cells #[.int .i64 W, .int .i64 H, .slice so k scap] 24 (0, 0)) ∧ wr.ownsRow w.heap.size 3 1 (.slice so k scap) k ((L.take k).map (Value.int .i64)) ∧ wr.heap[w.heap.size]? = some (.cells #[.int .i64 W, .int .i64 H, qv] 24 (0, 0)) ∧ wr.heap[w.heap.size + 2]? = some (.cells #[.int .i64 0, .int .i64 0, .slice none 0 0] 24 (0, 0)) ∧ wr.heap[w.heap.size + 1]? = some (.cells (threeA m) 25 (0, 0)) ∧ Below w.heap.size w wr

set_option maxRecDepth 100000 in
set_option maxHeartbeats 6400000 in
theorem gained_any (W H p : Nat) (hW1 : 1 ≤ W) (hW : W ≤ 64) (hH : H ≤ 64) (hp : p ≤ 3) (v : Value) (zs : List Int) (m : Nat → Int) (hm : ∀ k, k < 3 → 0 ≤ m k ∧ m k ≤ 65535) (hlen : zs.length = H * W) (hzs : allIn 0 65535 zs = true) (w : World) (hv : IsInts w v zs) :
    Calls Try.prog 17 #[.agg #[.int .i64 W, .int .i64 H, v], .int .i64 p, .agg (threeA m)] w fun e w' => ∃ r, e = .returned (.agg #[.int .i64 W, .int .i64 H, r]) ∧ IsInts w' r ((List.range zs.length).map (gainV zs W p m)) ∧ Below w.heap.size w w' ∧ Fresh w.heap.size r := by
  have HZS := hide hzs
  have HMM := hide hm
  have hlb : zs.length ≤ 4096 := by rw [hlen]; exact Nat.le_trans (Nat.mul_le_mul hH hW) (by decide)
  have hLL : ((List.range zs.length).map (gainV zs W p m)).length = zs.length := by simp
  have HLG := hide (show ∀ j, j < zs.length → ((List.range zs.length).map (gainV zs W p m))[j]? = some (gainV zs W p m j) from fun j hj => by simp [hj])
  obtain ⟨L, hL⟩ : ∃ L, (List.range zs.length).map (gainV zs W p m) = L := ⟨_, rfl⟩
  rw [hL] at hLL HLG ⊢
  have HLL := hide hLL
  clear hL hLL hzs hlen hm
  obtain ⟨ao, ca, rfl, hla, hc⟩ := hv
  have HC := hide (show ∀ j, j < zs.length → ∃ bk off, ao = some ⟨bk, off, none⟩ ∧ bk < w.heap.size ∧ w.cell? ⟨bk, off + j, none⟩ = some (.int .i64 (zAt zs j)) from fun j hj => by
    rcases hc with h | ⟨b, off, h1, h2, h3⟩
    · subst h; simp at hj
    · have := h3 j hj
      rw [zAt_get zs j hj] at this
      exact ⟨b, off, h1, h2, this⟩)
  clear hc
  obtain ⟨i0, hi, hz0, hz1, hz2⟩ := info_parts Try.infoInt
  go_enter Try.func17, Try.ntmps17
  go_wp2_with fail
  obtain ⟨a1, a2, a3, a4⟩ := al4 w (Obj.cells #[.int .i64 W, .int .i64 H, .slice ao zs.length ca] 24) (Obj.cells (threeA m) 25) (Obj.cells #[.int .i64 0, .int .i64 0, .slice none 0 0] 24) (Obj.cells #[.int .i64 W, .int .i64 H, .slice none 0 0] 24)
  have hB := be4 w (Obj.cells #[.int .i64 W, .int .i64 H, .slice ao zs.length ca] 24) (Obj.cells (threeA m) 25) (Obj.cells #[.int .i64 0, .int .i64 0, .slice none 0 0] 24) (Obj.cells #[.int .i64 W, .int .i64 H, .slice none 0 0] 24)
  generalize (((w.alloc (Obj.cells #[.int .i64 W, .int .i64 H, .slice ao zs.length ca] 24)).alloc (Obj.cells (threeA m) 25)).alloc (Obj.cells #[.int .i64 0, .int .i64 0, .slice none 0 0] 24)).alloc (Obj.cells #[.int .i64 W, .int .i64 H, .slice none 0 0] 24) = U at *
  go_loopw [8] (fun i wr => ∃ k : Nat, k ≤ zs.length ∧ i = .int .i64 k ∧ GaJ w W H (.slice ao zs.length ca) m L k wr) (fun i _ => zs.length - (intOf i).toNat)
  case atStart => exact ⟨0, Nat.zero_le _, rfl, none, 0, a4, World.ownsRow_nil _ _ _ _, a1, a3, a2, hB⟩
  case round =>
    clear a1 a2 a3 a4 hB
    obtain ⟨k, hk, rfl, so, scap, j1, j2, j3, j4, j6, j5⟩ := hrel
    obtain ⟨q0, q1, q2⟩ := cells3 j3
    by_cases hlt : k < zs.length
    · have hd : decide ((k : Int) < (zs.length : Int)) = true := by simp; omega
      have hlI : (k : Int) < (zs.length : Int) := by omega
      obtain ⟨bk, off, rfl, hbl, c0⟩ := HC.out k hlt
      have HTV := hide (show gainV zs W p m k = clampV (zAt zs k * m (colV p (k % W) (k / W)) / 256) from rfl)
      have hXW : k % W < W := Nat.mod_lt _ (by omega)
      have hYl : k / W ≤ 4096 := Nat.le_trans (Nat.div_le_self _ _) (by omega)
      have hm1 : (k : Int).tmod (W : Int) = ((k % W : Nat) : Int) := rfl
      have hm2 : (k : Int) % (W : Int) = ((k % W : Nat) : Int) := rfl
      have hd1 : (k : Int).tdiv (W : Int) = ((k / W : Nat) : Int) := rfl
      have hd2 : (k : Int) / (W : Int) = ((k / W : Nat) : Int) := rfl
      obtain ⟨X, hX⟩ : ∃ X, k % W = X := ⟨_, rfl⟩
      obtain ⟨Y, hY⟩ : ∃ Y, k / W = Y := ⟨_, rfl⟩
      rw [hX] at hm1 hm2 hXW HTV
      rw [hY] at hd1 hd2 hYl HTV
      have hW0 : ¬ (W = 0) := by omega
      have hwz : ((W : Int) == 0) = false := by rw [beq_eq_false_iff_ne]; omega
      have hwX : IntKind.i64.wrap (X : Int) = (X : Int) := IntWalk.i64_in _ (by omega)
      have hwY : IntKind.i64.wrap (Y : Int) = (Y : Int) := IntWalk.i64_in _ (by omega)
      have HCO := hide (fun u => colourAt_any p X Y hp (by omega) hYl u)
      have hq3 := colV_lt3 p X Y
      obtain ⟨c, hc⟩ : ∃ c, colV p X Y = c := ⟨_, rfl⟩
      rw [hc] at HCO HTV hq3
      have hcI : (c : Int) < 3 := by omega
      obtain ⟨hg0, hg1⟩ := HMM.out c hq3
      have kg : ∀ u : World, u.heap[w.heap.size + 1]? = some (.cells (threeA m) 25 (0, 0)) → u.cell? ⟨w.heap.size + 1, c, none⟩ = some (.int .i64 (m c)) := fun u h => by rw [Lib.cell_of_heap h, threeA_get m c hq3]
      obtain ⟨gn, hgn⟩ : ∃ gn, m c = gn := ⟨_, rfl⟩
      rw [hgn] at HTV hg0 hg1 kg
      have hzr := zAt_ok HZS.out k
      obtain ⟨z, hz⟩ : ∃ z, zAt zs k = z := ⟨_, rfl⟩
      rw [hz] at HTV hzr c0
      obtain ⟨hzr1, hzr2⟩ := hzr
      have hn0 : 0 ≤ z * gn := Int.mul_nonneg hzr1 hg0
      have hn1 : z * gn ≤ 65535 * 65535 := Int.mul_le_mul hzr2 hg1 hg0 (by omega)
      obtain ⟨n, hn⟩ : ∃ n, z * gn = n := ⟨_, rfl⟩
      rw [hn] at HTV hn0 hn1
      have hq0 := Int.tdiv_eq_ediv_of_nonneg (b := 256) hn0
      obtain ⟨q, hq⟩ : ∃ q, n / 256 = q := ⟨_, rfl⟩
      rw [hq] at HTV hq0
      have hwn : IntKind.i64.wrap n = n := IntWalk.i64_in _ (by omega)
      have hwq : IntKind.i64.wrap q = q := IntWalk.i64_in _ (by omega)
      obtain ⟨y, hy⟩ : ∃ y, clampV q = y := ⟨_, rfl⟩
      rw [hy] at HTV
      have HCL := hide (fun u => clamp_any q u)
      rw [hy] at HCL
      have HST := hide (show (L.take (k + 1)).map (Value.int .i64) = (L.take k).map (Value.int .i64) ++ [.int .i64 y] by
        have hk2 : k < L.length := by rw [HLL.out]; exact hlt
        have hg := HLG.out k hlt
        rw [List.getElem?_eq_getElem hk2] at hg
        rw [List.take_succ_eq_append_getElem hk2, Option.some.inj hg, List.map_append, HTV.out]; rfl)
      obtain ⟨XS, hXS⟩ : ∃ XS, (L.take k).map (Value.int .i64) = XS := ⟨_, rfl⟩
      rw [hXS] at j2 HST
      have hbW := j5.size
      have HL1 := hide (show k + 1 ≤ maxLen by unfold maxLen; omega)
      have HL2 := hide (show (k + 1) * 8 ≤ 140737488355328 by omega)
      clear hX hY hc hz hgn hy hXS
      have HS := hide (show ∀ v, Below wr.heap.size wr v → v.cell? ⟨w.heap.size + 1 + 1 + 1, 2, none⟩ = some (.slice so k scap) ∧ v.cell? ⟨w.heap.size, 0, none⟩ = some (.int .i64 W) ∧ v.cell? ⟨w.heap.size, 2, none⟩ = some (.slice (some ⟨bk, off, none⟩) zs.length ca) ∧ v.cell? ⟨bk, off + k, none⟩ = some (.int .i64 z) ∧ v.cell? ⟨w.heap.size + 1, c, none⟩ = some (.int .i64 gn) from fun v h => by
        obtain ⟨_, _, t2⟩ := cells3 ((h.block (w.heap.size + 3) (Array.getElem?_eq_some_iff.1 j1).1).trans j1)
        obtain ⟨y0, _, y2⟩ := cells3 ((h.block _ (Array.getElem?_eq_some_iff.1 j3).1).trans j3)
        exact ⟨t2, y0, y2, ((j5.trans (h.mono j5.size)).cell (p := ⟨bk, off + k, none⟩) hbl).trans c0, kg _ ((h.block _ (Array.getElem?_eq_some_iff.1 j6).1).trans j6)⟩)
      have nq := own_ne j2 j3 (by decide)
      have nb : some bk ≠ (Value.slice so k scap).ownBlock := fun e => by have := (j2.lt bk e.symm).1; omega
      have HTL := hide (show ∀ (V1 : World) (gg cap : Nat) (w3 : World), Below wr.heap.size wr V1 → V1.grownBy w3 (Value.slice so k scap).ownBlock → w3.ownsRow w.heap.size 3 1 (.slice (some ⟨gg, 0, none⟩) (k + 1) cap) (k + 1) (XS ++ [.int .i64 y]) → (w3.cell? ⟨w.heap.size + 1 + 1 + 1, 2, none⟩ = some (.slice so k scap) ∧ w3.cell? ⟨w.heap.size, 0, none⟩ = some (.int .i64 W) ∧ w3.cell? ⟨w.heap.size, 2, none⟩ = some (.slice (some ⟨bk, off, none⟩) zs.length ca) ∧ w3.cell? ⟨bk, off + k, none⟩ = some (.int .i64 z) ∧ w3.cell? ⟨w.heap.size + 1, c, none⟩ = some (.int .i64 gn)) ∧ w3.frozen? ⟨w.heap.size + 1 + 1 + 1, 2, none⟩ = false ∧ GaJ w W H (.slice (some ⟨bk, off, none⟩) zs.length ca) m L (k + 1) (w3.setCell ⟨w.heap.size + 1 + 1 + 1, 2, none⟩ (.slice (some ⟨gg, 0, none⟩) (k + 1) cap)) from fun V1 gg cap w3 h1 h2 h3 => by
        obtain ⟨t1, t2, t3, t4, t5, t6, t7⟩ := app_gen (by decide) j1 j2 j5 (Nat.le_refl _) (by omega) h1 h2 h3
        obtain ⟨y0, _, y2⟩ := cells3 ((t1 _ (Array.getElem?_eq_some_iff.1 j3).1 nq).trans j3)
        have kb := t1 bk (by omega) nb
        have n6 := own_ne j2 j6 (by decide)
        exact ⟨⟨t2, y0, y2, (World.cell?_of_block (a := ⟨bk, off + k, none⟩) kb).trans ((j5.cell (p := ⟨bk, off + k, none⟩) hbl).trans c0), kg _ ((t1 _ (Array.getElem?_eq_some_iff.1 j6).1 n6).trans j6)⟩, t3, some ⟨gg, 0, none⟩, cap, t4, by rw [HST.out]; exact t5, (t7 _ (Array.getElem?_eq_some_iff.1 j3).1 nq (by omega)).trans j3, (t7 _ (Array.getElem?_eq_some_iff.1 j4).1 (own_ne j2 j4 (by decide)) (by omega)).trans j4, (t7 _ (Array.getElem?_eq_some_iff.1 j6).1 n6 (by omega)).trans j6, t6⟩)
      have hWd : Below wr.heap.size wr wr.drew := (Below.refl _ _).drew
      clear kg
      go_wp2_with fail
      have hSd := HS.out _ hWd
      clear c0 q0 q1 q2 hd j1 j3 j4 j6
      have hmx : Try.prog.follows .mixedOrders = true := by kernel_rfl
      refine wp_region_last (S := fun v : World => v.cell? ⟨w.heap.size + 1 + 1 + 1, 2, none⟩ = some (.slice so k scap) ∧ v.cell? ⟨w.heap.size, 0, none⟩ = some (.int .i64 W) ∧ v.cell? ⟨w.heap.size, 2, none⟩ = some (.slice (some ⟨bk, off, none⟩) zs.length ca) ∧ v.cell? ⟨bk, off + k, none⟩ = some (.int .i64 z) ∧ v.cell? ⟨w.heap.size + 1, c, none⟩ = some (.int .i64 gn)) (f := 25) hmx ?_
      show wpAnyF _ _ _ _ _ _ 26 _ _ wr.drew
      refine wpAnyF_takeD (i := 0) (oi := _) (v := ?vv1) (some 21) rfl rfl (by kernel_rfl) (by kernel_rfl) (by kernel_rfl) (by kernel_rfl) (by kernel_rfl) (fun _ _ _ h => h) (Or.inl ⟨by rfl, ?yy1⟩) hSd ?rr1
      case yy1 => (intro wq hSq; obtain ⟨_, _, _, _, _⟩ := hSq; go_simp <;> with_reducible rfl)
      simp only [Act.put, List.setIfInBounds_toArray, List.set_cons_succ, List.set_cons_zero]
      refine wpAnyF_takeD (i := 2) (oi := _) (v := ?vv2) (some 23) rfl rfl (by kernel_rfl) (by kernel_rfl) (by kernel_rfl) (by kernel_rfl) (by kernel_rfl) (fun _ _ _ h => h) (Or.inl ⟨by rfl, ?yy2⟩) hSd ?rr2
      case yy2 => (intro wq hSq; obtain ⟨_, _, _, _, _⟩ := hSq; go_simp <;> with_reducible rfl)
      simp only [Act.put, List.setIfInBounds_toArray, List.set_cons_succ, List.set_cons_zero]
      refine wpAnyF_takeD (i := 4) (oi := _) (v := ?vv3) (some 25) rfl rfl (by kernel_rfl) (by kernel_rfl) (by kernel_rfl) (by kernel_rfl) (by kernel_rfl) (fun _ _ _ h => h) (Or.inl ⟨by rfl, ?yy3⟩) hSd ?rr3
      case yy3 => (intro wq hSq; obtain ⟨_, _, _, _, _⟩ := hSq; go_simp <;> with_reducible rfl)
      simp only [Act.put, List.setIfInBounds_toArray, List.set_cons_succ, List.set_cons_zero]
      refine wpAnyF_takeD (i := 7) (oi := _) (v := ?vv4) (some 28) rfl rfl (by kernel_rfl) (by kernel_rfl) (by kernel_rfl) (by kernel_rfl) (by kernel_rfl) (fun _ _ _ h => h) (Or.inl ⟨by rfl, ?yy4⟩) hSd ?rr4
      case yy4 => (intro wq hSq; obtain ⟨_, _, _, _, _⟩ := hSq; go_simp <;> with_reducible rfl)
      simp only [Act.put, List.setIfInBounds_toArray, List.set_cons_succ, List.set_cons_zero]
      refine wpAnyF_takeD (i := 8) (oi := _) (v := ?vv5) (some 29) rfl rfl (by kernel_rfl) (by kernel_rfl) (by kernel_rfl) (by kernel_rfl) (by kernel_rfl) (fun _ _ _ h => h) (Or.inl ⟨by rfl, ?yy5⟩) hSd ?rr5
      case yy5 => (intro wq hSq; obtain ⟨_, _, _, _, _⟩ := hSq; go_simp <;> with_reducible rfl)
      simp only [Act.put, List.setIfInBounds_toArray, List.set_cons_succ, List.set_cons_zero]
      refine wpAnyF_takeD (i := 9) (oi := _) (v := ?vv6) (some 30) rfl rfl (by kernel_rfl) (by kernel_rfl) (by kernel_rfl) (by kernel_rfl) (by kernel_rfl) (fun _ _ _ h => h) (Or.inl ⟨by rfl, ?yy6⟩) hSd ?rr6
      case yy6 => (intro wq hSq; obtain ⟨_, _, _, _, _⟩ := hSq; go_simp <;> with_reducible rfl)
      simp only [Act.put, List.setIfInBounds_toArray, List.set_cons_succ, List.set_cons_zero]
      refine wpAnyF_takeD (i := 12) (oi := _) (v := ?vv7) (some 33) rfl rfl (by kernel_rfl) (by kernel_rfl) (by kernel_rfl) (by kernel_rfl) (by kernel_rfl) (fun _ _ _ h => h) (Or.inl ⟨by rfl, ?yy7⟩) hSd ?rr7
      case yy7 => (intro wq hSq; obtain ⟨_, _, _, _, _⟩ := hSq; go_simp <;> with_reducible rfl)
      simp only [Act.put, List.setIfInBounds_toArray, List.set_cons_succ, List.set_cons_zero]
      refine wpAnyF_takeD (i := 13) (oi := _) (v := ?vv8) (some 34) rfl rfl (by kernel_rfl) (by kernel_rfl) (by kernel_rfl) (by kernel_rfl) (by kernel_rfl) (fun _ _ _ h => h) (Or.inl ⟨by rfl, ?yy8⟩) hSd ?rr8
      case yy8 => (intro wq hSq; obtain ⟨_, _, _, _, _⟩ := hSq; go_simp <;> with_reducible rfl)
      simp only [Act.put, List.setIfInBounds_toArray, List.set_cons_succ, List.set_cons_zero]
      refine wpAnyF_takeD (i := 1) (oi := _) (v := ?vv9) (some 22) rfl rfl (by kernel_rfl) (by kernel_rfl) (by kernel_rfl) (by kernel_rfl) (by kernel_rfl) (fun _ _ _ h => h) (Or.inl ⟨by rfl, ?yy9⟩) hSd ?rr9
      case yy9 => (intro wq hSq; obtain ⟨_, _, _, _, _⟩ := hSq; go_simp <;> with_reducible rfl)
      simp only [Act.put, List.setIfInBounds_toArray, List.set_cons_succ, List.set_cons_zero]
      refine wpAnyF_takeD (i := 3) (oi := _) (v := ?vv10) (some 24) rfl rfl (by kernel_rfl) (by kernel_rfl) (by kernel_rfl) (by kernel_rfl) (by kernel_rfl) (fun _ _ _ h => h) (Or.inl ⟨by rfl, ?yy10⟩) hSd ?rr10
      case yy10 => (intro wq hSq; obtain ⟨_, _, _, _, _⟩ := hSq; go_simp <;> with_reducible rfl)
      simp only [Act.put, List.setIfInBounds_toArray, List.set_cons_succ, List.set_cons_zero]
      refine wpAnyF_takeD (i := 10) (oi := _) (v := ?vv11) (some 31) rfl rfl (by kernel_rfl) (by kernel_rfl) (by kernel_rfl) (by kernel_rfl) (by kernel_rfl) (fun _ _ _ h => h) (Or.inl ⟨by rfl, ?yy11⟩) hSd ?rr11
      case yy11 => (intro wq hSq; obtain ⟨_, _, _, _, _⟩ := hSq; go_simp <;> with_reducible rfl)
      simp only [Act.put, List.setIfInBounds_toArray, List.set_cons_succ, List.set_cons_zero]
      refine wpAnyF_takeD (i := 14) (oi := _) (v := ?vv12) (some 35) rfl rfl (by kernel_rfl) (by kernel_rfl) (by kernel_rfl) (by kernel_rfl) (by kernel_rfl) (fun _ _ _ h => h) (Or.inl ⟨by rfl, ?yy12⟩) hSd ?rr12
      case yy12 => (intro wq hSq; obtain ⟨_, _, _, _, _⟩ := hSq; go_simp <;> with_reducible rfl)
      simp only [Act.put, List.setIfInBounds_toArray, List.set_cons_succ, List.set_cons_zero]
      refine wpAnyF_takeD (i := 5) (oi := _) (v := ?vv13) (some 26) rfl rfl (by kernel_rfl) (by kernel_rfl) (by kernel_rfl) (by kernel_rfl) (by kernel_rfl) (fun _ _ _ h => h) (Or.inl ⟨by rfl, ?yy13⟩) hSd ?rr13
      case yy13 => (intro wq hSq; obtain ⟨_, _, _, _, _⟩ := hSq; go_simp <;> with_reducible rfl)
      simp only [Act.put, List.setIfInBounds_toArray, List.set_cons_succ, List.set_cons_zero]
      refine wpAnyF_takeD (i := 11) (oi := _) (v := ?vv14) (some 32) rfl rfl (by kernel_rfl) (by kernel_rfl) (by kernel_rfl) (by kernel_rfl) (by kernel_rfl) (fun _ _ _ h => h) (Or.inl ⟨by rfl, ?yy14⟩) hSd ?rr14
      case yy14 => (intro wq hSq; obtain ⟨_, _, _, _, _⟩ := hSq; go_simp <;> with_reducible rfl)
      simp only [Act.put, List.setIfInBounds_toArray, List.set_cons_succ, List.set_cons_zero]
      refine wpAnyF_takeD (i := 15) (oi := _) (v := ?vv15) (some 36) rfl rfl (by kernel_rfl) (by kernel_rfl) (by kernel_rfl) (by kernel_rfl) (by kernel_rfl) (fun _ _ _ h => h) (Or.inl ⟨by rfl, ?yy15⟩) hSd ?rr15
      case yy15 => (intro wq hSq; obtain ⟨_, _, _, _, _⟩ := hSq; go_simp <;> with_reducible rfl)
      simp only [Act.put, List.setIfInBounds_toArray, List.set_cons_succ, List.set_cons_zero]
      refine wpAnyF_takeD (i := 6) (oi := _) (v := ?vv16) (some 27) rfl rfl (by kernel_rfl) (by kernel_rfl) (by kernel_rfl) (by kernel_rfl) (by kernel_rfl) (fun _ _ _ h => h) (Or.inl ⟨by rfl, ?yy16⟩) hSd ?rr16
      case yy16 => (intro wq hSq; obtain ⟨_, _, _, _, _⟩ := hSq; go_simp <;> with_reducible rfl)
      simp only [Act.put, List.setIfInBounds_toArray, List.set_cons_succ, List.set_cons_zero]
      refine wpAnyF_one (i := 16) (o := _) (by kernel_rfl) rfl (fun K' hK => ?_)
      rw [if_pos (by rfl)]
      go_simp
      refine (HCO.out _).mono ?_
      rintro e Vx ⟨rfl, rfl⟩
      have hSd := hSd
      refine hK.out _ _ hSd ?_
      clear hK
      try simp only [Act.put]
      refine wpAnyF_takeD (i := 17) (oi := _) (v := ?vv17) (some 38) rfl rfl (by kernel_rfl) (by kernel_rfl) (by kernel_rfl) (by kernel_rfl) (by kernel_rfl) (fun _ _ _ h => h) (Or.inl ⟨by rfl, ?yy17⟩) hSd ?rr17
      case yy17 => (intro wq hSq; obtain ⟨_, _, _, _, _⟩ := hSq; go_simp <;> with_reducible rfl)
      simp only [Act.put, List.setIfInBounds_toArray, List.set_cons_succ, List.set_cons_zero]
      refine wpAnyF_takeD (i := 18) (oi := _) (v := ?vv18) (some 39) rfl rfl (by kernel_rfl) (by kernel_rfl) (by kernel_rfl) (by kernel_rfl) (by kernel_rfl) (fun _ _ _ h => h) (Or.inl ⟨by rfl, ?yy18⟩) hSd ?rr18
      case yy18 => (intro wq hSq; obtain ⟨_, _, _, _, _⟩ := hSq; go_simp <;> with_reducible rfl)
      simp only [Act.put, List.setIfInBounds_toArray, List.set_cons_succ, List.set_cons_zero]
      refine wpAnyF_takeD (i := 19) (oi := _) (v := ?vv19) (some 40) rfl rfl (by kernel_rfl) (by kernel_rfl) (by kernel_rfl) (by kernel_rfl) (by kernel_rfl) (fun _ _ _ h => h) (Or.inl ⟨by rfl, ?yy19⟩) hSd ?rr19
      case yy19 => (intro wq hSq; obtain ⟨_, _, _, _, _⟩ := hSq; go_simp <;> with_reducible rfl)
      simp only [Act.put, List.setIfInBounds_toArray, List.set_cons_succ, List.set_cons_zero]
      refine wpAnyF_takeD (i := 20) (oi := _) (v := ?vv20) (some 41) rfl rfl (by kernel_rfl) (by kernel_rfl) (by kernel_rfl) (by kernel_rfl) (by kernel_rfl) (fun _ _ _ h => h) (Or.inl ⟨by rfl, ?yy20⟩) hSd ?rr20
      case yy20 => (intro wq hSq; obtain ⟨_, _, _, _, _⟩ := hSq; go_simp <;> with_reducible rfl)
      simp only [Act.put, List.setIfInBounds_toArray, List.set_cons_succ, List.set_cons_zero]
      refine wpAnyF_one (i := 21) (o := _) (by kernel_rfl) rfl (fun K' hK => ?_)
      rw [if_pos (by rfl)]
      go_simp
      refine (HCL.out _).mono ?_
      rintro e Vy ⟨rfl, rfl⟩
      have hSd := hSd
      refine hK.out _ _ hSd ?_
      clear hK
      try simp only [Act.put]
      refine wpAnyF_one (i := 22) (o := _) (by kernel_rfl) rfl (fun K' hK => ?_)
      rw [if_pos (by rfl)]
      go_simp
      have hBs : Below wr.heap.size wr (wr.drew.alloc (Obj.cells #[.int .i64 y] 3)) := hWd.alloc hWd.size _
      have hSd := HS.out _ hBs
      refine hK.out _ _ hSd ?_
      clear hK
      try simp only [Act.put]
      refine wpAnyF_one (i := 23) (o := _) (by kernel_rfl) rfl (fun K' hK => ?_)
      refine step_append_lies _ rfl _ _ 22 rfl w.heap.size 3 i0 (.int .i64 0) 1 8 Try.underlying22 hi hz0 hz1 hz2 rfl (by decide) (.slice so k scap) k XS rfl ((ownsRow_below j2 hWd).alloc _) ⟨wr.drew.heap.size, 0, none⟩ 1 1 [.int .i64 y] rfl rfl (World.news_of_block (al1 wr.drew _)) (fun u hu => by simp at hu; subst hu; rfl) Nat.one_pos HL1.out HL2.out (Nat.le_trans hbW hBs.size) _ rfl ?_
      intro gg cap w3 hown hgrow hat hltg
      obtain ⟨hSx, p2f, HFIN⟩ := HTL.out _ gg cap w3 hBs hgrow hown
      have hSd := hSx
      refine hK.out _ _ hSd ?_
      clear hK
      try simp only [Act.put]
      refine wpAnyF_take (i := 24) (oi := _) (v := ?vv21) rfl (by kernel_rfl) (by kernel_rfl) (by kernel_rfl) (by kernel_rfl) (by kernel_rfl) (fun _ _ _ h => h) (Or.inl ⟨by rfl, ?yy21⟩) hSd ?rr21
      case yy21 => (intro wq hSq; obtain ⟨_, _, _, _, _⟩ := hSq; go_simp <;> with_reducible rfl)
      try simp only [Act.put]
      refine wpAnyF_last (o := _) (by kernel_rfl) rfl (fun K' hK => ?_)
      rw [if_pos (by rfl)]
      go_simp
      refine hK.out _ _ ?_
      clear hK
      refine wpAnyF_done (by kernel_rfl) ?_ _
      try simp only [Act.put]
      go_wp2
      go_roundw
      case rel => exact ⟨k + 1, by omega, by go_num, HFIN⟩
      case measure => simp [intOf]; omega
    · have hd : decide ((k : Int) < (zs.length : Int)) = false := by simp; omega
      obtain rfl : k = zs.length := by omega
      rw [List.take_of_length_le (by rw [HLL.out]; exact Nat.le_refl _)] at j2
      obtain ⟨p0, p1, p2⟩ := cells3 (b := w.heap.size + 1 + 1 + 1) j1
      obtain ⟨z0, z1, z2⟩ := cells3 (b := w.heap.size + 1 + 1) j4
      have f0 := Lib.frozen_of_heap (b := w.heap.size + 1 + 1) j4 0
      have f1 := Lib.frozen_of_heap (b := w.heap.size + 1 + 1) j4 1
      have f2 := Lib.frozen_of_heap (b := w.heap.size + 1 + 1) j4 2
      have HFI := hide (set3_below j5 (show w.heap.size ≤ w.heap.size + 1 + 1 by omega) (.int .i64 (W : Nat)) (.int .i64 (H : Nat)) (.slice so zs.length scap))
      have hpx : IsInts wr (.slice so zs.length scap) L := IsInts.own (base := w.heap.size) (xs := L) (v := .slice so zs.length scap) (by rw [HLL.out]; exact j2) (by rw [HLL.out]; omega)
      have hne : (Value.slice so zs.length scap).ownBlock ≠ some (w.heap.size + 1 + 1) := fun e => own_ne j2 j4 (by decide) e.symm
      have HX := hide (hpx.other (set3_size wr (w.heap.size + 1 + 1) (.int .i64 (W : Nat)) (.int .i64 (H : Nat)) (.slice so zs.length scap)) (fun b hb => set3_heap _ _ _ _ _ b hb) hne)
      have HF := hide (Fresh.own j2)
      clear hpx hne
      go_wp2
      exact bodyPost_ret (v := .agg #[.int .i64 (W : Nat), .int .i64 (H : Nat), .slice so zs.length scap]) (by simp [results, Try.results17, go_sem, z0, z1, z2]) rfl ⟨_, rfl, HX.out, HFI.out, HF.out⟩

end Go.Proofs.Ytolcndchfnifhab

