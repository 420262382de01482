/- mosaic: colourOf, part. -/
import Derived.Test.YtolcndchfnifhabMean
import Derived.Test.YtolcndchfnifhabAround
import Derived.Test.YtolcndchfnifhabColour
namespace Go.Proofs.Ytolcndchfnifhab
set_option linter.unusedVariables false
open Go.RowKit

theorem beq_cast (q c : Nat) : ((q : Int) == (c : Int)) = decide (q = c) := by
  by_cases h : q = c
  · simp [h]
  · rw [decide_eq_false h]; simpa using fun e : (q : Int) = c => h (by omega)

theorem colourOf_any (p X Y : Nat) (hp : p ≤ 3) (w : World) : Calls Try.prog 70 #[.int .i64 p, .agg #[.int .i64 X, .int .i64 Y]] w fun e w' => e = .returned (.int .i64 (colV p X Y : Nat)) ∧ Below w.heap.size w w' := by
  go_enter Try.func70, Try.ntmps70
  go_wp2_with fail
  refine (colour_ok p X Y hp _).mono ?_
  rintro e w1 ⟨rfl, hb1⟩
  go_wp2
  go_ret
  exact ⟨rfl, bel_trans (bel_alloc _ _) hb1⟩

set_option maxRecDepth 100000 in
set_option maxHeartbeats 800000 in
theorem part1_any (p X Y c Bp Bc : Nat) (hp : p ≤ 3) (w : World) (hBp : Bp < w.heap.size) (hBc : Bc < w.heap.size) (k1 : w.cell? ⟨Bp, 0, none⟩ = some (.int .i64 p)) (k2 : w.cell? ⟨Bc, 0, none⟩ = some (.int .i64 c)) :
    Calls Try.prog 111 #[.agg #[.int .i64 X, .int .i64 Y], .pointer (some ⟨Bp, 0, none⟩), .pointer (some ⟨Bc, 0, none⟩)] w fun e w' => e = .returned (.bool (decide (colV p X Y = c))) ∧ Below w.heap.size w w' := by
  have HCO := hide (fun v => colourOf_any p X Y hp v)
  obtain ⟨q, hq⟩ : ∃ q, colV p X Y = q := ⟨_, rfl⟩
  rw [hq] at HCO ⊢
  clear hq
  have HB := hide (bel_alloc w (Obj.cells #[.int .i64 X, .int .i64 Y] 93))
  have b3 := al1 w (Obj.cells #[.int .i64 X, .int .i64 Y] 93)
  have HE := hide (beq_cast q c)
  go_enter Try.func111, Try.ntmps111
  go_wp2_with fail
  have hl3 := (Array.getElem?_eq_some_iff.1 b3).1
  generalize w.alloc (Obj.cells #[.int .i64 X, .int .i64 Y] 93) = U at *
  have HS := hide (show ∀ v, Below U.heap.size U v → v.cell? ⟨Bp, 0, none⟩ = some (.int .i64 p) ∧ v.cell? ⟨Bc, 0, none⟩ = some (.int .i64 c) ∧ v.cell? ⟨w.heap.size, 0, none⟩ = some (.int .i64 X) ∧ v.cell? ⟨w.heap.size, 1, none⟩ = some (.int .i64 Y) from fun v h => by
    have hw := HB.out.trans (h.mono HB.out.size)
    have t := (h.block _ hl3).trans b3
    exact ⟨(hw.cell (p := ⟨Bp, 0, none⟩) hBp).trans k1, (hw.cell (p := ⟨Bc, 0, none⟩) hBc).trans k2, by rw [Lib.cell_of_heap t]; rfl, by rw [Lib.cell_of_heap t]; rfl⟩)
  have hWd : Below U.heap.size U U.drew := (Below.refl _ _).drew
  have hSd := HS.out _ hWd
  have hmx : Try.prog.follows .mixedOrders = true := by kernel_rfl
  refine wp_region_last (S := fun v : World => v.cell? ⟨Bp, 0, none⟩ = some (.int .i64 p) ∧ v.cell? ⟨Bc, 0, none⟩ = some (.int .i64 c) ∧ v.cell? ⟨w.heap.size, 0, none⟩ = some (.int .i64 X) ∧ v.cell? ⟨w.heap.size, 1, none⟩ = some (.int .i64 Y)) (f := 5) hmx ?_
  show wpAnyF _ _ _ _ _ _ 6 _ _ U.drew
  refine wpAnyF_take (i := 0) (oi := _) (v := ?vv1) rfl (by kernel_rfl) (by kernel_rfl) (by kernel_rfl) (by kernel_rfl) (by kernel_rfl) (fun _ _ _ h => h) (Or.inl ⟨by rfl, ?yy1⟩) hSd ?rr1
  case yy1 => (intro wq hSq; obtain ⟨_, _, _, _⟩ := hSq; go_simp <;> with_reducible rfl)
  try simp only [Act.put]
  refine wpAnyF_take (i := 1) (oi := _) (v := ?vv2) rfl (by kernel_rfl) (by kernel_rfl) (by kernel_rfl) (by kernel_rfl) (by kernel_rfl) (fun _ _ _ h => h) (Or.inl ⟨by rfl, ?yy2⟩) hSd ?rr2
  case yy2 => (intro wq hSq; obtain ⟨_, _, _, _⟩ := hSq; go_simp <;> with_reducible rfl)
  try simp only [Act.put]
  refine wpAnyF_take (i := 3) (oi := _) (v := ?vv3) rfl (by kernel_rfl) (by kernel_rfl) (by kernel_rfl) (by kernel_rfl) (by kernel_rfl) (fun _ _ _ h => h) (Or.inl ⟨by rfl, ?yy3⟩) hSd ?rr3
  case yy3 => (intro wq hSq; obtain ⟨_, _, _, _⟩ := hSq; go_simp <;> with_reducible rfl)
  try simp only [Act.put]
  refine wpAnyF_one (i := 2) (o := _) (by kernel_rfl) rfl (fun K' hK => ?_)
  rw [if_pos (by rfl)]
  go_simp
  refine (HCO.out _).mono ?_
  rintro e V1 ⟨rfl, hbv⟩
  have hB1 : Below U.heap.size U V1 := hWd.trans (hbv.mono hWd.size)
  have hSd := HS.out _ hB1
  refine hK.out _ _ hSd ?_
  clear hK
  try simp only [Act.put]
  refine wpAnyF_take (i := 4) (oi := _) (v := ?vv4) rfl (by kernel_rfl) (by kernel_rfl) (by kernel_rfl) (by kernel_rfl) (by kernel_rfl) (fun _ _ _ h => h) (Or.inl ⟨by rfl, ?yy4⟩) hSd ?rr4
  case yy4 => (intro wq hSq; obtain ⟨_, _, _, _⟩ := hSq; go_simp <;> with_reducible rfl)
  try simp only [Act.put]
  refine wpAnyF_last (o := _) (by kernel_rfl) rfl (fun K' hK => ?_)
  rw [if_pos (by rfl)]
  go_simp
  refine hK.out _ _ ?_
  clear hK
  refine wpAnyF_done (by kernel_rfl) ?_ _
  try simp only [Act.put]
  go_wp2
  go_ret
  exact ⟨ret_bool HE.out, HB.out.trans (hB1.mono HB.out.size)⟩

/-- how much of a colour a place has. -/
def parX (X : Nat) (x : Fin 8) : Int := (X : Int) - 1 + (nOf x.1 % 3 : Nat)
def parY (Y : Nat) (x : Fin 8) : Int := (Y : Int) - 1 + (nOf x.1 / 3 : Nat)
def parC (p X Y c : Nat) (x : Fin 8) : Bool := decide (colV p (parX X x).toNat (parY Y x).toNat = c)
def partV (zs : List Int) (W H p X Y c : Nat) : Int := if colV p X Y = c then zAt zs (Y * W + X) else meanV zs W H (parX X) (parY Y) (parC p X Y c)

set_option maxRecDepth 100000 in
set_option maxHeartbeats 3200000 in
theorem part_any (W H p X Y c bk off ca : Nat) (hW1 : 1 ≤ W) (hW : W ≤ 64) (hH1 : 1 ≤ H) (hH : H ≤ 64) (hp : p ≤ 3) (hX : X < W) (hY : Y < H) (zs : List Int) (hlen : zs.length = H * W) (hzs : allIn 0 65535 zs = true) (w : World) (hbk : bk < w.heap.size) (hcell : ∀ j, j < zs.length → w.cell? ⟨bk, off + j, none⟩ = some (.int .i64 (zAt zs j))) :
    Calls Try.prog 67 #[.agg #[.int .i64 W, .int .i64 H, .slice (some ⟨bk, off, none⟩) zs.length ca], .int .i64 p, .agg #[.int .i64 X, .int .i64 Y], .int .i64 c] w fun e w' => e = .returned (.int .i64 (partV zs W H p X Y c)) ∧ Below w.heap.size w w' := by
  have HPV := hide (show partV zs W H p X Y c = if colV p X Y = c then zAt zs (Y * W + X) else meanV zs W H (parX X) (parY Y) (parC p X Y c) from rfl)
  generalize partV zs W H p X Y c = RES at *
  have hl4 : zs.length ≤ 4096 := by rw [hlen]; exact Nat.le_trans (Nat.mul_le_mul hH hW) (by decide)
  have hkl : Y * W + X < zs.length := by
    have h1 : (Y + 1) * W ≤ H * W := Nat.mul_le_mul_right _ hY
    rw [Nat.succ_mul] at h1
    rw [hlen]; omega
  have HC := hide hcell
  have HCO := hide (fun v => colourOf_any p X Y hp v)
  obtain ⟨a1, a2, a3, a4⟩ := al4 w (Obj.cells #[.int .i64 W, .int .i64 H, .slice (some ⟨bk, off, none⟩) zs.length ca] 24) (Obj.cells #[.int .i64 p] 3) (Obj.cells #[.int .i64 X, .int .i64 Y] 93) (Obj.cells #[.int .i64 c] 3)
  have HB := hide (be4 w (Obj.cells #[.int .i64 W, .int .i64 H, .slice (some ⟨bk, off, none⟩) zs.length ca] 24) (Obj.cells #[.int .i64 p] 3) (Obj.cells #[.int .i64 X, .int .i64 Y] 93) (Obj.cells #[.int .i64 c] 3))
  have HMP := hide (fun (u : World) (hu : Below w.heap.size w u) (Bs : Nat) (hBs : Bs < u.heap.size) (e0 : u.cell? ⟨Bs, 0, none⟩ = some (.int .i64 X)) (e1 : u.cell? ⟨Bs, 1, none⟩ = some (.int .i64 Y)) (hp1 : w.heap.size + 1 < u.heap.size) (hp3 : w.heap.size + 3 < u.heap.size) (k1 : u.cell? ⟨w.heap.size + 1, 0, none⟩ = some (.int .i64 p)) (k2 : u.cell? ⟨w.heap.size + 3, 0, none⟩ = some (.int .i64 c)) =>
    mean_any 8 W H bk off ca (by omega) hW1 hW hH1 hH zs hlen hzs 119 111 Bs #[.pointer (some ⟨Bs, 0, none⟩)] #[.pointer (some ⟨w.heap.size + 1, 0, none⟩), .pointer (some ⟨w.heap.size + 3, 0, none⟩)] (parX X) (parY Y) (parC p X Y c) u (enters_of Try.func119 (by kernel_rfl) rfl) (enters_of Try.func111 (by kernel_rfl) rfl) hBs (Nat.lt_of_lt_of_le hbk hu.size) (fun j hj => (hu.cell (p := ⟨bk, off + j, none⟩) hbk).trans (hcell j hj))
      (fun V hV => around_stops Fence.wide (3 - 1) trivial rfl (by omega) Bs X Y (by omega) (by omega) V (Nat.lt_of_lt_of_le hBs hV.size) ((hV.cell (p := ⟨Bs, 0, none⟩) hBs).trans e0) ((hV.cell (p := ⟨Bs, 1, none⟩) hBs).trans e1))
      (fun x V hh hV => by
        have hh2 : 0 ≤ parX X x ∧ parX X x < W ∧ 0 ≤ parY Y x ∧ parY Y x < H := by simpa [hasB] using hh
        have h := part1_any p (parX X x).toNat (parY Y x).toNat c (w.heap.size + 1) (w.heap.size + 3) hp V (Nat.lt_of_lt_of_le hp1 hV.size) (Nat.lt_of_lt_of_le hp3 hV.size) ((hV.cell (p := ⟨w.heap.size + 1, 0, none⟩) hp1).trans k1) ((hV.cell (p := ⟨w.heap.size + 3, 0, none⟩) hp3).trans k2)
        rw [Int.toNat_of_nonneg hh2.1, Int.toNat_of_nonneg hh2.2.2.1] at h
        exact h))
  obtain ⟨K1, hK1⟩ : ∃ K1, Y * W + X = K1 := ⟨_, rfl⟩
  rw [hK1] at HPV hkl
  have HIX := hide (fun v => index_any W H X Y W K1 rfl hK1 (by omega) v)
  have hcz := hcell K1 hkl
  obtain ⟨z, hz0⟩ : ∃ z, zAt zs K1 = z := ⟨_, rfl⟩
  rw [hz0] at hcz HPV
  clear hz0 hK1 hcell hlen hzs
  obtain ⟨q, hq⟩ : ∃ q, colV p X Y = q := ⟨_, rfl⟩
  rw [hq] at HCO HPV
  clear hq
  go_enter Try.func67, Try.ntmps67
  go_wp2_with fail
  have hs4 : ((((w.alloc (Obj.cells #[.int .i64 W, .int .i64 H, .slice (some ⟨bk, off, none⟩) zs.length ca] 24)).alloc (Obj.cells #[.int .i64 p] 3)).alloc (Obj.cells #[.int .i64 X, .int .i64 Y] 93)).alloc (Obj.cells #[.int .i64 c] 3)).heap.size = w.heap.size + 4 := by simp
  generalize (((w.alloc (Obj.cells #[.int .i64 W, .int .i64 H, .slice (some ⟨bk, off, none⟩) zs.length ca] 24)).alloc (Obj.cells #[.int .i64 p] 3)).alloc (Obj.cells #[.int .i64 X, .int .i64 Y] 93)).alloc (Obj.cells #[.int .i64 c] 3) = U at *
  replace hs4 := Nat.le_of_eq hs4.symm
  have HS := hide (show ∀ v, Below U.heap.size U v → v.cell? ⟨w.heap.size, 0, none⟩ = some (.int .i64 W) ∧ v.cell? ⟨w.heap.size, 1, none⟩ = some (.int .i64 H) ∧ v.cell? ⟨w.heap.size, 2, none⟩ = some (.slice (some ⟨bk, off, none⟩) zs.length ca) ∧ v.cell? ⟨w.heap.size + 1, 0, none⟩ = some (.int .i64 p) ∧ v.cell? ⟨w.heap.size + 1 + 1, 0, none⟩ = some (.int .i64 X) ∧ v.cell? ⟨w.heap.size + 1 + 1, 1, none⟩ = some (.int .i64 Y) ∧ v.cell? ⟨w.heap.size + 1 + 1 + 1, 0, none⟩ = some (.int .i64 c) ∧ v.cell? ⟨bk, off + K1, none⟩ = some (.int .i64 z) from fun v h => by
    have hw := HB.out.trans (h.mono HB.out.size)
    obtain ⟨t0, t1, t2⟩ := cells3 ((h.block _ (by omega)).trans a1)
    have t3 := (h.block (w.heap.size + 2) (by omega)).trans a3
    exact ⟨t0, t1, t2, by rw [Lib.cell_of_heap ((h.block (w.heap.size + 1) (by omega)).trans a2)]; rfl, by rw [Lib.cell_of_heap (b := w.heap.size + 1 + 1) t3]; rfl, by rw [Lib.cell_of_heap (b := w.heap.size + 1 + 1) t3]; rfl, by rw [Lib.cell_of_heap (b := w.heap.size + 1 + 1 + 1) ((h.block (w.heap.size + 3) (by omega)).trans a4)]; rfl, (hw.cell (p := ⟨bk, off + K1, none⟩) hbk).trans hcz⟩)
  have hWd : Below U.heap.size U U.drew := (Below.refl _ _).drew
  have hSd := HS.out _ hWd
  have hklI : (K1 : Int) < (zs.length : Int) := by omega
  clear a1 a2 a3 a4 hcz
  have hmx : Try.prog.follows .mixedOrders = true := by kernel_rfl
  refine wp_region_last (S := fun v : World => v.cell? ⟨w.heap.size, 0, none⟩ = some (.int .i64 W) ∧ v.cell? ⟨w.heap.size, 1, none⟩ = some (.int .i64 H) ∧ v.cell? ⟨w.heap.size, 2, none⟩ = some (.slice (some ⟨bk, off, none⟩) zs.length ca) ∧ v.cell? ⟨w.heap.size + 1, 0, none⟩ = some (.int .i64 p) ∧ v.cell? ⟨w.heap.size + 1 + 1, 0, none⟩ = some (.int .i64 X) ∧ v.cell? ⟨w.heap.size + 1 + 1, 1, none⟩ = some (.int .i64 Y) ∧ v.cell? ⟨w.heap.size + 1 + 1 + 1, 0, none⟩ = some (.int .i64 c) ∧ v.cell? ⟨bk, off + K1, none⟩ = some (.int .i64 z)) (f := 4) hmx ?_
  show wpAnyF _ _ _ _ _ _ 5 _ _ U.drew
  refine wpAnyF_take (i := 0) (oi := _) (v := ?vv5) rfl (by kernel_rfl) (by kernel_rfl) (by kernel_rfl) (by kernel_rfl) (by kernel_rfl) (fun _ _ _ h => h) (Or.inl ⟨by rfl, ?yy5⟩) hSd ?rr5
  case yy5 => (intro wq hSq; obtain ⟨_, _, _, _, _, _, _, _⟩ := hSq; go_simp <;> with_reducible rfl)
  try simp only [Act.put]
  refine wpAnyF_take (i := 1) (oi := _) (v := ?vv6) rfl (by kernel_rfl) (by kernel_rfl) (by kernel_rfl) (by kernel_rfl) (by kernel_rfl) (fun _ _ _ h => h) (Or.inl ⟨by rfl, ?yy6⟩) hSd ?rr6
  case yy6 => (intro wq hSq; obtain ⟨_, _, _, _, _, _, _, _⟩ := hSq; go_simp <;> with_reducible rfl)
  try simp only [Act.put]
  refine wpAnyF_take (i := 3) (oi := _) (v := ?vv7) rfl (by kernel_rfl) (by kernel_rfl) (by kernel_rfl) (by kernel_rfl) (by kernel_rfl) (fun _ _ _ h => h) (Or.inl ⟨by rfl, ?yy7⟩) hSd ?rr7
  case yy7 => (intro wq hSq; obtain ⟨_, _, _, _, _, _, _, _⟩ := hSq; go_simp <;> with_reducible rfl)
  try simp only [Act.put]
  refine wpAnyF_one (i := 2) (o := _) (by kernel_rfl) rfl (fun K' hK => ?_)
  rw [if_pos (by rfl)]
  go_simp
  refine (HCO.out _).mono ?_
  rintro e V1 ⟨rfl, hbv⟩
  have hB1 : Below U.heap.size U V1 := hWd.trans (hbv.mono hWd.size)
  have hSd := HS.out _ hB1
  refine hK.out _ _ hSd ?_
  clear hK
  try simp only [Act.put]
  refine wpAnyF_last (o := _) (by kernel_rfl) rfl (fun K' hK => ?_)
  rw [if_pos (by rfl)]
  go_simp
  refine hK.out _ _ ?_
  clear hK
  refine wpAnyF_done (by kernel_rfl) ?_ _
  try simp only [Act.put]
  by_cases hqc : q = c
  · rw [if_pos hqc] at HPV
    have hd : ((q : Int) == (c : Int)) = true := by simp [hqc]
    clear hSd
    have hWd2 : Below U.heap.size U V1.drew := hB1.drew
    have hSd := HS.out _ hWd2
    go_wp2_with fail
    have hmx : Try.prog.follows .mixedOrders = true := by kernel_rfl
    refine wp_region_last (S := fun v : World => v.cell? ⟨w.heap.size, 0, none⟩ = some (.int .i64 W) ∧ v.cell? ⟨w.heap.size, 1, none⟩ = some (.int .i64 H) ∧ v.cell? ⟨w.heap.size, 2, none⟩ = some (.slice (some ⟨bk, off, none⟩) zs.length ca) ∧ v.cell? ⟨w.heap.size + 1, 0, none⟩ = some (.int .i64 p) ∧ v.cell? ⟨w.heap.size + 1 + 1, 0, none⟩ = some (.int .i64 X) ∧ v.cell? ⟨w.heap.size + 1 + 1, 1, none⟩ = some (.int .i64 Y) ∧ v.cell? ⟨w.heap.size + 1 + 1 + 1, 0, none⟩ = some (.int .i64 c) ∧ v.cell? ⟨bk, off + K1, none⟩ = some (.int .i64 z)) (f := 11) hmx ?_
    show wpAnyF _ _ _ _ _ _ 12 _ _ V1.drew
    refine wpAnyF_take (i := 0) (oi := _) (v := ?vv8) rfl (by kernel_rfl) (by kernel_rfl) (by kernel_rfl) (by kernel_rfl) (by kernel_rfl) (fun _ _ _ h => h) (Or.inl ⟨by rfl, ?yy8⟩) hSd ?rr8
    case yy8 => (intro wq hSq; obtain ⟨_, _, _, _, _, _, _, _⟩ := hSq; go_simp <;> with_reducible rfl)
    try simp only [Act.put]
    refine wpAnyF_take (i := 1) (oi := _) (v := ?vv9) rfl (by kernel_rfl) (by kernel_rfl) (by kernel_rfl) (by kernel_rfl) (by kernel_rfl) (fun _ _ _ h => h) (Or.inl ⟨by rfl, ?yy9⟩) hSd ?rr9
    case yy9 => (intro wq hSq; obtain ⟨_, _, _, _, _, _, _, _⟩ := hSq; go_simp <;> with_reducible rfl)
    try simp only [Act.put]
    refine wpAnyF_take (i := 2) (oi := _) (v := ?vv10) rfl (by kernel_rfl) (by kernel_rfl) (by kernel_rfl) (by kernel_rfl) (by kernel_rfl) (fun _ _ _ h => h) (Or.inl ⟨by rfl, ?yy10⟩) hSd ?rr10
    case yy10 => (intro wq hSq; obtain ⟨_, _, _, _, _, _, _, _⟩ := hSq; go_simp <;> with_reducible rfl)
    try simp only [Act.put]
    refine wpAnyF_take (i := 3) (oi := _) (v := ?vv11) rfl (by kernel_rfl) (by kernel_rfl) (by kernel_rfl) (by kernel_rfl) (by kernel_rfl) (fun _ _ _ h => h) (Or.inl ⟨by rfl, ?yy11⟩) hSd ?rr11
    case yy11 => (intro wq hSq; obtain ⟨_, _, _, _, _, _, _, _⟩ := hSq; go_simp <;> with_reducible rfl)
    try simp only [Act.put]
    refine wpAnyF_take (i := 4) (oi := _) (v := ?vv12) rfl (by kernel_rfl) (by kernel_rfl) (by kernel_rfl) (by kernel_rfl) (by kernel_rfl) (fun _ _ _ h => h) (Or.inl ⟨by rfl, ?yy12⟩) hSd ?rr12
    case yy12 => (intro wq hSq; obtain ⟨_, _, _, _, _, _, _, _⟩ := hSq; go_simp <;> with_reducible rfl)
    try simp only [Act.put]
    refine wpAnyF_take (i := 5) (oi := _) (v := ?vv13) rfl (by kernel_rfl) (by kernel_rfl) (by kernel_rfl) (by kernel_rfl) (by kernel_rfl) (fun _ _ _ h => h) (Or.inl ⟨by rfl, ?yy13⟩) hSd ?rr13
    case yy13 => (intro wq hSq; obtain ⟨_, _, _, _, _, _, _, _⟩ := hSq; go_simp <;> with_reducible rfl)
    try simp only [Act.put]
    refine wpAnyF_take (i := 6) (oi := _) (v := ?vv14) rfl (by kernel_rfl) (by kernel_rfl) (by kernel_rfl) (by kernel_rfl) (by kernel_rfl) (fun _ _ _ h => h) (Or.inl ⟨by rfl, ?yy14⟩) hSd ?rr14
    case yy14 => (intro wq hSq; obtain ⟨_, _, _, _, _, _, _, _⟩ := hSq; go_simp <;> with_reducible rfl)
    try simp only [Act.put]
    refine wpAnyF_take (i := 7) (oi := _) (v := ?vv15) rfl (by kernel_rfl) (by kernel_rfl) (by kernel_rfl) (by kernel_rfl) (by kernel_rfl) (fun _ _ _ h => h) (Or.inl ⟨by rfl, ?yy15⟩) hSd ?rr15
    case yy15 => (intro wq hSq; obtain ⟨_, _, _, _, _, _, _, _⟩ := hSq; go_simp <;> with_reducible rfl)
    try simp only [Act.put]
    refine wpAnyF_one (i := 8) (o := _) (by kernel_rfl) rfl (fun K' hK => ?_)
    rw [if_pos (by rfl)]
    go_simp
    refine (HIX.out _).mono ?_
    rintro e V2 ⟨rfl, hbv2⟩
    have hB2 : Below U.heap.size U V2 := hWd2.trans (hbv2.mono hWd2.size)
    have hSd := HS.out _ hB2
    refine hK.out _ _ hSd ?_
    clear hK
    try simp only [Act.put]
    refine wpAnyF_take (i := 9) (oi := _) (v := ?vv16) rfl (by kernel_rfl) (by kernel_rfl) (by kernel_rfl) (by kernel_rfl) (by kernel_rfl) (fun _ _ _ h => h) (Or.inl ⟨by rfl, ?yy16⟩) hSd ?rr16
    case yy16 => (intro wq hSq; obtain ⟨_, _, _, _, _, _, _, _⟩ := hSq; go_simp <;> with_reducible rfl)
    try simp only [Act.put]
    refine wpAnyF_take (i := 10) (oi := _) (v := ?vv17) rfl (by kernel_rfl) (by kernel_rfl) (by kernel_rfl) (by kernel_rfl) (by kernel_rfl) (fun _ _ _ h => h) (Or.inl ⟨by rfl, ?yy17⟩) hSd ?rr17
    case yy17 => (intro wq hSq; obtain ⟨_, _, _, _, _, _, _, _⟩ := hSq; go_simp <;> with_reducible rfl)
    try simp only [Act.put]
    refine wpAnyF_last (o := _) (by kernel_rfl) rfl (fun K' hK => ?_)
    rw [if_pos (by rfl)]
    go_simp
    refine hK.out _ _ ?_
    clear hK
    refine wpAnyF_done (by kernel_rfl) ?_ _
    try simp only [Act.put]
    go_wp2
    go_ret
    exact ⟨ret_int HPV.out.symm, HB.out.trans (hB2.mono HB.out.size)⟩
  · rw [if_neg hqc] at HPV
    have hd : ((q : Int) == (c : Int)) = false := by simpa using fun h : (q : Int) = c => hqc (by omega)
    clear hSd
    have hWd2 : Below U.heap.size U V1.drew := hB1.drew
    have hSd := HS.out _ hWd2
    go_wp2_with fail
    have hmx : Try.prog.follows .mixedOrders = true := by kernel_rfl
    refine wp_region_last (S := fun v : World => v.cell? ⟨w.heap.size, 0, none⟩ = some (.int .i64 W) ∧ v.cell? ⟨w.heap.size, 1, none⟩ = some (.int .i64 H) ∧ v.cell? ⟨w.heap.size, 2, none⟩ = some (.slice (some ⟨bk, off, none⟩) zs.length ca) ∧ v.cell? ⟨w.heap.size + 1, 0, none⟩ = some (.int .i64 p) ∧ v.cell? ⟨w.heap.size + 1 + 1, 0, none⟩ = some (.int .i64 X) ∧ v.cell? ⟨w.heap.size + 1 + 1, 1, none⟩ = some (.int .i64 Y) ∧ v.cell? ⟨w.heap.size + 1 + 1 + 1, 0, none⟩ = some (.int .i64 c) ∧ v.cell? ⟨bk, off + K1, none⟩ = some (.int .i64 z)) (f := 5) hmx ?_
    show wpAnyF _ _ _ _ _ _ 6 _ _ V1.drew
    refine wpAnyF_take (i := 0) (oi := _) (v := ?vv18) rfl (by kernel_rfl) (by kernel_rfl) (by kernel_rfl) (by kernel_rfl) (by kernel_rfl) (fun _ _ _ h => h) (Or.inl ⟨by rfl, ?yy18⟩) hSd ?rr18
    case yy18 => (intro wq hSq; obtain ⟨_, _, _, _, _, _, _, _⟩ := hSq; go_simp <;> with_reducible rfl)
    try simp only [Act.put]
    refine wpAnyF_take (i := 1) (oi := _) (v := ?vv19) rfl (by kernel_rfl) (by kernel_rfl) (by kernel_rfl) (by kernel_rfl) (by kernel_rfl) (fun _ _ _ h => h) (Or.inl ⟨by rfl, ?yy19⟩) hSd ?rr19
    case yy19 => (intro wq hSq; obtain ⟨_, _, _, _, _, _, _, _⟩ := hSq; go_simp <;> with_reducible rfl)
    try simp only [Act.put]
    refine wpAnyF_take (i := 3) (oi := _) (v := ?vv20) rfl (by kernel_rfl) (by kernel_rfl) (by kernel_rfl) (by kernel_rfl) (by kernel_rfl) (fun _ _ _ h => h) (Or.inl ⟨by rfl, ?yy20⟩) hSd ?rr20
    case yy20 => (intro wq hSq; obtain ⟨_, _, _, _, _, _, _, _⟩ := hSq; go_simp <;> with_reducible rfl)
    try simp only [Act.put]
    refine wpAnyF_one (i := 2) (o := _) (by kernel_rfl) rfl (fun K' hK => ?_)
    rw [if_pos (by rfl)]
    go_simp
    refine ((callsIn_wide (n := 3)).1 (around_in Fence.wide _ trivial rfl _ _ _)).mono ?_
    rintro e V2 ⟨rfl, rfl⟩
    have hB2 : Below U.heap.size U (V1.drew.alloc (Obj.cells #[.int .i64 X, .int .i64 Y] 93)) := hWd2.alloc hWd2.size _
    have hSd := HS.out _ hB2
    refine hK.out _ _ hSd ?_
    clear hK
    try simp only [Act.put]
    refine wpAnyF_one (i := 4) (o := _) (by kernel_rfl) rfl (fun K' hK => ?_)
    rw [if_pos (by rfl)]
    go_simp
    have hsU : U.heap.size ≤ V1.heap.size := hWd2.size
    have tB : (V1.drew.alloc (Obj.cells #[.int .i64 X, .int .i64 Y] 93)).heap[V1.drew.heap.size]? = some (.cells #[.int .i64 X, .int .i64 Y] 93 (0, 0)) := al1 V1.drew _
    refine (HMP.out _ (HB.out.trans (hB2.mono HB.out.size)) V1.drew.heap.size (by simp) (by rw [Lib.cell_of_heap tB]; rfl) (by rw [Lib.cell_of_heap tB]; rfl) (by simp; omega) (by simp; omega) hSd.2.2.2.1 hSd.2.2.2.2.2.2.1).mono ?_
    rintro e V3 ⟨rfl, hb3⟩
    have hB3 : Below U.heap.size U V3 := hB2.trans (hb3.mono hB2.size)
    have hSd := HS.out _ hB3
    refine hK.out _ _ hSd ?_
    clear hK
    try simp only [Act.put]
    refine wpAnyF_last (o := _) (by kernel_rfl) rfl (fun K' hK => ?_)
    rw [if_pos (by rfl)]
    go_simp
    refine hK.out _ _ ?_
    clear hK
    refine wpAnyF_done (by kernel_rfl) ?_ _
    try simp only [Act.put]
    go_wp2
    go_ret
    exact ⟨ret_int HPV.out.symm, HB.out.trans (hB3.mono HB.out.size)⟩

end Go.Proofs.Ytolcndchfnifhab
