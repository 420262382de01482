/- mosaic.Fill. -/
import Derived.Test.YtolcndchfnifhabMosaicPart
import Derived.Test.YtolcndchfnifhabMixAll
namespace Go.Proofs.Ytolcndchfnifhab
set_option linter.unusedVariables false
open Go.RowKit

def fillP (zs : List Int) (W H p j : Nat) : Px := (partV zs W H p (j % W) (j / W) 0, partV zs W H p (j % W) (j / W) 1, partV zs W H p (j % W) (j / W) 2)

set_option maxRecDepth 100000 in
set_option maxHeartbeats 1600000 in
theorem fill1_any (W H p j bk off ca : Nat) (hW1 : 1 ≤ W) (hW : W ≤ 64) (hH1 : 1 ≤ H) (hH : H ≤ 64) (hp : p ≤ 3) (zs : List Int) (hlen : zs.length = H * W) (hzs : allIn 0 65535 zs = true) (hj : j < zs.length) (Bp Bh : Nat) (w : World) (hBp : Bp < w.heap.size) (hBh : Bh < w.heap.size) (hbk : bk < w.heap.size)
    (k0 : w.cell? ⟨Bp, 0, none⟩ = some (.int .i64 W)) (k1 : w.cell? ⟨Bp, 1, none⟩ = some (.int .i64 H)) (k2 : w.cell? ⟨Bp, 2, none⟩ = some (.slice (some ⟨bk, off, none⟩) zs.length ca)) (k3 : w.cell? ⟨Bh, 0, none⟩ = some (.int .i64 p))
    (hcell : ∀ j, j < zs.length → w.cell? ⟨bk, off + j, none⟩ = some (.int .i64 (zAt zs j))) :
    Calls Try.prog 66 #[.agg #[.int .i64 (j % W : Nat), .int .i64 (j / W : Nat)], .pointer (some ⟨Bp, 0, none⟩), .pointer (some ⟨Bh, 0, none⟩)] w fun e w' => e = .returned (pixV (fillP zs W H p j)) ∧ Below w.heap.size w w' := by
  have hXW : j % W < W := Nat.mod_lt _ (by omega)
  have hYH : j / W < H := by rw [hlen] at hj; exact Nat.div_lt_of_lt_mul (by rw [Nat.mul_comm]; exact hj)
  have HF := hide (show fillP zs W H p j = (partV zs W H p (j % W) (j / W) 0, partV zs W H p (j % W) (j / W) 1, partV zs W H p (j % W) (j / W) 2) from rfl)
  generalize fillP zs W H p j = RES at *
  obtain ⟨X, hX⟩ : ∃ X, j % W = X := ⟨_, rfl⟩
  obtain ⟨Y, hY⟩ : ∃ Y, j / W = Y := ⟨_, rfl⟩
  rw [hX] at hXW
  rw [hY] at hYH
  rw [hX, hY] at HF
  rw [hX, hY]
  clear hX hY
  have HPA := hide (fun (c : Nat) (v : World) (hv : Below w.heap.size w v) => part_any W H p X Y c bk off ca hW1 hW hH1 hH hp hXW hYH zs hlen hzs v (Nat.lt_of_lt_of_le hbk hv.size) (fun j hj => (hv.cell (p := ⟨bk, off + j, none⟩) hbk).trans (hcell j hj)))
  obtain ⟨r0, hr0⟩ : ∃ r, partV zs W H p X Y 0 = r := ⟨_, rfl⟩
  obtain ⟨r1, hr1⟩ : ∃ r, partV zs W H p X Y 1 = r := ⟨_, rfl⟩
  obtain ⟨r2, hr2⟩ : ∃ r, partV zs W H p X Y 2 = r := ⟨_, rfl⟩
  have HP0 := hide (HPA.out 0)
  have HP1 := hide (HPA.out 1)
  have HP2 := hide (HPA.out 2)
  rw [hr0] at HP0 HF
  rw [hr1] at HP1 HF
  rw [hr2] at HP2 HF
  clear HPA hr0 hr1 hr2 hcell hlen hzs
  have HB := hide (be2 w (Obj.cells #[.int .i64 X, .int .i64 Y] 93) (Obj.cells #[.int .i64 0, .int .i64 0, .int .i64 0] 50))
  obtain ⟨a1, a2⟩ := al2 w (Obj.cells #[.int .i64 X, .int .i64 Y] 93) (Obj.cells #[.int .i64 0, .int .i64 0, .int .i64 0] 50)
  go_enter Try.func66, Try.ntmps66
  go_wp2_with fail
  have hl1 := (Array.getElem?_eq_some_iff.1 a1).1
  have hl2 := (Array.getElem?_eq_some_iff.1 a2).1
  generalize (w.alloc (Obj.cells #[.int .i64 X, .int .i64 Y] 93)).alloc (Obj.cells #[.int .i64 0, .int .i64 0, .int .i64 0] 50) = U at *
  have HS := hide (show ∀ v, Below U.heap.size U v → v.cell? ⟨Bp, 0, none⟩ = some (.int .i64 W) ∧ v.cell? ⟨Bp, 1, none⟩ = some (.int .i64 H) ∧ v.cell? ⟨Bp, 2, none⟩ = some (.slice (some ⟨bk, off, none⟩) zs.length ca) ∧ v.cell? ⟨Bh, 0, none⟩ = some (.int .i64 p) ∧ v.cell? ⟨w.heap.size, 0, none⟩ = some (.int .i64 X) ∧ v.cell? ⟨w.heap.size, 1, none⟩ = some (.int .i64 Y) from fun v h => by
    have hw := HB.out.trans (h.mono HB.out.size)
    have t := (h.block _ hl1).trans a1
    exact ⟨(hw.cell (p := ⟨Bp, 0, none⟩) hBp).trans k0, (hw.cell (p := ⟨Bp, 1, none⟩) hBp).trans k1, (hw.cell (p := ⟨Bp, 2, none⟩) hBp).trans k2, (hw.cell (p := ⟨Bh, 0, none⟩) hBh).trans k3, by rw [Lib.cell_of_heap t]; rfl, by rw [Lib.cell_of_heap t]; rfl⟩)
  have hWd : Below U.heap.size U U.drew := (Below.refl _ _).drew
  have hSd := HS.out _ hWd
  have hmx : Try.prog.follows .mixedOrders = true := by kernel_rfl
  refine wp_region_last (S := fun v : World => v.cell? ⟨Bp, 0, none⟩ = some (.int .i64 W) ∧ v.cell? ⟨Bp, 1, none⟩ = some (.int .i64 H) ∧ v.cell? ⟨Bp, 2, none⟩ = some (.slice (some ⟨bk, off, none⟩) zs.length ca) ∧ v.cell? ⟨Bh, 0, none⟩ = some (.int .i64 p) ∧ v.cell? ⟨w.heap.size, 0, none⟩ = some (.int .i64 X) ∧ v.cell? ⟨w.heap.size, 1, none⟩ = some (.int .i64 Y)) (f := 13) hmx ?_
  show wpAnyF _ _ _ _ _ _ 14 _ _ U.drew
  refine wpAnyF_take (i := 0) (oi := _) (v := ?vv1) rfl (by kernel_rfl) (by kernel_rfl) (by kernel_rfl) (by kernel_rfl) (by kernel_rfl) (fun _ _ _ h => h) (Or.inl ⟨by rfl, ?yy1⟩) hSd ?rr1
  case yy1 => (intro wq hSq; obtain ⟨_, _, _, _, _, _⟩ := hSq; go_simp <;> with_reducible rfl)
  try simp only [Act.put]
  refine wpAnyF_take (i := 1) (oi := _) (v := ?vv2) rfl (by kernel_rfl) (by kernel_rfl) (by kernel_rfl) (by kernel_rfl) (by kernel_rfl) (fun _ _ _ h => h) (Or.inl ⟨by rfl, ?yy2⟩) hSd ?rr2
  case yy2 => (intro wq hSq; obtain ⟨_, _, _, _, _, _⟩ := hSq; go_simp <;> with_reducible rfl)
  try simp only [Act.put]
  refine wpAnyF_take (i := 2) (oi := _) (v := ?vv3) rfl (by kernel_rfl) (by kernel_rfl) (by kernel_rfl) (by kernel_rfl) (by kernel_rfl) (fun _ _ _ h => h) (Or.inl ⟨by rfl, ?yy3⟩) hSd ?rr3
  case yy3 => (intro wq hSq; obtain ⟨_, _, _, _, _, _⟩ := hSq; go_simp <;> with_reducible rfl)
  try simp only [Act.put]
  refine wpAnyF_take (i := 4) (oi := _) (v := ?vv4) rfl (by kernel_rfl) (by kernel_rfl) (by kernel_rfl) (by kernel_rfl) (by kernel_rfl) (fun _ _ _ h => h) (Or.inl ⟨by rfl, ?yy4⟩) hSd ?rr4
  case yy4 => (intro wq hSq; obtain ⟨_, _, _, _, _, _⟩ := hSq; go_simp <;> with_reducible rfl)
  try simp only [Act.put]
  refine wpAnyF_take (i := 5) (oi := _) (v := ?vv5) rfl (by kernel_rfl) (by kernel_rfl) (by kernel_rfl) (by kernel_rfl) (by kernel_rfl) (fun _ _ _ h => h) (Or.inl ⟨by rfl, ?yy5⟩) hSd ?rr5
  case yy5 => (intro wq hSq; obtain ⟨_, _, _, _, _, _⟩ := hSq; go_simp <;> with_reducible rfl)
  try simp only [Act.put]
  refine wpAnyF_take (i := 6) (oi := _) (v := ?vv6) rfl (by kernel_rfl) (by kernel_rfl) (by kernel_rfl) (by kernel_rfl) (by kernel_rfl) (fun _ _ _ h => h) (Or.inl ⟨by rfl, ?yy6⟩) hSd ?rr6
  case yy6 => (intro wq hSq; obtain ⟨_, _, _, _, _, _⟩ := hSq; go_simp <;> with_reducible rfl)
  try simp only [Act.put]
  refine wpAnyF_take (i := 8) (oi := _) (v := ?vv7) rfl (by kernel_rfl) (by kernel_rfl) (by kernel_rfl) (by kernel_rfl) (by kernel_rfl) (fun _ _ _ h => h) (Or.inl ⟨by rfl, ?yy7⟩) hSd ?rr7
  case yy7 => (intro wq hSq; obtain ⟨_, _, _, _, _, _⟩ := hSq; go_simp <;> with_reducible rfl)
  try simp only [Act.put]
  refine wpAnyF_take (i := 9) (oi := _) (v := ?vv8) rfl (by kernel_rfl) (by kernel_rfl) (by kernel_rfl) (by kernel_rfl) (by kernel_rfl) (fun _ _ _ h => h) (Or.inl ⟨by rfl, ?yy8⟩) hSd ?rr8
  case yy8 => (intro wq hSq; obtain ⟨_, _, _, _, _, _⟩ := hSq; go_simp <;> with_reducible rfl)
  try simp only [Act.put]
  refine wpAnyF_take (i := 10) (oi := _) (v := ?vv9) rfl (by kernel_rfl) (by kernel_rfl) (by kernel_rfl) (by kernel_rfl) (by kernel_rfl) (fun _ _ _ h => h) (Or.inl ⟨by rfl, ?yy9⟩) hSd ?rr9
  case yy9 => (intro wq hSq; obtain ⟨_, _, _, _, _, _⟩ := hSq; go_simp <;> with_reducible rfl)
  try simp only [Act.put]
  refine wpAnyF_one (i := 3) (o := _) (by kernel_rfl) rfl (fun K' hK => ?_)
  rw [if_pos (by rfl)]
  go_simp
  refine (HP0.out _ (HB.out.trans (hWd.mono HB.out.size))).mono ?_
  rintro e V0 ⟨rfl, hbv0⟩
  have hB0 : Below U.heap.size U V0 := hWd.trans (hbv0.mono hWd.size)
  have hSd := HS.out _ hB0
  refine hK.out _ _ hSd ?_
  clear hK
  try simp only [Act.put]
  refine wpAnyF_one (i := 7) (o := _) (by kernel_rfl) rfl (fun K' hK => ?_)
  rw [if_pos (by rfl)]
  go_simp
  refine (HP1.out _ (HB.out.trans (hB0.mono HB.out.size))).mono ?_
  rintro e V1 ⟨rfl, hbv1⟩
  have hB1 : Below U.heap.size U V1 := hB0.trans (hbv1.mono hB0.size)
  have hSd := HS.out _ hB1
  refine hK.out _ _ hSd ?_
  clear hK
  try simp only [Act.put]
  refine wpAnyF_one (i := 11) (o := _) (by kernel_rfl) rfl (fun K' hK => ?_)
  rw [if_pos (by rfl)]
  go_simp
  refine (HP2.out _ (HB.out.trans (hB1.mono HB.out.size))).mono ?_
  rintro e V2 ⟨rfl, hbv2⟩
  have hB2 : Below U.heap.size U V2 := hB1.trans (hbv2.mono hB1.size)
  have hSd := HS.out _ hB2
  refine hK.out _ _ hSd ?_
  clear hK
  try simp only [Act.put]
  refine wpAnyF_take (i := 12) (oi := _) (v := ?vv10) rfl (by kernel_rfl) (by kernel_rfl) (by kernel_rfl) (by kernel_rfl) (by kernel_rfl) (fun _ _ _ h => h) (Or.inl ⟨by rfl, ?yy10⟩) hSd ?rr10
  case yy10 => (intro wq hSq; obtain ⟨_, _, _, _, _, _⟩ := hSq; go_simp <;> with_reducible rfl)
  try simp only [Act.put]
  have gR := (hB2.block (w.heap.size + 1) hl2).trans a2
  obtain ⟨z0, z1, z2⟩ := cells3 gR
  have f0 := Lib.frozen_of_heap gR 0
  have f1 := Lib.frozen_of_heap gR 1
  have f2 := Lib.frozen_of_heap gR 2
  refine wpAnyF_last (o := _) (by kernel_rfl) rfl (fun K' hK => ?_)
  rw [if_pos (by rfl)]
  go_simp
  refine hK.out _ _ ?_
  clear hK
  refine wpAnyF_done (by kernel_rfl) ?_ _
  try simp only [Act.put]
  have HFIN := hide (set3_below (HB.out.trans (hB2.mono HB.out.size)) (show w.heap.size ≤ w.heap.size + 1 by omega) (.int .i64 r0) (.int .i64 r1) (.int .i64 r2))
  go_wp2
  exact bodyPost_ret (v := .agg #[.int .i64 r0, .int .i64 r1, .int .i64 r2]) (by simp [results, Try.results66, go_sem, z0, z1, z2]) rfl ⟨by rw [HF.out], HFIN.out⟩

def fillE (W H : Int) (zs : List Int) (phase : Int) : Int := if planeOk W H zs = true then (if phaseOk phase = true then 0 else 3) else 1
def fillL (W H : Int) (zs : List Int) (phase : Int) : List Px := (List.range zs.length).map (fillP zs W.toNat H.toNat phase.toNat)

theorem planeOk_all {W H : Int} {zs : List Int} (h : planeOk W H zs = true) : allIn 0 65535 zs = true := by
  rw [planeOk_eq, Bool.and_eq_true] at h
  exact h.2

theorem IsInts.cells {w : World} {v : Value} {zs : List Int} (h : IsInts w v zs) (hn : 1 ≤ zs.length) : ∃ bk off ca, v = .slice (some ⟨bk, off, none⟩) zs.length ca ∧ bk < w.heap.size ∧ ∀ j, j < zs.length → w.cell? ⟨bk, off + j, none⟩ = some (.int .i64 (zAt zs j)) := by
  obtain ⟨ao, ca, rfl, _, h⟩ := h
  rcases h with h | ⟨b, off, rfl, hlt, hc⟩
  · subst h; simp at hn
  · exact ⟨b, off, ca, rfl, hlt, fun j hj => by rw [hc j hj, zAt_get zs j hj]⟩
theorem bx1 {w : World} {b : Nat} {x : Value} {t : TypeId} {fr : Nat × Nat} (h : w.heap[b]? = some (.cells #[x] t fr)) : w.cell? ⟨b, 0, none⟩ = some x := by rw [Lib.cell_of_heap h]; rfl
theorem bx2 {w : World} {b : Nat} {x y : Value} {t : TypeId} {fr : Nat × Nat} (h : w.heap[b]? = some (.cells #[x, y] t fr)) : w.cell? ⟨b, 0, none⟩ = some x ∧ w.cell? ⟨b, 1, none⟩ = some y := ⟨by rw [Lib.cell_of_heap h]; rfl, by rw [Lib.cell_of_heap h]; rfl⟩

set_option maxRecDepth 100000 in
set_option maxHeartbeats 1600000 in
theorem fill_any (W H : Int) (v : Value) (zs : List Int) (phase : Int) (w : World) (hv : IsInts w v zs) :
    Calls Try.prog 22 #[.agg #[.int .i64 W, .int .i64 H, v], .int .i64 phase] w fun e w' => ∃ r, e = .returned (.tuple #[.agg #[.int .i64 (okW (fillE W H zs phase) W), .int .i64 (okW (fillE W H zs phase) H), r], .int .i64 (fillE W H zs phase)]) ∧ IsPix w' r (okL (fillE W H zs phase) (fillL W H zs phase)) ∧ Below w.heap.size w w' ∧ Fresh w.heap.size r := by
  have HV := hide hv
  obtain ⟨E, hE⟩ : ∃ E, fillE W H zs phase = E := ⟨_, rfl⟩
  rw [hE]
  by_cases hp : planeOk W H zs = true
  · by_cases hph : phaseOk phase = true
    · have he : E = 0 := by rw [← hE, fillE, if_pos hp, if_pos hph]
      subst he
      clear hE
      obtain ⟨⟨w1, w2⟩, ⟨h1, h2⟩, hl, _⟩ := planeOk_parts hp
      have hz := planeOk_all hp
      have hph2 : 0 ≤ phase ∧ phase ≤ 3 := by simpa [phaseOk] using hph
      have hsm := side_mul ⟨w1, w2⟩ ⟨h1, h2⟩
      have hn1 : 1 ≤ zs.length := by omega
      obtain ⟨bk, off, ca, rfl, hbk, hcell⟩ := hv.cells hn1
      obtain ⟨WN, rfl⟩ := Int.eq_ofNat_of_zero_le (show 0 ≤ W by omega)
      obtain ⟨HN, rfl⟩ := Int.eq_ofNat_of_zero_le (show 0 ≤ H by omega)
      obtain ⟨PN, rfl⟩ := Int.eq_ofNat_of_zero_le hph2.1
      have HLEN := hide (show zs.length = HN * WN by rw [Nat.mul_comm]; exact_mod_cast hl)
      have HZ := hide hz
      have HC := hide hcell
      rw [show okW 0 (WN : Int) = WN from rfl, show okW 0 (HN : Int) = HN from rfl, show okL 0 (fillL (WN : Int) (HN : Int) zs (PN : Int)) = (List.range zs.length).map (fillP zs WN HN PN) from rfl]
      clear hl hz hcell hsm hv
      go_enter Try.func22, Try.ntmps22
      go_wp2_with fail
      obtain ⟨a1, a2, a3⟩ := al3 w (Obj.cells #[.int .i64 (WN : Nat), .int .i64 (HN : Nat), .slice (some ⟨bk, off, none⟩) zs.length ca] 24) (Obj.cells #[.int .i64 (PN : Nat)] 3) (Obj.cells #[.int .i64 0, .int .i64 0, .slice none 0 0] 39)
      have hB := be3 w (Obj.cells #[.int .i64 (WN : Nat), .int .i64 (HN : Nat), .slice (some ⟨bk, off, none⟩) zs.length ca] 24) (Obj.cells #[.int .i64 (PN : Nat)] 3) (Obj.cells #[.int .i64 0, .int .i64 0, .slice none 0 0] 39)
      have hs3 : (((w.alloc (Obj.cells #[.int .i64 (WN : Nat), .int .i64 (HN : Nat), .slice (some ⟨bk, off, none⟩) zs.length ca] 24)).alloc (Obj.cells #[.int .i64 (PN : Nat)] 3)).alloc (Obj.cells #[.int .i64 0, .int .i64 0, .slice none 0 0] 39)).heap.size = w.heap.size + 3 := by simp
      generalize ((w.alloc (Obj.cells #[.int .i64 (WN : Nat), .int .i64 (HN : Nat), .slice (some ⟨bk, off, none⟩) zs.length ca] 24)).alloc (Obj.cells #[.int .i64 (PN : Nat)] 3)).alloc (Obj.cells #[.int .i64 0, .int .i64 0, .slice none 0 0] 39) = U at *
      refine (plane_any WN HN _ zs _ (HV.out.below hB (Nat.le_refl _))).mono ?_
      rintro e w1 ⟨rfl, hb1⟩
      rw [hp]
      have g2 := bx1 ((hb1.block (w.heap.size + 1) (by omega)).trans a2)
      have g3 := (hb1.block (w.heap.size + 1 + 1) (by omega)).trans a3
      go_wp2_with fail
      refine (phase_any _ _).mono ?_
      rintro e w2 ⟨rfl, hb2⟩
      rw [hph]
      clear g2
      replace hb2 := bel_trans hb1 hb2
      replace g3 := (hb2.block (w.heap.size + 1 + 1) (by omega)).trans a3
      obtain ⟨p0, p1, p2⟩ := cells3 ((hb2.block (w.heap.size) (by omega)).trans a1)
      go_wp2_with fail
      have hbG := bel_trans hb2 (bel_alloc w2 (Obj.cells #[.int .i64 (WN : Nat), .int .i64 (HN : Nat)] 91))
      have hs2 := hb2.size
      clear p0 p1 p2
      generalize w2.alloc (Obj.cells #[.int .i64 (WN : Nat), .int .i64 (HN : Nat)] 91) = w2g at *
      refine (gridPicture_any WN HN zs.length (by omega) (by omega) HLEN.out 66 #[.pointer (some ⟨w.heap.size, 0, none⟩), .pointer (some ⟨w.heap.size + 1, 0, none⟩)] (fillP zs WN HN PN) _ (enters_of Try.func66 (by kernel_rfl) rfl) ?_).mono ?_
      · intro j V hj hV
        have hb3 := bel_trans hbG hV
        have hbw := hB.trans (hb3.mono hB.size)
        obtain ⟨e0, e1, e2⟩ := cells3 ((hb3.block (w.heap.size) (by omega)).trans a1)
        have e3 := bx1 ((hb3.block (w.heap.size + 1) (by omega)).trans a2)
        have hs := hb3.size
        exact fill1_any WN HN PN j bk off ca (by omega) (by omega) (by omega) (by omega) (by omega) zs HLEN.out HZ.out hj w.heap.size (w.heap.size + 1) V (by omega) (by omega) (Nat.lt_of_lt_of_le hbk hbw.size) e0 e1 e2 e3 (fun i hi => (hbw.cell (p := ⟨bk, off + i, none⟩) hbk).trans (HC.out i hi))
      · rintro e w3 ⟨r, rfl, hr, hb3, hfr⟩
        replace hb3 := bel_trans hbG hb3
        replace g3 := (hb3.block (w.heap.size + 1 + 1) (by omega)).trans a3
        obtain ⟨z0, z1, z2⟩ := cells3 g3
        have f0 := Lib.frozen_of_heap g3 0
        have f1 := Lib.frozen_of_heap g3 1
        have f2 := Lib.frozen_of_heap g3 2
        have HR := hide hr
        obtain ⟨ro, rc, rfl, _, _⟩ := hr
        have HFIN := hide (set3_below (hB.trans (hb3.mono hB.size)) (show w.heap.size ≤ w.heap.size + 1 + 1 by omega) (.int .i64 (WN : Nat)) (.int .i64 (HN : Nat)) (.slice ro ((List.range zs.length).map (fillP zs WN HN PN)).length rc))
        have hsG := hbG.size
        have HPX2 := hide (HR.out.set3 hfr (show w.heap.size + 1 + 1 < w2g.heap.size by omega) (.int .i64 (WN : Nat)) (.int .i64 (HN : Nat)) (.slice ro ((List.range zs.length).map (fillP zs WN HN PN)).length rc))
        rw [List.length_map, List.length_range] at HPX2 HFIN hfr
        rw [List.length_map, List.length_range]
        go_wp2
        exact bodyPost_ret (v := .tuple #[.agg #[.int .i64 (WN : Nat), .int .i64 (HN : Nat), .slice ro zs.length rc], .int .i64 0]) (by simp [results, Try.results22, go_sem, z0, z1, z2]) rfl ⟨_, rfl, HPX2.out, HFIN.out, hfr.mono (by omega)⟩
    · have he : E = 3 := by rw [← hE, fillE, if_pos hp, if_neg hph]
      have hph : phaseOk phase = false := by simpa using hph
      subst he
      clear hE
      obtain ⟨ao, ca, rfl, _, _⟩ := hv
      go_enter Try.func22, Try.ntmps22
      go_wp2_with fail
      obtain ⟨a1, a2, a3⟩ := al3 w (Obj.cells #[.int .i64 W, .int .i64 H, .slice ao zs.length ca] 24) (Obj.cells #[.int .i64 phase] 3) (Obj.cells #[.int .i64 0, .int .i64 0, .slice none 0 0] 39)
      have hB := be3 w (Obj.cells #[.int .i64 W, .int .i64 H, .slice ao zs.length ca] 24) (Obj.cells #[.int .i64 phase] 3) (Obj.cells #[.int .i64 0, .int .i64 0, .slice none 0 0] 39)
      have hs3 : (((w.alloc (Obj.cells #[.int .i64 W, .int .i64 H, .slice ao zs.length ca] 24)).alloc (Obj.cells #[.int .i64 phase] 3)).alloc (Obj.cells #[.int .i64 0, .int .i64 0, .slice none 0 0] 39)).heap.size = w.heap.size + 3 := by simp
      generalize ((w.alloc (Obj.cells #[.int .i64 W, .int .i64 H, .slice ao zs.length ca] 24)).alloc (Obj.cells #[.int .i64 phase] 3)).alloc (Obj.cells #[.int .i64 0, .int .i64 0, .slice none 0 0] 39) = U at *
      refine (plane_any W H _ zs _ (HV.out.below hB (Nat.le_refl _))).mono ?_
      rintro e w1 ⟨rfl, hb1⟩
      rw [hp]
      have g2 := bx1 ((hb1.block (w.heap.size + 1) (by omega)).trans a2)
      have g3 := (hb1.block (w.heap.size + 1 + 1) (by omega)).trans a3
      go_wp2_with fail
      refine (phase_any _ _).mono ?_
      rintro e w2 ⟨rfl, hb2⟩
      rw [hph]
      clear g2
      replace hb2 := bel_trans hb1 hb2
      replace g3 := (hb2.block (w.heap.size + 1 + 1) (by omega)).trans a3
      obtain ⟨z0, z1, z2⟩ := cells3 g3
      have f0 := Lib.frozen_of_heap g3 0
      have f1 := Lib.frozen_of_heap g3 1
      have f2 := Lib.frozen_of_heap g3 2
      have HFIN := hide (set3_below (hB.trans (hb2.mono hB.size)) (show w.heap.size ≤ w.heap.size + 1 + 1 by omega) (.int .i64 0) (.int .i64 0) (.slice none 0 0))
      go_wp2
      exact bodyPost_ret (v := .tuple #[.agg #[.int .i64 0, .int .i64 0, .slice none 0 0], .int .i64 3]) (by simp [results, Try.results22, go_sem, z0, z1, z2]) rfl ⟨.slice none 0 0, rfl, IsPix.nil _, HFIN.out, Fresh.nil _⟩
  · have he : E = 1 := by rw [← hE, fillE, if_neg hp]
    have hp : planeOk W H zs = false := by simpa using hp
    subst he
    clear hE
    obtain ⟨ao, ca, rfl, _, _⟩ := hv
    go_enter Try.func22, Try.ntmps22
    go_wp2_with fail
    obtain ⟨a1, a2, a3⟩ := al3 w (Obj.cells #[.int .i64 W, .int .i64 H, .slice ao zs.length ca] 24) (Obj.cells #[.int .i64 phase] 3) (Obj.cells #[.int .i64 0, .int .i64 0, .slice none 0 0] 39)
    have hB := be3 w (Obj.cells #[.int .i64 W, .int .i64 H, .slice ao zs.length ca] 24) (Obj.cells #[.int .i64 phase] 3) (Obj.cells #[.int .i64 0, .int .i64 0, .slice none 0 0] 39)
    have hs3 : (((w.alloc (Obj.cells #[.int .i64 W, .int .i64 H, .slice ao zs.length ca] 24)).alloc (Obj.cells #[.int .i64 phase] 3)).alloc (Obj.cells #[.int .i64 0, .int .i64 0, .slice none 0 0] 39)).heap.size = w.heap.size + 3 := by simp
    generalize ((w.alloc (Obj.cells #[.int .i64 W, .int .i64 H, .slice ao zs.length ca] 24)).alloc (Obj.cells #[.int .i64 phase] 3)).alloc (Obj.cells #[.int .i64 0, .int .i64 0, .slice none 0 0] 39) = U at *
    refine (plane_any W H _ zs _ (HV.out.below hB (Nat.le_refl _))).mono ?_
    rintro e w1 ⟨rfl, hb1⟩
    rw [hp]
    have g2 := bx1 ((hb1.block (w.heap.size + 1) (by omega)).trans a2)
    have g3 := (hb1.block (w.heap.size + 1 + 1) (by omega)).trans a3
    generalize w1 = w2 at *
    have hb2 := hb1
    obtain ⟨z0, z1, z2⟩ := cells3 g3
    have f0 := Lib.frozen_of_heap g3 0
    have f1 := Lib.frozen_of_heap g3 1
    have f2 := Lib.frozen_of_heap g3 2
    have HFIN := hide (set3_below (hB.trans (hb2.mono hB.size)) (show w.heap.size ≤ w.heap.size + 1 + 1 by omega) (.int .i64 0) (.int .i64 0) (.slice none 0 0))
    go_wp2
    exact bodyPost_ret (v := .tuple #[.agg #[.int .i64 0, .int .i64 0, .slice none 0 0], .int .i64 1]) (by simp [results, Try.results22, go_sem, z0, z1, z2]) rfl ⟨.slice none 0 0, rfl, IsPix.nil _, HFIN.out, Fresh.nil _⟩

end Go.Proofs.Ytolcndchfnifhab
