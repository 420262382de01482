/- sensor: what Repair tells of a place. -/
import Derived.Test.YtolcndchfnifhaaSensorArr
import Derived.Test.YtolcndchfnifhaaMean
import Derived.Test.YtolcndchfnifhaaCross
import Derived.Test.YtolcndchfnifhaaBadMap
import Derived.Test.YtolcndchfnifhaaPlaneAll
import Derived.Test.YtolcndchfnifhaaRegionLast2
import Derived.Laws.EntriesVeiled
namespace Go.Proofs.Ytolcndchfnifhaa
set_option linter.unusedVariables false
open Go.RowKit

def goodB (ls : List Pt) (p : Pt) : Bool := decide (ls.count p = 0)
theorem beq_zero (c : Nat) : ((c : Int) == 0) = decide (c = 0) := by
  by_cases h : c = 0
  · subst h; rfl
  · rw [decide_eq_false h]; simpa using h
theorem ptWf_of {x y : Int} (hx : 0 ≤ x ∧ x ≤ 64) (hy : 0 ≤ y ∧ y ≤ 64) : ptWf (x, y) := ⟨WalkArith.wf_i64 (by omega), WalkArith.wf_i64 (by omega)⟩

set_option maxRecDepth 100000 in
theorem repair1_any (ls : List Pt) (n bm Bv : Nat) (x y : Int) (hx : 0 ≤ x ∧ x ≤ 64) (hy : 0 ≤ y ∧ y ≤ 64) (w : World) (hBv : Bv < w.heap.size) (kb : w.cell? ⟨Bv, 0, none⟩ = some (.map (some bm))) (hm : BadMap w bm n ls) :
    Calls Try.prog 103 #[.agg #[.int .i64 x, .int .i64 y], .pointer (some ⟨Bv, 0, none⟩)] w fun e w' => e = .returned (.bool (goodB ls (x, y))) ∧ Below w.heap.size w w' := by
  have hlk0 := (hm.alloc (Obj.cells #[.int .i64 x, .int .i64 y] 117)).look (x, y) (ptWf_of hx hy)
  have HE := hide (beq_zero (ls.count (x, y)))
  rw [show decide (ls.count (x, y) = 0) = goodB ls (x, y) from rfl] at HE
  obtain ⟨c, hc⟩ : ∃ c, ls.count (x, y) = c := ⟨_, rfl⟩
  rw [hc] at hlk0 HE
  have hlk : (Instr.lookup 122 (.map (some bm)) (.agg #[.int .i64 x, .int .i64 y]) false).run Try.prog (w.alloc (Obj.cells #[.int .i64 x, .int .i64 y] 117)) = .ok (.int .i64 (c : Nat)) (w.alloc (Obj.cells #[.int .i64 x, .int .i64 y] 117)) := hlk0
  have kb1 := ((bel_alloc w (Obj.cells #[.int .i64 x, .int .i64 y] 117)).cell (p := ⟨Bv, 0, none⟩) hBv).trans kb
  clear hlk0 hc kb hm
  go_enter Try.func103, Try.ntmps103
  go_wp2
  go_ret
  exact ⟨ret_bool HE.out, bel_alloc _ _⟩

/-- what Repair has at the place j. -/
def repC (ls : List Pt) (X Y : Nat) (x : Fin 4) : Bool := goodB ls (crX X x, crY Y x)
def repV (zs : List Int) (W H : Nat) (ls : List Pt) (j : Nat) : Int :=
  if goodB ls ((j % W : Nat), (j / W : Nat)) = true then zAt zs j else meanV zs W H (crX (j % W)) (crY (j / W)) (repC ls (j % W) (j / W))

set_option maxRecDepth 100000 in
set_option maxHeartbeats 3200000 in
theorem repair2_any (W H j bk off ca : Nat) (hW1 : 1 ≤ W) (hW : W ≤ 64) (hH1 : 1 ≤ H) (hH : H ≤ 64) (zs : List Int) (hlen : zs.length = H * W) (hzs : allIn 0 65535 zs = true) (hj : j < zs.length) (ls : List Pt) (n bm Bd Bp Bg Bv : Nat) (w : World) (hBp : Bp < w.heap.size) (hBg : Bg < w.heap.size) (hbk : bk < w.heap.size)
    (k0 : w.cell? ⟨Bp, 0, none⟩ = some (.int .i64 W)) (k1 : w.cell? ⟨Bp, 1, none⟩ = some (.int .i64 H)) (k2 : w.cell? ⟨Bp, 2, none⟩ = some (.slice (some ⟨bk, off, none⟩) zs.length ca)) (g0 : w.cell? ⟨Bg, 0, none⟩ = some (.int .i64 W)) (g1 : w.cell? ⟨Bg, 1, none⟩ = some (.int .i64 H)) (hBd : Bd < w.heap.size) (kd : w.cell? ⟨Bd, 0, none⟩ = some (.func (.func 103) #[] #[.pointer (some ⟨Bv, 0, none⟩)])) (hBv : Bv < w.heap.size) (kv : w.cell? ⟨Bv, 0, none⟩ = some (.map (some bm))) (hm : BadMap w bm n ls)
    (hcell : ∀ j, j < zs.length → w.cell? ⟨bk, off + j, none⟩ = some (.int .i64 (zAt zs j))) :
    Calls Try.prog 104 #[.agg #[.int .i64 (j % W : Nat), .int .i64 (j / W : Nat)], .pointer (some ⟨Bd, 0, none⟩), .pointer (some ⟨Bp, 0, none⟩), .pointer (some ⟨Bg, 0, none⟩)] w fun e w' => e = .returned (.int .i64 (repV zs W H ls j)) ∧ Below w.heap.size w w' := by
  have HT := hide (show repV zs W H ls j = if goodB ls ((j % W : Nat), (j / W : Nat)) = true then zAt zs j else meanV zs W H (crX (j % W)) (crY (j / W)) (repC ls (j % W) (j / W)) from rfl)
  generalize repV zs W H ls j = RES at *
  have hl4 : zs.length ≤ 4096 := by rw [hlen]; exact Nat.le_trans (Nat.mul_le_mul hH hW) (by decide)
  have hXW : j % W < W := Nat.mod_lt _ hW1
  have hYH : j / W < H := Nat.div_lt_of_lt_mul (by rw [Nat.mul_comm, ← hlen]; exact hj)
  obtain ⟨X, hX⟩ : ∃ X, j % W = X := ⟨_, rfl⟩
  obtain ⟨Y, hY⟩ : ∃ Y, j / W = Y := ⟨_, rfl⟩
  have hk : Y * W + X = j := by rw [← hX, ← hY, Nat.mul_comm]; exact Nat.div_add_mod j W
  have HIX := hide (fun v => index_any W H X Y W j rfl hk (by omega) v)
  have hcz := hcell j hj
  have hjI : (j : Int) < (zs.length : Int) := by omega
  rw [hX, hY] at HT
  rw [hX] at hXW
  rw [hY] at hYH
  rw [hX, hY]
  obtain ⟨z, hz⟩ : ∃ z, zAt zs j = z := ⟨_, rfl⟩
  rw [hz] at HT hcz
  have HG := hide (fun (u : World) (hu : Below w.heap.size w u) => repair1_any ls n bm Bv X Y (by omega) (by omega) u (Nat.lt_of_lt_of_le hBv hu.size) ((hu.cell (p := ⟨Bv, 0, none⟩) hBv).trans kv) (hm.below hu hm.lt))
  have HMP := hide (fun (u : World) (hu : Below w.heap.size w u) (Bs Bf : Nat) (hBs : Bs < u.heap.size) (hBf : Bf < u.heap.size) (e0 : u.cell? ⟨Bs, 0, none⟩ = some (.int .i64 X)) (e1 : u.cell? ⟨Bs, 1, none⟩ = some (.int .i64 Y)) (e2 : u.cell? ⟨Bf, 0, none⟩ = some (.int .i64 2)) =>
    mean_any 4 W H bk off ca (by omega) hW1 hW hH1 hH zs hlen hzs 125 103 Bs #[.pointer (some ⟨Bf, 0, none⟩), .pointer (some ⟨Bs, 0, none⟩)] #[.pointer (some ⟨Bv, 0, none⟩)] (crX X) (crY Y) (repC ls X Y) u (enters_of Try.func125 (by kernel_rfl) rfl) (enters_of Try.func103 (by kernel_rfl) rfl) hBs (Nat.lt_of_lt_of_le hbk hu.size) (fun j hj => (hu.cell (p := ⟨bk, off + j, none⟩) hbk).trans (hcell j hj))
      (fun V hV => cross_stops Fence.wide (3 - 1) trivial rfl (by omega) Bs Bf X Y (by omega) (by omega) V (Nat.lt_of_lt_of_le hBs hV.size) (Nat.lt_of_lt_of_le hBf hV.size) ((hV.cell (p := ⟨Bf, 0, none⟩) hBf).trans e2) ((hV.cell (p := ⟨Bs, 0, none⟩) hBs).trans e0) ((hV.cell (p := ⟨Bs, 1, none⟩) hBs).trans e1))
      (fun x V hh hV => by
        have hh2 : 0 ≤ crX X x ∧ crX X x < W ∧ 0 ≤ crY Y x ∧ crY Y x < H := by simpa [hasB] using hh
        have hV2 := hu.trans (hV.mono hu.size)
        exact repair1_any ls n bm Bv (crX X x) (crY Y x) (by omega) (by omega) V (Nat.lt_of_lt_of_le hBv hV2.size) ((hV2.cell (p := ⟨Bv, 0, none⟩) hBv).trans kv) (hm.below hV2 hm.lt)))
  have eg1 := enters_of Try.func103 (by kernel_rfl) rfl
  clear hX hY hz hk hlen hcell hzs kv hm
  have HB := hide (bel_alloc w (Obj.cells #[.int .i64 X, .int .i64 Y] 117))
  have a1 := al1 w (Obj.cells #[.int .i64 X, .int .i64 Y] 117)
  have kd1 := (HB.out.cell (p := ⟨Bd, 0, none⟩) hBd).trans kd
  obtain ⟨s0, s1⟩ := bx2 a1
  go_enter Try.func104, Try.ntmps104
  go_wp2_with fail
  have hl1 := (Array.getElem?_eq_some_iff.1 a1).1
  generalize w.alloc (Obj.cells #[.int .i64 X, .int .i64 Y] 117) = U at *
  refine (HG.out _ HB.out).mono ?_
  rintro e V0 ⟨rfl, hb0⟩
  have HS := hide (show ∀ v, Below U.heap.size U v → v.cell? ⟨Bp, 0, none⟩ = some (.int .i64 W) ∧ v.cell? ⟨Bp, 1, none⟩ = some (.int .i64 H) ∧ v.cell? ⟨Bp, 2, none⟩ = some (.slice (some ⟨bk, off, none⟩) zs.length ca) ∧ v.cell? ⟨Bg, 0, none⟩ = some (.int .i64 W) ∧ v.cell? ⟨Bg, 1, none⟩ = some (.int .i64 H) ∧ v.cell? ⟨w.heap.size, 0, none⟩ = some (.int .i64 X) ∧ v.cell? ⟨w.heap.size, 1, none⟩ = some (.int .i64 Y) ∧ v.cell? ⟨bk, off + j, none⟩ = some (.int .i64 z) ∧ v.cell? ⟨Bd, 0, none⟩ = some (.func (.func 103) #[] #[.pointer (some ⟨Bv, 0, none⟩)]) from fun v h => by
    have hw := HB.out.trans (h.mono HB.out.size)
    obtain ⟨y0, y1⟩ := bx2 ((h.block _ hl1).trans a1)
    exact ⟨(hw.cell (p := ⟨Bp, 0, none⟩) hBp).trans k0, (hw.cell (p := ⟨Bp, 1, none⟩) hBp).trans k1, (hw.cell (p := ⟨Bp, 2, none⟩) hBp).trans k2, (hw.cell (p := ⟨Bg, 0, none⟩) hBg).trans g0, (hw.cell (p := ⟨Bg, 1, none⟩) hBg).trans g1, y0, y1, (hw.cell (p := ⟨bk, off + j, none⟩) hbk).trans hcz, (hw.cell (p := ⟨Bd, 0, none⟩) hBd).trans kd⟩)
  clear s0 s1 kd1 k0 k1 k2 g0 g1 kd hcz eg1
  have hWd : Below U.heap.size U V0.drew := hb0.drew
  have hSd := HS.out _ hWd
  by_cases hg : goodB ls ((X : Nat), (Y : Nat)) = true
  · rw [hg]
    rw [if_pos hg] at HT
    go_wp2_with fail
    have hmx : Try.prog.follows .mixedOrders = true := by kernel_rfl
    refine wp_region_last (S := fun v : World => v.cell? ⟨Bp, 0, none⟩ = some (.int .i64 W) ∧ v.cell? ⟨Bp, 1, none⟩ = some (.int .i64 H) ∧ v.cell? ⟨Bp, 2, none⟩ = some (.slice (some ⟨bk, off, none⟩) zs.length ca) ∧ v.cell? ⟨Bg, 0, none⟩ = some (.int .i64 W) ∧ v.cell? ⟨Bg, 1, none⟩ = some (.int .i64 H) ∧ v.cell? ⟨w.heap.size, 0, none⟩ = some (.int .i64 X) ∧ v.cell? ⟨w.heap.size, 1, none⟩ = some (.int .i64 Y) ∧ v.cell? ⟨bk, off + j, none⟩ = some (.int .i64 z) ∧ v.cell? ⟨Bd, 0, none⟩ = some (.func (.func 103) #[] #[.pointer (some ⟨Bv, 0, none⟩)])) (f := 7) hmx ?_
    show wpAnyF _ _ _ _ _ _ 8 _ _ V0.drew
    refine wpAnyF_takeD (i := 0) (oi := _) (v := ?vv1) (some 9) rfl rfl (by kernel_rfl) (by kernel_rfl) (by kernel_rfl) (by kernel_rfl) (by kernel_rfl) (fun _ _ _ h => h) (Or.inl ⟨by rfl, ?yy1⟩) hSd ?rr1
    case yy1 => (intro wq hSq; obtain ⟨_, _, _, _, _, _, _, _, _⟩ := hSq; go_simp <;> with_reducible rfl)
    simp only [Act.put, List.setIfInBounds_toArray, List.set_cons_succ, List.set_cons_zero]
    refine wpAnyF_takeD (i := 2) (oi := _) (v := ?vv2) (some 11) rfl rfl (by kernel_rfl) (by kernel_rfl) (by kernel_rfl) (by kernel_rfl) (by kernel_rfl) (fun _ _ _ h => h) (Or.inl ⟨by rfl, ?yy2⟩) hSd ?rr2
    case yy2 => (intro wq hSq; obtain ⟨_, _, _, _, _, _, _, _, _⟩ := hSq; go_simp <;> with_reducible rfl)
    simp only [Act.put, List.setIfInBounds_toArray, List.set_cons_succ, List.set_cons_zero]
    refine wpAnyF_takeD (i := 3) (oi := _) (v := ?vv3) (some 12) rfl rfl (by kernel_rfl) (by kernel_rfl) (by kernel_rfl) (by kernel_rfl) (by kernel_rfl) (fun _ _ _ h => h) (Or.inl ⟨by rfl, ?yy3⟩) hSd ?rr3
    case yy3 => (intro wq hSq; obtain ⟨_, _, _, _, _, _, _, _, _⟩ := hSq; go_simp <;> with_reducible rfl)
    simp only [Act.put, List.setIfInBounds_toArray, List.set_cons_succ, List.set_cons_zero]
    refine wpAnyF_takeD (i := 1) (oi := _) (v := ?vv4) (some 10) rfl rfl (by kernel_rfl) (by kernel_rfl) (by kernel_rfl) (by kernel_rfl) (by kernel_rfl) (fun _ _ _ h => h) (Or.inl ⟨by rfl, ?yy4⟩) hSd ?rr4
    case yy4 => (intro wq hSq; obtain ⟨_, _, _, _, _, _, _, _, _⟩ := hSq; go_simp <;> with_reducible rfl)
    simp only [Act.put, List.setIfInBounds_toArray, List.set_cons_succ, List.set_cons_zero]
    refine wpAnyF_one (i := 4) (o := _) (by kernel_rfl) rfl (fun K' hK => ?_)
    rw [if_pos (by rfl)]
    go_simp
    refine (HIX.out _).mono ?_
    rintro e V1 ⟨rfl, hbv⟩
    have hB1 : Below U.heap.size U V1 := hWd.trans (hbv.mono hWd.size)
    have hSd := HS.out _ hB1
    refine hK.out _ _ hSd ?_
    clear hK
    try simp only [Act.put]
    refine wpAnyF_takeD (i := 5) (oi := _) (v := ?vv5) (some 14) rfl rfl (by kernel_rfl) (by kernel_rfl) (by kernel_rfl) (by kernel_rfl) (by kernel_rfl) (fun _ _ _ h => h) (Or.inl ⟨by rfl, ?yy5⟩) hSd ?rr5
    case yy5 => (intro wq hSq; obtain ⟨_, _, _, _, _, _, _, _, _⟩ := hSq; go_simp <;> with_reducible rfl)
    simp only [Act.put, List.setIfInBounds_toArray, List.set_cons_succ, List.set_cons_zero]
    refine wpAnyF_takeD (i := 6) (oi := _) (v := ?vv6) (some 15) rfl rfl (by kernel_rfl) (by kernel_rfl) (by kernel_rfl) (by kernel_rfl) (by kernel_rfl) (fun _ _ _ h => h) (Or.inl ⟨by rfl, ?yy6⟩) hSd ?rr6
    case yy6 => (intro wq hSq; obtain ⟨_, _, _, _, _, _, _, _, _⟩ := hSq; go_simp <;> with_reducible rfl)
    simp only [Act.put, List.setIfInBounds_toArray, List.set_cons_succ, List.set_cons_zero]
    refine wpAnyF_last (o := _) (by kernel_rfl) rfl (fun K' hK => ?_)
    rw [if_pos (by rfl)]
    go_simp
    refine hK.out _ _ ?_
    clear hK
    refine wpAnyF_done (by kernel_rfl) ?_ _
    try simp only [Act.put]
    go_wp2
    go_ret
    exact ⟨ret_int HT.out.symm, HB.out.trans (hB1.mono HB.out.size)⟩
  · have hg2 : goodB ls ((X : Nat), (Y : Nat)) = false := by simpa using hg
    rw [hg2]
    rw [if_neg hg] at HT
    go_wp2_with fail
    have hmx : Try.prog.follows .mixedOrders = true := by kernel_rfl
    refine wp_region_last (S := fun v : World => v.cell? ⟨Bp, 0, none⟩ = some (.int .i64 W) ∧ v.cell? ⟨Bp, 1, none⟩ = some (.int .i64 H) ∧ v.cell? ⟨Bp, 2, none⟩ = some (.slice (some ⟨bk, off, none⟩) zs.length ca) ∧ v.cell? ⟨Bg, 0, none⟩ = some (.int .i64 W) ∧ v.cell? ⟨Bg, 1, none⟩ = some (.int .i64 H) ∧ v.cell? ⟨w.heap.size, 0, none⟩ = some (.int .i64 X) ∧ v.cell? ⟨w.heap.size, 1, none⟩ = some (.int .i64 Y) ∧ v.cell? ⟨bk, off + j, none⟩ = some (.int .i64 z) ∧ v.cell? ⟨Bd, 0, none⟩ = some (.func (.func 103) #[] #[.pointer (some ⟨Bv, 0, none⟩)])) (f := 5) hmx ?_
    show wpAnyF _ _ _ _ _ _ 6 _ _ V0.drew
    refine wpAnyF_takeD (i := 0) (oi := _) (v := ?vv7) (some 16) rfl rfl (by kernel_rfl) (by kernel_rfl) (by kernel_rfl) (by kernel_rfl) (by kernel_rfl) (fun _ _ _ h => h) (Or.inl ⟨by rfl, ?yy7⟩) hSd ?rr7
    case yy7 => (intro wq hSq; obtain ⟨_, _, _, _, _, _, _, _, _⟩ := hSq; go_simp <;> with_reducible rfl)
    simp only [Act.put, List.setIfInBounds_toArray, List.set_cons_succ, List.set_cons_zero]
    refine wpAnyF_takeD (i := 1) (oi := _) (v := ?vv8) (some 17) rfl rfl (by kernel_rfl) (by kernel_rfl) (by kernel_rfl) (by kernel_rfl) (by kernel_rfl) (fun _ _ _ h => h) (Or.inl ⟨by rfl, ?yy8⟩) hSd ?rr8
    case yy8 => (intro wq hSq; obtain ⟨_, _, _, _, _, _, _, _, _⟩ := hSq; go_simp <;> with_reducible rfl)
    simp only [Act.put, List.setIfInBounds_toArray, List.set_cons_succ, List.set_cons_zero]
    refine wpAnyF_takeD (i := 3) (oi := _) (v := ?vv9) (some 19) rfl rfl (by kernel_rfl) (by kernel_rfl) (by kernel_rfl) (by kernel_rfl) (by kernel_rfl) (fun _ _ _ h => h) (Or.inl ⟨by rfl, ?yy9⟩) hSd ?rr9
    case yy9 => (intro wq hSq; obtain ⟨_, _, _, _, _, _, _, _, _⟩ := hSq; go_simp <;> with_reducible rfl)
    simp only [Act.put, List.setIfInBounds_toArray, List.set_cons_succ, List.set_cons_zero]
    refine wpAnyF_one (i := 2) (o := _) (by kernel_rfl) rfl (fun K' hK => ?_)
    rw [if_pos (by rfl)]
    go_simp
    refine ((callsIn_wide (n := 3)).1 (cross_in Fence.wide _ trivial rfl _ _ _ _)).mono ?_
    rintro e V2 ⟨rfl, rfl⟩
    have hB2 : Below U.heap.size U ((V0.drew.alloc (Obj.cells #[.int .i64 X, .int .i64 Y] 117)).alloc (Obj.cells #[.int .i64 2] 3)) := (hWd.alloc hWd.size _).alloc (by rw [World.size_alloc]; exact Nat.le_succ_of_le hWd.size) _
    have hSd := HS.out _ hB2
    refine hK.out _ _ hSd ?_
    clear hK
    try simp only [Act.put]
    refine wpAnyF_one (i := 4) (o := _) (by kernel_rfl) rfl (fun K' hK => ?_)
    rw [if_pos (by rfl)]
    go_simp
    have hsU : U.heap.size ≤ V0.heap.size := hWd.size
    obtain ⟨tB, tC⟩ := al2 V0.drew (Obj.cells #[.int .i64 X, .int .i64 Y] 117) (Obj.cells #[.int .i64 2] 3)
    refine (HMP.out _ (HB.out.trans (hB2.mono HB.out.size)) V0.drew.heap.size (V0.drew.heap.size + 1) (by rw [World.size_alloc, World.size_alloc]; omega) (by rw [World.size_alloc, World.size_alloc]; omega) (by rw [Lib.cell_of_heap tB]; rfl) (by rw [Lib.cell_of_heap tB]; rfl) (by rw [Lib.cell_of_heap tC]; rfl)).mono ?_
    rintro e V3 ⟨rfl, hb3⟩
    have hB3 : Below U.heap.size U V3 := hB2.trans (hb3.mono hB2.size)
    have hSd := HS.out _ hB3
    refine hK.out _ _ hSd ?_
    clear hK
    try simp only [Act.put]
    refine wpAnyF_last (o := _) (by kernel_rfl) rfl (fun K' hK => ?_)
    rw [if_pos (by rfl)]
    go_simp
    refine hK.out _ _ ?_
    clear hK
    refine wpAnyF_done (by kernel_rfl) ?_ _
    try simp only [Act.put]
    go_wp2
    go_ret
    exact ⟨ret_int HT.out.symm, HB.out.trans (hB3.mono HB.out.size)⟩

end Go.Proofs.Ytolcndchfnifhaa
