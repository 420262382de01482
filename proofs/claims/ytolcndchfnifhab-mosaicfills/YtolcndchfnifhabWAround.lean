/- tone.weighedAround. -/
import Derived.Test.YtolcndchfnifhabWSum
import Derived.Test.YtolcndchfnifhabEach
namespace Go.Proofs.Ytolcndchfnifhab
open Go.RowKit Go.Shelf

attribute [local go_sem] Oper.semAt_some

theorem bcell {W w1 : World} (hb : Below W.heap.size W w1) : (∀ b o, b < W.heap.size → w1.cell? ⟨b, o, none⟩ = W.cell? ⟨b, o, none⟩) ∧ (∀ b o, b < W.heap.size → w1.frozen? ⟨b, o, none⟩ = W.frozen? ⟨b, o, none⟩) :=
  ⟨fun b o h => hb.cell (p := ⟨b, o, none⟩) h, fun b o h => hb.frozen (p := ⟨b, o, none⟩) h⟩

theorem wp_cut {P : Program} {c : Code} {Q : Exit → Act → World → Prop} {a : Act} {w : World} (R : Act → World → Prop) (h1 : c.wp P (Exit.then R Q) a w) (h2 : ∀ a' w', R a' w' → Q .normal a' w') : c.wp P Q a w :=
  wp_mono h1 fun e a' w' h => by
    cases e with
    | normal => exact h2 a' w' h
    | _ => exact h

set_option maxRecDepth 100000 in
set_option maxHeartbeats 4000000 in
theorem weighedAround_any (W H X Y bk off ca : Nat) (hW1 : 1 ≤ W) (hW : W ≤ 64) (hH1 : 1 ≤ H) (hH : H ≤ 64) (hX : X < W) (hY : Y < H) (ps : List Px) (hlen : ps.length = H * W) (hps : pxsOk ps = true) (w : World)
    (hbk : bk < w.heap.size) (hcell : ∀ j, j < ps.length → w.cell? ⟨bk, off + j * 3, none⟩ = some (.int .i64 (pxAt ps j).1) ∧ w.cell? ⟨bk, off + j * 3 + 1, none⟩ = some (.int .i64 (pxAt ps j).2.1) ∧ w.cell? ⟨bk, off + j * 3 + 2, none⟩ = some (.int .i64 (pxAt ps j).2.2)) :
    Calls Try.prog 87 #[.agg #[.int .i64 W, .int .i64 H, .slice (some ⟨bk, off, none⟩) ps.length ca], .agg #[.int .i64 X, .int .i64 Y]] w fun e w' => e = .returned (pixV (wF ps W H X Y (List.finRange 8))) ∧ Below w.heap.size w w' := by
  have hl4 : ps.length ≤ 4096 := by rw [hlen]; exact Nat.le_trans (Nat.mul_le_mul hH hW) (by decide)
  have hjl : Y * W + X < ps.length := by
    have h1 : (Y + 1) * W ≤ H * W := Nat.mul_le_mul_right _ hY
    rw [Nat.succ_mul] at h1
    rw [hlen]; omega
  have HLEN := hide hlen
  have HPS := hide hps
  have HC := hide hcell
  clear hlen hps hcell
  refine (callsIn_wide (n := 3)).1 ?_
  refine callsIn_of_wp_marks Try.func87 rfl trivial ?_ rfl
  simp only [Try.ntmps87, List.size_toArray, List.length_cons, List.length_nil, Nat.reduceAdd, Nat.reduceSub, Array.replicate_succ, Array.replicate_zero, List.push_toArray, List.append_toArray, List.nil_append, List.cons_append]
  gi_wp2_with fail
  refine wpIn_wide.2 ?_
  obtain ⟨a1, a2, a3, a4⟩ := al4 w (Obj.cells #[.int .i64 W, .int .i64 H, .slice (some ⟨bk, off, none⟩) ps.length ca] 39) (Obj.cells #[.int .i64 X, .int .i64 Y] 93) (Obj.cells #[.int .i64 0, .int .i64 0, .int .i64 0] 50) (Obj.cells #[.int .i64 W, .int .i64 H] 91)
  have hB4 := be4 w (Obj.cells #[.int .i64 W, .int .i64 H, .slice (some ⟨bk, off, none⟩) ps.length ca] 39) (Obj.cells #[.int .i64 X, .int .i64 Y] 93) (Obj.cells #[.int .i64 0, .int .i64 0, .int .i64 0] 50) (Obj.cells #[.int .i64 W, .int .i64 H] 91)
  have hs4 : ((((w.alloc (Obj.cells #[.int .i64 W, .int .i64 H, .slice (some ⟨bk, off, none⟩) ps.length ca] 39)).alloc (Obj.cells #[.int .i64 X, .int .i64 Y] 93)).alloc (Obj.cells #[.int .i64 0, .int .i64 0, .int .i64 0] 50)).alloc (Obj.cells #[.int .i64 W, .int .i64 H] 91)).heap.size = w.heap.size + 4 := by simp
  generalize (((w.alloc (Obj.cells #[.int .i64 W, .int .i64 H, .slice (some ⟨bk, off, none⟩) ps.length ca] 39)).alloc (Obj.cells #[.int .i64 X, .int .i64 Y] 93)).alloc (Obj.cells #[.int .i64 0, .int .i64 0, .int .i64 0] 50)).alloc (Obj.cells #[.int .i64 W, .int .i64 H] 91) = U at *
  replace hs4 := Nat.le_of_eq hs4.symm
  obtain ⟨⟨r, g, u⟩, hp⟩ : ∃ p, pxAt ps (Y * W + X) = p := ⟨_, rfl⟩
  have hpk := pxAt_ok HPS.out (Y * W + X)
  have HS0 := hide (show wF ps W H X Y [] = addP (0, 0, 0) 4 (r, g, u) by rw [← hp]; rfl)
  have HS0b := hide (pxUpto_mono (wF_upto HPS.out W H X Y []) (show 4 + 2 * ((([] : List (Fin 8)).length : Nat) : Int) ≤ 32 by decide))
  have HS := hide (show ∀ w', Below U.heap.size U w' → (w'.cell? ⟨w.heap.size, 2, none⟩ = some (.slice (some ⟨bk, off, none⟩) ps.length ca) ∧ w'.cell? ⟨w.heap.size + 3, 0, none⟩ = some (.int .i64 W) ∧ w'.cell? ⟨w.heap.size + 3, 1, none⟩ = some (.int .i64 H) ∧ w'.cell? ⟨w.heap.size + 1, 0, none⟩ = some (.int .i64 X) ∧ w'.cell? ⟨w.heap.size + 1, 1, none⟩ = some (.int .i64 Y) ∧
      w'.cell? ⟨bk, off + (Y * W + X) * 3, none⟩ = some (.int .i64 r) ∧ w'.cell? ⟨bk, off + (Y * W + X) * 3 + 1, none⟩ = some (.int .i64 g) ∧ w'.cell? ⟨bk, off + (Y * W + X) * 3 + 2, none⟩ = some (.int .i64 u)) from fun w' h => by
    have hV := hB4.trans (h.mono hB4.size)
    obtain ⟨_, _, q2⟩ := cells3 ((h.block w.heap.size (by omega)).trans a1)
    have g2 := (h.block (w.heap.size + 1) (by omega)).trans a2
    have g4 := (h.block (w.heap.size + 3) (by omega)).trans a4
    obtain ⟨c0, c1, c2⟩ := HC.out _ hjl
    rw [hp] at c0 c1 c2
    exact ⟨q2, by rw [Lib.cell_of_heap g4]; rfl, by rw [Lib.cell_of_heap g4]; rfl, by rw [Lib.cell_of_heap g2]; rfl, by rw [Lib.cell_of_heap g2]; rfl, (hV.cell (p := ⟨bk, off + (Y * W + X) * 3, none⟩) hbk).trans c0, (hV.cell (p := ⟨bk, off + (Y * W + X) * 3 + 1, none⟩) hbk).trans c1, (hV.cell (p := ⟨bk, off + (Y * W + X) * 3 + 2, none⟩) hbk).trans c2⟩)
  obtain ⟨J, hJ⟩ : ∃ J, Y * W + X = J := ⟨_, rfl⟩
  have HIX := hide (show ∀ w', Below U.heap.size U w' → Calls Try.prog 58 #[.agg #[.int .i64 W, .int .i64 H], .agg #[.int .i64 X, .int .i64 Y]] w' fun e w'' => e = .returned (.int .i64 J) ∧ Below U.heap.size U w'' ∧ Below w'.heap.size w' w'' from fun w' h =>
    (index_any W H X Y W J rfl hJ (by omega) w').mono fun e w'' h2 => ⟨h2.1, h.trans (h2.2.mono h.size), h2.2⟩)
  rw [hp] at hpk
  have HWE := hide (show ∀ w', Below U.heap.size U w' → Calls Try.prog 113 #[.agg #[.int .i64 0, .int .i64 0, .int .i64 0], .agg #[.int .i64 r, .int .i64 g, .int .i64 u], .int .i64 4] w' fun e w'' => e = .returned (pixV (wF ps W H X Y [])) ∧ Below U.heap.size U w'' ∧ Below w'.heap.size w' w'' from fun w' h => by
    rw [HS0.out]
    exact (weighed_any (0, 0, 0) (r, g, u) 4 (by omega) (by omega) ⟨⟨by decide, by decide⟩, ⟨by decide, by decide⟩, by decide, by decide⟩ hpk w').mono fun e w'' h2 => ⟨h2.1, h.trans (h2.2.mono h.size), h2.2⟩)
  rw [hJ] at HS hjl
  clear hpk hp
  obtain ⟨⟨s0, s1, s2⟩, hs⟩ : ∃ s, wF ps W H X Y [] = s := ⟨_, rfl⟩
  rw [hs] at HWE HS0b
  have HSS := hide hs
  clear hs HS0 hJ
  have HSA := hide (show ∀ w' o, Below U.heap.size U w' → Below U.heap.size U (w'.alloc o) from fun w' o h => h.alloc h.size o)
  have HS3 := hide (show ∀ w' b x y z, Below U.heap.size U w' → U.heap.size ≤ b → Below U.heap.size U (((w'.setCell ⟨b, 0, none⟩ x).setCell ⟨b, 1, none⟩ y).setCell ⟨b, 2, none⟩ z) from fun w' b x y z h hb => set3_below h hb x y z)
  have hdrew : Below U.heap.size U U.drew := (Below.refl _ _).drew
  have hdrewA : Below U.heap.size U (U.alloc (Obj.cells #[.int .i64 0, .int .i64 0, .int .i64 0] 50)).drew := below_drew'' (bel_alloc _ _)
  have HZU := hide (show (U.alloc (Obj.cells #[.int .i64 0, .int .i64 0, .int .i64 0] 50)).drew.heap[U.heap.size]? = some (.cells #[.int .i64 0, .int .i64 0, .int .i64 0] 50 (0, 0)) from al1 U _)
  refine wp_cut (fun a' V => ∃ SB, a' = { tmps := #[.agg #[.int .i64 W, .int .i64 H, .slice (some ⟨bk, off, none⟩) ps.length ca], .agg #[.int .i64 X, .int .i64 Y], .pointer (some ⟨w.heap.size, 0, none⟩), .pointer (some ⟨w.heap.size + 1, 0, none⟩), .pointer (some ⟨w.heap.size + 1 + 1, 0, none⟩), .pointer (some ⟨w.heap.size + 1 + 1 + 1, 0, none⟩), .pointer (some ⟨SB, 0, none⟩), undef, undef, .pointer (some ⟨w.heap.size, 0, none⟩), .int .i64 W, .pointer (some ⟨w.heap.size, 1, none⟩), .int .i64 H, .agg #[.int .i64 W, .int .i64 H], .agg #[.int .i64 0, .int .i64 0, .int .i64 0], .pointer (some ⟨w.heap.size, 2, none⟩), .slice (some ⟨bk, off, none⟩) ps.length ca, .agg #[.int .i64 W, .int .i64 H], .agg #[.int .i64 X, .int .i64 Y], .int .i64 J, .pointer (some ⟨bk, off + J * 3, none⟩), .agg #[.int .i64 r, .int .i64 g, .int .i64 u], pixV (s0, s1, s2), undef, undef, undef, undef, undef, undef, undef, undef, undef, undef, undef, undef, undef, undef, undef, undef, undef, undef, undef, undef, undef, undef, undef, undef, undef, undef, undef, undef], defers := [] } ∧ Below U.heap.size U V ∧ V.heap[SB]? = some (.cells #[.int .i64 s0, .int .i64 s1, .int .i64 s2] 50 (0, 0)) ∧ U.heap.size ≤ SB) ?_ ?_
  rotate_left
  · rintro a' V ⟨SB, rfl, vB, vS, hSB⟩
    obtain ⟨k1, k2, k3, k4, k5, k6, k7, k8⟩ := HS.out V vB
    gi_wp2_with fail
    refine ⟨trivial, ?_⟩
    refine (around_in Fence.wide _ trivial rfl _ _ _).mono ?_
    rintro e w' ⟨rfl, rfl⟩
    gi_wp2_with fail
    have hsV := vB.size
    have hlS := (Array.getElem?_eq_some_iff.1 vS).1
    have n0 := al1 V (Obj.cells #[.int .i64 X, .int .i64 Y] 93)
    have hs0 : (V.alloc (Obj.cells #[.int .i64 X, .int .i64 Y] 93)).heap.size = V.heap.size + 1 := by simp
    have j0 : (V.alloc (Obj.cells #[.int .i64 X, .int .i64 Y] 93)).heap[SB]? = some (.cells #[.int .i64 s0, .int .i64 s1, .int .i64 s2] 50 (0, 0)) := (Below.heap_alloc _ _ _ hlS).trans vS
    have hB0 : Below U.heap.size U (V.alloc (Obj.cells #[.int .i64 X, .int .i64 Y] 93)) := vB.alloc vB.size _
    generalize V.alloc (Obj.cells #[.int .i64 X, .int .i64 Y] 93) = W0 at *
    refine wpIn_rangeFunc_ownH (α := Fin 8) rfl (show 1 ≤ 3 by omega) (gf := 119) (lb := #[.pointer (some ⟨V.heap.size, 0, none⟩)]) rfl trivial (enters_of Try.func119 (by kernel_rfl) rfl)
      (around_stops Fence.wide (3 - 1) trivial rfl (by omega) V.heap.size X Y (by omega) (by omega) W0 (by omega) (by rw [Lib.cell_of_heap n0]; rfl) (by rw [Lib.cell_of_heap n0]; rfl)) (fun {A B C} h k => h.trans' k) (fun X l o o' hl _ _ _ => keepB_put (by omega)) (Below.refl _ _) (fun _ => rfl)
      (fun pre W' => W'.heap[SB]? = some (.cells (pixA (wF ps W H X Y pre)) 50 (0, 0)) ∧ W'.heap[V.heap.size]? = some (.cells #[.int .i64 X, .int .i64 Y] 93 (0, 0)) ∧ Below U.heap.size U W')
      (fun _ _ _ => False)
      (fun s X Y row ⟨b1, b2, b3⟩ hg hr => ⟨own_keep hg hr b1, own_keep hg hr b2, ownFrom_below (β := Unit) (Nat.le_refl _) (by omega) () X Y row b3 hg hr⟩)
      (fun _ _ _ _ _ hs _ _ => hs)
      ⟨by rw [HSS.out]; exact j0, n0, hB0⟩
      (fun x a' W' => ∃ Bx, W0.heap.size ≤ Bx ∧ W'.heap[Bx]? = some (.cells #[.int .i64 ((X : Int) - 1 + (nOf x.1 % 3 : Nat)), .int .i64 ((Y : Int) - 1 + (nOf x.1 / 3 : Nat))] 93 (0, 0)) ∧ a' = { tmps := #[.agg #[.int .i64 W, .int .i64 H, .slice (some ⟨bk, off, none⟩) ps.length ca], .agg #[.int .i64 X, .int .i64 Y], .pointer (some ⟨w.heap.size, 0, none⟩), .pointer (some ⟨w.heap.size + 1, 0, none⟩), .pointer (some ⟨w.heap.size + 1 + 1, 0, none⟩), .pointer (some ⟨w.heap.size + 1 + 1 + 1, 0, none⟩), .pointer (some ⟨SB, 0, none⟩), .pointer (some ⟨Bx, 0, none⟩), undef, .pointer (some ⟨w.heap.size, 0, none⟩), .int .i64 W, .pointer (some ⟨w.heap.size, 1, none⟩), .int .i64 H, .agg #[.int .i64 W, .int .i64 H], .agg #[.int .i64 0, .int .i64 0, .int .i64 0], .pointer (some ⟨w.heap.size, 2, none⟩), .slice (some ⟨bk, off, none⟩) ps.length ca, .agg #[.int .i64 W, .int .i64 H], .agg #[.int .i64 X, .int .i64 Y], .int .i64 J, .pointer (some ⟨bk, off + J * 3, none⟩), .agg #[.int .i64 r, .int .i64 g, .int .i64 u], pixV (s0, s1, s2), .agg #[.int .i64 X, .int .i64 Y], .func (.func 119) #[] #[.pointer (some ⟨V.heap.size, 0, none⟩)], .agg #[.int .i64 ((X : Int) - 1 + (nOf x.1 % 3 : Nat)), .int .i64 ((Y : Int) - 1 + (nOf x.1 / 3 : Nat))], undef, undef, undef, undef, undef, undef, undef, undef, undef, undef, undef, undef, undef, undef, undef, undef, undef, undef, undef, undef, undef, undef, undef, undef, undef], defers := [] })
      (fun x a' _ X Y row ⟨Bx, b1, b2, b3⟩ hg hr => ⟨Bx, b1, own_keep hg hr b2, b3⟩)
      ?assign ?body ?done ?stop
    case assign =>
      rintro l pre x W' K ⟨i1, i2, i3⟩ hK
      have hl1 := (Array.getElem?_eq_some_iff.1 i1).1
      have hl2 := (Array.getElem?_eq_some_iff.1 i2).1
      have hl3 := i3.size
      gi_wp2
      exact hK _ _ ((KeepsOthers.alloc _ _).from _) (Below.heap_alloc _ _ _ hl2) ⟨(Below.heap_alloc _ _ _ hl1).trans i1, (Below.heap_alloc _ _ _ hl2).trans i2, i3.alloc hl3 _⟩ ⟨W'.heap.size, by omega, al1 W' _, rfl⟩
    case body =>
      rintro l pre x a' W' hl ⟨rr, hrr⟩ ⟨i1, i2, i3⟩ ⟨Bx, hBx, bX, rfl⟩ hlt
      have HWU := hide (pxUpto_mono (wF_upto HPS.out W H X Y pre) (show 4 + 2 * (pre.length : Int) ≤ 32 by omega))
      have HSN := hide (wF_snoc ps W H X Y pre x)
      have hn3 : nOf x.1 % 3 < 3 := by omega
      have hn9 : nOf x.1 / 3 < 3 := by have := x.2; unfold nOf; split <;> omega
      obtain ⟨xa, hxa⟩ : ∃ xa : Int, (X : Int) - 1 + (nOf x.1 % 3 : Nat) = xa := ⟨_, rfl⟩
      obtain ⟨yb, hyb⟩ : ∃ yb : Int, (Y : Int) - 1 + (nOf x.1 / 3 : Nat) = yb := ⟨_, rfl⟩
      have hxb : -1 ≤ xa ∧ xa ≤ 66 := by omega
      have hybb : -1 ≤ yb ∧ yb ≤ 66 := by omega
      have HNW := near_range W xa (by omega)
      have HNH := near_range H yb (by omega)
      obtain ⟨NX, hNX⟩ := Int.eq_ofNat_of_zero_le HNW.1
      obtain ⟨NY, hNY⟩ := Int.eq_ofNat_of_zero_le HNH.1
      obtain ⟨K, hK⟩ : ∃ K, wIx W H X Y x.1 = K := ⟨_, rfl⟩
      have hKL : K < ps.length := by rw [HLEN.out, ← hK]; exact wIx_lt hW1 hH1 X Y x.1
      have HKE := hide (show NY * W + NX = K by rw [← hK, wIx, hxa, hyb, hNX, hNY]; rfl)
      obtain ⟨⟨pr, pg, pu⟩, hpp⟩ : ∃ p, pxAt ps K = p := ⟨_, rfl⟩
      have hpk := pxAt_ok HPS.out K
      obtain ⟨cc0, cc1, cc2⟩ := HC.out K hKL
      rw [hpp] at cc0 cc1 cc2 hpk
      rw [hK, hpp] at HSN
      have HWT := wWt_range x.1
      have HWD := hide (show (xa = (X : Int) ∨ yb = (Y : Int) → wWt x.1 = 2) ∧ (¬ xa = (X : Int) → ¬ yb = (Y : Int) → wWt x.1 = 1) from ⟨fun h => by rw [wWt, if_pos (by omega)], fun h1 h2 => by rw [wWt, if_neg (by omega)]⟩)
      rw [hxa, hyb] at bX ⊢
      generalize wF ps W H X Y pre = sm at *
      obtain ⟨m0, m1, m2⟩ := sm
      obtain ⟨⟨nn0, nn1, nn2⟩, hnn⟩ : ∃ n, addP (m0, m1, m2) (wWt x.1) (pr, pg, pu) = n := ⟨_, rfl⟩
      rw [hnn] at HSN
      have HWE2 := hide (fun (v : World) => weighed_any (m0, m1, m2) (pr, pg, pu) (wWt x.1) HWT.1 (by omega) HWU.out hpk v)
      rw [hnn] at HWE2
      have HNE := hide (fun (v : World) => nearest_any W H xa yb (by omega) (by omega) (by omega) (by omega) hxb.1 hxb.2 hybb.1 hybb.2 v)
      rw [hNX, hNY] at HNE
      have HIX2 := hide (fun (v : World) => index_any W H NX NY W K rfl HKE.out (by omega) v)
      have hsz := i3.size
      have hlS' := (Array.getElem?_eq_some_iff.1 i1).1
      have hlX := (Array.getElem?_eq_some_iff.1 bX).1
      have hSX : SB ≠ Bx := fun e => by rw [e] at i1; rw [i1] at bX; simp only [Option.some.injEq, Obj.cells.injEq] at bX; exact absurd bX.2.1 (by decide)
      have hSG : SB ≠ V.heap.size := fun e => by rw [e] at i1; rw [i1] at i2; simp only [Option.some.injEq, Obj.cells.injEq] at i2; exact absurd i2.2.1 (by decide)
      have HS2 := hide (show ∀ v, Below W'.heap.size W' v → v.cell? ⟨w.heap.size, 2, none⟩ = some (.slice (some ⟨bk, off, none⟩) ps.length ca) ∧ v.cell? ⟨w.heap.size + 3, 0, none⟩ = some (.int .i64 W) ∧ v.cell? ⟨w.heap.size + 3, 1, none⟩ = some (.int .i64 H) ∧ v.cell? ⟨Bx, 0, none⟩ = some (.int .i64 xa) ∧ v.cell? ⟨Bx, 1, none⟩ = some (.int .i64 yb) ∧ v.cell? ⟨bk, off + K * 3, none⟩ = some (.int .i64 pr) ∧ v.cell? ⟨bk, off + K * 3 + 1, none⟩ = some (.int .i64 pg) ∧ v.cell? ⟨bk, off + K * 3 + 2, none⟩ = some (.int .i64 pu) from fun v h => by
        have hUv := i3.trans (h.mono hsz)
        obtain ⟨o1, o2, o3, _⟩ := HS.out v hUv
        have gx := (h.block Bx hlX).trans bX
        have hwv := hB4.trans (hUv.mono hB4.size)
        exact ⟨o1, o2, o3, by rw [Lib.cell_of_heap gx]; rfl, by rw [Lib.cell_of_heap gx]; rfl, (hwv.cell (p := ⟨bk, off + K * 3, none⟩) hbk).trans cc0, (hwv.cell (p := ⟨bk, off + K * 3 + 1, none⟩) hbk).trans cc1, (hwv.cell (p := ⟨bk, off + K * 3 + 2, none⟩) hbk).trans cc2⟩)
      have HQ := hide (show ∀ v, Below W'.heap.size W' v → v.cell? ⟨SB, 0, none⟩ = some (.int .i64 m0) ∧ v.cell? ⟨SB, 1, none⟩ = some (.int .i64 m1) ∧ v.cell? ⟨SB, 2, none⟩ = some (.int .i64 m2) from fun v h => cells3 ((h.block SB hlS').trans i1))
      have HTL := hide (show ∀ v, Below W'.heap.size W' v → v.frozen? ⟨SB, 0, none⟩ = false ∧ v.frozen? ⟨SB, 1, none⟩ = false ∧ v.frozen? ⟨SB, 2, none⟩ = false ∧ ((((v.setCell ⟨SB, 0, none⟩ (.int .i64 nn0)).setCell ⟨SB, 1, none⟩ (.int .i64 nn1)).setCell ⟨SB, 2, none⟩ (.int .i64 nn2)).cell? ⟨w.heap.size, 2, none⟩ = some (.slice (some ⟨bk, off, none⟩) ps.length ca) ∧ (((v.setCell ⟨SB, 0, none⟩ (.int .i64 nn0)).setCell ⟨SB, 1, none⟩ (.int .i64 nn1)).setCell ⟨SB, 2, none⟩ (.int .i64 nn2)).cell? ⟨w.heap.size + 3, 0, none⟩ = some (.int .i64 W) ∧ (((v.setCell ⟨SB, 0, none⟩ (.int .i64 nn0)).setCell ⟨SB, 1, none⟩ (.int .i64 nn1)).setCell ⟨SB, 2, none⟩ (.int .i64 nn2)).cell? ⟨w.heap.size + 3, 1, none⟩ = some (.int .i64 H) ∧ (((v.setCell ⟨SB, 0, none⟩ (.int .i64 nn0)).setCell ⟨SB, 1, none⟩ (.int .i64 nn1)).setCell ⟨SB, 2, none⟩ (.int .i64 nn2)).cell? ⟨Bx, 0, none⟩ = some (.int .i64 xa) ∧ (((v.setCell ⟨SB, 0, none⟩ (.int .i64 nn0)).setCell ⟨SB, 1, none⟩ (.int .i64 nn1)).setCell ⟨SB, 2, none⟩ (.int .i64 nn2)).cell? ⟨Bx, 1, none⟩ = some (.int .i64 yb) ∧ (((v.setCell ⟨SB, 0, none⟩ (.int .i64 nn0)).setCell ⟨SB, 1, none⟩ (.int .i64 nn1)).setCell ⟨SB, 2, none⟩ (.int .i64 nn2)).cell? ⟨bk, off + K * 3, none⟩ = some (.int .i64 pr) ∧ (((v.setCell ⟨SB, 0, none⟩ (.int .i64 nn0)).setCell ⟨SB, 1, none⟩ (.int .i64 nn1)).setCell ⟨SB, 2, none⟩ (.int .i64 nn2)).cell? ⟨bk, off + K * 3 + 1, none⟩ = some (.int .i64 pg) ∧ (((v.setCell ⟨SB, 0, none⟩ (.int .i64 nn0)).setCell ⟨SB, 1, none⟩ (.int .i64 nn1)).setCell ⟨SB, 2, none⟩ (.int .i64 nn2)).cell? ⟨bk, off + K * 3 + 2, none⟩ = some (.int .i64 pu)) ∧
          (KeepsFrom W0.heap.size W' (((v.setCell ⟨SB, 0, none⟩ (.int .i64 nn0)).setCell ⟨SB, 1, none⟩ (.int .i64 nn1)).setCell ⟨SB, 2, none⟩ (.int .i64 nn2)) ∧ KeepB V.heap.size W' (((v.setCell ⟨SB, 0, none⟩ (.int .i64 nn0)).setCell ⟨SB, 1, none⟩ (.int .i64 nn1)).setCell ⟨SB, 2, none⟩ (.int .i64 nn2)) ∧ ((((v.setCell ⟨SB, 0, none⟩ (.int .i64 nn0)).setCell ⟨SB, 1, none⟩ (.int .i64 nn1)).setCell ⟨SB, 2, none⟩ (.int .i64 nn2)).heap[SB]? = some (.cells (pixA (wF ps W H X Y (pre ++ [x]))) 50 (0, 0)) ∧ (((v.setCell ⟨SB, 0, none⟩ (.int .i64 nn0)).setCell ⟨SB, 1, none⟩ (.int .i64 nn1)).setCell ⟨SB, 2, none⟩ (.int .i64 nn2)).heap[V.heap.size]? = some (.cells #[.int .i64 X, .int .i64 Y] 93 (0, 0)) ∧ Below U.heap.size U (((v.setCell ⟨SB, 0, none⟩ (.int .i64 nn0)).setCell ⟨SB, 1, none⟩ (.int .i64 nn1)).setCell ⟨SB, 2, none⟩ (.int .i64 nn2)))) from fun v h => by
        have gS := (h.block SB hlS').trans i1
        have gV := (h.block V.heap.size (Array.getElem?_eq_some_iff.1 i2).1).trans i2
        have hUv := i3.trans (h.mono hsz)
        obtain ⟨x1, x2, x3, x4⟩ := box3_set gS (.int .i64 nn0) (.int .i64 nn1) (.int .i64 nn2) U hSB hUv
        have hh := HS2.out v h
        have e1 : w.heap.size ≠ SB := by omega
        have e2 : w.heap.size + 3 ≠ SB := by omega
        have e4 : bk ≠ SB := by omega
        refine ⟨Lib.frozen_of_heap gS 0, Lib.frozen_of_heap gS 1, Lib.frozen_of_heap gS 2, ?_, ⟨?_, fun k o _ hk hoc => ?_⟩, ?_, ?_, ?_, x4⟩
        · rw [set3_cell _ _ _ e1, set3_cell _ _ _ e2, set3_cell _ _ _ e2, set3_cell _ _ _ (Ne.symm hSX), set3_cell _ _ _ (Ne.symm hSX), set3_cell _ _ _ e4, set3_cell _ _ _ e4, set3_cell _ _ _ e4]
          exact hh
        · rw [x3]; exact h.size
        · have hkl := (Array.getElem?_eq_some_iff.1 hk).1
          rw [x2 k (fun e => by rw [e, i1] at hk; cases hk; cases hoc), h.block k hkl]; exact hk
        · show _ = _
          rw [x2 _ (Ne.symm hSG), gV, i2]
        · rw [HSN.out]; exact x1
        · rw [x2 _ (Ne.symm hSG)]; exact gV)
      have hWd : Below W'.heap.size W' W'.drew := (Below.refl _ _).drew
      have c10 : W'.cell? ⟨w.heap.size + 1, 0, none⟩ = some (.int .i64 X) := (HS.out _ i3).2.2.2.1
      have c11 : W'.cell? ⟨w.heap.size + 1, 1, none⟩ = some (.int .i64 Y) := (HS.out _ i3).2.2.2.2.1
      have cx0 : W'.cell? ⟨Bx, 0, none⟩ = some (.int .i64 xa) := by rw [Lib.cell_of_heap bX]; rfl
      have cx1 : W'.cell? ⟨Bx, 1, none⟩ = some (.int .i64 yb) := by rw [Lib.cell_of_heap bX]; rfl
      have hmx : Try.prog.follows .mixedOrders = true := by kernel_rfl
      clear hpk cc0 cc1 cc2 hnn hpp hK HNW HNH hNX hNY hxa hyb hn3 hn9
      have hcases : (xa = (X : Int)) ∨ (¬ xa = (X : Int) ∧ yb = (Y : Int)) ∨ (¬ xa = (X : Int) ∧ ¬ yb = (Y : Int)) := by omega
      obtain ⟨wt, hwt⟩ : ∃ wt, wWt x.1 = wt := ⟨_, rfl⟩
      rw [hwt] at HWD HWE2
      rcases hcases with hc1 | ⟨hc1, hc2⟩ | ⟨hc1, hc2⟩
      all_goals first
        | (have hbx : (xa == (X : Int)) = true := by simpa using hc1
           have HW2 := hide (HWD.out.1 (.inl hc1))
           clear hc1 HWD
           gi_wp2_with fail
           generalize hwv : Value.int IntKind.i64 2 = wv
           have HWV := hide (show wv = .int .i64 wt by rw [← hwv, HW2.out])
           clear hwv HW2)
        | (have hbx : (xa == (X : Int)) = false := by simpa using hc1
           have hby : (yb == (Y : Int)) = true := by simpa using hc2
           have HW2 := hide (HWD.out.1 (.inr hc2))
           clear hc1 hc2 HWD
           gi_wp2_with fail
           generalize hwv : Value.int IntKind.i64 2 = wv
           have HWV := hide (show wv = .int .i64 wt by rw [← hwv, HW2.out])
           clear hwv HW2)
        | (have hbx : (xa == (X : Int)) = false := by simpa using hc1
           have hby : (yb == (Y : Int)) = false := by simpa using hc2
           have HW2 := hide (HWD.out.2 hc1 hc2)
           clear hc1 hc2 HWD
           gi_wp2_with fail
           generalize hwv : Value.int IntKind.i64 1 = wv
           have HWV := hide (show wv = .int .i64 wt by rw [← hwv, HW2.out])
           clear hwv HW2)
      all_goals
        have hSd := HS2.out _ hWd
        obtain ⟨q0, q1, q2⟩ := HQ.out _ hWd
        refine wpIn_region_held (S := fun v : World => v.cell? ⟨w.heap.size, 2, none⟩ = some (.slice (some ⟨bk, off, none⟩) ps.length ca) ∧ v.cell? ⟨w.heap.size + 3, 0, none⟩ = some (.int .i64 W) ∧ v.cell? ⟨w.heap.size + 3, 1, none⟩ = some (.int .i64 H) ∧ v.cell? ⟨Bx, 0, none⟩ = some (.int .i64 xa) ∧ v.cell? ⟨Bx, 1, none⟩ = some (.int .i64 yb) ∧ v.cell? ⟨bk, off + K * 3, none⟩ = some (.int .i64 pr) ∧ v.cell? ⟨bk, off + K * 3 + 1, none⟩ = some (.int .i64 pg) ∧ v.cell? ⟨bk, off + K * 3 + 2, none⟩ = some (.int .i64 pu)) hmx ?nd ?no ?_
        case nd => exact noDefer_of (by kernel_rfl)
        case no => rintro ⟨_, _, h⟩; exact h
        show wpAnyH _ _ _ _ _ 13 _ _ W'.drew
        refine wpAnyH_take (i := 1) (oi := _) (v := .pointer (some ⟨w.heap.size, 2, none⟩)) rfl (by kernel_rfl) (by kernel_rfl) (by kernel_rfl) (fun _ _ _ h => h) (Or.inl ⟨by rfl, fun v hSv => by obtain ⟨t1, t2, t3, t4, t5, t6, t7, t8⟩ := hSv; go_simp⟩) hSd ?_
        simp only [Act.put]
        refine wpAnyH_take (i := 2) (oi := _) (v := .slice (some ⟨bk, off, none⟩) ps.length ca) rfl (by kernel_rfl) (by kernel_rfl) (by kernel_rfl) (fun _ _ _ h => h) (Or.inl ⟨by rfl, fun v hSv => by obtain ⟨t1, t2, t3, t4, t5, t6, t7, t8⟩ := hSv; go_simp⟩) hSd ?_
        simp only [Act.put]
        refine wpAnyH_take (i := 3) (oi := _) (v := .agg #[.int .i64 W, .int .i64 H]) rfl (by kernel_rfl) (by kernel_rfl) (by kernel_rfl) (fun _ _ _ h => h) (Or.inl ⟨by rfl, fun v hSv => by obtain ⟨t1, t2, t3, t4, t5, t6, t7, t8⟩ := hSv; go_simp⟩) hSd ?_
        simp only [Act.put]
        refine wpAnyH_take (i := 4) (oi := _) (v := .agg #[.int .i64 W, .int .i64 H]) rfl (by kernel_rfl) (by kernel_rfl) (by kernel_rfl) (fun _ _ _ h => h) (Or.inl ⟨by rfl, fun v hSv => by obtain ⟨t1, t2, t3, t4, t5, t6, t7, t8⟩ := hSv; go_simp⟩) hSd ?_
        simp only [Act.put]
        refine wpAnyH_take (i := 5) (oi := _) (v := .agg #[.int .i64 xa, .int .i64 yb]) rfl (by kernel_rfl) (by kernel_rfl) (by kernel_rfl) (fun _ _ _ h => h) (Or.inl ⟨by rfl, fun v hSv => by obtain ⟨t1, t2, t3, t4, t5, t6, t7, t8⟩ := hSv; go_simp⟩) hSd ?_
        simp only [Act.put]
        refine wpAnyH_take (i := 10) (oi := _) (v := wv) rfl (by kernel_rfl) (by kernel_rfl) (by kernel_rfl) (fun _ _ _ h => h) (Or.inl ⟨by rfl, fun v hSv => by obtain ⟨t1, t2, t3, t4, t5, t6, t7, t8⟩ := hSv; go_simp⟩) hSd ?_
        simp only [Act.put]
        refine wpAnyH_ready (rs := [0, 6]) (by kernel_rfl) (by simp) ?_
        refine AllReadyH.cons (o := _) rfl (fun K' hK => ?wA) (AllReadyH.cons (o := _) rfl (fun K' hK => ?wB) AllReadyH.nil)
        case wA =>
          rw [if_pos (by rfl)]
          go_simp
          refine hK.out _ _ hSd (fun _ => ?_)
          clear hK
          refine wpAnyH_ready (rs := [6]) (by kernel_rfl) (by simp) ?_
          refine AllReadyH.cons (o := _) rfl (fun K' hK => ?_) AllReadyH.nil
          rw [if_pos (by rfl)]
          go_simp
          refine (HNE.out _).mono ?_
          rintro e V2 ⟨rfl, hbV2⟩
          have hBV2 : Below W'.heap.size W' V2 := hWd.trans (hbV2.mono hWd.size)
          have hSd := HS2.out _ hBV2
          obtain ⟨q0, q1, q2⟩ := HQ.out _ hBV2
          refine hK.out _ _ hSd (fun _ => ?_)
          clear hK
          refine wpAnyH_ready (rs := [7]) (by kernel_rfl) (by simp) ?_
          refine AllReadyH.cons (o := _) rfl (fun K' hK => ?_) AllReadyH.nil
          rw [if_pos (by rfl)]
          go_simp
          refine (HIX2.out _).mono ?_
          rintro e V3 ⟨rfl, hbV3⟩
          have hBV3 : Below W'.heap.size W' V3 := hBV2.trans (hbV3.mono hBV2.size)
          have hSd := HS2.out _ hBV3
          obtain ⟨q0, q1, q2⟩ := HQ.out _ hBV3
          refine hK.out _ _ hSd (fun _ => ?_)
          clear hK
          refine wpAnyH_take (i := 8) (oi := _) (v := .pointer (some ⟨bk, off + K * 3, none⟩)) rfl (by kernel_rfl) (by kernel_rfl) (by kernel_rfl) (fun _ _ _ h => h) (Or.inl ⟨by rfl, fun v hSv => by obtain ⟨t1, t2, t3, t4, t5, t6, t7, t8⟩ := hSv; go_simp⟩) hSd ?_
          simp only [Act.put]
          refine wpAnyH_take (i := 9) (oi := _) (v := .agg #[.int .i64 pr, .int .i64 pg, .int .i64 pu]) rfl (by kernel_rfl) (by kernel_rfl) (by kernel_rfl) (fun _ _ _ h => h) (Or.inl ⟨by rfl, fun v hSv => by obtain ⟨t1, t2, t3, t4, t5, t6, t7, t8⟩ := hSv; go_simp⟩) hSd ?_
          simp only [Act.put]
          refine wpAnyH_ready (rs := [11]) (by kernel_rfl) (by simp) ?_
          refine AllReadyH.cons (o := _) rfl (fun K' hK => ?_) AllReadyH.nil
          rw [if_pos (by rfl)]
          go_simp
          rw [HWV.out]
          refine (HWE2.out _).mono ?_
          rintro e V4 ⟨rfl, hb4⟩
          have hB4' : Below W'.heap.size W' V4 := hBV3.trans (hb4.mono hBV3.size)
          have hSd := HS2.out _ hB4'
          obtain ⟨q0, q1, q2⟩ := HQ.out _ hB4'
          obtain ⟨qf0, qf1, qf2, HT1, HT2⟩ := HTL.out _ hB4'
          refine hK.out _ _ hSd (fun _ => ?_)
          clear hK
          refine wpAnyH_ready (rs := [12]) (by kernel_rfl) (by simp) ?_
          refine AllReadyH.cons (o := _) rfl (fun K' hK => ?_) AllReadyH.nil
          rw [if_pos (by rfl)]
          go_simp
          refine hK.out _ _ HT1 (fun _ => ?_)
          clear hK
          refine wpAnyH_done (by kernel_rfl) ?_ _
          exact HT2
        case wB =>
          rw [if_pos (by rfl)]
          go_simp
          refine (HNE.out _).mono ?_
          rintro e V2 ⟨rfl, hbV2⟩
          have hBV2 : Below W'.heap.size W' V2 := hWd.trans (hbV2.mono hWd.size)
          have hSd := HS2.out _ hBV2
          obtain ⟨q0, q1, q2⟩ := HQ.out _ hBV2
          refine hK.out _ _ hSd (fun _ => ?_)
          clear hK
          refine wpAnyH_ready (rs := [0, 7]) (by kernel_rfl) (by simp) ?_
          refine AllReadyH.cons (o := _) rfl (fun K' hK => ?wC) (AllReadyH.cons (o := _) rfl (fun K' hK => ?wD) AllReadyH.nil)
          case wC =>
            rw [if_pos (by rfl)]
            go_simp
            refine hK.out _ _ hSd (fun _ => ?_)
            clear hK
            refine wpAnyH_ready (rs := [7]) (by kernel_rfl) (by simp) ?_
            refine AllReadyH.cons (o := _) rfl (fun K' hK => ?_) AllReadyH.nil
            rw [if_pos (by rfl)]
            go_simp
            refine (HIX2.out _).mono ?_
            rintro e V3 ⟨rfl, hbV3⟩
            have hBV3 : Below W'.heap.size W' V3 := hBV2.trans (hbV3.mono hBV2.size)
            have hSd := HS2.out _ hBV3
            obtain ⟨q0, q1, q2⟩ := HQ.out _ hBV3
            refine hK.out _ _ hSd (fun _ => ?_)
            clear hK
            refine wpAnyH_take (i := 8) (oi := _) (v := .pointer (some ⟨bk, off + K * 3, none⟩)) rfl (by kernel_rfl) (by kernel_rfl) (by kernel_rfl) (fun _ _ _ h => h) (Or.inl ⟨by rfl, fun v hSv => by obtain ⟨t1, t2, t3, t4, t5, t6, t7, t8⟩ := hSv; go_simp⟩) hSd ?_
            simp only [Act.put]
            refine wpAnyH_take (i := 9) (oi := _) (v := .agg #[.int .i64 pr, .int .i64 pg, .int .i64 pu]) rfl (by kernel_rfl) (by kernel_rfl) (by kernel_rfl) (fun _ _ _ h => h) (Or.inl ⟨by rfl, fun v hSv => by obtain ⟨t1, t2, t3, t4, t5, t6, t7, t8⟩ := hSv; go_simp⟩) hSd ?_
            simp only [Act.put]
            refine wpAnyH_ready (rs := [11]) (by kernel_rfl) (by simp) ?_
            refine AllReadyH.cons (o := _) rfl (fun K' hK => ?_) AllReadyH.nil
            rw [if_pos (by rfl)]
            go_simp
            rw [HWV.out]
            refine (HWE2.out _).mono ?_
            rintro e V4 ⟨rfl, hb4⟩
            have hB4' : Below W'.heap.size W' V4 := hBV3.trans (hb4.mono hBV3.size)
            have hSd := HS2.out _ hB4'
            obtain ⟨q0, q1, q2⟩ := HQ.out _ hB4'
            obtain ⟨qf0, qf1, qf2, HT1, HT2⟩ := HTL.out _ hB4'
            refine hK.out _ _ hSd (fun _ => ?_)
            clear hK
            refine wpAnyH_ready (rs := [12]) (by kernel_rfl) (by simp) ?_
            refine AllReadyH.cons (o := _) rfl (fun K' hK => ?_) AllReadyH.nil
            rw [if_pos (by rfl)]
            go_simp
            refine hK.out _ _ HT1 (fun _ => ?_)
            clear hK
            refine wpAnyH_done (by kernel_rfl) ?_ _
            exact HT2
          case wD =>
            rw [if_pos (by rfl)]
            go_simp
            refine (HIX2.out _).mono ?_
            rintro e V3 ⟨rfl, hbV3⟩
            have hBV3 : Below W'.heap.size W' V3 := hBV2.trans (hbV3.mono hBV2.size)
            have hSd := HS2.out _ hBV3
            obtain ⟨q0, q1, q2⟩ := HQ.out _ hBV3
            refine hK.out _ _ hSd (fun _ => ?_)
            clear hK
            refine wpAnyH_take (i := 8) (oi := _) (v := .pointer (some ⟨bk, off + K * 3, none⟩)) rfl (by kernel_rfl) (by kernel_rfl) (by kernel_rfl) (fun _ _ _ h => h) (Or.inl ⟨by rfl, fun v hSv => by obtain ⟨t1, t2, t3, t4, t5, t6, t7, t8⟩ := hSv; go_simp⟩) hSd ?_
            simp only [Act.put]
            refine wpAnyH_take (i := 9) (oi := _) (v := .agg #[.int .i64 pr, .int .i64 pg, .int .i64 pu]) rfl (by kernel_rfl) (by kernel_rfl) (by kernel_rfl) (fun _ _ _ h => h) (Or.inl ⟨by rfl, fun v hSv => by obtain ⟨t1, t2, t3, t4, t5, t6, t7, t8⟩ := hSv; go_simp⟩) hSd ?_
            simp only [Act.put]
            refine wpAnyH_ready (rs := [0]) (by kernel_rfl) (by simp) ?_
            refine AllReadyH.cons (o := _) rfl (fun K' hK => ?_) AllReadyH.nil
            rw [if_pos (by rfl)]
            go_simp
            refine hK.out _ _ hSd (fun _ => ?_)
            clear hK
            refine wpAnyH_ready (rs := [11]) (by kernel_rfl) (by simp) ?_
            refine AllReadyH.cons (o := _) rfl (fun K' hK => ?_) AllReadyH.nil
            rw [if_pos (by rfl)]
            go_simp
            rw [HWV.out]
            refine (HWE2.out _).mono ?_
            rintro e V4 ⟨rfl, hb4⟩
            have hB4' : Below W'.heap.size W' V4 := hBV3.trans (hb4.mono hBV3.size)
            have hSd := HS2.out _ hB4'
            obtain ⟨q0, q1, q2⟩ := HQ.out _ hB4'
            obtain ⟨qf0, qf1, qf2, HT1, HT2⟩ := HTL.out _ hB4'
            refine hK.out _ _ hSd (fun _ => ?_)
            clear hK
            refine wpAnyH_ready (rs := [12]) (by kernel_rfl) (by simp) ?_
            refine AllReadyH.cons (o := _) rfl (fun K' hK => ?_) AllReadyH.nil
            rw [if_pos (by rfl)]
            go_simp
            refine hK.out _ _ HT1 (fun _ => ?_)
            clear hK
            refine wpAnyH_done (by kernel_rfl) ?_ _
            exact HT2
    case done =>
      rintro D ys W' hD rfl ⟨i1, i2, i3⟩ hK
      obtain ⟨⟨t0, t1, t2⟩, ht⟩ : ∃ t, wF ps W H X Y (List.finRange 8) = t := ⟨_, rfl⟩
      rw [ht] at i1
      have HT := hide ht
      clear ht
      obtain ⟨p0, p1, p2⟩ := cells3 i1
      have i4 := (i3.block (w.heap.size + 1 + 1) (by omega)).trans a3
      obtain ⟨r0, r1, r2⟩ := cells3 i4
      have f0 := Lib.frozen_of_heap i4 0
      have f1 := Lib.frozen_of_heap i4 1
      have f2 := Lib.frozen_of_heap i4 2
      have hBw := hB4.trans (i3.mono hB4.size)
      gi_wp2
      obtain ⟨x1, x2, x3, x4⟩ := box3_set i4 (.int .i64 t0) (.int .i64 t1) (.int .i64 t2) w (by omega) hBw
      have hDr : D ≠ w.heap.size + 1 + 1 := fun e => by rw [e, i4] at hK; cases hK
      replace hK := (x2 D hDr).trans hK
      generalize ((W'.setCell ⟨w.heap.size + 1 + 1, 0, none⟩ (.int .i64 t0)).setCell ⟨w.heap.size + 1 + 1, 1, none⟩ (.int .i64 t1)).setCell ⟨w.heap.size + 1 + 1, 2, none⟩ (.int .i64 t2) = Z at *
      refine ⟨by simp, .inl ⟨_, _, rfl, run_takeDeferred hK, ?_⟩⟩
      have y1 := (World.putObj_heap_other (w := Z) (o := .deferred none) (Ne.symm hDr)).trans x1
      have y3 : Below w.heap.size w (Z.putObj D (.deferred none)) := x4.trans (belowK_b (w := w) (Nat.le_refl _) Z D _ _ (by omega) hK rfl rfl)
      obtain ⟨c0, c1, c2⟩ := cells3 y1
      generalize Z.putObj D (.deferred none) = Y' at *
      exact ⟨.agg #[.int .i64 t0, .int .i64 t1, .int .i64 t2], by simp [results, Try.results87, go_sem, c0, c1, c2], by rw [HT.out], y3⟩
    case stop => rintro D c pre W' _ _ h _; exact h.elim

  go_region_held3 (fun w' => (w'.cell? ⟨w.heap.size, 2, none⟩ = some (.slice (some ⟨bk, off, none⟩) ps.length ca) ∧ w'.cell? ⟨w.heap.size + 3, 0, none⟩ = some (.int .i64 W) ∧ w'.cell? ⟨w.heap.size + 3, 1, none⟩ = some (.int .i64 H) ∧ w'.cell? ⟨w.heap.size + 1, 0, none⟩ = some (.int .i64 X) ∧ w'.cell? ⟨w.heap.size + 1, 1, none⟩ = some (.int .i64 Y) ∧
      w'.cell? ⟨bk, off + J * 3, none⟩ = some (.int .i64 r) ∧ w'.cell? ⟨bk, off + J * 3 + 1, none⟩ = some (.int .i64 g) ∧ w'.cell? ⟨bk, off + J * 3 + 2, none⟩ = some (.int .i64 u)))
    (first | (refine HS.out _ ?_; assumption) | (refine HS.out _ (HSA.out _ _ ?_); assumption) | (refine HS.out _ (HS3.out _ _ _ _ _ ?_ ?_); assumption; omega) | (refine HS.out _ (HS3.out _ _ _ _ _ (HSA.out _ _ ?_) ?_); assumption; omega))
    (first
      | (go_at_call 58; refine (HIX.out _ ?_).mono ?_; (first | assumption | (refine HSA.out _ _ ?_; assumption)); rintro e wx ⟨rfl, hN, hNx⟩; have hszU := hN.size; (first | (have hz := (hNx.block U.heap.size (by simp)).trans HZU.out; have hszz := (Array.getElem?_eq_some_iff.1 hz).1) | skip))
      | (go_at_call 113; refine (HWE.out _ ?_).mono ?_; (first | assumption | (refine HSA.out _ _ ?_; assumption)); rintro e wy ⟨rfl, hN2, hNy⟩; have hszV := hN2.size; (first | (have hzz := (hNy.block U.heap.size hszz).trans hz; obtain ⟨z0, z1, z2⟩ := cells3 hzz; have f0 := Lib.frozen_of_heap hzz 0; have f1 := Lib.frozen_of_heap hzz 1; have f2 := Lib.frozen_of_heap hzz 2) | (have hzz := (hNy.block wx.heap.size (by simp)).trans (al1 wx _); obtain ⟨z0, z1, z2⟩ := cells3 hzz; have f0 := Lib.frozen_of_heap hzz 0; have f1 := Lib.frozen_of_heap hzz 1; have f2 := Lib.frozen_of_heap hzz 2) | skip)))
  all_goals first
    | exact ⟨wy.heap.size, rfl, HSA.out wy _ hN2, al1 wy _, hszV⟩
    | exact ⟨wx.heap.size, rfl, HS3.out wy wx.heap.size _ _ _ hN2 hszU, (box3_set hzz (.int .i64 s0) (.int .i64 s1) (.int .i64 s2) U hszU hN2).1, hszU⟩
    | exact ⟨U.heap.size, rfl, HS3.out wy U.heap.size _ _ _ hN2 (Nat.le_refl _), (box3_set hzz (.int .i64 s0) (.int .i64 s1) (.int .i64 s2) U (Nat.le_refl _) hN2).1, Nat.le_refl _⟩

end Go.Proofs.Ytolcndchfnifhab
