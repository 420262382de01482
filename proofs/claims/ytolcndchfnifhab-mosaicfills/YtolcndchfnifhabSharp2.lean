/- tone.Sharpen: what becomes of a pixel. -/
import Derived.Test.YtolcndchfnifhabWAround
import Derived.Test.YtolcndchfnifhabSharp1
namespace Go.Proofs.Ytolcndchfnifhab
open Go.RowKit Go.Shelf

/-- what Sharpen makes of the pixel j. -/
def sharpP (ps : List Px) (W H : Nat) (amount : Int) (j : Nat) : Px :=
  (sharpV (pxAt ps j).1 (wF ps W H (j % W) (j / W) (List.finRange 8)).1 amount, sharpV (pxAt ps j).2.1 (wF ps W H (j % W) (j / W) (List.finRange 8)).2.1 amount, sharpV (pxAt ps j).2.2 (wF ps W H (j % W) (j / W) (List.finRange 8)).2.2 amount)

theorem two_set {wy U : World} {B6 B7 : Nat} {t : TypeId} {z : Array Value} (hz : ∃ a b c, z = #[a, b, c]) (h6 : wy.heap[B6]? = some (.cells z t (0, 0))) (h7 : wy.heap[B7]? = some (.cells z t (0, 0))) (hne : B6 ≠ B7) (hU : Below U.heap.size U wy) (l6 : U.heap.size ≤ B6) (l7 : U.heap.size ≤ B7) (a b c d e f : Value) :
    Below U.heap.size U ((((((wy.setCell ⟨B6, 0, none⟩ a).setCell ⟨B6, 1, none⟩ b).setCell ⟨B6, 2, none⟩ c).setCell ⟨B7, 0, none⟩ d).setCell ⟨B7, 1, none⟩ e).setCell ⟨B7, 2, none⟩ f) ∧
      ((((((wy.setCell ⟨B6, 0, none⟩ a).setCell ⟨B6, 1, none⟩ b).setCell ⟨B6, 2, none⟩ c).setCell ⟨B7, 0, none⟩ d).setCell ⟨B7, 1, none⟩ e).setCell ⟨B7, 2, none⟩ f).heap[B6]? = some (.cells #[a, b, c] t (0, 0)) ∧
      ((((((wy.setCell ⟨B6, 0, none⟩ a).setCell ⟨B6, 1, none⟩ b).setCell ⟨B6, 2, none⟩ c).setCell ⟨B7, 0, none⟩ d).setCell ⟨B7, 1, none⟩ e).setCell ⟨B7, 2, none⟩ f).heap[B7]? = some (.cells #[d, e, f] t (0, 0)) ∧ U.heap.size ≤ B6 ∧ U.heap.size ≤ B7 := by
  obtain ⟨x, y, u, rfl⟩ := hz
  obtain ⟨p1, p2, p3, p4⟩ := box3_set h6 a b c U l6 hU
  have h7' := (p2 B7 (Ne.symm hne)).trans h7
  obtain ⟨q1, q2, q3, q4⟩ := box3_set h7' d e f U l7 p4
  exact ⟨q4, (q2 B6 hne).trans p1, q1, l6, l7⟩
theorem one_set {wy U : World} {B : Nat} {t : TypeId} {z : Array Value} (hz : ∃ a b c, z = #[a, b, c]) (h6 : wy.heap[B]? = some (.cells z t (0, 0))) (hU : Below U.heap.size U wy) (l6 : U.heap.size ≤ B) (a b c : Value) (y : Array Value) :
    Below U.heap.size U ((((wy.setCell ⟨B, 0, none⟩ a).setCell ⟨B, 1, none⟩ b).setCell ⟨B, 2, none⟩ c).alloc (Obj.cells y t)) ∧ ((((wy.setCell ⟨B, 0, none⟩ a).setCell ⟨B, 1, none⟩ b).setCell ⟨B, 2, none⟩ c).alloc (Obj.cells y t)).heap[B]? = some (.cells #[a, b, c] t (0, 0)) ∧
      ((((wy.setCell ⟨B, 0, none⟩ a).setCell ⟨B, 1, none⟩ b).setCell ⟨B, 2, none⟩ c).alloc (Obj.cells y t)).heap[wy.heap.size]? = some (.cells y t (0, 0)) ∧ U.heap.size ≤ B ∧ U.heap.size ≤ wy.heap.size := by
  obtain ⟨x, y', u, rfl⟩ := hz
  obtain ⟨p1, p2, p3, p4⟩ := box3_set h6 a b c U l6 hU
  have hl := (Array.getElem?_eq_some_iff.1 h6).1
  refine ⟨p4.alloc p4.size _, (Below.heap_alloc _ _ _ (by omega)).trans p1, ?_, l6, hU.size⟩
  have h := al1 (((wy.setCell ⟨B, 0, none⟩ a).setCell ⟨B, 1, none⟩ b).setCell ⟨B, 2, none⟩ c) (Obj.cells y t)
  rw [p3] at h; exact h
theorem no_set {wy U : World} {t : TypeId} (hU : Below U.heap.size U wy) (x y : Array Value) :
    Below U.heap.size U ((wy.alloc (Obj.cells x t)).alloc (Obj.cells y t)) ∧ ((wy.alloc (Obj.cells x t)).alloc (Obj.cells y t)).heap[wy.heap.size]? = some (.cells x t (0, 0)) ∧ ((wy.alloc (Obj.cells x t)).alloc (Obj.cells y t)).heap[wy.heap.size + 1]? = some (.cells y t (0, 0)) ∧ U.heap.size ≤ wy.heap.size ∧ U.heap.size ≤ wy.heap.size + 1 := by
  obtain ⟨h1, h2⟩ := al2 wy (Obj.cells x t) (Obj.cells y t)
  have := hU.size
  exact ⟨(hU.alloc hU.size _).alloc (by simp; omega) _, h1, h2, this, by omega⟩
theorem swap45 {A B C D E : Prop} (h : A ∧ B ∧ C ∧ D ∧ E) : A ∧ C ∧ B ∧ E ∧ D := ⟨h.1, h.2.2.1, h.2.1, h.2.2.2.2, h.2.2.2.1⟩

set_option maxRecDepth 100000 in
set_option maxHeartbeats 4000000 in
theorem sharpen2_any (W H j bk off ca : Nat) (hW1 : 1 ≤ W) (hW : W ≤ 64) (hH1 : 1 ≤ H) (hH : H ≤ 64) (amount : Int) (ha0 : 0 ≤ amount) (ha1 : amount ≤ 1024) (ps : List Px) (hlen : ps.length = H * W) (hps : pxsOk ps = true) (hj : j < ps.length) (Bq Bg Bf Ba : Nat) (V : World)
    (hbk : bk < V.heap.size) (hBq : Bq < V.heap.size) (hBg : Bg < V.heap.size) (hBf : Bf < V.heap.size) (hBa : Ba < V.heap.size)
    (kq0 : V.cell? ⟨Bq, 0, none⟩ = some (.int .i64 W)) (kq1 : V.cell? ⟨Bq, 1, none⟩ = some (.int .i64 H)) (kq2 : V.cell? ⟨Bq, 2, none⟩ = some (.slice (some ⟨bk, off, none⟩) ps.length ca)) (kg0 : V.cell? ⟨Bg, 0, none⟩ = some (.int .i64 W)) (kg1 : V.cell? ⟨Bg, 1, none⟩ = some (.int .i64 H))
    (kf : V.cell? ⟨Bf, 0, none⟩ = some (.func (.func 85) #[] #[.pointer (some ⟨Ba, 0, none⟩)])) (ka : V.cell? ⟨Ba, 0, none⟩ = some (.int .i64 amount))
    (hcell : ∀ j, j < ps.length → V.cell? ⟨bk, off + j * 3, none⟩ = some (.int .i64 (pxAt ps j).1) ∧ V.cell? ⟨bk, off + j * 3 + 1, none⟩ = some (.int .i64 (pxAt ps j).2.1) ∧ V.cell? ⟨bk, off + j * 3 + 2, none⟩ = some (.int .i64 (pxAt ps j).2.2)) :
    Calls Try.prog 86 #[.agg #[.int .i64 (j % W : Nat), .int .i64 (j / W : Nat)], .pointer (some ⟨Bq, 0, none⟩), .pointer (some ⟨Bg, 0, none⟩), .pointer (some ⟨Bf, 0, none⟩)] V fun e V' => e = .returned (pixV (sharpP ps W H amount j)) ∧ Below V.heap.size V V' := by
  have hl4 : ps.length ≤ 4096 := by rw [hlen]; exact Nat.le_trans (Nat.mul_le_mul hH hW) (by decide)
  have HSP := hide (show sharpP ps W H amount j = (sharpV (pxAt ps j).1 (wF ps W H (j % W) (j / W) (List.finRange 8)).1 amount, sharpV (pxAt ps j).2.1 (wF ps W H (j % W) (j / W) (List.finRange 8)).2.1 amount, sharpV (pxAt ps j).2.2 (wF ps W H (j % W) (j / W) (List.finRange 8)).2.2 amount) from rfl)
  generalize sharpP ps W H amount j = RES at *
  have hXW : j % W < W := Nat.mod_lt _ (by omega)
  have hYH : j / W < H := by rw [hlen] at hj; exact Nat.div_lt_of_lt_mul (by rw [Nat.mul_comm]; exact hj)
  obtain ⟨X, hX⟩ : ∃ X, j % W = X := ⟨_, rfl⟩
  obtain ⟨Y, hY⟩ : ∃ Y, j / W = Y := ⟨_, rfl⟩
  have hk : Y * W + X = j := by rw [← hX, ← hY, Nat.mul_comm]; exact Nat.div_add_mod j W
  rw [hX] at hXW
  rw [hY] at hYH
  rw [hX, hY] at HSP
  rw [hX, hY]
  clear hX hY
  have HK := hide hk
  have HLEN := hide hlen
  have HPS := hide hps
  have HC := hide hcell
  clear hk hlen hps hcell
  obtain ⟨⟨r, g, u⟩, hp⟩ : ∃ p, pxAt ps j = p := ⟨_, rfl⟩
  obtain ⟨⟨s0, s1, s2⟩, hs⟩ : ∃ s, wF ps W H X Y (List.finRange 8) = s := ⟨_, rfl⟩
  obtain ⟨⟨r1, r2⟩, ⟨g1, g2⟩, u1, u2⟩ := (pxOk_iff _).1 (pxAt_ok HPS.out j)
  obtain ⟨⟨o1, o2⟩, ⟨o3, o4⟩, o5, o6⟩ := pxUpto_mono (wF_upto HPS.out W H X Y (List.finRange 8)) (show 4 + 2 * (((List.finRange 8).length : Nat) : Int) ≤ 32 by decide)
  obtain ⟨c0, c1, c2⟩ := HC.out j hj
  rw [hp] at r1 r2 g1 g2 u1 u2 c0 c1 c2 HSP
  rw [hs] at o1 o2 o3 o4 o5 o6 HSP
  have HWF := hide hs
  clear hp hs
  have HB1 := be2 V (Obj.cells #[.int .i64 X, .int .i64 Y] 93) (Obj.cells #[.int .i64 0, .int .i64 0, .int .i64 0] 50)
  obtain ⟨n1, n2⟩ := al2 V (Obj.cells #[.int .i64 X, .int .i64 Y] 93) (Obj.cells #[.int .i64 0, .int .i64 0, .int .i64 0] 50)
  have hsU : ((V.alloc (Obj.cells #[.int .i64 X, .int .i64 Y] 93)).alloc (Obj.cells #[.int .i64 0, .int .i64 0, .int .i64 0] 50)).heap.size = V.heap.size + 2 := by simp
  go_enter Try.func86, Try.ntmps86
  go_wp2_with fail
  generalize (V.alloc (Obj.cells #[.int .i64 X, .int .i64 Y] 93)).alloc (Obj.cells #[.int .i64 0, .int .i64 0, .int .i64 0] 50) = U at *
  replace hsU := Nat.le_of_eq hsU.symm
  have HS := hide (show ∀ w', Below U.heap.size U w' → (w'.cell? ⟨Bq, 0, none⟩ = some (.int .i64 W) ∧ w'.cell? ⟨Bq, 1, none⟩ = some (.int .i64 H) ∧ w'.cell? ⟨Bq, 2, none⟩ = some (.slice (some ⟨bk, off, none⟩) ps.length ca) ∧ w'.cell? ⟨Bg, 0, none⟩ = some (.int .i64 W) ∧ w'.cell? ⟨Bg, 1, none⟩ = some (.int .i64 H) ∧ w'.cell? ⟨V.heap.size, 0, none⟩ = some (.int .i64 X) ∧ w'.cell? ⟨V.heap.size, 1, none⟩ = some (.int .i64 Y) ∧
      w'.cell? ⟨bk, off + j * 3, none⟩ = some (.int .i64 r) ∧ w'.cell? ⟨bk, off + j * 3 + 1, none⟩ = some (.int .i64 g) ∧ w'.cell? ⟨bk, off + j * 3 + 2, none⟩ = some (.int .i64 u)) from fun w' h => by
    have hV := HB1.trans (h.mono HB1.size)
    have hn := (h.block V.heap.size (by omega)).trans n1
    exact ⟨(hV.cell (p := ⟨Bq, 0, none⟩) hBq).trans kq0, (hV.cell (p := ⟨Bq, 1, none⟩) hBq).trans kq1, (hV.cell (p := ⟨Bq, 2, none⟩) hBq).trans kq2, (hV.cell (p := ⟨Bg, 0, none⟩) hBg).trans kg0, (hV.cell (p := ⟨Bg, 1, none⟩) hBg).trans kg1, by rw [Lib.cell_of_heap hn]; rfl, by rw [Lib.cell_of_heap hn]; rfl, (hV.cell (p := ⟨bk, off + j * 3, none⟩) hbk).trans c0, (hV.cell (p := ⟨bk, off + j * 3 + 1, none⟩) hbk).trans c1, (hV.cell (p := ⟨bk, off + j * 3 + 2, none⟩) hbk).trans c2⟩)
  have HIX := hide (show ∀ w', Below U.heap.size U w' → Calls Try.prog 58 #[.agg #[.int .i64 W, .int .i64 H], .agg #[.int .i64 X, .int .i64 Y]] w' fun e w'' => e = .returned (.int .i64 j) ∧ Below U.heap.size U w'' ∧ Below w'.heap.size w' w'' from fun w' h =>
    (index_any W H X Y W j rfl HK.out (by omega) w').mono fun e w'' h2 => ⟨h2.1, h.trans (h2.2.mono h.size), h2.2⟩)
  have HWA := hide (show ∀ w', Below U.heap.size U w' → Calls Try.prog 87 #[.agg #[.int .i64 W, .int .i64 H, .slice (some ⟨bk, off, none⟩) ps.length ca], .agg #[.int .i64 X, .int .i64 Y]] w' fun e w'' => e = .returned (.agg #[.int .i64 s0, .int .i64 s1, .int .i64 s2]) ∧ Below U.heap.size U w'' ∧ Below w'.heap.size w' w'' from fun w' h => by
    have hV := HB1.trans (h.mono HB1.size)
    have h2 := weighedAround_any W H X Y bk off ca hW1 hW hH1 hH hXW hYH ps HLEN.out HPS.out w' (by have := hV.size; omega) (fun i hi => by
      obtain ⟨d0, d1, d2⟩ := HC.out i hi
      exact ⟨(hV.cell (p := ⟨bk, off + i * 3, none⟩) hbk).trans d0, (hV.cell (p := ⟨bk, off + i * 3 + 1, none⟩) hbk).trans d1, (hV.cell (p := ⟨bk, off + i * 3 + 2, none⟩) hbk).trans d2⟩)
    rw [HWF.out] at h2
    exact h2.mono fun e w'' h2 => ⟨h2.1, h.trans (h2.2.mono h.size), h2.2⟩)
  have HSA := hide (show ∀ w' o, Below U.heap.size U w' → Below U.heap.size U (w'.alloc o) from fun w' o h => h.alloc h.size o)
  have HS3 := hide (show ∀ w' b x y z, Below U.heap.size U w' → U.heap.size ≤ b → Below U.heap.size U (((w'.setCell ⟨b, 0, none⟩ x).setCell ⟨b, 1, none⟩ y).setCell ⟨b, 2, none⟩ z) from fun w' b x y z h hb => set3_below h hb x y z)
  have hdrew : Below U.heap.size U U.drew := (Below.refl _ _).drew
  have hrefl : Below U.heap.size U U := Below.refl _ _
  have HZ1 := hide (show (U.alloc (Obj.cells #[.int .i64 0, .int .i64 0, .int .i64 0] 50)).drew.heap[U.heap.size]? = some (.cells #[.int .i64 0, .int .i64 0, .int .i64 0] 50 (0, 0)) from al1 U _)
  have HZ2a := hide (show ((U.alloc (Obj.cells #[.int .i64 0, .int .i64 0, .int .i64 0] 50)).alloc (Obj.cells #[.int .i64 0, .int .i64 0, .int .i64 0] 50)).drew.heap[U.heap.size]? = some (.cells #[.int .i64 0, .int .i64 0, .int .i64 0] 50 (0, 0)) from (al2 U _ _).1)
  have HZ2b := hide (show ((U.alloc (Obj.cells #[.int .i64 0, .int .i64 0, .int .i64 0] 50)).alloc (Obj.cells #[.int .i64 0, .int .i64 0, .int .i64 0] 50)).drew.heap[U.heap.size + 1]? = some (.cells #[.int .i64 0, .int .i64 0, .int .i64 0] 50 (0, 0)) from (al2 U _ _).2)
  have HLT1 := hide (show True → U.heap.size < (U.alloc (Obj.cells #[.int .i64 0, .int .i64 0, .int .i64 0] 50)).drew.heap.size from fun _ => by show _ < (U.alloc (Obj.cells #[.int .i64 0, .int .i64 0, .int .i64 0] 50)).heap.size; simp)
  have HLT := hide (show True → U.heap.size < ((U.alloc (Obj.cells #[.int .i64 0, .int .i64 0, .int .i64 0] 50)).alloc (Obj.cells #[.int .i64 0, .int .i64 0, .int .i64 0] 50)).drew.heap.size from fun _ => by show _ < ((U.alloc (Obj.cells #[.int .i64 0, .int .i64 0, .int .i64 0] 50)).alloc (Obj.cells #[.int .i64 0, .int .i64 0, .int .i64 0] 50)).heap.size; simp; omega)
  have HLT2 := hide (show True → U.heap.size + 1 < ((U.alloc (Obj.cells #[.int .i64 0, .int .i64 0, .int .i64 0] 50)).alloc (Obj.cells #[.int .i64 0, .int .i64 0, .int .i64 0] 50)).drew.heap.size from fun _ => by show _ < ((U.alloc (Obj.cells #[.int .i64 0, .int .i64 0, .int .i64 0] 50)).alloc (Obj.cells #[.int .i64 0, .int .i64 0, .int .i64 0] 50)).heap.size; simp)
  have HLA := hide (show ∀ (w' : World) (b : Nat), b < w'.heap.size → b < (w'.alloc (Obj.cells #[.int .i64 0, .int .i64 0, .int .i64 0] 50)).heap.size from fun w' b h => by simp; omega)
  have HAL := hide (show ∀ (w' : World) (b : Nat), w'.heap[b]? = some (.cells #[.int .i64 0, .int .i64 0, .int .i64 0] 50 (0, 0)) → (w'.alloc (Obj.cells #[.int .i64 0, .int .i64 0, .int .i64 0] 50)).heap[b]? = some (.cells #[.int .i64 0, .int .i64 0, .int .i64 0] 50 (0, 0)) from fun w' b h => (Below.heap_alloc _ _ _ (Array.getElem?_eq_some_iff.1 h).1).trans h)
  have HLC1 := hide (show ∀ (w' : World), w'.heap.size < (w'.alloc (Obj.cells #[.int .i64 0, .int .i64 0, .int .i64 0] 50)).heap.size from fun w' => by simp)
  have HLC2 := hide (show ∀ (w' : World), w'.heap.size < ((w'.alloc (Obj.cells #[.int .i64 0, .int .i64 0, .int .i64 0] 50)).alloc (Obj.cells #[.int .i64 0, .int .i64 0, .int .i64 0] 50)).heap.size from fun w' => by simp; omega)
  have HLC3 := hide (show ∀ (w' : World), w'.heap.size + 1 < ((w'.alloc (Obj.cells #[.int .i64 0, .int .i64 0, .int .i64 0] 50)).alloc (Obj.cells #[.int .i64 0, .int .i64 0, .int .i64 0] 50)).heap.size from fun w' => by simp)
  refine wp_cut (fun a' M => ∃ B6 B7, a' = { tmps := #[.agg #[.int .i64 X, .int .i64 Y], .pointer (some ⟨Bq, 0, none⟩), .pointer (some ⟨Bg, 0, none⟩), .pointer (some ⟨Bf, 0, none⟩), .pointer (some ⟨V.heap.size, 0, none⟩), .pointer (some ⟨V.heap.size + 1, 0, none⟩), .pointer (some ⟨B6, 0, none⟩), .pointer (some ⟨B7, 0, none⟩), .pointer (some ⟨Bq, 2, none⟩), .slice (some ⟨bk, off, none⟩) ps.length ca, .agg #[.int .i64 W, .int .i64 H], .agg #[.int .i64 X, .int .i64 Y], .int .i64 j, .pointer (some ⟨bk, off + j * 3, none⟩), .agg #[.int .i64 r, .int .i64 g, .int .i64 u], .agg #[.int .i64 W, .int .i64 H, .slice (some ⟨bk, off, none⟩) ps.length ca], .agg #[.int .i64 X, .int .i64 Y], .agg #[.int .i64 s0, .int .i64 s1, .int .i64 s2], undef, undef, undef, undef, undef, undef, undef, undef, undef, undef, undef, undef, undef, undef, undef, undef, undef, undef, undef], defers := [] } ∧ Below U.heap.size U M ∧ M.heap[B6]? = some (.cells #[.int .i64 r, .int .i64 g, .int .i64 u] 50 (0, 0)) ∧ M.heap[B7]? = some (.cells #[.int .i64 s0, .int .i64 s1, .int .i64 s2] 50 (0, 0)) ∧ U.heap.size ≤ B6 ∧ U.heap.size ≤ B7) ?_ ?_
  rotate_left
  · rintro a' M ⟨B6, B7, rfl, mB, m6, m7, l6, l7⟩
    have hz1 := (mB.block (V.heap.size + 1) (by omega)).trans n2
    have hVM := HB1.trans (mB.mono HB1.size)
    have hsM := mB.size
    have h6l := (Array.getElem?_eq_some_iff.1 m6).1
    have h7l := (Array.getElem?_eq_some_iff.1 m7).1
    have HSb := hide (show ∀ w', Below M.heap.size M w' → w'.cell? ⟨Bf, 0, none⟩ = some (.func (.func 85) #[] #[.pointer (some ⟨Ba, 0, none⟩)]) ∧ w'.cell? ⟨B6, 0, none⟩ = some (.int .i64 r) ∧ w'.cell? ⟨B6, 1, none⟩ = some (.int .i64 g) ∧ w'.cell? ⟨B6, 2, none⟩ = some (.int .i64 u) ∧ w'.cell? ⟨B7, 0, none⟩ = some (.int .i64 s0) ∧ w'.cell? ⟨B7, 1, none⟩ = some (.int .i64 s1) ∧ w'.cell? ⟨B7, 2, none⟩ = some (.int .i64 s2) from fun w' h => by
      have hV := hVM.trans (h.mono hVM.size)
      obtain ⟨e0, e1, e2⟩ := cells3 ((h.block B6 h6l).trans m6)
      obtain ⟨e3, e4, e5⟩ := cells3 ((h.block B7 h7l).trans m7)
      exact ⟨(hV.cell (p := ⟨Bf, 0, none⟩) hBf).trans kf, e0, e1, e2, e3, e4, e5⟩)
    have HSb3 := hide (show ∀ w' x y z, Below M.heap.size M w' → (((w'.setCell ⟨V.heap.size + 1, 0, none⟩ x).setCell ⟨V.heap.size + 1, 1, none⟩ y).setCell ⟨V.heap.size + 1, 2, none⟩ z).cell? ⟨Bf, 0, none⟩ = some (.func (.func 85) #[] #[.pointer (some ⟨Ba, 0, none⟩)]) ∧ (((w'.setCell ⟨V.heap.size + 1, 0, none⟩ x).setCell ⟨V.heap.size + 1, 1, none⟩ y).setCell ⟨V.heap.size + 1, 2, none⟩ z).cell? ⟨B6, 0, none⟩ = some (.int .i64 r) ∧ (((w'.setCell ⟨V.heap.size + 1, 0, none⟩ x).setCell ⟨V.heap.size + 1, 1, none⟩ y).setCell ⟨V.heap.size + 1, 2, none⟩ z).cell? ⟨B6, 1, none⟩ = some (.int .i64 g) ∧ (((w'.setCell ⟨V.heap.size + 1, 0, none⟩ x).setCell ⟨V.heap.size + 1, 1, none⟩ y).setCell ⟨V.heap.size + 1, 2, none⟩ z).cell? ⟨B6, 2, none⟩ = some (.int .i64 u) ∧ (((w'.setCell ⟨V.heap.size + 1, 0, none⟩ x).setCell ⟨V.heap.size + 1, 1, none⟩ y).setCell ⟨V.heap.size + 1, 2, none⟩ z).cell? ⟨B7, 0, none⟩ = some (.int .i64 s0) ∧ (((w'.setCell ⟨V.heap.size + 1, 0, none⟩ x).setCell ⟨V.heap.size + 1, 1, none⟩ y).setCell ⟨V.heap.size + 1, 2, none⟩ z).cell? ⟨B7, 1, none⟩ = some (.int .i64 s1) ∧ (((w'.setCell ⟨V.heap.size + 1, 0, none⟩ x).setCell ⟨V.heap.size + 1, 1, none⟩ y).setCell ⟨V.heap.size + 1, 2, none⟩ z).cell? ⟨B7, 2, none⟩ = some (.int .i64 s2) from fun w' x y z h => by
      have hh := HSb.out w' h
      have e1 : Bf ≠ V.heap.size + 1 := by omega
      have e2 : B6 ≠ V.heap.size + 1 := by omega
      have e3 : B7 ≠ V.heap.size + 1 := by omega
      rw [set3_cell _ _ _ e1, set3_cell _ _ _ e2, set3_cell _ _ _ e2, set3_cell _ _ _ e2, set3_cell _ _ _ e3, set3_cell _ _ _ e3, set3_cell _ _ _ e3]
      exact hh)
    have HSH := hide (show ∀ w' p q, Below M.heap.size M w' → 0 ≤ p → p ≤ 65535 → 0 ≤ q → q ≤ 2097120 → Calls Try.prog 85 #[.int .i64 p, .int .i64 q, .pointer (some ⟨Ba, 0, none⟩)] w' fun e w'' => e = .returned (.int .i64 (sharpV p q amount)) ∧ Below M.heap.size M w'' ∧ (w''.cell? ⟨V.heap.size + 1, 0, none⟩ = some (.int .i64 0) ∧ w''.cell? ⟨V.heap.size + 1, 1, none⟩ = some (.int .i64 0) ∧ w''.cell? ⟨V.heap.size + 1, 2, none⟩ = some (.int .i64 0)) ∧ w''.frozen? ⟨V.heap.size + 1, 0, none⟩ = false ∧ w''.frozen? ⟨V.heap.size + 1, 1, none⟩ = false ∧ w''.frozen? ⟨V.heap.size + 1, 2, none⟩ = false from fun w' p q h hp0 hp1 hq0 hq1 =>
      (sharper_any p q amount hp0 hp1 hq0 hq1 ha0 ha1 Ba w' (((hVM.trans (h.mono hVM.size)).cell (p := ⟨Ba, 0, none⟩) hBa).trans ka)).mono fun e w'' h2 => by
        obtain ⟨rfl, rfl⟩ := h2
        have hn := (h.block (V.heap.size + 1) (by omega)).trans hz1
        exact ⟨rfl, h, cells3 hn, Lib.frozen_of_heap hn 0, Lib.frozen_of_heap hn 1, Lib.frozen_of_heap hn 2⟩)
    have HFIN := hide (show ∀ w' x y z, Below M.heap.size M w' → Below V.heap.size V (((w'.setCell ⟨V.heap.size + 1, 0, none⟩ x).setCell ⟨V.heap.size + 1, 1, none⟩ y).setCell ⟨V.heap.size + 1, 2, none⟩ z) from fun w' x y z h => set3_below (hVM.trans (h.mono hVM.size)) (by omega) x y z)
    have hdrewM : Below M.heap.size M M.drew := (Below.refl _ _).drew
    have hreflM : Below M.heap.size M M := Below.refl _ _
    have o2' : s0 ≤ 2097120 := by omega
    have o4' : s1 ≤ 2097120 := by omega
    have o6' : s2 ≤ 2097120 := by omega
    clear n1 n2 c0 c1 c2 kq0 kq1 kq2 kg0 kg1 kf ka HS HIX HWA HSA HS3 hdrew hrefl m6 m7 hz1 o2 o4 o6
    go_wp2_with fail
    go_region_held3 (fun w' => w'.cell? ⟨Bf, 0, none⟩ = some (.func (.func 85) #[] #[.pointer (some ⟨Ba, 0, none⟩)]) ∧ w'.cell? ⟨B6, 0, none⟩ = some (.int .i64 r) ∧ w'.cell? ⟨B6, 1, none⟩ = some (.int .i64 g) ∧ w'.cell? ⟨B6, 2, none⟩ = some (.int .i64 u) ∧ w'.cell? ⟨B7, 0, none⟩ = some (.int .i64 s0) ∧ w'.cell? ⟨B7, 1, none⟩ = some (.int .i64 s1) ∧ w'.cell? ⟨B7, 2, none⟩ = some (.int .i64 s2))
      (first | (with_reducible refine HSb.out _ ?_; with_reducible assumption) | (with_reducible refine HSb3.out _ _ _ _ ?_; with_reducible assumption))
      (first
        | (go_at_call 85; refine (HSH.out _ _ _ ?_ ?_ ?_ ?_ ?_).mono ?_; assumption; assumption; assumption; assumption; assumption; rintro e wz ⟨rfl, hN3, ⟨z0, z1, z2⟩, f0, f1, f2⟩))
    all_goals
      go_wp2
      exact bodyPost_ret (v := .agg #[.int .i64 (sharpV r s0 amount), .int .i64 (sharpV g s1 amount), .int .i64 (sharpV u s2 amount)]) (by simp [results, Try.results86, go_sem, z0, z1, z2]) rfl ⟨by rw [HSP.out], HFIN.out _ _ _ _ (by assumption)⟩
  go_region_held3 (fun w' => (w'.cell? ⟨Bq, 0, none⟩ = some (.int .i64 W) ∧ w'.cell? ⟨Bq, 1, none⟩ = some (.int .i64 H) ∧ w'.cell? ⟨Bq, 2, none⟩ = some (.slice (some ⟨bk, off, none⟩) ps.length ca) ∧ w'.cell? ⟨Bg, 0, none⟩ = some (.int .i64 W) ∧ w'.cell? ⟨Bg, 1, none⟩ = some (.int .i64 H) ∧ w'.cell? ⟨V.heap.size, 0, none⟩ = some (.int .i64 X) ∧ w'.cell? ⟨V.heap.size, 1, none⟩ = some (.int .i64 Y) ∧
      w'.cell? ⟨bk, off + j * 3, none⟩ = some (.int .i64 r) ∧ w'.cell? ⟨bk, off + j * 3 + 1, none⟩ = some (.int .i64 g) ∧ w'.cell? ⟨bk, off + j * 3 + 2, none⟩ = some (.int .i64 u)))
    (first | (refine HS.out _ ?_; repeat (first | with_reducible assumption | (with_reducible refine HSA.out _ _ ?_) | (with_reducible refine HS3.out _ _ _ _ _ ?_ (by omega)) | (with_reducible refine below_drew'' ?_))))
    (first
      | (go_at_call 58; refine (HIX.out _ ?_).mono ?_; (repeat (first | with_reducible assumption | (with_reducible refine HSA.out _ _ ?_) | (with_reducible refine below_drew'' ?_))); rintro e wx ⟨rfl, hN, hNx⟩; have hszU := hN.size; (first | (with_reducible have hzA := (hNx.block U.heap.size (HLT.out trivial)).trans HZ2a.out; with_reducible have hzB := (hNx.block (U.heap.size + 1) (HLT2.out trivial)).trans HZ2b.out; have hszA : U.heap.size < wx.heap.size := (Array.getElem?_eq_some_iff.1 hzA).1; have hszB : U.heap.size + 1 < wx.heap.size := (Array.getElem?_eq_some_iff.1 hzB).1) | (with_reducible have hzA := (hNx.block U.heap.size (HLT1.out trivial)).trans HZ1.out; have hszA : U.heap.size < wx.heap.size := (Array.getElem?_eq_some_iff.1 hzA).1) | skip))
      | (go_at_call 87; refine (HWA.out _ ?_).mono ?_; (repeat (first | with_reducible assumption | (with_reducible refine HSA.out _ _ ?_) | (with_reducible refine below_drew'' ?_))); rintro e wy ⟨rfl, hN2, hNy⟩; have hszV := hN2.size; (first | (with_reducible have yA := (hNy.block U.heap.size hszA).trans hzA; have ysA : U.heap.size < wy.heap.size := (Array.getElem?_eq_some_iff.1 yA).1) | (with_reducible have yA := (hNy.block U.heap.size (HLA.out _ _ hszA)).trans (HAL.out _ _ hzA); have ysA : U.heap.size < wy.heap.size := (Array.getElem?_eq_some_iff.1 yA).1) | skip); (first | (with_reducible have yB := (hNy.block (U.heap.size + 1) hszB).trans hzB; have ysB : U.heap.size + 1 < wy.heap.size := (Array.getElem?_eq_some_iff.1 yB).1) | skip); (first | (with_reducible have yC := (hNy.block wx.heap.size (HLC2.out _)).trans (al2 wx _ _).1; with_reducible have yD := (hNy.block (wx.heap.size + 1) (HLC3.out _)).trans (al2 wx _ _).2; have ysC : wx.heap.size < wy.heap.size := (Array.getElem?_eq_some_iff.1 yC).1; have ysD : wx.heap.size + 1 < wy.heap.size := (Array.getElem?_eq_some_iff.1 yD).1) | (with_reducible have yC := (hNy.block wx.heap.size (HLC1.out _)).trans (al1 wx _); have ysC : wx.heap.size < wy.heap.size := (Array.getElem?_eq_some_iff.1 yC).1) | skip); (try (obtain ⟨yA0, yA1, yA2⟩ := cells3 yA; have yAf0 := Lib.frozen_of_heap yA 0; have yAf1 := Lib.frozen_of_heap yA 1; have yAf2 := Lib.frozen_of_heap yA 2)); (try (obtain ⟨yB0, yB1, yB2⟩ := cells3 yB; have yBf0 := Lib.frozen_of_heap yB 0; have yBf1 := Lib.frozen_of_heap yB 1; have yBf2 := Lib.frozen_of_heap yB 2)); (try (obtain ⟨yC0, yC1, yC2⟩ := cells3 yC; have yCf0 := Lib.frozen_of_heap yC 0; have yCf1 := Lib.frozen_of_heap yC 1; have yCf2 := Lib.frozen_of_heap yC 2)); (try (obtain ⟨yD0, yD1, yD2⟩ := cells3 yD; have yDf0 := Lib.frozen_of_heap yD 0; have yDf1 := Lib.frozen_of_heap yD 1; have yDf2 := Lib.frozen_of_heap yD 2)); (try (have ne1 : ¬ U.heap.size = wx.heap.size := by omega; have ne2 : ¬ wx.heap.size = U.heap.size := by omega)); (try (have ne3 : ¬ U.heap.size = wy.heap.size := by omega; have ne4 : ¬ wy.heap.size = U.heap.size := by omega)); (try (have ne5 : ¬ wx.heap.size = wy.heap.size := by omega; have ne6 : ¬ wy.heap.size = wx.heap.size := by omega))))
  all_goals show ∃ B6 B7, _
  all_goals first
    | with_reducible exact ⟨wy.heap.size, wy.heap.size + 1, rfl, no_set hN2 _ _⟩
    | with_reducible exact ⟨wy.heap.size + 1, wy.heap.size, rfl, swap45 (no_set hN2 _ _)⟩
    | with_reducible exact ⟨wx.heap.size, wy.heap.size, rfl, one_set ⟨_, _, _, rfl⟩ yC hN2 hszU _ _ _ _⟩
    | with_reducible exact ⟨wy.heap.size, wx.heap.size, rfl, swap45 (one_set ⟨_, _, _, rfl⟩ yC hN2 hszU _ _ _ _)⟩
    | with_reducible exact ⟨U.heap.size, wy.heap.size, rfl, one_set ⟨_, _, _, rfl⟩ yA hN2 (Nat.le_refl _) _ _ _ _⟩
    | with_reducible exact ⟨wy.heap.size, U.heap.size, rfl, swap45 (one_set ⟨_, _, _, rfl⟩ yA hN2 (Nat.le_refl _) _ _ _ _)⟩
    | with_reducible exact ⟨wx.heap.size, wx.heap.size + 1, rfl, two_set ⟨_, _, _, rfl⟩ yC yD (by omega) hN2 hszU (Nat.le_succ_of_le hszU) _ _ _ _ _ _⟩
    | with_reducible exact ⟨wx.heap.size + 1, wx.heap.size, rfl, two_set ⟨_, _, _, rfl⟩ yD yC (by omega) hN2 (Nat.le_succ_of_le hszU) hszU _ _ _ _ _ _⟩
    | with_reducible exact ⟨U.heap.size, wx.heap.size, rfl, two_set ⟨_, _, _, rfl⟩ yA yC (by omega) hN2 (Nat.le_refl _) hszU _ _ _ _ _ _⟩
    | with_reducible exact ⟨U.heap.size, U.heap.size + 1, rfl, two_set ⟨_, _, _, rfl⟩ yA yB (by omega) hN2 (Nat.le_refl _) (Nat.le_succ _) _ _ _ _ _ _⟩
    | with_reducible exact ⟨wx.heap.size, U.heap.size, rfl, two_set ⟨_, _, _, rfl⟩ yC yA (by omega) hN2 hszU (Nat.le_refl _) _ _ _ _ _ _⟩
    | with_reducible exact ⟨U.heap.size + 1, U.heap.size, rfl, two_set ⟨_, _, _, rfl⟩ yB yA (by omega) hN2 (Nat.le_succ _) (Nat.le_refl _) _ _ _ _ _ _⟩

end Go.Proofs.Ytolcndchfnifhab
