/- Far: part 2 of what the proofs need. -/
import Derived.Test.YtolcndchfnifhacC1Far
import Derived.Deep.Cut
import Derived.Deep.RegionHeld3
import Derived.OrdersHeld
namespace Go.Proofs.Ytolcndchfnifhac
open Go.RowKit
set_option maxRecDepth 100000 in
set_option maxHeartbeats 1600000 in
theorem each1_any (W H j bk off ca : Nat) (ps : List Px) (hj : j < ps.length) (h4096 : ps.length ≤ 4096) (tf : Nat) (caps : Array Value) (q : Px) (Bf Bq Bg : Nat) (V : World) (eg : ∀ args w, (callFunc tf args).run Try.prog w = .ok (.enter tf args) w)
    (hbk : bk < V.heap.size) (hBf : Bf < V.heap.size) (hBq : Bq < V.heap.size) (hBg : Bg < V.heap.size)
    (kf : V.cell? ⟨Bf, 0, none⟩ = some (.func (.func tf) #[] caps)) (kq : V.cell? ⟨Bq, 2, none⟩ = some (.slice (some ⟨bk, off, none⟩) ps.length ca)) (kg0 : V.cell? ⟨Bg, 0, none⟩ = some (.int .i64 W)) (kg1 : V.cell? ⟨Bg, 1, none⟩ = some (.int .i64 H))
    (c0 : V.cell? ⟨bk, off + j * 3, none⟩ = some (.int .i64 ps[j].1)) (c1 : V.cell? ⟨bk, off + j * 3 + 1, none⟩ = some (.int .i64 ps[j].2.1)) (c2 : V.cell? ⟨bk, off + j * 3 + 2, none⟩ = some (.int .i64 ps[j].2.2))
    (hbe : ∀ U, Below V.heap.size V U → Calls Try.prog tf (#[pixV ps[j]] ++ caps) U fun e U' => e = .returned (pixV q) ∧ Below U.heap.size U U') :
    Calls Try.prog 84 #[.agg #[.int .i64 (j % W : Nat), .int .i64 (j / W : Nat)], .pointer (some ⟨Bf, 0, none⟩), .pointer (some ⟨Bq, 0, none⟩), .pointer (some ⟨Bg, 0, none⟩)] V fun e V' => e = .returned (pixV q) ∧ Below V.heap.size V V' := by
  obtain ⟨X, hX⟩ : ∃ X, j % W = X := ⟨_, rfl⟩
  obtain ⟨Y, hY⟩ : ∃ Y, j / W = Y := ⟨_, rfl⟩
  have hk : Y * W + X = j := by rw [← hX, ← hY, Nat.mul_comm]; exact Nat.div_add_mod j W
  rw [hX, hY]
  clear hX hY
  have HK := hide hk
  clear hk
  obtain ⟨⟨r, g, u⟩, hp⟩ : ∃ p, ps[j] = p := ⟨_, rfl⟩
  rw [hp] at c0 c1 c2 hbe
  simp only at c0 c1 c2
  clear hp
  obtain ⟨q0, q1, q2⟩ := q
  have HB1 := bel_trans (bel_alloc V (Obj.cells #[.int .i64 X, .int .i64 Y] 77)) (bel_alloc _ (Obj.cells #[.int .i64 0, .int .i64 0, .int .i64 0] 41))
  have n1 : ((V.alloc (Obj.cells #[.int .i64 X, .int .i64 Y] 77)).alloc (Obj.cells #[.int .i64 0, .int .i64 0, .int .i64 0] 41)).heap[V.heap.size]? = some (.cells #[.int .i64 X, .int .i64 Y] 77 (0, 0)) := by
    rw [Below.heap_alloc _ _ _ (by simp)]; exact heap_alloc_new V _
  have n2 : ((V.alloc (Obj.cells #[.int .i64 X, .int .i64 Y] 77)).alloc (Obj.cells #[.int .i64 0, .int .i64 0, .int .i64 0] 41)).heap[V.heap.size + 1]? = some (.cells #[.int .i64 0, .int .i64 0, .int .i64 0] 41 (0, 0)) := by
    have h := heap_alloc_new (V.alloc (Obj.cells #[.int .i64 X, .int .i64 Y] 77)) (Obj.cells #[.int .i64 0, .int .i64 0, .int .i64 0] 41)
    rw [World.size_alloc] at h; exact h
  have hsU : ((V.alloc (Obj.cells #[.int .i64 X, .int .i64 Y] 77)).alloc (Obj.cells #[.int .i64 0, .int .i64 0, .int .i64 0] 41)).heap.size = V.heap.size + 2 := by simp
  go_enter Try.func84, Try.ntmps84
  go_wp2_with fail
  generalize (V.alloc (Obj.cells #[.int .i64 X, .int .i64 Y] 77)).alloc (Obj.cells #[.int .i64 0, .int .i64 0, .int .i64 0] 41) = U at *
  have HS := hide (show ∀ w', Below U.heap.size U w' → w'.cell? ⟨Bf, 0, none⟩ = some (.func (.func tf) #[] caps) ∧ w'.cell? ⟨Bq, 2, none⟩ = some (.slice (some ⟨bk, off, none⟩) ps.length ca) ∧ w'.cell? ⟨Bg, 0, none⟩ = some (.int .i64 W) ∧ w'.cell? ⟨Bg, 1, none⟩ = some (.int .i64 H) ∧
      w'.cell? ⟨bk, off + j * 3, none⟩ = some (.int .i64 r) ∧ w'.cell? ⟨bk, off + j * 3 + 1, none⟩ = some (.int .i64 g) ∧ w'.cell? ⟨bk, off + j * 3 + 2, none⟩ = some (.int .i64 u) ∧ w'.cell? ⟨V.heap.size, 0, none⟩ = some (.int .i64 X) ∧ w'.cell? ⟨V.heap.size, 1, none⟩ = some (.int .i64 Y) from fun w' h => by
    have hV := HB1.trans (h.mono HB1.size)
    have hn := (h.block V.heap.size (by omega)).trans n1
    exact ⟨(hV.cell (p := ⟨Bf, 0, none⟩) hBf).trans kf, (hV.cell (p := ⟨Bq, 2, none⟩) hBq).trans kq, (hV.cell (p := ⟨Bg, 0, none⟩) hBg).trans kg0, (hV.cell (p := ⟨Bg, 1, none⟩) hBg).trans kg1, (hV.cell (p := ⟨bk, off + j * 3, none⟩) hbk).trans c0, (hV.cell (p := ⟨bk, off + j * 3 + 1, none⟩) hbk).trans c1, (hV.cell (p := ⟨bk, off + j * 3 + 2, none⟩) hbk).trans c2, by rw [Lib.cell_of_heap hn]; rfl, by rw [Lib.cell_of_heap hn]; rfl⟩)
  have HS3 := hide (show ∀ w' x y z, Below U.heap.size U w' → ((((w'.setCell ⟨V.heap.size + 1, 0, none⟩ x).setCell ⟨V.heap.size + 1, 1, none⟩ y).setCell ⟨V.heap.size + 1, 2, none⟩ z).cell? ⟨Bf, 0, none⟩ = some (.func (.func tf) #[] caps) ∧ (((w'.setCell ⟨V.heap.size + 1, 0, none⟩ x).setCell ⟨V.heap.size + 1, 1, none⟩ y).setCell ⟨V.heap.size + 1, 2, none⟩ z).cell? ⟨Bq, 2, none⟩ = some (.slice (some ⟨bk, off, none⟩) ps.length ca) ∧ (((w'.setCell ⟨V.heap.size + 1, 0, none⟩ x).setCell ⟨V.heap.size + 1, 1, none⟩ y).setCell ⟨V.heap.size + 1, 2, none⟩ z).cell? ⟨Bg, 0, none⟩ = some (.int .i64 W) ∧ (((w'.setCell ⟨V.heap.size + 1, 0, none⟩ x).setCell ⟨V.heap.size + 1, 1, none⟩ y).setCell ⟨V.heap.size + 1, 2, none⟩ z).cell? ⟨Bg, 1, none⟩ = some (.int .i64 H) ∧
      (((w'.setCell ⟨V.heap.size + 1, 0, none⟩ x).setCell ⟨V.heap.size + 1, 1, none⟩ y).setCell ⟨V.heap.size + 1, 2, none⟩ z).cell? ⟨bk, off + j * 3, none⟩ = some (.int .i64 r) ∧ (((w'.setCell ⟨V.heap.size + 1, 0, none⟩ x).setCell ⟨V.heap.size + 1, 1, none⟩ y).setCell ⟨V.heap.size + 1, 2, none⟩ z).cell? ⟨bk, off + j * 3 + 1, none⟩ = some (.int .i64 g) ∧ (((w'.setCell ⟨V.heap.size + 1, 0, none⟩ x).setCell ⟨V.heap.size + 1, 1, none⟩ y).setCell ⟨V.heap.size + 1, 2, none⟩ z).cell? ⟨bk, off + j * 3 + 2, none⟩ = some (.int .i64 u) ∧ (((w'.setCell ⟨V.heap.size + 1, 0, none⟩ x).setCell ⟨V.heap.size + 1, 1, none⟩ y).setCell ⟨V.heap.size + 1, 2, none⟩ z).cell? ⟨V.heap.size, 0, none⟩ = some (.int .i64 X) ∧ (((w'.setCell ⟨V.heap.size + 1, 0, none⟩ x).setCell ⟨V.heap.size + 1, 1, none⟩ y).setCell ⟨V.heap.size + 1, 2, none⟩ z).cell? ⟨V.heap.size, 1, none⟩ = some (.int .i64 Y)) from fun w' x y z h => by
    have hh := HS.out w' h
    have e1 : Bf ≠ V.heap.size + 1 := by omega
    have e2 : Bq ≠ V.heap.size + 1 := by omega
    have e3 : Bg ≠ V.heap.size + 1 := by omega
    have e4 : bk ≠ V.heap.size + 1 := by omega
    have e5 : V.heap.size ≠ V.heap.size + 1 := by omega
    rw [set3_cell _ _ _ e1, set3_cell _ _ _ e2, set3_cell _ _ _ e3, set3_cell _ _ _ e3, set3_cell _ _ _ e4, set3_cell _ _ _ e4, set3_cell _ _ _ e4, set3_cell _ _ _ e5, set3_cell _ _ _ e5]
    exact hh)
  have HIX := hide (show ∀ w', Below U.heap.size U w' → Calls Try.prog 56 #[.agg #[.int .i64 W, .int .i64 H], .agg #[.int .i64 X, .int .i64 Y]] w' fun e w'' => e = .returned (.int .i64 j) ∧ Below U.heap.size U w'' from fun w' h =>
    (index_any W H X Y W j rfl HK.out (by omega) w').mono fun e w'' h2 => ⟨h2.1, h.trans (h2.2.mono h.size)⟩)
  have HBE := hide (show ∀ w', Below U.heap.size U w' → Calls Try.prog tf (#[.agg #[.int .i64 r, .int .i64 g, .int .i64 u]] ++ caps) w' fun e w'' => e = .returned (.agg #[.int .i64 q0, .int .i64 q1, .int .i64 q2]) ∧ Below U.heap.size U w'' ∧ (w''.cell? ⟨V.heap.size + 1, 0, none⟩ = some (.int .i64 0) ∧ w''.cell? ⟨V.heap.size + 1, 1, none⟩ = some (.int .i64 0) ∧ w''.cell? ⟨V.heap.size + 1, 2, none⟩ = some (.int .i64 0)) ∧ w''.frozen? ⟨V.heap.size + 1, 0, none⟩ = false ∧ w''.frozen? ⟨V.heap.size + 1, 1, none⟩ = false ∧ w''.frozen? ⟨V.heap.size + 1, 2, none⟩ = false from fun w' h =>
    (hbe w' (HB1.trans (h.mono HB1.size))).mono fun e w'' h2 => by
      have h3 := h.trans (h2.2.mono h.size)
      have hn := (h3.block (V.heap.size + 1) (by omega)).trans n2
      exact ⟨h2.1, h3, cells3 hn, Lib.frozen_of_heap hn 0, Lib.frozen_of_heap hn 1, Lib.frozen_of_heap hn 2⟩)
  have HFIN := hide (show ∀ w' x y z, Below U.heap.size U w' → Below V.heap.size V (((w'.setCell ⟨V.heap.size + 1, 0, none⟩ x).setCell ⟨V.heap.size + 1, 1, none⟩ y).setCell ⟨V.heap.size + 1, 2, none⟩ z) from fun w' x y z h => set3_below (HB1.trans (h.mono HB1.size)) (by omega) x y z)
  have hdrew : Below U.heap.size U U.drew := (Below.refl _ _).drew
  clear hbe n1 n2 kf kq kg0 kg1 c0 c1 c2
  go_region_held3 (fun w' => w'.cell? ⟨Bf, 0, none⟩ = some (.func (.func tf) #[] caps) ∧ w'.cell? ⟨Bq, 2, none⟩ = some (.slice (some ⟨bk, off, none⟩) ps.length ca) ∧ w'.cell? ⟨Bg, 0, none⟩ = some (.int .i64 W) ∧ w'.cell? ⟨Bg, 1, none⟩ = some (.int .i64 H) ∧
      w'.cell? ⟨bk, off + j * 3, none⟩ = some (.int .i64 r) ∧ w'.cell? ⟨bk, off + j * 3 + 1, none⟩ = some (.int .i64 g) ∧ w'.cell? ⟨bk, off + j * 3 + 2, none⟩ = some (.int .i64 u) ∧ w'.cell? ⟨V.heap.size, 0, none⟩ = some (.int .i64 X) ∧ w'.cell? ⟨V.heap.size, 1, none⟩ = some (.int .i64 Y))
    (first | (refine HS.out _ ?_; assumption) | (refine HS3.out _ _ _ _ ?_; assumption))
    (first
      | (go_at_call 56; refine (HIX.out _ ?_).mono ?_; assumption; rintro e wx ⟨rfl, hN⟩)
      | (refine (HBE.out _ ?_).mono ?_; assumption; rintro e wy ⟨rfl, hN2, ⟨z0, z1, z2⟩, f0, f1, f2⟩))
  have q0' := z0
  go_wp2
  exact bodyPost_ret (v := .agg #[.int .i64 q0, .int .i64 q1, .int .i64 q2]) (by simp [results, Try.results84, go_sem, z0, z1, z2]) rfl ⟨rfl, HFIN.out _ _ _ _ hN2⟩
theorem range_map {α : Type} [Inhabited α] {β : Type} (ps : List α) (f : α → β) (N : Nat) (h : ps.length = N) : (List.range N).map (fun j => f (ps.getD j default)) = ps.map f := by
  apply List.ext_getElem
  · simp [h]
  · intro i h1 h2
    simp at h1
    simp [List.getD_eq_getElem?_getD, List.getElem?_eq_getElem (show i < ps.length by omega)]
set_option maxRecDepth 100000 in
set_option maxHeartbeats 1600000 in
theorem each_any (W H : Nat) (hW : W ≤ 64) (hH : H ≤ 64) (v : Value) (ps : List Px) (hlen : ps.length = H * W) (tf : Nat) (caps : Array Value) (f : Px → Px) (w : World) (hv : IsPix w v ps) (eg : ∀ args w, (callFunc tf args).run Try.prog w = .ok (.enter tf args) w)
    (hbe : ∀ (j : Nat) (h : j < ps.length) (U : World), Below w.heap.size w U → Calls Try.prog tf (#[pixV ps[j]] ++ caps) U fun e U' => e = .returned (pixV (f ps[j])) ∧ Below U.heap.size U U') :
    Calls Try.prog 81 #[.agg #[.int .i64 W, .int .i64 H, v], .func (.func tf) #[] caps] w fun e w' => ∃ r, e = .returned (.agg #[.int .i64 W, .int .i64 H, r]) ∧ IsPix w' r (ps.map f) ∧ Below w.heap.size w w' ∧ Fresh w.heap.size r := by
  have HV := hide hv
  obtain ⟨ao, ca, rfl, hla, hc⟩ := hv
  have hl4 : ps.length ≤ 4096 := by rw [hlen]; exact Nat.le_trans (Nat.mul_le_mul hH hW) (by decide)
  have HLEN := hide hlen
  clear hlen
  go_enter Try.func81, Try.ntmps81
  go_wp2_with fail
  obtain ⟨a1, a2, a3, a4⟩ := al4 w (Obj.cells #[.int .i64 W, .int .i64 H, .slice ao ps.length ca] 34) (Obj.cells #[.func (.func tf) #[] caps] 137) (Obj.cells #[.int .i64 0, .int .i64 0, .slice none 0 0] 34) (Obj.cells #[.int .i64 W, .int .i64 H] 52)
  have hB4 := be4 w (Obj.cells #[.int .i64 W, .int .i64 H, .slice ao ps.length ca] 34) (Obj.cells #[.func (.func tf) #[] caps] 137) (Obj.cells #[.int .i64 0, .int .i64 0, .slice none 0 0] 34) (Obj.cells #[.int .i64 W, .int .i64 H] 52)
  have hs4 : ((((w.alloc (Obj.cells #[.int .i64 W, .int .i64 H, .slice ao ps.length ca] 34)).alloc (Obj.cells #[.func (.func tf) #[] caps] 137)).alloc (Obj.cells #[.int .i64 0, .int .i64 0, .slice none 0 0] 34)).alloc (Obj.cells #[.int .i64 W, .int .i64 H] 52)).heap.size = w.heap.size + 4 := by simp
  generalize (((w.alloc (Obj.cells #[.int .i64 W, .int .i64 H, .slice ao ps.length ca] 34)).alloc (Obj.cells #[.func (.func tf) #[] caps] 137)).alloc (Obj.cells #[.int .i64 0, .int .i64 0, .slice none 0 0] 34)).alloc (Obj.cells #[.int .i64 W, .int .i64 H] 52) = U at *
  refine (gridPicture_any W H (H * W) hW hH rfl 84 _ (fun j => f (ps.getD j default)) U (enters_of Try.func84 (by kernel_rfl) rfl) ?_).mono ?_
  · intro j V hj hV
    have hj' : j < ps.length := by rw [HLEN.out]; exact hj
    have hVw := hB4.trans (hV.mono hB4.size)
    obtain ⟨bk, off, hao, hbl, hcell⟩ : ∃ b off, ao = some ⟨b, off, none⟩ ∧ b < w.heap.size ∧ ∀ j (h : j < ps.length),
        w.cell? ⟨b, off + j * 3, none⟩ = some (.int .i64 ps[j].1) ∧ w.cell? ⟨b, off + j * 3 + 1, none⟩ = some (.int .i64 ps[j].2.1) ∧ w.cell? ⟨b, off + j * 3 + 2, none⟩ = some (.int .i64 ps[j].2.2) := by
      rcases hc with h | h
      · subst h; simp at hj'
      · exact h
    subst hao
    have g1 := (hV.block (w.heap.size) (by omega)).trans a1
    have g2 := (hV.block (w.heap.size + 1) (by omega)).trans a2
    have g4 := (hV.block (w.heap.size + 3) (by omega)).trans a4
    have hsV := hV.size
    obtain ⟨c0, c1, c2⟩ := hcell j hj'
    have hD : ps.getD j default = ps[j] := by simp [List.getD_eq_getElem?_getD, List.getElem?_eq_getElem hj']
    rw [hD]
    exact each1_any W H j bk off ca ps hj' hl4 tf caps (f ps[j]) (w.heap.size + 1) w.heap.size (w.heap.size + 3) V eg (by omega) (by omega) (by omega) (by omega)
      (by rw [Lib.cell_of_heap g2]; rfl) (by rw [Lib.cell_of_heap g1]; rfl) (by rw [Lib.cell_of_heap g4]; rfl) (by rw [Lib.cell_of_heap g4]; rfl)
      ((hVw.cell (p := ⟨bk, off + j * 3, none⟩) hbl).trans c0) ((hVw.cell (p := ⟨bk, off + j * 3 + 1, none⟩) hbl).trans c1) ((hVw.cell (p := ⟨bk, off + j * 3 + 2, none⟩) hbl).trans c2)
      (fun U' hU' => hbe j hj' U' (hVw.trans (hU'.mono hVw.size)))
  · rintro e w1 ⟨r, rfl, hr, hb, hfr⟩
    rw [range_map ps f (H * W) HLEN.out] at hr
    have g3 := (hb.block (w.heap.size + 1 + 1) (by omega)).trans a3
    obtain ⟨z0, z1, z2⟩ := cells3 g3
    have f0 := Lib.frozen_of_heap g3 0
    have f1 := Lib.frozen_of_heap g3 1
    have f2 := Lib.frozen_of_heap g3 2
    have HR := hide hr
    obtain ⟨ro, rc, rfl, _, _⟩ := hr
    have HFIN := hide (set3_below (hB4.trans (hb.mono hB4.size)) (show w.heap.size ≤ w.heap.size + 1 + 1 by omega) (.int .i64 W) (.int .i64 H) (.slice ro (ps.map f).length rc))
    have HPX := hide (HR.out.set3 hfr (show w.heap.size + 1 + 1 < U.heap.size by omega) (.int .i64 W) (.int .i64 H) (.slice ro (ps.map f).length rc))
    rw [List.length_map] at HPX HFIN hfr
    go_wp2
    exact bodyPost_ret (v := .agg #[.int .i64 W, .int .i64 H, .slice ro ps.length rc]) (by simp [results, Try.results81, go_sem, z0, z1, z2]) rfl ⟨_, rfl, HPX.out, HFIN.out, hfr.mono (by omega)⟩
end Go.Proofs.Ytolcndchfnifhac

namespace Go.Proofs.Ytolcndchfnifhac
open Go.RowKit
theorem heldQ (n : Int) (w : World) : Calls Try.prog 55 #[.int .i64 n] w fun e w' => e = .returned (.int .i64 (clampV n)) ∧ w' = w :=
  (held_any n w).mono fun _ _ h => ⟨h.1, h.2.symm⟩
theorem mul_bounds {a r A R : Int} (h1 : -A ≤ a) (h2 : a ≤ A) (h3 : 0 ≤ r) (h4 : r ≤ R) (hA : 0 ≤ A) : -(A * R) ≤ a * r ∧ a * r ≤ A * R := by
  have q1 := Int.mul_le_mul_of_nonneg_right h2 h3
  have q2 := Int.mul_le_mul_of_nonneg_right h1 h3
  have q3 := Int.mul_le_mul_of_nonneg_left h4 hA
  rw [Int.neg_mul] at q2
  omega
def mixV (a b c r g u : Int) : Int := clampV ((a * r + b * g + c * u) / 4096)
set_option maxRecDepth 100000 in
set_option maxHeartbeats 800000 in
theorem mixRow_any (i : Nat) (hi : i ≤ 6) (Bm Bv : Nat) (a b c r g u : Int) (ha1 : -32768 ≤ a) (ha2 : a ≤ 32768) (hb1 : -32768 ≤ b) (hb2 : b ≤ 32768) (hc1 : -32768 ≤ c) (hc2 : c ≤ 32768)
    (hr1 : 0 ≤ r) (hr2 : r ≤ 65535) (hg1 : 0 ≤ g) (hg2 : g ≤ 65535) (hu1 : 0 ≤ u) (hu2 : u ≤ 65535) (V : World)
    (m0 : V.cell? ⟨Bm, i, none⟩ = some (.int .i64 a)) (m1 : V.cell? ⟨Bm, i + 1, none⟩ = some (.int .i64 b)) (m2 : V.cell? ⟨Bm, i + 2, none⟩ = some (.int .i64 c))
    (v0 : V.cell? ⟨Bv, 0, none⟩ = some (.int .i64 r)) (v1 : V.cell? ⟨Bv, 1, none⟩ = some (.int .i64 g)) (v2 : V.cell? ⟨Bv, 2, none⟩ = some (.int .i64 u)) :
    Calls Try.prog 83 #[.int .i64 i, .pointer (some ⟨Bm, 0, none⟩), .pointer (some ⟨Bv, 0, none⟩)] V fun e w' => e = .returned (.int .i64 (mixV a b c r g u)) ∧ ∃ n, w' = V.drewN n := by
  have HE := hide (show mixV a b c r g u = clampV ((a * r + b * g + c * u) / 4096) from rfl)
  generalize mixV a b c r g u = M at *
  have p1 := mul_bounds ha1 ha2 hr1 hr2 (by omega)
  have p2 := mul_bounds hb1 hb2 hg1 hg2 (by omega)
  have p3 := mul_bounds hc1 hc2 hu1 hu2 (by omega)
  obtain ⟨A, hA⟩ : ∃ A, a * r = A := ⟨_, rfl⟩
  obtain ⟨B, hB⟩ : ∃ B, b * g = B := ⟨_, rfl⟩
  obtain ⟨C, hC⟩ : ∃ C, c * u = C := ⟨_, rfl⟩
  rw [hA] at p1
  rw [hB] at p2
  rw [hC] at p3
  rw [hA, hB, hC] at HE
  clear ha1 ha2 hb1 hb2 hc1 hc2 hr1 hr2 hg1 hg2 hu1 hu2
  obtain ⟨p1a, p1b⟩ := p1
  obtain ⟨p2a, p2b⟩ := p2
  obtain ⟨p3a, p3b⟩ := p3
  go_enter Try.func83, Try.ntmps83
  go_wp2
  go_quiet ((go_at_call 55; exact Calls.quiet_of_same (heldQ _ _)))
  go_wp2
  go_ret
  exact ⟨ret_int HE.out.symm, nq, rfl⟩
def mixP (m : Nat → Int) (p : Px) : Px := (mixV (m 0) (m 1) (m 2) p.1 p.2.1 p.2.2, mixV (m 3) (m 4) (m 5) p.1 p.2.1 p.2.2, mixV (m 6) (m 7) (m 8) p.1 p.2.1 p.2.2)
set_option maxRecDepth 100000 in
set_option maxHeartbeats 800000 in
theorem mix1_any (Bm : Nat) (m : Nat → Int) (hm : ∀ k, k < 9 → -32768 ≤ m k ∧ m k ≤ 32768) (p : Px) (hp : pxOk p = true) (V : World) (hB : Bm < V.heap.size)
    (hc : ∀ k, k < 9 → V.cell? ⟨Bm, k, none⟩ = some (.int .i64 (m k))) :
    Calls Try.prog 82 #[pixV p, .pointer (some ⟨Bm, 0, none⟩)] V fun e w' => e = .returned (pixV (mixP m p)) ∧ Below V.heap.size V w' := by
  obtain ⟨⟨r1, r2⟩, ⟨g1, g2⟩, u1, u2⟩ := (pxOk_iff p).1 hp
  obtain ⟨r, g, u⟩ := p
  simp only at r1 r2 g1 g2 u1 u2
  have HB1 := hide (bel_trans (bel_alloc V (Obj.cells #[.int .i64 r, .int .i64 g, .int .i64 u] 41)) (bel_alloc _ (Obj.cells #[.int .i64 0, .int .i64 0, .int .i64 0] 41)))
  have hcc : ∀ k, k < 9 → ((V.alloc (Obj.cells #[.int .i64 r, .int .i64 g, .int .i64 u] 41)).alloc (Obj.cells #[.int .i64 0, .int .i64 0, .int .i64 0] 41)).cell? ⟨Bm, k, none⟩ = some (.int .i64 (m k)) := fun k hk =>
    (HB1.out.cell (p := ⟨Bm, k, none⟩) hB).trans (hc k hk)
  obtain ⟨k1, k2⟩ := box2 (w := V) (x := #[.int .i64 r, .int .i64 g, .int .i64 u]) (y := #[.int .i64 0, .int .i64 0, .int .i64 0]) (t := 41) (Below.refl _ _)
  obtain ⟨v0, v1, v2⟩ := cells3 k1
  obtain ⟨z0, z1, z2⟩ := cells3 k2
  have f0 := Lib.frozen_of_heap k2 0
  have f1 := Lib.frozen_of_heap k2 1
  have f2 := Lib.frozen_of_heap k2 2
  clear k1 k2 hc
  have HC := hide hcc
  have HM := hide hm
  have HR := hide (fun (i : Nat) (hi : i ≤ 6) (n : Nat) => mixRow_any i hi Bm V.heap.size (m i) (m (i + 1)) (m (i + 2)) r g u (hm i (by omega)).1 (hm i (by omega)).2 (hm (i + 1) (by omega)).1 (hm (i + 1) (by omega)).2 (hm (i + 2) (by omega)).1 (hm (i + 2) (by omega)).2 r1 r2 g1 g2 u1 u2
    (((V.alloc (Obj.cells #[.int .i64 r, .int .i64 g, .int .i64 u] 41)).alloc (Obj.cells #[.int .i64 0, .int .i64 0, .int .i64 0] 41)).drewN n) (hcc i (by omega)) (hcc (i + 1) (by omega)) (hcc (i + 2) (by omega)) v0 v1 v2)
  clear hcc hm
  go_enter Try.func82, Try.ntmps82
  go_wp2_with fail
  refine (HR.out 0 (by omega) 0).mono ?_
  rintro e w1 ⟨rfl, n1, rfl⟩
  go_wp2_with fail
  refine (HR.out 3 (by omega) _).mono ?_
  rintro e w2 ⟨rfl, n2, rfl⟩
  go_wp2_with fail
  refine (HR.out 6 (by omega) _).mono ?_
  rintro e w3 ⟨rfl, n3, rfl⟩
  go_wp2
  refine bodyPost_ret (v := pixV (mixP m (r, g, u))) (by simp [results, Try.results82, go_sem, mixP]) rfl ⟨rfl, ?_⟩
  exact set3_below (below_drewN HB1.out _) (by omega) _ _ _
end Go.Proofs.Ytolcndchfnifhac

namespace Go.Proofs.Ytolcndchfnifhac
open Go.RowKit
abbrev nine (m : Nat → Int) : Array Value := #[.int .i64 (m 0), .int .i64 (m 1), .int .i64 (m 2), .int .i64 (m 3), .int .i64 (m 4), .int .i64 (m 5), .int .i64 (m 6), .int .i64 (m 7), .int .i64 (m 8)]
def nineL (m : Nat → Int) : List Int := (List.range 9).map m
def matOk (m : Nat → Int) : Bool := allIn (-32768) 32768 (nineL m)
theorem nine_get (m : Nat → Int) (k : Nat) (h : k < 9) : (nine m)[k]? = some (.int .i64 (m k)) := by
  rcases (show k = 0 ∨ k = 1 ∨ k = 2 ∨ k = 3 ∨ k = 4 ∨ k = 5 ∨ k = 6 ∨ k = 7 ∨ k = 8 by omega) with rfl | rfl | rfl | rfl | rfl | rfl | rfl | rfl | rfl <;> rfl
theorem matOk_get {m : Nat → Int} (h : matOk m = true) (k : Nat) (hk : k < 9) : -32768 ≤ m k ∧ m k ≤ 32768 := by
  have := List.all_eq_true.1 h (m k) (List.mem_map.2 ⟨k, List.mem_range.2 hk, rfl⟩)
  simpa using this
theorem nine_ints {w w' : World} {t : TypeId} (m : Nat → Int) (hb : Below (w.alloc (.cells (nine m) t)).heap.size (w.alloc (.cells (nine m) t)) w') : IsInts w' (.slice (some ⟨w.heap.size, 0, none⟩) 9 9) (nineL m) := by
  refine ⟨_, _, rfl, by simp [nineL], .inr ⟨w.heap.size, 0, rfl, by have := hb.size; simp at this; omega, fun j hj => ?_⟩⟩
  have hj9 : j < 9 := by simpa [nineL] using hj
  rw [hb.cell (p := ⟨w.heap.size, 0 + j, none⟩) (by simp), Lib.cell_of_heap (heap_alloc_new w _), Nat.zero_add, nine_get m j hj9]
  simp [nineL]
set_option maxRecDepth 100000 in
theorem matrix_any (m : Nat → Int) (w : World) : Calls Try.prog 28 #[.agg (nine m)] w fun e w' => e = .returned (.bool (matOk m)) ∧ Below w.heap.size w w' := by
  go_enter Try.func28, Try.ntmps28
  go_wp2_with fail
  refine (rWithin_any (-32768) 32768 _ (nineL m) _ (nine_ints m (Below.refl _ _))).mono ?_
  rintro e w1 ⟨rfl, rfl⟩
  rw [show allIn (-32768) 32768 (nineL m) = matOk m from rfl]
  go_wp2
  go_ret
  exact ⟨rfl, bel_alloc _ _⟩
theorem nine_cells {w : World} {b : Nat} {t : TypeId} {fr : Nat × Nat} {m : Nat → Int} (h : w.heap[b]? = some (.cells (nine m) t fr)) :
    w.cell? ⟨b, 0, none⟩ = some (.int .i64 (m 0)) ∧ w.cell? ⟨b, 1, none⟩ = some (.int .i64 (m 1)) ∧ w.cell? ⟨b, 2, none⟩ = some (.int .i64 (m 2)) ∧ w.cell? ⟨b, 3, none⟩ = some (.int .i64 (m 3)) ∧ w.cell? ⟨b, 4, none⟩ = some (.int .i64 (m 4)) ∧ w.cell? ⟨b, 5, none⟩ = some (.int .i64 (m 5)) ∧ w.cell? ⟨b, 6, none⟩ = some (.int .i64 (m 6)) ∧ w.cell? ⟨b, 7, none⟩ = some (.int .i64 (m 7)) ∧ w.cell? ⟨b, 8, none⟩ = some (.int .i64 (m 8)) :=
  ⟨by rw [Lib.cell_of_heap h]; rfl, by rw [Lib.cell_of_heap h]; rfl, by rw [Lib.cell_of_heap h]; rfl, by rw [Lib.cell_of_heap h]; rfl, by rw [Lib.cell_of_heap h]; rfl, by rw [Lib.cell_of_heap h]; rfl, by rw [Lib.cell_of_heap h]; rfl, by rw [Lib.cell_of_heap h]; rfl, by rw [Lib.cell_of_heap h]; rfl⟩
def mixE (W H : Int) (ps : List Px) (m : Nat → Int) : Int := if picOk W H ps = true then (if matOk m = true then 0 else 3) else 1
set_option maxRecDepth 100000 in
set_option maxHeartbeats 1600000 in
theorem mix_any (W H : Int) (v : Value) (ps : List Px) (m : Nat → Int) (w : World) (hv : IsPix w v ps) :
    Calls Try.prog 79 #[.agg #[.int .i64 W, .int .i64 H, v], .agg (nine m)] w fun e w' => ∃ r, e = .returned (.tuple #[.agg #[.int .i64 (okW (mixE W H ps m) W), .int .i64 (okW (mixE W H ps m) H), r], .int .i64 (mixE W H ps m)]) ∧ IsPix w' r (okL (mixE W H ps m) (ps.map (mixP m))) ∧ Below w.heap.size w w' ∧ Fresh w.heap.size r := by
  have HV := hide hv
  obtain ⟨ao, ca, rfl, hla, hc⟩ := hv
  obtain ⟨E, hE⟩ : ∃ E, mixE W H ps m = E := ⟨_, rfl⟩
  rw [hE]
  by_cases hp : picOk W H ps = true
  · by_cases hm : matOk m = true
    · have he : E = 0 := by rw [← hE, mixE, if_pos hp, if_pos hm]
      subst he
      clear hE
      obtain ⟨⟨w1, w2⟩, ⟨h1, h2⟩, hl, hpx⟩ := picOk_parts hp
      obtain ⟨WN, rfl⟩ := Int.eq_ofNat_of_zero_le (show 0 ≤ W by omega)
      obtain ⟨HN, rfl⟩ := Int.eq_ofNat_of_zero_le (show 0 ≤ H by omega)
      have HLEN := hide (show ps.length = HN * WN by rw [Nat.mul_comm]; exact_mod_cast hl)
      have HPX := hide hpx
      clear hl hpx
      go_enter Try.func79, Try.ntmps79
      go_wp2_with fail
      obtain ⟨a1, a2, a3⟩ := al3 w (Obj.cells #[.int .i64 (WN : Nat), .int .i64 (HN : Nat), .slice ao ps.length ca] 34) (Obj.cells (nine m) 25) (Obj.cells #[.int .i64 0, .int .i64 0, .slice none 0 0] 34)
      have hB := be3 w (Obj.cells #[.int .i64 (WN : Nat), .int .i64 (HN : Nat), .slice ao ps.length ca] 34) (Obj.cells (nine m) 25) (Obj.cells #[.int .i64 0, .int .i64 0, .slice none 0 0] 34)
      have hs3 : (((w.alloc (Obj.cells #[.int .i64 (WN : Nat), .int .i64 (HN : Nat), .slice ao ps.length ca] 34)).alloc (Obj.cells (nine m) 25)).alloc (Obj.cells #[.int .i64 0, .int .i64 0, .slice none 0 0] 34)).heap.size = w.heap.size + 3 := by simp
      generalize ((w.alloc (Obj.cells #[.int .i64 (WN : Nat), .int .i64 (HN : Nat), .slice ao ps.length ca] 34)).alloc (Obj.cells (nine m) 25)).alloc (Obj.cells #[.int .i64 0, .int .i64 0, .slice none 0 0] 34) = U at *
      refine (picture_any WN HN _ ps _ (HV.out.below hB (Nat.le_refl _))).mono ?_
      rintro e w1 ⟨rfl, hb1⟩
      rw [hp]
      have g1 := (hb1.block (w.heap.size) (by omega)).trans a1
      have g2 := (hb1.block (w.heap.size + 1) (by omega)).trans a2
      have g3 := (hb1.block (w.heap.size + 1 + 1) (by omega)).trans a3
      obtain ⟨n0, n1, n2, n3, n4, n5, n6, n7, n8⟩ := nine_cells g2
      go_wp2_with fail
      refine (matrix_any m _).mono ?_
      rintro e w2 ⟨rfl, hb2⟩
      rw [hm]
      clear n0 n1 n2 n3 n4 n5 n6 n7 n8
      replace hb2 := bel_trans hb1 hb2
      replace g1 := (hb2.block (w.heap.size) (by omega)).trans a1
      replace g2 := (hb2.block (w.heap.size + 1) (by omega)).trans a2
      replace g3 := (hb2.block (w.heap.size + 1 + 1) (by omega)).trans a3
      obtain ⟨p0, p1, p2⟩ := cells3 g1
      go_wp2_with fail
      refine (each_any WN HN (by omega) (by omega) _ ps HLEN.out 82 #[.pointer (some ⟨w.heap.size + 1, 0, none⟩)] (mixP m) _ (HV.out.below (hB.trans (hb2.mono hB.size)) (Nat.le_refl _)) (enters_of Try.func82 (by kernel_rfl) rfl) ?_).mono ?_
      · intro j hj V hV
        have hb3 := bel_trans hb2 hV
        have g2' := (hb3.block (w.heap.size + 1) (by omega)).trans a2
        exact mix1_any (w.heap.size + 1) m (fun k hk => matOk_get hm k hk) ps[j] (List.all_eq_true.1 HPX.out _ (List.getElem_mem hj)) V (by have := hb3.size; omega) (fun k hk => by rw [Lib.cell_of_heap g2', nine_get m k hk])
      · rintro e w3 ⟨r, rfl, hr, hb3, hfr⟩
        clear p0 p1 p2
        replace hb3 := bel_trans hb2 hb3
        replace g3 := (hb3.block (w.heap.size + 1 + 1) (by omega)).trans a3
        have hs2 := hb2.size
        obtain ⟨z0, z1, z2⟩ := cells3 g3
        have f0 := Lib.frozen_of_heap g3 0
        have f1 := Lib.frozen_of_heap g3 1
        have f2 := Lib.frozen_of_heap g3 2
        have HR := hide hr
        obtain ⟨ro, rc, rfl, _, _⟩ := hr
        have HFIN := hide (set3_below (hB.trans (hb3.mono hB.size)) (show w.heap.size ≤ w.heap.size + 1 + 1 by omega) (.int .i64 (WN : Nat)) (.int .i64 (HN : Nat)) (.slice ro (ps.map (mixP m)).length rc))
        have HPX2 := hide (HR.out.set3 hfr (show w.heap.size + 1 + 1 < w2.heap.size by omega) (.int .i64 (WN : Nat)) (.int .i64 (HN : Nat)) (.slice ro (ps.map (mixP m)).length rc))
        rw [List.length_map] at HPX2 HFIN hfr
        go_wp2
        exact bodyPost_ret (v := .tuple #[.agg #[.int .i64 (WN : Nat), .int .i64 (HN : Nat), .slice ro ps.length rc], .int .i64 0]) (by simp [results, Try.results79, go_sem, z0, z1, z2]) rfl ⟨_, rfl, HPX2.out, HFIN.out, hfr.mono (by omega)⟩
    · have he : E = 3 := by rw [← hE, mixE, if_pos hp, if_neg hm]
      have hm : matOk m = false := by simpa using hm
      subst he
      clear hE
      go_enter Try.func79, Try.ntmps79
      go_wp2_with fail
      obtain ⟨a1, a2, a3⟩ := al3 w (Obj.cells #[.int .i64 W, .int .i64 H, .slice ao ps.length ca] 34) (Obj.cells (nine m) 25) (Obj.cells #[.int .i64 0, .int .i64 0, .slice none 0 0] 34)
      have hB := be3 w (Obj.cells #[.int .i64 W, .int .i64 H, .slice ao ps.length ca] 34) (Obj.cells (nine m) 25) (Obj.cells #[.int .i64 0, .int .i64 0, .slice none 0 0] 34)
      have hs3 : (((w.alloc (Obj.cells #[.int .i64 W, .int .i64 H, .slice ao ps.length ca] 34)).alloc (Obj.cells (nine m) 25)).alloc (Obj.cells #[.int .i64 0, .int .i64 0, .slice none 0 0] 34)).heap.size = w.heap.size + 3 := by simp
      generalize ((w.alloc (Obj.cells #[.int .i64 W, .int .i64 H, .slice ao ps.length ca] 34)).alloc (Obj.cells (nine m) 25)).alloc (Obj.cells #[.int .i64 0, .int .i64 0, .slice none 0 0] 34) = U at *
      refine (picture_any W H _ ps _ (HV.out.below hB (Nat.le_refl _))).mono ?_
      rintro e w1 ⟨rfl, hb1⟩
      rw [hp]
      have g1 := (hb1.block (w.heap.size) (by omega)).trans a1
      have g2 := (hb1.block (w.heap.size + 1) (by omega)).trans a2
      have g3 := (hb1.block (w.heap.size + 1 + 1) (by omega)).trans a3
      obtain ⟨n0, n1, n2, n3, n4, n5, n6, n7, n8⟩ := nine_cells g2
      go_wp2_with fail
      refine (matrix_any m _).mono ?_
      rintro e w2 ⟨rfl, hb2⟩
      rw [hm]
      clear n0 n1 n2 n3 n4 n5 n6 n7 n8
      replace hb2 := bel_trans hb1 hb2
      replace g1 := (hb2.block (w.heap.size) (by omega)).trans a1
      replace g2 := (hb2.block (w.heap.size + 1) (by omega)).trans a2
      replace g3 := (hb2.block (w.heap.size + 1 + 1) (by omega)).trans a3
      obtain ⟨z0, z1, z2⟩ := cells3 g3
      have f0 := Lib.frozen_of_heap g3 0
      have f1 := Lib.frozen_of_heap g3 1
      have f2 := Lib.frozen_of_heap g3 2
      have HBL := hb2
      have HFIN := hide (set3_below (hB.trans (HBL.mono hB.size)) (show w.heap.size ≤ w.heap.size + 1 + 1 by omega) (.int .i64 0) (.int .i64 0) (.slice none 0 0))
      go_wp2
      exact bodyPost_ret (v := .tuple #[.agg #[.int .i64 0, .int .i64 0, .slice none 0 0], .int .i64 3]) (by simp [results, Try.results79, go_sem, z0, z1, z2]) rfl ⟨.slice none 0 0, rfl, IsPix.nil _, HFIN.out, Fresh.nil _⟩
  · have he : E = 1 := by rw [← hE, mixE, if_neg hp]
    have hp : picOk W H ps = false := by simpa using hp
    subst he
    clear hE
    go_enter Try.func79, Try.ntmps79
    go_wp2_with fail
    obtain ⟨a1, a2, a3⟩ := al3 w (Obj.cells #[.int .i64 W, .int .i64 H, .slice ao ps.length ca] 34) (Obj.cells (nine m) 25) (Obj.cells #[.int .i64 0, .int .i64 0, .slice none 0 0] 34)
    have hB := be3 w (Obj.cells #[.int .i64 W, .int .i64 H, .slice ao ps.length ca] 34) (Obj.cells (nine m) 25) (Obj.cells #[.int .i64 0, .int .i64 0, .slice none 0 0] 34)
    have hs3 : (((w.alloc (Obj.cells #[.int .i64 W, .int .i64 H, .slice ao ps.length ca] 34)).alloc (Obj.cells (nine m) 25)).alloc (Obj.cells #[.int .i64 0, .int .i64 0, .slice none 0 0] 34)).heap.size = w.heap.size + 3 := by simp
    generalize ((w.alloc (Obj.cells #[.int .i64 W, .int .i64 H, .slice ao ps.length ca] 34)).alloc (Obj.cells (nine m) 25)).alloc (Obj.cells #[.int .i64 0, .int .i64 0, .slice none 0 0] 34) = U at *
    refine (picture_any W H _ ps _ (HV.out.below hB (Nat.le_refl _))).mono ?_
    rintro e w1 ⟨rfl, hb1⟩
    rw [hp]
    have g1 := (hb1.block (w.heap.size) (by omega)).trans a1
    have g2 := (hb1.block (w.heap.size + 1) (by omega)).trans a2
    have g3 := (hb1.block (w.heap.size + 1 + 1) (by omega)).trans a3
    obtain ⟨z0, z1, z2⟩ := cells3 g3
    have f0 := Lib.frozen_of_heap g3 0
    have f1 := Lib.frozen_of_heap g3 1
    have f2 := Lib.frozen_of_heap g3 2
    have HBL := hb1
    have HFIN := hide (set3_below (hB.trans (HBL.mono hB.size)) (show w.heap.size ≤ w.heap.size + 1 + 1 by omega) (.int .i64 0) (.int .i64 0) (.slice none 0 0))
    go_wp2
    exact bodyPost_ret (v := .tuple #[.agg #[.int .i64 0, .int .i64 0, .slice none 0 0], .int .i64 1]) (by simp [results, Try.results79, go_sem, z0, z1, z2]) rfl ⟨.slice none 0 0, rfl, IsPix.nil _, HFIN.out, Fresh.nil _⟩
end Go.Proofs.Ytolcndchfnifhac

namespace Go.Proofs.Ytolcndchfnifhac
open Go.RowKit
set_option maxRecDepth 100000 in
set_option maxHeartbeats 800000 in
theorem height_any (v : Value) (ls : List Pt) (x : Int) (h0 : 0 ≤ x) (h1 : x ≤ 65535) (hcv : IsCurve ls) (w : World) (hv : IsPts w v ls) :
    Calls Try.prog 34 #[v, .int .i64 x] w fun e w' => e = .returned (.int .i64 (heightV ls x)) ∧ Below w.heap.size w w' := by
  obtain ⟨ao, ca, rfl, hla, hc⟩ := hv
  have hl2 := hcv.two
  have hl16 := hcv.most
  obtain ⟨bk, off, hao, hbl, hcell⟩ : ∃ b off, ao = some ⟨b, off, none⟩ ∧ b < w.heap.size ∧ ∀ j, j < ls.length →
      w.cell? ⟨b, off + j * 2, none⟩ = some (.int .i64 (ptAt ls j).1) ∧ w.cell? ⟨b, off + j * 2 + 1, none⟩ = some (.int .i64 (ptAt ls j).2) := by
    rcases hc with h | h
    · subst h; simp at hl2
    · exact h
  subst hao
  have HCELL := hide hcell; clear hcell hc
  have HCV := hide hcv; clear hcv
  go_enter Try.func34, Try.ntmps34
  go_wp2
  go_loop [5] (fun i => ∃ k : Nat, k < ls.length ∧ i = .int .i64 k ∧ Hid (∀ j, j < k → (ptAt ls j).1 < x)) (fun i => ls.length - (intOf i).toNat)
  case atStart => exact ⟨0, by omega, rfl, fun j hj => by omega⟩
  case round =>
    obtain ⟨k, hk, rfl, HJ⟩ := hrel
    obtain ⟨c0, c1⟩ := HCELL.out k hk
    by_cases hx : (ptAt ls k).1 < x
    · have hd : decide ((ptAt ls k).1 < x) = true := by simpa using hx
      have hk2 : k + 1 < ls.length := by
        rcases Nat.eq_or_lt_of_le (show k ≤ ls.length - 1 by omega) with e | hlt
        · have := HCV.out.last; rw [← e] at this; omega
        · omega
      go_wp2
      go_round
      case rel => exact ⟨k + 1, hk2, by go_num, fun j hj => by
        rcases Nat.eq_or_lt_of_le (show j ≤ k by omega) with e | hlt
        · rw [e]; exact hx
        · exact HJ.out j hlt⟩
      case measure => simp [intOf]; omega
    · have hd : decide ((ptAt ls k).1 < x) = false := by simpa using hx
      have hat : isAt ls x k := ⟨hk, by omega, HJ.out⟩
      have HE := hide (heightV_eq hat)
      by_cases he : (ptAt ls k).1 = x
      · have hb : ((ptAt ls k).1 == x) = true := by simpa using he
        have HE2 := hide (show (ptAt ls k).2 = heightV ls x by rw [HE.out, if_pos he])
        clear HE he
        go_wp2
        go_ret
        exact ⟨ret_int HE2.out, bel_alloc _ _⟩
      · have hb : ((ptAt ls k).1 == x) = false := by simpa using he
        obtain ⟨i, rfl⟩ : ∃ i, k = i + 1 := by
          cases k with
          | zero => exact absurd (by have := HCV.out.first; omega) he
          | succ i => exact ⟨i, rfl⟩
        have HE2 := hide (show heightV ls x = between ls (i + 1) x by rw [HE.out, if_neg he])
        obtain ⟨d0, d1⟩ := HCELL.out i (by omega)
        have hlt := HJ.out i (by omega)
        obtain ⟨m0, m1, m2, m3⟩ := between_bounds HCV.out i hk x (by omega) (by omega)
        obtain ⟨y0, y1⟩ := HCV.out.y i (by omega)
        obtain ⟨y2, y3⟩ := HCV.out.y (i + 1) hk
        obtain ⟨x0, x1⟩ := HCV.out.x i (by omega)
        obtain ⟨x2, x3⟩ := HCV.out.x (i + 1) hk
        obtain ⟨s0, s1⟩ := HCV.out.step i hk
        rw [between, Nat.add_sub_cancel] at m2 m3 HE2
        have hne : ¬ (ptAt ls (i + 1)).1 - (ptAt ls i).1 = 0 := by omega
        clear HE he hx hat
        generalize (ptAt ls (i + 1)).1 = X2 at *
        generalize (ptAt ls i).1 = X1 at *
        generalize (ptAt ls (i + 1)).2 = Y2 at *
        generalize (ptAt ls i).2 = Y1 at *
        obtain ⟨M, hM⟩ : ∃ M, (Y2 - Y1) * (x - X1) = M := ⟨_, rfl⟩
        rw [hM] at m0 m1 m2 m3 HE2
        obtain ⟨D, hD⟩ : ∃ D, X2 - X1 = D := ⟨_, rfl⟩
        rw [hD] at m2 m3 HE2 hne
        have hD0 : 0 < D := by omega
        have hq0 : 0 ≤ M / D := Int.ediv_nonneg m0 (by omega)
        have hDz : (D == 0) = false := by simpa using hne
        go_wp2
        go_region
        go_wp2
        go_ret
        exact ⟨ret_int HE2.out.symm, ((be2 _ _ _).drew)⟩
set_option maxRecDepth 100000 in
set_option maxHeartbeats 1600000 in
theorem isCurve_any (v : Value) (ls : List Pt) (w : World) (hv : IsPts w v ls) :
    Calls Try.prog 33 #[v] w fun e w' => e = .returned (.bool (curveOk ls)) ∧ Below w.heap.size w w' := by
  obtain ⟨ao, ca, rfl, hla, hc⟩ := hv
  obtain ⟨R, hR⟩ : ∃ R, curveOk ls = R := ⟨_, rfl⟩
  rw [hR]
  have HB0 := hide (bel_alloc w (Obj.cells #[.int .i64 (ls.length : Int)] 3))
  by_cases hn : 2 ≤ (ls.length : Int) ∧ (ls.length : Int) ≤ 16
  · have hal : allIn 2 16 [(ls.length : Int)] = true := by simp [allIn]; omega
    have hdn : decide (2 ≤ (ls.length : Int) ∧ (ls.length : Int) ≤ 16) = true := by simpa using hn
    obtain ⟨bk, off, hao, hbl, hcell⟩ : ∃ b off, ao = some ⟨b, off, none⟩ ∧ b < w.heap.size ∧ ∀ j, j < ls.length →
        w.cell? ⟨b, off + j * 2, none⟩ = some (.int .i64 (ptAt ls j).1) ∧ w.cell? ⟨b, off + j * 2 + 1, none⟩ = some (.int .i64 (ptAt ls j).2) := by
      rcases hc with h | h
      · subst h; simp at hn
      · exact h
    subst hao
    have HCELL := hide hcell; clear hcell hc
    obtain ⟨n0, n1⟩ := hn
    have p0 := (HB0.out.cell (p := ⟨bk, off + 0 * 2, none⟩) hbl).trans (HCELL.out 0 (by omega)).1
    have p1 := (HB0.out.cell (p := ⟨bk, off + (ls.length - 1) * 2, none⟩) hbl).trans (HCELL.out (ls.length - 1) (by omega)).1
    rw [Nat.zero_mul, Nat.add_zero] at p0
    by_cases hf : (ptAt ls 0).1 = 0
    · by_cases ht : (ptAt ls (ls.length - 1)).1 = 65535
      · have HR := hide (show R = ptsOk ls ls.length by rw [← hR, curveOk, endsOk, hdn, hf, ht]; rfl)
        rw [hf] at p0
        rw [ht] at p1
        clear hR hdn hf ht
        go_enter Try.func33, Try.ntmps33
        go_wp2_with fail
        refine (rWithin_any 2 16 _ [(ls.length : Int)] _ (ints1 w _)).mono ?_
        rintro e w1 ⟨rfl, rfl⟩
        rw [hal]
        go_wp2_with fail
        clear p0 p1 hal
        generalize w.alloc (Obj.cells #[.int .i64 (ls.length : Int)] 3) = U at *
        go_loopw [29] (fun i wr => ∃ k : Nat, k ≤ ls.length ∧ i = .int .i64 k ∧ Hid (ptsOk ls k = true) ∧ Below w.heap.size w wr) (fun i _ => ls.length - (intOf i).toNat)
        case atStart => exact ⟨0, Nat.zero_le _, rfl, rfl, HB0.out⟩
        case round =>
          obtain ⟨k, hk, rfl, HA, hbel⟩ := hrel
          by_cases hlt : k < ls.length
          · have hd : decide ((k : Int) < (ls.length : Int)) = true := by simp; omega
            have c0 := (hbel.cell (p := ⟨bk, off + k * 2, none⟩) hbl).trans (HCELL.out k hlt).1
            have c1 := (hbel.cell (p := ⟨bk, off + k * 2 + 1, none⟩) hbl).trans (HCELL.out k hlt).2
            have HS := hide (ptsOk_succ ls k)
            have HF := hide (fun h => ptsOk_false ls k ls.length hlt h)
            have hbel2 := (hbel.alloc hbel.size (Obj.cells #[.int .i64 (ptAt ls k).1, .int .i64 (ptAt ls k).2] 93)).alloc (by have := hbel.size; simp; omega) (Obj.cells #[.int .i64 (ptAt ls k).2] 3)
            have hi1 : IsInts ((wr.alloc (Obj.cells #[.int .i64 (ptAt ls k).1, .int .i64 (ptAt ls k).2] 93)).alloc (Obj.cells #[.int .i64 (ptAt ls k).2] 3)) (.slice (some ⟨wr.heap.size + 1, 0, none⟩) 1 1) [(ptAt ls k).2] := by
              have := ints1 (wr.alloc (Obj.cells #[.int .i64 (ptAt ls k).1, .int .i64 (ptAt ls k).2] 93)) (ptAt ls k).2
              rw [World.size_alloc] at this; exact this
            by_cases hy : ptY ls k = true
            · have hal : allIn 0 65535 [(ptAt ls k).2] = true := by
                have := of_decide_eq_true hy
                simp [allIn]; omega
              have hpr : ∀ i, k = i + 1 → wr.cell? ⟨bk, off + i * 2, none⟩ = some (.int .i64 (ptAt ls i).1) ∧ wr.cell? ⟨bk, off + i * 2 + 1, none⟩ = some (.int .i64 (ptAt ls i).2) := fun i e =>
                ⟨(hbel.cell (p := ⟨bk, off + i * 2, none⟩) hbl).trans (HCELL.out i (by omega)).1, (hbel.cell (p := ⟨bk, off + i * 2 + 1, none⟩) hbl).trans (HCELL.out i (by omega)).2⟩
              cases k with
              | zero =>
                have HT := hide (show ptsOk ls (0 + 1) = true by rw [HS.out, HA.out, hy]; simp [ptStep])
                clear hy HS HF hpr
                simp only [Nat.zero_mul, Nat.add_zero] at c0 c1
                go_wp2_with fail
                refine (rWithin_any 0 65535 _ [(ptAt ls 0).2] _ hi1).mono ?_
                rintro e w2 ⟨rfl, rfl⟩
                rw [hal]
                go_wp2_with fail
                go_quiet (fail)
                go_wp2
                go_roundw
                case rel => exact ⟨0 + 1, by omega, by go_num, HT, below_drewN hbel2 _⟩
                case measure => simp [intOf]; omega
              | succ i =>
                obtain ⟨d0, d1⟩ := hpr i rfl
                clear hpr
                have hwi : IntKind.i64.wrap (i : Int) = (i : Int) := IntWalk.i64_in _ (by omega)
                have hil : i < ls.length := by omega
                have hil2 : (i : Int) < (ls.length : Int) := by omega
                have hil3 : 0 ≤ (i : Int) := by omega
                have hbw : bk < wr.heap.size := Nat.lt_of_lt_of_le hbl hbel.size
                have hb2 := be2 wr (Obj.cells #[.int .i64 (ptAt ls (i + 1)).1, .int .i64 (ptAt ls (i + 1)).2] 93) (Obj.cells #[.int .i64 (ptAt ls (i + 1)).2] 3)
                have t0 := (hb2.cell (p := ⟨bk, off + i * 2, none⟩) hbw).trans d0
                have t1 := (hb2.cell (p := ⟨bk, off + i * 2 + 1, none⟩) hbw).trans d1
                have gg := (al2 wr (Obj.cells #[.int .i64 (ptAt ls (i + 1)).1, .int .i64 (ptAt ls (i + 1)).2] 93) (Obj.cells #[.int .i64 (ptAt ls (i + 1)).2] 3)).1
                have t2 : ((wr.alloc (Obj.cells #[.int .i64 (ptAt ls (i + 1)).1, .int .i64 (ptAt ls (i + 1)).2] 93)).alloc (Obj.cells #[.int .i64 (ptAt ls (i + 1)).2] 3)).cell? ⟨wr.heap.size, 0, none⟩ = some (.int .i64 (ptAt ls (i + 1)).1) := by rw [Lib.cell_of_heap gg]; rfl
                have t3 : ((wr.alloc (Obj.cells #[.int .i64 (ptAt ls (i + 1)).1, .int .i64 (ptAt ls (i + 1)).2] 93)).alloc (Obj.cells #[.int .i64 (ptAt ls (i + 1)).2] 3)).cell? ⟨wr.heap.size, 1, none⟩ = some (.int .i64 (ptAt ls (i + 1)).2) := by rw [Lib.cell_of_heap gg]; rfl
                clear gg hb2 d0 d1
                by_cases hs : (ptAt ls i).1 < (ptAt ls (i + 1)).1
                · have hsb : decide ((ptAt ls (i + 1)).1 ≤ (ptAt ls i).1) = false := by simp; omega
                  by_cases hs2 : (ptAt ls i).2 ≤ (ptAt ls (i + 1)).2
                  · have hsb2 : decide ((ptAt ls (i + 1)).2 < (ptAt ls i).2) = false := by simp; omega
                    have HT := hide (show ptsOk ls (i + 1 + 1) = true by rw [HS.out, HA.out, hy]; simp [ptStep, hs, hs2])
                    clear hy HS HF hs hs2
                    go_wp2_with fail
                    refine (rWithin_any 0 65535 _ [(ptAt ls (i + 1)).2] _ hi1).mono ?_
                    rintro e w2 ⟨rfl, rfl⟩
                    rw [hal]
                    clear c0 c1 hi1
                    generalize (wr.alloc (Obj.cells #[.int .i64 (ptAt ls (i + 1)).1, .int .i64 (ptAt ls (i + 1)).2] 93)).alloc (Obj.cells #[.int .i64 (ptAt ls (i + 1)).2] 3) = U2 at *
                    go_wp2_with fail
                    go_quiet (fail)
                    go_wp2
                    go_roundw
                    case rel => exact ⟨i + 1 + 1, by omega, by go_num, HT, below_drewN hbel2 _⟩
                    case measure => simp [intOf]; omega
                  · have hsb2 : decide ((ptAt ls (i + 1)).2 < (ptAt ls i).2) = true := by simp; omega
                    have HX := hide (show false = R by rw [HR.out, HF.out (by rw [hy]; simp [ptStep]; omega)])
                    clear hy HS HF hs hs2
                    go_wp2_with fail
                    refine (rWithin_any 0 65535 _ [(ptAt ls (i + 1)).2] _ hi1).mono ?_
                    rintro e w2 ⟨rfl, rfl⟩
                    rw [hal]
                    clear c0 c1 hi1
                    generalize (wr.alloc (Obj.cells #[.int .i64 (ptAt ls (i + 1)).1, .int .i64 (ptAt ls (i + 1)).2] 93)).alloc (Obj.cells #[.int .i64 (ptAt ls (i + 1)).2] 3) = U2 at *
                    go_wp2_with fail
                    go_quiet (fail)
                    go_wp2
                    go_ret
                    exact ⟨ret_bool HX.out, below_drewN hbel2 _⟩
                · have hsb : decide ((ptAt ls (i + 1)).1 ≤ (ptAt ls i).1) = true := by simp; omega
                  have HX := hide (show false = R by rw [HR.out, HF.out (by rw [hy]; simp [ptStep]; omega)])
                  clear hy HS HF hs
                  go_wp2_with fail
                  refine (rWithin_any 0 65535 _ [(ptAt ls (i + 1)).2] _ hi1).mono ?_
                  rintro e w2 ⟨rfl, rfl⟩
                  rw [hal]
                  clear c0 c1 hi1
                  generalize (wr.alloc (Obj.cells #[.int .i64 (ptAt ls (i + 1)).1, .int .i64 (ptAt ls (i + 1)).2] 93)).alloc (Obj.cells #[.int .i64 (ptAt ls (i + 1)).2] 3) = U2 at *
                  go_wp2_with fail
                  go_quiet (fail)
                  go_wp2
                  go_ret
                  exact ⟨ret_bool HX.out, below_drewN hbel2 _⟩
            · have hy : ptY ls k = false := by simpa using hy
              have hal : allIn 0 65535 [(ptAt ls k).2] = false := by
                have := of_decide_eq_false hy
                rw [Bool.eq_false_iff]; simp [allIn]; omega
              have HX := hide (show false = R by rw [HR.out, HF.out (by rw [hy]; rfl)])
              clear hy HS HF
              go_wp2_with fail
              refine (rWithin_any 0 65535 _ [(ptAt ls k).2] _ hi1).mono ?_
              rintro e w2 ⟨rfl, rfl⟩
              rw [hal]
              go_wp2
              go_ret
              exact ⟨ret_bool HX.out, hbel2⟩
          · have hd : decide ((k : Int) < (ls.length : Int)) = false := by simp; omega
            have HX := hide (show true = R by rw [HR.out, ← HA.out, show k = ls.length by omega])
            go_wp2
            go_ret
            exact ⟨ret_bool HX.out, hbel⟩
      · have HX := hide (show false = R by rw [← hR, curveOk, endsOk]; simp [ht])
        have hb : ((ptAt ls (ls.length - 1)).1 != 65535) = true := by simpa using ht
        rw [hf] at p0
        clear hR hdn hf ht
        go_enter Try.func33, Try.ntmps33
        go_wp2_with fail
        refine (rWithin_any 2 16 _ [(ls.length : Int)] _ (ints1 w _)).mono ?_
        rintro e w1 ⟨rfl, rfl⟩
        rw [hal]
        go_wp2
        go_ret
        exact ⟨ret_bool HX.out, HB0.out⟩
    · have HX := hide (show false = R by rw [← hR, curveOk, endsOk]; simp [hf])
      have hb : ((ptAt ls 0).1 != 0) = true := by simpa using hf
      clear hR hdn hf
      go_enter Try.func33, Try.ntmps33
      go_wp2_with fail
      refine (rWithin_any 2 16 _ [(ls.length : Int)] _ (ints1 w _)).mono ?_
      rintro e w1 ⟨rfl, rfl⟩
      rw [hal]
      go_wp2
      go_ret
      exact ⟨ret_bool HX.out, HB0.out⟩
  · have hal : allIn 2 16 [(ls.length : Int)] = false := by rw [Bool.eq_false_iff]; simp [allIn]; omega
    have hdn : decide (2 ≤ (ls.length : Int) ∧ (ls.length : Int) ≤ 16) = false := by simpa using hn
    have HX := hide (show false = R by rw [← hR, curveOk, endsOk, hdn]; rfl)
    clear hR hn hdn
    go_enter Try.func33, Try.ntmps33
    go_wp2_with fail
    refine (rWithin_any 2 16 _ [(ls.length : Int)] _ (ints1 w _)).mono ?_
    rintro e w1 ⟨rfl, rfl⟩
    rw [hal]
    go_wp2
    go_ret
    exact ⟨ret_bool HX.out, HB0.out⟩
end Go.Proofs.Ytolcndchfnifhac

namespace Go.Proofs.Ytolcndchfnifhac
open Go.RowKit
def inTop (x : Int) : Bool := allIn 0 65535 [x]
theorem inTop_iff (x : Int) : inTop x = true ↔ 0 ≤ x ∧ x ≤ 65535 := by simp [inTop, allIn]
def curveE (ls : List Pt) (x : Int) : Int := if curveOk ls = true then (if inTop x = true then 0 else 3) else 1
def curveV (ls : List Pt) (x : Int) : Int := if curveE ls x = 0 then heightV ls x else 0
set_option maxRecDepth 100000 in
theorem curve_any (v : Value) (ls : List Pt) (x : Int) (w : World) (hv : IsPts w v ls) :
    Calls Try.prog 30 #[v, .int .i64 x] w fun e w' => e = .returned (.tuple #[.int .i64 (curveV ls x), .int .i64 (curveE ls x)]) ∧ Below w.heap.size w w' := by
  have HV := hide hv
  clear hv
  obtain ⟨E, hE⟩ : ∃ E, curveE ls x = E := ⟨_, rfl⟩
  obtain ⟨Z, hZ⟩ : ∃ Z, curveV ls x = Z := ⟨_, rfl⟩
  rw [hE, hZ]
  rw [curveV, hE] at hZ
  by_cases hc : curveOk ls = true
  · by_cases hx : inTop x = true
    · have he : E = 0 := by rw [← hE, curveE, if_pos hc, if_pos hx]
      subst he
      rw [if_pos rfl] at hZ
      have HZ := hide hZ
      obtain ⟨x0, x1⟩ := (inTop_iff x).1 hx
      have HC := hide (isCurve_of hc)
      clear hE hZ
      go_enter Try.func30, Try.ntmps30
      go_wp2_with fail
      refine (isCurve_any _ ls _ HV.out).mono ?_
      rintro e w1 ⟨rfl, hb1⟩
      rw [hc]
      go_wp2_with fail
      refine (rWithin_any 0 65535 _ [x] _ (ints1 w1 x)).mono ?_
      rintro e w2 ⟨rfl, rfl⟩
      rw [show allIn 0 65535 [x] = true from hx]
      have hb2 := bel_trans hb1 (bel_alloc w1 (Obj.cells #[.int .i64 x] 3))
      clear hc hx
      go_wp2_with fail
      refine (height_any _ ls x x0 x1 HC.out _ (HV.out.below hb2 (Nat.le_refl _))).mono ?_
      rintro e w3 ⟨rfl, hb3⟩
      go_wp2
      go_ret2
      rw [HZ.out]
      exact ⟨rfl, bel_trans hb2 hb3⟩
    · have he : E = 3 := by rw [← hE, curveE, if_pos hc, if_neg hx]
      subst he
      rw [if_neg (by decide)] at hZ
      subst hZ
      have hx : allIn 0 65535 [x] = false := by simpa [inTop] using hx
      clear hE
      go_enter Try.func30, Try.ntmps30
      go_wp2_with fail
      refine (isCurve_any _ ls _ HV.out).mono ?_
      rintro e w1 ⟨rfl, hb1⟩
      rw [hc]
      go_wp2_with fail
      refine (rWithin_any 0 65535 _ [x] _ (ints1 w1 x)).mono ?_
      rintro e w2 ⟨rfl, rfl⟩
      rw [hx]
      have hb2 := bel_trans hb1 (bel_alloc w1 (Obj.cells #[.int .i64 x] 3))
      go_wp2
      go_ret2
      exact ⟨rfl, hb2⟩
  · have he : E = 1 := by rw [← hE, curveE, if_neg hc]
    subst he
    rw [if_neg (by decide)] at hZ
    subst hZ
    have hc : curveOk ls = false := by simpa using hc
    clear hE
    go_enter Try.func30, Try.ntmps30
    go_wp2_with fail
    refine (isCurve_any _ ls _ HV.out).mono ?_
    rintro e w1 ⟨rfl, hb1⟩
    rw [hc]
    go_wp2
    go_ret2
    exact ⟨rfl, hb1⟩
def bendP (ls : List Pt) (p : Px) : Px := (heightV ls p.1, heightV ls p.2.1, heightV ls p.2.2)
set_option maxRecDepth 100000 in
set_option maxHeartbeats 1600000 in
theorem bend1_any (Bl : Nat) (v : Value) (ls : List Pt) (hcv : IsCurve ls) (p : Px) (hp : pxOk p = true) (V : World) (hB : Bl < V.heap.size) (hv : IsPts V v ls) (hc : V.cell? ⟨Bl, 0, none⟩ = some v) :
    Calls Try.prog 87 #[pixV p, .pointer (some ⟨Bl, 0, none⟩)] V fun e w' => e = .returned (pixV (bendP ls p)) ∧ Below V.heap.size V w' := by
  obtain ⟨⟨r1, r2⟩, ⟨g1, g2⟩, u1, u2⟩ := (pxOk_iff p).1 hp
  obtain ⟨r, g, u⟩ := p
  simp only at r1 r2 g1 g2 u1 u2
  have HB1 := be2 V (Obj.cells #[.int .i64 r, .int .i64 g, .int .i64 u] 41) (Obj.cells #[.int .i64 0, .int .i64 0, .int .i64 0] 41)
  obtain ⟨k1, k2⟩ := al2 V (Obj.cells #[.int .i64 r, .int .i64 g, .int .i64 u] 41) (Obj.cells #[.int .i64 0, .int .i64 0, .int .i64 0] 41)
  have hsU : ((V.alloc (Obj.cells #[.int .i64 r, .int .i64 g, .int .i64 u] 41)).alloc (Obj.cells #[.int .i64 0, .int .i64 0, .int .i64 0] 41)).heap.size = V.heap.size + 2 := by simp
  have HV := hide hv
  obtain ⟨ao, ca, rfl, _, _⟩ := hv
  go_enter Try.func87, Try.ntmps87
  go_wp2_with fail
  generalize (V.alloc (Obj.cells #[.int .i64 r, .int .i64 g, .int .i64 u] 41)).alloc (Obj.cells #[.int .i64 0, .int .i64 0, .int .i64 0] 41) = U at *
  have HS := hide (show ∀ w', Below U.heap.size U w' → (w'.cell? ⟨Bl, 0, none⟩ = some (.slice ao ls.length ca) ∧ w'.cell? ⟨V.heap.size, 0, none⟩ = some (.int .i64 r) ∧ w'.cell? ⟨V.heap.size, 1, none⟩ = some (.int .i64 g) ∧ w'.cell? ⟨V.heap.size, 2, none⟩ = some (.int .i64 u)) from fun w' h => by
    have hV := HB1.trans (h.mono HB1.size)
    obtain ⟨q0, q1, q2⟩ := cells3 ((h.block V.heap.size (by omega)).trans k1)
    exact ⟨(hV.cell (p := ⟨Bl, 0, none⟩) hB).trans hc, q0, q1, q2⟩)
  have HS3 := hide (show ∀ w' x y z, Below U.heap.size U w' → ((((w'.setCell ⟨V.heap.size + 1, 0, none⟩ x).setCell ⟨V.heap.size + 1, 1, none⟩ y).setCell ⟨V.heap.size + 1, 2, none⟩ z).cell? ⟨Bl, 0, none⟩ = some (.slice ao ls.length ca) ∧ (((w'.setCell ⟨V.heap.size + 1, 0, none⟩ x).setCell ⟨V.heap.size + 1, 1, none⟩ y).setCell ⟨V.heap.size + 1, 2, none⟩ z).cell? ⟨V.heap.size, 0, none⟩ = some (.int .i64 r) ∧ (((w'.setCell ⟨V.heap.size + 1, 0, none⟩ x).setCell ⟨V.heap.size + 1, 1, none⟩ y).setCell ⟨V.heap.size + 1, 2, none⟩ z).cell? ⟨V.heap.size, 1, none⟩ = some (.int .i64 g) ∧ (((w'.setCell ⟨V.heap.size + 1, 0, none⟩ x).setCell ⟨V.heap.size + 1, 1, none⟩ y).setCell ⟨V.heap.size + 1, 2, none⟩ z).cell? ⟨V.heap.size, 2, none⟩ = some (.int .i64 u)) from fun w' x y z h => by
    have hh := HS.out w' h
    have e1 : Bl ≠ V.heap.size + 1 := by omega
    have e5 : V.heap.size ≠ V.heap.size + 1 := by omega
    rw [set3_cell _ _ _ e1, set3_cell _ _ _ e5, set3_cell _ _ _ e5, set3_cell _ _ _ e5]
    exact hh)
  have HH := hide (show ∀ w' x, Below U.heap.size U w' → 0 ≤ x → x ≤ 65535 → Calls Try.prog 34 #[.slice ao ls.length ca, .int .i64 x] w' fun e w'' => e = .returned (.int .i64 (heightV ls x)) ∧ Below U.heap.size U w'' ∧ (w''.cell? ⟨V.heap.size + 1, 0, none⟩ = some (.int .i64 0) ∧ w''.cell? ⟨V.heap.size + 1, 1, none⟩ = some (.int .i64 0) ∧ w''.cell? ⟨V.heap.size + 1, 2, none⟩ = some (.int .i64 0)) ∧ w''.frozen? ⟨V.heap.size + 1, 0, none⟩ = false ∧ w''.frozen? ⟨V.heap.size + 1, 1, none⟩ = false ∧ w''.frozen? ⟨V.heap.size + 1, 2, none⟩ = false from fun w' x h hx0 hx1 =>
    (height_any _ ls x hx0 hx1 hcv w' (HV.out.below (HB1.trans (h.mono HB1.size)) (Nat.le_refl _))).mono fun e w'' h2 => by
      have h3 := h.trans (h2.2.mono h.size)
      have hn := (h3.block (V.heap.size + 1) (by omega)).trans k2
      exact ⟨h2.1, h3, cells3 hn, Lib.frozen_of_heap hn 0, Lib.frozen_of_heap hn 1, Lib.frozen_of_heap hn 2⟩)
  have HFIN := hide (show ∀ w' x y z, Below U.heap.size U w' → Below V.heap.size V (((w'.setCell ⟨V.heap.size + 1, 0, none⟩ x).setCell ⟨V.heap.size + 1, 1, none⟩ y).setCell ⟨V.heap.size + 1, 2, none⟩ z) from fun w' x y z h => set3_below (HB1.trans (h.mono HB1.size)) (by omega) x y z)
  have hdrew : Below U.heap.size U U.drew := (Below.refl _ _).drew
  clear k1 k2 hc
  go_region_held3 (fun w' => (w'.cell? ⟨Bl, 0, none⟩ = some (.slice ao ls.length ca) ∧ w'.cell? ⟨V.heap.size, 0, none⟩ = some (.int .i64 r) ∧ w'.cell? ⟨V.heap.size, 1, none⟩ = some (.int .i64 g) ∧ w'.cell? ⟨V.heap.size, 2, none⟩ = some (.int .i64 u)))
    (first | (refine HS.out _ ?_; assumption) | (refine HS3.out _ _ _ _ ?_; assumption))
    (first
      | (go_at_call 34; refine (HH.out _ _ ?_ ?_ ?_).mono ?_; assumption; assumption; assumption; rintro e wx ⟨rfl, hN, ⟨z0, z1, z2⟩, f0, f1, f2⟩))
  all_goals
    go_wp2
    exact bodyPost_ret (v := .agg #[.int .i64 (heightV ls r), .int .i64 (heightV ls g), .int .i64 (heightV ls u)]) (by simp [results, Try.results87, go_sem, z0, z1, z2]) rfl ⟨rfl, HFIN.out _ _ _ _ (by assumption)⟩
def bendE (W H : Int) (ps : List Px) (ls : List Pt) : Int := if picOk W H ps = true ∧ curveOk ls = true then 0 else 1
set_option maxRecDepth 100000 in
set_option maxHeartbeats 1600000 in
theorem bend_any (W H : Int) (v : Value) (ps : List Px) (vl : Value) (ls : List Pt) (w : World) (hv : IsPix w v ps) (hvl : IsPts w vl ls) :
    Calls Try.prog 86 #[.agg #[.int .i64 W, .int .i64 H, v], vl] w fun e w' => ∃ r, e = .returned (.tuple #[.agg #[.int .i64 (okW (bendE W H ps ls) W), .int .i64 (okW (bendE W H ps ls) H), r], .int .i64 (bendE W H ps ls)]) ∧ IsPix w' r (okL (bendE W H ps ls) (ps.map (bendP ls))) ∧ Below w.heap.size w w' ∧ Fresh w.heap.size r := by
  have HV := hide hv
  have HL := hide hvl
  obtain ⟨ao, ca, rfl, hla, hc⟩ := hv
  obtain ⟨lo, lc, rfl, _, _⟩ := hvl
  obtain ⟨E, hE⟩ : ∃ E, bendE W H ps ls = E := ⟨_, rfl⟩
  rw [hE]
  by_cases hp : picOk W H ps = true
  · by_cases hm : curveOk ls = true
    · have he : E = 0 := by rw [← hE, bendE, if_pos ⟨hp, hm⟩]
      subst he
      clear hE
      have HCV := hide (isCurve_of hm)
      obtain ⟨⟨w1, w2⟩, ⟨h1, h2⟩, hl, hpx⟩ := picOk_parts hp
      obtain ⟨WN, rfl⟩ := Int.eq_ofNat_of_zero_le (show 0 ≤ W by omega)
      obtain ⟨HN, rfl⟩ := Int.eq_ofNat_of_zero_le (show 0 ≤ H by omega)
      have HLEN := hide (show ps.length = HN * WN by rw [Nat.mul_comm]; exact_mod_cast hl)
      have HPX := hide hpx
      clear hl hpx
      go_enter Try.func86, Try.ntmps86
      go_wp2_with fail
      obtain ⟨a1, a2, a3⟩ := al3 w (Obj.cells #[.int .i64 (WN : Nat), .int .i64 (HN : Nat), .slice ao ps.length ca] 34) (Obj.cells #[.slice lo ls.length lc] 26) (Obj.cells #[.int .i64 0, .int .i64 0, .slice none 0 0] 34)
      have hB := be3 w (Obj.cells #[.int .i64 (WN : Nat), .int .i64 (HN : Nat), .slice ao ps.length ca] 34) (Obj.cells #[.slice lo ls.length lc] 26) (Obj.cells #[.int .i64 0, .int .i64 0, .slice none 0 0] 34)
      have hs3 : (((w.alloc (Obj.cells #[.int .i64 (WN : Nat), .int .i64 (HN : Nat), .slice ao ps.length ca] 34)).alloc (Obj.cells #[.slice lo ls.length lc] 26)).alloc (Obj.cells #[.int .i64 0, .int .i64 0, .slice none 0 0] 34)).heap.size = w.heap.size + 3 := by simp
      generalize ((w.alloc (Obj.cells #[.int .i64 (WN : Nat), .int .i64 (HN : Nat), .slice ao ps.length ca] 34)).alloc (Obj.cells #[.slice lo ls.length lc] 26)).alloc (Obj.cells #[.int .i64 0, .int .i64 0, .slice none 0 0] 34) = U at *
      refine (picture_any WN HN _ ps _ (HV.out.below hB (Nat.le_refl _))).mono ?_
      rintro e w1 ⟨rfl, hb1⟩
      rw [hp]
      have g1 := (hb1.block (w.heap.size) (by omega)).trans a1
      have g2 := (hb1.block (w.heap.size + 1) (by omega)).trans a2
      have g3 := (hb1.block (w.heap.size + 1 + 1) (by omega)).trans a3
      have l0 : w1.cell? ⟨w.heap.size + 1, 0, none⟩ = some (.slice lo ls.length lc) := by rw [Lib.cell_of_heap g2]; rfl
      go_wp2_with fail
      refine (isCurve_any _ ls _ (HL.out.below (hB.trans (hb1.mono hB.size)) (Nat.le_refl _))).mono ?_
      rintro e w2 ⟨rfl, hb2⟩
      rw [hm]
      clear l0
      replace hb2 := bel_trans hb1 hb2
      replace g1 := (hb2.block (w.heap.size) (by omega)).trans a1
      replace g2 := (hb2.block (w.heap.size + 1) (by omega)).trans a2
      replace g3 := (hb2.block (w.heap.size + 1 + 1) (by omega)).trans a3
      obtain ⟨p0, p1, p2⟩ := cells3 g1
      go_wp2_with fail
      refine (each_any WN HN (by omega) (by omega) _ ps HLEN.out 87 #[.pointer (some ⟨w.heap.size + 1, 0, none⟩)] (bendP ls) _ (HV.out.below (hB.trans (hb2.mono hB.size)) (Nat.le_refl _)) (enters_of Try.func87 (by kernel_rfl) rfl) ?_).mono ?_
      · intro j hj V hV
        have hb3 := bel_trans hb2 hV
        have g2' := (hb3.block (w.heap.size + 1) (by omega)).trans a2
        exact bend1_any (w.heap.size + 1) _ ls HCV.out ps[j] (List.all_eq_true.1 HPX.out _ (List.getElem_mem hj)) V (by have := hb3.size; omega) (HL.out.below (hB.trans (hb3.mono hB.size)) (Nat.le_refl _)) (by rw [Lib.cell_of_heap g2']; rfl)
      · rintro e w3 ⟨r, rfl, hr, hb3, hfr⟩
        clear p0 p1 p2
        replace hb3 := bel_trans hb2 hb3
        replace g3 := (hb3.block (w.heap.size + 1 + 1) (by omega)).trans a3
        have hs2 := hb2.size
        obtain ⟨z0, z1, z2⟩ := cells3 g3
        have f0 := Lib.frozen_of_heap g3 0
        have f1 := Lib.frozen_of_heap g3 1
        have f2 := Lib.frozen_of_heap g3 2
        have HR := hide hr
        obtain ⟨ro, rc, rfl, _, _⟩ := hr
        have HFIN := hide (set3_below (hB.trans (hb3.mono hB.size)) (show w.heap.size ≤ w.heap.size + 1 + 1 by omega) (.int .i64 (WN : Nat)) (.int .i64 (HN : Nat)) (.slice ro (ps.map (bendP ls)).length rc))
        have HPX2 := hide (HR.out.set3 hfr (show w.heap.size + 1 + 1 < w2.heap.size by omega) (.int .i64 (WN : Nat)) (.int .i64 (HN : Nat)) (.slice ro (ps.map (bendP ls)).length rc))
        rw [List.length_map] at HPX2 HFIN hfr
        go_wp2
        exact bodyPost_ret (v := .tuple #[.agg #[.int .i64 (WN : Nat), .int .i64 (HN : Nat), .slice ro ps.length rc], .int .i64 0]) (by simp [results, Try.results86, go_sem, z0, z1, z2]) rfl ⟨_, rfl, HPX2.out, HFIN.out, hfr.mono (by omega)⟩
    · have he : E = 1 := by rw [← hE, bendE, if_neg (fun h => hm h.2)]
      have hm : curveOk ls = false := by simpa using hm
      subst he
      clear hE
      go_enter Try.func86, Try.ntmps86
      go_wp2_with fail
      obtain ⟨a1, a2, a3⟩ := al3 w (Obj.cells #[.int .i64 W, .int .i64 H, .slice ao ps.length ca] 34) (Obj.cells #[.slice lo ls.length lc] 26) (Obj.cells #[.int .i64 0, .int .i64 0, .slice none 0 0] 34)
      have hB := be3 w (Obj.cells #[.int .i64 W, .int .i64 H, .slice ao ps.length ca] 34) (Obj.cells #[.slice lo ls.length lc] 26) (Obj.cells #[.int .i64 0, .int .i64 0, .slice none 0 0] 34)
      have hs3 : (((w.alloc (Obj.cells #[.int .i64 W, .int .i64 H, .slice ao ps.length ca] 34)).alloc (Obj.cells #[.slice lo ls.length lc] 26)).alloc (Obj.cells #[.int .i64 0, .int .i64 0, .slice none 0 0] 34)).heap.size = w.heap.size + 3 := by simp
      generalize ((w.alloc (Obj.cells #[.int .i64 W, .int .i64 H, .slice ao ps.length ca] 34)).alloc (Obj.cells #[.slice lo ls.length lc] 26)).alloc (Obj.cells #[.int .i64 0, .int .i64 0, .slice none 0 0] 34) = U at *
      refine (picture_any W H _ ps _ (HV.out.below hB (Nat.le_refl _))).mono ?_
      rintro e w1 ⟨rfl, hb1⟩
      rw [hp]
      have g1 := (hb1.block (w.heap.size) (by omega)).trans a1
      have g2 := (hb1.block (w.heap.size + 1) (by omega)).trans a2
      have g3 := (hb1.block (w.heap.size + 1 + 1) (by omega)).trans a3
      have l0 : w1.cell? ⟨w.heap.size + 1, 0, none⟩ = some (.slice lo ls.length lc) := by rw [Lib.cell_of_heap g2]; rfl
      go_wp2_with fail
      refine (isCurve_any _ ls _ (HL.out.below (hB.trans (hb1.mono hB.size)) (Nat.le_refl _))).mono ?_
      rintro e w2 ⟨rfl, hb2⟩
      rw [hm]
      clear l0
      replace hb2 := bel_trans hb1 hb2
      replace g1 := (hb2.block (w.heap.size) (by omega)).trans a1
      replace g2 := (hb2.block (w.heap.size + 1) (by omega)).trans a2
      replace g3 := (hb2.block (w.heap.size + 1 + 1) (by omega)).trans a3
      obtain ⟨z0, z1, z2⟩ := cells3 g3
      have f0 := Lib.frozen_of_heap g3 0
      have f1 := Lib.frozen_of_heap g3 1
      have f2 := Lib.frozen_of_heap g3 2
      have HBL := hb2
      have HFIN := hide (set3_below (hB.trans (HBL.mono hB.size)) (show w.heap.size ≤ w.heap.size + 1 + 1 by omega) (.int .i64 0) (.int .i64 0) (.slice none 0 0))
      go_wp2
      exact bodyPost_ret (v := .tuple #[.agg #[.int .i64 0, .int .i64 0, .slice none 0 0], .int .i64 1]) (by simp [results, Try.results86, go_sem, z0, z1, z2]) rfl ⟨.slice none 0 0, rfl, IsPix.nil _, HFIN.out, Fresh.nil _⟩
  · have he : E = 1 := by rw [← hE, bendE, if_neg (fun h => hp h.1)]
    have hp : picOk W H ps = false := by simpa using hp
    subst he
    clear hE
    go_enter Try.func86, Try.ntmps86
    go_wp2_with fail
    obtain ⟨a1, a2, a3⟩ := al3 w (Obj.cells #[.int .i64 W, .int .i64 H, .slice ao ps.length ca] 34) (Obj.cells #[.slice lo ls.length lc] 26) (Obj.cells #[.int .i64 0, .int .i64 0, .slice none 0 0] 34)
    have hB := be3 w (Obj.cells #[.int .i64 W, .int .i64 H, .slice ao ps.length ca] 34) (Obj.cells #[.slice lo ls.length lc] 26) (Obj.cells #[.int .i64 0, .int .i64 0, .slice none 0 0] 34)
    have hs3 : (((w.alloc (Obj.cells #[.int .i64 W, .int .i64 H, .slice ao ps.length ca] 34)).alloc (Obj.cells #[.slice lo ls.length lc] 26)).alloc (Obj.cells #[.int .i64 0, .int .i64 0, .slice none 0 0] 34)).heap.size = w.heap.size + 3 := by simp
    generalize ((w.alloc (Obj.cells #[.int .i64 W, .int .i64 H, .slice ao ps.length ca] 34)).alloc (Obj.cells #[.slice lo ls.length lc] 26)).alloc (Obj.cells #[.int .i64 0, .int .i64 0, .slice none 0 0] 34) = U at *
    refine (picture_any W H _ ps _ (HV.out.below hB (Nat.le_refl _))).mono ?_
    rintro e w1 ⟨rfl, hb1⟩
    rw [hp]
    have g1 := (hb1.block (w.heap.size) (by omega)).trans a1
    have g2 := (hb1.block (w.heap.size + 1) (by omega)).trans a2
    have g3 := (hb1.block (w.heap.size + 1 + 1) (by omega)).trans a3
    obtain ⟨z0, z1, z2⟩ := cells3 g3
    have f0 := Lib.frozen_of_heap g3 0
    have f1 := Lib.frozen_of_heap g3 1
    have f2 := Lib.frozen_of_heap g3 2
    have HBL := hb1
    have HFIN := hide (set3_below (hB.trans (HBL.mono hB.size)) (show w.heap.size ≤ w.heap.size + 1 + 1 by omega) (.int .i64 0) (.int .i64 0) (.slice none 0 0))
    go_wp2
    exact bodyPost_ret (v := .tuple #[.agg #[.int .i64 0, .int .i64 0, .slice none 0 0], .int .i64 1]) (by simp [results, Try.results86, go_sem, z0, z1, z2]) rfl ⟨.slice none 0 0, rfl, IsPix.nil _, HFIN.out, Fresh.nil _⟩
end Go.Proofs.Ytolcndchfnifhac

namespace Go.Proofs.Ytolcndchfnifhac
set_option linter.unusedVariables false
open Go.RowKit
structure Plan where
  phase : Int
  black : Nat → Int
  white : Int
  spots : List Pt
  gains : Nat → Int
  matrix : Nat → Int
  curve : List Pt
  amount : Int
abbrev planA (n : Plan) (sv cv : Value) : Array Value := #[.int .i64 n.phase, .int .i64 (n.black 0), .int .i64 (n.black 1), .int .i64 (n.black 2), .int .i64 (n.black 3), .int .i64 n.white, sv, .int .i64 (n.gains 0), .int .i64 (n.gains 1), .int .i64 (n.gains 2),
  .int .i64 (n.matrix 0), .int .i64 (n.matrix 1), .int .i64 (n.matrix 2), .int .i64 (n.matrix 3), .int .i64 (n.matrix 4), .int .i64 (n.matrix 5), .int .i64 (n.matrix 6), .int .i64 (n.matrix 7), .int .i64 (n.matrix 8), cv, .int .i64 n.amount]
theorem plan_cells {w : World} {b : Nat} {t : TypeId} {fr : Nat × Nat} {n : Plan} {sv cv : Value} (h : w.heap[b]? = some (.cells (planA n sv cv) t fr)) :
    w.cell? ⟨b, 0, none⟩ = some (.int .i64 n.phase) ∧ w.cell? ⟨b, 1, none⟩ = some (.int .i64 (n.black 0)) ∧ w.cell? ⟨b, 2, none⟩ = some (.int .i64 (n.black 1)) ∧ w.cell? ⟨b, 3, none⟩ = some (.int .i64 (n.black 2)) ∧ w.cell? ⟨b, 4, none⟩ = some (.int .i64 (n.black 3)) ∧ w.cell? ⟨b, 5, none⟩ = some (.int .i64 n.white) ∧ w.cell? ⟨b, 6, none⟩ = some sv ∧
    w.cell? ⟨b, 7, none⟩ = some (.int .i64 (n.gains 0)) ∧ w.cell? ⟨b, 8, none⟩ = some (.int .i64 (n.gains 1)) ∧ w.cell? ⟨b, 9, none⟩ = some (.int .i64 (n.gains 2)) ∧ w.cell? ⟨b, 10, none⟩ = some (.int .i64 (n.matrix 0)) ∧ w.cell? ⟨b, 11, none⟩ = some (.int .i64 (n.matrix 1)) ∧ w.cell? ⟨b, 12, none⟩ = some (.int .i64 (n.matrix 2)) ∧ w.cell? ⟨b, 13, none⟩ = some (.int .i64 (n.matrix 3)) ∧
    w.cell? ⟨b, 14, none⟩ = some (.int .i64 (n.matrix 4)) ∧ w.cell? ⟨b, 15, none⟩ = some (.int .i64 (n.matrix 5)) ∧ w.cell? ⟨b, 16, none⟩ = some (.int .i64 (n.matrix 6)) ∧ w.cell? ⟨b, 17, none⟩ = some (.int .i64 (n.matrix 7)) ∧ w.cell? ⟨b, 18, none⟩ = some (.int .i64 (n.matrix 8)) ∧ w.cell? ⟨b, 19, none⟩ = some cv ∧ w.cell? ⟨b, 20, none⟩ = some (.int .i64 n.amount) := by
  refine ⟨?_, ?_, ?_, ?_, ?_, ?_, ?_, ?_, ?_, ?_, ?_, ?_, ?_, ?_, ?_, ?_, ?_, ?_, ?_, ?_, ?_⟩ <;> (rw [Lib.cell_of_heap h]; rfl)
structure IsPlan (w : World) (n : Plan) (sv cv : Value) : Prop where
  spots : IsPts w sv n.spots
  curve : IsPts w cv n.curve
theorem IsPlan.below {w w' : World} {n : Plan} {sv cv : Value} {B : Nat} (h : IsPlan w n sv cv) (hb : Below B w w') (hB : w.heap.size ≤ B) : IsPlan w' n sv cv := ⟨h.spots.below hb hB, h.curve.below hb hB⟩
def sensOk (n : Plan) : Bool := phaseOk n.phase && levelsOk n.black n.white && gainsOk n.gains
def toneOk (n : Plan) : Bool := matOk n.matrix && amountOk n.amount
def spotOk (n : Plan) : Bool := decide ((n.spots.length : Int) ≤ 64) && spotsB 64 64 n.spots
def planE (n : Plan) : Int := if (sensOk n && toneOk n && spotOk n) = true then (if curveOk n.curve = true then 0 else 1) else 3
set_option maxRecDepth 100000 in
set_option maxHeartbeats 3200000 in
theorem check_any (n : Plan) (sv cv : Value) (w : World) (hp : IsPlan w n sv cv) :
    Calls Try.prog 13 #[.agg (planA n sv cv)] w fun e w' => e = .returned (.int .i64 (planE n)) ∧ Below w.heap.size w w' := by
  have HP := hide hp
  obtain ⟨⟨lo, lc, rfl, hll, _⟩, ⟨ko, kc, rfl, hkl, _⟩⟩ := hp
  have a1 := al1 w (Obj.cells (planA n (.slice lo n.spots.length lc) (.slice ko n.curve.length kc)) 28)
  have HB := hide (bel_alloc w (Obj.cells (planA n (.slice lo n.spots.length lc) (.slice ko n.curve.length kc)) 28))
  obtain ⟨E, hE⟩ : ∃ E, planE n = E := ⟨_, rfl⟩
  rw [hE]
  have HPH := hide (fun u => phase_any n.phase u)
  have HLV := hide (fun u => levels_any n.black n.white u)
  have HGA := hide (fun u => gains_any n.gains u)
  have HMA := hide (fun u => matrix_any n.matrix u)
  have HAM := hide (fun u => amount_any n.amount u)
  have HE := hide (show E = if (sensOk n && toneOk n && spotOk n) = true then (if curveOk n.curve = true then 0 else 1) else 3 from hE.symm)
  have HSE := hide (show sensOk n = (phaseOk n.phase && levelsOk n.black n.white && gainsOk n.gains) from rfl)
  have HTO := hide (show toneOk n = (matOk n.matrix && amountOk n.amount) from rfl)
  have HSP := hide (show spotOk n = (decide ((n.spots.length : Int) ≤ 64) && spotsB 64 64 n.spots) from rfl)
  clear hE
  go_enter Try.func13, Try.ntmps13
  go_upto_region 1 with fail
  have hl1 := (Array.getElem?_eq_some_iff.1 a1).1
  generalize w.alloc (Obj.cells (planA n (.slice lo n.spots.length lc) (.slice ko n.curve.length kc)) 28) = U at *
  have HCL := hide (fun (v : World) (h : Below U.heap.size U v) => plan_cells ((h.block _ hl1).trans a1))
  go_cut [3] from 9 (fun s v => s = .bool (sensOk n) ∧ Below U.heap.size U v)
  case first =>
    obtain ⟨c0, c1, c2, c3, c4, c5, c6, c7, c8, c9, c10, c11, c12, c13, c14, c15, c16, c17, c18, c19, c20⟩ := HCL.out U (Below.refl _ _)
    go_wp2_with fail
    refine (HPH.out _).mono ?_
    rintro e V1 ⟨rfl, hb1⟩
    clear c0 c1 c2 c3 c4 c5 c6 c7 c8 c9 c10 c11 c12 c13 c14 c15 c16 c17 c18 c19 c20
    cases hp1 : phaseOk n.phase
    · have HS0 := hide (show false = sensOk n by rw [HSE.out, hp1]; rfl)
      go_wp2
      go_meet
      case rel => exact ⟨by rw [HS0.out], hb1⟩
    · obtain ⟨c0, c1, c2, c3, c4, c5, c6, c7, c8, c9, c10, c11, c12, c13, c14, c15, c16, c17, c18, c19, c20⟩ := HCL.out V1 hb1
      go_wp2_with fail
      refine (HLV.out _).mono ?_
      rintro e V2 ⟨rfl, hb2⟩
      replace hb2 := bel_trans hb1 hb2
      clear c0 c1 c2 c3 c4 c5 c6 c7 c8 c9 c10 c11 c12 c13 c14 c15 c16 c17 c18 c19 c20
      cases hp2 : levelsOk n.black n.white
      · have HS0 := hide (show false = sensOk n by rw [HSE.out, hp1, hp2]; rfl)
        go_wp2
        go_meet
        case rel => exact ⟨by rw [HS0.out], hb2⟩
      · obtain ⟨c0, c1, c2, c3, c4, c5, c6, c7, c8, c9, c10, c11, c12, c13, c14, c15, c16, c17, c18, c19, c20⟩ := HCL.out V2 hb2
        go_wp2_with fail
        refine (HGA.out _).mono ?_
        rintro e V3 ⟨rfl, hb3⟩
        replace hb3 := bel_trans hb2 hb3
        have HS0 := hide (show gainsOk n.gains = sensOk n by rw [HSE.out, hp1, hp2]; rfl)
        rw [HS0.out]
        go_wp2
        go_meet
        case rel => exact ⟨rfl, hb3⟩
  case rest =>
    obtain ⟨rfl, hbc⟩ := hcut
    go_upto_region 2 with fail
    go_cut [4] from 9 (fun s v => s = .bool (toneOk n) ∧ Below U.heap.size U v)
    case first =>
      obtain ⟨c0, c1, c2, c3, c4, c5, c6, c7, c8, c9, c10, c11, c12, c13, c14, c15, c16, c17, c18, c19, c20⟩ := HCL.out _ hbc
      go_wp2_with fail
      refine (HMA.out _).mono ?_
      rintro e V1 ⟨rfl, hb1⟩
      replace hb1 := bel_trans hbc hb1
      clear c0 c1 c2 c3 c4 c5 c6 c7 c8 c9 c10 c11 c12 c13 c14 c15 c16 c17 c18 c19 c20
      cases hp1 : matOk n.matrix
      · have HS0 := hide (show false = toneOk n by rw [HTO.out, hp1]; rfl)
        go_wp2
        go_meet
        case rel => exact ⟨by rw [HS0.out], hb1⟩
      · obtain ⟨c0, c1, c2, c3, c4, c5, c6, c7, c8, c9, c10, c11, c12, c13, c14, c15, c16, c17, c18, c19, c20⟩ := HCL.out V1 hb1
        go_wp2_with fail
        refine (HAM.out _).mono ?_
        rintro e V2 ⟨rfl, hb2⟩
        replace hb2 := bel_trans hb1 hb2
        have HS0 := hide (show amountOk n.amount = toneOk n by rw [HTO.out, hp1]; rfl)
        rw [HS0.out]
        go_wp2
        go_meet
        case rel => exact ⟨rfl, hb2⟩
    case rest =>
      obtain ⟨rfl, hbd⟩ := hcut
      have g1 := al1 wc (Obj.cells #[.int .i64 64, .int .i64 64] 52)
      have hbg := bel_trans hbd (bel_alloc wc (Obj.cells #[.int .i64 64, .int .i64 64] 52))
      go_upto_region 4 with fail
      have hlg := (Array.getElem?_eq_some_iff.1 g1).1
      generalize wc.alloc (Obj.cells #[.int .i64 64, .int .i64 64] 52) = G at *
      go_cut [6] from 9 (fun s v => s = .bool (spotOk n) ∧ Below U.heap.size U v)
      case first =>
        obtain ⟨c0, c1, c2, c3, c4, c5, c6, c7, c8, c9, c10, c11, c12, c13, c14, c15, c16, c17, c18, c19, c20⟩ := HCL.out _ hbg
        obtain ⟨q0, q1⟩ := bx2 g1
        by_cases hln : (n.spots.length : Int) ≤ 64
        · have hd : decide ((n.spots.length : Int) ≤ 64) = true := by simpa using hln
          go_wp2_with fail
          refine (hasAll_any 64 64 _ n.spots _ (HP.out.spots.below (HB.out.trans (hbg.mono HB.out.size)) (Nat.le_refl _))).mono ?_
          rintro e V2 ⟨rfl, hb2⟩
          replace hb2 := bel_trans hbg hb2
          have HS0 := hide (show spotsB 64 64 n.spots = spotOk n by rw [HSP.out, hd]; rfl)
          rw [HS0.out]
          go_wp2
          go_meet
          case rel => exact ⟨rfl, hb2⟩
        · have hd : decide ((n.spots.length : Int) ≤ 64) = false := by simpa using hln
          have HS0 := hide (show false = spotOk n by rw [HSP.out, hd]; rfl)
          go_wp2
          go_meet
          case rel => exact ⟨by rw [HS0.out], hbg⟩
      case rest =>
        obtain ⟨rfl, hbe⟩ := hcut
        have HBE := hide (HB.out.trans (hbe.mono HB.out.size))
        cases hs1 : sensOk n
        · have he : E = 3 := by rw [HE.out, hs1]; rfl
          subst he
          go_wp2
          go_ret
          exact ⟨rfl, HBE.out⟩
        · cases hs2 : toneOk n
          · have he : E = 3 := by rw [HE.out, hs1, hs2]; rfl
            subst he
            go_wp2
            go_ret
            exact ⟨rfl, HBE.out⟩
          · cases hs3 : spotOk n
            · have he : E = 3 := by rw [HE.out, hs1, hs2, hs3]; rfl
              subst he
              go_wp2
              go_ret
              exact ⟨rfl, HBE.out⟩
            · have HE2 := hide (show E = curveE n.curve 0 by rw [HE.out, hs1, hs2, hs3]; rfl)
              obtain ⟨c0, c1, c2, c3, c4, c5, c6, c7, c8, c9, c10, c11, c12, c13, c14, c15, c16, c17, c18, c19, c20⟩ := HCL.out _ hbe
              go_wp2_with fail
              refine (curve_any _ n.curve 0 _ (HP.out.curve.below HBE.out (Nat.le_refl _))).mono ?_
              rintro e V2 ⟨rfl, hb2⟩
              rw [← HE2.out]
              go_wp2
              go_ret
              exact ⟨rfl, bel_trans HBE.out hb2⟩
end Go.Proofs.Ytolcndchfnifhac

namespace Go.Proofs.Ytolcndchfnifhac
set_option linter.unusedVariables false
open Go.RowKit
def fitsE (n : Plan) (W H : Int) (zs : List Int) (height : Int) : Int := if planE n = 0 then (if planeOk W H zs = true then (if spotsB W height n.spots = true then 0 else 3) else 1) else planE n
set_option maxRecDepth 100000 in
set_option maxHeartbeats 1600000 in
theorem fits_any (n : Plan) (sv cv : Value) (W H : Int) (v : Value) (zs : List Int) (height : Int) (w : World) (hp : IsPlan w n sv cv) (hv : IsInts w v zs) :
    Calls Try.prog 7 #[.agg (planA n sv cv), .agg #[.int .i64 W, .int .i64 H, v], .int .i64 height] w fun e w' => e = .returned (.int .i64 (fitsE n W H zs height)) ∧ Below w.heap.size w w' := by
  have HP := hide hp
  have HV := hide hv
  obtain ⟨⟨lo, lc, rfl, hll, _⟩, ⟨ko, kc, rfl, hkl, _⟩⟩ := hp
  obtain ⟨ao, ca, rfl, _, _⟩ := hv
  obtain ⟨a1, a2⟩ := al2 w (Obj.cells (planA n (.slice lo n.spots.length lc) (.slice ko n.curve.length kc)) 28) (Obj.cells #[.int .i64 W, .int .i64 H, .slice ao zs.length ca] 31)
  have HB := hide (be2 w (Obj.cells (planA n (.slice lo n.spots.length lc) (.slice ko n.curve.length kc)) 28) (Obj.cells #[.int .i64 W, .int .i64 H, .slice ao zs.length ca] 31))
  have HF := hide (show fitsE n W H zs height = if planE n = 0 then (if planeOk W H zs = true then (if spotsB W height n.spots = true then 0 else 3) else 1) else planE n from rfl)
  obtain ⟨E, hE⟩ : ∃ E, fitsE n W H zs height = E := ⟨_, rfl⟩
  rw [hE] at HF ⊢
  clear hE
  have HCK := hide (fun (u : World) (hu : Below w.heap.size w u) => check_any n _ _ u (HP.out.below hu (Nat.le_refl _)))
  obtain ⟨F, hF⟩ : ∃ F, planE n = F := ⟨_, rfl⟩
  rw [hF] at HF HCK
  clear hF
  go_enter Try.func7, Try.ntmps7
  go_wp2_with (refine wpList_load_row rfl 28 _ rfl _ rfl _ _ _ _ a1 Try.underlying28 rfl (by kernel_rfl) ?_)
  have hl1 := (Array.getElem?_eq_some_iff.1 a1).1
  have hl2 := (Array.getElem?_eq_some_iff.1 a2).1
  generalize (w.alloc (Obj.cells (planA n (.slice lo n.spots.length lc) (.slice ko n.curve.length kc)) 28)).alloc (Obj.cells #[.int .i64 W, .int .i64 H, .slice ao zs.length ca] 31) = U at *
  refine (HCK.out _ HB.out).mono ?_
  rintro e V1 ⟨rfl, hb1⟩
  have HB1 := hide (HB.out.trans (hb1.mono HB.out.size))
  by_cases hF : F = 0
  · subst hF
    rw [if_pos rfl] at HF
    obtain ⟨p0, p1, p2⟩ := cells3 ((hb1.block _ hl2).trans a2)
    go_wp2_with fail
    clear p0 p1 p2
    refine (plane_any W H _ zs _ (HV.out.below HB1.out (Nat.le_refl _))).mono ?_
    rintro e V2 ⟨rfl, hb2⟩
    replace hb2 := bel_trans hb1 hb2
    have HB2 := hide (HB.out.trans (hb2.mono HB.out.size))
    by_cases hp : planeOk W H zs = true
    · rw [if_pos hp] at HF
      rw [hp]
      obtain ⟨p0, p1, p2⟩ := cells3 ((hb2.block _ hl2).trans a2)
      have g1 := al1 V2 (Obj.cells #[.int .i64 W, .int .i64 height] 52)
      have hb3 := bel_trans hb2 (bel_alloc V2 (Obj.cells #[.int .i64 W, .int .i64 height] 52))
      obtain ⟨q0, q1⟩ := bx2 g1
      obtain ⟨_, _, _, _, _, _, s6, _⟩ := plan_cells ((hb3.block _ hl1).trans a1)
      go_wp2_with fail
      clear p0 p1 p2 q0 q1 s6
      generalize V2.alloc (Obj.cells #[.int .i64 W, .int .i64 height] 52) = G at *
      have HB3 := hide (HB.out.trans (hb3.mono HB.out.size))
      refine (hasAll_any W height _ n.spots _ (HP.out.spots.below HB3.out (Nat.le_refl _))).mono ?_
      rintro e V3 ⟨rfl, hb4⟩
      have HB4 := hide (bel_trans HB3.out hb4)
      cases hs : spotsB W height n.spots
      · have he : E = 3 := by rw [HF.out, hs]; rfl
        subst he
        go_wp2
        go_ret
        exact ⟨rfl, HB4.out⟩
      · have he : E = 0 := by rw [HF.out, hs]; rfl
        subst he
        go_wp2
        go_ret
        exact ⟨rfl, HB4.out⟩
    · rw [if_neg hp] at HF
      have hp : planeOk W H zs = false := by simpa using hp
      rw [hp]
      have he : E = 1 := HF.out
      subst he
      go_wp2
      go_ret
      exact ⟨rfl, HB2.out⟩
  · rw [if_neg hF] at HF
    have hn : (F != 0) = true := by simpa using hF
    have he : E = F := HF.out
    subst he
    go_wp2
    go_ret
    exact ⟨rfl, HB1.out⟩
def needA (F : Nat) : Nat := F - 4
def needB (T H : Nat) : Nat := min H (T + 4)
set_option maxRecDepth 100000 in
theorem needed_any (F T H : Nat) (hF : F ≤ 64) (hT : T ≤ 64) (hH : H ≤ 64) (w : World) :
    Calls Try.prog 19 #[.int .i64 F, .int .i64 T, .int .i64 H] w fun e w' => e = .returned (.tuple #[.int .i64 (needA F : Nat), .int .i64 (needB T H : Nat)]) ∧ w = w' := by
  have h1 : (if (0 : Int) < (F : Int) - 4 then (F : Int) - 4 else 0) = ((needA F : Nat) : Int) := by unfold needA; split <;> omega
  have h2 : (if (4 : Int) < (F : Int) then (F : Int) - 4 else 0) = ((needA F : Nat) : Int) := by unfold needA; split <;> omega
  have h3 : (if (T : Int) + 4 < (H : Int) then (T : Int) + 4 else (H : Int)) = ((needB T H : Nat) : Int) := by unfold needB; split <;> omega
  generalize needA F = A at *
  generalize needB T H = B at *
  go_enter Try.func19, Try.ntmps19
  go_wp2
  go_ret2
  exact ⟨rfl, rfl⟩
end Go.Proofs.Ytolcndchfnifhac

namespace Go.Proofs.Ytolcndchfnifhac
open Go
section
variable {P : Program} {ops : Array Oper} {Q : Exit → Act → World → Prop} {md : Region.Mode} {S : World → Prop} {f : Nat}
def wpAnyF (P : Program) (md : Region.Mode) (ops : Array Oper) (Q : Exit → Act → World → Prop) (S : World → Prop) (f : Nat) : Nat → Array Bool → Act → World → Prop
  | 0, listed, a, w => Region.ready md ops listed = [] ∧ Q .normal a w
  | fuel + 1, listed, a, w =>
    (Region.ready md ops listed = [] → Q .normal a w) ∧
    ∀ i ∈ Region.ready md ops listed, wpOp P ops Q i (fun a' w' => (i ≠ f → S w') ∧ wpAnyF P md ops Q S f fuel (listed.setIfInBounds i true) a' w') a w
theorem wpAny_of_F : ∀ (fuel : Nat) (listed : Array Bool) (a : Act) (w : World), wpAnyF P md ops Q S f fuel listed a w → wpAny P md ops Q fuel listed a w
  | 0, _, _, _, h => h
  | fuel + 1, _, _, _, h => ⟨h.1, fun i hi => wpOp_mono (fun a' w' h' => wpAny_of_F fuel _ a' w' h'.2) (h.2 i hi)⟩
def waits (md : Region.Mode) (ops : Array Oper) (i : Nat) : Nat → Nat → Bool
  | 0, _ => false
  | n + 1, j => match ops[j]? with
    | some o => o.after.any fun e => Region.binds md e && (e.on == i || waits md ops i n e.on)
    | none => false
def Closed (md : Region.Mode) (ops : Array Oper) (listed : Array Bool) : Prop := ∀ k o, ops[k]? = some o → listed.getD k false = true → ∀ e ∈ o.after, Region.binds md e = true → listed.getD e.on false = true
def closedB (md : Region.Mode) (ops : Array Oper) (listed : Array Bool) : Bool :=
  (List.range ops.size).all fun k => match ops[k]? with
    | some o => !listed.getD k false || o.after.all fun e => !Region.binds md e || listed.getD e.on false
    | none => true
theorem closed_of {listed : Array Bool} (h : closedB md ops listed = true) : Closed md ops listed := by
  intro k o ho hk e he hb
  have h1 := List.all_eq_true.1 h k (List.mem_range.2 (Array.getElem?_eq_some_iff.1 ho).1)
  simp only [ho, hk, Bool.not_true, Bool.false_or] at h1
  have h2 : (!Region.binds md e || listed.getD e.on false) = true := by
    first
      | exact List.all_eq_true.1 h1 e he
      | exact Array.all_eq_true'.1 h1 e he
  rw [hb] at h2
  simpa using h2
theorem waits_spec {i : Nat} {listed : Array Bool} (hc : Closed md ops listed) : ∀ (n j : Nat), (j ∈ Region.ready md ops listed ∨ listed.getD j false = true) → waits md ops i n j = true → listed.getD i false = true
  | 0, _, _, h => by cases h
  | n + 1, j, hj, h => by
    unfold waits at h
    cases ho : ops[j]? with
    | none => rw [ho] at h; cases h
    | some o =>
      rw [ho] at h
      have hall : ∀ e ∈ o.after, Region.binds md e = true → listed.getD e.on false = true := by
        rcases hj with hj | hj
        · obtain ⟨_, o', ho', hall⟩ := mem_ready.1 hj
          obtain rfl := Option.some.inj (ho.symm.trans ho')
          exact hall
        · exact hc j o ho hj
      have h' : ∃ e ∈ o.after, (Region.binds md e && (e.on == i || waits md ops i n e.on)) = true := by
        first
          | exact List.any_eq_true.1 h
          | exact Array.any_eq_true'.1 h
      obtain ⟨e, he, hx⟩ := h'
      rw [Bool.and_eq_true] at hx
      have h1 := hall e he hx.1
      rcases Bool.or_eq_true _ _ |>.mp hx.2 with h2 | h2
      · rw [← eq_of_beq h2]; exact h1
      · exact waits_spec hc n e.on (.inr h1) h2
theorem closed_set {j : Nat} {listed : Array Bool} (hc : Closed md ops listed) (hj : j ∈ Region.ready md ops listed) : Closed md ops (listed.setIfInBounds j true) := by
  intro k o ho hk e he hb
  by_cases hkj : j = k
  · subst hkj
    obtain ⟨_, o', ho', hall⟩ := mem_ready.1 hj
    obtain rfl := Option.some.inj (ho.symm.trans ho')
    exact getD_set_true (hall e he hb)
  · rw [getD_set_ne false hkj] at hk
    exact getD_set_true (hc k o ho hk e he hb)
theorem wpAnyF_first {i n : Nat} {oi : Oper} {v : Value} (hi : ops[i]? = some oi) (hsel : ∀ (j : Nat) (o : Oper) cs b, ops[j]? = some o → o.op ≠ .select cs b)
    (hQ : ∀ c a w, Q (.panic c) (a.put oi.dst v) w → Q (.panic c) a w) (hwt : waits md ops i n f = true) :
    ∀ (fuel : Nat) (listed : Array Bool) (a : Act) (w : World),
      (∀ j oj, ops[j]? = some oj → j ≠ i → listed.getD j true = false → (∀ e ∈ oj.after, Region.binds md e = true → e.on ≠ i) → oi.apart ops oj = true) →
      Closed md ops listed →
      i ∈ Region.ready md ops listed → YieldsIf P ops S oi v a → S w →
      wpAnyF P md ops Q S f fuel (listed.setIfInBounds i true) (a.put oi.dst v) w → wpAnyF P md ops Q S f (fuel + 1) listed a w := by
  intro fuel
  induction fuel with
  | zero =>
    intro listed a w _ _ hr hy hS H
    refine ⟨fun h => (by rw [h] at hr; cases hr), fun j hj => ?_⟩
    by_cases hji : j = i
    · subst hji; exact hy.wpOp hi hS ⟨fun _ => hS, H⟩
    · have := ready_mono hj hji
      rw [H.1] at this
      cases this
  | succ fuel ih =>
    intro listed a w hfree hcl hr hy hS H
    refine ⟨fun h => (by rw [h] at hr; cases hr), fun j hj => ?_⟩
    by_cases hji : j = i
    · subst hji; exact hy.wpOp hi hS ⟨fun _ => hS, H⟩
    · have hiun : ¬ listed.getD i false = true := by
        intro h1
        have h0 := (mem_ready.1 hr).1
        rcases Nat.lt_or_ge i listed.size with h' | h'
        · simp [h'] at h0 h1; rw [h0] at h1; cases h1
        · simp [Array.getElem?_eq_none h'] at h1
      have hjf : j ≠ f := fun e => hiun (waits_spec hcl n f (.inl (e ▸ hj)) hwt)
      have h1 := H.2 j (ready_mono hj hji)
      obtain ⟨hjun, oj, hoj, hall⟩ := mem_ready.1 hj
      have hnot : ∀ e ∈ oj.after, Region.binds md e = true → e.on ≠ i := fun e he hb heq => by
        have h1 := hall e he hb
        rw [heq] at h1
        exact hiun h1
      have h2 := wpOp_putIf hoj (hfree j oj hoj hji hjun hnot) (fun cs b => hsel i oi cs b hi) (fun cs b => hsel j oj cs b hoj) hQ hy h1
      have hfree' : ∀ k ok, ops[k]? = some ok → k ≠ i → (listed.setIfInBounds j true).getD k true = false →
          (∀ e ∈ ok.after, Region.binds md e = true → e.on ≠ i) → oi.apart ops ok = true := fun k ok hk hki hun hno => by
        refine hfree k ok hk hki ?_ hno
        by_cases hjk : j = k
        · subst hjk; exact hjun
        · rw [getD_set_ne true hjk] at hun; exact hun
      refine wpOp_mono (fun a' w' h3 => ⟨h3.2.1, ih (listed.setIfInBounds j true) a' w' hfree' (closed_set hcl hj) (ready_mono hr (Ne.symm hji)) h3.1 (h3.2.1 hjf) ?_⟩) h2
      rw [Array.setIfInBounds_comm _ _ hji]
      exact h3.2.2
theorem wpAnyF_take {i : Nat} {oi : Oper} {v : Value} {fuel : Nat} {listed : Array Bool} {a : Act} {w : World} (hi : ops[i]? = some oi)
    (hs : Region.noSelect ops = true) (hf : Region.free md ops listed i = true) (hr : (Region.ready md ops listed).contains i = true) (hwt : waits md ops i ops.size f = true) (hcl : closedB md ops listed = true)
    (hQ : ∀ c a w, Q (.panic c) (a.put oi.dst v) w → Q (.panic c) a w) (hy : YieldsIf P ops S oi v a) (hS : S w)
    (h : wpAnyF P md ops Q S f fuel (listed.setIfInBounds i true) (a.put oi.dst v) w) : wpAnyF P md ops Q S f (fuel + 1) listed a w :=
  wpAnyF_first hi (Region.noSelect_spec hs) hQ hwt fuel listed a w (Region.free_spec hi hf) (closed_of hcl) (by simpa using hr) hy hS h
theorem wpAnyF_one {i : Nat} {o : Oper} {fuel : Nat} {listed : Array Bool} {a : Act} {w : World} (hr : Region.ready md ops listed = [i]) (ho : ops[i]? = some o)
    (h : ∀ K' : Act → World → Prop, Shut (∀ a w, S w → wpAnyF P md ops Q S f fuel (listed.setIfInBounds i true) a w → K' a w) → if Region.wanted o (yielded ops a.tmps) = true then Oper.wp P o a w K' Q else K' (a.put o.dst undef) w) :
    wpAnyF P md ops Q S f (fuel + 1) listed a w :=
  ⟨fun h0 => (by rw [hr] at h0; cases h0), fun j hj => by
    rw [hr] at hj
    obtain rfl := List.mem_singleton.1 hj
    exact wpOp_step ho (fun K' hK => h K' (fun a w hS hW => hK a w ⟨fun _ => hS, hW⟩))⟩
theorem wpAnyF_last {o : Oper} {fuel : Nat} {listed : Array Bool} {a : Act} {w : World} (hr : Region.ready md ops listed = [f]) (ho : ops[f]? = some o)
    (h : ∀ K' : Act → World → Prop, Shut (∀ a w, wpAnyF P md ops Q S f fuel (listed.setIfInBounds f true) a w → K' a w) → if Region.wanted o (yielded ops a.tmps) = true then Oper.wp P o a w K' Q else K' (a.put o.dst undef) w) :
    wpAnyF P md ops Q S f (fuel + 1) listed a w :=
  ⟨fun h0 => (by rw [hr] at h0; cases h0), fun j hj => by
    rw [hr] at hj
    obtain rfl := List.mem_singleton.1 hj
    exact wpOp_step ho (fun K' hK => h K' (fun a w hW => hK a w ⟨fun e => absurd rfl e, hW⟩))⟩
theorem wpAnyF_done {listed : Array Bool} {a : Act} {w : World} (hr : Region.ready md ops listed = []) (h : Q .normal a w) :
    ∀ fuel, wpAnyF P md ops Q S f fuel listed a w
  | 0 => ⟨hr, h⟩
  | _ + 1 => ⟨fun _ => h, by rw [hr]; simp⟩
theorem wp_region_last {id : Nat} {a : Act} {w : World} (hm : P.follows .mixedOrders = true)
    (h : wpAnyF P .any ops Q S f ops.size (Array.replicate ops.size false) a { w with drawn := w.drawn + 1 }) : (Code.region id ops true).wp P Q a w :=
  wp_region_any hm (wpAny_of_F _ _ _ _ h)
end
end Go.Proofs.Ytolcndchfnifhac

namespace Go.Proofs.Ytolcndchfnifhac
open Go.RowKit
theorem app_gen {et ct : TypeId} {sz : Nat} (ce : ct ≠ et) {W' V1 w1 w : World} {base PB : Nat} {x y : Value} {so : Option Addr} {scap k m g cap : Nat} {xs ys : List Value}
    (i1 : W'.heap[PB]? = some (.cells #[x, y, .slice so k scap] ct (0, 0))) (i2 : W'.ownsRow base et sz (.slice so k scap) k xs)
    (i5 : Below w.heap.size w W') (hb : w.heap.size ≤ base) (hPB : w.heap.size ≤ PB) (hV1 : Below W'.heap.size W' V1) (hg : V1.grownBy w1 (Value.slice so k scap).ownBlock)
    (ho : w1.ownsRow base et sz (.slice (some ⟨g, 0, none⟩) m cap) m ys) :
    (∀ b, b < W'.heap.size → some b ≠ (Value.slice so k scap).ownBlock → w1.heap[b]? = W'.heap[b]?) ∧ w1.cell? ⟨PB, 2, none⟩ = some (.slice so k scap) ∧ w1.frozen? ⟨PB, 2, none⟩ = false ∧
      (w1.setCell ⟨PB, 2, none⟩ (.slice (some ⟨g, 0, none⟩) m cap)).heap[PB]? = some (.cells #[x, y, .slice (some ⟨g, 0, none⟩) m cap] ct (0, 0)) ∧
      (w1.setCell ⟨PB, 2, none⟩ (.slice (some ⟨g, 0, none⟩) m cap)).ownsRow base et sz (.slice (some ⟨g, 0, none⟩) m cap) m ys ∧ Below w.heap.size w (w1.setCell ⟨PB, 2, none⟩ (.slice (some ⟨g, 0, none⟩) m cap)) ∧
      (∀ b, b < W'.heap.size → some b ≠ (Value.slice so k scap).ownBlock → b ≠ PB → (w1.setCell ⟨PB, 2, none⟩ (.slice (some ⟨g, 0, none⟩) m cap)).heap[b]? = W'.heap[b]?) := by
  have hs := hV1.size
  have keep : ∀ b, b < W'.heap.size → some b ≠ (Value.slice so k scap).ownBlock → w1.heap[b]? = W'.heap[b]? := fun b hb hne => by
    rw [hg.block b (by omega) hne, hV1.block b hb]
  have l1 := (Array.getElem?_eq_some_iff.1 i1).1
  have kP := (keep PB l1 (own_ne i2 i1 ce)).trans i1
  have hc := heap_setCell_same w1 PB 2 _ _ (.slice (some ⟨g, 0, none⟩) m cap) kP
  refine ⟨keep, by rw [Lib.cell_of_heap kP]; rfl, Lib.frozen_of_heap kP 2, by rw [hc]; rfl, ownsRow_setCell_other ho (fun e => own_ne ho kP ce e.symm) _, ?_, fun b hb hne hn => (Below.heap_setCell _ _ _ _ hn).trans (keep b hb hne)⟩
  exact ((i5.trans (hV1.mono i5.size)).grown hg (by have := i5.size; omega) (fun j hj => Nat.le_trans hb (i2.lt j hj).1)).setCell (p := ⟨PB, 2, none⟩) hPB _
end Go.Proofs.Ytolcndchfnifhac

namespace Go.Proofs.Ytolcndchfnifhac
open Go.RowKit
def addP (s : Px) (k : Int) (p : Px) : Px := (s.1 + k * p.1, s.2.1 + k * p.2.1, s.2.2 + k * p.2.2)
def pxUpto (m : Int) (p : Px) : Prop := (0 ≤ p.1 ∧ p.1 ≤ m * 65535) ∧ (0 ≤ p.2.1 ∧ p.2.1 ≤ m * 65535) ∧ (0 ≤ p.2.2 ∧ p.2.2 ≤ m * 65535)
theorem mul_bounds0 {a r A R : Int} (h1 : 0 ≤ a) (h2 : a ≤ A) (h3 : 0 ≤ r) (h4 : r ≤ R) : 0 ≤ a * r ∧ a * r ≤ A * R :=
  ⟨Int.mul_nonneg h1 h3, Int.mul_le_mul h2 h4 h3 (by omega)⟩
set_option maxRecDepth 100000 in
set_option maxHeartbeats 800000 in
theorem weighed_any (s p : Px) (k : Int) (hk0 : 0 ≤ k) (hk : k ≤ 4) (hs : pxUpto 32 s) (hp : pxOk p = true) (w : World) :
    Calls Try.prog 93 #[pixV s, pixV p, .int .i64 k] w fun e w' => e = .returned (pixV (addP s k p)) ∧ Below w.heap.size w w' := by
  obtain ⟨⟨r1, r2⟩, ⟨g1, g2⟩, u1, u2⟩ := (pxOk_iff p).1 hp
  obtain ⟨⟨s1, s2⟩, ⟨s3, s4⟩, s5, s6⟩ := hs
  obtain ⟨r, g, u⟩ := p
  obtain ⟨a, b, c⟩ := s
  simp only at r1 r2 g1 g2 u1 u2 s1 s2 s3 s4 s5 s6
  obtain ⟨m1, m2⟩ := mul_bounds0 hk0 hk r1 r2
  obtain ⟨m3, m4⟩ := mul_bounds0 hk0 hk g1 g2
  obtain ⟨m5, m6⟩ := mul_bounds0 hk0 hk u1 u2
  have HE := hide (show addP (a, b, c) k (r, g, u) = (a + k * r, b + k * g, c + k * u) from rfl)
  rw [HE.out]
  clear HE
  obtain ⟨A, hA⟩ : ∃ A, k * r = A := ⟨_, rfl⟩
  obtain ⟨B, hB⟩ : ∃ B, k * g = B := ⟨_, rfl⟩
  obtain ⟨C, hC⟩ : ∃ C, k * u = C := ⟨_, rfl⟩
  rw [hA] at m1 m2
  rw [hB] at m3 m4
  rw [hC] at m5 m6
  rw [hA, hB, hC]
  go_enter Try.func93, Try.ntmps93
  go_wp2
  exact bodyPost_ret (v := .agg #[.int .i64 (a + A), .int .i64 (b + B), .int .i64 (c + C)]) (by simp [results, Try.results93, go_sem]) rfl ⟨rfl, be3 _ _ _ _⟩
def near (W x : Int) : Int := if x < 0 then 0 else if W ≤ x then W - 1 else x
theorem near_range (W x : Int) (h : 1 ≤ W) : 0 ≤ near W x ∧ near W x < W := by unfold near; split <;> (try split) <;> omega
theorem near_cases (W x : Int) : (x < 0 ∧ near W x = 0) ∨ (0 ≤ x ∧ W ≤ x ∧ near W x = W - 1) ∨ (0 ≤ x ∧ x < W ∧ near W x = x) := by unfold near; split <;> (try split) <;> omega
set_option maxRecDepth 100000 in
set_option maxHeartbeats 1600000 in
theorem nearest_any (W H x y : Int) (hW1 : 1 ≤ W) (hW : W ≤ 64) (hH1 : 1 ≤ H) (hH : H ≤ 64) (hx0 : -1 ≤ x) (hx1 : x ≤ 66) (hy0 : -1 ≤ y) (hy1 : y ≤ 66) (w : World) :
    Calls Try.prog 94 #[.agg #[.int .i64 W, .int .i64 H], .agg #[.int .i64 x, .int .i64 y]] w fun e w' => e = .returned (.agg #[.int .i64 (near W x), .int .i64 (near H y)]) ∧ Below w.heap.size w w' := by
  rcases near_cases W x with ⟨a1, e1⟩ | ⟨a1, a2, e1⟩ | ⟨a1, a2, e1⟩ <;> rcases near_cases H y with ⟨b1, e2⟩ | ⟨b1, b2, e2⟩ | ⟨b1, b2, e2⟩
  all_goals
    have E1 := hide e1
    have E2 := hide e2
    clear e1 e2
    go_enter Try.func94, Try.ntmps94
    go_wp2
    all_goals exact bodyPost_ret (v := .agg #[.int .i64 (near W x), .int .i64 (near H y)]) (by simp [results, Try.results94, go_sem, E1.out, E2.out]) rfl ⟨rfl, be3 _ _ _ _⟩
end Go.Proofs.Ytolcndchfnifhac

namespace Go.Proofs.Ytolcndchfnifhac
open Go.RowKit Go.Shelf
attribute [local go_sem] Oper.semAt_some
def nOf (k : Nat) : Nat := if k < 4 then k else k + 1
def posOf (n : Nat) : Nat := if n ≤ 4 then n else n - 1
theorem posOf_succ (n : Nat) (h : n ≠ 4) : posOf (n + 1) = posOf n + 1 := by unfold posOf; split <;> split <;> omega
theorem nOf_posOf (n : Nat) (h : n ≠ 4) : nOf (posOf n) = n := by unfold nOf posOf; split <;> split <;> omega
theorem posOf_lt (n : Nat) (h : n < 9) : posOf n < 8 := by unfold posOf; split <;> omega
theorem around_in (F : Fence) (n : Nat) (hf : F.fn 75) (hro : F.round = none) (X Y : Int) (w : World) :
    CallsIn F n Try.prog 75 #[.agg #[.int .i64 X, .int .i64 Y]] w fun e w' => e = .returned (.func (.func 77) #[] #[.pointer (some ⟨w.heap.size, 0, none⟩)]) ∧ w' = w.alloc (.cells #[.int .i64 X, .int .i64 Y] 77) := by
  refine callsIn_of_wp Try.func75 rfl hf ?_ hro
  simp only [Try.ntmps75, List.size_toArray, List.length_cons, List.length_nil, Nat.reduceAdd, Nat.reduceSub, Array.replicate_succ, Array.replicate_zero, List.push_toArray, List.append_toArray, List.nil_append, List.cons_append]
  gi_wp2
  go_ret
  exact ⟨rfl, rfl⟩
set_option maxRecDepth 100000 in
set_option maxHeartbeats 1600000 in
theorem around1_in (F : Fence) (n : Nat) (hf : F.fn 77) (hro : F.round = none) (hn : 1 ≤ n) (l Bs X Y : Nat) (hX : X ≤ 64) (hY0 : Y ≤ 64) (J Jx : List (Fin 8) → World → Prop) (hJa : ∀ s W o, J s W → J s (W.alloc o))
    (hY : ∀ pre (x : Fin 8) V, J pre V → pre.length < 8 → YieldAt F (n - 1) Try.prog l #[.agg #[.int .i64 ((X : Int) - 1 + (nOf x.1 % 3 : Nat)), .int .i64 ((Y : Int) - 1 + (nOf x.1 / 3 : Nat))]] V fun e V' =>
      (e = .returned (.bool true) ∧ J (pre ++ [x]) V' ∧ KeepB Bs V V') ∨ (e = .returned (.bool false) ∧ Jx (pre ++ [x]) V'))
    (V : World) (hc0 : V.cell? ⟨Bs, 0, none⟩ = some (.int .i64 X)) (hc1 : V.cell? ⟨Bs, 1, none⟩ = some (.int .i64 Y)) (h0 : J [] V) :
    CallsIn F n Try.prog 77 #[.func (.yield l) #[] #[], .pointer (some ⟨Bs, 0, none⟩)] V fun e V' => (∃ v, e = .returned v) ∧
      ((∃ ys, ys = List.finRange 8 ∧ J ys V') ∨ (∃ pre, pre <+: List.finRange 8 ∧ Jx pre V')) := by
  refine callsIn_of_wp Try.func77 rfl hf ?_ hro
  simp only [Try.ntmps77, List.size_toArray, List.length_cons, List.length_nil, Nat.reduceAdd, Nat.reduceSub, Array.replicate_succ, Array.replicate_zero, List.push_toArray, List.append_toArray, List.nil_append, List.cons_append]
  gi_wp2
  gi_loopw [3] (fun i wr => ∃ (b : Nat) (yb : Int), b ≤ 3 ∧ Hid (yb = (Y : Int) - 1 + (b : Nat)) ∧ i = .int .i64 yb ∧ J (idx 8 (posOf (3 * b))) wr ∧ wr.cell? ⟨Bs, 0, none⟩ = some (.int .i64 X) ∧ wr.cell? ⟨Bs, 1, none⟩ = some (.int .i64 Y)) (fun i _ => ((Y : Int) + 2 - intOf i).toNat)
  case atStart => exact ⟨0, (Y : Int) - 1, by omega, hide (by simp), rfl, h0, hc0, hc1⟩
  case round =>
    obtain ⟨b, yb, hb, HYB, rfl, hJ, c0, c1⟩ := hrel
    clear hc0 hc1 h0
    by_cases hlt : b < 3
    · have hd : decide (yb ≤ (Y : Int) + 1) = true := by have := HYB.out; simp; omega
      have hyb0 : -1 ≤ yb ∧ yb ≤ 66 := by have := HYB.out; omega
      obtain ⟨hyb0, hyb1⟩ := hyb0
      gi_wp2
      gi_loopw [4] (fun i wr => ∃ (a : Nat) (xa : Int), a ≤ 3 ∧ Hid (xa = (X : Int) - 1 + (a : Nat)) ∧ i = .int .i64 xa ∧ J (idx 8 (posOf (3 * b + a))) wr ∧ wr.cell? ⟨Bs, 0, none⟩ = some (.int .i64 X) ∧ wr.cell? ⟨Bs, 1, none⟩ = some (.int .i64 Y)) (fun i _ => ((X : Int) + 2 - intOf i).toNat)
      case atStart => exact ⟨0, (X : Int) - 1, by omega, hide (by simp), rfl, hJ, c0, c1⟩
      case round =>
        clear hJ c0 c1
        obtain ⟨a, xa, ha, HXA, rfl, hJ, c0, c1⟩ := hrel
        have hbs : Bs < wr.heap.size := World.block_lt_of_cell? wr _ c0
        have hxa0 : -1 ≤ xa ∧ xa ≤ 66 := by have := HXA.out; omega
        obtain ⟨hxa0, hxa1⟩ := hxa0
        by_cases hal : a < 3
        · have hd2 : decide (xa ≤ (X : Int) + 1) = true := by have := HXA.out; simp; omega
          have k0 := (World.cell?_of_block (a := ⟨Bs, 0, none⟩) (Below.heap_alloc wr (Obj.cells #[.int .i64 xa, .int .i64 yb] 77) Bs hbs)).trans c0
          have k1 := (World.cell?_of_block (a := ⟨Bs, 1, none⟩) (Below.heap_alloc wr (Obj.cells #[.int .i64 xa, .int .i64 yb] 77) Bs hbs)).trans c1
          have HNX := hide (show xa + 1 = (X : Int) - 1 + ((a + 1 : Nat) : Int) by have := HXA.out; omega)
          have hms : ((X : Int) + 2 - (xa + 1)).toNat < ((X : Int) + 2 - xa).toNat := by have := HXA.out; omega
          by_cases hcen : a = 1 ∧ b = 1
          · obtain rfl : xa = (X : Int) := by have := HXA.out; omega
            obtain rfl : yb = (Y : Int) := by have := HYB.out; omega
            have HP := hide (show posOf (3 * b + (a + 1)) = posOf (3 * b + a) by rw [hcen.1, hcen.2]; rfl)
            clear hcen
            gi_wp2
            refine ⟨fun _ h => (by cases h), ?_⟩
            gi_wp2
            go_roundw
            case rel => exact ⟨a + 1, _, by omega, HNX, rfl, by rw [HP.out]; exact hJa _ _ _ hJ, k0, k1⟩
            case measure => simpa [intOf] using hms
          · have hn4 : 3 * b + a ≠ 4 := by omega
            have hplt := posOf_lt (3 * b + a) (by omega)
            have hYx := hY (idx 8 (posOf (3 * b + a))) ⟨posOf (3 * b + a), hplt⟩ (wr.alloc (Obj.cells #[.int .i64 xa, .int .i64 yb] 77)) (hJa _ _ _ hJ) (by rw [idx_length _ _ (Nat.le_of_lt hplt)]; exact hplt)
            simp only [nOf_posOf (3 * b + a) hn4, show (3 * b + a) % 3 = a by omega, show (3 * b + a) / 3 = b by omega] at hYx
            rw [← HXA.out, ← HYB.out] at hYx
            obtain ⟨fn, tmps, assign, body, hy', hR⟩ := hYx
            have HSP := hide (show idx 8 (posOf (3 * b + (a + 1))) = idx 8 (posOf (3 * b + a)) ++ [⟨posOf (3 * b + a), hplt⟩] by
              rw [← idx_succ 8 _ hplt, ← posOf_succ _ hn4]; rfl)
            have HPR := hide (show idx 8 (posOf (3 * b + a)) ++ [⟨posOf (3 * b + a), hplt⟩] <+: List.finRange 8 by
              rw [← idx_succ 8 _ hplt]; exact idx_prefix 8 _)
            have hor : (¬ xa = (X : Int)) ∨ (xa = (X : Int) ∧ ¬ yb = (Y : Int)) := by have := HXA.out; have := HYB.out; omega
            clear hn4
            rcases hor with hxa | ⟨hxa, hyb⟩
            · gi_wp2
              refine hR.mono ?_
              rintro e V3 (⟨rfl, hJ3, hk3⟩ | ⟨rfl, hJx3⟩)
              · have c3 := (World.cell?_of_block (a := ⟨Bs, 0, none⟩) hk3).trans k0
                have c4 := (World.cell?_of_block (a := ⟨Bs, 1, none⟩) hk3).trans k1
                rw [← HSP.out] at hJ3
                gi_wp2
                go_roundw
                case rel => exact ⟨a + 1, _, by omega, HNX, rfl, hJ3, c3, c4⟩
                case measure => simpa [intOf] using hms
              · gi_wp2
                refine bodyPost_ret (results_none rfl _ _ _) rfl ?_
                exact ⟨⟨_, rfl⟩, .inr ⟨_, HPR.out, hJx3⟩⟩
            · subst hxa
              gi_wp2
              refine hR.mono ?_
              rintro e V3 (⟨rfl, hJ3, hk3⟩ | ⟨rfl, hJx3⟩)
              · have c3 := (World.cell?_of_block (a := ⟨Bs, 0, none⟩) hk3).trans k0
                have c4 := (World.cell?_of_block (a := ⟨Bs, 1, none⟩) hk3).trans k1
                rw [← HSP.out] at hJ3
                gi_wp2
                go_roundw
                case rel => exact ⟨a + 1, _, by omega, HNX, rfl, hJ3, c3, c4⟩
                case measure => simpa [intOf] using hms
              · gi_wp2
                refine bodyPost_ret (results_none rfl _ _ _) rfl ?_
                exact ⟨⟨_, rfl⟩, .inr ⟨_, HPR.out, hJx3⟩⟩
        · have hd2 : decide (xa ≤ (X : Int) + 1) = false := by have := HXA.out; simp; omega
          obtain rfl : a = 3 := by omega
          have HNY := hide (show yb + 1 = (Y : Int) - 1 + ((b + 1 : Nat) : Int) by have := HYB.out; omega)
          have hms : ((Y : Int) + 2 - (yb + 1)).toNat < ((Y : Int) + 2 - yb).toNat := by have := HYB.out; omega
          gi_wp2
          go_roundw
          case rel => exact ⟨b + 1, _, by omega, HNY, rfl, hJ, c0, c1⟩
          case measure => simpa [intOf] using hms
    · obtain rfl : b = 3 := by omega
      have hd : decide (yb ≤ (Y : Int) + 1) = false := by have := HYB.out; simp; omega
      gi_wp2
      go_end0
      exact ⟨⟨_, rfl⟩, .inl ⟨_, by rw [← idx_all]; rfl, hJ⟩⟩
theorem around_stops (F : Fence) (n : Nat) (hf : F.fn 77) (hro : F.round = none) (hn : 1 ≤ n) (Bs X Y : Nat) (hX : X ≤ 64) (hY0 : Y ≤ 64) (w : World) (hBw : Bs < w.heap.size)
    (hc0 : w.cell? ⟨Bs, 0, none⟩ = some (.int .i64 X)) (hc1 : w.cell? ⟨Bs, 1, none⟩ = some (.int .i64 Y)) :
    SeqStopsK F n Try.prog 77 #[.pointer (some ⟨Bs, 0, none⟩)] (fun x : Fin 8 => #[Value.agg #[.int .i64 ((X : Int) - 1 + (nOf x.1 % 3 : Nat)), .int .i64 ((Y : Int) - 1 + (nOf x.1 / 3 : Nat))]]) (KeepB Bs) (fun ys => ys = List.finRange 8) (fun pre => pre <+: List.finRange 8) 8 w := fun l J Jx V hV hJ _ hY h0 =>
  around1_in F n hf hro hn l Bs X Y hX hY0 J Jx (fun s W o h => hJ s W (W.alloc o) none h (World.grownBy_alloc W o none) (fun r e => by cases e)) hY V ((hV.cell (p := ⟨Bs, 0, none⟩) hBw).trans hc0) ((hV.cell (p := ⟨Bs, 1, none⟩) hBw).trans hc1) h0
end Go.Proofs.Ytolcndchfnifhac

namespace Go.Proofs.Ytolcndchfnifhac
open Go.RowKit
def pxAt (ps : List Px) (j : Nat) : Px := ps.getD j (0, 0, 0)
theorem pxAt_get (ps : List Px) (i : Nat) (h : i < ps.length) : ps[i] = pxAt ps i := by simp [pxAt, List.getD_eq_getElem?_getD, List.getElem?_eq_getElem h]
theorem pxAt_ok {ps : List Px} (h : pxsOk ps = true) (j : Nat) : pxOk (pxAt ps j) = true := by
  by_cases hj : j < ps.length
  · rw [← pxAt_get ps j hj]; exact List.all_eq_true.1 h _ (List.getElem_mem hj)
  · rw [pxAt, List.getD_eq_getElem?_getD, List.getElem?_eq_none (by omega)]; rfl
def wIx (W H X Y : Nat) (k : Nat) : Nat := (near H ((Y : Int) - 1 + (nOf k / 3 : Nat))).toNat * W + (near W ((X : Int) - 1 + (nOf k % 3 : Nat))).toNat
def wWt (k : Nat) : Int := if nOf k % 3 = 1 ∨ nOf k / 3 = 1 then 2 else 1
def wF (ps : List Px) (W H X Y : Nat) (pre : List (Fin 8)) : Px := pre.foldl (fun s x => addP s (wWt x.1) (pxAt ps (wIx W H X Y x.1))) (addP (0, 0, 0) 4 (pxAt ps (Y * W + X)))
theorem wF_snoc (ps : List Px) (W H X Y : Nat) (pre : List (Fin 8)) (x : Fin 8) : wF ps W H X Y (pre ++ [x]) = addP (wF ps W H X Y pre) (wWt x.1) (pxAt ps (wIx W H X Y x.1)) := by simp [wF]
theorem wWt_range (k : Nat) : 0 ≤ wWt k ∧ wWt k ≤ 2 := by unfold wWt; split <;> omega
theorem addP_upto {m n : Int} {s p : Px} {k : Int} (hs : pxUpto m s) (hp : pxOk p = true) (h0 : 0 ≤ k) (h1 : k ≤ n) : pxUpto (m + n) (addP s k p) := by
  obtain ⟨⟨r1, r2⟩, ⟨g1, g2⟩, u1, u2⟩ := (pxOk_iff p).1 hp
  obtain ⟨⟨s1, s2⟩, ⟨s3, s4⟩, s5, s6⟩ := hs
  obtain ⟨m1, m2⟩ := mul_bounds0 h0 h1 r1 r2
  obtain ⟨m3, m4⟩ := mul_bounds0 h0 h1 g1 g2
  obtain ⟨m5, m6⟩ := mul_bounds0 h0 h1 u1 u2
  have e : (m + n) * 65535 = m * 65535 + n * 65535 := Int.add_mul _ _ _
  refine ⟨⟨?_, ?_⟩, ⟨?_, ?_⟩, ?_, ?_⟩ <;> (simp only [addP]; omega)
theorem foldl_upto {ps : List Px} (h : pxsOk ps = true) (W H X Y : Nat) (pre : List (Fin 8)) (m : Int) (s : Px) (hs : pxUpto m s) : pxUpto (m + 2 * (pre.length : Int)) (pre.foldl (fun s x => addP s (wWt x.1) (pxAt ps (wIx W H X Y x.1))) s) := by
  induction pre generalizing m s with
  | nil => simpa using hs
  | cons x pre ih =>
    have := ih (m + 2) _ (addP_upto hs (pxAt_ok h (wIx W H X Y x.1)) (wWt_range x.1).1 (wWt_range x.1).2)
    rw [show (m + 2) + 2 * (pre.length : Int) = m + 2 * ((x :: pre).length : Int) by simp; omega] at this
    exact this
theorem wF_upto {ps : List Px} (h : pxsOk ps = true) (W H X Y : Nat) (pre : List (Fin 8)) : pxUpto (4 + 2 * (pre.length : Int)) (wF ps W H X Y pre) :=
  foldl_upto h W H X Y pre 4 _ (addP_upto (m := 0) (n := 4) (s := (0, 0, 0)) (k := 4) ⟨⟨by decide, by decide⟩, ⟨by decide, by decide⟩, by decide, by decide⟩ (pxAt_ok h (Y * W + X)) (by omega) (by omega))
theorem pxUpto_mono {m n : Int} {p : Px} (h : pxUpto m p) (hm : m ≤ n) : pxUpto n p := by
  obtain ⟨⟨s1, s2⟩, ⟨s3, s4⟩, s5, s6⟩ := h
  refine ⟨⟨s1, ?_⟩, ⟨s3, ?_⟩, s5, ?_⟩ <;> omega
theorem wIx_lt {W H : Nat} (hW : 1 ≤ W) (hH : 1 ≤ H) (X Y k : Nat) : wIx W H X Y k < H * W := by
  obtain ⟨a1, a2⟩ := near_range H ((Y : Int) - 1 + (nOf k / 3 : Nat)) (by omega)
  obtain ⟨b1, b2⟩ := near_range W ((X : Int) - 1 + (nOf k % 3 : Nat)) (by omega)
  unfold wIx
  generalize near H ((Y : Int) - 1 + (nOf k / 3 : Nat)) = a at *
  generalize near W ((X : Int) - 1 + (nOf k % 3 : Nat)) = b at *
  obtain ⟨A, rfl⟩ := Int.eq_ofNat_of_zero_le a1
  obtain ⟨B, rfl⟩ := Int.eq_ofNat_of_zero_le b1
  simp only [Int.toNat_natCast]
  have h1 : (A + 1) * W ≤ H * W := Nat.mul_le_mul_right _ (by omega)
  rw [Nat.succ_mul] at h1
  omega
end Go.Proofs.Ytolcndchfnifhac

namespace Go.Proofs.Ytolcndchfnifhac
open Go
section
variable {P : Program} {ops : Array Oper} {Q : Exit → Act → World → Prop} {md : Region.Mode} {S : World → Prop} {f : Nat}
theorem wpAnyF_two {i j : Nat} {oi oj : Oper} {fuel : Nat} {listed : Array Bool} {a : Act} {w : World} (hr : Region.ready md ops listed = [i, j]) (hoi : ops[i]? = some oi) (hoj : ops[j]? = some oj)
    (h1 : ∀ K' : Act → World → Prop, Shut (∀ a w, S w → wpAnyF P md ops Q S f fuel (listed.setIfInBounds i true) a w → K' a w) → if Region.wanted oi (yielded ops a.tmps) = true then Oper.wp P oi a w K' Q else K' (a.put oi.dst undef) w)
    (h2 : ∀ K' : Act → World → Prop, Shut (∀ a w, S w → wpAnyF P md ops Q S f fuel (listed.setIfInBounds j true) a w → K' a w) → if Region.wanted oj (yielded ops a.tmps) = true then Oper.wp P oj a w K' Q else K' (a.put oj.dst undef) w) :
    wpAnyF P md ops Q S f (fuel + 1) listed a w :=
  ⟨fun h0 => (by rw [hr] at h0; cases h0), fun k hk => by
    rw [hr] at hk
    rcases List.mem_cons.1 hk with e | hk
    · subst e
      exact wpOp_step hoi (fun K' hK => h1 K' (fun a w hS hW => hK a w ⟨fun _ => hS, hW⟩))
    · obtain rfl := List.mem_singleton.1 hk
      exact wpOp_step hoj (fun K' hK => h2 K' (fun a w hS hW => hK a w ⟨fun _ => hS, hW⟩))⟩
theorem wpAnyF_takeD {i : Nat} {oi : Oper} {v : Value} {fuel : Nat} {listed : Array Bool} {a : Act} {w : World} (d : Option Nat) (hi : ops[i]? = some oi) (hd : oi.dst = d)
    (hs : Region.noSelect ops = true) (hf : Region.free md ops listed i = true) (hr : (Region.ready md ops listed).contains i = true) (hwt : waits md ops i ops.size f = true) (hcl : closedB md ops listed = true)
    (hQ : ∀ c a w, Q (.panic c) (a.put oi.dst v) w → Q (.panic c) a w) (hy : YieldsIf P ops S oi v a) (hS : S w)
    (h : wpAnyF P md ops Q S f fuel (listed.setIfInBounds i true) (a.put d v) w) : wpAnyF P md ops Q S f (fuel + 1) listed a w := by
  subst hd
  exact wpAnyF_take hi hs hf hr hwt hcl hQ hy hS h
end
end Go.Proofs.Ytolcndchfnifhac
