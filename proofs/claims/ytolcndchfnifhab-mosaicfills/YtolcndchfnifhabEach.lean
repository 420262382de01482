/- tone.each, with whatever a closure makes of a pixel. -/
import Derived.Test.YtolcndchfnifhabPicAll
import Derived.Test.YtolcndchfnifhabSamePics
import Derived.Test.YtolcndchfnifhabLevel
namespace Go.Proofs.Ytolcndchfnifhab
open Go.RowKit

set_option maxRecDepth 100000 in
set_option maxHeartbeats 1600000 in
theorem each1_any (W H j bk off ca : Nat) (ps : List Px) (hj : j < ps.length) (h4096 : ps.length ≤ 4096) (tf : Nat) (caps : Array Value) (q : Px) (Bf Bq Bg : Nat) (V : World) (eg : ∀ args w, (callFunc tf args).run Try.prog w = .ok (.enter tf args) w)
    (hbk : bk < V.heap.size) (hBf : Bf < V.heap.size) (hBq : Bq < V.heap.size) (hBg : Bg < V.heap.size)
    (kf : V.cell? ⟨Bf, 0, none⟩ = some (.func (.func tf) #[] caps)) (kq : V.cell? ⟨Bq, 2, none⟩ = some (.slice (some ⟨bk, off, none⟩) ps.length ca)) (kg0 : V.cell? ⟨Bg, 0, none⟩ = some (.int .i64 W)) (kg1 : V.cell? ⟨Bg, 1, none⟩ = some (.int .i64 H))
    (c0 : V.cell? ⟨bk, off + j * 3, none⟩ = some (.int .i64 ps[j].1)) (c1 : V.cell? ⟨bk, off + j * 3 + 1, none⟩ = some (.int .i64 ps[j].2.1)) (c2 : V.cell? ⟨bk, off + j * 3 + 2, none⟩ = some (.int .i64 ps[j].2.2))
    (hbe : ∀ U, Below V.heap.size V U → Calls Try.prog tf (#[pixV ps[j]] ++ caps) U fun e U' => e = .returned (pixV q) ∧ Below U.heap.size U U') :
    Calls Try.prog 112 #[.agg #[.int .i64 (j % W : Nat), .int .i64 (j / W : Nat)], .pointer (some ⟨Bf, 0, none⟩), .pointer (some ⟨Bq, 0, none⟩), .pointer (some ⟨Bg, 0, none⟩)] V fun e V' => e = .returned (pixV q) ∧ Below V.heap.size V V' := by
  obtain ⟨X, hX⟩ : ∃ X, j % W = X := ⟨_, rfl⟩
  obtain ⟨Y, hY⟩ : ∃ Y, j / W = Y := ⟨_, rfl⟩
  have hk : Y * W + X = j := by rw [← hX, ← hY, Nat.mul_comm]; exact Nat.div_add_mod j W
  rw [hX, hY]
  clear hX hY
  have HK := hide hk
  clear hk
  obtain ⟨⟨r, g, u⟩, hp⟩ : ∃ p, ps[j] = p := ⟨_, rfl⟩
  rw [hp] at c0 c1 c2 hbe
  simp only at c0 c1 c2
  clear hp
  obtain ⟨q0, q1, q2⟩ := q
  have HB1 := bel_trans (bel_alloc V (Obj.cells #[.int .i64 X, .int .i64 Y] 93)) (bel_alloc _ (Obj.cells #[.int .i64 0, .int .i64 0, .int .i64 0] 50))
  have n1 : ((V.alloc (Obj.cells #[.int .i64 X, .int .i64 Y] 93)).alloc (Obj.cells #[.int .i64 0, .int .i64 0, .int .i64 0] 50)).heap[V.heap.size]? = some (.cells #[.int .i64 X, .int .i64 Y] 93 (0, 0)) := by
    rw [Below.heap_alloc _ _ _ (by simp)]; exact heap_alloc_new V _
  have n2 : ((V.alloc (Obj.cells #[.int .i64 X, .int .i64 Y] 93)).alloc (Obj.cells #[.int .i64 0, .int .i64 0, .int .i64 0] 50)).heap[V.heap.size + 1]? = some (.cells #[.int .i64 0, .int .i64 0, .int .i64 0] 50 (0, 0)) := by
    have h := heap_alloc_new (V.alloc (Obj.cells #[.int .i64 X, .int .i64 Y] 93)) (Obj.cells #[.int .i64 0, .int .i64 0, .int .i64 0] 50)
    rw [World.size_alloc] at h; exact h
  have hsU : ((V.alloc (Obj.cells #[.int .i64 X, .int .i64 Y] 93)).alloc (Obj.cells #[.int .i64 0, .int .i64 0, .int .i64 0] 50)).heap.size = V.heap.size + 2 := by simp
  go_enter Try.func112, Try.ntmps112
  go_wp2_with fail
  generalize (V.alloc (Obj.cells #[.int .i64 X, .int .i64 Y] 93)).alloc (Obj.cells #[.int .i64 0, .int .i64 0, .int .i64 0] 50) = U at *
  have HS := hide (show ∀ w', Below U.heap.size U w' → w'.cell? ⟨Bf, 0, none⟩ = some (.func (.func tf) #[] caps) ∧ w'.cell? ⟨Bq, 2, none⟩ = some (.slice (some ⟨bk, off, none⟩) ps.length ca) ∧ w'.cell? ⟨Bg, 0, none⟩ = some (.int .i64 W) ∧ w'.cell? ⟨Bg, 1, none⟩ = some (.int .i64 H) ∧
      w'.cell? ⟨bk, off + j * 3, none⟩ = some (.int .i64 r) ∧ w'.cell? ⟨bk, off + j * 3 + 1, none⟩ = some (.int .i64 g) ∧ w'.cell? ⟨bk, off + j * 3 + 2, none⟩ = some (.int .i64 u) ∧ w'.cell? ⟨V.heap.size, 0, none⟩ = some (.int .i64 X) ∧ w'.cell? ⟨V.heap.size, 1, none⟩ = some (.int .i64 Y) from fun w' h => by
    have hV := HB1.trans (h.mono HB1.size)
    have hn := (h.block V.heap.size (by omega)).trans n1
    exact ⟨(hV.cell (p := ⟨Bf, 0, none⟩) hBf).trans kf, (hV.cell (p := ⟨Bq, 2, none⟩) hBq).trans kq, (hV.cell (p := ⟨Bg, 0, none⟩) hBg).trans kg0, (hV.cell (p := ⟨Bg, 1, none⟩) hBg).trans kg1, (hV.cell (p := ⟨bk, off + j * 3, none⟩) hbk).trans c0, (hV.cell (p := ⟨bk, off + j * 3 + 1, none⟩) hbk).trans c1, (hV.cell (p := ⟨bk, off + j * 3 + 2, none⟩) hbk).trans c2, by rw [Lib.cell_of_heap hn]; rfl, by rw [Lib.cell_of_heap hn]; rfl⟩)
  have HS3 := hide (show ∀ w' x y z, Below U.heap.size U w' → ((((w'.setCell ⟨V.heap.size + 1, 0, none⟩ x).setCell ⟨V.heap.size + 1, 1, none⟩ y).setCell ⟨V.heap.size + 1, 2, none⟩ z).cell? ⟨Bf, 0, none⟩ = some (.func (.func tf) #[] caps) ∧ (((w'.setCell ⟨V.heap.size + 1, 0, none⟩ x).setCell ⟨V.heap.size + 1, 1, none⟩ y).setCell ⟨V.heap.size + 1, 2, none⟩ z).cell? ⟨Bq, 2, none⟩ = some (.slice (some ⟨bk, off, none⟩) ps.length ca) ∧ (((w'.setCell ⟨V.heap.size + 1, 0, none⟩ x).setCell ⟨V.heap.size + 1, 1, none⟩ y).setCell ⟨V.heap.size + 1, 2, none⟩ z).cell? ⟨Bg, 0, none⟩ = some (.int .i64 W) ∧ (((w'.setCell ⟨V.heap.size + 1, 0, none⟩ x).setCell ⟨V.heap.size + 1, 1, none⟩ y).setCell ⟨V.heap.size + 1, 2, none⟩ z).cell? ⟨Bg, 1, none⟩ = some (.int .i64 H) ∧
      (((w'.setCell ⟨V.heap.size + 1, 0, none⟩ x).setCell ⟨V.heap.size + 1, 1, none⟩ y).setCell ⟨V.heap.size + 1, 2, none⟩ z).cell? ⟨bk, off + j * 3, none⟩ = some (.int .i64 r) ∧ (((w'.setCell ⟨V.heap.size + 1, 0, none⟩ x).setCell ⟨V.heap.size + 1, 1, none⟩ y).setCell ⟨V.heap.size + 1, 2, none⟩ z).cell? ⟨bk, off + j * 3 + 1, none⟩ = some (.int .i64 g) ∧ (((w'.setCell ⟨V.heap.size + 1, 0, none⟩ x).setCell ⟨V.heap.size + 1, 1, none⟩ y).setCell ⟨V.heap.size + 1, 2, none⟩ z).cell? ⟨bk, off + j * 3 + 2, none⟩ = some (.int .i64 u) ∧ (((w'.setCell ⟨V.heap.size + 1, 0, none⟩ x).setCell ⟨V.heap.size + 1, 1, none⟩ y).setCell ⟨V.heap.size + 1, 2, none⟩ z).cell? ⟨V.heap.size, 0, none⟩ = some (.int .i64 X) ∧ (((w'.setCell ⟨V.heap.size + 1, 0, none⟩ x).setCell ⟨V.heap.size + 1, 1, none⟩ y).setCell ⟨V.heap.size + 1, 2, none⟩ z).cell? ⟨V.heap.size, 1, none⟩ = some (.int .i64 Y)) from fun w' x y z h => by
    have hh := HS.out w' h
    have e1 : Bf ≠ V.heap.size + 1 := by omega
    have e2 : Bq ≠ V.heap.size + 1 := by omega
    have e3 : Bg ≠ V.heap.size + 1 := by omega
    have e4 : bk ≠ V.heap.size + 1 := by omega
    have e5 : V.heap.size ≠ V.heap.size + 1 := by omega
    rw [set3_cell _ _ _ e1, set3_cell _ _ _ e2, set3_cell _ _ _ e3, set3_cell _ _ _ e3, set3_cell _ _ _ e4, set3_cell _ _ _ e4, set3_cell _ _ _ e4, set3_cell _ _ _ e5, set3_cell _ _ _ e5]
    exact hh)
  have HIX := hide (show ∀ w', Below U.heap.size U w' → Calls Try.prog 58 #[.agg #[.int .i64 W, .int .i64 H], .agg #[.int .i64 X, .int .i64 Y]] w' fun e w'' => e = .returned (.int .i64 j) ∧ Below U.heap.size U w'' from fun w' h =>
    (index_any W H X Y W j rfl HK.out (by omega) w').mono fun e w'' h2 => ⟨h2.1, h.trans (h2.2.mono h.size)⟩)
  have HBE := hide (show ∀ w', Below U.heap.size U w' → Calls Try.prog tf (#[.agg #[.int .i64 r, .int .i64 g, .int .i64 u]] ++ caps) w' fun e w'' => e = .returned (.agg #[.int .i64 q0, .int .i64 q1, .int .i64 q2]) ∧ Below U.heap.size U w'' ∧ (w''.cell? ⟨V.heap.size + 1, 0, none⟩ = some (.int .i64 0) ∧ w''.cell? ⟨V.heap.size + 1, 1, none⟩ = some (.int .i64 0) ∧ w''.cell? ⟨V.heap.size + 1, 2, none⟩ = some (.int .i64 0)) ∧ w''.frozen? ⟨V.heap.size + 1, 0, none⟩ = false ∧ w''.frozen? ⟨V.heap.size + 1, 1, none⟩ = false ∧ w''.frozen? ⟨V.heap.size + 1, 2, none⟩ = false from fun w' h =>
    (hbe w' (HB1.trans (h.mono HB1.size))).mono fun e w'' h2 => by
      have h3 := h.trans (h2.2.mono h.size)
      have hn := (h3.block (V.heap.size + 1) (by omega)).trans n2
      exact ⟨h2.1, h3, cells3 hn, Lib.frozen_of_heap hn 0, Lib.frozen_of_heap hn 1, Lib.frozen_of_heap hn 2⟩)
  have HFIN := hide (show ∀ w' x y z, Below U.heap.size U w' → Below V.heap.size V (((w'.setCell ⟨V.heap.size + 1, 0, none⟩ x).setCell ⟨V.heap.size + 1, 1, none⟩ y).setCell ⟨V.heap.size + 1, 2, none⟩ z) from fun w' x y z h => set3_below (HB1.trans (h.mono HB1.size)) (by omega) x y z)
  have hdrew : Below U.heap.size U U.drew := (Below.refl _ _).drew
  clear hbe n1 n2 kf kq kg0 kg1 c0 c1 c2
  go_region_held3 (fun w' => w'.cell? ⟨Bf, 0, none⟩ = some (.func (.func tf) #[] caps) ∧ w'.cell? ⟨Bq, 2, none⟩ = some (.slice (some ⟨bk, off, none⟩) ps.length ca) ∧ w'.cell? ⟨Bg, 0, none⟩ = some (.int .i64 W) ∧ w'.cell? ⟨Bg, 1, none⟩ = some (.int .i64 H) ∧
      w'.cell? ⟨bk, off + j * 3, none⟩ = some (.int .i64 r) ∧ w'.cell? ⟨bk, off + j * 3 + 1, none⟩ = some (.int .i64 g) ∧ w'.cell? ⟨bk, off + j * 3 + 2, none⟩ = some (.int .i64 u) ∧ w'.cell? ⟨V.heap.size, 0, none⟩ = some (.int .i64 X) ∧ w'.cell? ⟨V.heap.size, 1, none⟩ = some (.int .i64 Y))
    (first | (refine HS.out _ ?_; assumption) | (refine HS3.out _ _ _ _ ?_; assumption))
    (first
      | (go_at_call 58; refine (HIX.out _ ?_).mono ?_; assumption; rintro e wx ⟨rfl, hN⟩)
      | (refine (HBE.out _ ?_).mono ?_; assumption; rintro e wy ⟨rfl, hN2, ⟨z0, z1, z2⟩, f0, f1, f2⟩))
  have q0' := z0
  go_wp2
  exact bodyPost_ret (v := .agg #[.int .i64 q0, .int .i64 q1, .int .i64 q2]) (by simp [results, Try.results112, go_sem, z0, z1, z2]) rfl ⟨rfl, HFIN.out _ _ _ _ hN2⟩

theorem range_map {α : Type} [Inhabited α] {β : Type} (ps : List α) (f : α → β) (N : Nat) (h : ps.length = N) : (List.range N).map (fun j => f (ps.getD j default)) = ps.map f := by
  apply List.ext_getElem
  · simp [h]
  · intro i h1 h2
    simp at h1
    simp [List.getD_eq_getElem?_getD, List.getElem?_eq_getElem (show i < ps.length by omega)]

set_option maxRecDepth 100000 in
set_option maxHeartbeats 1600000 in
theorem each_any (W H : Nat) (hW : W ≤ 64) (hH : H ≤ 64) (v : Value) (ps : List Px) (hlen : ps.length = H * W) (tf : Nat) (caps : Array Value) (f : Px → Px) (w : World) (hv : IsPix w v ps) (eg : ∀ args w, (callFunc tf args).run Try.prog w = .ok (.enter tf args) w)
    (hbe : ∀ (j : Nat) (h : j < ps.length) (U : World), Below w.heap.size w U → Calls Try.prog tf (#[pixV ps[j]] ++ caps) U fun e U' => e = .returned (pixV (f ps[j])) ∧ Below U.heap.size U U') :
    Calls Try.prog 75 #[.agg #[.int .i64 W, .int .i64 H, v], .func (.func tf) #[] caps] w fun e w' => ∃ r, e = .returned (.agg #[.int .i64 W, .int .i64 H, r]) ∧ IsPix w' r (ps.map f) ∧ Below w.heap.size w w' ∧ Fresh w.heap.size r := by
  have HV := hide hv
  obtain ⟨ao, ca, rfl, hla, hc⟩ := hv
  have hl4 : ps.length ≤ 4096 := by rw [hlen]; exact Nat.le_trans (Nat.mul_le_mul hH hW) (by decide)
  have HLEN := hide hlen
  clear hlen
  go_enter Try.func75, Try.ntmps75
  go_wp2_with fail
  obtain ⟨a1, a2, a3, a4⟩ := al4 w (Obj.cells #[.int .i64 W, .int .i64 H, .slice ao ps.length ca] 39) (Obj.cells #[.func (.func tf) #[] caps] 110) (Obj.cells #[.int .i64 0, .int .i64 0, .slice none 0 0] 39) (Obj.cells #[.int .i64 W, .int .i64 H] 91)
  have hB4 := be4 w (Obj.cells #[.int .i64 W, .int .i64 H, .slice ao ps.length ca] 39) (Obj.cells #[.func (.func tf) #[] caps] 110) (Obj.cells #[.int .i64 0, .int .i64 0, .slice none 0 0] 39) (Obj.cells #[.int .i64 W, .int .i64 H] 91)
  have hs4 : ((((w.alloc (Obj.cells #[.int .i64 W, .int .i64 H, .slice ao ps.length ca] 39)).alloc (Obj.cells #[.func (.func tf) #[] caps] 110)).alloc (Obj.cells #[.int .i64 0, .int .i64 0, .slice none 0 0] 39)).alloc (Obj.cells #[.int .i64 W, .int .i64 H] 91)).heap.size = w.heap.size + 4 := by simp
  generalize (((w.alloc (Obj.cells #[.int .i64 W, .int .i64 H, .slice ao ps.length ca] 39)).alloc (Obj.cells #[.func (.func tf) #[] caps] 110)).alloc (Obj.cells #[.int .i64 0, .int .i64 0, .slice none 0 0] 39)).alloc (Obj.cells #[.int .i64 W, .int .i64 H] 91) = U at *
  refine (gridPicture_any W H (H * W) hW hH rfl 112 _ (fun j => f (ps.getD j default)) U (enters_of Try.func112 (by kernel_rfl) rfl) ?_).mono ?_
  · intro j V hj hV
    have hj' : j < ps.length := by rw [HLEN.out]; exact hj
    have hVw := hB4.trans (hV.mono hB4.size)
    obtain ⟨bk, off, hao, hbl, hcell⟩ : ∃ b off, ao = some ⟨b, off, none⟩ ∧ b < w.heap.size ∧ ∀ j (h : j < ps.length),
        w.cell? ⟨b, off + j * 3, none⟩ = some (.int .i64 ps[j].1) ∧ w.cell? ⟨b, off + j * 3 + 1, none⟩ = some (.int .i64 ps[j].2.1) ∧ w.cell? ⟨b, off + j * 3 + 2, none⟩ = some (.int .i64 ps[j].2.2) := by
      rcases hc with h | h
      · subst h; simp at hj'
      · exact h
    subst hao
    have g1 := (hV.block (w.heap.size) (by omega)).trans a1
    have g2 := (hV.block (w.heap.size + 1) (by omega)).trans a2
    have g4 := (hV.block (w.heap.size + 3) (by omega)).trans a4
    have hsV := hV.size
    obtain ⟨c0, c1, c2⟩ := hcell j hj'
    have hD : ps.getD j default = ps[j] := by simp [List.getD_eq_getElem?_getD, List.getElem?_eq_getElem hj']
    rw [hD]
    exact each1_any W H j bk off ca ps hj' hl4 tf caps (f ps[j]) (w.heap.size + 1) w.heap.size (w.heap.size + 3) V eg (by omega) (by omega) (by omega) (by omega)
      (by rw [Lib.cell_of_heap g2]; rfl) (by rw [Lib.cell_of_heap g1]; rfl) (by rw [Lib.cell_of_heap g4]; rfl) (by rw [Lib.cell_of_heap g4]; rfl)
      ((hVw.cell (p := ⟨bk, off + j * 3, none⟩) hbl).trans c0) ((hVw.cell (p := ⟨bk, off + j * 3 + 1, none⟩) hbl).trans c1) ((hVw.cell (p := ⟨bk, off + j * 3 + 2, none⟩) hbl).trans c2)
      (fun U' hU' => hbe j hj' U' (hVw.trans (hU'.mono hVw.size)))
  · rintro e w1 ⟨r, rfl, hr, hb, hfr⟩
    rw [range_map ps f (H * W) HLEN.out] at hr
    have g3 := (hb.block (w.heap.size + 1 + 1) (by omega)).trans a3
    obtain ⟨z0, z1, z2⟩ := cells3 g3
    have f0 := Lib.frozen_of_heap g3 0
    have f1 := Lib.frozen_of_heap g3 1
    have f2 := Lib.frozen_of_heap g3 2
    have HR := hide hr
    obtain ⟨ro, rc, rfl, _, _⟩ := hr
    have HFIN := hide (set3_below (hB4.trans (hb.mono hB4.size)) (show w.heap.size ≤ w.heap.size + 1 + 1 by omega) (.int .i64 W) (.int .i64 H) (.slice ro (ps.map f).length rc))
    have HPX := hide (HR.out.set3 hfr (show w.heap.size + 1 + 1 < U.heap.size by omega) (.int .i64 W) (.int .i64 H) (.slice ro (ps.map f).length rc))
    rw [List.length_map] at HPX HFIN hfr
    go_wp2
    exact bodyPost_ret (v := .agg #[.int .i64 W, .int .i64 H, .slice ro ps.length rc]) (by simp [results, Try.results75, go_sem, z0, z1, z2]) rfl ⟨_, rfl, HPX.out, HFIN.out, hfr.mono (by omega)⟩

end Go.Proofs.Ytolcndchfnifhab
