/- sensorgains: part 8 of what its proof needs. -/
import Derived.Test.YtolcndchfnifhabM3Sensorgains
import Derived.Test.YtolcndchfnifhabM6Sensorgains
import Derived.Test.YtolcndchfnifhabM7Sensorgains
/- tone.each, with whatever a closure makes of a pixel. -/
namespace Go.Proofs.Ytolcndchfnifhab
open Go.RowKit

set_option maxRecDepth 100000 in
set_option maxHeartbeats 1600000 in
theorem each1_any (W H j bk off ca : Nat) (ps : List Px) (hj : j < ps.length) (h4096 : ps.length ≤ 4096) (tf : Nat) (caps : Array Value) (q : Px) (Bf Bq Bg : Nat) (V : World) (eg : ∀ args w, (callFunc tf args).run Try.prog w = .ok (.enter tf args) w)
    (hbk : bk < V.heap.size) (hBf : Bf < V.heap.size) (hBq : Bq < V.heap.size) (hBg : Bg < V.heap.size)
    (kf : V.cell? ⟨Bf, 0, none⟩ = some (.func (.func tf) #[] caps)) (kq : V.cell? ⟨Bq, 2, none⟩ = some (.slice (some ⟨bk, off, none⟩) ps.length ca)) (kg0 : V.cell? ⟨Bg, 0, none⟩ = some (.int .i64 W)) (kg1 : V.cell? ⟨Bg, 1, none⟩ = some (.int .i64 H))
    (c0 : V.cell? ⟨bk, off + j * 3, none⟩ = some (.int .i64 ps[j].1)) (c1 : V.cell? ⟨bk, off + j * 3 + 1, none⟩ = some (.int .i64 ps[j].2.1)) (c2 : V.cell? ⟨bk, off + j * 3 + 2, none⟩ = some (.int .i64 ps[j].2.2))
    (hbe : ∀ U, Below V.heap.size V U → Calls Try.prog tf (#[pixV ps[j]] ++ caps) U fun e U' => e = .returned (pixV q) ∧ Below U.heap.size U U') :
    Calls Try.prog 112 #[.agg #[.int .i64 (j % W : Nat), .int .i64 (j / W : Nat)], .pointer (some ⟨Bf, 0, none⟩), .pointer (some ⟨Bq, 0, none⟩), .pointer (some ⟨Bg, 0, none⟩)] V fun e V' => e = .returned (pixV q) ∧ Below V.heap.size V V' := by
  obtain ⟨X, hX⟩ : ∃ X, j % W = X := ⟨_, rfl⟩
  obtain ⟨Y, hY⟩ : ∃ Y, j / W = Y := ⟨_, rfl⟩
  have hk : Y * W + X = j := by rw [← hX, ← hY, Nat.mul_comm]; exact Nat.div_add_mod j W
  rw [hX, hY]
  clear hX hY
  have HK := hide hk
  clear hk
  obtain ⟨⟨r, g, u⟩, hp⟩ : ∃ p, ps[j] = p := ⟨_, rfl⟩
  rw [hp] at c0 c1 c2 hbe
  simp only at c0 c1 c2
  clear hp
  obtain ⟨q0, q1, q2⟩ := q
  have HB1 := bel_trans (bel_alloc V (Obj.cells #[.int .i64 X, .int .i64 Y] 93)) (bel_alloc _ (Obj.cells #[.int .i64 0, .int .i64 0, .int .i64 0] 50))
  have n1 : ((V.alloc (Obj.cells #[.int .i64 X, .int .i64 Y] 93)).alloc (Obj.cells #[.int .i64 0, .int .i64 0, .int .i64 0] 50)).heap[V.heap.size]? = some (.cells #[.int .i64 X, .int .i64 Y] 93 (0, 0)) := by
    rw [Below.heap_alloc _ _ _ (by simp)]; exact heap_alloc_new V _
  have n2 : ((V.alloc (Obj.cells #[.int .i64 X, .int .i64 Y] 93)).alloc (Obj.cells #[.int .i64 0, .int .i64 0, .int .i64 0] 50)).heap[V.heap.size + 1]? = some (.cells #[.int .i64 0, .int .i64 0, .int .i64 0] 50 (0, 0)) := by
    have h := heap_alloc_new (V.alloc (Obj.cells #[.int .i64 X, .int .i64 Y] 93)) (Obj.cells #[.int .i64 0, .int .i64 0, .int .i64 0] 50)
    rw [World.size_alloc] at h; exact h
  have hsU : ((V.alloc (Obj.cells #[.int .i64 X, .int .i64 Y] 93)).alloc (Obj.cells #[.int .i64 0, .int .i64 0, .int .i64 0] 50)).heap.size = V.heap.size + 2 := by simp
  go_enter Try.func112, Try.ntmps112
  go_wp2_with fail
  generalize (V.alloc (Obj.cells #[.int .i64 X, .int .i64 Y] 93)).alloc (Obj.cells #[.int .i64 0, .int .i64 0, .int .i64 0] 50) = U at *
  have HS := hide (show ∀ w', Below U.heap.size U w' → w'.cell? ⟨Bf, 0, none⟩ = some (.func (.func tf) #[] caps) ∧ w'.cell? ⟨Bq, 2, none⟩ = some (.slice (some ⟨bk, off, none⟩) ps.length ca) ∧ w'.cell? ⟨Bg, 0, none⟩ = some (.int .i64 W) ∧ w'.cell? ⟨Bg, 1, none⟩ = some (.int .i64 H) ∧
      w'.cell? ⟨bk, off + j * 3, none⟩ = some (.int .i64 r) ∧ w'.cell? ⟨bk, off + j * 3 + 1, none⟩ = some (.int .i64 g) ∧ w'.cell? ⟨bk, off + j * 3 + 2, none⟩ = some (.int .i64 u) ∧ w'.cell? ⟨V.heap.size, 0, none⟩ = some (.int .i64 X) ∧ w'.cell? ⟨V.heap.size, 1, none⟩ = some (.int .i64 Y) from fun w' h => by
    have hV := HB1.trans (h.mono HB1.size)
    have hn := (h.block V.heap.size (by omega)).trans n1
    exact ⟨(hV.cell (p := ⟨Bf, 0, none⟩) hBf).trans kf, (hV.cell (p := ⟨Bq, 2, none⟩) hBq).trans kq, (hV.cell (p := ⟨Bg, 0, none⟩) hBg).trans kg0, (hV.cell (p := ⟨Bg, 1, none⟩) hBg).trans kg1, (hV.cell (p := ⟨bk, off + j * 3, none⟩) hbk).trans c0, (hV.cell (p := ⟨bk, off + j * 3 + 1, none⟩) hbk).trans c1, (hV.cell (p := ⟨bk, off + j * 3 + 2, none⟩) hbk).trans c2, by rw [Lib.cell_of_heap hn]; rfl, by rw [Lib.cell_of_heap hn]; rfl⟩)
  have HS3 := hide (show ∀ w' x y z, Below U.heap.size U w' → ((((w'.setCell ⟨V.heap.size + 1, 0, none⟩ x).setCell ⟨V.heap.size + 1, 1, none⟩ y).setCell ⟨V.heap.size + 1, 2, none⟩ z).cell? ⟨Bf, 0, none⟩ = some (.func (.func tf) #[] caps) ∧ (((w'.setCell ⟨V.heap.size + 1, 0, none⟩ x).setCell ⟨V.heap.size + 1, 1, none⟩ y).setCell ⟨V.heap.size + 1, 2, none⟩ z).cell? ⟨Bq, 2, none⟩ = some (.slice (some ⟨bk, off, none⟩) ps.length ca) ∧ (((w'.setCell ⟨V.heap.size + 1, 0, none⟩ x).setCell ⟨V.heap.size + 1, 1, none⟩ y).setCell ⟨V.heap.size + 1, 2, none⟩ z).cell? ⟨Bg, 0, none⟩ = some (.int .i64 W) ∧ (((w'.setCell ⟨V.heap.size + 1, 0, none⟩ x).setCell ⟨V.heap.size + 1, 1, none⟩ y).setCell ⟨V.heap.size + 1, 2, none⟩ z).cell? ⟨Bg, 1, none⟩ = some (.int .i64 H) ∧
      (((w'.setCell ⟨V.heap.size + 1, 0, none⟩ x).setCell ⟨V.heap.size + 1, 1, none⟩ y).setCell ⟨V.heap.size + 1, 2, none⟩ z).cell? ⟨bk, off + j * 3, none⟩ = some (.int .i64 r) ∧ (((w'.setCell ⟨V.heap.size + 1, 0, none⟩ x).setCell ⟨V.heap.size + 1, 1, none⟩ y).setCell ⟨V.heap.size + 1, 2, none⟩ z).cell? ⟨bk, off + j * 3 + 1, none⟩ = some (.int .i64 g) ∧ (((w'.setCell ⟨V.heap.size + 1, 0, none⟩ x).setCell ⟨V.heap.size + 1, 1, none⟩ y).setCell ⟨V.heap.size + 1, 2, none⟩ z).cell? ⟨bk, off + j * 3 + 2, none⟩ = some (.int .i64 u) ∧ (((w'.setCell ⟨V.heap.size + 1, 0, none⟩ x).setCell ⟨V.heap.size + 1, 1, none⟩ y).setCell ⟨V.heap.size + 1, 2, none⟩ z).cell? ⟨V.heap.size, 0, none⟩ = some (.int .i64 X) ∧ (((w'.setCell ⟨V.heap.size + 1, 0, none⟩ x).setCell ⟨V.heap.size + 1, 1, none⟩ y).setCell ⟨V.heap.size + 1, 2, none⟩ z).cell? ⟨V.heap.size, 1, none⟩ = some (.int .i64 Y)) from fun w' x y z h => by
    have hh := HS.out w' h
    have e1 : Bf ≠ V.heap.size + 1 := by omega
    have e2 : Bq ≠ V.heap.size + 1 := by omega
    have e3 : Bg ≠ V.heap.size + 1 := by omega
    have e4 : bk ≠ V.heap.size + 1 := by omega
    have e5 : V.heap.size ≠ V.heap.size + 1 := by omega
    rw [set3_cell _ _ _ e1, set3_cell _ _ _ e2, set3_cell _ _ _ e3, set3_cell _ _ _ e3, set3_cell _ _ _ e4, set3_cell _ _ _ e4, set3_cell _ _ _ e4, set3_cell _ _ _ e5, set3_cell _ _ _ e5]
    exact hh)
  have HIX := hide (show ∀ w', Below U.heap.size U w' → Calls Try.prog 58 #[.agg #[.int .i64 W, .int .i64 H], .agg #[.int .i64 X, .int .i64 Y]] w' fun e w'' => e = .returned (.int .i64 j) ∧ Below U.heap.size U w'' from fun w' h =>
    (index_any W H X Y W j rfl HK.out (by omega) w').mono fun e w'' h2 => ⟨h2.1, h.trans (h2.2.mono h.size)⟩)
  have HBE := hide (show ∀ w', Below U.heap.size U w' → Calls Try.prog tf (#[.agg #[.int .i64 r, .int .i64 g, .int .i64 u]] ++ caps) w' fun e w'' => e = .returned (.agg #[.int .i64 q0, .int .i64 q1, .int .i64 q2]) ∧ Below U.heap.size U w'' ∧ (w''.cell? ⟨V.heap.size + 1, 0, none⟩ = some (.int .i64 0) ∧ w''.cell? ⟨V.heap.size + 1, 1, none⟩ = some (.int .i64 0) ∧ w''.cell? ⟨V.heap.size + 1, 2, none⟩ = some (.int .i64 0)) ∧ w''.frozen? ⟨V.heap.size + 1, 0, none⟩ = false ∧ w''.frozen? ⟨V.heap.size + 1, 1, none⟩ = false ∧ w''.frozen? ⟨V.heap.size + 1, 2, none⟩ = false from fun w' h =>
    (hbe w' (HB1.trans (h.mono HB1.size))).mono fun e w'' h2 => by
      have h3 := h.trans (h2.2.mono h.size)
      have hn := (h3.block (V.heap.size + 1) (by omega)).trans n2
      exact ⟨h2.1, h3, cells3 hn, Lib.frozen_of_heap hn 0, Lib.frozen_of_heap hn 1, Lib.frozen_of_heap hn 2⟩)
  have HFIN := hide (show ∀ w' x y z, Below U.heap.size U w' → Below V.heap.size V (((w'.setCell ⟨V.heap.size + 1, 0, none⟩ x).setCell ⟨V.heap.size + 1, 1, none⟩ y).setCell ⟨V.heap.size + 1, 2, none⟩ z) from fun w' x y z h => set3_below (HB1.trans (h.mono HB1.size)) (by omega) x y z)
  have hdrew : Below U.heap.size U U.drew := (Below.refl _ _).drew
  clear hbe n1 n2 kf kq kg0 kg1 c0 c1 c2
  go_region_held3 (fun w' => w'.cell? ⟨Bf, 0, none⟩ = some (.func (.func tf) #[] caps) ∧ w'.cell? ⟨Bq, 2, none⟩ = some (.slice (some ⟨bk, off, none⟩) ps.length ca) ∧ w'.cell? ⟨Bg, 0, none⟩ = some (.int .i64 W) ∧ w'.cell? ⟨Bg, 1, none⟩ = some (.int .i64 H) ∧
      w'.cell? ⟨bk, off + j * 3, none⟩ = some (.int .i64 r) ∧ w'.cell? ⟨bk, off + j * 3 + 1, none⟩ = some (.int .i64 g) ∧ w'.cell? ⟨bk, off + j * 3 + 2, none⟩ = some (.int .i64 u) ∧ w'.cell? ⟨V.heap.size, 0, none⟩ = some (.int .i64 X) ∧ w'.cell? ⟨V.heap.size, 1, none⟩ = some (.int .i64 Y))
    (first | (refine HS.out _ ?_; assumption) | (refine HS3.out _ _ _ _ ?_; assumption))
    (first
      | (go_at_call 58; refine (HIX.out _ ?_).mono ?_; assumption; rintro e wx ⟨rfl, hN⟩)
      | (refine (HBE.out _ ?_).mono ?_; assumption; rintro e wy ⟨rfl, hN2, ⟨z0, z1, z2⟩, f0, f1, f2⟩))
  have q0' := z0
  go_wp2
  exact bodyPost_ret (v := .agg #[.int .i64 q0, .int .i64 q1, .int .i64 q2]) (by simp [results, Try.results112, go_sem, z0, z1, z2]) rfl ⟨rfl, HFIN.out _ _ _ _ hN2⟩

theorem range_map {α : Type} [Inhabited α] {β : Type} (ps : List α) (f : α → β) (N : Nat) (h : ps.length = N) : (List.range N).map (fun j => f (ps.getD j default)) = ps.map f := by
  apply List.ext_getElem
  · simp [h]
  · intro i h1 h2
    simp at h1
    simp [List.getD_eq_getElem?_getD, List.getElem?_eq_getElem (show i < ps.length by omega)]

set_option maxRecDepth 100000 in
set_option maxHeartbeats 1600000 in
theorem each_any (W H : Nat) (hW : W ≤ 64) (hH : H ≤ 64) (v : Value) (ps : List Px) (hlen : ps.length = H * W) (tf : Nat) (caps : Array Value) (f : Px → Px) (w : World) (hv : IsPix w v ps) (eg : ∀ args w, (callFunc tf args).run Try.prog w = .ok (.enter tf args) w)
    (hbe : ∀ (j : Nat) (h : j < ps.length) (U : World), Below w.heap.size w U → Calls Try.prog tf (#[pixV ps[j]] ++ caps) U fun e U' => e = .returned (pixV (f ps[j])) ∧ Below U.heap.size U U') :
    Calls Try.prog 75 #[.agg #[.int .i64 W, .int .i64 H, v], .func (.func tf) #[] caps] w fun e w' => ∃ r, e = .returned (.agg #[.int .i64 W, .int .i64 H, r]) ∧ IsPix w' r (ps.map f) ∧ Below w.heap.size w w' ∧ Fresh w.heap.size r := by
  have HV := hide hv
  obtain ⟨ao, ca, rfl, hla, hc⟩ := hv
  have hl4 : ps.length ≤ 4096 := by rw [hlen]; exact Nat.le_trans (Nat.mul_le_mul hH hW) (by decide)
  have HLEN := hide hlen
  clear hlen
  go_enter Try.func75, Try.ntmps75
  go_wp2_with fail
  obtain ⟨a1, a2, a3, a4⟩ := al4 w (Obj.cells #[.int .i64 W, .int .i64 H, .slice ao ps.length ca] 39) (Obj.cells #[.func (.func tf) #[] caps] 110) (Obj.cells #[.int .i64 0, .int .i64 0, .slice none 0 0] 39) (Obj.cells #[.int .i64 W, .int .i64 H] 91)
  have hB4 := be4 w (Obj.cells #[.int .i64 W, .int .i64 H, .slice ao ps.length ca] 39) (Obj.cells #[.func (.func tf) #[] caps] 110) (Obj.cells #[.int .i64 0, .int .i64 0, .slice none 0 0] 39) (Obj.cells #[.int .i64 W, .int .i64 H] 91)
  have hs4 : ((((w.alloc (Obj.cells #[.int .i64 W, .int .i64 H, .slice ao ps.length ca] 39)).alloc (Obj.cells #[.func (.func tf) #[] caps] 110)).alloc (Obj.cells #[.int .i64 0, .int .i64 0, .slice none 0 0] 39)).alloc (Obj.cells #[.int .i64 W, .int .i64 H] 91)).heap.size = w.heap.size + 4 := by simp
  generalize (((w.alloc (Obj.cells #[.int .i64 W, .int .i64 H, .slice ao ps.length ca] 39)).alloc (Obj.cells #[.func (.func tf) #[] caps] 110)).alloc (Obj.cells #[.int .i64 0, .int .i64 0, .slice none 0 0] 39)).alloc (Obj.cells #[.int .i64 W, .int .i64 H] 91) = U at *
  refine (gridPicture_any W H (H * W) hW hH rfl 112 _ (fun j => f (ps.getD j default)) U (enters_of Try.func112 (by kernel_rfl) rfl) ?_).mono ?_
  · intro j V hj hV
    have hj' : j < ps.length := by rw [HLEN.out]; exact hj
    have hVw := hB4.trans (hV.mono hB4.size)
    obtain ⟨bk, off, hao, hbl, hcell⟩ : ∃ b off, ao = some ⟨b, off, none⟩ ∧ b < w.heap.size ∧ ∀ j (h : j < ps.length),
        w.cell? ⟨b, off + j * 3, none⟩ = some (.int .i64 ps[j].1) ∧ w.cell? ⟨b, off + j * 3 + 1, none⟩ = some (.int .i64 ps[j].2.1) ∧ w.cell? ⟨b, off + j * 3 + 2, none⟩ = some (.int .i64 ps[j].2.2) := by
      rcases hc with h | h
      · subst h; simp at hj'
      · exact h
    subst hao
    have g1 := (hV.block (w.heap.size) (by omega)).trans a1
    have g2 := (hV.block (w.heap.size + 1) (by omega)).trans a2
    have g4 := (hV.block (w.heap.size + 3) (by omega)).trans a4
    have hsV := hV.size
    obtain ⟨c0, c1, c2⟩ := hcell j hj'
    have hD : ps.getD j default = ps[j] := by simp [List.getD_eq_getElem?_getD, List.getElem?_eq_getElem hj']
    rw [hD]
    exact each1_any W H j bk off ca ps hj' hl4 tf caps (f ps[j]) (w.heap.size + 1) w.heap.size (w.heap.size + 3) V eg (by omega) (by omega) (by omega) (by omega)
      (by rw [Lib.cell_of_heap g2]; rfl) (by rw [Lib.cell_of_heap g1]; rfl) (by rw [Lib.cell_of_heap g4]; rfl) (by rw [Lib.cell_of_heap g4]; rfl)
      ((hVw.cell (p := ⟨bk, off + j * 3, none⟩) hbl).trans c0) ((hVw.cell (p := ⟨bk, off + j * 3 + 1, none⟩) hbl).trans c1) ((hVw.cell (p := ⟨bk, off + j * 3 + 2, none⟩) hbl).trans c2)
      (fun U' hU' => hbe j hj' U' (hVw.trans (hU'.mono hVw.size)))
  · rintro e w1 ⟨r, rfl, hr, hb, hfr⟩
    rw [range_map ps f (H * W) HLEN.out] at hr
    have g3 := (hb.block (w.heap.size + 1 + 1) (by omega)).trans a3
    obtain ⟨z0, z1, z2⟩ := cells3 g3
    have f0 := Lib.frozen_of_heap g3 0
    have f1 := Lib.frozen_of_heap g3 1
    have f2 := Lib.frozen_of_heap g3 2
    have HR := hide hr
    obtain ⟨ro, rc, rfl, _, _⟩ := hr
    have HFIN := hide (set3_below (hB4.trans (hb.mono hB4.size)) (show w.heap.size ≤ w.heap.size + 1 + 1 by omega) (.int .i64 W) (.int .i64 H) (.slice ro (ps.map f).length rc))
    have HPX := hide (HR.out.set3 hfr (show w.heap.size + 1 + 1 < U.heap.size by omega) (.int .i64 W) (.int .i64 H) (.slice ro (ps.map f).length rc))
    rw [List.length_map] at HPX HFIN hfr
    go_wp2
    exact bodyPost_ret (v := .agg #[.int .i64 W, .int .i64 H, .slice ro ps.length rc]) (by simp [results, Try.results75, go_sem, z0, z1, z2]) rfl ⟨_, rfl, HPX.out, HFIN.out, hfr.mono (by omega)⟩

end Go.Proofs.Ytolcndchfnifhab

/- tone.Mix: its row. -/
namespace Go.Proofs.Ytolcndchfnifhab
open Go.RowKit

theorem heldQ (n : Int) (w : World) : Calls Try.prog 57 #[.int .i64 n] w fun e w' => e = .returned (.int .i64 (clampV n)) ∧ w' = w :=
  (held_any n w).mono fun _ _ h => ⟨h.1, h.2.symm⟩

theorem mul_bounds {a r A R : Int} (h1 : -A ≤ a) (h2 : a ≤ A) (h3 : 0 ≤ r) (h4 : r ≤ R) (hA : 0 ≤ A) : -(A * R) ≤ a * r ∧ a * r ≤ A * R := by
  have q1 := Int.mul_le_mul_of_nonneg_right h2 h3
  have q2 := Int.mul_le_mul_of_nonneg_right h1 h3
  have q3 := Int.mul_le_mul_of_nonneg_left h4 hA
  rw [Int.neg_mul] at q2
  omega

/-- what Mix's row is. -/
def mixV (a b c r g u : Int) : Int := clampV ((a * r + b * g + c * u) / 4096)

set_option maxRecDepth 100000 in
set_option maxHeartbeats 800000 in
theorem mixRow_any (i : Nat) (hi : i ≤ 6) (Bm Bv : Nat) (a b c r g u : Int) (ha1 : -32768 ≤ a) (ha2 : a ≤ 32768) (hb1 : -32768 ≤ b) (hb2 : b ≤ 32768) (hc1 : -32768 ≤ c) (hc2 : c ≤ 32768)
    (hr1 : 0 ≤ r) (hr2 : r ≤ 65535) (hg1 : 0 ≤ g) (hg2 : g ≤ 65535) (hu1 : 0 ≤ u) (hu2 : u ≤ 65535) (V : World)
    (m0 : V.cell? ⟨Bm, i, none⟩ = some (.int .i64 a)) (m1 : V.cell? ⟨Bm, i + 1, none⟩ = some (.int .i64 b)) (m2 : V.cell? ⟨Bm, i + 2, none⟩ = some (.int .i64 c))
    (v0 : V.cell? ⟨Bv, 0, none⟩ = some (.int .i64 r)) (v1 : V.cell? ⟨Bv, 1, none⟩ = some (.int .i64 g)) (v2 : V.cell? ⟨Bv, 2, none⟩ = some (.int .i64 u)) :
    Calls Try.prog 77 #[.int .i64 i, .pointer (some ⟨Bm, 0, none⟩), .pointer (some ⟨Bv, 0, none⟩)] V fun e w' => e = .returned (.int .i64 (mixV a b c r g u)) ∧ ∃ n, w' = V.drewN n := by
  have HE := hide (show mixV a b c r g u = clampV ((a * r + b * g + c * u) / 4096) from rfl)
  generalize mixV a b c r g u = M at *
  have p1 := mul_bounds ha1 ha2 hr1 hr2 (by omega)
  have p2 := mul_bounds hb1 hb2 hg1 hg2 (by omega)
  have p3 := mul_bounds hc1 hc2 hu1 hu2 (by omega)
  obtain ⟨A, hA⟩ : ∃ A, a * r = A := ⟨_, rfl⟩
  obtain ⟨B, hB⟩ : ∃ B, b * g = B := ⟨_, rfl⟩
  obtain ⟨C, hC⟩ : ∃ C, c * u = C := ⟨_, rfl⟩
  rw [hA] at p1
  rw [hB] at p2
  rw [hC] at p3
  rw [hA, hB, hC] at HE
  clear ha1 ha2 hb1 hb2 hc1 hc2 hr1 hr2 hg1 hg2 hu1 hu2
  obtain ⟨p1a, p1b⟩ := p1
  obtain ⟨p2a, p2b⟩ := p2
  obtain ⟨p3a, p3b⟩ := p3
  go_enter Try.func77, Try.ntmps77
  go_wp2
  go_quiet ((go_at_call 57; exact Calls.quiet_of_same (heldQ _ _)))
  go_wp2
  go_ret
  exact ⟨ret_int HE.out.symm, nq, rfl⟩

/-- what Mix makes of a pixel. -/
def mixP (m : Nat → Int) (p : Px) : Px := (mixV (m 0) (m 1) (m 2) p.1 p.2.1 p.2.2, mixV (m 3) (m 4) (m 5) p.1 p.2.1 p.2.2, mixV (m 6) (m 7) (m 8) p.1 p.2.1 p.2.2)

set_option maxRecDepth 100000 in
set_option maxHeartbeats 800000 in
theorem mix1_any (Bm : Nat) (m : Nat → Int) (hm : ∀ k, k < 9 → -32768 ≤ m k ∧ m k ≤ 32768) (p : Px) (hp : pxOk p = true) (V : World) (hB : Bm < V.heap.size)
    (hc : ∀ k, k < 9 → V.cell? ⟨Bm, k, none⟩ = some (.int .i64 (m k))) :
    Calls Try.prog 76 #[pixV p, .pointer (some ⟨Bm, 0, none⟩)] V fun e w' => e = .returned (pixV (mixP m p)) ∧ Below V.heap.size V w' := by
  obtain ⟨⟨r1, r2⟩, ⟨g1, g2⟩, u1, u2⟩ := (pxOk_iff p).1 hp
  obtain ⟨r, g, u⟩ := p
  simp only at r1 r2 g1 g2 u1 u2
  have HB1 := hide (bel_trans (bel_alloc V (Obj.cells #[.int .i64 r, .int .i64 g, .int .i64 u] 50)) (bel_alloc _ (Obj.cells #[.int .i64 0, .int .i64 0, .int .i64 0] 50)))
  have hcc : ∀ k, k < 9 → ((V.alloc (Obj.cells #[.int .i64 r, .int .i64 g, .int .i64 u] 50)).alloc (Obj.cells #[.int .i64 0, .int .i64 0, .int .i64 0] 50)).cell? ⟨Bm, k, none⟩ = some (.int .i64 (m k)) := fun k hk =>
    (HB1.out.cell (p := ⟨Bm, k, none⟩) hB).trans (hc k hk)
  obtain ⟨k1, k2⟩ := box2 (w := V) (x := #[.int .i64 r, .int .i64 g, .int .i64 u]) (y := #[.int .i64 0, .int .i64 0, .int .i64 0]) (t := 50) (Below.refl _ _)
  obtain ⟨v0, v1, v2⟩ := cells3 k1
  obtain ⟨z0, z1, z2⟩ := cells3 k2
  have f0 := Lib.frozen_of_heap k2 0
  have f1 := Lib.frozen_of_heap k2 1
  have f2 := Lib.frozen_of_heap k2 2
  clear k1 k2 hc
  have HC := hide hcc
  have HM := hide hm
  have HR := hide (fun (i : Nat) (hi : i ≤ 6) (n : Nat) => mixRow_any i hi Bm V.heap.size (m i) (m (i + 1)) (m (i + 2)) r g u (hm i (by omega)).1 (hm i (by omega)).2 (hm (i + 1) (by omega)).1 (hm (i + 1) (by omega)).2 (hm (i + 2) (by omega)).1 (hm (i + 2) (by omega)).2 r1 r2 g1 g2 u1 u2
    (((V.alloc (Obj.cells #[.int .i64 r, .int .i64 g, .int .i64 u] 50)).alloc (Obj.cells #[.int .i64 0, .int .i64 0, .int .i64 0] 50)).drewN n) (hcc i (by omega)) (hcc (i + 1) (by omega)) (hcc (i + 2) (by omega)) v0 v1 v2)
  clear hcc hm
  go_enter Try.func76, Try.ntmps76
  go_wp2_with fail
  refine (HR.out 0 (by omega) 0).mono ?_
  rintro e w1 ⟨rfl, n1, rfl⟩
  go_wp2_with fail
  refine (HR.out 3 (by omega) _).mono ?_
  rintro e w2 ⟨rfl, n2, rfl⟩
  go_wp2_with fail
  refine (HR.out 6 (by omega) _).mono ?_
  rintro e w3 ⟨rfl, n3, rfl⟩
  go_wp2
  refine bodyPost_ret (v := pixV (mixP m (r, g, u))) (by simp [results, Try.results76, go_sem, mixP]) rfl ⟨rfl, ?_⟩
  exact set3_below (below_drewN HB1.out _) (by omega) _ _ _

end Go.Proofs.Ytolcndchfnifhab

/- tone.Mix. -/
namespace Go.Proofs.Ytolcndchfnifhab
open Go.RowKit

abbrev nine (m : Nat → Int) : Array Value := #[.int .i64 (m 0), .int .i64 (m 1), .int .i64 (m 2), .int .i64 (m 3), .int .i64 (m 4), .int .i64 (m 5), .int .i64 (m 6), .int .i64 (m 7), .int .i64 (m 8)]
def nineL (m : Nat → Int) : List Int := (List.range 9).map m
def matOk (m : Nat → Int) : Bool := allIn (-32768) 32768 (nineL m)
theorem nine_get (m : Nat → Int) (k : Nat) (h : k < 9) : (nine m)[k]? = some (.int .i64 (m k)) := by
  rcases (show k = 0 ∨ k = 1 ∨ k = 2 ∨ k = 3 ∨ k = 4 ∨ k = 5 ∨ k = 6 ∨ k = 7 ∨ k = 8 by omega) with rfl | rfl | rfl | rfl | rfl | rfl | rfl | rfl | rfl <;> rfl
theorem matOk_get {m : Nat → Int} (h : matOk m = true) (k : Nat) (hk : k < 9) : -32768 ≤ m k ∧ m k ≤ 32768 := by
  have := List.all_eq_true.1 h (m k) (List.mem_map.2 ⟨k, List.mem_range.2 hk, rfl⟩)
  simpa using this

theorem nine_ints {w w' : World} {t : TypeId} (m : Nat → Int) (hb : Below (w.alloc (.cells (nine m) t)).heap.size (w.alloc (.cells (nine m) t)) w') : IsInts w' (.slice (some ⟨w.heap.size, 0, none⟩) 9 9) (nineL m) := by
  refine ⟨_, _, rfl, by simp [nineL], .inr ⟨w.heap.size, 0, rfl, by have := hb.size; simp at this; omega, fun j hj => ?_⟩⟩
  have hj9 : j < 9 := by simpa [nineL] using hj
  rw [hb.cell (p := ⟨w.heap.size, 0 + j, none⟩) (by simp), Lib.cell_of_heap (heap_alloc_new w _), Nat.zero_add, nine_get m j hj9]
  simp [nineL]

set_option maxRecDepth 100000 in
theorem matrix_any (m : Nat → Int) (w : World) : Calls Try.prog 74 #[.agg (nine m)] w fun e w' => e = .returned (.bool (matOk m)) ∧ Below w.heap.size w w' := by
  go_enter Try.func74, Try.ntmps74
  go_wp2_with fail
  refine (rWithin_any (-32768) 32768 _ (nineL m) _ (nine_ints m (Below.refl _ _))).mono ?_
  rintro e w1 ⟨rfl, rfl⟩
  rw [show allIn (-32768) 32768 (nineL m) = matOk m from rfl]
  go_wp2
  go_ret
  exact ⟨rfl, bel_alloc _ _⟩

theorem nine_cells {w : World} {b : Nat} {t : TypeId} {fr : Nat × Nat} {m : Nat → Int} (h : w.heap[b]? = some (.cells (nine m) t fr)) :
    w.cell? ⟨b, 0, none⟩ = some (.int .i64 (m 0)) ∧ w.cell? ⟨b, 1, none⟩ = some (.int .i64 (m 1)) ∧ w.cell? ⟨b, 2, none⟩ = some (.int .i64 (m 2)) ∧ w.cell? ⟨b, 3, none⟩ = some (.int .i64 (m 3)) ∧ w.cell? ⟨b, 4, none⟩ = some (.int .i64 (m 4)) ∧ w.cell? ⟨b, 5, none⟩ = some (.int .i64 (m 5)) ∧ w.cell? ⟨b, 6, none⟩ = some (.int .i64 (m 6)) ∧ w.cell? ⟨b, 7, none⟩ = some (.int .i64 (m 7)) ∧ w.cell? ⟨b, 8, none⟩ = some (.int .i64 (m 8)) :=
  ⟨by rw [Lib.cell_of_heap h]; rfl, by rw [Lib.cell_of_heap h]; rfl, by rw [Lib.cell_of_heap h]; rfl, by rw [Lib.cell_of_heap h]; rfl, by rw [Lib.cell_of_heap h]; rfl, by rw [Lib.cell_of_heap h]; rfl, by rw [Lib.cell_of_heap h]; rfl, by rw [Lib.cell_of_heap h]; rfl, by rw [Lib.cell_of_heap h]; rfl⟩

/-- what Mix answers. -/
def mixE (W H : Int) (ps : List Px) (m : Nat → Int) : Int := if picOk W H ps = true then (if matOk m = true then 0 else 3) else 1
set_option maxRecDepth 100000 in
set_option maxHeartbeats 1600000 in
theorem mix_any (W H : Int) (v : Value) (ps : List Px) (m : Nat → Int) (w : World) (hv : IsPix w v ps) :
    Calls Try.prog 31 #[.agg #[.int .i64 W, .int .i64 H, v], .agg (nine m)] w fun e w' => ∃ r, e = .returned (.tuple #[.agg #[.int .i64 (okW (mixE W H ps m) W), .int .i64 (okW (mixE W H ps m) H), r], .int .i64 (mixE W H ps m)]) ∧ IsPix w' r (okL (mixE W H ps m) (ps.map (mixP m))) ∧ Below w.heap.size w w' ∧ Fresh w.heap.size r := by
  have HV := hide hv
  obtain ⟨ao, ca, rfl, hla, hc⟩ := hv
  obtain ⟨E, hE⟩ : ∃ E, mixE W H ps m = E := ⟨_, rfl⟩
  rw [hE]
  by_cases hp : picOk W H ps = true
  · by_cases hm : matOk m = true
    · have he : E = 0 := by rw [← hE, mixE, if_pos hp, if_pos hm]
      subst he
      clear hE
      obtain ⟨⟨w1, w2⟩, ⟨h1, h2⟩, hl, hpx⟩ := picOk_parts hp
      obtain ⟨WN, rfl⟩ := Int.eq_ofNat_of_zero_le (show 0 ≤ W by omega)
      obtain ⟨HN, rfl⟩ := Int.eq_ofNat_of_zero_le (show 0 ≤ H by omega)
      have HLEN := hide (show ps.length = HN * WN by rw [Nat.mul_comm]; exact_mod_cast hl)
      have HPX := hide hpx
      clear hl hpx
      go_enter Try.func31, Try.ntmps31
      go_wp2_with fail
      obtain ⟨a1, a2, a3⟩ := al3 w (Obj.cells #[.int .i64 (WN : Nat), .int .i64 (HN : Nat), .slice ao ps.length ca] 39) (Obj.cells (nine m) 53) (Obj.cells #[.int .i64 0, .int .i64 0, .slice none 0 0] 39)
      have hB := be3 w (Obj.cells #[.int .i64 (WN : Nat), .int .i64 (HN : Nat), .slice ao ps.length ca] 39) (Obj.cells (nine m) 53) (Obj.cells #[.int .i64 0, .int .i64 0, .slice none 0 0] 39)
      have hs3 : (((w.alloc (Obj.cells #[.int .i64 (WN : Nat), .int .i64 (HN : Nat), .slice ao ps.length ca] 39)).alloc (Obj.cells (nine m) 53)).alloc (Obj.cells #[.int .i64 0, .int .i64 0, .slice none 0 0] 39)).heap.size = w.heap.size + 3 := by simp
      generalize ((w.alloc (Obj.cells #[.int .i64 (WN : Nat), .int .i64 (HN : Nat), .slice ao ps.length ca] 39)).alloc (Obj.cells (nine m) 53)).alloc (Obj.cells #[.int .i64 0, .int .i64 0, .slice none 0 0] 39) = U at *
      refine (picture_any WN HN _ ps _ (HV.out.below hB (Nat.le_refl _))).mono ?_
      rintro e w1 ⟨rfl, hb1⟩
      rw [hp]
      have g1 := (hb1.block (w.heap.size) (by omega)).trans a1
      have g2 := (hb1.block (w.heap.size + 1) (by omega)).trans a2
      have g3 := (hb1.block (w.heap.size + 1 + 1) (by omega)).trans a3
      obtain ⟨n0, n1, n2, n3, n4, n5, n6, n7, n8⟩ := nine_cells g2
      go_wp2_with fail
      refine (matrix_any m _).mono ?_
      rintro e w2 ⟨rfl, hb2⟩
      rw [hm]
      clear n0 n1 n2 n3 n4 n5 n6 n7 n8
      replace hb2 := bel_trans hb1 hb2
      replace g1 := (hb2.block (w.heap.size) (by omega)).trans a1
      replace g2 := (hb2.block (w.heap.size + 1) (by omega)).trans a2
      replace g3 := (hb2.block (w.heap.size + 1 + 1) (by omega)).trans a3
      obtain ⟨p0, p1, p2⟩ := cells3 g1
      go_wp2_with fail
      refine (each_any WN HN (by omega) (by omega) _ ps HLEN.out 76 #[.pointer (some ⟨w.heap.size + 1, 0, none⟩)] (mixP m) _ (HV.out.below (hB.trans (hb2.mono hB.size)) (Nat.le_refl _)) (enters_of Try.func76 (by kernel_rfl) rfl) ?_).mono ?_
      · intro j hj V hV
        have hb3 := bel_trans hb2 hV
        have g2' := (hb3.block (w.heap.size + 1) (by omega)).trans a2
        exact mix1_any (w.heap.size + 1) m (fun k hk => matOk_get hm k hk) ps[j] (List.all_eq_true.1 HPX.out _ (List.getElem_mem hj)) V (by have := hb3.size; omega) (fun k hk => by rw [Lib.cell_of_heap g2', nine_get m k hk])
      · rintro e w3 ⟨r, rfl, hr, hb3, hfr⟩
        clear p0 p1 p2
        replace hb3 := bel_trans hb2 hb3
        replace g3 := (hb3.block (w.heap.size + 1 + 1) (by omega)).trans a3
        have hs2 := hb2.size
        obtain ⟨z0, z1, z2⟩ := cells3 g3
        have f0 := Lib.frozen_of_heap g3 0
        have f1 := Lib.frozen_of_heap g3 1
        have f2 := Lib.frozen_of_heap g3 2
        have HR := hide hr
        obtain ⟨ro, rc, rfl, _, _⟩ := hr
        have HFIN := hide (set3_below (hB.trans (hb3.mono hB.size)) (show w.heap.size ≤ w.heap.size + 1 + 1 by omega) (.int .i64 (WN : Nat)) (.int .i64 (HN : Nat)) (.slice ro (ps.map (mixP m)).length rc))
        have HPX2 := hide (HR.out.set3 hfr (show w.heap.size + 1 + 1 < w2.heap.size by omega) (.int .i64 (WN : Nat)) (.int .i64 (HN : Nat)) (.slice ro (ps.map (mixP m)).length rc))
        rw [List.length_map] at HPX2 HFIN hfr
        go_wp2
        exact bodyPost_ret (v := .tuple #[.agg #[.int .i64 (WN : Nat), .int .i64 (HN : Nat), .slice ro ps.length rc], .int .i64 0]) (by simp [results, Try.results31, go_sem, z0, z1, z2]) rfl ⟨_, rfl, HPX2.out, HFIN.out, hfr.mono (by omega)⟩
    · have he : E = 3 := by rw [← hE, mixE, if_pos hp, if_neg hm]
      have hm : matOk m = false := by simpa using hm
      subst he
      clear hE
      go_enter Try.func31, Try.ntmps31
      go_wp2_with fail
      obtain ⟨a1, a2, a3⟩ := al3 w (Obj.cells #[.int .i64 W, .int .i64 H, .slice ao ps.length ca] 39) (Obj.cells (nine m) 53) (Obj.cells #[.int .i64 0, .int .i64 0, .slice none 0 0] 39)
      have hB := be3 w (Obj.cells #[.int .i64 W, .int .i64 H, .slice ao ps.length ca] 39) (Obj.cells (nine m) 53) (Obj.cells #[.int .i64 0, .int .i64 0, .slice none 0 0] 39)
      have hs3 : (((w.alloc (Obj.cells #[.int .i64 W, .int .i64 H, .slice ao ps.length ca] 39)).alloc (Obj.cells (nine m) 53)).alloc (Obj.cells #[.int .i64 0, .int .i64 0, .slice none 0 0] 39)).heap.size = w.heap.size + 3 := by simp
      generalize ((w.alloc (Obj.cells #[.int .i64 W, .int .i64 H, .slice ao ps.length ca] 39)).alloc (Obj.cells (nine m) 53)).alloc (Obj.cells #[.int .i64 0, .int .i64 0, .slice none 0 0] 39) = U at *
      refine (picture_any W H _ ps _ (HV.out.below hB (Nat.le_refl _))).mono ?_
      rintro e w1 ⟨rfl, hb1⟩
      rw [hp]
      have g1 := (hb1.block (w.heap.size) (by omega)).trans a1
      have g2 := (hb1.block (w.heap.size + 1) (by omega)).trans a2
      have g3 := (hb1.block (w.heap.size + 1 + 1) (by omega)).trans a3
      obtain ⟨n0, n1, n2, n3, n4, n5, n6, n7, n8⟩ := nine_cells g2
      go_wp2_with fail
      refine (matrix_any m _).mono ?_
      rintro e w2 ⟨rfl, hb2⟩
      rw [hm]
      clear n0 n1 n2 n3 n4 n5 n6 n7 n8
      replace hb2 := bel_trans hb1 hb2
      replace g1 := (hb2.block (w.heap.size) (by omega)).trans a1
      replace g2 := (hb2.block (w.heap.size + 1) (by omega)).trans a2
      replace g3 := (hb2.block (w.heap.size + 1 + 1) (by omega)).trans a3
      obtain ⟨z0, z1, z2⟩ := cells3 g3
      have f0 := Lib.frozen_of_heap g3 0
      have f1 := Lib.frozen_of_heap g3 1
      have f2 := Lib.frozen_of_heap g3 2
      have HBL := hb2
      have HFIN := hide (set3_below (hB.trans (HBL.mono hB.size)) (show w.heap.size ≤ w.heap.size + 1 + 1 by omega) (.int .i64 0) (.int .i64 0) (.slice none 0 0))
      go_wp2
      exact bodyPost_ret (v := .tuple #[.agg #[.int .i64 0, .int .i64 0, .slice none 0 0], .int .i64 3]) (by simp [results, Try.results31, go_sem, z0, z1, z2]) rfl ⟨.slice none 0 0, rfl, IsPix.nil _, HFIN.out, Fresh.nil _⟩
  · have he : E = 1 := by rw [← hE, mixE, if_neg hp]
    have hp : picOk W H ps = false := by simpa using hp
    subst he
    clear hE
    go_enter Try.func31, Try.ntmps31
    go_wp2_with fail
    obtain ⟨a1, a2, a3⟩ := al3 w (Obj.cells #[.int .i64 W, .int .i64 H, .slice ao ps.length ca] 39) (Obj.cells (nine m) 53) (Obj.cells #[.int .i64 0, .int .i64 0, .slice none 0 0] 39)
    have hB := be3 w (Obj.cells #[.int .i64 W, .int .i64 H, .slice ao ps.length ca] 39) (Obj.cells (nine m) 53) (Obj.cells #[.int .i64 0, .int .i64 0, .slice none 0 0] 39)
    have hs3 : (((w.alloc (Obj.cells #[.int .i64 W, .int .i64 H, .slice ao ps.length ca] 39)).alloc (Obj.cells (nine m) 53)).alloc (Obj.cells #[.int .i64 0, .int .i64 0, .slice none 0 0] 39)).heap.size = w.heap.size + 3 := by simp
    generalize ((w.alloc (Obj.cells #[.int .i64 W, .int .i64 H, .slice ao ps.length ca] 39)).alloc (Obj.cells (nine m) 53)).alloc (Obj.cells #[.int .i64 0, .int .i64 0, .slice none 0 0] 39) = U at *
    refine (picture_any W H _ ps _ (HV.out.below hB (Nat.le_refl _))).mono ?_
    rintro e w1 ⟨rfl, hb1⟩
    rw [hp]
    have g1 := (hb1.block (w.heap.size) (by omega)).trans a1
    have g2 := (hb1.block (w.heap.size + 1) (by omega)).trans a2
    have g3 := (hb1.block (w.heap.size + 1 + 1) (by omega)).trans a3
    obtain ⟨z0, z1, z2⟩ := cells3 g3
    have f0 := Lib.frozen_of_heap g3 0
    have f1 := Lib.frozen_of_heap g3 1
    have f2 := Lib.frozen_of_heap g3 2
    have HBL := hb1
    have HFIN := hide (set3_below (hB.trans (HBL.mono hB.size)) (show w.heap.size ≤ w.heap.size + 1 + 1 by omega) (.int .i64 0) (.int .i64 0) (.slice none 0 0))
    go_wp2
    exact bodyPost_ret (v := .tuple #[.agg #[.int .i64 0, .int .i64 0, .slice none 0 0], .int .i64 1]) (by simp [results, Try.results31, go_sem, z0, z1, z2]) rfl ⟨.slice none 0 0, rfl, IsPix.nil _, HFIN.out, Fresh.nil _⟩

end Go.Proofs.Ytolcndchfnifhab

/- mosaic.Fill. -/
namespace Go.Proofs.Ytolcndchfnifhab
set_option linter.unusedVariables false
open Go.RowKit

def fillP (zs : List Int) (W H p j : Nat) : Px := (partV zs W H p (j % W) (j / W) 0, partV zs W H p (j % W) (j / W) 1, partV zs W H p (j % W) (j / W) 2)

set_option maxRecDepth 100000 in
set_option maxHeartbeats 1600000 in
theorem fill1_any (W H p j bk off ca : Nat) (hW1 : 1 ≤ W) (hW : W ≤ 64) (hH1 : 1 ≤ H) (hH : H ≤ 64) (hp : p ≤ 3) (zs : List Int) (hlen : zs.length = H * W) (hzs : allIn 0 65535 zs = true) (hj : j < zs.length) (Bp Bh : Nat) (w : World) (hBp : Bp < w.heap.size) (hBh : Bh < w.heap.size) (hbk : bk < w.heap.size)
    (k0 : w.cell? ⟨Bp, 0, none⟩ = some (.int .i64 W)) (k1 : w.cell? ⟨Bp, 1, none⟩ = some (.int .i64 H)) (k2 : w.cell? ⟨Bp, 2, none⟩ = some (.slice (some ⟨bk, off, none⟩) zs.length ca)) (k3 : w.cell? ⟨Bh, 0, none⟩ = some (.int .i64 p))
    (hcell : ∀ j, j < zs.length → w.cell? ⟨bk, off + j, none⟩ = some (.int .i64 (zAt zs j))) :
    Calls Try.prog 66 #[.agg #[.int .i64 (j % W : Nat), .int .i64 (j / W : Nat)], .pointer (some ⟨Bp, 0, none⟩), .pointer (some ⟨Bh, 0, none⟩)] w fun e w' => e = .returned (pixV (fillP zs W H p j)) ∧ Below w.heap.size w w' := by
  have hXW : j % W < W := Nat.mod_lt _ (by omega)
  have hYH : j / W < H := by rw [hlen] at hj; exact Nat.div_lt_of_lt_mul (by rw [Nat.mul_comm]; exact hj)
  have HF := hide (show fillP zs W H p j = (partV zs W H p (j % W) (j / W) 0, partV zs W H p (j % W) (j / W) 1, partV zs W H p (j % W) (j / W) 2) from rfl)
  generalize fillP zs W H p j = RES at *
  obtain ⟨X, hX⟩ : ∃ X, j % W = X := ⟨_, rfl⟩
  obtain ⟨Y, hY⟩ : ∃ Y, j / W = Y := ⟨_, rfl⟩
  rw [hX] at hXW
  rw [hY] at hYH
  rw [hX, hY] at HF
  rw [hX, hY]
  clear hX hY
  have HPA := hide (fun (c : Nat) (v : World) (hv : Below w.heap.size w v) => part_any W H p X Y c bk off ca hW1 hW hH1 hH hp hXW hYH zs hlen hzs v (Nat.lt_of_lt_of_le hbk hv.size) (fun j hj => (hv.cell (p := ⟨bk, off + j, none⟩) hbk).trans (hcell j hj)))
  obtain ⟨r0, hr0⟩ : ∃ r, partV zs W H p X Y 0 = r := ⟨_, rfl⟩
  obtain ⟨r1, hr1⟩ : ∃ r, partV zs W H p X Y 1 = r := ⟨_, rfl⟩
  obtain ⟨r2, hr2⟩ : ∃ r, partV zs W H p X Y 2 = r := ⟨_, rfl⟩
  have HP0 := hide (HPA.out 0)
  have HP1 := hide (HPA.out 1)
  have HP2 := hide (HPA.out 2)
  rw [hr0] at HP0 HF
  rw [hr1] at HP1 HF
  rw [hr2] at HP2 HF
  clear HPA hr0 hr1 hr2 hcell hlen hzs
  have HB := hide (be2 w (Obj.cells #[.int .i64 X, .int .i64 Y] 93) (Obj.cells #[.int .i64 0, .int .i64 0, .int .i64 0] 50))
  obtain ⟨a1, a2⟩ := al2 w (Obj.cells #[.int .i64 X, .int .i64 Y] 93) (Obj.cells #[.int .i64 0, .int .i64 0, .int .i64 0] 50)
  go_enter Try.func66, Try.ntmps66
  go_wp2_with fail
  have hl1 := (Array.getElem?_eq_some_iff.1 a1).1
  have hl2 := (Array.getElem?_eq_some_iff.1 a2).1
  generalize (w.alloc (Obj.cells #[.int .i64 X, .int .i64 Y] 93)).alloc (Obj.cells #[.int .i64 0, .int .i64 0, .int .i64 0] 50) = U at *
  have HS := hide (show ∀ v, Below U.heap.size U v → v.cell? ⟨Bp, 0, none⟩ = some (.int .i64 W) ∧ v.cell? ⟨Bp, 1, none⟩ = some (.int .i64 H) ∧ v.cell? ⟨Bp, 2, none⟩ = some (.slice (some ⟨bk, off, none⟩) zs.length ca) ∧ v.cell? ⟨Bh, 0, none⟩ = some (.int .i64 p) ∧ v.cell? ⟨w.heap.size, 0, none⟩ = some (.int .i64 X) ∧ v.cell? ⟨w.heap.size, 1, none⟩ = some (.int .i64 Y) from fun v h => by
    have hw := HB.out.trans (h.mono HB.out.size)
    have t := (h.block _ hl1).trans a1
    exact ⟨(hw.cell (p := ⟨Bp, 0, none⟩) hBp).trans k0, (hw.cell (p := ⟨Bp, 1, none⟩) hBp).trans k1, (hw.cell (p := ⟨Bp, 2, none⟩) hBp).trans k2, (hw.cell (p := ⟨Bh, 0, none⟩) hBh).trans k3, by rw [Lib.cell_of_heap t]; rfl, by rw [Lib.cell_of_heap t]; rfl⟩)
  have hWd : Below U.heap.size U U.drew := (Below.refl _ _).drew
  have hSd := HS.out _ hWd
  have hmx : Try.prog.follows .mixedOrders = true := by kernel_rfl
  refine wp_region_last (S := fun v : World => v.cell? ⟨Bp, 0, none⟩ = some (.int .i64 W) ∧ v.cell? ⟨Bp, 1, none⟩ = some (.int .i64 H) ∧ v.cell? ⟨Bp, 2, none⟩ = some (.slice (some ⟨bk, off, none⟩) zs.length ca) ∧ v.cell? ⟨Bh, 0, none⟩ = some (.int .i64 p) ∧ v.cell? ⟨w.heap.size, 0, none⟩ = some (.int .i64 X) ∧ v.cell? ⟨w.heap.size, 1, none⟩ = some (.int .i64 Y)) (f := 13) hmx ?_
  show wpAnyF _ _ _ _ _ _ 14 _ _ U.drew
  refine wpAnyF_take (i := 0) (oi := _) (v := ?vv1) rfl (by kernel_rfl) (by kernel_rfl) (by kernel_rfl) (by kernel_rfl) (by kernel_rfl) (fun _ _ _ h => h) (Or.inl ⟨by rfl, ?yy1⟩) hSd ?rr1
  case yy1 => (intro wq hSq; obtain ⟨_, _, _, _, _, _⟩ := hSq; go_simp <;> with_reducible rfl)
  try simp only [Act.put]
  refine wpAnyF_take (i := 1) (oi := _) (v := ?vv2) rfl (by kernel_rfl) (by kernel_rfl) (by kernel_rfl) (by kernel_rfl) (by kernel_rfl) (fun _ _ _ h => h) (Or.inl ⟨by rfl, ?yy2⟩) hSd ?rr2
  case yy2 => (intro wq hSq; obtain ⟨_, _, _, _, _, _⟩ := hSq; go_simp <;> with_reducible rfl)
  try simp only [Act.put]
  refine wpAnyF_take (i := 2) (oi := _) (v := ?vv3) rfl (by kernel_rfl) (by kernel_rfl) (by kernel_rfl) (by kernel_rfl) (by kernel_rfl) (fun _ _ _ h => h) (Or.inl ⟨by rfl, ?yy3⟩) hSd ?rr3
  case yy3 => (intro wq hSq; obtain ⟨_, _, _, _, _, _⟩ := hSq; go_simp <;> with_reducible rfl)
  try simp only [Act.put]
  refine wpAnyF_take (i := 4) (oi := _) (v := ?vv4) rfl (by kernel_rfl) (by kernel_rfl) (by kernel_rfl) (by kernel_rfl) (by kernel_rfl) (fun _ _ _ h => h) (Or.inl ⟨by rfl, ?yy4⟩) hSd ?rr4
  case yy4 => (intro wq hSq; obtain ⟨_, _, _, _, _, _⟩ := hSq; go_simp <;> with_reducible rfl)
  try simp only [Act.put]
  refine wpAnyF_take (i := 5) (oi := _) (v := ?vv5) rfl (by kernel_rfl) (by kernel_rfl) (by kernel_rfl) (by kernel_rfl) (by kernel_rfl) (fun _ _ _ h => h) (Or.inl ⟨by rfl, ?yy5⟩) hSd ?rr5
  case yy5 => (intro wq hSq; obtain ⟨_, _, _, _, _, _⟩ := hSq; go_simp <;> with_reducible rfl)
  try simp only [Act.put]
  refine wpAnyF_take (i := 6) (oi := _) (v := ?vv6) rfl (by kernel_rfl) (by kernel_rfl) (by kernel_rfl) (by kernel_rfl) (by kernel_rfl) (fun _ _ _ h => h) (Or.inl ⟨by rfl, ?yy6⟩) hSd ?rr6
  case yy6 => (intro wq hSq; obtain ⟨_, _, _, _, _, _⟩ := hSq; go_simp <;> with_reducible rfl)
  try simp only [Act.put]
  refine wpAnyF_take (i := 8) (oi := _) (v := ?vv7) rfl (by kernel_rfl) (by kernel_rfl) (by kernel_rfl) (by kernel_rfl) (by kernel_rfl) (fun _ _ _ h => h) (Or.inl ⟨by rfl, ?yy7⟩) hSd ?rr7
  case yy7 => (intro wq hSq; obtain ⟨_, _, _, _, _, _⟩ := hSq; go_simp <;> with_reducible rfl)
  try simp only [Act.put]
  refine wpAnyF_take (i := 9) (oi := _) (v := ?vv8) rfl (by kernel_rfl) (by kernel_rfl) (by kernel_rfl) (by kernel_rfl) (by kernel_rfl) (fun _ _ _ h => h) (Or.inl ⟨by rfl, ?yy8⟩) hSd ?rr8
  case yy8 => (intro wq hSq; obtain ⟨_, _, _, _, _, _⟩ := hSq; go_simp <;> with_reducible rfl)
  try simp only [Act.put]
  refine wpAnyF_take (i := 10) (oi := _) (v := ?vv9) rfl (by kernel_rfl) (by kernel_rfl) (by kernel_rfl) (by kernel_rfl) (by kernel_rfl) (fun _ _ _ h => h) (Or.inl ⟨by rfl, ?yy9⟩) hSd ?rr9
  case yy9 => (intro wq hSq; obtain ⟨_, _, _, _, _, _⟩ := hSq; go_simp <;> with_reducible rfl)
  try simp only [Act.put]
  refine wpAnyF_one (i := 3) (o := _) (by kernel_rfl) rfl (fun K' hK => ?_)
  rw [if_pos (by rfl)]
  go_simp
  refine (HP0.out _ (HB.out.trans (hWd.mono HB.out.size))).mono ?_
  rintro e V0 ⟨rfl, hbv0⟩
  have hB0 : Below U.heap.size U V0 := hWd.trans (hbv0.mono hWd.size)
  have hSd := HS.out _ hB0
  refine hK.out _ _ hSd ?_
  clear hK
  try simp only [Act.put]
  refine wpAnyF_one (i := 7) (o := _) (by kernel_rfl) rfl (fun K' hK => ?_)
  rw [if_pos (by rfl)]
  go_simp
  refine (HP1.out _ (HB.out.trans (hB0.mono HB.out.size))).mono ?_
  rintro e V1 ⟨rfl, hbv1⟩
  have hB1 : Below U.heap.size U V1 := hB0.trans (hbv1.mono hB0.size)
  have hSd := HS.out _ hB1
  refine hK.out _ _ hSd ?_
  clear hK
  try simp only [Act.put]
  refine wpAnyF_one (i := 11) (o := _) (by kernel_rfl) rfl (fun K' hK => ?_)
  rw [if_pos (by rfl)]
  go_simp
  refine (HP2.out _ (HB.out.trans (hB1.mono HB.out.size))).mono ?_
  rintro e V2 ⟨rfl, hbv2⟩
  have hB2 : Below U.heap.size U V2 := hB1.trans (hbv2.mono hB1.size)
  have hSd := HS.out _ hB2
  refine hK.out _ _ hSd ?_
  clear hK
  try simp only [Act.put]
  refine wpAnyF_take (i := 12) (oi := _) (v := ?vv10) rfl (by kernel_rfl) (by kernel_rfl) (by kernel_rfl) (by kernel_rfl) (by kernel_rfl) (fun _ _ _ h => h) (Or.inl ⟨by rfl, ?yy10⟩) hSd ?rr10
  case yy10 => (intro wq hSq; obtain ⟨_, _, _, _, _, _⟩ := hSq; go_simp <;> with_reducible rfl)
  try simp only [Act.put]
  have gR := (hB2.block (w.heap.size + 1) hl2).trans a2
  obtain ⟨z0, z1, z2⟩ := cells3 gR
  have f0 := Lib.frozen_of_heap gR 0
  have f1 := Lib.frozen_of_heap gR 1
  have f2 := Lib.frozen_of_heap gR 2
  refine wpAnyF_last (o := _) (by kernel_rfl) rfl (fun K' hK => ?_)
  rw [if_pos (by rfl)]
  go_simp
  refine hK.out _ _ ?_
  clear hK
  refine wpAnyF_done (by kernel_rfl) ?_ _
  try simp only [Act.put]
  have HFIN := hide (set3_below (HB.out.trans (hB2.mono HB.out.size)) (show w.heap.size ≤ w.heap.size + 1 by omega) (.int .i64 r0) (.int .i64 r1) (.int .i64 r2))
  go_wp2
  exact bodyPost_ret (v := .agg #[.int .i64 r0, .int .i64 r1, .int .i64 r2]) (by simp [results, Try.results66, go_sem, z0, z1, z2]) rfl ⟨by rw [HF.out], HFIN.out⟩

def fillE (W H : Int) (zs : List Int) (phase : Int) : Int := if planeOk W H zs = true then (if phaseOk phase = true then 0 else 3) else 1
def fillL (W H : Int) (zs : List Int) (phase : Int) : List Px := (List.range zs.length).map (fillP zs W.toNat H.toNat phase.toNat)

set_option maxRecDepth 100000 in
set_option maxHeartbeats 1600000 in
theorem fill_any (W H : Int) (v : Value) (zs : List Int) (phase : Int) (w : World) (hv : IsInts w v zs) :
    Calls Try.prog 22 #[.agg #[.int .i64 W, .int .i64 H, v], .int .i64 phase] w fun e w' => ∃ r, e = .returned (.tuple #[.agg #[.int .i64 (okW (fillE W H zs phase) W), .int .i64 (okW (fillE W H zs phase) H), r], .int .i64 (fillE W H zs phase)]) ∧ IsPix w' r (okL (fillE W H zs phase) (fillL W H zs phase)) ∧ Below w.heap.size w w' ∧ Fresh w.heap.size r := by
  have HV := hide hv
  obtain ⟨E, hE⟩ : ∃ E, fillE W H zs phase = E := ⟨_, rfl⟩
  rw [hE]
  by_cases hp : planeOk W H zs = true
  · by_cases hph : phaseOk phase = true
    · have he : E = 0 := by rw [← hE, fillE, if_pos hp, if_pos hph]
      subst he
      clear hE
      obtain ⟨⟨w1, w2⟩, ⟨h1, h2⟩, hl, _⟩ := planeOk_parts hp
      have hz := planeOk_all hp
      have hph2 : 0 ≤ phase ∧ phase ≤ 3 := by simpa [phaseOk] using hph
      have hsm := side_mul ⟨w1, w2⟩ ⟨h1, h2⟩
      have hn1 : 1 ≤ zs.length := by omega
      obtain ⟨bk, off, ca, rfl, hbk, hcell⟩ := hv.cells hn1
      obtain ⟨WN, rfl⟩ := Int.eq_ofNat_of_zero_le (show 0 ≤ W by omega)
      obtain ⟨HN, rfl⟩ := Int.eq_ofNat_of_zero_le (show 0 ≤ H by omega)
      obtain ⟨PN, rfl⟩ := Int.eq_ofNat_of_zero_le hph2.1
      have HLEN := hide (show zs.length = HN * WN by rw [Nat.mul_comm]; exact_mod_cast hl)
      have HZ := hide hz
      have HC := hide hcell
      rw [show okW 0 (WN : Int) = WN from rfl, show okW 0 (HN : Int) = HN from rfl, show okL 0 (fillL (WN : Int) (HN : Int) zs (PN : Int)) = (List.range zs.length).map (fillP zs WN HN PN) from rfl]
      clear hl hz hcell hsm hv
      go_enter Try.func22, Try.ntmps22
      go_wp2_with fail
      obtain ⟨a1, a2, a3⟩ := al3 w (Obj.cells #[.int .i64 (WN : Nat), .int .i64 (HN : Nat), .slice (some ⟨bk, off, none⟩) zs.length ca] 24) (Obj.cells #[.int .i64 (PN : Nat)] 3) (Obj.cells #[.int .i64 0, .int .i64 0, .slice none 0 0] 39)
      have hB := be3 w (Obj.cells #[.int .i64 (WN : Nat), .int .i64 (HN : Nat), .slice (some ⟨bk, off, none⟩) zs.length ca] 24) (Obj.cells #[.int .i64 (PN : Nat)] 3) (Obj.cells #[.int .i64 0, .int .i64 0, .slice none 0 0] 39)
      have hs3 : (((w.alloc (Obj.cells #[.int .i64 (WN : Nat), .int .i64 (HN : Nat), .slice (some ⟨bk, off, none⟩) zs.length ca] 24)).alloc (Obj.cells #[.int .i64 (PN : Nat)] 3)).alloc (Obj.cells #[.int .i64 0, .int .i64 0, .slice none 0 0] 39)).heap.size = w.heap.size + 3 := by simp
      generalize ((w.alloc (Obj.cells #[.int .i64 (WN : Nat), .int .i64 (HN : Nat), .slice (some ⟨bk, off, none⟩) zs.length ca] 24)).alloc (Obj.cells #[.int .i64 (PN : Nat)] 3)).alloc (Obj.cells #[.int .i64 0, .int .i64 0, .slice none 0 0] 39) = U at *
      refine (plane_any WN HN _ zs _ (HV.out.below hB (Nat.le_refl _))).mono ?_
      rintro e w1 ⟨rfl, hb1⟩
      rw [hp]
      have g2 := bx1 ((hb1.block (w.heap.size + 1) (by omega)).trans a2)
      have g3 := (hb1.block (w.heap.size + 1 + 1) (by omega)).trans a3
      go_wp2_with fail
      refine (phase_any _ _).mono ?_
      rintro e w2 ⟨rfl, hb2⟩
      rw [hph]
      clear g2
      replace hb2 := bel_trans hb1 hb2
      replace g3 := (hb2.block (w.heap.size + 1 + 1) (by omega)).trans a3
      obtain ⟨p0, p1, p2⟩ := cells3 ((hb2.block (w.heap.size) (by omega)).trans a1)
      go_wp2_with fail
      have hbG := bel_trans hb2 (bel_alloc w2 (Obj.cells #[.int .i64 (WN : Nat), .int .i64 (HN : Nat)] 91))
      have hs2 := hb2.size
      clear p0 p1 p2
      generalize w2.alloc (Obj.cells #[.int .i64 (WN : Nat), .int .i64 (HN : Nat)] 91) = w2g at *
      refine (gridPicture_any WN HN zs.length (by omega) (by omega) HLEN.out 66 #[.pointer (some ⟨w.heap.size, 0, none⟩), .pointer (some ⟨w.heap.size + 1, 0, none⟩)] (fillP zs WN HN PN) _ (enters_of Try.func66 (by kernel_rfl) rfl) ?_).mono ?_
      · intro j V hj hV
        have hb3 := bel_trans hbG hV
        have hbw := hB.trans (hb3.mono hB.size)
        obtain ⟨e0, e1, e2⟩ := cells3 ((hb3.block (w.heap.size) (by omega)).trans a1)
        have e3 := bx1 ((hb3.block (w.heap.size + 1) (by omega)).trans a2)
        have hs := hb3.size
        exact fill1_any WN HN PN j bk off ca (by omega) (by omega) (by omega) (by omega) (by omega) zs HLEN.out HZ.out hj w.heap.size (w.heap.size + 1) V (by omega) (by omega) (Nat.lt_of_lt_of_le hbk hbw.size) e0 e1 e2 e3 (fun i hi => (hbw.cell (p := ⟨bk, off + i, none⟩) hbk).trans (HC.out i hi))
      · rintro e w3 ⟨r, rfl, hr, hb3, hfr⟩
        replace hb3 := bel_trans hbG hb3
        replace g3 := (hb3.block (w.heap.size + 1 + 1) (by omega)).trans a3
        obtain ⟨z0, z1, z2⟩ := cells3 g3
        have f0 := Lib.frozen_of_heap g3 0
        have f1 := Lib.frozen_of_heap g3 1
        have f2 := Lib.frozen_of_heap g3 2
        have HR := hide hr
        obtain ⟨ro, rc, rfl, _, _⟩ := hr
        have HFIN := hide (set3_below (hB.trans (hb3.mono hB.size)) (show w.heap.size ≤ w.heap.size + 1 + 1 by omega) (.int .i64 (WN : Nat)) (.int .i64 (HN : Nat)) (.slice ro ((List.range zs.length).map (fillP zs WN HN PN)).length rc))
        have hsG := hbG.size
        have HPX2 := hide (HR.out.set3 hfr (show w.heap.size + 1 + 1 < w2g.heap.size by omega) (.int .i64 (WN : Nat)) (.int .i64 (HN : Nat)) (.slice ro ((List.range zs.length).map (fillP zs WN HN PN)).length rc))
        rw [List.length_map, List.length_range] at HPX2 HFIN hfr
        rw [List.length_map, List.length_range]
        go_wp2
        exact bodyPost_ret (v := .tuple #[.agg #[.int .i64 (WN : Nat), .int .i64 (HN : Nat), .slice ro zs.length rc], .int .i64 0]) (by simp [results, Try.results22, go_sem, z0, z1, z2]) rfl ⟨_, rfl, HPX2.out, HFIN.out, hfr.mono (by omega)⟩
    · have he : E = 3 := by rw [← hE, fillE, if_pos hp, if_neg hph]
      have hph : phaseOk phase = false := by simpa using hph
      subst he
      clear hE
      obtain ⟨ao, ca, rfl, _, _⟩ := hv
      go_enter Try.func22, Try.ntmps22
      go_wp2_with fail
      obtain ⟨a1, a2, a3⟩ := al3 w (Obj.cells #[.int .i64 W, .int .i64 H, .slice ao zs.length ca] 24) (Obj.cells #[.int .i64 phase] 3) (Obj.cells #[.int .i64 0, .int .i64 0, .slice none 0 0] 39)
      have hB := be3 w (Obj.cells #[.int .i64 W, .int .i64 H, .slice ao zs.length ca] 24) (Obj.cells #[.int .i64 phase] 3) (Obj.cells #[.int .i64 0, .int .i64 0, .slice none 0 0] 39)
      have hs3 : (((w.alloc (Obj.cells #[.int .i64 W, .int .i64 H, .slice ao zs.length ca] 24)).alloc (Obj.cells #[.int .i64 phase] 3)).alloc (Obj.cells #[.int .i64 0, .int .i64 0, .slice none 0 0] 39)).heap.size = w.heap.size + 3 := by simp
      generalize ((w.alloc (Obj.cells #[.int .i64 W, .int .i64 H, .slice ao zs.length ca] 24)).alloc (Obj.cells #[.int .i64 phase] 3)).alloc (Obj.cells #[.int .i64 0, .int .i64 0, .slice none 0 0] 39) = U at *
      refine (plane_any W H _ zs _ (HV.out.below hB (Nat.le_refl _))).mono ?_
      rintro e w1 ⟨rfl, hb1⟩
      rw [hp]
      have g2 := bx1 ((hb1.block (w.heap.size + 1) (by omega)).trans a2)
      have g3 := (hb1.block (w.heap.size + 1 + 1) (by omega)).trans a3
      go_wp2_with fail
      refine (phase_any _ _).mono ?_
      rintro e w2 ⟨rfl, hb2⟩
      rw [hph]
      clear g2
      replace hb2 := bel_trans hb1 hb2
      replace g3 := (hb2.block (w.heap.size + 1 + 1) (by omega)).trans a3
      obtain ⟨z0, z1, z2⟩ := cells3 g3
      have f0 := Lib.frozen_of_heap g3 0
      have f1 := Lib.frozen_of_heap g3 1
      have f2 := Lib.frozen_of_heap g3 2
      have HFIN := hide (set3_below (hB.trans (hb2.mono hB.size)) (show w.heap.size ≤ w.heap.size + 1 + 1 by omega) (.int .i64 0) (.int .i64 0) (.slice none 0 0))
      go_wp2
      exact bodyPost_ret (v := .tuple #[.agg #[.int .i64 0, .int .i64 0, .slice none 0 0], .int .i64 3]) (by simp [results, Try.results22, go_sem, z0, z1, z2]) rfl ⟨.slice none 0 0, rfl, IsPix.nil _, HFIN.out, Fresh.nil _⟩
  · have he : E = 1 := by rw [← hE, fillE, if_neg hp]
    have hp : planeOk W H zs = false := by simpa using hp
    subst he
    clear hE
    obtain ⟨ao, ca, rfl, _, _⟩ := hv
    go_enter Try.func22, Try.ntmps22
    go_wp2_with fail
    obtain ⟨a1, a2, a3⟩ := al3 w (Obj.cells #[.int .i64 W, .int .i64 H, .slice ao zs.length ca] 24) (Obj.cells #[.int .i64 phase] 3) (Obj.cells #[.int .i64 0, .int .i64 0, .slice none 0 0] 39)
    have hB := be3 w (Obj.cells #[.int .i64 W, .int .i64 H, .slice ao zs.length ca] 24) (Obj.cells #[.int .i64 phase] 3) (Obj.cells #[.int .i64 0, .int .i64 0, .slice none 0 0] 39)
    have hs3 : (((w.alloc (Obj.cells #[.int .i64 W, .int .i64 H, .slice ao zs.length ca] 24)).alloc (Obj.cells #[.int .i64 phase] 3)).alloc (Obj.cells #[.int .i64 0, .int .i64 0, .slice none 0 0] 39)).heap.size = w.heap.size + 3 := by simp
    generalize ((w.alloc (Obj.cells #[.int .i64 W, .int .i64 H, .slice ao zs.length ca] 24)).alloc (Obj.cells #[.int .i64 phase] 3)).alloc (Obj.cells #[.int .i64 0, .int .i64 0, .slice none 0 0] 39) = U at *
    refine (plane_any W H _ zs _ (HV.out.below hB (Nat.le_refl _))).mono ?_
    rintro e w1 ⟨rfl, hb1⟩
    rw [hp]
    have g2 := bx1 ((hb1.block (w.heap.size + 1) (by omega)).trans a2)
    have g3 := (hb1.block (w.heap.size + 1 + 1) (by omega)).trans a3
    generalize w1 = w2 at *
    have hb2 := hb1
    obtain ⟨z0, z1, z2⟩ := cells3 g3
    have f0 := Lib.frozen_of_heap g3 0
    have f1 := Lib.frozen_of_heap g3 1
    have f2 := Lib.frozen_of_heap g3 2
    have HFIN := hide (set3_below (hB.trans (hb2.mono hB.size)) (show w.heap.size ≤ w.heap.size + 1 + 1 by omega) (.int .i64 0) (.int .i64 0) (.slice none 0 0))
    go_wp2
    exact bodyPost_ret (v := .tuple #[.agg #[.int .i64 0, .int .i64 0, .slice none 0 0], .int .i64 1]) (by simp [results, Try.results22, go_sem, z0, z1, z2]) rfl ⟨.slice none 0 0, rfl, IsPix.nil _, HFIN.out, Fresh.nil _⟩

end Go.Proofs.Ytolcndchfnifhab

/- tone.weighed; grid.Nearest. -/
namespace Go.Proofs.Ytolcndchfnifhab
open Go.RowKit

def addP (s : Px) (k : Int) (p : Px) : Px := (s.1 + k * p.1, s.2.1 + k * p.2.1, s.2.2 + k * p.2.2)
/-- parts that are no more than so many times the highest. -/
def pxUpto (m : Int) (p : Px) : Prop := (0 ≤ p.1 ∧ p.1 ≤ m * 65535) ∧ (0 ≤ p.2.1 ∧ p.2.1 ≤ m * 65535) ∧ (0 ≤ p.2.2 ∧ p.2.2 ≤ m * 65535)
theorem mul_bounds0 {a r A R : Int} (h1 : 0 ≤ a) (h2 : a ≤ A) (h3 : 0 ≤ r) (h4 : r ≤ R) : 0 ≤ a * r ∧ a * r ≤ A * R :=
  ⟨Int.mul_nonneg h1 h3, Int.mul_le_mul h2 h4 h3 (by omega)⟩

set_option maxRecDepth 100000 in
set_option maxHeartbeats 800000 in
theorem weighed_any (s p : Px) (k : Int) (hk0 : 0 ≤ k) (hk : k ≤ 4) (hs : pxUpto 32 s) (hp : pxOk p = true) (w : World) :
    Calls Try.prog 113 #[pixV s, pixV p, .int .i64 k] w fun e w' => e = .returned (pixV (addP s k p)) ∧ Below w.heap.size w w' := by
  obtain ⟨⟨r1, r2⟩, ⟨g1, g2⟩, u1, u2⟩ := (pxOk_iff p).1 hp
  obtain ⟨⟨s1, s2⟩, ⟨s3, s4⟩, s5, s6⟩ := hs
  obtain ⟨r, g, u⟩ := p
  obtain ⟨a, b, c⟩ := s
  simp only at r1 r2 g1 g2 u1 u2 s1 s2 s3 s4 s5 s6
  obtain ⟨m1, m2⟩ := mul_bounds0 hk0 hk r1 r2
  obtain ⟨m3, m4⟩ := mul_bounds0 hk0 hk g1 g2
  obtain ⟨m5, m6⟩ := mul_bounds0 hk0 hk u1 u2
  have HE := hide (show addP (a, b, c) k (r, g, u) = (a + k * r, b + k * g, c + k * u) from rfl)
  rw [HE.out]
  clear HE
  obtain ⟨A, hA⟩ : ∃ A, k * r = A := ⟨_, rfl⟩
  obtain ⟨B, hB⟩ : ∃ B, k * g = B := ⟨_, rfl⟩
  obtain ⟨C, hC⟩ : ∃ C, k * u = C := ⟨_, rfl⟩
  rw [hA] at m1 m2
  rw [hB] at m3 m4
  rw [hC] at m5 m6
  rw [hA, hB, hC]
  go_enter Try.func113, Try.ntmps113
  go_wp2
  exact bodyPost_ret (v := .agg #[.int .i64 (a + A), .int .i64 (b + B), .int .i64 (c + C)]) (by simp [results, Try.results113, go_sem]) rfl ⟨rfl, be3 _ _ _ _⟩

/-- the nearest of so many. -/
def near (W x : Int) : Int := if x < 0 then 0 else if W ≤ x then W - 1 else x
theorem near_range (W x : Int) (h : 1 ≤ W) : 0 ≤ near W x ∧ near W x < W := by unfold near; split <;> (try split) <;> omega
theorem near_cases (W x : Int) : (x < 0 ∧ near W x = 0) ∨ (0 ≤ x ∧ W ≤ x ∧ near W x = W - 1) ∨ (0 ≤ x ∧ x < W ∧ near W x = x) := by unfold near; split <;> (try split) <;> omega

set_option maxRecDepth 100000 in
set_option maxHeartbeats 1600000 in
theorem nearest_any (W H x y : Int) (hW1 : 1 ≤ W) (hW : W ≤ 64) (hH1 : 1 ≤ H) (hH : H ≤ 64) (hx0 : -1 ≤ x) (hx1 : x ≤ 66) (hy0 : -1 ≤ y) (hy1 : y ≤ 66) (w : World) :
    Calls Try.prog 114 #[.agg #[.int .i64 W, .int .i64 H], .agg #[.int .i64 x, .int .i64 y]] w fun e w' => e = .returned (.agg #[.int .i64 (near W x), .int .i64 (near H y)]) ∧ Below w.heap.size w w' := by
  rcases near_cases W x with ⟨a1, e1⟩ | ⟨a1, a2, e1⟩ | ⟨a1, a2, e1⟩ <;> rcases near_cases H y with ⟨b1, e2⟩ | ⟨b1, b2, e2⟩ | ⟨b1, b2, e2⟩
  all_goals
    have E1 := hide e1
    have E2 := hide e2
    clear e1 e2
    go_enter Try.func114, Try.ntmps114
    go_wp2
    all_goals exact bodyPost_ret (v := .agg #[.int .i64 (near W x), .int .i64 (near H y)]) (by simp [results, Try.results114, go_sem, E1.out, E2.out]) rfl ⟨rfl, be3 _ _ _ _⟩

end Go.Proofs.Ytolcndchfnifhab

/- tone.weighedAround: what it sums up. -/
namespace Go.Proofs.Ytolcndchfnifhab
open Go.RowKit

def pxAt (ps : List Px) (j : Nat) : Px := ps.getD j (0, 0, 0)
theorem pxAt_get (ps : List Px) (i : Nat) (h : i < ps.length) : ps[i] = pxAt ps i := by simp [pxAt, List.getD_eq_getElem?_getD, List.getElem?_eq_getElem h]
theorem pxAt_ok {ps : List Px} (h : pxsOk ps = true) (j : Nat) : pxOk (pxAt ps j) = true := by
  by_cases hj : j < ps.length
  · rw [← pxAt_get ps j hj]; exact List.all_eq_true.1 h _ (List.getElem_mem hj)
  · rw [pxAt, List.getD_eq_getElem?_getD, List.getElem?_eq_none (by omega)]; rfl
/-- the place of the k-th of the eight around (X, Y), the nearest one in the plane. -/
def wIx (W H X Y : Nat) (k : Nat) : Nat := (near H ((Y : Int) - 1 + (nOf k / 3 : Nat))).toNat * W + (near W ((X : Int) - 1 + (nOf k % 3 : Nat))).toNat
def wWt (k : Nat) : Int := if nOf k % 3 = 1 ∨ nOf k / 3 = 1 then 2 else 1
/-- the sum, when these of the eight have come. -/
def wF (ps : List Px) (W H X Y : Nat) (pre : List (Fin 8)) : Px := pre.foldl (fun s x => addP s (wWt x.1) (pxAt ps (wIx W H X Y x.1))) (addP (0, 0, 0) 4 (pxAt ps (Y * W + X)))
theorem wF_snoc (ps : List Px) (W H X Y : Nat) (pre : List (Fin 8)) (x : Fin 8) : wF ps W H X Y (pre ++ [x]) = addP (wF ps W H X Y pre) (wWt x.1) (pxAt ps (wIx W H X Y x.1)) := by simp [wF]
theorem wWt_range (k : Nat) : 0 ≤ wWt k ∧ wWt k ≤ 2 := by unfold wWt; split <;> omega
theorem addP_upto {m n : Int} {s p : Px} {k : Int} (hs : pxUpto m s) (hp : pxOk p = true) (h0 : 0 ≤ k) (h1 : k ≤ n) : pxUpto (m + n) (addP s k p) := by
  obtain ⟨⟨r1, r2⟩, ⟨g1, g2⟩, u1, u2⟩ := (pxOk_iff p).1 hp
  obtain ⟨⟨s1, s2⟩, ⟨s3, s4⟩, s5, s6⟩ := hs
  obtain ⟨m1, m2⟩ := mul_bounds0 h0 h1 r1 r2
  obtain ⟨m3, m4⟩ := mul_bounds0 h0 h1 g1 g2
  obtain ⟨m5, m6⟩ := mul_bounds0 h0 h1 u1 u2
  have e : (m + n) * 65535 = m * 65535 + n * 65535 := Int.add_mul _ _ _
  refine ⟨⟨?_, ?_⟩, ⟨?_, ?_⟩, ?_, ?_⟩ <;> (simp only [addP]; omega)
theorem foldl_upto {ps : List Px} (h : pxsOk ps = true) (W H X Y : Nat) (pre : List (Fin 8)) (m : Int) (s : Px) (hs : pxUpto m s) : pxUpto (m + 2 * (pre.length : Int)) (pre.foldl (fun s x => addP s (wWt x.1) (pxAt ps (wIx W H X Y x.1))) s) := by
  induction pre generalizing m s with
  | nil => simpa using hs
  | cons x pre ih =>
    have := ih (m + 2) _ (addP_upto hs (pxAt_ok h (wIx W H X Y x.1)) (wWt_range x.1).1 (wWt_range x.1).2)
    rw [show (m + 2) + 2 * (pre.length : Int) = m + 2 * ((x :: pre).length : Int) by simp; omega] at this
    exact this
theorem wF_upto {ps : List Px} (h : pxsOk ps = true) (W H X Y : Nat) (pre : List (Fin 8)) : pxUpto (4 + 2 * (pre.length : Int)) (wF ps W H X Y pre) :=
  foldl_upto h W H X Y pre 4 _ (addP_upto (m := 0) (n := 4) (s := (0, 0, 0)) (k := 4) ⟨⟨by decide, by decide⟩, ⟨by decide, by decide⟩, by decide, by decide⟩ (pxAt_ok h (Y * W + X)) (by omega) (by omega))
theorem pxUpto_mono {m n : Int} {p : Px} (h : pxUpto m p) (hm : m ≤ n) : pxUpto n p := by
  obtain ⟨⟨s1, s2⟩, ⟨s3, s4⟩, s5, s6⟩ := h
  refine ⟨⟨s1, ?_⟩, ⟨s3, ?_⟩, s5, ?_⟩ <;> omega
theorem wIx_lt {W H : Nat} (hW : 1 ≤ W) (hH : 1 ≤ H) (X Y k : Nat) : wIx W H X Y k < H * W := by
  obtain ⟨a1, a2⟩ := near_range H ((Y : Int) - 1 + (nOf k / 3 : Nat)) (by omega)
  obtain ⟨b1, b2⟩ := near_range W ((X : Int) - 1 + (nOf k % 3 : Nat)) (by omega)
  unfold wIx
  generalize near H ((Y : Int) - 1 + (nOf k / 3 : Nat)) = a at *
  generalize near W ((X : Int) - 1 + (nOf k % 3 : Nat)) = b at *
  obtain ⟨A, rfl⟩ := Int.eq_ofNat_of_zero_le a1
  obtain ⟨B, rfl⟩ := Int.eq_ofNat_of_zero_le b1
  simp only [Int.toNat_natCast]
  have h1 : (A + 1) * W ≤ H * W := Nat.mul_le_mul_right _ (by omega)
  rw [Nat.succ_mul] at h1
  omega

end Go.Proofs.Ytolcndchfnifhab

