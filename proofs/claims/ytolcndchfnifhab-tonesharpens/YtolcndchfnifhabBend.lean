/- tone: Curve, Bend. -/
import Derived.Test.YtolcndchfnifhabCurve
import Derived.Test.YtolcndchfnifhabMixAll
namespace Go.Proofs.Ytolcndchfnifhab
open Go.RowKit

/-- what Curve answers. -/
def inTop (x : Int) : Bool := allIn 0 65535 [x]
theorem inTop_iff (x : Int) : inTop x = true ↔ 0 ≤ x ∧ x ≤ 65535 := by simp [inTop, allIn]
def curveE (ls : List Pt) (x : Int) : Int := if curveOk ls = true then (if inTop x = true then 0 else 3) else 1
def curveV (ls : List Pt) (x : Int) : Int := if curveE ls x = 0 then heightV ls x else 0

set_option maxRecDepth 100000 in
theorem curve_any (v : Value) (ls : List Pt) (x : Int) (w : World) (hv : IsPts w v ls) :
    Calls Try.prog 36 #[v, .int .i64 x] w fun e w' => e = .returned (.tuple #[.int .i64 (curveV ls x), .int .i64 (curveE ls x)]) ∧ Below w.heap.size w w' := by
  have HV := hide hv
  clear hv
  obtain ⟨E, hE⟩ : ∃ E, curveE ls x = E := ⟨_, rfl⟩
  obtain ⟨Z, hZ⟩ : ∃ Z, curveV ls x = Z := ⟨_, rfl⟩
  rw [hE, hZ]
  rw [curveV, hE] at hZ
  by_cases hc : curveOk ls = true
  · by_cases hx : inTop x = true
    · have he : E = 0 := by rw [← hE, curveE, if_pos hc, if_pos hx]
      subst he
      rw [if_pos rfl] at hZ
      have HZ := hide hZ
      obtain ⟨x0, x1⟩ := (inTop_iff x).1 hx
      have HC := hide (isCurve_of hc)
      clear hE hZ
      go_enter Try.func36, Try.ntmps36
      go_wp2_with fail
      refine (isCurve_any _ ls _ HV.out).mono ?_
      rintro e w1 ⟨rfl, hb1⟩
      rw [hc]
      go_wp2_with fail
      refine (rWithin_any 0 65535 _ [x] _ (ints1 w1 x)).mono ?_
      rintro e w2 ⟨rfl, rfl⟩
      rw [show allIn 0 65535 [x] = true from hx]
      have hb2 := bel_trans hb1 (bel_alloc w1 (Obj.cells #[.int .i64 x] 3))
      clear hc hx
      go_wp2_with fail
      refine (height_any _ ls x x0 x1 HC.out _ (HV.out.below hb2 (Nat.le_refl _))).mono ?_
      rintro e w3 ⟨rfl, hb3⟩
      go_wp2
      go_ret2
      rw [HZ.out]
      exact ⟨rfl, bel_trans hb2 hb3⟩
    · have he : E = 3 := by rw [← hE, curveE, if_pos hc, if_neg hx]
      subst he
      rw [if_neg (by decide)] at hZ
      subst hZ
      have hx : allIn 0 65535 [x] = false := by simpa [inTop] using hx
      clear hE
      go_enter Try.func36, Try.ntmps36
      go_wp2_with fail
      refine (isCurve_any _ ls _ HV.out).mono ?_
      rintro e w1 ⟨rfl, hb1⟩
      rw [hc]
      go_wp2_with fail
      refine (rWithin_any 0 65535 _ [x] _ (ints1 w1 x)).mono ?_
      rintro e w2 ⟨rfl, rfl⟩
      rw [hx]
      have hb2 := bel_trans hb1 (bel_alloc w1 (Obj.cells #[.int .i64 x] 3))
      go_wp2
      go_ret2
      exact ⟨rfl, hb2⟩
  · have he : E = 1 := by rw [← hE, curveE, if_neg hc]
    subst he
    rw [if_neg (by decide)] at hZ
    subst hZ
    have hc : curveOk ls = false := by simpa using hc
    clear hE
    go_enter Try.func36, Try.ntmps36
    go_wp2_with fail
    refine (isCurve_any _ ls _ HV.out).mono ?_
    rintro e w1 ⟨rfl, hb1⟩
    rw [hc]
    go_wp2
    go_ret2
    exact ⟨rfl, hb1⟩

/-- what Bend makes of a pixel. -/
def bendP (ls : List Pt) (p : Px) : Px := (heightV ls p.1, heightV ls p.2.1, heightV ls p.2.2)

set_option maxRecDepth 100000 in
set_option maxHeartbeats 1600000 in
theorem bend1_any (Bl : Nat) (v : Value) (ls : List Pt) (hcv : IsCurve ls) (p : Px) (hp : pxOk p = true) (V : World) (hB : Bl < V.heap.size) (hv : IsPts V v ls) (hc : V.cell? ⟨Bl, 0, none⟩ = some v) :
    Calls Try.prog 81 #[pixV p, .pointer (some ⟨Bl, 0, none⟩)] V fun e w' => e = .returned (pixV (bendP ls p)) ∧ Below V.heap.size V w' := by
  obtain ⟨⟨r1, r2⟩, ⟨g1, g2⟩, u1, u2⟩ := (pxOk_iff p).1 hp
  obtain ⟨r, g, u⟩ := p
  simp only at r1 r2 g1 g2 u1 u2
  have HB1 := be2 V (Obj.cells #[.int .i64 r, .int .i64 g, .int .i64 u] 50) (Obj.cells #[.int .i64 0, .int .i64 0, .int .i64 0] 50)
  obtain ⟨k1, k2⟩ := al2 V (Obj.cells #[.int .i64 r, .int .i64 g, .int .i64 u] 50) (Obj.cells #[.int .i64 0, .int .i64 0, .int .i64 0] 50)
  have hsU : ((V.alloc (Obj.cells #[.int .i64 r, .int .i64 g, .int .i64 u] 50)).alloc (Obj.cells #[.int .i64 0, .int .i64 0, .int .i64 0] 50)).heap.size = V.heap.size + 2 := by simp
  have HV := hide hv
  obtain ⟨ao, ca, rfl, _, _⟩ := hv
  go_enter Try.func81, Try.ntmps81
  go_wp2_with fail
  generalize (V.alloc (Obj.cells #[.int .i64 r, .int .i64 g, .int .i64 u] 50)).alloc (Obj.cells #[.int .i64 0, .int .i64 0, .int .i64 0] 50) = U at *
  have HS := hide (show ∀ w', Below U.heap.size U w' → (w'.cell? ⟨Bl, 0, none⟩ = some (.slice ao ls.length ca) ∧ w'.cell? ⟨V.heap.size, 0, none⟩ = some (.int .i64 r) ∧ w'.cell? ⟨V.heap.size, 1, none⟩ = some (.int .i64 g) ∧ w'.cell? ⟨V.heap.size, 2, none⟩ = some (.int .i64 u)) from fun w' h => by
    have hV := HB1.trans (h.mono HB1.size)
    obtain ⟨q0, q1, q2⟩ := cells3 ((h.block V.heap.size (by omega)).trans k1)
    exact ⟨(hV.cell (p := ⟨Bl, 0, none⟩) hB).trans hc, q0, q1, q2⟩)
  have HS3 := hide (show ∀ w' x y z, Below U.heap.size U w' → ((((w'.setCell ⟨V.heap.size + 1, 0, none⟩ x).setCell ⟨V.heap.size + 1, 1, none⟩ y).setCell ⟨V.heap.size + 1, 2, none⟩ z).cell? ⟨Bl, 0, none⟩ = some (.slice ao ls.length ca) ∧ (((w'.setCell ⟨V.heap.size + 1, 0, none⟩ x).setCell ⟨V.heap.size + 1, 1, none⟩ y).setCell ⟨V.heap.size + 1, 2, none⟩ z).cell? ⟨V.heap.size, 0, none⟩ = some (.int .i64 r) ∧ (((w'.setCell ⟨V.heap.size + 1, 0, none⟩ x).setCell ⟨V.heap.size + 1, 1, none⟩ y).setCell ⟨V.heap.size + 1, 2, none⟩ z).cell? ⟨V.heap.size, 1, none⟩ = some (.int .i64 g) ∧ (((w'.setCell ⟨V.heap.size + 1, 0, none⟩ x).setCell ⟨V.heap.size + 1, 1, none⟩ y).setCell ⟨V.heap.size + 1, 2, none⟩ z).cell? ⟨V.heap.size, 2, none⟩ = some (.int .i64 u)) from fun w' x y z h => by
    have hh := HS.out w' h
    have e1 : Bl ≠ V.heap.size + 1 := by omega
    have e5 : V.heap.size ≠ V.heap.size + 1 := by omega
    rw [set3_cell _ _ _ e1, set3_cell _ _ _ e5, set3_cell _ _ _ e5, set3_cell _ _ _ e5]
    exact hh)
  have HH := hide (show ∀ w' x, Below U.heap.size U w' → 0 ≤ x → x ≤ 65535 → Calls Try.prog 82 #[.slice ao ls.length ca, .int .i64 x] w' fun e w'' => e = .returned (.int .i64 (heightV ls x)) ∧ Below U.heap.size U w'' ∧ (w''.cell? ⟨V.heap.size + 1, 0, none⟩ = some (.int .i64 0) ∧ w''.cell? ⟨V.heap.size + 1, 1, none⟩ = some (.int .i64 0) ∧ w''.cell? ⟨V.heap.size + 1, 2, none⟩ = some (.int .i64 0)) ∧ w''.frozen? ⟨V.heap.size + 1, 0, none⟩ = false ∧ w''.frozen? ⟨V.heap.size + 1, 1, none⟩ = false ∧ w''.frozen? ⟨V.heap.size + 1, 2, none⟩ = false from fun w' x h hx0 hx1 =>
    (height_any _ ls x hx0 hx1 hcv w' (HV.out.below (HB1.trans (h.mono HB1.size)) (Nat.le_refl _))).mono fun e w'' h2 => by
      have h3 := h.trans (h2.2.mono h.size)
      have hn := (h3.block (V.heap.size + 1) (by omega)).trans k2
      exact ⟨h2.1, h3, cells3 hn, Lib.frozen_of_heap hn 0, Lib.frozen_of_heap hn 1, Lib.frozen_of_heap hn 2⟩)
  have HFIN := hide (show ∀ w' x y z, Below U.heap.size U w' → Below V.heap.size V (((w'.setCell ⟨V.heap.size + 1, 0, none⟩ x).setCell ⟨V.heap.size + 1, 1, none⟩ y).setCell ⟨V.heap.size + 1, 2, none⟩ z) from fun w' x y z h => set3_below (HB1.trans (h.mono HB1.size)) (by omega) x y z)
  have hdrew : Below U.heap.size U U.drew := (Below.refl _ _).drew
  clear k1 k2 hc
  go_region_held3 (fun w' => (w'.cell? ⟨Bl, 0, none⟩ = some (.slice ao ls.length ca) ∧ w'.cell? ⟨V.heap.size, 0, none⟩ = some (.int .i64 r) ∧ w'.cell? ⟨V.heap.size, 1, none⟩ = some (.int .i64 g) ∧ w'.cell? ⟨V.heap.size, 2, none⟩ = some (.int .i64 u)))
    (first | (refine HS.out _ ?_; assumption) | (refine HS3.out _ _ _ _ ?_; assumption))
    (first
      | (go_at_call 82; refine (HH.out _ _ ?_ ?_ ?_).mono ?_; assumption; assumption; assumption; rintro e wx ⟨rfl, hN, ⟨z0, z1, z2⟩, f0, f1, f2⟩))
  all_goals
    go_wp2
    exact bodyPost_ret (v := .agg #[.int .i64 (heightV ls r), .int .i64 (heightV ls g), .int .i64 (heightV ls u)]) (by simp [results, Try.results81, go_sem, z0, z1, z2]) rfl ⟨rfl, HFIN.out _ _ _ _ (by assumption)⟩

/-- what Bend answers. -/
def bendE (W H : Int) (ps : List Px) (ls : List Pt) : Int := if picOk W H ps = true ∧ curveOk ls = true then 0 else 1

set_option maxRecDepth 100000 in
set_option maxHeartbeats 1600000 in
theorem bend_any (W H : Int) (v : Value) (ps : List Px) (vl : Value) (ls : List Pt) (w : World) (hv : IsPix w v ps) (hvl : IsPts w vl ls) :
    Calls Try.prog 35 #[.agg #[.int .i64 W, .int .i64 H, v], vl] w fun e w' => ∃ r, e = .returned (.tuple #[.agg #[.int .i64 (okW (bendE W H ps ls) W), .int .i64 (okW (bendE W H ps ls) H), r], .int .i64 (bendE W H ps ls)]) ∧ IsPix w' r (okL (bendE W H ps ls) (ps.map (bendP ls))) ∧ Below w.heap.size w w' ∧ Fresh w.heap.size r := by
  have HV := hide hv
  have HL := hide hvl
  obtain ⟨ao, ca, rfl, hla, hc⟩ := hv
  obtain ⟨lo, lc, rfl, _, _⟩ := hvl
  obtain ⟨E, hE⟩ : ∃ E, bendE W H ps ls = E := ⟨_, rfl⟩
  rw [hE]
  by_cases hp : picOk W H ps = true
  · by_cases hm : curveOk ls = true
    · have he : E = 0 := by rw [← hE, bendE, if_pos ⟨hp, hm⟩]
      subst he
      clear hE
      have HCV := hide (isCurve_of hm)
      obtain ⟨⟨w1, w2⟩, ⟨h1, h2⟩, hl, hpx⟩ := picOk_parts hp
      obtain ⟨WN, rfl⟩ := Int.eq_ofNat_of_zero_le (show 0 ≤ W by omega)
      obtain ⟨HN, rfl⟩ := Int.eq_ofNat_of_zero_le (show 0 ≤ H by omega)
      have HLEN := hide (show ps.length = HN * WN by rw [Nat.mul_comm]; exact_mod_cast hl)
      have HPX := hide hpx
      clear hl hpx
      go_enter Try.func35, Try.ntmps35
      go_wp2_with fail
      obtain ⟨a1, a2, a3⟩ := al3 w (Obj.cells #[.int .i64 (WN : Nat), .int .i64 (HN : Nat), .slice ao ps.length ca] 39) (Obj.cells #[.slice lo ls.length lc] 58) (Obj.cells #[.int .i64 0, .int .i64 0, .slice none 0 0] 39)
      have hB := be3 w (Obj.cells #[.int .i64 (WN : Nat), .int .i64 (HN : Nat), .slice ao ps.length ca] 39) (Obj.cells #[.slice lo ls.length lc] 58) (Obj.cells #[.int .i64 0, .int .i64 0, .slice none 0 0] 39)
      have hs3 : (((w.alloc (Obj.cells #[.int .i64 (WN : Nat), .int .i64 (HN : Nat), .slice ao ps.length ca] 39)).alloc (Obj.cells #[.slice lo ls.length lc] 58)).alloc (Obj.cells #[.int .i64 0, .int .i64 0, .slice none 0 0] 39)).heap.size = w.heap.size + 3 := by simp
      generalize ((w.alloc (Obj.cells #[.int .i64 (WN : Nat), .int .i64 (HN : Nat), .slice ao ps.length ca] 39)).alloc (Obj.cells #[.slice lo ls.length lc] 58)).alloc (Obj.cells #[.int .i64 0, .int .i64 0, .slice none 0 0] 39) = U at *
      refine (picture_any WN HN _ ps _ (HV.out.below hB (Nat.le_refl _))).mono ?_
      rintro e w1 ⟨rfl, hb1⟩
      rw [hp]
      have g1 := (hb1.block (w.heap.size) (by omega)).trans a1
      have g2 := (hb1.block (w.heap.size + 1) (by omega)).trans a2
      have g3 := (hb1.block (w.heap.size + 1 + 1) (by omega)).trans a3
      have l0 : w1.cell? ⟨w.heap.size + 1, 0, none⟩ = some (.slice lo ls.length lc) := by rw [Lib.cell_of_heap g2]; rfl
      go_wp2_with fail
      refine (isCurve_any _ ls _ (HL.out.below (hB.trans (hb1.mono hB.size)) (Nat.le_refl _))).mono ?_
      rintro e w2 ⟨rfl, hb2⟩
      rw [hm]
      clear l0
      replace hb2 := bel_trans hb1 hb2
      replace g1 := (hb2.block (w.heap.size) (by omega)).trans a1
      replace g2 := (hb2.block (w.heap.size + 1) (by omega)).trans a2
      replace g3 := (hb2.block (w.heap.size + 1 + 1) (by omega)).trans a3
      obtain ⟨p0, p1, p2⟩ := cells3 g1
      go_wp2_with fail
      refine (each_any WN HN (by omega) (by omega) _ ps HLEN.out 81 #[.pointer (some ⟨w.heap.size + 1, 0, none⟩)] (bendP ls) _ (HV.out.below (hB.trans (hb2.mono hB.size)) (Nat.le_refl _)) (enters_of Try.func81 (by kernel_rfl) rfl) ?_).mono ?_
      · intro j hj V hV
        have hb3 := bel_trans hb2 hV
        have g2' := (hb3.block (w.heap.size + 1) (by omega)).trans a2
        exact bend1_any (w.heap.size + 1) _ ls HCV.out ps[j] (List.all_eq_true.1 HPX.out _ (List.getElem_mem hj)) V (by have := hb3.size; omega) (HL.out.below (hB.trans (hb3.mono hB.size)) (Nat.le_refl _)) (by rw [Lib.cell_of_heap g2']; rfl)
      · rintro e w3 ⟨r, rfl, hr, hb3, hfr⟩
        clear p0 p1 p2
        replace hb3 := bel_trans hb2 hb3
        replace g3 := (hb3.block (w.heap.size + 1 + 1) (by omega)).trans a3
        have hs2 := hb2.size
        obtain ⟨z0, z1, z2⟩ := cells3 g3
        have f0 := Lib.frozen_of_heap g3 0
        have f1 := Lib.frozen_of_heap g3 1
        have f2 := Lib.frozen_of_heap g3 2
        have HR := hide hr
        obtain ⟨ro, rc, rfl, _, _⟩ := hr
        have HFIN := hide (set3_below (hB.trans (hb3.mono hB.size)) (show w.heap.size ≤ w.heap.size + 1 + 1 by omega) (.int .i64 (WN : Nat)) (.int .i64 (HN : Nat)) (.slice ro (ps.map (bendP ls)).length rc))
        have HPX2 := hide (HR.out.set3 hfr (show w.heap.size + 1 + 1 < w2.heap.size by omega) (.int .i64 (WN : Nat)) (.int .i64 (HN : Nat)) (.slice ro (ps.map (bendP ls)).length rc))
        rw [List.length_map] at HPX2 HFIN hfr
        go_wp2
        exact bodyPost_ret (v := .tuple #[.agg #[.int .i64 (WN : Nat), .int .i64 (HN : Nat), .slice ro ps.length rc], .int .i64 0]) (by simp [results, Try.results35, go_sem, z0, z1, z2]) rfl ⟨_, rfl, HPX2.out, HFIN.out, hfr.mono (by omega)⟩
    · have he : E = 1 := by rw [← hE, bendE, if_neg (fun h => hm h.2)]
      have hm : curveOk ls = false := by simpa using hm
      subst he
      clear hE
      go_enter Try.func35, Try.ntmps35
      go_wp2_with fail
      obtain ⟨a1, a2, a3⟩ := al3 w (Obj.cells #[.int .i64 W, .int .i64 H, .slice ao ps.length ca] 39) (Obj.cells #[.slice lo ls.length lc] 58) (Obj.cells #[.int .i64 0, .int .i64 0, .slice none 0 0] 39)
      have hB := be3 w (Obj.cells #[.int .i64 W, .int .i64 H, .slice ao ps.length ca] 39) (Obj.cells #[.slice lo ls.length lc] 58) (Obj.cells #[.int .i64 0, .int .i64 0, .slice none 0 0] 39)
      have hs3 : (((w.alloc (Obj.cells #[.int .i64 W, .int .i64 H, .slice ao ps.length ca] 39)).alloc (Obj.cells #[.slice lo ls.length lc] 58)).alloc (Obj.cells #[.int .i64 0, .int .i64 0, .slice none 0 0] 39)).heap.size = w.heap.size + 3 := by simp
      generalize ((w.alloc (Obj.cells #[.int .i64 W, .int .i64 H, .slice ao ps.length ca] 39)).alloc (Obj.cells #[.slice lo ls.length lc] 58)).alloc (Obj.cells #[.int .i64 0, .int .i64 0, .slice none 0 0] 39) = U at *
      refine (picture_any W H _ ps _ (HV.out.below hB (Nat.le_refl _))).mono ?_
      rintro e w1 ⟨rfl, hb1⟩
      rw [hp]
      have g1 := (hb1.block (w.heap.size) (by omega)).trans a1
      have g2 := (hb1.block (w.heap.size + 1) (by omega)).trans a2
      have g3 := (hb1.block (w.heap.size + 1 + 1) (by omega)).trans a3
      have l0 : w1.cell? ⟨w.heap.size + 1, 0, none⟩ = some (.slice lo ls.length lc) := by rw [Lib.cell_of_heap g2]; rfl
      go_wp2_with fail
      refine (isCurve_any _ ls _ (HL.out.below (hB.trans (hb1.mono hB.size)) (Nat.le_refl _))).mono ?_
      rintro e w2 ⟨rfl, hb2⟩
      rw [hm]
      clear l0
      replace hb2 := bel_trans hb1 hb2
      replace g1 := (hb2.block (w.heap.size) (by omega)).trans a1
      replace g2 := (hb2.block (w.heap.size + 1) (by omega)).trans a2
      replace g3 := (hb2.block (w.heap.size + 1 + 1) (by omega)).trans a3
      obtain ⟨z0, z1, z2⟩ := cells3 g3
      have f0 := Lib.frozen_of_heap g3 0
      have f1 := Lib.frozen_of_heap g3 1
      have f2 := Lib.frozen_of_heap g3 2
      have HBL := hb2
      have HFIN := hide (set3_below (hB.trans (HBL.mono hB.size)) (show w.heap.size ≤ w.heap.size + 1 + 1 by omega) (.int .i64 0) (.int .i64 0) (.slice none 0 0))
      go_wp2
      exact bodyPost_ret (v := .tuple #[.agg #[.int .i64 0, .int .i64 0, .slice none 0 0], .int .i64 1]) (by simp [results, Try.results35, go_sem, z0, z1, z2]) rfl ⟨.slice none 0 0, rfl, IsPix.nil _, HFIN.out, Fresh.nil _⟩
  · have he : E = 1 := by rw [← hE, bendE, if_neg (fun h => hp h.1)]
    have hp : picOk W H ps = false := by simpa using hp
    subst he
    clear hE
    go_enter Try.func35, Try.ntmps35
    go_wp2_with fail
    obtain ⟨a1, a2, a3⟩ := al3 w (Obj.cells #[.int .i64 W, .int .i64 H, .slice ao ps.length ca] 39) (Obj.cells #[.slice lo ls.length lc] 58) (Obj.cells #[.int .i64 0, .int .i64 0, .slice none 0 0] 39)
    have hB := be3 w (Obj.cells #[.int .i64 W, .int .i64 H, .slice ao ps.length ca] 39) (Obj.cells #[.slice lo ls.length lc] 58) (Obj.cells #[.int .i64 0, .int .i64 0, .slice none 0 0] 39)
    have hs3 : (((w.alloc (Obj.cells #[.int .i64 W, .int .i64 H, .slice ao ps.length ca] 39)).alloc (Obj.cells #[.slice lo ls.length lc] 58)).alloc (Obj.cells #[.int .i64 0, .int .i64 0, .slice none 0 0] 39)).heap.size = w.heap.size + 3 := by simp
    generalize ((w.alloc (Obj.cells #[.int .i64 W, .int .i64 H, .slice ao ps.length ca] 39)).alloc (Obj.cells #[.slice lo ls.length lc] 58)).alloc (Obj.cells #[.int .i64 0, .int .i64 0, .slice none 0 0] 39) = U at *
    refine (picture_any W H _ ps _ (HV.out.below hB (Nat.le_refl _))).mono ?_
    rintro e w1 ⟨rfl, hb1⟩
    rw [hp]
    have g1 := (hb1.block (w.heap.size) (by omega)).trans a1
    have g2 := (hb1.block (w.heap.size + 1) (by omega)).trans a2
    have g3 := (hb1.block (w.heap.size + 1 + 1) (by omega)).trans a3
    obtain ⟨z0, z1, z2⟩ := cells3 g3
    have f0 := Lib.frozen_of_heap g3 0
    have f1 := Lib.frozen_of_heap g3 1
    have f2 := Lib.frozen_of_heap g3 2
    have HBL := hb1
    have HFIN := hide (set3_below (hB.trans (HBL.mono hB.size)) (show w.heap.size ≤ w.heap.size + 1 + 1 by omega) (.int .i64 0) (.int .i64 0) (.slice none 0 0))
    go_wp2
    exact bodyPost_ret (v := .tuple #[.agg #[.int .i64 0, .int .i64 0, .slice none 0 0], .int .i64 1]) (by simp [results, Try.results35, go_sem, z0, z1, z2]) rfl ⟨.slice none 0 0, rfl, IsPix.nil _, HFIN.out, Fresh.nil _⟩

end Go.Proofs.Ytolcndchfnifhab
