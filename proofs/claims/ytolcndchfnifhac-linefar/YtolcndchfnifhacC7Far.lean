/- Far: part 7 of what the proofs need. -/
import Derived.Test.YtolcndchfnifhacC2Far
import Derived.Test.YtolcndchfnifhacC6Far
import Derived.Deep.CutRange
namespace Go.Proofs.Ytolcndchfnifhac
set_option linter.unusedVariables false
open Go.RowKit
theorem rowsL_at (ps : List Px) (W top many j : Nat) (hj : j < many * W) (hl : (top + many) * W ≤ ps.length) : pxAt (rowsL ps W top many) j = pxAt ps (top * W + j) := by
  unfold rowsL pxAt
  rw [List.getD_eq_getElem?_getD, List.getD_eq_getElem?_getD, List.getElem?_take_of_lt hj, List.getElem?_drop]
theorem rowsL_length {α : Type} (ps : List α) (W top many : Nat) (hl : (top + many) * W ≤ ps.length) : (rowsL ps W top many).length = many * W := by
  unfold rowsL
  rw [List.length_take, List.length_drop]
  rw [Nat.add_mul] at hl
  omega
theorem sub_cells {w : World} {b off : Nat} {ps : List Px} {W top many : Nat} (hc : ∀ j (h : j < ps.length), w.cell? ⟨b, off + j * 3, none⟩ = some (.int .i64 ps[j].1) ∧ w.cell? ⟨b, off + j * 3 + 1, none⟩ = some (.int .i64 ps[j].2.1) ∧ w.cell? ⟨b, off + j * 3 + 2, none⟩ = some (.int .i64 ps[j].2.2)) (hl : (top + many) * W ≤ ps.length) :
    ∀ j, j < many * W → w.cell? ⟨b, off + top * W * 3 + j * 3, none⟩ = some (.int .i64 (pxAt (rowsL ps W top many) j).1) ∧ w.cell? ⟨b, off + top * W * 3 + j * 3 + 1, none⟩ = some (.int .i64 (pxAt (rowsL ps W top many) j).2.1) ∧ w.cell? ⟨b, off + top * W * 3 + j * 3 + 2, none⟩ = some (.int .i64 (pxAt (rowsL ps W top many) j).2.2) := by
  intro j hj
  rw [rowsL_at ps W top many j hj hl]
  have hlt : top * W + j < ps.length := by rw [Nat.add_mul] at hl; omega
  have h := hc (top * W + j) hlt
  rw [pxAt_get ps _ hlt] at h
  rw [show off + top * W * 3 + j * 3 = off + (top * W + j) * 3 by omega]
  exact h
theorem ints3p (w : World) (a b c : Int) : IsInts (w.alloc (.cells #[.int .i64 a, .int .i64 b, .int .i64 c] 3)) (.slice (some ⟨w.heap.size, 0, none⟩) 3 3) [a, b, c] :=
  IsInts.own (base := w.heap.size) (World.ownsRow_lit w #[.int .i64 a, .int .i64 b, .int .i64 c] 3 (Nat.le_refl _) (by decide) (by simp)) (by simp)
set_option maxRecDepth 100000 in
set_option maxHeartbeats 6400000 in
theorem linePart_any (n : Plan) (sv cv : Value) (W H : Int) (v : Value) (zs : List Int) (top height fm tm : Int) (w : World) (hp : IsPlan w n sv cv) (hv : IsInts w v zs) :
    Calls Try.prog 12 #[.agg (planA n sv cv), .agg #[.int .i64 W, .int .i64 H, v], .int .i64 top, .int .i64 height, .int .i64 fm, .int .i64 tm] w fun e w' => ∃ r, e = .returned (.tuple #[.agg #[.int .i64 (okW (partE n W H zs top height fm tm) W), .int .i64 (okW (partE n W H zs top height fm tm) (tm - fm)), r], .int .i64 (partE n W H zs top height fm tm)]) ∧ IsPix w' r (okL (partE n W H zs top height fm tm) (partL n W H zs top fm tm)) ∧ Below w.heap.size w w' ∧ Fresh w.heap.size r := by
  have HP := hide hp
  have HV := hide hv
  have HFI := hide (fun (u : World) (hu : Below w.heap.size w u) => fits_any n sv cv W H v zs height u (HP.out.below hu (Nat.le_refl _)) (HV.out.below hu (Nat.le_refl _)))
  obtain ⟨⟨lo, lc, rfl, hll, _⟩, ⟨ko, kc, rfl, hkl, _⟩⟩ := hp
  obtain ⟨ao, ca, rfl, _, _⟩ := hv
  obtain ⟨a1, a2, a3⟩ := al3 w (Obj.cells (planA n (.slice lo n.spots.length lc) (.slice ko n.curve.length kc)) 28) (Obj.cells #[.int .i64 W, .int .i64 H, .slice ao zs.length ca] 31) (Obj.cells #[.int .i64 0, .int .i64 0, .slice none 0 0] 34)
  have HB := hide (be3 w (Obj.cells (planA n (.slice lo n.spots.length lc) (.slice ko n.curve.length kc)) 28) (Obj.cells #[.int .i64 W, .int .i64 H, .slice ao zs.length ca] 31) (Obj.cells #[.int .i64 0, .int .i64 0, .slice none 0 0] 34))
  have HPE := hide (show partE n W H zs top height fm tm = if fitsE n W H zs height = 0 then (if partOk H top height fm tm = true then 0 else 3) else fitsE n W H zs height from rfl)
  obtain ⟨E, hE⟩ : ∃ E, partE n W H zs top height fm tm = E := ⟨_, rfl⟩
  rw [hE] at HPE ⊢
  clear hE
  obtain ⟨F, hF0⟩ : ∃ F, fitsE n W H zs height = F := ⟨_, rfl⟩
  have HF0 := hide hF0
  rw [hF0] at HFI HPE
  clear hF0
  obtain ⟨p0, p1, p2⟩ := cells3 a2
  go_enter Try.func12, Try.ntmps12
  go_wp2_with (refine wpList_load_row rfl 28 _ rfl _ rfl _ _ _ _ a1 Try.underlying28 rfl (by kernel_rfl) ?_)
  clear p0 p1 p2
  have hl1 := (Array.getElem?_eq_some_iff.1 a1).1
  have hl2 := (Array.getElem?_eq_some_iff.1 a2).1
  have hl3 := (Array.getElem?_eq_some_iff.1 a3).1
  generalize ((w.alloc (Obj.cells (planA n (.slice lo n.spots.length lc) (.slice ko n.curve.length kc)) 28)).alloc (Obj.cells #[.int .i64 W, .int .i64 H, .slice ao zs.length ca] 31)).alloc (Obj.cells #[.int .i64 0, .int .i64 0, .slice none 0 0] 34) = U at *
  refine (HFI.out _ HB.out).mono ?_
  rintro e w1 ⟨rfl, hb1⟩
  have HB1 := hide (HB.out.trans (hb1.mono HB.out.size))
  have HERR := hide (show ∀ (V : World), Below U.heap.size U V → V.cell? ⟨w.heap.size + 1 + 1, 0, none⟩ = some (.int .i64 0) ∧ V.cell? ⟨w.heap.size + 1 + 1, 1, none⟩ = some (.int .i64 0) ∧ V.cell? ⟨w.heap.size + 1 + 1, 2, none⟩ = some (.slice none 0 0) ∧ V.frozen? ⟨w.heap.size + 1 + 1, 0, none⟩ = false ∧ V.frozen? ⟨w.heap.size + 1 + 1, 1, none⟩ = false ∧ V.frozen? ⟨w.heap.size + 1 + 1, 2, none⟩ = false ∧ Below w.heap.size w (((V.setCell ⟨w.heap.size + 1 + 1, 0, none⟩ (.int .i64 0)).setCell ⟨w.heap.size + 1 + 1, 1, none⟩ (.int .i64 0)).setCell ⟨w.heap.size + 1 + 1, 2, none⟩ (.slice none 0 0)) from fun V hV => by
    have g3 := (hV.block _ hl3).trans a3
    obtain ⟨z0, z1, z2⟩ := cells3 (b := w.heap.size + 1 + 1) g3
    exact ⟨z0, z1, z2, Lib.frozen_of_heap (b := w.heap.size + 1 + 1) g3 0, Lib.frozen_of_heap (b := w.heap.size + 1 + 1) g3 1, Lib.frozen_of_heap (b := w.heap.size + 1 + 1) g3 2, set3_below (HB.out.trans (hV.mono HB.out.size)) (show w.heap.size ≤ w.heap.size + 1 + 1 by omega) _ _ _⟩)
  by_cases hF : F = 0
  · have HF1 := hide (HF0.out.trans hF)
    subst hF
    rw [if_pos rfl] at HPE
    obtain ⟨hpl0, hpok, hspt⟩ := fitsE_zero HF1.out
    obtain ⟨hW, hH, hlen0, _⟩ := planeOk_parts hpok
    have hsm := side_mul hW hH
    obtain ⟨p0, p1, p2⟩ := cells3 ((hb1.block _ hl2).trans a2)
    have h3of : ¬ (partOk H top height fm tm = true) → E = 3 := fun h => by rw [HPE.out, if_neg h]
    have H3 := hide h3of
    clear h3of
    by_cases hs1 : 1 ≤ height ∧ height ≤ 64
    · have hsd : sideOk height = true := by simpa [sideOk] using hs1
      by_cases hs2 : (0 ≤ top ∧ top ≤ height) ∧ (0 ≤ fm ∧ fm ≤ height) ∧ (0 ≤ tm ∧ tm ≤ height)
      · have hin : allIn 0 height [top, fm, tm] = true := by simpa [allIn] using hs2
        by_cases hs3 : fm < tm
        · have hd3 : decide (tm ≤ fm) = false := by simp; omega
          by_cases hs4 : top + H ≤ height
          · have hd4 : decide (height < top + H) = false := by simp; omega
            have hw4 : IntKind.i64.wrap (top + H) = top + H := IntWalk.i64_in _ (by omega)
            obtain ⟨TN, hTN⟩ := Int.eq_ofNat_of_zero_le hs2.1.1
            obtain ⟨FN, hFN⟩ := Int.eq_ofNat_of_zero_le hs2.2.1.1
            obtain ⟨TO, hTO⟩ := Int.eq_ofNat_of_zero_le hs2.2.2.1
            obtain ⟨GN, hGN⟩ := Int.eq_ofNat_of_zero_le (show 0 ≤ height by omega)
            have HTN := hide hTN
            have HFN := hide hFN
            have HTO := hide hTO
            have HGN := hide hGN
            have HNE := hide (fun u => needed_any FN TO GN (by omega) (by omega) (by omega) u)
            rw [← hFN, ← hTO, ← hGN] at HNE
            have hnA : ((needA FN : Nat) : Int) = max 0 (fm - 4) := by unfold needA; omega
            have hnB : ((needB TO GN : Nat) : Int) = min height (tm + 4) := by unfold needB; omega
            obtain ⟨NA, hNA⟩ : ∃ NA, needA FN = NA := ⟨_, rfl⟩
            obtain ⟨NB, hNB⟩ : ∃ NB, needB TO GN = NB := ⟨_, rfl⟩
            rw [hNA] at HNE hnA
            rw [hNB] at HNE hnB
            have HnA := hide hnA
            have HnB := hide hnB
            clear hNA hNB hTN hFN hTO hGN hnA hnB
            go_wp2_with fail
            refine (side_any height _).mono ?_
            rintro e w2 ⟨rfl, hb2⟩
            rw [hsd]
            have hb3 := bel_trans hb1 hb2
            obtain ⟨x0, x1, x2⟩ := cells3 (((bel_trans hb3 (bel_alloc w2 (Obj.cells #[.int .i64 top, .int .i64 fm, .int .i64 tm] 3))).block _ hl2).trans a2)
            have hbV := bel_trans hb3 (bel_alloc w2 (Obj.cells #[.int .i64 top, .int .i64 fm, .int .i64 tm] 3))
            have hI3 := ints3p w2 top fm tm
            clear p0 p1 p2
            go_wp2_with fail
            refine (rWithin_any 0 height _ [top, fm, tm] _ hI3).mono ?_
            rintro e w3 ⟨rfl, rfl⟩
            rw [hin]
            generalize w2.alloc (Obj.cells #[.int .i64 top, .int .i64 fm, .int .i64 tm] 3) = w3 at *
            go_wp2_with fail
            refine (HNE.out _).mono ?_
            rintro e w4 ⟨rfl, rfl⟩
            by_cases hs5 : top ≤ (NA : Int)
            · have hd5 : decide ((NA : Int) < top) = false := by simp; omega
              by_cases hs6 : (NB : Int) ≤ top + H
              · have hd6 : decide (top + H < (NB : Int)) = false := by simp; omega
                have hok : partOk H top height fm tm = true := decide_eq_true ⟨hs1, hs2.1, hs2.2.1, hs2.2.2, hs3, hs4, by rw [← HnA.out]; exact hs5, by rw [← HnB.out]; exact hs6⟩
                have he : E = 0 := by rw [HPE.out, if_pos hok]
                subst he
                obtain ⟨HN, hHN⟩ := Int.eq_ofNat_of_zero_le (show 0 ≤ H by omega)
                obtain ⟨WN, hWN⟩ := Int.eq_ofNat_of_zero_le (show 0 ≤ W by omega)
                have HHN := hide hHN
                have HWN := hide hWN
                have HLEN := hide (show zs.length = HN * WN by rw [Nat.mul_comm]; rw [hWN, hHN] at hlen0; exact_mod_cast hlen0)
                have HDK := hide (devOk_moved (TP := TN) (HN := HN) hpl0 hpok hspt hHN.symm)
                obtain ⟨hph, _, _, _, _, hmany, hs64, _⟩ := planE_zero hpl0
                have hph2 : 0 ≤ n.phase ∧ n.phase ≤ 3 := by simpa [phaseOk] using hph
                have HMV := hide (fun (u : World) (hu : Below w.heap.size w u) => moved_any n _ _ TN HN (by have := HTN.out; omega) (by omega) hph2 (by omega) hs64 u (HP.out.below hu (Nat.le_refl _)))
                rw [← HTN.out, ← hHN] at HMV
                have HDV := hide (fun (rv : Value) (u : World) (hu : Below w.heap.size w u) (hpl : IsPlan u (movedP n TN HN) rv (.slice ko n.curve.length kc)) => develop_any (movedP n TN HN) rv _ W H _ zs u hpl (spotsB_wf HDK.out.spots hW.2 hH.2) (HV.out.below hu (Nat.le_refl _)) HDK.out)
                have HPT := hide (show partL n W H zs top fm tm = rowsL (dev7 (movedP n TN HN) W H zs) WN (FN - TN) (TO - FN) by
                  unfold partL
                  rw [HTN.out, HFN.out, HTO.out, hHN, hWN]
                  simp only [Int.toNat_natCast]
                  rw [show ((FN : Int) - (TN : Int)).toNat = FN - TN by omega, show ((TO : Int) - (FN : Int)).toNat = TO - FN by omega])
                have HDL := hide (dev7_length (movedP n TN HN) W H zs)
                obtain ⟨D, hD⟩ : ∃ D, dev7 (movedP n TN HN) W H zs = D := ⟨_, rfl⟩
                rw [hD] at HDV HPT HDL
                clear hD hHN hWN hph hph2 hmany hs64 hpl0 hpok hspt hlen0
                have HS := hide (show ∀ v, Below U.heap.size U v → v.cell? ⟨w.heap.size + 1, 0, none⟩ = some (.int .i64 W) ∧ v.cell? ⟨w.heap.size + 1, 1, none⟩ = some (.int .i64 H) ∧ v.cell? ⟨w.heap.size + 1, 2, none⟩ = some (.slice ao zs.length ca) ∧ v.heap[w.heap.size]? = some (.cells (planA n (.slice lo n.spots.length lc) (.slice ko n.curve.length kc)) 28 (0, 0)) from fun v h => by
                  obtain ⟨y0, y1, y2⟩ := cells3 ((h.block _ hl2).trans a2)
                  exact ⟨y0, y1, y2, (h.block _ hl1).trans a1⟩)
                have hsU3 := hbV.size
                go_upto_region 9 with fail
                clear x0 x1 x2
                go_cut [17, 18] from 73 (fun q e v => ∃ QX ro rc, q = .pointer (some ⟨QX, 0, none⟩) ∧ e = .int .i64 0 ∧ v.heap[QX]? = some (.cells #[.int .i64 W, .int .i64 H, .slice ro D.length rc] 34 (0, 0)) ∧ IsPix v (.slice ro D.length rc) D ∧ D.length ≤ rc ∧ U.heap.size ≤ QX ∧ Below U.heap.size U v)
                case first =>
                  have hWd : Below U.heap.size U w3.drew := hbV.drew
                  have hSd := HS.out _ hWd
                  have hmx : Try.prog.follows .mixedOrders = true := by kernel_rfl
                  refine wp_region_last (S := fun v : World => v.cell? ⟨w.heap.size + 1, 0, none⟩ = some (.int .i64 W) ∧ v.cell? ⟨w.heap.size + 1, 1, none⟩ = some (.int .i64 H) ∧ v.cell? ⟨w.heap.size + 1, 2, none⟩ = some (.slice ao zs.length ca) ∧ v.heap[w.heap.size]? = some (.cells (planA n (.slice lo n.spots.length lc) (.slice ko n.curve.length kc)) 28 (0, 0))) (f := 12) hmx ?_
                  show wpAnyF _ _ _ _ _ _ 13 _ _ w3.drew
                  refine wpAnyF_takeD (i := 0) (oi := _) (v := .agg (planA n (.slice lo n.spots.length lc) (.slice ko n.curve.length kc))) (some 74) rfl rfl (by kernel_rfl) (by kernel_rfl) (by kernel_rfl) (by kernel_rfl) (by kernel_rfl) (fun _ _ _ h => h) (Or.inl ⟨by rfl, ?yy1⟩) hSd ?rr1
                  case yy1 => (intro wq hSq; exact exec_load_row 28 _ rfl _ rfl _ _ _ _ hSq.2.2.2 Try.underlying28 rfl (by kernel_rfl))
                  simp only [Act.put, List.setIfInBounds_toArray, List.set_cons_succ, List.set_cons_zero]
                  refine wpAnyF_takeD (i := 1) (oi := _) (v := ?vv2) (some 75) rfl rfl (by kernel_rfl) (by kernel_rfl) (by kernel_rfl) (by kernel_rfl) (by kernel_rfl) (fun _ _ _ h => h) (Or.inl ⟨by rfl, ?yy2⟩) hSd ?rr2
                  case yy2 => (intro wq hSq; obtain ⟨_, _, _, _⟩ := hSq; go_simp <;> with_reducible rfl)
                  simp only [Act.put, List.setIfInBounds_toArray, List.set_cons_succ, List.set_cons_zero]
                  refine wpAnyF_takeD (i := 2) (oi := _) (v := ?vv3) (some 76) rfl rfl (by kernel_rfl) (by kernel_rfl) (by kernel_rfl) (by kernel_rfl) (by kernel_rfl) (fun _ _ _ h => h) (Or.inl ⟨by rfl, ?yy3⟩) hSd ?rr3
                  case yy3 => (intro wq hSq; obtain ⟨_, _, _, _⟩ := hSq; go_simp <;> with_reducible rfl)
                  simp only [Act.put, List.setIfInBounds_toArray, List.set_cons_succ, List.set_cons_zero]
                  refine wpAnyF_takeD (i := 5) (oi := _) (v := ?vv4) (some 79) rfl rfl (by kernel_rfl) (by kernel_rfl) (by kernel_rfl) (by kernel_rfl) (by kernel_rfl) (fun _ _ _ h => h) (Or.inl ⟨by rfl, ?yy4⟩) hSd ?rr4
                  case yy4 => (intro wq hSq; obtain ⟨_, _, _, _⟩ := hSq; go_simp <;> with_reducible rfl)
                  simp only [Act.put, List.setIfInBounds_toArray, List.set_cons_succ, List.set_cons_zero]
                  refine wpAnyF_takeD (i := 3) (oi := _) (v := ?vv5) (some 77) rfl rfl (by kernel_rfl) (by kernel_rfl) (by kernel_rfl) (by kernel_rfl) (by kernel_rfl) (fun _ _ _ h => h) (Or.inl ⟨by rfl, ?yy5⟩) hSd ?rr5
                  case yy5 => (intro wq hSq; obtain ⟨_, _, _, _⟩ := hSq; go_simp <;> with_reducible rfl)
                  simp only [Act.put, List.setIfInBounds_toArray, List.set_cons_succ, List.set_cons_zero]
                  refine wpAnyF_two (i := 4) (j := 10) (oi := _) (oj := _) (by kernel_rfl) rfl rfl (fun K' hK => ?brA) (fun K' hK => ?brB)
                  case brA =>
                    rw [if_pos (by rfl)]
                    go_simp
                    refine (HMV.out _ (HB.out.trans (hWd.mono HB.out.size))).mono ?_
                    rintro e V1 ⟨rv, rfl, hpl, hbm⟩
                    have hB1 : Below U.heap.size U V1 := hWd.trans (hbm.mono hWd.size)
                    have hSd := HS.out _ hB1
                    refine hK.out _ _ hSd ?_
                    clear hK
                    try simp only [Act.put]
                    refine wpAnyF_two (i := 6) (j := 10) (oi := _) (oj := _) (by kernel_rfl) rfl rfl (fun K' hK => ?brC) (fun K' hK => ?brD)
                    case brC =>
                      rw [if_pos (by rfl)]
                      go_simp
                      refine (HDV.out rv _ (HB.out.trans (hB1.mono HB.out.size)) hpl).mono ?_
                      rintro e V2 ⟨r, rfl, hr, hbd, hfr⟩
                      have hB2 : Below U.heap.size U V2 := hB1.trans (hbd.mono hB1.size)
                      have hSd := HS.out _ hB2
                      refine hK.out _ _ hSd ?_
                      clear hK
                      try simp only [Act.put]
                      have HR := hide hr
                      have hrm := hfr.2
                      obtain ⟨ro, rc, rfl, x1, x2⟩ := hr
                      clear x1 x2
                      refine wpAnyF_takeD (i := 7) (oi := _) (v := ?vv6) (some 73) rfl rfl (by kernel_rfl) (by kernel_rfl) (by kernel_rfl) (by kernel_rfl) (by kernel_rfl) (fun _ _ _ h => h) (Or.inl ⟨by rfl, ?yy6⟩) hSd ?rr6
                      case yy6 => (intro wq hSq; obtain ⟨_, _, _, _⟩ := hSq; go_simp <;> with_reducible rfl)
                      simp only [Act.put, List.setIfInBounds_toArray, List.set_cons_succ, List.set_cons_zero]
                      refine wpAnyF_takeD (i := 8) (oi := _) (v := ?vv7) (some 81) rfl rfl (by kernel_rfl) (by kernel_rfl) (by kernel_rfl) (by kernel_rfl) (by kernel_rfl) (fun _ _ _ h => h) (Or.inl ⟨by rfl, ?yy7⟩) hSd ?rr7
                      case yy7 => (intro wq hSq; obtain ⟨_, _, _, _⟩ := hSq; go_simp <;> with_reducible rfl)
                      simp only [Act.put, List.setIfInBounds_toArray, List.set_cons_succ, List.set_cons_zero]
                      refine wpAnyF_takeD (i := 9) (oi := _) (v := ?vv8) (some 82) rfl rfl (by kernel_rfl) (by kernel_rfl) (by kernel_rfl) (by kernel_rfl) (by kernel_rfl) (fun _ _ _ h => h) (Or.inl ⟨by rfl, ?yy8⟩) hSd ?rr8
                      case yy8 => (intro wq hSq; obtain ⟨_, _, _, _⟩ := hSq; go_simp <;> with_reducible rfl)
                      simp only [Act.put, List.setIfInBounds_toArray, List.set_cons_succ, List.set_cons_zero]
                      refine wpAnyF_one (i := 10) (o := _) (by kernel_rfl) rfl (fun K' hK => ?_)
                      rw [if_pos (by rfl)]
                      go_simp
                      have hB3 : Below U.heap.size U (V2.alloc (Obj.cells #[.int .i64 0, .int .i64 0, .slice none 0 0] 34)) := hB2.alloc hB2.size _
                      have hSd := HS.out _ hB3
                      refine hK.out _ _ hSd ?_
                      clear hK
                      try simp only [Act.put]
                      refine wpAnyF_one (i := 11) (o := _) (by kernel_rfl) rfl (fun K' hK => ?_)
                      rw [if_pos (by rfl)]
                      go_simp
                      have hB4 : Below U.heap.size U (V2.alloc (Obj.cells #[.int .i64 W, .int .i64 H, .slice ro D.length rc] 34)) := hB2.alloc hB2.size _
                      have hSd := HS.out _ hB4
                      refine hK.out _ _ hSd ?_
                      clear hK
                      try simp only [Act.put]
                      refine wpAnyF_last (o := _) (by kernel_rfl) rfl (fun K' hK => ?_)
                      rw [if_pos (by rfl)]
                      go_simp
                      refine hK.out _ _ ?_
                      clear hK
                      refine wpAnyF_done (by kernel_rfl) ?_ _
                      try simp only [Act.put]
                      clear hSd
                      go_wp2
                      go_meet
                      case rel => exact ⟨V2.heap.size, ro, rc, rfl, rfl, al1 V2 _, HR.out.alloc _, hrm, hB2.size, hB4⟩
                    case brD =>
                      rw [if_pos (by rfl)]
                      go_simp
                      have hBz : Below U.heap.size U (V1.alloc (Obj.cells #[.int .i64 0, .int .i64 0, .slice none 0 0] 34)) := hB1.alloc hB1.size _
                      have hSd := HS.out _ hBz
                      refine hK.out _ _ hSd ?_
                      clear hK
                      try simp only [Act.put]
                      have gz0 := al1 V1 (Obj.cells #[.int .i64 0, .int .i64 0, .slice none 0 0] 34)
                      have hpl2 := hpl.below (bel_alloc V1 (Obj.cells #[.int .i64 0, .int .i64 0, .slice none 0 0] 34)) (Nat.le_refl _)
                      have hlz := (Array.getElem?_eq_some_iff.1 gz0).1
                      have hq := hB1.size
                      generalize V1.alloc (Obj.cells #[.int .i64 0, .int .i64 0, .slice none 0 0] 34) = Vz at *
                      generalize V1.heap.size = QX at *
                      refine wpAnyF_one (i := 6) (o := _) (by kernel_rfl) rfl (fun K' hK => ?_)
                      rw [if_pos (by rfl)]
                      go_simp
                      refine (HDV.out rv _ (HB.out.trans (hBz.mono HB.out.size)) hpl2).mono ?_
                      rintro e V2 ⟨r, rfl, hr, hbd, hfr⟩
                      have hB2 : Below U.heap.size U V2 := hBz.trans (hbd.mono hBz.size)
                      have hSd := HS.out _ hB2
                      refine hK.out _ _ hSd ?_
                      clear hK
                      try simp only [Act.put]
                      have HR := hide hr
                      have hrm := hfr.2
                      obtain ⟨ro, rc, rfl, x1, x2⟩ := hr
                      clear x1 x2
                      refine wpAnyF_takeD (i := 7) (oi := _) (v := ?vv9) (some 73) rfl rfl (by kernel_rfl) (by kernel_rfl) (by kernel_rfl) (by kernel_rfl) (by kernel_rfl) (fun _ _ _ h => h) (Or.inl ⟨by rfl, ?yy9⟩) hSd ?rr9
                      case yy9 => (intro wq hSq; obtain ⟨_, _, _, _⟩ := hSq; go_simp <;> with_reducible rfl)
                      simp only [Act.put, List.setIfInBounds_toArray, List.set_cons_succ, List.set_cons_zero]
                      refine wpAnyF_takeD (i := 8) (oi := _) (v := ?vv10) (some 81) rfl rfl (by kernel_rfl) (by kernel_rfl) (by kernel_rfl) (by kernel_rfl) (by kernel_rfl) (fun _ _ _ h => h) (Or.inl ⟨by rfl, ?yy10⟩) hSd ?rr10
                      case yy10 => (intro wq hSq; obtain ⟨_, _, _, _⟩ := hSq; go_simp <;> with_reducible rfl)
                      simp only [Act.put, List.setIfInBounds_toArray, List.set_cons_succ, List.set_cons_zero]
                      refine wpAnyF_takeD (i := 9) (oi := _) (v := ?vv11) (some 82) rfl rfl (by kernel_rfl) (by kernel_rfl) (by kernel_rfl) (by kernel_rfl) (by kernel_rfl) (fun _ _ _ h => h) (Or.inl ⟨by rfl, ?yy11⟩) hSd ?rr11
                      case yy11 => (intro wq hSq; obtain ⟨_, _, _, _⟩ := hSq; go_simp <;> with_reducible rfl)
                      simp only [Act.put, List.setIfInBounds_toArray, List.set_cons_succ, List.set_cons_zero]
                      have gz := (hbd.block QX hlz).trans gz0
                      obtain ⟨z0, z1, z2⟩ := cells3 gz
                      have f0 := Lib.frozen_of_heap gz 0
                      have f1 := Lib.frozen_of_heap gz 1
                      have f2 := Lib.frozen_of_heap gz 2
                      obtain ⟨vS, _, _, _⟩ := box3_set gz (.int .i64 W) (.int .i64 H) (.slice ro D.length rc) w (Nat.le_trans HB.out.size hq) (HB.out.trans (hB2.mono HB.out.size))
                      have hB4 := set3_below hB2 hq (.int .i64 W) (.int .i64 H) (.slice ro D.length rc)
                      have HX := hide (HR.out.set3 hfr hlz (.int .i64 W) (.int .i64 H) (.slice ro D.length rc))
                      refine wpAnyF_one (i := 11) (o := _) (by kernel_rfl) rfl (fun K' hK => ?_)
                      rw [if_pos (by rfl)]
                      go_simp
                      have hSd := HS.out _ hB4
                      refine hK.out _ _ hSd ?_
                      clear hK
                      try simp only [Act.put]
                      clear z0 z1 z2 f0 f1 f2
                      refine wpAnyF_last (o := _) (by kernel_rfl) rfl (fun K' hK => ?_)
                      rw [if_pos (by rfl)]
                      go_simp
                      refine hK.out _ _ ?_
                      clear hK
                      refine wpAnyF_done (by kernel_rfl) ?_ _
                      try simp only [Act.put]
                      clear hSd
                      go_wp2
                      go_meet
                      case rel => exact ⟨QX, ro, rc, rfl, rfl, vS, HX.out, hrm, hq, hB4⟩
                  case brB =>
                    rw [if_pos (by rfl)]
                    go_simp
                    have hBz : Below U.heap.size U (w3.alloc (Obj.cells #[.int .i64 0, .int .i64 0, .slice none 0 0] 34)).drew := (hbV.alloc hbV.size _).drew
                    have hSd := HS.out _ hBz
                    refine hK.out _ _ hSd ?_
                    clear hK
                    try simp only [Act.put]
                    have gz0 : (w3.alloc (Obj.cells #[.int .i64 0, .int .i64 0, .slice none 0 0] 34)).drew.heap[w3.heap.size]? = _ := al1 w3 (Obj.cells #[.int .i64 0, .int .i64 0, .slice none 0 0] 34)
                    have hlz := (Array.getElem?_eq_some_iff.1 gz0).1
                    have hq := hbV.size
                    generalize (w3.alloc (Obj.cells #[.int .i64 0, .int .i64 0, .slice none 0 0] 34)).drew = Vz at *
                    generalize w3.heap.size = QX at *
                    refine wpAnyF_one (i := 4) (o := _) (by kernel_rfl) rfl (fun K' hK => ?_)
                    rw [if_pos (by rfl)]
                    go_simp
                    refine (HMV.out _ (HB.out.trans (hBz.mono HB.out.size))).mono ?_
                    rintro e V1 ⟨rv, rfl, hpl, hbm⟩
                    have hB1 : Below U.heap.size U V1 := hBz.trans (hbm.mono hBz.size)
                    have hSd := HS.out _ hB1
                    refine hK.out _ _ hSd ?_
                    clear hK
                    try simp only [Act.put]
                    replace gz0 := (hbm.block QX hlz).trans gz0
                    replace hlz := (Array.getElem?_eq_some_iff.1 gz0).1
                    refine wpAnyF_one (i := 6) (o := _) (by kernel_rfl) rfl (fun K' hK => ?_)
                    rw [if_pos (by rfl)]
                    go_simp
                    refine (HDV.out rv _ (HB.out.trans (hB1.mono HB.out.size)) hpl).mono ?_
                    rintro e V2 ⟨r, rfl, hr, hbd, hfr⟩
                    have hB2 : Below U.heap.size U V2 := hB1.trans (hbd.mono hB1.size)
                    have hSd := HS.out _ hB2
                    refine hK.out _ _ hSd ?_
                    clear hK
                    try simp only [Act.put]
                    have HR := hide hr
                    have hrm := hfr.2
                    obtain ⟨ro, rc, rfl, x1, x2⟩ := hr
                    clear x1 x2
                    refine wpAnyF_takeD (i := 7) (oi := _) (v := ?vv12) (some 73) rfl rfl (by kernel_rfl) (by kernel_rfl) (by kernel_rfl) (by kernel_rfl) (by kernel_rfl) (fun _ _ _ h => h) (Or.inl ⟨by rfl, ?yy12⟩) hSd ?rr12
                    case yy12 => (intro wq hSq; obtain ⟨_, _, _, _⟩ := hSq; go_simp <;> with_reducible rfl)
                    simp only [Act.put, List.setIfInBounds_toArray, List.set_cons_succ, List.set_cons_zero]
                    refine wpAnyF_takeD (i := 8) (oi := _) (v := ?vv13) (some 81) rfl rfl (by kernel_rfl) (by kernel_rfl) (by kernel_rfl) (by kernel_rfl) (by kernel_rfl) (fun _ _ _ h => h) (Or.inl ⟨by rfl, ?yy13⟩) hSd ?rr13
                    case yy13 => (intro wq hSq; obtain ⟨_, _, _, _⟩ := hSq; go_simp <;> with_reducible rfl)
                    simp only [Act.put, List.setIfInBounds_toArray, List.set_cons_succ, List.set_cons_zero]
                    refine wpAnyF_takeD (i := 9) (oi := _) (v := ?vv14) (some 82) rfl rfl (by kernel_rfl) (by kernel_rfl) (by kernel_rfl) (by kernel_rfl) (by kernel_rfl) (fun _ _ _ h => h) (Or.inl ⟨by rfl, ?yy14⟩) hSd ?rr14
                    case yy14 => (intro wq hSq; obtain ⟨_, _, _, _⟩ := hSq; go_simp <;> with_reducible rfl)
                    simp only [Act.put, List.setIfInBounds_toArray, List.set_cons_succ, List.set_cons_zero]
                    have gz := (hbd.block QX hlz).trans gz0
                    obtain ⟨z0, z1, z2⟩ := cells3 gz
                    have f0 := Lib.frozen_of_heap gz 0
                    have f1 := Lib.frozen_of_heap gz 1
                    have f2 := Lib.frozen_of_heap gz 2
                    obtain ⟨vS, _, _, _⟩ := box3_set gz (.int .i64 W) (.int .i64 H) (.slice ro D.length rc) w (Nat.le_trans HB.out.size hq) (HB.out.trans (hB2.mono HB.out.size))
                    have hB4 := set3_below hB2 hq (.int .i64 W) (.int .i64 H) (.slice ro D.length rc)
                    have HX := hide (HR.out.set3 hfr hlz (.int .i64 W) (.int .i64 H) (.slice ro D.length rc))
                    refine wpAnyF_one (i := 11) (o := _) (by kernel_rfl) rfl (fun K' hK => ?_)
                    rw [if_pos (by rfl)]
                    go_simp
                    have hSd := HS.out _ hB4
                    refine hK.out _ _ hSd ?_
                    clear hK
                    try simp only [Act.put]
                    clear z0 z1 z2 f0 f1 f2
                    refine wpAnyF_last (o := _) (by kernel_rfl) rfl (fun K' hK => ?_)
                    rw [if_pos (by rfl)]
                    go_simp
                    refine hK.out _ _ ?_
                    clear hK
                    refine wpAnyF_done (by kernel_rfl) ?_ _
                    try simp only [Act.put]
                    clear hSd
                    go_wp2
                    go_meet
                    case rel => exact ⟨QX, ro, rc, rfl, rfl, vS, HX.out, hrm, hq, hB4⟩
                case rest =>
                  obtain ⟨QX, ro, rc, rfl, rfl, vS, hpx, hroom, hQX, vB⟩ := hcut
                  have hsVQ := vB.size
                  have hlQ := (Array.getElem?_eq_some_iff.1 vS).1
                  have HPX := hide hpx
                  have hD1 : 1 ≤ D.length := by
                    rw [HDL.out, HLEN.out]
                    exact Nat.mul_le_mul (show 1 ≤ HN by have := HHN.out; omega) (show 1 ≤ WN by have := HWN.out; omega)
                  obtain ⟨ro2, rc2, hpe, _, hpor⟩ := hpx
                  cases hpe
                  rcases hpor with hpor | ⟨pb, po, rfl, hpb, hpc⟩
                  · rw [hpor] at hD1; simp at hD1
                  have HPC := hide hpc
                  clear hpc
                  obtain ⟨q0, q1, q2⟩ := cells3 vS
                  have hTF : TN ≤ FN := by have := HnA.out; have := HTN.out; have := HFN.out; omega
                  have hFT : FN < TO := by have := HFN.out; have := HTO.out; omega
                  have hTH : TO ≤ TN + HN := by have := HnB.out; have := HTN.out; have := HTO.out; have := HHN.out; have := HGN.out; omega
                  have hWN1 : 1 ≤ WN := by have := HWN.out; omega
                  have hWN2 : WN ≤ 64 := by have := HWN.out; omega
                  have hHN2 : HN ≤ 64 := by have := HHN.out; omega
                  have hDl : D.length = HN * WN := by rw [HDL.out, HLEN.out]
                  have hm1 : (FN - TN + (TO - FN)) * WN ≤ D.length := by rw [hDl]; exact Nat.mul_le_mul_right _ (by omega)
                  have hm2 : HN * WN ≤ 64 * 64 := Nat.mul_le_mul hHN2 hWN2
                  have hm3 : 1 * WN ≤ (TO - FN) * WN := Nat.mul_le_mul_right _ (by omega)
                  have HSC := hide (fun (V : World) (hV : Below wc.heap.size wc V) => sub_cells (w := V) (b := pb) (off := po) (ps := D) (W := WN) (top := FN - TN) (many := TO - FN) (fun j hj => by
                    obtain ⟨e0, e1, e2⟩ := HPC.out j hj
                    exact ⟨(hV.cell (p := ⟨pb, po + j * 3, none⟩) hpb).trans e0, (hV.cell (p := ⟨pb, po + j * 3 + 1, none⟩) hpb).trans e1, (hV.cell (p := ⟨pb, po + j * 3 + 2, none⟩) hpb).trans e2⟩) hm1)
                  have HRL := hide (rowsL_length D WN (FN - TN) (TO - FN) hm1)
                  have hmA : (fm - top) * W = ((FN - TN) * WN : Nat) := by rw [HFN.out, HTN.out, HWN.out, Int.natCast_mul, Int.natCast_sub hTF]
                  have hmB : (tm - top) * W = ((TO - TN) * WN : Nat) := by rw [HTO.out, HTN.out, HWN.out, Int.natCast_mul, Int.natCast_sub (by omega)]
                  have hmC : (TO - TN) * WN = (FN - TN) * WN + (TO - FN) * WN := by rw [← Nat.add_mul]; congr 1; omega
                  obtain ⟨A, hA⟩ : ∃ A, (FN - TN) * WN = A := ⟨_, rfl⟩
                  obtain ⟨M, hM⟩ : ∃ M, (TO - FN) * WN = M := ⟨_, rfl⟩
                  rw [hmC] at hmB
                  rw [Nat.add_mul] at hm1
                  rw [hA] at hmA hmB hm1 HSC
                  rw [hM] at hmB hm1 hm3 HSC HRL
                  obtain ⟨N, hN⟩ : ∃ N, D.length = N := ⟨_, rfl⟩
                  rw [hN] at hm1 hD1 hroom HPX q2 vS
                  rw [hDl] at hN
                  have hN4 : N ≤ 4096 := by omega
                  clear hmC hA hM hN hDl HPC
                  have hwA : IntKind.i64.wrap (fm - top) = fm - top := IntWalk.i64_in _ (by omega)
                  have hwB : IntKind.i64.wrap (tm - top) = tm - top := IntWalk.i64_in _ (by omega)
                  have hwAm : IntKind.i64.wrap (A : Int) = (A : Int) := IntWalk.i64_in _ (by omega)
                  have hwBm : IntKind.i64.wrap ((A + M : Nat) : Int) = ((A + M : Nat) : Int) := IntWalk.i64_in _ (by omega)
                  have hg1 : (A : Int) ≤ ((A + M : Nat) : Int) := by omega
                  have hg2 : ((A + M : Nat) : Int) ≤ (rc : Int) := by omega
                  have hg3 : ¬ (rc = A) := by omega
                  go_wp2_with fail
                  rw [Nat.add_sub_cancel_left]
                  have hwD : IntKind.i64.wrap (tm - fm) = tm - fm := IntWalk.i64_in _ (by omega)
                  have hWd2 : Below U.heap.size U wc.drew := vB.drew
                  have HS2 := hide (show ∀ v, Below wc.heap.size wc v → v.cell? ⟨QX, 0, none⟩ = some (.int .i64 W) from fun v h => (cells3 ((h.block _ hlQ).trans vS)).1)
                  have hWc : Below wc.heap.size wc wc.drew := (Below.refl _ _).drew
                  have hSd := HS2.out _ hWc
                  clear q0 q1 q2
                  have hmx : Try.prog.follows .mixedOrders = true := by kernel_rfl
                  refine wp_region_last (S := fun v : World => v.cell? ⟨QX, 0, none⟩ = some (.int .i64 W)) (f := 9) hmx ?_
                  show wpAnyF _ _ _ _ _ _ 10 _ _ wc.drew
                  refine wpAnyF_takeD (i := 0) (oi := _) (v := ?vv15) (some 102) rfl rfl (by kernel_rfl) (by kernel_rfl) (by kernel_rfl) (by kernel_rfl) (by kernel_rfl) (fun _ _ _ h => h) (Or.inl ⟨by rfl, ?yy15⟩) hSd ?rr15
                  case yy15 => (intro wq hSq; obtain _ := hSq; go_simp <;> with_reducible rfl)
                  simp only [Act.put, List.setIfInBounds_toArray, List.set_cons_succ, List.set_cons_zero]
                  refine wpAnyF_takeD (i := 2) (oi := _) (v := ?vv16) (some 104) rfl rfl (by kernel_rfl) (by kernel_rfl) (by kernel_rfl) (by kernel_rfl) (by kernel_rfl) (fun _ _ _ h => h) (Or.inl ⟨by rfl, ?yy16⟩) hSd ?rr16
                  case yy16 => (intro wq hSq; obtain _ := hSq; go_simp <;> with_reducible rfl)
                  simp only [Act.put, List.setIfInBounds_toArray, List.set_cons_succ, List.set_cons_zero]
                  refine wpAnyF_takeD (i := 3) (oi := _) (v := ?vv17) (some 105) rfl rfl (by kernel_rfl) (by kernel_rfl) (by kernel_rfl) (by kernel_rfl) (by kernel_rfl) (fun _ _ _ h => h) (Or.inl ⟨by rfl, ?yy17⟩) hSd ?rr17
                  case yy17 => (intro wq hSq; obtain _ := hSq; go_simp <;> with_reducible rfl)
                  simp only [Act.put, List.setIfInBounds_toArray, List.set_cons_succ, List.set_cons_zero]
                  refine wpAnyF_takeD (i := 5) (oi := _) (v := ?vv18) (some 107) rfl rfl (by kernel_rfl) (by kernel_rfl) (by kernel_rfl) (by kernel_rfl) (by kernel_rfl) (fun _ _ _ h => h) (Or.inl ⟨by rfl, ?yy18⟩) hSd ?rr18
                  case yy18 => (intro wq hSq; obtain _ := hSq; go_simp <;> with_reducible rfl)
                  simp only [Act.put, List.setIfInBounds_toArray, List.set_cons_succ, List.set_cons_zero]
                  refine wpAnyF_takeD (i := 1) (oi := _) (v := ?vv19) (some 103) rfl rfl (by kernel_rfl) (by kernel_rfl) (by kernel_rfl) (by kernel_rfl) (by kernel_rfl) (fun _ _ _ h => h) (Or.inl ⟨by rfl, ?yy19⟩) hSd ?rr19
                  case yy19 => (intro wq hSq; obtain _ := hSq; go_simp <;> with_reducible rfl)
                  simp only [Act.put, List.setIfInBounds_toArray, List.set_cons_succ, List.set_cons_zero]
                  refine wpAnyF_takeD (i := 4) (oi := _) (v := ?vv20) (some 106) rfl rfl (by kernel_rfl) (by kernel_rfl) (by kernel_rfl) (by kernel_rfl) (by kernel_rfl) (fun _ _ _ h => h) (Or.inl ⟨by rfl, ?yy20⟩) hSd ?rr20
                  case yy20 => (intro wq hSq; obtain _ := hSq; go_simp <;> with_reducible rfl)
                  simp only [Act.put, List.setIfInBounds_toArray, List.set_cons_succ, List.set_cons_zero]
                  refine wpAnyF_one (i := 6) (o := _) (by kernel_rfl) rfl (fun K' hK => ?_)
                  rw [if_pos (by rfl)]
                  go_simp
                  refine (clonePix_any pb (po + A * 3) M (rc - A) (rowsL D WN (FN - TN) (TO - FN)) _ HRL.out (Nat.lt_of_lt_of_le hpb hWc.size) (by omega) (by omega) (fun j hj => by have := HSC.out _ hWc j hj; exact this)).mono ?_
                  rintro e V1 ⟨r, rfl, hr, hbv, hfr⟩
                  have hB1 : Below wc.heap.size wc V1 := hWc.trans (hbv.mono hWc.size)
                  have HR := hide hr
                  obtain ⟨co, cc, rfl, x1, x2⟩ := hr
                  clear x1 x2
                  rw [HRL.out] at HR hfr ⊢
                  have hSd := HS2.out _ hB1
                  refine hK.out _ _ hSd ?_
                  clear hK
                  try simp only [Act.put]
                  refine wpAnyF_takeD (i := 7) (oi := _) (v := ?vv21) (some 109) rfl rfl (by kernel_rfl) (by kernel_rfl) (by kernel_rfl) (by kernel_rfl) (by kernel_rfl) (fun _ _ _ h => h) (Or.inl ⟨by rfl, ?yy21⟩) hSd ?rr21
                  case yy21 => (intro wq hSq; obtain _ := hSq; go_simp <;> with_reducible rfl)
                  simp only [Act.put, List.setIfInBounds_toArray, List.set_cons_succ, List.set_cons_zero]
                  refine wpAnyF_one (i := 8) (o := _) (by kernel_rfl) rfl (fun K' hK => ?_)
                  have hBU := bel_trans vB hB1
                  obtain ⟨z0, z1, z2, f0, f1, f2, _⟩ := HERR.out _ hBU
                  rw [if_pos (by rfl)]
                  go_simp
                  clear f0 f1 f2
                  have hSd := (set3_cell (w := V1) (b := w.heap.size + 1 + 1) (.int .i64 W) (.int .i64 (tm - fm)) (.slice co M cc) (a := ⟨QX, 0, none⟩) (show QX ≠ w.heap.size + 1 + 1 by omega)).trans (HS2.out _ hB1)
                  refine hK.out _ _ hSd ?_
                  clear hK
                  try simp only [Act.put]
                  refine wpAnyF_last (o := _) (by kernel_rfl) rfl (fun K' hK => ?_)
                  rw [if_pos (by rfl)]
                  go_simp
                  refine hK.out _ _ ?_
                  clear hK
                  refine wpAnyF_done (by kernel_rfl) ?_ _
                  try simp only [Act.put]
                  have HX := hide (HR.out.set3 hfr (show w.heap.size + 1 + 1 < wc.drew.heap.size from (by show w.heap.size + 1 + 1 < wc.heap.size; omega)) (.int .i64 W) (.int .i64 (tm - fm)) (.slice co M cc))
                  have HF := hide (set3_below (HB.out.trans (hBU.mono HB.out.size)) (show w.heap.size ≤ w.heap.size + 1 + 1 by omega) (.int .i64 W) (.int .i64 (tm - fm)) (.slice co M cc))
                  have hwf := Nat.le_trans HB.out.size vB.size
                  have HFR := hide (hfr.mono (show w.heap.size ≤ wc.drew.heap.size from hwf))
                  clear hSd
                  go_wp2
                  refine bodyPost_ret (v := .tuple #[.agg #[.int .i64 W, .int .i64 (tm - fm), .slice co M cc], .int .i64 0]) (by simp [results, Try.results12, go_sem, z0, z1, z2]) rfl ⟨_, rfl, ?_, HF.out, HFR.out⟩
                  show IsPix _ _ (partL n W H zs top fm tm)
                  rw [HPT.out]
                  exact HX.out
              · have hd6 : decide (top + H < (NB : Int)) = true := by simp; omega
                have he : E = 3 := H3.out (fun h => hs6 (by rw [HnB.out]; exact (of_decide_eq_true h).2.2.2.2.2.2.2))
                subst he
                obtain ⟨z0, z1, z2, f0, f1, f2, hBf⟩ := HERR.out _ hbV
                have HBF := hide hBf
                clear hBf
                go_wp2
                refine bodyPost_ret (v := .tuple #[.agg #[.int .i64 0, .int .i64 0, .slice none 0 0], .int .i64 3]) (by simp [results, Try.results12, go_sem, z0, z1, z2]) rfl ⟨.slice none 0 0, ?_, ?_, HBF.out, Fresh.nil _⟩
                · first | rfl | rw [okW, if_neg HEN.out, okW, if_neg HEN.out]
                · first | exact IsPix.nil _ | (rw [okL, if_neg HEN.out]; exact IsPix.nil _)
            · have hd5 : decide ((NA : Int) < top) = true := by simp; omega
              have he : E = 3 := H3.out (fun h => hs5 (by rw [HnA.out]; exact (of_decide_eq_true h).2.2.2.2.2.2.1))
              subst he
              obtain ⟨z0, z1, z2, f0, f1, f2, hBf⟩ := HERR.out _ hbV
              have HBF := hide hBf
              clear hBf
              go_wp2
              refine bodyPost_ret (v := .tuple #[.agg #[.int .i64 0, .int .i64 0, .slice none 0 0], .int .i64 3]) (by simp [results, Try.results12, go_sem, z0, z1, z2]) rfl ⟨.slice none 0 0, ?_, ?_, HBF.out, Fresh.nil _⟩
              · first | rfl | rw [okW, if_neg HEN.out, okW, if_neg HEN.out]
              · first | exact IsPix.nil _ | (rw [okL, if_neg HEN.out]; exact IsPix.nil _)
          · have hd4 : decide (height < top + H) = true := by simp; omega
            have hw4 : IntKind.i64.wrap (top + H) = top + H := IntWalk.i64_in _ (by omega)
            have he : E = 3 := H3.out (fun h => hs4 (by have := of_decide_eq_true h; omega))
            subst he
            go_wp2_with fail
            refine (side_any height _).mono ?_
            rintro e w2 ⟨rfl, hb2⟩
            rw [hsd]
            have hb3 := bel_trans hb1 hb2
            have hbV := bel_trans hb3 (bel_alloc w2 (Obj.cells #[.int .i64 top, .int .i64 fm, .int .i64 tm] 3))
            have hI3 := ints3p w2 top fm tm
            obtain ⟨x0, x1, x2⟩ := cells3 ((hbV.block _ hl2).trans a2)
            clear p0 p1 p2
            go_wp2_with fail
            refine (rWithin_any 0 height _ [top, fm, tm] _ hI3).mono ?_
            rintro e w3 ⟨rfl, rfl⟩
            rw [hin]
            generalize w2.alloc (Obj.cells #[.int .i64 top, .int .i64 fm, .int .i64 tm] 3) = w3 at *
            obtain ⟨z0, z1, z2, f0, f1, f2, hBf⟩ := HERR.out _ hbV
            have HBF := hide hBf
            clear hBf
            go_wp2
            refine bodyPost_ret (v := .tuple #[.agg #[.int .i64 0, .int .i64 0, .slice none 0 0], .int .i64 3]) (by simp [results, Try.results12, go_sem, z0, z1, z2]) rfl ⟨.slice none 0 0, ?_, ?_, HBF.out, Fresh.nil _⟩
            · first | rfl | rw [okW, if_neg HEN.out, okW, if_neg HEN.out]
            · first | exact IsPix.nil _ | (rw [okL, if_neg HEN.out]; exact IsPix.nil _)
        · have hd3 : decide (tm ≤ fm) = true := by simp; omega
          have he : E = 3 := H3.out (fun h => hs3 (by have := of_decide_eq_true h; omega))
          subst he
          go_wp2_with fail
          refine (side_any height _).mono ?_
          rintro e w2 ⟨rfl, hb2⟩
          rw [hsd]
          have hb3 := bel_trans hb1 hb2
          have hbV := bel_trans hb3 (bel_alloc w2 (Obj.cells #[.int .i64 top, .int .i64 fm, .int .i64 tm] 3))
          have hI3 := ints3p w2 top fm tm
          obtain ⟨x0, x1, x2⟩ := cells3 ((hbV.block _ hl2).trans a2)
          clear p0 p1 p2
          go_wp2_with fail
          refine (rWithin_any 0 height _ [top, fm, tm] _ hI3).mono ?_
          rintro e w3 ⟨rfl, rfl⟩
          rw [hin]
          generalize w2.alloc (Obj.cells #[.int .i64 top, .int .i64 fm, .int .i64 tm] 3) = w3 at *
          obtain ⟨z0, z1, z2, f0, f1, f2, hBf⟩ := HERR.out _ hbV
          have HBF := hide hBf
          clear hBf
          go_wp2
          refine bodyPost_ret (v := .tuple #[.agg #[.int .i64 0, .int .i64 0, .slice none 0 0], .int .i64 3]) (by simp [results, Try.results12, go_sem, z0, z1, z2]) rfl ⟨.slice none 0 0, ?_, ?_, HBF.out, Fresh.nil _⟩
          · first | rfl | rw [okW, if_neg HEN.out, okW, if_neg HEN.out]
          · first | exact IsPix.nil _ | (rw [okL, if_neg HEN.out]; exact IsPix.nil _)
      · have hin : allIn 0 height [top, fm, tm] = false := by simpa [allIn] using hs2
        have he : E = 3 := H3.out (fun h => hs2 (by have := of_decide_eq_true h; omega))
        subst he
        go_wp2_with fail
        refine (side_any height _).mono ?_
        rintro e w2 ⟨rfl, hb2⟩
        rw [hsd]
        have hb3 := bel_trans hb1 hb2
        have hbV := bel_trans hb3 (bel_alloc w2 (Obj.cells #[.int .i64 top, .int .i64 fm, .int .i64 tm] 3))
        have hI3 := ints3p w2 top fm tm
        obtain ⟨x0, x1, x2⟩ := cells3 ((hbV.block _ hl2).trans a2)
        clear p0 p1 p2
        go_wp2_with fail
        refine (rWithin_any 0 height _ [top, fm, tm] _ hI3).mono ?_
        rintro e w3 ⟨rfl, rfl⟩
        rw [hin]
        generalize w2.alloc (Obj.cells #[.int .i64 top, .int .i64 fm, .int .i64 tm] 3) = w3 at *
        obtain ⟨z0, z1, z2, f0, f1, f2, hBf⟩ := HERR.out _ hbV
        have HBF := hide hBf
        clear hBf
        go_wp2
        refine bodyPost_ret (v := .tuple #[.agg #[.int .i64 0, .int .i64 0, .slice none 0 0], .int .i64 3]) (by simp [results, Try.results12, go_sem, z0, z1, z2]) rfl ⟨.slice none 0 0, ?_, ?_, HBF.out, Fresh.nil _⟩
        · first | rfl | rw [okW, if_neg HEN.out, okW, if_neg HEN.out]
        · first | exact IsPix.nil _ | (rw [okL, if_neg HEN.out]; exact IsPix.nil _)
    · have hsd : sideOk height = false := by simpa [sideOk] using hs1
      have he : E = 3 := H3.out (fun h => hs1 (of_decide_eq_true h).1)
      subst he
      go_wp2_with fail
      refine (side_any height _).mono ?_
      rintro e w2 ⟨rfl, hb2⟩
      rw [hsd]
      have hbV := bel_trans hb1 hb2
      clear p0 p1 p2
      obtain ⟨z0, z1, z2, f0, f1, f2, hBf⟩ := HERR.out _ hbV
      have HBF := hide hBf
      clear hBf
      go_wp2
      refine bodyPost_ret (v := .tuple #[.agg #[.int .i64 0, .int .i64 0, .slice none 0 0], .int .i64 3]) (by simp [results, Try.results12, go_sem, z0, z1, z2]) rfl ⟨.slice none 0 0, ?_, ?_, HBF.out, Fresh.nil _⟩
      · first | rfl | rw [okW, if_neg HEN.out, okW, if_neg HEN.out]
      · first | exact IsPix.nil _ | (rw [okL, if_neg HEN.out]; exact IsPix.nil _)
  · have hn : (F != 0) = true := by simpa using hF
    rw [if_neg hF] at HPE
    have he : E = F := HPE.out
    subst he
    have HEN := hide hF
    have hbV := hb1
    obtain ⟨z0, z1, z2, f0, f1, f2, hBf⟩ := HERR.out _ hbV
    have HBF := hide hBf
    clear hBf
    go_wp2
    refine bodyPost_ret (v := .tuple #[.agg #[.int .i64 0, .int .i64 0, .slice none 0 0], .int .i64 E]) (by simp [results, Try.results12, go_sem, z0, z1, z2]) rfl ⟨.slice none 0 0, ?_, ?_, HBF.out, Fresh.nil _⟩
    · first | rfl | rw [okW, if_neg HEN.out, okW, if_neg HEN.out]
    · first | exact IsPix.nil _ | (rw [okL, if_neg HEN.out]; exact IsPix.nil _)
end Go.Proofs.Ytolcndchfnifhac

namespace Go.Proofs.Ytolcndchfnifhac
set_option linter.unusedVariables false
def stripTo (H rows f : Nat) : Nat := f + min rows (H - f)
def stripP (n : Plan) (W H : Nat) (zs : List Int) (rows f : Nat) : List Px :=
  partL n W ((needB (stripTo H rows f) H - needA f : Nat) : Int) (rowsL zs W (needA f) (needB (stripTo H rows f) H - needA f)) (needA f : Nat) f (stripTo H rows f : Nat)
def stripsF (n : Plan) (W H : Nat) (zs : List Int) (rows : Nat) : Nat → Nat → List Px
  | 0, _ => []
  | fuel + 1, f => if f < H then stripP n W H zs rows f ++ stripsF n W H zs rows fuel (stripTo H rows f) else []
theorem stripsF_end (n : Plan) (W H : Nat) (zs : List Int) (rows fuel : Nat) : stripsF n W H zs rows fuel H = [] := by
  cases fuel with
  | zero => rfl
  | succ k => rw [stripsF, if_neg (by omega)]
theorem stripTo_gt {H rows f : Nat} (hr : 1 ≤ rows) (hf : f < H) : f < stripTo H rows f := by unfold stripTo; omega
theorem stripTo_le {H rows f : Nat} (hf : f < H) : stripTo H rows f ≤ H := by unfold stripTo; omega
theorem stripsF_fuel (n : Plan) (W H : Nat) (zs : List Int) (rows : Nat) (hr : 1 ≤ rows) : ∀ a b f, H - f ≤ a → H - f ≤ b → stripsF n W H zs rows a f = stripsF n W H zs rows b f := by
  intro a
  induction a with
  | zero =>
    intro b f h1 h2
    cases b with
    | zero => rfl
    | succ b => rw [stripsF, stripsF, if_neg (by omega)]
  | succ a ih =>
    intro b f h1 h2
    cases b with
    | zero => rw [stripsF, stripsF, if_neg (by omega)]
    | succ b =>
      rw [stripsF, stripsF]
      by_cases hf : f < H
      · rw [if_pos hf, if_pos hf, ih b _ (by have := stripTo_gt hr hf; omega) (by have := stripTo_gt hr hf; omega)]
      · rw [if_neg hf, if_neg hf]
def stripsE (n : Plan) (W H : Int) (zs : List Int) (rows : Int) : Int := if fitsE n W H zs H = 0 then (if 1 ≤ rows then 0 else 3) else fitsE n W H zs H
def stripsL (n : Plan) (W H : Int) (zs : List Int) (rows : Int) : List Px := stripsF n W.toNat H.toNat zs rows.toNat H.toNat 0
theorem rowsL_allIn {a b : Int} {zs : List Int} (h : allIn a b zs = true) (W t m : Nat) : allIn a b (rowsL zs W t m) = true := by
  refine List.all_eq_true.2 fun x hx => List.all_eq_true.1 h x ?_
  exact List.mem_of_mem_drop (List.mem_of_mem_take hx)
theorem strip_ok {n : Plan} {W H : Nat} {zs : List Int} {rows f : Nat} (hE : fitsE n W H zs H = 0) (hr : 1 ≤ rows) (hf : f < H) :
    partE n W ((needB (stripTo H rows f) H - needA f : Nat) : Int) (rowsL zs W (needA f) (needB (stripTo H rows f) H - needA f)) (needA f : Nat) H f (stripTo H rows f : Nat) = 0 := by
  obtain ⟨h1, h2, h3⟩ := fitsE_zero hE
  obtain ⟨hW, hH, hl, _⟩ := planeOk_parts h2
  have hgt := stripTo_gt (H := H) hr hf
  have hle := stripTo_le (rows := rows) hf
  generalize stripTo H rows f = t at *
  have hA : needA f ≤ f := by unfold needA; omega
  have hB1 : t ≤ needB t H := by unfold needB; omega
  have hB2 : needB t H ≤ H := by unfold needB; omega
  have hlz : zs.length = H * W := by rw [Nat.mul_comm]; exact_mod_cast hl
  have hm : (needB t H - needA f) * W ≤ H * W := Nat.mul_le_mul_right _ (by omega)
  have hm2 : (needA f + (needB t H - needA f)) * W ≤ zs.length := by rw [hlz]; exact Nat.mul_le_mul_right _ (by omega)
  have hfit : fitsE n W ((needB t H - needA f : Nat) : Int) (rowsL zs W (needA f) (needB t H - needA f)) H = 0 := by
    have hpl : planeOk W ((needB t H - needA f : Nat) : Int) (rowsL zs W (needA f) (needB t H - needA f)) = true := by
      rw [planeOk_eq, Bool.and_eq_true]
      refine ⟨?_, rowsL_allIn (planeOk_all h2) _ _ _⟩
      rw [rowsL_length zs W _ _ hm2]
      simp only [sizeOk, sideOk, Bool.and_eq_true, decide_eq_true_eq]
      refine ⟨⟨hW, by omega⟩, ?_⟩
      rw [Int.natCast_mul, Int.mul_comm]
    rw [fitsE, if_pos h1, if_pos hpl, if_pos h3]
  rw [partE, if_pos hfit, if_pos]
  refine decide_eq_true ⟨hH, ⟨by omega, by omega⟩, ⟨by omega, by omega⟩, ⟨by omega, by omega⟩, by omega, by omega, ?_, ?_⟩
  · unfold needA; omega
  · unfold needB at hB1 hB2 ⊢; unfold needA at hA ⊢; omega
end Go.Proofs.Ytolcndchfnifhac

namespace Go.Proofs.Ytolcndchfnifhac
set_option linter.unusedVariables false
open Go.RowKit
theorem strip_room {n : Plan} {W H : Nat} {zs : List Int} {rows f : Nat} (hl : zs.length = H * W) (hr : 1 ≤ rows) (hf : f < H) :
    (needA f + (needB (stripTo H rows f) H - needA f)) * W ≤ zs.length := by
  have hgt := stripTo_gt (H := H) hr hf
  have hle := stripTo_le (rows := rows) hf
  generalize stripTo H rows f = t at *
  rw [hl]
  refine Nat.mul_le_mul_right _ ?_
  unfold needA needB
  omega
theorem stripP_length (n : Plan) {W H : Nat} {zs : List Int} {rows f : Nat} (hl : zs.length = H * W) (hr : 1 ≤ rows) (hf : f < H) : (stripP n W H zs rows f).length = (stripTo H rows f - f) * W := by
  have h2 := strip_room (n := n) hl hr hf
  have hgt := stripTo_gt (H := H) hr hf
  have hle := stripTo_le (rows := rows) hf
  unfold stripP partL
  generalize stripTo H rows f = t at *
  simp only [Int.toNat_natCast]
  rw [show ((f : Int) - (needA f : Nat)).toNat = f - needA f by unfold needA; omega, show ((t : Int) - (f : Nat)).toNat = t - f by omega]
  refine rowsL_length _ _ _ _ ?_
  rw [dev7_length, rowsL_length zs W _ _ h2]
  refine Nat.mul_le_mul_right _ ?_
  unfold needA needB
  omega
theorem stripsF_step (n : Plan) {W H : Nat} {zs : List Int} {rows f : Nat} (hr : 1 ≤ rows) (hf : f < H) : stripsF n W H zs rows (H - f) f = stripP n W H zs rows f ++ stripsF n W H zs rows (H - stripTo H rows f) (stripTo H rows f) := by
  have hgt := stripTo_gt (H := H) hr hf
  obtain ⟨k, hk⟩ : ∃ k, H - f = k + 1 := ⟨H - f - 1, by omega⟩
  rw [hk, stripsF, if_pos hf, stripsF_fuel n W H zs rows hr k (H - stripTo H rows f) _ (by omega) (Nat.le_refl _)]
theorem rowsL_get (zs : List Int) (W top many j : Nat) (hj : j < many * W) : zAt (rowsL zs W top many) j = zAt zs (top * W + j) := by
  unfold rowsL zAt
  rw [List.getD_eq_getElem?_getD, List.getD_eq_getElem?_getD, List.getElem?_take_of_lt hj, List.getElem?_drop]
theorem strip_call {n : Plan} {W H : Nat} {zs : List Int} {rows f : Nat} (hE : fitsE n W H zs H = 0) (hlz : zs.length = H * W) (hr : 1 ≤ rows) (hf : f < H) (sv cv : Value) (bk off ca : Nat) (u : World) (hp : IsPlan u n sv cv) (hbk : bk < u.heap.size) (h4 : zs.length ≤ 4096)
    (hc : ∀ j, j < zs.length → u.cell? ⟨bk, off + j, none⟩ = some (.int .i64 (zAt zs j))) :
    Calls Try.prog 12 #[.agg (planA n sv cv), .agg #[.int .i64 (W : Nat), .int .i64 (needB (stripTo H rows f) H - needA f : Nat), .slice (some ⟨bk, off + needA f * W, none⟩) ((needB (stripTo H rows f) H - needA f) * W) (ca - needA f * W)], .int .i64 (needA f : Nat), .int .i64 (H : Nat), .int .i64 (f : Nat), .int .i64 (stripTo H rows f : Nat)] u
      fun e w' => ∃ r, e = .returned (.tuple #[.agg #[.int .i64 (W : Nat), .int .i64 ((stripTo H rows f : Nat) - (f : Nat) : Int), r], .int .i64 0]) ∧ IsPix w' r (stripP n W H zs rows f) ∧ Below u.heap.size u w' ∧ Fresh u.heap.size r := by
  have h2 := strip_room (n := n) hlz hr hf
  have hln := rowsL_length zs W _ _ h2
  have hv : IsInts u (.slice (some ⟨bk, off + needA f * W, none⟩) ((needB (stripTo H rows f) H - needA f) * W) (ca - needA f * W)) (rowsL zs W (needA f) (needB (stripTo H rows f) H - needA f)) := by
    rw [Nat.add_mul] at h2
    refine ⟨_, _, by rw [hln], by omega, .inr ⟨bk, _, rfl, hbk, fun j hj => ?_⟩⟩
    have e := hc (needA f * W + j) (by rw [← hln] at h2; omega)
    rw [← rowsL_get zs W (needA f) (needB (stripTo H rows f) H - needA f) j (by rw [← hln]; exact hj)] at e
    rw [Nat.add_assoc, e]
    unfold zAt
    rw [List.getD_eq_getElem?_getD, List.getElem?_eq_getElem hj, Option.getD_some]
  have h := linePart_any n sv cv W ((needB (stripTo H rows f) H - needA f : Nat) : Int) _ _ (needA f : Nat) H f (stripTo H rows f : Nat) u hp hv
  rw [strip_ok hE hr hf] at h
  exact h
end Go.Proofs.Ytolcndchfnifhac

namespace Go.Proofs.Ytolcndchfnifhac
set_option linter.unusedVariables false
open Go.RowKit
def StJ (w : World) (n : Plan) (W H : Nat) (zs : List Int) (rows : Nat) (PV : Array Value) (pv : Value) (QX f : Nat) (wr : World) : Prop :=
  ∃ (l : List Px) (so : Option Addr) (cap : Nat), l ++ stripsF n W H zs rows (H - f) f = stripsF n W H zs rows H 0 ∧ l.length ≤ f * W ∧ wr.heap[QX]? = some (.cells #[.int .i64 W, .int .i64 H, .slice so l.length cap] 34 (0, 0)) ∧ wr.ownsRow w.heap.size 41 3 (.slice so l.length cap) l.length (l.flatMap pixL) ∧
    wr.heap[w.heap.size]? = some (.cells PV 28 (0, 0)) ∧ wr.heap[w.heap.size + 1]? = some (.cells #[.int .i64 W, .int .i64 H, pv] 31 (0, 0)) ∧ wr.heap[w.heap.size + 2]? = some (.cells #[.int .i64 0, .int .i64 0, .slice none 0 0] 34 (0, 0)) ∧ Below w.heap.size w wr
theorem StJ.below {w : World} {n : Plan} {W H : Nat} {zs : List Int} {rows : Nat} {PV : Array Value} {pv : Value} {QX f : Nat} {wr V : World} (h : StJ w n W H zs rows PV pv QX f wr) (hV : Below wr.heap.size wr V) : StJ w n W H zs rows PV pv QX f V := by
  obtain ⟨l, so, cap, h1, h2, h3, h4, h5, h6, h7, h8⟩ := h
  exact ⟨l, so, cap, h1, h2, (hV.block _ (Array.getElem?_eq_some_iff.1 h3).1).trans h3, ownsRow_below h4 hV, (hV.block _ (Array.getElem?_eq_some_iff.1 h5).1).trans h5, (hV.block _ (Array.getElem?_eq_some_iff.1 h6).1).trans h6, (hV.block _ (Array.getElem?_eq_some_iff.1 h7).1).trans h7, h8.trans (hV.mono h8.size)⟩
theorem flat_cells {w : World} {b off : Nat} {ps : List Px} (hc : ∀ j (h : j < ps.length), w.cell? ⟨b, off + j * 3, none⟩ = some (.int .i64 ps[j].1) ∧ w.cell? ⟨b, off + j * 3 + 1, none⟩ = some (.int .i64 ps[j].2.1) ∧ w.cell? ⟨b, off + j * 3 + 2, none⟩ = some (.int .i64 ps[j].2.2)) :
    ∀ j u, (ps.flatMap pixL)[j]? = some u → w.cell? ((⟨b, off, none⟩ : Addr).add j) = some u := by
  intro j u hj
  rw [Addr.add_lit]
  have hj3 : j < ps.length * 3 := by rw [← flat_length]; exact (List.getElem?_eq_some_iff.1 hj).1
  obtain ⟨g0, g1, g2⟩ := flat_get ps (j / 3) (by omega)
  obtain ⟨d0, d1, d2⟩ := hc (j / 3) (by omega)
  rcases (show j % 3 = 0 ∨ j % 3 = 1 ∨ j % 3 = 2 by omega) with h | h | h
  · have e : j = j / 3 * 3 := by omega
    rw [e] at hj ⊢
    rw [← Option.some.inj (g0.symm.trans hj)]; exact d0
  · have e : j = j / 3 * 3 + 1 := by omega
    rw [e] at hj ⊢
    rw [← Option.some.inj (g1.symm.trans hj), ← Nat.add_assoc]; exact d1
  · have e : j = j / 3 * 3 + 2 := by omega
    rw [e] at hj ⊢
    rw [← Option.some.inj (g2.symm.trans hj), ← Nat.add_assoc]; exact d2
theorem flat_one (ps : List Px) : ∀ u ∈ ps.flatMap pixL, u.oneCell' = true := by
  intro u hu
  obtain ⟨p, _, hu⟩ := List.mem_flatMap.1 hu
  simp only [pixL, List.mem_cons, List.not_mem_nil, or_false] at hu
  rcases hu with rfl | rfl | rfl <;> rfl
theorem own_set3 {w : World} {base : Nat} {e : TypeId} {sz : Nat} {v : Value} {n : Nat} {xs : List Value} {k : Nat} (h : w.ownsRow base e sz v n xs) (hne : v.ownBlock ≠ some k) (x y z : Value) : (((w.setCell ⟨k, 0, none⟩ x).setCell ⟨k, 1, none⟩ y).setCell ⟨k, 2, none⟩ z).ownsRow base e sz v n xs := by
  refine ⟨h.1, ?_⟩
  rcases h.2 with h | ⟨g, cap, cur, hv, hg, hh, r⟩
  · exact .inl h
  · refine .inr ⟨g, cap, cur, hv, hg, ?_, r⟩
    rw [set3_heap _ _ _ _ _ g (fun e => hne (by rw [hv, e]; rfl))]
    exact hh
set_option maxRecDepth 100000 in
set_option maxHeartbeats 6400000 in
theorem strips_any (n : Plan) (sv cv : Value) (W H : Int) (v : Value) (zs : List Int) (rows : Int) (w : World) (hp : IsPlan w n sv cv) (hv : IsInts w v zs) (hroom : roomy v) :
    Calls Try.prog 11 #[.agg (planA n sv cv), .agg #[.int .i64 W, .int .i64 H, v], .int .i64 rows] w fun e w' => ∃ r, e = .returned (.tuple #[.agg #[.int .i64 (okW (stripsE n W H zs rows) W), .int .i64 (okW (stripsE n W H zs rows) H), r], .int .i64 (stripsE n W H zs rows)]) ∧ IsPix w' r (okL (stripsE n W H zs rows) (stripsL n W H zs rows)) ∧ Below w.heap.size w w' ∧ Fresh w.heap.size r := by
  have HP := hide hp
  have HV := hide hv
  have HFI := hide (fun (u : World) (hu : Below w.heap.size w u) => fits_any n sv cv W H v zs H u (HP.out.below hu (Nat.le_refl _)) (HV.out.below hu (Nat.le_refl _)))
  obtain ⟨⟨lo, lc, rfl, hll, _⟩, ⟨ko, kc, rfl, hkl, _⟩⟩ := hp
  have HPE := hide (show stripsE n W H zs rows = if fitsE n W H zs H = 0 then (if 1 ≤ rows then 0 else 3) else fitsE n W H zs H from rfl)
  obtain ⟨E, hE⟩ : ∃ E, stripsE n W H zs rows = E := ⟨_, rfl⟩
  rw [hE] at HPE ⊢
  clear hE
  by_cases hF : fitsE n W H zs H = 0
  · rw [if_pos hF] at HPE
    have HF0 := hide hF
    obtain ⟨hpl0, hpok, hspt⟩ := fitsE_zero hF
    rw [hF] at HFI
    clear hF
    by_cases hr1 : 1 ≤ rows
    · have hd1 : decide (rows < 1) = false := by simp; omega
      have he : E = 0 := by rw [HPE.out, if_pos hr1]
      subst he
      obtain ⟨hW, hH, hlen0, _⟩ := planeOk_parts hpok
      have hsm := side_mul hW hH
      have hn1 : 1 ≤ zs.length := by omega
      obtain ⟨bk, off, ca, rfl, hbk, hcell⟩ := hv.cells hn1
      have hca : zs.length ≤ ca := hroom
      obtain ⟨WN, rfl⟩ := Int.eq_ofNat_of_zero_le (show 0 ≤ W by omega)
      obtain ⟨HN, rfl⟩ := Int.eq_ofNat_of_zero_le (show 0 ≤ H by omega)
      obtain ⟨RN, rfl⟩ := Int.eq_ofNat_of_zero_le (show 0 ≤ rows by omega)
      have HLEN := hide (show zs.length = HN * WN by rw [Nat.mul_comm]; exact_mod_cast hlen0)
      have hzl : zs.length ≤ 4096 := by omega
      have HC := hide hcell
      obtain ⟨i0, hi, hz0, hz1, hz2⟩ := info_parts Try.infoPixel
      have hmk : ∀ V : World, (Instr.makeSlice 32 (.int .i64 0) (.int .i64 zs.length)).run Try.prog V = .ok (.slice (some ⟨V.heap.size, 0, none⟩) 0 zs.length) (V.alloc (.cells (madeCells #[.int .i64 0, .int .i64 0, .int .i64 0] (zs.length * 3)) 41)) := fun V => by
        have h := run_make (P := Try.prog) V 32 41 i0 pixZ Try.underlying32 hi hz0 .i64 .i64 0 zs.length (Int.le_refl _) (by omega) (by rw [hz2]; omega) (by omega)
        rw [hz1] at h
        simpa [pixZ, Value.cells] using h
      clear hlen0 hcell hpl0 hpok hspt hv hroom
      obtain ⟨a1, a2, a3⟩ := al3 w (Obj.cells (planA n (.slice lo n.spots.length lc) (.slice ko n.curve.length kc)) 28) (Obj.cells #[.int .i64 (WN : Nat), .int .i64 (HN : Nat), .slice (some ⟨bk, off, none⟩) zs.length ca] 31) (Obj.cells #[.int .i64 0, .int .i64 0, .slice none 0 0] 34)
      have HB := hide (be3 w (Obj.cells (planA n (.slice lo n.spots.length lc) (.slice ko n.curve.length kc)) 28) (Obj.cells #[.int .i64 (WN : Nat), .int .i64 (HN : Nat), .slice (some ⟨bk, off, none⟩) zs.length ca] 31) (Obj.cells #[.int .i64 0, .int .i64 0, .slice none 0 0] 34))
      obtain ⟨p0, p1, p2⟩ := cells3 a2
      go_enter Try.func11, Try.ntmps11
      go_wp2_with (refine wpList_load_row rfl 28 _ rfl _ rfl _ _ _ _ a1 Try.underlying28 rfl (by kernel_rfl) ?_)
      clear p0 p1 p2
      have hl1 := (Array.getElem?_eq_some_iff.1 a1).1
      have hl2 := (Array.getElem?_eq_some_iff.1 a2).1
      have hl3 := (Array.getElem?_eq_some_iff.1 a3).1
      generalize ((w.alloc (Obj.cells (planA n (.slice lo n.spots.length lc) (.slice ko n.curve.length kc)) 28)).alloc (Obj.cells #[.int .i64 (WN : Nat), .int .i64 (HN : Nat), .slice (some ⟨bk, off, none⟩) zs.length ca] 31)).alloc (Obj.cells #[.int .i64 0, .int .i64 0, .slice none 0 0] 34) = U at *
      refine (HFI.out _ HB.out).mono ?_
      rintro e w1 ⟨rfl, hb1⟩
      have HS := hide (show ∀ v, Below U.heap.size U v → v.cell? ⟨w.heap.size + 1, 0, none⟩ = some (.int .i64 (WN : Nat)) ∧ v.cell? ⟨w.heap.size + 1, 1, none⟩ = some (.int .i64 (HN : Nat)) ∧ v.cell? ⟨w.heap.size + 1, 2, none⟩ = some (.slice (some ⟨bk, off, none⟩) zs.length ca) from fun v h => cells3 ((h.block _ hl2).trans a2))
      go_upto_region 6 with fail
      have hs1 := hb1.size
      go_cut [9] from 16 (fun q v => ∃ QX so cap, q = .pointer (some ⟨QX, 0, none⟩) ∧ v.heap[QX]? = some (.cells #[.int .i64 (WN : Nat), .int .i64 (HN : Nat), .slice so 0 cap] 34 (0, 0)) ∧ v.ownsRow w.heap.size 41 3 (.slice so 0 cap) 0 [] ∧ U.heap.size ≤ QX ∧ Below U.heap.size U v)
      case first =>
        have hWd : Below U.heap.size U w1.drew := hb1.drew
        have hSd := HS.out _ hWd
        have hmx : Try.prog.follows .mixedOrders = true := by kernel_rfl
        refine wp_region_last (S := fun v : World => v.cell? ⟨w.heap.size + 1, 0, none⟩ = some (.int .i64 (WN : Nat)) ∧ v.cell? ⟨w.heap.size + 1, 1, none⟩ = some (.int .i64 (HN : Nat)) ∧ v.cell? ⟨w.heap.size + 1, 2, none⟩ = some (.slice (some ⟨bk, off, none⟩) zs.length ca)) (f := 10) hmx ?_
        show wpAnyF _ _ _ _ _ _ 11 _ _ w1.drew
        refine wpAnyF_takeD (i := 0) (oi := _) (v := ?vv1) (some 28) rfl rfl (by kernel_rfl) (by kernel_rfl) (by kernel_rfl) (by kernel_rfl) (by kernel_rfl) (fun _ _ _ h => h) (Or.inl ⟨by rfl, ?yy1⟩) hSd ?rr1
        case yy1 => (intro wq hSq; obtain ⟨_, _, _⟩ := hSq; go_simp <;> with_reducible rfl)
        simp only [Act.put, List.setIfInBounds_toArray, List.set_cons_succ, List.set_cons_zero]
        refine wpAnyF_takeD (i := 2) (oi := _) (v := ?vv2) (some 30) rfl rfl (by kernel_rfl) (by kernel_rfl) (by kernel_rfl) (by kernel_rfl) (by kernel_rfl) (fun _ _ _ h => h) (Or.inl ⟨by rfl, ?yy2⟩) hSd ?rr2
        case yy2 => (intro wq hSq; obtain ⟨_, _, _⟩ := hSq; go_simp <;> with_reducible rfl)
        simp only [Act.put, List.setIfInBounds_toArray, List.set_cons_succ, List.set_cons_zero]
        refine wpAnyF_takeD (i := 4) (oi := _) (v := ?vv3) (some 32) rfl rfl (by kernel_rfl) (by kernel_rfl) (by kernel_rfl) (by kernel_rfl) (by kernel_rfl) (fun _ _ _ h => h) (Or.inl ⟨by rfl, ?yy3⟩) hSd ?rr3
        case yy3 => (intro wq hSq; obtain ⟨_, _, _⟩ := hSq; go_simp <;> with_reducible rfl)
        simp only [Act.put, List.setIfInBounds_toArray, List.set_cons_succ, List.set_cons_zero]
        refine wpAnyF_takeD (i := 1) (oi := _) (v := ?vv4) (some 29) rfl rfl (by kernel_rfl) (by kernel_rfl) (by kernel_rfl) (by kernel_rfl) (by kernel_rfl) (fun _ _ _ h => h) (Or.inl ⟨by rfl, ?yy4⟩) hSd ?rr4
        case yy4 => (intro wq hSq; obtain ⟨_, _, _⟩ := hSq; go_simp <;> with_reducible rfl)
        simp only [Act.put, List.setIfInBounds_toArray, List.set_cons_succ, List.set_cons_zero]
        refine wpAnyF_takeD (i := 3) (oi := _) (v := ?vv5) (some 31) rfl rfl (by kernel_rfl) (by kernel_rfl) (by kernel_rfl) (by kernel_rfl) (by kernel_rfl) (fun _ _ _ h => h) (Or.inl ⟨by rfl, ?yy5⟩) hSd ?rr5
        case yy5 => (intro wq hSq; obtain ⟨_, _, _⟩ := hSq; go_simp <;> with_reducible rfl)
        simp only [Act.put, List.setIfInBounds_toArray, List.set_cons_succ, List.set_cons_zero]
        refine wpAnyF_takeD (i := 5) (oi := _) (v := ?vv6) (some 33) rfl rfl (by kernel_rfl) (by kernel_rfl) (by kernel_rfl) (by kernel_rfl) (by kernel_rfl) (fun _ _ _ h => h) (Or.inl ⟨by rfl, ?yy6⟩) hSd ?rr6
        case yy6 => (intro wq hSq; obtain ⟨_, _, _⟩ := hSq; go_simp <;> with_reducible rfl)
        simp only [Act.put, List.setIfInBounds_toArray, List.set_cons_succ, List.set_cons_zero]
        refine wpAnyF_takeD (i := 6) (oi := _) (v := ?vv7) (some 34) rfl rfl (by kernel_rfl) (by kernel_rfl) (by kernel_rfl) (by kernel_rfl) (by kernel_rfl) (fun _ _ _ h => h) (Or.inl ⟨by rfl, ?yy7⟩) hSd ?rr7
        case yy7 => (intro wq hSq; obtain ⟨_, _, _⟩ := hSq; go_simp <;> with_reducible rfl)
        simp only [Act.put, List.setIfInBounds_toArray, List.set_cons_succ, List.set_cons_zero]
        refine wpAnyF_two (i := 7) (j := 9) (oi := _) (oj := _) (by kernel_rfl) rfl rfl (fun K' hK => ?brA) (fun K' hK => ?brB)
        case brA =>
          rw [if_pos (by rfl)]
          go_simp
          have hB1 : Below U.heap.size U (w1.alloc (Obj.cells (madeCells #[.int .i64 0, .int .i64 0, .int .i64 0] (zs.length * 3)) 41)).drew := (hb1.alloc hb1.size _).drew
          have hSd := HS.out _ hB1
          refine hK.out _ _ hSd ?_
          clear hK
          try simp only [Act.put]
          refine wpAnyF_takeD (i := 8) (oi := _) (v := ?vv8) (some 36) rfl rfl (by kernel_rfl) (by kernel_rfl) (by kernel_rfl) (by kernel_rfl) (by kernel_rfl) (fun _ _ _ h => h) (Or.inl ⟨by rfl, ?yy8⟩) hSd ?rr8
          case yy8 => (intro wq hSq; obtain ⟨_, _, _⟩ := hSq; go_simp <;> with_reducible rfl)
          simp only [Act.put, List.setIfInBounds_toArray, List.set_cons_succ, List.set_cons_zero]
          refine wpAnyF_one (i := 9) (o := _) (by kernel_rfl) rfl (fun K' hK => ?_)
          rw [if_pos (by rfl)]
          go_simp
          have hB2 : Below U.heap.size U ((w1.alloc (Obj.cells (madeCells #[.int .i64 0, .int .i64 0, .int .i64 0] (zs.length * 3)) 41)).alloc (Obj.cells #[.int .i64 0, .int .i64 0, .slice none 0 0] 34)).drew := ((hb1.alloc hb1.size _).alloc (by simp; omega) _).drew
          have hSd := HS.out _ hB2
          refine hK.out _ _ hSd ?_
          clear hK
          try simp only [Act.put]
          refine wpAnyF_last (o := _) (by kernel_rfl) rfl (fun K' hK => ?_)
          rw [if_pos (by rfl)]
          go_simp
          refine hK.out _ _ ?_
          clear hK
          refine wpAnyF_done (by kernel_rfl) ?_ _
          try simp only [Act.put]
          clear hSd
          go_wp2
          go_meet
          case rel => exact ⟨w1.heap.size + 1, some ⟨w1.heap.size, 0, none⟩, zs.length, rfl, (al2 w1 (Obj.cells (madeCells #[.int .i64 0, .int .i64 0, .int .i64 0] (zs.length * 3)) 41) (Obj.cells #[.int .i64 (WN : Nat), .int .i64 (HN : Nat), .slice (some ⟨w1.heap.size, 0, none⟩) 0 zs.length] 34)).2, (World.ownsRow_made (base := w.heap.size) (e := 41) (size := 3) w1 (madeCells #[.int .i64 0, .int .i64 0, .int .i64 0] (zs.length * 3)) zs.length (Nat.le_trans HB.out.size hs1) (by unfold maxLen; omega) (by simp [madeCells])).alloc (Obj.cells #[.int .i64 (WN : Nat), .int .i64 (HN : Nat), .slice (some ⟨w1.heap.size, 0, none⟩) 0 zs.length] 34), by omega, ((hb1.alloc hb1.size (Obj.cells (madeCells #[.int .i64 0, .int .i64 0, .int .i64 0] (zs.length * 3)) 41)).alloc (by simp; omega) (Obj.cells #[.int .i64 (WN : Nat), .int .i64 (HN : Nat), .slice (some ⟨w1.heap.size, 0, none⟩) 0 zs.length] 34)).drew⟩
        case brB =>
          rw [if_pos (by rfl)]
          go_simp
          have hBz : Below U.heap.size U (w1.alloc (Obj.cells #[.int .i64 0, .int .i64 0, .slice none 0 0] 34)).drew := (hb1.alloc hb1.size _).drew
          have hSd := HS.out _ hBz
          refine hK.out _ _ hSd ?_
          clear hK
          try simp only [Act.put]
          have gz0 : (w1.alloc (Obj.cells #[.int .i64 0, .int .i64 0, .slice none 0 0] 34)).drew.heap[w1.heap.size]? = _ := al1 w1 (Obj.cells #[.int .i64 0, .int .i64 0, .slice none 0 0] 34)
          have hlz := (Array.getElem?_eq_some_iff.1 gz0).1
          generalize (w1.alloc (Obj.cells #[.int .i64 0, .int .i64 0, .slice none 0 0] 34)).drew = Vz at *
          have hq : U.heap.size ≤ w1.heap.size := hs1
          generalize w1.heap.size = QX at *
          refine wpAnyF_one (i := 7) (o := _) (by kernel_rfl) rfl (fun K' hK => ?_)
          rw [if_pos (by rfl)]
          go_simp
          have hB1 : Below U.heap.size U (Vz.alloc (Obj.cells (madeCells #[.int .i64 0, .int .i64 0, .int .i64 0] (zs.length * 3)) 41)) := hBz.alloc hBz.size _
          have hSd := HS.out _ hB1
          refine hK.out _ _ hSd ?_
          clear hK
          try simp only [Act.put]
          refine wpAnyF_takeD (i := 8) (oi := _) (v := ?vv9) (some 36) rfl rfl (by kernel_rfl) (by kernel_rfl) (by kernel_rfl) (by kernel_rfl) (by kernel_rfl) (fun _ _ _ h => h) (Or.inl ⟨by rfl, ?yy9⟩) hSd ?rr9
          case yy9 => (intro wq hSq; obtain ⟨_, _, _⟩ := hSq; go_simp <;> with_reducible rfl)
          simp only [Act.put, List.setIfInBounds_toArray, List.set_cons_succ, List.set_cons_zero]
          have gz := ((bel_alloc Vz (Obj.cells (madeCells #[.int .i64 0, .int .i64 0, .int .i64 0] (zs.length * 3)) 41)).block QX hlz).trans gz0
          have ho := World.ownsRow_made (base := w.heap.size) (e := 41) (size := 3) Vz (madeCells #[.int .i64 0, .int .i64 0, .int .i64 0] (zs.length * 3)) zs.length (Nat.le_trans HB.out.size hBz.size) (by unfold maxLen; omega) (by simp [madeCells])
          have hsz : (Vz.alloc (Obj.cells (madeCells #[.int .i64 0, .int .i64 0, .int .i64 0] (zs.length * 3)) 41)).heap.size = Vz.heap.size + 1 := by simp
          generalize Vz.alloc (Obj.cells (madeCells #[.int .i64 0, .int .i64 0, .int .i64 0] (zs.length * 3)) 41) = Vy at *
          generalize Vz.heap.size = MX at *
          obtain ⟨z0, z1, z2⟩ := cells3 gz
          have f0 := Lib.frozen_of_heap gz 0
          have f1 := Lib.frozen_of_heap gz 1
          have f2 := Lib.frozen_of_heap gz 2
          obtain ⟨vS, _, _, _⟩ := box3_set gz (.int .i64 (WN : Nat)) (.int .i64 (HN : Nat)) (.slice (some ⟨MX, 0, none⟩) 0 zs.length) w (Nat.le_trans HB.out.size hq) (HB.out.trans (hB1.mono HB.out.size))
          have hB4 := set3_below hB1 hq (.int .i64 (WN : Nat)) (.int .i64 (HN : Nat)) (.slice (some ⟨MX, 0, none⟩) 0 zs.length)
          have hne : (Value.slice (some ⟨MX, 0, none⟩) 0 zs.length).ownBlock ≠ some QX := fun e => own_ne ho gz (by decide) e.symm
          have HO := hide (own_set3 ho hne (.int .i64 (WN : Nat)) (.int .i64 (HN : Nat)) (.slice (some ⟨MX, 0, none⟩) 0 zs.length))
          refine wpAnyF_last (o := _) (by kernel_rfl) rfl (fun K' hK => ?_)
          rw [if_pos (by rfl)]
          go_simp
          refine hK.out _ _ ?_
          clear hK
          refine wpAnyF_done (by kernel_rfl) ?_ _
          try simp only [Act.put]
          clear hSd
          go_wp2
          go_meet
          case rel => exact ⟨QX, some ⟨MX, 0, none⟩, zs.length, rfl, vS, HO.out, hq, hB4⟩
      case rest =>
        obtain ⟨QX, so0, cap0, rfl, vS0, vO0, hQX, vB0⟩ := hcut
        have HJ0 := hide (show StJ w n WN HN zs RN (planA n (.slice lo n.spots.length lc) (.slice ko n.curve.length kc)) (.slice (some ⟨bk, off, none⟩) zs.length ca) QX 0 wc from ⟨[], so0, cap0, rfl, by simp, vS0, vO0, (vB0.block _ hl1).trans a1, (vB0.block _ hl2).trans a2, (vB0.block _ hl3).trans a3, HB.out.trans (vB0.mono HB.out.size)⟩)
        have hQw : w.heap.size + 2 < QX := by omega
        clear vS0 vO0 vB0 a1 a2 a3 hb1 HS hl1 hl2 hl3 hs1
        go_wp2_with fail
        go_loopw [10] (fun i wr => ∃ f : Nat, f ≤ HN ∧ i = .int .i64 f ∧ StJ w n WN HN zs RN (planA n (.slice lo n.spots.length lc) (.slice ko n.curve.length kc)) (.slice (some ⟨bk, off, none⟩) zs.length ca) QX f wr) (fun i _ => HN - (intOf i).toNat)
        case atStart => exact ⟨0, Nat.zero_le _, rfl, HJ0.out⟩
        case round =>
          clear HJ0
          obtain ⟨f, hf, rfl, hJ⟩ := hrel
          have HJ := hide hJ
          obtain ⟨l, so, cap, j1, j2, j3, j4, j5, j6, j7, j8⟩ := hJ
          obtain ⟨q0, q1, q2⟩ := cells3 j6
          by_cases hlt : f < HN
          · have hd : decide ((f : Int) < (HN : Int)) = true := by simp; omega
            have hr2 : 1 ≤ RN := by omega
            have hgt := stripTo_gt (H := HN) hr2 hlt
            have hle := stripTo_le (rows := RN) hlt
            have HST := hide (stripsF_step n (W := WN) (zs := zs) hr2 hlt)
            have HPL := hide (stripP_length n HLEN.out hr2 hlt)
            have HCA := hide (fun (u : World) (hu : Below w.heap.size w u) => strip_call HF0.out HLEN.out hr2 hlt (.slice lo n.spots.length lc) (.slice ko n.curve.length kc) bk off ca u (HP.out.below hu (Nat.le_refl _)) (Nat.lt_of_lt_of_le hbk hu.size) hzl (fun j hj => (hu.cell (p := ⟨bk, off + j, none⟩) hbk).trans (HC.out j hj)))
            have hmin : (if (HN : Int) - (f : Int) < (RN : Int) then (HN : Int) - (f : Int) else (RN : Int)) = ((stripTo HN RN f - f : Nat) : Int) := by unfold stripTo; split <;> omega
            have HRO := hide (fun u : World => rowsOf_any WN HN (needA f) (needB (stripTo HN RN f) HN) bk off ca (by omega) (by omega) (by omega) zs HLEN.out (by unfold needA needB; omega) (by unfold needB; omega) hca u)
            have HNE := hide (fun u : World => needed_any f (stripTo HN RN f) HN (by omega) (by omega) (by omega) u)
            obtain ⟨P, hP⟩ : ∃ P, stripP n WN HN zs RN f = P := ⟨_, rfl⟩
            rw [hP] at HST HPL HCA
            clear hP
            obtain ⟨t, ht⟩ : ∃ t, stripTo HN RN f = t := ⟨_, rfl⟩
            rw [ht] at HST HPL HCA hgt hle hmin HRO HNE
            clear ht
            obtain ⟨NA, hNA⟩ : ∃ NA, needA f = NA := ⟨_, rfl⟩
            rw [hNA] at HCA HRO HNE
            clear hNA
            obtain ⟨NB, hNB⟩ : ∃ NB, needB t HN = NB := ⟨_, rfl⟩
            rw [hNB] at HCA HRO HNE
            clear hNB
            obtain ⟨m, hm⟩ : ∃ m, t - f = m := ⟨_, rfl⟩
            rw [hm] at hmin HPL
            have hwt : IntKind.i64.wrap ((f : Int) + (m : Int)) = (t : Int) := by rw [IntWalk.i64_in _ (by omega)]; omega
            have hwh : IntKind.i64.wrap ((HN : Int) - (f : Int)) = (HN : Int) - (f : Int) := IntWalk.i64_in _ (by omega)
            have HMM := hide hm
            clear hm
            have hl1 := (Array.getElem?_eq_some_iff.1 j5).1
            have hl2 := (Array.getElem?_eq_some_iff.1 j6).1
            have HS := hide (show ∀ v, Below wr.heap.size wr v → v.cell? ⟨w.heap.size + 1, 0, none⟩ = some (.int .i64 (WN : Nat)) ∧ v.cell? ⟨w.heap.size + 1, 1, none⟩ = some (.int .i64 (HN : Nat)) ∧ v.cell? ⟨w.heap.size + 1, 2, none⟩ = some (.slice (some ⟨bk, off, none⟩) zs.length ca) ∧ v.heap[w.heap.size]? = some (.cells (planA n (.slice lo n.spots.length lc) (.slice ko n.curve.length kc)) 28 (0, 0)) from fun v h => by
              obtain ⟨y0, y1, y2⟩ := cells3 ((h.block _ hl2).trans j6)
              exact ⟨y0, y1, y2, (h.block _ hl1).trans j5⟩)
            clear j1 j2 j3 j4 j5 j6 j7
            go_wp2_with fail
            refine (HNE.out _).mono ?_
            rintro e w4 ⟨rfl, rfl⟩
            go_upto_region 11 with fail
            clear q0 q1 q2
            go_cut [14, 15] from 37 to 81 (fun q e v => ∃ PX ro rc, q = .pointer (some ⟨PX, 0, none⟩) ∧ e = .int .i64 0 ∧ v.heap[PX]? = some (.cells #[.int .i64 (WN : Nat), .int .i64 ((t : Int) - (f : Int)), .slice ro P.length rc] 34 (0, 0)) ∧ IsPix v (.slice ro P.length rc) P ∧ wr.heap.size ≤ PX ∧ Below wr.heap.size wr v)
            case first =>
              have hWd : Below wr.heap.size wr wr.drew := (Below.refl _ _).drew
              have hSd := HS.out _ hWd
              have hmx : Try.prog.follows .mixedOrders = true := by kernel_rfl
              refine wp_region_last (S := fun v : World => v.cell? ⟨w.heap.size + 1, 0, none⟩ = some (.int .i64 (WN : Nat)) ∧ v.cell? ⟨w.heap.size + 1, 1, none⟩ = some (.int .i64 (HN : Nat)) ∧ v.cell? ⟨w.heap.size + 1, 2, none⟩ = some (.slice (some ⟨bk, off, none⟩) zs.length ca) ∧ v.heap[w.heap.size]? = some (.cells (planA n (.slice lo n.spots.length lc) (.slice ko n.curve.length kc)) 28 (0, 0))) (f := 16) hmx ?_
              show wpAnyF _ _ _ _ _ _ 17 _ _ wr.drew
              refine wpAnyF_takeD (i := 0) (oi := _) (v := .agg (planA n (.slice lo n.spots.length lc) (.slice ko n.curve.length kc))) (some 58) rfl rfl (by kernel_rfl) (by kernel_rfl) (by kernel_rfl) (by kernel_rfl) (by kernel_rfl) (fun _ _ _ h => h) (Or.inl ⟨by rfl, ?yy10⟩) hSd ?rr10
              case yy10 => (intro wq hSq; exact exec_load_row 28 _ rfl _ rfl _ _ _ _ hSq.2.2.2 Try.underlying28 rfl (by kernel_rfl))
              simp only [Act.put, List.setIfInBounds_toArray, List.set_cons_succ, List.set_cons_zero]
              refine wpAnyF_takeD (i := 1) (oi := _) (v := ?vv11) (some 59) rfl rfl (by kernel_rfl) (by kernel_rfl) (by kernel_rfl) (by kernel_rfl) (by kernel_rfl) (fun _ _ _ h => h) (Or.inl ⟨by rfl, ?yy11⟩) hSd ?rr11
              case yy11 => (intro wq hSq; obtain ⟨_, _, _, _⟩ := hSq; go_simp <;> with_reducible rfl)
              simp only [Act.put, List.setIfInBounds_toArray, List.set_cons_succ, List.set_cons_zero]
              refine wpAnyF_takeD (i := 2) (oi := _) (v := ?vv12) (some 60) rfl rfl (by kernel_rfl) (by kernel_rfl) (by kernel_rfl) (by kernel_rfl) (by kernel_rfl) (fun _ _ _ h => h) (Or.inl ⟨by rfl, ?yy12⟩) hSd ?rr12
              case yy12 => (intro wq hSq; obtain ⟨_, _, _, _⟩ := hSq; go_simp <;> with_reducible rfl)
              simp only [Act.put, List.setIfInBounds_toArray, List.set_cons_succ, List.set_cons_zero]
              refine wpAnyF_takeD (i := 3) (oi := _) (v := ?vv13) (some 61) rfl rfl (by kernel_rfl) (by kernel_rfl) (by kernel_rfl) (by kernel_rfl) (by kernel_rfl) (fun _ _ _ h => h) (Or.inl ⟨by rfl, ?yy13⟩) hSd ?rr13
              case yy13 => (intro wq hSq; obtain ⟨_, _, _, _⟩ := hSq; go_simp <;> with_reducible rfl)
              simp only [Act.put, List.setIfInBounds_toArray, List.set_cons_succ, List.set_cons_zero]
              refine wpAnyF_takeD (i := 5) (oi := _) (v := ?vv14) (some 63) rfl rfl (by kernel_rfl) (by kernel_rfl) (by kernel_rfl) (by kernel_rfl) (by kernel_rfl) (fun _ _ _ h => h) (Or.inl ⟨by rfl, ?yy14⟩) hSd ?rr14
              case yy14 => (intro wq hSq; obtain ⟨_, _, _, _⟩ := hSq; go_simp <;> with_reducible rfl)
              simp only [Act.put, List.setIfInBounds_toArray, List.set_cons_succ, List.set_cons_zero]
              refine wpAnyF_takeD (i := 6) (oi := _) (v := ?vv15) (some 64) rfl rfl (by kernel_rfl) (by kernel_rfl) (by kernel_rfl) (by kernel_rfl) (by kernel_rfl) (fun _ _ _ h => h) (Or.inl ⟨by rfl, ?yy15⟩) hSd ?rr15
              case yy15 => (intro wq hSq; obtain ⟨_, _, _, _⟩ := hSq; go_simp <;> with_reducible rfl)
              simp only [Act.put, List.setIfInBounds_toArray, List.set_cons_succ, List.set_cons_zero]
              refine wpAnyF_takeD (i := 7) (oi := _) (v := ?vv16) (some 65) rfl rfl (by kernel_rfl) (by kernel_rfl) (by kernel_rfl) (by kernel_rfl) (by kernel_rfl) (fun _ _ _ h => h) (Or.inl ⟨by rfl, ?yy16⟩) hSd ?rr16
              case yy16 => (intro wq hSq; obtain ⟨_, _, _, _⟩ := hSq; go_simp <;> with_reducible rfl)
              simp only [Act.put, List.setIfInBounds_toArray, List.set_cons_succ, List.set_cons_zero]
              refine wpAnyF_takeD (i := 8) (oi := _) (v := ?vv17) (some 66) rfl rfl (by kernel_rfl) (by kernel_rfl) (by kernel_rfl) (by kernel_rfl) (by kernel_rfl) (fun _ _ _ h => h) (Or.inl ⟨by rfl, ?yy17⟩) hSd ?rr17
              case yy17 => (intro wq hSq; obtain ⟨_, _, _, _⟩ := hSq; go_simp <;> with_reducible rfl)
              simp only [Act.put, List.setIfInBounds_toArray, List.set_cons_succ, List.set_cons_zero]
              refine wpAnyF_takeD (i := 9) (oi := _) (v := ?vv18) (some 67) rfl rfl (by kernel_rfl) (by kernel_rfl) (by kernel_rfl) (by kernel_rfl) (by kernel_rfl) (fun _ _ _ h => h) (Or.inl ⟨by rfl, ?yy18⟩) hSd ?rr18
              case yy18 => (intro wq hSq; obtain ⟨_, _, _, _⟩ := hSq; go_simp <;> with_reducible rfl)
              simp only [Act.put, List.setIfInBounds_toArray, List.set_cons_succ, List.set_cons_zero]
              refine wpAnyF_two (i := 4) (j := 14) (oi := _) (oj := _) (by kernel_rfl) rfl rfl (fun K' hK => ?brA) (fun K' hK => ?brB)
              case brA =>
                rw [if_pos (by rfl)]
                go_simp
                refine (HRO.out _).mono ?_
                rintro e V1 ⟨rfl, hbm⟩
                have hB1 : Below wr.heap.size wr V1 := hWd.trans (hbm.mono hWd.size)
                have hSd := HS.out _ hB1
                refine hK.out _ _ hSd ?_
                clear hK
                try simp only [Act.put]
                refine wpAnyF_two (i := 10) (j := 14) (oi := _) (oj := _) (by kernel_rfl) rfl rfl (fun K' hK => ?brC) (fun K' hK => ?brD)
                case brC =>
                  rw [if_pos (by rfl)]
                  go_simp
                  refine (HCA.out _ (j8.trans (hB1.mono j8.size))).mono ?_
                  rintro e V2 ⟨r, rfl, hr, hbd, hfr⟩
                  have hB2 : Below wr.heap.size wr V2 := hB1.trans (hbd.mono hB1.size)
                  have hSd := HS.out _ hB2
                  refine hK.out _ _ hSd ?_
                  clear hK
                  try simp only [Act.put]
                  have HR := hide hr
                  obtain ⟨ro, rc, rfl, x1, x2⟩ := hr
                  clear x1 x2
                  refine wpAnyF_takeD (i := 11) (oi := _) (v := ?vv19) (some 57) rfl rfl (by kernel_rfl) (by kernel_rfl) (by kernel_rfl) (by kernel_rfl) (by kernel_rfl) (fun _ _ _ h => h) (Or.inl ⟨by rfl, ?yy19⟩) hSd ?rr19
                  case yy19 => (intro wq hSq; obtain ⟨_, _, _, _⟩ := hSq; go_simp <;> with_reducible rfl)
                  simp only [Act.put, List.setIfInBounds_toArray, List.set_cons_succ, List.set_cons_zero]
                  refine wpAnyF_takeD (i := 12) (oi := _) (v := ?vv20) (some 69) rfl rfl (by kernel_rfl) (by kernel_rfl) (by kernel_rfl) (by kernel_rfl) (by kernel_rfl) (fun _ _ _ h => h) (Or.inl ⟨by rfl, ?yy20⟩) hSd ?rr20
                  case yy20 => (intro wq hSq; obtain ⟨_, _, _, _⟩ := hSq; go_simp <;> with_reducible rfl)
                  simp only [Act.put, List.setIfInBounds_toArray, List.set_cons_succ, List.set_cons_zero]
                  refine wpAnyF_takeD (i := 13) (oi := _) (v := ?vv21) (some 70) rfl rfl (by kernel_rfl) (by kernel_rfl) (by kernel_rfl) (by kernel_rfl) (by kernel_rfl) (fun _ _ _ h => h) (Or.inl ⟨by rfl, ?yy21⟩) hSd ?rr21
                  case yy21 => (intro wq hSq; obtain ⟨_, _, _, _⟩ := hSq; go_simp <;> with_reducible rfl)
                  simp only [Act.put, List.setIfInBounds_toArray, List.set_cons_succ, List.set_cons_zero]
                  refine wpAnyF_one (i := 14) (o := _) (by kernel_rfl) rfl (fun K' hK => ?_)
                  rw [if_pos (by rfl)]
                  go_simp
                  have hB3 : Below wr.heap.size wr (V2.alloc (Obj.cells #[.int .i64 0, .int .i64 0, .slice none 0 0] 34)) := hB2.alloc hB2.size _
                  have hSd := HS.out _ hB3
                  refine hK.out _ _ hSd ?_
                  clear hK
                  try simp only [Act.put]
                  refine wpAnyF_one (i := 15) (o := _) (by kernel_rfl) rfl (fun K' hK => ?_)
                  rw [if_pos (by rfl)]
                  go_simp
                  have hB4 : Below wr.heap.size wr (V2.alloc (Obj.cells #[.int .i64 (WN : Nat), .int .i64 ((t : Int) - (f : Int)), .slice ro P.length rc] 34)) := hB2.alloc hB2.size _
                  have hSd := HS.out _ hB4
                  refine hK.out _ _ hSd ?_
                  clear hK
                  try simp only [Act.put]
                  refine wpAnyF_last (o := _) (by kernel_rfl) rfl (fun K' hK => ?_)
                  rw [if_pos (by rfl)]
                  go_simp
                  refine hK.out _ _ ?_
                  clear hK
                  refine wpAnyF_done (by kernel_rfl) ?_ _
                  try simp only [Act.put]
                  clear hSd
                  go_wp2
                  go_meet
                  case rel => exact ⟨V2.heap.size, ro, rc, rfl, rfl, al1 V2 _, HR.out.alloc _, hB2.size, hB4⟩
                case brD =>
                  rw [if_pos (by rfl)]
                  go_simp
                  have hBz : Below wr.heap.size wr (V1.alloc (Obj.cells #[.int .i64 0, .int .i64 0, .slice none 0 0] 34)) := hB1.alloc hB1.size _
                  have hSd := HS.out _ hBz
                  refine hK.out _ _ hSd ?_
                  clear hK
                  try simp only [Act.put]
                  have gz0 := al1 V1 (Obj.cells #[.int .i64 0, .int .i64 0, .slice none 0 0] 34)
                  have hlz := (Array.getElem?_eq_some_iff.1 gz0).1
                  have hq := hB1.size
                  generalize V1.alloc (Obj.cells #[.int .i64 0, .int .i64 0, .slice none 0 0] 34) = Vz at *
                  generalize V1.heap.size = PX at *
                  refine wpAnyF_one (i := 10) (o := _) (by kernel_rfl) rfl (fun K' hK => ?_)
                  rw [if_pos (by rfl)]
                  go_simp
                  refine (HCA.out _ (j8.trans (hBz.mono j8.size))).mono ?_
                  rintro e V2 ⟨r, rfl, hr, hbd, hfr⟩
                  have hB2 : Below wr.heap.size wr V2 := hBz.trans (hbd.mono hBz.size)
                  have hSd := HS.out _ hB2
                  refine hK.out _ _ hSd ?_
                  clear hK
                  try simp only [Act.put]
                  have HR := hide hr
                  obtain ⟨ro, rc, rfl, x1, x2⟩ := hr
                  clear x1 x2
                  refine wpAnyF_takeD (i := 11) (oi := _) (v := ?vv22) (some 57) rfl rfl (by kernel_rfl) (by kernel_rfl) (by kernel_rfl) (by kernel_rfl) (by kernel_rfl) (fun _ _ _ h => h) (Or.inl ⟨by rfl, ?yy22⟩) hSd ?rr22
                  case yy22 => (intro wq hSq; obtain ⟨_, _, _, _⟩ := hSq; go_simp <;> with_reducible rfl)
                  simp only [Act.put, List.setIfInBounds_toArray, List.set_cons_succ, List.set_cons_zero]
                  refine wpAnyF_takeD (i := 12) (oi := _) (v := ?vv23) (some 69) rfl rfl (by kernel_rfl) (by kernel_rfl) (by kernel_rfl) (by kernel_rfl) (by kernel_rfl) (fun _ _ _ h => h) (Or.inl ⟨by rfl, ?yy23⟩) hSd ?rr23
                  case yy23 => (intro wq hSq; obtain ⟨_, _, _, _⟩ := hSq; go_simp <;> with_reducible rfl)
                  simp only [Act.put, List.setIfInBounds_toArray, List.set_cons_succ, List.set_cons_zero]
                  refine wpAnyF_takeD (i := 13) (oi := _) (v := ?vv24) (some 70) rfl rfl (by kernel_rfl) (by kernel_rfl) (by kernel_rfl) (by kernel_rfl) (by kernel_rfl) (fun _ _ _ h => h) (Or.inl ⟨by rfl, ?yy24⟩) hSd ?rr24
                  case yy24 => (intro wq hSq; obtain ⟨_, _, _, _⟩ := hSq; go_simp <;> with_reducible rfl)
                  simp only [Act.put, List.setIfInBounds_toArray, List.set_cons_succ, List.set_cons_zero]
                  have gz := (hbd.block PX hlz).trans gz0
                  obtain ⟨z0, z1, z2⟩ := cells3 gz
                  have f0 := Lib.frozen_of_heap gz 0
                  have f1 := Lib.frozen_of_heap gz 1
                  have f2 := Lib.frozen_of_heap gz 2
                  obtain ⟨vS, _, _, _⟩ := box3_set gz (.int .i64 (WN : Nat)) (.int .i64 ((t : Int) - (f : Int))) (.slice ro P.length rc) w (Nat.le_trans j8.size hq) (j8.trans (hB2.mono j8.size))
                  have hB4 := set3_below hB2 hq (.int .i64 (WN : Nat)) (.int .i64 ((t : Int) - (f : Int))) (.slice ro P.length rc)
                  have HX := hide (HR.out.set3 hfr hlz (.int .i64 (WN : Nat)) (.int .i64 ((t : Int) - (f : Int))) (.slice ro P.length rc))
                  refine wpAnyF_one (i := 15) (o := _) (by kernel_rfl) rfl (fun K' hK => ?_)
                  rw [if_pos (by rfl)]
                  go_simp
                  have hSd := HS.out _ hB4
                  refine hK.out _ _ hSd ?_
                  clear hK
                  try simp only [Act.put]
                  clear z0 z1 z2 f0 f1 f2
                  refine wpAnyF_last (o := _) (by kernel_rfl) rfl (fun K' hK => ?_)
                  rw [if_pos (by rfl)]
                  go_simp
                  refine hK.out _ _ ?_
                  clear hK
                  refine wpAnyF_done (by kernel_rfl) ?_ _
                  try simp only [Act.put]
                  clear hSd
                  go_wp2
                  go_meet
                  case rel => exact ⟨PX, ro, rc, rfl, rfl, vS, HX.out, hq, hB4⟩
              case brB =>
                rw [if_pos (by rfl)]
                go_simp
                have hBz : Below wr.heap.size wr (wr.alloc (Obj.cells #[.int .i64 0, .int .i64 0, .slice none 0 0] 34)).drew := ((Below.refl _ _).alloc (Nat.le_refl _) _).drew
                have hSd := HS.out _ hBz
                refine hK.out _ _ hSd ?_
                clear hK
                try simp only [Act.put]
                have gz0 : (wr.alloc (Obj.cells #[.int .i64 0, .int .i64 0, .slice none 0 0] 34)).drew.heap[wr.heap.size]? = _ := al1 wr (Obj.cells #[.int .i64 0, .int .i64 0, .slice none 0 0] 34)
                have hlz := (Array.getElem?_eq_some_iff.1 gz0).1
                obtain ⟨PX, hPX⟩ : ∃ PX, wr.heap.size = PX := ⟨_, rfl⟩
                have hq : wr.heap.size ≤ PX := by omega
                generalize (wr.alloc (Obj.cells #[.int .i64 0, .int .i64 0, .slice none 0 0] 34)).drew = Vz at *
                have HPX := hide hPX
                rw [hPX] at gz0 hlz ⊢
                clear hPX
                refine wpAnyF_one (i := 4) (o := _) (by kernel_rfl) rfl (fun K' hK => ?_)
                rw [if_pos (by rfl)]
                go_simp
                refine (HRO.out _).mono ?_
                rintro e V1 ⟨rfl, hbm⟩
                have hB1 : Below wr.heap.size wr V1 := hBz.trans (hbm.mono hBz.size)
                have hSd := HS.out _ hB1
                refine hK.out _ _ hSd ?_
                clear hK
                try simp only [Act.put]
                replace gz0 := (hbm.block PX hlz).trans gz0
                replace hlz := (Array.getElem?_eq_some_iff.1 gz0).1
                refine wpAnyF_one (i := 10) (o := _) (by kernel_rfl) rfl (fun K' hK => ?_)
                rw [if_pos (by rfl)]
                go_simp
                refine (HCA.out _ (j8.trans (hB1.mono j8.size))).mono ?_
                rintro e V2 ⟨r, rfl, hr, hbd, hfr⟩
                have hB2 : Below wr.heap.size wr V2 := hB1.trans (hbd.mono hB1.size)
                have hSd := HS.out _ hB2
                refine hK.out _ _ hSd ?_
                clear hK
                try simp only [Act.put]
                have HR := hide hr
                obtain ⟨ro, rc, rfl, x1, x2⟩ := hr
                clear x1 x2
                refine wpAnyF_takeD (i := 11) (oi := _) (v := ?vv25) (some 57) rfl rfl (by kernel_rfl) (by kernel_rfl) (by kernel_rfl) (by kernel_rfl) (by kernel_rfl) (fun _ _ _ h => h) (Or.inl ⟨by rfl, ?yy25⟩) hSd ?rr25
                case yy25 => (intro wq hSq; obtain ⟨_, _, _, _⟩ := hSq; go_simp <;> with_reducible rfl)
                simp only [Act.put, List.setIfInBounds_toArray, List.set_cons_succ, List.set_cons_zero]
                refine wpAnyF_takeD (i := 12) (oi := _) (v := ?vv26) (some 69) rfl rfl (by kernel_rfl) (by kernel_rfl) (by kernel_rfl) (by kernel_rfl) (by kernel_rfl) (fun _ _ _ h => h) (Or.inl ⟨by rfl, ?yy26⟩) hSd ?rr26
                case yy26 => (intro wq hSq; obtain ⟨_, _, _, _⟩ := hSq; go_simp <;> with_reducible rfl)
                simp only [Act.put, List.setIfInBounds_toArray, List.set_cons_succ, List.set_cons_zero]
                refine wpAnyF_takeD (i := 13) (oi := _) (v := ?vv27) (some 70) rfl rfl (by kernel_rfl) (by kernel_rfl) (by kernel_rfl) (by kernel_rfl) (by kernel_rfl) (fun _ _ _ h => h) (Or.inl ⟨by rfl, ?yy27⟩) hSd ?rr27
                case yy27 => (intro wq hSq; obtain ⟨_, _, _, _⟩ := hSq; go_simp <;> with_reducible rfl)
                simp only [Act.put, List.setIfInBounds_toArray, List.set_cons_succ, List.set_cons_zero]
                have gz := (hbd.block PX hlz).trans gz0
                obtain ⟨z0, z1, z2⟩ := cells3 gz
                have f0 := Lib.frozen_of_heap gz 0
                have f1 := Lib.frozen_of_heap gz 1
                have f2 := Lib.frozen_of_heap gz 2
                obtain ⟨vS, _, _, _⟩ := box3_set gz (.int .i64 (WN : Nat)) (.int .i64 ((t : Int) - (f : Int))) (.slice ro P.length rc) w (Nat.le_trans j8.size hq) (j8.trans (hB2.mono j8.size))
                have hB4 := set3_below hB2 hq (.int .i64 (WN : Nat)) (.int .i64 ((t : Int) - (f : Int))) (.slice ro P.length rc)
                have HX := hide (HR.out.set3 hfr hlz (.int .i64 (WN : Nat)) (.int .i64 ((t : Int) - (f : Int))) (.slice ro P.length rc))
                refine wpAnyF_one (i := 15) (o := _) (by kernel_rfl) rfl (fun K' hK => ?_)
                rw [if_pos (by rfl)]
                go_simp
                have hSd := HS.out _ hB4
                refine hK.out _ _ hSd ?_
                clear hK
                try simp only [Act.put]
                clear z0 z1 z2 f0 f1 f2
                refine wpAnyF_last (o := _) (by kernel_rfl) rfl (fun K' hK => ?_)
                rw [if_pos (by rfl)]
                go_simp
                refine hK.out _ _ ?_
                clear hK
                refine wpAnyF_done (by kernel_rfl) ?_ _
                try simp only [Act.put]
                clear hSd
                go_wp2
                go_meet
                case rel => exact ⟨PX, ro, rc, rfl, rfl, vS, HX.out, hq, hB4⟩
            case rest =>
              obtain ⟨PX, ro, rc, rfl, rfl, vS, hpx, hPX, vB⟩ := hcut
              have HJ2 := hide (HJ.out.below vB)
              clear HJ j8 HS
              obtain ⟨l, so, cap, k1, k2, k3, k4, k5, k6, k7, k8⟩ := HJ2.out
              have hP1 : 1 * 1 ≤ m * WN := Nat.mul_le_mul (by have := HMM.out; omega) (by omega)
              obtain ⟨ro2, rc2, hpe, _, hpor⟩ := hpx
              cases hpe
              rcases hpor with hpor | ⟨pb, po, rfl, hpb, hpc⟩
              · exfalso
                rw [← HPL.out, hpor] at hP1
                simp at hP1
              have hlen : l.length + P.length ≤ t * WN := by
                rw [HPL.out, show t = f + m from by have := HMM.out; omega, Nat.add_mul]
                omega
              have HLN := hide hlen
              have hl4 : t * WN ≤ HN * WN := Nat.mul_le_mul_right _ hle
              rw [← HLEN.out] at hl4
              have hl5 : l.length + P.length ≤ 4096 := by omega
              have hP2 : 1 ≤ P.length := by rw [HPL.out]; omega
              obtain ⟨q0, q1, q2⟩ := cells3 k3
              obtain ⟨p0, p1, p2⟩ := cells3 vS
              have HFC := hide (flat_cells hpc)
              have HK := hide k4
              have HK3 := hide k3
              clear hlen hl4 hpc
              go_wp2_with (at_builtin; refine wpList_append_own _ rfl _ _ 32 rfl w.heap.size 41 i0 pixZ 3 24 Try.underlying32 hi hz0 hz1 hz2 rfl (by omega) _ l.length (l.flatMap pixL) rfl HK.out ⟨pb, po, none⟩ P.length rc (P.flatMap pixL) rfl ?qc1 ?qc2 ?qc3 ?qc4 ?qc5 ?qc6 ?_)
              case qc1 => rw [flat_length]
              case qc2 => exact HFC.out
              case qc3 => exact flat_one P
              case qc4 => unfold maxLen; omega
              case qc5 => omega
              case qc6 => exact k8.size
              intro v' w1 hown hgrow hnil
              rcases id hown.2 with ⟨_, hn0⟩ | ⟨g, cp, cur, rfl, _⟩
              · exfalso; omega
              obtain ⟨_, c2, fz, g1, g2, g3, g4⟩ := app_gen (by decide) HK3.out HK.out k8 (Nat.le_refl _) (show w.heap.size ≤ QX by omega) (Below.refl _ _) hgrow hown
              have HJ3 := hide (show StJ w n WN HN zs RN (planA n (.slice lo n.spots.length lc) (.slice ko n.curve.length kc)) (.slice (some ⟨bk, off, none⟩) zs.length ca) QX t _ from ⟨l ++ P, some ⟨g, 0, none⟩, cp, by rw [List.append_assoc, ← HST.out]; exact k1, by rw [List.length_append]; exact HLN.out, by rw [List.length_append]; exact g1, by rw [List.length_append, List.flatMap_append]; exact g2,
                (g4 _ (Array.getElem?_eq_some_iff.1 k5).1 (own_ne HK.out k5 (by decide)) (by omega)).trans k5, (g4 _ (Array.getElem?_eq_some_iff.1 k6).1 (own_ne HK.out k6 (by decide)) (by omega)).trans k6, (g4 _ (Array.getElem?_eq_some_iff.1 k7).1 (own_ne HK.out k7 (by decide)) (by omega)).trans k7, g3⟩)
              clear g1 g2 g3 g4 k1 k2 k3 k4 k5 k6 k7 k8 hown hgrow hnil q0 q1 q2 p0 p1 p2
              go_wp2
              go_roundw
              case rel => exact ⟨t, hle, by go_num, HJ3.out⟩
              case measure => simp [intOf]; omega
          · have hd : decide ((f : Int) < (HN : Int)) = false := by simp; omega
            obtain rfl : f = HN := by omega
            rw [stripsF_end, List.append_nil] at j1
            obtain ⟨y0, y1, y2⟩ := cells3 j3
            obtain ⟨z0, z1, z2⟩ := cells3 (b := w.heap.size + 1 + 1) j7
            have f0 := Lib.frozen_of_heap (b := w.heap.size + 1 + 1) j7 0
            have f1 := Lib.frozen_of_heap (b := w.heap.size + 1 + 1) j7 1
            have f2 := Lib.frozen_of_heap (b := w.heap.size + 1 + 1) j7 2
            have hll2 : l.length ≤ 4096 := by rw [← HLEN.out] at j2; omega
            have hpx : IsPix wr (.slice so l.length cap) l := IsPix.own j4 (by omega)
            have hne : (Value.slice so l.length cap).ownBlock ≠ some (w.heap.size + 1 + 1) := fun e => own_ne j4 j7 (by decide) e.symm
            have HX := hide (hpx.other (set3_size wr (w.heap.size + 1 + 1) (.int .i64 (WN : Nat)) (.int .i64 (f : Nat)) (.slice so l.length cap)) (fun b hb => set3_heap _ _ _ _ _ b hb) hne)
            have HF := hide (set3_below j8 (show w.heap.size ≤ w.heap.size + 1 + 1 by omega) (.int .i64 (WN : Nat)) (.int .i64 (f : Nat)) (.slice so l.length cap))
            have HFR := hide (Fresh.own j4)
            have HSL := hide (show stripsL n WN f zs RN = l from j1.symm)
            obtain ⟨N, hN⟩ : ∃ N, l.length = N := ⟨_, rfl⟩
            rw [hN] at HX HF HFR y2
            clear j4 hpx hne hN
            go_wp2
            refine bodyPost_ret (v := .tuple #[.agg #[.int .i64 (WN : Nat), .int .i64 (f : Nat), .slice so N cap], .int .i64 0]) (by simp [results, Try.results11, go_sem, z0, z1, z2]) rfl ⟨_, rfl, ?_, HF.out, HFR.out⟩
            show IsPix _ _ (stripsL n WN f zs RN)
            rw [HSL.out]
            exact HX.out
    · have hd1 : decide (rows < 1) = true := by simp; omega
      have he : E = 3 := by rw [HPE.out, if_neg hr1]
      subst he
      obtain ⟨ao, ca, rfl, _, _⟩ := hv
      obtain ⟨a1, a2, a3⟩ := al3 w (Obj.cells (planA n (.slice lo n.spots.length lc) (.slice ko n.curve.length kc)) 28) (Obj.cells #[.int .i64 W, .int .i64 H, .slice ao zs.length ca] 31) (Obj.cells #[.int .i64 0, .int .i64 0, .slice none 0 0] 34)
      have HB := hide (be3 w (Obj.cells (planA n (.slice lo n.spots.length lc) (.slice ko n.curve.length kc)) 28) (Obj.cells #[.int .i64 W, .int .i64 H, .slice ao zs.length ca] 31) (Obj.cells #[.int .i64 0, .int .i64 0, .slice none 0 0] 34))
      obtain ⟨p0, p1, p2⟩ := cells3 a2
      go_enter Try.func11, Try.ntmps11
      go_wp2_with (refine wpList_load_row rfl 28 _ rfl _ rfl _ _ _ _ a1 Try.underlying28 rfl (by kernel_rfl) ?_)
      clear p0 p1 p2
      have hl1 := (Array.getElem?_eq_some_iff.1 a1).1
      have hl2 := (Array.getElem?_eq_some_iff.1 a2).1
      have hl3 := (Array.getElem?_eq_some_iff.1 a3).1
      generalize ((w.alloc (Obj.cells (planA n (.slice lo n.spots.length lc) (.slice ko n.curve.length kc)) 28)).alloc (Obj.cells #[.int .i64 W, .int .i64 H, .slice ao zs.length ca] 31)).alloc (Obj.cells #[.int .i64 0, .int .i64 0, .slice none 0 0] 34) = U at *
      refine (HFI.out _ HB.out).mono ?_
      rintro e w1 ⟨rfl, hb1⟩
      have g3 := (hb1.block _ hl3).trans a3
      obtain ⟨z0, z1, z2⟩ := cells3 (b := w.heap.size + 1 + 1) g3
      have f0 := Lib.frozen_of_heap (b := w.heap.size + 1 + 1) g3 0
      have f1 := Lib.frozen_of_heap (b := w.heap.size + 1 + 1) g3 1
      have f2 := Lib.frozen_of_heap (b := w.heap.size + 1 + 1) g3 2
      have HBF := hide (set3_below (HB.out.trans (hb1.mono HB.out.size)) (show w.heap.size ≤ w.heap.size + 1 + 1 by omega) (.int .i64 0) (.int .i64 0) (.slice none 0 0))
      go_wp2
      refine bodyPost_ret (v := .tuple #[.agg #[.int .i64 0, .int .i64 0, .slice none 0 0], .int .i64 3]) (by simp [results, Try.results11, go_sem, z0, z1, z2]) rfl ⟨.slice none 0 0, ?_, ?_, HBF.out, Fresh.nil _⟩
      · first | rfl | rw [okW, if_neg HEN.out, okW, if_neg HEN.out]
      · first | exact IsPix.nil _ | (rw [okL, if_neg HEN.out]; exact IsPix.nil _)
  · rw [if_neg hF] at HPE
    have HEN0 := hide hF
    obtain ⟨F, hFF⟩ : ∃ F, fitsE n W H zs H = F := ⟨_, rfl⟩
    rw [hFF] at HFI HPE HEN0 hF
    have hn : (F != 0) = true := by simpa using hF
    have he : E = F := HPE.out
    subst he
    have HEN := hide hF
    clear hFF hF
    obtain ⟨ao, ca, rfl, _, _⟩ := hv
    obtain ⟨a1, a2, a3⟩ := al3 w (Obj.cells (planA n (.slice lo n.spots.length lc) (.slice ko n.curve.length kc)) 28) (Obj.cells #[.int .i64 W, .int .i64 H, .slice ao zs.length ca] 31) (Obj.cells #[.int .i64 0, .int .i64 0, .slice none 0 0] 34)
    have HB := hide (be3 w (Obj.cells (planA n (.slice lo n.spots.length lc) (.slice ko n.curve.length kc)) 28) (Obj.cells #[.int .i64 W, .int .i64 H, .slice ao zs.length ca] 31) (Obj.cells #[.int .i64 0, .int .i64 0, .slice none 0 0] 34))
    obtain ⟨p0, p1, p2⟩ := cells3 a2
    go_enter Try.func11, Try.ntmps11
    go_wp2_with (refine wpList_load_row rfl 28 _ rfl _ rfl _ _ _ _ a1 Try.underlying28 rfl (by kernel_rfl) ?_)
    clear p0 p1 p2
    have hl1 := (Array.getElem?_eq_some_iff.1 a1).1
    have hl2 := (Array.getElem?_eq_some_iff.1 a2).1
    have hl3 := (Array.getElem?_eq_some_iff.1 a3).1
    generalize ((w.alloc (Obj.cells (planA n (.slice lo n.spots.length lc) (.slice ko n.curve.length kc)) 28)).alloc (Obj.cells #[.int .i64 W, .int .i64 H, .slice ao zs.length ca] 31)).alloc (Obj.cells #[.int .i64 0, .int .i64 0, .slice none 0 0] 34) = U at *
    refine (HFI.out _ HB.out).mono ?_
    rintro e w1 ⟨rfl, hb1⟩
    have g3 := (hb1.block _ hl3).trans a3
    obtain ⟨z0, z1, z2⟩ := cells3 (b := w.heap.size + 1 + 1) g3
    have f0 := Lib.frozen_of_heap (b := w.heap.size + 1 + 1) g3 0
    have f1 := Lib.frozen_of_heap (b := w.heap.size + 1 + 1) g3 1
    have f2 := Lib.frozen_of_heap (b := w.heap.size + 1 + 1) g3 2
    have HBF := hide (set3_below (HB.out.trans (hb1.mono HB.out.size)) (show w.heap.size ≤ w.heap.size + 1 + 1 by omega) (.int .i64 0) (.int .i64 0) (.slice none 0 0))
    go_wp2
    refine bodyPost_ret (v := .tuple #[.agg #[.int .i64 0, .int .i64 0, .slice none 0 0], .int .i64 E]) (by simp [results, Try.results11, go_sem, z0, z1, z2]) rfl ⟨.slice none 0 0, ?_, ?_, HBF.out, Fresh.nil _⟩
    · first | rfl | rw [okW, if_neg HEN.out, okW, if_neg HEN.out]
    · first | exact IsPix.nil _ | (rw [okL, if_neg HEN.out]; exact IsPix.nil _)
end Go.Proofs.Ytolcndchfnifhac

namespace Go.Proofs.Ytolcndchfnifhac
set_option linter.unusedVariables false
def idM (k : Nat) : Int := if k = 0 ∨ k = 4 ∨ k = 8 then 4096 else 0
def plainN : Plan := ⟨0, fun _ => 0, 65535, [], fun _ => 256, idM, [(0, 0), (65535, 65535)], 64⟩
def zeroN : Plan := ⟨0, fun _ => 0, 0, [], fun _ => 0, fun _ => 0, [], 0⟩
def tallL : List Int := (List.range 24).map fun (i : Nat) => (i : Int) * 1000 % 7919
theorem plain_ok : planE plainN = 0 := by decide +kernel
theorem zero_no : planE zeroN = 3 := by decide +kernel
theorem tall_fits : fitsE plainN 2 12 tallL 12 = 0 := by decide +kernel
theorem tall_strips : stripsL plainN 2 12 tallL 5 = dev7 plainN 2 12 tallL := by decide +kernel
theorem tall_part : partE plainN 2 9 (tallL.drop 6) 3 12 7 9 = 0 := by decide +kernel
theorem tall_rows : partL plainN 2 9 (tallL.drop 6) 3 7 9 = ((dev7 plainN 2 12 tallL).drop 14).take 4 := by decide +kernel
end Go.Proofs.Ytolcndchfnifhac

namespace Go.Proofs.Ytolcndchfnifhac
open Go.RowKit
theorem pts_lit (w : World) (ls : List Pt) (cs : Array Value) (t : TypeId) (n : Nat) (hn : ls.length = n) (hc : ∀ j, j < n → cs[j * 2]? = some (.int .i64 (ptAt ls j).1) ∧ cs[j * 2 + 1]? = some (.int .i64 (ptAt ls j).2)) (hb : n ≤ 4096) : IsPts (w.alloc (.cells cs t)) (.slice (some ⟨w.heap.size, 0, none⟩) n n) ls := by
  subst hn
  refine ⟨_, _, rfl, by omega, .inr ⟨w.heap.size, 0, rfl, by simp, fun j hj => ?_⟩⟩
  obtain ⟨h1, h2⟩ := hc j hj
  rw [Nat.zero_add]
  exact ⟨by rw [Lib.cell_of_heap (al1 w _)]; exact h1, by rw [Lib.cell_of_heap (al1 w _)]; exact h2⟩
end Go.Proofs.Ytolcndchfnifhac

namespace Go.Proofs.Ytolcndchfnifhac
set_option linter.unusedVariables false
open Go.RowKit
abbrev plainA (cv : Value) : Array Value := #[.int .i64 0, .int .i64 0, .int .i64 0, .int .i64 0, .int .i64 0, .int .i64 65535, .slice none 0 0, .int .i64 256, .int .i64 256, .int .i64 256, .int .i64 4096, .int .i64 0, .int .i64 0, .int .i64 0, .int .i64 4096, .int .i64 0, .int .i64 0, .int .i64 0, .int .i64 4096, cv, .int .i64 64]
theorem line2_fresh (w : World) : Calls Try.prog 18 #[] w fun e w' => ∃ v, e = .returned v ∧ IsPts w' v [(0, 0), (65535, 65535)] ∧ Below w.heap.size w w' ∧ Fresh w.heap.size v := by
  go_enter Try.func18, Try.ntmps18
  go_wp2
  go_ret
  refine ⟨_, rfl, pts_lit w [(0, 0), (65535, 65535)] _ _ 2 rfl (fun j hj => ?_) (by omega), bel_alloc _ _, fun b e => ?_, Nat.le_refl _⟩
  · rcases (show j = 0 ∨ j = 1 by omega) with rfl | rfl <;> exact ⟨rfl, rfl⟩
  · cases e
    exact Nat.le_refl _
set_option maxRecDepth 100000 in
set_option maxHeartbeats 1600000 in
theorem plain_any (w : World) : Calls Try.prog 9 #[] w fun e w' => ∃ cv, e = .returned (.agg (plainA cv)) ∧ IsPlan w' plainN (.slice none 0 0) cv ∧ Below w.heap.size w w' := by
  have a1 := al1 w (Obj.cells planZ 28)
  have hl := (Array.getElem?_eq_some_iff.1 a1).1
  have HB := hide (bel_alloc w (Obj.cells planZ 28))
  go_enter Try.func9, Try.ntmps9
  go_wp2_with fail
  refine (line2_fresh _).mono ?_
  rintro e w1 ⟨v, rfl, hv, hb, hfr⟩
  have g1 := (hb.block _ hl).trans a1
  have hB := bel_trans HB.out hb
  have HV := hide hv
  obtain ⟨co, cc, rfl, x1, x2⟩ := hv
  clear x1 x2
  have i1 : (Try.prog.info? 28).map (·.size) = some (plainA (.slice co 2 cc)).size := by kernel_rfl
  have i3 : (plainA (.slice co 2 cc)).all (·.oneCell') = true := by simp [Value.oneCell']
  have HX := hide (HV.out.other (k := w.heap.size) (w' := w1.setRow w.heap.size (plainA (.slice co 2 cc))) (by simp) (fun b hb => setRow_other _ _ _ _ hb) (hfr.ne hl))
  have HF := hide (below_setRow (g := w.heap.size) hB (Nat.le_refl _) (plainA (.slice co 2 cc)))
  have HG := hide (setRow_heap _ _ _ (plainA (.slice co 2 cc)) _ _ g1)
  go_wp2_with (refine wpList_store_row rfl 28 _ _ rfl w.heap.size (plainA (.slice co 2 cc)) rfl rfl _ _ g1 i1 rfl i3 ?_)
  refine bodyPost_ret (v := .agg (plainA (.slice co 2 cc))) (results_cell_row Try.results9 _ _ _ _ _ _ _ rfl HG.out Try.underlying28 rfl (by kernel_rfl)) rfl ⟨_, rfl, ⟨⟨none, 0, rfl, by decide, .inl rfl⟩, HX.out⟩, HF.out⟩
end Go.Proofs.Ytolcndchfnifhac
