/- The reference's Mixed. -/
import Derived.Test.YtolcndchfnifhabRefMixRow
namespace Go.Proofs.Ytolcndchfnifhab
open Go.RowKit

/-- the numbers that stand when kk rows are mixed. -/
def mixArr (v : Px) (kk : Nat) : Array Value := #[.int .i64 (if 1 ≤ kk then v.1 else 0), .int .i64 (if 2 ≤ kk then v.2.1 else 0), .int .i64 (if 3 ≤ kk then v.2.2 else 0)]

theorem mixArr_0 (x y z : Int) : (mixArr (x, y, z) 0).setIfInBounds 0 (.int .i64 x) = mixArr (x, y, z) 1 := by simp [mixArr]
theorem mixArr_1 (x y z : Int) : (mixArr (x, y, z) 1).setIfInBounds 1 (.int .i64 y) = mixArr (x, y, z) 2 := by simp [mixArr]
theorem mixArr_2 (x y z : Int) : (mixArr (x, y, z) 2).setIfInBounds 2 (.int .i64 z) = mixArr (x, y, z) 3 := by simp [mixArr]

set_option maxRecDepth 100000 in
set_option maxHeartbeats 3200000 in
theorem mixed_any (W H : Int) (v : Value) (ps : List Px) (m : Nat → Int) (hm : matOk m = true) (hps : pxsOk ps = true) (h4 : ps.length ≤ 4096) (w : World) (hv : IsPix w v ps) :
    Calls Try.prog 33 #[.agg #[.int .i64 W, .int .i64 H, v], .agg (nine m)] w fun e w' => ∃ r, e = .returned (.agg #[.int .i64 W, .int .i64 H, r]) ∧ IsPix w' r (ps.map (mixP m)) ∧ Below w.heap.size w w' ∧ Fresh w.heap.size r := by
  have HPS := hide hps
  have HM := hide (fun k (hk : k < 9) => matOk_get hm k hk)
  clear hps hm
  obtain ⟨ao, ca, rfl, hla, hc⟩ := hv
  obtain ⟨i0, hi, hz0, hz1, hz2⟩ := info_parts Try.infoPixel
  have HC := hide (show ∀ j, j < ps.length → ∃ bk off, ao = some ⟨bk, off, none⟩ ∧ bk < w.heap.size ∧ w.cell? ⟨bk, off + j * 3, none⟩ = some (.int .i64 (pxAt ps j).1) ∧ w.cell? ⟨bk, off + j * 3 + 1, none⟩ = some (.int .i64 (pxAt ps j).2.1) ∧ w.cell? ⟨bk, off + j * 3 + 2, none⟩ = some (.int .i64 (pxAt ps j).2.2) from fun j hj => by
    rcases hc with h | ⟨b, off, h1, h2, h3⟩
    · subst h; simp at hj
    · have := h3 j hj
      rw [pxAt_get ps j hj] at this
      exact ⟨b, off, h1, h2, this⟩)
  clear hc
  go_enter Try.func33, Try.ntmps33
  go_wp2_with fail
  obtain ⟨a1, a2, a3, a4⟩ := al4 w (Obj.cells #[.int .i64 W, .int .i64 H, .slice ao ps.length ca] 39) (Obj.cells (nine m) 53) (Obj.cells #[.int .i64 0, .int .i64 0, .slice none 0 0] 39) (Obj.cells #[.int .i64 W, .int .i64 H, .slice none 0 0] 39)
  have hB := be4 w (Obj.cells #[.int .i64 W, .int .i64 H, .slice ao ps.length ca] 39) (Obj.cells (nine m) 53) (Obj.cells #[.int .i64 0, .int .i64 0, .slice none 0 0] 39) (Obj.cells #[.int .i64 W, .int .i64 H, .slice none 0 0] 39)
  generalize (((w.alloc (Obj.cells #[.int .i64 W, .int .i64 H, .slice ao ps.length ca] 39)).alloc (Obj.cells (nine m) 53)).alloc (Obj.cells #[.int .i64 0, .int .i64 0, .slice none 0 0] 39)).alloc (Obj.cells #[.int .i64 W, .int .i64 H, .slice none 0 0] 39) = U at *
  go_loopw [6] (fun i wr => ∃ k : Nat, k ≤ ps.length ∧ i = .int .i64 k ∧ ∃ so scap, wr.heap[w.heap.size + 3]? = some (.cells #[.int .i64 W, .int .i64 H, .slice so k scap] 39 (0, 0)) ∧ wr.ownsRow w.heap.size 50 3 (.slice so k scap) k (((ps.take k).map (mixP m)).flatMap pixL) ∧ wr.heap[w.heap.size]? = some (.cells #[.int .i64 W, .int .i64 H, .slice ao ps.length ca] 39 (0, 0)) ∧ wr.heap[w.heap.size + 1]? = some (.cells (nine m) 53 (0, 0)) ∧ wr.heap[w.heap.size + 2]? = some (.cells #[.int .i64 0, .int .i64 0, .slice none 0 0] 39 (0, 0)) ∧ Below w.heap.size w wr) (fun i _ => ps.length - (intOf i).toNat)
  case atStart => exact ⟨0, Nat.zero_le _, rfl, none, 0, a4, World.ownsRow_nil _ _ _ _, a1, a2, a3, hB⟩
  case round =>
    clear a1 a2 a3 a4 hB
    obtain ⟨k, hk, rfl, so, scap, j1, j2, j3, jm, j4, j5⟩ := hrel
    obtain ⟨_, _, q2⟩ := cells3 j3
    have hlq := (Array.getElem?_eq_some_iff.1 j3).1
    by_cases hlt : k < ps.length
    · have hd : decide ((k : Int) < (ps.length : Int)) = true := by simp; omega
      obtain ⟨bk, off, rfl, hbl, c0, c1, c2⟩ := HC.out k hlt
      have d0 := (j5.cell (p := ⟨bk, off + k * 3, none⟩) hbl).trans c0
      have d1 := (j5.cell (p := ⟨bk, off + k * 3 + 1, none⟩) hbl).trans c1
      have d2 := (j5.cell (p := ⟨bk, off + k * 3 + 2, none⟩) hbl).trans c2
      obtain ⟨⟨r1, r2⟩, ⟨g1, g2⟩, u1, u2⟩ := (pxOk_iff _).1 (pxAt_ok HPS.out k)
      have HST := hide (show ((ps.take (k + 1)).map (mixP m)).flatMap pixL = ((ps.take k).map (mixP m)).flatMap pixL ++ pixL (mixP m (pxAt ps k)) by
        rw [List.take_succ_eq_append_getElem hlt, pxAt_get ps k hlt, List.map_append, List.flatMap_append]; simp)
      obtain ⟨⟨r, g, u⟩, hp⟩ : ∃ p, pxAt ps k = p := ⟨_, rfl⟩
      rw [hp] at d0 d1 d2 r1 r2 g1 g2 u1 u2 HST
      clear c0 c1 c2 hp
      go_wp2_with fail
      refine (parts_any (r, g, u) _).mono ?_
      rintro e w1 ⟨rfl, hb1⟩
      go_wp2_with fail
      have hZ := be2 w1 (Obj.cells #[.int .i64 r, .int .i64 g, .int .i64 u] 25) (Obj.cells #[.int .i64 0, .int .i64 0, .int .i64 0] 25)
      obtain ⟨zc0, zl0⟩ := al2 w1 (Obj.cells #[.int .i64 r, .int .i64 g, .int .i64 u] 25) (Obj.cells #[.int .i64 0, .int .i64 0, .int .i64 0] 25)
      have hW1 := hb1
      have hs1 := hb1.size
      have lm := (Array.getElem?_eq_some_iff.1 jm).1
      have lP := (Array.getElem?_eq_some_iff.1 j1).1
      have lR := (Array.getElem?_eq_some_iff.1 j4).1
      have hZ0 := bel_trans hb1 hZ
      have zm0 := (hZ0.block _ lm).trans jm
      have hsZ : ((w1.alloc (Obj.cells #[.int .i64 r, .int .i64 g, .int .i64 u] 25)).alloc (Obj.cells #[.int .i64 0, .int .i64 0, .int .i64 0] 25)).heap.size = w1.heap.size + 2 := by simp
      have hlw : w.heap.size + 1 < w1.heap.size := by omega
      have HZ := hide (show ((w1.alloc (Obj.cells #[.int .i64 r, .int .i64 g, .int .i64 u] 25)).alloc (Obj.cells #[.int .i64 0, .int .i64 0, .int .i64 0] 25)).heap.size = w1.heap.size + 2 from hsZ)
      clear hsZ
      generalize (w1.alloc (Obj.cells #[.int .i64 r, .int .i64 g, .int .i64 u] 25)).alloc (Obj.cells #[.int .i64 0, .int .i64 0, .int .i64 0] 25) = Z0 at *
      go_loopw [9] (fun i wz => ∃ kk : Nat, kk ≤ 3 ∧ i = .int .i64 kk ∧ wz.heap[w1.heap.size + 1]? = some (.cells (mixArr (mixP m (r, g, u)) kk) 25 (0, 0)) ∧ (∀ b, b ≠ w1.heap.size + 1 → wz.heap[b]? = Z0.heap[b]?) ∧ wz.heap.size = Z0.heap.size ∧ Below w1.heap.size w1 wz) (fun i _ => 3 - (intOf i).toNat)
      case atStart => exact ⟨0, by omega, rfl, zl0, fun _ _ => rfl, rfl, hZ⟩
      case round =>
        obtain ⟨kk, hkk, rfl, zL, zO, zS, zB⟩ := hrel
        have zm := (zO (w.heap.size + 1) (by omega)).trans zm0
        obtain ⟨y0, y1, y2⟩ := cells3 ((zO w1.heap.size (by omega)).trans zc0)
        clear d0 d1 d2 q2
        by_cases hk3 : kk < 3
        · rcases (show kk = 0 ∨ kk = 1 ∨ kk = 2 by omega) with rfl | rfl | rfl
          · have e0 : wr.cell? ⟨w.heap.size + 1, 0, none⟩ = some (.int .i64 (m 0)) := by rw [Lib.cell_of_heap zm, nine_get m 0 (by omega)]
            have e1 : wr.cell? ⟨w.heap.size + 1, 1, none⟩ = some (.int .i64 (m 1)) := by rw [Lib.cell_of_heap zm, nine_get m 1 (by omega)]
            have e2 : wr.cell? ⟨w.heap.size + 1, 2, none⟩ = some (.int .i64 (m 2)) := by rw [Lib.cell_of_heap zm, nine_get m 2 (by omega)]
            have oL : wr.cell? ⟨w1.heap.size + 1, 0, none⟩ = some (.int .i64 0) := by rw [Lib.cell_of_heap zL]; rfl
            have oF : wr.frozen? ⟨w1.heap.size + 1, 0, none⟩ = false := Lib.frozen_of_heap zL 0
            obtain ⟨ma1, ma2⟩ := mul_bounds (HM.out 0 (by omega)).1 (HM.out 0 (by omega)).2 r1 r2 (by omega)
            obtain ⟨mb1, mb2⟩ := mul_bounds (HM.out 1 (by omega)).1 (HM.out 1 (by omega)).2 g1 g2 (by omega)
            obtain ⟨mc1, mc2⟩ := mul_bounds (HM.out 2 (by omega)).1 (HM.out 2 (by omega)).2 u1 u2 (by omega)
            have HV := hide (show (mixP m (r, g, u)).1 = clampV ((m 0 * r + m 1 * g + m 2 * u) / 4096) from rfl)
            obtain ⟨A, hA'⟩ : ∃ A, m 0 * r = A := ⟨_, rfl⟩
            rw [hA'] at ma1 ma2 HV
            obtain ⟨B, hB'⟩ : ∃ B, m 1 * g = B := ⟨_, rfl⟩
            rw [hB'] at mb1 mb2 HV
            obtain ⟨C, hC'⟩ : ∃ C, m 2 * u = C := ⟨_, rfl⟩
            rw [hC'] at mc1 mc2 HV
            have hwA : IntKind.i64.wrap A = A := IntWalk.i64_in _ (by omega)
            have hwB : IntKind.i64.wrap B = B := IntWalk.i64_in _ (by omega)
            have hwC : IntKind.i64.wrap C = C := IntWalk.i64_in _ (by omega)
            have hwAB : IntKind.i64.wrap (A + B) = A + B := IntWalk.i64_in _ (by omega)
            have hwABC : IntKind.i64.wrap (A + B + C) = A + B + C := IntWalk.i64_in _ (by omega)
            have HDN := hide (downQ (A + B + C) (by omega) (by omega))
            have HST2 := hide (show (wr.setCell ⟨w1.heap.size + 1, 0, none⟩ (.int .i64 (clampV ((A + B + C) / 4096)))).heap[w1.heap.size + 1]? = some (.cells (mixArr (mixP m (r, g, u)) 1) 25 (0, 0)) from by
              rw [heap_setCell_same wr (w1.heap.size + 1) 0 _ _ _ zL, ← HV.out]
              exact congrArg (fun t => some (Obj.cells t 25 (0, 0))) (mixArr_0 _ _ _))
            have hdr : Below wr.heap.size wr wr.drew := (Below.refl _ _).drew
            have n1 : w.heap.size + 1 ≠ w1.heap.size + 1 := by omega
            have n2 : ¬ (w.heap.size = w1.heap.size) := by omega
            have n3 : ¬ (w1.heap.size = w.heap.size) := by omega
            have ec : ((0 : Nat) : Int) = 0 := rfl
            rw [ec]
            have f0 : IntKind.i64.wrap (3 * 0) = 0 := by decide
            have f1 : IntKind.i64.wrap 0 = 0 := by decide
            have f2 : IntKind.i64.wrap (0 + 1) = 1 := by decide
            have f3 : IntKind.i64.wrap (0 + 2) = 2 := by decide
            have f4 : IntKind.i64.wrap 1 = 1 := by decide
            have f5 : IntKind.i64.wrap 2 = 2 := by decide
            go_wp2_with fail
            go_region_held3 (fun v => v.cell? ⟨w.heap.size + 1, 0, none⟩ = some (.int .i64 (m 0)) ∧ v.cell? ⟨w.heap.size + 1, 1, none⟩ = some (.int .i64 (m 1)) ∧ v.cell? ⟨w.heap.size + 1, 2, none⟩ = some (.int .i64 (m 2)) ∧ v.cell? ⟨w1.heap.size, 0, none⟩ = some (.int .i64 r) ∧ v.cell? ⟨w1.heap.size, 1, none⟩ = some (.int .i64 g) ∧ v.cell? ⟨w1.heap.size, 2, none⟩ = some (.int .i64 u))
              (go_keep)
              (first
                | (go_at_call 78; refine (HDN.out _).mono ?_; rintro e wq ⟨rfl, rfl⟩)
                | (go_at_call 60; refine (clamp_any _ _).mono ?_; rintro e wq ⟨rfl, rfl⟩))
            go_wp2
            go_roundw
            case rel => exact ⟨1, by omega, rfl, HST2.out, fun b hb => (Below.heap_setCell _ _ _ _ hb).trans (zO b hb), (show (wr.setCell ⟨w1.heap.size + 1, 0, none⟩ (.int .i64 (clampV ((A + B + C) / 4096)))).heap.size = Z0.heap.size by simpa [World.setCell] using zS), (zB.setCell (p := ⟨w1.heap.size + 1, 0, none⟩) (Nat.le_succ _) _).drew⟩
            case measure => simp [intOf]
          · have e0 : wr.cell? ⟨w.heap.size + 1, 3, none⟩ = some (.int .i64 (m 3)) := by rw [Lib.cell_of_heap zm, nine_get m 3 (by omega)]
            have e1 : wr.cell? ⟨w.heap.size + 1, 4, none⟩ = some (.int .i64 (m 4)) := by rw [Lib.cell_of_heap zm, nine_get m 4 (by omega)]
            have e2 : wr.cell? ⟨w.heap.size + 1, 5, none⟩ = some (.int .i64 (m 5)) := by rw [Lib.cell_of_heap zm, nine_get m 5 (by omega)]
            have oL : wr.cell? ⟨w1.heap.size + 1, 1, none⟩ = some (.int .i64 0) := by rw [Lib.cell_of_heap zL]; rfl
            have oF : wr.frozen? ⟨w1.heap.size + 1, 1, none⟩ = false := Lib.frozen_of_heap zL 1
            obtain ⟨ma1, ma2⟩ := mul_bounds (HM.out 3 (by omega)).1 (HM.out 3 (by omega)).2 r1 r2 (by omega)
            obtain ⟨mb1, mb2⟩ := mul_bounds (HM.out 4 (by omega)).1 (HM.out 4 (by omega)).2 g1 g2 (by omega)
            obtain ⟨mc1, mc2⟩ := mul_bounds (HM.out 5 (by omega)).1 (HM.out 5 (by omega)).2 u1 u2 (by omega)
            have HV := hide (show (mixP m (r, g, u)).2.1 = clampV ((m 3 * r + m 4 * g + m 5 * u) / 4096) from rfl)
            obtain ⟨A, hA'⟩ : ∃ A, m 3 * r = A := ⟨_, rfl⟩
            rw [hA'] at ma1 ma2 HV
            obtain ⟨B, hB'⟩ : ∃ B, m 4 * g = B := ⟨_, rfl⟩
            rw [hB'] at mb1 mb2 HV
            obtain ⟨C, hC'⟩ : ∃ C, m 5 * u = C := ⟨_, rfl⟩
            rw [hC'] at mc1 mc2 HV
            have hwA : IntKind.i64.wrap A = A := IntWalk.i64_in _ (by omega)
            have hwB : IntKind.i64.wrap B = B := IntWalk.i64_in _ (by omega)
            have hwC : IntKind.i64.wrap C = C := IntWalk.i64_in _ (by omega)
            have hwAB : IntKind.i64.wrap (A + B) = A + B := IntWalk.i64_in _ (by omega)
            have hwABC : IntKind.i64.wrap (A + B + C) = A + B + C := IntWalk.i64_in _ (by omega)
            have HDN := hide (downQ (A + B + C) (by omega) (by omega))
            have HST2 := hide (show (wr.setCell ⟨w1.heap.size + 1, 1, none⟩ (.int .i64 (clampV ((A + B + C) / 4096)))).heap[w1.heap.size + 1]? = some (.cells (mixArr (mixP m (r, g, u)) 2) 25 (0, 0)) from by
              rw [heap_setCell_same wr (w1.heap.size + 1) 1 _ _ _ zL, ← HV.out]
              exact congrArg (fun t => some (Obj.cells t 25 (0, 0))) (mixArr_1 _ _ _))
            have hdr : Below wr.heap.size wr wr.drew := (Below.refl _ _).drew
            have n1 : w.heap.size + 1 ≠ w1.heap.size + 1 := by omega
            have n2 : ¬ (w.heap.size = w1.heap.size) := by omega
            have n3 : ¬ (w1.heap.size = w.heap.size) := by omega
            have ec : ((1 : Nat) : Int) = 1 := rfl
            rw [ec]
            have f0 : IntKind.i64.wrap (3 * 1) = 3 := by decide
            have f1 : IntKind.i64.wrap 3 = 3 := by decide
            have f2 : IntKind.i64.wrap (3 + 1) = 4 := by decide
            have f3 : IntKind.i64.wrap (3 + 2) = 5 := by decide
            have f4 : IntKind.i64.wrap 4 = 4 := by decide
            have f5 : IntKind.i64.wrap 5 = 5 := by decide
            go_wp2_with fail
            go_region_held3 (fun v => v.cell? ⟨w.heap.size + 1, 3, none⟩ = some (.int .i64 (m 3)) ∧ v.cell? ⟨w.heap.size + 1, 4, none⟩ = some (.int .i64 (m 4)) ∧ v.cell? ⟨w.heap.size + 1, 5, none⟩ = some (.int .i64 (m 5)) ∧ v.cell? ⟨w1.heap.size, 0, none⟩ = some (.int .i64 r) ∧ v.cell? ⟨w1.heap.size, 1, none⟩ = some (.int .i64 g) ∧ v.cell? ⟨w1.heap.size, 2, none⟩ = some (.int .i64 u))
              (go_keep)
              (first
                | (go_at_call 78; refine (HDN.out _).mono ?_; rintro e wq ⟨rfl, rfl⟩)
                | (go_at_call 60; refine (clamp_any _ _).mono ?_; rintro e wq ⟨rfl, rfl⟩))
            go_wp2
            go_roundw
            case rel => exact ⟨2, by omega, rfl, HST2.out, fun b hb => (Below.heap_setCell _ _ _ _ hb).trans (zO b hb), (show (wr.setCell ⟨w1.heap.size + 1, 1, none⟩ (.int .i64 (clampV ((A + B + C) / 4096)))).heap.size = Z0.heap.size by simpa [World.setCell] using zS), (zB.setCell (p := ⟨w1.heap.size + 1, 1, none⟩) (Nat.le_succ _) _).drew⟩
            case measure => simp [intOf]
          · have e0 : wr.cell? ⟨w.heap.size + 1, 6, none⟩ = some (.int .i64 (m 6)) := by rw [Lib.cell_of_heap zm, nine_get m 6 (by omega)]
            have e1 : wr.cell? ⟨w.heap.size + 1, 7, none⟩ = some (.int .i64 (m 7)) := by rw [Lib.cell_of_heap zm, nine_get m 7 (by omega)]
            have e2 : wr.cell? ⟨w.heap.size + 1, 8, none⟩ = some (.int .i64 (m 8)) := by rw [Lib.cell_of_heap zm, nine_get m 8 (by omega)]
            have oL : wr.cell? ⟨w1.heap.size + 1, 2, none⟩ = some (.int .i64 0) := by rw [Lib.cell_of_heap zL]; rfl
            have oF : wr.frozen? ⟨w1.heap.size + 1, 2, none⟩ = false := Lib.frozen_of_heap zL 2
            obtain ⟨ma1, ma2⟩ := mul_bounds (HM.out 6 (by omega)).1 (HM.out 6 (by omega)).2 r1 r2 (by omega)
            obtain ⟨mb1, mb2⟩ := mul_bounds (HM.out 7 (by omega)).1 (HM.out 7 (by omega)).2 g1 g2 (by omega)
            obtain ⟨mc1, mc2⟩ := mul_bounds (HM.out 8 (by omega)).1 (HM.out 8 (by omega)).2 u1 u2 (by omega)
            have HV := hide (show (mixP m (r, g, u)).2.2 = clampV ((m 6 * r + m 7 * g + m 8 * u) / 4096) from rfl)
            obtain ⟨A, hA'⟩ : ∃ A, m 6 * r = A := ⟨_, rfl⟩
            rw [hA'] at ma1 ma2 HV
            obtain ⟨B, hB'⟩ : ∃ B, m 7 * g = B := ⟨_, rfl⟩
            rw [hB'] at mb1 mb2 HV
            obtain ⟨C, hC'⟩ : ∃ C, m 8 * u = C := ⟨_, rfl⟩
            rw [hC'] at mc1 mc2 HV
            have hwA : IntKind.i64.wrap A = A := IntWalk.i64_in _ (by omega)
            have hwB : IntKind.i64.wrap B = B := IntWalk.i64_in _ (by omega)
            have hwC : IntKind.i64.wrap C = C := IntWalk.i64_in _ (by omega)
            have hwAB : IntKind.i64.wrap (A + B) = A + B := IntWalk.i64_in _ (by omega)
            have hwABC : IntKind.i64.wrap (A + B + C) = A + B + C := IntWalk.i64_in _ (by omega)
            have HDN := hide (downQ (A + B + C) (by omega) (by omega))
            have HST2 := hide (show (wr.setCell ⟨w1.heap.size + 1, 2, none⟩ (.int .i64 (clampV ((A + B + C) / 4096)))).heap[w1.heap.size + 1]? = some (.cells (mixArr (mixP m (r, g, u)) 3) 25 (0, 0)) from by
              rw [heap_setCell_same wr (w1.heap.size + 1) 2 _ _ _ zL, ← HV.out]
              exact congrArg (fun t => some (Obj.cells t 25 (0, 0))) (mixArr_2 _ _ _))
            have hdr : Below wr.heap.size wr wr.drew := (Below.refl _ _).drew
            have n1 : w.heap.size + 1 ≠ w1.heap.size + 1 := by omega
            have n2 : ¬ (w.heap.size = w1.heap.size) := by omega
            have n3 : ¬ (w1.heap.size = w.heap.size) := by omega
            have ec : ((2 : Nat) : Int) = 2 := rfl
            rw [ec]
            have f0 : IntKind.i64.wrap (3 * 2) = 6 := by decide
            have f1 : IntKind.i64.wrap 6 = 6 := by decide
            have f2 : IntKind.i64.wrap (6 + 1) = 7 := by decide
            have f3 : IntKind.i64.wrap (6 + 2) = 8 := by decide
            have f4 : IntKind.i64.wrap 7 = 7 := by decide
            have f5 : IntKind.i64.wrap 8 = 8 := by decide
            go_wp2_with fail
            go_region_held3 (fun v => v.cell? ⟨w.heap.size + 1, 6, none⟩ = some (.int .i64 (m 6)) ∧ v.cell? ⟨w.heap.size + 1, 7, none⟩ = some (.int .i64 (m 7)) ∧ v.cell? ⟨w.heap.size + 1, 8, none⟩ = some (.int .i64 (m 8)) ∧ v.cell? ⟨w1.heap.size, 0, none⟩ = some (.int .i64 r) ∧ v.cell? ⟨w1.heap.size, 1, none⟩ = some (.int .i64 g) ∧ v.cell? ⟨w1.heap.size, 2, none⟩ = some (.int .i64 u))
              (go_keep)
              (first
                | (go_at_call 78; refine (HDN.out _).mono ?_; rintro e wq ⟨rfl, rfl⟩)
                | (go_at_call 60; refine (clamp_any _ _).mono ?_; rintro e wq ⟨rfl, rfl⟩))
            go_wp2
            go_roundw
            case rel => exact ⟨3, by omega, rfl, HST2.out, fun b hb => (Below.heap_setCell _ _ _ _ hb).trans (zO b hb), (show (wr.setCell ⟨w1.heap.size + 1, 2, none⟩ (.int .i64 (clampV ((A + B + C) / 4096)))).heap.size = Z0.heap.size by simpa [World.setCell] using zS), (zB.setCell (p := ⟨w1.heap.size + 1, 2, none⟩) (Nat.le_succ _) _).drew⟩
            case measure => simp [intOf]
        · obtain rfl : kk = 3 := by omega
          have ec : ((3 : Nat) : Int) = 3 := rfl
          rw [ec]
          have hT := bel_trans hb1 zB
          have i1 := (hT.block _ lP).trans j1
          have i2 := ownsRow_below j2 hT
          have i3 := (hT.block _ hlq).trans j3
          have i4 := (hT.block _ lR).trans j4
          have i5 := j5.trans (hT.mono j5.size)
          obtain ⟨⟨x, y, z⟩, hq⟩ : ∃ q, mixP m (r, g, u) = q := ⟨_, rfl⟩
          rw [hq] at HST zL
          clear hq
          have iT : wr.heap[w1.heap.size + 1]? = some (.cells #[.int .i64 x, .int .i64 y, .int .i64 z] 25 (0, 0)) := zL
          have nT : some (w1.heap.size + 1) ≠ (Value.slice so k scap).ownBlock := fun e => by have := (j2.lt _ e.symm).2; omega
          have hlT := (Array.getElem?_eq_some_iff.1 iT).1
          have hlP := (Array.getElem?_eq_some_iff.1 i1).1
          have hbW : w.heap.size ≤ wr.heap.size := i5.size
          obtain ⟨XS, hXS⟩ : ∃ XS, ((ps.take k).map (mixP m)).flatMap pixL = XS := ⟨_, rfl⟩
          rw [hXS] at i2 HST
          clear hXS j1 j2 j3 jm j4 j5 y0 y1 y2 zm0 zc0 zl0
          have HL1 := hide (show k + 1 ≤ maxLen by unfold maxLen; omega)
          have HL2 := hide (show (k + 1) * 24 ≤ 140737488355328 by omega)
          have HS := hide (show ∀ v, Below wr.heap.size wr v → v.cell? ⟨w1.heap.size + 1, 0, none⟩ = some (.int .i64 x) ∧ v.cell? ⟨w1.heap.size + 1, 1, none⟩ = some (.int .i64 y) ∧ v.cell? ⟨w1.heap.size + 1, 2, none⟩ = some (.int .i64 z) from fun v h => cells3 ((h.block _ hlT).trans iT))
          have HP2 := hide (show ∀ v, Below wr.heap.size wr v → v.cell? ⟨w.heap.size + 1 + 1 + 1, 2, none⟩ = some (.slice so k scap) from fun v h => (cells3 ((h.block (w.heap.size + 3) hlP).trans i1)).2.2)
          have HON := hide (show ∀ v : World, Calls Try.prog 72 #[.agg #[.int .i64 x, .int .i64 y, .int .i64 z]] v fun e v' => e = .returned (.agg #[.int .i64 x, .int .i64 y, .int .i64 z]) ∧ Below v.heap.size v v' from fun v => pixel_any (x, y, z) v)
          have HTL := hide (show ∀ (V1 : World) (gg cap : Nat) (w2 : World), Below wr.heap.size wr V1 → (V1.alloc (Obj.cells #[.int .i64 x, .int .i64 y, .int .i64 z] 50)).grownBy w2 (Value.slice so k scap).ownBlock → w2.ownsRow w.heap.size 50 3 (.slice (some ⟨gg, 0, none⟩) (k + 1) cap) (k + 1) (XS ++ pixL (x, y, z)) →
              (w2.cell? ⟨w1.heap.size + 1, 0, none⟩ = some (.int .i64 x) ∧ w2.cell? ⟨w1.heap.size + 1, 1, none⟩ = some (.int .i64 y) ∧ w2.cell? ⟨w1.heap.size + 1, 2, none⟩ = some (.int .i64 z)) ∧ w2.cell? ⟨w.heap.size + 1 + 1 + 1, 2, none⟩ = some (.slice so k scap) ∧ w2.frozen? ⟨w.heap.size + 1 + 1 + 1, 2, none⟩ = false ∧ (((w2.setCell ⟨w.heap.size + 1 + 1 + 1, 2, none⟩ (.slice (some ⟨gg, 0, none⟩) (k + 1) cap)).cell? ⟨w1.heap.size + 1, 0, none⟩ = some (.int .i64 x) ∧ (w2.setCell ⟨w.heap.size + 1 + 1 + 1, 2, none⟩ (.slice (some ⟨gg, 0, none⟩) (k + 1) cap)).cell? ⟨w1.heap.size + 1, 1, none⟩ = some (.int .i64 y) ∧ (w2.setCell ⟨w.heap.size + 1 + 1 + 1, 2, none⟩ (.slice (some ⟨gg, 0, none⟩) (k + 1) cap)).cell? ⟨w1.heap.size + 1, 2, none⟩ = some (.int .i64 z)) ∧
                (w2.setCell ⟨w.heap.size + 1 + 1 + 1, 2, none⟩ (.slice (some ⟨gg, 0, none⟩) (k + 1) cap)).heap[w.heap.size + 3]? = some (.cells #[.int .i64 W, .int .i64 H, (.slice (some ⟨gg, 0, none⟩) (k + 1) cap)] 39 (0, 0)) ∧ (w2.setCell ⟨w.heap.size + 1 + 1 + 1, 2, none⟩ (.slice (some ⟨gg, 0, none⟩) (k + 1) cap)).ownsRow w.heap.size 50 3 (.slice (some ⟨gg, 0, none⟩) (k + 1) cap) (k + 1) (XS ++ pixL (x, y, z)) ∧
                (w2.setCell ⟨w.heap.size + 1 + 1 + 1, 2, none⟩ (.slice (some ⟨gg, 0, none⟩) (k + 1) cap)).heap[w.heap.size]? = some (.cells #[.int .i64 W, .int .i64 H, .slice (some ⟨bk, off, none⟩) ps.length ca] 39 (0, 0)) ∧ (w2.setCell ⟨w.heap.size + 1 + 1 + 1, 2, none⟩ (.slice (some ⟨gg, 0, none⟩) (k + 1) cap)).heap[w.heap.size + 1]? = some (.cells (nine m) 53 (0, 0)) ∧ (w2.setCell ⟨w.heap.size + 1 + 1 + 1, 2, none⟩ (.slice (some ⟨gg, 0, none⟩) (k + 1) cap)).heap[w.heap.size + 2]? = some (.cells #[.int .i64 0, .int .i64 0, .slice none 0 0] 39 (0, 0)) ∧ Below w.heap.size w (w2.setCell ⟨w.heap.size + 1 + 1 + 1, 2, none⟩ (.slice (some ⟨gg, 0, none⟩) (k + 1) cap))) from fun V1 gg cap w2 h1 h2 h3 => by
            obtain ⟨t1, t2, t3, t4, t5, t6, t7⟩ := app_tail (q := (x, y, z)) i1 i2 i5 (Nat.le_refl _) (by omega) h1 h2 h3
            have kT := (t1 _ hlT nT).trans iT
            have xT := (t7 _ hlT nT (by omega)).trans iT
            exact ⟨cells3 kT, t2, t3, cells3 xT, t4, t5, (t7 _ (Array.getElem?_eq_some_iff.1 i3).1 (own_ne i2 i3 (by decide)) (by omega)).trans i3, (t7 _ (Array.getElem?_eq_some_iff.1 zm).1 (own_ne i2 zm (by decide)) (by omega)).trans zm, (t7 _ (Array.getElem?_eq_some_iff.1 i4).1 (own_ne i2 i4 (by decide)) (by omega)).trans i4, t6⟩)
          have hmx : Try.prog.follows .mixedOrders = true := by kernel_rfl
          have hWd : Below wr.heap.size wr wr.drew := (Below.refl _ _).drew
          have hSd := HS.out _ hWd
          have p2 := HP2.out _ hWd
          clear iT i1 zL
          go_wp2_with fail
          refine wp_region_held (S := fun v : World => v.cell? ⟨w1.heap.size + 1, 0, none⟩ = some (.int .i64 x) ∧ v.cell? ⟨w1.heap.size + 1, 1, none⟩ = some (.int .i64 y) ∧ v.cell? ⟨w1.heap.size + 1, 2, none⟩ = some (.int .i64 z)) hmx ?_
          show wpAnyH _ _ _ _ _ 8 _ _ wr.drew
          refine wpAnyH_take (i := 0) (oi := _) (v := .pointer (some ⟨w.heap.size + 1 + 1 + 1, 2, none⟩)) rfl (by kernel_rfl) (by kernel_rfl) (by kernel_rfl) (fun _ _ _ h => h) (Or.inl ⟨by rfl, fun v hSv => by obtain ⟨t0, t1, t2⟩ := hSv; go_simp⟩) hSd ?_
          simp only [Act.put]
          refine wpAnyH_take (i := 2) (oi := _) (v := .agg #[.int .i64 x, .int .i64 y, .int .i64 z]) rfl (by kernel_rfl) (by kernel_rfl) (by kernel_rfl) (fun _ _ _ h => h) (Or.inl ⟨by rfl, fun v hSv => by obtain ⟨t0, t1, t2⟩ := hSv; go_simp⟩) hSd ?_
          simp only [Act.put]
          refine wpAnyH_ready (rs := [1, 3]) (by kernel_rfl) (by simp) ?_
          refine AllReadyH.cons (o := _) rfl (fun K' hK => ?w1A) (AllReadyH.cons (o := _) rfl (fun K' hK => ?w1B) AllReadyH.nil)
          case w1A =>
            rw [if_pos (by rfl)]
            go_simp
            refine hK.out _ _ hSd (fun _ => ?_)
            clear hK
            refine wpAnyH_ready (rs := [3]) (by kernel_rfl) (by simp) ?_
            refine AllReadyH.cons (o := _) rfl (fun K' hK => ?_) AllReadyH.nil
            rw [if_pos (by rfl)]
            go_simp
            refine (HON.out _).mono ?_
            rintro e V1 ⟨rfl, hbv⟩
            have hB1 : Below wr.heap.size wr V1 := hWd.trans (hbv.mono hWd.size)
            have hSd := HS.out _ hB1
            have p2 := HP2.out _ hB1
            refine hK.out _ _ hSd (fun _ => ?_)
            clear hK
            refine wpAnyH_ready (rs := [4]) (by kernel_rfl) (by simp) ?_
            refine AllReadyH.cons (o := _) rfl (fun K' hK => ?_) AllReadyH.nil
            rw [if_pos (by rfl)]
            go_simp
            have hBs : Below wr.heap.size wr (V1.alloc (Obj.cells #[.int .i64 x, .int .i64 y, .int .i64 z] 50)) := hB1.alloc hB1.size _
            have hSd := HS.out _ hBs
            have p2 := HP2.out _ hBs
            refine hK.out _ _ hSd (fun _ => ?_)
            clear hK
            refine wpAnyH_ready (rs := [5]) (by kernel_rfl) (by simp) ?_
            refine AllReadyH.cons (o := _) rfl (fun K' hK => ?_) AllReadyH.nil
            refine step_append_lies _ rfl _ _ 37 rfl w.heap.size 50 i0 pixZ 3 24 Try.underlying37 hi hz0 hz1 hz2 rfl (by decide) (.slice so k scap) k XS rfl ((ownsRow_below i2 hB1).alloc _) ⟨V1.heap.size, 0, none⟩ 1 1 (pixL (x, y, z)) rfl rfl (World.news_of_block (al1 V1 _)) (fun u hu => by simp [pixL] at hu; rcases hu with rfl | rfl | rfl <;> rfl) Nat.one_pos HL1.out HL2.out (Nat.le_trans hbW hBs.size) _ rfl ?_
            intro gg cap w2 hown hgrow hat hltg
            obtain ⟨hSd, p2, p2f, HFIN⟩ := HTL.out V1 gg cap w2 hB1 hgrow hown
            refine hK.out _ _ hSd (fun _ => ?_)
            clear hK
            refine wpAnyH_ready (rs := [6]) (by kernel_rfl) (by simp) ?_
            refine AllReadyH.cons (o := _) rfl (fun K' hK => ?_) AllReadyH.nil
            rw [if_pos (by rfl)]
            go_simp
            refine hK.out _ _ hSd (fun _ => ?_)
            clear hK
            refine wpAnyH_ready (rs := [7]) (by kernel_rfl) (by simp) ?_
            refine AllReadyH.cons (o := _) rfl (fun K' hK => ?_) AllReadyH.nil
            rw [if_pos (by rfl)]
            go_simp
            refine hK.out _ _ HFIN.1 (fun _ => ?_)
            clear hK
            refine wpAnyH_done (by kernel_rfl) ?_ _
            obtain ⟨f0, f1, f2, f3, f4, f5, f6⟩ := HFIN
            go_wp2
            go_roundw
            case rel => exact ⟨k + 1, by omega, by go_num, some ⟨gg, 0, none⟩, cap, f1, by rw [HST.out]; exact f2, f3, f4, f5, f6⟩
            case measure => simp [intOf]; omega
          case w1B =>
            rw [if_pos (by rfl)]
            go_simp
            refine (HON.out _).mono ?_
            rintro e V1 ⟨rfl, hbv⟩
            have hB1 : Below wr.heap.size wr V1 := hWd.trans (hbv.mono hWd.size)
            have hSd := HS.out _ hB1
            have p2 := HP2.out _ hB1
            refine hK.out _ _ hSd (fun _ => ?_)
            clear hK
            refine wpAnyH_ready (rs := [1, 4]) (by kernel_rfl) (by simp) ?_
            refine AllReadyH.cons (o := _) rfl (fun K' hK => ?w2A) (AllReadyH.cons (o := _) rfl (fun K' hK => ?w2B) AllReadyH.nil)
            case w2A =>
              rw [if_pos (by rfl)]
              go_simp
              refine hK.out _ _ hSd (fun _ => ?_)
              clear hK
              refine wpAnyH_ready (rs := [4]) (by kernel_rfl) (by simp) ?_
              refine AllReadyH.cons (o := _) rfl (fun K' hK => ?_) AllReadyH.nil
              rw [if_pos (by rfl)]
              go_simp
              have hBs : Below wr.heap.size wr (V1.alloc (Obj.cells #[.int .i64 x, .int .i64 y, .int .i64 z] 50)) := hB1.alloc hB1.size _
              have hSd := HS.out _ hBs
              have p2 := HP2.out _ hBs
              refine hK.out _ _ hSd (fun _ => ?_)
              clear hK
              refine wpAnyH_ready (rs := [5]) (by kernel_rfl) (by simp) ?_
              refine AllReadyH.cons (o := _) rfl (fun K' hK => ?_) AllReadyH.nil
              refine step_append_lies _ rfl _ _ 37 rfl w.heap.size 50 i0 pixZ 3 24 Try.underlying37 hi hz0 hz1 hz2 rfl (by decide) (.slice so k scap) k XS rfl ((ownsRow_below i2 hB1).alloc _) ⟨V1.heap.size, 0, none⟩ 1 1 (pixL (x, y, z)) rfl rfl (World.news_of_block (al1 V1 _)) (fun u hu => by simp [pixL] at hu; rcases hu with rfl | rfl | rfl <;> rfl) Nat.one_pos HL1.out HL2.out (Nat.le_trans hbW hBs.size) _ rfl ?_
              intro gg cap w2 hown hgrow hat hltg
              obtain ⟨hSd, p2, p2f, HFIN⟩ := HTL.out V1 gg cap w2 hB1 hgrow hown
              refine hK.out _ _ hSd (fun _ => ?_)
              clear hK
              refine wpAnyH_ready (rs := [6]) (by kernel_rfl) (by simp) ?_
              refine AllReadyH.cons (o := _) rfl (fun K' hK => ?_) AllReadyH.nil
              rw [if_pos (by rfl)]
              go_simp
              refine hK.out _ _ hSd (fun _ => ?_)
              clear hK
              refine wpAnyH_ready (rs := [7]) (by kernel_rfl) (by simp) ?_
              refine AllReadyH.cons (o := _) rfl (fun K' hK => ?_) AllReadyH.nil
              rw [if_pos (by rfl)]
              go_simp
              refine hK.out _ _ HFIN.1 (fun _ => ?_)
              clear hK
              refine wpAnyH_done (by kernel_rfl) ?_ _
              obtain ⟨f0, f1, f2, f3, f4, f5, f6⟩ := HFIN
              go_wp2
              go_roundw
              case rel => exact ⟨k + 1, by omega, by go_num, some ⟨gg, 0, none⟩, cap, f1, by rw [HST.out]; exact f2, f3, f4, f5, f6⟩
              case measure => simp [intOf]; omega
            case w2B =>
              rw [if_pos (by rfl)]
              go_simp
              have hBs : Below wr.heap.size wr (V1.alloc (Obj.cells #[.int .i64 x, .int .i64 y, .int .i64 z] 50)) := hB1.alloc hB1.size _
              have hSd := HS.out _ hBs
              have p2 := HP2.out _ hBs
              refine hK.out _ _ hSd (fun _ => ?_)
              clear hK
              refine wpAnyH_ready (rs := [1]) (by kernel_rfl) (by simp) ?_
              refine AllReadyH.cons (o := _) rfl (fun K' hK => ?_) AllReadyH.nil
              rw [if_pos (by rfl)]
              go_simp
              refine hK.out _ _ hSd (fun _ => ?_)
              clear hK
              refine wpAnyH_ready (rs := [5]) (by kernel_rfl) (by simp) ?_
              refine AllReadyH.cons (o := _) rfl (fun K' hK => ?_) AllReadyH.nil
              refine step_append_lies _ rfl _ _ 37 rfl w.heap.size 50 i0 pixZ 3 24 Try.underlying37 hi hz0 hz1 hz2 rfl (by decide) (.slice so k scap) k XS rfl ((ownsRow_below i2 hB1).alloc _) ⟨V1.heap.size, 0, none⟩ 1 1 (pixL (x, y, z)) rfl rfl (World.news_of_block (al1 V1 _)) (fun u hu => by simp [pixL] at hu; rcases hu with rfl | rfl | rfl <;> rfl) Nat.one_pos HL1.out HL2.out (Nat.le_trans hbW hBs.size) _ rfl ?_
              intro gg cap w2 hown hgrow hat hltg
              obtain ⟨hSd, p2, p2f, HFIN⟩ := HTL.out V1 gg cap w2 hB1 hgrow hown
              refine hK.out _ _ hSd (fun _ => ?_)
              clear hK
              refine wpAnyH_ready (rs := [6]) (by kernel_rfl) (by simp) ?_
              refine AllReadyH.cons (o := _) rfl (fun K' hK => ?_) AllReadyH.nil
              rw [if_pos (by rfl)]
              go_simp
              refine hK.out _ _ hSd (fun _ => ?_)
              clear hK
              refine wpAnyH_ready (rs := [7]) (by kernel_rfl) (by simp) ?_
              refine AllReadyH.cons (o := _) rfl (fun K' hK => ?_) AllReadyH.nil
              rw [if_pos (by rfl)]
              go_simp
              refine hK.out _ _ HFIN.1 (fun _ => ?_)
              clear hK
              refine wpAnyH_done (by kernel_rfl) ?_ _
              obtain ⟨f0, f1, f2, f3, f4, f5, f6⟩ := HFIN
              go_wp2
              go_roundw
              case rel => exact ⟨k + 1, by omega, by go_num, some ⟨gg, 0, none⟩, cap, f1, by rw [HST.out]; exact f2, f3, f4, f5, f6⟩
              case measure => simp [intOf]; omega
    · have hd : decide ((k : Int) < (ps.length : Int)) = false := by simp; omega
      obtain rfl : k = ps.length := by omega
      rw [List.take_of_length_le (Nat.le_refl _)] at j2
      obtain ⟨p0, p1, p2⟩ := cells3 j1
      obtain ⟨z0, z1, z2⟩ := cells3 j4
      have f0 := Lib.frozen_of_heap j4 0
      have f1 := Lib.frozen_of_heap j4 1
      have f2 := Lib.frozen_of_heap j4 2
      have hfin := set3_below j5 (show w.heap.size ≤ w.heap.size + 2 by omega) (.int .i64 W) (.int .i64 H) (.slice so ps.length scap)
      have hpx : IsPix wr (.slice so ps.length scap) (ps.map (mixP m)) := by
        have h := IsPix.own (base := w.heap.size) (ps := ps.map (mixP m)) (v := .slice so ps.length scap) (by rw [List.length_map]; exact j2) (by rw [List.length_map]; omega)
        exact h
      have hne : (Value.slice so ps.length scap).ownBlock ≠ some (w.heap.size + 2) := fun e => own_ne j2 j4 (by decide) e.symm
      have hpx2 := hpx.other (set3_size wr (w.heap.size + 2) (.int .i64 W) (.int .i64 H) (.slice so ps.length scap)) (fun b hb => set3_heap _ _ _ _ _ b hb) hne
      have HF := hide (Fresh.own j2)
      have HX := hide hpx2
      have HFI := hide hfin
      clear hpx hpx2 hfin hne
      go_wp2
      exact bodyPost_ret (v := .agg #[.int .i64 W, .int .i64 H, .slice so ps.length scap]) (by simp [results, Try.results33, go_sem, z0, z1, z2]) rfl ⟨_, rfl, HX.out, HFI.out, HF.out⟩

end Go.Proofs.Ytolcndchfnifhab
