/- Line: part 11 of what the proofs need. -/
import Derived.Test.YtolcndchfnifhabC2Line
import Derived.Test.YtolcndchfnifhabC6Line
import Derived.Test.YtolcndchfnifhabC8Line
import Derived.Test.YtolcndchfnifhabC9Line
import Derived.Test.YtolcndchfnifhabC10Line
namespace Go.Proofs.Ytolcndchfnifhab
open Go.RowKit
def mixArr (v : Px) (kk : Nat) : Array Value := #[.int .i64 (if 1 ≤ kk then v.1 else 0), .int .i64 (if 2 ≤ kk then v.2.1 else 0), .int .i64 (if 3 ≤ kk then v.2.2 else 0)]
theorem mixArr_0 (x y z : Int) : (mixArr (x, y, z) 0).setIfInBounds 0 (.int .i64 x) = mixArr (x, y, z) 1 := by simp [mixArr]
theorem mixArr_1 (x y z : Int) : (mixArr (x, y, z) 1).setIfInBounds 1 (.int .i64 y) = mixArr (x, y, z) 2 := by simp [mixArr]
theorem mixArr_2 (x y z : Int) : (mixArr (x, y, z) 2).setIfInBounds 2 (.int .i64 z) = mixArr (x, y, z) 3 := by simp [mixArr]
set_option maxRecDepth 100000 in
set_option maxHeartbeats 3200000 in
theorem mixed_any (W H : Int) (v : Value) (ps : List Px) (m : Nat → Int) (hm : matOk m = true) (hps : pxsOk ps = true) (h4 : ps.length ≤ 4096) (w : World) (hv : IsPix w v ps) :
    Calls Try.prog 33 #[.agg #[.int .i64 W, .int .i64 H, v], .agg (nine m)] w fun e w' => ∃ r, e = .returned (.agg #[.int .i64 W, .int .i64 H, r]) ∧ IsPix w' r (ps.map (mixP m)) ∧ Below w.heap.size w w' ∧ Fresh w.heap.size r := by
  have HPS := hide hps
  have HM := hide (fun k (hk : k < 9) => matOk_get hm k hk)
  clear hps hm
  obtain ⟨ao, ca, rfl, hla, hc⟩ := hv
  obtain ⟨i0, hi, hz0, hz1, hz2⟩ := info_parts Try.infoPixel
  have HC := hide (show ∀ j, j < ps.length → ∃ bk off, ao = some ⟨bk, off, none⟩ ∧ bk < w.heap.size ∧ w.cell? ⟨bk, off + j * 3, none⟩ = some (.int .i64 (pxAt ps j).1) ∧ w.cell? ⟨bk, off + j * 3 + 1, none⟩ = some (.int .i64 (pxAt ps j).2.1) ∧ w.cell? ⟨bk, off + j * 3 + 2, none⟩ = some (.int .i64 (pxAt ps j).2.2) from fun j hj => by
    rcases hc with h | ⟨b, off, h1, h2, h3⟩
    · subst h; simp at hj
    · have := h3 j hj
      rw [pxAt_get ps j hj] at this
      exact ⟨b, off, h1, h2, this⟩)
  clear hc
  go_enter Try.func33, Try.ntmps33
  go_wp2_with fail
  obtain ⟨a1, a2, a3, a4⟩ := al4 w (Obj.cells #[.int .i64 W, .int .i64 H, .slice ao ps.length ca] 39) (Obj.cells (nine m) 53) (Obj.cells #[.int .i64 0, .int .i64 0, .slice none 0 0] 39) (Obj.cells #[.int .i64 W, .int .i64 H, .slice none 0 0] 39)
  have hB := be4 w (Obj.cells #[.int .i64 W, .int .i64 H, .slice ao ps.length ca] 39) (Obj.cells (nine m) 53) (Obj.cells #[.int .i64 0, .int .i64 0, .slice none 0 0] 39) (Obj.cells #[.int .i64 W, .int .i64 H, .slice none 0 0] 39)
  generalize (((w.alloc (Obj.cells #[.int .i64 W, .int .i64 H, .slice ao ps.length ca] 39)).alloc (Obj.cells (nine m) 53)).alloc (Obj.cells #[.int .i64 0, .int .i64 0, .slice none 0 0] 39)).alloc (Obj.cells #[.int .i64 W, .int .i64 H, .slice none 0 0] 39) = U at *
  go_loopw [6] (fun i wr => ∃ k : Nat, k ≤ ps.length ∧ i = .int .i64 k ∧ ∃ so scap, wr.heap[w.heap.size + 3]? = some (.cells #[.int .i64 W, .int .i64 H, .slice so k scap] 39 (0, 0)) ∧ wr.ownsRow w.heap.size 50 3 (.slice so k scap) k (((ps.take k).map (mixP m)).flatMap pixL) ∧ wr.heap[w.heap.size]? = some (.cells #[.int .i64 W, .int .i64 H, .slice ao ps.length ca] 39 (0, 0)) ∧ wr.heap[w.heap.size + 1]? = some (.cells (nine m) 53 (0, 0)) ∧ wr.heap[w.heap.size + 2]? = some (.cells #[.int .i64 0, .int .i64 0, .slice none 0 0] 39 (0, 0)) ∧ Below w.heap.size w wr) (fun i _ => ps.length - (intOf i).toNat)
  case atStart => exact ⟨0, Nat.zero_le _, rfl, none, 0, a4, World.ownsRow_nil _ _ _ _, a1, a2, a3, hB⟩
  case round =>
    clear a1 a2 a3 a4 hB
    obtain ⟨k, hk, rfl, so, scap, j1, j2, j3, jm, j4, j5⟩ := hrel
    obtain ⟨_, _, q2⟩ := cells3 j3
    have hlq := (Array.getElem?_eq_some_iff.1 j3).1
    by_cases hlt : k < ps.length
    · have hd : decide ((k : Int) < (ps.length : Int)) = true := by simp; omega
      obtain ⟨bk, off, rfl, hbl, c0, c1, c2⟩ := HC.out k hlt
      have d0 := (j5.cell (p := ⟨bk, off + k * 3, none⟩) hbl).trans c0
      have d1 := (j5.cell (p := ⟨bk, off + k * 3 + 1, none⟩) hbl).trans c1
      have d2 := (j5.cell (p := ⟨bk, off + k * 3 + 2, none⟩) hbl).trans c2
      obtain ⟨⟨r1, r2⟩, ⟨g1, g2⟩, u1, u2⟩ := (pxOk_iff _).1 (pxAt_ok HPS.out k)
      have HST := hide (show ((ps.take (k + 1)).map (mixP m)).flatMap pixL = ((ps.take k).map (mixP m)).flatMap pixL ++ pixL (mixP m (pxAt ps k)) by
        rw [List.take_succ_eq_append_getElem hlt, pxAt_get ps k hlt, List.map_append, List.flatMap_append]; simp)
      obtain ⟨⟨r, g, u⟩, hp⟩ : ∃ p, pxAt ps k = p := ⟨_, rfl⟩
      rw [hp] at d0 d1 d2 r1 r2 g1 g2 u1 u2 HST
      clear c0 c1 c2 hp
      go_wp2_with fail
      refine (parts_any (r, g, u) _).mono ?_
      rintro e w1 ⟨rfl, hb1⟩
      go_wp2_with fail
      have hZ := be2 w1 (Obj.cells #[.int .i64 r, .int .i64 g, .int .i64 u] 25) (Obj.cells #[.int .i64 0, .int .i64 0, .int .i64 0] 25)
      obtain ⟨zc0, zl0⟩ := al2 w1 (Obj.cells #[.int .i64 r, .int .i64 g, .int .i64 u] 25) (Obj.cells #[.int .i64 0, .int .i64 0, .int .i64 0] 25)
      have hW1 := hb1
      have hs1 := hb1.size
      have lm := (Array.getElem?_eq_some_iff.1 jm).1
      have lP := (Array.getElem?_eq_some_iff.1 j1).1
      have lR := (Array.getElem?_eq_some_iff.1 j4).1
      have hZ0 := bel_trans hb1 hZ
      have zm0 := (hZ0.block _ lm).trans jm
      have hsZ : ((w1.alloc (Obj.cells #[.int .i64 r, .int .i64 g, .int .i64 u] 25)).alloc (Obj.cells #[.int .i64 0, .int .i64 0, .int .i64 0] 25)).heap.size = w1.heap.size + 2 := by simp
      have hlw : w.heap.size + 1 < w1.heap.size := by omega
      have HZ := hide (show ((w1.alloc (Obj.cells #[.int .i64 r, .int .i64 g, .int .i64 u] 25)).alloc (Obj.cells #[.int .i64 0, .int .i64 0, .int .i64 0] 25)).heap.size = w1.heap.size + 2 from hsZ)
      clear hsZ
      generalize (w1.alloc (Obj.cells #[.int .i64 r, .int .i64 g, .int .i64 u] 25)).alloc (Obj.cells #[.int .i64 0, .int .i64 0, .int .i64 0] 25) = Z0 at *
      go_loopw [9] (fun i wz => ∃ kk : Nat, kk ≤ 3 ∧ i = .int .i64 kk ∧ wz.heap[w1.heap.size + 1]? = some (.cells (mixArr (mixP m (r, g, u)) kk) 25 (0, 0)) ∧ (∀ b, b ≠ w1.heap.size + 1 → wz.heap[b]? = Z0.heap[b]?) ∧ wz.heap.size = Z0.heap.size ∧ Below w1.heap.size w1 wz) (fun i _ => 3 - (intOf i).toNat)
      case atStart => exact ⟨0, by omega, rfl, zl0, fun _ _ => rfl, rfl, hZ⟩
      case round =>
        obtain ⟨kk, hkk, rfl, zL, zO, zS, zB⟩ := hrel
        have zm := (zO (w.heap.size + 1) (by omega)).trans zm0
        obtain ⟨y0, y1, y2⟩ := cells3 ((zO w1.heap.size (by omega)).trans zc0)
        clear d0 d1 d2 q2
        by_cases hk3 : kk < 3
        · rcases (show kk = 0 ∨ kk = 1 ∨ kk = 2 by omega) with rfl | rfl | rfl
          · have e0 : wr.cell? ⟨w.heap.size + 1, 0, none⟩ = some (.int .i64 (m 0)) := by rw [Lib.cell_of_heap zm, nine_get m 0 (by omega)]
            have e1 : wr.cell? ⟨w.heap.size + 1, 1, none⟩ = some (.int .i64 (m 1)) := by rw [Lib.cell_of_heap zm, nine_get m 1 (by omega)]
            have e2 : wr.cell? ⟨w.heap.size + 1, 2, none⟩ = some (.int .i64 (m 2)) := by rw [Lib.cell_of_heap zm, nine_get m 2 (by omega)]
            have oL : wr.cell? ⟨w1.heap.size + 1, 0, none⟩ = some (.int .i64 0) := by rw [Lib.cell_of_heap zL]; rfl
            have oF : wr.frozen? ⟨w1.heap.size + 1, 0, none⟩ = false := Lib.frozen_of_heap zL 0
            obtain ⟨ma1, ma2⟩ := mul_bounds (HM.out 0 (by omega)).1 (HM.out 0 (by omega)).2 r1 r2 (by omega)
            obtain ⟨mb1, mb2⟩ := mul_bounds (HM.out 1 (by omega)).1 (HM.out 1 (by omega)).2 g1 g2 (by omega)
            obtain ⟨mc1, mc2⟩ := mul_bounds (HM.out 2 (by omega)).1 (HM.out 2 (by omega)).2 u1 u2 (by omega)
            have HV := hide (show (mixP m (r, g, u)).1 = clampV ((m 0 * r + m 1 * g + m 2 * u) / 4096) from rfl)
            obtain ⟨A, hA'⟩ : ∃ A, m 0 * r = A := ⟨_, rfl⟩
            rw [hA'] at ma1 ma2 HV
            obtain ⟨B, hB'⟩ : ∃ B, m 1 * g = B := ⟨_, rfl⟩
            rw [hB'] at mb1 mb2 HV
            obtain ⟨C, hC'⟩ : ∃ C, m 2 * u = C := ⟨_, rfl⟩
            rw [hC'] at mc1 mc2 HV
            have hwA : IntKind.i64.wrap A = A := IntWalk.i64_in _ (by omega)
            have hwB : IntKind.i64.wrap B = B := IntWalk.i64_in _ (by omega)
            have hwC : IntKind.i64.wrap C = C := IntWalk.i64_in _ (by omega)
            have hwAB : IntKind.i64.wrap (A + B) = A + B := IntWalk.i64_in _ (by omega)
            have hwABC : IntKind.i64.wrap (A + B + C) = A + B + C := IntWalk.i64_in _ (by omega)
            have HDN := hide (downQ (A + B + C) (by omega) (by omega))
            have HST2 := hide (show (wr.setCell ⟨w1.heap.size + 1, 0, none⟩ (.int .i64 (clampV ((A + B + C) / 4096)))).heap[w1.heap.size + 1]? = some (.cells (mixArr (mixP m (r, g, u)) 1) 25 (0, 0)) from by
              rw [heap_setCell_same wr (w1.heap.size + 1) 0 _ _ _ zL, ← HV.out]
              exact congrArg (fun t => some (Obj.cells t 25 (0, 0))) (mixArr_0 _ _ _))
            have hdr : Below wr.heap.size wr wr.drew := (Below.refl _ _).drew
            have n1 : w.heap.size + 1 ≠ w1.heap.size + 1 := by omega
            have n2 : ¬ (w.heap.size = w1.heap.size) := by omega
            have n3 : ¬ (w1.heap.size = w.heap.size) := by omega
            have ec : ((0 : Nat) : Int) = 0 := rfl
            rw [ec]
            have f0 : IntKind.i64.wrap (3 * 0) = 0 := by decide
            have f1 : IntKind.i64.wrap 0 = 0 := by decide
            have f2 : IntKind.i64.wrap (0 + 1) = 1 := by decide
            have f3 : IntKind.i64.wrap (0 + 2) = 2 := by decide
            have f4 : IntKind.i64.wrap 1 = 1 := by decide
            have f5 : IntKind.i64.wrap 2 = 2 := by decide
            go_wp2_with fail
            go_region_held3 (fun v => v.cell? ⟨w.heap.size + 1, 0, none⟩ = some (.int .i64 (m 0)) ∧ v.cell? ⟨w.heap.size + 1, 1, none⟩ = some (.int .i64 (m 1)) ∧ v.cell? ⟨w.heap.size + 1, 2, none⟩ = some (.int .i64 (m 2)) ∧ v.cell? ⟨w1.heap.size, 0, none⟩ = some (.int .i64 r) ∧ v.cell? ⟨w1.heap.size, 1, none⟩ = some (.int .i64 g) ∧ v.cell? ⟨w1.heap.size, 2, none⟩ = some (.int .i64 u))
              (go_keep)
              (first
                | (go_at_call 78; refine (HDN.out _).mono ?_; rintro e wq ⟨rfl, rfl⟩)
                | (go_at_call 60; refine (clamp_any _ _).mono ?_; rintro e wq ⟨rfl, rfl⟩))
            go_wp2
            go_roundw
            case rel => exact ⟨1, by omega, rfl, HST2.out, fun b hb => (Below.heap_setCell _ _ _ _ hb).trans (zO b hb), (show (wr.setCell ⟨w1.heap.size + 1, 0, none⟩ (.int .i64 (clampV ((A + B + C) / 4096)))).heap.size = Z0.heap.size by simpa [World.setCell] using zS), (zB.setCell (p := ⟨w1.heap.size + 1, 0, none⟩) (Nat.le_succ _) _).drew⟩
            case measure => simp [intOf]
          · have e0 : wr.cell? ⟨w.heap.size + 1, 3, none⟩ = some (.int .i64 (m 3)) := by rw [Lib.cell_of_heap zm, nine_get m 3 (by omega)]
            have e1 : wr.cell? ⟨w.heap.size + 1, 4, none⟩ = some (.int .i64 (m 4)) := by rw [Lib.cell_of_heap zm, nine_get m 4 (by omega)]
            have e2 : wr.cell? ⟨w.heap.size + 1, 5, none⟩ = some (.int .i64 (m 5)) := by rw [Lib.cell_of_heap zm, nine_get m 5 (by omega)]
            have oL : wr.cell? ⟨w1.heap.size + 1, 1, none⟩ = some (.int .i64 0) := by rw [Lib.cell_of_heap zL]; rfl
            have oF : wr.frozen? ⟨w1.heap.size + 1, 1, none⟩ = false := Lib.frozen_of_heap zL 1
            obtain ⟨ma1, ma2⟩ := mul_bounds (HM.out 3 (by omega)).1 (HM.out 3 (by omega)).2 r1 r2 (by omega)
            obtain ⟨mb1, mb2⟩ := mul_bounds (HM.out 4 (by omega)).1 (HM.out 4 (by omega)).2 g1 g2 (by omega)
            obtain ⟨mc1, mc2⟩ := mul_bounds (HM.out 5 (by omega)).1 (HM.out 5 (by omega)).2 u1 u2 (by omega)
            have HV := hide (show (mixP m (r, g, u)).2.1 = clampV ((m 3 * r + m 4 * g + m 5 * u) / 4096) from rfl)
            obtain ⟨A, hA'⟩ : ∃ A, m 3 * r = A := ⟨_, rfl⟩
            rw [hA'] at ma1 ma2 HV
            obtain ⟨B, hB'⟩ : ∃ B, m 4 * g = B := ⟨_, rfl⟩
            rw [hB'] at mb1 mb2 HV
            obtain ⟨C, hC'⟩ : ∃ C, m 5 * u = C := ⟨_, rfl⟩
            rw [hC'] at mc1 mc2 HV
            have hwA : IntKind.i64.wrap A = A := IntWalk.i64_in _ (by omega)
            have hwB : IntKind.i64.wrap B = B := IntWalk.i64_in _ (by omega)
            have hwC : IntKind.i64.wrap C = C := IntWalk.i64_in _ (by omega)
            have hwAB : IntKind.i64.wrap (A + B) = A + B := IntWalk.i64_in _ (by omega)
            have hwABC : IntKind.i64.wrap (A + B + C) = A + B + C := IntWalk.i64_in _ (by omega)
            have HDN := hide (downQ (A + B + C) (by omega) (by omega))
            have HST2 := hide (show (wr.setCell ⟨w1.heap.size + 1, 1, none⟩ (.int .i64 (clampV ((A + B + C) / 4096)))).heap[w1.heap.size + 1]? = some (.cells (mixArr (mixP m (r, g, u)) 2) 25 (0, 0)) from by
              rw [heap_setCell_same wr (w1.heap.size + 1) 1 _ _ _ zL, ← HV.out]
              exact congrArg (fun t => some (Obj.cells t 25 (0, 0))) (mixArr_1 _ _ _))
            have hdr : Below wr.heap.size wr wr.drew := (Below.refl _ _).drew
            have n1 : w.heap.size + 1 ≠ w1.heap.size + 1 := by omega
            have n2 : ¬ (w.heap.size = w1.heap.size) := by omega
            have n3 : ¬ (w1.heap.size = w.heap.size) := by omega
            have ec : ((1 : Nat) : Int) = 1 := rfl
            rw [ec]
            have f0 : IntKind.i64.wrap (3 * 1) = 3 := by decide
            have f1 : IntKind.i64.wrap 3 = 3 := by decide
            have f2 : IntKind.i64.wrap (3 + 1) = 4 := by decide
            have f3 : IntKind.i64.wrap (3 + 2) = 5 := by decide
            have f4 : IntKind.i64.wrap 4 = 4 := by decide
            have f5 : IntKind.i64.wrap 5 = 5 := by decide
            go_wp2_with fail
            go_region_held3 (fun v => v.cell? ⟨w.heap.size + 1, 3, none⟩ = some (.int .i64 (m 3)) ∧ v.cell? ⟨w.heap.size + 1, 4, none⟩ = some (.int .i64 (m 4)) ∧ v.cell? ⟨w.heap.size + 1, 5, none⟩ = some (.int .i64 (m 5)) ∧ v.cell? ⟨w1.heap.size, 0, none⟩ = some (.int .i64 r) ∧ v.cell? ⟨w1.heap.size, 1, none⟩ = some (.int .i64 g) ∧ v.cell? ⟨w1.heap.size, 2, none⟩ = some (.int .i64 u))
              (go_keep)
              (first
                | (go_at_call 78; refine (HDN.out _).mono ?_; rintro e wq ⟨rfl, rfl⟩)
                | (go_at_call 60; refine (clamp_any _ _).mono ?_; rintro e wq ⟨rfl, rfl⟩))
            go_wp2
            go_roundw
            case rel => exact ⟨2, by omega, rfl, HST2.out, fun b hb => (Below.heap_setCell _ _ _ _ hb).trans (zO b hb), (show (wr.setCell ⟨w1.heap.size + 1, 1, none⟩ (.int .i64 (clampV ((A + B + C) / 4096)))).heap.size = Z0.heap.size by simpa [World.setCell] using zS), (zB.setCell (p := ⟨w1.heap.size + 1, 1, none⟩) (Nat.le_succ _) _).drew⟩
            case measure => simp [intOf]
          · have e0 : wr.cell? ⟨w.heap.size + 1, 6, none⟩ = some (.int .i64 (m 6)) := by rw [Lib.cell_of_heap zm, nine_get m 6 (by omega)]
            have e1 : wr.cell? ⟨w.heap.size + 1, 7, none⟩ = some (.int .i64 (m 7)) := by rw [Lib.cell_of_heap zm, nine_get m 7 (by omega)]
            have e2 : wr.cell? ⟨w.heap.size + 1, 8, none⟩ = some (.int .i64 (m 8)) := by rw [Lib.cell_of_heap zm, nine_get m 8 (by omega)]
            have oL : wr.cell? ⟨w1.heap.size + 1, 2, none⟩ = some (.int .i64 0) := by rw [Lib.cell_of_heap zL]; rfl
            have oF : wr.frozen? ⟨w1.heap.size + 1, 2, none⟩ = false := Lib.frozen_of_heap zL 2
            obtain ⟨ma1, ma2⟩ := mul_bounds (HM.out 6 (by omega)).1 (HM.out 6 (by omega)).2 r1 r2 (by omega)
            obtain ⟨mb1, mb2⟩ := mul_bounds (HM.out 7 (by omega)).1 (HM.out 7 (by omega)).2 g1 g2 (by omega)
            obtain ⟨mc1, mc2⟩ := mul_bounds (HM.out 8 (by omega)).1 (HM.out 8 (by omega)).2 u1 u2 (by omega)
            have HV := hide (show (mixP m (r, g, u)).2.2 = clampV ((m 6 * r + m 7 * g + m 8 * u) / 4096) from rfl)
            obtain ⟨A, hA'⟩ : ∃ A, m 6 * r = A := ⟨_, rfl⟩
            rw [hA'] at ma1 ma2 HV
            obtain ⟨B, hB'⟩ : ∃ B, m 7 * g = B := ⟨_, rfl⟩
            rw [hB'] at mb1 mb2 HV
            obtain ⟨C, hC'⟩ : ∃ C, m 8 * u = C := ⟨_, rfl⟩
            rw [hC'] at mc1 mc2 HV
            have hwA : IntKind.i64.wrap A = A := IntWalk.i64_in _ (by omega)
            have hwB : IntKind.i64.wrap B = B := IntWalk.i64_in _ (by omega)
            have hwC : IntKind.i64.wrap C = C := IntWalk.i64_in _ (by omega)
            have hwAB : IntKind.i64.wrap (A + B) = A + B := IntWalk.i64_in _ (by omega)
            have hwABC : IntKind.i64.wrap (A + B + C) = A + B + C := IntWalk.i64_in _ (by omega)
            have HDN := hide (downQ (A + B + C) (by omega) (by omega))
            have HST2 := hide (show (wr.setCell ⟨w1.heap.size + 1, 2, none⟩ (.int .i64 (clampV ((A + B + C) / 4096)))).heap[w1.heap.size + 1]? = some (.cells (mixArr (mixP m (r, g, u)) 3) 25 (0, 0)) from by
              rw [heap_setCell_same wr (w1.heap.size + 1) 2 _ _ _ zL, ← HV.out]
              exact congrArg (fun t => some (Obj.cells t 25 (0, 0))) (mixArr_2 _ _ _))
            have hdr : Below wr.heap.size wr wr.drew := (Below.refl _ _).drew
            have n1 : w.heap.size + 1 ≠ w1.heap.size + 1 := by omega
            have n2 : ¬ (w.heap.size = w1.heap.size) := by omega
            have n3 : ¬ (w1.heap.size = w.heap.size) := by omega
            have ec : ((2 : Nat) : Int) = 2 := rfl
            rw [ec]
            have f0 : IntKind.i64.wrap (3 * 2) = 6 := by decide
            have f1 : IntKind.i64.wrap 6 = 6 := by decide
            have f2 : IntKind.i64.wrap (6 + 1) = 7 := by decide
            have f3 : IntKind.i64.wrap (6 + 2) = 8 := by decide
            have f4 : IntKind.i64.wrap 7 = 7 := by decide
            have f5 : IntKind.i64.wrap 8 = 8 := by decide
            go_wp2_with fail
            go_region_held3 (fun v => v.cell? ⟨w.heap.size + 1, 6, none⟩ = some (.int .i64 (m 6)) ∧ v.cell? ⟨w.heap.size + 1, 7, none⟩ = some (.int .i64 (m 7)) ∧ v.cell? ⟨w.heap.size + 1, 8, none⟩ = some (.int .i64 (m 8)) ∧ v.cell? ⟨w1.heap.size, 0, none⟩ = some (.int .i64 r) ∧ v.cell? ⟨w1.heap.size, 1, none⟩ = some (.int .i64 g) ∧ v.cell? ⟨w1.heap.size, 2, none⟩ = some (.int .i64 u))
              (go_keep)
              (first
                | (go_at_call 78; refine (HDN.out _).mono ?_; rintro e wq ⟨rfl, rfl⟩)
                | (go_at_call 60; refine (clamp_any _ _).mono ?_; rintro e wq ⟨rfl, rfl⟩))
            go_wp2
            go_roundw
            case rel => exact ⟨3, by omega, rfl, HST2.out, fun b hb => (Below.heap_setCell _ _ _ _ hb).trans (zO b hb), (show (wr.setCell ⟨w1.heap.size + 1, 2, none⟩ (.int .i64 (clampV ((A + B + C) / 4096)))).heap.size = Z0.heap.size by simpa [World.setCell] using zS), (zB.setCell (p := ⟨w1.heap.size + 1, 2, none⟩) (Nat.le_succ _) _).drew⟩
            case measure => simp [intOf]
        · obtain rfl : kk = 3 := by omega
          have ec : ((3 : Nat) : Int) = 3 := rfl
          rw [ec]
          have hT := bel_trans hb1 zB
          have i1 := (hT.block _ lP).trans j1
          have i2 := ownsRow_below j2 hT
          have i3 := (hT.block _ hlq).trans j3
          have i4 := (hT.block _ lR).trans j4
          have i5 := j5.trans (hT.mono j5.size)
          obtain ⟨⟨x, y, z⟩, hq⟩ : ∃ q, mixP m (r, g, u) = q := ⟨_, rfl⟩
          rw [hq] at HST zL
          clear hq
          have iT : wr.heap[w1.heap.size + 1]? = some (.cells #[.int .i64 x, .int .i64 y, .int .i64 z] 25 (0, 0)) := zL
          have nT : some (w1.heap.size + 1) ≠ (Value.slice so k scap).ownBlock := fun e => by have := (j2.lt _ e.symm).2; omega
          have hlT := (Array.getElem?_eq_some_iff.1 iT).1
          have hlP := (Array.getElem?_eq_some_iff.1 i1).1
          have hbW : w.heap.size ≤ wr.heap.size := i5.size
          obtain ⟨XS, hXS⟩ : ∃ XS, ((ps.take k).map (mixP m)).flatMap pixL = XS := ⟨_, rfl⟩
          rw [hXS] at i2 HST
          clear hXS j1 j2 j3 jm j4 j5 y0 y1 y2 zm0 zc0 zl0
          have HL1 := hide (show k + 1 ≤ maxLen by unfold maxLen; omega)
          have HL2 := hide (show (k + 1) * 24 ≤ 140737488355328 by omega)
          have HS := hide (show ∀ v, Below wr.heap.size wr v → v.cell? ⟨w1.heap.size + 1, 0, none⟩ = some (.int .i64 x) ∧ v.cell? ⟨w1.heap.size + 1, 1, none⟩ = some (.int .i64 y) ∧ v.cell? ⟨w1.heap.size + 1, 2, none⟩ = some (.int .i64 z) from fun v h => cells3 ((h.block _ hlT).trans iT))
          have HP2 := hide (show ∀ v, Below wr.heap.size wr v → v.cell? ⟨w.heap.size + 1 + 1 + 1, 2, none⟩ = some (.slice so k scap) from fun v h => (cells3 ((h.block (w.heap.size + 3) hlP).trans i1)).2.2)
          have HON := hide (show ∀ v : World, Calls Try.prog 72 #[.agg #[.int .i64 x, .int .i64 y, .int .i64 z]] v fun e v' => e = .returned (.agg #[.int .i64 x, .int .i64 y, .int .i64 z]) ∧ Below v.heap.size v v' from fun v => pixel_any (x, y, z) v)
          have HTL := hide (show ∀ (V1 : World) (gg cap : Nat) (w2 : World), Below wr.heap.size wr V1 → (V1.alloc (Obj.cells #[.int .i64 x, .int .i64 y, .int .i64 z] 50)).grownBy w2 (Value.slice so k scap).ownBlock → w2.ownsRow w.heap.size 50 3 (.slice (some ⟨gg, 0, none⟩) (k + 1) cap) (k + 1) (XS ++ pixL (x, y, z)) →
              (w2.cell? ⟨w1.heap.size + 1, 0, none⟩ = some (.int .i64 x) ∧ w2.cell? ⟨w1.heap.size + 1, 1, none⟩ = some (.int .i64 y) ∧ w2.cell? ⟨w1.heap.size + 1, 2, none⟩ = some (.int .i64 z)) ∧ w2.cell? ⟨w.heap.size + 1 + 1 + 1, 2, none⟩ = some (.slice so k scap) ∧ w2.frozen? ⟨w.heap.size + 1 + 1 + 1, 2, none⟩ = false ∧ (((w2.setCell ⟨w.heap.size + 1 + 1 + 1, 2, none⟩ (.slice (some ⟨gg, 0, none⟩) (k + 1) cap)).cell? ⟨w1.heap.size + 1, 0, none⟩ = some (.int .i64 x) ∧ (w2.setCell ⟨w.heap.size + 1 + 1 + 1, 2, none⟩ (.slice (some ⟨gg, 0, none⟩) (k + 1) cap)).cell? ⟨w1.heap.size + 1, 1, none⟩ = some (.int .i64 y) ∧ (w2.setCell ⟨w.heap.size + 1 + 1 + 1, 2, none⟩ (.slice (some ⟨gg, 0, none⟩) (k + 1) cap)).cell? ⟨w1.heap.size + 1, 2, none⟩ = some (.int .i64 z)) ∧
                (w2.setCell ⟨w.heap.size + 1 + 1 + 1, 2, none⟩ (.slice (some ⟨gg, 0, none⟩) (k + 1) cap)).heap[w.heap.size + 3]? = some (.cells #[.int .i64 W, .int .i64 H, (.slice (some ⟨gg, 0, none⟩) (k + 1) cap)] 39 (0, 0)) ∧ (w2.setCell ⟨w.heap.size + 1 + 1 + 1, 2, none⟩ (.slice (some ⟨gg, 0, none⟩) (k + 1) cap)).ownsRow w.heap.size 50 3 (.slice (some ⟨gg, 0, none⟩) (k + 1) cap) (k + 1) (XS ++ pixL (x, y, z)) ∧
                (w2.setCell ⟨w.heap.size + 1 + 1 + 1, 2, none⟩ (.slice (some ⟨gg, 0, none⟩) (k + 1) cap)).heap[w.heap.size]? = some (.cells #[.int .i64 W, .int .i64 H, .slice (some ⟨bk, off, none⟩) ps.length ca] 39 (0, 0)) ∧ (w2.setCell ⟨w.heap.size + 1 + 1 + 1, 2, none⟩ (.slice (some ⟨gg, 0, none⟩) (k + 1) cap)).heap[w.heap.size + 1]? = some (.cells (nine m) 53 (0, 0)) ∧ (w2.setCell ⟨w.heap.size + 1 + 1 + 1, 2, none⟩ (.slice (some ⟨gg, 0, none⟩) (k + 1) cap)).heap[w.heap.size + 2]? = some (.cells #[.int .i64 0, .int .i64 0, .slice none 0 0] 39 (0, 0)) ∧ Below w.heap.size w (w2.setCell ⟨w.heap.size + 1 + 1 + 1, 2, none⟩ (.slice (some ⟨gg, 0, none⟩) (k + 1) cap))) from fun V1 gg cap w2 h1 h2 h3 => by
            obtain ⟨t1, t2, t3, t4, t5, t6, t7⟩ := app_tail (q := (x, y, z)) i1 i2 i5 (Nat.le_refl _) (by omega) h1 h2 h3
            have kT := (t1 _ hlT nT).trans iT
            have xT := (t7 _ hlT nT (by omega)).trans iT
            exact ⟨cells3 kT, t2, t3, cells3 xT, t4, t5, (t7 _ (Array.getElem?_eq_some_iff.1 i3).1 (own_ne i2 i3 (by decide)) (by omega)).trans i3, (t7 _ (Array.getElem?_eq_some_iff.1 zm).1 (own_ne i2 zm (by decide)) (by omega)).trans zm, (t7 _ (Array.getElem?_eq_some_iff.1 i4).1 (own_ne i2 i4 (by decide)) (by omega)).trans i4, t6⟩)
          have hmx : Try.prog.follows .mixedOrders = true := by kernel_rfl
          have hWd : Below wr.heap.size wr wr.drew := (Below.refl _ _).drew
          have hSd := HS.out _ hWd
          have p2 := HP2.out _ hWd
          clear iT i1 zL
          go_wp2_with fail
          refine wp_region_held (S := fun v : World => v.cell? ⟨w1.heap.size + 1, 0, none⟩ = some (.int .i64 x) ∧ v.cell? ⟨w1.heap.size + 1, 1, none⟩ = some (.int .i64 y) ∧ v.cell? ⟨w1.heap.size + 1, 2, none⟩ = some (.int .i64 z)) hmx ?_
          show wpAnyH _ _ _ _ _ 8 _ _ wr.drew
          refine wpAnyH_take (i := 0) (oi := _) (v := .pointer (some ⟨w.heap.size + 1 + 1 + 1, 2, none⟩)) rfl (by kernel_rfl) (by kernel_rfl) (by kernel_rfl) (fun _ _ _ h => h) (Or.inl ⟨by rfl, fun v hSv => by obtain ⟨t0, t1, t2⟩ := hSv; go_simp⟩) hSd ?_
          simp only [Act.put]
          refine wpAnyH_take (i := 2) (oi := _) (v := .agg #[.int .i64 x, .int .i64 y, .int .i64 z]) rfl (by kernel_rfl) (by kernel_rfl) (by kernel_rfl) (fun _ _ _ h => h) (Or.inl ⟨by rfl, fun v hSv => by obtain ⟨t0, t1, t2⟩ := hSv; go_simp⟩) hSd ?_
          simp only [Act.put]
          refine wpAnyH_ready (rs := [1, 3]) (by kernel_rfl) (by simp) ?_
          refine AllReadyH.cons (o := _) rfl (fun K' hK => ?w1A) (AllReadyH.cons (o := _) rfl (fun K' hK => ?w1B) AllReadyH.nil)
          case w1A =>
            rw [if_pos (by rfl)]
            go_simp
            refine hK.out _ _ hSd (fun _ => ?_)
            clear hK
            refine wpAnyH_ready (rs := [3]) (by kernel_rfl) (by simp) ?_
            refine AllReadyH.cons (o := _) rfl (fun K' hK => ?_) AllReadyH.nil
            rw [if_pos (by rfl)]
            go_simp
            refine (HON.out _).mono ?_
            rintro e V1 ⟨rfl, hbv⟩
            have hB1 : Below wr.heap.size wr V1 := hWd.trans (hbv.mono hWd.size)
            have hSd := HS.out _ hB1
            have p2 := HP2.out _ hB1
            refine hK.out _ _ hSd (fun _ => ?_)
            clear hK
            refine wpAnyH_ready (rs := [4]) (by kernel_rfl) (by simp) ?_
            refine AllReadyH.cons (o := _) rfl (fun K' hK => ?_) AllReadyH.nil
            rw [if_pos (by rfl)]
            go_simp
            have hBs : Below wr.heap.size wr (V1.alloc (Obj.cells #[.int .i64 x, .int .i64 y, .int .i64 z] 50)) := hB1.alloc hB1.size _
            have hSd := HS.out _ hBs
            have p2 := HP2.out _ hBs
            refine hK.out _ _ hSd (fun _ => ?_)
            clear hK
            refine wpAnyH_ready (rs := [5]) (by kernel_rfl) (by simp) ?_
            refine AllReadyH.cons (o := _) rfl (fun K' hK => ?_) AllReadyH.nil
            refine step_append_lies _ rfl _ _ 37 rfl w.heap.size 50 i0 pixZ 3 24 Try.underlying37 hi hz0 hz1 hz2 rfl (by decide) (.slice so k scap) k XS rfl ((ownsRow_below i2 hB1).alloc _) ⟨V1.heap.size, 0, none⟩ 1 1 (pixL (x, y, z)) rfl rfl (World.news_of_block (al1 V1 _)) (fun u hu => by simp [pixL] at hu; rcases hu with rfl | rfl | rfl <;> rfl) Nat.one_pos HL1.out HL2.out (Nat.le_trans hbW hBs.size) _ rfl ?_
            intro gg cap w2 hown hgrow hat hltg
            obtain ⟨hSd, p2, p2f, HFIN⟩ := HTL.out V1 gg cap w2 hB1 hgrow hown
            refine hK.out _ _ hSd (fun _ => ?_)
            clear hK
            refine wpAnyH_ready (rs := [6]) (by kernel_rfl) (by simp) ?_
            refine AllReadyH.cons (o := _) rfl (fun K' hK => ?_) AllReadyH.nil
            rw [if_pos (by rfl)]
            go_simp
            refine hK.out _ _ hSd (fun _ => ?_)
            clear hK
            refine wpAnyH_ready (rs := [7]) (by kernel_rfl) (by simp) ?_
            refine AllReadyH.cons (o := _) rfl (fun K' hK => ?_) AllReadyH.nil
            rw [if_pos (by rfl)]
            go_simp
            refine hK.out _ _ HFIN.1 (fun _ => ?_)
            clear hK
            refine wpAnyH_done (by kernel_rfl) ?_ _
            obtain ⟨f0, f1, f2, f3, f4, f5, f6⟩ := HFIN
            go_wp2
            go_roundw
            case rel => exact ⟨k + 1, by omega, by go_num, some ⟨gg, 0, none⟩, cap, f1, by rw [HST.out]; exact f2, f3, f4, f5, f6⟩
            case measure => simp [intOf]; omega
          case w1B =>
            rw [if_pos (by rfl)]
            go_simp
            refine (HON.out _).mono ?_
            rintro e V1 ⟨rfl, hbv⟩
            have hB1 : Below wr.heap.size wr V1 := hWd.trans (hbv.mono hWd.size)
            have hSd := HS.out _ hB1
            have p2 := HP2.out _ hB1
            refine hK.out _ _ hSd (fun _ => ?_)
            clear hK
            refine wpAnyH_ready (rs := [1, 4]) (by kernel_rfl) (by simp) ?_
            refine AllReadyH.cons (o := _) rfl (fun K' hK => ?w2A) (AllReadyH.cons (o := _) rfl (fun K' hK => ?w2B) AllReadyH.nil)
            case w2A =>
              rw [if_pos (by rfl)]
              go_simp
              refine hK.out _ _ hSd (fun _ => ?_)
              clear hK
              refine wpAnyH_ready (rs := [4]) (by kernel_rfl) (by simp) ?_
              refine AllReadyH.cons (o := _) rfl (fun K' hK => ?_) AllReadyH.nil
              rw [if_pos (by rfl)]
              go_simp
              have hBs : Below wr.heap.size wr (V1.alloc (Obj.cells #[.int .i64 x, .int .i64 y, .int .i64 z] 50)) := hB1.alloc hB1.size _
              have hSd := HS.out _ hBs
              have p2 := HP2.out _ hBs
              refine hK.out _ _ hSd (fun _ => ?_)
              clear hK
              refine wpAnyH_ready (rs := [5]) (by kernel_rfl) (by simp) ?_
              refine AllReadyH.cons (o := _) rfl (fun K' hK => ?_) AllReadyH.nil
              refine step_append_lies _ rfl _ _ 37 rfl w.heap.size 50 i0 pixZ 3 24 Try.underlying37 hi hz0 hz1 hz2 rfl (by decide) (.slice so k scap) k XS rfl ((ownsRow_below i2 hB1).alloc _) ⟨V1.heap.size, 0, none⟩ 1 1 (pixL (x, y, z)) rfl rfl (World.news_of_block (al1 V1 _)) (fun u hu => by simp [pixL] at hu; rcases hu with rfl | rfl | rfl <;> rfl) Nat.one_pos HL1.out HL2.out (Nat.le_trans hbW hBs.size) _ rfl ?_
              intro gg cap w2 hown hgrow hat hltg
              obtain ⟨hSd, p2, p2f, HFIN⟩ := HTL.out V1 gg cap w2 hB1 hgrow hown
              refine hK.out _ _ hSd (fun _ => ?_)
              clear hK
              refine wpAnyH_ready (rs := [6]) (by kernel_rfl) (by simp) ?_
              refine AllReadyH.cons (o := _) rfl (fun K' hK => ?_) AllReadyH.nil
              rw [if_pos (by rfl)]
              go_simp
              refine hK.out _ _ hSd (fun _ => ?_)
              clear hK
              refine wpAnyH_ready (rs := [7]) (by kernel_rfl) (by simp) ?_
              refine AllReadyH.cons (o := _) rfl (fun K' hK => ?_) AllReadyH.nil
              rw [if_pos (by rfl)]
              go_simp
              refine hK.out _ _ HFIN.1 (fun _ => ?_)
              clear hK
              refine wpAnyH_done (by kernel_rfl) ?_ _
              obtain ⟨f0, f1, f2, f3, f4, f5, f6⟩ := HFIN
              go_wp2
              go_roundw
              case rel => exact ⟨k + 1, by omega, by go_num, some ⟨gg, 0, none⟩, cap, f1, by rw [HST.out]; exact f2, f3, f4, f5, f6⟩
              case measure => simp [intOf]; omega
            case w2B =>
              rw [if_pos (by rfl)]
              go_simp
              have hBs : Below wr.heap.size wr (V1.alloc (Obj.cells #[.int .i64 x, .int .i64 y, .int .i64 z] 50)) := hB1.alloc hB1.size _
              have hSd := HS.out _ hBs
              have p2 := HP2.out _ hBs
              refine hK.out _ _ hSd (fun _ => ?_)
              clear hK
              refine wpAnyH_ready (rs := [1]) (by kernel_rfl) (by simp) ?_
              refine AllReadyH.cons (o := _) rfl (fun K' hK => ?_) AllReadyH.nil
              rw [if_pos (by rfl)]
              go_simp
              refine hK.out _ _ hSd (fun _ => ?_)
              clear hK
              refine wpAnyH_ready (rs := [5]) (by kernel_rfl) (by simp) ?_
              refine AllReadyH.cons (o := _) rfl (fun K' hK => ?_) AllReadyH.nil
              refine step_append_lies _ rfl _ _ 37 rfl w.heap.size 50 i0 pixZ 3 24 Try.underlying37 hi hz0 hz1 hz2 rfl (by decide) (.slice so k scap) k XS rfl ((ownsRow_below i2 hB1).alloc _) ⟨V1.heap.size, 0, none⟩ 1 1 (pixL (x, y, z)) rfl rfl (World.news_of_block (al1 V1 _)) (fun u hu => by simp [pixL] at hu; rcases hu with rfl | rfl | rfl <;> rfl) Nat.one_pos HL1.out HL2.out (Nat.le_trans hbW hBs.size) _ rfl ?_
              intro gg cap w2 hown hgrow hat hltg
              obtain ⟨hSd, p2, p2f, HFIN⟩ := HTL.out V1 gg cap w2 hB1 hgrow hown
              refine hK.out _ _ hSd (fun _ => ?_)
              clear hK
              refine wpAnyH_ready (rs := [6]) (by kernel_rfl) (by simp) ?_
              refine AllReadyH.cons (o := _) rfl (fun K' hK => ?_) AllReadyH.nil
              rw [if_pos (by rfl)]
              go_simp
              refine hK.out _ _ hSd (fun _ => ?_)
              clear hK
              refine wpAnyH_ready (rs := [7]) (by kernel_rfl) (by simp) ?_
              refine AllReadyH.cons (o := _) rfl (fun K' hK => ?_) AllReadyH.nil
              rw [if_pos (by rfl)]
              go_simp
              refine hK.out _ _ HFIN.1 (fun _ => ?_)
              clear hK
              refine wpAnyH_done (by kernel_rfl) ?_ _
              obtain ⟨f0, f1, f2, f3, f4, f5, f6⟩ := HFIN
              go_wp2
              go_roundw
              case rel => exact ⟨k + 1, by omega, by go_num, some ⟨gg, 0, none⟩, cap, f1, by rw [HST.out]; exact f2, f3, f4, f5, f6⟩
              case measure => simp [intOf]; omega
    · have hd : decide ((k : Int) < (ps.length : Int)) = false := by simp; omega
      obtain rfl : k = ps.length := by omega
      rw [List.take_of_length_le (Nat.le_refl _)] at j2
      obtain ⟨p0, p1, p2⟩ := cells3 j1
      obtain ⟨z0, z1, z2⟩ := cells3 j4
      have f0 := Lib.frozen_of_heap j4 0
      have f1 := Lib.frozen_of_heap j4 1
      have f2 := Lib.frozen_of_heap j4 2
      have hfin := set3_below j5 (show w.heap.size ≤ w.heap.size + 2 by omega) (.int .i64 W) (.int .i64 H) (.slice so ps.length scap)
      have hpx : IsPix wr (.slice so ps.length scap) (ps.map (mixP m)) := by
        have h := IsPix.own (base := w.heap.size) (ps := ps.map (mixP m)) (v := .slice so ps.length scap) (by rw [List.length_map]; exact j2) (by rw [List.length_map]; omega)
        exact h
      have hne : (Value.slice so ps.length scap).ownBlock ≠ some (w.heap.size + 2) := fun e => own_ne j2 j4 (by decide) e.symm
      have hpx2 := hpx.other (set3_size wr (w.heap.size + 2) (.int .i64 W) (.int .i64 H) (.slice so ps.length scap)) (fun b hb => set3_heap _ _ _ _ _ b hb) hne
      have HF := hide (Fresh.own j2)
      have HX := hide hpx2
      have HFI := hide hfin
      clear hpx hpx2 hfin hne
      go_wp2
      exact bodyPost_ret (v := .agg #[.int .i64 W, .int .i64 H, .slice so ps.length scap]) (by simp [results, Try.results33, go_sem, z0, z1, z2]) rfl ⟨_, rfl, HX.out, HFI.out, HF.out⟩
end Go.Proofs.Ytolcndchfnifhab

namespace Go.Proofs.Ytolcndchfnifhab
def wtN (n : Nat) : Int := if n = 1 then 2 else 1
theorem wtN_range (n : Nat) : 1 ≤ wtN n ∧ wtN n ≤ 2 := by unfold wtN; split <;> omega
def sIx (W H X Y n : Nat) : Nat := (near H ((Y : Int) - 1 + (n / 3 : Nat))).toNat * W + (near W ((X : Int) - 1 + (n % 3 : Nat))).toNat
def sG (ps : List Px) (W H X Y j n : Nat) : Int := pxF (pxAt ps (sIx W H X Y n)) j * wtN (n % 3) * wtN (n / 3)
theorem mul_upto {a b A B : Int} (h1 : 0 ≤ a) (h2 : a ≤ A) (h3 : 0 ≤ b) (h4 : b ≤ B) : 0 ≤ a * b ∧ a * b ≤ A * B :=
  ⟨Int.mul_nonneg h1 h3, Int.mul_le_mul h2 h4 h3 (by omega)⟩
theorem sG_range {ps : List Px} (h : pxsOk ps = true) (W H X Y j n : Nat) : 0 ≤ sG ps W H X Y j n ∧ sG ps W H X Y j n ≤ 262140 := by
  obtain ⟨a, b⟩ := pxF_ok (pxAt_ok h (sIx W H X Y n)) j
  obtain ⟨c, d⟩ := wtN_range (n % 3)
  obtain ⟨e, f⟩ := wtN_range (n / 3)
  obtain ⟨g, i⟩ := mul_upto a b (by omega : 0 ≤ wtN (n % 3)) d
  obtain ⟨k, l⟩ := mul_upto g i (by omega : 0 ≤ wtN (n / 3)) f
  exact ⟨k, by unfold sG; omega⟩
theorem near_in (W : Nat) (x : Nat) (h : x < W) : (near W ((x : Int) - 1 + ((1 : Nat) : Int))).toNat = x := by
  rw [near, if_neg (by omega), if_neg (by omega)]; omega
theorem sIx_mid {W H X Y : Nat} (hX : X < W) (hY : Y < H) : sIx W H X Y 4 = Y * W + X := by
  have h1 := near_in H Y hY
  have h2 := near_in W X hX
  rw [sIx, show 4 / 3 = 1 from rfl, show 4 % 3 = 1 from rfl, h1, h2]
theorem sum_nine {ps : List Px} {W H X Y : Nat} (hX : X < W) (hY : Y < H) (j : Nat) : sumN (sG ps W H X Y j) 9 = pxF (wF ps W H X Y (List.finRange 8)) j := by
  have hm := sIx_mid (W := W) (H := H) hX hY
  have hl : List.finRange 8 = [0, 1, 2, 3, 4, 5, 6, 7] := by decide
  have h0 : wIx W H X Y 0 = sIx W H X Y 0 := rfl
  have h1 : wIx W H X Y 1 = sIx W H X Y 1 := rfl
  have h2 : wIx W H X Y 2 = sIx W H X Y 2 := rfl
  have h3 : wIx W H X Y 3 = sIx W H X Y 3 := rfl
  have h4 : wIx W H X Y 4 = sIx W H X Y 5 := rfl
  have h5 : wIx W H X Y 5 = sIx W H X Y 6 := rfl
  have h6 : wIx W H X Y 6 = sIx W H X Y 7 := rfl
  have h7 : wIx W H X Y 7 = sIx W H X Y 8 := rfl
  rw [wF, hl]
  simp only [List.foldl_cons, List.foldl_nil]
  simp only [show ((0 : Fin 8) : Nat) = 0 from rfl, show ((1 : Fin 8) : Nat) = 1 from rfl, show ((2 : Fin 8) : Nat) = 2 from rfl, show ((3 : Fin 8) : Nat) = 3 from rfl, show ((4 : Fin 8) : Nat) = 4 from rfl, show ((5 : Fin 8) : Nat) = 5 from rfl, show ((6 : Fin 8) : Nat) = 6 from rfl, show ((7 : Fin 8) : Nat) = 7 from rfl]
  rw [h0, h1, h2, h3, h4, h5, h6, h7]
  rw [show wWt 0 = 1 by decide, show wWt 1 = 2 by decide, show wWt 2 = 1 by decide, show wWt 3 = 2 by decide, show wWt 4 = 2 by decide, show wWt 5 = 1 by decide, show wWt 6 = 2 by decide, show wWt 7 = 1 by decide]
  simp only [sumN, sG]
  rw [hm]
  simp only [show wtN (0 % 3) = 1 by decide, show wtN (1 % 3) = 2 by decide, show wtN (2 % 3) = 1 by decide]
  generalize pxAt ps (sIx W H X Y 0) = a0
  generalize pxAt ps (sIx W H X Y 1) = a1
  generalize pxAt ps (sIx W H X Y 2) = a2
  generalize pxAt ps (sIx W H X Y 3) = a3
  generalize pxAt ps (Y * W + X) = a4
  generalize pxAt ps (sIx W H X Y 5) = a5
  generalize pxAt ps (sIx W H X Y 6) = a6
  generalize pxAt ps (sIx W H X Y 7) = a7
  generalize pxAt ps (sIx W H X Y 8) = a8
  unfold pxF addP
  by_cases e0 : j = 0
  · simp only [e0, if_true]; omega
  · by_cases e1 : j = 1
    · subst e1; simp only [if_neg e0, if_true]; omega
    · simp only [if_neg e0, if_neg e1]; omega
theorem sIx_lt {W H : Nat} (hW : 1 ≤ W) (hH : 1 ≤ H) (X Y n : Nat) : sIx W H X Y n < H * W := by
  obtain ⟨a1, a2⟩ := near_range H ((Y : Int) - 1 + (n / 3 : Nat)) (by omega)
  obtain ⟨b1, b2⟩ := near_range W ((X : Int) - 1 + (n % 3 : Nat)) (by omega)
  unfold sIx
  generalize near H ((Y : Int) - 1 + (n / 3 : Nat)) = a at *
  generalize near W ((X : Int) - 1 + (n % 3 : Nat)) = b at *
  obtain ⟨A, rfl⟩ := Int.eq_ofNat_of_zero_le a1
  obtain ⟨B, rfl⟩ := Int.eq_ofNat_of_zero_le b1
  simp only [Int.toNat_natCast]
  have h1 : (A + 1) * W ≤ H * W := Nat.mul_le_mul_right _ (by omega)
  rw [Nat.succ_mul] at h1
  omega
def sharpQ (ps : List Px) (W H X Y : Nat) (amount : Int) (j : Nat) : Int := sharpV (pxF (pxAt ps (Y * W + X)) j) (sumN (sG ps W H X Y j) 9) amount
theorem sharpQ_eq {ps : List Px} {W H X Y : Nat} (hX : X < W) (hY : Y < H) (amount : Int) : (sharpQ ps W H X Y amount 0, sharpQ ps W H X Y amount 1, sharpQ ps W H X Y amount 2) = sharpP ps W H amount (Y * W + X) := by
  have hm : (Y * W + X) % W = X ∧ (Y * W + X) / W = Y := place_of hX
  simp only [sharpQ, sum_nine hX hY]
  unfold sharpP
  rw [hm.1, hm.2]
  rfl
end Go.Proofs.Ytolcndchfnifhab

namespace Go.Proofs.Ytolcndchfnifhab
open Go.RowKit
def ShJ (w : World) (W H : Nat) (qv : Value) (L : List Px) (k : Nat) (wr : World) : Prop :=
  ∃ so scap, wr.heap[w.heap.size + 2]? = some (.cells #[.int .i64 W, .int .i64 H, .slice so k scap] 39 (0, 0)) ∧ wr.ownsRow w.heap.size 50 3 (.slice so k scap) k ((L.take k).flatMap pixL) ∧ wr.heap[w.heap.size]? = some (.cells #[.int .i64 W, .int .i64 H, qv] 39 (0, 0)) ∧ wr.heap[w.heap.size + 1]? = some (.cells #[.int .i64 0, .int .i64 0, .slice none 0 0] 39 (0, 0)) ∧ wr.heap[w.heap.size + 3]? = some (.cells (tri wtN) 25 (0, 0)) ∧ Below w.heap.size w wr
def ShK (Z0 w1 : World) (SB : Nat) (s : Nat → Int) (wv : World) : Prop :=
  wv.heap[SB]? = some (.cells (tri s) 25 (0, 0)) ∧ (∀ b, b < Z0.heap.size → b ≠ SB → wv.heap[b]? = Z0.heap[b]?) ∧ Z0.heap.size ≤ wv.heap.size ∧ Below w1.heap.size w1 wv
theorem ShJ.below {w : World} {W H : Nat} {qv : Value} {L : List Px} {k : Nat} {wr wv : World} (h : ShJ w W H qv L k wr) (hb : Below wr.heap.size wr wv) : ShJ w W H qv L k wv := by
  obtain ⟨so, scap, j1, j2, j3, j4, j6, j5⟩ := h
  exact ⟨so, scap, (hb.block _ (Array.getElem?_eq_some_iff.1 j1).1).trans j1, ownsRow_below j2 hb, (hb.block _ (Array.getElem?_eq_some_iff.1 j3).1).trans j3, (hb.block _ (Array.getElem?_eq_some_iff.1 j4).1).trans j4, (hb.block _ (Array.getElem?_eq_some_iff.1 j6).1).trans j6, j5.trans (hb.mono j5.size)⟩
theorem ShJ.sum {w : World} {W H : Nat} {qv : Value} {L : List Px} {k : Nat} {w1 Z0 wv : World} {SB : Nat} {s0 s : Nat → Int} (h : ShJ w W H qv L k Z0) (hs : Z0.heap[SB]? = some (.cells (tri s0) 25 (0, 0))) (hSB : w1.heap.size ≤ SB) (hw : w.heap.size + 3 < w1.heap.size) (hB : Below w.heap.size w w1) (hk : ShK Z0 w1 SB s wv) : ShJ w W H qv L k wv := by
  obtain ⟨so, scap, j1, j2, j3, j4, j6, j5⟩ := h
  obtain ⟨_, k2, k3, k4⟩ := hk
  have hne := own_ne j2 hs (by decide)
  refine ⟨so, scap, (k2 _ (Array.getElem?_eq_some_iff.1 j1).1 (by omega)).trans j1, ⟨j2.1, ?_⟩, (k2 _ (Array.getElem?_eq_some_iff.1 j3).1 (by omega)).trans j3, (k2 _ (Array.getElem?_eq_some_iff.1 j4).1 (by omega)).trans j4, (k2 _ (Array.getElem?_eq_some_iff.1 j6).1 (by omega)).trans j6, hB.trans (k4.mono hB.size)⟩
  rcases j2.2 with ho | ⟨g, cap, cur, hv, hg, hh, r⟩
  · exact .inl ho
  · refine .inr ⟨g, cap, cur, hv, hg, ?_, r⟩
    rw [k2 g (Array.getElem?_eq_some_iff.1 hh).1 (fun e => hne (by rw [hv, e]; rfl))]; exact hh
theorem ShK.below {Z0 w1 : World} {SB : Nat} {s : Nat → Int} {wv wx : World} (h : ShK Z0 w1 SB s wv) (hb : Below wv.heap.size wv wx) : ShK Z0 w1 SB s wx := by
  obtain ⟨k1, k2, k3, k4⟩ := h
  exact ⟨(hb.block _ (Array.getElem?_eq_some_iff.1 k1).1).trans k1, fun b hbl hne => (hb.block b (by omega)).trans (k2 b hbl hne), Nat.le_trans k3 hb.size, k4.trans (hb.mono k4.size)⟩
theorem ShK.congr {Z0 w1 : World} {SB : Nat} {s t : Nat → Int} {wv : World} (h : ShK Z0 w1 SB s wv) (he : ∀ j, j < 3 → s j = t j) : ShK Z0 w1 SB t wv := by
  obtain ⟨k1, k2, k3, k4⟩ := h
  exact ⟨by rw [← tri_congr s t he]; exact k1, k2, k3, k4⟩
theorem ShK.set {Z0 w1 : World} {SB : Nat} {s t : Nat → Int} {wv : World} (h : ShK Z0 w1 SB s wv) (hSB : w1.heap.size ≤ SB) (k : Nat) (x : Int) (hk : k < 3) (hx : x = t k) (ht : ∀ j, j < 3 → j ≠ k → s j = t j) : ShK Z0 w1 SB t (wv.drew.setCell ⟨SB, k, none⟩ (.int .i64 x)) := by
  obtain ⟨k1, k2, k3, k4⟩ := h
  have k1' : wv.drew.heap[SB]? = some (.cells (tri s) 25 (0, 0)) := k1
  refine ⟨?_, fun b hbl hne => (Below.heap_setCell _ _ _ _ hne).trans (k2 b hbl hne), (show Z0.heap.size ≤ (wv.setCell ⟨SB, k, none⟩ (.int .i64 x)).heap.size by simpa [World.setCell] using k3), (k4.drew).setCell (p := ⟨SB, k, none⟩) hSB _⟩
  rw [heap_setCell_same wv.drew SB k _ _ _ k1', tri_set s t k x hk hx ht]
set_option maxRecDepth 100000 in
set_option maxHeartbeats 16000000 in
theorem sharp_any (W H : Nat) (hW1 : 1 ≤ W) (hW : W ≤ 64) (hH1 : 1 ≤ H) (hH : H ≤ 64) (v : Value) (ps : List Px) (amount : Int) (ha0 : 0 ≤ amount) (ha1 : amount ≤ 1024) (hlen : ps.length = H * W) (hps : pxsOk ps = true) (w : World) (hv : IsPix w v ps) :
    Calls Try.prog 41 #[.agg #[.int .i64 W, .int .i64 H, v], .int .i64 amount] w fun e w' => ∃ r, e = .returned (.agg #[.int .i64 W, .int .i64 H, r]) ∧ IsPix w' r (sharpL W H ps amount) ∧ Below w.heap.size w w' ∧ Fresh w.heap.size r := by
  have HPS := hide hps
  have HLEN := hide hlen
  have hlb : ps.length ≤ 4096 := by rw [hlen]; exact Nat.le_trans (Nat.mul_le_mul hH hW) (by decide)
  have hLL : (sharpL W H ps amount).length = ps.length := by simp [sharpL]
  have HLG := hide (show ∀ j, j < ps.length → (sharpL W H ps amount)[j]? = some (sharpP ps W H amount j) from fun j hj => by simp [sharpL, hj])
  obtain ⟨L, hL⟩ : ∃ L, sharpL W H ps amount = L := ⟨_, rfl⟩
  rw [hL] at hLL HLG ⊢
  have HLL := hide hLL
  clear hps hL hLL
  obtain ⟨ao, ca, rfl, hla, hc⟩ := hv
  obtain ⟨i0, hi, hz0, hz1, hz2⟩ := info_parts Try.infoPixel
  have HC := hide (show ∀ j, j < ps.length → ∃ bk off, ao = some ⟨bk, off, none⟩ ∧ bk < w.heap.size ∧ w.cell? ⟨bk, off + j * 3, none⟩ = some (.int .i64 (pxAt ps j).1) ∧ w.cell? ⟨bk, off + j * 3 + 1, none⟩ = some (.int .i64 (pxAt ps j).2.1) ∧ w.cell? ⟨bk, off + j * 3 + 2, none⟩ = some (.int .i64 (pxAt ps j).2.2) from fun j hj => by
    rcases hc with h | ⟨b, off, h1, h2, h3⟩
    · subst h; simp at hj
    · have := h3 j hj
      rw [pxAt_get ps j hj] at this
      exact ⟨b, off, h1, h2, this⟩)
  clear hc hlen
  go_enter Try.func41, Try.ntmps41
  go_wp2_with fail
  obtain ⟨a1, a2, a3, a4⟩ := al4 w (Obj.cells #[.int .i64 W, .int .i64 H, .slice ao ps.length ca] 39) (Obj.cells #[.int .i64 0, .int .i64 0, .slice none 0 0] 39) (Obj.cells #[.int .i64 W, .int .i64 H, .slice none 0 0] 39) (Obj.cells #[.int .i64 1, .int .i64 2, .int .i64 1] 25)
  have hB := be4 w (Obj.cells #[.int .i64 W, .int .i64 H, .slice ao ps.length ca] 39) (Obj.cells #[.int .i64 0, .int .i64 0, .slice none 0 0] 39) (Obj.cells #[.int .i64 W, .int .i64 H, .slice none 0 0] 39) (Obj.cells #[.int .i64 1, .int .i64 2, .int .i64 1] 25)
  generalize (((w.alloc (Obj.cells #[.int .i64 W, .int .i64 H, .slice ao ps.length ca] 39)).alloc (Obj.cells #[.int .i64 0, .int .i64 0, .slice none 0 0] 39)).alloc (Obj.cells #[.int .i64 W, .int .i64 H, .slice none 0 0] 39)).alloc (Obj.cells #[.int .i64 1, .int .i64 2, .int .i64 1] 25) = U at *
  go_loopw [7] (fun i wr => ∃ Y : Nat, Y ≤ H ∧ i = .int .i64 Y ∧ ShJ w W H (.slice ao ps.length ca) L (Y * W) wr) (fun i _ => H - (intOf i).toNat)
  case atStart => exact ⟨0, Nat.zero_le _, rfl, none, 0, by rw [Nat.zero_mul]; exact a3, by rw [Nat.zero_mul]; exact World.ownsRow_nil _ _ _ _, a1, a2, a4, hB⟩
  case round =>
    clear a1 a2 a3 a4 hB
    obtain ⟨Y, hY, rfl, hJ⟩ := hrel
    have HJ := hide hJ
    obtain ⟨so, scap, j1, j2, j3, j4, j6, j5⟩ := hJ
    obtain ⟨q0, q1, q2⟩ := cells3 j3
    by_cases hlt : Y < H
    · have hd : decide ((Y : Int) < (H : Int)) = true := by simp; omega
      obtain ⟨M, hM⟩ : ∃ M, M = Y * W := ⟨_, rfl⟩
      rw [← hM] at HJ j1 j2
      have hMM : M + W ≤ ps.length := by rw [HLEN.out, hM, ← Nat.succ_mul]; exact Nat.mul_le_mul_right _ hlt
      have hYW : (Y : Int) * (W : Int) = (M : Int) := by rw [hM]; simp
      have HM := hide hM
      clear hM
      go_wp2_with fail
      go_loopw [8] (fun i wr => ∃ X : Nat, X ≤ W ∧ i = .int .i64 X ∧ ShJ w W H (.slice ao ps.length ca) L (M + X) wr) (fun i _ => W - (intOf i).toNat)
      case atStart => exact ⟨0, Nat.zero_le _, rfl, HJ.out⟩
      case round =>
        clear j1 j2 j3 j4 j6 j5 q0 q1 q2 HJ
        obtain ⟨X, hX, rfl, hJ⟩ := hrel
        obtain ⟨so, scap, j1, j2, j3, j4, j6, j5⟩ := hJ
        obtain ⟨q0, q1, q2⟩ := cells3 j3
        by_cases hlx : X < W
        · have hdx : decide ((X : Int) < (W : Int)) = true := by simp; omega
          have hk : M + X < ps.length := by omega
          obtain ⟨bk, off, rfl, hbl, c0, c1, c2⟩ := HC.out (M + X) hk
          have d0 := (j5.cell (p := ⟨bk, off + (M + X) * 3, none⟩) hbl).trans c0
          have d1 := (j5.cell (p := ⟨bk, off + (M + X) * 3 + 1, none⟩) hbl).trans c1
          have d2 := (j5.cell (p := ⟨bk, off + (M + X) * 3 + 2, none⟩) hbl).trans c2
          clear c0 c1 c2
          have hok := pxAt_ok HPS.out (M + X)
          obtain ⟨p, hp⟩ : ∃ p, pxAt ps (M + X) = p := ⟨_, rfl⟩
          have HP := hide hp
          rw [hp] at d0 d1 d2 hok
          clear hp
          have HOK := hide hok
          clear hok
          have hMX : (M : Int) + (X : Int) = ((M + X : Nat) : Int) := by simp
          have hwM : IntKind.i64.wrap (M : Int) = (M : Int) := IntWalk.i64_in _ (by omega)
          have hwMX : IntKind.i64.wrap ((M : Int) + (X : Int)) = ((M + X : Nat) : Int) := by rw [hMX]; exact IntWalk.i64_in _ (by omega)
          obtain ⟨k, hkk⟩ : ∃ k, M + X = k := ⟨_, rfl⟩
          rw [hkk] at d0 d1 d2 hwMX hk j1 j2
          rw [hkk] at HP
          have HK := hide hkk
          clear hkk hMX
          go_wp2_with fail
          have hJ0 : ShJ w W H (.slice (some ⟨bk, off, none⟩) ps.length ca) L k wr := ⟨so, scap, j1, j2, j3, j4, j6, j5⟩
          refine (parts_any p _).mono ?_
          rintro e w1 ⟨rfl, hb1⟩
          have hl6 := (Array.getElem?_eq_some_iff.1 j6).1
          have hs1 := hb1.size
          have hw3 : w.heap.size + 3 < w1.heap.size := by omega
          have hBw1 : Below w.heap.size w w1 := j5.trans (hb1.mono j5.size)
          clear d0 d1 d2 q0 q1 q2 hdx hd hwMX hwM
          go_wp2_with fail
          have hZ := be3 w1 (Obj.cells #[.int .i64 p.1, .int .i64 p.2.1, .int .i64 p.2.2] 25) (Obj.cells #[.int .i64 0, .int .i64 0, .int .i64 0] 25) (Obj.cells #[.int .i64 0, .int .i64 0, .int .i64 0] 25)
          obtain ⟨zo, zs, zl⟩ := al3 w1 (Obj.cells #[.int .i64 p.1, .int .i64 p.2.1, .int .i64 p.2.2] 25) (Obj.cells #[.int .i64 0, .int .i64 0, .int .i64 0] 25) (Obj.cells #[.int .i64 0, .int .i64 0, .int .i64 0] 25)
          have HJZ := hide (hJ0.below (bel_trans hb1 hZ))
          have hsZ : (((w1.alloc (Obj.cells #[.int .i64 p.1, .int .i64 p.2.1, .int .i64 p.2.2] 25)).alloc (Obj.cells #[.int .i64 0, .int .i64 0, .int .i64 0] 25)).alloc (Obj.cells #[.int .i64 0, .int .i64 0, .int .i64 0] 25)).heap.size = w1.heap.size + 3 := by simp
          generalize ((w1.alloc (Obj.cells #[.int .i64 p.1, .int .i64 p.2.1, .int .i64 p.2.2] 25)).alloc (Obj.cells #[.int .i64 0, .int .i64 0, .int .i64 0] 25)).alloc (Obj.cells #[.int .i64 0, .int .i64 0, .int .i64 0] 25) = Z0 at *
          have HZS := hide hsZ
          have HZO := hide (show Z0.heap[w1.heap.size]? = some (.cells (tri (pxF p)) 25 (0, 0)) from zo)
          have HZB := hide (show Z0.heap[w1.heap.size + 1]? = some (.cells (tri fun _ => 0) 25 (0, 0)) from zs)
          have HZL := hide (show Z0.heap[w1.heap.size + 1 + 1]? = some (.cells (tri fun _ => 0) 25 (0, 0)) from zl)
          have HBW := hide hBw1
          clear hsZ zo zs zl j1 j2 j3 j4 j6 j5 hJ0 hb1 hBw1
          go_loopw [12] (fun i wv => ∃ V : Nat, V ≤ 3 ∧ i = .int .i64 ((V : Int) - 1) ∧ ShK Z0 w1 (w1.heap.size + 1) (fun j => sumN (sG ps W H X Y j) (3 * V)) wv) (fun i _ => (2 - intOf i).toNat)
          case atStart => exact ⟨0, by omega, rfl, by simpa [tri, sumN] using HZB.out, fun _ _ _ => rfl, Nat.le_refl _, hZ⟩
          case round =>
            obtain ⟨V, hV, rfl, hK⟩ := hrel
            by_cases hlv : V < 3
            · obtain ⟨vv, hvv⟩ : ∃ vv : Int, (V : Int) - 1 = vv := ⟨_, rfl⟩
              rw [hvv]
              have hdv : decide (vv ≤ 1) = true := by simp; omega
              go_wp2_with fail
              go_loopw [13] (fun i wu => ∃ T : Nat, T ≤ 3 ∧ i = .int .i64 ((T : Int) - 1) ∧ ShK Z0 w1 (w1.heap.size + 1) (fun j => sumN (sG ps W H X Y j) (3 * V + T)) wu) (fun i _ => (2 - intOf i).toNat)
              case atStart => exact ⟨0, by omega, rfl, hK⟩
              case round =>
                clear hK
                obtain ⟨T, hT, rfl, hK⟩ := hrel
                by_cases hlu : T < 3
                · obtain ⟨uu, huu⟩ : ∃ uu : Int, (T : Int) - 1 = uu := ⟨_, rfl⟩
                  rw [huu]
                  have hdu : decide (uu ≤ 1) = true := by simp; omega
                  obtain ⟨so, scap, j1, j2, j3, j4, j6, j5⟩ := HJZ.out.sum HZB.out (Nat.le_succ _) hw3 HBW.out hK
                  obtain ⟨q0, q1, q2⟩ := cells3 j3
                  obtain ⟨NY, hNY⟩ := Int.eq_ofNat_of_zero_le (near_range H ((Y : Int) - 1 + (V : Nat)) (by omega)).1
                  obtain ⟨NX, hNX⟩ := Int.eq_ofNat_of_zero_le (near_range W ((X : Int) - 1 + (T : Nat)) (by omega)).1
                  have hNYl : NY < H := by have := (near_range H ((Y : Int) - 1 + (V : Nat)) (by omega)).2; omega
                  have hNXl : NX < W := by have := (near_range W ((X : Int) - 1 + (T : Nat)) (by omega)).2; omega
                  obtain ⟨A, hA⟩ : ∃ A, (if (Y : Int) + vv < (H : Int) - 1 then (Y : Int) + vv else (H : Int) - 1) = A := ⟨_, rfl⟩
                  obtain ⟨B, hBB⟩ : ∃ B, (if (X : Int) + uu < (W : Int) - 1 then (X : Int) + uu else (W : Int) - 1) = B := ⟨_, rfl⟩
                  have hA2 : (if 0 < A then A else 0) = (NY : Int) := by
                    rw [← hNY, ← hA]; rcases near_cases H ((Y : Int) - 1 + (V : Nat)) with ⟨h1, h2⟩ | ⟨h1, h2, h3⟩ | ⟨h1, h2, h3⟩ <;> (split <;> split <;> omega)
                  have hB2 : (if 0 < B then B else 0) = (NX : Int) := by
                    rw [← hNX, ← hBB]; rcases near_cases W ((X : Int) - 1 + (T : Nat)) with ⟨h1, h2⟩ | ⟨h1, h2, h3⟩ | ⟨h1, h2, h3⟩ <;> (split <;> split <;> omega)
                  obtain ⟨n, hn⟩ : ∃ n, 3 * V + T = n := ⟨_, rfl⟩
                  have HIX := hide (show sIx W H X Y n = NY * W + NX by
                    rw [← hn, sIx, show (3 * V + T) / 3 = V by omega, show (3 * V + T) % 3 = T by omega, hNY, hNX]; rfl)
                  have hn3 : n / 3 = V := by omega
                  have hnm : n % 3 = T := by omega
                  rw [hn] at hK
                  obtain ⟨NM, hNM⟩ : ∃ NM, NM = NY * W := ⟨_, rfl⟩
                  have hNYW : (NY : Int) * (W : Int) = (NM : Int) := by rw [hNM]; simp
                  obtain ⟨K1, hK1⟩ : ∃ K1, NM + NX = K1 := ⟨_, rfl⟩
                  have hNMK : (NM : Int) + (NX : Int) = (K1 : Int) := by omega
                  rw [← hNM, hK1] at HIX
                  have hKl : K1 < ps.length := by rw [← HIX.out, HLEN.out]; exact sIx_lt hW1 hH1 X Y n
                  obtain ⟨bk2, off2, hao2, hbl2, c0, c1, c2⟩ := HC.out K1 hKl
                  obtain ⟨rfl, rfl⟩ : bk = bk2 ∧ off = off2 := by simpa using hao2
                  have d0 := (j5.cell (p := ⟨bk, off + K1 * 3, none⟩) hbl).trans c0
                  have d1 := (j5.cell (p := ⟨bk, off + K1 * 3 + 1, none⟩) hbl).trans c1
                  have d2 := (j5.cell (p := ⟨bk, off + K1 * 3 + 2, none⟩) hbl).trans c2
                  obtain ⟨pk, hpk⟩ : ∃ pk, pxAt ps K1 = pk := ⟨_, rfl⟩
                  have HPK := hide (show pxAt ps (sIx W H X Y n) = pk by rw [HIX.out]; exact hpk)
                  rw [hpk] at d0 d1 d2
                  have HR := hide (fun j => sG_range HPS.out W H X Y j n)
                  have HSG := hide (show ∀ j, sG ps W H X Y j n = pxF pk j * wtN T * wtN V from fun j => by rw [sG, HPK.out, hn3, hnm])
                  have HPF := hide (show ∀ j, 0 ≤ pxF pk j ∧ pxF pk j ≤ 65535 from fun j => by rw [← hpk]; exact pxF_ok (pxAt_ok HPS.out K1) j)
                  have HN := hide hn
                  have HKK := hide hK
                  clear hn hNM hK1 hpk c0 c1 c2 hbl2 hao2 hNY hNX hn3 hnm hK
                  go_wp2_with fail
                  refine (parts_any pk _).mono ?_
                  rintro e w2 ⟨rfl, hb2⟩
                  clear hA hBB d0 d1 d2 q0 q1 q2 hA2 hB2 hNYW hNMK hdu hdv
                  go_wp2_with fail
                  have hKC := HKK.out.below (bel_trans hb2 (bel_alloc w2 (Obj.cells #[.int .i64 pk.1, .int .i64 pk.2.1, .int .i64 pk.2.2] 25)))
                  have zc : (w2.alloc (Obj.cells #[.int .i64 pk.1, .int .i64 pk.2.1, .int .i64 pk.2.2] 25)).heap[w2.heap.size]? = some (.cells (tri (pxF pk)) 25 (0, 0)) := al1 w2 _
                  have hlc : Z0.heap.size ≤ w2.heap.size := Nat.le_trans HKK.out.2.2.1 hb2.size
                  generalize w2.alloc (Obj.cells #[.int .i64 pk.1, .int .i64 pk.2.1, .int .i64 pk.2.2] 25) = WC at *
                  clear j1 j2 j3 j4 j6 j5 hb2 HKK
                  go_loopw [15] (fun i wk => ∃ kk : Nat, kk ≤ 3 ∧ i = .int .i64 kk ∧ ShK Z0 w1 (w1.heap.size + 1) (fun j => sumN (sG ps W H X Y j) n + (if j < kk then sG ps W H X Y j n else 0)) wk ∧ wk.heap[w2.heap.size]? = some (.cells (tri (pxF pk)) 25 (0, 0))) (fun i _ => 3 - (intOf i).toNat)
                  case atStart => exact ⟨0, by omega, rfl, hKC.congr (fun j _ => by simp), zc⟩
                  case round =>
                    clear hKC zc
                    obtain ⟨kk, hkk, rfl, hK, zc⟩ := hrel
                    by_cases hlk : kk < 3
                    · have hdk : decide ((kk : Int) < 3) = true := by simp; omega
                      obtain ⟨so, scap, j1, j2, j3, j4, j6, j5⟩ := HJZ.out.sum HZB.out (Nat.le_succ _) hw3 HBW.out hK
                      have HR1 := sumN_range (fun m => sG_range HPS.out W H X Y kk m) n
                      have hcs : wr.cell? ⟨w1.heap.size + 1, kk, none⟩ = some (.int .i64 (sumN (sG ps W H X Y kk) n)) := by rw [Lib.cell_of_heap hK.1, tri_get _ kk hlk]; simp
                      have hcf : wr.frozen? ⟨w1.heap.size + 1, kk, none⟩ = false := Lib.frozen_of_heap hK.1 kk
                      have hcc : wr.cell? ⟨w2.heap.size, kk, none⟩ = some (.int .i64 (pxF pk kk)) := by rw [Lib.cell_of_heap zc, tri_get _ kk hlk]
                      have hct : wr.cell? ⟨w.heap.size + 1 + 1 + 1, T, none⟩ = some (.int .i64 (wtN T)) := by rw [Lib.cell_of_heap (b := w.heap.size + 1 + 1 + 1) j6, tri_get _ T hlu]
                      have hcv : wr.cell? ⟨w.heap.size + 1 + 1 + 1, V, none⟩ = some (.int .i64 (wtN V)) := by rw [Lib.cell_of_heap (b := w.heap.size + 1 + 1 + 1) j6, tri_get _ V hlv]
                      obtain ⟨b1, b2⟩ := HPF.out kk
                      obtain ⟨b3, b4⟩ := wtN_range T
                      obtain ⟨b5, b6⟩ := wtN_range V
                      obtain ⟨b7, b8⟩ := mul_upto b1 b2 (show 0 ≤ wtN T by omega) b4
                      obtain ⟨b9, b10⟩ := mul_upto b7 b8 (show 0 ≤ wtN V by omega) b6
                      have HSGk := hide (HSG.out kk)
                      obtain ⟨m1, hm1⟩ : ∃ m1, pxF pk kk * wtN T = m1 := ⟨_, rfl⟩
                      rw [hm1] at b7 b8 b9 b10 HSGk
                      obtain ⟨m2, hm2⟩ : ∃ m2, m1 * wtN V = m2 := ⟨_, rfl⟩
                      rw [hm2] at b9 b10 HSGk
                      obtain ⟨s0, hs0⟩ : ∃ s0, sumN (sG ps W H X Y kk) n = s0 := ⟨_, rfl⟩
                      rw [hs0] at hcs HR1
                      have hn9 : n ≤ 8 := by have := HN.out; omega
                      have hw1 : IntKind.i64.wrap m1 = m1 := IntWalk.i64_in _ (by omega)
                      have hw2 : IntKind.i64.wrap m2 = m2 := IntWalk.i64_in _ (by omega)
                      have hws : IntKind.i64.wrap (s0 + m2) = s0 + m2 := IntWalk.i64_in _ (by omega)
                      have hwu : IntKind.i64.wrap (uu + 1) = (T : Int) := by rw [← huu]; exact (IntWalk.i64_in _ (by omega)).trans (by omega)
                      have hwv : IntKind.i64.wrap (vv + 1) = (V : Int) := by rw [← hvv]; exact (IntWalk.i64_in _ (by omega)).trans (by omega)
                      have hKset := ShK.set (t := fun j => sumN (sG ps W H X Y j) n + (if j < kk + 1 then sG ps W H X Y j n else 0)) hK (Nat.le_succ _) kk (s0 + m2) hlk (by simp only [if_pos (Nat.lt_succ_self kk)]; rw [hs0, HSGk.out]) (fun j _ hne => by
                        show sumN (sG ps W H X Y j) n + (if j < kk then sG ps W H X Y j n else 0) = sumN (sG ps W H X Y j) n + (if j < kk + 1 then sG ps W H X Y j n else 0)
                        by_cases h : j < kk
                        · rw [if_pos h, if_pos (by omega)]
                        · rw [if_neg h, if_neg (by omega)])
                      have hlw2 : w1.heap.size + 1 ≠ w2.heap.size := by have := HZS.out; omega
                      have zc2 : (wr.drew.setCell ⟨w1.heap.size + 1, kk, none⟩ (.int .i64 (s0 + m2))).heap[w2.heap.size]? = some (.cells (tri (pxF pk)) 25 (0, 0)) := (Below.heap_setCell _ _ _ _ (Ne.symm hlw2)).trans zc
                      generalize wtN T = wt at *
                      generalize wtN V = wv at *
                      generalize pxF pk kk = pc at *
                      have hlkI : (kk : Int) < 3 := by omega
                      have hluI : (T : Int) < 3 := by omega
                      have hlvI : (V : Int) < 3 := by omega
                      have HSET := hide hKset
                      have HZC := hide zc2
                      clear j1 j2 j3 j4 j6 j5 hK zc hKset zc2 hs0
                      have hSd : wr.drew.cell? ⟨w1.heap.size + 1, kk, none⟩ = some (.int .i64 s0) ∧ wr.drew.cell? ⟨w2.heap.size, kk, none⟩ = some (.int .i64 pc) ∧ wr.drew.cell? ⟨w.heap.size + 1 + 1 + 1, T, none⟩ = some (.int .i64 wt) ∧ wr.drew.cell? ⟨w.heap.size + 1 + 1 + 1, V, none⟩ = some (.int .i64 wv) := ⟨hcs, hcc, hct, hcv⟩
                      go_wp2_with fail
                      have hmx : Try.prog.follows .mixedOrders = true := by kernel_rfl
                      refine wp_region_last (S := fun v : World => v.cell? ⟨w1.heap.size + 1, kk, none⟩ = some (.int .i64 s0) ∧ v.cell? ⟨w2.heap.size, kk, none⟩ = some (.int .i64 pc) ∧ v.cell? ⟨w.heap.size + 1 + 1 + 1, T, none⟩ = some (.int .i64 wt) ∧ v.cell? ⟨w.heap.size + 1 + 1 + 1, V, none⟩ = some (.int .i64 wv)) (f := 19) hmx ?_
                      show wpAnyF _ _ _ _ _ _ 20 _ _ wr.drew
                      refine wpAnyF_take (i := 0) (oi := _) (v := ?vv0) rfl (by kernel_rfl) (by kernel_rfl) (by kernel_rfl) (by kernel_rfl) (by kernel_rfl) (fun _ _ _ h => h) (Or.inl ⟨by rfl, ?yy0⟩) hSd ?rr0
                      case yy0 => (intro wq hSq; obtain ⟨_, _, _, _⟩ := hSq; go_simp <;> with_reducible rfl)
                      try simp only [Act.put]
                      refine wpAnyF_take (i := 1) (oi := _) (v := ?vv1) rfl (by kernel_rfl) (by kernel_rfl) (by kernel_rfl) (by kernel_rfl) (by kernel_rfl) (fun _ _ _ h => h) (Or.inl ⟨by rfl, ?yy1⟩) hSd ?rr1
                      case yy1 => (intro wq hSq; obtain ⟨_, _, _, _⟩ := hSq; go_simp <;> with_reducible rfl)
                      try simp only [Act.put]
                      refine wpAnyF_take (i := 2) (oi := _) (v := ?vv2) rfl (by kernel_rfl) (by kernel_rfl) (by kernel_rfl) (by kernel_rfl) (by kernel_rfl) (fun _ _ _ h => h) (Or.inl ⟨by rfl, ?yy2⟩) hSd ?rr2
                      case yy2 => (intro wq hSq; obtain ⟨_, _, _, _⟩ := hSq; go_simp <;> with_reducible rfl)
                      try simp only [Act.put]
                      refine wpAnyF_take (i := 3) (oi := _) (v := ?vv3) rfl (by kernel_rfl) (by kernel_rfl) (by kernel_rfl) (by kernel_rfl) (by kernel_rfl) (fun _ _ _ h => h) (Or.inl ⟨by rfl, ?yy3⟩) hSd ?rr3
                      case yy3 => (intro wq hSq; obtain ⟨_, _, _, _⟩ := hSq; go_simp <;> with_reducible rfl)
                      try simp only [Act.put]
                      refine wpAnyF_take (i := 4) (oi := _) (v := ?vv4) rfl (by kernel_rfl) (by kernel_rfl) (by kernel_rfl) (by kernel_rfl) (by kernel_rfl) (fun _ _ _ h => h) (Or.inl ⟨by rfl, ?yy4⟩) hSd ?rr4
                      case yy4 => (intro wq hSq; obtain ⟨_, _, _, _⟩ := hSq; go_simp <;> with_reducible rfl)
                      try simp only [Act.put]
                      refine wpAnyF_take (i := 5) (oi := _) (v := ?vv5) rfl (by kernel_rfl) (by kernel_rfl) (by kernel_rfl) (by kernel_rfl) (by kernel_rfl) (fun _ _ _ h => h) (Or.inl ⟨by rfl, ?yy5⟩) hSd ?rr5
                      case yy5 => (intro wq hSq; obtain ⟨_, _, _, _⟩ := hSq; go_simp <;> with_reducible rfl)
                      try simp only [Act.put]
                      refine wpAnyF_take (i := 6) (oi := _) (v := ?vv6) rfl (by kernel_rfl) (by kernel_rfl) (by kernel_rfl) (by kernel_rfl) (by kernel_rfl) (fun _ _ _ h => h) (Or.inl ⟨by rfl, ?yy6⟩) hSd ?rr6
                      case yy6 => (intro wq hSq; obtain ⟨_, _, _, _⟩ := hSq; go_simp <;> with_reducible rfl)
                      try simp only [Act.put]
                      refine wpAnyF_take (i := 7) (oi := _) (v := ?vv7) rfl (by kernel_rfl) (by kernel_rfl) (by kernel_rfl) (by kernel_rfl) (by kernel_rfl) (fun _ _ _ h => h) (Or.inl ⟨by rfl, ?yy7⟩) hSd ?rr7
                      case yy7 => (intro wq hSq; obtain ⟨_, _, _, _⟩ := hSq; go_simp <;> with_reducible rfl)
                      try simp only [Act.put]
                      refine wpAnyF_take (i := 8) (oi := _) (v := ?vv8) rfl (by kernel_rfl) (by kernel_rfl) (by kernel_rfl) (by kernel_rfl) (by kernel_rfl) (fun _ _ _ h => h) (Or.inl ⟨by rfl, ?yy8⟩) hSd ?rr8
                      case yy8 => (intro wq hSq; obtain ⟨_, _, _, _⟩ := hSq; go_simp <;> with_reducible rfl)
                      try simp only [Act.put]
                      refine wpAnyF_take (i := 9) (oi := _) (v := ?vv9) rfl (by kernel_rfl) (by kernel_rfl) (by kernel_rfl) (by kernel_rfl) (by kernel_rfl) (fun _ _ _ h => h) (Or.inl ⟨by rfl, ?yy9⟩) hSd ?rr9
                      case yy9 => (intro wq hSq; obtain ⟨_, _, _, _⟩ := hSq; go_simp <;> with_reducible rfl)
                      try simp only [Act.put]
                      refine wpAnyF_take (i := 10) (oi := _) (v := ?vv10) rfl (by kernel_rfl) (by kernel_rfl) (by kernel_rfl) (by kernel_rfl) (by kernel_rfl) (fun _ _ _ h => h) (Or.inl ⟨by rfl, ?yy10⟩) hSd ?rr10
                      case yy10 => (intro wq hSq; obtain ⟨_, _, _, _⟩ := hSq; go_simp <;> with_reducible rfl)
                      try simp only [Act.put]
                      refine wpAnyF_take (i := 11) (oi := _) (v := ?vv11) rfl (by kernel_rfl) (by kernel_rfl) (by kernel_rfl) (by kernel_rfl) (by kernel_rfl) (fun _ _ _ h => h) (Or.inl ⟨by rfl, ?yy11⟩) hSd ?rr11
                      case yy11 => (intro wq hSq; obtain ⟨_, _, _, _⟩ := hSq; go_simp <;> with_reducible rfl)
                      try simp only [Act.put]
                      refine wpAnyF_take (i := 12) (oi := _) (v := ?vv12) rfl (by kernel_rfl) (by kernel_rfl) (by kernel_rfl) (by kernel_rfl) (by kernel_rfl) (fun _ _ _ h => h) (Or.inl ⟨by rfl, ?yy12⟩) hSd ?rr12
                      case yy12 => (intro wq hSq; obtain ⟨_, _, _, _⟩ := hSq; go_simp <;> with_reducible rfl)
                      try simp only [Act.put]
                      refine wpAnyF_take (i := 13) (oi := _) (v := ?vv13) rfl (by kernel_rfl) (by kernel_rfl) (by kernel_rfl) (by kernel_rfl) (by kernel_rfl) (fun _ _ _ h => h) (Or.inl ⟨by rfl, ?yy13⟩) hSd ?rr13
                      case yy13 => (intro wq hSq; obtain ⟨_, _, _, _⟩ := hSq; go_simp <;> with_reducible rfl)
                      try simp only [Act.put]
                      refine wpAnyF_take (i := 14) (oi := _) (v := ?vv14) rfl (by kernel_rfl) (by kernel_rfl) (by kernel_rfl) (by kernel_rfl) (by kernel_rfl) (fun _ _ _ h => h) (Or.inl ⟨by rfl, ?yy14⟩) hSd ?rr14
                      case yy14 => (intro wq hSq; obtain ⟨_, _, _, _⟩ := hSq; go_simp <;> with_reducible rfl)
                      try simp only [Act.put]
                      refine wpAnyF_take (i := 15) (oi := _) (v := ?vv15) rfl (by kernel_rfl) (by kernel_rfl) (by kernel_rfl) (by kernel_rfl) (by kernel_rfl) (fun _ _ _ h => h) (Or.inl ⟨by rfl, ?yy15⟩) hSd ?rr15
                      case yy15 => (intro wq hSq; obtain ⟨_, _, _, _⟩ := hSq; go_simp <;> with_reducible rfl)
                      try simp only [Act.put]
                      refine wpAnyF_take (i := 16) (oi := _) (v := ?vv16) rfl (by kernel_rfl) (by kernel_rfl) (by kernel_rfl) (by kernel_rfl) (by kernel_rfl) (fun _ _ _ h => h) (Or.inl ⟨by rfl, ?yy16⟩) hSd ?rr16
                      case yy16 => (intro wq hSq; obtain ⟨_, _, _, _⟩ := hSq; go_simp <;> with_reducible rfl)
                      try simp only [Act.put]
                      refine wpAnyF_take (i := 17) (oi := _) (v := ?vv17) rfl (by kernel_rfl) (by kernel_rfl) (by kernel_rfl) (by kernel_rfl) (by kernel_rfl) (fun _ _ _ h => h) (Or.inl ⟨by rfl, ?yy17⟩) hSd ?rr17
                      case yy17 => (intro wq hSq; obtain ⟨_, _, _, _⟩ := hSq; go_simp <;> with_reducible rfl)
                      try simp only [Act.put]
                      refine wpAnyF_take (i := 18) (oi := _) (v := ?vv18) rfl (by kernel_rfl) (by kernel_rfl) (by kernel_rfl) (by kernel_rfl) (by kernel_rfl) (fun _ _ _ h => h) (Or.inl ⟨by rfl, ?yy18⟩) hSd ?rr18
                      case yy18 => (intro wq hSq; obtain ⟨_, _, _, _⟩ := hSq; go_simp <;> with_reducible rfl)
                      try simp only [Act.put]
                      refine wpAnyF_last (o := _) (by kernel_rfl) rfl (fun K' hK => ?_)
                      rw [if_pos (by rfl)]
                      go_simp
                      refine hK.out _ _ ?_
                      clear hK
                      refine wpAnyF_done (by kernel_rfl) ?_ _
                      try simp only [Act.put]
                      go_wp2
                      go_roundw
                      case rel => exact ⟨kk + 1, by omega, by go_num, HSET.out, HZC.out⟩
                      case measure => simp [intOf]; omega
                    · have hdk : decide ((kk : Int) < 3) = false := by simp; omega
                      have h3 : kk = 3 := by omega
                      subst h3
                      have HK1 := hide (show ShK Z0 w1 (w1.heap.size + 1) (fun j => sumN (sG ps W H X Y j) (3 * V + (T + 1))) wr from hK.congr (fun j hj => by
                        have hn := HN.out
                        rw [if_pos hj, show 3 * V + (T + 1) = n + 1 by omega]; rfl))
                      clear hK zc
                      go_wp2
                      go_roundw
                      case rel => exact ⟨T + 1, by omega, by go_num, HK1.out⟩
                      case measure => simp [intOf]; omega
                · have h3 : T = 3 := by omega
                  subst h3
                  have hdu : decide (((3 : Nat) : Int) - 1 ≤ 1) = false := by decide
                  have HK1 := hide (show ShK Z0 w1 (w1.heap.size + 1) (fun j => sumN (sG ps W H X Y j) (3 * (V + 1))) wr from hK)
                  clear hK
                  go_wp2
                  go_roundw
                  case rel => exact ⟨V + 1, by omega, by go_num, HK1.out⟩
                  case measure => simp [intOf]; omega
            · have h3 : V = 3 := by omega
              have e2 : (V : Int) - 1 = 2 := by omega
              rw [e2]
              clear e2
              subst h3
              have hdv : decide ((2 : Int) ≤ 1) = false := by decide
              have HK9 := hide (show ShK Z0 w1 (w1.heap.size + 1) (fun j => sumN (sG ps W H X Y j) 9) wr from hK)
              have hlk := hK.2.2.1
              have zl9 : wr.heap[w1.heap.size + 1 + 1]? = some (.cells (tri fun _ => 0) 25 (0, 0)) := (hK.2.1 (w1.heap.size + 1 + 1) (by have := HZS.out; omega) (by omega)).trans HZL.out
              have zo9 : wr.heap[w1.heap.size]? = some (.cells (tri (pxF p)) 25 (0, 0)) := (hK.2.1 w1.heap.size (by have := HZS.out; omega) (by omega)).trans HZO.out
              have HJ9 := hide (HJZ.out.sum HZB.out (Nat.le_succ _) hw3 HBW.out hK)
              have hKb := hK.2.2.2
              clear hK
              go_wp2_with fail
              generalize wr = Z9 at *
              go_loopw [16] (fun i wl => ∃ kk : Nat, kk ≤ 3 ∧ i = .int .i64 kk ∧ ShK Z9 w1 (w1.heap.size + 1 + 1) (fun j => if j < kk then sharpQ ps W H X Y amount j else 0) wl) (fun i _ => 3 - (intOf i).toNat)
              case atStart => exact ⟨0, by omega, rfl, zl9, fun _ _ _ => rfl, Nat.le_refl _, hKb⟩
              case round =>
                obtain ⟨kk, hkk, rfl, hK⟩ := hrel
                have hsb := (Array.getElem?_eq_some_iff.1 HK9.out.1).1
                have hob := (Array.getElem?_eq_some_iff.1 zo9).1
                by_cases hlk3 : kk < 3
                · have hdk : decide ((kk : Int) < 3) = true := by simp; omega
                  have hcs : wr.cell? ⟨w1.heap.size + 1, kk, none⟩ = some (.int .i64 (sumN (sG ps W H X Y kk) 9)) := by rw [Lib.cell_of_heap ((hK.2.1 (w1.heap.size + 1) hsb (by omega)).trans HK9.out.1), tri_get _ kk hlk3]
                  have hco : wr.cell? ⟨w1.heap.size, kk, none⟩ = some (.int .i64 (pxF p kk)) := by rw [Lib.cell_of_heap ((hK.2.1 w1.heap.size hob (by omega)).trans zo9), tri_get _ kk hlk3]
                  have hcl : wr.cell? ⟨w1.heap.size + 1 + 1, kk, none⟩ = some (.int .i64 0) := by rw [Lib.cell_of_heap hK.1, tri_get _ kk hlk3, if_neg (Nat.lt_irrefl _)]
                  have hcf : wr.frozen? ⟨w1.heap.size + 1 + 1, kk, none⟩ = false := Lib.frozen_of_heap hK.1 kk
                  have HQ := hide (show sharpQ ps W H X Y amount kk = clampV (pxF p kk + (pxF p kk - sumN (sG ps W H X Y kk) 9 / 16) * amount / 256) by rw [sharpQ, ← HM.out, HK.out, HP.out]; rfl)
                  obtain ⟨s1, s2⟩ := sumN_range (fun m => sG_range HPS.out W H X Y kk m) 9
                  obtain ⟨p1, p2⟩ := pxF_ok HOK.out kk
                  obtain ⟨sm, hsm⟩ : ∃ sm, sumN (sG ps W H X Y kk) 9 = sm := ⟨_, rfl⟩
                  obtain ⟨pc, hpc⟩ : ∃ pc, pxF p kk = pc := ⟨_, rfl⟩
                  rw [hsm] at hcs HQ s1 s2
                  rw [hpc] at hco HQ p1 p2
                  obtain ⟨b, hb⟩ : ∃ b, sm / 16 = b := ⟨_, rfl⟩
                  have hb0 : 0 ≤ b ∧ b ≤ 147454 := by omega
                  rw [hb] at HQ
                  have hm := mul_bounds (a := pc - b) (r := amount) (A := 147454) (R := 1024) (by omega) (by omega) ha0 ha1 (by omega)
                  obtain ⟨m, hM9⟩ : ∃ m, (pc - b) * amount = m := ⟨_, rfl⟩
                  rw [hM9] at HQ hm
                  obtain ⟨hm0, hm1⟩ := hm
                  obtain ⟨hb0, hb1⟩ := hb0
                  obtain ⟨D, hD⟩ : ∃ D, m / 256 = D := ⟨_, rfl⟩
                  have hd0 : -600000 ≤ D ∧ D ≤ 600000 := by omega
                  obtain ⟨hd0, hd1⟩ := hd0
                  rw [hD] at HQ
                  have HDN := hide (fun v => downB_any m 256 (by omega) (by omega) (by omega) (by omega) v)
                  rw [hD] at HDN
                  have hbt : sm.tdiv 16 = b := by rw [Int.tdiv_eq_ediv_of_nonneg s1]; exact hb
                  have hwq : IntKind.i64.wrap b = b := IntWalk.i64_in _ (by omega)
                  have hwd : IntKind.i64.wrap (pc - b) = pc - b := IntWalk.i64_in _ (by omega)
                  have hwm : IntKind.i64.wrap m = m := IntWalk.i64_in _ (by omega)
                  have hwt : IntKind.i64.wrap (pc + D) = pc + D := IntWalk.i64_in _ (by omega)
                  have HSET := hide (ShK.set (t := fun j => if j < kk + 1 then sharpQ ps W H X Y amount j else 0) hK (by omega) kk (clampV (pc + D)) hlk3 (by rw [if_pos (Nat.lt_succ_self kk), HQ.out]) (fun j _ hne => by
                    show (if j < kk then sharpQ ps W H X Y amount j else 0) = (if j < kk + 1 then sharpQ ps W H X Y amount j else 0)
                    by_cases h : j < kk
                    · rw [if_pos h, if_pos (by omega)]
                    · rw [if_neg h, if_neg (by omega)]))
                  have hlkI : (kk : Int) < 3 := by omega
                  clear hK hD hsm hpc
                  have hSd : wr.drew.cell? ⟨w1.heap.size + 1, kk, none⟩ = some (.int .i64 sm) ∧ wr.drew.cell? ⟨w1.heap.size, kk, none⟩ = some (.int .i64 pc) := ⟨hcs, hco⟩
                  go_wp2_with fail
                  have hmx : Try.prog.follows .mixedOrders = true := by kernel_rfl
                  refine wp_region_last (S := fun v : World => v.cell? ⟨w1.heap.size + 1, kk, none⟩ = some (.int .i64 sm) ∧ v.cell? ⟨w1.heap.size, kk, none⟩ = some (.int .i64 pc)) (f := 18) hmx ?_
                  show wpAnyF _ _ _ _ _ _ 19 _ _ wr.drew
                  refine wpAnyF_take (i := 0) (oi := _) (v := ?vv101) rfl (by kernel_rfl) (by kernel_rfl) (by kernel_rfl) (by kernel_rfl) (by kernel_rfl) (fun _ _ _ h => h) (Or.inl ⟨by rfl, ?yy101⟩) hSd ?rr101
                  case yy101 => (intro wq hSq; obtain ⟨_, _⟩ := hSq; go_simp <;> with_reducible rfl)
                  try simp only [Act.put]
                  refine wpAnyF_take (i := 1) (oi := _) (v := ?vv102) rfl (by kernel_rfl) (by kernel_rfl) (by kernel_rfl) (by kernel_rfl) (by kernel_rfl) (fun _ _ _ h => h) (Or.inl ⟨by rfl, ?yy102⟩) hSd ?rr102
                  case yy102 => (intro wq hSq; obtain ⟨_, _⟩ := hSq; go_simp <;> with_reducible rfl)
                  try simp only [Act.put]
                  refine wpAnyF_take (i := 2) (oi := _) (v := ?vv103) rfl (by kernel_rfl) (by kernel_rfl) (by kernel_rfl) (by kernel_rfl) (by kernel_rfl) (fun _ _ _ h => h) (Or.inl ⟨by rfl, ?yy103⟩) hSd ?rr103
                  case yy103 => (intro wq hSq; obtain ⟨_, _⟩ := hSq; go_simp <;> with_reducible rfl)
                  try simp only [Act.put]
                  refine wpAnyF_take (i := 3) (oi := _) (v := ?vv104) rfl (by kernel_rfl) (by kernel_rfl) (by kernel_rfl) (by kernel_rfl) (by kernel_rfl) (fun _ _ _ h => h) (Or.inl ⟨by rfl, ?yy104⟩) hSd ?rr104
                  case yy104 => (intro wq hSq; obtain ⟨_, _⟩ := hSq; go_simp <;> with_reducible rfl)
                  try simp only [Act.put]
                  refine wpAnyF_take (i := 4) (oi := _) (v := ?vv105) rfl (by kernel_rfl) (by kernel_rfl) (by kernel_rfl) (by kernel_rfl) (by kernel_rfl) (fun _ _ _ h => h) (Or.inl ⟨by rfl, ?yy105⟩) hSd ?rr105
                  case yy105 => (intro wq hSq; obtain ⟨_, _⟩ := hSq; go_simp <;> with_reducible rfl)
                  try simp only [Act.put]
                  refine wpAnyF_take (i := 5) (oi := _) (v := ?vv106) rfl (by kernel_rfl) (by kernel_rfl) (by kernel_rfl) (by kernel_rfl) (by kernel_rfl) (fun _ _ _ h => h) (Or.inl ⟨by rfl, ?yy106⟩) hSd ?rr106
                  case yy106 => (intro wq hSq; obtain ⟨_, _⟩ := hSq; go_simp <;> with_reducible rfl)
                  try simp only [Act.put]
                  refine wpAnyF_take (i := 6) (oi := _) (v := ?vv107) rfl (by kernel_rfl) (by kernel_rfl) (by kernel_rfl) (by kernel_rfl) (by kernel_rfl) (fun _ _ _ h => h) (Or.inl ⟨by rfl, ?yy107⟩) hSd ?rr107
                  case yy107 => (intro wq hSq; obtain ⟨_, _⟩ := hSq; go_simp <;> with_reducible rfl)
                  try simp only [Act.put]
                  refine wpAnyF_take (i := 7) (oi := _) (v := ?vv108) rfl (by kernel_rfl) (by kernel_rfl) (by kernel_rfl) (by kernel_rfl) (by kernel_rfl) (fun _ _ _ h => h) (Or.inl ⟨by rfl, ?yy108⟩) hSd ?rr108
                  case yy108 => (intro wq hSq; obtain ⟨_, _⟩ := hSq; go_simp <;> with_reducible rfl)
                  try simp only [Act.put]
                  refine wpAnyF_take (i := 8) (oi := _) (v := ?vv109) rfl (by kernel_rfl) (by kernel_rfl) (by kernel_rfl) (by kernel_rfl) (by kernel_rfl) (fun _ _ _ h => h) (Or.inl ⟨by rfl, ?yy109⟩) hSd ?rr109
                  case yy109 => (intro wq hSq; obtain ⟨_, _⟩ := hSq; go_simp <;> with_reducible rfl)
                  try simp only [Act.put]
                  refine wpAnyF_take (i := 9) (oi := _) (v := ?vv110) rfl (by kernel_rfl) (by kernel_rfl) (by kernel_rfl) (by kernel_rfl) (by kernel_rfl) (fun _ _ _ h => h) (Or.inl ⟨by rfl, ?yy110⟩) hSd ?rr110
                  case yy110 => (intro wq hSq; obtain ⟨_, _⟩ := hSq; go_simp <;> with_reducible rfl)
                  try simp only [Act.put]
                  refine wpAnyF_take (i := 10) (oi := _) (v := ?vv111) rfl (by kernel_rfl) (by kernel_rfl) (by kernel_rfl) (by kernel_rfl) (by kernel_rfl) (fun _ _ _ h => h) (Or.inl ⟨by rfl, ?yy111⟩) hSd ?rr111
                  case yy111 => (intro wq hSq; obtain ⟨_, _⟩ := hSq; go_simp <;> with_reducible rfl)
                  try simp only [Act.put]
                  refine wpAnyF_take (i := 11) (oi := _) (v := ?vv112) rfl (by kernel_rfl) (by kernel_rfl) (by kernel_rfl) (by kernel_rfl) (by kernel_rfl) (fun _ _ _ h => h) (Or.inl ⟨by rfl, ?yy112⟩) hSd ?rr112
                  case yy112 => (intro wq hSq; obtain ⟨_, _⟩ := hSq; go_simp <;> with_reducible rfl)
                  try simp only [Act.put]
                  refine wpAnyF_take (i := 12) (oi := _) (v := ?vv113) rfl (by kernel_rfl) (by kernel_rfl) (by kernel_rfl) (by kernel_rfl) (by kernel_rfl) (fun _ _ _ h => h) (Or.inl ⟨by rfl, ?yy113⟩) hSd ?rr113
                  case yy113 => (intro wq hSq; obtain ⟨_, _⟩ := hSq; go_simp <;> with_reducible rfl)
                  try simp only [Act.put]
                  refine wpAnyF_take (i := 13) (oi := _) (v := ?vv114) rfl (by kernel_rfl) (by kernel_rfl) (by kernel_rfl) (by kernel_rfl) (by kernel_rfl) (fun _ _ _ h => h) (Or.inl ⟨by rfl, ?yy114⟩) hSd ?rr114
                  case yy114 => (intro wq hSq; obtain ⟨_, _⟩ := hSq; go_simp <;> with_reducible rfl)
                  try simp only [Act.put]
                  refine wpAnyF_one (i := 14) (o := _) (by kernel_rfl) rfl (fun K' hK => ?_)
                  rw [if_pos (by rfl)]
                  go_simp
                  refine (HDN.out _).mono ?_
                  rintro e wq ⟨rfl, rfl⟩
                  have hSd := hSd
                  refine hK.out _ _ hSd ?_
                  clear hK
                  try simp only [Act.put]
                  refine wpAnyF_take (i := 15) (oi := _) (v := ?vv115) rfl (by kernel_rfl) (by kernel_rfl) (by kernel_rfl) (by kernel_rfl) (by kernel_rfl) (fun _ _ _ h => h) (Or.inl ⟨by rfl, ?yy115⟩) hSd ?rr115
                  case yy115 => (intro wq hSq; obtain ⟨_, _⟩ := hSq; go_simp <;> with_reducible rfl)
                  try simp only [Act.put]
                  refine wpAnyF_one (i := 16) (o := _) (by kernel_rfl) rfl (fun K' hK => ?_)
                  rw [if_pos (by rfl)]
                  go_simp
                  refine (clamp_any _ _).mono ?_
                  rintro e wq ⟨rfl, rfl⟩
                  have hSd := hSd
                  refine hK.out _ _ hSd ?_
                  clear hK
                  try simp only [Act.put]
                  refine wpAnyF_take (i := 17) (oi := _) (v := ?vv116) rfl (by kernel_rfl) (by kernel_rfl) (by kernel_rfl) (by kernel_rfl) (by kernel_rfl) (fun _ _ _ h => h) (Or.inl ⟨by rfl, ?yy116⟩) hSd ?rr116
                  case yy116 => (intro wq hSq; obtain ⟨_, _⟩ := hSq; go_simp <;> with_reducible rfl)
                  try simp only [Act.put]
                  refine wpAnyF_last (o := _) (by kernel_rfl) rfl (fun K' hK => ?_)
                  rw [if_pos (by rfl)]
                  go_simp
                  refine hK.out _ _ ?_
                  clear hK
                  refine wpAnyF_done (by kernel_rfl) ?_ _
                  try simp only [Act.put]
                  go_wp2
                  go_roundw
                  case rel => exact ⟨kk + 1, by omega, by go_num, HSET.out⟩
                  case measure => simp [intOf]; omega
                · have hdk : decide ((kk : Int) < 3) = false := by simp; omega
                  have h3 : kk = 3 := by omega
                  subst h3
                  have hKL := hK.1
                  have hJL := HJ9.out.sum zl9 (show w1.heap.size ≤ w1.heap.size + 1 + 1 by omega) hw3 HBW.out hK
                  obtain ⟨so, scap, j1, j2, j3, j4, j6, j5⟩ := hJL
                  have HQ3 := hide (show (sharpQ ps W H X Y amount 0, sharpQ ps W H X Y amount 1, sharpQ ps W H X Y amount 2) = sharpP ps W H amount k by rw [sharpQ_eq hlx hlt, ← HM.out, HK.out])
                  have iT : wr.heap[w1.heap.size + 1 + 1]? = some (.cells #[.int .i64 (sharpQ ps W H X Y amount 0), .int .i64 (sharpQ ps W H X Y amount 1), .int .i64 (sharpQ ps W H X Y amount 2)] 25 (0, 0)) := hKL
                  generalize sharpQ ps W H X Y amount 0 = x at *
                  generalize sharpQ ps W H X Y amount 1 = y at *
                  generalize sharpQ ps W H X Y amount 2 = z at *
                  have HST := hide (show (L.take (k + 1)).flatMap pixL = (L.take k).flatMap pixL ++ pixL (x, y, z) by
                    have hk2 : k < L.length := by rw [HLL.out]; exact hk
                    have hg := HLG.out k hk
                    rw [List.getElem?_eq_getElem hk2] at hg
                    rw [List.take_succ_eq_append_getElem hk2, Option.some.inj hg, List.flatMap_append, HQ3.out]; simp)
                  obtain ⟨XS, hXS⟩ : ∃ XS, (L.take k).flatMap pixL = XS := ⟨_, rfl⟩
                  rw [hXS] at j2 HST
                  have hbW := j5.size
                  have hlT := (Array.getElem?_eq_some_iff.1 iT).1
                  have nT := own_ne j2 iT (by decide)
                  have HL1 := hide (show k + 1 ≤ maxLen by unfold maxLen; omega)
                  have HL2 := hide (show (k + 1) * 24 ≤ 140737488355328 by omega)
                  have HS := hide (show ∀ v, Below wr.heap.size wr v → v.cell? ⟨w1.heap.size + 1 + 1, 0, none⟩ = some (.int .i64 x) ∧ v.cell? ⟨w1.heap.size + 1 + 1, 1, none⟩ = some (.int .i64 y) ∧ v.cell? ⟨w1.heap.size + 1 + 1, 2, none⟩ = some (.int .i64 z) ∧ v.cell? ⟨w.heap.size + 1 + 1, 2, none⟩ = some (.slice so k scap) from fun v h => by
                    obtain ⟨t0, t1, t2⟩ := cells3 ((h.block _ hlT).trans iT)
                    obtain ⟨_, _, t3⟩ := cells3 ((h.block (w.heap.size + 2) (Array.getElem?_eq_some_iff.1 j1).1).trans j1)
                    exact ⟨t0, t1, t2, t3⟩)
                  have HTL := hide (show ∀ (V1 : World) (gg cap : Nat) (w3 : World), Below wr.heap.size wr V1 → V1.grownBy w3 (Value.slice so k scap).ownBlock → w3.ownsRow w.heap.size 50 3 (.slice (some ⟨gg, 0, none⟩) (k + 1) cap) (k + 1) (XS ++ pixL (x, y, z)) → (w3.cell? ⟨w1.heap.size + 1 + 1, 0, none⟩ = some (.int .i64 x) ∧ w3.cell? ⟨w1.heap.size + 1 + 1, 1, none⟩ = some (.int .i64 y) ∧ w3.cell? ⟨w1.heap.size + 1 + 1, 2, none⟩ = some (.int .i64 z) ∧ w3.cell? ⟨w.heap.size + 1 + 1, 2, none⟩ = some (.slice so k scap)) ∧ w3.frozen? ⟨w.heap.size + 1 + 1, 2, none⟩ = false ∧ ShJ w W H (.slice (some ⟨bk, off, none⟩) ps.length ca) L (k + 1) (w3.setCell ⟨w.heap.size + 1 + 1, 2, none⟩ (.slice (some ⟨gg, 0, none⟩) (k + 1) cap)) from fun V1 gg cap w3 h1 h2 h3 => by
                    obtain ⟨t1, t2, t3, t4, t5, t6, t7⟩ := app_gen (by decide) j1 j2 j5 (Nat.le_refl _) (by omega) h1 h2 h3
                    obtain ⟨y0, y1, y2⟩ := cells3 ((t1 _ hlT nT).trans iT)
                    refine ⟨⟨y0, y1, y2, t2⟩, t3, some ⟨gg, 0, none⟩, cap, t4, by rw [HST.out]; exact t5, (t7 _ (Array.getElem?_eq_some_iff.1 j3).1 (own_ne j2 j3 (by decide)) (by omega)).trans j3, (t7 _ (Array.getElem?_eq_some_iff.1 j4).1 (own_ne j2 j4 (by decide)) (by omega)).trans j4, (t7 _ (Array.getElem?_eq_some_iff.1 j6).1 (own_ne j2 j6 (by decide)) (by omega)).trans j6, t6⟩)
                  have HON := hide (show ∀ v : World, Calls Try.prog 72 #[.agg #[.int .i64 x, .int .i64 y, .int .i64 z]] v fun e v' => e = .returned (.agg #[.int .i64 x, .int .i64 y, .int .i64 z]) ∧ Below v.heap.size v v' from fun v => pixel_any (x, y, z) v)
                  have hWd : Below wr.heap.size wr wr.drew := (Below.refl _ _).drew
                  have hSd := HS.out _ hWd
                  clear hK hKL iT j1 j3 j4 j6 hXS
                  go_wp2_with fail
                  have hmx : Try.prog.follows .mixedOrders = true := by kernel_rfl
                  refine wp_region_last (S := fun v : World => v.cell? ⟨w1.heap.size + 1 + 1, 0, none⟩ = some (.int .i64 x) ∧ v.cell? ⟨w1.heap.size + 1 + 1, 1, none⟩ = some (.int .i64 y) ∧ v.cell? ⟨w1.heap.size + 1 + 1, 2, none⟩ = some (.int .i64 z) ∧ v.cell? ⟨w.heap.size + 1 + 1, 2, none⟩ = some (.slice so k scap)) (f := 7) hmx ?_
                  show wpAnyF _ _ _ _ _ _ 8 _ _ wr.drew
                  refine wpAnyF_take (i := 0) (oi := _) (v := ?vv117) rfl (by kernel_rfl) (by kernel_rfl) (by kernel_rfl) (by kernel_rfl) (by kernel_rfl) (fun _ _ _ h => h) (Or.inl ⟨by rfl, ?yy117⟩) hSd ?rr117
                  case yy117 => (intro wq hSq; obtain ⟨_, _, _, _⟩ := hSq; go_simp <;> with_reducible rfl)
                  try simp only [Act.put]
                  refine wpAnyF_take (i := 1) (oi := _) (v := ?vv118) rfl (by kernel_rfl) (by kernel_rfl) (by kernel_rfl) (by kernel_rfl) (by kernel_rfl) (fun _ _ _ h => h) (Or.inl ⟨by rfl, ?yy118⟩) hSd ?rr118
                  case yy118 => (intro wq hSq; obtain ⟨_, _, _, _⟩ := hSq; go_simp <;> with_reducible rfl)
                  try simp only [Act.put]
                  refine wpAnyF_take (i := 2) (oi := _) (v := ?vv119) rfl (by kernel_rfl) (by kernel_rfl) (by kernel_rfl) (by kernel_rfl) (by kernel_rfl) (fun _ _ _ h => h) (Or.inl ⟨by rfl, ?yy119⟩) hSd ?rr119
                  case yy119 => (intro wq hSq; obtain ⟨_, _, _, _⟩ := hSq; go_simp <;> with_reducible rfl)
                  try simp only [Act.put]
                  refine wpAnyF_one (i := 3) (o := _) (by kernel_rfl) rfl (fun K' hK => ?_)
                  rw [if_pos (by rfl)]
                  go_simp
                  refine (HON.out _).mono ?_
                  rintro e V1 ⟨rfl, hbv⟩
                  have hB1 : Below wr.heap.size wr V1 := hWd.trans (hbv.mono hWd.size)
                  have hSd := HS.out _ hB1
                  refine hK.out _ _ hSd ?_
                  clear hK
                  try simp only [Act.put]
                  refine wpAnyF_one (i := 4) (o := _) (by kernel_rfl) rfl (fun K' hK => ?_)
                  rw [if_pos (by rfl)]
                  go_simp
                  have hBs : Below wr.heap.size wr (V1.alloc (Obj.cells #[.int .i64 x, .int .i64 y, .int .i64 z] 50)) := hB1.alloc hB1.size _
                  have hSd := HS.out _ hBs
                  refine hK.out _ _ hSd ?_
                  clear hK
                  try simp only [Act.put]
                  refine wpAnyF_one (i := 5) (o := _) (by kernel_rfl) rfl (fun K' hK => ?_)
                  refine step_append_lies _ rfl _ _ 37 rfl w.heap.size 50 i0 pixZ 3 24 Try.underlying37 hi hz0 hz1 hz2 rfl (by decide) (.slice so k scap) k XS rfl ((ownsRow_below j2 hB1).alloc _) ⟨V1.heap.size, 0, none⟩ 1 1 (pixL (x, y, z)) rfl rfl (World.news_of_block (al1 V1 _)) (fun u hu => by simp [pixL] at hu; rcases hu with rfl | rfl | rfl <;> rfl) Nat.one_pos HL1.out HL2.out (Nat.le_trans hbW hBs.size) _ rfl ?_
                  intro gg cap w3 hown hgrow hat hltg
                  obtain ⟨hSx, p2f, HFIN⟩ := HTL.out _ gg cap w3 hBs hgrow hown
                  have hSd := hSx
                  refine hK.out _ _ hSd ?_
                  clear hK
                  try simp only [Act.put]
                  refine wpAnyF_take (i := 6) (oi := _) (v := ?vv120) rfl (by kernel_rfl) (by kernel_rfl) (by kernel_rfl) (by kernel_rfl) (by kernel_rfl) (fun _ _ _ h => h) (Or.inl ⟨by rfl, ?yy120⟩) hSd ?rr120
                  case yy120 => (intro wq hSq; obtain ⟨_, _, _, _⟩ := hSq; go_simp <;> with_reducible rfl)
                  try simp only [Act.put]
                  refine wpAnyF_last (o := _) (by kernel_rfl) rfl (fun K' hK => ?_)
                  rw [if_pos (by rfl)]
                  go_simp
                  refine hK.out _ _ ?_
                  clear hK
                  refine wpAnyF_done (by kernel_rfl) ?_ _
                  try simp only [Act.put]
                  go_wp2
                  go_roundw
                  case rel => exact ⟨X + 1, by omega, by go_num, by rw [show M + (X + 1) = k + 1 by have := HK.out; omega]; exact HFIN⟩
                  case measure => simp [intOf]; omega
        · have hdx : decide ((X : Int) < (W : Int)) = false := by simp; omega
          have h3 : X = W := by omega
          subst h3
          have HJ1 := hide (show ShJ w X H (.slice ao ps.length ca) L ((Y + 1) * X) wr from ⟨so, scap, by rw [Nat.succ_mul, ← HM.out]; exact j1, by rw [Nat.succ_mul, ← HM.out]; exact j2, j3, j4, j6, j5⟩)
          go_wp2
          go_roundw
          case rel => exact ⟨Y + 1, by omega, by go_num, HJ1.out⟩
          case measure => simp [intOf]; omega
    · have hd : decide ((Y : Int) < (H : Int)) = false := by simp; omega
      obtain rfl : Y = H := by omega
      rw [← HLEN.out] at j1 j2
      rw [List.take_of_length_le (by rw [HLL.out]; exact Nat.le_refl _)] at j2
      obtain ⟨p0, p1, p2⟩ := cells3 j1
      obtain ⟨z0, z1, z2⟩ := cells3 j4
      have f0 := Lib.frozen_of_heap j4 0
      have f1 := Lib.frozen_of_heap j4 1
      have f2 := Lib.frozen_of_heap j4 2
      have HFI := hide (set3_below j5 (show w.heap.size ≤ w.heap.size + 1 by omega) (.int .i64 (W : Nat)) (.int .i64 (Y : Nat)) (.slice so ps.length scap))
      have hpx : IsPix wr (.slice so ps.length scap) L := IsPix.own (base := w.heap.size) (ps := L) (v := .slice so ps.length scap) (by rw [HLL.out]; exact j2) (by rw [HLL.out]; omega)
      have hne : (Value.slice so ps.length scap).ownBlock ≠ some (w.heap.size + 1) := fun e => own_ne j2 j4 (by decide) e.symm
      have HX := hide (hpx.other (set3_size wr (w.heap.size + 1) (.int .i64 (W : Nat)) (.int .i64 (Y : Nat)) (.slice so ps.length scap)) (fun b hb => set3_heap _ _ _ _ _ b hb) hne)
      have HF := hide (Fresh.own j2)
      clear hpx hne
      go_wp2
      exact bodyPost_ret (v := .agg #[.int .i64 (W : Nat), .int .i64 (Y : Nat), .slice so ps.length scap]) (by simp [results, Try.results41, go_sem, z0, z1, z2]) rfl ⟨_, rfl, HX.out, HFI.out, HF.out⟩
end Go.Proofs.Ytolcndchfnifhab

namespace Go.Proofs.Ytolcndchfnifhab
set_option linter.unusedVariables false
open Go.RowKit
theorem plane_nat {W H : Int} {zs : List Int} (h : planeOk W H zs = true) : ∃ WN HN : Nat, W = WN ∧ H = HN ∧ 1 ≤ WN ∧ WN ≤ 64 ∧ 1 ≤ HN ∧ HN ≤ 64 ∧ zs.length = HN * WN := by
  obtain ⟨hW, hH, hl, _⟩ := planeOk_parts h
  obtain ⟨WN, rfl⟩ := Int.eq_ofNat_of_zero_le (show 0 ≤ W by omega)
  obtain ⟨HN, rfl⟩ := Int.eq_ofNat_of_zero_le (show 0 ≤ H by omega)
  exact ⟨WN, HN, rfl, rfl, by omega, by omega, by omega, by omega, by rw [Nat.mul_comm]; exact_mod_cast hl⟩
theorem pic_nat {W H : Int} {zs : List Px} (h : picOk W H zs = true) : ∃ WN HN : Nat, W = WN ∧ H = HN ∧ 1 ≤ WN ∧ WN ≤ 64 ∧ 1 ≤ HN ∧ HN ≤ 64 ∧ zs.length = HN * WN := by
  obtain ⟨hW, hH, hl, _⟩ := picOk_parts h
  obtain ⟨WN, rfl⟩ := Int.eq_ofNat_of_zero_le (show 0 ≤ W by omega)
  obtain ⟨HN, rfl⟩ := Int.eq_ofNat_of_zero_le (show 0 ≤ H by omega)
  exact ⟨WN, HN, rfl, rfl, by omega, by omega, by omega, by omega, by rw [Nat.mul_comm]; exact_mod_cast hl⟩
theorem pic_4096 {W H : Int} {zs : List Px} (h : picOk W H zs = true) : zs.length ≤ 4096 := by
  obtain ⟨WN, HN, _, _, _, h2, _, h4, hl⟩ := pic_nat h
  rw [hl]
  exact Nat.mul_le_mul h4 h2
theorem phase_nat {p : Int} (h : phaseOk p = true) : ∃ P : Nat, p = P ∧ P ≤ 3 := by
  have h2 := of_decide_eq_true h
  obtain ⟨P, rfl⟩ := Int.eq_ofNat_of_zero_le h2.1
  exact ⟨P, rfl, by omega⟩
section
variable {n : Plan} {W H : Int} {zs : List Int} (hd : DevOk n W H zs) (u : World) (v : Value)
include hd
theorem ref1 (hv : IsInts u v zs) : Calls Try.prog 92 #[.agg #[.int .i64 W, .int .i64 H, v], .agg (fourA n.black), .int .i64 n.white] u fun e w' => ∃ r, e = .returned (.agg #[.int .i64 W, .int .i64 H, r]) ∧ IsInts w' r (dev1 n W zs) ∧ Below u.heap.size u w' ∧ Fresh u.heap.size r := by
  obtain ⟨WN, HN, rfl, rfl, h1, h2, h3, h4, hl⟩ := plane_nat hd.plane
  have hlv := hd.levels
  rw [levelsOk, Bool.and_eq_true, decide_eq_true_eq] at hlv
  exact levelled_any WN HN h1 h2 h4 v zs n.black n.white hlv.1.2 (fun k hk => arrL_all hlv.2 k hk) hl (planeOk_all hd.plane) u hv
theorem ref2 (hv : IsInts u v (dev1 n W zs)) (lv : Value) (hlv : IsPts u lv n.spots) : Calls Try.prog 91 #[.agg #[.int .i64 W, .int .i64 H, v], lv] u fun e w' => ∃ r, e = .returned (.agg #[.int .i64 W, .int .i64 H, r]) ∧ IsInts w' r (dev2 n W H zs) ∧ Below u.heap.size u w' ∧ Fresh u.heap.size r := by
  obtain ⟨WN, HN, rfl, rfl, h1, h2, h3, h4, hl⟩ := plane_nat hd.p1
  exact repaired_any WN HN h1 h2 h3 h4 v _ lv n.spots hl (planeOk_all hd.p1) u hv hlv
theorem ref3 (hv : IsInts u v (dev2 n W H zs)) : Calls Try.prog 17 #[.agg #[.int .i64 W, .int .i64 H, v], .int .i64 n.phase, .agg (threeA n.gains)] u fun e w' => ∃ r, e = .returned (.agg #[.int .i64 W, .int .i64 H, r]) ∧ IsInts w' r (dev3 n W H zs) ∧ Below u.heap.size u w' ∧ Fresh u.heap.size r := by
  obtain ⟨WN, HN, rfl, rfl, h1, h2, h3, h4, hl⟩ := plane_nat hd.p2
  obtain ⟨P, hP, hP3⟩ := phase_nat hd.phase
  have h := gained_any WN HN P h1 h2 h4 hP3 v _ n.gains (fun k hk => arrL_all hd.gains k hk) hl (planeOk_all hd.p2) u hv
  rw [← hP, show P = n.phase.toNat by rw [hP, Int.toNat_natCast]] at h
  exact h
theorem ref4 (hv : IsInts u v (dev3 n W H zs)) : Calls Try.prog 25 #[.agg #[.int .i64 W, .int .i64 H, v], .int .i64 n.phase] u fun e w' => ∃ r, e = .returned (.agg #[.int .i64 W, .int .i64 H, r]) ∧ IsPix w' r (dev4 n W H zs) ∧ Below u.heap.size u w' ∧ Fresh u.heap.size r := by
  obtain ⟨WN, HN, rfl, rfl, h1, h2, h3, h4, hl⟩ := plane_nat hd.p3
  obtain ⟨P, hP, hP3⟩ := phase_nat hd.phase
  have h := filled_any WN HN P h1 h2 h3 h4 hP3 v _ hl (planeOk_all hd.p3) u hv
  rw [← hP, show P = n.phase.toNat by rw [hP, Int.toNat_natCast]] at h
  exact h
theorem ref5 (hv : IsPix u v (dev4 n W H zs)) : Calls Try.prog 33 #[.agg #[.int .i64 W, .int .i64 H, v], .agg (nine n.matrix)] u fun e w' => ∃ r, e = .returned (.agg #[.int .i64 W, .int .i64 H, r]) ∧ IsPix w' r (dev5 n W H zs) ∧ Below u.heap.size u w' ∧ Fresh u.heap.size r :=
  mixed_any W H v _ n.matrix hd.matrix (picOk_parts hd.p4).2.2.2 (pic_4096 hd.p4) u hv
theorem ref6 (hv : IsPix u v (dev5 n W H zs)) (lv : Value) (hlv : IsPts u lv n.curve) : Calls Try.prog 39 #[.agg #[.int .i64 W, .int .i64 H, v], lv] u fun e w' => ∃ r, e = .returned (.agg #[.int .i64 W, .int .i64 H, r]) ∧ IsPix w' r (dev6 n W H zs) ∧ Below u.heap.size u w' ∧ Fresh u.heap.size r :=
  bent_any W H v _ lv n.curve (isCurve_of hd.curve) (picOk_parts hd.p5).2.2.2 (pic_4096 hd.p5) u hv hlv
theorem ref7 (hv : IsPix u v (dev6 n W H zs)) : Calls Try.prog 41 #[.agg #[.int .i64 W, .int .i64 H, v], .int .i64 n.amount] u fun e w' => ∃ r, e = .returned (.agg #[.int .i64 W, .int .i64 H, r]) ∧ IsPix w' r (dev7 n W H zs) ∧ Below u.heap.size u w' ∧ Fresh u.heap.size r := by
  obtain ⟨WN, HN, rfl, rfl, h1, h2, h3, h4, hl⟩ := pic_nat hd.p6
  have ha := of_decide_eq_true hd.amount
  exact sharp_any WN HN h1 h2 h3 h4 v _ n.amount ha.1 ha.2 hl (picOk_parts hd.p6).2.2.2 u hv
end
end Go.Proofs.Ytolcndchfnifhab
