/- tone: isCurve, height, Curve. -/
import Derived.Test.YtolcndchfnifhabPixels
import Derived.Test.YtolcndchfnifhabCurveMath
namespace Go.Proofs.Ytolcndchfnifhab
open Go.RowKit

/-- The slice v holds these points, or spots, in the world w. -/
def IsPts (w : World) (v : Value) (ls : List Pt) : Prop :=
  ∃ ao cap, v = .slice ao ls.length cap ∧ ls.length ≤ 9223372036854775807 ∧ (ls = [] ∨ ∃ b off, ao = some ⟨b, off, none⟩ ∧ b < w.heap.size ∧ ∀ j, j < ls.length →
    w.cell? ⟨b, off + j * 2, none⟩ = some (.int .i64 (ptAt ls j).1) ∧ w.cell? ⟨b, off + j * 2 + 1, none⟩ = some (.int .i64 (ptAt ls j).2))
theorem IsPts.below {w w' : World} {v : Value} {ls : List Pt} {B : Nat} (h : IsPts w v ls) (hb : Below B w w') (hB : w.heap.size ≤ B) : IsPts w' v ls := by
  obtain ⟨ao, cap, hv, hl, h⟩ := h
  refine ⟨ao, cap, hv, hl, ?_⟩
  rcases h with h | ⟨b, off, ha, hlt, hc⟩
  · exact .inl h
  · refine .inr ⟨b, off, ha, Nat.lt_of_lt_of_le hlt hb.size, fun j hj => ?_⟩
    rw [hb.cell (p := ⟨b, off + j * 2, none⟩) (by exact Nat.lt_of_lt_of_le hlt hB), hb.cell (p := ⟨b, off + j * 2 + 1, none⟩) (by exact Nat.lt_of_lt_of_le hlt hB)]
    exact hc j hj
theorem IsPts.alloc {w : World} {v : Value} {ls : List Pt} (h : IsPts w v ls) (o : Obj) : IsPts (w.alloc o) v ls :=
  h.below ((Below.refl _ _).alloc (Nat.le_refl _) o) (Nat.le_refl _)
theorem IsPts.nil (w : World) : IsPts w (.slice none 0 0) [] := ⟨none, 0, rfl, by simp, .inl rfl⟩

set_option maxRecDepth 100000 in
set_option maxHeartbeats 800000 in
theorem height_any (v : Value) (ls : List Pt) (x : Int) (h0 : 0 ≤ x) (h1 : x ≤ 65535) (hcv : IsCurve ls) (w : World) (hv : IsPts w v ls) :
    Calls Try.prog 82 #[v, .int .i64 x] w fun e w' => e = .returned (.int .i64 (heightV ls x)) ∧ Below w.heap.size w w' := by
  obtain ⟨ao, ca, rfl, hla, hc⟩ := hv
  have hl2 := hcv.two
  have hl16 := hcv.most
  obtain ⟨bk, off, hao, hbl, hcell⟩ : ∃ b off, ao = some ⟨b, off, none⟩ ∧ b < w.heap.size ∧ ∀ j, j < ls.length →
      w.cell? ⟨b, off + j * 2, none⟩ = some (.int .i64 (ptAt ls j).1) ∧ w.cell? ⟨b, off + j * 2 + 1, none⟩ = some (.int .i64 (ptAt ls j).2) := by
    rcases hc with h | h
    · subst h; simp at hl2
    · exact h
  subst hao
  have HCELL := hide hcell; clear hcell hc
  have HCV := hide hcv; clear hcv
  go_enter Try.func82, Try.ntmps82
  go_wp2
  go_loop [5] (fun i => ∃ k : Nat, k < ls.length ∧ i = .int .i64 k ∧ Hid (∀ j, j < k → (ptAt ls j).1 < x)) (fun i => ls.length - (intOf i).toNat)
  case atStart => exact ⟨0, by omega, rfl, fun j hj => by omega⟩
  case round =>
    obtain ⟨k, hk, rfl, HJ⟩ := hrel
    obtain ⟨c0, c1⟩ := HCELL.out k hk
    by_cases hx : (ptAt ls k).1 < x
    · have hd : decide ((ptAt ls k).1 < x) = true := by simpa using hx
      have hk2 : k + 1 < ls.length := by
        rcases Nat.eq_or_lt_of_le (show k ≤ ls.length - 1 by omega) with e | hlt
        · have := HCV.out.last; rw [← e] at this; omega
        · omega
      go_wp2
      go_round
      case rel => exact ⟨k + 1, hk2, by go_num, fun j hj => by
        rcases Nat.eq_or_lt_of_le (show j ≤ k by omega) with e | hlt
        · rw [e]; exact hx
        · exact HJ.out j hlt⟩
      case measure => simp [intOf]; omega
    · have hd : decide ((ptAt ls k).1 < x) = false := by simpa using hx
      have hat : isAt ls x k := ⟨hk, by omega, HJ.out⟩
      have HE := hide (heightV_eq hat)
      by_cases he : (ptAt ls k).1 = x
      · have hb : ((ptAt ls k).1 == x) = true := by simpa using he
        have HE2 := hide (show (ptAt ls k).2 = heightV ls x by rw [HE.out, if_pos he])
        clear HE he
        go_wp2
        go_ret
        exact ⟨ret_int HE2.out, bel_alloc _ _⟩
      · have hb : ((ptAt ls k).1 == x) = false := by simpa using he
        obtain ⟨i, rfl⟩ : ∃ i, k = i + 1 := by
          cases k with
          | zero => exact absurd (by have := HCV.out.first; omega) he
          | succ i => exact ⟨i, rfl⟩
        have HE2 := hide (show heightV ls x = between ls (i + 1) x by rw [HE.out, if_neg he])
        obtain ⟨d0, d1⟩ := HCELL.out i (by omega)
        have hlt := HJ.out i (by omega)
        obtain ⟨m0, m1, m2, m3⟩ := between_bounds HCV.out i hk x (by omega) (by omega)
        obtain ⟨y0, y1⟩ := HCV.out.y i (by omega)
        obtain ⟨y2, y3⟩ := HCV.out.y (i + 1) hk
        obtain ⟨x0, x1⟩ := HCV.out.x i (by omega)
        obtain ⟨x2, x3⟩ := HCV.out.x (i + 1) hk
        obtain ⟨s0, s1⟩ := HCV.out.step i hk
        rw [between, Nat.add_sub_cancel] at m2 m3 HE2
        have hne : ¬ (ptAt ls (i + 1)).1 - (ptAt ls i).1 = 0 := by omega
        clear HE he hx hat
        generalize (ptAt ls (i + 1)).1 = X2 at *
        generalize (ptAt ls i).1 = X1 at *
        generalize (ptAt ls (i + 1)).2 = Y2 at *
        generalize (ptAt ls i).2 = Y1 at *
        obtain ⟨M, hM⟩ : ∃ M, (Y2 - Y1) * (x - X1) = M := ⟨_, rfl⟩
        rw [hM] at m0 m1 m2 m3 HE2
        obtain ⟨D, hD⟩ : ∃ D, X2 - X1 = D := ⟨_, rfl⟩
        rw [hD] at m2 m3 HE2 hne
        have hD0 : 0 < D := by omega
        have hq0 : 0 ≤ M / D := Int.ediv_nonneg m0 (by omega)
        have hDz : (D == 0) = false := by simpa using hne
        go_wp2
        go_region
        go_wp2
        go_ret
        exact ⟨ret_int HE2.out.symm, ((be2 _ _ _).drew)⟩

set_option maxRecDepth 100000 in
set_option maxHeartbeats 1600000 in
theorem isCurve_any (v : Value) (ls : List Pt) (w : World) (hv : IsPts w v ls) :
    Calls Try.prog 80 #[v] w fun e w' => e = .returned (.bool (curveOk ls)) ∧ Below w.heap.size w w' := by
  obtain ⟨ao, ca, rfl, hla, hc⟩ := hv
  obtain ⟨R, hR⟩ : ∃ R, curveOk ls = R := ⟨_, rfl⟩
  rw [hR]
  have HB0 := hide (bel_alloc w (Obj.cells #[.int .i64 (ls.length : Int)] 3))
  by_cases hn : 2 ≤ (ls.length : Int) ∧ (ls.length : Int) ≤ 16
  · have hal : allIn 2 16 [(ls.length : Int)] = true := by simp [allIn]; omega
    have hdn : decide (2 ≤ (ls.length : Int) ∧ (ls.length : Int) ≤ 16) = true := by simpa using hn
    obtain ⟨bk, off, hao, hbl, hcell⟩ : ∃ b off, ao = some ⟨b, off, none⟩ ∧ b < w.heap.size ∧ ∀ j, j < ls.length →
        w.cell? ⟨b, off + j * 2, none⟩ = some (.int .i64 (ptAt ls j).1) ∧ w.cell? ⟨b, off + j * 2 + 1, none⟩ = some (.int .i64 (ptAt ls j).2) := by
      rcases hc with h | h
      · subst h; simp at hn
      · exact h
    subst hao
    have HCELL := hide hcell; clear hcell hc
    obtain ⟨n0, n1⟩ := hn
    have p0 := (HB0.out.cell (p := ⟨bk, off + 0 * 2, none⟩) hbl).trans (HCELL.out 0 (by omega)).1
    have p1 := (HB0.out.cell (p := ⟨bk, off + (ls.length - 1) * 2, none⟩) hbl).trans (HCELL.out (ls.length - 1) (by omega)).1
    rw [Nat.zero_mul, Nat.add_zero] at p0
    by_cases hf : (ptAt ls 0).1 = 0
    · by_cases ht : (ptAt ls (ls.length - 1)).1 = 65535
      · have HR := hide (show R = ptsOk ls ls.length by rw [← hR, curveOk, endsOk, hdn, hf, ht]; rfl)
        rw [hf] at p0
        rw [ht] at p1
        clear hR hdn hf ht
        go_enter Try.func80, Try.ntmps80
        go_wp2_with fail
        refine (rWithin_any 2 16 _ [(ls.length : Int)] _ (ints1 w _)).mono ?_
        rintro e w1 ⟨rfl, rfl⟩
        rw [hal]
        go_wp2_with fail
        clear p0 p1 hal
        generalize w.alloc (Obj.cells #[.int .i64 (ls.length : Int)] 3) = U at *
        go_loopw [29] (fun i wr => ∃ k : Nat, k ≤ ls.length ∧ i = .int .i64 k ∧ Hid (ptsOk ls k = true) ∧ Below w.heap.size w wr) (fun i _ => ls.length - (intOf i).toNat)
        case atStart => exact ⟨0, Nat.zero_le _, rfl, rfl, HB0.out⟩
        case round =>
          obtain ⟨k, hk, rfl, HA, hbel⟩ := hrel
          by_cases hlt : k < ls.length
          · have hd : decide ((k : Int) < (ls.length : Int)) = true := by simp; omega
            have c0 := (hbel.cell (p := ⟨bk, off + k * 2, none⟩) hbl).trans (HCELL.out k hlt).1
            have c1 := (hbel.cell (p := ⟨bk, off + k * 2 + 1, none⟩) hbl).trans (HCELL.out k hlt).2
            have HS := hide (ptsOk_succ ls k)
            have HF := hide (fun h => ptsOk_false ls k ls.length hlt h)
            have hbel2 := (hbel.alloc hbel.size (Obj.cells #[.int .i64 (ptAt ls k).1, .int .i64 (ptAt ls k).2] 66)).alloc (by have := hbel.size; simp; omega) (Obj.cells #[.int .i64 (ptAt ls k).2] 3)
            have hi1 : IsInts ((wr.alloc (Obj.cells #[.int .i64 (ptAt ls k).1, .int .i64 (ptAt ls k).2] 66)).alloc (Obj.cells #[.int .i64 (ptAt ls k).2] 3)) (.slice (some ⟨wr.heap.size + 1, 0, none⟩) 1 1) [(ptAt ls k).2] := by
              have := ints1 (wr.alloc (Obj.cells #[.int .i64 (ptAt ls k).1, .int .i64 (ptAt ls k).2] 66)) (ptAt ls k).2
              rw [World.size_alloc] at this; exact this
            by_cases hy : ptY ls k = true
            · have hal : allIn 0 65535 [(ptAt ls k).2] = true := by
                have := of_decide_eq_true hy
                simp [allIn]; omega
              have hpr : ∀ i, k = i + 1 → wr.cell? ⟨bk, off + i * 2, none⟩ = some (.int .i64 (ptAt ls i).1) ∧ wr.cell? ⟨bk, off + i * 2 + 1, none⟩ = some (.int .i64 (ptAt ls i).2) := fun i e =>
                ⟨(hbel.cell (p := ⟨bk, off + i * 2, none⟩) hbl).trans (HCELL.out i (by omega)).1, (hbel.cell (p := ⟨bk, off + i * 2 + 1, none⟩) hbl).trans (HCELL.out i (by omega)).2⟩
              cases k with
              | zero =>
                have HT := hide (show ptsOk ls (0 + 1) = true by rw [HS.out, HA.out, hy]; simp [ptStep])
                clear hy HS HF hpr
                simp only [Nat.zero_mul, Nat.add_zero] at c0 c1
                go_wp2_with fail
                refine (rWithin_any 0 65535 _ [(ptAt ls 0).2] _ hi1).mono ?_
                rintro e w2 ⟨rfl, rfl⟩
                rw [hal]
                go_wp2_with fail
                go_quiet (fail)
                go_wp2
                go_roundw
                case rel => exact ⟨0 + 1, by omega, by go_num, HT, below_drewN hbel2 _⟩
                case measure => simp [intOf]; omega
              | succ i =>
                obtain ⟨d0, d1⟩ := hpr i rfl
                clear hpr
                have hwi : IntKind.i64.wrap (i : Int) = (i : Int) := IntWalk.i64_in _ (by omega)
                have hil : i < ls.length := by omega
                have hil2 : (i : Int) < (ls.length : Int) := by omega
                have hil3 : 0 ≤ (i : Int) := by omega
                have hbw : bk < wr.heap.size := Nat.lt_of_lt_of_le hbl hbel.size
                have hb2 := be2 wr (Obj.cells #[.int .i64 (ptAt ls (i + 1)).1, .int .i64 (ptAt ls (i + 1)).2] 66) (Obj.cells #[.int .i64 (ptAt ls (i + 1)).2] 3)
                have t0 := (hb2.cell (p := ⟨bk, off + i * 2, none⟩) hbw).trans d0
                have t1 := (hb2.cell (p := ⟨bk, off + i * 2 + 1, none⟩) hbw).trans d1
                have gg := (al2 wr (Obj.cells #[.int .i64 (ptAt ls (i + 1)).1, .int .i64 (ptAt ls (i + 1)).2] 66) (Obj.cells #[.int .i64 (ptAt ls (i + 1)).2] 3)).1
                have t2 : ((wr.alloc (Obj.cells #[.int .i64 (ptAt ls (i + 1)).1, .int .i64 (ptAt ls (i + 1)).2] 66)).alloc (Obj.cells #[.int .i64 (ptAt ls (i + 1)).2] 3)).cell? ⟨wr.heap.size, 0, none⟩ = some (.int .i64 (ptAt ls (i + 1)).1) := by rw [Lib.cell_of_heap gg]; rfl
                have t3 : ((wr.alloc (Obj.cells #[.int .i64 (ptAt ls (i + 1)).1, .int .i64 (ptAt ls (i + 1)).2] 66)).alloc (Obj.cells #[.int .i64 (ptAt ls (i + 1)).2] 3)).cell? ⟨wr.heap.size, 1, none⟩ = some (.int .i64 (ptAt ls (i + 1)).2) := by rw [Lib.cell_of_heap gg]; rfl
                clear gg hb2 d0 d1
                by_cases hs : (ptAt ls i).1 < (ptAt ls (i + 1)).1
                · have hsb : decide ((ptAt ls (i + 1)).1 ≤ (ptAt ls i).1) = false := by simp; omega
                  by_cases hs2 : (ptAt ls i).2 ≤ (ptAt ls (i + 1)).2
                  · have hsb2 : decide ((ptAt ls (i + 1)).2 < (ptAt ls i).2) = false := by simp; omega
                    have HT := hide (show ptsOk ls (i + 1 + 1) = true by rw [HS.out, HA.out, hy]; simp [ptStep, hs, hs2])
                    clear hy HS HF hs hs2
                    go_wp2_with fail
                    refine (rWithin_any 0 65535 _ [(ptAt ls (i + 1)).2] _ hi1).mono ?_
                    rintro e w2 ⟨rfl, rfl⟩
                    rw [hal]
                    clear c0 c1 hi1
                    generalize (wr.alloc (Obj.cells #[.int .i64 (ptAt ls (i + 1)).1, .int .i64 (ptAt ls (i + 1)).2] 66)).alloc (Obj.cells #[.int .i64 (ptAt ls (i + 1)).2] 3) = U2 at *
                    go_wp2_with fail
                    go_quiet (fail)
                    go_wp2
                    go_roundw
                    case rel => exact ⟨i + 1 + 1, by omega, by go_num, HT, below_drewN hbel2 _⟩
                    case measure => simp [intOf]; omega
                  · have hsb2 : decide ((ptAt ls (i + 1)).2 < (ptAt ls i).2) = true := by simp; omega
                    have HX := hide (show false = R by rw [HR.out, HF.out (by rw [hy]; simp [ptStep]; omega)])
                    clear hy HS HF hs hs2
                    go_wp2_with fail
                    refine (rWithin_any 0 65535 _ [(ptAt ls (i + 1)).2] _ hi1).mono ?_
                    rintro e w2 ⟨rfl, rfl⟩
                    rw [hal]
                    clear c0 c1 hi1
                    generalize (wr.alloc (Obj.cells #[.int .i64 (ptAt ls (i + 1)).1, .int .i64 (ptAt ls (i + 1)).2] 66)).alloc (Obj.cells #[.int .i64 (ptAt ls (i + 1)).2] 3) = U2 at *
                    go_wp2_with fail
                    go_quiet (fail)
                    go_wp2
                    go_ret
                    exact ⟨ret_bool HX.out, below_drewN hbel2 _⟩
                · have hsb : decide ((ptAt ls (i + 1)).1 ≤ (ptAt ls i).1) = true := by simp; omega
                  have HX := hide (show false = R by rw [HR.out, HF.out (by rw [hy]; simp [ptStep]; omega)])
                  clear hy HS HF hs
                  go_wp2_with fail
                  refine (rWithin_any 0 65535 _ [(ptAt ls (i + 1)).2] _ hi1).mono ?_
                  rintro e w2 ⟨rfl, rfl⟩
                  rw [hal]
                  clear c0 c1 hi1
                  generalize (wr.alloc (Obj.cells #[.int .i64 (ptAt ls (i + 1)).1, .int .i64 (ptAt ls (i + 1)).2] 66)).alloc (Obj.cells #[.int .i64 (ptAt ls (i + 1)).2] 3) = U2 at *
                  go_wp2_with fail
                  go_quiet (fail)
                  go_wp2
                  go_ret
                  exact ⟨ret_bool HX.out, below_drewN hbel2 _⟩
            · have hy : ptY ls k = false := by simpa using hy
              have hal : allIn 0 65535 [(ptAt ls k).2] = false := by
                have := of_decide_eq_false hy
                rw [Bool.eq_false_iff]; simp [allIn]; omega
              have HX := hide (show false = R by rw [HR.out, HF.out (by rw [hy]; rfl)])
              clear hy HS HF
              go_wp2_with fail
              refine (rWithin_any 0 65535 _ [(ptAt ls k).2] _ hi1).mono ?_
              rintro e w2 ⟨rfl, rfl⟩
              rw [hal]
              go_wp2
              go_ret
              exact ⟨ret_bool HX.out, hbel2⟩
          · have hd : decide ((k : Int) < (ls.length : Int)) = false := by simp; omega
            have HX := hide (show true = R by rw [HR.out, ← HA.out, show k = ls.length by omega])
            go_wp2
            go_ret
            exact ⟨ret_bool HX.out, hbel⟩
      · have HX := hide (show false = R by rw [← hR, curveOk, endsOk]; simp [ht])
        have hb : ((ptAt ls (ls.length - 1)).1 != 65535) = true := by simpa using ht
        rw [hf] at p0
        clear hR hdn hf ht
        go_enter Try.func80, Try.ntmps80
        go_wp2_with fail
        refine (rWithin_any 2 16 _ [(ls.length : Int)] _ (ints1 w _)).mono ?_
        rintro e w1 ⟨rfl, rfl⟩
        rw [hal]
        go_wp2
        go_ret
        exact ⟨ret_bool HX.out, HB0.out⟩
    · have HX := hide (show false = R by rw [← hR, curveOk, endsOk]; simp [hf])
      have hb : ((ptAt ls 0).1 != 0) = true := by simpa using hf
      clear hR hdn hf
      go_enter Try.func80, Try.ntmps80
      go_wp2_with fail
      refine (rWithin_any 2 16 _ [(ls.length : Int)] _ (ints1 w _)).mono ?_
      rintro e w1 ⟨rfl, rfl⟩
      rw [hal]
      go_wp2
      go_ret
      exact ⟨ret_bool HX.out, HB0.out⟩
  · have hal : allIn 2 16 [(ls.length : Int)] = false := by rw [Bool.eq_false_iff]; simp [allIn]; omega
    have hdn : decide (2 ≤ (ls.length : Int) ∧ (ls.length : Int) ≤ 16) = false := by simpa using hn
    have HX := hide (show false = R by rw [← hR, curveOk, endsOk, hdn]; rfl)
    clear hR hn hdn
    go_enter Try.func80, Try.ntmps80
    go_wp2_with fail
    refine (rWithin_any 2 16 _ [(ls.length : Int)] _ (ints1 w _)).mono ?_
    rintro e w1 ⟨rfl, rfl⟩
    rw [hal]
    go_wp2
    go_ret
    exact ⟨ret_bool HX.out, HB0.out⟩

end Go.Proofs.Ytolcndchfnifhab
