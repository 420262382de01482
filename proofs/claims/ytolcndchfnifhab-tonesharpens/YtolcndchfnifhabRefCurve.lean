/- The reference's MixFine, CurveFine, OnCurve. -/
import Derived.Test.YtolcndchfnifhabBend
namespace Go.Proofs.Ytolcndchfnifhab
open Go.RowKit

theorem nineL_get (m : Nat → Int) (k : Nat) (h : k < (nineL m).length) : (nineL m)[k] = m k := by simp [nineL]

set_option maxRecDepth 100000 in
set_option maxHeartbeats 800000 in
theorem mixFine_any (m : Nat → Int) (w : World) : Calls Try.prog 32 #[.agg (nine m)] w fun e w' => e = .returned (.bool (matOk m)) ∧ Below w.heap.size w w' := by
  obtain ⟨R, hR⟩ : ∃ R, matOk m = R := ⟨_, rfl⟩
  rw [hR]
  have HR := hide (show R = allIn (-32768) 32768 (nineL m) by rw [← hR]; rfl)
  clear hR
  have g := al1 w (Obj.cells (nine m) 53)
  have HC := hide (fun k (hk : k < 9) => show (w.alloc (Obj.cells (nine m) 53)).cell? ⟨w.heap.size, k, none⟩ = some (.int .i64 (m k)) by rw [Lib.cell_of_heap g, nine_get m k hk])
  have hB := bel_alloc w (Obj.cells (nine m) 53)
  have h9 : (nineL m).length = 9 := by simp [nineL]
  have HL9 := hide h9
  clear g h9
  go_enter Try.func32, Try.ntmps32
  go_wp2
  generalize w.alloc (Obj.cells (nine m) 53) = U at *
  go_loop [3] (fun i => ∃ k : Nat, k ≤ 9 ∧ i = .int .i64 k ∧ Hid (allIn (-32768) 32768 ((nineL m).take k) = true)) (fun i => 9 - (intOf i).toNat)
  case atStart => exact ⟨0, by omega, rfl, rfl⟩
  case round =>
    obtain ⟨k, hk, rfl, HA⟩ := hrel
    by_cases hlt : k < 9
    · have c1 := HC.out k hlt
      have hlt' : k < (nineL m).length := by rw [HL9.out]; exact hlt
      by_cases hx : -32768 ≤ m k ∧ m k ≤ 32768
      · have hsx : decide (-32768 ≤ m k ∧ m k ≤ 32768) = true := by simpa using hx
        have HT := hide (show allIn (-32768) 32768 ((nineL m).take (k + 1)) = true by rw [List.take_succ_eq_append_getElem hlt', allIn_snoc, HA.out, nineL_get]; exact hsx)
        clear hx
        go_wp2_with (go_at_call 59; refine (within_any _ _ _ _).mono ?_; rintro e wx ⟨rfl, rfl⟩; rw [hsx])
        go_round
        case rel => exact ⟨k + 1, by omega, by go_num, HT⟩
        case measure => simp [intOf]; omega
      · have hsx : decide (-32768 ≤ m k ∧ m k ≤ 32768) = false := by simpa using hx
        have HX := hide (show false = R by rw [HR.out, allIn_false (-32768) 32768 (nineL m) k hlt' (by rw [nineL_get]; exact hx)])
        clear hx
        go_wp2_with (go_at_call 59; refine (within_any _ _ _ _).mono ?_; rintro e wx ⟨rfl, rfl⟩; rw [hsx])
        go_ret
        exact ⟨ret_bool HX.out, hB⟩
    · have HX := hide (show true = R by rw [HR.out, ← HA.out, List.take_of_length_le (by rw [HL9.out]; omega)])
      go_wp2
      go_ret
      exact ⟨ret_bool HX.out, hB⟩

set_option maxRecDepth 100000 in
set_option maxHeartbeats 1600000 in
theorem onCurve_any (v : Value) (ls : List Pt) (x : Int) (h0 : 0 ≤ x) (h1 : x ≤ 65535) (hcv : IsCurve ls) (w : World) (hv : IsPts w v ls) :
    Calls Try.prog 38 #[v, .int .i64 x] w fun e w' => e = .returned (.int .i64 (heightV ls x)) ∧ Below w.heap.size w w' := by
  obtain ⟨ao, ca, rfl, hla, hc⟩ := hv
  have hl2 := hcv.two
  have hl16 := hcv.most
  obtain ⟨bk, off, hao, hbl, hcell⟩ : ∃ b off, ao = some ⟨b, off, none⟩ ∧ b < w.heap.size ∧ ∀ j, j < ls.length →
      w.cell? ⟨b, off + j * 2, none⟩ = some (.int .i64 (ptAt ls j).1) ∧ w.cell? ⟨b, off + j * 2 + 1, none⟩ = some (.int .i64 (ptAt ls j).2) := by
    rcases hc with h | h
    · subst h; simp at hl2
    · exact h
  subst hao
  have HCELL := hide hcell; clear hcell hc
  have HCV := hide hcv; clear hcv
  go_enter Try.func38, Try.ntmps38
  go_wp2
  go_loop [5] (fun i => ∃ k : Nat, 1 ≤ k ∧ k < ls.length ∧ i = .int .i64 k ∧ Hid (∀ j, 1 ≤ j → j < k → (ptAt ls j).1 < x)) (fun i => ls.length - (intOf i).toNat)
  case atStart => exact ⟨1, by omega, by omega, rfl, fun j hj hj2 => by omega⟩
  case round =>
    obtain ⟨k, hk1, hk, rfl, HJ⟩ := hrel
    obtain ⟨c0, c1⟩ := HCELL.out k hk
    by_cases hx : (ptAt ls k).1 < x
    · have hd : decide ((ptAt ls k).1 < x) = true := by simpa using hx
      have hk2 : k + 1 < ls.length := by
        rcases Nat.eq_or_lt_of_le (show k ≤ ls.length - 1 by omega) with e | hlt
        · have := HCV.out.last; rw [← e] at this; omega
        · omega
      go_wp2
      go_round
      case rel => exact ⟨k + 1, by omega, hk2, by go_num, fun j hj1 hj => by
        rcases Nat.eq_or_lt_of_le (show j ≤ k by omega) with e | hlt
        · rw [e]; exact hx
        · exact HJ.out j hj1 hlt⟩
      case measure => simp [intOf]; omega
    · have hd : decide ((ptAt ls k).1 < x) = false := by simpa using hx
      have HE2 := hide (heightV_ref HCV.out h0 hk1 hk (by omega) HJ.out)
      obtain ⟨i, rfl⟩ : ∃ i, k = i + 1 := ⟨k - 1, by omega⟩
      have hle : (ptAt ls i).1 ≤ x := by
        rcases Nat.eq_zero_or_pos i with e | hp
        · rw [e, HCV.out.first]; exact h0
        · exact Int.le_of_lt (HJ.out i hp (by omega))
      obtain ⟨d0, d1⟩ := HCELL.out i (by omega)
      obtain ⟨m0, m1, m2, m3⟩ := between_bounds HCV.out i hk x hle (by omega)
      obtain ⟨y0, y1⟩ := HCV.out.y i (by omega)
      obtain ⟨y2, y3⟩ := HCV.out.y (i + 1) hk
      obtain ⟨x0, x1⟩ := HCV.out.x i (by omega)
      obtain ⟨x2, x3⟩ := HCV.out.x (i + 1) hk
      obtain ⟨s0, s1⟩ := HCV.out.step i hk
      rw [between, Nat.add_sub_cancel] at m2 m3 HE2
      have hne : ¬ (ptAt ls (i + 1)).1 - (ptAt ls i).1 = 0 := by omega
      clear hx
      generalize (ptAt ls (i + 1)).1 = X2 at *
      generalize (ptAt ls i).1 = X1 at *
      generalize (ptAt ls (i + 1)).2 = Y2 at *
      generalize (ptAt ls i).2 = Y1 at *
      obtain ⟨M, hM⟩ : ∃ M, (Y2 - Y1) * (x - X1) = M := ⟨_, rfl⟩
      rw [hM] at m0 m1 m2 m3 HE2
      obtain ⟨D, hD⟩ : ∃ D, X2 - X1 = D := ⟨_, rfl⟩
      rw [hD] at m2 m3 HE2 hne
      have hD0 : 0 < D := by omega
      have hq0 : 0 ≤ M / D := Int.ediv_nonneg m0 (by omega)
      have hDz : (D == 0) = false := by simpa using hne
      have hwi : IntKind.i64.wrap (i : Int) = (i : Int) := IntWalk.i64_in _ (by omega)
      have hil : i < ls.length := by omega
      have hil2 : (i : Int) < (ls.length : Int) := by omega
      have hil3 : (0 : Int) ≤ (i : Int) := by omega
      have hil4 : (i : Int) + 1 < (ls.length : Int) := by omega
      have hil5 : (0 : Int) ≤ (i : Int) + 1 := by omega
      have hwi2 : IntKind.i64.wrap ((i : Int) + 1) = (i : Int) + 1 := IntWalk.i64_in _ (by omega)
      go_wp2_with fail
      go_region_held3 (fun w' => w'.cell? ⟨bk, off + (i + 1) * 2, none⟩ = some (.int .i64 X2) ∧ w'.cell? ⟨bk, off + (i + 1) * 2 + 1, none⟩ = some (.int .i64 Y2) ∧ w'.cell? ⟨bk, off + i * 2, none⟩ = some (.int .i64 X1) ∧ w'.cell? ⟨bk, off + i * 2 + 1, none⟩ = some (.int .i64 Y1)) (go_keep) (fail)
      all_goals
        go_wp2
        go_region
        go_wp2
        go_ret
        exact ⟨ret_int HE2.out.symm, (be2 _ _ _).drew.drew⟩

end Go.Proofs.Ytolcndchfnifhab
