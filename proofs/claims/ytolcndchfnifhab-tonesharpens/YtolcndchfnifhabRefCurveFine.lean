/- The reference's CurveFine. -/
import Derived.Test.YtolcndchfnifhabRefCurve
namespace Go.Proofs.Ytolcndchfnifhab
open Go.RowKit

set_option maxRecDepth 100000 in
set_option maxHeartbeats 1600000 in
theorem curveFine_any (v : Value) (ls : List Pt) (w : World) (hv : IsPts w v ls) :
    Calls Try.prog 37 #[v] w fun e w' => e = .returned (.bool (curveOk ls)) ∧ Below w.heap.size w w' := by
  obtain ⟨ao, ca, rfl, hla, hc⟩ := hv
  obtain ⟨R, hR⟩ : ∃ R, curveOk ls = R := ⟨_, rfl⟩
  rw [hR]
  by_cases hn : 2 ≤ (ls.length : Int) ∧ (ls.length : Int) ≤ 16
  · have hdn : decide (2 ≤ (ls.length : Int) ∧ (ls.length : Int) ≤ 16) = true := by simpa using hn
    obtain ⟨bk, off, hao, hbl, hcell⟩ : ∃ b off, ao = some ⟨b, off, none⟩ ∧ b < w.heap.size ∧ ∀ j, j < ls.length →
        w.cell? ⟨b, off + j * 2, none⟩ = some (.int .i64 (ptAt ls j).1) ∧ w.cell? ⟨b, off + j * 2 + 1, none⟩ = some (.int .i64 (ptAt ls j).2) := by
      rcases hc with h | h
      · subst h; simp at hn
      · exact h
    subst hao
    have HCELL := hide hcell; clear hcell hc
    obtain ⟨n0, n1⟩ := hn
    have p0 := (HCELL.out 0 (by omega)).1
    have p1 := (HCELL.out (ls.length - 1) (by omega)).1
    rw [Nat.zero_mul, Nat.add_zero] at p0
    by_cases hf : (ptAt ls 0).1 = 0
    · by_cases ht : (ptAt ls (ls.length - 1)).1 = 65535
      · have HR := hide (show R = ptsOk ls ls.length by rw [← hR, curveOk, endsOk, hdn, hf, ht]; rfl)
        rw [hf] at p0
        rw [ht] at p1
        clear hR hf ht
        go_enter Try.func37, Try.ntmps37
        go_wp2_with (go_at_call 59; refine (within_any _ _ _ _).mono ?_; rintro e wx ⟨rfl, rfl⟩; rw [hdn])
        clear p0 p1 hdn
        go_loopw [3] (fun i wr => ∃ k : Nat, k ≤ ls.length ∧ i = .int .i64 k ∧ Hid (ptsOk ls k = true) ∧ ∃ n, wr = w.drewN n) (fun i _ => ls.length - (intOf i).toNat)
        case atStart => exact ⟨0, Nat.zero_le _, rfl, rfl, 0, rfl⟩
        case round =>
          obtain ⟨k, hk, rfl, HA, nn, rfl⟩ := hrel
          by_cases hlt : k < ls.length
          · have hlt2 : (k : Int) < (ls.length : Int) := by omega
            obtain ⟨c0, c1⟩ := HCELL.out k hlt
            have HS := hide (ptsOk_succ ls k)
            have HF := hide (fun h => ptsOk_false ls k ls.length hlt h)
            by_cases hy : ptY ls k = true
            · have hyd : decide (0 ≤ (ptAt ls k).2 ∧ (ptAt ls k).2 ≤ 65535) = true := hy
              have HWI := hide (show ∀ w', Calls Try.prog 59 #[.int .i64 (ptAt ls k).2, .int .i64 0, .int .i64 65535] w' fun e w'' => e = .returned (.bool true) ∧ w'' = w' from fun w' => by
                have h := withinQ (ptAt ls k).2 0 65535 w'
                rw [hyd] at h; exact h)
              clear hyd
              have hpr : ∀ i, k = i + 1 → w.cell? ⟨bk, off + i * 2, none⟩ = some (.int .i64 (ptAt ls i).1) ∧ w.cell? ⟨bk, off + i * 2 + 1, none⟩ = some (.int .i64 (ptAt ls i).2) := fun i e => HCELL.out i (by omega)
              cases k with
              | zero =>
                have HT := hide (show ptsOk ls (0 + 1) = true by rw [HS.out, HA.out, hy]; simp [ptStep])
                clear hy HS HF hpr
                simp only [Nat.zero_mul, Nat.add_zero] at c0 c1
                go_wp2_with fail
                go_quiet ((go_at_call 59; exact (HWI.out _).mono (fun _ _ h => ⟨h.1, _, h.2⟩)))
                go_wp2
                go_roundw
                case rel => exact ⟨0 + 1, by omega, by go_num, HT, _, rfl⟩
                case measure => simp [intOf]; omega
              | succ i =>
                obtain ⟨d0, d1⟩ := hpr i rfl
                clear hpr
                have hwi : IntKind.i64.wrap (i : Int) = (i : Int) := IntWalk.i64_in _ (by omega)
                have hil : i < ls.length := by omega
                have hil2 : (i : Int) < (ls.length : Int) := by omega
                have hil3 : 0 ≤ (i : Int) := by omega
                have hil4 : (i : Int) + 1 < (ls.length : Int) := by omega
                by_cases hs : (ptAt ls i).1 < (ptAt ls (i + 1)).1
                · have hsb : decide ((ptAt ls (i + 1)).1 ≤ (ptAt ls i).1) = false := by simp; omega
                  by_cases hs2 : (ptAt ls i).2 ≤ (ptAt ls (i + 1)).2
                  · have hsb2 : decide ((ptAt ls (i + 1)).2 < (ptAt ls i).2) = false := by simp; omega
                    have HT := hide (show ptsOk ls (i + 1 + 1) = true by rw [HS.out, HA.out, hy]; simp [ptStep, hs, hs2])
                    clear hy HS HF hs hs2
                    go_wp2_with fail
                    go_quiet ((go_at_call 59; exact (HWI.out _).mono (fun _ _ h => ⟨h.1, _, h.2⟩)))
                    go_wp2
                    go_roundw
                    case rel => exact ⟨i + 1 + 1, by omega, by go_num, HT, _, rfl⟩
                    case measure => simp [intOf]; omega
                  · have hsb2 : decide ((ptAt ls (i + 1)).2 < (ptAt ls i).2) = true := by simp; omega
                    have HX := hide (show false = R by rw [HR.out, HF.out (by rw [hy]; simp [ptStep]; omega)])
                    clear hy HS HF hs hs2
                    go_wp2_with fail
                    go_quiet ((go_at_call 59; exact (HWI.out _).mono (fun _ _ h => ⟨h.1, _, h.2⟩)))
                    go_wp2
                    go_ret
                    exact ⟨ret_bool HX.out, by first | exact below_drewN (Below.refl _ _) _ | exact below_drewN (below_drewN (Below.refl _ _) _) _⟩
                · have hsb : decide ((ptAt ls (i + 1)).1 ≤ (ptAt ls i).1) = true := by simp; omega
                  have HX := hide (show false = R by rw [HR.out, HF.out (by rw [hy]; simp [ptStep]; omega)])
                  clear hy HS HF hs
                  go_wp2_with fail
                  go_quiet ((go_at_call 59; exact (HWI.out _).mono (fun _ _ h => ⟨h.1, _, h.2⟩)))
                  go_wp2
                  go_ret
                  exact ⟨ret_bool HX.out, by first | exact below_drewN (Below.refl _ _) _ | exact below_drewN (below_drewN (Below.refl _ _) _) _⟩
            · have hy : ptY ls k = false := by simpa using hy
              have hyd : decide (0 ≤ (ptAt ls k).2 ∧ (ptAt ls k).2 ≤ 65535) = false := hy
              have HWI := hide (show ∀ w', Calls Try.prog 59 #[.int .i64 (ptAt ls k).2, .int .i64 0, .int .i64 65535] w' fun e w'' => e = .returned (.bool false) ∧ w'' = w' from fun w' => by
                have h := withinQ (ptAt ls k).2 0 65535 w'
                rw [hyd] at h; exact h)
              clear hyd
              have HX := hide (show false = R by rw [HR.out, HF.out (by rw [hy]; rfl)])
              clear hy HS HF
              go_wp2_with fail
              go_quiet ((go_at_call 59; exact (HWI.out _).mono (fun _ _ h => ⟨h.1, _, h.2⟩)))
              go_wp2
              go_ret
              exact ⟨ret_bool HX.out, by first | exact below_drewN (Below.refl _ _) _ | exact below_drewN (below_drewN (Below.refl _ _) _) _⟩
          · have HX := hide (show true = R by rw [HR.out, ← HA.out, show k = ls.length by omega])
            have hd : decide ((k : Int) < (ls.length : Int)) = false := by simp; omega
            go_wp2
            go_ret
            exact ⟨ret_bool HX.out, by first | exact below_drewN (Below.refl _ _) _ | exact below_drewN (below_drewN (Below.refl _ _) _) _⟩
      · have HX := hide (show false = R by rw [← hR, curveOk, endsOk]; simp [ht])
        have hb : ((ptAt ls (ls.length - 1)).1 != 65535) = true := by simpa using ht
        rw [hf] at p0
        clear hR hf ht
        go_enter Try.func37, Try.ntmps37
        go_wp2_with (go_at_call 59; refine (within_any _ _ _ _).mono ?_; rintro e wx ⟨rfl, rfl⟩; rw [hdn])
        go_ret
        exact ⟨ret_bool HX.out, Below.refl _ _⟩
    · have HX := hide (show false = R by rw [← hR, curveOk, endsOk]; simp [hf])
      have hb : ((ptAt ls 0).1 != 0) = true := by simpa using hf
      clear hR hf
      go_enter Try.func37, Try.ntmps37
      go_wp2_with (go_at_call 59; refine (within_any _ _ _ _).mono ?_; rintro e wx ⟨rfl, rfl⟩; rw [hdn])
      go_ret
      exact ⟨ret_bool HX.out, Below.refl _ _⟩
  · have hdn : decide (2 ≤ (ls.length : Int) ∧ (ls.length : Int) ≤ 16) = false := by simpa using hn
    have HX := hide (show false = R by rw [← hR, curveOk, endsOk, hdn]; rfl)
    clear hR hn
    go_enter Try.func37, Try.ntmps37
    go_wp2_with (go_at_call 59; refine (within_any _ _ _ _).mono ?_; rintro e wx ⟨rfl, rfl⟩; rw [hdn])
    go_ret
    exact ⟨ret_bool HX.out, Below.refl _ _⟩

end Go.Proofs.Ytolcndchfnifhab
