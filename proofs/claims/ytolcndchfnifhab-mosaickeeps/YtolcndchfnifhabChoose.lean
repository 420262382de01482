/- The law's choose. -/
import Derived.Test.YtolcndchfnifhabBase
namespace Go.Proofs.Ytolcndchfnifhab
open Go.RowKit

theorem wf_int {c : Int} (h : (Lit.int .i64 c).wf = true) : -9223372036854775808 ≤ c ∧ c ≤ 9223372036854775807 := by
  have h1 : IntKind.i64.min = -9223372036854775808 := by decide
  have h2 : IntKind.i64.max = 9223372036854775807 := by decide
  simp [Lit.wf] at h
  omega

theorem choose_any (c : Int) (n : Nat) (h0 : -9223372036854775808 ≤ c) (h1 : c ≤ 9223372036854775807) (hn : 1 ≤ n) (hn2 : n ≤ 9223372036854775807) (w : World) :
    Calls Try.prog 30 #[.int .i64 c, .int .i64 n] w fun e w' => (∃ j : Nat, j < n ∧ e = .returned (.int .i64 j)) ∧ w = w' := by
  have hmod : ∀ d : Int, 0 ≤ d → ∃ j : Nat, j < n ∧ d % (n : Int) = (j : Int) := by
    intro d hd
    have h2 := Int.emod_lt_of_pos d (show (0 : Int) < n by omega)
    have h3 := Int.emod_nonneg d (show (n : Int) ≠ 0 by omega)
    exact ⟨(d % (n : Int)).toNat, by omega, by omega⟩
  have HM := hide hmod; clear hmod
  by_cases hc : c < 0
  · have hd : decide (c < 0) = true := by simpa using hc
    obtain ⟨j, hj, he⟩ := HM.out (-(c + 1)) (by omega)
    have HE := hide (show -((c + 1).tmod (n : Int)) = (j : Int) by rw [← Int.neg_tmod, Int.tmod_eq_emod_of_nonneg (by omega), he])
    clear he
    go_enter Try.func30, Try.ntmps30
    go_wp2
    go_ret
    exact ⟨⟨j, hj, by rw [← HE.out]; rfl⟩, rfl⟩
  · have hd : decide (c < 0) = false := by simpa using hc
    obtain ⟨j, hj, he⟩ := HM.out c (by omega)
    have HE := hide he
    clear he
    go_enter Try.func30, Try.ntmps30
    go_wp2
    go_ret
    exact ⟨⟨j, hj, by rw [← HE.out]; rfl⟩, rfl⟩

end Go.Proofs.Ytolcndchfnifhab
