/- tone.Sharpen: how a part is moved away from its blur. -/
import Derived.Test.YtolcndchfnifhabMixAll
namespace Go.Proofs.Ytolcndchfnifhab
open Go.RowKit

/-- a part, its weighed sum, the amount. -/
def sharpV (p s amount : Int) : Int := clampV (p + (p - s / 16) * amount / 256)

set_option maxRecDepth 100000 in
set_option maxHeartbeats 800000 in
theorem sharper_any (p s amount : Int) (hp0 : 0 ≤ p) (hp1 : p ≤ 65535) (hs0 : 0 ≤ s) (hs1 : s ≤ 2097120) (ha0 : 0 ≤ amount) (ha1 : amount ≤ 1024) (Ba : Nat) (V : World) (hc : V.cell? ⟨Ba, 0, none⟩ = some (.int .i64 amount)) :
    Calls Try.prog 85 #[.int .i64 p, .int .i64 s, .pointer (some ⟨Ba, 0, none⟩)] V fun e w' => e = .returned (.int .i64 (sharpV p s amount)) ∧ V = w' := by
  have HE := hide (show sharpV p s amount = clampV (p + (p - s / 16) * amount / 256) from rfl)
  generalize sharpV p s amount = R at *
  obtain ⟨b, hb⟩ : ∃ b, s / 16 = b := ⟨_, rfl⟩
  have hb0 : 0 ≤ b ∧ b ≤ 131070 := by omega
  rw [hb] at HE
  have hm := mul_bounds (a := p - b) (r := amount) (A := 131070) (R := 1024) (by omega) (by omega) ha0 ha1 (by omega)
  obtain ⟨M, hM⟩ : ∃ M, (p - b) * amount = M := ⟨_, rfl⟩
  rw [hM] at HE hm
  obtain ⟨hm0, hm1⟩ := hm
  obtain ⟨hb0, hb1⟩ := hb0
  obtain ⟨D, hD⟩ : ∃ D, M / 256 = D := ⟨_, rfl⟩
  have hd0 : -524280 ≤ D ∧ D ≤ 524280 := by omega
  obtain ⟨hd0, hd1⟩ := hd0
  rw [hD] at HE
  go_enter Try.func85, Try.ntmps85
  go_wp2_with (go_at_call 57; refine (held_any _ _).mono ?_; rintro e w' ⟨rfl, rfl⟩)
  go_ret
  exact ⟨ret_int HE.out.symm, rfl⟩

end Go.Proofs.Ytolcndchfnifhab
