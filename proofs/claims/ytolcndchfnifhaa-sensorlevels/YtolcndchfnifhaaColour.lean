/- sensor.Colour. -/
import Derived.Test.YtolcndchfnifhaaLevel
namespace Go.Proofs.Ytolcndchfnifhaa
open Go.RowKit

/-- the colour of a place, by the phase. -/
def colB (phase x y : Nat) : Bool × Bool := (decide (x % 2 ≠ phase % 2), decide (y % 2 ≠ phase / 2))
def colV (phase x y : Nat) : Nat := match colB phase x y with
  | (true, true) => 2
  | (true, false) => 1
  | (false, true) => 1
  | (false, false) => 0
def colourE (phase x y : Int) : Int := if phaseOk phase = true ∧ 0 ≤ x ∧ 0 ≤ y then 0 else 3
def colourV (phase x y : Int) : Int := if phaseOk phase = true ∧ 0 ≤ x ∧ 0 ≤ y then (colV phase.toNat x.toNat y.toNat : Nat) else 0

set_option maxRecDepth 100000 in
set_option maxHeartbeats 800000 in
theorem colour_ok (p X Y : Nat) (hp : p ≤ 3) (w : World) :
    Calls Try.prog 100 #[.int .i64 p, .int .i64 X, .int .i64 Y] w fun e w' => e = .returned (.tuple #[.int .i64 (colV p X Y : Nat), .int .i64 0]) ∧ Below w.heap.size w w' := by
  have hpo : phaseOk (p : Int) = true := by simp [phaseOk]; omega
  obtain ⟨C, hC⟩ : ∃ C, colV p X Y = C := ⟨_, rfl⟩
  rw [hC]
  have hx : X % 2 = 0 ∨ X % 2 = 1 := by omega
  have hy : Y % 2 = 0 ∨ Y % 2 = 1 := by omega
  have hm : p % 2 = 0 ∨ p % 2 = 1 := by omega
  have hv : p / 2 = 0 ∨ p / 2 = 1 := by omega
  rcases hm with hm | hm <;> rcases hv with hv | hv <;> rcases hx with hx | hx <;> rcases hy with hy | hy
  all_goals
    rw [colV, colB, hx, hy, hm, hv] at hC
    simp at hC
    have HC := hide hC.symm
    have hxi : (X : Int) % 2 = ((X % 2 : Nat) : Int) := rfl
    have hyi : (Y : Int) % 2 = ((Y % 2 : Nat) : Int) := rfl
    have hmi : (p : Int) % 2 = ((p % 2 : Nat) : Int) := rfl
    have hvi : (p : Int) / 2 = ((p / 2 : Nat) : Int) := rfl
    rw [hx] at hxi
    rw [hy] at hyi
    rw [hm] at hmi
    rw [hv] at hvi
    clear hC hx hy hm hv
    go_enter Try.func100, Try.ntmps100
    go_wp2_with fail
    refine (phase_any _ _).mono ?_
    rintro e w1 ⟨rfl, hb1⟩
    rw [hpo]
    go_wp2
    go_ret2
    rw [HC.out]
    exact ⟨rfl, hb1⟩

set_option maxRecDepth 100000 in
theorem colour_any (phase x y : Int) (w : World) :
    Calls Try.prog 100 #[.int .i64 phase, .int .i64 x, .int .i64 y] w fun e w' => e = .returned (.tuple #[.int .i64 (colourV phase x y), .int .i64 (colourE phase x y)]) ∧ Below w.heap.size w w' := by
  by_cases hp : phaseOk phase = true
  · by_cases hx : 0 ≤ x
    · by_cases hy : 0 ≤ y
      · rw [colourV, colourE, if_pos ⟨hp, hx, hy⟩, if_pos ⟨hp, hx, hy⟩]
        have hp2 : 0 ≤ phase ∧ phase ≤ 3 := by simpa [phaseOk] using hp
        obtain ⟨P, rfl⟩ := Int.eq_ofNat_of_zero_le hp2.1
        obtain ⟨X, rfl⟩ := Int.eq_ofNat_of_zero_le hx
        obtain ⟨Y, rfl⟩ := Int.eq_ofNat_of_zero_le hy
        simp only [Int.toNat_natCast]
        exact colour_ok P X Y (by omega) w
      · rw [colourV, colourE, if_neg (fun h => hy h.2.2), if_neg (fun h => hy h.2.2)]
        go_enter Try.func100, Try.ntmps100
        go_wp2_with fail
        refine (phase_any _ _).mono ?_
        rintro e w1 ⟨rfl, hb1⟩
        rw [hp]
        go_wp2
        go_ret2
        exact ⟨rfl, hb1⟩
    · rw [colourV, colourE, if_neg (fun h => hx h.2.1), if_neg (fun h => hx h.2.1)]
      go_enter Try.func100, Try.ntmps100
      go_wp2_with fail
      refine (phase_any _ _).mono ?_
      rintro e w1 ⟨rfl, hb1⟩
      rw [hp]
      go_wp2
      go_ret2
      exact ⟨rfl, hb1⟩
  · rw [colourV, colourE, if_neg (fun h => hp h.1), if_neg (fun h => hp h.1)]
    have hp : phaseOk phase = false := by simpa using hp
    go_enter Try.func100, Try.ntmps100
    go_wp2_with fail
    refine (phase_any _ _).mono ?_
    rintro e w1 ⟨rfl, hb1⟩
    rw [hp]
    go_wp2
    go_ret2
    exact ⟨rfl, hb1⟩

end Go.Proofs.Ytolcndchfnifhaa
