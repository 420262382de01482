/- The reference's ColourAt and At. -/
import Derived.Test.YtolcndchfnifhabMosaicTake
namespace Go.Proofs.Ytolcndchfnifhab
set_option linter.unusedVariables false
open Go.RowKit

set_option maxRecDepth 100000 in
set_option maxHeartbeats 800000 in
theorem colourAt_any (p X Y : Nat) (hp : p ≤ 3) (hX : X ≤ 4096) (hY : Y ≤ 4096) (w : World) :
    Calls Try.prog 19 #[.int .i64 p, .int .i64 X, .int .i64 Y] w fun e w' => e = .returned (.int .i64 (colV p X Y : Nat)) ∧ w = w' := by
  obtain ⟨C, hC⟩ : ∃ C, colV p X Y = C := ⟨_, rfl⟩
  rw [hC]
  have hx : X % 2 = 0 ∨ X % 2 = 1 := by omega
  have hy : Y % 2 = 0 ∨ Y % 2 = 1 := by omega
  rcases (show p = 0 ∨ p = 1 ∨ p = 2 ∨ p = 3 by omega) with rfl | rfl | rfl | rfl <;> rcases hx with hx | hx <;> rcases hy with hy | hy
  all_goals
    rw [colV, colB, hx, hy] at hC
    simp at hC
    have HC := hide hC.symm
    have hxi : (X : Int) % 2 = ((X % 2 : Nat) : Int) := rfl
    have hyi : (Y : Int) % 2 = ((Y % 2 : Nat) : Int) := rfl
    rw [hx] at hxi
    rw [hy] at hyi
    have hx1 : ((X : Int) + 1) % 2 = 1 - (X : Int) % 2 := by omega
    have hy1 : ((Y : Int) + 1) % 2 = 1 - (Y : Int) % 2 := by omega
    rw [hxi] at hx1
    rw [hyi] at hy1
    clear hC hx hy
    go_enter Try.func19, Try.ntmps19
    go_wp2
    go_ret
    rw [HC.out]
    exact ⟨rfl, rfl⟩

theorem atZ_any (W H X Y k : Nat) (v : Value) (zs : List Int) (w : World) (hv : IsInts w v zs) (hm : Y * W + X = k) (hk : k < zs.length) (hk2 : zs.length ≤ 4096) :
    Calls Try.prog 71 #[.agg #[.int .i64 W, .int .i64 H, v], .int .i64 X, .int .i64 Y] w fun e w' => e = .returned (.int .i64 (zAt zs k)) ∧ Below w.heap.size w w' := by
  obtain ⟨bk, off, ca, rfl, hbk, hcell⟩ := hv.cells (by omega)
  have hc1 : ∀ o, (w.alloc o).cell? ⟨bk, off + k, none⟩ = some (.int .i64 (zAt zs k)) := fun o => by
    rw [World.cell?_of_block (w := w) (Below.heap_alloc w o bk hbk), hcell k hk]
  clear hcell
  obtain ⟨M, hM⟩ : ∃ M : Nat, M = Y * W := ⟨_, rfl⟩
  have hmm : (Y : Int) * (W : Int) = (M : Int) := by rw [hM]; simp
  rw [← hM] at hm
  have hat : (M : Int) + (X : Int) = (k : Int) := by omega
  clear hM
  generalize zAt zs k = Z at *
  go_enter Try.func71, Try.ntmps71
  go_wp2
  go_ret
  exact ⟨rfl, bel_alloc _ _⟩

end Go.Proofs.Ytolcndchfnifhab
