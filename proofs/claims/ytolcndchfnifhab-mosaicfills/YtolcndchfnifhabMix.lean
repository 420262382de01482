/- tone.Mix: its row. -/
import Derived.Test.YtolcndchfnifhabSamePics
import Derived.Test.YtolcndchfnifhabLevel
namespace Go.Proofs.Ytolcndchfnifhab
open Go.RowKit

theorem heldQ (n : Int) (w : World) : Calls Try.prog 57 #[.int .i64 n] w fun e w' => e = .returned (.int .i64 (clampV n)) ∧ w' = w :=
  (held_any n w).mono fun _ _ h => ⟨h.1, h.2.symm⟩

theorem mul_bounds {a r A R : Int} (h1 : -A ≤ a) (h2 : a ≤ A) (h3 : 0 ≤ r) (h4 : r ≤ R) (hA : 0 ≤ A) : -(A * R) ≤ a * r ∧ a * r ≤ A * R := by
  have q1 := Int.mul_le_mul_of_nonneg_right h2 h3
  have q2 := Int.mul_le_mul_of_nonneg_right h1 h3
  have q3 := Int.mul_le_mul_of_nonneg_left h4 hA
  rw [Int.neg_mul] at q2
  omega

/-- what Mix's row is. -/
def mixV (a b c r g u : Int) : Int := clampV ((a * r + b * g + c * u) / 4096)

set_option maxRecDepth 100000 in
set_option maxHeartbeats 800000 in
theorem mixRow_any (i : Nat) (hi : i ≤ 6) (Bm Bv : Nat) (a b c r g u : Int) (ha1 : -32768 ≤ a) (ha2 : a ≤ 32768) (hb1 : -32768 ≤ b) (hb2 : b ≤ 32768) (hc1 : -32768 ≤ c) (hc2 : c ≤ 32768)
    (hr1 : 0 ≤ r) (hr2 : r ≤ 65535) (hg1 : 0 ≤ g) (hg2 : g ≤ 65535) (hu1 : 0 ≤ u) (hu2 : u ≤ 65535) (V : World)
    (m0 : V.cell? ⟨Bm, i, none⟩ = some (.int .i64 a)) (m1 : V.cell? ⟨Bm, i + 1, none⟩ = some (.int .i64 b)) (m2 : V.cell? ⟨Bm, i + 2, none⟩ = some (.int .i64 c))
    (v0 : V.cell? ⟨Bv, 0, none⟩ = some (.int .i64 r)) (v1 : V.cell? ⟨Bv, 1, none⟩ = some (.int .i64 g)) (v2 : V.cell? ⟨Bv, 2, none⟩ = some (.int .i64 u)) :
    Calls Try.prog 77 #[.int .i64 i, .pointer (some ⟨Bm, 0, none⟩), .pointer (some ⟨Bv, 0, none⟩)] V fun e w' => e = .returned (.int .i64 (mixV a b c r g u)) ∧ ∃ n, w' = V.drewN n := by
  have HE := hide (show mixV a b c r g u = clampV ((a * r + b * g + c * u) / 4096) from rfl)
  generalize mixV a b c r g u = M at *
  have p1 := mul_bounds ha1 ha2 hr1 hr2 (by omega)
  have p2 := mul_bounds hb1 hb2 hg1 hg2 (by omega)
  have p3 := mul_bounds hc1 hc2 hu1 hu2 (by omega)
  obtain ⟨A, hA⟩ : ∃ A, a * r = A := ⟨_, rfl⟩
  obtain ⟨B, hB⟩ : ∃ B, b * g = B := ⟨_, rfl⟩
  obtain ⟨C, hC⟩ : ∃ C, c * u = C := ⟨_, rfl⟩
  rw [hA] at p1
  rw [hB] at p2
  rw [hC] at p3
  rw [hA, hB, hC] at HE
  clear ha1 ha2 hb1 hb2 hc1 hc2 hr1 hr2 hg1 hg2 hu1 hu2
  obtain ⟨p1a, p1b⟩ := p1
  obtain ⟨p2a, p2b⟩ := p2
  obtain ⟨p3a, p3b⟩ := p3
  go_enter Try.func77, Try.ntmps77
  go_wp2
  go_quiet ((go_at_call 57; exact Calls.quiet_of_same (heldQ _ _)))
  go_wp2
  go_ret
  exact ⟨ret_int HE.out.symm, nq, rfl⟩

/-- what Mix makes of a pixel. -/
def mixP (m : Nat → Int) (p : Px) : Px := (mixV (m 0) (m 1) (m 2) p.1 p.2.1 p.2.2, mixV (m 3) (m 4) (m 5) p.1 p.2.1 p.2.2, mixV (m 6) (m 7) (m 8) p.1 p.2.1 p.2.2)

set_option maxRecDepth 100000 in
set_option maxHeartbeats 800000 in
theorem mix1_any (Bm : Nat) (m : Nat → Int) (hm : ∀ k, k < 9 → -32768 ≤ m k ∧ m k ≤ 32768) (p : Px) (hp : pxOk p = true) (V : World) (hB : Bm < V.heap.size)
    (hc : ∀ k, k < 9 → V.cell? ⟨Bm, k, none⟩ = some (.int .i64 (m k))) :
    Calls Try.prog 76 #[pixV p, .pointer (some ⟨Bm, 0, none⟩)] V fun e w' => e = .returned (pixV (mixP m p)) ∧ Below V.heap.size V w' := by
  obtain ⟨⟨r1, r2⟩, ⟨g1, g2⟩, u1, u2⟩ := (pxOk_iff p).1 hp
  obtain ⟨r, g, u⟩ := p
  simp only at r1 r2 g1 g2 u1 u2
  have HB1 := hide (bel_trans (bel_alloc V (Obj.cells #[.int .i64 r, .int .i64 g, .int .i64 u] 50)) (bel_alloc _ (Obj.cells #[.int .i64 0, .int .i64 0, .int .i64 0] 50)))
  have hcc : ∀ k, k < 9 → ((V.alloc (Obj.cells #[.int .i64 r, .int .i64 g, .int .i64 u] 50)).alloc (Obj.cells #[.int .i64 0, .int .i64 0, .int .i64 0] 50)).cell? ⟨Bm, k, none⟩ = some (.int .i64 (m k)) := fun k hk =>
    (HB1.out.cell (p := ⟨Bm, k, none⟩) hB).trans (hc k hk)
  obtain ⟨k1, k2⟩ := box2 (w := V) (x := #[.int .i64 r, .int .i64 g, .int .i64 u]) (y := #[.int .i64 0, .int .i64 0, .int .i64 0]) (t := 50) (Below.refl _ _)
  obtain ⟨v0, v1, v2⟩ := cells3 k1
  obtain ⟨z0, z1, z2⟩ := cells3 k2
  have f0 := Lib.frozen_of_heap k2 0
  have f1 := Lib.frozen_of_heap k2 1
  have f2 := Lib.frozen_of_heap k2 2
  clear k1 k2 hc
  have HC := hide hcc
  have HM := hide hm
  have HR := hide (fun (i : Nat) (hi : i ≤ 6) (n : Nat) => mixRow_any i hi Bm V.heap.size (m i) (m (i + 1)) (m (i + 2)) r g u (hm i (by omega)).1 (hm i (by omega)).2 (hm (i + 1) (by omega)).1 (hm (i + 1) (by omega)).2 (hm (i + 2) (by omega)).1 (hm (i + 2) (by omega)).2 r1 r2 g1 g2 u1 u2
    (((V.alloc (Obj.cells #[.int .i64 r, .int .i64 g, .int .i64 u] 50)).alloc (Obj.cells #[.int .i64 0, .int .i64 0, .int .i64 0] 50)).drewN n) (hcc i (by omega)) (hcc (i + 1) (by omega)) (hcc (i + 2) (by omega)) v0 v1 v2)
  clear hcc hm
  go_enter Try.func76, Try.ntmps76
  go_wp2_with fail
  refine (HR.out 0 (by omega) 0).mono ?_
  rintro e w1 ⟨rfl, n1, rfl⟩
  go_wp2_with fail
  refine (HR.out 3 (by omega) _).mono ?_
  rintro e w2 ⟨rfl, n2, rfl⟩
  go_wp2_with fail
  refine (HR.out 6 (by omega) _).mono ?_
  rintro e w3 ⟨rfl, n3, rfl⟩
  go_wp2
  refine bodyPost_ret (v := pixV (mixP m (r, g, u))) (by simp [results, Try.results76, go_sem, mixP]) rfl ⟨rfl, ?_⟩
  exact set3_below (below_drewN HB1.out _) (by omega) _ _ _

end Go.Proofs.Ytolcndchfnifhab
