/- tone.weighed; grid.Nearest. -/
import Derived.Test.YtolcndchfnifhabMixAll
namespace Go.Proofs.Ytolcndchfnifhab
open Go.RowKit

def addP (s : Px) (k : Int) (p : Px) : Px := (s.1 + k * p.1, s.2.1 + k * p.2.1, s.2.2 + k * p.2.2)
/-- parts that are no more than so many times the highest. -/
def pxUpto (m : Int) (p : Px) : Prop := (0 ≤ p.1 ∧ p.1 ≤ m * 65535) ∧ (0 ≤ p.2.1 ∧ p.2.1 ≤ m * 65535) ∧ (0 ≤ p.2.2 ∧ p.2.2 ≤ m * 65535)
theorem mul_bounds0 {a r A R : Int} (h1 : 0 ≤ a) (h2 : a ≤ A) (h3 : 0 ≤ r) (h4 : r ≤ R) : 0 ≤ a * r ∧ a * r ≤ A * R :=
  ⟨Int.mul_nonneg h1 h3, Int.mul_le_mul h2 h4 h3 (by omega)⟩

set_option maxRecDepth 100000 in
set_option maxHeartbeats 800000 in
theorem weighed_any (s p : Px) (k : Int) (hk0 : 0 ≤ k) (hk : k ≤ 4) (hs : pxUpto 32 s) (hp : pxOk p = true) (w : World) :
    Calls Try.prog 113 #[pixV s, pixV p, .int .i64 k] w fun e w' => e = .returned (pixV (addP s k p)) ∧ Below w.heap.size w w' := by
  obtain ⟨⟨r1, r2⟩, ⟨g1, g2⟩, u1, u2⟩ := (pxOk_iff p).1 hp
  obtain ⟨⟨s1, s2⟩, ⟨s3, s4⟩, s5, s6⟩ := hs
  obtain ⟨r, g, u⟩ := p
  obtain ⟨a, b, c⟩ := s
  simp only at r1 r2 g1 g2 u1 u2 s1 s2 s3 s4 s5 s6
  obtain ⟨m1, m2⟩ := mul_bounds0 hk0 hk r1 r2
  obtain ⟨m3, m4⟩ := mul_bounds0 hk0 hk g1 g2
  obtain ⟨m5, m6⟩ := mul_bounds0 hk0 hk u1 u2
  have HE := hide (show addP (a, b, c) k (r, g, u) = (a + k * r, b + k * g, c + k * u) from rfl)
  rw [HE.out]
  clear HE
  obtain ⟨A, hA⟩ : ∃ A, k * r = A := ⟨_, rfl⟩
  obtain ⟨B, hB⟩ : ∃ B, k * g = B := ⟨_, rfl⟩
  obtain ⟨C, hC⟩ : ∃ C, k * u = C := ⟨_, rfl⟩
  rw [hA] at m1 m2
  rw [hB] at m3 m4
  rw [hC] at m5 m6
  rw [hA, hB, hC]
  go_enter Try.func113, Try.ntmps113
  go_wp2
  exact bodyPost_ret (v := .agg #[.int .i64 (a + A), .int .i64 (b + B), .int .i64 (c + C)]) (by simp [results, Try.results113, go_sem]) rfl ⟨rfl, be3 _ _ _ _⟩

/-- the nearest of so many. -/
def near (W x : Int) : Int := if x < 0 then 0 else if W ≤ x then W - 1 else x
theorem near_range (W x : Int) (h : 1 ≤ W) : 0 ≤ near W x ∧ near W x < W := by unfold near; split <;> (try split) <;> omega
theorem near_cases (W x : Int) : (x < 0 ∧ near W x = 0) ∨ (0 ≤ x ∧ W ≤ x ∧ near W x = W - 1) ∨ (0 ≤ x ∧ x < W ∧ near W x = x) := by unfold near; split <;> (try split) <;> omega

set_option maxRecDepth 100000 in
set_option maxHeartbeats 1600000 in
theorem nearest_any (W H x y : Int) (hW1 : 1 ≤ W) (hW : W ≤ 64) (hH1 : 1 ≤ H) (hH : H ≤ 64) (hx0 : -1 ≤ x) (hx1 : x ≤ 66) (hy0 : -1 ≤ y) (hy1 : y ≤ 66) (w : World) :
    Calls Try.prog 114 #[.agg #[.int .i64 W, .int .i64 H], .agg #[.int .i64 x, .int .i64 y]] w fun e w' => e = .returned (.agg #[.int .i64 (near W x), .int .i64 (near H y)]) ∧ Below w.heap.size w w' := by
  rcases near_cases W x with ⟨a1, e1⟩ | ⟨a1, a2, e1⟩ | ⟨a1, a2, e1⟩ <;> rcases near_cases H y with ⟨b1, e2⟩ | ⟨b1, b2, e2⟩ | ⟨b1, b2, e2⟩
  all_goals
    have E1 := hide e1
    have E2 := hide e2
    clear e1 e2
    go_enter Try.func114, Try.ntmps114
    go_wp2
    all_goals exact bodyPost_ret (v := .agg #[.int .i64 (near W x), .int .i64 (near H y)]) (by simp [results, Try.results114, go_sem, E1.out, E2.out]) rfl ⟨rfl, be3 _ _ _ _⟩

end Go.Proofs.Ytolcndchfnifhab
