/- The reference's PlaneFine, At, down, GuessOf, difference, classOf. -/
import Derived.Test.YtolcndchfnifhaaGuess
namespace Go.Proofs.Ytolcndchfnifhaa
open Go.RowKit

theorem tdiv_cases (n : Int) (b : Nat) : (0 ≤ n ∧ n.tdiv b = n / b) ∨ (n < 0 ∧ n.tdiv b = -((-n) / b)) := by
  by_cases h : 0 ≤ n
  · exact .inl ⟨h, Int.tdiv_eq_ediv_of_nonneg h⟩
  · refine .inr ⟨by omega, ?_⟩
    have := Int.neg_tdiv (-n) b
    rw [Int.neg_neg] at this
    rw [this, Int.tdiv_eq_ediv_of_nonneg (by omega)]

set_option maxRecDepth 100000 in
theorem down2_any (n : Int) (h0 : -4000000 ≤ n) (h1 : n ≤ 4000000) (w : World) :
    Calls Try.prog 83 #[.int .i64 n, .int .i64 2] w fun e w' => e = .returned (.int .i64 (n / 2)) ∧ w = w' := by
  have hc := tdiv_cases n 2
  obtain ⟨q, hq⟩ : ∃ q, n.tdiv 2 = q := ⟨_, rfl⟩
  simp only [show ((2 : Nat) : Int) = 2 from rfl, hq] at hc
  by_cases ht : n < q * 2
  · have hd : decide (n < q * 2) = true := by simpa using ht
    have HE := hide (show q - 1 = n / 2 by omega)
    have hb : -4000001 ≤ q ∧ q ≤ 4000000 := by omega
    clear hc ht
    go_enter Try.func83, Try.ntmps83
    go_wp2
    go_ret
    exact ⟨ret_int HE.out, rfl⟩
  · have hd : decide (n < q * 2) = false := by simpa using ht
    have HE := hide (show q = n / 2 by omega)
    have hb : -4000001 ≤ q ∧ q ≤ 4000000 := by omega
    clear hc ht
    go_enter Try.func83, Try.ntmps83
    go_wp2
    go_ret
    exact ⟨ret_int HE.out, rfl⟩
set_option maxRecDepth 100000 in
theorem down16_any (n : Int) (h0 : -4000000 ≤ n) (h1 : n ≤ 4000000) (w : World) :
    Calls Try.prog 83 #[.int .i64 n, .int .i64 65536] w fun e w' => e = .returned (.int .i64 (n / 65536)) ∧ w = w' := by
  have hc := tdiv_cases n 65536
  obtain ⟨q, hq⟩ : ∃ q, n.tdiv 65536 = q := ⟨_, rfl⟩
  simp only [show ((65536 : Nat) : Int) = 65536 from rfl, hq] at hc
  by_cases ht : n < q * 65536
  · have hd : decide (n < q * 65536) = true := by simpa using ht
    have HE := hide (show q - 1 = n / 65536 by omega)
    have hb : -4000001 ≤ q ∧ q ≤ 4000000 := by omega
    clear hc ht
    go_enter Try.func83, Try.ntmps83
    go_wp2
    go_ret
    exact ⟨ret_int HE.out, rfl⟩
  · have hd : decide (n < q * 65536) = false := by simpa using ht
    have HE := hide (show q = n / 65536 by omega)
    have hb : -4000001 ≤ q ∧ q ≤ 4000000 := by omega
    clear hc ht
    go_enter Try.func83, Try.ntmps83
    go_wp2
    go_ret
    exact ⟨ret_int HE.out, rfl⟩

theorem at_any (W H : Int) (v : Value) (zs : List Int) (x y : Int) (X Y WN k : Nat) (w : World) (hv : IsInts w v zs) (hW : W = WN) (hx : x = X) (hy : y = Y) (hm : Y * WN + X = k) (hk : k < zs.length) (hk2 : zs.length ≤ 4096) :
    Calls Try.prog 82 #[.agg #[.int .i64 W, .int .i64 H, v], .int .i64 x, .int .i64 y] w fun e w' => e = .returned (.int .i64 (zs.getD k 0)) ∧ Below w.heap.size w w' := by
  subst hx hy
  obtain ⟨ao, ca, rfl, hla, hc⟩ := hv
  obtain ⟨bk, off, hao, hbl, hcell⟩ : ∃ b off, ao = some ⟨b, off, none⟩ ∧ b < w.heap.size ∧ ∀ j (h : j < zs.length), w.cell? ⟨b, off + j, none⟩ = some (.int .i64 zs[j]) := by
    rcases hc with h | h
    · subst h; simp at hk
    · exact h
  subst hao hW
  have hc1 : ∀ o, (w.alloc o).cell? ⟨bk, off + k, none⟩ = some (.int .i64 (zs.getD k 0)) := fun o => by
    rw [World.cell?_of_block (w := w) (Below.heap_alloc w o bk hbl), hcell k hk]; simp [List.getD, hk]
  clear hcell hc
  obtain ⟨M, hM⟩ : ∃ M : Nat, M = Y * WN := ⟨_, rfl⟩
  have hmm : (Y : Int) * (WN : Int) = (M : Int) := by rw [hM]; simp
  rw [← hM] at hm
  have hat : (M : Int) + (X : Int) = (k : Int) := by omega
  clear hM
  generalize zs.getD k 0 = Z at *
  go_enter Try.func82, Try.ntmps82
  go_wp2
  go_ret
  exact ⟨rfl, bel_alloc _ _⟩

set_option maxRecDepth 100000 in
set_option maxHeartbeats 400000 in
theorem refClassOf_any (d : Int) (h0 : -32768 < d) (h1 : d ≤ 32768) (w : World) :
    Calls Try.prog 88 #[.int .i64 d] w fun e w' => e = .returned (.int .i64 (cls d : Nat)) ∧ w = w' := by
  have hN : ∃ N : Nat, N ≤ 32768 ∧ (d = N ∨ (d = -(N : Int) ∧ 0 < N)) := ⟨d.natAbs, by omega, by omega⟩
  obtain ⟨N, hNb, hN⟩ := hN
  have HB := hide (show blen N ≤ 16 from blen_le (by omega))
  have HC := hide (show blen N = cls d by rw [cls]; congr 1; omega)
  clear h0 h1
  generalize cls d = C at *
  rcases hN with rfl | ⟨rfl, hpos⟩
  · have hdc : decide ((N : Int) < -(N : Int)) = false := by simp
    go_enter Try.func88, Try.ntmps88
    go_wp2
    go_loop [3, 4] (fun c n => ∃ k : Nat, k ≤ 16 ∧ c = .int .i64 k ∧ n = .int .i64 ((N / 2 ^ k : Nat) : Int) ∧ Hid (k ≤ blen N)) (fun c _ => 16 - (intOf c).toNat)
    case atStart => exact ⟨0, by omega, rfl, by simp, by show _ ≤ _; omega⟩
    case round =>
      obtain ⟨k, hk, rfl, rfl, HK⟩ := hrel
      have HH := hide (halves N k)
      have HM := hide (@blen_more N k)
      have HD := hide (@blen_done N k)
      have hle : N / 2 ^ k ≤ 32768 := Nat.le_trans (Nat.div_le_self _ _) hNb
      generalize N / 2 ^ k = n at *
      by_cases hn : n = 0
      · subst hn
        have HE := hide (show (k : Int) = (C : Nat) by rw [← HC.out]; have := HD.out rfl; have := HK.out; omega)
        go_wp2
        go_ret
        exact ⟨ret_int HE.out, rfl⟩
      · have hlt := HM.out hn
        have HK2 : Hid (k + 1 ≤ blen N) := hlt
        have hk2 : k + 1 ≤ 16 := by have := HB.out; omega
        clear hlt
        go_wp2
        go_round
        case rel => exact ⟨k + 1, hk2, by go_num, by rw [HH.out]; go_num, HK2⟩
        case measure => simp [intOf]; omega
  · have hdc : decide (-(N : Int) < - -(N : Int)) = true := by simp; omega
    have hdd : decide (-(N : Int) < (N : Int)) = true := by simp; omega
    have hnn : - -(N : Int) = (N : Int) := Int.neg_neg _
    go_enter Try.func88, Try.ntmps88
    go_wp2
    go_loop [3, 4] (fun c n => ∃ k : Nat, k ≤ 16 ∧ c = .int .i64 k ∧ n = .int .i64 ((N / 2 ^ k : Nat) : Int) ∧ Hid (k ≤ blen N)) (fun c _ => 16 - (intOf c).toNat)
    case atStart => exact ⟨0, by omega, rfl, by simp, by show _ ≤ _; omega⟩
    case round =>
      obtain ⟨k, hk, rfl, rfl, HK⟩ := hrel
      have HH := hide (halves N k)
      have HM := hide (@blen_more N k)
      have HD := hide (@blen_done N k)
      have hle : N / 2 ^ k ≤ 32768 := Nat.le_trans (Nat.div_le_self _ _) hNb
      generalize N / 2 ^ k = n at *
      by_cases hn : n = 0
      · subst hn
        have HE := hide (show (k : Int) = (C : Nat) by rw [← HC.out]; have := HD.out rfl; have := HK.out; omega)
        go_wp2
        go_ret
        exact ⟨ret_int HE.out, rfl⟩
      · have hlt := HM.out hn
        have HK2 : Hid (k + 1 ≤ blen N) := hlt
        have hk2 : k + 1 ≤ 16 := by have := HB.out; omega
        clear hlt
        go_wp2
        go_round
        case rel => exact ⟨k + 1, hk2, by go_num, by rw [HH.out]; go_num, HK2⟩
        case measure => simp [intOf]; omega

end Go.Proofs.Ytolcndchfnifhaa
