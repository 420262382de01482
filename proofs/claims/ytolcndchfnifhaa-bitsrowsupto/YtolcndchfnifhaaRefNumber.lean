/- The reference's NumberError and Number. -/
import Derived.Test.YtolcndchfnifhaaNumber
import Derived.Deep.RegionWith
import Derived.BigRegion
namespace Go.Proofs.Ytolcndchfnifhaa
open Go.RowKit

set_option maxRecDepth 100000 in
set_option maxHeartbeats 400000 in
theorem numberError_any (n size : Int) (w : World) :
    Calls Try.prog 21 #[.int .i64 n, .int .i64 size] w fun e w' => e = .returned (.int .i64 (numE n size)) ∧ w = w' := by
  rcases numOk_cases n size with ⟨m, k, rfl, rfl, h1, h2, h3⟩ | ⟨h1, h | h | ⟨h1, h2, h3⟩ | ⟨k, p, rfl, hk, hp, hle⟩⟩
  · have hE : Hid (numE m k = 0) := if_pos h3
    obtain ⟨p, hp⟩ : ∃ p : Nat, p = 2 ^ k := ⟨_, rfl⟩
    have hw := wrap_pow h1
    have hp16 := pow16 h1
    rw [← hp] at hw h2 hp16
    clear hp h3
    have hd : decide ((m : Int) ≤ (p : Int) - 1) = true := by simp; omega
    go_enter Try.func21, Try.ntmps21
    go_wp2_with (go_at_call 61; refine (within_any _ _ _ _).mono ?_; rintro e w' ⟨rfl, rfl⟩)
    go_ret
    rw [hE.out]
    exact ⟨rfl, rfl⟩
  · have hE : Hid (numE n size = 3) := if_neg (by simp [h1])
    clear h1
    go_enter Try.func21, Try.ntmps21
    go_wp2_with (go_at_call 61; refine (within_any _ _ _ _).mono ?_; rintro e w' ⟨rfl, rfl⟩)
    go_ret
    rw [hE.out]
    exact ⟨rfl, rfl⟩
  · have hE : Hid (numE n size = 3) := if_neg (by simp [h1])
    clear h1
    go_enter Try.func21, Try.ntmps21
    go_wp2_with (go_at_call 61; refine (within_any _ _ _ _).mono ?_; rintro e w' ⟨rfl, rfl⟩)
    go_ret
    rw [hE.out]
    exact ⟨rfl, rfl⟩
  · rename_i h0
    have hE : Hid (numE n size = 3) := if_neg (by simp [h0])
    clear h0
    have hs : size = ((size.toNat : Nat) : Int) := by omega
    obtain ⟨k, rfl⟩ : ∃ k : Nat, size = k := ⟨size.toNat, hs⟩
    obtain ⟨p, hp⟩ : ∃ p : Nat, p = 2 ^ k := ⟨_, rfl⟩
    have hw := wrap_pow (n := k) (by omega)
    have hp16 := pow16 (n := k) (by omega)
    rw [← hp] at hw hp16
    clear hp hs
    have hd : decide (0 ≤ n) = false := by simp; omega
    go_enter Try.func21, Try.ntmps21
    go_wp2_with (go_at_call 61; refine (within_any _ _ _ _).mono ?_; rintro e w' ⟨rfl, rfl⟩)
    go_ret
    rw [hE.out]
    exact ⟨rfl, rfl⟩
  · have hE : Hid (numE n k = 3) := if_neg (by simp [h1])
    have hw := wrap_pow hk
    have hp16 := pow16 hk
    rw [← hp] at hw hp16
    have h0 : 0 ≤ n := by omega
    clear hp h1
    have hd : decide (n ≤ (p : Int) - 1) = false := by simp; omega
    go_enter Try.func21, Try.ntmps21
    go_wp2_with (go_at_call 61; refine (within_any _ _ _ _).mono ?_; rintro e w' ⟨rfl, rfl⟩)
    go_ret
    rw [hE.out]
    exact ⟨rfl, rfl⟩

/-- 'string([]byte{c})'. -/
theorem run_string_one {P : Program} {w : World} {src e dst : TypeId} {g : Nat} {c : Int} (hs : P.underlying src = some (.slice e)) (he : P.underlying e = some (.int .u8)) (hd : P.underlying dst = some .string)
    (h : w.cell? ⟨g, 0, none⟩ = some (.int .u8 c)) :
    (convert src dst (.slice (some ⟨g, 0, none⟩) 1 1)).run P w = .ok (.string (str [UInt8.ofNat c.toNat])) w := by
  rw [run_convert_bytes_arg (P := P) w src e hs he g 0 1 1 [c] rfl (fun i hi => by obtain rfl : i = 0 := by omega
                                                                                   simpa using h) dst hd]
  rfl

theorem cell_after1 {w W w1 : World} {v : Value} {t : TypeId} (hb : Below W.heap.size W w1) (hW : W = (w.alloc (.cells #[v] t)).drew) : w1.cell? ⟨w.heap.size, 0, none⟩ = some v := by
  subst hW
  exact (hb.cell (p := ⟨w.heap.size, 0, none⟩) (by simp)).trans (by simp)

theorem refNumber_wraps (k n : Nat) (hk : k + 1 ≤ 16) (hn : n < 65536) : IntKind.i64.wrap ((n : Int) / 2) = ((n / 2 : Nat) : Int) ∧ IntKind.i64.wrap (k : Int) = (k : Int) ∧
    IntKind.u8.wrap (48 + IntKind.u8.wrap ((n : Int).tmod 2)) = ((48 + n % 2 : Nat) : Int) := by
  refine ⟨?_, ?_, ?_⟩
  · rw [IntKind.wrap_i64]; omega
  · rw [IntKind.wrap_i64]; omega
  · rw [show (n : Int).tmod 2 = ((n % 2 : Nat) : Int) by rw [Int.tmod_eq_emod_of_nonneg (by omega)]; omega]
    simp only [IntKind.wrap, IntKind.signed, IntKind.bits]
    simp
    omega

set_option maxRecDepth 100000 in
set_option maxHeartbeats 400000 in
theorem refNumber_any (size : Nat) : ∀ (n : Nat) (w : World), size ≤ 16 → n < 65536 → 
    Calls Try.prog 22 #[.int .i64 n, .int .i64 size] w fun e w' => e = .returned (.string (str (numBits n size))) ∧ Below w.heap.size w w' := by
  induction size with
  | zero =>
    intro n w _ _
    go_enter Try.func22, Try.ntmps22
    go_wp2
    go_ret
    exact ⟨rfl, Below.refl _ _⟩
  | succ k ih =>
    intro n w hk hn
    have IH := hide ih; clear ih
    have hcv := fun (wx : World) (g : Nat) (c : Int) => @run_string_one Try.prog wx _ _ _ g c Try.underlying79 Try.underlying5 Try.underlying9
    obtain ⟨hw1, hw2, hw3⟩ := refNumber_wraps k n hk hn
    obtain ⟨c, hc⟩ : ∃ c : Nat, c = 48 + n % 2 := ⟨_, rfl⟩
    obtain ⟨m, hm⟩ : ∃ m : Nat, m = n / 2 := ⟨_, rfl⟩
    rw [← hc] at hw3
    rw [← hm] at hw1
    have hfin : numBits n (k + 1) = numBits m k ++ [UInt8.ofNat c] := by rw [hc, hm]; rfl
    have hm' : m < 65536 := by omega
    have HF := hide hfin; clear hfin hc hm
    have hs1 : (str (numBits m k)).size = k := by rw [str_size, numBits_length]
    have hs2 : (str [UInt8.ofNat c]).size = 1 := by rw [str_size]; rfl
    have hs3 : ¬ 9223372036854775807 < k + 1 := by omega
    go_enter Try.func22, Try.ntmps22
    go_wp2
    go_region_with (go_at_call 22; refine (IH.out m _ (by omega) hm').mono ?_; rintro e w' ⟨rfl, hb⟩; try (have hcx := cell_after1 (w := w) (v := .int .u8 c) (t := 5) hb rfl))
    all_goals go_wp2
    all_goals go_ret
    all_goals refine ⟨congrArg (fun l => Ending.returned (.string (str l))) HF.out.symm, ?_⟩
    · exact ((Below.drew (Below.refl _ _)).trans hb).alloc hb.size _
    · exact (((Below.refl _ w).alloc (Nat.le_refl _) _).drew).trans (hb.mono (by simp))
    · exact (((Below.refl _ w).alloc (Nat.le_refl _) _).drew).trans (hb.mono (by simp))

end Go.Proofs.Ytolcndchfnifhaa
