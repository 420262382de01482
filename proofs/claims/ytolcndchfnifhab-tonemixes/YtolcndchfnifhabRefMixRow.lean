/- The reference's Mixed: one pixel's row. -/
import Derived.Test.YtolcndchfnifhabRefBent
import Derived.Test.YtolcndchfnifhabMixAll
namespace Go.Proofs.Ytolcndchfnifhab
open Go.RowKit

theorem downQ (n : Int) (h0 : -8000000000 ≤ n) (h1 : n ≤ 8000000000) (w : World) : Calls Try.prog 78 #[.int .i64 n, .int .i64 4096] w fun e w' => e = .returned (.int .i64 (n / 4096)) ∧ w = w' := by
  have hf := down_facts n 4096 (by omega)
  have hr : n / 4096 = n / 4096 := rfl
  obtain ⟨q, hq⟩ : ∃ q, n.tdiv 4096 = q := ⟨_, rfl⟩
  rw [hq] at hf
  have hqb : -2000000 ≤ q ∧ q ≤ 2000000 := by omega
  obtain ⟨hq1, hq2⟩ := hqb
  rcases hf with ⟨ht, he⟩ | ⟨ht, he⟩
  · have hd : decide (n < q * 4096) = true := by simpa using ht
    have HE := hide he
    clear ht he hr
    go_enter Try.func78, Try.ntmps78
    go_wp2
    go_ret
    exact ⟨ret_int HE.out, rfl⟩
  · have hd : decide (n < q * 4096) = false := by simpa using ht
    have HE := hide he
    clear ht he hr
    go_enter Try.func78, Try.ntmps78
    go_wp2
    go_ret
    exact ⟨ret_int HE.out, rfl⟩

end Go.Proofs.Ytolcndchfnifhab
