/- diff.isKind. -/
import Derived.Test.YtolcndchfnifhaaBase
import Derived.Test.YtolcndchfnifhaaSmall
namespace Go.Proofs.Ytolcndchfnifhaa
open Go.RowKit

theorem isKind_any (n : Int) (w : World) : Calls Try.prog 78 #[.int .i64 n] w fun e w' => e = .returned (.bool (kindOk n)) ∧ w = w' := by
  by_cases h1 : 1 ≤ n
  all_goals by_cases h2 : n ≤ 7
  all_goals
    go_enter Try.func78, Try.ntmps78
    go_wp2
    go_ret
    exact ⟨ret_bool (by simp [kindOk, h1, h2]), rfl⟩

end Go.Proofs.Ytolcndchfnifhaa
