/- How arrays of four, and of three, numbers that came in are held. -/
import Derived.Test.YtolcndchfnifhaaArrOpen
import Derived.Test.YtolcndchfnifhaaSensorArr
namespace Go.Proofs.Ytolcndchfnifhaa
open Go.RowKit Go.ChangeShapes

theorem four_open {P : Program} {H : Type} {enc : TypeId × Value → H} {W : World} {base b0 : Nat} {spare : Nat → Bool} {held : Bool} {r : Reach} {t e : TypeId} {v : Value} {d : DataW H} {p : List MemPlace}
    (ht : P.underlying t = some (.array 4 e)) (he : P.underlying e = some (.int .i64)) (ce : P.cellsOf e = 1) (ct : P.cellsOf t = 4) (hv : Value.okWide P W r b0 t v) (h : DataW.Trod enc P W base spare held t v d p) :
    ∃ m : Nat → Int, v = .agg (fourA m) := by
  obtain ⟨m, rfl⟩ := arr_open ht he ce ct hv h
  exact ⟨m, rfl⟩

theorem three_open {P : Program} {H : Type} {enc : TypeId × Value → H} {W : World} {base b0 : Nat} {spare : Nat → Bool} {held : Bool} {r : Reach} {t e : TypeId} {v : Value} {d : DataW H} {p : List MemPlace}
    (ht : P.underlying t = some (.array 3 e)) (he : P.underlying e = some (.int .i64)) (ce : P.cellsOf e = 1) (ct : P.cellsOf t = 3) (hv : Value.okWide P W r b0 t v) (h : DataW.Trod enc P W base spare held t v d p) :
    ∃ m : Nat → Int, v = .agg (threeA m) := by
  obtain ⟨m, rfl⟩ := arr_open ht he ce ct hv h
  exact ⟨m, rfl⟩

end Go.Proofs.Ytolcndchfnifhaa
