/- How an array of numbers that came in is held. -/
import Derived.Test.YtolcndchfnifhaaLiftPts
import Derived.OpenShut
namespace Go.Proofs.Ytolcndchfnifhaa
open Go.RowKit Go.ChangeShapes

theorem arr_open {P : Program} {H : Type} {enc : TypeId × Value → H} {W : World} {base b0 : Nat} {spare : Nat → Bool} {held : Bool} {r : Reach} {t e : TypeId} {n : Nat} {v : Value} {d : DataW H} {p : List MemPlace}
    (ht : P.underlying t = some (.array n e)) (he : P.underlying e = some (.int .i64)) (ce : P.cellsOf e = 1) (ct : P.cellsOf t = n) (hv : Value.okWide P W r b0 t v) (h : DataW.Trod enc P W base spare held t v d p) :
    ∃ m : Nat → Int, v = .agg ((List.range n).map fun k => Value.int .i64 (m k)).toArray := by
  obtain ⟨cs, rfl, hsz, _⟩ : ∃ cs, v = .agg cs ∧ cs.size = P.cellsOf t ∧ Row.okWide P W r b0 t cs := by
    simpa [Value.okWide, ht] using hv
  rw [ct] at hsz
  obtain ⟨fuel, hf⟩ := h
  obtain ⟨xs, m, _, _, _, hl, hel⟩ := DataW.trod_array ht hf
  have each : ∀ i, i < n → ∃ z : Int, cs[i]? = some (.int .i64 z) := by
    intro i hi
    have hE := hel i hi
    rw [ce, Nat.mul_one, List.getElem?_eq_getElem (by omega)] at hE
    obtain ⟨z, e1, _, _⟩ := DataW.trod_int he hE
    refine ⟨z, ?_⟩
    have h0 : (((Value.cells (.agg cs)).toList.drop i).take 1)[0]? = some (.int .i64 z) := by rw [e1]; rfl
    simpa [Value.cells] using h0
  obtain ⟨ls, hll, hls⟩ := list_of _ n each 0
  refine ⟨fun k => ls.getD k 0, ?_⟩
  congr 1
  apply Array.ext_getElem?
  intro i
  by_cases hi : i < n
  · rw [hls i hi]
    simp [hi]
  · rw [Array.getElem?_eq_none (by omega)]
    simp [hi]

end Go.Proofs.Ytolcndchfnifhaa
