/- Part 1. -/
set_option linter.unusedVariables false
namespace Go.Proofs.YtfjeonehdlphiaaGreatDoor
theorem oM {P:Prop} (h:P:=by omega):P:=h
theorem dD {P:Prop} (h:P:=by decide):P:=h
theorem sO {P:Prop} (h:P:=by simp;omega):P:=h
theorem sS {P:Prop} (h:P:=by simp):P:=h
theorem rR {P:Prop} (h:P:=by rfl):P:=h
theorem eX {α:Type _} (a:α):∃x,a=x:=⟨_,rfl⟩
structure Hd (p:Prop):Prop where
 o:p
theorem qH {p:Prop} (h:p):Hd p:=⟨h⟩
theorem lS {α:Type _} {a:Array α} {i:Nat} {x:α} (h:a[i]?=some x):i<a.size:=(Array.getElem?_eq_some_iff.1 h).1
end Go.Proofs.YtfjeonehdlphiaaGreatDoor
