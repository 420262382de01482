/- Part 2. -/
import Derived.IntWalk
import Derived.Lib.Builder
open Go.Lib renaming frozen_of_heap → ka
set_option linter.unusedVariables false
namespace Go.Proofs.YtfjeonehdlphiaaGreatDoor
open Go
theorem kR {P:Prop} (h:P:=by kernel_rfl):P:=h
theorem gN {P:Prop} (h:P:=by go_num):P:=h
theorem uO {P:Prop} (h:P:=by unfold maxLen;omega):P:=h
theorem fZ {w:World} {b:Nat} {a:Array Value} {T:TypeId} (h:w.heap[b]?=some (.cells a T (0,0))):w.frozen? ⟨b,0,none⟩=false/\w.frozen? ⟨b,1,none⟩=false/\w.frozen? ⟨b,2,none⟩=false:=⟨ka h 0,ka h 1,ka h 2⟩
end Go.Proofs.YtfjeonehdlphiaaGreatDoor
