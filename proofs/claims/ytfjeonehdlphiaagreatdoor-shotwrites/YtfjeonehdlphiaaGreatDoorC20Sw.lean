/- Sw: part 20 of what the proofs need. -/
import Derived.Test.YtfjeonehdlphiaaGreatDoorC3Sw
import Derived.ProofKit
import Derived.OpenShut
set_option linter.unusedVariables false
namespace Go.Proofs.YtfjeonehdlphiaaGreatDoor
open Go.RowKit Go.ChangeShapes
theorem jWjT {α:Type} (P:Nat→α→Prop) (n:Nat) (h:∀i,i<n→∃p,P i p) (d:α):∃ls:List α,ls.length=n∧∀i,i<n→P i (ls.getD i d):=by
 induction n with
 | zero=>exact ⟨[],rfl,fun i hi=>by omega⟩
 | succ n ih =>
  obtain ⟨ls,hl,hp⟩:=ih (fun i hi=>h i (by omega))
  obtain ⟨p,hp'⟩:=h n (by omega)
  refine ⟨ls++[p],by simp[hl],fun i hi=>?_⟩
  rcases Nat.eq_or_lt_of_le (show i≤n by omega) with e|hlt
  ·subst e
   rw[List.getD_eq_getElem?_getD,List.getElem?_append_right (by omega),hl]
   simpa using hp'
  ·rw[List.getD_eq_getElem?_getD,List.getElem?_append_left (by omega),←List.getD_eq_getElem?_getD]
   exact hp i hlt
end Go.Proofs.YtfjeonehdlphiaaGreatDoor
