/- Part 6. -/
import Derived.Test.YtfjeonehdlphiaaGreatDoorC1Sd
import Derived.RangeFuncNested
import Derived.OrdersIn
import Derived.OrdersHeld
import Derived.Test.YtfjeonehdlphiaaGreatDoorProg
set_option linter.unusedVariables false
namespace Go.Proofs.YtfjeonehdlphiaaGreatDoor
open Go.RowKit
def nF (a:Array Oper):Prop:=∀(i:Nat) (o:Oper),a[i]?=some o->∀c,o.op≠.defer c
theorem Hi {P:Program} {o:Oper} {a:Act} {w:World} {K:Act->World->Prop} {Q:Exit->Act->World->Prop} {l n:Nat} (e:∀c,o.op≠.defer c)
  (h:o.wp P a w K Q):o.wpIn (Fence.wide.inRound l) n P a w K Q:=by
 unfold Oper.wp at h;unfold Oper.wpIn;refine ⟨fun _ _=>trivial,?_⟩;rw[Oper.semAt_eq _ _ _ e];generalize (execOp a.eval o).run P w=r at *;cases r with
 | ok x w' =>
  cases x<;>simp only[Oper.upon,Oper.uponIn] at h |-
  all_goals first
   | exact h
   | exact ⟨fun b=>by simp[Fence.wide,Fence.inRound] at b,CallsIn.inRound l (callsIn_wide.2 h)⟩
   | exact ⟨fun b=>by simp[Fence.wide,Fence.inRound] at b,fun c d _=>let ⟨v,w',r,s⟩:=h c d;⟨v,w',r,stepsIn_wide.2 s⟩⟩
   | exact h.elim
 | halt x w'=>cases x<;>simp only[Oper.upon,Oper.uponIn] at h |-<;>first|exact h|exact h.elim
theorem Hn {P:Program} {b:Array Oper} {a:Act} {w:World} {K:Act->World->Prop} {Q:Exit->Act->World->Prop} {l n i:Nat} (c:nF b) (d:¬LetsOut Q)
  (h:wpOp P b Q i K a w):wpOpIn (Fence.wide.inRound l) n P b Q i K a w:=by
 unfold wpOp at h;unfold wpOpIn;cases ho:b[i]? with
 | none=>simp only[ho] at h |-;exact h
 | some o =>
  simp only[ho] at h |-;split
  ·rename_i hw;rw[if_pos hw] at h;rcases h with h|h
   ·exact Hi (c i o ho) h
   ·exact absurd h.2 d
  ·rename_i hw;rw[if_neg hw] at h;exact ⟨fun _ _=>trivial,h⟩
theorem yz {P:Program} {g:Region.Mode} {c:Array Oper} {Q:Exit->Act->World->Prop} {l n:Nat} (d:nF c) (e:¬LetsOut Q) :
  ∀(b:Nat) (f:Array Bool) (a:Act) (w:World),wpAny P g c Q b f a w->wpAnyIn (Fence.wide.inRound l) n P g c Q b f a w
 | 0,_,_,_,h=>h
 | b+1,_,_,_,h=>⟨h.1,fun i m=>wpOpIn_mono (fun j w' k=>yz d e b _ j w' k) (Hn d e (h.2 i m))⟩
end Go.Proofs.YtfjeonehdlphiaaGreatDoor
