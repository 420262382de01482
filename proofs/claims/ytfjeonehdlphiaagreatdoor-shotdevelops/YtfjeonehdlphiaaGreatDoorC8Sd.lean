/- Part 8. -/
import Derived.Test.YtfjeonehdlphiaaGreatDoorC4Sd
import Derived.Test.YtfjeonehdlphiaaGreatDoorC7Sd
set_option linter.unusedVariables false
namespace Go.Proofs.YtfjeonehdlphiaaGreatDoor
open Go Go.RowKit
theorem sC {P:Program} {id l n B:Nat} {b:Array Oper} {S:World->Prop} {Q:Exit->Act->World->Prop} {a:Act} {w U:World} (f:Nat) (i:∀v,Below B U v->S v) (h:de P .any b Q S f (f+1) (Array.replicate (f+1) false) a w.drew)
  (e:b.size=f+1:=by rfl) (d:P.follows .mixedOrders=true:=by kernel_rfl) (c:nF b:=by exact vJ (by kernel_rfl)) (g:¬LetsOut Q:=by rintro ⟨_,_,h⟩;exact h):(Code.region id b true).wpIn (Fence.wide.inRound l) n P Q a w :=
 yA d c g (e ▸ h)
end Go.Proofs.YtfjeonehdlphiaaGreatDoor
