/- Part 7. -/
import Derived.Test.YtfjeonehdlphiaaGreatDoorC3Sd
import Derived.Test.YtfjeonehdlphiaaGreatDoorC6Sd
set_option linter.unusedVariables false
namespace Go.Proofs.YtfjeonehdlphiaaGreatDoor
open Go.RowKit
theorem yA {P:Program} {id l n f:Nat} {b:Array Oper} {S:World->Prop} {Q:Exit->Act->World->Prop} {a:Act} {w:World} (d:P.follows .mixedOrders=true) (c:nF b) (e:¬LetsOut Q)
  (h:de P .any b Q S f b.size (Array.replicate b.size false) a { w with drawn:=w.drawn+1 }):(Code.region id b true).wpIn (Fence.wide.inRound l) n P Q a w :=
 wpIn_region_any d (yz c e _ _ _ _ (tm _ _ _ _ h))
end Go.Proofs.YtfjeonehdlphiaaGreatDoor
