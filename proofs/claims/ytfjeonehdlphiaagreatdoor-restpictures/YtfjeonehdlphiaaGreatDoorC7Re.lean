/- Re: part 7 of what the proofs need. -/
import Derived.Test.YtfjeonehdlphiaaGreatDoorC5Re
import Derived.Test.YtfjeonehdlphiaaGreatDoorC6Re
set_option linter.unusedVariables false
namespace Go.Proofs.YtfjeonehdlphiaaGreatDoor
open Go.RowKit
theorem qXaV {P:Program} {id l n f:Nat} {ops:Array Oper} {S:World→Prop} {Q:Exit→Act→World→Prop} {a:Act} {w:World} (hm:P.follows .mixedOrders=true) (hd:jj84 ops) (hno:¬LetsOut Q)
  (h:jZdv P .any ops Q S f ops.size (Array.replicate ops.size false) a { w with drawn:=w.drawn+1 }):(Code.region id ops true).wpIn (Fence.wide.inRound l) n P Q a w :=
 wpIn_region_any hm (qklz hd hno _ _ _ _ (XQUN _ _ _ _ h))
end Go.Proofs.YtfjeonehdlphiaaGreatDoor
