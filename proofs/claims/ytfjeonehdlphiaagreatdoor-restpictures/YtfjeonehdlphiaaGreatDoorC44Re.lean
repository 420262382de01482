/- Re: part 44 of what the proofs need. -/
import Derived.Test.YtfjeonehdlphiaaGreatDoorC16Re
import Derived.Test.YtfjeonehdlphiaaGreatDoorC43Re
import Derived.LaidSub
set_option linter.unusedVariables false
namespace Go.Proofs.YtfjeonehdlphiaaGreatDoor
open Go.RowKit Go.ChangeShapes
def relay (cs:Array Value):Obj→Obj
 | .cells _ t frozen=>.cells cs t frozen
 | o=>o
end Go.Proofs.YtfjeonehdlphiaaGreatDoor
