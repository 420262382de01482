/- Part 43. -/
import Derived.Test.YtfjeonehdlphiaaGreatDoorC29Sd
import Derived.Test.YtfjeonehdlphiaaGreatDoorC38Sd
import Derived.LaidSub
open Go.Value renaming int → Z
set_option linter.unusedVariables false
namespace Go.Proofs.YtfjeonehdlphiaaGreatDoor
open _root_.Go.Proofs.Tryz
open Go.RowKit Go.ChangeShapes
theorem D9 {W:World} (h:laidMet prog [("internal/strconv.uint64pow10",Rows.laid_internal_strconv_uint64pow10)] W):dI W:=by
 have a:=Lib.tabIs_of_head (P:=prog) (W:=W) (k:=.u64) (zs:=Lib.pow10Tab) (rest:=[]) (g:=1) (t:=268) (e:=258) (n:=20) rD kR underlying268 underlying258 kR kR h;exact ⟨World.block_lt_of_cell? W _ (a.cell rD 0 dD),a⟩
abbrev D8:Array Value:=(Lib.pow10Tab.map fun z=>Z .u64 z).toArray
abbrev zk:Array Value:=#[.int .u8 0,.int .u8 1,.int .u8 28,.int .u8 2,.int .u8 29,.int .u8 14,.int .u8 24,.int .u8 3,.int .u8 30,.int .u8 22,.int .u8 20,.int .u8 15,.int .u8 25,.int .u8 17,.int .u8 4,.int .u8 8,.int .u8 31,.int .u8 27,.int .u8 13,.int .u8 23,.int .u8 21,.int .u8 19,.int .u8 16,.int .u8 7,.int .u8 26,.int .u8 12,.int .u8 18,.int .u8 6,.int .u8 11,.int .u8 5,.int .u8 10,.int .u8 9]
abbrev zm:Array Value:=#[.int .u8 0,.int .u8 1,.int .u8 56,.int .u8 2,.int .u8 57,.int .u8 49,.int .u8 28,.int .u8 3,.int .u8 61,.int .u8 58,.int .u8 42,.int .u8 50,.int .u8 38,.int .u8 29,.int .u8 17,.int .u8 4,.int .u8 62,.int .u8 47,.int .u8 59,.int .u8 36,.int .u8 45,.int .u8 43,.int .u8 51,.int .u8 22,.int .u8 53,.int .u8 39,.int .u8 33,.int .u8 30,.int .u8 24,.int .u8 18,.int .u8 12,.int .u8 5,.int .u8 63,.int .u8 55,.int .u8 48,.int .u8 27,.int .u8 60,.int .u8 41,.int .u8 37,.int .u8 16,.int .u8 46,.int .u8 35,.int .u8 44,.int .u8 21,.int .u8 52,.int .u8 32,.int .u8 23,.int .u8 11,.int .u8 54,.int .u8 26,.int .u8 40,.int .u8 15,.int .u8 34,.int .u8 20,.int .u8 31,.int .u8 10,.int .u8 25,.int .u8 14,.int .u8 19,.int .u8 9,.int .u8 13,.int .u8 8,.int .u8 7,.int .u8 6]
def qr (a:Array Value):Obj->Obj
 | .cells _ t frozen=>.cells a t frozen
 | o=>o
end Go.Proofs.YtfjeonehdlphiaaGreatDoor
