/- Re: part 43 of what the proofs need. -/
import Derived.Test.YtfjeonehdlphiaaGreatDoorC2Re
import Derived.Test.YtfjeonehdlphiaaGreatDoorC6Re
import Derived.Test.YtfjeonehdlphiaaGreatDoorC11Re
import Derived.Test.YtfjeonehdlphiaaGreatDoorC17Re
import Derived.Test.YtfjeonehdlphiaaGreatDoorC35Re
import Derived.Deep.CutBlock
import Derived.Lib.AppendIntMem
set_option linter.unusedVariables false
namespace Go.Proofs.YtfjeonehdlphiaaGreatDoor
open Go.RowKit
def PowAt (w:World):Prop:=1<w.heap.size∧Lib.TabIs Tryz.prog w "internal/strconv.uint64pow10" .u64 Lib.pow10Tab
theorem gPow:Tryz.prog.globalNamed "internal/strconv.uint64pow10" = some 1:=by kernel_rfl
theorem PowAt.below {w w':World} {B:Nat} (h:PowAt w) (hb:Below B w w') (hB:w.heap.size≤B):PowAt w':=by
 refine ⟨Nat.lt_of_lt_of_le h.1 hb.size,?_⟩
 have h2:=h.2
 unfold Lib.TabIs World.var? at *
 rw[gPow] at *
 simp only[Option.bind_some] at *
 rw[hb.block 1 (Nat.lt_of_lt_of_le h.1 hB)]
 exact h2
end Go.Proofs.YtfjeonehdlphiaaGreatDoor
