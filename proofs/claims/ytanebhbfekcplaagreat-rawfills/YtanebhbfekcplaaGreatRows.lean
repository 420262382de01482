/-
  No cell of these rows narrows 'for every input' (looked for: loops, veiled, ifaces, maps, wideKeys, modest, calm, conditions, laid).
  DERIVED. THE GIVEN ROWS OF THIS SEAT. 4 by the template 'for every input the law returns true; each argument reads behind the call as it read before'; 0 by the template 'total and deterministic' (their statements: YtanebhbfekcplaaGreatTotals.lean).
  GIVEN WITH THE SEED: the statements are not yours to turn. If you find one false, say at which input.
  Laid BY PROGRAM, IN A SANDBOX (cutbox-rows.mjs): the forced cells as the released guide's own fill.sh prints them over the translation 8935aa6dfb22a30f… (all of the seat's roots in one cut). By AI agents, Wed Nov 11 2026. No macro, syntax, notation, axiom, sorry.
-/
import Derived.Test.YtanebhbfekcplaaGreatChecked
import GoSem.Claim
import GoSem.ClaimJoined
import GoSem.ClaimMapViews
import Derived.JoinedTies
import Derived.KernelRfl
namespace Go.Proofs.YtanebhbfekcplaaGreat
/- THE CELL 'sum', in the pinned program and in every row, IS THE sha256 OF THE DUMP (.gsa) THAT YtanebhbfekcplaaGreatProg.lean LOADS. Nothing in Lean hashes anything: it is a label: what it is worth is what the hold of that sum in a sandbox is worth. -/
noncomputable def Tryz.pinned : Pinned := { name := "ytanebhbfekcplaagreat", sum := "8935aa6dfb22a30fd445c03d94be817e102cdc56014cec13105099518f3fdc55", checked := Tryz.checked }
namespace Rows
def none {H : Type} : Left H := { results := [], args := [] }

/-- 'darkslidelaw.RawPlanes': WHATEVER THE INPUT: true; the input reads as it did. -/
def rawPlanesSpec : ChangeSpec := { name := "rawPlanes", fn := fun _ => fun
  | [d] => { results := [.lit (.bool true)], args := [d] }
  | _ => none }
def rawPlanesRow : OpenClaim := { program := "ytanebhbfekcplaagreat", sum := "8935aa6dfb22a30fd445c03d94be817e102cdc56014cec13105099518f3fdc55", func := "darkslide/darkslidelaw.RawPlanes", spec := "rawPlanes", inPlace := ["internal/abi.NoEscape", "internal/bytealg.MakeNoZero", "internal/bytealg.IndexByteString", "internal/bytealg.IndexString"], unfollowed := true, recurses := true, named := ["internal/bytealg.MaxLen"], apart := false }
def RawPlanesSaid : Prop := rawPlanesRow.holds Tryz.pinned (OpenSpec.ofChange rawPlanesSpec)

/-- ITS FALSE NEIGHBOUR: 'it returns false'. Refute it at one input. -/
def rawPlanesWrong : ChangeSpec := { name := "rawPlanes", fn := fun _ => fun
  | [d] => { results := [.lit (.bool false)], args := [d] }
  | _ => none }
def RawPlanesWrongFalsely : Prop := rawPlanesRow.holds Tryz.pinned (OpenSpec.ofChange rawPlanesWrong)

/-- 'darkslidelaw.RawFills': WHATEVER THE INPUT: true; the input reads as it did. -/
def rawFillsSpec : ChangeSpec := { name := "rawFills", fn := fun _ => fun
  | [d1, d2] => { results := [.lit (.bool true)], args := [d1, d2] }
  | _ => none }
def rawFillsRow : OpenClaim := { program := "ytanebhbfekcplaagreat", sum := "8935aa6dfb22a30fd445c03d94be817e102cdc56014cec13105099518f3fdc55", func := "darkslide/darkslidelaw.RawFills", spec := "rawFills", inPlace := ["internal/abi.NoEscape", "internal/bytealg.MakeNoZero", "internal/bytealg.IndexByteString", "internal/bytealg.IndexString"], unfollowed := true, recurses := true, named := ["internal/bytealg.MaxLen"], apart := false }
def RawFillsSaid : Prop := rawFillsRow.holds Tryz.pinned (OpenSpec.ofChange rawFillsSpec)

/-- ITS FALSE NEIGHBOUR: 'it returns false'. Refute it at one input. -/
def rawFillsWrong : ChangeSpec := { name := "rawFills", fn := fun _ => fun
  | [d1, d2] => { results := [.lit (.bool false)], args := [d1, d2] }
  | _ => none }
def RawFillsWrongFalsely : Prop := rawFillsRow.holds Tryz.pinned (OpenSpec.ofChange rawFillsWrong)

/-- 'darkslidelaw.RawWrites': WHATEVER THE INPUT: true; the input reads as it did. -/
def rawWritesSpec : ChangeSpec := { name := "rawWrites", fn := fun _ => fun
  | [d1, d2] => { results := [.lit (.bool true)], args := [d1, d2] }
  | _ => none }
def rawWritesRow : OpenClaim := { program := "ytanebhbfekcplaagreat", sum := "8935aa6dfb22a30fd445c03d94be817e102cdc56014cec13105099518f3fdc55", func := "darkslide/darkslidelaw.RawWrites", spec := "rawWrites", inPlace := ["internal/abi.NoEscape", "internal/bytealg.MakeNoZero", "internal/bytealg.IndexByteString", "internal/bytealg.IndexString"], unfollowed := true, recurses := true, named := ["internal/bytealg.MaxLen"], apart := false }
def RawWritesSaid : Prop := rawWritesRow.holds Tryz.pinned (OpenSpec.ofChange rawWritesSpec)

/-- ITS FALSE NEIGHBOUR: 'it returns false'. Refute it at one input. -/
def rawWritesWrong : ChangeSpec := { name := "rawWrites", fn := fun _ => fun
  | [d1, d2] => { results := [.lit (.bool false)], args := [d1, d2] }
  | _ => none }
def RawWritesWrongFalsely : Prop := rawWritesRow.holds Tryz.pinned (OpenSpec.ofChange rawWritesWrong)

/-- 'darkslidelaw.RawBack': WHATEVER THE INPUT: true; the input reads as it did. -/
def rawBackSpec : ChangeSpec := { name := "rawBack", fn := fun _ => fun
  | [d1, d2, d3] => { results := [.lit (.bool true)], args := [d1, d2, d3] }
  | _ => none }
def rawBackRow : OpenClaim := { program := "ytanebhbfekcplaagreat", sum := "8935aa6dfb22a30fd445c03d94be817e102cdc56014cec13105099518f3fdc55", func := "darkslide/darkslidelaw.RawBack", spec := "rawBack", inPlace := ["internal/abi.NoEscape", "internal/bytealg.MakeNoZero", "internal/bytealg.IndexByteString", "internal/bytealg.IndexString"], unfollowed := true, recurses := true, named := ["internal/bytealg.MaxLen"], apart := false }
def RawBackSaid : Prop := rawBackRow.holds Tryz.pinned (OpenSpec.ofChange rawBackSpec)

/-- ITS FALSE NEIGHBOUR: 'it returns false'. Refute it at one input. -/
def rawBackWrong : ChangeSpec := { name := "rawBack", fn := fun _ => fun
  | [d1, d2, d3] => { results := [.lit (.bool false)], args := [d1, d2, d3] }
  | _ => none }
def RawBackWrongFalsely : Prop := rawBackRow.holds Tryz.pinned (OpenSpec.ofChange rawBackWrong)

/- THE SECOND FORM. 'bulk': how many values and letters a reading holds, each counted each time it is reached (what is shared counts as often as it is met; a slice's spare places count too). A statement '..UptoSaid' is the law's where the arguments, and the package variables that the reading takes, are together of bulk at most 1048576: NARROWER than '..Said'. Prove '..Said' where nothing that the law and all that it calls make is longer than what came in: it says more and counts as full. Else prove '..UptoSaid'. A law counts once. -/
mutual
def uptoBulk {H : Type} : DataW H → Nat
  | .lit (.string bytes) => bytes.length + 1
  | .lit _ => 1
  | .nil => 1
  | .ptr d => uptoBulk d + 1
  | .slice elems spare => uptoBulkAll elems + uptoBulkAll spare + 1
  | .agg parts => uptoBulkAll parts + 1
  | .iface _ d => uptoBulk d + 1
  | .map entries => uptoBulkEntries entries + 1
  | .held _ => 1
def uptoBulkAll {H : Type} : List (DataW H) → Nat
  | [] => 0
  | d :: r => uptoBulk d + uptoBulkAll r
def uptoBulkEntries {H : Type} : List (Lit × DataW H) → Nat
  | [] => 0
  | x :: r => uptoBulkEntry x + uptoBulkEntries r
def uptoBulkEntry {H : Type} : Lit × DataW H → Nat
  | (.string bytes, d) => bytes.length + uptoBulk d + 1
  | (_, d) => uptoBulk d + 1
 end
def uptoSmall : (H : Type) → List (DataW H) → Bool := fun _ ds => decide (uptoBulkAll ds ≤ 1048576)
def OpenSpec.upto (s : _root_.Go.ChangeSpec) : _root_.Go.OpenSpec := { _root_.Go.OpenSpec.ofChange s with cond := some uptoSmall }

/-- 'darkslidelaw.RawPlanes', WHERE WHAT IT READS IS OF BULK AT MOST 1048576: true; the input reads as it did. -/
def rawPlanesUptoRow : OpenClaim := { program := "ytanebhbfekcplaagreat", sum := "8935aa6dfb22a30fd445c03d94be817e102cdc56014cec13105099518f3fdc55", func := "darkslide/darkslidelaw.RawPlanes", spec := "rawPlanes", inPlace := ["internal/abi.NoEscape", "internal/bytealg.MakeNoZero", "internal/bytealg.IndexByteString", "internal/bytealg.IndexString"], unfollowed := true, recurses := true, named := ["internal/bytealg.MaxLen"], apart := false, narrowed := true }
def RawPlanesUptoSaid : Prop := rawPlanesUptoRow.holds Tryz.pinned (OpenSpec.upto rawPlanesSpec)

/-- 'darkslidelaw.RawFills', WHERE WHAT IT READS IS OF BULK AT MOST 1048576: true; the input reads as it did. -/
def rawFillsUptoRow : OpenClaim := { program := "ytanebhbfekcplaagreat", sum := "8935aa6dfb22a30fd445c03d94be817e102cdc56014cec13105099518f3fdc55", func := "darkslide/darkslidelaw.RawFills", spec := "rawFills", inPlace := ["internal/abi.NoEscape", "internal/bytealg.MakeNoZero", "internal/bytealg.IndexByteString", "internal/bytealg.IndexString"], unfollowed := true, recurses := true, named := ["internal/bytealg.MaxLen"], apart := false, narrowed := true }
def RawFillsUptoSaid : Prop := rawFillsUptoRow.holds Tryz.pinned (OpenSpec.upto rawFillsSpec)

/-- 'darkslidelaw.RawWrites', WHERE WHAT IT READS IS OF BULK AT MOST 1048576: true; the input reads as it did. -/
def rawWritesUptoRow : OpenClaim := { program := "ytanebhbfekcplaagreat", sum := "8935aa6dfb22a30fd445c03d94be817e102cdc56014cec13105099518f3fdc55", func := "darkslide/darkslidelaw.RawWrites", spec := "rawWrites", inPlace := ["internal/abi.NoEscape", "internal/bytealg.MakeNoZero", "internal/bytealg.IndexByteString", "internal/bytealg.IndexString"], unfollowed := true, recurses := true, named := ["internal/bytealg.MaxLen"], apart := false, narrowed := true }
def RawWritesUptoSaid : Prop := rawWritesUptoRow.holds Tryz.pinned (OpenSpec.upto rawWritesSpec)

/-- 'darkslidelaw.RawBack', WHERE WHAT IT READS IS OF BULK AT MOST 1048576: true; the input reads as it did. -/
def rawBackUptoRow : OpenClaim := { program := "ytanebhbfekcplaagreat", sum := "8935aa6dfb22a30fd445c03d94be817e102cdc56014cec13105099518f3fdc55", func := "darkslide/darkslidelaw.RawBack", spec := "rawBack", inPlace := ["internal/abi.NoEscape", "internal/bytealg.MakeNoZero", "internal/bytealg.IndexByteString", "internal/bytealg.IndexString"], unfollowed := true, recurses := true, named := ["internal/bytealg.MaxLen"], apart := false, narrowed := true }
def RawBackUptoSaid : Prop := rawBackUptoRow.holds Tryz.pinned (OpenSpec.upto rawBackSpec)

end Rows
end Go.Proofs.YtanebhbfekcplaaGreat
