/-
  NARROWER THAN 'FOR EVERY INPUT', by the rows' own cells (each row's printed sentence says how): TurnCuts: laid · TurnTurns: laid · TurnBack: laid.
  DERIVED. THE GIVEN ROWS OF THIS SEAT. 3 by the template 'for every input the law returns true; each argument reads behind the call as it read before'; 0 by the template 'total and deterministic' (their statements: YtolcndchfnifhacDoorTotals.lean).
  GIVEN WITH THE SEED: the statements are not yours to turn. If you find one false, say at which input.
  Laid BY PROGRAM, IN A SANDBOX (cutbox-rows.mjs): the forced cells as the released guide's own fill.sh prints them over the translation 5b0c3eb9b4ee2a8b… (all of the seat's roots in one cut). By AI agents, Wed Nov 11 2026. No macro, syntax, notation, axiom, sorry.
-/
import Derived.Test.YtolcndchfnifhacDoorChecked
import GoSem.Claim
import GoSem.ClaimJoined
import GoSem.ClaimMapViews
import Derived.JoinedTies
import Derived.KernelRfl
namespace Go.Proofs.YtolcndchfnifhacDoor
/- THE CELL 'sum', in the pinned program and in every row, IS THE sha256 OF THE DUMP (.gsa) THAT YtolcndchfnifhacDoorProg.lean LOADS. Nothing in Lean hashes anything: it is a label: what it is worth is what the hold of that sum in a sandbox is worth. -/
noncomputable def Tryd.pinned : Pinned := { name := "ytolcndchfnifhacdoor", sum := "5b0c3eb9b4ee2a8b1729397b30542fb6bc4cd7c8a36ff660d0469244f082ab2b", checked := Tryd.checked }
namespace Rows
def none {H : Type} : Left H := { results := [], args := [] }

/- WHAT THE LISTED PACKAGE-LEVEL VARIABLES READ AS WHEN THE CALL BEGINS. Each datum BY PROGRAM (the guide's laid-datum.mjs) off the statement by which the dump's own 'gosem.cut.vars' lays the variable. In a bare row this is a premise. The card (YtolcndchfnifhacDoorCards.lean) ties it to the program's text. -/
def laid_darkslide_turn_moves {H : Type} : DataW H := .agg [.agg [.lit (.bool false), .lit (.bool false), .lit (.bool false)], .agg [.lit (.bool false), .lit (.bool true), .lit (.bool false)], .agg [.lit (.bool false), .lit (.bool true), .lit (.bool true)], .agg [.lit (.bool false), .lit (.bool false), .lit (.bool true)], .agg [.lit (.bool true), .lit (.bool false), .lit (.bool false)], .agg [.lit (.bool true), .lit (.bool false), .lit (.bool true)], .agg [.lit (.bool true), .lit (.bool true), .lit (.bool true)], .agg [.lit (.bool true), .lit (.bool true), .lit (.bool false)]]

/-- 'darkslidelaw.TurnCuts': WHATEVER THE INPUT: true; the input reads as it did. -/
def turnCutsSpec : ChangeSpec := { name := "turnCuts", fn := fun _ => fun
  | [d1, d2] => { results := [.lit (.bool true)], args := [d1, d2] }
  | _ => none }
def turnCutsRow : OpenClaim := { program := "ytolcndchfnifhacdoor", sum := "5b0c3eb9b4ee2a8b1729397b30542fb6bc4cd7c8a36ff660d0469244f082ab2b", func := "darkslide/darkslidelaw.TurnCuts", spec := "turnCuts", unfollowed := true, recurses := true, named := ["darkslide/turn.moves"], apart := false, laid := [("darkslide/turn.moves", laid_darkslide_turn_moves)] }
def TurnCutsSaid : Prop := turnCutsRow.holds Tryd.pinned (OpenSpec.ofChange turnCutsSpec)

/-- ITS FALSE NEIGHBOUR: 'it returns false'. Refute it at one input. -/
def turnCutsWrong : ChangeSpec := { name := "turnCuts", fn := fun _ => fun
  | [d1, d2] => { results := [.lit (.bool false)], args := [d1, d2] }
  | _ => none }
def TurnCutsWrongFalsely : Prop := turnCutsRow.holds Tryd.pinned (OpenSpec.ofChange turnCutsWrong)

/-- 'darkslidelaw.TurnTurns': WHATEVER THE INPUT: true; the input reads as it did. -/
def turnTurnsSpec : ChangeSpec := { name := "turnTurns", fn := fun _ => fun
  | [d1, d2, d3] => { results := [.lit (.bool true)], args := [d1, d2, d3] }
  | _ => none }
def turnTurnsRow : OpenClaim := { program := "ytolcndchfnifhacdoor", sum := "5b0c3eb9b4ee2a8b1729397b30542fb6bc4cd7c8a36ff660d0469244f082ab2b", func := "darkslide/darkslidelaw.TurnTurns", spec := "turnTurns", unfollowed := true, recurses := true, named := ["darkslide/turn.moves"], apart := false, laid := [("darkslide/turn.moves", laid_darkslide_turn_moves)] }
def TurnTurnsSaid : Prop := turnTurnsRow.holds Tryd.pinned (OpenSpec.ofChange turnTurnsSpec)

/-- ITS FALSE NEIGHBOUR: 'it returns false'. Refute it at one input. -/
def turnTurnsWrong : ChangeSpec := { name := "turnTurns", fn := fun _ => fun
  | [d1, d2, d3] => { results := [.lit (.bool false)], args := [d1, d2, d3] }
  | _ => none }
def TurnTurnsWrongFalsely : Prop := turnTurnsRow.holds Tryd.pinned (OpenSpec.ofChange turnTurnsWrong)

/-- 'darkslidelaw.TurnBack': WHATEVER THE INPUT: true; the input reads as it did. -/
def turnBackSpec : ChangeSpec := { name := "turnBack", fn := fun _ => fun
  | [d1, d2, d3, d4] => { results := [.lit (.bool true)], args := [d1, d2, d3, d4] }
  | _ => none }
def turnBackRow : OpenClaim := { program := "ytolcndchfnifhacdoor", sum := "5b0c3eb9b4ee2a8b1729397b30542fb6bc4cd7c8a36ff660d0469244f082ab2b", func := "darkslide/darkslidelaw.TurnBack", spec := "turnBack", unfollowed := true, recurses := true, named := ["darkslide/turn.moves"], apart := false, laid := [("darkslide/turn.moves", laid_darkslide_turn_moves)] }
def TurnBackSaid : Prop := turnBackRow.holds Tryd.pinned (OpenSpec.ofChange turnBackSpec)

/-- ITS FALSE NEIGHBOUR: 'it returns false'. Refute it at one input. -/
def turnBackWrong : ChangeSpec := { name := "turnBack", fn := fun _ => fun
  | [d1, d2, d3, d4] => { results := [.lit (.bool false)], args := [d1, d2, d3, d4] }
  | _ => none }
def TurnBackWrongFalsely : Prop := turnBackRow.holds Tryd.pinned (OpenSpec.ofChange turnBackWrong)

/- THE SECOND FORM. 'bulk': how many values and letters a reading holds, each counted each time it is reached (what is shared counts as often as it is met; a slice's spare places count too). A statement '..UptoSaid' is the law's where the arguments, and the package variables that the reading takes, are together of bulk at most 1048576: NARROWER than '..Said'. Prove '..Said' where nothing that the law and all that it calls make is longer than what came in: it says more and counts as full. Else prove '..UptoSaid'. A law counts once. -/
mutual
def uptoBulk {H : Type} : DataW H → Nat
  | .lit (.string bytes) => bytes.length + 1
  | .lit _ => 1
  | .nil => 1
  | .ptr d => uptoBulk d + 1
  | .slice elems spare => uptoBulkAll elems + uptoBulkAll spare + 1
  | .agg parts => uptoBulkAll parts + 1
  | .iface _ d => uptoBulk d + 1
  | .map entries => uptoBulkEntries entries + 1
  | .held _ => 1
def uptoBulkAll {H : Type} : List (DataW H) → Nat
  | [] => 0
  | d :: r => uptoBulk d + uptoBulkAll r
def uptoBulkEntries {H : Type} : List (Lit × DataW H) → Nat
  | [] => 0
  | x :: r => uptoBulkEntry x + uptoBulkEntries r
def uptoBulkEntry {H : Type} : Lit × DataW H → Nat
  | (.string bytes, d) => bytes.length + uptoBulk d + 1
  | (_, d) => uptoBulk d + 1
 end
def uptoSmall : (H : Type) → List (DataW H) → Bool := fun _ ds => decide (uptoBulkAll ds ≤ 1048576)
def OpenSpec.upto (s : _root_.Go.ChangeSpec) : _root_.Go.OpenSpec := { _root_.Go.OpenSpec.ofChange s with cond := some uptoSmall }

/-- 'darkslidelaw.TurnCuts', WHERE WHAT IT READS IS OF BULK AT MOST 1048576: true; the input reads as it did. -/
def turnCutsUptoRow : OpenClaim := { program := "ytolcndchfnifhacdoor", sum := "5b0c3eb9b4ee2a8b1729397b30542fb6bc4cd7c8a36ff660d0469244f082ab2b", func := "darkslide/darkslidelaw.TurnCuts", spec := "turnCuts", unfollowed := true, recurses := true, named := ["darkslide/turn.moves"], apart := false, laid := [("darkslide/turn.moves", laid_darkslide_turn_moves)], narrowed := true }
def TurnCutsUptoSaid : Prop := turnCutsUptoRow.holds Tryd.pinned (OpenSpec.upto turnCutsSpec)

/-- 'darkslidelaw.TurnTurns', WHERE WHAT IT READS IS OF BULK AT MOST 1048576: true; the input reads as it did. -/
def turnTurnsUptoRow : OpenClaim := { program := "ytolcndchfnifhacdoor", sum := "5b0c3eb9b4ee2a8b1729397b30542fb6bc4cd7c8a36ff660d0469244f082ab2b", func := "darkslide/darkslidelaw.TurnTurns", spec := "turnTurns", unfollowed := true, recurses := true, named := ["darkslide/turn.moves"], apart := false, laid := [("darkslide/turn.moves", laid_darkslide_turn_moves)], narrowed := true }
def TurnTurnsUptoSaid : Prop := turnTurnsUptoRow.holds Tryd.pinned (OpenSpec.upto turnTurnsSpec)

/-- 'darkslidelaw.TurnBack', WHERE WHAT IT READS IS OF BULK AT MOST 1048576: true; the input reads as it did. -/
def turnBackUptoRow : OpenClaim := { program := "ytolcndchfnifhacdoor", sum := "5b0c3eb9b4ee2a8b1729397b30542fb6bc4cd7c8a36ff660d0469244f082ab2b", func := "darkslide/darkslidelaw.TurnBack", spec := "turnBack", unfollowed := true, recurses := true, named := ["darkslide/turn.moves"], apart := false, laid := [("darkslide/turn.moves", laid_darkslide_turn_moves)], narrowed := true }
def TurnBackUptoSaid : Prop := turnBackUptoRow.holds Tryd.pinned (OpenSpec.upto turnBackSpec)

end Rows
end Go.Proofs.YtolcndchfnifhacDoor
