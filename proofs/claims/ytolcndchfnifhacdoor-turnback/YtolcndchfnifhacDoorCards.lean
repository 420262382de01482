/-
  DERIVED. GIVEN WITH THE SEED: THE CARDS: each row of YtolcndchfnifhacDoorRows.lean that lists a variable, with what it lists TIED to the program's text (the seventh form; the later family's looks); each row that meets fmt, with fmt's text TOLD by the authors' own Lean function (tested against real Go, not proved from fmt's source: count such statements apart). THE CARD IS WHAT COUNTS. Prove the row's statement (the work); the ties are given (YtolcndchfnifhacDoorTie.lean); close each card by the builder's one call (the guide's Derived/Test/ToyasCard.lean, 'card_holds'). Laid BY PROGRAM, IN A SANDBOX (cutbox-door.mjs). By AI agents, Wed Nov 11 2026. No macro, syntax, notation, axiom, sorry.
-/
import Derived.Test.YtolcndchfnifhacDoorRows
import GoSem.ClaimSeven
namespace Go.Proofs.YtolcndchfnifhacDoor
namespace Rows

/-- THE TIED CARD OF 'darkslidelaw.TurnCuts'. -/
def turnCutsCard : Claim7 := { stood := { row := turnCutsRow, standIns := [], harness := (true, "d6475e009cebf750b383eb1109064fa0dc4e6190098bf49fcf4cf90656a2880b"), looks := false }, kinds := [], alts := [], laidByText := true, laidKinds := [.data], laidTests := true, laidLooks := .later }
def TurnCutsCardSaid : Prop := Claim7.holds Tryd.pinned (.plain (OpenSpec.ofChange turnCutsSpec)) turnCutsCard

/-- THE TIED CARD OF 'darkslidelaw.TurnTurns'. -/
def turnTurnsCard : Claim7 := { stood := { row := turnTurnsRow, standIns := [], harness := (true, "d6475e009cebf750b383eb1109064fa0dc4e6190098bf49fcf4cf90656a2880b"), looks := false }, kinds := [], alts := [], laidByText := true, laidKinds := [.data], laidTests := true, laidLooks := .later }
def TurnTurnsCardSaid : Prop := Claim7.holds Tryd.pinned (.plain (OpenSpec.ofChange turnTurnsSpec)) turnTurnsCard

/-- THE TIED CARD OF 'darkslidelaw.TurnBack'. -/
def turnBackCard : Claim7 := { stood := { row := turnBackRow, standIns := [], harness := (true, "d6475e009cebf750b383eb1109064fa0dc4e6190098bf49fcf4cf90656a2880b"), looks := false }, kinds := [], alts := [], laidByText := true, laidKinds := [.data], laidTests := true, laidLooks := .later }
def TurnBackCardSaid : Prop := Claim7.holds Tryd.pinned (.plain (OpenSpec.ofChange turnBackSpec)) turnBackCard

/-- THE SECOND FORM's CARD OF 'darkslidelaw.TurnCuts'. -/
def turnCutsUptoCard : Claim7 := { stood := { row := turnCutsUptoRow, standIns := [], harness := (true, "d6475e009cebf750b383eb1109064fa0dc4e6190098bf49fcf4cf90656a2880b"), looks := false }, kinds := [], alts := [], laidByText := true, laidKinds := [.data], laidTests := true, laidLooks := .later }
def TurnCutsUptoCardSaid : Prop := Claim7.holds Tryd.pinned (.plain (OpenSpec.upto turnCutsSpec)) turnCutsUptoCard

/-- THE SECOND FORM's CARD OF 'darkslidelaw.TurnTurns'. -/
def turnTurnsUptoCard : Claim7 := { stood := { row := turnTurnsUptoRow, standIns := [], harness := (true, "d6475e009cebf750b383eb1109064fa0dc4e6190098bf49fcf4cf90656a2880b"), looks := false }, kinds := [], alts := [], laidByText := true, laidKinds := [.data], laidTests := true, laidLooks := .later }
def TurnTurnsUptoCardSaid : Prop := Claim7.holds Tryd.pinned (.plain (OpenSpec.upto turnTurnsSpec)) turnTurnsUptoCard

/-- THE SECOND FORM's CARD OF 'darkslidelaw.TurnBack'. -/
def turnBackUptoCard : Claim7 := { stood := { row := turnBackUptoRow, standIns := [], harness := (true, "d6475e009cebf750b383eb1109064fa0dc4e6190098bf49fcf4cf90656a2880b"), looks := false }, kinds := [], alts := [], laidByText := true, laidKinds := [.data], laidTests := true, laidLooks := .later }
def TurnBackUptoCardSaid : Prop := Claim7.holds Tryd.pinned (.plain (OpenSpec.upto turnBackSpec)) turnBackUptoCard
end Rows
end Go.Proofs.YtolcndchfnifhacDoor
