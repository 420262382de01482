/-
  DERIVED. GIVEN WITH THE SEED: THE CARDS: each row of YtfjeonehdlphiaaGreatDoorRows.lean that lists a variable, with what it lists TIED to the program's text (the seventh form; the later family's looks); each row that meets fmt, with fmt's text TOLD by the authors' own Lean function (tested against real Go, not proved from fmt's source: count such statements apart). THE CARD IS WHAT COUNTS. Prove the row's statement (the work); the ties are given (YtfjeonehdlphiaaGreatDoorTie.lean); close each card by the builder's one call (the guide's Derived/Test/ToyasCard.lean, 'card_holds'). Laid BY PROGRAM, IN A SANDBOX (cutbox-door.mjs). By AI agents, Wed Nov 11 2026. No macro, syntax, notation, axiom, sorry.
-/
import Derived.Test.YtfjeonehdlphiaaGreatDoorRows
import GoSem.ClaimSeven
namespace Go.Proofs.YtfjeonehdlphiaaGreatDoor
namespace Rows

/-- THE TIED CARD OF 'darkslidelaw.ShotWrites'. -/
def shotWritesCard : Claim7 := { stood := { row := shotWritesRow, standIns := [], harness := (true, "01b776cac7d9e95db763ec9602c55aab0eecd4c26580645124e5545f1628c9fa"), looks := false }, kinds := [], alts := [], laidByText := true, laidKinds := [.data, .data, .data, .data], laidTests := true, laidLooks := .later }
def ShotWritesCardSaid : Prop := Claim7.holds Tryz.pinned (.plain (OpenSpec.ofChange shotWritesSpec)) shotWritesCard

/-- THE TIED CARD OF 'darkslidelaw.ShotDevelops'. -/
def shotDevelopsCard : Claim7 := { stood := { row := shotDevelopsRow, standIns := [], harness := (true, "01b776cac7d9e95db763ec9602c55aab0eecd4c26580645124e5545f1628c9fa"), looks := false }, kinds := [], alts := [], laidByText := true, laidKinds := [.data, .data, .data, .data], laidTests := true, laidLooks := .later }
def ShotDevelopsCardSaid : Prop := Claim7.holds Tryz.pinned (.plain (OpenSpec.ofChange shotDevelopsSpec)) shotDevelopsCard

/-- THE TIED CARD OF 'darkslidelaw.ShotBack'. -/
def shotBackCard : Claim7 := { stood := { row := shotBackRow, standIns := [], harness := (true, "01b776cac7d9e95db763ec9602c55aab0eecd4c26580645124e5545f1628c9fa"), looks := false }, kinds := [], alts := [], laidByText := true, laidKinds := [.data, .data, .data, .data], laidTests := true, laidLooks := .later }
def ShotBackCardSaid : Prop := Claim7.holds Tryz.pinned (.plain (OpenSpec.ofChange shotBackSpec)) shotBackCard

/-- THE TIED CARD OF 'darkslidelaw.ShotAlike'. -/
def shotAlikeCard : Claim7 := { stood := { row := shotAlikeRow, standIns := [], harness := (true, "01b776cac7d9e95db763ec9602c55aab0eecd4c26580645124e5545f1628c9fa"), looks := false }, kinds := [], alts := [], laidByText := true, laidKinds := [.data, .data, .data, .data], laidTests := true, laidLooks := .later }
def ShotAlikeCardSaid : Prop := Claim7.holds Tryz.pinned (.plain (OpenSpec.ofChange shotAlikeSpec)) shotAlikeCard

/-- THE TIED CARD OF 'darkslidelaw.RestPictures'. -/
def restPicturesCard : Claim7 := { stood := { row := restPicturesRow, standIns := [], harness := (true, "01b776cac7d9e95db763ec9602c55aab0eecd4c26580645124e5545f1628c9fa"), looks := false }, kinds := [], alts := [], laidByText := true, laidKinds := [.data], laidTests := true, laidLooks := .later }
def RestPicturesCardSaid : Prop := Claim7.holds Tryz.pinned (.plain (OpenSpec.ofChange restPicturesSpec)) restPicturesCard

/-- THE SECOND FORM's CARD OF 'darkslidelaw.ShotWrites'. -/
def shotWritesUptoCard : Claim7 := { stood := { row := shotWritesUptoRow, standIns := [], harness := (true, "01b776cac7d9e95db763ec9602c55aab0eecd4c26580645124e5545f1628c9fa"), looks := false }, kinds := [], alts := [], laidByText := true, laidKinds := [.data, .data, .data, .data], laidTests := true, laidLooks := .later }
def ShotWritesUptoCardSaid : Prop := Claim7.holds Tryz.pinned (.plain (OpenSpec.upto shotWritesSpec)) shotWritesUptoCard

/-- THE SECOND FORM's CARD OF 'darkslidelaw.ShotDevelops'. -/
def shotDevelopsUptoCard : Claim7 := { stood := { row := shotDevelopsUptoRow, standIns := [], harness := (true, "01b776cac7d9e95db763ec9602c55aab0eecd4c26580645124e5545f1628c9fa"), looks := false }, kinds := [], alts := [], laidByText := true, laidKinds := [.data, .data, .data, .data], laidTests := true, laidLooks := .later }
def ShotDevelopsUptoCardSaid : Prop := Claim7.holds Tryz.pinned (.plain (OpenSpec.upto shotDevelopsSpec)) shotDevelopsUptoCard

/-- THE SECOND FORM's CARD OF 'darkslidelaw.ShotBack'. -/
def shotBackUptoCard : Claim7 := { stood := { row := shotBackUptoRow, standIns := [], harness := (true, "01b776cac7d9e95db763ec9602c55aab0eecd4c26580645124e5545f1628c9fa"), looks := false }, kinds := [], alts := [], laidByText := true, laidKinds := [.data, .data, .data, .data], laidTests := true, laidLooks := .later }
def ShotBackUptoCardSaid : Prop := Claim7.holds Tryz.pinned (.plain (OpenSpec.upto shotBackSpec)) shotBackUptoCard

/-- THE SECOND FORM's CARD OF 'darkslidelaw.ShotAlike'. -/
def shotAlikeUptoCard : Claim7 := { stood := { row := shotAlikeUptoRow, standIns := [], harness := (true, "01b776cac7d9e95db763ec9602c55aab0eecd4c26580645124e5545f1628c9fa"), looks := false }, kinds := [], alts := [], laidByText := true, laidKinds := [.data, .data, .data, .data], laidTests := true, laidLooks := .later }
def ShotAlikeUptoCardSaid : Prop := Claim7.holds Tryz.pinned (.plain (OpenSpec.upto shotAlikeSpec)) shotAlikeUptoCard

/-- THE SECOND FORM's CARD OF 'darkslidelaw.RestPictures'. -/
def restPicturesUptoCard : Claim7 := { stood := { row := restPicturesUptoRow, standIns := [], harness := (true, "01b776cac7d9e95db763ec9602c55aab0eecd4c26580645124e5545f1628c9fa"), looks := false }, kinds := [], alts := [], laidByText := true, laidKinds := [.data], laidTests := true, laidLooks := .later }
def RestPicturesUptoCardSaid : Prop := Claim7.holds Tryz.pinned (.plain (OpenSpec.upto restPicturesSpec)) restPicturesUptoCard
end Rows
end Go.Proofs.YtfjeonehdlphiaaGreatDoor
