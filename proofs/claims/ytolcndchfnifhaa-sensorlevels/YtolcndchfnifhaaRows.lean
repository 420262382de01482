/-
  No cell of these rows narrows 'for every input' (looked for: loops, veiled, ifaces, maps, wideKeys, modest, calm, conditions, laid).
  DERIVED. THE GIVEN ROWS OF THIS SEAT. 12 by the template 'for every input the law returns true; each argument reads behind the call as it read before'; 0 by the template 'total and deterministic' (their statements: YtolcndchfnifhaaTotals.lean).
  GIVEN WITH THE SEED: the statements are not yours to turn. If you find one false, say at which input.
  Laid BY PROGRAM, IN A SANDBOX (cutbox-rows.mjs): the forced cells as the released guide's own fill.sh prints them over the translation a3e75d16b112c784… (all of the seat's roots in one cut). By AI agents, Wed Nov 11 2026. No macro, syntax, notation, axiom, sorry.
-/
import Derived.Test.YtolcndchfnifhaaChecked
import GoSem.Claim
import GoSem.ClaimJoined
import GoSem.ClaimMapViews
import Derived.JoinedTies
import Derived.KernelRfl
namespace Go.Proofs.Ytolcndchfnifhaa
/- THE CELL 'sum', in the pinned program and in every row, IS THE sha256 OF THE DUMP (.gsa) THAT YtolcndchfnifhaaProg.lean LOADS. Nothing in Lean hashes anything: it is a label: what it is worth is what the hold of that sum in a sandbox is worth. -/
noncomputable def Try.pinned : Pinned := { name := "ytolcndchfnifhaa", sum := "a3e75d16b112c784743052b2b79792e0874774bdfdd06f95ce20ab35bd613726", checked := Try.checked }
namespace Rows
def none {H : Type} : Left H := { results := [], args := [] }

/-- 'darkslidelaw.BitsRows': WHATEVER THE INPUT: true; the input reads as it did. -/
def bitsRowsSpec : ChangeSpec := { name := "bitsRows", fn := fun _ => fun
  | [d1, d2, d3, d4] => { results := [.lit (.bool true)], args := [d1, d2, d3, d4] }
  | _ => none }
def bitsRowsRow : OpenClaim := { program := "ytolcndchfnifhaa", sum := "a3e75d16b112c784743052b2b79792e0874774bdfdd06f95ce20ab35bd613726", func := "darkslide/darkslidelaw.BitsRows", spec := "bitsRows", inPlace := ["internal/abi.NoEscape", "internal/bytealg.MakeNoZero", "internal/bytealg.IndexByteString", "internal/bytealg.IndexString"], unfollowed := true, recurses := true, named := ["internal/bytealg.MaxLen"], plainKeys := false, apart := false }
def BitsRowsSaid : Prop := bitsRowsRow.holds Try.pinned (OpenSpec.ofChange bitsRowsSpec)

/-- ITS FALSE NEIGHBOUR: 'it returns false'. Refute it at one input. -/
def bitsRowsWrong : ChangeSpec := { name := "bitsRows", fn := fun _ => fun
  | [d1, d2, d3, d4] => { results := [.lit (.bool false)], args := [d1, d2, d3, d4] }
  | _ => none }
def BitsRowsWrongFalsely : Prop := bitsRowsRow.holds Try.pinned (OpenSpec.ofChange bitsRowsWrong)

/-- 'darkslidelaw.BitsPacks': WHATEVER THE INPUT: true; the input reads as it did. -/
def bitsPacksSpec : ChangeSpec := { name := "bitsPacks", fn := fun _ => fun
  | [d1, d2, d3, d4] => { results := [.lit (.bool true)], args := [d1, d2, d3, d4] }
  | _ => none }
def bitsPacksRow : OpenClaim := { program := "ytolcndchfnifhaa", sum := "a3e75d16b112c784743052b2b79792e0874774bdfdd06f95ce20ab35bd613726", func := "darkslide/darkslidelaw.BitsPacks", spec := "bitsPacks", inPlace := ["internal/abi.NoEscape", "internal/bytealg.MakeNoZero", "internal/bytealg.IndexByteString", "internal/bytealg.IndexString"], unfollowed := true, recurses := true, named := ["internal/bytealg.MaxLen"], plainKeys := false, apart := false }
def BitsPacksSaid : Prop := bitsPacksRow.holds Try.pinned (OpenSpec.ofChange bitsPacksSpec)

/-- ITS FALSE NEIGHBOUR: 'it returns false'. Refute it at one input. -/
def bitsPacksWrong : ChangeSpec := { name := "bitsPacks", fn := fun _ => fun
  | [d1, d2, d3, d4] => { results := [.lit (.bool false)], args := [d1, d2, d3, d4] }
  | _ => none }
def BitsPacksWrongFalsely : Prop := bitsPacksRow.holds Try.pinned (OpenSpec.ofChange bitsPacksWrong)

/-- 'darkslidelaw.BitsBack': WHATEVER THE INPUT: true; the input reads as it did. -/
def bitsBackSpec : ChangeSpec := { name := "bitsBack", fn := fun _ => fun
  | [d1, d2, d3, d4] => { results := [.lit (.bool true)], args := [d1, d2, d3, d4] }
  | _ => none }
def bitsBackRow : OpenClaim := { program := "ytolcndchfnifhaa", sum := "a3e75d16b112c784743052b2b79792e0874774bdfdd06f95ce20ab35bd613726", func := "darkslide/darkslidelaw.BitsBack", spec := "bitsBack", inPlace := ["internal/abi.NoEscape", "internal/bytealg.MakeNoZero", "internal/bytealg.IndexByteString", "internal/bytealg.IndexString"], unfollowed := true, recurses := true, named := ["internal/bytealg.MaxLen"], plainKeys := false, apart := false }
def BitsBackSaid : Prop := bitsBackRow.holds Try.pinned (OpenSpec.ofChange bitsBackSpec)

/-- ITS FALSE NEIGHBOUR: 'it returns false'. Refute it at one input. -/
def bitsBackWrong : ChangeSpec := { name := "bitsBack", fn := fun _ => fun
  | [d1, d2, d3, d4] => { results := [.lit (.bool false)], args := [d1, d2, d3, d4] }
  | _ => none }
def BitsBackWrongFalsely : Prop := bitsBackRow.holds Try.pinned (OpenSpec.ofChange bitsBackWrong)

/-- 'darkslidelaw.CodeWords': WHATEVER THE INPUT: true; the input reads as it did. -/
def codeWordsSpec : ChangeSpec := { name := "codeWords", fn := fun _ => fun
  | [d] => { results := [.lit (.bool true)], args := [d] }
  | _ => none }
def codeWordsRow : OpenClaim := { program := "ytolcndchfnifhaa", sum := "a3e75d16b112c784743052b2b79792e0874774bdfdd06f95ce20ab35bd613726", func := "darkslide/darkslidelaw.CodeWords", spec := "codeWords", inPlace := ["internal/abi.NoEscape"], unfollowed := true, recurses := true, plainKeys := false, apart := false }
def CodeWordsSaid : Prop := codeWordsRow.holds Try.pinned (OpenSpec.ofChange codeWordsSpec)

/-- ITS FALSE NEIGHBOUR: 'it returns false'. Refute it at one input. -/
def codeWordsWrong : ChangeSpec := { name := "codeWords", fn := fun _ => fun
  | [d] => { results := [.lit (.bool false)], args := [d] }
  | _ => none }
def CodeWordsWrongFalsely : Prop := codeWordsRow.holds Try.pinned (OpenSpec.ofChange codeWordsWrong)

/-- 'darkslidelaw.CodeWrites': WHATEVER THE INPUT: true; the input reads as it did. -/
def codeWritesSpec : ChangeSpec := { name := "codeWrites", fn := fun _ => fun
  | [d1, d2, d3, d4] => { results := [.lit (.bool true)], args := [d1, d2, d3, d4] }
  | _ => none }
def codeWritesRow : OpenClaim := { program := "ytolcndchfnifhaa", sum := "a3e75d16b112c784743052b2b79792e0874774bdfdd06f95ce20ab35bd613726", func := "darkslide/darkslidelaw.CodeWrites", spec := "codeWrites", inPlace := ["internal/abi.NoEscape"], unfollowed := true, recurses := true, plainKeys := false, apart := false }
def CodeWritesSaid : Prop := codeWritesRow.holds Try.pinned (OpenSpec.ofChange codeWritesSpec)

/-- ITS FALSE NEIGHBOUR: 'it returns false'. Refute it at one input. -/
def codeWritesWrong : ChangeSpec := { name := "codeWrites", fn := fun _ => fun
  | [d1, d2, d3, d4] => { results := [.lit (.bool false)], args := [d1, d2, d3, d4] }
  | _ => none }
def CodeWritesWrongFalsely : Prop := codeWritesRow.holds Try.pinned (OpenSpec.ofChange codeWritesWrong)

/-- 'darkslidelaw.CodeBack': WHATEVER THE INPUT: true; the input reads as it did. -/
def codeBackSpec : ChangeSpec := { name := "codeBack", fn := fun _ => fun
  | [d1, d2, d3, d4, d5] => { results := [.lit (.bool true)], args := [d1, d2, d3, d4, d5] }
  | _ => none }
def codeBackRow : OpenClaim := { program := "ytolcndchfnifhaa", sum := "a3e75d16b112c784743052b2b79792e0874774bdfdd06f95ce20ab35bd613726", func := "darkslide/darkslidelaw.CodeBack", spec := "codeBack", inPlace := ["internal/abi.NoEscape"], unfollowed := true, recurses := true, plainKeys := false, apart := false }
def CodeBackSaid : Prop := codeBackRow.holds Try.pinned (OpenSpec.ofChange codeBackSpec)

/-- ITS FALSE NEIGHBOUR: 'it returns false'. Refute it at one input. -/
def codeBackWrong : ChangeSpec := { name := "codeBack", fn := fun _ => fun
  | [d1, d2, d3, d4, d5] => { results := [.lit (.bool false)], args := [d1, d2, d3, d4, d5] }
  | _ => none }
def CodeBackWrongFalsely : Prop := codeBackRow.holds Try.pinned (OpenSpec.ofChange codeBackWrong)

/-- 'darkslidelaw.DiffGuesses': WHATEVER THE INPUT: true; the input reads as it did. -/
def diffGuessesSpec : ChangeSpec := { name := "diffGuesses", fn := fun _ => fun
  | [d1, d2, d3, d4] => { results := [.lit (.bool true)], args := [d1, d2, d3, d4] }
  | _ => none }
def diffGuessesRow : OpenClaim := { program := "ytolcndchfnifhaa", sum := "a3e75d16b112c784743052b2b79792e0874774bdfdd06f95ce20ab35bd613726", func := "darkslide/darkslidelaw.DiffGuesses", spec := "diffGuesses", inPlace := ["internal/abi.NoEscape", "internal/bytealg.MakeNoZero", "internal/bytealg.IndexByteString", "internal/bytealg.IndexString"], unfollowed := true, recurses := true, named := ["internal/bytealg.MaxLen"], plainKeys := false, apart := false }
def DiffGuessesSaid : Prop := diffGuessesRow.holds Try.pinned (OpenSpec.ofChange diffGuessesSpec)

/-- ITS FALSE NEIGHBOUR: 'it returns false'. Refute it at one input. -/
def diffGuessesWrong : ChangeSpec := { name := "diffGuesses", fn := fun _ => fun
  | [d1, d2, d3, d4] => { results := [.lit (.bool false)], args := [d1, d2, d3, d4] }
  | _ => none }
def DiffGuessesWrongFalsely : Prop := diffGuessesRow.holds Try.pinned (OpenSpec.ofChange diffGuessesWrong)

/-- 'darkslidelaw.DiffWrites': WHATEVER THE INPUT: true; the input reads as it did. -/
def diffWritesSpec : ChangeSpec := { name := "diffWrites", fn := fun _ => fun
  | [d1, d2, d3] => { results := [.lit (.bool true)], args := [d1, d2, d3] }
  | _ => none }
def diffWritesRow : OpenClaim := { program := "ytolcndchfnifhaa", sum := "a3e75d16b112c784743052b2b79792e0874774bdfdd06f95ce20ab35bd613726", func := "darkslide/darkslidelaw.DiffWrites", spec := "diffWrites", inPlace := ["internal/abi.NoEscape", "internal/bytealg.MakeNoZero", "internal/bytealg.IndexByteString", "internal/bytealg.IndexString"], unfollowed := true, recurses := true, named := ["internal/bytealg.MaxLen"], plainKeys := false, apart := false }
def DiffWritesSaid : Prop := diffWritesRow.holds Try.pinned (OpenSpec.ofChange diffWritesSpec)

/-- ITS FALSE NEIGHBOUR: 'it returns false'. Refute it at one input. -/
def diffWritesWrong : ChangeSpec := { name := "diffWrites", fn := fun _ => fun
  | [d1, d2, d3] => { results := [.lit (.bool false)], args := [d1, d2, d3] }
  | _ => none }
def DiffWritesWrongFalsely : Prop := diffWritesRow.holds Try.pinned (OpenSpec.ofChange diffWritesWrong)

/-- 'darkslidelaw.DiffReads': WHATEVER THE INPUT: true; the input reads as it did. -/
def diffReadsSpec : ChangeSpec := { name := "diffReads", fn := fun _ => fun
  | [d1, d2, d3, d4, d5] => { results := [.lit (.bool true)], args := [d1, d2, d3, d4, d5] }
  | _ => none }
def diffReadsRow : OpenClaim := { program := "ytolcndchfnifhaa", sum := "a3e75d16b112c784743052b2b79792e0874774bdfdd06f95ce20ab35bd613726", func := "darkslide/darkslidelaw.DiffReads", spec := "diffReads", inPlace := ["internal/abi.NoEscape", "internal/bytealg.MakeNoZero", "internal/bytealg.IndexByteString", "internal/bytealg.IndexString"], unfollowed := true, recurses := true, named := ["internal/bytealg.MaxLen"], plainKeys := false, apart := false }
def DiffReadsSaid : Prop := diffReadsRow.holds Try.pinned (OpenSpec.ofChange diffReadsSpec)

/-- ITS FALSE NEIGHBOUR: 'it returns false'. Refute it at one input. -/
def diffReadsWrong : ChangeSpec := { name := "diffReads", fn := fun _ => fun
  | [d1, d2, d3, d4, d5] => { results := [.lit (.bool false)], args := [d1, d2, d3, d4, d5] }
  | _ => none }
def DiffReadsWrongFalsely : Prop := diffReadsRow.holds Try.pinned (OpenSpec.ofChange diffReadsWrong)

/-- 'darkslidelaw.DiffBack': WHATEVER THE INPUT: true; the input reads as it did. -/
def diffBackSpec : ChangeSpec := { name := "diffBack", fn := fun _ => fun
  | [d1, d2, d3, d4, d5, d6] => { results := [.lit (.bool true)], args := [d1, d2, d3, d4, d5, d6] }
  | _ => none }
def diffBackRow : OpenClaim := { program := "ytolcndchfnifhaa", sum := "a3e75d16b112c784743052b2b79792e0874774bdfdd06f95ce20ab35bd613726", func := "darkslide/darkslidelaw.DiffBack", spec := "diffBack", inPlace := ["internal/abi.NoEscape", "internal/bytealg.MakeNoZero", "internal/bytealg.IndexByteString", "internal/bytealg.IndexString"], unfollowed := true, recurses := true, named := ["internal/bytealg.MaxLen"], plainKeys := false, apart := false }
def DiffBackSaid : Prop := diffBackRow.holds Try.pinned (OpenSpec.ofChange diffBackSpec)

/-- ITS FALSE NEIGHBOUR: 'it returns false'. Refute it at one input. -/
def diffBackWrong : ChangeSpec := { name := "diffBack", fn := fun _ => fun
  | [d1, d2, d3, d4, d5, d6] => { results := [.lit (.bool false)], args := [d1, d2, d3, d4, d5, d6] }
  | _ => none }
def DiffBackWrongFalsely : Prop := diffBackRow.holds Try.pinned (OpenSpec.ofChange diffBackWrong)

/-- 'darkslidelaw.SensorLevels': WHATEVER THE INPUT: true; the input reads as it did. -/
def sensorLevelsSpec : ChangeSpec := { name := "sensorLevels", fn := fun _ => fun
  | [d1, d2, d3] => { results := [.lit (.bool true)], args := [d1, d2, d3] }
  | _ => none }
def sensorLevelsRow : OpenClaim := { program := "ytolcndchfnifhaa", sum := "a3e75d16b112c784743052b2b79792e0874774bdfdd06f95ce20ab35bd613726", func := "darkslide/darkslidelaw.SensorLevels", spec := "sensorLevels", unfollowed := true, recurses := true, plainKeys := false, apart := false }
def SensorLevelsSaid : Prop := sensorLevelsRow.holds Try.pinned (OpenSpec.ofChange sensorLevelsSpec)

/-- ITS FALSE NEIGHBOUR: 'it returns false'. Refute it at one input. -/
def sensorLevelsWrong : ChangeSpec := { name := "sensorLevels", fn := fun _ => fun
  | [d1, d2, d3] => { results := [.lit (.bool false)], args := [d1, d2, d3] }
  | _ => none }
def SensorLevelsWrongFalsely : Prop := sensorLevelsRow.holds Try.pinned (OpenSpec.ofChange sensorLevelsWrong)

/-- 'darkslidelaw.SensorRepairs': WHATEVER THE INPUT: true; the input reads as it did. -/
def sensorRepairsSpec : ChangeSpec := { name := "sensorRepairs", fn := fun _ => fun
  | [d1, d2] => { results := [.lit (.bool true)], args := [d1, d2] }
  | _ => none }
def sensorRepairsRow : OpenClaim := { program := "ytolcndchfnifhaa", sum := "a3e75d16b112c784743052b2b79792e0874774bdfdd06f95ce20ab35bd613726", func := "darkslide/darkslidelaw.SensorRepairs", spec := "sensorRepairs", unfollowed := true, recurses := true, plainKeys := false, apart := false }
def SensorRepairsSaid : Prop := sensorRepairsRow.holds Try.pinned (OpenSpec.ofChange sensorRepairsSpec)

/-- ITS FALSE NEIGHBOUR: 'it returns false'. Refute it at one input. -/
def sensorRepairsWrong : ChangeSpec := { name := "sensorRepairs", fn := fun _ => fun
  | [d1, d2] => { results := [.lit (.bool false)], args := [d1, d2] }
  | _ => none }
def SensorRepairsWrongFalsely : Prop := sensorRepairsRow.holds Try.pinned (OpenSpec.ofChange sensorRepairsWrong)

/- THE SECOND FORM. 'bulk': how many values and letters a reading holds, each counted each time it is reached (what is shared counts as often as it is met; a slice's spare places count too). A statement '..UptoSaid' is the law's where the arguments, and the package variables that the reading takes, are together of bulk at most 1048576: NARROWER than '..Said'. Prove '..Said' where nothing that the law and all that it calls make is longer than what came in: it says more and counts as full. Else prove '..UptoSaid'. A law counts once. -/
mutual
def uptoBulk {H : Type} : DataW H → Nat
  | .lit (.string bytes) => bytes.length + 1
  | .lit _ => 1
  | .nil => 1
  | .ptr d => uptoBulk d + 1
  | .slice elems spare => uptoBulkAll elems + uptoBulkAll spare + 1
  | .agg parts => uptoBulkAll parts + 1
  | .iface _ d => uptoBulk d + 1
  | .map entries => uptoBulkEntries entries + 1
  | .held _ => 1
def uptoBulkAll {H : Type} : List (DataW H) → Nat
  | [] => 0
  | d :: r => uptoBulk d + uptoBulkAll r
def uptoBulkEntries {H : Type} : List (Lit × DataW H) → Nat
  | [] => 0
  | x :: r => uptoBulkEntry x + uptoBulkEntries r
def uptoBulkEntry {H : Type} : Lit × DataW H → Nat
  | (.string bytes, d) => bytes.length + uptoBulk d + 1
  | (_, d) => uptoBulk d + 1
 end
def uptoSmall : (H : Type) → List (DataW H) → Bool := fun _ ds => decide (uptoBulkAll ds ≤ 1048576)
def OpenSpec.upto (s : _root_.Go.ChangeSpec) : _root_.Go.OpenSpec := { _root_.Go.OpenSpec.ofChange s with cond := some uptoSmall }

/-- 'darkslidelaw.BitsRows', WHERE WHAT IT READS IS OF BULK AT MOST 1048576: true; the input reads as it did. -/
def bitsRowsUptoRow : OpenClaim := { program := "ytolcndchfnifhaa", sum := "a3e75d16b112c784743052b2b79792e0874774bdfdd06f95ce20ab35bd613726", func := "darkslide/darkslidelaw.BitsRows", spec := "bitsRows", inPlace := ["internal/abi.NoEscape", "internal/bytealg.MakeNoZero", "internal/bytealg.IndexByteString", "internal/bytealg.IndexString"], unfollowed := true, recurses := true, named := ["internal/bytealg.MaxLen"], plainKeys := false, apart := false, narrowed := true }
def BitsRowsUptoSaid : Prop := bitsRowsUptoRow.holds Try.pinned (OpenSpec.upto bitsRowsSpec)

/-- 'darkslidelaw.BitsPacks', WHERE WHAT IT READS IS OF BULK AT MOST 1048576: true; the input reads as it did. -/
def bitsPacksUptoRow : OpenClaim := { program := "ytolcndchfnifhaa", sum := "a3e75d16b112c784743052b2b79792e0874774bdfdd06f95ce20ab35bd613726", func := "darkslide/darkslidelaw.BitsPacks", spec := "bitsPacks", inPlace := ["internal/abi.NoEscape", "internal/bytealg.MakeNoZero", "internal/bytealg.IndexByteString", "internal/bytealg.IndexString"], unfollowed := true, recurses := true, named := ["internal/bytealg.MaxLen"], plainKeys := false, apart := false, narrowed := true }
def BitsPacksUptoSaid : Prop := bitsPacksUptoRow.holds Try.pinned (OpenSpec.upto bitsPacksSpec)

/-- 'darkslidelaw.BitsBack', WHERE WHAT IT READS IS OF BULK AT MOST 1048576: true; the input reads as it did. -/
def bitsBackUptoRow : OpenClaim := { program := "ytolcndchfnifhaa", sum := "a3e75d16b112c784743052b2b79792e0874774bdfdd06f95ce20ab35bd613726", func := "darkslide/darkslidelaw.BitsBack", spec := "bitsBack", inPlace := ["internal/abi.NoEscape", "internal/bytealg.MakeNoZero", "internal/bytealg.IndexByteString", "internal/bytealg.IndexString"], unfollowed := true, recurses := true, named := ["internal/bytealg.MaxLen"], plainKeys := false, apart := false, narrowed := true }
def BitsBackUptoSaid : Prop := bitsBackUptoRow.holds Try.pinned (OpenSpec.upto bitsBackSpec)

/-- 'darkslidelaw.CodeWords', WHERE WHAT IT READS IS OF BULK AT MOST 1048576: true; the input reads as it did. -/
def codeWordsUptoRow : OpenClaim := { program := "ytolcndchfnifhaa", sum := "a3e75d16b112c784743052b2b79792e0874774bdfdd06f95ce20ab35bd613726", func := "darkslide/darkslidelaw.CodeWords", spec := "codeWords", inPlace := ["internal/abi.NoEscape"], unfollowed := true, recurses := true, plainKeys := false, apart := false, narrowed := true }
def CodeWordsUptoSaid : Prop := codeWordsUptoRow.holds Try.pinned (OpenSpec.upto codeWordsSpec)

/-- 'darkslidelaw.CodeWrites', WHERE WHAT IT READS IS OF BULK AT MOST 1048576: true; the input reads as it did. -/
def codeWritesUptoRow : OpenClaim := { program := "ytolcndchfnifhaa", sum := "a3e75d16b112c784743052b2b79792e0874774bdfdd06f95ce20ab35bd613726", func := "darkslide/darkslidelaw.CodeWrites", spec := "codeWrites", inPlace := ["internal/abi.NoEscape"], unfollowed := true, recurses := true, plainKeys := false, apart := false, narrowed := true }
def CodeWritesUptoSaid : Prop := codeWritesUptoRow.holds Try.pinned (OpenSpec.upto codeWritesSpec)

/-- 'darkslidelaw.CodeBack', WHERE WHAT IT READS IS OF BULK AT MOST 1048576: true; the input reads as it did. -/
def codeBackUptoRow : OpenClaim := { program := "ytolcndchfnifhaa", sum := "a3e75d16b112c784743052b2b79792e0874774bdfdd06f95ce20ab35bd613726", func := "darkslide/darkslidelaw.CodeBack", spec := "codeBack", inPlace := ["internal/abi.NoEscape"], unfollowed := true, recurses := true, plainKeys := false, apart := false, narrowed := true }
def CodeBackUptoSaid : Prop := codeBackUptoRow.holds Try.pinned (OpenSpec.upto codeBackSpec)

/-- 'darkslidelaw.DiffGuesses', WHERE WHAT IT READS IS OF BULK AT MOST 1048576: true; the input reads as it did. -/
def diffGuessesUptoRow : OpenClaim := { program := "ytolcndchfnifhaa", sum := "a3e75d16b112c784743052b2b79792e0874774bdfdd06f95ce20ab35bd613726", func := "darkslide/darkslidelaw.DiffGuesses", spec := "diffGuesses", inPlace := ["internal/abi.NoEscape", "internal/bytealg.MakeNoZero", "internal/bytealg.IndexByteString", "internal/bytealg.IndexString"], unfollowed := true, recurses := true, named := ["internal/bytealg.MaxLen"], plainKeys := false, apart := false, narrowed := true }
def DiffGuessesUptoSaid : Prop := diffGuessesUptoRow.holds Try.pinned (OpenSpec.upto diffGuessesSpec)

/-- 'darkslidelaw.DiffWrites', WHERE WHAT IT READS IS OF BULK AT MOST 1048576: true; the input reads as it did. -/
def diffWritesUptoRow : OpenClaim := { program := "ytolcndchfnifhaa", sum := "a3e75d16b112c784743052b2b79792e0874774bdfdd06f95ce20ab35bd613726", func := "darkslide/darkslidelaw.DiffWrites", spec := "diffWrites", inPlace := ["internal/abi.NoEscape", "internal/bytealg.MakeNoZero", "internal/bytealg.IndexByteString", "internal/bytealg.IndexString"], unfollowed := true, recurses := true, named := ["internal/bytealg.MaxLen"], plainKeys := false, apart := false, narrowed := true }
def DiffWritesUptoSaid : Prop := diffWritesUptoRow.holds Try.pinned (OpenSpec.upto diffWritesSpec)

/-- 'darkslidelaw.DiffReads', WHERE WHAT IT READS IS OF BULK AT MOST 1048576: true; the input reads as it did. -/
def diffReadsUptoRow : OpenClaim := { program := "ytolcndchfnifhaa", sum := "a3e75d16b112c784743052b2b79792e0874774bdfdd06f95ce20ab35bd613726", func := "darkslide/darkslidelaw.DiffReads", spec := "diffReads", inPlace := ["internal/abi.NoEscape", "internal/bytealg.MakeNoZero", "internal/bytealg.IndexByteString", "internal/bytealg.IndexString"], unfollowed := true, recurses := true, named := ["internal/bytealg.MaxLen"], plainKeys := false, apart := false, narrowed := true }
def DiffReadsUptoSaid : Prop := diffReadsUptoRow.holds Try.pinned (OpenSpec.upto diffReadsSpec)

/-- 'darkslidelaw.DiffBack', WHERE WHAT IT READS IS OF BULK AT MOST 1048576: true; the input reads as it did. -/
def diffBackUptoRow : OpenClaim := { program := "ytolcndchfnifhaa", sum := "a3e75d16b112c784743052b2b79792e0874774bdfdd06f95ce20ab35bd613726", func := "darkslide/darkslidelaw.DiffBack", spec := "diffBack", inPlace := ["internal/abi.NoEscape", "internal/bytealg.MakeNoZero", "internal/bytealg.IndexByteString", "internal/bytealg.IndexString"], unfollowed := true, recurses := true, named := ["internal/bytealg.MaxLen"], plainKeys := false, apart := false, narrowed := true }
def DiffBackUptoSaid : Prop := diffBackUptoRow.holds Try.pinned (OpenSpec.upto diffBackSpec)

/-- 'darkslidelaw.SensorLevels', WHERE WHAT IT READS IS OF BULK AT MOST 1048576: true; the input reads as it did. -/
def sensorLevelsUptoRow : OpenClaim := { program := "ytolcndchfnifhaa", sum := "a3e75d16b112c784743052b2b79792e0874774bdfdd06f95ce20ab35bd613726", func := "darkslide/darkslidelaw.SensorLevels", spec := "sensorLevels", unfollowed := true, recurses := true, plainKeys := false, apart := false, narrowed := true }
def SensorLevelsUptoSaid : Prop := sensorLevelsUptoRow.holds Try.pinned (OpenSpec.upto sensorLevelsSpec)

/-- 'darkslidelaw.SensorRepairs', WHERE WHAT IT READS IS OF BULK AT MOST 1048576: true; the input reads as it did. -/
def sensorRepairsUptoRow : OpenClaim := { program := "ytolcndchfnifhaa", sum := "a3e75d16b112c784743052b2b79792e0874774bdfdd06f95ce20ab35bd613726", func := "darkslide/darkslidelaw.SensorRepairs", spec := "sensorRepairs", unfollowed := true, recurses := true, plainKeys := false, apart := false, narrowed := true }
def SensorRepairsUptoSaid : Prop := sensorRepairsUptoRow.holds Try.pinned (OpenSpec.upto sensorRepairsSpec)

end Rows
end Go.Proofs.Ytolcndchfnifhaa
