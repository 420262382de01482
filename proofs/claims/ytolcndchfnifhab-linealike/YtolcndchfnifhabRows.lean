/-
  No cell of these rows narrows 'for every input' (looked for: loops, veiled, ifaces, maps, wideKeys, modest, calm, conditions, laid).
  DERIVED. THE GIVEN ROWS OF THIS SEAT. 12 by the template 'for every input the law returns true; each argument reads behind the call as it read before'; 0 by the template 'total and deterministic' (their statements: YtolcndchfnifhabTotals.lean).
  GIVEN WITH THE SEED: the statements are not yours to turn. If you find one false, say at which input.
  Laid BY PROGRAM, IN A SANDBOX (cutbox-rows.mjs): the forced cells as the released guide's own fill.sh prints them over the translation 8626cc38bbb3fe50… (all of the seat's roots in one cut). By AI agents, Wed Nov 11 2026. No macro, syntax, notation, axiom, sorry.
-/
import Derived.Test.YtolcndchfnifhabChecked
import GoSem.Claim
import GoSem.ClaimJoined
import GoSem.ClaimMapViews
import Derived.JoinedTies
import Derived.KernelRfl
namespace Go.Proofs.Ytolcndchfnifhab
/- THE CELL 'sum', in the pinned program and in every row, IS THE sha256 OF THE DUMP (.gsa) THAT YtolcndchfnifhabProg.lean LOADS. Nothing in Lean hashes anything: it is a label: what it is worth is what the hold of that sum in a sandbox is worth. -/
noncomputable def Try.pinned : Pinned := { name := "ytolcndchfnifhab", sum := "8626cc38bbb3fe5080a5f1d3013b6682bc6bdb530a7315e4e658b4314019323e", checked := Try.checked }
namespace Rows
def none {H : Type} : Left H := { results := [], args := [] }

/-- 'darkslidelaw.SensorGains': WHATEVER THE INPUT: true; the input reads as it did. -/
def sensorGainsSpec : ChangeSpec := { name := "sensorGains", fn := fun _ => fun
  | [d1, d2, d3, d4, d5] => { results := [.lit (.bool true)], args := [d1, d2, d3, d4, d5] }
  | _ => none }
def sensorGainsRow : OpenClaim := { program := "ytolcndchfnifhab", sum := "8626cc38bbb3fe5080a5f1d3013b6682bc6bdb530a7315e4e658b4314019323e", func := "darkslide/darkslidelaw.SensorGains", spec := "sensorGains", unfollowed := true, recurses := true, plainKeys := false, apart := false }
def SensorGainsSaid : Prop := sensorGainsRow.holds Try.pinned (OpenSpec.ofChange sensorGainsSpec)

/-- ITS FALSE NEIGHBOUR: 'it returns false'. Refute it at one input. -/
def sensorGainsWrong : ChangeSpec := { name := "sensorGains", fn := fun _ => fun
  | [d1, d2, d3, d4, d5] => { results := [.lit (.bool false)], args := [d1, d2, d3, d4, d5] }
  | _ => none }
def SensorGainsWrongFalsely : Prop := sensorGainsRow.holds Try.pinned (OpenSpec.ofChange sensorGainsWrong)

/-- 'darkslidelaw.MosaicFills': WHATEVER THE INPUT: true; the input reads as it did. -/
def mosaicFillsSpec : ChangeSpec := { name := "mosaicFills", fn := fun _ => fun
  | [d1, d2, d3] => { results := [.lit (.bool true)], args := [d1, d2, d3] }
  | _ => none }
def mosaicFillsRow : OpenClaim := { program := "ytolcndchfnifhab", sum := "8626cc38bbb3fe5080a5f1d3013b6682bc6bdb530a7315e4e658b4314019323e", func := "darkslide/darkslidelaw.MosaicFills", spec := "mosaicFills", unfollowed := true, recurses := true, plainKeys := false, apart := false }
def MosaicFillsSaid : Prop := mosaicFillsRow.holds Try.pinned (OpenSpec.ofChange mosaicFillsSpec)

/-- ITS FALSE NEIGHBOUR: 'it returns false'. Refute it at one input. -/
def mosaicFillsWrong : ChangeSpec := { name := "mosaicFills", fn := fun _ => fun
  | [d1, d2, d3] => { results := [.lit (.bool false)], args := [d1, d2, d3] }
  | _ => none }
def MosaicFillsWrongFalsely : Prop := mosaicFillsRow.holds Try.pinned (OpenSpec.ofChange mosaicFillsWrong)

/-- 'darkslidelaw.MosaicKeeps': WHATEVER THE INPUT: true; the input reads as it did. -/
def mosaicKeepsSpec : ChangeSpec := { name := "mosaicKeeps", fn := fun _ => fun
  | [d1, d2, d3] => { results := [.lit (.bool true)], args := [d1, d2, d3] }
  | _ => none }
def mosaicKeepsRow : OpenClaim := { program := "ytolcndchfnifhab", sum := "8626cc38bbb3fe5080a5f1d3013b6682bc6bdb530a7315e4e658b4314019323e", func := "darkslide/darkslidelaw.MosaicKeeps", spec := "mosaicKeeps", unfollowed := true, recurses := true, plainKeys := false, apart := false }
def MosaicKeepsSaid : Prop := mosaicKeepsRow.holds Try.pinned (OpenSpec.ofChange mosaicKeepsSpec)

/-- ITS FALSE NEIGHBOUR: 'it returns false'. Refute it at one input. -/
def mosaicKeepsWrong : ChangeSpec := { name := "mosaicKeeps", fn := fun _ => fun
  | [d1, d2, d3] => { results := [.lit (.bool false)], args := [d1, d2, d3] }
  | _ => none }
def MosaicKeepsWrongFalsely : Prop := mosaicKeepsRow.holds Try.pinned (OpenSpec.ofChange mosaicKeepsWrong)

/-- 'darkslidelaw.ToneMixes': WHATEVER THE INPUT: true; the input reads as it did. -/
def toneMixesSpec : ChangeSpec := { name := "toneMixes", fn := fun _ => fun
  | [d1, d2] => { results := [.lit (.bool true)], args := [d1, d2] }
  | _ => none }
def toneMixesRow : OpenClaim := { program := "ytolcndchfnifhab", sum := "8626cc38bbb3fe5080a5f1d3013b6682bc6bdb530a7315e4e658b4314019323e", func := "darkslide/darkslidelaw.ToneMixes", spec := "toneMixes", unfollowed := true, recurses := true, plainKeys := false, apart := false }
def ToneMixesSaid : Prop := toneMixesRow.holds Try.pinned (OpenSpec.ofChange toneMixesSpec)

/-- ITS FALSE NEIGHBOUR: 'it returns false'. Refute it at one input. -/
def toneMixesWrong : ChangeSpec := { name := "toneMixes", fn := fun _ => fun
  | [d1, d2] => { results := [.lit (.bool false)], args := [d1, d2] }
  | _ => none }
def ToneMixesWrongFalsely : Prop := toneMixesRow.holds Try.pinned (OpenSpec.ofChange toneMixesWrong)

/-- 'darkslidelaw.ToneBends': WHATEVER THE INPUT: true; the input reads as it did. -/
def toneBendsSpec : ChangeSpec := { name := "toneBends", fn := fun _ => fun
  | [d1, d2, d3] => { results := [.lit (.bool true)], args := [d1, d2, d3] }
  | _ => none }
def toneBendsRow : OpenClaim := { program := "ytolcndchfnifhab", sum := "8626cc38bbb3fe5080a5f1d3013b6682bc6bdb530a7315e4e658b4314019323e", func := "darkslide/darkslidelaw.ToneBends", spec := "toneBends", unfollowed := true, recurses := true, plainKeys := false, apart := false }
def ToneBendsSaid : Prop := toneBendsRow.holds Try.pinned (OpenSpec.ofChange toneBendsSpec)

/-- ITS FALSE NEIGHBOUR: 'it returns false'. Refute it at one input. -/
def toneBendsWrong : ChangeSpec := { name := "toneBends", fn := fun _ => fun
  | [d1, d2, d3] => { results := [.lit (.bool false)], args := [d1, d2, d3] }
  | _ => none }
def ToneBendsWrongFalsely : Prop := toneBendsRow.holds Try.pinned (OpenSpec.ofChange toneBendsWrong)

/-- 'darkslidelaw.ToneRises': WHATEVER THE INPUT: true; the input reads as it did. -/
def toneRisesSpec : ChangeSpec := { name := "toneRises", fn := fun _ => fun
  | [d1, d2, d3, d4] => { results := [.lit (.bool true)], args := [d1, d2, d3, d4] }
  | _ => none }
def toneRisesRow : OpenClaim := { program := "ytolcndchfnifhab", sum := "8626cc38bbb3fe5080a5f1d3013b6682bc6bdb530a7315e4e658b4314019323e", func := "darkslide/darkslidelaw.ToneRises", spec := "toneRises", unfollowed := true, recurses := true, plainKeys := false, apart := false }
def ToneRisesSaid : Prop := toneRisesRow.holds Try.pinned (OpenSpec.ofChange toneRisesSpec)

/-- ITS FALSE NEIGHBOUR: 'it returns false'. Refute it at one input. -/
def toneRisesWrong : ChangeSpec := { name := "toneRises", fn := fun _ => fun
  | [d1, d2, d3, d4] => { results := [.lit (.bool false)], args := [d1, d2, d3, d4] }
  | _ => none }
def ToneRisesWrongFalsely : Prop := toneRisesRow.holds Try.pinned (OpenSpec.ofChange toneRisesWrong)

/-- 'darkslidelaw.ToneSharpens': WHATEVER THE INPUT: true; the input reads as it did. -/
def toneSharpensSpec : ChangeSpec := { name := "toneSharpens", fn := fun _ => fun
  | [d1, d2] => { results := [.lit (.bool true)], args := [d1, d2] }
  | _ => none }
def toneSharpensRow : OpenClaim := { program := "ytolcndchfnifhab", sum := "8626cc38bbb3fe5080a5f1d3013b6682bc6bdb530a7315e4e658b4314019323e", func := "darkslide/darkslidelaw.ToneSharpens", spec := "toneSharpens", unfollowed := true, recurses := true, plainKeys := false, apart := false }
def ToneSharpensSaid : Prop := toneSharpensRow.holds Try.pinned (OpenSpec.ofChange toneSharpensSpec)

/-- ITS FALSE NEIGHBOUR: 'it returns false'. Refute it at one input. -/
def toneSharpensWrong : ChangeSpec := { name := "toneSharpens", fn := fun _ => fun
  | [d1, d2] => { results := [.lit (.bool false)], args := [d1, d2] }
  | _ => none }
def ToneSharpensWrongFalsely : Prop := toneSharpensRow.holds Try.pinned (OpenSpec.ofChange toneSharpensWrong)

/-- 'darkslidelaw.ToneFlat': WHATEVER THE INPUT: true; the input reads as it did. -/
def toneFlatSpec : ChangeSpec := { name := "toneFlat", fn := fun _ => fun
  | [d1, d2, d3, d4, d5] => { results := [.lit (.bool true)], args := [d1, d2, d3, d4, d5] }
  | _ => none }
def toneFlatRow : OpenClaim := { program := "ytolcndchfnifhab", sum := "8626cc38bbb3fe5080a5f1d3013b6682bc6bdb530a7315e4e658b4314019323e", func := "darkslide/darkslidelaw.ToneFlat", spec := "toneFlat", unfollowed := true, recurses := true, plainKeys := false, apart := false }
def ToneFlatSaid : Prop := toneFlatRow.holds Try.pinned (OpenSpec.ofChange toneFlatSpec)

/-- ITS FALSE NEIGHBOUR: 'it returns false'. Refute it at one input. -/
def toneFlatWrong : ChangeSpec := { name := "toneFlat", fn := fun _ => fun
  | [d1, d2, d3, d4, d5] => { results := [.lit (.bool false)], args := [d1, d2, d3, d4, d5] }
  | _ => none }
def ToneFlatWrongFalsely : Prop := toneFlatRow.holds Try.pinned (OpenSpec.ofChange toneFlatWrong)

/-- 'darkslidelaw.LineWholes': WHATEVER THE INPUT: true; the input reads as it did. -/
def lineWholesSpec : ChangeSpec := { name := "lineWholes", fn := fun _ => fun
  | [d1, d2] => { results := [.lit (.bool true)], args := [d1, d2] }
  | _ => none }
def lineWholesRow : OpenClaim := { program := "ytolcndchfnifhab", sum := "8626cc38bbb3fe5080a5f1d3013b6682bc6bdb530a7315e4e658b4314019323e", func := "darkslide/darkslidelaw.LineWholes", spec := "lineWholes", unfollowed := true, recurses := true, plainKeys := false, apart := false }
def LineWholesSaid : Prop := lineWholesRow.holds Try.pinned (OpenSpec.ofChange lineWholesSpec)

/-- ITS FALSE NEIGHBOUR: 'it returns false'. Refute it at one input. -/
def lineWholesWrong : ChangeSpec := { name := "lineWholes", fn := fun _ => fun
  | [d1, d2] => { results := [.lit (.bool false)], args := [d1, d2] }
  | _ => none }
def LineWholesWrongFalsely : Prop := lineWholesRow.holds Try.pinned (OpenSpec.ofChange lineWholesWrong)

/-- 'darkslidelaw.LineParts': WHATEVER THE INPUT: true; the input reads as it did. -/
def linePartsSpec : ChangeSpec := { name := "lineParts", fn := fun _ => fun
  | [d1, d2, d3, d4, d5, d6] => { results := [.lit (.bool true)], args := [d1, d2, d3, d4, d5, d6] }
  | _ => none }
def linePartsRow : OpenClaim := { program := "ytolcndchfnifhab", sum := "8626cc38bbb3fe5080a5f1d3013b6682bc6bdb530a7315e4e658b4314019323e", func := "darkslide/darkslidelaw.LineParts", spec := "lineParts", unfollowed := true, recurses := true, plainKeys := false, apart := false }
def LinePartsSaid : Prop := linePartsRow.holds Try.pinned (OpenSpec.ofChange linePartsSpec)

/-- ITS FALSE NEIGHBOUR: 'it returns false'. Refute it at one input. -/
def linePartsWrong : ChangeSpec := { name := "lineParts", fn := fun _ => fun
  | [d1, d2, d3, d4, d5, d6] => { results := [.lit (.bool false)], args := [d1, d2, d3, d4, d5, d6] }
  | _ => none }
def LinePartsWrongFalsely : Prop := linePartsRow.holds Try.pinned (OpenSpec.ofChange linePartsWrong)

/-- 'darkslidelaw.LineStrips': WHATEVER THE INPUT: true; the input reads as it did. -/
def lineStripsSpec : ChangeSpec := { name := "lineStrips", fn := fun _ => fun
  | [d1, d2, d3] => { results := [.lit (.bool true)], args := [d1, d2, d3] }
  | _ => none }
def lineStripsRow : OpenClaim := { program := "ytolcndchfnifhab", sum := "8626cc38bbb3fe5080a5f1d3013b6682bc6bdb530a7315e4e658b4314019323e", func := "darkslide/darkslidelaw.LineStrips", spec := "lineStrips", unfollowed := true, recurses := true, plainKeys := false, apart := false }
def LineStripsSaid : Prop := lineStripsRow.holds Try.pinned (OpenSpec.ofChange lineStripsSpec)

/-- ITS FALSE NEIGHBOUR: 'it returns false'. Refute it at one input. -/
def lineStripsWrong : ChangeSpec := { name := "lineStrips", fn := fun _ => fun
  | [d1, d2, d3] => { results := [.lit (.bool false)], args := [d1, d2, d3] }
  | _ => none }
def LineStripsWrongFalsely : Prop := lineStripsRow.holds Try.pinned (OpenSpec.ofChange lineStripsWrong)

/-- 'darkslidelaw.LineAlike': WHATEVER THE INPUT: true; the input reads as it did. -/
def lineAlikeSpec : ChangeSpec := { name := "lineAlike", fn := fun _ => fun
  | [d1, d2, d3, d4] => { results := [.lit (.bool true)], args := [d1, d2, d3, d4] }
  | _ => none }
def lineAlikeRow : OpenClaim := { program := "ytolcndchfnifhab", sum := "8626cc38bbb3fe5080a5f1d3013b6682bc6bdb530a7315e4e658b4314019323e", func := "darkslide/darkslidelaw.LineAlike", spec := "lineAlike", unfollowed := true, recurses := true, plainKeys := false, apart := false }
def LineAlikeSaid : Prop := lineAlikeRow.holds Try.pinned (OpenSpec.ofChange lineAlikeSpec)

/-- ITS FALSE NEIGHBOUR: 'it returns false'. Refute it at one input. -/
def lineAlikeWrong : ChangeSpec := { name := "lineAlike", fn := fun _ => fun
  | [d1, d2, d3, d4] => { results := [.lit (.bool false)], args := [d1, d2, d3, d4] }
  | _ => none }
def LineAlikeWrongFalsely : Prop := lineAlikeRow.holds Try.pinned (OpenSpec.ofChange lineAlikeWrong)

/- THE SECOND FORM. 'bulk': how many values and letters a reading holds, each counted each time it is reached (what is shared counts as often as it is met; a slice's spare places count too). A statement '..UptoSaid' is the law's where the arguments, and the package variables that the reading takes, are together of bulk at most 1048576: NARROWER than '..Said'. Prove '..Said' where nothing that the law and all that it calls make is longer than what came in: it says more and counts as full. Else prove '..UptoSaid'. A law counts once. -/
mutual
def uptoBulk {H : Type} : DataW H → Nat
  | .lit (.string bytes) => bytes.length + 1
  | .lit _ => 1
  | .nil => 1
  | .ptr d => uptoBulk d + 1
  | .slice elems spare => uptoBulkAll elems + uptoBulkAll spare + 1
  | .agg parts => uptoBulkAll parts + 1
  | .iface _ d => uptoBulk d + 1
  | .map entries => uptoBulkEntries entries + 1
  | .held _ => 1
def uptoBulkAll {H : Type} : List (DataW H) → Nat
  | [] => 0
  | d :: r => uptoBulk d + uptoBulkAll r
def uptoBulkEntries {H : Type} : List (Lit × DataW H) → Nat
  | [] => 0
  | x :: r => uptoBulkEntry x + uptoBulkEntries r
def uptoBulkEntry {H : Type} : Lit × DataW H → Nat
  | (.string bytes, d) => bytes.length + uptoBulk d + 1
  | (_, d) => uptoBulk d + 1
 end
def uptoSmall : (H : Type) → List (DataW H) → Bool := fun _ ds => decide (uptoBulkAll ds ≤ 1048576)
def OpenSpec.upto (s : _root_.Go.ChangeSpec) : _root_.Go.OpenSpec := { _root_.Go.OpenSpec.ofChange s with cond := some uptoSmall }

/-- 'darkslidelaw.SensorGains', WHERE WHAT IT READS IS OF BULK AT MOST 1048576: true; the input reads as it did. -/
def sensorGainsUptoRow : OpenClaim := { program := "ytolcndchfnifhab", sum := "8626cc38bbb3fe5080a5f1d3013b6682bc6bdb530a7315e4e658b4314019323e", func := "darkslide/darkslidelaw.SensorGains", spec := "sensorGains", unfollowed := true, recurses := true, plainKeys := false, apart := false, narrowed := true }
def SensorGainsUptoSaid : Prop := sensorGainsUptoRow.holds Try.pinned (OpenSpec.upto sensorGainsSpec)

/-- 'darkslidelaw.MosaicFills', WHERE WHAT IT READS IS OF BULK AT MOST 1048576: true; the input reads as it did. -/
def mosaicFillsUptoRow : OpenClaim := { program := "ytolcndchfnifhab", sum := "8626cc38bbb3fe5080a5f1d3013b6682bc6bdb530a7315e4e658b4314019323e", func := "darkslide/darkslidelaw.MosaicFills", spec := "mosaicFills", unfollowed := true, recurses := true, plainKeys := false, apart := false, narrowed := true }
def MosaicFillsUptoSaid : Prop := mosaicFillsUptoRow.holds Try.pinned (OpenSpec.upto mosaicFillsSpec)

/-- 'darkslidelaw.MosaicKeeps', WHERE WHAT IT READS IS OF BULK AT MOST 1048576: true; the input reads as it did. -/
def mosaicKeepsUptoRow : OpenClaim := { program := "ytolcndchfnifhab", sum := "8626cc38bbb3fe5080a5f1d3013b6682bc6bdb530a7315e4e658b4314019323e", func := "darkslide/darkslidelaw.MosaicKeeps", spec := "mosaicKeeps", unfollowed := true, recurses := true, plainKeys := false, apart := false, narrowed := true }
def MosaicKeepsUptoSaid : Prop := mosaicKeepsUptoRow.holds Try.pinned (OpenSpec.upto mosaicKeepsSpec)

/-- 'darkslidelaw.ToneMixes', WHERE WHAT IT READS IS OF BULK AT MOST 1048576: true; the input reads as it did. -/
def toneMixesUptoRow : OpenClaim := { program := "ytolcndchfnifhab", sum := "8626cc38bbb3fe5080a5f1d3013b6682bc6bdb530a7315e4e658b4314019323e", func := "darkslide/darkslidelaw.ToneMixes", spec := "toneMixes", unfollowed := true, recurses := true, plainKeys := false, apart := false, narrowed := true }
def ToneMixesUptoSaid : Prop := toneMixesUptoRow.holds Try.pinned (OpenSpec.upto toneMixesSpec)

/-- 'darkslidelaw.ToneBends', WHERE WHAT IT READS IS OF BULK AT MOST 1048576: true; the input reads as it did. -/
def toneBendsUptoRow : OpenClaim := { program := "ytolcndchfnifhab", sum := "8626cc38bbb3fe5080a5f1d3013b6682bc6bdb530a7315e4e658b4314019323e", func := "darkslide/darkslidelaw.ToneBends", spec := "toneBends", unfollowed := true, recurses := true, plainKeys := false, apart := false, narrowed := true }
def ToneBendsUptoSaid : Prop := toneBendsUptoRow.holds Try.pinned (OpenSpec.upto toneBendsSpec)

/-- 'darkslidelaw.ToneRises', WHERE WHAT IT READS IS OF BULK AT MOST 1048576: true; the input reads as it did. -/
def toneRisesUptoRow : OpenClaim := { program := "ytolcndchfnifhab", sum := "8626cc38bbb3fe5080a5f1d3013b6682bc6bdb530a7315e4e658b4314019323e", func := "darkslide/darkslidelaw.ToneRises", spec := "toneRises", unfollowed := true, recurses := true, plainKeys := false, apart := false, narrowed := true }
def ToneRisesUptoSaid : Prop := toneRisesUptoRow.holds Try.pinned (OpenSpec.upto toneRisesSpec)

/-- 'darkslidelaw.ToneSharpens', WHERE WHAT IT READS IS OF BULK AT MOST 1048576: true; the input reads as it did. -/
def toneSharpensUptoRow : OpenClaim := { program := "ytolcndchfnifhab", sum := "8626cc38bbb3fe5080a5f1d3013b6682bc6bdb530a7315e4e658b4314019323e", func := "darkslide/darkslidelaw.ToneSharpens", spec := "toneSharpens", unfollowed := true, recurses := true, plainKeys := false, apart := false, narrowed := true }
def ToneSharpensUptoSaid : Prop := toneSharpensUptoRow.holds Try.pinned (OpenSpec.upto toneSharpensSpec)

/-- 'darkslidelaw.ToneFlat', WHERE WHAT IT READS IS OF BULK AT MOST 1048576: true; the input reads as it did. -/
def toneFlatUptoRow : OpenClaim := { program := "ytolcndchfnifhab", sum := "8626cc38bbb3fe5080a5f1d3013b6682bc6bdb530a7315e4e658b4314019323e", func := "darkslide/darkslidelaw.ToneFlat", spec := "toneFlat", unfollowed := true, recurses := true, plainKeys := false, apart := false, narrowed := true }
def ToneFlatUptoSaid : Prop := toneFlatUptoRow.holds Try.pinned (OpenSpec.upto toneFlatSpec)

/-- 'darkslidelaw.LineWholes', WHERE WHAT IT READS IS OF BULK AT MOST 1048576: true; the input reads as it did. -/
def lineWholesUptoRow : OpenClaim := { program := "ytolcndchfnifhab", sum := "8626cc38bbb3fe5080a5f1d3013b6682bc6bdb530a7315e4e658b4314019323e", func := "darkslide/darkslidelaw.LineWholes", spec := "lineWholes", unfollowed := true, recurses := true, plainKeys := false, apart := false, narrowed := true }
def LineWholesUptoSaid : Prop := lineWholesUptoRow.holds Try.pinned (OpenSpec.upto lineWholesSpec)

/-- 'darkslidelaw.LineParts', WHERE WHAT IT READS IS OF BULK AT MOST 1048576: true; the input reads as it did. -/
def linePartsUptoRow : OpenClaim := { program := "ytolcndchfnifhab", sum := "8626cc38bbb3fe5080a5f1d3013b6682bc6bdb530a7315e4e658b4314019323e", func := "darkslide/darkslidelaw.LineParts", spec := "lineParts", unfollowed := true, recurses := true, plainKeys := false, apart := false, narrowed := true }
def LinePartsUptoSaid : Prop := linePartsUptoRow.holds Try.pinned (OpenSpec.upto linePartsSpec)

/-- 'darkslidelaw.LineStrips', WHERE WHAT IT READS IS OF BULK AT MOST 1048576: true; the input reads as it did. -/
def lineStripsUptoRow : OpenClaim := { program := "ytolcndchfnifhab", sum := "8626cc38bbb3fe5080a5f1d3013b6682bc6bdb530a7315e4e658b4314019323e", func := "darkslide/darkslidelaw.LineStrips", spec := "lineStrips", unfollowed := true, recurses := true, plainKeys := false, apart := false, narrowed := true }
def LineStripsUptoSaid : Prop := lineStripsUptoRow.holds Try.pinned (OpenSpec.upto lineStripsSpec)

/-- 'darkslidelaw.LineAlike', WHERE WHAT IT READS IS OF BULK AT MOST 1048576: true; the input reads as it did. -/
def lineAlikeUptoRow : OpenClaim := { program := "ytolcndchfnifhab", sum := "8626cc38bbb3fe5080a5f1d3013b6682bc6bdb530a7315e4e658b4314019323e", func := "darkslide/darkslidelaw.LineAlike", spec := "lineAlike", unfollowed := true, recurses := true, plainKeys := false, apart := false, narrowed := true }
def LineAlikeUptoSaid : Prop := lineAlikeUptoRow.holds Try.pinned (OpenSpec.upto lineAlikeSpec)

end Rows
end Go.Proofs.Ytolcndchfnifhab
