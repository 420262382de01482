/- Sw: part 10 of what the proofs need. -/
import Derived.Test.YtfjeonehdlphiaaGreatDoorC4Sw
import Derived.Deep.RegionWith
set_option linter.unusedVariables false
namespace Go.Proofs.YtfjeonehdlphiaaGreatDoor
open Go.RowKit
theorem jPHi {P : Program} {w : World} {src e dst : TypeId} {g : Nat} {c : Int} (hs : P.underlying src = some (.slice e)) (he : P.underlying e = some (.int .u8)) (hd : P.underlying dst = some .string)
    (h : w.cell? ⟨g, 0, none⟩ = some (.int .u8 c)) :
    (convert src dst (.slice (some ⟨g, 0, none⟩) 1 1)).run P w = .ok (.string (str [UInt8.ofNat c.toNat])) w := by
  rw [run_convert_bytes_arg (P := P) w src e hs he g 0 1 1 [c] rfl (fun i hi => by obtain rfl : i = 0 := by omega
                                                                                   simpa using h) dst hd]
  rfl
end Go.Proofs.YtfjeonehdlphiaaGreatDoor
