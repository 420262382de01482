/- Re: part 9 of what the proofs need. -/
import Derived.Test.YtfjeonehdlphiaaGreatDoorC3Re
import Derived.Deep.RegionWith
set_option linter.unusedVariables false
set_option maxHeartbeats 400000
set_option maxRecDepth 100000
namespace Go.Proofs.YtfjeonehdlphiaaGreatDoor
open Go.RowKit
theorem jPHi {P : Program} {w : World} {src e dst : TypeId} {g : Nat} {c : Int} (hs : P.underlying src = some (.slice e)) (he : P.underlying e = some (.int .u8)) (hd : P.underlying dst = some .string)
    (h : w.cell? ⟨g, 0, none⟩ = some (.int .u8 c)) :
    (convert src dst (.slice (some ⟨g, 0, none⟩) 1 1)).run P w = .ok (.string (str [UInt8.ofNat c.toNat])) w := by
  rw [run_convert_bytes_arg (P := P) w src e hs he g 0 1 1 [c] rfl (fun i hi => by obtain rfl : i = 0 := by omega
                                                                                   simpa using h) dst hd]
  rfl
theorem XZyK {w W w1:World} {v:Value} {t:TypeId} (hb:Below W.heap.size W w1) (hW:W=(w.alloc (.cells #[v] t)).drew):w1.cell? ⟨w.heap.size,0,none⟩=some v:=by
 subst hW
 exact (hb.cell (p:=⟨w.heap.size,0,none⟩) (by simp)).trans (by simp)
theorem q82o (k n:Nat) (hk:k+1≤16) (hn:n<65536):IntKind.i64.wrap ((n:Int) / 2)=((n / 2:Nat):Int)∧IntKind.i64.wrap (k:Int)=(k:Int) ∧
  IntKind.u8.wrap (48+IntKind.u8.wrap ((n:Int).tmod 2))=((48+n % 2:Nat):Int):=by
 refine ⟨?_,?_,?_⟩
 ·rw[IntKind.wrap_i64];omega
 ·rw[IntKind.wrap_i64];omega
 ·rw[show (n:Int).tmod 2=((n % 2:Nat):Int) by rw[Int.tmod_eq_emod_of_nonneg (by omega)];omega]
  simp only[IntKind.wrap,IntKind.signed,IntKind.bits]
  simp
  omega
theorem jfHn (size:Nat):∀(n:Nat) (w:World),size≤16→n<65536 → 
  Calls Tryz.prog 133 #[.int .i64 n,.int .i64 size] w fun e w'=>e=.returned (.string (str (jJyG n size)))∧Below w.heap.size w w':=by
 induction size with
 | zero =>
  intro n w _ _
  go_enter Tryz.func133,Tryz.ntmps133
  go_wp2
  go_ret
  exact ⟨rfl,Below.refl _ _⟩
 | succ k ih =>
  intro n w hk hn
  have IH:=hide ih;clear ih
  have hcv:=fun (wx:World) (g:Nat) (c:Int)=>@jPHi Tryz.prog wx _ _ _ g c Tryz.underlying74 Tryz.underlying5 Tryz.underlying9
  obtain ⟨hw1,hw2,hw3⟩:=q82o k n hk hn
  obtain ⟨c,hc⟩:∃c:Nat,c=48+n % 2:=⟨_,rfl⟩
  obtain ⟨m,hm⟩:∃m:Nat,m=n / 2:=⟨_,rfl⟩
  rw[←hc] at hw3
  rw[←hm] at hw1
  have hfin:jJyG n (k+1)=jJyG m k++[UInt8.ofNat c]:=by rw[hc,hm];rfl
  have hm':m<65536:=by omega
  have HF:=hide hfin;clear hfin hc hm
  have hs1:(str (jJyG m k)).size=k:=by rw[qzX5,zrCv]
  have hs2:(str [UInt8.ofNat c]).size=1:=by rw[qzX5];rfl
  have hs3:¬9223372036854775807<k+1:=by omega
  go_enter Tryz.func133,Tryz.ntmps133
  go_wp2
  go_region_with (go_at_call 133;refine (IH.out m _ (by omega) hm').mono ?_;rintro e w' ⟨rfl,hb⟩;try (have hcx:=XZyK (w:=w) (v:=.int .u8 c) (t:=5) hb rfl))
  all_goals go_wp2
  all_goals go_ret
  all_goals refine ⟨congrArg (fun l=>Ending.returned (.string (str l))) HF.out.symm,?_⟩
  ·exact ((Below.drew (Below.refl _ _)).trans hb).alloc hb.size _
  ·exact (((Below.refl _ w).alloc (Nat.le_refl _) _).drew).trans (hb.mono (by simp))
  ·exact (((Below.refl _ w).alloc (Nat.le_refl _) _).drew).trans (hb.mono (by simp))
end Go.Proofs.YtfjeonehdlphiaaGreatDoor
