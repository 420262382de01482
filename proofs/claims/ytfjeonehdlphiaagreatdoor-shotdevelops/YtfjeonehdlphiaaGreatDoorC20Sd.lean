/- Part 20. -/
import Derived.Test.YtfjeonehdlphiaaGreatDoorC11Sd
import Derived.Deep.RegionWith
open Go.Value renaming int → Z, slice → J
open Go.IntKind renaming i64 → G
set_option linter.unusedVariables false
set_option maxHeartbeats 400000
set_option maxRecDepth 100000
namespace Go.Proofs.YtfjeonehdlphiaaGreatDoor
open Go.RowKit
open _root_.Go.Proofs.Tryz
theorem sK {P:Program} {w:World} {a e dst:TypeId} {g:Nat} {c:Int} (f:P.underlying a=some (.slice e)) (d:P.underlying e=some (.int .u8)) (b:P.underlying dst=some .string)
  (h:w.cell? ⟨g,0,none⟩=some (.int .u8 c)) :
  (convert a dst (J (some ⟨g,0,none⟩) 1 1)).run P w=.ok (.string (lh [UInt8.ofNat c.toNat])) w:=by
 rw[run_convert_bytes_arg (P:=P) w a e f d g 0 1 1 [c] rfl (fun i j=>by
  obtain rfl:i=0:=oM;simpa using h) dst b]
 rfl
theorem zC {w W w1:World} {v:Value} {t:TypeId} (b:Below W.heap.size W w1) (a:W=(w.alloc (.cells #[v] t)).drew):w1.cell? ⟨w.heap.size,0,none⟩=some v:=by
 subst a;exact (b.cell (p:=⟨w.heap.size,0,none⟩) sS).trans sS
theorem EZ (k n:Nat) (a:k+1<=16) (b:n<65536):IntKind.i64.wrap ((n:Int) / 2)=((n / 2:Nat):Int)/\IntKind.i64.wrap (k:Int)=(k:Int) /\
  IntKind.u8.wrap (48+IntKind.u8.wrap ((n:Int).tmod 2))=((48+n % 2:Nat):Int):=by
 refine ⟨?_,?_,?_⟩
 ·rw[IntKind.wrap_i64];omega
 ·rw[IntKind.wrap_i64];omega
 ·rw[show (n:Int).tmod 2=((n % 2:Nat):Int) by rw[Int.tmod_eq_emod_of_nonneg oM];omega];simp only[IntKind.wrap,IntKind.signed,IntKind.bits];simp;omega
theorem xt (size:Nat):∀(n:Nat) (w:World),size<=16->n<65536 -> 
  Calls prog 133 #[Z G n,Z G size] w (rT w (.string (lh (aL n size)))):=by
 induction size with
 | zero =>
  intro n w _ _;go_enter func133,ntmps133;go_wp2;go_ret;exact ⟨rfl,Below.refl _ _⟩
 | succ k ih =>
  intro n w o q;have j:=qH ih;clear ih;have x:=fun (u:World) (g:Nat) (c:Int)=>@sK prog u _ _ _ g c underlying74 underlying5 underlying9;obtain ⟨r,C,s⟩:=EZ k n o q;obtain ⟨c,b⟩:∃c:Nat,c=48+n % 2:=⟨_,rfl⟩;obtain ⟨m,d⟩:∃m:Nat,m=n / 2:=⟨_,rfl⟩;rw[<-b] at s;rw[<-d] at r;have f:aL n (k+1)=aL m k++[UInt8.ofNat c]:=by rw[b,d];rfl
  have p:m<65536:=oM;have i:=qH f;clear f b d;have z:(lh (aL m k)).size=k:=by rw[bn,dW]
  have A:(lh [UInt8.ofNat c]).size=1:=by rw[bn];rfl
  have B:¬9223372036854775807<k+1:=oM;go_enter func133,ntmps133;go_wp2;go_region_with (go_at_call 133;refine (j.1 m _ oM p).mono ?_;rintro e w' ⟨rfl,a⟩;try (have y:=zC (w:=w) (v:=.int .u8 c) (t:=5) a rfl))
  all_goals go_wp2
  all_goals go_ret
  all_goals refine ⟨congrArg (fun l=>Ending.returned (.string (lh l))) i.1.symm,?_⟩
  ·exact ((Below.drew (Below.refl _ _)).trans a).alloc a.size _
  ·exact (((Below.refl _ w).alloc (Nat.le_refl _) _).drew).trans (a.mono sS)
  ·exact (((Below.refl _ w).alloc (Nat.le_refl _) _).drew).trans (a.mono sS)
end Go.Proofs.YtfjeonehdlphiaaGreatDoor
