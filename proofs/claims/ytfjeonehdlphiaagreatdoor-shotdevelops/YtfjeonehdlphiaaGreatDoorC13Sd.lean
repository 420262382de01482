/- Part 13. -/
import Derived.Test.YtfjeonehdlphiaaGreatDoorC10Sd
import Derived.RangeFuncNested
import Derived.RangeFuncBound
import Derived.Shelf.RegionOpen
import Derived.OwnWalkIn
import Derived.LoopNIn
import Derived.LoopIn
open List renaming finRange → ka
open Go.Value renaming int → Z
open Go.IntKind renaming i64 → G
set_option linter.unusedVariables false
set_option maxHeartbeats 1000000
set_option maxRecDepth 100000
namespace Go.Proofs.YtfjeonehdlphiaaGreatDoor
open _root_.Go.Proofs.Tryz
open Go.RowKit Go.Shelf
attribute [local go_sem] Oper.semAt_some
def dL (N k:Nat):List (Fin N):=(ka N).take k
theorem mS (N k:Nat) (h:k<N):dL N (k+1)=dL N k++[⟨k,h⟩]:=by
 unfold dL;rw[List.take_succ_eq_append_getElem (by simpa using h)];simp
theorem pz (N k:Nat) (h:k<=N):(dL N k).length=k:=by unfold dL;simp;omega
theorem rM (N k:Nat):dL N k <+: ka N:=List.take_prefix _ _
theorem py (N:Nat):dL N N=ka N:=List.take_of_length_le sS
theorem vr {α:Type} (N:Nat) (f:Nat->α):(ka N).map (fun j=>f j.1)=(List.range N).map f:=by
 apply List.ext_getElem
 ·simp
 ·intro i a b;simp
def fF (a:Nat) (A B:World):Prop:=B.heap[a]?=A.heap[a]?
theorem DQ (F:Fence) (n:Nat) (Q:F.fn 154) (S:F.round=none) (hn:1<=n) (l c W H N:Nat) (hW:W<=64) (hH:H<=64) (r:N=H*W) (b p:List (Fin N)->World->Prop)
  (K:∀f (x:Fin N) V,b f V->f.length<N->YieldAt F (n-1) prog l #[.agg #[Z G (x.1 % W:Nat),Z G (x.1 / W:Nat)]] V fun e g =>
   (e=.returned (.bool true)/\b (f++[x]) g/\fF c V g)\/(e=.returned (.bool false)/\p (f++[x]) g))
  (V:World) (t:V.cell? ⟨c,0,none⟩=some (Z G W)) (L:V.cell? ⟨c,1,none⟩=some (Z G H)) (q:b [] V) :
  CallsIn F n prog 154 #[.func (.yield l) #[] #[],.pointer (some ⟨c,0,none⟩)] V fun e g=>(∃v,e=.returned v) /\
   ((∃A,A=ka N/\b A g)\/(∃f,f <+: ka N/\p f g)):=by
 have HN:=qH r;clear r;refine callsIn_of_wp func154 rfl Q ?_ S;simp only[ntmps154,List.size_toArray,List.length_cons,List.length_nil,Nat.reduceAdd,Nat.reduceSub,Array.replicate_succ,Array.replicate_zero,List.push_toArray,List.append_toArray,List.nil_append,List.cons_append]
 gi_wp2
 gi_loopw [7] (fun i wr=>∃y:Nat,y<=H/\i=Z G y/\b (dL N (y*W)) wr/\wr.cell? ⟨c,0,none⟩=some (Z G W)) (fun i _=>H-(intOf i).toNat)
 case atStart=>exact ⟨0,Nat.zero_le _,rfl,by rw[Nat.zero_mul];exact q,t⟩
 case round =>
  obtain ⟨y,hy,rfl,d,h⟩:=hrel;clear t L q;by_cases R:y<H
  ·have O:decide ((y:Int)<(H:Int))=true:=sO;obtain ⟨M,j⟩:∃M,M=y*W:=⟨_,rfl⟩;rw[<-j] at d;have u:M+W<=N:=by
    rw[HN.1,j,<-Nat.succ_mul];exact Nat.mul_le_mul_right W R
   have B:=qH u;have m:=qH (fun x (w:x<W)=>show (M+x) % W=x/\(M+x) / W=y by rw[j];exact nf w);have C:=qH (show dL N ((y+1)*W)=dL N (M+W) by rw[Nat.succ_mul,j]);clear j u
   gi_wp2
   gi_loopw [12] (fun i wr=>∃x:Nat,x<=W/\i=Z G x/\b (dL N (M+x)) wr/\wr.cell? ⟨c,0,none⟩=some (Z G W)) (fun i _=>W-(intOf i).toNat)
   case atStart=>exact ⟨0,Nat.zero_le _,rfl,d,h⟩
   case round =>
    clear d h;obtain ⟨x,w,rfl,d,h⟩:=hrel;by_cases z:x<W
    ·have P:decide ((x:Int)<(W:Int))=true:=sO;have k:M+x<N:=(by have:=B.1;omega);have o:=qH (mS N (M+x) k);have D:=qH (show dL N (M+x)++[⟨M+x,k⟩] <+: ka N by
      rw[<-o.1];exact rM N _)
     have s:=K (dL N (M+x)) ⟨M+x,k⟩ _ d (by rw[pz _ _ oM];exact k);simp only[(m.1 x z).1,(m.1 x z).2] at s;obtain ⟨Y,tmps,U,X,hy',I⟩:=s
     gi_wp2;refine I.mono ?_;rintro e T (⟨rfl,hJ3,hk3⟩|⟨rfl,hJx3⟩)
     ·have E:=(World.cell?_of_block (a:=⟨c,0,none⟩) hk3).trans h;rw[<-o.1] at hJ3
      gi_wp2;go_roundw
      case rel=>exact ⟨x+1,oM,gN,hJ3,E⟩
      case measure=>simp[intOf];omega
     ·gi_wp2;refine bodyPost_ret (results_none rfl _ _ _) rfl ?_;exact ⟨⟨_,rfl⟩,.inr ⟨_,D.1,hJx3⟩⟩
    ·have P:decide ((x:Int)<(W:Int))=false:=sO;obtain rfl:x=W:=oM
     gi_wp2;go_roundw
     case rel=>exact ⟨y+1,oM,gN,by rw[C.1];exact d,h⟩
     case measure=>simp[intOf];omega
  ·obtain rfl:y=H:=oM;have O:decide ((y:Int)<(y:Int))=false:=sS
   gi_wp2;go_end0;exact ⟨⟨_,rfl⟩,.inl ⟨_,by rw[<-HN.1,py],d⟩⟩
end Go.Proofs.YtfjeonehdlphiaaGreatDoor
