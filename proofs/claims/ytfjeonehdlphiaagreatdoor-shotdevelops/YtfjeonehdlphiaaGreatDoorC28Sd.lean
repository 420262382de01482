/- Part 28. -/
import Derived.Test.YtfjeonehdlphiaaGreatDoorC21Sd
import Derived.Deep.RegionHeld3
open Go.Value renaming int → Z, slice → J
open Go.IntKind renaming i64 → G
set_option linter.unusedVariables false
set_option maxHeartbeats 800000
set_option maxRecDepth 100000
namespace Go.Proofs.YtfjeonehdlphiaaGreatDoor
open Go.RowKit
open _root_.Go.Proofs.Tryz
theorem EW (s g:Int) (m:0<=s/\s<=65535) (l:-65536<=g/\g<=131070) (w:World) :
  Calls prog 187 #[Z G s,Z G g] w (rQ w (Z G (eS s g))):=by
 have i:=qH (show ∀d:Int,-32768<d->d<=32768->(d-(s-g)) % 65536=0->d=eS s g from fun d a b c=>by unfold eS;split<;>omega);go_enter func187,ntmps187;go_wp2;go_loop [5] (fun v=>∃d:Int,v=Z G d/\-131070<=d/\d<=131071/\(d-(s-g)) % 65536=0) (fun v=>(intOf v+200000).toNat)
 case atStart=>exact ⟨s-g,rfl,oM,oM,oM⟩
 case round =>
  obtain ⟨d,rfl,k,e,f⟩:=hrel;by_cases h:32768<d
  ·go_wp2;go_round
   case rel=>exact ⟨d-65536,rfl,oM,oM,oM⟩
   case measure=>simp[intOf];omega
  ·go_wp2;go_loop [5] (fun v=>∃d:Int,v=Z G d/\-131070<=d/\d<=32768/\(d-(s-g)) % 65536=0) (fun v=>(200000-intOf v).toNat)
   case atStart=>exact ⟨d,rfl,oM,oM,oM⟩
   case round =>
    obtain ⟨d,rfl,k,e,f⟩:=hrel;by_cases h:d<=-32768
    ·go_wp2;go_round
     case rel=>exact ⟨d+65536,rfl,oM,oM,oM⟩
     case measure=>simp[intOf];omega
    ·have j:=qH (i.1 d oM e f);go_wp2;go_ret;exact ⟨aY j.1,rfl⟩
theorem CK (d:Int) (o:-32768<d) (q:d<=32768) (w:World) :
  Calls prog 138 #[Z G d] w (rT w (.string (lh (cQ d)))):=by
 have u:=mL o q;obtain ⟨C,a⟩:∃C,C=br d:=⟨_,rfl⟩;have f:=qH (xr d o q);rw[<-a] at u f;by_cases l:C=0
 ·have c:=qH (show ⟨#[]⟩=lh (cQ d) by rw[cQ,if_pos (.inl (a ▸ l))];rfl);clear a;subst l;go_enter func138,ntmps138;go_wp2_with (go_at_call 137;refine (f.1 _).mono ?_;rintro e w1 ⟨rfl,rfl⟩)
  go_ret;exact ⟨congrArg (fun x=>Ending.returned (.string x)) c.1,Below.refl _ _⟩
 by_cases s:C=16
 ·have c:=qH (show ⟨#[]⟩=lh (cQ d) by rw[cQ,if_pos (.inr (a ▸ s))];rfl);clear a;subst s;go_enter func138,ntmps138;go_wp2_with (go_at_call 137;refine (f.1 _).mono ?_;rintro e w1 ⟨rfl,rfl⟩)
  go_ret;exact ⟨congrArg (fun x=>Ending.returned (.string x)) c.1,Below.refl _ _⟩
 have c:=qH (show lh (aL (iy d) C)=lh (cQ d) by rw[cQ,if_neg oM,<-a]);obtain ⟨g,b⟩:=sY d oM;rw[<-a] at g b;have y:=qH g;have t:=lO (n:=C) oM;have j:=ic (n:=C) oM;have m:=qH (show iy d<65536 from Nat.lt_of_lt_of_le g j);rw[fL] at b;have A:((C:Int) == 0)=false:=sO;have B:((C:Int) == 16)=false:=sO;have D:d≠0:=fun e=>by rw[e] at a;exact l a
 clear a g;generalize iy d=N at *;by_cases r:d<0
 ·have v:decide (0<d)=false:=sO;rw[if_pos r] at b;obtain ⟨p,k⟩:=eX (2 ^ C);rw[k] at b j t;have z:=qH k;clear k;go_enter func138,ntmps138;go_wp2_with (go_at_call 137;refine (f.1 _).mono ?_;rintro e w1 ⟨rfl,rfl⟩)
  refine (sB _ _ N C (by rw[b]) rfl oM m.1 _).mono ?_;rintro e w1 ⟨rfl,i⟩;go_wp2;go_ret;exact ⟨congrArg (fun x=>Ending.returned (.string x)) c.1,i⟩
 ·have v:decide (0<d)=true:=sO;rw[if_neg r] at b;clear t j;go_enter func138,ntmps138;go_wp2_with (go_at_call 137;refine (f.1 _).mono ?_;rintro e w1 ⟨rfl,rfl⟩)
  refine (sB _ _ N C (by rw[b]) rfl oM m.1 _).mono ?_;rintro e w1 ⟨rfl,i⟩;go_wp2;go_ret;exact ⟨congrArg (fun x=>Ending.returned (.string x)) c.1,i⟩
theorem uY (v:Value) (zs:List Int) (W X Y:Nat) (H kind:Int) (k:Nat) (w:World) (T:ap w v zs) (hW1:1<=W) (hW:W<=64) (hk:k<zs.length) (N:zs.length<=4096) (E:fo zs=true) (i:X=k % W) (f:Y=k / W) :
  Calls prog 188 #[.agg #[Z G W,Z G H,v],Z G kind,Z G X,Z G Y] w (rT w (Z G (bj zs W kind k))):=by
 obtain ⟨l,o,s,p4⟩:=wL W k hW1;rw[<-i,<-f] at l;rw[<-f] at o s;rw[<-i] at s p4;have K:=qH T;obtain ⟨q,ca,rfl,hla,_⟩:=T;have hYb:Y<=4096:=by rw[f];exact Nat.le_trans (Nat.div_le_self k W) oM
 have R:=jD E (k-1);have S:=jD E (k-W);have P:=jD E (k-W-1);clear E;by_cases j:X=0
 ·by_cases g:Y=0
  ·have d:=qH (show 32768=bj zs W kind k by rw[bj,if_pos ⟨i ▸ j,f ▸ g⟩]);subst j g;clear i f R S P o s l;go_enter func188,ntmps188;go_wp2;go_ret;exact ⟨aY d.1,aq _ _⟩
  ·have d:=qH (show zs.getD (k-W) 0=bj zs W kind k by rw[bj,if_neg (fun h=>g (f.trans h.2)),if_neg (fun h=>g (f.trans h)),if_pos (i ▸ j)]);have Q:=o g;have hyb:((Y:Int) == 0)=false:=sO;subst j;obtain ⟨a,r⟩:∃a,Y=a+1:=⟨Y-1,oM⟩;have hyi:(Y:Int)-1=(a:Int):=oM;have hyb1:a<=4096:=oM;have I:=qH (show a*W+0=k-W by rw[r,Nat.succ_mul] at l;omega);clear i f s o l g R P r;go_enter func188,ntmps188;(go_wp2_with fail);refine (lW _ _ _ zs _ _ 0 a W (k-W) _ (K.1.alloc _) rfl rfl rfl I.1 oM N).mono ?_;rintro e w1 ⟨rfl,M⟩;go_wp2;go_ret;exact ⟨aY d.1,aG (aq _ _) M⟩
 ·have hxb:((X:Int) == 0)=false:=sO;obtain ⟨c,U⟩:∃c,X=c+1:=⟨X-1,oM⟩;have hxi:(X:Int)-1=(c:Int):=oM;have hxb1:c<=64:=oM;by_cases g:Y=0
  ·have d:=qH (show zs.getD (k-1) 0=bj zs W kind k by rw[bj,if_neg (fun h=>j (i.trans h.1)),if_pos (f ▸ g)]);subst g;have I:=qH (show 0*W+c=k-1 by rw[Nat.zero_mul] at l |-;omega);clear i f s o S P l U j;go_enter func188,ntmps188;(go_wp2_with fail);refine (lW _ _ _ zs _ _ c 0 W (k-1) _ (K.1.alloc _) rfl rfl rfl I.1 oM N).mono ?_;rintro e w1 ⟨rfl,M⟩;go_wp2;go_ret;exact ⟨aY d.1,aG (aq _ _) M⟩
  ·have d:=qH (show ei kind (zs.getD (k-1) 0) (zs.getD (k-W) 0) (zs.getD (k-W-1) 0)=bj zs W kind k by rw[bj,if_neg (fun h=>j (i.trans h.1)),if_neg (fun h=>g (f.trans h)),if_neg (fun h=>j (i.trans h))]);have Q:=o g;have hyb:((Y:Int) == 0)=false:=sO;obtain ⟨a,r⟩:∃a,Y=a+1:=⟨Y-1,oM⟩;have hyi:(Y:Int)-1=(a:Int):=oM;have hyb1:a<=4096:=oM;rw[r,Nat.succ_mul] at l;have V:Y*W+c=k-1:=(by rw[r,Nat.succ_mul];omega);have m2:a*W+X=k-W:=oM;have m3:a*W+c=k-W-1:=oM;have L:=aq w (Obj.cells #[Z G W,Z G H,J q zs.length ca] 54);obtain ⟨e0,e1,e2⟩:=kI (Below.refl (w.alloc (Obj.cells #[Z G W,Z G H,J q zs.length ca] 54)).heap.size _);have O:w.heap.size<(w.alloc (Obj.cells #[Z G W,Z G H,J q zs.length ca] 54)).heap.size:=sS;clear i f s o g l r U j;go_enter func188,ntmps188;(go_wp2_with fail);generalize w.alloc _=b at *;have HI0:=qH (K.1.below L (Nat.le_refl _));obtain ⟨F,t⟩:∃F:Nat->Nat->Int,∀y x,F y x=zs.getD (y*W+x) 0:=⟨_,fun _ _=>rfl⟩;have A:∀w' (x y:Nat),y*W+x<zs.length->Below b.heap.size b w'->Calls prog 142 #[.agg #[Z G W,Z G H,J q zs.length ca],Z G x,Z G y] w' fun e w''=>e=.returned (Z G (F y x))/\Below b.heap.size b w'':=fun w' x y hxy h =>
    (lW _ _ _ zs _ _ x y W _ _ (HI0.1.below h (Nat.le_refl _)) rfl rfl rfl rfl hxy N).mono fun e w'' n=>⟨by rw[t];exact n.1,h.trans (n.2.mono h.size)⟩
   have HA:=qH A;have HWX:=qH (show IntKind.i64.wrap (c:Int)=(c:Int) from IntWalk.i64_in _ oM);have HWY:=qH (show IntKind.i64.wrap (a:Int)=(a:Int) from IntWalk.i64_in _ oM);have L1:=qH (show Y*W+c<zs.length from oM);have L2:=qH (show a*W+X<zs.length from oM);have L3:=qH (show a*W+c<zs.length from oM);have hZ1:F Y c=zs.getD (k-1) 0:=(by rw[t,V]);have hZ2:F a X=zs.getD (k-W) 0:=(by rw[t,m2]);have hZ3:F a c=zs.getD (k-W-1) 0:=(by rw[t,m3]);have HS:=qH (show ∀w',Below b.heap.size b w'->w'.cell? ⟨w.heap.size,0,none⟩=some (Z G W)/\w'.cell? ⟨w.heap.size,1,none⟩=some (Z G H)/\w'.cell? ⟨w.heap.size,2,none⟩=some (J q zs.length ca)/\Below b.heap.size b w' from fun w' h =>
    ⟨(h.cell (p:=⟨w.heap.size,0,none⟩) O).trans e0,(h.cell (p:=⟨w.heap.size,1,none⟩) O).trans e1,(h.cell (p:=⟨w.heap.size,2,none⟩) O).trans e2,h⟩)
   have hrefl:=Below.refl b.heap.size b;have hdrew:Below b.heap.size b b.drew:=(Below.refl _ _).drew;clear A V m2 m3 Q t;generalize zs.getD (k-1) 0=Z1 at *;generalize zs.getD (k-W) 0=Z2 at *;generalize zs.getD (k-W-1) 0=Z3 at *;go_region_held3 (fun w'=>w'.cell? ⟨w.heap.size,0,none⟩=some (Z G W)/\w'.cell? ⟨w.heap.size,1,none⟩=some (Z G H)/\w'.cell? ⟨w.heap.size,2,none⟩=some (J q zs.length ca)/\Below b.heap.size b w')
    (first|(refine HS.1 _ ?_;assumption)|go_keep)
    (first|(go_at_call 142;(try rw[HWX.1]);(try rw[HWY.1]);refine (HA.1 _ _ _ ?_ ?_).mono ?_;(first|exact L1.1|exact L2.1|exact L3.1);assumption;rintro e wx ⟨rfl,hN⟩))
   have m:=qH (L.trans (hN.mono L.size));by_cases u:kind=1
   ·subst u;go_wp2;go_ret;exact ⟨aY (by rw[<-d.1];simp[ei]),m.1⟩
   by_cases n:kind=2
   ·subst n;go_wp2;go_ret;exact ⟨aY (by rw[<-d.1];simp[ei]),m.1⟩
   by_cases z:kind=3
   ·subst z;go_wp2;go_ret;exact ⟨aY (by rw[<-d.1];simp[ei]),m.1⟩
   by_cases B:kind=4
   ·subst B;go_wp2;go_ret;exact ⟨aY (by rw[<-d.1];simp[ei]),m.1⟩
   by_cases C:kind=5
   ·subst C;(go_wp2_with (go_at_call 143;refine (rx _ oM oM _).mono ?_;rintro e wy ⟨rfl,rfl⟩));go_ret;exact ⟨aY (by rw[<-d.1];simp[ei]),m.1⟩
   by_cases D:kind=6
   ·subst D;(go_wp2_with (go_at_call 143;refine (rx _ oM oM _).mono ?_;rintro e wy ⟨rfl,rfl⟩));go_ret;exact ⟨aY (by rw[<-d.1];simp[ei]),m.1⟩
   have k1:(kind == 1)=false:=(by simpa using u);have k2:(kind == 2)=false:=(by simpa using n);have k3:(kind == 3)=false:=(by simpa using z);have k4:(kind == 4)=false:=(by simpa using B);have k5:(kind == 5)=false:=(by simpa using C);have k6:(kind == 6)=false:=(by simpa using D);have HE2:=qH (show (Z1+Z2) / 2=bj zs W kind k by rw[<-d.1];simp[ei,u,n,z,B,C,D]);clear u n z B C D;(go_wp2_with (go_at_call 143;refine (rx _ oM oM _).mono ?_;rintro e wy ⟨rfl,rfl⟩));go_ret;exact ⟨aY HE2.1,m.1⟩
end Go.Proofs.YtfjeonehdlphiaaGreatDoor
