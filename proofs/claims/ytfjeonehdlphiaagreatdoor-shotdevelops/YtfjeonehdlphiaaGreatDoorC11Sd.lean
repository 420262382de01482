/- Part 11. -/
import Derived.Test.YtfjeonehdlphiaaGreatDoorC10Sd
open Go.Obj renaming cells → ka
open Go.Lib renaming cell_of_heap → kb
open Nat renaming le_refl → kc, lt_of_lt_of_le → kd, le_trans → kf, zero_le → km
open List renaming take_succ_eq_append_getElem → kh, take_of_length_le → ko
open Go.Value renaming int → Z, slice → J
open Go.IntKind renaming i64 → G
set_option linter.unusedVariables false
set_option maxHeartbeats 1600000
set_option maxRecDepth 100000
namespace Go.Proofs.YtfjeonehdlphiaaGreatDoor
open Go.RowKit
open _root_.Go.Proofs.Tryz
theorem u4 (v:Value) (a:List Pt) (x:Int) (h0:0<=x) (h1:x<=65535) (m:gQ a) (w:World) (T:bo w v a) :
  Calls prog 190 #[v,Z G x] w (rT w (Z G (cN a x))):=by
 obtain ⟨I,ca,rfl,hla,z⟩:=T;have S:=m.two;have hl16:=m.most;obtain ⟨V,off,N,hbl,A⟩:∃b off,I=some ⟨b,off,none⟩/\b<w.heap.size/\∀j,j<a.length ->
   w.cell? ⟨b,off+j*2,none⟩=some (Z G (an a j).1)/\w.cell? ⟨b,off+j*2+1,none⟩=some (Z G (an a j).2):=by
  rcases z with h|h
  ·subst h;simp at S
  ·exact h
 subst N;have s:=qH A;clear A z;have c:=qH m;clear m;go_enter func190,ntmps190;go_wp2;go_loop [5] (fun i=>∃k:Nat,k<a.length/\i=Z G k/\Hid (∀j,j<k->(an a j).1<x)) (fun i=>a.length-(intOf i).toNat)
 case atStart=>exact ⟨0,oM,rfl,fun j Q=>oM⟩
 case round =>
  obtain ⟨k,g,rfl,o⟩:=hrel;obtain ⟨W,X⟩:=s.1 k g;by_cases n:(an a k).1<x
  ·have P:decide ((an a k).1<x)=true:=(by simpa using n);have R:k+1<a.length:=by
    rcases Nat.eq_or_lt_of_le (show k<=a.length-1 from oM) with e|p
    ·have:=c.1.last;rw[<-e] at this;omega
    ·omega
   go_wp2;go_round
   case rel=>exact ⟨k+1,R,gN,fun j Q=>by
    rcases Nat.eq_or_lt_of_le (show j<=k from oM) with e|p
    ·rw[e];exact n
    ·exact o.out j p⟩
   case measure=>simp[intOf];omega
  ·have P:decide ((an a k).1<x)=false:=(by simpa using n);have u:mT a x k:=⟨g,oM,o.out⟩;have l:=qH (pw u);by_cases d:(an a k).1=x
   ·have O:((an a k).1 == x)=true:=(by simpa using d);have f:=qH (show (an a k).2=cN a x by rw[l.1,if_pos d]);clear l d;go_wp2;go_ret;exact ⟨aY f.1,aq _ _⟩
   ·have O:((an a k).1 == x)=false:=(by simpa using d);obtain ⟨i,rfl⟩:∃i,k=i+1:=by
     cases k with
     | zero=>exact absurd (by have:=c.1.first;omega) d
     | succ i=>exact ⟨i,rfl⟩
    have f:=qH (show cN a x=gY a (i+1) x by rw[l.1,if_neg d]);obtain ⟨Y,d1⟩:=s.1 i oM;have p:=o.out i oM;obtain ⟨C,U,q,r⟩:=qP c.1 i g x oM oM;obtain ⟨y0,y1⟩:=c.1.y i oM;obtain ⟨y2,y3⟩:=c.1.y (i+1) g;obtain ⟨x0,x1⟩:=c.1.x i oM;obtain ⟨x2,x3⟩:=c.1.x (i+1) g;obtain ⟨s0,s1⟩:=c.1.step i g;rw[gY,Nat.add_sub_cancel] at q r f;have B:¬(an a (i+1)).1-(an a i).1=0:=oM;clear l d n u;generalize (an a (i+1)).1=E at *;generalize (an a i).1=t at *;generalize (an a (i+1)).2=H at *;generalize (an a i).2=F at *;obtain ⟨M,L⟩:=eX ((H-F)*(x-t));rw[L] at C U q r f;obtain ⟨D,K⟩:=eX (E-t);rw[K] at q r f B;have hD0:0<D:=oM;have hq0:0<=M / D:=Int.ediv_nonneg C oM;have hDz:(D == 0)=false:=(by simpa using B);go_wp2;(go_region);go_wp2;go_ret;exact ⟨aY f.1.symm,((ea _ _ _).drew)⟩
theorem pB (v:Value) (a:List Pt) (w:World) (hv:bo w v a) :
  Calls prog 189 #[v] w (rT w (.bool (cY a))):=by
 obtain ⟨Y,ca,rfl,hla,V⟩:=hv;obtain ⟨R,l⟩:=eX (cY a);rw[l];have u:=qH (aq w (ka #[Z G (a.length:Int)] 3));by_cases A:2<=(a.length:Int)/\(a.length:Int)<=16
 ·have f:az 2 16 [(a.length:Int)]=true:=by simp[az];omega
  have t:decide (2<=(a.length:Int)/\(a.length:Int)<=16)=true:=by simpa using A
  obtain ⟨g,off,aa,s,W⟩:∃b off,Y=some ⟨b,off,none⟩/\b<w.heap.size/\∀j,j<a.length ->
    w.cell? ⟨b,off+j*2,none⟩=some (Z G (an a j).1)/\w.cell? ⟨b,off+j*2+1,none⟩=some (Z G (an a j).2):=by
   rcases V with h|h
   ·subst h;simp at A
   ·exact h
  subst aa;have x:=qH W;clear W V;obtain ⟨n0,n1⟩:=A;have F:=(u.1.cell (p:=⟨g,off+0*2,none⟩) s).trans (x.1 0 oM).1;have X:=(u.1.cell (p:=⟨g,off+(a.length-1)*2,none⟩) s).trans (x.1 (a.length-1) oM).1;rw[Nat.zero_mul,Nat.add_zero] at F;by_cases o:(an a 0).1=0
  ·by_cases y:(an a (a.length-1)).1=65535
   ·have B:=qH (show R=ie a a.length by rw[<-l,cY,jp,t,o,y];rfl);rw[o] at F;rw[y] at X;clear l t o y;go_enter func189,ntmps189;(go_wp2_with fail);refine (cF 2 16 _ [(a.length:Int)] _ (dA w _)).mono ?_;rintro e w1 ⟨rfl,rfl⟩;rw[f];(go_wp2_with fail);clear F X f;generalize w.alloc _=U at *;go_loopw [29] (fun i wr=>∃k:Nat,k<=a.length/\i=Z G k/\Hid (ie a k=true)/\Below w.heap.size w wr) (fun i _=>a.length-(intOf i).toNat)
    case atStart=>exact ⟨0,km _,rfl,rfl,u.1⟩
    case round =>
     obtain ⟨k,hk,rfl,H,m⟩:=hrel;by_cases M:k<a.length
     ·have hd:decide ((k:Int)<(a.length:Int))=true:=sO;have C:=(m.cell (p:=⟨g,off+k*2,none⟩) s).trans (x.1 k M).1;have D:=(m.cell (p:=⟨g,off+k*2+1,none⟩) s).trans (x.1 k M).2;have r:=qH (wS a k);have n:=qH (fun h=>wR a k a.length M h);have z:=(m.alloc m.size (ka #[Z G (an a k).1,Z G (an a k).2] 66)).alloc (by have:=m.size;simp;omega) (ka #[Z G (an a k).2] 3);have q:ap ((wr.alloc (ka #[Z G (an a k).1,Z G (an a k).2] 66)).alloc (ka #[Z G (an a k).2] 3)) (J (some ⟨wr.heap.size+1,0,none⟩) 1 1) [(an a k).2]:=by
       have:=dA (wr.alloc (ka #[Z G (an a k).1,Z G (an a k).2] 66)) (an a k).2;rw[World.size_alloc] at this;exact this
      by_cases c:mo a k=true
      ·have f:az 0 65535 [(an a k).2]=true:=by
        have:=of_decide_eq_true c;simp[az];omega
       have N:∀i,k=i+1->wr.cell? ⟨g,off+i*2,none⟩=some (Z G (an a i).1)/\wr.cell? ⟨g,off+i*2+1,none⟩=some (Z G (an a i).2):=fun i e =>
        ⟨(m.cell (p:=⟨g,off+i*2,none⟩) s).trans (x.1 i oM).1,(m.cell (p:=⟨g,off+i*2+1,none⟩) s).trans (x.1 i oM).2⟩
       cases k with
       | zero =>
        have I:=au (show ie a (0+1)=true by rw[r.1,H.out,c];simp[jB]);clear c r n N;simp only[Nat.zero_mul,Nat.add_zero] at C D;(go_wp2_with fail);refine (cF 0 65535 _ [(an a 0).2] _ q).mono ?_;rintro e w2 ⟨rfl,rfl⟩;rw[f];(go_wp2_with fail);go_quiet (fail);go_wp2;go_roundw
        case rel=>exact ⟨0+1,oM,gN,I,below_drewN z _⟩
        case measure=>simp[intOf];omega
       | succ i =>
        obtain ⟨Q,S⟩:=N i rfl;clear N;have hwi:IntKind.i64.wrap (i:Int)=(i:Int):=IntWalk.i64_in _ oM;have hil:i<a.length:=oM;have hil2:(i:Int)<(a.length:Int):=oM;have hil3:0<=(i:Int):=oM;have T:g<wr.heap.size:=kd s m.size;have L:=ea wr (ka #[Z G (an a (i+1)).1,Z G (an a (i+1)).2] 66) (ka #[Z G (an a (i+1)).2] 3);have t0:=(L.cell (p:=⟨g,off+i*2,none⟩) T).trans Q;have t1:=(L.cell (p:=⟨g,off+i*2+1,none⟩) T).trans S;have K:=(df wr (ka #[Z G (an a (i+1)).1,Z G (an a (i+1)).2] 66) (ka #[Z G (an a (i+1)).2] 3)).1;have t2:((wr.alloc (ka #[Z G (an a (i+1)).1,Z G (an a (i+1)).2] 66)).alloc (ka #[Z G (an a (i+1)).2] 3)).cell? ⟨wr.heap.size,0,none⟩=some (Z G (an a (i+1)).1):=kb K _;have t3:((wr.alloc (ka #[Z G (an a (i+1)).1,Z G (an a (i+1)).2] 66)).alloc (ka #[Z G (an a (i+1)).2] 3)).cell? ⟨wr.heap.size,1,none⟩=some (Z G (an a (i+1)).2):=kb K _;clear K L Q S;by_cases E:(an a i).1<(an a (i+1)).1
        ·have hsb:decide ((an a (i+1)).1<=(an a i).1)=false:=sO;by_cases O:(an a i).2<=(an a (i+1)).2
         ·have hsb2:decide ((an a (i+1)).2<(an a i).2)=false:=sO;have I:=au (show ie a (i+1+1)=true by rw[r.1,H.out,c];simp[jB,E,O]);clear c r n E O;(go_wp2_with fail);refine (cF 0 65535 _ [(an a (i+1)).2] _ q).mono ?_;rintro e w2 ⟨rfl,rfl⟩;rw[f];clear C D q;generalize (wr.alloc _).alloc _=P at *;(go_wp2_with fail);go_quiet (fail);go_wp2;go_roundw
          case rel=>exact ⟨i+1+1,oM,gN,I,below_drewN z _⟩
          case measure=>simp[intOf];omega
         ·have hsb2:decide ((an a (i+1)).2<(an a i).2)=true:=sO;have d:=qH (show false=R by rw[B.1,n.1 (by rw[c];simp[jB];omega)]);clear c r n E O;(go_wp2_with fail);refine (cF 0 65535 _ [(an a (i+1)).2] _ q).mono ?_;rintro e w2 ⟨rfl,rfl⟩;rw[f];clear C D q;generalize (wr.alloc _).alloc _=P at *;(go_wp2_with fail);go_quiet (fail);go_wp2;go_ret;exact ⟨be d.1,below_drewN z _⟩
        ·have hsb:decide ((an a (i+1)).1<=(an a i).1)=true:=sO;have d:=qH (show false=R by rw[B.1,n.1 (by rw[c];simp[jB];omega)]);clear c r n E;(go_wp2_with fail);refine (cF 0 65535 _ [(an a (i+1)).2] _ q).mono ?_;rintro e w2 ⟨rfl,rfl⟩;rw[f];clear C D q;generalize (wr.alloc _).alloc _=P at *;(go_wp2_with fail);go_quiet (fail);go_wp2;go_ret;exact ⟨be d.1,below_drewN z _⟩
      ·have c:mo a k=false:=(by simpa using c);have f:az 0 65535 [(an a k).2]=false:=by
        have:=of_decide_eq_false c;rw[Bool.eq_false_iff];simp[az];omega
       have d:=qH (show false=R by rw[B.1,n.1 (by rw[c];rfl)]);clear c r n;(go_wp2_with fail);refine (cF 0 65535 _ [(an a k).2] _ q).mono ?_;rintro e w2 ⟨rfl,rfl⟩;rw[f];go_wp2;go_ret;exact ⟨be d.1,z⟩
     ·have hd:decide ((k:Int)<(a.length:Int))=false:=sO;have d:=qH (show true=R by rw[B.1,<-H.out,show k=a.length from oM]);go_wp2;go_ret;exact ⟨be d.1,m⟩
   ·have d:=qH (show false=R by rw[<-l,cY,jp];simp[y]);have hb:((an a (a.length-1)).1 != 65535)=true:=(by simpa using y);rw[o] at F;clear l t o y;go_enter func189,ntmps189;(go_wp2_with fail);refine (cF 2 16 _ [(a.length:Int)] _ (dA w _)).mono ?_;rintro e w1 ⟨rfl,rfl⟩;rw[f];go_wp2;go_ret;exact ⟨be d.1,u.1⟩
  ·have d:=qH (show false=R by rw[<-l,cY,jp];simp[o]);have hb:((an a 0).1 != 0)=true:=(by simpa using o);clear l t o;go_enter func189,ntmps189;(go_wp2_with fail);refine (cF 2 16 _ [(a.length:Int)] _ (dA w _)).mono ?_;rintro e w1 ⟨rfl,rfl⟩;rw[f];go_wp2;go_ret;exact ⟨be d.1,u.1⟩
 ·have f:az 2 16 [(a.length:Int)]=false:=by rw[Bool.eq_false_iff];simp[az];omega
  have t:decide (2<=(a.length:Int)/\(a.length:Int)<=16)=false:=by simpa using A
  have d:=qH (show false=R by rw[<-l,cY,jp,t];rfl);clear l A t;go_enter func189,ntmps189;go_wp2_with fail
  refine (cF 2 16 _ [(a.length:Int)] _ (dA w _)).mono ?_;rintro e w1 ⟨rfl,rfl⟩;rw[f];go_wp2;go_ret;exact ⟨be d.1,u.1⟩
theorem qV (n:Int) (a:0<=n) (b:n<=1000000000000000) (w:World) :
  Calls prog 196 #[Z G n] w (rQ w (Z G ((n+7) / 8))):=by
 go_enter func196,ntmps196;go_wp2;go_ret;exact ⟨rfl,rfl⟩
theorem oP (s:ByteArray) (w:World) (f:s.size<=maxLen) :
  Calls prog 208 #[.string s] w (rQ w (.bool (bz s.data.toList))):=by
 unfold maxLen at f;go_enter func208,ntmps208;go_wp2;go_loop [6] (fun i=>∃k:Nat,k<=s.size/\i=Z G k/\Hid (bz (s.data.toList.take k)=true)) (fun i=>s.size-(intOf i).toNat)
 case atStart=>exact ⟨0,km _,rfl,rfl⟩
 case round =>
  obtain ⟨k,g,rfl,H⟩:=hrel;by_cases c:k<s.size
  ·have d:(s[k].toNat:Int)=48\/(s[k].toNat:Int)=49->Hid (bz (s.data.toList.take (k+1))=true):=fun h=>by
    show bz _=true;rw[qA s k c,oO,H.out];simp[lj];omega
   have e:¬(s[k].toNat:Int)=48->¬(s[k].toNat:Int)=49->bz s.data.toList=false:=fun a b =>
    yR k (by simpa using c) (by rw[mc s k c];omega) (by rw[mc s k c];omega)
   have d:=au d;have e:=au e;go_wp2
   ·go_round
    case rel=>exact ⟨k+1,oM,gN,(te d) (.inl (by assumption))⟩
    case measure=>simp[intOf];omega
   ·rename_i h _;simp only[bne_iff_ne,ne_eq] at h;go_ret;exact ⟨be (by rw[(te e) h.1 h.2]),rfl⟩
   ·rename_i h;simp only[bne_eq_false_iff_eq] at h;go_round
    case rel=>exact ⟨k+1,oM,gN,(te d) h⟩
    case measure=>simp[intOf];omega
  ·go_wp2;go_ret;exact ⟨be (by rw[<-H.out,nu _ _ oM]),rfl⟩
theorem nZ (n:Int) (w:World) :
  Calls prog 172 #[Z G n] w (rQ w (.bool (dM n))):=by
 by_cases a:1<=n;all_goals by_cases b:n<=16
 all_goals
  go_enter func172,ntmps172;go_wp2;go_ret;exact ⟨be (by simp[dM,a,b]),rfl⟩
theorem yh (s:ByteArray) (k:Nat) (a:k<s.size) (f:s.size<=16) (b:bz s.data.toList=true) :
  bS (s.data.toList.take k)<65536/\48<=s[k].toNat/\s[k].toNat<=49 /\
  (bS (s.data.toList.take (k+1)):Int)=2*(bS (s.data.toList.take k):Int)+((s[k].toNat:Int)-48):=by
 have e:=nC _ (jO b k);have d:(s.data.toList.take k).length<=16:=sO;have g:=ic d;have c:=mI b k (by simpa using a);rw[mc s k a] at c;rw[qA s k a,oD];omega
theorem xv (s:ByteArray) (w:World) (j:s.size<=16) (e:bz s.data.toList=true) :
  Calls prog 206 #[.string s] w (rQ w (Z G (bS s.data.toList))):=by
 have f:=qH e;clear e;go_enter func206,ntmps206;go_wp2;go_loop [3,4] (fun n i=>∃k:Nat,k<=s.size/\i=Z G k/\n=Z G (bS (s.data.toList.take k))) (fun _ i=>s.size-(intOf i).toNat)
 case atStart=>exact ⟨0,km _,rfl,rfl⟩
 case round =>
  obtain ⟨k,l,rfl,rfl⟩:=hrel;by_cases g:k<s.size
  ·obtain ⟨a,b,c,d⟩:=yh s k g j f.1;have D:=qH d;clear d;go_wp2;go_round
   case rel=>exact ⟨k+1,oM,gN,congrArg (Z G) D.1.symm⟩
   case measure=>simp[intOf];omega
  ·go_wp2;go_ret;exact ⟨aY (by rw[nu _ _ oM]),rfl⟩
def oE (s:ByteArray):Int:=if bz s.data.toList=true/\s.size<=16 then (bS s.data.toList:Int) else 0
def qE (s:ByteArray):Int:=if bz s.data.toList=true then (if s.size<=16 then 0 else 3) else 1
theorem G1 (s:ByteArray) (w:World) (p:s.size<=maxLen) :
  Calls prog 199 #[.string s] w (rQ w (.tuple #[Z G (oE s),Z G (qE s)])):=by
 have o:=p;unfold maxLen at p;by_cases f:bz s.data.toList=true
 ·by_cases g:s.size<=16
  ·have m:Hid (oE s=bS s.data.toList):=if_pos ⟨f,g⟩;have j:Hid (qE s=0):=(if_pos f).trans (if_pos g);have q:=qH f;go_enter func199,ntmps199;(go_wp2_with (go_at_call 208;refine (oP _ _ o).mono ?_;rintro e w' ⟨rfl,rfl⟩));clear f;go_loop [4,14] (fun n i=>∃k:Nat,k<=s.size/\i=Z G k/\n=Z G (bS (s.data.toList.take k))) (fun _ i=>s.size-(intOf i).toNat)
   case atStart=>exact ⟨0,km _,rfl,rfl⟩
   case round =>
    obtain ⟨k,t,rfl,rfl⟩:=hrel;by_cases r:k<s.size
    ·obtain ⟨a,b,c,d⟩:=yh s k r g q.1;have D:=qH d;clear d;go_wp2;go_round
     case rel=>exact ⟨k+1,oM,gN,congrArg (Z G) D.1.symm⟩
     case measure=>simp[intOf];omega
    ·go_wp2;go_ret2;rw[m.out,j.out];exact ⟨mr (congrArg (fun l=>Z G (bS l:Nat)) (nu s k oM)) rfl,rfl⟩
  ·have m:Hid (oE s=0):=if_neg (fun h=>g h.2);have j:Hid (qE s=3):=(if_pos f).trans (if_neg g);go_enter func199,ntmps199;(go_wp2_with (go_at_call 208;refine (oP _ _ o).mono ?_;rintro e w' ⟨rfl,rfl⟩));go_ret2;rw[m.out,j.out];exact ⟨rfl,rfl⟩
 ·have m:Hid (oE s=0):=if_neg (fun h=>f h.1);have j:Hid (qE s=1):=if_neg f;have f:bz s.data.toList=false:=by simpa using f
  go_enter func199,ntmps199;go_wp2_with (go_at_call 208;refine (oP _ _ o).mono ?_;rintro e w' ⟨rfl,rfl⟩)
  go_ret2;rw[m.out,j.out];exact ⟨rfl,rfl⟩
theorem Tryz.infoU8:(prog.info? 5).map (fun i=>(i.zero,i.size,i.bytes))=some (some (.int .u8 0),1,1):=kR
theorem lO {n:Nat} (h:n<=16):wrap64 ((2:Int) ^ n)=((2 ^ n:Nat):Int):=by
 have:=ic h;rw[fL];generalize 2 ^ n=p at *;exact IntWalk.wrap64_in _ oM
def jx (n size k:Nat):List Value:=List.replicate (size-k) (.int .u8 0)++aP (aL n k)
theorem Dg (n size k:Nat) (h:k<size):(jx n size k)[size-1-k]?=some (.int .u8 0):=by
 rw[jx,List.getElem?_append_left sO,List.getElem?_replicate,if_pos oM]
theorem Dh (n size k:Nat) (h:k<size):(jx n size k).set (size-1-k) (.int .u8 (48+(n / 2 ^ k % 2:Nat):Int))=jx n size (k+1):=by
 rw[jx,jx,vL,List.set_append_left _ _ sO];have:size-k=(size-1-k)+1:=oM;rw[this,List.replicate_succ',List.set_append_right _ _ sS];simp only[List.length_replicate,Nat.sub_self,List.set_cons_zero];rw[show size-(k+1)=size-1-k from oM];simp only[aP,List.map_cons,List.append_assoc,List.cons_append,List.nil_append];congr 3;have:n / 2 ^ k % 2<2:=Nat.mod_lt _ dD;simp[UInt8.toNat_ofNat'];omega
theorem Di (n size:Nat):jx n size 0=(madeCells (Z .u8 0).cells (size*1)).toList:=by
 rw[show (Z .u8 0).cells=#[Z .u8 0] from rfl,toList_madeCells_one];simp[jx,aL,aP]
theorem Df (n size:Nat):jx n size size=aP (aL n size):=by simp[jx]
theorem Dj (n size:Nat) (d:size<=16) (o:n<2 ^ size) (w:World) :
  Calls prog 173 #[Z G n,Z G size] w (rT w (.tuple #[.string (lh (aL n size)),Z G 0])):=by
 obtain ⟨p,b⟩:∃p:Nat,p=2 ^ size:=⟨_,rfl⟩;have s:=lO d;have r:=ic d;rw[<-b] at s o r;have y:=qH b;clear b;obtain ⟨x,m,t,u,v⟩:=info_parts Tryz.infoU8;go_enter func173,ntmps173;go_wp2_with (at_make;refine wpList_make_full _ rfl _ _ 74 rfl w.heap.size 5 x (.int .u8 0) 1 underlying74 m t u .i64 .i64 _ _ size rfl rfl rfl rfl (by rw[v];omega) uO (kc _) ?_;intro w1 q l)
 go_loopw [28] (fun i wr=>∃k:Nat,k<=size/\i=Z G k/\wr.ownsRow w.heap.size 5 1 (J (some ⟨w.heap.size,0,none⟩) size size) size (jx n size k)/\Below w.heap.size w wr)
  (fun i _=>size-(intOf i).toNat)
 case atStart=>exact ⟨0,km _,rfl,by rw[Di];exact q,(Below.refl _ _).grown l (kc _) sS⟩
 case round =>
  obtain ⟨k,B,rfl,a,e⟩:=hrel;by_cases f:k<size
  ·have j:=a.cellAt (size-1-k) oM;rw[Dg n size k f] at j;have A:=a.frozenAt (size-1-k);have c:=a.stored (size-1-k) (.int .u8 (48+(n / 2 ^ k % 2:Nat):Int));rw[Dh n size k f] at c;have g:=qH c;clear c;go_wp2;go_roundw
   case rel =>
    rw[zg];exact ⟨k+1,oM,gN,g.1.1,e.setCell (kc _) _⟩
   case measure=>simp[intOf];omega
  ·obtain rfl:k=size:=oM;rw[Df] at a;have z:=ou (dst:=9) underlying74 underlying5 underlying9 a;go_wp2;go_ret2;exact ⟨rfl,e⟩
theorem qX (v:Value) (xs:List Int) (w:World) (O:ap w v xs) :
  Calls prog 120 #[v] w (rQ w (Z G (aU xs))):=by
 obtain ⟨H,ca,rfl,U,A⟩:=O;have u:=qH A;clear A;by_cases D:1<=xs.length/\xs.length<=17
 ·obtain ⟨c,f⟩:=D;have C:decide ((xs.length:Int)<1)=false:=sO;have M:decide (17<(xs.length:Int))=false:=sO;obtain ⟨b,off,K,R,B⟩:∃b off,H=some ⟨b,off,none⟩/\b<w.heap.size/\∀j (h:j<xs.length),w.cell? ⟨b,off+j,none⟩=some (Z G xs[j]):=by
   rcases u.1 with h|h
   ·subst h;exact absurd c sS
   ·exact h
  subst K;have F:=qH B;clear B u;go_enter func120,ntmps120;go_wp2;go_loop [3,16] (fun t i=>∃k:Nat,k<=xs.length/\i=Z G k/\t=Z G (bN (xs.take k):Nat)/\Hid (fd (xs.take k)=true)) (fun _ i=>xs.length-(intOf i).toNat)
  case atStart=>exact ⟨0,km _,rfl,rfl,rfl⟩
  case round =>
   obtain ⟨k,T,rfl,rfl,e⟩:=hrel;have N:bN (xs.take k)<=557056:=by
    have I:=vd (xs.take k);have P:(xs.take k).length<=17:=sO;omega
   by_cases g:k<xs.length
   ·have z:=F.1 k g;have r:=qH (show xs.take (k+1)=xs.take k++[xs[k]] from kh g);by_cases l:0<=xs[k]
    ·by_cases s:xs[k]<=15
     ·have x:=au (show fd (xs.take (k+1))=true by rw[r.1,vf,e.out];simp[jw,l,s]);by_cases o:0<xs[k]
      ·obtain ⟨m,d⟩:=Int.eq_ofNat_of_zero_le l;rw[d] at z s o;have q:=qH (show bN (xs.take (k+1))=bN (xs.take k)+2 ^ (15-m) by
        rw[r.1,pD,d,wt,if_pos o];simp)
       have W:=lO (n:=15-m) oM;have V:=ic (n:=15-m) oM;generalize 2 ^ (15-m)=p at *;clear d l;generalize bN (xs.take k)=S at *;go_wp2;go_round
       case rel=>exact ⟨k+1,oM,gN,by rw[q.1];go_num,x⟩
       case measure=>simp[intOf];omega
      ·obtain d:xs[k]=0:=oM;have q:=qH (show bN (xs.take (k+1))=bN (xs.take k) by
        rw[r.1,pD,wt,if_neg o];simp)
       rw[d] at z;clear l s o d;generalize bN (xs.take k)=S at *;go_wp2;go_round
       case rel=>exact ⟨k+1,oM,gN,by rw[q.1],x⟩
       case measure=>simp[intOf];omega
     ·have a:Hid (aU xs=3):=(by show _=_;rw[aU,if_pos ⟨c,f⟩,pF xs k g (by simp[jw];omega)];rfl);go_wp2;go_ret;rw[a.out];exact ⟨rfl,rfl⟩
    ·have a:Hid (aU xs=3):=(by show _=_;rw[aU,if_pos ⟨c,f⟩,pF xs k g (by simp[jw];omega)];rfl);go_wp2;go_ret;rw[a.out];exact ⟨rfl,rfl⟩
   ·have y:xs.take k=xs:=ko oM;rw[y] at e N |-;clear y;by_cases E:bN xs=0
    ·have a:Hid (aU xs=1):=(by show _=_;rw[aU,if_pos ⟨c,f⟩,if_pos e.out,if_pos (.inl E)]);rw[E];go_wp2;go_ret;rw[a.out];exact ⟨rfl,rfl⟩
    ·by_cases L:32768<bN xs
     ·have a:Hid (aU xs=1):=(by show _=_;rw[aU,if_pos ⟨c,f⟩,if_pos e.out,if_pos (.inr L)]);generalize bN xs=S at *;go_wp2;go_ret;rw[a.out];exact ⟨rfl,rfl⟩
     ·have a:Hid (aU xs=0):=(by show _=_;rw[aU,if_pos ⟨c,f⟩,if_pos e.out,if_neg oM]);generalize bN xs=S at *;have X:((S:Int) == 0)=false:=sO;have Q:decide (32768<(S:Int))=false:=sO;go_wp2;go_ret;rw[a.out];exact ⟨rfl,rfl⟩
 ·have a:Hid (aU xs=2):=by show _=_;rw[aU,if_neg D]
  by_cases I:xs.length<1
  ·have C:decide ((xs.length:Int)<1)=true:=sO;go_enter func120,ntmps120;go_wp2;go_ret;rw[a.out];exact ⟨rfl,rfl⟩
  ·have C:decide ((xs.length:Int)<1)=false:=sO;have M:decide (17<(xs.length:Int))=true:=sO;go_enter func120,ntmps120;go_wp2;go_ret;rw[a.out];exact ⟨rfl,rfl⟩
theorem mJ (v:Value) (xs:List Int) (w:World) (T:ap w v xs) :
  Calls prog 130 #[v] w (rQ w (Z G (aU xs))):=by
 obtain ⟨M,ca,rfl,aa,F⟩:=T;have B:=qH F;clear F;by_cases I:1<=xs.length/\xs.length<=17
 ·obtain ⟨c,o⟩:=I;have P:decide (1<=(xs.length:Int)/\(xs.length:Int)<=17)=true:=sO;obtain ⟨b,off,N,X,H⟩:∃b off,M=some ⟨b,off,none⟩/\b<w.heap.size/\∀j (h:j<xs.length),w.cell? ⟨b,off+j,none⟩=some (Z G xs[j]):=by
   rcases B.1 with h|h
   ·subst h;exact absurd c sS
   ·exact h
  subst N;have L:=qH H;clear H B;go_enter func130,ntmps130;go_wp2_with (go_at_call 33;refine (aI _ _ _ _).mono ?_;rintro e w1 ⟨rfl,rfl⟩)
  go_loop [3,4,5] (fun t u i=>∃k:Nat,k<=xs.length/\i=Z G k/\t=Z G (bN (xs.take k):Nat)/\u=.bool (gt (xs.take k))/\Hid (fd (xs.take k)=true)) (fun _ _ i=>xs.length-(intOf i).toNat)
  case atStart=>exact ⟨0,km _,rfl,rfl,rfl,rfl⟩
  case round =>
   obtain ⟨k,Y,rfl,rfl,rfl,g⟩:=hrel;have Q:bN (xs.take k)<=557056:=by
    have V:=vd (xs.take k);have W:(xs.take k).length<=17:=sO;omega
   by_cases x:k<xs.length
   ·have E:=L.1 k x;have l:=qH (show xs.take (k+1)=xs.take k++[xs[k]] from kh x);by_cases q:0<=xs[k]
    ·by_cases r:xs[k]<=15
     ·have C:=au (show fd (xs.take (k+1))=true by rw[l.1,vf,g.out];simp[jw,q,r]);by_cases f:0<xs[k]
      ·obtain ⟨m,d⟩:=Int.eq_ofNat_of_zero_le q;have z:=qH (show gt (xs.take (k+1))=true by rw[l.1,tN];simp[f]);rw[d] at E r f;have y:=qH (show bN (xs.take (k+1))=bN (xs.take k)+2 ^ (15-m) by
        rw[l.1,pD,d,wt,if_pos f];simp)
       have hw:=lO (n:=15-m) oM;have hp:=ic (n:=15-m) oM;generalize 2 ^ (15-m)=p at *;clear d q;have K:decide ((m:Int)<=15)=true:=(by simpa using r);generalize bN (xs.take k)=S at *;(go_wp2_with (go_at_call 33;refine (aI _ _ _ _).mono ?_;rintro e w1 ⟨rfl,rfl⟩));go_round
       case rel=>exact ⟨k+1,oM,gN,by rw[y.1];go_num,by rw[z.1],C⟩
       case measure=>simp[intOf];omega
      ·obtain d:xs[k]=0:=oM;have z:=qH (show gt (xs.take (k+1))=gt (xs.take k) by rw[l.1,tN];simp[f]);have y:=qH (show bN (xs.take (k+1))=bN (xs.take k) by
        rw[l.1,pD,wt,if_neg f];simp)
       rw[d] at E;clear q r f d;generalize bN (xs.take k)=S at *;generalize gt (xs.take k)=U at *;(go_wp2_with (go_at_call 33;refine (aI _ _ _ _).mono ?_;rintro e w1 ⟨rfl,rfl⟩));go_round
       case rel=>exact ⟨k+1,oM,gN,by rw[y.1],by rw[z.1],C⟩
       case measure=>simp[intOf];omega
     ·have a:Hid (aU xs=3):=(by show _=_;rw[aU,if_pos ⟨c,o⟩,pF xs k x (by simp[jw];omega)];rfl);have K:decide (xs[k]<=15)=false:=(by simpa using r);(go_wp2_with (go_at_call 33;refine (aI _ _ _ _).mono ?_;rintro e w1 ⟨rfl,rfl⟩));go_ret;rw[a.out];exact ⟨rfl,rfl⟩
    ·have a:Hid (aU xs=3):=(by show _=_;rw[aU,if_pos ⟨c,o⟩,pF xs k x (by simp[jw];omega)];rfl);have K:decide (0<=xs[k])=false:=(by simpa using q);(go_wp2_with (go_at_call 33;refine (aI _ _ _ _).mono ?_;rintro e w1 ⟨rfl,rfl⟩));go_ret;rw[a.out];exact ⟨rfl,rfl⟩
   ·have D:xs.take k=xs:=ko oM;have s:=qH (yg xs);rw[D] at g Q |-;clear D;by_cases A:bN xs=0
    ·have a:Hid (aU xs=1):=(by show _=_;rw[aU,if_pos ⟨c,o⟩,if_pos g.out,if_pos (.inl A)]);have R:=s.1.1 A;go_wp2;go_ret;rw[a.out];exact ⟨rfl,rfl⟩
    ·have R:gt xs=true:=by
      cases h:gt xs with
      | true=>rfl
      | false=>exact absurd (s.1.2 h) A
     by_cases O:32768<bN xs
     ·have a:Hid (aU xs=1):=(by show _=_;rw[aU,if_pos ⟨c,o⟩,if_pos g.out,if_pos (.inr O)]);clear s;generalize bN xs=S at *;go_wp2;go_ret;rw[a.out];exact ⟨rfl,rfl⟩
     ·have a:Hid (aU xs=0):=(by show _=_;rw[aU,if_pos ⟨c,o⟩,if_pos g.out,if_neg oM]);clear s;generalize bN xs=S at *;go_wp2;go_ret;rw[a.out];exact ⟨rfl,rfl⟩
 ·have a:Hid (aU xs=2):=by show _=_;rw[aU,if_neg I]
  have P:decide (1<=(xs.length:Int)/\(xs.length:Int)<=17)=false:=by
   rw[decide_eq_false_iff_not];omega
  go_enter func130,ntmps130;go_wp2_with (go_at_call 33;refine (aI _ _ _ _).mono ?_;rintro e w1 ⟨rfl,rfl⟩)
  go_ret;rw[a.out];exact ⟨rfl,rfl⟩
theorem zw (s:ByteArray) (H:s.size<=140737488355328) (b:bz s.data.toList=true) (w:World) :
  Calls prog 174 #[.string s] w (rT w (.tuple #[.string (lh (dg s.data.toList)),Z G 0])):=by
 have v:s.size<=maxLen:=uO;obtain ⟨A,r,x,y,z⟩:=info_parts Tryz.infoU8;obtain ⟨n,m⟩:∃n,n=(s.size+7) / 8:=⟨_,rfl⟩;have HN:=qH m;clear m;have g:=qH b;go_enter func174,ntmps174;go_wp2_with (first|(go_at_call 208;refine (oP _ _ v).mono ?_;rintro e w' ⟨rfl,rfl⟩)|(go_at_call 196;refine (qV _ oM oM _).mono ?_;rintro e w' ⟨rfl,rfl⟩)|(at_make;refine wpList_make_full _ rfl _ _ 74 rfl w.heap.size 5 A (.int .u8 0) 1 underlying74 r x y .i64 .i64 _ _ n rfl rfl ?_ ?_ ?_ ?_ (kc _) ?_;(have:=HN.1;omega);(have:=HN.1;omega);(have:=HN.1;rw[z];omega);(have:=HN.1;unfold maxLen;omega);intro w1 o l))
 clear b;go_loopw [15] (fun i wr=>∃k:Nat,k<=s.size/\i=Z G k/\wr.ownsRow w.heap.size 5 1 (J (some ⟨w.heap.size,0,none⟩) n n) n (jN s.data.toList n k)/\Below w.heap.size w wr)
  (fun i _=>s.size-(intOf i).toNat)
 case atStart=>exact ⟨0,km _,rfl,by rw[yO];exact o,(Below.refl _ _).grown l (kc _) sS⟩
 case round =>
  obtain ⟨k,F,rfl,c,b⟩:=hrel;clear o l;by_cases d:k<s.size
  ·have t:k / 8<n:=(by have:=HN.1;omega);have q:=c.cellAt (k / 8) oM;rw[nI _ _ _ _ t] at q;have E:=c.frozenAt (k / 8);have C:=(tH s.data.toList k).2;have j:48<=(s[k].toNat:Int)/\(s[k].toNat:Int)<=49:=by
    have:=mI g.1 k (by simpa using d);rw[mc s k d] at this;omega
   obtain ⟨j,B⟩:=j;have f:=c.stored (k / 8) (.int .u8 (fb s.data.toList (k+1) (k / 8):Nat));rw[yN _ _ _ _ rfl,<-Dt s.data.toList k (s[k].toNat:Int) (by
    rw[tV _ _ (by simpa using d) g.1,mc s k d];omega)] at f
   have p:=qH f;clear f;generalize fb s.data.toList k (k / 8)=a at *;go_wp2;(go_region);go_wp2;go_roundw
   case rel =>
    exact ⟨k+1,oM,gN,p.1.1.drew,(b.setCell (kc _) _).drew⟩
   case measure=>simp[intOf];omega
  ·obtain rfl:k=s.size:=oM;have u:wr.ownsRow w.heap.size 5 1 (J (some ⟨w.heap.size,0,none⟩) n n) n (aP (dg s.data.toList)):=by
    have:=yM s.data.toList;rw[gj,<-HN.1] at this;rw[<-this];exact c
   clear c;have D:=ou (dst:=9) underlying74 underlying5 underlying9 u;go_wp2;go_ret2;exact ⟨rfl,b⟩
def lX (l:List UInt8) (q:Nat):List UInt8:=(List.range q).map fun q=>UInt8.ofNat (cy l (8*q) 8)
theorem zt (l:List UInt8) (q:Nat):lX l (q+1)=lX l q++[UInt8.ofNat (cy l (8*q) 8)]:=by
 simp[lX,List.range_succ]
theorem xq (s:ByteArray) (U:s.size<=140737488355328) (w:World) :
  Calls prog 134 #[.string s] w (rT w (.string (lh (dg s.data.toList)))):=by
 obtain ⟨y,m,L,x,M⟩:=info_parts Tryz.infoU8;obtain ⟨n,o⟩:∃n,n=s.size / 8+1:=⟨_,rfl⟩;have HN:=qH o;clear o;go_enter func134,ntmps134;go_wp2_with (at_make;refine wpList_make_own _ rfl _ _ 74 rfl w.heap.size 5 y (.int .u8 0) 1 underlying74 m L x .i64 .i64 _ n rfl rfl ?_ ?_ ?_ (kc _) ?_;(have:=HN.1;omega);(have:=HN.1;rw[M];omega);(have:=HN.1;unfold maxLen;omega);intro w1 p l)
 go_loopw [3,4] (fun v i wr=>∃q:Nat,8*q<=s.size+7/\i=Z G (8*(q:Int))/\v=J (some ⟨w.heap.size,0,none⟩) q n /\
   wr.ownsRow w.heap.size 5 1 (J (some ⟨w.heap.size,0,none⟩) q n) q (aP (lX s.data.toList q))/\Below w.heap.size w wr)
  (fun _ i _=>s.size+8-(intOf i).toNat)
 case atStart=>exact ⟨0,km _,rfl,rfl,p,(Below.refl _ _).grown l (kc _) sS⟩
 case round =>
  obtain ⟨q,T,rfl,rfl,k,f⟩:=hrel;clear p l;by_cases R:8*q<s.size
  ·have P:decide (8*(q:Int)<(s.size:Int))=true:=sO;go_wp2;go_loop [5,6] (fun t i=>∃j:Nat,j<=8/\i=Z G (8*(q:Int)+(j:Int))/\t=Z G (cy s.data.toList (8*q) j:Nat)) (fun _ i=>8*q+8-(intOf i).toNat)
   case atStart=>exact ⟨0,km _,gN,rfl⟩
   case round =>
    obtain ⟨j,C,rfl,rfl⟩:=hrel;have H:=qe s.data.toList (8*q) j;have I:2 ^ j<=2 ^ 8:=Nat.pow_le_pow_right dD C;have K:cy s.data.toList (8*q) j<256:=oM;clear H I;have b:cy s.data.toList (8*q) (j+1)=2*cy s.data.toList (8*q) j+cS s.data.toList (8*q+j):=rfl;by_cases Q:j<8
    ·by_cases e:8*q+j<s.size
     ·by_cases A:(s[8*q+j].toNat:Int)=49
      ·rw[zb _ _ (by simpa using e) (by rw[mc s _ e];omega)] at b;have c:=qH b;clear b;generalize cy s.data.toList (8*q) j=d at *;go_wp2;go_round
       case rel=>exact ⟨j+1,oM,gN,by rw[c.1];go_num⟩
       case measure=>simp[intOf];omega
      ·rw[ze _ _ (by simpa using e) (by rw[mc s _ e];omega)] at b;have c:=qH b;clear b;have N:((s[8*q+j].toNat:Int) == 49)=false:=(by simpa using A);generalize cy s.data.toList (8*q) j=d at *;go_wp2;go_round
       case rel=>exact ⟨j+1,oM,gN,by rw[c.1];go_num⟩
       case measure=>simp[intOf];omega
     ·rw[qR _ _ (by rw[gj];omega)] at b;have c:=qH b;clear b;generalize cy s.data.toList (8*q) j=d at *;go_wp2;go_round
      case rel=>exact ⟨j+1,oM,gN,by rw[c.1];go_num⟩
      case measure=>simp[intOf];omega
    ·obtain rfl:j=8:=oM;clear b;have S:q<n:=(by have:=HN.1;omega);have z:=qH (zt s.data.toList q);generalize cy s.data.toList (8*q) 8=d at *;(go_wp2_with (at_builtin;refine wpList_append_fits _ rfl _ _ 74 rfl w.heap.size 5 y 1 underlying74 m x w.heap.size q n _ rfl (k.alloc _) ⟨wr.heap.size,0,none⟩ 1 1 [.int .u8 d] rfl rfl ?_ ?_ oM ?_;(intro a u g;obtain ⟨rfl,rfl⟩:=kE g;simp[Addr.add]);(intro u g;simp at g;subst g;rfl);intro w2 D B));have E:w2.ownsRow w.heap.size 5 1 (J (some ⟨w.heap.size,0,none⟩) (q+1) n) (q+1) (aP (lX s.data.toList (q+1))):=by
      rw[z.1,jl,qU d K];exact D
     go_roundw
     case rel=>exact ⟨q+1,oM,gN,rfl,E,(f.alloc f.size _).grown B (by have:=f.size;simp;omega) sS⟩
     case measure=>simp[intOf];omega
  ·have r:q=(s.size+7) / 8:=oM;have F:wr.ownsRow w.heap.size 5 1 (J (some ⟨w.heap.size,0,none⟩) q n) q (aP (dg s.data.toList)):=by
    have:dg s.data.toList=lX s.data.toList q:=(by rw[dg,lX,gj,r]);rw[this];exact k
   clear k r;have O:=ou (dst:=9) underlying74 underlying5 underlying9 F;go_wp2;go_ret;exact ⟨rfl,f⟩
theorem me (n:Int) (w:World):Calls prog 175 #[Z G n] w (rQ w (.bool (eC n))):=by
 by_cases a:1<=n;all_goals by_cases b:n<=7
 all_goals
  go_enter func175,ntmps175;go_wp2;go_ret;exact ⟨be (by simp[eC,a,b]),rfl⟩
theorem BA (kind a b c:Int) (l:0<=a/\a<=65535) (m:0<=b/\b<=65535) (n:0<=c/\c<=65535) (w:World) :
  Calls prog 210 #[Z G kind,Z G a,Z G b,Z G c] w (rQ w (Z G (ei kind a b c))):=by
 by_cases d:kind=1
 ·subst d;go_enter func210,ntmps210;go_wp2;go_ret;exact ⟨aY (by simp[ei]),rfl⟩
 by_cases e:kind=2
 ·subst e;go_enter func210,ntmps210;go_wp2;go_ret;exact ⟨aY (by simp[ei]),rfl⟩
 by_cases f:kind=3
 ·subst f;go_enter func210,ntmps210;go_wp2;go_ret;exact ⟨aY (by simp[ei]),rfl⟩
 by_cases g:kind=4
 ·subst g;go_enter func210,ntmps210;go_wp2;go_ret;exact ⟨aY (by simp[ei]),rfl⟩
 by_cases i:kind=5
 ·subst i;go_enter func210,ntmps210;go_wp2;go_ret;exact ⟨aY (by simp[ei]),rfl⟩
 by_cases j:kind=6
 ·subst j;go_enter func210,ntmps210;go_wp2;go_ret;exact ⟨aY (by simp[ei]),rfl⟩
 have o:(kind == 1)=false:=by simpa using d
 have p:(kind == 2)=false:=by simpa using e
 have q:(kind == 3)=false:=by simpa using f
 have r:(kind == 4)=false:=by simpa using g
 have s:(kind == 5)=false:=by simpa using i
 have t:(kind == 6)=false:=by simpa using j
 have k:=qH (show (a+b) / 2=ei kind a b c by simp[ei,d,e,f,g,i,j]);clear d e f g i j;go_enter func210,ntmps210;go_wp2;go_ret;exact ⟨aY k.1,rfl⟩
theorem BC (kind a b c:Int) (d:0<=a/\a<=65535) (f:0<=b/\b<=65535) (g:0<=c/\c<=65535) (w:World) :
  Calls prog 210 #[Z G kind,Z G a,Z G b,Z G c] w fun e w'=>e=.returned (Z G (ei kind a b c))/\w'=w :=
 (BA kind a b c d f g w).mono fun _ _ h=>⟨h.1,h.2.symm⟩
theorem wL (W k:Nat) (b:1<=W):k / W*W+k % W=k/\(k / W≠0->W<=k)/\(k / W=0->k % W=k)/\k % W<W:=by
 have a:=Nat.div_add_mod k W;rw[Nat.mul_comm] at a;refine ⟨a,fun h=>?_,fun h=>?_,Nat.mod_lt _ b⟩
 ·refine Decidable.byContradiction fun c=>h (Nat.div_eq_of_lt oM)
 ·rw[h,Nat.zero_mul,Nat.zero_add] at a;exact a
theorem uZ (v:Value) (zs:List Int) (W X Y:Nat) (H kind:Int) (k:Nat) (w:World) (U:ap w v zs) (O:1<=W) (hW:W<=64) (R:k<zs.length) (hl:zs.length<=4096) (t:fo zs=true) (d:X=k % W) (e:Y=k / W) :
  Calls prog 179 #[.agg #[Z G W,Z G H,v],Z G kind,Z G X,Z G Y] w (rT w (Z G (bj zs W kind k))):=by
 obtain ⟨p,m,n,p4⟩:=wL W k O;rw[<-d,<-e] at p;rw[<-e] at m n;rw[<-d] at n p4;obtain ⟨N,ca,rfl,hla,A⟩:=U;obtain ⟨i,off,P,Q,D⟩:∃b off,N=some ⟨b,off,none⟩/\b<w.heap.size/\∀j (h:j<zs.length),w.cell? ⟨b,off+j,none⟩=some (Z G zs[j]):=by
  rcases A with h|h
  ·subst h;simp at R
  ·exact h
 subst P;have y:∀j,j<zs.length->∀o,(w.alloc o).cell? ⟨i,off+j,none⟩=some (Z G (zs.getD j 0)):=fun j E o=>by
  rw[World.cell?_of_block (w:=w) (Below.heap_alloc w o i Q),D j E];simp[List.getD,E]
 have f:=qH y;clear D A y;obtain ⟨M,q⟩:∃M:Nat,M=Y*W:=⟨_,rfl⟩;rw[<-q] at p;have T:(Y:Int)*(W:Int)=(M:Int):=by rw[q];simp
 have z:Y≠0->W<=M:=fun h=>by rw[q];exact Nat.le_mul_of_pos_left _ oM
 clear q;have u:=jD t (k-1);have x:=jD t (k-W);have s:=jD t (k-W-1);clear t;by_cases l:X=0
 ·by_cases c:Y=0
  ·have g:=qH (show 32768=bj zs W kind k by rw[bj,if_pos ⟨d ▸ l,e ▸ c⟩]);subst l c;clear d e f u x s m n;go_enter func179,ntmps179;go_wp2;go_ret;exact ⟨aY g.1,aq _ _⟩
  ·have g:=qH (show zs.getD (k-W) 0=bj zs W kind k by rw[bj,if_neg (fun h=>c (e.trans h.2)),if_neg (fun h=>c (e.trans h)),if_pos (d ▸ l)]);have S:=m c;have r:=f.1 (k-W) oM;have V:((Y:Int) == 0)=false:=sO;subst l;obtain rfl:M=k:=oM;clear d e f n m p c u s;generalize zs.getD (M-W) 0=a at *;go_enter func179,ntmps179;go_wp2;go_ret;exact ⟨aY g.1,aq _ _⟩
 ·have hxb:((X:Int) == 0)=false:=sO;by_cases c:Y=0
  ·have g:=qH (show zs.getD (k-1) 0=bj zs W kind k by rw[bj,if_neg (fun h=>l (d.trans h.1)),if_pos (e ▸ c)]);have r:=f.1 (k-1) oM;subst c;obtain rfl:M=0:=(by simp at T;omega);obtain rfl:X=k:=oM;clear d e f n m x s p;generalize zs.getD (X-1) 0=a at *;go_enter func179,ntmps179;go_wp2;go_ret;exact ⟨aY g.1,aq _ _⟩
  ·have g:=qH (show ei kind (zs.getD (k-1) 0) (zs.getD (k-W) 0) (zs.getD (k-W-1) 0)=bj zs W kind k by rw[bj,if_neg (fun h=>l (d.trans h.1)),if_neg (fun h=>c (e.trans h)),if_neg (fun h=>l (d.trans h))]);have S:=m c;have r:=f.1 (k-1) oM;have B:=f.1 (k-W) oM;have C:=f.1 (k-W-1) oM;have V:((Y:Int) == 0)=false:=sO;have z:=z c;have i1:(k:Int)-1=((k-1:Nat):Int):=oM;have i2:(k:Int)-(W:Int)=((k-W:Nat):Int):=oM;have i3:((k-W:Nat):Int)-1=((k-W-1:Nat):Int):=oM;have l1:k-1<zs.length:=oM;have l2:k-W<zs.length:=oM;have l3:k-W-1<zs.length:=oM;have hat:(M:Int)+(X:Int)=(k:Int):=oM;clear d e f n m c p;generalize zs.getD (k-1) 0=I at *;generalize zs.getD (k-W) 0=K at *;generalize zs.getD (k-W-1) 0=L at *;generalize k-W-1=j3 at *;generalize k-W=j2 at *;generalize k-1=j1 at *;go_enter func179,ntmps179;(go_wp2_with fail);have F:=qH (aq w (ka #[Z G W,Z G H,J (some ⟨i,off,none⟩) zs.length ca] 54));have hd1:=r (ka #[Z G W,Z G H,J (some ⟨i,off,none⟩) zs.length ca] 54);have hd2:=B (ka #[Z G W,Z G H,J (some ⟨i,off,none⟩) zs.length ca] 54);have hd3:=C (ka #[Z G W,Z G H,J (some ⟨i,off,none⟩) zs.length ca] 54);obtain ⟨e0,e1,e2⟩:=kI (Below.refl (w.alloc (ka #[Z G W,Z G H,J (some ⟨i,off,none⟩) zs.length ca] 54)).heap.size _);clear r B C;generalize w.alloc _=w1 at *;go_quiet ((go_at_call 210;exact Calls.quiet_of_same (BC kind I K L u x s _)));go_wp2;go_ret;exact ⟨aY g.1,below_drewN F.1 _⟩
theorem Az (s g:Int) (d:0<=s/\s<=65535) (c:-65536<=g/\g<=131070) (w:World) :
  Calls prog 178 #[Z G s,Z G g] w (rQ w (Z G (eS s g))):=by
 have b:=tM (s-g);by_cases h:32768<(s-g) % 65536
 ·have a:=qH (show (s-g) % 65536-65536=eS s g by rw[eS,if_pos h]);go_enter func178,ntmps178;go_wp2;go_ret;exact ⟨aY a.1,rfl⟩
 ·have a:=qH (show (s-g) % 65536=eS s g by rw[eS,if_neg h]);go_enter func178,ntmps178;go_wp2;go_ret;exact ⟨aY a.1,rfl⟩
theorem pn (N k:Nat):N / 2 ^ (k+1)=N / 2 ^ k / 2:=by rw[Nat.pow_succ,Nat.div_div_eq_div_mul]
theorem oT {N k:Nat} (h:N / 2 ^ k≠0):k<dm N:=tY (by
 refine Decidable.byContradiction fun a=>h (Nat.div_eq_of_lt oM))
theorem oS {N k:Nat} (h:N / 2 ^ k=0):dm N<=k:=nL (by
 have:=Nat.pow_pos (n:=k) (show 0<2 from dD)
 rcases Nat.div_eq_zero_iff.1 h with h|h<;>omega)
theorem zH (d:Int) (s:-32768<d) (t:d<=32768) (w:World) :
  Calls prog 180 #[Z G d] w (rQ w (Z G (br d:Nat))):=by
 have m:∃N:Nat,N<=32768/\(d=N\/(d=-(N:Int)/\0<N)):=⟨d.natAbs,oM,oM⟩;obtain ⟨N,r,m⟩:=m;have p:=qH (show dm N<=16 from nL oM);have q:=qH (show dm N=br d by rw[br];congr 1;omega);clear s t;generalize br d=C at *;rcases m with rfl|⟨rfl,hpos⟩
 ·have u:decide ((N:Int) < -(N:Int))=false:=sS;go_enter func180,ntmps180;go_wp2;go_loop [3,4] (fun c n=>∃k:Nat,k<=16/\c=Z G k/\n=Z G ((N / 2 ^ k:Nat):Int)/\Hid (k<=dm N)) (fun c _=>16-(intOf c).toNat)
  case atStart=>exact ⟨0,oM,rfl,by (simp;try omega),by show _<=_;omega⟩
  case round =>
   obtain ⟨k,v,rfl,rfl,i⟩:=hrel;have g:=qH (pn N k);have l:=qH (@oT N k);have e:=qH (@oS N k);have x:N / 2 ^ k<=32768:=kf (Nat.div_le_self _ _) r;generalize N / 2 ^ k=n at *;by_cases b:n=0
   ·subst b;have f:=qH (show (k:Int)=(C:Nat) by rw[<-q.1];have:=e.1 rfl;have:=i.out;omega);go_wp2;go_ret;exact ⟨aY f.1,rfl⟩
   ·have a:=l.1 b;have j:Hid (k+1<=dm N):=a;have o:k+1<=16:=(by have:=p.1;omega);clear a;go_wp2;go_round
    case rel=>exact ⟨k+1,o,gN,by rw[g.1];go_num,j⟩
    case measure=>simp[intOf];omega
 ·have u:decide (-(N:Int) < - -(N:Int))=true:=sO;have y:decide (-(N:Int)<(N:Int))=true:=sO;have z:- -(N:Int)=(N:Int):=Int.neg_neg _;go_enter func180,ntmps180;go_wp2;go_loop [3,4] (fun c n=>∃k:Nat,k<=16/\c=Z G k/\n=Z G ((N / 2 ^ k:Nat):Int)/\Hid (k<=dm N)) (fun c _=>16-(intOf c).toNat)
  case atStart=>exact ⟨0,oM,rfl,by (simp;try omega),by show _<=_;omega⟩
  case round =>
   obtain ⟨k,v,rfl,rfl,i⟩:=hrel;have g:=qH (pn N k);have l:=qH (@oT N k);have e:=qH (@oS N k);have x:N / 2 ^ k<=32768:=kf (Nat.div_le_self _ _) r;generalize N / 2 ^ k=n at *;by_cases b:n=0
   ·subst b;have f:=qH (show (k:Int)=(C:Nat) by rw[<-q.1];have:=e.1 rfl;have:=i.out;omega);go_wp2;go_ret;exact ⟨aY f.1,rfl⟩
   ·have a:=l.1 b;have j:Hid (k+1<=dm N):=a;have o:k+1<=16:=(by have:=p.1;omega);clear a;go_wp2;go_round
    case rel=>exact ⟨k+1,o,gN,by rw[g.1];go_num,j⟩
    case measure=>simp[intOf];omega
theorem Ft {P:Program} (w:World) (g o:Nat) (b:TypeId) (a:Array Value) (d:TypeDesc) (k:∀j v,a.toList[j]?=some v->w.cell? ⟨g,o+j,none⟩=some v)
  (m:P.underlying b=some d) (p:(match d with | .struct _ | .array _ _=>true|_=>false)=true) (c:(P.info? b).map (·.size)=some a.size) :
  (loadVar b ⟨g,o,none⟩).run P w=.ok (.agg a) w:=by
 have e:(loadCells ⟨g,o,none⟩ a.toList.length).run P w=.ok a.toList.toArray w :=
  run_loadCells_list (P:=P) w ⟨g,o,none⟩ a.toList (fun j v n=>by
   have f:(⟨g,o,none⟩:Addr).add j=⟨g,o+j,none⟩:=(by unfold Addr.add;split<;>simp_all);rw[f];exact k j v n)
 cases hq:P.info? b with
 | none=>simp[hq] at c
 | some i =>
  have l:i.size=a.size:=by simpa [hq] using c
  have h:(isAgg b).run P w=.ok true w:=by
   unfold isAgg;rw[Sem.run_bind,run_underlying m w];cases d<;>simp_all
  simp only[Array.length_toList,Array.toArray_toList] at e;simp[loadVar,Sem.run_bind,h,sizeOf,typeInfo,hq,l,e]
theorem oG {P:Program} {f:Array Oper} {rest:List Oper} {o:Oper} {a:Act} {w:World} {Q:Exit->Act->World->Prop} (m:o.guard=none) (c:TypeId) (x:Operand) (p:o.op=.load c x)
  (g e:Nat) (r:a.eval x=.pointer (some ⟨g,e,none⟩)) (b:Array Value) (d:TypeDesc) (k:∀j v,b.toList[j]?=some v->w.cell? ⟨g,e+j,none⟩=some v)
  (q:P.underlying c=some d) (l:(match d with | .struct _ | .array _ _=>true|_=>false)=true) (n:(P.info? c).map (·.size)=some b.size)
  (h:wpList P f Q rest (a.put o.dst (.agg b)) w):wpList P f Q (o::rest) a w :=
 wpList_plain m fun _ i=>by
  unfold Oper.wp execOp
  simp only[p,r,Instr.loadAt,Instr.sureAddr,Sem.run_bind,Sem.run_pure,Result.andThen_ok,Ft w g e c b d k q l n]
  exact i _ _ h
theorem nP {P:Program} {o:Oper} {a:Act} {w:World} (c:TypeId) (x:Operand) (j:o.op=.load c x) (g:Nat) (l:a.eval x=.pointer (some ⟨g,0,none⟩)) (t:TypeId) (b:Array Value) (e:Nat×Nat) (d:TypeDesc) (h:w.heap[g]?=some (.cells b t e))
  (k:P.underlying c=some d) (f:(match d with | .struct _ | .array _ _=>true|_=>false)=true) (i:(P.info? c).map (·.size)=some b.size):(execOp a.eval o).run P w=.ok (.value (.agg b)) w:=by
 unfold execOp;simp only[j,l,Instr.loadAt,Instr.sureAddr,Sem.run_bind,Sem.run_pure,Result.andThen_ok,run_loadVar_row w g t c b e d h k f i]
def mN (a x y:Nat):Bool×Bool:=(decide (x % 2≠a % 2),decide (y % 2≠a / 2))
def ce (a x y:Nat):Nat:=match mN a x y with
 | (true,true)=>2
 | (true,false)=>1
 | (false,true)=>1
 | (false,false)=>0
theorem ur (p X Y:Nat) (o:p<=3) (w:World) :
  Calls prog 183 #[Z G p,Z G X,Z G Y] w (rT w (.tuple #[Z G (ce p X Y:Nat),Z G 0])):=by
 have k:cW (p:Int)=true:=by simp[cW];omega
 obtain ⟨C,f⟩:=eX (ce p X Y);rw[f];have c:X % 2=0\/X % 2=1:=oM;have d:Y % 2=0\/Y % 2=1:=oM;have a:p % 2=0\/p % 2=1:=oM;have b:p / 2=0\/p / 2=1:=oM;rcases a with a|a<;>rcases b with b|b<;>rcases c with c|c<;>rcases d with d|d;all_goals
  rw[ce,mN,c,d,a,b] at f;simp at f;have g:=qH f.symm;have m:(X:Int) % 2=((X % 2:Nat):Int):=rfl;have n:(Y:Int) % 2=((Y % 2:Nat):Int):=rfl;have j:(p:Int) % 2=((p % 2:Nat):Int):=rfl;have l:(p:Int) / 2=((p / 2:Nat):Int):=rfl;rw[c] at m;rw[d] at n;rw[a] at j;rw[b] at l;clear f c d a b;go_enter func183,ntmps183;go_wp2_with fail
  refine (qi _ _).mono ?_;rintro e w1 ⟨rfl,i⟩;rw[k];go_wp2;go_ret2;rw[g.1];exact ⟨rfl,i⟩
abbrev Mv:=Bool×Bool×Bool
def pS:List Mv:=[(false,false,false),(false,true,false),(false,true,true),(false,false,true),(true,false,false),(true,false,true),(true,true,true),(true,true,false)]
def bZ (k:Nat):Mv:=pS.getD k (false,false,false)
abbrev pR (m:Mv):Array Value:=#[.bool m.1,.bool m.2.1,.bool m.2.2]
def iD (w:World):Prop:=0<w.heap.size/\∀k,k<8->w.cell? ⟨0,k*3,none⟩=some (.bool (bZ k).1)/\w.cell? ⟨0,k*3+1,none⟩=some (.bool (bZ k).2.1)/\w.cell? ⟨0,k*3+2,none⟩=some (.bool (bZ k).2.2)
theorem iD.below {w w':World} {B:Nat} (h:iD w) (a:Below B w w') (g:w.heap.size<=B):iD w':=by
 have f:=h.1;refine ⟨kd h.1 a.size,fun k e=>?_⟩;obtain ⟨b,c,d⟩:=h.2 k e;exact ⟨(a.cell (p:=⟨0,k*3,none⟩) (show 0<B from oM)).trans b,(a.cell (p:=⟨0,k*3+1,none⟩) (show 0<B from oM)).trans c,(a.cell (p:=⟨0,k*3+2,none⟩) (show 0<B from oM)).trans d⟩
def jt (a:Int):Bool:=decide (1<=a/\a<=8)
def mR (a:Int):Int:=if jt a=true then 0 else 3
def bt (a:Int):Mv:=if jt a=true then bZ (a.toNat-1) else (false,false,false)
theorem rN (w:World) (o:Obj) (n:Int):ap ((w.alloc o).alloc (.cells #[Z G n] 3)) (J (some ⟨w.heap.size+1,0,none⟩) 1 1) [n]:=by
 have h:=dA (w.alloc o) n;rw[World.size_alloc] at h;exact h
abbrev mX:Obj:=ka #[.bool false,.bool false,.bool false] 119
theorem CM (k:Nat) (l:k<8) (w:World) (c:iD w) :
  Calls prog 59 #[Z G ((k:Int)+1)] w (rT w (.tuple #[.agg (pR (bZ k)),Z G 0])):=by
 have f:=qH (show az 1 8 [(k:Int)+1]=true by simp[az];omega);have a:=qH (ea w mX (ka #[Z G ((k:Int)+1)] 3));obtain ⟨z,_⟩:=df w mX (ka #[Z G ((k:Int)+1)] 3);obtain ⟨g,i,j⟩:=(c.below a.1 (kc _)).2 k l;obtain ⟨⟨m,n,o⟩,b⟩:∃M,bZ k=M:=⟨_,rfl⟩;rw[b] at g i j |-;obtain ⟨p,q,r⟩:=al z;obtain ⟨s,u,A⟩:=fZ z;have d:=qH (fun x y t=>bf a.1 (kc _) x y t);clear b c z;go_enter func59,ntmps59;go_wp2_with fail
 refine (cF 1 8 _ [(k:Int)+1] _ (rN w mX _)).mono ?_;rintro e w1 ⟨rfl,rfl⟩;rw[f.1];generalize (w.alloc _).alloc _=U at *;have B:IntKind.i64.wrap ((k:Int)+1-1)=k:=by rw[Int.add_sub_cancel];exact IntWalk.i64_in _ oM
 go_wp2;exact bodyPost_ret (v:=.tuple #[.agg #[.bool m,.bool n,.bool o],Z G 0]) (by simp[results,results59,go_sem,p,q,r]) rfl ⟨rfl,d.1 _ _ _⟩
theorem CL (a:Int) (b:jt a=false) (w:World) :
  Calls prog 59 #[Z G a] w (rT w (.tuple #[.agg (pR (false,false,false)),Z G 3])):=by
 have f:=qH (show az 1 8 [a]=false by simpa [az,jt] using b);have c:=qH (ea w mX (ka #[Z G a] 3));obtain ⟨z,_⟩:=df w mX (ka #[Z G a] 3);obtain ⟨g,i,j⟩:=al z;obtain ⟨k,l,m⟩:=fZ z;have d:=qH (fun x y t=>bf c.1 (kc _) x y t);clear z b;go_enter func59,ntmps59;go_wp2_with fail
 refine (cF 1 8 _ [a] _ (rN w mX a)).mono ?_;rintro e w1 ⟨rfl,rfl⟩;rw[f.1];generalize (w.alloc _).alloc _=U at *;go_wp2;exact bodyPost_ret (v:=.tuple #[.agg #[.bool false,.bool false,.bool false],Z G 3]) (by simp[results,results59,go_sem,g,i,j]) rfl ⟨rfl,d.1 _ _ _⟩
abbrev Gs:Array Value:=#[.bool false,.bool false,.bool false,.bool false,.bool true,.bool false,.bool false,.bool true,.bool true,.bool false,.bool false,.bool true,.bool true,.bool false,.bool false,.bool true,.bool false,.bool true,.bool true,.bool true,.bool true,.bool true,.bool true,.bool false]
def cG (m:Mv) (W H:Int):Int:=if m.1=true then H else W
def mw (m:Mv) (W x y:Int):Int:=if m.2.1=true then W-1-(if m.1=true then y else x) else if m.1=true then y else x
def mx (m:Mv) (H x y:Int):Int:=if m.2.2=true then H-1-(if m.1=true then x else y) else if m.1=true then x else y
theorem GI (m:Mv) (W H:Int) (w:World):Calls prog 60 #[.agg (pR m),.agg #[Z G W,Z G H]] w (rT w (.agg #[Z G (cG m W H),Z G (cG m H W)])):=by
 obtain ⟨x,y,z⟩:=m;cases x
 all_goals
  go_enter func60,ntmps60;go_wp2;refine bodyPost_ret (by simp[results,results60,go_sem];rfl) rfl ⟨?_,jP w _ _ _⟩;rfl
theorem F3 (m:Mv) (W H x y:Int) (e:0<=W/\W<=64) (d:0<=H/\H<=64) (f:0<=x/\x<=64) (g:0<=y/\y<=64) (w:World):Calls prog 62 #[.agg (pR m),.agg #[Z G W,Z G H],.agg #[Z G x,Z G y]] w (rT w (.agg #[Z G (mw m W x y),Z G (mx m H x y)])):=by
 obtain ⟨a,b,c⟩:=m;cases a<;>cases b<;>cases c
 all_goals
  go_enter func62,ntmps62;go_wp2;refine bodyPost_ret (by simp[results,results62,go_sem];rfl) rfl ⟨?_,qO w _ _ _ _⟩;rfl
theorem BU (w:World) (a b c d:Int):ap (w.alloc (.cells #[Z G a,Z G b,Z G c,Z G d] 3)) (J (some ⟨w.heap.size,0,none⟩) 4 4) [a,b,c,d] :=
 ap.own (base:=w.heap.size) (World.ownsRow_lit w #[Z G a,Z G b,Z G c,Z G d] 4 (kc _) dD sS) sS
theorem Ej (w:World) (a:List Pt) (b:Array Value) (t:TypeId) (n:Nat) (g:a.length=n) (e:∀j,j<n->b[j*2]?=some (Z G (an a j).1)/\b[j*2+1]?=some (Z G (an a j).2)) (h:n<=4096):bo (w.alloc (.cells b t)) (J (some ⟨w.heap.size,0,none⟩) n n) a:=by
 subst g;refine ⟨_,_,rfl,oM,.inr ⟨w.heap.size,0,rfl,sS,fun j f=>?_⟩⟩;obtain ⟨c,d⟩:=e j f;rw[Nat.zero_add];exact ⟨by rw[kb (aD w _)];exact c,by rw[kb (aD w _)];exact d⟩
theorem lW (W H:Int) (v:Value) (zs:List Int) (x y:Int) (X Y c k:Nat) (w:World) (r:ap w v zs) (m:W=c) (s:x=X) (t:y=Y) (q:Y*c+X=k) (e:k<zs.length) (A:zs.length<=4096) :
  Calls prog 142 #[.agg #[Z G W,Z G H,v],Z G x,Z G y] w (rT w (Z G (zs.getD k 0))):=by
 subst s t;obtain ⟨l,ca,rfl,B,g⟩:=r;obtain ⟨f,off,n,p,i⟩:∃b off,l=some ⟨b,off,none⟩/\b<w.heap.size/\∀j (h:j<zs.length),w.cell? ⟨b,off+j,none⟩=some (Z G zs[j]):=by
  rcases g with h|h
  ·subst h;simp at e
  ·exact h
 subst n m;have z:∀o,(w.alloc o).cell? ⟨f,off+k,none⟩=some (Z G (zs.getD k 0)):=fun o=>by
  rw[World.cell?_of_block (w:=w) (Below.heap_alloc w o f p),i k e];simp[List.getD,e]
 clear i g;obtain ⟨M,d⟩:∃M:Nat,M=Y*c:=⟨_,rfl⟩;have C:(Y:Int)*(c:Int)=(M:Int):=by rw[d];simp
 rw[<-d] at q;have u:(M:Int)+(X:Int)=(k:Int):=oM;clear d;generalize zs.getD k 0=a at *;go_enter func142,ntmps142;go_wp2;go_ret;exact ⟨rfl,aq _ _⟩
theorem xY (n:Int) (b:Nat):(0<=n/\n.tdiv b=n / b)\/(n<0/\n.tdiv b=-((-n) / b)):=by
 by_cases h:0<=n
 ·exact .inl ⟨h,Int.tdiv_eq_ediv_of_nonneg h⟩
 ·refine .inr ⟨oM,?_⟩;have:=Int.neg_tdiv (-n) b;rw[Int.neg_neg] at this;rw[this,Int.tdiv_eq_ediv_of_nonneg oM]
theorem rx (n:Int) (g:-4000000<=n) (i:n<=4000000) (w:World) :
  Calls prog 143 #[Z G n,Z G 2] w (rQ w (Z G (n / 2))):=by
 have c:=xY n 2;obtain ⟨q,f⟩:=eX (n.tdiv 2);simp only[show ((2:Nat):Int)=2 from rfl,f] at c;by_cases a:n<q*2
 ·have e:decide (n<q*2)=true:=by simpa using a
  have b:=qH (show q-1=n / 2 from oM);have d:-4000001<=q/\q<=4000000:=oM;clear c a;go_enter func143,ntmps143;go_wp2;go_ret;exact ⟨aY b.1,rfl⟩
 ·have e:decide (n<q*2)=false:=by simpa using a
  have b:=qH (show q=n / 2 from oM);have d:-4000001<=q/\q<=4000000:=oM;clear c a;go_enter func143,ntmps143;go_wp2;go_ret;exact ⟨aY b.1,rfl⟩
theorem ru (n:Int) (g:-4000000<=n) (i:n<=4000000) (w:World) :
  Calls prog 143 #[Z G n,Z G 65536] w (rQ w (Z G (n / 65536))):=by
 have c:=xY n 65536;obtain ⟨q,f⟩:=eX (n.tdiv 65536);simp only[show ((65536:Nat):Int)=65536 from rfl,f] at c;by_cases a:n<q*65536
 ·have e:decide (n<q*65536)=true:=by simpa using a
  have b:=qH (show q-1=n / 65536 from oM);have d:-4000001<=q/\q<=4000000:=oM;clear c a;go_enter func143,ntmps143;go_wp2;go_ret;exact ⟨aY b.1,rfl⟩
 ·have e:decide (n<q*65536)=false:=by simpa using a
  have b:=qH (show q=n / 65536 from oM);have d:-4000001<=q/\q<=4000000:=oM;clear c a;go_enter func143,ntmps143;go_wp2;go_ret;exact ⟨aY b.1,rfl⟩
theorem xr (d:Int) (s:-32768<d) (t:d<=32768) (w:World) :
  Calls prog 137 #[Z G d] w (rQ w (Z G (br d:Nat))):=by
 have m:∃N:Nat,N<=32768/\(d=N\/(d=-(N:Int)/\0<N)):=⟨d.natAbs,oM,oM⟩;obtain ⟨N,r,m⟩:=m;have p:=qH (show dm N<=16 from nL oM);have q:=qH (show dm N=br d by rw[br];congr 1;omega);clear s t;generalize br d=C at *;rcases m with rfl|⟨rfl,hpos⟩
 ·have u:decide ((N:Int) < -(N:Int))=false:=sS;go_enter func137,ntmps137;go_wp2;go_loop [3,4] (fun c n=>∃k:Nat,k<=16/\c=Z G k/\n=Z G ((N / 2 ^ k:Nat):Int)/\Hid (k<=dm N)) (fun c _=>16-(intOf c).toNat)
  case atStart=>exact ⟨0,oM,rfl,by (simp;try omega),by show _<=_;omega⟩
  case round =>
   obtain ⟨k,v,rfl,rfl,i⟩:=hrel;have g:=qH (pn N k);have l:=qH (@oT N k);have e:=qH (@oS N k);have x:N / 2 ^ k<=32768:=kf (Nat.div_le_self _ _) r;generalize N / 2 ^ k=n at *;by_cases b:n=0
   ·subst b;have f:=qH (show (k:Int)=(C:Nat) by rw[<-q.1];have:=e.1 rfl;have:=i.out;omega);go_wp2;go_ret;exact ⟨aY f.1,rfl⟩
   ·have a:=l.1 b;have j:Hid (k+1<=dm N):=a;have o:k+1<=16:=(by have:=p.1;omega);clear a;go_wp2;go_round
    case rel=>exact ⟨k+1,o,gN,by rw[g.1];go_num,j⟩
    case measure=>simp[intOf];omega
 ·have u:decide (-(N:Int) < - -(N:Int))=true:=sO;have y:decide (-(N:Int)<(N:Int))=true:=sO;have z:- -(N:Int)=(N:Int):=Int.neg_neg _;go_enter func137,ntmps137;go_wp2;go_loop [3,4] (fun c n=>∃k:Nat,k<=16/\c=Z G k/\n=Z G ((N / 2 ^ k:Nat):Int)/\Hid (k<=dm N)) (fun c _=>16-(intOf c).toNat)
  case atStart=>exact ⟨0,oM,rfl,by (simp;try omega),by show _<=_;omega⟩
  case round =>
   obtain ⟨k,v,rfl,rfl,i⟩:=hrel;have g:=qH (pn N k);have l:=qH (@oT N k);have e:=qH (@oS N k);have x:N / 2 ^ k<=32768:=kf (Nat.div_le_self _ _) r;generalize N / 2 ^ k=n at *;by_cases b:n=0
   ·subst b;have f:=qH (show (k:Int)=(C:Nat) by rw[<-q.1];have:=e.1 rfl;have:=i.out;omega);go_wp2;go_ret;exact ⟨aY f.1,rfl⟩
   ·have a:=l.1 b;have j:Hid (k+1<=dm N):=a;have o:k+1<=16:=(by have:=p.1;omega);clear a;go_wp2;go_round
    case rel=>exact ⟨k+1,o,gN,by rw[g.1];go_num,j⟩
    case measure=>simp[intOf];omega
end Go.Proofs.YtfjeonehdlphiaaGreatDoor
