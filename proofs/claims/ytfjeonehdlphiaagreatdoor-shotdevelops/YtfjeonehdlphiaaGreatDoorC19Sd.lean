/- Part 19. -/
import Derived.Test.YtfjeonehdlphiaaGreatDoorC14Sd
import Derived.Deep.Cut
open Go.Obj renaming cells → ka
open Nat renaming le_refl → kb
open Go.Value renaming int → Z, slice → J
open Go.IntKind renaming i64 → G
set_option linter.unusedVariables false
set_option maxHeartbeats 3200000
set_option maxRecDepth 100000
namespace Go.Proofs.YtfjeonehdlphiaaGreatDoor
open Go.RowKit
open _root_.Go.Proofs.Tryz
structure aA where
 phase:Int
 black:Nat->Int
 white:Int
 spots:List Pt
 gains:Nat->Int
 matrix:Nat->Int
 curve:List Pt
 amount:Int
abbrev aO (n:aA) (b a:Value):Array Value:=#[Z G n.phase,Z G (n.black 0),Z G (n.black 1),Z G (n.black 2),Z G (n.black 3),Z G n.white,b,Z G (n.gains 0),Z G (n.gains 1),Z G (n.gains 2),
 Z G (n.matrix 0),Z G (n.matrix 1),Z G (n.matrix 2),Z G (n.matrix 3),Z G (n.matrix 4),Z G (n.matrix 5),Z G (n.matrix 6),Z G (n.matrix 7),Z G (n.matrix 8),a,Z G n.amount]
theorem fl {w:World} {b:Nat} {t:TypeId} {d:Nat×Nat} {n:aA} {c a:Value} (h:w.heap[b]?=some (.cells (aO n c a) t d)) :
  w.cell? ⟨b,0,none⟩=some (Z G n.phase)/\w.cell? ⟨b,1,none⟩=some (Z G (n.black 0))/\w.cell? ⟨b,2,none⟩=some (Z G (n.black 1))/\w.cell? ⟨b,3,none⟩=some (Z G (n.black 2))/\w.cell? ⟨b,4,none⟩=some (Z G (n.black 3))/\w.cell? ⟨b,5,none⟩=some (Z G n.white)/\w.cell? ⟨b,6,none⟩=some c /\
  w.cell? ⟨b,7,none⟩=some (Z G (n.gains 0))/\w.cell? ⟨b,8,none⟩=some (Z G (n.gains 1))/\w.cell? ⟨b,9,none⟩=some (Z G (n.gains 2))/\w.cell? ⟨b,10,none⟩=some (Z G (n.matrix 0))/\w.cell? ⟨b,11,none⟩=some (Z G (n.matrix 1))/\w.cell? ⟨b,12,none⟩=some (Z G (n.matrix 2))/\w.cell? ⟨b,13,none⟩=some (Z G (n.matrix 3)) /\
  w.cell? ⟨b,14,none⟩=some (Z G (n.matrix 4))/\w.cell? ⟨b,15,none⟩=some (Z G (n.matrix 5))/\w.cell? ⟨b,16,none⟩=some (Z G (n.matrix 6))/\w.cell? ⟨b,17,none⟩=some (Z G (n.matrix 7))/\w.cell? ⟨b,18,none⟩=some (Z G (n.matrix 8))/\w.cell? ⟨b,19,none⟩=some a/\w.cell? ⟨b,20,none⟩=some (Z G n.amount):=by
 refine ⟨?_,?_,?_,?_,?_,?_,?_,?_,?_,?_,?_,?_,?_,?_,?_,?_,?_,?_,?_,?_,?_⟩<;>(rw[Lib.cell_of_heap h];rfl)
structure dH (w:World) (n:aA) (sv cv:Value):Prop where
 spots:bo w sv n.spots
 curve:bo w cv n.curve
theorem dH.below {w w':World} {n:aA} {d a:Value} {B:Nat} (h:dH w n d a) (c:Below B w w') (b:w.heap.size<=B):dH w' n d a:=⟨h.spots.below c b,h.curve.below c b⟩
def jE (n:aA):Bool:=cW n.phase && eD n.black n.white && js n.gains
def kr (n:aA):Bool:=fJ n.matrix && fV n.amount
def DE (n:aA):Bool:=decide ((n.spots.length:Int)<=64) && cP 64 64 n.spots
def cJ (n:aA):Int:=if (jE n && kr n && DE n)=true then (if cY n.curve=true then 0 else 1) else 3
theorem uf (n:aA) (sv cv:Value) (w:World) (hp:dH w n sv cv) :
  Calls prog 93 #[.agg (aO n sv cv)] w (rT w (Z G (cJ n))):=by
 have W:=qH hp;obtain ⟨⟨lo,lc,rfl,hll,_⟩,⟨ko,kc,rfl,hkl,_⟩⟩:=hp;obtain ⟨a1,M⟩:=d9 w (ka (aO n (J lo n.spots.length lc) (J ko n.curve.length kc)) 51);obtain ⟨E,S⟩:=eX (cJ n);rw[S];have HPH:=qH (fun u=>qi n.phase u);have HLV:=qH (fun u=>vg n.black n.white u);have HGA:=qH (fun u=>uW n.gains u);have HMA:=qH (fun u=>vt n.matrix u);have HAM:=qH (fun u=>tL n.amount u);have N:=qH (show E=if (jE n && kr n && DE n)=true then (if cY n.curve=true then 0 else 1) else 3 from S.symm);have Q:=qH (show jE n=(cW n.phase && eD n.black n.white && js n.gains) from rfl);have Y:=qH (show kr n=(fJ n.matrix && fV n.amount) from rfl);have X:=qH (show DE n=(decide ((n.spots.length:Int)<=64) && cP 64 64 n.spots) from rfl);clear S;go_enter func93,ntmps93;go_upto_region 1 with fail
 have hl1:=lS a1;generalize w.alloc _=U at *;have I:=qH (fun (v:World) (h:Below U.heap.size U v)=>fl ((h.block _ hl1).trans a1));go_cut [3] from 9 (fun s v=>s=.bool (jE n)/\Below U.heap.size U v)
 case first =>
  obtain ⟨d,f,t,y,z,A,B,C,D,F,g,i,j,k,l,m,o,p,q,r,x⟩:=I.1 U (Below.refl _ _);go_wp2_with fail
  refine (HPH.1 _).mono ?_;rintro e R ⟨rfl,H⟩;clear d f t y z A B C D F g i j k l m o p q r x;cases hp1:cW n.phase
  ·have c:=qH (show false=jE n by rw[Q.1,hp1];rfl);go_wp2;go_meet
   case rel=>exact ⟨by rw[c.1],H⟩
  ·obtain ⟨d,f,t,y,z,A,B,C,D,F,g,i,j,k,l,m,o,p,q,r,x⟩:=I.1 R H;(go_wp2_with fail);refine (HLV.1 _).mono ?_;rintro e O ⟨rfl,b⟩;replace b:=aG H b;clear d f t y z A B C D F g i j k l m o p q r x;cases hp2:eD n.black n.white
   ·have c:=qH (show false=jE n by rw[Q.1,hp1,hp2];rfl);go_wp2;go_meet
    case rel=>exact ⟨by rw[c.1],b⟩
   ·obtain ⟨d,f,t,y,z,A,B,C,D,F,g,i,j,k,l,m,o,p,q,r,x⟩:=I.1 O b;(go_wp2_with fail);refine (HGA.1 _).mono ?_;rintro e V3 ⟨rfl,T⟩;replace T:=aG b T;have c:=qH (show js n.gains=jE n by rw[Q.1,hp1,hp2];rfl);rw[c.1];go_wp2;go_meet
    case rel=>exact ⟨rfl,T⟩
 case rest =>
  obtain ⟨rfl,hbc⟩:=hcut;go_upto_region 2 with fail
  go_cut [4] from 9 (fun s v=>s=.bool (kr n)/\Below U.heap.size U v)
  case first =>
   obtain ⟨d,f,t,y,z,A,B,C,D,F,g,i,j,k,l,m,o,p,q,r,x⟩:=I.1 _ hbc;(go_wp2_with fail);refine (HMA.1 _).mono ?_;rintro e R ⟨rfl,H⟩;replace H:=aG hbc H;clear d f t y z A B C D F g i j k l m o p q r x;cases hp1:fJ n.matrix
   ·have c:=qH (show false=kr n by rw[Y.1,hp1];rfl);go_wp2;go_meet
    case rel=>exact ⟨by rw[c.1],H⟩
   ·obtain ⟨d,f,t,y,z,A,B,C,D,F,g,i,j,k,l,m,o,p,q,r,x⟩:=I.1 R H;(go_wp2_with fail);refine (HAM.1 _).mono ?_;rintro e O ⟨rfl,b⟩;replace b:=aG H b;have c:=qH (show fV n.amount=kr n by rw[Y.1,hp1];rfl);rw[c.1];go_wp2;go_meet
    case rel=>exact ⟨rfl,b⟩
  case rest =>
   obtain ⟨rfl,hbd⟩:=hcut;obtain ⟨g1,P⟩:=aT hbd (ka #[Z G 64,Z G 64] 95);(go_upto_region 4 with fail);have hlg:=lS g1;generalize wc.alloc _=a at *;go_cut [6] from 9 (fun s v=>s=.bool (DE n)/\Below U.heap.size U v)
   case first =>
    obtain ⟨d,f,t,y,z,A,B,C,D,F,g,i,j,k,l,m,o,p,q,r,x⟩:=I.1 _ P;obtain ⟨q0,q1⟩:=bL g1;by_cases hln:(n.spots.length:Int)<=64
    ·have V:decide ((n.spots.length:Int)<=64)=true:=(by simpa using hln);(go_wp2_with fail);refine (rI 64 64 _ n.spots _ (W.1.spots.below (M.1.trans (P.mono M.1.size)) (kb _))).mono ?_;rintro e O ⟨rfl,b⟩;replace b:=aG P b;have c:=qH (show cP 64 64 n.spots=DE n by rw[X.1,V];rfl);rw[c.1];go_wp2;go_meet
     case rel=>exact ⟨rfl,b⟩
    ·have V:decide ((n.spots.length:Int)<=64)=false:=(by simpa using hln);have c:=qH (show false=DE n by rw[X.1,V];rfl);go_wp2;go_meet
     case rel=>exact ⟨by rw[c.1],P⟩
   case rest =>
    obtain ⟨rfl,hbe⟩:=hcut;have K:=qH (M.1.trans (hbe.mono M.1.size));cases hs1:jE n
    ·have L:E=3:=(by rw[N.1,hs1];rfl);subst L;go_wp2;go_ret;exact ⟨rfl,K.1⟩
    ·cases hs2:kr n
     ·have L:E=3:=(by rw[N.1,hs1,hs2];rfl);subst L;go_wp2;go_ret;exact ⟨rfl,K.1⟩
     ·cases hs3:DE n
      ·have L:E=3:=(by rw[N.1,hs1,hs2,hs3];rfl);subst L;go_wp2;go_ret;exact ⟨rfl,K.1⟩
      ·have HE2:=qH (show E=lY n.curve 0 by rw[N.1,hs1,hs2,hs3];rfl);obtain ⟨d,f,t,y,z,A,B,C,D,F,g,i,j,k,l,m,o,p,q,r,x⟩:=I.1 _ hbe;(go_wp2_with fail);refine (Ae _ n.curve 0 _ (W.1.curve.below K.1 (kb _))).mono ?_;rintro e O ⟨rfl,b⟩;rw[<-HE2.1];go_wp2;go_ret;exact ⟨rfl,aG K.1 b⟩
theorem kK {n:aA} (h:cJ n=0):cW n.phase=true/\eD n.black n.white=true/\js n.gains=true/\fJ n.matrix=true/\fV n.amount=true/\(n.spots.length:Int)<=64/\cP 64 64 n.spots=true/\cY n.curve=true:=by
 unfold cJ at h;split at h
 ·rename_i h1;split at h
  ·rename_i h2;simp only[jE,kr,DE,Bool.and_eq_true,decide_eq_true_eq] at h1;exact ⟨h1.1.1.1.1,h1.1.1.1.2,h1.1.1.2,h1.1.2.1,h1.1.2.2,h1.2.1,h1.2.2,h2⟩
  ·cases h
 ·cases h
def dz (n:aA) (W H:Int) (zs:List Int) (a:Int):Int:=if cJ n=0 then (if a7 W H zs=true then (if cP W a n.spots=true then 0 else 3) else 1) else cJ n
theorem uU (n:aA) (I z:Value) (W H:Int) (v:Value) (zs:List Int) (d:Int) (w:World) (c:dH w n I z) (D:ap w v zs) :
  Calls prog 55 #[.agg (aO n I z),.agg #[Z G W,Z G H,v],Z G d] w (rT w (Z G (dz n W H zs d))):=by
 have y:=qH c;have L:=qH D;obtain ⟨⟨X,V,rfl,hll,_⟩,⟨T,S,rfl,hkl,_⟩⟩:=c;obtain ⟨N,ca,rfl,_,_⟩:=D;obtain ⟨k,l,f⟩:=gr w (ka (aO n (J X n.spots.length V) (J T n.curve.length S)) 51) (ka #[Z G W,Z G H,J N zs.length ca] 54);have b:=qH (show dz n W H zs d=if cJ n=0 then (if a7 W H zs=true then (if cP W d n.spots=true then 0 else 3) else 1) else cJ n from rfl);obtain ⟨E,A⟩:=eX (dz n W H zs d);rw[A] at b |-;clear A;have x:=qH (fun (u:World) (R:Below w.heap.size w u)=>uf n _ _ u (y.1.below R (kb _)));obtain ⟨F,i⟩:=eX (cJ n);rw[i] at b x;clear i;go_enter func55,ntmps55;go_wp2_with (refine wpList_load_row rfl 51 _ rfl _ rfl _ _ _ _ k underlying51 rfl kR ?_)
 have Q:=lS k;have C:=lS l;generalize (w.alloc _).alloc _=U at *;refine (x.1 _ f.1).mono ?_;rintro e V1 ⟨rfl,m⟩;have r:=qH (f.1.trans (m.mono f.1.size));by_cases i:F=0
 ·subst i;rw[if_pos rfl] at b;obtain ⟨o,p,q⟩:=al ((m.block _ C).trans l);go_wp2_with fail
  clear o p q;refine (ki W H _ zs _ (L.1.below r.1 (kb _))).mono ?_;rintro e M ⟨rfl,j⟩;replace j:=aG m j;have K:=qH (f.1.trans (j.mono f.1.size));by_cases c:a7 W H zs=true
  ·rw[if_pos c] at b;rw[c];obtain ⟨o,p,q⟩:=al ((j.block _ C).trans l);obtain ⟨O,B⟩:=aT j (ka #[Z G W,Z G d] 95);obtain ⟨Y,q1⟩:=bL O;obtain ⟨_,_,_,_,_,_,s6,_⟩:=fl ((B.block _ Q).trans k);(go_wp2_with fail);clear o p q Y q1 s6;generalize M.alloc _=a at *;have s:=qH (f.1.trans (B.mono f.1.size));refine (rI W d _ n.spots _ (y.1.spots.below s.1 (kb _))).mono ?_;rintro e V3 ⟨rfl,P⟩;have t:=qH (aG s.1 P);cases hs:cP W d n.spots
   ·have g:E=3:=(by rw[b.1,hs];rfl);subst g;go_wp2;go_ret;exact ⟨rfl,t.1⟩
   ·have g:E=0:=(by rw[b.1,hs];rfl);subst g;go_wp2;go_ret;exact ⟨rfl,t.1⟩
  ·rw[if_neg c] at b;have c:a7 W H zs=false:=(by simpa using c);rw[c];have g:E=1:=b.1;subst g;go_wp2;go_ret;exact ⟨rfl,K.1⟩
 ·rw[if_neg i] at b;have hn:(F != 0)=true:=by simpa using i
  have g:E=F:=b.1;subst g;go_wp2;go_ret;exact ⟨rfl,r.1⟩
def bi (F:Nat):Nat:=F-4
def bT (T H:Nat):Nat:=min H (T+4)
theorem vE (F T H:Nat) (d:F<=64) (hT:T<=64) (e:H<=64) (w:World) :
  Calls prog 56 #[Z G F,Z G T,Z G H] w (rQ w (.tuple #[Z G (bi F:Nat),Z G (bT T H:Nat)])):=by
 have a:(if (0:Int)<(F:Int)-4 then (F:Int)-4 else 0)=((bi F:Nat):Int):=by unfold bi;split<;>omega
 have b:(if (4:Int)<(F:Int) then (F:Int)-4 else 0)=((bi F:Nat):Int):=by unfold bi;split<;>omega
 have c:(if (T:Int)+4<(H:Int) then (T:Int)+4 else (H:Int))=((bT T H:Nat):Int):=by unfold bT;split<;>omega
 generalize bi F=A at *;generalize bT T H=B at *;go_enter func56,ntmps56;go_wp2;go_ret2;exact ⟨rfl,rfl⟩
def BM (k:Nat):Int:=if k=0\/k=4\/k=8 then 4096 else 0
def jy:aA:=⟨0,fun _=>0,65535,[],fun _=>256,BM,[(0,0),(65535,65535)],64⟩
end Go.Proofs.YtfjeonehdlphiaaGreatDoor
