/- Part 22. -/
import Derived.Test.YtfjeonehdlphiaaGreatDoorC15Sd
import Derived.Test.YtfjeonehdlphiaaGreatDoorC19Sd
import Derived.Laws.CopyOwn
open Go.Obj renaming cells → ka
open Go.Lib renaming frozen_of_heap → kb
open Nat renaming le_refl → kc, zero_le → kh, mul_le_mul_right → km
open Go.IntWalk renaming i64_in → kd
open Go.RowKit.Below renaming heap_setCell → kf
open Option renaming some.inj → ko
open Go.Value renaming int → Z, slice → J
open Go.IntKind renaming i64 → G
set_option linter.unusedVariables false
set_option maxHeartbeats 3200000
set_option maxRecDepth 100000
namespace Go.Proofs.YtfjeonehdlphiaaGreatDoor
open Go.RowKit
open _root_.Go.Proofs.Tryz
def cm {α:Type} (xs:List α) (W top many:Nat):List α:=(xs.drop (top*W)).take (many*W)
theorem zJ (b off n c:Nat) (ps:List Px) (w:World) (t:ps.length=n) (P:b<w.heap.size) (O:n<=4096) (N:1<=n)
  (s:∀j,j<n->w.cell? ⟨b,off+j*3,none⟩=some (Z G (aB ps j).1)/\w.cell? ⟨b,off+j*3+1,none⟩=some (Z G (aB ps j).2.1)/\w.cell? ⟨b,off+j*3+2,none⟩=some (Z G (aB ps j).2.2)) :
  Calls prog 119 #[J (some ⟨b,off,none⟩) n c] w fun e w'=>∃r,e=.returned r/\ax w' r ps/\Below w.heap.size w w'/\ar w.heap.size r:=by
 obtain ⟨L,C,H,I,K⟩:=info_parts Tryz.infoPixel;have S:∀(w:World) (a:Option Addr) (n c i g:Nat),(binOp .eql 22 (J a n c) (J none i g)).run prog w=.ok (.bool a.isNone) w:=fun w a n c i g=>Lib.run_eql_slice_nil w _ _ a n c i g underlying22;have x:=qH s;have E:(ps.flatMap aR).length=n*3:=by rw[nS,t]
 have l:=qH E;clear s;go_enter func119,ntmps119;go_wp2_with (at_builtin;refine wpList_append_own _ rfl _ _ 22 rfl w.heap.size 61 L ib 3 24 underlying22 C H I K rfl oM _ _ _ rfl (World.ownsRow_made w #[] 0 (kc _) (kh _) sS) ⟨b,off,none⟩ n c (ps.flatMap aR) rfl ?qc1 ?qc2 ?qc3 ?qc4 ?qc5 ?qc6 ?_)
 case qc1=>exact l.1
 case qc2 =>
  intro j u d;rw[Addr.add_lit];refine Lib.cell?_alloc_some _ ?_;have Q:j<n*3:=by rw[<-l.1];exact (List.getElem?_eq_some_iff.1 d).1
  have F:j / 3<n:=oM;obtain ⟨m,o,q⟩:=pj ps (j / 3) oM;obtain ⟨y,z,A⟩:=x.1 (j / 3) F;rw[gH ps (j / 3) oM] at m o q;rcases (show j % 3=0\/j % 3=1\/j % 3=2 from oM) with h|h|h
  ·have e:j=j / 3*3:=oM;rw[e] at d |-;rw[<-ko (m.symm.trans d)];exact y
  ·have e:j=j / 3*3+1:=oM;rw[e] at d |-;rw[<-ko (o.symm.trans d),<-Nat.add_assoc];exact z
  ·have e:j=j / 3*3+2:=oM;rw[e] at d |-;rw[<-ko (q.symm.trans d),<-Nat.add_assoc];exact A
 case qc3 =>
  intro u f;obtain ⟨p,_,f⟩:=List.mem_flatMap.1 f;simp only[aR,List.mem_cons,List.not_mem_nil,or_false] at f;rcases f with rfl|rfl|rfl<;>rfl
 case qc4=>rw[Nat.zero_add];unfold maxLen;omega
 case qc5=>rw[Nat.zero_add];omega
 case qc6=>simp
 intro M w1 v B R;go_wp2;go_ret;exact ⟨M,rfl,ax.own (by rw[t];exact v) oM,(aq w _).grown B sS (fun k D=>by simp[Value.ownBlock] at D;omega),ar.own v⟩
theorem Ff (W H TP a b off ca:Nat) (M:1<=W) (u:W<=64) (s:H<=64) (zs:List Int) (m:zs.length=H*W) (t:TP<a) (r:a<=H) (N:zs.length<=ca) (w:World) :
  Calls prog 58 #[.agg #[Z G W,Z G H,J (some ⟨b,off,none⟩) zs.length ca],Z G TP,Z G a] w (rT w (.agg #[Z G W,Z G (a-TP:Nat),J (some ⟨b,off+TP*W,none⟩) ((a-TP)*W) (ca-TP*W)])):=by
 have d:(TP+1)*W<=a*W:=km _ t;have i:a*W<=H*W:=km _ r;have j:(a-TP)*W=a*W-TP*W:=Nat.sub_mul _ _ _;have p:H*W<=64*64:=Nat.mul_le_mul s u;rw[Nat.succ_mul] at d;rw[j];obtain ⟨A,e⟩:=eX (TP*W);obtain ⟨B,f⟩:=eX (a*W);rw[e] at d |-;rw[f] at d i |-;rw[<-m] at i p;have K:(TP:Int)*(W:Int)=(A:Int):=by rw[<-e];simp
 have L:(a:Int)*(W:Int)=(B:Int):=by rw[<-f];simp
 have V:IntKind.i64.wrap (A:Int)=(A:Int):=kd _ oM;have X:IntKind.i64.wrap (B:Int)=(B:Int):=kd _ oM;have q:IntKind.i64.wrap ((a:Int)-(TP:Int))=((a-TP:Nat):Int):=(kd _ oM).trans oM;have Q:(A:Int)<=(B:Int):=oM;have R:(B:Int)<=(ca:Int):=oM;have T:¬(ca=A):=oM;obtain ⟨D,k⟩:=eX (a-TP);rw[k] at q |-;clear e f k j m;obtain ⟨g,c,n⟩:=gr w (ka #[Z G W,Z G H,J (some ⟨b,off,none⟩) zs.length ca] 54) (ka #[Z G 0,Z G 0,J none 0 0] 54);go_enter func58,ntmps58;go_wp2_with fail
 have O:=lS g;have P:=lS c;generalize (w.alloc _).alloc _=U at *;have hSd:U.drew.cell? ⟨w.heap.size,0,none⟩=some (Z G W)/\U.drew.cell? ⟨w.heap.size,1,none⟩=some (Z G H)/\U.drew.cell? ⟨w.heap.size,2,none⟩=some (J (some ⟨b,off,none⟩) zs.length ca):=al (w:=U.drew) g;obtain ⟨x,y,z⟩:=al c;obtain ⟨E,F,I⟩:=fZ c;refine dR (S:=fun v:World=>v.cell? ⟨w.heap.size,0,none⟩=some (Z G W)/\v.cell? ⟨w.heap.size,1,none⟩=some (Z G H)/\v.cell? ⟨w.heap.size,2,none⟩=some (J (some ⟨b,off,none⟩) zs.length ca)) 17 ?_;refine ct 0 ?_;refine ct 2 ?_;refine ct 3 ?_;refine ct 5 ?_;refine ct 7 ?_;refine ct 8 ?_;refine ct 11 ?_;refine ct 12 ?_;refine ct 1 ?_;refine ct 4 ?_;refine ct 6 ?_;refine ct 9 ?_;refine ct 13 ?_;refine ct 10 ?_;refine ct 14 ?_;refine ct 15 ?_;refine ct 16 ?_;refine aS fun C l=>?_;go_simp;refine l.out _ _ ?_;clear l;try simp only[Act.put]
 have o:=qH (bf n.1 (show w.heap.size<=w.heap.size+1 from oM) (Z G W) (Z G D) (J (some ⟨b,off+A,none⟩) (B-A) (ca-A)));go_wp2;exact bodyPost_ret (v:=.agg #[Z G W,Z G D,J (some ⟨b,off+A,none⟩) (B-A) (ca-A)]) (by simp[results,results58,go_sem,x,y,z]) rfl ⟨rfl,o.1.drew⟩
def li (top rows:Nat) (s:Pt):Bool:=decide ((top:Int)<=s.2/\s.2<(top:Int)+rows)
def gm (a:List Pt) (top rows:Nat):List Pt:=(a.filter (li top rows)).map fun s=>(s.1,s.2-top)
def kD (p:Int):Int:=if p<2 then p+2 else p-2
def mY (m:Nat->Int) (k:Nat):Int:=m ((k+2) % 4)
def nx (n:aA) (top:Nat):aA:={ n with phase:=if top % 2=1 then kD n.phase else n.phase,black:=if top % 2=1 then mY n.black else n.black }
def ff (n:aA) (top rows:Nat):aA:={ nx n top with spots:=gm n.spots top rows }
theorem HU (p:Int) (h:0<=p/\p<=3):bits BinOp.xor G p 2=kD p:=by
 rcases (show p=0\/p=1\/p=2\/p=3 from oM) with rfl|rfl|rfl|rfl<;>decide +kernel
abbrev iv:Array Value:=#[Z G 0,Z G 0,Z G 0,Z G 0,Z G 0,Z G 0,J none 0 0,Z G 0,Z G 0,Z G 0,Z G 0,Z G 0,Z G 0,Z G 0,Z G 0,Z G 0,Z G 0,Z G 0,Z G 0,J none 0 0,Z G 0]
def aK (t:Pt):List Value:=[Z G t.1,Z G t.2]
def kM:Value:=.agg #[Z G 0,Z G 0]
theorem Tryz.infoSpot:(prog.info? 97).map (fun i=>(i.zero,i.size,i.bytes))=some (some kM,2,16):=kR
theorem ni (a:List Pt):(a.flatMap aK).length=a.length*2:=by
 induction a with
 | nil=>rfl
 | cons p a ih=>rw[List.flatMap_cons,List.length_append,ih];simp[aK];omega
theorem su (a:List Pt) (j:Nat) (h:j<a.length):(a.flatMap aK)[j*2]?=some (Z G (an a j).1)/\(a.flatMap aK)[j*2+1]?=some (Z G (an a j).2):=by
 rw[<-i7 a j h]
 induction a generalizing j with
 | nil=>simp at h
 | cons p a ih =>
  cases j with
  | zero=>simp[aK,List.flatMap_cons]
  | succ j =>
   have b:j<a.length:=(by simpa using h);have:=ih j b;rw[List.flatMap_cons,show (j+1)*2=j*2+2 from oM];simp only[aK,List.cons_append,List.nil_append,List.getElem?_cons_succ,List.getElem_cons_succ];exact this
theorem bo.own {w:World} {base:Nat} {e:TypeId} {v:Value} {c:List Pt} (h:w.ownsRow base e 2 v c.length (c.flatMap aK)) (k:c.length<=9223372036854775807):bo w v c:=by
 rcases h.2 with ⟨d,l⟩|⟨g,cap,o,d,_,f,s,t,x,p⟩
 ·exact ⟨none,0,by rw[d,l],k,.inl (List.eq_nil_of_length_eq_zero l)⟩
 ·refine ⟨_,cap,d,k,.inr ⟨g,0,rfl,(lS f),fun j r=>?_⟩⟩;have n:∀i u,i<c.length*2->(c.flatMap aK)[i]?=some u->w.cell? ⟨g,0+i,none⟩=some u:=fun i u q m=>by
   rw[Nat.zero_add,cell_of_row w g i o _ _ f];rw[<-p,List.getElem?_take_of_lt q] at m;simpa using m
  obtain ⟨a,b⟩:=su c j r;exact ⟨n _ _ oM a,n _ _ oM b⟩
theorem bo.other {w w':World} {v:Value} {f:List Pt} {k:Nat} (h:bo w v f) (p:w.heap.size<=w'.heap.size) (d:∀b,b≠k->w'.heap[b]?=w.heap[b]?) (o:v.ownBlock≠some k):bo w' v f:=by
 obtain ⟨g,cap,rfl,m,h⟩:=h;refine ⟨g,cap,rfl,m,?_⟩;rcases h with h|⟨b,off,rfl,n,i⟩
 ·exact .inl h
 ·have c:b≠k:=fun e=>o (by rw[e];rfl);refine .inr ⟨b,off,rfl,Nat.lt_of_lt_of_le n p,fun j l=>?_⟩;rw[World.cell?_of_block (a:=⟨b,off+j*2,none⟩) (d b c),World.cell?_of_block (a:=⟨b,off+j*2+1,none⟩) (d b c)];exact i j l
theorem CO (a:List Pt) (k:Nat) (b:k<a.length) (top rows:Nat):gm (a.take (k+1)) top rows=gm (a.take k) top rows++(if li top rows (an a k)=true then [((an a k).1,(an a k).2-top)] else []):=by
 rw[List.take_succ_eq_append_getElem b,i7];unfold gm;rw[List.filter_append,List.map_append];congr 1;by_cases h:li top rows (an a k)=true
 ·rw[if_pos h,List.filter_cons_of_pos h];rfl
 ·rw[if_neg h,List.filter_cons_of_neg h];rfl
theorem rV (a:List Pt) (top rows:Nat):(gm a top rows).length<=a.length:=by
 unfold gm;rw[List.length_map];exact List.length_filter_le _ _
def lU (w:World) (n:aA) (TP R:Nat) (b a s:Value) (k:Nat) (wr:World):Prop :=
 wr.ownsRow w.heap.size 97 2 s (gm (n.spots.take k) TP R).length ((gm (n.spots.take k) TP R).flatMap aK)/\wr.heap[w.heap.size]?=some (.cells (aO (nx n TP) b a) 51 (0,0))/\wr.heap[w.heap.size+1]?=some (.cells iv 51 (0,0))/\Below w.heap.size w wr
theorem lU.below {w:World} {n:aA} {TP R:Nat} {c b s:Value} {k:Nat} {wr V:World} (h:lU w n TP R c b s k wr) (a:Below wr.heap.size wr V):lU w n TP R c b s k V :=
 ⟨cT h.1 a,(a.block _ (lS h.2.1)).trans h.2.1,(a.block _ (lS h.2.2.1)).trans h.2.2.1,h.2.2.2.trans (a.mono h.2.2.2.size)⟩
theorem CQ (n:aA) (sv H:Value) (TP R:Nat) (hT:TP<=64) (hR:R<=64) (hph:0<=n.phase/\n.phase<=3) (hln:n.spots.length<=64) (hsp:cP 64 64 n.spots=true) (w:World) (hp:dH w n sv H) :
  Calls prog 118 #[.agg (aO n sv H),Z G TP,Z G R] w fun e w'=>∃rv,e=.returned (.agg (aO (ff n TP R) rv H))/\dH w' (ff n TP R) rv H/\Below w.heap.size w w':=by
 have HP:=qH hp;have HSP:=qH hsp;obtain ⟨⟨z,o,rfl,hll,hlc⟩,⟨c,a,rfl,hkl,_⟩⟩:=hp;have HC:=qH (fun j hj=>bo.at ⟨z,o,rfl,hll,hlc⟩ j hj);clear hlc hsp;obtain ⟨t,Q,HB⟩:=gr w (ka (aO n (J z n.spots.length o) (J c n.curve.length a)) 51) (ka iv 51);obtain ⟨r,hr⟩:=eX (TP % 2);have hrm:(TP:Int) % 2=(r:Int):=by rw[<-hr];rfl
 have HRR:=qH hr;have hr2:r<2:=oM;clear hr;have hx:=HU n.phase hph;go_enter func118,ntmps118;go_upto_if 12 with fail
 have hl1:=lS t;have hl2:=lS Q;generalize (w.alloc _).alloc _=U at *;go_cut [3] from 10 (fun s v=>s=.pointer (some ⟨w.heap.size,0,none⟩)/\v.heap[w.heap.size]?=some (.cells (aO (nx n TP) (J z n.spots.length o) (J c n.curve.length a)) 51 (0,0))/\v.heap[w.heap.size+1]?=some (.cells iv 51 (0,0))/\Below w.heap.size w v)
 case first =>
  rcases (show r=0\/r=1 from oM) with rfl|rfl
  ·go_wp2;go_meet
   case rel =>
    refine ⟨rfl,?_,Q,HB.1⟩;rw[show aO (nx n TP) (J z n.spots.length o) (J c n.curve.length a)=aO n (J z n.spots.length o) (J c n.curve.length a) by simp[nx,HRR.1]];exact t
  ·obtain ⟨c0,c1,c2,c3,c4,c5,T,c7,c8,c9,c10,c11,c12,c13,c14,c15,c16,c17,c18,c19,c20⟩:=fl t;have I:=heap_setCell_same U w.heap.size 0 _ _ (Z G (kD n.phase)) t;obtain ⟨f0,f1,f2⟩:=fZ t;have f3:=kb t 3;have f4:=kb t 4;go_wp2;go_meet
   case rel =>
    refine ⟨rfl,?_,?_,?_⟩
    ·have e2:=heap_setCell_same _ w.heap.size 1 _ _ (Z G (n.black 2)) I;have e3:=heap_setCell_same _ w.heap.size 2 _ _ (Z G (n.black 3)) e2;have e4:=heap_setCell_same _ w.heap.size 3 _ _ (Z G (n.black 0)) e3;have e5:=heap_setCell_same _ w.heap.size 4 _ _ (Z G (n.black 1)) e4;rw[e5];simp[nx,HRR.1,mY]
    ·rw[kf _ _ _ _ (show w.heap.size+1≠w.heap.size from oM),kf _ _ _ _ (show w.heap.size+1≠w.heap.size from oM),kf _ _ _ _ (show w.heap.size+1≠w.heap.size from oM),kf _ _ _ _ (show w.heap.size+1≠w.heap.size from oM),kf _ _ _ _ (show w.heap.size+1≠w.heap.size from oM)];exact Q
    ·exact ((((HB.1.setCell (p:=⟨w.heap.size,0,none⟩) (kc _) _).setCell (p:=⟨w.heap.size,1,none⟩) (kc _) _).setCell (p:=⟨w.heap.size,2,none⟩) (kc _) _).setCell (p:=⟨w.heap.size,3,none⟩) (kc _) _).setCell (p:=⟨w.heap.size,4,none⟩) (kc _) _
 case rest =>
  obtain ⟨rfl,S,b2,hbc⟩:=hcut;obtain ⟨i0,hi,hz0,hz1,hz2⟩:=info_parts Tryz.infoSpot;obtain ⟨_,_,_,_,_,_,T,_⟩:=fl S;have HM0:=qH (show lU w n TP R (J z n.spots.length o) (J c n.curve.length a) (J none 0 0) 0 wc from ⟨World.ownsRow_nil _ _ _ _,S,b2,hbc⟩);clear S b2 hbc hx;go_wp2_with fail
  clear T;go_loopw [7,34] (fun s i wr=>∃k:Nat,k<=n.spots.length/\i=Z G k/\lU w n TP R (J z n.spots.length o) (J c n.curve.length a) s k wr) (fun _ i _=>n.spots.length-(intOf i).toNat)
  case atStart=>exact ⟨0,kh _,rfl,HM0.1⟩
  case round =>
   clear HM0;obtain ⟨k,hk,rfl,B⟩:=hrel;by_cases hlt:k<n.spots.length
   ·have hd:decide ((k:Int)<(n.spots.length:Int))=true:=sO;obtain ⟨F,O,rfl,hbq,e0,I⟩:=HC.1 k hlt;have d0:=(B.2.2.2.cell (p:=⟨F,O+k*2,none⟩) hbq).trans e0;have d1:=(B.2.2.2.cell (p:=⟨F,O+k*2+1,none⟩) hbq).trans I;have A:=qH (CO n.spots k hlt TP R);have M:=xL HSP.1 k hlt;obtain ⟨⟨x,y⟩,hxy⟩:∃p,an n.spots k=p:=⟨_,rfl⟩;rw[hxy] at d0 d1 A M;simp only at d0 d1 A M;have hxr:0<=x/\x<64/\0<=y/\y<64:=(by simpa [bc] using M);obtain ⟨hx0,hx1,hy0,hy1⟩:=hxr;clear hxy e0 I M;have a5:=aD wr (ka #[Z G x,Z G y] 97);obtain ⟨s0,s1⟩:=bL a5;have D:=qH (B.below (aq wr (ka #[Z G x,Z G y] 97)));by_cases L:(TP:Int)<=y/\y<(TP:Int)+R
    ·have Y:li TP R (x,y)=true:=decide_eq_true L;rw[if_pos Y] at A;have hg1:decide ((TP:Int)<=y)=true:=(by simpa using L.1);have hg2:decide (y<(TP:Int)+(R:Int))=true:=(by simpa using L.2);have hwy:IntKind.i64.wrap (y-(TP:Int))=y-(TP:Int):=kd _ oM;have P:=qH (D.1.below (aq _ (ka #[Z G x,Z G (y-TP)] 97)));have hml:=rV (n.spots.take k) TP R;have htl:=List.length_take_le k n.spots;obtain ⟨XS,V⟩:=eX (gm (n.spots.take k) TP R);have HXS:=qH V;have HOW:=qH P.1.1;rw[V] at hml HOW;clear V B D;have hnb:=(df wr (ka #[Z G x,Z G y] 97) (ka #[Z G x,Z G (y-TP)] 97)).2;go_wp2_with (at_builtin;refine wpList_append_own _ rfl _ _ 46 rfl w.heap.size 97 i0 kM 2 16 underlying46 hi hz0 hz1 hz2 rfl oM _ XS.length (XS.flatMap aK) rfl HOW.1 ⟨wr.heap.size+1,0,none⟩ 1 1 [Z G x,Z G (y-TP)] rfl ?qc1 ?qc2 ?qc3 ?qc4 ?qc5 ?qc6 ?_)
     case qc1=>rfl
     case qc2=>exact World.news_of_block hnb
     case qc3=>exact fun u hu=>by simp at hu;rcases hu with rfl|rfl<;>rfl
     case qc4=>unfold maxLen;omega
     case qc5=>omega
     case qc6=>have:=P.1.2.2.2.size;exact this
     intro v' w1 hown X hnil;have E:=qH (show lU w n TP R (J (some ⟨F,O,none⟩) n.spots.length o) (J c n.curve.length a) v' (k+1) w1 from by
      obtain ⟨l,m,q,C⟩:=P.1;rw[HXS.1] at l;refine ⟨?_,?_,?_,?_⟩
      ·rw[A.1,HXS.1,List.length_append,List.flatMap_append];exact hown
      ·exact (X.block _ (lS m) (aW l m dD)).trans m
      ·exact (X.block _ (lS q) (aW l q dD)).trans q
      ·exact C.grown X C.size (fun j hj=>(l.lt j hj).1))
     go_wp2;go_roundw
     case rel=>exact ⟨k+1,oM,gN,E.1⟩
     case measure=>simp[intOf];omega
    ·have Y:¬li TP R (x,y)=true:=fun h=>L (of_decide_eq_true h);rw[if_neg Y,List.append_nil] at A;have E:=qH (show lU w n TP R (J (some ⟨F,O,none⟩) n.spots.length o) (J c n.curve.length a) u7 (k+1) (wr.alloc (ka #[Z G x,Z G y] 97)) from by
      obtain ⟨l,m,q,C⟩:=D.1;exact ⟨by rw[A.1];exact l,m,q,C⟩)
     clear B D;rcases (show ¬(TP:Int)<=y\/((TP:Int)<=y/\¬y<(TP:Int)+R) from oM) with K|K
     ·have hg1:decide ((TP:Int)<=y)=false:=(by simpa using K);go_wp2;go_roundw
      case rel=>exact ⟨k+1,oM,gN,E.1⟩
      case measure=>simp[intOf];omega
     ·have hg1:decide ((TP:Int)<=y)=true:=(by simpa using K.1);have hg2:decide (y<(TP:Int)+(R:Int))=false:=(by simpa using K.2);go_wp2;go_roundw
      case rel=>exact ⟨k+1,oM,gN,E.1⟩
      case measure=>simp[intOf];omega
   ·have hd:decide ((k:Int)<(n.spots.length:Int))=false:=sO;have hkl:k=n.spots.length:=oM;subst hkl;obtain ⟨l,m,q,C⟩:=B;rw[List.take_length] at l;have hml:=rV n.spots TP R;have hpts:bo wr u7 (gm n.spots TP R):=bo.own l oM;have HPT:=qH hpts;obtain ⟨f,d,rfl,x1,x2⟩:=hpts;clear x1 x2;obtain ⟨N,hN⟩:=eX ((gm n.spots TP R).length);rw[hN] at l HPT |-;clear hN;obtain ⟨_,_,_,_,_,_,T,_⟩:=fl m;have f6:=kb m 6;have e6:(wr.setCell ⟨w.heap.size,6,none⟩ (J f N d)).heap[w.heap.size]?=some (.cells (aO (ff n TP R) (J f N d) (J c n.curve.length a)) 51 (0,0)):=(heap_setCell_same wr w.heap.size 6 _ _ (J f N d) m).trans rfl;have g1:(wr.setCell ⟨w.heap.size,6,none⟩ (J f N d)).heap[w.heap.size+1]?=some (.cells iv 51 (0,0)):=(kf _ _ _ _ (show w.heap.size+1≠w.heap.size from oM)).trans q;have i1:(prog.info? 51).map (·.size)=some (aO (ff n TP R) (J f N d) (J c n.curve.length a)).size:=kR;have i3:(aO (ff n TP R) (J f N d) (J c n.curve.length a)).all (·.oneCell')=true:=(by simp[Value.oneCell']);have hne1:(J f N d).ownBlock≠some w.heap.size:=fun e=>aW l m dD e.symm;have hne2:(J f N d).ownBlock≠some (w.heap.size+1):=fun e=>aW l q dD e.symm;have HX:=qH ((HPT.1.other (k:=w.heap.size) (w':=wr.setCell ⟨w.heap.size,6,none⟩ (J f N d)) (by simp[World.setCell]) (fun b W=>kf _ _ _ _ W) hne1).other (k:=w.heap.size+1) (w':=(wr.setCell ⟨w.heap.size,6,none⟩ (J f N d)).setRow (w.heap.size+1) (aO (ff n TP R) (J f N d) (J c n.curve.length a))) sS (fun b W=>setRow_other _ _ _ _ W) hne2);have HF:=qH (below_setRow (g:=w.heap.size+1) (C.setCell (p:=⟨w.heap.size,6,none⟩) (kc _) (J f N d)) oM (aO (ff n TP R) (J f N d) (J c n.curve.length a)));have HG:=qH (setRow_heap _ _ _ (aO (ff n TP R) (J f N d) (J c n.curve.length a)) _ _ g1);clear l q hne1 hne2;(go_wp2_with (first|refine wpList_load_row rfl 51 _ rfl _ rfl _ _ _ _ e6 underlying51 rfl kR ?_|refine wpList_store_row rfl 51 _ _ rfl (w.heap.size+1) (aO (ff n TP R) (J f N d) (J c n.curve.length a)) rfl rfl _ _ g1 i1 rfl i3 ?_));refine bodyPost_ret (v:=.agg (aO (ff n TP R) (J f N d) (J c n.curve.length a))) (results_cell_row results118 _ _ _ _ _ _ _ rfl HG.1 underlying51 rfl kR) rfl ⟨_,rfl,⟨HX.1,HP.1.curve.below HF.1 (kc _)⟩,HF.1⟩
abbrev kJ (a:Value):Array Value:=#[Z G 0,Z G 0,Z G 0,Z G 0,Z G 0,Z G 65535,J none 0 0,Z G 256,Z G 256,Z G 256,Z G 4096,Z G 0,Z G 0,Z G 0,Z G 4096,Z G 0,Z G 0,Z G 0,Z G 4096,a,Z G 64]
theorem Ci (w:World):Calls prog 145 #[] w fun e w'=>∃v,e=.returned v/\bo w' v [(0,0),(65535,65535)]/\Below w.heap.size w w'/\ar w.heap.size v:=by
 go_enter func145,ntmps145;go_wp2;go_ret;refine ⟨_,rfl,Ej w [(0,0),(65535,65535)] _ _ 2 rfl (fun j a=>?_) oM,aq _ _,fun b e=>?_,kc _⟩
 ·rcases (show j=0\/j=1 from oM) with rfl|rfl<;>exact ⟨rfl,rfl⟩
 ·cases e
  exact kc _
theorem DR (w:World):Calls prog 91 #[] w fun e w'=>∃i,e=.returned (.agg (kJ i))/\dH w' jy (J none 0 0) i/\Below w.heap.size w w':=by
 obtain ⟨f,n⟩:=d9 w (ka iv 51);have l:=lS f;go_enter func91,ntmps91;go_wp2_with fail
 refine (Ci _).mono ?_;rintro e w1 ⟨v,rfl,m,d,t⟩;have j:=(d.block _ l).trans f;have s:=aG n.1 d;have q:=qH m;obtain ⟨c,a,rfl,y,z⟩:=m;clear y z;have u:(prog.info? 51).map (·.size)=some (kJ (J c 2 a)).size:=kR;have x:(kJ (J c 2 a)).all (·.oneCell')=true:=by simp[Value.oneCell']
 have r:=qH (q.1.other (k:=w.heap.size) (w':=w1.setRow w.heap.size (kJ (J c 2 a))) sS (fun b d=>setRow_other _ _ _ _ d) (t.ne l));have o:=qH (below_setRow (g:=w.heap.size) s (kc _) (kJ (J c 2 a)));have p:=qH (setRow_heap _ _ _ (kJ (J c 2 a)) _ _ j);go_wp2_with (refine wpList_store_row rfl 51 _ _ rfl w.heap.size (kJ (J c 2 a)) rfl rfl _ _ j u rfl x ?_)
 refine bodyPost_ret (v:=.agg (kJ (J c 2 a))) (results_cell_row results91 _ _ _ _ _ _ _ rfl p.1 underlying51 rfl kR) rfl ⟨_,rfl,⟨⟨none,0,rfl,dD,.inl rfl⟩,r.1⟩,o.1⟩
end Go.Proofs.YtfjeonehdlphiaaGreatDoor
