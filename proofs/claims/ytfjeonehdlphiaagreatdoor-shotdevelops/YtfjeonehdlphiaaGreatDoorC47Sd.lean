/- Part 47. -/
import Derived.Test.YtfjeonehdlphiaaGreatDoorC42Sd
import Derived.Test.YtfjeonehdlphiaaGreatDoorC44Sd
import Derived.Deep.CutBlock
open Go.Obj renaming cells → ka
open Go.Lib renaming frozen_of_heap → kb, cell_of_heap → kc
open Go.Act renaming put → kd
open Nat renaming le_refl → kf, le_trans → ko, zero_le → kw, one_pos → yb, le_of_lt → ys
open Go.IntWalk renaming i64_in → kh
open Go.RowKit.Below renaming refl → km, heap_setCell → kv
open List renaming length_map → kG, map_append → xc, flatMap_append → xe
open Go.World renaming news_of_block → xa
open Go.Value renaming int → Z, slice → J
open Go.IntKind renaming i64 → G
set_option linter.unusedVariables false
set_option maxHeartbeats 12800000
set_option maxRecDepth 100000
namespace Go.Proofs.YtfjeonehdlphiaaGreatDoor
open Go.RowKit
open _root_.Go.Proofs.Tryz
theorem Hj {P:Program} {e:Array Oper} {rest:List Oper} {o:Oper} {a:Act} {w:World} {Q:Exit->Act->World->Prop} (f:o.guard=none) (t:TypeId) (b:Array (Nat×Operand)) (g:o.op=.build t b) (c:Array Value)
  (d:P.built t (b.map fun (i,x)=>(i,a.eval x)).toList=some c)
  (h:wpList P e Q rest (a.put o.dst (.agg c)) w):wpList P e Q (o::rest) a w :=
 wpList_build f t b g (by rw[d];rfl) (by rw[d];exact h)
structure EJ (w:World) (QX:Nat) (st:Option (List UInt8)) (cs:List Value) (X:List iE) (V:World):Prop where
 qx:w.heap.size+1<QX
 bel:Below w.heap.size w V
 res:bx w.heap.size 57 ay.toList V
 eye:eA (w.heap.size+1) st V
 box:bx QX 57 cs V
 ty:∀x∈X,57≠x.1
 rows:∀x∈X,V.ownsRow QX x.1 x.2.1 x.2.2.1 x.2.2.2.1 x.2.2.2.2
theorem EJ.num {w:World} {d:Nat} {k i:Option (List UInt8)} {e:List Value} {X:List iE} {V b:World} (h:EJ w d k e X V) (j:eA (w.heap.size+1) i b) (a:cB w.heap.size (w.heap.size+1) V b):EJ w d i e X b where
 qx:=h.qx
 bel:=h.bel.trans a.bel
 res:=(a.keep _ h.res.lt oM).trans h.res
 eye:=j
 box:=(a.keep _ h.box.lt (by have:=h.qx;omega)).trans h.box
 ty:=h.ty
 rows:=fun x c=>wb (h.rows x c) (fun g f=>a.keep g ((h.rows x c).lt g f).2 (by have:=((h.rows x c).lt g f).1;have:=h.qx;omega))
theorem mP {B st V} {n:Nat} (h:eA (B+1) st V) (d:dB st<=n) (f:n<=140737488355328):Calls prog 112 #[.pointer (some ⟨B+1,0,none⟩)] V fun e a=>∃c y,e=.returned (Z G y)/\Hid (bd aH st=c)/\Hid (bG aH 0 st=y)/\dB c<=n/\eA (B+1) c a/\cB B (B+1) V a :=
 (uH B (B+1) st V oM h oM).mono fun e a b=>⟨_,_,b.1,rfl,rfl,ko (mU (p:=aH) (fun _ _ _=>fK) st) d,b.2.1,b.2.2⟩
theorem EJ.numC {w:World} {f:Nat} {c:Option (List UInt8)} {i:List Value} {X:List iE} {V:World} {n:Nat} (h:EJ w f c i X V) (r:n<=140737488355328) (q:dB c<=n):Calls prog 112 #[.pointer (some ⟨w.heap.size+1,0,none⟩)] V fun e g=>∃d y,e=.returned (Z G y)/\Hid (bd aH c=d)/\Hid (bG aH 0 c=y)/\dB d<=n/\Hid (EJ w f d i X g) :=
 (mP h.eye q r).mono fun e g ⟨a,b,j,k,l,m,o,p⟩=>⟨a,b,j,k,l,m,h.num o p⟩
theorem EJ.txtC {w:World} {d:Nat} {a:Option (List UInt8)} {g:List Value} {X:List iE} {V:World} {n:Nat} (h:EJ w d a g X V) (j:n<=140737488355328) (i:dB a<=n):Calls prog 111 #[.pointer (some ⟨w.heap.size+1,0,none⟩)] V fun e f=>∃c y,e=.returned (.string (lh y))/\Hid (bd cn a=c)/\Hid (bG cn [] a=y)/\dB c<=n/\Hid (EJ w d c g X f) :=
 (uI w.heap.size (w.heap.size+1) a V oM h.eye oM).mono fun e f b=>⟨_,_,b.1,rfl,rfl,ko (mU (p:=cn) (fun _ _ _=>oB) a) i,h.num b.2.1 b.2.2⟩
theorem EJ.put {w:World} {a:Nat} {d:Option (List UInt8)} {c:List Value} {X:List iE} {V:World} (h:EJ w a d c X V) (i:Nat) (v:Value):EJ w a d (c.set i v) X (V.setCell ⟨a,i,none⟩ v) where
 qx:=h.qx
 bel:=h.bel.setCell (p:=⟨a,i,none⟩) (by have:=h.qx;show w.heap.size<=a;omega) _
 res:=(kv _ _ _ _ (by have:=h.qx;show w.heap.size≠a;omega)).trans h.res
 eye:=h.eye.of (kv _ _ _ _ (by have:=h.qx;show w.heap.size+1≠a;omega))
 box:=mQ h.box i v
 ty:=h.ty
 rows:=fun x b=>ownsRow_setCell_other (h.rows x b) (fun e=>aW (h.rows x b) h.box (h.ty x b) e.symm) _
theorem EJ.low {w:World} {b:Nat} {e:Option (List UInt8)} {d:List Value} {X:List iE} {V c:World} (h:EJ w b e d X V) (a:Below V.heap.size V c):EJ w b e d X c where
 qx:=h.qx
 bel:=h.bel.trans (a.mono h.bel.size)
 res:=(a.block _ h.res.lt).trans h.res
 eye:=h.eye.of (a.block _ h.eye.lt)
 box:=(a.block _ h.box.lt).trans h.box
 ty:=h.ty
 rows:=fun x f=>cT (h.rows x f) a
theorem EJ.app {w:World} {c:Nat} {s:Option (List UInt8)} {o:List Value} {X:List iE} {V w1:World} {e:TypeId} {j n m i:Nat} {d:Option Addr} {cap:Nat} {l:Value} {xs t:List Value} (h:EJ w c s o ((e,j,J d n cap,n,xs)::X) V) (A:o[i]?=some (J d n cap))
  (y:V.grownBy w1 (J d n cap).ownBlock) (B:w1.ownsRow c e j l m t) (v:∀x∈X,x.1≠e) :
  w1.cell? ⟨c,i,none⟩=some (J d n cap)/\w1.frozen? ⟨c,i,none⟩=false/\EJ w c s (o.set i l) ((e,j,l,m,t)::X) (w1.setCell ⟨c,i,none⟩ l):=by
 have f:=h.rows (e,j,J d n cap,n,xs) sS;have r:57≠e:=h.ty (e,j,J d n cap,n,xs) sS;simp only at f;have C:=h.qx;obtain ⟨F,H,I,K,L,q⟩:=tO (i:=i) r h.box A f h.bel oM oM h.bel.size y B;refine ⟨F,H,C,L,?_,?_,I,?_,?_⟩
 ·exact (q _ h.res.lt (fun a=>by have:=(f.lt _ a.symm).1;omega) oM).trans h.res
 ·exact h.eye.of (q _ h.eye.lt (fun a=>by have:=(f.lt _ a.symm).1;omega) oM)
 ·intro x b;rcases List.mem_cons.1 b with rfl|b
  ·exact r
  ·exact h.ty x (by simp[b])
 ·intro x b;rcases List.mem_cons.1 b with rfl|b
  ·exact K
  ·have k:=h.rows x (by simp[b]);refine wb k (fun g p=>q g (k.lt g p).2 ?_ ?_)
   ·intro a;rcases f.2 with ⟨D,_⟩|⟨O,M,N,E,_,z,_⟩
    ·rw[D] at a;cases a
    ·rw[E] at a;simp only[Value.ownBlock,Option.some.injEq] at a;subst a;exact aW k z (fun u=>v x b u.symm) p.symm
   ·exact fun a=>aW k h.box (h.ty x (by simp[b])) (by rw[<-a];exact p.symm)
theorem EJ.row0 {w:World} {b:Nat} {d:Option (List UInt8)} {c:List Value} {X:List iE} {V:World} (h:EJ w b d c X V) (e:TypeId) (g:Nat) (f:57≠e):EJ w b d c ((e,g,J none 0 0,0,[])::X) V where
 qx:=h.qx
 bel:=h.bel
 res:=h.res
 eye:=h.eye
 box:=h.box
 ty:=fun x a=>by
  rcases List.mem_cons.1 a with rfl|a
  ·exact f
  ·exact h.ty x a
 rows:=fun x a=>by
  rcases List.mem_cons.1 a with rfl|a
  ·exact ⟨sS,.inl ⟨rfl,rfl⟩⟩
  ·exact h.rows x a
theorem Tryz.infoSpotF:(prog.info? 97).map (fun i=>(i.zero,i.size,i.bytes))=some (some (.agg #[Z G 0,Z G 0]),2,16):=kR
theorem Tryz.infoPointF:(prog.info? 66).map (fun i=>(i.zero,i.size,i.bytes))=some (some (.agg #[Z G 0,Z G 0]),2,16):=kR
def bh (x:Int):Value:=Z G x
theorem EX (s:List UInt8) (w:World) (hs:s.length<=140737488355328) :
  Calls prog 50 #[.string (lh s)] w fun e w'=>Below w.heap.size w w'/\((∃r lv tv sv cv,eI s=some (eF r)/\e=.returned (.tuple #[.agg (aC r lv tv sv cv),.bool true])/\cR w' r lv tv sv cv/\ar w.heap.size lv/\ar w.heap.size tv/\ar w.heap.size sv/\ar w.heap.size cv) \/
   (eI s=none/\e=.returned (.tuple #[.agg ay,.bool false]))):=by
 obtain ⟨a1,a2,HB⟩:=gr w (ka ay 57) (ka #[.string (lh s),.bool false] 160);have hl1:=lS a1;have iz:(prog.info? 57).map (·.size)=some (ay:Array Value).size:=kR;have oz:(ay:Array Value).all (·.oneCell')=true:=by simp[Value.oneCell']
 have HE:=qH (show eA (w.heap.size+1) (some s) ((w.alloc (ka ay 57)).alloc (ka #[.string (lh s),.bool false] 160)) from .inl ⟨s,rfl,a2⟩);have HRS:=qH (show bx w.heap.size 57 ay.toList ((w.alloc (ka ay 57)).alloc (ka #[.string (lh s),.bool false] 160)) from a1);obtain ⟨RR,hRR⟩:=eX (eI s);rw[hRR];have HRR:=qH hRR;clear hRR a1 a2;go_enter func50,ntmps50;go_wp2_with fail
 generalize (w.alloc _).alloc _=U at *;refine (uI w.heap.size (w.heap.size+1) (some s) U oM HE.1 (by show s.length<=_;omega)).mono ?_;rintro e V1 ⟨rfl,hE1,hS1⟩;have hb1:=HB.1.trans hS1.bel;have hr1:bx w.heap.size 57 ay.toList V1:=(hS1.keep _ hl1 oM).trans HRS.1;obtain ⟨m,hm⟩:=eX (bG cn [] (some s));rw[hm];by_cases hd:m=gc;rotate_left
 ·have HN:=qH (show RR=none by rw[<-HRR.1];exact xn (Eu (by rw[hm];exact hd)));have hq:((lh m).toList == [100,97,114,107])=false:=by rw[Lib.toList_data,bP];exact beq_false_of_ne hd
  have hq2:((lh m).toList != [100,97,114,107])=true:=by rw[bne,hq];rfl
  have HG:=qH (setRow_heap _ _ _ ay _ _ hr1);have HBF:=qH (below_setRow (g:=w.heap.size) hb1 (kf _) ay);clear hE1 hS1 hd hm;go_wp2_with (refine wpList_store_row rfl 57 _ _ rfl w.heap.size ay rfl rfl _ _ hr1 iz rfl oz ?_)
  refine bodyPost_ret (v:=.tuple #[.agg ay,.bool false]) (lH results50 _ _ _ _ _ rfl rfl HG.1 iz) rfl ⟨HBF.1,.inr ⟨HN.1,rfl⟩⟩
 subst hd;obtain ⟨l1,ht1,hn1⟩:=Ct hm;rw[hn1] at hE1;have hll:dB (some l1)<=s.length:=by have:=oB ht1;exact this
 have HT1:=qH ht1;have hq:((lh gc).toList == [100,97,114,107])=true:=by rw[Lib.toList_data,bP];rfl
 have hq2:((lh gc).toList != [100,97,114,107])=false:=by rw[bne,hq];rfl
 obtain ⟨s1,hs1⟩:=eX (some l1);rw[hs1] at hE1 hll;have HS1:=qH hs1;have HE:=qH hE1;have HRS:=qH hr1;have HB1:=qH hb1;clear hm ht1 hn1 hs1 hE1 hr1 hb1 hS1 HB;go_wp2_with fail
 refine (mP (n:=s.length) HE.1 oM hs).mono ?_;rintro e V2 ⟨s2,T,rfl,HS2,HV2,hl2,hE,hS⟩;replace HRS:=qH (show bx w.heap.size 57 ay.toList V2 from (hS.keep _ HRS.1.lt oM).trans HRS.1);replace HB1:=qH (HB1.1.trans hS.bel);replace HE:=qH hE;clear hE hS;go_wp2_with fail
 refine (mP (n:=s.length) HE.1 oM hs).mono ?_;rintro e V3 ⟨s3,P,rfl,HS3,HV3,hl3,hE,hS⟩;replace HRS:=qH (show bx w.heap.size 57 ay.toList V3 from (hS.keep _ HRS.1.lt oM).trans HRS.1);replace HB1:=qH (HB1.1.trans hS.bel);replace HE:=qH hE;clear hE hS;go_wp2_with fail
 refine (mP (n:=s.length) HE.1 oM hs).mono ?_;rintro e V4 ⟨s4,O,rfl,HS4,HV4,hl4,hE,hS⟩;replace HRS:=qH (show bx w.heap.size 57 ay.toList V4 from (hS.keep _ HRS.1.lt oM).trans HRS.1);replace HB1:=qH (HB1.1.trans hS.bel);replace HE:=qH hE;clear hE hS;go_wp2_with fail
 refine (mP (n:=s.length) HE.1 oM hs).mono ?_;rintro e V5 ⟨s5,Q,rfl,HS5,HV5,hl5,hE,hS⟩;replace HRS:=qH (show bx w.heap.size 57 ay.toList V5 from (hS.keep _ HRS.1.lt oM).trans HRS.1);replace HB1:=qH (HB1.1.trans hS.bel);replace HE:=qH hE;clear hE hS;go_wp2_with fail
 refine (mP (n:=s.length) HE.1 oM hs).mono ?_;rintro e V6 ⟨s6,R,rfl,HS6,HV6,hl6,hE,hS⟩;replace HRS:=qH (show bx w.heap.size 57 ay.toList V6 from (hS.keep _ HRS.1.lt oM).trans HRS.1);replace HB1:=qH (HB1.1.trans hS.bel);replace HE:=qH hE;clear hE hS;obtain ⟨RA,hRA⟩:=eX (#[Z G T,Z G P,Z G O,Z G Q,Z G R,J none 0 0,J none 0 0,Z G 0,Z G 0,Z G 0,Z G 0,Z G 0,Z G 0,J none 0 0,Z G 0,Z G 0,Z G 0,Z G 0,Z G 0,Z G 0,Z G 0,Z G 0,Z G 0,Z G 0,Z G 0,Z G 0,J none 0 0,Z G 0]);have hbu:prog.built 57 [(0,Z G T),(1,Z G P),(2,Z G O),(3,Z G Q),(4,Z G R)]=some RA:=by rw[<-hRA];kernel_rfl
 have i1:(prog.info? 57).map (·.size)=some RA.size:=by rw[<-hRA];exact iz
 have i2:(ay:Array Value).size=RA.size:=by rw[<-hRA];rfl
 have hos:RA.all (·.oneCell')=true:=by rw[<-hRA];simp[Value.oneCell']
 have z1:=aD V6 (ka ay 57);have c1:=setRow_heap _ _ _ RA _ _ z1;have HBX:=qH (below_setRow (g:=V6.heap.size) (aq V6 (ka ay 57)) (kf _) RA);have HEJ:=au (show EJ w V6.heap.size s6 [Z G T,Z G P,Z G O,Z G Q,Z G R,J none 0 0,J none 0 0,Z G 0,Z G 0,Z G 0,Z G 0,Z G 0,Z G 0,J none 0 0,Z G 0,Z G 0,Z G 0,Z G 0,Z G 0,Z G 0,Z G 0,Z G 0,Z G 0,Z G 0,Z G 0,Z G 0,J none 0 0,Z G 0] [] ((V6.alloc (ka ay 57)).setRow V6.heap.size RA) from by
  have hq:=HE.1.lt;refine ⟨hq,HB1.1.trans (HBX.1.mono HB1.1.size),(HBX.1.block _ HRS.1.lt).trans HRS.1,HE.1.of (HBX.1.block _ hq),?_,sS,sS⟩;rw[<-hRA] at c1 |-;exact c1)
 clear hRA c1 HBX HRS HB1 HE;dsimp only;rename_i hKK;refine hKK _ _ ?_;clear hKK;refine Hj rfl 57 _ rfl RA ?hf ?_
 case hf=>exact Eq.trans (congrArg (prog.built 57) kR) hbu
 simp only[kd,List.setIfInBounds_toArray,List.set_cons_succ,List.set_cons_zero];go_upto_region 5 with (refine wpList_store_row rfl 57 _ _ rfl V6.heap.size RA rfl rfl _ _ z1 i1 i2 hos ?_)
 simp only[kd];clear z1 hbu i1 i2 hos;generalize (V6.alloc _).setRow _ _=W6 at *;generalize V6.heap.size=A at *;have f:=HEJ;have hQ:w.heap.size+1<A:=f.out.qx;clear HEJ;go_wp2_with fail
 refine (nQ w.heap.size (w.heap.size+1) s6 W6 oM f.out.eye oM).mono ?_;rintro e C7 ⟨rfl,hE,hS⟩;obtain ⟨N7,hN,hN7⟩:=oW s6;rw[hN];have HN7:=qH hN;obtain ⟨q7,hs'⟩:=eX (bd bY s6);rw[hs'] at hE;have HC7:=qH hs';have hlq7:dB q7<=s.length:=by have:=mU (p:=bY) (fun _ _ _=>oV) s6;rw[hs'] at this;omega
 replace f:=au ((f.out.num hE hS).row0 3 1 dD);clear hE hS hs' hN;go_upto_block 0 with fail
 go_cut [6] from 36 (fun i v=>∃(j:List Int) (H:Option (List UInt8)) (k:Nat) (F:Option Addr) (cap:Nat),j.length=k/\k<=2147483647/\LS aH s6 j H/\dB H<=s.length/\EJ w A H [Z G T,Z G P,Z G O,Z G Q,Z G R,J F k cap,J none 0 0,Z G 0,Z G 0,Z G 0,Z G 0,Z G 0,Z G 0,J none 0 0,Z G 0,Z G 0,Z G 0,Z G 0,Z G 0,Z G 0,Z G 0,Z G 0,Z G 0,Z G 0,Z G 0,Z G 0,J none 0 0,Z G 0] [(3,1,J F k cap,k,j.map bh)] v)
 case first =>
  go_wp2_with fail
  obtain ⟨i0,hi,hz0,hz1,hz2⟩:=info_parts Tryz.infoInt;go_loopw [6] (fun i wr=>∃k:Nat,k<=N7/\i=Z G ((N7:Int)-k)/\∃(j:List Int) (H:Option (List UInt8)) (F:Option Addr) (cap:Nat),MS aH k q7 j H/\dB H<=s.length/\EJ w A H [Z G T,Z G P,Z G O,Z G Q,Z G R,J F k cap,J none 0 0,Z G 0,Z G 0,Z G 0,Z G 0,Z G 0,Z G 0,J none 0 0,Z G 0,Z G 0,Z G 0,Z G 0,Z G 0,Z G 0,Z G 0,Z G 0,Z G 0,Z G 0,Z G 0,Z G 0,J none 0 0,Z G 0] [(3,1,J F k cap,k,j.map bh)] wr) (fun i _=>(intOf i).toNat)
  case atStart=>exact ⟨0,kw _,sS,[],q7,none,0,MS.zero _ _,hlq7,f.out⟩
  case round =>
   clear f;obtain ⟨k,hk,rfl,j,H,F,cap,hM,hls,L⟩:=hrel;have f:=au L;have N:=au hM;clear L hM;by_cases hlt:k<N7;rotate_left
   ·obtain rfl:k=N7:=oM;have hd:decide ((0:Int)<(k:Int)-(k:Int))=false:=decide_eq_false oM;have hd2:decide ((0:Int)<0)=false:=rfl;have hsub:(k:Int)-(k:Int)=0:=oM;rw[hsub];go_wp2;go_meet
    case rel=>exact ⟨j,H,k,F,cap,N.out.1,hN7,LS.of HN7.1 (by rw[HC7.1];exact N.out) (.inl rfl),hls,f.out⟩
   obtain ⟨d,L⟩:=eX ((N7:Int)-k);rw[L];have hJ0:0<d:=oM;have hd:decide ((0:Int)<d)=true:=decide_eq_true hJ0;rcases id f.out.eye with ⟨l,rfl,he⟩|⟨rfl,l,_,he⟩;rotate_left
   ·have hbad:wr.cell? ⟨w.heap.size+1,1,none⟩=some (.bool true):=(bL he).2;clear he L;go_wp2;go_meet
    case rel=>exact ⟨j,none,k,F,cap,N.out.1,oM,LS.of HN7.1 (by rw[HC7.1];exact N.out) (.inr ⟨rfl,hk⟩),hls,f.out⟩
   have hbad:wr.cell? ⟨w.heap.size+1,1,none⟩=some (.bool false):=(bL he).2;obtain ⟨H,hst⟩:=eX (some l);rw[hst] at f N hls;clear he hst;have hwJ:IntKind.i64.wrap (d-1)=d-1:=kh _ oM;have HSQ:=qH (fun (v:World) (st':Option (List UInt8)) (hv:EJ w A st' [Z G T,Z G P,Z G O,Z G Q,Z G R,J F k cap,J none 0 0,Z G 0,Z G 0,Z G 0,Z G 0,Z G 0,Z G 0,J none 0 0,Z G 0,Z G 0,Z G 0,Z G 0,Z G 0,Z G 0,Z G 0,Z G 0,Z G 0,Z G 0,Z G 0,Z G 0,J none 0 0,Z G 0] [(3,1,J F k cap,k,j.map bh)] v)=>show v.cell? ⟨A,5,none⟩=some (J F k cap)/\True from ⟨kc hv.box _,trivial⟩);have HL1:=qH (show k+1<=maxLen from uO);have HL2:=qH (show (k+1)*8<=140737488355328 from oM);have HJJ:=qH L;have HX:=qH (show ∀x∈([]:List iE),x.1≠3 from sS);clear L;(go_upto_region 8 with fail);clear hbad;have HJd:=qH (f.out.low ((km wr.heap.size wr).drew));have hSd:=HSQ.1 _ _ HJd.1;refine dR (S:=(fun v:World=>v.cell? ⟨A,5,none⟩=some (J F k cap)/\True)) 7 ?_;refine ak 0 ?_;refine ak 2 ?_;refine ak 1 ?_;refine aw 3 fun K' C=>?_;go_simp;refine (HJd.1.numC hs oM).mono ?_;rintro e X1 ⟨st2,y,rfl,HAst2,HBst2,hlst2,HJ1⟩;have hSd:=HSQ.1 _ _ HJ1.out;refine C.out _ _ hSd ?_;clear C;(try simp only[kd]);refine aw 4 fun K' C=>?_;go_simp;have HJ3:=qH (HJ1.out.low (aq X1 (ka #[Z G y] 3)));have hSd:=HSQ.1 _ _ HJ3.1;refine C.out _ _ hSd ?_;clear C;(try simp only[kd]);refine eZ (i:=5) (o:=_) kR rfl (fun K' C=>?_);refine step_append_lies _ rfl _ _ 52 rfl A 3 i0 (Z G 0) 1 8 underlying52 hi hz0 hz1 hz2 rfl dD (J F k cap) k (j.map bh) rfl (HJ3.1.rows (3,1,J F k cap,k,j.map bh) sS) ⟨X1.heap.size,0,none⟩ 1 1 [Z G y] rfl rfl (xa (aD X1 _)) (fun u hu=>by simp at hu;subst hu;rfl) yb HL1.1 HL2.1 (ys HJ3.1.box.lt) _ rfl ?_;intro gg cp w3 hown hgrow hat hltg;obtain ⟨x1,x2,x3⟩:=HJ3.1.app (i:=5) rfl hgrow hown HX.1;have hSd:=(⟨x1,trivial⟩:w3.cell? ⟨A,5,none⟩=some (J F k cap)/\True);refine C.out _ _ hSd ?_;clear C;(try simp only[kd]);refine ak 6 ?_;refine aS fun K' C=>?_;go_simp;refine C.out _ _ ?_;clear C;(try simp only[kd]);clear hSd;have HF:=qH (show MS aH (k+1) q7 (j++[y]) st2 from by
      have hn:=N.out.next 0 y (fun _=>HBst2.out.symm);rw[HAst2.out] at hn;exact hn)
   have HJ4:=qH (show EJ w A st2 [Z G T,Z G P,Z G O,Z G Q,Z G R,J (some ⟨gg,0,none⟩) (k+1) cp,J none 0 0,Z G 0,Z G 0,Z G 0,Z G 0,Z G 0,Z G 0,J none 0 0,Z G 0,Z G 0,Z G 0,Z G 0,Z G 0,Z G 0,Z G 0,Z G 0,Z G 0,Z G 0,Z G 0,Z G 0,J none 0 0,Z G 0] [(3,1,J (some ⟨gg,0,none⟩) (k+1) cp,(k+1),(j++[y]).map bh)] (w3.setCell ⟨A,5,none⟩ (J (some ⟨gg,0,none⟩) (k+1) cp)) from by
      have e:(j++[y]).map bh=j.map bh++[Z G y]:=(by simp[bh]);rw[e];exact x3)
   clear x3 hown hgrow hat hltg;go_wp2;go_roundw
   case rel=>exact ⟨k+1,hlt,by (first|(go_num;done)|(congr 1;have:=HJJ.1;omega)),_,_,_,_,HF.1,hlst2,HJ4.1⟩
   case measure=>simp[intOf];omega
 case rest =>
  obtain ⟨y7,s7,q,D,E,hyl7,hK7,hLS,hl7,L⟩:=hcut;have HLS7:=qH hLS;have f:=au L;clear hLS L HN7 HC7 hlq7;generalize wc=W7 at *;go_wp2_with fail
  refine (nQ w.heap.size (w.heap.size+1) s7 W7 oM f.out.eye oM).mono ?_;rintro e C8 ⟨rfl,hE,hS⟩;obtain ⟨N8,hN,hN8⟩:=oW s7;rw[hN];have HN8:=qH hN;obtain ⟨q8,hs'⟩:=eX (bd bY s7);rw[hs'] at hE;have HC8:=qH hs';have hlq8:dB q8<=s.length:=by have:=mU (p:=bY) (fun _ _ _=>oV) s7;rw[hs'] at this;omega
  replace f:=au ((f.out.num hE hS).row0 9 1 dD);clear hE hS hs' hN;go_upto_block 2 with fail
  go_cut [7] from 56 (fun i v=>∃(j:List (List UInt8)) (H:Option (List UInt8)) (k:Nat) (F:Option Addr) (cap:Nat),j.length=k/\k<=2147483647/\LS cn s7 j H/\dB H<=s.length/\EJ w A H [Z G T,Z G P,Z G O,Z G Q,Z G R,J D q E,J F k cap,Z G 0,Z G 0,Z G 0,Z G 0,Z G 0,Z G 0,J none 0 0,Z G 0,Z G 0,Z G 0,Z G 0,Z G 0,Z G 0,Z G 0,Z G 0,Z G 0,Z G 0,Z G 0,Z G 0,J none 0 0,Z G 0] [(9,1,J F k cap,k,j.map bH),(3,1,J D q E,q,y7.map bh)] v)
  case first =>
   (go_wp2_with fail);obtain ⟨i0,hi,hz0,hz1,hz2⟩:=info_parts Tryz.infoStrF;go_loopw [7] (fun i wr=>∃k:Nat,k<=N8/\i=Z G ((N8:Int)-k)/\∃(j:List (List UInt8)) (H:Option (List UInt8)) (F:Option Addr) (cap:Nat),MS cn k q8 j H/\dB H<=s.length/\EJ w A H [Z G T,Z G P,Z G O,Z G Q,Z G R,J D q E,J F k cap,Z G 0,Z G 0,Z G 0,Z G 0,Z G 0,Z G 0,J none 0 0,Z G 0,Z G 0,Z G 0,Z G 0,Z G 0,Z G 0,Z G 0,Z G 0,Z G 0,Z G 0,Z G 0,Z G 0,J none 0 0,Z G 0] [(9,1,J F k cap,k,j.map bH),(3,1,J D q E,q,y7.map bh)] wr) (fun i _=>(intOf i).toNat)
   case atStart=>exact ⟨0,kw _,sS,[],q8,none,0,MS.zero _ _,hlq8,f.out⟩
   case round =>
    clear f;obtain ⟨k,hk,rfl,j,H,F,cap,hM,hls,L⟩:=hrel;have f:=au L;have N:=au hM;clear L hM;by_cases hlt:k<N8;rotate_left
    ·obtain rfl:k=N8:=oM;have hd:decide ((0:Int)<(k:Int)-(k:Int))=false:=decide_eq_false oM;have hd2:decide ((0:Int)<0)=false:=rfl;have hsub:(k:Int)-(k:Int)=0:=oM;rw[hsub];go_wp2;go_meet
     case rel=>exact ⟨j,H,k,F,cap,N.out.1,hN8,LS.of HN8.1 (by rw[HC8.1];exact N.out) (.inl rfl),hls,f.out⟩
    obtain ⟨d,L⟩:=eX ((N8:Int)-k);rw[L];have hJ0:0<d:=oM;have hd:decide ((0:Int)<d)=true:=decide_eq_true hJ0;rcases id f.out.eye with ⟨l,rfl,he⟩|⟨rfl,l,_,he⟩;rotate_left
    ·have hbad:wr.cell? ⟨w.heap.size+1,1,none⟩=some (.bool true):=(bL he).2;clear he L;go_wp2;go_meet
     case rel=>exact ⟨j,none,k,F,cap,N.out.1,oM,LS.of HN8.1 (by rw[HC8.1];exact N.out) (.inr ⟨rfl,hk⟩),hls,f.out⟩
    have hbad:wr.cell? ⟨w.heap.size+1,1,none⟩=some (.bool false):=(bL he).2;obtain ⟨H,hst⟩:=eX (some l);rw[hst] at f N hls;clear he hst;have hwJ:IntKind.i64.wrap (d-1)=d-1:=kh _ oM;have HSQ:=qH (fun (v:World) (st':Option (List UInt8)) (hv:EJ w A st' [Z G T,Z G P,Z G O,Z G Q,Z G R,J D q E,J F k cap,Z G 0,Z G 0,Z G 0,Z G 0,Z G 0,Z G 0,J none 0 0,Z G 0,Z G 0,Z G 0,Z G 0,Z G 0,Z G 0,Z G 0,Z G 0,Z G 0,Z G 0,Z G 0,Z G 0,J none 0 0,Z G 0] [(9,1,J F k cap,k,j.map bH),(3,1,J D q E,q,y7.map bh)] v)=>show v.cell? ⟨A,6,none⟩=some (J F k cap)/\True from ⟨kc hv.box _,trivial⟩);have HL1:=qH (show k+1<=maxLen from uO);have HL2:=qH (show (k+1)*16<=140737488355328 from oM);have HJJ:=qH L;have HX:=qH (show ∀x∈([(3,1,J D q E,q,y7.map bh)]:List iE),x.1≠9 from sS);clear L;(go_upto_region 12 with fail);clear hbad;have HJd:=qH (f.out.low ((km wr.heap.size wr).drew));have hSd:=HSQ.1 _ _ HJd.1;refine dR (S:=(fun v:World=>v.cell? ⟨A,6,none⟩=some (J F k cap)/\True)) 7 ?_;refine ak 0 ?_;refine ak 2 ?_;refine ak 1 ?_;refine aw 3 fun K' C=>?_;go_simp;refine (HJd.1.txtC hs oM).mono ?_;rintro e X1 ⟨st2,y,rfl,HAst2,HBst2,hlst2,HJ1⟩;have hSd:=HSQ.1 _ _ HJ1.out;refine C.out _ _ hSd ?_;clear C;(try simp only[kd]);refine aw 4 fun K' C=>?_;go_simp;have HJ3:=qH (HJ1.out.low (aq X1 (ka #[.string (lh y)] 9)));have hSd:=HSQ.1 _ _ HJ3.1;refine C.out _ _ hSd ?_;clear C;(try simp only[kd]);refine eZ (i:=5) (o:=_) kR rfl (fun K' C=>?_);refine step_append_lies _ rfl _ _ 55 rfl A 9 i0 (.string ⟨#[]⟩) 1 16 underlying55 hi hz0 hz1 hz2 rfl dD (J F k cap) k (j.map bH) rfl (HJ3.1.rows (9,1,J F k cap,k,j.map bH) sS) ⟨X1.heap.size,0,none⟩ 1 1 [.string (lh y)] rfl rfl (xa (aD X1 _)) (fun u hu=>by simp at hu;subst hu;rfl) yb HL1.1 HL2.1 (ys HJ3.1.box.lt) _ rfl ?_;intro gg cp w3 hown hgrow hat hltg;obtain ⟨x1,x2,x3⟩:=HJ3.1.app (i:=6) rfl hgrow hown HX.1;have hSd:=(⟨x1,trivial⟩:w3.cell? ⟨A,6,none⟩=some (J F k cap)/\True);refine C.out _ _ hSd ?_;clear C;(try simp only[kd]);refine ak 6 ?_;refine aS fun K' C=>?_;go_simp;refine C.out _ _ ?_;clear C;(try simp only[kd]);clear hSd;have HF:=qH (show MS cn (k+1) q8 (j++[y]) st2 from by
       have hn:=N.out.next [] y (fun _=>HBst2.out.symm);rw[HAst2.out] at hn;exact hn)
    have HJ4:=qH (show EJ w A st2 [Z G T,Z G P,Z G O,Z G Q,Z G R,J D q E,J (some ⟨gg,0,none⟩) (k+1) cp,Z G 0,Z G 0,Z G 0,Z G 0,Z G 0,Z G 0,J none 0 0,Z G 0,Z G 0,Z G 0,Z G 0,Z G 0,Z G 0,Z G 0,Z G 0,Z G 0,Z G 0,Z G 0,Z G 0,J none 0 0,Z G 0] [(9,1,J (some ⟨gg,0,none⟩) (k+1) cp,(k+1),(j++[y]).map bH),(3,1,J D q E,q,y7.map bh)] (w3.setCell ⟨A,6,none⟩ (J (some ⟨gg,0,none⟩) (k+1) cp)) from by
       have e:(j++[y]).map bH=j.map bH++[.string (lh y)]:=(by simp[bH]);rw[e];exact x3)
    clear x3 hown hgrow hat hltg;go_wp2;go_roundw
    case rel=>exact ⟨k+1,hlt,by (first|(go_num;done)|(congr 1;have:=HJJ.1;omega)),_,_,_,_,HF.1,hlst2,HJ4.1⟩
    case measure=>simp[intOf];omega
  case rest =>
   obtain ⟨y8,s8,t,I,K,hyl8,hK8,hLS,hl8,L⟩:=hcut;have HLS8:=qH hLS;have f:=au L;clear hLS L HN8 HC8 hlq8;generalize wc=W8 at *;(go_wp2_with fail);refine (f.out.numC hs oM).mono ?_;clear f;rintro e V9 ⟨s9,X,rfl,HS9,HV9,hl9,f⟩;have ci:V9.cell? ⟨A,7,none⟩=some (Z G 0):=kc f.out.box _;have fi:V9.frozen? ⟨A,7,none⟩=false:=kb f.out.box _;replace f:=au (f.out.put 7 (Z G X));replace f:=au (show EJ w A s9 [Z G T,Z G P,Z G O,Z G Q,Z G R,J D q E,J I t K,Z G X,Z G 0,Z G 0,Z G 0,Z G 0,Z G 0,J none 0 0,Z G 0,Z G 0,Z G 0,Z G 0,Z G 0,Z G 0,Z G 0,Z G 0,Z G 0,Z G 0,Z G 0,Z G 0,J none 0 0,Z G 0] [(9,1,J I t K,t,y8.map bH),(3,1,J D q E,q,y7.map bh)] (V9.setCell ⟨A,7,none⟩ (Z G X)) from f.out);(go_upto_region 15 with fail);clear ci fi;generalize V9.setCell _ _=V9' at *;(go_wp2_with fail);go_loopw [9] (fun i wr=>∃k:Nat,k<=4/\i=Z G k/\∃(j:List Int) (H:Option (List UInt8)),MS aH k s9 j H/\dB H<=s.length/\EJ w A H (dw [Z G T,Z G P,Z G O,Z G Q,Z G R,J D q E,J I t K,Z G X,Z G 0,Z G 0,Z G 0,Z G 0,Z G 0,J none 0 0,Z G 0,Z G 0,Z G 0,Z G 0,Z G 0,Z G 0,Z G 0,Z G 0,Z G 0,Z G 0,Z G 0,Z G 0,J none 0 0,Z G 0] 8 (j.map bh)) [(9,1,J I t K,t,y8.map bH),(3,1,J D q E,q,y7.map bh)] wr) (fun i _=>4-(intOf i).toNat)
   case atStart=>exact ⟨0,kw _,rfl,[],s9,MS.zero _ _,hl9,f.out⟩
   case round =>
    clear f;obtain ⟨k,hk,rfl,j,H,hM,hls,L⟩:=hrel;have f:=au L;have N:=au hM;clear L hM;by_cases hlt:k<4
    ·have hd:decide ((k:Int)<4)=true:=decide_eq_true oM;have hd9:(k:Int)<4:=oM;have hyl:(j.map bh).length=k:=(by rw[kG];exact N.out.1);have HCE:=qH (show (dw [Z G T,Z G P,Z G O,Z G Q,Z G R,J D q E,J I t K,Z G X,Z G 0,Z G 0,Z G 0,Z G 0,Z G 0,J none 0 0,Z G 0,Z G 0,Z G 0,Z G 0,Z G 0,Z G 0,Z G 0,Z G 0,Z G 0,Z G 0,Z G 0,Z G 0,J none 0 0,Z G 0] 8 (j.map bh))[8+k]?=some (Z G 0) by
      have e:=qg [Z G T,Z G P,Z G O,Z G Q,Z G R,J D q E,J I t K,Z G X,Z G 0,Z G 0,Z G 0,Z G 0,Z G 0,J none 0 0,Z G 0,Z G 0,Z G 0,Z G 0,Z G 0,Z G 0,Z G 0,Z G 0,Z G 0,Z G 0,Z G 0,Z G 0,J none 0 0,Z G 0] 8 (j.map bh) (by rw[hyl];simp;omega);rw[hyl] at e;rw[e];rcases (show k=0\/k=1\/k=2\/k=3 from oM) with rfl|rfl|rfl|rfl<;>rfl)
     have HPS:=qH (fun (z:Int)=>show (dw [Z G T,Z G P,Z G O,Z G Q,Z G R,J D q E,J I t K,Z G X,Z G 0,Z G 0,Z G 0,Z G 0,Z G 0,J none 0 0,Z G 0,Z G 0,Z G 0,Z G 0,Z G 0,Z G 0,Z G 0,Z G 0,Z G 0,Z G 0,Z G 0,Z G 0,J none 0 0,Z G 0] 8 (j.map bh)).set (8+k) (Z G z)=dw [Z G T,Z G P,Z G O,Z G Q,Z G R,J D q E,J I t K,Z G X,Z G 0,Z G 0,Z G 0,Z G 0,Z G 0,J none 0 0,Z G 0,Z G 0,Z G 0,Z G 0,Z G 0,Z G 0,Z G 0,Z G 0,Z G 0,Z G 0,Z G 0,Z G 0,J none 0 0,Z G 0] 8 ((j++[z]).map bh) by
      have e:=qh [Z G T,Z G P,Z G O,Z G Q,Z G R,J D q E,J I t K,Z G X,Z G 0,Z G 0,Z G 0,Z G 0,Z G 0,J none 0 0,Z G 0,Z G 0,Z G 0,Z G 0,Z G 0,Z G 0,Z G 0,Z G 0,Z G 0,Z G 0,Z G 0,Z G 0,J none 0 0,Z G 0] 8 (j.map bh) (Z G z) (by rw[hyl];simp;omega);rw[hyl] at e;rw[e,xc];rfl)
     clear hyl;generalize dw _ 8 (j.map bh)=PC at *;have HSQ:=qH (fun (v:World) (st':Option (List UInt8)) (hv:EJ w A st' PC [(9,1,J I t K,t,y8.map bH),(3,1,J D q E,q,y7.map bh)] v)=>show v.cell? ⟨A,8+k,none⟩=some (Z G 0)/\v.frozen? ⟨A,8+k,none⟩=false from ⟨by rw[kc hv.box];simpa using HCE.1,kb hv.box _⟩);(go_upto_region 18 with fail);have HJd:=qH (f.out.low ((km wr.heap.size wr).drew));have hSd:True:=trivial;refine dR (S:=(fun v:World=>True)) 7 ?_;refine ak 0 ?_;refine ak 1 ?_;refine ak 2 ?_;refine ak 4 ?_ (p:=[6,5]);refine ak 5 ?_ (p:=[6]);refine aw 3 fun K' C=>?_;go_simp;refine (HJd.1.numC hs oM).mono ?_;rintro e X1 ⟨st2,y,rfl,HA2,HB2,hl2,HJ1⟩;obtain ⟨cx,fx⟩:=HSQ.1 _ _ HJ1.out;have hSd:=hSd;refine C.out _ _ hSd ?_;clear C;(try simp only[kd]);refine ak 6 ?_;refine aS fun K' C=>?_;go_simp;refine C.out _ _ ?_;clear C;(try simp only[kd]);clear hSd;have HF:=qH (show MS aH (k+1) s9 (j++[y]) st2 from by
      have hn:=N.out.next 0 y (fun _=>HB2.out.symm);rw[HA2.out] at hn;exact hn)
     have HJ4:=qH (HJ1.out.put (8+k) (Z G y));rw[HPS.1] at HJ4;clear cx fx;go_wp2;go_roundw
     case rel=>exact ⟨k+1,hlt,gN,_,_,HF.1,hl2,HJ4.1⟩
     case measure=>simp[intOf];omega
    ·have hd:decide ((k:Int)<4)=false:=decide_eq_false oM;obtain rfl:k=4:=oM;rw[show ((4:Nat):Int)=4 from rfl];obtain ⟨Y,b1,b2,b3,rfl⟩:∃Y b1 b2 b3,j=[Y,b1,b2,b3]:=by
      have hlen:=N.out.1
      match j,hlen with
      | [Y,b1,b2,b3],_=>exact ⟨Y,b1,b2,b3,rfl⟩
     obtain ⟨s10,hsn⟩:=eX H;rw[hsn] at N f hls;have HMS10:=N;have hl10:=hls;clear hsn hls N;replace f:=au (show EJ w A s10 [Z G T,Z G P,Z G O,Z G Q,Z G R,J D q E,J I t K,Z G X,Z G Y,Z G b1,Z G b2,Z G b3,Z G 0,J none 0 0,Z G 0,Z G 0,Z G 0,Z G 0,Z G 0,Z G 0,Z G 0,Z G 0,Z G 0,Z G 0,Z G 0,Z G 0,J none 0 0,Z G 0] [(9,1,J I t K,t,y8.map bH),(3,1,J D q E,q,y7.map bh)] wr from f.out);generalize wr=W10 at *;(go_upto_region 19 with fail);(go_wp2_with fail);refine (f.out.numC hs oM).mono ?_;clear f;rintro e V11 ⟨s11,wh,rfl,HS11,HV11,hl11,f⟩;have ci:V11.cell? ⟨A,12,none⟩=some (Z G 0):=kc f.out.box _;have fi:V11.frozen? ⟨A,12,none⟩=false:=kb f.out.box _;replace f:=au (f.out.put 12 (Z G wh));replace f:=au (show EJ w A s11 [Z G T,Z G P,Z G O,Z G Q,Z G R,J D q E,J I t K,Z G X,Z G Y,Z G b1,Z G b2,Z G b3,Z G wh,J none 0 0,Z G 0,Z G 0,Z G 0,Z G 0,Z G 0,Z G 0,Z G 0,Z G 0,Z G 0,Z G 0,Z G 0,Z G 0,J none 0 0,Z G 0] [(9,1,J I t K,t,y8.map bH),(3,1,J D q E,q,y7.map bh)] (V11.setCell ⟨A,12,none⟩ (Z G wh)) from f.out);(go_upto_region 20 with fail);clear ci fi;generalize V11.setCell _ _=V11' at *;(go_wp2_with fail);refine (nQ w.heap.size (w.heap.size+1) s11 V11' oM f.out.eye oM).mono ?_;rintro e C12 ⟨rfl,hE,hS⟩;obtain ⟨N12,hN,hN12⟩:=oW s11;rw[hN];have HN12:=qH hN;obtain ⟨q12,hs'⟩:=eX (bd bY s11);rw[hs'] at hE;have HC12:=qH hs';have hlq12:dB q12<=s.length:=(by have:=mU (p:=bY) (fun _ _ _=>oV) s11;rw[hs'] at this;omega);replace f:=au ((f.out.num hE hS).row0 97 2 dD);clear hE hS hs' hN;(go_upto_block 6 with fail);go_cut [10] from 98 (fun i v=>∃(j:List Pt) (H:Option (List UInt8)) (k:Nat) (F:Option Addr) (cap:Nat),j.length=k/\k<=2147483647/\LS cI s11 j H/\dB H<=s.length/\EJ w A H [Z G T,Z G P,Z G O,Z G Q,Z G R,J D q E,J I t K,Z G X,Z G Y,Z G b1,Z G b2,Z G b3,Z G wh,J F k cap,Z G 0,Z G 0,Z G 0,Z G 0,Z G 0,Z G 0,Z G 0,Z G 0,Z G 0,Z G 0,Z G 0,Z G 0,J none 0 0,Z G 0] [(97,2,J F k cap,k,j.flatMap aK),(9,1,J I t K,t,y8.map bH),(3,1,J D q E,q,y7.map bh)] v)
     case first =>
      (go_wp2_with fail);obtain ⟨i0,hi,hz0,hz1,hz2⟩:=info_parts Tryz.infoSpotF;go_loopw [10] (fun i wr=>∃k:Nat,k<=N12/\i=Z G ((N12:Int)-k)/\∃(j:List Pt) (H:Option (List UInt8)) (F:Option Addr) (cap:Nat),MS cI k q12 j H/\dB H<=s.length/\EJ w A H [Z G T,Z G P,Z G O,Z G Q,Z G R,J D q E,J I t K,Z G X,Z G Y,Z G b1,Z G b2,Z G b3,Z G wh,J F k cap,Z G 0,Z G 0,Z G 0,Z G 0,Z G 0,Z G 0,Z G 0,Z G 0,Z G 0,Z G 0,Z G 0,Z G 0,J none 0 0,Z G 0] [(97,2,J F k cap,k,j.flatMap aK),(9,1,J I t K,t,y8.map bH),(3,1,J D q E,q,y7.map bh)] wr) (fun i _=>(intOf i).toNat)
      case atStart=>exact ⟨0,kw _,sS,[],q12,none,0,MS.zero _ _,hlq12,f.out⟩
      case round =>
       clear f;obtain ⟨k,hk,rfl,j,H,F,cap,hM,hls,L⟩:=hrel;have f:=au L;have N:=au hM;clear L hM;by_cases hlt:k<N12;rotate_left
       ·obtain rfl:k=N12:=oM;have hd:decide ((0:Int)<(k:Int)-(k:Int))=false:=decide_eq_false oM;have hd2:decide ((0:Int)<0)=false:=rfl;have hsub:(k:Int)-(k:Int)=0:=oM;rw[hsub];go_wp2;go_meet
        case rel=>exact ⟨j,H,k,F,cap,N.out.1,hN12,LS.of HN12.1 (by rw[HC12.1];exact N.out) (.inl rfl),hls,f.out⟩
       obtain ⟨d,L⟩:=eX ((N12:Int)-k);rw[L];have hJ0:0<d:=oM;have hd:decide ((0:Int)<d)=true:=decide_eq_true hJ0;rcases id f.out.eye with ⟨l,rfl,he⟩|⟨rfl,l,_,he⟩;rotate_left
       ·have hbad:wr.cell? ⟨w.heap.size+1,1,none⟩=some (.bool true):=(bL he).2;clear he L;go_wp2;go_meet
        case rel=>exact ⟨j,none,k,F,cap,N.out.1,oM,LS.of HN12.1 (by rw[HC12.1];exact N.out) (.inr ⟨rfl,hk⟩),hls,f.out⟩
       have hbad:wr.cell? ⟨w.heap.size+1,1,none⟩=some (.bool false):=(bL he).2;obtain ⟨H,hst⟩:=eX (some l);rw[hst] at f N hls;clear he hst;have hwJ:IntKind.i64.wrap (d-1)=d-1:=kh _ oM;have HSQ:=qH (fun (v:World) (st':Option (List UInt8)) (hv:EJ w A st' [Z G T,Z G P,Z G O,Z G Q,Z G R,J D q E,J I t K,Z G X,Z G Y,Z G b1,Z G b2,Z G b3,Z G wh,J F k cap,Z G 0,Z G 0,Z G 0,Z G 0,Z G 0,Z G 0,Z G 0,Z G 0,Z G 0,Z G 0,Z G 0,Z G 0,J none 0 0,Z G 0] [(97,2,J F k cap,k,j.flatMap aK),(9,1,J I t K,t,y8.map bH),(3,1,J D q E,q,y7.map bh)] v)=>show v.cell? ⟨A,13,none⟩=some (J F k cap)/\True from ⟨kc hv.box _,trivial⟩);have HL1:=qH (show k+1<=maxLen from uO);have HL2:=qH (show (k+1)*16<=140737488355328 from oM);have HJJ:=qH L;have HX:=qH (show ∀x∈([(9,1,J I t K,t,y8.map bH),(3,1,J D q E,q,y7.map bh)]:List iE),x.1≠97 from sS);clear L;(go_upto_region 23 with fail);clear hbad;have HJd:=qH (f.out.low ((km wr.heap.size wr).drew));have hSd:=HSQ.1 _ _ HJd.1;refine dR (S:=(fun v:World=>v.cell? ⟨A,13,none⟩=some (J F k cap)/\True)) 14 ?_;refine ak 0 ?_;refine ak 1 ?_;refine ak 5 ?_;refine ak 7 ?_;refine ak 2 ?_;refine ak 3 ?_;refine ak 4 ?_;refine aw 6 fun K' C=>?_;go_simp;refine (HJd.1.numC hs oM).mono ?_;rintro e X1 ⟨st1,x,rfl,HAst1,HBst1,hlst1,HJ1⟩;have hSd:=HSQ.1 _ _ HJ1.out;refine C.out _ _ hSd ?_;clear C;(try simp only[kd]);refine aw 8 fun K' C=>?_;go_simp;refine (HJ1.out.numC hs oM).mono ?_;rintro e X2 ⟨st2,y,rfl,HAst2,HBst2,hlst2,HJ2⟩;have hSd:=HSQ.1 _ _ HJ2.out;refine C.out _ _ hSd ?_;clear C;(try simp only[kd]);refine ak 9 ?_;refine aw 10 fun K' C=>?_;go_simp;have HJ3:=qH (HJ2.out.low (aq X2 (ka #[Z G x,Z G y] 97)));have hSd:=HSQ.1 _ _ HJ3.1;refine C.out _ _ hSd ?_;clear C;(try simp only[kd]);refine eZ (i:=11) (o:=_) kR rfl (fun K' C=>?_);refine step_append_lies _ rfl _ _ 46 rfl A 97 i0 (.agg #[Z G 0,Z G 0]) 2 16 underlying46 hi hz0 hz1 hz2 rfl dD (J F k cap) k (j.flatMap aK) rfl (HJ3.1.rows (97,2,J F k cap,k,j.flatMap aK) sS) ⟨X2.heap.size,0,none⟩ 1 1 [Z G x,Z G y] rfl rfl (xa (aD X2 _)) (fun u hu=>by simp at hu;rcases hu with rfl|rfl<;>rfl) yb HL1.1 HL2.1 (ys HJ3.1.box.lt) _ rfl ?_;intro gg cp w3 hown hgrow hat hltg;obtain ⟨x1,x2,x3⟩:=HJ3.1.app (i:=13) rfl hgrow hown HX.1;have hSd:=(⟨x1,trivial⟩:w3.cell? ⟨A,13,none⟩=some (J F k cap)/\True);refine C.out _ _ hSd ?_;clear C;(try simp only[kd]);refine ak 12 ?_ (p:=[13]);refine ak 13 ?_;refine aS fun K' C=>?_;go_simp;refine C.out _ _ ?_;clear C;(try simp only[kd]);clear hSd;have HF:=qH (show MS cI (k+1) q12 (j++[(x,y)]) st2 from by
          have hps:=wo H;rw[HAst1.out,HBst1.out,HAst2.out,HBst2.out] at hps;have hn:=N.out.next (0,0) (x,y) (fun h=>hps.2 h);rw[hps.1] at hn;exact hn)
       have HJ4:=qH (show EJ w A st2 [Z G T,Z G P,Z G O,Z G Q,Z G R,J D q E,J I t K,Z G X,Z G Y,Z G b1,Z G b2,Z G b3,Z G wh,J (some ⟨gg,0,none⟩) (k+1) cp,Z G 0,Z G 0,Z G 0,Z G 0,Z G 0,Z G 0,Z G 0,Z G 0,Z G 0,Z G 0,Z G 0,Z G 0,J none 0 0,Z G 0] [(97,2,J (some ⟨gg,0,none⟩) (k+1) cp,(k+1),(j++[(x,y)]).flatMap aK),(9,1,J I t K,t,y8.map bH),(3,1,J D q E,q,y7.map bh)] (w3.setCell ⟨A,13,none⟩ (J (some ⟨gg,0,none⟩) (k+1) cp)) from by
          have e:(j++[(x,y)]).flatMap aK=j.flatMap aK++[Z G x,Z G y]:=(by simp[xe,aK]);rw[e];exact x3)
       clear x3 hown hgrow hat hltg;go_wp2;go_roundw
       case rel=>exact ⟨k+1,hlt,by (first|(go_num;done)|(congr 1;have:=HJJ.1;omega)),_,_,_,_,HF.1,hlst2,HJ4.1⟩
       case measure=>simp[intOf];omega
     case rest =>
      obtain ⟨y12,s12,M,V,W,hyl12,hK12,hLS,hl12,L⟩:=hcut;have HLS12:=qH hLS;have f:=au L;clear hLS L HN12 HC12 hlq12;generalize wc=W12 at *;(go_wp2_with fail);go_loopw [11] (fun i wr=>∃k:Nat,k<=3/\i=Z G k/\∃(j:List Int) (H:Option (List UInt8)),MS aH k s12 j H/\dB H<=s.length/\EJ w A H (dw [Z G T,Z G P,Z G O,Z G Q,Z G R,J D q E,J I t K,Z G X,Z G Y,Z G b1,Z G b2,Z G b3,Z G wh,J V M W,Z G 0,Z G 0,Z G 0,Z G 0,Z G 0,Z G 0,Z G 0,Z G 0,Z G 0,Z G 0,Z G 0,Z G 0,J none 0 0,Z G 0] 14 (j.map bh)) [(97,2,J V M W,M,y12.flatMap aK),(9,1,J I t K,t,y8.map bH),(3,1,J D q E,q,y7.map bh)] wr) (fun i _=>3-(intOf i).toNat)
      case atStart=>exact ⟨0,kw _,rfl,[],s12,MS.zero _ _,hl12,f.out⟩
      case round =>
       clear f;obtain ⟨k,hk,rfl,j,H,hM,hls,L⟩:=hrel;have f:=au L;have N:=au hM;clear L hM;by_cases hlt:k<3
       ·have hd:decide ((k:Int)<3)=true:=decide_eq_true oM;have hd9:(k:Int)<3:=oM;have hyl:(j.map bh).length=k:=(by rw[kG];exact N.out.1);have HCE:=qH (show (dw [Z G T,Z G P,Z G O,Z G Q,Z G R,J D q E,J I t K,Z G X,Z G Y,Z G b1,Z G b2,Z G b3,Z G wh,J V M W,Z G 0,Z G 0,Z G 0,Z G 0,Z G 0,Z G 0,Z G 0,Z G 0,Z G 0,Z G 0,Z G 0,Z G 0,J none 0 0,Z G 0] 14 (j.map bh))[14+k]?=some (Z G 0) by
         have e:=qg [Z G T,Z G P,Z G O,Z G Q,Z G R,J D q E,J I t K,Z G X,Z G Y,Z G b1,Z G b2,Z G b3,Z G wh,J V M W,Z G 0,Z G 0,Z G 0,Z G 0,Z G 0,Z G 0,Z G 0,Z G 0,Z G 0,Z G 0,Z G 0,Z G 0,J none 0 0,Z G 0] 14 (j.map bh) (by rw[hyl];simp;omega);rw[hyl] at e;rw[e];rcases (show k=0\/k=1\/k=2 from oM) with rfl|rfl|rfl<;>rfl)
        have HPS:=qH (fun (z:Int)=>show (dw [Z G T,Z G P,Z G O,Z G Q,Z G R,J D q E,J I t K,Z G X,Z G Y,Z G b1,Z G b2,Z G b3,Z G wh,J V M W,Z G 0,Z G 0,Z G 0,Z G 0,Z G 0,Z G 0,Z G 0,Z G 0,Z G 0,Z G 0,Z G 0,Z G 0,J none 0 0,Z G 0] 14 (j.map bh)).set (14+k) (Z G z)=dw [Z G T,Z G P,Z G O,Z G Q,Z G R,J D q E,J I t K,Z G X,Z G Y,Z G b1,Z G b2,Z G b3,Z G wh,J V M W,Z G 0,Z G 0,Z G 0,Z G 0,Z G 0,Z G 0,Z G 0,Z G 0,Z G 0,Z G 0,Z G 0,Z G 0,J none 0 0,Z G 0] 14 ((j++[z]).map bh) by
         have e:=qh [Z G T,Z G P,Z G O,Z G Q,Z G R,J D q E,J I t K,Z G X,Z G Y,Z G b1,Z G b2,Z G b3,Z G wh,J V M W,Z G 0,Z G 0,Z G 0,Z G 0,Z G 0,Z G 0,Z G 0,Z G 0,Z G 0,Z G 0,Z G 0,Z G 0,J none 0 0,Z G 0] 14 (j.map bh) (Z G z) (by rw[hyl];simp;omega);rw[hyl] at e;rw[e,xc];rfl)
        clear hyl;generalize dw _ 14 (j.map bh)=PC at *;have HSQ:=qH (fun (v:World) (st':Option (List UInt8)) (hv:EJ w A st' PC [(97,2,J V M W,M,y12.flatMap aK),(9,1,J I t K,t,y8.map bH),(3,1,J D q E,q,y7.map bh)] v)=>show v.cell? ⟨A,14+k,none⟩=some (Z G 0)/\v.frozen? ⟨A,14+k,none⟩=false from ⟨by rw[kc hv.box];simpa using HCE.1,kb hv.box _⟩);(go_upto_region 27 with fail);have HJd:=qH (f.out.low ((km wr.heap.size wr).drew));have hSd:True:=trivial;refine dR (S:=(fun v:World=>True)) 7 ?_;refine ak 0 ?_;refine ak 1 ?_;refine ak 2 ?_;refine ak 4 ?_ (p:=[6,5]);refine ak 5 ?_ (p:=[6]);refine aw 3 fun K' C=>?_;go_simp;refine (HJd.1.numC hs oM).mono ?_;rintro e X1 ⟨st2,y,rfl,HA2,HB2,hl2,HJ1⟩;obtain ⟨cx,fx⟩:=HSQ.1 _ _ HJ1.out;have hSd:=hSd;refine C.out _ _ hSd ?_;clear C;(try simp only[kd]);refine ak 6 ?_;refine aS fun K' C=>?_;go_simp;refine C.out _ _ ?_;clear C;(try simp only[kd]);clear hSd;have HF:=qH (show MS aH (k+1) s12 (j++[y]) st2 from by
         have hn:=N.out.next 0 y (fun _=>HB2.out.symm);rw[HA2.out] at hn;exact hn)
        have HJ4:=qH (HJ1.out.put (14+k) (Z G y));rw[HPS.1] at HJ4;clear cx fx;go_wp2;go_roundw
        case rel=>exact ⟨k+1,hlt,gN,_,_,HF.1,hl2,HJ4.1⟩
        case measure=>simp[intOf];omega
       ·have hd:decide ((k:Int)<3)=false:=decide_eq_false oM;obtain rfl:k=3:=oM;rw[show ((3:Nat):Int)=3 from rfl];obtain ⟨g0,g1,g2,rfl⟩:∃g0 g1 g2,j=[g0,g1,g2]:=by
         have hlen:=N.out.1
         match j,hlen with
         | [g0,g1,g2],_=>exact ⟨g0,g1,g2,rfl⟩
        obtain ⟨s13,hsn⟩:=eX H;rw[hsn] at N f hls;have HMS13:=N;have hl13:=hls;clear hsn hls N;replace f:=au (show EJ w A s13 [Z G T,Z G P,Z G O,Z G Q,Z G R,J D q E,J I t K,Z G X,Z G Y,Z G b1,Z G b2,Z G b3,Z G wh,J V M W,Z G g0,Z G g1,Z G g2,Z G 0,Z G 0,Z G 0,Z G 0,Z G 0,Z G 0,Z G 0,Z G 0,Z G 0,J none 0 0,Z G 0] [(97,2,J V M W,M,y12.flatMap aK),(9,1,J I t K,t,y8.map bH),(3,1,J D q E,q,y7.map bh)] wr from f.out);generalize wr=W13 at *;(go_upto_region 28 with fail);(go_wp2_with fail);go_loopw [12] (fun i wr=>∃k:Nat,k<=9/\i=Z G k/\∃(j:List Int) (H:Option (List UInt8)),MS aH k s13 j H/\dB H<=s.length/\EJ w A H (dw [Z G T,Z G P,Z G O,Z G Q,Z G R,J D q E,J I t K,Z G X,Z G Y,Z G b1,Z G b2,Z G b3,Z G wh,J V M W,Z G g0,Z G g1,Z G g2,Z G 0,Z G 0,Z G 0,Z G 0,Z G 0,Z G 0,Z G 0,Z G 0,Z G 0,J none 0 0,Z G 0] 17 (j.map bh)) [(97,2,J V M W,M,y12.flatMap aK),(9,1,J I t K,t,y8.map bH),(3,1,J D q E,q,y7.map bh)] wr) (fun i _=>9-(intOf i).toNat)
        case atStart=>exact ⟨0,kw _,rfl,[],s13,MS.zero _ _,hl13,f.out⟩
        case round =>
         clear f;obtain ⟨k,hk,rfl,j,H,hM,hls,L⟩:=hrel;have f:=au L;have N:=au hM;clear L hM;by_cases hlt:k<9
         ·have hd:decide ((k:Int)<9)=true:=decide_eq_true oM;have hd9:(k:Int)<9:=oM;have hyl:(j.map bh).length=k:=(by rw[kG];exact N.out.1);have HCE:=qH (show (dw [Z G T,Z G P,Z G O,Z G Q,Z G R,J D q E,J I t K,Z G X,Z G Y,Z G b1,Z G b2,Z G b3,Z G wh,J V M W,Z G g0,Z G g1,Z G g2,Z G 0,Z G 0,Z G 0,Z G 0,Z G 0,Z G 0,Z G 0,Z G 0,Z G 0,J none 0 0,Z G 0] 17 (j.map bh))[17+k]?=some (Z G 0) by
           have e:=qg [Z G T,Z G P,Z G O,Z G Q,Z G R,J D q E,J I t K,Z G X,Z G Y,Z G b1,Z G b2,Z G b3,Z G wh,J V M W,Z G g0,Z G g1,Z G g2,Z G 0,Z G 0,Z G 0,Z G 0,Z G 0,Z G 0,Z G 0,Z G 0,Z G 0,J none 0 0,Z G 0] 17 (j.map bh) (by rw[hyl];simp;omega);rw[hyl] at e;rw[e];rcases (show k=0\/k=1\/k=2\/k=3\/k=4\/k=5\/k=6\/k=7\/k=8 from oM) with rfl|rfl|rfl|rfl|rfl|rfl|rfl|rfl|rfl<;>rfl)
          have HPS:=qH (fun (z:Int)=>show (dw [Z G T,Z G P,Z G O,Z G Q,Z G R,J D q E,J I t K,Z G X,Z G Y,Z G b1,Z G b2,Z G b3,Z G wh,J V M W,Z G g0,Z G g1,Z G g2,Z G 0,Z G 0,Z G 0,Z G 0,Z G 0,Z G 0,Z G 0,Z G 0,Z G 0,J none 0 0,Z G 0] 17 (j.map bh)).set (17+k) (Z G z)=dw [Z G T,Z G P,Z G O,Z G Q,Z G R,J D q E,J I t K,Z G X,Z G Y,Z G b1,Z G b2,Z G b3,Z G wh,J V M W,Z G g0,Z G g1,Z G g2,Z G 0,Z G 0,Z G 0,Z G 0,Z G 0,Z G 0,Z G 0,Z G 0,Z G 0,J none 0 0,Z G 0] 17 ((j++[z]).map bh) by
           have e:=qh [Z G T,Z G P,Z G O,Z G Q,Z G R,J D q E,J I t K,Z G X,Z G Y,Z G b1,Z G b2,Z G b3,Z G wh,J V M W,Z G g0,Z G g1,Z G g2,Z G 0,Z G 0,Z G 0,Z G 0,Z G 0,Z G 0,Z G 0,Z G 0,Z G 0,J none 0 0,Z G 0] 17 (j.map bh) (Z G z) (by rw[hyl];simp;omega);rw[hyl] at e;rw[e,xc];rfl)
          clear hyl;generalize dw _ 17 (j.map bh)=PC at *;have HSQ:=qH (fun (v:World) (st':Option (List UInt8)) (hv:EJ w A st' PC [(97,2,J V M W,M,y12.flatMap aK),(9,1,J I t K,t,y8.map bH),(3,1,J D q E,q,y7.map bh)] v)=>show v.cell? ⟨A,17+k,none⟩=some (Z G 0)/\v.frozen? ⟨A,17+k,none⟩=false from ⟨by rw[kc hv.box];simpa using HCE.1,kb hv.box _⟩);(go_upto_region 31 with fail);have HJd:=qH (f.out.low ((km wr.heap.size wr).drew));have hSd:True:=trivial;refine dR (S:=(fun v:World=>True)) 7 ?_;refine ak 0 ?_;refine ak 1 ?_;refine ak 2 ?_;refine ak 4 ?_ (p:=[6,5]);refine ak 5 ?_ (p:=[6]);refine aw 3 fun K' C=>?_;go_simp;refine (HJd.1.numC hs oM).mono ?_;rintro e X1 ⟨st2,y,rfl,HA2,HB2,hl2,HJ1⟩;obtain ⟨cx,fx⟩:=HSQ.1 _ _ HJ1.out;have hSd:=hSd;refine C.out _ _ hSd ?_;clear C;(try simp only[kd]);refine ak 6 ?_;refine aS fun K' C=>?_;go_simp;refine C.out _ _ ?_;clear C;(try simp only[kd]);clear hSd;have HF:=qH (show MS aH (k+1) s13 (j++[y]) st2 from by
           have hn:=N.out.next 0 y (fun _=>HB2.out.symm);rw[HA2.out] at hn;exact hn)
          have HJ4:=qH (HJ1.out.put (17+k) (Z G y));rw[HPS.1] at HJ4;clear cx fx;go_wp2;go_roundw
          case rel=>exact ⟨k+1,hlt,gN,_,_,HF.1,hl2,HJ4.1⟩
          case measure=>simp[intOf];omega
         ·have hd:decide ((k:Int)<9)=false:=decide_eq_false oM;obtain rfl:k=9:=oM;rw[show ((9:Nat):Int)=9 from rfl];obtain ⟨m0,m1,m2,m3,m4,m5,m6,m7,m8,rfl⟩:∃m0 m1 m2 m3 m4 m5 m6 m7 m8,j=[m0,m1,m2,m3,m4,m5,m6,m7,m8]:=by
           have hlen:=N.out.1
           match j,hlen with
           | [m0,m1,m2,m3,m4,m5,m6,m7,m8],_=>exact ⟨m0,m1,m2,m3,m4,m5,m6,m7,m8,rfl⟩
          obtain ⟨s14,hsn⟩:=eX H;rw[hsn] at N f hls;have HMS14:=N;have hl14:=hls;clear hsn hls N;replace f:=au (show EJ w A s14 [Z G T,Z G P,Z G O,Z G Q,Z G R,J D q E,J I t K,Z G X,Z G Y,Z G b1,Z G b2,Z G b3,Z G wh,J V M W,Z G g0,Z G g1,Z G g2,Z G m0,Z G m1,Z G m2,Z G m3,Z G m4,Z G m5,Z G m6,Z G m7,Z G m8,J none 0 0,Z G 0] [(97,2,J V M W,M,y12.flatMap aK),(9,1,J I t K,t,y8.map bH),(3,1,J D q E,q,y7.map bh)] wr from f.out);generalize wr=W14 at *;(go_upto_region 32 with fail);(go_wp2_with fail);refine (nQ w.heap.size (w.heap.size+1) s14 W14 oM f.out.eye oM).mono ?_;rintro e C15 ⟨rfl,hE,hS⟩;obtain ⟨N15,hN,hN15⟩:=oW s14;rw[hN];have HN15:=qH hN;obtain ⟨q15,hs'⟩:=eX (bd bY s14);rw[hs'] at hE;have HC15:=qH hs';have hlq15:dB q15<=s.length:=(by have:=mU (p:=bY) (fun _ _ _=>oV) s14;rw[hs'] at this;omega);replace f:=au ((f.out.num hE hS).row0 66 2 dD);clear hE hS hs' hN;(go_upto_block 12 with fail);go_cut [13] from 147 (fun i v=>∃(j:List Pt) (H:Option (List UInt8)) (k:Nat) (F:Option Addr) (cap:Nat),j.length=k/\k<=2147483647/\LS cI s14 j H/\dB H<=s.length/\EJ w A H [Z G T,Z G P,Z G O,Z G Q,Z G R,J D q E,J I t K,Z G X,Z G Y,Z G b1,Z G b2,Z G b3,Z G wh,J V M W,Z G g0,Z G g1,Z G g2,Z G m0,Z G m1,Z G m2,Z G m3,Z G m4,Z G m5,Z G m6,Z G m7,Z G m8,J F k cap,Z G 0] [(66,2,J F k cap,k,j.flatMap aK),(97,2,J V M W,M,y12.flatMap aK),(9,1,J I t K,t,y8.map bH),(3,1,J D q E,q,y7.map bh)] v)
          case first =>
           (go_wp2_with fail);obtain ⟨i0,hi,hz0,hz1,hz2⟩:=info_parts Tryz.infoPointF;go_loopw [13] (fun i wr=>∃k:Nat,k<=N15/\i=Z G ((N15:Int)-k)/\∃(j:List Pt) (H:Option (List UInt8)) (F:Option Addr) (cap:Nat),MS cI k q15 j H/\dB H<=s.length/\EJ w A H [Z G T,Z G P,Z G O,Z G Q,Z G R,J D q E,J I t K,Z G X,Z G Y,Z G b1,Z G b2,Z G b3,Z G wh,J V M W,Z G g0,Z G g1,Z G g2,Z G m0,Z G m1,Z G m2,Z G m3,Z G m4,Z G m5,Z G m6,Z G m7,Z G m8,J F k cap,Z G 0] [(66,2,J F k cap,k,j.flatMap aK),(97,2,J V M W,M,y12.flatMap aK),(9,1,J I t K,t,y8.map bH),(3,1,J D q E,q,y7.map bh)] wr) (fun i _=>(intOf i).toNat)
           case atStart=>exact ⟨0,kw _,sS,[],q15,none,0,MS.zero _ _,hlq15,f.out⟩
           case round =>
            clear f;obtain ⟨k,hk,rfl,j,H,F,cap,hM,hls,L⟩:=hrel;have f:=au L;have N:=au hM;clear L hM;by_cases hlt:k<N15;rotate_left
            ·obtain rfl:k=N15:=oM;have hd:decide ((0:Int)<(k:Int)-(k:Int))=false:=decide_eq_false oM;have hd2:decide ((0:Int)<0)=false:=rfl;have hsub:(k:Int)-(k:Int)=0:=oM;rw[hsub];go_wp2;go_meet
             case rel=>exact ⟨j,H,k,F,cap,N.out.1,hN15,LS.of HN15.1 (by rw[HC15.1];exact N.out) (.inl rfl),hls,f.out⟩
            obtain ⟨d,L⟩:=eX ((N15:Int)-k);rw[L];have hJ0:0<d:=oM;have hd:decide ((0:Int)<d)=true:=decide_eq_true hJ0;rcases id f.out.eye with ⟨l,rfl,he⟩|⟨rfl,l,_,he⟩;rotate_left
            ·have hbad:wr.cell? ⟨w.heap.size+1,1,none⟩=some (.bool true):=(bL he).2;clear he L;go_wp2;go_meet
             case rel=>exact ⟨j,none,k,F,cap,N.out.1,oM,LS.of HN15.1 (by rw[HC15.1];exact N.out) (.inr ⟨rfl,hk⟩),hls,f.out⟩
            have hbad:wr.cell? ⟨w.heap.size+1,1,none⟩=some (.bool false):=(bL he).2;obtain ⟨H,hst⟩:=eX (some l);rw[hst] at f N hls;clear he hst;have hwJ:IntKind.i64.wrap (d-1)=d-1:=kh _ oM;have HSQ:=qH (fun (v:World) (st':Option (List UInt8)) (hv:EJ w A st' [Z G T,Z G P,Z G O,Z G Q,Z G R,J D q E,J I t K,Z G X,Z G Y,Z G b1,Z G b2,Z G b3,Z G wh,J V M W,Z G g0,Z G g1,Z G g2,Z G m0,Z G m1,Z G m2,Z G m3,Z G m4,Z G m5,Z G m6,Z G m7,Z G m8,J F k cap,Z G 0] [(66,2,J F k cap,k,j.flatMap aK),(97,2,J V M W,M,y12.flatMap aK),(9,1,J I t K,t,y8.map bH),(3,1,J D q E,q,y7.map bh)] v)=>show v.cell? ⟨A,26,none⟩=some (J F k cap)/\True from ⟨kc hv.box _,trivial⟩);have HL1:=qH (show k+1<=maxLen from uO);have HL2:=qH (show (k+1)*16<=140737488355328 from oM);have HJJ:=qH L;have HX:=qH (show ∀x∈([(97,2,J V M W,M,y12.flatMap aK),(9,1,J I t K,t,y8.map bH),(3,1,J D q E,q,y7.map bh)]:List iE),x.1≠66 from sS);clear L;(go_upto_region 35 with fail);clear hbad;have HJd:=qH (f.out.low ((km wr.heap.size wr).drew));have hSd:=HSQ.1 _ _ HJd.1;refine dR (S:=(fun v:World=>v.cell? ⟨A,26,none⟩=some (J F k cap)/\True)) 14 ?_;refine ak 0 ?_;refine ak 1 ?_;refine ak 5 ?_;refine ak 7 ?_;refine ak 2 ?_;refine ak 3 ?_;refine ak 4 ?_;refine aw 6 fun K' C=>?_;go_simp;refine (HJd.1.numC hs oM).mono ?_;rintro e X1 ⟨st1,x,rfl,HAst1,HBst1,hlst1,HJ1⟩;have hSd:=HSQ.1 _ _ HJ1.out;refine C.out _ _ hSd ?_;clear C;(try simp only[kd]);refine aw 8 fun K' C=>?_;go_simp;refine (HJ1.out.numC hs oM).mono ?_;rintro e X2 ⟨st2,y,rfl,HAst2,HBst2,hlst2,HJ2⟩;have hSd:=HSQ.1 _ _ HJ2.out;refine C.out _ _ hSd ?_;clear C;(try simp only[kd]);refine ak 9 ?_;refine aw 10 fun K' C=>?_;go_simp;have HJ3:=qH (HJ2.out.low (aq X2 (ka #[Z G x,Z G y] 66)));have hSd:=HSQ.1 _ _ HJ3.1;refine C.out _ _ hSd ?_;clear C;(try simp only[kd]);refine eZ (i:=11) (o:=_) kR rfl (fun K' C=>?_);refine step_append_lies _ rfl _ _ 49 rfl A 66 i0 (.agg #[Z G 0,Z G 0]) 2 16 underlying49 hi hz0 hz1 hz2 rfl dD (J F k cap) k (j.flatMap aK) rfl (HJ3.1.rows (66,2,J F k cap,k,j.flatMap aK) sS) ⟨X2.heap.size,0,none⟩ 1 1 [Z G x,Z G y] rfl rfl (xa (aD X2 _)) (fun u hu=>by simp at hu;rcases hu with rfl|rfl<;>rfl) yb HL1.1 HL2.1 (ys HJ3.1.box.lt) _ rfl ?_;intro gg cp w3 hown hgrow hat hltg;obtain ⟨x1,x2,x3⟩:=HJ3.1.app (i:=26) rfl hgrow hown HX.1;have hSd:=(⟨x1,trivial⟩:w3.cell? ⟨A,26,none⟩=some (J F k cap)/\True);refine C.out _ _ hSd ?_;clear C;(try simp only[kd]);refine ak 12 ?_ (p:=[13]);refine ak 13 ?_;refine aS fun K' C=>?_;go_simp;refine C.out _ _ ?_;clear C;(try simp only[kd]);clear hSd;have HF:=qH (show MS cI (k+1) q15 (j++[(x,y)]) st2 from by
               have hps:=wo H;rw[HAst1.out,HBst1.out,HAst2.out,HBst2.out] at hps;have hn:=N.out.next (0,0) (x,y) (fun h=>hps.2 h);rw[hps.1] at hn;exact hn)
            have HJ4:=qH (show EJ w A st2 [Z G T,Z G P,Z G O,Z G Q,Z G R,J D q E,J I t K,Z G X,Z G Y,Z G b1,Z G b2,Z G b3,Z G wh,J V M W,Z G g0,Z G g1,Z G g2,Z G m0,Z G m1,Z G m2,Z G m3,Z G m4,Z G m5,Z G m6,Z G m7,Z G m8,J (some ⟨gg,0,none⟩) (k+1) cp,Z G 0] [(66,2,J (some ⟨gg,0,none⟩) (k+1) cp,(k+1),(j++[(x,y)]).flatMap aK),(97,2,J V M W,M,y12.flatMap aK),(9,1,J I t K,t,y8.map bH),(3,1,J D q E,q,y7.map bh)] (w3.setCell ⟨A,26,none⟩ (J (some ⟨gg,0,none⟩) (k+1) cp)) from by
               have e:(j++[(x,y)]).flatMap aK=j.flatMap aK++[Z G x,Z G y]:=(by simp[xe,aK]);rw[e];exact x3)
            clear x3 hown hgrow hat hltg;go_wp2;go_roundw
            case rel=>exact ⟨k+1,hlt,by (first|(go_num;done)|(congr 1;have:=HJJ.1;omega)),_,_,_,_,HF.1,hlst2,HJ4.1⟩
            case measure=>simp[intOf];omega
          case rest =>
           obtain ⟨y15,s15,K15,ao15,cap15,hyl15,hK15,hLS,hl15,L⟩:=hcut;have HLS15:=qH hLS;have f:=au L;clear hLS L HN15 HC15 hlq15;generalize wc=W15 at *;(go_wp2_with fail);refine (f.out.numC hs oM).mono ?_;clear f;rintro e V16 ⟨s16,am,rfl,HS16,HV16,hl16,f⟩;have ci:V16.cell? ⟨A,27,none⟩=some (Z G 0):=kc f.out.box _;have fi:V16.frozen? ⟨A,27,none⟩=false:=kb f.out.box _;replace f:=au (f.out.put 27 (Z G am));replace f:=au (show EJ w A s16 [Z G T,Z G P,Z G O,Z G Q,Z G R,J D q E,J I t K,Z G X,Z G Y,Z G b1,Z G b2,Z G b3,Z G wh,J V M W,Z G g0,Z G g1,Z G g2,Z G m0,Z G m1,Z G m2,Z G m3,Z G m4,Z G m5,Z G m6,Z G m7,Z G m8,J ao15 K15 cap15,Z G am] [(66,2,J ao15 K15 cap15,K15,y15.flatMap aK),(97,2,J V M W,M,y12.flatMap aK),(9,1,J I t K,t,y8.map bH),(3,1,J D q E,q,y7.map bh)] (V16.setCell ⟨A,27,none⟩ (Z G am)) from f.out);(go_upto_region 37 with fail);clear ci fi;generalize V16.setCell _ _=V16' at *;have HCH:=qH (show nE s s2 s3 s4 s5 s6 s7 s8 s9 s10 s11 s12 s13 s14 s15 s16 l1 y7 y8 [Y,b1,b2,b3] [g0,g1,g2] [m0,m1,m2,m3,m4,m5,m6,m7,m8] y12 y15 from ⟨HT1.1,by rw[HS1.1];exact HS2.out.symm,HS3.out.symm,HS4.out.symm,HS5.out.symm,HS6.out.symm,HLS7.1,HLS8.1,HS9.out.symm,HMS10.out,HS11.out.symm,HLS12.1,HMS13.out,HMS14.out,HLS15.1,HS16.out.symm⟩);have hres:=f.out.res;by_cases hfin:s16=some [];rotate_left
           ·have HNO:=qH (show RR=none by rw[<-HRR.1];exact xn (HCH.1.no hfin));have HG:=qH (setRow_heap _ _ _ ay _ _ hres);have HBF:=qH (below_setRow (g:=w.heap.size) f.out.bel (kf _) ay);rcases f.out.eye with ⟨l,hsl,he⟩|⟨hsl,l,_,he⟩
            ·have hne:l≠[]:=fun e=>hfin (by rw[hsl,e]);obtain ⟨e0,e1⟩:=bL he;have hq3:((lh l).toList == [])=false:=(by rw[Lib.toList_data,bP];exact beq_false_of_ne hne);have hq4:((lh l).toList != [])=true:=(by rw[bne,hq3];rfl);clear he hsl hne HCH f;generalize lh l=SL at *;(go_wp2_with (refine wpList_store_row rfl 57 _ _ rfl w.heap.size ay rfl rfl _ _ hres iz rfl oz ?_));refine bodyPost_ret (v:=.tuple #[.agg ay,.bool false]) (lH results50 _ _ _ _ _ rfl rfl HG.1 iz) rfl ⟨HBF.1,.inr ⟨HNO.1,rfl⟩⟩
            ·obtain ⟨e0,e1⟩:=bL he;clear he hsl HCH f;(go_wp2_with (refine wpList_store_row rfl 57 _ _ rfl w.heap.size ay rfl rfl _ _ hres iz rfl oz ?_));refine bodyPost_ret (v:=.tuple #[.agg ay,.bool false]) (lH results50 _ _ _ _ _ rfl rfl HG.1 iz) rfl ⟨HBF.1,.inr ⟨HNO.1,rfl⟩⟩
           have hyes:=HCH.1.yes hfin;rw[HS1.1,HV2.out,HV3.out,HV4.out,HV5.out,HV6.out,HV9.out,HV11.out,HV16.out] at hyes;obtain ⟨r,hr⟩:=eX ((⟨T,P,O,Q,R,y7,y8,⟨X,ix [Y,b1,b2,b3],wh,y12,ix [g0,g1,g2],ix [m0,m1,m2,m3,m4,m5,m6,m7,m8],y15,am⟩⟩:av));rw[hr] at hyes;subst hfin;have f5:=f.out.rows (3,1,J D q E,q,y7.map bh) sS;have f6:=f.out.rows (9,1,J I t K,t,y8.map bH) sS;have f13:=f.out.rows (97,2,J V M W,M,y12.flatMap aK) sS;have f26:=f.out.rows (66,2,J ao15 K15 cap15,K15,y15.flatMap aK) sS;simp only at f5 f6 f13 f26;have hIR:cR V16' r (J D q E) (J I t K) (J V M W) (J ao15 K15 cap15):=by
            rw[<-hr];exact ⟨ap.own (base:=A) (by rw[hyl7];exact f5) (by rw[hyl7];omega),fv.own (base:=A) (by rw[hyl8];exact f6) (by rw[hyl8];omega),bo.own (base:=A) (by rw[hyl12];exact f13) (by rw[hyl12];omega),bo.own (base:=A) (by rw[hyl15];exact f26) (by rw[hyl15];omega)⟩
           have hw1:w.heap.size<A:=oM;have HFRE:=qH (show ar A (J D q E)/\ar A (J I t K)/\ar A (J V M W)/\ar A (J ao15 K15 cap15) from ⟨ar.own f5,ar.own f6,ar.own f13,ar.own f26⟩);obtain ⟨RB,hRB⟩:=eX (aC r (J D q E) (J I t K) (J V M W) (J ao15 K15 cap15));have d1:V16'.heap[A]?=some (.cells RB 57 (0,0)):=(by rw[<-hRB,<-hr];exact f.out.box);have i1:(prog.info? 57).map (·.size)=some RB.size:=(by rw[<-hRB];kernel_rfl);have i2:(ay:Array Value).size=RB.size:=(by rw[<-hRB];rfl);have hos:RB.all (·.oneCell')=true:=(by rw[<-hRB];exact mq hIR);have HRP:=qH (xu r _ _ _ _ V16' hIR);rw[hRB] at HRP;have HRB:=qH hRB;have HIR:=qH hIR;have HYES:=qH hyes;have HJB:=qH f.out.bel;obtain ⟨e0,e1⟩:V16'.cell? ⟨w.heap.size+1,0,none⟩=some (.string (lh []))/\V16'.cell? ⟨w.heap.size+1,1,none⟩=some (.bool false):=by
            rcases f.out.eye with ⟨l,hsl,he⟩|⟨hsl,_⟩
            ·cases hsl;exact bL he
            ·cases hsl
           have hq3:((lh ([]:List UInt8)).toList == [])=true:=(by rw[Lib.toList_data,bP];rfl);have hq4:((lh ([]:List UInt8)).toList != [])=false:=(by rw[bne,hq3];rfl);clear hyes hIR hRB hr f5 f6 f13 f26 HCH f;generalize lh ([]:List UInt8)=SL at *;(go_wp2_with (refine wpList_load_row rfl 57 _ rfl _ rfl _ _ _ _ d1 underlying57 rfl i1 ?_));clear e0 e1 hq3 hq4;refine (HRP.1).mono ?_;rintro e Z1 hz;obtain ⟨zv,rfl,hzv,hzb⟩:∃zv,e=.returned (.tuple #[.agg #[Z G (dk r),Z G (db r),zv],Z G (bU r)])/\ap Z1 zv (ed r)/\Below V16'.heap.size V16' Z1:=by
            obtain ⟨zv,h1,h2,h3⟩:=hz;exact ⟨zv,h1,h2,by first|exact h3|exact h3.1⟩
           obtain ⟨zo,ZN,zc,rfl⟩:∃zo ZN zc,zv=J zo ZN zc:=by
            obtain ⟨a,c,h,_⟩:=hzv;exact ⟨a,_,c,h⟩
           clear hz hzv;have hba:=aG hzb (aq Z1 (ka #[Z G (dk r),Z G (db r),J zo ZN zc] 54));have d2:=(hba.block _ (lS d1)).trans d1;have g3:=(hba.block _ (lS hres)).trans hres;have HBB:=qH (HJB.1.trans (hba.mono HJB.1.size));have HIR2:=qH (HIR.1.below hba (kf _));clear d1 hres hzb hba;by_cases hpe:bU r=0
           ·have HYY:=qH (show RR=some (eF r) by rw[<-HRR.1];exact EA HYES.1 hpe);rw[hpe];generalize dk r=ZW at *;generalize db r=ZH at *;(go_upto_region 42 with fail);generalize Z1.alloc _=Z2 at *;have HG:=qH (setRow_heap _ _ _ RB _ _ g3);have HBF:=qH (below_setRow (g:=w.heap.size) HBB.1 (kf _) RB);obtain ⟨f1,f2,f3,f4⟩:=HFRE.1;have HIF:=qH (HIR2.1.other (k:=w.heap.size) (w':=Z2.setRow w.heap.size RB) (B:=A) sS (fun b hb=>setRow_other _ _ _ _ hb) hw1 f1 f2 f3 f4);have hwq:w.heap.size<=A:=oM;have HFZ:=qH (show ar w.heap.size (J D q E)/\ar w.heap.size (J I t K)/\ar w.heap.size (J V M W)/\ar w.heap.size (J ao15 K15 cap15) from ⟨f1.mono hwq,f2.mono hwq,f3.mono hwq,f4.mono hwq⟩);clear f1 f2 f3 f4;(go_wp2_with (first|refine wpList_load_row rfl 57 _ rfl _ rfl _ _ _ _ d2 underlying57 rfl i1 ?_|refine wpList_store_row rfl 57 _ _ rfl w.heap.size RB rfl rfl _ _ g3 i1 i2 hos ?_));refine bodyPost_ret (v:=.tuple #[.agg RB,.bool true]) (lH results50 _ _ _ _ _ rfl rfl HG.1 i1) rfl ⟨HBF.1,.inl ⟨r,_,_,_,_,HYY.1,by rw[HRB.1],HIF.1,HFZ.1⟩⟩
           ·have hn:(bU r != 0)=true:=(by simpa using hpe);have HNO:=qH (show RR=none by rw[<-HRR.1];exact Ez HYES.1 hpe);generalize dk r=ZW at *;generalize db r=ZH at *;generalize bU r=ZE at *;have HG:=qH (setRow_heap _ _ _ ay _ _ g3);have HBF:=qH (below_setRow (g:=w.heap.size) HBB.1 (kf _) ay);(go_wp2_with (refine wpList_store_row rfl 57 _ _ rfl w.heap.size ay rfl rfl _ _ g3 iz rfl oz ?_));refine bodyPost_ret (v:=.tuple #[.agg ay,.bool false]) (lH results50 _ _ _ _ _ rfl rfl HG.1 iz) rfl ⟨HBF.1,.inr ⟨HNO.1,rfl⟩⟩
end Go.Proofs.YtfjeonehdlphiaaGreatDoor
