/- Part 48. -/
import Derived.Test.YtfjeonehdlphiaaGreatDoorC35Sd
import Derived.Test.YtfjeonehdlphiaaGreatDoorC45Sd
import Derived.Test.YtfjeonehdlphiaaGreatDoorC46Sd
import Derived.Test.YtfjeonehdlphiaaGreatDoorC47Sd
open Go.Obj renaming cells → ka
open Go.Lib renaming cell_of_heap → kb
open Nat renaming le_refl → kc, lt_of_lt_of_le → kd, le_trans → kf, le_of_lt → kh
open Go.Value renaming int → Z, slice → J
open Go.IntKind renaming i64 → G
set_option linter.unusedVariables false
set_option maxHeartbeats 12800000
set_option maxRecDepth 100000
namespace Go.Proofs.YtfjeonehdlphiaaGreatDoor
open Go.RowKit
open _root_.Go.Proofs.Tryz
def fy (b c rw a:Int):Bool:=b == 0 && (c == 0 && (rw == 0 && a == 0))
def jR (W H:Int) (L:List Px) (b c rw a:Int):Int:=if fy b c rw a=true then 0 else eB W H L b c rw a
def dh (W:Int) (b c rw a x:Int):Int:=if fy b c rw a=true then W else x
def iM (W:Int) (L:List Px) (b c rw a:Int):List Px:=if fy b c rw a=true then L else gv W.toNat L b.toNat c.toNat rw.toNat a.toNat
def gD (W H:Int) (L:List Px) (b c rw a d:Int):Int :=
 if jR W H L b c rw a=0 then (if ee (dh W b c rw a rw) (dh H b c rw a a) (iM W L b c rw a) d=0 then iB (cG (bt d) (dh W b c rw a rw) (dh H b c rw a a)) (cG (bt d) (dh H b c rw a a) (dh W b c rw a rw)) (dc (dh W b c rw a rw).toNat (dh H b c rw a a).toNat (iM W L b c rw a) (bt d)) else ee (dh W b c rw a rw) (dh H b c rw a a) (iM W L b c rw a) d) else jR W H L b c rw a
def lg (W H:Int) (L:List Px) (b c rw a d:Int) (e:Bool):List UInt8 :=
 if gD W H L b c rw a d=0 then d6 (cG (bt d) (dh W b c rw a rw) (dh H b c rw a a)) (cG (bt d) (dh H b c rw a a) (dh W b c rw a rw)) (dc (dh W b c rw a rw).toNat (dh H b c rw a a).toNat (iM W L b c rw a) (bt d)) e else []
theorem xH (s:List UInt8) (hs:s.length<=140737488355328) (r:av) (hrd:eI s=some r) (hpe:bU r=0) (rows d i rw b f W H:Int) (zs:List Int) (y:Bool) (L:List Px) (D:Int) (hW:dk r=W) (hH:db r=H) (hZ:ed r=zs)
  (hS:fT r.plan W H zs rows=D) (hL:gL r.plan W H zs rows=L) (Q:List UInt8) (P:Int) (hDS:(if D=0 then lg W H L d i rw b f y else [])=Q) (hDE:(if D=0 then gD W H L d i rw b f else D)=P) (w:World) (hm:iD w) (hp:dI w) :
  Calls prog 15 #[.string (lh s),.agg #[Z G rows,Z G d,Z G i,Z G rw,Z G b,Z G f,.bool y]] w (rT w (.tuple #[.string (lh Q),Z G P])):=by
 have HRD:=qH (fun (u:World)=>xk s u hs);rw[hrd] at HRD;have HPL:=qH (fun (lv tv z t:Value) (u:World) (hu:cR u r lv tv z t)=>xj r lv tv z t u hu);rw[hW,hH,hZ,hpe] at HPL;have hfi:dz r.plan W H zs H=0:=by rw[<-hW,<-hH,<-hZ];exact xx (om hrd).1 hpe
 have HST:=qH (fun (z t v:Value) (u:World) (A:dH u r.plan z t) (M:ap u v zs) (Y:lI v)=>Gl r.plan z t W H v zs rows u A M Y hfi);rw[hS,hL] at HST;have HCU:=qH (fun (v:Value) (u:World) (hv:ax u v L)=>Am W H v L d i rw b u hv);obtain ⟨l,hCW⟩:=eX (dh W d i rw b rw);obtain ⟨k,hCH⟩:=eX (dh H d i rw b b);obtain ⟨n,hCL⟩:=eX (iM W L d i rw b);obtain ⟨m,hCE⟩:=eX (jR W H L d i rw b);have HTU:=qH (fun (v:Value) (u:World) (hu:Below w.heap.size w u) (hv:ax u v n)=>GF l k v n f u (hm.below hu (kc _)) hv);have HD2:=qH (show gD W H L d i rw b f=if m=0 then (if ee l k n f=0 then iB (cG (bt f) l k) (cG (bt f) k l) (dc l.toNat k.toNat n (bt f)) else ee l k n f) else m by rw[<-hCW,<-hCH,<-hCL,<-hCE];rfl);have HS2:=qH (show lg W H L d i rw b f y=if gD W H L d i rw b f=0 then d6 (cG (bt f) l k) (cG (bt f) k l) (dc l.toNat k.toNat n (bt f)) y else [] by rw[<-hCW,<-hCH,<-hCL];rfl);generalize cG (bt f) l k=TW at *;generalize cG (bt f) k l=TH at *;generalize dc l.toNat k.toNat n (bt f)=N at *;generalize ee l k n f=E at *;have HWR:=qH (fun (v:Value) (u:World) (hu:Below w.heap.size w u) (hv:ax u v N)=>xI TW TH v N y u (hp.below hu (kc _)) hv);have HDS:=qH hDS;have HDE:=qH hDE;clear hDS hDE;have HCW:=qH hCW;have HCH:=qH hCH;have HCL:=qH hCL;have HCE:=qH hCE;clear hrd hpe hW hH hZ hS hL hCW hCH hCL hCE hm hp hfi;obtain ⟨a1,HB⟩:=d9 w (ka #[Z G rows,Z G d,Z G i,Z G rw,Z G b,Z G f,.bool y] 40);have hl1:=lS a1;have HCC:=qH (fun (v:World) (h:v.heap[w.heap.size]?=some (.cells #[Z G rows,Z G d,Z G i,Z G rw,Z G b,Z G f,.bool y] 40 (0,0)))=>(show v.cell? ⟨w.heap.size,0,none⟩=some (Z G rows)/\v.cell? ⟨w.heap.size,1,none⟩=some (Z G d)/\v.cell? ⟨w.heap.size,2,none⟩=some (Z G i)/\v.cell? ⟨w.heap.size,3,none⟩=some (Z G rw)/\v.cell? ⟨w.heap.size,4,none⟩=some (Z G b)/\v.cell? ⟨w.heap.size,5,none⟩=some (Z G f)/\v.cell? ⟨w.heap.size,6,none⟩=some (.bool y) from ⟨kb h _,kb h _,kb h _,kb h _,kb h _,kb h _,kb h _⟩));go_enter func15,ntmps15;go_wp2_with fail
 generalize w.alloc _=U at *;refine (HRD.1 U).mono ?_;clear HRD;rintro e V1 ⟨hb1,hc⟩;rcases hc with ⟨r',lv,tv,z,t,hrd,rfl,hI,o,p,hx3,hx4⟩|⟨hrd,_⟩;rotate_left
 ·cases hrd
 cases hrd
 clear o p hx3 hx4;have HPC:=qH (show ∀j u,(aO r.plan z t).toList[j]?=some u->(aC r lv tv z t).toList[7+j]?=some u from fun j u h=>by rw[Nat.add_comm];exact h);obtain ⟨RX,hRX⟩:=eX (aC r lv tv z t);have iRX:(prog.info? 57).map (·.size)=some RX.size:=by rw[<-hRX];kernel_rfl
 have jRX:(ay:Array Value).size=RX.size:=by rw[<-hRX];rfl
 have oRX:RX.all (·.oneCell')=true:=by rw[<-hRX];exact mq hI
 have zRX:=aD V1 (ka ay 57);have cRX:=setRow_heap _ _ _ RX _ _ zRX;have XRX:=qH (below_setRow (g:=V1.heap.size) (aq V1 (ka ay 57)) (kc _) RX);have HRX:=qH hRX;have hb2:=aG hb1 XRX.1;have HIX:=qH (hI.below XRX.1 (kc _));have HPQ:=qH (HPL.1 lv tv z t);rw[hRX] at HPQ HPC |-;clear hRX hI hb1 XRX HPL;go_upto_region 4 with (refine wpList_store_row rfl 57 _ _ rfl V1.heap.size RX rfl rfl _ _ zRX iRX jRX oRX ?_)
 clear zRX;generalize (V1.alloc _).setRow _ _=U1 at *;generalize V1.heap.size=XB at *;have lx:=lS cRX;go_wp2_with (refine wpList_load_row rfl 57 _ rfl _ rfl _ _ _ _ cRX underlying57 rfl iRX ?_)
 refine (HPQ.1 U1 HIX.1).mono ?_;clear HPQ;rintro e V2 ⟨pv,rfl,hpi,hb3,hfp⟩;have HRM:=qH hfp.2;have HPI:=qH hpi;obtain ⟨po,pc,rfl,o,p⟩:=hpi;clear o p hfp;obtain ⟨p1,hb4⟩:=aT hb3 (ka #[Z G W,Z G H,J po zs.length pc] 54);have HPI2:=qH (HPI.1.alloc (ka #[Z G W,Z G H,J po zs.length pc] 54));have HPN:=qH ((HIX.1.below hb4 (kc _)).plan);have hbb:=aG hb2 hb4;have X:=(hbb.block _ hl1).trans a1;obtain ⟨c0,c1,c2,c3,c4,c5,c6⟩:=HCC.1 _ X;have d1:=(hb4.block _ lx).trans cRX;have HTT:=qH (show ∀j u,(aO r.plan z t).toList[j]?=some u->(V2.alloc (ka #[Z G W,Z G H,J po zs.length pc] 54)).cell? ⟨XB,7+j,none⟩=some u from fun j u h=>by
  rw[kb d1];have:=HPC.1 j u h;simpa using this)
 obtain ⟨p0',p1',p2'⟩:=al p1;clear hb3 HPI cRX d1 HPC;go_wp2_with (refine oG rfl 51 _ rfl _ 7 rfl (aO r.plan z t) _ HTT.1 underlying51 rfl kR ?_)
 clear p0' p1' p2' c0 c1 c2 c3 c4 c5 c6 HTT;generalize V2.alloc _=U2 at *;refine (HST.1 z t _ U2 HPN.1 HPI2.1 HRM.1).mono ?_;clear HST;rintro e O ⟨qv,rfl,hq,hb5,hfq⟩;by_cases hE:D=0;rotate_left
 ·have hEb:(D != 0)=true:=by simpa using hE
  rw[show aX D W=0 from if_neg hE,show aX D H=0 from if_neg hE];obtain ⟨qo,qn,qc,rfl⟩:∃zo ZN zc,qv=J zo ZN zc:=by
   obtain ⟨a,c,h,_⟩:=hq;exact ⟨a,_,c,h⟩
  have R:=qH (aG (aG HB.1 (aG hbb hb5)) (aq O (ka #[Z G 0,Z G 0,J qo qn qc] 24)));have HX1:=qH (show Q=[] by rw[<-HDS.1,if_neg hE]);have HX2:=qH (show P=D by rw[<-HDE.1,if_neg hE]);clear hq hfq hb5 hE;go_wp2;go_ret2;exact ⟨by rw[HX1.1,HX2.1];rfl,R.1⟩
 subst hE;have HX1:=qH (show Q=lg W H L d i rw b f y by rw[<-HDS.1,if_pos rfl]);have HX2:=qH (show P=gD W H L d i rw b f by rw[<-HDE.1,if_pos rfl]);rw[show aX 0 W=W from rfl,show aX 0 H=H from rfl];rw[show cO 0 L=L from rfl] at hq;have HQ:=qH hq;obtain ⟨qo,qc,rfl,o,p⟩:=hq;clear o p;obtain ⟨N1,hN1⟩:=eX L.length;rw[hN1] at HQ hfq |-;clear hN1;obtain ⟨t1,hb6⟩:=aT hb5 (ka #[Z G W,Z G H,J qo N1 qc] 24);have HQ2:=qH (HQ.1.alloc (ka #[Z G W,Z G H,J qo N1 qc] 24));replace hbb:=aG hbb hb6;replace X:=(hbb.block _ hl1).trans a1;obtain ⟨c0,c1,c2,c3,c4,c5,c6⟩:=HCC.1 _ X;obtain ⟨q0,q1,q2⟩:=al t1;have l3:=lS t1;have HBX:=qH (aG HB.1 hbb);have HV3:=qH (show w.heap.size<O.heap.size from kd hl1 (kf (aG hb2 hb4).size hb5.size));clear hb5 HQ;go_upto_region 10 with fail
 generalize O.alloc _=U3 at *;go_cut [41] from 38 (fun x v=>x=.bool (!fy d i rw b)/\v=U3)
 case first =>
  by_cases A:d=0;rotate_left
  ·have hb1:(d == 0)=false:=(by simpa using A);go_wp2;go_meet
   case rel=>exact ⟨by simp[fy,A],rfl⟩
  by_cases M:i=0;rotate_left
  ·have hb2:(i == 0)=false:=(by simpa using M);have hb1:(d == 0)=true:=(by simpa using A);go_wp2;go_meet
   case rel=>exact ⟨by simp[fy,A,M],rfl⟩
  by_cases Y:rw=0;rotate_left
  ·have hb3:(rw == 0)=false:=(by simpa using Y);have hb2:(i == 0)=true:=(by simpa using M);have hb1:(d == 0)=true:=(by simpa using A);go_wp2;go_meet
   case rel=>exact ⟨by simp[fy,A,M,Y],rfl⟩
  have hb3:(rw == 0)=true:=by simpa using Y
  have hb2:(i == 0)=true:=by simpa using M
  have hb1:(d == 0)=true:=by simpa using A
  by_cases h4:b=0;rotate_left
  ·have hb4:(b == 0)=false:=(by simpa using h4);go_wp2;go_meet
   case rel=>exact ⟨by simp[fy,A,M,Y,h4],rfl⟩
  have hb4:(b == 0)=true:=by simpa using h4
  go_wp2;go_meet
  case rel=>exact ⟨by simp[fy,A,M,Y,h4],rfl⟩
 case rest =>
  obtain ⟨rfl,rfl⟩:=hcut;go_upto_if 41 with fail
  go_cut [7] from 38 (fun x v=>m=0/\x=Z G 0/\∃(K:Option Addr) (I F:Nat),v.heap[O.heap.size]?=some (.cells #[Z G l,Z G k,J K I F] 24 (0,0))/\v.heap[w.heap.size]?=some (.cells #[Z G rows,Z G d,Z G i,Z G rw,Z G b,Z G f,.bool y] 40 (0,0))/\ax v (J K I F) n/\Below w.heap.size w v)
  case first =>
   cases hz:fy d i rw b
   rotate_left
   ·have o:m=0:=(by rw[<-HCE.1,jR,if_pos hz]);have p:W=l:=(by rw[<-HCW.1,dh,if_pos hz]);have hx3:H=k:=(by rw[<-HCH.1,dh,if_pos hz]);have hx4:L=n:=(by rw[<-HCL.1,iM,if_pos hz]);have HFN:=qH (show m=0/\∃(K:Option Addr) (I F:Nat),wc.heap[O.heap.size]?=some (.cells #[Z G l,Z G k,J K I F] 24 (0,0))/\wc.heap[w.heap.size]?=some (.cells #[Z G rows,Z G d,Z G i,Z G rw,Z G b,Z G f,.bool y] 40 (0,0))/\ax wc (J K I F) n/\Below w.heap.size w wc from ⟨o,qo,N1,qc,by rw[<-p,<-hx3];exact t1,X,by rw[<-hx4];exact HQ2.1,HBX.1⟩);clear o p hx3 hx4;go_wp2;go_meet
    case rel=>exact ⟨HFN.1.1,rfl,HFN.1.2⟩
   have o:eB W H L d i rw b=m:=(by rw[<-HCE.1,jR,if_neg (by rw[hz];decide)]);have p:rw=l:=(by rw[<-HCW.1,dh,if_neg (by rw[hz];decide)]);have hx3:b=k:=(by rw[<-HCH.1,dh,if_neg (by rw[hz];decide)]);have hx4:gv W.toNat L d.toNat i.toNat rw.toNat b.toNat=n:=(by rw[<-HCL.1,iM,if_neg (by rw[hz];decide)]);have HCQ:=qH (HCU.1 _ wc HQ2.1);rw[o,hx4] at HCQ;have HX23:=qH (And.intro p hx3);clear o p hx3 hx4;(go_wp2_with fail);refine (HCQ.1).mono ?_;clear HCQ HCU;rintro e V4 ⟨cq,rfl,hcq,hb7,hfc⟩;have HQ4:=qH hcq;obtain ⟨uo,uc,rfl,o,p⟩:=hcq;clear o p;obtain ⟨N2,hN2⟩:=eX ((cO m n).length);rw[hN2] at HQ4 hfc |-;clear hN2;have k1:=(hb7.block _ l3).trans t1;obtain ⟨z0,z1,z2⟩:=al k1;obtain ⟨f0,f1,f2⟩:=fZ k1;obtain ⟨V,hKW⟩:=eX (aX m rw);obtain ⟨T,hKH⟩:=eX (aX m b);rw[hKW,hKH];have HKW:=qH hKW;have HKH:=qH hKH;clear hKW hKH;have HTS:=qH (HQ4.1.set3 hfc l3 (Z G V) (Z G T) (J uo N2 uc));obtain ⟨y1,y2,y3,C⟩:=eo k1 (Z G V) (Z G T) (J uo N2 uc) w (kh HV3.1) (aG HBX.1 hb7);have lg1:=lS X;have hne:w.heap.size≠O.heap.size:=(by have:=HV3.1;omega);have g2:=(y2 w.heap.size hne).trans ((hb7.block _ lg1).trans X);(go_upto_region 12 with fail);clear z0 z1 z2 f0 f1 f2 y2 y3;generalize ((V4.setCell _ _).setCell _ _).setCell _ _=X9 at *;by_cases q:m=0;rotate_left
   ·have hcb:(m != 0)=true:=(by simpa using q);have S:=qH (show gD W H L d i rw b f=m by rw[HD2.1,if_neg q]);have HXS:=qH (show Q=[] by rw[HX1.1,HS2.1,if_neg (by rw[S.1];exact q)]);have HXE:=qH (show P=m by rw[HX2.1,S.1]);have R:=qH C;clear q C;go_wp2;go_ret2;exact ⟨by rw[HXS.1,HXE.1];rfl,R.1⟩
   have hcb:(m != 0)=false:=(by simpa using q);have HFN:=qH (show m=0/\∃(K:Option Addr) (I F:Nat),X9.heap[O.heap.size]?=some (.cells #[Z G l,Z G k,J K I F] 24 (0,0))/\X9.heap[w.heap.size]?=some (.cells #[Z G rows,Z G d,Z G i,Z G rw,Z G b,Z G f,.bool y] 40 (0,0))/\ax X9 (J K I F) n/\Below w.heap.size w X9 from ⟨q,uo,N2,uc,by rw[<-HX23.1.1,<-HX23.1.2,show rw=V from HKW.1 ▸ (if_pos q).symm,show b=T from HKH.1 ▸ (if_pos q).symm];exact y1,g2,(show cO m n=n from if_pos q) ▸ HTS.1,C⟩);have HCE0:=qH q;clear q C y1 g2;go_wp2;go_meet
   case rel=>exact ⟨HFN.1.1,by rw[HCE0.1],HFN.1.2⟩
  case rest =>
   obtain ⟨q,rfl,K,I,F,t4,g4,hq4,hbl⟩:=hcut;have HQ5:=qH hq4;have HBL:=qH hbl;have HCE0:=qH q;obtain ⟨c0,c1,c2,c3,c4,c5,c6⟩:=HCC.1 _ g4;obtain ⟨q0,q1,q2⟩:=al t4;have l4:=lS t4;clear hq4 hbl q HQ2 HBX t1 X l3 hbb HCU;(go_wp2_with fail);clear c0 c1 c2 c3 c4 c5 c6 q0 q1 q2;refine (HTU.1 _ _ HBL.1 HQ5.1).mono ?_;clear HTU;rintro e V5 ⟨tq,rfl,ht,hb8,hft⟩;have HT:=qH ht;obtain ⟨uo,uc,rfl,o,p⟩:=ht;clear o p;obtain ⟨N2,hN2⟩:=eX ((cO E N).length);rw[hN2] at HT hft |-;clear hN2;have k1:=(hb8.block _ l4).trans t4;obtain ⟨z0,z1,z2⟩:=al k1;obtain ⟨f0,f1,f2⟩:=fZ k1;obtain ⟨V,hKW⟩:=eX (aX E TW);obtain ⟨T,hKH⟩:=eX (aX E TH);rw[hKW,hKH];have HKW:=qH hKW;have HKH:=qH hKH;clear hKW hKH;have HTS:=qH (HT.1.set3 hft l4 (Z G V) (Z G T) (J uo N2 uc));obtain ⟨y1,y2,y3,C⟩:=eo k1 (Z G V) (Z G T) (J uo N2 uc) w (kh HV3.1) (aG HBL.1 hb8);have lg1:=lS g4;have hne:w.heap.size≠O.heap.size:=(by have:=HV3.1;omega);have g2:=(y2 w.heap.size hne).trans ((hb8.block _ lg1).trans g4);(go_upto_region 15 with fail);clear z0 z1 z2 f0 f1 f2 y2 y3;generalize ((V5.setCell _ _).setCell _ _).setCell _ _=X9 at *;by_cases B:E=0;rotate_left
   ·have hcb:(E != 0)=true:=(by simpa using B);have S:=qH (show gD W H L d i rw b f=E by rw[HD2.1,if_pos HCE0.1,if_neg B]);have HXS:=qH (show Q=[] by rw[HX1.1,HS2.1,if_neg (by rw[S.1];exact B)]);have HXE:=qH (show P=E by rw[HX2.1,S.1]);have R:=qH C;clear B C;go_wp2;go_ret2;exact ⟨by rw[HXS.1,HXE.1];rfl,R.1⟩
   have hcb:(E != 0)=false:=(by simpa using B);have S:=qH (show P=iB TW TH N by rw[HX2.1,HD2.1,if_pos HCE0.1,if_pos B]);have HXS:=qH (show Q=nD TW TH N y by
    rw[HX1.1,HS2.1,HD2.1,if_pos HCE0.1,if_pos B,nD,iB];by_cases hk:aZ TW TH N=true
    ·rw[if_pos hk,if_pos rfl,if_pos hk]
    ·rw[if_neg hk,if_neg dD,if_neg hk])
   obtain rfl:TW=V:=(by rw[<-HKW.1,aX,if_pos B]);obtain rfl:TH=T:=(by rw[<-HKH.1,aX,if_pos B]);rw[show cO E N=N from if_pos B] at HTS;have HWQ:=qH (HWR.1 _ X9 C HTS.1);rw[<-S.1,<-HXS.1] at HWQ;obtain ⟨c0,c1,c2,c3,c4,c5,c6⟩:=HCC.1 _ g2;obtain ⟨q0,q1,q2⟩:=al y1;clear B;(go_wp2_with fail);refine (HWQ.1).mono ?_;rintro e V6 ⟨rfl,hb9⟩;have R:=qH (aG C hb9);clear c0 c1 c2 c3 c4 c5 c6 q0 q1 q2 C hb9;go_wp2;go_ret2;exact ⟨rfl,R.1⟩
theorem FY (s:List UInt8) (x:s.length<=140737488355328) (v:eI s=none) (rows m n rw l j:Int) (f:Bool) (w:World) :
  Calls prog 15 #[.string (lh s),.agg #[Z G rows,Z G m,Z G n,Z G rw,Z G l,Z G j,.bool f]] w (rT w (.tuple #[.string (lh []),Z G 1])):=by
 have d:=qH (fun (u:World)=>xk s u x);rw[v] at d;have p:=qH (aq w (ka #[Z G rows,Z G m,Z G n,Z G rw,Z G l,Z G j,.bool f] 40));have k:(prog.info? 57).map (·.size)=some (ay:Array Value).size:=kR;go_enter func15,ntmps15;go_wp2_with fail
 generalize w.alloc _=U at *;refine (d.1 U).mono ?_;clear d;rintro e b ⟨i,r⟩;rcases r with ⟨E,D,H,F,C,y,_⟩|⟨_,rfl⟩
 ·cases y
 obtain ⟨a,c⟩:=eX ay;rw[show Ending.returned (.tuple #[.agg ay,Z G 1])=Ending.returned (.tuple #[.agg a,Z G 1]) by rw[c]];have z:(prog.info? 57).map (·.size)=some a.size:=by rw[<-c];exact k
 have A:(ay:Array Value).size=a.size:=by rw[<-c]
 have t:a.all (·.oneCell')=true:=by rw[<-c];simp[Value.oneCell']
 have o:=aD b (ka ay 57);have q:=qH (aG (aG p.1 i) (below_setRow (g:=b.heap.size) (aq b (ka ay 57)) (kc _) a));clear c i k;go_upto_region 2 with (refine wpList_store_row rfl 57 _ _ rfl b.heap.size a rfl rfl _ _ o z A t ?_)
 clear o;generalize (b.alloc _).setRow _ _=B at *;go_wp2;go_ret2;exact ⟨rfl,q.1⟩
def eG:List Px:=[(258,1,65535)]
theorem vY:aZ 1 1 eG=true:=dD
theorem Dr (w:World) (o:Obj):ax ((w.alloc (.cells #[Z G 258,Z G 1,Z G 65535] 61)).alloc o) (J (some ⟨w.heap.size,0,none⟩) 1 1) eG:=by
 obtain ⟨a,e⟩:=df w (.cells #[Z G 258,Z G 1,Z G 65535] 61) o;obtain ⟨b,c,d⟩:=al a;refine ⟨some ⟨w.heap.size,0,none⟩,1,rfl,dD,.inr ⟨w.heap.size,0,rfl,sO,fun j f=>?_⟩⟩;obtain rfl:j=0:=by have:eG.length=1:=rfl;omega
 exact ⟨b,c,d⟩
theorem AB:bV 2=[50]:=Lib.decDigits_one dD
theorem vZ:d6 1 1 eG true=[80,54,10,49,32,49,10,54,53,53,51,53,10,1,2,0,1,255,255]:=by
 show eh 1 1 65535++dX true eG=_;rw[eh,rq,rt];rfl
theorem Ds:d6 1 1 eG false=[80,54,10,49,32,49,10,50,53,53,10,1,0,255]:=by
 show eh 1 1 255++dX false eG=_;rw[eh,rq,rs];rfl
theorem AU (r:av):dk (eF r)=dk r/\db (eF r)=db r/\ed (eF r)=ed r:=by
 refine ⟨?_,?_,?_⟩
 ·unfold dk;rw[ng];rfl
 ·unfold db;rw[ng];rfl
 ·unfold ed;rw[ng];rfl
theorem AV:fT (hO jy) 2 2 [10,65535,0,7] 1=0:=by decide +kernel
theorem uP:aZ 2 2 (gL (hO jy) 2 2 [10,65535,0,7] 1)=true:=by decide +kernel
theorem uQ:aZ 2 2 (dc 2 2 (gL (hO jy) 2 2 [10,65535,0,7] 1) (bt 1))=true:=by decide +kernel
theorem AQ:(dc 2 2 (gL (hO jy) 2 2 [10,65535,0,7] 1) (bt 1)).length=4:=by decide +kernel
theorem uw {L:List Px} (hT:aZ 2 2 L=true) (d:aZ 2 2 (dc 2 2 L (bt 1))=true):gD 2 2 L 0 0 0 0 1=0/\lg 2 2 L 0 0 0 0 1 false=d6 2 2 (dc 2 2 L (bt 1)) false:=by
 have a:dh 2 0 0 0 0 0=2:=if_pos rfl;have b:iM 2 L 0 0 0 0=L:=if_pos rfl;have c:jR 2 2 L 0 0 0 0=0:=if_pos rfl;have e:gD 2 2 L 0 0 0 0 1=0:=by
  unfold gD;rw[c,if_pos rfl,a,b,if_pos (by rw[ee,if_pos hT];decide)];show iB 2 2 (dc 2 2 L (bt 1))=0;rw[iB,if_pos d]
 exact ⟨e,by unfold lg;rw[if_pos e,a,b];rfl⟩
theorem AP (a:List Px) (h:a.length=4):(d6 2 2 a false).length=23:=by
 rw[d6,List.length_append,sk,h];show (eh 2 2 255).length+1*(3*4)=23;rw[eh,AB,rs];rfl
theorem FT (w:World) (hm:iD w) (x:dI w):Calls prog 13 #[] w (rT w (.bool true)):=by
 have c:=qH (fun (d:Bool) (v:Value) (u:World) (a:Below w.heap.size w u) (l:ax u v eG)=>xI 1 1 v eG d u (x.below a (kc _)) l);rw[show iB 1 1 eG=0 from if_pos vY] at c;have aa:=qH (show ∀d,nD 1 1 eG d=d6 1 1 eG d from fun d=>if_pos vY);simp only[aa.1] at c;have A:=qH (fun (u:World) (a:Below w.heap.size w u)=>F0 u (x.below a (kc _)));obtain ⟨i,hZ,hW,hH,hx0⟩:=AY;clear hx0;have T:=qH (fun u=>AW u);have X:=qH (show ol fA=fm fA by rw[ol,if_pos i.zero]);have W:=qH i.zero;have hpl:fA.plan=jy:=rfl;obtain ⟨fw,fh,fz⟩:=AU fA;have R:=qH (show (fm fA).length<=140737488355328 by decide +kernel);have S:=qH (fun (u:World) (a:Below w.heap.size w u)=>xH (fm fA) R.1 (eF fA) (xo i) (by rw[ng];exact i.zero) 1 0 0 0 0 1 2 2 [10,65535,0,7] false (gL (hO jy) 2 2 [10,65535,0,7] 1) 0 (by rw[fw];exact hW) (by rw[fh];exact hH) (by rw[fz];exact hZ) AV rfl (d6 2 2 (dc 2 2 (gL (hO jy) 2 2 [10,65535,0,7] 1) (bt 1)) false) 0 ((if_pos rfl).trans (uw uP uQ).2) ((if_pos rfl).trans (uw uP uQ).1) u (hm.below a (kc _)) (x.below a (kc _)));have V:=qH (AP _ AQ);generalize d6 2 2 (dc 2 2 (gL (hO jy) 2 2 [10,65535,0,7] 1) (bt 1)) false=BB at *;have D:=qH (fun (m r q g:Value) (u:World) (a:cR u fA m r q g)=>Ev fA m r q g u a);rw[X.1,W.1] at D;clear i hZ hW hH fw fh fz hpl hm x;generalize fA=Q at *;generalize fm Q=RW at *;obtain ⟨F,s⟩:=eX (d6 1 1 eG true);obtain ⟨S2,H⟩:=eX (d6 1 1 eG false);have hs1:((lh F).toList == (⟨#[80,54,10,49,32,49,10,54,53,53,51,53,10,1,2,0,1,255,255]⟩:ByteArray).toList)=true:=by rw[<-s,vZ];exact qy _ _ |>.trans dD
 have hs2:((lh S2).toList == (⟨#[80,54,10,49,32,49,10,50,53,53,10,1,0,255]⟩:ByteArray).toList)=true:=by rw[<-H,Ds];exact qy _ _ |>.trans dD
 have ht1:(lh F).toList=[80,54,10,49,32,49,10,54,53,53,51,53,10,1,2,0,1,255,255]:=by simpa using hs1
 have ht2:(lh S2).toList=[80,54,10,49,32,49,10,50,53,53,10,1,0,255]:=by simpa using hs2
 have B:=qH (fun v u a l=>c.1 true v u a l);have C:=qH (fun v u a l=>c.1 false v u a l);rw[s] at B;rw[show iY=F from (show d6 1 1 eG true=iY from vZ).symm.trans s] at A;rw[H] at C;have hB23:(lh BB).size=23:=by rw[bn];exact V.1
 clear c aa X W s H V R;obtain ⟨a1,f,b⟩:=gr w (.cells #[Z G 258,Z G 1,Z G 65535] 61) (ka #[Z G 1,Z G 1,J (some ⟨w.heap.size,0,none⟩) 1 1] 24);have y:=qH (Dr w (ka #[Z G 1,Z G 1,J (some ⟨w.heap.size,0,none⟩) 1 1] 24));have N:=lS f;obtain ⟨n,o,p⟩:=al f;go_enter func13,ntmps13;go_wp2_with fail
 clear n o p a1;generalize (w.alloc _).alloc _=U at *;refine (B.1 _ U b.1 y.1).mono ?_;rintro e V1 ⟨rfl,j⟩;obtain ⟨n,o,p⟩:=al ((j.block _ N).trans f);go_wp2_with fail
 clear n o p;refine (C.1 _ V1 (aG b.1 j) (y.1.below j (kc _))).mono ?_;rintro e V2 ⟨rfl,k⟩;replace k:=aG j k;clear j B C;go_wp2_with fail
 refine (A.1 V2 (aG b.1 k)).mono ?_;clear A;rintro e V3 ⟨hb3,rv,rfl,O,hfr⟩;rw[show od true mh (1*1)=eG from dD] at O;rw[show ((1:Nat):Int)=1 from rfl];clear hfr;have z:=qH O;obtain ⟨ro,rc,rfl,hx1,hx2⟩:=O;clear hx1 hx2;rw[show eG.length=1 from rfl] at z |-;obtain ⟨P,hb4⟩:=aT (aG k hb3) (ka #[Z G 1,Z G 1,J ro 1 rc] 24);have HR2:=qH (z.1.alloc (ka #[Z G 1,Z G 1,J ro 1 rc] 24));have lt1:=lS P;clear k hb3 z;go_wp2_with fail
 generalize V3.alloc _=U4 at *;generalize V3.heap.size=QB at *;refine (T.1 U4).mono ?_;rintro e V5 ⟨m,r,q,g,rfl,hI,hb5⟩;have E:=qH (D.1 m r q g V5 hI);obtain ⟨RA,hRA⟩:=eX (aC Q m r q g);rw[hRA] at E |-;clear hRA hI T D;go_wp2_with fail
 refine (E.1).mono ?_;rintro e V6 ⟨rfl,hb6⟩;have I:=aG hb5 hb6;have M:=aG hb4 I;clear hb5 hb6 E;go_wp2_with fail
 refine (S.1 V6 (aG b.1 M)).mono ?_;rintro e V7 ⟨rfl,L⟩;have K:=aG I L;have t:=aG M L;clear S I M L;obtain ⟨n,o,p⟩:=al ((t.block _ N).trans f);obtain ⟨q0,q1,q2⟩:=al ((K.block _ lt1).trans P);have Y:=qH (FC 1 1 _ eG 1 1 _ eG V7 (HR2.1.below K (kc _)) (y.1.below t (kc _)));rw[show mt 1 1 eG 1 1 eG=true by simp[mt]] at Y;have HBV:=qH (aG b.1 t);clear K t hb4 f P N lt1;go_wp2_with fail
 refine (Y.1).mono ?_;rintro e V8 ⟨rfl,hb8⟩;have HBF:=qH (aG HBV.1 hb8);clear hb8 n o p q0 q1 q2;go_wp2;go_ret;exact ⟨rfl,HBF.1⟩
def o7 (r:av) (rows c d rw b a:Int) (e:Bool):List UInt8×Int :=
  (if fT r.plan (dk r) (db r) (ed r) rows=0 then lg (dk r) (db r) (gL r.plan (dk r) (db r) (ed r) rows) c d rw b a e else [],
   if fT r.plan (dk r) (db r) (ed r) rows=0 then gD (dk r) (db r) (gL r.plan (dk r) (db r) (ed r) rows) c d rw b a else fT r.plan (dk r) (db r) (ed r) rows)
def iN (s:List UInt8) (rows d e rw c b:Int) (a:Bool):List UInt8×Int:=match eI s with
 | none=>([],1)
 | some r=>o7 r rows d e rw c b a
theorem FW (s:List UInt8) (g:s.length<=140737488355328) (rows d f rw c b:Int) (a:Bool) (w:World) (i:iD w) (j:dI w) :
  Calls prog 15 #[.string (lh s),.agg #[Z G rows,Z G d,Z G f,Z G rw,Z G c,Z G b,.bool a]] w (rT w (.tuple #[.string (lh (iN s rows d f rw c b a).1),Z G (iN s rows d f rw c b a).2])):=by
 cases h:eI s with
 | none =>
  have e:iN s rows d f rw c b a=([],1):=by unfold iN;rw[h]
  rw[e];exact FY s g h rows d f rw c b a w
 | some r =>
  have e:iN s rows d f rw c b a=o7 r rows d f rw c b a:=by unfold iN;rw[h]
  rw[e];exact xH s g r h (om h).1.zero rows d f rw c b _ _ _ a _ _ rfl rfl rfl rfl rfl _ _ rfl rfl w i j
theorem Aw (s:List UInt8) (hs:s.length<=140737488355328) (rows f i rw b a:Int) (m:Bool) (D:List UInt8) (o:Int) (hD:iN s rows f i rw b a m=(D,o)) (w:World) :
  Calls prog 16 #[.string (lh s),.agg #[Z G rows,Z G f,Z G i,Z G rw,Z G b,Z G a,.bool m]] w (rT w (.tuple #[.string (lh D),Z G o])):=by
 have HRF:=qH (fun u=>EX s u hs);have HD:=qH hD;clear hD;obtain ⟨a1,HB⟩:=d9 w (ka #[Z G rows,Z G f,Z G i,Z G rw,Z G b,Z G a,.bool m] 40);have hl1:=lS a1;have HCC:=qH (fun (v:World) (h:v.heap[w.heap.size]?=some (.cells #[Z G rows,Z G f,Z G i,Z G rw,Z G b,Z G a,.bool m] 40 (0,0)))=>(show v.cell? ⟨w.heap.size,0,none⟩=some (Z G rows)/\v.cell? ⟨w.heap.size,1,none⟩=some (Z G f)/\v.cell? ⟨w.heap.size,2,none⟩=some (Z G i)/\v.cell? ⟨w.heap.size,3,none⟩=some (Z G rw)/\v.cell? ⟨w.heap.size,4,none⟩=some (Z G b)/\v.cell? ⟨w.heap.size,5,none⟩=some (Z G a)/\v.cell? ⟨w.heap.size,6,none⟩=some (.bool m) from by
  refine ⟨?_,?_,?_,?_,?_,?_,?_⟩<;>(rw[kb h];rfl)))
 go_enter func16,ntmps16;go_wp2_with fail
 generalize w.alloc _=U at *;refine (HRF.1 U).mono ?_;clear HRF;rintro e B ⟨V,hc⟩;rcases hc with ⟨r0,lv,Y,I,F,hrd,rfl,hI,n,p,hx3,hx4⟩|⟨hrd,rfl⟩;rotate_left
 ·have HX:=qH (show D=[]/\o=1 by
   have:=HD.1;unfold iN at this;rw[hrd] at this;cases this
   exact ⟨rfl,rfl⟩)
  have iz:(prog.info? 57).map (·.size)=some (ay:Array Value).size:=kR;have oz:(ay:Array Value).all (·.oneCell')=true:=kR;have zR:=aD B (ka ay 57);have aa:=qH (aG (aG HB.1 V) (below_setRow (g:=B.heap.size) (aq B (ka ay 57)) (kc _) ay));clear V hrd HD;go_wp2_with (refine wpList_store_row rfl 57 _ _ rfl B.heap.size ay rfl rfl _ _ zR iz rfl oz ?_)
  go_ret2;exact ⟨by rw[HX.1.1,HX.1.2];rfl,aa.1⟩
 clear n p hx3 hx4;have hI2:cR B (eF r0) lv Y I F:=B4.2 hI;rw[<-Er r0 lv Y I F];clear hI;generalize eF r0=r at *;have hRi:=(om hrd).1;have hpe:=hRi.zero;have X:=xx hRi hpe;have ab:=qH (show o7 r rows f i rw b a m=(D,o) by
  have:=HD.1;unfold iN at this;rw[hrd] at this;exact this)
 have HPL:=qH (fun (u:World) (hu:cR u r lv Y I F)=>xu r lv Y I F u hu);have HFI:=qH X;have HLT:=qH (fun (h:¬rows<1)=>Gm (rows:=rows) X oM);have HSE:=qH (show fT r.plan (dk r) (db r) (ed r) rows=if 1<=rows then 0 else 3 by rw[fT,if_pos X]);have HDO:=qH (At (ky X).1 (ky X).2.1 (ky X).2.2);have HPK:=qH (ky X).2.1;clear X hRi hrd HD;rw[hpe] at HPL;unfold o7 at ab;generalize dk r=W at *;generalize db r=H at *;generalize ed r=zs at *;have HPC:=qH (show ∀j u,(aO r.plan I F).toList[j]?=some u->(aC r lv Y I F).toList[7+j]?=some u from fun j u h=>by rw[Nat.add_comm];exact h);obtain ⟨RX,hRX⟩:=eX (aC r lv Y I F);have iRX:(prog.info? 57).map (·.size)=some RX.size:=by rw[<-hRX];kernel_rfl
 have jRX:(ay:Array Value).size=RX.size:=by rw[<-hRX];rfl
 have oRX:RX.all (·.oneCell')=true:=by rw[<-hRX];exact mq hI2
 have zRX:=aD B (ka ay 57);have cRX:=setRow_heap _ _ _ RX _ _ zRX;have XRX:=qH (below_setRow (g:=B.heap.size) (aq B (ka ay 57)) (kc _) RX);have hb2:=aG V XRX.1;have HIX:=qH (hI2.below XRX.1 (kc _));rw[hRX] at HPL HPC |-;clear hRX hI2 V XRX hpe;have T:=(hb2.block _ hl1).trans a1;obtain ⟨O,P,Q,R,S,K,M⟩:=HCC.1 _ T;go_upto_region 4 with (refine wpList_store_row rfl 57 _ _ rfl B.heap.size RX rfl rfl _ _ zRX iRX jRX oRX ?_)
 clear zRX;generalize (B.alloc _).setRow _ _=U1 at *;generalize B.heap.size=XB at *;have lx:=lS cRX;by_cases hr:rows<1
 ·have hd:decide (rows<1)=true:=decide_eq_true hr;have HX:=qH (show D=[]/\o=3 by
   have h:=ab.1;have e3:(if 1<=rows then (0:Int) else 3)=3:=if_neg oM;rw[HSE.1,e3,if_neg dD,if_neg dD] at h;cases h
   exact ⟨rfl,rfl⟩)
  have aa:=qH (aG HB.1 hb2);clear ab HSE HLT hr;go_wp2;go_ret2;exact ⟨by rw[HX.1.1,HX.1.2];rfl,aa.1⟩
 have hd:decide (rows<1)=false:=decide_eq_false hr;have HSL:=qH (HLT.1 oM);rw[if_pos oM] at HSE;rw[HSE.1,if_pos rfl,if_pos rfl,HSL.1] at ab;clear HLT HSE HSL hr;go_wp2_with (refine wpList_load_row rfl 57 _ rfl _ rfl _ _ _ _ cRX underlying57 rfl iRX ?_)
 refine (HPL.1 U1 HIX.1).mono ?_;clear HPL O P Q R S K M;rintro e V2 ⟨pv,rfl,hpi,hb3,hfp⟩;have HPI:=qH hpi;obtain ⟨po,pc,rfl,n,p⟩:=hpi;clear n p hfp;obtain ⟨p1,hb4⟩:=aT hb3 (ka #[Z G W,Z G H,J po zs.length pc] 54);have HPI2:=qH (HPI.1.alloc (ka #[Z G W,Z G H,J po zs.length pc] 54));have HPN:=qH ((HIX.1.below hb4 (kc _)).plan);have hbb:=aG hb2 hb4;have d1:=(hb4.block _ lx).trans cRX;have HTT:=qH (show ∀j u,(aO r.plan I F).toList[j]?=some u->(V2.alloc (ka #[Z G W,Z G H,J po zs.length pc] 54)).cell? ⟨XB,7+j,none⟩=some u from fun j u h=>by
  rw[kb d1];have:=HPC.1 j u h;simpa using this)
 obtain ⟨p0',p1',p2'⟩:=al p1;clear hb3 HPI cRX d1 HPC hb2 hb4 T;go_wp2_with (refine oG rfl 51 _ rfl _ 7 rfl (aO r.plan I F) _ HTT.1 underlying51 rfl kR ?_)
 clear p0' p1' p2' HTT;generalize V2.alloc _=U2 at *;refine (G6 r.plan I F W H _ zs U2 HPN.1 HPI2.1 HDO.1).mono ?_;rintro e l ⟨qv,rfl,hq,hb5,hfq⟩;have HQ:=qH hq;have HRMq:=qH hfq.2;obtain ⟨qo,qc,rfl,n,p⟩:=hq;clear n p hfq HPI2 HPN;have HP7:=qH HDO.1.p7;generalize hLL:ec r.plan W H zs=L at *;clear hLL;obtain ⟨N1,hN1⟩:=eX L.length;rw[hN1] at HQ HRMq |-;clear hN1;have hbbs:=hbb.size;obtain ⟨t1,hb6⟩:=aT hb5 (ka #[Z G W,Z G H,J qo N1 qc] 24);have HQ2:=qH (HQ.1.alloc (ka #[Z G W,Z G H,J qo N1 qc] 24));replace hbb:=aG hbb hb6;have HV3:=qH (show w.heap.size<l.heap.size from kd hl1 (kf hbbs hb5.size));have HBX:=qH (aG HB.1 hbb);have T:=(hbb.block _ hl1).trans a1;obtain ⟨O,P,Q,R,S,K,M⟩:=HCC.1 _ T;have l3:=lS t1;clear hb5 hb6 HQ;go_upto_region 8 with fail
 generalize l.alloc _=U3 at *;go_cut [34] from 31 (fun x v=>x=.bool (!fy f i rw b)/\v=U3)
 case first =>
  by_cases N:f=0;rotate_left
  ·have V:(f == 0)=false:=(by simpa using N);go_wp2;go_meet
   case rel=>exact ⟨by simp[fy,N],rfl⟩
  by_cases h2:i=0;rotate_left
  ·have hb2:(i == 0)=false:=(by simpa using h2);have V:(f == 0)=true:=(by simpa using N);go_wp2;go_meet
   case rel=>exact ⟨by simp[fy,N,h2],rfl⟩
  by_cases h3:rw=0;rotate_left
  ·have hb3:(rw == 0)=false:=(by simpa using h3);have hb2:(i == 0)=true:=(by simpa using h2);have V:(f == 0)=true:=(by simpa using N);go_wp2;go_meet
   case rel=>exact ⟨by simp[fy,N,h2,h3],rfl⟩
  have hb3:(rw == 0)=true:=by simpa using h3
  have hb2:(i == 0)=true:=by simpa using h2
  have V:(f == 0)=true:=by simpa using N
  by_cases h4:b=0;rotate_left
  ·have hb4:(b == 0)=false:=(by simpa using h4);go_wp2;go_meet
   case rel=>exact ⟨by simp[fy,N,h2,h3,h4],rfl⟩
  have hb4:(b == 0)=true:=by simpa using h4
  go_wp2;go_meet
  case rel=>exact ⟨by simp[fy,N,h2,h3,h4],rfl⟩
 case rest =>
  obtain ⟨rfl,rfl⟩:=hcut;obtain ⟨d,hCW⟩:=eX (dh W f i rw b rw);obtain ⟨c,hCH⟩:=eX (dh H f i rw b b);obtain ⟨k,hCL⟩:=eX (iM W L f i rw b);obtain ⟨q,hCE⟩:=eX (jR W H L f i rw b);have HD2:=qH (show gD W H L f i rw b a=if q=0 then (if ee d c k a=0 then iB (cG (bt a) d c) (cG (bt a) c d) (dc d.toNat c.toNat k (bt a)) else ee d c k a) else q by rw[<-hCW,<-hCH,<-hCL,<-hCE];rfl);have HS2:=qH (show lg W H L f i rw b a m=if gD W H L f i rw b a=0 then d6 (cG (bt a) d c) (cG (bt a) c d) (dc d.toNat c.toNat k (bt a)) m else [] by rw[<-hCW,<-hCH,<-hCL];rfl);have HX1:=qH (show D=lg W H L f i rw b a m from (congrArg Prod.fst ab.1).symm);have HX2:=qH (show o=gD W H L f i rw b a from (congrArg Prod.snd ab.1).symm);have HCW:=qH hCW;have HCH:=qH hCH;have HCL:=qH hCL;have HCE:=qH hCE;clear hCW hCH hCL hCE ab;go_upto_if 34 with fail
  go_cut [11] from 31 (fun x v=>q=0/\∃(z:Option Addr) (y t:Nat),v.heap[l.heap.size]?=some (.cells #[Z G d,Z G c,J z y t] 24 (0,0))/\v.heap[w.heap.size]?=some (.cells #[Z G rows,Z G f,Z G i,Z G rw,Z G b,Z G a,.bool m] 40 (0,0))/\ax v (J z y t) k/\Below w.heap.size w v)
  case first =>
   cases hz:fy f i rw b
   rotate_left
   ·have n:q=0:=(by rw[<-HCE.1,jR,if_pos hz]);have p:W=d:=(by rw[<-HCW.1,dh,if_pos hz]);have hx3:H=c:=(by rw[<-HCH.1,dh,if_pos hz]);have hx4:L=k:=(by rw[<-HCL.1,iM,if_pos hz]);have HFN:=qH (show q=0/\∃(z:Option Addr) (y t:Nat),wc.heap[l.heap.size]?=some (.cells #[Z G d,Z G c,J z y t] 24 (0,0))/\wc.heap[w.heap.size]?=some (.cells #[Z G rows,Z G f,Z G i,Z G rw,Z G b,Z G a,.bool m] 40 (0,0))/\ax wc (J z y t) k/\Below w.heap.size w wc from ⟨n,qo,N1,qc,by rw[<-p,<-hx3];exact t1,T,by rw[<-hx4];exact HQ2.1,HBX.1⟩);clear n p hx3 hx4;go_wp2;go_meet
    case rel=>exact HFN.1
   have n:eB W H L f i rw b=q:=(by rw[<-HCE.1,jR,if_neg (by rw[hz];decide)]);have p:rw=d:=(by rw[<-HCW.1,dh,if_neg (by rw[hz];decide)]);have hx3:b=c:=(by rw[<-HCH.1,dh,if_neg (by rw[hz];decide)]);have hx4:gv W.toNat L f.toNat i.toNat rw.toNat b.toNat=k:=(by rw[<-HCL.1,iM,if_neg (by rw[hz];decide)]);have HCQ:=qH (Ai W H _ L f i rw b wc HQ2.1);rw[n] at HCQ;have HX1E:=qH n;have HX4:=qH hx4;have HX23:=qH (And.intro p hx3);clear n p hx3 hx4;obtain ⟨z0,z1,z2⟩:=al t1;(go_wp2_with fail);clear z0 z1 z2;refine (HCQ.1).mono ?_;rintro e V4 ⟨rfl,hb7⟩;by_cases A:q=0;rotate_left
   ·have hcb:(q != 0)=true:=(by simpa using A);have HE2:=qH (show gD W H L f i rw b a=q by rw[HD2.1,if_neg A]);have HXS:=qH (show D=[] by rw[HX1.1,HS2.1,if_neg (by rw[HE2.1];exact A)]);have HXE:=qH (show o=q by rw[HX2.1,HE2.1]);have aa:=qH (aG HBX.1 hb7);clear A;go_wp2;go_ret2;exact ⟨by rw[HXS.1,HXE.1];rfl,aa.1⟩
   have hcb:(q != 0)=false:=(by simpa using A);have HCO:=qH (fun (u:World) (hu:ax u (J qo N1 qc) L)=>Ak (HX1E.1.trans A) (J qo N1 qc) u hu HRMq.1);rw[HX4.1] at HCO;have HCZ:=qH A;have t2:=(hb7.block _ l3).trans t1;have lg1:=lS T;have g2:=(hb7.block _ lg1).trans T;have HQ3:=qH (HQ2.1.below hb7 (kc _));have HBY:=qH (aG HBX.1 hb7);have l3b:=kd l3 hb7.size;have hne:w.heap.size≠l.heap.size:=(by have:=HV3.1;omega);clear A O P Q R S K M HCQ hb7 hbb HQ2 HBX;obtain ⟨O,P,Q,R,S,K,M⟩:=HCC.1 _ g2;obtain ⟨z0,z1,z2⟩:=al t2;(go_wp2_with fail);clear z0 z1 z2 O P Q R S K M;refine (HCO.1 V4 HQ3.1).mono ?_;clear HCO HQ3;rintro e V5 ⟨cq,rfl,hcq,hb8,hfc⟩;have HQ4:=qH hcq;obtain ⟨uo,uc,rfl,n,p⟩:=hcq;clear n p;obtain ⟨N2,hN2⟩:=eX k.length;rw[hN2] at HQ4 hfc |-;clear hN2;have k1:=(hb8.block _ l3b).trans t2;obtain ⟨z0,z1,z2⟩:=al k1;obtain ⟨f0,f1,f2⟩:=fZ k1;have HTS:=qH (HQ4.1.set3 hfc l3b (Z G rw) (Z G b) (J uo N2 uc));obtain ⟨y1,y2,y3,y4⟩:=eo k1 (Z G rw) (Z G b) (J uo N2 uc) w (kh HV3.1) (aG HBY.1 hb8);have lg2:=lS g2;have g3:=(y2 w.heap.size hne).trans ((hb8.block _ lg2).trans g2);have HFN:=qH (show q=0/\∃(z:Option Addr) (y t:Nat),(((V5.setCell ⟨l.heap.size,0,none⟩ (Z G rw)).setCell ⟨l.heap.size,1,none⟩ (Z G b)).setCell ⟨l.heap.size,2,none⟩ (J uo N2 uc)).heap[l.heap.size]?=some (.cells #[Z G d,Z G c,J z y t] 24 (0,0))/\(((V5.setCell ⟨l.heap.size,0,none⟩ (Z G rw)).setCell ⟨l.heap.size,1,none⟩ (Z G b)).setCell ⟨l.heap.size,2,none⟩ (J uo N2 uc)).heap[w.heap.size]?=some (.cells #[Z G rows,Z G f,Z G i,Z G rw,Z G b,Z G a,.bool m] 40 (0,0))/\ax (((V5.setCell ⟨l.heap.size,0,none⟩ (Z G rw)).setCell ⟨l.heap.size,1,none⟩ (Z G b)).setCell ⟨l.heap.size,2,none⟩ (J uo N2 uc)) (J z y t) k/\Below w.heap.size w (((V5.setCell ⟨l.heap.size,0,none⟩ (Z G rw)).setCell ⟨l.heap.size,1,none⟩ (Z G b)).setCell ⟨l.heap.size,2,none⟩ (J uo N2 uc)) from ⟨HCZ.1,uo,N2,uc,by rw[<-HX23.1.1,<-HX23.1.2];exact y1,g3,HTS.1,y4⟩);clear y1 y2 y3 y4 g3 hfc hb8 k1 lg2;go_wp2;go_meet
   case rel=>exact HFN.1
  case rest =>
   obtain ⟨A,z,y,t,t4,g4,hq4,hbl⟩:=hcut;have HQ5:=qH hq4;have HBL:=qH hbl;have HPQ:=qH (show aZ d c k=true by
    have h0:=HCE.1.trans A;rw[<-HCW.1,<-HCH.1,<-HCL.1];unfold jR at h0;unfold dh iM;cases hz:fy f i rw b
    ·rw[hz] at h0;exact An h0
    ·exact HP7.1)
   obtain ⟨O,P,Q,R,S,K,M⟩:=HCC.1 _ g4;clear hq4 hbl HQ2 HBX t1 T l3 hbb;have HDE:=qH (show o=if ee d c k a=0 then iB (cG (bt a) d c) (cG (bt a) c d) (dc d.toNat c.toNat k (bt a)) else ee d c k a by rw[HX2.1,HD2.1,if_pos A]);have HDS:=qH (show D=if o=0 then d6 (cG (bt a) d c) (cG (bt a) c d) (dc d.toNat c.toNat k (bt a)) m else [] by rw[HX1.1,HS2.1,HX2.1]);clear A HX1 HX2 HD2 HS2 HCW HCH HCL HCE HP7;by_cases hk:jt a=true;rotate_left
   ·have hd:decide (1<=a/\a<=8)=false:=(by simpa [jt] using hk);have hxe:o=3:=by
     have e3:ee d c k a=3:=(by rw[ee,if_pos HPQ.1,mR,if_neg hk]);rw[HDE.1,e3];rfl
    have HXX:=qH (show D=[]/\o=3 from ⟨by rw[HDS.1,if_neg (by rw[hxe];decide)],hxe⟩);clear hxe hk;(go_wp2_with (go_at_call 33;refine (aI _ _ _ _).mono ?_;rintro e w1 ⟨rfl,rfl⟩;rw[hd]));go_ret2;exact ⟨by rw[HXX.1.1,HXX.1.2];rfl,HBL.1⟩
   have hd:decide (1<=a/\a<=8)=true:=hk;have HXX:=qH (show D=d6 (cG (bt a) d c) (cG (bt a) c d) (dc d.toNat c.toNat k (bt a)) m/\o=0 from by
    have e0:ee d c k a=0:=(by rw[ee,if_pos HPQ.1,mR,if_pos hk]);have e1:o=0:=(by rw[HDE.1,if_pos e0,iB,if_pos (x9 HPQ.1 _)]);exact ⟨by rw[HDS.1,if_pos e1],e1⟩)
   have HTU:=qH (fun (u:World) (hu:ax u (J z y t) k)=>GH HPQ.1 hk (J z y t) u hu);have HSB:=qH (fun (v:Value) (u:World) (hu:ax u v (dc d.toNat c.toNat k (bt a)))=>FU (x9 HPQ.1 (bt a)) m v u hu);clear HPQ HDE HDS;generalize dc d.toNat c.toNat k (bt a)=TL at *;generalize cG (bt a) d c=TW at *;generalize cG (bt a) c d=TH at *;clear hk;(go_upto_region 15 with (go_at_call 33;refine (aI _ _ _ _).mono ?_;rintro e w1 ⟨rfl,rfl⟩;rw[hd]));clear O P Q R S K M;generalize wc=E at *;generalize l.heap.size=QB at *;have l4:=lS t4;have l5:=lS g4;have HS:=qH (show ∀v,Below E.heap.size E v->v.cell? ⟨QB,0,none⟩=some (Z G d)/\v.cell? ⟨QB,1,none⟩=some (Z G c)/\v.cell? ⟨QB,2,none⟩=some (J z y t)/\v.cell? ⟨w.heap.size,5,none⟩=some (Z G a)/\v.cell? ⟨w.heap.size,6,none⟩=some (.bool m) from fun v h=>by
    obtain ⟨z0,z1,z2⟩:=al ((h.block _ l4).trans t4);obtain ⟨O,P,Q,R,S,K,M⟩:=HCC.1 _ ((h.block _ l5).trans g4);exact ⟨z0,z1,z2,K,M⟩)
   have hWd:Below E.heap.size E E.drew:=(Below.refl _ _).drew;have hSd:=HS.1 _ hWd;have HQ6:=qH (HQ5.1.below hWd (kc _));clear t4 g4 l4 l5 HCC HQ5;refine cE 8 HS.1 ?_;refine ak 0 ?_;refine ak 1 ?_;refine ak 4 ?_;refine ak 2 ?_;refine ak 5 ?_;refine aw 3 fun K' C=>?_;go_simp;refine (HTU.1 E.drew HQ6.1).mono ?_;rintro e V7 ⟨Y,rfl,ht,hb9,hft⟩;have hW7:Below E.heap.size E V7:=hWd.trans (hb9.mono hWd.size);have HT:=qH ht;clear hb9 hft ht HTU HQ6;have hSd:=HS.1 _ hW7;refine C.out _ _ hSd ?_;clear C;(try simp only[Act.put]);refine aw 6 fun K' C=>?_;go_simp;refine (HSB.1 Y V7 HT.1).mono ?_;rintro e V8 ⟨rfl,hb10⟩;have hW8:Below E.heap.size E V8:=hW7.trans (hb10.mono hW7.size);have aa:=qH (aG HBL.1 hW8);clear hb10 HT HSB;have hSd:=HS.1 _ hW8;refine C.out _ _ hSd ?_;clear C;(try simp only[Act.put]);refine aw 7 fun K' C=>?_;go_simp;have hSd:=hSd;refine C.out _ _ hSd ?_;clear C;(try simp only[Act.put]);refine aS fun K' C=>?_;go_simp;refine C.out _ _ ?_;clear C;(try simp only[Act.put]);go_wp2;go_ret2;exact ⟨by rw[HXX.1.1,HXX.1.2];rfl,aa.1⟩
theorem FX (i:ByteArray) (rows d f rw c b:Int) (a:Bool) (k:i.size<=140737488355328) (w:World) (p:iD w) (q:dI w) :
  Calls prog 4 #[.string i,.agg #[Z G rows,Z G d,Z G f,Z G rw,Z G c,Z G b,.bool a]] w (rT w (.bool true)):=by
 obtain ⟨s,rfl⟩:∃s,i=lh s:=⟨i.data.toList,rfl⟩;rw[bn] at k;have m:=qH (fun (u:World) (g:Below w.heap.size w u)=>FW s k rows d f rw c b a u (p.below g (kc _)) (q.below g (kc _)));have n:=qH (fun (u:World)=>Aw s k rows d f rw c b a (iN s rows d f rw c b a).1 (iN s rows d f rw c b a).2 rfl u);have D:=qH (fun (u:World) (g:Below w.heap.size w u)=>FT u (p.below g (kc _)) (q.below g (kc _)));generalize iN s rows d f rw c b a=B at *;obtain ⟨t,r⟩:=B;simp only at m n;clear p q k;obtain ⟨j,l⟩:=d9 w (ka #[Z G rows,Z G d,Z G f,Z G rw,Z G c,Z G b,.bool a] 40);have H:=lS j;have A:(prog.info? 40).map (·.size)=some (#[Z G rows,Z G d,Z G f,Z G rw,Z G c,Z G b,.bool a]:Array Value).size:=kR;go_enter func4,ntmps4;go_wp2_with (refine wpList_load_row rfl 40 _ rfl _ rfl _ _ _ _ j underlying40 rfl A ?_)
 generalize w.alloc _=U at *;refine (m.1 U l.1).mono ?_;clear m;rintro e E ⟨rfl,o⟩;have x:=(o.block _ H).trans j;go_wp2_with (refine wpList_load_row rfl 40 _ rfl _ rfl _ _ _ _ x underlying40 rfl A ?_)
 refine (n.1 E).mono ?_;clear n;rintro e F ⟨rfl,y⟩;have v:=qH (aG (aG l.1 o) y);clear o y x j l;go_wp2_with fail
 refine (D.1 F v.1).mono ?_;rintro e I ⟨rfl,z⟩;have C:=qH (aG v.1 z);have L:((lh t).toList == (lh t).toList)=true:=sS;have K:(r == r)=true:=sS;clear z;go_wp2;go_ret;exact ⟨rfl,C.1⟩
end Go.Proofs.YtfjeonehdlphiaaGreatDoor
