/- Part 31. -/
import Derived.Test.YtfjeonehdlphiaaGreatDoorC15Sd
import Derived.Deep.CutRange
open Go.Obj renaming cells → ka
open Go.Lib renaming frozen_of_heap → kb, cell_of_heap → kc
open Go.Act renaming put → kd
open Nat renaming le_refl → kf, le_trans → ko, zero_le → kv, mul_le_mul_right → xa, succ_mul → xe, mul_comm → xs, mul_le_mul → zo
open Int renaming eq_ofNat_of_zero_le → kh, toNat_natCast → kG
open Go.IntWalk renaming i64_in → km
open List renaming getD_eq_getElem?_getD → kw, take_of_length_le → xc, length_map → yb, length_take → ys, range → zc, flatMap_append → zl
open Option renaming some.inj → zs
open Go.Value renaming int → Z, slice → J
open Go.IntKind renaming i64 → G
set_option linter.unusedVariables false
set_option maxHeartbeats 6400000
set_option maxRecDepth 100000
namespace Go.Proofs.YtfjeonehdlphiaaGreatDoor
open Go.RowKit
open _root_.Go.Proofs.Tryz
def bg (m:Mv) (W H:Nat):Nat:=if m.1=true then H else W
theorem lN (m:Mv) (W H:Nat):cG m W H=((bg m W H:Nat):Int):=by unfold cG bg;split<;>rfl
def mv (m:Mv) (W H x y:Nat):Nat:=(mx m H x y).toNat*W+(mw m W x y).toNat
def nw (ps:List Px) (W H:Nat) (m:Mv) (j:Nat):Px:=aB ps (mv m W H (j % bg m W H) (j / bg m W H))
def dc (W H:Nat) (ps:List Px) (m:Mv):List Px:=(zc (bg m H W*bg m W H)).map (nw ps W H m)
theorem sT (m:Mv) (W H x y:Nat) (d:x<bg m W H) (e:y<bg m H W):(0<=mw m W x y/\mw m W x y<W)/\(0<=mx m H x y/\mx m H x y<H):=by
 obtain ⟨a,b,c⟩:=m;unfold bg at d e;unfold mw mx;cases a<;>cases b<;>cases c<;>simp at d e |-<;>omega
theorem GD (W H X Y:Nat) (hW:W<=64) (hH:H<=64) (m:Mv) (t:X<bg m W H) (w:Y<bg m H W) (ps:List Px) (E:ps.length=H*W) (f off ca q n i:Nat) (V:World) (hBq:q<V.heap.size) (S:n<V.heap.size) (z:i<V.heap.size) (D:f<V.heap.size)
  (k2:V.cell? ⟨q,2,none⟩=some (J (some ⟨f,off,none⟩) ps.length ca)) (o0:V.cell? ⟨n,0,none⟩=some (Z G W)) (o1:V.cell? ⟨n,1,none⟩=some (Z G H))
  (F:V.cell? ⟨i,0,none⟩=some (.bool m.1)) (I:V.cell? ⟨i,1,none⟩=some (.bool m.2.1)) (K:V.cell? ⟨i,2,none⟩=some (.bool m.2.2))
  (T:∀j,j<ps.length->V.cell? ⟨f,off+j*3,none⟩=some (Z G (aB ps j).1)/\V.cell? ⟨f,off+j*3+1,none⟩=some (Z G (aB ps j).2.1)/\V.cell? ⟨f,off+j*3+2,none⟩=some (Z G (aB ps j).2.2)) :
  Calls prog 61 #[.agg #[Z G (X:Nat),Z G (Y:Nat)],.pointer (some ⟨q,0,none⟩),.pointer (some ⟨n,0,none⟩),.pointer (some ⟨i,0,none⟩)] V fun e V'=>e=.returned (dj (aB ps (mv m W H X Y)))/\Below V.heap.size V V':=by
 obtain ⟨⟨s1,s2⟩,s3,s4⟩:=sT m W H X Y t w;have hx64:X<=64:=by unfold bg at t;split at t<;>omega
 have hy64:Y<=64:=by unfold bg at w;split at w<;>omega
 have L:=qH (fun (u:World)=>F3 m W H X Y ⟨oM,oM⟩ ⟨oM,oM⟩ ⟨oM,oM⟩ ⟨oM,oM⟩ u);have d:mv m W H X Y=(mx m H X Y).toNat*W+(mw m W X Y).toNat:=rfl;obtain ⟨SX,A⟩:=kh s1;obtain ⟨N,B⟩:=kh s3;rw[A,B] at L d;rw[A] at s2;rw[B] at s4;simp only[kG] at d;obtain ⟨k,hk⟩:=eX (mv m W H X Y);rw[hk] at d |-;have hkl:k<ps.length:=by
  have h1:=xa W (show N+1<=H from oM);rw[Nat.add_mul,Nat.one_mul] at h1;rw[E];omega
 have hl4:ps.length<=4096:=by rw[E];exact ko (zo hH hW) dD
 have HIX:=qH (fun (u:World)=>iP W H SX N W k rfl d.symm oM u);obtain ⟨O,Q,R⟩:=T k hkl;have hkI:(k:Int)<(ps.length:Int):=oM;generalize aB ps k=P at *;obtain ⟨a,b,c⟩:=m;simp only at F I K;clear T hk d s1 s2 s3 s4 A B t w E;obtain ⟨n1,n2,r⟩:=gr V (ka #[Z G (X:Nat),Z G (Y:Nat)] 97) (ka #[Z G 0,Z G 0,Z G 0] 61);go_enter func61,ntmps61;go_upto_region 1 with fail
 have hl1:=lS n1;have hl2:=lS n2;generalize (V.alloc _).alloc _=U at *;have s:=qH (show ∀v,Below U.heap.size U v->v.cell? ⟨q,2,none⟩=some (J (some ⟨f,off,none⟩) ps.length ca)/\v.cell? ⟨n,0,none⟩=some (Z G W)/\v.cell? ⟨n,1,none⟩=some (Z G H)/\v.cell? ⟨i,0,none⟩=some (.bool a)/\v.cell? ⟨i,1,none⟩=some (.bool b)/\v.cell? ⟨i,2,none⟩=some (.bool c)/\v.cell? ⟨f,off+k*3,none⟩=some (Z G P.1)/\v.cell? ⟨f,off+k*3+1,none⟩=some (Z G P.2.1)/\v.cell? ⟨f,off+k*3+2,none⟩=some (Z G P.2.2)/\v.cell? ⟨V.heap.size,0,none⟩=some (Z G (X:Nat))/\v.cell? ⟨V.heap.size,1,none⟩=some (Z G (Y:Nat)) from fun v h=>by
  have l:=r.1.trans (h.mono r.1.size);have hn:=(h.block _ hl1).trans n1;exact ⟨(l.cell (p:=⟨q,2,none⟩) hBq).trans k2,(l.cell (p:=⟨n,0,none⟩) S).trans o0,(l.cell (p:=⟨n,1,none⟩) S).trans o1,(l.cell (p:=⟨i,0,none⟩) z).trans F,(l.cell (p:=⟨i,1,none⟩) z).trans I,(l.cell (p:=⟨i,2,none⟩) z).trans K,(l.cell (p:=⟨f,off+k*3,none⟩) D).trans O,(l.cell (p:=⟨f,off+k*3+1,none⟩) D).trans Q,(l.cell (p:=⟨f,off+k*3+2,none⟩) D).trans R,kc hn _,kc hn _⟩)
 have C:Below U.heap.size U U.drew:=(Below.refl _ _).drew;have hSd:=s.1 _ C;clear k2 o0 o1 F I K O Q R;refine cE 10 s.1 ?_;refine ak 0 ?_;refine ak 2 ?_;refine ak 3 ?_;refine ak 4 ?_;refine ak 5 ?_;refine ak 1 ?_;refine aw 6 fun M d=>?_;go_simp;refine (L.1 _).mono ?_;rintro e V1 ⟨rfl,hbvV1⟩;have x:Below U.heap.size U V1:=C.trans (hbvV1.mono C.size);have hSd:=s.1 _ x;refine d.out _ _ hSd ?_;clear d;try simp only[kd]
 refine aw 7 fun M d=>?_;go_simp;refine (HIX.1 _).mono ?_;rintro e V2 ⟨rfl,hbvV2⟩;have y:Below U.heap.size U V2:=x.trans (hbvV2.mono x.size);have hSd:=s.1 _ y;refine d.out _ _ hSd ?_;clear d;try simp only[kd]
 refine ak 8 ?_;refine ak 9 ?_;refine mC (o:=_) kR rfl (fun M d=>?_);have g:=(y.block _ hl2).trans n2;obtain ⟨z0,z1,z2⟩:=al (b:=V.heap.size+1) g;have f0:=kb (b:=V.heap.size+1) g 0;have f1:=kb (b:=V.heap.size+1) g 1;have f2:=kb (b:=V.heap.size+1) g 2;rw[if_pos rR];go_simp;refine d.out _ _ ?_;clear d;refine mA kR ?_ _;try simp only[kd]
 clear hSd;have HF:=qH (bf (r.1.trans (y.mono r.1.size)) (show V.heap.size<=V.heap.size+1 from oM) (Z G P.1) (Z G P.2.1) (Z G P.2.2));go_wp2;exact bodyPost_ret (v:=.agg #[Z G P.1,Z G P.2.1,Z G P.2.2]) (by simp[results,results61,go_sem,z0,z1,z2]) rfl ⟨rfl,HF.1⟩
def ee (W H:Int) (ps:List Px) (a:Int):Int:=if aZ W H ps=true then mR a else 1
theorem vA {a:Int} (h:jt a=true):∃k:Nat,k<8/\a=(k:Int)+1/\bt a=bZ k:=by
 have b:1<=a/\a<=8:=by simpa [jt] using h
 refine ⟨a.toNat-1,oM,oM,by rw[bt,if_pos h]⟩
theorem ya {m:Mv} {W H:Nat} (b:W<=64) (a:H<=64):bg m W H<=64:=by unfold bg;split<;>assumption
theorem GE (W H:Int) (v:Value) (ps:List Px) (c:Int) (w:World) (hm:iD w) (hv:ax w v ps) :
  Calls prog 18 #[.agg #[Z G W,Z G H,v],Z G c] w fun e w'=>∃r,e=.returned (.tuple #[.agg #[Z G (aX (ee W H ps c) (cG (bt c) W H)),Z G (aX (ee W H ps c) (cG (bt c) H W)),r],Z G (ee W H ps c)])/\ax w' r (cO (ee W H ps c) (dc W.toNat H.toNat ps (bt c)))/\Below w.heap.size w w'/\ar w.heap.size r/\bI w' r:=by
 have HM:=qH hm;have HV:=qH hv;obtain ⟨ao,ca,rfl,hla,hc⟩:=hv;clear hm;obtain ⟨D,F,d⟩:=gr w (ka #[Z G W,Z G H,J ao ps.length ca] 24) (ka #[Z G 0,Z G 0,J none 0 0] 24);have f:=qH (show ee W H ps c=if aZ W H ps=true then mR c else 1 from rfl);obtain ⟨E,m⟩:=eX (ee W H ps c);rw[m] at f |-;clear m;obtain ⟨M,Y⟩:=eX (bt c);rw[Y];have HMV:=qH Y;clear Y;have hl1:=lS D;have hl2:=lS F;have ERR:∀(V:World) (E:Int),E≠0->Below w.heap.size w V->∃r,(Ending.returned (.tuple #[.agg #[Z G 0,Z G 0,J none 0 0],Z G E])=.returned (.tuple #[.agg #[Z G (aX E (cG (M) W H)),Z G (aX E (cG (M) H W)),r],Z G E]))/\ax V r (cO E (dc W.toNat H.toNat ps (M)))/\Below w.heap.size w V/\ar w.heap.size r/\bI V r:=fun V E m hB=>by
  refine ⟨J none 0 0,?_,?_,hB,ar.nil _,bI.nil _⟩
  ·rw[aX,if_neg m,aX,if_neg m]
  ·rw[cO,if_neg m];exact ax.nil _
 have R:=qH ERR;clear ERR;go_enter func18,ntmps18;obtain ⟨p0,p1,p2⟩:=al D;go_wp2_with fail
 clear p0 p1 p2;generalize (w.alloc _).alloc _=U at *;refine (nc W H _ ps _ (HV.1.below d.1 (kf _))).mono ?_;rintro e V1 ⟨rfl,n⟩;have HB1:=qH (d.1.trans (n.mono d.1.size));by_cases o:aZ W H ps=true
 case neg =>
  rw[if_neg o] at f;have hp2:aZ W H ps=false:=by simpa using o
  obtain rfl:E=1:=f.1;rw[hp2];have g:=(n.block _ hl2).trans F;obtain ⟨u,A,B⟩:=al g;obtain ⟨f0,f1,f2⟩:=fZ g;have q:=qH (bf HB1.1 (show w.heap.size<=w.heap.size+1 from oM) (Z G 0) (Z G 0) (J none 0 0));go_wp2;exact bodyPost_ret (v:=.tuple #[.agg #[Z G 0,Z G 0,J none 0 0],Z G 1]) (by simp[results,results18,go_sem,u,A,B]) rfl (R.1 _ 1 dD q.1)
 rw[if_pos o] at f;rw[o];obtain ⟨hg1,hg2,hg3,hg4⟩:=fC o;go_wp2_with fail
 by_cases t:jt c=true
 case neg =>
  have hk2:jt c=false:=by simpa using t
  obtain rfl:E=3:=by rw[f.1,mR,if_neg t]
  refine (CL c hk2 V1).mono ?_;rintro e l ⟨rfl,s⟩;have hb2':=aG (aG n s) (aq l (ka #[.bool false,.bool false,.bool false] 119));have g:=(hb2'.block _ hl2).trans F;obtain ⟨u,A,B⟩:=al g;obtain ⟨f0,f1,f2⟩:=fZ g;have q:=qH (bf (d.1.trans (hb2'.mono d.1.size)) (show w.heap.size<=w.heap.size+1 from oM) (Z G 0) (Z G 0) (J none 0 0));go_wp2;exact bodyPost_ret (v:=.tuple #[.agg #[Z G 0,Z G 0,J none 0 0],Z G 3]) (by simp[results,results18,go_sem,u,A,B]) rfl (R.1 _ 3 dD q.1)
 obtain rfl:E=0:=by rw[f.1,mR,if_pos t]
 obtain ⟨k,hk8,rfl,hmv⟩:=vA t;have hMk:=hmv.symm.trans HMV.1;obtain ⟨a,rfl⟩:=kh (show 0<=W from oM);obtain ⟨HN,rfl⟩:=kh (show 0<=H from oM);have hlen:ps.length=HN*a:=by rw[xs];exact_mod_cast hg3
 have aa:a<=64:=oM;have T:HN<=64:=oM;have hpos:1<=ps.length:=by rw[hlen];exact zo (show 1<=HN from oM) (show 1<=a from oM)
 have HLEN:=qH hlen;clear hg1 hg2 hg3 hg4 hlen R f t o hmv;refine (CM k hk8 V1 (HM.1.below HB1.1 (kf _))).mono ?_;rintro e l ⟨rfl,s⟩;rw[hMk];clear hMk HMV;obtain ⟨x,y,z⟩:=M;have b1:=df l (ka #[.bool x,.bool y,.bool z] 119) (ka #[Z G (a:Int),Z G (HN:Int)] 95);have Q:=aG (aG n s) (ea l (ka #[.bool x,.bool y,.bool z] 119) (ka #[Z G (a:Int),Z G (HN:Int)] 95));obtain ⟨p0,p1,p2⟩:=al (((aG (aG n s) (aq l (ka #[.bool x,.bool y,.bool z] 119))).block _ hl1).trans D);go_wp2_with fail
 clear p0 p1 p2;obtain ⟨c1,c2⟩:=b1;have hlc1:=lS c1;have hlc2:=lS c2;have hV2:=(aG n s).size;generalize (l.alloc _).alloc _=X at *;generalize l.heap.size=MB at *;have HBX:=qH (d.1.trans (Q.mono d.1.size));refine (GI (x,y,z) a HN X).mono ?_;rintro e C ⟨rfl,hb3⟩;rw[lN,lN];go_wp2_with fail
 have hVX:=aG Q hb3;refine (rF (bg (x,y,z) a HN) (bg (x,y,z) HN a) (bg (x,y,z) HN a*bg (x,y,z) a HN) (ya aa T) (ya T aa) rfl 61 _ (nw ps a HN (x,y,z)) C (enters_of func61 kR rfl) ?_).mono ?_
 ·intro j V hj hV;have hT:0<bg (x,y,z) a HN:=by
   rcases Nat.eq_zero_or_pos (bg (x,y,z) a HN) with S|S
   ·rw[S] at hj;simp at hj
   ·exact S
  have K:=aG hb3 hV;have hUV:=aG Q K;have N:=d.1.trans (hUV.mono d.1.size);have g1:=(hUV.block _ hl1).trans D;have g2:=(K.block _ hlc1).trans c1;have g3:=(K.block _ hlc2).trans c2;have hs:=K.size;have hs2:=N.size;obtain ⟨I,off,hao,ab,hcell⟩:∃b off,ao=some ⟨b,off,none⟩/\b<w.heap.size/\∀j (h:j<ps.length),w.cell? ⟨b,off+j*3,none⟩=some (Z G ps[j].1)/\w.cell? ⟨b,off+j*3+1,none⟩=some (Z G ps[j].2.1)/\w.cell? ⟨b,off+j*3+2,none⟩=some (Z G ps[j].2.2):=by
   rcases hc with h|h
   ·rw[h] at hpos;simp at hpos
   ·exact h
  subst hao;obtain ⟨q0,q1,q2⟩:=al g1;obtain ⟨r0,r1,r2⟩:=al g2;refine GD a HN (j % bg (x,y,z) a HN) (j / bg (x,y,z) a HN) aa T (x,y,z) (Nat.mod_lt _ hT) (Nat.div_lt_of_lt_mul (by rw[xs];exact hj)) ps HLEN.1 I off ca w.heap.size (MB+1) MB V oM oM oM oM q2 (kc g3 _) (kc g3 _) r0 r1 r2 (fun i hi=>?_);obtain ⟨e0,e1,e2⟩:=hcell i hi;rw[gH ps i hi] at e0 e1 e2;exact ⟨(N.cell (p:=⟨I,off+i*3,none⟩) ab).trans e0,(N.cell (p:=⟨I,off+i*3+1,none⟩) ab).trans e1,(N.cell (p:=⟨I,off+i*3+2,none⟩) ab).trans e2⟩
 ·rintro e V4 ⟨r,rfl,hr,hb4,L,hfe⟩;have HR:=qH hr;obtain ⟨P,O,rfl,x1,x2⟩:=hr;clear x1 x2;rw[yb,List.length_range] at HR L hfe |-;have hB4:=aG hVX hb4;have g:=(hB4.block _ hl2).trans F;obtain ⟨u,A,B⟩:=al g;obtain ⟨f0,f1,f2⟩:=fZ g;have hs3:=hVX.size;have HX:=qH (HR.1.set3 L (show w.heap.size+1<C.heap.size from oM) (Z G ((bg (x,y,z) a HN:Nat):Int)) (Z G ((bg (x,y,z) HN a:Nat):Int)) (J P (bg (x,y,z) HN a*bg (x,y,z) a HN) O));have HFE:=qH (hfe.set3 L (show w.heap.size+1<C.heap.size from oM) (Z G ((bg (x,y,z) a HN:Nat):Int)) (Z G ((bg (x,y,z) HN a:Nat):Int)) (J P (bg (x,y,z) HN a*bg (x,y,z) a HN) O));have q:=qH (bf (d.1.trans (hB4.mono d.1.size)) (show w.heap.size<=w.heap.size+1 from oM) (Z G ((bg (x,y,z) a HN:Nat):Int)) (Z G ((bg (x,y,z) HN a:Nat):Int)) (J P (bg (x,y,z) HN a*bg (x,y,z) a HN) O));have HFR:=qH (L.mono (show w.heap.size<=C.heap.size by have:=d.1.size;omega));go_wp2;refine bodyPost_ret (v:=.tuple #[.agg #[Z G ((bg (x,y,z) a HN:Nat):Int),Z G ((bg (x,y,z) HN a:Nat):Int),(J P (bg (x,y,z) HN a*bg (x,y,z) a HN) O)],Z G 0]) (by simp[results,results18,go_sem,u,A,B]) rfl ⟨_,?_,HX.1,q.1,HFR.1,HFE.1⟩;rw[lN,lN];rfl
theorem GF (W H:Int) (v:Value) (ps:List Px) (a:Int) (w:World) (g:iD w) (h:ax w v ps) :
  Calls prog 18 #[.agg #[Z G W,Z G H,v],Z G a] w fun e w'=>∃r,e=.returned (.tuple #[.agg #[Z G (aX (ee W H ps a) (cG (bt a) W H)),Z G (aX (ee W H ps a) (cG (bt a) H W)),r],Z G (ee W H ps a)])/\ax w' r (cO (ee W H ps a) (dc W.toNat H.toNat ps (bt a)))/\Below w.heap.size w w'/\ar w.heap.size r :=
 (GE W H v ps a w g h).mono fun _ _ ⟨r,b,c,d,f,_⟩=>⟨r,b,c,d,f⟩
def gk (first many a:Int):Bool:=decide (1<=many/\many<=a) && decide (0<=first/\first<=a-many)
theorem vh (first many a:Int) (j:0<=a) (k:a<=64) (w:World):Calls prog 109 #[Z G first,Z G many,Z G a] w (rT w (.bool (gk first many a))):=by
 have f:=qH (show az 1 a [many]=decide (1<=many/\many<=a) by simp[az]);have g:=qH (show az 0 (a-many) [first]=decide (0<=first/\first<=a-many) by simp[az]);by_cases d:1<=many/\many<=a
 ·have b:decide (1<=many/\many<=a)=true:=decide_eq_true d;have c:=qH (show gk first many a=decide (0<=first/\first<=a-many) by rw[gk,b];rfl);rw[c.1];obtain ⟨l,m⟩:=d;obtain ⟨B,i⟩:=eX (decide (0<=first/\first<=a-many));rw[i] at g |-;clear i c;go_enter func109,ntmps109;go_wp2_with fail
  refine (cF 1 a _ [many] _ (dA w many)).mono ?_;rintro e w1 ⟨rfl,rfl⟩;rw[f.1,b];go_wp2_with fail
  refine (cF 0 (a-many) _ [first] _ (rN w (ka #[Z G many] 3) first)).mono ?_;rintro e w1 ⟨rfl,rfl⟩;rw[g.1];go_wp2;go_ret;exact ⟨rfl,ea w _ _⟩
 ·have b:decide (1<=many/\many<=a)=false:=decide_eq_false d;have c:=qH (show gk first many a=false by rw[gk,b];rfl);rw[c.1];clear d;go_enter func109,ntmps109;go_wp2_with fail
  refine (cF 1 a _ [many] _ (dA w many)).mono ?_;rintro e w1 ⟨rfl,rfl⟩;rw[f.1,b];go_wp2;go_ret;exact ⟨rfl,aq w _⟩
theorem ud {w:World} {b:Nat} {x y:Value} {t:TypeId} {a:Nat×Nat} (h:w.heap[b]?=some (.cells #[x,y] t a)):w.cell? ⟨b,0,none⟩=some x/\w.cell? ⟨b,1,none⟩=some y:=by
 refine ⟨?_,?_⟩<;>(rw[kc h];rfl)
theorem kZ {w:World} {b:Nat} {x y z u:Value} {t:TypeId} {a:Nat×Nat} (h:w.heap[b]?=some (.cells #[x,y,z,u] t a)):w.cell? ⟨b,0,none⟩=some x/\w.cell? ⟨b,1,none⟩=some y/\w.cell? ⟨b,2,none⟩=some z/\w.cell? ⟨b,3,none⟩=some u:=by
 refine ⟨?_,?_,?_,?_⟩<;>(rw[kc h];rfl)
theorem Af (W H X Y i c:Nat) (hW:W<=64) (hH:H<=64) (hX:i+X<W) (hY:c+Y<H) (ps:List Px) (A:ps.length=H*W) (a off ca m d f:Nat) (V:World) (hBq:m<V.heap.size) (F:d<V.heap.size) (I:f<V.heap.size) (y:a<V.heap.size)
  (O:V.cell? ⟨m,2,none⟩=some (J (some ⟨a,off,none⟩) ps.length ca)) (o0:V.cell? ⟨d,0,none⟩=some (Z G W)) (o1:V.cell? ⟨d,1,none⟩=some (Z G H))
  (Q:V.cell? ⟨f,0,none⟩=some (Z G i)) (R:V.cell? ⟨f,1,none⟩=some (Z G c))
  (M:∀j,j<ps.length->V.cell? ⟨a,off+j*3,none⟩=some (Z G (aB ps j).1)/\V.cell? ⟨a,off+j*3+1,none⟩=some (Z G (aB ps j).2.1)/\V.cell? ⟨a,off+j*3+2,none⟩=some (Z G (aB ps j).2.2)) :
  Calls prog 110 #[.agg #[Z G (X:Nat),Z G (Y:Nat)],.pointer (some ⟨m,0,none⟩),.pointer (some ⟨d,0,none⟩),.pointer (some ⟨f,0,none⟩)] V fun e V'=>e=.returned (dj (aB ps ((c+Y)*W+(i+X))))/\Below V.heap.size V V':=by
 obtain ⟨k,z⟩:=eX ((c+Y)*W+(i+X));have hkl:k<ps.length:=by
  have h1:=xa W (show c+Y+1<=H from oM);rw[Nat.add_mul,Nat.one_mul] at h1;rw[A];omega
 have hl4:ps.length<=4096:=by rw[A];exact ko (zo hH hW) dD
 have B:=qH (fun (u:World)=>iP W H (i+X) (c+Y) W k rfl z oM u);rw[z];obtain ⟨C,D,E⟩:=M k hkl;have hkI:(k:Int)<(ps.length:Int):=oM;obtain ⟨s,K⟩:=eX (i+X);obtain ⟨t,L⟩:=eX (c+Y);have w1:(i:Int)+(X:Int)=(s:Int):=oM;have w2:(c:Int)+(Y:Int)=(t:Int):=oM;have w3:IntKind.i64.wrap (s:Int)=(s:Int):=km _ oM;have w4:IntKind.i64.wrap (t:Int)=(t:Int):=km _ oM;rw[K,L] at B;generalize aB ps k=P at *;clear M z hX hY A K L;obtain ⟨S,T,q⟩:=gr V (ka #[Z G (X:Nat),Z G (Y:Nat)] 97) (ka #[Z G 0,Z G 0,Z G 0] 61);go_enter func110,ntmps110;go_upto_region 1 with fail
 have hl1:=lS S;have hl2:=lS T;generalize (V.alloc _).alloc _=U at *;have r:=qH (show ∀v,Below U.heap.size U v->v.cell? ⟨m,2,none⟩=some (J (some ⟨a,off,none⟩) ps.length ca)/\v.cell? ⟨d,0,none⟩=some (Z G W)/\v.cell? ⟨d,1,none⟩=some (Z G H)/\v.cell? ⟨f,0,none⟩=some (Z G i)/\v.cell? ⟨f,1,none⟩=some (Z G c)/\v.cell? ⟨a,off+k*3,none⟩=some (Z G P.1)/\v.cell? ⟨a,off+k*3+1,none⟩=some (Z G P.2.1)/\v.cell? ⟨a,off+k*3+2,none⟩=some (Z G P.2.2)/\v.cell? ⟨V.heap.size,0,none⟩=some (Z G (X:Nat))/\v.cell? ⟨V.heap.size,1,none⟩=some (Z G (Y:Nat)) from fun v h=>by
  have l:=q.1.trans (h.mono q.1.size);have N:=(h.block _ hl1).trans S;exact ⟨(l.cell (p:=⟨m,2,none⟩) hBq).trans O,(l.cell (p:=⟨d,0,none⟩) F).trans o0,(l.cell (p:=⟨d,1,none⟩) F).trans o1,(l.cell (p:=⟨f,0,none⟩) I).trans Q,(l.cell (p:=⟨f,1,none⟩) I).trans R,(l.cell (p:=⟨a,off+k*3,none⟩) y).trans C,(l.cell (p:=⟨a,off+k*3+1,none⟩) y).trans D,(l.cell (p:=⟨a,off+k*3+2,none⟩) y).trans E,kc N _,kc N _⟩)
 have x:Below U.heap.size U U.drew:=(Below.refl _ _).drew;have hSd:=r.1 _ x;clear O o0 o1 Q R C D E;refine cE 17 r.1 ?_;refine ak 0 ?_;refine ak 2 ?_;refine ak 3 ?_;refine ak 5 ?_;refine ak 8 ?_;refine ak 10 ?_;refine ak 1 ?_;refine ak 4 ?_;refine ak 6 ?_;refine ak 9 ?_;refine ak 11 ?_;refine ak 7 ?_;refine ak 12 ?_;refine ak 13 ?_;refine aw 14 fun K' n=>?_;go_simp;refine (B.1 _).mono ?_;rintro e V2 ⟨rfl,hbvV2⟩;have w:Below U.heap.size U V2:=x.trans (hbvV2.mono x.size);have hSd:=r.1 _ w;refine n.out _ _ hSd ?_;clear n;try simp only[kd]
 refine ak 15 ?_;refine ak 16 ?_;refine mC (o:=_) kR rfl (fun K' n=>?_);have g:=(w.block _ hl2).trans T;obtain ⟨z0,z1,z2⟩:=al (b:=V.heap.size+1) g;have f0:=kb (b:=V.heap.size+1) g 0;have f1:=kb (b:=V.heap.size+1) g 1;have f2:=kb (b:=V.heap.size+1) g 2;rw[if_pos rR];go_simp;refine n.out _ _ ?_;clear n;refine mA kR ?_ _;try simp only[kd]
 clear hSd;have HF:=qH (bf (q.1.trans (w.mono q.1.size)) (show V.heap.size<=V.heap.size+1 from oM) (Z G P.1) (Z G P.2.1) (Z G P.2.2));go_wp2;exact bodyPost_ret (v:=.agg #[Z G P.1,Z G P.2.1,Z G P.2.2]) (by simp[results,results110,go_sem,z0,z1,z2]) rfl ⟨rfl,HF.1⟩
def eB (W H:Int) (ps:List Px) (b c rw a:Int):Int:=if aZ W H ps=true then (if (gk b rw W && gk c a H)=true then 0 else 3) else 1
def rf (ps:List Px) (W b c a j:Nat):Px:=aB ps ((c+j / a)*W+(b+j % a))
def gv (W:Nat) (ps:List Px) (c d a b:Nat):List Px:=(zc (b*a)).map (rf ps W c d a)
theorem Am (W H:Int) (v:Value) (ps:List Px) (k l rw f:Int) (w:World) (hv:ax w v ps) :
  Calls prog 49 #[.agg #[Z G W,Z G H,v],.agg #[Z G k,Z G l,Z G rw,Z G f]] w fun e w'=>∃r,e=.returned (.tuple #[.agg #[Z G (aX (eB W H ps k l rw f) rw),Z G (aX (eB W H ps k l rw f) f),r],Z G (eB W H ps k l rw f)])/\ax w' r (cO (eB W H ps k l rw f) (gv W.toNat ps k.toNat l.toNat rw.toNat f.toNat))/\Below w.heap.size w w'/\ar w.heap.size r:=by
 have HV:=qH hv;obtain ⟨ao,ca,rfl,hla,hc⟩:=hv;obtain ⟨K,O,P,n⟩:=ji w (ka #[Z G W,Z G H,J ao ps.length ca] 24) (ka #[Z G k,Z G l,Z G rw,Z G f] 38) (ka #[Z G 0,Z G 0,J none 0 0] 24);have u:=qH (show eB W H ps k l rw f=if aZ W H ps=true then (if (gk k rw W && gk l f H)=true then 0 else 3) else 1 from rfl);obtain ⟨E,L⟩:=eX (eB W H ps k l rw f);rw[L] at u |-;clear L;have aa:=lS K;have ab:=lS O;have ac:=lS P;have ERR:∀(V:World) (E:Int),E≠0->Below w.heap.size w V->∃r,(Ending.returned (.tuple #[.agg #[Z G 0,Z G 0,J none 0 0],Z G E])=.returned (.tuple #[.agg #[Z G (aX E rw),Z G (aX E f),r],Z G E]))/\ax V r (cO E (gv W.toNat ps k.toNat l.toNat rw.toNat f.toNat))/\Below w.heap.size w V/\ar w.heap.size r:=fun V E L hB=>by
  refine ⟨J none 0 0,?_,?_,hB,ar.nil _⟩
  ·rw[aX,if_neg L,aX,if_neg L]
  ·rw[cO,if_neg L];exact ax.nil _
 have T:=qH ERR;clear ERR;go_enter func49,ntmps49;obtain ⟨A,B,Q⟩:=al K;go_wp2_with fail
 clear A B Q;generalize ((w.alloc _).alloc _).alloc _=U at *;refine (nc W H _ ps _ (HV.1.below n.1 (kf _))).mono ?_;rintro e V1 ⟨rfl,M⟩;have HB1:=qH (n.1.trans (M.mono n.1.size));by_cases N:aZ W H ps=true
 case neg =>
  rw[if_neg N] at u;have hp2:aZ W H ps=false:=by simpa using N
  obtain rfl:E=1:=u.1;rw[hp2];have g:=(M.block _ ac).trans P;obtain ⟨D,F,I⟩:=al (b:=w.heap.size+1+1) g;have f0:=kb (b:=w.heap.size+1+1) g 0;have f1:=kb (b:=w.heap.size+1+1) g 1;have f2:=kb (b:=w.heap.size+1+1) g 2;have x:=qH (bf (n.1.trans (M.mono n.1.size)) (show w.heap.size<=w.heap.size+1+1 from oM) (Z G 0) (Z G 0) (J none 0 0));go_wp2;exact bodyPost_ret (v:=.tuple #[.agg #[Z G 0,Z G 0,J none 0 0],Z G 1]) (by simp[results,results49,go_sem,D,F,I]) rfl (T.1 _ 1 dD x.1)
 rw[if_pos N] at u;rw[N];obtain ⟨hg1,hg2,hg3,hg4⟩:=fC N;obtain ⟨A,B,Q⟩:=al ((M.block _ aa).trans K);obtain ⟨q0,q1,C,R⟩:=kZ (b:=w.heap.size+1) ((M.block _ ab).trans O);go_wp2_with fail
 clear A B Q q0 q1 C R;refine (vh k rw W oM oM V1).mono ?_;rintro e V2 ⟨rfl,z⟩;replace z:=aG M z;cases hL1:gk k rw W
 case false =>
  obtain rfl:E=3:=by rw[u.1,hL1];rfl
  have g:=(z.block _ ac).trans P;obtain ⟨D,F,I⟩:=al (b:=w.heap.size+1+1) g;have f0:=kb (b:=w.heap.size+1+1) g 0;have f1:=kb (b:=w.heap.size+1+1) g 1;have f2:=kb (b:=w.heap.size+1+1) g 2;have x:=qH (bf (n.1.trans (z.mono n.1.size)) (show w.heap.size<=w.heap.size+1+1 from oM) (Z G 0) (Z G 0) (J none 0 0));go_wp2;exact bodyPost_ret (v:=.tuple #[.agg #[Z G 0,Z G 0,J none 0 0],Z G 3]) (by simp[results,results49,go_sem,D,F,I]) rfl (T.1 _ 3 dD x.1)
 obtain ⟨A,B,Q⟩:=al ((z.block _ aa).trans K);obtain ⟨q0,q1,C,R⟩:=kZ (b:=w.heap.size+1) ((z.block _ ab).trans O);go_wp2_with fail
 clear A B Q q0 q1 C R;refine (vh l f H oM oM V2).mono ?_;rintro e d ⟨rfl,o⟩;replace o:=aG z o;cases hL2:gk l f H
 case false =>
  obtain rfl:E=3:=by rw[u.1,hL1,hL2];rfl
  have g:=(o.block _ ac).trans P;obtain ⟨D,F,I⟩:=al (b:=w.heap.size+1+1) g;have f0:=kb (b:=w.heap.size+1+1) g 0;have f1:=kb (b:=w.heap.size+1+1) g 1;have f2:=kb (b:=w.heap.size+1+1) g 2;have x:=qH (bf (n.1.trans (o.mono n.1.size)) (show w.heap.size<=w.heap.size+1+1 from oM) (Z G 0) (Z G 0) (J none 0 0));go_wp2;exact bodyPost_ret (v:=.tuple #[.agg #[Z G 0,Z G 0,J none 0 0],Z G 3]) (by simp[results,results49,go_sem,D,F,I]) rfl (T.1 _ 3 dD x.1)
 obtain rfl:E=0:=by rw[u.1,hL1,hL2];rfl
 have hr1:(1<=rw/\rw<=W)/\(0<=k/\k<=W-rw):=by simpa [gk] using hL1
 have hr2:(1<=f/\f<=H)/\(0<=l/\l<=H-f):=by simpa [gk] using hL2
 obtain ⟨s,rfl⟩:=kh (show 0<=W from oM);obtain ⟨HN,rfl⟩:=kh (show 0<=H from oM);obtain ⟨RX,rfl⟩:=kh (show 0<=k from oM);obtain ⟨RY,rfl⟩:=kh (show 0<=l from oM);obtain ⟨c,rfl⟩:=kh (show 0<=rw from oM);obtain ⟨m,rfl⟩:=kh (show 0<=f from oM);have hlen:ps.length=HN*s:=by rw[xs];exact_mod_cast hg3
 have hpos:1<=ps.length:=by rw[hlen];exact zo (show 1<=HN from oM) (show 1<=s from oM)
 have HLEN:=qH hlen;have HIN:=qH (show (RX+c<=s/\RY+m<=HN)/\1<=c/\(s<=64/\HN<=64)/\(c<=64/\m<=64) from oM);clear hg1 hg2 hg3 hg4 hlen T u N hr1 hr2 hL1 hL2;go_upto_region 5 with fail
 have t:=qH (show ∀v,Below U.heap.size U v->v.cell? ⟨w.heap.size,0,none⟩=some (Z G (s:Nat))/\v.cell? ⟨w.heap.size,1,none⟩=some (Z G (HN:Nat))/\v.cell? ⟨w.heap.size+1,2,none⟩=some (Z G (c:Nat))/\v.cell? ⟨w.heap.size+1,3,none⟩=some (Z G (m:Nat)) from fun v h=>by
  obtain ⟨A,B,_⟩:=al ((h.block _ aa).trans K);obtain ⟨_,_,C,R⟩:=kZ (b:=w.heap.size+1) ((h.block _ ab).trans O);exact ⟨A,B,C,R⟩)
 go_cut [6,7] from 8 (fun p q v=>∃S B7,p=.pointer (some ⟨S,0,none⟩)/\q=.pointer (some ⟨B7,0,none⟩)/\v.heap[S]?=some (.cells #[Z G (s:Nat),Z G (HN:Nat)] 95 (0,0))/\v.heap[B7]?=some (.cells #[Z G (c:Nat),Z G (m:Nat)] 95 (0,0))/\Below U.heap.size U v)
 case first =>
  have hWd:Below U.heap.size U d.drew:=o.drew;have hSd:=t.1 _ hWd;refine cE 13 t.1 ?_;refine ak 0 ?_;refine ak 2 ?_;refine ak 5 ?_;refine ak 7 ?_;refine ak 1 ?_;refine ak 3 ?_;refine ak 6 ?_;refine ak 8 ?_;refine ak 4 ?_;refine ak 9 ?_;refine jJ (i:=10) (j:=11) (oi:=_) (oj:=_) kR rfl rfl (fun y a=>?brA) (fun y a=>?brB)
  case brA =>
   rw[if_pos rR];go_simp;have hBm:Below U.heap.size U (d.alloc (ka #[Z G 0,Z G 0] 95)).drew:=(aG o (aq d _)).drew;have hSd:=t.1 _ hBm;refine a.out _ _ hSd ?_;clear a;(try simp only[kd]);refine aw 11 fun y a=>?_;go_simp;have hBn:Below U.heap.size U ((d.alloc (ka #[Z G 0,Z G 0] 95)).alloc (ka #[Z G 0,Z G 0] 95)).drew:=(aG o (ea d _ _)).drew;have hSd:=t.1 _ hBn;refine a.out _ _ hSd ?_;clear a;(try simp only[kd]);refine aw 12 fun y a=>?_;go_simp;have hBo:Below U.heap.size U ((d.alloc (ka #[Z G (s:Nat),Z G (HN:Nat)] 95)).alloc (ka #[Z G 0,Z G 0] 95)).drew:=(aG o (ea d _ _)).drew;have hSd:=t.1 _ hBo;refine a.out _ _ hSd ?_;clear a;(try simp only[kd]);obtain ⟨v1,v2⟩:=df d (ka #[Z G (s:Nat),Z G (HN:Nat)] 95) (ka #[Z G (c:Nat),Z G (m:Nat)] 95);refine aS fun y a=>?_;go_simp;refine a.out _ _ ?_;clear a;(try simp only[kd]);clear hSd;go_wp2;go_meet
   case rel=>exact ⟨d.heap.size,d.heap.size+1,rfl,rfl,v1,v2,(aG o (ea d _ _)).drew⟩
  case brB =>
   rw[if_pos rR];go_simp;have hBm:Below U.heap.size U (d.alloc (ka #[Z G 0,Z G 0] 95)).drew:=(aG o (aq d _)).drew;have hSd:=t.1 _ hBm;refine a.out _ _ hSd ?_;clear a;(try simp only[kd]);refine aw 10 fun y a=>?_;go_simp;have hBn:Below U.heap.size U ((d.alloc (ka #[Z G 0,Z G 0] 95)).alloc (ka #[Z G 0,Z G 0] 95)).drew:=(aG o (ea d _ _)).drew;have hSd:=t.1 _ hBn;refine a.out _ _ hSd ?_;clear a;(try simp only[kd]);refine aw 12 fun y a=>?_;go_simp;have hBo:Below U.heap.size U ((d.alloc (ka #[Z G 0,Z G 0] 95)).alloc (ka #[Z G (s:Nat),Z G (HN:Nat)] 95)).drew:=(aG o (ea d _ _)).drew;have hSd:=t.1 _ hBo;refine a.out _ _ hSd ?_;clear a;(try simp only[kd]);obtain ⟨v1,v2⟩:=df d (ka #[Z G (c:Nat),Z G (m:Nat)] 95) (ka #[Z G (s:Nat),Z G (HN:Nat)] 95);refine aS fun y a=>?_;go_simp;refine a.out _ _ ?_;clear a;(try simp only[kd]);clear hSd;go_wp2;go_meet
   case rel=>exact ⟨d.heap.size+1,d.heap.size,rfl,rfl,v2,v1,(aG o (ea d _ _)).drew⟩
 case rest =>
  obtain ⟨S,B7,rfl,rfl,c6,c7,vB⟩:=hcut;have l6:=lS c6;have l7:=lS c7;obtain ⟨g0,g1⟩:=ud c7;go_wp2_with fail
  clear g0 g1;obtain ⟨⟨hi1,hi2⟩,hi3,⟨hi4,hi5⟩,hi6,hi7⟩:=HIN.1;refine (pm c m (m*c) hi6 hi7 rfl 110 _ (rf ps s RX RY c) wc (enters_of func110 kR rfl) ?_).mono ?_
  ·intro j V hj hV;have hj1:j % c<c:=Nat.mod_lt _ oM;have hj2:j / c<m:=Nat.div_lt_of_lt_mul (by rw[xs];exact hj);have Y:=aG vB hV;have ad:=n.1.trans (Y.mono n.1.size);have gA:=(Y.block _ aa).trans K;have gR:=(Y.block _ ab).trans O;have gO:=(hV.block _ l6).trans c6;have hs:=hV.size;have hs2:=ad.size;have hs3:=Y.size;obtain ⟨X,off,hao,hbl,hcell⟩:∃b off,ao=some ⟨b,off,none⟩/\b<w.heap.size/\∀j (h:j<ps.length),w.cell? ⟨b,off+j*3,none⟩=some (Z G ps[j].1)/\w.cell? ⟨b,off+j*3+1,none⟩=some (Z G ps[j].2.1)/\w.cell? ⟨b,off+j*3+2,none⟩=some (Z G ps[j].2.2):=by
    rcases hc with h|h
    ·rw[h] at hpos;simp at hpos
    ·exact h
   subst hao;obtain ⟨q0,q1,C⟩:=al gA;obtain ⟨r0,r1,_,_⟩:=kZ (b:=w.heap.size+1) gR;obtain ⟨s0,s1⟩:=ud gO;refine Af s HN (j % c) (j / c) RX RY hi4 hi5 oM oM ps HLEN.1 X off ca w.heap.size S (w.heap.size+1) V oM oM oM oM C s0 s1 r0 r1 (fun i hi=>?_);obtain ⟨e0,e1,e2⟩:=hcell i hi;rw[gH ps i hi] at e0 e1 e2;exact ⟨(ad.cell (p:=⟨X,off+i*3,none⟩) hbl).trans e0,(ad.cell (p:=⟨X,off+i*3+1,none⟩) hbl).trans e1,(ad.cell (p:=⟨X,off+i*3+2,none⟩) hbl).trans e2⟩
  ·rintro e V4 ⟨r,rfl,hr,hb4,hfr⟩;have HR:=qH hr;obtain ⟨ro,rc,rfl,x1,x2⟩:=hr;clear x1 x2;rw[yb,List.length_range] at HR hfr |-;have hB4:=aG vB hb4;have g:=(hB4.block _ ac).trans P;obtain ⟨D,F,I⟩:=al (b:=w.heap.size+1+1) g;have f0:=kb (b:=w.heap.size+1+1) g 0;have f1:=kb (b:=w.heap.size+1+1) g 1;have f2:=kb (b:=w.heap.size+1+1) g 2;have hs3:=vB.size;have HX:=qH (HR.1.set3 hfr (show w.heap.size+1+1<wc.heap.size from oM) (Z G (c:Nat)) (Z G (m:Nat)) (J ro (m*c) rc));have x:=qH (bf (n.1.trans (hB4.mono n.1.size)) (show w.heap.size<=w.heap.size+1+1 from oM) (Z G (c:Nat)) (Z G (m:Nat)) (J ro (m*c) rc));have HFR:=qH (hfr.mono (show w.heap.size<=wc.heap.size by have:=n.1.size;omega));go_wp2;exact bodyPost_ret (v:=.tuple #[.agg #[Z G (c:Nat),Z G (m:Nat),J ro (m*c) rc],Z G 0]) (by simp[results,results49,go_sem,D,F,I]) rfl ⟨_,rfl,HX.1,x.1,HFR.1⟩
theorem GG {X Y W:Nat} (h:X<W):(Y*W+X) % W=X/\(Y*W+X) / W=Y:=by
 refine ⟨by rw[Nat.add_comm,Nat.add_mul_mod_self_right,Nat.mod_eq_of_lt h],?_⟩;rw[Nat.add_comm,Nat.add_mul_div_right _ _ oM,Nat.div_eq_of_lt h,Nat.zero_add]
def oN (w:World) (W H d c:Nat) (e:Value) (L:List Px) (k:Nat) (wr:World):Prop :=
 ∃b a,wr.heap[w.heap.size+2]?=some (.cells #[Z G d,Z G c,J b k a] 24 (0,0))/\wr.ownsRow w.heap.size 61 3 (J b k a) k ((L.take k).flatMap aR)/\wr.heap[w.heap.size]?=some (.cells #[Z G W,Z G H,e] 24 (0,0))/\wr.heap[w.heap.size+1]?=some (.cells #[Z G 0,Z G 0,J none 0 0] 24 (0,0))/\Below w.heap.size w wr
theorem E0 (W H:Nat) (hW:W<=64) (hH:H<=64) (v:Value) (ps:List Px) (hlen:ps.length=H*W) (f:Nat) (hkk:f<8) (w:World) (hv:ax w v ps) :
  Calls prog 54 #[.agg #[Z G W,Z G H,v],Z G ((f:Int)+1)] w fun e w'=>∃r,e=.returned (.agg #[Z G (bg (bZ f) W H:Nat),Z G (bg (bZ f) H W:Nat),r])/\ax w' r (dc W H ps (bZ f))/\Below w.heap.size w w'/\ar w.heap.size r:=by
 have HV:=qH hv;have HLEN:=qH hlen;have hlb:ps.length<=4096:=by rw[hlen];exact ko (zo hH hW) dD
 have hNN:bg (bZ f) H W*bg (bZ f) W H=ps.length:=by
  rw[hlen];unfold bg;split
  ·rw[xs]
  ·rfl
 have HSRC:=qH (fun X Y hX hY=>sT (bZ f) W H X Y hX hY);have HTW:=qH (show bg (bZ f) W H=if (bZ f).1=true then H else W from rfl);have HTH:=qH (show bg (bZ f) H W=if (bZ f).1=true then W else H from rfl);have hT1:bg (bZ f) W H<=64:=by unfold bg;split<;>assumption
 have hT2:bg (bZ f) H W<=64:=by unfold bg;split<;>assumption
 have hLd:dc W H ps (bZ f)=(zc ps.length).map (nw ps W H (bZ f)):=by rw[dc,hNN]
 have HLG:=qH (show ∀j,j<ps.length->(dc W H ps (bZ f))[j]?=some (nw ps W H (bZ f) j) from fun j hj=>by rw[hLd];simp[hj]);have hLL:(dc W H ps (bZ f)).length=ps.length:=by rw[hLd];simp
 have HTP:=qH (show ∀j,nw ps W H (bZ f) j=aB ps (mv (bZ f) W H (j % bg (bZ f) W H) (j / bg (bZ f) W H)) from fun j=>rfl);generalize dc W H ps (bZ f)=L at *;generalize nw ps W H (bZ f)=TP at *;obtain ⟨d,hTW⟩:=eX (bg (bZ f) W H);obtain ⟨l,hTH⟩:=eX (bg (bZ f) H W);rw[hTW] at HTW HTP HSRC hT1 hNN |-;rw[hTH] at HTH HSRC hT2 hNN |-;have HNN:=qH hNN;have HLL:=qH hLL;clear hTW hTH hLd hLL hNN hlen;obtain ⟨ao,ca,rfl,hla,hc⟩:=hv;obtain ⟨i0,hi,hz0,hz1,hz2⟩:=info_parts Tryz.infoPixel;obtain ⟨a,hhow⟩:=eX ((f:Int)+1);rw[hhow];have HK8:=qH (show ∃j:Nat,j<8/\a=(j:Int)+1/\bZ f=bZ j from ⟨f,hkk,hhow.symm,rfl⟩);generalize bZ f=m at *;clear hhow hkk;go_enter func54,ntmps54;go_upto_if 16 with fail
 obtain ⟨a1,a2,a3,F⟩:=ku w (ka #[Z G W,Z G H,J ao ps.length ca] 24) (ka #[Z G 0,Z G 0,J none 0 0] 24) (ka #[Z G W,Z G H,J none 0 0] 24);generalize ((w.alloc _).alloc _).alloc _=U at *;go_cut [5] from 10 to 22 (fun s v=>s=.pointer (some ⟨w.heap.size+2,0,none⟩)/\v.heap[w.heap.size+2]?=some (.cells #[Z G d,Z G l,J none 0 0] 24 (0,0))/\v.heap[w.heap.size]?=some (.cells #[Z G W,Z G H,J ao ps.length ca] 24 (0,0))/\v.heap[w.heap.size+1]?=some (.cells #[Z G 0,Z G 0,J none 0 0] 24 (0,0))/\Below w.heap.size w v)
 case first =>
  obtain ⟨j,hj,hw,hmj⟩:=HK8.1;by_cases h5:5<=a
  ·have hd:decide ((5:Int)<=a)=true:=decide_eq_true h5;have E:m.1=true:=by
    rw[hmj];have:j=4\/j=5\/j=6\/j=7:=oM;rcases this with rfl|rfl|rfl|rfl<;>rfl
   clear hw hmj hj;obtain rfl:d=H:=(by rw[HTW.1,if_pos E]);obtain rfl:l=W:=(by rw[HTH.1,if_pos E]);(go_upto_region 3 with fail);have g2:U.heap[w.heap.size+2]?=some (.cells #[Z G l,Z G d,J none 0 0] 24 (0,0)):=a3;obtain ⟨q0,q1,_⟩:=al a1;obtain ⟨z0,z1,z2⟩:=al (b:=w.heap.size+1+1) g2;have f0:=kb (b:=w.heap.size+1+1) g2 0;have f1:=kb (b:=w.heap.size+1+1) g2 1;have T:=heap_setCell_same U (w.heap.size+1+1) 0 _ _ (Z G d) g2;have e2:=heap_setCell_same (U.setCell ⟨w.heap.size+1+1,0,none⟩ (Z G d)) (w.heap.size+1+1) 1 _ _ (Z G l) T;have z1':=(show (U.setCell ⟨w.heap.size+1+1,0,none⟩ (Z G d)).cell? ⟨w.heap.size+1+1,1,none⟩=some (Z G d) by rw[kc T];rfl);have hk:∀b,b≠w.heap.size+1+1->((U.setCell ⟨w.heap.size+1+1,0,none⟩ (Z G d)).setCell ⟨w.heap.size+1+1,1,none⟩ (Z G l)).heap[b]?=U.heap[b]?:=fun b hb=>(heap_setCell_other _ ⟨w.heap.size+1+1,1,none⟩ b _ (fun e=>hb e)).trans (heap_setCell_other _ ⟨w.heap.size+1+1,0,none⟩ b _ (fun e=>hb e));have hBf:Below w.heap.size w ((U.setCell ⟨w.heap.size+1+1,0,none⟩ (Z G d)).setCell ⟨w.heap.size+1+1,1,none⟩ (Z G l)):=F.trans ⟨rfl,rfl,rfl,by simp[World.setCell],fun b hb=>hk b oM⟩;have hSd:(fun v:World=>v.cell? ⟨w.heap.size,0,none⟩=some (Z G l)/\v.cell? ⟨w.heap.size,1,none⟩=some (Z G d)) U.drew:=⟨q0,q1⟩;refine dR (S:=fun v:World=>v.cell? ⟨w.heap.size,0,none⟩=some (Z G l)/\v.cell? ⟨w.heap.size,1,none⟩=some (Z G d)) 7 ?_;refine ak 0 ?_;refine ak 2 ?_;refine ak 1 ?_;refine ak 3 ?_;refine ak 4 ?_;refine aw 5 fun K' x=>?_;go_simp;have hSd:=(⟨(World.cell?_setCell_far _ ⟨w.heap.size+1+1,0,none⟩ ⟨w.heap.size,0,none⟩ _ (show w.heap.size+1+1≠w.heap.size from oM)).trans q0,(World.cell?_setCell_far _ ⟨w.heap.size+1+1,0,none⟩ ⟨w.heap.size,1,none⟩ _ (show w.heap.size+1+1≠w.heap.size from oM)).trans q1⟩:(fun v:World=>v.cell? ⟨w.heap.size,0,none⟩=some (Z G l)/\v.cell? ⟨w.heap.size,1,none⟩=some (Z G d)) (U.setCell ⟨w.heap.size+1+1,0,none⟩ (Z G d)).drew);refine x.out _ _ hSd ?_;clear x;(try simp only[kd]);refine ak 6 ?_;refine aS fun K' x=>?_;go_simp;refine x.out _ _ ?_;clear x;(try simp only[kd]);clear hSd;go_wp2;go_meet
   case rel=>exact ⟨rfl,e2,(hk _ oM).trans a1,(hk _ oM).trans a2,hBf.drew⟩
  ·have hd:decide ((5:Int)<=a)=false:=decide_eq_false h5;have E:¬m.1=true:=by
    rw[hmj];have:j=0\/j=1\/j=2\/j=3:=oM;rcases this with rfl|rfl|rfl|rfl<;>decide
   clear hw hmj hj;obtain rfl:d=W:=(by rw[HTW.1,if_neg E]);obtain rfl:l=H:=(by rw[HTH.1,if_neg E]);go_wp2;go_meet
   case rel=>exact ⟨rfl,a3,a1,a2,F⟩
 case rest =>
  obtain ⟨rfl,b3,b1,b2,V⟩:=hcut;clear a1 a2 a3 F;go_wp2_with fail
  go_loopw [6] (fun i wr=>∃Y:Nat,Y<=l/\i=Z G Y/\oN w W H d l (J ao ps.length ca) L (Y*d) wr) (fun i _=>l-(intOf i).toNat)
  case atStart=>exact ⟨0,kv _,rfl,none,0,by rw[Nat.zero_mul];exact b3,by rw[Nat.zero_mul];exact World.ownsRow_nil _ _ _ _,b1,b2,V⟩
  case round =>
   clear b1 b2 b3 V;obtain ⟨Y,hY,rfl,hJ⟩:=hrel;have HJ:=qH hJ;obtain ⟨C,B,A,t,K,N,O⟩:=hJ;obtain ⟨q0,q1,q2⟩:=al (b:=w.heap.size+1+1) A;by_cases hlt:Y<l
   ·have hd:decide ((Y:Int)<(l:Int))=true:=decide_eq_true oM;obtain ⟨M,hM⟩:∃M,M=Y*d:=⟨_,rfl⟩;rw[<-hM] at HJ A t;have hMM:M+d<=ps.length:=(by rw[<-HNN.1,hM,<-xe];exact xa _ hlt);have HM:=qH hM;clear hM;(go_wp2_with fail);go_loopw [7] (fun i wr=>∃X:Nat,X<=d/\i=Z G X/\oN w W H d l (J ao ps.length ca) L (M+X) wr) (fun i _=>d-(intOf i).toNat)
    case atStart=>exact ⟨0,kv _,rfl,HJ.1⟩
    case round =>
     clear A t K N O q0 q1 q2 HJ hd;obtain ⟨X,hX,rfl,hJ⟩:=hrel;obtain ⟨C,B,A,t,K,N,O⟩:=hJ;obtain ⟨t0,t1,t2⟩:=al (b:=w.heap.size+1+1) A;by_cases hlx:X<d
     ·have hdx:decide ((X:Int)<(d:Int))=true:=decide_eq_true oM;obtain ⟨⟨s1,s2⟩,s3,s4⟩:=HSRC.1 X Y hlx hlt;obtain ⟨k,hkd⟩:=eX (M+X);rw[hkd] at A t;have hk:k<ps.length:=oM;have HK:=qH hkd;have hkY:Y*d+X=k:=(by rw[<-HM.1];exact hkd);obtain ⟨hpm,hpd⟩:(Y*d+X) % d=X/\(Y*d+X) / d=Y:=GG hlx;rw[hkY] at hpm hpd;have HT:=qH (HTP.1 k);rw[hpm,hpd] at HT;have hsn:mv m W H X Y=(mx m H X Y).toNat*W+(mw m W X Y).toNat:=rfl;obtain ⟨SX,hSX⟩:=kh s1;obtain ⟨SY,hSY⟩:=kh s3;have HSX:=qH hSX;have HSY:=qH hSY;rw[hSX,hSY] at hsn;simp only[kG] at hsn;rw[hSX] at s2;rw[hSY] at s4;obtain ⟨D,I⟩:=eX (mv m W H X Y);rw[I] at hsn HT;have hDl:D<ps.length:=by
       have h1:=xa W (show SY+1<=H from oM);rw[Nat.add_mul,Nat.one_mul] at h1;rw[HLEN.1];omega
      have hw64:X<=64/\Y<=64:=oM;clear hSX hSY s1 s3 I;obtain ⟨q0,q1,q2⟩:=al K;have HSW:=qH (show ∀j:Nat,j<8->a=(j:Int)+1->m=bZ j->(decide ((5:Int)<=a)=m.1)/\((a == 2 || a == 3 || a == 7 || a == 8)=m.2.1)/\((a == 3 || a == 4 || a == 6 || a == 7)=m.2.2) from fun j hj hw hmj=>by
       subst hw;rw[hmj];have h8:j=0\/j=1\/j=2\/j=3\/j=4\/j=5\/j=6\/j=7:=oM;rcases h8 with rfl|rfl|rfl|rfl|rfl|rfl|rfl|rfl<;>decide)
      have HSXD:=qH (show SX=if m.2.1=true then (W:Int)-1-(if m.1=true then (Y:Int) else X) else if m.1=true then (Y:Int) else X from by rw[<-HSX.1];rfl);have HSYD:=qH (show SY=if m.2.2=true then (H:Int)-1-(if m.1=true then (X:Int) else Y) else if m.1=true then (X:Int) else Y from by rw[<-HSY.1];rfl);obtain ⟨PX,hPX⟩:=eX ((if m.1=true then Y else X));obtain ⟨PY,hPY⟩:=eX ((if m.1=true then X else Y));have hP1:(if m.1=true then (Y:Int) else X)=(PX:Int):=(by rw[<-hPX];split<;>rfl);have hP2:(if m.1=true then (X:Int) else Y)=(PY:Int):=(by rw[<-hPY];split<;>rfl);have hPl:PX<=64/\PY<=64:=(by rw[<-hPX,<-hPY];split<;>omega);rw[hP1] at HSXD;rw[hP2] at HSYD;have HP1:=qH hPX;have HP2:=qH hPY;clear hP1 hP2 hPX hPY;have HHW:=qH (show (decide ((5:Int)<=a)=m.1)/\((a == 2 || a == 3 || a == 7 || a == 8)=m.2.1)/\((a == 3 || a == 4 || a == 6 || a == 7)=m.2.2) from by
       obtain ⟨j,h1,h2,h3⟩:=HK8.1;exact HSW.1 j h1 h2 h3)
      clear HSW;obtain ⟨B1,hB1⟩:=eX m.2.1;obtain ⟨B2,V⟩:=eX m.2.2;rw[hB1] at HHW HSXD;rw[V] at HHW HSYD;have HB1:=qH HHW.1.2.1;have HB2:=qH HHW.1.2.2;clear hB1 V;(go_upto_if 38 with fail);go_cut [8,9] from 29 to 93 (fun p q R=>p=Z G (PX:Nat)/\q=Z G (PY:Nat)/\R=wr)
      case first =>
       have g:=HHW.1.1;cases E:m.1
       ·rw[E] at g;have h5:=of_decide_eq_false g;obtain rfl:X=PX:=(by rw[<-HP1.1,if_neg (by rw[E];decide)]);obtain rfl:Y=PY:=(by rw[<-HP2.1,if_neg (by rw[E];decide)]);go_wp2;go_meet
        case rel=>exact ⟨rfl,rfl,rfl⟩
       ·rw[E] at g;have h5:=of_decide_eq_true g;obtain rfl:Y=PX:=(by rw[<-HP1.1,if_pos E]);obtain rfl:X=PY:=(by rw[<-HP2.1,if_pos E]);go_wp2;go_meet
        case rel=>exact ⟨rfl,rfl,rfl⟩
      case rest =>
       obtain ⟨rfl,rfl,rfl⟩:=hcut;(go_upto_region 13 with fail);go_cut [54] from 29 to 93 (fun c R=>c=.bool B1/\R=wc)
       case first =>
        by_cases hA:a=2
        ·have g:=HB1.1;subst hA;go_wp2;go_meet;case rel=>exact ⟨congrArg Value.bool (by rw[<-g];rfl),rfl⟩
        ·have bA:(a == 2)=false:=(by simpa using hA);by_cases F:a=3
         ·have g:=HB1.1;subst F;go_wp2;go_meet;case rel=>exact ⟨congrArg Value.bool (by rw[<-g];rfl),rfl⟩
         ·have bB:(a == 3)=false:=(by simpa using F);by_cases hC:a=7
          ·have g:=HB1.1;subst hC;go_wp2;go_meet;case rel=>exact ⟨congrArg Value.bool (by rw[<-g];rfl),rfl⟩
          ·have bC:(a == 7)=false:=(by simpa using hC);by_cases I:a=8
           ·have g:=HB1.1;subst I;go_wp2;go_meet;case rel=>exact ⟨congrArg Value.bool (by rw[<-g];rfl),rfl⟩
           ·have bD:(a == 8)=false:=(by simpa using I);have g:=HB1.1;rw[bA,bB,bC,bD] at g;clear hA F hC I;go_wp2;go_meet;case rel=>exact ⟨congrArg Value.bool (by rw[<-g];rfl),rfl⟩
       case rest =>
        obtain ⟨rfl,rfl⟩:=hcut;(go_upto_if 54 with fail);go_cut [8] from 29 to 93 (fun p R=>p=Z G (SX:Nat)/\R=wc)
        case first =>
         cases hB1:B1
         ·rw[hB1] at HSXD;have z:=HSXD.1;rw[if_neg dD] at z;go_wp2;go_meet;case rel=>exact ⟨by rw[z],rfl⟩
         ·rw[hB1] at HSXD;have z:=HSXD.1;rw[if_pos rfl] at z;have HS1:=qH z;clear z;go_wp2;go_meet;case rel=>exact ⟨by rw[HS1.1],rfl⟩
        case rest =>
         obtain ⟨rfl,rfl⟩:=hcut;(go_upto_region 15 with fail);go_cut [73] from 29 to 93 (fun c R=>c=.bool B2/\R=wc)
         case first =>
          by_cases hA:a=3
          ·have g:=HB2.1;subst hA;go_wp2;go_meet;case rel=>exact ⟨congrArg Value.bool (by rw[<-g];rfl),rfl⟩
          ·have bA:(a == 3)=false:=(by simpa using hA);by_cases F:a=4
           ·have g:=HB2.1;subst F;go_wp2;go_meet;case rel=>exact ⟨congrArg Value.bool (by rw[<-g];rfl),rfl⟩
           ·have bB:(a == 4)=false:=(by simpa using F);by_cases hC:a=6
            ·have g:=HB2.1;subst hC;go_wp2;go_meet;case rel=>exact ⟨congrArg Value.bool (by rw[<-g];rfl),rfl⟩
            ·have bC:(a == 6)=false:=(by simpa using hC);by_cases I:a=7
             ·have g:=HB2.1;subst I;go_wp2;go_meet;case rel=>exact ⟨congrArg Value.bool (by rw[<-g];rfl),rfl⟩
             ·have bD:(a == 7)=false:=(by simpa using I);have g:=HB2.1;rw[bA,bB,bC,bD] at g;clear hA F hC I;go_wp2;go_meet;case rel=>exact ⟨congrArg Value.bool (by rw[<-g];rfl),rfl⟩
         case rest =>
          obtain ⟨rfl,rfl⟩:=hcut;(go_upto_if 73 with fail);go_cut [9] from 29 to 93 (fun p R=>p=Z G (SY:Nat)/\R=wc)
          case first =>
           cases V:B2
           ·rw[V] at HSYD;have z:=HSYD.1;rw[if_neg dD] at z;go_wp2;go_meet;case rel=>exact ⟨by rw[z],rfl⟩
           ·rw[V] at HSYD;have z:=HSYD.1;rw[if_pos rfl] at z;have HS1:=qH z;clear z;go_wp2;go_meet;case rel=>exact ⟨by rw[HS1.1],rfl⟩
          case rest =>
           obtain ⟨rfl,rfl⟩:=hcut;obtain ⟨n,off,rfl,hbl,hcell⟩:∃b off,ao=some ⟨b,off,none⟩/\b<w.heap.size/\∀j (h:j<ps.length),w.cell? ⟨b,off+j*3,none⟩=some (Z G ps[j].1)/\w.cell? ⟨b,off+j*3+1,none⟩=some (Z G ps[j].2.1)/\w.cell? ⟨b,off+j*3+2,none⟩=some (Z G ps[j].2.2):=by
            rcases hc with h|h
            ·rw[h] at hk;simp at hk
            ·exact h
           obtain ⟨e0,T,e2⟩:=hcell D hDl;rw[gH ps D hDl] at e0 T e2;obtain ⟨P,hP⟩:=eX (aB ps D);rw[hP] at e0 T e2 HT;obtain ⟨Q,hQ⟩:=eX (SY*W);have m1:(SY:Int)*(W:Int)=(Q:Int):=(by rw[<-hQ];simp);rw[hQ] at hsn;have m2:(Q:Int)+(SX:Int)=(D:Int):=oM;have m3:IntKind.i64.wrap (Q:Int)=(Q:Int):=km _ oM;have m4:IntKind.i64.wrap (D:Int)=(D:Int):=km _ oM;have m5:(D:Int)<(ps.length:Int):=oM;have HST:=qH (show (L.take (k+1)).flatMap aR=(L.take k).flatMap aR++aR P by
            have hk2:k<L.length:=(by rw[HLL.1];exact hk);have hg:=HLG.1 k hk;rw[List.getElem?_eq_getElem hk2] at hg;rw[List.take_succ_eq_append_getElem hk2,zs hg,zl,HT.1];simp)
           obtain ⟨XS,hXS⟩:=eX ((L.take k).flatMap aR);rw[hXS] at t HST;have hbW:=O.size;have HL1:=qH (show k+1<=maxLen from uO);have HL2:=qH (show (k+1)*24<=140737488355328 from oM);have nq:=aW t K dD;have nz:=aW t N dD;have l3:=lS K;have l4:=lS N;clear hP hQ hXS hpm hpd hkY hkd q0 q1 q2 t0 t1 t2 hcell hdx hsn;have HS:=qH (show ∀v,Below wc.heap.size wc v->v.cell? ⟨w.heap.size+1+1,2,none⟩=some (J C k B)/\v.cell? ⟨w.heap.size,0,none⟩=some (Z G W)/\v.cell? ⟨w.heap.size,2,none⟩=some (J (some ⟨n,off,none⟩) ps.length ca)/\v.cell? ⟨n,off+D*3,none⟩=some (Z G P.1)/\v.cell? ⟨n,off+D*3+1,none⟩=some (Z G P.2.1)/\v.cell? ⟨n,off+D*3+2,none⟩=some (Z G P.2.2) from fun v h=>by
            obtain ⟨_,_,t2⟩:=al ((h.block (w.heap.size+2) (lS A)).trans A);obtain ⟨u0,_,u2⟩:=al ((h.block _ l3).trans K);have hV:=O.trans (h.mono O.size);exact ⟨t2,u0,u2,(hV.cell (p:=⟨n,off+D*3,none⟩) hbl).trans e0,(hV.cell (p:=⟨n,off+D*3+1,none⟩) hbl).trans T,(hV.cell (p:=⟨n,off+D*3+2,none⟩) hbl).trans e2⟩)
           have HTL:=qH (show ∀(V1:World) (gg cap:Nat) (y:World),Below wc.heap.size wc V1->V1.grownBy y (J C k B).ownBlock->y.ownsRow w.heap.size 61 3 (J (some ⟨gg,0,none⟩) (k+1) cap) (k+1) (XS++aR P)->(y.cell? ⟨w.heap.size+1+1,2,none⟩=some (J C k B)/\y.cell? ⟨w.heap.size,0,none⟩=some (Z G W)/\y.cell? ⟨w.heap.size,2,none⟩=some (J (some ⟨n,off,none⟩) ps.length ca)/\y.cell? ⟨n,off+D*3,none⟩=some (Z G P.1)/\y.cell? ⟨n,off+D*3+1,none⟩=some (Z G P.2.1)/\y.cell? ⟨n,off+D*3+2,none⟩=some (Z G P.2.2))/\y.frozen? ⟨w.heap.size+1+1,2,none⟩=false/\oN w W H d l (J (some ⟨n,off,none⟩) ps.length ca) L (k+1) (y.setCell ⟨w.heap.size+1+1,2,none⟩ (J (some ⟨gg,0,none⟩) (k+1) cap)) from fun V1 gg cap y h1 h2 h3=>by
            obtain ⟨t1,t2,t3,t4,t5,t6,t7⟩:=jj dD A t O (kf _) oM h1 h2 h3;obtain ⟨u0,_,u2⟩:=al ((t1 _ l3 nq).trans K);have hbo:∀b,some b=(J C k B).ownBlock->w.heap.size<=b:=fun b hb=>(t.lt b hb.symm).1;have hpx:∀i,y.cell? ⟨n,i,none⟩=w.cell? ⟨n,i,none⟩:=fun i=>World.cell?_of_block ((t1 n oM (fun e=>by have:=hbo n e;omega)).trans (O.block n hbl));exact ⟨⟨t2,u0,u2,(hpx _).trans e0,(hpx _).trans T,(hpx _).trans e2⟩,t3,some ⟨gg,0,none⟩,cap,t4,by rw[HST.1];exact t5,(t7 _ l3 nq oM).trans K,(t7 _ l4 nz oM).trans N,t6⟩)
           have hWd:Below wc.heap.size wc wc.drew:=(Below.refl _ _).drew;(go_upto_region 17 with fail);have hSd:=HS.1 _ hWd;clear A K N e0 T e2;refine cE 15 HS.1 ?_;refine ak 0 ?_;refine ak 2 ?_;refine ak 4 ?_;refine ak 5 ?_;refine ak 8 ?_;refine ak 1 ?_;refine ak 3 ?_;refine ak 6 ?_;refine ak 7 ?_;refine ak 9 ?_;refine ak 10 ?_;refine ak 11 ?_;refine aw 12 fun K' x=>?_;go_simp;have hBs:Below wc.heap.size wc (wc.alloc (ka #[Z G P.1,Z G P.2.1,Z G P.2.2] 61)).drew:=(aq wc _).drew;have hSd:=HS.1 _ hBs;refine x.out _ _ hSd ?_;clear x;(try simp only[kd]);refine eZ (i:=13) (o:=_) kR rfl (fun K' x=>?_);refine step_append_lies _ rfl _ _ 22 rfl w.heap.size 61 i0 ib 3 24 underlying22 hi hz0 hz1 hz2 rfl dD (J C k B) k XS rfl ((t.alloc _).drew) ⟨wc.heap.size,0,none⟩ 1 1 (aR P) rfl rfl (World.news_of_block (w:=(wc.alloc (ka #[Z G P.1,Z G P.2.1,Z G P.2.2] 61)).drew) (aD wc _)) (fun u hu=>by simp[aR] at hu;rcases hu with rfl|rfl|rfl<;>rfl) Nat.one_pos HL1.1 HL2.1 (ko hbW hBs.size) _ rfl ?_;intro gg cap y hown hgrow hat hltg;obtain ⟨hSx,p2f,HFIN⟩:=HTL.1 _ gg cap y hBs hgrow hown;have hSd:=hSx;refine x.out _ _ hSd ?_;clear x;(try simp only[kd]);refine ak 14 ?_;refine aS fun K' x=>?_;go_simp;refine x.out _ _ ?_;clear x;(try simp only[kd]);go_wp2;go_roundw
           case rel=>exact ⟨X+1,oM,gN,by rw[show M+(X+1)=k+1 by have:=HK.1;omega];exact HFIN⟩
           case measure=>simp[intOf];omega
     ·have hdx:decide ((X:Int)<(d:Int))=false:=decide_eq_false oM;have h3:X=d:=oM;subst h3;have HJ1:=qH (show oN w W H X l (J ao ps.length ca) L ((Y+1)*X) wr from ⟨C,B,by rw[xe,<-HM.1];exact A,by rw[xe,<-HM.1];exact t,K,N,O⟩);go_wp2;go_roundw
      case rel=>exact ⟨Y+1,oM,gN,HJ1.1⟩
      case measure=>simp[intOf];omega
   ·have hd:decide ((Y:Int)<(l:Int))=false:=decide_eq_false oM;obtain rfl:Y=l:=oM;rw[HNN.1] at A t;rw[xc (by rw[HLL.1];exact kf _)] at t;clear q0 q1 q2;obtain ⟨p0,p1,p2⟩:=al (b:=w.heap.size+1+1) A;obtain ⟨z0,z1,z2⟩:=al N;obtain ⟨f0,f1,f2⟩:=fZ N;have HFI:=qH (bf O (show w.heap.size<=w.heap.size+1 from oM) (Z G (d:Nat)) (Z G (Y:Nat)) (J C ps.length B));have hpx:ax wr (J C ps.length B) L:=ax.own (base:=w.heap.size) (ps:=L) (v:=J C ps.length B) (by rw[HLL.1];exact t) (by rw[HLL.1];omega);have hne:(J C ps.length B).ownBlock≠some (w.heap.size+1):=fun e=>aW t N dD e.symm;have HX:=qH (hpx.other (gK wr (w.heap.size+1) (Z G (d:Nat)) (Z G (Y:Nat)) (J C ps.length B)) (fun b hb=>eL _ _ _ _ _ b hb) hne);have HF:=qH (ar.own t);clear hpx hne;go_wp2;exact bodyPost_ret (v:=.agg #[Z G (d:Nat),Z G (Y:Nat),J C ps.length B]) (by simp[results,results54,go_sem,z0,z1,z2]) rfl ⟨_,rfl,HX.1,HFI.1,HF.1⟩
theorem Ag {W H:Int} {ps:List Px} {b c rw a:Int} (e:aZ W H ps=true) (h:¬((1<=rw/\rw<=W)/\(1<=a/\a<=H)/\(0<=b/\b<=W-rw)/\(0<=c/\c<=H-a))):eB W H ps b c rw a=3:=by
 rw[eB,if_pos e,if_neg];intro d;refine h ?_;have:((1<=rw/\rw<=W)/\(0<=b/\b<=W-rw))/\((1<=a/\a<=H)/\(0<=c/\c<=H-a)):=by simpa [gk] using d
 omega
theorem Ah {W H:Int} {ps:List Px} {b c rw a:Int} (d:aZ W H ps=true) (h:(1<=rw/\rw<=W)/\(1<=a/\a<=H)/\(0<=b/\b<=W-rw)/\(0<=c/\c<=H-a)):eB W H ps b c rw a=0:=by
 rw[eB,if_pos d,if_pos];simp[gk];omega
theorem Ai (W H:Int) (v:Value) (ps:List Px) (c d rw a:Int) (w:World) (F:ax w v ps) :
  Calls prog 52 #[.agg #[Z G W,Z G H,v],.agg #[Z G c,Z G d,Z G rw,Z G a]] w (rT w (Z G (eB W H ps c d rw a))):=by
 have M:=qH F;obtain ⟨N,ca,rfl,_,_⟩:=F;obtain ⟨m,y,u⟩:=gr w (ka #[Z G W,Z G H,J N ps.length ca] 24) (ka #[Z G c,Z G d,Z G rw,Z G a] 38);have j:=qH (fun f h=>@Ag W H ps c d rw a f h);have A:=qH (fun f h=>@Ah W H ps c d rw a f h);have x:=qH (show ¬aZ W H ps=true->eB W H ps c d rw a=1 from fun h=>by rw[eB,if_neg h]);obtain ⟨E,B⟩:=eX (eB W H ps c d rw a);rw[B] at j A x |-;clear B;go_enter func52,ntmps52;obtain ⟨I,K,L⟩:=al m;go_wp2_with fail
 clear I K L;have C:=lS m;have D:=lS y;generalize (w.alloc _).alloc _=U at *;refine (DJ W H _ ps _ (M.1.below u.1 (kf _))).mono ?_;rintro e Y ⟨rfl,o⟩;have g:=qH (u.1.trans (o.mono u.1.size));by_cases f:aZ W H ps=true
 ·have k:=qH f;rw[f];obtain ⟨hW,hH,_,_⟩:=fC f;clear f;obtain ⟨I,K,L⟩:=al ((o.block _ C).trans m);obtain ⟨q0,q1,q2,q3⟩:=kZ (b:=w.heap.size+1) ((o.block _ D).trans y);clear x m y C D o;by_cases p:1<=rw/\rw<=W
  case neg =>
   have i:decide (1<=rw/\rw<=W)=false:=decide_eq_false p;obtain rfl:E=3:=j.1 k.1 (fun h=>oM);clear p;(go_wp2_with (go_at_call 33;refine (aI _ _ _ _).mono ?_;rintro e t ⟨rfl,rfl⟩;first|rw[i]));go_ret;exact ⟨rfl,g.1⟩
  have i:decide (1<=rw/\rw<=W)=true:=decide_eq_true p;obtain ⟨O,P⟩:=p;by_cases q:1<=a/\a<=H
  case neg =>
   have l:decide (1<=a/\a<=H)=false:=decide_eq_false q;obtain rfl:E=3:=j.1 k.1 (fun h=>oM);clear q;(go_wp2_with (go_at_call 33;refine (aI _ _ _ _).mono ?_;rintro e t ⟨rfl,rfl⟩;first|rw[i]|rw[l]));go_ret;exact ⟨rfl,g.1⟩
  have l:decide (1<=a/\a<=H)=true:=decide_eq_true q;obtain ⟨Q,R⟩:=q;by_cases r:0<=c/\c<=W-rw
  case neg =>
   have n:decide (0<=c/\c<=W-rw)=false:=decide_eq_false r;obtain rfl:E=3:=j.1 k.1 (fun h=>oM);clear r;(go_wp2_with (go_at_call 33;refine (aI _ _ _ _).mono ?_;rintro e t ⟨rfl,rfl⟩;first|rw[i]|rw[l]|rw[n]));go_ret;exact ⟨rfl,g.1⟩
  have n:decide (0<=c/\c<=W-rw)=true:=decide_eq_true r;obtain ⟨S,T⟩:=r;by_cases s:0<=d/\d<=H-a
  case neg =>
   have z:decide (0<=d/\d<=H-a)=false:=decide_eq_false s;obtain rfl:E=3:=j.1 k.1 (fun h=>oM);clear s;(go_wp2_with (go_at_call 33;refine (aI _ _ _ _).mono ?_;rintro e t ⟨rfl,rfl⟩;first|rw[i]|rw[l]|rw[n]|rw[z]));go_ret;exact ⟨rfl,g.1⟩
  have z:decide (0<=d/\d<=H-a)=true:=decide_eq_true s;obtain ⟨V,X⟩:=s;obtain rfl:E=0:=A.1 k.1 ⟨⟨O,P⟩,⟨Q,R⟩,⟨S,T⟩,V,X⟩;go_wp2_with (go_at_call 33;refine (aI _ _ _ _).mono ?_;rintro e t ⟨rfl,rfl⟩;first|rw[i]|rw[l]|rw[n]|rw[z])
  go_ret;exact ⟨rfl,g.1⟩
 ·obtain rfl:E=1:=x.1 f;have f:aZ W H ps=false:=by simpa using f
  rw[f];go_wp2;go_ret;exact ⟨rfl,g.1⟩
theorem DM {w:World} {b off:Nat} {ps:List Px} (l:∀j,j<ps.length->w.cell? ⟨b,off+j*3,none⟩=some (Z G (aB ps j).1)/\w.cell? ⟨b,off+j*3+1,none⟩=some (Z G (aB ps j).2.1)/\w.cell? ⟨b,off+j*3+2,none⟩=some (Z G (aB ps j).2.2)) :
  ∀j u,(ps.flatMap aR)[j]?=some u->w.cell? ((⟨b,off,none⟩:Addr).add j)=some u:=by
 intro j u a;rw[Addr.add_lit];have m:j<ps.length*3:=by rw[<-nS];exact (List.getElem?_eq_some_iff.1 a).1
 obtain ⟨g,i,k⟩:=pj ps (j / 3) oM;obtain ⟨c,d,f⟩:=l (j / 3) oM;rw[<-gH ps (j / 3) oM] at c d f;rcases (show j % 3=0\/j % 3=1\/j % 3=2 from oM) with h|h|h
 ·have e:j=j / 3*3:=oM;rw[e] at a |-;rw[<-zs (g.symm.trans a)];exact c
 ·have e:j=j / 3*3+1:=oM;rw[e] at a |-;rw[<-zs (i.symm.trans a),<-Nat.add_assoc];exact d
 ·have e:j=j / 3*3+2:=oM;rw[e] at a |-;rw[<-zs (k.symm.trans a),<-Nat.add_assoc];exact f
theorem DN (ps:List Px):∀u∈ps.flatMap aR,u.oneCell'=true:=by
 intro u a;obtain ⟨p,_,a⟩:=List.mem_flatMap.1 a;simp only[aR,List.mem_cons,List.not_mem_nil,or_false] at a;rcases a with rfl|rfl|rfl<;>rfl
theorem Aj (W:Nat) (ps:List Px) (c d b a:Nat):(gv W ps c d b a).length=a*b:=by simp[gv]
theorem Ao {W H:Nat} {ps:List Px} {d c a b t:Nat} (k:ps.length=H*W) (m:d+a<=W) (n:c+b<=H) (l:t<b) :
  (gv W ps d c a b).take (t*a+a)=(gv W ps d c a b).take (t*a)++(ps.drop ((c+t)*W+d)).take a:=by
 rw[List.take_add];congr 1;have h:(c+t+1)*W<=ps.length:=by rw[k];exact xa _ oM
 rw[Nat.add_mul,Nat.one_mul] at h;have j:(t+1)*a<=b*a:=xa _ l;rw[Nat.add_mul,Nat.one_mul] at j;refine List.ext_getElem? fun i=>?_;by_cases e:i<a
 ·rw[List.getElem?_take_of_lt e,List.getElem?_take_of_lt e,List.getElem?_drop,List.getElem?_drop];unfold gv;rw[List.getElem?_map,List.getElem?_range oM];have f:(t*a+i) / a=t:=by rw[Nat.add_comm,Nat.add_mul_div_right _ _ oM,Nat.div_eq_of_lt e,Nat.zero_add]
  have g:(t*a+i) % a=i:=by rw[Nat.add_comm,Nat.add_mul_mod_self_right,Nat.mod_eq_of_lt e]
  simp only[rf,Option.map_some,f,g];unfold aB;rw[kw,<-Nat.add_assoc,List.getElem?_eq_getElem oM];rfl
 ·rw[List.getElem?_eq_none (by rw[ys];omega),List.getElem?_eq_none (by rw[ys];omega)]
def tA (w:World) (W H e f b a:Nat) (g:Value) (L:List Px) (k:Nat) (wr:World):Prop :=
 ∃d c,wr.heap[w.heap.size+3]?=some (.cells #[Z G b,Z G a,J d k c] 24 (0,0))/\wr.ownsRow w.heap.size 61 3 (J d k c) k ((L.take k).flatMap aR)/\wr.heap[w.heap.size]?=some (.cells #[Z G W,Z G H,g] 24 (0,0))/\wr.heap[w.heap.size+2]?=some (.cells #[Z G 0,Z G 0,J none 0 0] 24 (0,0))/\wr.heap[w.heap.size+1]?=some (.cells #[Z G e,Z G f,Z G b,Z G a] 38 (0,0))/\Below w.heap.size w wr
theorem Al (W H g d a c:Nat) (hW:W<=64) (hH:H<=64) (hw1:1<=a) (hx:g+a<=W) (hy:d+c<=H) (hh1:1<=c) (v:Value) (ps:List Px) (N:ps.length=H*W) (w:World) (hv:ax w v ps) (hroom:lI v) :
  Calls prog 53 #[.agg #[Z G W,Z G H,v],.agg #[Z G g,Z G d,Z G a,Z G c]] w fun e w'=>∃r,e=.returned (.agg #[Z G a,Z G c,r])/\ax w' r (gv W ps g d a c)/\Below w.heap.size w w'/\ar w.heap.size r:=by
 have hlb:ps.length<=4096:=by rw[N];exact ko (zo hH hW) dD
 have V:=qH (Aj W ps g d a c);have HROW:=qH (fun t ht=>@Ao W H ps g d a c t N hx hy ht);have HIN:=qH (show ∀t,t<c->((d+t)*W+g)+a<=ps.length from fun t ht=>by
  have h1:(d+t+1)*W<=ps.length:=by rw[N];exact xa _ oM
  rw[Nat.add_mul,Nat.one_mul] at h1;omega)
 have hTT:c*a<=4096:=ko (zo (show c<=64 from oM) (show a<=64 from oM)) dD;generalize gv W ps g d a c=L at *;have hpos:1<=ps.length:=by rw[N];exact zo (show 1<=H from oM) (show 1<=W from oM)
 obtain ⟨ao,ca,rfl,hla,hc⟩:=hv;replace hroom:ps.length<=ca:=hroom;obtain ⟨f,off,rfl,hbl,hcell⟩:∃b off,ao=some ⟨b,off,none⟩/\b<w.heap.size/\∀j (h:j<ps.length),w.cell? ⟨b,off+j*3,none⟩=some (Z G ps[j].1)/\w.cell? ⟨b,off+j*3+1,none⟩=some (Z G ps[j].2.1)/\w.cell? ⟨b,off+j*3+2,none⟩=some (Z G ps[j].2.2):=by
  rcases hc with h|h
  ·rw[h] at hpos;simp at hpos
  ·exact h
 have HCE:=qH (show ∀j,j<ps.length->w.cell? ⟨f,off+j*3,none⟩=some (Z G (aB ps j).1)/\w.cell? ⟨f,off+j*3+1,none⟩=some (Z G (aB ps j).2.1)/\w.cell? ⟨f,off+j*3+2,none⟩=some (Z G (aB ps j).2.2) from fun j C=>by
  have h:=hcell j C;rw[gH ps j C] at h;exact h)
 clear hcell N hc;obtain ⟨i0,hi,hz0,hz1,hz2⟩:=info_parts Tryz.infoPixel;go_enter func53,ntmps53;go_wp2_with fail
 obtain ⟨a1,a2,a3,a4,hB⟩:=jM w (ka #[Z G W,Z G H,J (some ⟨f,off,none⟩) ps.length ca] 24) (ka #[Z G g,Z G d,Z G a,Z G c] 38) (ka #[Z G 0,Z G 0,J none 0 0] 24) (ka #[Z G a,Z G c,J none 0 0] 24);generalize (((w.alloc _).alloc _).alloc _).alloc _=U at *;go_loopw [6] (fun i wr=>∃t:Nat,t<=c/\i=Z G ((d:Int)+t)/\tA w W H g d a c (J (some ⟨f,off,none⟩) ps.length ca) L (t*a) wr) (fun i _=>d+c-(intOf i).toNat)
 case atStart=>exact ⟨0,kv _,sS,none,0,by rw[Nat.zero_mul];exact a4,by rw[Nat.zero_mul];exact World.ownsRow_nil _ _ _ _,a1,a3,a2,hB⟩
 case round =>
  clear a1 a2 a3 a4 hB;obtain ⟨t,ht,rfl,hJ⟩:=hrel;obtain ⟨s,q,I,m,K,u,D,O⟩:=hJ;obtain ⟨r0,r1,r2,r3⟩:=kZ (b:=w.heap.size+1) D;by_cases hlt:t<c
  ·have hd:decide ((d:Int)+(t:Int)<(d:Int)+(c:Int))=true:=decide_eq_true oM;have S:=HIN.1 t hlt;have F:=HROW.1 t hlt;obtain ⟨k,T⟩:=eX (t*a);have hkl:k+a<=4096:=by
    have h2:(t+1)*a<=c*a:=xa _ hlt;rw[Nat.add_mul,Nat.one_mul,T] at h2;omega
   rw[T] at I m F;have HK:=qH T;obtain ⟨Y,hYd⟩:=eX (d+t);have hY:(d:Int)+(t:Int)=(Y:Int):=oM;rw[hYd] at S F;obtain ⟨Q,hQ⟩:=eX (Y*W);have m1:(Y:Int)*(W:Int)=(Q:Int):=(by rw[<-hQ];simp);rw[hQ] at S F;obtain ⟨A,hA⟩:=eX (Q+g);have m2:(Q:Int)+(g:Int)=(A:Int):=oM;rw[hA] at S F;obtain ⟨B,hBd⟩:=eX (A+a);have m3:(A:Int)+(a:Int)=(B:Int):=oM;have m4:IntKind.i64.wrap (Q:Int)=(Q:Int):=km _ oM;have m5:IntKind.i64.wrap (A:Int)=(A:Int):=km _ oM;have m6:IntKind.i64.wrap (B:Int)=(B:Int):=km _ oM;have g1:(A:Int)<=(B:Int):=oM;have g2:(B:Int)<=(ca:Int):=oM;have g3:¬(ca=A):=oM;have g4:A<=B:=oM;have hBA:B-A=a:=oM;have HROW2:=qH F;obtain ⟨XS,hXS⟩:=eX ((L.take k).flatMap aR);obtain ⟨n,P⟩:=eX ((ps.drop A).take a);have hNL:n.length=a:=(by rw[<-P,ys,List.length_drop];omega);have HST:=qH (show (L.take (k+a)).flatMap aR=XS++n.flatMap aR by rw[HROW2.1,zl,hXS,P]);have HNC:=qH (show ∀j,j<n.length->w.cell? ⟨f,off+A*3+j*3,none⟩=some (Z G (aB n j).1)/\w.cell? ⟨f,off+A*3+j*3+1,none⟩=some (Z G (aB n j).2.1)/\w.cell? ⟨f,off+A*3+j*3+2,none⟩=some (Z G (aB n j).2.2) from fun j C=>by
    rw[hNL] at C;have h:=HCE.1 (A+j) oM;have e:aB n j=aB ps (A+j):=by
     rw[<-P];unfold aB;rw[kw,kw,List.getElem?_take_of_lt C,List.getElem?_drop]
    rw[e,show off+A*3+j*3=off+(A+j)*3 from oM];exact h)
   rw[hXS] at m;have hbW:=O.size;have HL1:=qH (show k+a<=maxLen from uO);have HL2:=qH (show (k+a)*24<=140737488355328 from oM);have nq:=aW m K dD;have nz:=aW m u dD;have nr:=aW m D dD;have l3:=lS K;have l4:=lS u;have l6:=lS D;(go_upto_region 5 with fail);clear T hYd hQ hA hBd hXS P S F r0 r1 r2 r3 hd;have HS:=qH (show ∀v,Below wr.heap.size wr v->v.cell? ⟨w.heap.size+1+1+1,2,none⟩=some (J s k q)/\v.cell? ⟨w.heap.size,0,none⟩=some (Z G W)/\v.cell? ⟨w.heap.size,2,none⟩=some (J (some ⟨f,off,none⟩) ps.length ca)/\v.cell? ⟨w.heap.size+1,0,none⟩=some (Z G g)/\v.cell? ⟨w.heap.size+1,2,none⟩=some (Z G a) from fun v h=>by
    obtain ⟨_,_,t2⟩:=al ((h.block (w.heap.size+3) (lS I)).trans I);obtain ⟨u0,_,u2⟩:=al ((h.block _ l3).trans K);obtain ⟨x0,_,x2,_⟩:=kZ (b:=w.heap.size+1) ((h.block _ l6).trans D);exact ⟨t2,u0,u2,x0,x2⟩)
   have HTL:=qH (show ∀(V1:World) (E cap:Nat) (l:World),Below wr.heap.size wr V1->V1.grownBy l (J s k q).ownBlock->l.ownsRow w.heap.size 61 3 (J (some ⟨E,0,none⟩) (k+a) cap) (k+a) (XS++n.flatMap aR)->(l.cell? ⟨w.heap.size+1+1+1,2,none⟩=some (J s k q)/\l.cell? ⟨w.heap.size,0,none⟩=some (Z G W)/\l.cell? ⟨w.heap.size,2,none⟩=some (J (some ⟨f,off,none⟩) ps.length ca)/\l.cell? ⟨w.heap.size+1,0,none⟩=some (Z G g)/\l.cell? ⟨w.heap.size+1,2,none⟩=some (Z G a))/\l.frozen? ⟨w.heap.size+1+1+1,2,none⟩=false/\tA w W H g d a c (J (some ⟨f,off,none⟩) ps.length ca) L (k+a) (l.setCell ⟨w.heap.size+1+1+1,2,none⟩ (J (some ⟨E,0,none⟩) (k+a) cap)) from fun V1 E cap l h1 h2 h3=>by
    obtain ⟨t1,t2,t3,t4,t5,t6,t7⟩:=jj dD I m O (kf _) oM h1 h2 h3;obtain ⟨u0,_,u2⟩:=al ((t1 _ l3 nq).trans K);obtain ⟨x0,_,x2,_⟩:=kZ (b:=w.heap.size+1) ((t1 _ l6 nr).trans D);exact ⟨⟨t2,u0,u2,x0,x2⟩,t3,some ⟨E,0,none⟩,cap,t4,by rw[HST.1];exact t5,(t7 _ l3 nq oM).trans K,(t7 _ l4 nz oM).trans u,(t7 _ l6 nr oM).trans D,t6⟩)
   have R:Below wr.heap.size wr wr.drew:=(Below.refl _ _).drew;have hSd:=HS.1 _ R;have X:=qH (O.trans (R.mono O.size));clear I K u D;refine cE 24 HS.1 ?_;refine ak 0 ?_;refine ak 2 ?_;refine ak 4 ?_;refine ak 5 ?_;refine ak 8 ?_;refine ak 11 ?_;refine ak 12 ?_;refine ak 15 ?_;refine ak 18 ?_;refine ak 1 ?_;refine ak 3 ?_;refine ak 6 ?_;refine ak 9 ?_;refine ak 13 ?_;refine ak 16 ?_;refine ak 19 ?_;refine ak 7 ?_;refine ak 14 ?_;refine ak 10 ?_;refine ak 17 ?_;refine ak 20 ?_;refine ak 21 ?_;refine eZ (i:=22) (o:=_) kR rfl (fun K' M=>?_);refine step_append_lies _ rfl _ _ 22 rfl w.heap.size 61 i0 ib 3 24 underlying22 hi hz0 hz1 hz2 rfl dD (J s k q) k XS rfl m.drew ⟨f,off+A*3,none⟩ a (ca-A) (n.flatMap aR) (by first|rfl|(rw[hBA];rfl)) (by rw[nS,hNL]) (DM (w:=wr.drew) (fun j C=>by obtain ⟨x,y,z⟩:=HNC.1 j C;exact ⟨(X.1.cell (p:=⟨f,off+A*3+j*3,none⟩) hbl).trans x,(X.1.cell (p:=⟨f,off+A*3+j*3+1,none⟩) hbl).trans y,(X.1.cell (p:=⟨f,off+A*3+j*3+2,none⟩) hbl).trans z⟩)) (DN n) oM HL1.1 HL2.1 (ko hbW R.size) _ rfl ?_;intro E cap l hown hgrow hat hltg;obtain ⟨hSx,p2f,HFIN⟩:=HTL.1 _ E cap l R hgrow hown;have hSd:=hSx;refine M.out _ _ hSd ?_;clear M;(try simp only[kd]);refine ak 23 ?_;refine aS fun K' M=>?_;go_simp;refine M.out _ _ ?_;clear M;(try simp only[kd]);go_wp2;go_roundw
   case rel=>exact ⟨t+1,oM,congrArg (Z .i64) oM,by rw[xe,HK.1];exact HFIN⟩
   case measure=>simp[intOf];omega
  ·have hd:decide ((d:Int)+(t:Int)<(d:Int)+(c:Int))=false:=decide_eq_false oM;obtain rfl:t=c:=oM;rw[xc (by rw[V.1];exact kf _)] at m;obtain ⟨p0,p1,p2⟩:=al (b:=w.heap.size+1+1+1) I;obtain ⟨z0,z1,z2⟩:=al (b:=w.heap.size+1+1) u;have f0:=kb (b:=w.heap.size+1+1) u 0;have f1:=kb (b:=w.heap.size+1+1) u 1;have f2:=kb (b:=w.heap.size+1+1) u 2;have HFI:=qH (bf O (show w.heap.size<=w.heap.size+1+1 from oM) (Z G (a:Nat)) (Z G (t:Nat)) (J s (t*a) q));have hpx:ax wr (J s (t*a) q) L:=ax.own (base:=w.heap.size) (ps:=L) (v:=J s (t*a) q) (by rw[V.1];exact m) (by rw[V.1];omega);have hne:(J s (t*a) q).ownBlock≠some (w.heap.size+1+1):=fun e=>aW m u dD e.symm;have HX:=qH (hpx.other (gK wr (w.heap.size+1+1) (Z G (a:Nat)) (Z G (t:Nat)) (J s (t*a) q)) (fun b hb=>eL _ _ _ _ _ b hb) hne);have HF:=qH (ar.own m);clear hpx hne;go_wp2;exact bodyPost_ret (v:=.agg #[Z G (a:Nat),Z G (t:Nat),J s (t*a) q]) (by simp[results,results53,go_sem,z0,z1,z2]) rfl ⟨_,rfl,HX.1,HFI.1,HF.1⟩
end Go.Proofs.YtfjeonehdlphiaaGreatDoor
