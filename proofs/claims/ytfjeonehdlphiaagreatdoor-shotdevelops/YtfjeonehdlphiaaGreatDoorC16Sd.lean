/- Part 16. -/
import Derived.Test.YtfjeonehdlphiaaGreatDoorC15Sd
open Go.Obj renaming cells → ka
open Go.Lib renaming frozen_of_heap → kb, cell_of_heap → kc
open Go.Act renaming put → kd
open Nat renaming le_refl → kf, lt_of_lt_of_le → ko, le_trans → kv, mul_le_mul_right → kG, succ_mul → xa, mul_comm → xc, mul_le_mul → zl
open Int renaming eq_ofNat_of_zero_le → kh
open Go.RowKit.Below renaming refl → km, heap_alloc → kw
open List renaming length_map → xe, range → xs, finRange → zc
open Go.World renaming cell?_of_block → yb
open Go.Value renaming int → Z, slice → J
open Go.IntKind renaming i64 → G
set_option linter.unusedVariables false
set_option maxHeartbeats 4000000
set_option maxRecDepth 100000
namespace Go.Proofs.YtfjeonehdlphiaaGreatDoor
open Go.RowKit
open _root_.Go.Proofs.Tryz
def iq (W H:Int) (zs:List Int) (a:Int) (m:Nat->Int):Int:=if a7 W H zs=true then (if cW a=true/\js m=true then 0 else 3) else 1
def jV (W:Int) (zs:List Int) (a:Int) (m:Nat->Int):List Int:=(xs zs.length).map (gF zs W.toNat a.toNat m)
theorem Bp (W H:Int) (v:Value) (zs:List Int) (c:Int) (m:Nat->Int) (w:World) (I:ap w v zs) (h0:iq W H zs c m=0) :
  Calls prog 265 #[.agg #[Z G W,Z G H,v],Z G c,.agg (jf m)] w fun e w'=>∃r,e=.returned (.tuple #[.agg #[Z G (aX (iq W H zs c m) W),Z G (aX (iq W H zs c m) H),r],Z G (iq W H zs c m)])/\ap w' r (cO (iq W H zs c m) (jV W zs c m))/\Below w.heap.size w w'/\ar w.heap.size r:=by
 have HV:=qH I;obtain ⟨E,n⟩:=eX (iq W H zs c m);have A:=qH (show E=0 from n.symm.trans h0);rw[n];by_cases q:a7 W H zs=true
 ·by_cases z:cW c=true
  ·by_cases y:js m=true
   ·have o:E=0:=(by rw[<-n,iq,if_pos q,if_pos ⟨z,y⟩]);subst o;clear n;obtain ⟨⟨w1,w2⟩,⟨h1,h2⟩,hl,_⟩:=eT q;have hz:=jz q;have hph2:0<=c/\c<=3:=(by simpa [cW] using z);have HMM:=qH (fun k (t:k<3)=>kV y k t);have hsm:=fq ⟨w1,w2⟩ ⟨h1,h2⟩;have hn1:1<=zs.length:=oM;obtain ⟨x,off,ca,rfl,X,aa⟩:=I.cells hn1;obtain ⟨a,rfl⟩:=kh (show 0<=W from oM);obtain ⟨HN,rfl⟩:=kh (show 0<=H from oM);obtain ⟨g,rfl⟩:=kh hph2.1;have N:=qH (show zs.length=HN*a by rw[xc];exact_mod_cast hl);have HZ:=qH hz;have HC:=qH aa;rw[show aX 0 (a:Int)=a from rfl,show aX 0 (HN:Int)=HN from rfl,show cO 0 (jV (a:Int) zs (g:Int) m)=(xs zs.length).map (gF zs a g m) from rfl];clear hl hz aa hsm I;go_enter func265,ntmps265;(go_wp2_with fail);obtain ⟨P,Q,R,u,s⟩:=jM w (ka #[Z G (a:Nat),Z G (HN:Nat),J (some ⟨x,off,none⟩) zs.length ca] 54) (ka #[Z G (g:Nat)] 3) (ka (jf m) 47) (ka #[Z G 0,Z G 0,J none 0 0] 54);have hs3:((((w.alloc (ka #[Z G (a:Nat),Z G (HN:Nat),J (some ⟨x,off,none⟩) zs.length ca] 54)).alloc (ka #[Z G (g:Nat)] 3)).alloc (ka (jf m) 47)).alloc (ka #[Z G 0,Z G 0,J none 0 0] 54)).heap.size=w.heap.size+4:=sS;generalize (((w.alloc _).alloc _).alloc _).alloc _=U at *;refine (ki a HN _ zs _ (HV.1.below s (kf _))).mono ?_;rintro e w1 ⟨rfl,C⟩;rw[q];have l:=(C.block (w.heap.size+3) oM).trans u;have g2:=jQ ((C.block (w.heap.size+1) oM).trans Q);(go_wp2_with fail);refine (qi _ _).mono ?_;rintro e w2 ⟨rfl,d⟩;rw[z];clear g2;replace d:=aG C d;replace l:=(d.block (w.heap.size+3) oM).trans u;obtain ⟨n0,n1,n2⟩:=al (b:=w.heap.size+1+1) ((d.block (w.heap.size+2) oM).trans R);(go_wp2_with fail);refine (uW m _).mono ?_;rintro e w2b ⟨rfl,T⟩;rw[y];clear n0 n1 n2;replace d:=aG d T;clear T;generalize w2b=w2 at *;replace l:=(d.block (w.heap.size+3) oM).trans u;obtain ⟨p0,p1,p2⟩:=al ((d.block (w.heap.size) oM).trans P);(go_wp2_with fail);have D:=aG d (aq w2 (ka #[Z G (a:Nat),Z G (HN:Nat)] 95));have S:=aD w2 (ka #[Z G (a:Nat),Z G (HN:Nat)] 95);have hlG:=lS S;have hs2:=d.size;clear p0 p1 p2;generalize w2.alloc _=w2g at *;refine (rG a HN zs.length oM oM N.1 266 #[.pointer (some ⟨w.heap.size+1,0,none⟩),.pointer (some ⟨w.heap.size,0,none⟩),.pointer (some ⟨w2.heap.size,0,none⟩),.pointer (some ⟨w.heap.size+1+1,0,none⟩)] (gF zs a g m) _ (enters_of func266 kR rfl) ?_).mono ?_
    ·intro j V hj B;have f:=aG D B;have Y:=s.trans (f.mono s.size);obtain ⟨e0,e1,e2⟩:=al ((f.block (w.heap.size) oM).trans P);have e3:=jQ ((f.block (w.heap.size+1) oM).trans Q);have e6:=(f.block (w.heap.size+2) oM).trans R;obtain ⟨e4,e5⟩:=bL ((B.block w2.heap.size hlG).trans S);have hs:=f.size;have hsV:=B.size;exact Bo a HN j x off ca oM oM oM zs N.1 HZ.1 hj g oM m (fun k t=>HMM.1 k t) (w.heap.size+1) w.heap.size w2.heap.size (w.heap.size+2) V oM oM (ko X Y.size) e2 e4 e5 oM oM e3 (fun k t=>by rw[kc e6,td m k t]) (fun i hi=>(Y.cell (p:=⟨x,off+i,none⟩) X).trans (HC.1 i hi))
    ·rintro e w3 ⟨r,rfl,hr,f,F⟩;replace f:=aG D f;replace l:=(f.block (w.heap.size+3) oM).trans u;obtain ⟨z0,z1,z2⟩:=al (b:=w.heap.size+1+1+1) l;have f0:=kb (b:=w.heap.size+1+1+1) l 0;have f1:=kb (b:=w.heap.size+1+1+1) l 1;have f2:=kb (b:=w.heap.size+1+1+1) l 2;have HR:=qH hr;obtain ⟨L,K,rfl,_,_⟩:=hr;have M:=qH (bf (s.trans (f.mono s.size)) (show w.heap.size<=w.heap.size+1+1+1 from oM) (Z G (a:Nat)) (Z G (HN:Nat)) (J L ((xs zs.length).map (gF zs a g m)).length K));have hsG:=D.size;have O:=qH (HR.1.set3 F (show w.heap.size+1+1+1<w2g.heap.size from oM) (Z G (a:Nat)) (Z G (HN:Nat)) (J L ((xs zs.length).map (gF zs a g m)).length K));rw[xe,List.length_range] at O M F;rw[xe,List.length_range];go_wp2;exact bodyPost_ret (v:=.tuple #[.agg #[Z G (a:Nat),Z G (HN:Nat),J L zs.length K],Z G 0]) (by simp[results,results265,go_sem,z0,z1,z2]) rfl ⟨_,rfl,O.1,M.1,F.mono oM⟩
   ·have o:E=3:=(by rw[<-n,iq,if_pos q,if_neg (fun h=>y h.2)]);exact absurd (o.symm.trans A.1) dD
  ·have o:E=3:=(by rw[<-n,iq,if_pos q,if_neg (fun h=>z h.1)]);exact absurd (o.symm.trans A.1) dD
 ·have o:E=1:=by rw[<-n,iq,if_neg q]
  exact absurd (o.symm.trans A.1) dD
end Go.Proofs.YtfjeonehdlphiaaGreatDoor
namespace Go.Proofs.YtfjeonehdlphiaaGreatDoor
open _root_.Go.Proofs.Tryz
open Go.RowKit Go.Shelf
attribute [local go_sem] Oper.semAt_some
def gu (k:Nat):Int:=if k=1 then -2 else if k=2 then 2 else 0
def CP (k:Nat):Int:=if k=0 then -2 else if k=3 then 2 else 0
def fc (X:Nat) (x:Fin 4):Int:=(X:Int)+gu x.1
def dn (Y:Nat) (x:Fin 4):Int:=(Y:Int)+CP x.1
theorem zU (w:World):(Instr.index 296 (.agg #[Z G 0,Z G (-2),Z G (-2),Z G 0,Z G 2,Z G 0,Z G 0,Z G 2]) (Z G 0)).run prog w=.ok (.agg #[Z G 0,Z G (-2)]) w:=kR
theorem zV (w:World):(Instr.index 296 (.agg #[Z G 0,Z G (-2),Z G (-2),Z G 0,Z G 2,Z G 0,Z G 0,Z G 2]) (Z G 1)).run prog w=.ok (.agg #[Z G (-2),Z G 0]) w:=kR
theorem zW (w:World):(Instr.index 296 (.agg #[Z G 0,Z G (-2),Z G (-2),Z G 0,Z G 2,Z G 0,Z G 0,Z G 2]) (Z G 2)).run prog w=.ok (.agg #[Z G 2,Z G 0]) w:=kR
theorem zX (w:World):(Instr.index 296 (.agg #[Z G 0,Z G (-2),Z G (-2),Z G 0,Z G 2,Z G 0,Z G 0,Z G 2]) (Z G 3)).run prog w=.ok (.agg #[Z G 0,Z G 2]) w:=kR
theorem zY (k:Nat) (a:k<4) (w:World):(Instr.index 296 (.agg #[Z G 0,Z G (-2),Z G (-2),Z G 0,Z G 2,Z G 0,Z G 0,Z G 2]) (Z G k)).run prog w=.ok (.agg #[Z G (gu k),Z G (CP k)]) w:=by
 rcases (show k=0\/k=1\/k=2\/k=3 from oM) with rfl|rfl|rfl|rfl
 ·exact zU w
 ·exact zV w
 ·exact zW w
 ·exact zX w
theorem zZ (k:Nat):-2<=gu k/\gu k<=2:=by unfold gu;split<;>(try split)<;>omega
theorem z8 (k:Nat):-2<=CP k/\CP k<=2:=by unfold CP;split<;>(try split)<;>omega
theorem Ab (F:Fence) (n:Nat) (b:F.fn 262) (c:F.round=none) (X Y a:Int) (w:World) :
  CallsIn F n prog 262 #[.agg #[Z G X,Z G Y],Z G a] w fun e w'=>e=.returned (.func (.func 263) #[] #[.pointer (some ⟨w.heap.size+1,0,none⟩),.pointer (some ⟨w.heap.size,0,none⟩)])/\w'=(w.alloc (.cells #[Z G X,Z G Y] 97)).alloc (.cells #[Z G a] 3):=by
 refine callsIn_of_wp func262 rfl b ?_ c;simp only[ntmps262,List.size_toArray,List.length_cons,List.length_nil,Nat.reduceAdd,Nat.reduceSub,Array.replicate_succ,Array.replicate_zero,List.push_toArray,List.append_toArray,List.nil_append,List.cons_append]
 gi_wp2;go_ret;exact ⟨rfl,rfl⟩
theorem Aa (F:Fence) (n:Nat) (T:F.fn 263) (U:F.round=none) (hn:1<=n) (l d p X Y:Nat) (hX:X<=64) (hY0:Y<=64) (c q:List (Fin 4)->World->Prop) (O:∀s W o,c s W->c s (W.alloc o))
  (Q:∀g (x:Fin 4) V,c g V->g.length<4->YieldAt F (n-1) prog l #[.agg #[Z G (fc X x),Z G (dn Y x)]] V fun e h =>
   (e=.returned (.bool true)/\c (g++[x]) h/\fF d V h)\/(e=.returned (.bool false)/\q (g++[x]) h))
  (V:World) (R:V.cell? ⟨p,0,none⟩=some (Z G 2)) (y:V.cell? ⟨d,0,none⟩=some (Z G X)) (z:V.cell? ⟨d,1,none⟩=some (Z G Y)) (t:c [] V) :
  CallsIn F n prog 263 #[.func (.yield l) #[] #[],.pointer (some ⟨p,0,none⟩),.pointer (some ⟨d,0,none⟩)] V fun e h=>(∃v,e=.returned v) /\
   ((∃H,H=zc 4/\c H h)\/(∃g,g <+: zc 4/\q g h)):=by
 refine callsIn_of_wp func263 rfl T ?_ U;simp only[ntmps263,List.size_toArray,List.length_cons,List.length_nil,Nat.reduceAdd,Nat.reduceSub,Array.replicate_succ,Array.replicate_zero,List.push_toArray,List.append_toArray,List.nil_append,List.cons_append]
 gi_wp2
 gi_loopw [17] (fun i wr=>∃(b:Nat),b<=4/\i=Z G b/\c (dL 4 b) wr/\wr.cell? ⟨d,0,none⟩=some (Z G X)/\wr.cell? ⟨d,1,none⟩=some (Z G Y)) (fun i _=>4-(intOf i).toNat)
 case atStart=>exact ⟨0,oM,rfl,t,y,z⟩
 case round =>
  obtain ⟨b,hb,rfl,u,r,L⟩:=hrel;clear y z t R;have w:d<wr.heap.size:=World.block_lt_of_cell? wr _ r;by_cases f:b<4
  ·have S:decide ((b:Int)<4)=true:=sO;have E:=zY b f;have A:=zZ b;have C:=z8 b;have j:=Q (dL 4 b) ⟨b,f⟩ (wr.alloc (ka #[Z G (gu b),Z G (CP b)] 97)) (O _ _ _ u) (by rw[pz _ _ (Nat.le_of_lt f)];exact f);simp only[fc,dn] at j;have k:=(yb (a:=⟨d,0,none⟩) (kw wr (ka #[Z G (gu b),Z G (CP b)] 97) d w)).trans r;have m:=(yb (a:=⟨d,1,none⟩) (kw wr (ka #[Z G (gu b),Z G (CP b)] 97) d w)).trans L;have K:=qH (show dL 4 (b+1)=dL 4 b++[⟨b,f⟩] from mS 4 b f);have I:=qH (show dL 4 b++[⟨b,f⟩] <+: zc 4 by rw[<-mS 4 _ f];exact rM 4 _);obtain ⟨dx,B⟩:=eX (gu b);obtain ⟨dy,D⟩:=eX (CP b);rw[B] at E A j k m;rw[D] at E C j k m;obtain ⟨hdx1,hdx2⟩:=A;obtain ⟨hdy1,hdy2⟩:=C;obtain ⟨fn,tmps,assign,body,hy',P⟩:=j;clear B D
   gi_wp2;refine P.mono ?_;rintro e V3 (⟨rfl,hJ3,hk3⟩|⟨rfl,hJx3⟩)
   ·have M:=(yb (a:=⟨d,0,none⟩) hk3).trans k;have N:=(yb (a:=⟨d,1,none⟩) hk3).trans m;rw[<-K.1] at hJ3
    gi_wp2;go_roundw
    case rel=>exact ⟨b+1,oM,gN,hJ3,M,N⟩
    case measure=>simp[intOf];omega
   ·gi_wp2;refine bodyPost_ret (results_none rfl _ _ _) rfl ?_;exact ⟨⟨_,rfl⟩,.inr ⟨_,I.1,hJx3⟩⟩
  ·obtain rfl:b=4:=oM;have S:decide (((4:Nat):Int)<4)=false:=sS
   gi_wp2;go_end0;exact ⟨⟨_,rfl⟩,.inl ⟨_,by rw[<-py],u⟩⟩
theorem Ac (F:Fence) (n:Nat) (z:F.fn 263) (B:F.round=none) (A:1<=n) (b c X Y:Nat) (m:X<=64) (t:Y<=64) (w:World) (f:b<w.heap.size) (j:c<w.heap.size) (y:w.cell? ⟨c,0,none⟩=some (Z G 2))
  (u:w.cell? ⟨b,0,none⟩=some (Z G X)) (v:w.cell? ⟨b,1,none⟩=some (Z G Y)) :
  SeqStopsK F n prog 263 #[.pointer (some ⟨c,0,none⟩),.pointer (some ⟨b,0,none⟩)] (fun x:Fin 4=>#[Value.agg #[Z G (fc X x),Z G (dn Y x)]]) (fF b) (fun D=>D=zc 4) (fun C=>C <+: zc 4) 4 w:=fun l a g V d k _ q i =>
 Aa F n z B A l b c X Y m t a g (fun s W o h=>k s W (W.alloc o) none h (World.grownBy_alloc W o none) (fun r e=>by cases e)) q V ((d.cell (p:=⟨c,0,none⟩) j).trans y) ((d.cell (p:=⟨b,0,none⟩) f).trans u) ((d.cell (p:=⟨b,1,none⟩) f).trans v) i
end Go.Proofs.YtfjeonehdlphiaaGreatDoor
namespace Go.Proofs.YtfjeonehdlphiaaGreatDoor
open Go.RowKit
open _root_.Go.Proofs.Tryz
theorem y9 (q c:Nat):((q:Int) == (c:Int))=decide (q=c):=by
 by_cases h:q=c
 ·simp[h]
 ·rw[decide_eq_false h];simpa using fun e:(q:Int)=c=>h oM
theorem uq (p X Y:Nat) (b:p<=3) (w:World):Calls prog 126 #[Z G p,.agg #[Z G X,Z G Y]] w (rT w (Z G (ce p X Y:Nat))):=by
 go_enter func126,ntmps126;go_wp2_with fail
 refine (ur p X Y b _).mono ?_;rintro e w1 ⟨rfl,a⟩;go_wp2;go_ret;exact ⟨rfl,aG (aq _ _) a⟩
theorem DA (p X Y c b a:Nat) (A:p<=3) (w:World) (x:b<w.heap.size) (u:a<w.heap.size) (B:w.cell? ⟨b,0,none⟩=some (Z G p)) (C:w.cell? ⟨a,0,none⟩=some (Z G c)) :
  Calls prog 129 #[.agg #[Z G X,Z G Y],.pointer (some ⟨b,0,none⟩),.pointer (some ⟨a,0,none⟩)] w (rT w (.bool (decide (ce p X Y=c)))):=by
 have j:=qH (fun v=>uq p X Y A v);obtain ⟨q,m⟩:=eX (ce p X Y);rw[m] at j |-;clear m;have f:=qH (aq w (ka #[Z G X,Z G Y] 97));have k:=aD w (ka #[Z G X,Z G Y] 97);have o:=qH (y9 q c);go_enter func129,ntmps129;go_wp2_with fail
 have z:=lS k;generalize w.alloc _=U at *;have g:=qH (show ∀v,Below U.heap.size U v->v.cell? ⟨b,0,none⟩=some (Z G p)/\v.cell? ⟨a,0,none⟩=some (Z G c)/\v.cell? ⟨w.heap.size,0,none⟩=some (Z G X)/\v.cell? ⟨w.heap.size,1,none⟩=some (Z G Y) from fun v h=>by
  have n:=f.1.trans (h.mono f.1.size);have t:=(h.block _ z).trans k;exact ⟨(n.cell (p:=⟨b,0,none⟩) x).trans B,(n.cell (p:=⟨a,0,none⟩) u).trans C,kc t _,kc t _⟩)
 have i:Below U.heap.size U U.drew:=(km _ _).drew;have hSd:=g.1 _ i;refine cE 5 g.1 ?_;refine ct 0 ?_;refine ct 1 ?_;refine ct 3 ?_;refine aw 2 fun r d=>?_;go_simp;refine (j.1 _).mono ?_;rintro e s ⟨rfl,y⟩;have l:Below U.heap.size U s:=i.trans (y.mono i.size);have hSd:=g.1 _ l;refine d.out _ _ hSd ?_;clear d;try simp only[kd]
 refine ct 4 ?_;refine aS fun r d=>?_;go_simp;refine d.out _ _ ?_;clear d;try simp only[kd]
 go_wp2;go_ret;exact ⟨be o.1,f.1.trans (l.mono f.1.size)⟩
def fB (X:Nat) (x:Fin 8):Int:=(X:Int)-1+(bu x.1 % 3:Nat)
def cV (Y:Nat) (x:Fin 8):Int:=(Y:Int)-1+(bu x.1 / 3:Nat)
def ia (p X Y c:Nat) (x:Fin 8):Bool:=decide (ce p (fB X x).toNat (cV Y x).toNat=c)
def ek (zs:List Int) (W H p X Y c:Nat):Int:=if ce p X Y=c then aN zs (Y*W+X) else gl zs W H (fB X) (cV Y) (ia p X Y c)
theorem H8 (W H p X Y c f off ca:Nat) (hW1:1<=W) (T:W<=64) (hH1:1<=H) (S:H<=64) (hp:p<=3) (hX:X<W) (hY:Y<H) (zs:List Int) (B:zs.length=H*W) (hzs:az 0 65535 zs=true) (w:World) (I:f<w.heap.size) (A:∀j,j<zs.length->w.cell? ⟨f,off+j,none⟩=some (Z G (aN zs j))) :
  Calls prog 73 #[.agg #[Z G W,Z G H,J (some ⟨f,off,none⟩) zs.length ca],Z G p,.agg #[Z G X,Z G Y],Z G c] w (rT w (Z G (ek zs W H p X Y c))):=by
 have o:=qH (show ek zs W H p X Y c=if ce p X Y=c then aN zs (Y*W+X) else gl zs W H (fB X) (cV Y) (ia p X Y c) from rfl);generalize ek zs W H p X Y c=RES at *;have hl4:zs.length<=4096:=by rw[B];exact kv (zl S T) dD
 have ab:Y*W+X<zs.length:=by
  have h1:(Y+1)*W<=H*W:=kG _ hY;rw[xa] at h1;rw[B];omega
 have HC:=qH A;have L:=qH (fun v=>uq p X Y hp v);obtain ⟨N,O,P,Q,k⟩:=tG w (ka #[Z G W,Z G H,J (some ⟨f,off,none⟩) zs.length ca] 54) (ka #[Z G p] 3) (ka #[Z G X,Z G Y] 97) (ka #[Z G c] 3);have HMP:=qH (fun (u:World) (hu:Below w.heap.size w u) (i:Nat) (y:i<u.heap.size) (e0:u.cell? ⟨i,0,none⟩=some (Z G X)) (e1:u.cell? ⟨i,1,none⟩=some (Z G Y)) (hp1:w.heap.size+1<u.heap.size) (hp3:w.heap.size+3<u.heap.size) (k1:u.cell? ⟨w.heap.size+1,0,none⟩=some (Z G p)) (k2:u.cell? ⟨w.heap.size+3,0,none⟩=some (Z G c)) =>
  vw 8 W H f off ca oM hW1 T hH1 S zs B hzs 184 129 i #[.pointer (some ⟨i,0,none⟩)] #[.pointer (some ⟨w.heap.size+1,0,none⟩),.pointer (some ⟨w.heap.size+3,0,none⟩)] (fB X) (cV Y) (ia p X Y c) u (enters_of func184 kR rfl) (enters_of func129 kR rfl) y (ko I hu.size) (fun j hj=>(hu.cell (p:=⟨f,off+j,none⟩) I).trans (A j hj))
   (fun V l=>tR Fence.wide (3-1) trivial rfl oM i X Y oM oM V (ko y l.size) ((l.cell (p:=⟨i,0,none⟩) y).trans e0) ((l.cell (p:=⟨i,1,none⟩) y).trans e1))
   (fun x V hh l=>by
    have aa:0<=fB X x/\fB X x<W/\0<=cV Y x/\cV Y x<H:=(by simpa [bc] using hh);have h:=DA p (fB X x).toNat (cV Y x).toNat c (w.heap.size+1) (w.heap.size+3) hp V (ko hp1 l.size) (ko hp3 l.size) ((l.cell (p:=⟨w.heap.size+1,0,none⟩) hp1).trans k1) ((l.cell (p:=⟨w.heap.size+3,0,none⟩) hp3).trans k2);rw[Int.toNat_of_nonneg aa.1,Int.toNat_of_nonneg aa.2.2.1] at h;exact h))
 obtain ⟨t,E⟩:=eX (Y*W+X);rw[E] at o ab;have HIX:=qH (fun v=>iP W H X Y W t rfl E oM v);have K:=A t ab;obtain ⟨z,hz0⟩:=eX (aN zs t);rw[hz0] at K o;clear hz0 E A B hzs;obtain ⟨q,hq⟩:=eX (ce p X Y);rw[hq] at L o;clear hq;go_enter func73,ntmps73;go_wp2_with fail
 have hs4:((((w.alloc (ka #[Z G W,Z G H,J (some ⟨f,off,none⟩) zs.length ca] 54)).alloc (ka #[Z G p] 3)).alloc (ka #[Z G X,Z G Y] 97)).alloc (ka #[Z G c] 3)).heap.size=w.heap.size+4:=sS;generalize (((w.alloc _).alloc _).alloc _).alloc _=U at *;replace hs4:=Nat.le_of_eq hs4.symm;have d:=qH (show ∀v,Below U.heap.size U v->v.cell? ⟨w.heap.size,0,none⟩=some (Z G W)/\v.cell? ⟨w.heap.size,1,none⟩=some (Z G H)/\v.cell? ⟨w.heap.size,2,none⟩=some (J (some ⟨f,off,none⟩) zs.length ca)/\v.cell? ⟨w.heap.size+1,0,none⟩=some (Z G p)/\v.cell? ⟨w.heap.size+1+1,0,none⟩=some (Z G X)/\v.cell? ⟨w.heap.size+1+1,1,none⟩=some (Z G Y)/\v.cell? ⟨w.heap.size+1+1+1,0,none⟩=some (Z G c)/\v.cell? ⟨f,off+t,none⟩=some (Z G z) from fun v h=>by
  have hw:=k.1.trans (h.mono k.1.size);obtain ⟨t0,t1,t2⟩:=al ((h.block _ oM).trans N);have t3:=(h.block (w.heap.size+2) oM).trans P;exact ⟨t0,t1,t2,kc ((h.block (w.heap.size+1) oM).trans O) _,by rw[kc (b:=w.heap.size+1+1) t3];rfl,by rw[kc (b:=w.heap.size+1+1) t3];rfl,by rw[kc (b:=w.heap.size+1+1+1) ((h.block (w.heap.size+3) oM).trans Q)];rfl,(hw.cell (p:=⟨f,off+t,none⟩) I).trans K⟩)
 have F:Below U.heap.size U U.drew:=(km _ _).drew;have hSd:=d.1 _ F;have hklI:(t:Int)<(zs.length:Int):=oM;clear N O P Q K;refine cE 4 d.1 ?_;refine ct 0 ?_;refine ct 1 ?_;refine ct 3 ?_;refine aw 2 fun s a=>?_;go_simp;refine (L.1 _).mono ?_;rintro e g ⟨rfl,hbv⟩;have D:Below U.heap.size U g:=F.trans (hbv.mono F.size);have hSd:=d.1 _ D;refine a.out _ _ hSd ?_;clear a;try simp only[kd]
 refine aS fun s a=>?_;go_simp;refine a.out _ _ ?_;clear a;try simp only[kd]
 by_cases C:q=c
 ·rw[if_pos C] at o;have hd:((q:Int) == (c:Int))=true:=by simp[C]
  clear hSd;have m:Below U.heap.size U g.drew:=D.drew;have hSd:=d.1 _ m;go_wp2_with fail
  refine cE 11 d.1 ?_;refine ct 0 ?_;refine ct 1 ?_;refine ct 2 ?_;refine ct 3 ?_;refine ct 4 ?_;refine ct 5 ?_;refine ct 6 ?_;refine ct 7 ?_;refine aw 8 fun s a=>?_;go_simp;refine (HIX.1 _).mono ?_;rintro e M ⟨rfl,hbv2⟩;have r:Below U.heap.size U M:=m.trans (hbv2.mono m.size);have hSd:=d.1 _ r;refine a.out _ _ hSd ?_;clear a;try simp only[kd]
  refine ct 9 ?_;refine ct 10 ?_;refine aS fun s a=>?_;go_simp;refine a.out _ _ ?_;clear a;try simp only[kd]
  go_wp2;go_ret;exact ⟨aY o.1.symm,k.1.trans (r.mono k.1.size)⟩
 ·rw[if_neg C] at o;have hd:((q:Int) == (c:Int))=false:=by simpa using fun h:(q:Int)=c=>C oM
  clear hSd;have m:Below U.heap.size U g.drew:=D.drew;have hSd:=d.1 _ m;go_wp2_with fail
  refine cE 5 d.1 ?_;refine ct 0 ?_;refine ct 1 ?_;refine ct 3 ?_;refine aw 2 fun s a=>?_;go_simp;refine ((callsIn_wide (n:=3)).1 (tQ Fence.wide _ trivial rfl _ _ _)).mono ?_;rintro e M ⟨rfl,rfl⟩;have r:Below U.heap.size U (g.drew.alloc (ka #[Z G X,Z G Y] 97)):=m.alloc m.size _;have hSd:=d.1 _ r;refine a.out _ _ hSd ?_;clear a;try simp only[kd]
  refine aw 4 fun s a=>?_;go_simp;have hsU:U.heap.size<=g.heap.size:=m.size;have tB:(g.drew.alloc (ka #[Z G X,Z G Y] 97)).heap[g.drew.heap.size]?=some (.cells #[Z G X,Z G Y] 97 (0,0)):=aD g.drew _;refine (HMP.1 _ (k.1.trans (r.mono k.1.size)) g.drew.heap.size sS (kc tB _) (kc tB _) sO sO hSd.2.2.2.1 hSd.2.2.2.2.2.2.1).mono ?_;rintro e V3 ⟨rfl,hb3⟩;have R:Below U.heap.size U V3:=r.trans (hb3.mono r.size);have hSd:=d.1 _ R;refine a.out _ _ hSd ?_;clear a;try simp only[kd]
  refine aS fun s a=>?_;go_simp;refine a.out _ _ ?_;clear a;try simp only[kd]
  go_wp2;go_ret;exact ⟨aY o.1.symm,k.1.trans (R.mono k.1.size)⟩
def fI (zs:List Int) (W H p j:Nat):Px:=(ek zs W H p (j % W) (j / W) 0,ek zs W H p (j % W) (j / W) 1,ek zs W H p (j % W) (j / W) 2)
theorem AZ (W H p j f off ca:Nat) (hW1:1<=W) (hW:W<=64) (hH1:1<=H) (hH:H<=64) (hp:p<=3) (zs:List Int) (A:zs.length=H*W) (S:az 0 65535 zs=true) (s:j<zs.length) (a g:Nat) (w:World) (z:a<w.heap.size) (hBh:g<w.heap.size) (M:f<w.heap.size)
  (k0:w.cell? ⟨a,0,none⟩=some (Z G W)) (k1:w.cell? ⟨a,1,none⟩=some (Z G H)) (k2:w.cell? ⟨a,2,none⟩=some (J (some ⟨f,off,none⟩) zs.length ca)) (k3:w.cell? ⟨g,0,none⟩=some (Z G p))
  (N:∀j,j<zs.length->w.cell? ⟨f,off+j,none⟩=some (Z G (aN zs j))) :
  Calls prog 72 #[.agg #[Z G (j % W:Nat),Z G (j / W:Nat)],.pointer (some ⟨a,0,none⟩),.pointer (some ⟨g,0,none⟩)] w (rT w (dj (fI zs W H p j))):=by
 have K:j % W<W:=Nat.mod_lt _ oM;have L:j / W<H:=by rw[A] at s;exact Nat.div_lt_of_lt_mul (by rw[xc];exact s)
 have i:=qH (show fI zs W H p j=(ek zs W H p (j % W) (j / W) 0,ek zs W H p (j % W) (j / W) 1,ek zs W H p (j % W) (j / W) 2) from rfl);generalize fI zs W H p j=RES at *;obtain ⟨X,q⟩:=eX (j % W);obtain ⟨Y,r⟩:=eX (j / W);rw[q] at K;rw[r] at L;rw[q,r] at i;rw[q,r];clear q r;have l:=qH (fun (c:Nat) (v:World) (R:Below w.heap.size w v)=>H8 W H p X Y c f off ca hW1 hW hH1 hH hp K L zs A S v (ko M R.size) (fun j s=>(R.cell (p:=⟨f,off+j,none⟩) M).trans (N j s)));obtain ⟨T,O⟩:=eX (ek zs W H p X Y 0);obtain ⟨V,P⟩:=eX (ek zs W H p X Y 1);obtain ⟨r2,Q⟩:=eX (ek zs W H p X Y 2);have B:=qH (l.1 0);have C:=qH (l.1 1);have D:=qH (l.1 2);rw[O] at B i;rw[P] at C i;rw[Q] at D i;clear l O P Q N A S;have d:=qH (ea w (ka #[Z G X,Z G Y] 97) (ka #[Z G 0,Z G 0,Z G 0] 61));obtain ⟨E,F⟩:=df w (ka #[Z G X,Z G Y] 97) (ka #[Z G 0,Z G 0,Z G 0] 61);go_enter func72,ntmps72;go_wp2_with fail
 have hl1:=lS E;have hl2:=lS F;generalize (w.alloc _).alloc _=U at *;have k:=qH (show ∀v,Below U.heap.size U v->v.cell? ⟨a,0,none⟩=some (Z G W)/\v.cell? ⟨a,1,none⟩=some (Z G H)/\v.cell? ⟨a,2,none⟩=some (J (some ⟨f,off,none⟩) zs.length ca)/\v.cell? ⟨g,0,none⟩=some (Z G p)/\v.cell? ⟨w.heap.size,0,none⟩=some (Z G X)/\v.cell? ⟨w.heap.size,1,none⟩=some (Z G Y) from fun v h=>by
  have u:=d.1.trans (h.mono d.1.size);have t:=(h.block _ hl1).trans E;exact ⟨(u.cell (p:=⟨a,0,none⟩) z).trans k0,(u.cell (p:=⟨a,1,none⟩) z).trans k1,(u.cell (p:=⟨a,2,none⟩) z).trans k2,(u.cell (p:=⟨g,0,none⟩) hBh).trans k3,kc t _,kc t _⟩)
 have o:Below U.heap.size U U.drew:=(km _ _).drew;have hSd:=k.1 _ o;refine cE 13 k.1 ?_;refine ct 0 ?_;refine ct 1 ?_;refine ct 2 ?_;refine ct 4 ?_;refine ct 5 ?_;refine ct 6 ?_;refine ct 8 ?_;refine ct 9 ?_;refine ct 10 ?_;refine aw 3 fun x b=>?_;go_simp;refine (B.1 _ (d.1.trans (o.mono d.1.size))).mono ?_;rintro e V0 ⟨rfl,hbv0⟩;have m:Below U.heap.size U V0:=o.trans (hbv0.mono o.size);have hSd:=k.1 _ m;refine b.out _ _ hSd ?_;clear b;try simp only[kd]
 refine aw 7 fun x b=>?_;go_simp;refine (C.1 _ (d.1.trans (m.mono d.1.size))).mono ?_;rintro e V1 ⟨rfl,hbv1⟩;have n:Below U.heap.size U V1:=m.trans (hbv1.mono m.size);have hSd:=k.1 _ n;refine b.out _ _ hSd ?_;clear b;try simp only[kd]
 refine aw 11 fun x b=>?_;go_simp;refine (D.1 _ (d.1.trans (n.mono d.1.size))).mono ?_;rintro e V2 ⟨rfl,hbv2⟩;have y:Below U.heap.size U V2:=n.trans (hbv2.mono n.size);have hSd:=k.1 _ y;refine b.out _ _ hSd ?_;clear b;try simp only[kd]
 refine ct 12 ?_;have I:=(y.block (w.heap.size+1) hl2).trans F;obtain ⟨z0,z1,z2⟩:=al I;obtain ⟨f0,f1,f2⟩:=fZ I;refine aS fun x b=>?_;go_simp;refine b.out _ _ ?_;clear b;try simp only[kd]
 have HFIN:=qH (bf (d.1.trans (y.mono d.1.size)) (show w.heap.size<=w.heap.size+1 from oM) (Z G T) (Z G V) (Z G r2));go_wp2;exact bodyPost_ret (v:=.agg #[Z G T,Z G V,Z G r2]) (by simp[results,results72,go_sem,z0,z1,z2]) rfl ⟨by rw[i.1],HFIN.1⟩
def fH (W H:Int) (zs:List Int) (a:Int):Int:=if a7 W H zs=true then (if cW a=true then 0 else 3) else 1
def ip (W H:Int) (zs:List Int) (a:Int):List Px:=(xs zs.length).map (fI zs W.toNat H.toNat a.toNat)
theorem A0 (W H:Int) (v:Value) (zs:List Int) (b:Int) (w:World) (A:ap w v zs) (h0:fH W H zs b=0) :
  Calls prog 20 #[.agg #[Z G W,Z G H,v],Z G b] w fun e w'=>∃r,e=.returned (.tuple #[.agg #[Z G (aX (fH W H zs b) W),Z G (aX (fH W H zs b) H),r],Z G (fH W H zs b)])/\ax w' r (cO (fH W H zs b) (ip W H zs b))/\Below w.heap.size w w'/\ar w.heap.size r/\bI w' r:=by
 have Y:=qH A;obtain ⟨E,f⟩:=eX (fH W H zs b);have B:=qH (show E=0 from f.symm.trans h0);rw[f];by_cases k:a7 W H zs=true
 ·by_cases s:cW b=true
  ·have m:E=0:=(by rw[<-f,fH,if_pos k,if_pos s]);subst m;clear f;obtain ⟨⟨w1,w2⟩,⟨h1,h2⟩,P,_⟩:=eT k;have R:=jz k;have hph2:0<=b/\b<=3:=(by simpa [cW] using s);have hsm:=fq ⟨w1,w2⟩ ⟨h1,h2⟩;have hn1:1<=zs.length:=oM;obtain ⟨n,off,ca,rfl,M,O⟩:=A.cells hn1;obtain ⟨a,rfl⟩:=kh (show 0<=W from oM);obtain ⟨HN,rfl⟩:=kh (show 0<=H from oM);obtain ⟨c,rfl⟩:=kh hph2.1;have F:=qH (show zs.length=HN*a by rw[xc];exact_mod_cast P);have HZ:=qH R;have T:=qH O;rw[show aX 0 (a:Int)=a from rfl,show aX 0 (HN:Int)=HN from rfl,show cO 0 (ip (a:Int) (HN:Int) zs (c:Int))=(xs zs.length).map (fI zs a HN c) from rfl];clear P R O hsm A;go_enter func20,ntmps20;(go_wp2_with fail);obtain ⟨K,L,x,l⟩:=ku w (ka #[Z G (a:Nat),Z G (HN:Nat),J (some ⟨n,off,none⟩) zs.length ca] 54) (ka #[Z G (c:Nat)] 3) (ka #[Z G 0,Z G 0,J none 0 0] 24);have hs3:(((w.alloc (ka #[Z G (a:Nat),Z G (HN:Nat),J (some ⟨n,off,none⟩) zs.length ca] 54)).alloc (ka #[Z G (c:Nat)] 3)).alloc (ka #[Z G 0,Z G 0,J none 0 0] 24)).heap.size=w.heap.size+3:=sS;generalize ((w.alloc _).alloc _).alloc _=U at *;refine (ki a HN _ zs _ (Y.1.below l (kf _))).mono ?_;rintro e w1 ⟨rfl,y⟩;rw[k];have g2:=jQ ((y.block (w.heap.size+1) oM).trans L);have o:=(y.block (w.heap.size+1+1) oM).trans x;(go_wp2_with fail);refine (qi _ _).mono ?_;rintro e w2 ⟨rfl,g⟩;rw[s];clear g2;replace g:=aG y g;replace o:=(g.block (w.heap.size+1+1) oM).trans x;obtain ⟨p0,p1,p2⟩:=al ((g.block (w.heap.size) oM).trans K);(go_wp2_with fail);have z:=aG g (aq w2 (ka #[Z G (a:Nat),Z G (HN:Nat)] 95));have hs2:=g.size;clear p0 p1 p2;generalize w2.alloc _=S at *;refine (rF a HN zs.length oM oM F.1 72 #[.pointer (some ⟨w.heap.size,0,none⟩),.pointer (some ⟨w.heap.size+1,0,none⟩)] (fI zs a HN c) _ (enters_of func72 kR rfl) ?_).mono ?_
   ·intro j V hj hV;have d:=aG z hV;have N:=l.trans (d.mono l.size);obtain ⟨e0,e1,e2⟩:=al ((d.block (w.heap.size) oM).trans K);have e3:=jQ ((d.block (w.heap.size+1) oM).trans L);have hs:=d.size;exact AZ a HN c j n off ca oM oM oM oM oM zs F.1 HZ.1 hj w.heap.size (w.heap.size+1) V oM oM (ko M N.size) e0 e1 e2 e3 (fun i hi=>(N.cell (p:=⟨n,off+i,none⟩) M).trans (T.1 i hi))
   ·rintro e w3 ⟨r,rfl,Q,d,q,hfe⟩;replace d:=aG z d;replace o:=(d.block (w.heap.size+1+1) oM).trans x;obtain ⟨z0,z1,z2⟩:=al o;obtain ⟨f0,f1,f2⟩:=fZ o;have X:=qH Q;obtain ⟨u,t,rfl,_,_⟩:=Q;have D:=qH (bf (l.trans (d.mono l.size)) (show w.heap.size<=w.heap.size+1+1 from oM) (Z G (a:Nat)) (Z G (HN:Nat)) (J u ((xs zs.length).map (fI zs a HN c)).length t));have hsG:=z.size;have I:=qH (X.1.set3 q (show w.heap.size+1+1<S.heap.size from oM) (Z G (a:Nat)) (Z G (HN:Nat)) (J u ((xs zs.length).map (fI zs a HN c)).length t));have C:=qH (hfe.set3 q (show w.heap.size+1+1<S.heap.size from oM) (Z G (a:Nat)) (Z G (HN:Nat)) (J u ((xs zs.length).map (fI zs a HN c)).length t));rw[xe,List.length_range] at I D q C;rw[xe,List.length_range];go_wp2;exact bodyPost_ret (v:=.tuple #[.agg #[Z G (a:Nat),Z G (HN:Nat),J u zs.length t],Z G 0]) (by simp[results,results20,go_sem,z0,z1,z2]) rfl ⟨_,rfl,I.1,D.1,q.mono oM,C.1⟩
  ·have m:E=3:=(by rw[<-f,fH,if_pos k,if_neg s]);exact absurd (m.symm.trans B.1) dD
 ·have m:E=1:=by rw[<-f,fH,if_neg k]
  exact absurd (m.symm.trans B.1) dD
theorem A3 (W H:Int) (v:Value) (zs:List Int) (a:Int) (w:World) (h:ap w v zs) (b:fH W H zs a=0) :
  Calls prog 20 #[.agg #[Z G W,Z G H,v],Z G a] w fun e w'=>∃r,e=.returned (.tuple #[.agg #[Z G (aX (fH W H zs a) W),Z G (aX (fH W H zs a) H),r],Z G (fH W H zs a)])/\ax w' r (cO (fH W H zs a) (ip W H zs a))/\Below w.heap.size w w'/\ar w.heap.size r :=
 (A0 W H v zs a w h b).mono fun _ _ ⟨r,c,d,f,g,_⟩=>⟨r,c,d,f,g⟩
end Go.Proofs.YtfjeonehdlphiaaGreatDoor
namespace Go.Proofs.YtfjeonehdlphiaaGreatDoor
open _root_.Go.Proofs.Tryz
open Go.RowKit Go.Shelf
attribute [local go_sem] Oper.semAt_some
theorem yB {P:Program} {c:Code} {Q:Exit->Act->World->Prop} {a:Act} {w:World} (R:Act->World->Prop) (d:c.wp P (Exit.then R Q) a w) (f:∀b w',R b w'->Q .normal b w'):c.wp P Q a w :=
 wp_mono d fun e b w' h=>by
  cases e with
  | normal=>exact f b w' h
  | _=>exact h
theorem G5 (W H X Y i off ca:Nat) (hW1:1<=W) (hW:W<=64) (hH1:1<=H) (hH:H<=64) (hX:X<W) (hY:Y<H) (ps:List Px) (hlen:ps.length=H*W) (hps:eu ps=true) (w:World)
    (hbk:i<w.heap.size) (hcell:∀j,j<ps.length->w.cell? ⟨i,off+j*3,none⟩=some (Z G (aB ps j).1)/\w.cell? ⟨i,off+j*3+1,none⟩=some (Z G (aB ps j).2.1)/\w.cell? ⟨i,off+j*3+2,none⟩=some (Z G (aB ps j).2.2)) :
    Calls prog 281 #[.agg #[Z G W,Z G H,J (some ⟨i,off,none⟩) ps.length ca],.agg #[Z G X,Z G Y]] w (rT w (dj (wF ps W H X Y (zc 8)))):=by
  have hl4:ps.length<=4096:=by rw[hlen];exact kv (zl hH hW) dD
  have hjl:Y*W+X<ps.length:=by
    have h1:(Y+1)*W<=H*W:=kG _ hY;rw[xa] at h1;rw[hlen];omega
  have HLEN:=qH hlen;have HPS:=qH hps;have HC:=qH hcell;clear hlen hps hcell;refine (callsIn_wide (n:=3)).1 ?_;refine callsIn_of_wp_marks func281 rfl trivial ?_ rfl;simp only[ntmps281,List.size_toArray,List.length_cons,List.length_nil,Nat.reduceAdd,Nat.reduceSub,Array.replicate_succ,Array.replicate_zero,List.push_toArray,List.append_toArray,List.nil_append,List.cons_append]
  gi_wp2_with fail;refine wpIn_wide.2 ?_;obtain ⟨a1,a2,a3,a4,S⟩:=jM w (ka #[Z G W,Z G H,J (some ⟨i,off,none⟩) ps.length ca] 24) (ka #[Z G X,Z G Y] 97) (ka #[Z G 0,Z G 0,Z G 0] 61) (ka #[Z G W,Z G H] 95);have hs4:((((w.alloc (ka #[Z G W,Z G H,J (some ⟨i,off,none⟩) ps.length ca] 24)).alloc (ka #[Z G X,Z G Y] 97)).alloc (ka #[Z G 0,Z G 0,Z G 0] 61)).alloc (ka #[Z G W,Z G H] 95)).heap.size=w.heap.size+4:=sS;generalize (((w.alloc _).alloc _).alloc _).alloc _=U at *;replace hs4:=Nat.le_of_eq hs4.symm;obtain ⟨⟨r,g,u⟩,hp⟩:∃p,aB ps (Y*W+X)=p:=⟨_,rfl⟩;have hpk:=kl HPS.1 (Y*W+X);have HS0:=qH (show wF ps W H X Y []=iF (0,0,0) 4 (r,g,u) by rw[<-hp];rfl);have HS0b:=qH (sz (th HPS.1 W H X Y []) (show 4+2*((([]:List (Fin 8)).length:Nat):Int)<=32 from dD));have R:=qH (show ∀w',Below U.heap.size U w'->(w'.cell? ⟨w.heap.size,2,none⟩=some (J (some ⟨i,off,none⟩) ps.length ca)/\w'.cell? ⟨w.heap.size+3,0,none⟩=some (Z G W)/\w'.cell? ⟨w.heap.size+3,1,none⟩=some (Z G H)/\w'.cell? ⟨w.heap.size+1,0,none⟩=some (Z G X)/\w'.cell? ⟨w.heap.size+1,1,none⟩=some (Z G Y) /\
      w'.cell? ⟨i,off+(Y*W+X)*3,none⟩=some (Z G r)/\w'.cell? ⟨i,off+(Y*W+X)*3+1,none⟩=some (Z G g)/\w'.cell? ⟨i,off+(Y*W+X)*3+2,none⟩=some (Z G u)) from fun w' h=>by
    have hV:=S.trans (h.mono S.size);obtain ⟨_,_,q2⟩:=al ((h.block w.heap.size oM).trans a1);have g2:=(h.block (w.heap.size+1) oM).trans a2;have g4:=(h.block (w.heap.size+3) oM).trans a4;obtain ⟨c0,c1,c2⟩:=HC.1 _ hjl;rw[hp] at c0 c1 c2;exact ⟨q2,kc g4 _,kc g4 _,kc g2 _,kc g2 _,(hV.cell (p:=⟨i,off+(Y*W+X)*3,none⟩) hbk).trans c0,(hV.cell (p:=⟨i,off+(Y*W+X)*3+1,none⟩) hbk).trans c1,(hV.cell (p:=⟨i,off+(Y*W+X)*3+2,none⟩) hbk).trans c2⟩)
  obtain ⟨a,hJ⟩:=eX (Y*W+X);have HIX:=qH (show ∀w',Below U.heap.size U w'->Calls prog 42 #[.agg #[Z G W,Z G H],.agg #[Z G X,Z G Y]] w' fun e w''=>e=.returned (Z G a)/\Below U.heap.size U w''/\Below w'.heap.size w' w'' from fun w' h =>
    (iP W H X Y W a rfl hJ oM w').mono fun e w'' h2=>⟨h2.1,h.trans (h2.2.mono h.size),h2.2⟩)
  rw[hp] at hpk;have HWE:=qH (show ∀w',Below U.heap.size U w'->Calls prog 282 #[.agg #[Z G 0,Z G 0,Z G 0],.agg #[Z G r,Z G g,Z G u],Z G 4] w' fun e w''=>e=.returned (dj (wF ps W H X Y []))/\Below U.heap.size U w''/\Below w'.heap.size w' w'' from fun w' h=>by
    rw[HS0.1];exact (yl (0,0,0) (r,g,u) 4 oM oM ⟨⟨dD,dD⟩,⟨dD,dD⟩,dD,dD⟩ hpk w').mono fun e w'' h2=>⟨h2.1,h.trans (h2.2.mono h.size),h2.2⟩)
  rw[hJ] at R hjl;clear hpk hp;obtain ⟨⟨s0,s1,s2⟩,hs⟩:∃s,wF ps W H X Y []=s:=⟨_,rfl⟩;rw[hs] at HWE HS0b;have HSS:=qH hs;clear hs HS0 hJ;have HSA:=qH (show ∀w' o,Below U.heap.size U w'->Below U.heap.size U (w'.alloc o) from fun w' o h=>h.alloc h.size o);have HS3:=qH (show ∀w' b x y z,Below U.heap.size U w'->U.heap.size<=b->Below U.heap.size U (((w'.setCell ⟨b,0,none⟩ x).setCell ⟨b,1,none⟩ y).setCell ⟨b,2,none⟩ z) from fun w' b x y z h hb=>bf h hb x y z);have hdrew:Below U.heap.size U U.drew:=(km _ _).drew;have hdrewA:Below U.heap.size U (U.alloc (ka #[Z G 0,Z G 0,Z G 0] 61)).drew:=kX (aq _ _);have HZU:=qH (show (U.alloc (ka #[Z G 0,Z G 0,Z G 0] 61)).drew.heap[U.heap.size]?=some (.cells #[Z G 0,Z G 0,Z G 0] 61 (0,0)) from aD U _);refine yB (fun a' V=>∃q,a'={ tmps:=#[.agg #[Z G W,Z G H,J (some ⟨i,off,none⟩) ps.length ca],.agg #[Z G X,Z G Y],.pointer (some ⟨w.heap.size,0,none⟩),.pointer (some ⟨w.heap.size+1,0,none⟩),.pointer (some ⟨w.heap.size+1+1,0,none⟩),.pointer (some ⟨w.heap.size+1+1+1,0,none⟩),.pointer (some ⟨q,0,none⟩),undef,undef,.pointer (some ⟨w.heap.size,0,none⟩),Z G W,.pointer (some ⟨w.heap.size,1,none⟩),Z G H,.agg #[Z G W,Z G H],.agg #[Z G 0,Z G 0,Z G 0],.pointer (some ⟨w.heap.size,2,none⟩),J (some ⟨i,off,none⟩) ps.length ca,.agg #[Z G W,Z G H],.agg #[Z G X,Z G Y],Z G a,.pointer (some ⟨i,off+a*3,none⟩),.agg #[Z G r,Z G g,Z G u],dj (s0,s1,s2),undef,undef,undef,undef,undef,undef,undef,undef,undef,undef,undef,undef,undef,undef,undef,undef,undef,undef,undef,undef,undef,undef,undef,undef,undef,undef,undef,undef],defers:=[] }/\Below U.heap.size U V/\V.heap[q]?=some (.cells #[Z G s0,Z G s1,Z G s2] 61 (0,0))/\U.heap.size<=q) ?_ ?_;rotate_left
  · rintro a' V ⟨q, rfl, vB, vS, hSB⟩;obtain ⟨k1,k2,k3,k4,k5,k6,k7,k8⟩:=R.1 V vB
    gi_wp2_with fail;refine ⟨trivial,?_⟩;refine (tQ Fence.wide _ trivial rfl _ _ _).mono ?_;rintro e w' ⟨rfl,rfl⟩
    gi_wp2_with fail;have hsV:=vB.size;have hlS:=lS vS;have n0:=aD V (ka #[Z G X,Z G Y] 97);have hs0:(V.alloc (ka #[Z G X,Z G Y] 97)).heap.size=V.heap.size+1:=sS;have j0:(V.alloc (ka #[Z G X,Z G Y] 97)).heap[q]?=some (.cells #[Z G s0,Z G s1,Z G s2] 61 (0,0)):=(kw _ _ _ hlS).trans vS;have hB0:Below U.heap.size U (V.alloc (ka #[Z G X,Z G Y] 97)):=vB.alloc vB.size _;generalize V.alloc _=W0 at *;refine wpIn_rangeFunc_ownH (α:=Fin 8) rfl (show 1<=3 from oM) (gf:=184) (lb:=#[.pointer (some ⟨V.heap.size,0,none⟩)]) rfl trivial (enters_of func184 kR rfl)
      (tR Fence.wide (3-1) trivial rfl oM V.heap.size X Y oM oM W0 oM (kc n0 _) (kc n0 _)) (fun {A B C} h k=>h.trans' k) (fun X l o o' hl _ _ _=>pC oM) (km _ _) (fun _=>rfl)
      (fun T f=>f.heap[q]?=some (.cells (mj (wF ps W H X Y T)) 61 (0,0))/\f.heap[V.heap.size]?=some (.cells #[Z G X,Z G Y] 97 (0,0))/\Below U.heap.size U f)
      (fun _ _ _=>False)
      (fun s X Y row ⟨b1,b2,b3⟩ hg hr=>⟨fj hg hr b1,fj hg hr b2,ownFrom_below (β:=Unit) (kf _) oM () X Y row b3 hg hr⟩)
      (fun _ _ _ _ _ hs _ _=>hs)
      ⟨by rw[HSS.1];exact j0,n0,hB0⟩
      (fun x a' f=>∃I,W0.heap.size<=I/\f.heap[I]?=some (.cells #[Z G ((X:Int)-1+(bu x.1 % 3:Nat)),Z G ((Y:Int)-1+(bu x.1 / 3:Nat))] 97 (0,0))/\a'={ tmps:=#[.agg #[Z G W,Z G H,J (some ⟨i,off,none⟩) ps.length ca],.agg #[Z G X,Z G Y],.pointer (some ⟨w.heap.size,0,none⟩),.pointer (some ⟨w.heap.size+1,0,none⟩),.pointer (some ⟨w.heap.size+1+1,0,none⟩),.pointer (some ⟨w.heap.size+1+1+1,0,none⟩),.pointer (some ⟨q,0,none⟩),.pointer (some ⟨I,0,none⟩),undef,.pointer (some ⟨w.heap.size,0,none⟩),Z G W,.pointer (some ⟨w.heap.size,1,none⟩),Z G H,.agg #[Z G W,Z G H],.agg #[Z G 0,Z G 0,Z G 0],.pointer (some ⟨w.heap.size,2,none⟩),J (some ⟨i,off,none⟩) ps.length ca,.agg #[Z G W,Z G H],.agg #[Z G X,Z G Y],Z G a,.pointer (some ⟨i,off+a*3,none⟩),.agg #[Z G r,Z G g,Z G u],dj (s0,s1,s2),.agg #[Z G X,Z G Y],.func (.func 184) #[] #[.pointer (some ⟨V.heap.size,0,none⟩)],.agg #[Z G ((X:Int)-1+(bu x.1 % 3:Nat)),Z G ((Y:Int)-1+(bu x.1 / 3:Nat))],undef,undef,undef,undef,undef,undef,undef,undef,undef,undef,undef,undef,undef,undef,undef,undef,undef,undef,undef,undef,undef,undef,undef,undef,undef],defers:=[] })
      (fun x a' _ X Y row ⟨I,b1,b2,b3⟩ hg hr=>⟨I,b1,fj hg hr b2,b3⟩)
      ?assign ?body ?done ?stop
    case assign =>
      rintro l T x f K ⟨E,Q,O⟩ m;have hl1:=lS E;have hl2:=lS Q;have hl3:=O.size
      gi_wp2;exact m _ _ ((KeepsOthers.alloc _ _).from _) (kw _ _ _ hl2) ⟨(kw _ _ _ hl1).trans E,(kw _ _ _ hl2).trans Q,O.alloc hl3 _⟩ ⟨f.heap.size,oM,aD f _,rfl⟩
    case body =>
      rintro l T x a' f hl ⟨rr,hrr⟩ ⟨E,Q,O⟩ ⟨I,hBx,bX,rfl⟩ hlt;have HWU:=qH (sz (th HPS.1 W H X Y T) (show 4+2*(T.length:Int)<=32 from oM));have HSN:=qH (G2 ps W H X Y T x);have hn3:bu x.1 % 3<3:=oM;have hn9:bu x.1 / 3<3:=(by have:=x.2;unfold bu;split<;>omega);obtain ⟨F,hxa⟩:=eX ((X:Int)-1+(bu x.1 % 3:Nat));obtain ⟨M,hyb⟩:=eX ((Y:Int)-1+(bu x.1 / 3:Nat));have hxb:-1<=F/\F<=66:=oM;have hybb:-1<=M/\M<=66:=oM;have HNW:=jY W F oM;have HNH:=jY H M oM;obtain ⟨NX,hNX⟩:=kh HNW.1;obtain ⟨NY,hNY⟩:=kh HNH.1;obtain ⟨K,m⟩:=eX (fr W H X Y x.1);have hKL:K<ps.length:=(by rw[HLEN.1,<-m];exact G3 hW1 hH1 X Y x.1);have HKE:=qH (show NY*W+NX=K by rw[<-m,fr,hxa,hyb,hNX,hNY];rfl);obtain ⟨⟨pr,pg,pu⟩,hpp⟩:∃p,aB ps K=p:=⟨_,rfl⟩;have hpk:=kl HPS.1 K;obtain ⟨cc0,cc1,cc2⟩:=HC.1 K hKL;rw[hpp] at cc0 cc1 cc2 hpk;rw[m,hpp] at HSN;have HWT:=ti x.1;have HWD:=qH (show (F=(X:Int)\/M=(Y:Int)->eN x.1=2)/\(¬F=(X:Int)->¬M=(Y:Int)->eN x.1=1) from ⟨fun h=>by rw[eN,if_pos oM],fun h1 h2=>by rw[eN,if_neg oM]⟩);rw[hxa,hyb] at bX |-;generalize wF ps W H X Y T=sm at *;obtain ⟨m0,m1,m2⟩:=sm;obtain ⟨⟨nn0,nn1,nn2⟩,hnn⟩:∃n,iF (m0,m1,m2) (eN x.1) (pr,pg,pu)=n:=⟨_,rfl⟩;rw[hnn] at HSN;have HWE2:=qH (fun (v:World)=>yl (m0,m1,m2) (pr,pg,pu) (eN x.1) HWT.1 oM HWU.1 hpk v);rw[hnn] at HWE2;have HNE:=qH (fun (v:World)=>CX W H F M oM oM oM oM hxb.1 hxb.2 hybb.1 hybb.2 v);rw[hNX,hNY] at HNE;have HIX2:=qH (fun (v:World)=>iP W H NX NY W K rfl HKE.1 oM v);have hsz:=O.size;have hlS':=lS E;have hlX:=lS bX;have hSX:q≠I:=fun e=>(by rw[e] at E;rw[E] at bX;simp only[Option.some.injEq,ka.injEq] at bX;exact absurd bX.2.1 dD);have hSG:q≠V.heap.size:=fun e=>(by rw[e] at E;rw[E] at Q;simp only[Option.some.injEq,ka.injEq] at Q;exact absurd Q.2.1 dD);have HS2:=qH (show ∀v,Below f.heap.size f v->v.cell? ⟨w.heap.size,2,none⟩=some (J (some ⟨i,off,none⟩) ps.length ca)/\v.cell? ⟨w.heap.size+3,0,none⟩=some (Z G W)/\v.cell? ⟨w.heap.size+3,1,none⟩=some (Z G H)/\v.cell? ⟨I,0,none⟩=some (Z G F)/\v.cell? ⟨I,1,none⟩=some (Z G M)/\v.cell? ⟨i,off+K*3,none⟩=some (Z G pr)/\v.cell? ⟨i,off+K*3+1,none⟩=some (Z G pg)/\v.cell? ⟨i,off+K*3+2,none⟩=some (Z G pu)/\v.cell? ⟨q,0,none⟩=some (Z G m0)/\v.cell? ⟨q,1,none⟩=some (Z G m1)/\v.cell? ⟨q,2,none⟩=some (Z G m2) from fun v h=>by
        have hUv:=O.trans (h.mono hsz);obtain ⟨o1,o2,o3,_⟩:=R.1 v hUv;have gx:=(h.block I hlX).trans bX;have L:=S.trans (hUv.mono S.size);exact ⟨o1,o2,o3,kc gx _,kc gx _,(L.cell (p:=⟨i,off+K*3,none⟩) hbk).trans cc0,(L.cell (p:=⟨i,off+K*3+1,none⟩) hbk).trans cc1,(L.cell (p:=⟨i,off+K*3+2,none⟩) hbk).trans cc2,al ((h.block q hlS').trans E)⟩)
      have HTL:=qH (fun (v:World) (h:Below f.heap.size f v)=>show ∃z,z=(((v.setCell ⟨q,0,none⟩ (Z G nn0)).setCell ⟨q,1,none⟩ (Z G nn1)).setCell ⟨q,2,none⟩ (Z G nn2))/\(v.frozen? ⟨q,0,none⟩=false/\v.frozen? ⟨q,1,none⟩=false/\v.frozen? ⟨q,2,none⟩=false)/\KeepsFrom W0.heap.size f z/\fF V.heap.size f z/\z.heap[q]?=some (.cells (mj (wF ps W H X Y (T++[x]))) 61 (0,0))/\z.heap[V.heap.size]?=some (.cells #[Z G X,Z G Y] 97 (0,0))/\Below U.heap.size U z from by
        have gS:=(h.block q hlS').trans E;have gV:=(h.block V.heap.size (lS Q)).trans Q;have hUv:=O.trans (h.mono hsz);obtain ⟨x1,x2,x3,x4⟩:=eo gS (Z G nn0) (Z G nn1) (Z G nn2) U hSB hUv;refine ⟨_,rfl,⟨kb gS 0,kb gS 1,kb gS 2⟩,⟨?_,fun k o _ hk hoc=>?_⟩,?_,?_,?_,x4⟩
        · rw [x3]; exact h.size
        · have hkl := (lS hk);rw[x2 k (fun e=>by rw[e,E] at hk;cases hk;cases hoc),h.block k hkl];exact hk
        · show _ = _;rw[x2 _ (Ne.symm hSG),gV,Q]
        · rw [HSN.1]; exact x1
        · rw [x2 _ (Ne.symm hSG)]; exact gV)
      have hWd:Below f.heap.size f f.drew:=(km _ _).drew;have c10:f.cell? ⟨w.heap.size+1,0,none⟩=some (Z G X):=(R.1 _ O).2.2.2.1;have c11:f.cell? ⟨w.heap.size+1,1,none⟩=some (Z G Y):=(R.1 _ O).2.2.2.2.1;have cx0:f.cell? ⟨I,0,none⟩=some (Z G F):=kc bX _;have cx1:f.cell? ⟨I,1,none⟩=some (Z G M):=kc bX _;clear hpk cc0 cc1 cc2 hnn hpp m HNW HNH hNX hNY hxa hyb hn3 hn9;have hcases:(F=(X:Int))\/(¬F=(X:Int)/\M=(Y:Int))\/(¬F=(X:Int)/\¬M=(Y:Int)):=oM;obtain ⟨wt,hwt⟩:=eX (eN x.1);rw[hwt] at HWD HWE2;rcases hcases with P|⟨P,hc2⟩|⟨P,hc2⟩;all_goals first
        | (have hbx:(F == (X:Int))=true:=by simpa using P
           have aa:=qH (HWD.1.1 (.inl P))
           clear P HWD
           gi_wp2_with fail
           generalize L:Z G 2=wv
           have HWV:=qH (show wv=Z G wt by rw[<-L,aa.1])
           clear L aa)
        | (have hbx:(F == (X:Int))=false:=by simpa using P
           have hby:(M == (Y:Int))=true:=by simpa using hc2
           have aa:=qH (HWD.1.1 (.inr hc2))
           clear P hc2 HWD
           gi_wp2_with fail
           generalize L:Z G 2=wv
           have HWV:=qH (show wv=Z G wt by rw[<-L,aa.1])
           clear L aa)
        | (have hbx:(F == (X:Int))=false:=by simpa using P
           have hby:(M == (Y:Int))=false:=by simpa using hc2
           have aa:=qH (HWD.1.2 P hc2)
           clear P hc2 HWD
           gi_wp2_with fail
           generalize L:Z G 1=wv
           have HWV:=qH (show wv=Z G wt by rw[<-L,aa.1])
           clear L aa)
      all_goals
        have hSd:=HS2.1 _ hWd;refine sC 12 HS2.1 ?_;refine ak 0 ?_;refine ak 1 ?_;refine ak 3 ?_;refine ak 4 ?_;refine ak 5 ?_;refine ak 10 ?_;refine ak 2 ?_;refine aw 6 fun K' m=>?_;go_simp;refine (HNE.1 _).mono ?_;rintro e V2 ⟨rfl,hb2⟩;have hB2:Below f.heap.size f V2:=hWd.trans (hb2.mono hWd.size);have hSd:=HS2.1 _ hB2;refine m.out _ _ hSd ?_;clear m;(try simp only[kd]);refine aw 7 fun K' m=>?_;go_simp;refine (HIX2.1 _).mono ?_;rintro e V3 ⟨rfl,hb3⟩;have hB3:Below f.heap.size f V3:=hB2.trans (hb3.mono hB2.size);have hSd:=HS2.1 _ hB3;refine m.out _ _ hSd ?_;clear m;(try simp only[kd]);refine ak 8 ?_;refine ak 9 ?_;refine aw 11 fun K' m=>?_;go_simp;rw[HWV.1];refine (HWE2.1 _).mono ?_;rintro e V4 ⟨rfl,hb4⟩;have S:Below f.heap.size f V4:=hB3.trans (hb4.mono hB3.size);obtain ⟨ZZ,hZZ,⟨qf0,qf1,qf2⟩,HT2⟩:=HTL.1 _ S;have hSd:=HS2.1 _ S;refine m.out _ _ hSd ?_;clear m;(try simp only[kd]);refine aS fun K' m=>?_;obtain ⟨_,_,_,_,_,_,_,_,q0,q1,q2⟩:=hSd;go_simp;refine m.out _ _ ?_;clear m;(try simp only[kd]);rw[<-hZZ];exact HT2
    case done =>
      rintro D ys f hD rfl ⟨E,Q,O⟩ m;obtain ⟨⟨t0,t1,t2⟩,ht⟩:∃t,wF ps W H X Y (zc 8)=t:=⟨_,rfl⟩;rw[ht] at E;have HT:=qH ht;clear ht;obtain ⟨p0,p1,p2⟩:=al E;have i4:=(O.block (w.heap.size+1+1) oM).trans a3;obtain ⟨r0,r1,r2⟩:=al i4;obtain ⟨f0,f1,f2⟩:=fZ i4;have hBw:=S.trans (O.mono S.size)
      gi_wp2;obtain ⟨x1,x2,x3,x4⟩:=eo i4 (Z G t0) (Z G t1) (Z G t2) w oM hBw;have hDr:D≠w.heap.size+1+1:=fun e=>(by rw[e,i4] at m;cases m);replace m:=(x2 D hDr).trans m;generalize ((f.setCell _ _).setCell _ _).setCell _ _=d at *;refine ⟨sS,.inl ⟨_,_,rfl,run_takeDeferred m,?_⟩⟩;have y1:=(World.putObj_heap_other (w:=d) (o:=.deferred none) (Ne.symm hDr)).trans x1;have y3:Below w.heap.size w (d.putObj D (.deferred none)):=x4.trans (belowK_b (w:=w) (kf _) d D _ _ oM m rfl rfl);obtain ⟨c0,c1,c2⟩:=al y1;generalize d.putObj D (.deferred none)=Y' at *;exact ⟨.agg #[Z G t0,Z G t1,Z G t2],by simp[results,results281,go_sem,c0,c1,c2],by rw[HT.1],y3⟩
    case stop=>rintro D c T f _ _ h _;exact h.elim
  go_region_held3 (fun w'=>(w'.cell? ⟨w.heap.size,2,none⟩=some (J (some ⟨i,off,none⟩) ps.length ca)/\w'.cell? ⟨w.heap.size+3,0,none⟩=some (Z G W)/\w'.cell? ⟨w.heap.size+3,1,none⟩=some (Z G H)/\w'.cell? ⟨w.heap.size+1,0,none⟩=some (Z G X)/\w'.cell? ⟨w.heap.size+1,1,none⟩=some (Z G Y) /\
      w'.cell? ⟨i,off+a*3,none⟩=some (Z G r)/\w'.cell? ⟨i,off+a*3+1,none⟩=some (Z G g)/\w'.cell? ⟨i,off+a*3+2,none⟩=some (Z G u)))
    (first|(refine R.1 _ ?_;assumption)|(refine R.1 _ (HSA.1 _ _ ?_);assumption)|(refine R.1 _ (HS3.1 _ _ _ _ _ ?_ ?_);assumption;omega)|(refine R.1 _ (HS3.1 _ _ _ _ _ (HSA.1 _ _ ?_) ?_);assumption;omega))
    (first
      | (go_at_call 42;refine (HIX.1 _ ?_).mono ?_;(first|assumption|(refine HSA.1 _ _ ?_;assumption));rintro e wx ⟨rfl,hN,hNx⟩;have hszU:=hN.size;(first|(have hz:=(hNx.block U.heap.size sS).trans HZU.1;have hszz:=lS hz)|skip))
      | (go_at_call 282;refine (HWE.1 _ ?_).mono ?_;(first|assumption|(refine HSA.1 _ _ ?_;assumption));rintro e wy ⟨rfl,hN2,hNy⟩;have hszV:=hN2.size;(first|(have N:=(hNy.block U.heap.size hszz).trans hz;obtain ⟨z0,z1,z2⟩:=al N;have f0:=kb N 0;have f1:=kb N 1;have f2:=kb N 2)|(have N:=(hNy.block wx.heap.size sS).trans (aD wx _);obtain ⟨z0,z1,z2⟩:=al N;have f0:=kb N 0;have f1:=kb N 1;have f2:=kb N 2)|skip)))
  all_goals first
    | exact ⟨wy.heap.size,rfl,HSA.1 wy _ hN2,aD wy _,hszV⟩
    | exact ⟨wx.heap.size,rfl,HS3.1 wy wx.heap.size _ _ _ hN2 hszU,(eo N (Z G s0) (Z G s1) (Z G s2) U hszU hN2).1,hszU⟩
    | exact ⟨U.heap.size,rfl,HS3.1 wy U.heap.size _ _ _ hN2 (kf _),(eo N (Z G s0) (Z G s1) (Z G s2) U (kf _) hN2).1,kf _⟩
end Go.Proofs.YtfjeonehdlphiaaGreatDoor
namespace Go.Proofs.YtfjeonehdlphiaaGreatDoor
open Go.RowKit
open _root_.Go.Proofs.Tryz
def ij (p s a:Int):Int:=bQ (p+(p-s / 16)*a / 256)
theorem FS (p s c:Int) (x:0<=p) (y:p<=65535) (z:0<=s) (B:s<=2097120) (m:0<=c) (n:c<=1024) (f:Nat) (V:World) (t:V.cell? ⟨f,0,none⟩=some (Z G c)) :
  Calls prog 279 #[Z G p,Z G s,.pointer (some ⟨f,0,none⟩)] V (rQ V (Z G (ij p s c))):=by
 have d:=qH (show ij p s c=bQ (p+(p-s / 16)*c / 256) from rfl);generalize ij p s c=R at *;obtain ⟨b,o⟩:=eX (s / 16);have g:0<=b/\b<=131070:=oM;rw[o] at d;have j:=hG (a:=p-b) (r:=c) (A:=131070) (R:=1024) oM oM m n oM;obtain ⟨M,l⟩:=eX ((p-b)*c);rw[l] at d j;obtain ⟨v,w⟩:=j;obtain ⟨g,q⟩:=g;obtain ⟨D,k⟩:=eX (M / 256);have i:-524280<=D/\D<=524280:=oM;obtain ⟨i,u⟩:=i;rw[k] at d;go_enter func279,ntmps279;go_wp2_with (go_at_call 257;refine (px _ _).mono ?_;rintro e w' ⟨rfl,rfl⟩)
 go_ret;exact ⟨aY d.1.symm,rfl⟩
end Go.Proofs.YtfjeonehdlphiaaGreatDoor
