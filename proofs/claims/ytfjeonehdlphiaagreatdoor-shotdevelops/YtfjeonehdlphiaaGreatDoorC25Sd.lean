/- Part 25. -/
import Derived.Test.YtfjeonehdlphiaaGreatDoorC16Sd
import Derived.Test.YtfjeonehdlphiaaGreatDoorC24Sd
import Derived.Laws.EntriesVeiled
open Go.Obj renaming cells → ka
open Go.Lib renaming cell_of_heap → kb
open Go.Act renaming put → kc
open Nat renaming le_refl → kf, lt_of_lt_of_le → km, le_trans → ko, zero_le → kG, mul_le_mul_right → xa, succ_mul → xc, mul_comm → xe, mul_le_mul → zo, one_pos → zv
open Int renaming eq_ofNat_of_zero_le → kh
open List renaming take_succ_eq_append_getElem → kw, length_map → yb, range → ys
open Go.World renaming size_alloc → zc, news_of_block → zl
open Option renaming some.inj → zB
open Go.Value renaming int → Z, slice → J
open Go.IntKind renaming i64 → G
set_option linter.unusedVariables false
set_option maxHeartbeats 16000000
set_option maxRecDepth 100000
namespace Go.Proofs.YtfjeonehdlphiaaGreatDoor
open Go.RowKit
open _root_.Go.Proofs.Tryz
def dK (a:List Pt) (p:Pt):Bool:=decide (a.count p=0)
theorem za (c:Nat):((c:Int) == 0)=decide (c=0):=by
 by_cases h:c=0
 ·subst h;rfl
 ·rw[decide_eq_false h];simpa using h
theorem Ei {x y:Int} (a:0<=x/\x<=64) (b:0<=y/\y<=64):ja (x,y):=⟨WalkArith.wf_i64 oM,WalkArith.wf_i64 oM⟩
theorem xw (a:List Pt) (n e b:Nat) (x y:Int) (l:0<=x/\x<=64) (m:0<=y/\y<=64) (w:World) (k:b<w.heap.size) (j:w.cell? ⟨b,0,none⟩=some (.map (some e))) (i:cr w e n a) :
  Calls prog 260 #[.agg #[Z G x,Z G y],.pointer (some ⟨b,0,none⟩)] w (rT w (.bool (dK a (x,y)))):=by
 have f:=(i.alloc (ka #[Z G x,Z G y] 97)).look (x,y) (Ei l m);have d:=qH (za (a.count (x,y)));rw[show decide (a.count (x,y)=0)=dK a (x,y) from rfl] at d;obtain ⟨c,g⟩:=eX (a.count (x,y));rw[g] at f d;have o:(Instr.lookup 294 (.map (some e)) (.agg #[Z G x,Z G y]) false).run prog (w.alloc (ka #[Z G x,Z G y] 97))=.ok (Z G (c:Nat)) (w.alloc (ka #[Z G x,Z G y] 97)):=f;have q:=((aq w (ka #[Z G x,Z G y] 97)).cell (p:=⟨b,0,none⟩) k).trans j;clear f g j i;go_enter func260,ntmps260;go_wp2;go_ret;exact ⟨be d.1,aq _ _⟩
def kn (a:List Pt) (X Y:Nat) (x:Fin 4):Bool:=dK a (fc X x,dn Y x)
def fO (zs:List Int) (W H:Nat) (a:List Pt) (j:Nat):Int :=
 if dK a ((j % W:Nat),(j / W:Nat))=true then aN zs j else gl zs W H (fc (j % W)) (dn (j / W)) (kn a (j % W) (j / W))
theorem E3 (W H j k off ca:Nat) (hW1:1<=W) (hW:W<=64) (hH1:1<=H) (hH:H<=64) (zs:List Int) (O:zs.length=H*W) (hzs:az 0 65535 zs=true) (N:j<zs.length) (c:List Pt) (n F r b g f:Nat) (w:World) (Q:b<w.heap.size) (hBg:g<w.heap.size) (S:k<w.heap.size)
  (k0:w.cell? ⟨b,0,none⟩=some (Z G W)) (k1:w.cell? ⟨b,1,none⟩=some (Z G H)) (k2:w.cell? ⟨b,2,none⟩=some (J (some ⟨k,off,none⟩) zs.length ca)) (g0:w.cell? ⟨g,0,none⟩=some (Z G W)) (g1:w.cell? ⟨g,1,none⟩=some (Z G H)) (hBd:r<w.heap.size) (kd:w.cell? ⟨r,0,none⟩=some (.func (.func 260) #[] #[.pointer (some ⟨f,0,none⟩)])) (L:f<w.heap.size) (kv:w.cell? ⟨f,0,none⟩=some (.map (some F))) (D:cr w F n c)
  (T:∀j,j<zs.length->w.cell? ⟨k,off+j,none⟩=some (Z G (aN zs j))) :
  Calls prog 261 #[.agg #[Z G (j % W:Nat),Z G (j / W:Nat)],.pointer (some ⟨r,0,none⟩),.pointer (some ⟨b,0,none⟩),.pointer (some ⟨g,0,none⟩)] w (rT w (Z G (fO zs W H c j))):=by
 have t:=qH (show fO zs W H c j=if dK c ((j % W:Nat),(j / W:Nat))=true then aN zs j else gl zs W H (fc (j % W)) (dn (j / W)) (kn c (j % W) (j / W)) from rfl);generalize fO zs W H c j=RES at *;have hl4:zs.length<=4096:=by rw[O];exact ko (zo hH hW) dD
 have hXW:j % W<W:=Nat.mod_lt _ hW1;have hYH:j / W<H:=Nat.div_lt_of_lt_mul (by rw[xe,<-O];exact N);obtain ⟨X,B⟩:=eX (j % W);obtain ⟨Y,C⟩:=eX (j / W);have hk:Y*W+X=j:=by rw[<-B,<-C,xe];exact Nat.div_add_mod j W
 have HIX:=qH (fun v=>iP W H X Y W j rfl hk oM v);have aa:=T j N;have hjI:(j:Int)<(zs.length:Int):=oM;rw[B,C] at t;rw[B] at hXW;rw[C] at hYH;rw[B,C];obtain ⟨z,hz⟩:=eX (aN zs j);rw[hz] at t aa;have HG:=qH (fun (u:World) (l:Below w.heap.size w u)=>xw c n F f X Y oM oM u (km L l.size) ((l.cell (p:=⟨f,0,none⟩) L).trans kv) (D.below l D.lt));have HMP:=qH (fun (u:World) (l:Below w.heap.size w u) (i A:Nat) (K:i<u.heap.size) (hBf:A<u.heap.size) (e0:u.cell? ⟨i,0,none⟩=some (Z G X)) (e1:u.cell? ⟨i,1,none⟩=some (Z G Y)) (e2:u.cell? ⟨A,0,none⟩=some (Z G 2)) =>
  vw 4 W H k off ca oM hW1 hW hH1 hH zs O hzs 263 260 i #[.pointer (some ⟨A,0,none⟩),.pointer (some ⟨i,0,none⟩)] #[.pointer (some ⟨f,0,none⟩)] (fc X) (dn Y) (kn c X Y) u (enters_of func263 kR rfl) (enters_of func260 kR rfl) K (km S l.size) (fun j N=>(l.cell (p:=⟨k,off+j,none⟩) S).trans (T j N))
   (fun V m=>Ac Fence.wide (3-1) trivial rfl oM i A X Y oM oM V (km K m.size) (km hBf m.size) ((m.cell (p:=⟨A,0,none⟩) hBf).trans e2) ((m.cell (p:=⟨i,0,none⟩) K).trans e0) ((m.cell (p:=⟨i,1,none⟩) K).trans e1))
   (fun x V hh m=>by
    have hh2:0<=fc X x/\fc X x<W/\0<=dn Y x/\dn Y x<H:=(by simpa [bc] using hh);have R:=l.trans (m.mono l.size);exact xw c n F f (fc X x) (dn Y x) oM oM V (km L R.size) ((R.cell (p:=⟨f,0,none⟩) L).trans kv) (D.below R D.lt)))
 have eg1:=enters_of func260 kR rfl;clear B C hz hk O T hzs kv D;have d:=qH (aq w (ka #[Z G X,Z G Y] 97));have P:=aD w (ka #[Z G X,Z G Y] 97);have kd1:=(d.1.cell (p:=⟨r,0,none⟩) hBd).trans kd;obtain ⟨s0,s1⟩:=bL P;go_enter func261,ntmps261;go_wp2_with fail
 have hl1:=lS P;generalize w.alloc _=U at *;refine (HG.1 _ d.1).mono ?_;rintro e y ⟨rfl,hb0⟩;have s:=qH (show ∀v,Below U.heap.size U v->v.cell? ⟨b,0,none⟩=some (Z G W)/\v.cell? ⟨b,1,none⟩=some (Z G H)/\v.cell? ⟨b,2,none⟩=some (J (some ⟨k,off,none⟩) zs.length ca)/\v.cell? ⟨g,0,none⟩=some (Z G W)/\v.cell? ⟨g,1,none⟩=some (Z G H)/\v.cell? ⟨w.heap.size,0,none⟩=some (Z G X)/\v.cell? ⟨w.heap.size,1,none⟩=some (Z G Y)/\v.cell? ⟨k,off+j,none⟩=some (Z G z)/\v.cell? ⟨r,0,none⟩=some (.func (.func 260) #[] #[.pointer (some ⟨f,0,none⟩)]) from fun v h=>by
  have q:=d.1.trans (h.mono d.1.size);obtain ⟨y0,y1⟩:=bL ((h.block _ hl1).trans P);exact ⟨(q.cell (p:=⟨b,0,none⟩) Q).trans k0,(q.cell (p:=⟨b,1,none⟩) Q).trans k1,(q.cell (p:=⟨b,2,none⟩) Q).trans k2,(q.cell (p:=⟨g,0,none⟩) hBg).trans g0,(q.cell (p:=⟨g,1,none⟩) hBg).trans g1,y0,y1,(q.cell (p:=⟨k,off+j,none⟩) S).trans aa,(q.cell (p:=⟨r,0,none⟩) hBd).trans kd⟩)
 clear s0 s1 kd1 k0 k1 k2 g0 g1 kd aa eg1;have o:Below U.heap.size U y.drew:=hb0.drew;have hSd:=s.1 _ o;by_cases M:dK c ((X:Nat),(Y:Nat))=true
 ·rw[M];rw[if_pos M] at t;go_wp2_with fail
  refine cE 7 s.1 ?_;refine ct 0 ?_;refine ct 2 ?_;refine ct 3 ?_;refine ct 1 ?_;refine aw 4 fun E a=>?_;go_simp;refine (HIX.1 _).mono ?_;rintro e V1 ⟨rfl,hbv⟩;have hB1:Below U.heap.size U V1:=o.trans (hbv.mono o.size);have hSd:=s.1 _ hB1;refine a.out _ _ hSd ?_;clear a;try simp only[kc]
  refine ct 5 ?_;refine ct 6 ?_;refine aS fun E a=>?_;go_simp;refine a.out _ _ ?_;clear a;try simp only[kc]
  go_wp2;go_ret;exact ⟨aY t.1.symm,d.1.trans (hB1.mono d.1.size)⟩
 ·have hg2:dK c ((X:Nat),(Y:Nat))=false:=by simpa using M
  rw[hg2];rw[if_neg M] at t;go_wp2_with fail
  refine cE 5 s.1 ?_;refine ct 0 ?_;refine ct 1 ?_;refine ct 3 ?_;refine aw 2 fun E a=>?_;go_simp;refine ((callsIn_wide (n:=3)).1 (Ab Fence.wide _ trivial rfl _ _ _ _)).mono ?_;rintro e V2 ⟨rfl,rfl⟩;have I:Below U.heap.size U ((y.drew.alloc (ka #[Z G X,Z G Y] 97)).alloc (ka #[Z G 2] 3)):=(o.alloc o.size _).alloc (by rw[zc];exact Nat.le_succ_of_le o.size) _;have hSd:=s.1 _ I;refine a.out _ _ hSd ?_;clear a;try simp only[kc]
  refine aw 4 fun E a=>?_;go_simp;have hsU:U.heap.size<=y.heap.size:=o.size;obtain ⟨tB,tC⟩:=df y.drew (ka #[Z G X,Z G Y] 97) (ka #[Z G 2] 3);refine (HMP.1 _ (d.1.trans (I.mono d.1.size)) y.drew.heap.size (y.drew.heap.size+1) (by rw[zc,zc];omega) (by rw[zc,zc];omega) (kb tB _) (kb tB _) (kb tC _)).mono ?_;rintro e V3 ⟨rfl,hb3⟩;have hB3:Below U.heap.size U V3:=I.trans (hb3.mono I.size);have hSd:=s.1 _ hB3;refine a.out _ _ hSd ?_;clear a;try simp only[kc]
  refine aS fun E a=>?_;go_simp;refine a.out _ _ ?_;clear a;try simp only[kc]
  go_wp2;go_ret;exact ⟨aY t.1.symm,d.1.trans (hB3.mono d.1.size)⟩
def jc (W H:Int) (zs:List Int) (a:List Pt):Int:=if a7 W H zs=true then (if (a.length:Int)<=64 then (if cP W H a=true then 0 else 3) else 2) else 1
def kL (W H:Int) (zs:List Int) (a:List Pt):List Int:=(ys zs.length).map (fO zs W.toNat H.toNat a)
def nH (w a:World) (d W H:Nat) (c:List Pt) (k:Nat) (wr:World):Prop :=
 cr wr d k (c.take k)/\(∀b,b<a.heap.size->b≠d->wr.heap[b]?=a.heap[b]?)/\a.heap.size<=wr.heap.size/\Below w.heap.size w wr/\∀i,i<k->bc W H (an c i).1 (an c i).2=true
theorem nH.next {w n:World} {c W H:Nat} {a:List Pt} {k:Nat} {wr V w2:World} (h:nH w n c W H a k wr) (r:w.heap.size<=c) (d:Below wr.heap.size wr V) (v:k<a.length) (s:bc W H (an a k).1 (an a k).2=true)
  (x:cr w2 c (k+1) (a.take k++[an a k])) (m:V.grownBy w2 (some c)):nH w n c W H a (k+1) w2:=by
 obtain ⟨y,p,f,g,q⟩:=h;refine ⟨?_,fun b l o=>?_,?_,(g.trans (d.mono g.size)).grown m (ko g.size d.size) (fun j u=>by cases u;exact r),fun i t=>?_⟩
 ·rw[kw v,i7];exact x
 ·rw[m.block b (km l (ko f d.size)) (fun e=>o (by cases e;rfl)),d.block b (km l f)];exact p b l o
 ·exact ko f (ko d.size m.size)
 ·rcases Nat.lt_succ_iff_lt_or_eq.1 t with h|rfl
  ·exact q i h
  ·exact s
theorem E4 (W H:Int) (v:Value) (zs:List Int) (lv:Value) (d:List Pt) (hls:∀j,j<d.length->ja (an d j)) (w:World) (hv:ap w v zs) (hlv:bo w lv d) (h0:jc W H zs d=0) :
  Calls prog 259 #[.agg #[Z G W,Z G H,v],lv] w fun e w'=>∃r,e=.returned (.tuple #[.agg #[Z G (aX (jc W H zs d) W),Z G (aX (jc W H zs d) H),r],Z G (jc W H zs d)])/\ap w' r (cO (jc W H zs d) (kL W H zs d))/\Below w.heap.size w w'/\ar w.heap.size r:=by
 have HV:=qH hv;obtain ⟨lo,lc,rfl,hll,hlc⟩:=hlv;have HLS:=qH hls;have HC:=qH (show ∀j,j<d.length->∃q C,lo=some ⟨q,C,none⟩/\q<w.heap.size/\w.cell? ⟨q,C+j*2,none⟩=some (Z G (an d j).1)/\w.cell? ⟨q,C+j*2+1,none⟩=some (Z G (an d j).2) from fun j T=>by
  rcases hlc with h|⟨b,off,h1,h2,h3⟩
  ·subst h;simp at T
  ·exact ⟨b,off,h1,h2,h3 j T⟩)
 clear hlc hls;obtain ⟨E,A⟩:=eX (jc W H zs d);have H0:=qH (show E=0 from A.symm.trans h0);rw[A];by_cases B:a7 W H zs=true
 ·by_cases hmn:(d.length:Int)<=64
  ·have HE:=qH (show E=if cP W H d=true then 0 else 3 by rw[<-A,jc,if_pos B,if_pos hmn]);clear A;obtain ⟨⟨w1,w2⟩,⟨h1,h2⟩,hl,_⟩:=eT B;have hz:=jz B;have hsm:=fq ⟨w1,w2⟩ ⟨h1,h2⟩;have hn1:1<=zs.length:=oM;obtain ⟨bk,off,ca,rfl,hbk,hcell⟩:=hv.cells hn1;obtain ⟨f,rfl⟩:=kh (show 0<=W from oM);obtain ⟨HN,rfl⟩:=kh (show 0<=H from oM);have HLEN:=qH (show zs.length=HN*f by rw[xe];exact_mod_cast hl);have HZ:=qH hz;have HCC:=qH hcell;have hd64:decide (64<(d.length:Int))=false:=sO;clear hl hz hcell hsm hv;have hmm:=@run_makeMap prog;go_enter func259,ntmps259;(go_wp2_with fail);obtain ⟨O,a2,hB⟩:=qJ w (ka #[Z G (f:Nat),Z G (HN:Nat),J (some ⟨bk,off,none⟩) zs.length ca] 54) (ka #[Z G 0,Z G 0,J none 0 0] 54);generalize (w.alloc _).alloc _=U at *;have hlU:=lS a2;have hlU0:=lS O;refine (ki f HN _ zs _ (HV.1.below hB (kf _))).mono ?_;rintro e w1 ⟨rfl,I⟩;rw[B];obtain ⟨p0,p1,p2⟩:=al ((I.block w.heap.size hlU0).trans O);have hsU:=I.size;have hBw:=hB.trans (I.mono hB.size);(go_wp2_with fail);obtain ⟨c1,c2,c3,hB3⟩:=ku w1 (ka #[Z G (f:Nat),Z G (HN:Nat)] 95) (Obj.map #[] 0) (ka #[.map (some (w1.heap.size+1))] 294);have hM0:cr (((w1.alloc (ka #[Z G (f:Nat),Z G (HN:Nat)] 95)).alloc (Obj.map #[] 0)).alloc (ka #[.map (some (w1.heap.size+1))] 294)) (w1.heap.size+1) 0 []:=by
    have h:=cr.made (w1.alloc (ka #[Z G (f:Nat),Z G (HN:Nat)] 95));rw[zc] at h;exact h.alloc _
   have hs3:w1.heap.size+3<=(((w1.alloc (ka #[Z G (f:Nat),Z G (HN:Nat)] 95)).alloc (Obj.map #[] 0)).alloc (ka #[.map (some (w1.heap.size+1))] 294)).heap.size:=sS;clear p0 p1 p2 hmm;generalize ((w1.alloc _).alloc _).alloc _=W0 at *;have A1:=(hB3.block w.heap.size oM).trans ((I.block w.heap.size hlU0).trans O);have A2:=(hB3.block (w.heap.size+1) oM).trans ((I.block (w.heap.size+1) hlU).trans a2);have hBW0:=hBw.trans (hB3.mono hBw.size);clear O a2;go_loopw [27] (fun i wr=>∃k:Nat,k<=d.length/\i=Z G k/\nH w W0 (w1.heap.size+1) f HN d k wr) (fun i _=>d.length-(intOf i).toNat)
   case atStart=>exact ⟨0,kG _,rfl,hM0,fun _ _ _=>rfl,kf _,hBW0,fun i hi=>oM⟩
   case round =>
    clear hM0;obtain ⟨k,hk,rfl,hJ⟩:=hrel;have HJ:=qH hJ;obtain ⟨K,j2,j3,t,j5⟩:=hJ;have M:=qH j2;clear j2;have b0:=(M.1 w.heap.size oM oM).trans A1;have b1:=(M.1 (w.heap.size+1) oM oM).trans A2;have P:=(M.1 w1.heap.size oM oM).trans c1;have b3:=(M.1 (w1.heap.size+2) oM oM).trans c3;by_cases X:k<d.length
    ·have hd:decide ((k:Int)<(d.length:Int))=true:=sO;obtain ⟨q,C,rfl,hbq,Q,R⟩:=HC.1 k X;have d0:=(t.cell (p:=⟨q,C+k*2,none⟩) hbq).trans Q;have d1:=(t.cell (p:=⟨q,C+k*2+1,none⟩) hbq).trans R;have Y:=HLS.1 k X;have N:=qH (fun (V w2:World) (F:Below wr.heap.size wr V) o hm hg=>nH.next (w2:=w2) HJ.1 (show w.heap.size<=w1.heap.size+1 from oM) F X o hm hg);have HFA:=qH (fun h=>sQ (W:=(f:Int)) (H:=(HN:Int)) k X h);obtain ⟨⟨x,y⟩,hxy⟩:∃p,an d k=p:=⟨_,rfl⟩;rw[hxy] at d0 d1 Y N HFA;simp only at d0 d1 N HFA;have HHA:=qH (fun v=>rK f HN x y v);clear hxy Q R;obtain ⟨z,n⟩:=lV wr (ka #[Z G x,Z G y] 97);obtain ⟨s0,s1⟩:=bL z;obtain ⟨g0,g1⟩:=bL ((n.block w1.heap.size oM).trans P);(go_wp2_with fail);have hl5:=lS z;generalize wr.alloc _=V5 at *;refine (HHA.1 _).mono ?_;rintro e g ⟨rfl,hb6⟩;have hB6:=aG n hb6;have hl3:=lS b3;clear s0 s1 g0 g1;by_cases o:bc f HN x y=true
     ·rw[o];have hcl:(d.take k).count (x,y)<=64:=(by have:=List.count_le_length (a:=(x,y)) (l:=d.take k);have:=List.length_take_le k d;omega);have hM6:cr g.drew (w1.heap.size+1) k (d.take k):=(K.below hB6 (by have:=K.lt;omega)).drew;have hlk:=hM6.look (x,y) Y;obtain ⟨v0,st,u,hent0,hg7,hM7,w8,hst0,hM8,hg8⟩:=hM6.entry oM (by have:=List.length_take_le k d;omega) (x,y) Y;have hlk7:=hM7.look (x,y) Y;obtain ⟨c,hc⟩:=eX ((d.take k).count (x,y));rw[hc] at hlk hlk7 hst0 hcl;have hent:(Instr.mapEntry 294 (.map (some (w1.heap.size+1))) (.agg #[Z G x,Z G y])).run prog g.drew=.ok (.tuple #[v0,Z G st]) u:=hent0;have hst:(Instr.entryStore 294 (.map (some (w1.heap.size+1))) (Z G st) (Z G ((c:Int)+1))).run prog u=.ok () w8:=hst0;have hwc:IntKind.i64.wrap ((c:Int)+1)=(c:Int)+1:=IntWalk.i64_in _ oM;have HEND:=qH (N.1 g.drew w8 (hB6.drew) o hM8 hg8);clear hc hent0 hst0 N;have t3:=(hB6.block (w1.heap.size+2) hl3).trans b3;have L:=(hb6.block wr.heap.size hl5).trans z;have hj1:=K.lt;have t3b:=(hg7.block (w1.heap.size+2) (show w1.heap.size+2<g.heap.size from (lS t3)) (fun e=>by have:=zB e;omega)).trans t3;have t5b:=(hg7.block wr.heap.size (show wr.heap.size<g.heap.size from (lS L)) (fun e=>by have:=zB e;omega)).trans L;have hSd:g.drew.cell? ⟨w1.heap.size+1+1,0,none⟩=some (.map (some (w1.heap.size+1)))/\g.drew.cell? ⟨wr.heap.size,0,none⟩=some (Z G x)/\g.drew.cell? ⟨wr.heap.size,1,none⟩=some (Z G y)/\(Instr.lookup 294 (.map (some (w1.heap.size+1))) (.agg #[Z G x,Z G y]) false).run prog g.drew=.ok (Z G (c:Nat)) g.drew:=⟨jQ (w:=g.drew) (b:=w1.heap.size+1+1) t3,(bL (w:=g.drew) L).1,(bL (w:=g.drew) L).2,hlk⟩;have HS7:=qH (show u.cell? ⟨w1.heap.size+1+1,0,none⟩=some (.map (some (w1.heap.size+1)))/\u.cell? ⟨wr.heap.size,0,none⟩=some (Z G x)/\u.cell? ⟨wr.heap.size,1,none⟩=some (Z G y)/\(Instr.lookup 294 (.map (some (w1.heap.size+1))) (.agg #[Z G x,Z G y]) false).run prog u=.ok (Z G (c:Nat)) u from ⟨jQ (b:=w1.heap.size+1+1) t3b,(bL t5b).1,(bL t5b).2,hlk7⟩);clear t3 L t3b t5b hlk hlk7;(go_wp2_with fail);refine dR (S:=fun v:World=>v.cell? ⟨w1.heap.size+1+1,0,none⟩=some (.map (some (w1.heap.size+1)))/\v.cell? ⟨wr.heap.size,0,none⟩=some (Z G x)/\v.cell? ⟨wr.heap.size,1,none⟩=some (Z G y)/\(Instr.lookup 294 (.map (some (w1.heap.size+1))) (.agg #[Z G x,Z G y]) false).run prog v=.ok (Z G (c:Nat)) v) 6 ?_;refine ct 0 ?_;refine ct 1 ?_;refine ct 2 ?_;refine ct 3 ?_;refine aw 4 fun K' D=>?_;go_simp;have hSd:=HS7.1;refine D.out _ _ hSd ?_;clear D;(try simp only[kc]);refine ct 5 ?_;refine aS fun K' D=>?_;go_simp;refine D.out _ _ ?_;clear D;(try simp only[kc]);go_wp2;go_roundw
      case rel=>exact ⟨k+1,oM,gN,HEND.1⟩
      case measure=>simp[intOf];omega
     ·have o:bc f HN x y=false:=(by simpa using o);rw[o];have s:E=3:=(by rw[HE.1,HFA.1 o];rfl);exact absurd (s.symm.trans H0.1) dD
    ·have hd:decide ((k:Int)<(d.length:Int))=false:=sO;have hkl:k=d.length:=oM;subst hkl;have s:E=0:=(by rw[HE.1,sP j5,if_pos rfl]);subst s;rw[List.take_length] at K;have hM1:=qH K;obtain ⟨z,n⟩:=lV wr (ka #[.func (.func 260) #[] #[.pointer (some ⟨w1.heap.size+1+1,0,none⟩)]] 176);obtain ⟨g0,g1⟩:=bL ((n.block w1.heap.size oM).trans P);obtain ⟨g2,g3⟩:=bL P;(go_wp2_with fail);have hl5:=lS z;clear g0 g1 g2 g3;generalize wr.alloc _=V5 at *;refine (rG f HN zs.length oM oM HLEN.1 261 #[.pointer (some ⟨wr.heap.size,0,none⟩),.pointer (some ⟨w.heap.size,0,none⟩),.pointer (some ⟨w1.heap.size,0,none⟩)] (fO zs f HN d) _ (enters_of func261 kR rfl) ?_).mono ?_
     ·intro j V T F;have m:=aG n F;have hbw:=t.trans (m.mono t.size);obtain ⟨Q,R,e2⟩:=al ((m.block w.heap.size oM).trans b0);obtain ⟨e4,e5⟩:=bL ((m.block w1.heap.size oM).trans P);have e6:=jQ ((m.block (w1.heap.size+2) oM).trans b3);have e7:=jQ ((F.block wr.heap.size hl5).trans z);have hs:=m.size;have hsV:=F.size;exact E3 f HN j bk off ca oM oM oM oM zs HLEN.1 HZ.1 T d d.length (w1.heap.size+1) wr.heap.size w.heap.size w1.heap.size (w1.heap.size+2) V oM oM (km hbk hbw.size) Q R e2 e4 e5 oM e7 oM e6 (hM1.1.below m hM1.1.lt) (fun i hi=>(hbw.cell (p:=⟨bk,off+i,none⟩) hbk).trans (HCC.1 i hi))
     ·rintro e w3 ⟨r,rfl,hr,m,hfr⟩;replace m:=aG n m;have g4:=(m.block (w.heap.size+1) oM).trans b1;obtain ⟨z0,z1,z2⟩:=al g4;obtain ⟨f0,f1,f2⟩:=fZ g4;have HR:=qH hr;obtain ⟨ro,rc,rfl,_,_⟩:=hr;have HFIN:=qH (bf (t.trans (m.mono t.size)) (show w.heap.size<=w.heap.size+1 from oM) (Z G (f:Nat)) (Z G (HN:Nat)) (J ro ((ys zs.length).map (fO zs f HN d)).length rc));have HPX2:=qH (HR.1.set3 hfr (show w.heap.size+1<V5.heap.size by have:=n.size;omega) (Z G (f:Nat)) (Z G (HN:Nat)) (J ro ((ys zs.length).map (fO zs f HN d)).length rc));rw[yb,List.length_range] at HPX2 HFIN hfr;rw[yb,List.length_range];have hsz5:w.heap.size<=V5.heap.size:=ko t.size n.size;go_wp2;exact bodyPost_ret (v:=.tuple #[.agg #[Z G (f:Nat),Z G (HN:Nat),J ro zs.length rc],Z G 0]) (by simp[results,results259,go_sem,z0,z1,z2]) rfl ⟨_,rfl,HPX2.1,HFIN.1,hfr.mono hsz5⟩
  ·have s:E=2:=(by rw[<-A,jc,if_pos B,if_neg hmn]);exact absurd (s.symm.trans H0.1) dD
 ·have s:E=1:=by rw[<-A,jc,if_neg B]
  exact absurd (s.symm.trans H0.1) dD
theorem Bt {a:List Pt} {p:Pt} (i:Nat) (b:i<a.length) (h:an a i=p):dK a p=false:=by
 have c:p∈a:=by rw[<-h,<-i7 a i b];exact List.getElem_mem b
 have:=List.count_pos_iff.2 c;exact decide_eq_false oM
theorem Bu {a:List Pt} {p:Pt} (h:∀i,i<a.length->an a i≠p):dK a p=true:=by
 refine decide_eq_true (List.count_eq_zero.2 fun c=>?_);obtain ⟨i,b,e⟩:=List.getElem_of_mem c;exact h i b (by rw[<-i7 a i b];exact e)
theorem B5 (v:Value) (c:List Pt) (x y:Int) (w:World) (I:bo w v c) :
  Calls prog 141 #[v,Z G x,Z G y] w (rQ w (.bool (!dK c (x,y)))):=by
 obtain ⟨C,ca,rfl,F,z⟩:=I;have B:=qH (fun j E=>bo.at ⟨C,ca,rfl,F,z⟩ j E);clear z;obtain ⟨R,f⟩:=eX (dK c (x,y));rw[f];have r:=qH f;clear f;go_enter func141,ntmps141;go_wp2;go_loop [7] (fun i=>∃k:Nat,k<=c.length/\i=Z G k/\Hid (∀i,i<k->an c i≠(x,y))) (fun i=>c.length-(intOf i).toNat)
 case atStart=>exact ⟨0,kG _,rfl,au (fun i g=>oM)⟩
 case round =>
  obtain ⟨k,M,rfl,o⟩:=hrel;by_cases A:k<c.length
  ·have D:decide ((k:Int)<(c.length:Int))=true:=sO;obtain ⟨K,Q,rfl,L,s,t⟩:=B.1 k A;have q:=qH (fun h=>Bt (p:=(x,y)) k A h);have d:=qH (show an c k≠(x,y)->∀i,i<k+1->an c i≠(x,y) from fun H i g=>by
    rcases Nat.lt_succ_iff_lt_or_eq.1 g with h|rfl
    ·exact o.out i h
    ·exact H)
   obtain ⟨⟨a,b⟩,u⟩:∃p,an c k=p:=⟨_,rfl⟩;rw[u] at s t q d;simp only at s t;clear u;by_cases m:a=x
   ·subst m;by_cases n:b=y
    ·subst n;have l:R=false:=r.1.symm.trans (q.1 rfl);subst l;go_wp2;go_ret;exact ⟨rfl,rfl⟩
    ·have P:(b == y)=false:=(by simpa using n);have HN:=au (d.1 (by simpa using n));go_wp2;go_round
     case rel=>exact ⟨k+1,oM,gN,HN⟩
     case measure=>simp[intOf];omega
   ·have O:(a == x)=false:=(by simpa using m);have HN:=au (d.1 (fun e=>m (congrArg Prod.fst e)));go_wp2;go_round
    case rel=>exact ⟨k+1,oM,gN,HN⟩
    case measure=>simp[intOf];omega
  ·have D:decide ((k:Int)<(c.length:Int))=false:=sO;have N:k=c.length:=oM;have l:R=true:=r.1.symm.trans (Bu (fun i g=>o.out i oM));subst l;go_wp2;go_ret;exact ⟨rfl,rfl⟩
theorem sR (v:Value) (c:List Pt) (W H:Int) (F:1<=W/\W<=64) (E:1<=H/\H<=64) (w:World) (N:bo w v c) :
  Calls prog 132 #[v,Z G W,Z G H] w (rQ w (.bool (cP W H c))):=by
 obtain ⟨D,ca,rfl,L,z⟩:=N;have C:=qH (fun j K=>bo.at ⟨D,ca,rfl,L,z⟩ j K);clear z;obtain ⟨S,T⟩:=F;obtain ⟨P,Q⟩:=E;obtain ⟨R,q⟩:=eX (cP W H c);rw[q];have n:=qH q;clear q;go_enter func132,ntmps132;go_wp2;go_loop [7] (fun i=>∃k:Nat,k<=c.length/\i=Z G k/\Hid (∀i,i<k->bc W H (an c i).1 (an c i).2=true)) (fun i=>c.length-(intOf i).toNat)
 case atStart=>exact ⟨0,kG _,rfl,au (fun i r=>oM)⟩
 case round =>
  obtain ⟨k,V,rfl,t⟩:=hrel;by_cases A:k<c.length
  ·have I:decide ((k:Int)<(c.length:Int))=true:=sO;obtain ⟨O,Y,rfl,U,u,x⟩:=C.1 k A;have g:=qH (fun h=>sQ (W:=W) (H:=H) k A h);have o:=qH (show bc W H (an c k).1 (an c k).2=true->∀i,i<k+1->bc W H (an c i).1 (an c i).2=true from fun M i r=>by
    rcases Nat.lt_succ_iff_lt_or_eq.1 r with h|rfl
    ·exact t.out i h
    ·exact M)
   obtain ⟨⟨a,b⟩,y⟩:∃p,an c k=p:=⟨_,rfl⟩;rw[y] at u x g o;simp only at u x g o;clear y;by_cases f:0<=a/\a<=W-1
   ·have l:decide (0<=a/\a<=W-1)=true:=(by simpa using f);by_cases m:0<=b/\b<=H-1
    ·have s:decide (0<=b/\b<=H-1)=true:=(by simpa using m);have HN:=au (o.1 (by simp[bc];omega));clear f m;(go_wp2_with (go_at_call 33;refine (aI _ _ _ _).mono ?_;rintro e B ⟨rfl,rfl⟩;first|rw[l]|rw[s]));go_round
     case rel=>exact ⟨k+1,oM,gN,HN⟩
     case measure=>simp[intOf];omega
    ·have s:decide (0<=b/\b<=H-1)=false:=(by simpa using m);have d:R=false:=n.1.symm.trans (g.1 (by simp[bc];omega));subst d;clear f m;(go_wp2_with (go_at_call 33;refine (aI _ _ _ _).mono ?_;rintro e B ⟨rfl,rfl⟩;first|rw[l]|rw[s]));go_ret;exact ⟨rfl,rfl⟩
   ·have l:decide (0<=a/\a<=W-1)=false:=(by simpa using f);have d:R=false:=n.1.symm.trans (g.1 (by simp[bc];omega));subst d;clear f;(go_wp2_with (go_at_call 33;refine (aI _ _ _ _).mono ?_;rintro e B ⟨rfl,rfl⟩;rw[l]));go_ret;exact ⟨rfl,rfl⟩
  ·have I:decide ((k:Int)<(c.length:Int))=false:=sO;have X:k=c.length:=oM;have d:R=true:=n.1.symm.trans (sP (fun i r=>t.out i oM));subst d;go_wp2;go_ret;exact ⟨rfl,rfl⟩
def dJ (t:Nat):Nat:=(if 2<t then 1 else 0)+(if 10<t then 1 else 0)+(if 14<t then 1 else 0)+(if 22<t then 1 else 0)
theorem zy (t:Nat) (h:t≠2/\t≠10/\t≠14/\t≠22):dJ (t+1)=dJ t:=by
 unfold dJ;split<;>split<;>split<;>split<;>split<;>split<;>split<;>split<;>omega
theorem ub (t:Nat):dJ t<=4:=by unfold dJ;split<;>split<;>split<;>split<;>omega
def cX (zs:List Int) (W H:Nat) (a:List Pt) (X Y c:Nat):Int×Nat:=mF zs W H (fc X) (dn Y) (kn a X Y) (dL 4 c)
theorem Fi (zs:List Int) (W H:Nat) (a:List Pt) (X Y c:Nat) (e:c<4) (b d:Int) (f:b=(X:Int)+gu c) (g:d=(Y:Int)+CP c) :
  cX zs W H a X Y (c+1)=if bc W H b d=true/\dK a (b,d)=true then ((cX zs W H a X Y c).1+aN zs (d.toNat*W+b.toNat),(cX zs W H a X Y c).2+1) else cX zs W H a X Y c:=by
 subst f g;unfold cX;rw[mS 4 c e,vk];rfl
theorem sI {zs:List Int} (h:az 0 65535 zs=true) (W H:Nat) (a:List Pt) (X Y c:Nat) (b:c<=4):0<=(cX zs W H a X Y c).1/\(cX zs W H a X Y c).1<=(cX zs W H a X Y c).2*65535/\(cX zs W H a X Y c).2<=4:=by
 have:=rO h W H (fc X) (dn Y) (kn a X Y) (dL 4 c) (0,0) 0 (Int.le_refl _) dD (kf _);rw[pz 4 c b] at this;exact ⟨this.1,this.2.1,by have:=this.2.2;unfold cX mF;omega⟩
theorem Fh {zs:List Int} (f:az 0 65535 zs=true) (W H:Nat) (a:List Pt) (X Y:Nat) (c:Int) (e:c=max ((cX zs W H a X Y 4).2:Int) 1):gl zs W H (fc X) (dn Y) (kn a X Y)=(cX zs W H a X Y 4).1.tdiv c:=by
 have b:=sI f W H a X Y 4 (kf _);have d:cX zs W H a X Y 4=mF zs W H (fc X) (dn Y) (kn a X Y) (List.finRange 4):=by unfold cX;rw[<-py]
 unfold gl;rw[<-d,Int.tdiv_eq_ediv_of_nonneg b.1];split
 ·rename_i h;have:(cX zs W H a X Y 4).1=0:=by rw[h] at b;omega
  rw[this];simp
 ·rw[e,Int.max_eq_left oM]
def kS (w:World) (W H:Nat) (c:Value) (L:List Int) (k:Nat) (wr:World):Prop :=
 ∃b a,wr.heap[w.heap.size+2]?=some (.cells #[Z G W,Z G H,J b k a] 54 (0,0))/\wr.ownsRow w.heap.size 3 1 (J b k a) k ((L.take k).map (Z .i64))/\wr.heap[w.heap.size]?=some (.cells #[Z G W,Z G H,c] 54 (0,0))/\wr.heap[w.heap.size+1]?=some (.cells #[Z G 0,Z G 0,J none 0 0] 54 (0,0))/\Below w.heap.size w wr
theorem kS.below {w:World} {W H:Nat} {f:Value} {L:List Int} {k:Nat} {wr g:World} (h:kS w W H f L k wr) (a:Below wr.heap.size wr g):kS w W H f L k g:=by
 obtain ⟨l,j,b,i,c,d,e⟩:=h;exact ⟨l,j,(a.block _ (lS b)).trans b,cT i a,(a.block _ (lS c)).trans c,(a.block _ (lS d)).trans d,e.trans (a.mono e.size)⟩
theorem E5 (W H:Nat) (hW1:1<=W) (hW:W<=64) (hH1:1<=H) (hH:H<=64) (v:Value) (zs:List Int) (lv:Value) (m:List Pt) (hlen:zs.length=H*W) (hzs:az 0 65535 zs=true) (w:World) (hv:ap w v zs) (hlv:bo w lv m) :
  Calls prog 84 #[.agg #[Z G W,Z G H,v],lv] w fun e w'=>∃r,e=.returned (.agg #[Z G W,Z G H,r])/\ap w' r ((ys zs.length).map (fO zs W H m))/\Below w.heap.size w w'/\ar w.heap.size r:=by
 have HZS:=qH hzs;have HV:=qH hv;have HLV:=qH hlv;have HLEN:=qH hlen;have hlb:zs.length<=4096:=by rw[hlen];exact ko (zo hH hW) dD
 have hLL:((ys zs.length).map (fO zs W H m)).length=zs.length:=sS;have HLG:=qH (show ∀j,j<zs.length->((ys zs.length).map (fO zs W H m))[j]?=some (fO zs W H m j) from fun j hj=>by simp[hj]);obtain ⟨L,hL⟩:=eX ((ys zs.length).map (fO zs W H m));rw[hL] at hLL HLG |-;have HLL:=qH hLL;clear hL hLL hzs hlen;obtain ⟨S,ca,rfl,hla,hc⟩:=hv;obtain ⟨lo,lc,rfl,hll,hlc⟩:=hlv;clear hc hlc;obtain ⟨i0,hi,hz0,hz1,hz2⟩:=info_parts Tryz.infoInt;go_enter func84,ntmps84;go_wp2_with fail
 obtain ⟨a1,a2,a3,hB⟩:=ku w (ka #[Z G W,Z G H,J S zs.length ca] 54) (ka #[Z G 0,Z G 0,J none 0 0] 54) (ka #[Z G W,Z G H,J none 0 0] 54);generalize ((w.alloc _).alloc _).alloc _=U at *;go_loopw [6] (fun i wr=>∃Y:Nat,Y<=H/\i=Z G Y/\kS w W H (J S zs.length ca) L (Y*W) wr) (fun i _=>H-(intOf i).toNat)
 case atStart=>exact ⟨0,kG _,rfl,none,0,by rw[Nat.zero_mul];exact a3,by rw[Nat.zero_mul];exact World.ownsRow_nil _ _ _ _,a1,a2,hB⟩
 case round =>
  clear a1 a2 a3 hB;obtain ⟨Y,hY,rfl,hJ⟩:=hrel;have HJ:=qH hJ;obtain ⟨F,E,K,A,p,N,T⟩:=hJ;obtain ⟨q0,q1,q2⟩:=al p;by_cases hlt:Y<H
  ·have hd:decide ((Y:Int)<(H:Int))=true:=sO;obtain ⟨M,hM⟩:∃M,M=Y*W:=⟨_,rfl⟩;rw[<-hM] at HJ K A;have hMM:M+W<=zs.length:=(by rw[HLEN.1,hM,<-xc];exact xa _ hlt);have HM:=qH hM;clear hM;(go_wp2_with fail);go_loopw [7] (fun i wr=>∃X:Nat,X<=W/\i=Z G X/\kS w W H (J S zs.length ca) L (M+X) wr) (fun i _=>W-(intOf i).toNat)
   case atStart=>exact ⟨0,kG _,rfl,HJ.1⟩
   case round =>
    clear K A p N T q0 q1 q2 HJ hd;obtain ⟨X,hX,rfl,hJ⟩:=hrel;by_cases hlx:X<W
    ·have hdx:decide ((X:Int)<(W:Int))=true:=sO;have hk:M+X<zs.length:=oM;obtain ⟨k,hkk⟩:=eX (M+X);rw[hkk] at hJ hk;have HJ0:=qH hJ;have HK:=qH hkk;have hkY:Y*W+X=k:=(by rw[<-HM.1];exact hkk);obtain ⟨hpm,hpd⟩:(Y*W+X) % W=X/\(Y*W+X) / W=Y:=nf hlx;rw[hkY] at hpm hpd;have HT:=qH (show fO zs W H m k=if dK m ((k % W:Nat),(k / W:Nat))=true then aN zs k else gl zs W H (fc (k % W)) (dn (k / W)) (kn m (k % W) (k / W)) from rfl);rw[hpm,hpd] at HT;have HYK:=qH hkY;clear hkk hpm hpd hkY;generalize wr=R at *;obtain ⟨F,E,K,A,p,N,T⟩:=hJ;have HBR:=qH T;have HISP:=qH (fun (x y:Int) (u:World) (I:Below R.heap.size R u)=>B5 (J lo m.length lc) m x y u (HLV.1.below (HBR.1.trans (I.mono HBR.1.size)) (kf _)));obtain ⟨q0,q1,q2⟩:=al p;have HST1:=qH (show ∀y,fO zs W H m k=y->(L.take (k+1)).map (Z .i64)=(L.take k).map (Z .i64)++[Z G y] from fun y hy=>by
      have hk2:k<L.length:=(by rw[HLL.1];exact hk);have hg:=HLG.1 k hk;rw[List.getElem?_eq_getElem hk2] at hg;rw[kw hk2,zB hg,List.map_append,hy];rfl)
     have HL1:=qH (show k+1<=maxLen from uO);have HL2:=qH (show (k+1)*8<=140737488355328 from oM);(go_wp2_with fail);refine (HISP.1 _ _ _ (Below.refl _ _)).mono ?_;rintro e wq ⟨rfl,rfl⟩;by_cases hg:dK m ((X:Nat),(Y:Nat))=true
     ·rw[hg];rw[if_pos hg] at HT;have HAT:=qH (fun (u:World) (I:Below R.heap.size R u)=>lW W H (J S zs.length ca) zs X Y X Y W k u (HV.1.below (HBR.1.trans (I.mono HBR.1.size)) (kf _)) rfl rfl rfl HYK.1 hk hlb);rw[show zs.getD k 0=aN zs k from rfl] at HAT;obtain ⟨y,hy⟩:=eX (aN zs k);rw[hy] at HT HAT;have HST:=qH (HST1.1 y HT.1);obtain ⟨XS,hXS⟩:=eX ((L.take k).map (Z .i64));rw[hXS] at A HST;have hbW:=T.size;clear hy hXS HJ0 HST1 HT;have HS:=qH (show ∀v,Below R.heap.size R v->v.cell? ⟨w.heap.size+1+1,2,none⟩=some (J F k E)/\v.cell? ⟨w.heap.size,0,none⟩=some (Z G W)/\v.cell? ⟨w.heap.size,1,none⟩=some (Z G H)/\v.cell? ⟨w.heap.size,2,none⟩=some (J S zs.length ca) from fun v h=>by
       obtain ⟨_,_,t2⟩:=al ((h.block (w.heap.size+2) (lS K)).trans K);exact ⟨t2,al ((h.block _ (lS p)).trans p)⟩)
      have nq:=aW A p dD;have HTL:=qH (show ∀(V1:World) (Q cap:Nat) (t:World),Below R.heap.size R V1->V1.grownBy t (J F k E).ownBlock->t.ownsRow w.heap.size 3 1 (J (some ⟨Q,0,none⟩) (k+1) cap) (k+1) (XS++[Z G y])->(t.cell? ⟨w.heap.size+1+1,2,none⟩=some (J F k E)/\t.cell? ⟨w.heap.size,0,none⟩=some (Z G W)/\t.cell? ⟨w.heap.size,1,none⟩=some (Z G H)/\t.cell? ⟨w.heap.size,2,none⟩=some (J S zs.length ca))/\t.frozen? ⟨w.heap.size+1+1,2,none⟩=false/\kS w W H (J S zs.length ca) L (k+1) (t.setCell ⟨w.heap.size+1+1,2,none⟩ (J (some ⟨Q,0,none⟩) (k+1) cap)) from fun V1 Q cap t h1 h2 h3=>by
       obtain ⟨t1,t2,t3,t4,t5,t6,t7⟩:=jj dD K A T (kf _) oM h1 h2 h3;exact ⟨⟨t2,al ((t1 _ (lS p) nq).trans p)⟩,t3,some ⟨Q,0,none⟩,cap,t4,by rw[HST.1];exact t5,(t7 _ (lS p) nq oM).trans p,(t7 _ (lS N) (aW A N dD) oM).trans N,t6⟩)
      have ac:Below R.heap.size R R.drew:=(Below.refl _ _).drew;(go_wp2_with fail);have hSd:=HS.1 _ ac;clear q0 q1 q2 K p N;refine cE 9 HS.1 ?_;refine ct 0 ?_;refine ct 2 ?_;refine ct 3 ?_;refine ct 4 ?_;refine ct 1 ?_;refine aw 5 fun K' B=>?_;go_simp;refine (HAT.1 _ ac).mono ?_;rintro e V0 ⟨rfl,hb0⟩;have hB0:Below R.heap.size R V0:=ac.trans (hb0.mono ac.size);have hSd:=HS.1 _ hB0;refine B.out _ _ hSd ?_;clear B;(try simp only[kc]);refine aw 6 fun K' B=>?_;go_simp;have hBs:Below R.heap.size R (V0.alloc (ka #[Z G y] 3)):=hB0.alloc hB0.size _;have hSd:=HS.1 _ hBs;refine B.out _ _ hSd ?_;clear B;(try simp only[kc]);refine eZ (i:=7) (o:=_) kR rfl (fun K' B=>?_);refine step_append_lies _ rfl _ _ 52 rfl w.heap.size 3 i0 (Z G 0) 1 8 underlying52 hi hz0 hz1 hz2 rfl dD (J F k E) k XS rfl ((cT A hB0).alloc _) ⟨V0.heap.size,0,none⟩ 1 1 [Z G y] rfl rfl (zl (aD V0 _)) (fun u I=>by simp at I;subst I;rfl) zv HL1.1 HL2.1 (ko hbW hBs.size) _ rfl ?_;intro Q cap t hown hgrow hat hltg;obtain ⟨hSx,p2f,HFIN⟩:=HTL.1 _ Q cap t hBs hgrow hown;have hSd:=hSx;refine B.out _ _ hSd ?_;clear B;(try simp only[kc]);refine ct 8 ?_;refine aS fun K' B=>?_;go_simp;refine B.out _ _ ?_;clear B;(try simp only[kc]);go_wp2;go_roundw
      case rel=>exact ⟨X+1,oM,gN,by rw[show M+(X+1)=k+1 by have:=HK.1;omega];exact HFIN⟩
      case measure=>simp[intOf];omega
     ·have hg2:dK m ((X:Nat),(Y:Nat))=false:=(by simpa using hg);rw[hg2];rw[if_neg hg] at HT;clear K A p N T;(go_wp2_with fail);clear q0 q1 q2 hdx;go_loopw [8,9,10] (fun s n i wv=>∃(b:Nat) (l:Int),b<=5/\Hid (l=(Y:Int)-2+(b:Nat))/\s=Z G (cX zs W H m X Y (dJ (5*b))).1/\n=Z G ((cX zs W H m X Y (dJ (5*b))).2:Nat)/\i=Z G l/\Below R.heap.size R wv) (fun _ _ i _=>((Y:Int)+3-intOf i).toNat)
      case atStart=>exact ⟨0,(Y:Int)-2,oM,au sS,rfl,rfl,rfl,Below.refl _ _⟩
      case round =>
       obtain ⟨b,l,hb5,g,rfl,rfl,rfl,C⟩:=hrel;have hvb0:-2<=l/\l<=67:=(by have:=g.out;omega);obtain ⟨hvb0,hvb1⟩:=hvb0;by_cases hlb5:b<5
       ·have hdv:decide (l<=(Y:Int)+2)=true:=(by have:=g.out;simp;omega);(go_wp2_with fail);go_loopw [8,9,11] (fun s n i wv=>∃(a:Nat) (d:Int),a<=5/\Hid (d=(X:Int)-2+(a:Nat))/\s=Z G (cX zs W H m X Y (dJ (5*b+a))).1/\n=Z G ((cX zs W H m X Y (dJ (5*b+a))).2:Nat)/\i=Z G d/\Below R.heap.size R wv) (fun _ _ i _=>((X:Int)+3-intOf i).toNat)
        case atStart=>exact ⟨0,(X:Int)-2,oM,au sS,rfl,rfl,rfl,C⟩
        case round =>
         clear C hdv;obtain ⟨a,d,ha5,f,rfl,rfl,rfl,C⟩:=hrel;obtain ⟨so2,scap2,x1,x2,p,x3,x4⟩:=HJ0.1.below C;obtain ⟨q0,q1,q2⟩:=al p;clear p x1 x2 x3 x4 so2 scap2;have hua0:-2<=d/\d<=67:=(by have:=f.out;omega);obtain ⟨hua0,hua1⟩:=hua0;have hro:=sI HZS.1 W H m X Y (dJ (5*b+a)) (ub _);have HNX:=qH (show ∀c,c<4->dJ (5*b+a)=c->dJ (5*b+(a+1))=c+1->d=(X:Int)+gu c->l=(Y:Int)+CP c->(cX zs W H m X Y (dJ (5*b+(a+1))))=if bc W H d l=true/\dK m (d,l)=true then ((cX zs W H m X Y (dJ (5*b+a))).1+aN zs (l.toNat*W+d.toNat),(cX zs W H m X Y (dJ (5*b+a))).2+1) else (cX zs W H m X Y (dJ (5*b+a))) from fun c hc h1 h2 h3 h4=>by rw[h2,h1];exact Fi zs W H m X Y c hc d l h3 h4);have HSM:=qH (show 5*b+a≠2/\5*b+a≠10/\5*b+a≠14/\5*b+a≠22->(cX zs W H m X Y (dJ (5*b+(a+1))))=(cX zs W H m X Y (dJ (5*b+a))) from fun h=>by rw[show 5*b+(a+1)=5*b+a+1 from rfl,zy _ h]);by_cases hla5:a<5
         ·have hdu:decide (d<=(X:Int)+2)=true:=(by have:=f.out;simp;omega);obtain ⟨sn,hsn⟩:=eX ((cX zs W H m X Y (dJ (5*b+(a+1)))));obtain ⟨st,ab⟩:=eX ((cX zs W H m X Y (dJ (5*b+a))));rw[hsn,ab] at HNX HSM;rw[ab] at hro |-;obtain ⟨O,V⟩:=st;simp only at hro HNX HSM |-;obtain ⟨hr1,hr2,hr3⟩:=hro;have HSN:=qH hsn;clear hsn ab;have HUN:=au (show d+1=(X:Int)-2+((a+1:Nat):Int) by have:=f.out;omega);have aa:((X:Int)+3-(d+1)).toNat<((X:Int)+3-d).toNat:=(by have:=f.out;omega);have hzr:∀j,0<=aN zs j/\aN zs j<=65535:=fun j=>jK HZS.1 j;have HZR:=qH hzr;clear hzr;have hcas:(a=2/\b=0)\/(a=2/\b=4)\/(a=2/\b=2)\/(a=2/\b≠0/\b≠2/\b≠4)\/(a=0/\b=2)\/(a=4/\b=2)\/((a=1\/a=3)/\b=2)\/(a≠2/\b≠2):=oM;rcases hcas with hcs|hcs|hcs|hcs|hcs|hcs|hcs|hcs;obtain rfl:a=2:=oM;obtain rfl:b=0:=oM;have ad:(d == (X:Int))=true:=(by have:=f.out;have:=g.out;simp;omega);have ae:(l == (Y:Int)-2)=true:=(by have:=f.out;have:=g.out;simp;omega);have HN1:=qH (HNX.1 0 oM dD dD (by have:=f.out;simp[gu];omega) (by have:=g.out;simp[CP];omega));rotate_left;obtain rfl:a=2:=oM;obtain rfl:b=4:=oM;have ad:(d == (X:Int))=true:=(by have:=f.out;have:=g.out;simp;omega);have ae:(l == (Y:Int)-2)=false:=(by have:=f.out;have:=g.out;simp;omega);have hq2:(l == (Y:Int)+2)=true:=(by have:=f.out;have:=g.out;simp;omega);have HN1:=qH (HNX.1 3 oM dD dD (by have:=f.out;simp[gu];omega) (by have:=g.out;simp[CP];omega));rotate_left
          ·skip;have ad:(d == (X:Int))=true:=(by have:=f.out;have:=g.out;simp;omega);have ae:(l == (Y:Int)-2)=false:=(by have:=f.out;have:=g.out;simp;omega);have hq2:(l == (Y:Int)+2)=false:=(by have:=f.out;have:=g.out;simp;omega);have hq3:(l == (Y:Int))=true:=(by have:=f.out;have:=g.out;simp;omega);have hq4:(d == (X:Int)-2)=false:=(by have:=f.out;have:=g.out;simp;omega);have hq5:(d == (X:Int)+2)=false:=(by have:=f.out;have:=g.out;simp;omega);have D:sn=(O,V):=HSM.1 (by have:=f.out;have:=g.out;omega);subst D;have q:=qH HSN.1;go_wp2;go_roundw
           case rel=>exact ⟨a+1,_,oM,HUN,by rw[q.1],by rw[q.1],rfl,C⟩
           case measure=>simpa [intOf] using aa
          ·skip;have ad:(d == (X:Int))=true:=(by have:=f.out;have:=g.out;simp;omega);have ae:(l == (Y:Int)-2)=false:=(by have:=f.out;have:=g.out;simp;omega);have hq2:(l == (Y:Int)+2)=false:=(by have:=f.out;have:=g.out;simp;omega);have hq3:(l == (Y:Int))=false:=(by have:=f.out;have:=g.out;simp;omega);have D:sn=(O,V):=HSM.1 (by have:=f.out;have:=g.out;omega);subst D;have q:=qH HSN.1;go_wp2;go_roundw
           case rel=>exact ⟨a+1,_,oM,HUN,by rw[q.1],by rw[q.1],rfl,C⟩
           case measure=>simpa [intOf] using aa
          obtain rfl:a=0:=oM;obtain rfl:b=2:=oM;have ad:(d == (X:Int))=false:=(by have:=f.out;have:=g.out;simp;omega);have ae:(l == (Y:Int))=true:=(by have:=f.out;have:=g.out;simp;omega);have hq2:(d == (X:Int)-2)=true:=(by have:=f.out;have:=g.out;simp;omega);have HN1:=qH (HNX.1 1 oM dD dD (by have:=f.out;simp[gu];omega) (by have:=g.out;simp[CP];omega));rotate_left;obtain rfl:a=4:=oM;obtain rfl:b=2:=oM;have ad:(d == (X:Int))=false:=(by have:=f.out;have:=g.out;simp;omega);have ae:(l == (Y:Int))=true:=(by have:=f.out;have:=g.out;simp;omega);have hq2:(d == (X:Int)-2)=false:=(by have:=f.out;have:=g.out;simp;omega);have hq3:(d == (X:Int)+2)=true:=(by have:=f.out;have:=g.out;simp;omega);have HN1:=qH (HNX.1 2 oM dD dD (by have:=f.out;simp[gu];omega) (by have:=g.out;simp[CP];omega));rotate_left
          ·skip;have ad:(d == (X:Int))=false:=(by have:=f.out;have:=g.out;simp;omega);have ae:(l == (Y:Int))=true:=(by have:=f.out;have:=g.out;simp;omega);have hq2:(d == (X:Int)-2)=false:=(by have:=f.out;have:=g.out;simp;omega);have hq3:(d == (X:Int)+2)=false:=(by have:=f.out;have:=g.out;simp;omega);have D:sn=(O,V):=HSM.1 (by have:=f.out;have:=g.out;omega);subst D;have q:=qH HSN.1;go_wp2;go_roundw
           case rel=>exact ⟨a+1,_,oM,HUN,by rw[q.1],by rw[q.1],rfl,C⟩
           case measure=>simpa [intOf] using aa
          ·skip;have ad:(d == (X:Int))=false:=(by have:=f.out;have:=g.out;simp;omega);have ae:(l == (Y:Int))=false:=(by have:=f.out;have:=g.out;simp;omega);have D:sn=(O,V):=HSM.1 (by have:=f.out;have:=g.out;omega);subst D;have q:=qH HSN.1;go_wp2;go_roundw
           case rel=>exact ⟨a+1,_,oM,HUN,by rw[q.1],by rw[q.1],rfl,C⟩
           case measure=>simpa [intOf] using aa
          all_goals
           by_cases I:0<=d/\d<=(W:Int)-1
           ·have hud:decide (0<=d/\d<=(W:Int)-1)=true:=(by simpa using I);by_cases hv:0<=l/\l<=(H:Int)-1
            ·have hvd:decide (0<=l/\l<=(H:Int)-1)=true:=(by simpa using hv);have hhas:bc W H d l=true:=(by simp[bc];omega);by_cases hgd:dK m (d,l)=true
             ·have D:sn=(O+aN zs (l.toNat*W+d.toNat),V+1):=(by rw[HN1.1,if_pos ⟨hhas,hgd⟩]);obtain ⟨UN,hUN⟩:=kh I.1;obtain ⟨VN,hVN⟩:=kh hv.1;have hkl:VN*W+UN<zs.length:=by
               have h1:(VN+1)*W<=H*W:=xa _ oM;rw[xc] at h1;rw[HLEN.1];omega
              rw[show l.toNat*W+d.toNat=VN*W+UN by rw[hUN,hVN];rfl] at D;obtain ⟨K1,hK1⟩:=eX (VN*W+UN);rw[hK1] at hkl D;have HAT:=qH (fun (u:World) (I:Below R.heap.size R u)=>lW W H (J S zs.length ca) zs d l UN VN W K1 u (HV.1.below (HBR.1.trans (I.mono HBR.1.size)) (kf _)) rfl hUN hVN hK1 hkl hlb);rw[show zs.getD K1 0=aN zs K1 from rfl] at HAT;have hzr:=HZR.1 K1;obtain ⟨z,hz⟩:=eX (aN zs K1);rw[hz] at D HAT hzr;obtain ⟨hz1,hz2⟩:=hzr;subst D;have q:=qH HSN.1;have hws:IntKind.i64.wrap (O+z)=O+z:=IntWalk.i64_in _ oM;clear hz hK1 hUN hVN I hv;(go_wp2_with (first|(go_at_call 33;refine (aI _ _ _ _).mono ?_;rintro e wx ⟨rfl,rfl⟩;first|rw[hud]|rw[hvd])|(go_at_call 141;refine (HISP.1 _ _ _ C).mono ?_;rintro e wx ⟨rfl,rfl⟩;rw[hgd])|(go_at_call 142;refine (HAT.1 _ C).mono ?_;rintro e wx ⟨rfl,hbx⟩)));go_roundw
              case rel=>exact ⟨_,_,oM,HUN,by rw[q.1],by rw[q.1];rfl,rfl,C.trans (hbx.mono C.size)⟩
              case measure=>simpa [intOf] using aa
             ·have hgd:dK m (d,l)=false:=(by simpa using hgd);have D:sn=(O,V):=(by rw[HN1.1,if_neg (fun h=>by rw[hgd] at h;exact absurd h.2 dD)]);subst D;have q:=qH HSN.1;(go_wp2_with (first|(go_at_call 33;refine (aI _ _ _ _).mono ?_;rintro e wx ⟨rfl,rfl⟩;first|rw[hud]|rw[hvd])|(go_at_call 141;refine (HISP.1 _ _ _ C).mono ?_;rintro e wx ⟨rfl,rfl⟩;rw[hgd])));go_roundw
              case rel=>exact ⟨_,_,oM,HUN,by rw[q.1],by rw[q.1],rfl,C⟩
              case measure=>simpa [intOf] using aa
            ·have hvd:decide (0<=l/\l<=(H:Int)-1)=false:=(by simpa using hv);have D:sn=(O,V):=(by rw[HN1.1,if_neg (fun h=>hv (by have:=h.1;simp[bc] at this;omega))]);subst D;have q:=qH HSN.1;(go_wp2_with (first|(go_at_call 33;refine (aI _ _ _ _).mono ?_;rintro e wx ⟨rfl,rfl⟩;first|rw[hud]|rw[hvd])));go_roundw
             case rel=>exact ⟨_,_,oM,HUN,by rw[q.1],by rw[q.1],rfl,C⟩
             case measure=>simpa [intOf] using aa
           ·have hud:decide (0<=d/\d<=(W:Int)-1)=false:=(by simpa using I);have D:sn=(O,V):=(by rw[HN1.1,if_neg (fun h=>I (by have:=h.1;simp[bc] at this;omega))]);subst D;have q:=qH HSN.1;(go_wp2_with (first|(go_at_call 33;refine (aI _ _ _ _).mono ?_;rintro e wx ⟨rfl,rfl⟩;rw[hud])));go_roundw
            case rel=>exact ⟨_,_,oM,HUN,by rw[q.1],by rw[q.1],rfl,C⟩
            case measure=>simpa [intOf] using aa
         ·have hdu:decide (d<=(X:Int)+2)=false:=(by have:=f.out;simp;omega);obtain rfl:a=5:=oM;have HVN:=au (show l+1=(Y:Int)-2+((b+1:Nat):Int) by have:=g.out;omega);have aa:((Y:Int)+3-(l+1)).toNat<((Y:Int)+3-l).toNat:=(by have:=g.out;omega);obtain ⟨st,ab⟩:=eX ((cX zs W H m X Y (dJ (5*b+5))));have q:=qH (show (cX zs W H m X Y (dJ (5*(b+1))))=st from ab);rw[ab];clear ab HNX HSM hro;go_wp2;go_roundw
          case rel=>exact ⟨b+1,_,oM,HVN,by rw[q.1],by rw[q.1],rfl,C⟩
          case measure=>simpa [intOf] using aa
       ·have hdv:decide (l<=(Y:Int)+2)=false:=(by have:=g.out;simp;omega);obtain rfl:b=5:=oM;have HEN:=qH (show ∀P:Int,P=max ((cX zs W H m X Y (dJ (5*5))).2:Int) 1->fO zs W H m k=(cX zs W H m X Y (dJ (5*5))).1.tdiv P from fun P hm=>by rw[HT.1];exact Fh HZS.1 W H m X Y P hm);have hro:=sI HZS.1 W H m X Y (dJ (5*5)) (ub _);obtain ⟨st,ab⟩:=eX ((cX zs W H m X Y (dJ (5*5))));rw[ab] at HEN hro |-;obtain ⟨O,V⟩:=st;simp only at HEN hro |-;obtain ⟨hr1,hr2,hr3⟩:=hro;clear ab;obtain ⟨P,hmm⟩:=eX ((if (V:Int)<1 then 1 else (V:Int)));have hmx:P=max (V:Int) 1:=(by rw[<-hmm];split<;>omega);have hm1:1<=P:=oM;have hm0:¬(P=0):=oM;have hmz:(P == 0)=false:=(by rw[beq_eq_false_iff_ne];omega);have hq:=Int.tdiv_eq_ediv_of_nonneg (b:=P) hr1;have ad:0<=O.tdiv P:=(by rw[hq];exact Int.ediv_nonneg hr1 oM);have ae:O.tdiv P<=O:=(by rw[hq];exact Int.ediv_le_self _ hr1);have HYY:=qH (HEN.1 P hmx);obtain ⟨y,hyy⟩:=eX (O.tdiv P);rw[hyy] at HYY ad ae;have hwq:IntKind.i64.wrap y=y:=IntWalk.i64_in _ oM;have HST:=qH (HST1.1 y HYY.1);obtain ⟨XS,hXS⟩:=eX ((L.take k).map (Z .i64));rw[hXS] at HST;obtain ⟨F,E,K,A,p,N,T⟩:=HJ0.1.below C;obtain ⟨q0,q1,q2⟩:=al p;rw[hXS] at A;have hbW:=T.size;clear hXS HST1 HT HEN hq hmx;have HS:=qH (show ∀v,Below wr.heap.size wr v->v.cell? ⟨w.heap.size+1+1,2,none⟩=some (J F k E)/\v.cell? ⟨w.heap.size,0,none⟩=some (Z G W)/\v.cell? ⟨w.heap.size,1,none⟩=some (Z G H)/\v.cell? ⟨w.heap.size,2,none⟩=some (J S zs.length ca) from fun v h=>by
         obtain ⟨_,_,t2⟩:=al ((h.block (w.heap.size+2) (lS K)).trans K);exact ⟨t2,al ((h.block _ (lS p)).trans p)⟩)
        have nq:=aW A p dD;have HTL:=qH (show ∀(V1:World) (Q cap:Nat) (t:World),Below wr.heap.size wr V1->V1.grownBy t (J F k E).ownBlock->t.ownsRow w.heap.size 3 1 (J (some ⟨Q,0,none⟩) (k+1) cap) (k+1) (XS++[Z G y])->(t.cell? ⟨w.heap.size+1+1,2,none⟩=some (J F k E)/\t.cell? ⟨w.heap.size,0,none⟩=some (Z G W)/\t.cell? ⟨w.heap.size,1,none⟩=some (Z G H)/\t.cell? ⟨w.heap.size,2,none⟩=some (J S zs.length ca))/\t.frozen? ⟨w.heap.size+1+1,2,none⟩=false/\kS w W H (J S zs.length ca) L (k+1) (t.setCell ⟨w.heap.size+1+1,2,none⟩ (J (some ⟨Q,0,none⟩) (k+1) cap)) from fun V1 Q cap t h1 h2 h3=>by
         obtain ⟨t1,t2,t3,t4,t5,t6,t7⟩:=jj dD K A T (kf _) oM h1 h2 h3;exact ⟨⟨t2,al ((t1 _ (lS p) nq).trans p)⟩,t3,some ⟨Q,0,none⟩,cap,t4,by rw[HST.1];exact t5,(t7 _ (lS p) nq oM).trans p,(t7 _ (lS N) (aW A N dD) oM).trans N,t6⟩)
        have ac:Below wr.heap.size wr wr.drew:=(Below.refl _ _).drew;(go_wp2_with fail);have hSd:=HS.1 _ ac;clear q0 q1 q2 K p N;refine cE 9 HS.1 ?_;refine ct 0 ?_;refine ct 2 ?_;refine ct 3 ?_;refine ct 1 ?_;refine ct 4 ?_;refine ct 5 ?_;refine aw 6 fun K' B=>?_;go_simp;have hBs:Below wr.heap.size wr (wr.drew.alloc (ka #[Z G y] 3)):=ac.alloc ac.size _;have hSd:=HS.1 _ hBs;refine B.out _ _ hSd ?_;clear B;(try simp only[kc]);refine eZ (i:=7) (o:=_) kR rfl (fun K' B=>?_);refine step_append_lies _ rfl _ _ 52 rfl w.heap.size 3 i0 (Z G 0) 1 8 underlying52 hi hz0 hz1 hz2 rfl dD (J F k E) k XS rfl ((cT A ac).alloc _) ⟨wr.drew.heap.size,0,none⟩ 1 1 [Z G y] rfl rfl (zl (aD wr.drew _)) (fun u I=>by simp at I;subst I;rfl) zv HL1.1 HL2.1 (ko hbW hBs.size) _ rfl ?_;intro Q cap t hown hgrow hat hltg;obtain ⟨hSx,p2f,HFIN⟩:=HTL.1 _ Q cap t hBs hgrow hown;have hSd:=hSx;refine B.out _ _ hSd ?_;clear B;(try simp only[kc]);refine ct 8 ?_;refine aS fun K' B=>?_;go_simp;refine B.out _ _ ?_;clear B;(try simp only[kc]);go_wp2;go_roundw
        case rel=>exact ⟨X+1,oM,gN,by rw[show M+(X+1)=k+1 by have:=HK.1;omega];exact HFIN⟩
        case measure=>simp[intOf];omega
    ·have hdx:decide ((X:Int)<(W:Int))=false:=sO;obtain ⟨F,E,K,A,p,N,T⟩:=hJ;obtain ⟨q0,q1,q2⟩:=al p;have h3:X=W:=oM;subst h3;have HJ1:=qH (show kS w X H (J S zs.length ca) L ((Y+1)*X) wr from ⟨F,E,by rw[xc,<-HM.1];exact K,by rw[xc,<-HM.1];exact A,p,N,T⟩);go_wp2;go_roundw
     case rel=>exact ⟨Y+1,oM,gN,HJ1.1⟩
     case measure=>simp[intOf];omega
  ·have hd:decide ((Y:Int)<(H:Int))=false:=sO;obtain rfl:Y=H:=oM;rw[<-HLEN.1] at K A;rw[List.take_of_length_le (by rw[HLL.1];exact kf _)] at A;obtain ⟨p0,p1,p2⟩:=al (b:=w.heap.size+1+1) K;obtain ⟨z0,z1,z2⟩:=al N;obtain ⟨f0,f1,f2⟩:=fZ N;have HFI:=qH (bf T (show w.heap.size<=w.heap.size+1 from oM) (Z G (W:Nat)) (Z G (Y:Nat)) (J F zs.length E));have hpx:ap wr (J F zs.length E) L:=ap.own (base:=w.heap.size) (xs:=L) (v:=J F zs.length E) (by rw[HLL.1];exact A) (by rw[HLL.1];omega);have hne:(J F zs.length E).ownBlock≠some (w.heap.size+1):=fun e=>aW A N dD e.symm;have HX:=qH (hpx.other (gK wr (w.heap.size+1) (Z G (W:Nat)) (Z G (Y:Nat)) (J F zs.length E)) (fun b hb=>eL _ _ _ _ _ b hb) hne);have HF:=qH (ar.own A);clear hpx hne;go_wp2;exact bodyPost_ret (v:=.agg #[Z G (W:Nat),Z G (Y:Nat),J F zs.length E]) (by simp[results,results84,go_sem,z0,z1,z2]) rfl ⟨_,rfl,HX.1,HFI.1,HF.1⟩
end Go.Proofs.YtfjeonehdlphiaaGreatDoor
