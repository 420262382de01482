/- Part 15. -/
import Derived.Test.YtfjeonehdlphiaaGreatDoorC14Sd
open Go.Obj renaming cells → ka
open Go.Lib renaming frozen_of_heap → kc, cell_of_heap → kd
open Go.Act renaming put → kf
open Nat renaming le_refl → ko, le_trans → xe, mul_le_mul_right → zv, succ_mul → zB, mul_comm → zO, mul_le_mul → qv, one_pos → qx
open Int renaming eq_ofNat_of_zero_le → kv, toNat_natCast → zo
open Go.IntWalk renaming i64_in → kG
open Go.RowKit.Below renaming refl → xc, heap_setCell → xs, heap_alloc → zc
open List renaming getD_eq_getElem?_getD → zl, length_map → zR, range → zS, map_append → qn, finRange → qo
open Go.World renaming cell?_of_block → qb, size_alloc → qc
open Go.Value renaming int → Z, slice → J
open Go.IntKind renaming i64 → G
set_option linter.unusedVariables false
set_option maxHeartbeats 4000000
set_option maxRecDepth 100000
namespace Go.Proofs.YtfjeonehdlphiaaGreatDoor
open _root_.Go.Proofs.Tryz
open Go.RowKit Go.Shelf
attribute [local go_sem] Oper.semAt_some
def bu (k:Nat):Nat:=if k<4 then k else k+1
def fD (n:Nat):Nat:=if n<=4 then n else n-1
theorem D3 (n:Nat) (h:n≠4):fD (n+1)=fD n+1:=by unfold fD;split<;>split<;>omega
theorem CU (n:Nat) (h:n≠4):bu (fD n)=n:=by unfold bu fD;split<;>split<;>omega
theorem D0 (n:Nat) (h:n<9):fD n<8:=by unfold fD;split<;>omega
theorem tQ (F:Fence) (n:Nat) (a:F.fn 128) (b:F.round=none) (X Y:Int) (w:World) :
  CallsIn F n prog 128 #[.agg #[Z G X,Z G Y]] w fun e w'=>e=.returned (.func (.func 184) #[] #[.pointer (some ⟨w.heap.size,0,none⟩)])/\w'=w.alloc (.cells #[Z G X,Z G Y] 97):=by
 refine callsIn_of_wp func128 rfl a ?_ b;simp only[ntmps128,List.size_toArray,List.length_cons,List.length_nil,Nat.reduceAdd,Nat.reduceSub,Array.replicate_succ,Array.replicate_zero,List.push_toArray,List.append_toArray,List.nil_append,List.cons_append]
 gi_wp2;go_ret;exact ⟨rfl,rfl⟩
theorem yW (F:Fence) (n:Nat) (hf:F.fn 184) (hro:F.round=none) (hn:1<=n) (l d X Y:Nat) (hX:X<=64) (hY0:Y<=64) (c L:List (Fin 8)->World->Prop) (N:∀s W o,c s W->c s (W.alloc o))
  (hY:∀q (x:Fin 8) V,c q V->q.length<8->YieldAt F (n-1) prog l #[.agg #[Z G ((X:Int)-1+(bu x.1 % 3:Nat)),Z G ((Y:Int)-1+(bu x.1 / 3:Nat))]] V fun e r =>
   (e=.returned (.bool true)/\c (q++[x]) r/\fF d V r)\/(e=.returned (.bool false)/\L (q++[x]) r))
  (V:World) (Q:V.cell? ⟨d,0,none⟩=some (Z G X)) (R:V.cell? ⟨d,1,none⟩=some (Z G Y)) (M:c [] V) :
  CallsIn F n prog 184 #[.func (.yield l) #[] #[],.pointer (some ⟨d,0,none⟩)] V fun e r=>(∃v,e=.returned v) /\
   ((∃ys,ys=qo 8/\c ys r)\/(∃q,q <+: qo 8/\L q r)):=by
 refine callsIn_of_wp func184 rfl hf ?_ hro;simp only[ntmps184,List.size_toArray,List.length_cons,List.length_nil,Nat.reduceAdd,Nat.reduceSub,Array.replicate_succ,Array.replicate_zero,List.push_toArray,List.append_toArray,List.nil_append,List.cons_append]
 gi_wp2
 gi_loopw [3] (fun i wr=>∃(b:Nat) (g:Int),b<=3/\Hid (g=(Y:Int)-1+(b:Nat))/\i=Z G g/\c (dL 8 (fD (3*b))) wr/\wr.cell? ⟨d,0,none⟩=some (Z G X)/\wr.cell? ⟨d,1,none⟩=some (Z G Y)) (fun i _=>((Y:Int)+2-intOf i).toNat)
 case atStart=>exact ⟨0,(Y:Int)-1,oM,au sS,rfl,M,Q,R⟩
 case round =>
  obtain ⟨b,g,hb,k,rfl,m,t,u⟩:=hrel;clear Q R M;by_cases hlt:b<3
  ·have hd:decide (g<=(Y:Int)+1)=true:=(by have:=k.out;simp;omega);have U:-1<=g/\g<=66:=(by have:=k.out;omega);obtain ⟨U,hyb1⟩:=U
   gi_wp2
   gi_loopw [4] (fun i wr=>∃(a:Nat) (f:Int),a<=3/\Hid (f=(X:Int)-1+(a:Nat))/\i=Z G f/\c (dL 8 (fD (3*b+a))) wr/\wr.cell? ⟨d,0,none⟩=some (Z G X)/\wr.cell? ⟨d,1,none⟩=some (Z G Y)) (fun i _=>((X:Int)+2-intOf i).toNat)
   case atStart=>exact ⟨0,(X:Int)-1,oM,au sS,rfl,m,t,u⟩
   case round =>
    clear m t u;obtain ⟨a,f,ha,j,rfl,m,t,u⟩:=hrel;have P:d<wr.heap.size:=World.block_lt_of_cell? wr _ t;have T:-1<=f/\f<=66:=(by have:=j.out;omega);obtain ⟨T,hxa1⟩:=T;by_cases hal:a<3
    ·have hd2:decide (f<=(X:Int)+1)=true:=(by have:=j.out;simp;omega);have E:=(qb (a:=⟨d,0,none⟩) (zc wr (ka #[Z G f,Z G g] 97) d P)).trans t;have H:=(qb (a:=⟨d,1,none⟩) (zc wr (ka #[Z G f,Z G g] 97) d P)).trans u;have y:=au (show f+1=(X:Int)-1+((a+1:Nat):Int) by have:=j.out;omega);have w:((X:Int)+2-(f+1)).toNat<((X:Int)+2-f).toNat:=(by have:=j.out;omega);by_cases C:a=1/\b=1
     ·obtain rfl:f=(X:Int):=(by have:=j.out;omega);obtain rfl:g=(Y:Int):=(by have:=k.out;omega);have HP:=qH (show fD (3*b+(a+1))=fD (3*b+a) by rw[C.1,C.2];rfl);clear C
      gi_wp2;refine ⟨fun _ h=>(by cases h),?_⟩
      gi_wp2;go_roundw
      case rel=>exact ⟨a+1,_,oM,y,rfl,by rw[HP.1];exact N _ _ _ m,E,H⟩
      case measure=>simpa [intOf] using w
     ·have D:3*b+a≠4:=oM;have p:=D0 (3*b+a) oM;have B:=hY (dL 8 (fD (3*b+a))) ⟨fD (3*b+a),p⟩ (wr.alloc (ka #[Z G f,Z G g] 97)) (N _ _ _ m) (by rw[pz _ _ (Nat.le_of_lt p)];exact p);simp only[CU (3*b+a) D,show (3*b+a) % 3=a from oM,show (3*b+a) / 3=b from oM] at B;rw[<-j.out,<-k.out] at B;obtain ⟨fn,tmps,assign,body,hy',O⟩:=B;have K:=qH (show dL 8 (fD (3*b+(a+1)))=dL 8 (fD (3*b+a))++[⟨fD (3*b+a),p⟩] by
       rw[<-mS 8 _ p,<-D3 _ D];rfl)
      have I:=qH (show dL 8 (fD (3*b+a))++[⟨fD (3*b+a),p⟩] <+: qo 8 by
       rw[<-mS 8 _ p];exact rM 8 _)
      have hor:(¬f=(X:Int))\/(f=(X:Int)/\¬g=(Y:Int)):=(by have:=j.out;have:=k.out;omega);clear D;rcases hor with S|⟨S,hyb⟩
      ·gi_wp2;refine O.mono ?_;rintro e V3 (⟨rfl,hJ3,hk3⟩|⟨rfl,hJx3⟩)
       ·have z:=(qb (a:=⟨d,0,none⟩) hk3).trans E;have A:=(qb (a:=⟨d,1,none⟩) hk3).trans H;rw[<-K.1] at hJ3
        gi_wp2;go_roundw
        case rel=>exact ⟨a+1,_,oM,y,rfl,hJ3,z,A⟩
        case measure=>simpa [intOf] using w
       ·gi_wp2;refine bodyPost_ret (results_none rfl _ _ _) rfl ?_;exact ⟨⟨_,rfl⟩,.inr ⟨_,I.1,hJx3⟩⟩
      ·subst S
       gi_wp2;refine O.mono ?_;rintro e V3 (⟨rfl,hJ3,hk3⟩|⟨rfl,hJx3⟩)
       ·have z:=(qb (a:=⟨d,0,none⟩) hk3).trans E;have A:=(qb (a:=⟨d,1,none⟩) hk3).trans H;rw[<-K.1] at hJ3
        gi_wp2;go_roundw
        case rel=>exact ⟨a+1,_,oM,y,rfl,hJ3,z,A⟩
        case measure=>simpa [intOf] using w
       ·gi_wp2;refine bodyPost_ret (results_none rfl _ _ _) rfl ?_;exact ⟨⟨_,rfl⟩,.inr ⟨_,I.1,hJx3⟩⟩
    ·have hd2:decide (f<=(X:Int)+1)=false:=(by have:=j.out;simp;omega);obtain rfl:a=3:=oM;have HNY:=au (show g+1=(Y:Int)-1+((b+1:Nat):Int) by have:=k.out;omega);have w:((Y:Int)+2-(g+1)).toNat<((Y:Int)+2-g).toNat:=by have:=k.out;omega
     gi_wp2;go_roundw
     case rel=>exact ⟨b+1,_,oM,HNY,rfl,m,t,u⟩
     case measure=>simpa [intOf] using w
  ·obtain rfl:b=3:=oM;have hd:decide (g<=(Y:Int)+1)=false:=by have:=k.out;simp;omega
   gi_wp2;go_end0;exact ⟨⟨_,rfl⟩,.inl ⟨_,by rw[<-py];rfl,m⟩⟩
theorem tR (F:Fence) (n:Nat) (u:F.fn 184) (y:F.round=none) (v:1<=n) (b X Y:Nat) (j:X<=64) (m:Y<=64) (w:World) (c:b<w.heap.size)
  (q:w.cell? ⟨b,0,none⟩=some (Z G X)) (t:w.cell? ⟨b,1,none⟩=some (Z G Y)) :
  SeqStopsK F n prog 184 #[.pointer (some ⟨b,0,none⟩)] (fun x:Fin 8=>#[Value.agg #[Z G ((X:Int)-1+(bu x.1 % 3:Nat)),Z G ((Y:Int)-1+(bu x.1 / 3:Nat))]]) (fF b) (fun A=>A=qo 8) (fun z=>z <+: qo 8) 8 w:=fun l a f V d i _ k g =>
 yW F n u y v l b X Y j m a f (fun s W o h=>i s W (W.alloc o) none h (World.grownBy_alloc W o none) (fun r e=>by cases e)) k V ((d.cell (p:=⟨b,0,none⟩) c).trans q) ((d.cell (p:=⟨b,1,none⟩) c).trans t) g
end Go.Proofs.YtfjeonehdlphiaaGreatDoor
namespace Go.Proofs.YtfjeonehdlphiaaGreatDoor
open Go.RowKit
open _root_.Go.Proofs.Tryz
def aB (ps:List Px) (j:Nat):Px:=ps.getD j (0,0,0)
theorem gH (ps:List Px) (i:Nat) (h:i<ps.length):ps[i]=aB ps i:=by simp[aB,zl,List.getElem?_eq_getElem h]
theorem kl {ps:List Px} (h:eu ps=true) (j:Nat):et (aB ps j)=true:=by
 by_cases a:j<ps.length
 ·rw[<-gH ps j a];exact List.all_eq_true.1 h _ (List.getElem_mem a)
 ·rw[aB,zl,List.getElem?_eq_none oM];rfl
def fr (W H X Y:Nat) (k:Nat):Nat:=(dC H ((Y:Int)-1+(bu k / 3:Nat))).toNat*W+(dC W ((X:Int)-1+(bu k % 3:Nat))).toNat
def eN (k:Nat):Int:=if bu k % 3=1\/bu k / 3=1 then 2 else 1
def wF (ps:List Px) (W H X Y:Nat) (a:List (Fin 8)):Px:=a.foldl (fun s x=>iF s (eN x.1) (aB ps (fr W H X Y x.1))) (iF (0,0,0) 4 (aB ps (Y*W+X)))
theorem G2 (ps:List Px) (W H X Y:Nat) (a:List (Fin 8)) (x:Fin 8):wF ps W H X Y (a++[x])=iF (wF ps W H X Y a) (eN x.1) (aB ps (fr W H X Y x.1)):=by simp[wF]
theorem ti (k:Nat):0<=eN k/\eN k<=2:=by unfold eN;split<;>omega
theorem tI {m n:Int} {s p:Px} {k:Int} (g:lD m s) (f:et p=true) (a:0<=k) (b:k<=n):lD (m+n) (iF s k p):=by
 obtain ⟨⟨h,i⟩,⟨c,d⟩,u1,u2⟩:=(jC p).1 f;obtain ⟨⟨u,v⟩,⟨w,x⟩,y,z⟩:=g;obtain ⟨j,l⟩:=mW a b h i;obtain ⟨o,q⟩:=mW a b c d;obtain ⟨r,t⟩:=mW a b u1 u2;have e:(m+n)*65535=m*65535+n*65535:=Int.add_mul _ _ _;refine ⟨⟨?_,?_⟩,⟨?_,?_⟩,?_,?_⟩<;>(simp only[iF];omega)
theorem Bb {ps:List Px} (h:eu ps=true) (W H X Y:Nat) (a:List (Fin 8)) (m:Int) (s:Px) (b:lD m s):lD (m+2*(a.length:Int)) (a.foldl (fun s x=>iF s (eN x.1) (aB ps (fr W H X Y x.1))) s):=by
 induction a generalizing m s with
 | nil=>simpa using b
 | cons x a ih =>
  have:=ih (m+2) _ (tI b (kl h (fr W H X Y x.1)) (ti x.1).1 (ti x.1).2);rw[show (m+2)+2*(a.length:Int)=m+2*((x::a).length:Int) from sO] at this;exact this
theorem th {ps:List Px} (h:eu ps=true) (W H X Y:Nat) (a:List (Fin 8)):lD (4+2*(a.length:Int)) (wF ps W H X Y a) :=
 Bb h W H X Y a 4 _ (tI (m:=0) (n:=4) (s:=(0,0,0)) (k:=4) ⟨⟨dD,dD⟩,⟨dD,dD⟩,dD,dD⟩ (kl h (Y*W+X)) oM oM)
theorem sz {m n:Int} {p:Px} (h:lD m p) (d:m<=n):lD n p:=by
 obtain ⟨⟨a,e⟩,⟨b,f⟩,c,g⟩:=h;refine ⟨⟨a,?_⟩,⟨b,?_⟩,c,?_⟩<;>omega
theorem G3 {W H:Nat} (i:1<=W) (h:1<=H) (X Y k:Nat):fr W H X Y k<H*W:=by
 obtain ⟨c,f⟩:=jY H ((Y:Int)-1+(bu k / 3:Nat)) oM;obtain ⟨d,g⟩:=jY W ((X:Int)-1+(bu k % 3:Nat)) oM;unfold fr;generalize dC H ((Y:Int)-1+(bu k / 3:Nat))=a at *;generalize dC W ((X:Int)-1+(bu k % 3:Nat))=b at *;obtain ⟨A,rfl⟩:=kv c;obtain ⟨B,rfl⟩:=kv d;simp only[zo];have e:(A+1)*W<=H*W:=zv _ oM;rw[zB] at e;omega
end Go.Proofs.YtfjeonehdlphiaaGreatDoor
namespace Go.Proofs.YtfjeonehdlphiaaGreatDoor
open _root_.Go.Proofs.Tryz
open Go.RowKit Go.Shelf
attribute [local go_sem] Oper.semAt_some
def di {N:Nat} (zs:List Int) (W H:Nat) (a b:Fin N->Int) (aj:Fin N->Bool) (s:Int×Nat) (x:Fin N):Int×Nat :=
 if bc W H (a x) (b x)=true/\aj x=true then (s.1+aN zs ((b x).toNat*W+(a x).toNat),s.2+1) else s
def mF {N:Nat} (zs:List Int) (W H:Nat) (b c:Fin N->Int) (aj:Fin N->Bool) (a:List (Fin N)):Int×Nat:=a.foldl (di zs W H b c aj) (0,0)
theorem vk {N:Nat} (zs:List Int) (W H:Nat) (a b:Fin N->Int) (aj:Fin N->Bool) (c:List (Fin N)) (x:Fin N):mF zs W H a b aj (c++[x])=di zs W H a b aj (mF zs W H a b aj c) x:=by simp[mF]
theorem rO {N:Nat} {zs:List Int} (h:az 0 65535 zs=true) (W H:Nat) (a b:Fin N->Int) (aj:Fin N->Bool) (c:List (Fin N)) (s:Int×Nat) (n:Nat) (e:0<=s.1) (f:s.1<=s.2*65535) (g:s.2<=n) :
  0<=(c.foldl (di zs W H a b aj) s).1/\(c.foldl (di zs W H a b aj) s).1<=(c.foldl (di zs W H a b aj) s).2*65535/\(c.foldl (di zs W H a b aj) s).2<=n+c.length:=by
 induction c generalizing s n with
 | nil=>exact ⟨e,f,g⟩
 | cons x c ih =>
  simp only[List.foldl_cons,List.length_cons];have i:=jK h ((b x).toNat*W+(a x).toNat);have d:0<=(di zs W H a b aj s x).1/\(di zs W H a b aj s x).1<=(di zs W H a b aj s x).2*65535/\(di zs W H a b aj s x).2<=n+1:=by
   unfold di;split
   ·refine ⟨?_,?_,?_⟩
    ·show 0<=s.1+aN zs ((b x).toNat*W+(a x).toNat);omega
    ·show s.1+aN zs ((b x).toNat*W+(a x).toNat)<=((s.2+1:Nat):Int)*65535;omega
    ·show s.2+1<=n+1;omega
   ·exact ⟨e,f,oM⟩
  have:=ih (di zs W H a b aj s x) (n+1) d.1 d.2.1 d.2.2;refine ⟨this.1,this.2.1,oM⟩
def gl {N:Nat} (zs:List Int) (W H:Nat) (a b:Fin N->Int) (aj:Fin N->Bool):Int :=
 if (mF zs W H a b aj (qo N)).2=0 then 0 else (mF zs W H a b aj (qo N)).1 / ((mF zs W H a b aj (qo N)).2:Int)
theorem vw (N W H E off ca:Nat) (hN:N<=8) (hW1:1<=W) (hW:W<=64) (hH1:1<=H) (hH:H<=64) (zs:List Int) (hlen:zs.length=H*W) (hzs:az 0 65535 zs=true) (gf L Bs:Nat) (lb R:Array Value) (d g:Fin N->Int) (aj:Fin N->Bool) (w:World)
  (egg:∀args w,(callFunc gf args).run prog w=.ok (.enter gf args) w) (egc:∀args w,(callFunc L args).run prog w=.ok (.enter L args) w) (hBs:Bs<w.heap.size)
  (hbk:E<w.heap.size) (hcell:∀j,j<zs.length->w.cell? ⟨E,off+j,none⟩=some (Z G (aN zs j)))
  (hseq:∀V,Below w.heap.size w V->SeqStopsK Fence.wide (3-1) prog gf lb (fun x:Fin N=>#[Value.agg #[Z G (d x),Z G (g x)]]) (fF Bs) (fun ys=>ys=qo N) (fun r=>r <+: qo N) N V)
  (hcnt:∀(x:Fin N) (V:World),bc W H (d x) (g x)=true->Below w.heap.size w V->Calls prog L (#[.agg #[Z G (d x),Z G (g x)]]++R) V fun e V'=>e=.returned (.bool (aj x))/\Below V.heap.size V V') :
  Calls prog 127 #[.agg #[Z G W,Z G H,J (some ⟨E,off,none⟩) zs.length ca],.func (.func gf) #[] lb,.func (.func L) #[] R] w (rT w (Z G (gl zs W H d g aj))):=by
 have hl4:zs.length<=4096:=by rw[hlen];exact xe (qv hH hW) dD
 have HLEN:=qH hlen;have HZS:=qH hzs;have HC:=qH hcell;have HSEQ:=qH hseq;have HCNT:=qH hcnt;clear hlen hzs hcell hseq hcnt;refine (callsIn_wide (n:=3)).1 ?_;refine callsIn_of_wp_marks func127 rfl trivial ?_ rfl;simp only[ntmps127,List.size_toArray,List.length_cons,List.length_nil,Nat.reduceAdd,Nat.reduceSub,Array.replicate_succ,Array.replicate_zero,List.push_toArray,List.append_toArray,List.nil_append,List.cons_append]
 gi_wp2_with fail;obtain ⟨a1,a2,a3,a4,hB4⟩:=jM w (ka #[Z G W,Z G H,J (some ⟨E,off,none⟩) zs.length ca] 54) (ka #[.func (.func L) #[] R] 176) (ka #[Z G W,Z G H] 95) (ka #[Z G 0] 3);have hs4:((((w.alloc (ka #[Z G W,Z G H,J (some ⟨E,off,none⟩) zs.length ca] 54)).alloc (ka #[.func (.func L) #[] R] 176)).alloc (ka #[Z G W,Z G H] 95)).alloc (ka #[Z G 0] 3)).heap.size=w.heap.size+4:=sS;generalize (((w.alloc _).alloc _).alloc _).alloc _=Q at *;have b1:=(zc Q (ka #[Z G 0] 3) w.heap.size oM).trans a1;have b2:=(zc Q (ka #[Z G 0] 3) (w.heap.size+1) oM).trans a2;have b3:=(zc Q (ka #[Z G 0] 3) (w.heap.size+2) oM).trans a3;have b4:=(zc Q (ka #[Z G 0] 3) (w.heap.size+3) oM).trans a4;have b5:(Q.alloc (ka #[Z G 0] 3)).heap[w.heap.size+4]?=some (ka #[Z G 0] 3):=by have h:=aD Q (ka #[Z G 0] 3);rw[hs4] at h;exact h
 have hB0:=aG hB4 (aq Q (ka #[Z G 0] 3));have hs0:w.heap.size+5<=(Q.alloc (ka #[Z G 0] 3)).heap.size:=sO;clear a1 a2 a3 a4 hB4 hs4;generalize Q.alloc _=W0 at *;refine wpIn_rangeFunc_ownH (α:=Fin N) rfl (show 1<=3 from oM) (gf:=gf) (lb:=lb) rfl trivial egg
  (HSEQ.1 W0 hB0) (fun {A B C} h k=>h.trans' k) (fun X l o o' hl _ _ _=>pC oM) (xc _ _) (fun _=>rfl)
  (fun r a=>a.heap[w.heap.size+3]?=some (.cells #[Z G (mF zs W H d g aj r).1] 3 (0,0))/\a.heap[w.heap.size+4]?=some (.cells #[Z G ((mF zs W H d g aj r).2:Nat)] 3 (0,0))/\a.heap[w.heap.size]?=some (.cells #[Z G W,Z G H,J (some ⟨E,off,none⟩) zs.length ca] 54 (0,0))/\a.heap[w.heap.size+1]?=some (.cells #[.func (.func L) #[] R] 176 (0,0))/\a.heap[w.heap.size+2]?=some (.cells #[Z G W,Z G H] 95 (0,0))/\Below w.heap.size w a)
  (fun _ _ _=>False)
  (fun s X Y row ⟨c1,c2,c3,c4,c5,c6⟩ hg u=>⟨fj hg u c1,fj hg u c2,fj hg u c3,fj hg u c4,fj hg u c5,ownFrom_below (β:=Unit) (ko _) oM () X Y row c6 hg u⟩)
  (fun _ _ _ _ _ hs _ _=>hs)
  ⟨b4,b5,b1,b2,b3,hB0⟩
  (fun x a' a=>∃y,w.heap.size+5<=y/\a.heap[y]?=some (.cells #[Z G (d x),Z G (g x)] 97 (0,0))/\a'={ tmps:=#[.agg #[Z G W,Z G H,J (some ⟨E,off,none⟩) zs.length ca],.func (.func gf) #[] lb,.func (.func L) #[] R,.pointer (some ⟨w.heap.size,0,none⟩),undef,.pointer (some ⟨w.heap.size+1,0,none⟩),Z G 0,.pointer (some ⟨w.heap.size+1+1,0,none⟩),.pointer (some ⟨w.heap.size+1+1+1,0,none⟩),.pointer (some ⟨w.heap.size+1+1+1+1,0,none⟩),.pointer (some ⟨y,0,none⟩),.pointer (some ⟨w.heap.size,0,none⟩),Z G W,.pointer (some ⟨w.heap.size,1,none⟩),Z G H,.agg #[Z G W,Z G H],.func (.func gf) #[] lb,.agg #[Z G (d x),Z G (g x)],undef,undef,undef,undef,undef,undef,undef,undef,undef,undef,undef,undef,undef,undef,undef,undef,undef,undef,undef,undef,undef,undef,undef,undef],defers:=[] })
  (fun x a' _ X Y row ⟨y,c1,c2,c3⟩ hg u=>⟨y,c1,fj hg u c2,c3⟩)
  ?assign ?body ?done ?stop
 case assign =>
  rintro l r x a K ⟨F,I,i3,i4,O,P⟩ M;have hl1:=lS F;have hl2:=lS I;have hl3:=lS i3;have hl4:=lS i4;have hl5:=lS O;have hl6:=P.size
  gi_wp2;exact M _ _ ((KeepsOthers.alloc _ _).from _) (zc _ _ _ oM) ⟨(zc _ _ _ hl1).trans F,(zc _ _ _ hl2).trans I,(zc _ _ _ hl3).trans i3,(zc _ _ _ hl4).trans i4,(zc _ _ _ hl5).trans O,P.alloc hl6 _⟩ ⟨a.heap.size,oM,aD a _,rfl⟩
 case body =>
  rintro l r x a' a hl ⟨rr,hrr⟩ ⟨F,I,i3,i4,O,P⟩ ⟨y,hBx,bX,rfl⟩ hlt;have HSN:=qH (vk zs W H d g aj r x);have u:0<=(mF zs W H d g aj r).1/\(mF zs W H d g aj r).1<=(mF zs W H d g aj r).2*65535/\(mF zs W H d g aj r).2<=0+r.length:=rO HZS.1 W H d g aj r (0,0) 0 (Int.le_refl _) dD (ko _);obtain ⟨⟨i,m⟩,hsn⟩:∃t,mF zs W H d g aj r=t:=⟨_,rfl⟩;rw[hsn] at F I HSN u;obtain ⟨hr1,hr2,hr3⟩:=u;simp only at hr1 hr2 hr3 F I;clear hsn;have HCN:=qH (fun V h1 h2=>HCNT.1 x V h1 h2);have HMS:=qH (show di zs W H d g aj (i,m) x=if bc W H (d x) (g x)=true/\aj x=true then (i+aN zs ((g x).toNat*W+(d x).toNat),m+1) else (i,m) from rfl);obtain ⟨xa,hxa⟩:=eX (d x);obtain ⟨yb,hyb⟩:=eX (g x);obtain ⟨cx,hcx⟩:=eX (aj x);rw[hxa,hyb] at bX |-;rw[hxa,hyb,hcx] at HCN HMS;clear hxa hyb hcx;have hl1:=lS F;have hl2:=lS I;have hl3:=lS i3;have hl4:=lS i4;have hl5:=lS O;have hlX:=lS bX;have hsz:=P.size;have g0:a.cell? ⟨w.heap.size+1+1,0,none⟩=some (Z G W):=by rw[kd (b:=w.heap.size+1+1) O];rfl
  have g1:a.cell? ⟨w.heap.size+1+1,1,none⟩=some (Z G H):=by rw[kd (b:=w.heap.size+1+1) O];rfl
  have x0:a.cell? ⟨y,0,none⟩=some (Z G xa):=kd bX _;have x1:a.cell? ⟨y,1,none⟩=some (Z G yb):=kd bX _;have HEND0:=qH (show ∀V,Below a.heap.size a V->mF zs W H d g aj (r++[x])=(i,m)->KeepsFrom W0.heap.size a V/\fF Bs a V/\(V.heap[w.heap.size+3]?=some (.cells #[Z G (mF zs W H d g aj (r++[x])).1] 3 (0,0))/\V.heap[w.heap.size+4]?=some (.cells #[Z G ((mF zs W H d g aj (r++[x])).2:Nat)] 3 (0,0))/\V.heap[w.heap.size]?=some (.cells #[Z G W,Z G H,J (some ⟨E,off,none⟩) zs.length ca] 54 (0,0))/\V.heap[w.heap.size+1]?=some (.cells #[.func (.func L) #[] R] 176 (0,0))/\V.heap[w.heap.size+2]?=some (.cells #[Z G W,Z G H] 95 (0,0))/\Below w.heap.size w V) from fun V h hm=>by
   rw[hm];exact ⟨⟨h.size,fun k o _ hk _=>(h.block k (lS hk)).trans hk⟩,h.block Bs oM,(h.block _ hl1).trans F,(h.block _ hl2).trans I,(h.block _ hl3).trans i3,(h.block _ hl4).trans i4,(h.block _ hl5).trans O,P.trans (h.mono hsz)⟩)
  have HEND1:=qH (show ∀V (z:Int),Below a.heap.size a V->mF zs W H d g aj (r++[x])=(i+z,m+1)->KeepsFrom W0.heap.size a ((V.setCell ⟨w.heap.size+1+1+1,0,none⟩ (Z G (i+z))).setCell ⟨w.heap.size+1+1+1+1,0,none⟩ (Z G ((m+1:Nat):Int)))/\fF Bs a ((V.setCell ⟨w.heap.size+1+1+1,0,none⟩ (Z G (i+z))).setCell ⟨w.heap.size+1+1+1+1,0,none⟩ (Z G ((m+1:Nat):Int)))/\(((V.setCell ⟨w.heap.size+1+1+1,0,none⟩ (Z G (i+z))).setCell ⟨w.heap.size+1+1+1+1,0,none⟩ (Z G ((m+1:Nat):Int))).heap[w.heap.size+3]?=some (.cells #[Z G (mF zs W H d g aj (r++[x])).1] 3 (0,0))/\((V.setCell ⟨w.heap.size+1+1+1,0,none⟩ (Z G (i+z))).setCell ⟨w.heap.size+1+1+1+1,0,none⟩ (Z G ((m+1:Nat):Int))).heap[w.heap.size+4]?=some (.cells #[Z G ((mF zs W H d g aj (r++[x])).2:Nat)] 3 (0,0))/\((V.setCell ⟨w.heap.size+1+1+1,0,none⟩ (Z G (i+z))).setCell ⟨w.heap.size+1+1+1+1,0,none⟩ (Z G ((m+1:Nat):Int))).heap[w.heap.size]?=some (.cells #[Z G W,Z G H,J (some ⟨E,off,none⟩) zs.length ca] 54 (0,0))/\((V.setCell ⟨w.heap.size+1+1+1,0,none⟩ (Z G (i+z))).setCell ⟨w.heap.size+1+1+1+1,0,none⟩ (Z G ((m+1:Nat):Int))).heap[w.heap.size+1]?=some (.cells #[.func (.func L) #[] R] 176 (0,0))/\((V.setCell ⟨w.heap.size+1+1+1,0,none⟩ (Z G (i+z))).setCell ⟨w.heap.size+1+1+1+1,0,none⟩ (Z G ((m+1:Nat):Int))).heap[w.heap.size+2]?=some (.cells #[Z G W,Z G H] 95 (0,0))/\Below w.heap.size w ((V.setCell ⟨w.heap.size+1+1+1,0,none⟩ (Z G (i+z))).setCell ⟨w.heap.size+1+1+1+1,0,none⟩ (Z G ((m+1:Nat):Int)))) from fun V z h hm=>by
   rw[hm];have k3:=(h.block _ hl1).trans F;have k4:=(h.block _ hl2).trans I;have h3:=heap_setCell_same V (w.heap.size+3) 0 _ _ (Z G (i+z)) k3;have o3:∀b,b≠w.heap.size+3->(V.setCell ⟨w.heap.size+3,0,none⟩ (Z G (i+z))).heap[b]?=V.heap[b]?:=fun b hb=>xs _ _ _ _ hb;have k4':=(o3 (w.heap.size+4) oM).trans k4;have h4:=heap_setCell_same (V.setCell ⟨w.heap.size+3,0,none⟩ (Z G (i+z))) (w.heap.size+4) 0 _ _ (Z G ((m+1:Nat):Int)) k4';have o4:∀b,b≠w.heap.size+4->((V.setCell ⟨w.heap.size+3,0,none⟩ (Z G (i+z))).setCell ⟨w.heap.size+4,0,none⟩ (Z G ((m+1:Nat):Int))).heap[b]?=(V.setCell ⟨w.heap.size+3,0,none⟩ (Z G (i+z))).heap[b]?:=fun b hb=>xs _ _ _ _ hb;have oo:∀b,b≠w.heap.size+3->b≠w.heap.size+4->b<a.heap.size->((V.setCell ⟨w.heap.size+3,0,none⟩ (Z G (i+z))).setCell ⟨w.heap.size+4,0,none⟩ (Z G ((m+1:Nat):Int))).heap[b]?=a.heap[b]?:=fun b h1 h2 h5=>(o4 b h2).trans ((o3 b h1).trans (h.block b h5));refine ⟨⟨?_,fun k o hkB hk hoc=>?_⟩,oo Bs oM oM oM,?_,?_,(oo _ oM oM hl3).trans i3,(oo _ oM oM hl4).trans i4,(oo _ oM oM hl5).trans O,?_⟩
   ·have:=h.size;simpa [World.setCell] using this
   ·exact (oo k oM oM (lS hk)).trans hk
   ·exact (o4 _ oM).trans (by rw[h3];rfl)
   ·show ((V.setCell ⟨w.heap.size+3,0,none⟩ (Z G (i+z))).setCell ⟨w.heap.size+4,0,none⟩ (Z G ((m+1:Nat):Int))).heap[w.heap.size+4]?=_;rw[h4];rfl
   ·exact ((P.trans (h.mono hsz)).setCell (p:=⟨w.heap.size+3,0,none⟩) (by show w.heap.size<=w.heap.size+3;omega) _).setCell (p:=⟨w.heap.size+4,0,none⟩) (by show w.heap.size<=w.heap.size+4;omega) _)
  gi_wp2_with fail;refine ⟨trivial,?_⟩;refine (CallsIn.inRound l (callsIn_wide.2 (rK W H xa yb _))).mono ?_;rintro e V1 ⟨rfl,hb1⟩;by_cases hh:bc W H xa yb=true
  ·rw[hh];have q0:V1.cell? ⟨w.heap.size+1,0,none⟩=some (.func (.func L) #[] R):=kd ((hb1.block _ hl4).trans i4) _;have q1:V1.cell? ⟨y,0,none⟩=some (Z G xa):=kd ((hb1.block _ hlX).trans bX) _;have q2:V1.cell? ⟨y,1,none⟩=some (Z G yb):=kd ((hb1.block _ hlX).trans bX) _
   gi_wp2_with fail;refine ⟨trivial,?_⟩;refine (CallsIn.inRound l (callsIn_wide.2 (HCN.1 _ hh (P.trans (hb1.mono hsz))))).mono ?_;rintro e V2 ⟨rfl,hb2⟩;have hb12:=aG hb1 hb2;cases hcx:cx with
   | false =>
    have HM0:=qH (show mF zs W H d g aj (r++[x])=(i,m) by rw[HSN.1,HMS.1,hcx];simp)
    gi_wp2;exact HEND0.1 _ hb12 HM0.1
   | true =>
    obtain ⟨hx0,hx1,hy0,hy1⟩:0<=xa/\xa<W/\0<=yb/\yb<H:=(by simpa [bc] using hh);have HM1:=qH (show mF zs W H d g aj (r++[x])=(i+aN zs (yb.toNat*W+xa.toNat),m+1) by rw[HSN.1,HMS.1,hcx,hh];simp);obtain ⟨X,rfl⟩:=kv hx0;obtain ⟨Y,rfl⟩:=kv hy0;rw[zo,zo] at HM1;have hkl:Y*W+X<zs.length:=by
     have h1:(Y+1)*W<=H*W:=zv _ oM;rw[zB] at h1;rw[HLEN.1];omega
    obtain ⟨U,hK1⟩:=eX (Y*W+X);rw[hK1] at HM1 hkl;have HIX:=qH (fun v=>iP W H X Y W U rfl hK1 oM v);have hz:=jK HZS.1 U;have hcz:=HC.1 U hkl;obtain ⟨z,hz0⟩:=eX (aN zs U);rw[hz0] at hz hcz HM1;obtain ⟨hz1,hz2⟩:=hz;clear hz0 hK1 x0 x1 g0 g1 q0 q1 q2;have HS:=qH (show ∀v,Below a.heap.size a v->v.cell? ⟨w.heap.size+1+1+1,0,none⟩=some (Z G i)/\v.cell? ⟨w.heap.size,2,none⟩=some (J (some ⟨E,off,none⟩) zs.length ca)/\v.cell? ⟨w.heap.size+1+1,0,none⟩=some (Z G W)/\v.cell? ⟨w.heap.size+1+1,1,none⟩=some (Z G H)/\v.cell? ⟨y,0,none⟩=some (Z G (X:Nat))/\v.cell? ⟨y,1,none⟩=some (Z G (Y:Nat))/\v.cell? ⟨E,off+U,none⟩=some (Z G z) from fun v h=>by
     obtain ⟨_,_,t2⟩:=al ((h.block _ hl3).trans i3);have t5:=(h.block _ hl5).trans O;have tx:=(h.block _ hlX).trans bX;exact ⟨by rw[kd (b:=w.heap.size+1+1+1) ((h.block _ hl1).trans F)];rfl,t2,by rw[kd (b:=w.heap.size+1+1) t5];rfl,by rw[kd (b:=w.heap.size+1+1) t5];rfl,kd tx _,kd tx _,((P.trans (h.mono hsz)).cell (p:=⟨E,off+U,none⟩) hbk).trans hcz⟩)
    have HF:=qH (show ∀v,Below a.heap.size a v->v.frozen? ⟨w.heap.size+1+1+1,0,none⟩=false/\v.cell? ⟨w.heap.size+1+1+1,0,none⟩=some (Z G i)/\v.frozen? ⟨w.heap.size+1+1+1+1,0,none⟩=false/\v.cell? ⟨w.heap.size+1+1+1+1,0,none⟩=some (Z G (m:Nat)) from fun v h=>by
     have t3:=(h.block _ hl1).trans F;have t4:=(h.block _ hl2).trans I;exact ⟨kc (b:=w.heap.size+1+1+1) t3 0,by rw[kd (b:=w.heap.size+1+1+1) t3];rfl,kc (b:=w.heap.size+1+1+1+1) t4 0,by rw[kd (b:=w.heap.size+1+1+1+1) t4];rfl⟩)
    have hws:IntKind.i64.wrap (i+z)=i+z:=kG _ oM;have hwn:IntKind.i64.wrap ((m:Int)+1)=((m+1:Nat):Int):=(kG _ oM).trans oM;have hklI:(U:Int)<(zs.length:Int):=oM;have hWd:Below a.heap.size a V2.drew:=hb12.drew;have hSd:=HS.1 _ hWd;have hmx:prog.follows .mixedOrders=true:=kR
    gi_wp2_with fail;refine yA (S:=fun v:World=>v.cell? ⟨w.heap.size+1+1+1,0,none⟩=some (Z G i)/\v.cell? ⟨w.heap.size,2,none⟩=some (J (some ⟨E,off,none⟩) zs.length ca)/\v.cell? ⟨w.heap.size+1+1,0,none⟩=some (Z G W)/\v.cell? ⟨w.heap.size+1+1,1,none⟩=some (Z G H)/\v.cell? ⟨y,0,none⟩=some (Z G (X:Nat))/\v.cell? ⟨y,1,none⟩=some (Z G (Y:Nat))/\v.cell? ⟨E,off+U,none⟩=some (Z G z)) (f:=9) hmx ?nd ?no ?_
    case nd=>exact vJ kR
    case no=>rintro ⟨_,_,h⟩;exact h
    show de _ _ _ _ _ _ 10 _ _ V2.drew;refine ct 0 ?_;refine ct 1 ?_;refine ct 2 ?_;refine ct 3 ?_;refine ct 4 ?_;refine aw 5 fun K' M=>?_;go_simp;refine (HIX.1 _).mono ?_;rintro e V3 ⟨rfl,hb3⟩;have hB3:Below a.heap.size a V3:=hWd.trans (hb3.mono hWd.size);have hSd:=HS.1 _ hB3;refine M.out _ _ hSd ?_;clear M;(try simp only[kf]);refine ct 6 ?_;refine ct 7 ?_;refine ct 8 ?_;obtain ⟨f3,c3,f4,c4⟩:=HF.1 _ hB3;refine aS fun K' M=>?_;go_simp;refine M.out _ _ ?_;clear M;(try simp only[kf]);have n4:(V3.setCell ⟨w.heap.size+1+1+1,0,none⟩ (Z G (i+z))).cell? ⟨w.heap.size+1+1+1+1,0,none⟩=some (Z G (m:Nat)):=(World.cell?_setCell_far _ _ _ _ (by show w.heap.size+3≠w.heap.size+4;omega)).trans c4
    gi_wp2;exact HEND1.1 _ z hB3 HM1.1
  ·have hh:bc W H xa yb=false:=(by simpa using hh);have HM0:=qH (show mF zs W H d g aj (r++[x])=(i,m) by rw[HSN.1,HMS.1,hh];simp);rw[hh]
   gi_wp2;(repeat (refine ⟨fun _ h=>(by cases h),?_⟩;gi_wp2));exact HEND0.1 _ hb1 HM0.1
 case done =>
  rintro D ys a hD rfl ⟨F,I,i3,i4,O,P⟩ M;have u:0<=(mF zs W H d g aj (qo N)).1/\(mF zs W H d g aj (qo N)).1<=(mF zs W H d g aj (qo N)).2*65535/\(mF zs W H d g aj (qo N)).2<=0+(qo N).length:=rO HZS.1 W H d g aj (qo N) (0,0) 0 (Int.le_refl _) dD (ko _);rw[List.length_finRange] at u;have T:=qH (show gl zs W H d g aj=if (mF zs W H d g aj (qo N)).2=0 then 0 else (mF zs W H d g aj (qo N)).1 / ((mF zs W H d g aj (qo N)).2:Int) from rfl);obtain ⟨⟨i,m⟩,hsn⟩:∃t,mF zs W H d g aj (qo N)=t:=⟨_,rfl⟩;rw[hsn] at F I T u;simp only at u F I T;obtain ⟨hr1,hr2,hr3⟩:=u;have c3:a.cell? ⟨w.heap.size+1+1+1,0,none⟩=some (Z G i):=by rw[kd (b:=w.heap.size+1+1+1) F];rfl
  have c4:a.cell? ⟨w.heap.size+1+1+1+1,0,none⟩=some (Z G (m:Nat)):=by rw[kd (b:=w.heap.size+1+1+1+1) I];rfl
  have HY:=qH (show Below w.heap.size w (a.putObj D (.deferred none)) from P.trans (belowK_b (w:=w) (ko _) a D _ _ oM M rfl rfl));by_cases hn:m=0
  ·subst hn;rw[if_pos rfl] at T
   gi_wp2;refine ⟨sS,.inl ⟨_,_,rfl,run_takeDeferred M,?_⟩⟩;exact ⟨Z G 0,by simp[results,results127,go_sem],by rw[T.1],HY.1⟩
  ·rw[if_neg hn] at T;have hq:=Int.tdiv_eq_ediv_of_nonneg (b:=(m:Int)) hr1;rw[<-hq] at T;have hq0:0<=i.tdiv (m:Int):=(by rw[hq];exact Int.ediv_nonneg hr1 oM);have hq1:i.tdiv (m:Int)<=i:=(by rw[hq];exact Int.ediv_le_self _ hr1);obtain ⟨q,hqq⟩:=eX (i.tdiv (m:Int));rw[hqq] at T hq0 hq1;have hbz:((m:Int) == 0)=false:=sO;have hwq:IntKind.i64.wrap q=q:=kG _ oM;clear hq
   gi_wp2;refine ⟨sS,.inl ⟨_,_,rfl,run_takeDeferred M,?_⟩⟩;exact ⟨Z G q,by simp[results,results127,go_sem],by rw[T.1],HY.1⟩
 case stop=>rintro D c r a _ _ h _;exact h.elim
attribute [local go_sem] Oper.semAt_some
theorem rG (W H N:Nat) (hW:W<=64) (hH:H<=64) (hNHW:N=H*W) (m:Nat) (t:Array Value) (T:Nat->Int) (w:World) (eg:∀args w,(callFunc m args).run prog w=.ok (.enter m args) w)
    (htell:∀(j:Nat) (V:World),j<N->Below w.heap.size w V->Calls prog m (#[.agg #[Z G (j % W:Nat),Z G (j / W:Nat)]]++t) V fun e V'=>e=.returned (Z G (T j))/\Below V.heap.size V V') :
    Calls prog 255 #[.agg #[Z G W,Z G H],.func (.func m) #[] t] w fun e w'=>∃r,e=.returned (.agg #[Z G W,Z G H,r])/\ap w' r ((zS N).map T)/\Below w.heap.size w w'/\ar w.heap.size r:=by
  obtain ⟨i0,hi,hz0,hz1,hz2⟩:=info_parts Tryz.infoInt;refine (callsIn_wide (n:=3)).1 ?_;refine callsIn_of_wp_marks func255 rfl trivial ?_ rfl;simp only[ntmps255,List.size_toArray,List.length_cons,List.length_nil,Nat.reduceAdd,Nat.reduceSub,Array.replicate_succ,Array.replicate_zero,List.push_toArray,List.append_toArray,List.nil_append,List.cons_append]
  gi_wp2_with fail;refine wpIn_wide.2 ?_;have hN:N=W*H:=by rw[hNHW,zO]
  have HNHW:=qH hNHW;clear hNHW;have hNi:(W:Int)*(H:Int)=(N:Int):=by rw[hN];simp
  have hNb:N<=4096:=by rw[hN];exact xe (qv hW hH) dD
  have hmk:∀V:World,(Instr.makeSlice 52 (Z G 0) (Z G N)).run prog V=.ok (J (some ⟨V.heap.size,0,none⟩) 0 N) (V.alloc (.cells (madeCells (Z .i64 0).cells (N*1)) 3)):=fun V=>by
    have h:=run_make (P:=prog) V 52 3 i0 (Z G 0) underlying52 hi hz0 .i64 .i64 0 N (Int.le_refl _) oM (by rw[hz2];omega) oM;rw[hz1] at h;simpa using h
  have hwN:IntKind.i64.wrap ((W:Int)*(H:Int))=(N:Int):=by rw[hNi];exact kG _ oM
  have hwM:IntKind.i64.wrap (N:Int)=(N:Int):=kG _ oM;have HN:=qH hN;clear hN;have hB3:=aG (aG (aq w (ka #[Z G W,Z G H] 95)) (aq _ (ka #[.func (.func m) #[] t] 98))) (aq _ (ka #[Z G 0,Z G 0,J none 0 0] 54));have g0:(((w.alloc (ka #[Z G W,Z G H] 95)).alloc (ka #[.func (.func m) #[] t] 98)).alloc (ka #[Z G 0,Z G 0,J none 0 0] 54)).heap[w.heap.size]?=some (.cells #[Z G W,Z G H] 95 (0,0)):=by
    rw[zc _ _ _ sO,zc _ _ _ sS];exact heap_alloc_new w _
  have g1:(((w.alloc (ka #[Z G W,Z G H] 95)).alloc (ka #[.func (.func m) #[] t] 98)).alloc (ka #[Z G 0,Z G 0,J none 0 0] 54)).heap[w.heap.size+1]?=some (.cells #[.func (.func m) #[] t] 98 (0,0)):=by
    rw[zc _ _ _ sS];have h:=heap_alloc_new (w.alloc (ka #[Z G W,Z G H] 95)) (ka #[.func (.func m) #[] t] 98);rw[qc] at h;exact h
  have g2:(((w.alloc (ka #[Z G W,Z G H] 95)).alloc (ka #[.func (.func m) #[] t] 98)).alloc (ka #[Z G 0,Z G 0,J none 0 0] 54)).heap[w.heap.size+2]?=some (.cells #[Z G 0,Z G 0,J none 0 0] 54 (0,0)):=by
    have h:=heap_alloc_new ((w.alloc (ka #[Z G W,Z G H] 95)).alloc (ka #[.func (.func m) #[] t] 98)) (ka #[Z G 0,Z G 0,J none 0 0] 54);rw[qc,qc] at h;exact h
  have hs3:(((w.alloc (ka #[Z G W,Z G H] 95)).alloc (ka #[.func (.func m) #[] t] 98)).alloc (ka #[Z G 0,Z G 0,J none 0 0] 54)).heap.size=w.heap.size+3:=sS;generalize ((w.alloc _).alloc _).alloc _=d at *;have k0:d.cell? ⟨w.heap.size,0,none⟩=some (Z G W):=kd g0 _;have k1:d.cell? ⟨w.heap.size,1,none⟩=some (Z G H):=kd g0 _;have M:=qH (show ∀w',Below d.heap.size d w'->w'.cell? ⟨w.heap.size,0,none⟩=some (Z G W)/\w'.cell? ⟨w.heap.size,1,none⟩=some (Z G H) from fun w' h =>
    ⟨(h.cell (p:=⟨w.heap.size,0,none⟩) (by show w.heap.size<_;omega)).trans k0,(h.cell (p:=⟨w.heap.size,1,none⟩) (by show w.heap.size<_;omega)).trans k1⟩)
  have hdrew:Below d.heap.size d d.drew:=(xc _ _).drew;have HMK:=qH hmk;go_region_held3 (fun w'=>w'.cell? ⟨w.heap.size,0,none⟩=some (Z G W)/\w'.cell? ⟨w.heap.size,1,none⟩=some (Z G H))
    (first|(refine M.1 _ ?_;assumption)|(refine M.1 _ ?_;exact aG (by assumption) (aq _ _))|go_keep)
    (fail)
  all_goals first
    | (show Exit.then _ _ _ _ ((d.alloc (ka (madeCells #[Z G 0] N) 3)).alloc (ka #[Z G W,Z G H,J (some ⟨w.heap.size+3,0,none⟩) 0 N] 54)).drew
       have Q:Below d.heap.size d ((d.alloc (ka (madeCells #[Z G 0] N) 3)).alloc (ka #[Z G W,Z G H,J (some ⟨w.heap.size+3,0,none⟩) 0 N] 54)).drew:=kX (aG (aq _ _) (aq _ _))
       have vP:((d.alloc (ka (madeCells #[Z G 0] N) 3)).alloc (ka #[Z G W,Z G H,J (some ⟨w.heap.size+3,0,none⟩) 0 N] 54)).drew.heap[w.heap.size+3+1]?=some (.cells #[Z G W,Z G H,J (some ⟨w.heap.size+3,0,none⟩) 0 N] 54 (0,0)):=by
         have h:=heap_alloc_new (d.alloc (ka (madeCells #[Z G 0] N) 3)) (ka #[Z G W,Z G H,J (some ⟨w.heap.size+3,0,none⟩) 0 N] 54);rw[qc,hs3] at h;exact h
       have vS:((d.alloc (ka (madeCells #[Z G 0] N) 3)).alloc (ka #[Z G W,Z G H,J (some ⟨w.heap.size+3,0,none⟩) 0 N] 54)).drew.ownsRow w.heap.size 3 1 (J (some ⟨w.heap.size+3,0,none⟩) 0 N) 0 []:=by
         have h:=(World.ownsRow_made (base:=w.heap.size) (e:=3) (size:=1) d (madeCells #[Z G 0] N) N oM uO (by simp[madeCells])).alloc (ka #[Z G W,Z G H,J (some ⟨w.heap.size+3,0,none⟩) 0 N] 54);rw[hs3] at h;exact h
       have hPB:w.heap.size+2<w.heap.size+3+1:=oM;generalize ((d.alloc _).alloc _).drew=V at *;generalize w.heap.size+3+1=PB at hPB vP |-;generalize hSB:J (some ⟨w.heap.size+3,0,none⟩) 0 N=SV at *;clear hSB)
    | (have Q:Below d.heap.size d ((d.alloc (ka #[Z G W,Z G H,J (some ⟨w.heap.size+3+1,0,none⟩) 0 N] 54)).alloc (ka (madeCells #[Z G 0] N) 3)).drew:=kX (aG (aq _ _) (aq _ _))
       have vP:((d.alloc (ka #[Z G W,Z G H,J (some ⟨w.heap.size+3+1,0,none⟩) 0 N] 54)).alloc (ka (madeCells #[Z G 0] N) 3)).drew.heap[w.heap.size+3]?=some (.cells #[Z G W,Z G H,J (some ⟨w.heap.size+3+1,0,none⟩) 0 N] 54 (0,0)):=by
         have h:=heap_alloc_new d (ka #[Z G W,Z G H,J (some ⟨w.heap.size+3+1,0,none⟩) 0 N] 54);rw[hs3] at h;exact (zc _ _ _ sO).trans h
       have vS:((d.alloc (ka #[Z G W,Z G H,J (some ⟨w.heap.size+3+1,0,none⟩) 0 N] 54)).alloc (ka (madeCells #[Z G 0] N) 3)).drew.ownsRow w.heap.size 3 1 (J (some ⟨w.heap.size+3+1,0,none⟩) 0 N) 0 []:=by
         have h:=World.ownsRow_made (base:=w.heap.size) (e:=3) (size:=1) (d.alloc (ka #[Z G W,Z G H,J (some ⟨w.heap.size+3+1,0,none⟩) 0 N] 54)) (madeCells #[Z G 0] N) N sO uO (by simp[madeCells]);rw[qc,hs3] at h;exact h
       have hPB:w.heap.size+2<w.heap.size+3:=oM;generalize ((d.alloc _).alloc _).drew=V at *;generalize hSB:J (some ⟨w.heap.size+3+1,0,none⟩) 0 N=SV at *;clear hSB;generalize w.heap.size+3=PB at hPB vP |-)
  all_goals
    have k0:=(Q.cell (p:=⟨w.heap.size,0,none⟩) (by show w.heap.size<_;omega)).trans k0;have k1:=(Q.cell (p:=⟨w.heap.size,1,none⟩) (by show w.heap.size<_;omega)).trans k1
    gi_wp2_with fail;refine ⟨trivial,?_⟩;refine (wM Fence.wide _ trivial rfl _ _ _).mono ?_;rintro e w' ⟨rfl,rfl⟩
    gi_wp2_with fail;have hsV:=Q.size;have hlP:=lS vP;have n0:=heap_alloc_new V (ka #[Z G W,Z G H] 95);have hs0:(V.alloc (ka #[Z G W,Z G H] 95)).heap.size=V.heap.size+1:=sS;have hB0:Below w.heap.size w (V.alloc (ka #[Z G W,Z G H] 95)):=aG (aG hB3 Q) (aq _ _);have j0:(V.alloc (ka #[Z G W,Z G H] 95)).heap[PB]?=some (.cells #[Z G W,Z G H,SV] 54 (0,0)):=(zc _ _ _ hlP).trans vP;have j1:=vS.alloc (ka #[Z G W,Z G H] 95);have j2:(V.alloc (ka #[Z G W,Z G H] 95)).heap[w.heap.size+1]?=some (.cells #[.func (.func m) #[] t] 98 (0,0)):=by
      rw[zc _ _ _ oM,Q.block _ oM];exact g1
    have j3:(V.alloc (ka #[Z G W,Z G H] 95)).heap[w.heap.size+2]?=some (.cells #[Z G 0,Z G 0,J none 0 0] 54 (0,0)):=by
      rw[zc _ _ _ oM,Q.block _ oM];exact g2
    generalize V.alloc _=W0 at *;refine wpIn_rangeFunc_ownH (α:=Fin N) rfl (show 1<=3 from oM) (gf:=154) (lb:=#[.pointer (some ⟨V.heap.size,0,none⟩)]) rfl trivial (enters_of func154 kR rfl)
      (wN Fence.wide (3-1) trivial rfl oM V.heap.size W H N hW hH HNHW.1 W0 oM (kd n0 _) (kd n0 _)) (fun {A B C} h k=>h.trans' k) (fun X l o o' hl _ _ _=>pC oM) (xc _ _) (fun _=>rfl)
      (fun q b=>(∃v,b.heap[PB]?=some (.cells #[Z G W,Z G H,v] 54 (0,0))/\b.ownsRow w.heap.size 3 1 v q.length ((q.map fun (j:Fin N)=>T j.1).map (Z .i64)))/\b.heap[w.heap.size+1]?=some (.cells #[.func (.func m) #[] t] 98 (0,0))/\b.heap[w.heap.size+2]?=some (.cells #[Z G 0,Z G 0,J none 0 0] 54 (0,0))/\b.heap[V.heap.size]?=some (.cells #[Z G W,Z G H] 95 (0,0))/\Below w.heap.size w b)
      (fun _ _ _=>False)
      (fun s X Y row ⟨⟨v,a1,a2⟩,a3,a4,a6,a5⟩ L F=>⟨⟨v,fj L F a1,v8 L F a2⟩,fj L F a3,fj L F a4,fj L F a6,ownFrom_below (β:=Unit) (ko _) oM () X Y row a5 L F⟩)
      (fun _ _ _ _ _ hs _ _=>hs)
      ⟨⟨_,j0,j1⟩,j2,j3,n0,hB0⟩
      (fun x a' b=>∃z,W0.heap.size<=z/\b.heap[z]?=some (.cells #[Z G (x.1 % W:Nat),Z G (x.1 / W:Nat)] 97 (0,0))/\a'={ tmps:=#[.agg #[Z G W,Z G H],.func (.func m) #[] t,.pointer (some ⟨w.heap.size,0,none⟩),.pointer (some ⟨w.heap.size+1,0,none⟩),.pointer (some ⟨w.heap.size+1+1,0,none⟩),.pointer (some ⟨PB,0,none⟩),.pointer (some ⟨z,0,none⟩),.pointer (some ⟨w.heap.size,0,none⟩),Z G W,.pointer (some ⟨w.heap.size,1,none⟩),Z G H,.pointer (some ⟨w.heap.size,0,none⟩),Z G W,.pointer (some ⟨w.heap.size,1,none⟩),Z G H,Z G N,SV,.agg #[Z G W,Z G H,SV],.agg #[Z G W,Z G H],.func (.func 154) #[] #[.pointer (some ⟨V.heap.size,0,none⟩)],.agg #[Z G (x.1 % W:Nat),Z G (x.1 / W:Nat)],undef,undef,undef,undef,undef,undef,undef,undef,undef],defers:=[] })
      (fun x a' _ X Y row ⟨z,b1,b2,b3⟩ L F=>⟨z,b1,fj L F b2,b3⟩)
      ?assign ?body ?done ?stop
    case assign =>
      rintro l q x b K ⟨⟨v,E,I⟩,R,y,i6,S⟩ f;have hl1:=lS E;have hl3:=lS R;have hl4:=lS y;have hl6:=lS i6
      gi_wp2;exact f _ _ ((KeepsOthers.alloc _ _).from _) (zc _ _ _ hl6) ⟨⟨v,(zc _ _ _ hl1).trans E,I.alloc _⟩,(zc _ _ _ hl3).trans R,(zc _ _ _ hl4).trans y,(zc _ _ _ hl6).trans i6,S.alloc S.size _⟩ ⟨b.heap.size,oM,heap_alloc_new b _,rfl⟩
    case body =>
      rintro l q x a' b hl ⟨r,F⟩ ⟨⟨sv,E,I⟩,R,y,i6,S⟩ ⟨z,hBx,bX,rfl⟩ hlt;obtain ⟨so,scap,rfl⟩:=pE I;have p2:b.cell? ⟨PB,2,none⟩=some (J so q.length scap):=kd E _;have t0:b.cell? ⟨w.heap.size+1,0,none⟩=some (.func (.func m) #[] t):=kd R _;have x0:b.cell? ⟨z,0,none⟩=some (Z G (x.1 % W:Nat)):=kd bX _;have x1:b.cell? ⟨z,1,none⟩=some (Z G (x.1 / W:Nat)):=kd bX _;have hlP:=lS E;have hlT:=lS R;have hlX:=lS bX;have hbW:w.heap.size<=b.heap.size:=oM;have HL1:=qH (show q.length+1<=maxLen from uO);have HL2:=qH (show (q.length+1)*8<=140737488355328 from oM);have M:=qH (show ∀v,Below b.heap.size b v->v.cell? ⟨w.heap.size+1,0,none⟩=some (.func (.func m) #[] t)/\v.cell? ⟨z,0,none⟩=some (Z G (x.1 % W:Nat))/\v.cell? ⟨z,1,none⟩=some (Z G (x.1 / W:Nat))/\v.cell? ⟨PB,2,none⟩=some (J so q.length scap) from fun v h =>
        ⟨(h.cell (p:=⟨w.heap.size+1,0,none⟩) hlT).trans t0,(h.cell (p:=⟨z,0,none⟩) hlX).trans x0,(h.cell (p:=⟨z,1,none⟩) hlX).trans x1,(h.cell (p:=⟨PB,2,none⟩) hlP).trans p2⟩)
      have HTL:=qH (fun (O:World) (g cap:Nat) (w1:World) (h1:Below b.heap.size b O) (h2:(O.alloc (ka #[Z G (T x.1)] 3)).grownBy w1 (J so q.length scap).ownBlock) (h3:w1.ownsRow (w.heap.size) 3 1 (J (some ⟨g,0,none⟩) (q.length+1) cap) (q.length+1) ((q.map fun (j:Fin N)=>T j.1).map (Z .i64)++[Z G (T x.1)]))=>uX (es:=#[Z G (T x.1)]) dD dD dD dD dD dD dD (B0:=W0.heap.size) (PB:=PB) E I R y i6 bX S oM oM oM h1 h2 h3);have hWd:Below b.heap.size b b.drew:=(xc _ _).drew;have HT:=qH (htell x.1 b.drew x.2 S.drew)
      gi_wp2_with fail;have hSd:=M.1 _ hWd;refine sC 8 M.1 ?_;refine ak 0 ?_;refine ak 2 ?_;refine ak 3 ?_;refine ak 1 ?_;refine aw 4 fun K' f=>?_;go_simp;refine HT.1.mono ?_;rintro e O ⟨rfl,hb1⟩;have U:Below b.heap.size b O:=hWd.trans hb1;have hSd:=M.1 _ U;refine f.out _ _ hSd ?_;clear f;(try simp only[kf]);refine aw 5 fun K' f=>?_;go_simp;have hV2:Below b.heap.size b (O.alloc (ka #[Z G (T x.1)] 3)):=U.trans ((aq _ _).mono U.size);have hSd:=M.1 _ hV2;refine f.out _ _ hSd ?_;clear f;(try simp only[kf]);refine eZ (i:=6) (o:=_) kR rfl (fun K' f=>?_);refine step_append_lies _ rfl _ _ 52 rfl (w.heap.size) 3 i0 (Z G 0) 1 8 underlying52 hi hz0 hz1 hz2 rfl qx (J so q.length scap) q.length ((q.map fun (j:Fin N)=>T j.1).map (Z .i64)) rfl ((cT I U).alloc (ka #[Z G (T x.1)] 3)) ⟨O.heap.size,0,none⟩ 1 1 [Z G (T x.1)] rfl rfl (fun j u hj=>by obtain ⟨rfl,rfl⟩:=kE hj;simp[Addr.add]) (fun u hu=>by simp at hu;subst hu;rfl) qx HL1.1 HL2.1 (xe hbW hV2.size) _ rfl ?_;intro g cap w1 hown hgrow hat hltg;obtain ⟨⟨s1,s2,s3⟩,s4,p2f,HFIN⟩:=HTL.1 O g cap w1 U hgrow hown;have hSd:=And.intro s1 (And.intro s2 (And.intro s3 s4));refine f.out _ _ hSd ?_;clear f;(try simp only[kf]);refine ak 7 ?_;refine aS fun K' f=>?_;go_simp;refine f.out _ _ ?_;clear f;(try simp only[kf]);obtain ⟨_,f1,f2,⟨v,f3,f4⟩,f5,f6,f7,f8⟩:=HFIN;exact ⟨f1,f2,⟨v,f3,by rw[List.length_append,qn,qn];exact f4⟩,f5,f6,f7,f8⟩
    case done =>
      rintro D ys b hD rfl ⟨⟨v,E,I⟩,R,y,i6,S⟩ f;have p0:b.cell? ⟨PB,0,none⟩=some (Z G W):=kd E _;have p1:b.cell? ⟨PB,1,none⟩=some (Z G H):=kd E _;have p2:b.cell? ⟨PB,2,none⟩=some v:=kd E _;have r0:b.cell? ⟨w.heap.size+1+1,0,none⟩=some (Z G 0):=kd y _;have r1:b.cell? ⟨w.heap.size+1+1,1,none⟩=some (Z G 0):=kd y _;have r2:b.cell? ⟨w.heap.size+1+1,2,none⟩=some (J none 0 0):=kd y _;have f0:b.frozen? ⟨w.heap.size+1+1,0,none⟩=false:=kc y 0;have f1:b.frozen? ⟨w.heap.size+1+1,1,none⟩=false:=kc y 1;have f2:b.frozen? ⟨w.heap.size+1+1,2,none⟩=false:=kc y 2;obtain ⟨ao,cap,rfl⟩:=pE I
      gi_wp2;obtain ⟨x1,x2,x3,x4⟩:=eo y (Z G W) (Z G H) (J ao (qo N).length cap) w oM S;have i2':=wa x2 (aW I y dD) I;have hDr:D≠w.heap.size+2:=fun e=>(by rw[e,y] at f;cases f);replace f:=(x2 D hDr).trans f;simp only[List.length_finRange] at x1 x2 x3 x4 i2' f;generalize ((b.setCell _ _).setCell _ _).setCell _ _=X at *;refine ⟨sS,.inl ⟨_,_,rfl,run_takeDeferred f,?_⟩⟩;have y1:=(World.putObj_heap_other (w:=X) (o:=.deferred none) (Ne.symm hDr)).trans x1;have y2:=ownsRow_putObj i2' (.deferred none) f rfl;have y3:Below w.heap.size w (X.putObj D (.deferred none)):=x4.trans (belowK_b (w:=w) (ko _) X D _ _ oM f rfl rfl);have c0:(X.putObj D (.deferred none)).cell? ⟨w.heap.size+1+1,0,none⟩=some (Z G W):=kd y1 _;have c1:(X.putObj D (.deferred none)).cell? ⟨w.heap.size+1+1,1,none⟩=some (Z G H):=kd y1 _;have c2:(X.putObj D (.deferred none)).cell? ⟨w.heap.size+1+1,2,none⟩=some (J ao N cap):=kd y1 _;generalize X.putObj D (.deferred none)=a at *;refine ⟨.agg #[Z G W,Z G H,J ao N cap],by simp[results,results255,go_sem,c0,c1,c2],J ao N cap,rfl,?_,y3,ar.own (by simpa using y2)⟩;rw[<-vr N T];exact ap.own (base:=w.heap.size) (by simpa using y2) sO
    case stop=>rintro D c q b _ _ h _;exact h.elim
end Go.Proofs.YtfjeonehdlphiaaGreatDoor
namespace Go.Proofs.YtfjeonehdlphiaaGreatDoor
open Go.RowKit
open _root_.Go.Proofs.Tryz
def gG (zs:List Int) (W:Nat) (m:Nat->Int) (a:Int) (j:Nat):Int:=bQ ((aN zs j-m (j / W % 2*2+j % W % 2))*65535 / (a-m (j / W % 2*2+j % W % 2)))
def gF (zs:List Int) (W p:Nat) (m:Nat->Int) (j:Nat):Int:=bQ (aN zs j*m (ce p (j % W) (j / W)) / 256)
theorem un (p X Y:Nat):ce p X Y<3:=by unfold ce;split<;>omega
theorem Cf (W H j l off ca:Nat) (hW1:1<=W) (hW:W<=64) (hH:H<=64) (zs:List Int) (hlen:zs.length=H*W) (hzs:az 0 65535 zs=true) (hj:j<zs.length) (m:Nat->Int) (c:Int) (hw0:c<=65535) (hm:∀k,k<4->0<=m k/\m k<=c-1) (x o f r:Nat) (w:World) (hBp:o<w.heap.size) (N:f<w.heap.size) (hbk:l<w.heap.size)
  (k2:w.cell? ⟨o,2,none⟩=some (J (some ⟨l,off,none⟩) zs.length ca)) (g0:w.cell? ⟨f,0,none⟩=some (Z G W)) (g1:w.cell? ⟨f,1,none⟩=some (Z G H)) (hBb:x<w.heap.size) (hBw:r<w.heap.size) (kb:∀k,k<4->w.cell? ⟨x,k,none⟩=some (Z G (m k))) (kw:w.cell? ⟨r,0,none⟩=some (Z G c))
  (P:∀j,j<zs.length->w.cell? ⟨l,off+j,none⟩=some (Z G (aN zs j))) :
  Calls prog 256 #[.agg #[Z G (j % W:Nat),Z G (j / W:Nat)],.pointer (some ⟨x,0,none⟩),.pointer (some ⟨o,0,none⟩),.pointer (some ⟨f,0,none⟩),.pointer (some ⟨r,0,none⟩)] w (rT w (Z G (gG zs W m c j))):=by
 have g:=qH (show gG zs W m c j=bQ ((aN zs j-m (j / W % 2*2+j % W % 2))*65535 / (c-m (j / W % 2*2+j % W % 2))) from rfl);generalize gG zs W m c j=RES at *;have hl4:zs.length<=4096:=by rw[hlen];exact xe (qv hH hW) dD
 obtain ⟨X,y⟩:=eX (j % W);obtain ⟨Y,A⟩:=eX (j / W);have hk:Y*W+X=j:=by rw[<-y,<-A,zO];exact Nat.div_add_mod j W
 have HIX:=qH (fun v=>iP W H X Y W j rfl hk oM v);have hzr:=jK hzs j;have Q:=P j hj;have hjI:(j:Int)<(zs.length:Int):=oM;rw[y,A] at g;rw[y,A];obtain ⟨a,F⟩:=eX (Y % 2);obtain ⟨b,I⟩:=eX (X % 2);have hya:(Y:Int) % 2=(a:Int):=by rw[<-F];rfl
 have hxb:(X:Int) % 2=(b:Int):=by rw[<-I];rfl
 obtain ⟨B,L⟩:=eX (a*2);have hi1:(a:Int)*2=(B:Int):=oM;obtain ⟨ix,T⟩:=eX (B+b);have hi2:(B:Int)+(b:Int)=(ix:Int):=oM;have V:ix<4:=oM;have hixI:(ix:Int)<4:=oM;rw[F,I,L,T] at g;obtain ⟨hm0,hm1⟩:=hm ix V;have kb0:=kb ix V;obtain ⟨t,O⟩:=eX (m ix);rw[O] at g hm0 hm1 kb0;obtain ⟨z,hz⟩:=eX (aN zs j);rw[hz] at g hzr Q;obtain ⟨hz1,hz2⟩:=hzr;obtain ⟨d,R⟩:=eX (c-t);rw[R] at g;have hd1:1<=d:=oM;have hd0:¬(d=0):=oM;obtain ⟨n,hn⟩:=eX ((z-t)*65535);rw[hn,<-zG n d oM] at g;have hn1:-4294967296<=n/\n<=4294967296:=oM;have S:=oZ n d oM;have hr1:-4294967296<=n / d:=Int.le_ediv_of_mul_le oM oM;have hr2:n / d<=4294967296:=Int.ediv_le_of_le_mul oM oM;obtain ⟨q,hq⟩:=eX (n.tdiv d);rw[hq] at g S;have hqr:-4294967297<=q/\q<=4294967298:=oM;obtain ⟨hq1,hq2⟩:=hqr;have hwd:IntKind.i64.wrap (c-t)=d:=by rw[R];exact kG _ oM
 have hwd2:IntKind.i64.wrap d=d:=kG _ oM;have hwe:IntKind.i64.wrap (z-t)=z-t:=kG _ oM;have hwn:IntKind.i64.wrap n=n:=kG _ oM;have hwq:IntKind.i64.wrap q=q:=kG _ oM;clear S hr1 hr2 y A F I L T O hz hk hlen P hm kb hzs;have s:=qH (aq w (ka #[Z G X,Z G Y] 97));have D:=aD w (ka #[Z G X,Z G Y] 97);have kb1:=(s.1.cell (p:=⟨x,ix,none⟩) hBb).trans kb0;obtain ⟨s0,s1⟩:=bL D;go_enter func256,ntmps256;go_wp2_with fail
 have hl1:=lS D;generalize w.alloc _=U at *;have C:=qH (show ∀v,Below U.heap.size U v->v.cell? ⟨o,2,none⟩=some (J (some ⟨l,off,none⟩) zs.length ca)/\v.cell? ⟨f,0,none⟩=some (Z G W)/\v.cell? ⟨f,1,none⟩=some (Z G H)/\v.cell? ⟨w.heap.size,0,none⟩=some (Z G X)/\v.cell? ⟨w.heap.size,1,none⟩=some (Z G Y)/\v.cell? ⟨l,off+j,none⟩=some (Z G z)/\v.cell? ⟨r,0,none⟩=some (Z G c) from fun v h=>by
  have u:=s.1.trans (h.mono s.1.size);obtain ⟨y0,y1⟩:=bL ((h.block _ hl1).trans D);exact ⟨(u.cell (p:=⟨o,2,none⟩) hBp).trans k2,(u.cell (p:=⟨f,0,none⟩) N).trans g0,(u.cell (p:=⟨f,1,none⟩) N).trans g1,y0,y1,(u.cell (p:=⟨l,off+j,none⟩) hbk).trans Q,(u.cell (p:=⟨r,0,none⟩) hBw).trans kw⟩)
 have E:Below U.heap.size U U.drew:=(xc _ _).drew;have hSd:=C.1 _ E;clear s0 s1;refine cE 15 C.1 ?_;refine ct 0 ?_;refine ct 2 ?_;refine ct 3 ?_;refine ct 7 ?_;refine ct 10 ?_;refine ct 11 ?_;refine ct 1 ?_;refine ct 12 ?_;refine aw 4 fun K i=>?_;go_simp;refine (HIX.1 _).mono ?_;rintro e V1 ⟨rfl,hbv⟩;have M:Below U.heap.size U V1:=E.trans (hbv.mono E.size);have hSd:=C.1 _ M;refine i.out _ _ hSd ?_;clear i;try simp only[kf]
 refine ct 5 ?_;refine ct 6 ?_;refine ct 8 ?_;refine ct 9 ?_;refine ct 13 ?_;refine aw 14 fun K i=>?_;go_simp;refine (px _ _).mono ?_;rintro e Vx ⟨rfl,rfl⟩;have hSd:=hSd;refine i.out _ _ hSd ?_;clear i;try simp only[kf]
 refine aS fun K i=>?_;go_simp;refine i.out _ _ ?_;clear i;try simp only[kf]
 go_wp2;go_ret;exact ⟨aY g.1.symm,s.1.trans (M.mono s.1.size)⟩
theorem Bo (W H j l off ca:Nat) (hW1:1<=W) (hW:W<=64) (hH:H<=64) (zs:List Int) (T:zs.length=H*W) (hzs:az 0 65535 zs=true) (hj:j<zs.length) (p:Nat) (hp:p<=3) (m:Nat->Int) (V:∀k,k<3->0<=m k/\m k<=65535) (t r d o:Nat) (w:World) (hBp:r<w.heap.size) (N:d<w.heap.size) (hbk:l<w.heap.size)
  (k2:w.cell? ⟨r,2,none⟩=some (J (some ⟨l,off,none⟩) zs.length ca)) (g0:w.cell? ⟨d,0,none⟩=some (Z G W)) (g1:w.cell? ⟨d,1,none⟩=some (Z G H)) (hBh:t<w.heap.size) (hBm:o<w.heap.size) (kh:w.cell? ⟨t,0,none⟩=some (Z G p)) (km:∀k,k<3->w.cell? ⟨o,k,none⟩=some (Z G (m k)))
  (P:∀j,j<zs.length->w.cell? ⟨l,off+j,none⟩=some (Z G (aN zs j))) :
  Calls prog 266 #[.agg #[Z G (j % W:Nat),Z G (j / W:Nat)],.pointer (some ⟨t,0,none⟩),.pointer (some ⟨r,0,none⟩),.pointer (some ⟨d,0,none⟩),.pointer (some ⟨o,0,none⟩)] w (rT w (Z G (gF zs W p m j))):=by
 have f:=qH (show gF zs W p m j=bQ (aN zs j*m (ce p (j % W) (j / W)) / 256) from rfl);generalize gF zs W p m j=RES at *;have hl4:zs.length<=4096:=by rw[T];exact xe (qv hH hW) dD
 obtain ⟨X,x⟩:=eX (j % W);obtain ⟨Y,y⟩:=eX (j / W);have S:Y*W+X=j:=by rw[<-x,<-y,zO];exact Nat.div_add_mod j W
 have HIX:=qH (fun v=>iP W H X Y W j rfl S oM v);have hzr:=jK hzs j;have Q:=P j hj;have hjI:(j:Int)<(zs.length:Int):=oM;rw[x,y] at f;rw[x,y];have K:=qH (fun v=>ur p X Y hp v);have E:=un p X Y;obtain ⟨c,O⟩:=eX (ce p X Y);rw[O] at K f E;have hcI:(c:Int)<3:=oM;obtain ⟨I,aa⟩:=V c E;have km0:=km c E;obtain ⟨u,R⟩:=eX (m c);rw[R] at f I aa km0;obtain ⟨z,hz⟩:=eX (aN zs j);rw[hz] at f hzr Q;obtain ⟨hz1,hz2⟩:=hzr;have ab:0<=z*u:=Int.mul_nonneg hz1 I;have hn1:z*u<=65535*65535:=Int.mul_le_mul hz2 aa I oM;obtain ⟨n,hn⟩:=eX (z*u);rw[hn] at f ab hn1;have A:=Int.tdiv_eq_ediv_of_nonneg (b:=256) ab;rw[<-A] at f;have hqr:0<=n.tdiv 256/\n.tdiv 256<=4294967296:=by rw[A];omega
 obtain ⟨q,hq⟩:=eX (n.tdiv 256);rw[hq] at f hqr;obtain ⟨hq1,hq2⟩:=hqr;have hq3:n / 256=q:=by rw[<-A];exact hq
 have hwn:IntKind.i64.wrap n=n:=kG _ oM;have hwq:IntKind.i64.wrap q=q:=kG _ oM;clear A x y O R hz S T P V km hzs;have a:=au (aq w (ka #[Z G X,Z G Y] 97));have i:=aD w (ka #[Z G X,Z G Y] 97);have kh1:=(a.out.cell (p:=⟨t,0,none⟩) hBh).trans kh;obtain ⟨s0,s1⟩:=bL i;go_enter func266,ntmps266;go_wp2_with fail
 have F:=lS i;have hB0:=a;generalize w.alloc _=U0 at *;refine (K.1 _).mono ?_;rintro e U ⟨rfl,D⟩;replace a:=au (a.out.trans (D.mono a.out.size));replace i:=(D.block _ F).trans i;replace F:=lS i;go_wp2_with fail
 clear kh1 D hB0;have B:=qH (show ∀v,Below U.heap.size U v->v.cell? ⟨r,2,none⟩=some (J (some ⟨l,off,none⟩) zs.length ca)/\v.cell? ⟨d,0,none⟩=some (Z G W)/\v.cell? ⟨d,1,none⟩=some (Z G H)/\v.cell? ⟨w.heap.size,0,none⟩=some (Z G X)/\v.cell? ⟨w.heap.size,1,none⟩=some (Z G Y)/\v.cell? ⟨l,off+j,none⟩=some (Z G z)/\v.cell? ⟨o,c,none⟩=some (Z G u) from fun v h=>by
  have s:=a.out.trans (h.mono a.out.size);obtain ⟨y0,y1⟩:=bL ((h.block _ F).trans i);exact ⟨(s.cell (p:=⟨r,2,none⟩) hBp).trans k2,(s.cell (p:=⟨d,0,none⟩) N).trans g0,(s.cell (p:=⟨d,1,none⟩) N).trans g1,y0,y1,(s.cell (p:=⟨l,off+j,none⟩) hbk).trans Q,(s.cell (p:=⟨o,c,none⟩) hBm).trans km0⟩)
 have C:Below U.heap.size U U.drew:=(xc _ _).drew;have hSd:=B.1 _ C;clear s0 s1;refine cE 13 B.1 ?_;refine ct 0 ?_;refine ct 2 ?_;refine ct 3 ?_;refine ct 7 ?_;refine ct 1 ?_;refine ct 8 ?_;refine ct 9 ?_;refine aw 4 fun L g=>?_;go_simp;refine (HIX.1 _).mono ?_;rintro e V1 ⟨rfl,hbv⟩;have M:Below U.heap.size U V1:=C.trans (hbv.mono C.size);have hSd:=B.1 _ M;refine g.out _ _ hSd ?_;clear g;try simp only[kf]
 refine ct 5 ?_;refine ct 6 ?_;refine ct 10 ?_;refine ct 11 ?_;refine aw 12 fun L g=>?_;go_simp;refine (px _ _).mono ?_;rintro e Vx ⟨rfl,rfl⟩;have hSd:=hSd;refine g.out _ _ hSd ?_;clear g;try simp only[kf]
 refine aS fun L g=>?_;go_simp;refine g.out _ _ ?_;clear g;try simp only[kf]
 go_wp2;go_ret;exact ⟨aY f.1.symm,a.out.trans (M.mono a.out.size)⟩
theorem Bc {w:World} {b:Nat} {t:TypeId} {a:Nat×Nat} {m:Nat->Int} (h:w.heap[b]?=some (.cells (g9 m) t a)) :
  w.cell? ⟨b,0,none⟩=some (Z G (m 0))/\w.cell? ⟨b,1,none⟩=some (Z G (m 1))/\w.cell? ⟨b,2,none⟩=some (Z G (m 2))/\w.cell? ⟨b,3,none⟩=some (Z G (m 3)) :=
 ⟨kd h _,kd h _,kd h _,kd h _⟩
def iR (W H:Int) (zs:List Int) (m:Nat->Int) (a:Int):Int:=if a7 W H zs=true then (if eD m a=true then 0 else 3) else 1
def jW (W:Int) (zs:List Int) (m:Nat->Int) (a:Int):List Int:=(zS zs.length).map (gG zs W.toNat m a)
theorem Cg (W H:Int) (v:Value) (zs:List Int) (m:Nat->Int) (a:Int) (w:World) (D:ap w v zs) (h0:iR W H zs m a=0) :
  Calls prog 254 #[.agg #[Z G W,Z G H,v],.agg (g9 m),Z G a] w fun e w'=>∃r,e=.returned (.tuple #[.agg #[Z G (aX (iR W H zs m a) W),Z G (aX (iR W H zs m a) H),r],Z G (iR W H zs m a)])/\ap w' r (cO (iR W H zs m a) (jW W zs m a))/\Below w.heap.size w w'/\ar w.heap.size r:=by
 have HV:=qH D;obtain ⟨E,g⟩:=eX (iR W H zs m a);have K:=qH (show E=0 from g.symm.trans h0);rw[g];by_cases n:a7 W H zs=true
 ·by_cases x:eD m a=true
  ·have q:E=0:=(by rw[<-g,iR,if_pos n,if_pos x]);subst q;clear g;obtain ⟨⟨w1,w2⟩,⟨h1,h2⟩,Y,_⟩:=eT n;have hz:=jz n;have y:=x;rw[eD,Bool.and_eq_true] at y;have hph2:1<=a/\a<=65535:=(by simpa using y.1);have HMM:=qH (fun k (s:k<4)=>kV y.2 k s);have hsm:=fq ⟨w1,w2⟩ ⟨h1,h2⟩;have hn1:1<=zs.length:=oM;obtain ⟨t,off,ca,rfl,S,X⟩:=D.cells hn1;obtain ⟨c,rfl⟩:=kv (show 0<=W from oM);obtain ⟨HN,rfl⟩:=kv (show 0<=H from oM);have M:=qH (show zs.length=HN*c by rw[zO];exact_mod_cast Y);have HZ:=qH hz;have HC:=qH X;rw[show aX 0 (c:Int)=c from rfl,show aX 0 (HN:Int)=HN from rfl,show cO 0 (jW (c:Int) zs m a)=(zS zs.length).map (gG zs c m a) from rfl];clear Y hz X hsm D y;go_enter func254,ntmps254;(go_wp2_with fail);obtain ⟨O,P,Q,z,o⟩:=jM w (ka #[Z G (c:Nat),Z G (HN:Nat),J (some ⟨t,off,none⟩) zs.length ca] 54) (ka (g9 m) 45) (ka #[Z G a] 3) (ka #[Z G 0,Z G 0,J none 0 0] 54);have hs3:((((w.alloc (ka #[Z G (c:Nat),Z G (HN:Nat),J (some ⟨t,off,none⟩) zs.length ca] 54)).alloc (ka (g9 m) 45)).alloc (ka #[Z G a] 3)).alloc (ka #[Z G 0,Z G 0,J none 0 0] 54)).heap.size=w.heap.size+4:=sS;generalize (((w.alloc _).alloc _).alloc _).alloc _=U at *;refine (ki c HN _ zs _ (HV.1.below o (ko _))).mono ?_;rintro e w1 ⟨rfl,u⟩;rw[n];have f:=(u.block (w.heap.size+3) oM).trans z;obtain ⟨n0,n1,n2,n3⟩:=Bc ((u.block (w.heap.size+1) oM).trans P);have g3:=jQ ((u.block (w.heap.size+1+1) oM).trans Q);(go_wp2_with fail);refine (vg m a _).mono ?_;rintro e w2 ⟨rfl,l⟩;rw[x];clear n0 n1 n2 n3 g3;replace l:=aG u l;replace f:=(l.block (w.heap.size+3) oM).trans z;obtain ⟨p0,p1,p2⟩:=al ((l.block (w.heap.size) oM).trans O);(go_wp2_with fail);have B:=aG l (aq w2 (ka #[Z G (c:Nat),Z G (HN:Nat)] 95));have R:=aD w2 (ka #[Z G (c:Nat),Z G (HN:Nat)] 95);have hlG:=lS R;have hs2:=l.size;clear p0 p1 p2;generalize w2.alloc _=w2g at *;refine (rG c HN zs.length oM oM M.1 256 #[.pointer (some ⟨w.heap.size+1,0,none⟩),.pointer (some ⟨w.heap.size,0,none⟩),.pointer (some ⟨w2.heap.size,0,none⟩),.pointer (some ⟨w.heap.size+1+1,0,none⟩)] (gG zs c m a) _ (enters_of func256 kR rfl) ?_).mono ?_
   ·intro j V hj A;have d:=aG B A;have T:=o.trans (d.mono o.size);obtain ⟨e0,e1,e2⟩:=al ((d.block (w.heap.size) oM).trans O);have e3:=jQ ((d.block (w.heap.size+2) oM).trans Q);have e6:=(d.block (w.heap.size+1) oM).trans P;obtain ⟨e4,e5⟩:=bL ((A.block w2.heap.size hlG).trans R);have hs:=d.size;have hsV:=A.size;exact Cf c HN j t off ca oM oM oM zs M.1 HZ.1 hj m a oM (fun k s=>HMM.1 k s) (w.heap.size+1) w.heap.size w2.heap.size (w.heap.size+2) V oM oM (Nat.lt_of_lt_of_le S T.size) e2 e4 e5 oM oM (fun k s=>by rw[kd e6,rC m k s]) e3 (fun i hi=>(T.cell (p:=⟨t,off+i,none⟩) S).trans (HC.1 i hi))
   ·rintro e w3 ⟨r,rfl,hr,d,C⟩;replace d:=aG B d;replace f:=(d.block (w.heap.size+3) oM).trans z;obtain ⟨z0,z1,z2⟩:=al (b:=w.heap.size+1+1+1) f;have f0:=kc (b:=w.heap.size+1+1+1) f 0;have f1:=kc (b:=w.heap.size+1+1+1) f 1;have f2:=kc (b:=w.heap.size+1+1+1) f 2;have HR:=qH hr;obtain ⟨I,F,rfl,_,_⟩:=hr;have L:=qH (bf (o.trans (d.mono o.size)) (show w.heap.size<=w.heap.size+1+1+1 from oM) (Z G (c:Nat)) (Z G (HN:Nat)) (J I ((zS zs.length).map (gG zs c m a)).length F));have hsG:=B.size;have N:=qH (HR.1.set3 C (show w.heap.size+1+1+1<w2g.heap.size from oM) (Z G (c:Nat)) (Z G (HN:Nat)) (J I ((zS zs.length).map (gG zs c m a)).length F));rw[zR,List.length_range] at N L C;rw[zR,List.length_range];go_wp2;exact bodyPost_ret (v:=.tuple #[.agg #[Z G (c:Nat),Z G (HN:Nat),J I zs.length F],Z G 0]) (by simp[results,results254,go_sem,z0,z1,z2]) rfl ⟨_,rfl,N.1,L.1,C.mono oM⟩
  ·have q:E=3:=(by rw[<-g,iR,if_pos n,if_neg x]);exact absurd (q.symm.trans K.1) dD
 ·have q:E=1:=by rw[<-g,iR,if_neg n]
  exact absurd (q.symm.trans K.1) dD
end Go.Proofs.YtfjeonehdlphiaaGreatDoor
