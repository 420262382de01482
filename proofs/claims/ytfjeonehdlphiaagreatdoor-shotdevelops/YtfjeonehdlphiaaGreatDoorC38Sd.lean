/- Part 38. -/
import Derived.Test.YtfjeonehdlphiaaGreatDoorC12Sd
import Derived.Test.YtfjeonehdlphiaaGreatDoorC31Sd
import Derived.Test.YtfjeonehdlphiaaGreatDoorC37Sd
import Derived.Deep.CutBlock
import Derived.Lib.AppendIntMem
open Go.Obj renaming cells → ka
open List renaming setIfInBounds_toArray → kb, set_cons_zero → kc, set_cons_succ → kd, take_succ_eq_append_getElem → xa, take_of_length_le → ys, length_append → zo, append_assoc → zs, length_take → zv, all_eq_true → zB, getElem_mem → zR
open Go.Lib renaming cell_of_heap → kf
open Go.Act renaming put → kh
open Nat renaming le_refl → km, lt_of_lt_of_le → kw, le_trans → kG, zero_le → xe, mul_le_mul_right → yb, mul_comm → zc, mul_le_mul → zO
open Int renaming eq_ofNat_of_zero_le → ko, toNat_natCast → xs
open Go.IntWalk renaming i64_in → kv
open Bool renaming and_eq_true → zl
open Go.Value renaming int → Z, slice → J
open Go.IntKind renaming i64 → G
set_option linter.unusedVariables false
set_option maxHeartbeats 6400000
set_option maxRecDepth 100000
namespace Go.Proofs.YtfjeonehdlphiaaGreatDoor
open Go.RowKit
open _root_.Go.Proofs.Tryz
theorem lK (a b:List UInt8):lh a++lh b=lh (a++b):=by
 apply ByteArray.ext;simp[lh]
def dI (w:World):Prop:=1<w.heap.size∧Lib.TabIs prog w "internal/strconv.uint64pow10" .u64 Lib.pow10Tab
theorem rD:prog.globalNamed "internal/strconv.uint64pow10" = some 1:=kR
theorem dI.below {w w':World} {B:Nat} (h:dI w) (a:Below B w w') (c:w.heap.size<=B):dI w':=by
 refine ⟨kw h.1 a.size,?_⟩;have b:=h.2;unfold Lib.TabIs World.var? at *;rw[rD] at *;simp only[Option.bind_some] at *;rw[a.block 1 (kw h.1 c)];exact b
theorem B8 (n:Nat) (b:n<=9223372036854775807) (w:World) (a:dI w):Calls prog 97 #[Z G n] w (rT w (.string (lh (bV n)))):=by
 refine (Tryz.strconv_Itoa n oM oM w a.2).mono ?_;rintro e w' ⟨rfl,k,c,rfl⟩;exact ⟨by rw[Lib.itoa_nonneg];rfl,Lib.below_grow _ _ (km _) _ _⟩
theorem CY (a b:Int) (c:Bool) (w:World):Calls prog 29 #[Z G a,Z G b,.bool c] w (rT w (.agg #[Z G a,Z G b,Z G (cw c:Nat)])):=by
 cases c
 ·go_enter func29,ntmps29;go_wp2;refine bodyPost_ret (v:=.agg #[Z G a,Z G b,Z G 255]) (by simp[results,results29,go_sem]) rfl ⟨rfl,aq _ _⟩
 ·go_enter func29,ntmps29;go_wp2;refine bodyPost_ret (v:=.agg #[Z G a,Z G b,Z G 65535]) (by simp[results,results29,go_sem]) rfl ⟨rfl,aq _ _⟩
theorem ri (a b c:Int) (w:World):Calls prog 39 #[.agg #[Z G a,Z G b,Z G c]] w (rT w (.bool (c == 65535))):=by
 go_enter func39,ntmps39;go_wp2;go_ret;exact ⟨rfl,aq _ _⟩
def sD (a b c:Int):Bool:=az 1 64 [a,b] && (c == 65535 || c == 255)
theorem E6 (a b c:Int) (w:World):Calls prog 100 #[.agg #[Z G a,Z G b,Z G c]] w (rT w (.bool (sD a b c))):=by
 have g:=qH (cF 1 64 _ [a,b] _ (pA (w.alloc (ka #[Z G a,Z G b,Z G c] 82)) a b));have d:=qH (ea w (ka #[Z G a,Z G b,Z G c] 82) (.cells #[Z G a,Z G b] 3));have f:=qH (show sD a b c=(az 1 64 [a,b] && (c == 65535 || c == 255)) from rfl);obtain ⟨j,m⟩:=df w (ka #[Z G a,Z G b,Z G c] 82) (.cells #[Z G a,Z G b] 3);rw[World.size_alloc] at g;obtain ⟨n,o,p⟩:=al j;go_enter func100,ntmps100;go_wp2_with fail
 refine (g.1).mono ?_;rintro e l ⟨rfl,rfl⟩;generalize az 1 64 [a,b]=R at *;generalize (w.alloc _).alloc _=U at *;cases R
 ·go_wp2;go_ret;exact ⟨by rw[f.1];rfl,d.1⟩
 ·by_cases i:c=65535
  ·subst i;go_wp2;go_ret;exact ⟨by rw[f.1];rfl,d.1⟩
  ·have k:(c == 65535)=false:=(by simpa using i);go_wp2;go_ret;exact ⟨by rw[f.1,k];simp,d.1⟩
theorem F1 (a b:Nat) (d:Bool) (l:a<=64) (m:b<=64) (w:World):Calls prog 37 #[.agg #[Z G a,Z G b,Z G (cw d:Nat)]] w (rT w (Z G ((B6 d*(3*a*b):Nat):Int))):=by
 have v:a*b<=64*64:=zO l m;have f:=qH (show (3:Int)*a*b=((3*a*b:Nat):Int) from sS);have x:3*a*b<=12288:=by rw[Nat.mul_assoc];omega
 have y:IntKind.i64.wrap (3*(a:Int))=3*a:=kv _ oM;have p:=qH (fun u=>ri a b (cw d:Nat) u);obtain ⟨k,o⟩:=d9 w (ka #[Z G a,Z G b,Z G (cw d:Nat)] 82);obtain ⟨r,s,t⟩:=al k;obtain ⟨M,g⟩:=eX (3*a*b);rw[g] at f x;have z:IntKind.i64.wrap (3*(a:Int)*b)=(M:Int):=by rw[f.1];exact kv _ oM
 have A:IntKind.i64.wrap (2*(M:Int))=((2*M:Nat):Int):=by rw[kv _ oM];simp
 have j:=qH (show B6 d*(3*a*b)=if d then 2*M else M by rw[g];unfold B6;cases d<;>simp);generalize B6 d*(3*a*b)=c at *;have q:=qH (rL d);generalize ((cw d:Nat):Int)=C at *;clear g f v l m;go_enter func37,ntmps37;go_wp2_with fail
 generalize w.alloc _=U at *;refine (p.1 U).mono ?_;rintro e V ⟨rfl,n⟩;rw[q.1];have i:=qH (aG o.1 n);clear n r s t k;cases d
 ·go_wp2;go_ret;exact ⟨by rw[j.1];rfl,i.1⟩
 ·go_wp2;go_ret;exact ⟨by rw[j.1];rfl,i.1⟩
theorem ux:∀(k n:Nat),n<10 ^ (k+1)->(bV n).length<=k+1
 | 0,n,h=>by rw[bV,Lib.decDigits_one (by simpa using h)];simp
 | k+1,n,h=>by
  rw[bV,Lib.decDigits]
  split
  ·simp
  ·have:=ux k (n / 10) (by rw[Nat.pow_succ] at h;omega)
   simp only[zo,List.length_cons,List.length_nil]
   have a:(Lib.decDigits (n / 10)).length<=k+1:=this
   omega
theorem mO {n:Nat} (h:n<=65535):(bV n).length<=5:=ux 4 n oM
def hT (a b c:Nat):Nat->List UInt8
 | 0=>[80,54,10]
 | 1=>[80,54,10]++(bV a++[32])
 | 2=>([80,54,10]++(bV a++[32]))++(bV b++[10])
 | _=>eh a b c
theorem rH {a b c:Nat} (d:a<=65535) (e:b<=65535) (f:c<=65535) (k:Nat) (j:k<=3):(hT a b c k).length<=40:=by
 have g:=mO d;have h:=mO e;have i:=mO f;rcases (show k=0\/k=1\/k=2\/k=3 from oM) with rfl|rfl|rfl|rfl<;>simp[hT,eh]<;>omega
theorem AE:(⟨#[32,10,10]⟩:ByteArray).extract 0 1=lh [32]:=rR
theorem AF:(⟨#[32,10,10]⟩:ByteArray).extract 1 2=lh [10]:=rR
theorem AG:(⟨#[32,10,10]⟩:ByteArray).extract 2 3=lh [10]:=rR
theorem x8 (a b c:Nat) (x:a<=65535) (y:b<=65535) (z:c<=65535) (w:World) (N:dI w):Calls prog 30 #[.agg #[Z G a,Z G b,Z G c]] w (rT w (.string (lh (eh a b c)))):=by
 have T:∀V:World,(Instr.index 47 (.agg #[Z G a,Z G b,Z G c]) (Z G 0)).run prog V=.ok (Z G a) V:=fun V=>kR;have W:∀V:World,(Instr.index 47 (.agg #[Z G a,Z G b,Z G c]) (Z G 1)).run prog V=.ok (Z G b) V:=fun V=>kR;have X:∀V:World,(Instr.index 47 (.agg #[Z G a,Z G b,Z G c]) (Z G 2)).run prog V=.ok (Z G c) V:=fun V=>kR;have P:IntKind.i64.wrap 1=1:=dD;have Q:IntKind.i64.wrap 2=2:=dD;have R:IntKind.i64.wrap 3=3:=dD;have r:=qH (fun (n:Nat) (h:n<=65535) (u:World) (A:dI u)=>B8 n oM u A);obtain ⟨C,F⟩:=d9 w (ka #[Z G a,Z G b,Z G c] 82);have s:=qH (fun (u:World) (A:Below w.heap.size w u)=>N.below A (km _));obtain ⟨I,K,L⟩:=al C;go_enter func30,ntmps30;go_wp2_with fail
 clear I K L C;generalize w.alloc _=U at *;go_loopw [3,13] (fun t i wr=>∃k:Nat,k<=3/\i=Z G k/\t=.string (lh (hT a b c k))/\Below w.heap.size w wr) (fun _ i _=>3-(intOf i).toNat)
 case atStart=>exact ⟨0,oM,rfl,rfl,F.1⟩
 case round =>
  obtain ⟨k,M,rfl,rfl,E⟩:=hrel;obtain ⟨H,q⟩:=eX (lh (hT a b c k));have p:=qH q;have O:H.size<=40:=by rw[<-q,bn];exact rH x y z k M
  rw[q];have j:=qH E;clear q E;rcases (show k=0\/k=1\/k=2\/k=3 from oM) with rfl|rfl|rfl|rfl
  ·have D:(lh (bV a)).size<=5:=(by rw[bn];exact mO x);(go_upto_region 5 with fail);have hSd:(fun v=>dI v/\Below w.heap.size w v) wr.drew:=⟨(s.1 _ j.1).below (jk wr) (km _),aG j.1 (jk wr)⟩;refine dR (S:=(fun v=>dI v/\Below w.heap.size w v)) 9 ?_;refine ak 0 ?_;refine ak 1 ?_;refine ak 3 ?_;refine ak 4 ?_;refine ak 5 ?_;refine ak 6 ?_;refine aw 2 fun m d=>?_;go_simp;refine (r.1 a x _ hSd.1).mono ?_;rintro e B ⟨rfl,g⟩;have hSd:=(show (fun v=>dI v/\Below w.heap.size w v) _ from ⟨hSd.1.below g (km _),aG hSd.2 g⟩);refine d.out _ _ hSd ?_;clear d;(try simp only[kh]);refine dS (i:=7) (oi:=_) (v:=?vv27) (some 24) [] rfl rfl kR kR kR kR kR (fun _ _ _ h=>h) (Or.inl ⟨rR,?yy27⟩) hSd ?rr27
   case yy27=>(intro o f;obtain ⟨_,_⟩:=f;go_simp;rw[if_neg (by first|omega|(simp;omega))])
   simp only[kh,kb,kd,kc];refine dS (i:=8) (oi:=_) (v:=?vv28) (some 25) [] rfl rfl kR kR kR kR kR (fun _ _ _ h=>h) (Or.inl ⟨rR,?yy28⟩) hSd ?rr28
   case yy28=>(intro o f;obtain ⟨_,_⟩:=f;go_simp;rw[if_neg (by first|omega|(simp;omega))])
   simp only[kh,kb,kd,kc];refine aS fun m d=>?_;go_simp;refine d.out _ _ ?_;clear d;(try simp only[kh]);have l:=qH hSd.2;clear hSd;go_wp2;go_roundw
   case rel=>exact ⟨1,oM,gN,by rw[<-p.1,AE,lK,lK];rfl,l.1⟩
   case measure=>simp[intOf]
  ·have D:(lh (bV b)).size<=5:=(by rw[bn];exact mO y);(go_upto_region 5 with fail);have hSd:(fun v=>dI v/\Below w.heap.size w v) wr.drew:=⟨(s.1 _ j.1).below (jk wr) (km _),aG j.1 (jk wr)⟩;refine dR (S:=(fun v=>dI v/\Below w.heap.size w v)) 9 ?_;refine ak 0 ?_;refine ak 1 ?_;refine ak 3 ?_;refine ak 4 ?_;refine ak 5 ?_;refine ak 6 ?_;refine aw 2 fun m d=>?_;go_simp;refine (r.1 b y _ hSd.1).mono ?_;rintro e B ⟨rfl,g⟩;have hSd:=(show (fun v=>dI v/\Below w.heap.size w v) _ from ⟨hSd.1.below g (km _),aG hSd.2 g⟩);refine d.out _ _ hSd ?_;clear d;(try simp only[kh]);refine dS (i:=7) (oi:=_) (v:=?vv47) (some 24) [] rfl rfl kR kR kR kR kR (fun _ _ _ h=>h) (Or.inl ⟨rR,?yy47⟩) hSd ?rr47
   case yy47=>(intro o f;obtain ⟨_,_⟩:=f;go_simp;rw[if_neg (by first|omega|(simp;omega))])
   simp only[kh,kb,kd,kc];refine dS (i:=8) (oi:=_) (v:=?vv48) (some 25) [] rfl rfl kR kR kR kR kR (fun _ _ _ h=>h) (Or.inl ⟨rR,?yy48⟩) hSd ?rr48
   case yy48=>(intro o f;obtain ⟨_,_⟩:=f;go_simp;rw[if_neg (by first|omega|(simp;omega))])
   simp only[kh,kb,kd,kc];refine aS fun m d=>?_;go_simp;refine d.out _ _ ?_;clear d;(try simp only[kh]);have l:=qH hSd.2;clear hSd;go_wp2;go_roundw
   case rel=>exact ⟨2,oM,gN,by rw[<-p.1,AF,lK,lK];rfl,l.1⟩
   case measure=>simp[intOf]
  ·have D:(lh (bV c)).size<=5:=(by rw[bn];exact mO z);(go_upto_region 5 with fail);have hSd:(fun v=>dI v/\Below w.heap.size w v) wr.drew:=⟨(s.1 _ j.1).below (jk wr) (km _),aG j.1 (jk wr)⟩;refine dR (S:=(fun v=>dI v/\Below w.heap.size w v)) 9 ?_;refine ak 0 ?_;refine ak 1 ?_;refine ak 3 ?_;refine ak 4 ?_;refine ak 5 ?_;refine ak 6 ?_;refine aw 2 fun m d=>?_;go_simp;refine (r.1 c z _ hSd.1).mono ?_;rintro e B ⟨rfl,g⟩;have hSd:=(show (fun v=>dI v/\Below w.heap.size w v) _ from ⟨hSd.1.below g (km _),aG hSd.2 g⟩);refine d.out _ _ hSd ?_;clear d;(try simp only[kh]);refine dS (i:=7) (oi:=_) (v:=?vv67) (some 24) [] rfl rfl kR kR kR kR kR (fun _ _ _ h=>h) (Or.inl ⟨rR,?yy67⟩) hSd ?rr67
   case yy67=>(intro o f;obtain ⟨_,_⟩:=f;go_simp;rw[if_neg (by first|omega|(simp;omega))])
   simp only[kh,kb,kd,kc];refine dS (i:=8) (oi:=_) (v:=?vv68) (some 25) [] rfl rfl kR kR kR kR kR (fun _ _ _ h=>h) (Or.inl ⟨rR,?yy68⟩) hSd ?rr68
   case yy68=>(intro o f;obtain ⟨_,_⟩:=f;go_simp;rw[if_neg (by first|omega|(simp;omega))])
   simp only[kh,kb,kd,kc];refine aS fun m d=>?_;go_simp;refine d.out _ _ ?_;clear d;(try simp only[kh]);have l:=qH hSd.2;clear hSd;go_wp2;go_roundw
   case rel=>exact ⟨3,oM,gN,by rw[<-p.1,AG,lK,lK];rfl,l.1⟩
   case measure=>simp[intOf]
  ·go_wp2;go_ret;exact ⟨by rw[<-p.1];rfl,j.1⟩
def iB (W H:Int) (ps:List Px):Int:=if aZ W H ps=true then 0 else 1
def nD (W H:Int) (ps:List Px) (a:Bool):List UInt8:=if aZ W H ps=true then d6 W H ps a else []
def nj (p:Px) (k:Nat):Int:=if k=0 then p.1 else if k=1 then p.2.1 else p.2.2
def mn (a:Bool) (p:Px):Nat->List UInt8
 | 0=>[]
 | 1=>eU a p.1
 | 2=>eU a p.1++eU a p.2.1
 | _=>iw a p
theorem Ed (a:Bool) (p:Px) (k:Nat) (b:k<3):mn a p (k+1)=mn a p k++eU a (nj p k):=by
 rcases (show k=0\/k=1\/k=2 from oM) with rfl|rfl|rfl
 ·rfl
 ·rfl
 ·show iw a p=(eU a p.1++eU a p.2.1)++eU a p.2.2;rw[iw,zs]
theorem Ec (a:Bool) (p:Px) (k:Nat) (b:k<=3):(mn a p k).length<=6:=by
 have c:B6 a<=2:=by unfold B6;cases a<;>decide
 rcases (show k=0\/k=1\/k=2\/k=3 from oM) with rfl|rfl|rfl|rfl
 ·show 0<=6;omega
 ·show (eU a p.1).length<=6;rw[ml];omega
 ·show (eU a p.1++eU a p.2.1).length<=6;rw[zo,ml,ml];omega
 ·show (iw a p).length<=6;rw[wY];omega
theorem Ek {p:Px} (h:et p=true):H9 p.1/\H9 p.2.1/\H9 p.2.2:=by
 unfold et az at h;simp only[List.all_cons,List.all_nil,Bool.and_true,zl,decide_eq_true_eq] at h;unfold H9;omega
theorem Eh {p:Px} (h:et p=true) (k:Nat):0<=nj p k/\nj p k<=65535:=by
 obtain ⟨a,b,c⟩:=Ek h;unfold nj;split
 ·exact a
 ·split
  ·exact b
  ·exact c
theorem GO {x:Int} (h:0<=x):UInt8.ofNat (x % 256).toNat=u8 x:=by
 apply UInt8.toNat_inj.1;unfold u8;simp;omega
theorem DK (a:Bool) (ps:List Px) (p:Px):dX a (ps++[p])=dX a ps++iw a p:=by simp[dX]
theorem BN (p:Px) (k:Nat) (a:k<3) (V:World):(Instr.index 47 (.agg #[Z G p.1,Z G p.2.1,Z G p.2.2]) (Z G k)).run prog V=.ok (Z G (nj p k)) V:=by
 rcases (show k=0\/k=1\/k=2 from oM) with rfl|rfl|rfl
 ·exact (show (Instr.index 47 (.agg #[Z G p.1,Z G p.2.1,Z G p.2.2]) (Z G 0)).run prog V=.ok (Z G p.1) V from kR)
 ·exact (show (Instr.index 47 (.agg #[Z G p.1,Z G p.2.1,Z G p.2.2]) (Z G 1)).run prog V=.ok (Z G p.2.1) V from kR)
 ·exact (show (Instr.index 47 (.agg #[Z G p.1,Z G p.2.1,Z G p.2.2]) (Z G 2)).run prog V=.ok (Z G p.2.2) V from kR)
theorem xI (W H:Int) (v:Value) (ps:List Px) (d:Bool) (w:World) (hp:dI w) (hv:ax w v ps) :
  Calls prog 8 #[.agg #[Z G W,Z G H,v],.bool d] w (rT w (.tuple #[.string (lh (nD W H ps d)),Z G (iB W H ps)])):=by
 have C:=qH (fun (u:World) (E:Below w.heap.size w u)=>nc W H v ps u (hv.below E (km _)));have HP:=qH (fun (u:World) (E:Below w.heap.size w u)=>hp.below E (km _));have HV:=qH hv;obtain ⟨ao,ca,rfl,hla,hx⟩:=hv;clear hx;obtain ⟨K,F⟩:=d9 w (ka #[Z G W,Z G H,J ao ps.length ca] 24);have hl1:=lS K;obtain ⟨y,z,A⟩:=al K;by_cases g:aZ W H ps=true;rotate_left
 ·have Q:=qH (show nD W H ps d=[] from if_neg g);have P:=qH (show iB W H ps=1 from if_neg g);replace g:aZ W H ps=false:=by simpa using g
  rw[g] at C;clear g;go_enter func8,ntmps8;go_wp2_with fail
  clear y z A;generalize w.alloc _=U at *;refine (C.1 U F.1).mono ?_;rintro e f ⟨rfl,t⟩;have HBF:=qH (aG F.1 t);clear t;go_wp2;go_ret2;exact ⟨by rw[Q.1,P.1];rfl,HBF.1⟩
 have Q:=qH (show nD W H ps d=d6 W H ps d from if_pos g);have P:=qH (show iB W H ps=0 from if_pos g);obtain ⟨⟨hW1,hW2⟩,⟨hH1,hH2⟩,hL,hpx⟩:=fC g;obtain ⟨o,rfl⟩:=ko (show 0<=W from oM);obtain ⟨HN,rfl⟩:=ko (show 0<=H from oM);have hlen:ps.length<=4096:=by
  have:o*HN<=64*64:=zO oM oM;have h2:(ps.length:Int)=((o*HN:Nat):Int):=by rw[hL];simp
  omega
 rw[g] at C;have HNW:=qH (fun u=>CY (o:Int) (HN:Int) d u);have hm65:cw d<=65535:=by cases d<;>decide
 have HTX:=qH (fun (u:World) (E:dI u)=>x8 o HN (cw d) oM oM hm65 u E);have HPX:=qH (fun (k:Nat) (hk:k<ps.length)=>Eh (zB.1 hpx _ (zR hk)));have hTl:(lh (eh o HN (cw d))).size<=40:=by rw[bn];exact rH (a:=o) (b:=HN) (c:=cw d) oM oM hm65 3 oM
 have HSB:=qH (show d6 o HN ps d=eh o HN (cw d)++dX d ps by rw[d6];rfl);have HPL:=qH (fun k=>sk d (ps.take k));have hsz2:B6 d<=2:=by unfold B6;cases d<;>decide
 clear g hL hpx hW1 hW2 hH1 hH2 hm65;generalize eh o HN (cw d)=D at *;have hDl:D.length<=40:=by rw[<-bn];exact hTl
 generalize ((cw d:Nat):Int)=HM at *;go_enter func8,ntmps8;go_wp2_with fail
 clear y z A;generalize w.alloc _=U at *;refine (C.1 U F.1).mono ?_;rintro e f ⟨rfl,t⟩;have I:=qH (aG F.1 t);have HST:=qH (Lib.fresh_isBuilder 76 5 f);have L:=(t.block _ hl1).trans K;have hl2:=lS L;have HVV:=qH (HV.1.below I.1 (km _));have q:=aq f (ka #[.pointer none,J none 0 0] 76);have g2:=(q.block _ hl2).trans L;obtain ⟨y,z,A⟩:=al g2;clear t K C;go_wp2_with fail
 generalize hUB:f.alloc (ka #[.pointer none,J none 0 0] 76)=UB at *;clear hUB;refine (HNW.1 UB).mono ?_;rintro e V2 ⟨rfl,R⟩;have hpw:=HP.1 _ (aG (aG I.1 q) R);clear y z A;go_wp2_with fail
 refine (HTX.1 V2 hpw).mono ?_;rintro e V3 ⟨rfl,N⟩;have M:=aG R N;have n:=nW HST.1 M q.size;have hsz3:=kG q.size M.size;clear hpw R N;go_wp2_with fail
 refine (tt f.heap.size f.heap.size [] _ _ n sO hsz3).mono ?_;rintro e V4 ⟨rfl,T,hb4⟩;rw[List.nil_append,bP] at T;have S:=(q.trans (M.mono q.size)).trans hb4;have g3:=(S.block _ hl2).trans L;obtain ⟨y,z,A⟩:=al g3;have B:=qH T;have HBW:=qH S;clear T S hb4 n M g2 L q;go_wp2_with fail
 clear y z A g3;go_loopw [25] (fun i wr=>∃k:Nat,k<=ps.length/\i=Z G k/\Lib.IsBuilder 76 5 f.heap.size f.heap.size (aP (D++dX d (ps.take k))) wr/\Below f.heap.size f wr) (fun i _=>ps.length-(intOf i).toNat)
 case atStart=>exact ⟨0,xe _,rfl,by rw[show dX d (ps.take 0)=[] from rfl,List.append_nil];exact B.1,HBW.1⟩
 case round =>
  clear B HBW;obtain ⟨k,hk,rfl,n,s⟩:=hrel;have hsz:=s.size;have hpl:(dX d (ps.take k)).length<=24576:=by
   rw[HPL.1 k,zv,Nat.min_eq_left hk];have:B6 d*(3*k)<=2*(3*4096):=zO hsz2 oM;omega
  by_cases O:k<ps.length;rotate_left
  ·have hd:decide ((k:Int)<(ps.length:Int))=false:=sO;have HX:=qH (show ps.take k=ps from ys oM);rw[HX.1] at n;(go_wp2_with (go_at_call 32;refine (sV f.heap.size f.heap.size _ _ n hsz).mono ?_;rintro e w3 ⟨rfl,N⟩));go_ret2;exact ⟨by rw[Q.1,P.1,HSB.1];rfl,I.1.trans ((s.trans N).mono I.1.size)⟩
  have hd:decide ((k:Int)<(ps.length:Int))=true:=sO;obtain ⟨b,off,hao,X,hcell⟩:∃b off,ao=some ⟨b,off,none⟩/\b<f.heap.size/\∀j (h:j<ps.length),f.cell? ⟨b,off+j*3,none⟩=some (Z G ps[j].1)/\f.cell? ⟨b,off+j*3+1,none⟩=some (Z G ps[j].2.1)/\f.cell? ⟨b,off+j*3+2,none⟩=some (Z G ps[j].2.2):=by
   obtain ⟨ao',cap',hv',_,hc⟩:=HVV.1;simp only[Value.slice.injEq] at hv';obtain ⟨rfl,_,_⟩:=hv';rcases hc with h|h
   ·subst h;exact absurd O sS
   ·exact h
  subst hao;obtain ⟨d0,d1,d2⟩:=hcell k O;have c0:=(s.cell (p:=⟨b,off+k*3,none⟩) X).trans d0;have c1:=(s.cell (p:=⟨b,off+k*3+1,none⟩) X).trans d1;have c2:=(s.cell (p:=⟨b,off+k*3+2,none⟩) X).trans d2;have HT:=qH (show dX d (ps.take (k+1))=dX d (ps.take k)++iw d ps[k] by rw[xa O,DK]);have HPK:=qH (HPX.1 k O);clear hcell d0 d1 d2;obtain ⟨m,hpp⟩:=eX (ps[k]);rw[hpp] at c0 c1 c2 HT HPK;clear hpp;obtain ⟨t1,aa⟩:=lV wr (ka #[Z G m.1,Z G m.2.1,Z G m.2.2] 61);obtain ⟨q0,q1,q2⟩:=al t1;have B:=qH (nW n aa hsz);have HBX:=qH (s.trans (aa.mono hsz));have HSK:=qH (fun (j:Nat) (r:j<3)=>Ed d m j r);have HLK:=qH (fun (j:Nat) (r:j<=3)=>Ec d m j r);have HIX:=qH (fun (j:Nat) (r:j<3)=>BN m j r);go_wp2_with fail
  clear q0 q1 q2 t1 n aa c0 c1 c2;generalize wr.alloc _=wx at *;generalize dX d (ps.take k)=PB at *;go_loopw [36] (fun i wq=>∃j:Nat,j<=3/\i=Z G j/\Lib.IsBuilder 76 5 f.heap.size f.heap.size (aP (D++(PB++mn d m j))) wq/\Below f.heap.size f wq) (fun i _=>3-(intOf i).toNat)
  case atStart=>exact ⟨0,xe _,rfl,by rw[show mn d m 0=[] from rfl,List.append_nil];exact B.1,HBX.1⟩
  case round =>
   clear B HBX;obtain ⟨j,r,rfl,n,Y⟩:=hrel;have hsq:=Y.size;have hlk:=HLK.1 j r;by_cases hj3:j<3;rotate_left
   ·obtain rfl:j=3:=oM;have hd3:decide ((3:Int)<3)=false:=rfl;go_wp2;go_roundw
    case rel=>exact ⟨k+1,oM,gN,by rw[HT.1];exact n,Y⟩
    case measure=>simp[intOf];omega
   have hd3:decide ((j:Int)<3)=true:=sO;have hix:=HIX.1 j hj3;have hpk:=HPK.1 j;have HS2:=qH (HSK.1 j hj3);generalize nj m j=x at *;(go_wp2_with fail);refine (tr f.heap.size f.heap.size _ (x / 256) (x / 256).toNat oM oM _ n (by simp only[zo];omega) hsq).mono ?_;rintro e Va ⟨rfl,V,hba⟩;have hqa:=Y.trans hba;have HAS:=qH (show ∀l:List UInt8,D++(PB++mn d m j)++l=D++(PB++(mn d m j++l)) from fun l=>sS);rw[HAS.1] at V;cases d
   ·go_wp2;go_roundw
    case rel=>exact ⟨j+1,oM,gN,by rw[HS2.1];exact V,hqa⟩
    case measure=>simp[intOf];omega
   ·(go_wp2_with fail);refine (tr f.heap.size f.heap.size _ _ (x % 256).toNat oM oM _ V (by simp only[zo,List.length_cons,List.length_nil];omega) hqa.size).mono ?_;rintro e Vb ⟨rfl,hbdb,hbb⟩;have HPR:=qH (show eU true x=[UInt8.ofNat (x / 256).toNat]++[UInt8.ofNat (x % 256).toNat] by rw[GO hpk.1];rfl);go_wp2;go_roundw
    case rel=>exact ⟨j+1,oM,gN,by rw[HS2.1,HPR.1];simpa using hbdb,hqa.trans hbb⟩
    case measure=>simp[intOf];omega
theorem Du (x y:Nat) (d:x<256) (e:y<256):bits BinOp.or G ((x:Int)*256) (y:Int)=256*(x:Int)+y:=by
 unfold bits;simp only[BitVec.toNat_or,BitVec.toNat_ofInt];have a:((2 ^ IntKind.i64.bits:Nat):Int)=18446744073709551616:=rfl;have b:((x:Int)*256 % ((2 ^ IntKind.i64.bits:Nat):Int)).toNat=2 ^ 8*x:=by rw[a];omega
 have c:((y:Int) % ((2 ^ IntKind.i64.bits:Nat):Int)).toNat=y:=by rw[a];omega
 rw[b,c,<-Nat.two_pow_add_eq_or_of_lt oM x,kv _ oM];omega
theorem BO (L:List UInt8) (i:Nat) (h:i<L.length) (V:World):(Instr.index 9 (.string (lh L)) (Z G i)).run prog V=.ok (.int .u8 ((L.getD i 0).toNat:Nat)) V:=by
 rw[run_index_string V 9 _ .i64 i underlying9,dif_pos ⟨oM,by rw[bn];omega⟩,List.getD_eq_getElem?_getD,List.getElem?_eq_getElem h];rfl
theorem FZ (a b:Int) (d:Bool) (L:List UInt8) (o g k:Nat) (w:World) (r:w.heap[o]?=some (.cells #[Z G a,Z G b,Z G (cw d:Nat)] 82 (0,0))) (n:w.heap[g]?=some (.cells #[.string (lh L)] 9 (0,0)))
  (c:B6 d*k+B6 d<=L.length) (O:L.length<=100000):Calls prog 38 #[Z G k,.pointer (some ⟨o,0,none⟩),.pointer (some ⟨g,0,none⟩)] w (rT w (Z G (i8 d L k))):=by
 have z:=qH (fun u=>ri a b (cw d:Nat) u);have A:=qH (rL d);obtain ⟨E,F,H⟩:=al r;have K:=lS n;have f:=qH (show i8 d L k=if d then 256*((L.getD (2*k) 0).toNat:Int)+((L.getD (2*k+1) 0).toNat:Int) else 257*((L.getD k 0).toNat:Int) from rfl);have j:=qH (fun i h=>BO L i h);have l:=qH (fun i=>UInt8.toNat_lt (L.getD i 0));have D:=qH (show B6 d=if d then 2 else 1 from rfl);rw[D.1] at c;generalize ((cw d:Nat):Int)=C at *;go_enter func38,ntmps38;go_wp2_with fail
 refine (z.1 w).mono ?_;rintro e V ⟨rfl,m⟩;rw[A.1];have q:=(m.block _ K).trans n;have P:V.cell? ⟨g,0,none⟩=some (.string (lh L)):=kf q _;have p:=qH m;clear m E F H r n q;cases d
 ·replace c:k<L.length:=by simp only[Bool.false_eq_true,if_false] at c;omega
  have s:=j.1 k c;have t:=l.1 k;rw[if_neg dD] at f;generalize (L.getD k 0).toNat=x at *;go_wp2;go_ret;exact ⟨by rw[f.1];rfl,p.1⟩
 ·replace c:2*k+1<L.length:=by simp only[if_true] at c;omega
  have s:=j.1 (2*k) oM;have I:=j.1 (2*k+1) c;have t:=l.1 (2*k);have M:=l.1 (2*k+1);rw[if_pos rfl] at f;generalize (L.getD (2*k) 0).toNat=x at *;generalize (L.getD (2*k+1) 0).toNat=y at *;rw[show ((2*k:Nat):Int)=2*(k:Int) from sS] at s;rw[show ((2*k+1:Nat):Int)=2*(k:Int)+1 from sS] at I;have B:=qH (Du x y t M);go_wp2_with fail
  go_quiet (fail);have v:=qH (show Below w.heap.size w (V.drewN nq) from below_drewN p.1 nq);rw[B.1];generalize V.drewN nq=N at *;go_wp2;go_ret;exact ⟨by rw[f.1];rfl,v.1⟩
theorem DP (a b X Y j:Nat) (d:Bool) (L:List UInt8) (g i A l:Nat) (w:World) (y:w.heap[g]?=some (.cells #[Z G a,Z G b,Z G (cw d:Nat)] 82 (0,0))) (z:w.heap[i]?=some (.cells #[.string (lh L)] 9 (0,0)))
  (x:w.heap[A]?=some (.cells #[Z G a,Z G b] 95 (0,0))) (s:w.heap[l]?=some (.cells #[.func (.func 38) #[] #[.pointer (some ⟨g,0,none⟩),.pointer (some ⟨i,0,none⟩)]] 93 (0,0)))
  (N:Y*a+X=j) (p:B6 d*(3*j+2)+B6 d<=L.length) (K:L.length<=100000) (hj4:j<=4096) :
  Calls prog 41 #[.agg #[Z G X,Z G Y],.pointer (some ⟨A,0,none⟩),.pointer (some ⟨l,0,none⟩)] w (rT w (dj (oh d L j))):=by
 have O:B6 d*(3*j)+B6 d<=L.length:=kG (Nat.add_le_add_right (Nat.mul_le_mul_left _ oM) _) p;have P:B6 d*(3*j+1)+B6 d<=L.length:=kG (Nat.add_le_add_right (Nat.mul_le_mul_left _ oM) _) p;have V:=lS y;have W:=lS z;have m:∀(t:Nat),B6 d*t+B6 d<=L.length->∀u:World,Below w.heap.size w u->Calls prog 38 #[Z G (t:Int),.pointer (some ⟨g,0,none⟩),.pointer (some ⟨i,0,none⟩)] u (rT u (Z G (i8 d L t))):=by
  intro t ht u f;have q1:=(f.block _ V).trans y;have q2:=(f.block _ W).trans z;exact FZ (a:Int) (b:Int) d L g i t u q1 q2 ht K
 have B:=qH (fun u f=>m (3*j) O u f);have C:=qH (fun u f=>m (3*j+1) P u f);have D:=qH (fun u f=>m (3*j+2) p u f);rw[show ((3*j:Nat):Int)=3*(j:Int) from sS] at B;rw[show ((3*j+1:Nat):Int)=3*(j:Int)+1 from sS] at C;rw[show ((3*j+2:Nat):Int)=3*(j:Int)+2 from sS] at D;have HPX:=qH (show oh d L j=(i8 d L (3*j),i8 d L (3*j+1),i8 d L (3*j+2)) from rfl);generalize i8 d L (3*j)=x0 at *;generalize i8 d L (3*j+1)=x1 at *;generalize i8 d L (3*j+2)=x2 at *;have HIX:=qH (fun u=>iP (a:Int) (b:Int) X Y a j rfl N hj4 u);obtain ⟨F,H,k⟩:=gr w (ka #[Z G X,Z G Y] 97) (ka #[Z G 0,Z G 0,Z G 0] 61);have hl2:=lS H;have I:=(k.1.block _ (lS x)).trans x;have r:=(k.1.block _ (lS s)).trans s;have T:=lS r;obtain ⟨s0,s1⟩:=bL F;obtain ⟨r0,r1⟩:=bL I;have hw1:IntKind.i64.wrap (3*(j:Int)+1)=3*(j:Int)+1:=kv _ oM;have hw2:IntKind.i64.wrap (3*(j:Int)+2)=3*(j:Int)+2:=kv _ oM;clear m V W y z x s p O P K N;go_enter func41,ntmps41;go_wp2_with fail
 clear s0 s1 r0 r1 F I;generalize (w.alloc _).alloc _=U at *;refine (HIX.1 U).mono ?_;rintro e E ⟨rfl,M⟩;have n:=qH (show ∀v,Below U.heap.size U v->(fun v=>Below U.heap.size U v/\v.cell? ⟨l,0,none⟩=some (.func (.func 38) #[] #[.pointer (some ⟨g,0,none⟩),.pointer (some ⟨i,0,none⟩)])) v from fun v Q=>⟨Q,kf ((Q.block _ T).trans r) _⟩);clear r T;go_upto_region 2 with fail
 have hSd:(fun v=>Below U.heap.size U v/\v.cell? ⟨l,0,none⟩=some (.func (.func 38) #[] #[.pointer (some ⟨g,0,none⟩),.pointer (some ⟨i,0,none⟩)])) E.drew:=n.1 _ (aG M (jk E));clear M;refine dR (S:=(fun v=>Below U.heap.size U v/\v.cell? ⟨l,0,none⟩=some (.func (.func 38) #[] #[.pointer (some ⟨g,0,none⟩),.pointer (some ⟨i,0,none⟩)]))) 12 ?_;refine ak 0 ?_;refine ak 1 ?_;refine ak 3 ?_;refine ak 4 ?_;refine ak 7 ?_;refine ak 8 ?_;refine ak 5 ?_;refine ak 9 ?_;refine aw 2 fun q c=>?_;go_simp;refine (B.1 _ (aG k.1 hSd.1)).mono ?_;rintro e V1 ⟨rfl,hb1⟩;have hSd:=n.1 _ (aG hSd.1 hb1);refine c.out _ _ hSd ?_;clear c;try simp only[kh]
 refine aw 6 fun q c=>?_;go_simp;refine (C.1 _ (aG k.1 hSd.1)).mono ?_;rintro e V2 ⟨rfl,hb2⟩;have hSd:=n.1 _ (aG hSd.1 hb2);refine c.out _ _ hSd ?_;clear c;try simp only[kh]
 refine aw 10 fun q c=>?_;go_simp;refine (D.1 _ (aG k.1 hSd.1)).mono ?_;rintro e V3 ⟨rfl,hb3⟩;have hSd:=n.1 _ (aG hSd.1 hb3);refine c.out _ _ hSd ?_;clear c;try simp only[kh]
 refine ak 11 ?_;refine mC (o:=_) kR rfl (fun q c=>?_);have R:=(hSd.1.block _ hl2).trans H;obtain ⟨z0,z1,z2⟩:=al R;obtain ⟨f0,f1,f2⟩:=fZ R;have HF:=qH (bf (aG k.1 hSd.1) (show w.heap.size<=w.heap.size+1 from oM) (Z G x0) (Z G x1) (Z G x2));rw[if_pos rR];go_simp;refine c.out _ _ ?_;clear c;refine mA kR ?_ _;try simp only[kh]
 clear hSd;go_wp2;refine bodyPost_ret (v:=.agg #[Z G x0,Z G x1,Z G x2]) (by simp[results,results41,go_sem,z0,z1,z2]) rfl ⟨by rw[HPX.1],HF.1⟩
def iY:List UInt8:=[80,54,10,49,32,49,10,54,53,53,51,53,10,1,2,0,1,255,255]
def gT (k:Nat):Int×Int×Int×Int:=([(0,0,0,0),(0,1,0,0),(1,1,0,0),(1,1,1,0),(2,1,1,0),(2,1,1,6),(2,1,1,65),(2,1,1,655),(2,1,1,6553),(2,1,1,65535)]:List (Int×Int×Int×Int)).getD k (0,0,0,0)
def gX (k:Nat):Int×Int:=([(3,49),(4,32),(5,49),(6,10),(7,54),(8,53),(9,53),(10,51),(11,53),(12,10)]:List (Int×Int)).getD k (0,0)
structure GK (w:World) (cs:Array Value) (V:World):Prop where
 res:V.heap[w.heap.size]?=some (.cells #[Z G 0,Z G 0,Z G 0] 82 (0,0))
 box:V.heap[w.heap.size+1]?=some (.cells cs 47 (0,0))
 bel:Below w.heap.size w V
theorem GK.set {w V:World} {a:Array Value} (h:GK w a V) (i:Nat) (x:Value):GK w (a.setIfInBounds i x) (V.setCell ⟨w.heap.size+1,i,none⟩ x) :=
 ⟨(Below.heap_setCell _ _ _ _ (by show w.heap.size≠w.heap.size+1;omega)).trans h.res,heap_setCell_same V _ i _ _ x h.box,h.bel.setCell (p:=⟨w.heap.size+1,i,none⟩) (by show w.heap.size<=w.heap.size+1;omega) x⟩
theorem BD (w:World):Calls prog 99 #[.string (lh iY)] w (rT w (.agg #[Z G 1,Z G 1,Z G 65535])):=by
  have z:(lh iY).size=19:=rfl;have A:∀V:World,(Instr.index 9 (.string ⟨#[32,10,10]⟩) (Z G 0)).run prog V=.ok (.int .u8 32) V:=fun V=>kR;have B:∀V:World,(Instr.index 9 (.string ⟨#[32,10,10]⟩) (Z G 1)).run prog V=.ok (.int .u8 10) V:=fun V=>kR;have C:∀V:World,(Instr.index 9 (.string ⟨#[32,10,10]⟩) (Z G 2)).run prog V=.ok (.int .u8 10) V:=fun V=>kR;have f:=qH (fun (k:Nat) (d:k<=9) (V:World)=>show (Instr.index 9 (.string (lh iY)) (Z G (gX k).1)).run prog V=.ok (.int .u8 (gX k).2) V from by
    rcases (show k=0\/k=1\/k=2\/k=3\/k=4\/k=5\/k=6\/k=7\/k=8\/k=9 from oM) with rfl|rfl|rfl|rfl|rfl|rfl|rfl|rfl|rfl|rfl<;>kernel_rfl)
  have a:=qH (show GK w #[Z G 0,Z G 0,Z G 0] ((w.alloc (ka #[Z G 0,Z G 0,Z G 0] 82)).alloc (ka #[Z G 0,Z G 0,Z G 0] 47)) from ⟨(df w _ _).1,(df w _ _).2,ea w _ _⟩);generalize lh iY=t at *;go_enter func99,ntmps99;go_wp2_with fail
  go_step3;go_wp2_with fail
  go_step3;go_wp2_with fail
  generalize (w.alloc _).alloc _=U at *;go_loopw [4,5,6] (fun n o D wr=>∃k:Nat,k<=9/\n=Z G (gT k).1/\o=Z G (gX k).1/\GK w #[Z G (gT k).2.1,Z G (gT k).2.2.1,Z G (gT k).2.2.2] wr) (fun _ i _ _=>12-(intOf i).toNat)
  case atStart=>exact ⟨0,oM,rfl,rfl,a.1⟩
  case round =>
    clear a;obtain ⟨k,d,rfl,rfl,b⟩:=hrel;have a:=qH b;have g:=f.1 k d;have q:=b.box;obtain ⟨j,l,m⟩:=al q;obtain ⟨u,x,y⟩:=fZ q;have c:=b.res;obtain ⟨p,r,s⟩:=al c;obtain ⟨E,F,H⟩:=fZ c;have e:=qH (bf b.bel (km _) (Z G 1) (Z G 1) (Z G 65535));clear b c q;rcases (show k=0\/k=1\/k=2\/k=3\/k=4\/k=5\/k=6\/k=7\/k=8\/k=9 from oM) with rfl|rfl|rfl|rfl|rfl|rfl|rfl|rfl|rfl|rfl;all_goals
      simp only[gT,gX,List.getD_cons_succ,List.getD_cons_zero] at g j l m |-;go_wp2;first
        | (go_roundw
           case rel=>first|exact ⟨1,dD,rfl,rfl,a.1.set 0 (Z G 1)⟩|exact ⟨2,dD,rfl,rfl,a.1⟩|exact ⟨3,dD,rfl,rfl,a.1.set 1 (Z G 1)⟩|exact ⟨4,dD,rfl,rfl,a.1⟩|exact ⟨5,dD,rfl,rfl,a.1.set 2 (Z G 6)⟩|exact ⟨6,dD,rfl,rfl,a.1.set 2 (Z G 65)⟩|exact ⟨7,dD,rfl,rfl,a.1.set 2 (Z G 655)⟩|exact ⟨8,dD,rfl,rfl,a.1.set 2 (Z G 6553)⟩|exact ⟨9,dD,rfl,rfl,a.1.set 2 (Z G 65535)⟩
           case measure=>simp[intOf])
        | (try rw[Exit.noGoto_ret]
           refine bodyPost_ret (v:=.agg #[Z G 1,Z G 1,Z G 65535]) (by simp[results,results99,go_sem,p,r,s]) rfl ⟨rfl,e.1⟩)
def mh:List UInt8:=[1,2,0,1,255,255]
theorem rq:bV 1=[49]:=Lib.decDigits_one dD
theorem BF:eh 1 1 (cw true)=[80,54,10,49,32,49,10,54,53,53,51,53,10]:=by
 rw[eh,rq,show cw true=65535 from rfl,rt];rfl
theorem BH (w:World) (O:dI w):Calls prog 36 #[.string (lh iY)] w (rT w (.tuple #[.agg #[Z G (1:Nat),Z G (1:Nat),Z G (cw true:Nat)],.string (lh mh),.bool true])):=by
 have C:=qH (fun u=>BD u);have s:=qH (fun (u:World) (r:Below w.heap.size w u)=>O.below r (km _));have t:=qH (fun u=>E6 1 1 65535 u);rw[show sD 1 1 65535=true from rfl] at t;have n:=qH (fun (u:World) (r:dI u)=>x8 1 1 (cw true) dD dD dD u r);have m:=qH (fun (u:World)=>Tryz.strings_CutPrefix (lh iY) (lh (eh 1 1 (cw true))) u);rw[BF] at n m;obtain ⟨o,A⟩:=d9 w (ka #[Z G 0,Z G 0,Z G 0] 82);have L:=lS o;generalize K:lh iY=S at *;go_enter func36,ntmps36;go_wp2_with fail
 generalize w.alloc _=U at *;refine (C.1 U).mono ?_;rintro e x ⟨rfl,p⟩;obtain ⟨k,q⟩:=aT p (ka #[Z G 1,Z G 1,Z G 65535] 82);obtain ⟨g,i,j⟩:=al k;have z:=lS k;have E:=qH p.size;clear p;go_wp2_with fail
 clear g i j;generalize x.alloc _=F at *;refine (t.1 F).mono ?_;rintro e H ⟨rfl,c⟩;have a:=((aG q c).block _ L).trans o;have b:=(c.block _ z).trans k;have f:=aG (aG A.1 q) c;clear q c o k z;have y:=s.1 _ f;obtain ⟨g,i,j⟩:=al b;have M:=lS b;have N:=lS a;go_wp2_with fail
 refine (n.1 H y).mono ?_;rintro e I ⟨rfl,d⟩;clear g i j;go_wp2_with fail
 refine (m.1 I).mono ?_;rintro e T ⟨rfl,rfl⟩;replace a:=(d.block _ N).trans a;replace b:=(d.block _ M).trans b;replace f:=aG f d;obtain ⟨g,i,j⟩:=al b;obtain ⟨P,Q,R⟩:=al a;obtain ⟨V,W,X⟩:=fZ a;have Y:x.heap.size≠w.heap.size:=by have:=E.1;omega
 have B:=qH (bf f (km _) (Z G 1) (Z G 1) (Z G 65535));subst K;simp only[bP];have D:=qH (show ∀l:List UInt8,(⟨l.toArray⟩:ByteArray)=lh l from fun _=>rfl);rw[D.1,show Lib.trimPrefix iY [80,54,10,49,32,49,10,54,53,53,51,53,10]=mh from dD,show Lib.hasPrefix iY [80,54,10,49,32,49,10,54,53,53,51,53,10]=true from dD];clear d y n m s;go_wp2;refine bodyPost_ret (v:=.tuple #[.agg #[Z G 1,Z G 1,Z G 65535],.string (lh mh),.bool true]) (by simp[results,results36,go_sem,P,Q,R];rfl) rfl ⟨rfl,B.1⟩
theorem uy (n:Nat) (d:n<10) (w:World):Calls prog 98 #[Z G n] w (rT w (.string (lh (bV n)))):=by
 obtain ⟨c,a⟩:∃c:Nat,c=48+n:=⟨_,rfl⟩;have i:(n:Int).tmod 10=(n:Int):=by rw[Int.tmod_eq_emod_of_nonneg oM];omega
 have j:IntKind.u8.wrap (48+(n:Int))=(c:Int):=by rw[IntKind.wrap_u8];omega
 have b:=qH (show bV n=[UInt8.ofNat c] by rw[bV,Lib.decDigits_one d,a]);have f:=fun (e:World) (g:Nat) (c:Int)=>@sK prog e _ _ _ g c underlying74 underlying5 underlying9;clear a;go_enter func98,ntmps98;go_wp2;go_ret;exact ⟨congrArg (fun l=>Ending.returned (.string (lh l))) b.1.symm,aq _ _⟩
theorem uz (n:Nat) (p:n<100) (w:World):Calls prog 98 #[Z G n] w (rT w (.string (lh (bV n)))):=by
 by_cases b:n<10
 ·exact uy n b w
 obtain ⟨r,j⟩:∃r:Nat,r=n % 10:=⟨_,rfl⟩;obtain ⟨m,i⟩:∃m:Nat,m=n / 10:=⟨_,rfl⟩;obtain ⟨c,f⟩:∃c:Nat,c=48+r:=⟨_,rfl⟩;have x:(n:Int).tmod 10=(r:Int):=by rw[Int.tmod_eq_emod_of_nonneg oM];omega
 have v:IntKind.i64.wrap ((n:Int) / 10)=(m:Int):=by rw[IntKind.wrap_i64];omega
 have a:m<10:=oM;have y:r<10:=oM;have o:=qH (fun u=>uy m a u);have l:=qH (show bV n=bV m++[UInt8.ofNat c] by rw[bV,bV,Lib.decDigits_two b p,Lib.decDigits_one a,f,j,i];rfl);have B:IntKind.u8.wrap (48+(r:Int))=(c:Int):=by rw[IntKind.wrap_u8];omega
 have s:=fun (q:World) (g:Nat) (c:Int)=>@sK prog q _ _ _ g c underlying74 underlying5 underlying9;have t:decide ((n:Int)<10)=false:=sO;have z:(lh (bV m)).size=1:=by rw[bn,bV,Lib.decDigits_one a];rfl
 have A:(lh [UInt8.ofNat c]).size=1:=by rw[bn];rfl
 clear f j i;go_enter func98,ntmps98;go_wp2_with fail
 refine (o.1 _).mono ?_;rintro e w1 ⟨rfl,d⟩;have k:=qH (aG (aq w (ka #[.int .u8 (c:Int)] 5)) d);clear d;go_wp2;go_ret;refine ⟨?_,k.1⟩;rw[l.1,<-lK];rfl
theorem EY (a b:Nat) (l:a<100) (m:b<100) (c:Bool) (w:World):Calls prog 34 #[Z G a,Z G b,.bool c] w (rT w (.string (lh (eh a b (cw c))))):=by
 have o:=qH (fun u=>uz a l u);have p:=qH (fun u=>uz b m u);have k:∀n,n<100->(bV n).length<=2:=fun n r=>by
  by_cases h:n<10
  ·rw[bV,Lib.decDigits_one h];simp
  ·rw[bV,Lib.decDigits_two h r];simp
 have q:=qH (show lh (eh a b (cw c))=((((lh [80,54,10]++lh (bV a))++lh [32])++lh (bV b))++lh [10])++lh (bV (cw c))++lh [10] by
  simp only[lK,eh,zs])
 have y:(lh (bV a)).size<=2:=by rw[bn];exact k a l
 have z:(lh (bV b)).size<=2:=by rw[bn];exact k b m
 have g:Hid (lh (bV (cw c))=if c then ⟨#[54,53,53,51,53]⟩ else ⟨#[50,53,53]⟩):=by
  cases c
  ·exact (congrArg lh rs)
  ·exact (congrArg lh rt)
 clear k l m;generalize lh (bV a)=s at *;generalize lh (bV b)=t at *;generalize lh (bV (cw c))=v at *;generalize lh (eh a b (cw c))=x at *;cases c
 ·have hT:=g.out;simp only[Bool.false_eq_true,if_false] at hT;subst hT;clear g;go_enter func34,ntmps34;go_wp2_with fail
  refine (o.1 _).mono ?_;rintro e w1 ⟨rfl,d⟩;have i:=qH d;clear d;go_wp2_with fail
  refine (p.1 _).mono ?_;rintro e w2 ⟨rfl,f⟩;have j:=qH (aG i.1 f);clear f;go_wp2;go_ret;exact ⟨by rw[q.1];rfl,j.1⟩
 ·have hT:=g.out;simp only[if_true] at hT;subst hT;clear g;go_enter func34,ntmps34;go_wp2_with fail
  refine (o.1 _).mono ?_;rintro e w1 ⟨rfl,d⟩;have i:=qH d;clear d;go_wp2_with fail
  refine (p.1 _).mono ?_;rintro e w2 ⟨rfl,f⟩;have j:=qH (aG i.1 f);clear f;go_wp2;go_ret;exact ⟨by rw[q.1];rfl,j.1⟩
def pK (p:Px) (k:Nat):Int:=if k=0 then p.1 else if k=1 then p.2.1 else p.2.2
def jA (a:Bool) (p:Px) (k:Nat):List UInt8:=(List.range k).flatMap fun j=>eU a (pK p j)
theorem og (a:Bool) (p:Px) (k:Nat):jA a p (k+1)=jA a p k++eU a (pK p k):=by simp[jA,List.range_succ]
theorem Eg (a:Bool) (p:Px):jA a p 3=iw a p:=by
 rw[og,og,og,iw,zs];rfl
theorem wP (a:Bool) (p:Px):∀k,(jA a p k).length<=2*k
 | 0=>by simp[jA]
 | k+1=>by
  have:=wP a p k
  have b:B6 a<=2:=by unfold B6;split<;>omega
  rw[og,zo,ml];omega
theorem ye {x:Int} (a:0<=x):IntKind.u8.wrap x=((u8 x).toNat:Int):=by rw[IntKind.wrap_u8,GM a]
theorem Eb (b:Bool) {x:Int} (d:0<=x):∃a c:UInt8,IntKind.u8.wrap (x / 256)=(a.toNat:Int)/\IntKind.u8.wrap x=(c.toNat:Int)/\eU b x=if b then [a,c] else [a] :=
 ⟨u8 (x / 256),u8 x,ye oM,ye d,rfl⟩
theorem ef.other {w w':World} {base:Nat} {e:TypeId} {v:Value} {l:List UInt8} {k:Nat} {b:Array Value} {t:TypeId} {c:Nat×Nat} (h:ef w base e v l) (f:w.grownBy w' v.ownBlock) (a:w.heap[k]?=some (.cells b t c)) (i:t≠e):w'.heap[k]?=some (.cells b t c):=by
 obtain ⟨g,cap,j,m,rfl,_,d,_⟩:=h;refine (f.block k (lS a) (fun e=>?_)).trans a;simp only[Value.ownBlock,Option.some.injEq] at e;subst e;rw[d] at a;cases a
 exact i rfl
theorem ef.keeps {a w w':World} {base B:Nat} {e:TypeId} {v:Value} {l:List UInt8} (h:ef w base e v l) (c:w.grownBy w' v.ownBlock) (b:Below B a w) (n:B<=base) (f:B<=w.heap.size):Below B a w':=by
 obtain ⟨g,cap,i,j,rfl,m,_⟩:=h;exact b.grown c f (fun k d=>by simp only[Value.ownBlock,Option.some.injEq] at d;omega)
theorem DO (a:Bool) (ps:List Px) (k:Nat) (h:k<ps.length):dX a (ps.take (k+1))=dX a (ps.take k)++iw a ps[k]:=by
 rw[xa h,dX,dX,List.flatMap_append,List.flatMap_cons,List.flatMap_nil,List.append_nil]
theorem FV (W H:Nat) (hW:W<=64) (hH:H<=64) (v:Value) (ps:List Px) (hlen:ps.length=H*W) (hin:∀p∈ps,H9 p.1/\H9 p.2.1/\H9 p.2.2) (d:Bool) (w:World) (hv:ax w v ps) :
  Calls prog 10 #[.agg #[Z G W,Z G H,v],.bool d] w (rT w (.string (lh (d6 W H ps d)))):=by
 obtain ⟨i0,hi,hz0,hz1,hz2⟩:=info_parts Tryz.infoU8;have hlb:ps.length<=4096:=by rw[hlen];exact kG (zO hH hW) dD
 have HV:=qH hv;have HHD:=qH (fun u=>EY W H oM oM d u);have HIN:=qH hin;have HRES:=qH (show d6 W H ps d=eh W H (cw d)++dX d ps by simp[d6]);have hhl:(eh W H (cw d)).length<=40:=rH (a:=W) (b:=H) (c:=cw d) oM oM (by unfold cw;split<;>omega) 3 oM;generalize d6 W H ps d=RES at *;generalize eh W H (cw d)=m at *;clear hlen hin hW hH;obtain ⟨ao,ca,rfl,hla,hc⟩:=hv;clear hc;have a1:=aD w (ka #[Z G W,Z G H,J ao ps.length ca] 24);have n:=qH (aq w (ka #[Z G W,Z G H,J ao ps.length ca] 24));have hl1:=lS a1;obtain ⟨c0,c1,c2⟩:=al a1;go_enter func10,ntmps10;go_wp2_with fail
 clear c0 c1 c2;generalize w.alloc _=U at *;refine (HHD.1 U).mono ?_;rintro e w1 ⟨rfl,hb1⟩;have g1:=(hb1.block _ hl1).trans a1;have T:=lS g1;have K:=qH (aG n.1 hb1);clear hb1 a1 n hl1 HHD;have R:=run_bytes_of_string (P:=prog) w1 9 74 5 (lh m) underlying9 underlying74 underlying5;have Q:=qH (Cs w1 (w.heap.size+1) 5 m oM uO);generalize (ka (bytesRow (lh m) (grownCap w1 (lh m).size 0 5)) 5 ((bytesRow (lh m) (grownCap w1 (lh m).size 0 5)).size,(bytesRow (lh m) (grownCap w1 (lh m).size 0 5)).size+1))=OB at R Q;have HB2:=qH (aG K.1 (vs w1 OB));have B:=((vs w1 OB).block _ T).trans g1;generalize w1.drew.alloc OB=U2 at R Q HB2 B;generalize J (some ⟨w1.heap.size,0,none⟩) (lh m).size (grownCap w1 (lh m).size 0 5)=bv at R Q;clear g1 T K;go_wp2_with fail
 clear R;go_loopw [5,6] (fun b i wr=>∃k:Nat,k<=ps.length/\i=Z G k/\ef wr (w.heap.size+1) 5 b (m++dX d (ps.take k))/\wr.heap[w.heap.size]?=some (.cells #[Z G W,Z G H,J ao ps.length ca] 24 (0,0))/\Below w.heap.size w wr) (fun _ i _=>ps.length-(intOf i).toNat)
 case atStart=>exact ⟨0,xe _,rfl,by simpa [dX] using Q.1,B,HB2.1⟩
 case round =>
  clear B HB2 Q;obtain ⟨k,hk,rfl,t,B,C⟩:=hrel;obtain ⟨c0,c1,c2⟩:=al B;have r:=qH t;have n:=qH C;have T:=lS B;clear t C;by_cases V:k<ps.length
  ·have hd:decide ((k:Int)<(ps.length:Int))=true:=decide_eq_true oM;obtain ⟨bk,off,rfl,hbk,x0,x1,x2⟩:∃b off,ao=some ⟨b,off,none⟩/\b<wr.heap.size/\wr.cell? ⟨b,off+k*3,none⟩=some (Z G ps[k].1)/\wr.cell? ⟨b,off+k*3+1,none⟩=some (Z G ps[k].2.1)/\wr.cell? ⟨b,off+k*3+2,none⟩=some (Z G ps[k].2.2):=by
    obtain ⟨ao',ca',hv',_,h'⟩:=HV.1.below n.1 (km _);cases hv'
    rcases h' with h'|⟨b,off,h1,h2,h3⟩
    ·rw[h'] at V;simp at V
    ·exact ⟨b,off,h1,h2,h3 k V⟩
   have HIK:=qH (HIN.1 _ (zR V));have HTK:=qH (DO d ps k V);have hL0:(m++dX d (ps.take k)).length<=40+6*4096:=by
    have h2:B6 d<=2:=(by unfold B6;split<;>omega);have h3:=yb (3*k) h2;rw[zo,sk,zv,Nat.min_eq_left oM];omega
   obtain ⟨⟨f,g,j⟩,hp⟩:∃p,ps[k]=p:=⟨_,rfl⟩;rw[hp] at x0 x1 x2 HIK HTK;clear hp;simp only at x0 x1 x2;obtain ⟨L0,hL0d⟩:=eX (m++dX d (ps.take k));rw[hL0d] at r hL0;have HTK2:=qH (show m++dX d (ps.take (k+1))=L0++jA d (f,g,j) 3 by rw[HTK.1,<-zs,hL0d,Eg]);clear hL0d HTK;have HPA:=qH (fun u=>qf (f,g,j) u);(go_wp2_with fail);refine (HPA.1 _).mono ?_;rintro e A ⟨rfl,hb3⟩;obtain ⟨F,hb4⟩:=aT hb3 (ka #[Z G f,Z G g,Z G j] 47);have D:=(hb4.block _ T).trans B;have HM3:=qH (r.1.block hb4.block);have HB3:=qH (aG n.1 hb4);clear hb3 hb4 B T r n x0 x1 x2 c0 c1 c2 HPA;(go_wp2_with fail);generalize hU3:A.alloc (ka #[Z G f,Z G g,Z G j] 47)=U3 at *;clear hU3;go_loopw [5,8] (fun b i wr=>∃q:Nat,q<=3/\i=Z G q/\ef wr (w.heap.size+1) 5 b (L0++jA d (f,g,j) q)/\wr.heap[A.heap.size]?=some (.cells #[Z G f,Z G g,Z G j] 47 (0,0))/\wr.heap[w.heap.size]?=some (.cells #[Z G W,Z G H,J (some ⟨bk,off,none⟩) ps.length ca] 24 (0,0))/\Below w.heap.size w wr) (fun _ i _=>3-(intOf i).toNat)
   case atStart=>exact ⟨0,xe _,rfl,by simpa [jA] using HM3.1,F,D,HB3.1⟩
   case round =>
    clear F D HB3 HM3;obtain ⟨q,hq,rfl,t,F,D,C⟩:=hrel;have r:=qH t;have n:=qH C;clear t C;by_cases hq3:q<3
    ·have hdq:decide ((q:Int)<3)=true:=decide_eq_true oM;have hxc:∀u:World,u.heap[A.heap.size]?=some (.cells #[Z G f,Z G g,Z G j] 47 (0,0))->u.cell? ⟨A.heap.size,q,none⟩=some (Z G (pK (f,g,j) q)):=fun u hu=>by
      rw[kf hu];rcases (show q=0\/q=1\/q=2 from oM) with rfl|rfl|rfl<;>rfl
     have hpin:H9 (pK (f,g,j) q):=by
      obtain ⟨h1,h2,h3⟩:=HIK.1;unfold pK;split
      ·exact h1
      ·split<;>assumption
     have HPS:=qH (og d (f,g,j) q);have hpl:=wP d (f,g,j) q;obtain ⟨x,hx⟩:=eX (pK (f,g,j) q);rw[hx] at hxc hpin HPS;clear hx;obtain ⟨hx0,hx1⟩:=hpin;obtain ⟨s,hLQ⟩:=eX (L0++jA d (f,g,j) q);have hLl:s.length<=100000:=(by rw[<-hLQ,zo];omega);rw[hLQ] at r;have HPQ:=qH (show L0++jA d (f,g,j) (q+1)=s++eU d x by rw[HPS.1,<-zs,hLQ]);clear hLQ HPS hpl;obtain ⟨l,y,hu1,hu2,hpr⟩:=Eb d hx0;have Y:=qH hpr;clear hpr;have xc:=hxc _ F;have HX:=qH hxc;clear hxc;have lt1:=lS F;have lg3:=lS D;have hwq:=n.1.size;have O:=qH (r.1.block (aq wr (ka #[.int .u8 (l.toNat:Int)] 5)).block);have t2:=((aq wr (ka #[.int .u8 (l.toNat:Int)] 5)).block _ lt1).trans F;have g4:=((aq wr (ka #[.int .u8 (l.toNat:Int)] 5)).block _ lg3).trans D;have n1:(wr.alloc (ka #[.int .u8 (l.toNat:Int)] 5)).cell? ⟨wr.heap.size,0,none⟩=some (.int .u8 l.toNat):=by
      rw[kf (aD wr (ka #[.int .u8 (l.toNat:Int)] 5))];rfl
     have K:=qH (aG n.1 (aq wr (ka #[.int .u8 (l.toNat:Int)] 5)));have HXX:=qH (show ∀(o:Value) (w2:World),(wr.alloc (ka #[.int .u8 (l.toNat:Int)] 5)).grownBy w2 (Value.ownBlock u5)->w2.heap[A.heap.size]?=some (.cells #[Z G f,Z G g,Z G j] 47 (0,0))/\w2.cell? ⟨A.heap.size,q,none⟩=some (Z G x)/\w2.heap[w.heap.size]?=some (.cells #[Z G W,Z G H,J (some ⟨bk,off,none⟩) ps.length ca] 24 (0,0))/\Below w.heap.size w w2 from fun o w2 E=>by
      have z:=O.1.other E t2 dD;exact ⟨z,HX.1 _ z,O.1.other E g4 dD,O.1.keeps E K.1 (Nat.le_succ _) K.1.size⟩)
     clear F t2 D g4 r n lt1 lg3 K;cases d
     ·rw[if_neg dD] at Y;(go_wp2_with (at_builtin;refine tn _ rfl _ _ 74 rfl (w.heap.size+1) 5 i0 underlying74 hi hz0 hz1 hz2 _ s rfl O.1 wr.heap.size 0 1 l rfl n1 oM sO ?_;intro o w2 X E));obtain ⟨z,_,M,N⟩:=HXX.1 o w2 E;go_roundw
      case rel=>exact ⟨q+1,oM,gN,by rw[HPQ.1,Y.1];exact X,z,M,N⟩
      case measure=>simp[intOf];omega
     ·rw[if_pos rfl] at Y;have HYY:=qH (show ∀(o:Value) (w2:World),ef w2 (w.heap.size+1) 5 o (s++[l])->w2.heap[A.heap.size]?=some (.cells #[Z G f,Z G g,Z G j] 47 (0,0))->w2.heap[w.heap.size]?=some (.cells #[Z G W,Z G H,J (some ⟨bk,off,none⟩) ps.length ca] 24 (0,0))->Below w.heap.size w w2->ef (w2.alloc (ka #[.int .u8 (y.toNat:Int)] 5)) (w.heap.size+1) 5 o (s++[l])/\(w2.alloc (ka #[.int .u8 (y.toNat:Int)] 5)).cell? ⟨w2.heap.size,0,none⟩=some (.int .u8 y.toNat)/\w.heap.size+1<=(w2.alloc (ka #[.int .u8 (y.toNat:Int)] 5)).heap.size/\∀I:World,(w2.alloc (ka #[.int .u8 (y.toNat:Int)] 5)).grownBy I o.ownBlock->I.heap[A.heap.size]?=some (.cells #[Z G f,Z G g,Z G j] 47 (0,0))/\I.heap[w.heap.size]?=some (.cells #[Z G W,Z G H,J (some ⟨bk,off,none⟩) ps.length ca] 24 (0,0))/\Below w.heap.size w I from fun o w2 X z M N=>by
       have hb:=aq w2 (ka #[.int .u8 (y.toNat:Int)] 5);have t2:=(hb.block _ (lS z)).trans z;have g4:=(hb.block _ (lS M)).trans M;have t:=X.block hb.block;have C:=aG N hb;refine ⟨t,?_,by have:=N.size;simp;omega,fun I S=>⟨t.other S t2 dD,t.other S g4 dD,t.keeps S C (Nat.le_succ _) C.size⟩⟩;rw[kf (aD w2 (ka #[.int .u8 (y.toNat:Int)] 5))];rfl)
      have hL2:(s++[l]).length+1<=140737488355328:=(by rw[zo,List.length_singleton];omega);(go_wp2_with (at_builtin;first|(refine tn _ rfl _ _ 74 rfl (w.heap.size+1) 5 i0 underlying74 hi hz0 hz1 hz2 _ s rfl O.1 wr.heap.size 0 1 l rfl n1 oM sO ?_;intro o w2 X E;obtain ⟨z,xc2,M,N⟩:=HXX.1 o w2 E)|(obtain ⟨m2,n2,b2,k2⟩:=HYY.1 o w2 X z M N;refine tn _ rfl _ _ 74 rfl (w.heap.size+1) 5 i0 underlying74 hi hz0 hz1 hz2 _ (s++[l]) rfl m2 w2.heap.size 0 1 y rfl n2 hL2 b2 ?_;intro v3 I hm3 S)));obtain ⟨t4,g6,hB3⟩:=k2 I S;go_roundw
      case rel=>exact ⟨q+1,oM,gN,by rw[HPQ.1,Y.1,show s++[l,y]=s++[l]++[y] from sS];exact hm3,t4,g6,hB3⟩
      case measure=>simp[intOf];omega
    ·obtain rfl:q=3:=oM;have L:=qH r.1;rw[<-HTK2.1] at L;go_wp2;go_roundw
     case rel=>exact ⟨k+1,oM,gN,L.1,D,n.1⟩
     case measure=>simp[intOf];omega
  ·have hd:decide ((k:Int)<(ps.length:Int))=false:=decide_eq_false oM;obtain rfl:k=ps.length:=oM;have L:=qH r.1;rw[ys (km _),<-HRES.1] at L;have R:=Fx (P:=prog) (dst:=9) underlying74 underlying5 underlying9 L.1;clear r L;go_wp2;go_ret;exact ⟨rfl,n.1⟩
theorem wK {W H x y:Nat} (b:x<W) (c:y<H):y*W+x<H*W:=by
 have a:=yb W (show y+1<=H from oM);rw[Nat.add_mul,Nat.one_mul] at a;omega
theorem wE {W H:Nat} {L:List Px} (d:1<=W/\W<=64) (c:1<=H/\H<=64) (a:L.length=H*W) (b:∀q∈L,et q=true):aZ W H L=true:=by
 rw[aZ,zl];refine ⟨?_,zB.2 b⟩;simp only[ew,aM,zl,decide_eq_true_eq];exact ⟨⟨oM,oM⟩,by rw[a,Int.natCast_mul,Int.mul_comm]⟩
theorem us {W H:Int} {ps:List Px} {b c rw a:Int} (h:eB W H ps b c rw a=0):aZ W H ps=true/\∃i HN f g e d:Nat,W=i/\H=HN/\b=f/\c=g/\rw=e/\a=d/\1<=e/\1<=d/\f+e<=i/\g+d<=HN:=by
 unfold eB at h;split at h
 ·rename_i hp;split at h
  ·rename_i hl;have j:((1<=rw/\rw<=W)/\(0<=b/\b<=W-rw))/\((1<=a/\a<=H)/\(0<=c/\c<=H-a)):=(by simpa [gk] using hl);exact ⟨hp,W.toNat,H.toNat,b.toNat,c.toNat,rw.toNat,a.toNat,oM,oM,oM,oM,oM,oM,oM,oM,oM,oM⟩
  ·cases h
 ·cases h
theorem wZ {W H:Nat} {ps:List Px} (f:aZ W H ps=true) {j:Nat} (d:j<H*W):et (aB ps j)=true:=by
 obtain ⟨g,h,b,c⟩:=fC f;have e:ps.length=H*W:=by rw[zc];exact_mod_cast b
 have a:j<ps.length:=by rw[e];exact d
 rw[<-gH ps _ a];exact zB.1 c _ (zR a)
theorem An {W H:Int} {ps:List Px} {e f rw b:Int} (h:eB W H ps e f rw b=0):aZ rw b (gv W.toNat ps e.toNat f.toNat rw.toNat b.toNat)=true:=by
 obtain ⟨d,o,HN,m,n,c,g,rfl,rfl,rfl,rfl,rfl,rfl,i,k,p,r⟩:=us h;obtain ⟨t,u,v,w⟩:=fC d;refine wE ⟨i,oM⟩ ⟨k,oM⟩ (by simp[gv]) fun q l=>?_;obtain ⟨j,a,rfl⟩:=List.mem_map.1 l;have a:=List.mem_range.1 a;simp only[xs] at a |-;have x:=Nat.mod_lt j (show 0<c from oM);have s:j / c<g:=Nat.div_lt_of_lt_mul (by rw[zc];exact a);exact wZ d (wK oM oM)
theorem x9 {W H:Int} {ps:List Px} (d:aZ W H ps=true) (m:Mv):aZ (cG m W H) (cG m H W) (dc W.toNat H.toNat ps m)=true:=by
 obtain ⟨h,i,k,l⟩:=fC d;obtain ⟨a,rfl⟩:=ko (show 0<=W from oM);obtain ⟨HN,rfl⟩:=ko (show 0<=H from oM);rw[lN,lN];have c:(1<=bg m a HN/\bg m a HN<=64)/\(1<=bg m HN a/\bg m HN a<=64):=by
  unfold bg;split<;>omega
 refine wE c.1 c.2 (by simp[dc]) fun q g=>?_;obtain ⟨j,b,rfl⟩:=List.mem_map.1 g;have b:=List.mem_range.1 b;simp only[xs] at b |-;have f:=Nat.mod_lt j (show 0<bg m a HN from oM);have e:j / bg m a HN<bg m HN a:=Nat.div_lt_of_lt_mul (by rw[zc];exact b);obtain ⟨⟨n,o⟩,p,r⟩:=sT m a HN _ _ f e;exact wZ d (wK oM oM)
theorem Ak {W H b c rw a:Int} {ps:List Px} (h:eB W H ps b c rw a=0) (v:Value) (u:World) (s:ax u v ps) (q:lI v) :
  Calls prog 53 #[.agg #[Z G W,Z G H,v],.agg #[Z G b,Z G c,Z G rw,Z G a]] u fun e w'=>∃r,e=.returned (.agg #[Z G rw,Z G a,r])/\ax w' r (gv W.toNat ps b.toNat c.toNat rw.toNat a.toNat)/\Below u.heap.size u w'/\ar u.heap.size r:=by
 obtain ⟨p,j,HN,g,i,f,d,rfl,rfl,rfl,rfl,rfl,rfl,k,l,m,n⟩:=us h;obtain ⟨t,w,o,x⟩:=fC p;exact Al j HN g i f d oM oM k m n l v ps (by rw[zc];exact_mod_cast o) u s q
theorem GH {W H a:Int} {ps:List Px} (h:aZ W H ps=true) (d:jt a=true) (v:Value) (u:World) (i:ax u v ps) :
  Calls prog 54 #[.agg #[Z G W,Z G H,v],Z G a] u fun e w'=>∃r,e=.returned (.agg #[Z G (cG (bt a) W H),Z G (cG (bt a) H W),r])/\ax w' r (dc W.toNat H.toNat ps (bt a))/\Below u.heap.size u w'/\ar u.heap.size r:=by
 obtain ⟨k,l,c,m⟩:=fC h;obtain ⟨j,f,rfl,g⟩:=vA d;obtain ⟨b,rfl⟩:=ko (show 0<=W from oM);obtain ⟨HN,rfl⟩:=ko (show 0<=H from oM);rw[g,lN,lN];exact E0 b HN oM oM v ps (by rw[zc];exact_mod_cast c) j f u i
theorem FU {W H:Int} {ps:List Px} (f:aZ W H ps=true) (a:Bool) (v:Value) (u:World) (h:ax u v ps) :
  Calls prog 10 #[.agg #[Z G W,Z G H,v],.bool a] u (rT u (.string (lh (d6 W H ps a)))):=by
 obtain ⟨i,j,c,d⟩:=fC f;obtain ⟨b,rfl⟩:=ko (show 0<=W from oM);obtain ⟨HN,rfl⟩:=ko (show 0<=H from oM);refine FV b HN oM oM v ps (by rw[zc];exact_mod_cast c) (fun p g=>?_) a u h;obtain ⟨k,e,rfl⟩:=List.mem_iff_getElem.1 g;exact El d k e
end Go.Proofs.YtfjeonehdlphiaaGreatDoor
