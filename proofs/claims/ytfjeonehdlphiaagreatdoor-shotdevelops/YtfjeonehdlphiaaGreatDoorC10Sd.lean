/- Part 10. -/
import Derived.Test.YtfjeonehdlphiaaGreatDoorC2Sd
import Derived.Test.YtfjeonehdlphiaaGreatDoorC9Sd
import Derived.Test.YtfjeonehdlphiaaGreatDoorProg
import Derived.WalkSpells
import Derived.WalkLawsBesides
import Derived.BigQuiet
open Go.Obj renaming cells → ka
open Go.Lib renaming cell_of_heap → kb
open Nat renaming le_refl → kc, lt_of_lt_of_le → kf, zero_le → kv, mul_comm → xc
open Go.RowKit.Below renaming refl → kd, heap_setCell → km, heap_alloc → ko
open List renaming take_succ_eq_append_getElem → kh, getD_eq_getElem?_getD → kw, take_of_length_le → kG, eq_nil_of_length_eq_zero → xa, all_eq_true → yb, getElem_mem → zl
open Bool renaming and_eq_true → xe
open Go.World renaming cell?_of_block → ys, size_alloc → zc
open Go.Value renaming int → Z, slice → J
open Go.IntKind renaming i64 → G
set_option linter.unusedVariables false
set_option maxHeartbeats 1600000
set_option maxRecDepth 100000
namespace Go.Proofs.YtfjeonehdlphiaaGreatDoor
open Go.RowKit
open _root_.Go.Proofs.Tryz
theorem Tryz.infoInt:(prog.info? 3).map (fun i=>(i.zero,i.size,i.bytes))=some (some (Z G 0),1,8):=kR
abbrev rT (w:World) (v:Value) (e:Ending) (w':World):Prop:=e=.returned v/\Below w.heap.size w w'
abbrev rQ (w:World) (v:Value) (e:Ending) (w':World):Prop:=e=.returned v/\w=w'
theorem aG {a b c:World} (h:Below a.heap.size a b) (k:Below b.heap.size b c):Below a.heap.size a c:=h.trans (k.mono h.size)
theorem aq (w:World) (o:Obj):Below w.heap.size w (w.alloc o):=(kd _ _).alloc (kc _) o
theorem jk (w:World):Below w.heap.size w w.drew:=(kd _ _).drew
def ap (w:World) (v:Value) (xs:List Int):Prop :=
 ∃a cap,v=J a xs.length cap/\xs.length<=9223372036854775807/\(xs=[]\/∃b off,a=some ⟨b,off,none⟩/\b<w.heap.size/\∀j (h:j<xs.length),w.cell? ⟨b,off+j,none⟩=some (Z G xs[j]))
theorem ap.below {w w':World} {v:Value} {xs:List Int} {B:Nat} (h:ap w v xs) (a:Below B w w') (e:w.heap.size<=B):ap w' v xs:=by
 obtain ⟨d,cap,l,k,h⟩:=h;refine ⟨d,cap,l,k,?_⟩;rcases h with h|⟨b,off,f,c,g⟩
 ·exact .inl h
 ·exact .inr ⟨b,off,f,kf c a.size,fun j i=>by rw[a.cell (p:=⟨b,off+j,none⟩) (by exact kf c e)];exact g j i⟩
theorem ap.alloc {w:World} {v:Value} {xs:List Int} (h:ap w v xs) (o:Obj):ap (w.alloc o) v xs :=
 h.below ((kd _ _).alloc (kc _) o) (kc _)
theorem ap.nil (w:World):ap w (J none 0 0) []:=⟨none,0,rfl,sS,.inl rfl⟩
theorem ap.own {w:World} {base:Nat} {v:Value} {xs:List Int} (h:w.ownsRow base 3 1 v xs.length (xs.map (Z .i64))) (b:xs.length<=9223372036854775807):ap w v xs:=by
 rcases h.2 with ⟨a,c⟩|⟨g,cap,f,a,_,d,_⟩
 ·exact ⟨none,0,by rw[a,c],b,.inl (xa c)⟩
 ·refine ⟨_,cap,a,b,.inr ⟨g,0,rfl,(lS d),fun j e=>?_⟩⟩;subst a;rw[Nat.zero_add,h.cellAt j oM];simp[e]
def lI:Value->Prop
 | J _ n c=>n<=c
 | _=>True
def ar (B:Nat) (v:Value):Prop:=(∀b,v.ownBlock=some b->B<=b)/\lI v
theorem ar.mono {B a:Nat} {v:Value} (h:ar B v) (c:a<=B):ar a v:=⟨fun b e=>Nat.le_trans c (h.1 b e),h.2⟩
theorem ar.nil (B:Nat):ar B (J none 0 0):=⟨fun b e=>(by cases e),kc _⟩
theorem ar.own {w:World} {base:Nat} {e:TypeId} {d:Nat} {v:Value} {n:Nat} {xs:List Value} (h:w.ownsRow base e d v n xs):ar base v:=by
 refine ⟨fun b a=>(h.lt b a).1,?_⟩;rcases h.2 with ⟨rfl,_⟩|⟨g,cap,f,rfl,_,_,c,_⟩
 ·exact kc _
 ·exact c
theorem ap.other {w w':World} {v:Value} {xs:List Int} {k:Nat} (h:ap w v xs) (o:w.heap.size<=w'.heap.size) (i:∀b,b≠k->w'.heap[b]?=w.heap[b]?) (n:v.ownBlock≠some k):ap w' v xs:=by
 obtain ⟨c,cap,rfl,l,h⟩:=h;refine ⟨c,cap,rfl,l,?_⟩;rcases h with h|⟨b,off,rfl,m,f⟩
 ·exact .inl h
 ·have d:b≠k:=fun e=>n (by rw[e];rfl);exact .inr ⟨b,off,rfl,kf m o,fun j g=>(ys (a:=⟨b,off+j,none⟩) (i b d)).trans (f j g)⟩
theorem cT {w w':World} {base:Nat} {e:TypeId} {size:Nat} {v:Value} {n:Nat} {xs:List Value} (h:w.ownsRow base e size v n xs) (c:Below w.heap.size w w'):w'.ownsRow base e size v n xs:=by
 refine ⟨h.1,?_⟩;rcases h.2 with h|⟨g,cap,b,f,d,a,r⟩
 ·exact .inl h
 ·exact .inr ⟨g,cap,b,f,d,by rw[c.block g (lS a)];exact a,r⟩
theorem aI (n a b:Int) (w:World) :
  Calls prog 33 #[Z G n,Z G a,Z G b] w (rQ w (.bool (decide (a<=n/\n<=b)))):=by
 by_cases c:a<=n;all_goals by_cases d:n<=b
 all_goals
  go_enter func33,ntmps33;go_wp2;go_ret;exact ⟨be (by simp[c,d]),rfl⟩
theorem wd {w:World} {base:Nat} {e:TypeId} {v:Value} {n:Nat} {xs:List Value} (h:w.ownsRow base e 1 v n xs):∃b cap,v=J b n cap:=by
 rcases h.2 with ⟨a,c⟩|⟨g,cap,d,a,_⟩
 ·exact ⟨none,0,by rw[a,c]⟩
 ·exact ⟨_,cap,a⟩
theorem nf {W X Y:Nat} (h:X<W):(Y*W+X) % W=X/\(Y*W+X) / W=Y:=by
 constructor
 ·rw[xc,Nat.mul_add_mod,Nat.mod_eq_of_lt h]
 ·rw[xc,Nat.mul_add_div oM,Nat.div_eq_of_lt h,Nat.add_zero]
def az (a b:Int) (xs:List Int):Bool:=xs.all fun n=>decide (a<=n/\n<=b)
theorem tK (a b:Int) (xs:List Int) (x:Int):az a b (xs++[x])=(az a b xs && decide (a<=x/\x<=b)):=by simp[az]
theorem qK (a b:Int) (xs:List Int) (k:Nat) (d:k<xs.length) (h:¬(a<=xs[k]/\xs[k]<=b)):az a b xs=false:=by
 rw[Bool.eq_false_iff];intro c;have:=yb.1 c _ (zl d);exact h (by simpa using this)
theorem cF (a b:Int) (v:Value) (xs:List Int) (w:World) (s:ap w v xs) :
  Calls prog 95 #[Z G a,Z G b,v] w (rQ w (.bool (az a b xs))):=by
 obtain ⟨q,ca,rfl,z,f⟩:=s;by_cases e:xs=[]
 ·subst e;clear f;go_enter func95,ntmps95;go_wp2;go_loop [11] (fun i=>i=Z G 0) (fun _=>0)
  case atStart=>rfl
  case round =>
   subst hrel;go_wp2;go_ret;exact ⟨rfl,rfl⟩
 ·obtain ⟨t,off,r,x,l⟩:∃b off,q=some ⟨b,off,none⟩/\b<w.heap.size/\∀j (h:j<xs.length),w.cell? ⟨b,off+j,none⟩=some (Z G xs[j]):=by
   rcases f with h|h
   ·exact absurd h e
   ·exact h
  subst r;have o:=qH l;clear l f e;go_enter func95,ntmps95;go_wp2;go_loop [11] (fun i=>∃k:Nat,k<=xs.length/\i=Z G k/\Hid (az a b (xs.take k)=true)) (fun i=>xs.length-(intOf i).toNat)
  case atStart=>exact ⟨0,kv _,rfl,rfl⟩
  case round =>
   obtain ⟨k,y,rfl,g⟩:=hrel;by_cases d:k<xs.length
   ·have u:=o.1 k d;by_cases m:a<=xs[k]
    ·by_cases n:xs[k]<=b
     ·have p:=au (show az a b (xs.take (k+1))=true by rw[kh d,tK,g.out];simp[m,n]);go_wp2;go_round
      case rel=>exact ⟨k+1,oM,gN,p⟩
      case measure=>simp[intOf];omega
     ·have c:=qH (qK a b xs k d (fun h=>n h.2));go_wp2;go_ret;exact ⟨be c.1.symm,rfl⟩
    ·have c:=qH (qK a b xs k d (fun h=>m h.1));go_wp2;go_ret;exact ⟨be c.1.symm,rfl⟩
   ·have c:=qH (show true=az a b xs by rw[<-g.out,kG oM]);go_wp2;go_ret;exact ⟨be c.1,rfl⟩
theorem dA (w:World) (n:Int):ap (w.alloc (.cells #[Z G n] 3)) (J (some ⟨w.heap.size,0,none⟩) 1 1) [n] :=
 ap.own (base:=w.heap.size) (World.ownsRow_lit w #[Z G n] 1 (kc _) dD sS) sS
theorem fP (n:Int) (w:World):Calls prog 116 #[Z G n] w (rT w (.bool (aM n))):=by
 have a:=qH (show az 1 64 [n]=aM n by simp[az,aM]);go_enter func116,ntmps116;go_wp2_with fail
 refine (cF 1 64 _ [n] _ (dA w n)).mono ?_;rintro e w1 ⟨rfl,rfl⟩;rw[a.1];go_wp2;go_ret;exact ⟨rfl,aq _ _⟩
def ew (W H m:Int):Bool:=aM W && aM H && decide (m=W*H)
theorem qu (W H m:Int) (w:World):Calls prog 94 #[Z G W,Z G H,Z G m] w (rT w (.bool (ew W H m))):=by
 by_cases a:aM W=true
 ·by_cases b:aM H=true
  ·have c:=qH (show decide (m=W*H)=ew W H m by rw[ew,a,b];rfl);have j:1<=W/\W<=64:=(by simpa [aM] using a);have k:1<=H/\H<=64:=(by simpa [aM] using b);obtain ⟨l,n⟩:=fq j k;obtain ⟨M,g⟩:=eX (W*H);have i:=qH (show (m == M)=decide (m=W*H) by rw[g];rfl);rw[g] at l n;go_enter func94,ntmps94;(go_wp2_with fail);refine (fP _ _).mono ?_;rintro e w1 ⟨rfl,d⟩;rw[a];(go_wp2_with fail);refine (fP _ _).mono ?_;rintro e w2 ⟨rfl,f⟩;rw[b];go_wp2;go_ret;exact ⟨be (i.1.trans c.1),aG d f⟩
  ·have b:aM H=false:=(by simpa using b);have c:=qH (show false=ew W H m by rw[ew,a,b];rfl);go_enter func94,ntmps94;(go_wp2_with fail);refine (fP _ _).mono ?_;rintro e w1 ⟨rfl,d⟩;rw[a];(go_wp2_with fail);refine (fP _ _).mono ?_;rintro e w2 ⟨rfl,f⟩;rw[b];go_wp2;go_ret;exact ⟨be c.1,aG d f⟩
 ·have a:aM W=false:=by simpa using a
  have c:=qH (show false=ew W H m by rw[ew,a];rfl);go_enter func94,ntmps94;go_wp2_with fail
  refine (fP _ _).mono ?_;rintro e w1 ⟨rfl,d⟩;rw[a];go_wp2;go_ret;exact ⟨be c.1,d⟩
theorem nh (W H:Int) (zs:List Int):a7 W H zs=(ew W H zs.length && az 0 65535 zs):=by
 rw[a7,ew];rfl
theorem kI {w w':World} {a b c:Value} {t:TypeId} (d:Below (w.alloc (.cells #[a,b,c] t)).heap.size (w.alloc (.cells #[a,b,c] t)) w') :
  w'.cell? ⟨w.heap.size,0,none⟩=some a/\w'.cell? ⟨w.heap.size,1,none⟩=some b/\w'.cell? ⟨w.heap.size,2,none⟩=some c:=by
 refine ⟨?_,?_,?_⟩
 ·rw[d.cell (p:=⟨w.heap.size,0,none⟩) sS,kb (heap_alloc_new w _)];rfl
 ·rw[d.cell (p:=⟨w.heap.size,1,none⟩) sS,kb (heap_alloc_new w _)];rfl
 ·rw[d.cell (p:=⟨w.heap.size,2,none⟩) sS,kb (heap_alloc_new w _)];rfl
theorem ki (W H:Int) (v:Value) (zs:List Int) (w:World) (d:ap w v zs) :
  Calls prog 65 #[.agg #[Z G W,Z G H,v]] w (rT w (.bool (a7 W H zs))):=by
 have f:=qH d;obtain ⟨g,ca,rfl,j,_⟩:=d;by_cases a:ew W H zs.length=true
 ·have c:=qH (show az 0 65535 zs=a7 W H zs by rw[nh,a];rfl);go_enter func65,ntmps65;go_wp2_with fail
  refine (qu _ _ _ _).mono ?_;rintro e w1 ⟨rfl,b⟩;rw[a];have i:=(kI b).2.2;go_wp2_with fail
  refine (cF _ _ _ zs _ ((f.1.alloc _).below b (kc _))).mono ?_;rintro e w2 ⟨rfl,rfl⟩;rw[c.1];go_wp2;go_ret;exact ⟨rfl,aG (aq _ _) b⟩
 ·have a:ew W H zs.length=false:=by simpa using a
  have c:=qH (show false=a7 W H zs by rw[nh,a];rfl);go_enter func65,ntmps65;go_wp2_with fail
  refine (qu _ _ _ _).mono ?_;rintro e w1 ⟨rfl,b⟩;rw[a];go_wp2;go_ret;exact ⟨be c.1,aG (aq _ _) b⟩
theorem ym (n a b:Int) (w:World) :
  Calls prog 33 #[Z G n,Z G a,Z G b] w fun e w'=>e=.returned (.bool (decide (a<=n/\n<=b)))/\w'=w :=
 (aI n a b w).mono fun _ _ h=>⟨h.1,h.2.symm⟩
theorem ql (W H:Int) (v:Value) (zs:List Int) (w:World) (O:ap w v zs) :
  Calls prog 26 #[.agg #[Z G W,Z G H,v]] w (rT w (.bool (a7 W H zs))):=by
 obtain ⟨E,ca,rfl,V,l⟩:=O;have z:∀n:Int,decide (1<=n/\n<=64)=aM n:=fun n=>rfl;have f:=qH z;clear z;by_cases a:aM W=true
 ·by_cases c:aM H=true
  ·have u:1<=W/\W<=64:=(by simpa [aM] using a);have x:1<=H/\H<=64:=(by simpa [aM] using c);obtain ⟨F,I⟩:=fq u x;obtain ⟨M,p⟩:=eX (W*H);rw[p] at F I;by_cases o:(zs.length:Int)=M
   ·have s:=qH (show a7 W H zs=fo zs by rw[a7,a,c,p,o];simp);have N:((zs.length:Int) != M)=false:=(by simpa using o);obtain ⟨g,off,K,L,y⟩:∃b off,E=some ⟨b,off,none⟩/\b<w.heap.size/\∀j (h:j<zs.length),w.cell? ⟨b,off+j,none⟩=some (Z G zs[j]):=by
     rcases l with h|h
     ·subst h;simp at o;omega
     ·exact h
    subst K;have B:=qH (show ∀j (h:j<zs.length),(w.alloc (ka #[Z G W,Z G H,J (some ⟨g,off,none⟩) zs.length ca] 54)).cell? ⟨g,off+j,none⟩=some (Z G zs[j]) from fun j h=>by
     rw[ys (w:=w) (ko w _ g L)];exact y j h)
    clear y l;have r:=qH (aq w (ka #[Z G W,Z G H,J (some ⟨g,off,none⟩) zs.length ca] 54));obtain ⟨R,S,T⟩:=kI (kd (w.alloc (ka #[Z G W,Z G H,J (some ⟨g,off,none⟩) zs.length ca] 54)).heap.size _);go_enter func26,ntmps26;(go_wp2_with fail);generalize w.alloc _=D at *;refine (aI _ _ _ _).mono ?_;rintro e w1 ⟨rfl,rfl⟩;rw[f.1,a];(go_wp2_with fail);refine (aI _ _ _ _).mono ?_;rintro e w1 ⟨rfl,rfl⟩;rw[f.1,c];go_wp2;clear a c u x;go_loopw [3] (fun i wr=>∃k:Nat,k<=zs.length/\i=Z G k/\Hid (fo (zs.take k)=true)/\(∃n,wr=D.drewN n)) (fun i _=>zs.length-(intOf i).toNat)
    case atStart=>exact ⟨0,kv _,rfl,rfl,0,rfl⟩
    case round =>
     obtain ⟨k,U,rfl,t,P,rfl⟩:=hrel;by_cases q:k<zs.length
     ·have Q:=B.1 k q;by_cases A:0<=zs[k]/\zs[k]<=65535
      ·have m:decide (0<=zs[k]/\zs[k]<=65535)=true:=(by simpa using A);have C:=au (show fo (zs.take (k+1))=true by rw[kh q,xE,t.out];exact m);(go_wp2_with (go_at_call 33;refine (aI _ _ _ _).mono ?_;rintro e w1 ⟨rfl,rfl⟩;rw[m]));go_roundw
       case rel=>exact ⟨k+1,oM,gN,C,P,rfl⟩
       case measure=>simp[intOf];omega
      ·have m:decide (0<=zs[k]/\zs[k]<=65535)=false:=(by simpa using A);have d:=qH (show false=a7 W H zs by rw[s.1,FD zs k q m]);(go_wp2_with (go_at_call 33;refine (aI _ _ _ _).mono ?_;rintro e w1 ⟨rfl,rfl⟩;rw[m]));go_ret;exact ⟨be d.1,below_drewN r.1 _⟩
     ·have d:=qH (show true=a7 W H zs by rw[s.1,<-t.out,kG oM]);go_wp2;go_ret;exact ⟨be d.1,below_drewN r.1 _⟩
   ·have d:=qH (show false=a7 W H zs by rw[a7,a,c,p];simp[o]);have N:((zs.length:Int) != M)=true:=(by simpa using o);clear l;go_enter func26,ntmps26;(go_wp2_with fail);refine (aI _ _ _ _).mono ?_;rintro e w1 ⟨rfl,rfl⟩;rw[f.1,a];(go_wp2_with fail);refine (aI _ _ _ _).mono ?_;rintro e w1 ⟨rfl,rfl⟩;rw[f.1,c];go_wp2;go_ret;exact ⟨be d.1,aq _ _⟩
  ·have c:aM H=false:=(by simpa using c);have d:=qH (show false=a7 W H zs by rw[a7,a,c];rfl);clear l;go_enter func26,ntmps26;(go_wp2_with fail);refine (aI _ _ _ _).mono ?_;rintro e w1 ⟨rfl,rfl⟩;rw[f.1,a];(go_wp2_with fail);refine (aI _ _ _ _).mono ?_;rintro e w1 ⟨rfl,rfl⟩;rw[f.1,c];go_wp2;go_ret;exact ⟨be d.1,aq _ _⟩
 ·have a:aM W=false:=by simpa using a
  have d:=qH (show false=a7 W H zs by rw[a7,a];rfl);clear l;go_enter func26,ntmps26;go_wp2_with fail
  refine (aI _ _ _ _).mono ?_;rintro e w1 ⟨rfl,rfl⟩;rw[f.1,a];go_wp2;go_ret;exact ⟨be d.1,aq _ _⟩
theorem aD (w:World) (a:Obj):(w.alloc a).heap[w.heap.size]?=some a:=heap_alloc_new w a
theorem df (w:World) (a b:Obj):((w.alloc a).alloc b).heap[w.heap.size]?=some a/\((w.alloc a).alloc b).heap[w.heap.size+1]?=some b:=by
 refine ⟨(ko _ _ _ (by simp only[zc];omega)).trans (aD w a),?_⟩;have h:=aD (w.alloc a) b;rw[zc] at h;exact h
theorem iG (w:World) (a b c:Obj):(((w.alloc a).alloc b).alloc c).heap[w.heap.size]?=some a/\(((w.alloc a).alloc b).alloc c).heap[w.heap.size+1]?=some b/\(((w.alloc a).alloc b).alloc c).heap[w.heap.size+2]?=some c:=by
 obtain ⟨d,e⟩:=df w a b;refine ⟨(ko _ _ _ (by simp only[zc];omega)).trans d,(ko _ _ _ (by simp only[zc];omega)).trans e,?_⟩;have h:=aD ((w.alloc a).alloc b) c;rw[zc,zc] at h;exact h
theorem kU (w:World) (a b c d:Obj):((((w.alloc a).alloc b).alloc c).alloc d).heap[w.heap.size]?=some a/\((((w.alloc a).alloc b).alloc c).alloc d).heap[w.heap.size+1]?=some b/\((((w.alloc a).alloc b).alloc c).alloc d).heap[w.heap.size+2]?=some c/\((((w.alloc a).alloc b).alloc c).alloc d).heap[w.heap.size+3]?=some d:=by
 obtain ⟨e,f,g⟩:=iG w a b c;refine ⟨(ko _ _ _ (by simp only[zc];omega)).trans e,(ko _ _ _ (by simp only[zc];omega)).trans f,(ko _ _ _ (by simp only[zc];omega)).trans g,?_⟩;have h:=aD (((w.alloc a).alloc b).alloc c) d;rw[zc,zc,zc] at h;exact h
theorem ea (w:World) (a b:Obj):Below w.heap.size w ((w.alloc a).alloc b):=aG (aq _ _) (aq _ _)
theorem jP (w:World) (a b c:Obj):Below w.heap.size w (((w.alloc a).alloc b).alloc c):=aG (ea _ _ _) (aq _ _)
theorem qO (w:World) (a b c d:Obj):Below w.heap.size w ((((w.alloc a).alloc b).alloc c).alloc d):=aG (jP _ _ _ _) (aq _ _)
theorem lV (w:World) (a:Obj):(w.alloc a).heap[w.heap.size]?=some a/\Below w.heap.size w (w.alloc a):=⟨(aD w a),aq w a⟩
theorem d9 (w:World) (a:Obj):(w.alloc a).heap[w.heap.size]?=some a/\Hd (Below w.heap.size w (w.alloc a)):=⟨(aD w a),qH (aq w a)⟩
theorem qJ (w:World) (a b:Obj):((w.alloc a).alloc b).heap[w.heap.size]?=some a/\((w.alloc a).alloc b).heap[w.heap.size+1]?=some b/\Below w.heap.size w ((w.alloc a).alloc b):=⟨(df w a b).1,(df w a b).2,ea w a b⟩
theorem gr (w:World) (a b:Obj):((w.alloc a).alloc b).heap[w.heap.size]?=some a/\((w.alloc a).alloc b).heap[w.heap.size+1]?=some b/\Hd (Below w.heap.size w ((w.alloc a).alloc b)):=⟨(df w a b).1,(df w a b).2,qH (ea w a b)⟩
theorem ku (w:World) (a b c:Obj):(((w.alloc a).alloc b).alloc c).heap[w.heap.size]?=some a/\(((w.alloc a).alloc b).alloc c).heap[w.heap.size+1]?=some b/\(((w.alloc a).alloc b).alloc c).heap[w.heap.size+2]?=some c/\Below w.heap.size w (((w.alloc a).alloc b).alloc c):=⟨(iG w a b c).1,(iG w a b c).2.1,(iG w a b c).2.2,jP w a b c⟩
theorem ji (w:World) (a b c:Obj):(((w.alloc a).alloc b).alloc c).heap[w.heap.size]?=some a/\(((w.alloc a).alloc b).alloc c).heap[w.heap.size+1]?=some b/\(((w.alloc a).alloc b).alloc c).heap[w.heap.size+2]?=some c/\Hd (Below w.heap.size w (((w.alloc a).alloc b).alloc c)):=⟨(iG w a b c).1,(iG w a b c).2.1,(iG w a b c).2.2,qH (jP w a b c)⟩
theorem jM (w:World) (a b c d:Obj):((((w.alloc a).alloc b).alloc c).alloc d).heap[w.heap.size]?=some a/\((((w.alloc a).alloc b).alloc c).alloc d).heap[w.heap.size+1]?=some b/\((((w.alloc a).alloc b).alloc c).alloc d).heap[w.heap.size+2]?=some c/\((((w.alloc a).alloc b).alloc c).alloc d).heap[w.heap.size+3]?=some d/\Below w.heap.size w ((((w.alloc a).alloc b).alloc c).alloc d):=⟨(kU w a b c d).1,(kU w a b c d).2.1,(kU w a b c d).2.2.1,(kU w a b c d).2.2.2,qO w a b c d⟩
theorem tG (w:World) (a b c d:Obj):((((w.alloc a).alloc b).alloc c).alloc d).heap[w.heap.size]?=some a/\((((w.alloc a).alloc b).alloc c).alloc d).heap[w.heap.size+1]?=some b/\((((w.alloc a).alloc b).alloc c).alloc d).heap[w.heap.size+2]?=some c/\((((w.alloc a).alloc b).alloc c).alloc d).heap[w.heap.size+3]?=some d/\Hd (Below w.heap.size w ((((w.alloc a).alloc b).alloc c).alloc d)):=⟨(kU w a b c d).1,(kU w a b c d).2.1,(kU w a b c d).2.2.1,(kU w a b c d).2.2.2,qH (qO w a b c d)⟩
theorem aT {a b:World} (h:Below a.heap.size a b) (o:Obj):(b.alloc o).heap[b.heap.size]?=some o/\Below a.heap.size a (b.alloc o):=⟨aD b o,aG h (aq b o)⟩
theorem gK (w:World) (b:Nat) (x y z:Value):w.heap.size<=(((w.setCell ⟨b,0,none⟩ x).setCell ⟨b,1,none⟩ y).setCell ⟨b,2,none⟩ z).heap.size:=by simp[World.setCell]
theorem eL (w:World) (b:Nat) (x y z:Value) (k:Nat) (h:k≠b):(((w.setCell ⟨b,0,none⟩ x).setCell ⟨b,1,none⟩ y).setCell ⟨b,2,none⟩ z).heap[k]?=w.heap[k]?:=by
 rw[km _ _ _ _ h,km _ _ _ _ h,km _ _ _ _ h]
theorem ar.ne {B k:Nat} {v:Value} (h:ar B v) (a:k<B):v.ownBlock≠some k:=fun e=>by have:=h.1 k e;omega
theorem ap.set3 {w:World} {v:Value} {xs:List Int} {B k:Nat} (h:ap w v xs) (c:ar B v) (d:k<B) (x y z:Value):ap (((w.setCell ⟨k,0,none⟩ x).setCell ⟨k,1,none⟩ y).setCell ⟨k,2,none⟩ z) v xs :=
 h.other (gK _ _ _ _ _) (fun b a=>eL _ _ _ _ _ b a) (c.ne d)
theorem bf {B b:Nat} {w U:World} (h:Below B w U) (a:B<=b) (x y z:Value):Below B w (((U.setCell ⟨b,0,none⟩ x).setCell ⟨b,1,none⟩ y).setCell ⟨b,2,none⟩ z) :=
 ((h.setCell (p:=⟨b,0,none⟩) a _).setCell (p:=⟨b,1,none⟩) a _).setCell (p:=⟨b,2,none⟩) a _
theorem eK {w:World} {b:Nat} (x y z:Value) {a:Addr} (h:a.block≠b):(((w.setCell ⟨b,0,none⟩ x).setCell ⟨b,1,none⟩ y).setCell ⟨b,2,none⟩ z).cell? a=w.cell? a:=by
 refine ys ?_;rw[km _ _ _ _ h,km _ _ _ _ h,km _ _ _ _ h]
theorem al {w:World} {b:Nat} {x y z:Value} {t:TypeId} {a:Nat×Nat} (h:w.heap[b]?=some (.cells #[x,y,z] t a)) :
  w.cell? ⟨b,0,none⟩=some x/\w.cell? ⟨b,1,none⟩=some y/\w.cell? ⟨b,2,none⟩=some z :=
 ⟨kb h _,kb h _,kb h _⟩
def aX (e W:Int):Int:=if e=0 then W else 0
def cO {α:Type} (e:Int) (l:List α):List α:=if e=0 then l else []
def aN (zs:List Int) (j:Nat):Int:=zs.getD j 0
theorem tu (zs:List Int) (i:Nat) (h:i<zs.length):zs[i]=aN zs i:=by simp[aN,kw,List.getElem?_eq_getElem h]
theorem jK {zs:List Int} (h:az 0 65535 zs=true) (j:Nat):0<=aN zs j/\aN zs j<=65535:=by
 by_cases a:j<zs.length
 ·rw[<-tu zs j a];simpa using yb.1 h _ (zl a)
 ·rw[aN,kw,List.getElem?_eq_none oM];decide
theorem jz {W H:Int} {zs:List Int} (h:a7 W H zs=true):az 0 65535 zs=true:=by
 rw[nh,xe] at h;exact h.2
theorem ap.cells {w:World} {v:Value} {zs:List Int} (h:ap w v zs) (f:1<=zs.length):∃a off ca,v=J (some ⟨a,off,none⟩) zs.length ca/\a<w.heap.size/\∀j,j<zs.length->w.cell? ⟨a,off+j,none⟩=some (Z G (aN zs j)):=by
 obtain ⟨g,ca,rfl,_,h⟩:=h;rcases h with h|⟨b,off,rfl,e,d⟩
 ·subst h;simp at f
 ·exact ⟨b,off,ca,rfl,e,fun j c=>by rw[d j c,tu zs j c]⟩
theorem jQ {w:World} {b:Nat} {x:Value} {t:TypeId} {a:Nat×Nat} (h:w.heap[b]?=some (.cells #[x] t a)):w.cell? ⟨b,0,none⟩=some x:=kb h _
theorem bL {w:World} {b:Nat} {x y:Value} {t:TypeId} {a:Nat×Nat} (h:w.heap[b]?=some (.cells #[x,y] t a)):w.cell? ⟨b,0,none⟩=some x/\w.cell? ⟨b,1,none⟩=some y:=⟨kb h _,kb h _⟩
abbrev Px:=Int×Int×Int
def ib:Value:=.agg #[Z G 0,Z G 0,Z G 0]
abbrev dj (t:Px):Value:=.agg #[Z G t.1,Z G t.2.1,Z G t.2.2]
abbrev mj (t:Px):Array Value:=#[Z G t.1,Z G t.2.1,Z G t.2.2]
def aR (t:Px):List Value:=[Z G t.1,Z G t.2.1,Z G t.2.2]
theorem Tryz.infoPixel:(prog.info? 61).map (fun i=>(i.zero,i.size,i.bytes))=some (some ib,3,24):=kR
def ax (w:World) (v:Value) (ps:List Px):Prop :=
 ∃a cap,v=J a ps.length cap/\ps.length<=9223372036854775807/\(ps=[]\/∃b off,a=some ⟨b,off,none⟩/\b<w.heap.size/\∀j (h:j<ps.length),
  w.cell? ⟨b,off+j*3,none⟩=some (Z G ps[j].1)/\w.cell? ⟨b,off+j*3+1,none⟩=some (Z G ps[j].2.1)/\w.cell? ⟨b,off+j*3+2,none⟩=some (Z G ps[j].2.2))
theorem ax.below {w w':World} {v:Value} {ps:List Px} {B:Nat} (h:ax w v ps) (a:Below B w w') (d:w.heap.size<=B):ax w' v ps:=by
 obtain ⟨e,cap,l,k,h⟩:=h;refine ⟨e,cap,l,k,?_⟩;rcases h with h|⟨b,off,f,c,g⟩
 ·exact .inl h
 ·refine .inr ⟨b,off,f,kf c a.size,fun j i=>?_⟩;rw[a.cell (p:=⟨b,off+j*3,none⟩) (by exact kf c d),a.cell (p:=⟨b,off+j*3+1,none⟩) (by exact kf c d),a.cell (p:=⟨b,off+j*3+2,none⟩) (by exact kf c d)];exact g j i
theorem ax.alloc {w:World} {v:Value} {ps:List Px} (h:ax w v ps) (o:Obj):ax (w.alloc o) v ps :=
 h.below ((kd _ _).alloc (kc _) o) (kc _)
theorem ax.nil (w:World):ax w (J none 0 0) []:=⟨none,0,rfl,sS,.inl rfl⟩
theorem nS (ps:List Px):(ps.flatMap aR).length=ps.length*3:=by
 induction ps with
 | nil=>rfl
 | cons p ps ih=>rw[List.flatMap_cons,List.length_append,ih,List.length_cons];simp[aR];omega
theorem pj (ps:List Px) (j:Nat) (h:j<ps.length) :
  (ps.flatMap aR)[j*3]?=some (Z G ps[j].1)/\(ps.flatMap aR)[j*3+1]?=some (Z G ps[j].2.1)/\(ps.flatMap aR)[j*3+2]?=some (Z G ps[j].2.2):=by
 induction ps generalizing j with
 | nil=>simp at h
 | cons p ps ih =>
  cases j with
  | zero=>simp[aR,List.flatMap_cons]
  | succ j =>
   have a:j<ps.length:=(by simpa using h);have:=ih j a;rw[List.flatMap_cons,show (j+1)*3=j*3+3 from oM];simp only[aR,List.cons_append,List.nil_append,List.getElem?_cons_succ,List.getElem_cons_succ];exact this
theorem ax.own {w:World} {base:Nat} {v:Value} {ps:List Px} (h:w.ownsRow base 61 3 v ps.length (ps.flatMap aR)) (k:ps.length<=9223372036854775807):ax w v ps:=by
 rcases h.2 with ⟨d,l⟩|⟨g,cap,n,d,_,f,r,s,t,o⟩
 ·exact ⟨none,0,by rw[d,l],k,.inl (xa l)⟩
 ·refine ⟨_,cap,d,k,.inr ⟨g,0,rfl,(lS f),fun j q=>?_⟩⟩;have e:∀i u,i<ps.length*3->(ps.flatMap aR)[i]?=some u->w.cell? ⟨g,0+i,none⟩=some u:=fun i u p m=>by
   rw[Nat.zero_add,cell_of_row w g i n _ _ f];rw[<-o,List.getElem?_take_of_lt p] at m;simpa using m
  obtain ⟨a,b,c⟩:=pj ps j q;exact ⟨e _ _ oM a,e _ _ oM b,e _ _ oM c⟩
theorem ax.other {w w':World} {v:Value} {ps:List Px} {k:Nat} (h:ax w v ps) (o:w.heap.size<=w'.heap.size) (d:∀b,b≠k->w'.heap[b]?=w.heap[b]?) (n:v.ownBlock≠some k):ax w' v ps:=by
 obtain ⟨f,cap,rfl,l,h⟩:=h;refine ⟨f,cap,rfl,l,?_⟩;rcases h with h|⟨b,off,rfl,m,g⟩
 ·exact .inl h
 ·have c:b≠k:=fun e=>n (by rw[e];rfl);refine .inr ⟨b,off,rfl,kf m o,fun j i=>?_⟩;rw[ys (a:=⟨b,off+j*3,none⟩) (d b c),ys (a:=⟨b,off+j*3+1,none⟩) (d b c),ys (a:=⟨b,off+j*3+2,none⟩) (d b c)];exact g j i
theorem ax.set3 {w:World} {v:Value} {ps:List Px} {B k:Nat} (h:ax w v ps) (c:ar B v) (d:k<B) (x y z:Value):ax (((w.setCell ⟨k,0,none⟩ x).setCell ⟨k,1,none⟩ y).setCell ⟨k,2,none⟩ z) v ps :=
 h.other (gK _ _ _ _ _) (fun b a=>eL _ _ _ _ _ b a) (c.ne d)
def bo (w:World) (v:Value) (a:List Pt):Prop :=
 ∃c cap,v=J c a.length cap/\a.length<=9223372036854775807/\(a=[]\/∃b off,c=some ⟨b,off,none⟩/\b<w.heap.size/\∀j,j<a.length ->
  w.cell? ⟨b,off+j*2,none⟩=some (Z G (an a j).1)/\w.cell? ⟨b,off+j*2+1,none⟩=some (Z G (an a j).2))
theorem bo.below {w w':World} {v:Value} {e:List Pt} {B:Nat} (h:bo w v e) (a:Below B w w') (d:w.heap.size<=B):bo w' v e:=by
 obtain ⟨f,cap,m,l,h⟩:=h;refine ⟨f,cap,m,l,?_⟩;rcases h with h|⟨b,off,g,c,i⟩
 ·exact .inl h
 ·refine .inr ⟨b,off,g,kf c a.size,fun j k=>?_⟩;rw[a.cell (p:=⟨b,off+j*2,none⟩) (by exact kf c d),a.cell (p:=⟨b,off+j*2+1,none⟩) (by exact kf c d)];exact i j k
theorem bo.nil (w:World):bo w (J none 0 0) []:=⟨none,0,rfl,sS,.inl rfl⟩
def bQ (n:Int):Int:=if n<0 then 0 else if 65535<n then 65535 else n
theorem k9 (n:Int):0<=bQ n/\bQ n<=65535:=by unfold bQ;split<;>(try split)<;>omega
theorem px (n:Int) (w:World):Calls prog 257 #[Z G n] w (rQ w (Z G (bQ n))):=by
 have c:n<0\/(0<=n/\65535<n)\/(0<=n/\n<=65535):=oM;rcases c with h|⟨h,b⟩|⟨h,b⟩
 ·have a:=qH (show 0=bQ n by rw[bQ,if_pos h]);have d:decide (n<0)=true:=by simpa using h
  go_enter func257,ntmps257;go_wp2;all_goals (go_ret;exact ⟨aY (by have:=a.1;omega),rfl⟩)
 ·have a:=qH (show 65535=bQ n by rw[bQ,if_neg oM,if_pos b]);go_enter func257,ntmps257;go_wp2;all_goals (go_ret;exact ⟨aY (by have:=a.1;omega),rfl⟩)
 ·have a:=qH (show n=bQ n by rw[bQ,if_neg oM,if_neg oM]);go_enter func257,ntmps257;go_wp2;all_goals (go_ret;exact ⟨aY (by have:=a.1;omega),rfl⟩)
theorem mK (n:Int) (w:World):Calls prog 139 #[Z G n] w (rQ w (Z G (bQ n))):=by
 have c:n<0\/(0<=n/\65535<n)\/(0<=n/\n<=65535):=oM;rcases c with h|⟨h,b⟩|⟨h,b⟩
 ·have a:=qH (show 0=bQ n by rw[bQ,if_pos h]);go_enter func139,ntmps139;go_wp2;all_goals (go_ret;exact ⟨aY (by have:=a.1;omega),rfl⟩)
 ·have a:=qH (show 65535=bQ n by rw[bQ,if_neg oM,if_pos b]);go_enter func139,ntmps139;go_wp2;all_goals (go_ret;exact ⟨aY (by have:=a.1;omega),rfl⟩)
 ·have a:=qH (show n=bQ n by rw[bQ,if_neg oM,if_neg oM]);go_enter func139,ntmps139;go_wp2;all_goals (go_ret;exact ⟨aY (by have:=a.1;omega),rfl⟩)
def cW (n:Int):Bool:=decide (0<=n/\n<=3)
theorem qi (n:Int) (w:World):Calls prog 71 #[Z G n] w (rT w (.bool (cW n))):=by
 have a:=qH (show az 0 3 [n]=cW n by simp[az,cW]);go_enter func71,ntmps71;go_wp2_with fail
 refine (cF 0 3 _ [n] _ (dA w n)).mono ?_;rintro e w1 ⟨rfl,rfl⟩;rw[a.1];go_wp2;go_ret;exact ⟨rfl,aq _ _⟩
theorem iP (W H:Int) (X Y a k:Nat) (c:W=a) (d:Y*a+X=k) (f:k<=4096) (w:World) :
  Calls prog 42 #[.agg #[Z G W,Z G H],.agg #[Z G X,Z G Y]] w (rT w (Z G k)):=by
 subst c;obtain ⟨M,b⟩:∃M:Nat,M=Y*a:=⟨_,rfl⟩;have g:(Y:Int)*(a:Int)=(M:Int):=by rw[b];simp
 rw[<-b] at d;have e:(M:Int)+(X:Int)=(k:Int):=oM;clear b;go_enter func42,ntmps42;go_wp2;go_ret;exact ⟨rfl,aG (aq _ _) (aq _ _)⟩
def bc (W H x y:Int):Bool:=decide (0<=x/\x<W/\0<=y/\y<H)
theorem rK (W H x y:Int) (w:World) :
  Calls prog 170 #[.agg #[Z G W,Z G H],.agg #[Z G x,Z G y]] w (rT w (.bool (bc W H x y))):=by
 have g:(0<=x/\x<W/\0<=y/\y<H)\/(0<=x/\x<W/\0<=y/\¬y<H)\/(0<=x/\x<W/\¬0<=y)\/(0<=x/\¬x<W)\/¬0<=x:=oM;obtain ⟨R,e⟩:=eX (bc W H x y);rw[e];rcases g with ⟨a,b,c,d⟩|⟨a,b,c,d⟩|⟨a,b,c⟩|⟨a,b⟩|a
 ·have f:=qH (show true=R by rw[<-e,bc];symm;simp;omega);clear e;go_enter func170,ntmps170;go_wp2;go_ret;exact ⟨be f.1,aG (aq _ _) (aq _ _)⟩
 all_goals
  have f:=qH (show false=R by rw[<-e,bc];symm;simp;omega);clear e;go_enter func170,ntmps170;go_wp2;go_ret;exact ⟨be f.1,aG (aq _ _) (aq _ _)⟩
theorem oZ (n b:Int) (d:0<b):(n<n.tdiv b*b/\n.tdiv b-1=n / b)\/(¬n<n.tdiv b*b/\n.tdiv b=n / b):=by
 have e:=Int.emod_add_mul_ediv n b;have f:=Int.emod_nonneg n (show b≠0 from oM);have g:=Int.emod_lt_of_pos n d;rw[Int.mul_comm] at e;have c:=Int.tdiv_eq_ediv (a:=n) (b:=b);split at c
 ·rename_i hor;right;rw[c,Int.add_zero];exact ⟨oM,rfl⟩
 ·rename_i hno;left;rw[Int.sign_eq_one_of_pos d] at c;rw[c,Int.add_mul,Int.one_mul];exact ⟨oM,oM⟩
theorem uA (n b:Int) (v:1<=b) (x:b<=65536) (r:-5000000000<=n) (s:n<=5000000000) (w:World) :
  Calls prog 143 #[Z G n,Z G b] w (rQ w (Z G (n / b))):=by
 have f:=oZ n b oM;have j:-5000000001<=n / b:=Int.le_ediv_of_mul_le oM oM;have k:n / b<=5000000001:=Int.ediv_le_of_le_mul oM oM;have i:=Int.emod_add_mul_ediv n b;have l:=Int.emod_nonneg n (show b≠0 from oM);have m:=Int.emod_lt_of_pos n (show 0<b from oM);obtain ⟨q,g⟩:=eX (n.tdiv b);obtain ⟨P,e⟩:=eX (q*b);have p:(-5000000001<=q/\q<=5000000002)/\(-5000065537<=P/\P<=5000065537):=by
  rw[Int.mul_comm] at i;rcases f with ⟨_,a⟩|⟨_,a⟩
  ·rw[g] at a;have:P=n / b*b+b:=(by rw[<-e,show q=n / b+1 from oM,Int.add_mul,Int.one_mul]);omega
  ·rw[g] at a;have:P=n / b*b:=(by rw[<-e,a]);omega
 obtain ⟨⟨z,A⟩,t,u⟩:=p;rw[g,e] at f;clear i l m;have y:(b == 0)=false:=sO;rcases f with ⟨c,a⟩|⟨c,a⟩
 ·have o:decide (n<P)=true:=by simpa using c
  have d:=qH a;clear c a j k;go_enter func143,ntmps143;go_wp2;go_ret;exact ⟨aY d.1,rfl⟩
 ·have o:decide (n<P)=false:=by simpa using c
  have d:=qH a;clear c a j k;go_enter func143,ntmps143;go_wp2;go_ret;exact ⟨aY d.1,rfl⟩
def cP (W H:Int) (a:List Pt):Bool:=a.all fun p=>bc W H p.1 p.2
theorem sP {W H:Int} {a:List Pt} (h:∀i,i<a.length->bc W H (an a i).1 (an a i).2=true):cP W H a=true:=by
 refine yb.2 fun p c=>?_;obtain ⟨i,b,rfl⟩:=List.getElem_of_mem c;rw[i7];exact h i b
theorem sQ {W H:Int} {a:List Pt} (i:Nat) (c:i<a.length) (h:bc W H (an a i).1 (an a i).2=false):cP W H a=false:=by
 rw[Bool.eq_false_iff];intro b;have:=yb.1 b a[i] (zl c);rw[i7,h] at this;cases this
theorem xL {W H:Int} {a:List Pt} (h:cP W H a=true) (i:Nat) (b:i<a.length):bc W H (an a i).1 (an a i).2=true:=by
 have:=yb.1 h a[i] (zl b);rw[i7] at this;exact this
theorem bo.at {w:World} {f:Option Addr} {ca n:Nat} {c:List Pt} (h:bo w (J f n ca) c) (j:Nat) (g:j<c.length):∃a d,f=some ⟨a,d,none⟩/\a<w.heap.size/\w.cell? ⟨a,d+j*2,none⟩=some (Z G (an c j).1)/\w.cell? ⟨a,d+j*2+1,none⟩=some (Z G (an c j).2):=by
 obtain ⟨o,p,e,_,m⟩:=h;cases e
 rcases m with h|⟨b,off,i,k,l⟩
 ·subst h;simp at g
 ·exact ⟨b,off,i,k,l j g⟩
theorem rI (W H:Int) (v:Value) (a:List Pt) (w:World) (hv:bo w v a) :
  Calls prog 115 #[.agg #[Z G W,Z G H],v] w (rT w (.bool (cP W H a))):=by
 obtain ⟨lo,lc,rfl,Y,K⟩:=hv;have N:=qH (fun j V=>bo.at ⟨lo,lc,rfl,Y,K⟩ j V);clear K;obtain ⟨R,g⟩:=eX (cP W H a);rw[g];have s:=qH g;clear g;obtain ⟨t,c⟩:=lV w (ka #[Z G W,Z G H] 95);go_enter func115,ntmps115;go_wp2_with fail
 have X:=lS t;generalize w.alloc _=U at *;go_loopw [9] (fun i wr=>∃k:Nat,k<=a.length/\i=Z G k/\Below U.heap.size U wr/\Hid (∀i,i<k->bc W H (an a i).1 (an a i).2=true)) (fun i _=>a.length-(intOf i).toNat)
 case atStart=>exact ⟨0,kv _,rfl,kd _ _,au (fun i n=>oM)⟩
 case round =>
  obtain ⟨k,hk,rfl,l,q⟩:=hrel;have m:=c.trans (l.mono c.size);have u:=(l.block _ X).trans t;by_cases L:k<a.length
  ·have T:decide ((k:Int)<(a.length:Int))=true:=sO;obtain ⟨z,M,rfl,I,C,D⟩:=N.1 k L;have A:=(m.cell (p:=⟨z,M+k*2,none⟩) I).trans C;have B:=(m.cell (p:=⟨z,M+k*2+1,none⟩) I).trans D;have d:=qH (fun h=>sQ (W:=W) (H:=H) k L h);have f:=qH (show bc W H (an a k).1 (an a k).2=true->∀i,i<k+1->bc W H (an a i).1 (an a i).2=true from fun hn i n=>by
    rcases Nat.lt_succ_iff_lt_or_eq.1 n with h|rfl
    ·exact q.out i h
    ·exact hn)
   obtain ⟨⟨x,y⟩,F⟩:∃p,an a k=p:=⟨_,rfl⟩;rw[F] at A B d f;simp only at A B d f;clear F C D;obtain ⟨O,E⟩:=lV wr (ka #[Z G x,Z G y] 97);obtain ⟨s0,s1⟩:=bL O;obtain ⟨P,Q⟩:=bL ((E.block w.heap.size (lS u)).trans u);(go_wp2_with fail);clear s0 s1 P Q;generalize wr.alloc _=V5 at *;refine (rK W H x y _).mono ?_;rintro e V6 ⟨rfl,S⟩;have r:=qH (aG l (aG E S));by_cases b:bc W H x y=true
   ·rw[b];have HN:=au (f.1 b);go_wp2;go_roundw
    case rel=>exact ⟨k+1,oM,gN,r.1,HN⟩
    case measure=>simp[intOf];omega
   ·have b:bc W H x y=false:=(by simpa using b);rw[b];have o:R=false:=s.1.symm.trans (d.1 b);subst o;go_wp2;go_ret;exact ⟨rfl,c.trans (r.1.mono c.size)⟩
  ·have T:decide ((k:Int)<(a.length:Int))=false:=sO;have hkl:k=a.length:=oM;have o:R=true:=s.1.symm.trans (sP (fun i n=>q.out i oM));subst o;go_wp2;go_ret;exact ⟨rfl,m⟩
abbrev g9 (m:Nat->Int):Array Value:=#[Z G (m 0),Z G (m 1),Z G (m 2),Z G (m 3)]
abbrev jf (m:Nat->Int):Array Value:=#[Z G (m 0),Z G (m 1),Z G (m 2)]
def dU (m:Nat->Int) (n:Nat):List Int:=(List.range n).map m
theorem rC (m:Nat->Int) (k:Nat) (h:k<4):(g9 m)[k]?=some (Z G (m k)):=by
 rcases (show k=0\/k=1\/k=2\/k=3 from oM) with rfl|rfl|rfl|rfl<;>rfl
theorem td (m:Nat->Int) (k:Nat) (h:k<3):(jf m)[k]?=some (Z G (m k)):=by
 rcases (show k=0\/k=1\/k=2 from oM) with rfl|rfl|rfl<;>rfl
theorem kV {m:Nat->Int} {n:Nat} {a b:Int} (h:az a b (dU m n)=true) (k:Nat) (c:k<n):a<=m k/\m k<=b:=by
 have:=yb.1 h (m k) (List.mem_map.2 ⟨k,List.mem_range.2 c,rfl⟩);simpa using this
theorem Bd {w w':World} {t:TypeId} (m:Nat->Int) (a:Below (w.alloc (.cells (g9 m) t)).heap.size (w.alloc (.cells (g9 m) t)) w'):ap w' (J (some ⟨w.heap.size,0,none⟩) 4 4) (dU m 4):=by
 refine ⟨_,_,rfl,by simp[dU],.inr ⟨w.heap.size,0,rfl,by have:=a.size;simp at this;omega,fun j b=>?_⟩⟩;have c:j<4:=by simpa [dU] using b
 rw[a.cell (p:=⟨w.heap.size,0+j,none⟩) sS,kb (heap_alloc_new w _),Nat.zero_add,rC m j c];simp[dU]
theorem GC {w w':World} {t:TypeId} (m:Nat->Int) (a:Below (w.alloc (.cells (jf m) t)).heap.size (w.alloc (.cells (jf m) t)) w'):ap w' (J (some ⟨w.heap.size,0,none⟩) 3 3) (dU m 3):=by
 refine ⟨_,_,rfl,by simp[dU],.inr ⟨w.heap.size,0,rfl,by have:=a.size;simp at this;omega,fun j b=>?_⟩⟩;have c:j<3:=by simpa [dU] using b
 rw[a.cell (p:=⟨w.heap.size,0+j,none⟩) sS,kb (heap_alloc_new w _),Nat.zero_add,td m j c];simp[dU]
def js (m:Nat->Int):Bool:=az 0 65535 (dU m 3)
theorem uW (m:Nat->Int) (w:World):Calls prog 147 #[.agg (jf m)] w (rT w (.bool (js m))):=by
 go_enter func147,ntmps147;go_wp2_with fail
 refine (cF 0 65535 _ (dU m 3) _ (GC m (kd _ _))).mono ?_;rintro e w1 ⟨rfl,rfl⟩;rw[show az 0 65535 (dU m 3)=js m from rfl];go_wp2;go_ret;exact ⟨rfl,aq _ _⟩
def eD (m:Nat->Int) (a:Int):Bool:=decide (1<=a/\a<=65535) && az 0 (a-1) (dU m 4)
theorem vg (m:Nat->Int) (a:Int) (w:World):Calls prog 146 #[.agg (g9 m),Z G a] w (rT w (.bool (eD m a))):=by
 have g:=qH (ea w (ka (g9 m) 45) (ka #[Z G a] 3));have c:=qH (dA (w.alloc (ka (g9 m) 45)) a);rw[zc] at c;have i:=qH (Bd (w:=w) (t:=45) m (aq _ (ka #[Z G a] 3)));by_cases b:1<=a/\a<=65535
 ·have f:az 1 65535 [a]=true:=by simpa [az] using b
  have d:=qH (show az 0 (a-1) (dU m 4)=eD m a by rw[eD,decide_eq_true b,Bool.true_and]);obtain ⟨j,k⟩:=b;go_enter func146,ntmps146;go_wp2_with fail
  refine (cF 1 65535 _ [a] _ c.1).mono ?_;rintro e w1 ⟨rfl,rfl⟩;rw[f];go_wp2_with fail
  refine (cF 0 (a-1) _ (dU m 4) _ i.1).mono ?_;rintro e w1 ⟨rfl,rfl⟩;rw[d.1];go_wp2;go_ret;exact ⟨rfl,g.1⟩
 ·have f:az 1 65535 [a]=false:=by simpa [az] using b
  have d:=qH (show false=eD m a by rw[eD,decide_eq_false b,Bool.false_and]);go_enter func146,ntmps146;go_wp2_with fail
  refine (cF 1 65535 _ [a] _ c.1).mono ?_;rintro e w1 ⟨rfl,rfl⟩;rw[f];go_wp2;go_ret;exact ⟨be d.1,g.1⟩
theorem zG (n d:Int) (c:0<d):bQ (n.tdiv d)=bQ (n / d):=by
 rcases oZ n d c with ⟨g,a⟩|⟨_,a⟩
 ·have f:n<0:=by
   rcases Int.lt_or_le n 0 with h|h
   ·exact h
   ·have:=Int.tdiv_eq_ediv_of_nonneg (b:=d) h;omega
  have e:n / d<0:=Int.ediv_neg_of_neg_of_pos f c;have i:n.tdiv d<=0:=oM;unfold bQ;rw[if_pos e];split
  ·rfl
  ·rw[if_neg oM];omega
 ·rw[a]
def bI (w:World) (v:Value):Prop:=∀g,v.ownBlock=some g->∃c t,w.heap[g]?=some (.cells c t (0,0))
theorem bI.nil (w:World):bI w (J none 0 0):=fun g h=>by cases h
theorem bI.own {w:World} {base:Nat} {e:TypeId} {c:Nat} {v:Value} {n:Nat} {xs:List Value} (h:w.ownsRow base e c v n xs):bI w v:=fun g a=>by
 rcases h.2 with ⟨rfl,_⟩|⟨f,cap,d,rfl,_,b,_⟩
 ·cases a
 ·simp only[Value.ownBlock,Option.some.injEq] at a
  subst a
  exact ⟨_,_,b⟩
theorem bI.below {w w':World} {v:Value} {B:Nat} (h:bI w v) (d:Below B w w') (b:w.heap.size<=B):bI w' v:=fun g e=>by
 obtain ⟨c,t,a⟩:=h g e
 exact ⟨c,t,(d.block g (kf (lS a) b)).trans a⟩
theorem bI.other {w w':World} {v:Value} {k:Nat} (h:bI w v) (f:∀b,b≠k->w'.heap[b]?=w.heap[b]?) (i:v.ownBlock≠some k):bI w' v:=fun g a=>by
 obtain ⟨c,t,d⟩:=h g a
 exact ⟨c,t,(f g (fun e=>i (by rw[a,e]))).trans d⟩
theorem bI.set3 {w:World} {v:Value} {B k:Nat} (h:bI w v) (c:ar B v) (d:k<B) (x y z:Value):bI (((w.setCell ⟨k,0,none⟩ x).setCell ⟨k,1,none⟩ y).setCell ⟨k,2,none⟩ z) v :=
 h.other (fun b a=>eL _ _ _ _ _ b a) (c.ne d)
theorem bI.set3n {w:World} {v:Value} {k:Nat} (h:bI w v) (c:v.ownBlock≠some k) (x y z:Value):bI (((w.setCell ⟨k,0,none⟩ x).setCell ⟨k,1,none⟩ y).setCell ⟨k,2,none⟩ z) v :=
 h.other (fun b a=>eL _ _ _ _ _ b a) c
theorem bI.cell {w:World} {v:Value} {B k i:Nat} {u:Value} (h:bI w v) (c:ar B v) (d:k<B):bI (w.setCell ⟨k,i,none⟩ u) v :=
 h.other (fun b a=>km _ _ _ _ (fun e=>a e)) (c.ne d)
theorem bI.setRow {w:World} {v:Value} {B k:Nat} (h:bI w v) (d:ar B v) (e:k<B) (a:Array Value):bI (w.setRow k a) v :=
 h.other (fun b c=>setRow_other _ _ _ _ c) (d.ne e)
def et (p:Px):Bool:=az 0 65535 [p.1,p.2.1,p.2.2]
def eu (ps:List Px):Bool:=ps.all et
def aZ (W H:Int) (ps:List Px):Bool:=ew W H ps.length && eu ps
theorem xb (ps:List Px) (p:Px):eu (ps++[p])=(eu ps && et p):=by simp[eu]
theorem qp (ps:List Px) (k:Nat) (b:k<ps.length) (h:et ps[k]=false):eu ps=false:=by
 rw[Bool.eq_false_iff];intro a;have:=yb.1 a _ (zl b);rw[h] at this;cases this
theorem jC (p:Px):et p=true↔(0<=p.1/\p.1<=65535)/\(0<=p.2.1/\p.2.1<=65535)/\(0<=p.2.2/\p.2.2<=65535):=by simp[et,az]
theorem El {ps:List Px} (h:eu ps=true) (k:Nat) (a:k<ps.length):(0<=ps[k].1/\ps[k].1<=65535)/\(0<=ps[k].2.1/\ps[k].2.1<=65535)/\(0<=ps[k].2.2/\ps[k].2.2<=65535) :=
 (jC _).1 (yb.1 h _ (zl a))
theorem fC {W H:Int} {ps:List Px} (h:aZ W H ps=true):(1<=W/\W<=64)/\(1<=H/\H<=64)/\(ps.length:Int)=W*H/\eu ps=true:=by
 simp only[aZ,ew,aM,xe,decide_eq_true_eq] at h;exact ⟨h.1.1.1,h.1.1.2,h.1.2,h.2⟩
theorem BS (w:World) (a b c:Int):ap (w.alloc (.cells #[Z G a,Z G b,Z G c] 3)) (J (some ⟨w.heap.size,0,none⟩) 3 3) [a,b,c] :=
 ap.own (base:=w.heap.size) (World.ownsRow_lit w #[Z G a,Z G b,Z G c] 3 (kc _) dD sS) sS
theorem nc (W H:Int) (v:Value) (ps:List Px) (w:World) (z:ax w v ps) :
  Calls prog 27 #[.agg #[Z G W,Z G H,v]] w (rT w (.bool (aZ W H ps))):=by
 have F:=qH z;obtain ⟨B,ca,rfl,M,x⟩:=z;by_cases a:ew W H ps.length=true
 ·have l:=qH (show eu ps=aZ W H ps by rw[aZ,a];rfl);have E:1<=ps.length:=by
   simp only[ew,aM,xe,decide_eq_true_eq] at a;have:=fq a.1.1 a.1.2;omega
  obtain ⟨q,off,C,r,y⟩:∃b off,B=some ⟨b,off,none⟩/\b<w.heap.size/\∀j (h:j<ps.length),
   w.cell? ⟨b,off+j*3,none⟩=some (Z G ps[j].1)/\w.cell? ⟨b,off+j*3+1,none⟩=some (Z G ps[j].2.1)/\w.cell? ⟨b,off+j*3+2,none⟩=some (Z G ps[j].2.2):=by
   rcases x with h|h
   ·subst h;simp at E
   ·exact h
  subst C;have n:=qH y;clear y x;go_enter func27,ntmps27;go_wp2_with fail
  refine (qu _ _ _ _).mono ?_;rintro e w1 ⟨rfl,f⟩;rw[a];have s:=(kI f).2.2;have t:=aG (aq w _) f;clear f;go_wp2_with fail
  go_loopw [17] (fun i wr=>∃k:Nat,k<=ps.length/\i=Z G k/\Hid (eu (ps.take k)=true)/\Below w.heap.size w wr) (fun i _=>ps.length-(intOf i).toNat)
  case atStart=>exact ⟨0,kv _,rfl,rfl,t⟩
  case round =>
   clear s t;obtain ⟨k,L,rfl,m,d⟩:=hrel;by_cases g:k<ps.length
   ·have D:decide ((k:Int)<(ps.length:Int))=true:=sO;have I:=(d.cell (p:=⟨q,off+k*3,none⟩) r).trans (n.1 k g).1;have K:=(d.cell (p:=⟨q,off+k*3+1,none⟩) r).trans (n.1 k g).2.1;have s:=(d.cell (p:=⟨q,off+k*3+2,none⟩) r).trans (n.1 k g).2.2;(go_wp2_with fail);refine (cF 0 65535 _ [ps[k].1,ps[k].2.1,ps[k].2.2] _ (by have:=BS (wr.alloc (ka #[Z G ps[k].1,Z G ps[k].2.1,Z G ps[k].2.2] 61)) ps[k].1 ps[k].2.1 ps[k].2.2;rw[zc] at this;exact this)).mono ?_;rintro e w2 ⟨rfl,rfl⟩;have u:=(d.alloc d.size (ka #[Z G ps[k].1,Z G ps[k].2.1,Z G ps[k].2.2] 61)).alloc (by have:=d.size;simp;omega) (ka #[Z G ps[k].1,Z G ps[k].2.1,Z G ps[k].2.2] 3);change Hid _ at m;by_cases c:et ps[k]=true
    ·have A:=au (show eu (ps.take (k+1))=true by rw[kh g,xb,m.out,c];rfl);rw[show az 0 65535 [ps[k].1,ps[k].2.1,ps[k].2.2]=true from c];clear c;go_wp2;go_roundw
     case rel=>exact ⟨k+1,oM,gN,A,u⟩
     case measure=>simp[intOf];omega
    ·have c:et ps[k]=false:=(by simpa using c);have o:=qH (show false=aZ W H ps by rw[<-l.1,qp ps k g c]);rw[show az 0 65535 [ps[k].1,ps[k].2.1,ps[k].2.2]=false from c];clear c;go_wp2;go_ret;exact ⟨be o.1,u⟩
   ·have D:decide ((k:Int)<(ps.length:Int))=false:=sO;have o:=qH (show true=aZ W H ps by rw[<-l.1,<-m.out,kG oM]);go_wp2;go_ret;exact ⟨be o.1,d⟩
 ·have a:ew W H ps.length=false:=by simpa using a
  have l:=qH (show false=aZ W H ps by rw[aZ,a];rfl);go_enter func27,ntmps27;go_wp2_with fail
  refine (qu _ _ _ _).mono ?_;rintro e w1 ⟨rfl,f⟩;rw[a];go_wp2;go_ret;exact ⟨be l.1,aG (aq _ _) f⟩
theorem qf (p:Px) (w:World):Calls prog 35 #[dj p] w (rT w (dj p)):=by
 go_enter func35,ntmps35;go_wp2;exact bodyPost_ret (v:=dj p) (by simp[results,results35,go_sem]) rfl ⟨rfl,aG (aq _ _) (aq _ _)⟩
theorem sq (p:Px) (w:World):Calls prog 44 #[dj p] w (rT w (dj p)):=by
 go_enter func44,ntmps44;go_wp2;exact bodyPost_ret (v:=dj p) (by simp[results,results44,go_sem]) rfl ⟨rfl,aG (aq _ _) (aq _ _)⟩
def fV (n:Int):Bool:=decide (0<=n/\n<=1024)
theorem tL (n:Int) (w:World):Calls prog 149 #[Z G n] w (rT w (.bool (fV n))):=by
 have a:=qH (show az 0 1024 [n]=fV n by simp[az,fV]);go_enter func149,ntmps149;go_wp2_with fail
 refine (cF 0 1024 _ [n] _ (dA w n)).mono ?_;rintro e w1 ⟨rfl,rfl⟩;rw[a.1];go_wp2;go_ret;exact ⟨rfl,aq _ _⟩
theorem DJ (W H:Int) (v:Value) (ps:List Px) (w:World) (hv:ax w v ps) :
  Calls prog 9 #[.agg #[Z G W,Z G H,v]] w (rT w (.bool (aZ W H ps))):=by
 obtain ⟨D,ca,rfl,hla,u⟩:=hv;obtain ⟨R,l⟩:=eX (aZ W H ps);rw[l];obtain ⟨e0,e1,e2⟩:=kI (kd (w.alloc (ka #[Z G W,Z G H,J D ps.length ca] 24)).heap.size _);have p:=qH (aq w (ka #[Z G W,Z G H,J D ps.length ca] 24));have S:∀n:Int,decide (1<=n/\n<=64)=aM n:=fun n=>rfl;have q:=qH S;clear S;by_cases f:aM W=true
 ·by_cases g:aM H=true
  ·have L:1<=W/\W<=64:=(by simpa [aM] using f);have N:1<=H/\H<=64:=(by simpa [aM] using g);obtain ⟨O,P⟩:=fq L N;obtain ⟨M,A⟩:=eX (W*H);by_cases r:(ps.length:Int)=M
   ·have z:=qH (show R=eu ps by rw[<-l,aZ,ew,f,g,A,r];simp);rw[A] at O P;have Y:((ps.length:Int) != M)=false:=(by simpa using r);obtain ⟨d,off,V,X,Q⟩:∃b off,D=some ⟨b,off,none⟩/\b<w.heap.size/\∀j (h:j<ps.length),
      w.cell? ⟨b,off+j*3,none⟩=some (Z G ps[j].1)/\w.cell? ⟨b,off+j*3+1,none⟩=some (Z G ps[j].2.1)/\w.cell? ⟨b,off+j*3+2,none⟩=some (Z G ps[j].2.2):=by
     rcases u with h|h
     ·subst h;simp at r;omega
     ·exact h
    subst V;have I:=qH Q;clear Q u l r;go_enter func9,ntmps9;(go_wp2_with fail);have T:=qH (show ∀j (h:j<ps.length),(w.alloc (ka #[Z G W,Z G H,J (some ⟨d,off,none⟩) ps.length ca] 24)).cell? ⟨d,off+j*3,none⟩=some (Z G ps[j].1)/\(w.alloc (ka #[Z G W,Z G H,J (some ⟨d,off,none⟩) ps.length ca] 24)).cell? ⟨d,off+j*3+1,none⟩=some (Z G ps[j].2.1)/\(w.alloc (ka #[Z G W,Z G H,J (some ⟨d,off,none⟩) ps.length ca] 24)).cell? ⟨d,off+j*3+2,none⟩=some (Z G ps[j].2.2) from fun j h=>by
     have F:=ko w (ka #[Z G W,Z G H,J (some ⟨d,off,none⟩) ps.length ca] 24) d X;rw[ys (w:=w) (a:=⟨d,off+j*3,none⟩) F,ys (w:=w) (a:=⟨d,off+j*3+1,none⟩) F,ys (w:=w) (a:=⟨d,off+j*3+2,none⟩) F];exact I.1 j h)
    clear I;generalize w.alloc _=C at *;refine (aI _ _ _ _).mono ?_;rintro e w1 ⟨rfl,rfl⟩;rw[q.1,f];(go_wp2_with fail);refine (aI _ _ _ _).mono ?_;rintro e w1 ⟨rfl,rfl⟩;rw[q.1,g];go_wp2;clear f g L N;go_loop [3] (fun i=>∃k:Nat,k<=ps.length/\i=Z G k/\Hid (eu (ps.take k)=true)) (fun i=>ps.length-(intOf i).toNat)
    case atStart=>exact ⟨0,kv _,rfl,rfl⟩
    case round =>
     obtain ⟨k,hk,rfl,K⟩:=hrel;by_cases y:k<ps.length
     ·obtain ⟨c0,c1,c2⟩:=T.1 k y;have m:=jC ps[k];by_cases o:0<=ps[k].1/\ps[k].1<=65535
      ·have x:decide (0<=ps[k].1/\ps[k].1<=65535)=true:=(by simpa using o);by_cases s:0<=ps[k].2.1/\ps[k].2.1<=65535
       ·have B:decide (0<=ps[k].2.1/\ps[k].2.1<=65535)=true:=(by simpa using s);by_cases t:0<=ps[k].2.2/\ps[k].2.2<=65535
        ·have E:decide (0<=ps[k].2.2/\ps[k].2.2<=65535)=true:=(by simpa using t);have U:=au (show eu (ps.take (k+1))=true by rw[kh y,xb,K.out,m.2 ⟨o,s,t⟩];rfl);clear m o s t;(go_wp2_with (go_at_call 33;refine (aI _ _ _ _).mono ?_;rintro e w1 ⟨rfl,rfl⟩;first|rw[x]|rw[B]|rw[E]));go_round
         case rel=>exact ⟨k+1,oM,gN,U⟩
         case measure=>simp[intOf];omega
        ·have E:decide (0<=ps[k].2.2/\ps[k].2.2<=65535)=false:=(by simpa using t);have c:=qH (show false=R by rw[z.1,qp ps k y (by rw[Bool.eq_false_iff];exact fun h=>t (m.1 h).2.2)]);clear m o s t;(go_wp2_with (go_at_call 33;refine (aI _ _ _ _).mono ?_;rintro e w1 ⟨rfl,rfl⟩;first|rw[x]|rw[B]|rw[E]));go_ret;exact ⟨be c.1,p.1⟩
       ·have B:decide (0<=ps[k].2.1/\ps[k].2.1<=65535)=false:=(by simpa using s);have c:=qH (show false=R by rw[z.1,qp ps k y (by rw[Bool.eq_false_iff];exact fun h=>s (m.1 h).2.1)]);clear m o s;(go_wp2_with (go_at_call 33;refine (aI _ _ _ _).mono ?_;rintro e w1 ⟨rfl,rfl⟩;first|rw[x]|rw[B]));go_ret;exact ⟨be c.1,p.1⟩
      ·have x:decide (0<=ps[k].1/\ps[k].1<=65535)=false:=(by simpa using o);have c:=qH (show false=R by rw[z.1,qp ps k y (by rw[Bool.eq_false_iff];exact fun h=>o (m.1 h).1)]);clear m o;(go_wp2_with (go_at_call 33;refine (aI _ _ _ _).mono ?_;rintro e w1 ⟨rfl,rfl⟩;rw[x]));go_ret;exact ⟨be c.1,p.1⟩
     ·have c:=qH (show true=R by rw[z.1,<-K.out,kG oM]);go_wp2;go_ret;exact ⟨be c.1,p.1⟩
   ·have c:=qH (show false=R by rw[<-l,aZ,ew,A];simp[r]);rw[A] at O P;have Y:((ps.length:Int) != M)=true:=(by simpa using r);clear u l r;go_enter func9,ntmps9;(go_wp2_with fail);generalize w.alloc _=C at *;refine (aI _ _ _ _).mono ?_;rintro e w1 ⟨rfl,rfl⟩;rw[q.1,f];(go_wp2_with fail);refine (aI _ _ _ _).mono ?_;rintro e w1 ⟨rfl,rfl⟩;rw[q.1,g];go_wp2;go_ret;exact ⟨be c.1,p.1⟩
  ·have g:aM H=false:=(by simpa using g);have c:=qH (show false=R by rw[<-l,aZ,ew,g];simp);clear u l;go_enter func9,ntmps9;(go_wp2_with fail);generalize w.alloc _=C at *;refine (aI _ _ _ _).mono ?_;rintro e w1 ⟨rfl,rfl⟩;rw[q.1,f];(go_wp2_with fail);refine (aI _ _ _ _).mono ?_;rintro e w1 ⟨rfl,rfl⟩;rw[q.1,g];go_wp2;go_ret;exact ⟨be c.1,p.1⟩
 ·have f:aM W=false:=by simpa using f
  have c:=qH (show false=R by rw[<-l,aZ,ew,f];simp);clear u l;go_enter func9,ntmps9;go_wp2_with fail
  generalize w.alloc _=C at *;refine (aI _ _ _ _).mono ?_;rintro e w1 ⟨rfl,rfl⟩;rw[q.1,f];go_wp2;go_ret;exact ⟨be c.1,p.1⟩
def mt (c a:Int) (ps:List Px) (d b:Int) (e:List Px):Bool:=decide (c=d/\a=b/\ps=e)
theorem ua {w:World} {x y:Array Value} {t:TypeId} {w':World} (a:Below ((w.alloc (.cells x t)).alloc (.cells y t)).heap.size ((w.alloc (.cells x t)).alloc (.cells y t)) w') :
  w'.heap[w.heap.size]?=some (.cells x t (0,0))/\w'.heap[w.heap.size+1]?=some (.cells y t (0,0)):=by
 constructor
 ·rw[a.block _ sO,ko _ _ _ sS];exact heap_alloc_new w _
 ·rw[a.block _ sS];have h:=heap_alloc_new (w.alloc (.cells x t)) (.cells y t);rw[zc] at h;exact h
theorem FC (f e:Int) (va:Value) (ps:List Px) (o m:Int) (vb:Value) (a:List Px) (w:World) (u:ax w va ps) (v:ax w vb a) :
  Calls prog 14 #[.agg #[Z G f,Z G e,va],.agg #[Z G o,Z G m,vb]] w (rT w (.bool (mt f e ps o m a))):=by
 obtain ⟨K,ca,rfl,hla,u⟩:=u;obtain ⟨N,cb,rfl,hlb,v⟩:=v;obtain ⟨R,P⟩:=eX (mt f e ps o m a);rw[P];have z:=qH P;clear P;have d:=qH (aG (aq w (.cells #[Z G f,Z G e,J K ps.length ca] 24)) (aq _ (.cells #[Z G o,Z G m,J N a.length cb] 24)));obtain ⟨k1,k2⟩:=ua (w:=w) (x:=#[Z G f,Z G e,J K ps.length ca]) (y:=#[Z G o,Z G m,J N a.length cb]) (t:=24) (kd _ _);obtain ⟨e0,e1,e2⟩:=al k1;obtain ⟨f0,f1,f2⟩:=al k2;clear k1 k2;by_cases D:f=o
 ·subst D;have hWb:(f != f)=false:=sS;by_cases C:e=m
  ·subst C;have hHb:(e != e)=false:=sS;have A:=qH (show R=decide (ps=a) by rw[<-z.1,mt];simp);clear z;by_cases l:ps.length=a.length
   ·have hlb2:((ps.length:Int) != (a.length:Int))=false:=(by simp[l]);by_cases s:ps.length=0
    ·obtain rfl:=xa s;obtain rfl:=xa (l.symm.trans s);have c:=qH (show true=R by rw[A.1];rfl);clear u v s l hlb2;go_enter func14,ntmps14;go_wp2;go_loop [5] (fun i=>i=Z G 0) (fun _=>0)
     case atStart=>rfl
     case round =>
      subst hrel;go_wp2;go_ret;exact ⟨be c.1,d.1⟩
    ·obtain ⟨L,W,hao,Q,hca⟩:∃b off,K=some ⟨b,off,none⟩/\b<w.heap.size/\∀j (h:j<ps.length),
       w.cell? ⟨b,off+j*3,none⟩=some (Z G ps[j].1)/\w.cell? ⟨b,off+j*3+1,none⟩=some (Z G ps[j].2.1)/\w.cell? ⟨b,off+j*3+2,none⟩=some (Z G ps[j].2.2):=by
      rcases u with h|h
      ·subst h;exact absurd rfl s
      ·exact h
     obtain ⟨M,X,hbo,S,hcb⟩:∃b off,N=some ⟨b,off,none⟩/\b<w.heap.size/\∀j (h:j<a.length),
       w.cell? ⟨b,off+j*3,none⟩=some (Z G a[j].1)/\w.cell? ⟨b,off+j*3+1,none⟩=some (Z G a[j].2.1)/\w.cell? ⟨b,off+j*3+2,none⟩=some (Z G a[j].2.2):=by
      rcases v with h|h
      ·subst h;exact absurd l s
      ·exact h
     subst hao;subst hbo;have H:=qH hca;clear hca u;have I:=qH hcb;clear hcb v;have Y:=qH l;clear l;go_enter func14,ntmps14;(go_wp2_with fail);generalize (w.alloc _).alloc _=W0 at *;go_loopw [5] (fun i wr=>∃k:Nat,k<=ps.length/\i=Z G k/\Hid (ps.take k=a.take k)/\(∃n,wr=W0.drewN n)) (fun i _=>ps.length-(intOf i).toNat)
     case atStart=>exact ⟨0,kv _,rfl,rfl,0,rfl⟩
     case round =>
      obtain ⟨k,hk,rfl,HT,nn,rfl⟩:=hrel;by_cases E:k<ps.length
      ·have F:k<a.length:=(by have:=Y.1;omega);have a0:=(d.1.cell (p:=⟨L,W+k*3,none⟩) Q).trans (H.1 k E).1;have a1:=(d.1.cell (p:=⟨L,W+k*3+1,none⟩) Q).trans (H.1 k E).2.1;have a2:=(d.1.cell (p:=⟨L,W+k*3+2,none⟩) Q).trans (H.1 k E).2.2;have b0:=(d.1.cell (p:=⟨M,X+k*3,none⟩) S).trans (I.1 k F).1;have b1:=(d.1.cell (p:=⟨M,X+k*3+1,none⟩) S).trans (I.1 k F).2.1;have b2:=(d.1.cell (p:=⟨M,X+k*3+2,none⟩) S).trans (I.1 k F).2.2;have r:=qH (show ps[k]=a[k]->ps.take (k+1)=a.take (k+1) from fun T=>by
        rw[kh E,kh F,HT.out,T])
       have g:=qH (show ¬ps[k]=a[k]->false=R from fun T=>by
        rw[A.1];symm;simp only[decide_eq_false_iff_not];exact fun h=>T (by subst h;rfl))
       obtain ⟨⟨p1,p2,p3⟩,U⟩:∃p,ps[k]=p:=⟨_,rfl⟩;obtain ⟨⟨q1,q2,q3⟩,V⟩:∃q,a[k]=q:=⟨_,rfl⟩;rw[U] at a0 a1 a2;rw[V] at b0 b1 b2;rw[U,V] at r g;clear U V;simp only at a0 a1 a2 b0 b1 b2;by_cases B:p1=q1
       ·by_cases O:p2=q2
        ·by_cases h3:p3=q3
         ·subst B;subst O;subst h3;have HT2:=au (r.1 rfl);clear r g;go_wp2;(go_region);go_wp2;go_roundw
          case rel=>exact ⟨k+1,oM,gN,HT2,nn+1,rfl⟩
          case measure=>simp[intOf];omega
         ·have c:=qH (g.1 (fun h=>h3 (by cases h;rfl)));subst B;subst O;clear r g;go_wp2;(go_region);go_wp2;go_ret;exact ⟨be c.1,below_drewN d.1 _⟩
        ·have c:=qH (g.1 (fun h=>O (by cases h;rfl)));subst B;clear r g;go_wp2;(go_region);go_wp2;go_ret;exact ⟨be c.1,below_drewN d.1 _⟩
       ·have c:=qH (g.1 (fun h=>B (by cases h;rfl)));clear r g;go_wp2;(go_region);go_wp2;go_ret;exact ⟨be c.1,below_drewN d.1 _⟩
      ·have c:=qH (show true=R by
        have h:=HT.out;rw[kG oM,kG (by have:=Y.1;omega)] at h;rw[A.1];symm;simp[h])
       go_wp2;go_ret;exact ⟨be c.1,below_drewN d.1 _⟩
   ·have c:=qH (show false=R by rw[A.1];symm;simp only[decide_eq_false_iff_not];exact fun h=>l (by rw[h]));have hlb2:((ps.length:Int) != (a.length:Int))=true:=sO;clear l;go_enter func14,ntmps14;go_wp2;go_ret;exact ⟨be c.1,d.1⟩
  ·have c:=qH (show false=R by rw[<-z.1,mt];symm;simp[C]);have hHb:(e != m)=true:=(by simpa using C);clear C;go_enter func14,ntmps14;go_wp2;go_ret;exact ⟨be c.1,d.1⟩
 ·have c:=qH (show false=R by rw[<-z.1,mt];symm;simp[D]);have hWb:(f != o)=true:=by simpa using D
  clear D;go_enter func14,ntmps14;go_wp2;go_ret;exact ⟨be c.1,d.1⟩
theorem BL (n:Int) (w:World):Calls prog 257 #[Z G n] w fun e w'=>e=.returned (Z G (bQ n))/\w'=w :=
 (px n w).mono fun _ _ h=>⟨h.1,h.2.symm⟩
theorem hG {a r A R:Int} (c:-A<=a) (d:a<=A) (b:0<=r) (e:r<=R) (f:0<=A):-(A*R)<=a*r/\a*r<=A*R:=by
 have h:=Int.mul_le_mul_of_nonneg_right d b;have g:=Int.mul_le_mul_of_nonneg_right c b;have i:=Int.mul_le_mul_of_nonneg_left e f;rw[Int.neg_mul] at g;omega
def mV (a b c r g u:Int):Int:=bQ ((a*r+b*g+c*u) / 4096)
theorem CH (i:Nat) (K:i<=6) (d f:Nat) (a b c r g u:Int) (o:-32768<=a) (p:a<=32768) (q:-32768<=b) (s:b<=32768) (t:-32768<=c) (v:c<=32768)
  (y:0<=r) (z:r<=65535) (w:0<=g) (x:g<=65535) (D:0<=u) (E:u<=65535) (V:World)
  (L:V.cell? ⟨d,i,none⟩=some (Z G a)) (N:V.cell? ⟨d,i+1,none⟩=some (Z G b)) (O:V.cell? ⟨d,i+2,none⟩=some (Z G c))
  (W:V.cell? ⟨f,0,none⟩=some (Z G r)) (X:V.cell? ⟨f,1,none⟩=some (Z G g)) (Y:V.cell? ⟨f,2,none⟩=some (Z G u)) :
  Calls prog 272 #[Z G i,.pointer (some ⟨d,0,none⟩),.pointer (some ⟨f,0,none⟩)] V fun e w'=>e=.returned (Z G (mV a b c r g u))/\∃n,w'=V.drewN n:=by
 have j:=qH (show mV a b c r g u=bQ ((a*r+b*g+c*u) / 4096) from rfl);generalize mV a b c r g u=M at *;have F:=hG o p y z oM;have H:=hG q s w x oM;have I:=hG t v D E oM;obtain ⟨A,k⟩:=eX (a*r);obtain ⟨B,l⟩:=eX (b*g);obtain ⟨C,m⟩:=eX (c*u);rw[k] at F;rw[l] at H;rw[m] at I;rw[k,l,m] at j;clear o p q s t v y z w x D E;obtain ⟨P,Q⟩:=F;obtain ⟨R,S⟩:=H;obtain ⟨T,U⟩:=I;go_enter func272,ntmps272;go_wp2;go_quiet ((go_at_call 257;exact Calls.quiet_of_same (BL _ _)));go_wp2;go_ret;exact ⟨aY j.1.symm,nq,rfl⟩
def du (m:Nat->Int) (p:Px):Px:=(mV (m 0) (m 1) (m 2) p.1 p.2.1 p.2.2,mV (m 3) (m 4) (m 5) p.1 p.2.1 p.2.2,mV (m 6) (m 7) (m 8) p.1 p.2.1 p.2.2)
theorem CC (b:Nat) (m:Nat->Int) (a:∀k,k<9->-32768<=m k/\m k<=32768) (p:Px) (E:et p=true) (V:World) (B:b<V.heap.size)
  (q:∀k,k<9->V.cell? ⟨b,k,none⟩=some (Z G (m k))) :
  Calls prog 271 #[dj p,.pointer (some ⟨b,0,none⟩)] V (rT V (dj (du m p))):=by
 obtain ⟨⟨z,A⟩,⟨l,o⟩,u1,u2⟩:=(jC p).1 E;obtain ⟨r,g,u⟩:=p;simp only at z A l o u1 u2;have j:=qH (aG (aq V (ka #[Z G r,Z G g,Z G u] 61)) (aq _ (ka #[Z G 0,Z G 0,Z G 0] 61)));have c:∀k,k<9->((V.alloc (ka #[Z G r,Z G g,Z G u] 61)).alloc (ka #[Z G 0,Z G 0,Z G 0] 61)).cell? ⟨b,k,none⟩=some (Z G (m k)):=fun k D =>
  (j.1.cell (p:=⟨b,k,none⟩) B).trans (q k D)
 obtain ⟨s,f⟩:=ua (w:=V) (x:=#[Z G r,Z G g,Z G u]) (y:=#[Z G 0,Z G 0,Z G 0]) (t:=61) (kd _ _);obtain ⟨F,H,I⟩:=al s;obtain ⟨T,U,W⟩:=al f;obtain ⟨M,N,O⟩:=fZ f;clear s f q;have K:=qH c;have L:=qH a;have d:=qH (fun (i:Nat) (C:i<=6) (n:Nat)=>CH i C b V.heap.size (m i) (m (i+1)) (m (i+2)) r g u (a i oM).1 (a i oM).2 (a (i+1) oM).1 (a (i+1) oM).2 (a (i+2) oM).1 (a (i+2) oM).2 z A l o u1 u2
  (((V.alloc (ka #[Z G r,Z G g,Z G u] 61)).alloc (ka #[Z G 0,Z G 0,Z G 0] 61)).drewN n) (c i oM) (c (i+1) oM) (c (i+2) oM) F H I)
 clear c a;go_enter func271,ntmps271;go_wp2_with fail
 refine (d.1 0 oM 0).mono ?_;rintro e w1 ⟨rfl,P,rfl⟩;go_wp2_with fail
 refine (d.1 3 oM _).mono ?_;rintro e w2 ⟨rfl,Q,rfl⟩;go_wp2_with fail
 refine (d.1 6 oM _).mono ?_;rintro e S ⟨rfl,R,rfl⟩;go_wp2;refine bodyPost_ret (v:=dj (du m (r,g,u))) (by simp[results,results271,go_sem,du]) rfl ⟨rfl,?_⟩;exact bf (below_drewN j.1 _) oM _ _ _
end Go.Proofs.YtfjeonehdlphiaaGreatDoor
