/- Part 41. -/
import Derived.Test.YtfjeonehdlphiaaGreatDoorC27Sd
import Derived.Test.YtfjeonehdlphiaaGreatDoorC37Sd
open Go.IntWalk renaming i64_in → ka
open Go.Value renaming int → Z, slice → J
open Go.IntKind renaming i64 → G
set_option linter.unusedVariables false
set_option maxHeartbeats 1600000
set_option maxRecDepth 100000
namespace Go.Proofs.YtfjeonehdlphiaaGreatDoor
open Go.RowKit
open _root_.Go.Proofs.Tryz
theorem Eo (r:av):lF r=(decide (1<=r.w/\r.w<=64) && decide (1<=r.h/\r.h<=64) && decide (1<=r.depth/\r.depth<=16) && decide (1<=r.rows/\r.rows<=r.h)):=rfl
theorem BG (r:av) (B D C y:Value) (w:World) (z:ap w B r.lens) :
  Calls prog 74 #[.agg (aC r B D C y)] w (rT w (Z G (da r))):=by
 have F:=qH z;obtain ⟨I,ca,rfl,_,_⟩:=z;obtain ⟨x,b⟩:=d9 w (Obj.cells (aC r (J I r.lens.length ca) D C y) 57);have f:=qH (show da r=if lF r=true then (if 0<=r.kind/\r.kind<=7 then iQ r else 6) else 3 from rfl);have g:=qH (Eo r);have o:=qH (show iQ r=if r.kind=0 then (if r.lens.length=0 then 0 else 1) else aU r.lens from rfl);generalize da r=E at *;obtain ⟨N,O,Q,S,T,V,W,P,R⟩:=eJ x;have p:=qH (fun u=>aI r.w 1 64 u);have q:=qH (fun u=>aI r.h 1 64 u);have s:=qH (fun u=>aI r.depth 1 16 u);have t:=qH (fun u=>aI r.rows 1 r.h u);have v:=qH (fun u=>aI r.kind 0 7 u);have H:=qH (F.1.below b.1 (Nat.le_refl _));go_enter func74,ntmps74;go_wp2_with fail
 clear x;generalize w.alloc _=U at *;refine (p.1 _).mono ?_;rintro e w1 ⟨rfl,rfl⟩;by_cases c:1<=r.w/\r.w<=64;rotate_left
 ·have a:E=3:=by rw[f.1,g.1,decide_eq_false c];rfl
  rw[decide_eq_false c];subst a;go_wp2;go_ret;exact ⟨rfl,b.1⟩
 rw[decide_eq_true c];go_wp2_with fail
 refine (q.1 _).mono ?_;rintro e w1 ⟨rfl,rfl⟩;by_cases d:1<=r.h/\r.h<=64;rotate_left
 ·have a:E=3:=by rw[f.1,g.1,decide_eq_true c,decide_eq_false d];rfl
  rw[decide_eq_false d];subst a;go_wp2;go_ret;exact ⟨rfl,b.1⟩
 rw[decide_eq_true d];go_wp2_with fail
 refine (s.1 _).mono ?_;rintro e w1 ⟨rfl,rfl⟩;by_cases i:1<=r.depth/\r.depth<=16;rotate_left
 ·have a:E=3:=by rw[f.1,g.1,decide_eq_true c,decide_eq_true d,decide_eq_false i];rfl
  rw[decide_eq_false i];subst a;go_wp2;go_ret;exact ⟨rfl,b.1⟩
 rw[decide_eq_true i];go_wp2_with fail
 refine (t.1 _).mono ?_;rintro e w1 ⟨rfl,rfl⟩;by_cases k:1<=r.rows/\r.rows<=r.h;rotate_left
 ·have a:E=3:=by rw[f.1,g.1,decide_eq_true c,decide_eq_true d,decide_eq_true i,decide_eq_false k];rfl
  rw[decide_eq_false k];subst a;go_wp2;go_ret;exact ⟨rfl,b.1⟩
 rw[decide_eq_true k];have n:=qH (show E=if 0<=r.kind/\r.kind<=7 then iQ r else 6 by rw[f.1,g.1,decide_eq_true c,decide_eq_true d,decide_eq_true i,decide_eq_true k];rfl);clear f g c d i k p q s t;go_wp2_with fail
 refine (v.1 _).mono ?_;rintro e w1 ⟨rfl,rfl⟩;by_cases m:0<=r.kind/\r.kind<=7;rotate_left
 ·have a:E=6:=by rw[n.1,if_neg m]
  rw[decide_eq_false m];subst a;go_wp2;go_ret;exact ⟨rfl,b.1⟩
 rw[decide_eq_true m];have j:=qH (show E=if r.kind=0 then (if r.lens.length=0 then 0 else 1) else aU r.lens by rw[n.1,if_pos m];exact o.1);clear n o v;by_cases l:r.kind=0
 ·have K:(r.kind == 0)=true:=by simpa using l
  have L:decide (0<r.kind)=false:=decide_eq_false oM;rw[if_pos l] at j;by_cases A:r.lens.length=0
  ·have a:E=0:=(by rw[j.1,if_pos A]);have M:decide (0<(r.lens.length:Int))=false:=decide_eq_false oM;subst a;go_wp2;go_ret;exact ⟨rfl,b.1⟩
  ·have a:E=1:=(by rw[j.1,if_neg A]);have M:decide (0<(r.lens.length:Int))=true:=decide_eq_true oM;subst a;go_wp2;go_ret;exact ⟨rfl,b.1⟩
 ·have K:(r.kind == 0)=false:=by simpa using l
  have L:decide (0<r.kind)=true:=decide_eq_true oM;rw[if_neg l] at j;go_wp2_with fail
  refine (mJ _ r.lens _ H.1).mono ?_;rintro e w1 ⟨rfl,rfl⟩;go_wp2;go_ret;exact ⟨aY j.1.symm,b.1⟩
theorem DU (r:av) (t x v k:Value) (w:World) (m:bJ r) (n:dH w r.plan v k) :
  Calls prog 75 #[.agg (aC r t x v k)] w (rT w (Z G (cU r))):=by
 have j:=qH n;obtain ⟨⟨s,q,rfl,R,_⟩,⟨p,o,rfl,Q,_⟩⟩:=n;obtain ⟨f,g⟩:=d9 w (Obj.cells (aC r t x (J s r.plan.spots.length q) (J p r.plan.curve.length o)) 57);have A:=lS f;have a:=qH (show cU r=if cJ r.plan=0 then (if cP r.w r.h r.plan.spots=true then 0 else 3) else cJ r.plan from rfl);generalize cU r=E at *;have z:=qH (qk f);have i:=qH m;have y:=qH (fun (u:World) (B:Below w.heap.size w u)=>zF r.plan _ _ u (j.1.below B (Nat.le_refl _)));clear m;go_enter func75,ntmps75;go_wp2_with (refine oG rfl 51 _ rfl _ 7 rfl (aO r.plan (J s r.plan.spots.length q) (J p r.plan.curve.length o)) _ z.1 underlying51 rfl kR ?_)
 generalize w.alloc _=U at *;refine (y.1 _ g.1).mono ?_;rintro e O ⟨rfl,l⟩;have c:=qH (aG g.1 l);by_cases d:cJ r.plan=0
 ·rw[if_pos d] at a;rw[d];obtain ⟨C,D,H,K,L,M,N,F,I⟩:=eJ ((l.block _ A).trans f);go_wp2_with fail
  clear C D H K L M N F I;refine (sR _ r.plan.spots r.w r.h i.1.w i.1.h _ (j.1.spots.below c.1 (Nat.le_refl _))).mono ?_;rintro e P ⟨rfl,rfl⟩;cases hs:cP r.w r.h r.plan.spots
  ·have b:E=3:=(by rw[a.1,hs];rfl);subst b;go_wp2;go_ret;exact ⟨rfl,c.1⟩
  ·have b:E=0:=(by rw[a.1,hs];rfl);subst b;go_wp2;go_ret;exact ⟨rfl,c.1⟩
 ·rw[if_neg d] at a;have S:(cJ r.plan != 0)=true:=by simpa using d
  have b:E=cJ r.plan:=a.1;subst b;go_wp2;go_ret;exact ⟨rfl,c.1⟩
theorem Ew (r:av) (d f e b:Value) (w:World) (h:bJ r) :
  Calls prog 78 #[.agg (aC r d f e b)] w (rT w (Z G (aV r))):=by
 have m:=h.rows;have n:=h.h;obtain ⟨X,c⟩:=eX (r.h+r.rows-1);have a:=h.cnt_int;rw[c] at a;have l:0<=X:=oM;have p:¬r.rows=0:=oM;obtain ⟨j,g⟩:=d9 w (Obj.cells (aC r d f e b) 57);have B:IntKind.i64.wrap (r.h+r.rows)=r.h+r.rows:=ka _ oM;have D:IntKind.i64.wrap (r.h+r.rows-1)=X:=by rw[<-c];exact ka _ oM
 have k:X.tdiv r.rows=(aV r:Int):=by rw[a];exact Int.tdiv_eq_ediv_of_nonneg l
 have o:=h.cnt_le;have E:IntKind.i64.wrap (X.tdiv r.rows)=(aV r:Int):=by rw[k];exact ka _ oM
 have i:=qH a.symm;clear a;generalize aV r=C at *;obtain ⟨q,s,u,x,y,z,A,t,v⟩:=eJ j;go_enter func78,ntmps78;go_wp2;go_ret;exact ⟨aY (by first|rfl|exact i.1),g.1⟩
theorem Fe (r:av) (b f c a:Value) (i:Nat) (w:World) (h:bJ r) (m:i<aV r) :
  Calls prog 79 #[.agg (aC r b f c a),Z G i] w (rT w (Z G (aE r i))):=by
 have o:=h.rows;have p:=h.h;have s:=(h.cnt_pos i).1 m;have q:=h.cnt_le;obtain ⟨l,g⟩:=d9 w (Obj.cells (aC r b f c a) 57);have n:0<=(i:Int)*r.rows:=Int.mul_nonneg oM oM;have d:wrap64 ((i:Int)*r.rows)=i*r.rows:=IntWalk.wrap64_in _ oM;have e:wrap64 (r.h-(i:Int)*r.rows)=r.h-i*r.rows:=IntWalk.wrap64_in _ oM;have j:=qH (show min r.rows (wrap64 (r.h-wrap64 ((i:Int)*r.rows)))=aE r i by rw[d,e];rfl);have k:=qH (show min r.rows (r.h-(i:Int)*r.rows)=aE r i from rfl);clear d e;generalize aE r i=R at *;obtain ⟨t,u,x,z,A,B,C,v,y⟩:=eJ l;go_enter func79,ntmps79;go_wp2;go_ret;exact ⟨aY (by first|exact j.1|exact k.1),g.1⟩
def jd (d:Int) (xs:List Int):Bool:=xs.all fun n=>decide (n<=2 ^ d.toNat-1)
theorem FI {d:Int} {xs:List Int} (h:∀x∈xs,0<=x):jd d xs=gd d xs:=by
 unfold jd gd az
 induction xs with
 | nil=>rfl
 | cons x xs ih =>
  have a:=h x sS;rw[List.all_cons,List.all_cons,ih (fun y b=>h y (by simp[b]))];congr 1;exact decide_eq_decide.2 ⟨fun h=>⟨a,h⟩,fun h=>h.2⟩
theorem FK {d:Int} {xs:List Int} {k:Nat} (b:k<xs.length) (h:¬xs[k]<=2 ^ d.toNat-1):jd d xs=false:=by
 rw[Bool.eq_false_iff];intro a;exact h (of_decide_eq_true (List.all_eq_true.1 a _ (List.getElem_mem b)))
theorem FL {d:Int} {xs:List Int} {k:Nat} (b:k<xs.length) (h:jd d (xs.take k)=true) (a:xs[k]<=2 ^ d.toNat-1):jd d (xs.take (k+1))=true:=by
 unfold jd at h |-;rw[List.take_succ_eq_append_getElem b,List.all_append,h];simp[a]
theorem FM (v:Value) (xs:List Int) (d:Int) (w:World) (n:1<=d/\d<=16) (M:ap w v xs) :
  Calls prog 76 #[v,Z G d] w (rT w (.bool (jd d xs))):=by
 obtain ⟨s,t,u⟩:=xG n;obtain ⟨E,ca,rfl,R,I⟩:=M;have j:=qH (fun k (g:k<xs.length) (h:¬xs[k]<=2 ^ d.toNat-1)=>FK (d:=d) g h);have l:=qH (fun k (g:k<xs.length) (h:jd d (xs.take k)=true) (e:xs[k]<=2 ^ d.toNat-1)=>FL (d:=d) g h e);have y:=qH (show jd d (xs.take 0)=true from rfl);have A:=qH (show jd d xs=jd d (xs.take xs.length) by rw[List.take_length]);obtain ⟨D,rfl⟩:∃D:Nat,d=D:=⟨d.toNat,oM⟩;rw[Int.toNat_natCast] at j l s t u;generalize jd (D:Int)=C at *;obtain ⟨X,m⟩:=eX ((2:Int) ^ D);rw[m] at j l s t u;have Q:(1:Int)*2 ^ D=X:=by rw[m,Int.one_mul]
 have S:IntKind.i64.wrap X=X:=ka _ oM;have P:((1:Int) <<< D)=X:=by rw[Int.shiftLeft_eq,m,Int.one_mul]
 go_enter func76,ntmps76;go_wp2_with fail
 go_loopw [5] (fun i wr=>∃k:Nat,k<=xs.length/\i=Z G k/\Hid (C (xs.take k)=true)/\Below w.heap.size w wr) (fun i _=>xs.length-(intOf i).toNat)
 case atStart=>exact ⟨0,Nat.zero_le _,rfl,y.1,Below.refl _ _⟩
 case round =>
  obtain ⟨k,g,rfl,o,f⟩:=hrel;by_cases a:k<xs.length
  ·have n:decide ((k:Int)<(xs.length:Int))=true:=sO;obtain ⟨b,off,rfl,O,K⟩:∃b off,E=some ⟨b,off,none⟩/\b<w.heap.size/\wr.cell? ⟨b,off+k,none⟩=some (Z G xs[k]):=by
    rcases I with h|⟨b,off,F,e,H⟩
    ·rw[h] at a;simp at a
    ·exact ⟨b,off,F,e,(f.cell (p:=⟨b,off+k,none⟩) e).trans (H k a)⟩
   have c:=qH (j.1 k a);have q:=qH (l.1 k a o.out);obtain ⟨z,N⟩:=eX (xs[k]);rw[N] at K c q;by_cases r:z<=X-1
   ·have L:decide (X-1<z)=false:=decide_eq_false oM;have B:=qH (q.1 r);(go_upto_region 4 with fail);go_quiet (fail);go_wp2;go_roundw
    case rel=>exact ⟨k+1,a,gN,B.1,below_drewN f _⟩
    case measure=>simp[intOf];omega
   ·have L:decide (X-1<z)=true:=decide_eq_true oM;have x:=qH (c.1 (by first|exact r|omega));(go_upto_region 4 with fail);go_quiet (fail);go_wp2;go_ret;exact ⟨be x.1.symm,below_drewN f _⟩
  ·have n:decide ((k:Int)<(xs.length:Int))=false:=sO;obtain rfl:xs.length=k:=oM;have c:=qH (A.1.trans o.out);go_wp2;go_ret;exact ⟨be c.1.symm,f⟩
end Go.Proofs.YtfjeonehdlphiaaGreatDoor
