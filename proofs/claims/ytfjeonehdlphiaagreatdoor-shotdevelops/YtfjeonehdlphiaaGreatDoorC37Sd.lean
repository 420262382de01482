/- Part 37. -/
import Derived.Test.YtfjeonehdlphiaaGreatDoorC19Sd
import Derived.Test.YtfjeonehdlphiaaGreatDoorC34Sd
open Go.Obj renaming cells → ka
open Go.Lib renaming frozen_of_heap → kb, cell_of_heap → kd
open Nat renaming le_refl → kf, lt_of_lt_of_le → kv, le_trans → kw, zero_le → xc
open Go.IntWalk renaming i64_in → kh
open Go.RowKit.Below renaming refl → km, heap_setCell → xa
open List renaming take_succ_eq_append_getElem → kG, length_append → zc, append_assoc → zl, length_take → zo, length_drop → zv, all_eq_true → zB, range → zO, flatMap_append → qb, getElem?_append_right → qc
open Int renaming toNat_natCast → xe
open Bool renaming and_eq_true → yb
open Go.World renaming cell?_of_block → zR, size_alloc → zS
open Go.Value renaming int → Z, slice → J
open Go.IntKind renaming i64 → G
set_option linter.unusedVariables false
set_option maxHeartbeats 6400000
set_option maxRecDepth 100000
namespace Go.Proofs.YtfjeonehdlphiaaGreatDoor
open Go.RowKit
open _root_.Go.Proofs.Tryz
structure av where
 w:Int
 h:Int
 depth:Int
 kind:Int
 rows:Int
 lens:List Int
 strips:List (List UInt8)
 plan:aA
abbrev aC (r:av) (b d c a:Value):Array Value:=#[Z G r.w,Z G r.h,Z G r.depth,Z G r.kind,Z G r.rows,b,d,
 Z G r.plan.phase,Z G (r.plan.black 0),Z G (r.plan.black 1),Z G (r.plan.black 2),Z G (r.plan.black 3),Z G r.plan.white,c,Z G (r.plan.gains 0),Z G (r.plan.gains 1),Z G (r.plan.gains 2),
 Z G (r.plan.matrix 0),Z G (r.plan.matrix 1),Z G (r.plan.matrix 2),Z G (r.plan.matrix 3),Z G (r.plan.matrix 4),Z G (r.plan.matrix 5),Z G (r.plan.matrix 6),Z G (r.plan.matrix 7),Z G (r.plan.matrix 8),a,Z G r.plan.amount]
def lF (r:av):Bool:=aM r.w && aM r.h && dM r.depth && decide (1<=r.rows/\r.rows<=r.h)
def iQ (r:av):Int:=if r.kind=0 then (if r.lens.length=0 then 0 else 1) else aU r.lens
def da (r:av):Int:=if lF r=true then (if 0<=r.kind/\r.kind<=7 then iQ r else 6) else 3
def cU (r:av):Int:=if cJ r.plan=0 then (if cP r.w r.h r.plan.spots=true then 0 else 3) else cJ r.plan
def aV (r:av):Nat:=((r.h+r.rows-1) / r.rows).toNat
def aE (r:av) (i:Nat):Int:=min r.rows (r.h-i*r.rows)
def gd (d:Int) (l:List Int):Bool:=az 0 (2 ^ d.toNat-1) l
def stE (r:av) (s:List UInt8) (n:Int):Int :=
 if r.kind=0 then eM s r.depth (n*r.w) else (if bp s r.w n r.kind r.lens=0 then (if gd r.depth (cD s r.w n r.kind r.lens)=true then 0 else 1) else bp s r.w n r.kind r.lens)
def ey (r:av) (s:List UInt8) (n:Int):List Int:=if stE r s n=0 then (if r.kind=0 then en s r.depth (n*r.w) else cD s r.w n r.kind r.lens) else []
def cK (r:av) (i:Nat):List UInt8:=r.strips.getD i []
def cz (r:av) (k:Nat):List Int:=(zO k).flatMap fun i=>ey r (cK r i) (aE r i)
def fE (r:av) (k:Nat):Bool:=(zO k).all fun i=>decide (stE r (cK r i) (aE r i)=0)
theorem oe (r:av) (k:Nat):cz r (k+1)=cz r k++ey r (cK r k) (aE r k):=by simp[cz,List.range_succ]
theorem ox (r:av) (k:Nat):fE r (k+1)=(fE r k && decide (stE r (cK r k) (aE r k)=0)):=by simp[fE,List.range_succ]
theorem xM {r:av} {k n:Nat} (h:k<n) (b:stE r (cK r k) (aE r k)≠0):fE r n=false:=by
 rw[Bool.eq_false_iff];intro a;have:=zB.1 a k (List.mem_range.2 h);exact b (by simpa using this)
theorem F7 {r:av} {k n:Nat} (a:fE r n=true) (h:k<n):stE r (cK r k) (aE r k)=0:=by
 have:=zB.1 a k (List.mem_range.2 h);simpa using this
def bU (r:av):Int:=if da r=0 then (if r.strips.length=aV r then (if cU r=0 then (if fE r r.strips.length=true then 0 else 1) else cU r) else 2) else da r
def ed (r:av):List Int:=if bU r=0 then cz r r.strips.length else []
def dk (r:av):Int:=if bU r=0 then r.w else 0
def db (r:av):Int:=if bU r=0 then r.h else 0
structure bJ (r:av):Prop where
 w:1<=r.w/\r.w<=64
 h:1<=r.h/\r.h<=64
 depth:1<=r.depth/\r.depth<=16
 rows:1<=r.rows/\r.rows<=r.h
 kind:0<=r.kind/\r.kind<=7
 lens:iQ r=0
theorem nU {r:av} (h:da r=0):bJ r:=by
 unfold da at h;split at h
 ·rename_i h1;split at h
  ·rename_i h2;simp only[lF,aM,dM,yb,decide_eq_true_eq] at h1;exact ⟨h1.1.1.1,h1.1.1.2,h1.1.2,h1.2,h2,h⟩
  ·exact absurd h dD
 ·exact absurd h dD
theorem bJ.zero {r:av} (h:bJ r):da r=0:=by
 rw[da,if_pos,if_pos h.kind,h.lens];simp only[lF,aM,dM,yb,decide_eq_true_eq];exact ⟨⟨⟨h.w,h.h⟩,h.depth⟩,h.rows⟩
theorem bJ.code {r:av} (h:bJ r) (a:r.kind≠0):aU r.lens=0:=by
 have:=h.lens
 rwa [iQ,if_neg a] at this
theorem bJ.cnt_pos {r:av} (h:bJ r) (i:Nat):i<aV r↔(i:Int)*r.rows<r.h:=by
 obtain ⟨d,f⟩:=h.rows;obtain ⟨g,_⟩:=h.h;unfold aV;have a:0<r.rows:=oM;have j:0<=(r.h+r.rows-1) / r.rows:=Int.ediv_nonneg oM oM;constructor
 ·intro b;have c:(i:Int)+1<=(r.h+r.rows-1) / r.rows:=oM;have:=(Int.le_ediv_iff_mul_le a).1 c;have e:((i:Int)+1)*r.rows=i*r.rows+r.rows:=by rw[Int.add_mul,Int.one_mul]
  omega
 ·intro b;have e:((i:Int)+1)*r.rows=i*r.rows+r.rows:=by rw[Int.add_mul,Int.one_mul]
  have:(i:Int)+1<=(r.h+r.rows-1) / r.rows:=(Int.le_ediv_iff_mul_le a).2 oM;omega
theorem bJ.cnt_int {r:av} (h:bJ r):((aV r:Nat):Int)=(r.h+r.rows-1) / r.rows:=by
 obtain ⟨a,b⟩:=h.rows;have c:0<=(r.h+r.rows-1) / r.rows:=Int.ediv_nonneg oM oM;unfold aV;omega
theorem bJ.cnt_le {r:av} (h:bJ r):aV r<=64:=by
 obtain ⟨a,c⟩:=h.rows;obtain ⟨_,d⟩:=h.h;by_cases b:64<aV r
 ·have:=(h.cnt_pos 64).1 b;have:(64:Int)*1<=64*r.rows:=Int.mul_le_mul_of_nonneg_left a dD;omega
 ·omega
theorem bJ.row {r:av} (h:bJ r) {i:Nat} (a:i<aV r):1<=aE r i/\aE r i<=64:=by
 have:=(h.cnt_pos i).1 a;obtain ⟨b,c⟩:=h.rows;obtain ⟨_,d⟩:=h.h;unfold aE;omega
theorem pN {a b:Int} {A B:Int} (d:0<=a/\a<=A) (c:0<=b/\b<=B):0<=a*b/\a*b<=A*B :=
 ⟨Int.mul_nonneg d.1 c.1,Int.mul_le_mul d.2 c.2 c.1 oM⟩
theorem bJ.size {r:av} (h:bJ r) {i:Nat} (e:i<aV r):1<=aE r i*r.w/\aE r i*r.w<=4096:=by
 obtain ⟨a,b⟩:=h.row e;obtain ⟨c,d⟩:=h.w;have:=pN ⟨oM,b⟩ ⟨oM,d⟩;have:1*1<=aE r i*r.w:=Int.mul_le_mul a c dD oM;omega
theorem bJ.stE {r:av} (h:bJ r) {i:Nat} (b:i<aV r) (s:List UInt8):stE r s (aE r i)=0\/stE r s (aE r i)=1:=by
 obtain ⟨c,d⟩:=h.row b;obtain ⟨l,f⟩:=h.size b;have k:=h.w;have j:=h.depth;unfold Go.Proofs.YtfjeonehdlphiaaGreatDoor.stE;by_cases a:r.kind=0
 ·rw[if_pos a,eM,if_pos ⟨by rw[dM,decide_eq_true_eq];exact j,oM⟩,if_pos f];split
  ·exact .inl rfl
  ·exact .inr rfl
 ·rw[if_neg a];have g:=h.code a;have m:=h.kind;have e:bp s r.w (aE r i) r.kind r.lens=0\/bp s r.w (aE r i) r.kind r.lens=1:=by
   rw[bp,if_pos ⟨by rw[aM,decide_eq_true_eq];exact k,by rw[aM,decide_eq_true_eq];exact ⟨c,d⟩⟩,if_pos (by rw[eC,decide_eq_true_eq];omega),if_pos g];split
   ·exact .inl rfl
   ·exact .inr rfl
  rcases e with e|e
  ·rw[if_pos e];split
   ·exact .inl rfl
   ·exact .inr rfl
  ·rw[if_neg (by rw[e];decide)];exact .inr e
def fv (w:World) (v:Value) (ts:List (List UInt8)):Prop :=
 ∃a cap,v=J a ts.length cap/\ts.length<=9223372036854775807/\(ts=[]\/∃b off,a=some ⟨b,off,none⟩/\b<w.heap.size/\∀j,j<ts.length->w.cell? ⟨b,off+j,none⟩=some (.string (lh (ts.getD j []))))
theorem fv.below {w w':World} {v:Value} {ts:List (List UInt8)} {B:Nat} (h:fv w v ts) (a:Below B w w') (e:w.heap.size<=B):fv w' v ts:=by
 obtain ⟨d,cap,l,k,h⟩:=h;refine ⟨d,cap,l,k,?_⟩;rcases h with h|⟨b,off,f,c,g⟩
 ·exact .inl h
 ·exact .inr ⟨b,off,f,kv c a.size,fun j i=>by rw[a.cell (p:=⟨b,off+j,none⟩) (by exact kv c e)];exact g j i⟩
theorem fv.nil (w:World):fv w (J none 0 0) []:=⟨none,0,rfl,sS,.inl rfl⟩
theorem fv.at {w:World} {c:Option Addr} {ca n:Nat} {ts:List (List UInt8)} (h:fv w (J c n ca) ts) (j:Nat) (a:j<ts.length):∃b off,c=some ⟨b,off,none⟩/\b<w.heap.size/\w.cell? ⟨b,off+j,none⟩=some (.string (lh (ts.getD j []))):=by
 obtain ⟨i,cap,g,k,h⟩:=h;cases g
 rcases h with h|⟨b,off,d,f,e⟩
 ·rw[h] at a;simp at a
 ·exact ⟨b,off,d,f,e j a⟩
theorem eJ {w:World} {b:Nat} {t:TypeId} {f:Nat×Nat} {r:av} {c e d a:Value} (h:w.heap[b]?=some (.cells (aC r c e d a) t f)) :
  w.cell? ⟨b,0,none⟩=some (Z G r.w)/\w.cell? ⟨b,1,none⟩=some (Z G r.h)/\w.cell? ⟨b,2,none⟩=some (Z G r.depth)/\w.cell? ⟨b,3,none⟩=some (Z G r.kind)/\w.cell? ⟨b,4,none⟩=some (Z G r.rows) /\
  w.cell? ⟨b,5,none⟩=some c/\w.cell? ⟨b,6,none⟩=some e/\w.cell? ⟨b,13,none⟩=some d/\w.cell? ⟨b,26,none⟩=some a:=by
 refine ⟨?_,?_,?_,?_,?_,?_,?_,?_,?_⟩<;>(rw[kd h];rfl)
structure cR (w:World) (r:av) (lv tv sv cv:Value):Prop where
 lens:ap w lv r.lens
 strips:fv w tv r.strips
 plan:dH w r.plan sv cv
theorem cR.below {w w':World} {r:av} {d f e c:Value} {B:Nat} (h:cR w r d f e c) (b:Below B w w') (a:w.heap.size<=B):cR w' r d f e c :=
 ⟨h.lens.below b a,h.strips.below b a,h.plan.below b a⟩
theorem xP (r:av) (d f e b:Value) (w:World) (h:bJ r) :
  Calls prog 68 #[.agg (aC r d f e b)] w (rT w (Z G (aV r))):=by
 have m:=h.rows;have n:=h.h;obtain ⟨X,c⟩:=eX (r.h+r.rows-1);have a:=h.cnt_int;rw[c] at a;have l:0<=X:=oM;have p:¬r.rows=0:=oM;obtain ⟨j,g⟩:=d9 w (ka (aC r d f e b) 57);have B:IntKind.i64.wrap (r.h+r.rows)=r.h+r.rows:=kh _ oM;have D:IntKind.i64.wrap (r.h+r.rows-1)=X:=by rw[<-c];exact kh _ oM
 have k:X.tdiv r.rows=(aV r:Int):=by rw[a];exact Int.tdiv_eq_ediv_of_nonneg l
 have o:=h.cnt_le;have E:IntKind.i64.wrap (X.tdiv r.rows)=(aV r:Int):=by rw[k];exact kh _ oM
 have i:=qH a.symm;clear a;generalize aV r=C at *;obtain ⟨q,s,u,x,y,z,A,t,v⟩:=eJ j;go_enter func68,ntmps68;go_wp2;go_ret;exact ⟨aY (by first|rfl|exact i.1),g.1⟩
theorem xQ (r:av) (b f c a:Value) (i:Nat) (w:World) (h:bJ r) (m:i<aV r) :
  Calls prog 69 #[.agg (aC r b f c a),Z G i] w (rT w (Z G (aE r i))):=by
 have o:=h.rows;have p:=h.h;have s:=(h.cnt_pos i).1 m;have q:=h.cnt_le;obtain ⟨l,g⟩:=d9 w (ka (aC r b f c a) 57);have n:0<=(i:Int)*r.rows:=Int.mul_nonneg oM oM;have d:wrap64 ((i:Int)*r.rows)=i*r.rows:=IntWalk.wrap64_in _ oM;have e:wrap64 (r.h-(i:Int)*r.rows)=r.h-i*r.rows:=IntWalk.wrap64_in _ oM;have j:=qH (show min r.rows (wrap64 (r.h-wrap64 ((i:Int)*r.rows)))=aE r i by rw[d,e];rfl);have k:=qH (show min r.rows (r.h-(i:Int)*r.rows)=aE r i from rfl);clear d e;generalize aE r i=R at *;obtain ⟨t,u,x,z,A,B,C,v,y⟩:=eJ l;go_enter func69,ntmps69;go_wp2;go_ret;exact ⟨aY (by first|exact j.1|exact k.1),g.1⟩
theorem xG {d:Int} (h:1<=d/\d<=16):(1:Int)*2 ^ d.toNat-1=2 ^ d.toNat-1/\2 ^ d.toNat<=(65536:Int)/\(2:Int)<=2 ^ d.toNat:=by
 obtain ⟨D,rfl⟩:∃D:Nat,d=D:=⟨d.toNat,oM⟩;have a:1<=D/\D<=16:=oM;rw[xe];have:∀D:Nat,1<=D/\D<=16->(2:Int) ^ D<=65536/\(2:Int)<=2 ^ D:=by
  intro D b;rcases (show D=1\/D=2\/D=3\/D=4\/D=5\/D=6\/D=7\/D=8\/D=9\/D=10\/D=11\/D=12\/D=13\/D=14\/D=15\/D=16 from oM) with rfl|rfl|rfl|rfl|rfl|rfl|rfl|rfl|rfl|rfl|rfl|rfl|rfl|rfl|rfl|rfl<;>decide
 exact ⟨oM,this D a⟩
theorem u3 (v:Value) (xs:List Int) (d:Int) (w:World) (k:1<=d/\d<=16) (c:ap w v xs) :
  Calls prog 66 #[v,Z G d] w (rQ w (.bool (gd d xs))):=by
 have j:=qH c;obtain ⟨l,ca,rfl,_,_⟩:=c;obtain ⟨f,g,i⟩:=xG k;have a:=qH (show gd d xs=az 0 (2 ^ d.toNat-1) xs from rfl);generalize gd d xs=R at *;obtain ⟨D,rfl⟩:∃D:Nat,d=D:=⟨d.toNat,oM⟩;rw[xe] at a f g i;obtain ⟨X,b⟩:=eX ((2:Int) ^ D);rw[b] at a f g i;have n:(1:Int)*2 ^ D=X:=by rw[b,Int.one_mul]
 have o:IntKind.i64.wrap X=X:=kh _ oM;have m:((1:Int) <<< D)=X:=by rw[Int.shiftLeft_eq,b,Int.one_mul]
 go_enter func66,ntmps66;go_wp2_with fail
 refine (cF 0 (X-1) _ xs _ j.1).mono ?_;rintro e w1 ⟨rfl,rfl⟩;go_wp2;go_ret;exact ⟨be a.1.symm,rfl⟩
theorem pA (w:World) (a b:Int):ap (w.alloc (.cells #[Z G a,Z G b] 3)) (J (some ⟨w.heap.size,0,none⟩) 2 2) [a,b] :=
 ap.own (base:=w.heap.size) (World.ownsRow_lit w #[Z G a,Z G b] 2 (kf _) dD sS) sS
theorem En (r:av):lF r=(az 1 64 [r.w,r.h] && az 1 16 [r.depth] && az 1 r.h [r.rows]):=by
 simp[lF,aM,dM,az]
theorem ue (r:av) (P C B A:Value) (w:World) (N:ap w P r.lens) :
  Calls prog 63 #[.agg (aC r P C B A)] w (rT w (Z G (da r))):=by
 have R:=qH N;obtain ⟨K,ca,rfl,_,_⟩:=N;obtain ⟨t,b⟩:=d9 w (ka (aC r (J K r.lens.length ca) C B A) 57);have W:=lS t;have p:=qH (show da r=if lF r=true then (if 0<=r.kind/\r.kind<=7 then iQ r else 6) else 3 from rfl);have s:=qH (En r);have Q:=qH (show iQ r=if r.kind=0 then (if r.lens.length=0 then 0 else 1) else aU r.lens from rfl);generalize da r=E at *;obtain ⟨c,d,g,j,k,l,m,f,i⟩:=eJ t;go_enter func63,ntmps63;go_wp2_with fail
 clear c d g j k l m f i;have L:=qH (pA (w.alloc (ka (aC r (J K r.lens.length ca) C B A) 57)) r.w r.h);have D:=qH (aq (w.alloc (ka (aC r (J K r.lens.length ca) C B A) 57)) (ka #[Z G r.w,Z G r.h] 3));rw[zS] at L;generalize w.alloc _=U at *;have v:=qH (fun (u:World) (Y:Below U.heap.size U u)=>eJ ((Y.block _ W).trans t));have HA:=qH t;clear t;generalize U.alloc _=x at *;refine (cF 1 64 _ [r.w,r.h] _ L.1).mono ?_;rintro e w1 ⟨rfl,rfl⟩;cases q1:az 1 64 [r.w,r.h]
 ·have a:E=3:=by rw[p.1,s.1,q1];rfl
  subst a;go_wp2;go_ret;exact ⟨rfl,aG b.1 D.1⟩
 ·obtain ⟨c,d,g,j,k,l,m,f,i⟩:=v.1 x D.1;go_wp2_with fail
  clear c d g j k l m f i;have F:=qH (aG D.1 (aq x (ka #[Z G r.depth] 3)));refine (cF 1 16 _ [r.depth] _ (dA x r.depth)).mono ?_;rintro e w1 ⟨rfl,rfl⟩;generalize x.alloc _=y at *;cases q2:az 1 16 [r.depth]
  ·have a:E=3:=(by rw[p.1,s.1,q1,q2];rfl);subst a;go_wp2;go_ret;exact ⟨rfl,aG b.1 F.1⟩
  ·obtain ⟨c,d,g,j,k,l,m,f,i⟩:=v.1 y F.1;(go_wp2_with fail);clear c d g j k l m f i;have H:=qH (aG F.1 (aq y (ka #[Z G r.rows] 3)));refine (cF 1 r.h _ [r.rows] _ (dA y r.rows)).mono ?_;rintro e w1 ⟨rfl,rfl⟩;generalize y.alloc _=z at *;cases q3:az 1 r.h [r.rows]
   ·have a:E=3:=(by rw[p.1,s.1,q1,q2,q3];rfl);subst a;go_wp2;go_ret;exact ⟨rfl,aG b.1 H.1⟩
   ·have I:=qH (show E=if 0<=r.kind/\r.kind<=7 then iQ r else 6 by rw[p.1,s.1,q1,q2,q3];rfl);clear p s q1 q2 q3;obtain ⟨c,d,g,j,k,l,m,f,i⟩:=v.1 z H.1;(go_wp2_with fail);clear c d g j k l m f i;have n:=qH (aG H.1 (aq z (ka #[Z G r.kind] 3)));refine (cF 0 7 _ [r.kind] _ (dA z r.kind)).mono ?_;rintro e w1 ⟨rfl,rfl⟩;generalize z.alloc _=T at *;cases q4:az 0 7 [r.kind]
    ·have a:E=6:=by
      rw[I.1,if_neg];intro o;simp[az,o] at q4
     subst a;go_wp2;go_ret;exact ⟨rfl,aG b.1 n.1⟩
    ·have M:0<=r.kind/\r.kind<=7:=(by simpa [az] using q4);have q:=qH (show E=if r.kind=0 then (if r.lens.length=0 then 0 else 1) else aU r.lens by rw[I.1,if_pos M];exact Q.1);clear I q4 M;have S:=qH (R.1.below (aG b.1 n.1) (kf _));obtain ⟨c,d,g,j,k,l,m,f,i⟩:=v.1 T n.1;by_cases o:r.kind=0
     ·have V:(r.kind != 0)=false:=(by simpa using o);rw[if_pos o] at q;by_cases O:r.lens.length=0
      ·have a:E=0:=(by rw[q.1,if_pos O]);have X:decide (0<(r.lens.length:Int))=false:=decide_eq_false oM;subst a;go_wp2;go_ret;exact ⟨rfl,aG b.1 n.1⟩
      ·have a:E=1:=(by rw[q.1,if_neg O]);have X:decide (0<(r.lens.length:Int))=true:=decide_eq_true oM;subst a;go_wp2;go_ret;exact ⟨rfl,aG b.1 n.1⟩
     ·have V:(r.kind != 0)=true:=(by simpa using o);rw[if_neg o] at q;(go_wp2_with fail);refine (qX _ r.lens _ S.1).mono ?_;rintro e w1 ⟨rfl,rfl⟩;go_wp2;go_ret;exact ⟨aY q.1.symm,aG b.1 n.1⟩
theorem qk {w:World} {b:Nat} {t:TypeId} {f:Nat×Nat} {r:av} {d e c a:Value} (h:w.heap[b]?=some (.cells (aC r d e c a) t f)) :
  ∀j v,(aO r.plan c a).toList[j]?=some v->w.cell? ⟨b,7+j,none⟩=some v:=by
 intro j v g;rw[kd h,<-g,<-Array.getElem?_toList,show (aC r d e c a).toList=[Z G r.w,Z G r.h,Z G r.depth,Z G r.kind,Z G r.rows,d,e]++(aO r.plan c a).toList from rfl,qc sS];simp
theorem xi (r:av) (x z y m:Value) (w:World) (p:dH w r.plan y m) :
  Calls prog 64 #[.agg (aC r x z y m)] w (rT w (Z G (cU r))):=by
 have l:=qH p;obtain ⟨⟨v,t,rfl,Y,_⟩,⟨s,q,rfl,X,_⟩⟩:=p;obtain ⟨d,g⟩:=d9 w (ka (aC r x z (J v r.plan.spots.length t) (J s r.plan.curve.length q)) 57);have o:=lS d;have b:=qH (show cU r=if cJ r.plan=0 then (if cP r.w r.h r.plan.spots=true then 0 else 3) else cJ r.plan from rfl);generalize cU r=E at *;have C:=qH (qk d);have B:=qH (fun (u:World) (I:Below w.heap.size w u)=>uf r.plan _ _ u (l.1.below I (kf _)));go_enter func64,ntmps64;go_wp2_with (refine oG rfl 51 _ rfl _ 7 rfl (aO r.plan (J v r.plan.spots.length t) (J s r.plan.curve.length q)) _ C.1 underlying51 rfl kR ?_)
 generalize w.alloc _=U at *;refine (B.1 _ g.1).mono ?_;rintro e D ⟨rfl,i⟩;have A:=qH (aG g.1 i);by_cases f:cJ r.plan=0
 ·rw[if_pos f] at b;rw[f];obtain ⟨M,N,P,R,S,T,V,O,Q⟩:=eJ ((i.block _ o).trans d);obtain ⟨F,n⟩:=aT i (ka #[Z G r.w,Z G r.h] 95);obtain ⟨K,L⟩:=bL F;obtain ⟨_,_,_,_,_,_,_,u13,_⟩:=eJ ((n.block _ o).trans d);go_wp2_with fail
  clear M N P R S T V O Q u13 K L;generalize D.alloc _=a at *;have j:=qH (aG g.1 n);refine (rI r.w r.h _ r.plan.spots _ (l.1.spots.below j.1 (kf _))).mono ?_;rintro e W ⟨rfl,H⟩;have k:=qH (aG j.1 H);cases hs:cP r.w r.h r.plan.spots
  ·have c:E=3:=(by rw[b.1,hs];rfl);subst c;go_wp2;go_ret;exact ⟨rfl,k.1⟩
  ·have c:E=0:=(by rw[b.1,hs];rfl);subst c;go_wp2;go_ret;exact ⟨rfl,k.1⟩
 ·rw[if_neg f] at b;have hn:(cJ r.plan != 0)=true:=by simpa using f
  have c:E=cJ r.plan:=b.1;subst c;go_wp2;go_ret;exact ⟨rfl,A.1⟩
theorem oy {r:av} (d:r.kind=0) (s:List UInt8) (n:Int):stE r s n=eM s r.depth (n*r.w)/\ey r s n=en s r.depth (n*r.w):=by
 have b:stE r s n=eM s r.depth (n*r.w):=by rw[stE,if_pos d]
 refine ⟨b,?_⟩;rw[ey,b,if_pos d];split
 ·rfl
 ·rename_i hn;rw[en,if_neg];intro c;have a:=c;simp only[em,decide_eq_true_eq] at a;exact hn (by rw[eM,if_pos ⟨a.1,a.2.1⟩,if_pos a.2.2.1,if_pos c])
theorem EL (r:av) (K X W A:Value) (s:List UInt8) (n:Int) (w:World) (h:bJ r) (hn:1<=n/\n<=64) (D:ap w K r.lens) :
  Calls prog 108 #[.agg (aC r K X W A),.string (lh s),Z G n] w fun e w'=>∃v,e=.returned (.tuple #[v,Z G (stE r s n)])/\ap w' v (ey r s n)/\Below w.heap.size w w':=by
 have HL:=qH D;obtain ⟨ao,ca,rfl,_,_⟩:=D;obtain ⟨m,j⟩:=d9 w (ka (aC r (J ao r.lens.length ca) X W A) 57);have hlt:=lS m;have C:=h.depth;have I:=h.w;have H:=pN ⟨oM,hn.2⟩ ⟨oM,I.2⟩;obtain ⟨L,N,P,R,S,T,V,O,Q⟩:=eJ m;by_cases d:r.kind=0
 ·obtain ⟨o,p⟩:=oy d s n;have hk':(r.kind == 0)=true:=by simpa using d
  obtain ⟨M,hM⟩:=eX (n*r.w);rw[hM] at H o p;rw[o,p];have t1:IntKind.i64.wrap M=M:=kh _ oM;clear C I o p h;go_enter func108,ntmps108;go_wp2_with fail
  refine (GU (lh s) r.depth M _).mono ?_;rintro e w1 ⟨v,rfl,f,q⟩;rw[bP] at f |-;go_wp2;go_ret2;exact ⟨_,rfl,f,aG j.1 q⟩
 ·have hk':(r.kind == 0)=false:=by simpa using d
  have c:=qH (show stE r s n=if bp s r.w n r.kind r.lens=0 then (if gd r.depth (cD s r.w n r.kind r.lens)=true then 0 else 1) else bp s r.w n r.kind r.lens by rw[stE,if_neg d]);have l:=qH (show ey r s n=if stE r s n=0 then cD s r.w n r.kind r.lens else [] by rw[ey,if_neg d]);generalize stE r s n=E at *;generalize ey r s n=a at *;have x:=qH (fun (u:World) (hu:Below w.heap.size w u)=>EF (lh s) r.w n r.kind _ r.lens u (HL.1.below hu (kf _)));rw[bP] at x;generalize bp s r.w n r.kind r.lens=F at *;generalize cD s r.w n r.kind r.lens=Y at *;generalize dQ s r.w n r.kind r.lens=z at *;generalize dP s r.w n r.kind r.lens=t at *;clear h H;go_enter func108,ntmps108;go_wp2_with fail
  clear L N P R S T V O Q;generalize w.alloc _=U at *;refine (x.1 _ j.1).mono ?_;rintro e V1 ⟨v,rfl,f,q⟩;have HV:=qH f;obtain ⟨vo,vc,rfl,_,_⟩:=f;obtain ⟨g1,B⟩:=aT q (ka #[Z G z,Z G t,J vo Y.length vc] 54);have y:=qH (HV.1.alloc (ka #[Z G z,Z G t,J vo Y.length vc] 54));have k:=qH (aG j.1 B);obtain ⟨p0,p1,p2⟩:=al g1;obtain ⟨L,N,P,R,S,T,V,O,Q⟩:=eJ ((B.block _ hlt).trans m);by_cases i:F=0
  ·subst i;rw[if_pos rfl] at c;(go_wp2_with fail);refine (u3 _ Y r.depth _ C y.1).mono ?_;rintro e V2 ⟨rfl,rfl⟩;cases hq:gd r.depth Y
   ·have b:E=1:=(by rw[c.1,hq];rfl);have g:a=[]:=(by rw[l.1,b];rfl);subst b g;go_wp2;go_ret2;exact ⟨_,rfl,ap.nil _,k.1⟩
   ·have b:E=0:=(by rw[c.1,hq];rfl);have g:a=Y:=(by rw[l.1,b];rfl);subst b g;go_wp2;go_ret2;exact ⟨_,rfl,y.1,k.1⟩
  ·have hn':(F != 0)=true:=(by simpa using i);rw[if_neg i] at c;have b:E=F:=c.1;have g:a=[]:=(by rw[l.1,b,if_neg i]);subst b g;go_wp2;go_ret2;exact ⟨_,rfl,ap.nil _,k.1⟩
def iC (r:av) (l:List Int) (n:Int):Int:=if r.kind=0 then ke l r.depth else cM r.w n l r.kind r.lens
def ks (r:av) (l:List Int) (n:Int):List UInt8:=if r.kind=0 then kF l r.depth else ch r.w n l r.kind r.lens
theorem Hv (r:av) (g j i c:Value) (v:Value) (l:List Int) (n:Int) (w:World) (d:ap w g r.lens) (f:ap w v l) (b:¬r.kind=0) :
  Calls prog 70 #[.agg (aC r g j i c),v,Z G n] w (rT w (.tuple #[.string (lh (ks r l n)),Z G (iC r l n)])):=by
 have k:=qH d;have m:=qH f;obtain ⟨p,ca,rfl,_,_⟩:=d;obtain ⟨F,E,rfl,_,_⟩:=f;obtain ⟨o,a⟩:=d9 w (ka (aC r (J p r.lens.length ca) j i c) 57);obtain ⟨s,t,x,z,A,B,C,u,y⟩:=eJ o;have D:(r.kind == 0)=false:=by simpa using b
 rw[ks,iC,if_neg b,if_neg b];go_enter func70,ntmps70;go_wp2_with fail
 clear s t x z A B C u y;refine (Hr r.w n _ _ l r.kind r.lens _ (m.1.below a.1 (kf _)) (k.1.below a.1 (kf _))).mono ?_;rintro e w1 ⟨rfl,q⟩;go_wp2;go_ret2;exact ⟨rfl,aG a.1 q⟩
def bW (n:Int):Prop:=-2147483648<=n/\n<=2147483647
instance (n:Int):Decidable (bW n):=inferInstanceAs (Decidable (_/\_))
def bR (n:Int):List UInt8 :=
 [UInt8.ofNat ((n % 4294967296).toNat / 16777216 % 256),UInt8.ofNat ((n % 4294967296).toNat / 65536 % 256),UInt8.ofNat ((n % 4294967296).toNat / 256 % 256),UInt8.ofNat ((n % 4294967296).toNat % 256)]
def u32 (a b c d:UInt8):Nat:=a.toNat*16777216+b.toNat*65536+c.toNat*256+d.toNat
def ii (u:Nat):Int:=if u<2147483648 then u else u-4294967296
def aH:List UInt8->Option (Int×List UInt8)
 | a::b::c::d::t=>some (ii (u32 a b c d),t)
 | _=>none
theorem kC (n:Int):(bR n).length=4:=rfl
theorem Da (a b c d:UInt8):bR (ii (u32 a b c d))=[a,b,c,d]:=by
 have j:=a.toNat_lt;have k:=b.toNat_lt;have l:=c.toNat_lt;have m:=d.toNat_lt;have e:(ii (u32 a b c d) % 4294967296).toNat=u32 a b c d:=by
  unfold ii u32;split<;>omega
 unfold bR;rw[e];unfold u32;have f:(a.toNat*16777216+b.toNat*65536+c.toNat*256+d.toNat) / 16777216 % 256=a.toNat:=oM;have g:(a.toNat*16777216+b.toNat*65536+c.toNat*256+d.toNat) / 65536 % 256=b.toNat:=oM;have h:(a.toNat*16777216+b.toNat*65536+c.toNat*256+d.toNat) / 256 % 256=c.toNat:=oM;have i:(a.toNat*16777216+b.toNat*65536+c.toNat*256+d.toNat) % 256=d.toNat:=oM;rw[f,g,h,i];simp
theorem FH (a b c d:UInt8):bW (ii (u32 a b c d)):=by
 have e:=a.toNat_lt;have f:=b.toNat_lt;have g:=c.toNat_lt;have h:=d.toNat_lt;unfold bW ii u32;split<;>omega
theorem iu {n:Int} (h:bW n) (t:List UInt8):aH (bR n++t)=some (n,t):=by
 show some (ii (u32 _ _ _ _),t)=_;congr 2;unfold bW at h;obtain ⟨N,a⟩:=eX ((n % 4294967296).toNat);have b:N<4294967296:=oM;rw[a];unfold u32;simp only[UInt8.toNat_ofNat'];unfold ii;split<;>omega
structure lQ {α:Type} (p:List UInt8->Option (α×List UInt8)) (wr:α->List UInt8) (ok:α->Prop):Prop where
 sound:∀l a t,p l=some (a,t)->l=wr a++t/\ok a
 full:∀a t,ok a->p (wr a++t)=some (a,t)
theorem ej:lQ aH bR bW where
 sound:=by
  intro l n t h
  match l,h with
  | a::b::c::d::t',h =>
   simp only[aH,Option.some.injEq,Prod.mk.injEq] at h;obtain ⟨rfl,rfl⟩:=h;exact ⟨by rw[Da];rfl,FH a b c d⟩
 full:=fun n t h=>iu h t
def bO {α:Type} (p:List UInt8->Option (α×List UInt8)):Nat->List UInt8->Option (List α×List UInt8)
 | 0,l=>some ([],l)
 | k+1,l=>match bO p k l with
  | none=>none
  | some (ys,t)=>match p t with
   | none=>none
   | some (a,t')=>some (ys++[a],t')
theorem rP {α:Type} {p:List UInt8->Option (α×List UInt8)} {k n:Nat} {l:List UInt8} (h:bO p k l=none) (a:k<=n):bO p n l=none:=by
 induction n with
 | zero=>rw[Nat.le_zero.1 a] at h;exact h
 | succ n ih =>
  by_cases e:k=n+1
  ·rw[<-e];exact h
  ·rw[bO,ih oM]
theorem mf {α:Type} {p:List UInt8->Option (α×List UInt8)} {k n:Nat} {l t:List UInt8} {c:List α} (h:bO p k l=some (c,t)) (b:p t=none) (a:k<n):bO p n l=none :=
 rP (k:=k+1) (by rw[bO,h];simp only[b]) a
theorem oa {α:Type} {p:List UInt8->Option (α×List UInt8)} {k:Nat} {l t t':List UInt8} {b:List α} {a:α} (h:bO p k l=some (b,t)) (c:p t=some (a,t')):bO p (k+1) l=some (b++[a],t'):=by
 rw[bO,h];simp only[c]
theorem iS {α:Type} {p:List UInt8->Option (α×List UInt8)} {n:Nat} {l t:List UInt8} {a:List α} (h:bO p n l=some (a,t)):a.length=n:=by
 induction n generalizing a t with
 | zero=>simp only[bO,Option.some.injEq,Prod.mk.injEq] at h;rw[<-h.1];rfl
 | succ n ih =>
  rw[bO] at h;split at h
  ·exact absurd h sS
  ·rename_i ys' t' h1;split at h
   ·exact absurd h sS
   ·simp only[Option.some.injEq,Prod.mk.injEq] at h;rw[<-h.1,zc,ih h1];rfl
theorem kB {α:Type} {p:List UInt8->Option (α×List UInt8)} {wr:α->List UInt8} {k:α->Prop} (c:lQ p wr k) (n:Nat):lQ (bO p n) (fun d=>d.flatMap wr) (fun d=>d.length=n/\∀a∈d,k a) where
 sound:=by
  intro l d t h;refine ⟨?_,iS h,?_⟩
  ·induction n generalizing d t with
   | zero=>simp only[bO,Option.some.injEq,Prod.mk.injEq] at h;rw[<-h.1,<-h.2];rfl
   | succ n ih =>
    rw[bO] at h;split at h
    ·exact absurd h sS
    ·rename_i ys' t' f;split at h
     ·exact absurd h sS
     ·rename_i a t'' i;simp only[Option.some.injEq,Prod.mk.injEq] at h;rw[ih ys' t' f,(c.sound _ _ _ i).1,<-h.1,<-h.2];simp
  ·induction n generalizing d t with
   | zero=>simp only[bO,Option.some.injEq,Prod.mk.injEq] at h;rw[<-h.1];simp
   | succ n ih =>
    rw[bO] at h;split at h
    ·exact absurd h sS
    ·rename_i ys' t' f;split at h
     ·exact absurd h sS
     ·rename_i a t'' i;simp only[Option.some.injEq,Prod.mk.injEq] at h;intro b j;rw[<-h.1,List.mem_append] at j;rcases j with j|j
      ·exact ih ys' t' f b j
      ·rw[List.mem_singleton.1 j];exact (c.sound _ _ _ i).2
 full:=by
  intro d t h;obtain ⟨f,i⟩:=h
  induction n generalizing d t with
  | zero=>rw[List.eq_nil_of_length_eq_zero f];rfl
  | succ n ih =>
   obtain ⟨g,b,rfl⟩:∃g b,d=g++[b]:=⟨d.dropLast,d.getLast (by intro e;rw[e] at f;simp at f),(List.dropLast_concat_getLast _).symm⟩;have m:g.length=n:=(by simpa using f);have:=ih g (wr b++t) m (fun a o=>i a (by simp[o]));rw[bO,show (fun d=>List.flatMap wr d) (g++[b])++t=g.flatMap wr++(wr b++t) from sS,this];simp only[c.full b t (i b sS)]
def eE {α:Type} (p:List UInt8->Option (α×List UInt8)) (b:List UInt8->Nat) (l:List UInt8):Option (List α×List UInt8) :=
 match aH l with
 | none=>none
 | some (n,t)=>if 0<=n/\n<=(b t:Int) then bO p n.toNat t else none
def jX {α:Type} (wr:α->List UInt8) (a:List α):List UInt8:=bR a.length++a.flatMap wr
theorem pI {α:Type} {p:List UInt8->Option (α×List UInt8)} {wr:α->List UInt8} {f:α->Prop} (c:lQ p wr f) {b:List UInt8->Nat} {l:List UInt8} {d:List α} {t:List UInt8} (h:eE p b l=some (d,t)) :
  l=jX wr d++t/\(∀a∈d,f a)/\bW d.length/\d.length<=b (d.flatMap wr++t):=by
 rw[eE] at h;split at h
 ·exact absurd h sS
 ·rename_i n u h1;split at h
  ·rename_i h2;obtain ⟨g,m,i⟩:=(kB c n.toNat).sound _ _ _ h;obtain ⟨j,k⟩:=ej.sound _ _ _ h1;have e:((d.length:Nat):Int)=n:=oM;subst g;refine ⟨?_,i,by rw[e];exact k,oM⟩;rw[j,jX,e,zl]
  ·exact absurd h sS
theorem pH {α:Type} {p:List UInt8->Option (α×List UInt8)} {wr:α->List UInt8} {e:α->Prop} (c:lQ p wr e) {b:List UInt8->Nat} {d:List α} {t:List UInt8} (f:∀a∈d,e a) (g:bW d.length) (h:d.length<=b (d.flatMap wr++t)) :
  eE p b (jX wr d++t)=some (d,t):=by
 rw[eE,jX,zl,iu g];simp only;rw[if_pos ⟨oM,oM⟩,xe];exact (kB c d.length).full d t ⟨rfl,f⟩
def cn (l:List UInt8):Option (List UInt8×List UInt8) :=
 match aH l with
 | none=>none
 | some (n,t)=>if 0<=n/\n<=(t.length:Int) then some (t.take n.toNat,t.drop n.toNat) else none
def ez (s:List UInt8):List UInt8:=bR s.length++s
theorem nv:lQ cn ez (fun s=>bW s.length) where
 sound:=by
  intro l s t h;rw[cn] at h;split at h
  ·exact absurd h sS
  ·rename_i n u h1;split at h
   ·rename_i h2;obtain ⟨a,b⟩:=ej.sound _ _ _ h1;simp only[Option.some.injEq,Prod.mk.injEq] at h;obtain ⟨rfl,rfl⟩:=h;have e:((u.take n.toNat).length:Int)=n:=(by rw[zo];omega);exact ⟨by rw[ez,e,zl,List.take_append_drop,a],by rw[e];exact b⟩
   ·exact absurd h sS
 full:=by
  intro s t h;rw[cn,ez,zl,iu h];simp only;rw[if_pos ⟨oM,by rw[zc];omega⟩,xe,List.take_left' rfl,List.drop_left' rfl]
def cI (l:List UInt8):Option (Pt×List UInt8) :=
 match aH l with
 | none=>none
 | some (x,t)=>match aH t with
  | none=>none
  | some (y,u)=>some ((x,y),u)
def ep (p:Pt):List UInt8:=bR p.1++bR p.2
theorem ob:lQ cI ep (fun p=>bW p.1/\bW p.2) where
 sound:=by
  intro l p t h;rw[cI] at h;split at h
  ·exact absurd h sS
  ·rename_i x u h1;split at h
   ·exact absurd h sS
   ·rename_i y v h2;simp only[Option.some.injEq,Prod.mk.injEq] at h;obtain ⟨rfl,rfl⟩:=h;obtain ⟨a,b⟩:=ej.sound _ _ _ h1;obtain ⟨c,d⟩:=ej.sound _ _ _ h2;exact ⟨by rw[ep,zl,<-c,a],b,d⟩
 full:=by
  intro p t h;rw[cI,ep,zl,iu h.1];simp only;rw[iu h.2]
abbrev mZ:Value:=.iface 25 (Z G 1)
abbrev qa:Ending:=.panicked [{ v:=mZ,recovered:=false }]
structure cB (B b:Nat) (w w':World):Prop where
 bel:Below B w w'
 keep:∀k,k<w.heap.size->k≠b->w'.heap[k]?=w.heap[k]?
theorem cB.trans {B b:Nat} {w w' d:World} (h:cB B b w w') (k:cB B b w' d):cB B b w d :=
 ⟨h.bel.trans k.bel,fun j a c=>(k.keep j (kv a h.bel.size) c).trans (h.keep j a c)⟩
theorem cB.alloc {B b:Nat} {w:World} (c:B<=w.heap.size) (o:Obj):cB B b w (w.alloc o):=⟨(aq w o).mono c,fun k a _=>(aq w o).block k a⟩
theorem cB.drew {B b:Nat} {w:World}:cB B b w w.drew:=⟨(km _ _).drew,fun _ _ _=>rfl⟩
theorem cB.drews (B b n:Nat) (w:World):cB B b w (w.drewN n):=⟨⟨rfl,rfl,rfl,kf _,fun _ _=>rfl⟩,fun _ _ _=>rfl⟩
def dT (b:Nat) (l:List UInt8) (w:World):Prop:=w.heap[b]?=some (.cells #[.string (lh l)] 200 (0,0))
def oK {α:Type} (B b:Nat) (l:List UInt8) (w:World) (p:List UInt8->Option (α×List UInt8)) (c:α->Value) (e:Ending) (w':World):Prop :=
 cB B b w w'/\((∃a t,p l=some (a,t)/\e=.returned (c a)/\dT b t w')\/(p l=none/\e=qa))
theorem pQ (w:World):Calls prog 159 #[.bool true] w fun e w'=>e=.returned (.tuple #[])/\w'=w:=by
 go_enter func159,ntmps159;go_wp2;go_end0;exact ⟨rfl,rfl⟩
theorem pP (w:World):Calls prog 159 #[.bool false] w fun e w'=>e=qa/\w'=w:=by
 go_enter func159,ntmps159;go_wp2;exact ⟨rfl,rfl,rfl⟩
def kO (n:Int) (l:List UInt8):Option (List UInt8×List UInt8):=if 0<=n/\n<=(l.length:Int) then some (l.take n.toNat,l.drop n.toNat) else none
theorem EB {B b:Nat} {l t:List UInt8} {w:World} (a:B<=b) (h:dT b l w):dT b t (w.setCell ⟨b,0,none⟩ (.string (lh t)))/\cB B b w (w.setCell ⟨b,0,none⟩ (.string (lh t))):=by
 refine ⟨?_,(km B w).setCell (p:=⟨b,0,none⟩) a _,fun k _ c=>xa _ _ _ _ (fun e=>c e)⟩;unfold dT at h |-;simp[World.setCell,Array.getElem?_modify,h]
theorem nl {b:Nat} {l:List UInt8} {w:World} (h:dT b l w) (o:Obj):dT b l (w.alloc o):=((aq w o).block _ (lS h)).trans h
theorem xA (B b:Nat) (l:List UInt8) (n:Int) (w:World) (u:B<=b) (v:B<=w.heap.size) (h:dT b l w) (D:l.length<=140737488355328) :
  Calls prog 194 #[.pointer (some ⟨b,0,none⟩),Z G n] w (oK B b l w (kO n) (fun s=>.string (lh s))):=by
 have y:w.cell? ⟨b,0,none⟩=some (.string (lh l)):=kd h _;have a:=nl h (ka #[Z G n] 3);have z:(w.alloc (ka #[Z G n] 3)).cell? ⟨b,0,none⟩=some (.string (lh l)):=kd a _;have A:(w.alloc (ka #[Z G n] 3)).frozen? ⟨b,0,none⟩=false:=kb a 0;have i:=qH (cB.alloc (b:=b) v (ka #[Z G n] 3));have c:=qH (show kO n l=if 0<=n/\n<=(l.length:Int) then some (l.take n.toNat,l.drop n.toNat) else none from rfl);have g:=qH (dA w n);have E:(lh l).size=l.length:=bn l;by_cases d:0<=n/\n<=(l.length:Int)
 ·obtain ⟨N,rfl⟩:=Int.eq_ofNat_of_zero_le d.1;have C:N<=l.length:=oM;rw[if_pos d,xe] at c;have p:=qH (show (lh l).extract 0 N=lh (l.take N) by rw[Lib.extract_eq];simp[lh]);have q:=qH (show (lh l).extract N l.length=lh (l.drop N) by rw[Lib.extract_eq,bP,List.take_of_length_le (by rw[zv];exact kf _)];rfl);have f:=qH (show az 0 l.length [(N:Int)]=true by simp[az];omega);obtain ⟨j,k⟩:=EB (B:=B) (t:=l.drop N) u a;have m:=qH j;have o:=qH (i.1.trans k);clear j k h a;generalize lh l=S at *;go_enter func194,ntmps194;go_wp2_with fail
  refine (cF 0 l.length _ [(N:Int)] _ g.1).mono ?_;rintro e w1 ⟨rfl,rfl⟩;rw[f.1];go_wp2_with fail
  refine (pQ _).mono ?_;rintro e w1 ⟨rfl,rfl⟩;go_wp2;go_ret;have r:=q.1;rw[r];exact ⟨o.1,.inl ⟨_,_,c.1,congrArg (fun x=>Ending.returned (.string x)) p.1,m.1⟩⟩
 ·rw[if_neg d] at c;have f:=qH (show az 0 l.length [n]=false by simp only[az,List.all_cons,List.all_nil,Bool.and_true];exact decide_eq_false d);clear h a;generalize lh l=S at *;go_enter func194,ntmps194;go_wp2_with fail
  refine (cF 0 l.length _ [n] _ g.1).mono ?_;rintro e w1 ⟨rfl,rfl⟩;rw[f.1];go_wp2_with fail
  refine (pP _).mono ?_;rintro e w1 ⟨rfl,rfl⟩;exact ⟨rfl,i.1,.inr ⟨c.1,rfl⟩⟩
theorem sa {x y:Int} (i:Nat) (b:0<=x) (a:x % 2 ^ i=0) (c:x<2 ^ 32) (d:0<=y) (e:y<2 ^ i) (f:y<2 ^ 32):bits .or .u32 x y=x+y :=
 bits_join .u32 32 dD (fun n g h=>by rw[IntKind.wrap_u32];omega) i x y b a c d e f
theorem Hq (U:Nat) (h:U<4294967296):wrap64 (wrap32 (U:Int))=ii U:=by
 unfold ii wrap64 wrap32;split<;>omega
theorem Hb (a b c d:UInt8):wrap64 (wrap32 (bits .or .u32 (bits .or .u32 (bits .or .u32 (((a.toNat:Int)) % 4294967296*16777216 % 4294967296) ((b.toNat:Int) % 4294967296*65536 % 4294967296)) ((c.toNat:Int) % 4294967296*256 % 4294967296)) ((d.toNat:Int) % 4294967296)))=ii (u32 a b c d):=by
 have m:=a.toNat_lt;have n:=b.toNat_lt;have o:=c.toNat_lt;have p:=d.toNat_lt;have l:u32 a b c d<4294967296:=by unfold u32;omega
 rw[<-Hq _ l];congr 2;have e:(a.toNat:Int) % 4294967296*16777216 % 4294967296=a.toNat*16777216:=oM;have f:(b.toNat:Int) % 4294967296*65536 % 4294967296=b.toNat*65536:=oM;have g:(c.toNat:Int) % 4294967296*256 % 4294967296=c.toNat*256:=oM;have h:(d.toNat:Int) % 4294967296=d.toNat:=oM;rw[e,f,g,h];have i:bits .or .u32 ((a.toNat:Int)*16777216) ((b.toNat:Int)*65536)=(a.toNat:Int)*16777216+(b.toNat:Int)*65536:=sa 24 oM oM oM oM oM oM;have j:bits .or .u32 ((a.toNat:Int)*16777216+(b.toNat:Int)*65536) ((c.toNat:Int)*256)=(a.toNat:Int)*16777216+(b.toNat:Int)*65536+(c.toNat:Int)*256:=sa 16 oM oM oM oM oM oM;have k:bits .or .u32 ((a.toNat:Int)*16777216+(b.toNat:Int)*65536+(c.toNat:Int)*256) (d.toNat:Int)=(a.toNat:Int)*16777216+(b.toNat:Int)*65536+(c.toNat:Int)*256+d.toNat:=sa 8 oM oM oM oM oM oM;rw[i,j,k,u32];omega
theorem gJ (B b:Nat) (l:List UInt8) (w:World) (m:B<=b) (o:B<=w.heap.size) (h:dT b l w) (q:l.length<=140737488355328) :
  Calls prog 161 #[.pointer (some ⟨b,0,none⟩)] w (oK B b l w aH (fun n=>Z G n)):=by
 have d:=au (xA B b l 4 w m o h q)
 match l,d with
 | c0::c1::c2::c3::t,d =>
  have g:=qH (show kO 4 (c0::c1::c2::c3::t)=some ([c0,c1,c2,c3],t) by rw[kO,if_pos ⟨dD,sO⟩];rfl);have r:(lh [c0,c1,c2,c3]).size=4:=rfl;go_enter func161,ntmps161;go_wp2_with fail
  refine (d.out).mono ?_;rintro e w1 ⟨f,c⟩;rw[g.1] at c;obtain ⟨a,u,p,rfl,i⟩:∃a u,some ([c0,c1,c2,c3],t)=some (a,u)/\e=.returned (.string (lh a))/\dT b u w1:=by
   rcases c with c|⟨c,_⟩
   ·exact c
   ·cases c
  cases p
  have j:=qH i;have k:=qH f;clear i f d h;go_upto_region 2 with fail
  go_quiet (fail);go_wp2;go_ret;exact ⟨k.1.trans (cB.drews _ _ _ _),.inl ⟨_,_,rfl,aY (Hb c0 c1 c2 c3),j.1⟩⟩
 | [],d =>
  have g:=qH (show kO 4 []=none from rfl);go_enter func161,ntmps161;go_wp2_with fail
  refine (d.out).mono ?_;rintro e w1 ⟨f,c⟩;rw[g.1] at c;rcases c with ⟨_,_,c,_⟩|⟨_,rfl⟩
  ·cases c
  ·exact ⟨rfl,f,.inr ⟨rfl,rfl⟩⟩
 | [x0],d =>
  have g:=qH (show kO 4 [x0]=none from rfl);go_enter func161,ntmps161;go_wp2_with fail
  refine (d.out).mono ?_;rintro e w1 ⟨f,c⟩;rw[g.1] at c;rcases c with ⟨_,_,c,_⟩|⟨_,rfl⟩
  ·cases c
  ·exact ⟨rfl,f,.inr ⟨rfl,rfl⟩⟩
 | [x0,x1],d =>
  have g:=qH (show kO 4 [x0,x1]=none from rfl);go_enter func161,ntmps161;go_wp2_with fail
  refine (d.out).mono ?_;rintro e w1 ⟨f,c⟩;rw[g.1] at c;rcases c with ⟨_,_,c,_⟩|⟨_,rfl⟩
  ·cases c
  ·exact ⟨rfl,f,.inr ⟨rfl,rfl⟩⟩
 | [x0,x1,x2],d =>
  have g:=qH (show kO 4 [x0,x1,x2]=none from rfl);go_enter func161,ntmps161;go_wp2_with fail
  refine (d.out).mono ?_;rintro e w1 ⟨f,c⟩;rw[g.1] at c;rcases c with ⟨_,_,c,_⟩|⟨_,rfl⟩
  ·cases c
  ·exact ⟨rfl,f,.inr ⟨rfl,rfl⟩⟩
theorem GA {l t:List UInt8} {n:Int} (h:aH l=some (n,t)):cn l=kO n t:=by rw[cn,h];rfl
theorem rX {l t:List UInt8} {n:Int} (h:aH l=some (n,t)):t.length+4=l.length:=by
 rw[(ej.sound _ _ _ h).1,zc,kC];omega
def la (m:Nat) (l:List UInt8):Option (Int×List UInt8):=match aH l with
 | none=>none
 | some (n,t)=>if 0<=n/\n<=(m:Int) then some (n,t) else none
theorem xB (B b:Nat) (l:List UInt8) (w:World) (k:B<=b) (m:B<=w.heap.size) (h:dT b l w) (z:l.length<=140737488355328) :
  Calls prog 160 #[.pointer (some ⟨b,0,none⟩)] w (oK B b l w cn (fun s=>.string (lh s))):=by
 have HN:=qH (gJ B b l w k m h z);clear h;go_enter func160,ntmps160;go_wp2_with fail
 refine (HN.1).mono ?_;rintro e w1 ⟨g,x⟩;rcases x with ⟨n,t,c,rfl,o⟩|⟨c,rfl⟩
 ·have j:=qH (GA c);have A:=rX c;have f:=qH g;go_wp2_with fail
  refine (xA B b t n w1 k (kw m f.1.bel.size) o oM).mono ?_;rintro e w2 ⟨i,y⟩;rcases y with ⟨a,u,d,rfl,p⟩|⟨d,rfl⟩
  ·have r:=qH p;have v:=qH (f.1.trans i);have q:=qH (j.1.trans d);clear c d o g i p;go_wp2;go_ret;exact ⟨v.1,.inl ⟨_,_,q.1,rfl,r.1⟩⟩
  ·exact ⟨rfl,f.1.trans i,.inr ⟨j.1.trans d,rfl⟩⟩
 ·exact ⟨rfl,g,.inr ⟨by rw[cn,c],rfl⟩⟩
theorem qq (B b m:Nat) (l:List UInt8) (w:World) (p:B<=b) (j:B<=w.heap.size) (h:dT b l w) (r:l.length<=140737488355328) :
  Calls prog 162 #[.pointer (some ⟨b,0,none⟩),Z G m] w (oK B b l w (la m) (fun n=>Z G n)):=by
 have HN:=qH (gJ B b l w p j h r);clear h;go_enter func162,ntmps162;go_wp2_with fail
 refine (HN.1).mono ?_;rintro e w1 ⟨d,q⟩;rcases q with ⟨n,t,f,rfl,k⟩|⟨f,rfl⟩
 ·have c:=qH (show la m l=if 0<=n/\n<=(m:Int) then some (n,t) else none by rw[la,f]);have o:=qH (nl k (ka #[Z G n] 3));have i:=qH (d.trans (cB.alloc (b:=b) (kw j d.bel.size) (ka #[Z G n] 3)));have g:=qH (show az 0 m [n]=decide (0<=n/\n<=(m:Int)) by simp[az]);clear f k d;go_wp2_with fail
  refine (cF 0 m _ [n] _ (dA w1 n)).mono ?_;rintro e w2 ⟨rfl,rfl⟩;rw[g.1];by_cases a:0<=n/\n<=(m:Int)
  ·rw[if_pos a] at c;rw[decide_eq_true a];clear a g;(go_wp2_with fail);refine (pQ _).mono ?_;rintro e s ⟨rfl,rfl⟩;go_wp2;go_ret;exact ⟨i.1,.inl ⟨_,_,c.1,rfl,o.1⟩⟩
  ·rw[if_neg a] at c;rw[decide_eq_false a];clear a g;(go_wp2_with fail);refine (pP _).mono ?_;rintro e s ⟨rfl,rfl⟩;exact ⟨rfl,i.1,.inr ⟨c.1,rfl⟩⟩
 ·exact ⟨rfl,d,.inr ⟨by rw[la,f],rfl⟩⟩
structure gp (B b g:Nat) (w w':World):Prop where
 bel:Below B w w'
 keep:∀k,k<w.heap.size->k≠b->k≠g->w'.heap[k]?=w.heap[k]?
theorem cB.two {B b g:Nat} {w w':World} (h:cB B b w w'):gp B b g w w':=⟨h.bel,fun k a c _=>h.keep k a c⟩
theorem gp.refl (B b g:Nat) (w:World):gp B b g w w:=⟨km _ _,fun _ _ _ _=>rfl⟩
theorem gp.trans {B b g:Nat} {w w' e:World} (h:gp B b g w w') (k:gp B b g w' e):gp B b g w e :=
 ⟨h.bel.trans k.bel,fun j a c d=>(k.keep j (kv a h.bel.size) c d).trans (h.keep j a c d)⟩
def bx (g:Nat) (t:TypeId) (a:List Value) (w:World):Prop:=w.heap[g]?=some (.cells a.toArray t (0,0))
theorem bx.set {B b g:Nat} {t:TypeId} {a:List Value} {w:World} (h:bx g t a w) (c:B<=g) (i:Nat) (v:Value) (f:v.oneCell'=true):bx g t (a.set i v) (w.setCell ⟨g,i,none⟩ v)/\gp B b g w (w.setCell ⟨g,i,none⟩ v):=by
 refine ⟨?_,(km B w).setCell (p:=⟨g,i,none⟩) c _,fun k _ _ d=>xa _ _ _ _ (fun e=>d e)⟩;unfold bx at h |-;simp[World.setCell,Array.getElem?_modify,h]
def dw (a:List Value) (o:Nat) (xs:List Value):List Value:=a.take o++xs++a.drop (o+xs.length)
theorem DI (a:List Value) (o:Nat):dw a o []=a:=by simp[dw]
theorem qh (a:List Value) (o:Nat) (xs:List Value) (v:Value) (h:o+xs.length<a.length):(dw a o xs).set (o+xs.length) v=dw a o (xs++[v]):=by
 have b:(a.take o++xs).length=o+xs.length:=sO;unfold dw;rw[List.set_append_right _ _ oM,b,Nat.sub_self,List.drop_eq_getElem_cons h,List.set_cons_zero];simp[Nat.add_assoc]
theorem qg (a:List Value) (o:Nat) (xs:List Value) (h:o+xs.length<a.length):(dw a o xs)[o+xs.length]?=a[o+xs.length]?:=by
 unfold dw;rw[qc sO];simp;congr 1;omega
theorem qs (B b g off N c:Nat) (t:TypeId) (d:List Value) (l:List UInt8) (w:World) (S:B<=b) (T:B<=g) (O:g≠b) (U:B<=w.heap.size) (h:dT b l w) (hl:l.length<=140737488355328) (M:bx g t d w) (hN:off+N<=d.length) (hN2:N<=1048576) (Y:∀i,i<N->∃z:Int,d[off+i]?=some (Z G z)) :
  Calls prog 163 #[.pointer (some ⟨b,0,none⟩),J (some ⟨g,off,none⟩) N c] w fun e w'=>gp B b g w w'/\((∃a u,bO aH N l=some (a,u)/\e=.returned (.tuple #[])/\dT b u w'/\bx g t (dw d off (a.map (Z .i64))) w')\/(bO aH N l=none/\e=qa)):=by
 have F:=qH h;have D:=qH M;clear h M;go_enter func163,ntmps163;go_wp2_with fail
 go_loopw [7] (fun i wr=>∃k:Nat,k<=N/\i=Z G k/\∃a u,bO aH k l=some (a,u)/\dT b u wr/\bx g t (dw d off (a.map (Z .i64))) wr/\gp B b g w wr) (fun i _=>N-(intOf i).toNat)
 case atStart=>exact ⟨0,xc _,rfl,[],l,rfl,F.1,by rw[List.map_nil,DI];exact D.1,gp.refl _ _ _ _⟩
 case round =>
  clear F D;obtain ⟨k,hk,rfl,a,u,j,x,s,y⟩:=hrel;have X:=iS j;have hul:u.length<=l.length:=by rw[((kB ej k).sound _ _ _ j).1];simp
  by_cases A:k<N
  ·have W:decide ((k:Int)<(N:Int))=true:=sO;have H:=qH j;have R:=qH x;have E:=qH s;have r:=qH y;clear j x s y;(go_wp2_with fail);refine (gJ B b u wr S (kw U r.1.bel.size) R.1 oM).mono ?_;rintro e w1 ⟨o,V⟩;rcases V with ⟨n,t1,p,rfl,I⟩|⟨p,rfl⟩
   ·have m:bx g t (dw d off (a.map (Z .i64))) w1:=(o.keep g (lS E.1) O).trans E.1;obtain ⟨z,P⟩:=Y k A;have q:(a.map (Z .i64)).length=k:=(by rw[List.length_map,X]);have c1:w1.cell? ⟨g,off+k,none⟩=some (Z G z):=by
     rw[kd m];have:=qg d off (a.map (Z .i64)) (by rw[q];omega);rw[q] at this;simp[this,P]
    have f1:w1.frozen? ⟨g,off+k,none⟩=false:=kb m _;obtain ⟨v,L⟩:=m.set (B:=B) (b:=b) T (off+k) (Z G n) rfl;have K:dT b t1 (w1.setCell ⟨g,off+k,none⟩ (Z G n)):=(xa _ _ _ _ (fun e=>O e.symm)).trans I;have C:=qh d off (a.map (Z .i64)) (Z G n) (by rw[q];omega);rw[q] at C;rw[C,<-List.map_singleton (f:=Z .i64),<-List.map_append] at v;have Q:=qH (show ∃a u,bO aH (k+1) l=some (a,u)/\dT b u (w1.setCell ⟨g,off+k,none⟩ (Z G n))/\bx g t (dw d off (a.map (Z .i64))) (w1.setCell ⟨g,off+k,none⟩ (Z G n))/\gp B b g w (w1.setCell ⟨g,off+k,none⟩ (Z G n)) from ⟨_,_,oa H.1 p,K,v,r.1.trans (o.two.trans L)⟩);clear m v L K C p o I P;go_wp2;go_roundw
    case rel=>exact ⟨k+1,A,gN,Q.1⟩
    case measure=>simp[intOf];omega
   ·exact ⟨rfl,r.1.trans o.two,.inr ⟨mf H.1 p A,rfl⟩⟩
  ·have W:decide ((k:Int)<(N:Int))=false:=sO;obtain rfl:k=N:=oM;go_wp2;go_end0;exact ⟨y,.inl ⟨a,u,j,rfl,x,s⟩⟩
abbrev dl (B b:Nat) (l:List UInt8) (w:World):Prop:=Lib.IsBuilder 195 5 B b (aP l) w
def oJ (w:World) (k:Nat):Prop:=∀a b,w.heap[k]?≠some (.cells a 5 b)
structure bK (B b:Nat) (w w':World):Prop where
 bel:Below B w w'
 keep:∀k,k<w.heap.size->k≠b->oJ w k->w'.heap[k]?=w.heap[k]?
theorem bK.refl (B b:Nat) (w:World):bK B b w w:=⟨km _ _,fun _ _ _ _=>rfl⟩
theorem bK.trans {B b:Nat} {w w' f:World} (h:bK B b w w') (k:bK B b w' f):bK B b w f where
 bel:=h.bel.trans k.bel
 keep:=fun j a c d=>by
  have e:=h.keep j a c d
  exact (k.keep j (kv a h.bel.size) c (fun g i=>by rw[e];exact d g i)).trans e
theorem bK.alloc {B b:Nat} {w:World} (c:B<=w.heap.size) (o:Obj):bK B b w (w.alloc o) :=
 ⟨(aq w o).mono c,fun k a _ _=>(aq w o).block k a⟩
theorem dl.alloc {B b:Nat} {l:List UInt8} {w:World} (h:dl B b l w) (o:Obj):dl B b l (w.alloc o):=by
 rcases h with ⟨c,v,a,d,e⟩|⟨c,v,a,d,e⟩
 ·exact .inl ⟨c,v,((aq w o).block _ (lS a)).trans a,cT d (aq w o),e⟩
 ·exact .inr ⟨c,v,((aq w o).block _ (lS a)).trans a,cT d (aq w o),e⟩
def jL (B b:Nat) (u:Value) (w:World):Prop:=∀k,u.ownBlock=some k->k<w.heap.size->k<B\/(k≠b/\oJ w k)
theorem bK.block {B b:Nat} {w w':World} (a:bK B b w w') {k:Nat} (e:k<w.heap.size) (d:k<B\/(k≠b/\oJ w k)):w'.heap[k]?=w.heap[k]?:=by
 rcases d with h|⟨h,c⟩
 ·exact a.bel.block k h
 ·exact a.keep k e h c
theorem ap.step {B b:Nat} {u:Value} {xs:List Int} {w w':World} (h:ap w u xs) (e:bK B b w w') (g:jL B b u w):ap w' u xs:=by
 obtain ⟨f,cap,rfl,l,h⟩:=h;refine ⟨f,cap,rfl,l,?_⟩;rcases h with h|⟨c,off,rfl,d,i⟩
 ·exact .inl h
 ·refine .inr ⟨c,off,rfl,kv d e.bel.size,fun j k=>?_⟩;rw[zR (a:=⟨c,off+j,none⟩) (e.block d (g c rfl d))];exact i j k
theorem rW {w:World} {k:Nat} {a:Array Value} {t:TypeId} {b:Nat×Nat} (h:w.heap[k]?=some (.cells a t b)) (c:t≠5):oJ w k:=fun cs' d e=>by
 rw[h] at e
 simp only[Option.some.injEq,ka.injEq] at e
 exact c e.2.1
theorem Tryz.sizeBuilder:(prog.info? 76).map (·.size)=some 2:=kR
theorem Tryz.liesWriter:liesAt prog prog.depth 195 (2 / prog.cellsOf 195) 0 76 1=true:=kR
theorem Tryz.infoByteW:(prog.info? 5).map (fun i=>(i.zero,i.size,i.bytes))=some (some (.int .u8 0),1,1):=kR
theorem yk (B b:Nat) (l:List UInt8) (w:World) (h:dl B b l w) :
  Calls prog 96 #[.pointer (some ⟨b,0,none⟩)] w fun e w'=>e=.returned (.tuple #[])/\(Lib.BuilderAt 195 5 B b (.pointer (some ⟨b,0,none⟩)) (aP l) w'/\bK B b w w'/\w'.heap.size=w.heap.size/\∀k,k≠b->w'.heap[k]?=w.heap[k]?):=by
 obtain ⟨j,c,o⟩:=Option.map_eq_some_iff.1 Tryz.sizeBuilder;rcases h with a|a
 ·have n:=a.cell0;have f:=a.shape;have q:=a.frozen0;have i:=qH (a.used (.pointer (some ⟨b,0,none⟩)));have g:=qH (show bK B b w (w.setCell ⟨b,0,none⟩ (.pointer (some ⟨b,0,none⟩))) from ⟨Below.setCell (p:=⟨b,0,none⟩) (km B w) a.1 _,fun k _ d _=>xa _ _ _ _ (fun e=>d e)⟩);clear a;go_enter func96,ntmps96;go_wp2;rw[Lib.run_to_unsafe w ⟨b,0,none⟩ underlying73 underlying192 c (by rw[o];decide) f (Nat.zero_lt_succ 1)];simp only[Result.andThen];rw[Oper.upon_value];go_wp2;rw[run_callFunc_extern func151 kR kR kR (e:=Extern.AbiNoEscape.same) kR];rw[Lib.run_noEscape];simp only[Result.andThen];rw[Oper.upon_value];go_wp2;rw[Lib.run_from_unsafe w ⟨b,0,none⟩ underlying192 underlying73 c f Tryz.liesWriter];simp only[Result.andThen];rw[Oper.upon_value];go_wp2;go_end0;exact ⟨rfl,i.1,g.1,by simp[World.setCell],fun k d=>xa _ _ _ _ (fun e=>d e)⟩
 ·have n:=a.cell0;have m:=qH a;clear a;go_enter func96,ntmps96;go_wp2;rw[Lib.run_neq_ptr_same w _ underlying73 c];go_wp2;go_end0;exact ⟨rfl,m.1,bK.refl _ _ _,rfl,fun _ _=>rfl⟩
theorem yD {B b:Nat} {v c:Value} {l m:List UInt8} {w w1 w2:World} (h:B<=b) (r:B<=w.heap.size)
  (d:w1.heap[b]?=some (.cells #[.pointer (some ⟨b,0,none⟩),v] 195 (0,0))) (i:w1.ownsRow B 5 1 v l.length (aP l)) (y:v.ownBlock≠some b) (j:bK B b w w1)
  (a:w1.grownBy w2 v.ownBlock) (z:w2.ownsRow B 5 1 c (l++m).length (aP (l++m))) :
  w2.heap[b]?=some (.cells #[.pointer (some ⟨b,0,none⟩),v] 195 (0,0))/\dl B b (l++m) (w2.setCell ⟨b,1,none⟩ c)/\bK B b w (w2.setCell ⟨b,1,none⟩ c):=by
 have x:b<w1.heap.size:=lS d;have f:w2.heap[b]?=some (.cells #[.pointer (some ⟨b,0,none⟩),v] 195 (0,0)):=(a.block b x (fun e=>y e.symm)).trans d;have s:=Lib.BuilderAt.put (T:=195) (e:=5) h f (bs':=aP (l++m)) (by rw[kY];exact z) dD;refine ⟨f,.inr s,j.trans ⟨((km B w1).grown a (kw r j.bel.size) (fun k u=>(i.lt k u).1)).setCell (p:=⟨b,1,none⟩) h _,fun k n o q=>?_⟩⟩;rw[xa _ _ _ _ (fun e=>o e)];refine a.block k n (fun e=>?_);rcases i.2 with ⟨rfl,_⟩|⟨g,cap,A,rfl,_,t,_⟩
 ·cases e
 ·simp only[Value.ownBlock,Option.some.injEq] at e;subst e;exact q _ _ t
theorem G4 (B b:Nat) (l m:List UInt8) (M c g off:Nat) (w:World) (h:dl B b l w) (p:m.length=M) (z:∀j x,m[j]?=some x->w.cell? ⟨g,off+j,none⟩=some (.int .u8 x.toNat)) (P:g≠b) (hlen:l.length+M<=140737488355328) (O:B<=w.heap.size) :
  Calls prog 193 #[.pointer (some ⟨b,0,none⟩),J (some ⟨g,off,none⟩) M c] w fun e w'=>e=.returned (.tuple #[Z G M,.nilIface])/\dl B b (l++m) w'/\bK B b w w':=by
 obtain ⟨X,Q,U,V,W⟩:=info_parts Tryz.infoByteW;have E:=qH (yk B b l w h);have F:=qH z;clear z;go_enter func193,ntmps193;go_wp2_with fail
 refine (E.1).mono ?_;rintro e w1 ⟨rfl,L,S,hsz,y⟩;obtain ⟨N,v,f,i,R⟩:=L;rw[kY] at i;have Y:w1.cell? ⟨b,0,none⟩=some (.pointer (some ⟨b,0,none⟩)):=kd f _;have c1:w1.cell? ⟨b,1,none⟩=some v:=kd f _;have HN:=qH (show ∀j u,(aP m)[j]?=some u->w1.cell? ((⟨g,off,none⟩:Addr).add j)=some u from fun j u t=>by
  rw[byt_get?] at t;obtain ⟨x,T,rfl⟩:=Option.map_eq_some_iff.1 t;rw[Addr.add_lit,zR (a:=⟨g,off+j,none⟩) (y g P)];exact F.1 j x T)
 clear y;have K:=qH i;go_wp2_with (at_builtin;refine wpList_append_own _ rfl _ _ 74 rfl B 5 X (.int .u8 0) 1 1 underlying74 Q U V W rfl dD _ _ _ rfl K.1 ⟨g,off,none⟩ M c (aP m) rfl ?qc1 ?qc2 ?qc3 ?qc4 ?qc5 ?qc6 ?_)
 case qc1=>rw[kY,p,Nat.mul_one]
 case qc2=>exact HN.1
 case qc3=>exact zp m
 case qc4=>unfold maxLen;omega
 case qc5=>omega
 case qc6=>omega
 intro D w2 k s _;have A:w2.ownsRow B 5 1 D (l++m).length (aP (l++m)):=by rw[zc,p,jl];exact k
 obtain ⟨d,r,q⟩:=yD N O f i R S s A;have I:=qH r;have H:=qH q;have d0:w2.cell? ⟨b,0,none⟩=some (.pointer (some ⟨b,0,none⟩)):=kd d _;have d1:w2.cell? ⟨b,1,none⟩=some v:=kd d _;have f1:w2.frozen? ⟨b,1,none⟩=false:=kb d 1;obtain ⟨o,C,cap,rfl⟩:∃o C cap,D=J o C cap:=by
  rcases k.2 with ⟨n,_⟩|⟨g,cap,cur,n,_⟩
  ·exact ⟨_,_,_,n⟩
  ·exact ⟨_,_,_,n⟩
 clear r q A k s;go_wp2;go_ret2;exact ⟨rfl,I.1,H.1⟩
theorem Hx (B b:Nat) (l m:List UInt8) (w:World) (h:dl B b l w) (U:l.length+m.length<=140737488355328) (A:B<=w.heap.size) :
  Calls prog 28 #[.pointer (some ⟨b,0,none⟩),.string (lh m)] w fun e w'=>e=.returned (.tuple #[Z G m.length,.nilIface])/\dl B b (l++m) w'/\bK B b w w':=by
 obtain ⟨N,D,K,L,M⟩:=info_parts Tryz.infoByteW;have s:=qH (yk B b l w h);have H:(lh m).size=m.length:=bn m;have C:Lib.strCells (lh m)=aP m:=by simp[Lib.strCells,aP,lh]
 go_enter func28,ntmps28;go_wp2_with fail
 refine (s.1).mono ?_;rintro e w1 ⟨rfl,y,I,V,E⟩;obtain ⟨z,v,c,d,F⟩:=y;rw[kY] at d;have O:w1.cell? ⟨b,0,none⟩=some (.pointer (some ⟨b,0,none⟩)):=kd c _;have P:w1.cell? ⟨b,1,none⟩=some v:=kd c _;clear E;have x:=qH d;go_wp2_with (at_builtin;refine Lib.wpList_append_own_string _ rfl _ _ 74 9 rfl B 5 N underlying74 underlying9 D K L M _ _ _ rfl x.1 (lh m) rfl ?c3 ?c4 ?c5 ?_)
 case c3=>unfold maxLen;omega
 case c4=>omega
 case c5=>omega
 intro r w2 f o _;have p:w2.ownsRow B 5 1 r (l++m).length (aP (l++m)):=by rw[zc,jl,<-C,<-H];exact f
 obtain ⟨a,n,k⟩:=yD z A c d F I o p;have u:=qH n;have t:=qH k;have R:w2.cell? ⟨b,0,none⟩=some (.pointer (some ⟨b,0,none⟩)):=kd a _;have S:w2.cell? ⟨b,1,none⟩=some v:=kd a _;have T:w2.frozen? ⟨b,1,none⟩=false:=kb a 1;obtain ⟨j,q,cap,rfl⟩:∃j q cap,r=J j q cap:=by
  rcases f.2 with ⟨i,_⟩|⟨g,cap,Q,i,_⟩
  ·exact ⟨_,_,_,i⟩
  ·exact ⟨_,_,_,i⟩
 clear n k p f o;go_wp2;go_ret2;exact ⟨rfl,u.1,t.1⟩
theorem C9 {w:World} {g:Nat} {X:Int} (b:w.heap[g]?=some (.cells #[.int .u8 (X % 4294967296 / 16777216),.int .u8 (X % 4294967296 / 65536 % 256),.int .u8 (X % 4294967296 / 256 % 256),.int .u8 (X % 256)] 5 (0,0))) :
  ∀j x,(bR X)[j]?=some x->w.cell? ⟨g,0+j,none⟩=some (.int .u8 x.toNat):=by
 intro j x a;have c:j<4:=(List.getElem?_eq_some_iff.1 a).1;rw[kd b,Nat.zero_add];have e:∀n:Nat,n<256->((UInt8.ofNat n).toNat:Int)=n:=fun n d=>by simp[UInt8.toNat_ofNat'];omega
 rcases (show j=0\/j=1\/j=2\/j=3 from oM) with rfl|rfl|rfl|rfl;all_goals
  simp only[bR,List.getElem?_cons_zero,List.getElem?_cons_succ,Option.some.injEq] at a;subst a;rw[e _ oM];simp;try omega
theorem hU (xs:List Int):(xs.flatMap bR).length=xs.length*4:=by
 induction xs with
 | nil=>rfl
 | cons x xs ih=>rw[List.flatMap_cons,zc,ih,kC,List.length_cons];omega
theorem Gx (xs:List Int) (k:Nat) (a:k<xs.length):(xs.take (k+1)).flatMap bR=(xs.take k).flatMap bR++bR xs[k]:=by
 rw[kG a,qb];simp
theorem jH {B b:Nat} {xs:List Int} {w:World} {c g:Nat} {t:TypeId} {d:Array Value} {ca:Nat} (f:w.heap[g]?=some (.cells d t (0,0))) (e:g≠b) (h:t≠5):jL B b (J (some ⟨g,0,none⟩) c ca) w:=by
 intro k a _;simp only[Value.ownBlock,Option.some.injEq] at a;subst a;exact .inr ⟨e,rW f h⟩
theorem yn (B b:Nat) (l:List UInt8) (v:Value) (xs:List Int) (w:World) (h:dl B b l w) (x:ap w v xs) (r:xs=[]\/jL B b v w) (U:l.length+xs.length*4<=140737488355328) (m:B<=w.heap.size) (R:b<w.heap.size) :
  Calls prog 156 #[.pointer (some ⟨b,0,none⟩),v] w fun e w'=>e=.returned (.tuple #[])/\dl B b (l++xs.flatMap bR) w'/\bK B b w w':=by
 have A:=qH x;have y:=qH r;obtain ⟨E,ca,rfl,V,K⟩:=x;have d:=qH h;clear h r;go_enter func156,ntmps156;go_wp2_with fail
 go_loopw [9] (fun i wr=>∃k:Nat,k<=xs.length/\i=Z G k/\dl B b (l++(xs.take k).flatMap bR) wr/\bK B b w wr) (fun i _=>xs.length-(intOf i).toNat)
 case atStart=>exact ⟨0,xc _,rfl,by simpa using d.1,bK.refl _ _ _⟩
 case round =>
  clear d;obtain ⟨k,T,rfl,p,n⟩:=hrel;have d:=qH p;have c:=qH n;clear p n;by_cases a:k<xs.length
  ·have L:decide ((k:Int)<(xs.length:Int))=true:=sO;obtain ⟨Q,off,rfl,S,s⟩:∃b off,E=some ⟨b,off,none⟩/\b<wr.heap.size/\wr.cell? ⟨b,off+k,none⟩=some (Z G xs[k]):=by
    obtain ⟨O,P,N,_,f⟩:=A.1.step c.1 (y.1.resolve_left (fun e=>by rw[e] at a;simp at a));cases N
    rcases f with f|⟨b,off,F,H,I⟩
    ·rw[f] at a;simp at a
    ·exact ⟨b,off,F,H,I k a⟩
   obtain ⟨X,g⟩:=eX (xs[k]);rw[g] at s;clear K;(go_wp2_with fail);have C:=qH (d.1.alloc (ka #[.int .u8 (X % 4294967296 / 16777216),.int .u8 (X % 4294967296 / 65536 % 256),.int .u8 (X % 4294967296 / 256 % 256),.int .u8 (X % 256)] 5));have j:=qH (c.1.trans (bK.alloc (b:=b) (kw m c.1.bel.size) (ka #[.int .u8 (X % 4294967296 / 16777216),.int .u8 (X % 4294967296 / 65536 % 256),.int .u8 (X % 4294967296 / 256 % 256),.int .u8 (X % 256)] 5)));have M:=c.1.bel.size;have t:=aD wr (ka #[.int .u8 (X % 4294967296 / 16777216),.int .u8 (X % 4294967296 / 65536 % 256),.int .u8 (X % 4294967296 / 256 % 256),.int .u8 (X % 256)] 5);have u:(l++(xs.take k).flatMap bR).length=l.length+k*4:=(by rw[zc,hU,zo];omega);refine (G4 B b (l++(xs.take k).flatMap bR) (bR X) 4 4 wr.heap.size 0 _ C.1 rfl (C9 t) oM (by rw[u];omega) (kw m j.1.bel.size)).mono ?_;rintro e w2 ⟨rfl,q,o⟩;have D:=qH (show dl B b (l++(xs.take (k+1)).flatMap bR) w2 by rw[Gx xs k a,g,<-zl];exact q);have z:=qH (j.1.trans o);clear q o t u s g M;go_wp2;go_roundw
   case rel=>exact ⟨k+1,a,gN,D.1,z.1⟩
   case measure=>simp[intOf];omega
  ·have L:decide ((k:Int)<(xs.length:Int))=false:=sO;obtain rfl:k=xs.length:=oM;go_wp2;go_end0;exact ⟨rfl,by have:=d.1;rwa [List.take_length] at this,c.1⟩
theorem ik (B b:Nat) (l:List UInt8) (v:Value) (xs:List Int) (w:World) (h:dl B b l w) (g:ap w v xs) (c:jL B b v w) (f:l.length+xs.length*4<=140737488355328) (a:B<=w.heap.size) (d:b<w.heap.size) :
  Calls prog 156 #[.pointer (some ⟨b,0,none⟩),v] w fun e w'=>e=.returned (.tuple #[])/\dl B b (l++xs.flatMap bR) w'/\bK B b w w' :=
 yn B b l v xs w h g (.inr c) f a d
def iL (n:aA):List Int:=[n.black 0,n.black 1,n.black 2,n.black 3]
def iO (n:aA):List Int:=[n.gains 0,n.gains 1,n.gains 2]
def iU (n:aA):List Int:=[n.matrix 0,n.matrix 1,n.matrix 2,n.matrix 3,n.matrix 4,n.matrix 5,n.matrix 6,n.matrix 7,n.matrix 8]
def kg (n:aA):List UInt8 :=
 bR n.phase++((iL n).flatMap bR++(bR n.white++(jX ep n.spots++((iO n).flatMap bR++((iU n).flatMap bR++(jX ep n.curve++bR n.amount))))))
theorem DX {w:World} {b:Nat} {t:TypeId} {c:Nat×Nat} {n:aA} {e a:Value} (h:w.heap[b]?=some (.cells (aO n e a) t c)):ap w (J (some ⟨b,1,none⟩) 4 4) (iL n):=by
 refine ⟨_,_,rfl,by simp[iL],.inr ⟨b,1,rfl,(lS h),fun j d=>?_⟩⟩;rw[kd h];rcases (show j=0\/j=1\/j=2\/j=3 by have:j<4:=d;omega) with rfl|rfl|rfl|rfl<;>rfl
theorem DY {w:World} {b:Nat} {t:TypeId} {c:Nat×Nat} {n:aA} {e a:Value} (h:w.heap[b]?=some (.cells (aO n e a) t c)):ap w (J (some ⟨b,7,none⟩) 3 3) (iO n):=by
 refine ⟨_,_,rfl,by simp[iO],.inr ⟨b,7,rfl,(lS h),fun j d=>?_⟩⟩;rw[kd h];rcases (show j=0\/j=1\/j=2 by have:j<3:=d;omega) with rfl|rfl|rfl<;>rfl
theorem DZ {w:World} {b:Nat} {t:TypeId} {c:Nat×Nat} {n:aA} {e a:Value} (h:w.heap[b]?=some (.cells (aO n e a) t c)):ap w (J (some ⟨b,10,none⟩) 9 9) (iU n):=by
 refine ⟨_,_,rfl,by simp[iU],.inr ⟨b,10,rfl,(lS h),fun j d=>?_⟩⟩;rw[kd h];rcases (show j=0\/j=1\/j=2\/j=3\/j=4\/j=5\/j=6\/j=7\/j=8 by have:j<9:=d;omega) with rfl|rfl|rfl|rfl|rfl|rfl|rfl|rfl|rfl<;>rfl
theorem qL {B b:Nat} {w:World} {c g off ca:Nat} {t:TypeId} {d:Array Value} {e:Nat×Nat} (h:w.heap[g]?=some (.cells d t e)) (f:g≠b) (i:t≠5):jL B b (J (some ⟨g,off,none⟩) c ca) w:=by
 intro k a _;simp only[Value.ownBlock,Option.some.injEq] at a;subst a;exact .inr ⟨f,rW h i⟩
theorem bo.step {B b:Nat} {u:Value} {g:List Pt} {w w':World} (h:bo w u g) (f:bK B b w w') (k:jL B b u w):bo w' u g:=by
 obtain ⟨i,cap,rfl,n,h⟩:=h;refine ⟨i,cap,rfl,n,?_⟩;rcases h with h|⟨c,off,rfl,d,l⟩
 ·exact .inl h
 ·have e:=f.block d (k c rfl d);refine .inr ⟨c,off,rfl,kv d f.bel.size,fun j m=>?_⟩;rw[zR (a:=⟨c,off+j*2,none⟩) e,zR (a:=⟨c,off+j*2+1,none⟩) e];exact l j m
theorem pZ (a:List Pt):(a.flatMap ep).length=a.length*8:=by
 induction a with
 | nil=>rfl
 | cons x xs ih=>rw[List.flatMap_cons,zc,ih,List.length_cons,ep,zc,kC,kC];omega
theorem xX (a:List Pt) (k:Nat) (b:k<a.length):(a.take (k+1)).flatMap ep=(a.take k).flatMap ep++ep (an a k):=by
 rw[kG b,qb,i7];simp
theorem yE (B b:Nat) (l m:List UInt8) (w:World) (h:dl B b l w) (y:l.length+m.length+4<=140737488355328) (d:B<=w.heap.size) (u:b<w.heap.size) :
  Calls prog 155 #[.pointer (some ⟨b,0,none⟩),.string (lh m)] w fun e w'=>e=.returned (.tuple #[])/\dl B b (l++ez m) w'/\bK B b w w':=by
 have z:(lh m).size=m.length:=bn m;have j:=qH (h.alloc (ka #[Z G m.length] 3));have a:=qH (bK.alloc (b:=b) d (ka #[Z G m.length] 3));have o:=aD w (ka #[Z G m.length] 3);have g:=qH (dA w m.length);have f:=qH (jH (B:=B) (b:=b) (c:=1) (ca:=1) (xs:=[]) o oM dD);have x:B<=(w.alloc (ka #[Z G m.length] 3)).heap.size:=kw d a.1.bel.size;have v:b<(w.alloc (ka #[Z G m.length] 3)).heap.size:=kv u a.1.bel.size;clear h o;go_enter func155,ntmps155;go_wp2_with fail
 refine (ik B b l _ [(m.length:Int)] _ j.1 g.1 f.1 sO x v).mono ?_;rintro e w1 ⟨rfl,n,k⟩;have q:=qH n;have i:=qH (a.1.trans k);clear n k j g f a;go_wp2_with fail
 refine (Hx B b _ m _ q.1 (by rw[zc,hU];simp;omega) (kw d i.1.bel.size)).mono ?_;rintro e w2 ⟨rfl,t,s⟩;have r:=qH (show dl B b (l++ez m) w2 by have:=t;simpa [ez,zl] using this);have p:=qH (i.1.trans s);go_wp2;go_end0;exact ⟨rfl,r.1,p.1⟩
theorem Ho (B b:Nat) (l:List UInt8) (n:aA) (sv cv:Value) (w:World) (h:dl B b l w) (hp:dH w n sv cv) (hs:n.spots=[]\/jL B b sv w) (hc:n.curve=[]\/jL B b cv w) (hl:l.length<=1099511627776) (h1:n.spots.length<=1048576) (h2:n.curve.length<=1048576) (hBw:B<=w.heap.size) (hbw:b<w.heap.size) :
  Calls prog 157 #[.pointer (some ⟨b,0,none⟩),.agg (aO n sv cv)] w fun e w'=>e=.returned (.tuple #[])/\dl B b (l++kg n) w'/\bK B b w w':=by
 have HP:=qH hp;have HAS:=qH hs;have HAC:=qH hc;obtain ⟨⟨lo,lc,rfl,hll,_⟩,⟨ko,kc,rfl,hkl,_⟩⟩:=hp;have a1:=aD w (ka (aO n (J lo n.spots.length lc) (J ko n.curve.length kc)) 51);have hkb:w.heap.size≠b:=oM;have HS0:=qH (bK.alloc (b:=b) hBw (ka (aO n (J lo n.spots.length lc) (J ko n.curve.length kc)) 51));have HW0:=au (h.alloc (ka (aO n (J lo n.spots.length lc) (J ko n.curve.length kc)) 51));have HNB:=qH (rW a1 dD);have ae:=lS a1;clear h hs hc;go_enter func157,ntmps157;obtain ⟨r,s,K,M,N,O,P,Q,R,S,u,v,z,A,C,D,E,F,H,I,L⟩:=fl a1;go_wp2_with fail
 clear r s K M N O P Q R S u v z A C D E F H I L;have af:=HS0.1.bel.size;have af:B<=(w.alloc (ka (aO n (J lo n.spots.length lc) (J ko n.curve.length kc)) 51)).heap.size:=kw hBw HS0.1.bel.size;have ag:b<(w.alloc (ka (aO n (J lo n.spots.length lc) (J ko n.curve.length kc)) 51)).heap.size:=kv hbw HS0.1.bel.size;have HSZ:=qH (show (w.alloc (ka (aO n (J lo n.spots.length lc) (J ko n.curve.length kc)) 51)).heap.size=w.heap.size+1 from zS _ _);generalize w.alloc _=U at *;have W:=qH (show ∀V,bK B b U V->V.heap[w.heap.size]?=some (.cells (aO n (J lo n.spots.length lc) (J ko n.curve.length kc)) 51 (0,0)) from fun V hV=>(hV.block ae (.inr ⟨hkb,HNB.1⟩)).trans a1);have a:=qH (bK.refl B b U);have m:=HW0;have j:=au hl;clear a1 HW0 hl;have f:B<=U.heap.size:=kw af a.1.bel.size;have p:b<U.heap.size:=kv ag a.1.bel.size;have g:=qH (bK.alloc (b:=b) f (ka #[Z G n.phase] 3));have q:=qH (m.out.alloc (ka #[Z G n.phase] 3));have Y:=qH (dA U n.phase);have ad:=aD U (ka #[Z G n.phase] 3);have T:=qH (jH (B:=B) (b:=b) (c:=1) (ca:=1) (xs:=[]) ad oM dD);have aa:=qH (show l.length+[(n.phase:Int)].length*4<=140737488355328 by have:=j.out;simp;omega);have ab:=kw f g.1.bel.size;have ac:=kv p g.1.bel.size;clear ad;rw[HSZ.1] at Y T;generalize U.alloc _=VA at *;refine (ik B b l _ [(n.phase:Int)] _ q.1 Y.1 T.1 aa.1 ab ac).mono ?_;rintro e V1 ⟨rfl,d,o⟩;replace a:=qH (a.1.trans (g.1.trans o));obtain ⟨L1,HQ1⟩:∃L1,Hid (l++[(n.phase:Int)].flatMap bR=L1):=⟨_,rfl⟩;rw[HQ1.out] at d;replace m:=au d;replace j:=au (show L1.length<=1099511627776+4 by rw[<-HQ1.out,zc,hU];have:=j.out;simp;omega);clear d o g f p q Y T aa ab ac;obtain ⟨r,s,K,M,N,O,P,Q,R,S,u,v,z,A,C,D,E,F,H,I,L⟩:=fl (W.1 V1 a.1);go_wp2_with fail
 clear r s K M N O P Q R S u v z A C D E F H I L;have f:B<=V1.heap.size:=kw af a.1.bel.size;have p:b<V1.heap.size:=kv ag a.1.bel.size;refine (ik B b L1 _ (iL n) _ m.out (DX (W.1 _ a.1)) (qL (W.1 _ a.1) hkb dD) (by have:=j.out;simp[iL];omega) f p).mono ?_;rintro e V2 ⟨rfl,d,o⟩;replace a:=qH (a.1.trans o);obtain ⟨L2,HQ2⟩:∃L2,Hid (L1++(iL n).flatMap bR=L2):=⟨_,rfl⟩;rw[HQ2.out] at d;replace m:=au d;replace j:=au (show L2.length<=1099511627776+20 by rw[<-HQ2.out,zc,hU];have:=j.out;simp[iL];omega);clear d o f p;obtain ⟨r,s,K,M,N,O,P,Q,R,S,u,v,z,A,C,D,E,F,H,I,L⟩:=fl (W.1 V2 a.1);go_wp2_with fail
 clear r s K M N O P Q R S u v z A C D E F H I L;have f:B<=V2.heap.size:=kw af a.1.bel.size;have p:b<V2.heap.size:=kv ag a.1.bel.size;have g:=qH (bK.alloc (b:=b) f (ka #[Z G n.white] 3));have q:=qH (m.out.alloc (ka #[Z G n.white] 3));have Y:=qH (dA V2 n.white);have ad:=aD V2 (ka #[Z G n.white] 3);have T:=qH (jH (B:=B) (b:=b) (c:=1) (ca:=1) (xs:=[]) ad oM dD);have aa:=qH (show L2.length+[(n.white:Int)].length*4<=140737488355328 by have:=j.out;simp;omega);have ab:=kw f g.1.bel.size;have ac:=kv p g.1.bel.size;clear ad;generalize V2.alloc _=VA at *;refine (ik B b L2 _ [(n.white:Int)] _ q.1 Y.1 T.1 aa.1 ab ac).mono ?_;rintro e V3 ⟨rfl,d,o⟩;replace a:=qH (a.1.trans (g.1.trans o));obtain ⟨L3,HQ3⟩:∃L3,Hid (L2++[(n.white:Int)].flatMap bR=L3):=⟨_,rfl⟩;rw[HQ3.out] at d;replace m:=au d;replace j:=au (show L3.length<=1099511627776+24 by rw[<-HQ3.out,zc,hU];have:=j.out;simp;omega);clear d o g f p q Y T aa ab ac;obtain ⟨r,s,K,M,N,O,P,Q,R,S,u,v,z,A,C,D,E,F,H,I,L⟩:=fl (W.1 V3 a.1);go_wp2_with fail
 clear r s K M N O P Q R S u v z A C D E F H I L;have f:B<=V3.heap.size:=kw af a.1.bel.size;have p:b<V3.heap.size:=kv ag a.1.bel.size;have g:=qH (bK.alloc (b:=b) f (ka #[Z G n.spots.length] 3));have q:=qH (m.out.alloc (ka #[Z G n.spots.length] 3));have Y:=qH (dA V3 n.spots.length);have ad:=aD V3 (ka #[Z G n.spots.length] 3);have T:=qH (jH (B:=B) (b:=b) (c:=1) (ca:=1) (xs:=[]) ad oM dD);have aa:=qH (show L3.length+[(n.spots.length:Int)].length*4<=140737488355328 by have:=j.out;simp;omega);have ab:=kw f g.1.bel.size;have ac:=kv p g.1.bel.size;clear ad;generalize V3.alloc _=VA at *;refine (ik B b L3 _ [(n.spots.length:Int)] _ q.1 Y.1 T.1 aa.1 ab ac).mono ?_;rintro e V4 ⟨rfl,d,o⟩;replace a:=qH (a.1.trans (g.1.trans o));obtain ⟨L4,HQ4⟩:∃L4,Hid (L3++[(n.spots.length:Int)].flatMap bR=L4):=⟨_,rfl⟩;rw[HQ4.out] at d;replace m:=au d;replace j:=au (show L4.length<=1099511627776+28 by rw[<-HQ4.out,zc,hU];have:=j.out;simp;omega);clear d o g f p q Y T aa ab ac;obtain ⟨r,s,K,M,N,O,P,Q,R,S,u,v,z,A,C,D,E,F,H,I,L⟩:=fl (W.1 V4 a.1);go_wp2_with fail
 clear r s K M N O P Q R S u v z A C D E F H I L;go_loopw [31] (fun i wr=>∃k:Nat,k<=n.spots.length/\i=Z G k/\dl B b (L4++(n.spots.take k).flatMap ep) wr/\bK B b U wr) (fun i _=>n.spots.length-(intOf i).toNat)
 case atStart=>exact ⟨0,xc _,rfl,by simpa using m.out,a.1⟩
 case round =>
  obtain ⟨k,hk,rfl,hW,hS⟩:=hrel;have HLL:=j;clear a m;have a:=qH hS;have m:=au hW;clear hW hS;by_cases ae:k<n.spots.length
  ·have hd:decide ((k:Int)<(n.spots.length:Int))=true:=sO;obtain ⟨bq,oq,rfl,hbq,d0,d1⟩:=(HP.1.spots.step (HS0.1.trans a.1) (HAS.1.resolve_left (fun e=>by rw[e] at ae;simp at ae))).at k ae;obtain ⟨⟨x,y⟩,hxy⟩:∃t,an n.spots k=t:=⟨_,rfl⟩;rw[hxy] at d0 d1;have g1:=aD wr (ka #[Z G x,Z G y] 97);obtain ⟨e0,e1⟩:=bL g1;have f:B<=wr.heap.size:=kw af a.1.bel.size;have p:b<wr.heap.size:=kv ag a.1.bel.size;have g:=qH (bK.alloc (b:=b) f (ka #[Z G x,Z G y] 97));have q:=qH (m.out.alloc (ka #[Z G x,Z G y] 97));(go_wp2_with fail);clear d0 d1 e0 e1 g1;have hBX:B<=(wr.alloc (ka #[Z G x,Z G y] 97)).heap.size:=kw f g.1.bel.size;have hbX:b<(wr.alloc (ka #[Z G x,Z G y] 97)).heap.size:=kv p g.1.bel.size;have HI:=qH (pA (wr.alloc (ka #[Z G x,Z G y] 97)) x y);have HK:=qH (jH (B:=B) (b:=b) (c:=2) (ca:=2) (xs:=[]) (aD (wr.alloc (ka #[Z G x,Z G y] 97)) (ka #[Z G x,Z G y] 3)) oM dD);rw[zS] at HI HK;generalize wr.alloc _=X at *;have ah:=qH (bK.alloc (b:=b) hBX (ka #[Z G x,Z G y] 3));refine (ik B b _ _ [x,y] _ (q.1.alloc (ka #[Z G x,Z G y] 3)) HI.1 HK.1 (by have:=HLL.out;rw[zc,pZ,zo];simp;omega) (kw hBX ah.1.bel.size) (kv hbX ah.1.bel.size)).mono ?_;rintro e X2 ⟨rfl,d,o⟩;have HST2:=qH (a.1.trans (g.1.trans (ah.1.trans o)));have HW2:=qH (show dl B b (L4++(n.spots.take (k+1)).flatMap ep) X2 by rw[xX _ k ae,hxy,<-zl];exact d);clear d o g ah q HI HK f p hBX hbX;go_wp2;go_roundw
   case rel=>exact ⟨k+1,ae,gN,HW2.1,HST2.1⟩
   case measure=>simp[intOf];omega
  ·have hd:decide ((k:Int)<(n.spots.length:Int))=false:=sO;obtain rfl:k=n.spots.length:=oM;rw[List.take_length] at m;obtain ⟨L5,HQ5⟩:∃L5,Hid (L4++n.spots.flatMap ep=L5):=⟨_,rfl⟩;rw[HQ5.out] at m;clear j;have j:=au (show L5.length<=1099511627776+8388636 by rw[<-HQ5.out,zc,pZ];have:=HLL.out;omega);clear HLL;generalize wr=VS at *;obtain ⟨r,s,K,M,N,O,P,Q,R,S,u,v,z,A,C,D,E,F,H,I,L⟩:=fl (W.1 VS a.1);(go_wp2_with fail);clear r s K M N O P Q R S u v z A C D E F H I L;have f:B<=VS.heap.size:=kw af a.1.bel.size;have p:b<VS.heap.size:=kv ag a.1.bel.size;refine (ik B b L5 _ (iO n) _ m.out (DY (W.1 _ a.1)) (qL (W.1 _ a.1) hkb dD) (by have:=j.out;simp[iO];omega) f p).mono ?_;rintro e V6 ⟨rfl,d,o⟩;replace a:=qH (a.1.trans o);obtain ⟨L6,HQ6⟩:∃L6,Hid (L5++(iO n).flatMap bR=L6):=⟨_,rfl⟩;rw[HQ6.out] at d;replace m:=au d;replace j:=au (show L6.length<=1099511627776+8388648 by rw[<-HQ6.out,zc,hU];have:=j.out;simp[iO];omega);clear d o f p;obtain ⟨r,s,K,M,N,O,P,Q,R,S,u,v,z,A,C,D,E,F,H,I,L⟩:=fl (W.1 V6 a.1);(go_wp2_with fail);clear r s K M N O P Q R S u v z A C D E F H I L;have f:B<=V6.heap.size:=kw af a.1.bel.size;have p:b<V6.heap.size:=kv ag a.1.bel.size;refine (ik B b L6 _ (iU n) _ m.out (DZ (W.1 _ a.1)) (qL (W.1 _ a.1) hkb dD) (by have:=j.out;simp[iU];omega) f p).mono ?_;rintro e V7 ⟨rfl,d,o⟩;replace a:=qH (a.1.trans o);obtain ⟨L7,HQ7⟩:∃L7,Hid (L6++(iU n).flatMap bR=L7):=⟨_,rfl⟩;rw[HQ7.out] at d;replace m:=au d;replace j:=au (show L7.length<=1099511627776+8388684 by rw[<-HQ7.out,zc,hU];have:=j.out;simp[iU];omega);clear d o f p;obtain ⟨r,s,K,M,N,O,P,Q,R,S,u,v,z,A,C,D,E,F,H,I,L⟩:=fl (W.1 V7 a.1);(go_wp2_with fail);clear r s K M N O P Q R S u v z A C D E F H I L;have f:B<=V7.heap.size:=kw af a.1.bel.size;have p:b<V7.heap.size:=kv ag a.1.bel.size;have g:=qH (bK.alloc (b:=b) f (ka #[Z G n.curve.length] 3));have q:=qH (m.out.alloc (ka #[Z G n.curve.length] 3));have Y:=qH (dA V7 n.curve.length);have ad:=aD V7 (ka #[Z G n.curve.length] 3);have T:=qH (jH (B:=B) (b:=b) (c:=1) (ca:=1) (xs:=[]) ad oM dD);have aa:=qH (show L7.length+[(n.curve.length:Int)].length*4<=140737488355328 by have:=j.out;simp;omega);have ab:=kw f g.1.bel.size;have ac:=kv p g.1.bel.size;clear ad;generalize V7.alloc _=VA at *;refine (ik B b L7 _ [(n.curve.length:Int)] _ q.1 Y.1 T.1 aa.1 ab ac).mono ?_;rintro e V8 ⟨rfl,d,o⟩;replace a:=qH (a.1.trans (g.1.trans o));obtain ⟨L8,HQ8⟩:∃L8,Hid (L7++[(n.curve.length:Int)].flatMap bR=L8):=⟨_,rfl⟩;rw[HQ8.out] at d;replace m:=au d;replace j:=au (show L8.length<=1099511627776+8388688 by rw[<-HQ8.out,zc,hU];have:=j.out;simp;omega);clear d o g f p q Y T aa ab ac;obtain ⟨r,s,K,M,N,O,P,Q,R,S,u,v,z,A,C,D,E,F,H,I,L⟩:=fl (W.1 V8 a.1);(go_wp2_with fail);clear r s K M N O P Q R S u v z A C D E F H I L;go_loopw [60] (fun i wr=>∃k:Nat,k<=n.curve.length/\i=Z G k/\dl B b (L8++(n.curve.take k).flatMap ep) wr/\bK B b U wr) (fun i _=>n.curve.length-(intOf i).toNat)
   case atStart=>exact ⟨0,xc _,rfl,by simpa using m.out,a.1⟩
   case round =>
    obtain ⟨k,hk,rfl,hW,hS⟩:=hrel;have HLL:=j;clear a m;have a:=qH hS;have m:=au hW;clear hW hS;by_cases ae:k<n.curve.length
    ·have hd:decide ((k:Int)<(n.curve.length:Int))=true:=sO;obtain ⟨bq,oq,rfl,hbq,d0,d1⟩:=(HP.1.curve.step (HS0.1.trans a.1) (HAC.1.resolve_left (fun e=>by rw[e] at ae;simp at ae))).at k ae;obtain ⟨⟨x,y⟩,hxy⟩:∃t,an n.curve k=t:=⟨_,rfl⟩;rw[hxy] at d0 d1;have g1:=aD wr (ka #[Z G x,Z G y] 66);obtain ⟨e0,e1⟩:=bL g1;have f:B<=wr.heap.size:=kw af a.1.bel.size;have p:b<wr.heap.size:=kv ag a.1.bel.size;have g:=qH (bK.alloc (b:=b) f (ka #[Z G x,Z G y] 66));have q:=qH (m.out.alloc (ka #[Z G x,Z G y] 66));(go_wp2_with fail);clear d0 d1 e0 e1 g1;have hBX:B<=(wr.alloc (ka #[Z G x,Z G y] 66)).heap.size:=kw f g.1.bel.size;have hbX:b<(wr.alloc (ka #[Z G x,Z G y] 66)).heap.size:=kv p g.1.bel.size;have HI:=qH (pA (wr.alloc (ka #[Z G x,Z G y] 66)) x y);have HK:=qH (jH (B:=B) (b:=b) (c:=2) (ca:=2) (xs:=[]) (aD (wr.alloc (ka #[Z G x,Z G y] 66)) (ka #[Z G x,Z G y] 3)) oM dD);rw[zS] at HI HK;generalize wr.alloc _=X at *;have ah:=qH (bK.alloc (b:=b) hBX (ka #[Z G x,Z G y] 3));refine (ik B b _ _ [x,y] _ (q.1.alloc (ka #[Z G x,Z G y] 3)) HI.1 HK.1 (by have:=HLL.out;rw[zc,pZ,zo];simp;omega) (kw hBX ah.1.bel.size) (kv hbX ah.1.bel.size)).mono ?_;rintro e X2 ⟨rfl,d,o⟩;have HST2:=qH (a.1.trans (g.1.trans (ah.1.trans o)));have HW2:=qH (show dl B b (L8++(n.curve.take (k+1)).flatMap ep) X2 by rw[xX _ k ae,hxy,<-zl];exact d);clear d o g ah q HI HK f p hBX hbX;go_wp2;go_roundw
     case rel=>exact ⟨k+1,ae,gN,HW2.1,HST2.1⟩
     case measure=>simp[intOf];omega
    ·have hd:decide ((k:Int)<(n.curve.length:Int))=false:=sO;obtain rfl:k=n.curve.length:=oM;rw[List.take_length] at m;obtain ⟨L9,HQ9⟩:∃L9,Hid (L8++n.curve.flatMap ep=L9):=⟨_,rfl⟩;rw[HQ9.out] at m;clear j;have j:=au (show L9.length<=1099511627776+16777296 by rw[<-HQ9.out,zc,pZ];have:=HLL.out;omega);clear HLL;generalize wr=VC at *;obtain ⟨r,s,K,M,N,O,P,Q,R,S,u,v,z,A,C,D,E,F,H,I,L⟩:=fl (W.1 VC a.1);(go_wp2_with fail);clear r s K M N O P Q R S u v z A C D E F H I L;have f:B<=VC.heap.size:=kw af a.1.bel.size;have p:b<VC.heap.size:=kv ag a.1.bel.size;have g:=qH (bK.alloc (b:=b) f (ka #[Z G n.amount] 3));have q:=qH (m.out.alloc (ka #[Z G n.amount] 3));have Y:=qH (dA VC n.amount);have ad:=aD VC (ka #[Z G n.amount] 3);have T:=qH (jH (B:=B) (b:=b) (c:=1) (ca:=1) (xs:=[]) ad oM dD);have aa:=qH (show L9.length+[(n.amount:Int)].length*4<=140737488355328 by have:=j.out;simp;omega);have ab:=kw f g.1.bel.size;have ac:=kv p g.1.bel.size;clear ad;generalize VC.alloc _=VA at *;refine (ik B b L9 _ [(n.amount:Int)] _ q.1 Y.1 T.1 aa.1 ab ac).mono ?_;rintro e V10 ⟨rfl,d,o⟩;replace a:=qH (a.1.trans (g.1.trans o));obtain ⟨L10,HQ10⟩:∃L10,Hid (L9++[(n.amount:Int)].flatMap bR=L10):=⟨_,rfl⟩;rw[HQ10.out] at d;replace m:=au d;replace j:=au (show L10.length<=1099511627776+16777300 by rw[<-HQ10.out,zc,hU];have:=j.out;simp;omega);clear d o g f p q Y T aa ab ac;have HF:=qH (show dl B b (l++kg n) V10 by
      have e:l++kg n=L10:=by
       rw[<-HQ10.out,<-HQ9.out,<-HQ8.out,<-HQ7.out,<-HQ6.out,<-HQ5.out,<-HQ4.out,<-HQ3.out,<-HQ2.out,<-HQ1.out];simp[kg,jX,zl]
      rw[e];exact m.out)
     have HSF:=qH (HS0.1.trans a.1);go_wp2;go_end0;exact ⟨rfl,HF.1,HSF.1⟩
def eH (r:av) (k:Nat):Nat:=k*r.rows.toNat*r.w.toNat
def dv (r:av) (zs:List Int) (k:Nat):List Int:=(zs.drop (eH r k)).take (aE r k*r.w).toNat
def DS (r:av) (zs:List Int) (k:Nat):Bool:=(zO k).all fun i=>decide (iC r (dv r zs i) (aE r i)=0)
def gE (r:av) (zs:List Int) (k:Nat):List (List UInt8):=(zO k).map fun i=>ks r (dv r zs i) (aE r i)
theorem AM (r:av) (zs:List Int) (k:Nat):DS r zs (k+1)=(DS r zs k && decide (iC r (dv r zs k) (aE r k)=0)):=by simp[DS,List.range_succ]
theorem AO (r:av) (zs:List Int) (k:Nat):gE r zs (k+1)=gE r zs k++[ks r (dv r zs k) (aE r k)]:=by simp[gE,List.range_succ]
theorem AK {r:av} {zs:List Int} {k n:Nat} (h:k<n) (b:iC r (dv r zs k) (aE r k)≠0):DS r zs n=false:=by
 rw[Bool.eq_false_iff];intro a;have:=zB.1 a k (List.mem_range.2 h);exact b (by simpa using this)
def kx (r:av) (b a:Int) (zs:List Int):Bool:=a7 b a zs && decide (b=r.w) && decide (a=r.h) && gd r.depth zs
def io (r:av) (b a:Int) (zs:List Int):Int:=if da r=0 then (if cU r=0 then (if kx r b a zs=true then (if DS r zs (aV r)=true then 0 else 4) else 1) else cU r) else da r
def cZ (r:av) (zs:List Int):av:={ r with strips:=gE r zs (aV r) }
theorem oc {r:av} (h:bJ r) (k:Nat):(eH r k:Int)=k*r.rows*r.w:=by
 have a:=h.rows;have b:=h.w;unfold eH;rw[Int.natCast_mul,Int.natCast_mul,Int.toNat_of_nonneg oM,Int.toNat_of_nonneg oM]
theorem H6 {r:av} (h:bJ r) {k:Nat} (b:k<aV r):(eH r k:Int)+aE r k*r.w<=r.h*r.w:=by
 have a:=h.w;rw[oc h,<-Int.add_mul];exact Int.mul_le_mul_of_nonneg_right (by unfold aE;omega) oM
theorem E7 {r:av} (h:bJ r) {k:Nat} (a:k+1<aV r):aE r k=r.rows:=by
 have b:=(h.cnt_pos (k+1)).1 a;have e:((k+1:Nat):Int)*r.rows=k*r.rows+r.rows:=by rw[Int.natCast_add,Int.add_mul];simp
 unfold aE;omega
theorem ww {r:av} (h:bJ r) {k:Nat} (a:k+1<aV r):(eH r (k+1):Int)=eH r k+aE r k*r.w:=by
 rw[oc h,oc h,E7 h a,<-Int.add_mul,Int.natCast_add,Int.add_mul];simp
theorem ws {r:av} (h:bJ r) {k:Nat} (a:k<aV r) {zs:List Int} (b:(zs.length:Int)=r.w*r.h):((dv r zs k).length:Int)=aE r k*r.w:=by
 have c:=H6 h a;have d:=h.size a;rw[Int.mul_comm r.w] at b;unfold dv;rw[zo,zv];omega
theorem rU {r:av} {zs:List Int} {k:Nat} {z:Int} (h:z∈dv r zs k):z∈zs:=List.mem_of_mem_drop (List.mem_of_mem_take h)
theorem Hw {r:av} (h:bJ r) {k:Nat} (a:k<aV r) {g f:Int} {zs:List Int} (e:kx r g f zs=true):iC r (dv r zs k) (aE r k)=0\/iC r (dv r zs k) (aE r k)=4:=by
 simp only[kx,yb,decide_eq_true_eq] at e;obtain ⟨⟨⟨c,rfl⟩,rfl⟩,i⟩:=e;simp only[a7,yb,decide_eq_true_eq] at c;have l:=ws h a c.1.2;obtain ⟨p,q⟩:=h.size a;obtain ⟨n,o⟩:=h.row a;have m:=h.w;have j:=h.depth;unfold iC;by_cases d:r.kind=0
 ·rw[if_pos d,ke,if_pos (by rw[dM,decide_eq_true_eq];exact j),if_pos oM,if_pos]
  ·exact .inl rfl
  ·refine zB.2 fun z b=>?_;have:=zB.1 i z (rU b);simp only[decide_eq_true_eq] at this;simp only[jZ,decide_eq_true_eq];omega
 ·rw[if_neg d,cM,if_pos,if_pos (by have:=h.kind;rw[eC,decide_eq_true_eq];omega),if_pos (h.code d)]
  ·split
   ·exact .inl rfl
   ·exact .inr rfl
  ·simp only[a7,yb,decide_eq_true_eq,aM];refine ⟨⟨⟨m,n,o⟩,by rw[l,Int.mul_comm]⟩,zB.2 fun z b=>zB.1 c.2 z (rU b)⟩
end Go.Proofs.YtfjeonehdlphiaaGreatDoor
