/- Part 39. -/
import Derived.Test.YtfjeonehdlphiaaGreatDoorC23Sd
import Derived.Test.YtfjeonehdlphiaaGreatDoorC37Sd
open Go.Lib renaming frozen_of_heap → ka, cell_of_heap → kb
open Go.Act renaming put → kc
open Nat renaming le_refl → kd, lt_of_lt_of_le → kh, le_trans → km, zero_le → kv
open List renaming getElem?_eq_getElem → kf, take_of_length_le → kw, length_append → kG, replicate → xa
open Go.RowKit.Below renaming heap_setCell → ko
open Go.Value renaming int → Z, slice → J
open Go.IntKind renaming i64 → G
set_option linter.unusedVariables false
set_option maxHeartbeats 6400000
set_option maxRecDepth 100000
namespace Go.Proofs.YtfjeonehdlphiaaGreatDoor
open Go.RowKit
open _root_.Go.Proofs.Tryz
set_option linter.unusedSimpArgs false
open Go.RowKit
def ix (l:List Int) (k:Nat):Int:=l.getD k 0
def lC (a:Int->aA) (l:List UInt8):Option (aA×List UInt8):=match aH l with
 | none=>none
 | some (am,u)=>some (a am,u)
def kk (b:List UInt8->Nat) (f:Int) (c:List Int) (h:Int) (g:List Pt) (d e:List Int) (l:List UInt8):Option (aA×List UInt8):=match eE cI b l with
 | none=>none
 | some (cu,u)=>lC (fun a=>⟨f,ix c,h,g,ix d,ix e,cu,a⟩) u
def lB (a:List UInt8->Nat) (d:Int) (b:List Int) (f:Int) (e:List Pt) (c:List Int) (l:List UInt8):Option (aA×List UInt8):=match bO aH 9 l with
 | none=>none
 | some (ma,u)=>kk a d b f e c ma u
def lA (a:List UInt8->Nat) (c:Int) (b:List Int) (e:Int) (d:List Pt) (l:List UInt8):Option (aA×List UInt8):=match bO aH 3 l with
 | none=>none
 | some (ga,u)=>lB a c b e d ga u
def kj (a b:List UInt8->Nat) (d:Int) (c:List Int) (e:Int) (l:List UInt8):Option (aA×List UInt8):=match eE cI a l with
 | none=>none
 | some (sp,u)=>lA b d c e sp u
def lz (a b:List UInt8->Nat) (d:Int) (c:List Int) (l:List UInt8):Option (aA×List UInt8):=match aH l with
 | none=>none
 | some (wh,u)=>kj a b d c wh u
def ly (a b:List UInt8->Nat) (c:Int) (l:List UInt8):Option (aA×List UInt8):=match bO aH 4 l with
 | none=>none
 | some (bl,u)=>lz a b c bl u
def iZ (a b:List UInt8->Nat) (l:List UInt8):Option (aA×List UInt8):=match aH l with
 | none=>none
 | some (ph,u)=>ly a b ph u
theorem pJ {α:Type} {p:List UInt8->Option (α×List UInt8)} {m:Nat} {l:List UInt8} (h:la m l=none):eE p (fun _=>m) l=none:=by
 unfold la at h;unfold eE;cases h1:aH l with
 | none=>rfl
 | some x =>
  obtain ⟨n,t⟩:=x;rw[h1] at h;simp only at h |-;split at h
  ·cases h
  ·rename_i h2;rw[if_neg h2]
theorem pL {α:Type} {p:List UInt8->Option (α×List UInt8)} {m:Nat} {l t:List UInt8} {n:Int} (h:la m l=some (n,t)):∃N:Nat,n=N/\N<=m/\eE p (fun _=>m) l=bO p N t/\t.length+4=l.length:=by
 rw[la] at h;split at h
 ·cases h
 ·rename_i n' t' h1;split at h
  ·rename_i h2;cases h
   refine ⟨n.toNat,oM,oM,?_,rX h1⟩;rw[eE];simp only[h1];rw[if_pos h2]
  ·cases h
theorem mg {α:Type} {p:List UInt8->Option (α×List UInt8)} (c:∀l a t,p l=some (a,t)->t.length<=l.length) {n:Nat} {l t:List UInt8} {b:List α} (h:bO p n l=some (b,t)):t.length<=l.length:=by
 induction n generalizing b t with
 | zero=>simp only[bO,Option.some.injEq,Prod.mk.injEq] at h;rw[h.2];exact kd _
 | succ n ih =>
  rw[bO] at h;split at h
  ·cases h
  ·rename_i ys' t' h1;split at h
   ·cases h
   ·rename_i a t'' h2;cases h
    exact km (c _ _ _ h2) (ih h1)
theorem fK {l t:List UInt8} {n:Int} (h:aH l=some (n,t)):t.length<=l.length:=by have:=rX h;omega
theorem wn {l t:List UInt8} {p:Pt} (h:cI l=some (p,t)):t.length<=l.length:=by
 rw[(ob.sound _ _ _ h).1,kG];omega
structure PJ (B b:Nat) (w:World) (X:List (Nat×TypeId×List Value)) (l:List UInt8) (cs:List Value) (V:World):Prop where
 bw:b<w.heap.size
 Bw:B<=b
 sep:∀x∈X,w.heap.size+1<x.1
 st:cB B b w V
 rd:dT b l V
 res:bx w.heap.size 51 iv.toList V
 box:bx (w.heap.size+1) 51 cs V
 ex:∀x∈X,bx x.1 x.2.1 x.2.2 V
theorem bx.lt {g:Nat} {t:TypeId} {a:List Value} {V:World} (h:bx g t a V):g<V.heap.size:=lS h
theorem PJ.num {B b:Nat} {w:World} {X:List (Nat×TypeId×List Value)} {l t:List UInt8} {e:List Value} {V c:World} (h:PJ B b w X l e V) (a:cB B b V c) (f:dT b t c):PJ B b w X t e c where
 bw:=h.bw
 Bw:=h.Bw
 sep:=h.sep
 st:=h.st.trans a
 rd:=f
 res:=(a.keep _ h.res.lt (by have:=h.bw;omega)).trans h.res
 box:=(a.keep _ h.box.lt (by have:=h.bw;omega)).trans h.box
 ex:=fun x d=>(a.keep _ (h.ex x d).lt (by have:=h.bw;have:=h.sep x d;omega)).trans (h.ex x d)
theorem PJ.fill {B b:Nat} {w:World} {X:List (Nat×TypeId×List Value)} {l t:List UInt8} {g cs':List Value} {V a:World} (h:PJ B b w X l g V) (c:gp B b (w.heap.size+1) V a) (j:dT b t a) (i:bx (w.heap.size+1) 51 cs' a):PJ B b w X t cs' a where
 bw:=h.bw
 Bw:=h.Bw
 sep:=h.sep
 st:=⟨h.st.bel.trans c.bel,fun k e f=>(c.keep k (kh e h.st.bel.size) f oM).trans (h.st.keep k e f)⟩
 rd:=j
 res:=(c.keep _ h.res.lt (by have:=h.bw;omega) oM).trans h.res
 box:=i
 ex:=fun x d=>(c.keep _ (h.ex x d).lt (by have:=h.bw;have:=h.sep x d;omega) (by have:=h.sep x d;omega)).trans (h.ex x d)
theorem PJ.put {B b:Nat} {w:World} {X:List (Nat×TypeId×List Value)} {l:List UInt8} {a:List Value} {V:World} (h:PJ B b w X l a V) (i:Nat) (v:Value) (c:v.oneCell'=true):PJ B b w X l (a.set i v) (V.setCell ⟨w.heap.size+1,i,none⟩ v):=by
 obtain ⟨d,e⟩:=h.box.set (B:=B) (b:=b) (by have:=h.bw;have:=h.Bw;omega) i v c;exact h.fill e ((ko _ _ _ _ (by have:=h.bw;show b≠w.heap.size+1;omega)).trans h.rd) d
theorem PJ.alloc {B b:Nat} {w:World} {X:List (Nat×TypeId×List Value)} {l:List UInt8} {c:List Value} {V:World} (h:PJ B b w X l c V) (d:List Value) (t:TypeId):PJ B b w ((V.heap.size,t,d)::X) l c (V.alloc (.cells d.toArray t)) where
 bw:=h.bw
 Bw:=h.Bw
 sep:=fun x a=>by
  rcases List.mem_cons.1 a with rfl|a
  ·exact h.box.lt
  ·exact h.sep x a
 st:=h.st.trans (cB.alloc (by have:=h.st.bel.size;have:=h.bw;have:=h.Bw;omega) _)
 rd:=nl h.rd _
 res:=((aq V _).block _ h.res.lt).trans h.res
 box:=((aq V _).block _ h.box.lt).trans h.box
 ex:=fun x a=>by
  rcases List.mem_cons.1 a with rfl|a
  ·exact aD V _
  ·exact ((aq V _).block _ (h.ex x a).lt).trans (h.ex x a)
theorem PJ.drew {B b:Nat} {w:World} {X:List (Nat×TypeId×List Value)} {l:List UInt8} {a:List Value} {V:World} (h:PJ B b w X l a V):PJ B b w X l a V.drew :=
 ⟨h.bw,h.Bw,h.sep,h.st.trans cB.drew,h.rd,h.res,h.box,h.ex⟩
theorem PJ.two {B b:Nat} {w:World} {X:List (Nat×TypeId×List Value)} {g:Nat} {t:TypeId} {f:List Value} {l:List UInt8} {j:List Value} {V:World} (h:PJ B b w ((g,t,f)::X) l j V) (r:∀x∈X,x.1≠g) (i:Nat) (v u:Value) :
  PJ B b w ((g,t,(f.set i v).set (i+1) u)::X) l j ((V.setCell ⟨g,i,none⟩ v).setCell ⟨g,i+1,none⟩ u):=by
 have d:=h.sep (g,t,f) sS;have s:=h.bw;have a:∀k,k≠g->((V.setCell ⟨g,i,none⟩ v).setCell ⟨g,i+1,none⟩ u).heap[k]?=V.heap[k]?:=fun k a=>(ko _ _ _ _ (fun e=>a e)).trans (ko _ _ _ _ (fun e=>a e));have n:B<=g:=by have:=h.Bw;simp only at d;omega
 refine ⟨h.bw,h.Bw,?_,?_,(a b (by simp only at d;omega)).trans h.rd,(a _ (by simp only at d;omega)).trans h.res,(a _ (by simp only at d;omega)).trans h.box,?_⟩
 ·intro x c;rcases List.mem_cons.1 c with rfl|c
  ·exact d
  ·exact h.sep x (by simp[c])
 ·refine ⟨(h.st.bel.setCell (p:=⟨g,i,none⟩) n v).setCell (p:=⟨g,i+1,none⟩) n u,fun k o q=>(a k (by simp only at d;omega)).trans (h.st.keep k o q)⟩
 ·intro x c;rcases List.mem_cons.1 c with rfl|c
  ·have m:=h.ex (g,t,f) sS;unfold bx at m |-;simp[World.setCell,Array.getElem?_modify,m]
  ·exact (a _ (r x c)).trans (h.ex x (by simp[c]))
theorem wV (a:List Pt) (M:Nat) (x y:Int):((a.flatMap aK++xa (2*(M+1)) (Z .i64 0)).set (a.length*2) (Z G x)).set (a.length*2+1) (Z G y)=(a++[(x,y)]).flatMap aK++xa (2*M) (Z .i64 0):=by
 have b:=ni a;rw[List.set_append_right _ _ oM,b,Nat.sub_self,show 2*(M+1)=2*M+1+1 from oM,List.replicate_succ,List.replicate_succ,List.set_cons_zero,List.set_append_right _ _ oM,b,show a.length*2+1-a.length*2=1 from oM];simp[aK,List.flatMap_append]
theorem wT {g:Nat} {t:TypeId} {a:List Pt} {V:World} (h:bx g t (a.flatMap aK) V) (e:a.length<=1048576):bo V (J (some ⟨g,0,none⟩) a.length a.length) a:=by
 refine ⟨_,_,rfl,oM,.inr ⟨g,0,rfl,h.lt,fun j d=>?_⟩⟩;obtain ⟨b,c⟩:=su a j d;rw[Nat.zero_add,kb h,kb h];simp only[List.getElem?_toArray];exact ⟨b,c⟩
theorem vq (N:Nat):(madeCells #[Z .i64 0,Z G 0] (N*2))=(xa (2*N) (Z .i64 0)).toArray:=by
 refine Array.ext (by simp[madeCells];omega) fun i a b=>?_;simp only[madeCells,Array.getElem_ofFn,List.getElem_toArray,List.getElem_replicate];have:i % (#[Z .i64 0,Z G 0]:Array Value).size<2:=Nat.mod_lt _ dD;rcases (show i % 2=0\/i % 2=1 from oM) with e|e<;>simp[e]
theorem Fj (B b:Nat) (l:List UInt8) (w:World) (hB:B<=b) (h:dT b l w) (hl:l.length<=140737488355328) :
  Calls prog 165 #[.pointer (some ⟨b,0,none⟩)] w fun e w'=>cB B b w w'/\((∃n sv cv u,iZ (fun _=>64) (fun _=>16) l=some (n,u)/\e=.returned (.agg (aO n sv cv))/\dT b u w'/\dH w' n sv cv/\ar w.heap.size sv/\ar w.heap.size cv)\/(iZ (fun _=>64) (fun _=>16) l=none/\e=qa)):=by
 have hbw:b<w.heap.size:=lS h;have hBw:B<=w.heap.size:=oM;have HJ0:PJ B b w [] l iv.toList ((w.alloc (.cells iv 51)).alloc (.cells iv 51)):=by
  obtain ⟨o,q⟩:=df w (Obj.cells iv 51) (Obj.cells iv 51);exact ⟨hbw,hB,sS,(cB.alloc hBw _).trans (cB.alloc sO _),nl (nl h _) _,o,q,sS⟩
 have a:=qH HJ0;clear HJ0 h;obtain ⟨R,A⟩:∃R,Hid (R=iZ (fun _=>64) (fun _=>16) l):=⟨_,rfl⟩;rw[<-A.out];go_enter func165,ntmps165;go_wp2_with fail
 generalize (w.alloc _).alloc _=V0 at *;refine (gJ B b l V0 hB (km hBw a.1.st.bel.size) a.1.rd oM).mono ?_;rintro e V1 ⟨f,H⟩;rcases H with ⟨r,l1,d,rfl,m⟩|⟨d,rfl⟩;rotate_left
 ·exact ⟨rfl,a.1.st.trans f,.inr ⟨by rw[A.out,iZ,d],rfl⟩⟩
 replace A:=au (show R=ly (fun _=>64) (fun _=>16) r l1 by rw[A.out,iZ,d]);have hl1:l1.length<=140737488355328:=by have:=fK d;omega
 replace a:=qH (a.1.num f m);have ci:V1.cell? ⟨w.heap.size+1,0,none⟩=some (Z G 0):=kb a.1.box _;have fi:V1.frozen? ⟨w.heap.size+1,0,none⟩=false:=ka a.1.box _;replace a:=qH (a.1.put 0 (Z G r) rfl);clear d f m;replace a:=qH (show PJ B b w [] l1 [Z G r,Z G 0,Z G 0,Z G 0,Z G 0,Z G 0,J none 0 0,Z G 0,Z G 0,Z G 0,Z G 0,Z G 0,Z G 0,Z G 0,Z G 0,Z G 0,Z G 0,Z G 0,Z G 0,J none 0 0,Z G 0] (V1.setCell ⟨w.heap.size+1,0,none⟩ (Z G r)) from a.1);go_wp2_with fail
 clear ci fi;generalize V1.setCell _ _=V1' at *;have hz:∀i,i<4->∃z:Int,([Z G r,Z G 0,Z G 0,Z G 0,Z G 0,Z G 0,J none 0 0,Z G 0,Z G 0,Z G 0,Z G 0,Z G 0,Z G 0,Z G 0,Z G 0,Z G 0,Z G 0,Z G 0,Z G 0,J none 0 0,Z G 0]:List Value)[1+i]?=some (Z G z):=fun i hi=>by
  rcases (show i=0\/i=1\/i=2\/i=3 from oM) with rfl|rfl|rfl|rfl<;>exact ⟨_,rfl⟩
 refine (qs B b (w.heap.size+1) 1 4 4 51 [Z G r,Z G 0,Z G 0,Z G 0,Z G 0,Z G 0,J none 0 0,Z G 0,Z G 0,Z G 0,Z G 0,Z G 0,Z G 0,Z G 0,Z G 0,Z G 0,Z G 0,Z G 0,Z G 0,J none 0 0,Z G 0] l1 V1' hB oM oM (km hBw a.1.st.bel.size) a.1.rd oM a.1.box sS oM hz).mono ?_;rintro e V2 ⟨f,H⟩;rcases H with ⟨C,l2,d,rfl,m,K⟩|⟨d,rfl⟩;rotate_left
 ·exact ⟨rfl,⟨a.1.st.bel.trans f.bel,fun k h1 h2=>(f.keep k (kh h1 a.1.st.bel.size) h2 oM).trans (a.1.st.keep k h1 h2)⟩,.inr ⟨by rw[A.out,ly,d],rfl⟩⟩
 obtain ⟨s,o,q,t,rfl⟩:∃s o q t,C=[s,o,q,t]:=by
  have hlen:=iS d
  match C,hlen with
  | [s,o,q,t],_=>exact ⟨s,o,q,t,rfl⟩
 replace A:=au (show R=lz (fun _=>64) (fun _=>16) r [s,o,q,t] l2 by rw[A.out,ly,d]);have hl2:l2.length<=140737488355328:=by have:=mg (fun _ _ _=>fK) d;omega
 replace a:=qH (a.1.fill f m K);clear d f m K hz;replace a:=qH (show PJ B b w [] l2 [Z G r,Z G s,Z G o,Z G q,Z G t,Z G 0,J none 0 0,Z G 0,Z G 0,Z G 0,Z G 0,Z G 0,Z G 0,Z G 0,Z G 0,Z G 0,Z G 0,Z G 0,Z G 0,J none 0 0,Z G 0] V2 from a.1);go_wp2_with fail
 refine (gJ B b l2 V2 hB (km hBw a.1.st.bel.size) a.1.rd oM).mono ?_;rintro e V3 ⟨f,H⟩;rcases H with ⟨D,l3,d,rfl,m⟩|⟨d,rfl⟩;rotate_left
 ·exact ⟨rfl,a.1.st.trans f,.inr ⟨by rw[A.out,lz,d],rfl⟩⟩
 replace A:=au (show R=kj (fun _=>64) (fun _=>16) r [s,o,q,t] D l3 by rw[A.out,lz,d]);have hl3:l3.length<=140737488355328:=by have:=fK d;omega
 replace a:=qH (a.1.num f m);have ci:V3.cell? ⟨w.heap.size+1,5,none⟩=some (Z G 0):=kb a.1.box _;have fi:V3.frozen? ⟨w.heap.size+1,5,none⟩=false:=ka a.1.box _;replace a:=qH (a.1.put 5 (Z G D) rfl);clear d f m;replace a:=qH (show PJ B b w [] l3 [Z G r,Z G s,Z G o,Z G q,Z G t,Z G D,J none 0 0,Z G 0,Z G 0,Z G 0,Z G 0,Z G 0,Z G 0,Z G 0,Z G 0,Z G 0,Z G 0,Z G 0,Z G 0,J none 0 0,Z G 0] (V3.setCell ⟨w.heap.size+1,5,none⟩ (Z G D)) from a.1);go_wp2_with fail
 clear ci fi;generalize V3.setCell _ _=V3' at *;refine (qq B b 64 l3 V3' hB (km hBw a.1.st.bel.size) a.1.rd oM).mono ?_;rintro e O ⟨f,H⟩;rcases H with ⟨n,l4,d,rfl,m⟩|⟨d,rfl⟩;rotate_left
 ·exact ⟨rfl,a.1.st.trans f,.inr ⟨by rw[A.out,kj,pJ d],rfl⟩⟩
 obtain ⟨c,rfl,hN4,hlp,hlen⟩:=pL (p:=cI) d;have HLP:=qH hlp;have hl4:l4.length<=140737488355328:=oM;replace a:=qH (a.1.num f m);clear d f m hlp hlen;obtain ⟨i0,hi,hz0,hz1,hz2⟩:=info_parts Tryz.infoSpot;obtain ⟨ZA,hZA⟩:=eX ((xa (2*c) (Z .i64 0)).toArray);have hmk:∀V:World,(Instr.makeSlice 46 (Z G c) (Z G c)).run prog V=.ok (J (some ⟨V.heap.size,0,none⟩) c c) (V.alloc (.cells ZA 97)):=fun V=>by
  have h:=run_make (P:=prog) V 46 97 i0 kM underlying46 hi hz0 .i64 .i64 c c oM (Int.le_refl _) (by rw[hz2];omega) oM;rw[hz1,Int.toNat_natCast] at h;rw[<-hZA,<-vq];simpa [kM,Value.cells] using h
 clear hi hz0 hz1 hz2;have hxs4:∀x∈([]:List (Nat×TypeId×List Value)),x.1≠O.heap.size:=fun x hx=>by have:=(a.1.ex x hx).lt;omega
 have ci:O.cell? ⟨w.heap.size+1,6,none⟩=some (J none 0 0):=kb a.1.box _;have fi:O.frozen? ⟨w.heap.size+1,6,none⟩=false:=ka a.1.box _;have hbl:w.heap.size+1<O.heap.size:=a.1.box.lt;have ci':(O.alloc (.cells ZA 97)).cell? ⟨w.heap.size+1,6,none⟩=some (J none 0 0):=kb (((aq O _).block _ a.1.box.lt).trans a.1.box) _;have fi':(O.alloc (.cells ZA 97)).frozen? ⟨w.heap.size+1,6,none⟩=false:=ka (((aq O _).block _ a.1.box.lt).trans a.1.box) _;replace a:=qH ((a.1.put 6 (J (some ⟨O.heap.size,0,none⟩) c c) rfl).alloc (xa (2*c) (Z .i64 0)) 97);rw[hZA,show (O.setCell ⟨w.heap.size+1,6,none⟩ (J (some ⟨O.heap.size,0,none⟩) c c)).heap.size=O.heap.size by simp[World.setCell]] at a;clear hZA;have hsep4:w.heap.size+1<O.heap.size:=a.1.sep _ List.mem_cons_self;go_upto_region 6 with fail
 clear ci fi ci' fi' hmk hbl;generalize O.heap.size=j at *;generalize (O.setCell _ _).alloc _=VA at *;have cj:VA.cell? ⟨w.heap.size+1,6,none⟩=some (J (some ⟨j,0,none⟩) c c):=kb a.1.box _;go_wp2_with fail
 clear cj;replace a:=qH (show PJ B b w [(j,97,[].flatMap aK++xa (2*(c-0)) (Z .i64 0))] l4 [Z G r,Z G s,Z G o,Z G q,Z G t,Z G D,J (some ⟨j,0,none⟩) c c,Z G 0,Z G 0,Z G 0,Z G 0,Z G 0,Z G 0,Z G 0,Z G 0,Z G 0,Z G 0,Z G 0,Z G 0,J none 0 0,Z G 0] VA from a.1);go_loopw [23] (fun i wr=>∃k:Nat,k<=c/\i=Z G k/\∃C u,bO cI k l4=some (C,u)/\PJ B b w [(j,97,C.flatMap aK++xa (2*(c-k)) (Z .i64 0))] u [Z G r,Z G s,Z G o,Z G q,Z G t,Z G D,J (some ⟨j,0,none⟩) c c,Z G 0,Z G 0,Z G 0,Z G 0,Z G 0,Z G 0,Z G 0,Z G 0,Z G 0,Z G 0,Z G 0,Z G 0,J none 0 0,Z G 0] wr) (fun i _=>c-(intOf i).toNat)
 case atStart=>exact ⟨0,kv _,rfl,[],l4,rfl,a.1⟩
 case round =>
  clear a;obtain ⟨k,hk,rfl,C,u,hm,hJ⟩:=hrel;have a:=qH hJ;clear hJ;have hnl:=iS hm;have hul:=mg (fun _ _ _=>wn) hm;by_cases hlt:k<c
  ·have hd:decide ((k:Int)<(c:Int))=true:=sO;have HM:=qH hm;have HSQ:=qH (fun (v:World) (cs':List UInt8) (hv:PJ B b w [(j,97,C.flatMap aK++xa (2*(c-k)) (Z .i64 0))] cs' [Z G r,Z G s,Z G o,Z G q,Z G t,Z G D,J (some ⟨j,0,none⟩) c c,Z G 0,Z G 0,Z G 0,Z G 0,Z G 0,Z G 0,Z G 0,Z G 0,Z G 0,Z G 0,Z G 0,Z G 0,J none 0 0,Z G 0] v)=>show v.cell? ⟨w.heap.size+1,6,none⟩=some (J (some ⟨j,0,none⟩) c c)/\True from ⟨kb hv.box _,trivial⟩);clear hm;(go_upto_region 9 with fail);have HJd:=qH a.1.drew;have hSd:=HSQ.1 _ _ HJd.1;refine dR (S:=(fun v:World=>v.cell? ⟨w.heap.size+1,6,none⟩=some (J (some ⟨j,0,none⟩) c c)/\True)) 9 ?_;refine ak 0 ?_;refine ak 2 ?_;refine ak 3 ?_;refine ak 5 ?_;refine ak 1 ?_;refine aw 4 fun K' M=>?_;go_simp;refine (gJ B b u wr.drew hB (km hBw HJd.1.st.bel.size) HJd.1.rd oM).mono ?_;rintro e X1 ⟨f,H⟩;rcases H with ⟨x,u1,d,rfl,m⟩|⟨d,rfl⟩;rotate_left
   ·exact ⟨rfl,HJd.1.st.trans f,.inr ⟨by rw[A.out,kj,HLP.1,mf HM.1 (by rw[cI,d]) hlt],rfl⟩⟩
   have HP1:=qH d;have hu1:=fK d;have HJ1:=qH (HJd.1.num f m);clear d f m;have hSd:=HSQ.1 _ _ HJ1.1;refine M.out _ _ hSd ?_;clear M;(try simp only[kc]);refine aw 6 fun K' M=>?_;go_simp;refine (gJ B b u1 X1 hB (km hBw HJ1.1.st.bel.size) HJ1.1.rd oM).mono ?_;rintro e X2 ⟨f,H⟩;rcases H with ⟨y,u2,d,rfl,m⟩|⟨d,rfl⟩;rotate_left
   ·exact ⟨rfl,HJ1.1.st.trans f,.inr ⟨by rw[A.out,kj,HLP.1,mf HM.1 (by rw[cI,HP1.1];simp only[d]) hlt],rfl⟩⟩
   have HP2:=qH (show cI u=some ((x,y),u2) by rw[cI,HP1.1];simp only[d]);have HJ2:=qH (HJ1.1.num f m);clear d f m;have hcl:(C.flatMap aK++xa (2*(c-k)) (Z .i64 0)).length=c*2:=(by rw[kG,ni,List.length_replicate,hnl];omega);have K:=HJ2.1.ex (j,97,C.flatMap aK++xa (2*(c-k)) (Z .i64 0)) sS;have E:∃z,X2.cell? ⟨j,k*2,none⟩=some z:=⟨_,by rw[kb K,List.getElem?_toArray];exact kf (by rw[hcl];omega)⟩;have F:∃z,X2.cell? ⟨j,k*2+1,none⟩=some z:=⟨_,by rw[kb K,List.getElem?_toArray];exact kf (by rw[hcl];omega)⟩;obtain ⟨z0,c0⟩:=E;obtain ⟨z1,c1⟩:=F;have f0:X2.frozen? ⟨j,k*2,none⟩=false:=ka K _;have f1:X2.frozen? ⟨j,k*2+1,none⟩=false:=ka K _;have HJ3:=qH (HJ2.1.two hxs4 (k*2) (Z G x) (Z G y));clear hcl K;have hSd:=HSQ.1 _ _ HJ2.1;refine M.out _ _ hSd ?_;clear M;(try simp only[kc]);refine ak 7 ?_;refine ak 8 ?_;refine aS fun K' M=>?_;go_simp;refine M.out _ _ ?_;clear M;(try simp only[kc]);have HJ4:=qH (show PJ B b w [(j,97,(C++[(x,y)]).flatMap aK++xa (2*(c-(k+1))) (Z .i64 0))] u2 [Z G r,Z G s,Z G o,Z G q,Z G t,Z G D,J (some ⟨j,0,none⟩) c c,Z G 0,Z G 0,Z G 0,Z G 0,Z G 0,Z G 0,Z G 0,Z G 0,Z G 0,Z G 0,Z G 0,Z G 0,J none 0 0,Z G 0] _ from by
    have h:=HJ3.1;rw[show c-k=c-(k+1)+1 from oM,<-hnl,wV,hnl] at h;exact h)
   have HM2:=qH (oa HM.1 HP2.1);clear HJ3 HJ2 HJ1 HJd a hSd c0 c1 f0 f1 HSQ;go_wp2;go_roundw
   case rel=>exact ⟨k+1,hlt,gN,_,_,HM2.1,HJ4.1⟩
   case measure=>simp[intOf];omega
  ·have hd:decide ((k:Int)<(c:Int))=false:=sO;obtain rfl:c=k:=oM;replace A:=au (show R=lA (fun _=>16) r [s,o,q,t] D C u by rw[A.out,kj,HLP.1,hm]);replace a:=qH (show PJ B b w [(j,97,C.flatMap aK)] u [Z G r,Z G s,Z G o,Z G q,Z G t,Z G D,J (some ⟨j,0,none⟩) c c,Z G 0,Z G 0,Z G 0,Z G 0,Z G 0,Z G 0,Z G 0,Z G 0,Z G 0,Z G 0,Z G 0,Z G 0,J none 0 0,Z G 0] wr by have h:=a.1;rwa [Nat.sub_self,Nat.mul_zero,List.replicate_zero,List.append_nil] at h);have hn4:=hnl;clear hm HLP hnl;generalize C=N at *;generalize u=l4u at *;generalize wr=W4 at *;have hl4u:l4u.length<=140737488355328:=oM;clear hul;(go_wp2_with fail);have hz:∀i,i<3->∃z:Int,([Z G r,Z G s,Z G o,Z G q,Z G t,Z G D,J (some ⟨j,0,none⟩) c c,Z G 0,Z G 0,Z G 0,Z G 0,Z G 0,Z G 0,Z G 0,Z G 0,Z G 0,Z G 0,Z G 0,Z G 0,J none 0 0,Z G 0]:List Value)[7+i]?=some (Z G z):=fun i hi=>by
    rcases (show i=0\/i=1\/i=2 from oM) with rfl|rfl|rfl<;>exact ⟨_,rfl⟩
   refine (qs B b (w.heap.size+1) 7 3 3 51 [Z G r,Z G s,Z G o,Z G q,Z G t,Z G D,J (some ⟨j,0,none⟩) c c,Z G 0,Z G 0,Z G 0,Z G 0,Z G 0,Z G 0,Z G 0,Z G 0,Z G 0,Z G 0,Z G 0,Z G 0,J none 0 0,Z G 0] l4u W4 hB oM oM (km hBw a.1.st.bel.size) a.1.rd oM a.1.box sS oM hz).mono ?_;rintro e V5 ⟨f,H⟩;rcases H with ⟨C,l5,d,rfl,m,K⟩|⟨d,rfl⟩;rotate_left
   ·exact ⟨rfl,⟨a.1.st.bel.trans f.bel,fun k h1 h2=>(f.keep k (kh h1 a.1.st.bel.size) h2 oM).trans (a.1.st.keep k h1 h2)⟩,.inr ⟨by rw[A.out,lA,d],rfl⟩⟩
   obtain ⟨E,F,L,rfl⟩:∃E F L,C=[E,F,L]:=by
    have hlen:=iS d
    match C,hlen with
    | [E,F,L],_=>exact ⟨E,F,L,rfl⟩
   replace A:=au (show R=lB (fun _=>16) r [s,o,q,t] D N [E,F,L] l5 by rw[A.out,lA,d]);have hl5:l5.length<=140737488355328:=(by have:=mg (fun _ _ _=>fK) d;omega);replace a:=qH (a.1.fill f m K);clear d f m K hz;replace a:=qH (show PJ B b w [(j,97,N.flatMap aK)] l5 [Z G r,Z G s,Z G o,Z G q,Z G t,Z G D,J (some ⟨j,0,none⟩) c c,Z G E,Z G F,Z G L,Z G 0,Z G 0,Z G 0,Z G 0,Z G 0,Z G 0,Z G 0,Z G 0,Z G 0,J none 0 0,Z G 0] V5 from a.1);(go_wp2_with fail);have hz:∀i,i<9->∃z:Int,([Z G r,Z G s,Z G o,Z G q,Z G t,Z G D,J (some ⟨j,0,none⟩) c c,Z G E,Z G F,Z G L,Z G 0,Z G 0,Z G 0,Z G 0,Z G 0,Z G 0,Z G 0,Z G 0,Z G 0,J none 0 0,Z G 0]:List Value)[10+i]?=some (Z G z):=fun i hi=>by
    rcases (show i=0\/i=1\/i=2\/i=3\/i=4\/i=5\/i=6\/i=7\/i=8 from oM) with rfl|rfl|rfl|rfl|rfl|rfl|rfl|rfl|rfl<;>exact ⟨_,rfl⟩
   refine (qs B b (w.heap.size+1) 10 9 9 51 [Z G r,Z G s,Z G o,Z G q,Z G t,Z G D,J (some ⟨j,0,none⟩) c c,Z G E,Z G F,Z G L,Z G 0,Z G 0,Z G 0,Z G 0,Z G 0,Z G 0,Z G 0,Z G 0,Z G 0,J none 0 0,Z G 0] l5 V5 hB oM oM (km hBw a.1.st.bel.size) a.1.rd oM a.1.box sS oM hz).mono ?_;rintro e V6 ⟨f,H⟩;rcases H with ⟨C,l6,d,rfl,m,K⟩|⟨d,rfl⟩;rotate_left
   ·exact ⟨rfl,⟨a.1.st.bel.trans f.bel,fun k h1 h2=>(f.keep k (kh h1 a.1.st.bel.size) h2 oM).trans (a.1.st.keep k h1 h2)⟩,.inr ⟨by rw[A.out,lB,d],rfl⟩⟩
   obtain ⟨T,U,W,X,Y,m5,m6,m7,m8,rfl⟩:∃T U W X Y m5 m6 m7 m8,C=[T,U,W,X,Y,m5,m6,m7,m8]:=by
    have hlen:=iS d
    match C,hlen with
    | [T,U,W,X,Y,m5,m6,m7,m8],_=>exact ⟨T,U,W,X,Y,m5,m6,m7,m8,rfl⟩
   replace A:=au (show R=kk (fun _=>16) r [s,o,q,t] D N [E,F,L] [T,U,W,X,Y,m5,m6,m7,m8] l6 by rw[A.out,lB,d]);have hl6:l6.length<=140737488355328:=(by have:=mg (fun _ _ _=>fK) d;omega);replace a:=qH (a.1.fill f m K);clear d f m K hz;replace a:=qH (show PJ B b w [(j,97,N.flatMap aK)] l6 [Z G r,Z G s,Z G o,Z G q,Z G t,Z G D,J (some ⟨j,0,none⟩) c c,Z G E,Z G F,Z G L,Z G T,Z G U,Z G W,Z G X,Z G Y,Z G m5,Z G m6,Z G m7,Z G m8,J none 0 0,Z G 0] V6 from a.1);(go_wp2_with fail);refine (qq B b 16 l6 V6 hB (km hBw a.1.st.bel.size) a.1.rd oM).mono ?_;rintro e Q ⟨f,H⟩;rcases H with ⟨n,l7,d,rfl,m⟩|⟨d,rfl⟩;rotate_left
   ·exact ⟨rfl,a.1.st.trans f,.inr ⟨by rw[A.out,kk,pJ d],rfl⟩⟩
   obtain ⟨g,rfl,hN7,hlp,hlen⟩:=pL (p:=cI) d;have HLP:=qH hlp;have hl7:l7.length<=140737488355328:=oM;replace a:=qH (a.1.num f m);clear d f m hlp hlen;obtain ⟨i0,hi,hz0,hz1,hz2⟩:=info_parts Tryz.infoPoint;obtain ⟨ZA,hZA⟩:=eX ((xa (2*g) (Z .i64 0)).toArray);have hmk:∀V:World,(Instr.makeSlice 49 (Z G g) (Z G g)).run prog V=.ok (J (some ⟨V.heap.size,0,none⟩) g g) (V.alloc (.cells ZA 66)):=fun V=>by
    have h:=run_make (P:=prog) V 49 66 i0 kM underlying49 hi hz0 .i64 .i64 g g oM (Int.le_refl _) (by rw[hz2];omega) oM;rw[hz1,Int.toNat_natCast] at h;rw[<-hZA,<-vq];simpa [kM,Value.cells] using h
   clear hi hz0 hz1 hz2;have hxs7:∀x∈([(j,97,N.flatMap aK)]:List (Nat×TypeId×List Value)),x.1≠Q.heap.size:=fun x hx=>(by have:=(a.1.ex x hx).lt;omega);have ci:Q.cell? ⟨w.heap.size+1,19,none⟩=some (J none 0 0):=kb a.1.box _;have fi:Q.frozen? ⟨w.heap.size+1,19,none⟩=false:=ka a.1.box _;have hbl:w.heap.size+1<Q.heap.size:=a.1.box.lt;have ci':(Q.alloc (.cells ZA 66)).cell? ⟨w.heap.size+1,19,none⟩=some (J none 0 0):=kb (((aq Q _).block _ a.1.box.lt).trans a.1.box) _;have fi':(Q.alloc (.cells ZA 66)).frozen? ⟨w.heap.size+1,19,none⟩=false:=ka (((aq Q _).block _ a.1.box.lt).trans a.1.box) _;replace a:=qH ((a.1.put 19 (J (some ⟨Q.heap.size,0,none⟩) g g) rfl).alloc (xa (2*g) (Z .i64 0)) 66);rw[hZA,show (Q.setCell ⟨w.heap.size+1,19,none⟩ (J (some ⟨Q.heap.size,0,none⟩) g g)).heap.size=Q.heap.size by simp[World.setCell]] at a;clear hZA;have hsep7:w.heap.size+1<Q.heap.size:=a.1.sep _ List.mem_cons_self;(go_upto_region 14 with fail);clear ci fi ci' fi' hmk hbl;generalize Q.heap.size=I at *;generalize (Q.setCell _ _).alloc _=VA at *;have cj:VA.cell? ⟨w.heap.size+1,19,none⟩=some (J (some ⟨I,0,none⟩) g g):=kb a.1.box _;(go_wp2_with fail);clear cj;replace a:=qH (show PJ B b w [(I,66,[].flatMap aK++xa (2*(g-0)) (Z .i64 0)),(j,97,N.flatMap aK)] l7 [Z G r,Z G s,Z G o,Z G q,Z G t,Z G D,J (some ⟨j,0,none⟩) c c,Z G E,Z G F,Z G L,Z G T,Z G U,Z G W,Z G X,Z G Y,Z G m5,Z G m6,Z G m7,Z G m8,J (some ⟨I,0,none⟩) g g,Z G 0] VA from a.1);go_loopw [51] (fun i wr=>∃k:Nat,k<=g/\i=Z G k/\∃C u,bO cI k l7=some (C,u)/\PJ B b w [(I,66,C.flatMap aK++xa (2*(g-k)) (Z .i64 0)),(j,97,N.flatMap aK)] u [Z G r,Z G s,Z G o,Z G q,Z G t,Z G D,J (some ⟨j,0,none⟩) c c,Z G E,Z G F,Z G L,Z G T,Z G U,Z G W,Z G X,Z G Y,Z G m5,Z G m6,Z G m7,Z G m8,J (some ⟨I,0,none⟩) g g,Z G 0] wr) (fun i _=>g-(intOf i).toNat)
   case atStart=>exact ⟨0,kv _,rfl,[],l7,rfl,a.1⟩
   case round =>
    clear a;obtain ⟨k,hk,rfl,C,u,hm,hJ⟩:=hrel;have a:=qH hJ;clear hJ;have hnl:=iS hm;have hul:=mg (fun _ _ _=>wn) hm;by_cases hlt:k<g
    ·have hd:decide ((k:Int)<(g:Int))=true:=sO;have HM:=qH hm;have HSQ:=qH (fun (v:World) (cs':List UInt8) (hv:PJ B b w [(I,66,C.flatMap aK++xa (2*(g-k)) (Z .i64 0)),(j,97,N.flatMap aK)] cs' [Z G r,Z G s,Z G o,Z G q,Z G t,Z G D,J (some ⟨j,0,none⟩) c c,Z G E,Z G F,Z G L,Z G T,Z G U,Z G W,Z G X,Z G Y,Z G m5,Z G m6,Z G m7,Z G m8,J (some ⟨I,0,none⟩) g g,Z G 0] v)=>show v.cell? ⟨w.heap.size+1,19,none⟩=some (J (some ⟨I,0,none⟩) g g)/\True from ⟨kb hv.box _,trivial⟩);clear hm;(go_upto_region 17 with fail);have HJd:=qH a.1.drew;have hSd:=HSQ.1 _ _ HJd.1;refine dR (S:=(fun v:World=>v.cell? ⟨w.heap.size+1,19,none⟩=some (J (some ⟨I,0,none⟩) g g)/\True)) 9 ?_;refine ak 0 ?_;refine ak 2 ?_;refine ak 3 ?_;refine ak 5 ?_;refine ak 1 ?_;refine aw 4 fun K' M=>?_;go_simp;refine (gJ B b u wr.drew hB (km hBw HJd.1.st.bel.size) HJd.1.rd oM).mono ?_;rintro e X1 ⟨f,H⟩;rcases H with ⟨x,u1,d,rfl,m⟩|⟨d,rfl⟩;rotate_left
     ·exact ⟨rfl,HJd.1.st.trans f,.inr ⟨by rw[A.out,kk,HLP.1,mf HM.1 (by rw[cI,d]) hlt],rfl⟩⟩
     have HP1:=qH d;have hu1:=fK d;have HJ1:=qH (HJd.1.num f m);clear d f m;have hSd:=HSQ.1 _ _ HJ1.1;refine M.out _ _ hSd ?_;clear M;(try simp only[kc]);refine aw 6 fun K' M=>?_;go_simp;refine (gJ B b u1 X1 hB (km hBw HJ1.1.st.bel.size) HJ1.1.rd oM).mono ?_;rintro e X2 ⟨f,H⟩;rcases H with ⟨y,u2,d,rfl,m⟩|⟨d,rfl⟩;rotate_left
     ·exact ⟨rfl,HJ1.1.st.trans f,.inr ⟨by rw[A.out,kk,HLP.1,mf HM.1 (by rw[cI,HP1.1];simp only[d]) hlt],rfl⟩⟩
     have HP2:=qH (show cI u=some ((x,y),u2) by rw[cI,HP1.1];simp only[d]);have HJ2:=qH (HJ1.1.num f m);clear d f m;have hcl:(C.flatMap aK++xa (2*(g-k)) (Z .i64 0)).length=g*2:=(by rw[kG,ni,List.length_replicate,hnl];omega);have K:=HJ2.1.ex (I,66,C.flatMap aK++xa (2*(g-k)) (Z .i64 0)) sS;have E:∃z,X2.cell? ⟨I,k*2,none⟩=some z:=⟨_,by rw[kb K,List.getElem?_toArray];exact kf (by rw[hcl];omega)⟩;have F:∃z,X2.cell? ⟨I,k*2+1,none⟩=some z:=⟨_,by rw[kb K,List.getElem?_toArray];exact kf (by rw[hcl];omega)⟩;obtain ⟨z0,c0⟩:=E;obtain ⟨z1,c1⟩:=F;have f0:X2.frozen? ⟨I,k*2,none⟩=false:=ka K _;have f1:X2.frozen? ⟨I,k*2+1,none⟩=false:=ka K _;have HJ3:=qH (HJ2.1.two hxs7 (k*2) (Z G x) (Z G y));clear hcl K;have hSd:=HSQ.1 _ _ HJ2.1;refine M.out _ _ hSd ?_;clear M;(try simp only[kc]);refine ak 7 ?_;refine ak 8 ?_;refine aS fun K' M=>?_;go_simp;refine M.out _ _ ?_;clear M;(try simp only[kc]);have HJ4:=qH (show PJ B b w [(I,66,(C++[(x,y)]).flatMap aK++xa (2*(g-(k+1))) (Z .i64 0)),(j,97,N.flatMap aK)] u2 [Z G r,Z G s,Z G o,Z G q,Z G t,Z G D,J (some ⟨j,0,none⟩) c c,Z G E,Z G F,Z G L,Z G T,Z G U,Z G W,Z G X,Z G Y,Z G m5,Z G m6,Z G m7,Z G m8,J (some ⟨I,0,none⟩) g g,Z G 0] _ from by
      have h:=HJ3.1;rw[show g-k=g-(k+1)+1 from oM,<-hnl,wV,hnl] at h;exact h)
     have HM2:=qH (oa HM.1 HP2.1);clear HJ3 HJ2 HJ1 HJd a hSd c0 c1 f0 f1 HSQ;go_wp2;go_roundw
     case rel=>exact ⟨k+1,hlt,gN,_,_,HM2.1,HJ4.1⟩
     case measure=>simp[intOf];omega
    ·have hd:decide ((k:Int)<(g:Int))=false:=sO;obtain rfl:g=k:=oM;replace A:=au (show R=lC (fun am=>⟨r,ix [s,o,q,t],D,N,ix [E,F,L],ix [T,U,W,X,Y,m5,m6,m7,m8],C,am⟩) u by rw[A.out,kk,HLP.1,hm]);replace a:=qH (show PJ B b w [(I,66,C.flatMap aK),(j,97,N.flatMap aK)] u [Z G r,Z G s,Z G o,Z G q,Z G t,Z G D,J (some ⟨j,0,none⟩) c c,Z G E,Z G F,Z G L,Z G T,Z G U,Z G W,Z G X,Z G Y,Z G m5,Z G m6,Z G m7,Z G m8,J (some ⟨I,0,none⟩) g g,Z G 0] wr by have h:=a.1;rwa [Nat.sub_self,Nat.mul_zero,List.replicate_zero,List.append_nil] at h);have hn7:=hnl;clear hm HLP hnl;generalize C=cu at *;generalize u=l7u at *;generalize wr=W7 at *;have hl7u:l7u.length<=140737488355328:=oM;clear hul;(go_wp2_with fail);refine (gJ B b l7u W7 hB (km hBw a.1.st.bel.size) a.1.rd oM).mono ?_;rintro e V8 ⟨f,H⟩;rcases H with ⟨am,l8,d,rfl,m⟩|⟨d,rfl⟩;rotate_left
     ·exact ⟨rfl,a.1.st.trans f,.inr ⟨by rw[A.out,lC,d],rfl⟩⟩
     replace A:=au (show R=some (⟨r,ix [s,o,q,t],D,N,ix [E,F,L],ix [T,U,W,X,Y,m5,m6,m7,m8],cu,am⟩,l8) by rw[A.out,lC,d]);replace a:=qH (a.1.num f m);have ci:V8.cell? ⟨w.heap.size+1,20,none⟩=some (Z G 0):=kb a.1.box _;have fi:V8.frozen? ⟨w.heap.size+1,20,none⟩=false:=ka a.1.box _;replace a:=qH (a.1.put 20 (Z G am) rfl);clear d f m;obtain ⟨PA,hPA⟩:∃PA,PA=aO (⟨r,ix [s,o,q,t],D,N,ix [E,F,L],ix [T,U,W,X,Y,m5,m6,m7,m8],cu,am⟩:aA) (J (some ⟨j,0,none⟩) c c) (J (some ⟨I,0,none⟩) g g):=⟨_,rfl⟩;have hbx:(V8.setCell ⟨w.heap.size+1,20,none⟩ (Z G am)).heap[w.heap.size+1]?=some (.cells PA 51 (0,0)):=(by rw[hPA];exact a.1.box);have hrs:(V8.setCell ⟨w.heap.size+1,20,none⟩ (Z G am)).heap[w.heap.size]?=some (.cells iv 51 (0,0)):=a.1.res;have i1:(prog.info? 51).map (·.size)=some PA.size:=(by rw[hPA];kernel_rfl);have i2:(iv:Array Value).size=PA.size:=(by rw[hPA];rfl);have i3:PA.all (·.oneCell')=true:=(by rw[hPA];simp[Value.oneCell']);have hx4:=a.1.ex (j,97,N.flatMap aK) sS;have hx7:=a.1.ex (I,66,cu.flatMap aK) sS;have hs4:=a.1.sep (j,97,N.flatMap aK) sS;have hs7:=a.1.sep (I,66,cu.flatMap aK) sS;simp only at hs4 hs7 hx4 hx7;have HI4:=qH (wT hx4 oM);have HI7:=qH (wT hx7 oM);have HST:=qH a.1.st;have HRD:=qH a.1.rd;clear a hx4 hx7;(go_upto_region 20 with fail);clear ci fi;generalize V8.setCell _ _=VF at *;have HG:=qH (setRow_heap _ _ _ PA _ _ hrs);have HF:=qH (show cB B b w (VF.setRow w.heap.size PA) from ⟨HST.1.bel.trans (below_setRow (Below.refl _ _) oM PA),fun k h1 h2=>(setRow_other _ _ _ _ oM).trans (HST.1.keep k h1 h2)⟩);have HRF:=qH (show dT b l8 (VF.setRow w.heap.size PA) from (setRow_other _ _ _ _ oM).trans HRD.1);have HPF:=qH (show dH (VF.setRow w.heap.size PA) ⟨r,ix [s,o,q,t],D,N,ix [E,F,L],ix [T,U,W,X,Y,m5,m6,m7,m8],cu,am⟩ (J (some ⟨j,0,none⟩) c c) (J (some ⟨I,0,none⟩) g g) from ⟨hn4 ▸ HI4.1.other (k:=w.heap.size) sS (fun b hb=>setRow_other _ _ _ _ hb) (by simp[Value.ownBlock];omega),hn7 ▸ HI7.1.other (k:=w.heap.size) sS (fun b hb=>setRow_other _ _ _ _ hb) (by simp[Value.ownBlock];omega)⟩);clear HST HRD HI4 HI7;(go_wp2_with (first|refine wpList_load_row rfl 51 _ rfl _ rfl _ _ _ _ hbx underlying51 rfl i1 ?_|refine wpList_store_row rfl 51 _ _ rfl w.heap.size PA rfl rfl _ _ hrs i1 i2 i3 ?_));refine bodyPost_ret (v:=.agg PA) (results_cell_row results165 _ _ _ _ _ _ _ rfl HG.1 underlying51 rfl i1) rfl ⟨HF.1,.inl ⟨_,_,_,_,A.out,by rw[hPA],HRF.1,HPF.1,?_,?_⟩⟩
     ·exact ⟨fun b e=>by simp[Value.ownBlock] at e;omega,kd _⟩
     ·exact ⟨fun b e=>by simp[Value.ownBlock] at e;omega,kd _⟩
theorem xC {P:Program} (g o:Nat) (t:TypeId):∀(b:List Value) (i:Nat) (a:Array Value) (w:World),w.heap[g]?=some (.cells a t (0,0))->o+i+b.length=a.size->(∀v∈b,v.oneCell'=true) ->
  (storeCells ⟨g,o,none⟩ b i).run P w=.ok () (w.setRow g (a.toList.take (o+i)++b).toArray)
 | [],i,a,w,hg,hl,_=>by
  have f:a.toList.take (o+i)=a.toList:=kw (by simp at hl |-;omega)
  simp only[storeCells,List.append_nil,f,Array.toArray_toList]
  show Result.ok () w=_
  congr 1
  have e:w.heap[g]'((lS hg))=.cells a t (0,0):=(Array.getElem?_eq_some_iff.1 hg).2
  unfold World.setRow
  cases w with
  | mk heap tape drawn os output =>
   congr 1
   apply Array.ext
   ·simp
   ·intro k c q
    simp only[Array.getElem_modify]
    split
    ·rename_i hk;subst hk;simp at e;simp[e]
    ·rfl
 | v::rest,i,a,w,hg,hl,c=>by
  have d:o+i<a.size:=by simp at hl;omega
  have h:(⟨g,o,none⟩:Addr).add i=⟨g,o+i,none⟩:=Addr.add_lit ..
  have j:w.cell? ⟨g,o+i,none⟩=some a[o+i]:=by simp[World.cell?,hg,d]
  have l:w.frozen? ⟨g,o+i,none⟩=false:=by simp[World.frozen?,hg]
  have m:(store ((⟨g,o,none⟩:Addr).add i) v).run P w=.ok () (w.setRow g (a.setIfInBounds (o+i) v)):=by
   rw[h,run_store P w _ v _ (c v sS),j];simp[l,setCell_eq_setRow w g (o+i) a t (0,0) v hg]
  have p:=xC (P:=P) g o t rest (i+1) (a.setIfInBounds (o+i) v) (w.setRow g (a.setIfInBounds (o+i) v)) (setRow_heap w g a _ t _ hg) (by simp at hl |-;omega) (fun x n=>c x (by simp[n]));simp only[storeCells,Sem.run_bind,m,Result.andThen_ok,p,setRow_setRow];congr 3;rw[Array.toList_setIfInBounds,<-Nat.add_assoc,List.take_set,List.take_succ_eq_append_getElem (by simpa using d)];rw[List.set_append_right _ _ (by rw[List.length_take];exact Nat.min_le_left _ _)];simp[Nat.min_eq_left (Nat.le_of_lt d)]
theorem Hm {P:Program} {k:Array Oper} {rest:List Oper} {o:Oper} {a:Act} {w:World} {Q:Exit->Act->World->Prop} (p:o.guard=none) (e:TypeId) (x y:Operand) (q:o.op=.store e x y)
  (g c:Nat) (b:Array Value) (u:a.eval x=.pointer (some ⟨g,c,none⟩)) (z:a.eval y=.agg b) (t:TypeId) (d:Array Value) (n:w.heap[g]?=some (.cells d t (0,0))) (j:(P.info? e).map (·.size)=some b.size)
  (A:c+b.size=d.size) (l:b.all (·.oneCell')=true)
  (h:wpList P k Q rest (a.put o.dst undef) (w.setRow g (d.toList.take c++b.toList).toArray)):wpList P k Q (o::rest) a w :=
 wpList_plain p fun _ m=>by
  have r:=xC (P:=P) g c t b.toList 0 d w n sO (fun v s=>(Array.all_eq_true_iff_forall_mem.1 l) v (by simpa using s))
  have f:(storeVar e ⟨g,c,none⟩ (.agg b)).run P w=.ok () (w.setRow g (d.toList.take c++b.toList).toArray):=by
   cases hq:P.info? e with
   | none=>simp[hq] at j
   | some i =>
    have f:b.size=i.size:=(by simp[hq] at j;omega);simpa [storeVar,sizeOf,typeInfo,hq,Value.cells,f] using r
  unfold Oper.wp execOp;simp only[q,u,z,Instr.storeAt,Instr.sureAddr,Sem.run_bind,Sem.run_pure,Result.andThen_ok,f];exact m _ _ h
abbrev ay:Array Value:=#[Z G 0,Z G 0,Z G 0,Z G 0,Z G 0,J none 0 0,J none 0 0,
 Z G 0,Z G 0,Z G 0,Z G 0,Z G 0,Z G 0,J none 0 0,Z G 0,Z G 0,Z G 0,Z G 0,Z G 0,Z G 0,Z G 0,Z G 0,Z G 0,Z G 0,Z G 0,Z G 0,J none 0 0,Z G 0]
theorem zA (R K:Nat) (a:Array Value) (c:Value) (w:World) (g:w.heap[R]?=some (.cells a 57 (0,0))) (j:a.size=28) (f:w.heap[K]?=some (.cells #[c] 4 (0,0))) (i:R≠K) :
  CallsD prog 158 #[.pointer (some ⟨R,0,none⟩),.pointer (some ⟨K,0,none⟩)] (.panicking [{ v:=mZ,recovered:=false }]) w fun e o w' =>
   e=.returned (.tuple #[])/\o=.panicking [{ v:=mZ,recovered:=true }]/\w'=(w.setRow R ay).setCell ⟨K,0,none⟩ (.bool false):=by
 refine callsD_of_wpS func158 rfl fun d q k=>?_;apply wpS_seq;apply wpS_region;simp[wpOpsS,go_sem,recoverD,k,ntmps158,Exit.thenS];refine wpS_cond (t:=true) (by simp[Act.eval,Array.replicate]) ?_;simp only[if_true];rw[show (#[Value.pointer (some ⟨R,0,none⟩),.pointer (some ⟨K,0,none⟩)]++((Array.replicate 3 undef).setIfInBounds 0 mZ).setIfInBounds 1 (.bool true))=#[.pointer (some ⟨R,0,none⟩),.pointer (some ⟨K,0,none⟩),mZ,.bool true,undef] from rfl];refine wpS_of_wp ?_;have b:(w.setRow R ay).heap[K]?=some (.cells #[c] 4 (0,0)):=(setRow_other _ _ _ _ (fun e=>i e.symm)).trans f;have p:(w.setRow R ay).cell? ⟨K,0,none⟩=some c:=kb b _;have r:(w.setRow R ay).frozen? ⟨K,0,none⟩=false:=ka b 0;have l:(prog.info? 57).map (·.size)=some (ay:Array Value).size:=kR;have m:a.size=(ay:Array Value).size:=by rw[j];rfl
 have n:(ay:Array Value).all (·.oneCell')=true:=by simp[Value.oneCell']
 go_wp2_with (refine wpList_store_row rfl 57 _ _ rfl R ay rfl rfl _ a g l m n ?_)
 cases d
 simp_all[bodyPostS,results,results158]
theorem zz (R K:Nat) (w:World) :
  CallsD prog 158 #[.pointer (some ⟨R,0,none⟩),.pointer (some ⟨K,0,none⟩)] .returning w fun e c w'=>e=.returned (.tuple #[])/\c=.returning/\w'=w:=by
 refine callsD_of_wpS func158 rfl fun a d b=>?_;apply wpS_seq;apply wpS_region;simp[wpOpsS,go_sem,recoverD,b,ntmps158,Exit.thenS];refine wpS_cond (t:=false) (by simp[Act.eval,Array.replicate]) ?_;simp only[Bool.false_eq_true,if_false];refine wpS_of_wp (wp_skip ?_);cases a
 simp_all[bodyPostS,results,results158]
theorem Fo (W:World) (K:Nat) (c:Bool) (h:W.cell? ⟨K,0,none⟩=some (.bool c)):(loadVar 4 ⟨K,0,none⟩).run prog W=.ok (.bool c) W:=by
 have a:=Tryz.isAgg4 W;simp[loadVar,Sem.run_bind,a,go_sem,h]
theorem uR (a:Array Value) (R K:Nat) (b:Array Value) (c:Bool) (W:World) (d:a.getD 2 undef=.pointer (some ⟨R,0,none⟩)) (f:a.getD 3 undef=.pointer (some ⟨K,0,none⟩))
  (i:W.heap[R]?=some (.cells b 57 (0,0))) (l:(prog.info? 57).map (·.size)=some b.size) (h:W.heap[K]?=some (.cells #[.bool c] 4 (0,0))) :
  (results Tryz.f107 a).run prog W=.ok (.tuple #[.agg b,.bool c]) W:=by
 have k:=run_loadVar_row (P:=prog) W R 57 57 b (0,0) _ i underlying57 rfl l;have j:=Fo W K c (kb h _);have e:a[2]?.getD undef=.pointer (some ⟨R,0,none⟩):=by simpa using d
 have g:a[3]?.getD undef=.pointer (some ⟨K,0,none⟩):=by simpa using f
 simp[results,results107,e,g,asAddr,k,j]
theorem im {w V:World} {a:List Value} {b:Ending->World->Prop} {tmps:Array Value} (l:Below w.heap.size w V) (d:bx w.heap.size 57 a V) (n:a.length=28) (c:bx (w.heap.size+1) 4 [.bool false] V)
  (i:tmps.getD 2 undef=.pointer (some ⟨w.heap.size,0,none⟩)) (j:tmps.getD 3 undef=.pointer (some ⟨w.heap.size+1,0,none⟩))
  (k:∀W,Below w.heap.size w W->b (.returned (.tuple #[.agg ay,.bool false])) W) :
  bodyPostD prog Tryz.f107 b (Exit.panic [{ v:=mZ,recovered:=false }]) { tmps:=tmps,defers:=[{ target:=Target.fn (Fn.func 158) #[.pointer (some ⟨w.heap.size,0,none⟩),.pointer (some ⟨w.heap.size+1,0,none⟩)],args:=#[] }] } V:=by
 refine leaves_cons (f:=158) (args:=#[.pointer (some ⟨w.heap.size,0,none⟩),.pointer (some ⟨w.heap.size+1,0,none⟩)]) sS (by simp[go_sem]) ?_;refine (zA w.heap.size (w.heap.size+1) a.toArray (.bool false) V d (by simpa using n) c oM).mono ?_;rintro e r s ⟨rfl,rfl,rfl⟩;have g:((V.setRow w.heap.size ay).setCell ⟨w.heap.size+1,0,none⟩ (.bool false)).heap[w.heap.size]?=some (.cells ay 57 (0,0)):=(ko _ _ _ _ (show w.heap.size≠w.heap.size+1 from oM)).trans (setRow_heap _ _ _ _ _ _ d);have q:(V.setRow w.heap.size ay).heap[w.heap.size+1]?=some (.cells #[.bool false] 4 (0,0)):=(setRow_other _ _ _ _ oM).trans c;have h:((V.setRow w.heap.size ay).setCell ⟨w.heap.size+1,0,none⟩ (.bool false)).heap[w.heap.size+1]?=some (.cells #[.bool false] 4 (0,0)):=by
  simp[World.setCell,Array.getElem?_modify,q]
 have o:=uR tmps w.heap.size (w.heap.size+1) ay false _ i j g kR h;have m:Below w.heap.size w ((V.setRow w.heap.size ay).setCell ⟨w.heap.size+1,0,none⟩ (.bool false)):=(below_setRow l (kd _) _).setCell (p:=⟨w.heap.size+1,0,none⟩) (Nat.le_succ _) _;exact ⟨_,o,k _ m⟩
theorem AX {R K:Nat} {V:World} {a:Array Value} {b:Ending->World->Prop} {tmps:Array Value} (i:V.heap[R]?=some (.cells a 57 (0,0))) (j:(prog.info? 57).map (·.size)=some a.size) (g:V.heap[K]?=some (.cells #[.bool true] 4 (0,0)))
  (c:tmps.getD 2 undef=.pointer (some ⟨R,0,none⟩)) (d:tmps.getD 3 undef=.pointer (some ⟨K,0,none⟩)) (h:b (.returned (.tuple #[.agg a,.bool true])) V) :
  bodyPostD prog Tryz.f107 b Exit.ret { tmps:=tmps,defers:=[{ target:=Target.fn (Fn.func 158) #[.pointer (some ⟨R,0,none⟩),.pointer (some ⟨K,0,none⟩)],args:=#[] }] } V:=by
 refine leaves_cons (f:=158) (args:=#[.pointer (some ⟨R,0,none⟩),.pointer (some ⟨K,0,none⟩)]) sS (by simp[go_sem]) ?_;refine (zz R K V).mono ?_;rintro e l k ⟨rfl,rfl,rfl⟩;exact ⟨_,uR tmps R K a true k c d i j g,h⟩
theorem Cd {P:Program} {c:Func} {i j:Array Value} {R:Ending->World->Prop} (h:∀w,(results c i).run P w=(results c j).run P w) (b:List Deferred):∀(u:FrameMode) (w:World),Leaves P c i R b u w->Leaves P c j R b u w:=by
 induction b with
 | nil =>
  intro u w a;cases u with
  | returning=>obtain ⟨v,q,n⟩:=a;exact ⟨v,(h w).symm.trans q,n⟩
  | panicking chain=>exact a
  | run=>exact a
 | cons d b ih =>
  intro u w a;obtain ⟨p,k,cap,f,args,o,m,l⟩:=a;refine ⟨p,k,cap,f,args,o,m,l.mono ?_⟩;intro e r w' g;cases e with
  | returned v=>exact ih _ _ g
  | panicked chain=>exact ih _ _ g
  | outgrown=>exact g
theorem pe {b:Ending->World->Prop} {a:Act} {c:List PanicEntry} {w:World} {d:Nat} {v:Value} (g:3<d) (h:bodyPostD prog Tryz.f107 b (Exit.panic c) (a.put (some d) v) w):bodyPostD prog Tryz.f107 b (Exit.panic c) a w:=by
 refine Cd (fun w=>?_) _ _ _ h;have e:(a.tmps.setIfInBounds d v)[2]?=a.tmps[2]?:=Array.getElem?_setIfInBounds_ne oM;have f:(a.tmps.setIfInBounds d v)[3]?=a.tmps[3]?:=Array.getElem?_setIfInBounds_ne oM;simp[results,results107,kc,e,f]
def bd {α:Type} (p:List UInt8->Option (α×List UInt8)) (a:Option (List UInt8)):Option (List UInt8):=(a.bind p).map Prod.snd
def bG {α:Type} (p:List UInt8->Option (α×List UInt8)) (d:α) (a:Option (List UInt8)):α:=((a.bind p).map Prod.fst).getD d
def dB (a:Option (List UInt8)):Nat:=(a.getD []).length
theorem r8 {α:Type} (p:List UInt8->Option (α×List UInt8)):bd p none=none:=rfl
theorem tg {α:Type} (p:List UInt8->Option (α×List UInt8)) (d:α):bG p d none=d:=rfl
theorem dq {α:Type} {p:List UInt8->Option (α×List UInt8)} {l t:List UInt8} {a:α} (h:p l=some (a,t)) (d:α):bd p (some l)=some t/\bG p d (some l)=a:=by simp[bd,bG,h]
theorem oA {α:Type} {p:List UInt8->Option (α×List UInt8)} {l:List UInt8} (h:p l=none) (d:α):bd p (some l)=none/\bG p d (some l)=d:=by simp[bd,bG,h]
theorem j9 {α:Type} {p:List UInt8->Option (α×List UInt8)} {b:Option (List UInt8)} {t:List UInt8} (h:bd p b=some t) (d:α):∃l,b=some l/\p l=some (bG p d b,t):=by
 cases b with
 | none=>cases h
 | some l =>
  cases hp:p l with
  | none=>rw[(oA hp d).1] at h;cases h
  | some x =>
   obtain ⟨a,u⟩:=x;obtain ⟨c,e⟩:=dq hp d;rw[c] at h;cases h
   exact ⟨l,rfl,by rw[e,hp]⟩
theorem iX {α:Type} {p:List UInt8->Option (α×List UInt8)} {l:List UInt8} (h:p l=none):bd p (some l)=none:=by simp[bd,h]
theorem mU {α:Type} {p:List UInt8->Option (α×List UInt8)} (c:∀l a t,p l=some (a,t)->t.length<=l.length) (b:Option (List UInt8)):dB (bd p b)<=dB b:=by
 cases b with
 | none=>exact kd _
 | some l =>
  cases h:p l with
  | none=>rw[iX h];exact kv _
  | some x=>obtain ⟨a,u⟩:=x;rw[(dq h a).1];exact c _ _ _ h
def eA (b:Nat) (a:Option (List UInt8)) (w:World):Prop :=
 (∃l,a=some l/\w.heap[b]?=some (.cells #[.string (lh l),.bool false] 160 (0,0)))\/(a=none/\∃l,l.length<=140737488355328/\w.heap[b]?=some (.cells #[.string (lh l),.bool true] 160 (0,0)))
theorem eA.of {b:Nat} {d:Option (List UInt8)} {w w':World} (h:eA b d w) (e:w'.heap[b]?=w.heap[b]?):eA b d w':=by
 rcases h with ⟨l,a,c⟩|⟨a,l,f,c⟩
 ·exact .inl ⟨l,a,e.trans c⟩
 ·exact .inr ⟨a,l,f,e.trans c⟩
theorem eA.lt {b:Nat} {d:Option (List UInt8)} {w:World} (h:eA b d w):b<w.heap.size:=by
 rcases h with ⟨l,c,a⟩|⟨c,l,e,a⟩<;>exact (lS a)
theorem uJ {B b:Nat} {x y u:Value} {w:World} (a:B<=b) (h:w.heap[b]?=some (.cells #[x,y] 160 (0,0))):(w.setCell ⟨b,0,none⟩ u).heap[b]?=some (.cells #[u,y] 160 (0,0))/\cB B b w (w.setCell ⟨b,0,none⟩ u):=by
 refine ⟨?_,(Below.refl B w).setCell (p:=⟨b,0,none⟩) a _,fun k _ c=>ko _ _ _ _ (fun e=>c e)⟩;simp[World.setCell,Array.getElem?_modify,h]
theorem uK {B b:Nat} {x y u:Value} {w:World} (a:B<=b) (h:w.heap[b]?=some (.cells #[x,y] 160 (0,0))):(w.setCell ⟨b,1,none⟩ u).heap[b]?=some (.cells #[x,u] 160 (0,0))/\cB B b w (w.setCell ⟨b,1,none⟩ u):=by
 refine ⟨?_,(Below.refl B w).setCell (p:=⟨b,1,none⟩) a _,fun k _ c=>ko _ _ _ _ (fun e=>c e)⟩;simp[World.setCell,Array.getElem?_modify,h]
theorem sd {x y:Int} (i:Nat) (b:0<=x) (a:x % 2 ^ i=0) (c:x<2 ^ 62) (d:0<=y) (e:y<2 ^ i) (f:y<2 ^ 62):bits .or .i64 x y=x+y :=
 bits_join .i64 62 dD (fun n g h=>by rw[IntWalk.i64_in _ oM]) i x y b a c d e f
theorem uG (B b:Nat) (l:List UInt8) (c:Bool) (w:World) (d:B<=b) (h:w.heap[b]?=some (.cells #[.string (lh l),.bool c] 160 (0,0))) (f:c=true\/l.length<4) (n:l.length<=140737488355328) :
  Calls prog 112 #[.pointer (some ⟨b,0,none⟩)] w fun e w'=>e=.returned (Z G 0)/\w'.heap[b]?=some (.cells #[.string (lh l),.bool true] 160 (0,0))/\cB B b w w':=by
 obtain ⟨g,i⟩:=bL h;have j:w.frozen? ⟨b,1,none⟩=false:=ka h 1;have a:=qH (uK (u:=.bool true) d h);have o:(lh l).size=l.length:=bn l;clear h;cases c
 ·have k:l.length<4:=by simpa using f
  have m:decide ((l.length:Int)<4)=true:=sO;generalize lh l=S at *;go_enter func112,ntmps112;go_wp2;go_ret;exact ⟨rfl,a.1.1,a.1.2⟩
 ·generalize lh l=S at *;go_enter func112,ntmps112;go_wp2;go_ret;exact ⟨rfl,a.1.1,a.1.2⟩
theorem GL (a b c d:UInt8):u32 a b c d<4294967296:=by
 have e:=a.toNat_lt;have f:=b.toNat_lt;have g:=c.toNat_lt;have h:=d.toNat_lt;unfold u32;omega
theorem G8 (a b c d:UInt8):bits .or .i64 (bits .or .i64 (bits .or .i64 (wrap64 (wrap64 (a.toNat:Int)*16777216)) (wrap64 (wrap64 (b.toNat:Int)*65536))) (wrap64 (wrap64 (c.toNat:Int)*256))) (wrap64 (d.toNat:Int))=((u32 a b c d:Nat):Int):=by
 have l:=a.toNat_lt;have m:=b.toNat_lt;have n:=c.toNat_lt;have o:=d.toNat_lt;have e:wrap64 (wrap64 (a.toNat:Int)*16777216)=a.toNat*16777216:=by rw[IntWalk.wrap64_in (a.toNat:Int) oM,IntWalk.wrap64_in _ oM]
 have f:wrap64 (wrap64 (b.toNat:Int)*65536)=b.toNat*65536:=by rw[IntWalk.wrap64_in (b.toNat:Int) oM,IntWalk.wrap64_in _ oM]
 have g:wrap64 (wrap64 (c.toNat:Int)*256)=c.toNat*256:=by rw[IntWalk.wrap64_in (c.toNat:Int) oM,IntWalk.wrap64_in _ oM]
 have h:wrap64 (d.toNat:Int)=d.toNat:=IntWalk.wrap64_in _ oM;rw[e,f,g,h];have i:bits .or .i64 ((a.toNat:Int)*16777216) ((b.toNat:Int)*65536)=(a.toNat:Int)*16777216+(b.toNat:Int)*65536:=sd 24 oM (by rw[show (2:Int) ^ 24=16777216 from rfl];omega) (by rw[show (2:Int) ^ 62=4611686018427387904 from rfl];omega) oM (by rw[show (2:Int) ^ 24=16777216 from rfl];omega) (by rw[show (2:Int) ^ 62=4611686018427387904 from rfl];omega);have j:bits .or .i64 ((a.toNat:Int)*16777216+(b.toNat:Int)*65536) ((c.toNat:Int)*256)=(a.toNat:Int)*16777216+(b.toNat:Int)*65536+(c.toNat:Int)*256:=sd 16 oM (by rw[show (2:Int) ^ 16=65536 from rfl];omega) (by rw[show (2:Int) ^ 62=4611686018427387904 from rfl];omega) oM (by rw[show (2:Int) ^ 16=65536 from rfl];omega) (by rw[show (2:Int) ^ 62=4611686018427387904 from rfl];omega);have k:bits .or .i64 ((a.toNat:Int)*16777216+(b.toNat:Int)*65536+(c.toNat:Int)*256) (d.toNat:Int)=(a.toNat:Int)*16777216+(b.toNat:Int)*65536+(c.toNat:Int)*256+d.toNat:=sd 8 oM (by rw[show (2:Int) ^ 8=256 from rfl];omega) (by rw[show (2:Int) ^ 62=4611686018427387904 from rfl];omega) oM (by rw[show (2:Int) ^ 8=256 from rfl];omega) (by rw[show (2:Int) ^ 62=4611686018427387904 from rfl];omega);rw[i,j,k,u32];omega
theorem AJ (B b:Nat) (a d f g:UInt8) (t:List UInt8) (w:World) (y:B<=b) (h:w.heap[b]?=some (.cells #[.string (lh (a::d::f::g::t)),.bool false] 160 (0,0))) (N:t.length<=140737488355328) :
  Calls prog 112 #[.pointer (some ⟨b,0,none⟩)] w fun e w'=>e=.returned (Z G (ii (u32 a d f g)))/\w'.heap[b]?=some (.cells #[.string (lh t),.bool false] 160 (0,0))/\cB B b w w':=by
 obtain ⟨r,x⟩:=bL h;have O:(lh (a::d::f::g::t)).size=t.length+4:=by rw[bn];rfl
 have n:=qH (show (lh (a::d::f::g::t)).extract 4 (t.length+4)=lh t by rw[Lib.extract_eq];simp[lh]);have l:∀(i:Nat) (c:UInt8),(a::d::f::g::t)[i]?=some c->∀V:World,(Instr.index 9 (.string (lh (a::d::f::g::t))) (Z G i)).run prog V=.ok (.int .u8 c.toNat) V:=by
  intro i c o V;obtain ⟨M,o⟩:=List.getElem?_eq_some_iff.1 o;rw[run_index_string V 9 _ .i64 i underlying9,dif_pos ⟨oM,by rw[bn];omega⟩];subst o;rfl
 have A:∀V:World,(Instr.index 9 (.string (lh (a::d::f::g::t))) (Z G 0)).run prog V=.ok (.int .u8 a.toNat) V:=l 0 a rfl;have C:∀V:World,(Instr.index 9 (.string (lh (a::d::f::g::t))) (Z G 1)).run prog V=.ok (.int .u8 d.toNat) V:=l 1 d rfl;have D:∀V:World,(Instr.index 9 (.string (lh (a::d::f::g::t))) (Z G 2)).run prog V=.ok (.int .u8 f.toNat) V:=l 2 f rfl;have E:∀V:World,(Instr.index 9 (.string (lh (a::d::f::g::t))) (Z G 3)).run prog V=.ok (.int .u8 g.toNat) V:=l 3 g rfl;have H:=qH h;clear h l;have s:=G8 a d f g;have I:=GL a d f g;have m:=qH (show ii (u32 a d f g)=if u32 a d f g<2147483648 then (u32 a d f g:Int) else u32 a d f g-4294967296 from rfl);generalize ii (u32 a d f g)=F at *;generalize u32 a d f g=k at *;have q:=qH s;clear s;generalize lh (a::d::f::g::t)=S at *;go_enter func112,ntmps112;go_upto_region 4 with fail
 go_quiet (fail);rw[q.1];have L:(w.drewN nq).cell? ⟨b,0,none⟩=some (.string S):=r;have K:(w.drewN nq).frozen? ⟨b,0,none⟩=false:=ka (w:=w) H.1 0;have j:=qH (uJ (B:=B) (u:=.string (lh t)) (w:=w.drewN nq) y H.1);have p:=qH (cB.drews B b nq w);rw[<-n.1] at j;clear r x A C D E q H;by_cases v:k<2147483648
 ·rw[if_pos v] at m;have z:decide ((2147483648:Int)<=(k:Int))=false:=sO;go_wp2;go_ret;exact ⟨aY m.1.symm,by rw[<-n.1];exact j.1.1,p.1.trans j.1.2⟩
 ·rw[if_neg v] at m;have z:decide ((2147483648:Int)<=(k:Int))=true:=sO;have P:IntKind.i64.wrap ((k:Int)-4294967296)=(k:Int)-4294967296:=IntWalk.i64_in _ oM;go_wp2;go_ret;exact ⟨aY m.1.symm,by rw[<-n.1];exact j.1.1,p.1.trans j.1.2⟩
theorem uH (B b:Nat) (i:Option (List UInt8)) (w:World) (m:B<=b) (h:eA b i w) (o:dB i<=140737488355328) :
  Calls prog 112 #[.pointer (some ⟨b,0,none⟩)] w fun e w'=>e=.returned (Z G (bG aH 0 i))/\eA b (bd aH i) w'/\cB B b w w':=by
 rcases h with ⟨l,rfl,c⟩|⟨rfl,l,n,c⟩
 ·have g:l.length<=140737488355328:=o;by_cases a:l.length<4
  ·refine (uG B b l false w m c (.inr a) g).mono ?_;rintro e w' ⟨rfl,d,f⟩;have q:aH l=none:=by
    match l,a with
    | [],_=>rfl
    | [_],_=>rfl
    | [_,_],_=>rfl
    | [_,_,_],_=>rfl
    | _::_::_::_::_,a=>simp at a;omega
   obtain ⟨j,k⟩:=oA q (0:Int);exact ⟨by rw[k],.inr ⟨j,l,g,d⟩,f⟩
  ·match l,c,a,g with
   | c0::c1::c2::c3::t,c,_,g =>
    refine (AJ B b c0 c1 c2 c3 t w m c (by simp at g;omega)).mono ?_;rintro e w' ⟨rfl,d,f⟩;obtain ⟨j,k⟩:=dq (p:=aH) (l:=c0::c1::c2::c3::t) rfl (0:Int);exact ⟨by rw[k],.inl ⟨_,j,d⟩,f⟩
   | [],_,a,_=>exact absurd dD a
   | [_],_,a,_=>exact absurd sS a
   | [_,_],_,a,_=>exact absurd sS a
   | [_,_,_],_,a,_=>exact absurd sS a
 ·refine (uG B b l true w m c (.inl rfl) n).mono ?_;rintro e w' ⟨rfl,d,f⟩;exact ⟨rfl,.inr ⟨rfl,l,n,d⟩,f⟩
def bY (l:List UInt8):Option (Int×List UInt8):=match aH l with
 | none=>none
 | some (n,t)=>if 0<=n/\n<=(t.length:Int) then some (n,t) else none
theorem nQ (B b:Nat) (a:Option (List UInt8)) (w:World) (E:B<=b) (h:eA b a w) (s:dB a<=140737488355328) :
  Calls prog 113 #[.pointer (some ⟨b,0,none⟩)] w fun e w'=>e=.returned (Z G (bG bY 0 a))/\eA b (bd bY a) w'/\cB B b w w':=by
 have HN:=qH (uH B b a w E h s);clear h;cases hp:a.bind aH with
 | none =>
  have k:bd aH a=none:=by rw[bd,hp];rfl
  have m:bG aH 0 a=0:=by rw[bG,hp];rfl
  have r:a.bind bY=none:=by
   cases a with
   | none=>rfl
   | some l=>simp only[Option.bind_some] at hp |-;rw[bY,hp]
  have d:=qH (show bd bY a=none by rw[bd,r];rfl);have f:=qH (show bG bY 0 a=0 by rw[bG,r];rfl);rw[k,m] at HN;clear hp r k m;go_enter func113,ntmps113;go_wp2_with fail
  refine (HN.1).mono ?_;rintro e w1 ⟨rfl,c,j⟩;rcases c with ⟨_,c,_⟩|⟨_,l,i,c⟩
  ·cases c
  obtain ⟨H,I⟩:=bL c;have M:(lh l).size=l.length:=bn l;have R:decide ((l.length:Int)<0)=false:=decide_eq_false oM;have p:=qH (show eA b none w1 from .inr ⟨rfl,l,i,c⟩);have q:=qH j;clear c j;generalize lh l=S at *;go_wp2;go_ret;exact ⟨aY f.1.symm,by rw[d.1];exact p.1,q.1⟩
 | some x =>
  obtain ⟨n,t⟩:=x;have k:bd aH a=some t:=by rw[bd,hp];rfl
  have m:bG aH 0 a=n:=by rw[bG,hp];rfl
  obtain ⟨g,rfl,o⟩:∃g,a=some g/\aH g=some (n,t):=by
   cases a with
   | none=>cases hp
   | some l=>exact ⟨l,rfl,hp⟩
  have N:t.length<=140737488355328:=by have:=fK o;have:g.length<=140737488355328:=s;omega
  have d:=qH (show bd bY (some g)=if 0<=n/\n<=(t.length:Int) then some t else none by simp only[bd,Option.bind_some,bY,o];split<;>rfl);have f:=qH (show bG bY 0 (some g)=if 0<=n/\n<=(t.length:Int) then n else 0 by simp only[bG,Option.bind_some,bY,o];split<;>rfl);rw[k,m] at HN;generalize bG bY 0 (some g)=P at *;generalize bd bY (some g)=O at *;clear hp o k m s;go_enter func113,ntmps113;go_wp2_with fail
  refine (HN.1).mono ?_;rintro e w1 ⟨rfl,c,j⟩;rcases c with ⟨t',c,i⟩|⟨c,_⟩;rotate_left
  ·cases c
  cases c
  obtain ⟨H,I⟩:=bL i;have Q:w1.frozen? ⟨b,1,none⟩=false:=ka i 1;have M:(lh t).size=t.length:=bn t;have p:=qH (show eA b (some t) w1 from .inl ⟨t,rfl,i⟩);obtain ⟨v,F⟩:=uK (B:=B) (u:=.bool true) E i;have y:=qH (show eA b none (w1.setCell ⟨b,1,none⟩ (.bool true)) from .inr ⟨rfl,t,N,v⟩);have q:=qH j;have z:=qH (j.trans F);have K:(w1.setCell ⟨b,1,none⟩ (.bool true)).cell? ⟨b,1,none⟩=some (.bool true):=(bL v).2;clear j i v F;generalize lh t=S at *;by_cases C:0<=n
  ·by_cases D:n<=(t.length:Int)
   ·have A:decide (n<0)=false:=sO;have L:decide ((t.length:Int)<n)=false:=sO;rw[if_pos ⟨C,D⟩] at d f;clear K;go_wp2;go_ret;exact ⟨aY f.1.symm,by rw[d.1];exact p.1,q.1⟩
   ·have A:decide (n<0)=false:=sO;have L:decide ((t.length:Int)<n)=true:=sO;rw[if_neg (fun h=>D h.2)] at d f;go_wp2;go_ret;exact ⟨aY f.1.symm,by rw[d.1];exact y.1,z.1⟩
  ·have A:decide (n<0)=true:=sO;rw[if_neg (fun h=>C h.1)] at d f;go_wp2;go_ret;exact ⟨aY f.1.symm,by rw[d.1];exact y.1,z.1⟩
theorem tb (l:List UInt8):cn l=match bY l with|none=>none|some (n,t)=>some (t.take n.toNat,t.drop n.toNat):=by
 rw[cn,bY];cases aH l with
 | none=>rfl
 | some x=>obtain ⟨n,t⟩:=x;simp only;split<;>rfl
theorem uI (B b:Nat) (a:Option (List UInt8)) (w:World) (v:B<=b) (h:eA b a w) (s:dB a<=140737488355328) :
  Calls prog 111 #[.pointer (some ⟨b,0,none⟩)] w fun e w'=>e=.returned (.string (lh (bG cn [] a)))/\eA b (bd cn a) w'/\cB B b w w':=by
 have HN:=qH (nQ B b a w v h s);clear h;cases hp:a.bind bY with
 | none =>
  have i:bd bY a=none:=by rw[bd,hp];rfl
  have j:bG bY 0 a=0:=by rw[bG,hp];rfl
  have r:a.bind cn=none:=by
   cases a with
   | none=>rfl
   | some l=>simp only[Option.bind_some] at hp |-;rw[tb,hp]
  have p:=qH (show bd cn a=none by rw[bd,r];rfl);have q:=qH (show bG cn [] a=[] by rw[bG,r];rfl);rw[i,j] at HN;clear hp r i j;go_enter func111,ntmps111;go_wp2_with fail
  refine (HN.1).mono ?_;rintro e w1 ⟨rfl,c,k⟩;rcases c with ⟨_,c,_⟩|⟨_,l,f,c⟩
  ·cases c
  obtain ⟨I,K⟩:=bL c;have A:=qH (show eA b none w1 from .inr ⟨rfl,l,f,c⟩);have D:=qH k;clear c k;generalize lh l=S at *;go_wp2;go_ret;exact ⟨by rw[q.1];rfl,by rw[p.1];exact A.1,D.1⟩
 | some x =>
  obtain ⟨n,t⟩:=x;have i:bd bY a=some t:=by rw[bd,hp];rfl
  have j:bG bY 0 a=n:=by rw[bG,hp];rfl
  obtain ⟨d,rfl,o⟩:∃d,a=some d/\bY d=some (n,t):=by
   cases a with
   | none=>cases hp
   | some l=>exact ⟨l,rfl,hp⟩
  obtain ⟨L,T,V⟩:0<=n/\n<=(t.length:Int)/\t.length<=140737488355328:=by
   have g:=o;rw[bY] at g;split at g
   ·cases g
   ·rename_i m u hq;have:=fK hq;have:d.length<=140737488355328:=s;split at g
    ·cases g;omega
    ·cases g
  obtain ⟨N,rfl⟩:=Int.eq_ofNat_of_zero_le L;have p:=qH (show bd cn (some d)=some (t.drop N) by rw[bd,Option.bind_some,tb,o];rfl);have q:=qH (show bG cn [] (some d)=t.take N by rw[bG,Option.bind_some,tb,o];rfl);rw[i,j] at HN;generalize bG cn [] (some d)=P at *;generalize bd cn (some d)=O at *;clear hp o i j s;go_enter func111,ntmps111;go_wp2_with fail
  refine (HN.1).mono ?_;rintro e w1 ⟨rfl,c,k⟩;rcases c with ⟨t',c,f⟩|⟨c,_⟩;rotate_left
  ·cases c
  cases c
  obtain ⟨I,K⟩:=bL f;have Q:w1.frozen? ⟨b,0,none⟩=false:=ka f 0;have U:(lh t).size=t.length:=bn t;have R:N<=t.length:=oM;have F:=qH (show (lh t).extract 0 N=lh (t.take N) by rw[Lib.extract_eq];simp[lh]);have H:=qH (show (lh t).extract N t.length=lh (t.drop N) by rw[Lib.extract_eq,bP,kw (by rw[List.length_drop];exact kd _)];rfl);obtain ⟨y,z⟩:=uJ (B:=B) (u:=.string (lh (t.drop N))) v f;have C:=qH (show eA b (some (t.drop N)) (w1.setCell ⟨b,0,none⟩ (.string (lh (t.drop N)))) from .inl ⟨_,rfl,y⟩);have E:=qH (k.trans z);clear k f y z;generalize lh t=S at *;go_wp2;go_ret;have M:=H.1;rw[M];exact ⟨congrArg (fun x=>Ending.returned (.string x)) (F.1.trans (by rw[q.1])),by rw[p.1];exact C.1,E.1⟩
end Go.Proofs.YtfjeonehdlphiaaGreatDoor
