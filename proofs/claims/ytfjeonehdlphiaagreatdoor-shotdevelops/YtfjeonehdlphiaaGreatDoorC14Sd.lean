/- Part 14. -/
import Derived.Test.YtfjeonehdlphiaaGreatDoorC8Sd
import Derived.Test.YtfjeonehdlphiaaGreatDoorC11Sd
import Derived.Test.YtfjeonehdlphiaaGreatDoorC13Sd
import Derived.Deep.AppendLies
open Go.Obj renaming cells → ka
open Go.Lib renaming frozen_of_heap → kb, cell_of_heap → kc
open Nat renaming le_refl → kd, le_trans → km, mul_comm → xa, mul_le_mul → zs
open Int renaming eq_ofNat_of_zero_le → kf
open Go.RowKit.Below renaming refl → kh, heap_setCell → ko, heap_alloc → kv
open List renaming getD_eq_getElem?_getD → kw, length_map → xc, all_eq_true → yb, range → zc, finRange → zo, getElem_mem → zv
open Go.World renaming size_alloc → zl
open Go.Value renaming int → Z, slice → J
open Go.IntKind renaming i64 → G
set_option linter.unusedVariables false
set_option maxHeartbeats 1600000
set_option maxRecDepth 100000
namespace Go.Proofs.YtfjeonehdlphiaaGreatDoor
open _root_.Go.Proofs.Tryz
open Go.RowKit Go.Shelf
attribute [local go_sem] Oper.semAt_some
theorem fF.trans' {a:Nat} {A B C:World} (h:fF a A B) (k:fF a B C):fF a A C:=Eq.trans k h
theorem pC {a l:Nat} {X:World} {o:Obj} (h:a≠l):fF a X (X.putObj l o):=by
 show (X.putObj l o).heap[a]?=X.heap[a]?;unfold World.putObj;simp[Ne.symm h]
theorem kX {B:Nat} {a w:World} (h:Below B a w):Below B a w.drew:=h.drew
theorem wM (F:Fence) (n:Nat) (a:F.fn 102) (b:F.round=none) (W H:Int) (w:World) :
  CallsIn F n prog 102 #[.agg #[Z G W,Z G H]] w fun e w'=>e=.returned (.func (.func 154) #[] #[.pointer (some ⟨w.heap.size,0,none⟩)])/\w'=w.alloc (.cells #[Z G W,Z G H] 95):=by
 refine callsIn_of_wp func102 rfl a ?_ b;simp only[ntmps102,List.size_toArray,List.length_cons,List.length_nil,Nat.reduceAdd,Nat.reduceSub,Array.replicate_succ,Array.replicate_zero,List.push_toArray,List.append_toArray,List.nil_append,List.cons_append]
 gi_wp2;go_ret;exact ⟨rfl,rfl⟩
theorem wN (F:Fence) (n:Nat) (o:F.fn 154) (r:F.round=none) (q:1<=n) (b W H N:Nat) (i:W<=64) (g:H<=64) (h:N=H*W) (w:World) (c:b<w.heap.size)
  (k:w.cell? ⟨b,0,none⟩=some (Z G W)) (m:w.cell? ⟨b,1,none⟩=some (Z G H)) :
  SeqStopsK F n prog 154 #[.pointer (some ⟨b,0,none⟩)] (fun x:Fin N=>#[Value.agg #[Z G (x.1 % W:Nat),Z G (x.1 / W:Nat)]]) (fF b) (fun t=>t=zo N) (fun s=>s <+: zo N) N w:=fun l a e V d _ _ j f =>
 DQ F n o r q l b W H N i g h a e j V ((d.cell (p:=⟨b,0,none⟩) c).trans k) ((d.cell (p:=⟨b,1,none⟩) c).trans m) f
end Go.Proofs.YtfjeonehdlphiaaGreatDoor
namespace Go.Proofs.YtfjeonehdlphiaaGreatDoor
open Go.RowKit
open _root_.Go.Proofs.Tryz
theorem aW {V:World} {base:Nat} {d:TypeId} {l:Nat} {v:Value} {n:Nat} {xs:List Value} (h:V.ownsRow base d l v n xs) {b:Nat} {f:Array Value} {t:TypeId} {i:Nat×Nat} (j:V.heap[b]?=some (.cells f t i)) (k:t≠d):some b≠v.ownBlock:=by
 rcases h.2 with ⟨c,_⟩|⟨g,cap,m,c,_,a,_⟩
 ·rw[c];simp[Value.ownBlock]
 ·rw[c];simp only[Value.ownBlock];intro e;simp only[Option.some.injEq] at e;subst e;rw[j] at a;simp only[Option.some.injEq,ka.injEq] at a;exact k a.2.1
theorem v7 {V:World} {base:Nat} {d:TypeId} {j:Nat} {v:Value} {n:Nat} {xs:List Value} (h:V.ownsRow base d j v n xs) {b:Nat} {o:Obj} (f:V.heap[b]?=some o) (i:o.isCells=false):some b≠v.ownBlock:=by
 rcases h.2 with ⟨a,_⟩|⟨g,cap,k,a,_,c,_⟩
 ·rw[a];simp[Value.ownBlock]
 ·rw[a];simp only[Value.ownBlock];intro e;simp only[Option.some.injEq] at e;subst e;rw[f] at c;cases c
  simp[Obj.isCells] at i
theorem pE {w:World} {base:Nat} {e:TypeId} {d:Nat} {v:Value} {n:Nat} {xs:List Value} (h:w.ownsRow base e d v n xs):∃b cap,v=J b n cap:=by
 rcases h.2 with ⟨a,c⟩|⟨g,cap,f,a,_⟩
 ·exact ⟨none,0,by rw[a,c]⟩
 ·exact ⟨_,_,a⟩
theorem vJ {a:Array Oper} (h:(a.toList.all fun o=>match o.op with | .defer _=>false|_=>true)=true):nF a:=by
 intro i o b c d;have e:o∈a.toList:=by
  rw[<-Array.getElem?_toList] at b;exact List.mem_of_getElem? b
 have:=yb.1 h o e;rw[d] at this;cases this
theorem fj {B:Nat} {X Y:World} {f:Option Nat} (i:X.grownBy Y f) (j:∀r,f=some r->B<=r/\∃o:Obj,X.heap[r]?=some o/\o.isCells=false) {b:Nat} {a:Array Value} {t:TypeId} {c:Nat×Nat} (h:X.heap[b]?=some (.cells a t c)):Y.heap[b]?=some (.cells a t c):=by
 refine (i.block b (lS h) (fun e=>?_)).trans h;obtain ⟨_,o,d,g⟩:=j b e.symm;rw[h] at d;cases d;cases g
theorem v8 {B:Nat} {X Y:World} {a:Option Nat} (g:X.grownBy Y a) (j:∀r,a=some r->B<=r/\∃o:Obj,X.heap[r]?=some o/\o.isCells=false) {base:Nat} {b:TypeId} {d:Nat} {v:Value} {n:Nat} {xs:List Value} (h:X.ownsRow base b d v n xs):Y.ownsRow base b d v n xs:=by
 refine h.kept g ?_;by_cases c:v.ownBlock=none
 ·exact .inl c
 ·refine .inr fun e=>?_;cases hrow:a with
  | none=>rw[hrow] at e;exact c e
  | some r =>
   obtain ⟨_,o,i,f⟩:=j r hrow;exact v7 h i f (by rw[e,hrow])
theorem uX {h f B C P:TypeId} {M:Nat} (I:f≠h) (fe:B≠h) (ge:C≠h) (xe:P≠h) (cf:f≠B) (cg:f≠C) (cx:f≠P)
  {a Q w1 w:World} {base PB i s d m B0:Nat} {W H:Int} {z:Option Addr} {y n g cap:Nat} {A N O:Value} {es:Array Value} {xs:List Value}
  (c:a.heap[PB]?=some (.cells #[Z G W,Z G H,J z n y] f (0,0))) (l:a.ownsRow base h M (J z n y) n xs)
  (x:a.heap[i]?=some (.cells #[A] B (0,0))) (X:a.heap[s]?=some (.cells #[Z G 0,Z G 0,J none 0 0] f (0,0)))
  (q:a.heap[m]?=some (.cells #[Z G W,Z G H] C (0,0))) (t:a.heap[d]?=some (.cells #[N,O] P (0,0)))
  (E:Below w.heap.size w a) (hbase:w.heap.size<=base) (hPw:w.heap.size<=PB) (hPR:PB≠s)
  (u:Below a.heap.size a Q) (K:(Q.alloc (ka es h)).grownBy w1 (J z n y).ownBlock)
  (U:w1.ownsRow base h M (J (some ⟨g,0,none⟩) (n+1) cap) (n+1) (xs++es.toList)) :
  (w1.cell? ⟨i,0,none⟩=some A/\w1.cell? ⟨d,0,none⟩=some N/\w1.cell? ⟨d,1,none⟩=some O)/\w1.cell? ⟨PB,2,none⟩=some (J z n y)/\w1.frozen? ⟨PB,2,none⟩=false /\
  (((w1.setCell ⟨PB,2,none⟩ (J (some ⟨g,0,none⟩) (n+1) cap)).cell? ⟨i,0,none⟩=some A/\(w1.setCell ⟨PB,2,none⟩ (J (some ⟨g,0,none⟩) (n+1) cap)).cell? ⟨d,0,none⟩=some N/\(w1.setCell ⟨PB,2,none⟩ (J (some ⟨g,0,none⟩) (n+1) cap)).cell? ⟨d,1,none⟩=some O) /\
   (KeepsFrom B0 a (w1.setCell ⟨PB,2,none⟩ (J (some ⟨g,0,none⟩) (n+1) cap))/\fF m a (w1.setCell ⟨PB,2,none⟩ (J (some ⟨g,0,none⟩) (n+1) cap)) /\
    ((∃v,(w1.setCell ⟨PB,2,none⟩ (J (some ⟨g,0,none⟩) (n+1) cap)).heap[PB]?=some (.cells #[Z G W,Z G H,v] f (0,0))/\(w1.setCell ⟨PB,2,none⟩ (J (some ⟨g,0,none⟩) (n+1) cap)).ownsRow base h M v (n+1) (xs++es.toList)) /\
     (w1.setCell ⟨PB,2,none⟩ (J (some ⟨g,0,none⟩) (n+1) cap)).heap[i]?=some (.cells #[A] B (0,0))/\(w1.setCell ⟨PB,2,none⟩ (J (some ⟨g,0,none⟩) (n+1) cap)).heap[s]?=some (.cells #[Z G 0,Z G 0,J none 0 0] f (0,0)) /\
     (w1.setCell ⟨PB,2,none⟩ (J (some ⟨g,0,none⟩) (n+1) cap)).heap[m]?=some (.cells #[Z G W,Z G H] C (0,0))/\Below w.heap.size w (w1.setCell ⟨PB,2,none⟩ (J (some ⟨g,0,none⟩) (n+1) cap))))):=by
 have r:∀b o,a.heap[b]?=some o->some b≠(J z n y).ownBlock->w1.heap[b]?=some o:=fun b o T hne=>by
  have hl:=lS T;have hs:=u.size;rw[K.block b sO hne,kv _ _ _ oM,u.block b hl];exact T
 have F:=r PB _ c (aW l c I);have Y:=r i _ x (aW l x fe);have kR:=r s _ X (aW l X I);have kG:=r m _ q (aW l q ge);have L:=r d _ t (aW l t xe);have nT:PB≠i:=fun e=>by rw[e] at c;rw[c] at x;simp only[Option.some.injEq,ka.injEq] at x;exact cf x.2.1
 have nG:PB≠m:=fun e=>by rw[e] at c;rw[c] at q;simp only[Option.some.injEq,ka.injEq] at q;exact cg q.2.1
 have nX:PB≠d:=fun e=>by rw[e] at c;rw[c] at t;simp only[Option.some.injEq,ka.injEq] at t;exact cx t.2.1
 have S:=(ko w1 ⟨PB,2,none⟩ (J (some ⟨g,0,none⟩) (n+1) cap) i (Ne.symm nT)).trans Y;have fR:=(ko w1 ⟨PB,2,none⟩ (J (some ⟨g,0,none⟩) (n+1) cap) s (Ne.symm hPR)).trans kR;have R:=(ko w1 ⟨PB,2,none⟩ (J (some ⟨g,0,none⟩) (n+1) cap) m (Ne.symm nG)).trans kG;have fX:=(ko w1 ⟨PB,2,none⟩ (J (some ⟨g,0,none⟩) (n+1) cap) d (Ne.symm nX)).trans L;refine ⟨⟨kc Y _,kc L _,kc L _⟩,kc F _,kb F 2,
  ⟨kc S _,kc fX _,kc fX _⟩,?_,by rw[fF,R,q],⟨_,?_,ownsRow_setCell_other U (fun e=>aW U F I e.symm) _⟩,S,fR,R,?_⟩
 ·refine ⟨?_,fun k o _ D V=>?_⟩
  ·have h1:=u.size;have h2:=K.size;simp only[zl] at h2;simp only[World.setCell,Array.size_modify];omega
  ·rw[ko _ _ _ _ (fun e=>by rw[show k=PB from e,c] at D;cases D;simp[Obj.isCells] at V)];exact r k o D (v7 l D V)
 ·have:=heap_setCell_same w1 PB 2 _ _ (J (some ⟨g,0,none⟩) (n+1) cap) F;rw[this];rfl
 ·have hs:=u.size;exact ((((E.trans (u.mono E.size)).alloc (by have:=E.size;omega) _).grown K (by have:=E.size;simp;omega) (fun j hj=>km hbase (l.lt j hj).1))).setCell (p:=⟨PB,2,none⟩) hPw _
theorem eo {e:World} {d:Nat} {h:TypeId} {a b c:Value} (m:e.heap[d]?=some (.cells #[a,b,c] h (0,0))) (x y z:Value) (w:World) (f:w.heap.size<=d) (n:Below w.heap.size w e) :
  (((e.setCell ⟨d,0,none⟩ x).setCell ⟨d,1,none⟩ y).setCell ⟨d,2,none⟩ z).heap[d]?=some (.cells #[x,y,z] h (0,0))/\(∀k,k≠d->(((e.setCell ⟨d,0,none⟩ x).setCell ⟨d,1,none⟩ y).setCell ⟨d,2,none⟩ z).heap[k]?=e.heap[k]?) /\
   (((e.setCell ⟨d,0,none⟩ x).setCell ⟨d,1,none⟩ y).setCell ⟨d,2,none⟩ z).heap.size=e.heap.size/\Below w.heap.size w (((e.setCell ⟨d,0,none⟩ x).setCell ⟨d,1,none⟩ y).setCell ⟨d,2,none⟩ z):=by
 refine ⟨?_,fun k g=>?_,by simp[World.setCell],((n.setCell (p:=⟨d,0,none⟩) f _).setCell (p:=⟨d,1,none⟩) f _).setCell (p:=⟨d,2,none⟩) f _⟩
 ·have i:=heap_setCell_same e d 0 _ _ x m;have j:=heap_setCell_same _ d 1 _ _ y i;have l:=heap_setCell_same _ d 2 _ _ z j;rw[l];rfl
 ·rw[ko _ _ _ _ g,ko _ _ _ _ g,ko _ _ _ _ g]
theorem wa {c X:World} {b:Nat} (h:∀k,k≠b->X.heap[k]?=c.heap[k]?) {base:Nat} {d:TypeId} {i:Nat} {v:Value} {n:Nat} {xs:List Value} (o:some b≠v.ownBlock) (a:c.ownsRow base d i v n xs):X.ownsRow base d i v n xs:=by
 refine ⟨a.1,?_⟩;rcases a.2 with a|⟨g,cap,j,f,l,m,r⟩
 ·exact .inl a
 ·refine .inr ⟨g,cap,j,f,l,?_,r⟩;rw[h g (fun e=>o (by rw[f,e];rfl))];exact m
end Go.Proofs.YtfjeonehdlphiaaGreatDoor
namespace Go.Proofs.YtfjeonehdlphiaaGreatDoor
open _root_.Go.Proofs.Tryz
open Go.RowKit Go.Shelf
attribute [local go_sem] Oper.semAt_some
theorem rF (W H N:Nat) (hW:W<=64) (hH:H<=64) (hNHW:N=H*W) (m:Nat) (t:Array Value) (T:Nat->Int×Int×Int) (w:World) (eg:∀args w,(callFunc m args).run prog w=.ok (.enter m args) w)
    (htell:∀(j:Nat) (V:World),j<N->Below w.heap.size w V->Calls prog m (#[.agg #[Z G (j % W:Nat),Z G (j / W:Nat)]]++t) V fun e V'=>e=.returned (dj (T j))/\Below V.heap.size V V') :
    Calls prog 40 #[.agg #[Z G W,Z G H],.func (.func m) #[] t] w fun e w'=>∃r,e=.returned (.agg #[Z G W,Z G H,r])/\ax w' r ((zc N).map T)/\Below w.heap.size w w'/\ar w.heap.size r/\bI w' r:=by
  obtain ⟨i0,hi,hz0,hz1,hz2⟩:=info_parts Tryz.infoPixel;refine (callsIn_wide (n:=3)).1 ?_;refine callsIn_of_wp_marks func40 rfl trivial ?_ rfl;simp only[ntmps40,List.size_toArray,List.length_cons,List.length_nil,Nat.reduceAdd,Nat.reduceSub,Array.replicate_succ,Array.replicate_zero,List.push_toArray,List.append_toArray,List.nil_append,List.cons_append]
  gi_wp2_with fail;refine wpIn_wide.2 ?_;have hN:N=W*H:=by rw[hNHW,xa]
  have HNHW:=qH hNHW;clear hNHW;have hNi:(W:Int)*(H:Int)=(N:Int):=by rw[hN];simp
  have hNb:N<=4096:=by rw[hN];exact km (zs hW hH) dD
  have hmk:∀V:World,(Instr.makeSlice 22 (Z G 0) (Z G N)).run prog V=.ok (J (some ⟨V.heap.size,0,none⟩) 0 N) (V.alloc (.cells (madeCells #[Z G 0,Z G 0,Z G 0] (N*3)) 61)):=fun V=>by
    have h:=run_make (P:=prog) V 22 61 i0 ib underlying22 hi hz0 .i64 .i64 0 N (Int.le_refl _) oM (by rw[hz2];omega) oM;rw[hz1] at h;simpa [ib,Value.cells] using h
  have hwN:IntKind.i64.wrap ((W:Int)*(H:Int))=(N:Int):=by rw[hNi];exact IntWalk.i64_in _ oM
  have hwM:IntKind.i64.wrap (N:Int)=(N:Int):=IntWalk.i64_in _ oM;have HN:=qH hN;clear hN;have hB3:=aG (aG (aq w (ka #[Z G W,Z G H] 95)) (aq _ (ka #[.func (.func m) #[] t] 99))) (aq _ (ka #[Z G 0,Z G 0,J none 0 0] 24));have g0:(((w.alloc (ka #[Z G W,Z G H] 95)).alloc (ka #[.func (.func m) #[] t] 99)).alloc (ka #[Z G 0,Z G 0,J none 0 0] 24)).heap[w.heap.size]?=some (.cells #[Z G W,Z G H] 95 (0,0)):=by
    rw[kv _ _ _ sO,kv _ _ _ sS];exact heap_alloc_new w _
  have g1:(((w.alloc (ka #[Z G W,Z G H] 95)).alloc (ka #[.func (.func m) #[] t] 99)).alloc (ka #[Z G 0,Z G 0,J none 0 0] 24)).heap[w.heap.size+1]?=some (.cells #[.func (.func m) #[] t] 99 (0,0)):=by
    rw[kv _ _ _ sS];have h:=heap_alloc_new (w.alloc (ka #[Z G W,Z G H] 95)) (ka #[.func (.func m) #[] t] 99);rw[zl] at h;exact h
  have g2:(((w.alloc (ka #[Z G W,Z G H] 95)).alloc (ka #[.func (.func m) #[] t] 99)).alloc (ka #[Z G 0,Z G 0,J none 0 0] 24)).heap[w.heap.size+2]?=some (.cells #[Z G 0,Z G 0,J none 0 0] 24 (0,0)):=by
    have h:=heap_alloc_new ((w.alloc (ka #[Z G W,Z G H] 95)).alloc (ka #[.func (.func m) #[] t] 99)) (ka #[Z G 0,Z G 0,J none 0 0] 24);rw[zl,zl] at h;exact h
  have hs3:(((w.alloc (ka #[Z G W,Z G H] 95)).alloc (ka #[.func (.func m) #[] t] 99)).alloc (ka #[Z G 0,Z G 0,J none 0 0] 24)).heap.size=w.heap.size+3:=sS;generalize ((w.alloc _).alloc _).alloc _=d at *;have k0:d.cell? ⟨w.heap.size,0,none⟩=some (Z G W):=kc g0 _;have k1:d.cell? ⟨w.heap.size,1,none⟩=some (Z G H):=kc g0 _;have O:=qH (show ∀w',Below d.heap.size d w'->w'.cell? ⟨w.heap.size,0,none⟩=some (Z G W)/\w'.cell? ⟨w.heap.size,1,none⟩=some (Z G H) from fun w' h =>
    ⟨(h.cell (p:=⟨w.heap.size,0,none⟩) (by show w.heap.size<_;omega)).trans k0,(h.cell (p:=⟨w.heap.size,1,none⟩) (by show w.heap.size<_;omega)).trans k1⟩)
  have hdrew:Below d.heap.size d d.drew:=(kh _ _).drew;have HMK:=qH hmk;go_region_held3 (fun w'=>w'.cell? ⟨w.heap.size,0,none⟩=some (Z G W)/\w'.cell? ⟨w.heap.size,1,none⟩=some (Z G H))
    (first|(refine O.1 _ ?_;assumption)|(refine O.1 _ ?_;exact aG (by assumption) (aq _ _))|go_keep)
    (fail)
  all_goals first
    | (show Exit.then _ _ _ _ ((d.alloc (ka (madeCells #[Z G 0,Z G 0,Z G 0] (N*3)) 61)).alloc (ka #[Z G W,Z G H,J (some ⟨w.heap.size+3,0,none⟩) 0 N] 24)).drew
       have Q:Below d.heap.size d ((d.alloc (ka (madeCells #[Z G 0,Z G 0,Z G 0] (N*3)) 61)).alloc (ka #[Z G W,Z G H,J (some ⟨w.heap.size+3,0,none⟩) 0 N] 24)).drew:=kX (aG (aq _ _) (aq _ _))
       have vP:((d.alloc (ka (madeCells #[Z G 0,Z G 0,Z G 0] (N*3)) 61)).alloc (ka #[Z G W,Z G H,J (some ⟨w.heap.size+3,0,none⟩) 0 N] 24)).drew.heap[w.heap.size+3+1]?=some (.cells #[Z G W,Z G H,J (some ⟨w.heap.size+3,0,none⟩) 0 N] 24 (0,0)):=by
         have h:=heap_alloc_new (d.alloc (ka (madeCells #[Z G 0,Z G 0,Z G 0] (N*3)) 61)) (ka #[Z G W,Z G H,J (some ⟨w.heap.size+3,0,none⟩) 0 N] 24);rw[zl,hs3] at h;exact h
       have vS:((d.alloc (ka (madeCells #[Z G 0,Z G 0,Z G 0] (N*3)) 61)).alloc (ka #[Z G W,Z G H,J (some ⟨w.heap.size+3,0,none⟩) 0 N] 24)).drew.ownsRow w.heap.size 61 3 (J (some ⟨w.heap.size+3,0,none⟩) 0 N) 0 []:=by
         have h:=(World.ownsRow_made (base:=w.heap.size) (e:=61) (size:=3) d (madeCells #[Z G 0,Z G 0,Z G 0] (N*3)) N oM uO (by simp[madeCells])).alloc (ka #[Z G W,Z G H,J (some ⟨w.heap.size+3,0,none⟩) 0 N] 24);rw[hs3] at h;exact h
       have hPB:w.heap.size+2<w.heap.size+3+1:=oM;generalize ((d.alloc _).alloc _).drew=V at *;generalize w.heap.size+3+1=PB at hPB vP |-;generalize hSB:J (some ⟨w.heap.size+3,0,none⟩) 0 N=SV at *;clear hSB)
    | (have Q:Below d.heap.size d ((d.alloc (ka #[Z G W,Z G H,J (some ⟨w.heap.size+3+1,0,none⟩) 0 N] 24)).alloc (ka (madeCells #[Z G 0,Z G 0,Z G 0] (N*3)) 61)).drew:=kX (aG (aq _ _) (aq _ _))
       have vP:((d.alloc (ka #[Z G W,Z G H,J (some ⟨w.heap.size+3+1,0,none⟩) 0 N] 24)).alloc (ka (madeCells #[Z G 0,Z G 0,Z G 0] (N*3)) 61)).drew.heap[w.heap.size+3]?=some (.cells #[Z G W,Z G H,J (some ⟨w.heap.size+3+1,0,none⟩) 0 N] 24 (0,0)):=by
         have h:=heap_alloc_new d (ka #[Z G W,Z G H,J (some ⟨w.heap.size+3+1,0,none⟩) 0 N] 24);rw[hs3] at h;exact (kv _ _ _ sO).trans h
       have vS:((d.alloc (ka #[Z G W,Z G H,J (some ⟨w.heap.size+3+1,0,none⟩) 0 N] 24)).alloc (ka (madeCells #[Z G 0,Z G 0,Z G 0] (N*3)) 61)).drew.ownsRow w.heap.size 61 3 (J (some ⟨w.heap.size+3+1,0,none⟩) 0 N) 0 []:=by
         have h:=World.ownsRow_made (base:=w.heap.size) (e:=61) (size:=3) (d.alloc (ka #[Z G W,Z G H,J (some ⟨w.heap.size+3+1,0,none⟩) 0 N] 24)) (madeCells #[Z G 0,Z G 0,Z G 0] (N*3)) N sO uO (by simp[madeCells]);rw[zl,hs3] at h;exact h
       have hPB:w.heap.size+2<w.heap.size+3:=oM;generalize ((d.alloc _).alloc _).drew=V at *;generalize hSB:J (some ⟨w.heap.size+3+1,0,none⟩) 0 N=SV at *;clear hSB;generalize w.heap.size+3=PB at hPB vP |-)
  all_goals
    have k0:=(Q.cell (p:=⟨w.heap.size,0,none⟩) (by show w.heap.size<_;omega)).trans k0;have k1:=(Q.cell (p:=⟨w.heap.size,1,none⟩) (by show w.heap.size<_;omega)).trans k1
    gi_wp2_with fail;refine ⟨trivial,?_⟩;refine (wM Fence.wide _ trivial rfl _ _ _).mono ?_;rintro e w' ⟨rfl,rfl⟩
    gi_wp2_with fail;have hsV:=Q.size;have hlP:=lS vP;have n0:=heap_alloc_new V (ka #[Z G W,Z G H] 95);have hs0:(V.alloc (ka #[Z G W,Z G H] 95)).heap.size=V.heap.size+1:=sS;have hB0:Below w.heap.size w (V.alloc (ka #[Z G W,Z G H] 95)):=aG (aG hB3 Q) (aq _ _);have j0:(V.alloc (ka #[Z G W,Z G H] 95)).heap[PB]?=some (.cells #[Z G W,Z G H,SV] 24 (0,0)):=(kv _ _ _ hlP).trans vP;have j1:=vS.alloc (ka #[Z G W,Z G H] 95);have j2:(V.alloc (ka #[Z G W,Z G H] 95)).heap[w.heap.size+1]?=some (.cells #[.func (.func m) #[] t] 99 (0,0)):=by
      rw[kv _ _ _ oM,Q.block _ oM];exact g1
    have j3:(V.alloc (ka #[Z G W,Z G H] 95)).heap[w.heap.size+2]?=some (.cells #[Z G 0,Z G 0,J none 0 0] 24 (0,0)):=by
      rw[kv _ _ _ oM,Q.block _ oM];exact g2
    generalize V.alloc _=W0 at *;refine wpIn_rangeFunc_ownH (α:=Fin N) rfl (show 1<=3 from oM) (gf:=154) (lb:=#[.pointer (some ⟨V.heap.size,0,none⟩)]) rfl trivial (enters_of func154 kR rfl)
      (wN Fence.wide (3-1) trivial rfl oM V.heap.size W H N hW hH HNHW.1 W0 oM (kc n0 _) (kc n0 _)) (fun {A B C} h k=>h.trans' k) (fun X l o o' hl _ _ _=>pC oM) (kh _ _) (fun _=>rfl)
      (fun q b=>(∃v,b.heap[PB]?=some (.cells #[Z G W,Z G H,v] 24 (0,0))/\b.ownsRow w.heap.size 61 3 v q.length ((q.map fun (j:Fin N)=>T j.1).flatMap aR))/\b.heap[w.heap.size+1]?=some (.cells #[.func (.func m) #[] t] 99 (0,0))/\b.heap[w.heap.size+2]?=some (.cells #[Z G 0,Z G 0,J none 0 0] 24 (0,0))/\b.heap[V.heap.size]?=some (.cells #[Z G W,Z G H] 95 (0,0))/\Below w.heap.size w b)
      (fun _ _ _=>False)
      (fun s X Y row ⟨⟨v,a1,a2⟩,a3,a4,a6,a5⟩ M F=>⟨⟨v,fj M F a1,v8 M F a2⟩,fj M F a3,fj M F a4,fj M F a6,ownFrom_below (β:=Unit) (kd _) oM () X Y row a5 M F⟩)
      (fun _ _ _ _ _ hs _ _=>hs)
      ⟨⟨_,j0,j1⟩,j2,j3,n0,hB0⟩
      (fun x a' b=>∃z,W0.heap.size<=z/\b.heap[z]?=some (.cells #[Z G (x.1 % W:Nat),Z G (x.1 / W:Nat)] 97 (0,0))/\a'={ tmps:=#[.agg #[Z G W,Z G H],.func (.func m) #[] t,.pointer (some ⟨w.heap.size,0,none⟩),.pointer (some ⟨w.heap.size+1,0,none⟩),.pointer (some ⟨w.heap.size+1+1,0,none⟩),.pointer (some ⟨PB,0,none⟩),.pointer (some ⟨z,0,none⟩),.pointer (some ⟨w.heap.size,0,none⟩),Z G W,.pointer (some ⟨w.heap.size,1,none⟩),Z G H,.pointer (some ⟨w.heap.size,0,none⟩),Z G W,.pointer (some ⟨w.heap.size,1,none⟩),Z G H,Z G N,SV,.agg #[Z G W,Z G H,SV],.agg #[Z G W,Z G H],.func (.func 154) #[] #[.pointer (some ⟨V.heap.size,0,none⟩)],.agg #[Z G (x.1 % W:Nat),Z G (x.1 / W:Nat)],undef,undef,undef,undef,undef,undef,undef,undef,undef],defers:=[] })
      (fun x a' _ X Y row ⟨z,b1,b2,b3⟩ M F=>⟨z,b1,fj M F b2,b3⟩)
      ?assign ?body ?done ?stop
    case assign =>
      rintro l q x b K ⟨⟨v,E,I⟩,R,y,i6,S⟩ f;have hl1:=lS E;have hl3:=lS R;have hl4:=lS y;have hl6:=lS i6
      gi_wp2;exact f _ _ ((KeepsOthers.alloc _ _).from _) (kv _ _ _ hl6) ⟨⟨v,(kv _ _ _ hl1).trans E,I.alloc _⟩,(kv _ _ _ hl3).trans R,(kv _ _ _ hl4).trans y,(kv _ _ _ hl6).trans i6,S.alloc S.size _⟩ ⟨b.heap.size,oM,heap_alloc_new b _,rfl⟩
    case body =>
      rintro l q x a' b hl ⟨r,F⟩ ⟨⟨sv,E,I⟩,R,y,i6,S⟩ ⟨z,hBx,bX,rfl⟩ hlt;obtain ⟨so,scap,rfl⟩:=pE I;have p2:b.cell? ⟨PB,2,none⟩=some (J so q.length scap):=kc E _;have t0:b.cell? ⟨w.heap.size+1,0,none⟩=some (.func (.func m) #[] t):=kc R _;have x0:b.cell? ⟨z,0,none⟩=some (Z G (x.1 % W:Nat)):=kc bX _;have x1:b.cell? ⟨z,1,none⟩=some (Z G (x.1 / W:Nat)):=kc bX _;have hlP:=lS E;have hlT:=lS R;have hlX:=lS bX;have hbW:w.heap.size<=b.heap.size:=oM;have HL1:=qH (show q.length+1<=maxLen from uO);have HL2:=qH (show (q.length+1)*24<=140737488355328 from oM);have O:=qH (show ∀v,Below b.heap.size b v->v.cell? ⟨w.heap.size+1,0,none⟩=some (.func (.func m) #[] t)/\v.cell? ⟨z,0,none⟩=some (Z G (x.1 % W:Nat))/\v.cell? ⟨z,1,none⟩=some (Z G (x.1 / W:Nat))/\v.cell? ⟨PB,2,none⟩=some (J so q.length scap) from fun v h =>
        ⟨(h.cell (p:=⟨w.heap.size+1,0,none⟩) hlT).trans t0,(h.cell (p:=⟨z,0,none⟩) hlX).trans x0,(h.cell (p:=⟨z,1,none⟩) hlX).trans x1,(h.cell (p:=⟨PB,2,none⟩) hlP).trans p2⟩)
      have HTL:=qH (fun (L:World) (g cap:Nat) (w1:World) (h1:Below b.heap.size b L) (h2:(L.alloc (ka (mj (T x.1)) 61)).grownBy w1 (J so q.length scap).ownBlock) (h3:w1.ownsRow (w.heap.size) 61 3 (J (some ⟨g,0,none⟩) (q.length+1) cap) (q.length+1) ((q.map fun (j:Fin N)=>T j.1).flatMap aR++aR (T x.1)))=>uX (es:=(mj (T x.1))) dD dD dD dD dD dD dD (B0:=W0.heap.size) (PB:=PB) E I R y i6 bX S oM oM oM h1 h2 h3);have hWd:Below b.heap.size b b.drew:=(kh _ _).drew;have HT:=qH (htell x.1 b.drew x.2 S.drew)
      gi_wp2_with fail;have hSd:=O.1 _ hWd;refine sC 8 O.1 ?_;refine ak 0 ?_;refine ak 2 ?_;refine ak 3 ?_;refine ak 1 ?_;refine aw 4 fun K' f=>?_;go_simp;refine HT.1.mono ?_;rintro e L ⟨rfl,hb1⟩;have U:Below b.heap.size b L:=hWd.trans hb1;have hSd:=O.1 _ U;refine f.out _ _ hSd ?_;clear f;(try simp only[Act.put]);refine aw 5 fun K' f=>?_;go_simp;have hV2:Below b.heap.size b (L.alloc (ka (mj (T x.1)) 61)):=U.trans ((aq _ _).mono U.size);have hSd:=O.1 _ hV2;refine f.out _ _ hSd ?_;clear f;(try simp only[Act.put]);refine eZ (i:=6) (o:=_) kR rfl (fun K' f=>?_);refine step_append_lies _ rfl _ _ 22 rfl (w.heap.size) 61 i0 ib 3 24 underlying22 hi hz0 hz1 hz2 rfl dD (J so q.length scap) q.length ((q.map fun (j:Fin N)=>T j.1).flatMap aR) rfl ((cT I U).alloc (ka (mj (T x.1)) 61)) ⟨L.heap.size,0,none⟩ 1 1 (aR (T x.1)) rfl rfl (World.news_of_block (heap_alloc_new L _)) (fun u hu=>by simp[aR] at hu;rcases hu with rfl|rfl|rfl<;>rfl) Nat.one_pos HL1.1 HL2.1 (km hbW hV2.size) _ rfl ?_;intro g cap w1 hown hgrow hat hltg;obtain ⟨⟨s1,s2,s3⟩,s4,p2f,HFIN⟩:=HTL.1 L g cap w1 U hgrow hown;have hSd:=And.intro s1 (And.intro s2 (And.intro s3 s4));refine f.out _ _ hSd ?_;clear f;(try simp only[Act.put]);refine ak 7 ?_;refine aS fun K' f=>?_;go_simp;refine f.out _ _ ?_;clear f;(try simp only[Act.put]);obtain ⟨_,f1,f2,⟨v,f3,f4⟩,f5,f6,f7,f8⟩:=HFIN;exact ⟨f1,f2,⟨v,f3,by rw[List.length_append,List.map_append,List.flatMap_append];exact f4⟩,f5,f6,f7,f8⟩
    case done =>
      rintro D ys b hD rfl ⟨⟨v,E,I⟩,R,y,i6,S⟩ f;have p0:b.cell? ⟨PB,0,none⟩=some (Z G W):=kc E _;have p1:b.cell? ⟨PB,1,none⟩=some (Z G H):=kc E _;have p2:b.cell? ⟨PB,2,none⟩=some v:=kc E _;have r0:b.cell? ⟨w.heap.size+1+1,0,none⟩=some (Z G 0):=kc y _;have r1:b.cell? ⟨w.heap.size+1+1,1,none⟩=some (Z G 0):=kc y _;have r2:b.cell? ⟨w.heap.size+1+1,2,none⟩=some (J none 0 0):=kc y _;have f0:b.frozen? ⟨w.heap.size+1+1,0,none⟩=false:=kb y 0;have f1:b.frozen? ⟨w.heap.size+1+1,1,none⟩=false:=kb y 1;have f2:b.frozen? ⟨w.heap.size+1+1,2,none⟩=false:=kb y 2;obtain ⟨ao,cap,rfl⟩:=pE I
      gi_wp2;obtain ⟨x1,x2,x3,x4⟩:=eo y (Z G W) (Z G H) (J ao (zo N).length cap) w oM S;have i2':=wa x2 (aW I y dD) I;have hDr:D≠w.heap.size+2:=fun e=>(by rw[e,y] at f;cases f);replace f:=(x2 D hDr).trans f;simp only[List.length_finRange] at x1 x2 x3 x4 i2' f;generalize ((b.setCell _ _).setCell _ _).setCell _ _=X at *;refine ⟨sS,.inl ⟨_,_,rfl,run_takeDeferred f,?_⟩⟩;have y1:=(World.putObj_heap_other (w:=X) (o:=.deferred none) (Ne.symm hDr)).trans x1;have y2:=ownsRow_putObj i2' (.deferred none) f rfl;have y3:Below w.heap.size w (X.putObj D (.deferred none)):=x4.trans (belowK_b (w:=w) (kd _) X D _ _ oM f rfl rfl);have c0:(X.putObj D (.deferred none)).cell? ⟨w.heap.size+1+1,0,none⟩=some (Z G W):=kc y1 _;have c1:(X.putObj D (.deferred none)).cell? ⟨w.heap.size+1+1,1,none⟩=some (Z G H):=kc y1 _;have c2:(X.putObj D (.deferred none)).cell? ⟨w.heap.size+1+1,2,none⟩=some (J ao N cap):=kc y1 _;generalize X.putObj D (.deferred none)=a at *;refine ⟨.agg #[Z G W,Z G H,J ao N cap],by simp[results,results40,go_sem,c0,c1,c2],J ao N cap,rfl,?_,y3,ar.own (by simpa using y2),bI.own y2⟩;rw[<-vr N T];exact ax.own (base:=w.heap.size) (by simpa using y2) sO
    case stop=>rintro D c q b _ _ h _;exact h.elim
theorem pm (W H N:Nat) (m:W<=64) (k:H<=64) (l:N=H*W) (a:Nat) (b:Array Value) (T:Nat->Int×Int×Int) (w:World) (d:∀args w,(callFunc a args).run prog w=.ok (.enter a args) w)
  (n:∀(j:Nat) (V:World),j<N->Below w.heap.size w V->Calls prog a (#[.agg #[Z G (j % W:Nat),Z G (j / W:Nat)]]++b) V fun e c=>e=.returned (dj (T j))/\Below V.heap.size V c) :
  Calls prog 40 #[.agg #[Z G W,Z G H],.func (.func a) #[] b] w fun e w'=>∃r,e=.returned (.agg #[Z G W,Z G H,r])/\ax w' r ((zc N).map T)/\Below w.heap.size w w'/\ar w.heap.size r :=
 (rF W H N m k l a b T w d n).mono fun _ _ ⟨r,f,g,h,i,_⟩=>⟨r,f,g,h,i⟩
end Go.Proofs.YtfjeonehdlphiaaGreatDoor
namespace Go.Proofs.YtfjeonehdlphiaaGreatDoor
open Go.RowKit
open _root_.Go.Proofs.Tryz
theorem AC (W H j a off ca:Nat) (ps:List Px) (hj:j<ps.length) (h4096:ps.length<=4096) (i:Nat) (n:Array Value) (q:Px) (d f b:Nat) (V:World) (eg:∀args w,(callFunc i args).run prog w=.ok (.enter i args) w)
  (F:a<V.heap.size) (hBf:d<V.heap.size) (hBq:f<V.heap.size) (N:b<V.heap.size)
  (Q:V.cell? ⟨d,0,none⟩=some (.func (.func i) #[] n)) (T:V.cell? ⟨f,2,none⟩=some (J (some ⟨a,off,none⟩) ps.length ca)) (R:V.cell? ⟨b,0,none⟩=some (Z G W)) (S:V.cell? ⟨b,1,none⟩=some (Z G H))
  (s:V.cell? ⟨a,off+j*3,none⟩=some (Z G ps[j].1)) (t:V.cell? ⟨a,off+j*3+1,none⟩=some (Z G ps[j].2.1)) (A:V.cell? ⟨a,off+j*3+2,none⟩=some (Z G ps[j].2.2))
  (E:∀U,Below V.heap.size V U->Calls prog i (#[dj ps[j]]++n) U fun e U'=>e=.returned (dj q)/\Below U.heap.size U U') :
  Calls prog 273 #[.agg #[Z G (j % W:Nat),Z G (j / W:Nat)],.pointer (some ⟨d,0,none⟩),.pointer (some ⟨f,0,none⟩),.pointer (some ⟨b,0,none⟩)] V fun e V'=>e=.returned (dj q)/\Below V.heap.size V V':=by
 obtain ⟨X,C⟩:=eX (j % W);obtain ⟨Y,D⟩:=eX (j / W);have O:Y*W+X=j:=by rw[<-C,<-D,xa];exact Nat.div_add_mod j W
 rw[C,D];clear C D;have HK:=qH O;clear O;obtain ⟨⟨r,g,u⟩,P⟩:∃p,ps[j]=p:=⟨_,rfl⟩;rw[P] at s t A E;simp only at s t A;clear P;obtain ⟨q0,q1,q2⟩:=q;have m:=aG (aq V (ka #[Z G X,Z G Y] 97)) (aq _ (ka #[Z G 0,Z G 0,Z G 0] 61));have n1:((V.alloc (ka #[Z G X,Z G Y] 97)).alloc (ka #[Z G 0,Z G 0,Z G 0] 61)).heap[V.heap.size]?=some (.cells #[Z G X,Z G Y] 97 (0,0)):=by
  rw[kv _ _ _ sS];exact heap_alloc_new V _
 have n2:((V.alloc (ka #[Z G X,Z G Y] 97)).alloc (ka #[Z G 0,Z G 0,Z G 0] 61)).heap[V.heap.size+1]?=some (.cells #[Z G 0,Z G 0,Z G 0] 61 (0,0)):=by
  have h:=heap_alloc_new (V.alloc (ka #[Z G X,Z G Y] 97)) (ka #[Z G 0,Z G 0,Z G 0] 61);rw[zl] at h;exact h
 have hsU:((V.alloc (ka #[Z G X,Z G Y] 97)).alloc (ka #[Z G 0,Z G 0,Z G 0] 61)).heap.size=V.heap.size+2:=sS;go_enter func273,ntmps273;go_wp2_with fail
 generalize (V.alloc _).alloc _=U at *;have I:=qH (show ∀w',Below U.heap.size U w'->w'.cell? ⟨d,0,none⟩=some (.func (.func i) #[] n)/\w'.cell? ⟨f,2,none⟩=some (J (some ⟨a,off,none⟩) ps.length ca)/\w'.cell? ⟨b,0,none⟩=some (Z G W)/\w'.cell? ⟨b,1,none⟩=some (Z G H) /\
   w'.cell? ⟨a,off+j*3,none⟩=some (Z G r)/\w'.cell? ⟨a,off+j*3+1,none⟩=some (Z G g)/\w'.cell? ⟨a,off+j*3+2,none⟩=some (Z G u)/\w'.cell? ⟨V.heap.size,0,none⟩=some (Z G X)/\w'.cell? ⟨V.heap.size,1,none⟩=some (Z G Y) from fun w' h=>by
  have k:=m.trans (h.mono m.size);have l:=(h.block V.heap.size oM).trans n1;exact ⟨(k.cell (p:=⟨d,0,none⟩) hBf).trans Q,(k.cell (p:=⟨f,2,none⟩) hBq).trans T,(k.cell (p:=⟨b,0,none⟩) N).trans R,(k.cell (p:=⟨b,1,none⟩) N).trans S,(k.cell (p:=⟨a,off+j*3,none⟩) F).trans s,(k.cell (p:=⟨a,off+j*3+1,none⟩) F).trans t,(k.cell (p:=⟨a,off+j*3+2,none⟩) F).trans A,kc l _,kc l _⟩)
 have HS3:=qH (show ∀w' x y z,Below U.heap.size U w'->((((w'.setCell ⟨V.heap.size+1,0,none⟩ x).setCell ⟨V.heap.size+1,1,none⟩ y).setCell ⟨V.heap.size+1,2,none⟩ z).cell? ⟨d,0,none⟩=some (.func (.func i) #[] n)/\(((w'.setCell ⟨V.heap.size+1,0,none⟩ x).setCell ⟨V.heap.size+1,1,none⟩ y).setCell ⟨V.heap.size+1,2,none⟩ z).cell? ⟨f,2,none⟩=some (J (some ⟨a,off,none⟩) ps.length ca)/\(((w'.setCell ⟨V.heap.size+1,0,none⟩ x).setCell ⟨V.heap.size+1,1,none⟩ y).setCell ⟨V.heap.size+1,2,none⟩ z).cell? ⟨b,0,none⟩=some (Z G W)/\(((w'.setCell ⟨V.heap.size+1,0,none⟩ x).setCell ⟨V.heap.size+1,1,none⟩ y).setCell ⟨V.heap.size+1,2,none⟩ z).cell? ⟨b,1,none⟩=some (Z G H) /\
   (((w'.setCell ⟨V.heap.size+1,0,none⟩ x).setCell ⟨V.heap.size+1,1,none⟩ y).setCell ⟨V.heap.size+1,2,none⟩ z).cell? ⟨a,off+j*3,none⟩=some (Z G r)/\(((w'.setCell ⟨V.heap.size+1,0,none⟩ x).setCell ⟨V.heap.size+1,1,none⟩ y).setCell ⟨V.heap.size+1,2,none⟩ z).cell? ⟨a,off+j*3+1,none⟩=some (Z G g)/\(((w'.setCell ⟨V.heap.size+1,0,none⟩ x).setCell ⟨V.heap.size+1,1,none⟩ y).setCell ⟨V.heap.size+1,2,none⟩ z).cell? ⟨a,off+j*3+2,none⟩=some (Z G u)/\(((w'.setCell ⟨V.heap.size+1,0,none⟩ x).setCell ⟨V.heap.size+1,1,none⟩ y).setCell ⟨V.heap.size+1,2,none⟩ z).cell? ⟨V.heap.size,0,none⟩=some (Z G X)/\(((w'.setCell ⟨V.heap.size+1,0,none⟩ x).setCell ⟨V.heap.size+1,1,none⟩ y).setCell ⟨V.heap.size+1,2,none⟩ z).cell? ⟨V.heap.size,1,none⟩=some (Z G Y)) from fun w' x y z h=>by
  have hh:=I.1 w' h;have e1:d≠V.heap.size+1:=oM;have e2:f≠V.heap.size+1:=oM;have K:b≠V.heap.size+1:=oM;have B:a≠V.heap.size+1:=oM;have L:V.heap.size≠V.heap.size+1:=oM;rw[eK _ _ _ e1,eK _ _ _ e2,eK _ _ _ K,eK _ _ _ K,eK _ _ _ B,eK _ _ _ B,eK _ _ _ B,eK _ _ _ L,eK _ _ _ L];exact hh)
 have HIX:=qH (show ∀w',Below U.heap.size U w'->Calls prog 42 #[.agg #[Z G W,Z G H],.agg #[Z G X,Z G Y]] w' fun e c=>e=.returned (Z G j)/\Below U.heap.size U c from fun w' h =>
  (iP W H X Y W j rfl HK.1 oM w').mono fun e c o=>⟨o.1,h.trans (o.2.mono h.size)⟩)
 have HBE:=qH (show ∀w',Below U.heap.size U w'->Calls prog i (#[.agg #[Z G r,Z G g,Z G u]]++n) w' fun e c=>e=.returned (.agg #[Z G q0,Z G q1,Z G q2])/\Below U.heap.size U c/\(c.cell? ⟨V.heap.size+1,0,none⟩=some (Z G 0)/\c.cell? ⟨V.heap.size+1,1,none⟩=some (Z G 0)/\c.cell? ⟨V.heap.size+1,2,none⟩=some (Z G 0))/\c.frozen? ⟨V.heap.size+1,0,none⟩=false/\c.frozen? ⟨V.heap.size+1,1,none⟩=false/\c.frozen? ⟨V.heap.size+1,2,none⟩=false from fun w' h =>
  (E w' (m.trans (h.mono m.size))).mono fun e c o=>by
   have M:=h.trans (o.2.mono h.size);have l:=(M.block (V.heap.size+1) oM).trans n2;exact ⟨o.1,M,al l,kb l 0,kb l 1,kb l 2⟩)
 have HFIN:=qH (show ∀w' x y z,Below U.heap.size U w'->Below V.heap.size V (((w'.setCell ⟨V.heap.size+1,0,none⟩ x).setCell ⟨V.heap.size+1,1,none⟩ y).setCell ⟨V.heap.size+1,2,none⟩ z) from fun w' x y z h=>bf (m.trans (h.mono m.size)) oM x y z);have hdrew:Below U.heap.size U U.drew:=(kh _ _).drew;clear E n1 n2 Q T R S s t A;go_region_held3 (fun w'=>w'.cell? ⟨d,0,none⟩=some (.func (.func i) #[] n)/\w'.cell? ⟨f,2,none⟩=some (J (some ⟨a,off,none⟩) ps.length ca)/\w'.cell? ⟨b,0,none⟩=some (Z G W)/\w'.cell? ⟨b,1,none⟩=some (Z G H) /\
   w'.cell? ⟨a,off+j*3,none⟩=some (Z G r)/\w'.cell? ⟨a,off+j*3+1,none⟩=some (Z G g)/\w'.cell? ⟨a,off+j*3+2,none⟩=some (Z G u)/\w'.cell? ⟨V.heap.size,0,none⟩=some (Z G X)/\w'.cell? ⟨V.heap.size,1,none⟩=some (Z G Y))
  (first|(refine I.1 _ ?_;assumption)|(refine HS3.1 _ _ _ _ ?_;assumption))
  (first
   | (go_at_call 42;refine (HIX.1 _ ?_).mono ?_;assumption;rintro e wx ⟨rfl,hN⟩)
   | (refine (HBE.1 _ ?_).mono ?_;assumption;rintro e wy ⟨rfl,hN2,⟨z0,z1,z2⟩,f0,f1,f2⟩))
 have q0':=z0;go_wp2;exact bodyPost_ret (v:=.agg #[Z G q0,Z G q1,Z G q2]) (by simp[results,results273,go_sem,z0,z1,z2]) rfl ⟨rfl,HFIN.1 _ _ _ _ hN2⟩
theorem Ep {α:Type} [Inhabited α] {β:Type} (ps:List α) (f:α->β) (N:Nat) (h:ps.length=N):(zc N).map (fun j=>f (ps.getD j default))=ps.map f:=by
 apply List.ext_getElem
 ·simp[h]
 ·intro i a b;simp at a;simp[kw,List.getElem?_eq_getElem (show i<ps.length from oM)]
theorem uB (W H:Nat) (E:W<=64) (D:H<=64) (v:Value) (ps:List Px) (s:ps.length=H*W) (a:Nat) (c:Array Value) (f:Px->Px) (w:World) (I:ax w v ps) (S:∀args w,(callFunc a args).run prog w=.ok (.enter a args) w)
  (ac:∀(j:Nat) (h:j<ps.length) (U:World),Below w.heap.size w U->Calls prog a (#[dj ps[j]]++c) U fun e m=>e=.returned (dj (f ps[j]))/\Below U.heap.size U m) :
  Calls prog 270 #[.agg #[Z G W,Z G H,v],.func (.func a) #[] c] w fun e w'=>∃r,e=.returned (.agg #[Z G W,Z G H,r])/\ax w' r (ps.map f)/\Below w.heap.size w w'/\ar w.heap.size r:=by
 have HV:=qH I;obtain ⟨n,ca,rfl,hla,hc⟩:=I;have hl4:ps.length<=4096:=by rw[s];exact km (zs D E) dD
 have z:=qH s;clear s;go_enter func270,ntmps270;go_wp2_with fail
 obtain ⟨L,M,N,O,l⟩:=jM w (ka #[Z G W,Z G H,J n ps.length ca] 24) (ka #[.func (.func a) #[] c] 300) (ka #[Z G 0,Z G 0,J none 0 0] 24) (ka #[Z G W,Z G H] 95);have hs4:((((w.alloc (ka #[Z G W,Z G H,J n ps.length ca] 24)).alloc (ka #[.func (.func a) #[] c] 300)).alloc (ka #[Z G 0,Z G 0,J none 0 0] 24)).alloc (ka #[Z G W,Z G H] 95)).heap.size=w.heap.size+4:=sS;generalize (((w.alloc _).alloc _).alloc _).alloc _=U at *;refine (pm W H (H*W) E D rfl 273 _ (fun j=>f (ps.getD j default)) U (enters_of func273 kR rfl) ?_).mono ?_
 ·intro j V hj d;have i:j<ps.length:=by rw[z.1];exact hj
  have g:=l.trans (d.mono l.size);obtain ⟨k,off,ab,o,hcell⟩:∃b off,n=some ⟨b,off,none⟩/\b<w.heap.size/\∀j (h:j<ps.length),
    w.cell? ⟨b,off+j*3,none⟩=some (Z G ps[j].1)/\w.cell? ⟨b,off+j*3+1,none⟩=some (Z G ps[j].2.1)/\w.cell? ⟨b,off+j*3+2,none⟩=some (Z G ps[j].2.2):=by
   rcases hc with h|h
   ·subst h;simp at i
   ·exact h
  subst ab;have T:=(d.block (w.heap.size) oM).trans L;have X:=(d.block (w.heap.size+1) oM).trans M;have C:=(d.block (w.heap.size+3) oM).trans O;have hsV:=d.size;obtain ⟨P,Q,R⟩:=hcell j i;have Y:ps.getD j default=ps[j]:=by simp[kw,List.getElem?_eq_getElem i]
  rw[Y];exact AC W H j k off ca ps i hl4 a c (f ps[j]) (w.heap.size+1) w.heap.size (w.heap.size+3) V S oM oM oM oM
   (kc X _) (kc T _) (kc C _) (kc C _)
   ((g.cell (p:=⟨k,off+j*3,none⟩) o).trans P) ((g.cell (p:=⟨k,off+j*3+1,none⟩) o).trans Q) ((g.cell (p:=⟨k,off+j*3+2,none⟩) o).trans R)
   (fun m aa=>ac j i m (g.trans (aa.mono g.size)))
 ·rintro e w1 ⟨r,rfl,t,F,q⟩;rw[Ep ps f (H*W) z.1] at t;have B:=(F.block (w.heap.size+1+1) oM).trans N;obtain ⟨z0,z1,z2⟩:=al B;obtain ⟨f0,f1,f2⟩:=fZ B;have K:=qH t;obtain ⟨x,u,rfl,_,_⟩:=t;have y:=qH (bf (l.trans (F.mono l.size)) (show w.heap.size<=w.heap.size+1+1 from oM) (Z G W) (Z G H) (J x (ps.map f).length u));have A:=qH (K.1.set3 q (show w.heap.size+1+1<U.heap.size from oM) (Z G W) (Z G H) (J x (ps.map f).length u));rw[xc] at A y q;go_wp2;exact bodyPost_ret (v:=.agg #[Z G W,Z G H,J x ps.length u]) (by simp[results,results270,go_sem,z0,z1,z2]) rfl ⟨_,rfl,A.1,y.1,q.mono oM⟩
abbrev gn (m:Nat->Int):Array Value:=#[Z G (m 0),Z G (m 1),Z G (m 2),Z G (m 3),Z G (m 4),Z G (m 5),Z G (m 6),Z G (m 7),Z G (m 8)]
def fg (m:Nat->Int):List Int:=(zc 9).map m
def fJ (m:Nat->Int):Bool:=az (-32768) 32768 (fg m)
theorem iW (m:Nat->Int) (k:Nat) (h:k<9):(gn m)[k]?=some (Z G (m k)):=by
 rcases (show k=0\/k=1\/k=2\/k=3\/k=4\/k=5\/k=6\/k=7\/k=8 from oM) with rfl|rfl|rfl|rfl|rfl|rfl|rfl|rfl|rfl<;>rfl
theorem rS {m:Nat->Int} (h:fJ m=true) (k:Nat) (a:k<9):-32768<=m k/\m k<=32768:=by
 have:=yb.1 h (m k) (List.mem_map.2 ⟨k,List.mem_range.2 a,rfl⟩);simpa using this
theorem C6 {w w':World} {t:TypeId} (m:Nat->Int) (a:Below (w.alloc (.cells (gn m) t)).heap.size (w.alloc (.cells (gn m) t)) w'):ap w' (J (some ⟨w.heap.size,0,none⟩) 9 9) (fg m):=by
 refine ⟨_,_,rfl,by simp[fg],.inr ⟨w.heap.size,0,rfl,by have:=a.size;simp at this;omega,fun j b=>?_⟩⟩;have c:j<9:=by simpa [fg] using b
 rw[a.cell (p:=⟨w.heap.size,0+j,none⟩) sS,kc (heap_alloc_new w _),Nat.zero_add,iW m j c];simp[fg]
theorem vt (m:Nat->Int) (w:World):Calls prog 148 #[.agg (gn m)] w (rT w (.bool (fJ m))):=by
 go_enter func148,ntmps148;go_wp2_with fail
 refine (cF (-32768) 32768 _ (fg m) _ (C6 m (kh _ _))).mono ?_;rintro e w1 ⟨rfl,rfl⟩;rw[show az (-32768) 32768 (fg m)=fJ m from rfl];go_wp2;go_ret;exact ⟨rfl,aq _ _⟩
theorem C5 {w:World} {b:Nat} {t:TypeId} {a:Nat×Nat} {m:Nat->Int} (h:w.heap[b]?=some (.cells (gn m) t a)) :
  w.cell? ⟨b,0,none⟩=some (Z G (m 0))/\w.cell? ⟨b,1,none⟩=some (Z G (m 1))/\w.cell? ⟨b,2,none⟩=some (Z G (m 2))/\w.cell? ⟨b,3,none⟩=some (Z G (m 3))/\w.cell? ⟨b,4,none⟩=some (Z G (m 4))/\w.cell? ⟨b,5,none⟩=some (Z G (m 5))/\w.cell? ⟨b,6,none⟩=some (Z G (m 6))/\w.cell? ⟨b,7,none⟩=some (Z G (m 7))/\w.cell? ⟨b,8,none⟩=some (Z G (m 8)) :=
 ⟨kc h _,kc h _,kc h _,kc h _,kc h _,kc h _,kc h _,kc h _,kc h _⟩
def iV (W H:Int) (ps:List Px) (m:Nat->Int):Int:=if aZ W H ps=true then (if fJ m=true then 0 else 3) else 1
theorem CI (W H:Int) (v:Value) (ps:List Px) (m:Nat->Int) (w:World) (N:ax w v ps) (S:iV W H ps m=0) :
  Calls prog 269 #[.agg #[Z G W,Z G H,v],.agg (gn m)] w fun e w'=>∃r,e=.returned (.tuple #[.agg #[Z G (aX (iV W H ps m) W),Z G (aX (iV W H ps m) H),r],Z G (iV W H ps m)])/\ax w' r (cO (iV W H ps m) (ps.map (du m)))/\Below w.heap.size w w'/\ar w.heap.size r:=by
 have B:=qH N;obtain ⟨D,ca,rfl,hla,hc⟩:=N;obtain ⟨E,d⟩:=eX (iV W H ps m);have y:=qH (show E=0 from d.symm.trans S);rw[d];by_cases i:aZ W H ps=true
 ·by_cases o:fJ m=true
  ·have g:E=0:=(by rw[<-d,iV,if_pos i,if_pos o]);subst g;clear d;obtain ⟨⟨w1,w2⟩,⟨h1,h2⟩,K,L⟩:=fC i;obtain ⟨b,rfl⟩:=kf (show 0<=W from oM);obtain ⟨HN,rfl⟩:=kf (show 0<=H from oM);have O:=qH (show ps.length=HN*b by rw[xa];exact_mod_cast K);have P:=qH L;clear K L;go_enter func269,ntmps269;(go_wp2_with fail);obtain ⟨C,p,q,f⟩:=ku w (ka #[Z G (b:Nat),Z G (HN:Nat),J D ps.length ca] 24) (ka (gn m) 48) (ka #[Z G 0,Z G 0,J none 0 0] 24);have hs3:(((w.alloc (ka #[Z G (b:Nat),Z G (HN:Nat),J D ps.length ca] 24)).alloc (ka (gn m) 48)).alloc (ka #[Z G 0,Z G 0,J none 0 0] 24)).heap.size=w.heap.size+3:=sS;generalize ((w.alloc _).alloc _).alloc _=U at *;refine (nc b HN _ ps _ (B.1.below f (kd _))).mono ?_;rintro e w1 ⟨rfl,n⟩;rw[i];have F:=(n.block (w.heap.size) oM).trans C;have I:=(n.block (w.heap.size+1) oM).trans p;have l:=(n.block (w.heap.size+1+1) oM).trans q;obtain ⟨Y,n1,n2,n3,n4,n5,n6,n7,n8⟩:=C5 I;(go_wp2_with fail);refine (vt m _).mono ?_;rintro e w2 ⟨rfl,a⟩;rw[o];clear Y n1 n2 n3 n4 n5 n6 n7 n8;replace a:=aG n a;replace F:=(a.block (w.heap.size) oM).trans C;replace I:=(a.block (w.heap.size+1) oM).trans p;replace l:=(a.block (w.heap.size+1+1) oM).trans q;obtain ⟨p0,p1,p2⟩:=al F;(go_wp2_with fail);refine (uB b HN oM oM _ ps O.1 271 #[.pointer (some ⟨w.heap.size+1,0,none⟩)] (du m) _ (B.1.below (f.trans (a.mono f.size)) (kd _)) (enters_of func271 kR rfl) ?_).mono ?_
   ·intro j X V T;have c:=aG a T;have R:=(c.block (w.heap.size+1) oM).trans p;exact CC (w.heap.size+1) m (fun k t=>rS o k t) ps[j] (yb.1 P.1 _ (zv X)) V (by have:=c.size;omega) (fun k t=>by rw[kc R,iW m k t])
   ·rintro e w3 ⟨r,rfl,M,c,s⟩;clear p0 p1 p2;replace c:=aG a c;replace l:=(c.block (w.heap.size+1+1) oM).trans q;have hs2:=a.size;obtain ⟨z0,z1,z2⟩:=al l;obtain ⟨f0,f1,f2⟩:=fZ l;have Q:=qH M;obtain ⟨x,u,rfl,_,_⟩:=M;have z:=qH (bf (f.trans (c.mono f.size)) (show w.heap.size<=w.heap.size+1+1 from oM) (Z G (b:Nat)) (Z G (HN:Nat)) (J x (ps.map (du m)).length u));have A:=qH (Q.1.set3 s (show w.heap.size+1+1<w2.heap.size from oM) (Z G (b:Nat)) (Z G (HN:Nat)) (J x (ps.map (du m)).length u));rw[xc] at A z s;go_wp2;exact bodyPost_ret (v:=.tuple #[.agg #[Z G (b:Nat),Z G (HN:Nat),J x ps.length u],Z G 0]) (by simp[results,results269,go_sem,z0,z1,z2]) rfl ⟨_,rfl,A.1,z.1,s.mono oM⟩
  ·have g:E=3:=(by rw[<-d,iV,if_pos i,if_neg o]);exact absurd (g.symm.trans y.1) dD
 ·have g:E=1:=by rw[<-d,iV,if_neg i]
  exact absurd (g.symm.trans y.1) dD
def nV (x:Int):Bool:=az 0 65535 [x]
theorem BP (x:Int):nV x=true↔0<=x/\x<=65535:=by simp[nV,az]
def lY (a:List Pt) (x:Int):Int:=if cY a=true then (if nV x=true then 0 else 3) else 1
def ra (a:List Pt) (x:Int):Int:=if lY a x=0 then cN a x else 0
theorem Ae (v:Value) (b:List Pt) (x:Int) (w:World) (m:bo w v b) :
  Calls prog 150 #[v,Z G x] w (rT w (.tuple #[Z G (ra b x),Z G (lY b x)])):=by
 have k:=qH m;clear m;obtain ⟨E,f⟩:=eX (lY b x);obtain ⟨a,d⟩:=eX (ra b x);rw[f,d];rw[ra,f] at d;by_cases c:cY b=true
 ·by_cases g:nV x=true
  ·have j:E=0:=(by rw[<-f,lY,if_pos c,if_pos g]);subst j;rw[if_pos rfl] at d;have o:=qH d;obtain ⟨q,r⟩:=(BP x).1 g;have n:=qH (nY c);clear f d;go_enter func150,ntmps150;(go_wp2_with fail);refine (pB _ b _ k.1).mono ?_;rintro e w1 ⟨rfl,i⟩;rw[c];(go_wp2_with fail);refine (cF 0 65535 _ [x] _ (dA w1 x)).mono ?_;rintro e w2 ⟨rfl,rfl⟩;rw[show az 0 65535 [x]=true from g];have l:=aG i (aq w1 (ka #[Z G x] 3));clear c g;(go_wp2_with fail);refine (u4 _ b x q r n.1 _ (k.1.below l (kd _))).mono ?_;rintro e s ⟨rfl,p⟩;go_wp2;go_ret2;rw[o.1];exact ⟨rfl,aG l p⟩
  ·have j:E=3:=(by rw[<-f,lY,if_pos c,if_neg g]);subst j;rw[if_neg dD] at d;subst d;have g:az 0 65535 [x]=false:=(by simpa [nV] using g);clear f;go_enter func150,ntmps150;(go_wp2_with fail);refine (pB _ b _ k.1).mono ?_;rintro e w1 ⟨rfl,i⟩;rw[c];(go_wp2_with fail);refine (cF 0 65535 _ [x] _ (dA w1 x)).mono ?_;rintro e w2 ⟨rfl,rfl⟩;rw[g];have l:=aG i (aq w1 (ka #[Z G x] 3));go_wp2;go_ret2;exact ⟨rfl,l⟩
 ·have j:E=1:=by rw[<-f,lY,if_neg c]
  subst j;rw[if_neg dD] at d;subst d;have c:cY b=false:=by simpa using c
  clear f;go_enter func150,ntmps150;go_wp2_with fail
  refine (pB _ b _ k.1).mono ?_;rintro e w1 ⟨rfl,i⟩;rw[c];go_wp2;go_ret2;exact ⟨rfl,i⟩
def eR (a:List Pt) (p:Px):Px:=(cN a p.1,cN a p.2.1,cN a p.2.2)
theorem yZ (b:Nat) (v:Value) (a:List Pt) (I:gQ a) (p:Px) (L:et p=true) (V:World) (F:b<V.heap.size) (o:bo V v a) (n:V.cell? ⟨b,0,none⟩=some v) :
  Calls prog 276 #[dj p,.pointer (some ⟨b,0,none⟩)] V (rT V (dj (eR a p))):=by
 obtain ⟨⟨R,S⟩,⟨D,E⟩,u1,u2⟩:=(jC p).1 L;obtain ⟨r,g,u⟩:=p;simp only at R S D E u1 u2;have d:=ea V (ka #[Z G r,Z G g,Z G u] 61) (ka #[Z G 0,Z G 0,Z G 0] 61);obtain ⟨q,s⟩:=df V (ka #[Z G r,Z G g,Z G u] 61) (ka #[Z G 0,Z G 0,Z G 0] 61);have hsU:((V.alloc (ka #[Z G r,Z G g,Z G u] 61)).alloc (ka #[Z G 0,Z G 0,Z G 0] 61)).heap.size=V.heap.size+2:=sS;have B:=qH o;obtain ⟨f,ca,rfl,_,_⟩:=o;go_enter func276,ntmps276;go_wp2_with fail
 generalize (V.alloc _).alloc _=U at *;have k:=qH (show ∀w',Below U.heap.size U w'->(w'.cell? ⟨b,0,none⟩=some (J f a.length ca)/\w'.cell? ⟨V.heap.size,0,none⟩=some (Z G r)/\w'.cell? ⟨V.heap.size,1,none⟩=some (Z G g)/\w'.cell? ⟨V.heap.size,2,none⟩=some (Z G u)) from fun w' h=>by
  have H:=d.trans (h.mono d.size);obtain ⟨O,P,Q⟩:=al ((h.block V.heap.size oM).trans q);exact ⟨(H.cell (p:=⟨b,0,none⟩) F).trans n,O,P,Q⟩)
 have A:=qH (show ∀w' x y z,Below U.heap.size U w'->((((w'.setCell ⟨V.heap.size+1,0,none⟩ x).setCell ⟨V.heap.size+1,1,none⟩ y).setCell ⟨V.heap.size+1,2,none⟩ z).cell? ⟨b,0,none⟩=some (J f a.length ca)/\(((w'.setCell ⟨V.heap.size+1,0,none⟩ x).setCell ⟨V.heap.size+1,1,none⟩ y).setCell ⟨V.heap.size+1,2,none⟩ z).cell? ⟨V.heap.size,0,none⟩=some (Z G r)/\(((w'.setCell ⟨V.heap.size+1,0,none⟩ x).setCell ⟨V.heap.size+1,1,none⟩ y).setCell ⟨V.heap.size+1,2,none⟩ z).cell? ⟨V.heap.size,1,none⟩=some (Z G g)/\(((w'.setCell ⟨V.heap.size+1,0,none⟩ x).setCell ⟨V.heap.size+1,1,none⟩ y).setCell ⟨V.heap.size+1,2,none⟩ z).cell? ⟨V.heap.size,2,none⟩=some (Z G u)) from fun w' x y z h=>by
  have K:=k.1 w' h;have C:b≠V.heap.size+1:=oM;have j:V.heap.size≠V.heap.size+1:=oM;rw[eK _ _ _ C,eK _ _ _ j,eK _ _ _ j,eK _ _ _ j];exact K)
 have w:=qH (show ∀w' x,Below U.heap.size U w'->0<=x->x<=65535->Calls prog 190 #[J f a.length ca,Z G x] w' fun e c=>e=.returned (Z G (cN a x))/\Below U.heap.size U c/\(c.cell? ⟨V.heap.size+1,0,none⟩=some (Z G 0)/\c.cell? ⟨V.heap.size+1,1,none⟩=some (Z G 0)/\c.cell? ⟨V.heap.size+1,2,none⟩=some (Z G 0))/\c.frozen? ⟨V.heap.size+1,0,none⟩=false/\c.frozen? ⟨V.heap.size+1,1,none⟩=false/\c.frozen? ⟨V.heap.size+1,2,none⟩=false from fun w' x h M N =>
  (u4 _ a x M N I w' (B.1.below (d.trans (h.mono d.size)) (kd _))).mono fun e c l=>by
   have m:=h.trans (l.2.mono h.size);have i:=(m.block (V.heap.size+1) oM).trans s;exact ⟨l.1,m,al i,kb i 0,kb i 1,kb i 2⟩)
 have t:=qH (show ∀w' x y z,Below U.heap.size U w'->Below V.heap.size V (((w'.setCell ⟨V.heap.size+1,0,none⟩ x).setCell ⟨V.heap.size+1,1,none⟩ y).setCell ⟨V.heap.size+1,2,none⟩ z) from fun w' x y z h=>bf (d.trans (h.mono d.size)) oM x y z);have hdrew:Below U.heap.size U U.drew:=(kh _ _).drew;clear q s n;go_region_held3 (fun w'=>(w'.cell? ⟨b,0,none⟩=some (J f a.length ca)/\w'.cell? ⟨V.heap.size,0,none⟩=some (Z G r)/\w'.cell? ⟨V.heap.size,1,none⟩=some (Z G g)/\w'.cell? ⟨V.heap.size,2,none⟩=some (Z G u)))
  (first|(refine k.1 _ ?_;assumption)|(refine A.1 _ _ _ _ ?_;assumption))
  (first
   | (go_at_call 190;refine (w.1 _ _ ?_ ?_ ?_).mono ?_;assumption;assumption;assumption;rintro e wx ⟨rfl,hN,⟨T,W,X⟩,Y,f1,f2⟩))
 all_goals
  go_wp2;exact bodyPost_ret (v:=.agg #[Z G (cN a r),Z G (cN a g),Z G (cN a u)]) (by simp[results,results276,go_sem,T,W,X]) rfl ⟨rfl,t.1 _ _ _ _ (by assumption)⟩
def iK (W H:Int) (ps:List Px) (a:List Pt):Int:=if aZ W H ps=true/\cY a=true then 0 else 1
theorem y5 (W H:Int) (v:Value) (ps:List Px) (Q:Value) (a:List Pt) (w:World) (O:ax w v ps) (P:bo w Q a) (h0:iK W H ps a=0) :
  Calls prog 275 #[.agg #[Z G W,Z G H,v],Q] w fun e w'=>∃r,e=.returned (.tuple #[.agg #[Z G (aX (iK W H ps a) W),Z G (aX (iK W H ps a) H),r],Z G (iK W H ps a)])/\ax w' r (cO (iK W H ps a) (ps.map (eR a)))/\Below w.heap.size w w'/\ar w.heap.size r:=by
 have C:=qH O;have A:=qH P;obtain ⟨F,ca,rfl,hla,hc⟩:=O;obtain ⟨t,s,rfl,_,_⟩:=P;obtain ⟨E,g⟩:=eX (iK W H ps a);have y:=qH (show E=0 from g.symm.trans h0);rw[g];by_cases n:aZ W H ps=true
 ·by_cases m:cY a=true
  ·have k:E=0:=(by rw[<-g,iK,if_pos ⟨n,m⟩]);subst k;clear g;have R:=qH (nY m);obtain ⟨⟨w1,w2⟩,⟨h1,h2⟩,L,M⟩:=fC n;obtain ⟨d,rfl⟩:=kf (show 0<=W from oM);obtain ⟨HN,rfl⟩:=kf (show 0<=H from oM);have S:=qH (show ps.length=HN*d by rw[xa];exact_mod_cast L);have T:=qH M;clear L M;go_enter func275,ntmps275;(go_wp2_with fail);obtain ⟨D,o,p,b⟩:=ku w (ka #[Z G (d:Nat),Z G (HN:Nat),J F ps.length ca] 24) (ka #[J t a.length s] 49) (ka #[Z G 0,Z G 0,J none 0 0] 24);have hs3:(((w.alloc (ka #[Z G (d:Nat),Z G (HN:Nat),J F ps.length ca] 24)).alloc (ka #[J t a.length s] 49)).alloc (ka #[Z G 0,Z G 0,J none 0 0] 24)).heap.size=w.heap.size+3:=sS;generalize ((w.alloc _).alloc _).alloc _=U at *;refine (nc d HN _ ps _ (C.1.below b (kd _))).mono ?_;rintro e w1 ⟨rfl,i⟩;rw[n];have I:=(i.block (w.heap.size) oM).trans D;have K:=(i.block (w.heap.size+1) oM).trans o;have l:=(i.block (w.heap.size+1+1) oM).trans p;have l0:w1.cell? ⟨w.heap.size+1,0,none⟩=some (J t a.length s):=kc K _;(go_wp2_with fail);refine (pB _ a _ (A.1.below (b.trans (i.mono b.size)) (kd _))).mono ?_;rintro e w2 ⟨rfl,c⟩;rw[m];clear l0;replace c:=aG i c;replace I:=(c.block (w.heap.size) oM).trans D;replace K:=(c.block (w.heap.size+1) oM).trans o;replace l:=(c.block (w.heap.size+1+1) oM).trans p;obtain ⟨p0,p1,p2⟩:=al I;(go_wp2_with fail);refine (uB d HN oM oM _ ps S.1 276 #[.pointer (some ⟨w.heap.size+1,0,none⟩)] (eR a) _ (C.1.below (b.trans (c.mono b.size)) (kd _)) (enters_of func276 kR rfl) ?_).mono ?_
   ·intro j hj V hV;have f:=aG c hV;have Y:=(f.block (w.heap.size+1) oM).trans o;exact yZ (w.heap.size+1) _ a R.1 ps[j] (yb.1 T.1 _ (zv hj)) V (by have:=f.size;omega) (A.1.below (b.trans (f.mono b.size)) (kd _)) (kc Y _)
   ·rintro e w3 ⟨r,rfl,N,f,q⟩;clear p0 p1 p2;replace f:=aG c f;replace l:=(f.block (w.heap.size+1+1) oM).trans p;have hs2:=c.size;obtain ⟨z0,z1,z2⟩:=al l;obtain ⟨f0,f1,f2⟩:=fZ l;have X:=qH N;obtain ⟨x,u,rfl,_,_⟩:=N;have z:=qH (bf (b.trans (f.mono b.size)) (show w.heap.size<=w.heap.size+1+1 from oM) (Z G (d:Nat)) (Z G (HN:Nat)) (J x (ps.map (eR a)).length u));have B:=qH (X.1.set3 q (show w.heap.size+1+1<w2.heap.size from oM) (Z G (d:Nat)) (Z G (HN:Nat)) (J x (ps.map (eR a)).length u));rw[xc] at B z q;go_wp2;exact bodyPost_ret (v:=.tuple #[.agg #[Z G (d:Nat),Z G (HN:Nat),J x ps.length u],Z G 0]) (by simp[results,results275,go_sem,z0,z1,z2]) rfl ⟨_,rfl,B.1,z.1,q.mono oM⟩
  ·have k:E=1:=(by rw[<-g,iK,if_neg (fun h=>m h.2)]);exact absurd (k.symm.trans y.1) dD
 ·have k:E=1:=by rw[<-g,iK,if_neg (fun h=>n h.1)]
  exact absurd (k.symm.trans y.1) dD
theorem jj {h l:TypeId} {t:Nat} (v:l≠h) {a u w1 w:World} {base PB:Nat} {x y:Value} {d:Option Addr} {c k m g cap:Nat} {xs C:List Value}
  (q:a.heap[PB]?=some (.cells #[x,y,J d k c] l (0,0))) (B:a.ownsRow base h t (J d k c) k xs)
  (r:Below w.heap.size w a) (f:w.heap.size<=base) (D:w.heap.size<=PB) (n:Below a.heap.size a u) (z:u.grownBy w1 (J d k c).ownBlock)
  (A:w1.ownsRow base h t (J (some ⟨g,0,none⟩) m cap) m C) :
  (∀b,b<a.heap.size->some b≠(J d k c).ownBlock->w1.heap[b]?=a.heap[b]?)/\w1.cell? ⟨PB,2,none⟩=some (J d k c)/\w1.frozen? ⟨PB,2,none⟩=false /\
   (w1.setCell ⟨PB,2,none⟩ (J (some ⟨g,0,none⟩) m cap)).heap[PB]?=some (.cells #[x,y,J (some ⟨g,0,none⟩) m cap] l (0,0)) /\
   (w1.setCell ⟨PB,2,none⟩ (J (some ⟨g,0,none⟩) m cap)).ownsRow base h t (J (some ⟨g,0,none⟩) m cap) m C/\Below w.heap.size w (w1.setCell ⟨PB,2,none⟩ (J (some ⟨g,0,none⟩) m cap)) /\
   (∀b,b<a.heap.size->some b≠(J d k c).ownBlock->b≠PB->(w1.setCell ⟨PB,2,none⟩ (J (some ⟨g,0,none⟩) m cap)).heap[b]?=a.heap[b]?):=by
 have K:=n.size;have s:∀b,b<a.heap.size->some b≠(J d k c).ownBlock->w1.heap[b]?=a.heap[b]?:=fun b f o=>by
  rw[z.block b oM o,n.block b f]
 have I:=lS q;have i:=(s PB I (aW B q v)).trans q;have E:=heap_setCell_same w1 PB 2 _ _ (J (some ⟨g,0,none⟩) m cap) i;refine ⟨s,kc i _,kb i 2,by rw[E];rfl,ownsRow_setCell_other A (fun e=>aW A i v e.symm) _,?_,fun b f o H=>(ko _ _ _ _ H).trans (s b f o)⟩;exact ((r.trans (n.mono r.size)).grown z (by have:=r.size;omega) (fun j F=>km f (B.lt j F).1)).setCell (p:=⟨PB,2,none⟩) D _
def iF (s:Px) (k:Int) (p:Px):Px:=(s.1+k*p.1,s.2.1+k*p.2.1,s.2.2+k*p.2.2)
def lD (m:Int) (p:Px):Prop:=(0<=p.1/\p.1<=m*65535)/\(0<=p.2.1/\p.2.1<=m*65535)/\(0<=p.2.2/\p.2.2<=m*65535)
theorem mW {a r A R:Int} (c:0<=a) (d:a<=A) (b:0<=r) (e:r<=R):0<=a*r/\a*r<=A*R :=
 ⟨Int.mul_nonneg c b,Int.mul_le_mul d e b oM⟩
theorem yl (s p:Px) (k:Int) (e:0<=k) (d:k<=4) (x:lD 32 s) (t:et p=true) (w:World) :
  Calls prog 282 #[dj s,dj p,Z G k] w (rT w (dj (iF s k p))):=by
 obtain ⟨⟨o,q⟩,⟨i,j⟩,u1,u2⟩:=(jC p).1 t;obtain ⟨⟨I,K⟩,⟨L,M⟩,N,O⟩:=x;obtain ⟨r,g,u⟩:=p;obtain ⟨a,b,c⟩:=s;simp only at o q i j u1 u2 I K L M N O;obtain ⟨y,z⟩:=mW e d o q;obtain ⟨D,E⟩:=mW e d i j;obtain ⟨F,H⟩:=mW e d u1 u2;have f:=qH (show iF (a,b,c) k (r,g,u)=(a+k*r,b+k*g,c+k*u) from rfl);rw[f.1];clear f;obtain ⟨A,l⟩:=eX (k*r);obtain ⟨B,m⟩:=eX (k*g);obtain ⟨C,n⟩:=eX (k*u);rw[l] at y z;rw[m] at D E;rw[n] at F H;rw[l,m,n];go_enter func282,ntmps282;go_wp2;exact bodyPost_ret (v:=.agg #[Z G (a+A),Z G (b+B),Z G (c+C)]) (by simp[results,results282,go_sem]) rfl ⟨rfl,jP _ _ _ _⟩
def dC (W x:Int):Int:=if x<0 then 0 else if W<=x then W-1 else x
theorem jY (W x:Int) (h:1<=W):0<=dC W x/\dC W x<W:=by unfold dC;split<;>(try split)<;>omega
theorem pT (W x:Int):(x<0/\dC W x=0)\/(0<=x/\W<=x/\dC W x=W-1)\/(0<=x/\x<W/\dC W x=x):=by unfold dC;split<;>(try split)<;>omega
theorem CX (W H x y:Int) (m:1<=W) (l:W<=64) (k:1<=H) (j:H<=64) (n:-1<=x) (o:x<=66) (p:-1<=y) (q:y<=66) (w:World) :
  Calls prog 283 #[.agg #[Z G W,Z G H],.agg #[Z G x,Z G y]] w (rT w (.agg #[Z G (dC W x),Z G (dC H y)])):=by
 rcases pT W x with ⟨c,a⟩|⟨c,g,a⟩|⟨c,g,a⟩<;>rcases pT H y with ⟨d,b⟩|⟨d,i,b⟩|⟨d,i,b⟩;all_goals
  have e:=qH a;have f:=qH b;clear a b;go_enter func283,ntmps283;go_wp2;all_goals exact bodyPost_ret (v:=.agg #[Z G (dC W x),Z G (dC H y)]) (by simp[results,results283,go_sem,e.1,f.1]) rfl ⟨rfl,jP _ _ _ _⟩
end Go.Proofs.YtfjeonehdlphiaaGreatDoor
