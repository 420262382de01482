/- Sw: part 34 of what the proofs need. -/
import Derived.Test.YtfjeonehdlphiaaGreatDoorC4Sw
import Derived.Test.YtfjeonehdlphiaaGreatDoorC16Sw
import Derived.Test.YtfjeonehdlphiaaGreatDoorC28Sw
import Derived.Test.YtfjeonehdlphiaaGreatDoorC32Sw
import Derived.Test.YtfjeonehdlphiaaGreatDoorC33Sw
set_option linter.unusedVariables false
set_option maxHeartbeats 6400000
set_option maxRecDepth 100000
namespace Go.Proofs.YtfjeonehdlphiaaGreatDoor
set_option linter.unusedSimpArgs false
open Go.RowKit
def ix (l:List Int) (k:Nat):Int:=l.getD k 0
def pq8 (mk:Int→Plan) (l:List UInt8):Option (Plan×List UInt8):=match numP l with
 | none=>none
 | some (am,u)=>some (mk am,u)
def pq7 (b4:List UInt8→Nat) (ph:Int) (bl:List Int) (wh:Int) (sp:List Pt) (ga ma:List Int) (l:List UInt8):Option (Plan×List UInt8):=match listP pairP b4 l with
 | none=>none
 | some (cu,u)=>pq8 (fun am=>⟨ph,ix bl,wh,sp,ix ga,ix ma,cu,am⟩) u
def pq6 (b4:List UInt8→Nat) (ph:Int) (bl:List Int) (wh:Int) (sp:List Pt) (ga:List Int) (l:List UInt8):Option (Plan×List UInt8):=match manyP numP 9 l with
 | none=>none
 | some (ma,u)=>pq7 b4 ph bl wh sp ga ma u
def pq5 (b4:List UInt8→Nat) (ph:Int) (bl:List Int) (wh:Int) (sp:List Pt) (l:List UInt8):Option (Plan×List UInt8):=match manyP numP 3 l with
 | none=>none
 | some (ga,u)=>pq6 b4 ph bl wh sp ga u
def pq4 (b3 b4:List UInt8→Nat) (ph:Int) (bl:List Int) (wh:Int) (l:List UInt8):Option (Plan×List UInt8):=match listP pairP b3 l with
 | none=>none
 | some (sp,u)=>pq5 b4 ph bl wh sp u
def pq3 (b3 b4:List UInt8→Nat) (ph:Int) (bl:List Int) (l:List UInt8):Option (Plan×List UInt8):=match numP l with
 | none=>none
 | some (wh,u)=>pq4 b3 b4 ph bl wh u
def pq2 (b3 b4:List UInt8→Nat) (ph:Int) (l:List UInt8):Option (Plan×List UInt8):=match manyP numP 4 l with
 | none=>none
 | some (bl,u)=>pq3 b3 b4 ph bl u
def planP (b3 b4:List UInt8→Nat) (l:List UInt8):Option (Plan×List UInt8):=match numP l with
 | none=>none
 | some (ph,u)=>pq2 b3 b4 ph u
theorem qbhm {α:Type} {p:List UInt8→Option (α×List UInt8)} {m:Nat} {l:List UInt8} (h:cntP m l=none):listP p (fun _=>m) l=none:=by
 unfold cntP at h
 unfold listP
 cases h1:numP l with
 | none=>rfl
 | some x =>
  obtain ⟨n,t⟩:=x
  rw[h1] at h
  simp only at h ⊢
  split at h
  ·cases h
  ·rename_i h2;rw[if_neg h2]
theorem qf3O {α:Type} {p:List UInt8→Option (α×List UInt8)} {m:Nat} {l t:List UInt8} {n:Int} (h:cntP m l=some (n,t)):∃N:Nat,n=N∧N≤m∧listP p (fun _=>m) l=manyP p N t∧t.length+4=l.length:=by
 rw[cntP] at h
 split at h
 ·cases h
 ·rename_i n' t' h1
  split at h
  ·rename_i h2
   cases h
   refine ⟨n.toNat,by omega,by omega,?_,zNNZ h1⟩
   rw[listP]
   simp only[h1]
   rw[if_pos h2]
  ·cases h
theorem X8f4 {α:Type} {p:List UInt8→Option (α×List UInt8)} (hp:∀l a t,p l=some (a,t)→t.length≤l.length) {n:Nat} {l t:List UInt8} {ys:List α} (h:manyP p n l=some (ys,t)):t.length≤l.length:=by
 induction n generalizing ys t with
 | zero=>simp only[manyP,Option.some.injEq,Prod.mk.injEq] at h;rw[h.2];exact Nat.le_refl _
 | succ n ih =>
  rw[manyP] at h
  split at h
  ·cases h
  ·rename_i ys' t' h1
   split at h
   ·cases h
   ·rename_i a t'' h2
    cases h
    exact Nat.le_trans (hp _ _ _ h2) (ih h1)
theorem jN2l {l t:List UInt8} {n:Int} (h:numP l=some (n,t)):t.length≤l.length:=by have:=zNNZ h;omega
theorem qgnh {l t:List UInt8} {p:Pt} (h:pairP l=some (p,t)):t.length≤l.length:=by
 rw[(jYsO.sound _ _ _ h).1,List.length_append];omega
structure PJ (B b:Nat) (w:World) (X:List (Nat×TypeId×List Value)) (l:List UInt8) (cs:List Value) (V:World):Prop where
 bw:b<w.heap.size
 Bw:B≤b
 sep:∀x∈X,w.heap.size+1<x.1
 st:RSt B b w V
 rd:IsRd b l V
 res:Holds w.heap.size 51 planZ.toList V
 box:Holds (w.heap.size+1) 51 cs V
 ex:∀x∈X,Holds x.1 x.2.1 x.2.2 V
theorem Holds.lt {g:Nat} {t:TypeId} {cs:List Value} {V:World} (h:Holds g t cs V):g<V.heap.size:=(Array.getElem?_eq_some_iff.1 h).1
theorem PJ.num {B b:Nat} {w:World} {X:List (Nat×TypeId×List Value)} {l t:List UInt8} {cs:List Value} {V V':World} (h:PJ B b w X l cs V) (hs:RSt B b V V') (hr:IsRd b t V'):PJ B b w X t cs V' where
 bw:=h.bw
 Bw:=h.Bw
 sep:=h.sep
 st:=h.st.trans hs
 rd:=hr
 res:=(hs.keep _ h.res.lt (by have:=h.bw;omega)).trans h.res
 box:=(hs.keep _ h.box.lt (by have:=h.bw;omega)).trans h.box
 ex:=fun x hx=>(hs.keep _ (h.ex x hx).lt (by have:=h.bw;have:=h.sep x hx;omega)).trans (h.ex x hx)
theorem PJ.fill {B b:Nat} {w:World} {X:List (Nat×TypeId×List Value)} {l t:List UInt8} {cs cs':List Value} {V V':World} (h:PJ B b w X l cs V) (hs:RSt2 B b (w.heap.size+1) V V') (hr:IsRd b t V') (hh:Holds (w.heap.size+1) 51 cs' V'):PJ B b w X t cs' V' where
 bw:=h.bw
 Bw:=h.Bw
 sep:=h.sep
 st:=⟨h.st.bel.trans hs.bel,fun k h1 h2=>(hs.keep k (Nat.lt_of_lt_of_le h1 h.st.bel.size) h2 (by omega)).trans (h.st.keep k h1 h2)⟩
 rd:=hr
 res:=(hs.keep _ h.res.lt (by have:=h.bw;omega) (by omega)).trans h.res
 box:=hh
 ex:=fun x hx=>(hs.keep _ (h.ex x hx).lt (by have:=h.bw;have:=h.sep x hx;omega) (by have:=h.sep x hx;omega)).trans (h.ex x hx)
theorem PJ.put {B b:Nat} {w:World} {X:List (Nat×TypeId×List Value)} {l:List UInt8} {cs:List Value} {V:World} (h:PJ B b w X l cs V) (i:Nat) (v:Value) (h1:v.oneCell'=true):PJ B b w X l (cs.set i v) (V.setCell ⟨w.heap.size+1,i,none⟩ v):=by
 obtain ⟨hh,hs⟩:=h.box.set (B:=B) (b:=b) (by have:=h.bw;have:=h.Bw;omega) i v h1
 exact h.fill hs ((Below.heap_setCell _ _ _ _ (by have:=h.bw;show b≠w.heap.size+1;omega)).trans h.rd) hh
theorem PJ.alloc {B b:Nat} {w:World} {X:List (Nat×TypeId×List Value)} {l:List UInt8} {cs:List Value} {V:World} (h:PJ B b w X l cs V) (ds:List Value) (t:TypeId):PJ B b w ((V.heap.size,t,ds)::X) l cs (V.alloc (.cells ds.toArray t)) where
 bw:=h.bw
 Bw:=h.Bw
 sep:=fun x hx=>by
  rcases List.mem_cons.1 hx with rfl|hx
  ·exact h.box.lt
  ·exact h.sep x hx
 st:=h.st.trans (RSt.alloc (by have:=h.st.bel.size;have:=h.bw;have:=h.Bw;omega) _)
 rd:=qgz9 h.rd _
 res:=((qUNz V _).block _ h.res.lt).trans h.res
 box:=((qUNz V _).block _ h.box.lt).trans h.box
 ex:=fun x hx=>by
  rcases List.mem_cons.1 hx with rfl|hx
  ·exact al1 V _
  ·exact ((qUNz V _).block _ (h.ex x hx).lt).trans (h.ex x hx)
theorem PJ.drew {B b:Nat} {w:World} {X:List (Nat×TypeId×List Value)} {l:List UInt8} {cs:List Value} {V:World} (h:PJ B b w X l cs V):PJ B b w X l cs V.drew :=
 ⟨h.bw,h.Bw,h.sep,h.st.trans RSt.drew,h.rd,h.res,h.box,h.ex⟩
theorem PJ.two {B b:Nat} {w:World} {X:List (Nat×TypeId×List Value)} {g:Nat} {t:TypeId} {ds:List Value} {l:List UInt8} {cs:List Value} {V:World} (h:PJ B b w ((g,t,ds)::X) l cs V) (hX:∀x∈X,x.1≠g) (i:Nat) (v u:Value) :
  PJ B b w ((g,t,(ds.set i v).set (i+1) u)::X) l cs ((V.setCell ⟨g,i,none⟩ v).setCell ⟨g,i+1,none⟩ u):=by
 have hg:=h.sep (g,t,ds) (by simp)
 have hb:=h.bw
 have hk:∀k,k≠g→((V.setCell ⟨g,i,none⟩ v).setCell ⟨g,i+1,none⟩ u).heap[k]?=V.heap[k]?:=fun k hk=>(Below.heap_setCell _ _ _ _ (fun e=>hk e)).trans (Below.heap_setCell _ _ _ _ (fun e=>hk e))
 have hB:B≤g:=by have:=h.Bw;simp only at hg;omega
 refine ⟨h.bw,h.Bw,?_,?_,(hk b (by simp only at hg;omega)).trans h.rd,(hk _ (by simp only at hg;omega)).trans h.res,(hk _ (by simp only at hg;omega)).trans h.box,?_⟩
 ·intro x hx
  rcases List.mem_cons.1 hx with rfl|hx
  ·exact hg
  ·exact h.sep x (by simp[hx])
 ·refine ⟨(h.st.bel.setCell (p:=⟨g,i,none⟩) hB v).setCell (p:=⟨g,i+1,none⟩) hB u,fun k h1 h2=>(hk k (by simp only at hg;omega)).trans (h.st.keep k h1 h2)⟩
 ·intro x hx
  rcases List.mem_cons.1 hx with rfl|hx
  ·have h0:=h.ex (g,t,ds) (by simp)
   unfold Holds at h0 ⊢
   simp[World.setCell,Array.getElem?_modify,h0]
  ·exact (hk _ (hX x hx)).trans (h.ex x (by simp[hx]))
theorem Xe7R (ns:List Pt) (M:Nat) (x y:Int):((ns.flatMap ptL++List.replicate (2*(M+1)) (Value.int .i64 0)).set (ns.length*2) (.int .i64 x)).set (ns.length*2+1) (.int .i64 y)=(ns++[(x,y)]).flatMap ptL++List.replicate (2*M) (Value.int .i64 0):=by
 have hl:=jn2Z ns
 rw[List.set_append_right _ _ (by omega),hl,Nat.sub_self,show 2*(M+1)=2*M+1+1 by omega,List.replicate_succ,List.replicate_succ,List.set_cons_zero,List.set_append_right _ _ (by omega),hl,show ns.length*2+1-ns.length*2=1 by omega]
 simp[ptL,List.flatMap_append]
theorem jBLQ {g:Nat} {t:TypeId} {ns:List Pt} {V:World} (h:Holds g t (ns.flatMap ptL) V) (hn:ns.length≤1048576):IsPts V (.slice (some ⟨g,0,none⟩) ns.length ns.length) ns:=by
 refine ⟨_,_,rfl,by omega,.inr ⟨g,0,rfl,h.lt,fun j hj=>?_⟩⟩
 obtain ⟨e1,e2⟩:=zWQA ns j hj
 rw[Nat.zero_add,Lib.cell_of_heap h,Lib.cell_of_heap h]
 simp only[List.getElem?_toArray]
 exact ⟨e1,e2⟩
theorem XG5t (N:Nat):(madeCells #[Value.int .i64 0,.int .i64 0] (N*2))=(List.replicate (2*N) (Value.int .i64 0)).toArray:=by
 refine Array.ext (by simp[madeCells];omega) fun i h1 h2=>?_
 simp only[madeCells,Array.getElem_ofFn,List.getElem_toArray,List.getElem_replicate]
 have:i % (#[Value.int .i64 0,.int .i64 0]:Array Value).size<2:=Nat.mod_lt _ (by decide)
 rcases (show i % 2=0∨i % 2=1 by omega) with e|e<;>simp[e]
theorem jh1c (B b:Nat) (l:List UInt8) (w:World) (hB:B≤b) (h:IsRd b l w) (hl:l.length≤140737488355328) :
  Calls Tryz.prog 165 #[.pointer (some ⟨b,0,none⟩)] w fun e w'=>RSt B b w w'∧((∃n sv cv u,planP (fun _=>64) (fun _=>16) l=some (n,u)∧e=.returned (.agg (planA n sv cv))∧IsRd b u w'∧X1uD w' n sv cv∧Fresh w.heap.size sv∧Fresh w.heap.size cv)∨(planP (fun _=>64) (fun _=>16) l=none∧e=panE)):=by
 have hbw:b<w.heap.size:=(Array.getElem?_eq_some_iff.1 h).1
 have hBw:B≤w.heap.size:=by omega
 have HJ0:PJ B b w [] l planZ.toList ((w.alloc (.cells planZ 51)).alloc (.cells planZ 51)):=by
  obtain ⟨a1,a2⟩:=al2 w (Obj.cells planZ 51) (Obj.cells planZ 51)
  exact ⟨hbw,hB,by simp,(RSt.alloc hBw _).trans (RSt.alloc (by simp;omega) _),qgz9 (qgz9 h _) _,a1,a2,by simp⟩
 have HJ:=hide HJ0
 clear HJ0 h
 obtain ⟨R,HP⟩:∃R,Hid (R=planP (fun _=>64) (fun _=>16) l):=⟨_,rfl⟩
 rw[←HP.out]
 go_enter Tryz.func165,Tryz.ntmps165
 go_wp2_with fail
 generalize (w.alloc (.cells planZ 51)).alloc (.cells planZ 51)=V0 at *
 refine (qI49 B b l V0 hB (Nat.le_trans hBw HJ.out.st.bel.size) HJ.out.rd (by omega)).mono ?_
 rintro e V1 ⟨hS,hc⟩
 rcases hc with ⟨ph,l1,hp,rfl,hR⟩|⟨hp,rfl⟩
 rotate_left
 ·exact ⟨rfl,HJ.out.st.trans hS,.inr ⟨by rw[HP.out,planP,hp],rfl⟩⟩
 replace HP:=hide (show R=pq2 (fun _=>64) (fun _=>16) ph l1 by rw[HP.out,planP,hp])
 have hl1:l1.length≤140737488355328:=by have:=jN2l hp;omega
 replace HJ:=hide (HJ.out.num hS hR)
 have ci:V1.cell? ⟨w.heap.size+1,0,none⟩=some (.int .i64 0):=by rw[Lib.cell_of_heap HJ.out.box];rfl
 have fi:V1.frozen? ⟨w.heap.size+1,0,none⟩=false:=Lib.frozen_of_heap HJ.out.box _
 replace HJ:=hide (HJ.out.put 0 (.int .i64 ph) rfl)
 clear hp hS hR
 replace HJ:=hide (show PJ B b w [] l1 [.int .i64 ph,.int .i64 0,.int .i64 0,.int .i64 0,.int .i64 0,.int .i64 0,.slice none 0 0,.int .i64 0,.int .i64 0,.int .i64 0,.int .i64 0,.int .i64 0,.int .i64 0,.int .i64 0,.int .i64 0,.int .i64 0,.int .i64 0,.int .i64 0,.int .i64 0,.slice none 0 0,.int .i64 0] (V1.setCell ⟨w.heap.size+1,0,none⟩ (.int .i64 ph)) from HJ.out)
 go_wp2_with fail
 clear ci fi
 generalize V1.setCell ⟨w.heap.size+1,0,none⟩ (.int .i64 ph)=V1' at *
 have hz:∀i,i<4→∃z:Int,([.int .i64 ph,.int .i64 0,.int .i64 0,.int .i64 0,.int .i64 0,.int .i64 0,.slice none 0 0,.int .i64 0,.int .i64 0,.int .i64 0,.int .i64 0,.int .i64 0,.int .i64 0,.int .i64 0,.int .i64 0,.int .i64 0,.int .i64 0,.int .i64 0,.int .i64 0,.slice none 0 0,.int .i64 0]:List Value)[1+i]?=some (.int .i64 z):=fun i hi=>by
  rcases (show i=0∨i=1∨i=2∨i=3 by omega) with rfl|rfl|rfl|rfl<;>exact ⟨_,rfl⟩
 refine (qKIr B b (w.heap.size+1) 1 4 4 51 [.int .i64 ph,.int .i64 0,.int .i64 0,.int .i64 0,.int .i64 0,.int .i64 0,.slice none 0 0,.int .i64 0,.int .i64 0,.int .i64 0,.int .i64 0,.int .i64 0,.int .i64 0,.int .i64 0,.int .i64 0,.int .i64 0,.int .i64 0,.int .i64 0,.int .i64 0,.slice none 0 0,.int .i64 0] l1 V1' hB (by omega) (by omega) (Nat.le_trans hBw HJ.out.st.bel.size) HJ.out.rd (by omega) HJ.out.box (by simp) (by omega) hz).mono ?_
 rintro e V2 ⟨hS,hc⟩
 rcases hc with ⟨ns,l2,hp,rfl,hR,hH⟩|⟨hp,rfl⟩
 rotate_left
 ·exact ⟨rfl,⟨HJ.out.st.bel.trans hS.bel,fun k h1 h2=>(hS.keep k (Nat.lt_of_lt_of_le h1 HJ.out.st.bel.size) h2 (by omega)).trans (HJ.out.st.keep k h1 h2)⟩,.inr ⟨by rw[HP.out,pq2,hp],rfl⟩⟩
 obtain ⟨a0,a1,a2,a3,rfl⟩:∃a0 a1 a2 a3,ns=[a0,a1,a2,a3]:=by
  have hlen:=jPlP hp
  match ns,hlen with
  | [a0,a1,a2,a3],_=>exact ⟨a0,a1,a2,a3,rfl⟩
 replace HP:=hide (show R=pq3 (fun _=>64) (fun _=>16) ph [a0,a1,a2,a3] l2 by rw[HP.out,pq2,hp])
 have hl2:l2.length≤140737488355328:=by have:=X8f4 (fun _ _ _=>jN2l) hp;omega
 replace HJ:=hide (HJ.out.fill hS hR hH)
 clear hp hS hR hH hz
 replace HJ:=hide (show PJ B b w [] l2 [.int .i64 ph,.int .i64 a0,.int .i64 a1,.int .i64 a2,.int .i64 a3,.int .i64 0,.slice none 0 0,.int .i64 0,.int .i64 0,.int .i64 0,.int .i64 0,.int .i64 0,.int .i64 0,.int .i64 0,.int .i64 0,.int .i64 0,.int .i64 0,.int .i64 0,.int .i64 0,.slice none 0 0,.int .i64 0] V2 from HJ.out)
 go_wp2_with fail
 refine (qI49 B b l2 V2 hB (Nat.le_trans hBw HJ.out.st.bel.size) HJ.out.rd (by omega)).mono ?_
 rintro e V3 ⟨hS,hc⟩
 rcases hc with ⟨wh,l3,hp,rfl,hR⟩|⟨hp,rfl⟩
 rotate_left
 ·exact ⟨rfl,HJ.out.st.trans hS,.inr ⟨by rw[HP.out,pq3,hp],rfl⟩⟩
 replace HP:=hide (show R=pq4 (fun _=>64) (fun _=>16) ph [a0,a1,a2,a3] wh l3 by rw[HP.out,pq3,hp])
 have hl3:l3.length≤140737488355328:=by have:=jN2l hp;omega
 replace HJ:=hide (HJ.out.num hS hR)
 have ci:V3.cell? ⟨w.heap.size+1,5,none⟩=some (.int .i64 0):=by rw[Lib.cell_of_heap HJ.out.box];rfl
 have fi:V3.frozen? ⟨w.heap.size+1,5,none⟩=false:=Lib.frozen_of_heap HJ.out.box _
 replace HJ:=hide (HJ.out.put 5 (.int .i64 wh) rfl)
 clear hp hS hR
 replace HJ:=hide (show PJ B b w [] l3 [.int .i64 ph,.int .i64 a0,.int .i64 a1,.int .i64 a2,.int .i64 a3,.int .i64 wh,.slice none 0 0,.int .i64 0,.int .i64 0,.int .i64 0,.int .i64 0,.int .i64 0,.int .i64 0,.int .i64 0,.int .i64 0,.int .i64 0,.int .i64 0,.int .i64 0,.int .i64 0,.slice none 0 0,.int .i64 0] (V3.setCell ⟨w.heap.size+1,5,none⟩ (.int .i64 wh)) from HJ.out)
 go_wp2_with fail
 clear ci fi
 generalize V3.setCell ⟨w.heap.size+1,5,none⟩ (.int .i64 wh)=V3' at *
 refine (zbMh B b 64 l3 V3' hB (Nat.le_trans hBw HJ.out.st.bel.size) HJ.out.rd (by omega)).mono ?_
 rintro e V4 ⟨hS,hc⟩
 rcases hc with ⟨n,l4,hp,rfl,hR⟩|⟨hp,rfl⟩
 rotate_left
 ·exact ⟨rfl,HJ.out.st.trans hS,.inr ⟨by rw[HP.out,pq4,qbhm hp],rfl⟩⟩
 obtain ⟨N4,rfl,hN4,hlp,hlen⟩:=qf3O (p:=pairP) hp
 have HLP:=hide hlp
 have hl4:l4.length≤140737488355328:=by omega
 replace HJ:=hide (HJ.out.num hS hR)
 clear hp hS hR hlp hlen
 obtain ⟨i0,hi,hz0,hz1,hz2⟩:=info_parts Tryz.infoSpot
 obtain ⟨ZA,hZA⟩:∃ZA:Array Value,(List.replicate (2*N4) (Value.int .i64 0)).toArray=ZA:=⟨_,rfl⟩
 have hmk:∀V:World,(Instr.makeSlice 46 (.int .i64 N4) (.int .i64 N4)).run Tryz.prog V=.ok (.slice (some ⟨V.heap.size,0,none⟩) N4 N4) (V.alloc (.cells ZA 97)):=fun V=>by
  have h:=run_make (P:=Tryz.prog) V 46 97 i0 spZ Tryz.underlying46 hi hz0 .i64 .i64 N4 N4 (by omega) (Int.le_refl _) (by rw[hz2];omega) (by omega)
  rw[hz1,Int.toNat_natCast] at h
  rw[←hZA,←XG5t]
  simpa [spZ,Value.cells] using h
 clear hi hz0 hz1 hz2
 have hxs4:∀x∈([]:List (Nat×TypeId×List Value)),x.1≠V4.heap.size:=fun x hx=>by have:=(HJ.out.ex x hx).lt;omega
 have ci:V4.cell? ⟨w.heap.size+1,6,none⟩=some (.slice none 0 0):=by rw[Lib.cell_of_heap HJ.out.box];rfl
 have fi:V4.frozen? ⟨w.heap.size+1,6,none⟩=false:=Lib.frozen_of_heap HJ.out.box _
 have hbl:w.heap.size+1<V4.heap.size:=HJ.out.box.lt
 have ci':(V4.alloc (.cells ZA 97)).cell? ⟨w.heap.size+1,6,none⟩=some (.slice none 0 0):=by rw[Lib.cell_of_heap (((qUNz V4 _).block _ HJ.out.box.lt).trans HJ.out.box)];rfl
 have fi':(V4.alloc (.cells ZA 97)).frozen? ⟨w.heap.size+1,6,none⟩=false:=Lib.frozen_of_heap (((qUNz V4 _).block _ HJ.out.box.lt).trans HJ.out.box) _
 replace HJ:=hide ((HJ.out.put 6 (.slice (some ⟨V4.heap.size,0,none⟩) N4 N4) rfl).alloc (List.replicate (2*N4) (Value.int .i64 0)) 97)
 rw[hZA,show (V4.setCell ⟨w.heap.size+1,6,none⟩ (.slice (some ⟨V4.heap.size,0,none⟩) N4 N4)).heap.size=V4.heap.size by simp[World.setCell]] at HJ
 clear hZA
 have hsep4:w.heap.size+1<V4.heap.size:=HJ.out.sep _ List.mem_cons_self
 go_upto_region 6 with fail
 clear ci fi ci' fi' hmk hbl
 generalize V4.heap.size=S4 at *
 generalize (V4.setCell ⟨w.heap.size+1,6,none⟩ (.slice (some ⟨S4,0,none⟩) N4 N4)).alloc (.cells ZA 97)=VA at *
 have cj:VA.cell? ⟨w.heap.size+1,6,none⟩=some (.slice (some ⟨S4,0,none⟩) N4 N4):=by rw[Lib.cell_of_heap HJ.out.box];rfl
 go_wp2_with fail
 clear cj
 replace HJ:=hide (show PJ B b w [(S4,97,[].flatMap ptL++List.replicate (2*(N4-0)) (Value.int .i64 0))] l4 [.int .i64 ph,.int .i64 a0,.int .i64 a1,.int .i64 a2,.int .i64 a3,.int .i64 wh,.slice (some ⟨S4,0,none⟩) N4 N4,.int .i64 0,.int .i64 0,.int .i64 0,.int .i64 0,.int .i64 0,.int .i64 0,.int .i64 0,.int .i64 0,.int .i64 0,.int .i64 0,.int .i64 0,.int .i64 0,.slice none 0 0,.int .i64 0] VA from HJ.out)
 go_loopw [23] (fun i wr=>∃k:Nat,k≤N4∧i=.int .i64 k∧∃ns u,manyP pairP k l4=some (ns,u)∧PJ B b w [(S4,97,ns.flatMap ptL++List.replicate (2*(N4-k)) (Value.int .i64 0))] u [.int .i64 ph,.int .i64 a0,.int .i64 a1,.int .i64 a2,.int .i64 a3,.int .i64 wh,.slice (some ⟨S4,0,none⟩) N4 N4,.int .i64 0,.int .i64 0,.int .i64 0,.int .i64 0,.int .i64 0,.int .i64 0,.int .i64 0,.int .i64 0,.int .i64 0,.int .i64 0,.int .i64 0,.int .i64 0,.slice none 0 0,.int .i64 0] wr) (fun i _=>N4-(intOf i).toNat)
 case atStart=>exact ⟨0,Nat.zero_le _,rfl,[],l4,rfl,HJ.out⟩
 case round =>
  clear HJ
  obtain ⟨k,hk,rfl,ns,u,hm,hJ⟩:=hrel
  have HJ:=hide hJ
  clear hJ
  have hnl:=jPlP hm
  have hul:=X8f4 (fun _ _ _=>qgnh) hm
  by_cases hlt:k<N4
  ·have hd:decide ((k:Int)<(N4:Int))=true:=by simp;omega
   have HM:=hide hm
   have HSQ:=hide (fun (v:World) (cs':List UInt8) (hv:PJ B b w [(S4,97,ns.flatMap ptL++List.replicate (2*(N4-k)) (Value.int .i64 0))] cs' [.int .i64 ph,.int .i64 a0,.int .i64 a1,.int .i64 a2,.int .i64 a3,.int .i64 wh,.slice (some ⟨S4,0,none⟩) N4 N4,.int .i64 0,.int .i64 0,.int .i64 0,.int .i64 0,.int .i64 0,.int .i64 0,.int .i64 0,.int .i64 0,.int .i64 0,.int .i64 0,.int .i64 0,.int .i64 0,.slice none 0 0,.int .i64 0] v)=>show v.cell? ⟨w.heap.size+1,6,none⟩=some (.slice (some ⟨S4,0,none⟩) N4 N4)∧True from ⟨by rw[Lib.cell_of_heap hv.box];rfl,trivial⟩)
   clear hm
   go_upto_region 9 with fail
   have HJd:=hide HJ.out.drew
   have hSd:=HSQ.out _ _ HJd.out
   have hmx:Tryz.prog.follows .mixedOrders=true:=by kernel_rfl
   refine qYgd (S:=(fun v:World=>v.cell? ⟨w.heap.size+1,6,none⟩=some (.slice (some ⟨S4,0,none⟩) N4 N4)∧True)) (f:=9) hmx ?_
   show jZdv _ _ _ _ _ _ 10 _ _ wr.drew
   refine takeQ 0 ?vv1 (some 26) [] ?yy1 hSd ?rr1
   case yy1=>(intro wq hSq;obtain ⟨_,_⟩:=hSq;go_simp<;>with_reducible rfl)
   simp only[Act.put,List.setIfInBounds_toArray,List.set_cons_succ,List.set_cons_zero]
   refine takeQ 2 ?vv2 (some 28) [] ?yy2 hSd ?rr2
   case yy2=>(intro wq hSq;obtain ⟨_,_⟩:=hSq;go_simp<;>with_reducible rfl)
   simp only[Act.put,List.setIfInBounds_toArray,List.set_cons_succ,List.set_cons_zero]
   refine takeQ 3 ?vv3 (some 29) [] ?yy3 hSd ?rr3
   case yy3=>(intro wq hSq;obtain ⟨_,_⟩:=hSq;go_simp<;>with_reducible rfl)
   simp only[Act.put,List.setIfInBounds_toArray,List.set_cons_succ,List.set_cons_zero]
   refine takeQ 5 ?vv4 (some 31) [] ?yy4 hSd ?rr4
   case yy4=>(intro wq hSq;obtain ⟨_,_⟩:=hSq;go_simp<;>with_reducible rfl)
   simp only[Act.put,List.setIfInBounds_toArray,List.set_cons_succ,List.set_cons_zero]
   refine takeQ 1 ?vv5 (some 27) [] ?yy5 hSd ?rr5
   case yy5=>(intro wq hSq;obtain ⟨_,_⟩:=hSq;go_simp<;>with_reducible rfl)
   simp only[Act.put,List.setIfInBounds_toArray,List.set_cons_succ,List.set_cons_zero]
   refine znWj (i:=4) (o:=_) (by kernel_rfl) rfl (fun K' hK=>?_)
   rw[if_pos (by rfl)]
   go_simp
   refine (qI49 B b u wr.drew hB (Nat.le_trans hBw HJd.out.st.bel.size) HJd.out.rd (by omega)).mono ?_
   rintro e X1 ⟨hS,hc⟩
   rcases hc with ⟨x,u1,hp,rfl,hR⟩|⟨hp,rfl⟩
   rotate_left
   ·exact ⟨rfl,HJd.out.st.trans hS,.inr ⟨by rw[HP.out,pq4,HLP.out,XLXy HM.out (by rw[pairP,hp]) hlt],rfl⟩⟩
   have HP1:=hide hp
   have hu1:=jN2l hp
   have HJ1:=hide (HJd.out.num hS hR)
   clear hp hS hR
   have hSd:=HSQ.out _ _ HJ1.out
   refine hK.out _ _ hSd ?_
   clear hK
   try simp only[Act.put]
   refine znWj (i:=6) (o:=_) (by kernel_rfl) rfl (fun K' hK=>?_)
   rw[if_pos (by rfl)]
   go_simp
   refine (qI49 B b u1 X1 hB (Nat.le_trans hBw HJ1.out.st.bel.size) HJ1.out.rd (by omega)).mono ?_
   rintro e X2 ⟨hS,hc⟩
   rcases hc with ⟨y,u2,hp,rfl,hR⟩|⟨hp,rfl⟩
   rotate_left
   ·exact ⟨rfl,HJ1.out.st.trans hS,.inr ⟨by rw[HP.out,pq4,HLP.out,XLXy HM.out (by rw[pairP,HP1.out];simp only[hp]) hlt],rfl⟩⟩
   have HP2:=hide (show pairP u=some ((x,y),u2) by rw[pairP,HP1.out];simp only[hp])
   have HJ2:=hide (HJ1.out.num hS hR)
   clear hp hS hR
   have hcl:(ns.flatMap ptL++List.replicate (2*(N4-k)) (Value.int .i64 0)).length=N4*2:=by rw[List.length_append,jn2Z,List.length_replicate,hnl];omega
   have hH:=HJ2.out.ex (S4,97,ns.flatMap ptL++List.replicate (2*(N4-k)) (Value.int .i64 0)) (by simp)
   have g0:∃z,X2.cell? ⟨S4,k*2,none⟩=some z:=⟨_,by rw[Lib.cell_of_heap hH,List.getElem?_toArray];exact List.getElem?_eq_getElem (by rw[hcl];omega)⟩
   have g1:∃z,X2.cell? ⟨S4,k*2+1,none⟩=some z:=⟨_,by rw[Lib.cell_of_heap hH,List.getElem?_toArray];exact List.getElem?_eq_getElem (by rw[hcl];omega)⟩
   obtain ⟨z0,c0⟩:=g0
   obtain ⟨z1,c1⟩:=g1
   have f0:X2.frozen? ⟨S4,k*2,none⟩=false:=Lib.frozen_of_heap hH _
   have f1:X2.frozen? ⟨S4,k*2+1,none⟩=false:=Lib.frozen_of_heap hH _
   have HJ3:=hide (HJ2.out.two hxs4 (k*2) (.int .i64 x) (.int .i64 y))
   clear hcl hH
   have hSd:=HSQ.out _ _ HJ2.out
   refine hK.out _ _ hSd ?_
   clear hK
   try simp only[Act.put]
   refine takeQ 7 ?vv6 (some 33) [] ?yy6 hSd ?rr6
   case yy6=>(intro wq hSq;obtain ⟨_,_⟩:=hSq;go_simp<;>with_reducible rfl)
   simp only[Act.put,List.setIfInBounds_toArray,List.set_cons_succ,List.set_cons_zero]
   refine takeQ 8 ?vv7 (some 34) [] ?yy7 hSd ?rr7
   case yy7=>(intro wq hSq;obtain ⟨_,_⟩:=hSq;go_simp<;>with_reducible rfl)
   simp only[Act.put,List.setIfInBounds_toArray,List.set_cons_succ,List.set_cons_zero]
   refine z9gO (o:=_) (by kernel_rfl) rfl (fun K' hK=>?_)
   rw[if_pos (by rfl)]
   go_simp
   refine hK.out _ _ ?_
   clear hK
   refine jFdp (by kernel_rfl) ?_ _
   try simp only[Act.put]
   have HJ4:=hide (show PJ B b w [(S4,97,(ns++[(x,y)]).flatMap ptL++List.replicate (2*(N4-(k+1))) (Value.int .i64 0))] u2 [.int .i64 ph,.int .i64 a0,.int .i64 a1,.int .i64 a2,.int .i64 a3,.int .i64 wh,.slice (some ⟨S4,0,none⟩) N4 N4,.int .i64 0,.int .i64 0,.int .i64 0,.int .i64 0,.int .i64 0,.int .i64 0,.int .i64 0,.int .i64 0,.int .i64 0,.int .i64 0,.int .i64 0,.int .i64 0,.slice none 0 0,.int .i64 0] _ from by
    have h:=HJ3.out
    rw[show N4-k=N4-(k+1)+1 by omega,←hnl,Xe7R,hnl] at h
    exact h)
   have HM2:=hide (jvSA HM.out HP2.out)
   clear HJ3 HJ2 HJ1 HJd HJ hSd c0 c1 f0 f1 HSQ
   go_wp2
   go_roundw
   case rel=>exact ⟨k+1,hlt,by go_num,_,_,HM2.out,HJ4.out⟩
   case measure=>simp[intOf];omega
  ·have hd:decide ((k:Int)<(N4:Int))=false:=by simp;omega
   obtain rfl:N4=k:=by omega
   replace HP:=hide (show R=pq5 (fun _=>16) ph [a0,a1,a2,a3] wh ns u by rw[HP.out,pq4,HLP.out,hm])
   replace HJ:=hide (show PJ B b w [(S4,97,ns.flatMap ptL)] u [.int .i64 ph,.int .i64 a0,.int .i64 a1,.int .i64 a2,.int .i64 a3,.int .i64 wh,.slice (some ⟨S4,0,none⟩) N4 N4,.int .i64 0,.int .i64 0,.int .i64 0,.int .i64 0,.int .i64 0,.int .i64 0,.int .i64 0,.int .i64 0,.int .i64 0,.int .i64 0,.int .i64 0,.int .i64 0,.slice none 0 0,.int .i64 0] wr by have h:=HJ.out;rwa [Nat.sub_self,Nat.mul_zero,List.replicate_zero,List.append_nil] at h)
   have hn4:=hnl
   clear hm HLP hnl
   generalize ns=sp at *
   generalize u=l4u at *
   generalize wr=W4 at *
   have hl4u:l4u.length≤140737488355328:=by omega
   clear hul
   go_wp2_with fail
   have hz:∀i,i<3→∃z:Int,([.int .i64 ph,.int .i64 a0,.int .i64 a1,.int .i64 a2,.int .i64 a3,.int .i64 wh,.slice (some ⟨S4,0,none⟩) N4 N4,.int .i64 0,.int .i64 0,.int .i64 0,.int .i64 0,.int .i64 0,.int .i64 0,.int .i64 0,.int .i64 0,.int .i64 0,.int .i64 0,.int .i64 0,.int .i64 0,.slice none 0 0,.int .i64 0]:List Value)[7+i]?=some (.int .i64 z):=fun i hi=>by
    rcases (show i=0∨i=1∨i=2 by omega) with rfl|rfl|rfl<;>exact ⟨_,rfl⟩
   refine (qKIr B b (w.heap.size+1) 7 3 3 51 [.int .i64 ph,.int .i64 a0,.int .i64 a1,.int .i64 a2,.int .i64 a3,.int .i64 wh,.slice (some ⟨S4,0,none⟩) N4 N4,.int .i64 0,.int .i64 0,.int .i64 0,.int .i64 0,.int .i64 0,.int .i64 0,.int .i64 0,.int .i64 0,.int .i64 0,.int .i64 0,.int .i64 0,.int .i64 0,.slice none 0 0,.int .i64 0] l4u W4 hB (by omega) (by omega) (Nat.le_trans hBw HJ.out.st.bel.size) HJ.out.rd (by omega) HJ.out.box (by simp) (by omega) hz).mono ?_
   rintro e V5 ⟨hS,hc⟩
   rcases hc with ⟨ns,l5,hp,rfl,hR,hH⟩|⟨hp,rfl⟩
   rotate_left
   ·exact ⟨rfl,⟨HJ.out.st.bel.trans hS.bel,fun k h1 h2=>(hS.keep k (Nat.lt_of_lt_of_le h1 HJ.out.st.bel.size) h2 (by omega)).trans (HJ.out.st.keep k h1 h2)⟩,.inr ⟨by rw[HP.out,pq5,hp],rfl⟩⟩
   obtain ⟨g0,g1,g2,rfl⟩:∃g0 g1 g2,ns=[g0,g1,g2]:=by
    have hlen:=jPlP hp
    match ns,hlen with
    | [g0,g1,g2],_=>exact ⟨g0,g1,g2,rfl⟩
   replace HP:=hide (show R=pq6 (fun _=>16) ph [a0,a1,a2,a3] wh sp [g0,g1,g2] l5 by rw[HP.out,pq5,hp])
   have hl5:l5.length≤140737488355328:=by have:=X8f4 (fun _ _ _=>jN2l) hp;omega
   replace HJ:=hide (HJ.out.fill hS hR hH)
   clear hp hS hR hH hz
   replace HJ:=hide (show PJ B b w [(S4,97,sp.flatMap ptL)] l5 [.int .i64 ph,.int .i64 a0,.int .i64 a1,.int .i64 a2,.int .i64 a3,.int .i64 wh,.slice (some ⟨S4,0,none⟩) N4 N4,.int .i64 g0,.int .i64 g1,.int .i64 g2,.int .i64 0,.int .i64 0,.int .i64 0,.int .i64 0,.int .i64 0,.int .i64 0,.int .i64 0,.int .i64 0,.int .i64 0,.slice none 0 0,.int .i64 0] V5 from HJ.out)
   go_wp2_with fail
   have hz:∀i,i<9→∃z:Int,([.int .i64 ph,.int .i64 a0,.int .i64 a1,.int .i64 a2,.int .i64 a3,.int .i64 wh,.slice (some ⟨S4,0,none⟩) N4 N4,.int .i64 g0,.int .i64 g1,.int .i64 g2,.int .i64 0,.int .i64 0,.int .i64 0,.int .i64 0,.int .i64 0,.int .i64 0,.int .i64 0,.int .i64 0,.int .i64 0,.slice none 0 0,.int .i64 0]:List Value)[10+i]?=some (.int .i64 z):=fun i hi=>by
    rcases (show i=0∨i=1∨i=2∨i=3∨i=4∨i=5∨i=6∨i=7∨i=8 by omega) with rfl|rfl|rfl|rfl|rfl|rfl|rfl|rfl|rfl<;>exact ⟨_,rfl⟩
   refine (qKIr B b (w.heap.size+1) 10 9 9 51 [.int .i64 ph,.int .i64 a0,.int .i64 a1,.int .i64 a2,.int .i64 a3,.int .i64 wh,.slice (some ⟨S4,0,none⟩) N4 N4,.int .i64 g0,.int .i64 g1,.int .i64 g2,.int .i64 0,.int .i64 0,.int .i64 0,.int .i64 0,.int .i64 0,.int .i64 0,.int .i64 0,.int .i64 0,.int .i64 0,.slice none 0 0,.int .i64 0] l5 V5 hB (by omega) (by omega) (Nat.le_trans hBw HJ.out.st.bel.size) HJ.out.rd (by omega) HJ.out.box (by simp) (by omega) hz).mono ?_
   rintro e V6 ⟨hS,hc⟩
   rcases hc with ⟨ns,l6,hp,rfl,hR,hH⟩|⟨hp,rfl⟩
   rotate_left
   ·exact ⟨rfl,⟨HJ.out.st.bel.trans hS.bel,fun k h1 h2=>(hS.keep k (Nat.lt_of_lt_of_le h1 HJ.out.st.bel.size) h2 (by omega)).trans (HJ.out.st.keep k h1 h2)⟩,.inr ⟨by rw[HP.out,pq6,hp],rfl⟩⟩
   obtain ⟨m0,m1,m2,m3,m4,m5,m6,m7,m8,rfl⟩:∃m0 m1 m2 m3 m4 m5 m6 m7 m8,ns=[m0,m1,m2,m3,m4,m5,m6,m7,m8]:=by
    have hlen:=jPlP hp
    match ns,hlen with
    | [m0,m1,m2,m3,m4,m5,m6,m7,m8],_=>exact ⟨m0,m1,m2,m3,m4,m5,m6,m7,m8,rfl⟩
   replace HP:=hide (show R=pq7 (fun _=>16) ph [a0,a1,a2,a3] wh sp [g0,g1,g2] [m0,m1,m2,m3,m4,m5,m6,m7,m8] l6 by rw[HP.out,pq6,hp])
   have hl6:l6.length≤140737488355328:=by have:=X8f4 (fun _ _ _=>jN2l) hp;omega
   replace HJ:=hide (HJ.out.fill hS hR hH)
   clear hp hS hR hH hz
   replace HJ:=hide (show PJ B b w [(S4,97,sp.flatMap ptL)] l6 [.int .i64 ph,.int .i64 a0,.int .i64 a1,.int .i64 a2,.int .i64 a3,.int .i64 wh,.slice (some ⟨S4,0,none⟩) N4 N4,.int .i64 g0,.int .i64 g1,.int .i64 g2,.int .i64 m0,.int .i64 m1,.int .i64 m2,.int .i64 m3,.int .i64 m4,.int .i64 m5,.int .i64 m6,.int .i64 m7,.int .i64 m8,.slice none 0 0,.int .i64 0] V6 from HJ.out)
   go_wp2_with fail
   refine (zbMh B b 16 l6 V6 hB (Nat.le_trans hBw HJ.out.st.bel.size) HJ.out.rd (by omega)).mono ?_
   rintro e V7 ⟨hS,hc⟩
   rcases hc with ⟨n,l7,hp,rfl,hR⟩|⟨hp,rfl⟩
   rotate_left
   ·exact ⟨rfl,HJ.out.st.trans hS,.inr ⟨by rw[HP.out,pq7,qbhm hp],rfl⟩⟩
   obtain ⟨N7,rfl,hN7,hlp,hlen⟩:=qf3O (p:=pairP) hp
   have HLP:=hide hlp
   have hl7:l7.length≤140737488355328:=by omega
   replace HJ:=hide (HJ.out.num hS hR)
   clear hp hS hR hlp hlen
   obtain ⟨i0,hi,hz0,hz1,hz2⟩:=info_parts Tryz.infoPoint
   obtain ⟨ZA,hZA⟩:∃ZA:Array Value,(List.replicate (2*N7) (Value.int .i64 0)).toArray=ZA:=⟨_,rfl⟩
   have hmk:∀V:World,(Instr.makeSlice 49 (.int .i64 N7) (.int .i64 N7)).run Tryz.prog V=.ok (.slice (some ⟨V.heap.size,0,none⟩) N7 N7) (V.alloc (.cells ZA 66)):=fun V=>by
    have h:=run_make (P:=Tryz.prog) V 49 66 i0 spZ Tryz.underlying49 hi hz0 .i64 .i64 N7 N7 (by omega) (Int.le_refl _) (by rw[hz2];omega) (by omega)
    rw[hz1,Int.toNat_natCast] at h
    rw[←hZA,←XG5t]
    simpa [spZ,Value.cells] using h
   clear hi hz0 hz1 hz2
   have hxs7:∀x∈([(S4,97,sp.flatMap ptL)]:List (Nat×TypeId×List Value)),x.1≠V7.heap.size:=fun x hx=>by have:=(HJ.out.ex x hx).lt;omega
   have ci:V7.cell? ⟨w.heap.size+1,19,none⟩=some (.slice none 0 0):=by rw[Lib.cell_of_heap HJ.out.box];rfl
   have fi:V7.frozen? ⟨w.heap.size+1,19,none⟩=false:=Lib.frozen_of_heap HJ.out.box _
   have hbl:w.heap.size+1<V7.heap.size:=HJ.out.box.lt
   have ci':(V7.alloc (.cells ZA 66)).cell? ⟨w.heap.size+1,19,none⟩=some (.slice none 0 0):=by rw[Lib.cell_of_heap (((qUNz V7 _).block _ HJ.out.box.lt).trans HJ.out.box)];rfl
   have fi':(V7.alloc (.cells ZA 66)).frozen? ⟨w.heap.size+1,19,none⟩=false:=Lib.frozen_of_heap (((qUNz V7 _).block _ HJ.out.box.lt).trans HJ.out.box) _
   replace HJ:=hide ((HJ.out.put 19 (.slice (some ⟨V7.heap.size,0,none⟩) N7 N7) rfl).alloc (List.replicate (2*N7) (Value.int .i64 0)) 66)
   rw[hZA,show (V7.setCell ⟨w.heap.size+1,19,none⟩ (.slice (some ⟨V7.heap.size,0,none⟩) N7 N7)).heap.size=V7.heap.size by simp[World.setCell]] at HJ
   clear hZA
   have hsep7:w.heap.size+1<V7.heap.size:=HJ.out.sep _ List.mem_cons_self
   go_upto_region 14 with fail
   clear ci fi ci' fi' hmk hbl
   generalize V7.heap.size=S7 at *
   generalize (V7.setCell ⟨w.heap.size+1,19,none⟩ (.slice (some ⟨S7,0,none⟩) N7 N7)).alloc (.cells ZA 66)=VA at *
   have cj:VA.cell? ⟨w.heap.size+1,19,none⟩=some (.slice (some ⟨S7,0,none⟩) N7 N7):=by rw[Lib.cell_of_heap HJ.out.box];rfl
   go_wp2_with fail
   clear cj
   replace HJ:=hide (show PJ B b w [(S7,66,[].flatMap ptL++List.replicate (2*(N7-0)) (Value.int .i64 0)),(S4,97,sp.flatMap ptL)] l7 [.int .i64 ph,.int .i64 a0,.int .i64 a1,.int .i64 a2,.int .i64 a3,.int .i64 wh,.slice (some ⟨S4,0,none⟩) N4 N4,.int .i64 g0,.int .i64 g1,.int .i64 g2,.int .i64 m0,.int .i64 m1,.int .i64 m2,.int .i64 m3,.int .i64 m4,.int .i64 m5,.int .i64 m6,.int .i64 m7,.int .i64 m8,.slice (some ⟨S7,0,none⟩) N7 N7,.int .i64 0] VA from HJ.out)
   go_loopw [51] (fun i wr=>∃k:Nat,k≤N7∧i=.int .i64 k∧∃ns u,manyP pairP k l7=some (ns,u)∧PJ B b w [(S7,66,ns.flatMap ptL++List.replicate (2*(N7-k)) (Value.int .i64 0)),(S4,97,sp.flatMap ptL)] u [.int .i64 ph,.int .i64 a0,.int .i64 a1,.int .i64 a2,.int .i64 a3,.int .i64 wh,.slice (some ⟨S4,0,none⟩) N4 N4,.int .i64 g0,.int .i64 g1,.int .i64 g2,.int .i64 m0,.int .i64 m1,.int .i64 m2,.int .i64 m3,.int .i64 m4,.int .i64 m5,.int .i64 m6,.int .i64 m7,.int .i64 m8,.slice (some ⟨S7,0,none⟩) N7 N7,.int .i64 0] wr) (fun i _=>N7-(intOf i).toNat)
   case atStart=>exact ⟨0,Nat.zero_le _,rfl,[],l7,rfl,HJ.out⟩
   case round =>
    clear HJ
    obtain ⟨k,hk,rfl,ns,u,hm,hJ⟩:=hrel
    have HJ:=hide hJ
    clear hJ
    have hnl:=jPlP hm
    have hul:=X8f4 (fun _ _ _=>qgnh) hm
    by_cases hlt:k<N7
    ·have hd:decide ((k:Int)<(N7:Int))=true:=by simp;omega
     have HM:=hide hm
     have HSQ:=hide (fun (v:World) (cs':List UInt8) (hv:PJ B b w [(S7,66,ns.flatMap ptL++List.replicate (2*(N7-k)) (Value.int .i64 0)),(S4,97,sp.flatMap ptL)] cs' [.int .i64 ph,.int .i64 a0,.int .i64 a1,.int .i64 a2,.int .i64 a3,.int .i64 wh,.slice (some ⟨S4,0,none⟩) N4 N4,.int .i64 g0,.int .i64 g1,.int .i64 g2,.int .i64 m0,.int .i64 m1,.int .i64 m2,.int .i64 m3,.int .i64 m4,.int .i64 m5,.int .i64 m6,.int .i64 m7,.int .i64 m8,.slice (some ⟨S7,0,none⟩) N7 N7,.int .i64 0] v)=>show v.cell? ⟨w.heap.size+1,19,none⟩=some (.slice (some ⟨S7,0,none⟩) N7 N7)∧True from ⟨by rw[Lib.cell_of_heap hv.box];rfl,trivial⟩)
     clear hm
     go_upto_region 17 with fail
     have HJd:=hide HJ.out.drew
     have hSd:=HSQ.out _ _ HJd.out
     have hmx:Tryz.prog.follows .mixedOrders=true:=by kernel_rfl
     refine qYgd (S:=(fun v:World=>v.cell? ⟨w.heap.size+1,19,none⟩=some (.slice (some ⟨S7,0,none⟩) N7 N7)∧True)) (f:=9) hmx ?_
     show jZdv _ _ _ _ _ _ 10 _ _ wr.drew
     refine takeQ 0 ?vv8 (some 54) [] ?yy8 hSd ?rr8
     case yy8=>(intro wq hSq;obtain ⟨_,_⟩:=hSq;go_simp<;>with_reducible rfl)
     simp only[Act.put,List.setIfInBounds_toArray,List.set_cons_succ,List.set_cons_zero]
     refine takeQ 2 ?vv9 (some 56) [] ?yy9 hSd ?rr9
     case yy9=>(intro wq hSq;obtain ⟨_,_⟩:=hSq;go_simp<;>with_reducible rfl)
     simp only[Act.put,List.setIfInBounds_toArray,List.set_cons_succ,List.set_cons_zero]
     refine takeQ 3 ?vv10 (some 57) [] ?yy10 hSd ?rr10
     case yy10=>(intro wq hSq;obtain ⟨_,_⟩:=hSq;go_simp<;>with_reducible rfl)
     simp only[Act.put,List.setIfInBounds_toArray,List.set_cons_succ,List.set_cons_zero]
     refine takeQ 5 ?vv11 (some 59) [] ?yy11 hSd ?rr11
     case yy11=>(intro wq hSq;obtain ⟨_,_⟩:=hSq;go_simp<;>with_reducible rfl)
     simp only[Act.put,List.setIfInBounds_toArray,List.set_cons_succ,List.set_cons_zero]
     refine takeQ 1 ?vv12 (some 55) [] ?yy12 hSd ?rr12
     case yy12=>(intro wq hSq;obtain ⟨_,_⟩:=hSq;go_simp<;>with_reducible rfl)
     simp only[Act.put,List.setIfInBounds_toArray,List.set_cons_succ,List.set_cons_zero]
     refine znWj (i:=4) (o:=_) (by kernel_rfl) rfl (fun K' hK=>?_)
     rw[if_pos (by rfl)]
     go_simp
     refine (qI49 B b u wr.drew hB (Nat.le_trans hBw HJd.out.st.bel.size) HJd.out.rd (by omega)).mono ?_
     rintro e X1 ⟨hS,hc⟩
     rcases hc with ⟨x,u1,hp,rfl,hR⟩|⟨hp,rfl⟩
     rotate_left
     ·exact ⟨rfl,HJd.out.st.trans hS,.inr ⟨by rw[HP.out,pq7,HLP.out,XLXy HM.out (by rw[pairP,hp]) hlt],rfl⟩⟩
     have HP1:=hide hp
     have hu1:=jN2l hp
     have HJ1:=hide (HJd.out.num hS hR)
     clear hp hS hR
     have hSd:=HSQ.out _ _ HJ1.out
     refine hK.out _ _ hSd ?_
     clear hK
     try simp only[Act.put]
     refine znWj (i:=6) (o:=_) (by kernel_rfl) rfl (fun K' hK=>?_)
     rw[if_pos (by rfl)]
     go_simp
     refine (qI49 B b u1 X1 hB (Nat.le_trans hBw HJ1.out.st.bel.size) HJ1.out.rd (by omega)).mono ?_
     rintro e X2 ⟨hS,hc⟩
     rcases hc with ⟨y,u2,hp,rfl,hR⟩|⟨hp,rfl⟩
     rotate_left
     ·exact ⟨rfl,HJ1.out.st.trans hS,.inr ⟨by rw[HP.out,pq7,HLP.out,XLXy HM.out (by rw[pairP,HP1.out];simp only[hp]) hlt],rfl⟩⟩
     have HP2:=hide (show pairP u=some ((x,y),u2) by rw[pairP,HP1.out];simp only[hp])
     have HJ2:=hide (HJ1.out.num hS hR)
     clear hp hS hR
     have hcl:(ns.flatMap ptL++List.replicate (2*(N7-k)) (Value.int .i64 0)).length=N7*2:=by rw[List.length_append,jn2Z,List.length_replicate,hnl];omega
     have hH:=HJ2.out.ex (S7,66,ns.flatMap ptL++List.replicate (2*(N7-k)) (Value.int .i64 0)) (by simp)
     have g0:∃z,X2.cell? ⟨S7,k*2,none⟩=some z:=⟨_,by rw[Lib.cell_of_heap hH,List.getElem?_toArray];exact List.getElem?_eq_getElem (by rw[hcl];omega)⟩
     have g1:∃z,X2.cell? ⟨S7,k*2+1,none⟩=some z:=⟨_,by rw[Lib.cell_of_heap hH,List.getElem?_toArray];exact List.getElem?_eq_getElem (by rw[hcl];omega)⟩
     obtain ⟨z0,c0⟩:=g0
     obtain ⟨z1,c1⟩:=g1
     have f0:X2.frozen? ⟨S7,k*2,none⟩=false:=Lib.frozen_of_heap hH _
     have f1:X2.frozen? ⟨S7,k*2+1,none⟩=false:=Lib.frozen_of_heap hH _
     have HJ3:=hide (HJ2.out.two hxs7 (k*2) (.int .i64 x) (.int .i64 y))
     clear hcl hH
     have hSd:=HSQ.out _ _ HJ2.out
     refine hK.out _ _ hSd ?_
     clear hK
     try simp only[Act.put]
     refine takeQ 7 ?vv13 (some 61) [] ?yy13 hSd ?rr13
     case yy13=>(intro wq hSq;obtain ⟨_,_⟩:=hSq;go_simp<;>with_reducible rfl)
     simp only[Act.put,List.setIfInBounds_toArray,List.set_cons_succ,List.set_cons_zero]
     refine takeQ 8 ?vv14 (some 62) [] ?yy14 hSd ?rr14
     case yy14=>(intro wq hSq;obtain ⟨_,_⟩:=hSq;go_simp<;>with_reducible rfl)
     simp only[Act.put,List.setIfInBounds_toArray,List.set_cons_succ,List.set_cons_zero]
     refine z9gO (o:=_) (by kernel_rfl) rfl (fun K' hK=>?_)
     rw[if_pos (by rfl)]
     go_simp
     refine hK.out _ _ ?_
     clear hK
     refine jFdp (by kernel_rfl) ?_ _
     try simp only[Act.put]
     have HJ4:=hide (show PJ B b w [(S7,66,(ns++[(x,y)]).flatMap ptL++List.replicate (2*(N7-(k+1))) (Value.int .i64 0)),(S4,97,sp.flatMap ptL)] u2 [.int .i64 ph,.int .i64 a0,.int .i64 a1,.int .i64 a2,.int .i64 a3,.int .i64 wh,.slice (some ⟨S4,0,none⟩) N4 N4,.int .i64 g0,.int .i64 g1,.int .i64 g2,.int .i64 m0,.int .i64 m1,.int .i64 m2,.int .i64 m3,.int .i64 m4,.int .i64 m5,.int .i64 m6,.int .i64 m7,.int .i64 m8,.slice (some ⟨S7,0,none⟩) N7 N7,.int .i64 0] _ from by
      have h:=HJ3.out
      rw[show N7-k=N7-(k+1)+1 by omega,←hnl,Xe7R,hnl] at h
      exact h)
     have HM2:=hide (jvSA HM.out HP2.out)
     clear HJ3 HJ2 HJ1 HJd HJ hSd c0 c1 f0 f1 HSQ
     go_wp2
     go_roundw
     case rel=>exact ⟨k+1,hlt,by go_num,_,_,HM2.out,HJ4.out⟩
     case measure=>simp[intOf];omega
    ·have hd:decide ((k:Int)<(N7:Int))=false:=by simp;omega
     obtain rfl:N7=k:=by omega
     replace HP:=hide (show R=pq8 (fun am=>⟨ph,ix [a0,a1,a2,a3],wh,sp,ix [g0,g1,g2],ix [m0,m1,m2,m3,m4,m5,m6,m7,m8],ns,am⟩) u by rw[HP.out,pq7,HLP.out,hm])
     replace HJ:=hide (show PJ B b w [(S7,66,ns.flatMap ptL),(S4,97,sp.flatMap ptL)] u [.int .i64 ph,.int .i64 a0,.int .i64 a1,.int .i64 a2,.int .i64 a3,.int .i64 wh,.slice (some ⟨S4,0,none⟩) N4 N4,.int .i64 g0,.int .i64 g1,.int .i64 g2,.int .i64 m0,.int .i64 m1,.int .i64 m2,.int .i64 m3,.int .i64 m4,.int .i64 m5,.int .i64 m6,.int .i64 m7,.int .i64 m8,.slice (some ⟨S7,0,none⟩) N7 N7,.int .i64 0] wr by have h:=HJ.out;rwa [Nat.sub_self,Nat.mul_zero,List.replicate_zero,List.append_nil] at h)
     have hn7:=hnl
     clear hm HLP hnl
     generalize ns=cu at *
     generalize u=l7u at *
     generalize wr=W7 at *
     have hl7u:l7u.length≤140737488355328:=by omega
     clear hul
     go_wp2_with fail
     refine (qI49 B b l7u W7 hB (Nat.le_trans hBw HJ.out.st.bel.size) HJ.out.rd (by omega)).mono ?_
     rintro e V8 ⟨hS,hc⟩
     rcases hc with ⟨am,l8,hp,rfl,hR⟩|⟨hp,rfl⟩
     rotate_left
     ·exact ⟨rfl,HJ.out.st.trans hS,.inr ⟨by rw[HP.out,pq8,hp],rfl⟩⟩
     replace HP:=hide (show R=some (⟨ph,ix [a0,a1,a2,a3],wh,sp,ix [g0,g1,g2],ix [m0,m1,m2,m3,m4,m5,m6,m7,m8],cu,am⟩,l8) by rw[HP.out,pq8,hp])
     replace HJ:=hide (HJ.out.num hS hR)
     have ci:V8.cell? ⟨w.heap.size+1,20,none⟩=some (.int .i64 0):=by rw[Lib.cell_of_heap HJ.out.box];rfl
     have fi:V8.frozen? ⟨w.heap.size+1,20,none⟩=false:=Lib.frozen_of_heap HJ.out.box _
     replace HJ:=hide (HJ.out.put 20 (.int .i64 am) rfl)
     clear hp hS hR
     obtain ⟨PA,hPA⟩:∃PA,PA=planA (⟨ph,ix [a0,a1,a2,a3],wh,sp,ix [g0,g1,g2],ix [m0,m1,m2,m3,m4,m5,m6,m7,m8],cu,am⟩:Plan) (.slice (some ⟨S4,0,none⟩) N4 N4) (.slice (some ⟨S7,0,none⟩) N7 N7):=⟨_,rfl⟩
     have hbx:(V8.setCell ⟨w.heap.size+1,20,none⟩ (.int .i64 am)).heap[w.heap.size+1]?=some (.cells PA 51 (0,0)):=by rw[hPA];exact HJ.out.box
     have hrs:(V8.setCell ⟨w.heap.size+1,20,none⟩ (.int .i64 am)).heap[w.heap.size]?=some (.cells planZ 51 (0,0)):=HJ.out.res
     have i1:(Tryz.prog.info? 51).map (·.size)=some PA.size:=by rw[hPA];kernel_rfl
     have i2:(planZ:Array Value).size=PA.size:=by rw[hPA];rfl
     have i3:PA.all (·.oneCell')=true:=by rw[hPA];simp[Value.oneCell']
     have hx4:=HJ.out.ex (S4,97,sp.flatMap ptL) (by simp)
     have hx7:=HJ.out.ex (S7,66,cu.flatMap ptL) (by simp)
     have hs4:=HJ.out.sep (S4,97,sp.flatMap ptL) (by simp)
     have hs7:=HJ.out.sep (S7,66,cu.flatMap ptL) (by simp)
     simp only at hs4 hs7 hx4 hx7
     have HI4:=hide (jBLQ hx4 (by omega))
     have HI7:=hide (jBLQ hx7 (by omega))
     have HST:=hide HJ.out.st
     have HRD:=hide HJ.out.rd
     clear HJ hx4 hx7
     go_upto_region 20 with fail
     clear ci fi
     generalize V8.setCell ⟨w.heap.size+1,20,none⟩ (.int .i64 am)=VF at *
     have HG:=hide (setRow_heap _ _ _ PA _ _ hrs)
     have HF:=hide (show RSt B b w (VF.setRow w.heap.size PA) from ⟨HST.out.bel.trans (below_setRow (Below.refl _ _) (by omega) PA),fun k h1 h2=>(setRow_other _ _ _ _ (by omega)).trans (HST.out.keep k h1 h2)⟩)
     have HRF:=hide (show IsRd b l8 (VF.setRow w.heap.size PA) from (setRow_other _ _ _ _ (by omega)).trans HRD.out)
     have HPF:=hide (show X1uD (VF.setRow w.heap.size PA) ⟨ph,ix [a0,a1,a2,a3],wh,sp,ix [g0,g1,g2],ix [m0,m1,m2,m3,m4,m5,m6,m7,m8],cu,am⟩ (.slice (some ⟨S4,0,none⟩) N4 N4) (.slice (some ⟨S7,0,none⟩) N7 N7) from ⟨hn4 ▸ HI4.out.other (k:=w.heap.size) (by simp) (fun b hb=>setRow_other _ _ _ _ hb) (by simp[Value.ownBlock];omega),hn7 ▸ HI7.out.other (k:=w.heap.size) (by simp) (fun b hb=>setRow_other _ _ _ _ hb) (by simp[Value.ownBlock];omega)⟩)
     clear HST HRD HI4 HI7
     go_wp2_with (first|refine wpList_load_row rfl 51 _ rfl _ rfl _ _ _ _ hbx Tryz.underlying51 rfl i1 ?_|refine wpList_store_row rfl 51 _ _ rfl w.heap.size PA rfl rfl _ _ hrs i1 i2 i3 ?_)
     refine bodyPost_ret (v:=.agg PA) (results_cell_row Tryz.results165 _ _ _ _ _ _ _ rfl HG.out Tryz.underlying51 rfl i1) rfl ⟨HF.out,.inl ⟨_,_,_,_,HP.out,by rw[hPA],HRF.out,HPF.out,?_,?_⟩⟩
     ·exact ⟨fun b e=>by simp[Value.ownBlock] at e;omega,Nat.le_refl _⟩
     ·exact ⟨fun b e=>by simp[Value.ownBlock] at e;omega,Nat.le_refl _⟩
end Go.Proofs.YtfjeonehdlphiaaGreatDoor
namespace Go.Proofs.YtfjeonehdlphiaaGreatDoor
open Go.RowKit
theorem XXzq {P:Program} (g o:Nat) (t:TypeId):∀(vs:List Value) (i:Nat) (cur:Array Value) (w:World),w.heap[g]?=some (.cells cur t (0,0))→o+i+vs.length=cur.size→(∀v∈vs,v.oneCell'=true) →
  (storeCells ⟨g,o,none⟩ vs i).run P w=.ok () (w.setRow g (cur.toList.take (o+i)++vs).toArray)
 | [],i,cur,w,hg,hl,_=>by
  have h0:cur.toList.take (o+i)=cur.toList:=List.take_of_length_le (by simp at hl ⊢;omega)
  simp only[storeCells,List.append_nil,h0,Array.toArray_toList]
  show Result.ok () w=_
  congr 1
  have hv:w.heap[g]'((Array.getElem?_eq_some_iff.1 hg).1)=.cells cur t (0,0):=(Array.getElem?_eq_some_iff.1 hg).2
  unfold World.setRow
  cases w with
  | mk heap tape drawn os output =>
   congr 1
   apply Array.ext
   ·simp
   ·intro k h1 h2
    simp only[Array.getElem_modify]
    split
    ·rename_i hk;subst hk;simp at hv;simp[hv]
    ·rfl
 | v::rest,i,cur,w,hg,hl,h1=>by
  have hi:o+i<cur.size:=by simp at hl;omega
  have hadd:(⟨g,o,none⟩:Addr).add i=⟨g,o+i,none⟩:=Addr.add_lit ..
  have hcell:w.cell? ⟨g,o+i,none⟩=some cur[o+i]:=by simp[World.cell?,hg,hi]
  have hfro:w.frozen? ⟨g,o+i,none⟩=false:=by simp[World.frozen?,hg]
  have hst:(store ((⟨g,o,none⟩:Addr).add i) v).run P w=.ok () (w.setRow g (cur.setIfInBounds (o+i) v)):=by
   rw[hadd,run_store P w _ v _ (h1 v (by simp)),hcell]
   simp[hfro,setCell_eq_setRow w g (o+i) cur t (0,0) v hg]
  have ih:=XXzq (P:=P) g o t rest (i+1) (cur.setIfInBounds (o+i) v) (w.setRow g (cur.setIfInBounds (o+i) v)) (setRow_heap w g cur _ t _ hg) (by simp at hl ⊢;omega) (fun x hx=>h1 x (by simp[hx]))
  simp only[storeCells,Sem.run_bind,hst,Result.andThen_ok,ih,setRow_setRow]
  congr 3
  rw[Array.toList_setIfInBounds,←Nat.add_assoc,List.take_set,List.take_succ_eq_append_getElem (by simpa using hi)]
  rw[List.set_append_right _ _ (by rw[List.length_take];exact Nat.min_le_left _ _)]
  simp[Nat.min_eq_left (Nat.le_of_lt hi)]
theorem zPEB {P:Program} {ops:Array Oper} {rest:List Oper} {o:Oper} {a:Act} {w:World} {Q:Exit→Act→World→Prop} (hgd:o.guard=none) (ty:TypeId) (x y:Operand) (ho:o.op=.store ty x y)
  (g of:Nat) (cells:Array Value) (hx:a.eval x=.pointer (some ⟨g,of,none⟩)) (hy:a.eval y=.agg cells) (t:TypeId) (old:Array Value) (hg:w.heap[g]?=some (.cells old t (0,0))) (hi:(P.info? ty).map (·.size)=some cells.size)
  (hold:of+cells.size=old.size) (h1:cells.all (·.oneCell')=true)
  (h:wpList P ops Q rest (a.put o.dst undef) (w.setRow g (old.toList.take of++cells.toList).toArray)):wpList P ops Q (o::rest) a w :=
 wpList_plain hgd fun _ hK=>by
  have hr:=XXzq (P:=P) g of t cells.toList 0 old w hg (by simp;omega) (fun v hv=>(Array.all_eq_true_iff_forall_mem.1 h1) v (by simpa using hv))
  have hs:(storeVar ty ⟨g,of,none⟩ (.agg cells)).run P w=.ok () (w.setRow g (old.toList.take of++cells.toList).toArray):=by
   cases hq:P.info? ty with
   | none=>simp[hq] at hi
   | some i =>
    have hs:cells.size=i.size:=by simp[hq] at hi;omega
    simpa [storeVar,sizeOf,typeInfo,hq,Value.cells,hs] using hr
  unfold Oper.wp execOp
  simp only[ho,hx,hy,Instr.storeAt,Instr.sureAddr,Sem.run_bind,Sem.run_pure,Result.andThen_ok,hs]
  exact hK _ _ h
abbrev rawZ:Array Value:=#[.int .i64 0,.int .i64 0,.int .i64 0,.int .i64 0,.int .i64 0,.slice none 0 0,.slice none 0 0,
 .int .i64 0,.int .i64 0,.int .i64 0,.int .i64 0,.int .i64 0,.int .i64 0,.slice none 0 0,.int .i64 0,.int .i64 0,.int .i64 0,.int .i64 0,.int .i64 0,.int .i64 0,.int .i64 0,.int .i64 0,.int .i64 0,.int .i64 0,.int .i64 0,.int .i64 0,.slice none 0 0,.int .i64 0]
theorem XXfm (R K:Nat) (old:Array Value) (c:Value) (w:World) (hR:w.heap[R]?=some (.cells old 57 (0,0))) (ho:old.size=28) (hK:w.heap[K]?=some (.cells #[c] 4 (0,0))) (hne:R≠K) :
  CallsD Tryz.prog 158 #[.pointer (some ⟨R,0,none⟩),.pointer (some ⟨K,0,none⟩)] (.panicking [{ v:=panV,recovered:=false }]) w fun e u' w' =>
   e=.returned (.tuple #[])∧u'=.panicking [{ v:=panV,recovered:=true }]∧w'=(w.setRow R rawZ).setCell ⟨K,0,none⟩ (.bool false):=by
 refine callsD_of_wpS Tryz.func158 rfl fun c₀ cs hu=>?_
 apply wpS_seq
 apply wpS_region
 simp[wpOpsS,go_sem,recoverD,hu,Tryz.ntmps158,Exit.thenS]
 refine wpS_cond (t:=true) (by simp[Act.eval,Array.replicate]) ?_
 simp only[if_true]
 rw[show (#[Value.pointer (some ⟨R,0,none⟩),.pointer (some ⟨K,0,none⟩)]++((Array.replicate 3 undef).setIfInBounds 0 panV).setIfInBounds 1 (.bool true))=#[.pointer (some ⟨R,0,none⟩),.pointer (some ⟨K,0,none⟩),panV,.bool true,undef] from rfl]
 refine wpS_of_wp ?_
 have hK2:(w.setRow R rawZ).heap[K]?=some (.cells #[c] 4 (0,0)):=(setRow_other _ _ _ _ (fun e=>hne e.symm)).trans hK
 have c1:(w.setRow R rawZ).cell? ⟨K,0,none⟩=some c:=by rw[Lib.cell_of_heap hK2];rfl
 have f1:(w.setRow R rawZ).frozen? ⟨K,0,none⟩=false:=Lib.frozen_of_heap hK2 0
 have i1:(Tryz.prog.info? 57).map (·.size)=some (rawZ:Array Value).size:=by kernel_rfl
 have i2:old.size=(rawZ:Array Value).size:=by rw[ho];rfl
 have i3:(rawZ:Array Value).all (·.oneCell')=true:=by simp[Value.oneCell']
 go_wp2_with (refine wpList_store_row rfl 57 _ _ rfl R rawZ rfl rfl _ old hR i1 i2 i3 ?_)
 cases c₀
 simp_all[bodyPostS,results,Tryz.results158]
theorem qBaz (R K:Nat) (w:World) :
  CallsD Tryz.prog 158 #[.pointer (some ⟨R,0,none⟩),.pointer (some ⟨K,0,none⟩)] .returning w fun e u' w'=>e=.returned (.tuple #[])∧u'=.returning∧w'=w:=by
 refine callsD_of_wpS Tryz.func158 rfl fun c₀ cs hu=>?_
 apply wpS_seq
 apply wpS_region
 simp[wpOpsS,go_sem,recoverD,hu,Tryz.ntmps158,Exit.thenS]
 refine wpS_cond (t:=false) (by simp[Act.eval,Array.replicate]) ?_
 simp only[Bool.false_eq_true,if_false]
 refine wpS_of_wp (wp_skip ?_)
 cases c₀
 simp_all[bodyPostS,results,Tryz.results158]
theorem zTKU (W:World) (K:Nat) (c:Bool) (h:W.cell? ⟨K,0,none⟩=some (.bool c)):(loadVar 4 ⟨K,0,none⟩).run Tryz.prog W=.ok (.bool c) W:=by
 have ha:=Tryz.isAgg4 W
 simp[loadVar,Sem.run_bind,ha,go_sem,h]
theorem XFHW (tmps:Array Value) (R K:Nat) (cs:Array Value) (c:Bool) (W:World) (h2:tmps.getD 2 undef=.pointer (some ⟨R,0,none⟩)) (h3:tmps.getD 3 undef=.pointer (some ⟨K,0,none⟩))
  (hR:W.heap[R]?=some (.cells cs 57 (0,0))) (hs:(Tryz.prog.info? 57).map (·.size)=some cs.size) (hK:W.heap[K]?=some (.cells #[.bool c] 4 (0,0))) :
  (results Tryz.f107 tmps).run Tryz.prog W=.ok (.tuple #[.agg cs,.bool c]) W:=by
 have hl:=run_loadVar_row (P:=Tryz.prog) W R 57 57 cs (0,0) _ hR Tryz.underlying57 rfl hs
 have hk:=zTKU W K c (by rw[Lib.cell_of_heap hK];rfl)
 have h2':tmps[2]?.getD undef=.pointer (some ⟨R,0,none⟩):=by simpa using h2
 have h3':tmps[3]?.getD undef=.pointer (some ⟨K,0,none⟩):=by simpa using h3
 simp[results,Tryz.results107,h2',h3',asAddr,hl,hk]
theorem XQWw {w V:World} {cs:List Value} {Post:Ending→World→Prop} {tmps:Array Value} (hb:Below w.heap.size w V) (hR:Holds w.heap.size 57 cs V) (hn:cs.length=28) (hK:Holds (w.heap.size+1) 4 [.bool false] V)
  (h2:tmps.getD 2 undef=.pointer (some ⟨w.heap.size,0,none⟩)) (h3:tmps.getD 3 undef=.pointer (some ⟨w.heap.size+1,0,none⟩))
  (hP:∀W,Below w.heap.size w W→Post (.returned (.tuple #[.agg rawZ,.bool false])) W) :
  bodyPostD Tryz.prog Tryz.f107 Post (Exit.panic [{ v:=panV,recovered:=false }]) { tmps:=tmps,defers:=[{ target:=Target.fn (Fn.func 158) #[.pointer (some ⟨w.heap.size,0,none⟩),.pointer (some ⟨w.heap.size+1,0,none⟩)],args:=#[] }] } V:=by
 refine leaves_cons (f:=158) (args:=#[.pointer (some ⟨w.heap.size,0,none⟩),.pointer (some ⟨w.heap.size+1,0,none⟩)]) (by simp) (by simp[go_sem]) ?_
 refine (XXfm w.heap.size (w.heap.size+1) cs.toArray (.bool false) V hR (by simpa using hn) hK (by omega)).mono ?_
 rintro e u' w'' ⟨rfl,rfl,rfl⟩
 have g1:((V.setRow w.heap.size rawZ).setCell ⟨w.heap.size+1,0,none⟩ (.bool false)).heap[w.heap.size]?=some (.cells rawZ 57 (0,0)):=(Below.heap_setCell _ _ _ _ (show w.heap.size≠w.heap.size+1 by omega)).trans (setRow_heap _ _ _ _ _ _ hR)
 have k0:(V.setRow w.heap.size rawZ).heap[w.heap.size+1]?=some (.cells #[.bool false] 4 (0,0)):=(setRow_other _ _ _ _ (by omega)).trans hK
 have g2:((V.setRow w.heap.size rawZ).setCell ⟨w.heap.size+1,0,none⟩ (.bool false)).heap[w.heap.size+1]?=some (.cells #[.bool false] 4 (0,0)):=by
  simp[World.setCell,Array.getElem?_modify,k0]
 have hr:=XFHW tmps w.heap.size (w.heap.size+1) rawZ false _ h2 h3 g1 (by kernel_rfl) g2
 have hbb:Below w.heap.size w ((V.setRow w.heap.size rawZ).setCell ⟨w.heap.size+1,0,none⟩ (.bool false)):=(below_setRow hb (Nat.le_refl _) _).setCell (p:=⟨w.heap.size+1,0,none⟩) (Nat.le_succ _) _
 exact ⟨_,hr,hP _ hbb⟩
theorem X8n7 {R K:Nat} {V:World} {cs:Array Value} {Post:Ending→World→Prop} {tmps:Array Value} (hR:V.heap[R]?=some (.cells cs 57 (0,0))) (hs:(Tryz.prog.info? 57).map (·.size)=some cs.size) (hK:V.heap[K]?=some (.cells #[.bool true] 4 (0,0)))
  (h2:tmps.getD 2 undef=.pointer (some ⟨R,0,none⟩)) (h3:tmps.getD 3 undef=.pointer (some ⟨K,0,none⟩)) (hP:Post (.returned (.tuple #[.agg cs,.bool true])) V) :
  bodyPostD Tryz.prog Tryz.f107 Post Exit.ret { tmps:=tmps,defers:=[{ target:=Target.fn (Fn.func 158) #[.pointer (some ⟨R,0,none⟩),.pointer (some ⟨K,0,none⟩)],args:=#[] }] } V:=by
 refine leaves_cons (f:=158) (args:=#[.pointer (some ⟨R,0,none⟩),.pointer (some ⟨K,0,none⟩)]) (by simp) (by simp[go_sem]) ?_
 refine (qBaz R K V).mono ?_
 rintro e u' w'' ⟨rfl,rfl,rfl⟩
 exact ⟨_,XFHW tmps R K cs true w'' h2 h3 hR hs hK,hP⟩
theorem qB0W {P:Program} {fn:Func} {t1 t2:Array Value} {R:Ending→World→Prop} (h:∀w,(results fn t1).run P w=(results fn t2).run P w) (ds:List Deferred):∀(u:FrameMode) (w:World),Leaves P fn t1 R ds u w→Leaves P fn t2 R ds u w:=by
 induction ds with
 | nil =>
  intro u w hl
  cases u with
  | returning=>obtain ⟨v,hv,hr⟩:=hl;exact ⟨v,(h w).symm.trans hv,hr⟩
  | panicking chain=>exact hl
  | run=>exact hl
 | cons d ds ih =>
  intro u w hl
  obtain ⟨hu,fv,cap,f,args,ht,hi,hc⟩:=hl
  refine ⟨hu,fv,cap,f,args,ht,hi,hc.mono ?_⟩
  intro e u' w' he
  cases e with
  | returned v=>exact ih _ _ he
  | panicked chain=>exact ih _ _ he
  | outgrown=>exact he
theorem jjeL {Post:Ending→World→Prop} {a:Act} {c:List PanicEntry} {w:World} {d:Nat} {v:Value} (hd:3<d) (h:bodyPostD Tryz.prog Tryz.f107 Post (Exit.panic c) (a.put (some d) v) w):bodyPostD Tryz.prog Tryz.f107 Post (Exit.panic c) a w:=by
 refine qB0W (fun w=>?_) _ _ _ h
 have e2:(a.tmps.setIfInBounds d v)[2]?=a.tmps[2]?:=Array.getElem?_setIfInBounds_ne (by omega)
 have e3:(a.tmps.setIfInBounds d v)[3]?=a.tmps[3]?:=Array.getElem?_setIfInBounds_ne (by omega)
 simp[results,Tryz.results107,Act.put,e2,e3]
end Go.Proofs.YtfjeonehdlphiaaGreatDoor
