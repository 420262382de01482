/- Re: part 37 of what the proofs need. -/
import Derived.Test.YtfjeonehdlphiaaGreatDoorC3Re
import Derived.Test.YtfjeonehdlphiaaGreatDoorC6Re
import Derived.Test.YtfjeonehdlphiaaGreatDoorC27Re
import Derived.Test.YtfjeonehdlphiaaGreatDoorC35Re
import Derived.Test.YtfjeonehdlphiaaGreatDoorC36Re
open Array renaming getElem?_eq_some_iff → ka
set_option linter.unusedVariables false
namespace Go.Proofs.YtfjeonehdlphiaaGreatDoor
set_option linter.unusedSimpArgs false
open Go.RowKit
def ix (l:List Int) (k:Nat):Int:=l.getD k 0
def pq8 (mk:Int→Plan) (l:List UInt8):Option (Plan×List UInt8):=match numP l with
 | none=>none
 | some (am,u)=>some (mk am,u)
def pq7 (b4:List UInt8→Nat) (ph:Int) (bl:List Int) (wh:Int) (sp:List Pt) (ga ma:List Int) (l:List UInt8):Option (Plan×List UInt8):=match listP pairP b4 l with
 | none=>none
 | some (cu,u)=>pq8 (fun am=>⟨ph,ix bl,wh,sp,ix ga,ix ma,cu,am⟩) u
def pq6 (b4:List UInt8→Nat) (ph:Int) (bl:List Int) (wh:Int) (sp:List Pt) (ga:List Int) (l:List UInt8):Option (Plan×List UInt8):=match manyP numP 9 l with
 | none=>none
 | some (ma,u)=>pq7 b4 ph bl wh sp ga ma u
def pq5 (b4:List UInt8→Nat) (ph:Int) (bl:List Int) (wh:Int) (sp:List Pt) (l:List UInt8):Option (Plan×List UInt8):=match manyP numP 3 l with
 | none=>none
 | some (ga,u)=>pq6 b4 ph bl wh sp ga u
def pq4 (b3 b4:List UInt8→Nat) (ph:Int) (bl:List Int) (wh:Int) (l:List UInt8):Option (Plan×List UInt8):=match listP pairP b3 l with
 | none=>none
 | some (sp,u)=>pq5 b4 ph bl wh sp u
def pq3 (b3 b4:List UInt8→Nat) (ph:Int) (bl:List Int) (l:List UInt8):Option (Plan×List UInt8):=match numP l with
 | none=>none
 | some (wh,u)=>pq4 b3 b4 ph bl wh u
def pq2 (b3 b4:List UInt8→Nat) (ph:Int) (l:List UInt8):Option (Plan×List UInt8):=match manyP numP 4 l with
 | none=>none
 | some (bl,u)=>pq3 b3 b4 ph bl u
def planP (b3 b4:List UInt8→Nat) (l:List UInt8):Option (Plan×List UInt8):=match numP l with
 | none=>none
 | some (ph,u)=>pq2 b3 b4 ph u
structure PJ (B b:Nat) (w:World) (X:List (Nat×TypeId×List Value)) (l:List UInt8) (cs:List Value) (V:World):Prop where
 bw:b<w.heap.size
 Bw:B≤b
 sep:∀x∈X,w.heap.size+1<x.1
 st:RSt B b w V
 rd:IsRd b l V
 res:Holds w.heap.size 51 planZ.toList V
 box:Holds (w.heap.size+1) 51 cs V
 ex:∀x∈X,Holds x.1 x.2.1 x.2.2 V
theorem Holds.lt {g:Nat} {t:TypeId} {cs:List Value} {V:World} (h:Holds g t cs V):g<V.heap.size:=(ka.1 h).1
theorem PJ.fill {B b:Nat} {w:World} {X:List (Nat×TypeId×List Value)} {l t:List UInt8} {cs cs':List Value} {V V':World} (h:PJ B b w X l cs V) (hs:RSt2 B b (w.heap.size+1) V V') (hr:IsRd b t V') (hh:Holds (w.heap.size+1) 51 cs' V'):PJ B b w X t cs' V' where
 bw:=h.bw
 Bw:=h.Bw
 sep:=h.sep
 st:=⟨h.st.bel.trans hs.bel,fun k h1 h2=>(hs.keep k (Nat.lt_of_lt_of_le h1 h.st.bel.size) h2 (by omega)).trans (h.st.keep k h1 h2)⟩
 rd:=hr
 res:=(hs.keep _ h.res.lt (by have:=h.bw;omega) (by omega)).trans h.res
 box:=hh
 ex:=fun x hx=>(hs.keep _ (h.ex x hx).lt (by have:=h.bw;have:=h.sep x hx;omega) (by have:=h.sep x hx;omega)).trans (h.ex x hx)
theorem PJ.put {B b:Nat} {w:World} {X:List (Nat×TypeId×List Value)} {l:List UInt8} {cs:List Value} {V:World} (h:PJ B b w X l cs V) (i:Nat) (v:Value) (h1:v.oneCell'=true):PJ B b w X l (cs.set i v) (V.setCell ⟨w.heap.size+1,i,none⟩ v):=by
 obtain ⟨hh,hs⟩:=h.box.set (B:=B) (b:=b) (by have:=h.bw;have:=h.Bw;omega) i v h1
 exact h.fill hs ((Below.heap_setCell _ _ _ _ (by have:=h.bw;show b≠w.heap.size+1;omega)).trans h.rd) hh
theorem PJ.alloc {B b:Nat} {w:World} {X:List (Nat×TypeId×List Value)} {l:List UInt8} {cs:List Value} {V:World} (h:PJ B b w X l cs V) (ds:List Value) (t:TypeId):PJ B b w ((V.heap.size,t,ds)::X) l cs (V.alloc (.cells ds.toArray t)) where
 bw:=h.bw
 Bw:=h.Bw
 sep:=fun x hx=>by
  rcases List.mem_cons.1 hx with rfl|hx
  ·exact h.box.lt
  ·exact h.sep x hx
 st:=h.st.trans (RSt.alloc (by have:=h.st.bel.size;have:=h.bw;have:=h.Bw;omega) _)
 rd:=qgz9 h.rd _
 res:=((qUNz V _).block _ h.res.lt).trans h.res
 box:=((qUNz V _).block _ h.box.lt).trans h.box
 ex:=fun x hx=>by
  rcases List.mem_cons.1 hx with rfl|hx
  ·exact al1 V _
  ·exact ((qUNz V _).block _ (h.ex x hx).lt).trans (h.ex x hx)
theorem PJ.drew {B b:Nat} {w:World} {X:List (Nat×TypeId×List Value)} {l:List UInt8} {cs:List Value} {V:World} (h:PJ B b w X l cs V):PJ B b w X l cs V.drew :=
 ⟨h.bw,h.Bw,h.sep,h.st.trans RSt.drew,h.rd,h.res,h.box,h.ex⟩
theorem PJ.two {B b:Nat} {w:World} {X:List (Nat×TypeId×List Value)} {g:Nat} {t:TypeId} {ds:List Value} {l:List UInt8} {cs:List Value} {V:World} (h:PJ B b w ((g,t,ds)::X) l cs V) (hX:∀x∈X,x.1≠g) (i:Nat) (v u:Value) :
  PJ B b w ((g,t,(ds.set i v).set (i+1) u)::X) l cs ((V.setCell ⟨g,i,none⟩ v).setCell ⟨g,i+1,none⟩ u):=by
 have hg:=h.sep (g,t,ds) (by simp)
 have hb:=h.bw
 have hk:∀k,k≠g→((V.setCell ⟨g,i,none⟩ v).setCell ⟨g,i+1,none⟩ u).heap[k]?=V.heap[k]?:=fun k hk=>(Below.heap_setCell _ _ _ _ (fun e=>hk e)).trans (Below.heap_setCell _ _ _ _ (fun e=>hk e))
 have hB:B≤g:=by have:=h.Bw;simp only at hg;omega
 refine ⟨h.bw,h.Bw,?_,?_,(hk b (by simp only at hg;omega)).trans h.rd,(hk _ (by simp only at hg;omega)).trans h.res,(hk _ (by simp only at hg;omega)).trans h.box,?_⟩
 ·intro x hx
  rcases List.mem_cons.1 hx with rfl|hx
  ·exact hg
  ·exact h.sep x (by simp[hx])
 ·refine ⟨(h.st.bel.setCell (p:=⟨g,i,none⟩) hB v).setCell (p:=⟨g,i+1,none⟩) hB u,fun k h1 h2=>(hk k (by simp only at hg;omega)).trans (h.st.keep k h1 h2)⟩
 ·intro x hx
  rcases List.mem_cons.1 hx with rfl|hx
  ·have h0:=h.ex (g,t,ds) (by simp)
   unfold Holds at h0 ⊢
   simp[World.setCell,Array.getElem?_modify,h0]
  ·exact (hk _ (hX x hx)).trans (h.ex x (by simp[hx]))
end Go.Proofs.YtfjeonehdlphiaaGreatDoor
namespace Go.Proofs.YtfjeonehdlphiaaGreatDoor
open Go.RowKit
theorem run_storeCells_at {P:Program} (g o:Nat) (t:TypeId):∀(vs:List Value) (i:Nat) (cur:Array Value) (w:World),w.heap[g]?=some (.cells cur t (0,0))→o+i+vs.length=cur.size→(∀v∈vs,v.oneCell'=true) →
  (storeCells ⟨g,o,none⟩ vs i).run P w=.ok () (w.setRow g (cur.toList.take (o+i)++vs).toArray)
 | [],i,cur,w,hg,hl,_=>by
  have h0:cur.toList.take (o+i)=cur.toList:=List.take_of_length_le (by simp at hl ⊢;omega)
  simp only[storeCells,List.append_nil,h0,Array.toArray_toList]
  show Result.ok () w=_
  congr 1
  have hv:w.heap[g]'((ka.1 hg).1)=.cells cur t (0,0):=(ka.1 hg).2
  unfold World.setRow
  cases w with
  | mk heap tape drawn os output =>
   congr 1
   apply Array.ext
   ·simp
   ·intro k h1 h2
    simp only[Array.getElem_modify]
    split
    ·rename_i hk;subst hk;simp at hv;simp[hv]
    ·rfl
 | v::rest,i,cur,w,hg,hl,h1=>by
  have hi:o+i<cur.size:=by simp at hl;omega
  have hadd:(⟨g,o,none⟩:Addr).add i=⟨g,o+i,none⟩:=Addr.add_lit ..
  have hcell:w.cell? ⟨g,o+i,none⟩=some cur[o+i]:=by simp[World.cell?,hg,hi]
  have hfro:w.frozen? ⟨g,o+i,none⟩=false:=by simp[World.frozen?,hg]
  have hst:(store ((⟨g,o,none⟩:Addr).add i) v).run P w=.ok () (w.setRow g (cur.setIfInBounds (o+i) v)):=by
   rw[hadd,run_store P w _ v _ (h1 v (by simp)),hcell]
   simp[hfro,setCell_eq_setRow w g (o+i) cur t (0,0) v hg]
  have ih:=run_storeCells_at (P:=P) g o t rest (i+1) (cur.setIfInBounds (o+i) v) (w.setRow g (cur.setIfInBounds (o+i) v)) (setRow_heap w g cur _ t _ hg) (by simp at hl ⊢;omega) (fun x hx=>h1 x (by simp[hx]))
  simp only[storeCells,Sem.run_bind,hst,Result.andThen_ok,ih,setRow_setRow]
  congr 3
  rw[Array.toList_setIfInBounds,←Nat.add_assoc,List.take_set,List.take_succ_eq_append_getElem (by simpa using hi)]
  rw[List.set_append_right _ _ (by rw[List.length_take];exact Nat.min_le_left _ _)]
  simp[Nat.min_eq_left (Nat.le_of_lt hi)]
abbrev rawZ:Array Value:=#[.int .i64 0,.int .i64 0,.int .i64 0,.int .i64 0,.int .i64 0,.slice none 0 0,.slice none 0 0,
 .int .i64 0,.int .i64 0,.int .i64 0,.int .i64 0,.int .i64 0,.int .i64 0,.slice none 0 0,.int .i64 0,.int .i64 0,.int .i64 0,.int .i64 0,.int .i64 0,.int .i64 0,.int .i64 0,.int .i64 0,.int .i64 0,.int .i64 0,.int .i64 0,.int .i64 0,.slice none 0 0,.int .i64 0]
end Go.Proofs.YtfjeonehdlphiaaGreatDoor
