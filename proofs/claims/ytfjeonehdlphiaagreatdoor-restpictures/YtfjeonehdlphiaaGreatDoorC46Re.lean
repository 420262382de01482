/- Re: part 46 of what the proofs need. -/
import Derived.Test.YtfjeonehdlphiaaGreatDoorC8Re
import Derived.Test.YtfjeonehdlphiaaGreatDoorC18Re
import Derived.Test.YtfjeonehdlphiaaGreatDoorC26Re
open List renaming getElem?_eq_getElem → ka
set_option linter.unusedVariables false
set_option maxHeartbeats 1600000
namespace Go.Proofs.YtfjeonehdlphiaaGreatDoor
open Go.RowKit Go.ChangeShapes
theorem qRxC {P:Program} {H:Type} {enc:TypeId×Value→H} {W:World} {base:Nat} {spare:Nat→Bool} {held:Bool} {fuel:Nat} {t e:TypeId} {n:Nat} {cs:List Value} {x:DataW H×List MemPlace}
  (ht:P.underlying t=some (.array n e)) (he:P.underlying e=some (.int .i64)) (ce:P.cellsOf e=1) (hf:DataW.trod enc P W base spare held fuel t cs=some x) (i:Nat) (hi:i<n):∃z:Int,cs[i]?=some (.int .i64 z)∧(Lit.int .i64 z).wf=true:=by
 obtain ⟨xs,m,_,_,_,hl,hel⟩:=DataW.trod_array ht hf
 have hE:=hel i hi
 rw[ce,Nat.mul_one,ka (by omega)] at hE
 obtain ⟨z,e1,_,wf⟩:=DataW.trod_int he hE
 refine ⟨z,?_,wf⟩
 have h0:((cs.drop i).take 1)[0]?=some (.int .i64 z):=by rw[e1];rfl
 simpa using h0
theorem j0LO {cs:List Value} {a n i:Nat} {v:Value} (hi:i<n) (h:((cs.drop a).take n)[i]?=some v):cs[a+i]?=some v:=by
 rw[List.getElem?_take_of_lt hi,List.getElem?_drop] at h
 exact h
theorem jFrx {cs:List Value} {a:Nat} {v:Value} (h:(cs.drop a).take 1=[v]):cs[a]?=some v:=by
 have h0:((cs.drop a).take 1)[0]?=some v:=by rw[h];rfl
 simpa using h0
theorem j8Nd {P:Program} {H:Type} {enc:TypeId×Value→H} {W:World} {base:Nat} {spare:Nat→Bool} {held:Bool} {fuel:Nat} {t e:TypeId} {f0 f1:Field} {cs:List Value} {x:DataW H×List MemPlace}
  (ht:P.underlying t=some (.slice e)) (he:P.underlying e=some (.struct #[f0,f1])) (h0:P.underlying f0.type=some (.int .i64)) (h1:P.underlying f1.type=some (.int .i64)) (o0:f0.offset=0) (o1:f1.offset=1)
  (ce:P.cellsOf e=2) (c0:P.cellsOf f0.type=1) (c1:P.cellsOf f1.type=1) (h:DataW.trod enc P W base spare held fuel t cs=some x):∃v ls,cs=[v]∧IsPts W v ls∧roomy v∧∀j,j<ls.length→ptWf (ptAt ls j):=by
 have hone:∃v,cs=[v]∧roomy v:=by
  rcases DataW.trod_slice ht h with ⟨hcs,_⟩|⟨a,len,cap,elems,rest,n,_,hcs,_,_,hl,_,_,_,_,_⟩
  ·exact ⟨_,hcs,Nat.le_refl _⟩
  ·exact ⟨_,hcs,hl⟩
 obtain ⟨v,rfl,hr⟩:=hone
 obtain ⟨ls,h2,h3⟩:=qKFs ht he h0 h1 o0 o1 ce c0 c1 h
 exact ⟨v,ls,rfl,h2,hr,h3⟩
theorem z9Sq {P:Program} {H:Type} {enc:TypeId×Value→H} {W:World} {base:Nat} {spare:Nat→Bool} {held:Bool} {fuel:Nat} {t ti t4 t3 t9 ts tc es ec:TypeId} {g0 g1 g2 g3 g4 g5 g6 g7 s0 s1 q0 q1:Field} {cs:List Value} {x:DataW H×List MemPlace}
  (ht:P.underlying t=some (.struct #[g0,g1,g2,g3,g4,g5,g6,g7])) (hi:P.underlying ti=some (.int .i64)) (ci:P.cellsOf ti=1)
  (y0:g0.type=ti) (y1:g1.type=t4) (y2:g2.type=ti) (y3:g3.type=ts) (y4:g4.type=t3) (y5:g5.type=t9) (y6:g6.type=tc) (y7:g7.type=ti)
  (o0:g0.offset=0) (o1:g1.offset=1) (o2:g2.offset=5) (o3:g3.offset=6) (o4:g4.offset=7) (o5:g5.offset=10) (o6:g6.offset=19) (o7:g7.offset=20)
  (h4:P.underlying t4=some (.array 4 ti)) (c4:P.cellsOf t4=4) (h3:P.underlying t3=some (.array 3 ti)) (c3:P.cellsOf t3=3) (h9:P.underlying t9=some (.array 9 ti)) (c9:P.cellsOf t9=9)
  (hs:P.underlying ts=some (.slice es)) (cs1:P.cellsOf ts=1) (hes:P.underlying es=some (.struct #[s0,s1])) (ces:P.cellsOf es=2) (sy0:s0.type=ti) (sy1:s1.type=ti) (so0:s0.offset=0) (so1:s1.offset=1)
  (hc:P.underlying tc=some (.slice ec)) (cc1:P.cellsOf tc=1) (hec:P.underlying ec=some (.struct #[q0,q1])) (cec:P.cellsOf ec=2) (qy0:q0.type=ti) (qy1:q1.type=ti) (qo0:q0.offset=0) (qo1:q1.offset=1)
  (ct:P.cellsOf t=21) (h:DataW.trod enc P W base spare held fuel t cs=some x) :
  ∃n sv cv,cs=(planA n sv cv).toList∧X1uD W n sv cv∧(roomy sv∧roomy cv)∧(∀j,j<n.spots.length→ptWf (ptAt n.spots j))∧(∀j,j<n.curve.length→ptWf (ptAt n.curve j)):=by
 obtain ⟨xs,m,_,_,hl,hxl,hx⟩:=DataW.trod_struct ht h
 rw[ct] at hl
 have e0:=hx 0 g0 rfl
 have e1:=hx 1 g1 rfl
 have e2:=hx 2 g2 rfl
 have e3:=hx 3 g3 rfl
 have e4:=hx 4 g4 rfl
 have e5:=hx 5 g5 rfl
 have e6:=hx 6 g6 rfl
 have e7:=hx 7 g7 rfl
 have hxl':xs.length=8:=by rw[hxl];rfl
 rw[o0,y0,ci,ka (by omega)] at e0
 rw[o1,y1,c4,ka (by omega)] at e1
 rw[o2,y2,ci,ka (by omega)] at e2
 rw[o3,y3,cs1,ka (by omega)] at e3
 rw[o4,y4,c3,ka (by omega)] at e4
 rw[o5,y5,c9,ka (by omega)] at e5
 rw[o6,y6,cc1,ka (by omega)] at e6
 rw[o7,y7,ci,ka (by omega)] at e7
 obtain ⟨ph,p0,_,_⟩:=DataW.trod_int hi e0
 obtain ⟨wh,p2,_,_⟩:=DataW.trod_int hi e2
 obtain ⟨am,p7,_,_⟩:=DataW.trod_int hi e7
 obtain ⟨sv,ls,p3,i3,r3,w3⟩:=j8Nd hs hes (by rw[sy0];exact hi) (by rw[sy1];exact hi) so0 so1 ces (by rw[sy0];exact ci) (by rw[sy1];exact ci) e3
 obtain ⟨cv,lc,p6,i6,r6,w6⟩:=j8Nd hc hec (by rw[qy0];exact hi) (by rw[qy1];exact hi) qo0 qo1 cec (by rw[qy0];exact ci) (by rw[qy1];exact ci) e6
 obtain ⟨lb,lbl,hb⟩:=jWjT _ 4 (qRxC h4 hi ci e1) 0
 obtain ⟨lg,lgl,hg⟩:=jWjT _ 3 (qRxC h3 hi ci e4) 0
 obtain ⟨lm,lml,hm⟩:=jWjT _ 9 (qRxC h9 hi ci e5) 0
 refine ⟨⟨ph,fun k=>lb.getD k 0,wh,ls,fun k=>lg.getD k 0,fun k=>lm.getD k 0,lc,am⟩,sv,cv,?_,⟨i3,i6⟩,⟨r3,r6⟩,w3,w6⟩
 have q0:=jFrx p0
 have q5:=jFrx p2
 have q6:=jFrx p3
 have q19:=jFrx p6
 have q20:=jFrx p7
 have b:=fun i hi=>j0LO hi (hb i hi).1
 have g:=fun i hi=>j0LO hi (hg i hi).1
 have mm:=fun i hi=>j0LO hi (hm i hi).1
 refine List.ext_getElem? fun i=>?_
 by_cases hlt:i<21
 ·have h21:i=0∨i=1∨i=2∨i=3∨i=4∨i=5∨i=6∨i=7∨i=8∨i=9∨i=10∨i=11∨i=12∨i=13∨i=14∨i=15∨i=16∨i=17∨i=18∨i=19∨i=20:=by omega
  rcases h21 with rfl|rfl|rfl|rfl|rfl|rfl|rfl|rfl|rfl|rfl|rfl|rfl|rfl|rfl|rfl|rfl|rfl|rfl|rfl|rfl|rfl
  ·exact q0
  ·exact b 0 (by omega)
  ·exact b 1 (by omega)
  ·exact b 2 (by omega)
  ·exact b 3 (by omega)
  ·exact q5
  ·exact q6
  ·exact g 0 (by omega)
  ·exact g 1 (by omega)
  ·exact g 2 (by omega)
  ·exact mm 0 (by omega)
  ·exact mm 1 (by omega)
  ·exact mm 2 (by omega)
  ·exact mm 3 (by omega)
  ·exact mm 4 (by omega)
  ·exact mm 5 (by omega)
  ·exact mm 6 (by omega)
  ·exact mm 7 (by omega)
  ·exact mm 8 (by omega)
  ·exact q19
  ·exact q20
 ·rw[List.getElem?_eq_none (by omega),List.getElem?_eq_none (by simp;omega)]
theorem XxuB {P:Program} {H:Type} {enc:TypeId×Value→H} {W:World} {base b0:Nat} {spare:Nat→Bool} {held:Bool} {r:Reach} {t:TypeId} {fs:Array Field} {v:Value} {d:DataW H} {p:List MemPlace}
  (ht:P.underlying t=some (.struct fs)) (hv:Value.okWide P W r b0 t v) (h:DataW.Trod enc P W base spare held t v d p):∃cs fuel,v=.agg cs∧DataW.trod enc P W base spare held fuel t cs.toList=some (d,p):=by
 obtain ⟨cs,rfl,_,_⟩:∃cs,v=.agg cs∧cs.size=P.cellsOf t∧Row.okWide P W r b0 t cs:=by
  simpa [Value.okWide,ht] using hv
 obtain ⟨fuel,hf⟩:=h
 exact ⟨cs,fuel,rfl,hf⟩
end Go.Proofs.YtfjeonehdlphiaaGreatDoor
