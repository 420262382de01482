/- Sa: part 19 of what the proofs need. -/
import Derived.Test.YtfjeonehdlphiaaGreatDoorC3Sa
import Derived.ProofKit
import Derived.OpenShut
set_option linter.unusedVariables false
namespace Go.Proofs.YtfjeonehdlphiaaGreatDoor
open Go.RowKit Go.ChangeShapes
theorem jWjT {α:Type} (P:Nat→α→Prop) (n:Nat) (h:∀i,i<n→∃p,P i p) (d:α):∃ls:List α,ls.length=n∧∀i,i<n→P i (ls.getD i d):=by
 induction n with
 | zero=>exact ⟨[],rfl,fun i hi=>by omega⟩
 | succ n ih =>
  obtain ⟨ls,hl,hp⟩:=ih (fun i hi=>h i (by omega))
  obtain ⟨p,hp'⟩:=h n (by omega)
  refine ⟨ls++[p],by simp[hl],fun i hi=>?_⟩
  rcases Nat.eq_or_lt_of_le (show i≤n by omega) with e|hlt
  ·subst e
   rw[List.getD_eq_getElem?_getD,List.getElem?_append_right (by omega),hl]
   simpa using hp'
  ·rw[List.getD_eq_getElem?_getD,List.getElem?_append_left (by omega),←List.getD_eq_getElem?_getD]
   exact hp i hlt
theorem qRk9 {P:Program} {H:Type} {enc:TypeId×Value→H} {W:World} {base b0:Nat} {spare:Nat→Bool} {held:Bool} {r:Reach} {t:TypeId} {fs:Array Field} {v:Value} {d:DataW H} {p:List MemPlace}
  (ht:P.underlying t=some (.struct fs)) (hv:Value.okWide P W r b0 t v) (h:DataW.Trod enc P W base spare held t v d p):∃cs fuel,v=.agg cs∧DataW.trod enc P W base spare held fuel t cs.toList=some (d,p):=by
 obtain ⟨cs,rfl,_,_⟩:∃cs,v=.agg cs∧cs.size=P.cellsOf t∧Row.okWide P W r b0 t cs:=by
  simpa [Value.okWide,ht] using hv
 obtain ⟨fuel,hf⟩:=h
 exact ⟨cs,fuel,rfl,hf⟩
theorem qDIc {cs:List Value} {a:Nat} {v:Value} (h:(cs.drop a).take 1=[v]):cs[a]?=some v:=by
 have h0:((cs.drop a).take 1)[0]?=some v:=by rw[h];rfl
 simpa using h0
theorem Xdzv {P:Program} {H:Type} {enc:TypeId×Value→H} {W:World} {base:Nat} {spare:Nat→Bool} {held:Bool} {fuel:Nat} {t ti:TypeId} {g0 g1 g2 g3:Field} {cs:List Value} {x:DataW H×List MemPlace}
  (ht:P.underlying t=some (.struct #[g0,g1,g2,g3])) (hi:P.underlying ti=some (.int .i64)) (ci:P.cellsOf ti=1) (ct:P.cellsOf t=4)
  (y0:g0.type=ti) (y1:g1.type=ti) (y2:g2.type=ti) (y3:g3.type=ti) (o0:g0.offset=0) (o1:g1.offset=1) (o2:g2.offset=2) (o3:g3.offset=3)
  (h:DataW.trod enc P W base spare held fuel t cs=some x):∃a b c d:Int,cs=[.int .i64 a,.int .i64 b,.int .i64 c,.int .i64 d]:=by
 obtain ⟨xs,m,_,_,hl,hxl,hx⟩:=DataW.trod_struct ht h
 rw[ct] at hl
 have hxl':xs.length=4:=hxl
 have e0:=hx 0 g0 rfl
 have e1:=hx 1 g1 rfl
 have e2:=hx 2 g2 rfl
 have e3:=hx 3 g3 rfl
 rw[o0,y0,ci,List.getElem?_eq_getElem (by omega)] at e0
 rw[o1,y1,ci,List.getElem?_eq_getElem (by omega)] at e1
 rw[o2,y2,ci,List.getElem?_eq_getElem (by omega)] at e2
 rw[o3,y3,ci,List.getElem?_eq_getElem (by omega)] at e3
 obtain ⟨a,p0,_,_⟩:=DataW.trod_int hi e0
 obtain ⟨b,p1,_,_⟩:=DataW.trod_int hi e1
 obtain ⟨c,p2,_,_⟩:=DataW.trod_int hi e2
 obtain ⟨d,p3,_,_⟩:=DataW.trod_int hi e3
 have q0:=qDIc p0
 have q1:=qDIc p1
 have q2:=qDIc p2
 have q3:=qDIc p3
 match cs,hl with
 | [c0,c1,c2,c3],_ =>
  simp at q0 q1 q2 q3
  subst q0 q1 q2 q3
  exact ⟨a,b,c,d,rfl⟩
theorem jsWk {P:Program} {H:Type} {enc:TypeId×Value→H} {W:World} {base:Nat} {spare:Nat→Bool} {held:Bool} {fuel:Nat} {t ti tr tb:TypeId} {g0 g1 g2 g3 f0 f1 f2 f3:Field} {cs:List Value} {x:DataW H×List MemPlace}
  (ht:P.underlying t=some (.struct #[g0,g1,g2,g3])) (hi:P.underlying ti=some (.int .i64)) (ci:P.cellsOf ti=1) (ct:P.cellsOf t=7)
  (y0:g0.type=ti) (y1:g1.type=tr) (y2:g2.type=ti) (y3:g3.type=tb) (o0:g0.offset=0) (o1:g1.offset=1) (o2:g2.offset=5) (o3:g3.offset=6)
  (hr:P.underlying tr=some (.struct #[f0,f1,f2,f3])) (cr:P.cellsOf tr=4) (z0:f0.type=ti) (z1:f1.type=ti) (z2:f2.type=ti) (z3:f3.type=ti) (n0:f0.offset=0) (n1:f1.offset=1) (n2:f2.offset=2) (n3:f3.offset=3)
  (hb:P.underlying tb=some .bool) (cb:P.cellsOf tb=1)
  (h:DataW.trod enc P W base spare held fuel t cs=some x):∃(a b c d e f:Int) (q:Bool),cs=[.int .i64 a,.int .i64 b,.int .i64 c,.int .i64 d,.int .i64 e,.int .i64 f,.bool q]:=by
 obtain ⟨xs,m,_,_,hl,hxl,hx⟩:=DataW.trod_struct ht h
 rw[ct] at hl
 have hxl':xs.length=4:=hxl
 have e0:=hx 0 g0 rfl
 have e1:=hx 1 g1 rfl
 have e2:=hx 2 g2 rfl
 have e3:=hx 3 g3 rfl
 rw[o0,y0,ci,List.getElem?_eq_getElem (by omega)] at e0
 rw[o1,y1,cr,List.getElem?_eq_getElem (by omega)] at e1
 rw[o2,y2,ci,List.getElem?_eq_getElem (by omega)] at e2
 rw[o3,y3,cb,List.getElem?_eq_getElem (by omega)] at e3
 obtain ⟨a,p0,_,_⟩:=DataW.trod_int hi e0
 obtain ⟨r1,r2,r3,r4,p1⟩:=Xdzv hr hi ci cr z0 z1 z2 z3 n0 n1 n2 n3 e1
 obtain ⟨f,p2,_,_⟩:=DataW.trod_int hi e2
 obtain ⟨q,p3,_⟩:=DataW.trod_bool hb e3
 refine ⟨a,r1,r2,r3,r4,f,q,?_⟩
 match cs,hl with
 | [c0,c1,c2,c3,c4,c5,c6],_ =>
  simp at p0 p1 p2 p3
  obtain ⟨rfl,rfl,rfl,rfl⟩:=p1
  subst p0 p2 p3
  rfl
end Go.Proofs.YtfjeonehdlphiaaGreatDoor
