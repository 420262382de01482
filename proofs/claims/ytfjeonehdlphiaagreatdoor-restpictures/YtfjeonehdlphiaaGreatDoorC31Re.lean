/- Re: part 31 of what the proofs need. -/
import Derived.Test.YtfjeonehdlphiaaGreatDoorC1Re
import Derived.Test.YtfjeonehdlphiaaGreatDoorC20Re
import Derived.Test.YtfjeonehdlphiaaGreatDoorC21Re
import Derived.Test.YtfjeonehdlphiaaGreatDoorC22Re
import Derived.Test.YtfjeonehdlphiaaGreatDoorC26Re
import Derived.Test.YtfjeonehdlphiaaGreatDoorC27Re
import Derived.Test.YtfjeonehdlphiaaGreatDoorC28Re
import Derived.Test.YtfjeonehdlphiaaGreatDoorC30Re
open Go.Obj renaming cells → ka
open Array renaming getElem?_eq_some_iff → kb
open Go.Lib renaming frozen_of_heap → kd, cell_of_heap → ke
open Nat renaming le_refl → kf
open Bool renaming and_eq_true → kg
set_option linter.unusedVariables false
set_option maxHeartbeats 6400000
set_option maxRecDepth 100000
namespace Go.Proofs.YtfjeonehdlphiaaGreatDoor
open Go.RowKit
abbrev frP (W H:Int) (v:Value):Array Value:=#[.int .i64 W,.int .i64 H,v,.int .i64 0,.int .i64 0,.slice none 0 0]
abbrev frQ (W H:Int) (v:Value):Array Value:=#[.int .i64 0,.int .i64 0,.slice none 0 0,.int .i64 W,.int .i64 H,v]
theorem jcb2 {w:World} {b:Nat} {a0 a1 a2 a3 a4 a5:Value} {t:TypeId} {fr:Nat×Nat} (h:w.heap[b]?=some (.cells #[a0,a1,a2,a3,a4,a5] t fr)) :
  w.cell? ⟨b,0,none⟩=some a0∧w.cell? ⟨b,1,none⟩=some a1∧w.cell? ⟨b,2,none⟩=some a2∧w.cell? ⟨b,3,none⟩=some a3∧w.cell? ⟨b,4,none⟩=some a4∧w.cell? ⟨b,5,none⟩=some a5 :=
 ⟨by rw[ke h];rfl,by rw[ke h];rfl,by rw[ke h];rfl,by rw[ke h];rfl,by rw[ke h];rfl,by rw[ke h];rfl⟩
theorem jCvT.setRow {w:World} {v:Value} {xs:List Int} {B k:Nat} (h:jCvT w v xs) (hf:Fresh B v) (hk:k<B) (cs:Array Value):jCvT (w.setRow k cs) v xs :=
 h.other (by simp) (fun b hb=>setRow_other w k b cs hb) (hf.ne hk)
theorem IsPix.setRow {w:World} {v:Value} {xs:List Px} {B k:Nat} (h:IsPix w v xs) (hf:Fresh B v) (hk:k<B) (cs:Array Value):IsPix (w.setRow k cs) v xs :=
 h.other (by simp) (fun b hb=>setRow_other w k b cs hb) (hf.ne hk)
theorem jrQv (W H:Int) (v:Value) (zs:List Int) (m:Nat→Int) (white:Int) (w:World) (hv:jCvT w v zs) (hE:levE W H zs m white=0) :
  Calls Tryz.prog 253 #[.agg #[.int .i64 (m 0),.int .i64 (m 1),.int .i64 (m 2),.int .i64 (m 3),.int .i64 white],.agg (frP W H v)] w fun e w'=>∃r,e=.returned (.tuple #[.agg (frP W H r),.int .i64 0])∧jCvT w' r (levL W zs m white)∧Below w.heap.size w w'∧Fresh w.heap.size r:=by
 have HV:=hide hv
 obtain ⟨ao,ca,rfl,_,_⟩:=hv
 obtain ⟨a1,a2,a3⟩:=al3 w (ka #[.int .i64 (m 0),.int .i64 (m 1),.int .i64 (m 2),.int .i64 (m 3),.int .i64 white] 240) (ka (frP W H (.slice ao zs.length ca)) 206) (ka #[.int .i64 0,.int .i64 0,.slice none 0 0,.int .i64 0,.int .i64 0,.slice none 0 0] 206)
 have HB:=hide (be3 w (ka #[.int .i64 (m 0),.int .i64 (m 1),.int .i64 (m 2),.int .i64 (m 3),.int .i64 white] 240) (ka (frP W H (.slice ao zs.length ca)) 206) (ka #[.int .i64 0,.int .i64 0,.slice none 0 0,.int .i64 0,.int .i64 0,.slice none 0 0] 206))
 have HC:=hide (XDBp W H _ zs m white _ (HV.out.below HB.out (kf _)))
 rw[hE,show okW 0 W=W from rfl,show okW 0 H=H from rfl,show okL 0 (levL W zs m white)=levL W zs m white from rfl] at HC
 obtain ⟨q0,q1,q2,q3,q4,q5⟩:=jcb2 a2
 have r0:=cell_of_row _ _ 0 _ _ _ a1
 have r1:=cell_of_row _ _ 1 _ _ _ a1
 have r2:=cell_of_row _ _ 2 _ _ _ a1
 have r3:=cell_of_row _ _ 3 _ _ _ a1
 have r4:=cell_of_row _ _ 4 _ _ _ a1
 simp only[List.getElem?_toArray,List.getElem?_cons_zero,List.getElem?_cons_succ] at r0 r1 r2 r3 r4
 go_enter Tryz.func253,Tryz.ntmps253
 go_wp2_with fail
 clear q0 q1 q2 q3 q4 q5 r0 r1 r2 r3 r4
 have hl3:=(kb.1 a3).1
 generalize ((w.alloc (ka #[.int .i64 (m 0),.int .i64 (m 1),.int .i64 (m 2),.int .i64 (m 3),.int .i64 white] 240)).alloc (ka (frP W H (.slice ao zs.length ca)) 206)).alloc (ka #[.int .i64 0,.int .i64 0,.slice none 0 0,.int .i64 0,.int .i64 0,.slice none 0 0] 206)=U at *
 refine HC.out.mono ?_
 rintro e w1 ⟨r,rfl,hr,hb1,hfr⟩
 have HR:=hide hr
 obtain ⟨ro,rc,rfl,x1,x2⟩:=hr
 clear x1 x2
 generalize (levL W zs m white).length=N at *
 have t6:=al1 w1 (ka #[.int .i64 W,.int .i64 H,.slice ro N rc] 54)
 have hb2:=quJN hb1 (qUNz w1 (ka #[.int .i64 W,.int .i64 H,.slice ro N rc] 54))
 have HR2:=hide (HR.out.alloc (ka #[.int .i64 W,.int .i64 H,.slice ro N rc] 54))
 have b3:=(hb2.block _ hl3).trans a3
 obtain ⟨k0,k1,k2⟩:=z5EY t6
 have hsz:w.heap.size+2<U.heap.size:=hl3
 have HX:=hide (HR2.out.setRow hfr hsz (frP W H (.slice ro N rc)))
 have HF:=hide (below_setRow (g:=w.heap.size+2) (HB.out.trans (hb2.mono HB.out.size)) (by omega) (frP W H (.slice ro N rc)))
 have i1:(Tryz.prog.info? 206).map (·.size)=some (frP W H (.slice ro N rc)).size:=by kernel_rfl
 have i3:(frP W H (.slice ro N rc)).all (·.oneCell')=true:=by simp[Value.oneCell']
 have i4:(w1.alloc (ka #[.int .i64 W,.int .i64 H,.slice ro N rc] 54)).heap[w.heap.size+1+1]?=some (ka #[.int .i64 0,.int .i64 0,.slice none 0 0,.int .i64 0,.int .i64 0,.slice none 0 0] 206 (0,0)):=b3
 go_wp2_with (refine wpList_store_row rfl 206 _ _ rfl (w.heap.size+1+1) (frP W H (.slice ro N rc)) rfl rfl _ _ i4 i1 rfl i3 ?_)
 have hUw:=HB.out.size
 obtain ⟨z0,z1,z2,z3,z4,z5⟩:=jcb2 (setRow_heap _ _ _ (frP W H (.slice ro N rc)) _ _ i4)
 exact bodyPost_ret (v:=.tuple #[.agg (frP W H (.slice ro N rc)),.int .i64 0]) (by simp[results,Tryz.results253,go_sem,z0,z1,z2,z3,z4,z5]) rfl ⟨_,rfl,HX.out,HF.out,hfr.mono hUw⟩
theorem qxTT (W H:Int) (v:Value) (zs:List Int) (lv:Value) (ls:List Pt) (hls:∀j,j<ls.length→ptWf (ptAt ls j)) (w:World) (hv:jCvT w v zs) (hlv:IsPts w lv ls) (hE:repE W H zs ls=0) :
  Calls Tryz.prog 258 #[.agg #[lv],.agg (frP W H v)] w fun e w'=>∃r,e=.returned (.tuple #[.agg (frP W H r),.int .i64 0])∧jCvT w' r (repL W H zs ls)∧Below w.heap.size w w'∧Fresh w.heap.size r:=by
 have HV:=hide hv
 obtain ⟨ao,ca,rfl,_,_⟩:=hv
 have HL:=hide hlv
 obtain ⟨lo,lc,rfl,_,_⟩:=hlv
 obtain ⟨a1,a2,a3⟩:=al3 w (ka #[.slice lo ls.length lc] 242) (ka (frP W H (.slice ao zs.length ca)) 206) (ka #[.int .i64 0,.int .i64 0,.slice none 0 0,.int .i64 0,.int .i64 0,.slice none 0 0] 206)
 have HB:=hide (be3 w (ka #[.slice lo ls.length lc] 242) (ka (frP W H (.slice ao zs.length ca)) 206) (ka #[.int .i64 0,.int .i64 0,.slice none 0 0,.int .i64 0,.int .i64 0,.slice none 0 0] 206))
 have HC:=hide (zXdr W H _ zs _ ls hls _ (HV.out.below HB.out (kf _)) (HL.out.below HB.out (kf _)))
 rw[hE,show okW 0 W=W from rfl,show okW 0 H=H from rfl,show okL 0 (repL W H zs ls)=repL W H zs ls from rfl] at HC
 obtain ⟨q0,q1,q2,q3,q4,q5⟩:=jcb2 a2
 have r0:=cell_of_row _ _ 0 _ _ _ a1
 simp only[List.getElem?_toArray,List.getElem?_cons_zero] at r0
 go_enter Tryz.func258,Tryz.ntmps258
 go_wp2_with fail
 clear q0 q1 q2 q3 q4 q5 r0
 have hl3:=(kb.1 a3).1
 generalize ((w.alloc (ka #[.slice lo ls.length lc] 242)).alloc (ka (frP W H (.slice ao zs.length ca)) 206)).alloc (ka #[.int .i64 0,.int .i64 0,.slice none 0 0,.int .i64 0,.int .i64 0,.slice none 0 0] 206)=U at *
 refine HC.out.mono ?_
 rintro e w1 ⟨r,rfl,hr,hb1,hfr⟩
 have HR:=hide hr
 obtain ⟨ro,rc,rfl,x1,x2⟩:=hr
 clear x1 x2
 generalize (repL W H zs ls).length=N at *
 have t6:=al1 w1 (ka #[.int .i64 W,.int .i64 H,.slice ro N rc] 54)
 have hb2:=quJN hb1 (qUNz w1 (ka #[.int .i64 W,.int .i64 H,.slice ro N rc] 54))
 have HR2:=hide (HR.out.alloc (ka #[.int .i64 W,.int .i64 H,.slice ro N rc] 54))
 have b3:=(hb2.block _ hl3).trans a3
 obtain ⟨k0,k1,k2⟩:=z5EY t6
 have hsz:w.heap.size+2<U.heap.size:=hl3
 have HX:=hide (HR2.out.setRow hfr hsz (frP W H (.slice ro N rc)))
 have HF:=hide (below_setRow (g:=w.heap.size+2) (HB.out.trans (hb2.mono HB.out.size)) (by omega) (frP W H (.slice ro N rc)))
 have i1:(Tryz.prog.info? 206).map (·.size)=some (frP W H (.slice ro N rc)).size:=by kernel_rfl
 have i3:(frP W H (.slice ro N rc)).all (·.oneCell')=true:=by simp[Value.oneCell']
 have i4:(w1.alloc (ka #[.int .i64 W,.int .i64 H,.slice ro N rc] 54)).heap[w.heap.size+1+1]?=some (ka #[.int .i64 0,.int .i64 0,.slice none 0 0,.int .i64 0,.int .i64 0,.slice none 0 0] 206 (0,0)):=b3
 go_wp2_with (refine wpList_store_row rfl 206 _ _ rfl (w.heap.size+1+1) (frP W H (.slice ro N rc)) rfl rfl _ _ i4 i1 rfl i3 ?_)
 have hUw:=HB.out.size
 obtain ⟨z0,z1,z2,z3,z4,z5⟩:=jcb2 (setRow_heap _ _ _ (frP W H (.slice ro N rc)) _ _ i4)
 exact bodyPost_ret (v:=.tuple #[.agg (frP W H (.slice ro N rc)),.int .i64 0]) (by simp[results,Tryz.results258,go_sem,z0,z1,z2,z3,z4,z5]) rfl ⟨_,rfl,HX.out,HF.out,hfr.mono hUw⟩
theorem qlQT (W H:Int) (v:Value) (zs:List Int) (phase:Int) (m:Nat→Int) (w:World) (hv:jCvT w v zs) (hE:gaiE W H zs phase m=0) :
  Calls Tryz.prog 264 #[.agg #[.int .i64 phase,.int .i64 (m 0),.int .i64 (m 1),.int .i64 (m 2)],.agg (frP W H v)] w fun e w'=>∃r,e=.returned (.tuple #[.agg (frP W H r),.int .i64 0])∧jCvT w' r (gaiL W zs phase m)∧Below w.heap.size w w'∧Fresh w.heap.size r:=by
 have HV:=hide hv
 obtain ⟨ao,ca,rfl,_,_⟩:=hv
 obtain ⟨a1,a2,a3⟩:=al3 w (ka #[.int .i64 phase,.int .i64 (m 0),.int .i64 (m 1),.int .i64 (m 2)] 244) (ka (frP W H (.slice ao zs.length ca)) 206) (ka #[.int .i64 0,.int .i64 0,.slice none 0 0,.int .i64 0,.int .i64 0,.slice none 0 0] 206)
 have HB:=hide (be3 w (ka #[.int .i64 phase,.int .i64 (m 0),.int .i64 (m 1),.int .i64 (m 2)] 244) (ka (frP W H (.slice ao zs.length ca)) 206) (ka #[.int .i64 0,.int .i64 0,.slice none 0 0,.int .i64 0,.int .i64 0,.slice none 0 0] 206))
 have HC:=hide (zHt1 W H _ zs phase m _ (HV.out.below HB.out (kf _)))
 rw[hE,show okW 0 W=W from rfl,show okW 0 H=H from rfl,show okL 0 (gaiL W zs phase m)=gaiL W zs phase m from rfl] at HC
 obtain ⟨q0,q1,q2,q3,q4,q5⟩:=jcb2 a2
 have r0:=cell_of_row _ _ 0 _ _ _ a1
 have r1:=cell_of_row _ _ 1 _ _ _ a1
 have r2:=cell_of_row _ _ 2 _ _ _ a1
 have r3:=cell_of_row _ _ 3 _ _ _ a1
 simp only[List.getElem?_toArray,List.getElem?_cons_zero,List.getElem?_cons_succ] at r0 r1 r2 r3
 go_enter Tryz.func264,Tryz.ntmps264
 go_wp2_with fail
 clear q0 q1 q2 q3 q4 q5 r0 r1 r2 r3
 have hl3:=(kb.1 a3).1
 generalize ((w.alloc (ka #[.int .i64 phase,.int .i64 (m 0),.int .i64 (m 1),.int .i64 (m 2)] 244)).alloc (ka (frP W H (.slice ao zs.length ca)) 206)).alloc (ka #[.int .i64 0,.int .i64 0,.slice none 0 0,.int .i64 0,.int .i64 0,.slice none 0 0] 206)=U at *
 refine HC.out.mono ?_
 rintro e w1 ⟨r,rfl,hr,hb1,hfr⟩
 have HR:=hide hr
 obtain ⟨ro,rc,rfl,x1,x2⟩:=hr
 clear x1 x2
 generalize (gaiL W zs phase m).length=N at *
 have t6:=al1 w1 (ka #[.int .i64 W,.int .i64 H,.slice ro N rc] 54)
 have hb2:=quJN hb1 (qUNz w1 (ka #[.int .i64 W,.int .i64 H,.slice ro N rc] 54))
 have HR2:=hide (HR.out.alloc (ka #[.int .i64 W,.int .i64 H,.slice ro N rc] 54))
 have b3:=(hb2.block _ hl3).trans a3
 obtain ⟨k0,k1,k2⟩:=z5EY t6
 have hsz:w.heap.size+2<U.heap.size:=hl3
 have HX:=hide (HR2.out.setRow hfr hsz (frP W H (.slice ro N rc)))
 have HF:=hide (below_setRow (g:=w.heap.size+2) (HB.out.trans (hb2.mono HB.out.size)) (by omega) (frP W H (.slice ro N rc)))
 have i1:(Tryz.prog.info? 206).map (·.size)=some (frP W H (.slice ro N rc)).size:=by kernel_rfl
 have i3:(frP W H (.slice ro N rc)).all (·.oneCell')=true:=by simp[Value.oneCell']
 have i4:(w1.alloc (ka #[.int .i64 W,.int .i64 H,.slice ro N rc] 54)).heap[w.heap.size+1+1]?=some (ka #[.int .i64 0,.int .i64 0,.slice none 0 0,.int .i64 0,.int .i64 0,.slice none 0 0] 206 (0,0)):=b3
 go_wp2_with (refine wpList_store_row rfl 206 _ _ rfl (w.heap.size+1+1) (frP W H (.slice ro N rc)) rfl rfl _ _ i4 i1 rfl i3 ?_)
 have hUw:=HB.out.size
 obtain ⟨z0,z1,z2,z3,z4,z5⟩:=jcb2 (setRow_heap _ _ _ (frP W H (.slice ro N rc)) _ _ i4)
 exact bodyPost_ret (v:=.tuple #[.agg (frP W H (.slice ro N rc)),.int .i64 0]) (by simp[results,Tryz.results264,go_sem,z0,z1,z2,z3,z4,z5]) rfl ⟨_,rfl,HX.out,HF.out,hfr.mono hUw⟩
theorem qSHV (W H:Int) (v:Value) (zs:List Int) (phase:Int) (w:World) (hv:jCvT w v zs) (hE:fillE W H zs phase=0) :
  Calls Tryz.prog 267 #[.agg #[.int .i64 phase],.agg (frP W H v)] w fun e w'=>∃r,e=.returned (.tuple #[.agg (frQ W H r),.int .i64 0])∧IsPix w' r (fillL W H zs phase)∧Below w.heap.size w w'∧Fresh w.heap.size r:=by
 have HV:=hide hv
 obtain ⟨ao,ca,rfl,_,_⟩:=hv
 obtain ⟨a1,a2,a3⟩:=al3 w (ka #[.int .i64 phase] 246) (ka (frP W H (.slice ao zs.length ca)) 206) (ka #[.int .i64 0,.int .i64 0,.slice none 0 0,.int .i64 0,.int .i64 0,.slice none 0 0] 206)
 have HB:=hide (be3 w (ka #[.int .i64 phase] 246) (ka (frP W H (.slice ao zs.length ca)) 206) (ka #[.int .i64 0,.int .i64 0,.slice none 0 0,.int .i64 0,.int .i64 0,.slice none 0 0] 206))
 have HC:=hide (q3wV W H _ zs phase _ (HV.out.below HB.out (kf _)))
 rw[hE,show okW 0 W=W from rfl,show okW 0 H=H from rfl,show okL 0 (fillL W H zs phase)=fillL W H zs phase from rfl] at HC
 obtain ⟨q0,q1,q2,q3,q4,q5⟩:=jcb2 a2
 have r0:=cell_of_row _ _ 0 _ _ _ a1
 simp only[List.getElem?_toArray,List.getElem?_cons_zero] at r0
 go_enter Tryz.func267,Tryz.ntmps267
 go_wp2_with fail
 clear q0 q1 q2 q3 q4 q5 r0
 have hl3:=(kb.1 a3).1
 generalize ((w.alloc (ka #[.int .i64 phase] 246)).alloc (ka (frP W H (.slice ao zs.length ca)) 206)).alloc (ka #[.int .i64 0,.int .i64 0,.slice none 0 0,.int .i64 0,.int .i64 0,.slice none 0 0] 206)=U at *
 refine HC.out.mono ?_
 rintro e w1 ⟨r,rfl,hr,hb1,hfr⟩
 have HR:=hide hr
 obtain ⟨ro,rc,rfl,x1,x2⟩:=hr
 clear x1 x2
 generalize (fillL W H zs phase).length=N at *
 have t6:=al1 w1 (ka #[.int .i64 W,.int .i64 H,.slice ro N rc] 24)
 have hb2:=quJN hb1 (qUNz w1 (ka #[.int .i64 W,.int .i64 H,.slice ro N rc] 24))
 have HR2:=hide (HR.out.alloc (ka #[.int .i64 W,.int .i64 H,.slice ro N rc] 24))
 have b3:=(hb2.block _ hl3).trans a3
 obtain ⟨k0,k1,k2⟩:=z5EY t6
 have hsz:w.heap.size+2<U.heap.size:=hl3
 have HX:=hide (HR2.out.setRow hfr hsz (frQ W H (.slice ro N rc)))
 have HF:=hide (below_setRow (g:=w.heap.size+2) (HB.out.trans (hb2.mono HB.out.size)) (by omega) (frQ W H (.slice ro N rc)))
 have i1:(Tryz.prog.info? 206).map (·.size)=some (frQ W H (.slice ro N rc)).size:=by kernel_rfl
 have i3:(frQ W H (.slice ro N rc)).all (·.oneCell')=true:=by simp[Value.oneCell']
 have i4:(w1.alloc (ka #[.int .i64 W,.int .i64 H,.slice ro N rc] 24)).heap[w.heap.size+1+1]?=some (ka #[.int .i64 0,.int .i64 0,.slice none 0 0,.int .i64 0,.int .i64 0,.slice none 0 0] 206 (0,0)):=b3
 go_wp2_with (refine wpList_store_row rfl 206 _ _ rfl (w.heap.size+1+1) (frQ W H (.slice ro N rc)) rfl rfl _ _ i4 i1 rfl i3 ?_)
 have hUw:=HB.out.size
 obtain ⟨z0,z1,z2,z3,z4,z5⟩:=jcb2 (setRow_heap _ _ _ (frQ W H (.slice ro N rc)) _ _ i4)
 exact bodyPost_ret (v:=.tuple #[.agg (frQ W H (.slice ro N rc)),.int .i64 0]) (by simp[results,Tryz.results267,go_sem,z0,z1,z2,z3,z4,z5]) rfl ⟨_,rfl,HX.out,HF.out,hfr.mono hUw⟩
theorem jpcW (W H:Int) (v:Value) (ps:List Px) (m:Nat→Int) (w:World) (hv:IsPix w v ps) (hE:mixE W H ps m=0) :
  Calls Tryz.prog 268 #[.agg #[.int .i64 (m 0),.int .i64 (m 1),.int .i64 (m 2),.int .i64 (m 3),.int .i64 (m 4),.int .i64 (m 5),.int .i64 (m 6),.int .i64 (m 7),.int .i64 (m 8)],.agg (frQ W H v)] w fun e w'=>∃r,e=.returned (.tuple #[.agg (frQ W H r),.int .i64 0])∧IsPix w' r (ps.map (mixP m))∧Below w.heap.size w w'∧Fresh w.heap.size r:=by
 have HV:=hide hv
 obtain ⟨ao,ca,rfl,_,_⟩:=hv
 obtain ⟨a1,a2,a3⟩:=al3 w (ka #[.int .i64 (m 0),.int .i64 (m 1),.int .i64 (m 2),.int .i64 (m 3),.int .i64 (m 4),.int .i64 (m 5),.int .i64 (m 6),.int .i64 (m 7),.int .i64 (m 8)] 248) (ka (frQ W H (.slice ao ps.length ca)) 206) (ka #[.int .i64 0,.int .i64 0,.slice none 0 0,.int .i64 0,.int .i64 0,.slice none 0 0] 206)
 have HB:=hide (be3 w (ka #[.int .i64 (m 0),.int .i64 (m 1),.int .i64 (m 2),.int .i64 (m 3),.int .i64 (m 4),.int .i64 (m 5),.int .i64 (m 6),.int .i64 (m 7),.int .i64 (m 8)] 248) (ka (frQ W H (.slice ao ps.length ca)) 206) (ka #[.int .i64 0,.int .i64 0,.slice none 0 0,.int .i64 0,.int .i64 0,.slice none 0 0] 206))
 have HC:=hide (jjtZ W H _ ps m _ (HV.out.below HB.out (kf _)))
 rw[hE,show okW 0 W=W from rfl,show okW 0 H=H from rfl,show okL 0 (ps.map (mixP m))=ps.map (mixP m) from rfl] at HC
 obtain ⟨q0,q1,q2,q3,q4,q5⟩:=jcb2 a2
 have r0:=cell_of_row _ _ 0 _ _ _ a1
 have r1:=cell_of_row _ _ 1 _ _ _ a1
 have r2:=cell_of_row _ _ 2 _ _ _ a1
 have r3:=cell_of_row _ _ 3 _ _ _ a1
 have r4:=cell_of_row _ _ 4 _ _ _ a1
 have r5:=cell_of_row _ _ 5 _ _ _ a1
 have r6:=cell_of_row _ _ 6 _ _ _ a1
 have r7:=cell_of_row _ _ 7 _ _ _ a1
 have r8:=cell_of_row _ _ 8 _ _ _ a1
 simp only[List.getElem?_toArray,List.getElem?_cons_zero,List.getElem?_cons_succ] at r0 r1 r2 r3 r4 r5 r6 r7 r8
 go_enter Tryz.func268,Tryz.ntmps268
 go_wp2_with fail
 clear q0 q1 q2 q3 q4 q5 r0 r1 r2 r3 r4 r5 r6 r7 r8
 have hl3:=(kb.1 a3).1
 generalize ((w.alloc (ka #[.int .i64 (m 0),.int .i64 (m 1),.int .i64 (m 2),.int .i64 (m 3),.int .i64 (m 4),.int .i64 (m 5),.int .i64 (m 6),.int .i64 (m 7),.int .i64 (m 8)] 248)).alloc (ka (frQ W H (.slice ao ps.length ca)) 206)).alloc (ka #[.int .i64 0,.int .i64 0,.slice none 0 0,.int .i64 0,.int .i64 0,.slice none 0 0] 206)=U at *
 refine HC.out.mono ?_
 rintro e w1 ⟨r,rfl,hr,hb1,hfr⟩
 have HR:=hide hr
 obtain ⟨ro,rc,rfl,x1,x2⟩:=hr
 clear x1 x2
 generalize (ps.map (mixP m)).length=N at *
 have t6:=al1 w1 (ka #[.int .i64 W,.int .i64 H,.slice ro N rc] 24)
 have hb2:=quJN hb1 (qUNz w1 (ka #[.int .i64 W,.int .i64 H,.slice ro N rc] 24))
 have HR2:=hide (HR.out.alloc (ka #[.int .i64 W,.int .i64 H,.slice ro N rc] 24))
 have b3:=(hb2.block _ hl3).trans a3
 obtain ⟨k0,k1,k2⟩:=z5EY t6
 have hsz:w.heap.size+2<U.heap.size:=hl3
 have HX:=hide (HR2.out.setRow hfr hsz (frQ W H (.slice ro N rc)))
 have HF:=hide (below_setRow (g:=w.heap.size+2) (HB.out.trans (hb2.mono HB.out.size)) (by omega) (frQ W H (.slice ro N rc)))
 have i1:(Tryz.prog.info? 206).map (·.size)=some (frQ W H (.slice ro N rc)).size:=by kernel_rfl
 have i3:(frQ W H (.slice ro N rc)).all (·.oneCell')=true:=by simp[Value.oneCell']
 have i4:(w1.alloc (ka #[.int .i64 W,.int .i64 H,.slice ro N rc] 24)).heap[w.heap.size+1+1]?=some (ka #[.int .i64 0,.int .i64 0,.slice none 0 0,.int .i64 0,.int .i64 0,.slice none 0 0] 206 (0,0)):=b3
 go_wp2_with (refine wpList_store_row rfl 206 _ _ rfl (w.heap.size+1+1) (frQ W H (.slice ro N rc)) rfl rfl _ _ i4 i1 rfl i3 ?_)
 have hUw:=HB.out.size
 obtain ⟨z0,z1,z2,z3,z4,z5⟩:=jcb2 (setRow_heap _ _ _ (frQ W H (.slice ro N rc)) _ _ i4)
 exact bodyPost_ret (v:=.tuple #[.agg (frQ W H (.slice ro N rc)),.int .i64 0]) (by simp[results,Tryz.results268,go_sem,z0,z1,z2,z3,z4,z5]) rfl ⟨_,rfl,HX.out,HF.out,hfr.mono hUw⟩
theorem XKl8 (W H:Int) (v:Value) (ps:List Px) (lv:Value) (ls:List Pt) (w:World) (hv:IsPix w v ps) (hlv:IsPts w lv ls) (hE:bendE W H ps ls=0) :
  Calls Tryz.prog 274 #[.agg #[lv],.agg (frQ W H v)] w fun e w'=>∃r,e=.returned (.tuple #[.agg (frQ W H r),.int .i64 0])∧IsPix w' r (ps.map (bendP ls))∧Below w.heap.size w w'∧Fresh w.heap.size r:=by
 have HV:=hide hv
 obtain ⟨ao,ca,rfl,_,_⟩:=hv
 have HL:=hide hlv
 obtain ⟨lo,lc,rfl,_,_⟩:=hlv
 obtain ⟨a1,a2,a3⟩:=al3 w (ka #[.slice lo ls.length lc] 250) (ka (frQ W H (.slice ao ps.length ca)) 206) (ka #[.int .i64 0,.int .i64 0,.slice none 0 0,.int .i64 0,.int .i64 0,.slice none 0 0] 206)
 have HB:=hide (be3 w (ka #[.slice lo ls.length lc] 250) (ka (frQ W H (.slice ao ps.length ca)) 206) (ka #[.int .i64 0,.int .i64 0,.slice none 0 0,.int .i64 0,.int .i64 0,.slice none 0 0] 206))
 have HC:=hide (q6yx W H _ ps _ ls _ (HV.out.below HB.out (kf _)) (HL.out.below HB.out (kf _)))
 rw[hE,show okW 0 W=W from rfl,show okW 0 H=H from rfl,show okL 0 (ps.map (bendP ls))=ps.map (bendP ls) from rfl] at HC
 obtain ⟨q0,q1,q2,q3,q4,q5⟩:=jcb2 a2
 have r0:=cell_of_row _ _ 0 _ _ _ a1
 simp only[List.getElem?_toArray,List.getElem?_cons_zero] at r0
 go_enter Tryz.func274,Tryz.ntmps274
 go_wp2_with fail
 clear q0 q1 q2 q3 q4 q5 r0
 have hl3:=(kb.1 a3).1
 generalize ((w.alloc (ka #[.slice lo ls.length lc] 250)).alloc (ka (frQ W H (.slice ao ps.length ca)) 206)).alloc (ka #[.int .i64 0,.int .i64 0,.slice none 0 0,.int .i64 0,.int .i64 0,.slice none 0 0] 206)=U at *
 refine HC.out.mono ?_
 rintro e w1 ⟨r,rfl,hr,hb1,hfr⟩
 have HR:=hide hr
 obtain ⟨ro,rc,rfl,x1,x2⟩:=hr
 clear x1 x2
 generalize (ps.map (bendP ls)).length=N at *
 have t6:=al1 w1 (ka #[.int .i64 W,.int .i64 H,.slice ro N rc] 24)
 have hb2:=quJN hb1 (qUNz w1 (ka #[.int .i64 W,.int .i64 H,.slice ro N rc] 24))
 have HR2:=hide (HR.out.alloc (ka #[.int .i64 W,.int .i64 H,.slice ro N rc] 24))
 have b3:=(hb2.block _ hl3).trans a3
 obtain ⟨k0,k1,k2⟩:=z5EY t6
 have hsz:w.heap.size+2<U.heap.size:=hl3
 have HX:=hide (HR2.out.setRow hfr hsz (frQ W H (.slice ro N rc)))
 have HF:=hide (below_setRow (g:=w.heap.size+2) (HB.out.trans (hb2.mono HB.out.size)) (by omega) (frQ W H (.slice ro N rc)))
 have i1:(Tryz.prog.info? 206).map (·.size)=some (frQ W H (.slice ro N rc)).size:=by kernel_rfl
 have i3:(frQ W H (.slice ro N rc)).all (·.oneCell')=true:=by simp[Value.oneCell']
 have i4:(w1.alloc (ka #[.int .i64 W,.int .i64 H,.slice ro N rc] 24)).heap[w.heap.size+1+1]?=some (ka #[.int .i64 0,.int .i64 0,.slice none 0 0,.int .i64 0,.int .i64 0,.slice none 0 0] 206 (0,0)):=b3
 go_wp2_with (refine wpList_store_row rfl 206 _ _ rfl (w.heap.size+1+1) (frQ W H (.slice ro N rc)) rfl rfl _ _ i4 i1 rfl i3 ?_)
 have hUw:=HB.out.size
 obtain ⟨z0,z1,z2,z3,z4,z5⟩:=jcb2 (setRow_heap _ _ _ (frQ W H (.slice ro N rc)) _ _ i4)
 exact bodyPost_ret (v:=.tuple #[.agg (frQ W H (.slice ro N rc)),.int .i64 0]) (by simp[results,Tryz.results274,go_sem,z0,z1,z2,z3,z4,z5]) rfl ⟨_,rfl,HX.out,HF.out,hfr.mono hUw⟩
theorem qOWc (W H:Int) (v:Value) (ps:List Px) (amount:Int) (w:World) (hv:IsPix w v ps) (hE:joyM W H ps amount=0) :
  Calls Tryz.prog 277 #[.agg #[.int .i64 amount],.agg (frQ W H v)] w fun e w'=>∃r,e=.returned (.tuple #[.agg (frQ W H r),.int .i64 0])∧IsPix w' r (jz1R W H ps amount)∧Below w.heap.size w w'∧Fresh w.heap.size r:=by
 have HV:=hide hv
 obtain ⟨ao,ca,rfl,_,_⟩:=hv
 obtain ⟨a1,a2,a3⟩:=al3 w (ka #[.int .i64 amount] 252) (ka (frQ W H (.slice ao ps.length ca)) 206) (ka #[.int .i64 0,.int .i64 0,.slice none 0 0,.int .i64 0,.int .i64 0,.slice none 0 0] 206)
 have HB:=hide (be3 w (ka #[.int .i64 amount] 252) (ka (frQ W H (.slice ao ps.length ca)) 206) (ka #[.int .i64 0,.int .i64 0,.slice none 0 0,.int .i64 0,.int .i64 0,.slice none 0 0] 206))
 have HC:=hide (qVlB W H _ ps amount _ (HV.out.below HB.out (kf _)))
 rw[hE,show okW 0 W=W from rfl,show okW 0 H=H from rfl,show okL 0 (jz1R W H ps amount)=jz1R W H ps amount from rfl] at HC
 obtain ⟨q0,q1,q2,q3,q4,q5⟩:=jcb2 a2
 have r0:=cell_of_row _ _ 0 _ _ _ a1
 simp only[List.getElem?_toArray,List.getElem?_cons_zero] at r0
 go_enter Tryz.func277,Tryz.ntmps277
 go_wp2_with fail
 clear q0 q1 q2 q3 q4 q5 r0
 have hl3:=(kb.1 a3).1
 generalize ((w.alloc (ka #[.int .i64 amount] 252)).alloc (ka (frQ W H (.slice ao ps.length ca)) 206)).alloc (ka #[.int .i64 0,.int .i64 0,.slice none 0 0,.int .i64 0,.int .i64 0,.slice none 0 0] 206)=U at *
 refine HC.out.mono ?_
 rintro e w1 ⟨r,rfl,hr,hb1,hfr⟩
 have HR:=hide hr
 obtain ⟨ro,rc,rfl,x1,x2⟩:=hr
 clear x1 x2
 generalize (jz1R W H ps amount).length=N at *
 have t6:=al1 w1 (ka #[.int .i64 W,.int .i64 H,.slice ro N rc] 24)
 have hb2:=quJN hb1 (qUNz w1 (ka #[.int .i64 W,.int .i64 H,.slice ro N rc] 24))
 have HR2:=hide (HR.out.alloc (ka #[.int .i64 W,.int .i64 H,.slice ro N rc] 24))
 have b3:=(hb2.block _ hl3).trans a3
 obtain ⟨k0,k1,k2⟩:=z5EY t6
 have hsz:w.heap.size+2<U.heap.size:=hl3
 have HX:=hide (HR2.out.setRow hfr hsz (frQ W H (.slice ro N rc)))
 have HF:=hide (below_setRow (g:=w.heap.size+2) (HB.out.trans (hb2.mono HB.out.size)) (by omega) (frQ W H (.slice ro N rc)))
 have i1:(Tryz.prog.info? 206).map (·.size)=some (frQ W H (.slice ro N rc)).size:=by kernel_rfl
 have i3:(frQ W H (.slice ro N rc)).all (·.oneCell')=true:=by simp[Value.oneCell']
 have i4:(w1.alloc (ka #[.int .i64 W,.int .i64 H,.slice ro N rc] 24)).heap[w.heap.size+1+1]?=some (ka #[.int .i64 0,.int .i64 0,.slice none 0 0,.int .i64 0,.int .i64 0,.slice none 0 0] 206 (0,0)):=b3
 go_wp2_with (refine wpList_store_row rfl 206 _ _ rfl (w.heap.size+1+1) (frQ W H (.slice ro N rc)) rfl rfl _ _ i4 i1 rfl i3 ?_)
 have hUw:=HB.out.size
 obtain ⟨z0,z1,z2,z3,z4,z5⟩:=jcb2 (setRow_heap _ _ _ (frQ W H (.slice ro N rc)) _ _ i4)
 exact bodyPost_ret (v:=.tuple #[.agg (frQ W H (.slice ro N rc)),.int .i64 0]) (by simp[results,Tryz.results277,go_sem,z0,z1,z2,z3,z4,z5]) rfl ⟨_,rfl,HX.out,HF.out,hfr.mono hUw⟩
end Go.Proofs.YtfjeonehdlphiaaGreatDoor
namespace Go.Proofs.YtfjeonehdlphiaaGreatDoor
theorem qzi6 {a b:Int} {xs:List Int} (h:∀x∈xs,a≤x∧x≤b):allIn a b xs=true:=List.all_eq_true.2 fun x hx=>decide_eq_true (h x hx)
theorem jFYF {W H:Int} {zs:List Int} (h:q0fM W H zs=true) (f:Nat→Int) (hf:∀j,0≤f j∧f j≤65535):q0fM W H ((List.range zs.length).map f)=true:=by
 rw[jZMK,kg] at h ⊢
 refine ⟨by simpa using h.1,qzi6 fun x hx=>?_⟩
 obtain ⟨j,_,rfl⟩:=List.mem_map.1 hx
 exact hf j
theorem XeSE {p:Px} (h1:0≤p.1∧p.1≤65535) (h2:0≤p.2.1∧p.2.1≤65535) (h3:0≤p.2.2∧p.2.2≤65535):pxOk p=true :=
 qzi6 fun x hx=>by
  simp only[List.mem_cons,List.not_mem_nil,or_false] at hx
  rcases hx with rfl|rfl|rfl
  ·exact h1
  ·exact h2
  ·exact h3
theorem jaCX {W H:Int} {ps qs:List Px} (h:picOk W H ps=true) (hl:qs.length=ps.length) (hq:∀q∈qs,pxOk q=true):picOk W H qs=true:=by
 rw[picOk,kg] at h ⊢
 exact ⟨by rw[hl];exact h.1,List.all_eq_true.2 hq⟩
def dev1 (n:Plan) (W:Int) (zs:List Int):List Int:=levL W zs n.black n.white
def dev2 (n:Plan) (W H:Int) (zs:List Int):List Int:=repL W H (dev1 n W zs) n.spots
def dev3 (n:Plan) (W H:Int) (zs:List Int):List Int:=gaiL W (dev2 n W H zs) n.phase n.gains
def dev4 (n:Plan) (W H:Int) (zs:List Int):List Px:=fillL W H (dev3 n W H zs) n.phase
def dev5 (n:Plan) (W H:Int) (zs:List Int):List Px:=(dev4 n W H zs).map (mixP n.matrix)
def dev6 (n:Plan) (W H:Int) (zs:List Int):List Px:=(dev5 n W H zs).map (bendP n.curve)
def dev7 (n:Plan) (W H:Int) (zs:List Int):List Px:=jz1R W H (dev6 n W H zs) n.amount
theorem j8g5 (n:Plan) (W:Int) (zs:List Int):(dev1 n W zs).length=zs.length:=by simp[dev1,levL]
theorem zAmR (n:Plan) (W H:Int) (zs:List Int):(dev2 n W H zs).length=zs.length:=by simp[dev2,repL,j8g5]
theorem qvem (n:Plan) (W H:Int) (zs:List Int):(dev3 n W H zs).length=zs.length:=by simp[dev3,gaiL,zAmR]
theorem jByB (n:Plan) (W H:Int) (zs:List Int):(dev4 n W H zs).length=zs.length:=by simp[dev4,ji4F,qvem]
theorem XEJ7 (n:Plan) (W H:Int) (zs:List Int):(dev5 n W H zs).length=zs.length:=by simp[dev5,jByB]
theorem qyIC (n:Plan) (W H:Int) (zs:List Int):(dev6 n W H zs).length=zs.length:=by simp[dev6,XEJ7]
theorem zrLo (n:Plan) (W H:Int) (zs:List Int):(dev7 n W H zs).length=zs.length:=by simp[dev7,jz1R,qyIC]
structure DevOk (n:Plan) (W H:Int) (zs:List Int):Prop where
 plane:q0fM W H zs=true
 phase:qdne n.phase=true
 levels:zN6Q n.black n.white=true
 gains:j1E7 n.gains=true
 matrix:matOk n.matrix=true
 amount:XbQH n.amount=true
 many:(n.spots.length:Int)≤64
 spots:XepW W H n.spots=true
 curve:zamz n.curve=true
section
variable {n:Plan} {W H:Int} {zs:List Int} (h:DevOk n W H zs)
include h
theorem DevOk.e1:levE W H zs n.black n.white=0:=by rw[levE,if_pos h.plane,if_pos h.levels]
theorem DevOk.p1:q0fM W H (dev1 n W zs)=true:=jFYF h.plane _ fun j=>zFh8 _
theorem DevOk.e2:repE W H (dev1 n W zs) n.spots=0:=by rw[repE,if_pos h.p1,if_pos h.many,if_pos h.spots]
theorem DevOk.p2:q0fM W H (dev2 n W H zs)=true:=jFYF h.p1 _ fun j=>by
 have hz:=fun j=>XWrv (XAOl h.p1) j
 unfold repV
 split
 ·exact hz j
 ·exact jn73 hz _ _ _ _ _
theorem DevOk.e3:gaiE W H (dev2 n W H zs) n.phase n.gains=0:=by rw[gaiE,if_pos h.p2,if_pos ⟨h.phase,h.gains⟩]
theorem DevOk.p3:q0fM W H (dev3 n W H zs)=true:=jFYF h.p2 _ fun j=>zFh8 _
theorem DevOk.e4:fillE W H (dev3 n W H zs) n.phase=0:=by rw[fillE,if_pos h.p3,if_pos h.phase]
theorem DevOk.p4:picOk W H (dev4 n W H zs)=true:=jSvB _ h.p3
theorem DevOk.e5:mixE W H (dev4 n W H zs) n.matrix=0:=by rw[mixE,if_pos h.p4,if_pos h.matrix]
theorem DevOk.p5:picOk W H (dev5 n W H zs)=true:=jaCX h.p4 (by simp[dev5]) fun q hq=>by
 obtain ⟨p,_,rfl⟩:=List.mem_map.1 hq
 exact XeSE (zFh8 _) (zFh8 _) (zFh8 _)
theorem DevOk.e6:bendE W H (dev5 n W H zs) n.curve=0:=by rw[bendE,if_pos ⟨h.p5,h.curve⟩]
theorem DevOk.p6:picOk W H (dev6 n W H zs)=true:=jaCX h.p5 (by simp[dev6]) fun q hq=>by
 obtain ⟨p,hp,rfl⟩:=List.mem_map.1 hq
 have hps:=(XMjn h.p5).2.2.2
 have hpo:pxOk p=true:=List.all_eq_true.1 hps p hp
 have hpp:(0≤p.1∧p.1≤65535)∧(0≤p.2.1∧p.2.1≤65535)∧(0≤p.2.2∧p.2.2≤65535):=by simpa [pxOk,allIn] using hpo
 have hc:=zqz3 h.curve
 have hr:∀x,0≤x∧x≤65535→0≤qy0p n.curve x∧qy0p n.curve x≤65535:=fun x hx=>by
  obtain ⟨i,hi⟩:=jIzf hc hx.2
  exact qgIX hc hi hx.1
 exact XeSE (hr _ hpp.1) (hr _ hpp.2.1) (hr _ hpp.2.2)
theorem DevOk.e7:joyM W H (dev6 n W H zs) n.amount=0:=by rw[joyM,if_pos h.p6,if_pos h.amount]
theorem DevOk.p7:picOk W H (dev7 n W H zs)=true:=jaCX h.p6 (by simp[dev7,jz1R]) fun q hq=>by
 obtain ⟨j,_,rfl⟩:=List.mem_map.1 hq
 exact XeSE (zFh8 _) (zFh8 _) (zFh8 _)
end
end Go.Proofs.YtfjeonehdlphiaaGreatDoor
namespace Go.Proofs.YtfjeonehdlphiaaGreatDoor
open Go.RowKit
abbrev stA (n:Plan) (sv cv:Value):Array Value:=#[.iface 240 (.agg #[.int .i64 (n.black 0),.int .i64 (n.black 1),.int .i64 (n.black 2),.int .i64 (n.black 3),.int .i64 n.white]),.iface 242 (.agg #[sv]),.iface 244 (.agg #[.int .i64 n.phase,.int .i64 (n.gains 0),.int .i64 (n.gains 1),.int .i64 (n.gains 2)]),.iface 246 (.agg #[.int .i64 n.phase]),.iface 248 (.agg #[.int .i64 (n.matrix 0),.int .i64 (n.matrix 1),.int .i64 (n.matrix 2),.int .i64 (n.matrix 3),.int .i64 (n.matrix 4),.int .i64 (n.matrix 5),.int .i64 (n.matrix 6),.int .i64 (n.matrix 7),.int .i64 (n.matrix 8)]),.iface 250 (.agg #[cv]),.iface 252 (.agg #[.int .i64 n.amount])]
theorem zrcF (n:Plan) (sv cv:Value) (w:World) (hp:X1uD w n sv cv) :
  Calls Tryz.prog 171 #[.agg (planA n sv cv)] w fun e w'=>∃b,e=.returned (.slice (some ⟨b,0,none⟩) 7 7)∧w.heap.size≤b∧w'.heap[b]?=some (.cells (stA n sv cv) 210 (0,0))∧Below w.heap.size w w':=by
 obtain ⟨⟨lo,lc,rfl,hll,_⟩,⟨ko,kc,rfl,hkl,_⟩⟩:=hp
 have a1:=al1 w (ka (planA n (.slice lo n.spots.length lc) (.slice ko n.curve.length kc)) 51)
 obtain ⟨c0,c1,c2,c3,c4,c5,c6,c7,c8,c9,c10,c11,c12,c13,c14,c15,c16,c17,c18,c19,c20⟩:=qH9I a1
 have HB:=hide (be2 w (ka (planA n (.slice lo n.spots.length lc) (.slice ko n.curve.length kc)) 51) (ka (stA n (.slice lo n.spots.length lc) (.slice ko n.curve.length kc)) 210))
 have HS:=hide (al2 w (ka (planA n (.slice lo n.spots.length lc) (.slice ko n.curve.length kc)) 51) (ka (stA n (.slice lo n.spots.length lc) (.slice ko n.curve.length kc)) 210)).2
 go_enter Tryz.func171,Tryz.ntmps171
 go_wp2
 go_ret
 exact ⟨w.heap.size+1,rfl,Nat.le_succ _,HS.out,HB.out⟩
def FrIs (n:Plan) (W H:Int) (zs:List Int) (B F:Nat) (wr:World):Nat→Prop
 | 0=>∃r,wr.heap[F]?=some (.cells (frP W H r) 206 (0,0))∧jCvT wr r zs
 | 1=>∃r,wr.heap[F]?=some (.cells (frP W H r) 206 (0,0))∧jCvT wr r (dev1 n W zs)
 | 2=>∃r,wr.heap[F]?=some (.cells (frP W H r) 206 (0,0))∧jCvT wr r (dev2 n W H zs)
 | 3=>∃r,wr.heap[F]?=some (.cells (frP W H r) 206 (0,0))∧jCvT wr r (dev3 n W H zs)
 | 4=>∃r,wr.heap[F]?=some (.cells (frQ W H r) 206 (0,0))∧IsPix wr r (dev4 n W H zs)
 | 5=>∃r,wr.heap[F]?=some (.cells (frQ W H r) 206 (0,0))∧IsPix wr r (dev5 n W H zs)
 | 6=>∃r,wr.heap[F]?=some (.cells (frQ W H r) 206 (0,0))∧IsPix wr r (dev6 n W H zs)
 | _=>∃r,wr.heap[F]?=some (.cells (frQ W H r) 206 (0,0))∧IsPix wr r (dev7 n W H zs)∧Fresh B r
def DvK (w W1:World) (F:Nat) (wr:World):Prop:=(∀b,b<W1.heap.size→b≠F→wr.heap[b]?=W1.heap[b]?)∧W1.heap.size≤wr.heap.size∧Below w.heap.size w wr
theorem DvK.next {w W1:World} {F:Nat} {wr V:World} (h:DvK w W1 F wr) (hF:w.heap.size≤F) (hV:Below wr.heap.size wr V) (cs:Array Value):DvK w W1 F (V.setRow F cs) :=
 ⟨fun b hb hne=>(setRow_other V F b cs hne).trans ((hV.block b (Nat.lt_of_lt_of_le hb h.2.1)).trans (h.1 b hb hne)),by rw[setRow_size];exact Nat.le_trans h.2.1 hV.size,below_setRow (h.2.2.trans (hV.mono h.2.2.size)) hF cs⟩
theorem meth0 (n:Plan) (w:World):(method 405 240 (.agg #[.int .i64 (n.black 0),.int .i64 (n.black 1),.int .i64 (n.black 2),.int .i64 (n.black 3),.int .i64 n.white]) "darkslide/line.run").run Tryz.prog w=.ok (253,.agg #[.int .i64 (n.black 0),.int .i64 (n.black 1),.int .i64 (n.black 2),.int .i64 (n.black 3),.int .i64 n.white]) w:=by kernel_rfl
theorem meth1 (lo:Option Addr) (ll lc:Nat) (w:World):(method 405 242 (.agg #[.slice lo ll lc]) "darkslide/line.run").run Tryz.prog w=.ok (258,.agg #[.slice lo ll lc]) w:=by kernel_rfl
theorem meth2 (n:Plan) (w:World):(method 405 244 (.agg #[.int .i64 n.phase,.int .i64 (n.gains 0),.int .i64 (n.gains 1),.int .i64 (n.gains 2)]) "darkslide/line.run").run Tryz.prog w=.ok (264,.agg #[.int .i64 n.phase,.int .i64 (n.gains 0),.int .i64 (n.gains 1),.int .i64 (n.gains 2)]) w:=by kernel_rfl
theorem meth3 (n:Plan) (w:World):(method 405 246 (.agg #[.int .i64 n.phase]) "darkslide/line.run").run Tryz.prog w=.ok (267,.agg #[.int .i64 n.phase]) w:=by kernel_rfl
theorem meth4 (n:Plan) (w:World):(method 405 248 (.agg #[.int .i64 (n.matrix 0),.int .i64 (n.matrix 1),.int .i64 (n.matrix 2),.int .i64 (n.matrix 3),.int .i64 (n.matrix 4),.int .i64 (n.matrix 5),.int .i64 (n.matrix 6),.int .i64 (n.matrix 7),.int .i64 (n.matrix 8)]) "darkslide/line.run").run Tryz.prog w=.ok (268,.agg #[.int .i64 (n.matrix 0),.int .i64 (n.matrix 1),.int .i64 (n.matrix 2),.int .i64 (n.matrix 3),.int .i64 (n.matrix 4),.int .i64 (n.matrix 5),.int .i64 (n.matrix 6),.int .i64 (n.matrix 7),.int .i64 (n.matrix 8)]) w:=by kernel_rfl
theorem meth5 (lo:Option Addr) (ll lc:Nat) (w:World):(method 405 250 (.agg #[.slice lo ll lc]) "darkslide/line.run").run Tryz.prog w=.ok (274,.agg #[.slice lo ll lc]) w:=by kernel_rfl
theorem meth6 (n:Plan) (w:World):(method 405 252 (.agg #[.int .i64 n.amount]) "darkslide/line.run").run Tryz.prog w=.ok (277,.agg #[.int .i64 n.amount]) w:=by kernel_rfl
theorem j0Kd (n:Plan) (sv cv:Value) (W H:Int) (v:Value) (zs:List Int) (w:World) (hp:X1uD w n sv cv) (hls:∀j,j<n.spots.length→ptWf (ptAt n.spots j)) (hv:jCvT w v zs) (hD:DevOk n W H zs) :
  Calls Tryz.prog 117 #[.agg (planA n sv cv),.agg #[.int .i64 W,.int .i64 H,v]] w fun e w'=>∃r,e=.returned (.tuple #[.agg #[.int .i64 W,.int .i64 H,r],.int .i64 0])∧IsPix w' r (dev7 n W H zs)∧Below w.heap.size w w'∧Fresh w.heap.size r:=by
 have HP:=hide hp
 have HV:=hide hv
 have HD:=hide hD
 clear hD
 obtain ⟨⟨lo,lc,rfl,hll,_⟩,⟨ko,kc,rfl,hkl,_⟩⟩:=hp
 obtain ⟨ao,ca,rfl,_,_⟩:=hv
 obtain ⟨a1,a2,a3,a4⟩:=al4 w (ka (planA n (.slice lo n.spots.length lc) (.slice ko n.curve.length kc)) 51) (ka #[.int .i64 W,.int .i64 H,.slice ao zs.length ca] 54) (ka #[.int .i64 0,.int .i64 0,.slice none 0 0] 24) (ka (frP W H (.slice ao zs.length ca)) 206)
 have HB:=hide (be4 w (ka (planA n (.slice lo n.spots.length lc) (.slice ko n.curve.length kc)) 51) (ka #[.int .i64 W,.int .i64 H,.slice ao zs.length ca] 54) (ka #[.int .i64 0,.int .i64 0,.slice none 0 0] 24) (ka (frP W H (.slice ao zs.length ca)) 206))
 have HST:=hide (fun (u:World) (hu:Below w.heap.size w u)=>zrcF n _ _ u (HP.out.below hu (kf _)))
 obtain ⟨p0,p1,p2⟩:=z5EY (al3 w (ka (planA n (.slice lo n.spots.length lc) (.slice ko n.curve.length kc)) 51) (ka #[.int .i64 W,.int .i64 H,.slice ao zs.length ca] 54) (ka #[.int .i64 0,.int .i64 0,.slice none 0 0] 24)).2.1
 go_enter Tryz.func117,Tryz.ntmps117
 go_wp2_with (refine wpList_load_row rfl 51 _ rfl _ rfl _ _ _ _ a1 Tryz.underlying51 rfl (by kernel_rfl) ?_)
 have hl1:=(kb.1 a1).1
 have hl3:=(kb.1 a3).1
 have hl4:=(kb.1 a4).1
 clear p0 p1 p2
 generalize (((w.alloc (ka (planA n (.slice lo n.spots.length lc) (.slice ko n.curve.length kc)) 51)).alloc (ka #[.int .i64 W,.int .i64 H,.slice ao zs.length ca] 54)).alloc (ka #[.int .i64 0,.int .i64 0,.slice none 0 0] 24)).alloc (ka (frP W H (.slice ao zs.length ca)) 206)=U at *
 refine (HST.out _ HB.out).mono ?_
 rintro e w1 ⟨sb,rfl,hsb,hst,hb1⟩
 have hls1:=(kb.1 hst).1
 have hsz1:=hb1.size
 have f4:=(hb1.block _ hl4).trans a4
 have g3:=(hb1.block _ hl3).trans a3
 have HBW:=hide (HB.out.trans (hb1.mono HB.out.size))
 have HI0:=hide (HV.out.below HBW.out (kf _))
 go_wp2_with fail
 go_loopw [16] (fun i wr=>∃k:Nat,k≤7∧i=.int .i64 k∧FrIs n W H zs (w.heap.size+4) (w.heap.size+3) wr k∧DvK w w1 (w.heap.size+3) wr) (fun i _=>7-(intOf i).toNat)
 case atStart=>exact ⟨0,by omega,rfl,⟨_,f4,HI0.out⟩,fun _ _ _=>rfl,kf _,HBW.out⟩
 case round =>
  clear f4 HI0
  obtain ⟨k,hk,rfl,hF,hK⟩:=hrel
  have hst1:=(hK.1 sb hls1 (by omega)).trans hst
  have g3r:=(hK.1 (w.heap.size+2) (by omega) (by omega)).trans g3
  have HBr:=hide hK.2.2
  have HSPr:=hide (HP.out.spots.below HBr.out (kf _))
  have HCVr:=hide (HP.out.curve.below HBr.out (kf _))
  have HNX:=hide (fun (V:World) (hV:Below wr.heap.size wr V) (cs:Array Value)=>hK.next (show w.heap.size≤w.heap.size+3 by omega) hV cs)
  have hszr:=hK.2.1
  clear hK
  rcases (show k=0∨k=1∨k=2∨k=3∨k=4∨k=5∨k=6∨k=7 by omega) with rfl|rfl|rfl|rfl|rfl|rfl|rfl|rfl
  ·obtain ⟨r,f4,hr⟩:=hF
   have HR:=hide hr
   obtain ⟨ro,rc,rfl,x1,x2⟩:=hr
   clear x1 x2
   have HRUN:=hide (jrQv W H _ zs n.black n.white _ HR.out HD.out.e1)
   obtain ⟨N,hN⟩:∃N,(zs).length=N:=⟨_,rfl⟩
   rw[hN] at f4 HRUN
   clear hN
   have ck:wr.cell? ⟨sb,0,none⟩=some (.iface 240 (.agg #[.int .i64 (n.black 0),.int .i64 (n.black 1),.int .i64 (n.black 2),.int .i64 (n.black 3),.int .i64 n.white])):=by rw[ke hst1];rfl
   have hm:=meth0 n
   have hna:=enters_of Tryz.func253 (by kernel_rfl) rfl
   obtain ⟨q0,q1,q2,q3,q4,q5⟩:=jcb2 (b:=w.heap.size+1+1+1) f4
   go_wp2_with fail
   refine HRUN.out.mono ?_
   rintro e V1 ⟨r2,rfl,hr2,hb1,hfr2⟩
   have HR2:=hide hr2
   obtain ⟨so,sc,rfl,x1,x2⟩:=hr2
   clear x1 x2
   obtain ⟨N2,hN2⟩:∃N2,(dev1 n W zs).length=N2:=⟨_,rfl⟩
   first|rw[show _=N2 from hN2] at HR2 hfr2 ⊢ | (change (levL W zs n.black n.white).length=N2 at hN2;rw[hN2] at HR2 hfr2 ⊢)
   clear hN2
   have t9:=al1 V1 (ka (frP W H (.slice so N2 sc)) 206)
   have hb2:=quJN hb1 (qUNz V1 (ka (frP W H (.slice so N2 sc)) 206))
   have HR3:=hide (HR2.out.alloc (ka (frP W H (.slice so N2 sc)) 206))
   have i1:(Tryz.prog.info? 206).map (·.size)=some (frP W H (.slice so N2 sc)).size:=by kernel_rfl
   have i3:(frP W H (.slice so N2 sc)).all (·.oneCell')=true:=by simp[Value.oneCell']
   have hl4r:=(kb.1 f4).1
   have i4:(V1.alloc (ka (frP W H (.slice so N2 sc)) 206)).heap[w.heap.size+1+1+1]?=some (.cells (frP W H (.slice ro N rc)) 206 (0,0)):=(hb2.block _ hl4r).trans f4
   have HX:=hide (HR3.out.setRow hfr2 (show w.heap.size+1+1+1<wr.heap.size from hl4r) (frP W H (.slice so N2 sc)))
   have HN:=hide (HNX.out _ hb2 (frP W H (.slice so N2 sc)))
   have HBX:=hide (setRow_heap _ _ _ (frP W H (.slice so N2 sc)) _ _ i4)
   have hwr:=HBr.out.size
   have HFR:=hide (hfr2.mono (show w.heap.size+4≤wr.heap.size by omega))
   clear q0 q1 q2 q3 q4 q5 ck hm hna
   go_wp2_with (first|refine wpList_load_row rfl 206 _ rfl _ rfl _ _ _ _ t9 Tryz.underlying206 rfl (by kernel_rfl) ?_|refine wpList_store_row rfl 206 _ _ rfl (w.heap.size+1+1+1) (frP W H (.slice so N2 sc)) rfl rfl _ _ i4 i1 rfl i3 ?_)
   go_roundw
   case rel=>exact ⟨1,by omega,rfl,⟨_,HBX.out,HX.out⟩,HN.out⟩
   case measure=>simp[intOf]
  ·obtain ⟨r,f4,hr⟩:=hF
   have HR:=hide hr
   obtain ⟨ro,rc,rfl,x1,x2⟩:=hr
   clear x1 x2
   have HRUN:=hide (qxTT W H _ (dev1 n W zs) _ n.spots hls _ HR.out HSPr.out HD.out.e2)
   obtain ⟨N,hN⟩:∃N,(dev1 n W zs).length=N:=⟨_,rfl⟩
   rw[hN] at f4 HRUN
   clear hN
   have ck:wr.cell? ⟨sb,1,none⟩=some (.iface 242 (.agg #[.slice lo n.spots.length lc])):=by rw[ke hst1];rfl
   have hm:=meth1 lo n.spots.length lc
   have hna:=enters_of Tryz.func258 (by kernel_rfl) rfl
   obtain ⟨q0,q1,q2,q3,q4,q5⟩:=jcb2 (b:=w.heap.size+1+1+1) f4
   go_wp2_with fail
   refine HRUN.out.mono ?_
   rintro e V1 ⟨r2,rfl,hr2,hb1,hfr2⟩
   have HR2:=hide hr2
   obtain ⟨so,sc,rfl,x1,x2⟩:=hr2
   clear x1 x2
   obtain ⟨N2,hN2⟩:∃N2,(dev2 n W H zs).length=N2:=⟨_,rfl⟩
   first|rw[show _=N2 from hN2] at HR2 hfr2 ⊢ | (change (repL W H (dev1 n W zs) n.spots).length=N2 at hN2;rw[hN2] at HR2 hfr2 ⊢)
   clear hN2
   have t9:=al1 V1 (ka (frP W H (.slice so N2 sc)) 206)
   have hb2:=quJN hb1 (qUNz V1 (ka (frP W H (.slice so N2 sc)) 206))
   have HR3:=hide (HR2.out.alloc (ka (frP W H (.slice so N2 sc)) 206))
   have i1:(Tryz.prog.info? 206).map (·.size)=some (frP W H (.slice so N2 sc)).size:=by kernel_rfl
   have i3:(frP W H (.slice so N2 sc)).all (·.oneCell')=true:=by simp[Value.oneCell']
   have hl4r:=(kb.1 f4).1
   have i4:(V1.alloc (ka (frP W H (.slice so N2 sc)) 206)).heap[w.heap.size+1+1+1]?=some (.cells (frP W H (.slice ro N rc)) 206 (0,0)):=(hb2.block _ hl4r).trans f4
   have HX:=hide (HR3.out.setRow hfr2 (show w.heap.size+1+1+1<wr.heap.size from hl4r) (frP W H (.slice so N2 sc)))
   have HN:=hide (HNX.out _ hb2 (frP W H (.slice so N2 sc)))
   have HBX:=hide (setRow_heap _ _ _ (frP W H (.slice so N2 sc)) _ _ i4)
   have hwr:=HBr.out.size
   have HFR:=hide (hfr2.mono (show w.heap.size+4≤wr.heap.size by omega))
   clear q0 q1 q2 q3 q4 q5 ck hm hna
   go_wp2_with (first|refine wpList_load_row rfl 206 _ rfl _ rfl _ _ _ _ t9 Tryz.underlying206 rfl (by kernel_rfl) ?_|refine wpList_store_row rfl 206 _ _ rfl (w.heap.size+1+1+1) (frP W H (.slice so N2 sc)) rfl rfl _ _ i4 i1 rfl i3 ?_)
   go_roundw
   case rel=>exact ⟨2,by omega,rfl,⟨_,HBX.out,HX.out⟩,HN.out⟩
   case measure=>simp[intOf]
  ·obtain ⟨r,f4,hr⟩:=hF
   have HR:=hide hr
   obtain ⟨ro,rc,rfl,x1,x2⟩:=hr
   clear x1 x2
   have HRUN:=hide (qlQT W H _ (dev2 n W H zs) n.phase n.gains _ HR.out HD.out.e3)
   obtain ⟨N,hN⟩:∃N,(dev2 n W H zs).length=N:=⟨_,rfl⟩
   rw[hN] at f4 HRUN
   clear hN
   have ck:wr.cell? ⟨sb,2,none⟩=some (.iface 244 (.agg #[.int .i64 n.phase,.int .i64 (n.gains 0),.int .i64 (n.gains 1),.int .i64 (n.gains 2)])):=by rw[ke hst1];rfl
   have hm:=meth2 n
   have hna:=enters_of Tryz.func264 (by kernel_rfl) rfl
   obtain ⟨q0,q1,q2,q3,q4,q5⟩:=jcb2 (b:=w.heap.size+1+1+1) f4
   go_wp2_with fail
   refine HRUN.out.mono ?_
   rintro e V1 ⟨r2,rfl,hr2,hb1,hfr2⟩
   have HR2:=hide hr2
   obtain ⟨so,sc,rfl,x1,x2⟩:=hr2
   clear x1 x2
   obtain ⟨N2,hN2⟩:∃N2,(dev3 n W H zs).length=N2:=⟨_,rfl⟩
   first|rw[show _=N2 from hN2] at HR2 hfr2 ⊢ | (change (gaiL W (dev2 n W H zs) n.phase n.gains).length=N2 at hN2;rw[hN2] at HR2 hfr2 ⊢)
   clear hN2
   have t9:=al1 V1 (ka (frP W H (.slice so N2 sc)) 206)
   have hb2:=quJN hb1 (qUNz V1 (ka (frP W H (.slice so N2 sc)) 206))
   have HR3:=hide (HR2.out.alloc (ka (frP W H (.slice so N2 sc)) 206))
   have i1:(Tryz.prog.info? 206).map (·.size)=some (frP W H (.slice so N2 sc)).size:=by kernel_rfl
   have i3:(frP W H (.slice so N2 sc)).all (·.oneCell')=true:=by simp[Value.oneCell']
   have hl4r:=(kb.1 f4).1
   have i4:(V1.alloc (ka (frP W H (.slice so N2 sc)) 206)).heap[w.heap.size+1+1+1]?=some (.cells (frP W H (.slice ro N rc)) 206 (0,0)):=(hb2.block _ hl4r).trans f4
   have HX:=hide (HR3.out.setRow hfr2 (show w.heap.size+1+1+1<wr.heap.size from hl4r) (frP W H (.slice so N2 sc)))
   have HN:=hide (HNX.out _ hb2 (frP W H (.slice so N2 sc)))
   have HBX:=hide (setRow_heap _ _ _ (frP W H (.slice so N2 sc)) _ _ i4)
   have hwr:=HBr.out.size
   have HFR:=hide (hfr2.mono (show w.heap.size+4≤wr.heap.size by omega))
   clear q0 q1 q2 q3 q4 q5 ck hm hna
   go_wp2_with (first|refine wpList_load_row rfl 206 _ rfl _ rfl _ _ _ _ t9 Tryz.underlying206 rfl (by kernel_rfl) ?_|refine wpList_store_row rfl 206 _ _ rfl (w.heap.size+1+1+1) (frP W H (.slice so N2 sc)) rfl rfl _ _ i4 i1 rfl i3 ?_)
   go_roundw
   case rel=>exact ⟨3,by omega,rfl,⟨_,HBX.out,HX.out⟩,HN.out⟩
   case measure=>simp[intOf]
  ·obtain ⟨r,f4,hr⟩:=hF
   have HR:=hide hr
   obtain ⟨ro,rc,rfl,x1,x2⟩:=hr
   clear x1 x2
   have HRUN:=hide (qSHV W H _ (dev3 n W H zs) n.phase _ HR.out HD.out.e4)
   obtain ⟨N,hN⟩:∃N,(dev3 n W H zs).length=N:=⟨_,rfl⟩
   rw[hN] at f4 HRUN
   clear hN
   have ck:wr.cell? ⟨sb,3,none⟩=some (.iface 246 (.agg #[.int .i64 n.phase])):=by rw[ke hst1];rfl
   have hm:=meth3 n
   have hna:=enters_of Tryz.func267 (by kernel_rfl) rfl
   obtain ⟨q0,q1,q2,q3,q4,q5⟩:=jcb2 (b:=w.heap.size+1+1+1) f4
   go_wp2_with fail
   refine HRUN.out.mono ?_
   rintro e V1 ⟨r2,rfl,hr2,hb1,hfr2⟩
   have HR2:=hide hr2
   obtain ⟨so,sc,rfl,x1,x2⟩:=hr2
   clear x1 x2
   obtain ⟨N2,hN2⟩:∃N2,(dev4 n W H zs).length=N2:=⟨_,rfl⟩
   first|rw[show _=N2 from hN2] at HR2 hfr2 ⊢ | (change (fillL W H (dev3 n W H zs) n.phase).length=N2 at hN2;rw[hN2] at HR2 hfr2 ⊢)
   clear hN2
   have t9:=al1 V1 (ka (frQ W H (.slice so N2 sc)) 206)
   have hb2:=quJN hb1 (qUNz V1 (ka (frQ W H (.slice so N2 sc)) 206))
   have HR3:=hide (HR2.out.alloc (ka (frQ W H (.slice so N2 sc)) 206))
   have i1:(Tryz.prog.info? 206).map (·.size)=some (frQ W H (.slice so N2 sc)).size:=by kernel_rfl
   have i3:(frQ W H (.slice so N2 sc)).all (·.oneCell')=true:=by simp[Value.oneCell']
   have hl4r:=(kb.1 f4).1
   have i4:(V1.alloc (ka (frQ W H (.slice so N2 sc)) 206)).heap[w.heap.size+1+1+1]?=some (.cells (frP W H (.slice ro N rc)) 206 (0,0)):=(hb2.block _ hl4r).trans f4
   have HX:=hide (HR3.out.setRow hfr2 (show w.heap.size+1+1+1<wr.heap.size from hl4r) (frQ W H (.slice so N2 sc)))
   have HN:=hide (HNX.out _ hb2 (frQ W H (.slice so N2 sc)))
   have HBX:=hide (setRow_heap _ _ _ (frQ W H (.slice so N2 sc)) _ _ i4)
   have hwr:=HBr.out.size
   have HFR:=hide (hfr2.mono (show w.heap.size+4≤wr.heap.size by omega))
   clear q0 q1 q2 q3 q4 q5 ck hm hna
   go_wp2_with (first|refine wpList_load_row rfl 206 _ rfl _ rfl _ _ _ _ t9 Tryz.underlying206 rfl (by kernel_rfl) ?_|refine wpList_store_row rfl 206 _ _ rfl (w.heap.size+1+1+1) (frQ W H (.slice so N2 sc)) rfl rfl _ _ i4 i1 rfl i3 ?_)
   go_roundw
   case rel=>exact ⟨4,by omega,rfl,⟨_,HBX.out,HX.out⟩,HN.out⟩
   case measure=>simp[intOf]
  ·obtain ⟨r,f4,hr⟩:=hF
   have HR:=hide hr
   obtain ⟨ro,rc,rfl,x1,x2⟩:=hr
   clear x1 x2
   have HRUN:=hide (jpcW W H _ (dev4 n W H zs) n.matrix _ HR.out HD.out.e5)
   obtain ⟨N,hN⟩:∃N,(dev4 n W H zs).length=N:=⟨_,rfl⟩
   rw[hN] at f4 HRUN
   clear hN
   have ck:wr.cell? ⟨sb,4,none⟩=some (.iface 248 (.agg #[.int .i64 (n.matrix 0),.int .i64 (n.matrix 1),.int .i64 (n.matrix 2),.int .i64 (n.matrix 3),.int .i64 (n.matrix 4),.int .i64 (n.matrix 5),.int .i64 (n.matrix 6),.int .i64 (n.matrix 7),.int .i64 (n.matrix 8)])):=by rw[ke hst1];rfl
   have hm:=meth4 n
   have hna:=enters_of Tryz.func268 (by kernel_rfl) rfl
   obtain ⟨q0,q1,q2,q3,q4,q5⟩:=jcb2 (b:=w.heap.size+1+1+1) f4
   go_wp2_with fail
   refine HRUN.out.mono ?_
   rintro e V1 ⟨r2,rfl,hr2,hb1,hfr2⟩
   have HR2:=hide hr2
   obtain ⟨so,sc,rfl,x1,x2⟩:=hr2
   clear x1 x2
   obtain ⟨N2,hN2⟩:∃N2,(dev5 n W H zs).length=N2:=⟨_,rfl⟩
   first|rw[show _=N2 from hN2] at HR2 hfr2 ⊢ | (change ((dev4 n W H zs).map (mixP n.matrix)).length=N2 at hN2;rw[hN2] at HR2 hfr2 ⊢)
   clear hN2
   have t9:=al1 V1 (ka (frQ W H (.slice so N2 sc)) 206)
   have hb2:=quJN hb1 (qUNz V1 (ka (frQ W H (.slice so N2 sc)) 206))
   have HR3:=hide (HR2.out.alloc (ka (frQ W H (.slice so N2 sc)) 206))
   have i1:(Tryz.prog.info? 206).map (·.size)=some (frQ W H (.slice so N2 sc)).size:=by kernel_rfl
   have i3:(frQ W H (.slice so N2 sc)).all (·.oneCell')=true:=by simp[Value.oneCell']
   have hl4r:=(kb.1 f4).1
   have i4:(V1.alloc (ka (frQ W H (.slice so N2 sc)) 206)).heap[w.heap.size+1+1+1]?=some (.cells (frQ W H (.slice ro N rc)) 206 (0,0)):=(hb2.block _ hl4r).trans f4
   have HX:=hide (HR3.out.setRow hfr2 (show w.heap.size+1+1+1<wr.heap.size from hl4r) (frQ W H (.slice so N2 sc)))
   have HN:=hide (HNX.out _ hb2 (frQ W H (.slice so N2 sc)))
   have HBX:=hide (setRow_heap _ _ _ (frQ W H (.slice so N2 sc)) _ _ i4)
   have hwr:=HBr.out.size
   have HFR:=hide (hfr2.mono (show w.heap.size+4≤wr.heap.size by omega))
   clear q0 q1 q2 q3 q4 q5 ck hm hna
   go_wp2_with (first|refine wpList_load_row rfl 206 _ rfl _ rfl _ _ _ _ t9 Tryz.underlying206 rfl (by kernel_rfl) ?_|refine wpList_store_row rfl 206 _ _ rfl (w.heap.size+1+1+1) (frQ W H (.slice so N2 sc)) rfl rfl _ _ i4 i1 rfl i3 ?_)
   go_roundw
   case rel=>exact ⟨5,by omega,rfl,⟨_,HBX.out,HX.out⟩,HN.out⟩
   case measure=>simp[intOf]
  ·obtain ⟨r,f4,hr⟩:=hF
   have HR:=hide hr
   obtain ⟨ro,rc,rfl,x1,x2⟩:=hr
   clear x1 x2
   have HRUN:=hide (XKl8 W H _ (dev5 n W H zs) _ n.curve _ HR.out HCVr.out HD.out.e6)
   obtain ⟨N,hN⟩:∃N,(dev5 n W H zs).length=N:=⟨_,rfl⟩
   rw[hN] at f4 HRUN
   clear hN
   have ck:wr.cell? ⟨sb,5,none⟩=some (.iface 250 (.agg #[.slice ko n.curve.length kc])):=by rw[ke hst1];rfl
   have hm:=meth5 ko n.curve.length kc
   have hna:=enters_of Tryz.func274 (by kernel_rfl) rfl
   obtain ⟨q0,q1,q2,q3,q4,q5⟩:=jcb2 (b:=w.heap.size+1+1+1) f4
   go_wp2_with fail
   refine HRUN.out.mono ?_
   rintro e V1 ⟨r2,rfl,hr2,hb1,hfr2⟩
   have HR2:=hide hr2
   obtain ⟨so,sc,rfl,x1,x2⟩:=hr2
   clear x1 x2
   obtain ⟨N2,hN2⟩:∃N2,(dev6 n W H zs).length=N2:=⟨_,rfl⟩
   first|rw[show _=N2 from hN2] at HR2 hfr2 ⊢ | (change ((dev5 n W H zs).map (bendP n.curve)).length=N2 at hN2;rw[hN2] at HR2 hfr2 ⊢)
   clear hN2
   have t9:=al1 V1 (ka (frQ W H (.slice so N2 sc)) 206)
   have hb2:=quJN hb1 (qUNz V1 (ka (frQ W H (.slice so N2 sc)) 206))
   have HR3:=hide (HR2.out.alloc (ka (frQ W H (.slice so N2 sc)) 206))
   have i1:(Tryz.prog.info? 206).map (·.size)=some (frQ W H (.slice so N2 sc)).size:=by kernel_rfl
   have i3:(frQ W H (.slice so N2 sc)).all (·.oneCell')=true:=by simp[Value.oneCell']
   have hl4r:=(kb.1 f4).1
   have i4:(V1.alloc (ka (frQ W H (.slice so N2 sc)) 206)).heap[w.heap.size+1+1+1]?=some (.cells (frQ W H (.slice ro N rc)) 206 (0,0)):=(hb2.block _ hl4r).trans f4
   have HX:=hide (HR3.out.setRow hfr2 (show w.heap.size+1+1+1<wr.heap.size from hl4r) (frQ W H (.slice so N2 sc)))
   have HN:=hide (HNX.out _ hb2 (frQ W H (.slice so N2 sc)))
   have HBX:=hide (setRow_heap _ _ _ (frQ W H (.slice so N2 sc)) _ _ i4)
   have hwr:=HBr.out.size
   have HFR:=hide (hfr2.mono (show w.heap.size+4≤wr.heap.size by omega))
   clear q0 q1 q2 q3 q4 q5 ck hm hna
   go_wp2_with (first|refine wpList_load_row rfl 206 _ rfl _ rfl _ _ _ _ t9 Tryz.underlying206 rfl (by kernel_rfl) ?_|refine wpList_store_row rfl 206 _ _ rfl (w.heap.size+1+1+1) (frQ W H (.slice so N2 sc)) rfl rfl _ _ i4 i1 rfl i3 ?_)
   go_roundw
   case rel=>exact ⟨6,by omega,rfl,⟨_,HBX.out,HX.out⟩,HN.out⟩
   case measure=>simp[intOf]
  ·obtain ⟨r,f4,hr⟩:=hF
   have HR:=hide hr
   obtain ⟨ro,rc,rfl,x1,x2⟩:=hr
   clear x1 x2
   have HRUN:=hide (qOWc W H _ (dev6 n W H zs) n.amount _ HR.out HD.out.e7)
   obtain ⟨N,hN⟩:∃N,(dev6 n W H zs).length=N:=⟨_,rfl⟩
   rw[hN] at f4 HRUN
   clear hN
   have ck:wr.cell? ⟨sb,6,none⟩=some (.iface 252 (.agg #[.int .i64 n.amount])):=by rw[ke hst1];rfl
   have hm:=meth6 n
   have hna:=enters_of Tryz.func277 (by kernel_rfl) rfl
   obtain ⟨q0,q1,q2,q3,q4,q5⟩:=jcb2 (b:=w.heap.size+1+1+1) f4
   go_wp2_with fail
   refine HRUN.out.mono ?_
   rintro e V1 ⟨r2,rfl,hr2,hb1,hfr2⟩
   have HR2:=hide hr2
   obtain ⟨so,sc,rfl,x1,x2⟩:=hr2
   clear x1 x2
   obtain ⟨N2,hN2⟩:∃N2,(dev7 n W H zs).length=N2:=⟨_,rfl⟩
   first|rw[show _=N2 from hN2] at HR2 hfr2 ⊢ | (change (jz1R W H (dev6 n W H zs) n.amount).length=N2 at hN2;rw[hN2] at HR2 hfr2 ⊢)
   clear hN2
   have t9:=al1 V1 (ka (frQ W H (.slice so N2 sc)) 206)
   have hb2:=quJN hb1 (qUNz V1 (ka (frQ W H (.slice so N2 sc)) 206))
   have HR3:=hide (HR2.out.alloc (ka (frQ W H (.slice so N2 sc)) 206))
   have i1:(Tryz.prog.info? 206).map (·.size)=some (frQ W H (.slice so N2 sc)).size:=by kernel_rfl
   have i3:(frQ W H (.slice so N2 sc)).all (·.oneCell')=true:=by simp[Value.oneCell']
   have hl4r:=(kb.1 f4).1
   have i4:(V1.alloc (ka (frQ W H (.slice so N2 sc)) 206)).heap[w.heap.size+1+1+1]?=some (.cells (frQ W H (.slice ro N rc)) 206 (0,0)):=(hb2.block _ hl4r).trans f4
   have HX:=hide (HR3.out.setRow hfr2 (show w.heap.size+1+1+1<wr.heap.size from hl4r) (frQ W H (.slice so N2 sc)))
   have HN:=hide (HNX.out _ hb2 (frQ W H (.slice so N2 sc)))
   have HBX:=hide (setRow_heap _ _ _ (frQ W H (.slice so N2 sc)) _ _ i4)
   have hwr:=HBr.out.size
   have HFR:=hide (hfr2.mono (show w.heap.size+4≤wr.heap.size by omega))
   clear q0 q1 q2 q3 q4 q5 ck hm hna
   go_wp2_with (first|refine wpList_load_row rfl 206 _ rfl _ rfl _ _ _ _ t9 Tryz.underlying206 rfl (by kernel_rfl) ?_|refine wpList_store_row rfl 206 _ _ rfl (w.heap.size+1+1+1) (frQ W H (.slice so N2 sc)) rfl rfl _ _ i4 i1 rfl i3 ?_)
   go_roundw
   case rel=>exact ⟨7,by omega,rfl,⟨_,HBX.out,HX.out,HFR.out⟩,HN.out⟩
   case measure=>simp[intOf]
  ·obtain ⟨r,f4,hr,hfr⟩:=hF
   have HR:=hide hr
   obtain ⟨ro,rc,rfl,x1,x2⟩:=hr
   clear x1 x2
   obtain ⟨N,hN⟩:∃N,(dev7 n W H zs).length=N:=⟨_,rfl⟩
   rw[hN] at f4 HR hfr
   clear hN
   obtain ⟨q0,q1,q2,q3,q4,q5⟩:=jcb2 (b:=w.heap.size+1+1+1) f4
   obtain ⟨z0,z1,z2⟩:=z5EY (b:=w.heap.size+1+1) g3r
   have y0:=kd (b:=w.heap.size+1+1) g3r 0
   have y1:=kd (b:=w.heap.size+1+1) g3r 1
   have y2:=kd (b:=w.heap.size+1+1) g3r 2
   have HFI:=hide (zHqh HBr.out (show w.heap.size≤w.heap.size+1+1 by omega) (.int .i64 W) (.int .i64 H) (.slice ro N rc))
   have hne:(Value.slice ro N rc).ownBlock≠some (w.heap.size+1+1):=hfr.ne (by omega)
   have HX:=hide (HR.out.other (zv5i wr (w.heap.size+1+1) (.int .i64 W) (.int .i64 H) (.slice ro N rc)) (fun b hb=>jZhz _ _ _ _ _ b hb) hne)
   go_wp2
   exact bodyPost_ret (v:=.tuple #[.agg #[.int .i64 W,.int .i64 H,.slice ro N rc],.int .i64 0]) (by simp[results,Tryz.results117,go_sem,z0,z1,z2]) rfl ⟨_,rfl,HX.out,HFI.out,hfr.mono (by omega)⟩
theorem qDvO {n:Plan} {W H:Int} {zs:List Int} (h:planE n=0) (hp:q0fM W H zs=true) (hs:XepW W H n.spots=true):DevOk n W H zs:=by
 obtain ⟨h1,h2,h3,h4,h5,h6,_,h8⟩:=qwVl h
 exact ⟨hp,h1,h2,h3,h4,h5,h6,hs,h8⟩
theorem jsZS {n:Plan} {W H:Int} {zs:List Int} {height:Int} (h:fitsE n W H zs height=0):planE n=0∧q0fM W H zs=true∧XepW W height n.spots=true:=by
 unfold fitsE at h
 split at h
 ·rename_i h1
  split at h
  ·rename_i h2
   split at h
   ·rename_i h3;exact ⟨h1,h2,h3⟩
   ·cases h
  ·cases h
 ·rename_i h1;exact absurd h h1
theorem zpfn (n:Plan) (sv cv:Value) (W H:Int) (v:Value) (zs:List Int) (w:World) (hp:X1uD w n sv cv) (hls:∀j,j<n.spots.length→ptWf (ptAt n.spots j)) (hv:jCvT w v zs) :
  Calls Tryz.prog 90 #[.agg (planA n sv cv),.agg #[.int .i64 W,.int .i64 H,v]] w fun e w'=>∃r,e=.returned (.tuple #[.agg #[.int .i64 (okW (fitsE n W H zs H) W),.int .i64 (okW (fitsE n W H zs H) H),r],.int .i64 (fitsE n W H zs H)])∧IsPix w' r (okL (fitsE n W H zs H) (dev7 n W H zs))∧Below w.heap.size w w'∧Fresh w.heap.size r:=by
 have HP:=hide hp
 have HV:=hide hv
 have HFI:=hide (fun (u:World) (hu:Below w.heap.size w u)=>jiqc n sv cv W H v zs H u (HP.out.below hu (kf _)) (HV.out.below hu (kf _)))
 have HDV:=hide (fun (h:fitsE n W H zs H=0) (u:World) (hu:Below w.heap.size w u)=>j0Kd n sv cv W H v zs u (HP.out.below hu (kf _)) hls (HV.out.below hu (kf _)) (qDvO (jsZS h).1 (jsZS h).2.1 (jsZS h).2.2))
 obtain ⟨⟨lo,lc,rfl,hll,_⟩,⟨ko,kc,rfl,hkl,_⟩⟩:=hp
 obtain ⟨ao,ca,rfl,_,_⟩:=hv
 obtain ⟨a1,a2,a3⟩:=al3 w (ka (planA n (.slice lo n.spots.length lc) (.slice ko n.curve.length kc)) 51) (ka #[.int .i64 W,.int .i64 H,.slice ao zs.length ca] 54) (ka #[.int .i64 0,.int .i64 0,.slice none 0 0] 24)
 have HB:=hide (be3 w (ka (planA n (.slice lo n.spots.length lc) (.slice ko n.curve.length kc)) 51) (ka #[.int .i64 W,.int .i64 H,.slice ao zs.length ca] 54) (ka #[.int .i64 0,.int .i64 0,.slice none 0 0] 24))
 obtain ⟨E,hE⟩:∃E,fitsE n W H zs H=E:=⟨_,rfl⟩
 rw[hE] at HFI ⊢
 have HEQ:=hide hE
 clear hE
 obtain ⟨p0,p1,p2⟩:=z5EY a2
 go_enter Tryz.func90,Tryz.ntmps90
 go_wp2_with (refine wpList_load_row rfl 51 _ rfl _ rfl _ _ _ _ a1 Tryz.underlying51 rfl (by kernel_rfl) ?_)
 clear p0 p1 p2
 have hl1:=(kb.1 a1).1
 have hl2:=(kb.1 a2).1
 have hl3:=(kb.1 a3).1
 generalize ((w.alloc (ka (planA n (.slice lo n.spots.length lc) (.slice ko n.curve.length kc)) 51)).alloc (ka #[.int .i64 W,.int .i64 H,.slice ao zs.length ca] 54)).alloc (ka #[.int .i64 0,.int .i64 0,.slice none 0 0] 24)=U at *
 refine (HFI.out _ HB.out).mono ?_
 rintro e w1 ⟨rfl,hb1⟩
 have HB1:=hide (HB.out.trans (hb1.mono HB.out.size))
 by_cases hE:E=0
 ·have HE0:=hide (HEQ.out.trans hE)
  subst hE
  have b1:=(hb1.block _ hl1).trans a1
  obtain ⟨p0,p1,p2⟩:=z5EY ((hb1.block _ hl2).trans a2)
  go_wp2_with (refine wpList_load_row rfl 51 _ rfl _ rfl _ _ _ _ b1 Tryz.underlying51 rfl (by kernel_rfl) ?_)
  clear p0 p1 p2
  refine (HDV.out HE0.out _ HB1.out).mono ?_
  rintro e w2 ⟨r,rfl,hr,hb2,hfr⟩
  have HR:=hide hr
  obtain ⟨ro,rc,rfl,x1,x2⟩:=hr
  clear x1 x2
  obtain ⟨N,hN⟩:∃N,(dev7 n W H zs).length=N:=⟨_,rfl⟩
  rw[hN] at HR hfr ⊢
  clear hN
  have hb3:=quJN hb1 hb2
  have g3:=(hb3.block _ hl3).trans a3
  obtain ⟨z0,z1,z2⟩:=z5EY (b:=w.heap.size+1+1) g3
  have f0:=kd (b:=w.heap.size+1+1) g3 0
  have f1:=kd (b:=w.heap.size+1+1) g3 1
  have f2:=kd (b:=w.heap.size+1+1) g3 2
  have hs1:=hb1.size
  have HX:=hide (HR.out.set3 hfr (show w.heap.size+1+1<w1.heap.size by omega) (.int .i64 W) (.int .i64 H) (.slice ro N rc))
  have HF:=hide (zHqh (HB.out.trans (hb3.mono HB.out.size)) (show w.heap.size≤w.heap.size+1+1 by omega) (.int .i64 W) (.int .i64 H) (.slice ro N rc))
  have hw1:=HB1.out.size
  go_wp2
  exact bodyPost_ret (v:=.tuple #[.agg #[.int .i64 W,.int .i64 H,.slice ro N rc],.int .i64 0]) (by simp[results,Tryz.results90,go_sem,z0,z1,z2]) rfl ⟨_,rfl,HX.out,HF.out,hfr.mono hw1⟩
 ·have hn:(E != 0)=true:=by simpa using hE
  have HE:=hide hE
  have g3:=(hb1.block _ hl3).trans a3
  obtain ⟨z0,z1,z2⟩:=z5EY (b:=w.heap.size+1+1) g3
  have f0:=kd (b:=w.heap.size+1+1) g3 0
  have f1:=kd (b:=w.heap.size+1+1) g3 1
  have f2:=kd (b:=w.heap.size+1+1) g3 2
  have HF:=hide (zHqh HB1.out (show w.heap.size≤w.heap.size+1+1 by omega) (.int .i64 0) (.int .i64 0) (.slice none 0 0))
  go_wp2
  refine bodyPost_ret (v:=.tuple #[.agg #[.int .i64 0,.int .i64 0,.slice none 0 0],.int .i64 E]) (by simp[results,Tryz.results90,go_sem,z0,z1,z2]) rfl ⟨.slice none 0 0,?_,?_,HF.out,Fresh.nil _⟩
  ·rw[okW,if_neg HE.out,okW,if_neg HE.out]
  ·rw[okL,if_neg HE.out];exact IsPix.nil _
end Go.Proofs.YtfjeonehdlphiaaGreatDoor
namespace Go.Proofs.YtfjeonehdlphiaaGreatDoor
theorem qqRx {p:Int} (h:qdne p=true):qdne (zVsj p)=true:=by
 have h2:0≤p∧p≤3:=by simpa [qdne] using h
 unfold zVsj
 simp only[qdne,decide_eq_true_eq]
 split<;>omega
theorem qBqc {m:Nat→Int} {white:Int} (h:zN6Q m white=true):zN6Q (j9wH m) white=true:=by
 rw[zN6Q,kg] at h ⊢
 refine ⟨h.1,List.all_eq_true.2 fun x hx=>?_⟩
 obtain ⟨k,hk,rfl⟩:=List.mem_map.1 hx
 exact decide_eq_true (XL98 h.2 ((k+2) % 4) (Nat.mod_lt _ (by omega)))
theorem X9MN {W H height:Int} {ls:List Pt} {top rows:Nat} (h:XepW W height ls=true) (hH:(rows:Int)=H):XepW W H (qj7y ls top rows)=true:=by
 refine List.all_eq_true.2 fun p hp=>?_
 obtain ⟨s,hs,rfl⟩:=List.mem_map.1 hp
 obtain ⟨hm,hr⟩:=List.mem_filter.1 hs
 have h1:=List.all_eq_true.1 h s hm
 simp only[hasB,zLwc,decide_eq_true_eq] at h1 hr ⊢
 omega
theorem jGAS {n:Plan} {W H:Int} {zs:List Int} {height:Int} {TP HN:Nat} (h:planE n=0) (hp:q0fM W H zs=true) (hs:XepW W height n.spots=true) (hH:(HN:Int)=H):DevOk (XzXJ n TP HN) W H zs:=by
 obtain ⟨h1,h2,h3,h4,h5,h6,_,h8⟩:=qwVl h
 refine ⟨hp,?_,?_,h3,h4,h5,?_,X9MN hs hH,h8⟩
 ·show qdne (if TP % 2=1 then zVsj n.phase else n.phase)=true
  split
  ·exact qqRx h1
  ·exact h1
 ·show zN6Q (if TP % 2=1 then j9wH n.black else n.black) n.white=true
  split
  ·exact qBqc h2
  ·exact h2
 ·have:=zk7I n.spots TP HN
  show ((qj7y n.spots TP HN).length:Int)≤64
  omega
theorem jDuk {W H:Int} {ls:List Pt} (h:XepW W H ls=true) (hW:W≤64) (hH:H≤64) (j:Nat) (hj:j<ls.length):ptWf (ptAt ls j):=by
 have h1:=zKbH h j hj
 simp only[hasB,decide_eq_true_eq] at h1
 exact ⟨WalkArith.wf_i64 (by omega),WalkArith.wf_i64 (by omega)⟩
def zfAc (H top height fm tm:Int):Bool:=decide ((1≤height∧height≤64)∧(0≤top∧top≤height)∧(0≤fm∧fm≤height)∧(0≤tm∧tm≤height)∧fm<tm∧top+H≤height∧top≤max 0 (fm-4)∧min height (tm+4)≤top+H)
def partE (n:Plan) (W H:Int) (zs:List Int) (top height fm tm:Int):Int:=if fitsE n W H zs height=0 then (if zfAc H top height fm tm=true then 0 else 3) else fitsE n W H zs height
def partL (n:Plan) (W H:Int) (zs:List Int) (top fm tm:Int):List Px:=rowsL (dev7 (XzXJ n top.toNat H.toNat) W H zs) W.toNat (fm-top).toNat (tm-fm).toNat
theorem qLIM {P:Program} {o:Oper} {a:Act} {w:World} (ty:TypeId) (x:Operand) (ho:o.op=.load ty x) (g:Nat) (hx:a.eval x=.pointer (some ⟨g,0,none⟩)) (t:TypeId) (cs:Array Value) (fr:Nat×Nat) (d:TypeDesc) (hg:w.heap[g]?=some (.cells cs t fr))
  (hu:P.underlying ty=some d) (hd:(match d with | .struct _ | .array _ _=>true|_=>false)=true) (hi:(P.info? ty).map (·.size)=some cs.size):(execOp a.eval o).run P w=.ok (.value (.agg cs)) w:=by
 unfold execOp
 simp only[ho,hx,Instr.loadAt,Instr.sureAddr,Sem.run_bind,Sem.run_pure,Result.andThen_ok,run_loadVar_row w g t ty cs fr d hg hu hd hi]
end Go.Proofs.YtfjeonehdlphiaaGreatDoor
