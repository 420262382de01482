/- Sw: part 45 of what the proofs need. -/
import Derived.Test.YtfjeonehdlphiaaGreatDoorC15Sw
import Derived.Test.YtfjeonehdlphiaaGreatDoorC16Sw
import Derived.Test.YtfjeonehdlphiaaGreatDoorC21Sw
import Derived.Test.YtfjeonehdlphiaaGreatDoorC27Sw
import Derived.Test.YtfjeonehdlphiaaGreatDoorC28Sw
import Derived.Test.YtfjeonehdlphiaaGreatDoorC32Sw
import Derived.Test.YtfjeonehdlphiaaGreatDoorC36Sw
import Derived.Test.YtfjeonehdlphiaaGreatDoorC37Sw
import Derived.Test.YtfjeonehdlphiaaGreatDoorC39Sw
set_option linter.unusedVariables false
set_option maxHeartbeats 3200000
set_option maxRecDepth 100000
namespace Go.Proofs.YtfjeonehdlphiaaGreatDoor
open Go.RowKit
theorem qH5P {P:Program} {ops:Array Oper} {rest:List Oper} {o:Oper} {a:Act} {w:World} {Q:Exit→Act→World→Prop} (hg:o.guard=none) (t:TypeId) (parts:Array (Nat×Operand)) (ho:o.op=.build t parts) (cs:Array Value)
  (hf:P.built t (parts.map fun (i,x)=>(i,a.eval x)).toList=some cs)
  (h:wpList P ops Q rest (a.put o.dst (.agg cs)) w):wpList P ops Q (o::rest) a w :=
 wpList_build hg t parts ho (by rw[hf];rfl) (by rw[hf];exact h)
theorem zKhU (w:World):Calls Tryz.prog 106 #[] w fun e w'=>∃so sc,e=.returned (.agg #[.int .i64 2,.int .i64 2,.slice so 4 sc])∧jCvT w' (.slice so 4 sc) [10,65535,0,7]∧4≤sc∧Below w.heap.size w w':=by
 go_enter Tryz.func106,Tryz.ntmps106
 go_wp2
 have HI:=hide (ints4 (w.alloc (Obj.cells #[.int .i64 2,.int .i64 2,.slice (some ⟨w.heap.size+1,0,none⟩) 4 4] 54)) 10 65535 0 7)
 rw[World.size_alloc] at HI
 refine bodyPost_ret (v:=.agg #[.int .i64 2,.int .i64 2,.slice (some ⟨w.heap.size+1,0,none⟩) 4 4]) (by simp[results,Tryz.results106,go_sem]) rfl ⟨_,_,rfl,HI.out,Nat.le_refl _,quJN (qUNz _ _) (qUNz _ _)⟩
def fileR:RawF:=⟨2,2,16,7,1,[2,3,3,4,4,4,5,5,5,6,6,6,7,7,7,8,8],[],jkrq⟩
def fileF:RawF:=qtvI fileR [10,65535,0,7]
theorem qVTJ:XQ5R fileR 2 2 [10,65535,0,7]=0:=by decide +kernel
theorem Xgk2:Right fileF∧zcNm fileF=[10,65535,0,7]∧XH9X fileF=2∧zq73 fileF=2∧fileF.strips.length=2:=by
 obtain ⟨h1,h2,_,_,h3,h4⟩:=q02E qVTJ
 exact ⟨h1,h2,h3,h4,by rw[fileF,qtvI,qvpy];decide⟩
theorem jlV2 (w:World):Calls Tryz.prog 46 #[] w fun e w'=>∃lv tv sv cv,e=.returned (.agg (rawA fileF lv tv sv cv))∧IsRaw w' fileF lv tv sv cv∧Below w.heap.size w w':=by
 have a1:=al1 w (Obj.cells rawZ 57)
 have HB:=hide (qUNz w (Obj.cells rawZ 57))
 have hl1:=(Array.getElem?_eq_some_iff.1 a1).1
 have iz:(Tryz.prog.info? 57).map (·.size)=some (rawZ:Array Value).size:=by kernel_rfl
 go_enter Tryz.func46,Tryz.ntmps46
 go_wp2_with fail
 generalize w.alloc (Obj.cells rawZ 57)=U at *
 refine (qwe2 U).mono ?_
 rintro e V1 ⟨lv,rfl,hI1,hb1⟩
 have HI1:=hide hI1
 obtain ⟨lo,lc,rfl,hx3,hx4⟩:=hI1
 clear hx3 hx4
 go_wp2_with fail
 refine (zcoU V1).mono ?_
 rintro e V2 ⟨cv,rfl,hP,hb2⟩
 have HP:=hide hP
 obtain ⟨ko,kc,rfl,hx1,hx2⟩:=hP.curve
 clear hP hx1 hx2
 rw[show jkrq.curve.length=2 from rfl] at HP ⊢
 rw[show ([2,3,3,4,4,4,5,5,5,6,6,6,7,7,7,8,8]:List Int).length=17 from rfl] at HI1
 obtain ⟨RA,hRA⟩:∃RA:Array Value,#[.int .i64 2,.int .i64 2,.int .i64 16,.int .i64 7,.int .i64 1,.slice lo 17 lc,.slice none 0 0,.int .i64 0,.int .i64 0,.int .i64 0,.int .i64 0,.int .i64 0,.int .i64 65535,.slice none 0 0,.int .i64 256,.int .i64 256,.int .i64 256,.int .i64 4096,.int .i64 0,.int .i64 0,.int .i64 0,.int .i64 4096,.int .i64 0,.int .i64 0,.int .i64 0,.int .i64 4096,.slice ko 2 kc,.int .i64 64]=RA:=⟨_,rfl⟩
 have hbu:Tryz.prog.built 57 [(0,.int .i64 2),(1,.int .i64 2),(2,.int .i64 16),(3,.int .i64 7),(4,.int .i64 1),(5,.slice lo 17 lc),(7,.agg (qQNe (.slice ko 2 kc)))]=some RA:=by rw[←hRA];kernel_rfl
 have HRW:=hide (show rawA fileR (.slice lo 17 lc) (.slice none 0 0) (.slice none 0 0) (.slice ko 2 kc)=RA from hRA)
 have HIR:=hide (show IsRaw V2 fileR (.slice lo 17 lc) (.slice none 0 0) (.slice none 0 0) (.slice ko 2 kc) from ⟨HI1.out.below hb2 (Nat.le_refl _),zGcC.nil _,HP.out.spots,HP.out.curve⟩)
 clear hRA
 dsimp only
 rename_i hKK
 refine hKK _ _ ?_
 clear hKK
 refine qH5P rfl 57 _ rfl RA ?hf ?_
 case hf=>exact Eq.trans (congrArg (Tryz.prog.built 57) (by kernel_rfl)) hbu
 simp only[Act.put,List.setIfInBounds_toArray,List.set_cons_succ,List.set_cons_zero]
 clear hbu
 go_wp2_with fail
 refine (zKhU V2).mono ?_
 rintro e V3 ⟨so,sc,rfl,hI3,hr3,hb3⟩
 have HF:=hide (XnMb fileR _ _ _ _ 2 2 (.slice so 4 sc) [10,65535,0,7] V3 (HIR.out.below hb3 (Nat.le_refl _)) hI3 hr3)
 rw[HRW.out] at HF
 have hbU:=quJN (quJN hb1 hb2) hb3
 clear hI3 hr3 hb3 hb1 hb2
 go_wp2_with fail
 refine (HF.out).mono ?_
 rintro e V4 ⟨hb4,hc⟩
 rcases hc with ⟨_,lv',tv',sv',cv',rfl,hI,f1,f2,f3,f4⟩|⟨hn,_⟩
 rotate_left
 ·exact absurd qVTJ hn
 have HO:=hide (XIRQ hI)
 have i1:(Tryz.prog.info? 57).map (·.size)=some (rawA (qtvI fileR [10,65535,0,7]) lv' tv' sv' cv').size:=by kernel_rfl
 obtain ⟨RB,hRB⟩:∃RB,rawA (qtvI fileR [10,65535,0,7]) lv' tv' sv' cv'=RB:=⟨_,rfl⟩
 rw[hRB] at i1 HO ⊢
 have HRB:=hide hRB
 have z1:=al1 V4 (Obj.cells rawZ 57)
 have i2:(rawZ:Array Value).size=RB.size:=by rw[←hRB];rfl
 have c1:=setRow_heap _ _ _ RB _ _ z1
 have HBX:=hide (below_setRow (g:=V4.heap.size) (qUNz V4 (Obj.cells rawZ 57)) (Nat.le_refl _) RB)
 have hos:=HO.out
 have hbV:=quJN hbU hb4
 have hV3:=hbU.size
 clear hRB
 go_upto_region 2 with (refine wpList_store_row rfl 57 _ _ rfl V4.heap.size RB rfl rfl _ _ z1 i1 i2 hos ?_)
 clear z1
 have g1:((V4.alloc (Obj.cells rawZ 57)).setRow V4.heap.size RB).heap[w.heap.size]?=some (.cells rawZ 57 (0,0)):=((hbV.trans (HBX.out.mono hbV.size)).block _ hl1).trans a1
 have HBF0:=hide (quJN (quJN HB.out hbV) HBX.out)
 have HI4:=hide (hI.below HBX.out (Nat.le_refl _))
 generalize (V4.alloc (Obj.cells rawZ 57)).setRow V4.heap.size RB=V5 at *
 have HG:=hide (setRow_heap _ _ _ RB _ _ g1)
 have HBF:=hide (below_setRow (g:=w.heap.size) HBF0.out (Nat.le_refl _) RB)
 have hw3:w.heap.size<V3.heap.size:=Nat.lt_of_lt_of_le hl1 hV3
 have HIF:=hide (HI4.out.other (k:=w.heap.size) (w':=V5.setRow w.heap.size RB) (B:=V3.heap.size) (by simp) (fun b hb=>setRow_other _ _ _ _ hb) hw3 f1 f2 f3 f4)
 clear f1 f2 f3 f4 hI
 go_wp2_with (first|refine wpList_load_row rfl 57 _ rfl _ rfl _ _ _ _ c1 Tryz.underlying57 rfl i1 ?_|refine wpList_store_row rfl 57 _ _ rfl w.heap.size RB rfl rfl _ _ g1 i1 i2 hos ?_)
 refine bodyPost_ret (v:=.agg RB) (results_cell_row Tryz.results46 _ _ _ _ _ _ _ rfl HG.out Tryz.underlying57 rfl i1) rfl ⟨_,_,_,_,by rw[←HRB.out];rfl,HIF.out,HBF.out⟩
end Go.Proofs.YtfjeonehdlphiaaGreatDoor
