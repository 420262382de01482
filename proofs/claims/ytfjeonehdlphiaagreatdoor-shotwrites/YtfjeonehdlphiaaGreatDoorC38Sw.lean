/- Sw: part 38 of what the proofs need. -/
import Derived.Test.YtfjeonehdlphiaaGreatDoorC9Sw
import Derived.Test.YtfjeonehdlphiaaGreatDoorC12Sw
import Derived.Test.YtfjeonehdlphiaaGreatDoorC21Sw
import Derived.Test.YtfjeonehdlphiaaGreatDoorC30Sw
import Derived.Test.YtfjeonehdlphiaaGreatDoorC31Sw
import Derived.Test.YtfjeonehdlphiaaGreatDoorC36Sw
set_option linter.unusedVariables false
set_option maxHeartbeats 12800000
set_option maxRecDepth 100000
namespace Go.Proofs.YtfjeonehdlphiaaGreatDoor
open Go.RowKit
def q74T (s:List UInt8):Prop:=∀(a b:Nat) (d:Bool) (L:List UInt8),¬Shot s a b d L
def RdOk (s:List UInt8) (B:Nat) (e:Ending) (w':World):Prop :=
 ∃(a b:Nat) (d:Bool) (L:List UInt8) (r:Value),Shot s a b d L∧e=.returned (.tuple #[.agg #[.int .i64 a,.int .i64 b,r],.bool d,.int .i64 0])∧IsPix w' r (pixOf d L (b*a))∧Fresh B r
theorem RdOk.mk {s:List UInt8} {B a b:Nat} {d:Bool} {L:List UInt8} {r:Value} {w':World} (h:Shot s a b d L) (hr:IsPix w' r (pixOf d L (b*a))) (hf:Fresh B r):RdOk s B (.returned (.tuple #[.agg #[.int .i64 a,.int .i64 b,r],.bool d,.int .i64 0])) w' :=
 ⟨a,b,d,L,r,h,rfl,hr,hf⟩
theorem qc07 (V:World) (t:TypeId) (f z:Value) (h1:f.oneCell'=true):(store ⟨V.heap.size,0,none⟩ f).run Tryz.prog (V.alloc (Obj.cells #[z] t))=.ok () ((V.alloc (Obj.cells #[z] t)).setRow V.heap.size #[f]):=by
 have hg:=al1 V (Obj.cells #[z] t)
 have hcell:(V.alloc (Obj.cells #[z] t)).cell? ⟨V.heap.size,0,none⟩=some z:=by rw[Lib.cell_of_heap hg];rfl
 have hfro:=Lib.frozen_of_heap hg 0
 rw[run_store Tryz.prog _ _ f _ h1,hcell]
 simp[hfro,setCell_eq_setRow _ V.heap.size 0 _ t (0,0) f hg]
theorem XGNF {s:List UInt8} (h:XUXS s):q74T s:=fun a b d L q=>h a b d L q.a1 q.a2 q.b1 q.b2 q.eq
theorem zWIK {s:List UInt8} {x y:Nat} {d:Bool} {L:List UInt8} (h2:x≤64) (h4:y≤64) (e:s=headT x y (hdM d)++L) (hne:L.length≠szP d*(3*x*y)):q74T s:=fun a b d' L' q=>by
 have e1:=ji4T (a:=a) (b:=b) (by have:=q.a2;omega) (by have:=q.b2;omega) d' L'
 have e2:=ji4T (a:=x) (b:=y) (by omega) (by omega) d L
 rw[←q.eq] at e1
 rw[←e,e1] at e2
 simp only[Prod.mk.injEq] at e2
 obtain ⟨x1,x2,x3⟩:=e2
 have ea:a=x:=by omega
 have eb:b=y:=by omega
 have ed:d'=d:=qxjb (by omega)
 subst ea eb ed
 have:=List.append_cancel_left (e.symm.trans q.eq)
 subst this
 exact hne q.len
theorem XcLf (s:List UInt8) (hs:s.length≤140737488355328) (w:World) (hp:PowAt w):Calls Tryz.prog 11 #[.string (str s)] w fun e w'=>Below w.heap.size w w' ∧
    (RdOk s w.heap.size e w' ∨
     (q74T s∧e=.returned (.tuple #[.agg #[.int .i64 0,.int .i64 0,.slice none 0 0],.bool false,.int .i64 1]))):=by
  have HH:=hide (fun (u:World) (hu:Below w.heap.size w u)=>q1HI s hs u (hp.below hu (Nat.le_refl _)))
  have a1:=al1 w (Obj.cells #[.int .i64 0,.int .i64 0,.slice none 0 0] 24)
  have HB:=hide (qUNz w (Obj.cells #[.int .i64 0,.int .i64 0,.slice none 0 0] 24))
  have hl1:=(Array.getElem?_eq_some_iff.1 a1).1
  clear hp
  go_enter Tryz.func11,Tryz.ntmps11
  go_wp2_with fail
  generalize w.alloc (Obj.cells #[.int .i64 0,.int .i64 0,.slice none 0 0] 24)=U at *
  refine (HH.out U HB.out).mono ?_
  clear HH
  rintro e V1 ⟨hb1,hc⟩
  have g1:=(hb1.block _ hl1).trans a1
  have HB1:=hide (quJN HB.out hb1)
  have HSZ:=hide (show w.heap.size<V1.heap.size from Nat.lt_of_lt_of_le hl1 hb1.size)
  clear hb1 a1 HB hl1
  rcases hc with ⟨x,y,d,L,rfl,h1,h2,h3,h4,heq⟩|⟨a,b,c,L,rfl,hno⟩
  rotate_left
  · obtain ⟨b1, b2⟩ := al2 V1 (Obj.cells #[.int .i64 a, .int .i64 b, .int .i64 c] 82) (Obj.cells #[.string (str L)] 9)
    have HB2:=hide (quJN HB1.out (be2 V1 (Obj.cells #[.int .i64 a,.int .i64 b,.int .i64 c] 82) (Obj.cells #[.string (str L)] 9)))
    have g2:=((be2 V1 (Obj.cells #[.int .i64 a,.int .i64 b,.int .i64 c] 82) (Obj.cells #[.string (str L)] 9)).block _ HSZ.out).trans g1
    have HNO:=hide (XGNF hno)
    clear hno b1 b2 g1
    go_wp2_with fail
    generalize (V1.alloc (Obj.cells #[.int .i64 a,.int .i64 b,.int .i64 c] 82)).alloc (Obj.cells #[.string (str L)] 9)=X at *
    go_quiet (fail)
    have HBQ:=hide (show Below w.heap.size w (X.drewN nq) from below_drewN HB2.out nq)
    have g3:(X.drewN nq).heap[w.heap.size]?=some (Obj.cells #[.int .i64 0,.int .i64 0,.slice none 0 0] 24 (0,0)):=g2
    generalize X.drewN nq=XQ at *
    obtain ⟨z0,z1,z2⟩:=z5EY g3
    have f0:=Lib.frozen_of_heap g3 0
    have f1:=Lib.frozen_of_heap g3 1
    have f2:=Lib.frozen_of_heap g3 2
    have HF:=hide (zHqh HBQ.out (Nat.le_refl _) (.int .i64 0) (.int .i64 0) (.slice none 0 0))
    go_wp2
    refine bodyPost_ret (v:=.tuple #[.agg #[.int .i64 0,.int .i64 0,.slice none 0 0],.bool false,.int .i64 1]) (by simp[results,Tryz.results11,go_sem,z0,z1,z2]) rfl ⟨HF.out,.inr ⟨HNO.out,rfl⟩⟩
  have hxy:x*y≤64*64:=Nat.mul_le_mul h2 h4
  have hN3:3*x*y≤12288:=by rw[Nat.mul_assoc];omega
  have hZ2:szP d≤2:=by unfold szP;cases d<;>decide
  have HNL:=hide (fun (hne:L.length≠szP d*(3*x*y))=>zWIK h2 h4 heq hne)
  have HYES:=hide (fun (hl:L.length=szP d*(3*x*y))=>(⟨h1,h2,h3,h4,heq,hl⟩:Shot s x y d L))
  have hZM:szP d*(3*x*y)≤24576:=Nat.le_trans (Nat.mul_le_mul hZ2 hN3) (by omega)
  have HSI:=hide (fun u=>qgJE x y d h2 h4 u)
  have HDP:=hide (fun u=>qulr x y (hdM d:Nat) u)
  have HDE:=hide (q517 d)
  have hLs:(str L).size=L.length:=qzX5 L
  have HPX:=hide (fun (j X Y Bh Bl Bg Bf:Nat) (u:World) hh hl hg hf (hj:Y*x+X=j) (hk:szP d*(3*j+2)+szP d≤L.length) (hL:L.length≤100000) (hj4:j≤4096)=>XI6E x y X Y j d L Bh Bl Bg Bf u hh hl hg hf hj hk hL hj4)
  have HPI:=hide (show ∀N,pixOf d L N=(List.range N).map (pxOf d L) from fun _=>rfl)
  clear heq
  generalize hC:((hdM d:Nat):Int)=C at *
  clear hC
  obtain ⟨b1,b2⟩:=al2 V1 (Obj.cells #[.int .i64 x,.int .i64 y,.int .i64 C] 82) (Obj.cells #[.string (str L)] 9)
  have HB2:=hide (be2 V1 (Obj.cells #[.int .i64 x,.int .i64 y,.int .i64 C] 82) (Obj.cells #[.string (str L)] 9))
  go_upto_region 2 with fail
  generalize (V1.alloc (Obj.cells #[.int .i64 x,.int .i64 y,.int .i64 C] 82)).alloc (Obj.cells #[.string (str L)] 9)=X at *
  have l1:=(Array.getElem?_eq_some_iff.1 b1).1
  have l2:=(Array.getElem?_eq_some_iff.1 b2).1
  have HS:=hide (show ∀v,Below X.heap.size X v→(fun v=>Below X.heap.size X v∧v.cell? ⟨V1.heap.size+1,0,none⟩=some (.string (str L))∧v.cell? ⟨V1.heap.size,0,none⟩=some (.int .i64 x)∧v.cell? ⟨V1.heap.size,1,none⟩=some (.int .i64 y)∧v.cell? ⟨V1.heap.size,2,none⟩=some (.int .i64 C)) v from fun v hv=>by
    obtain ⟨q0,q1,q2⟩:=z5EY ((hv.block _ l1).trans b1)
    exact ⟨hv,by rw[Lib.cell_of_heap ((hv.block _ l2).trans b2)];rfl,q0,q1,q2⟩)
  have hSd:(fun v=>Below X.heap.size X v∧v.cell? ⟨V1.heap.size+1,0,none⟩=some (.string (str L))∧v.cell? ⟨V1.heap.size,0,none⟩=some (.int .i64 x)∧v.cell? ⟨V1.heap.size,1,none⟩=some (.int .i64 y)∧v.cell? ⟨V1.heap.size,2,none⟩=some (.int .i64 C)) X.drew:=HS.out _ (jom3 X)
  obtain ⟨Z,hZ⟩:∃Z:Nat,szP d*(3*x*y)=Z:=⟨_,rfl⟩
  rw[hZ] at HNL HYES hZM HSI
  have HZ:=hide hZ
  clear hZ
  obtain ⟨SL,hSL⟩:∃SL,str L=SL:=⟨_,rfl⟩
  have HSL:=hide hSL
  by_cases hne:L.length=Z
  rotate_left
  · have hnb : ((SL.size : Int) != (Z : Int)) = true := by rw [← hSL, hLs]; simp; omega
    have hnb2:(SL.size != Z)=true:=by rw[←hSL,hLs];simpa using hne
    have HNO:=hide (HNL.out hne)
    rw[hSL] at hSd HS ⊢
    clear hSL hne hLs
    have hmx:Tryz.prog.follows .mixedOrders=true:=by kernel_rfl
    refine qYgd (S:=(fun v=>Below X.heap.size X v∧v.cell? ⟨V1.heap.size+1,0,none⟩=some (.string SL)∧v.cell? ⟨V1.heap.size,0,none⟩=some (.int .i64 x)∧v.cell? ⟨V1.heap.size,1,none⟩=some (.int .i64 y)∧v.cell? ⟨V1.heap.size,2,none⟩=some (.int .i64 C))) (f:=8) hmx ?_
    show jZdv _ _ _ _ _ _ 9 _ _ X.drew
    refine takeQ 0 ?vv31 (some 16) [2,1] ?yy31 hSd ?rr31
    case yy31=>(intro wq hSq;obtain ⟨_,_,_,_,_⟩:=hSq;go_simp<;>with_reducible rfl)
    simp only[Act.put,List.setIfInBounds_toArray,List.set_cons_succ,List.set_cons_zero]
    refine takeQ 1 ?vv32 (some 17) [2] ?yy32 hSd ?rr32
    case yy32=>(intro wq hSq;obtain ⟨_,_,_,_,_⟩:=hSq;go_simp<;>with_reducible rfl)
    simp only[Act.put,List.setIfInBounds_toArray,List.set_cons_succ,List.set_cons_zero]
    refine takeQ 2 ?vv33 (some 18) [] ?yy33 hSd ?rr33
    case yy33=>(intro wq hSq;obtain ⟨_,_,_,_,_⟩:=hSq;go_simp<;>with_reducible rfl)
    simp only[Act.put,List.setIfInBounds_toArray,List.set_cons_succ,List.set_cons_zero]
    refine takeQ 3 ?vv34 (some 19) [7,4] ?yy34 hSd ?rr34
    case yy34=>(intro wq hSq;obtain ⟨_,_,_,_,_⟩:=hSq;go_simp<;>with_reducible rfl)
    simp only[Act.put,List.setIfInBounds_toArray,List.set_cons_succ,List.set_cons_zero]
    refine takeQ 5 ?vv35 (some 21) [7,6] ?yy35 hSd ?rr35
    case yy35=>(intro wq hSq;obtain ⟨_,_,_,_,_⟩:=hSq;go_simp<;>with_reducible rfl)
    simp only[Act.put,List.setIfInBounds_toArray,List.set_cons_succ,List.set_cons_zero]
    refine takeQ 4 ?vv36 (some 20) [7] ?yy36 hSd ?rr36
    case yy36=>(intro wq hSq;obtain ⟨_,_,_,_,_⟩:=hSq;go_simp<;>with_reducible rfl)
    simp only[Act.put,List.setIfInBounds_toArray,List.set_cons_succ,List.set_cons_zero]
    refine znWj (i:=6) (o:=_) (by kernel_rfl) rfl (fun K' hK=>?_)
    rw[if_pos (by rfl)]
    go_simp
    refine (HSI.out _).mono ?_
    rintro e V2 ⟨rfl,hb2⟩
    have hSd:=HS.out _ (quJN hSd.1 hb2)
    refine hK.out _ _ hSd ?_
    clear hK
    try simp only[Act.put]
    refine takeQ 7 ?vv37 (some 23) [] ?yy37 hSd ?rr37
    case yy37=>(intro wq hSq;obtain ⟨_,_,_,_,_⟩:=hSq;go_simp<;>with_reducible rfl)
    simp only[Act.put,List.setIfInBounds_toArray,List.set_cons_succ,List.set_cons_zero]
    refine z9gO (o:=_) (by kernel_rfl) rfl (fun K' hK=>?_)
    rw[if_pos (by rfl)]
    go_simp
    refine hK.out _ _ ?_
    clear hK
    refine jFdp (by kernel_rfl) ?_ _
    try simp only[Act.put]
    have hB3:=hSd.1
    have g3:=(hB3.block _ (Nat.lt_of_lt_of_le HSZ.out (HB2.out.size))).trans ((HB2.out.block _ HSZ.out).trans g1)
    have HBW:=hide (quJN (quJN HB1.out HB2.out) hB3)
    clear hSd hB3 hb2
    obtain ⟨z0,z1,z2⟩:=z5EY g3
    have f0:=Lib.frozen_of_heap g3 0
    have f1:=Lib.frozen_of_heap g3 1
    have f2:=Lib.frozen_of_heap g3 2
    have HF:=hide (zHqh HBW.out (Nat.le_refl _) (.int .i64 0) (.int .i64 0) (.slice none 0 0))
    go_wp2
    refine bodyPost_ret (v:=.tuple #[.agg #[.int .i64 0,.int .i64 0,.slice none 0 0],.bool false,.int .i64 1]) (by simp[results,Tryz.results11,go_sem,z0,z1,z2]) rfl ⟨HF.out,.inr ⟨HNO.out,rfl⟩⟩
  have hnb:((SL.size:Int) != (Z:Int))=false:=by rw[←hSL,hLs];simp;omega
  have hnb2:(SL.size != Z)=false:=by rw[←hSL,hLs];simpa using hne
  have HLZ:=hide hne
  rw[hSL] at hSd HS ⊢
  clear hSL hne hLs
  have hmx:Tryz.prog.follows .mixedOrders=true:=by kernel_rfl
  refine qYgd (S:=(fun v=>Below X.heap.size X v∧v.cell? ⟨V1.heap.size+1,0,none⟩=some (.string SL)∧v.cell? ⟨V1.heap.size,0,none⟩=some (.int .i64 x)∧v.cell? ⟨V1.heap.size,1,none⟩=some (.int .i64 y)∧v.cell? ⟨V1.heap.size,2,none⟩=some (.int .i64 C))) (f:=8) hmx ?_
  show jZdv _ _ _ _ _ _ 9 _ _ X.drew
  refine takeQ 0 ?vv68 (some 16) [2,1] ?yy68 hSd ?rr68
  case yy68=>(intro wq hSq;obtain ⟨_,_,_,_,_⟩:=hSq;go_simp<;>with_reducible rfl)
  simp only[Act.put,List.setIfInBounds_toArray,List.set_cons_succ,List.set_cons_zero]
  refine takeQ 1 ?vv69 (some 17) [2] ?yy69 hSd ?rr69
  case yy69=>(intro wq hSq;obtain ⟨_,_,_,_,_⟩:=hSq;go_simp<;>with_reducible rfl)
  simp only[Act.put,List.setIfInBounds_toArray,List.set_cons_succ,List.set_cons_zero]
  refine takeQ 2 ?vv70 (some 18) [] ?yy70 hSd ?rr70
  case yy70=>(intro wq hSq;obtain ⟨_,_,_,_,_⟩:=hSq;go_simp<;>with_reducible rfl)
  simp only[Act.put,List.setIfInBounds_toArray,List.set_cons_succ,List.set_cons_zero]
  refine takeQ 3 ?vv71 (some 19) [7,4] ?yy71 hSd ?rr71
  case yy71=>(intro wq hSq;obtain ⟨_,_,_,_,_⟩:=hSq;go_simp<;>with_reducible rfl)
  simp only[Act.put,List.setIfInBounds_toArray,List.set_cons_succ,List.set_cons_zero]
  refine takeQ 5 ?vv72 (some 21) [7,6] ?yy72 hSd ?rr72
  case yy72=>(intro wq hSq;obtain ⟨_,_,_,_,_⟩:=hSq;go_simp<;>with_reducible rfl)
  simp only[Act.put,List.setIfInBounds_toArray,List.set_cons_succ,List.set_cons_zero]
  refine takeQ 4 ?vv73 (some 20) [7] ?yy73 hSd ?rr73
  case yy73=>(intro wq hSq;obtain ⟨_,_,_,_,_⟩:=hSq;go_simp<;>with_reducible rfl)
  simp only[Act.put,List.setIfInBounds_toArray,List.set_cons_succ,List.set_cons_zero]
  refine znWj (i:=6) (o:=_) (by kernel_rfl) rfl (fun K' hK=>?_)
  rw[if_pos (by rfl)]
  go_simp
  refine (HSI.out _).mono ?_
  rintro e V2 ⟨rfl,hb2⟩
  have hSd:=HS.out _ (quJN hSd.1 hb2)
  refine hK.out _ _ hSd ?_
  clear hK
  try simp only[Act.put]
  refine takeQ 7 ?vv74 (some 23) [] ?yy74 hSd ?rr74
  case yy74=>(intro wq hSq;obtain ⟨_,_,_,_,_⟩:=hSq;go_simp<;>with_reducible rfl)
  simp only[Act.put,List.setIfInBounds_toArray,List.set_cons_succ,List.set_cons_zero]
  refine z9gO (o:=_) (by kernel_rfl) rfl (fun K' hK=>?_)
  rw[if_pos (by rfl)]
  go_simp
  refine hK.out _ _ ?_
  clear hK
  refine jFdp (by kernel_rfl) ?_ _
  try simp only[Act.put]
  have hB3:=hSd.1
  obtain ⟨_,_,q0,q1,q2⟩:=hSd
  have lB2:=HB2.out.size
  have g3:=(hB3.block _ (Nat.lt_of_lt_of_le HSZ.out lB2)).trans ((HB2.out.block _ HSZ.out).trans g1)
  have k1:=(hB3.block _ l1).trans b1
  have k2:=(hB3.block _ l2).trans b2
  have HBW:=hide (quJN (quJN HB1.out HB2.out) hB3)
  have hsz2:=hB3.size
  clear hB3 hb2 HS b1 b2 g1
  have hst:=qc07 V2 93 (.func (.func 38) #[] #[.pointer (some ⟨V1.heap.size,0,none⟩),.pointer (some ⟨V1.heap.size+1,0,none⟩)]) .nilFunc rfl
  have e1:=setRow_heap _ _ _ #[(.func (.func 38) #[] #[.pointer (some ⟨V1.heap.size,0,none⟩),.pointer (some ⟨V1.heap.size+1,0,none⟩)])] _ _ (al1 V2 (Obj.cells #[.nilFunc] 93))
  have hbf:=below_setRow (g:=V2.heap.size) (qUNz V2 (Obj.cells #[.nilFunc] 93)) (Nat.le_refl _) #[(.func (.func 38) #[] #[.pointer (some ⟨V1.heap.size,0,none⟩),.pointer (some ⟨V1.heap.size+1,0,none⟩)])]
  have lk1:=(Array.getElem?_eq_some_iff.1 k1).1
  have lk2:=(Array.getElem?_eq_some_iff.1 k2).1
  have lg3:=(Array.getElem?_eq_some_iff.1 g3).1
  replace k1:=(hbf.block _ lk1).trans k1
  replace k2:=(hbf.block _ lk2).trans k2
  replace g3:=(hbf.block _ lg3).trans g3
  replace HBW:=hide (quJN HBW.out hbf)
  go_upto_region 5 with fail
  clear hst
  generalize (V2.alloc (Obj.cells #[.nilFunc] 93)).setRow V2.heap.size #[(.func (.func 38) #[] #[.pointer (some ⟨V1.heap.size,0,none⟩),.pointer (some ⟨V1.heap.size+1,0,none⟩)])]=XF at *
  generalize V2.heap.size=FB at *
  have le1:=(Array.getElem?_eq_some_iff.1 e1).1
  obtain ⟨n0,n1,n2⟩:=z5EY k1
  have y1:=al1 XF (Obj.cells #[.int .i64 x,.int .i64 y] 95)
  have hbg:=qUNz XF (Obj.cells #[.int .i64 x,.int .i64 y] 95)
  replace lk1:=(Array.getElem?_eq_some_iff.1 k1).1
  replace lk2:=(Array.getElem?_eq_some_iff.1 k2).1
  replace lg3:=(Array.getElem?_eq_some_iff.1 g3).1
  have hn1:XF.heap.size≠w.heap.size:=by omega
  replace k1:=(hbg.block _ lk1).trans k1
  replace k2:=(hbg.block _ lk2).trans k2
  replace g3:=(hbg.block _ lg3).trans g3
  replace e1:=(hbg.block _ le1).trans e1
  replace HBW:=hide (quJN HBW.out hbg)
  clear hbf q0 q1 q2 hbg
  go_upto_region 6 with fail
  clear n0 n1 n2
  generalize XF.alloc (Obj.cells #[.int .i64 x,.int .i64 y] 95)=Y at *
  replace lk1:=(Array.getElem?_eq_some_iff.1 k1).1
  replace lk2:=(Array.getElem?_eq_some_iff.1 k2).1
  replace lg3:=(Array.getElem?_eq_some_iff.1 g3).1
  replace le1:=(Array.getElem?_eq_some_iff.1 e1).1
  have ly1:=(Array.getElem?_eq_some_iff.1 y1).1
  have HS:=hide (show ∀v,Below Y.heap.size Y v→(fun v=>v.heap[XF.heap.size]?=some (.cells #[.int .i64 x,.int .i64 y] 95 (0,0))∧v.heap[V1.heap.size]?=some (.cells #[.int .i64 x,.int .i64 y,.int .i64 C] 82 (0,0))) v from fun v hv=>⟨(hv.block _ ly1).trans y1,(hv.block _ lk1).trans k1⟩)
  have hSd:(fun v=>v.heap[XF.heap.size]?=some (.cells #[.int .i64 x,.int .i64 y] 95 (0,0))∧v.heap[V1.heap.size]?=some (.cells #[.int .i64 x,.int .i64 y,.int .i64 C] 82 (0,0))) Y.drew:=HS.out _ (jom3 Y)
  have hn2:V1.heap.size≠w.heap.size:=by have:=HSZ.out;omega
  have HGP:=hide (fun (V:World) (hV:Below Y.heap.size Y V)=>XMhx x y (y*x) h2 h4 rfl 41 #[.pointer (some ⟨XF.heap.size,0,none⟩),.pointer (some ⟨FB,0,none⟩)] (pxOf d L) V (enters_of Tryz.func41 (by kernel_rfl) rfl) (fun j V' hj hV'=>by
    have hv:=quJN hV hV'
    have r1:=(hv.block _ lk1).trans k1
    have r2:=(hv.block _ lk2).trans k2
    have r3:=(hv.block _ ly1).trans y1
    have r4:=(hv.block _ le1).trans e1
    have hjx:j / x*x+j % x=j:=by rw[Nat.mul_comm];exact Nat.div_add_mod j x
    have hj4:j<4096:=by have:=Nat.mul_comm y x;omega
    have hlen:szP d*(3*j+2)+szP d≤L.length:=by
      rw[HLZ.out,←HZ.out,show 3*x*y=3*(y*x) by rw[Nat.mul_assoc,Nat.mul_comm x y]]
      have:szP d*(3*j+2)+szP d=szP d*(3*j+3):=by rw[←Nat.mul_succ]
      rw[this]
      exact Nat.mul_le_mul_left _ (by omega)
    exact HPX.out j (j % x) (j / x) V1.heap.size (V1.heap.size+1) XF.heap.size FB V' r1 r2 r3 r4 hjx hlen (by rw[HLZ.out];omega) (by omega)))
  rw[←HPI.out] at HGP
  have hmx:Tryz.prog.follows .mixedOrders=true:=by kernel_rfl
  refine qYgd (S:=(fun v=>v.heap[XF.heap.size]?=some (.cells #[.int .i64 x,.int .i64 y] 95 (0,0))∧v.heap[V1.heap.size]?=some (.cells #[.int .i64 x,.int .i64 y,.int .i64 C] 82 (0,0)))) (f:=7) hmx ?_
  show jZdv _ _ _ _ _ _ 8 _ _ Y.drew
  refine takeQ 0 ?vv75 (some 32) [] ?yy75 hSd ?rr75
  case yy75=>(intro wq hSq;obtain ⟨hq1,hq2⟩:=hSq;obtain ⟨q0,q1⟩:=bx2 hq1;obtain ⟨r0,r1,r2⟩:=z5EY hq2;go_simp<;>with_reducible rfl)
  simp only[Act.put,List.setIfInBounds_toArray,List.set_cons_succ,List.set_cons_zero]
  refine takeQ 1 ?vv76 (some 33) [] ?yy76 hSd ?rr76
  case yy76=>(intro wq hSq;obtain ⟨hq1,hq2⟩:=hSq;obtain ⟨q0,q1⟩:=bx2 hq1;obtain ⟨r0,r1,r2⟩:=z5EY hq2;go_simp<;>with_reducible rfl)
  simp only[Act.put,List.setIfInBounds_toArray,List.set_cons_succ,List.set_cons_zero]
  refine takeQ 3 ?vv77 (some 35) [] ?yy77 hSd ?rr77
  case yy77=>(intro wq hSq;obtain ⟨hq1,hq2⟩:=hSq;obtain ⟨q0,q1⟩:=bx2 hq1;obtain ⟨r0,r1,r2⟩:=z5EY hq2;go_simp<;>with_reducible rfl)
  simp only[Act.put,List.setIfInBounds_toArray,List.set_cons_succ,List.set_cons_zero]
  refine znWj (i:=2) (o:=_) (by kernel_rfl) rfl (fun K' hK=>?_)
  rw[if_pos (by rfl)]
  go_simp
  refine (HGP.out _ (jom3 Y)).mono ?_
  rintro e W1 ⟨r,rfl,hr,hbv,hfr⟩
  have HR:=hide hr
  obtain ⟨ro,rc,rfl,x1,x2⟩:=hr
  clear x1 x2
  rw[XxVr] at HR hfr ⊢
  have hW1:=quJN (jom3 Y) hbv
  have hSd:=HS.out _ hW1
  refine hK.out _ _ hSd ?_
  clear hK
  try simp only[Act.put]
  refine znWj (i:=4) (o:=_) (by kernel_rfl) rfl (fun K' hK=>?_)
  rw[if_pos (by rfl)]
  go_simp
  refine (HDP.out _).mono ?_
  rintro e W2 ⟨rfl,hb9⟩
  have hW2:=quJN hW1 hb9
  have HR2:=hide (HR.out.below hb9 (Nat.le_refl _))
  have hSd:=HS.out _ hW2
  refine hK.out _ _ hSd ?_
  clear hK
  try simp only[Act.put]
  refine znWj (i:=5) (o:=_) (by kernel_rfl) rfl (fun K' hK=>?_)
  have hz:=(hW2.block _ lg3).trans g3
  obtain ⟨z0,z1,z2⟩:=z5EY hz
  have f0:=Lib.frozen_of_heap hz 0
  have f1:=Lib.frozen_of_heap hz 1
  have f2:=Lib.frozen_of_heap hz 2
  have HF:=hide (zHqh (quJN HBW.out hW2) (Nat.le_refl _) (.int .i64 x) (.int .i64 y) (.slice ro (y*x) rc))
  have HRF:=hide (HR2.out.set3 hfr (show w.heap.size<Y.drew.heap.size from lg3) (.int .i64 x) (.int .i64 y) (.slice ro (y*x) rc))
  rw[if_pos (by rfl)]
  go_simp
  have hSd:=(show (fun (v:World)=>v.heap[XF.heap.size]?=some (.cells #[.int .i64 x,.int .i64 y] 95 (0,0))∧v.heap[V1.heap.size]?=some (.cells #[.int .i64 x,.int .i64 y,.int .i64 C] 82 (0,0))) (((W2.setCell ⟨w.heap.size,0,none⟩ (.int .i64 x)).setCell ⟨w.heap.size,1,none⟩ (.int .i64 y)).setCell ⟨w.heap.size,2,none⟩ (.slice ro (y*x) rc)) from ⟨(jZhz _ _ _ _ _ _ hn1).trans hSd.1,(jZhz _ _ _ _ _ _ hn2).trans hSd.2⟩)
  refine hK.out _ _ hSd ?_
  clear hK
  try simp only[Act.put]
  refine znWj (i:=6) (o:=_) (by kernel_rfl) rfl (fun K' hK=>?_)
  rw[if_pos (by rfl)]
  go_simp
  have hSd:=hSd
  refine hK.out _ _ hSd ?_
  clear hK
  try simp only[Act.put]
  refine z9gO (o:=_) (by kernel_rfl) rfl (fun K' hK=>?_)
  rw[if_pos (by rfl)]
  go_simp
  refine hK.out _ _ ?_
  clear hK
  refine jFdp (by kernel_rfl) ?_ _
  try simp only[Act.put]
  go_wp2
  refine bodyPost_ret (v:=.tuple #[.agg #[.int .i64 x,.int .i64 y,.slice ro (y*x) rc],.bool d,.int .i64 0]) (by simp[results,Tryz.results11,go_sem,z0,z1,z2,HDE.out]) rfl ⟨HF.out,.inl (RdOk.mk (HYES.out HLZ.out) HRF.out (hfr.mono (Nat.le_of_lt lg3)))⟩
end Go.Proofs.YtfjeonehdlphiaaGreatDoor
namespace Go.Proofs.YtfjeonehdlphiaaGreatDoor
theorem X9iy {W H:Int} {ps:List Px} (h:picOk W H ps=true):ps.length=W.toNat*H.toNat∧1≤W.toNat∧W.toNat≤64∧1≤H.toNat∧H.toNat≤64∧0≤W∧0≤H:=by
 obtain ⟨⟨a1,a2⟩,⟨b1,b2⟩,hl,_⟩:=XMjn h
 obtain ⟨WN,rfl⟩:=Int.eq_ofNat_of_zero_le (show 0≤W by omega)
 obtain ⟨HN,rfl⟩:=Int.eq_ofNat_of_zero_le (show 0≤H by omega)
 have h2:(ps.length:Int)=((WN*HN:Nat):Int):=by rw[hl];simp
 exact ⟨by simp only[Int.toNat_natCast];omega,by omega,by omega,by omega,by omega,by omega,by omega⟩
theorem zbk9 {W H:Int} {ps:List Px} (d:Bool) (h:picOk W H ps=true):Shot (shotB W H ps d) W.toNat H.toNat d (pixB d ps):=by
 obtain ⟨hl,h1,h2,h3,h4,_⟩:=X9iy h
 exact ⟨h1,h2,h3,h4,rfl,by rw[XF45,hl,Nat.mul_assoc]⟩
theorem XB1u {W H:Int} {ps:List Px} (d:Bool) (h:picOk W H ps=true):(shotB W H ps d).length≤140737488355328:=by
 obtain ⟨hl,h1,h2,h3,h4,_⟩:=X9iy h
 have e1:(headT W.toNat H.toNat (hdM d)).length≤40:=zAed (a:=W.toNat) (b:=H.toNat) (c:=hdM d) (by omega) (by omega) (by cases d<;>decide) 3 (by omega)
 have e2:W.toNat*H.toNat≤64*64:=Nat.mul_le_mul h2 h4
 have e3:szP d≤2:=by unfold szP;cases d<;>decide
 have e4:szP d*(3*ps.length)≤2*12288:=Nat.mul_le_mul e3 (by omega)
 rw[shotB,List.length_append,XF45]
 omega
theorem qrgi {W H:Int} {ps:List Px} (h:picOk W H ps=true):∀p∈ps,inP p.1∧inP p.2.1∧inP p.2.2:=by
 obtain ⟨_,_,_,hp⟩:=XMjn h
 exact fun p hq=>Xb2u (List.all_eq_true.1 hp p hq)
theorem X0Ld {W H:Int} {ps:List Px} (h:picOk W H ps=true) {a b:Nat} {d:Bool} {L:List UInt8} (q:Shot (shotB W H ps true) a b d L):(a:Int)=W∧(b:Int)=H∧d=true∧pixOf d L (b*a)=ps:=by
 obtain ⟨rfl,rfl,rfl,rfl⟩:=q.one (zbk9 true h)
 obtain ⟨hl,h1,h2,h3,h4,h5,h6⟩:=X9iy h
 refine ⟨by omega,by omega,rfl,?_⟩
 rw[Nat.mul_comm,←hl]
 exact zwUh ps (qrgi h)
end Go.Proofs.YtfjeonehdlphiaaGreatDoor
namespace Go.Proofs.YtfjeonehdlphiaaGreatDoor
open Go.RowKit
def noBef (s:List UInt8) (a b z:Nat):Prop:=∀(a' b':Nat) (d:Bool) (L:List UInt8),Shot s a' b' d L→a<a'∨(a=a'∧(b<b'∨(b=b'∧z≤szP d)))
theorem qrCK (d:Bool):1≤szP d∧szP d≤2:=by unfold szP;split<;>omega
theorem zlNV (s:List UInt8):noBef s 1 1 1:=fun a b d L h=>by
 have:=h.a1;have:=h.b1;have:=(qrCK d).1;omega
theorem zY1t {s:List UInt8} {a b:Nat} (h:noBef s a b 3):noBef s a (b+1) 1:=fun a' b' d L h'=>by
 have:=h a' b' d L h';have:=qrCK d;omega
theorem qZLb {s:List UInt8} {a:Nat} (h:noBef s a 65 1):noBef s (a+1) 1 1:=fun a' b' d L h'=>by
 have:=h a' b' d L h';have:=qrCK d;have:=h'.b2;have:=h'.b1;omega
theorem znn1 {s:List UInt8} (h:noBef s 65 1 1):q74T s:=fun a b d L h'=>by
 have:=h a b d L h';have:=h'.a2;omega
theorem qOnK {d d':Bool} (h:szP d=szP d'):d=d':=by cases d<;>cases d'<;>simp_all[szP]
theorem XJVq {s:List UInt8} {a b:Nat} {d:Bool} (h:noBef s a b (szP d)) (hn:∀L,¬Shot s a b d L):noBef s a b (szP d+1):=fun a' b' d' L h'=>by
 have h1:=h a' b' d' L h'
 by_cases he:a=a'∧b=b'∧szP d=szP d'
 ·obtain ⟨rfl,rfl,h3⟩:=he
  obtain rfl:=qOnK h3
  exact absurd h' (hn L)
 ·omega
def FrOk (s:List UInt8) (B:Nat) (e:Ending) (w':World):Prop :=
 ∃(a b:Nat) (d:Bool) (L:List UInt8) (r:Value),Shot s a b d L∧e=.returned (.tuple #[.agg #[.int .i64 a,.int .i64 b,r],.bool d,.bool true])∧IsPix w' r (pixOf d L (b*a))∧Fresh B r
theorem FrOk.mk {s:List UInt8} {B a b:Nat} {d:Bool} {L:List UInt8} {r:Value} {w':World} (h:Shot s a b d L) (hr:IsPix w' r (pixOf d L (b*a))) (hf:Fresh B r):FrOk s B (.returned (.tuple #[.agg #[.int .i64 a,.int .i64 b,r],.bool d,.bool true])) w' :=
 ⟨a,b,d,L,r,h,rfl,hr,hf⟩
theorem qx8U {s:List UInt8} {a b:Nat} {d:Bool} (ha:1≤a∧a≤64) (hb:1≤b∧b≤64) (hl:s.length=(headT a b (hdM d)).length+3*szP d*a*b) (hbeg:begB s (headT a b (hdM d))=true):Shot s a b d (s.drop (headT a b (hdM d)).length):=by
 have hs:s.take (headT a b (hdM d)).length=headT a b (hdM d):=by
  obtain ⟨t,ht⟩:=(juR0 _ _).1 hbeg
  rw[←ht];simp
 refine ⟨ha.1,ha.2,hb.1,hb.2,?_,?_⟩
 ·conv=>lhs;rw[←List.take_append_drop (headT a b (hdM d)).length s,hs]
 ·rw[List.length_drop,hl,Nat.add_sub_cancel_left]
  rw[Nat.mul_comm 3 (szP d),Nat.mul_assoc,Nat.mul_assoc,Nat.mul_assoc]
theorem XClu {s:List UInt8} {a b:Nat} {d:Bool} (h:s.length≠(headT a b (hdM d)).length+3*szP d*a*b∨begB s (headT a b (hdM d))=false) (L:List UInt8):¬Shot s a b d L:=fun q=>by
 rcases h with h|h
 ·apply h
  rw[q.eq,List.length_append,q.len]
  rw[Nat.mul_comm 3 (szP d),Nat.mul_assoc,Nat.mul_assoc,Nat.mul_assoc]
 ·rw[(juR0 s _).2 ⟨L,q.eq.symm⟩] at h
  cases h
theorem Xbns {s:List UInt8} {d:Bool} {F k:Nat} (h:F+szP d*k+szP d≤s.length):256*((s.getD (F+k*szP d) 0).toNat:Int)+((s.getD (F+k*szP d+szP d-1) 0).toNat:Int)=ptB d (s.drop F) k:=by
 unfold ptB szP at *
 cases d
 ·simp only[Bool.false_eq_true,if_false] at *
  have e:(s.drop F).getD k 0=s.getD (F+k*1) 0:=by simp[List.getD_eq_getElem?_getD]
  rw[e,show F+k*1+1-1=F+k*1 by omega]
  omega
 ·simp only[if_true] at *
  have e:(s.drop F).getD (2*k) 0=s.getD (F+k*2) 0:=by simp[List.getD_eq_getElem?_getD,Nat.mul_comm]
  have e2:(s.drop F).getD (2*k+1) 0=s.getD (F+k*2+2-1) 0:=by
   rw[show F+k*2+2-1=F+(2*k+1) by omega];simp[List.getD_eq_getElem?_getD]
  rw[e,e2]
def SfJ (w wr:World):Prop:=wr.heap[w.heap.size]?=some (.cells #[.int .i64 0,.int .i64 0,.slice none 0 0] 24 (0,0))∧Below w.heap.size w wr
theorem SfJ.below {w wr v:World} (h:SfJ w wr) (hb:Below wr.heap.size wr v):SfJ w v:=⟨(hb.block _ (Array.getElem?_eq_some_iff.1 h.1).1).trans h.1,quJN h.2 hb⟩
def SfK (w:World) (a b:Nat) (P:List Px) (Q k:Nat) (wr:World):Prop :=
 ∃so scap,wr.heap[Q]?=some (.cells #[.int .i64 a,.int .i64 b,.slice so k scap] 24 (0,0))∧wr.ownsRow w.heap.size 61 3 (.slice so k scap) k ((P.take k).flatMap pixL)∧SfJ w wr
theorem SfK.below {w:World} {a b:Nat} {P:List Px} {Q k:Nat} {wr v:World} (h:SfK w a b P Q k wr) (hb:Below wr.heap.size wr v):SfK w a b P Q k v:=by
 obtain ⟨so,scap,h1,h2,h3⟩:=h
 exact ⟨so,scap,(hb.block _ (Array.getElem?_eq_some_iff.1 h1).1).trans h1,qw14 h2 hb,h3.below hb⟩
theorem SfK.store {w:World} {a b:Nat} {P:List Px} {Q k:Nat} {wr:World} {LB:Nat} {cs:Array Value} (h:SfK w a b P Q k wr) (hl:wr.heap[LB]?=some (.cells cs 47 (0,0))) (lW:w.heap.size≤LB) (q:Nat) (x:Value):SfK w a b P Q k (wr.setCell ⟨LB,q,none⟩ x):=by
 obtain ⟨so,scap,h1,h2,h3,h4⟩:=h
 have nQ:Q≠LB:=fun e=>by rw[e,hl] at h1;cases h1
 have nW:w.heap.size≠LB:=fun e=>by rw[e,hl] at h3;cases h3
 refine ⟨so,scap,(heap_setCell_other _ ⟨LB,q,none⟩ Q _ (fun e=>nQ e)).trans h1,?_,(heap_setCell_other _ ⟨LB,q,none⟩ _ _ (fun e=>nW e)).trans h3,h4.setCell (p:=⟨LB,q,none⟩) lW _⟩
 exact ownsRow_setCell_other h2 (fun e=>qYYy h2 hl (by decide) e.symm) _
theorem zv2d {z a b ZA N M k q:Nat} (h1:3*z*a=ZA) (h2:ZA*b=N) (hM:b*a=M) (hk:k<M) (hq:q<3):(3*k+q)*z+z≤N:=by
 have e:N=(3*M)*z:=by rw[←h2,←h1,←hM];simp only[Nat.mul_comm,Nat.mul_left_comm,Nat.mul_assoc]
 have h3:(3*k+q+1)*z≤(3*M)*z:=Nat.mul_le_mul_right _ (by omega)
 rw[Nat.add_mul,Nat.one_mul] at h3
 omega
def arr3 (p:Px) (q:Nat):Array Value:=#[.int .i64 (if 0<q then p.1 else 0),.int .i64 (if 1<q then p.2.1 else 0),.int .i64 (if 2<q then p.2.2 else 0)]
theorem qKsr (p:Px) (q:Nat) (h:q<3):(arr3 p q).setIfInBounds q (.int .i64 (pK p q))=arr3 p (q+1):=by
 rcases (show q=0∨q=1∨q=2 by omega) with rfl|rfl|rfl<;>rfl
theorem q1cI (p:Px) (q:Nat) (h:q<3):(arr3 p q)[q]?=some (.int .i64 0):=by
 rcases (show q=0∨q=1∨q=2 by omega) with rfl|rfl|rfl<;>rfl
theorem pK_of (d:Bool) (L:List UInt8) (k q:Nat) (h:q<3):pK (pxOf d L k) q=ptB d L (3*k+q):=by
 rcases (show q=0∨q=1∨q=2 by omega) with rfl|rfl|rfl<;>rfl
theorem qPbN (d:Bool) (L:List UInt8) (n k:Nat) (h:k<n):((pixOf d L n).take (k+1)).flatMap pixL=((pixOf d L n).take k).flatMap pixL++pixL (pxOf d L k):=by
 rw[List.take_succ_eq_append_getElem (by rw[XxVr];exact h)]
 simp[pixOf]
theorem X2wl (s:List UInt8) (hs:s.length≤140737488355328) (w:World):Calls Tryz.prog 12 #[.string (str s)] w fun e w'=>Below w.heap.size w w'∧(FrOk s w.heap.size e w'∨(q74T s∧e=.returned (.tuple #[.agg #[.int .i64 0,.int .i64 0,.slice none 0 0],.bool false,.bool false]))):=by
 have hss:(str s).size=s.length:=qzX5 s
 obtain ⟨i0,hi,hz0,hz1,hz2⟩:=info_parts Tryz.infoPixel
 have hJ0:SfJ w (w.alloc (Obj.cells #[.int .i64 0,.int .i64 0,.slice none 0 0] 24)):=⟨al1 w _,qUNz w _⟩
 go_enter Tryz.func12,Tryz.ntmps12
 go_wp2_with fail
 generalize w.alloc (Obj.cells #[.int .i64 0,.int .i64 0,.slice none 0 0] 24)=U at *
 go_loopw [5] (fun i wr=>∃a:Nat,1≤a∧a≤65∧i=.int .i64 a∧Hid (noBef s a 1 1)∧SfJ w wr) (fun i _=>65-(intOf i).toNat)
 case atStart=>exact ⟨1,by omega,by omega,rfl,hide (zlNV s),hJ0⟩
 case round =>
  clear hJ0
  obtain ⟨a,ha1,ha2,rfl,HN,hJ⟩:=hrel
  by_cases hla:a≤64
  rotate_left
  ·have hd:decide ((a:Int)≤64)=false:=decide_eq_false (by omega)
   obtain rfl:a=65:=by omega
   have HNS:=hide (znn1 HN.out)
   obtain ⟨z0,z1,z2⟩:=z5EY hJ.1
   have f0:=Lib.frozen_of_heap hJ.1 0
   have f1:=Lib.frozen_of_heap hJ.1 1
   have f2:=Lib.frozen_of_heap hJ.1 2
   have HFIN:=hide (zHqh hJ.2 (Nat.le_refl _) (.int .i64 0) (.int .i64 0) (.slice none 0 0))
   clear hJ HN
   go_wp2
   exact bodyPost_ret (v:=.tuple #[.agg #[.int .i64 0,.int .i64 0,.slice none 0 0],.bool false,.bool false]) (by simp[results,Tryz.results12,go_sem,z0,z1,z2]) rfl ⟨HFIN.out,.inr ⟨HNS.out,rfl⟩⟩
  have hd:decide ((a:Int)≤64)=true:=decide_eq_true (by omega)
  go_wp2_with fail
  go_loopw [6] (fun i wr=>∃b:Nat,1≤b∧b≤65∧i=.int .i64 b∧Hid (noBef s a b 1)∧SfJ w wr) (fun i _=>65-(intOf i).toNat)
  case atStart=>exact ⟨1,by omega,by omega,rfl,HN,hJ⟩
  case round =>
   clear hJ HN hd
   obtain ⟨b,hb1,hb2,rfl,HN,hJ⟩:=hrel
   by_cases hlb:b≤64
   rotate_left
   ·have hd:decide ((b:Int)≤64)=false:=decide_eq_false (by omega)
    obtain rfl:b=65:=by omega
    have HN2:=hide (qZLb HN.out)
    have HJ:=hide hJ
    clear hJ HN
    go_wp2
    go_roundw
    case rel=>exact ⟨a+1,by omega,by omega,by go_num,HN2,HJ.out⟩
    case measure=>simp[intOf];omega
   have hd:decide ((b:Int)≤64)=true:=decide_eq_true (by omega)
   go_wp2_with fail
   go_loopw [7] (fun i wr=>∃z:Nat,1≤z∧z≤3∧i=.int .i64 z∧Hid (noBef s a b z)∧SfJ w wr) (fun i _=>3-(intOf i).toNat)
   case atStart=>exact ⟨1,by omega,by omega,rfl,HN,hJ⟩
   case round =>
    clear hJ HN hd
    obtain ⟨z,hz1',hz2',rfl,HN,hJ⟩:=hrel
    by_cases hlz:z≤2
    rotate_left
    ·have hd:decide ((z:Int)≤2)=false:=decide_eq_false (by omega)
     obtain rfl:z=3:=by omega
     have HN2:=hide (zY1t HN.out)
     have HJ:=hide hJ
     clear hJ HN
     go_wp2
     go_roundw
     case rel=>exact ⟨b+1,by omega,by omega,by go_num,HN2,HJ.out⟩
     case measure=>simp[intOf];omega
    have hd:decide ((z:Int)≤2)=true:=decide_eq_true (by omega)
    obtain ⟨D,hD,hzD⟩:∃D:Bool,((z:Int) == 2)=D∧z=szP D:=by
     rcases (show z=1∨z=2 by omega) with rfl|rfl
     ·exact ⟨false,rfl,rfl⟩
     ·exact ⟨true,rfl,rfl⟩
    have HZD:=hide hzD
    have HHD:=hide (fun u=>zXUV a b (by omega) (by omega) D u)
    have HMT:=hide (fun h1 h2=>qx8U (s:=s) (d:=D) ⟨ha1,hla⟩ ⟨hb1,hlb⟩ h1 h2)
    have HMS:=hide (fun h=>XJVq (s:=s) (a:=a) (b:=b) (d:=D) (by rw[←hzD];exact HN.out) (fun L=>XClu h L))
    have hhl:(headT a b (hdM D)).length≤40:=zAed (a:=a) (b:=b) (c:=hdM D) (by omega) (by omega) (by unfold hdM;split<;>omega) 3 (by omega)
    have HJ:=hide hJ
    rw[←hzD] at HMT HMS
    generalize headT a b (hdM D)=HD at *
    clear hJ HN hzD
    obtain ⟨F,hF⟩:∃F,HD.length=F:=⟨_,rfl⟩
    rw[hF] at HMT HMS hhl
    have hFs:(str HD).size=F:=by rw[qzX5,hF]
    clear hF
    obtain ⟨ZA,hZA⟩:∃ZA,3*z*a=ZA:=⟨_,rfl⟩
    rw[hZA] at HMT HMS
    obtain ⟨N,hN⟩:∃N,ZA*b=N:=⟨_,rfl⟩
    rw[hN] at HMT HMS
    have hZl:ZA≤384:=by rw[←hZA];exact Nat.le_trans (Nat.mul_le_mul (show 3*z≤6 by omega) hla) (by decide)
    have hNl:N≤24576:=by rw[←hN];exact Nat.le_trans (Nat.mul_le_mul hZl hlb) (by decide)
    have v1:Value.int .i64 (IntKind.i64.wrap (3*(z:Int)*(a:Int)))=Value.int .i64 (ZA:Int):=by
     rw[show (3*(z:Int)*(a:Int))=(ZA:Int) by rw[←hZA];push_cast;rfl,IntWalk.i64_in _ (by omega)]
    have v2:Value.int .i64 (IntKind.i64.wrap ((ZA:Int)*(b:Int)))=Value.int .i64 (N:Int):=by
     rw[show ((ZA:Int)*(b:Int))=(N:Int) by rw[←hN];push_cast;rfl,IntWalk.i64_in _ (by omega)]
    have HZA:=hide hZA
    have HNN:=hide hN
    clear hZA hN
    go_wp2_with fail
    refine (HHD.out _).mono ?_
    rintro e w1 ⟨rfl,hb1'⟩
    have HJ1:=hide (HJ.out.below hb1')
    clear hb1' HHD HJ
    by_cases hlen:s.length=F+N
    rotate_left
    ·have hdl:((s.length:Int) != (F:Int)+(N:Int))=true:=by simp;omega
     have HN2:=hide (HMS.out (.inl hlen))
     clear HMS HMT
     go_wp2
     go_roundw
     case rel=>exact ⟨z+1,by omega,by omega,by go_num,HN2,HJ1.out⟩
     case measure=>simp[intOf];omega
    have HLEN:=hide hlen
    have hdl:((s.length:Int) != (F:Int)+(N:Int))=false:=by simp;omega
    clear hlen
    go_wp2_with fail
    refine (XKHC s HD _ hs (by have:=qzX5 HD;omega)).mono ?_
    rintro e w2 ⟨rfl,rfl⟩
    by_cases hbg:begB s HD=true
    rotate_left
    ·have HN2:=hide (HMS.out (.inr (by simpa using hbg)))
     rw[show begB s HD=false by simpa using hbg]
     clear HMS HMT hbg
     go_wp2
     go_roundw
     case rel=>exact ⟨z+1,by omega,by omega,by go_num,HN2,HJ1.out⟩
     case measure=>simp[intOf];omega
    have HSH:=hide (HMT.out HLEN.out hbg)
    rw[hbg]
    clear HMS HMT hbg
    obtain ⟨M,hM⟩:∃M,b*a=M:=⟨_,rfl⟩
    have hMl:M≤4096:=by rw[←hM];exact Nat.le_trans (Nat.mul_le_mul hlb hla) (by decide)
    have v3:Value.int .i64 (IntKind.i64.wrap ((a:Int)*(b:Int)))=Value.int .i64 (M:Int):=by
     rw[show ((a:Int)*(b:Int))=(M:Int) by rw[←hM,Nat.mul_comm];push_cast;rfl,IntWalk.i64_in _ (by omega)]
    have HBD:=hide (show ∀k q,k<M→q<3→(3*k+q)*z+z≤N from fun k q hk hq=>zv2d HZA.out HNN.out hM hk hq)
    have HPT:=hide (show ∀k q,k<M→q<3→256*((s.getD (F+(3*k+q)*z) 0).toNat:Int)+((s.getD (F+(3*k+q)*z+z-1) 0).toNat:Int)=pK (pxOf D (s.drop F) k) q from fun k q hk hq=>by
     have hbd:=zv2d HZA.out HNN.out hM hk hq
     rw[pK_of _ _ _ _ hq,HZD.out,Xbns]
     rw[←HZD.out,HLEN.out,Nat.mul_comm z]
     omega)
    have HTK:=hide (fun k h=>qPbN D (s.drop F) M k h)
    have HPL:=hide (XxVr D (s.drop F) M)
    have HFR:=hide (show ∀(B:Nat) (r:Value) (w':World),IsPix w' r (pixOf D (s.drop F) M)→Fresh B r→FrOk s B (.returned (.tuple #[.agg #[.int .i64 a,.int .i64 b,r],.bool D,.bool true])) w' from fun B r w' h1 h2=>FrOk.mk HSH.out (by rw[hM];exact h1) h2)
    have HIX:=hide (fun i h=>idxS s i h)
    have HBY:=hide (fun i=>UInt8.toNat_lt (s.getD i 0))
    clear hM HSH HZA HNN
    generalize pixOf D (s.drop F) M=PX at *
    generalize hPO:pxOf D (s.drop F)=PO at *
    clear hPO
    have t1:=al1 w1 (Obj.cells #[.int .i64 (a:Int),.int .i64 (b:Int),.slice none 0 0] 24)
    have hbA:=qUNz w1 (Obj.cells #[.int .i64 (a:Int),.int .i64 (b:Int),.slice none 0 0] 24)
    have HK0:=hide (show SfK w a b PX w1.heap.size 0 (w1.alloc (Obj.cells #[.int .i64 (a:Int),.int .i64 (b:Int),.slice none 0 0] 24)) from ⟨none,0,t1,by simpa using World.ownsRow_nil (w1.alloc (Obj.cells #[.int .i64 (a:Int),.int .i64 (b:Int),.slice none 0 0] 24)) w.heap.size 61 3,HJ1.out.below hbA⟩)
    have hw1:=(Array.getElem?_eq_some_iff.1 HJ1.out.1).1
    clear t1 hbA HJ1
    go_wp2_with fail
    generalize w1.alloc (Obj.cells #[.int .i64 (a:Int),.int .i64 (b:Int),.slice none 0 0] 24)=U1 at *
    obtain ⟨Q,hQ⟩:∃Q,w1.heap.size=Q:=⟨_,rfl⟩
    rw[hQ] at HK0 hw1 ⊢
    clear hQ
    go_loopw [10] (fun i wr=>∃k:Nat,k≤M∧i=.int .i64 k∧SfK w a b PX Q k wr) (fun i _=>M-(intOf i).toNat)
    case atStart=>exact ⟨0,Nat.zero_le _,rfl,HK0.out⟩
    case round =>
     clear HK0
     obtain ⟨k,hk,rfl,hK⟩:=hrel
     by_cases hlk:k<M
     rotate_left
     ·have hdk:decide ((k:Int)<(M:Int))=false:=decide_eq_false (by omega)
      obtain rfl:k=M:=by omega
      obtain ⟨so,scap,j1,j2,j4,j5⟩:=hK
      rw[List.take_of_length_le (by rw[HPL.out];exact Nat.le_refl _)] at j2
      obtain ⟨p0,p1,p2⟩:=z5EY j1
      obtain ⟨z0,z1,z2⟩:=z5EY j4
      have f0:=Lib.frozen_of_heap j4 0
      have f1:=Lib.frozen_of_heap j4 1
      have f2:=Lib.frozen_of_heap j4 2
      have HFI:=hide (zHqh j5 (Nat.le_refl _) (.int .i64 (a:Int)) (.int .i64 (b:Int)) (.slice so k scap))
      have hpx:IsPix wr (.slice so k scap) PX:=IsPix.own (base:=w.heap.size) (ps:=PX) (v:=.slice so k scap) (by rw[HPL.out];exact j2) (by rw[HPL.out];omega)
      have hne:(Value.slice so k scap).ownBlock≠some w.heap.size:=fun e=>qYYy j2 j4 (by decide) e.symm
      have HX:=hide (HFR.out w.heap.size _ _ (hpx.other (zv5i wr w.heap.size (.int .i64 (a:Int)) (.int .i64 (b:Int)) (.slice so k scap)) (fun b hb=>jZhz _ _ _ _ _ b hb) hne) (Fresh.own j2))
      clear hpx hne HFR
      go_wp2
      exact bodyPost_ret (v:=.tuple #[.agg #[.int .i64 a,.int .i64 b,.slice so k scap],.bool D,.bool true]) (by simp[results,Tryz.results12,go_sem,z0,z1,z2]) rfl ⟨HFI.out,.inl HX.out⟩
     have hdk:decide ((k:Int)<(M:Int))=true:=decide_eq_true (by omega)
     have hTK:=HTK.out k hlk
     have HTK2:=hide hTK
     have HBDk:=hide (fun q hq=>HBD.out k q hlk hq)
     have HPTk:=hide (fun q hq=>HPT.out k q hlk hq)
     clear hTK
     generalize PO k=p at *
     have l1:=al1 wr (Obj.cells #[.int .i64 0,.int .i64 0,.int .i64 0] 47)
     have HKA:=hide (hK.below (qUNz wr (Obj.cells #[.int .i64 0,.int .i64 0,.int .i64 0] 47)))
     have hLw:w.heap.size≤wr.heap.size:=by obtain ⟨_,_,_,_,h3⟩:=hK;exact h3.2.size
     clear hK
     go_wp2_with fail
     generalize wr.alloc (Obj.cells #[.int .i64 0,.int .i64 0,.int .i64 0] 47)=U2 at *
     obtain ⟨LB,hLB⟩:∃LB,wr.heap.size=LB:=⟨_,rfl⟩
     rw[hLB] at l1 hLw ⊢
     clear hLB
     go_loopw [12] (fun i wr=>∃q:Nat,q≤3∧i=.int .i64 q∧wr.heap[LB]?=some (.cells (arr3 p q) 47 (0,0))∧SfK w a b PX Q k wr) (fun i _=>3-(intOf i).toNat)
     case atStart=>exact ⟨0,Nat.zero_le _,rfl,l1,HKA.out⟩
     case round =>
      clear l1 HKA hdk
      obtain ⟨q,hq,rfl,l1,hK⟩:=hrel
      by_cases hq3:q<3
      ·have hdq:decide ((q:Int)<3)=true:=decide_eq_true (by omega)
       have hbd:=HBDk.out q hq3
       have HPQ:=hide (HPTk.out q hq3)
       obtain ⟨A,hA⟩:∃A,(3*k+q)*z=A:=⟨_,rfl⟩
       rw[hA] at hbd HPQ
       have v4:Value.int .i64 (IntKind.i64.wrap ((3*(k:Int)+(q:Int))*(z:Int)))=Value.int .i64 (A:Int):=by
        rw[show ((3*(k:Int)+(q:Int))*(z:Int))=(A:Int) by rw[←hA];push_cast;rfl,IntWalk.i64_in _ (by omega)]
       have hsl:=HLEN.out
       have x1:=HIX.out (F+A) (by omega)
       have x2:=HIX.out (F+A+z-1) (by omega)
       have y1:=HBY.out (F+A)
       have y2:=HBY.out (F+A+z-1)
       rw[show ((F+A:Nat):Int)=(F:Int)+(A:Int) by simp] at x1
       rw[show ((F+A+z-1:Nat):Int)=(F:Int)+(A:Int)+(z:Int)-1 by omega] at x2
       generalize (s.getD (F+A) 0).toNat=e1 at *
       generalize (s.getD (F+A+z-1) 0).toNat=e2 at *
       obtain ⟨x,hx⟩:∃x,pK p q=x:=⟨_,rfl⟩
       rw[hx] at HPQ
       have lc:wr.cell? ⟨LB,q,none⟩=some (.int .i64 0):=by rw[Lib.cell_of_heap l1];exact q1cI p q hq3
       have lf:=Lib.frozen_of_heap l1 q
       have l2:(wr.setCell ⟨LB,q,none⟩ (.int .i64 x)).heap[LB]?=some (.cells (arr3 p (q+1)) 47 (0,0)):=by
        rw[heap_setCell_same wr LB q _ _ _ l1,←hx,qKsr p q hq3]
       have HKS:=hide (show SfK w a b PX Q k (wr.setCell ⟨LB,q,none⟩ (.int .i64 x)) from hK.store l1 hLw _ _)
       have hAl:A≤24576:=by omega
       have HL2:=hide l2
       rw[←HPQ.out] at HL2 HKS
       have wz1:IntKind.i64.wrap ((F:Int)+(A:Int)+(z:Int))=(F:Int)+(A:Int)+(z:Int):=IntWalk.i64_in _ (by omega)
       have wz2:IntKind.i64.wrap ((F:Int)+(A:Int)+(z:Int)-1)=(F:Int)+(A:Int)+(z:Int)-1:=IntWalk.i64_in _ (by omega)
       have wy1:IntKind.i64.wrap (256*(e1:Int))=256*(e1:Int):=IntWalk.i64_in _ (by omega)
       have wy2:IntKind.i64.wrap (256*(e1:Int)+(e2:Int))=256*(e1:Int)+(e2:Int):=IntWalk.i64_in _ (by omega)
       clear hA hx hK l2 hsl hbd
       go_upto_region 21 with fail
       have hSd:(fun v:World=>v.cell? ⟨LB,q,none⟩=some (.int .i64 0)) wr.drew:=lc
       have hmx:Tryz.prog.follows .mixedOrders=true:=by kernel_rfl
       refine qYgd (S:=fun v:World=>v.cell? ⟨LB,q,none⟩=some (.int .i64 0)) (f:=15) hmx ?_
       show jZdv _ _ _ _ _ _ 16 _ _ wr.drew
       refine takeQ 0 ?vv1 (some 72) [] ?yy1 hSd ?rr1
       case yy1=>(intro wq hSq;obtain _:=hSq;go_simp<;>with_reducible rfl)
       simp only[Act.put,List.setIfInBounds_toArray,List.set_cons_succ,List.set_cons_zero]
       refine takeQ 1 ?vv2 (some 73) [] ?yy2 hSd ?rr2
       case yy2=>(intro wq hSq;obtain _:=hSq;go_simp<;>with_reducible rfl)
       simp only[Act.put,List.setIfInBounds_toArray,List.set_cons_succ,List.set_cons_zero]
       refine takeQ 2 ?vv3 (some 74) [] ?yy3 hSd ?rr3
       case yy3=>(intro wq hSq;obtain _:=hSq;go_simp<;>with_reducible rfl)
       simp only[Act.put,List.setIfInBounds_toArray,List.set_cons_succ,List.set_cons_zero]
       refine takeQ 6 ?vv4 (some 78) [] ?yy4 hSd ?rr4
       case yy4=>(intro wq hSq;obtain _:=hSq;go_simp<;>with_reducible rfl)
       simp only[Act.put,List.setIfInBounds_toArray,List.set_cons_succ,List.set_cons_zero]
       refine takeQ 7 ?vv5 (some 79) [] ?yy5 hSd ?rr5
       case yy5=>(intro wq hSq;obtain _:=hSq;go_simp<;>with_reducible rfl)
       simp only[Act.put,List.setIfInBounds_toArray,List.set_cons_succ,List.set_cons_zero]
       refine takeQ 8 ?vv6 (some 80) [] ?yy6 hSd ?rr6
       case yy6=>(intro wq hSq;obtain _:=hSq;go_simp<;>with_reducible rfl)
       simp only[Act.put,List.setIfInBounds_toArray,List.set_cons_succ,List.set_cons_zero]
       refine takeQ 3 ?vv7 (some 75) [] ?yy7 hSd ?rr7
       case yy7=>(intro wq hSq;obtain _:=hSq;go_simp<;>with_reducible rfl)
       simp only[Act.put,List.setIfInBounds_toArray,List.set_cons_succ,List.set_cons_zero]
       refine takeQ 9 ?vv8 (some 81) [] ?yy8 hSd ?rr8
       case yy8=>(intro wq hSq;obtain _:=hSq;go_simp<;>with_reducible rfl)
       simp only[Act.put,List.setIfInBounds_toArray,List.set_cons_succ,List.set_cons_zero]
       refine takeQ 4 ?vv9 (some 76) [] ?yy9 hSd ?rr9
       case yy9=>(intro wq hSq;obtain _:=hSq;go_simp<;>with_reducible rfl)
       simp only[Act.put,List.setIfInBounds_toArray,List.set_cons_succ,List.set_cons_zero]
       refine takeQ 10 ?vv10 (some 82) [] ?yy10 hSd ?rr10
       case yy10=>(intro wq hSq;obtain _:=hSq;go_simp<;>with_reducible rfl)
       simp only[Act.put,List.setIfInBounds_toArray,List.set_cons_succ,List.set_cons_zero]
       refine takeQ 5 ?vv11 (some 77) [] ?yy11 hSd ?rr11
       case yy11=>(intro wq hSq;obtain _:=hSq;go_simp<;>with_reducible rfl)
       simp only[Act.put,List.setIfInBounds_toArray,List.set_cons_succ,List.set_cons_zero]
       refine takeQ 11 ?vv12 (some 83) [] ?yy12 hSd ?rr12
       case yy12=>(intro wq hSq;obtain _:=hSq;go_simp<;>with_reducible rfl)
       simp only[Act.put,List.setIfInBounds_toArray,List.set_cons_succ,List.set_cons_zero]
       refine takeQ 12 ?vv13 (some 84) [] ?yy13 hSd ?rr13
       case yy13=>(intro wq hSq;obtain _:=hSq;go_simp<;>with_reducible rfl)
       simp only[Act.put,List.setIfInBounds_toArray,List.set_cons_succ,List.set_cons_zero]
       refine takeQ 13 ?vv14 (some 85) [] ?yy14 hSd ?rr14
       case yy14=>(intro wq hSq;obtain _:=hSq;go_simp<;>with_reducible rfl)
       simp only[Act.put,List.setIfInBounds_toArray,List.set_cons_succ,List.set_cons_zero]
       refine takeQ 14 ?vv15 (some 86) [] ?yy15 hSd ?rr15
       case yy15=>(intro wq hSq;obtain _:=hSq;go_simp;rw[if_pos (by omega)])
       simp only[Act.put,List.setIfInBounds_toArray,List.set_cons_succ,List.set_cons_zero]
       refine z9gO (o:=_) (by kernel_rfl) rfl (fun K' hK=>?_)
       rw[if_pos (by rfl)]
       go_simp
       refine hK.out _ _ ?_
       clear hK
       refine jFdp (by kernel_rfl) ?_ _
       try simp only[Act.put]
       go_wp2
       go_roundw
       case rel=>exact ⟨q+1,by omega,by go_num,HL2.out,HKS.out.below (jom3 _)⟩
       case measure=>simp[intOf];omega
      ·obtain rfl:q=3:=by omega
       obtain ⟨so,scap,j1,j2,j3⟩:=hK
       obtain ⟨⟨x,y,t⟩,hp⟩:∃q,p=q:=⟨_,rfl⟩
       subst hp
       have iT:wr.heap[LB]?=some (.cells #[.int .i64 x,.int .i64 y,.int .i64 t] 47 (0,0)):=l1
       have HST:=hide HTK2.out
       obtain ⟨XS,hXS⟩:∃XS,(PX.take k).flatMap pixL=XS:=⟨_,rfl⟩
       rw[hXS] at j2 HST
       have hbW:=j3.2.size
       have hlT:=(Array.getElem?_eq_some_iff.1 iT).1
       have nT:=qYYy j2 iT (by decide)
       have hlJ:=(Array.getElem?_eq_some_iff.1 j1).1
       have HL1:=hide (show k+1≤maxLen by unfold maxLen;omega)
       have HL2:=hide (show (k+1)*24≤140737488355328 by omega)
       have HS:=hide (show ∀v,Below wr.heap.size wr v→v.cell? ⟨LB,0,none⟩=some (.int .i64 x)∧v.cell? ⟨LB,1,none⟩=some (.int .i64 y)∧v.cell? ⟨LB,2,none⟩=some (.int .i64 t)∧v.cell? ⟨Q,2,none⟩=some (.slice so k scap) from fun v h=>by
        obtain ⟨t0,t1,t2⟩:=z5EY ((h.block _ hlT).trans iT)
        obtain ⟨_,_,t3⟩:=z5EY ((h.block _ hlJ).trans j1)
        exact ⟨t0,t1,t2,t3⟩)
       have HTL:=hide (show ∀(V2:World) (gg cap:Nat) (w3:World),Below wr.heap.size wr V2→V2.grownBy w3 (Value.slice so k scap).ownBlock→w3.ownsRow w.heap.size 61 3 (.slice (some ⟨gg,0,none⟩) (k+1) cap) (k+1) (XS++pixL (x,y,t))→(w3.cell? ⟨LB,0,none⟩=some (.int .i64 x)∧w3.cell? ⟨LB,1,none⟩=some (.int .i64 y)∧w3.cell? ⟨LB,2,none⟩=some (.int .i64 t)∧w3.cell? ⟨Q,2,none⟩=some (.slice so k scap))∧w3.frozen? ⟨Q,2,none⟩=false∧SfK w a b PX Q (k+1) (w3.setCell ⟨Q,2,none⟩ (.slice (some ⟨gg,0,none⟩) (k+1) cap)) from fun V2 gg cap w3 h1 h2 h3=>by
        obtain ⟨t1,t2,t3,t4,t5,t6,t7⟩:=j7Ww (by decide) j1 j2 j3.2 (Nat.le_refl _) (Nat.le_of_lt hw1) h1 h2 h3
        obtain ⟨y0,y1,y2⟩:=z5EY ((t1 _ hlT nT).trans iT)
        exact ⟨⟨y0,y1,y2,t2⟩,t3,some ⟨gg,0,none⟩,cap,t4,by rw[HST.out];exact t5,(t7 _ (Array.getElem?_eq_some_iff.1 j3.1).1 (qYYy j2 j3.1 (by decide)) (by omega)).trans j3.1,t6⟩)
       have HON:=hide (show ∀v:World,Calls Tryz.prog 44 #[.agg #[.int .i64 x,.int .i64 y,.int .i64 t]] v fun e v'=>e=.returned (.agg #[.int .i64 x,.int .i64 y,.int .i64 t])∧Below v.heap.size v v' from fun v=>qif0 (x,y,t) v)
       have hWe:Below wr.heap.size wr wr.drew:=(Below.refl _ _).drew
       have HO2:=hide j2
       clear iT j1 j3 hXS l1 nT hlT hlJ j2
       go_upto_region 22 with fail
       have hSd:=HS.out _ hWe
       have hmx:Tryz.prog.follows .mixedOrders=true:=by kernel_rfl
       refine qYgd (S:=fun v:World=>v.cell? ⟨LB,0,none⟩=some (.int .i64 x)∧v.cell? ⟨LB,1,none⟩=some (.int .i64 y)∧v.cell? ⟨LB,2,none⟩=some (.int .i64 t)∧v.cell? ⟨Q,2,none⟩=some (.slice so k scap)) (f:=7) hmx ?_
       show jZdv _ _ _ _ _ _ 8 _ _ wr.drew
       refine takeQ 0 ?vv16 (some 87) [] ?yy16 hSd ?rr16
       case yy16=>(intro wq hSq;obtain ⟨_,_,_,_⟩:=hSq;go_simp<;>with_reducible rfl)
       simp only[Act.put,List.setIfInBounds_toArray,List.set_cons_succ,List.set_cons_zero]
       refine takeQ 2 ?vv17 (some 89) [] ?yy17 hSd ?rr17
       case yy17=>(intro wq hSq;obtain ⟨_,_,_,_⟩:=hSq;go_simp<;>with_reducible rfl)
       simp only[Act.put,List.setIfInBounds_toArray,List.set_cons_succ,List.set_cons_zero]
       refine takeQ 1 ?vv18 (some 88) [] ?yy18 hSd ?rr18
       case yy18=>(intro wq hSq;obtain ⟨_,_,_,_⟩:=hSq;go_simp<;>with_reducible rfl)
       simp only[Act.put,List.setIfInBounds_toArray,List.set_cons_succ,List.set_cons_zero]
       refine znWj (i:=3) (o:=_) (by kernel_rfl) rfl (fun K' hK=>?_)
       rw[if_pos (by rfl)]
       go_simp
       refine (HON.out _).mono ?_
       rintro e V2 ⟨rfl,hbv2⟩
       have hB2:Below wr.heap.size wr V2:=hWe.trans (hbv2.mono hWe.size)
       have hSd:=HS.out _ hB2
       refine hK.out _ _ hSd ?_
       clear hK
       try simp only[Act.put]
       refine znWj (i:=4) (o:=_) (by kernel_rfl) rfl (fun K' hK=>?_)
       rw[if_pos (by rfl)]
       go_simp
       have hBs:Below wr.heap.size wr (V2.alloc (Obj.cells #[.int .i64 x,.int .i64 y,.int .i64 t] 61)):=hB2.alloc hB2.size _
       have hSd:=HS.out _ hBs
       refine hK.out _ _ hSd ?_
       clear hK
       try simp only[Act.put]
       refine znWj (i:=5) (o:=_) (by kernel_rfl) rfl (fun K' hK=>?_)
       refine step_append_lies _ rfl _ _ 22 rfl w.heap.size 61 i0 pixZ 3 24 Tryz.underlying22 hi hz0 hz1 hz2 rfl (by decide) (.slice so k scap) k XS rfl ((qw14 HO2.out hB2).alloc _) ⟨V2.heap.size,0,none⟩ 1 1 (pixL (x,y,t)) rfl rfl (World.news_of_block (al1 V2 _)) (fun u hu=>by simp[pixL] at hu;rcases hu with rfl|rfl|rfl<;>rfl) Nat.one_pos HL1.out HL2.out (Nat.le_trans hbW hBs.size) _ rfl ?_
       intro gg cap w3 hown hgrow hat hltg
       obtain ⟨hSx,p2f,HFIN⟩:=HTL.out _ gg cap w3 hBs hgrow hown
       have hSd:=hSx
       refine hK.out _ _ hSd ?_
       clear hK
       try simp only[Act.put]
       refine takeQ 6 ?vv19 (some 93) [] ?yy19 hSd ?rr19
       case yy19=>(intro wq hSq;obtain ⟨_,_,_,_⟩:=hSq;go_simp<;>with_reducible rfl)
       try simp only[Act.put]
       refine z9gO (o:=_) (by kernel_rfl) rfl (fun K' hK=>?_)
       rw[if_pos (by rfl)]
       go_simp
       refine hK.out _ _ ?_
       clear hK
       refine jFdp (by kernel_rfl) ?_ _
       try simp only[Act.put]
       go_wp2
       go_roundw
       case rel=>exact ⟨k+1,by omega,by go_num,HFIN⟩
       case measure=>simp[intOf];omega
end Go.Proofs.YtfjeonehdlphiaaGreatDoor
