/- Sa: part 37 of what the proofs need. -/
import Derived.Test.YtfjeonehdlphiaaGreatDoorC9Sa
import Derived.Test.YtfjeonehdlphiaaGreatDoorC29Sa
import Derived.Test.YtfjeonehdlphiaaGreatDoorC30Sa
import Derived.Test.YtfjeonehdlphiaaGreatDoorC35Sa
set_option linter.unusedVariables false
set_option maxHeartbeats 6400000
set_option maxRecDepth 100000
namespace Go.Proofs.YtfjeonehdlphiaaGreatDoor
open Go.RowKit
def q74T (s:List UInt8):Prop:=∀(a b:Nat) (d:Bool) (L:List UInt8),¬Shot s a b d L
def RdOk (s:List UInt8) (B:Nat) (e:Ending) (w':World):Prop :=
 ∃(a b:Nat) (d:Bool) (L:List UInt8) (r:Value),Shot s a b d L∧e=.returned (.tuple #[.agg #[.int .i64 a,.int .i64 b,r],.bool d,.int .i64 0])∧IsPix w' r (pixOf d L (b*a))∧Fresh B r
theorem RdOk.mk {s:List UInt8} {B a b:Nat} {d:Bool} {L:List UInt8} {r:Value} {w':World} (h:Shot s a b d L) (hr:IsPix w' r (pixOf d L (b*a))) (hf:Fresh B r):RdOk s B (.returned (.tuple #[.agg #[.int .i64 a,.int .i64 b,r],.bool d,.int .i64 0])) w' :=
 ⟨a,b,d,L,r,h,rfl,hr,hf⟩
theorem qc07 (V:World) (t:TypeId) (f z:Value) (h1:f.oneCell'=true):(store ⟨V.heap.size,0,none⟩ f).run Tryz.prog (V.alloc (Obj.cells #[z] t))=.ok () ((V.alloc (Obj.cells #[z] t)).setRow V.heap.size #[f]):=by
 have hg:=al1 V (Obj.cells #[z] t)
 have hcell:(V.alloc (Obj.cells #[z] t)).cell? ⟨V.heap.size,0,none⟩=some z:=by rw[Lib.cell_of_heap hg];rfl
 have hfro:=Lib.frozen_of_heap hg 0
 rw[run_store Tryz.prog _ _ f _ h1,hcell]
 simp[hfro,setCell_eq_setRow _ V.heap.size 0 _ t (0,0) f hg]
theorem XGNF {s:List UInt8} (h:XUXS s):q74T s:=fun a b d L q=>h a b d L q.a1 q.a2 q.b1 q.b2 q.eq
theorem zWIK {s:List UInt8} {x y:Nat} {d:Bool} {L:List UInt8} (h2:x≤64) (h4:y≤64) (e:s=headT x y (hdM d)++L) (hne:L.length≠szP d*(3*x*y)):q74T s:=fun a b d' L' q=>by
 have e1:=ji4T (a:=a) (b:=b) (by have:=q.a2;omega) (by have:=q.b2;omega) d' L'
 have e2:=ji4T (a:=x) (b:=y) (by omega) (by omega) d L
 rw[←q.eq] at e1
 rw[←e,e1] at e2
 simp only[Prod.mk.injEq] at e2
 obtain ⟨x1,x2,x3⟩:=e2
 have ea:a=x:=by omega
 have eb:b=y:=by omega
 have ed:d'=d:=qxjb (by omega)
 subst ea eb ed
 have:=List.append_cancel_left (e.symm.trans q.eq)
 subst this
 exact hne q.len
theorem XcLf (s:List UInt8) (hs:s.length≤140737488355328) (w:World) (hp:PowAt w):Calls Tryz.prog 11 #[.string (str s)] w fun e w'=>Below w.heap.size w w' ∧
    (RdOk s w.heap.size e w' ∨
     (q74T s∧e=.returned (.tuple #[.agg #[.int .i64 0,.int .i64 0,.slice none 0 0],.bool false,.int .i64 1]))):=by
  have HH:=hide (fun (u:World) (hu:Below w.heap.size w u)=>q1HI s hs u (hp.below hu (Nat.le_refl _)))
  have a1:=al1 w (Obj.cells #[.int .i64 0,.int .i64 0,.slice none 0 0] 24)
  have HB:=hide (qUNz w (Obj.cells #[.int .i64 0,.int .i64 0,.slice none 0 0] 24))
  have hl1:=(Array.getElem?_eq_some_iff.1 a1).1
  clear hp
  go_enter Tryz.func11,Tryz.ntmps11
  go_wp2_with fail
  generalize w.alloc (Obj.cells #[.int .i64 0,.int .i64 0,.slice none 0 0] 24)=U at *
  refine (HH.out U HB.out).mono ?_
  clear HH
  rintro e V1 ⟨hb1,hc⟩
  have g1:=(hb1.block _ hl1).trans a1
  have HB1:=hide (quJN HB.out hb1)
  have HSZ:=hide (show w.heap.size<V1.heap.size from Nat.lt_of_lt_of_le hl1 hb1.size)
  clear hb1 a1 HB hl1
  rcases hc with ⟨x,y,d,L,rfl,h1,h2,h3,h4,heq⟩|⟨a,b,c,L,rfl,hno⟩
  rotate_left
  · obtain ⟨b1, b2⟩ := al2 V1 (Obj.cells #[.int .i64 a, .int .i64 b, .int .i64 c] 82) (Obj.cells #[.string (str L)] 9)
    have HB2:=hide (quJN HB1.out (be2 V1 (Obj.cells #[.int .i64 a,.int .i64 b,.int .i64 c] 82) (Obj.cells #[.string (str L)] 9)))
    have g2:=((be2 V1 (Obj.cells #[.int .i64 a,.int .i64 b,.int .i64 c] 82) (Obj.cells #[.string (str L)] 9)).block _ HSZ.out).trans g1
    have HNO:=hide (XGNF hno)
    clear hno b1 b2 g1
    go_wp2_with fail
    generalize (V1.alloc (Obj.cells #[.int .i64 a,.int .i64 b,.int .i64 c] 82)).alloc (Obj.cells #[.string (str L)] 9)=X at *
    go_quiet (fail)
    have HBQ:=hide (show Below w.heap.size w (X.drewN nq) from below_drewN HB2.out nq)
    have g3:(X.drewN nq).heap[w.heap.size]?=some (Obj.cells #[.int .i64 0,.int .i64 0,.slice none 0 0] 24 (0,0)):=g2
    generalize X.drewN nq=XQ at *
    obtain ⟨z0,z1,z2⟩:=z5EY g3
    have f0:=Lib.frozen_of_heap g3 0
    have f1:=Lib.frozen_of_heap g3 1
    have f2:=Lib.frozen_of_heap g3 2
    have HF:=hide (zHqh HBQ.out (Nat.le_refl _) (.int .i64 0) (.int .i64 0) (.slice none 0 0))
    go_wp2
    refine bodyPost_ret (v:=.tuple #[.agg #[.int .i64 0,.int .i64 0,.slice none 0 0],.bool false,.int .i64 1]) (by simp[results,Tryz.results11,go_sem,z0,z1,z2]) rfl ⟨HF.out,.inr ⟨HNO.out,rfl⟩⟩
  have hxy:x*y≤64*64:=Nat.mul_le_mul h2 h4
  have hN3:3*x*y≤12288:=by rw[Nat.mul_assoc];omega
  have hZ2:szP d≤2:=by unfold szP;cases d<;>decide
  have HNL:=hide (fun (hne:L.length≠szP d*(3*x*y))=>zWIK h2 h4 heq hne)
  have HYES:=hide (fun (hl:L.length=szP d*(3*x*y))=>(⟨h1,h2,h3,h4,heq,hl⟩:Shot s x y d L))
  have hZM:szP d*(3*x*y)≤24576:=Nat.le_trans (Nat.mul_le_mul hZ2 hN3) (by omega)
  have HSI:=hide (fun u=>qgJE x y d h2 h4 u)
  have HDP:=hide (fun u=>qulr x y (hdM d:Nat) u)
  have HDE:=hide (q517 d)
  have hLs:(str L).size=L.length:=qzX5 L
  have HPX:=hide (fun (j X Y Bh Bl Bg Bf:Nat) (u:World) hh hl hg hf (hj:Y*x+X=j) (hk:szP d*(3*j+2)+szP d≤L.length) (hL:L.length≤100000) (hj4:j≤4096)=>XI6E x y X Y j d L Bh Bl Bg Bf u hh hl hg hf hj hk hL hj4)
  have HPI:=hide (show ∀N,pixOf d L N=(List.range N).map (pxOf d L) from fun _=>rfl)
  clear heq
  generalize hC:((hdM d:Nat):Int)=C at *
  clear hC
  obtain ⟨b1,b2⟩:=al2 V1 (Obj.cells #[.int .i64 x,.int .i64 y,.int .i64 C] 82) (Obj.cells #[.string (str L)] 9)
  have HB2:=hide (be2 V1 (Obj.cells #[.int .i64 x,.int .i64 y,.int .i64 C] 82) (Obj.cells #[.string (str L)] 9))
  go_upto_region 2 with fail
  generalize (V1.alloc (Obj.cells #[.int .i64 x,.int .i64 y,.int .i64 C] 82)).alloc (Obj.cells #[.string (str L)] 9)=X at *
  have l1:=(Array.getElem?_eq_some_iff.1 b1).1
  have l2:=(Array.getElem?_eq_some_iff.1 b2).1
  have HS:=hide (show ∀v,Below X.heap.size X v→(fun v=>Below X.heap.size X v∧v.cell? ⟨V1.heap.size+1,0,none⟩=some (.string (str L))∧v.cell? ⟨V1.heap.size,0,none⟩=some (.int .i64 x)∧v.cell? ⟨V1.heap.size,1,none⟩=some (.int .i64 y)∧v.cell? ⟨V1.heap.size,2,none⟩=some (.int .i64 C)) v from fun v hv=>by
    obtain ⟨q0,q1,q2⟩:=z5EY ((hv.block _ l1).trans b1)
    exact ⟨hv,by rw[Lib.cell_of_heap ((hv.block _ l2).trans b2)];rfl,q0,q1,q2⟩)
  have hSd:(fun v=>Below X.heap.size X v∧v.cell? ⟨V1.heap.size+1,0,none⟩=some (.string (str L))∧v.cell? ⟨V1.heap.size,0,none⟩=some (.int .i64 x)∧v.cell? ⟨V1.heap.size,1,none⟩=some (.int .i64 y)∧v.cell? ⟨V1.heap.size,2,none⟩=some (.int .i64 C)) X.drew:=HS.out _ (jom3 X)
  obtain ⟨Z,hZ⟩:∃Z:Nat,szP d*(3*x*y)=Z:=⟨_,rfl⟩
  rw[hZ] at HNL HYES hZM HSI
  have HZ:=hide hZ
  clear hZ
  obtain ⟨SL,hSL⟩:∃SL,str L=SL:=⟨_,rfl⟩
  have HSL:=hide hSL
  by_cases hne:L.length=Z
  rotate_left
  · have hnb : ((SL.size : Int) != (Z : Int)) = true := by rw [← hSL, hLs]; simp; omega
    have hnb2:(SL.size != Z)=true:=by rw[←hSL,hLs];simpa using hne
    have HNO:=hide (HNL.out hne)
    rw[hSL] at hSd HS ⊢
    clear hSL hne hLs
    have hmx:Tryz.prog.follows .mixedOrders=true:=by kernel_rfl
    refine qYgd (S:=(fun v=>Below X.heap.size X v∧v.cell? ⟨V1.heap.size+1,0,none⟩=some (.string SL)∧v.cell? ⟨V1.heap.size,0,none⟩=some (.int .i64 x)∧v.cell? ⟨V1.heap.size,1,none⟩=some (.int .i64 y)∧v.cell? ⟨V1.heap.size,2,none⟩=some (.int .i64 C))) (f:=8) hmx ?_
    show jZdv _ _ _ _ _ _ 9 _ _ X.drew
    refine takeQ 0 ?vv31 (some 16) [2,1] ?yy31 hSd ?rr31
    case yy31=>(intro wq hSq;obtain ⟨_,_,_,_,_⟩:=hSq;go_simp<;>with_reducible rfl)
    simp only[Act.put,List.setIfInBounds_toArray,List.set_cons_succ,List.set_cons_zero]
    refine takeQ 1 ?vv32 (some 17) [2] ?yy32 hSd ?rr32
    case yy32=>(intro wq hSq;obtain ⟨_,_,_,_,_⟩:=hSq;go_simp<;>with_reducible rfl)
    simp only[Act.put,List.setIfInBounds_toArray,List.set_cons_succ,List.set_cons_zero]
    refine takeQ 2 ?vv33 (some 18) [] ?yy33 hSd ?rr33
    case yy33=>(intro wq hSq;obtain ⟨_,_,_,_,_⟩:=hSq;go_simp<;>with_reducible rfl)
    simp only[Act.put,List.setIfInBounds_toArray,List.set_cons_succ,List.set_cons_zero]
    refine takeQ 3 ?vv34 (some 19) [7,4] ?yy34 hSd ?rr34
    case yy34=>(intro wq hSq;obtain ⟨_,_,_,_,_⟩:=hSq;go_simp<;>with_reducible rfl)
    simp only[Act.put,List.setIfInBounds_toArray,List.set_cons_succ,List.set_cons_zero]
    refine takeQ 5 ?vv35 (some 21) [7,6] ?yy35 hSd ?rr35
    case yy35=>(intro wq hSq;obtain ⟨_,_,_,_,_⟩:=hSq;go_simp<;>with_reducible rfl)
    simp only[Act.put,List.setIfInBounds_toArray,List.set_cons_succ,List.set_cons_zero]
    refine takeQ 4 ?vv36 (some 20) [7] ?yy36 hSd ?rr36
    case yy36=>(intro wq hSq;obtain ⟨_,_,_,_,_⟩:=hSq;go_simp<;>with_reducible rfl)
    simp only[Act.put,List.setIfInBounds_toArray,List.set_cons_succ,List.set_cons_zero]
    refine znWj (i:=6) (o:=_) (by kernel_rfl) rfl (fun K' hK=>?_)
    rw[if_pos (by rfl)]
    go_simp
    refine (HSI.out _).mono ?_
    rintro e V2 ⟨rfl,hb2⟩
    have hSd:=HS.out _ (quJN hSd.1 hb2)
    refine hK.out _ _ hSd ?_
    clear hK
    try simp only[Act.put]
    refine takeQ 7 ?vv37 (some 23) [] ?yy37 hSd ?rr37
    case yy37=>(intro wq hSq;obtain ⟨_,_,_,_,_⟩:=hSq;go_simp<;>with_reducible rfl)
    simp only[Act.put,List.setIfInBounds_toArray,List.set_cons_succ,List.set_cons_zero]
    refine z9gO (o:=_) (by kernel_rfl) rfl (fun K' hK=>?_)
    rw[if_pos (by rfl)]
    go_simp
    refine hK.out _ _ ?_
    clear hK
    refine jFdp (by kernel_rfl) ?_ _
    try simp only[Act.put]
    have hB3:=hSd.1
    have g3:=(hB3.block _ (Nat.lt_of_lt_of_le HSZ.out (HB2.out.size))).trans ((HB2.out.block _ HSZ.out).trans g1)
    have HBW:=hide (quJN (quJN HB1.out HB2.out) hB3)
    clear hSd hB3 hb2
    obtain ⟨z0,z1,z2⟩:=z5EY g3
    have f0:=Lib.frozen_of_heap g3 0
    have f1:=Lib.frozen_of_heap g3 1
    have f2:=Lib.frozen_of_heap g3 2
    have HF:=hide (zHqh HBW.out (Nat.le_refl _) (.int .i64 0) (.int .i64 0) (.slice none 0 0))
    go_wp2
    refine bodyPost_ret (v:=.tuple #[.agg #[.int .i64 0,.int .i64 0,.slice none 0 0],.bool false,.int .i64 1]) (by simp[results,Tryz.results11,go_sem,z0,z1,z2]) rfl ⟨HF.out,.inr ⟨HNO.out,rfl⟩⟩
  have hnb:((SL.size:Int) != (Z:Int))=false:=by rw[←hSL,hLs];simp;omega
  have hnb2:(SL.size != Z)=false:=by rw[←hSL,hLs];simpa using hne
  have HLZ:=hide hne
  rw[hSL] at hSd HS ⊢
  clear hSL hne hLs
  have hmx:Tryz.prog.follows .mixedOrders=true:=by kernel_rfl
  refine qYgd (S:=(fun v=>Below X.heap.size X v∧v.cell? ⟨V1.heap.size+1,0,none⟩=some (.string SL)∧v.cell? ⟨V1.heap.size,0,none⟩=some (.int .i64 x)∧v.cell? ⟨V1.heap.size,1,none⟩=some (.int .i64 y)∧v.cell? ⟨V1.heap.size,2,none⟩=some (.int .i64 C))) (f:=8) hmx ?_
  show jZdv _ _ _ _ _ _ 9 _ _ X.drew
  refine takeQ 0 ?vv68 (some 16) [2,1] ?yy68 hSd ?rr68
  case yy68=>(intro wq hSq;obtain ⟨_,_,_,_,_⟩:=hSq;go_simp<;>with_reducible rfl)
  simp only[Act.put,List.setIfInBounds_toArray,List.set_cons_succ,List.set_cons_zero]
  refine takeQ 1 ?vv69 (some 17) [2] ?yy69 hSd ?rr69
  case yy69=>(intro wq hSq;obtain ⟨_,_,_,_,_⟩:=hSq;go_simp<;>with_reducible rfl)
  simp only[Act.put,List.setIfInBounds_toArray,List.set_cons_succ,List.set_cons_zero]
  refine takeQ 2 ?vv70 (some 18) [] ?yy70 hSd ?rr70
  case yy70=>(intro wq hSq;obtain ⟨_,_,_,_,_⟩:=hSq;go_simp<;>with_reducible rfl)
  simp only[Act.put,List.setIfInBounds_toArray,List.set_cons_succ,List.set_cons_zero]
  refine takeQ 3 ?vv71 (some 19) [7,4] ?yy71 hSd ?rr71
  case yy71=>(intro wq hSq;obtain ⟨_,_,_,_,_⟩:=hSq;go_simp<;>with_reducible rfl)
  simp only[Act.put,List.setIfInBounds_toArray,List.set_cons_succ,List.set_cons_zero]
  refine takeQ 5 ?vv72 (some 21) [7,6] ?yy72 hSd ?rr72
  case yy72=>(intro wq hSq;obtain ⟨_,_,_,_,_⟩:=hSq;go_simp<;>with_reducible rfl)
  simp only[Act.put,List.setIfInBounds_toArray,List.set_cons_succ,List.set_cons_zero]
  refine takeQ 4 ?vv73 (some 20) [7] ?yy73 hSd ?rr73
  case yy73=>(intro wq hSq;obtain ⟨_,_,_,_,_⟩:=hSq;go_simp<;>with_reducible rfl)
  simp only[Act.put,List.setIfInBounds_toArray,List.set_cons_succ,List.set_cons_zero]
  refine znWj (i:=6) (o:=_) (by kernel_rfl) rfl (fun K' hK=>?_)
  rw[if_pos (by rfl)]
  go_simp
  refine (HSI.out _).mono ?_
  rintro e V2 ⟨rfl,hb2⟩
  have hSd:=HS.out _ (quJN hSd.1 hb2)
  refine hK.out _ _ hSd ?_
  clear hK
  try simp only[Act.put]
  refine takeQ 7 ?vv74 (some 23) [] ?yy74 hSd ?rr74
  case yy74=>(intro wq hSq;obtain ⟨_,_,_,_,_⟩:=hSq;go_simp<;>with_reducible rfl)
  simp only[Act.put,List.setIfInBounds_toArray,List.set_cons_succ,List.set_cons_zero]
  refine z9gO (o:=_) (by kernel_rfl) rfl (fun K' hK=>?_)
  rw[if_pos (by rfl)]
  go_simp
  refine hK.out _ _ ?_
  clear hK
  refine jFdp (by kernel_rfl) ?_ _
  try simp only[Act.put]
  have hB3:=hSd.1
  obtain ⟨_,_,q0,q1,q2⟩:=hSd
  have lB2:=HB2.out.size
  have g3:=(hB3.block _ (Nat.lt_of_lt_of_le HSZ.out lB2)).trans ((HB2.out.block _ HSZ.out).trans g1)
  have k1:=(hB3.block _ l1).trans b1
  have k2:=(hB3.block _ l2).trans b2
  have HBW:=hide (quJN (quJN HB1.out HB2.out) hB3)
  have hsz2:=hB3.size
  clear hB3 hb2 HS b1 b2 g1
  have hst:=qc07 V2 93 (.func (.func 38) #[] #[.pointer (some ⟨V1.heap.size,0,none⟩),.pointer (some ⟨V1.heap.size+1,0,none⟩)]) .nilFunc rfl
  have e1:=setRow_heap _ _ _ #[(.func (.func 38) #[] #[.pointer (some ⟨V1.heap.size,0,none⟩),.pointer (some ⟨V1.heap.size+1,0,none⟩)])] _ _ (al1 V2 (Obj.cells #[.nilFunc] 93))
  have hbf:=below_setRow (g:=V2.heap.size) (qUNz V2 (Obj.cells #[.nilFunc] 93)) (Nat.le_refl _) #[(.func (.func 38) #[] #[.pointer (some ⟨V1.heap.size,0,none⟩),.pointer (some ⟨V1.heap.size+1,0,none⟩)])]
  have lk1:=(Array.getElem?_eq_some_iff.1 k1).1
  have lk2:=(Array.getElem?_eq_some_iff.1 k2).1
  have lg3:=(Array.getElem?_eq_some_iff.1 g3).1
  replace k1:=(hbf.block _ lk1).trans k1
  replace k2:=(hbf.block _ lk2).trans k2
  replace g3:=(hbf.block _ lg3).trans g3
  replace HBW:=hide (quJN HBW.out hbf)
  go_upto_region 5 with fail
  clear hst
  generalize (V2.alloc (Obj.cells #[.nilFunc] 93)).setRow V2.heap.size #[(.func (.func 38) #[] #[.pointer (some ⟨V1.heap.size,0,none⟩),.pointer (some ⟨V1.heap.size+1,0,none⟩)])]=XF at *
  generalize V2.heap.size=FB at *
  have le1:=(Array.getElem?_eq_some_iff.1 e1).1
  obtain ⟨n0,n1,n2⟩:=z5EY k1
  have y1:=al1 XF (Obj.cells #[.int .i64 x,.int .i64 y] 95)
  have hbg:=qUNz XF (Obj.cells #[.int .i64 x,.int .i64 y] 95)
  replace lk1:=(Array.getElem?_eq_some_iff.1 k1).1
  replace lk2:=(Array.getElem?_eq_some_iff.1 k2).1
  replace lg3:=(Array.getElem?_eq_some_iff.1 g3).1
  have hn1:XF.heap.size≠w.heap.size:=by omega
  replace k1:=(hbg.block _ lk1).trans k1
  replace k2:=(hbg.block _ lk2).trans k2
  replace g3:=(hbg.block _ lg3).trans g3
  replace e1:=(hbg.block _ le1).trans e1
  replace HBW:=hide (quJN HBW.out hbg)
  clear hbf q0 q1 q2 hbg
  go_upto_region 6 with fail
  clear n0 n1 n2
  generalize XF.alloc (Obj.cells #[.int .i64 x,.int .i64 y] 95)=Y at *
  replace lk1:=(Array.getElem?_eq_some_iff.1 k1).1
  replace lk2:=(Array.getElem?_eq_some_iff.1 k2).1
  replace lg3:=(Array.getElem?_eq_some_iff.1 g3).1
  replace le1:=(Array.getElem?_eq_some_iff.1 e1).1
  have ly1:=(Array.getElem?_eq_some_iff.1 y1).1
  have HS:=hide (show ∀v,Below Y.heap.size Y v→(fun v=>v.heap[XF.heap.size]?=some (.cells #[.int .i64 x,.int .i64 y] 95 (0,0))∧v.heap[V1.heap.size]?=some (.cells #[.int .i64 x,.int .i64 y,.int .i64 C] 82 (0,0))) v from fun v hv=>⟨(hv.block _ ly1).trans y1,(hv.block _ lk1).trans k1⟩)
  have hSd:(fun v=>v.heap[XF.heap.size]?=some (.cells #[.int .i64 x,.int .i64 y] 95 (0,0))∧v.heap[V1.heap.size]?=some (.cells #[.int .i64 x,.int .i64 y,.int .i64 C] 82 (0,0))) Y.drew:=HS.out _ (jom3 Y)
  have hn2:V1.heap.size≠w.heap.size:=by have:=HSZ.out;omega
  have HGP:=hide (fun (V:World) (hV:Below Y.heap.size Y V)=>XMhx x y (y*x) h2 h4 rfl 41 #[.pointer (some ⟨XF.heap.size,0,none⟩),.pointer (some ⟨FB,0,none⟩)] (pxOf d L) V (enters_of Tryz.func41 (by kernel_rfl) rfl) (fun j V' hj hV'=>by
    have hv:=quJN hV hV'
    have r1:=(hv.block _ lk1).trans k1
    have r2:=(hv.block _ lk2).trans k2
    have r3:=(hv.block _ ly1).trans y1
    have r4:=(hv.block _ le1).trans e1
    have hjx:j / x*x+j % x=j:=by rw[Nat.mul_comm];exact Nat.div_add_mod j x
    have hj4:j<4096:=by have:=Nat.mul_comm y x;omega
    have hlen:szP d*(3*j+2)+szP d≤L.length:=by
      rw[HLZ.out,←HZ.out,show 3*x*y=3*(y*x) by rw[Nat.mul_assoc,Nat.mul_comm x y]]
      have:szP d*(3*j+2)+szP d=szP d*(3*j+3):=by rw[←Nat.mul_succ]
      rw[this]
      exact Nat.mul_le_mul_left _ (by omega)
    exact HPX.out j (j % x) (j / x) V1.heap.size (V1.heap.size+1) XF.heap.size FB V' r1 r2 r3 r4 hjx hlen (by rw[HLZ.out];omega) (by omega)))
  rw[←HPI.out] at HGP
  have hmx:Tryz.prog.follows .mixedOrders=true:=by kernel_rfl
  refine qYgd (S:=(fun v=>v.heap[XF.heap.size]?=some (.cells #[.int .i64 x,.int .i64 y] 95 (0,0))∧v.heap[V1.heap.size]?=some (.cells #[.int .i64 x,.int .i64 y,.int .i64 C] 82 (0,0)))) (f:=7) hmx ?_
  show jZdv _ _ _ _ _ _ 8 _ _ Y.drew
  refine takeQ 0 ?vv75 (some 32) [] ?yy75 hSd ?rr75
  case yy75=>(intro wq hSq;obtain ⟨hq1,hq2⟩:=hSq;obtain ⟨q0,q1⟩:=bx2 hq1;obtain ⟨r0,r1,r2⟩:=z5EY hq2;go_simp<;>with_reducible rfl)
  simp only[Act.put,List.setIfInBounds_toArray,List.set_cons_succ,List.set_cons_zero]
  refine takeQ 1 ?vv76 (some 33) [] ?yy76 hSd ?rr76
  case yy76=>(intro wq hSq;obtain ⟨hq1,hq2⟩:=hSq;obtain ⟨q0,q1⟩:=bx2 hq1;obtain ⟨r0,r1,r2⟩:=z5EY hq2;go_simp<;>with_reducible rfl)
  simp only[Act.put,List.setIfInBounds_toArray,List.set_cons_succ,List.set_cons_zero]
  refine takeQ 3 ?vv77 (some 35) [] ?yy77 hSd ?rr77
  case yy77=>(intro wq hSq;obtain ⟨hq1,hq2⟩:=hSq;obtain ⟨q0,q1⟩:=bx2 hq1;obtain ⟨r0,r1,r2⟩:=z5EY hq2;go_simp<;>with_reducible rfl)
  simp only[Act.put,List.setIfInBounds_toArray,List.set_cons_succ,List.set_cons_zero]
  refine znWj (i:=2) (o:=_) (by kernel_rfl) rfl (fun K' hK=>?_)
  rw[if_pos (by rfl)]
  go_simp
  refine (HGP.out _ (jom3 Y)).mono ?_
  rintro e W1 ⟨r,rfl,hr,hbv,hfr⟩
  have HR:=hide hr
  obtain ⟨ro,rc,rfl,x1,x2⟩:=hr
  clear x1 x2
  rw[XxVr] at HR hfr ⊢
  have hW1:=quJN (jom3 Y) hbv
  have hSd:=HS.out _ hW1
  refine hK.out _ _ hSd ?_
  clear hK
  try simp only[Act.put]
  refine znWj (i:=4) (o:=_) (by kernel_rfl) rfl (fun K' hK=>?_)
  rw[if_pos (by rfl)]
  go_simp
  refine (HDP.out _).mono ?_
  rintro e W2 ⟨rfl,hb9⟩
  have hW2:=quJN hW1 hb9
  have HR2:=hide (HR.out.below hb9 (Nat.le_refl _))
  have hSd:=HS.out _ hW2
  refine hK.out _ _ hSd ?_
  clear hK
  try simp only[Act.put]
  refine znWj (i:=5) (o:=_) (by kernel_rfl) rfl (fun K' hK=>?_)
  have hz:=(hW2.block _ lg3).trans g3
  obtain ⟨z0,z1,z2⟩:=z5EY hz
  have f0:=Lib.frozen_of_heap hz 0
  have f1:=Lib.frozen_of_heap hz 1
  have f2:=Lib.frozen_of_heap hz 2
  have HF:=hide (zHqh (quJN HBW.out hW2) (Nat.le_refl _) (.int .i64 x) (.int .i64 y) (.slice ro (y*x) rc))
  have HRF:=hide (HR2.out.set3 hfr (show w.heap.size<Y.drew.heap.size from lg3) (.int .i64 x) (.int .i64 y) (.slice ro (y*x) rc))
  rw[if_pos (by rfl)]
  go_simp
  have hSd:=(show (fun (v:World)=>v.heap[XF.heap.size]?=some (.cells #[.int .i64 x,.int .i64 y] 95 (0,0))∧v.heap[V1.heap.size]?=some (.cells #[.int .i64 x,.int .i64 y,.int .i64 C] 82 (0,0))) (((W2.setCell ⟨w.heap.size,0,none⟩ (.int .i64 x)).setCell ⟨w.heap.size,1,none⟩ (.int .i64 y)).setCell ⟨w.heap.size,2,none⟩ (.slice ro (y*x) rc)) from ⟨(jZhz _ _ _ _ _ _ hn1).trans hSd.1,(jZhz _ _ _ _ _ _ hn2).trans hSd.2⟩)
  refine hK.out _ _ hSd ?_
  clear hK
  try simp only[Act.put]
  refine znWj (i:=6) (o:=_) (by kernel_rfl) rfl (fun K' hK=>?_)
  rw[if_pos (by rfl)]
  go_simp
  have hSd:=hSd
  refine hK.out _ _ hSd ?_
  clear hK
  try simp only[Act.put]
  refine z9gO (o:=_) (by kernel_rfl) rfl (fun K' hK=>?_)
  rw[if_pos (by rfl)]
  go_simp
  refine hK.out _ _ ?_
  clear hK
  refine jFdp (by kernel_rfl) ?_ _
  try simp only[Act.put]
  go_wp2
  refine bodyPost_ret (v:=.tuple #[.agg #[.int .i64 x,.int .i64 y,.slice ro (y*x) rc],.bool d,.int .i64 0]) (by simp[results,Tryz.results11,go_sem,z0,z1,z2,HDE.out]) rfl ⟨HF.out,.inl (RdOk.mk (HYES.out HLZ.out) HRF.out (hfr.mono (Nat.le_of_lt lg3)))⟩
end Go.Proofs.YtfjeonehdlphiaaGreatDoor
namespace Go.Proofs.YtfjeonehdlphiaaGreatDoor
theorem X9iy {W H:Int} {ps:List Px} (h:picOk W H ps=true):ps.length=W.toNat*H.toNat∧1≤W.toNat∧W.toNat≤64∧1≤H.toNat∧H.toNat≤64∧0≤W∧0≤H:=by
 obtain ⟨⟨a1,a2⟩,⟨b1,b2⟩,hl,_⟩:=XMjn h
 obtain ⟨WN,rfl⟩:=Int.eq_ofNat_of_zero_le (show 0≤W by omega)
 obtain ⟨HN,rfl⟩:=Int.eq_ofNat_of_zero_le (show 0≤H by omega)
 have h2:(ps.length:Int)=((WN*HN:Nat):Int):=by rw[hl];simp
 exact ⟨by simp only[Int.toNat_natCast];omega,by omega,by omega,by omega,by omega,by omega,by omega⟩
theorem zbk9 {W H:Int} {ps:List Px} (d:Bool) (h:picOk W H ps=true):Shot (shotB W H ps d) W.toNat H.toNat d (pixB d ps):=by
 obtain ⟨hl,h1,h2,h3,h4,_⟩:=X9iy h
 exact ⟨h1,h2,h3,h4,rfl,by rw[XF45,hl,Nat.mul_assoc]⟩
theorem XB1u {W H:Int} {ps:List Px} (d:Bool) (h:picOk W H ps=true):(shotB W H ps d).length≤140737488355328:=by
 obtain ⟨hl,h1,h2,h3,h4,_⟩:=X9iy h
 have e1:(headT W.toNat H.toNat (hdM d)).length≤40:=zAed (a:=W.toNat) (b:=H.toNat) (c:=hdM d) (by omega) (by omega) (by cases d<;>decide) 3 (by omega)
 have e2:W.toNat*H.toNat≤64*64:=Nat.mul_le_mul h2 h4
 have e3:szP d≤2:=by unfold szP;cases d<;>decide
 have e4:szP d*(3*ps.length)≤2*12288:=Nat.mul_le_mul e3 (by omega)
 rw[shotB,List.length_append,XF45]
 omega
theorem qrgi {W H:Int} {ps:List Px} (h:picOk W H ps=true):∀p∈ps,inP p.1∧inP p.2.1∧inP p.2.2:=by
 obtain ⟨_,_,_,hp⟩:=XMjn h
 exact fun p hq=>Xb2u (List.all_eq_true.1 hp p hq)
theorem X0Ld {W H:Int} {ps:List Px} (h:picOk W H ps=true) {a b:Nat} {d:Bool} {L:List UInt8} (q:Shot (shotB W H ps true) a b d L):(a:Int)=W∧(b:Int)=H∧d=true∧pixOf d L (b*a)=ps:=by
 obtain ⟨rfl,rfl,rfl,rfl⟩:=q.one (zbk9 true h)
 obtain ⟨hl,h1,h2,h3,h4,h5,h6⟩:=X9iy h
 refine ⟨by omega,by omega,rfl,?_⟩
 rw[Nat.mul_comm,←hl]
 exact zwUh ps (qrgi h)
theorem qjoj {W H:Int} {ps:List Px} {d':Bool} (h:picOk W H ps=true) {a b:Nat} {d:Bool} {L:List UInt8} (q:Shot (shotB W H ps d') a b d L):d=d':=(q.one (zbk9 d' h)).2.2.1
theorem jgeb {s:List UInt8} {a b:Nat} {d:Bool} {L:List UInt8} (q:Shot s a b d L):picOk a b (pixOf d L (b*a))=true:=by
 have h1:=q.a1;have h2:=q.a2;have h3:=q.b1;have h4:=q.b2
 unfold picOk jcbm jbTy pxsOk
 rw[XxVr]
 simp only[Bool.and_eq_true,decide_eq_true_eq,List.all_eq_true]
 refine ⟨⟨⟨?_,?_⟩,?_⟩,fun p hp=>?_⟩
 ·omega
 ·omega
 ·rw[Nat.mul_comm];simp
 ·obtain ⟨k1,k2,k3⟩:=qMBY d L (b*a) p hp
  unfold inP at k1 k2 k3
  unfold pxOk allIn
  simp only[List.all_cons,List.all_nil,Bool.and_true,Bool.and_eq_true,decide_eq_true_eq]
  omega
end Go.Proofs.YtfjeonehdlphiaaGreatDoor
