/- Re: part 34 of what the proofs need. -/
import Derived.Test.YtfjeonehdlphiaaGreatDoorC6Re
import Derived.Test.YtfjeonehdlphiaaGreatDoorC32Re
import Derived.Deep.CutRange
open Go.Obj renaming cells → ka
open List renaming setIfInBounds_toArray → kb, set_cons_zero → ke, set_cons_succ → kf
open Array renaming getElem?_eq_some_iff → kd
open Go.Lib renaming frozen_of_heap → kg
open Go.Act renaming put → kh
open Nat renaming le_refl → ki, le_trans → kj
set_option linter.unusedVariables false
set_option maxHeartbeats 6400000
set_option maxRecDepth 100000
namespace Go.Proofs.YtfjeonehdlphiaaGreatDoor
open Go.RowKit
theorem j19c (n:Plan) (sv cv:Value) (W H:Int) (v:Value) (zs:List Int) (w:World) (hp:X1uD w n sv cv) (hv:jCvT w v zs) (hd:DevOk n W H zs) :
  Calls Tryz.prog 24 #[.agg (planA n sv cv),.agg #[.int .i64 W,.int .i64 H,v]] w fun e w'=>∃r,e=.returned (.agg #[.int .i64 W,.int .i64 H,r])∧IsPix w' r (dev7 n W H zs)∧Below w.heap.size w w'∧Fresh w.heap.size r:=by
 have HP:=hide hp
 have HV:=hide hv
 have HD:=hide hd
 obtain ⟨⟨lo,lc,rfl,hll,_⟩,⟨ko,kc,rfl,hkl,_⟩⟩:=hp
 obtain ⟨ao,ca,rfl,_,_⟩:=hv
 clear hd
 have HC1:=hide (fun (u:World) (hu:Below w.heap.size w u)=>ref1 HD.out u _ (HV.out.below hu (ki _)))
 have HC2:=hide (fun (u:World) (hu:Below w.heap.size w u) (v:Value) hv=>ref2 HD.out u v hv _ (HP.out.below hu (ki _)).spots)
 have HC3:=hide (fun (u:World) (v:Value) hv=>ref3 HD.out u v hv)
 have HC4:=hide (fun (u:World) (v:Value) hv=>ref4 HD.out u v hv)
 have HC5:=hide (fun (u:World) (v:Value) hv=>ref5 HD.out u v hv)
 have HC6:=hide (fun (u:World) (hu:Below w.heap.size w u) (v:Value) hv=>ref6 HD.out u v hv _ (HP.out.below hu (ki _)).curve)
 have HC7:=hide (fun (u:World) (v:Value) hv=>ref7 HD.out u v hv)
 generalize dev1 n W zs=D1 at *
 generalize dev2 n W H zs=D2 at *
 generalize dev3 n W H zs=D3 at *
 generalize dev4 n W H zs=D4 at *
 generalize dev5 n W H zs=D5 at *
 generalize dev6 n W H zs=D6 at *
 generalize dev7 n W H zs=D7 at *
 obtain ⟨a1,a2,a3⟩:=al3 w (ka (planA n (.slice lo n.spots.length lc) (.slice ko n.curve.length kc)) 51) (ka #[.int .i64 W,.int .i64 H,.slice ao zs.length ca] 54) (ka #[.int .i64 0,.int .i64 0,.slice none 0 0] 24)
 have HB:=hide (be3 w (ka (planA n (.slice lo n.spots.length lc) (.slice ko n.curve.length kc)) 51) (ka #[.int .i64 W,.int .i64 H,.slice ao zs.length ca] 54) (ka #[.int .i64 0,.int .i64 0,.slice none 0 0] 24))
 go_enter Tryz.func24,Tryz.ntmps24
 go_upto_region 1 with fail
 have hl1:=(kd.1 a1).1
 have hl2:=(kd.1 a2).1
 have hl3:=(kd.1 a3).1
 generalize ((w.alloc (ka (planA n (.slice lo n.spots.length lc) (.slice ko n.curve.length kc)) 51)).alloc (ka #[.int .i64 W,.int .i64 H,.slice ao zs.length ca] 54)).alloc (ka #[.int .i64 0,.int .i64 0,.slice none 0 0] 24)=U at *
 have HS:=hide (show ∀v,Below U.heap.size U v→v.cell? ⟨w.heap.size+1,0,none⟩=some (.int .i64 W)∧v.cell? ⟨w.heap.size+1,1,none⟩=some (.int .i64 H)∧v.cell? ⟨w.heap.size+1,2,none⟩=some (.slice ao zs.length ca)∧v.cell? ⟨w.heap.size,0,none⟩=some (.int .i64 n.phase)∧v.cell? ⟨w.heap.size,1,none⟩=some (.int .i64 (n.black 0))∧v.cell? ⟨w.heap.size,2,none⟩=some (.int .i64 (n.black 1))∧v.cell? ⟨w.heap.size,3,none⟩=some (.int .i64 (n.black 2))∧v.cell? ⟨w.heap.size,4,none⟩=some (.int .i64 (n.black 3))∧v.cell? ⟨w.heap.size,5,none⟩=some (.int .i64 n.white)∧v.cell? ⟨w.heap.size,6,none⟩=some (.slice lo n.spots.length lc)∧v.cell? ⟨w.heap.size,7,none⟩=some (.int .i64 (n.gains 0))∧v.cell? ⟨w.heap.size,8,none⟩=some (.int .i64 (n.gains 1))∧v.cell? ⟨w.heap.size,9,none⟩=some (.int .i64 (n.gains 2)) from fun v h=>by
  obtain ⟨y0,y1,y2⟩:=z5EY ((h.block _ hl2).trans a2)
  obtain ⟨e0,e1,e2,e3,e4,e5,e6,e7,e8,e9,_,_,_,_,_,_,_,_,_,_,_⟩:=qH9I ((h.block _ hl1).trans a1)
  exact ⟨y0,y1,y2,e0,e1,e2,e3,e4,e5,e6,e7,e8,e9⟩)
 go_cut [5] from 6 (fun q v=>∃PX ro rc,q=.pointer (some ⟨PX,0,none⟩)∧v.heap[PX]?=some (.cells #[.int .i64 W,.int .i64 H,.slice ro D3.length rc] 54 (0,0))∧jCvT v (.slice ro D3.length rc) D3∧Below U.heap.size U v)
 case first =>
  have hB0:Below U.heap.size U U.drew:=(Below.refl _ _).drew
  have hSd:=HS.out _ hB0
  have hmx:Tryz.prog.follows .mixedOrders=true:=by kernel_rfl
  refine qYgd (S:=fun v:World=>v.cell? ⟨w.heap.size+1,0,none⟩=some (.int .i64 W)∧v.cell? ⟨w.heap.size+1,1,none⟩=some (.int .i64 H)∧v.cell? ⟨w.heap.size+1,2,none⟩=some (.slice ao zs.length ca)∧v.cell? ⟨w.heap.size,0,none⟩=some (.int .i64 n.phase)∧v.cell? ⟨w.heap.size,1,none⟩=some (.int .i64 (n.black 0))∧v.cell? ⟨w.heap.size,2,none⟩=some (.int .i64 (n.black 1))∧v.cell? ⟨w.heap.size,3,none⟩=some (.int .i64 (n.black 2))∧v.cell? ⟨w.heap.size,4,none⟩=some (.int .i64 (n.black 3))∧v.cell? ⟨w.heap.size,5,none⟩=some (.int .i64 n.white)∧v.cell? ⟨w.heap.size,6,none⟩=some (.slice lo n.spots.length lc)∧v.cell? ⟨w.heap.size,7,none⟩=some (.int .i64 (n.gains 0))∧v.cell? ⟨w.heap.size,8,none⟩=some (.int .i64 (n.gains 1))∧v.cell? ⟨w.heap.size,9,none⟩=some (.int .i64 (n.gains 2))) (f:=15) hmx ?_
  show jZdv _ _ _ _ _ _ 16 _ _ U.drew
  refine zB2j (i:=0) (oi:=_) (v:=?vv1) (some 6) rfl rfl (by kernel_rfl) (by kernel_rfl) (by kernel_rfl) (by kernel_rfl) (by kernel_rfl) (fun _ _ _ h=>h) (Or.inl ⟨by rfl,?yy1⟩) hSd ?rr1
  case yy1=>(intro wq hSq;obtain ⟨_,_,_,_,_,_,_,_,_,_,_,_,_⟩:=hSq;go_simp<;>with_reducible rfl)
  simp only[kh,kb,kf,ke]
  refine zB2j (i:=1) (oi:=_) (v:=?vv2) (some 7) rfl rfl (by kernel_rfl) (by kernel_rfl) (by kernel_rfl) (by kernel_rfl) (by kernel_rfl) (fun _ _ _ h=>h) (Or.inl ⟨by rfl,?yy2⟩) hSd ?rr2
  case yy2=>(intro wq hSq;obtain ⟨_,_,_,_,_,_,_,_,_,_,_,_,_⟩:=hSq;go_simp<;>with_reducible rfl)
  simp only[kh,kb,kf,ke]
  refine zB2j (i:=3) (oi:=_) (v:=?vv3) (some 9) rfl rfl (by kernel_rfl) (by kernel_rfl) (by kernel_rfl) (by kernel_rfl) (by kernel_rfl) (fun _ _ _ h=>h) (Or.inl ⟨by rfl,?yy3⟩) hSd ?rr3
  case yy3=>(intro wq hSq;obtain ⟨_,_,_,_,_,_,_,_,_,_,_,_,_⟩:=hSq;go_simp<;>with_reducible rfl)
  simp only[kh,kb,kf,ke]
  refine zB2j (i:=6) (oi:=_) (v:=?vv4) (some 12) rfl rfl (by kernel_rfl) (by kernel_rfl) (by kernel_rfl) (by kernel_rfl) (by kernel_rfl) (fun _ _ _ h=>h) (Or.inl ⟨by rfl,?yy4⟩) hSd ?rr4
  case yy4=>(intro wq hSq;obtain ⟨_,_,_,_,_,_,_,_,_,_,_,_,_⟩:=hSq;go_simp<;>with_reducible rfl)
  simp only[kh,kb,kf,ke]
  refine zB2j (i:=9) (oi:=_) (v:=?vv5) (some 15) rfl rfl (by kernel_rfl) (by kernel_rfl) (by kernel_rfl) (by kernel_rfl) (by kernel_rfl) (fun _ _ _ h=>h) (Or.inl ⟨by rfl,?yy5⟩) hSd ?rr5
  case yy5=>(intro wq hSq;obtain ⟨_,_,_,_,_,_,_,_,_,_,_,_,_⟩:=hSq;go_simp<;>with_reducible rfl)
  simp only[kh,kb,kf,ke]
  refine zB2j (i:=11) (oi:=_) (v:=?vv6) (some 17) rfl rfl (by kernel_rfl) (by kernel_rfl) (by kernel_rfl) (by kernel_rfl) (by kernel_rfl) (fun _ _ _ h=>h) (Or.inl ⟨by rfl,?yy6⟩) hSd ?rr6
  case yy6=>(intro wq hSq;obtain ⟨_,_,_,_,_,_,_,_,_,_,_,_,_⟩:=hSq;go_simp<;>with_reducible rfl)
  simp only[kh,kb,kf,ke]
  refine zB2j (i:=2) (oi:=_) (v:=?vv7) (some 8) rfl rfl (by kernel_rfl) (by kernel_rfl) (by kernel_rfl) (by kernel_rfl) (by kernel_rfl) (fun _ _ _ h=>h) (Or.inl ⟨by rfl,?yy7⟩) hSd ?rr7
  case yy7=>(intro wq hSq;obtain ⟨_,_,_,_,_,_,_,_,_,_,_,_,_⟩:=hSq;go_simp<;>with_reducible rfl)
  simp only[kh,kb,kf,ke]
  refine zB2j (i:=4) (oi:=_) (v:=?vv8) (some 10) rfl rfl (by kernel_rfl) (by kernel_rfl) (by kernel_rfl) (by kernel_rfl) (by kernel_rfl) (fun _ _ _ h=>h) (Or.inl ⟨by rfl,?yy8⟩) hSd ?rr8
  case yy8=>(intro wq hSq;obtain ⟨_,_,_,_,_,_,_,_,_,_,_,_,_⟩:=hSq;go_simp<;>with_reducible rfl)
  simp only[kh,kb,kf,ke]
  refine zB2j (i:=7) (oi:=_) (v:=?vv9) (some 13) rfl rfl (by kernel_rfl) (by kernel_rfl) (by kernel_rfl) (by kernel_rfl) (by kernel_rfl) (fun _ _ _ h=>h) (Or.inl ⟨by rfl,?yy9⟩) hSd ?rr9
  case yy9=>(intro wq hSq;obtain ⟨_,_,_,_,_,_,_,_,_,_,_,_,_⟩:=hSq;go_simp<;>with_reducible rfl)
  simp only[kh,kb,kf,ke]
  refine zB2j (i:=10) (oi:=_) (v:=?vv10) (some 16) rfl rfl (by kernel_rfl) (by kernel_rfl) (by kernel_rfl) (by kernel_rfl) (by kernel_rfl) (fun _ _ _ h=>h) (Or.inl ⟨by rfl,?yy10⟩) hSd ?rr10
  case yy10=>(intro wq hSq;obtain ⟨_,_,_,_,_,_,_,_,_,_,_,_,_⟩:=hSq;go_simp<;>with_reducible rfl)
  simp only[kh,kb,kf,ke]
  refine zB2j (i:=12) (oi:=_) (v:=?vv11) (some 18) rfl rfl (by kernel_rfl) (by kernel_rfl) (by kernel_rfl) (by kernel_rfl) (by kernel_rfl) (fun _ _ _ h=>h) (Or.inl ⟨by rfl,?yy11⟩) hSd ?rr11
  case yy11=>(intro wq hSq;obtain ⟨_,_,_,_,_,_,_,_,_,_,_,_,_⟩:=hSq;go_simp<;>with_reducible rfl)
  simp only[kh,kb,kf,ke]
  refine jwFJ (i:=5) (j:=14) (oi:=_) (oj:=_) (by kernel_rfl) rfl rfl (fun K' hK=>?brA0) (fun K' hK=>?brB0)
  case brA0 =>
   rw[if_pos (by rfl)]
   go_simp
   refine (HC1.out _ (HB.out.trans (hB0.mono HB.out.size))).mono ?_
   rintro e V1 ⟨r1,rfl,hr1,hbd,hfr⟩
   have hBV1:Below U.heap.size U V1:=hB0.trans (hbd.mono hB0.size)
   have hSd:=HS.out _ hBV1
   refine hK.out _ _ hSd ?_
   clear hK
   try simp only[kh]
   refine jwFJ (i:=8) (j:=14) (oi:=_) (oj:=_) (by kernel_rfl) rfl rfl (fun K' hK=>?brA1) (fun K' hK=>?brB1)
   case brA1 =>
    rw[if_pos (by rfl)]
    go_simp
    refine (HC2.out _ (HB.out.trans (hBV1.mono HB.out.size)) _ hr1).mono ?_
    rintro e V2 ⟨r2,rfl,hr2,hbd,hfr⟩
    have hBV2:Below U.heap.size U V2:=hBV1.trans (hbd.mono hBV1.size)
    have hSd:=HS.out _ hBV2
    refine hK.out _ _ hSd ?_
    clear hK
    try simp only[kh]
    refine jwFJ (i:=13) (j:=14) (oi:=_) (oj:=_) (by kernel_rfl) rfl rfl (fun K' hK=>?brA2) (fun K' hK=>?brB2)
    case brA2 =>
     rw[if_pos (by rfl)]
     go_simp
     refine (HC3.out _ _ hr2).mono ?_
     rintro e V3 ⟨r3,rfl,hr3,hbd,hfr⟩
     have hBV3:Below U.heap.size U V3:=hBV2.trans (hbd.mono hBV2.size)
     have hSd:=HS.out _ hBV3
     refine hK.out _ _ hSd ?_
     clear hK
     try simp only[kh]
     have HR:=hide hr3
     obtain ⟨ro,rc,rfl,x1,x2⟩:=hr3
     clear x1 x2
     refine znWj (i:=14) (o:=_) (by kernel_rfl) rfl (fun K' hK=>?_)
     rw[if_pos (by rfl)]
     go_simp
     have hBz:Below U.heap.size U (V3.alloc (ka #[.int .i64 0,.int .i64 0,.slice none 0 0] 54)):=hBV3.alloc hBV3.size _
     have hSd:=HS.out _ hBz
     refine hK.out _ _ hSd ?_
     clear hK
     try simp only[kh]
     refine z9gO (o:=_) (by kernel_rfl) rfl (fun K' hK=>?_)
     rw[if_pos (by rfl)]
     go_simp
     refine hK.out _ _ ?_
     clear hK
     refine jFdp (by kernel_rfl) ?_ _
     try simp only[kh]
     clear hSd
     go_wp2
     go_meet
     case rel=>exact ⟨V3.heap.size,ro,rc,rfl,al1 V3 _,HR.out.below (qUNz _ _) (ki _),hBV3.alloc hBV3.size _⟩
    case brB2 =>
     rw[if_pos (by rfl)]
     go_simp
     have hBz:Below U.heap.size U (V2.alloc (ka #[.int .i64 0,.int .i64 0,.slice none 0 0] 54)):=hBV2.alloc hBV2.size _
     have hSd:=HS.out _ hBz
     refine hK.out _ _ hSd ?_
     clear hK
     try simp only[kh]
     have gz0:(V2.alloc (ka #[.int .i64 0,.int .i64 0,.slice none 0 0] 54)).heap[V2.heap.size]?=_:=al1 V2 (ka #[.int .i64 0,.int .i64 0,.slice none 0 0] 54)
     have hlz:=(kd.1 gz0).1
     have hr2:=hr2.below (qUNz V2 (ka #[.int .i64 0,.int .i64 0,.slice none 0 0] 54)) (ki _)
     have hq:U.heap.size≤V2.heap.size:=hBV2.size
     generalize V2.alloc (ka #[.int .i64 0,.int .i64 0,.slice none 0 0] 54)=Vz at *
     generalize V2.heap.size=PX at *
     refine znWj (i:=13) (o:=_) (by kernel_rfl) rfl (fun K' hK=>?_)
     rw[if_pos (by rfl)]
     go_simp
     refine (HC3.out _ _ hr2).mono ?_
     rintro e V3 ⟨r3,rfl,hr3,hbd,hfr⟩
     have hBV3:Below U.heap.size U V3:=hBz.trans (hbd.mono hBz.size)
     have hSd:=HS.out _ hBV3
     refine hK.out _ _ hSd ?_
     clear hK
     try simp only[kh]
     replace gz0:=(hbd.block PX hlz).trans gz0
     have hlz0:=hlz
     replace hlz:=(kd.1 gz0).1
     have HR:=hide hr3
     obtain ⟨ro,rc,rfl,x1,x2⟩:=hr3
     clear x1 x2
     obtain ⟨z0,z1,z2⟩:=z5EY gz0
     have f0:=kg gz0 0
     have f1:=kg gz0 1
     have f2:=kg gz0 2
     obtain ⟨vS,_,_,_⟩:=X0Wz gz0 (.int .i64 W) (.int .i64 H) (.slice ro D3.length rc) w (kj HB.out.size hq) (HB.out.trans (hBV3.mono HB.out.size))
     have hB4:=zHqh hBV3 hq (.int .i64 W) (.int .i64 H) (.slice ro D3.length rc)
     have HX:=hide (HR.out.set3 hfr hlz0 (.int .i64 W) (.int .i64 H) (.slice ro D3.length rc))
     refine z9gO (o:=_) (by kernel_rfl) rfl (fun K' hK=>?_)
     rw[if_pos (by rfl)]
     go_simp
     refine hK.out _ _ ?_
     clear hK
     refine jFdp (by kernel_rfl) ?_ _
     try simp only[kh]
     clear hSd
     go_wp2
     go_meet
     case rel=>exact ⟨PX,ro,rc,rfl,vS,HX.out,hB4⟩
   case brB1 =>
    rw[if_pos (by rfl)]
    go_simp
    have hBz:Below U.heap.size U (V1.alloc (ka #[.int .i64 0,.int .i64 0,.slice none 0 0] 54)):=hBV1.alloc hBV1.size _
    have hSd:=HS.out _ hBz
    refine hK.out _ _ hSd ?_
    clear hK
    try simp only[kh]
    have gz0:(V1.alloc (ka #[.int .i64 0,.int .i64 0,.slice none 0 0] 54)).heap[V1.heap.size]?=_:=al1 V1 (ka #[.int .i64 0,.int .i64 0,.slice none 0 0] 54)
    have hlz:=(kd.1 gz0).1
    have hr1:=hr1.below (qUNz V1 (ka #[.int .i64 0,.int .i64 0,.slice none 0 0] 54)) (ki _)
    have hq:U.heap.size≤V1.heap.size:=hBV1.size
    generalize V1.alloc (ka #[.int .i64 0,.int .i64 0,.slice none 0 0] 54)=Vz at *
    generalize V1.heap.size=PX at *
    refine znWj (i:=8) (o:=_) (by kernel_rfl) rfl (fun K' hK=>?_)
    rw[if_pos (by rfl)]
    go_simp
    refine (HC2.out _ (HB.out.trans (hBz.mono HB.out.size)) _ hr1).mono ?_
    rintro e V2 ⟨r2,rfl,hr2,hbd,hfr⟩
    have hBV2:Below U.heap.size U V2:=hBz.trans (hbd.mono hBz.size)
    have hSd:=HS.out _ hBV2
    refine hK.out _ _ hSd ?_
    clear hK
    try simp only[kh]
    replace gz0:=(hbd.block PX hlz).trans gz0
    have hlz0:=hlz
    replace hlz:=(kd.1 gz0).1
    refine znWj (i:=13) (o:=_) (by kernel_rfl) rfl (fun K' hK=>?_)
    rw[if_pos (by rfl)]
    go_simp
    refine (HC3.out _ _ hr2).mono ?_
    rintro e V3 ⟨r3,rfl,hr3,hbd,hfr⟩
    have hBV3:Below U.heap.size U V3:=hBV2.trans (hbd.mono hBV2.size)
    have hSd:=HS.out _ hBV3
    refine hK.out _ _ hSd ?_
    clear hK
    try simp only[kh]
    replace gz0:=(hbd.block PX hlz).trans gz0
    have hlz0:=hlz
    replace hlz:=(kd.1 gz0).1
    have HR:=hide hr3
    obtain ⟨ro,rc,rfl,x1,x2⟩:=hr3
    clear x1 x2
    obtain ⟨z0,z1,z2⟩:=z5EY gz0
    have f0:=kg gz0 0
    have f1:=kg gz0 1
    have f2:=kg gz0 2
    obtain ⟨vS,_,_,_⟩:=X0Wz gz0 (.int .i64 W) (.int .i64 H) (.slice ro D3.length rc) w (kj HB.out.size hq) (HB.out.trans (hBV3.mono HB.out.size))
    have hB4:=zHqh hBV3 hq (.int .i64 W) (.int .i64 H) (.slice ro D3.length rc)
    have HX:=hide (HR.out.set3 hfr hlz0 (.int .i64 W) (.int .i64 H) (.slice ro D3.length rc))
    refine z9gO (o:=_) (by kernel_rfl) rfl (fun K' hK=>?_)
    rw[if_pos (by rfl)]
    go_simp
    refine hK.out _ _ ?_
    clear hK
    refine jFdp (by kernel_rfl) ?_ _
    try simp only[kh]
    clear hSd
    go_wp2
    go_meet
    case rel=>exact ⟨PX,ro,rc,rfl,vS,HX.out,hB4⟩
  case brB0 =>
   rw[if_pos (by rfl)]
   go_simp
   have hBz:Below U.heap.size U (U.alloc (ka #[.int .i64 0,.int .i64 0,.slice none 0 0] 54)).drew:=((Below.refl _ _).alloc (ki _) _).drew
   have hSd:=HS.out _ hBz
   refine hK.out _ _ hSd ?_
   clear hK
   try simp only[kh]
   have gz0:((U.alloc (ka #[.int .i64 0,.int .i64 0,.slice none 0 0] 54)).drew).heap[U.heap.size]?=_:=al1 U (ka #[.int .i64 0,.int .i64 0,.slice none 0 0] 54)
   have hlz:=(kd.1 gz0).1
   have hq:U.heap.size≤U.heap.size:=ki _
   generalize (U.alloc (ka #[.int .i64 0,.int .i64 0,.slice none 0 0] 54)).drew=Vz at *
   obtain ⟨PX,hPX⟩:∃PX,U.heap.size=PX:=⟨_,rfl⟩
   have hq:U.heap.size≤PX:=by omega
   rw[hPX] at gz0 hlz ⊢
   clear hPX
   refine znWj (i:=5) (o:=_) (by kernel_rfl) rfl (fun K' hK=>?_)
   rw[if_pos (by rfl)]
   go_simp
   refine (HC1.out _ (HB.out.trans (hBz.mono HB.out.size))).mono ?_
   rintro e V1 ⟨r1,rfl,hr1,hbd,hfr⟩
   have hBV1:Below U.heap.size U V1:=hBz.trans (hbd.mono hBz.size)
   have hSd:=HS.out _ hBV1
   refine hK.out _ _ hSd ?_
   clear hK
   try simp only[kh]
   replace gz0:=(hbd.block PX hlz).trans gz0
   have hlz0:=hlz
   replace hlz:=(kd.1 gz0).1
   refine znWj (i:=8) (o:=_) (by kernel_rfl) rfl (fun K' hK=>?_)
   rw[if_pos (by rfl)]
   go_simp
   refine (HC2.out _ (HB.out.trans (hBV1.mono HB.out.size)) _ hr1).mono ?_
   rintro e V2 ⟨r2,rfl,hr2,hbd,hfr⟩
   have hBV2:Below U.heap.size U V2:=hBV1.trans (hbd.mono hBV1.size)
   have hSd:=HS.out _ hBV2
   refine hK.out _ _ hSd ?_
   clear hK
   try simp only[kh]
   replace gz0:=(hbd.block PX hlz).trans gz0
   have hlz0:=hlz
   replace hlz:=(kd.1 gz0).1
   refine znWj (i:=13) (o:=_) (by kernel_rfl) rfl (fun K' hK=>?_)
   rw[if_pos (by rfl)]
   go_simp
   refine (HC3.out _ _ hr2).mono ?_
   rintro e V3 ⟨r3,rfl,hr3,hbd,hfr⟩
   have hBV3:Below U.heap.size U V3:=hBV2.trans (hbd.mono hBV2.size)
   have hSd:=HS.out _ hBV3
   refine hK.out _ _ hSd ?_
   clear hK
   try simp only[kh]
   replace gz0:=(hbd.block PX hlz).trans gz0
   have hlz0:=hlz
   replace hlz:=(kd.1 gz0).1
   have HR:=hide hr3
   obtain ⟨ro,rc,rfl,x1,x2⟩:=hr3
   clear x1 x2
   obtain ⟨z0,z1,z2⟩:=z5EY gz0
   have f0:=kg gz0 0
   have f1:=kg gz0 1
   have f2:=kg gz0 2
   obtain ⟨vS,_,_,_⟩:=X0Wz gz0 (.int .i64 W) (.int .i64 H) (.slice ro D3.length rc) w (kj HB.out.size hq) (HB.out.trans (hBV3.mono HB.out.size))
   have hB4:=zHqh hBV3 hq (.int .i64 W) (.int .i64 H) (.slice ro D3.length rc)
   have HX:=hide (HR.out.set3 hfr hlz0 (.int .i64 W) (.int .i64 H) (.slice ro D3.length rc))
   refine z9gO (o:=_) (by kernel_rfl) rfl (fun K' hK=>?_)
   rw[if_pos (by rfl)]
   go_simp
   refine hK.out _ _ ?_
   clear hK
   refine jFdp (by kernel_rfl) ?_ _
   try simp only[kh]
   clear hSd
   go_wp2
   go_meet
   case rel=>exact ⟨PX,ro,rc,rfl,vS,HX.out,hB4⟩
 case rest =>
  obtain ⟨PX,ro,rc,rfl,vS,hpx,vB⟩:=hcut
  have hlP:=(kd.1 vS).1
  have hsU:=vB.size
  have HS2:=hide (show ∀v,Below wc.heap.size wc v→v.cell? ⟨PX,0,none⟩=some (.int .i64 W)∧v.cell? ⟨PX,1,none⟩=some (.int .i64 H)∧v.cell? ⟨PX,2,none⟩=some (.slice ro D3.length rc)∧v.cell? ⟨w.heap.size,0,none⟩=some (.int .i64 n.phase)∧v.cell? ⟨w.heap.size,10,none⟩=some (.int .i64 (n.matrix 0))∧v.cell? ⟨w.heap.size,11,none⟩=some (.int .i64 (n.matrix 1))∧v.cell? ⟨w.heap.size,12,none⟩=some (.int .i64 (n.matrix 2))∧v.cell? ⟨w.heap.size,13,none⟩=some (.int .i64 (n.matrix 3))∧v.cell? ⟨w.heap.size,14,none⟩=some (.int .i64 (n.matrix 4))∧v.cell? ⟨w.heap.size,15,none⟩=some (.int .i64 (n.matrix 5))∧v.cell? ⟨w.heap.size,16,none⟩=some (.int .i64 (n.matrix 6))∧v.cell? ⟨w.heap.size,17,none⟩=some (.int .i64 (n.matrix 7))∧v.cell? ⟨w.heap.size,18,none⟩=some (.int .i64 (n.matrix 8))∧v.cell? ⟨w.heap.size,19,none⟩=some (.slice ko n.curve.length kc)∧v.cell? ⟨w.heap.size,20,none⟩=some (.int .i64 n.amount) from fun v h=>by
   obtain ⟨y0,y1,y2⟩:=z5EY ((h.block _ hlP).trans vS)
   obtain ⟨e0,_,_,_,_,_,_,_,_,_,e10,e11,e12,e13,e14,e15,e16,e17,e18,e19,e20⟩:=qH9I (((quJN vB h).block _ hl1).trans a1)
   exact ⟨y0,y1,y2,e0,e10,e11,e12,e13,e14,e15,e16,e17,e18,e19,e20⟩)
  go_upto_region 2 with fail
  have hB0:Below wc.heap.size wc wc.drew:=(Below.refl _ _).drew
  have hSd:=HS2.out _ hB0
  have hmx:Tryz.prog.follows .mixedOrders=true:=by kernel_rfl
  refine qYgd (S:=fun v:World=>v.cell? ⟨PX,0,none⟩=some (.int .i64 W)∧v.cell? ⟨PX,1,none⟩=some (.int .i64 H)∧v.cell? ⟨PX,2,none⟩=some (.slice ro D3.length rc)∧v.cell? ⟨w.heap.size,0,none⟩=some (.int .i64 n.phase)∧v.cell? ⟨w.heap.size,10,none⟩=some (.int .i64 (n.matrix 0))∧v.cell? ⟨w.heap.size,11,none⟩=some (.int .i64 (n.matrix 1))∧v.cell? ⟨w.heap.size,12,none⟩=some (.int .i64 (n.matrix 2))∧v.cell? ⟨w.heap.size,13,none⟩=some (.int .i64 (n.matrix 3))∧v.cell? ⟨w.heap.size,14,none⟩=some (.int .i64 (n.matrix 4))∧v.cell? ⟨w.heap.size,15,none⟩=some (.int .i64 (n.matrix 5))∧v.cell? ⟨w.heap.size,16,none⟩=some (.int .i64 (n.matrix 6))∧v.cell? ⟨w.heap.size,17,none⟩=some (.int .i64 (n.matrix 7))∧v.cell? ⟨w.heap.size,18,none⟩=some (.int .i64 (n.matrix 8))∧v.cell? ⟨w.heap.size,19,none⟩=some (.slice ko n.curve.length kc)∧v.cell? ⟨w.heap.size,20,none⟩=some (.int .i64 n.amount)) (f:=13) hmx ?_
  show jZdv _ _ _ _ _ _ 14 _ _ wc.drew
  refine zB2j (i:=0) (oi:=_) (v:=?vv12) (some 20) rfl rfl (by kernel_rfl) (by kernel_rfl) (by kernel_rfl) (by kernel_rfl) (by kernel_rfl) (fun _ _ _ h=>h) (Or.inl ⟨by rfl,?yy12⟩) hSd ?rr12
  case yy12=>(intro wq hSq;obtain ⟨_,_,_,_,_,_,_,_,_,_,_,_,_,_,_⟩:=hSq;go_simp<;>with_reducible rfl)
  simp only[kh,kb,kf,ke]
  refine zB2j (i:=1) (oi:=_) (v:=?vv13) (some 21) rfl rfl (by kernel_rfl) (by kernel_rfl) (by kernel_rfl) (by kernel_rfl) (by kernel_rfl) (fun _ _ _ h=>h) (Or.inl ⟨by rfl,?yy13⟩) hSd ?rr13
  case yy13=>(intro wq hSq;obtain ⟨_,_,_,_,_,_,_,_,_,_,_,_,_,_,_⟩:=hSq;go_simp<;>with_reducible rfl)
  simp only[kh,kb,kf,ke]
  refine zB2j (i:=4) (oi:=_) (v:=?vv14) (some 24) rfl rfl (by kernel_rfl) (by kernel_rfl) (by kernel_rfl) (by kernel_rfl) (by kernel_rfl) (fun _ _ _ h=>h) (Or.inl ⟨by rfl,?yy14⟩) hSd ?rr14
  case yy14=>(intro wq hSq;obtain ⟨_,_,_,_,_,_,_,_,_,_,_,_,_,_,_⟩:=hSq;go_simp<;>with_reducible rfl)
  simp only[kh,kb,kf,ke]
  refine zB2j (i:=7) (oi:=_) (v:=?vv15) (some 27) rfl rfl (by kernel_rfl) (by kernel_rfl) (by kernel_rfl) (by kernel_rfl) (by kernel_rfl) (fun _ _ _ h=>h) (Or.inl ⟨by rfl,?yy15⟩) hSd ?rr15
  case yy15=>(intro wq hSq;obtain ⟨_,_,_,_,_,_,_,_,_,_,_,_,_,_,_⟩:=hSq;go_simp<;>with_reducible rfl)
  simp only[kh,kb,kf,ke]
  refine zB2j (i:=10) (oi:=_) (v:=?vv16) (some 30) rfl rfl (by kernel_rfl) (by kernel_rfl) (by kernel_rfl) (by kernel_rfl) (by kernel_rfl) (fun _ _ _ h=>h) (Or.inl ⟨by rfl,?yy16⟩) hSd ?rr16
  case yy16=>(intro wq hSq;obtain ⟨_,_,_,_,_,_,_,_,_,_,_,_,_,_,_⟩:=hSq;go_simp<;>with_reducible rfl)
  simp only[kh,kb,kf,ke]
  refine zB2j (i:=2) (oi:=_) (v:=?vv17) (some 22) rfl rfl (by kernel_rfl) (by kernel_rfl) (by kernel_rfl) (by kernel_rfl) (by kernel_rfl) (fun _ _ _ h=>h) (Or.inl ⟨by rfl,?yy17⟩) hSd ?rr17
  case yy17=>(intro wq hSq;obtain ⟨_,_,_,_,_,_,_,_,_,_,_,_,_,_,_⟩:=hSq;go_simp<;>with_reducible rfl)
  simp only[kh,kb,kf,ke]
  refine zB2j (i:=5) (oi:=_) (v:=?vv18) (some 25) rfl rfl (by kernel_rfl) (by kernel_rfl) (by kernel_rfl) (by kernel_rfl) (by kernel_rfl) (fun _ _ _ h=>h) (Or.inl ⟨by rfl,?yy18⟩) hSd ?rr18
  case yy18=>(intro wq hSq;obtain ⟨_,_,_,_,_,_,_,_,_,_,_,_,_,_,_⟩:=hSq;go_simp<;>with_reducible rfl)
  simp only[kh,kb,kf,ke]
  refine zB2j (i:=8) (oi:=_) (v:=?vv19) (some 28) rfl rfl (by kernel_rfl) (by kernel_rfl) (by kernel_rfl) (by kernel_rfl) (by kernel_rfl) (fun _ _ _ h=>h) (Or.inl ⟨by rfl,?yy19⟩) hSd ?rr19
  case yy19=>(intro wq hSq;obtain ⟨_,_,_,_,_,_,_,_,_,_,_,_,_,_,_⟩:=hSq;go_simp<;>with_reducible rfl)
  simp only[kh,kb,kf,ke]
  refine zB2j (i:=11) (oi:=_) (v:=?vv20) (some 31) rfl rfl (by kernel_rfl) (by kernel_rfl) (by kernel_rfl) (by kernel_rfl) (by kernel_rfl) (fun _ _ _ h=>h) (Or.inl ⟨by rfl,?yy20⟩) hSd ?rr20
  case yy20=>(intro wq hSq;obtain ⟨_,_,_,_,_,_,_,_,_,_,_,_,_,_,_⟩:=hSq;go_simp<;>with_reducible rfl)
  simp only[kh,kb,kf,ke]
  refine znWj (i:=3) (o:=_) (by kernel_rfl) rfl (fun K' hK=>?_)
  rw[if_pos (by rfl)]
  go_simp
  refine (HC4.out _ _ (hpx.below hB0 (ki _))).mono ?_
  rintro e V4 ⟨r4,rfl,hr4,hbd,hfr⟩
  have hB4:Below wc.heap.size wc V4:=hB0.trans (hbd.mono hB0.size)
  have hSd:=HS2.out _ hB4
  refine hK.out _ _ hSd ?_
  clear hK
  try simp only[kh]
  refine znWj (i:=6) (o:=_) (by kernel_rfl) rfl (fun K' hK=>?_)
  rw[if_pos (by rfl)]
  go_simp
  refine (HC5.out _ _ hr4).mono ?_
  rintro e V5 ⟨r5,rfl,hr5,hbd,hfr⟩
  have hB5:Below wc.heap.size wc V5:=hB4.trans (hbd.mono hB4.size)
  have hSd:=HS2.out _ hB5
  refine hK.out _ _ hSd ?_
  clear hK
  try simp only[kh]
  refine znWj (i:=9) (o:=_) (by kernel_rfl) rfl (fun K' hK=>?_)
  rw[if_pos (by rfl)]
  go_simp
  refine (HC6.out _ (HB.out.trans ((quJN vB hB5).mono HB.out.size)) _ hr5).mono ?_
  rintro e V6 ⟨r6,rfl,hr6,hbd,hfr⟩
  have hB6:Below wc.heap.size wc V6:=hB5.trans (hbd.mono hB5.size)
  have hSd:=HS2.out _ hB6
  refine hK.out _ _ hSd ?_
  clear hK
  try simp only[kh]
  refine znWj (i:=12) (o:=_) (by kernel_rfl) rfl (fun K' hK=>?_)
  rw[if_pos (by rfl)]
  go_simp
  refine (HC7.out _ _ hr6).mono ?_
  rintro e V7 ⟨r7,rfl,hr7,hbd,hfr⟩
  have hB7:Below wc.heap.size wc V7:=hB6.trans (hbd.mono hB6.size)
  have hBU:=quJN vB hB7
  have g3:=(hBU.block _ hl3).trans a3
  have HR:=hide hr7
  have hlq:w.heap.size+1+1<V6.heap.size:=Nat.lt_of_lt_of_le hl3 (kj vB.size hB6.size)
  obtain ⟨qo,qc,rfl,x1,x2⟩:=hr7
  clear x1 x2
  have hSd:=HS2.out _ hB7
  refine hK.out _ _ hSd ?_
  clear hK
  try simp only[kh]
  refine z9gO (o:=_) (by kernel_rfl) rfl (fun K' hK=>?_)
  obtain ⟨z0,z1,z2⟩:=z5EY (b:=w.heap.size+1+1) g3
  have f0:=kg (b:=w.heap.size+1+1) g3 0
  have f1:=kg (b:=w.heap.size+1+1) g3 1
  have f2:=kg (b:=w.heap.size+1+1) g3 2
  rw[if_pos (by rfl)]
  go_simp
  refine hK.out _ _ ?_
  clear hK
  refine jFdp (by kernel_rfl) ?_ _
  try simp only[kh]
  have HX:=hide (HR.out.set3 hfr hlq (.int .i64 W) (.int .i64 H) (.slice qo D7.length qc))
  have HF:=hide (zHqh (HB.out.trans (hBU.mono HB.out.size)) (show w.heap.size≤w.heap.size+1+1 by omega) (.int .i64 W) (.int .i64 H) (.slice qo D7.length qc))
  have HFR:=hide (hfr.mono (show w.heap.size≤V6.heap.size by omega))
  clear hSd
  go_wp2
  refine bodyPost_ret (v:=.agg #[.int .i64 W,.int .i64 H,.slice qo D7.length qc]) (by simp[results,Tryz.results24,go_sem,z0,z1,z2]) rfl ⟨_,rfl,HX.out,HF.out,HFR.out⟩
end Go.Proofs.YtfjeonehdlphiaaGreatDoor
