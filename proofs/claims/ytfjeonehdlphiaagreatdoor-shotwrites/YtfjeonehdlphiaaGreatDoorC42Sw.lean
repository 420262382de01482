/- Sw: part 42 of what the proofs need. -/
import Derived.Test.YtfjeonehdlphiaaGreatDoorC41Sw
set_option linter.unusedVariables false
set_option maxHeartbeats 6400000
set_option maxRecDepth 100000
namespace Go.Proofs.YtfjeonehdlphiaaGreatDoor
open Go.RowKit
theorem j9kk (ps:List Px) (W top many j:Nat) (hj:j<many*W) (hl:(top+many)*W≤ps.length):pxAt (rowsL ps W top many) j=pxAt ps (top*W+j):=by
 unfold rowsL pxAt
 rw[List.getD_eq_getElem?_getD,List.getD_eq_getElem?_getD,List.getElem?_take_of_lt hj,List.getElem?_drop]
theorem zdIr {α:Type} (ps:List α) (W top many:Nat) (hl:(top+many)*W≤ps.length):(rowsL ps W top many).length=many*W:=by
 unfold rowsL
 rw[List.length_take,List.length_drop]
 rw[Nat.add_mul] at hl
 omega
theorem jiRY {w:World} {b off:Nat} {ps:List Px} {W top many:Nat} (hc:∀j (h:j<ps.length),w.cell? ⟨b,off+j*3,none⟩=some (.int .i64 ps[j].1)∧w.cell? ⟨b,off+j*3+1,none⟩=some (.int .i64 ps[j].2.1)∧w.cell? ⟨b,off+j*3+2,none⟩=some (.int .i64 ps[j].2.2)) (hl:(top+many)*W≤ps.length) :
  ∀j,j<many*W→w.cell? ⟨b,off+top*W*3+j*3,none⟩=some (.int .i64 (pxAt (rowsL ps W top many) j).1)∧w.cell? ⟨b,off+top*W*3+j*3+1,none⟩=some (.int .i64 (pxAt (rowsL ps W top many) j).2.1)∧w.cell? ⟨b,off+top*W*3+j*3+2,none⟩=some (.int .i64 (pxAt (rowsL ps W top many) j).2.2):=by
 intro j hj
 rw[j9kk ps W top many j hj hl]
 have hlt:top*W+j<ps.length:=by rw[Nat.add_mul] at hl;omega
 have h:=hc (top*W+j) hlt
 rw[jD3W ps _ hlt] at h
 rw[show off+top*W*3+j*3=off+(top*W+j)*3 by omega]
 exact h
theorem XEYn (w:World) (a b c:Int):jCvT (w.alloc (.cells #[.int .i64 a,.int .i64 b,.int .i64 c] 3)) (.slice (some ⟨w.heap.size,0,none⟩) 3 3) [a,b,c] :=
 jCvT.own (base:=w.heap.size) (World.ownsRow_lit w #[.int .i64 a,.int .i64 b,.int .i64 c] 3 (Nat.le_refl _) (by decide) (by simp)) (by simp)
theorem XedY (n:Plan) (sv cv:Value) (W H:Int) (v:Value) (zs:List Int) (top height fm tm:Int) (w:World) (hp:X1uD w n sv cv) (hv:jCvT w v zs) :
  Calls Tryz.prog 57 #[.agg (planA n sv cv),.agg #[.int .i64 W,.int .i64 H,v],.int .i64 top,.int .i64 height,.int .i64 fm,.int .i64 tm] w fun e w'=>∃r,e=.returned (.tuple #[.agg #[.int .i64 (okW (partE n W H zs top height fm tm) W),.int .i64 (okW (partE n W H zs top height fm tm) (tm-fm)),r],.int .i64 (partE n W H zs top height fm tm)])∧IsPix w' r (okL (partE n W H zs top height fm tm) (partL n W H zs top fm tm))∧Below w.heap.size w w'∧Fresh w.heap.size r:=by
 have HP:=hide hp
 have HV:=hide hv
 have HFI:=hide (fun (u:World) (hu:Below w.heap.size w u)=>jiqc n sv cv W H v zs height u (HP.out.below hu (Nat.le_refl _)) (HV.out.below hu (Nat.le_refl _)))
 obtain ⟨⟨lo,lc,rfl,hll,_⟩,⟨ko,kc,rfl,hkl,_⟩⟩:=hp
 obtain ⟨ao,ca,rfl,_,_⟩:=hv
 obtain ⟨a1,a2,a3⟩:=al3 w (Obj.cells (planA n (.slice lo n.spots.length lc) (.slice ko n.curve.length kc)) 51) (Obj.cells #[.int .i64 W,.int .i64 H,.slice ao zs.length ca] 54) (Obj.cells #[.int .i64 0,.int .i64 0,.slice none 0 0] 24)
 have HB:=hide (be3 w (Obj.cells (planA n (.slice lo n.spots.length lc) (.slice ko n.curve.length kc)) 51) (Obj.cells #[.int .i64 W,.int .i64 H,.slice ao zs.length ca] 54) (Obj.cells #[.int .i64 0,.int .i64 0,.slice none 0 0] 24))
 have HPE:=hide (show partE n W H zs top height fm tm=if fitsE n W H zs height=0 then (if zfAc H top height fm tm=true then 0 else 3) else fitsE n W H zs height from rfl)
 obtain ⟨E,hE⟩:∃E,partE n W H zs top height fm tm=E:=⟨_,rfl⟩
 rw[hE] at HPE ⊢
 clear hE
 obtain ⟨F,hF0⟩:∃F,fitsE n W H zs height=F:=⟨_,rfl⟩
 have HF0:=hide hF0
 rw[hF0] at HFI HPE
 clear hF0
 obtain ⟨p0,p1,p2⟩:=z5EY a2
 go_enter Tryz.func57,Tryz.ntmps57
 go_wp2_with (refine wpList_load_row rfl 51 _ rfl _ rfl _ _ _ _ a1 Tryz.underlying51 rfl (by kernel_rfl) ?_)
 clear p0 p1 p2
 have hl1:=(Array.getElem?_eq_some_iff.1 a1).1
 have hl2:=(Array.getElem?_eq_some_iff.1 a2).1
 have hl3:=(Array.getElem?_eq_some_iff.1 a3).1
 generalize ((w.alloc (Obj.cells (planA n (.slice lo n.spots.length lc) (.slice ko n.curve.length kc)) 51)).alloc (Obj.cells #[.int .i64 W,.int .i64 H,.slice ao zs.length ca] 54)).alloc (Obj.cells #[.int .i64 0,.int .i64 0,.slice none 0 0] 24)=U at *
 refine (HFI.out _ HB.out).mono ?_
 rintro e w1 ⟨rfl,hb1⟩
 have HB1:=hide (HB.out.trans (hb1.mono HB.out.size))
 have HERR:=hide (show ∀(V:World),Below U.heap.size U V→V.cell? ⟨w.heap.size+1+1,0,none⟩=some (.int .i64 0)∧V.cell? ⟨w.heap.size+1+1,1,none⟩=some (.int .i64 0)∧V.cell? ⟨w.heap.size+1+1,2,none⟩=some (.slice none 0 0)∧V.frozen? ⟨w.heap.size+1+1,0,none⟩=false∧V.frozen? ⟨w.heap.size+1+1,1,none⟩=false∧V.frozen? ⟨w.heap.size+1+1,2,none⟩=false∧Below w.heap.size w (((V.setCell ⟨w.heap.size+1+1,0,none⟩ (.int .i64 0)).setCell ⟨w.heap.size+1+1,1,none⟩ (.int .i64 0)).setCell ⟨w.heap.size+1+1,2,none⟩ (.slice none 0 0)) from fun V hV=>by
  have g3:=(hV.block _ hl3).trans a3
  obtain ⟨z0,z1,z2⟩:=z5EY (b:=w.heap.size+1+1) g3
  exact ⟨z0,z1,z2,Lib.frozen_of_heap (b:=w.heap.size+1+1) g3 0,Lib.frozen_of_heap (b:=w.heap.size+1+1) g3 1,Lib.frozen_of_heap (b:=w.heap.size+1+1) g3 2,zHqh (HB.out.trans (hV.mono HB.out.size)) (show w.heap.size≤w.heap.size+1+1 by omega) _ _ _⟩)
 by_cases hF:F=0
 ·have HF1:=hide (HF0.out.trans hF)
  subst hF
  rw[if_pos rfl] at HPE
  obtain ⟨hpl0,hpok,hspt⟩:=jsZS HF1.out
  obtain ⟨hW,hH,hlen0,_⟩:=qwcI hpok
  have hsm:=zAFj hW hH
  obtain ⟨p0,p1,p2⟩:=z5EY ((hb1.block _ hl2).trans a2)
  have h3of:¬(zfAc H top height fm tm=true)→E=3:=fun h=>by rw[HPE.out,if_neg h]
  have H3:=hide h3of
  clear h3of
  by_cases hs1:1≤height∧height≤64
  ·have hsd:jbTy height=true:=by simpa [jbTy] using hs1
   by_cases hs2:(0≤top∧top≤height)∧(0≤fm∧fm≤height)∧(0≤tm∧tm≤height)
   ·have hin:allIn 0 height [top,fm,tm]=true:=by simpa [allIn] using hs2
    by_cases hs3:fm<tm
    ·have hd3:decide (tm≤fm)=false:=by simp;omega
     by_cases hs4:top+H≤height
     ·have hd4:decide (height<top+H)=false:=by simp;omega
      have hw4:IntKind.i64.wrap (top+H)=top+H:=IntWalk.i64_in _ (by omega)
      obtain ⟨TN,hTN⟩:=Int.eq_ofNat_of_zero_le hs2.1.1
      obtain ⟨FN,hFN⟩:=Int.eq_ofNat_of_zero_le hs2.2.1.1
      obtain ⟨TO,hTO⟩:=Int.eq_ofNat_of_zero_le hs2.2.2.1
      obtain ⟨GN,hGN⟩:=Int.eq_ofNat_of_zero_le (show 0≤height by omega)
      have HTN:=hide hTN
      have HFN:=hide hFN
      have HTO:=hide hTO
      have HGN:=hide hGN
      have HNE:=hide (fun u=>j23B FN TO GN (by omega) (by omega) (by omega) u)
      rw[←hFN,←hTO,←hGN] at HNE
      have hnA:((needA FN:Nat):Int)=max 0 (fm-4):=by unfold needA;omega
      have hnB:((needB TO GN:Nat):Int)=min height (tm+4):=by unfold needB;omega
      obtain ⟨NA,hNA⟩:∃NA,needA FN=NA:=⟨_,rfl⟩
      obtain ⟨NB,hNB⟩:∃NB,needB TO GN=NB:=⟨_,rfl⟩
      rw[hNA] at HNE hnA
      rw[hNB] at HNE hnB
      have HnA:=hide hnA
      have HnB:=hide hnB
      clear hNA hNB hTN hFN hTO hGN hnA hnB
      go_wp2_with fail
      refine (XlDJ height _).mono ?_
      rintro e w2 ⟨rfl,hb2⟩
      rw[hsd]
      have hb3:=quJN hb1 hb2
      obtain ⟨x0,x1,x2⟩:=z5EY (((quJN hb3 (qUNz w2 (Obj.cells #[.int .i64 top,.int .i64 fm,.int .i64 tm] 3))).block _ hl2).trans a2)
      have hbV:=quJN hb3 (qUNz w2 (Obj.cells #[.int .i64 top,.int .i64 fm,.int .i64 tm] 3))
      have hI3:=XEYn w2 top fm tm
      clear p0 p1 p2
      go_wp2_with fail
      refine (qFis 0 height _ [top,fm,tm] _ hI3).mono ?_
      rintro e w3 ⟨rfl,rfl⟩
      rw[hin]
      generalize w2.alloc (Obj.cells #[.int .i64 top,.int .i64 fm,.int .i64 tm] 3)=w3 at *
      go_wp2_with fail
      refine (HNE.out _).mono ?_
      rintro e w4 ⟨rfl,rfl⟩
      by_cases hs5:top≤(NA:Int)
      ·have hd5:decide ((NA:Int)<top)=false:=by simp;omega
       by_cases hs6:(NB:Int)≤top+H
       ·have hd6:decide (top+H<(NB:Int))=false:=by simp;omega
        have hok:zfAc H top height fm tm=true:=decide_eq_true ⟨hs1,hs2.1,hs2.2.1,hs2.2.2,hs3,hs4,by rw[←HnA.out];exact hs5,by rw[←HnB.out];exact hs6⟩
        have he:E=0:=by rw[HPE.out,if_pos hok]
        subst he
        obtain ⟨HN,hHN⟩:=Int.eq_ofNat_of_zero_le (show 0≤H by omega)
        obtain ⟨WN,hWN⟩:=Int.eq_ofNat_of_zero_le (show 0≤W by omega)
        have HHN:=hide hHN
        have HWN:=hide hWN
        have HLEN:=hide (show zs.length=HN*WN by rw[Nat.mul_comm];rw[hWN,hHN] at hlen0;exact_mod_cast hlen0)
        have HDK:=hide (jGAS (TP:=TN) (HN:=HN) hpl0 hpok hspt hHN.symm)
        obtain ⟨hph,_,_,_,_,hmany,hs64,_⟩:=qwVl hpl0
        have hph2:0≤n.phase∧n.phase≤3:=by simpa [qdne] using hph
        have HMV:=hide (fun (u:World) (hu:Below w.heap.size w u)=>jb8q n _ _ TN HN (by have:=HTN.out;omega) (by omega) hph2 (by omega) hs64 u (HP.out.below hu (Nat.le_refl _)))
        rw[←HTN.out,←hHN] at HMV
        have HDV:=hide (fun (rv:Value) (u:World) (hu:Below w.heap.size w u) (hpl:X1uD u (XzXJ n TN HN) rv (.slice ko n.curve.length kc))=>j0Kd (XzXJ n TN HN) rv _ W H _ zs u hpl (jDuk HDK.out.spots hW.2 hH.2) (HV.out.below hu (Nat.le_refl _)) HDK.out)
        have HPT:=hide (show partL n W H zs top fm tm=rowsL (dev7 (XzXJ n TN HN) W H zs) WN (FN-TN) (TO-FN) by
         unfold partL
         rw[HTN.out,HFN.out,HTO.out,hHN,hWN]
         simp only[Int.toNat_natCast]
         rw[show ((FN:Int)-(TN:Int)).toNat=FN-TN by omega,show ((TO:Int)-(FN:Int)).toNat=TO-FN by omega])
        have HDL:=hide (zrLo (XzXJ n TN HN) W H zs)
        obtain ⟨D,hD⟩:∃D,dev7 (XzXJ n TN HN) W H zs=D:=⟨_,rfl⟩
        rw[hD] at HDV HPT HDL
        clear hD hHN hWN hph hph2 hmany hs64 hpl0 hpok hspt hlen0
        have HS:=hide (show ∀v,Below U.heap.size U v→v.cell? ⟨w.heap.size+1,0,none⟩=some (.int .i64 W)∧v.cell? ⟨w.heap.size+1,1,none⟩=some (.int .i64 H)∧v.cell? ⟨w.heap.size+1,2,none⟩=some (.slice ao zs.length ca)∧v.heap[w.heap.size]?=some (.cells (planA n (.slice lo n.spots.length lc) (.slice ko n.curve.length kc)) 51 (0,0)) from fun v h=>by
         obtain ⟨y0,y1,y2⟩:=z5EY ((h.block _ hl2).trans a2)
         exact ⟨y0,y1,y2,(h.block _ hl1).trans a1⟩)
        have hsU3:=hbV.size
        go_upto_region 9 with fail
        clear x0 x1 x2
        go_cut [17,18] from 73 (fun q e v=>∃QX ro rc,q=.pointer (some ⟨QX,0,none⟩)∧e=.int .i64 0∧v.heap[QX]?=some (.cells #[.int .i64 W,.int .i64 H,.slice ro D.length rc] 24 (0,0))∧IsPix v (.slice ro D.length rc) D∧D.length≤rc∧U.heap.size≤QX∧Below U.heap.size U v)
        case first =>
         have hWd:Below U.heap.size U w3.drew:=hbV.drew
         have hSd:=HS.out _ hWd
         have hmx:Tryz.prog.follows .mixedOrders=true:=by kernel_rfl
         refine qYgd (S:=fun v:World=>v.cell? ⟨w.heap.size+1,0,none⟩=some (.int .i64 W)∧v.cell? ⟨w.heap.size+1,1,none⟩=some (.int .i64 H)∧v.cell? ⟨w.heap.size+1,2,none⟩=some (.slice ao zs.length ca)∧v.heap[w.heap.size]?=some (.cells (planA n (.slice lo n.spots.length lc) (.slice ko n.curve.length kc)) 51 (0,0))) (f:=12) hmx ?_
         show jZdv _ _ _ _ _ _ 13 _ _ w3.drew
         refine zB2j (i:=0) (oi:=_) (v:=.agg (planA n (.slice lo n.spots.length lc) (.slice ko n.curve.length kc))) (some 74) rfl rfl (by kernel_rfl) (by kernel_rfl) (by kernel_rfl) (by kernel_rfl) (by kernel_rfl) (fun _ _ _ h=>h) (Or.inl ⟨by rfl,?yy1⟩) hSd ?rr1
         case yy1=>(intro wq hSq;exact qLIM 51 _ rfl _ rfl _ _ _ _ hSq.2.2.2 Tryz.underlying51 rfl (by kernel_rfl))
         simp only[Act.put,List.setIfInBounds_toArray,List.set_cons_succ,List.set_cons_zero]
         refine zB2j (i:=1) (oi:=_) (v:=?vv2) (some 75) rfl rfl (by kernel_rfl) (by kernel_rfl) (by kernel_rfl) (by kernel_rfl) (by kernel_rfl) (fun _ _ _ h=>h) (Or.inl ⟨by rfl,?yy2⟩) hSd ?rr2
         case yy2=>(intro wq hSq;obtain ⟨_,_,_,_⟩:=hSq;go_simp<;>with_reducible rfl)
         simp only[Act.put,List.setIfInBounds_toArray,List.set_cons_succ,List.set_cons_zero]
         refine zB2j (i:=2) (oi:=_) (v:=?vv3) (some 76) rfl rfl (by kernel_rfl) (by kernel_rfl) (by kernel_rfl) (by kernel_rfl) (by kernel_rfl) (fun _ _ _ h=>h) (Or.inl ⟨by rfl,?yy3⟩) hSd ?rr3
         case yy3=>(intro wq hSq;obtain ⟨_,_,_,_⟩:=hSq;go_simp<;>with_reducible rfl)
         simp only[Act.put,List.setIfInBounds_toArray,List.set_cons_succ,List.set_cons_zero]
         refine zB2j (i:=5) (oi:=_) (v:=?vv4) (some 79) rfl rfl (by kernel_rfl) (by kernel_rfl) (by kernel_rfl) (by kernel_rfl) (by kernel_rfl) (fun _ _ _ h=>h) (Or.inl ⟨by rfl,?yy4⟩) hSd ?rr4
         case yy4=>(intro wq hSq;obtain ⟨_,_,_,_⟩:=hSq;go_simp<;>with_reducible rfl)
         simp only[Act.put,List.setIfInBounds_toArray,List.set_cons_succ,List.set_cons_zero]
         refine zB2j (i:=3) (oi:=_) (v:=?vv5) (some 77) rfl rfl (by kernel_rfl) (by kernel_rfl) (by kernel_rfl) (by kernel_rfl) (by kernel_rfl) (fun _ _ _ h=>h) (Or.inl ⟨by rfl,?yy5⟩) hSd ?rr5
         case yy5=>(intro wq hSq;obtain ⟨_,_,_,_⟩:=hSq;go_simp<;>with_reducible rfl)
         simp only[Act.put,List.setIfInBounds_toArray,List.set_cons_succ,List.set_cons_zero]
         refine jwFJ (i:=4) (j:=10) (oi:=_) (oj:=_) (by kernel_rfl) rfl rfl (fun K' hK=>?brA) (fun K' hK=>?brB)
         case brA =>
          rw[if_pos (by rfl)]
          go_simp
          refine (HMV.out _ (HB.out.trans (hWd.mono HB.out.size))).mono ?_
          rintro e V1 ⟨rv,rfl,hpl,hbm⟩
          have hB1:Below U.heap.size U V1:=hWd.trans (hbm.mono hWd.size)
          have hSd:=HS.out _ hB1
          refine hK.out _ _ hSd ?_
          clear hK
          try simp only[Act.put]
          refine jwFJ (i:=6) (j:=10) (oi:=_) (oj:=_) (by kernel_rfl) rfl rfl (fun K' hK=>?brC) (fun K' hK=>?brD)
          case brC =>
           rw[if_pos (by rfl)]
           go_simp
           refine (HDV.out rv _ (HB.out.trans (hB1.mono HB.out.size)) hpl).mono ?_
           rintro e V2 ⟨r,rfl,hr,hbd,hfr⟩
           have hB2:Below U.heap.size U V2:=hB1.trans (hbd.mono hB1.size)
           have hSd:=HS.out _ hB2
           refine hK.out _ _ hSd ?_
           clear hK
           try simp only[Act.put]
           have HR:=hide hr
           have hrm:=hfr.2
           obtain ⟨ro,rc,rfl,x1,x2⟩:=hr
           clear x1 x2
           refine zB2j (i:=7) (oi:=_) (v:=?vv6) (some 73) rfl rfl (by kernel_rfl) (by kernel_rfl) (by kernel_rfl) (by kernel_rfl) (by kernel_rfl) (fun _ _ _ h=>h) (Or.inl ⟨by rfl,?yy6⟩) hSd ?rr6
           case yy6=>(intro wq hSq;obtain ⟨_,_,_,_⟩:=hSq;go_simp<;>with_reducible rfl)
           simp only[Act.put,List.setIfInBounds_toArray,List.set_cons_succ,List.set_cons_zero]
           refine zB2j (i:=8) (oi:=_) (v:=?vv7) (some 81) rfl rfl (by kernel_rfl) (by kernel_rfl) (by kernel_rfl) (by kernel_rfl) (by kernel_rfl) (fun _ _ _ h=>h) (Or.inl ⟨by rfl,?yy7⟩) hSd ?rr7
           case yy7=>(intro wq hSq;obtain ⟨_,_,_,_⟩:=hSq;go_simp<;>with_reducible rfl)
           simp only[Act.put,List.setIfInBounds_toArray,List.set_cons_succ,List.set_cons_zero]
           refine zB2j (i:=9) (oi:=_) (v:=?vv8) (some 82) rfl rfl (by kernel_rfl) (by kernel_rfl) (by kernel_rfl) (by kernel_rfl) (by kernel_rfl) (fun _ _ _ h=>h) (Or.inl ⟨by rfl,?yy8⟩) hSd ?rr8
           case yy8=>(intro wq hSq;obtain ⟨_,_,_,_⟩:=hSq;go_simp<;>with_reducible rfl)
           simp only[Act.put,List.setIfInBounds_toArray,List.set_cons_succ,List.set_cons_zero]
           refine znWj (i:=10) (o:=_) (by kernel_rfl) rfl (fun K' hK=>?_)
           rw[if_pos (by rfl)]
           go_simp
           have hB3:Below U.heap.size U (V2.alloc (Obj.cells #[.int .i64 0,.int .i64 0,.slice none 0 0] 24)):=hB2.alloc hB2.size _
           have hSd:=HS.out _ hB3
           refine hK.out _ _ hSd ?_
           clear hK
           try simp only[Act.put]
           refine znWj (i:=11) (o:=_) (by kernel_rfl) rfl (fun K' hK=>?_)
           rw[if_pos (by rfl)]
           go_simp
           have hB4:Below U.heap.size U (V2.alloc (Obj.cells #[.int .i64 W,.int .i64 H,.slice ro D.length rc] 24)):=hB2.alloc hB2.size _
           have hSd:=HS.out _ hB4
           refine hK.out _ _ hSd ?_
           clear hK
           try simp only[Act.put]
           refine z9gO (o:=_) (by kernel_rfl) rfl (fun K' hK=>?_)
           rw[if_pos (by rfl)]
           go_simp
           refine hK.out _ _ ?_
           clear hK
           refine jFdp (by kernel_rfl) ?_ _
           try simp only[Act.put]
           clear hSd
           go_wp2
           go_meet
           case rel=>exact ⟨V2.heap.size,ro,rc,rfl,rfl,al1 V2 _,HR.out.alloc _,hrm,hB2.size,hB4⟩
          case brD =>
           rw[if_pos (by rfl)]
           go_simp
           have hBz:Below U.heap.size U (V1.alloc (Obj.cells #[.int .i64 0,.int .i64 0,.slice none 0 0] 24)):=hB1.alloc hB1.size _
           have hSd:=HS.out _ hBz
           refine hK.out _ _ hSd ?_
           clear hK
           try simp only[Act.put]
           have gz0:=al1 V1 (Obj.cells #[.int .i64 0,.int .i64 0,.slice none 0 0] 24)
           have hpl2:=hpl.below (qUNz V1 (Obj.cells #[.int .i64 0,.int .i64 0,.slice none 0 0] 24)) (Nat.le_refl _)
           have hlz:=(Array.getElem?_eq_some_iff.1 gz0).1
           have hq:=hB1.size
           generalize V1.alloc (Obj.cells #[.int .i64 0,.int .i64 0,.slice none 0 0] 24)=Vz at *
           generalize V1.heap.size=QX at *
           refine znWj (i:=6) (o:=_) (by kernel_rfl) rfl (fun K' hK=>?_)
           rw[if_pos (by rfl)]
           go_simp
           refine (HDV.out rv _ (HB.out.trans (hBz.mono HB.out.size)) hpl2).mono ?_
           rintro e V2 ⟨r,rfl,hr,hbd,hfr⟩
           have hB2:Below U.heap.size U V2:=hBz.trans (hbd.mono hBz.size)
           have hSd:=HS.out _ hB2
           refine hK.out _ _ hSd ?_
           clear hK
           try simp only[Act.put]
           have HR:=hide hr
           have hrm:=hfr.2
           obtain ⟨ro,rc,rfl,x1,x2⟩:=hr
           clear x1 x2
           refine zB2j (i:=7) (oi:=_) (v:=?vv9) (some 73) rfl rfl (by kernel_rfl) (by kernel_rfl) (by kernel_rfl) (by kernel_rfl) (by kernel_rfl) (fun _ _ _ h=>h) (Or.inl ⟨by rfl,?yy9⟩) hSd ?rr9
           case yy9=>(intro wq hSq;obtain ⟨_,_,_,_⟩:=hSq;go_simp<;>with_reducible rfl)
           simp only[Act.put,List.setIfInBounds_toArray,List.set_cons_succ,List.set_cons_zero]
           refine zB2j (i:=8) (oi:=_) (v:=?vv10) (some 81) rfl rfl (by kernel_rfl) (by kernel_rfl) (by kernel_rfl) (by kernel_rfl) (by kernel_rfl) (fun _ _ _ h=>h) (Or.inl ⟨by rfl,?yy10⟩) hSd ?rr10
           case yy10=>(intro wq hSq;obtain ⟨_,_,_,_⟩:=hSq;go_simp<;>with_reducible rfl)
           simp only[Act.put,List.setIfInBounds_toArray,List.set_cons_succ,List.set_cons_zero]
           refine zB2j (i:=9) (oi:=_) (v:=?vv11) (some 82) rfl rfl (by kernel_rfl) (by kernel_rfl) (by kernel_rfl) (by kernel_rfl) (by kernel_rfl) (fun _ _ _ h=>h) (Or.inl ⟨by rfl,?yy11⟩) hSd ?rr11
           case yy11=>(intro wq hSq;obtain ⟨_,_,_,_⟩:=hSq;go_simp<;>with_reducible rfl)
           simp only[Act.put,List.setIfInBounds_toArray,List.set_cons_succ,List.set_cons_zero]
           have gz:=(hbd.block QX hlz).trans gz0
           obtain ⟨z0,z1,z2⟩:=z5EY gz
           have f0:=Lib.frozen_of_heap gz 0
           have f1:=Lib.frozen_of_heap gz 1
           have f2:=Lib.frozen_of_heap gz 2
           obtain ⟨vS,_,_,_⟩:=X0Wz gz (.int .i64 W) (.int .i64 H) (.slice ro D.length rc) w (Nat.le_trans HB.out.size hq) (HB.out.trans (hB2.mono HB.out.size))
           have hB4:=zHqh hB2 hq (.int .i64 W) (.int .i64 H) (.slice ro D.length rc)
           have HX:=hide (HR.out.set3 hfr hlz (.int .i64 W) (.int .i64 H) (.slice ro D.length rc))
           refine znWj (i:=11) (o:=_) (by kernel_rfl) rfl (fun K' hK=>?_)
           rw[if_pos (by rfl)]
           go_simp
           have hSd:=HS.out _ hB4
           refine hK.out _ _ hSd ?_
           clear hK
           try simp only[Act.put]
           clear z0 z1 z2 f0 f1 f2
           refine z9gO (o:=_) (by kernel_rfl) rfl (fun K' hK=>?_)
           rw[if_pos (by rfl)]
           go_simp
           refine hK.out _ _ ?_
           clear hK
           refine jFdp (by kernel_rfl) ?_ _
           try simp only[Act.put]
           clear hSd
           go_wp2
           go_meet
           case rel=>exact ⟨QX,ro,rc,rfl,rfl,vS,HX.out,hrm,hq,hB4⟩
         case brB =>
          rw[if_pos (by rfl)]
          go_simp
          have hBz:Below U.heap.size U (w3.alloc (Obj.cells #[.int .i64 0,.int .i64 0,.slice none 0 0] 24)).drew:=(hbV.alloc hbV.size _).drew
          have hSd:=HS.out _ hBz
          refine hK.out _ _ hSd ?_
          clear hK
          try simp only[Act.put]
          have gz0:(w3.alloc (Obj.cells #[.int .i64 0,.int .i64 0,.slice none 0 0] 24)).drew.heap[w3.heap.size]?=_:=al1 w3 (Obj.cells #[.int .i64 0,.int .i64 0,.slice none 0 0] 24)
          have hlz:=(Array.getElem?_eq_some_iff.1 gz0).1
          have hq:=hbV.size
          generalize (w3.alloc (Obj.cells #[.int .i64 0,.int .i64 0,.slice none 0 0] 24)).drew=Vz at *
          generalize w3.heap.size=QX at *
          refine znWj (i:=4) (o:=_) (by kernel_rfl) rfl (fun K' hK=>?_)
          rw[if_pos (by rfl)]
          go_simp
          refine (HMV.out _ (HB.out.trans (hBz.mono HB.out.size))).mono ?_
          rintro e V1 ⟨rv,rfl,hpl,hbm⟩
          have hB1:Below U.heap.size U V1:=hBz.trans (hbm.mono hBz.size)
          have hSd:=HS.out _ hB1
          refine hK.out _ _ hSd ?_
          clear hK
          try simp only[Act.put]
          replace gz0:=(hbm.block QX hlz).trans gz0
          replace hlz:=(Array.getElem?_eq_some_iff.1 gz0).1
          refine znWj (i:=6) (o:=_) (by kernel_rfl) rfl (fun K' hK=>?_)
          rw[if_pos (by rfl)]
          go_simp
          refine (HDV.out rv _ (HB.out.trans (hB1.mono HB.out.size)) hpl).mono ?_
          rintro e V2 ⟨r,rfl,hr,hbd,hfr⟩
          have hB2:Below U.heap.size U V2:=hB1.trans (hbd.mono hB1.size)
          have hSd:=HS.out _ hB2
          refine hK.out _ _ hSd ?_
          clear hK
          try simp only[Act.put]
          have HR:=hide hr
          have hrm:=hfr.2
          obtain ⟨ro,rc,rfl,x1,x2⟩:=hr
          clear x1 x2
          refine zB2j (i:=7) (oi:=_) (v:=?vv12) (some 73) rfl rfl (by kernel_rfl) (by kernel_rfl) (by kernel_rfl) (by kernel_rfl) (by kernel_rfl) (fun _ _ _ h=>h) (Or.inl ⟨by rfl,?yy12⟩) hSd ?rr12
          case yy12=>(intro wq hSq;obtain ⟨_,_,_,_⟩:=hSq;go_simp<;>with_reducible rfl)
          simp only[Act.put,List.setIfInBounds_toArray,List.set_cons_succ,List.set_cons_zero]
          refine zB2j (i:=8) (oi:=_) (v:=?vv13) (some 81) rfl rfl (by kernel_rfl) (by kernel_rfl) (by kernel_rfl) (by kernel_rfl) (by kernel_rfl) (fun _ _ _ h=>h) (Or.inl ⟨by rfl,?yy13⟩) hSd ?rr13
          case yy13=>(intro wq hSq;obtain ⟨_,_,_,_⟩:=hSq;go_simp<;>with_reducible rfl)
          simp only[Act.put,List.setIfInBounds_toArray,List.set_cons_succ,List.set_cons_zero]
          refine zB2j (i:=9) (oi:=_) (v:=?vv14) (some 82) rfl rfl (by kernel_rfl) (by kernel_rfl) (by kernel_rfl) (by kernel_rfl) (by kernel_rfl) (fun _ _ _ h=>h) (Or.inl ⟨by rfl,?yy14⟩) hSd ?rr14
          case yy14=>(intro wq hSq;obtain ⟨_,_,_,_⟩:=hSq;go_simp<;>with_reducible rfl)
          simp only[Act.put,List.setIfInBounds_toArray,List.set_cons_succ,List.set_cons_zero]
          have gz:=(hbd.block QX hlz).trans gz0
          obtain ⟨z0,z1,z2⟩:=z5EY gz
          have f0:=Lib.frozen_of_heap gz 0
          have f1:=Lib.frozen_of_heap gz 1
          have f2:=Lib.frozen_of_heap gz 2
          obtain ⟨vS,_,_,_⟩:=X0Wz gz (.int .i64 W) (.int .i64 H) (.slice ro D.length rc) w (Nat.le_trans HB.out.size hq) (HB.out.trans (hB2.mono HB.out.size))
          have hB4:=zHqh hB2 hq (.int .i64 W) (.int .i64 H) (.slice ro D.length rc)
          have HX:=hide (HR.out.set3 hfr hlz (.int .i64 W) (.int .i64 H) (.slice ro D.length rc))
          refine znWj (i:=11) (o:=_) (by kernel_rfl) rfl (fun K' hK=>?_)
          rw[if_pos (by rfl)]
          go_simp
          have hSd:=HS.out _ hB4
          refine hK.out _ _ hSd ?_
          clear hK
          try simp only[Act.put]
          clear z0 z1 z2 f0 f1 f2
          refine z9gO (o:=_) (by kernel_rfl) rfl (fun K' hK=>?_)
          rw[if_pos (by rfl)]
          go_simp
          refine hK.out _ _ ?_
          clear hK
          refine jFdp (by kernel_rfl) ?_ _
          try simp only[Act.put]
          clear hSd
          go_wp2
          go_meet
          case rel=>exact ⟨QX,ro,rc,rfl,rfl,vS,HX.out,hrm,hq,hB4⟩
        case rest =>
         obtain ⟨QX,ro,rc,rfl,rfl,vS,hpx,hroom,hQX,vB⟩:=hcut
         have hsVQ:=vB.size
         have hlQ:=(Array.getElem?_eq_some_iff.1 vS).1
         have HPX:=hide hpx
         have hD1:1≤D.length:=by
          rw[HDL.out,HLEN.out]
          exact Nat.mul_le_mul (show 1≤HN by have:=HHN.out;omega) (show 1≤WN by have:=HWN.out;omega)
         obtain ⟨ro2,rc2,hpe,_,hpor⟩:=hpx
         cases hpe
         rcases hpor with hpor|⟨pb,po,rfl,hpb,hpc⟩
         ·rw[hpor] at hD1;simp at hD1
         have HPC:=hide hpc
         clear hpc
         obtain ⟨q0,q1,q2⟩:=z5EY vS
         have hTF:TN≤FN:=by have:=HnA.out;have:=HTN.out;have:=HFN.out;omega
         have hFT:FN<TO:=by have:=HFN.out;have:=HTO.out;omega
         have hTH:TO≤TN+HN:=by have:=HnB.out;have:=HTN.out;have:=HTO.out;have:=HHN.out;have:=HGN.out;omega
         have hWN1:1≤WN:=by have:=HWN.out;omega
         have hWN2:WN≤64:=by have:=HWN.out;omega
         have hHN2:HN≤64:=by have:=HHN.out;omega
         have hDl:D.length=HN*WN:=by rw[HDL.out,HLEN.out]
         have hm1:(FN-TN+(TO-FN))*WN≤D.length:=by rw[hDl];exact Nat.mul_le_mul_right _ (by omega)
         have hm2:HN*WN≤64*64:=Nat.mul_le_mul hHN2 hWN2
         have hm3:1*WN≤(TO-FN)*WN:=Nat.mul_le_mul_right _ (by omega)
         have HSC:=hide (fun (V:World) (hV:Below wc.heap.size wc V)=>jiRY (w:=V) (b:=pb) (off:=po) (ps:=D) (W:=WN) (top:=FN-TN) (many:=TO-FN) (fun j hj=>by
          obtain ⟨e0,e1,e2⟩:=HPC.out j hj
          exact ⟨(hV.cell (p:=⟨pb,po+j*3,none⟩) hpb).trans e0,(hV.cell (p:=⟨pb,po+j*3+1,none⟩) hpb).trans e1,(hV.cell (p:=⟨pb,po+j*3+2,none⟩) hpb).trans e2⟩) hm1)
         have HRL:=hide (zdIr D WN (FN-TN) (TO-FN) hm1)
         have hmA:(fm-top)*W=((FN-TN)*WN:Nat):=by rw[HFN.out,HTN.out,HWN.out,Int.natCast_mul,Int.natCast_sub hTF]
         have hmB:(tm-top)*W=((TO-TN)*WN:Nat):=by rw[HTO.out,HTN.out,HWN.out,Int.natCast_mul,Int.natCast_sub (by omega)]
         have hmC:(TO-TN)*WN=(FN-TN)*WN+(TO-FN)*WN:=by rw[←Nat.add_mul];congr 1;omega
         obtain ⟨A,hA⟩:∃A,(FN-TN)*WN=A:=⟨_,rfl⟩
         obtain ⟨M,hM⟩:∃M,(TO-FN)*WN=M:=⟨_,rfl⟩
         rw[hmC] at hmB
         rw[Nat.add_mul] at hm1
         rw[hA] at hmA hmB hm1 HSC
         rw[hM] at hmB hm1 hm3 HSC HRL
         obtain ⟨N,hN⟩:∃N,D.length=N:=⟨_,rfl⟩
         rw[hN] at hm1 hD1 hroom HPX q2 vS
         rw[hDl] at hN
         have hN4:N≤4096:=by omega
         clear hmC hA hM hN hDl HPC
         have hwA:IntKind.i64.wrap (fm-top)=fm-top:=IntWalk.i64_in _ (by omega)
         have hwB:IntKind.i64.wrap (tm-top)=tm-top:=IntWalk.i64_in _ (by omega)
         have hwAm:IntKind.i64.wrap (A:Int)=(A:Int):=IntWalk.i64_in _ (by omega)
         have hwBm:IntKind.i64.wrap ((A+M:Nat):Int)=((A+M:Nat):Int):=IntWalk.i64_in _ (by omega)
         have hg1:(A:Int)≤((A+M:Nat):Int):=by omega
         have hg2:((A+M:Nat):Int)≤(rc:Int):=by omega
         have hg3:¬(rc=A):=by omega
         go_wp2_with fail
         rw[Nat.add_sub_cancel_left]
         have hwD:IntKind.i64.wrap (tm-fm)=tm-fm:=IntWalk.i64_in _ (by omega)
         have hWd2:Below U.heap.size U wc.drew:=vB.drew
         have HS2:=hide (show ∀v,Below wc.heap.size wc v→v.cell? ⟨QX,0,none⟩=some (.int .i64 W) from fun v h=>(z5EY ((h.block _ hlQ).trans vS)).1)
         have hWc:Below wc.heap.size wc wc.drew:=(Below.refl _ _).drew
         have hSd:=HS2.out _ hWc
         clear q0 q1 q2
         have hmx:Tryz.prog.follows .mixedOrders=true:=by kernel_rfl
         refine qYgd (S:=fun v:World=>v.cell? ⟨QX,0,none⟩=some (.int .i64 W)) (f:=9) hmx ?_
         show jZdv _ _ _ _ _ _ 10 _ _ wc.drew
         refine zB2j (i:=0) (oi:=_) (v:=?vv15) (some 102) rfl rfl (by kernel_rfl) (by kernel_rfl) (by kernel_rfl) (by kernel_rfl) (by kernel_rfl) (fun _ _ _ h=>h) (Or.inl ⟨by rfl,?yy15⟩) hSd ?rr15
         case yy15=>(intro wq hSq;obtain _:=hSq;go_simp<;>with_reducible rfl)
         simp only[Act.put,List.setIfInBounds_toArray,List.set_cons_succ,List.set_cons_zero]
         refine zB2j (i:=2) (oi:=_) (v:=?vv16) (some 104) rfl rfl (by kernel_rfl) (by kernel_rfl) (by kernel_rfl) (by kernel_rfl) (by kernel_rfl) (fun _ _ _ h=>h) (Or.inl ⟨by rfl,?yy16⟩) hSd ?rr16
         case yy16=>(intro wq hSq;obtain _:=hSq;go_simp<;>with_reducible rfl)
         simp only[Act.put,List.setIfInBounds_toArray,List.set_cons_succ,List.set_cons_zero]
         refine zB2j (i:=3) (oi:=_) (v:=?vv17) (some 105) rfl rfl (by kernel_rfl) (by kernel_rfl) (by kernel_rfl) (by kernel_rfl) (by kernel_rfl) (fun _ _ _ h=>h) (Or.inl ⟨by rfl,?yy17⟩) hSd ?rr17
         case yy17=>(intro wq hSq;obtain _:=hSq;go_simp<;>with_reducible rfl)
         simp only[Act.put,List.setIfInBounds_toArray,List.set_cons_succ,List.set_cons_zero]
         refine zB2j (i:=5) (oi:=_) (v:=?vv18) (some 107) rfl rfl (by kernel_rfl) (by kernel_rfl) (by kernel_rfl) (by kernel_rfl) (by kernel_rfl) (fun _ _ _ h=>h) (Or.inl ⟨by rfl,?yy18⟩) hSd ?rr18
         case yy18=>(intro wq hSq;obtain _:=hSq;go_simp<;>with_reducible rfl)
         simp only[Act.put,List.setIfInBounds_toArray,List.set_cons_succ,List.set_cons_zero]
         refine zB2j (i:=1) (oi:=_) (v:=?vv19) (some 103) rfl rfl (by kernel_rfl) (by kernel_rfl) (by kernel_rfl) (by kernel_rfl) (by kernel_rfl) (fun _ _ _ h=>h) (Or.inl ⟨by rfl,?yy19⟩) hSd ?rr19
         case yy19=>(intro wq hSq;obtain _:=hSq;go_simp<;>with_reducible rfl)
         simp only[Act.put,List.setIfInBounds_toArray,List.set_cons_succ,List.set_cons_zero]
         refine zB2j (i:=4) (oi:=_) (v:=?vv20) (some 106) rfl rfl (by kernel_rfl) (by kernel_rfl) (by kernel_rfl) (by kernel_rfl) (by kernel_rfl) (fun _ _ _ h=>h) (Or.inl ⟨by rfl,?yy20⟩) hSd ?rr20
         case yy20=>(intro wq hSq;obtain _:=hSq;go_simp<;>with_reducible rfl)
         simp only[Act.put,List.setIfInBounds_toArray,List.set_cons_succ,List.set_cons_zero]
         refine znWj (i:=6) (o:=_) (by kernel_rfl) rfl (fun K' hK=>?_)
         rw[if_pos (by rfl)]
         go_simp
         refine (j9sy pb (po+A*3) M (rc-A) (rowsL D WN (FN-TN) (TO-FN)) _ HRL.out (Nat.lt_of_lt_of_le hpb hWc.size) (by omega) (by omega) (fun j hj=>by have:=HSC.out _ hWc j hj;exact this)).mono ?_
         rintro e V1 ⟨r,rfl,hr,hbv,hfr⟩
         have hB1:Below wc.heap.size wc V1:=hWc.trans (hbv.mono hWc.size)
         have HR:=hide hr
         obtain ⟨co,cc,rfl,x1,x2⟩:=hr
         clear x1 x2
         rw[HRL.out] at HR hfr ⊢
         have hSd:=HS2.out _ hB1
         refine hK.out _ _ hSd ?_
         clear hK
         try simp only[Act.put]
         refine zB2j (i:=7) (oi:=_) (v:=?vv21) (some 109) rfl rfl (by kernel_rfl) (by kernel_rfl) (by kernel_rfl) (by kernel_rfl) (by kernel_rfl) (fun _ _ _ h=>h) (Or.inl ⟨by rfl,?yy21⟩) hSd ?rr21
         case yy21=>(intro wq hSq;obtain _:=hSq;go_simp<;>with_reducible rfl)
         simp only[Act.put,List.setIfInBounds_toArray,List.set_cons_succ,List.set_cons_zero]
         refine znWj (i:=8) (o:=_) (by kernel_rfl) rfl (fun K' hK=>?_)
         have hBU:=quJN vB hB1
         obtain ⟨z0,z1,z2,f0,f1,f2,_⟩:=HERR.out _ hBU
         rw[if_pos (by rfl)]
         go_simp
         clear f0 f1 f2
         have hSd:=(zd1R (w:=V1) (b:=w.heap.size+1+1) (.int .i64 W) (.int .i64 (tm-fm)) (.slice co M cc) (a:=⟨QX,0,none⟩) (show QX≠w.heap.size+1+1 by omega)).trans (HS2.out _ hB1)
         refine hK.out _ _ hSd ?_
         clear hK
         try simp only[Act.put]
         refine z9gO (o:=_) (by kernel_rfl) rfl (fun K' hK=>?_)
         rw[if_pos (by rfl)]
         go_simp
         refine hK.out _ _ ?_
         clear hK
         refine jFdp (by kernel_rfl) ?_ _
         try simp only[Act.put]
         have HX:=hide (HR.out.set3 hfr (show w.heap.size+1+1<wc.drew.heap.size from (by show w.heap.size+1+1<wc.heap.size;omega)) (.int .i64 W) (.int .i64 (tm-fm)) (.slice co M cc))
         have HF:=hide (zHqh (HB.out.trans (hBU.mono HB.out.size)) (show w.heap.size≤w.heap.size+1+1 by omega) (.int .i64 W) (.int .i64 (tm-fm)) (.slice co M cc))
         have hwf:=Nat.le_trans HB.out.size vB.size
         have HFR:=hide (hfr.mono (show w.heap.size≤wc.drew.heap.size from hwf))
         clear hSd
         go_wp2
         refine bodyPost_ret (v:=.tuple #[.agg #[.int .i64 W,.int .i64 (tm-fm),.slice co M cc],.int .i64 0]) (by simp[results,Tryz.results57,go_sem,z0,z1,z2]) rfl ⟨_,rfl,?_,HF.out,HFR.out⟩
         show IsPix _ _ (partL n W H zs top fm tm)
         rw[HPT.out]
         exact HX.out
       ·have hd6:decide (top+H<(NB:Int))=true:=by simp;omega
        have he:E=3:=H3.out (fun h=>hs6 (by rw[HnB.out];exact (of_decide_eq_true h).2.2.2.2.2.2.2))
        subst he
        obtain ⟨z0,z1,z2,f0,f1,f2,hBf⟩:=HERR.out _ hbV
        have HBF:=hide hBf
        clear hBf
        go_wp2
        refine bodyPost_ret (v:=.tuple #[.agg #[.int .i64 0,.int .i64 0,.slice none 0 0],.int .i64 3]) (by simp[results,Tryz.results57,go_sem,z0,z1,z2]) rfl ⟨.slice none 0 0,?_,?_,HBF.out,Fresh.nil _⟩
        ·first|rfl|rw[okW,if_neg HEN.out,okW,if_neg HEN.out]
        ·first|exact IsPix.nil _|(rw[okL,if_neg HEN.out];exact IsPix.nil _)
      ·have hd5:decide ((NA:Int)<top)=true:=by simp;omega
       have he:E=3:=H3.out (fun h=>hs5 (by rw[HnA.out];exact (of_decide_eq_true h).2.2.2.2.2.2.1))
       subst he
       obtain ⟨z0,z1,z2,f0,f1,f2,hBf⟩:=HERR.out _ hbV
       have HBF:=hide hBf
       clear hBf
       go_wp2
       refine bodyPost_ret (v:=.tuple #[.agg #[.int .i64 0,.int .i64 0,.slice none 0 0],.int .i64 3]) (by simp[results,Tryz.results57,go_sem,z0,z1,z2]) rfl ⟨.slice none 0 0,?_,?_,HBF.out,Fresh.nil _⟩
       ·first|rfl|rw[okW,if_neg HEN.out,okW,if_neg HEN.out]
       ·first|exact IsPix.nil _|(rw[okL,if_neg HEN.out];exact IsPix.nil _)
     ·have hd4:decide (height<top+H)=true:=by simp;omega
      have hw4:IntKind.i64.wrap (top+H)=top+H:=IntWalk.i64_in _ (by omega)
      have he:E=3:=H3.out (fun h=>hs4 (by have:=of_decide_eq_true h;omega))
      subst he
      go_wp2_with fail
      refine (XlDJ height _).mono ?_
      rintro e w2 ⟨rfl,hb2⟩
      rw[hsd]
      have hb3:=quJN hb1 hb2
      have hbV:=quJN hb3 (qUNz w2 (Obj.cells #[.int .i64 top,.int .i64 fm,.int .i64 tm] 3))
      have hI3:=XEYn w2 top fm tm
      obtain ⟨x0,x1,x2⟩:=z5EY ((hbV.block _ hl2).trans a2)
      clear p0 p1 p2
      go_wp2_with fail
      refine (qFis 0 height _ [top,fm,tm] _ hI3).mono ?_
      rintro e w3 ⟨rfl,rfl⟩
      rw[hin]
      generalize w2.alloc (Obj.cells #[.int .i64 top,.int .i64 fm,.int .i64 tm] 3)=w3 at *
      obtain ⟨z0,z1,z2,f0,f1,f2,hBf⟩:=HERR.out _ hbV
      have HBF:=hide hBf
      clear hBf
      go_wp2
      refine bodyPost_ret (v:=.tuple #[.agg #[.int .i64 0,.int .i64 0,.slice none 0 0],.int .i64 3]) (by simp[results,Tryz.results57,go_sem,z0,z1,z2]) rfl ⟨.slice none 0 0,?_,?_,HBF.out,Fresh.nil _⟩
      ·first|rfl|rw[okW,if_neg HEN.out,okW,if_neg HEN.out]
      ·first|exact IsPix.nil _|(rw[okL,if_neg HEN.out];exact IsPix.nil _)
    ·have hd3:decide (tm≤fm)=true:=by simp;omega
     have he:E=3:=H3.out (fun h=>hs3 (by have:=of_decide_eq_true h;omega))
     subst he
     go_wp2_with fail
     refine (XlDJ height _).mono ?_
     rintro e w2 ⟨rfl,hb2⟩
     rw[hsd]
     have hb3:=quJN hb1 hb2
     have hbV:=quJN hb3 (qUNz w2 (Obj.cells #[.int .i64 top,.int .i64 fm,.int .i64 tm] 3))
     have hI3:=XEYn w2 top fm tm
     obtain ⟨x0,x1,x2⟩:=z5EY ((hbV.block _ hl2).trans a2)
     clear p0 p1 p2
     go_wp2_with fail
     refine (qFis 0 height _ [top,fm,tm] _ hI3).mono ?_
     rintro e w3 ⟨rfl,rfl⟩
     rw[hin]
     generalize w2.alloc (Obj.cells #[.int .i64 top,.int .i64 fm,.int .i64 tm] 3)=w3 at *
     obtain ⟨z0,z1,z2,f0,f1,f2,hBf⟩:=HERR.out _ hbV
     have HBF:=hide hBf
     clear hBf
     go_wp2
     refine bodyPost_ret (v:=.tuple #[.agg #[.int .i64 0,.int .i64 0,.slice none 0 0],.int .i64 3]) (by simp[results,Tryz.results57,go_sem,z0,z1,z2]) rfl ⟨.slice none 0 0,?_,?_,HBF.out,Fresh.nil _⟩
     ·first|rfl|rw[okW,if_neg HEN.out,okW,if_neg HEN.out]
     ·first|exact IsPix.nil _|(rw[okL,if_neg HEN.out];exact IsPix.nil _)
   ·have hin:allIn 0 height [top,fm,tm]=false:=by simpa [allIn] using hs2
    have he:E=3:=H3.out (fun h=>hs2 (by have:=of_decide_eq_true h;omega))
    subst he
    go_wp2_with fail
    refine (XlDJ height _).mono ?_
    rintro e w2 ⟨rfl,hb2⟩
    rw[hsd]
    have hb3:=quJN hb1 hb2
    have hbV:=quJN hb3 (qUNz w2 (Obj.cells #[.int .i64 top,.int .i64 fm,.int .i64 tm] 3))
    have hI3:=XEYn w2 top fm tm
    obtain ⟨x0,x1,x2⟩:=z5EY ((hbV.block _ hl2).trans a2)
    clear p0 p1 p2
    go_wp2_with fail
    refine (qFis 0 height _ [top,fm,tm] _ hI3).mono ?_
    rintro e w3 ⟨rfl,rfl⟩
    rw[hin]
    generalize w2.alloc (Obj.cells #[.int .i64 top,.int .i64 fm,.int .i64 tm] 3)=w3 at *
    obtain ⟨z0,z1,z2,f0,f1,f2,hBf⟩:=HERR.out _ hbV
    have HBF:=hide hBf
    clear hBf
    go_wp2
    refine bodyPost_ret (v:=.tuple #[.agg #[.int .i64 0,.int .i64 0,.slice none 0 0],.int .i64 3]) (by simp[results,Tryz.results57,go_sem,z0,z1,z2]) rfl ⟨.slice none 0 0,?_,?_,HBF.out,Fresh.nil _⟩
    ·first|rfl|rw[okW,if_neg HEN.out,okW,if_neg HEN.out]
    ·first|exact IsPix.nil _|(rw[okL,if_neg HEN.out];exact IsPix.nil _)
  ·have hsd:jbTy height=false:=by simpa [jbTy] using hs1
   have he:E=3:=H3.out (fun h=>hs1 (of_decide_eq_true h).1)
   subst he
   go_wp2_with fail
   refine (XlDJ height _).mono ?_
   rintro e w2 ⟨rfl,hb2⟩
   rw[hsd]
   have hbV:=quJN hb1 hb2
   clear p0 p1 p2
   obtain ⟨z0,z1,z2,f0,f1,f2,hBf⟩:=HERR.out _ hbV
   have HBF:=hide hBf
   clear hBf
   go_wp2
   refine bodyPost_ret (v:=.tuple #[.agg #[.int .i64 0,.int .i64 0,.slice none 0 0],.int .i64 3]) (by simp[results,Tryz.results57,go_sem,z0,z1,z2]) rfl ⟨.slice none 0 0,?_,?_,HBF.out,Fresh.nil _⟩
   ·first|rfl|rw[okW,if_neg HEN.out,okW,if_neg HEN.out]
   ·first|exact IsPix.nil _|(rw[okL,if_neg HEN.out];exact IsPix.nil _)
 ·have hn:(F != 0)=true:=by simpa using hF
  rw[if_neg hF] at HPE
  have he:E=F:=HPE.out
  subst he
  have HEN:=hide hF
  have hbV:=hb1
  obtain ⟨z0,z1,z2,f0,f1,f2,hBf⟩:=HERR.out _ hbV
  have HBF:=hide hBf
  clear hBf
  go_wp2
  refine bodyPost_ret (v:=.tuple #[.agg #[.int .i64 0,.int .i64 0,.slice none 0 0],.int .i64 E]) (by simp[results,Tryz.results57,go_sem,z0,z1,z2]) rfl ⟨.slice none 0 0,?_,?_,HBF.out,Fresh.nil _⟩
  ·first|rfl|rw[okW,if_neg HEN.out,okW,if_neg HEN.out]
  ·first|exact IsPix.nil _|(rw[okL,if_neg HEN.out];exact IsPix.nil _)
end Go.Proofs.YtfjeonehdlphiaaGreatDoor
namespace Go.Proofs.YtfjeonehdlphiaaGreatDoor
def qW9x (H rows f:Nat):Nat:=f+min rows (H-f)
def jqst (n:Plan) (W H:Nat) (zs:List Int) (rows f:Nat):List Px :=
 partL n W ((needB (qW9x H rows f) H-needA f:Nat):Int) (rowsL zs W (needA f) (needB (qW9x H rows f) H-needA f)) (needA f:Nat) f (qW9x H rows f:Nat)
def ji0X (n:Plan) (W H:Nat) (zs:List Int) (rows:Nat):Nat→Nat→List Px
 | 0,_=>[]
 | fuel+1,f=>if f<H then jqst n W H zs rows f++ji0X n W H zs rows fuel (qW9x H rows f) else []
theorem jvZd (n:Plan) (W H:Nat) (zs:List Int) (rows fuel:Nat):ji0X n W H zs rows fuel H=[]:=by
 cases fuel with
 | zero=>rfl
 | succ k=>rw[ji0X,if_neg (by omega)]
theorem qQb2 {H rows f:Nat} (hr:1≤rows) (hf:f<H):f<qW9x H rows f:=by unfold qW9x;omega
theorem jWB6 {H rows f:Nat} (hf:f<H):qW9x H rows f≤H:=by unfold qW9x;omega
theorem qgLp (n:Plan) (W H:Nat) (zs:List Int) (rows:Nat) (hr:1≤rows):∀a b f,H-f≤a→H-f≤b→ji0X n W H zs rows a f=ji0X n W H zs rows b f:=by
 intro a
 induction a with
 | zero =>
  intro b f h1 h2
  cases b with
  | zero=>rfl
  | succ b=>rw[ji0X,ji0X,if_neg (by omega)]
 | succ a ih =>
  intro b f h1 h2
  cases b with
  | zero=>rw[ji0X,ji0X,if_neg (by omega)]
  | succ b =>
   rw[ji0X,ji0X]
   by_cases hf:f<H
   ·rw[if_pos hf,if_pos hf,ih b _ (by have:=qQb2 hr hf;omega) (by have:=qQb2 hr hf;omega)]
   ·rw[if_neg hf,if_neg hf]
def XSDS (n:Plan) (W H:Int) (zs:List Int) (rows:Int):Int:=if fitsE n W H zs H=0 then (if 1≤rows then 0 else 3) else fitsE n W H zs H
def X1qP (n:Plan) (W H:Int) (zs:List Int) (rows:Int):List Px:=ji0X n W.toNat H.toNat zs rows.toNat H.toNat 0
theorem zMGY {a b:Int} {zs:List Int} (h:allIn a b zs=true) (W t m:Nat):allIn a b (rowsL zs W t m)=true:=by
 refine List.all_eq_true.2 fun x hx=>List.all_eq_true.1 h x ?_
 exact List.mem_of_mem_drop (List.mem_of_mem_take hx)
theorem j7yx {n:Plan} {W H:Nat} {zs:List Int} {rows f:Nat} (hE:fitsE n W H zs H=0) (hr:1≤rows) (hf:f<H) :
  partE n W ((needB (qW9x H rows f) H-needA f:Nat):Int) (rowsL zs W (needA f) (needB (qW9x H rows f) H-needA f)) (needA f:Nat) H f (qW9x H rows f:Nat)=0:=by
 obtain ⟨h1,h2,h3⟩:=jsZS hE
 obtain ⟨hW,hH,hl,_⟩:=qwcI h2
 have hgt:=qQb2 (H:=H) hr hf
 have hle:=jWB6 (rows:=rows) hf
 generalize qW9x H rows f=t at *
 have hA:needA f≤f:=by unfold needA;omega
 have hB1:t≤needB t H:=by unfold needB;omega
 have hB2:needB t H≤H:=by unfold needB;omega
 have hlz:zs.length=H*W:=by rw[Nat.mul_comm];exact_mod_cast hl
 have hm:(needB t H-needA f)*W≤H*W:=Nat.mul_le_mul_right _ (by omega)
 have hm2:(needA f+(needB t H-needA f))*W≤zs.length:=by rw[hlz];exact Nat.mul_le_mul_right _ (by omega)
 have hfit:fitsE n W ((needB t H-needA f:Nat):Int) (rowsL zs W (needA f) (needB t H-needA f)) H=0:=by
  have hpl:q0fM W ((needB t H-needA f:Nat):Int) (rowsL zs W (needA f) (needB t H-needA f))=true:=by
   rw[jZMK,Bool.and_eq_true]
   refine ⟨?_,zMGY (XAOl h2) _ _ _⟩
   rw[zdIr zs W _ _ hm2]
   simp only[jcbm,jbTy,Bool.and_eq_true,decide_eq_true_eq]
   refine ⟨⟨hW,by omega⟩,?_⟩
   rw[Int.natCast_mul,Int.mul_comm]
  rw[fitsE,if_pos h1,if_pos hpl,if_pos h3]
 rw[partE,if_pos hfit,if_pos]
 refine decide_eq_true ⟨hH,⟨by omega,by omega⟩,⟨by omega,by omega⟩,⟨by omega,by omega⟩,by omega,by omega,?_,?_⟩
 ·unfold needA;omega
 ·unfold needB at hB1 hB2 ⊢;unfold needA at hA ⊢;omega
end Go.Proofs.YtfjeonehdlphiaaGreatDoor
namespace Go.Proofs.YtfjeonehdlphiaaGreatDoor
open Go.RowKit
theorem Xgc9 {n:Plan} {W H:Nat} {zs:List Int} {rows f:Nat} (hl:zs.length=H*W) (hr:1≤rows) (hf:f<H) :
  (needA f+(needB (qW9x H rows f) H-needA f))*W≤zs.length:=by
 have hgt:=qQb2 (H:=H) hr hf
 have hle:=jWB6 (rows:=rows) hf
 generalize qW9x H rows f=t at *
 rw[hl]
 refine Nat.mul_le_mul_right _ ?_
 unfold needA needB
 omega
theorem XFMV (n:Plan) {W H:Nat} {zs:List Int} {rows f:Nat} (hl:zs.length=H*W) (hr:1≤rows) (hf:f<H):(jqst n W H zs rows f).length=(qW9x H rows f-f)*W:=by
 have h2:=Xgc9 (n:=n) hl hr hf
 have hgt:=qQb2 (H:=H) hr hf
 have hle:=jWB6 (rows:=rows) hf
 unfold jqst partL
 generalize qW9x H rows f=t at *
 simp only[Int.toNat_natCast]
 rw[show ((f:Int)-(needA f:Nat)).toNat=f-needA f by unfold needA;omega,show ((t:Int)-(f:Nat)).toNat=t-f by omega]
 refine zdIr _ _ _ _ ?_
 rw[zrLo,zdIr zs W _ _ h2]
 refine Nat.mul_le_mul_right _ ?_
 unfold needA needB
 omega
theorem jxb0 (n:Plan) {W H:Nat} {zs:List Int} {rows f:Nat} (hr:1≤rows) (hf:f<H):ji0X n W H zs rows (H-f) f=jqst n W H zs rows f++ji0X n W H zs rows (H-qW9x H rows f) (qW9x H rows f):=by
 have hgt:=qQb2 (H:=H) hr hf
 obtain ⟨k,hk⟩:∃k,H-f=k+1:=⟨H-f-1,by omega⟩
 rw[hk,ji0X,if_pos hf,qgLp n W H zs rows hr k (H-qW9x H rows f) _ (by omega) (Nat.le_refl _)]
theorem zjmM (zs:List Int) (W top many j:Nat) (hj:j<many*W):zAt (rowsL zs W top many) j=zAt zs (top*W+j):=by
 unfold rowsL zAt
 rw[List.getD_eq_getElem?_getD,List.getD_eq_getElem?_getD,List.getElem?_take_of_lt hj,List.getElem?_drop]
theorem z54W {n:Plan} {W H:Nat} {zs:List Int} {rows f:Nat} (hE:fitsE n W H zs H=0) (hlz:zs.length=H*W) (hr:1≤rows) (hf:f<H) (sv cv:Value) (bk off ca:Nat) (u:World) (hp:X1uD u n sv cv) (hbk:bk<u.heap.size) (h4:zs.length≤4096)
  (hc:∀j,j<zs.length→u.cell? ⟨bk,off+j,none⟩=some (.int .i64 (zAt zs j))) :
  Calls Tryz.prog 57 #[.agg (planA n sv cv),.agg #[.int .i64 (W:Nat),.int .i64 (needB (qW9x H rows f) H-needA f:Nat),.slice (some ⟨bk,off+needA f*W,none⟩) ((needB (qW9x H rows f) H-needA f)*W) (ca-needA f*W)],.int .i64 (needA f:Nat),.int .i64 (H:Nat),.int .i64 (f:Nat),.int .i64 (qW9x H rows f:Nat)] u
   fun e w'=>∃r,e=.returned (.tuple #[.agg #[.int .i64 (W:Nat),.int .i64 ((qW9x H rows f:Nat)-(f:Nat):Int),r],.int .i64 0])∧IsPix w' r (jqst n W H zs rows f)∧Below u.heap.size u w'∧Fresh u.heap.size r:=by
 have h2:=Xgc9 (n:=n) hlz hr hf
 have hln:=zdIr zs W _ _ h2
 have hv:jCvT u (.slice (some ⟨bk,off+needA f*W,none⟩) ((needB (qW9x H rows f) H-needA f)*W) (ca-needA f*W)) (rowsL zs W (needA f) (needB (qW9x H rows f) H-needA f)):=by
  rw[Nat.add_mul] at h2
  refine ⟨_,_,by rw[hln],by omega,.inr ⟨bk,_,rfl,hbk,fun j hj=>?_⟩⟩
  have e:=hc (needA f*W+j) (by rw[←hln] at h2;omega)
  rw[←zjmM zs W (needA f) (needB (qW9x H rows f) H-needA f) j (by rw[←hln];exact hj)] at e
  rw[Nat.add_assoc,e]
  unfold zAt
  rw[List.getD_eq_getElem?_getD,List.getElem?_eq_getElem hj,Option.getD_some]
 have h:=XedY n sv cv W ((needB (qW9x H rows f) H-needA f:Nat):Int) _ _ (needA f:Nat) H f (qW9x H rows f:Nat) u hp hv
 rw[j7yx hE hr hf] at h
 exact h
end Go.Proofs.YtfjeonehdlphiaaGreatDoor
