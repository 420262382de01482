/- Re: part 32 of what the proofs need. -/
import Derived.Test.YtfjeonehdlphiaaGreatDoorC22Re
import Derived.Test.YtfjeonehdlphiaaGreatDoorC23Re
import Derived.Test.YtfjeonehdlphiaaGreatDoorC24Re
import Derived.Test.YtfjeonehdlphiaaGreatDoorC29Re
import Derived.Test.YtfjeonehdlphiaaGreatDoorC30Re
import Derived.Test.YtfjeonehdlphiaaGreatDoorC31Re
open Go.Obj renaming cells → ka
open List renaming setIfInBounds_toArray → kb, set_cons_zero → ke, set_cons_succ → kf, getElem?_eq_getElem → kj, getD_eq_getElem?_getD → kp
open Array renaming getElem?_eq_some_iff → kd
open Go.Lib renaming frozen_of_heap → kg
open Go.Act renaming put → kh
open Nat renaming le_refl → ki, lt_of_lt_of_le → km, le_trans → kn, mul_le_mul_right → kr, mul_comm → ks
open Int renaming eq_ofNat_of_zero_le → kk, toNat_natCast → kq
open Go.IntWalk renaming i64_in → kl
open Bool renaming and_eq_true → kt
set_option linter.unusedVariables false
set_option maxHeartbeats 6400000
set_option maxRecDepth 100000
namespace Go.Proofs.YtfjeonehdlphiaaGreatDoor
open Go.RowKit
theorem j9kk (ps:List Px) (W top many j:Nat) (hj:j<many*W) (hl:(top+many)*W≤ps.length):pxAt (rowsL ps W top many) j=pxAt ps (top*W+j):=by
 unfold rowsL pxAt
 rw[kp,kp,List.getElem?_take_of_lt hj,List.getElem?_drop]
theorem zdIr {α:Type} (ps:List α) (W top many:Nat) (hl:(top+many)*W≤ps.length):(rowsL ps W top many).length=many*W:=by
 unfold rowsL
 rw[List.length_take,List.length_drop]
 rw[Nat.add_mul] at hl
 omega
theorem jiRY {w:World} {b off:Nat} {ps:List Px} {W top many:Nat} (hc:∀j (h:j<ps.length),w.cell? ⟨b,off+j*3,none⟩=some (.int .i64 ps[j].1)∧w.cell? ⟨b,off+j*3+1,none⟩=some (.int .i64 ps[j].2.1)∧w.cell? ⟨b,off+j*3+2,none⟩=some (.int .i64 ps[j].2.2)) (hl:(top+many)*W≤ps.length) :
  ∀j,j<many*W→w.cell? ⟨b,off+top*W*3+j*3,none⟩=some (.int .i64 (pxAt (rowsL ps W top many) j).1)∧w.cell? ⟨b,off+top*W*3+j*3+1,none⟩=some (.int .i64 (pxAt (rowsL ps W top many) j).2.1)∧w.cell? ⟨b,off+top*W*3+j*3+2,none⟩=some (.int .i64 (pxAt (rowsL ps W top many) j).2.2):=by
 intro j hj
 rw[j9kk ps W top many j hj hl]
 have hlt:top*W+j<ps.length:=by rw[Nat.add_mul] at hl;omega
 have h:=hc (top*W+j) hlt
 rw[jD3W ps _ hlt] at h
 rw[show off+top*W*3+j*3=off+(top*W+j)*3 by omega]
 exact h
theorem XEYn (w:World) (a b c:Int):jCvT (w.alloc (.cells #[.int .i64 a,.int .i64 b,.int .i64 c] 3)) (.slice (some ⟨w.heap.size,0,none⟩) 3 3) [a,b,c] :=
 jCvT.own (base:=w.heap.size) (World.ownsRow_lit w #[.int .i64 a,.int .i64 b,.int .i64 c] 3 (ki _) (by decide) (by simp)) (by simp)
theorem XedY (n:Plan) (sv cv:Value) (W H:Int) (v:Value) (zs:List Int) (top height fm tm:Int) (w:World) (hp:X1uD w n sv cv) (hv:jCvT w v zs) :
  Calls Tryz.prog 57 #[.agg (planA n sv cv),.agg #[.int .i64 W,.int .i64 H,v],.int .i64 top,.int .i64 height,.int .i64 fm,.int .i64 tm] w fun e w'=>∃r,e=.returned (.tuple #[.agg #[.int .i64 (okW (partE n W H zs top height fm tm) W),.int .i64 (okW (partE n W H zs top height fm tm) (tm-fm)),r],.int .i64 (partE n W H zs top height fm tm)])∧IsPix w' r (okL (partE n W H zs top height fm tm) (partL n W H zs top fm tm))∧Below w.heap.size w w'∧Fresh w.heap.size r:=by
 have HP:=hide hp
 have HV:=hide hv
 have HFI:=hide (fun (u:World) (hu:Below w.heap.size w u)=>jiqc n sv cv W H v zs height u (HP.out.below hu (ki _)) (HV.out.below hu (ki _)))
 obtain ⟨⟨lo,lc,rfl,hll,_⟩,⟨ko,kc,rfl,hkl,_⟩⟩:=hp
 obtain ⟨ao,ca,rfl,_,_⟩:=hv
 obtain ⟨a1,a2,a3⟩:=al3 w (ka (planA n (.slice lo n.spots.length lc) (.slice ko n.curve.length kc)) 51) (ka #[.int .i64 W,.int .i64 H,.slice ao zs.length ca] 54) (ka #[.int .i64 0,.int .i64 0,.slice none 0 0] 24)
 have HB:=hide (be3 w (ka (planA n (.slice lo n.spots.length lc) (.slice ko n.curve.length kc)) 51) (ka #[.int .i64 W,.int .i64 H,.slice ao zs.length ca] 54) (ka #[.int .i64 0,.int .i64 0,.slice none 0 0] 24))
 have HPE:=hide (show partE n W H zs top height fm tm=if fitsE n W H zs height=0 then (if zfAc H top height fm tm=true then 0 else 3) else fitsE n W H zs height from rfl)
 obtain ⟨E,hE⟩:∃E,partE n W H zs top height fm tm=E:=⟨_,rfl⟩
 rw[hE] at HPE ⊢
 clear hE
 obtain ⟨F,hF0⟩:∃F,fitsE n W H zs height=F:=⟨_,rfl⟩
 have HF0:=hide hF0
 rw[hF0] at HFI HPE
 clear hF0
 obtain ⟨p0,p1,p2⟩:=z5EY a2
 go_enter Tryz.func57,Tryz.ntmps57
 go_wp2_with (refine wpList_load_row rfl 51 _ rfl _ rfl _ _ _ _ a1 Tryz.underlying51 rfl (by kernel_rfl) ?_)
 clear p0 p1 p2
 have hl1:=(kd.1 a1).1
 have hl2:=(kd.1 a2).1
 have hl3:=(kd.1 a3).1
 generalize ((w.alloc (ka (planA n (.slice lo n.spots.length lc) (.slice ko n.curve.length kc)) 51)).alloc (ka #[.int .i64 W,.int .i64 H,.slice ao zs.length ca] 54)).alloc (ka #[.int .i64 0,.int .i64 0,.slice none 0 0] 24)=U at *
 refine (HFI.out _ HB.out).mono ?_
 rintro e w1 ⟨rfl,hb1⟩
 have HB1:=hide (HB.out.trans (hb1.mono HB.out.size))
 have HERR:=hide (show ∀(V:World),Below U.heap.size U V→V.cell? ⟨w.heap.size+1+1,0,none⟩=some (.int .i64 0)∧V.cell? ⟨w.heap.size+1+1,1,none⟩=some (.int .i64 0)∧V.cell? ⟨w.heap.size+1+1,2,none⟩=some (.slice none 0 0)∧V.frozen? ⟨w.heap.size+1+1,0,none⟩=false∧V.frozen? ⟨w.heap.size+1+1,1,none⟩=false∧V.frozen? ⟨w.heap.size+1+1,2,none⟩=false∧Below w.heap.size w (((V.setCell ⟨w.heap.size+1+1,0,none⟩ (.int .i64 0)).setCell ⟨w.heap.size+1+1,1,none⟩ (.int .i64 0)).setCell ⟨w.heap.size+1+1,2,none⟩ (.slice none 0 0)) from fun V hV=>by
  have g3:=(hV.block _ hl3).trans a3
  obtain ⟨z0,z1,z2⟩:=z5EY (b:=w.heap.size+1+1) g3
  exact ⟨z0,z1,z2,kg (b:=w.heap.size+1+1) g3 0,kg (b:=w.heap.size+1+1) g3 1,kg (b:=w.heap.size+1+1) g3 2,zHqh (HB.out.trans (hV.mono HB.out.size)) (show w.heap.size≤w.heap.size+1+1 by omega) _ _ _⟩)
 by_cases hF:F=0
 ·have HF1:=hide (HF0.out.trans hF)
  subst hF
  rw[if_pos rfl] at HPE
  obtain ⟨hpl0,hpok,hspt⟩:=jsZS HF1.out
  obtain ⟨hW,hH,hlen0,_⟩:=qwcI hpok
  have hsm:=zAFj hW hH
  obtain ⟨p0,p1,p2⟩:=z5EY ((hb1.block _ hl2).trans a2)
  have h3of:¬(zfAc H top height fm tm=true)→E=3:=fun h=>by rw[HPE.out,if_neg h]
  have H3:=hide h3of
  clear h3of
  by_cases hs1:1≤height∧height≤64
  ·have hsd:jbTy height=true:=by simpa [jbTy] using hs1
   by_cases hs2:(0≤top∧top≤height)∧(0≤fm∧fm≤height)∧(0≤tm∧tm≤height)
   ·have hin:allIn 0 height [top,fm,tm]=true:=by simpa [allIn] using hs2
    by_cases hs3:fm<tm
    ·have hd3:decide (tm≤fm)=false:=by simp;omega
     by_cases hs4:top+H≤height
     ·have hd4:decide (height<top+H)=false:=by simp;omega
      have hw4:IntKind.i64.wrap (top+H)=top+H:=kl _ (by omega)
      obtain ⟨TN,hTN⟩:=kk hs2.1.1
      obtain ⟨FN,hFN⟩:=kk hs2.2.1.1
      obtain ⟨TO,hTO⟩:=kk hs2.2.2.1
      obtain ⟨GN,hGN⟩:=kk (show 0≤height by omega)
      have HTN:=hide hTN
      have HFN:=hide hFN
      have HTO:=hide hTO
      have HGN:=hide hGN
      have HNE:=hide (fun u=>j23B FN TO GN (by omega) (by omega) (by omega) u)
      rw[←hFN,←hTO,←hGN] at HNE
      have hnA:((needA FN:Nat):Int)=max 0 (fm-4):=by unfold needA;omega
      have hnB:((needB TO GN:Nat):Int)=min height (tm+4):=by unfold needB;omega
      obtain ⟨NA,hNA⟩:∃NA,needA FN=NA:=⟨_,rfl⟩
      obtain ⟨NB,hNB⟩:∃NB,needB TO GN=NB:=⟨_,rfl⟩
      rw[hNA] at HNE hnA
      rw[hNB] at HNE hnB
      have HnA:=hide hnA
      have HnB:=hide hnB
      clear hNA hNB hTN hFN hTO hGN hnA hnB
      go_wp2_with fail
      refine (XlDJ height _).mono ?_
      rintro e w2 ⟨rfl,hb2⟩
      rw[hsd]
      have hb3:=quJN hb1 hb2
      obtain ⟨x0,x1,x2⟩:=z5EY (((quJN hb3 (qUNz w2 (ka #[.int .i64 top,.int .i64 fm,.int .i64 tm] 3))).block _ hl2).trans a2)
      have hbV:=quJN hb3 (qUNz w2 (ka #[.int .i64 top,.int .i64 fm,.int .i64 tm] 3))
      have hI3:=XEYn w2 top fm tm
      clear p0 p1 p2
      go_wp2_with fail
      refine (qFis 0 height _ [top,fm,tm] _ hI3).mono ?_
      rintro e w3 ⟨rfl,rfl⟩
      rw[hin]
      generalize w2.alloc (ka #[.int .i64 top,.int .i64 fm,.int .i64 tm] 3)=w3 at *
      go_wp2_with fail
      refine (HNE.out _).mono ?_
      rintro e w4 ⟨rfl,rfl⟩
      by_cases hs5:top≤(NA:Int)
      ·have hd5:decide ((NA:Int)<top)=false:=by simp;omega
       by_cases hs6:(NB:Int)≤top+H
       ·have hd6:decide (top+H<(NB:Int))=false:=by simp;omega
        have hok:zfAc H top height fm tm=true:=decide_eq_true ⟨hs1,hs2.1,hs2.2.1,hs2.2.2,hs3,hs4,by rw[←HnA.out];exact hs5,by rw[←HnB.out];exact hs6⟩
        have he:E=0:=by rw[HPE.out,if_pos hok]
        subst he
        obtain ⟨HN,hHN⟩:=kk (show 0≤H by omega)
        obtain ⟨WN,hWN⟩:=kk (show 0≤W by omega)
        have HHN:=hide hHN
        have HWN:=hide hWN
        have HLEN:=hide (show zs.length=HN*WN by rw[ks];rw[hWN,hHN] at hlen0;exact_mod_cast hlen0)
        have HDK:=hide (jGAS (TP:=TN) (HN:=HN) hpl0 hpok hspt hHN.symm)
        obtain ⟨hph,_,_,_,_,hmany,hs64,_⟩:=qwVl hpl0
        have hph2:0≤n.phase∧n.phase≤3:=by simpa [qdne] using hph
        have HMV:=hide (fun (u:World) (hu:Below w.heap.size w u)=>jb8q n _ _ TN HN (by have:=HTN.out;omega) (by omega) hph2 (by omega) hs64 u (HP.out.below hu (ki _)))
        rw[←HTN.out,←hHN] at HMV
        have HDV:=hide (fun (rv:Value) (u:World) (hu:Below w.heap.size w u) (hpl:X1uD u (XzXJ n TN HN) rv (.slice ko n.curve.length kc))=>j0Kd (XzXJ n TN HN) rv _ W H _ zs u hpl (jDuk HDK.out.spots hW.2 hH.2) (HV.out.below hu (ki _)) HDK.out)
        have HPT:=hide (show partL n W H zs top fm tm=rowsL (dev7 (XzXJ n TN HN) W H zs) WN (FN-TN) (TO-FN) by
         unfold partL
         rw[HTN.out,HFN.out,HTO.out,hHN,hWN]
         simp only[kq]
         rw[show ((FN:Int)-(TN:Int)).toNat=FN-TN by omega,show ((TO:Int)-(FN:Int)).toNat=TO-FN by omega])
        have HDL:=hide (zrLo (XzXJ n TN HN) W H zs)
        obtain ⟨D,hD⟩:∃D,dev7 (XzXJ n TN HN) W H zs=D:=⟨_,rfl⟩
        rw[hD] at HDV HPT HDL
        clear hD hHN hWN hph hph2 hmany hs64 hpl0 hpok hspt hlen0
        have HS:=hide (show ∀v,Below U.heap.size U v→v.cell? ⟨w.heap.size+1,0,none⟩=some (.int .i64 W)∧v.cell? ⟨w.heap.size+1,1,none⟩=some (.int .i64 H)∧v.cell? ⟨w.heap.size+1,2,none⟩=some (.slice ao zs.length ca)∧v.heap[w.heap.size]?=some (.cells (planA n (.slice lo n.spots.length lc) (.slice ko n.curve.length kc)) 51 (0,0)) from fun v h=>by
         obtain ⟨y0,y1,y2⟩:=z5EY ((h.block _ hl2).trans a2)
         exact ⟨y0,y1,y2,(h.block _ hl1).trans a1⟩)
        have hsU3:=hbV.size
        go_upto_region 9 with fail
        clear x0 x1 x2
        go_cut [17,18] from 73 (fun q e v=>∃QX ro rc,q=.pointer (some ⟨QX,0,none⟩)∧e=.int .i64 0∧v.heap[QX]?=some (.cells #[.int .i64 W,.int .i64 H,.slice ro D.length rc] 24 (0,0))∧IsPix v (.slice ro D.length rc) D∧D.length≤rc∧U.heap.size≤QX∧Below U.heap.size U v)
        case first =>
         have hWd:Below U.heap.size U w3.drew:=hbV.drew
         have hSd:=HS.out _ hWd
         have hmx:Tryz.prog.follows .mixedOrders=true:=by kernel_rfl
         refine qYgd (S:=fun v:World=>v.cell? ⟨w.heap.size+1,0,none⟩=some (.int .i64 W)∧v.cell? ⟨w.heap.size+1,1,none⟩=some (.int .i64 H)∧v.cell? ⟨w.heap.size+1,2,none⟩=some (.slice ao zs.length ca)∧v.heap[w.heap.size]?=some (.cells (planA n (.slice lo n.spots.length lc) (.slice ko n.curve.length kc)) 51 (0,0))) (f:=12) hmx ?_
         show jZdv _ _ _ _ _ _ 13 _ _ w3.drew
         refine zB2j (i:=0) (oi:=_) (v:=.agg (planA n (.slice lo n.spots.length lc) (.slice ko n.curve.length kc))) (some 74) rfl rfl (by kernel_rfl) (by kernel_rfl) (by kernel_rfl) (by kernel_rfl) (by kernel_rfl) (fun _ _ _ h=>h) (Or.inl ⟨by rfl,?yy1⟩) hSd ?rr1
         case yy1=>(intro wq hSq;exact qLIM 51 _ rfl _ rfl _ _ _ _ hSq.2.2.2 Tryz.underlying51 rfl (by kernel_rfl))
         simp only[kh,kb,kf,ke]
         refine zB2j (i:=1) (oi:=_) (v:=?vv2) (some 75) rfl rfl (by kernel_rfl) (by kernel_rfl) (by kernel_rfl) (by kernel_rfl) (by kernel_rfl) (fun _ _ _ h=>h) (Or.inl ⟨by rfl,?yy2⟩) hSd ?rr2
         case yy2=>(intro wq hSq;obtain ⟨_,_,_,_⟩:=hSq;go_simp<;>with_reducible rfl)
         simp only[kh,kb,kf,ke]
         refine zB2j (i:=2) (oi:=_) (v:=?vv3) (some 76) rfl rfl (by kernel_rfl) (by kernel_rfl) (by kernel_rfl) (by kernel_rfl) (by kernel_rfl) (fun _ _ _ h=>h) (Or.inl ⟨by rfl,?yy3⟩) hSd ?rr3
         case yy3=>(intro wq hSq;obtain ⟨_,_,_,_⟩:=hSq;go_simp<;>with_reducible rfl)
         simp only[kh,kb,kf,ke]
         refine zB2j (i:=5) (oi:=_) (v:=?vv4) (some 79) rfl rfl (by kernel_rfl) (by kernel_rfl) (by kernel_rfl) (by kernel_rfl) (by kernel_rfl) (fun _ _ _ h=>h) (Or.inl ⟨by rfl,?yy4⟩) hSd ?rr4
         case yy4=>(intro wq hSq;obtain ⟨_,_,_,_⟩:=hSq;go_simp<;>with_reducible rfl)
         simp only[kh,kb,kf,ke]
         refine zB2j (i:=3) (oi:=_) (v:=?vv5) (some 77) rfl rfl (by kernel_rfl) (by kernel_rfl) (by kernel_rfl) (by kernel_rfl) (by kernel_rfl) (fun _ _ _ h=>h) (Or.inl ⟨by rfl,?yy5⟩) hSd ?rr5
         case yy5=>(intro wq hSq;obtain ⟨_,_,_,_⟩:=hSq;go_simp<;>with_reducible rfl)
         simp only[kh,kb,kf,ke]
         refine jwFJ (i:=4) (j:=10) (oi:=_) (oj:=_) (by kernel_rfl) rfl rfl (fun K' hK=>?brA) (fun K' hK=>?brB)
         case brA =>
          rw[if_pos (by rfl)]
          go_simp
          refine (HMV.out _ (HB.out.trans (hWd.mono HB.out.size))).mono ?_
          rintro e V1 ⟨rv,rfl,hpl,hbm⟩
          have hB1:Below U.heap.size U V1:=hWd.trans (hbm.mono hWd.size)
          have hSd:=HS.out _ hB1
          refine hK.out _ _ hSd ?_
          clear hK
          try simp only[kh]
          refine jwFJ (i:=6) (j:=10) (oi:=_) (oj:=_) (by kernel_rfl) rfl rfl (fun K' hK=>?brC) (fun K' hK=>?brD)
          case brC =>
           rw[if_pos (by rfl)]
           go_simp
           refine (HDV.out rv _ (HB.out.trans (hB1.mono HB.out.size)) hpl).mono ?_
           rintro e V2 ⟨r,rfl,hr,hbd,hfr⟩
           have hB2:Below U.heap.size U V2:=hB1.trans (hbd.mono hB1.size)
           have hSd:=HS.out _ hB2
           refine hK.out _ _ hSd ?_
           clear hK
           try simp only[kh]
           have HR:=hide hr
           have hrm:=hfr.2
           obtain ⟨ro,rc,rfl,x1,x2⟩:=hr
           clear x1 x2
           refine zB2j (i:=7) (oi:=_) (v:=?vv6) (some 73) rfl rfl (by kernel_rfl) (by kernel_rfl) (by kernel_rfl) (by kernel_rfl) (by kernel_rfl) (fun _ _ _ h=>h) (Or.inl ⟨by rfl,?yy6⟩) hSd ?rr6
           case yy6=>(intro wq hSq;obtain ⟨_,_,_,_⟩:=hSq;go_simp<;>with_reducible rfl)
           simp only[kh,kb,kf,ke]
           refine zB2j (i:=8) (oi:=_) (v:=?vv7) (some 81) rfl rfl (by kernel_rfl) (by kernel_rfl) (by kernel_rfl) (by kernel_rfl) (by kernel_rfl) (fun _ _ _ h=>h) (Or.inl ⟨by rfl,?yy7⟩) hSd ?rr7
           case yy7=>(intro wq hSq;obtain ⟨_,_,_,_⟩:=hSq;go_simp<;>with_reducible rfl)
           simp only[kh,kb,kf,ke]
           refine zB2j (i:=9) (oi:=_) (v:=?vv8) (some 82) rfl rfl (by kernel_rfl) (by kernel_rfl) (by kernel_rfl) (by kernel_rfl) (by kernel_rfl) (fun _ _ _ h=>h) (Or.inl ⟨by rfl,?yy8⟩) hSd ?rr8
           case yy8=>(intro wq hSq;obtain ⟨_,_,_,_⟩:=hSq;go_simp<;>with_reducible rfl)
           simp only[kh,kb,kf,ke]
           refine znWj (i:=10) (o:=_) (by kernel_rfl) rfl (fun K' hK=>?_)
           rw[if_pos (by rfl)]
           go_simp
           have hB3:Below U.heap.size U (V2.alloc (ka #[.int .i64 0,.int .i64 0,.slice none 0 0] 24)):=hB2.alloc hB2.size _
           have hSd:=HS.out _ hB3
           refine hK.out _ _ hSd ?_
           clear hK
           try simp only[kh]
           refine znWj (i:=11) (o:=_) (by kernel_rfl) rfl (fun K' hK=>?_)
           rw[if_pos (by rfl)]
           go_simp
           have hB4:Below U.heap.size U (V2.alloc (ka #[.int .i64 W,.int .i64 H,.slice ro D.length rc] 24)):=hB2.alloc hB2.size _
           have hSd:=HS.out _ hB4
           refine hK.out _ _ hSd ?_
           clear hK
           try simp only[kh]
           refine z9gO (o:=_) (by kernel_rfl) rfl (fun K' hK=>?_)
           rw[if_pos (by rfl)]
           go_simp
           refine hK.out _ _ ?_
           clear hK
           refine jFdp (by kernel_rfl) ?_ _
           try simp only[kh]
           clear hSd
           go_wp2
           go_meet
           case rel=>exact ⟨V2.heap.size,ro,rc,rfl,rfl,al1 V2 _,HR.out.alloc _,hrm,hB2.size,hB4⟩
          case brD =>
           rw[if_pos (by rfl)]
           go_simp
           have hBz:Below U.heap.size U (V1.alloc (ka #[.int .i64 0,.int .i64 0,.slice none 0 0] 24)):=hB1.alloc hB1.size _
           have hSd:=HS.out _ hBz
           refine hK.out _ _ hSd ?_
           clear hK
           try simp only[kh]
           have gz0:=al1 V1 (ka #[.int .i64 0,.int .i64 0,.slice none 0 0] 24)
           have hpl2:=hpl.below (qUNz V1 (ka #[.int .i64 0,.int .i64 0,.slice none 0 0] 24)) (ki _)
           have hlz:=(kd.1 gz0).1
           have hq:=hB1.size
           generalize V1.alloc (ka #[.int .i64 0,.int .i64 0,.slice none 0 0] 24)=Vz at *
           generalize V1.heap.size=QX at *
           refine znWj (i:=6) (o:=_) (by kernel_rfl) rfl (fun K' hK=>?_)
           rw[if_pos (by rfl)]
           go_simp
           refine (HDV.out rv _ (HB.out.trans (hBz.mono HB.out.size)) hpl2).mono ?_
           rintro e V2 ⟨r,rfl,hr,hbd,hfr⟩
           have hB2:Below U.heap.size U V2:=hBz.trans (hbd.mono hBz.size)
           have hSd:=HS.out _ hB2
           refine hK.out _ _ hSd ?_
           clear hK
           try simp only[kh]
           have HR:=hide hr
           have hrm:=hfr.2
           obtain ⟨ro,rc,rfl,x1,x2⟩:=hr
           clear x1 x2
           refine zB2j (i:=7) (oi:=_) (v:=?vv9) (some 73) rfl rfl (by kernel_rfl) (by kernel_rfl) (by kernel_rfl) (by kernel_rfl) (by kernel_rfl) (fun _ _ _ h=>h) (Or.inl ⟨by rfl,?yy9⟩) hSd ?rr9
           case yy9=>(intro wq hSq;obtain ⟨_,_,_,_⟩:=hSq;go_simp<;>with_reducible rfl)
           simp only[kh,kb,kf,ke]
           refine zB2j (i:=8) (oi:=_) (v:=?vv10) (some 81) rfl rfl (by kernel_rfl) (by kernel_rfl) (by kernel_rfl) (by kernel_rfl) (by kernel_rfl) (fun _ _ _ h=>h) (Or.inl ⟨by rfl,?yy10⟩) hSd ?rr10
           case yy10=>(intro wq hSq;obtain ⟨_,_,_,_⟩:=hSq;go_simp<;>with_reducible rfl)
           simp only[kh,kb,kf,ke]
           refine zB2j (i:=9) (oi:=_) (v:=?vv11) (some 82) rfl rfl (by kernel_rfl) (by kernel_rfl) (by kernel_rfl) (by kernel_rfl) (by kernel_rfl) (fun _ _ _ h=>h) (Or.inl ⟨by rfl,?yy11⟩) hSd ?rr11
           case yy11=>(intro wq hSq;obtain ⟨_,_,_,_⟩:=hSq;go_simp<;>with_reducible rfl)
           simp only[kh,kb,kf,ke]
           have gz:=(hbd.block QX hlz).trans gz0
           obtain ⟨z0,z1,z2⟩:=z5EY gz
           have f0:=kg gz 0
           have f1:=kg gz 1
           have f2:=kg gz 2
           obtain ⟨vS,_,_,_⟩:=X0Wz gz (.int .i64 W) (.int .i64 H) (.slice ro D.length rc) w (kn HB.out.size hq) (HB.out.trans (hB2.mono HB.out.size))
           have hB4:=zHqh hB2 hq (.int .i64 W) (.int .i64 H) (.slice ro D.length rc)
           have HX:=hide (HR.out.set3 hfr hlz (.int .i64 W) (.int .i64 H) (.slice ro D.length rc))
           refine znWj (i:=11) (o:=_) (by kernel_rfl) rfl (fun K' hK=>?_)
           rw[if_pos (by rfl)]
           go_simp
           have hSd:=HS.out _ hB4
           refine hK.out _ _ hSd ?_
           clear hK
           try simp only[kh]
           clear z0 z1 z2 f0 f1 f2
           refine z9gO (o:=_) (by kernel_rfl) rfl (fun K' hK=>?_)
           rw[if_pos (by rfl)]
           go_simp
           refine hK.out _ _ ?_
           clear hK
           refine jFdp (by kernel_rfl) ?_ _
           try simp only[kh]
           clear hSd
           go_wp2
           go_meet
           case rel=>exact ⟨QX,ro,rc,rfl,rfl,vS,HX.out,hrm,hq,hB4⟩
         case brB =>
          rw[if_pos (by rfl)]
          go_simp
          have hBz:Below U.heap.size U (w3.alloc (ka #[.int .i64 0,.int .i64 0,.slice none 0 0] 24)).drew:=(hbV.alloc hbV.size _).drew
          have hSd:=HS.out _ hBz
          refine hK.out _ _ hSd ?_
          clear hK
          try simp only[kh]
          have gz0:(w3.alloc (ka #[.int .i64 0,.int .i64 0,.slice none 0 0] 24)).drew.heap[w3.heap.size]?=_:=al1 w3 (ka #[.int .i64 0,.int .i64 0,.slice none 0 0] 24)
          have hlz:=(kd.1 gz0).1
          have hq:=hbV.size
          generalize (w3.alloc (ka #[.int .i64 0,.int .i64 0,.slice none 0 0] 24)).drew=Vz at *
          generalize w3.heap.size=QX at *
          refine znWj (i:=4) (o:=_) (by kernel_rfl) rfl (fun K' hK=>?_)
          rw[if_pos (by rfl)]
          go_simp
          refine (HMV.out _ (HB.out.trans (hBz.mono HB.out.size))).mono ?_
          rintro e V1 ⟨rv,rfl,hpl,hbm⟩
          have hB1:Below U.heap.size U V1:=hBz.trans (hbm.mono hBz.size)
          have hSd:=HS.out _ hB1
          refine hK.out _ _ hSd ?_
          clear hK
          try simp only[kh]
          replace gz0:=(hbm.block QX hlz).trans gz0
          replace hlz:=(kd.1 gz0).1
          refine znWj (i:=6) (o:=_) (by kernel_rfl) rfl (fun K' hK=>?_)
          rw[if_pos (by rfl)]
          go_simp
          refine (HDV.out rv _ (HB.out.trans (hB1.mono HB.out.size)) hpl).mono ?_
          rintro e V2 ⟨r,rfl,hr,hbd,hfr⟩
          have hB2:Below U.heap.size U V2:=hB1.trans (hbd.mono hB1.size)
          have hSd:=HS.out _ hB2
          refine hK.out _ _ hSd ?_
          clear hK
          try simp only[kh]
          have HR:=hide hr
          have hrm:=hfr.2
          obtain ⟨ro,rc,rfl,x1,x2⟩:=hr
          clear x1 x2
          refine zB2j (i:=7) (oi:=_) (v:=?vv12) (some 73) rfl rfl (by kernel_rfl) (by kernel_rfl) (by kernel_rfl) (by kernel_rfl) (by kernel_rfl) (fun _ _ _ h=>h) (Or.inl ⟨by rfl,?yy12⟩) hSd ?rr12
          case yy12=>(intro wq hSq;obtain ⟨_,_,_,_⟩:=hSq;go_simp<;>with_reducible rfl)
          simp only[kh,kb,kf,ke]
          refine zB2j (i:=8) (oi:=_) (v:=?vv13) (some 81) rfl rfl (by kernel_rfl) (by kernel_rfl) (by kernel_rfl) (by kernel_rfl) (by kernel_rfl) (fun _ _ _ h=>h) (Or.inl ⟨by rfl,?yy13⟩) hSd ?rr13
          case yy13=>(intro wq hSq;obtain ⟨_,_,_,_⟩:=hSq;go_simp<;>with_reducible rfl)
          simp only[kh,kb,kf,ke]
          refine zB2j (i:=9) (oi:=_) (v:=?vv14) (some 82) rfl rfl (by kernel_rfl) (by kernel_rfl) (by kernel_rfl) (by kernel_rfl) (by kernel_rfl) (fun _ _ _ h=>h) (Or.inl ⟨by rfl,?yy14⟩) hSd ?rr14
          case yy14=>(intro wq hSq;obtain ⟨_,_,_,_⟩:=hSq;go_simp<;>with_reducible rfl)
          simp only[kh,kb,kf,ke]
          have gz:=(hbd.block QX hlz).trans gz0
          obtain ⟨z0,z1,z2⟩:=z5EY gz
          have f0:=kg gz 0
          have f1:=kg gz 1
          have f2:=kg gz 2
          obtain ⟨vS,_,_,_⟩:=X0Wz gz (.int .i64 W) (.int .i64 H) (.slice ro D.length rc) w (kn HB.out.size hq) (HB.out.trans (hB2.mono HB.out.size))
          have hB4:=zHqh hB2 hq (.int .i64 W) (.int .i64 H) (.slice ro D.length rc)
          have HX:=hide (HR.out.set3 hfr hlz (.int .i64 W) (.int .i64 H) (.slice ro D.length rc))
          refine znWj (i:=11) (o:=_) (by kernel_rfl) rfl (fun K' hK=>?_)
          rw[if_pos (by rfl)]
          go_simp
          have hSd:=HS.out _ hB4
          refine hK.out _ _ hSd ?_
          clear hK
          try simp only[kh]
          clear z0 z1 z2 f0 f1 f2
          refine z9gO (o:=_) (by kernel_rfl) rfl (fun K' hK=>?_)
          rw[if_pos (by rfl)]
          go_simp
          refine hK.out _ _ ?_
          clear hK
          refine jFdp (by kernel_rfl) ?_ _
          try simp only[kh]
          clear hSd
          go_wp2
          go_meet
          case rel=>exact ⟨QX,ro,rc,rfl,rfl,vS,HX.out,hrm,hq,hB4⟩
        case rest =>
         obtain ⟨QX,ro,rc,rfl,rfl,vS,hpx,hroom,hQX,vB⟩:=hcut
         have hsVQ:=vB.size
         have hlQ:=(kd.1 vS).1
         have HPX:=hide hpx
         have hD1:1≤D.length:=by
          rw[HDL.out,HLEN.out]
          exact Nat.mul_le_mul (show 1≤HN by have:=HHN.out;omega) (show 1≤WN by have:=HWN.out;omega)
         obtain ⟨ro2,rc2,hpe,_,hpor⟩:=hpx
         cases hpe
         rcases hpor with hpor|⟨pb,po,rfl,hpb,hpc⟩
         ·rw[hpor] at hD1;simp at hD1
         have HPC:=hide hpc
         clear hpc
         obtain ⟨q0,q1,q2⟩:=z5EY vS
         have hTF:TN≤FN:=by have:=HnA.out;have:=HTN.out;have:=HFN.out;omega
         have hFT:FN<TO:=by have:=HFN.out;have:=HTO.out;omega
         have hTH:TO≤TN+HN:=by have:=HnB.out;have:=HTN.out;have:=HTO.out;have:=HHN.out;have:=HGN.out;omega
         have hWN1:1≤WN:=by have:=HWN.out;omega
         have hWN2:WN≤64:=by have:=HWN.out;omega
         have hHN2:HN≤64:=by have:=HHN.out;omega
         have hDl:D.length=HN*WN:=by rw[HDL.out,HLEN.out]
         have hm1:(FN-TN+(TO-FN))*WN≤D.length:=by rw[hDl];exact kr _ (by omega)
         have hm2:HN*WN≤64*64:=Nat.mul_le_mul hHN2 hWN2
         have hm3:1*WN≤(TO-FN)*WN:=kr _ (by omega)
         have HSC:=hide (fun (V:World) (hV:Below wc.heap.size wc V)=>jiRY (w:=V) (b:=pb) (off:=po) (ps:=D) (W:=WN) (top:=FN-TN) (many:=TO-FN) (fun j hj=>by
          obtain ⟨e0,e1,e2⟩:=HPC.out j hj
          exact ⟨(hV.cell (p:=⟨pb,po+j*3,none⟩) hpb).trans e0,(hV.cell (p:=⟨pb,po+j*3+1,none⟩) hpb).trans e1,(hV.cell (p:=⟨pb,po+j*3+2,none⟩) hpb).trans e2⟩) hm1)
         have HRL:=hide (zdIr D WN (FN-TN) (TO-FN) hm1)
         have hmA:(fm-top)*W=((FN-TN)*WN:Nat):=by rw[HFN.out,HTN.out,HWN.out,Int.natCast_mul,Int.natCast_sub hTF]
         have hmB:(tm-top)*W=((TO-TN)*WN:Nat):=by rw[HTO.out,HTN.out,HWN.out,Int.natCast_mul,Int.natCast_sub (by omega)]
         have hmC:(TO-TN)*WN=(FN-TN)*WN+(TO-FN)*WN:=by rw[←Nat.add_mul];congr 1;omega
         obtain ⟨A,hA⟩:∃A,(FN-TN)*WN=A:=⟨_,rfl⟩
         obtain ⟨M,hM⟩:∃M,(TO-FN)*WN=M:=⟨_,rfl⟩
         rw[hmC] at hmB
         rw[Nat.add_mul] at hm1
         rw[hA] at hmA hmB hm1 HSC
         rw[hM] at hmB hm1 hm3 HSC HRL
         obtain ⟨N,hN⟩:∃N,D.length=N:=⟨_,rfl⟩
         rw[hN] at hm1 hD1 hroom HPX q2 vS
         rw[hDl] at hN
         have hN4:N≤4096:=by omega
         clear hmC hA hM hN hDl HPC
         have hwA:IntKind.i64.wrap (fm-top)=fm-top:=kl _ (by omega)
         have hwB:IntKind.i64.wrap (tm-top)=tm-top:=kl _ (by omega)
         have hwAm:IntKind.i64.wrap (A:Int)=(A:Int):=kl _ (by omega)
         have hwBm:IntKind.i64.wrap ((A+M:Nat):Int)=((A+M:Nat):Int):=kl _ (by omega)
         have hg1:(A:Int)≤((A+M:Nat):Int):=by omega
         have hg2:((A+M:Nat):Int)≤(rc:Int):=by omega
         have hg3:¬(rc=A):=by omega
         go_wp2_with fail
         rw[Nat.add_sub_cancel_left]
         have hwD:IntKind.i64.wrap (tm-fm)=tm-fm:=kl _ (by omega)
         have hWd2:Below U.heap.size U wc.drew:=vB.drew
         have HS2:=hide (show ∀v,Below wc.heap.size wc v→v.cell? ⟨QX,0,none⟩=some (.int .i64 W) from fun v h=>(z5EY ((h.block _ hlQ).trans vS)).1)
         have hWc:Below wc.heap.size wc wc.drew:=(Below.refl _ _).drew
         have hSd:=HS2.out _ hWc
         clear q0 q1 q2
         have hmx:Tryz.prog.follows .mixedOrders=true:=by kernel_rfl
         refine qYgd (S:=fun v:World=>v.cell? ⟨QX,0,none⟩=some (.int .i64 W)) (f:=9) hmx ?_
         show jZdv _ _ _ _ _ _ 10 _ _ wc.drew
         refine zB2j (i:=0) (oi:=_) (v:=?vv15) (some 102) rfl rfl (by kernel_rfl) (by kernel_rfl) (by kernel_rfl) (by kernel_rfl) (by kernel_rfl) (fun _ _ _ h=>h) (Or.inl ⟨by rfl,?yy15⟩) hSd ?rr15
         case yy15=>(intro wq hSq;obtain _:=hSq;go_simp<;>with_reducible rfl)
         simp only[kh,kb,kf,ke]
         refine zB2j (i:=2) (oi:=_) (v:=?vv16) (some 104) rfl rfl (by kernel_rfl) (by kernel_rfl) (by kernel_rfl) (by kernel_rfl) (by kernel_rfl) (fun _ _ _ h=>h) (Or.inl ⟨by rfl,?yy16⟩) hSd ?rr16
         case yy16=>(intro wq hSq;obtain _:=hSq;go_simp<;>with_reducible rfl)
         simp only[kh,kb,kf,ke]
         refine zB2j (i:=3) (oi:=_) (v:=?vv17) (some 105) rfl rfl (by kernel_rfl) (by kernel_rfl) (by kernel_rfl) (by kernel_rfl) (by kernel_rfl) (fun _ _ _ h=>h) (Or.inl ⟨by rfl,?yy17⟩) hSd ?rr17
         case yy17=>(intro wq hSq;obtain _:=hSq;go_simp<;>with_reducible rfl)
         simp only[kh,kb,kf,ke]
         refine zB2j (i:=5) (oi:=_) (v:=?vv18) (some 107) rfl rfl (by kernel_rfl) (by kernel_rfl) (by kernel_rfl) (by kernel_rfl) (by kernel_rfl) (fun _ _ _ h=>h) (Or.inl ⟨by rfl,?yy18⟩) hSd ?rr18
         case yy18=>(intro wq hSq;obtain _:=hSq;go_simp<;>with_reducible rfl)
         simp only[kh,kb,kf,ke]
         refine zB2j (i:=1) (oi:=_) (v:=?vv19) (some 103) rfl rfl (by kernel_rfl) (by kernel_rfl) (by kernel_rfl) (by kernel_rfl) (by kernel_rfl) (fun _ _ _ h=>h) (Or.inl ⟨by rfl,?yy19⟩) hSd ?rr19
         case yy19=>(intro wq hSq;obtain _:=hSq;go_simp<;>with_reducible rfl)
         simp only[kh,kb,kf,ke]
         refine zB2j (i:=4) (oi:=_) (v:=?vv20) (some 106) rfl rfl (by kernel_rfl) (by kernel_rfl) (by kernel_rfl) (by kernel_rfl) (by kernel_rfl) (fun _ _ _ h=>h) (Or.inl ⟨by rfl,?yy20⟩) hSd ?rr20
         case yy20=>(intro wq hSq;obtain _:=hSq;go_simp<;>with_reducible rfl)
         simp only[kh,kb,kf,ke]
         refine znWj (i:=6) (o:=_) (by kernel_rfl) rfl (fun K' hK=>?_)
         rw[if_pos (by rfl)]
         go_simp
         refine (j9sy pb (po+A*3) M (rc-A) (rowsL D WN (FN-TN) (TO-FN)) _ HRL.out (km hpb hWc.size) (by omega) (by omega) (fun j hj=>by have:=HSC.out _ hWc j hj;exact this)).mono ?_
         rintro e V1 ⟨r,rfl,hr,hbv,hfr⟩
         have hB1:Below wc.heap.size wc V1:=hWc.trans (hbv.mono hWc.size)
         have HR:=hide hr
         obtain ⟨co,cc,rfl,x1,x2⟩:=hr
         clear x1 x2
         rw[HRL.out] at HR hfr ⊢
         have hSd:=HS2.out _ hB1
         refine hK.out _ _ hSd ?_
         clear hK
         try simp only[kh]
         refine zB2j (i:=7) (oi:=_) (v:=?vv21) (some 109) rfl rfl (by kernel_rfl) (by kernel_rfl) (by kernel_rfl) (by kernel_rfl) (by kernel_rfl) (fun _ _ _ h=>h) (Or.inl ⟨by rfl,?yy21⟩) hSd ?rr21
         case yy21=>(intro wq hSq;obtain _:=hSq;go_simp<;>with_reducible rfl)
         simp only[kh,kb,kf,ke]
         refine znWj (i:=8) (o:=_) (by kernel_rfl) rfl (fun K' hK=>?_)
         have hBU:=quJN vB hB1
         obtain ⟨z0,z1,z2,f0,f1,f2,_⟩:=HERR.out _ hBU
         rw[if_pos (by rfl)]
         go_simp
         clear f0 f1 f2
         have hSd:=(zd1R (w:=V1) (b:=w.heap.size+1+1) (.int .i64 W) (.int .i64 (tm-fm)) (.slice co M cc) (a:=⟨QX,0,none⟩) (show QX≠w.heap.size+1+1 by omega)).trans (HS2.out _ hB1)
         refine hK.out _ _ hSd ?_
         clear hK
         try simp only[kh]
         refine z9gO (o:=_) (by kernel_rfl) rfl (fun K' hK=>?_)
         rw[if_pos (by rfl)]
         go_simp
         refine hK.out _ _ ?_
         clear hK
         refine jFdp (by kernel_rfl) ?_ _
         try simp only[kh]
         have HX:=hide (HR.out.set3 hfr (show w.heap.size+1+1<wc.drew.heap.size from (by show w.heap.size+1+1<wc.heap.size;omega)) (.int .i64 W) (.int .i64 (tm-fm)) (.slice co M cc))
         have HF:=hide (zHqh (HB.out.trans (hBU.mono HB.out.size)) (show w.heap.size≤w.heap.size+1+1 by omega) (.int .i64 W) (.int .i64 (tm-fm)) (.slice co M cc))
         have hwf:=kn HB.out.size vB.size
         have HFR:=hide (hfr.mono (show w.heap.size≤wc.drew.heap.size from hwf))
         clear hSd
         go_wp2
         refine bodyPost_ret (v:=.tuple #[.agg #[.int .i64 W,.int .i64 (tm-fm),.slice co M cc],.int .i64 0]) (by simp[results,Tryz.results57,go_sem,z0,z1,z2]) rfl ⟨_,rfl,?_,HF.out,HFR.out⟩
         show IsPix _ _ (partL n W H zs top fm tm)
         rw[HPT.out]
         exact HX.out
       ·have hd6:decide (top+H<(NB:Int))=true:=by simp;omega
        have he:E=3:=H3.out (fun h=>hs6 (by rw[HnB.out];exact (of_decide_eq_true h).2.2.2.2.2.2.2))
        subst he
        obtain ⟨z0,z1,z2,f0,f1,f2,hBf⟩:=HERR.out _ hbV
        have HBF:=hide hBf
        clear hBf
        go_wp2
        refine bodyPost_ret (v:=.tuple #[.agg #[.int .i64 0,.int .i64 0,.slice none 0 0],.int .i64 3]) (by simp[results,Tryz.results57,go_sem,z0,z1,z2]) rfl ⟨.slice none 0 0,?_,?_,HBF.out,Fresh.nil _⟩
        ·first|rfl|rw[okW,if_neg HEN.out,okW,if_neg HEN.out]
        ·first|exact IsPix.nil _|(rw[okL,if_neg HEN.out];exact IsPix.nil _)
      ·have hd5:decide ((NA:Int)<top)=true:=by simp;omega
       have he:E=3:=H3.out (fun h=>hs5 (by rw[HnA.out];exact (of_decide_eq_true h).2.2.2.2.2.2.1))
       subst he
       obtain ⟨z0,z1,z2,f0,f1,f2,hBf⟩:=HERR.out _ hbV
       have HBF:=hide hBf
       clear hBf
       go_wp2
       refine bodyPost_ret (v:=.tuple #[.agg #[.int .i64 0,.int .i64 0,.slice none 0 0],.int .i64 3]) (by simp[results,Tryz.results57,go_sem,z0,z1,z2]) rfl ⟨.slice none 0 0,?_,?_,HBF.out,Fresh.nil _⟩
       ·first|rfl|rw[okW,if_neg HEN.out,okW,if_neg HEN.out]
       ·first|exact IsPix.nil _|(rw[okL,if_neg HEN.out];exact IsPix.nil _)
     ·have hd4:decide (height<top+H)=true:=by simp;omega
      have hw4:IntKind.i64.wrap (top+H)=top+H:=kl _ (by omega)
      have he:E=3:=H3.out (fun h=>hs4 (by have:=of_decide_eq_true h;omega))
      subst he
      go_wp2_with fail
      refine (XlDJ height _).mono ?_
      rintro e w2 ⟨rfl,hb2⟩
      rw[hsd]
      have hb3:=quJN hb1 hb2
      have hbV:=quJN hb3 (qUNz w2 (ka #[.int .i64 top,.int .i64 fm,.int .i64 tm] 3))
      have hI3:=XEYn w2 top fm tm
      obtain ⟨x0,x1,x2⟩:=z5EY ((hbV.block _ hl2).trans a2)
      clear p0 p1 p2
      go_wp2_with fail
      refine (qFis 0 height _ [top,fm,tm] _ hI3).mono ?_
      rintro e w3 ⟨rfl,rfl⟩
      rw[hin]
      generalize w2.alloc (ka #[.int .i64 top,.int .i64 fm,.int .i64 tm] 3)=w3 at *
      obtain ⟨z0,z1,z2,f0,f1,f2,hBf⟩:=HERR.out _ hbV
      have HBF:=hide hBf
      clear hBf
      go_wp2
      refine bodyPost_ret (v:=.tuple #[.agg #[.int .i64 0,.int .i64 0,.slice none 0 0],.int .i64 3]) (by simp[results,Tryz.results57,go_sem,z0,z1,z2]) rfl ⟨.slice none 0 0,?_,?_,HBF.out,Fresh.nil _⟩
      ·first|rfl|rw[okW,if_neg HEN.out,okW,if_neg HEN.out]
      ·first|exact IsPix.nil _|(rw[okL,if_neg HEN.out];exact IsPix.nil _)
    ·have hd3:decide (tm≤fm)=true:=by simp;omega
     have he:E=3:=H3.out (fun h=>hs3 (by have:=of_decide_eq_true h;omega))
     subst he
     go_wp2_with fail
     refine (XlDJ height _).mono ?_
     rintro e w2 ⟨rfl,hb2⟩
     rw[hsd]
     have hb3:=quJN hb1 hb2
     have hbV:=quJN hb3 (qUNz w2 (ka #[.int .i64 top,.int .i64 fm,.int .i64 tm] 3))
     have hI3:=XEYn w2 top fm tm
     obtain ⟨x0,x1,x2⟩:=z5EY ((hbV.block _ hl2).trans a2)
     clear p0 p1 p2
     go_wp2_with fail
     refine (qFis 0 height _ [top,fm,tm] _ hI3).mono ?_
     rintro e w3 ⟨rfl,rfl⟩
     rw[hin]
     generalize w2.alloc (ka #[.int .i64 top,.int .i64 fm,.int .i64 tm] 3)=w3 at *
     obtain ⟨z0,z1,z2,f0,f1,f2,hBf⟩:=HERR.out _ hbV
     have HBF:=hide hBf
     clear hBf
     go_wp2
     refine bodyPost_ret (v:=.tuple #[.agg #[.int .i64 0,.int .i64 0,.slice none 0 0],.int .i64 3]) (by simp[results,Tryz.results57,go_sem,z0,z1,z2]) rfl ⟨.slice none 0 0,?_,?_,HBF.out,Fresh.nil _⟩
     ·first|rfl|rw[okW,if_neg HEN.out,okW,if_neg HEN.out]
     ·first|exact IsPix.nil _|(rw[okL,if_neg HEN.out];exact IsPix.nil _)
   ·have hin:allIn 0 height [top,fm,tm]=false:=by simpa [allIn] using hs2
    have he:E=3:=H3.out (fun h=>hs2 (by have:=of_decide_eq_true h;omega))
    subst he
    go_wp2_with fail
    refine (XlDJ height _).mono ?_
    rintro e w2 ⟨rfl,hb2⟩
    rw[hsd]
    have hb3:=quJN hb1 hb2
    have hbV:=quJN hb3 (qUNz w2 (ka #[.int .i64 top,.int .i64 fm,.int .i64 tm] 3))
    have hI3:=XEYn w2 top fm tm
    obtain ⟨x0,x1,x2⟩:=z5EY ((hbV.block _ hl2).trans a2)
    clear p0 p1 p2
    go_wp2_with fail
    refine (qFis 0 height _ [top,fm,tm] _ hI3).mono ?_
    rintro e w3 ⟨rfl,rfl⟩
    rw[hin]
    generalize w2.alloc (ka #[.int .i64 top,.int .i64 fm,.int .i64 tm] 3)=w3 at *
    obtain ⟨z0,z1,z2,f0,f1,f2,hBf⟩:=HERR.out _ hbV
    have HBF:=hide hBf
    clear hBf
    go_wp2
    refine bodyPost_ret (v:=.tuple #[.agg #[.int .i64 0,.int .i64 0,.slice none 0 0],.int .i64 3]) (by simp[results,Tryz.results57,go_sem,z0,z1,z2]) rfl ⟨.slice none 0 0,?_,?_,HBF.out,Fresh.nil _⟩
    ·first|rfl|rw[okW,if_neg HEN.out,okW,if_neg HEN.out]
    ·first|exact IsPix.nil _|(rw[okL,if_neg HEN.out];exact IsPix.nil _)
  ·have hsd:jbTy height=false:=by simpa [jbTy] using hs1
   have he:E=3:=H3.out (fun h=>hs1 (of_decide_eq_true h).1)
   subst he
   go_wp2_with fail
   refine (XlDJ height _).mono ?_
   rintro e w2 ⟨rfl,hb2⟩
   rw[hsd]
   have hbV:=quJN hb1 hb2
   clear p0 p1 p2
   obtain ⟨z0,z1,z2,f0,f1,f2,hBf⟩:=HERR.out _ hbV
   have HBF:=hide hBf
   clear hBf
   go_wp2
   refine bodyPost_ret (v:=.tuple #[.agg #[.int .i64 0,.int .i64 0,.slice none 0 0],.int .i64 3]) (by simp[results,Tryz.results57,go_sem,z0,z1,z2]) rfl ⟨.slice none 0 0,?_,?_,HBF.out,Fresh.nil _⟩
   ·first|rfl|rw[okW,if_neg HEN.out,okW,if_neg HEN.out]
   ·first|exact IsPix.nil _|(rw[okL,if_neg HEN.out];exact IsPix.nil _)
 ·have hn:(F != 0)=true:=by simpa using hF
  rw[if_neg hF] at HPE
  have he:E=F:=HPE.out
  subst he
  have HEN:=hide hF
  have hbV:=hb1
  obtain ⟨z0,z1,z2,f0,f1,f2,hBf⟩:=HERR.out _ hbV
  have HBF:=hide hBf
  clear hBf
  go_wp2
  refine bodyPost_ret (v:=.tuple #[.agg #[.int .i64 0,.int .i64 0,.slice none 0 0],.int .i64 E]) (by simp[results,Tryz.results57,go_sem,z0,z1,z2]) rfl ⟨.slice none 0 0,?_,?_,HBF.out,Fresh.nil _⟩
  ·first|rfl|rw[okW,if_neg HEN.out,okW,if_neg HEN.out]
  ·first|exact IsPix.nil _|(rw[okL,if_neg HEN.out];exact IsPix.nil _)
end Go.Proofs.YtfjeonehdlphiaaGreatDoor
namespace Go.Proofs.YtfjeonehdlphiaaGreatDoor
def qW9x (H rows f:Nat):Nat:=f+min rows (H-f)
def jqst (n:Plan) (W H:Nat) (zs:List Int) (rows f:Nat):List Px :=
 partL n W ((needB (qW9x H rows f) H-needA f:Nat):Int) (rowsL zs W (needA f) (needB (qW9x H rows f) H-needA f)) (needA f:Nat) f (qW9x H rows f:Nat)
def ji0X (n:Plan) (W H:Nat) (zs:List Int) (rows:Nat):Nat→Nat→List Px
 | 0,_=>[]
 | fuel+1,f=>if f<H then jqst n W H zs rows f++ji0X n W H zs rows fuel (qW9x H rows f) else []
theorem jvZd (n:Plan) (W H:Nat) (zs:List Int) (rows fuel:Nat):ji0X n W H zs rows fuel H=[]:=by
 cases fuel with
 | zero=>rfl
 | succ k=>rw[ji0X,if_neg (by omega)]
theorem qQb2 {H rows f:Nat} (hr:1≤rows) (hf:f<H):f<qW9x H rows f:=by unfold qW9x;omega
theorem jWB6 {H rows f:Nat} (hf:f<H):qW9x H rows f≤H:=by unfold qW9x;omega
theorem qgLp (n:Plan) (W H:Nat) (zs:List Int) (rows:Nat) (hr:1≤rows):∀a b f,H-f≤a→H-f≤b→ji0X n W H zs rows a f=ji0X n W H zs rows b f:=by
 intro a
 induction a with
 | zero =>
  intro b f h1 h2
  cases b with
  | zero=>rfl
  | succ b=>rw[ji0X,ji0X,if_neg (by omega)]
 | succ a ih =>
  intro b f h1 h2
  cases b with
  | zero=>rw[ji0X,ji0X,if_neg (by omega)]
  | succ b =>
   rw[ji0X,ji0X]
   by_cases hf:f<H
   ·rw[if_pos hf,if_pos hf,ih b _ (by have:=qQb2 hr hf;omega) (by have:=qQb2 hr hf;omega)]
   ·rw[if_neg hf,if_neg hf]
def XSDS (n:Plan) (W H:Int) (zs:List Int) (rows:Int):Int:=if fitsE n W H zs H=0 then (if 1≤rows then 0 else 3) else fitsE n W H zs H
def X1qP (n:Plan) (W H:Int) (zs:List Int) (rows:Int):List Px:=ji0X n W.toNat H.toNat zs rows.toNat H.toNat 0
theorem zMGY {a b:Int} {zs:List Int} (h:allIn a b zs=true) (W t m:Nat):allIn a b (rowsL zs W t m)=true:=by
 refine List.all_eq_true.2 fun x hx=>List.all_eq_true.1 h x ?_
 exact List.mem_of_mem_drop (List.mem_of_mem_take hx)
theorem j7yx {n:Plan} {W H:Nat} {zs:List Int} {rows f:Nat} (hE:fitsE n W H zs H=0) (hr:1≤rows) (hf:f<H) :
  partE n W ((needB (qW9x H rows f) H-needA f:Nat):Int) (rowsL zs W (needA f) (needB (qW9x H rows f) H-needA f)) (needA f:Nat) H f (qW9x H rows f:Nat)=0:=by
 obtain ⟨h1,h2,h3⟩:=jsZS hE
 obtain ⟨hW,hH,hl,_⟩:=qwcI h2
 have hgt:=qQb2 (H:=H) hr hf
 have hle:=jWB6 (rows:=rows) hf
 generalize qW9x H rows f=t at *
 have hA:needA f≤f:=by unfold needA;omega
 have hB1:t≤needB t H:=by unfold needB;omega
 have hB2:needB t H≤H:=by unfold needB;omega
 have hlz:zs.length=H*W:=by rw[ks];exact_mod_cast hl
 have hm:(needB t H-needA f)*W≤H*W:=kr _ (by omega)
 have hm2:(needA f+(needB t H-needA f))*W≤zs.length:=by rw[hlz];exact kr _ (by omega)
 have hfit:fitsE n W ((needB t H-needA f:Nat):Int) (rowsL zs W (needA f) (needB t H-needA f)) H=0:=by
  have hpl:q0fM W ((needB t H-needA f:Nat):Int) (rowsL zs W (needA f) (needB t H-needA f))=true:=by
   rw[jZMK,kt]
   refine ⟨?_,zMGY (XAOl h2) _ _ _⟩
   rw[zdIr zs W _ _ hm2]
   simp only[jcbm,jbTy,kt,decide_eq_true_eq]
   refine ⟨⟨hW,by omega⟩,?_⟩
   rw[Int.natCast_mul,Int.mul_comm]
  rw[fitsE,if_pos h1,if_pos hpl,if_pos h3]
 rw[partE,if_pos hfit,if_pos]
 refine decide_eq_true ⟨hH,⟨by omega,by omega⟩,⟨by omega,by omega⟩,⟨by omega,by omega⟩,by omega,by omega,?_,?_⟩
 ·unfold needA;omega
 ·unfold needB at hB1 hB2 ⊢;unfold needA at hA ⊢;omega
end Go.Proofs.YtfjeonehdlphiaaGreatDoor
namespace Go.Proofs.YtfjeonehdlphiaaGreatDoor
open Go.RowKit
theorem Xgc9 {n:Plan} {W H:Nat} {zs:List Int} {rows f:Nat} (hl:zs.length=H*W) (hr:1≤rows) (hf:f<H) :
  (needA f+(needB (qW9x H rows f) H-needA f))*W≤zs.length:=by
 have hgt:=qQb2 (H:=H) hr hf
 have hle:=jWB6 (rows:=rows) hf
 generalize qW9x H rows f=t at *
 rw[hl]
 refine kr _ ?_
 unfold needA needB
 omega
theorem XFMV (n:Plan) {W H:Nat} {zs:List Int} {rows f:Nat} (hl:zs.length=H*W) (hr:1≤rows) (hf:f<H):(jqst n W H zs rows f).length=(qW9x H rows f-f)*W:=by
 have h2:=Xgc9 (n:=n) hl hr hf
 have hgt:=qQb2 (H:=H) hr hf
 have hle:=jWB6 (rows:=rows) hf
 unfold jqst partL
 generalize qW9x H rows f=t at *
 simp only[kq]
 rw[show ((f:Int)-(needA f:Nat)).toNat=f-needA f by unfold needA;omega,show ((t:Int)-(f:Nat)).toNat=t-f by omega]
 refine zdIr _ _ _ _ ?_
 rw[zrLo,zdIr zs W _ _ h2]
 refine kr _ ?_
 unfold needA needB
 omega
theorem jxb0 (n:Plan) {W H:Nat} {zs:List Int} {rows f:Nat} (hr:1≤rows) (hf:f<H):ji0X n W H zs rows (H-f) f=jqst n W H zs rows f++ji0X n W H zs rows (H-qW9x H rows f) (qW9x H rows f):=by
 have hgt:=qQb2 (H:=H) hr hf
 obtain ⟨k,hk⟩:∃k,H-f=k+1:=⟨H-f-1,by omega⟩
 rw[hk,ji0X,if_pos hf,qgLp n W H zs rows hr k (H-qW9x H rows f) _ (by omega) (ki _)]
theorem zjmM (zs:List Int) (W top many j:Nat) (hj:j<many*W):zAt (rowsL zs W top many) j=zAt zs (top*W+j):=by
 unfold rowsL zAt
 rw[kp,kp,List.getElem?_take_of_lt hj,List.getElem?_drop]
theorem z54W {n:Plan} {W H:Nat} {zs:List Int} {rows f:Nat} (hE:fitsE n W H zs H=0) (hlz:zs.length=H*W) (hr:1≤rows) (hf:f<H) (sv cv:Value) (bk off ca:Nat) (u:World) (hp:X1uD u n sv cv) (hbk:bk<u.heap.size) (h4:zs.length≤4096)
  (hc:∀j,j<zs.length→u.cell? ⟨bk,off+j,none⟩=some (.int .i64 (zAt zs j))) :
  Calls Tryz.prog 57 #[.agg (planA n sv cv),.agg #[.int .i64 (W:Nat),.int .i64 (needB (qW9x H rows f) H-needA f:Nat),.slice (some ⟨bk,off+needA f*W,none⟩) ((needB (qW9x H rows f) H-needA f)*W) (ca-needA f*W)],.int .i64 (needA f:Nat),.int .i64 (H:Nat),.int .i64 (f:Nat),.int .i64 (qW9x H rows f:Nat)] u
   fun e w'=>∃r,e=.returned (.tuple #[.agg #[.int .i64 (W:Nat),.int .i64 ((qW9x H rows f:Nat)-(f:Nat):Int),r],.int .i64 0])∧IsPix w' r (jqst n W H zs rows f)∧Below u.heap.size u w'∧Fresh u.heap.size r:=by
 have h2:=Xgc9 (n:=n) hlz hr hf
 have hln:=zdIr zs W _ _ h2
 have hv:jCvT u (.slice (some ⟨bk,off+needA f*W,none⟩) ((needB (qW9x H rows f) H-needA f)*W) (ca-needA f*W)) (rowsL zs W (needA f) (needB (qW9x H rows f) H-needA f)):=by
  rw[Nat.add_mul] at h2
  refine ⟨_,_,by rw[hln],by omega,.inr ⟨bk,_,rfl,hbk,fun j hj=>?_⟩⟩
  have e:=hc (needA f*W+j) (by rw[←hln] at h2;omega)
  rw[←zjmM zs W (needA f) (needB (qW9x H rows f) H-needA f) j (by rw[←hln];exact hj)] at e
  rw[Nat.add_assoc,e]
  unfold zAt
  rw[kp,kj hj,Option.getD_some]
 have h:=XedY n sv cv W ((needB (qW9x H rows f) H-needA f:Nat):Int) _ _ (needA f:Nat) H f (qW9x H rows f:Nat) u hp hv
 rw[j7yx hE hr hf] at h
 exact h
end Go.Proofs.YtfjeonehdlphiaaGreatDoor
namespace Go.Proofs.YtfjeonehdlphiaaGreatDoor
structure Win (top HA HB lo hi:Nat):Prop where
 low:top≤lo
 high:hi≤top+HA
 all:top+HA≤HB
 zero:lo=0→top=0
def shrL (lo r:Nat):Nat:=if lo=0 then 0 else lo+r
def shrH (HB hi r:Nat):Nat:=if hi=HB then HB else hi-r
theorem Win.shr {top HA HB lo hi:Nat} (h:Win top HA HB lo hi) (r:Nat):Win top HA HB (shrL lo r) (shrH HB hi r):=by
 obtain ⟨h1,h2,h3,h4⟩:=h
 refine ⟨?_,?_,h3,?_⟩
 ·unfold shrL;split<;>omega
 ·unfold shrH;split<;>omega
 ·unfold shrL;split<;>omega
def AgZ (W top lo hi:Nat) (za zb:List Int):Prop:=∀y x,lo≤y→y<hi→x<W→zAt za ((y-top)*W+x)=zAt zb (y*W+x)
def AgP (W top lo hi:Nat) (pa pb:List Px):Prop:=∀y x,lo≤y→y<hi→x<W→pxAt pa ((y-top)*W+x)=pxAt pb (y*W+x)
theorem jaJN {W y x:Nat} (hx:x<W):(y*W+x) % W=x:=by rw[Nat.add_comm,Nat.add_mul_mod_self_right,Nat.mod_eq_of_lt hx]
theorem qk46 {W y x:Nat} (hx:x<W):(y*W+x) / W=y:=by
 rw[Nat.add_comm,Nat.add_mul_div_right _ _ (by omega),Nat.div_eq_of_lt hx,Nat.zero_add]
theorem ix_lt {W H y x:Nat} (hy:y<H) (hx:x<W):y*W+x<H*W:=by
 have h:=kr W (show y+1≤H from hy)
 rw[Nat.add_mul,Nat.one_mul] at h
 omega
theorem zJoE (f:Nat→Int) {n j:Nat} (h:j<n):zAt ((List.range n).map f) j=f j:=by
 unfold zAt
 rw[kp,List.getElem?_map,List.getElem?_range h]
 rfl
theorem jITc (f:Nat→Px) {n j:Nat} (h:j<n):pxAt ((List.range n).map f) j=f j:=by
 unfold pxAt
 rw[kp,List.getElem?_map,List.getElem?_range h]
 rfl
theorem zXw2 (f:Px→Px) {ps:List Px} {j:Nat} (h:j<ps.length):pxAt (ps.map f) j=f (pxAt ps j):=by
 unfold pxAt
 rw[kp,kp,List.getElem?_map,kj h]
 rfl
theorem qGhb {N:Nat} {za zb:List Int} {W HA HB:Nat} {pa qa pb qb:Fin N→Int} {ca cb:Fin N→Bool}
  (h1:∀x,(hasB W HA (pa x) (qa x)=true∧ca x=true)↔(hasB W HB (pb x) (qb x)=true∧cb x=true))
  (h2:∀x,hasB W HB (pb x) (qb x)=true→cb x=true→zAt za ((qa x).toNat*W+(pa x).toNat)=zAt zb ((qb x).toNat*W+(pb x).toNat)) :
  meanV za W HA pa qa ca=meanV zb W HB pb qb cb:=by
 have hs:mStep za W HA pa qa ca=mStep zb W HB pb qb cb:=by
  funext s x
  unfold mStep
  by_cases hc:hasB W HB (pb x) (qb x)=true∧cb x=true
  ·rw[if_pos ((h1 x).2 hc),if_pos hc,h2 x hc.1 hc.2]
  ·rw[if_neg (fun h=>hc ((h1 x).1 h)),if_neg hc]
 unfold meanV mF
 rw[hs]
section
variable {W top HA HB lo hi:Nat}
theorem AgZ.map {za zb:List Int} {fa fb:Nat→Int} {lo' hi':Nat} (hw:Win top HA HB lo' hi') (ha:za.length=HA*W) (hb:zb.length=HB*W)
  (h:∀y x,lo'≤y→y<hi'→x<W→fa ((y-top)*W+x)=fb (y*W+x)):AgZ W top lo' hi' ((List.range za.length).map fa) ((List.range zb.length).map fb):=by
 intro y x h1 h2 hx
 have:=hw.low;have:=hw.high;have:=hw.all
 rw[zJoE _ (by rw[ha];exact ix_lt (by omega) hx),zJoE _ (by rw[hb];exact ix_lt (by omega) hx)]
 exact h y x h1 h2 hx
theorem AgP.map {na nb:Nat} {fa fb:Nat→Px} {lo' hi':Nat} (hw:Win top HA HB lo' hi') (ha:na=HA*W) (hb:nb=HB*W)
  (h:∀y x,lo'≤y→y<hi'→x<W→fa ((y-top)*W+x)=fb (y*W+x)):AgP W top lo' hi' ((List.range na).map fa) ((List.range nb).map fb):=by
 intro y x h1 h2 hx
 have:=hw.low;have:=hw.high;have:=hw.all
 rw[jITc _ (by rw[ha];exact ix_lt (by omega) hx),jITc _ (by rw[hb];exact ix_lt (by omega) hx)]
 exact h y x h1 h2 hx
theorem Xv7E {za zb:List Int} {ma mb:Nat→Int} {white:Int} (hw:Win top HA HB lo hi) (ha:za.length=HA*W) (hb:zb.length=HB*W) (hz:AgZ W top lo hi za zb)
  (hm:∀y x,top≤y→ma ((y-top) % 2*2+x % 2)=mb (y % 2*2+x % 2)):AgZ W top lo hi (levL W za ma white) (levL W zb mb white):=by
 refine AgZ.map hw ha hb fun y x h1 h2 hx=>?_
 have h3:=hz y x h1 h2 hx
 have h4:=hm y x (kn hw.low h1)
 simp only[zBza,kq,jaJN hx,qk46 hx,h3,h4]
theorem XloF {za zb:List Int} {pa pb:Int} {m:Nat→Int} (hw:Win top HA HB lo hi) (ha:za.length=HA*W) (hb:zb.length=HB*W) (hz:AgZ W top lo hi za zb)
  (hm:∀y x,top≤y→colV pa.toNat x (y-top)=colV pb.toNat x y):AgZ W top lo hi (gaiL W za pa m) (gaiL W zb pb m):=by
 refine AgZ.map hw ha hb fun y x h1 h2 hx=>?_
 have h3:=hz y x h1 h2 hx
 have h4:=hm y x (kn hw.low h1)
 simp only[gainV,kq,jaJN hx,qk46 hx,h3,h4]
theorem XP3e {y r:Nat} {d:Int} (hw:Win top HA HB lo hi) (h1:shrL lo r≤y) (h2:y<shrH HB hi r) (hd1:-(r:Int)≤d) (hd2:d≤r) :
  (0≤((y-top:Nat):Int)+d∧((y-top:Nat):Int)+d<HA↔0≤(y:Int)+d∧(y:Int)+d<HB)∧(0≤(y:Int)+d∧(y:Int)+d<HB→lo≤((y:Int)+d).toNat∧((y:Int)+d).toNat<hi∧(((y-top:Nat):Int)+d).toNat=((y:Int)+d).toNat-top):=by
 obtain ⟨h3,h4,h5,h6⟩:=hw
 have ht:top≤y:=by
  unfold shrL at h1
  split at h1<;>omega
 have hlo:lo=0∨lo+r≤y:=by
  unfold shrL at h1
  split at h1
  ·exact .inl ‹_›
  ·exact .inr h1
 have hhi:(hi=HB∧y<HB)∨y+r<hi:=by
  unfold shrH at h2
  split at h2
  ·exact .inl ⟨‹_›,h2⟩
  ·exact .inr (by omega)
 rcases hlo with hlo|hlo<;>rcases hhi with hhi|hhi
 ·have:=h6 hlo;omega
 ·have:=h6 hlo;omega
 ·omega
 ·omega
theorem zfUe {za zb:List Int} {la lb:List Pt} (hw:Win top HA HB lo hi) (ha:za.length=HA*W) (hb:zb.length=HB*W) (hz:AgZ W top lo hi za zb)
  (hm:∀(y:Nat) (x:Int),top≤y→y<top+HA→goodB la (x,((y-top:Nat):Int))=goodB lb (x,(y:Int))):AgZ W top (shrL lo 2) (shrH HB hi 2) (repL W HA za la) (repL W HB zb lb):=by
 refine AgZ.map (hw.shr 2) ha hb fun y x h1 h2 hx=>?_
 have hw2:=hw.shr 2
 have hty:top≤y:=kn hw2.low h1
 have hyt:y<top+HA:=km h2 hw2.high
 have h3:=hz y x (by unfold shrL at h1;split at h1<;>omega) (by have:=hw.high;have:=hw.all;unfold shrH at h2;split at h2<;>omega) hx
 have h4:=hm y x hty hyt
 simp only[repV,kq,jaJN hx,qk46 hx,h3,h4]
 refine congrArg (fun u=>if goodB lb ((x:Int),(y:Int))=true then zAt zb (y*W+x) else u) ?_
 have key:∀k:Fin 4,(0≤crY (y-top) k∧crY (y-top) k<HA↔0≤crY y k∧crY y k<HB)∧(0≤crY y k∧crY y k<HB→lo≤(crY y k).toNat∧(crY y k).toNat<hi∧(crY (y-top) k).toNat=(crY y k).toNat-top):=fun k =>
  XP3e (d:=crDy k.1) hw h1 h2 (by unfold crDy;(repeat' split)<;>omega) (by unfold crDy;(repeat' split)<;>omega)
 refine qGhb (fun k=>?_) (fun k hk hc=>?_)
 ·obtain ⟨k1,k2⟩:=key k
  have hh:hasB W HA (crX x k) (crY (y-top) k)=true↔hasB W HB (crX x k) (crY y k)=true:=by
   simp only[hasB,decide_eq_true_eq]
   constructor
   ·intro h;have:=k1.1 ⟨h.2.2.1,h.2.2.2⟩;exact ⟨h.1,h.2.1,this.1,this.2⟩
   ·intro h;have:=k1.2 ⟨h.2.2.1,h.2.2.2⟩;exact ⟨h.1,h.2.1,this.1,this.2⟩
  have hcc:hasB W HB (crX x k) (crY y k)=true→repC la x (y-top) k=repC lb x y k:=fun h=>by
   simp only[hasB,decide_eq_true_eq] at h
   have k3:=k2 ⟨h.2.2.1,h.2.2.2⟩
   have hA:=k1.2 ⟨h.2.2.1,h.2.2.2⟩
   have:=hm (crY y k).toNat (crX x k) (by have:=hw.low;omega) (by have:=hw.high;omega)
   rw[←k3.2.2,Int.toNat_of_nonneg hA.1,Int.toNat_of_nonneg h.2.2.1] at this
   exact this
  constructor
  ·intro h;have h1:=hh.1 h.1;exact ⟨h1,by rw[←hcc h1];exact h.2⟩
  ·intro h;exact ⟨hh.2 h.1,by rw[hcc h.1];exact h.2⟩
 ·simp only[hasB,decide_eq_true_eq] at hk
  have k3:=(key k).2 ⟨hk.2.2.1,hk.2.2.2⟩
  rw[k3.2.2]
  exact hz _ _ k3.1 k3.2.1 (by omega)
theorem j5JN {k:Nat} (h:k<8):nOf k / 3≤2:=by unfold nOf;split<;>omega
theorem qBfV {za zb:List Int} {pa pb:Int} (hw:Win top HA HB lo hi) (ha:za.length=HA*W) (hb:zb.length=HB*W) (hz:AgZ W top lo hi za zb)
  (hm:∀y x,top≤y→colV pa.toNat x (y-top)=colV pb.toNat x y):AgP W top (shrL lo 1) (shrH HB hi 1) (fillL W HA za pa) (fillL W HB zb pb):=by
 refine AgP.map (hw.shr 1) ha hb fun y x h1 h2 hx=>?_
 have hw2:=hw.shr 1
 have hty:top≤y:=kn hw2.low h1
 have h3:=hz y x (by unfold shrL at h1;split at h1<;>omega) (by have:=hw.high;have:=hw.all;unfold shrH at h2;split at h2<;>omega) hx
 have h4:=hm y x hty
 have key:∀k:Fin 8,(0≤parY (y-top) k∧parY (y-top) k<HA↔0≤parY y k∧parY y k<HB)∧(0≤parY y k∧parY y k<HB→lo≤(parY y k).toNat∧(parY y k).toNat<hi∧(parY (y-top) k).toNat=(parY y k).toNat-top):=fun k=>by
  have h:=XP3e (d:=-1+(nOf k.1 / 3:Nat)) hw h1 h2 (by omega) (by have:=j5JN k.2;omega)
  have e1:parY (y-top) k=((y-top:Nat):Int)+(-1+(nOf k.1 / 3:Nat)):=by unfold parY;omega
  have e2:parY y k=(y:Int)+(-1+(nOf k.1 / 3:Nat)):=by unfold parY;omega
  rw[e1,e2]
  exact h
 have part:∀c,partV za W HA pa.toNat x (y-top) c=partV zb W HB pb.toNat x y c:=fun c=>by
  unfold partV
  rw[h3,h4]
  refine congrArg (fun u=>if colV pb.toNat x y=c then zAt zb (y*W+x) else u) ?_
  refine qGhb (fun k=>?_) (fun k hk hc=>?_)
  ·obtain ⟨k1,k2⟩:=key k
   have hh:hasB W HA (parX x k) (parY (y-top) k)=true↔hasB W HB (parX x k) (parY y k)=true:=by
    simp only[hasB,decide_eq_true_eq]
    constructor
    ·intro h;have:=k1.1 ⟨h.2.2.1,h.2.2.2⟩;exact ⟨h.1,h.2.1,this.1,this.2⟩
    ·intro h;have:=k1.2 ⟨h.2.2.1,h.2.2.2⟩;exact ⟨h.1,h.2.1,this.1,this.2⟩
   have hcc:hasB W HB (parX x k) (parY y k)=true→parC pa.toNat x (y-top) c k=parC pb.toNat x y c k:=fun h=>by
    simp only[hasB,decide_eq_true_eq] at h
    have k3:=k2 ⟨h.2.2.1,h.2.2.2⟩
    have:=hm (parY y k).toNat (parX x k).toNat (by have:=hw.low;omega)
    unfold parC
    rw[k3.2.2,this]
   constructor
   ·intro h;have h1:=hh.1 h.1;exact ⟨h1,by rw[←hcc h1];exact h.2⟩
   ·intro h;exact ⟨hh.2 h.1,by rw[hcc h.1];exact h.2⟩
  ·simp only[hasB,decide_eq_true_eq] at hk
   have k3:=(key k).2 ⟨hk.2.2.1,hk.2.2.2⟩
   rw[k3.2.2]
   exact hz _ _ k3.1 k3.2.1 (by omega)
 simp only[fillP,kq,jaJN hx,qk46 hx,part]
theorem qaIG {pa pb:List Px} {f:Px→Px} (hw:Win top HA HB lo hi) (ha:pa.length=HA*W) (hb:pb.length=HB*W) (hz:AgP W top lo hi pa pb):AgP W top lo hi (pa.map f) (pb.map f):=by
 intro y x h1 h2 hx
 have:=hw.low;have:=hw.high;have:=hw.all
 rw[zXw2 _ (by rw[ha];exact ix_lt (by omega) hx),zXw2 _ (by rw[hb];exact ix_lt (by omega) hx),hz y x h1 h2 hx]
theorem z5s9 {W:Nat} {x:Int} (h:1≤W):(near W x).toNat<W:=by unfold near;(repeat' split)<;>omega
theorem qbos {pa pb:List Px} {amount:Int} (hw:Win top HA HB lo hi) (ha:pa.length=HA*W) (hb:pb.length=HB*W) (hz:AgP W top lo hi pa pb) :
  AgP W top (shrL lo 1) (shrH HB hi 1) (jz1R W HA pa amount) (jz1R W HB pb amount):=by
 refine AgP.map (hw.shr 1) ha hb fun y x h1 h2 hx=>?_
 have hw2:=hw.shr 1
 have hty:top≤y:=kn hw2.low h1
 have h3:=hz y x (by unfold shrL at h1;split at h1<;>omega) (by have:=hw.high;have:=hw.all;unfold shrH at h2;split at h2<;>omega) hx
 have key:∀k:Fin 8,pxAt pa (wIx W HA x (y-top) k.1)=pxAt pb (wIx W HB x y k.1):=fun k=>by
  unfold wIx
  have hk:=j5JN k.2
  generalize nOf k.1 / 3=q at hk
  have hx2:=z5s9 (x:=(x:Int)-1+(nOf k.1 % 3:Nat)) (show 1≤W by omega)
  generalize (near W ((x:Int)-1+(nOf k.1 % 3:Nat))).toNat=xx at hx2
  have hyB:∃yy:Nat,(near HB ((y:Int)-1+(q:Nat))).toNat=yy∧(near HA (((y-top:Nat):Int)-1+(q:Nat))).toNat=yy-top∧lo≤yy∧yy<hi:=by
   refine ⟨_,rfl,?_⟩
   obtain ⟨h5,h6,h7,h8⟩:=hw
   have hlo:(lo=0∧top=0)∨(lo+1≤y∧0<lo):=by
    unfold shrL at h1
    split at h1
    ·exact .inl ⟨‹_›,h8 ‹_›⟩
    ·exact .inr ⟨h1,by omega⟩
   have hhi:(hi=HB∧y<HB∧top+HA=HB)∨(y+1<hi∧hi<HB)∨(y+1<hi∧hi=HB):=by
    unfold shrH at h2
    split at h2
    ·exact .inl ⟨‹_›,h2,by omega⟩
    ·exact .inr (.inl ⟨by omega,by omega⟩)
   unfold near
   rcases hlo with hlo|hlo<;>rcases hhi with hhi|hhi|hhi<;>(repeat' split)<;>omega
  obtain ⟨yy,e1,e2,e3,e4⟩:=hyB
  rw[e1,e2]
  exact hz yy xx e3 e4 hx2
 have hF:wF pa W HA x (y-top) (List.finRange 8)=wF pb W HB x y (List.finRange 8):=by
  unfold wF
  rw[h3]
  refine congrArg (fun g=>(List.finRange 8).foldl g (addP (0,0,0) 4 (pxAt pb (y*W+x)))) ?_
  funext s k
  rw[key k]
 simp only[zesK,kq,jaJN hx,qk46 hx,hF,h3]
end
structure Seen (top HA:Nat) (na nb:Plan):Prop where
 black:∀y x,top≤y→na.black ((y-top) % 2*2+x % 2)=nb.black (y % 2*2+x % 2)
 phase:∀y x,top≤y→colV na.phase.toNat x (y-top)=colV nb.phase.toNat x y
 spots:∀(y:Nat) (x:Int),top≤y→y<top+HA→goodB na.spots (x,((y-top:Nat):Int))=goodB nb.spots (x,(y:Int))
 white:na.white=nb.white
 gains:na.gains=nb.gains
 matrix:na.matrix=nb.matrix
 curve:na.curve=nb.curve
 amount:na.amount=nb.amount
theorem zry9 (ls:List Pt) (top rows y:Nat) (x:Int) (h1:top≤y) (h2:y<top+rows):goodB (qj7y ls top rows) (x,((y-top:Nat):Int))=goodB ls (x,(y:Int)):=by
 have hiff:(x,((y-top:Nat):Int))∈qj7y ls top rows↔(x,(y:Int))∈ls:=by
  unfold qj7y
  rw[List.mem_map]
  constructor
  ·rintro ⟨s,hs,he⟩
   obtain ⟨hm,hr⟩:=List.mem_filter.1 hs
   obtain ⟨s1,s2⟩:=s
   simp only[Prod.mk.injEq,zLwc,decide_eq_true_eq] at he hr
   have e:s2=(y:Int):=by omega
   rw[←he.1,←e]
   exact hm
  ·intro h
   refine ⟨(x,(y:Int)),List.mem_filter.2 ⟨h,?_⟩,?_⟩
   ·simp only[zLwc,decide_eq_true_eq];omega
   ·simp only[Prod.mk.injEq,true_and];omega
 unfold goodB
 rw[decide_eq_decide,List.count_eq_zero,List.count_eq_zero,hiff]
theorem XQqq (p:Int) (hp:qdne p=true) (top x y:Nat) (h1:top≤y):colV (if top % 2=1 then zVsj p else p).toNat x (y-top)=colV p.toNat x y:=by
 have h2:0≤p∧p≤3:=by simpa [qdne] using hp
 have hB:colB (if top % 2=1 then zVsj p else p).toNat x (y-top)=colB p.toNat x y:=by
  unfold colB
  refine Prod.ext ?_ ?_<;>refine decide_eq_decide.2 ?_<;>unfold zVsj<;>split<;>(try split)<;>omega
 unfold colV
 rw[hB]
theorem XYnJ (n:Plan) (hp:qdne n.phase=true) (top HA:Nat):Seen top HA (XzXJ n top HA) n:=by
 refine ⟨fun y x h=>?_,fun y x h=>XQqq _ hp _ _ _ h,fun y x h1 h2=>zry9 _ _ _ _ _ h1 h2,rfl,rfl,rfl,rfl,rfl⟩
 show (if top % 2=1 then j9wH n.black else n.black) _=_
 split
 ·unfold j9wH
  exact congrArg n.black (by omega)
 ·exact congrArg n.black (by omega)
theorem X574 {na nb:Plan} {W top HA HB lo hi:Nat} {za zb:List Int} (hn:Seen top HA na nb) (hw:Win top HA HB lo hi) (ha:za.length=HA*W) (hb:zb.length=HB*W) (hz:AgZ W top lo hi za zb) :
  AgP W top (shrL lo 4) (shrH HB hi 4) (dev7 na W HA za) (dev7 nb W HB zb):=by
 have g1:AgZ W top lo hi (dev1 na W za) (dev1 nb W zb):=by
  unfold dev1;rw[hn.white];exact Xv7E hw ha hb hz hn.black
 have g2:AgZ W top (shrL lo 2) (shrH HB hi 2) (dev2 na W HA za) (dev2 nb W HB zb) :=
  zfUe hw (by rw[j8g5,ha]) (by rw[j8g5,hb]) g1 hn.spots
 have g3:AgZ W top (shrL lo 2) (shrH HB hi 2) (dev3 na W HA za) (dev3 nb W HB zb):=by
  unfold dev3;rw[hn.gains];exact XloF (hw.shr 2) (by rw[zAmR,ha]) (by rw[zAmR,hb]) g2 hn.phase
 have g4:=qBfV (hw.shr 2) (by rw[qvem,ha]) (by rw[qvem,hb]) g3 hn.phase
 have g5:AgP W top (shrL (shrL lo 2) 1) (shrH HB (shrH HB hi 2) 1) (dev5 na W HA za) (dev5 nb W HB zb):=by
  unfold dev5;rw[hn.matrix];exact qaIG ((hw.shr 2).shr 1) (by rw[jByB,ha]) (by rw[jByB,hb]) g4
 have g6:AgP W top (shrL (shrL lo 2) 1) (shrH HB (shrH HB hi 2) 1) (dev6 na W HA za) (dev6 nb W HB zb):=by
  unfold dev6;rw[hn.curve];exact qaIG ((hw.shr 2).shr 1) (by rw[XEJ7,ha]) (by rw[XEJ7,hb]) g5
 have g7:AgP W top (shrL (shrL (shrL lo 2) 1) 1) (shrH HB (shrH HB (shrH HB hi 2) 1) 1) (dev7 na W HA za) (dev7 nb W HB zb):=by
  unfold dev7;rw[hn.amount];exact qbos ((hw.shr 2).shr 1) (by rw[qyIC,ha]) (by rw[qyIC,hb]) g6
 intro y x h1 h2 hx
 refine g7 y x ?_ ?_ hx
 ·unfold shrL at h1 ⊢
  split at h1<;>(repeat' split)<;>omega
 ·unfold shrH at h2 ⊢
  split at h2<;>(repeat' split)<;>omega
theorem zwNz {W top fm m:Nat} {pa pb:List Px} (ht:top≤fm) (ha:(fm-top+m)*W≤pa.length) (hb:(fm+m)*W≤pb.length) (h:AgP W top fm (fm+m) pa pb):rowsL pa W (fm-top) m=rowsL pb W fm m:=by
 have l1:(rowsL pa W (fm-top) m).length=m*W:=by
  unfold rowsL;rw[List.length_take,List.length_drop];rw[Nat.add_mul] at ha;omega
 have l2:(rowsL pb W fm m).length=m*W:=by
  unfold rowsL;rw[List.length_take,List.length_drop];rw[Nat.add_mul] at hb;omega
 refine List.ext_getElem? fun j=>?_
 by_cases j1:j<m*W
 ·have hW:0<W:=by
   rcases Nat.eq_zero_or_pos W with h0|h0
   ·rw[h0] at j1;omega
   ·exact h0
  obtain ⟨q,r,hq,hr,hj⟩:∃q r,q<m∧r<W∧j=q*W+r :=
   ⟨j / W,j % W,Nat.div_lt_of_lt_mul (by rw[ks];exact j1),Nat.mod_lt _ hW,by rw[ks];exact (Nat.div_add_mod j W).symm⟩
  have h3:=h (fm+q) r (by omega) (by omega) hr
  have i1:(fm+q-top)*W+r=(fm-top)*W+j:=by
   rw[show fm+q-top=(fm-top)+q by omega,Nat.add_mul,Nat.add_assoc,←hj]
  have i2:(fm+q)*W+r=fm*W+j:=by rw[Nat.add_mul,Nat.add_assoc,←hj]
  rw[i1,i2] at h3
  rw[Nat.add_mul] at ha hb
  unfold pxAt at h3
  rw[kp,kp,kj (by omega),kj (by omega)] at h3
  simp only[Option.getD_some] at h3
  unfold rowsL
  rw[List.getElem?_take_of_lt j1,List.getElem?_take_of_lt j1,List.getElem?_drop,List.getElem?_drop,kj (by omega),kj (by omega),h3]
 ·rw[List.getElem?_eq_none (by rw[l1];omega),List.getElem?_eq_none (by rw[l2];omega)]
theorem qdr1 {n:Plan} {W top H HB fm tm:Nat} {za zb:List Int} (hp:qdne n.phase=true) (ha:za.length=H*W) (hb:zb.length=HB*W) (h1:top+H≤HB) (hft:fm<tm) (hto:tm≤HB) (hlo:top=0∨top+4≤fm) (hhi:top+H=HB∨tm+4≤top+H)
  (hz:AgZ W top top (top+H) za zb):rowsL (dev7 (XzXJ n top H) W H za) W (fm-top) (tm-fm)=rowsL (dev7 n W HB zb) W fm (tm-fm):=by
 have hw:Win top H HB top (top+H):=⟨ki _,ki _,h1,id⟩
 have g:=X574 (XYnJ n hp top H) hw ha hb hz
 refine zwNz (by omega) ?_ ?_ ?_
 ·rw[zrLo,ha];exact kr _ (by omega)
 ·rw[zrLo,hb];exact kr _ (by omega)
 ·intro y x y1 y2 hx
  refine g y x ?_ ?_ hx
  ·unfold shrL;split<;>omega
  ·unfold shrH;split<;>omega
theorem XPv5 (zs:List Int) (W top H HB:Nat) (hl:zs.length=HB*W) (h:top+H≤HB):AgZ W top top (top+H) (rowsL zs W top H) zs:=by
 intro y x h1 h2 hx
 have i1:=ix_lt (show y-top<H by omega) hx
 have i2:=ix_lt (show y<HB by omega) hx
 unfold zAt rowsL
 rw[kp,kp,List.getElem?_take_of_lt i1,List.getElem?_drop]
 have e:top*W+((y-top)*W+x)=y*W+x:=by
  rw[←Nat.add_assoc,←Nat.add_mul,show top+(y-top)=y by omega]
 rw[e]
theorem XFJK {α:Type} (L:List α) (W f t H:Nat) (h1:f≤t) (h2:t≤H):rowsL L W f (t-f)++rowsL L W t (H-t)=rowsL L W f (H-f):=by
 unfold rowsL
 have e1:t*W=f*W+(t-f)*W:=by rw[←Nat.add_mul,show f+(t-f)=t by omega]
 have e2:(H-f)*W=(t-f)*W+(H-t)*W:=by rw[←Nat.add_mul,show t-f+(H-t)=H-f by omega]
 rw[e1,e2,List.take_add,List.drop_drop]
theorem XSdW {α:Type} {L:List α} {W H:Nat} (h:L.length=H*W):rowsL L W 0 (H-0)=L:=by
 unfold rowsL
 rw[Nat.zero_mul,List.drop_zero,Nat.sub_zero,←h,List.take_length]
theorem qHXF {n:Plan} {W H:Nat} {zs:List Int} {rows f:Nat} (hE:fitsE n W H zs H=0) (hr:1≤rows) (hf:f<H) :
  jqst n W H zs rows f=rowsL (dev7 n W H zs) W f (qW9x H rows f-f):=by
 obtain ⟨h1,h2,h3⟩:=jsZS hE
 obtain ⟨hW,hH,hl,_⟩:=qwcI h2
 have hlz:zs.length=H*W:=by rw[ks];exact_mod_cast hl
 have hgt:=qQb2 (H:=H) hr hf
 have hle:=jWB6 (rows:=rows) hf
 unfold jqst partL
 generalize qW9x H rows f=t at *
 have hA:needA f≤f:=by unfold needA;omega
 have hB1:t≤needB t H:=by unfold needB;omega
 have hB2:needB t H≤H:=by unfold needB;omega
 have hA2:needA f=0∨needA f+4≤f:=by unfold needA;omega
 have hB3:needB t H=H∨t+4≤needB t H:=by unfold needB;omega
 generalize needA f=A at *
 generalize needB t H=B at *
 have e1:((A:Int)).toNat=A:=kq A
 have e2:(((B-A:Nat):Int)).toNat=B-A:=kq _
 have e3:((W:Int)).toNat=W:=kq W
 have e4:((f:Int)-(A:Int)).toNat=f-A:=by omega
 have e5:((t:Int)-(f:Int)).toNat=t-f:=by omega
 rw[e1,e2,e3,e4,e5]
 refine qdr1 (qwVl h1).1 ?_ hlz (by omega) hgt hle hA2 (by omega) (XPv5 zs W A (B-A) H hlz (by omega))
 refine zdIr zs W _ _ ?_
 rw[hlz];exact kr _ (by omega)
theorem zvWh {n:Plan} {W H:Nat} {zs:List Int} {rows:Nat} (hE:fitsE n W H zs H=0) (hr:1≤rows):∀fuel f,f≤H→H-f≤fuel→ji0X n W H zs rows fuel f=rowsL (dev7 n W H zs) W f (H-f):=by
 intro fuel
 induction fuel with
 | zero =>
  intro f h1 h2
  rw[show H-f=0 by omega]
  simp[ji0X,rowsL]
 | succ k ih =>
  intro f h1 h2
  rw[ji0X]
  by_cases hf:f<H
  ·have hgt:=qQb2 (H:=H) hr hf
   have hle:=jWB6 (rows:=rows) hf
   rw[if_pos hf,qHXF hE hr hf,ih _ hle (by omega),XFJK _ _ _ _ _ (by omega) hle]
  ·rw[if_neg hf,show H-f=0 by omega]
   simp[rowsL]
theorem zVy2 {n:Plan} {W H:Int} {zs:List Int} {rows:Int} (hE:fitsE n W H zs H=0) (hr:1≤rows):X1qP n W H zs rows=dev7 n W H zs:=by
 obtain ⟨h1,h2,h3⟩:=jsZS hE
 obtain ⟨hW,hH,hl,_⟩:=qwcI h2
 obtain ⟨WN,rfl⟩:=kk (show 0≤W by omega)
 obtain ⟨HN,rfl⟩:=kk (show 0≤H by omega)
 have hlz:zs.length=HN*WN:=by rw[ks];exact_mod_cast hl
 unfold X1qP
 rw[kq,kq,zvWh hE (by omega) HN 0 (Nat.zero_le _) (by omega)]
 exact XSdW (by rw[zrLo,hlz])
end Go.Proofs.YtfjeonehdlphiaaGreatDoor
namespace Go.Proofs.YtfjeonehdlphiaaGreatDoor
open Go.RowKit
theorem qr9T {W H:Int} {zs:List Int} (h:q0fM W H zs=true):∃WN HN:Nat,W=WN∧H=HN∧1≤WN∧WN≤64∧1≤HN∧HN≤64∧zs.length=HN*WN:=by
 obtain ⟨hW,hH,hl,_⟩:=qwcI h
 obtain ⟨WN,rfl⟩:=kk (show 0≤W by omega)
 obtain ⟨HN,rfl⟩:=kk (show 0≤H by omega)
 exact ⟨WN,HN,rfl,rfl,by omega,by omega,by omega,by omega,by rw[ks];exact_mod_cast hl⟩
theorem X7vy {W H:Int} {zs:List Px} (h:picOk W H zs=true):∃WN HN:Nat,W=WN∧H=HN∧1≤WN∧WN≤64∧1≤HN∧HN≤64∧zs.length=HN*WN:=by
 obtain ⟨hW,hH,hl,_⟩:=XMjn h
 obtain ⟨WN,rfl⟩:=kk (show 0≤W by omega)
 obtain ⟨HN,rfl⟩:=kk (show 0≤H by omega)
 exact ⟨WN,HN,rfl,rfl,by omega,by omega,by omega,by omega,by rw[ks];exact_mod_cast hl⟩
theorem qvHk {W H:Int} {zs:List Px} (h:picOk W H zs=true):zs.length≤4096:=by
 obtain ⟨WN,HN,_,_,_,h2,_,h4,hl⟩:=X7vy h
 rw[hl]
 exact Nat.mul_le_mul h4 h2
theorem XI3z {p:Int} (h:qdne p=true):∃P:Nat,p=P∧P≤3:=by
 have h2:=of_decide_eq_true h
 obtain ⟨P,rfl⟩:=kk h2.1
 exact ⟨P,rfl,by omega⟩
section
variable {n:Plan} {W H:Int} {zs:List Int} (hd:DevOk n W H zs) (u:World) (v:Value)
include hd
theorem ref1 (hv:jCvT u v zs):Calls Tryz.prog 85 #[.agg #[.int .i64 W,.int .i64 H,v],.agg (fourA n.black),.int .i64 n.white] u fun e w'=>∃r,e=.returned (.agg #[.int .i64 W,.int .i64 H,r])∧jCvT w' r (dev1 n W zs)∧Below u.heap.size u w'∧Fresh u.heap.size r:=by
 obtain ⟨WN,HN,rfl,rfl,h1,h2,h3,h4,hl⟩:=qr9T hd.plane
 have hlv:=hd.levels
 rw[zN6Q,kt,decide_eq_true_eq] at hlv
 exact XqgP WN HN h1 h2 h4 v zs n.black n.white hlv.1.2 (fun k hk=>XL98 hlv.2 k hk) hl (XAOl hd.plane) u hv
theorem ref2 (hv:jCvT u v (dev1 n W zs)) (lv:Value) (hlv:IsPts u lv n.spots):Calls Tryz.prog 84 #[.agg #[.int .i64 W,.int .i64 H,v],lv] u fun e w'=>∃r,e=.returned (.agg #[.int .i64 W,.int .i64 H,r])∧jCvT w' r (dev2 n W H zs)∧Below u.heap.size u w'∧Fresh u.heap.size r:=by
 obtain ⟨WN,HN,rfl,rfl,h1,h2,h3,h4,hl⟩:=qr9T hd.p1
 exact jPJU WN HN h1 h2 h3 h4 v _ lv n.spots hl (XAOl hd.p1) u hv hlv
theorem ref3 (hv:jCvT u v (dev2 n W H zs)):Calls Tryz.prog 83 #[.agg #[.int .i64 W,.int .i64 H,v],.int .i64 n.phase,.agg (qilW n.gains)] u fun e w'=>∃r,e=.returned (.agg #[.int .i64 W,.int .i64 H,r])∧jCvT w' r (dev3 n W H zs)∧Below u.heap.size u w'∧Fresh u.heap.size r:=by
 obtain ⟨WN,HN,rfl,rfl,h1,h2,h3,h4,hl⟩:=qr9T hd.p2
 obtain ⟨P,hP,hP3⟩:=XI3z hd.phase
 have h:=z3TH WN HN P h1 h2 h4 hP3 v _ n.gains (fun k hk=>XL98 hd.gains k hk) hl (XAOl hd.p2) u hv
 rw[←hP,show P=n.phase.toNat by rw[hP,kq]] at h
 exact h
theorem ref4 (hv:jCvT u v (dev3 n W H zs)):Calls Tryz.prog 89 #[.agg #[.int .i64 W,.int .i64 H,v],.int .i64 n.phase] u fun e w'=>∃r,e=.returned (.agg #[.int .i64 W,.int .i64 H,r])∧IsPix w' r (dev4 n W H zs)∧Below u.heap.size u w'∧Fresh u.heap.size r:=by
 obtain ⟨WN,HN,rfl,rfl,h1,h2,h3,h4,hl⟩:=qr9T hd.p3
 obtain ⟨P,hP,hP3⟩:=XI3z hd.phase
 have h:=jVj6 WN HN P h1 h2 h3 h4 hP3 v _ hl (XAOl hd.p3) u hv
 rw[←hP,show P=n.phase.toNat by rw[hP,kq]] at h
 exact h
theorem ref5 (hv:IsPix u v (dev4 n W H zs)):Calls Tryz.prog 88 #[.agg #[.int .i64 W,.int .i64 H,v],.agg (nine n.matrix)] u fun e w'=>∃r,e=.returned (.agg #[.int .i64 W,.int .i64 H,r])∧IsPix w' r (dev5 n W H zs)∧Below u.heap.size u w'∧Fresh u.heap.size r :=
 XBkg W H v _ n.matrix hd.matrix (XMjn hd.p4).2.2.2 (qvHk hd.p4) u hv
theorem ref6 (hv:IsPix u v (dev5 n W H zs)) (lv:Value) (hlv:IsPts u lv n.curve):Calls Tryz.prog 87 #[.agg #[.int .i64 W,.int .i64 H,v],lv] u fun e w'=>∃r,e=.returned (.agg #[.int .i64 W,.int .i64 H,r])∧IsPix w' r (dev6 n W H zs)∧Below u.heap.size u w'∧Fresh u.heap.size r :=
 zSSB W H v _ lv n.curve (zqz3 hd.curve) (XMjn hd.p5).2.2.2 (qvHk hd.p5) u hv hlv
theorem ref7 (hv:IsPix u v (dev6 n W H zs)):Calls Tryz.prog 86 #[.agg #[.int .i64 W,.int .i64 H,v],.int .i64 n.amount] u fun e w'=>∃r,e=.returned (.agg #[.int .i64 W,.int .i64 H,r])∧IsPix w' r (dev7 n W H zs)∧Below u.heap.size u w'∧Fresh u.heap.size r:=by
 obtain ⟨WN,HN,rfl,rfl,h1,h2,h3,h4,hl⟩:=X7vy hd.p6
 have ha:=of_decide_eq_true hd.amount
 exact zZAQ WN HN h1 h2 h3 h4 v _ n.amount ha.1 ha.2 hl (XMjn hd.p6).2.2.2 u hv
end
end Go.Proofs.YtfjeonehdlphiaaGreatDoor
