/- Re: part 29 of what the proofs need. -/
import Derived.Test.YtfjeonehdlphiaaGreatDoorC3Re
import Derived.Test.YtfjeonehdlphiaaGreatDoorC28Re
open Go.Obj renaming cells → ka
open List renaming setIfInBounds_toArray → kb, set_cons_zero → kd, set_cons_succ → ke
open Array renaming getElem?_eq_some_iff → kc
open Go.Lib renaming frozen_of_heap → kf
open Go.Act renaming put → kg
open Nat renaming le_refl → kh, le_trans → kk, zero_le → kl, mul_le_mul_right → km, succ_mul → kn
open Int renaming eq_ofNat_of_zero_le → ki
open Go.IntWalk renaming i64_in → kj
set_option linter.unusedVariables false
set_option maxHeartbeats 16000000
set_option maxRecDepth 100000
namespace Go.Proofs.YtfjeonehdlphiaaGreatDoor
open Go.RowKit
def cOf (t:Nat):Nat:=(if 2<t then 1 else 0)+(if 10<t then 1 else 0)+(if 14<t then 1 else 0)+(if 22<t then 1 else 0)
theorem q1Yk (t:Nat) (h:t≠2∧t≠10∧t≠14∧t≠22):cOf (t+1)=cOf t:=by
 unfold cOf;split<;>split<;>split<;>split<;>split<;>split<;>split<;>split<;>omega
theorem jiVq (t:Nat):cOf t≤4:=by unfold cOf;split<;>split<;>split<;>split<;>omega
def rpS (zs:List Int) (W H:Nat) (ls:List Pt) (X Y c:Nat):Int×Nat:=mF zs W H (crX X) (crY Y) (repC ls X Y) (idx 4 c)
theorem qd7r (zs:List Int) (W H:Nat) (ls:List Pt) (X Y c:Nat) (hc:c<4) (ua vb:Int) (hu:ua=(X:Int)+crDx c) (hv:vb=(Y:Int)+crDy c) :
  rpS zs W H ls X Y (c+1)=if hasB W H ua vb=true∧goodB ls (ua,vb)=true then ((rpS zs W H ls X Y c).1+zAt zs (vb.toNat*W+ua.toNat),(rpS zs W H ls X Y c).2+1) else rpS zs W H ls X Y c:=by
 subst hu hv
 unfold rpS
 rw[zbJt 4 c hc,zkIF]
 rfl
theorem XlpZ {zs:List Int} (h:allIn 0 65535 zs=true) (W H:Nat) (ls:List Pt) (X Y c:Nat) (hc:c≤4):0≤(rpS zs W H ls X Y c).1∧(rpS zs W H ls X Y c).1≤(rpS zs W H ls X Y c).2*65535∧(rpS zs W H ls X Y c).2≤4:=by
 have:=zVKI h W H (crX X) (crY Y) (repC ls X Y) (idx 4 c) (0,0) 0 (Int.le_refl _) (by decide) (kh _)
 rw[zBZc 4 c hc] at this
 exact ⟨this.1,this.2.1,by have:=this.2.2;unfold rpS mF;omega⟩
theorem j2l3 {zs:List Int} (hz:allIn 0 65535 zs=true) (W H:Nat) (ls:List Pt) (X Y:Nat) (mm:Int) (hm:mm=max ((rpS zs W H ls X Y 4).2:Int) 1):meanV zs W H (crX X) (crY Y) (repC ls X Y)=(rpS zs W H ls X Y 4).1.tdiv mm:=by
 have hr:=XlpZ hz W H ls X Y 4 (kh _)
 have he:rpS zs W H ls X Y 4=mF zs W H (crX X) (crY Y) (repC ls X Y) (List.finRange 4):=by unfold rpS;rw[←jEoj]
 unfold meanV
 rw[←he,Int.tdiv_eq_ediv_of_nonneg hr.1]
 split
 ·rename_i h
  have:(rpS zs W H ls X Y 4).1=0:=by rw[h] at hr;omega
  rw[this];simp
 ·rw[hm,Int.max_eq_left (by omega)]
def RpJ (w:World) (W H:Nat) (qv:Value) (L:List Int) (k:Nat) (wr:World):Prop :=
 ∃so scap,wr.heap[w.heap.size+2]?=some (.cells #[.int .i64 W,.int .i64 H,.slice so k scap] 54 (0,0))∧wr.ownsRow w.heap.size 3 1 (.slice so k scap) k ((L.take k).map (Value.int .i64))∧wr.heap[w.heap.size]?=some (.cells #[.int .i64 W,.int .i64 H,qv] 54 (0,0))∧wr.heap[w.heap.size+1]?=some (.cells #[.int .i64 0,.int .i64 0,.slice none 0 0] 54 (0,0))∧Below w.heap.size w wr
theorem RpJ.below {w:World} {W H:Nat} {qv:Value} {L:List Int} {k:Nat} {wr wv:World} (h:RpJ w W H qv L k wr) (hb:Below wr.heap.size wr wv):RpJ w W H qv L k wv:=by
 obtain ⟨so,scap,j1,j2,j3,j4,j5⟩:=h
 exact ⟨so,scap,(hb.block _ (kc.1 j1).1).trans j1,qw14 j2 hb,(hb.block _ (kc.1 j3).1).trans j3,(hb.block _ (kc.1 j4).1).trans j4,j5.trans (hb.mono j5.size)⟩
theorem jPJU (W H:Nat) (hW1:1≤W) (hW:W≤64) (hH1:1≤H) (hH:H≤64) (v:Value) (zs:List Int) (lv:Value) (ls:List Pt) (hlen:zs.length=H*W) (hzs:allIn 0 65535 zs=true) (w:World) (hv:jCvT w v zs) (hlv:IsPts w lv ls) :
  Calls Tryz.prog 84 #[.agg #[.int .i64 W,.int .i64 H,v],lv] w fun e w'=>∃r,e=.returned (.agg #[.int .i64 W,.int .i64 H,r])∧jCvT w' r ((List.range zs.length).map (repV zs W H ls))∧Below w.heap.size w w'∧Fresh w.heap.size r:=by
 have HZS:=hide hzs
 have HV:=hide hv
 have HLV:=hide hlv
 have HLEN:=hide hlen
 have hlb:zs.length≤4096:=by rw[hlen];exact kk (Nat.mul_le_mul hH hW) (by decide)
 have hLL:((List.range zs.length).map (repV zs W H ls)).length=zs.length:=by simp
 have HLG:=hide (show ∀j,j<zs.length→((List.range zs.length).map (repV zs W H ls))[j]?=some (repV zs W H ls j) from fun j hj=>by simp[hj])
 obtain ⟨L,hL⟩:∃L,(List.range zs.length).map (repV zs W H ls)=L:=⟨_,rfl⟩
 rw[hL] at hLL HLG ⊢
 have HLL:=hide hLL
 clear hL hLL hzs hlen
 obtain ⟨ao,ca,rfl,hla,hc⟩:=hv
 obtain ⟨lo,lc,rfl,hll,hlc⟩:=hlv
 clear hc hlc
 obtain ⟨i0,hi,hz0,hz1,hz2⟩:=info_parts Tryz.infoInt
 go_enter Tryz.func84,Tryz.ntmps84
 go_wp2_with fail
 obtain ⟨a1,a2,a3⟩:=al3 w (ka #[.int .i64 W,.int .i64 H,.slice ao zs.length ca] 54) (ka #[.int .i64 0,.int .i64 0,.slice none 0 0] 54) (ka #[.int .i64 W,.int .i64 H,.slice none 0 0] 54)
 have hB:=be3 w (ka #[.int .i64 W,.int .i64 H,.slice ao zs.length ca] 54) (ka #[.int .i64 0,.int .i64 0,.slice none 0 0] 54) (ka #[.int .i64 W,.int .i64 H,.slice none 0 0] 54)
 generalize ((w.alloc (ka #[.int .i64 W,.int .i64 H,.slice ao zs.length ca] 54)).alloc (ka #[.int .i64 0,.int .i64 0,.slice none 0 0] 54)).alloc (ka #[.int .i64 W,.int .i64 H,.slice none 0 0] 54)=U at *
 go_loopw [6] (fun i wr=>∃Y:Nat,Y≤H∧i=.int .i64 Y∧RpJ w W H (.slice ao zs.length ca) L (Y*W) wr) (fun i _=>H-(intOf i).toNat)
 case atStart=>exact ⟨0,kl _,rfl,none,0,by rw[Nat.zero_mul];exact a3,by rw[Nat.zero_mul];exact World.ownsRow_nil _ _ _ _,a1,a2,hB⟩
 case round =>
  clear a1 a2 a3 hB
  obtain ⟨Y,hY,rfl,hJ⟩:=hrel
  have HJ:=hide hJ
  obtain ⟨so,scap,j1,j2,j3,j4,j5⟩:=hJ
  obtain ⟨q0,q1,q2⟩:=z5EY j3
  by_cases hlt:Y<H
  ·have hd:decide ((Y:Int)<(H:Int))=true:=by simp;omega
   obtain ⟨M,hM⟩:∃M,M=Y*W:=⟨_,rfl⟩
   rw[←hM] at HJ j1 j2
   have hMM:M+W≤zs.length:=by rw[HLEN.out,hM,←kn];exact km _ hlt
   have HM:=hide hM
   clear hM
   go_wp2_with fail
   go_loopw [7] (fun i wr=>∃X:Nat,X≤W∧i=.int .i64 X∧RpJ w W H (.slice ao zs.length ca) L (M+X) wr) (fun i _=>W-(intOf i).toNat)
   case atStart=>exact ⟨0,kl _,rfl,HJ.out⟩
   case round =>
    clear j1 j2 j3 j4 j5 q0 q1 q2 HJ hd
    obtain ⟨X,hX,rfl,hJ⟩:=hrel
    by_cases hlx:X<W
    ·have hdx:decide ((X:Int)<(W:Int))=true:=by simp;omega
     have hk:M+X<zs.length:=by omega
     obtain ⟨k,hkk⟩:∃k,M+X=k:=⟨_,rfl⟩
     rw[hkk] at hJ hk
     have HJ0:=hide hJ
     have HK:=hide hkk
     have hkY:Y*W+X=k:=by rw[←HM.out];exact hkk
     obtain ⟨hpm,hpd⟩:(Y*W+X) % W=X∧(Y*W+X) / W=Y:=X4G3 hlx
     rw[hkY] at hpm hpd
     have HT:=hide (show repV zs W H ls k=if goodB ls ((k % W:Nat),(k / W:Nat))=true then zAt zs k else meanV zs W H (crX (k % W)) (crY (k / W)) (repC ls (k % W) (k / W)) from rfl)
     rw[hpm,hpd] at HT
     have HYK:=hide hkY
     clear hkk hpm hpd hkY
     generalize wr=R at *
     obtain ⟨so,scap,j1,j2,j3,j4,j5⟩:=hJ
     have HBR:=hide j5
     have HISP:=hide (fun (x y:Int) (u:World) (hu:Below R.heap.size R u)=>qg8E (.slice lo ls.length lc) ls x y u (HLV.out.below (HBR.out.trans (hu.mono HBR.out.size)) (kh _)))
     obtain ⟨q0,q1,q2⟩:=z5EY j3
     have HST1:=hide (show ∀y,repV zs W H ls k=y→(L.take (k+1)).map (Value.int .i64)=(L.take k).map (Value.int .i64)++[.int .i64 y] from fun y hy=>by
      have hk2:k<L.length:=by rw[HLL.out];exact hk
      have hg:=HLG.out k hk
      rw[List.getElem?_eq_getElem hk2] at hg
      rw[List.take_succ_eq_append_getElem hk2,Option.some.inj hg,List.map_append,hy];rfl)
     have HL1:=hide (show k+1≤maxLen by unfold maxLen;omega)
     have HL2:=hide (show (k+1)*8≤140737488355328 by omega)
     go_wp2_with fail
     refine (HISP.out _ _ _ (Below.refl _ _)).mono ?_
     rintro e wq ⟨rfl,rfl⟩
     by_cases hg:goodB ls ((X:Nat),(Y:Nat))=true
     ·rw[hg]
      rw[if_pos hg] at HT
      have HAT:=hide (fun (u:World) (hu:Below R.heap.size R u)=>jMil W H (.slice ao zs.length ca) zs X Y X Y W k u (HV.out.below (HBR.out.trans (hu.mono HBR.out.size)) (kh _)) rfl rfl rfl HYK.out hk hlb)
      rw[show zs.getD k 0=zAt zs k from rfl] at HAT
      obtain ⟨y,hy⟩:∃y,zAt zs k=y:=⟨_,rfl⟩
      rw[hy] at HT HAT
      have HST:=hide (HST1.out y HT.out)
      obtain ⟨XS,hXS⟩:∃XS,(L.take k).map (Value.int .i64)=XS:=⟨_,rfl⟩
      rw[hXS] at j2 HST
      have hbW:=j5.size
      clear hy hXS HJ0 HST1 HT
      have HS:=hide (show ∀v,Below R.heap.size R v→v.cell? ⟨w.heap.size+1+1,2,none⟩=some (.slice so k scap)∧v.cell? ⟨w.heap.size,0,none⟩=some (.int .i64 W)∧v.cell? ⟨w.heap.size,1,none⟩=some (.int .i64 H)∧v.cell? ⟨w.heap.size,2,none⟩=some (.slice ao zs.length ca) from fun v h=>by
       obtain ⟨_,_,t2⟩:=z5EY ((h.block (w.heap.size+2) (kc.1 j1).1).trans j1)
       exact ⟨t2,z5EY ((h.block _ (kc.1 j3).1).trans j3)⟩)
      have nq:=qYYy j2 j3 (by decide)
      have HTL:=hide (show ∀(V1:World) (gg cap:Nat) (w3:World),Below R.heap.size R V1→V1.grownBy w3 (Value.slice so k scap).ownBlock→w3.ownsRow w.heap.size 3 1 (.slice (some ⟨gg,0,none⟩) (k+1) cap) (k+1) (XS++[.int .i64 y])→(w3.cell? ⟨w.heap.size+1+1,2,none⟩=some (.slice so k scap)∧w3.cell? ⟨w.heap.size,0,none⟩=some (.int .i64 W)∧w3.cell? ⟨w.heap.size,1,none⟩=some (.int .i64 H)∧w3.cell? ⟨w.heap.size,2,none⟩=some (.slice ao zs.length ca))∧w3.frozen? ⟨w.heap.size+1+1,2,none⟩=false∧RpJ w W H (.slice ao zs.length ca) L (k+1) (w3.setCell ⟨w.heap.size+1+1,2,none⟩ (.slice (some ⟨gg,0,none⟩) (k+1) cap)) from fun V1 gg cap w3 h1 h2 h3=>by
       obtain ⟨t1,t2,t3,t4,t5,t6,t7⟩:=j7Ww (by decide) j1 j2 j5 (kh _) (by omega) h1 h2 h3
       exact ⟨⟨t2,z5EY ((t1 _ (kc.1 j3).1 nq).trans j3)⟩,t3,some ⟨gg,0,none⟩,cap,t4,by rw[HST.out];exact t5,(t7 _ (kc.1 j3).1 nq (by omega)).trans j3,(t7 _ (kc.1 j4).1 (qYYy j2 j4 (by decide)) (by omega)).trans j4,t6⟩)
      have hWd:Below R.heap.size R R.drew:=(Below.refl _ _).drew
      go_wp2_with fail
      have hSd:=HS.out _ hWd
      clear q0 q1 q2 j1 j3 j4
      have hmx:Tryz.prog.follows .mixedOrders=true:=by kernel_rfl
      refine qYgd (S:=fun v:World=>v.cell? ⟨w.heap.size+1+1,2,none⟩=some (.slice so k scap)∧v.cell? ⟨w.heap.size,0,none⟩=some (.int .i64 W)∧v.cell? ⟨w.heap.size,1,none⟩=some (.int .i64 H)∧v.cell? ⟨w.heap.size,2,none⟩=some (.slice ao zs.length ca)) (f:=9) hmx ?_
      show jZdv _ _ _ _ _ _ 10 _ _ R.drew
      refine zB2j (i:=0) (oi:=_) (v:=?vv1) (some 35) rfl rfl (by kernel_rfl) (by kernel_rfl) (by kernel_rfl) (by kernel_rfl) (by kernel_rfl) (fun _ _ _ h=>h) (Or.inl ⟨by rfl,?yy1⟩) hSd ?rr1
      case yy1=>(intro wq hSq;obtain ⟨_,_,_,_⟩:=hSq;go_simp<;>with_reducible rfl)
      simp only[kg,kb,ke,kd]
      refine zB2j (i:=2) (oi:=_) (v:=?vv2) (some 37) rfl rfl (by kernel_rfl) (by kernel_rfl) (by kernel_rfl) (by kernel_rfl) (by kernel_rfl) (fun _ _ _ h=>h) (Or.inl ⟨by rfl,?yy2⟩) hSd ?rr2
      case yy2=>(intro wq hSq;obtain ⟨_,_,_,_⟩:=hSq;go_simp<;>with_reducible rfl)
      simp only[kg,kb,ke,kd]
      refine zB2j (i:=3) (oi:=_) (v:=?vv3) (some 38) rfl rfl (by kernel_rfl) (by kernel_rfl) (by kernel_rfl) (by kernel_rfl) (by kernel_rfl) (fun _ _ _ h=>h) (Or.inl ⟨by rfl,?yy3⟩) hSd ?rr3
      case yy3=>(intro wq hSq;obtain ⟨_,_,_,_⟩:=hSq;go_simp<;>with_reducible rfl)
      simp only[kg,kb,ke,kd]
      refine zB2j (i:=4) (oi:=_) (v:=?vv4) (some 39) rfl rfl (by kernel_rfl) (by kernel_rfl) (by kernel_rfl) (by kernel_rfl) (by kernel_rfl) (fun _ _ _ h=>h) (Or.inl ⟨by rfl,?yy4⟩) hSd ?rr4
      case yy4=>(intro wq hSq;obtain ⟨_,_,_,_⟩:=hSq;go_simp<;>with_reducible rfl)
      simp only[kg,kb,ke,kd]
      refine zB2j (i:=1) (oi:=_) (v:=?vv5) (some 36) rfl rfl (by kernel_rfl) (by kernel_rfl) (by kernel_rfl) (by kernel_rfl) (by kernel_rfl) (fun _ _ _ h=>h) (Or.inl ⟨by rfl,?yy5⟩) hSd ?rr5
      case yy5=>(intro wq hSq;obtain ⟨_,_,_,_⟩:=hSq;go_simp<;>with_reducible rfl)
      simp only[kg,kb,ke,kd]
      refine znWj (i:=5) (o:=_) (by kernel_rfl) rfl (fun K' hK=>?_)
      rw[if_pos (by rfl)]
      go_simp
      refine (HAT.out _ hWd).mono ?_
      rintro e V0 ⟨rfl,hb0⟩
      have hB0:Below R.heap.size R V0:=hWd.trans (hb0.mono hWd.size)
      have hSd:=HS.out _ hB0
      refine hK.out _ _ hSd ?_
      clear hK
      try simp only[kg]
      refine znWj (i:=6) (o:=_) (by kernel_rfl) rfl (fun K' hK=>?_)
      rw[if_pos (by rfl)]
      go_simp
      have hBs:Below R.heap.size R (V0.alloc (ka #[.int .i64 y] 3)):=hB0.alloc hB0.size _
      have hSd:=HS.out _ hBs
      refine hK.out _ _ hSd ?_
      clear hK
      try simp only[kg]
      refine znWj (i:=7) (o:=_) (by kernel_rfl) rfl (fun K' hK=>?_)
      refine step_append_lies _ rfl _ _ 52 rfl w.heap.size 3 i0 (.int .i64 0) 1 8 Tryz.underlying52 hi hz0 hz1 hz2 rfl (by decide) (.slice so k scap) k XS rfl ((qw14 j2 hB0).alloc _) ⟨V0.heap.size,0,none⟩ 1 1 [.int .i64 y] rfl rfl (World.news_of_block (al1 V0 _)) (fun u hu=>by simp at hu;subst hu;rfl) Nat.one_pos HL1.out HL2.out (kk hbW hBs.size) _ rfl ?_
      intro gg cap w3 hown hgrow hat hltg
      obtain ⟨hSx,p2f,HFIN⟩:=HTL.out _ gg cap w3 hBs hgrow hown
      have hSd:=hSx
      refine hK.out _ _ hSd ?_
      clear hK
      try simp only[kg]
      refine j7aj (i:=8) (oi:=_) (v:=?vv6) rfl (by kernel_rfl) (by kernel_rfl) (by kernel_rfl) (by kernel_rfl) (by kernel_rfl) (fun _ _ _ h=>h) (Or.inl ⟨by rfl,?yy6⟩) hSd ?rr6
      case yy6=>(intro wq hSq;obtain ⟨_,_,_,_⟩:=hSq;go_simp<;>with_reducible rfl)
      try simp only[kg]
      refine z9gO (o:=_) (by kernel_rfl) rfl (fun K' hK=>?_)
      rw[if_pos (by rfl)]
      go_simp
      refine hK.out _ _ ?_
      clear hK
      refine jFdp (by kernel_rfl) ?_ _
      try simp only[kg]
      go_wp2
      go_roundw
      case rel=>exact ⟨X+1,by omega,by go_num,by rw[show M+(X+1)=k+1 by have:=HK.out;omega];exact HFIN⟩
      case measure=>simp[intOf];omega
     ·have hg2:goodB ls ((X:Nat),(Y:Nat))=false:=by simpa using hg
      rw[hg2]
      rw[if_neg hg] at HT
      clear j1 j2 j3 j4 j5
      go_wp2_with fail
      clear q0 q1 q2 hdx
      go_loopw [8,9,10] (fun s n i wv=>∃(b:Nat) (vb:Int),b≤5∧Hid (vb=(Y:Int)-2+(b:Nat))∧s=.int .i64 (rpS zs W H ls X Y (cOf (5*b))).1∧n=.int .i64 ((rpS zs W H ls X Y (cOf (5*b))).2:Nat)∧i=.int .i64 vb∧Below R.heap.size R wv) (fun _ _ i _=>((Y:Int)+3-intOf i).toNat)
      case atStart=>exact ⟨0,(Y:Int)-2,by omega,hide (by simp),rfl,rfl,rfl,Below.refl _ _⟩
      case round =>
       obtain ⟨b,vb,hb5,HVB,rfl,rfl,rfl,hbv⟩:=hrel
       have hvb0:-2≤vb∧vb≤67:=by have:=HVB.out;omega
       obtain ⟨hvb0,hvb1⟩:=hvb0
       by_cases hlb5:b<5
       ·have hdv:decide (vb≤(Y:Int)+2)=true:=by have:=HVB.out;simp;omega
        go_wp2_with fail
        go_loopw [8,9,11] (fun s n i wv=>∃(a:Nat) (ua:Int),a≤5∧Hid (ua=(X:Int)-2+(a:Nat))∧s=.int .i64 (rpS zs W H ls X Y (cOf (5*b+a))).1∧n=.int .i64 ((rpS zs W H ls X Y (cOf (5*b+a))).2:Nat)∧i=.int .i64 ua∧Below R.heap.size R wv) (fun _ _ i _=>((X:Int)+3-intOf i).toNat)
        case atStart=>exact ⟨0,(X:Int)-2,by omega,hide (by simp),rfl,rfl,rfl,hbv⟩
        case round =>
         clear hbv hdv
         obtain ⟨a,ua,ha5,HUA,rfl,rfl,rfl,hbv⟩:=hrel
         obtain ⟨so2,scap2,x1,x2,j3,x3,x4⟩:=HJ0.out.below hbv
         obtain ⟨q0,q1,q2⟩:=z5EY j3
         clear j3 x1 x2 x3 x4 so2 scap2
         have hua0:-2≤ua∧ua≤67:=by have:=HUA.out;omega
         obtain ⟨hua0,hua1⟩:=hua0
         have hro:=XlpZ HZS.out W H ls X Y (cOf (5*b+a)) (jiVq _)
         have HNX:=hide (show ∀c,c<4→cOf (5*b+a)=c→cOf (5*b+(a+1))=c+1→ua=(X:Int)+crDx c→vb=(Y:Int)+crDy c→(rpS zs W H ls X Y (cOf (5*b+(a+1))))=if hasB W H ua vb=true∧goodB ls (ua,vb)=true then ((rpS zs W H ls X Y (cOf (5*b+a))).1+zAt zs (vb.toNat*W+ua.toNat),(rpS zs W H ls X Y (cOf (5*b+a))).2+1) else (rpS zs W H ls X Y (cOf (5*b+a))) from fun c hc h1 h2 h3 h4=>by rw[h2,h1];exact qd7r zs W H ls X Y c hc ua vb h3 h4)
         have HSM:=hide (show 5*b+a≠2∧5*b+a≠10∧5*b+a≠14∧5*b+a≠22→(rpS zs W H ls X Y (cOf (5*b+(a+1))))=(rpS zs W H ls X Y (cOf (5*b+a))) from fun h=>by rw[show 5*b+(a+1)=5*b+a+1 from rfl,q1Yk _ h])
         by_cases hla5:a<5
         ·have hdu:decide (ua≤(X:Int)+2)=true:=by have:=HUA.out;simp;omega
          obtain ⟨sn,hsn⟩:∃sn,(rpS zs W H ls X Y (cOf (5*b+(a+1))))=sn:=⟨_,rfl⟩
          obtain ⟨st,hst⟩:∃st,(rpS zs W H ls X Y (cOf (5*b+a)))=st:=⟨_,rfl⟩
          rw[hsn,hst] at HNX HSM
          rw[hst] at hro ⊢
          obtain ⟨sm,nn⟩:=st
          simp only at hro HNX HSM ⊢
          obtain ⟨hr1,hr2,hr3⟩:=hro
          have HSN:=hide hsn
          clear hsn hst
          have HUN:=hide (show ua+1=(X:Int)-2+((a+1:Nat):Int) by have:=HUA.out;omega)
          have hms:((X:Int)+3-(ua+1)).toNat<((X:Int)+3-ua).toNat:=by have:=HUA.out;omega
          have hzr:∀j,0≤zAt zs j∧zAt zs j≤65535:=fun j=>XWrv HZS.out j
          have HZR:=hide hzr
          clear hzr
          have hcas:(a=2∧b=0)∨(a=2∧b=4)∨(a=2∧b=2)∨(a=2∧b≠0∧b≠2∧b≠4)∨(a=0∧b=2)∨(a=4∧b=2)∨((a=1∨a=3)∧b=2)∨(a≠2∧b≠2):=by omega
          rcases hcas with hcs|hcs|hcs|hcs|hcs|hcs|hcs|hcs
          ·skip
           obtain rfl:a=2:=by omega
           obtain rfl:b=0:=by omega
           have hq0:(ua == (X:Int))=true:=by have:=HUA.out;have:=HVB.out;simp;omega
           have hq1:(vb == (Y:Int)-2)=true:=by have:=HUA.out;have:=HVB.out;simp;omega
           have HN1:=hide (HNX.out 0 (by omega) (by decide) (by decide) (by have:=HUA.out;simp[crDx];omega) (by have:=HVB.out;simp[crDy];omega))
           by_cases hu:0≤ua∧ua≤(W:Int)-1
           ·have hud:decide (0≤ua∧ua≤(W:Int)-1)=true:=by simpa using hu
            by_cases hv:0≤vb∧vb≤(H:Int)-1
            ·have hvd:decide (0≤vb∧vb≤(H:Int)-1)=true:=by simpa using hv
             have hhas:hasB W H ua vb=true:=by simp[hasB];omega
             by_cases hgd:goodB ls (ua,vb)=true
             ·have he:sn=(sm+zAt zs (vb.toNat*W+ua.toNat),nn+1):=by rw[HN1.out,if_pos ⟨hhas,hgd⟩]
              obtain ⟨UN,hUN⟩:=ki hu.1
              obtain ⟨VN,hVN⟩:=ki hv.1
              have hkl:VN*W+UN<zs.length:=by
               have h1:(VN+1)*W≤H*W:=km _ (by omega)
               rw[kn] at h1
               rw[HLEN.out];omega
              rw[show vb.toNat*W+ua.toNat=VN*W+UN by rw[hUN,hVN];rfl] at he
              obtain ⟨K1,hK1⟩:∃K1,VN*W+UN=K1:=⟨_,rfl⟩
              rw[hK1] at hkl he
              have HAT:=hide (fun (u:World) (hu:Below R.heap.size R u)=>jMil W H (.slice ao zs.length ca) zs ua vb UN VN W K1 u (HV.out.below (HBR.out.trans (hu.mono HBR.out.size)) (kh _)) rfl hUN hVN hK1 hkl hlb)
              rw[show zs.getD K1 0=zAt zs K1 from rfl] at HAT
              have hzr:=HZR.out K1
              obtain ⟨z,hz⟩:∃z,zAt zs K1=z:=⟨_,rfl⟩
              rw[hz] at he HAT hzr
              obtain ⟨hz1,hz2⟩:=hzr
              subst he
              have HKP:=hide HSN.out
              have hws:IntKind.i64.wrap (sm+z)=sm+z:=kj _ (by omega)
              clear hz hK1 hUN hVN hu hv
              go_wp2_with (first|(go_at_call 33;refine (qVbC _ _ _ _).mono ?_;rintro e wx ⟨rfl,rfl⟩;first|rw[hud]|rw[hvd])|(go_at_call 141;refine (HISP.out _ _ _ hbv).mono ?_;rintro e wx ⟨rfl,rfl⟩;rw[hgd])|(go_at_call 142;refine (HAT.out _ hbv).mono ?_;rintro e wx ⟨rfl,hbx⟩))
              go_roundw
              case rel=>exact ⟨_,_,by omega,HUN,by rw[HKP.out],by rw[HKP.out];rfl,rfl,hbv.trans (hbx.mono hbv.size)⟩
              case measure=>simpa [intOf] using hms
             ·have hgd:goodB ls (ua,vb)=false:=by simpa using hgd
              have he:sn=(sm,nn):=by rw[HN1.out,if_neg (fun h=>by rw[hgd] at h;exact absurd h.2 (by decide))]
              subst he
              have HKP:=hide HSN.out
              go_wp2_with (first|(go_at_call 33;refine (qVbC _ _ _ _).mono ?_;rintro e wx ⟨rfl,rfl⟩;first|rw[hud]|rw[hvd])|(go_at_call 141;refine (HISP.out _ _ _ hbv).mono ?_;rintro e wx ⟨rfl,rfl⟩;rw[hgd]))
              go_roundw
              case rel=>exact ⟨_,_,by omega,HUN,by rw[HKP.out],by rw[HKP.out],rfl,hbv⟩
              case measure=>simpa [intOf] using hms
            ·have hvd:decide (0≤vb∧vb≤(H:Int)-1)=false:=by simpa using hv
             have he:sn=(sm,nn):=by rw[HN1.out,if_neg (fun h=>hv (by have:=h.1;simp[hasB] at this;omega))]
             subst he
             have HKP:=hide HSN.out
             go_wp2_with (first|(go_at_call 33;refine (qVbC _ _ _ _).mono ?_;rintro e wx ⟨rfl,rfl⟩;first|rw[hud]|rw[hvd]))
             go_roundw
             case rel=>exact ⟨_,_,by omega,HUN,by rw[HKP.out],by rw[HKP.out],rfl,hbv⟩
             case measure=>simpa [intOf] using hms
           ·have hud:decide (0≤ua∧ua≤(W:Int)-1)=false:=by simpa using hu
            have he:sn=(sm,nn):=by rw[HN1.out,if_neg (fun h=>hu (by have:=h.1;simp[hasB] at this;omega))]
            subst he
            have HKP:=hide HSN.out
            go_wp2_with (first|(go_at_call 33;refine (qVbC _ _ _ _).mono ?_;rintro e wx ⟨rfl,rfl⟩;rw[hud]))
            go_roundw
            case rel=>exact ⟨_,_,by omega,HUN,by rw[HKP.out],by rw[HKP.out],rfl,hbv⟩
            case measure=>simpa [intOf] using hms
          ·skip
           obtain rfl:a=2:=by omega
           obtain rfl:b=4:=by omega
           have hq0:(ua == (X:Int))=true:=by have:=HUA.out;have:=HVB.out;simp;omega
           have hq1:(vb == (Y:Int)-2)=false:=by have:=HUA.out;have:=HVB.out;simp;omega
           have hq2:(vb == (Y:Int)+2)=true:=by have:=HUA.out;have:=HVB.out;simp;omega
           have HN1:=hide (HNX.out 3 (by omega) (by decide) (by decide) (by have:=HUA.out;simp[crDx];omega) (by have:=HVB.out;simp[crDy];omega))
           by_cases hu:0≤ua∧ua≤(W:Int)-1
           ·have hud:decide (0≤ua∧ua≤(W:Int)-1)=true:=by simpa using hu
            by_cases hv:0≤vb∧vb≤(H:Int)-1
            ·have hvd:decide (0≤vb∧vb≤(H:Int)-1)=true:=by simpa using hv
             have hhas:hasB W H ua vb=true:=by simp[hasB];omega
             by_cases hgd:goodB ls (ua,vb)=true
             ·have he:sn=(sm+zAt zs (vb.toNat*W+ua.toNat),nn+1):=by rw[HN1.out,if_pos ⟨hhas,hgd⟩]
              obtain ⟨UN,hUN⟩:=ki hu.1
              obtain ⟨VN,hVN⟩:=ki hv.1
              have hkl:VN*W+UN<zs.length:=by
               have h1:(VN+1)*W≤H*W:=km _ (by omega)
               rw[kn] at h1
               rw[HLEN.out];omega
              rw[show vb.toNat*W+ua.toNat=VN*W+UN by rw[hUN,hVN];rfl] at he
              obtain ⟨K1,hK1⟩:∃K1,VN*W+UN=K1:=⟨_,rfl⟩
              rw[hK1] at hkl he
              have HAT:=hide (fun (u:World) (hu:Below R.heap.size R u)=>jMil W H (.slice ao zs.length ca) zs ua vb UN VN W K1 u (HV.out.below (HBR.out.trans (hu.mono HBR.out.size)) (kh _)) rfl hUN hVN hK1 hkl hlb)
              rw[show zs.getD K1 0=zAt zs K1 from rfl] at HAT
              have hzr:=HZR.out K1
              obtain ⟨z,hz⟩:∃z,zAt zs K1=z:=⟨_,rfl⟩
              rw[hz] at he HAT hzr
              obtain ⟨hz1,hz2⟩:=hzr
              subst he
              have HKP:=hide HSN.out
              have hws:IntKind.i64.wrap (sm+z)=sm+z:=kj _ (by omega)
              clear hz hK1 hUN hVN hu hv
              go_wp2_with (first|(go_at_call 33;refine (qVbC _ _ _ _).mono ?_;rintro e wx ⟨rfl,rfl⟩;first|rw[hud]|rw[hvd])|(go_at_call 141;refine (HISP.out _ _ _ hbv).mono ?_;rintro e wx ⟨rfl,rfl⟩;rw[hgd])|(go_at_call 142;refine (HAT.out _ hbv).mono ?_;rintro e wx ⟨rfl,hbx⟩))
              go_roundw
              case rel=>exact ⟨_,_,by omega,HUN,by rw[HKP.out],by rw[HKP.out];rfl,rfl,hbv.trans (hbx.mono hbv.size)⟩
              case measure=>simpa [intOf] using hms
             ·have hgd:goodB ls (ua,vb)=false:=by simpa using hgd
              have he:sn=(sm,nn):=by rw[HN1.out,if_neg (fun h=>by rw[hgd] at h;exact absurd h.2 (by decide))]
              subst he
              have HKP:=hide HSN.out
              go_wp2_with (first|(go_at_call 33;refine (qVbC _ _ _ _).mono ?_;rintro e wx ⟨rfl,rfl⟩;first|rw[hud]|rw[hvd])|(go_at_call 141;refine (HISP.out _ _ _ hbv).mono ?_;rintro e wx ⟨rfl,rfl⟩;rw[hgd]))
              go_roundw
              case rel=>exact ⟨_,_,by omega,HUN,by rw[HKP.out],by rw[HKP.out],rfl,hbv⟩
              case measure=>simpa [intOf] using hms
            ·have hvd:decide (0≤vb∧vb≤(H:Int)-1)=false:=by simpa using hv
             have he:sn=(sm,nn):=by rw[HN1.out,if_neg (fun h=>hv (by have:=h.1;simp[hasB] at this;omega))]
             subst he
             have HKP:=hide HSN.out
             go_wp2_with (first|(go_at_call 33;refine (qVbC _ _ _ _).mono ?_;rintro e wx ⟨rfl,rfl⟩;first|rw[hud]|rw[hvd]))
             go_roundw
             case rel=>exact ⟨_,_,by omega,HUN,by rw[HKP.out],by rw[HKP.out],rfl,hbv⟩
             case measure=>simpa [intOf] using hms
           ·have hud:decide (0≤ua∧ua≤(W:Int)-1)=false:=by simpa using hu
            have he:sn=(sm,nn):=by rw[HN1.out,if_neg (fun h=>hu (by have:=h.1;simp[hasB] at this;omega))]
            subst he
            have HKP:=hide HSN.out
            go_wp2_with (first|(go_at_call 33;refine (qVbC _ _ _ _).mono ?_;rintro e wx ⟨rfl,rfl⟩;rw[hud]))
            go_roundw
            case rel=>exact ⟨_,_,by omega,HUN,by rw[HKP.out],by rw[HKP.out],rfl,hbv⟩
            case measure=>simpa [intOf] using hms
          ·skip
           have hq0:(ua == (X:Int))=true:=by have:=HUA.out;have:=HVB.out;simp;omega
           have hq1:(vb == (Y:Int)-2)=false:=by have:=HUA.out;have:=HVB.out;simp;omega
           have hq2:(vb == (Y:Int)+2)=false:=by have:=HUA.out;have:=HVB.out;simp;omega
           have hq3:(vb == (Y:Int))=true:=by have:=HUA.out;have:=HVB.out;simp;omega
           have hq4:(ua == (X:Int)-2)=false:=by have:=HUA.out;have:=HVB.out;simp;omega
           have hq5:(ua == (X:Int)+2)=false:=by have:=HUA.out;have:=HVB.out;simp;omega
           have he:sn=(sm,nn):=HSM.out (by have:=HUA.out;have:=HVB.out;omega)
           subst he
           have HKP:=hide HSN.out
           go_wp2
           go_roundw
           case rel=>exact ⟨a+1,_,by omega,HUN,by rw[HKP.out],by rw[HKP.out],rfl,hbv⟩
           case measure=>simpa [intOf] using hms
          ·skip
           have hq0:(ua == (X:Int))=true:=by have:=HUA.out;have:=HVB.out;simp;omega
           have hq1:(vb == (Y:Int)-2)=false:=by have:=HUA.out;have:=HVB.out;simp;omega
           have hq2:(vb == (Y:Int)+2)=false:=by have:=HUA.out;have:=HVB.out;simp;omega
           have hq3:(vb == (Y:Int))=false:=by have:=HUA.out;have:=HVB.out;simp;omega
           have he:sn=(sm,nn):=HSM.out (by have:=HUA.out;have:=HVB.out;omega)
           subst he
           have HKP:=hide HSN.out
           go_wp2
           go_roundw
           case rel=>exact ⟨a+1,_,by omega,HUN,by rw[HKP.out],by rw[HKP.out],rfl,hbv⟩
           case measure=>simpa [intOf] using hms
          ·skip
           obtain rfl:a=0:=by omega
           obtain rfl:b=2:=by omega
           have hq0:(ua == (X:Int))=false:=by have:=HUA.out;have:=HVB.out;simp;omega
           have hq1:(vb == (Y:Int))=true:=by have:=HUA.out;have:=HVB.out;simp;omega
           have hq2:(ua == (X:Int)-2)=true:=by have:=HUA.out;have:=HVB.out;simp;omega
           have HN1:=hide (HNX.out 1 (by omega) (by decide) (by decide) (by have:=HUA.out;simp[crDx];omega) (by have:=HVB.out;simp[crDy];omega))
           by_cases hu:0≤ua∧ua≤(W:Int)-1
           ·have hud:decide (0≤ua∧ua≤(W:Int)-1)=true:=by simpa using hu
            by_cases hv:0≤vb∧vb≤(H:Int)-1
            ·have hvd:decide (0≤vb∧vb≤(H:Int)-1)=true:=by simpa using hv
             have hhas:hasB W H ua vb=true:=by simp[hasB];omega
             by_cases hgd:goodB ls (ua,vb)=true
             ·have he:sn=(sm+zAt zs (vb.toNat*W+ua.toNat),nn+1):=by rw[HN1.out,if_pos ⟨hhas,hgd⟩]
              obtain ⟨UN,hUN⟩:=ki hu.1
              obtain ⟨VN,hVN⟩:=ki hv.1
              have hkl:VN*W+UN<zs.length:=by
               have h1:(VN+1)*W≤H*W:=km _ (by omega)
               rw[kn] at h1
               rw[HLEN.out];omega
              rw[show vb.toNat*W+ua.toNat=VN*W+UN by rw[hUN,hVN];rfl] at he
              obtain ⟨K1,hK1⟩:∃K1,VN*W+UN=K1:=⟨_,rfl⟩
              rw[hK1] at hkl he
              have HAT:=hide (fun (u:World) (hu:Below R.heap.size R u)=>jMil W H (.slice ao zs.length ca) zs ua vb UN VN W K1 u (HV.out.below (HBR.out.trans (hu.mono HBR.out.size)) (kh _)) rfl hUN hVN hK1 hkl hlb)
              rw[show zs.getD K1 0=zAt zs K1 from rfl] at HAT
              have hzr:=HZR.out K1
              obtain ⟨z,hz⟩:∃z,zAt zs K1=z:=⟨_,rfl⟩
              rw[hz] at he HAT hzr
              obtain ⟨hz1,hz2⟩:=hzr
              subst he
              have HKP:=hide HSN.out
              have hws:IntKind.i64.wrap (sm+z)=sm+z:=kj _ (by omega)
              clear hz hK1 hUN hVN hu hv
              go_wp2_with (first|(go_at_call 33;refine (qVbC _ _ _ _).mono ?_;rintro e wx ⟨rfl,rfl⟩;first|rw[hud]|rw[hvd])|(go_at_call 141;refine (HISP.out _ _ _ hbv).mono ?_;rintro e wx ⟨rfl,rfl⟩;rw[hgd])|(go_at_call 142;refine (HAT.out _ hbv).mono ?_;rintro e wx ⟨rfl,hbx⟩))
              go_roundw
              case rel=>exact ⟨_,_,by omega,HUN,by rw[HKP.out],by rw[HKP.out];rfl,rfl,hbv.trans (hbx.mono hbv.size)⟩
              case measure=>simpa [intOf] using hms
             ·have hgd:goodB ls (ua,vb)=false:=by simpa using hgd
              have he:sn=(sm,nn):=by rw[HN1.out,if_neg (fun h=>by rw[hgd] at h;exact absurd h.2 (by decide))]
              subst he
              have HKP:=hide HSN.out
              go_wp2_with (first|(go_at_call 33;refine (qVbC _ _ _ _).mono ?_;rintro e wx ⟨rfl,rfl⟩;first|rw[hud]|rw[hvd])|(go_at_call 141;refine (HISP.out _ _ _ hbv).mono ?_;rintro e wx ⟨rfl,rfl⟩;rw[hgd]))
              go_roundw
              case rel=>exact ⟨_,_,by omega,HUN,by rw[HKP.out],by rw[HKP.out],rfl,hbv⟩
              case measure=>simpa [intOf] using hms
            ·have hvd:decide (0≤vb∧vb≤(H:Int)-1)=false:=by simpa using hv
             have he:sn=(sm,nn):=by rw[HN1.out,if_neg (fun h=>hv (by have:=h.1;simp[hasB] at this;omega))]
             subst he
             have HKP:=hide HSN.out
             go_wp2_with (first|(go_at_call 33;refine (qVbC _ _ _ _).mono ?_;rintro e wx ⟨rfl,rfl⟩;first|rw[hud]|rw[hvd]))
             go_roundw
             case rel=>exact ⟨_,_,by omega,HUN,by rw[HKP.out],by rw[HKP.out],rfl,hbv⟩
             case measure=>simpa [intOf] using hms
           ·have hud:decide (0≤ua∧ua≤(W:Int)-1)=false:=by simpa using hu
            have he:sn=(sm,nn):=by rw[HN1.out,if_neg (fun h=>hu (by have:=h.1;simp[hasB] at this;omega))]
            subst he
            have HKP:=hide HSN.out
            go_wp2_with (first|(go_at_call 33;refine (qVbC _ _ _ _).mono ?_;rintro e wx ⟨rfl,rfl⟩;rw[hud]))
            go_roundw
            case rel=>exact ⟨_,_,by omega,HUN,by rw[HKP.out],by rw[HKP.out],rfl,hbv⟩
            case measure=>simpa [intOf] using hms
          ·skip
           obtain rfl:a=4:=by omega
           obtain rfl:b=2:=by omega
           have hq0:(ua == (X:Int))=false:=by have:=HUA.out;have:=HVB.out;simp;omega
           have hq1:(vb == (Y:Int))=true:=by have:=HUA.out;have:=HVB.out;simp;omega
           have hq2:(ua == (X:Int)-2)=false:=by have:=HUA.out;have:=HVB.out;simp;omega
           have hq3:(ua == (X:Int)+2)=true:=by have:=HUA.out;have:=HVB.out;simp;omega
           have HN1:=hide (HNX.out 2 (by omega) (by decide) (by decide) (by have:=HUA.out;simp[crDx];omega) (by have:=HVB.out;simp[crDy];omega))
           by_cases hu:0≤ua∧ua≤(W:Int)-1
           ·have hud:decide (0≤ua∧ua≤(W:Int)-1)=true:=by simpa using hu
            by_cases hv:0≤vb∧vb≤(H:Int)-1
            ·have hvd:decide (0≤vb∧vb≤(H:Int)-1)=true:=by simpa using hv
             have hhas:hasB W H ua vb=true:=by simp[hasB];omega
             by_cases hgd:goodB ls (ua,vb)=true
             ·have he:sn=(sm+zAt zs (vb.toNat*W+ua.toNat),nn+1):=by rw[HN1.out,if_pos ⟨hhas,hgd⟩]
              obtain ⟨UN,hUN⟩:=ki hu.1
              obtain ⟨VN,hVN⟩:=ki hv.1
              have hkl:VN*W+UN<zs.length:=by
               have h1:(VN+1)*W≤H*W:=km _ (by omega)
               rw[kn] at h1
               rw[HLEN.out];omega
              rw[show vb.toNat*W+ua.toNat=VN*W+UN by rw[hUN,hVN];rfl] at he
              obtain ⟨K1,hK1⟩:∃K1,VN*W+UN=K1:=⟨_,rfl⟩
              rw[hK1] at hkl he
              have HAT:=hide (fun (u:World) (hu:Below R.heap.size R u)=>jMil W H (.slice ao zs.length ca) zs ua vb UN VN W K1 u (HV.out.below (HBR.out.trans (hu.mono HBR.out.size)) (kh _)) rfl hUN hVN hK1 hkl hlb)
              rw[show zs.getD K1 0=zAt zs K1 from rfl] at HAT
              have hzr:=HZR.out K1
              obtain ⟨z,hz⟩:∃z,zAt zs K1=z:=⟨_,rfl⟩
              rw[hz] at he HAT hzr
              obtain ⟨hz1,hz2⟩:=hzr
              subst he
              have HKP:=hide HSN.out
              have hws:IntKind.i64.wrap (sm+z)=sm+z:=kj _ (by omega)
              clear hz hK1 hUN hVN hu hv
              go_wp2_with (first|(go_at_call 33;refine (qVbC _ _ _ _).mono ?_;rintro e wx ⟨rfl,rfl⟩;first|rw[hud]|rw[hvd])|(go_at_call 141;refine (HISP.out _ _ _ hbv).mono ?_;rintro e wx ⟨rfl,rfl⟩;rw[hgd])|(go_at_call 142;refine (HAT.out _ hbv).mono ?_;rintro e wx ⟨rfl,hbx⟩))
              go_roundw
              case rel=>exact ⟨_,_,by omega,HUN,by rw[HKP.out],by rw[HKP.out];rfl,rfl,hbv.trans (hbx.mono hbv.size)⟩
              case measure=>simpa [intOf] using hms
             ·have hgd:goodB ls (ua,vb)=false:=by simpa using hgd
              have he:sn=(sm,nn):=by rw[HN1.out,if_neg (fun h=>by rw[hgd] at h;exact absurd h.2 (by decide))]
              subst he
              have HKP:=hide HSN.out
              go_wp2_with (first|(go_at_call 33;refine (qVbC _ _ _ _).mono ?_;rintro e wx ⟨rfl,rfl⟩;first|rw[hud]|rw[hvd])|(go_at_call 141;refine (HISP.out _ _ _ hbv).mono ?_;rintro e wx ⟨rfl,rfl⟩;rw[hgd]))
              go_roundw
              case rel=>exact ⟨_,_,by omega,HUN,by rw[HKP.out],by rw[HKP.out],rfl,hbv⟩
              case measure=>simpa [intOf] using hms
            ·have hvd:decide (0≤vb∧vb≤(H:Int)-1)=false:=by simpa using hv
             have he:sn=(sm,nn):=by rw[HN1.out,if_neg (fun h=>hv (by have:=h.1;simp[hasB] at this;omega))]
             subst he
             have HKP:=hide HSN.out
             go_wp2_with (first|(go_at_call 33;refine (qVbC _ _ _ _).mono ?_;rintro e wx ⟨rfl,rfl⟩;first|rw[hud]|rw[hvd]))
             go_roundw
             case rel=>exact ⟨_,_,by omega,HUN,by rw[HKP.out],by rw[HKP.out],rfl,hbv⟩
             case measure=>simpa [intOf] using hms
           ·have hud:decide (0≤ua∧ua≤(W:Int)-1)=false:=by simpa using hu
            have he:sn=(sm,nn):=by rw[HN1.out,if_neg (fun h=>hu (by have:=h.1;simp[hasB] at this;omega))]
            subst he
            have HKP:=hide HSN.out
            go_wp2_with (first|(go_at_call 33;refine (qVbC _ _ _ _).mono ?_;rintro e wx ⟨rfl,rfl⟩;rw[hud]))
            go_roundw
            case rel=>exact ⟨_,_,by omega,HUN,by rw[HKP.out],by rw[HKP.out],rfl,hbv⟩
            case measure=>simpa [intOf] using hms
          ·skip
           have hq0:(ua == (X:Int))=false:=by have:=HUA.out;have:=HVB.out;simp;omega
           have hq1:(vb == (Y:Int))=true:=by have:=HUA.out;have:=HVB.out;simp;omega
           have hq2:(ua == (X:Int)-2)=false:=by have:=HUA.out;have:=HVB.out;simp;omega
           have hq3:(ua == (X:Int)+2)=false:=by have:=HUA.out;have:=HVB.out;simp;omega
           have he:sn=(sm,nn):=HSM.out (by have:=HUA.out;have:=HVB.out;omega)
           subst he
           have HKP:=hide HSN.out
           go_wp2
           go_roundw
           case rel=>exact ⟨a+1,_,by omega,HUN,by rw[HKP.out],by rw[HKP.out],rfl,hbv⟩
           case measure=>simpa [intOf] using hms
          ·skip
           have hq0:(ua == (X:Int))=false:=by have:=HUA.out;have:=HVB.out;simp;omega
           have hq1:(vb == (Y:Int))=false:=by have:=HUA.out;have:=HVB.out;simp;omega
           have he:sn=(sm,nn):=HSM.out (by have:=HUA.out;have:=HVB.out;omega)
           subst he
           have HKP:=hide HSN.out
           go_wp2
           go_roundw
           case rel=>exact ⟨a+1,_,by omega,HUN,by rw[HKP.out],by rw[HKP.out],rfl,hbv⟩
           case measure=>simpa [intOf] using hms
         ·have hdu:decide (ua≤(X:Int)+2)=false:=by have:=HUA.out;simp;omega
          obtain rfl:a=5:=by omega
          have HVN:=hide (show vb+1=(Y:Int)-2+((b+1:Nat):Int) by have:=HVB.out;omega)
          have hms:((Y:Int)+3-(vb+1)).toNat<((Y:Int)+3-vb).toNat:=by have:=HVB.out;omega
          obtain ⟨st,hst⟩:∃st,(rpS zs W H ls X Y (cOf (5*b+5)))=st:=⟨_,rfl⟩
          have HKP:=hide (show (rpS zs W H ls X Y (cOf (5*(b+1))))=st from hst)
          rw[hst]
          clear hst HNX HSM hro
          go_wp2
          go_roundw
          case rel=>exact ⟨b+1,_,by omega,HVN,by rw[HKP.out],by rw[HKP.out],rfl,hbv⟩
          case measure=>simpa [intOf] using hms
       ·have hdv:decide (vb≤(Y:Int)+2)=false:=by have:=HVB.out;simp;omega
        obtain rfl:b=5:=by omega
        have HEN:=hide (show ∀mm:Int,mm=max ((rpS zs W H ls X Y (cOf (5*5))).2:Int) 1→repV zs W H ls k=(rpS zs W H ls X Y (cOf (5*5))).1.tdiv mm from fun mm hm=>by rw[HT.out];exact j2l3 HZS.out W H ls X Y mm hm)
        have hro:=XlpZ HZS.out W H ls X Y (cOf (5*5)) (jiVq _)
        obtain ⟨st,hst⟩:∃st,(rpS zs W H ls X Y (cOf (5*5)))=st:=⟨_,rfl⟩
        rw[hst] at HEN hro ⊢
        obtain ⟨sm,nn⟩:=st
        simp only at HEN hro ⊢
        obtain ⟨hr1,hr2,hr3⟩:=hro
        clear hst
        obtain ⟨mm,hmm⟩:∃mm,(if (nn:Int)<1 then 1 else (nn:Int))=mm:=⟨_,rfl⟩
        have hmx:mm=max (nn:Int) 1:=by rw[←hmm];split<;>omega
        have hm1:1≤mm:=by omega
        have hm0:¬(mm=0):=by omega
        have hmz:(mm == 0)=false:=by rw[beq_eq_false_iff_ne];omega
        have hq:=Int.tdiv_eq_ediv_of_nonneg (b:=mm) hr1
        have hq0:0≤sm.tdiv mm:=by rw[hq];exact Int.ediv_nonneg hr1 (by omega)
        have hq1:sm.tdiv mm≤sm:=by rw[hq];exact Int.ediv_le_self _ hr1
        have HYY:=hide (HEN.out mm hmx)
        obtain ⟨y,hyy⟩:∃y,sm.tdiv mm=y:=⟨_,rfl⟩
        rw[hyy] at HYY hq0 hq1
        have hwq:IntKind.i64.wrap y=y:=kj _ (by omega)
        have HST:=hide (HST1.out y HYY.out)
        obtain ⟨XS,hXS⟩:∃XS,(L.take k).map (Value.int .i64)=XS:=⟨_,rfl⟩
        rw[hXS] at HST
        obtain ⟨so,scap,j1,j2,j3,j4,j5⟩:=HJ0.out.below hbv
        obtain ⟨q0,q1,q2⟩:=z5EY j3
        rw[hXS] at j2
        have hbW:=j5.size
        clear hXS HST1 HT HEN hq hmx
        have HS:=hide (show ∀v,Below wr.heap.size wr v→v.cell? ⟨w.heap.size+1+1,2,none⟩=some (.slice so k scap)∧v.cell? ⟨w.heap.size,0,none⟩=some (.int .i64 W)∧v.cell? ⟨w.heap.size,1,none⟩=some (.int .i64 H)∧v.cell? ⟨w.heap.size,2,none⟩=some (.slice ao zs.length ca) from fun v h=>by
         obtain ⟨_,_,t2⟩:=z5EY ((h.block (w.heap.size+2) (kc.1 j1).1).trans j1)
         exact ⟨t2,z5EY ((h.block _ (kc.1 j3).1).trans j3)⟩)
        have nq:=qYYy j2 j3 (by decide)
        have HTL:=hide (show ∀(V1:World) (gg cap:Nat) (w3:World),Below wr.heap.size wr V1→V1.grownBy w3 (Value.slice so k scap).ownBlock→w3.ownsRow w.heap.size 3 1 (.slice (some ⟨gg,0,none⟩) (k+1) cap) (k+1) (XS++[.int .i64 y])→(w3.cell? ⟨w.heap.size+1+1,2,none⟩=some (.slice so k scap)∧w3.cell? ⟨w.heap.size,0,none⟩=some (.int .i64 W)∧w3.cell? ⟨w.heap.size,1,none⟩=some (.int .i64 H)∧w3.cell? ⟨w.heap.size,2,none⟩=some (.slice ao zs.length ca))∧w3.frozen? ⟨w.heap.size+1+1,2,none⟩=false∧RpJ w W H (.slice ao zs.length ca) L (k+1) (w3.setCell ⟨w.heap.size+1+1,2,none⟩ (.slice (some ⟨gg,0,none⟩) (k+1) cap)) from fun V1 gg cap w3 h1 h2 h3=>by
         obtain ⟨t1,t2,t3,t4,t5,t6,t7⟩:=j7Ww (by decide) j1 j2 j5 (kh _) (by omega) h1 h2 h3
         exact ⟨⟨t2,z5EY ((t1 _ (kc.1 j3).1 nq).trans j3)⟩,t3,some ⟨gg,0,none⟩,cap,t4,by rw[HST.out];exact t5,(t7 _ (kc.1 j3).1 nq (by omega)).trans j3,(t7 _ (kc.1 j4).1 (qYYy j2 j4 (by decide)) (by omega)).trans j4,t6⟩)
        have hWd:Below wr.heap.size wr wr.drew:=(Below.refl _ _).drew
        go_wp2_with fail
        have hSd:=HS.out _ hWd
        clear q0 q1 q2 j1 j3 j4
        have hmx:Tryz.prog.follows .mixedOrders=true:=by kernel_rfl
        refine qYgd (S:=fun v:World=>v.cell? ⟨w.heap.size+1+1,2,none⟩=some (.slice so k scap)∧v.cell? ⟨w.heap.size,0,none⟩=some (.int .i64 W)∧v.cell? ⟨w.heap.size,1,none⟩=some (.int .i64 H)∧v.cell? ⟨w.heap.size,2,none⟩=some (.slice ao zs.length ca)) (f:=9) hmx ?_
        show jZdv _ _ _ _ _ _ 10 _ _ wr.drew
        refine zB2j (i:=0) (oi:=_) (v:=?vv7) (some 122) rfl rfl (by kernel_rfl) (by kernel_rfl) (by kernel_rfl) (by kernel_rfl) (by kernel_rfl) (fun _ _ _ h=>h) (Or.inl ⟨by rfl,?yy7⟩) hSd ?rr7
        case yy7=>(intro wq hSq;obtain ⟨_,_,_,_⟩:=hSq;go_simp<;>with_reducible rfl)
        simp only[kg,kb,ke,kd]
        refine zB2j (i:=2) (oi:=_) (v:=?vv8) (some 124) rfl rfl (by kernel_rfl) (by kernel_rfl) (by kernel_rfl) (by kernel_rfl) (by kernel_rfl) (fun _ _ _ h=>h) (Or.inl ⟨by rfl,?yy8⟩) hSd ?rr8
        case yy8=>(intro wq hSq;obtain ⟨_,_,_,_⟩:=hSq;go_simp<;>with_reducible rfl)
        simp only[kg,kb,ke,kd]
        refine zB2j (i:=3) (oi:=_) (v:=?vv9) (some 125) rfl rfl (by kernel_rfl) (by kernel_rfl) (by kernel_rfl) (by kernel_rfl) (by kernel_rfl) (fun _ _ _ h=>h) (Or.inl ⟨by rfl,?yy9⟩) hSd ?rr9
        case yy9=>(intro wq hSq;obtain ⟨_,_,_,_⟩:=hSq;go_simp<;>with_reducible rfl)
        simp only[kg,kb,ke,kd]
        refine zB2j (i:=1) (oi:=_) (v:=?vv10) (some 123) rfl rfl (by kernel_rfl) (by kernel_rfl) (by kernel_rfl) (by kernel_rfl) (by kernel_rfl) (fun _ _ _ h=>h) (Or.inl ⟨by rfl,?yy10⟩) hSd ?rr10
        case yy10=>(intro wq hSq;obtain ⟨_,_,_,_⟩:=hSq;go_simp<;>with_reducible rfl)
        simp only[kg,kb,ke,kd]
        refine zB2j (i:=4) (oi:=_) (v:=?vv11) (some 126) rfl rfl (by kernel_rfl) (by kernel_rfl) (by kernel_rfl) (by kernel_rfl) (by kernel_rfl) (fun _ _ _ h=>h) (Or.inl ⟨by rfl,?yy11⟩) hSd ?rr11
        case yy11=>(intro wq hSq;obtain ⟨_,_,_,_⟩:=hSq;go_simp<;>with_reducible rfl)
        simp only[kg,kb,ke,kd]
        refine zB2j (i:=5) (oi:=_) (v:=?vv12) (some 127) rfl rfl (by kernel_rfl) (by kernel_rfl) (by kernel_rfl) (by kernel_rfl) (by kernel_rfl) (fun _ _ _ h=>h) (Or.inl ⟨by rfl,?yy12⟩) hSd ?rr12
        case yy12=>(intro wq hSq;obtain ⟨_,_,_,_⟩:=hSq;go_simp<;>with_reducible rfl)
        simp only[kg,kb,ke,kd]
        refine znWj (i:=6) (o:=_) (by kernel_rfl) rfl (fun K' hK=>?_)
        rw[if_pos (by rfl)]
        go_simp
        have hBs:Below wr.heap.size wr (wr.drew.alloc (ka #[.int .i64 y] 3)):=hWd.alloc hWd.size _
        have hSd:=HS.out _ hBs
        refine hK.out _ _ hSd ?_
        clear hK
        try simp only[kg]
        refine znWj (i:=7) (o:=_) (by kernel_rfl) rfl (fun K' hK=>?_)
        refine step_append_lies _ rfl _ _ 52 rfl w.heap.size 3 i0 (.int .i64 0) 1 8 Tryz.underlying52 hi hz0 hz1 hz2 rfl (by decide) (.slice so k scap) k XS rfl ((qw14 j2 hWd).alloc _) ⟨wr.drew.heap.size,0,none⟩ 1 1 [.int .i64 y] rfl rfl (World.news_of_block (al1 wr.drew _)) (fun u hu=>by simp at hu;subst hu;rfl) Nat.one_pos HL1.out HL2.out (kk hbW hBs.size) _ rfl ?_
        intro gg cap w3 hown hgrow hat hltg
        obtain ⟨hSx,p2f,HFIN⟩:=HTL.out _ gg cap w3 hBs hgrow hown
        have hSd:=hSx
        refine hK.out _ _ hSd ?_
        clear hK
        try simp only[kg]
        refine j7aj (i:=8) (oi:=_) (v:=?vv13) rfl (by kernel_rfl) (by kernel_rfl) (by kernel_rfl) (by kernel_rfl) (by kernel_rfl) (fun _ _ _ h=>h) (Or.inl ⟨by rfl,?yy13⟩) hSd ?rr13
        case yy13=>(intro wq hSq;obtain ⟨_,_,_,_⟩:=hSq;go_simp<;>with_reducible rfl)
        try simp only[kg]
        refine z9gO (o:=_) (by kernel_rfl) rfl (fun K' hK=>?_)
        rw[if_pos (by rfl)]
        go_simp
        refine hK.out _ _ ?_
        clear hK
        refine jFdp (by kernel_rfl) ?_ _
        try simp only[kg]
        go_wp2
        go_roundw
        case rel=>exact ⟨X+1,by omega,by go_num,by rw[show M+(X+1)=k+1 by have:=HK.out;omega];exact HFIN⟩
        case measure=>simp[intOf];omega
    ·have hdx:decide ((X:Int)<(W:Int))=false:=by simp;omega
     obtain ⟨so,scap,j1,j2,j3,j4,j5⟩:=hJ
     obtain ⟨q0,q1,q2⟩:=z5EY j3
     have h3:X=W:=by omega
     subst h3
     have HJ1:=hide (show RpJ w X H (.slice ao zs.length ca) L ((Y+1)*X) wr from ⟨so,scap,by rw[kn,←HM.out];exact j1,by rw[kn,←HM.out];exact j2,j3,j4,j5⟩)
     go_wp2
     go_roundw
     case rel=>exact ⟨Y+1,by omega,by go_num,HJ1.out⟩
     case measure=>simp[intOf];omega
  ·have hd:decide ((Y:Int)<(H:Int))=false:=by simp;omega
   obtain rfl:Y=H:=by omega
   rw[←HLEN.out] at j1 j2
   rw[List.take_of_length_le (by rw[HLL.out];exact kh _)] at j2
   obtain ⟨p0,p1,p2⟩:=z5EY (b:=w.heap.size+1+1) j1
   obtain ⟨z0,z1,z2⟩:=z5EY j4
   have f0:=kf j4 0
   have f1:=kf j4 1
   have f2:=kf j4 2
   have HFI:=hide (zHqh j5 (show w.heap.size≤w.heap.size+1 by omega) (.int .i64 (W:Nat)) (.int .i64 (Y:Nat)) (.slice so zs.length scap))
   have hpx:jCvT wr (.slice so zs.length scap) L:=jCvT.own (base:=w.heap.size) (xs:=L) (v:=.slice so zs.length scap) (by rw[HLL.out];exact j2) (by rw[HLL.out];omega)
   have hne:(Value.slice so zs.length scap).ownBlock≠some (w.heap.size+1):=fun e=>qYYy j2 j4 (by decide) e.symm
   have HX:=hide (hpx.other (zv5i wr (w.heap.size+1) (.int .i64 (W:Nat)) (.int .i64 (Y:Nat)) (.slice so zs.length scap)) (fun b hb=>jZhz _ _ _ _ _ b hb) hne)
   have HF:=hide (Fresh.own j2)
   clear hpx hne
   go_wp2
   exact bodyPost_ret (v:=.agg #[.int .i64 (W:Nat),.int .i64 (Y:Nat),.slice so zs.length scap]) (by simp[results,Tryz.results84,go_sem,z0,z1,z2]) rfl ⟨_,rfl,HX.out,HFI.out,HF.out⟩
end Go.Proofs.YtfjeonehdlphiaaGreatDoor
