/- Sw: part 35 of what the proofs need. -/
import Derived.Test.YtfjeonehdlphiaaGreatDoorC16Sw
import Derived.Test.YtfjeonehdlphiaaGreatDoorC21Sw
import Derived.Test.YtfjeonehdlphiaaGreatDoorC28Sw
import Derived.Test.YtfjeonehdlphiaaGreatDoorC29Sw
import Derived.Deep.CutRange
set_option linter.unusedVariables false
set_option maxHeartbeats 3200000
set_option maxRecDepth 100000
namespace Go.Proofs.YtfjeonehdlphiaaGreatDoor
open Go.RowKit
theorem zh4b {w:World} {base:Nat} {e:TypeId} {sz:Nat} {v:Value} {n:Nat} {xs:List Value} {k:Nat} (h:w.ownsRow base e sz v n xs) (hne:v.ownBlock≠some k) (x y z:Value):(((w.setCell ⟨k,0,none⟩ x).setCell ⟨k,1,none⟩ y).setCell ⟨k,2,none⟩ z).ownsRow base e sz v n xs:=by
 refine ⟨h.1,?_⟩
 rcases h.2 with h|⟨g,cap,cur,hv,hg,hh,r⟩
 ·exact .inl h
 ·refine .inr ⟨g,cap,cur,hv,hg,?_,r⟩
  rw[jZhz _ _ _ _ _ g (fun e=>hne (by rw[hv,e];rfl))]
  exact hh
theorem jP4G {s:List UInt8} {W H kind:Int} {xs:List Int} (h:qaPw s W H kind xs=0):(jNAw s W H kind xs).length=W.toNat*H.toNat∧1≤W∧1≤H:=by
 rw[jNAw,if_pos h]
 unfold qaPw at h
 split at h
 ·rename_i h0
  split at h
  ·split at h
   ·split at h
    ·rename_i h3
     obtain ⟨zs,hz⟩:=Option.isSome_iff_exists.1 h3
     rw[hz]
     have h1:=h0.1
     have h2:=h0.2
     simp only[jbTy,decide_eq_true_eq] at h1 h2
     refine ⟨?_,h1.1,h2.1⟩
     rw[readD] at hz
     split at hz
     ·split at hz
      ·rename_i hq
       split at hz
       ·cases hz
        exact (qbXa hq).1
       ·cases hz
      ·cases hz
     ·cases hz
    ·cases h
   ·rename_i hc;exact absurd h hc
  ·cases h
 ·cases h
theorem jO8C {r:RawF} (h:Head r) {i:Nat} (hi:i<cntN r) {s:List UInt8} (h0:stE r s (rowN r i)=0):((stZ r s (rowN r i)).length:Int)=rowN r i*r.w:=by
 obtain ⟨h3,h4⟩:=h.size hi
 obtain ⟨h5,h6⟩:=h.row hi
 have hw:=h.w
 by_cases hk:r.kind=0
 ·obtain ⟨e1,e2⟩:=XX6a hk s (rowN r i)
  rw[e1] at h0
  rw[e2,unpV,if_pos (jtlP h0),z3uI]
  omega
 ·have hE:qaPw s r.w (rowN r i) r.kind r.lens=0:=by
   rw[stE,if_neg hk] at h0
   split at h0
   ·assumption
   ·exact h0
  obtain ⟨e1,_,_⟩:=jP4G hE
  rw[stZ,if_pos h0,if_neg hk,e1]
  obtain ⟨A,hA⟩:=Int.eq_ofNat_of_zero_le (show 0≤r.w by omega)
  obtain ⟨B,hB⟩:=Int.eq_ofNat_of_zero_le (show 0≤rowN r i by omega)
  rw[hA,hB,Int.toNat_natCast,Int.toNat_natCast,Int.natCast_mul,Int.mul_comm]
theorem z1r6 {r:RawF} (h:Head r) (k:Nat) (hk:k≤cntN r) (hs:stOk r k=true):(plUp r k).length≤k*4096:=by
 induction k with
 | zero=>simp[plUp]
 | succ k ih =>
  rw[qGwq,Bool.and_eq_true] at hs
  have h1:=ih (by omega) hs.1
  have h2:=jO8C h (show k<cntN r by omega) (of_decide_eq_true hs.2)
  have h3:=h.size (show k<cntN r by omega)
  rw[XcbT,List.length_append]
  omega
def PlJ (w:World) (r:RawF) (RA:Array Value) (QX k:Nat) (wr:World):Prop :=
 ∃(so:Option Addr) (cap:Nat),stOk r k=true∧wr.heap[QX]?=some (.cells #[.int .i64 r.w,.int .i64 r.h,.slice so (plUp r k).length cap] 54 (0,0))∧wr.ownsRow w.heap.size 3 1 (.slice so (plUp r k).length cap) (plUp r k).length ((plUp r k).map (Value.int .i64)) ∧
  wr.heap[w.heap.size]?=some (.cells RA 57 (0,0))∧wr.heap[w.heap.size+1]?=some (.cells #[.int .i64 0,.int .i64 0,.slice none 0 0] 54 (0,0))∧Below w.heap.size w wr
theorem PlJ.below {w:World} {r:RawF} {RA:Array Value} {QX k:Nat} {wr V:World} (h:PlJ w r RA QX k wr) (hV:Below wr.heap.size wr V):PlJ w r RA QX k V:=by
 obtain ⟨so,cap,h1,h3,h4,h5,h6,h8⟩:=h
 exact ⟨so,cap,h1,(hV.block _ (Array.getElem?_eq_some_iff.1 h3).1).trans h3,qw14 h4 hV,(hV.block _ (Array.getElem?_eq_some_iff.1 h5).1).trans h5,(hV.block _ (Array.getElem?_eq_some_iff.1 h6).1).trans h6,h8.trans (hV.mono h8.size)⟩
theorem XAFS (r:RawF) (lv tv sv cv:Value) (w:World) (hr:IsRaw w r lv tv sv cv) :
  Calls Tryz.prog 48 #[.agg (rawA r lv tv sv cv)] w fun e w'=>∃v,e=.returned (.tuple #[.agg #[.int .i64 (XH9X r),.int .i64 (zq73 r),v],.int .i64 (XDWf r)])∧jCvT w' v (zcNm r)∧Below w.heap.size w w'∧Fresh w.heap.size v:=by
 have HR:=hide hr
 have HCH:=hide (fun (u:World) (hu:Below w.heap.size w u)=>zjUe r lv tv sv cv u (HR.out.lens.below hu (Nat.le_refl _)))
 have HCP:=hide (fun (u:World) (hu:Below w.heap.size w u)=>z6ad r lv tv sv cv u (HR.out.plan.below hu (Nat.le_refl _)))
 have HST:=hide hr.strips
 obtain ⟨tp,tc,rfl,htl,_⟩:=hr.strips
 have HE:=hide (show XDWf r=if headE r=0 then (if r.strips.length=cntN r then (if pErr r=0 then (if stOk r r.strips.length=true then 0 else 1) else pErr r) else 2) else headE r from rfl)
 have HZ:=hide (show zcNm r=if XDWf r=0 then plUp r r.strips.length else [] from rfl)
 have HW:=hide (show XH9X r=if XDWf r=0 then r.w else 0 from rfl)
 have HH:=hide (show zq73 r=if XDWf r=0 then r.h else 0 from rfl)
 generalize XDWf r=E at *
 generalize zcNm r=Z at *
 generalize XH9X r=PW at *
 generalize zq73 r=PH at *
 clear hr
 obtain ⟨a1,a2⟩:=al2 w (Obj.cells (rawA r lv (.slice tp r.strips.length tc) sv cv) 57) (Obj.cells #[.int .i64 0,.int .i64 0,.slice none 0 0] 54)
 have HB:=hide (be2 w (Obj.cells (rawA r lv (.slice tp r.strips.length tc) sv cv) 57) (Obj.cells #[.int .i64 0,.int .i64 0,.slice none 0 0] 54))
 have hl1:=(Array.getElem?_eq_some_iff.1 a1).1
 have hl2:=(Array.getElem?_eq_some_iff.1 a2).1
 go_enter Tryz.func48,Tryz.ntmps48
 go_wp2_with (refine wpList_load_row rfl 57 _ rfl _ rfl _ _ _ _ a1 Tryz.underlying57 rfl (by kernel_rfl) ?_)
 generalize (w.alloc (Obj.cells (rawA r lv (.slice tp r.strips.length tc) sv cv) 57)).alloc (Obj.cells #[.int .i64 0,.int .i64 0,.slice none 0 0] 54)=U at *
 have HSR0:=hide (fun (k:Nat) (u:World) (h:Head r) (hk:k<cntN r)=>jN9a r lv (.slice tp r.strips.length tc) sv cv k u h hk)
 have HRS0:=hide (fun (k:Nat) (u:World) (h:Head r) (hk:k<cntN r) (hu:Below w.heap.size w u)=>XWh7 r lv (.slice tp r.strips.length tc) sv cv (stAt r k) (rowN r k) u h (h.row hk) (HR.out.lens.below hu (Nat.le_refl _)))
 have HSC0:=hide (fun (u:World) (h:Head r)=>X0bE r lv (.slice tp r.strips.length tc) sv cv u h)
 have HRC:=hide (fun (v:World) (h:v.heap[w.heap.size]?=some (.cells (rawA r lv (.slice tp r.strips.length tc) sv cv) 57 (0,0)))=>zUTj h)
 have hi28:(Tryz.prog.info? 57).map (·.size)=some ((rawA r lv (.slice tp r.strips.length tc) sv cv):Array Value).size:=by kernel_rfl
 generalize (rawA r lv (.slice tp r.strips.length tc) sv cv)=RQ at *
 have HZZ:=hide (fun (V:World) (hb:Below U.heap.size U V)=>z5EY ((hb.block _ hl2).trans a2))
 have HFZ:=hide (fun (V:World) (hb:Below U.heap.size U V) (j:Nat)=>Lib.frozen_of_heap ((hb.block _ hl2).trans a2) j)
 have HBZ:=hide (fun (V:World) (hb:Below U.heap.size U V)=>zHqh (quJN HB.out hb) (show w.heap.size≤w.heap.size+1 by omega) (.int .i64 0) (.int .i64 0) (.slice none 0 0))
 refine (HCH.out _ HB.out).mono ?_
 rintro e V1 ⟨rfl,hb1⟩
 by_cases hF:headE r=0
 ·rw[if_pos hF] at HE
  rw[hF]
  have hH:=jWRa hF
  have HHD:=hide hH
  have HSC:=hide (fun (u:World)=>HSC0.out u hH)
  have HS:=hide (show ∀v,Below U.heap.size U v→v.heap[w.heap.size]?=some (.cells RQ 57 (0,0))∧v.cell? ⟨w.heap.size,6,none⟩=some (.slice tp r.strips.length tc) from fun v h=>⟨(h.block _ hl1).trans a1,(HRC.out v ((h.block _ hl1).trans a1)).2.2.2.2.2.2.1⟩)
  clear hF HCH hH
  go_upto_region 4 with fail
  have hWd:Below U.heap.size U V1.drew:=hb1.drew
  have hSd:=HS.out _ hWd
  have hmx:Tryz.prog.follows .mixedOrders=true:=by kernel_rfl
  refine qYgd (S:=(fun v:World=>v.heap[w.heap.size]?=some (.cells RQ 57 (0,0))∧v.cell? ⟨w.heap.size,6,none⟩=some (.slice tp r.strips.length tc))) (f:=5) hmx ?_
  show jZdv _ _ _ _ _ _ 6 _ _ V1.drew
  refine takeQ 0 ?vv1 (some 17) [2,1] ?yy1 hSd ?rr1
  case yy1=>(intro wq hSq;obtain ⟨hq1,hq2⟩:=hSq;go_simp<;>with_reducible rfl)
  simp only[Act.put,List.setIfInBounds_toArray,List.set_cons_succ,List.set_cons_zero]
  refine XmaW (i:=3) (oi:=_) (v:=.agg RQ) (some 20) [4] rfl rfl (by kernel_rfl) (by kernel_rfl) (by kernel_rfl) (by kernel_rfl) (by kernel_rfl) (fun _ _ _ h=>h) (Or.inl ⟨by rfl,?yy2⟩) hSd ?rr2
  case yy2=>(intro wq hSq;obtain ⟨hq1,hq2⟩:=hSq;exact XMYj 57 _ rfl _ rfl _ _ _ _ hq1 Tryz.underlying57 rfl hi28)
  simp only[Act.put,List.setIfInBounds_toArray,List.set_cons_succ,List.set_cons_zero]
  refine takeQ 1 ?vv3 (some 18) [2] ?yy3 hSd ?rr3
  case yy3=>(intro wq hSq;obtain ⟨hq1,hq2⟩:=hSq;go_simp<;>with_reducible rfl)
  simp only[Act.put,List.setIfInBounds_toArray,List.set_cons_succ,List.set_cons_zero]
  refine takeQ 2 ?vv4 (some 19) [] ?yy4 hSd ?rr4
  case yy4=>(intro wq hSq;obtain ⟨hq1,hq2⟩:=hSq;go_simp<;>with_reducible rfl)
  simp only[Act.put,List.setIfInBounds_toArray,List.set_cons_succ,List.set_cons_zero]
  refine znWj (i:=4) (o:=_) (by kernel_rfl) rfl (fun K' hK=>?_)
  rw[if_pos (by rfl)]
  go_simp
  refine (HSC.out _).mono ?_
  rintro e V2 ⟨rfl,hb2⟩
  have hB2:Below U.heap.size U V2:=hWd.trans (hb2.mono hWd.size)
  have hSd:=HS.out _ hB2
  refine hK.out _ _ hSd ?_
  clear hK
  try simp only[Act.put]
  refine z9gO (o:=_) (by kernel_rfl) rfl (fun K' hK=>?_)
  rw[if_pos (by rfl)]
  go_simp
  refine hK.out _ _ ?_
  clear hK
  refine jFdp (by kernel_rfl) ?_ _
  try simp only[Act.put]
  clear hSd hWd hb2
  by_cases hN:r.strips.length=cntN r
  ·rw[if_pos hN] at HE
   have hn:((r.strips.length:Int) != (cntN r:Int))=false:=by simp[hN]
   have g1:=(hB2.block _ hl1).trans a1
   have hcl:=HHD.out.cnt_le
   have hsl:r.strips.length≤64:=by omega
   have HNC:=hide hN
   clear hcl hN
   go_wp2_with (refine wpList_load_row rfl 57 _ rfl _ rfl _ _ _ _ g1 Tryz.underlying57 rfl hi28 ?_)
   clear hn g1
   refine (HCP.out _ (quJN HB.out hB2)).mono ?_
   rintro e V3 ⟨rfl,hb3⟩
   replace hb3:=quJN hB2 hb3
   by_cases hP:pErr r=0
   ·rw[if_pos hP] at HE
    rw[hP]
    clear HCP HSC hB2 hP
    have hW:=HHD.out.w
    have hHh:=HHD.out.h
    obtain ⟨i0,hi,hz0,hz1,hz2⟩:=info_parts Tryz.infoInt
    obtain ⟨M,hM⟩:∃M:Nat,r.w*r.h=M:=⟨(r.w*r.h).toNat,by have:=XBWT ⟨show 0≤r.w by omega,hW.2⟩ ⟨show 0≤r.h by omega,hHh.2⟩;omega⟩
    have hM4:M≤4096:=by have:=XBWT ⟨show 0≤r.w by omega,hW.2⟩ ⟨show 0≤r.h by omega,hHh.2⟩;omega
    have hmk:∀V:World,(Instr.makeSlice 52 (.int .i64 0) (.int .i64 M)).run Tryz.prog V=.ok (.slice (some ⟨V.heap.size,0,none⟩) 0 M) (V.alloc (.cells (madeCells #[.int .i64 0] M) 3)):=fun V=>by
     have h:=run_make (P:=Tryz.prog) V 52 3 i0 (.int .i64 0) Tryz.underlying52 hi hz0 .i64 .i64 0 M (Int.le_refl _) (by omega) (by rw[hz2];omega) (by omega)
     rw[hz1] at h
     simpa [Value.cells] using h
    have hwm:IntKind.i64.wrap (M:Int)=M:=IntWalk.i64_in _ (by omega)
    have HS9:=hide (show ∀v,Below U.heap.size U v→v.cell? ⟨w.heap.size,0,none⟩=some (.int .i64 r.w)∧v.cell? ⟨w.heap.size,1,none⟩=some (.int .i64 r.h) from fun v h=>⟨(HRC.out v ((h.block _ hl1).trans a1)).1,(HRC.out v ((h.block _ hl1).trans a1)).2.1⟩)
    clear hW hHh
    go_upto_region 9 with fail
    have hs1:=hb3.size
    go_cut [6] from 11 (fun q v=>∃QX so cap,q=.pointer (some ⟨QX,0,none⟩)∧v.heap[QX]?=some (.cells #[.int .i64 r.w,.int .i64 r.h,.slice so 0 cap] 54 (0,0))∧v.ownsRow w.heap.size 3 1 (.slice so 0 cap) 0 []∧U.heap.size≤QX∧Below U.heap.size U v)
    case first =>
     have hWd:Below U.heap.size U V3.drew:=hb3.drew
     have hSd:=HS9.out _ hWd
     have hmx:Tryz.prog.follows .mixedOrders=true:=by kernel_rfl
     refine qYgd (S:=(fun v:World=>v.cell? ⟨w.heap.size,0,none⟩=some (.int .i64 r.w)∧v.cell? ⟨w.heap.size,1,none⟩=some (.int .i64 r.h))) (f:=12) hmx ?_
     show jZdv _ _ _ _ _ _ 13 _ _ V3.drew
     refine takeQ 0 ?vv5 (some 30) [] ?yy5 hSd ?rr5
     case yy5=>(intro wq hSq;obtain ⟨_,_⟩:=hSq;go_simp<;>with_reducible rfl)
     simp only[Act.put,List.setIfInBounds_toArray,List.set_cons_succ,List.set_cons_zero]
     refine takeQ 2 ?vv6 (some 32) [] ?yy6 hSd ?rr6
     case yy6=>(intro wq hSq;obtain ⟨_,_⟩:=hSq;go_simp<;>with_reducible rfl)
     simp only[Act.put,List.setIfInBounds_toArray,List.set_cons_succ,List.set_cons_zero]
     refine takeQ 4 ?vv7 (some 34) [] ?yy7 hSd ?rr7
     case yy7=>(intro wq hSq;obtain ⟨_,_⟩:=hSq;go_simp<;>with_reducible rfl)
     simp only[Act.put,List.setIfInBounds_toArray,List.set_cons_succ,List.set_cons_zero]
     refine takeQ 6 ?vv8 (some 36) [] ?yy8 hSd ?rr8
     case yy8=>(intro wq hSq;obtain ⟨_,_⟩:=hSq;go_simp<;>with_reducible rfl)
     simp only[Act.put,List.setIfInBounds_toArray,List.set_cons_succ,List.set_cons_zero]
     refine takeQ 1 ?vv9 (some 31) [] ?yy9 hSd ?rr9
     case yy9=>(intro wq hSq;obtain ⟨_,_⟩:=hSq;go_simp<;>with_reducible rfl)
     simp only[Act.put,List.setIfInBounds_toArray,List.set_cons_succ,List.set_cons_zero]
     refine takeQ 3 ?vv10 (some 33) [] ?yy10 hSd ?rr10
     case yy10=>(intro wq hSq;obtain ⟨_,_⟩:=hSq;go_simp<;>with_reducible rfl)
     simp only[Act.put,List.setIfInBounds_toArray,List.set_cons_succ,List.set_cons_zero]
     refine takeQ 5 ?vv11 (some 35) [] ?yy11 hSd ?rr11
     case yy11=>(intro wq hSq;obtain ⟨_,_⟩:=hSq;go_simp<;>with_reducible rfl)
     simp only[Act.put,List.setIfInBounds_toArray,List.set_cons_succ,List.set_cons_zero]
     refine takeQ 7 ?vv12 (some 37) [] ?yy12 hSd ?rr12
     case yy12=>(intro wq hSq;obtain ⟨_,_⟩:=hSq;go_simp<;>with_reducible rfl)
     simp only[Act.put,List.setIfInBounds_toArray,List.set_cons_succ,List.set_cons_zero]
     refine XmaW (i:=8) (oi:=_) (v:=.int .i64 M) (some 38) [] rfl rfl (by kernel_rfl) (by kernel_rfl) (by kernel_rfl) (by kernel_rfl) (by kernel_rfl) (fun _ _ _ h=>h) (Or.inl ⟨by rfl,?yy13⟩) hSd ?rr13
     case yy13=>(intro wq hSq;obtain ⟨_,_⟩:=hSq;first|(go_simp;done)|(go_simp;rw[hM];try (go_simp<;>with_reducible rfl)))
     simp only[Act.put,List.setIfInBounds_toArray,List.set_cons_succ,List.set_cons_zero]
     refine jwFJ (i:=9) (j:=11) (oi:=_) (oj:=_) (by kernel_rfl) rfl rfl (fun K' hK=>?brA) (fun K' hK=>?brB)
     case brA =>
      rw[if_pos (by rfl)]
      go_simp
      have hB1:Below U.heap.size U (V3.alloc (Obj.cells (madeCells #[.int .i64 0] M) 3)).drew:=(hb3.alloc hb3.size _).drew
      have hSd:=HS9.out _ hB1
      refine hK.out _ _ hSd ?_
      clear hK
      try simp only[Act.put]
      refine takeQ 10 ?vv14 (some 40) [] ?yy14 hSd ?rr14
      case yy14=>(intro wq hSq;obtain ⟨_,_⟩:=hSq;go_simp<;>with_reducible rfl)
      simp only[Act.put,List.setIfInBounds_toArray,List.set_cons_succ,List.set_cons_zero]
      refine znWj (i:=11) (o:=_) (by kernel_rfl) rfl (fun K' hK=>?_)
      rw[if_pos (by rfl)]
      go_simp
      have hB2:Below U.heap.size U ((V3.alloc (Obj.cells (madeCells #[.int .i64 0] M) 3)).alloc (Obj.cells #[.int .i64 0,.int .i64 0,.slice none 0 0] 54)).drew:=((hb3.alloc hb3.size _).alloc (by simp;omega) _).drew
      have hSd:=HS9.out _ hB2
      refine hK.out _ _ hSd ?_
      clear hK
      try simp only[Act.put]
      refine z9gO (o:=_) (by kernel_rfl) rfl (fun K' hK=>?_)
      rw[if_pos (by rfl)]
      go_simp
      refine hK.out _ _ ?_
      clear hK
      refine jFdp (by kernel_rfl) ?_ _
      try simp only[Act.put]
      clear hSd
      go_wp2
      go_meet
      case rel=>exact ⟨V3.heap.size+1,some ⟨V3.heap.size,0,none⟩,M,rfl,(al2 V3 (Obj.cells (madeCells #[.int .i64 0] M) 3) (Obj.cells #[.int .i64 r.w,.int .i64 r.h,.slice (some ⟨V3.heap.size,0,none⟩) 0 M] 54)).2,(World.ownsRow_made (base:=w.heap.size) (e:=3) (size:=1) V3 (madeCells #[.int .i64 0] M) M (Nat.le_trans HB.out.size hs1) (by unfold maxLen;omega) (by simp[madeCells])).alloc _,by omega,((hb3.alloc hb3.size _).alloc (by simp;omega) _).drew⟩
     case brB =>
      rw[if_pos (by rfl)]
      go_simp
      have hBz:Below U.heap.size U (V3.alloc (Obj.cells #[.int .i64 0,.int .i64 0,.slice none 0 0] 54)).drew:=(hb3.alloc hb3.size _).drew
      have hSd:=HS9.out _ hBz
      refine hK.out _ _ hSd ?_
      clear hK
      try simp only[Act.put]
      have gz0:(V3.alloc (Obj.cells #[.int .i64 0,.int .i64 0,.slice none 0 0] 54)).drew.heap[V3.heap.size]?=_:=al1 V3 (Obj.cells #[.int .i64 0,.int .i64 0,.slice none 0 0] 54)
      have hlz:=(Array.getElem?_eq_some_iff.1 gz0).1
      generalize (V3.alloc (Obj.cells #[.int .i64 0,.int .i64 0,.slice none 0 0] 54)).drew=Vz at *
      have hq:U.heap.size≤V3.heap.size:=hs1
      generalize V3.heap.size=QX at *
      refine znWj (i:=9) (o:=_) (by kernel_rfl) rfl (fun K' hK=>?_)
      rw[if_pos (by rfl)]
      go_simp
      have hB1:Below U.heap.size U (Vz.alloc (Obj.cells (madeCells #[.int .i64 0] M) 3)):=hBz.alloc hBz.size _
      have hSd:=HS9.out _ hB1
      refine hK.out _ _ hSd ?_
      clear hK
      try simp only[Act.put]
      refine takeQ 10 ?vv15 (some 40) [] ?yy15 hSd ?rr15
      case yy15=>(intro wq hSq;obtain ⟨_,_⟩:=hSq;go_simp<;>with_reducible rfl)
      simp only[Act.put,List.setIfInBounds_toArray,List.set_cons_succ,List.set_cons_zero]
      have gz:=((qUNz Vz (Obj.cells (madeCells #[.int .i64 0] M) 3)).block QX hlz).trans gz0
      have ho:=World.ownsRow_made (base:=w.heap.size) (e:=3) (size:=1) Vz (madeCells #[.int .i64 0] M) M (Nat.le_trans HB.out.size hBz.size) (by unfold maxLen;omega) (by simp[madeCells])
      generalize Vz.alloc (Obj.cells (madeCells #[.int .i64 0] M) 3)=Vy at *
      generalize Vz.heap.size=MX at *
      obtain ⟨z0,z1,z2⟩:=z5EY gz
      have f0:=Lib.frozen_of_heap gz 0
      have f1:=Lib.frozen_of_heap gz 1
      have f2:=Lib.frozen_of_heap gz 2
      obtain ⟨vS,_,_,_⟩:=X0Wz gz (.int .i64 r.w) (.int .i64 r.h) (.slice (some ⟨MX,0,none⟩) 0 M) w (Nat.le_trans HB.out.size hq) (HB.out.trans (hB1.mono HB.out.size))
      have hB4:=zHqh hB1 hq (.int .i64 r.w) (.int .i64 r.h) (.slice (some ⟨MX,0,none⟩) 0 M)
      have hne:(Value.slice (some ⟨MX,0,none⟩) 0 M).ownBlock≠some QX:=fun e=>qYYy ho gz (by decide) e.symm
      have HO:=hide (zh4b ho hne (.int .i64 r.w) (.int .i64 r.h) (.slice (some ⟨MX,0,none⟩) 0 M))
      refine z9gO (o:=_) (by kernel_rfl) rfl (fun K' hK=>?_)
      rw[if_pos (by rfl)]
      go_simp
      refine hK.out _ _ ?_
      clear hK
      refine jFdp (by kernel_rfl) ?_ _
      try simp only[Act.put]
      clear hSd
      go_wp2
      go_meet
      case rel=>exact ⟨QX,some ⟨MX,0,none⟩,M,rfl,vS,HO.out,hq,hB4⟩
    case rest =>
     obtain ⟨QX,so0,cap0,rfl,vS0,vO0,hQX,vB0⟩:=hcut
     have HJ0:=hide (show PlJ w r RQ QX 0 wc from ⟨so0,cap0,rfl,vS0,vO0,(vB0.block _ hl1).trans a1,(vB0.block _ hl2).trans a2,quJN HB.out vB0⟩)
     have hQw:w.heap.size+1<QX:=by omega
     obtain ⟨s0,s1,s2,s3,s4,s5,s6,s13,s26⟩:=HRC.out _ ((vB0.block _ hl1).trans a1)
     clear vS0 vO0 vB0 hs1 HS9 HS hmk hM hwm hM4 hb3
     have HUW:=hide HB.out.size
     clear HZZ HFZ HBZ a1 a2 hl1 hl2 HB hQX
     go_wp2_with fail
     clear s0 s1 s2 s3 s4 s5 s6 s13 s26
     go_loopw [44] (fun i wr=>∃k:Nat,k≤r.strips.length∧i=.int .i64 k∧PlJ w r RQ QX k wr) (fun i _=>r.strips.length-(intOf i).toNat)
     case atStart=>exact ⟨0,Nat.zero_le _,rfl,HJ0.out⟩
     case round =>
      clear HJ0
      obtain ⟨k,hk,rfl,hJ⟩:=hrel
      have HJ:=hide hJ
      obtain ⟨so,cap,j1,j3,j4,j5,j6,j8⟩:=hJ
      by_cases hlt:k<r.strips.length
      ·have hd:decide ((k:Int)<(r.strips.length:Int))=true:=by simp;omega
       obtain ⟨sb,soff,rfl,hsb,hsc0⟩:=(HST.out.below j8 (Nat.le_refl _)).at k hlt
       have hlc:k<cntN r:=by have:=HNC.out;omega
       have HSR:=hide (fun (u:World)=>HSR0.out k u HHD.out hlc)
       have HRS:=hide (fun (u:World) (hu:Below w.heap.size w u)=>HRS0.out k u HHD.out hlc hu)
       have HEI:=hide (HHD.out.stE hlc (stAt r k))
       have HLN:=hide (fun h0=>jO8C HHD.out hlc (s:=stAt r k) h0)
       have HSZ:=hide (HHD.out.size hlc)
       have hsc:wr.cell? ⟨sb,soff+k,none⟩=some (.string (str (stAt r k))):=hsc0
       clear hsc0
       have HZF:=hide (fun hk0=>jvNx (r:=r) hlt hk0)
       have HPL:=hide (z1r6 HHD.out k (by omega) j1)
       have HSU:=hide (XcbT r k)
       have HOK:=hide (show stE r (stAt r k) (rowN r k)=0→stOk r (k+1)=true from fun h0=>by rw[qGwq,j1,h0];rfl)
       generalize stAt r k=SS at *
       generalize rowN r k=RN at *
       have hl1:=(Array.getElem?_eq_some_iff.1 j5).1
       have HS:=hide (show ∀v,Below wr.heap.size wr v→v.heap[w.heap.size]?=some (.cells RQ 57 (0,0))∧True from fun v h=>⟨(h.block _ hl1).trans j5,trivial⟩)
       clear j1 j3 j4 j5 j6 HSR0 HRS0
       go_upto_region 13 with fail
       have hWd:Below wr.heap.size wr wr.drew:=(Below.refl _ _).drew
       have hSd:=HS.out _ hWd
       have hmx:Tryz.prog.follows .mixedOrders=true:=by kernel_rfl
       refine qYgd (S:=(fun v:World=>v.heap[w.heap.size]?=some (.cells RQ 57 (0,0))∧True)) (f:=10) hmx ?_
       show jZdv _ _ _ _ _ _ 11 _ _ wr.drew
       refine XmaW (i:=0) (oi:=_) (v:=.agg RQ) (some 50) [] rfl rfl (by kernel_rfl) (by kernel_rfl) (by kernel_rfl) (by kernel_rfl) (by kernel_rfl) (fun _ _ _ h=>h) (Or.inl ⟨by rfl,?yy16⟩) hSd ?rr16
       case yy16=>(intro wq hSq;obtain ⟨hq1,hq2⟩:=hSq;exact XMYj 57 _ rfl _ rfl _ _ _ _ hq1 Tryz.underlying57 rfl hi28)
       simp only[Act.put,List.setIfInBounds_toArray,List.set_cons_succ,List.set_cons_zero]
       refine takeQ 1 ?vv17 (some 51) [] ?yy17 hSd ?rr17
       case yy17=>(intro wq hSq;obtain ⟨hq1,hq2⟩:=hSq;go_simp<;>with_reducible rfl)
       simp only[Act.put,List.setIfInBounds_toArray,List.set_cons_succ,List.set_cons_zero]
       refine XmaW (i:=2) (oi:=_) (v:=.agg RQ) (some 52) [] rfl rfl (by kernel_rfl) (by kernel_rfl) (by kernel_rfl) (by kernel_rfl) (by kernel_rfl) (fun _ _ _ h=>h) (Or.inl ⟨by rfl,?yy18⟩) hSd ?rr18
       case yy18=>(intro wq hSq;obtain ⟨hq1,hq2⟩:=hSq;exact XMYj 57 _ rfl _ rfl _ _ _ _ hq1 Tryz.underlying57 rfl hi28)
       simp only[Act.put,List.setIfInBounds_toArray,List.set_cons_succ,List.set_cons_zero]
       refine takeQ 3 ?vv19 (some 53) [] ?yy19 hSd ?rr19
       case yy19=>(intro wq hSq;obtain ⟨hq1,hq2⟩:=hSq;go_simp<;>with_reducible rfl)
       simp only[Act.put,List.setIfInBounds_toArray,List.set_cons_succ,List.set_cons_zero]
       refine znWj (i:=4) (o:=_) (by kernel_rfl) rfl (fun K' hK=>?_)
       rw[if_pos (by rfl)]
       go_simp
       refine (HSR.out _).mono ?_
       rintro e X1 ⟨rfl,hx1⟩
       have hX1:Below wr.heap.size wr X1:=hWd.trans (hx1.mono hWd.size)
       have hSd:=HS.out _ hX1
       refine hK.out _ _ hSd ?_
       clear hK
       try simp only[Act.put]
       refine znWj (i:=5) (o:=_) (by kernel_rfl) rfl (fun K' hK=>?_)
       rw[if_pos (by rfl)]
       go_simp
       refine (HRS.out _ (quJN j8 hX1)).mono ?_
       rintro e X2 ⟨v,rfl,hv,hx2⟩
       have hX2:Below wr.heap.size wr X2:=quJN hX1 hx2
       have HV:=hide hv
       obtain ⟨vo,vc,rfl,y1,y2⟩:=hv
       clear y1 y2
       have hSd:=HS.out _ hX2
       refine hK.out _ _ hSd ?_
       clear hK
       try simp only[Act.put]
       refine takeQ 6 ?vv20 (some 49) [] ?yy20 hSd ?rr20
       case yy20=>(intro wq hSq;obtain ⟨hq1,hq2⟩:=hSq;go_simp<;>with_reducible rfl)
       simp only[Act.put,List.setIfInBounds_toArray,List.set_cons_succ,List.set_cons_zero]
       refine takeQ 7 ?vv21 (some 56) [] ?yy21 hSd ?rr21
       case yy21=>(intro wq hSq;obtain ⟨hq1,hq2⟩:=hSq;go_simp<;>with_reducible rfl)
       simp only[Act.put,List.setIfInBounds_toArray,List.set_cons_succ,List.set_cons_zero]
       refine takeQ 8 ?vv22 (some 57) [] ?yy22 hSd ?rr22
       case yy22=>(intro wq hSq;obtain ⟨hq1,hq2⟩:=hSq;go_simp<;>with_reducible rfl)
       simp only[Act.put,List.setIfInBounds_toArray,List.set_cons_succ,List.set_cons_zero]
       refine znWj (i:=9) (o:=_) (by kernel_rfl) rfl (fun K' hK=>?_)
       rw[if_pos (by rfl)]
       go_simp
       have hSd:=hSd
       refine hK.out _ _ hSd ?_
       clear hK
       try simp only[Act.put]
       refine z9gO (o:=_) (by kernel_rfl) rfl (fun K' hK=>?_)
       rw[if_pos (by rfl)]
       go_simp
       refine hK.out _ _ ?_
       clear hK
       refine jFdp (by kernel_rfl) ?_ _
       try simp only[Act.put]
       clear hSd hWd hx1 hx2 hX1
       have HJ2:=hide (HJ.out.below hX2)
       clear HJ j8 HS HRS HSR
       obtain ⟨so,cap,k1,k3,k4,k5,k6,k8⟩:=HJ2.out
       by_cases h0:stE r SS RN=0
       ·rw[h0]
        have hln:=HLN.out h0
        have hsz:=HSZ.out
        have HOW:=hide k4
        have HK3:=hide k3
        obtain ⟨q0,q1,q2⟩:=z5EY k3
        have hpl:=HPL.out
        generalize stZ r SS RN=Y at *
        have HVP:=hide (HV.out)
        obtain ⟨vo',vc',hve,_,hvo⟩:=HVP.out
        cases hve
        rcases hvo with hvo|⟨pb,po,rfl,hpb,hpc⟩
        ·exfalso
         rw[hvo] at hln
         simp at hln
         omega
        have HFC:=hide (show ∀j u,(Y.map (Value.int .i64))[j]?=some u→X2.cell? ((⟨pb,po,none⟩:Addr).add j)=some u from fun j u hj=>by
         rw[List.getElem?_map] at hj
         obtain ⟨z,hz,rfl⟩:=Option.map_eq_some_iff.1 hj
         obtain ⟨hl,rfl⟩:=List.getElem?_eq_some_iff.1 hz
         rw[Addr.add_lit]
         exact hpc j hl)
        obtain ⟨P,hPU⟩:∃P,plUp r k=P:=⟨_,rfl⟩
        rw[hPU] at HOW HK3 HSU hpl q2
        have hyl:Y.length≤4096:=by omega
        have hy1:1≤Y.length:=by omega
        have hk8s:=k8.size
        clear hpc hln hsz
        go_wp2_with (at_builtin;refine wpList_append_own _ rfl _ _ 52 rfl w.heap.size 3 i0 (.int .i64 0) 1 8 Tryz.underlying52 hi hz0 hz1 hz2 rfl (by decide) _ P.length (P.map (Value.int .i64)) rfl HOW.out ⟨pb,po,none⟩ Y.length vc (Y.map (Value.int .i64)) rfl ?qc1 ?qc2 ?qc3 ?qc4 ?qc5 ?qc6 ?_)
        case qc1=>rw[List.length_map,Nat.mul_one]
        case qc2=>exact HFC.out
        case qc3=>intro u hu;obtain ⟨z,_,rfl⟩:=List.mem_map.1 hu;rfl
        case qc4=>unfold maxLen;omega
        case qc5=>omega
        case qc6=>exact hk8s
        intro v' w1 hown hgrow hnil
        rcases id hown.2 with ⟨_,hn0⟩|⟨g,cp,cur,rfl,_⟩
        ·exfalso;omega
        obtain ⟨_,c2,fz,g1,g2,g3,g4⟩:=j7Ww (by decide) HK3.out HOW.out k8 (Nat.le_refl _) (show w.heap.size≤QX by omega) (Below.refl _ _) hgrow hown
        have hpe:(plUp r (k+1)).length=P.length+Y.length:=by rw[HSU.out,List.length_append]
        have hpm:(plUp r (k+1)).map (Value.int .i64)=P.map (Value.int .i64)++Y.map (Value.int .i64):=by rw[HSU.out,List.map_append]
        have HJ3:=hide (show PlJ w r RQ QX (k+1) _ from ⟨some ⟨g,0,none⟩,cp,HOK.out h0,by rw[hpe];exact g1,by rw[hpe,hpm];exact g2,
         (g4 _ (Array.getElem?_eq_some_iff.1 k5).1 (qYYy (by rw[hPU] at k4;exact k4) k5 (by decide)) (by omega)).trans k5,(g4 _ (Array.getElem?_eq_some_iff.1 k6).1 (qYYy (by rw[hPU] at k4;exact k4) k6 (by decide)) (by omega)).trans k6,g3⟩)
        clear g1 g2 g3 g4 k1 k3 k4 k5 k6 k8 hown hgrow hnil q0 q1 q2 hpe hpm
        go_wp2
        go_roundw
        case rel=>exact ⟨k+1,hlt,by go_num,HJ3.out⟩
        case measure=>simp[intOf];omega
       ·rcases HEI.out with he|he
        ·exact absurd he h0
        rw[he]
        have hzf:=HZF.out h0
        have hee:E=1:=by rw[HE.out,hzf];rfl
        subst hee
        have hz:Z=[]:=by rw[HZ.out];rfl
        have hpw:PW=0:=by rw[HW.out];rfl
        have hph:PH=0:=by rw[HH.out];rfl
        subst hz hpw hph
        obtain ⟨z0,z1,z2⟩:=z5EY k6
        have f0:=Lib.frozen_of_heap k6 0
        have f1:=Lib.frozen_of_heap k6 1
        have f2:=Lib.frozen_of_heap k6 2
        have HBZ:=hide (zHqh k8 (show w.heap.size≤w.heap.size+1 by omega) (.int .i64 0) (.int .i64 0) (.slice none 0 0))
        clear k1 k3 k4 k5 k6 k8
        go_wp2
        refine bodyPost_ret (v:=.tuple #[.agg #[.int .i64 0,.int .i64 0,.slice none 0 0],.int .i64 1]) (by simp[results,Tryz.results48,go_sem,z0,z1,z2]) rfl ⟨_,rfl,jCvT.nil _,HBZ.out,Fresh.nil _⟩
      ·have hd:decide ((k:Int)<(r.strips.length:Int))=false:=by simp;omega
       obtain rfl:k=r.strips.length:=by omega
       have he:E=0:=by rw[HE.out,if_pos j1]
       subst he
       rw[if_pos rfl] at HZ HW HH
       obtain ⟨y0,y1,y2⟩:=z5EY j3
       obtain ⟨z0,z1,z2⟩:=z5EY j6
       have f0:=Lib.frozen_of_heap j6 0
       have f1:=Lib.frozen_of_heap j6 1
       have f2:=Lib.frozen_of_heap j6 2
       have hpl:=z1r6 HHD.out r.strips.length (by have:=HNC.out;omega) j1
       have hne:(Value.slice so (plUp r r.strips.length).length cap).ownBlock≠some (w.heap.size+1):=fun e=>qYYy j4 j6 (by decide) e.symm
       have hpx:jCvT wr (.slice so (plUp r r.strips.length).length cap) (plUp r r.strips.length):=jCvT.own j4 (by omega)
       have HX:=hide (hpx.other (zv5i wr (w.heap.size+1) (.int .i64 r.w) (.int .i64 r.h) (.slice so (plUp r r.strips.length).length cap)) (fun b hb=>jZhz _ _ _ _ _ b hb) hne)
       have HF:=hide (zHqh j8 (show w.heap.size≤w.heap.size+1 by omega) (.int .i64 r.w) (.int .i64 r.h) (.slice so (plUp r r.strips.length).length cap))
       have HFR:=hide (Fresh.own j4)
       have hpw:=HW.out
       have hph:=HH.out
       have hzz:=HZ.out
       obtain ⟨N,hN⟩:∃N,(plUp r r.strips.length).length=N:=⟨_,rfl⟩
       rw[hN] at HX HF HFR y2
       rw[←hzz] at HX
       clear j1 j3 j4 j5 j6 j8 hpx hne hN hpl hzz HZ HW HH
       subst hpw hph
       go_wp2
       refine bodyPost_ret (v:=.tuple #[.agg #[.int .i64 r.w,.int .i64 r.h,.slice so N cap],.int .i64 0]) (by simp[results,Tryz.results48,go_sem,z0,z1,z2]) rfl ⟨_,rfl,HX.out,HF.out,HFR.out⟩
   ·rw[if_neg hP] at HE
    have hn:(pErr r != 0)=true:=by simpa using hP
    have he:E=pErr r:=HE.out
    subst he
    have HEN:=hide hP
    have hz:Z=[]:=by rw[HZ.out,if_neg HEN.out]
    have hpw:PW=0:=by rw[HW.out,if_neg HEN.out]
    have hph:PH=0:=by rw[HH.out,if_neg HEN.out]
    subst hz hpw hph
    obtain ⟨z0,z1,z2⟩:=HZZ.out V3 hb3
    have f0:=HFZ.out V3 hb3 0
    have f1:=HFZ.out V3 hb3 1
    have f2:=HFZ.out V3 hb3 2
    go_wp2
    refine bodyPost_ret (v:=.tuple #[.agg #[.int .i64 0,.int .i64 0,.slice none 0 0],.int .i64 (pErr r)]) (by simp[results,Tryz.results48,go_sem,z0,z1,z2]) rfl ⟨_,rfl,jCvT.nil _,HBZ.out V3 hb3,Fresh.nil _⟩
  ·rw[if_neg hN] at HE
   have hn:((r.strips.length:Int) != (cntN r:Int))=true:=bne_iff_ne.2 (by omega)
   have he:E=2:=HE.out
   subst he
   have HEN:=hide (show ¬(2:Int)=0 by decide)
   clear hN
   generalize cntN r=C at *
   have hz:Z=[]:=by rw[HZ.out,if_neg HEN.out]
   have hpw:PW=0:=by rw[HW.out,if_neg HEN.out]
   have hph:PH=0:=by rw[HH.out,if_neg HEN.out]
   subst hz hpw hph
   obtain ⟨z0,z1,z2⟩:=HZZ.out V2 hB2
   have f0:=HFZ.out V2 hB2 0
   have f1:=HFZ.out V2 hB2 1
   have f2:=HFZ.out V2 hB2 2
   go_wp2
   refine bodyPost_ret (v:=.tuple #[.agg #[.int .i64 0,.int .i64 0,.slice none 0 0],.int .i64 2]) (by simp[results,Tryz.results48,go_sem,z0,z1,z2]) rfl ⟨_,rfl,jCvT.nil _,HBZ.out V2 hB2,Fresh.nil _⟩
 ·rw[if_neg hF] at HE
  have hn:(headE r != 0)=true:=by simpa using hF
  have he:E=headE r:=HE.out
  subst he
  have HEN:=hide hF
  have hz:Z=[]:=by rw[HZ.out,if_neg HEN.out]
  have hpw:PW=0:=by rw[HW.out,if_neg HEN.out]
  have hph:PH=0:=by rw[HH.out,if_neg HEN.out]
  subst hz hpw hph
  obtain ⟨z0,z1,z2⟩:=HZZ.out V1 hb1
  have f0:=HFZ.out V1 hb1 0
  have f1:=HFZ.out V1 hb1 1
  have f2:=HFZ.out V1 hb1 2
  go_wp2
  refine bodyPost_ret (v:=.tuple #[.agg #[.int .i64 0,.int .i64 0,.slice none 0 0],.int .i64 (headE r)]) (by simp[results,Tryz.results48,go_sem,z0,z1,z2]) rfl ⟨_,rfl,jCvT.nil _,HBZ.out V1 hb1,Fresh.nil _⟩
theorem j0f2 (r:RawF) (lv tv sv cv:Value) (w:World) (hr:IsRaw w r lv tv sv cv) :
  Calls Tryz.prog 103 #[.agg (rawA r lv tv sv cv)] w fun e w'=>e=.returned (.int .i64 (XDWf r))∧Below w.heap.size w w':=by
 have HB:=hide (qUNz w (Obj.cells (rawA r lv tv sv cv) 57))
 have a1:=al1 w (Obj.cells (rawA r lv tv sv cv) 57)
 have HC:=hide (fun (u:World) (hu:Below w.heap.size w u)=>XAFS r lv tv sv cv u (hr.below hu (Nat.le_refl _)))
 generalize XDWf r=E at *
 generalize XH9X r=PW at *
 generalize zq73 r=PH at *
 go_enter Tryz.func103,Tryz.ntmps103
 go_wp2_with (refine wpList_load_row rfl 57 _ rfl _ rfl _ _ _ _ a1 Tryz.underlying57 rfl (by kernel_rfl) ?_)
 refine (HC.out _ HB.out).mono ?_
 rintro e V1 ⟨v,rfl,hv,hb1,_⟩
 obtain ⟨vo,vc,rfl,_,_⟩:=hv
 go_wp2
 go_ret
 exact ⟨rfl,quJN (quJN HB.out hb1) (qUNz _ _)⟩
def darkL:List UInt8:=[100,97,114,107]
def headL (r:RawF):List Int:=[r.w,r.h,r.depth,r.kind,r.rows]
def rawW (r:RawF):List UInt8:=textW darkL++((headL r).flatMap num4++(listW num4 r.lens++(listW textW r.strips++planW r.plan)))
theorem Xgax (B b:Nat) (l:List UInt8) (w:World) (h:IsWr B b l w) (h0:l≠[]) :
  Calls Tryz.prog 32 #[.pointer (some ⟨b,0,none⟩)] w fun e w'=>e=.returned (.string (str l))∧Below B w w':=by
 obtain ⟨p,hB,v,hbk,hown,hne⟩:∃p,Lib.BuilderAt 195 5 B b p (byt l) w:=by
  rcases h with h|h
  ·exact ⟨_,h⟩
  ·exact ⟨_,h⟩
 have hl0:l.length≠0:=by simpa using h0
 rw[q82q] at hown
 obtain ⟨g,cap,cur,rfl,hbg,hg,hnc,hcm,hcs,htake⟩:∃g cap cur,v=.slice (some ⟨g,0,none⟩) l.length cap∧B≤g∧w.heap[g]?=some (.cells cur 5 (0,0))∧l.length≤cap∧cap≤maxLen∧cur.size=cap*1∧cur.toList.take (l.length*1)=byt l:=by
  rcases hown.2 with ⟨_,hz⟩|⟨g,cap,cur,hv,r⟩
  ·exact absurd hz hl0
  ·exact ⟨g,cap,cur,hv,r⟩
 have c1:w.drew.cell? ⟨b,1,none⟩=some (.slice (some ⟨g,0,none⟩) l.length cap):=by
  have:w.drew.heap[b]?=some (.cells #[p,.slice (some ⟨g,0,none⟩) l.length cap] 195 (0,0)):=hbk
  rw[Lib.cell_of_heap this];rfl
 have hSD:(Builtin.unsafeSliceData_ #[74] 147 #[.slice (some ⟨g,0,none⟩) l.length cap]).run Tryz.prog w.drew=.ok (.pointer (some ⟨g,0,none⟩)) w.drew :=
  Lib.run_unsafeSliceData_row _ _ _ _ _ _ (by omega)
 have hUS:(Builtin.unsafeString_ #[147,3] 9 #[.pointer (some ⟨g,0,none⟩),.int .i64 l.length]).run Tryz.prog w.drew=.ok (.string (str l)) (w.drew.freeze ⟨g,0,none⟩ l.length):=by
  refine Lib.run_unsafeString_row w.drew 147 3 9 5 Tryz.underlying147 (by kernel_rfl) g cur.size (by have hg':w.drew.heap[g]?=some (.cells cur 5 (0,0)):=hg;simp[World.shape?,hg']) l h0 (by omega) (by unfold maxLen at hcm;omega) ?_
  intro j x hx
  have:=hown.cells (g:=g) rfl j (.int .u8 x.toNat) (by rw[byt_get?,hx];rfl)
  exact this
 clear hown htake hnc hcm hcs
 have mixed:Tryz.prog.follows .mixedOrders=true:=by kernel_rfl
 go_enter Tryz.func32,Tryz.ntmps32
 go_wp2
 go_region_o
 all_goals (go_wp2;go_ret;exact ⟨rfl,Lib.below_freeze (Below.drew (Below.refl B w)) (p:=⟨g,0,none⟩) hbg _⟩)
theorem ints5b (w:World) (a b c d e:Int):jCvT (w.alloc (.cells #[.int .i64 a,.int .i64 b,.int .i64 c,.int .i64 d,.int .i64 e] 3)) (.slice (some ⟨w.heap.size,0,none⟩) 5 5) [a,b,c,d,e] :=
 jCvT.own (base:=w.heap.size) (World.ownsRow_lit w #[.int .i64 a,.int .i64 b,.int .i64 c,.int .i64 d,.int .i64 e] 5 (Nat.le_refl _) (by decide) (by simp)) (by simp)
theorem zGcC.step {B b:Nat} {u:Value} {ts:List (List UInt8)} {w w':World} (h:zGcC w u ts) (hs:WStep B b w w') (ha:Apart B b u w):zGcC w' u ts:=by
 obtain ⟨ao,cap,rfl,hl,h⟩:=h
 refine ⟨ao,cap,rfl,hl,?_⟩
 rcases h with h|⟨c,off,rfl,hlt,hc⟩
 ·exact .inl h
 ·refine .inr ⟨c,off,rfl,Nat.lt_of_lt_of_le hlt hs.bel.size,fun j hj=>?_⟩
  rw[World.cell?_of_block (a:=⟨c,off+j,none⟩) (hs.block hlt (ha c rfl hlt))]
  exact hc j hj
theorem zLc9 {B b:Nat} {u:Value} {xs:List Int} {w V:World} (h:jCvT w u xs) (hB:w.heap.size≤B):xs=[]∨Apart B b u V:=by
 obtain ⟨ao,cap,rfl,_,h⟩:=h
 rcases h with h|⟨c,off,rfl,hlt,_⟩
 ·exact .inl h
 ·exact .inr fun k hk _=>by simp only[Value.ownBlock,Option.some.injEq] at hk;exact .inl (by omega)
theorem zJ9I {B b:Nat} {u:Value} {xs:List Pt} {w V:World} (h:IsPts w u xs) (hB:w.heap.size≤B):xs=[]∨Apart B b u V:=by
 obtain ⟨ao,cap,rfl,_,h⟩:=h
 rcases h with h|⟨c,off,rfl,hlt,_⟩
 ·exact .inl h
 ·exact .inr fun k hk _=>by simp only[Value.ownBlock,Option.some.injEq] at hk;exact .inl (by omega)
theorem XNGw {ts:List (List UInt8)} {k:Nat} (hk:k<ts.length):ts.getD k []=ts[k]:=by simp[hk]
theorem qDmh (ts:List (List UInt8)) (k:Nat) (hk:k<ts.length):(ts.take (k+1)).flatMap textW=(ts.take k).flatMap textW++textW (ts.getD k []):=by
 rw[List.take_succ_eq_append_getElem hk,List.flatMap_append,XNGw hk];simp
theorem XrxZ {ts:List (List UInt8)} {M:Nat} (h:∀s∈ts,s.length≤M) (k:Nat):((ts.take k).flatMap textW).length≤k*(M+4):=by
 induction k generalizing ts with
 | zero=>simp
 | succ k ih =>
  cases ts with
  | nil=>simp
  | cons s ts =>
   have h1:=ih (ts:=ts) (fun x hx=>h x (by simp[hx]))
   have h2:=h s (by simp)
   rw[List.take_succ_cons,List.flatMap_cons,List.length_append,textW,List.length_append,jp6u,Nat.add_mul]
   omega
theorem jESC (r:RawF) (lv tv sv cv:Value) (w:World) (hr:IsRaw w r lv tv sv cv) (g1:r.lens.length≤1048576) (g2:r.strips.length≤64) (g3:∀s∈r.strips,s.length≤1048576) (g4:r.plan.spots.length≤1048576) (g5:r.plan.curve.length≤1048576) :
  Calls Tryz.prog 104 #[.agg (rawA r lv tv sv cv)] w fun e w'=>e=.returned (.string (str (rawW r)))∧Below w.heap.size w w':=by
 have HR:=hide hr
 obtain ⟨lp,lc,rfl,hll,hlr⟩:=hr.lens
 obtain ⟨tp,tc,rfl,htl,htr⟩:=hr.strips
 have HT:=hide (XrxZ g3)
 have HGS:=hide (show ∀k,k<r.strips.length→(r.strips.getD k []).length≤1048576 from fun k hk=>g3 _ (by rw[XNGw hk];exact List.getElem_mem hk))
 clear hr g3 hlr htr
 obtain ⟨a1,a2⟩:=al2 w (Obj.cells (rawA r (.slice lp r.lens.length lc) (.slice tp r.strips.length tc) sv cv) 57) (Obj.cells #[.pointer none,.slice none 0 0] 195)
 have HB:=hide (be2 w (Obj.cells (rawA r (.slice lp r.lens.length lc) (.slice tp r.strips.length tc) sv cv) 57) (Obj.cells #[.pointer none,.slice none 0 0] 195))
 have hl1:=(Array.getElem?_eq_some_iff.1 a1).1
 have hl2:=(Array.getElem?_eq_some_iff.1 a2).1
 have HT0:=hide (Xzfy a1)
 have HWS:=hide (show IsWr (w.heap.size+1) (w.heap.size+1) [] ((w.alloc (Obj.cells (rawA r (.slice lp r.lens.length lc) (.slice tp r.strips.length tc) sv cv) 57)).alloc (Obj.cells #[.pointer none,.slice none 0 0] 195)) from .inl ⟨Nat.le_refl _,_,a2,⟨rfl,.inl ⟨rfl,rfl⟩⟩,by simp[Value.ownBlock]⟩)
 have HRC:=hide (fun (v:World) (h:v.heap[w.heap.size]?=some (.cells (rawA r (.slice lp r.lens.length lc) (.slice tp r.strips.length tc) sv cv) 57 (0,0)))=>zUTj h)
 have HPA:=hide (fun (v:World) (h:v.heap[w.heap.size]?=some (.cells (rawA r (.slice lp r.lens.length lc) (.slice tp r.strips.length tc) sv cv) 57 (0,0)))=>Xzfy h)
 obtain ⟨s0,s1,s2,s3,s4,s5,s6,s13,s26⟩:=zUTj a1
 go_enter Tryz.func104,Tryz.ntmps104
 go_wp2_with fail
 clear s0 s1 s2 s3 s4 s5 s6 s13 s26 HT0
 generalize (w.alloc (Obj.cells (rawA r (.slice lp r.lens.length lc) (.slice tp r.strips.length tc) sv cv) 57)).alloc (Obj.cells #[.pointer none,.slice none 0 0] 195)=U at *
 generalize (rawA r (.slice lp r.lens.length lc) (.slice tp r.strips.length tc) sv cv)=RQ at *
 have hB0:w.heap.size+1≤U.heap.size:=by omega
 have hb0:w.heap.size+1<U.heap.size:=hl2
 have HBV:=hide (show ∀V,WStep (w.heap.size+1) (w.heap.size+1) U V→Below w.heap.size w V from fun V hV=>HB.out.trans (hV.bel.mono (by omega)))
 have HBK:=hide (show ∀V,WStep (w.heap.size+1) (w.heap.size+1) U V→V.heap[w.heap.size]?=some (.cells RQ 57 (0,0)) from fun V hV=>(hV.bel.block _ (by omega)).trans a1)
 have HST:=hide (WStep.refl (w.heap.size+1) (w.heap.size+1) U)
 clear a1 a2 hl1 hl2
 have HW:=HWS
 have HL:=hide (show ([]:List UInt8).length≤0 from Nat.le_refl _)
 clear HWS
 have hBV:w.heap.size+1≤U.heap.size:=Nat.le_trans hB0 HST.out.bel.size
 have hbV:w.heap.size+1<U.heap.size:=Nat.lt_of_lt_of_le hb0 HST.out.bel.size
 refine (X2Cx (w.heap.size+1) (w.heap.size+1) [] darkL _ HW.out (by decide) hBV hbV).mono ?_
 rintro e V1 ⟨rfl,hW',hS'⟩
 replace HST:=hide (HST.out.trans hS')
 obtain ⟨L1,HQ1⟩:∃L1,Hid (([]:List UInt8)++textW darkL=L1):=⟨_,rfl⟩
 rw[HQ1.out] at hW'
 replace HW:=hide hW'
 replace HL:=hide (show L1.length≤8 by rw[←HQ1.out,List.length_append,show (textW darkL).length=8 from rfl];have:=HL.out;(try simp);(try omega))
 clear hW' hS' hBV hbV
 obtain ⟨s0,s1,s2,s3,s4,s5,s6,s13,s26⟩:=HRC.out _ (HBK.out V1 HST.out)
 go_wp2_with fail
 clear s0 s1 s2 s3 s4 s5 s6 s13 s26
 have hBV:w.heap.size+1≤V1.heap.size:=Nat.le_trans hB0 HST.out.bel.size
 have hbV:w.heap.size+1<V1.heap.size:=Nat.lt_of_lt_of_le hb0 HST.out.bel.size
 have HG:=hide (WStep.alloc (B:=(w.heap.size+1)) (b:=(w.heap.size+1)) hBV (Obj.cells #[.int .i64 r.w,.int .i64 r.h,.int .i64 r.depth,.int .i64 r.kind,.int .i64 r.rows] 3))
 have HWA:=hide (HW.out.alloc (Obj.cells #[.int .i64 r.w,.int .i64 r.h,.int .i64 r.depth,.int .i64 r.kind,.int .i64 r.rows] 3))
 have HIA:=hide (ints5b V1 r.w r.h r.depth r.kind r.rows)
 have hga:=al1 V1 (Obj.cells #[.int .i64 r.w,.int .i64 r.h,.int .i64 r.depth,.int .i64 r.kind,.int .i64 r.rows] 3)
 have HAA:=hide (wints (B:=(w.heap.size+1)) (b:=(w.heap.size+1)) (c:=5) (ca:=5) (xs:=[]) hga (by omega) (by decide))
 have HLA:=hide (show L1.length+([r.w,r.h,r.depth,r.kind,r.rows]:List Int).length*4≤140737488355328 by have:=HL.out;simp;omega)
 have hBA:=Nat.le_trans hBV HG.out.bel.size
 have hbA:=Nat.lt_of_lt_of_le hbV HG.out.bel.size
 clear hga
 generalize V1.alloc (Obj.cells #[.int .i64 r.w,.int .i64 r.h,.int .i64 r.depth,.int .i64 r.kind,.int .i64 r.rows] 3)=VA at *
 replace HST:=hide (HST.out.trans HG.out)
 refine (zhLR (w.heap.size+1) (w.heap.size+1) L1 _ [r.w,r.h,r.depth,r.kind,r.rows] _ HWA.out HIA.out HAA.out HLA.out hBA hbA).mono ?_
 rintro e V2 ⟨rfl,hW',hS'⟩
 replace HST:=hide (HST.out.trans hS')
 obtain ⟨L2,HQ2⟩:∃L2,Hid (L1++([r.w,r.h,r.depth,r.kind,r.rows]:List Int).flatMap num4=L2):=⟨_,rfl⟩
 rw[HQ2.out] at hW'
 replace HW:=hide hW'
 replace HL:=hide (show L2.length≤28 by rw[←HQ2.out,List.length_append,j6hd];have:=HL.out;(try simp);(try omega))
 clear hW' hS' hBV hbV
 clear HG HWA HIA HAA HLA hBA hbA
 obtain ⟨s0,s1,s2,s3,s4,s5,s6,s13,s26⟩:=HRC.out _ (HBK.out V2 HST.out)
 go_wp2_with fail
 clear s0 s1 s2 s3 s4 s5 s6 s13 s26
 have hBV:w.heap.size+1≤V2.heap.size:=Nat.le_trans hB0 HST.out.bel.size
 have hbV:w.heap.size+1<V2.heap.size:=Nat.lt_of_lt_of_le hb0 HST.out.bel.size
 have HG:=hide (WStep.alloc (B:=(w.heap.size+1)) (b:=(w.heap.size+1)) hBV (Obj.cells #[.int .i64 r.lens.length] 3))
 have HWA:=hide (HW.out.alloc (Obj.cells #[.int .i64 r.lens.length] 3))
 have HIA:=hide (ints1 V2 r.lens.length)
 have hga:=al1 V2 (Obj.cells #[.int .i64 r.lens.length] 3)
 have HAA:=hide (wints (B:=(w.heap.size+1)) (b:=(w.heap.size+1)) (c:=1) (ca:=1) (xs:=[]) hga (by omega) (by decide))
 have HLA:=hide (show L2.length+([(r.lens.length:Int)]:List Int).length*4≤140737488355328 by have:=HL.out;simp;omega)
 have hBA:=Nat.le_trans hBV HG.out.bel.size
 have hbA:=Nat.lt_of_lt_of_le hbV HG.out.bel.size
 clear hga
 generalize V2.alloc (Obj.cells #[.int .i64 r.lens.length] 3)=VA at *
 replace HST:=hide (HST.out.trans HG.out)
 refine (zhLR (w.heap.size+1) (w.heap.size+1) L2 _ [(r.lens.length:Int)] _ HWA.out HIA.out HAA.out HLA.out hBA hbA).mono ?_
 rintro e V3 ⟨rfl,hW',hS'⟩
 replace HST:=hide (HST.out.trans hS')
 obtain ⟨L3,HQ3⟩:∃L3,Hid (L2++([(r.lens.length:Int)]:List Int).flatMap num4=L3):=⟨_,rfl⟩
 rw[HQ3.out] at hW'
 replace HW:=hide hW'
 replace HL:=hide (show L3.length≤32 by rw[←HQ3.out,List.length_append,j6hd];have:=HL.out;(try simp);(try omega))
 clear hW' hS' hBV hbV
 clear HG HWA HIA HAA HLA hBA hbA
 obtain ⟨s0,s1,s2,s3,s4,s5,s6,s13,s26⟩:=HRC.out _ (HBK.out V3 HST.out)
 go_wp2_with fail
 clear s0 s1 s2 s3 s4 s5 s6 s13 s26
 have hBV:w.heap.size+1≤V3.heap.size:=Nat.le_trans hB0 HST.out.bel.size
 have hbV:w.heap.size+1<V3.heap.size:=Nat.lt_of_lt_of_le hb0 HST.out.bel.size
 have HI4:=HR.out.lens.below (HBV.out _ HST.out) (Nat.le_refl _)
 have HA4:=zLc9 (B:=w.heap.size+1) (b:=w.heap.size+1) (V:=V3) HR.out.lens (by omega)
 refine (qfDp (w.heap.size+1) (w.heap.size+1) L3 _ r.lens _ HW.out HI4 HA4 (by have:=HL.out;omega) hBV hbV).mono ?_
 rintro e V4 ⟨rfl,hW',hS'⟩
 replace HST:=hide (HST.out.trans hS')
 obtain ⟨L4,HQ4⟩:∃L4,Hid (L3++r.lens.flatMap num4=L4):=⟨_,rfl⟩
 rw[HQ4.out] at hW'
 replace HW:=hide hW'
 replace HL:=hide (show L4.length≤4194336 by rw[←HQ4.out,List.length_append,j6hd];have:=HL.out;(try simp);(try omega))
 clear hW' hS' hBV hbV
 clear HI4 HA4
 obtain ⟨s0,s1,s2,s3,s4,s5,s6,s13,s26⟩:=HRC.out _ (HBK.out V4 HST.out)
 go_wp2_with fail
 clear s0 s1 s2 s3 s4 s5 s6 s13 s26
 have hBV:w.heap.size+1≤V4.heap.size:=Nat.le_trans hB0 HST.out.bel.size
 have hbV:w.heap.size+1<V4.heap.size:=Nat.lt_of_lt_of_le hb0 HST.out.bel.size
 have HG:=hide (WStep.alloc (B:=(w.heap.size+1)) (b:=(w.heap.size+1)) hBV (Obj.cells #[.int .i64 r.strips.length] 3))
 have HWA:=hide (HW.out.alloc (Obj.cells #[.int .i64 r.strips.length] 3))
 have HIA:=hide (ints1 V4 r.strips.length)
 have hga:=al1 V4 (Obj.cells #[.int .i64 r.strips.length] 3)
 have HAA:=hide (wints (B:=(w.heap.size+1)) (b:=(w.heap.size+1)) (c:=1) (ca:=1) (xs:=[]) hga (by omega) (by decide))
 have HLA:=hide (show L4.length+([(r.strips.length:Int)]:List Int).length*4≤140737488355328 by have:=HL.out;simp;omega)
 have hBA:=Nat.le_trans hBV HG.out.bel.size
 have hbA:=Nat.lt_of_lt_of_le hbV HG.out.bel.size
 clear hga
 generalize V4.alloc (Obj.cells #[.int .i64 r.strips.length] 3)=VA at *
 replace HST:=hide (HST.out.trans HG.out)
 refine (zhLR (w.heap.size+1) (w.heap.size+1) L4 _ [(r.strips.length:Int)] _ HWA.out HIA.out HAA.out HLA.out hBA hbA).mono ?_
 rintro e V5 ⟨rfl,hW',hS'⟩
 replace HST:=hide (HST.out.trans hS')
 obtain ⟨L5,HQ5⟩:∃L5,Hid (L4++([(r.strips.length:Int)]:List Int).flatMap num4=L5):=⟨_,rfl⟩
 rw[HQ5.out] at hW'
 replace HW:=hide hW'
 replace HL:=hide (show L5.length≤4194340 by rw[←HQ5.out,List.length_append,j6hd];have:=HL.out;(try simp);(try omega))
 clear hW' hS' hBV hbV
 clear HG HWA HIA HAA HLA hBA hbA
 obtain ⟨s0,s1,s2,s3,s4,s5,s6,s13,s26⟩:=HRC.out _ (HBK.out V5 HST.out)
 go_wp2_with fail
 clear s0 s1 s2 s3 s4 s5 s6 s13 s26
 go_loopw [35] (fun i wr=>∃k:Nat,k≤r.strips.length∧i=.int .i64 k∧IsWr (w.heap.size+1) (w.heap.size+1) (L5++(r.strips.take k).flatMap textW) wr∧WStep (w.heap.size+1) (w.heap.size+1) U wr) (fun i _=>r.strips.length-(intOf i).toNat)
 case atStart=>exact ⟨0,Nat.zero_le _,rfl,by simpa using HW.out,HST.out⟩
 case round =>
  obtain ⟨k,hk,rfl,hW,hS⟩:=hrel
  have HLL:=HL
  clear HST HW
  have HST:=hide hS
  have HW:=hide hW
  clear hW hS
  have hBV:w.heap.size+1≤wr.heap.size:=Nat.le_trans hB0 HST.out.bel.size
  have hbV:w.heap.size+1<wr.heap.size:=Nat.lt_of_lt_of_le hb0 HST.out.bel.size
  have htk:=HT.out k
  by_cases hlt:k<r.strips.length
  ·have hd:decide ((k:Int)<(r.strips.length:Int))=true:=by simp;omega
   obtain ⟨bq,oq,rfl,hbq,d0⟩:=(HR.out.strips.below (HBV.out _ HST.out) (Nat.le_refl _)).at k hlt
   have hgs:=HGS.out k hlt
   obtain ⟨T,hTT⟩:∃T,r.strips.getD k []=T:=⟨_,rfl⟩
   rw[hTT] at d0 hgs
   have HTT:=hide hTT
   clear hTT
   go_wp2_with fail
   clear d0
   refine (X2Cx (w.heap.size+1) (w.heap.size+1) _ T _ HW.out (by have:=HLL.out;rw[List.length_append];omega) hBV hbV).mono ?_
   rintro e X2 ⟨rfl,hW',hS'⟩
   have HST2:=hide (HST.out.trans hS')
   have HW2:=hide (show IsWr (w.heap.size+1) (w.heap.size+1) (L5++(r.strips.take (k+1)).flatMap textW) X2 by rw[qDmh _ k hlt,HTT.out,←List.append_assoc];exact hW')
   clear hW' hS' hBV hbV htk
   go_wp2
   go_roundw
   case rel=>exact ⟨k+1,hlt,by go_num,HW2.out,HST2.out⟩
   case measure=>simp[intOf];omega
  ·have hd:decide ((k:Int)<(r.strips.length:Int))=false:=by simp;omega
   obtain rfl:k=r.strips.length:=by omega
   rw[List.take_length] at HW htk
   obtain ⟨L6,HQ6⟩:∃L6,Hid (L5++r.strips.flatMap textW=L6):=⟨_,rfl⟩
   rw[HQ6.out] at HW
   have HL6:=hide (show L6.length≤1099511627776 by rw[←HQ6.out,List.length_append];have:=HLL.out;omega)
   have HPP:=hide (HR.out.plan.below (HBV.out _ HST.out) (Nat.le_refl _))
   have HP0:=hide (HPA.out _ (HBK.out _ HST.out))
   clear HLL HL htk HT HGS
   go_wp2_with (refine XiYX rfl 51 _ rfl _ 7 rfl (planA r.plan sv cv) _ HP0.out Tryz.underlying51 rfl (by kernel_rfl) ?_)
   refine (zu1k (w.heap.size+1) (w.heap.size+1) L6 r.plan sv cv _ HW.out HPP.out (zJ9I HR.out.plan.spots (by omega)) (zJ9I HR.out.plan.curve (by omega)) HL6.out g4 g5 hBV hbV).mono ?_
   rintro e X3 ⟨rfl,hW',hS'⟩
   have HST3:=hide (HST.out.trans hS')
   have HE:=hide (show L6++planW r.plan=rawW r by
    rw[←HQ6.out,←HQ5.out,←HQ4.out,←HQ3.out,←HQ2.out,←HQ1.out]
    simp[rawW,headL,listW,List.append_assoc])
   rw[HE.out] at hW'
   have HW3:=hide hW'
   clear hW' hS'
   go_wp2_with fail
   refine (Xgax (w.heap.size+1) (w.heap.size+1) (rawW r) _ HW3.out (by simp[rawW,textW,num4])).mono ?_
   rintro e X4 ⟨rfl,hb4⟩
   have HF:=hide ((HBV.out _ HST3.out).trans (hb4.mono (by omega)))
   go_wp2
   go_ret
   exact ⟨rfl,HF.out⟩
theorem qcx1 {ls:List Pt} (h:zamz ls=true):ls.length≤16:=by
 simp only[zamz,jMWf,Bool.and_eq_true,decide_eq_true_eq] at h
 omega
theorem st_len {r:RawF} (h:Head r) {i:Nat} (hi:i<cntN r) {s:List UInt8} (h0:stE r s (rowN r i)=0):s.length≤15360:=by
 obtain ⟨h3,h4⟩:=h.size hi
 obtain ⟨h5,h6⟩:=h.row hi
 have hw:=h.w
 have hd:=h.depth
 by_cases hk:r.kind=0
 ·obtain ⟨e1,e2⟩:=XX6a hk s (rowN r i)
  rw[e1] at h0
  have hf:=jtlP h0
  simp only[Xpy1,decide_eq_true_eq] at hf
  rw[hf.2.2.2.1]
  have:(rowN r i*r.w).toNat*r.depth.toNat≤4096*16:=Nat.mul_le_mul (by omega) (by omega)
  omega
 ·have hE:qaPw s r.w (rowN r i) r.kind r.lens=0:=by
   rw[stE,if_neg hk] at h0
   split at h0
   ·assumption
   ·exact h0
  have hS:(readD s r.w (rowN r i) r.kind r.lens).isSome=true:=by
   unfold qaPw at hE
   split at hE
   ·split at hE
    ·split at hE
     ·split at hE
      ·assumption
      ·cases hE
     ·rename_i hc;exact absurd hE hc
    ·cases hE
   ·cases hE
  obtain ⟨zs,hz⟩:=Option.isSome_iff_exists.1 hS
  rw[readD] at hz
  split at hz
  ·rename_i hl
   have:r.w.toNat*(rowN r i).toNat≤64*64:=Nat.mul_le_mul (by omega) (by omega)
   have:r.w.toNat*(rowN r i).toNat*30≤4096*30:=Nat.mul_le_mul_right _ this
   omega
  ·cases hz
structure Right (r:RawF):Prop where
 head:Head r
 many:r.strips.length=cntN r
 plan:planE r.plan=0
 spots:XepW r.w r.h r.plan.spots=true
 strips:stOk r r.strips.length=true
theorem zzPF {r:RawF} (h:XDWf r=0):Right r:=by
 unfold XDWf at h
 split at h
 ·rename_i h1
  split at h
  ·rename_i h2
   split at h
   ·rename_i h3
    split at h
    ·rename_i h4
     unfold pErr at h3
     split at h3
     ·rename_i h5
      split at h3
      ·rename_i h6
       exact ⟨jWRa h1,h2,h5,h6,h4⟩
      ·cases h3
     ·rename_i h5;exact absurd h3 h5
    ·cases h
   ·rename_i h3;exact absurd h h3
  ·cases h
 ·rename_i h1;exact absurd h h1
theorem Right.zero {r:RawF} (h:Right r):XDWf r=0:=by
 rw[XDWf,if_pos h.head.zero,if_pos h.many,if_pos (by rw[pErr,if_pos h.plan,if_pos h.spots]),if_pos h.strips]
theorem Right.lens_le {r:RawF} (h:Right r):r.lens.length≤17:=by
 have:=h.head.lens
 unfold kindE at this
 split at this
 ·split at this
  ·omega
  ·cases this
 ·exact (zF8D this).2.1
theorem Right.strip_le {r:RawF} (h:Right r):∀s∈r.strips,s.length≤15360:=by
 intro s hs
 obtain ⟨i,hi,rfl⟩:=List.getElem_of_mem hs
 have h0:=jWDk h.strips hi
 rw[stAt,XNGw hi] at h0
 exact st_len h.head (by have:=h.many;omega) h0
def rawS (r:RawF):List UInt8:=if XDWf r=0 then rawW r else []
theorem jk43 (r:RawF) (lv tv sv cv:Value) (w:World) (hr:IsRaw w r lv tv sv cv) :
  Calls Tryz.prog 45 #[.agg (rawA r lv tv sv cv)] w fun e w'=>e=.returned (.tuple #[.string (str (rawS r)),.int .i64 (XDWf r)])∧Below w.heap.size w w':=by
 have HB:=hide (qUNz w (Obj.cells (rawA r lv tv sv cv) 57))
 have a1:=al1 w (Obj.cells (rawA r lv tv sv cv) 57)
 have hl1:=(Array.getElem?_eq_some_iff.1 a1).1
 have HC:=hide (fun (u:World) (hu:Below w.heap.size w u)=>j0f2 r lv tv sv cv u (hr.below hu (Nat.le_refl _)))
 have HBO:=hide (fun (h0:XDWf r=0) (u:World) (hu:Below w.heap.size w u)=>jESC r lv tv sv cv u (hr.below hu (Nat.le_refl _)) (by have:=(zzPF h0).lens_le;omega) (by have:=(zzPF h0).many;have:=(zzPF h0).head.cnt_le;omega) (fun s hs=>by have:=(zzPF h0).strip_le s hs;omega) (by have:=(qwVl (zzPF h0).plan).2.2.2.2.2.1;omega) (by have:=qcx1 (qwVl (zzPF h0).plan).2.2.2.2.2.2.2;omega))
 have HS:=hide (show rawS r=if XDWf r=0 then rawW r else [] from rfl)
 generalize rawS r=S at *
 generalize rawW r=RW at *
 clear hr
 go_enter Tryz.func45,Tryz.ntmps45
 go_wp2_with (refine wpList_load_row rfl 57 _ rfl _ rfl _ _ _ _ a1 Tryz.underlying57 rfl (by kernel_rfl) ?_)
 generalize w.alloc (Obj.cells (rawA r lv tv sv cv) 57)=U at *
 refine (HC.out _ HB.out).mono ?_
 rintro e V1 ⟨rfl,hb1⟩
 have HB1:=hide (quJN HB.out hb1)
 by_cases hE:XDWf r=0
 ·rw[hE]
  rw[if_pos hE] at HS
  have hs:=HS.out
  subst hs
  have HBB:=hide (HBO.out hE)
  have b1:=(hb1.block _ hl1).trans a1
  go_wp2_with (refine wpList_load_row rfl 57 _ rfl _ rfl _ _ _ _ b1 Tryz.underlying57 rfl (by kernel_rfl) ?_)
  refine (HBB.out _ HB1.out).mono ?_
  rintro e V2 ⟨rfl,hb2⟩
  go_wp2
  go_ret2
  exact ⟨jV70 rfl (congrArg (Value.int .i64) hE.symm),quJN HB1.out hb2⟩
 ·have hn:(XDWf r != 0)=true:=by simpa using hE
  rw[if_neg hE] at HS
  have hs:=HS.out
  subst hs
  clear HBO
  go_wp2
  go_ret2
  exact ⟨rfl,HB1.out⟩
end Go.Proofs.YtfjeonehdlphiaaGreatDoor
