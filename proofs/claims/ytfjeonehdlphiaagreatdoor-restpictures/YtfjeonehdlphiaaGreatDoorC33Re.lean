/- Re: part 33 of what the proofs need. -/
import Derived.Test.YtfjeonehdlphiaaGreatDoorC2Re
import Derived.Test.YtfjeonehdlphiaaGreatDoorC6Re
import Derived.Test.YtfjeonehdlphiaaGreatDoorC19Re
import Derived.Test.YtfjeonehdlphiaaGreatDoorC26Re
import Derived.Test.YtfjeonehdlphiaaGreatDoorC27Re
import Derived.Test.YtfjeonehdlphiaaGreatDoorC32Re
import Derived.Deep.CutRange
open Go.Obj renaming cells → ka
open List renaming setIfInBounds_toArray → kb, set_cons_zero → ke, set_cons_succ → kf, getD_eq_getElem?_getD → km
open Array renaming getElem?_eq_some_iff → kd
open Go.Lib renaming frozen_of_heap → kg
open Go.Act renaming put → kh
open Nat renaming le_refl → ki, le_trans → kl
open Int renaming eq_ofNat_of_zero_le → kj
open Go.IntWalk renaming i64_in → kk
set_option linter.unusedVariables false
set_option maxHeartbeats 16000000
set_option maxRecDepth 100000
namespace Go.Proofs.YtfjeonehdlphiaaGreatDoor
open Go.RowKit
def StJ (w:World) (n:Plan) (W H:Nat) (zs:List Int) (rows:Nat) (PV:Array Value) (pv:Value) (QX f:Nat) (wr:World):Prop :=
 ∃(l:List Px) (so:Option Addr) (cap:Nat),l++ji0X n W H zs rows (H-f) f=ji0X n W H zs rows H 0∧l.length≤f*W∧wr.heap[QX]?=some (.cells #[.int .i64 W,.int .i64 H,.slice so l.length cap] 24 (0,0))∧wr.ownsRow w.heap.size 61 3 (.slice so l.length cap) l.length (l.flatMap pixL) ∧
  wr.heap[w.heap.size]?=some (.cells PV 51 (0,0))∧wr.heap[w.heap.size+1]?=some (.cells #[.int .i64 W,.int .i64 H,pv] 54 (0,0))∧wr.heap[w.heap.size+2]?=some (.cells #[.int .i64 0,.int .i64 0,.slice none 0 0] 24 (0,0))∧Below w.heap.size w wr
theorem StJ.below {w:World} {n:Plan} {W H:Nat} {zs:List Int} {rows:Nat} {PV:Array Value} {pv:Value} {QX f:Nat} {wr V:World} (h:StJ w n W H zs rows PV pv QX f wr) (hV:Below wr.heap.size wr V):StJ w n W H zs rows PV pv QX f V:=by
 obtain ⟨l,so,cap,h1,h2,h3,h4,h5,h6,h7,h8⟩:=h
 exact ⟨l,so,cap,h1,h2,(hV.block _ (kd.1 h3).1).trans h3,qw14 h4 hV,(hV.block _ (kd.1 h5).1).trans h5,(hV.block _ (kd.1 h6).1).trans h6,(hV.block _ (kd.1 h7).1).trans h7,h8.trans (hV.mono h8.size)⟩
theorem XKWu {w:World} {b off:Nat} {ps:List Px} (hc:∀j (h:j<ps.length),w.cell? ⟨b,off+j*3,none⟩=some (.int .i64 ps[j].1)∧w.cell? ⟨b,off+j*3+1,none⟩=some (.int .i64 ps[j].2.1)∧w.cell? ⟨b,off+j*3+2,none⟩=some (.int .i64 ps[j].2.2)) :
  ∀j u,(ps.flatMap pixL)[j]?=some u→w.cell? ((⟨b,off,none⟩:Addr).add j)=some u:=by
 intro j u hj
 rw[Addr.add_lit]
 have hj3:j<ps.length*3:=by rw[←Xqg0];exact (List.getElem?_eq_some_iff.1 hj).1
 obtain ⟨g0,g1,g2⟩:=zgQy ps (j / 3) (by omega)
 obtain ⟨d0,d1,d2⟩:=hc (j / 3) (by omega)
 rcases (show j % 3=0∨j % 3=1∨j % 3=2 by omega) with h|h|h
 ·have e:j=j / 3*3:=by omega
  rw[e] at hj ⊢
  rw[←Option.some.inj (g0.symm.trans hj)];exact d0
 ·have e:j=j / 3*3+1:=by omega
  rw[e] at hj ⊢
  rw[←Option.some.inj (g1.symm.trans hj),←Nat.add_assoc];exact d1
 ·have e:j=j / 3*3+2:=by omega
  rw[e] at hj ⊢
  rw[←Option.some.inj (g2.symm.trans hj),←Nat.add_assoc];exact d2
theorem XKzo (ps:List Px):∀u∈ps.flatMap pixL,u.oneCell'=true:=by
 intro u hu
 obtain ⟨p,_,hu⟩:=List.mem_flatMap.1 hu
 simp only[pixL,List.mem_cons,List.not_mem_nil,or_false] at hu
 rcases hu with rfl|rfl|rfl<;>rfl
theorem zPTa {w:World} {base:Nat} {e:TypeId} {sz:Nat} {v:Value} {n:Nat} {xs:List Value} {k:Nat} (h:w.ownsRow base e sz v n xs) (hne:v.ownBlock≠some k) (x y z:Value):(((w.setCell ⟨k,0,none⟩ x).setCell ⟨k,1,none⟩ y).setCell ⟨k,2,none⟩ z).ownsRow base e sz v n xs:=by
 refine ⟨h.1,?_⟩
 rcases h.2 with h|⟨g,cap,cur,hv,hg,hh,r⟩
 ·exact .inl h
 ·refine .inr ⟨g,cap,cur,hv,hg,?_,r⟩
  rw[jZhz _ _ _ _ _ g (fun e=>hne (by rw[hv,e];rfl))]
  exact hh
theorem qAuu (n:Plan) (sv cv:Value) (W H:Int) (v:Value) (zs:List Int) (rows:Int) (w:World) (hp:X1uD w n sv cv) (hv:jCvT w v zs) (hroom:roomy v) :
  Calls Tryz.prog 17 #[.agg (planA n sv cv),.agg #[.int .i64 W,.int .i64 H,v],.int .i64 rows] w fun e w'=>∃r,e=.returned (.tuple #[.agg #[.int .i64 (okW (XSDS n W H zs rows) W),.int .i64 (okW (XSDS n W H zs rows) H),r],.int .i64 (XSDS n W H zs rows)])∧IsPix w' r (okL (XSDS n W H zs rows) (X1qP n W H zs rows))∧Below w.heap.size w w'∧Fresh w.heap.size r∧Free w' r:=by
 have HP:=hide hp
 have HV:=hide hv
 have HFI:=hide (fun (u:World) (hu:Below w.heap.size w u)=>jiqc n sv cv W H v zs H u (HP.out.below hu (ki _)) (HV.out.below hu (ki _)))
 obtain ⟨⟨lo,lc,rfl,hll,_⟩,⟨ko,kc,rfl,hkl,_⟩⟩:=hp
 have HPE:=hide (show XSDS n W H zs rows=if fitsE n W H zs H=0 then (if 1≤rows then 0 else 3) else fitsE n W H zs H from rfl)
 obtain ⟨E,hE⟩:∃E,XSDS n W H zs rows=E:=⟨_,rfl⟩
 rw[hE] at HPE ⊢
 clear hE
 by_cases hF:fitsE n W H zs H=0
 ·rw[if_pos hF] at HPE
  have HF0:=hide hF
  obtain ⟨hpl0,hpok,hspt⟩:=jsZS hF
  rw[hF] at HFI
  clear hF
  by_cases hr1:1≤rows
  ·have hd1:decide (rows<1)=false:=by simp;omega
   have he:E=0:=by rw[HPE.out,if_pos hr1]
   subst he
   obtain ⟨hW,hH,hlen0,_⟩:=qwcI hpok
   have hsm:=zAFj hW hH
   have hn1:1≤zs.length:=by omega
   obtain ⟨bk,off,ca,rfl,hbk,hcell⟩:=hv.cells hn1
   have hca:zs.length≤ca:=hroom
   obtain ⟨WN,rfl⟩:=kj (show 0≤W by omega)
   obtain ⟨HN,rfl⟩:=kj (show 0≤H by omega)
   obtain ⟨RN,rfl⟩:=kj (show 0≤rows by omega)
   have HLEN:=hide (show zs.length=HN*WN by rw[Nat.mul_comm];exact_mod_cast hlen0)
   have hzl:zs.length≤4096:=by omega
   have HC:=hide hcell
   obtain ⟨i0,hi,hz0,hz1,hz2⟩:=info_parts Tryz.infoPixel
   have hmk:∀V:World,(Instr.makeSlice 22 (.int .i64 0) (.int .i64 zs.length)).run Tryz.prog V=.ok (.slice (some ⟨V.heap.size,0,none⟩) 0 zs.length) (V.alloc (.cells (madeCells #[.int .i64 0,.int .i64 0,.int .i64 0] (zs.length*3)) 61)):=fun V=>by
    have h:=run_make (P:=Tryz.prog) V 22 61 i0 pixZ Tryz.underlying22 hi hz0 .i64 .i64 0 zs.length (Int.le_refl _) (by omega) (by rw[hz2];omega) (by omega)
    rw[hz1] at h
    simpa [pixZ,Value.cells] using h
   clear hlen0 hcell hpl0 hpok hspt hv hroom
   obtain ⟨a1,a2,a3⟩:=al3 w (ka (planA n (.slice lo n.spots.length lc) (.slice ko n.curve.length kc)) 51) (ka #[.int .i64 (WN:Nat),.int .i64 (HN:Nat),.slice (some ⟨bk,off,none⟩) zs.length ca] 54) (ka #[.int .i64 0,.int .i64 0,.slice none 0 0] 24)
   have HB:=hide (be3 w (ka (planA n (.slice lo n.spots.length lc) (.slice ko n.curve.length kc)) 51) (ka #[.int .i64 (WN:Nat),.int .i64 (HN:Nat),.slice (some ⟨bk,off,none⟩) zs.length ca] 54) (ka #[.int .i64 0,.int .i64 0,.slice none 0 0] 24))
   obtain ⟨p0,p1,p2⟩:=z5EY a2
   go_enter Tryz.func17,Tryz.ntmps17
   go_wp2_with (refine wpList_load_row rfl 51 _ rfl _ rfl _ _ _ _ a1 Tryz.underlying51 rfl (by kernel_rfl) ?_)
   clear p0 p1 p2
   have hl1:=(kd.1 a1).1
   have hl2:=(kd.1 a2).1
   have hl3:=(kd.1 a3).1
   generalize ((w.alloc (ka (planA n (.slice lo n.spots.length lc) (.slice ko n.curve.length kc)) 51)).alloc (ka #[.int .i64 (WN:Nat),.int .i64 (HN:Nat),.slice (some ⟨bk,off,none⟩) zs.length ca] 54)).alloc (ka #[.int .i64 0,.int .i64 0,.slice none 0 0] 24)=U at *
   refine (HFI.out _ HB.out).mono ?_
   rintro e w1 ⟨rfl,hb1⟩
   have HS:=hide (show ∀v,Below U.heap.size U v→v.cell? ⟨w.heap.size+1,0,none⟩=some (.int .i64 (WN:Nat))∧v.cell? ⟨w.heap.size+1,1,none⟩=some (.int .i64 (HN:Nat))∧v.cell? ⟨w.heap.size+1,2,none⟩=some (.slice (some ⟨bk,off,none⟩) zs.length ca) from fun v h=>z5EY ((h.block _ hl2).trans a2))
   go_upto_region 6 with fail
   have hs1:=hb1.size
   go_cut [9] from 16 (fun q v=>∃QX so cap,q=.pointer (some ⟨QX,0,none⟩)∧v.heap[QX]?=some (.cells #[.int .i64 (WN:Nat),.int .i64 (HN:Nat),.slice so 0 cap] 24 (0,0))∧v.ownsRow w.heap.size 61 3 (.slice so 0 cap) 0 []∧U.heap.size≤QX∧Below U.heap.size U v)
   case first =>
    have hWd:Below U.heap.size U w1.drew:=hb1.drew
    have hSd:=HS.out _ hWd
    have hmx:Tryz.prog.follows .mixedOrders=true:=by kernel_rfl
    refine qYgd (S:=fun v:World=>v.cell? ⟨w.heap.size+1,0,none⟩=some (.int .i64 (WN:Nat))∧v.cell? ⟨w.heap.size+1,1,none⟩=some (.int .i64 (HN:Nat))∧v.cell? ⟨w.heap.size+1,2,none⟩=some (.slice (some ⟨bk,off,none⟩) zs.length ca)) (f:=10) hmx ?_
    show jZdv _ _ _ _ _ _ 11 _ _ w1.drew
    refine zB2j (i:=0) (oi:=_) (v:=?vv1) (some 28) rfl rfl (by kernel_rfl) (by kernel_rfl) (by kernel_rfl) (by kernel_rfl) (by kernel_rfl) (fun _ _ _ h=>h) (Or.inl ⟨by rfl,?yy1⟩) hSd ?rr1
    case yy1=>(intro wq hSq;obtain ⟨_,_,_⟩:=hSq;go_simp<;>with_reducible rfl)
    simp only[kh,kb,kf,ke]
    refine zB2j (i:=2) (oi:=_) (v:=?vv2) (some 30) rfl rfl (by kernel_rfl) (by kernel_rfl) (by kernel_rfl) (by kernel_rfl) (by kernel_rfl) (fun _ _ _ h=>h) (Or.inl ⟨by rfl,?yy2⟩) hSd ?rr2
    case yy2=>(intro wq hSq;obtain ⟨_,_,_⟩:=hSq;go_simp<;>with_reducible rfl)
    simp only[kh,kb,kf,ke]
    refine zB2j (i:=4) (oi:=_) (v:=?vv3) (some 32) rfl rfl (by kernel_rfl) (by kernel_rfl) (by kernel_rfl) (by kernel_rfl) (by kernel_rfl) (fun _ _ _ h=>h) (Or.inl ⟨by rfl,?yy3⟩) hSd ?rr3
    case yy3=>(intro wq hSq;obtain ⟨_,_,_⟩:=hSq;go_simp<;>with_reducible rfl)
    simp only[kh,kb,kf,ke]
    refine zB2j (i:=1) (oi:=_) (v:=?vv4) (some 29) rfl rfl (by kernel_rfl) (by kernel_rfl) (by kernel_rfl) (by kernel_rfl) (by kernel_rfl) (fun _ _ _ h=>h) (Or.inl ⟨by rfl,?yy4⟩) hSd ?rr4
    case yy4=>(intro wq hSq;obtain ⟨_,_,_⟩:=hSq;go_simp<;>with_reducible rfl)
    simp only[kh,kb,kf,ke]
    refine zB2j (i:=3) (oi:=_) (v:=?vv5) (some 31) rfl rfl (by kernel_rfl) (by kernel_rfl) (by kernel_rfl) (by kernel_rfl) (by kernel_rfl) (fun _ _ _ h=>h) (Or.inl ⟨by rfl,?yy5⟩) hSd ?rr5
    case yy5=>(intro wq hSq;obtain ⟨_,_,_⟩:=hSq;go_simp<;>with_reducible rfl)
    simp only[kh,kb,kf,ke]
    refine zB2j (i:=5) (oi:=_) (v:=?vv6) (some 33) rfl rfl (by kernel_rfl) (by kernel_rfl) (by kernel_rfl) (by kernel_rfl) (by kernel_rfl) (fun _ _ _ h=>h) (Or.inl ⟨by rfl,?yy6⟩) hSd ?rr6
    case yy6=>(intro wq hSq;obtain ⟨_,_,_⟩:=hSq;go_simp<;>with_reducible rfl)
    simp only[kh,kb,kf,ke]
    refine zB2j (i:=6) (oi:=_) (v:=?vv7) (some 34) rfl rfl (by kernel_rfl) (by kernel_rfl) (by kernel_rfl) (by kernel_rfl) (by kernel_rfl) (fun _ _ _ h=>h) (Or.inl ⟨by rfl,?yy7⟩) hSd ?rr7
    case yy7=>(intro wq hSq;obtain ⟨_,_,_⟩:=hSq;go_simp<;>with_reducible rfl)
    simp only[kh,kb,kf,ke]
    refine jwFJ (i:=7) (j:=9) (oi:=_) (oj:=_) (by kernel_rfl) rfl rfl (fun K' hK=>?brA) (fun K' hK=>?brB)
    case brA =>
     rw[if_pos (by rfl)]
     go_simp
     have hB1:Below U.heap.size U (w1.alloc (ka (madeCells #[.int .i64 0,.int .i64 0,.int .i64 0] (zs.length*3)) 61)).drew:=(hb1.alloc hb1.size _).drew
     have hSd:=HS.out _ hB1
     refine hK.out _ _ hSd ?_
     clear hK
     try simp only[kh]
     refine zB2j (i:=8) (oi:=_) (v:=?vv8) (some 36) rfl rfl (by kernel_rfl) (by kernel_rfl) (by kernel_rfl) (by kernel_rfl) (by kernel_rfl) (fun _ _ _ h=>h) (Or.inl ⟨by rfl,?yy8⟩) hSd ?rr8
     case yy8=>(intro wq hSq;obtain ⟨_,_,_⟩:=hSq;go_simp<;>with_reducible rfl)
     simp only[kh,kb,kf,ke]
     refine znWj (i:=9) (o:=_) (by kernel_rfl) rfl (fun K' hK=>?_)
     rw[if_pos (by rfl)]
     go_simp
     have hB2:Below U.heap.size U ((w1.alloc (ka (madeCells #[.int .i64 0,.int .i64 0,.int .i64 0] (zs.length*3)) 61)).alloc (ka #[.int .i64 0,.int .i64 0,.slice none 0 0] 24)).drew:=((hb1.alloc hb1.size _).alloc (by simp;omega) _).drew
     have hSd:=HS.out _ hB2
     refine hK.out _ _ hSd ?_
     clear hK
     try simp only[kh]
     refine z9gO (o:=_) (by kernel_rfl) rfl (fun K' hK=>?_)
     rw[if_pos (by rfl)]
     go_simp
     refine hK.out _ _ ?_
     clear hK
     refine jFdp (by kernel_rfl) ?_ _
     try simp only[kh]
     clear hSd
     go_wp2
     go_meet
     case rel=>exact ⟨w1.heap.size+1,some ⟨w1.heap.size,0,none⟩,zs.length,rfl,(al2 w1 (ka (madeCells #[.int .i64 0,.int .i64 0,.int .i64 0] (zs.length*3)) 61) (ka #[.int .i64 (WN:Nat),.int .i64 (HN:Nat),.slice (some ⟨w1.heap.size,0,none⟩) 0 zs.length] 24)).2,(World.ownsRow_made (base:=w.heap.size) (e:=61) (size:=3) w1 (madeCells #[.int .i64 0,.int .i64 0,.int .i64 0] (zs.length*3)) zs.length (kl HB.out.size hs1) (by unfold maxLen;omega) (by simp[madeCells])).alloc (ka #[.int .i64 (WN:Nat),.int .i64 (HN:Nat),.slice (some ⟨w1.heap.size,0,none⟩) 0 zs.length] 24),by omega,((hb1.alloc hb1.size (ka (madeCells #[.int .i64 0,.int .i64 0,.int .i64 0] (zs.length*3)) 61)).alloc (by simp;omega) (ka #[.int .i64 (WN:Nat),.int .i64 (HN:Nat),.slice (some ⟨w1.heap.size,0,none⟩) 0 zs.length] 24)).drew⟩
    case brB =>
     rw[if_pos (by rfl)]
     go_simp
     have hBz:Below U.heap.size U (w1.alloc (ka #[.int .i64 0,.int .i64 0,.slice none 0 0] 24)).drew:=(hb1.alloc hb1.size _).drew
     have hSd:=HS.out _ hBz
     refine hK.out _ _ hSd ?_
     clear hK
     try simp only[kh]
     have gz0:(w1.alloc (ka #[.int .i64 0,.int .i64 0,.slice none 0 0] 24)).drew.heap[w1.heap.size]?=_:=al1 w1 (ka #[.int .i64 0,.int .i64 0,.slice none 0 0] 24)
     have hlz:=(kd.1 gz0).1
     generalize (w1.alloc (ka #[.int .i64 0,.int .i64 0,.slice none 0 0] 24)).drew=Vz at *
     have hq:U.heap.size≤w1.heap.size:=hs1
     generalize w1.heap.size=QX at *
     refine znWj (i:=7) (o:=_) (by kernel_rfl) rfl (fun K' hK=>?_)
     rw[if_pos (by rfl)]
     go_simp
     have hB1:Below U.heap.size U (Vz.alloc (ka (madeCells #[.int .i64 0,.int .i64 0,.int .i64 0] (zs.length*3)) 61)):=hBz.alloc hBz.size _
     have hSd:=HS.out _ hB1
     refine hK.out _ _ hSd ?_
     clear hK
     try simp only[kh]
     refine zB2j (i:=8) (oi:=_) (v:=?vv9) (some 36) rfl rfl (by kernel_rfl) (by kernel_rfl) (by kernel_rfl) (by kernel_rfl) (by kernel_rfl) (fun _ _ _ h=>h) (Or.inl ⟨by rfl,?yy9⟩) hSd ?rr9
     case yy9=>(intro wq hSq;obtain ⟨_,_,_⟩:=hSq;go_simp<;>with_reducible rfl)
     simp only[kh,kb,kf,ke]
     have gz:=((qUNz Vz (ka (madeCells #[.int .i64 0,.int .i64 0,.int .i64 0] (zs.length*3)) 61)).block QX hlz).trans gz0
     have ho:=World.ownsRow_made (base:=w.heap.size) (e:=61) (size:=3) Vz (madeCells #[.int .i64 0,.int .i64 0,.int .i64 0] (zs.length*3)) zs.length (kl HB.out.size hBz.size) (by unfold maxLen;omega) (by simp[madeCells])
     have hsz:(Vz.alloc (ka (madeCells #[.int .i64 0,.int .i64 0,.int .i64 0] (zs.length*3)) 61)).heap.size=Vz.heap.size+1:=by simp
     generalize Vz.alloc (ka (madeCells #[.int .i64 0,.int .i64 0,.int .i64 0] (zs.length*3)) 61)=Vy at *
     generalize Vz.heap.size=MX at *
     obtain ⟨z0,z1,z2⟩:=z5EY gz
     have f0:=kg gz 0
     have f1:=kg gz 1
     have f2:=kg gz 2
     obtain ⟨vS,_,_,_⟩:=X0Wz gz (.int .i64 (WN:Nat)) (.int .i64 (HN:Nat)) (.slice (some ⟨MX,0,none⟩) 0 zs.length) w (kl HB.out.size hq) (HB.out.trans (hB1.mono HB.out.size))
     have hB4:=zHqh hB1 hq (.int .i64 (WN:Nat)) (.int .i64 (HN:Nat)) (.slice (some ⟨MX,0,none⟩) 0 zs.length)
     have hne:(Value.slice (some ⟨MX,0,none⟩) 0 zs.length).ownBlock≠some QX:=fun e=>qYYy ho gz (by decide) e.symm
     have HO:=hide (zPTa ho hne (.int .i64 (WN:Nat)) (.int .i64 (HN:Nat)) (.slice (some ⟨MX,0,none⟩) 0 zs.length))
     refine z9gO (o:=_) (by kernel_rfl) rfl (fun K' hK=>?_)
     rw[if_pos (by rfl)]
     go_simp
     refine hK.out _ _ ?_
     clear hK
     refine jFdp (by kernel_rfl) ?_ _
     try simp only[kh]
     clear hSd
     go_wp2
     go_meet
     case rel=>exact ⟨QX,some ⟨MX,0,none⟩,zs.length,rfl,vS,HO.out,hq,hB4⟩
   case rest =>
    obtain ⟨QX,so0,cap0,rfl,vS0,vO0,hQX,vB0⟩:=hcut
    have HJ0:=hide (show StJ w n WN HN zs RN (planA n (.slice lo n.spots.length lc) (.slice ko n.curve.length kc)) (.slice (some ⟨bk,off,none⟩) zs.length ca) QX 0 wc from ⟨[],so0,cap0,rfl,by simp,vS0,vO0,(vB0.block _ hl1).trans a1,(vB0.block _ hl2).trans a2,(vB0.block _ hl3).trans a3,HB.out.trans (vB0.mono HB.out.size)⟩)
    have hQw:w.heap.size+2<QX:=by omega
    clear vS0 vO0 vB0 a1 a2 a3 hb1 HS hl1 hl2 hl3 hs1
    go_wp2_with fail
    go_loopw [10] (fun i wr=>∃f:Nat,f≤HN∧i=.int .i64 f∧StJ w n WN HN zs RN (planA n (.slice lo n.spots.length lc) (.slice ko n.curve.length kc)) (.slice (some ⟨bk,off,none⟩) zs.length ca) QX f wr) (fun i _=>HN-(intOf i).toNat)
    case atStart=>exact ⟨0,Nat.zero_le _,rfl,HJ0.out⟩
    case round =>
     clear HJ0
     obtain ⟨f,hf,rfl,hJ⟩:=hrel
     have HJ:=hide hJ
     obtain ⟨l,so,cap,j1,j2,j3,j4,j5,j6,j7,j8⟩:=hJ
     obtain ⟨q0,q1,q2⟩:=z5EY j6
     by_cases hlt:f<HN
     ·have hd:decide ((f:Int)<(HN:Int))=true:=by simp;omega
      have hr2:1≤RN:=by omega
      have hgt:=qQb2 (H:=HN) hr2 hlt
      have hle:=jWB6 (rows:=RN) hlt
      have HST:=hide (jxb0 n (W:=WN) (zs:=zs) hr2 hlt)
      have HPL:=hide (XFMV n HLEN.out hr2 hlt)
      have HCA:=hide (fun (u:World) (hu:Below w.heap.size w u)=>z54W HF0.out HLEN.out hr2 hlt (.slice lo n.spots.length lc) (.slice ko n.curve.length kc) bk off ca u (HP.out.below hu (ki _)) (Nat.lt_of_lt_of_le hbk hu.size) hzl (fun j hj=>(hu.cell (p:=⟨bk,off+j,none⟩) hbk).trans (HC.out j hj)))
      have hmin:(if (HN:Int)-(f:Int)<(RN:Int) then (HN:Int)-(f:Int) else (RN:Int))=((qW9x HN RN f-f:Nat):Int):=by unfold qW9x;split<;>omega
      have HRO:=hide (fun u:World=>Xxdw WN HN (needA f) (needB (qW9x HN RN f) HN) bk off ca (by omega) (by omega) (by omega) zs HLEN.out (by unfold needA needB;omega) (by unfold needB;omega) hca u)
      have HNE:=hide (fun u:World=>j23B f (qW9x HN RN f) HN (by omega) (by omega) (by omega) u)
      obtain ⟨P,hP⟩:∃P,jqst n WN HN zs RN f=P:=⟨_,rfl⟩
      rw[hP] at HST HPL HCA
      clear hP
      obtain ⟨t,ht⟩:∃t,qW9x HN RN f=t:=⟨_,rfl⟩
      rw[ht] at HST HPL HCA hgt hle hmin HRO HNE
      clear ht
      obtain ⟨NA,hNA⟩:∃NA,needA f=NA:=⟨_,rfl⟩
      rw[hNA] at HCA HRO HNE
      clear hNA
      obtain ⟨NB,hNB⟩:∃NB,needB t HN=NB:=⟨_,rfl⟩
      rw[hNB] at HCA HRO HNE
      clear hNB
      obtain ⟨m,hm⟩:∃m,t-f=m:=⟨_,rfl⟩
      rw[hm] at hmin HPL
      have hwt:IntKind.i64.wrap ((f:Int)+(m:Int))=(t:Int):=by rw[kk _ (by omega)];omega
      have hwh:IntKind.i64.wrap ((HN:Int)-(f:Int))=(HN:Int)-(f:Int):=kk _ (by omega)
      have HMM:=hide hm
      clear hm
      have hl1:=(kd.1 j5).1
      have hl2:=(kd.1 j6).1
      have HS:=hide (show ∀v,Below wr.heap.size wr v→v.cell? ⟨w.heap.size+1,0,none⟩=some (.int .i64 (WN:Nat))∧v.cell? ⟨w.heap.size+1,1,none⟩=some (.int .i64 (HN:Nat))∧v.cell? ⟨w.heap.size+1,2,none⟩=some (.slice (some ⟨bk,off,none⟩) zs.length ca)∧v.heap[w.heap.size]?=some (.cells (planA n (.slice lo n.spots.length lc) (.slice ko n.curve.length kc)) 51 (0,0)) from fun v h=>by
       obtain ⟨y0,y1,y2⟩:=z5EY ((h.block _ hl2).trans j6)
       exact ⟨y0,y1,y2,(h.block _ hl1).trans j5⟩)
      clear j1 j2 j3 j4 j5 j6 j7
      go_wp2_with fail
      refine (HNE.out _).mono ?_
      rintro e w4 ⟨rfl,rfl⟩
      go_upto_region 11 with fail
      clear q0 q1 q2
      go_cut [14,15] from 37 to 81 (fun q e v=>∃PX ro rc,q=.pointer (some ⟨PX,0,none⟩)∧e=.int .i64 0∧v.heap[PX]?=some (.cells #[.int .i64 (WN:Nat),.int .i64 ((t:Int)-(f:Int)),.slice ro P.length rc] 24 (0,0))∧IsPix v (.slice ro P.length rc) P∧wr.heap.size≤PX∧Below wr.heap.size wr v)
      case first =>
       have hWd:Below wr.heap.size wr wr.drew:=(Below.refl _ _).drew
       have hSd:=HS.out _ hWd
       have hmx:Tryz.prog.follows .mixedOrders=true:=by kernel_rfl
       refine qYgd (S:=fun v:World=>v.cell? ⟨w.heap.size+1,0,none⟩=some (.int .i64 (WN:Nat))∧v.cell? ⟨w.heap.size+1,1,none⟩=some (.int .i64 (HN:Nat))∧v.cell? ⟨w.heap.size+1,2,none⟩=some (.slice (some ⟨bk,off,none⟩) zs.length ca)∧v.heap[w.heap.size]?=some (.cells (planA n (.slice lo n.spots.length lc) (.slice ko n.curve.length kc)) 51 (0,0))) (f:=16) hmx ?_
       show jZdv _ _ _ _ _ _ 17 _ _ wr.drew
       refine zB2j (i:=0) (oi:=_) (v:=.agg (planA n (.slice lo n.spots.length lc) (.slice ko n.curve.length kc))) (some 58) rfl rfl (by kernel_rfl) (by kernel_rfl) (by kernel_rfl) (by kernel_rfl) (by kernel_rfl) (fun _ _ _ h=>h) (Or.inl ⟨by rfl,?yy10⟩) hSd ?rr10
       case yy10=>(intro wq hSq;exact qLIM 51 _ rfl _ rfl _ _ _ _ hSq.2.2.2 Tryz.underlying51 rfl (by kernel_rfl))
       simp only[kh,kb,kf,ke]
       refine zB2j (i:=1) (oi:=_) (v:=?vv11) (some 59) rfl rfl (by kernel_rfl) (by kernel_rfl) (by kernel_rfl) (by kernel_rfl) (by kernel_rfl) (fun _ _ _ h=>h) (Or.inl ⟨by rfl,?yy11⟩) hSd ?rr11
       case yy11=>(intro wq hSq;obtain ⟨_,_,_,_⟩:=hSq;go_simp<;>with_reducible rfl)
       simp only[kh,kb,kf,ke]
       refine zB2j (i:=2) (oi:=_) (v:=?vv12) (some 60) rfl rfl (by kernel_rfl) (by kernel_rfl) (by kernel_rfl) (by kernel_rfl) (by kernel_rfl) (fun _ _ _ h=>h) (Or.inl ⟨by rfl,?yy12⟩) hSd ?rr12
       case yy12=>(intro wq hSq;obtain ⟨_,_,_,_⟩:=hSq;go_simp<;>with_reducible rfl)
       simp only[kh,kb,kf,ke]
       refine zB2j (i:=3) (oi:=_) (v:=?vv13) (some 61) rfl rfl (by kernel_rfl) (by kernel_rfl) (by kernel_rfl) (by kernel_rfl) (by kernel_rfl) (fun _ _ _ h=>h) (Or.inl ⟨by rfl,?yy13⟩) hSd ?rr13
       case yy13=>(intro wq hSq;obtain ⟨_,_,_,_⟩:=hSq;go_simp<;>with_reducible rfl)
       simp only[kh,kb,kf,ke]
       refine zB2j (i:=5) (oi:=_) (v:=?vv14) (some 63) rfl rfl (by kernel_rfl) (by kernel_rfl) (by kernel_rfl) (by kernel_rfl) (by kernel_rfl) (fun _ _ _ h=>h) (Or.inl ⟨by rfl,?yy14⟩) hSd ?rr14
       case yy14=>(intro wq hSq;obtain ⟨_,_,_,_⟩:=hSq;go_simp<;>with_reducible rfl)
       simp only[kh,kb,kf,ke]
       refine zB2j (i:=6) (oi:=_) (v:=?vv15) (some 64) rfl rfl (by kernel_rfl) (by kernel_rfl) (by kernel_rfl) (by kernel_rfl) (by kernel_rfl) (fun _ _ _ h=>h) (Or.inl ⟨by rfl,?yy15⟩) hSd ?rr15
       case yy15=>(intro wq hSq;obtain ⟨_,_,_,_⟩:=hSq;go_simp<;>with_reducible rfl)
       simp only[kh,kb,kf,ke]
       refine zB2j (i:=7) (oi:=_) (v:=?vv16) (some 65) rfl rfl (by kernel_rfl) (by kernel_rfl) (by kernel_rfl) (by kernel_rfl) (by kernel_rfl) (fun _ _ _ h=>h) (Or.inl ⟨by rfl,?yy16⟩) hSd ?rr16
       case yy16=>(intro wq hSq;obtain ⟨_,_,_,_⟩:=hSq;go_simp<;>with_reducible rfl)
       simp only[kh,kb,kf,ke]
       refine zB2j (i:=8) (oi:=_) (v:=?vv17) (some 66) rfl rfl (by kernel_rfl) (by kernel_rfl) (by kernel_rfl) (by kernel_rfl) (by kernel_rfl) (fun _ _ _ h=>h) (Or.inl ⟨by rfl,?yy17⟩) hSd ?rr17
       case yy17=>(intro wq hSq;obtain ⟨_,_,_,_⟩:=hSq;go_simp<;>with_reducible rfl)
       simp only[kh,kb,kf,ke]
       refine zB2j (i:=9) (oi:=_) (v:=?vv18) (some 67) rfl rfl (by kernel_rfl) (by kernel_rfl) (by kernel_rfl) (by kernel_rfl) (by kernel_rfl) (fun _ _ _ h=>h) (Or.inl ⟨by rfl,?yy18⟩) hSd ?rr18
       case yy18=>(intro wq hSq;obtain ⟨_,_,_,_⟩:=hSq;go_simp<;>with_reducible rfl)
       simp only[kh,kb,kf,ke]
       refine jwFJ (i:=4) (j:=14) (oi:=_) (oj:=_) (by kernel_rfl) rfl rfl (fun K' hK=>?brA) (fun K' hK=>?brB)
       case brA =>
        rw[if_pos (by rfl)]
        go_simp
        refine (HRO.out _).mono ?_
        rintro e V1 ⟨rfl,hbm⟩
        have hB1:Below wr.heap.size wr V1:=hWd.trans (hbm.mono hWd.size)
        have hSd:=HS.out _ hB1
        refine hK.out _ _ hSd ?_
        clear hK
        try simp only[kh]
        refine jwFJ (i:=10) (j:=14) (oi:=_) (oj:=_) (by kernel_rfl) rfl rfl (fun K' hK=>?brC) (fun K' hK=>?brD)
        case brC =>
         rw[if_pos (by rfl)]
         go_simp
         refine (HCA.out _ (j8.trans (hB1.mono j8.size))).mono ?_
         rintro e V2 ⟨r,rfl,hr,hbd,hfr⟩
         have hB2:Below wr.heap.size wr V2:=hB1.trans (hbd.mono hB1.size)
         have hSd:=HS.out _ hB2
         refine hK.out _ _ hSd ?_
         clear hK
         try simp only[kh]
         have HR:=hide hr
         obtain ⟨ro,rc,rfl,x1,x2⟩:=hr
         clear x1 x2
         refine zB2j (i:=11) (oi:=_) (v:=?vv19) (some 57) rfl rfl (by kernel_rfl) (by kernel_rfl) (by kernel_rfl) (by kernel_rfl) (by kernel_rfl) (fun _ _ _ h=>h) (Or.inl ⟨by rfl,?yy19⟩) hSd ?rr19
         case yy19=>(intro wq hSq;obtain ⟨_,_,_,_⟩:=hSq;go_simp<;>with_reducible rfl)
         simp only[kh,kb,kf,ke]
         refine zB2j (i:=12) (oi:=_) (v:=?vv20) (some 69) rfl rfl (by kernel_rfl) (by kernel_rfl) (by kernel_rfl) (by kernel_rfl) (by kernel_rfl) (fun _ _ _ h=>h) (Or.inl ⟨by rfl,?yy20⟩) hSd ?rr20
         case yy20=>(intro wq hSq;obtain ⟨_,_,_,_⟩:=hSq;go_simp<;>with_reducible rfl)
         simp only[kh,kb,kf,ke]
         refine zB2j (i:=13) (oi:=_) (v:=?vv21) (some 70) rfl rfl (by kernel_rfl) (by kernel_rfl) (by kernel_rfl) (by kernel_rfl) (by kernel_rfl) (fun _ _ _ h=>h) (Or.inl ⟨by rfl,?yy21⟩) hSd ?rr21
         case yy21=>(intro wq hSq;obtain ⟨_,_,_,_⟩:=hSq;go_simp<;>with_reducible rfl)
         simp only[kh,kb,kf,ke]
         refine znWj (i:=14) (o:=_) (by kernel_rfl) rfl (fun K' hK=>?_)
         rw[if_pos (by rfl)]
         go_simp
         have hB3:Below wr.heap.size wr (V2.alloc (ka #[.int .i64 0,.int .i64 0,.slice none 0 0] 24)):=hB2.alloc hB2.size _
         have hSd:=HS.out _ hB3
         refine hK.out _ _ hSd ?_
         clear hK
         try simp only[kh]
         refine znWj (i:=15) (o:=_) (by kernel_rfl) rfl (fun K' hK=>?_)
         rw[if_pos (by rfl)]
         go_simp
         have hB4:Below wr.heap.size wr (V2.alloc (ka #[.int .i64 (WN:Nat),.int .i64 ((t:Int)-(f:Int)),.slice ro P.length rc] 24)):=hB2.alloc hB2.size _
         have hSd:=HS.out _ hB4
         refine hK.out _ _ hSd ?_
         clear hK
         try simp only[kh]
         refine z9gO (o:=_) (by kernel_rfl) rfl (fun K' hK=>?_)
         rw[if_pos (by rfl)]
         go_simp
         refine hK.out _ _ ?_
         clear hK
         refine jFdp (by kernel_rfl) ?_ _
         try simp only[kh]
         clear hSd
         go_wp2
         go_meet
         case rel=>exact ⟨V2.heap.size,ro,rc,rfl,rfl,al1 V2 _,HR.out.alloc _,hB2.size,hB4⟩
        case brD =>
         rw[if_pos (by rfl)]
         go_simp
         have hBz:Below wr.heap.size wr (V1.alloc (ka #[.int .i64 0,.int .i64 0,.slice none 0 0] 24)):=hB1.alloc hB1.size _
         have hSd:=HS.out _ hBz
         refine hK.out _ _ hSd ?_
         clear hK
         try simp only[kh]
         have gz0:=al1 V1 (ka #[.int .i64 0,.int .i64 0,.slice none 0 0] 24)
         have hlz:=(kd.1 gz0).1
         have hq:=hB1.size
         generalize V1.alloc (ka #[.int .i64 0,.int .i64 0,.slice none 0 0] 24)=Vz at *
         generalize V1.heap.size=PX at *
         refine znWj (i:=10) (o:=_) (by kernel_rfl) rfl (fun K' hK=>?_)
         rw[if_pos (by rfl)]
         go_simp
         refine (HCA.out _ (j8.trans (hBz.mono j8.size))).mono ?_
         rintro e V2 ⟨r,rfl,hr,hbd,hfr⟩
         have hB2:Below wr.heap.size wr V2:=hBz.trans (hbd.mono hBz.size)
         have hSd:=HS.out _ hB2
         refine hK.out _ _ hSd ?_
         clear hK
         try simp only[kh]
         have HR:=hide hr
         obtain ⟨ro,rc,rfl,x1,x2⟩:=hr
         clear x1 x2
         refine zB2j (i:=11) (oi:=_) (v:=?vv22) (some 57) rfl rfl (by kernel_rfl) (by kernel_rfl) (by kernel_rfl) (by kernel_rfl) (by kernel_rfl) (fun _ _ _ h=>h) (Or.inl ⟨by rfl,?yy22⟩) hSd ?rr22
         case yy22=>(intro wq hSq;obtain ⟨_,_,_,_⟩:=hSq;go_simp<;>with_reducible rfl)
         simp only[kh,kb,kf,ke]
         refine zB2j (i:=12) (oi:=_) (v:=?vv23) (some 69) rfl rfl (by kernel_rfl) (by kernel_rfl) (by kernel_rfl) (by kernel_rfl) (by kernel_rfl) (fun _ _ _ h=>h) (Or.inl ⟨by rfl,?yy23⟩) hSd ?rr23
         case yy23=>(intro wq hSq;obtain ⟨_,_,_,_⟩:=hSq;go_simp<;>with_reducible rfl)
         simp only[kh,kb,kf,ke]
         refine zB2j (i:=13) (oi:=_) (v:=?vv24) (some 70) rfl rfl (by kernel_rfl) (by kernel_rfl) (by kernel_rfl) (by kernel_rfl) (by kernel_rfl) (fun _ _ _ h=>h) (Or.inl ⟨by rfl,?yy24⟩) hSd ?rr24
         case yy24=>(intro wq hSq;obtain ⟨_,_,_,_⟩:=hSq;go_simp<;>with_reducible rfl)
         simp only[kh,kb,kf,ke]
         have gz:=(hbd.block PX hlz).trans gz0
         obtain ⟨z0,z1,z2⟩:=z5EY gz
         have f0:=kg gz 0
         have f1:=kg gz 1
         have f2:=kg gz 2
         obtain ⟨vS,_,_,_⟩:=X0Wz gz (.int .i64 (WN:Nat)) (.int .i64 ((t:Int)-(f:Int))) (.slice ro P.length rc) w (kl j8.size hq) (j8.trans (hB2.mono j8.size))
         have hB4:=zHqh hB2 hq (.int .i64 (WN:Nat)) (.int .i64 ((t:Int)-(f:Int))) (.slice ro P.length rc)
         have HX:=hide (HR.out.set3 hfr hlz (.int .i64 (WN:Nat)) (.int .i64 ((t:Int)-(f:Int))) (.slice ro P.length rc))
         refine znWj (i:=15) (o:=_) (by kernel_rfl) rfl (fun K' hK=>?_)
         rw[if_pos (by rfl)]
         go_simp
         have hSd:=HS.out _ hB4
         refine hK.out _ _ hSd ?_
         clear hK
         try simp only[kh]
         clear z0 z1 z2 f0 f1 f2
         refine z9gO (o:=_) (by kernel_rfl) rfl (fun K' hK=>?_)
         rw[if_pos (by rfl)]
         go_simp
         refine hK.out _ _ ?_
         clear hK
         refine jFdp (by kernel_rfl) ?_ _
         try simp only[kh]
         clear hSd
         go_wp2
         go_meet
         case rel=>exact ⟨PX,ro,rc,rfl,rfl,vS,HX.out,hq,hB4⟩
       case brB =>
        rw[if_pos (by rfl)]
        go_simp
        have hBz:Below wr.heap.size wr (wr.alloc (ka #[.int .i64 0,.int .i64 0,.slice none 0 0] 24)).drew:=((Below.refl _ _).alloc (ki _) _).drew
        have hSd:=HS.out _ hBz
        refine hK.out _ _ hSd ?_
        clear hK
        try simp only[kh]
        have gz0:(wr.alloc (ka #[.int .i64 0,.int .i64 0,.slice none 0 0] 24)).drew.heap[wr.heap.size]?=_:=al1 wr (ka #[.int .i64 0,.int .i64 0,.slice none 0 0] 24)
        have hlz:=(kd.1 gz0).1
        obtain ⟨PX,hPX⟩:∃PX,wr.heap.size=PX:=⟨_,rfl⟩
        have hq:wr.heap.size≤PX:=by omega
        generalize (wr.alloc (ka #[.int .i64 0,.int .i64 0,.slice none 0 0] 24)).drew=Vz at *
        have HPX:=hide hPX
        rw[hPX] at gz0 hlz ⊢
        clear hPX
        refine znWj (i:=4) (o:=_) (by kernel_rfl) rfl (fun K' hK=>?_)
        rw[if_pos (by rfl)]
        go_simp
        refine (HRO.out _).mono ?_
        rintro e V1 ⟨rfl,hbm⟩
        have hB1:Below wr.heap.size wr V1:=hBz.trans (hbm.mono hBz.size)
        have hSd:=HS.out _ hB1
        refine hK.out _ _ hSd ?_
        clear hK
        try simp only[kh]
        replace gz0:=(hbm.block PX hlz).trans gz0
        replace hlz:=(kd.1 gz0).1
        refine znWj (i:=10) (o:=_) (by kernel_rfl) rfl (fun K' hK=>?_)
        rw[if_pos (by rfl)]
        go_simp
        refine (HCA.out _ (j8.trans (hB1.mono j8.size))).mono ?_
        rintro e V2 ⟨r,rfl,hr,hbd,hfr⟩
        have hB2:Below wr.heap.size wr V2:=hB1.trans (hbd.mono hB1.size)
        have hSd:=HS.out _ hB2
        refine hK.out _ _ hSd ?_
        clear hK
        try simp only[kh]
        have HR:=hide hr
        obtain ⟨ro,rc,rfl,x1,x2⟩:=hr
        clear x1 x2
        refine zB2j (i:=11) (oi:=_) (v:=?vv25) (some 57) rfl rfl (by kernel_rfl) (by kernel_rfl) (by kernel_rfl) (by kernel_rfl) (by kernel_rfl) (fun _ _ _ h=>h) (Or.inl ⟨by rfl,?yy25⟩) hSd ?rr25
        case yy25=>(intro wq hSq;obtain ⟨_,_,_,_⟩:=hSq;go_simp<;>with_reducible rfl)
        simp only[kh,kb,kf,ke]
        refine zB2j (i:=12) (oi:=_) (v:=?vv26) (some 69) rfl rfl (by kernel_rfl) (by kernel_rfl) (by kernel_rfl) (by kernel_rfl) (by kernel_rfl) (fun _ _ _ h=>h) (Or.inl ⟨by rfl,?yy26⟩) hSd ?rr26
        case yy26=>(intro wq hSq;obtain ⟨_,_,_,_⟩:=hSq;go_simp<;>with_reducible rfl)
        simp only[kh,kb,kf,ke]
        refine zB2j (i:=13) (oi:=_) (v:=?vv27) (some 70) rfl rfl (by kernel_rfl) (by kernel_rfl) (by kernel_rfl) (by kernel_rfl) (by kernel_rfl) (fun _ _ _ h=>h) (Or.inl ⟨by rfl,?yy27⟩) hSd ?rr27
        case yy27=>(intro wq hSq;obtain ⟨_,_,_,_⟩:=hSq;go_simp<;>with_reducible rfl)
        simp only[kh,kb,kf,ke]
        have gz:=(hbd.block PX hlz).trans gz0
        obtain ⟨z0,z1,z2⟩:=z5EY gz
        have f0:=kg gz 0
        have f1:=kg gz 1
        have f2:=kg gz 2
        obtain ⟨vS,_,_,_⟩:=X0Wz gz (.int .i64 (WN:Nat)) (.int .i64 ((t:Int)-(f:Int))) (.slice ro P.length rc) w (kl j8.size hq) (j8.trans (hB2.mono j8.size))
        have hB4:=zHqh hB2 hq (.int .i64 (WN:Nat)) (.int .i64 ((t:Int)-(f:Int))) (.slice ro P.length rc)
        have HX:=hide (HR.out.set3 hfr hlz (.int .i64 (WN:Nat)) (.int .i64 ((t:Int)-(f:Int))) (.slice ro P.length rc))
        refine znWj (i:=15) (o:=_) (by kernel_rfl) rfl (fun K' hK=>?_)
        rw[if_pos (by rfl)]
        go_simp
        have hSd:=HS.out _ hB4
        refine hK.out _ _ hSd ?_
        clear hK
        try simp only[kh]
        clear z0 z1 z2 f0 f1 f2
        refine z9gO (o:=_) (by kernel_rfl) rfl (fun K' hK=>?_)
        rw[if_pos (by rfl)]
        go_simp
        refine hK.out _ _ ?_
        clear hK
        refine jFdp (by kernel_rfl) ?_ _
        try simp only[kh]
        clear hSd
        go_wp2
        go_meet
        case rel=>exact ⟨PX,ro,rc,rfl,rfl,vS,HX.out,hq,hB4⟩
      case rest =>
       obtain ⟨PX,ro,rc,rfl,rfl,vS,hpx,hPX,vB⟩:=hcut
       have HJ2:=hide (HJ.out.below vB)
       clear HJ j8 HS
       obtain ⟨l,so,cap,k1,k2,k3,k4,k5,k6,k7,k8⟩:=HJ2.out
       have hP1:1*1≤m*WN:=Nat.mul_le_mul (by have:=HMM.out;omega) (by omega)
       obtain ⟨ro2,rc2,hpe,_,hpor⟩:=hpx
       cases hpe
       rcases hpor with hpor|⟨pb,po,rfl,hpb,hpc⟩
       ·exfalso
        rw[←HPL.out,hpor] at hP1
        simp at hP1
       have hlen:l.length+P.length≤t*WN:=by
        rw[HPL.out,show t=f+m from by have:=HMM.out;omega,Nat.add_mul]
        omega
       have HLN:=hide hlen
       have hl4:t*WN≤HN*WN:=Nat.mul_le_mul_right _ hle
       rw[←HLEN.out] at hl4
       have hl5:l.length+P.length≤4096:=by omega
       have hP2:1≤P.length:=by rw[HPL.out];omega
       obtain ⟨q0,q1,q2⟩:=z5EY k3
       obtain ⟨p0,p1,p2⟩:=z5EY vS
       have HFC:=hide (XKWu hpc)
       have HK:=hide k4
       have HK3:=hide k3
       clear hlen hl4 hpc
       go_wp2_with (at_builtin;refine wpList_append_own _ rfl _ _ 22 rfl w.heap.size 61 i0 pixZ 3 24 Tryz.underlying22 hi hz0 hz1 hz2 rfl (by omega) _ l.length (l.flatMap pixL) rfl HK.out ⟨pb,po,none⟩ P.length rc (P.flatMap pixL) rfl ?qc1 ?qc2 ?qc3 ?qc4 ?qc5 ?qc6 ?_)
       case qc1=>rw[Xqg0]
       case qc2=>exact HFC.out
       case qc3=>exact XKzo P
       case qc4=>unfold maxLen;omega
       case qc5=>omega
       case qc6=>exact k8.size
       intro v' w1 hown hgrow hnil
       rcases id hown.2 with ⟨_,hn0⟩|⟨g,cp,cur,rfl,_⟩
       ·exfalso;omega
       obtain ⟨_,c2,fz,g1,g2,g3,g4⟩:=j7Ww (by decide) HK3.out HK.out k8 (ki _) (show w.heap.size≤QX by omega) (Below.refl _ _) hgrow hown
       have HJ3:=hide (show StJ w n WN HN zs RN (planA n (.slice lo n.spots.length lc) (.slice ko n.curve.length kc)) (.slice (some ⟨bk,off,none⟩) zs.length ca) QX t _ from ⟨l++P,some ⟨g,0,none⟩,cp,by rw[List.append_assoc,←HST.out];exact k1,by rw[List.length_append];exact HLN.out,by rw[List.length_append];exact g1,by rw[List.length_append,List.flatMap_append];exact g2,
        (g4 _ (kd.1 k5).1 (qYYy HK.out k5 (by decide)) (by omega)).trans k5,(g4 _ (kd.1 k6).1 (qYYy HK.out k6 (by decide)) (by omega)).trans k6,(g4 _ (kd.1 k7).1 (qYYy HK.out k7 (by decide)) (by omega)).trans k7,g3⟩)
       clear g1 g2 g3 g4 k1 k2 k3 k4 k5 k6 k7 k8 hown hgrow hnil q0 q1 q2 p0 p1 p2
       go_wp2
       go_roundw
       case rel=>exact ⟨t,hle,by go_num,HJ3.out⟩
       case measure=>simp[intOf];omega
     ·have hd:decide ((f:Int)<(HN:Int))=false:=by simp;omega
      obtain rfl:f=HN:=by omega
      rw[jvZd,List.append_nil] at j1
      obtain ⟨y0,y1,y2⟩:=z5EY j3
      obtain ⟨z0,z1,z2⟩:=z5EY (b:=w.heap.size+1+1) j7
      have f0:=kg (b:=w.heap.size+1+1) j7 0
      have f1:=kg (b:=w.heap.size+1+1) j7 1
      have f2:=kg (b:=w.heap.size+1+1) j7 2
      have hll2:l.length≤4096:=by rw[←HLEN.out] at j2;omega
      have hpx:IsPix wr (.slice so l.length cap) l:=IsPix.own j4 (by omega)
      have hne:(Value.slice so l.length cap).ownBlock≠some (w.heap.size+1+1):=fun e=>qYYy j4 j7 (by decide) e.symm
      have HX:=hide (hpx.other (zv5i wr (w.heap.size+1+1) (.int .i64 (WN:Nat)) (.int .i64 (f:Nat)) (.slice so l.length cap)) (fun b hb=>jZhz _ _ _ _ _ b hb) hne)
      have HF:=hide (zHqh j8 (show w.heap.size≤w.heap.size+1+1 by omega) (.int .i64 (WN:Nat)) (.int .i64 (f:Nat)) (.slice so l.length cap))
      have HFR:=hide (Fresh.own j4)
      have HFE:=hide (Free.set3n (Free.own j4) hne (.int .i64 (WN:Nat)) (.int .i64 (f:Nat)) (.slice so l.length cap))
      have HSL:=hide (show X1qP n WN f zs RN=l from j1.symm)
      obtain ⟨N,hN⟩:∃N,l.length=N:=⟨_,rfl⟩
      rw[hN] at HX HF HFR HFE y2
      clear j4 hpx hne hN
      go_wp2
      refine bodyPost_ret (v:=.tuple #[.agg #[.int .i64 (WN:Nat),.int .i64 (f:Nat),.slice so N cap],.int .i64 0]) (by simp[results,Tryz.results17,go_sem,z0,z1,z2]) rfl ⟨_,rfl,?_,HF.out,HFR.out,HFE.out⟩
      show IsPix _ _ (X1qP n WN f zs RN)
      rw[HSL.out]
      exact HX.out
  ·have hd1:decide (rows<1)=true:=by simp;omega
   have he:E=3:=by rw[HPE.out,if_neg hr1]
   subst he
   obtain ⟨ao,ca,rfl,_,_⟩:=hv
   obtain ⟨a1,a2,a3⟩:=al3 w (ka (planA n (.slice lo n.spots.length lc) (.slice ko n.curve.length kc)) 51) (ka #[.int .i64 W,.int .i64 H,.slice ao zs.length ca] 54) (ka #[.int .i64 0,.int .i64 0,.slice none 0 0] 24)
   have HB:=hide (be3 w (ka (planA n (.slice lo n.spots.length lc) (.slice ko n.curve.length kc)) 51) (ka #[.int .i64 W,.int .i64 H,.slice ao zs.length ca] 54) (ka #[.int .i64 0,.int .i64 0,.slice none 0 0] 24))
   obtain ⟨p0,p1,p2⟩:=z5EY a2
   go_enter Tryz.func17,Tryz.ntmps17
   go_wp2_with (refine wpList_load_row rfl 51 _ rfl _ rfl _ _ _ _ a1 Tryz.underlying51 rfl (by kernel_rfl) ?_)
   clear p0 p1 p2
   have hl1:=(kd.1 a1).1
   have hl2:=(kd.1 a2).1
   have hl3:=(kd.1 a3).1
   generalize ((w.alloc (ka (planA n (.slice lo n.spots.length lc) (.slice ko n.curve.length kc)) 51)).alloc (ka #[.int .i64 W,.int .i64 H,.slice ao zs.length ca] 54)).alloc (ka #[.int .i64 0,.int .i64 0,.slice none 0 0] 24)=U at *
   refine (HFI.out _ HB.out).mono ?_
   rintro e w1 ⟨rfl,hb1⟩
   have g3:=(hb1.block _ hl3).trans a3
   obtain ⟨z0,z1,z2⟩:=z5EY (b:=w.heap.size+1+1) g3
   have f0:=kg (b:=w.heap.size+1+1) g3 0
   have f1:=kg (b:=w.heap.size+1+1) g3 1
   have f2:=kg (b:=w.heap.size+1+1) g3 2
   have HBF:=hide (zHqh (HB.out.trans (hb1.mono HB.out.size)) (show w.heap.size≤w.heap.size+1+1 by omega) (.int .i64 0) (.int .i64 0) (.slice none 0 0))
   go_wp2
   refine bodyPost_ret (v:=.tuple #[.agg #[.int .i64 0,.int .i64 0,.slice none 0 0],.int .i64 3]) (by simp[results,Tryz.results17,go_sem,z0,z1,z2]) rfl ⟨.slice none 0 0,?_,?_,HBF.out,Fresh.nil _,Free.nil _⟩
   ·first|rfl|rw[okW,if_neg HEN.out,okW,if_neg HEN.out]
   ·first|exact IsPix.nil _|(rw[okL,if_neg HEN.out];exact IsPix.nil _)
 ·rw[if_neg hF] at HPE
  have HEN0:=hide hF
  obtain ⟨F,hFF⟩:∃F,fitsE n W H zs H=F:=⟨_,rfl⟩
  rw[hFF] at HFI HPE HEN0 hF
  have hn:(F != 0)=true:=by simpa using hF
  have he:E=F:=HPE.out
  subst he
  have HEN:=hide hF
  clear hFF hF
  obtain ⟨ao,ca,rfl,_,_⟩:=hv
  obtain ⟨a1,a2,a3⟩:=al3 w (ka (planA n (.slice lo n.spots.length lc) (.slice ko n.curve.length kc)) 51) (ka #[.int .i64 W,.int .i64 H,.slice ao zs.length ca] 54) (ka #[.int .i64 0,.int .i64 0,.slice none 0 0] 24)
  have HB:=hide (be3 w (ka (planA n (.slice lo n.spots.length lc) (.slice ko n.curve.length kc)) 51) (ka #[.int .i64 W,.int .i64 H,.slice ao zs.length ca] 54) (ka #[.int .i64 0,.int .i64 0,.slice none 0 0] 24))
  obtain ⟨p0,p1,p2⟩:=z5EY a2
  go_enter Tryz.func17,Tryz.ntmps17
  go_wp2_with (refine wpList_load_row rfl 51 _ rfl _ rfl _ _ _ _ a1 Tryz.underlying51 rfl (by kernel_rfl) ?_)
  clear p0 p1 p2
  have hl1:=(kd.1 a1).1
  have hl2:=(kd.1 a2).1
  have hl3:=(kd.1 a3).1
  generalize ((w.alloc (ka (planA n (.slice lo n.spots.length lc) (.slice ko n.curve.length kc)) 51)).alloc (ka #[.int .i64 W,.int .i64 H,.slice ao zs.length ca] 54)).alloc (ka #[.int .i64 0,.int .i64 0,.slice none 0 0] 24)=U at *
  refine (HFI.out _ HB.out).mono ?_
  rintro e w1 ⟨rfl,hb1⟩
  have g3:=(hb1.block _ hl3).trans a3
  obtain ⟨z0,z1,z2⟩:=z5EY (b:=w.heap.size+1+1) g3
  have f0:=kg (b:=w.heap.size+1+1) g3 0
  have f1:=kg (b:=w.heap.size+1+1) g3 1
  have f2:=kg (b:=w.heap.size+1+1) g3 2
  have HBF:=hide (zHqh (HB.out.trans (hb1.mono HB.out.size)) (show w.heap.size≤w.heap.size+1+1 by omega) (.int .i64 0) (.int .i64 0) (.slice none 0 0))
  go_wp2
  refine bodyPost_ret (v:=.tuple #[.agg #[.int .i64 0,.int .i64 0,.slice none 0 0],.int .i64 E]) (by simp[results,Tryz.results17,go_sem,z0,z1,z2]) rfl ⟨.slice none 0 0,?_,?_,HBF.out,Fresh.nil _,Free.nil _⟩
  ·first|rfl|rw[okW,if_neg HEN.out,okW,if_neg HEN.out]
  ·first|exact IsPix.nil _|(rw[okL,if_neg HEN.out];exact IsPix.nil _)
theorem Xmrs (n:Plan) (sv cv:Value) (W H:Int) (v:Value) (zs:List Int) (rows:Int) (w:World) (hp:X1uD w n sv cv) (hv:jCvT w v zs) (hroom:roomy v) :
  Calls Tryz.prog 17 #[.agg (planA n sv cv),.agg #[.int .i64 W,.int .i64 H,v],.int .i64 rows] w fun e w'=>∃r,e=.returned (.tuple #[.agg #[.int .i64 (okW (XSDS n W H zs rows) W),.int .i64 (okW (XSDS n W H zs rows) H),r],.int .i64 (XSDS n W H zs rows)])∧IsPix w' r (okL (XSDS n W H zs rows) (X1qP n W H zs rows))∧Below w.heap.size w w'∧Fresh w.heap.size r :=
 (qAuu n sv cv W H v zs rows w hp hv hroom).mono fun _ _ ⟨r,h1,h2,h3,h4,_⟩=>⟨r,h1,h2,h3,h4⟩
end Go.Proofs.YtfjeonehdlphiaaGreatDoor
namespace Go.Proofs.YtfjeonehdlphiaaGreatDoor
def tallL:List Int:=(List.range 24).map fun (i:Nat)=>(i:Int)*1000 % 7919
theorem z3Ua:planE jkrq=0:=by decide +kernel
theorem j50P:planE zeroN=3:=by decide +kernel
theorem qVpI:fitsE jkrq 2 12 tallL 12=0:=by decide +kernel
theorem jOp6:X1qP jkrq 2 12 tallL 5=dev7 jkrq 2 12 tallL:=by decide +kernel
theorem zOVe:partE jkrq 2 9 (tallL.drop 6) 3 12 7 9=0:=by decide +kernel
theorem jhQw:partL jkrq 2 9 (tallL.drop 6) 3 7 9=((dev7 jkrq 2 12 tallL).drop 14).take 4:=by decide +kernel
end Go.Proofs.YtfjeonehdlphiaaGreatDoor
namespace Go.Proofs.YtfjeonehdlphiaaGreatDoor
open Go.RowKit
def tallX (k:Nat):Int:=(k:Int)*1000 % 7919
def TaJ (w:World) (k:Nat) (wr:World):Prop :=
 ∃(so:Option Addr) (cap:Nat),wr.heap[w.heap.size+1]?=some (.cells #[.int .i64 2,.int .i64 12,.slice so k cap] 54 (0,0))∧wr.ownsRow w.heap.size 3 1 (.slice so k cap) k (((List.range k).map tallX).map (.int .i64 ·)) ∧
  wr.heap[w.heap.size]?=some (.cells #[.int .i64 0,.int .i64 0,.slice none 0 0] 54 (0,0))∧Below w.heap.size w wr
theorem jpdj (w:World):Calls Tryz.prog 92 #[] w fun e w'=>∃r,e=.returned (.agg #[.int .i64 2,.int .i64 12,r])∧jCvT w' r tallL∧Below w.heap.size w w'∧Fresh w.heap.size r:=by
 obtain ⟨i0,hi,hz0,hz1,hz2⟩:=info_parts Tryz.infoInt
 obtain ⟨a1,a2⟩:=al2 w (ka #[.int .i64 0,.int .i64 0,.slice none 0 0] 54) (ka #[.int .i64 2,.int .i64 12,.slice none 0 0] 54)
 have HJ0:=hide (show TaJ w 0 _ from ⟨none,0,a2,⟨rfl,.inl ⟨rfl,rfl⟩⟩,a1,be2 w _ _⟩)
 clear a1 a2
 go_enter Tryz.func92,Tryz.ntmps92
 go_wp2_with fail
 go_loopw [2] (fun i wr=>∃k:Nat,k≤24∧i=.int .i64 k∧TaJ w k wr) (fun i _=>24-(intOf i).toNat)
 case atStart=>exact ⟨0,by omega,rfl,HJ0.out⟩
 case round =>
  clear HJ0
  obtain ⟨k,hk,rfl,hJ⟩:=hrel
  have HJ:=hide hJ
  obtain ⟨so,cap,j1,j2,j3,j4⟩:=hJ
  obtain ⟨q0,q1,q2⟩:=z5EY j1
  by_cases hlt:k<24
  ·have hd:decide ((k:Int)<24)=true:=by simp;omega
   have hm:IntKind.i64.wrap ((k:Int)*1000)=(k:Int)*1000:=kk _ (by omega)
   have hx:((k:Int)*1000).tmod 7919=tallX k:=by rw[Int.tmod_eq_emod_of_nonneg (by omega)];rfl
   have hxr:0≤tallX k∧tallX k<7919:=by unfold tallX;omega
   generalize hX:tallX k=X at *
   have HX:=hide hX
   clear hX
   have hwx:IntKind.i64.wrap X=X:=kk _ (by omega)
   have hb:=qUNz wr (ka #[.int .i64 X] 3)
   obtain ⟨p0,p1,p2⟩:=z5EY ((hb.block _ (kd.1 j1).1).trans j1)
   have HO:=hide (j2.alloc (ka #[.int .i64 X] 3))
   have hnb:=al1 wr (ka #[.int .i64 X] 3)
   go_wp2_with (at_builtin;refine wpList_append_own _ rfl _ _ 52 rfl w.heap.size 3 i0 (.int .i64 0) 1 8 Tryz.underlying52 hi hz0 hz1 hz2 rfl (by decide) _ _ _ rfl HO.out ⟨wr.heap.size,0,none⟩ 1 1 [.int .i64 X] rfl ?qc1 ?qc2 ?qc3 ?qc4 ?qc5 ?qc6 ?_)
   case qc1=>rfl
   case qc2=>exact World.news_of_block hnb
   case qc3=>exact fun u hu=>by simp at hu;subst hu;rfl
   case qc4=>unfold maxLen;omega
   case qc5=>omega
   case qc6=>exact kl j4.size hb.size
   intro v' w1 hown hgrow hnil
   rcases id hown.2 with ⟨_,hn0⟩|⟨g,cp,cur,rfl,_⟩
   ·exfalso;omega
   obtain ⟨_,c2,fz,g1,g2,g3,g4⟩:=j7Ww (by decide) j1 j2 j4 (ki _) (show w.heap.size≤w.heap.size+1 by omega) hb hgrow hown
   have HJ3:=hide (show TaJ w (k+1) _ from ⟨some ⟨g,0,none⟩,cp,g1,by rw[List.range_succ,List.map_append,List.map_append,List.map_cons,List.map_nil,HX.out,List.map_map];exact g2,(g4 _ (kd.1 j3).1 (qYYy j2 j3 (by decide)) (by omega)).trans j3,g3⟩)
   clear g1 g2 g3 g4 j1 j2 j3 j4 hown hgrow hnil q0 q1 q2 p0 p1 p2
   go_wp2
   go_roundw
   case rel=>exact ⟨k+1,by omega,by go_num,HJ3.out⟩
   case measure=>simp[intOf];omega
  ·have hd:decide ((k:Int)<24)=false:=by simp;omega
   obtain rfl:k=24:=by omega
   obtain ⟨z0,z1,z2⟩:=z5EY j3
   have f0:=kg j3 0
   have f1:=kg j3 1
   have f2:=kg j3 2
   have hne:(Value.slice so 24 cap).ownBlock≠some w.heap.size:=fun e=>qYYy j2 j3 (by decide) e.symm
   have HI:=hide ((jCvT.own j2 (by decide)).other (zv5i wr w.heap.size (.int .i64 2) (.int .i64 12) (.slice so 24 cap)) (fun b hb=>jZhz _ _ _ _ _ b hb) hne)
   have HF:=hide (zHqh j4 (ki _) (.int .i64 2) (.int .i64 12) (.slice so 24 cap))
   have HFR:=hide (Fresh.own j2)
   clear j2 hne
   go_wp2
   refine bodyPost_ret (v:=.agg #[.int .i64 2,.int .i64 12,.slice so 24 cap]) (by simp[results,Tryz.results92,go_sem,z0,z1,z2]) rfl ⟨_,rfl,HI.out,HF.out,HFR.out⟩
def tallQ:List Px:=dev7 jkrq 2 12 tallL
theorem jpqR:tallQ.length=24:=by unfold tallQ;rw[zrLo];rfl
theorem zSta:tallL.length=24:=rfl
theorem jOyo (u:World) (cv v:Value) (hp:X1uD u jkrq (.slice none 0 0) cv) (hv:jCvT u v tallL):Calls Tryz.prog 90 #[.agg (qQNe cv),.agg #[.int .i64 2,.int .i64 12,v]] u fun e w' =>
  ∃ro rc,e=.returned (.tuple #[.agg #[.int .i64 2,.int .i64 12,.slice ro 24 rc],.int .i64 0])∧IsPix w' (.slice ro 24 rc) tallQ∧Below u.heap.size u w'∧Fresh u.heap.size (.slice ro 24 rc):=by
 have h:=zpfn jkrq _ cv 2 12 v tallL u hp (fun j hj=>by simp[jkrq] at hj) hv
 rw[qVpI] at h
 refine h.mono ?_
 rintro e w' ⟨r,rfl,hr,hb,hf⟩
 obtain ⟨ro,rc,rfl,h1,h2⟩:=id hr
 have hl:(okL 0 (dev7 jkrq 2 12 tallL)).length=24:=jpqR
 rw[hl] at hr hf ⊢
 exact ⟨ro,rc,rfl,hr,hb,hf⟩
theorem zbHl (u:World) (cv v:Value) (hp:X1uD u jkrq (.slice none 0 0) cv) (hv:jCvT u v tallL) (hr:roomy v):Calls Tryz.prog 17 #[.agg (qQNe cv),.agg #[.int .i64 2,.int .i64 12,v],.int .i64 5] u fun e w' =>
  ∃ro rc,e=.returned (.tuple #[.agg #[.int .i64 2,.int .i64 12,.slice ro 24 rc],.int .i64 0])∧IsPix w' (.slice ro 24 rc) tallQ∧Below u.heap.size u w'∧Fresh u.heap.size (.slice ro 24 rc):=by
 have h:=Xmrs jkrq _ cv 2 12 v tallL 5 u hp hv hr
 rw[show XSDS jkrq 2 12 tallL 5=0 by rw[XSDS,qVpI];rfl,jOp6] at h
 refine h.mono ?_
 rintro e w' ⟨r,rfl,hr,hb,hf⟩
 obtain ⟨ro,rc,rfl,h1,h2⟩:=id hr
 have hl:(okL 0 (dev7 jkrq 2 12 tallL)).length=24:=jpqR
 rw[hl] at hr hf ⊢
 exact ⟨ro,rc,rfl,hr,hb,hf⟩
def tallR:List Px:=(tallQ.drop 14).take 4
theorem z7FZ:tallR.length=4:=by unfold tallR;rw[List.length_take,List.length_drop,jpqR];rfl
theorem zRDm:pxAt tallR 0=pxAt tallQ 14:=by
 unfold tallR pxAt
 rw[km,km,List.getElem?_take_of_lt (by decide),List.getElem?_drop]
theorem zuDm (u:World) (cv v:Value) (hp:X1uD u jkrq (.slice none 0 0) cv) (hv:jCvT u v (tallL.drop 6)):Calls Tryz.prog 57 #[.agg (qQNe cv),.agg #[.int .i64 2,.int .i64 9,v],.int .i64 3,.int .i64 12,.int .i64 7,.int .i64 9] u fun e w' =>
  ∃ro rc,e=.returned (.tuple #[.agg #[.int .i64 2,.int .i64 2,.slice ro 4 rc],.int .i64 0])∧IsPix w' (.slice ro 4 rc) tallR∧Below u.heap.size u w'∧Fresh u.heap.size (.slice ro 4 rc):=by
 have h:=XedY jkrq _ cv 2 9 v (tallL.drop 6) 3 12 7 9 u hp hv
 rw[zOVe,jhQw] at h
 refine h.mono ?_
 rintro e w' ⟨r,rfl,hr,hb,hf⟩
 obtain ⟨ro,rc,rfl,h1,h2⟩:=id hr
 have hl:(okL 0 (((dev7 jkrq 2 12 tallL).drop 14).take 4)).length=4:=z7FZ
 rw[hl] at hr hf ⊢
 exact ⟨ro,rc,rfl,hr,hb,hf⟩
theorem j9Wt (u:World) (cv:Value) (hp:X1uD u jkrq (.slice none 0 0) cv):Calls Tryz.prog 93 #[.agg (qQNe cv)] u fun e w'=>e=.returned (.int .i64 0)∧Below u.heap.size u w':=by
 have h:=jkni jkrq _ cv u hp
 rw[z3Ua] at h
 exact h
theorem zvVY (u:World):Calls Tryz.prog 93 #[.agg planZ] u fun e w'=>e=.returned (.int .i64 3)∧Below u.heap.size u w':=by
 have h:=jkni zeroN (.slice none 0 0) (.slice none 0 0) u ⟨⟨none,0,rfl,by decide,.inl rfl⟩,⟨none,0,rfl,by decide,.inl rfl⟩⟩
 rw[j50P] at h
 exact h
theorem jFet {u:World} {b off cap:Nat} (h:jCvT u (.slice (some ⟨b,off,none⟩) 24 cap) tallL):jCvT u (.slice (some ⟨b,off+6,none⟩) 18 (cap-6)) (tallL.drop 6):=by
 obtain ⟨ao,c,hv,_,hc⟩:=h
 cases hv
 rcases hc with hc|⟨b',o',he,hb,hc⟩
 ·exact absurd (congrArg List.length hc) (by decide)
 ·cases he
  refine ⟨_,_,rfl,by decide,.inr ⟨b,off+6,rfl,hb,fun j hj=>?_⟩⟩
  have hj2:j<18:=hj
  have e:=hc (6+j) (by rw[zSta];omega)
  rw[Nat.add_assoc,e,List.getElem_drop]
theorem qWnB (u:World) (va vb:Value) (ha:IsPix u va tallQ) (hb:IsPix u vb tallQ):Calls Tryz.prog 14 #[.agg #[.int .i64 2,.int .i64 12,va],.agg #[.int .i64 2,.int .i64 12,vb]] u fun e w'=>e=.returned (.bool true)∧Below u.heap.size u w':=by
 have h:=XIqO 2 12 va tallQ 2 12 vb tallQ u ha hb
 rw[show sameB 2 12 tallQ 2 12 tallQ=true by simp[sameB]] at h
 exact h
theorem tallH (w:World):Calls Tryz.prog 92 #[] w fun e w'=>∃b off ca,e=.returned (.agg #[.int .i64 2,.int .i64 12,.slice (some ⟨b,off,none⟩) 24 ca])∧Hid (jCvT w' (.slice (some ⟨b,off,none⟩) 24 ca) tallL)∧24≤ca∧Below w.heap.size w w' :=
 (jpdj w).mono fun e w' ⟨r,h1,h2,h3,h4⟩=>by
  obtain ⟨b,off,ca,rfl,_,_⟩:=h2.cells (by rw[zSta];decide)
  exact ⟨b,off,ca,h1,hide h2,h4.2,h3⟩
theorem j1RT (w:World):Calls Tryz.prog 25 #[] w fun e w'=>e=.returned (.bool true)∧Below w.heap.size w w':=by
 go_enter Tryz.func25,Tryz.ntmps25
 go_wp2_with fail
 refine (zcoU _).mono ?_
 rintro e p1 ⟨cv1,rfl,hp1,hbp1⟩
 go_wp2_with fail
 refine (tallH _).mono ?_
 rintro e t1 ⟨tb,tf,tc,rfl,HT,htc,hbt⟩
 go_wp2_with fail
 refine (jOyo _ _ _ (hp1.below hbt (ki _)) HT.out).mono ?_
 rintro e r1 ⟨qo,qc,rfl,hx,hbr,_⟩
 have hC1:=quJN (quJN (quJN hbp1 hbt) hbr) (qUNz r1 (ka #[.int .i64 2,.int .i64 12,.slice qo 24 qc] 24))
 have B1:=al1 r1 (ka #[.int .i64 2,.int .i64 12,.slice qo 24 qc] 24)
 have X1:=hide (hx.alloc (ka #[.int .i64 2,.int .i64 12,.slice qo 24 qc] 24))
 clear hp1 hbp1 HT htc hbt hx hbr
 go_wp2_with fail
 have l1:=(kd.1 B1).1
 generalize r1.alloc (ka #[.int .i64 2,.int .i64 12,.slice qo 24 qc] 24)=U1 at *
 generalize r1.heap.size=QB at *
 clear r1
 refine (zcoU _).mono ?_
 rintro e p2 ⟨cv2,rfl,hp2,hbp2⟩
 go_wp2_with fail
 refine (tallH _).mono ?_
 rintro e t2 ⟨tb,tf,tc,rfl,HT,htc,hbt⟩
 go_wp2_with fail
 refine (zbHl _ _ _ (hp2.below hbt (ki _)) HT.out htc).mono ?_
 rintro e r2 ⟨so,sc,rfl,hx,hbr,_⟩
 have hC2:=quJN (quJN (quJN hbp2 hbt) hbr) (qUNz r2 (ka #[.int .i64 2,.int .i64 12,.slice so 24 sc] 24))
 have B2:=al1 r2 (ka #[.int .i64 2,.int .i64 12,.slice so 24 sc] 24)
 have X2:=hide (hx.alloc (ka #[.int .i64 2,.int .i64 12,.slice so 24 sc] 24))
 clear hp2 hbp2 HT htc hbt hx hbr
 replace B1:=(hC2.block QB l1).trans B1
 replace X1:=hide (X1.out.below hC2 (ki _))
 replace hC1:=quJN hC1 hC2
 clear hC2
 go_wp2_with fail
 replace l1:=(kd.1 B1).1
 have l2:=(kd.1 B2).1
 generalize r2.alloc (ka #[.int .i64 2,.int .i64 12,.slice so 24 sc] 24)=U2 at *
 generalize r2.heap.size=SB at *
 clear r2
 refine (zcoU _).mono ?_
 rintro e p3 ⟨cv3,rfl,hp3,hbp3⟩
 go_wp2_with fail
 refine (tallH _).mono ?_
 rintro e t3 ⟨tb,tf,tc,rfl,HT,htc,hbt⟩
 have hfd:∀V:World,(Instr.field 54 (.agg #[.int .i64 2,.int .i64 12,.slice (some ⟨tb,tf,none⟩) 24 tc]) 2).run Tryz.prog V=.ok (.slice (some ⟨tb,tf,none⟩) 24 tc) V:=fun V=>by kernel_rfl
 have hg1:(24:Int)≤(tc:Int):=by omega
 have hg2:¬(tc=6):=by omega
 have hg3:¬((tc:Int)<24):=by omega
 go_wp2_with fail
 refine (zuDm _ _ _ (hp3.below hbt (ki _)) (jFet HT.out)).mono ?_
 rintro e r3 ⟨zo,zc,rfl,hx,hbr,_⟩
 have hC3:=quJN (quJN (quJN hbp3 hbt) hbr) (qUNz r3 (ka #[.int .i64 2,.int .i64 2,.slice zo 4 zc] 24))
 have B3:=al1 r3 (ka #[.int .i64 2,.int .i64 2,.slice zo 4 zc] 24)
 have X3:=hide (hx.alloc (ka #[.int .i64 2,.int .i64 2,.slice zo 4 zc] 24))
 clear hp3 hbp3 HT htc hbt hx hbr hfd hg1 hg2 hg3
 replace B1:=(hC3.block QB l1).trans B1
 replace B2:=(hC3.block SB l2).trans B2
 replace X1:=hide (X1.out.below hC3 (ki _))
 replace X2:=hide (X2.out.below hC3 (ki _))
 have HBW:=hide (quJN hC1 hC3)
 clear hC1 hC3
 go_upto_region 4 with fail
 generalize Value.agg (qQNe cv1)=g1
 generalize Value.agg (qQNe cv2)=g2
 generalize Value.agg (qQNe cv3)=g3
 replace l1:=(kd.1 B1).1
 replace l2:=(kd.1 B2).1
 have l3:=(kd.1 B3).1
 generalize r3.alloc (ka #[.int .i64 2,.int .i64 2,.slice zo 4 zc] 24)=U at *
 generalize r3.heap.size=TB at *
 clear r3
 obtain ⟨qo2,qc2,hqe,_,hqor⟩:=X1.out
 rcases hqor with hqor|⟨qb,qf,rfl,hqb,hqc⟩
 ·exact absurd (congrArg List.length hqor) (by rw[jpqR];decide)
 obtain ⟨zo2,zc2,hte,_,htor⟩:=X3.out
 rcases htor with htor|⟨tb,tf,rfl,htb,htc⟩
 ·exact absurd (congrArg List.length htor) (by rw[z7FZ];decide)
 cases hqe
 cases hte
 obtain ⟨x0,x1,x2⟩:=hqc 14 (by rw[jpqR];decide)
 obtain ⟨y0,y1,y2⟩:=htc 0 (by rw[z7FZ];decide)
 rw[jD3W tallQ 14 (by rw[jpqR];decide)] at x0 x1 x2
 rw[jD3W tallR 0 (by rw[z7FZ];decide),zRDm] at y0 y1 y2
 simp only[Nat.zero_mul,Nat.add_zero] at y0 y1 y2
 simp only[Nat.reduceMul] at x0 x1 x2
 generalize (pxAt tallQ 14).1=A0 at *
 generalize (pxAt tallQ 14).2.1=A1 at *
 generalize (pxAt tallQ 14).2.2=A2 at *
 clear hqc htc
 have HS:=hide (show ∀v,Below U.heap.size U v→v.cell? ⟨QB,0,none⟩=some (.int .i64 2)∧v.cell? ⟨QB,1,none⟩=some (.int .i64 12)∧v.cell? ⟨QB,2,none⟩=some (.slice (some ⟨qb,qf,none⟩) 24 qc)∧v.cell? ⟨SB,0,none⟩=some (.int .i64 2)∧v.cell? ⟨SB,1,none⟩=some (.int .i64 12)∧v.cell? ⟨SB,2,none⟩=some (.slice so 24 sc)∧v.cell? ⟨TB,1,none⟩=some (.int .i64 2)∧v.cell? ⟨TB,2,none⟩=some (.slice (some ⟨tb,tf,none⟩) 4 zc)∧v.cell? ⟨qb,qf+42,none⟩=some (.int .i64 A0)∧v.cell? ⟨qb,qf+42+1,none⟩=some (.int .i64 A1)∧v.cell? ⟨qb,qf+42+2,none⟩=some (.int .i64 A2)∧v.cell? ⟨tb,tf,none⟩=some (.int .i64 A0)∧v.cell? ⟨tb,tf+1,none⟩=some (.int .i64 A1)∧v.cell? ⟨tb,tf+2,none⟩=some (.int .i64 A2) from fun v h=>by
  obtain ⟨a0,a1,a2⟩:=z5EY ((h.block _ l1).trans B1)
  obtain ⟨b0,b1,b2⟩:=z5EY ((h.block _ l2).trans B2)
  obtain ⟨_,c1,c2⟩:=z5EY ((h.block _ l3).trans B3)
  exact ⟨a0,a1,a2,b0,b1,b2,c1,c2,(h.cell (p:=⟨qb,qf+42,none⟩) hqb).trans x0,(h.cell (p:=⟨qb,qf+42+1,none⟩) hqb).trans x1,(h.cell (p:=⟨qb,qf+42+2,none⟩) hqb).trans x2,(h.cell (p:=⟨tb,tf,none⟩) htb).trans y0,(h.cell (p:=⟨tb,tf+1,none⟩) htb).trans y1,(h.cell (p:=⟨tb,tf+2,none⟩) htb).trans y2⟩)
 have hWd:Below U.heap.size U U.drew:=(Below.refl _ _).drew
 have hSd:=HS.out _ hWd
 clear x0 x1 x2 y0 y1 y2
 have hmx:Tryz.prog.follows .mixedOrders=true:=by kernel_rfl
 refine qYgd (S:=fun v:World=>v.cell? ⟨QB,0,none⟩=some (.int .i64 2)∧v.cell? ⟨QB,1,none⟩=some (.int .i64 12)∧v.cell? ⟨QB,2,none⟩=some (.slice (some ⟨qb,qf,none⟩) 24 qc)∧v.cell? ⟨SB,0,none⟩=some (.int .i64 2)∧v.cell? ⟨SB,1,none⟩=some (.int .i64 12)∧v.cell? ⟨SB,2,none⟩=some (.slice so 24 sc)∧v.cell? ⟨TB,1,none⟩=some (.int .i64 2)∧v.cell? ⟨TB,2,none⟩=some (.slice (some ⟨tb,tf,none⟩) 4 zc)∧v.cell? ⟨qb,qf+42,none⟩=some (.int .i64 A0)∧v.cell? ⟨qb,qf+42+1,none⟩=some (.int .i64 A1)∧v.cell? ⟨qb,qf+42+2,none⟩=some (.int .i64 A2)∧v.cell? ⟨tb,tf,none⟩=some (.int .i64 A0)∧v.cell? ⟨tb,tf+1,none⟩=some (.int .i64 A1)∧v.cell? ⟨tb,tf+2,none⟩=some (.int .i64 A2)) (f:=53) hmx ?_
 show jZdv _ _ _ _ _ _ 54 _ _ U.drew
 refine znWj (i:=0) (o:=_) (by kernel_rfl) rfl (fun K' hK=>?_)
 rw[if_pos (by rfl)]
 go_simp
 refine (zcoU _).mono ?_
 rintro e V0 ⟨cvz,rfl,hpz,hbvV0⟩
 have hBV0:Below U.heap.size U V0:=hWd.trans (hbvV0.mono hWd.size)
 have hSd:=HS.out _ hBV0
 refine hK.out _ _ hSd ?_
 clear hK
 try simp only[kh]
 refine znWj (i:=1) (o:=_) (by kernel_rfl) rfl (fun K' hK=>?_)
 rw[if_pos (by rfl)]
 go_simp
 refine (j9Wt _ _ hpz).mono ?_
 rintro e V1 ⟨rfl,hbvV1⟩
 have hBV1:Below U.heap.size U V1:=hBV0.trans (hbvV1.mono hBV0.size)
 clear hpz
 generalize Value.agg (qQNe cvz)=g4
 have hSd:=HS.out _ hBV1
 refine hK.out _ _ hSd ?_
 clear hK
 try simp only[kh]
 refine takeQ 2 ?vv1 (some 30) [] ?yy1 hSd ?rr1
 case yy1=>(intro wq hSq;obtain ⟨_,_,_,_,_,_,_,_,_,_,_,_,_,_⟩:=hSq;go_simp<;>with_reducible rfl)
 simp only[kh,kb,kf,ke]
 refine takeQ 3 ?vv2 (some 31) [] ?yy2 hSd ?rr2
 case yy2=>(intro wq hSq;obtain ⟨_,_,_,_,_,_,_,_,_,_,_,_,_,_⟩:=hSq;go_simp<;>with_reducible rfl)
 simp only[kh,kb,kf,ke]
 refine takeQ 4 ?vv3 (some 32) [] ?yy3 hSd ?rr3
 case yy3=>(intro wq hSq;obtain ⟨_,_,_,_,_,_,_,_,_,_,_,_,_,_⟩:=hSq;go_simp<;>with_reducible rfl)
 simp only[kh,kb,kf,ke]
 refine znWj (i:=5) (o:=_) (by kernel_rfl) rfl (fun K' hK=>?_)
 rw[if_pos (by rfl)]
 go_simp
 refine (zvVY _).mono ?_
 rintro e V2 ⟨rfl,hbvV2⟩
 have hBV2:Below U.heap.size U V2:=hBV1.trans (hbvV2.mono hBV1.size)
 generalize Value.agg planZ=g5
 have hSd:=HS.out _ hBV2
 refine hK.out _ _ hSd ?_
 clear hK
 try simp only[kh]
 refine takeQ 6 ?vv4 (some 34) [] ?yy4 hSd ?rr4
 case yy4=>(intro wq hSq;obtain ⟨_,_,_,_,_,_,_,_,_,_,_,_,_,_⟩:=hSq;go_simp<;>with_reducible rfl)
 simp only[kh,kb,kf,ke]
 refine takeQ 7 ?vv5 (some 35) [] ?yy5 hSd ?rr5
 case yy5=>(intro wq hSq;obtain ⟨_,_,_,_,_,_,_,_,_,_,_,_,_,_⟩:=hSq;go_simp<;>with_reducible rfl)
 simp only[kh,kb,kf,ke]
 refine takeQ 8 ?vv6 (some 36) [] ?yy6 hSd ?rr6
 case yy6=>(intro wq hSq;obtain ⟨_,_,_,_,_,_,_,_,_,_,_,_,_,_⟩:=hSq;go_simp<;>with_reducible rfl)
 simp only[kh,kb,kf,ke]
 refine takeQ 9 ?vv7 (some 37) [] ?yy7 hSd ?rr7
 case yy7=>(intro wq hSq;obtain ⟨_,_,_,_,_,_,_,_,_,_,_,_,_,_⟩:=hSq;go_simp<;>with_reducible rfl)
 simp only[kh,kb,kf,ke]
 refine takeQ 10 ?vv8 (some 38) [] ?yy8 hSd ?rr8
 case yy8=>(intro wq hSq;obtain ⟨_,_,_,_,_,_,_,_,_,_,_,_,_,_⟩:=hSq;go_simp<;>with_reducible rfl)
 simp only[kh,kb,kf,ke]
 refine takeQ 11 ?vv9 (some 39) [] ?yy9 hSd ?rr9
 case yy9=>(intro wq hSq;obtain ⟨_,_,_,_,_,_,_,_,_,_,_,_,_,_⟩:=hSq;go_simp<;>with_reducible rfl)
 simp only[kh,kb,kf,ke]
 refine takeQ 12 ?vv10 (some 40) [] ?yy10 hSd ?rr10
 case yy10=>(intro wq hSq;obtain ⟨_,_,_,_,_,_,_,_,_,_,_,_,_,_⟩:=hSq;go_simp<;>with_reducible rfl)
 simp only[kh,kb,kf,ke]
 refine takeQ 13 ?vv11 (some 41) [] ?yy11 hSd ?rr11
 case yy11=>(intro wq hSq;obtain ⟨_,_,_,_,_,_,_,_,_,_,_,_,_,_⟩:=hSq;go_simp<;>with_reducible rfl)
 simp only[kh,kb,kf,ke]
 refine takeQ 14 ?vv12 (some 42) [] ?yy12 hSd ?rr12
 case yy12=>(intro wq hSq;obtain ⟨_,_,_,_,_,_,_,_,_,_,_,_,_,_⟩:=hSq;go_simp<;>with_reducible rfl)
 simp only[kh,kb,kf,ke]
 refine takeQ 15 ?vv13 (some 43) [] ?yy13 hSd ?rr13
 case yy13=>(intro wq hSq;obtain ⟨_,_,_,_,_,_,_,_,_,_,_,_,_,_⟩:=hSq;go_simp<;>with_reducible rfl)
 simp only[kh,kb,kf,ke]
 refine takeQ 16 ?vv14 (some 44) [] ?yy14 hSd ?rr14
 case yy14=>(intro wq hSq;obtain ⟨_,_,_,_,_,_,_,_,_,_,_,_,_,_⟩:=hSq;go_simp<;>with_reducible rfl)
 simp only[kh,kb,kf,ke]
 refine takeQ 17 ?vv15 (some 45) [] ?yy15 hSd ?rr15
 case yy15=>(intro wq hSq;obtain ⟨_,_,_,_,_,_,_,_,_,_,_,_,_,_⟩:=hSq;go_simp<;>with_reducible rfl)
 simp only[kh,kb,kf,ke]
 refine takeQ 18 ?vv16 (some 46) [] ?yy16 hSd ?rr16
 case yy16=>(intro wq hSq;obtain ⟨_,_,_,_,_,_,_,_,_,_,_,_,_,_⟩:=hSq;go_simp<;>with_reducible rfl)
 simp only[kh,kb,kf,ke]
 refine takeQ 19 ?vv17 (some 47) [] ?yy17 hSd ?rr17
 case yy17=>(intro wq hSq;obtain ⟨_,_,_,_,_,_,_,_,_,_,_,_,_,_⟩:=hSq;go_simp<;>with_reducible rfl)
 simp only[kh,kb,kf,ke]
 refine takeQ 20 ?vv18 (some 48) [] ?yy18 hSd ?rr18
 case yy18=>(intro wq hSq;obtain ⟨_,_,_,_,_,_,_,_,_,_,_,_,_,_⟩:=hSq;go_simp<;>with_reducible rfl)
 simp only[kh,kb,kf,ke]
 refine takeQ 21 ?vv19 (some 49) [] ?yy19 hSd ?rr19
 case yy19=>(intro wq hSq;obtain ⟨_,_,_,_,_,_,_,_,_,_,_,_,_,_⟩:=hSq;go_simp<;>with_reducible rfl)
 simp only[kh,kb,kf,ke]
 refine takeQ 22 ?vv20 (some 50) [] ?yy20 hSd ?rr20
 case yy20=>(intro wq hSq;obtain ⟨_,_,_,_,_,_,_,_,_,_,_,_,_,_⟩:=hSq;go_simp<;>with_reducible rfl)
 simp only[kh,kb,kf,ke]
 refine takeQ 23 ?vv21 (some 51) [] ?yy21 hSd ?rr21
 case yy21=>(intro wq hSq;obtain ⟨_,_,_,_,_,_,_,_,_,_,_,_,_,_⟩:=hSq;go_simp<;>with_reducible rfl)
 simp only[kh,kb,kf,ke]
 refine takeQ 24 ?vv22 (some 52) [] ?yy22 hSd ?rr22
 case yy22=>(intro wq hSq;obtain ⟨_,_,_,_,_,_,_,_,_,_,_,_,_,_⟩:=hSq;go_simp<;>with_reducible rfl)
 simp only[kh,kb,kf,ke]
 refine takeQ 25 ?vv23 (some 53) [] ?yy23 hSd ?rr23
 case yy23=>(intro wq hSq;obtain ⟨_,_,_,_,_,_,_,_,_,_,_,_,_,_⟩:=hSq;go_simp<;>with_reducible rfl)
 simp only[kh,kb,kf,ke]
 refine takeQ 26 ?vv24 (some 54) [] ?yy24 hSd ?rr24
 case yy24=>(intro wq hSq;obtain ⟨_,_,_,_,_,_,_,_,_,_,_,_,_,_⟩:=hSq;go_simp<;>with_reducible rfl)
 simp only[kh,kb,kf,ke]
 refine takeQ 27 ?vv25 (some 55) [] ?yy25 hSd ?rr25
 case yy25=>(intro wq hSq;obtain ⟨_,_,_,_,_,_,_,_,_,_,_,_,_,_⟩:=hSq;go_simp<;>with_reducible rfl)
 simp only[kh,kb,kf,ke]
 refine takeQ 28 ?vv26 (some 56) [] ?yy26 hSd ?rr26
 case yy26=>(intro wq hSq;obtain ⟨_,_,_,_,_,_,_,_,_,_,_,_,_,_⟩:=hSq;go_simp<;>with_reducible rfl)
 simp only[kh,kb,kf,ke]
 refine znWj (i:=29) (o:=_) (by kernel_rfl) rfl (fun K' hK=>?_)
 rw[if_pos (by rfl)]
 go_simp
 refine (qWnB _ _ _ (X2.out.below hBV2 (ki _)) (X1.out.below hBV2 (ki _))).mono ?_
 rintro e V3 ⟨rfl,hbvV3⟩
 have hBV3:Below U.heap.size U V3:=hBV2.trans (hbvV3.mono hBV2.size)
 have hSd:=HS.out _ hBV3
 refine hK.out _ _ hSd ?_
 clear hK
 try simp only[kh]
 refine takeQ 30 ?vv27 (some 58) [] ?yy27 hSd ?rr27
 case yy27=>(intro wq hSq;obtain ⟨_,_,_,_,_,_,_,_,_,_,_,_,_,_⟩:=hSq;go_simp<;>with_reducible rfl)
 simp only[kh,kb,kf,ke]
 refine takeQ 31 ?vv28 (some 59) [] ?yy28 hSd ?rr28
 case yy28=>(intro wq hSq;obtain ⟨_,_,_,_,_,_,_,_,_,_,_,_,_,_⟩:=hSq;go_simp<;>with_reducible rfl)
 simp only[kh,kb,kf,ke]
 refine takeQ 32 ?vv29 (some 60) [] ?yy29 hSd ?rr29
 case yy29=>(intro wq hSq;obtain ⟨_,_,_,_,_,_,_,_,_,_,_,_,_,_⟩:=hSq;go_simp<;>with_reducible rfl)
 simp only[kh,kb,kf,ke]
 refine takeQ 33 ?vv30 (some 61) [] ?yy30 hSd ?rr30
 case yy30=>(intro wq hSq;obtain ⟨_,_,_,_,_,_,_,_,_,_,_,_,_,_⟩:=hSq;go_simp<;>with_reducible rfl)
 simp only[kh,kb,kf,ke]
 refine takeQ 34 ?vv31 (some 62) [] ?yy31 hSd ?rr31
 case yy31=>(intro wq hSq;obtain ⟨_,_,_,_,_,_,_,_,_,_,_,_,_,_⟩:=hSq;go_simp<;>with_reducible rfl)
 simp only[kh,kb,kf,ke]
 refine takeQ 35 ?vv32 (some 63) [] ?yy32 hSd ?rr32
 case yy32=>(intro wq hSq;obtain ⟨_,_,_,_,_,_,_,_,_,_,_,_,_,_⟩:=hSq;go_simp<;>with_reducible rfl)
 simp only[kh,kb,kf,ke]
 refine takeQ 36 ?vv33 (some 64) [] ?yy33 hSd ?rr33
 case yy33=>(intro wq hSq;obtain ⟨_,_,_,_,_,_,_,_,_,_,_,_,_,_⟩:=hSq;go_simp<;>with_reducible rfl)
 simp only[kh,kb,kf,ke]
 refine takeQ 37 ?vv34 (some 65) [] ?yy34 hSd ?rr34
 case yy34=>(intro wq hSq;obtain ⟨_,_,_,_,_,_,_,_,_,_,_,_,_,_⟩:=hSq;go_simp<;>with_reducible rfl)
 simp only[kh,kb,kf,ke]
 refine takeQ 38 ?vv35 (some 66) [] ?yy35 hSd ?rr35
 case yy35=>(intro wq hSq;obtain ⟨_,_,_,_,_,_,_,_,_,_,_,_,_,_⟩:=hSq;go_simp<;>with_reducible rfl)
 simp only[kh,kb,kf,ke]
 refine takeQ 39 ?vv36 (some 67) [] ?yy36 hSd ?rr36
 case yy36=>(intro wq hSq;obtain ⟨_,_,_,_,_,_,_,_,_,_,_,_,_,_⟩:=hSq;go_simp<;>with_reducible rfl)
 simp only[kh,kb,kf,ke]
 refine takeQ 40 ?vv37 (some 68) [] ?yy37 hSd ?rr37
 case yy37=>(intro wq hSq;obtain ⟨_,_,_,_,_,_,_,_,_,_,_,_,_,_⟩:=hSq;go_simp<;>with_reducible rfl)
 simp only[kh,kb,kf,ke]
 refine takeQ 41 ?vv38 (some 69) [] ?yy38 hSd ?rr38
 case yy38=>(intro wq hSq;obtain ⟨_,_,_,_,_,_,_,_,_,_,_,_,_,_⟩:=hSq;go_simp<;>with_reducible rfl)
 simp only[kh,kb,kf,ke]
 refine takeQ 42 ?vv39 (some 70) [] ?yy39 hSd ?rr39
 case yy39=>(intro wq hSq;obtain ⟨_,_,_,_,_,_,_,_,_,_,_,_,_,_⟩:=hSq;go_simp<;>with_reducible rfl)
 simp only[kh,kb,kf,ke]
 refine takeQ 43 ?vv40 (some 71) [] ?yy40 hSd ?rr40
 case yy40=>(intro wq hSq;obtain ⟨_,_,_,_,_,_,_,_,_,_,_,_,_,_⟩:=hSq;go_simp<;>with_reducible rfl)
 simp only[kh,kb,kf,ke]
 refine takeQ 47 ?vv41 (some 75) [] ?yy41 hSd ?rr41
 case yy41=>(intro wq hSq;obtain ⟨_,_,_,_,_,_,_,_,_,_,_,_,_,_⟩:=hSq;go_simp<;>with_reducible rfl)
 simp only[kh,kb,kf,ke]
 refine takeQ 44 ?vv42 (some 72) [] ?yy42 hSd ?rr42
 case yy42=>(intro wq hSq;obtain ⟨_,_,_,_,_,_,_,_,_,_,_,_,_,_⟩:=hSq;go_simp<;>with_reducible rfl)
 simp only[kh,kb,kf,ke]
 refine takeQ 48 ?vv43 (some 76) [] ?yy43 hSd ?rr43
 case yy43=>(intro wq hSq;obtain ⟨_,_,_,_,_,_,_,_,_,_,_,_,_,_⟩:=hSq;go_simp<;>with_reducible rfl)
 simp only[kh,kb,kf,ke]
 refine takeQ 45 ?vv44 (some 73) [] ?yy44 hSd ?rr44
 case yy44=>(intro wq hSq;obtain ⟨_,_,_,_,_,_,_,_,_,_,_,_,_,_⟩:=hSq;go_simp<;>with_reducible rfl)
 simp only[kh,kb,kf,ke]
 refine takeQ 49 ?vv45 (some 77) [] ?yy45 hSd ?rr45
 case yy45=>(intro wq hSq;obtain ⟨_,_,_,_,_,_,_,_,_,_,_,_,_,_⟩:=hSq;go_simp<;>with_reducible rfl)
 simp only[kh,kb,kf,ke]
 refine takeQ 46 ?vv46 (some 74) [] ?yy46 hSd ?rr46
 case yy46=>(intro wq hSq;obtain ⟨_,_,_,_,_,_,_,_,_,_,_,_,_,_⟩:=hSq;go_simp<;>with_reducible rfl)
 simp only[kh,kb,kf,ke]
 refine takeQ 50 ?vv47 (some 78) [] ?yy47 hSd ?rr47
 case yy47=>(intro wq hSq;obtain ⟨_,_,_,_,_,_,_,_,_,_,_,_,_,_⟩:=hSq;go_simp<;>with_reducible rfl)
 simp only[kh,kb,kf,ke]
 refine takeQ 51 ?vv48 (some 79) [] ?yy48 hSd ?rr48
 case yy48=>(intro wq hSq;obtain ⟨_,_,_,_,_,_,_,_,_,_,_,_,_,_⟩:=hSq;go_simp<;>with_reducible rfl)
 simp only[kh,kb,kf,ke]
 refine takeQ 52 ?vv49 (some 80) [] ?yy49 hSd ?rr49
 case yy49=>(intro wq hSq;obtain ⟨_,_,_,_,_,_,_,_,_,_,_,_,_,_⟩:=hSq;go_simp<;>with_reducible rfl)
 simp only[kh,kb,kf,ke]
 refine z9gO (o:=_) (by kernel_rfl) rfl (fun K' hK=>?_)
 rw[if_pos (by rfl)]
 go_simp
 refine hK.out _ _ ?_
 clear hK
 refine jFdp (by kernel_rfl) ?_ _
 try simp only[kh]
 go_wp2
 go_ret
 exact ⟨rfl,HBW.out.trans (hBV3.mono HBW.out.size)⟩
end Go.Proofs.YtfjeonehdlphiaaGreatDoor
