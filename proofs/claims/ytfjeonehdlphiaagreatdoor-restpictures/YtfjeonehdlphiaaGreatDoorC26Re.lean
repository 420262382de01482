/- Re: part 26 of what the proofs need. -/
import Derived.Test.YtfjeonehdlphiaaGreatDoorC2Re
import Derived.Test.YtfjeonehdlphiaaGreatDoorC19Re
import Derived.Test.YtfjeonehdlphiaaGreatDoorC20Re
import Derived.Deep.Cut
open Go.Obj renaming cells → ka
open Array renaming getElem?_eq_some_iff → kb
open Nat renaming le_refl → kd
set_option linter.unusedVariables false
set_option maxHeartbeats 3200000
set_option maxRecDepth 100000
namespace Go.Proofs.YtfjeonehdlphiaaGreatDoor
open Go.RowKit
structure Plan where
 phase:Int
 black:Nat→Int
 white:Int
 spots:List Pt
 gains:Nat→Int
 matrix:Nat→Int
 curve:List Pt
 amount:Int
abbrev planA (n:Plan) (sv cv:Value):Array Value:=#[.int .i64 n.phase,.int .i64 (n.black 0),.int .i64 (n.black 1),.int .i64 (n.black 2),.int .i64 (n.black 3),.int .i64 n.white,sv,.int .i64 (n.gains 0),.int .i64 (n.gains 1),.int .i64 (n.gains 2),
 .int .i64 (n.matrix 0),.int .i64 (n.matrix 1),.int .i64 (n.matrix 2),.int .i64 (n.matrix 3),.int .i64 (n.matrix 4),.int .i64 (n.matrix 5),.int .i64 (n.matrix 6),.int .i64 (n.matrix 7),.int .i64 (n.matrix 8),cv,.int .i64 n.amount]
theorem qH9I {w:World} {b:Nat} {t:TypeId} {fr:Nat×Nat} {n:Plan} {sv cv:Value} (h:w.heap[b]?=some (.cells (planA n sv cv) t fr)) :
  w.cell? ⟨b,0,none⟩=some (.int .i64 n.phase)∧w.cell? ⟨b,1,none⟩=some (.int .i64 (n.black 0))∧w.cell? ⟨b,2,none⟩=some (.int .i64 (n.black 1))∧w.cell? ⟨b,3,none⟩=some (.int .i64 (n.black 2))∧w.cell? ⟨b,4,none⟩=some (.int .i64 (n.black 3))∧w.cell? ⟨b,5,none⟩=some (.int .i64 n.white)∧w.cell? ⟨b,6,none⟩=some sv ∧
  w.cell? ⟨b,7,none⟩=some (.int .i64 (n.gains 0))∧w.cell? ⟨b,8,none⟩=some (.int .i64 (n.gains 1))∧w.cell? ⟨b,9,none⟩=some (.int .i64 (n.gains 2))∧w.cell? ⟨b,10,none⟩=some (.int .i64 (n.matrix 0))∧w.cell? ⟨b,11,none⟩=some (.int .i64 (n.matrix 1))∧w.cell? ⟨b,12,none⟩=some (.int .i64 (n.matrix 2))∧w.cell? ⟨b,13,none⟩=some (.int .i64 (n.matrix 3)) ∧
  w.cell? ⟨b,14,none⟩=some (.int .i64 (n.matrix 4))∧w.cell? ⟨b,15,none⟩=some (.int .i64 (n.matrix 5))∧w.cell? ⟨b,16,none⟩=some (.int .i64 (n.matrix 6))∧w.cell? ⟨b,17,none⟩=some (.int .i64 (n.matrix 7))∧w.cell? ⟨b,18,none⟩=some (.int .i64 (n.matrix 8))∧w.cell? ⟨b,19,none⟩=some cv∧w.cell? ⟨b,20,none⟩=some (.int .i64 n.amount):=by
 refine ⟨?_,?_,?_,?_,?_,?_,?_,?_,?_,?_,?_,?_,?_,?_,?_,?_,?_,?_,?_,?_,?_⟩<;>(rw[Lib.cell_of_heap h];rfl)
structure X1uD (w:World) (n:Plan) (sv cv:Value):Prop where
 spots:IsPts w sv n.spots
 curve:IsPts w cv n.curve
theorem X1uD.below {w w':World} {n:Plan} {sv cv:Value} {B:Nat} (h:X1uD w n sv cv) (hb:Below B w w') (hB:w.heap.size≤B):X1uD w' n sv cv:=⟨h.spots.below hb hB,h.curve.below hb hB⟩
def zU8n (n:Plan):Bool:=qdne n.phase && zN6Q n.black n.white && j1E7 n.gains
def jmgp (n:Plan):Bool:=matOk n.matrix && XbQH n.amount
def q0Sl (n:Plan):Bool:=decide ((n.spots.length:Int)≤64) && XepW 64 64 n.spots
def planE (n:Plan):Int:=if (zU8n n && jmgp n && q0Sl n)=true then (if zamz n.curve=true then 0 else 1) else 3
theorem jkni (n:Plan) (sv cv:Value) (w:World) (hp:X1uD w n sv cv) :
  Calls Tryz.prog 93 #[.agg (planA n sv cv)] w fun e w'=>e=.returned (.int .i64 (planE n))∧Below w.heap.size w w':=by
 have HP:=hide hp
 obtain ⟨⟨lo,lc,rfl,hll,_⟩,⟨ko,kc,rfl,hkl,_⟩⟩:=hp
 have a1:=al1 w (ka (planA n (.slice lo n.spots.length lc) (.slice ko n.curve.length kc)) 51)
 have HB:=hide (qUNz w (ka (planA n (.slice lo n.spots.length lc) (.slice ko n.curve.length kc)) 51))
 obtain ⟨E,hE⟩:∃E,planE n=E:=⟨_,rfl⟩
 rw[hE]
 have HPH:=hide (fun u=>qtgz n.phase u)
 have HLV:=hide (fun u=>zO8p n.black n.white u)
 have HGA:=hide (fun u=>XByj n.gains u)
 have HMA:=hide (fun u=>XdM0 n.matrix u)
 have HAM:=hide (fun u=>Xfvu n.amount u)
 have HE:=hide (show E=if (zU8n n && jmgp n && q0Sl n)=true then (if zamz n.curve=true then 0 else 1) else 3 from hE.symm)
 have HSE:=hide (show zU8n n=(qdne n.phase && zN6Q n.black n.white && j1E7 n.gains) from rfl)
 have HTO:=hide (show jmgp n=(matOk n.matrix && XbQH n.amount) from rfl)
 have HSP:=hide (show q0Sl n=(decide ((n.spots.length:Int)≤64) && XepW 64 64 n.spots) from rfl)
 clear hE
 go_enter Tryz.func93,Tryz.ntmps93
 go_upto_region 1 with fail
 have hl1:=(kb.1 a1).1
 generalize w.alloc (ka (planA n (.slice lo n.spots.length lc) (.slice ko n.curve.length kc)) 51)=U at *
 have HCL:=hide (fun (v:World) (h:Below U.heap.size U v)=>qH9I ((h.block _ hl1).trans a1))
 go_cut [3] from 9 (fun s v=>s=.bool (zU8n n)∧Below U.heap.size U v)
 case first =>
  obtain ⟨c0,c1,c2,c3,c4,c5,c6,c7,c8,c9,c10,c11,c12,c13,c14,c15,c16,c17,c18,c19,c20⟩:=HCL.out U (Below.refl _ _)
  go_wp2_with fail
  refine (HPH.out _).mono ?_
  rintro e V1 ⟨rfl,hb1⟩
  clear c0 c1 c2 c3 c4 c5 c6 c7 c8 c9 c10 c11 c12 c13 c14 c15 c16 c17 c18 c19 c20
  cases hp1:qdne n.phase
  ·have HS0:=hide (show false=zU8n n by rw[HSE.out,hp1];rfl)
   go_wp2
   go_meet
   case rel=>exact ⟨by rw[HS0.out],hb1⟩
  ·obtain ⟨c0,c1,c2,c3,c4,c5,c6,c7,c8,c9,c10,c11,c12,c13,c14,c15,c16,c17,c18,c19,c20⟩:=HCL.out V1 hb1
   go_wp2_with fail
   refine (HLV.out _).mono ?_
   rintro e V2 ⟨rfl,hb2⟩
   replace hb2:=quJN hb1 hb2
   clear c0 c1 c2 c3 c4 c5 c6 c7 c8 c9 c10 c11 c12 c13 c14 c15 c16 c17 c18 c19 c20
   cases hp2:zN6Q n.black n.white
   ·have HS0:=hide (show false=zU8n n by rw[HSE.out,hp1,hp2];rfl)
    go_wp2
    go_meet
    case rel=>exact ⟨by rw[HS0.out],hb2⟩
   ·obtain ⟨c0,c1,c2,c3,c4,c5,c6,c7,c8,c9,c10,c11,c12,c13,c14,c15,c16,c17,c18,c19,c20⟩:=HCL.out V2 hb2
    go_wp2_with fail
    refine (HGA.out _).mono ?_
    rintro e V3 ⟨rfl,hb3⟩
    replace hb3:=quJN hb2 hb3
    have HS0:=hide (show j1E7 n.gains=zU8n n by rw[HSE.out,hp1,hp2];rfl)
    rw[HS0.out]
    go_wp2
    go_meet
    case rel=>exact ⟨rfl,hb3⟩
 case rest =>
  obtain ⟨rfl,hbc⟩:=hcut
  go_upto_region 2 with fail
  go_cut [4] from 9 (fun s v=>s=.bool (jmgp n)∧Below U.heap.size U v)
  case first =>
   obtain ⟨c0,c1,c2,c3,c4,c5,c6,c7,c8,c9,c10,c11,c12,c13,c14,c15,c16,c17,c18,c19,c20⟩:=HCL.out _ hbc
   go_wp2_with fail
   refine (HMA.out _).mono ?_
   rintro e V1 ⟨rfl,hb1⟩
   replace hb1:=quJN hbc hb1
   clear c0 c1 c2 c3 c4 c5 c6 c7 c8 c9 c10 c11 c12 c13 c14 c15 c16 c17 c18 c19 c20
   cases hp1:matOk n.matrix
   ·have HS0:=hide (show false=jmgp n by rw[HTO.out,hp1];rfl)
    go_wp2
    go_meet
    case rel=>exact ⟨by rw[HS0.out],hb1⟩
   ·obtain ⟨c0,c1,c2,c3,c4,c5,c6,c7,c8,c9,c10,c11,c12,c13,c14,c15,c16,c17,c18,c19,c20⟩:=HCL.out V1 hb1
    go_wp2_with fail
    refine (HAM.out _).mono ?_
    rintro e V2 ⟨rfl,hb2⟩
    replace hb2:=quJN hb1 hb2
    have HS0:=hide (show XbQH n.amount=jmgp n by rw[HTO.out,hp1];rfl)
    rw[HS0.out]
    go_wp2
    go_meet
    case rel=>exact ⟨rfl,hb2⟩
  case rest =>
   obtain ⟨rfl,hbd⟩:=hcut
   have g1:=al1 wc (ka #[.int .i64 64,.int .i64 64] 95)
   have hbg:=quJN hbd (qUNz wc (ka #[.int .i64 64,.int .i64 64] 95))
   go_upto_region 4 with fail
   have hlg:=(kb.1 g1).1
   generalize wc.alloc (ka #[.int .i64 64,.int .i64 64] 95)=G at *
   go_cut [6] from 9 (fun s v=>s=.bool (q0Sl n)∧Below U.heap.size U v)
   case first =>
    obtain ⟨c0,c1,c2,c3,c4,c5,c6,c7,c8,c9,c10,c11,c12,c13,c14,c15,c16,c17,c18,c19,c20⟩:=HCL.out _ hbg
    obtain ⟨q0,q1⟩:=bx2 g1
    by_cases hln:(n.spots.length:Int)≤64
    ·have hd:decide ((n.spots.length:Int)≤64)=true:=by simpa using hln
     go_wp2_with fail
     refine (qdq5 64 64 _ n.spots _ (HP.out.spots.below (HB.out.trans (hbg.mono HB.out.size)) (kd _))).mono ?_
     rintro e V2 ⟨rfl,hb2⟩
     replace hb2:=quJN hbg hb2
     have HS0:=hide (show XepW 64 64 n.spots=q0Sl n by rw[HSP.out,hd];rfl)
     rw[HS0.out]
     go_wp2
     go_meet
     case rel=>exact ⟨rfl,hb2⟩
    ·have hd:decide ((n.spots.length:Int)≤64)=false:=by simpa using hln
     have HS0:=hide (show false=q0Sl n by rw[HSP.out,hd];rfl)
     go_wp2
     go_meet
     case rel=>exact ⟨by rw[HS0.out],hbg⟩
   case rest =>
    obtain ⟨rfl,hbe⟩:=hcut
    have HBE:=hide (HB.out.trans (hbe.mono HB.out.size))
    cases hs1:zU8n n
    ·have he:E=3:=by rw[HE.out,hs1];rfl
     subst he
     go_wp2
     go_ret
     exact ⟨rfl,HBE.out⟩
    ·cases hs2:jmgp n
     ·have he:E=3:=by rw[HE.out,hs1,hs2];rfl
      subst he
      go_wp2
      go_ret
      exact ⟨rfl,HBE.out⟩
     ·cases hs3:q0Sl n
      ·have he:E=3:=by rw[HE.out,hs1,hs2,hs3];rfl
       subst he
       go_wp2
       go_ret
       exact ⟨rfl,HBE.out⟩
      ·have HE2:=hide (show E=qYU7 n.curve 0 by rw[HE.out,hs1,hs2,hs3];rfl)
       obtain ⟨c0,c1,c2,c3,c4,c5,c6,c7,c8,c9,c10,c11,c12,c13,c14,c15,c16,c17,c18,c19,c20⟩:=HCL.out _ hbe
       go_wp2_with fail
       refine (z26J _ n.curve 0 _ (HP.out.curve.below HBE.out (kd _))).mono ?_
       rintro e V2 ⟨rfl,hb2⟩
       rw[←HE2.out]
       go_wp2
       go_ret
       exact ⟨rfl,quJN HBE.out hb2⟩
theorem qwVl {n:Plan} (h:planE n=0):qdne n.phase=true∧zN6Q n.black n.white=true∧j1E7 n.gains=true∧matOk n.matrix=true∧XbQH n.amount=true∧(n.spots.length:Int)≤64∧XepW 64 64 n.spots=true∧zamz n.curve=true:=by
 unfold planE at h
 split at h
 ·rename_i h1
  split at h
  ·rename_i h2
   simp only[zU8n,jmgp,q0Sl,Bool.and_eq_true,decide_eq_true_eq] at h1
   exact ⟨h1.1.1.1.1,h1.1.1.1.2,h1.1.1.2,h1.1.2.1,h1.1.2.2,h1.2.1,h1.2.2,h2⟩
  ·cases h
 ·cases h
def fitsE (n:Plan) (W H:Int) (zs:List Int) (height:Int):Int:=if planE n=0 then (if q0fM W H zs=true then (if XepW W height n.spots=true then 0 else 3) else 1) else planE n
theorem jiqc (n:Plan) (sv cv:Value) (W H:Int) (v:Value) (zs:List Int) (height:Int) (w:World) (hp:X1uD w n sv cv) (hv:jCvT w v zs) :
  Calls Tryz.prog 55 #[.agg (planA n sv cv),.agg #[.int .i64 W,.int .i64 H,v],.int .i64 height] w fun e w'=>e=.returned (.int .i64 (fitsE n W H zs height))∧Below w.heap.size w w':=by
 have HP:=hide hp
 have HV:=hide hv
 obtain ⟨⟨lo,lc,rfl,hll,_⟩,⟨ko,kc,rfl,hkl,_⟩⟩:=hp
 obtain ⟨ao,ca,rfl,_,_⟩:=hv
 obtain ⟨a1,a2⟩:=al2 w (ka (planA n (.slice lo n.spots.length lc) (.slice ko n.curve.length kc)) 51) (ka #[.int .i64 W,.int .i64 H,.slice ao zs.length ca] 54)
 have HB:=hide (be2 w (ka (planA n (.slice lo n.spots.length lc) (.slice ko n.curve.length kc)) 51) (ka #[.int .i64 W,.int .i64 H,.slice ao zs.length ca] 54))
 have HF:=hide (show fitsE n W H zs height=if planE n=0 then (if q0fM W H zs=true then (if XepW W height n.spots=true then 0 else 3) else 1) else planE n from rfl)
 obtain ⟨E,hE⟩:∃E,fitsE n W H zs height=E:=⟨_,rfl⟩
 rw[hE] at HF ⊢
 clear hE
 have HCK:=hide (fun (u:World) (hu:Below w.heap.size w u)=>jkni n _ _ u (HP.out.below hu (kd _)))
 obtain ⟨F,hF⟩:∃F,planE n=F:=⟨_,rfl⟩
 rw[hF] at HF HCK
 clear hF
 go_enter Tryz.func55,Tryz.ntmps55
 go_wp2_with (refine wpList_load_row rfl 51 _ rfl _ rfl _ _ _ _ a1 Tryz.underlying51 rfl (by kernel_rfl) ?_)
 have hl1:=(kb.1 a1).1
 have hl2:=(kb.1 a2).1
 generalize (w.alloc (ka (planA n (.slice lo n.spots.length lc) (.slice ko n.curve.length kc)) 51)).alloc (ka #[.int .i64 W,.int .i64 H,.slice ao zs.length ca] 54)=U at *
 refine (HCK.out _ HB.out).mono ?_
 rintro e V1 ⟨rfl,hb1⟩
 have HB1:=hide (HB.out.trans (hb1.mono HB.out.size))
 by_cases hF:F=0
 ·subst hF
  rw[if_pos rfl] at HF
  obtain ⟨p0,p1,p2⟩:=z5EY ((hb1.block _ hl2).trans a2)
  go_wp2_with fail
  clear p0 p1 p2
  refine (XeC7 W H _ zs _ (HV.out.below HB1.out (kd _))).mono ?_
  rintro e V2 ⟨rfl,hb2⟩
  replace hb2:=quJN hb1 hb2
  have HB2:=hide (HB.out.trans (hb2.mono HB.out.size))
  by_cases hp:q0fM W H zs=true
  ·rw[if_pos hp] at HF
   rw[hp]
   obtain ⟨p0,p1,p2⟩:=z5EY ((hb2.block _ hl2).trans a2)
   have g1:=al1 V2 (ka #[.int .i64 W,.int .i64 height] 95)
   have hb3:=quJN hb2 (qUNz V2 (ka #[.int .i64 W,.int .i64 height] 95))
   obtain ⟨q0,q1⟩:=bx2 g1
   obtain ⟨_,_,_,_,_,_,s6,_⟩:=qH9I ((hb3.block _ hl1).trans a1)
   go_wp2_with fail
   clear p0 p1 p2 q0 q1 s6
   generalize V2.alloc (ka #[.int .i64 W,.int .i64 height] 95)=G at *
   have HB3:=hide (HB.out.trans (hb3.mono HB.out.size))
   refine (qdq5 W height _ n.spots _ (HP.out.spots.below HB3.out (kd _))).mono ?_
   rintro e V3 ⟨rfl,hb4⟩
   have HB4:=hide (quJN HB3.out hb4)
   cases hs:XepW W height n.spots
   ·have he:E=3:=by rw[HF.out,hs];rfl
    subst he
    go_wp2
    go_ret
    exact ⟨rfl,HB4.out⟩
   ·have he:E=0:=by rw[HF.out,hs];rfl
    subst he
    go_wp2
    go_ret
    exact ⟨rfl,HB4.out⟩
  ·rw[if_neg hp] at HF
   have hp:q0fM W H zs=false:=by simpa using hp
   rw[hp]
   have he:E=1:=HF.out
   subst he
   go_wp2
   go_ret
   exact ⟨rfl,HB2.out⟩
 ·rw[if_neg hF] at HF
  have hn:(F != 0)=true:=by simpa using hF
  have he:E=F:=HF.out
  subst he
  go_wp2
  go_ret
  exact ⟨rfl,HB1.out⟩
def needA (F:Nat):Nat:=F-4
def needB (T H:Nat):Nat:=min H (T+4)
theorem j23B (F T H:Nat) (hF:F≤64) (hT:T≤64) (hH:H≤64) (w:World) :
  Calls Tryz.prog 56 #[.int .i64 F,.int .i64 T,.int .i64 H] w fun e w'=>e=.returned (.tuple #[.int .i64 (needA F:Nat),.int .i64 (needB T H:Nat)])∧w=w':=by
 have h1:(if (0:Int)<(F:Int)-4 then (F:Int)-4 else 0)=((needA F:Nat):Int):=by unfold needA;split<;>omega
 have h2:(if (4:Int)<(F:Int) then (F:Int)-4 else 0)=((needA F:Nat):Int):=by unfold needA;split<;>omega
 have h3:(if (T:Int)+4<(H:Int) then (T:Int)+4 else (H:Int))=((needB T H:Nat):Int):=by unfold needB;split<;>omega
 generalize needA F=A at *
 generalize needB T H=B at *
 go_enter Tryz.func56,Tryz.ntmps56
 go_wp2
 go_ret2
 exact ⟨rfl,rfl⟩
end Go.Proofs.YtfjeonehdlphiaaGreatDoor
namespace Go.Proofs.YtfjeonehdlphiaaGreatDoor
def idM (k:Nat):Int:=if k=0∨k=4∨k=8 then 4096 else 0
def jkrq:Plan:=⟨0,fun _=>0,65535,[],fun _=>256,idM,[(0,0),(65535,65535)],64⟩
def zeroN:Plan:=⟨0,fun _=>0,0,[],fun _=>0,fun _=>0,[],0⟩
end Go.Proofs.YtfjeonehdlphiaaGreatDoor
