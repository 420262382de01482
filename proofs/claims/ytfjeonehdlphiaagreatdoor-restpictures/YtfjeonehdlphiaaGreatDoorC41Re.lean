/- Re: part 41 of what the proofs need. -/
import Derived.Test.YtfjeonehdlphiaaGreatDoorC23Re
import Derived.Test.YtfjeonehdlphiaaGreatDoorC24Re
import Derived.Test.YtfjeonehdlphiaaGreatDoorC26Re
import Derived.Test.YtfjeonehdlphiaaGreatDoorC28Re
open List renaming setIfInBounds_toArray → ka, set_cons_zero → kb, set_cons_succ → kd
open Go.Act renaming put → ke
set_option linter.unusedVariables false
set_option maxHeartbeats 3200000
set_option maxRecDepth 100000
namespace Go.Proofs.YtfjeonehdlphiaaGreatDoor
open Go.RowKit
theorem ji17 (a b:Int) (m:Nat→Int) (n:Nat):allIn a b (arrL m n)=true↔∀k,k<n→a≤m k∧m k≤b:=by
 constructor
 ·intro h k hk;exact XL98 h k hk
 ·intro h
  refine List.all_eq_true.2 fun x hx=>?_
  obtain ⟨k,hk,rfl⟩:=List.mem_map.1 hx
  exact decide_eq_true (h k (List.mem_range.1 hk))
def qghq (n:Plan):Bool:=qdne n.phase && decide (1≤n.white∧n.white≤65535) && decide ((n.spots.length:Int)≤64) && XepW 64 64 n.spots && matOk n.matrix && XbQH n.amount
theorem qU13 (n:Plan):planE n=if qghq n=true∧allIn 0 (n.white-1) (arrL n.black 4)=true∧allIn 0 65535 (arrL n.gains 3)=true then (if zamz n.curve=true then 0 else 1) else 3:=by
 unfold planE qghq zU8n jmgp q0Sl zN6Q j1E7
 congr 1
 simp only[Bool.and_eq_true]
 apply propext
 constructor
 ·rintro ⟨⟨⟨⟨h1,h2,h3⟩,h4⟩,h5,h6⟩,h7,h8⟩
  exact ⟨⟨⟨⟨⟨⟨h1,h2⟩,h7⟩,h8⟩,h5⟩,h6⟩,h3,h4⟩
 ·rintro ⟨⟨⟨⟨⟨⟨h1,h2⟩,h7⟩,h8⟩,h5⟩,h6⟩,h3,h4⟩
  exact ⟨⟨⟨⟨h1,h2,h3⟩,h4⟩,h5,h6⟩,h7,h8⟩
theorem zkWW (n:Plan) (sv cv:Value) (w:World) (hp:X1uD w n sv cv) :
  Calls Tryz.prog 131 #[.agg (planA n sv cv)] w fun e w'=>e=.returned (.int .i64 (planE n))∧Below w.heap.size w w':=by
 have HP:=hide hp
 obtain ⟨⟨lo,lc,rfl,hll,_⟩,⟨ko,kc,rfl,hkl,_⟩⟩:=hp
 have a1:=al1 w (Obj.cells (planA n (.slice lo n.spots.length lc) (.slice ko n.curve.length kc)) 51)
 have HB:=hide (qUNz w (Obj.cells (planA n (.slice lo n.spots.length lc) (.slice ko n.curve.length kc)) 51))
 have HE:=hide (qU13 n)
 obtain ⟨E,hE⟩:∃E,planE n=E:=⟨_,rfl⟩
 rw[hE] at HE ⊢
 clear hE
 have HFO:=hide (show qghq n=(qdne n.phase && decide (1≤n.white∧n.white≤65535) && decide ((n.spots.length:Int)≤64) && XepW 64 64 n.spots && matOk n.matrix && XbQH n.amount) from rfl)
 have hph:decide (0≤n.phase∧n.phase≤3)=qdne n.phase:=rfl
 have ham:decide (0≤n.amount∧n.amount≤1024)=XbQH n.amount:=rfl
 have HPH:=hide hph
 have HAM:=hide ham
 clear hph ham
 go_enter Tryz.func131,Tryz.ntmps131
 go_upto_region 1 with fail
 have hl1:=(Array.getElem?_eq_some_iff.1 a1).1
 generalize w.alloc (Obj.cells (planA n (.slice lo n.spots.length lc) (.slice ko n.curve.length kc)) 51)=U at *
 have HCL:=hide (fun (v:World) (h:Below U.heap.size U v)=>qH9I ((h.block _ hl1).trans a1))
 go_cut [38] from 5 (fun s v=>s=.bool (!qghq n)∧Below U.heap.size U v)
 case first =>
  obtain ⟨c0,c1,c2,c3,c4,c5,c6,c7,c8,c9,c10,c11,c12,c13,c14,c15,c16,c17,c18,c19,c20⟩:=HCL.out U (Below.refl _ _)
  cases p1:qdne n.phase
  ·have HS0:=hide (show true=!qghq n by rw[HFO.out,p1];rfl)
   go_wp2_with (go_at_call 33;refine (qVbC _ _ _ _).mono ?_;rintro e wx ⟨rfl,rfl⟩;rw[HPH.out,p1])
   go_meet
   case rel=>exact ⟨by rw[HS0.out],Below.refl _ _⟩
  ·cases p2:decide (1≤n.white∧n.white≤65535)
   ·have HS0:=hide (show true=!qghq n by rw[HFO.out,p1,p2];rfl)
    go_wp2_with (go_at_call 33;refine (qVbC _ _ _ _).mono ?_;rintro e wx ⟨rfl,rfl⟩;first|rw[HPH.out,p1]|rw[p2])
    go_meet
    case rel=>exact ⟨by rw[HS0.out],Below.refl _ _⟩
   ·by_cases p3:(n.spots.length:Int)≤64
    ·have hd:decide (64<(n.spots.length:Int))=false:=by simp;omega
     have hd3:decide ((n.spots.length:Int)≤64)=true:=by simpa using p3
     cases p4:XepW 64 64 n.spots
     ·have HS0:=hide (show true=!qghq n by rw[HFO.out,p1,p2,hd3,p4];rfl)
      go_wp2_with (first|(go_at_call 33;refine (qVbC _ _ _ _).mono ?_;rintro e wx ⟨rfl,rfl⟩;first|rw[HPH.out,p1]|rw[p2])|(go_at_call 132;refine (jbdn _ n.spots 64 64 (by omega) (by omega) _ (HP.out.spots.below HB.out (Nat.le_refl _))).mono ?_;rintro e wx ⟨rfl,rfl⟩;rw[p4]))
      go_meet
      case rel=>exact ⟨by rw[HS0.out],Below.refl _ _⟩
     ·go_wp2_with (first|(go_at_call 33;refine (qVbC _ _ _ _).mono ?_;rintro e wx ⟨rfl,rfl⟩;first|rw[HPH.out,p1]|rw[p2])|(go_at_call 132;refine (jbdn _ n.spots 64 64 (by omega) (by omega) _ (HP.out.spots.below HB.out (Nat.le_refl _))).mono ?_;rintro e wx ⟨rfl,rfl⟩;rw[p4]))
      refine (jVlW n.matrix _).mono ?_
      rintro e V1 ⟨rfl,hb1⟩
      clear c0 c1 c2 c3 c4 c5 c6 c7 c8 c9 c10 c11 c12 c13 c14 c15 c16 c17 c18 c19 c20
      cases p5:matOk n.matrix
      ·have HS0:=hide (show true=!qghq n by rw[HFO.out,p1,p2,hd3,p4,p5];rfl)
       go_wp2
       go_meet
       case rel=>exact ⟨by rw[HS0.out],hb1⟩
      ·obtain ⟨c0,c1,c2,c3,c4,c5,c6,c7,c8,c9,c10,c11,c12,c13,c14,c15,c16,c17,c18,c19,c20⟩:=HCL.out V1 hb1
       have HS0:=hide (show (!XbQH n.amount)=!qghq n by rw[HFO.out,p1,p2,hd3,p4,p5];rfl)
       go_wp2_with (go_at_call 33;refine (qVbC _ _ _ _).mono ?_;rintro e wx ⟨rfl,rfl⟩;rw[HAM.out])
       go_meet
       case rel=>exact ⟨by rw[HS0.out],hb1⟩
    ·have hd:decide (64<(n.spots.length:Int))=true:=by simp;omega
     have hd3:decide ((n.spots.length:Int)≤64)=false:=by simpa using p3
     have HS0:=hide (show true=!qghq n by rw[HFO.out,p1,p2,hd3];rfl)
     go_wp2_with (go_at_call 33;refine (qVbC _ _ _ _).mono ?_;rintro e wx ⟨rfl,rfl⟩;first|rw[HPH.out,p1]|rw[p2])
     go_meet
     case rel=>exact ⟨by rw[HS0.out],Below.refl _ _⟩
 case rest =>
  obtain ⟨rfl,hbc⟩:=hcut
  have HBC:=hide (HB.out.trans (hbc.mono HB.out.size))
  cases pf:qghq n
  ·have he:E=3:=by rw[HE.out,if_neg (fun h=>by rw[pf] at h;cases h.1)]
   subst he
   go_wp2
   go_ret
   exact ⟨rfl,HBC.out⟩
  ·have hwh:1≤n.white∧n.white≤65535:=by
    rw[HFO.out] at pf
    simp only[Bool.and_eq_true,decide_eq_true_eq] at pf
    exact pf.1.1.1.1.2
   obtain ⟨hw1,hw2⟩:=hwh
   have HE2:=hide (show E=if allIn 0 (n.white-1) (arrL n.black 4)=true∧allIn 0 65535 (arrL n.gains 3)=true then (if zamz n.curve=true then 0 else 1) else 3 by rw[HE.out,pf];simp only[true_and])
   clear pf HE HFO
   go_wp2_with fail
   go_loopw [3] (fun i wr=>∃k:Nat,k≤4∧i=.int .i64 k∧Below U.heap.size U wr∧Hid (∀j,j<k→0≤n.black j∧n.black j≤n.white-1)) (fun i _=>4-(intOf i).toNat)
   case atStart=>exact ⟨0,by omega,rfl,hbc,hide (fun j hj=>by omega)⟩
   case round =>
    clear hbc HBC
    obtain ⟨k,hk,rfl,hbr,HA⟩:=hrel
    by_cases hlt:k<4
    ·have hd:decide ((k:Int)<4)=true:=by simp;omega
     have HCK:=hide (show ∀v,Below U.heap.size U v→v.cell? ⟨w.heap.size,1+k,none⟩=some (.int .i64 (n.black k)) from fun v h=>by
      rw[Lib.cell_of_heap ((h.block _ hl1).trans a1)]
      rcases (show k=0∨k=1∨k=2∨k=3 by omega) with rfl|rfl|rfl|rfl<;>rfl)
     obtain ⟨bl,hbl⟩:∃bl,n.black k=bl:=⟨_,rfl⟩
     have HBL:=hide hbl
     rw[hbl] at HCK
     clear hbl
     have hkI:(k:Int)<4:=by omega
     have hww:IntKind.i64.wrap (n.white-1)=n.white-1:=IntWalk.i64_in _ (by omega)
     have HS:=hide (show ∀v,Below U.heap.size U v→v.cell? ⟨w.heap.size,1+k,none⟩=some (.int .i64 bl)∧v.cell? ⟨w.heap.size,5,none⟩=some (.int .i64 n.white) from fun v h=>⟨HCK.out v h,(HCL.out v h).2.2.2.2.2.1⟩)
     have hWd:Below U.heap.size U wr.drew:=hbr.drew
     have hSd:=HS.out _ hWd
     obtain ⟨B,hB⟩:∃B,decide (0≤bl∧bl≤n.white-1)=B:=⟨_,rfl⟩
     have HBB:=hide hB
     clear hB
     go_wp2_with fail
     have hmx:Tryz.prog.follows .mixedOrders=true:=by kernel_rfl
     refine qYgd (S:=fun v:World=>v.cell? ⟨w.heap.size,1+k,none⟩=some (.int .i64 bl)∧v.cell? ⟨w.heap.size,5,none⟩=some (.int .i64 n.white)) (f:=8) hmx ?_
     show jZdv _ _ _ _ _ _ 9 _ _ wr.drew
     refine zB2j (i:=0) (oi:=_) (v:=?vv1) (some 43) rfl rfl (by kernel_rfl) (by kernel_rfl) (by kernel_rfl) (by kernel_rfl) (by kernel_rfl) (fun _ _ _ h=>h) (Or.inl ⟨by rfl,?yy1⟩) hSd ?rr1
     case yy1=>(intro wq hSq;obtain ⟨_,_⟩:=hSq;go_simp<;>with_reducible rfl)
     simp only[ke,ka,kd,kb]
     refine zB2j (i:=1) (oi:=_) (v:=?vv2) (some 44) rfl rfl (by kernel_rfl) (by kernel_rfl) (by kernel_rfl) (by kernel_rfl) (by kernel_rfl) (fun _ _ _ h=>h) (Or.inl ⟨by rfl,?yy2⟩) hSd ?rr2
     case yy2=>(intro wq hSq;obtain ⟨_,_⟩:=hSq;go_simp<;>with_reducible rfl)
     simp only[ke,ka,kd,kb]
     refine zB2j (i:=4) (oi:=_) (v:=?vv3) (some 47) rfl rfl (by kernel_rfl) (by kernel_rfl) (by kernel_rfl) (by kernel_rfl) (by kernel_rfl) (fun _ _ _ h=>h) (Or.inl ⟨by rfl,?yy3⟩) hSd ?rr3
     case yy3=>(intro wq hSq;obtain ⟨_,_⟩:=hSq;go_simp<;>with_reducible rfl)
     simp only[ke,ka,kd,kb]
     refine zB2j (i:=2) (oi:=_) (v:=?vv4) (some 45) rfl rfl (by kernel_rfl) (by kernel_rfl) (by kernel_rfl) (by kernel_rfl) (by kernel_rfl) (fun _ _ _ h=>h) (Or.inl ⟨by rfl,?yy4⟩) hSd ?rr4
     case yy4=>(intro wq hSq;obtain ⟨_,_⟩:=hSq;go_simp<;>with_reducible rfl)
     simp only[ke,ka,kd,kb]
     refine zB2j (i:=5) (oi:=_) (v:=?vv5) (some 48) rfl rfl (by kernel_rfl) (by kernel_rfl) (by kernel_rfl) (by kernel_rfl) (by kernel_rfl) (fun _ _ _ h=>h) (Or.inl ⟨by rfl,?yy5⟩) hSd ?rr5
     case yy5=>(intro wq hSq;obtain ⟨_,_⟩:=hSq;go_simp<;>with_reducible rfl)
     simp only[ke,ka,kd,kb]
     refine zB2j (i:=3) (oi:=_) (v:=?vv6) (some 46) rfl rfl (by kernel_rfl) (by kernel_rfl) (by kernel_rfl) (by kernel_rfl) (by kernel_rfl) (fun _ _ _ h=>h) (Or.inl ⟨by rfl,?yy6⟩) hSd ?rr6
     case yy6=>(intro wq hSq;obtain ⟨_,_⟩:=hSq;go_simp<;>with_reducible rfl)
     simp only[ke,ka,kd,kb]
     refine zB2j (i:=6) (oi:=_) (v:=?vv7) (some 49) rfl rfl (by kernel_rfl) (by kernel_rfl) (by kernel_rfl) (by kernel_rfl) (by kernel_rfl) (fun _ _ _ h=>h) (Or.inl ⟨by rfl,?yy7⟩) hSd ?rr7
     case yy7=>(intro wq hSq;obtain ⟨_,_⟩:=hSq;go_simp<;>with_reducible rfl)
     simp only[ke,ka,kd,kb]
     refine znWj (i:=7) (o:=_) (by kernel_rfl) rfl (fun K' hK=>?_)
     rw[if_pos (by rfl)]
     go_simp
     refine (qVbC _ _ _ _).mono ?_
     rintro e Vx ⟨rfl,rfl⟩
     rw[HBB.out]
     have hSd:=hSd
     refine hK.out _ _ hSd ?_
     clear hK
     try simp only[ke]
     refine z9gO (o:=_) (by kernel_rfl) rfl (fun K' hK=>?_)
     rw[if_pos (by rfl)]
     go_simp
     refine hK.out _ _ ?_
     clear hK
     refine jFdp (by kernel_rfl) ?_ _
     try simp only[ke]
     cases B
     ·have he:E=3:=by
       rw[HE2.out,if_neg]
       intro h
       have h2:=(ji17 _ _ _ _).1 h.1 k hlt
       rw[HBL.out] at h2
       exact of_decide_eq_false HBB.out h2
      subst he
      go_wp2
      go_ret
      exact ⟨rfl,HB.out.trans (hWd.mono HB.out.size)⟩
     ·have HN:=hide (show ∀j,j<k+1→0≤n.black j∧n.black j≤n.white-1 from fun j hj=>by
       rcases Nat.lt_succ_iff_lt_or_eq.1 hj with h|rfl
       ·exact HA.out j h
       ·rw[HBL.out];exact of_decide_eq_true HBB.out)
      go_wp2
      go_roundw
      case rel=>(repeat apply Exists.intro);exact ⟨⟨k+1,by omega,by go_num,hWd,HN⟩,rfl⟩
      case measure=>simp[intOf];omega
    ·have hd:decide ((k:Int)<4)=false:=by simp;omega
     obtain rfl:k=4:=by omega
     have HE3:=hide (show E=if allIn 0 65535 (arrL n.gains 3)=true then (if zamz n.curve=true then 0 else 1) else 3 by rw[HE2.out,(ji17 _ _ _ _).2 HA.out];simp only[true_and])
     clear HA HE2
     go_wp2_with fail
     go_loopw [4] (fun i wv=>∃k:Nat,k≤3∧i=.int .i64 k∧Below U.heap.size U wv∧Hid (∀j,j<k→0≤n.gains j∧n.gains j≤65535)) (fun i _=>3-(intOf i).toNat)
     case atStart=>exact ⟨0,by omega,rfl,hbr,hide (fun j hj=>by omega)⟩
     case round =>
      clear hbr hd
      obtain ⟨k,hk,rfl,hbr,HA⟩:=hrel
      by_cases hlt:k<3
      ·have hd:decide ((k:Int)<3)=true:=by simp;omega
       have hck:wr.cell? ⟨w.heap.size,7+k,none⟩=some (.int .i64 (n.gains k)):=by
        rw[Lib.cell_of_heap ((hbr.block _ hl1).trans a1)]
        rcases (show k=0∨k=1∨k=2 by omega) with rfl|rfl|rfl<;>rfl
       obtain ⟨bl,hbl⟩:∃bl,n.gains k=bl:=⟨_,rfl⟩
       have HBL:=hide hbl
       rw[hbl] at hck
       clear hbl
       have hkI:(k:Int)<3:=by omega
       cases hB:decide (0≤bl∧bl≤65535)
       ·have he:E=3:=by
         rw[HE3.out,if_neg]
         intro h
         have h2:=(ji17 _ _ _ _).1 h k hlt
         rw[HBL.out] at h2
         exact of_decide_eq_false hB h2
        subst he
        have HBF:=hide (HB.out.trans (hbr.mono HB.out.size))
        go_wp2_with (go_at_call 33;refine (qVbC _ _ _ _).mono ?_;rintro e wx ⟨rfl,rfl⟩;rw[hB])
        go_ret
        exact ⟨rfl,HBF.out⟩
       ·have HN:=hide (show ∀j,j<k+1→0≤n.gains j∧n.gains j≤65535 from fun j hj=>by
         rcases Nat.lt_succ_iff_lt_or_eq.1 hj with h|rfl
         ·exact HA.out j h
         ·rw[HBL.out];exact of_decide_eq_true hB)
        go_wp2_with (go_at_call 33;refine (qVbC _ _ _ _).mono ?_;rintro e wx ⟨rfl,rfl⟩;rw[hB])
        go_roundw
        case rel=>(repeat apply Exists.intro);exact ⟨⟨k+1,by omega,by go_num,hbr,HN⟩,rfl⟩
        case measure=>simp[intOf];omega
      ·have hd:decide ((k:Int)<3)=false:=by simp;omega
       obtain rfl:k=3:=by omega
       have HE4:=hide (show E=if zamz n.curve=true then 0 else 1 by rw[HE3.out,(ji17 _ _ _ _).2 HA.out];simp)
       clear HA HE3
       have HBF:=hide (HB.out.trans (hbr.mono HB.out.size))
       obtain ⟨c0,c1,c2,c3,c4,c5,c6,c7,c8,c9,c10,c11,c12,c13,c14,c15,c16,c17,c18,c19,c20⟩:=HCL.out _ hbr
       go_wp2_with fail
       clear c0 c1 c2 c3 c4 c5 c6 c7 c8 c9 c10 c11 c12 c13 c14 c15 c16 c17 c18 c19 c20
       refine (jsL9 _ n.curve _ (HP.out.curve.below HBF.out (Nat.le_refl _))).mono ?_
       rintro e V2 ⟨rfl,hb2⟩
       cases hcv:zamz n.curve
       ·have he:E=1:=by rw[HE4.out,hcv];rfl
        subst he
        go_wp2
        go_ret
        exact ⟨rfl,quJN HBF.out hb2⟩
       ·have he:E=0:=by rw[HE4.out,hcv];rfl
        subst he
        go_wp2
        go_ret
        exact ⟨rfl,quJN HBF.out hb2⟩
end Go.Proofs.YtfjeonehdlphiaaGreatDoor
