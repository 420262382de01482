/- Re: part 14 of what the proofs need. -/
import Derived.Test.YtfjeonehdlphiaaGreatDoorC3Re
import Derived.Test.YtfjeonehdlphiaaGreatDoorC10Re
import Derived.Deep.RegionHeld3
set_option linter.unusedVariables false
set_option maxHeartbeats 800000
set_option maxRecDepth 100000
namespace Go.Proofs.YtfjeonehdlphiaaGreatDoor
open Go.RowKit
theorem jjKe (s g:Int) (hs:0≤s∧s≤65535) (hg:-65536≤g∧g≤131070) (w:World) :
  Calls Tryz.prog 187 #[.int .i64 s,.int .i64 g] w fun e w'=>e=.returned (.int .i64 (dif s g))∧w=w':=by
 have HD:=hide (show ∀d:Int,-32768<d→d≤32768→(d-(s-g)) % 65536=0→d=dif s g from fun d a b c=>by unfold dif;split<;>omega)
 go_enter Tryz.func187,Tryz.ntmps187
 go_wp2
 go_loop [5] (fun v=>∃d:Int,v=.int .i64 d∧-131070≤d∧d≤131071∧(d-(s-g)) % 65536=0) (fun v=>(intOf v+200000).toNat)
 case atStart=>exact ⟨s-g,rfl,by omega,by omega,by omega⟩
 case round =>
  obtain ⟨d,rfl,q1,q2,q3⟩:=hrel
  by_cases h:32768<d
  ·go_wp2
   go_round
   case rel=>exact ⟨d-65536,rfl,by omega,by omega,by omega⟩
   case measure=>simp[intOf];omega
  ·go_wp2
   go_loop [5] (fun v=>∃d:Int,v=.int .i64 d∧-131070≤d∧d≤32768∧(d-(s-g)) % 65536=0) (fun v=>(200000-intOf v).toNat)
   case atStart=>exact ⟨d,rfl,by omega,by omega,by omega⟩
   case round =>
    obtain ⟨d,rfl,q1,q2,q3⟩:=hrel
    by_cases h:d≤-32768
    ·go_wp2
     go_round
     case rel=>exact ⟨d+65536,rfl,by omega,by omega,by omega⟩
     case measure=>simp[intOf];omega
    ·have HE:=hide (HD.out d (by omega) q2 q3)
     go_wp2
     go_ret
     exact ⟨jx9N HE.out,rfl⟩
theorem zsRe (d:Int) (h0:-32768<d) (h1:d≤32768) (w:World) :
  Calls Tryz.prog 138 #[.int .i64 d] w fun e w'=>e=.returned (.string (str (tailB d)))∧Below w.heap.size w w':=by
 have hcl:=qSCF h0 h1
 obtain ⟨C,hC⟩:∃C,C=cls d:=⟨_,rfl⟩
 have HCO:=hide (z5HW d h0 h1)
 rw[←hC] at hcl HCO
 by_cases hz:C=0
 ·have HE:=hide (show ⟨#[]⟩=str (tailB d) by rw[tailB,if_pos (.inl (hC ▸ hz))];rfl)
  clear hC
  subst hz
  go_enter Tryz.func138,Tryz.ntmps138
  go_wp2_with (go_at_call 137;refine (HCO.out _).mono ?_;rintro e w1 ⟨rfl,rfl⟩)
  go_ret
  exact ⟨congrArg (fun x=>Ending.returned (.string x)) HE.out,Below.refl _ _⟩
 by_cases ht:C=16
 ·have HE:=hide (show ⟨#[]⟩=str (tailB d) by rw[tailB,if_pos (.inr (hC ▸ ht))];rfl)
  clear hC
  subst ht
  go_enter Tryz.func138,Tryz.ntmps138
  go_wp2_with (go_at_call 137;refine (HCO.out _).mono ?_;rintro e w1 ⟨rfl,rfl⟩)
  go_ret
  exact ⟨congrArg (fun x=>Ending.returned (.string x)) HE.out,Below.refl _ _⟩
 have HE:=hide (show str (jJyG (tailN d) C)=str (tailB d) by rw[tailB,if_neg (by omega),←hC])
 obtain ⟨hlt,hN⟩:=jUqN d (by omega)
 rw[←hC] at hlt hN
 have HLT:=hide hlt
 have hw:=jSrY (n:=C) (by omega)
 have hp:=pow16 (n:=C) (by omega)
 have HLT6:=hide (show tailN d<65536 from Nat.lt_of_lt_of_le hlt hp)
 rw[q5J9] at hN
 have hb0:((C:Int) == 0)=false:=by simp;omega
 have hb16:((C:Int) == 16)=false:=by simp;omega
 have hd0:d≠0:=fun e=>by rw[e] at hC;exact hz hC
 clear hC hlt
 generalize tailN d=N at *
 by_cases hneg:d<0
 ·have hd:decide (0<d)=false:=by simp;omega
  rw[if_pos hneg] at hN
  obtain ⟨p,hpe⟩:∃p:Nat,2 ^ C=p:=⟨_,rfl⟩
  rw[hpe] at hN hp hw
  have HPE:=hide hpe
  clear hpe
  go_enter Tryz.func138,Tryz.ntmps138
  go_wp2_with (go_at_call 137;refine (HCO.out _).mono ?_;rintro e w1 ⟨rfl,rfl⟩)
  refine (qWfW _ _ N C (by rw[hN]) rfl (by omega) HLT6.out _).mono ?_
  rintro e w1 ⟨rfl,hb1⟩
  go_wp2
  go_ret
  exact ⟨congrArg (fun x=>Ending.returned (.string x)) HE.out,hb1⟩
 ·have hd:decide (0<d)=true:=by simp;omega
  rw[if_neg hneg] at hN
  clear hw hp
  go_enter Tryz.func138,Tryz.ntmps138
  go_wp2_with (go_at_call 137;refine (HCO.out _).mono ?_;rintro e w1 ⟨rfl,rfl⟩)
  refine (qWfW _ _ N C (by rw[hN]) rfl (by omega) HLT6.out _).mono ?_
  rintro e w1 ⟨rfl,hb1⟩
  go_wp2
  go_ret
  exact ⟨congrArg (fun x=>Ending.returned (.string x)) HE.out,hb1⟩
theorem XQcR (v:Value) (zs:List Int) (W X Y:Nat) (H kind:Int) (k:Nat) (w:World) (hv:jCvT w v zs) (hW1:1≤W) (hW:W≤64) (hk:k<zs.length) (hl:zs.length≤4096) (hz:qLlL zs=true) (hX:X=k % W) (hY:Y=k / W) :
  Calls Tryz.prog 188 #[.agg #[.int .i64 W,.int .i64 H,v],.int .i64 kind,.int .i64 X,.int .i64 Y] w fun e w'=>e=.returned (.int .i64 (gAt zs W kind k))∧Below w.heap.size w w':=by
 obtain ⟨p1,p2,p3,p4⟩:=jhhK W k hW1
 rw[←hX,←hY] at p1
 rw[←hY] at p2 p3
 rw[←hX] at p3 p4
 have HV:=hide hv
 obtain ⟨ao,ca,rfl,hla,_⟩:=hv
 have hYb:Y≤4096:=by rw[hY];exact Nat.le_trans (Nat.div_le_self k W) (by omega)
 have hs1:=qlb5 hz (k-1)
 have hs2:=qlb5 hz (k-W)
 have hs3:=qlb5 hz (k-W-1)
 clear hz
 by_cases hx:X=0
 ·by_cases hy:Y=0
  ·have HE:=hide (show 32768=gAt zs W kind k by rw[gAt,if_pos ⟨hX ▸ hx,hY ▸ hy⟩])
   subst hx hy
   clear hX hY hs1 hs2 hs3 p2 p3 p1
   go_enter Tryz.func188,Tryz.ntmps188
   go_wp2
   go_ret
   exact ⟨jx9N HE.out,qUNz _ _⟩
  ·have HE:=hide (show zs.getD (k-W) 0=gAt zs W kind k by rw[gAt,if_neg (fun h=>hy (hY.trans h.2)),if_neg (fun h=>hy (hY.trans h)),if_pos (hX ▸ hx)])
   have hkW:=p2 hy
   have hyb:((Y:Int) == 0)=false:=by simp;omega
   subst hx
   obtain ⟨y1,hy1⟩:∃y1,Y=y1+1:=⟨Y-1,by omega⟩
   have hyi:(Y:Int)-1=(y1:Int):=by omega
   have hyb1:y1≤4096:=by omega
   have HM:=hide (show y1*W+0=k-W by rw[hy1,Nat.succ_mul] at p1;omega)
   clear hX hY p3 p2 p1 hy hs1 hs3 hy1
   go_enter Tryz.func188,Tryz.ntmps188
   go_wp2_with fail
   refine (jMil _ _ _ zs _ _ 0 y1 W (k-W) _ (HV.out.alloc _) rfl rfl rfl HM.out (by omega) hl).mono ?_
   rintro e w1 ⟨rfl,hb1⟩
   go_wp2
   go_ret
   exact ⟨jx9N HE.out,quJN (qUNz _ _) hb1⟩
 ·have hxb:((X:Int) == 0)=false:=by simp;omega
  obtain ⟨x1,hx1⟩:∃x1,X=x1+1:=⟨X-1,by omega⟩
  have hxi:(X:Int)-1=(x1:Int):=by omega
  have hxb1:x1≤64:=by omega
  by_cases hy:Y=0
  ·have HE:=hide (show zs.getD (k-1) 0=gAt zs W kind k by rw[gAt,if_neg (fun h=>hx (hX.trans h.1)),if_pos (hY ▸ hy)])
   subst hy
   have HM:=hide (show 0*W+x1=k-1 by rw[Nat.zero_mul] at p1 ⊢;omega)
   clear hX hY p3 p2 hs2 hs3 p1 hx1 hx
   go_enter Tryz.func188,Tryz.ntmps188
   go_wp2_with fail
   refine (jMil _ _ _ zs _ _ x1 0 W (k-1) _ (HV.out.alloc _) rfl rfl rfl HM.out (by omega) hl).mono ?_
   rintro e w1 ⟨rfl,hb1⟩
   go_wp2
   go_ret
   exact ⟨jx9N HE.out,quJN (qUNz _ _) hb1⟩
  ·have HE:=hide (show jA7c kind (zs.getD (k-1) 0) (zs.getD (k-W) 0) (zs.getD (k-W-1) 0)=gAt zs W kind k by rw[gAt,if_neg (fun h=>hx (hX.trans h.1)),if_neg (fun h=>hy (hY.trans h)),if_neg (fun h=>hx (hX.trans h))])
   have hkW:=p2 hy
   have hyb:((Y:Int) == 0)=false:=by simp;omega
   obtain ⟨y1,hy1⟩:∃y1,Y=y1+1:=⟨Y-1,by omega⟩
   have hyi:(Y:Int)-1=(y1:Int):=by omega
   have hyb1:y1≤4096:=by omega
   rw[hy1,Nat.succ_mul] at p1
   have m1:Y*W+x1=k-1:=by rw[hy1,Nat.succ_mul];omega
   have m2:y1*W+X=k-W:=by omega
   have m3:y1*W+x1=k-W-1:=by omega
   have W0b:=qUNz w (Obj.cells #[.int .i64 W,.int .i64 H,.slice ao zs.length ca] 54)
   obtain ⟨e0,e1,e2⟩:=pl3 (Below.refl (w.alloc (Obj.cells #[.int .i64 W,.int .i64 H,.slice ao zs.length ca] 54)).heap.size _)
   have hlt0:w.heap.size<(w.alloc (Obj.cells #[.int .i64 W,.int .i64 H,.slice ao zs.length ca] 54)).heap.size:=by simp
   clear hX hY p3 p2 hy p1 hy1 hx1 hx
   go_enter Tryz.func188,Tryz.ntmps188
   go_wp2_with fail
   generalize w.alloc (Obj.cells #[.int .i64 W,.int .i64 H,.slice ao zs.length ca] 54)=W0 at *
   have HI0:=hide (HV.out.below W0b (Nat.le_refl _))
   obtain ⟨F,hF⟩:∃F:Nat→Nat→Int,∀y x,F y x=zs.getD (y*W+x) 0:=⟨_,fun _ _=>rfl⟩
   have A:∀w' (x y:Nat),y*W+x<zs.length→Below W0.heap.size W0 w'→Calls Tryz.prog 142 #[.agg #[.int .i64 W,.int .i64 H,.slice ao zs.length ca],.int .i64 x,.int .i64 y] w' fun e w''=>e=.returned (.int .i64 (F y x))∧Below W0.heap.size W0 w'':=fun w' x y hxy h =>
    (jMil _ _ _ zs _ _ x y W _ _ (HI0.out.below h (Nat.le_refl _)) rfl rfl rfl rfl hxy hl).mono fun e w'' h2=>⟨by rw[hF];exact h2.1,h.trans (h2.2.mono h.size)⟩
   have HA:=hide A
   have HWX:=hide (show IntKind.i64.wrap (x1:Int)=(x1:Int) from IntWalk.i64_in _ (by omega))
   have HWY:=hide (show IntKind.i64.wrap (y1:Int)=(y1:Int) from IntWalk.i64_in _ (by omega))
   have L1:=hide (show Y*W+x1<zs.length by omega)
   have L2:=hide (show y1*W+X<zs.length by omega)
   have L3:=hide (show y1*W+x1<zs.length by omega)
   have hZ1:F Y x1=zs.getD (k-1) 0:=by rw[hF,m1]
   have hZ2:F y1 X=zs.getD (k-W) 0:=by rw[hF,m2]
   have hZ3:F y1 x1=zs.getD (k-W-1) 0:=by rw[hF,m3]
   have HS:=hide (show ∀w',Below W0.heap.size W0 w'→w'.cell? ⟨w.heap.size,0,none⟩=some (.int .i64 W)∧w'.cell? ⟨w.heap.size,1,none⟩=some (.int .i64 H)∧w'.cell? ⟨w.heap.size,2,none⟩=some (.slice ao zs.length ca)∧Below W0.heap.size W0 w' from fun w' h =>
    ⟨(h.cell (p:=⟨w.heap.size,0,none⟩) hlt0).trans e0,(h.cell (p:=⟨w.heap.size,1,none⟩) hlt0).trans e1,(h.cell (p:=⟨w.heap.size,2,none⟩) hlt0).trans e2,h⟩)
   have hrefl:=Below.refl W0.heap.size W0
   have hdrew:Below W0.heap.size W0 W0.drew:=(Below.refl _ _).drew
   clear A m1 m2 m3 hkW hF
   generalize zs.getD (k-1) 0=Z1 at *
   generalize zs.getD (k-W) 0=Z2 at *
   generalize zs.getD (k-W-1) 0=Z3 at *
   go_region_held3 (fun w'=>w'.cell? ⟨w.heap.size,0,none⟩=some (.int .i64 W)∧w'.cell? ⟨w.heap.size,1,none⟩=some (.int .i64 H)∧w'.cell? ⟨w.heap.size,2,none⟩=some (.slice ao zs.length ca)∧Below W0.heap.size W0 w')
    (first|(refine HS.out _ ?_;assumption)|go_keep)
    (first|(go_at_call 142;(try rw[HWX.out]);(try rw[HWY.out]);refine (HA.out _ _ _ ?_ ?_).mono ?_;(first|exact L1.out|exact L2.out|exact L3.out);assumption;rintro e wx ⟨rfl,hN⟩))
   have HWB:=hide (W0b.trans (hN.mono W0b.size))
   by_cases h1:kind=1
   ·subst h1
    go_wp2
    go_ret
    exact ⟨jx9N (by rw[←HE.out];simp[jA7c]),HWB.out⟩
   by_cases h2:kind=2
   ·subst h2
    go_wp2
    go_ret
    exact ⟨jx9N (by rw[←HE.out];simp[jA7c]),HWB.out⟩
   by_cases h3:kind=3
   ·subst h3
    go_wp2
    go_ret
    exact ⟨jx9N (by rw[←HE.out];simp[jA7c]),HWB.out⟩
   by_cases h4:kind=4
   ·subst h4
    go_wp2
    go_ret
    exact ⟨jx9N (by rw[←HE.out];simp[jA7c]),HWB.out⟩
   by_cases h5:kind=5
   ·subst h5
    go_wp2_with (go_at_call 143;refine (zOIe _ (by omega) (by omega) _).mono ?_;rintro e wy ⟨rfl,rfl⟩)
    go_ret
    exact ⟨jx9N (by rw[←HE.out];simp[jA7c]),HWB.out⟩
   by_cases h6:kind=6
   ·subst h6
    go_wp2_with (go_at_call 143;refine (zOIe _ (by omega) (by omega) _).mono ?_;rintro e wy ⟨rfl,rfl⟩)
    go_ret
    exact ⟨jx9N (by rw[←HE.out];simp[jA7c]),HWB.out⟩
   have k1:(kind == 1)=false:=by simpa using h1
   have k2:(kind == 2)=false:=by simpa using h2
   have k3:(kind == 3)=false:=by simpa using h3
   have k4:(kind == 4)=false:=by simpa using h4
   have k5:(kind == 5)=false:=by simpa using h5
   have k6:(kind == 6)=false:=by simpa using h6
   have HE2:=hide (show (Z1+Z2) / 2=gAt zs W kind k by rw[←HE.out];simp[jA7c,h1,h2,h3,h4,h5,h6])
   clear h1 h2 h3 h4 h5 h6
   go_wp2_with (go_at_call 143;refine (zOIe _ (by omega) (by omega) _).mono ?_;rintro e wy ⟨rfl,rfl⟩)
   go_ret
   exact ⟨jx9N HE2.out,HWB.out⟩
end Go.Proofs.YtfjeonehdlphiaaGreatDoor
