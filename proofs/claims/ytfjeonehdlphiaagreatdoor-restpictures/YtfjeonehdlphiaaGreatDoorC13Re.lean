/- Re: part 13 of what the proofs need. -/
import Derived.Test.YtfjeonehdlphiaaGreatDoorC1Re
import Derived.Test.YtfjeonehdlphiaaGreatDoorC10Re
import Derived.Test.YtfjeonehdlphiaaGreatDoorC12Re
import Derived.Deep.RegionHeld3
open Nat renaming le_refl → ka, lt_of_lt_of_le → kb
open Int renaming toNat_natCast → kc
set_option linter.unusedVariables false
set_option maxHeartbeats 1600000
set_option maxRecDepth 100000
namespace Go.Proofs.YtfjeonehdlphiaaGreatDoor
open Go.RowKit
theorem je0i (xs:List Int) (n:Int):allB (wordS (j6d1 xs) n)=true:=by
 unfold wordS
 split
 ·by_cases h:n.toNat<(j6d1 xs).length
  ·rw[show (j6d1 xs).getD n.toNat []=(j6d1 xs)[n.toNat] by simp[List.getD,h]]
   rw[XL3e xs n.toNat (by rw[zFud] at h;exact h),word]
   split
   ·exact jKfQ _ _
   ·rfl
  ·rw[show (j6d1 xs).getD n.toNat []=[] by simp[List.getD,h]];rfl
 ·rfl
theorem X4sE (xs zs:List Int) (W:Nat) (kind:Int) (n:Nat):allB (dBits (j6d1 xs) zs W kind n)=true:=by
 induction n with
 | zero=>rfl
 | succ n ih=>rw[XRjF,XW0t,ih,wrD,XW0t,je0i,qzEB];rfl
theorem XKQm (l:List UInt8) (hb:allB l=true) (hl:l.length≤1000000000000) (w:World) :
  Calls Tryz.prog 174 #[.string (str l)] w fun e w'=>e=.returned (.tuple #[.string (str (bytesOf l)),.int .i64 0])∧Below w.heap.size w w' :=
 zgrb (str l) (by rw[qzX5];omega) hb w
theorem XJ6E (W H:Nat) (vp v:Value) (zs:List Int) (kind:Int) (xs:List Int) (w:World) (hvp:jCvT w vp zs) (hv:jCvT w v xs) (hp:q0fM W H zs=true) (hk:qkcw kind=true) (hE:qO3F xs=0) :
  Calls Tryz.prog 125 #[.agg #[.int .i64 W,.int .i64 H,vp],.int .i64 kind,v] w fun e w'=>e=.returned (.tuple #[.string (str (zivd W H zs kind xs)),.int .i64 (X2rK W H zs kind xs)])∧Below w.heap.size w w':=by
 obtain ⟨hl1,hl2,hok,_,_⟩:=zF8D hE
 obtain ⟨⟨b1,b2⟩,⟨b3,b4⟩,b5,b6⟩:=qwcI hp
 have h4096:zs.length≤4096:=by have:=zAFj ⟨b1,b2⟩ ⟨b3,b4⟩;omega
 have hz1:1≤zs.length:=by have:=zAFj ⟨b1,b2⟩ ⟨b3,b4⟩;omega
 have HV:=hide hv;clear hv
 have HVP:=hide hvp
 obtain ⟨po,pc,rfl,hpl,hpc⟩:=hvp
 obtain ⟨pb,poff,hpo,hpbl,hpcell⟩:∃b off,po=some ⟨b,off,none⟩∧b<w.heap.size∧∀j (h:j<zs.length),w.cell? ⟨b,off+j,none⟩=some (.int .i64 zs[j]):=by
  rcases hpc with h|h
  ·subst h;simp at hz1
  ·exact h
 subst hpo
 have HPC:=hide hpcell
 clear hpcell hpc
 have HE:=hide hE
 have HOK:=hide hok
 have HZ:=hide b6
 have HP:=hide hp
 have HK:=hide hk
 clear b5 b6 hok
 go_enter Tryz.func125,Tryz.ntmps125
 go_wp2_with fail
 refine (XeC7 _ _ _ zs _ (HVP.out.alloc _)).mono ?_
 rintro e w1 ⟨rfl,hb1⟩
 rw[hp]
 have HB1:=hide (quJN (qUNz w _) hb1)
 obtain ⟨c0,c1,c2⟩:=pl3 hb1
 have hlt0:w.heap.size<w1.heap.size:=by have:=hb1.size;simp at this;omega
 clear hb1
 go_wp2_with (go_at_call 175;refine (qJyw _ _).mono ?_;rintro e w2 ⟨rfl,rfl⟩;rw[hk])
 refine (jlcJ _ _ _ (HV.out.below HB1.out (ka _)) HE.out).mono ?_
 rintro e w2 ⟨r,rfl,hr,hb2⟩
 have HR:=hide hr;clear hr
 have HB2:=hide (quJN HB1.out hb2)
 have c0:=(hb2.cell (p:=⟨w.heap.size,0,none⟩) hlt0).trans c0
 have c1:=(hb2.cell (p:=⟨w.heap.size,1,none⟩) hlt0).trans c1
 have c2:=(hb2.cell (p:=⟨w.heap.size,2,none⟩) hlt0).trans c2
 have hlt2:w.heap.size<w2.heap.size:=kb hlt0 hb2.size
 clear hb2 HB1 hlt0
 go_wp2_with fail
 refine (z4Cm _ _ _ HR.out (by rw[zFud];exact hl1) (by rw[zFud];exact hl2) (Xlmz xs HOK.out)).mono ?_
 rintro e w3 ⟨cv,bm,n,rfl,hcv,hbm,hb3⟩
 have HCV:=hide hcv
 obtain ⟨co,cc,rfl,_,_⟩:=hcv
 have HB3:=hide (quJN HB2.out hb3)
 have c0:=(hb3.cell (p:=⟨w.heap.size,0,none⟩) hlt2).trans c0
 have c1:=(hb3.cell (p:=⟨w.heap.size,1,none⟩) hlt2).trans c1
 have c2:=(hb3.cell (p:=⟨w.heap.size,2,none⟩) hlt2).trans c2
 have hlt3:w.heap.size<w3.heap.size:=kb hlt2 hb3.size
 clear hbm hb3 HB2 hlt2
 obtain ⟨V,hV⟩:∃V,V=w3.alloc (.cells #[.slice co (j6d1 xs).length cc,.map (some bm)] 219):=⟨_,rfl⟩
 have hVs:V.heap.size=w3.heap.size+1:=by rw[hV];simp
 have hVk:V.heap[w3.heap.size]?=some (.cells #[.slice co (j6d1 xs).length cc,.map (some bm)] 219 (0,0)):=by rw[hV];exact heap_alloc_new w3 _
 have hVb:Below w3.heap.size w3 V:=by rw[hV];exact qUNz _ _
 have HVB:=hide (quJN HB3.out hVb)
 have HVT:=hide (HCV.out.below hVb (ka _))
 have HVP2:=hide (HVP.out.below HVB.out (ka _))
 have HVC:=hide (show ∀j (h:j<zs.length),V.cell? ⟨pb,poff+j,none⟩=some (.int .i64 zs[j]) from fun j h=>(HVB.out.cell (p:=⟨pb,poff+j,none⟩) hpbl).trans (HPC.out j h))
 have HC0:=hide ((hVb.cell (p:=⟨w.heap.size,0,none⟩) hlt3).trans c0)
 have HC1:=hide ((hVb.cell (p:=⟨w.heap.size,1,none⟩) hlt3).trans c1)
 have HC2:=hide ((hVb.cell (p:=⟨w.heap.size,2,none⟩) hlt3).trans c2)
 have HV0:=hide (show V.cell? ⟨w3.heap.size,0,none⟩=some (.slice co (j6d1 xs).length cc) by rw[Lib.cell_of_heap hVk];rfl)
 have HV1:=hide (show V.cell? ⟨w3.heap.size,1,none⟩=some (.map (some bm)) by rw[Lib.cell_of_heap hVk];rfl)
 have HST:=hide (Lib.fresh_isBuilder 76 5 V)
 have hltV:w.heap.size<V.heap.size:=by omega
 have hltB:w3.heap.size<V.heap.size:=by omega
 go_wp2
 rw[←hV]
 have hbp:(⟨w3.heap.size+1,0,none⟩:Addr)=⟨V.heap.size,0,none⟩:=by rw[hVs]
 rw[hbp]
 clear hV hVk hVb hbp c0 c1 c2 hVs HPC HB3 HCV HR HVP HV hlt3
 generalize hts:j6d1 xs=ts at *
 have HTS:=hide hts;clear hts
 go_loopw [37] (fun i wr=>∃k:Nat,k≤zs.length∧i=.int .i64 k∧Hid (dAll ts zs W kind k=true)∧Lib.IsBuilder 76 5 V.heap.size V.heap.size (byt (dBits ts zs W kind k)) wr∧Below V.heap.size V wr)
  (fun i _=>zs.length-(intOf i).toNat)
 case atStart=>exact ⟨0,Nat.zero_le _,rfl,rfl,HST.out,qUNz _ _⟩
 case round =>
  obtain ⟨k,hk,rfl,HA,hbd,hb⟩:=hrel
  have hsz:=hb.size
  have hpl:(dBits ts zs W kind k).length≤122880:=by
   have h:=jcrL xs HOK.out zs W kind k
   rw[HTS.out] at h
   omega
  by_cases hlt:k<zs.length
  ·have HZK:=hide (zHpx HZ.out k hlt)
   have hz0:=HZK.out.1
   have hz1:=HZK.out.2
   have c1:=(hb.cell (p:=⟨pb,poff+k,none⟩) (by have:=HVB.out.size;show pb<_;omega)).trans (HVC.out k hlt)
   have HZG:=hide (show zs.getD k 0=zs[k] by simp[List.getD,hlt])
   generalize zs[k]=Z at *
   have hw1:¬(W=0):=by omega
   have hw2:¬((W:Int)=0):=by omega
   have hqb:k / W≤4096:=Nat.le_trans (Nat.div_le_self k W) (by omega)
   have HREM:=hide (show (k:Int) % (W:Int)=((k % W:Nat):Int) from rfl)
   have HQUO:=hide (show IntKind.i64.wrap ((k:Int) / (W:Int))=((k / W:Nat):Int) by rw[show (k:Int) / (W:Int)=((k / W:Nat):Int) from rfl];generalize k / W=q at hqb ⊢;exact IntWalk.i64_in _ (by omega))
   have HGU:=hide (show ∀w',Below wr.heap.size wr w'→Calls Tryz.prog 179 #[.agg #[.int .i64 W,.int .i64 H,.slice (some ⟨pb,poff,none⟩) zs.length pc],.int .i64 kind,.int .i64 ((k % W:Nat):Int),.int .i64 ((k / W:Nat):Int)] w' fun e w''=>e=.returned (.int .i64 (gAt zs W kind k))∧Below wr.heap.size wr w'' from fun w' h =>
    (XBmv _ zs W _ _ H kind k w' (((HVP2.out.below hb (ka _)).below h (ka _))) (by omega) (by omega) hlt h4096 HZ.out rfl rfl).mono fun e w'' h2=>⟨h2.1,h.trans (h2.2.mono h.size)⟩)
   have hgr:=zjsj zs W kind k HZ.out
   have hdr:=XdLc (zs.getD k 0) (gAt zs W kind k)
   have HDA:=hide (show dif Z (gAt zs W kind k)=dAt zs W kind k by rw[dAt,HZG.out])
   rw[HZG.out] at hdr
   generalize gAt zs W kind k=G at *
   have HDI:=hide (XkFC Z G ⟨hz0,hz1⟩ hgr)
   generalize dif Z G=D at *
   have e0:=(hb.cell (p:=⟨w.heap.size,0,none⟩) hltV).trans HC0.out
   have e1:=(hb.cell (p:=⟨w.heap.size,1,none⟩) hltV).trans HC1.out
   have e2:=(hb.cell (p:=⟨w.heap.size,2,none⟩) hltV).trans HC2.out
   have HS:=hide (show ∀w',Below wr.heap.size wr w'→w'.cell? ⟨w.heap.size,0,none⟩=some (.int .i64 W)∧w'.cell? ⟨w.heap.size,1,none⟩=some (.int .i64 H)∧w'.cell? ⟨w.heap.size,2,none⟩=some (.slice (some ⟨pb,poff,none⟩) zs.length pc)∧Below wr.heap.size wr w' from fun w' h =>
    ⟨(h.cell (p:=⟨w.heap.size,0,none⟩) (by show w.heap.size<_;omega)).trans e0,(h.cell (p:=⟨w.heap.size,1,none⟩) (by show w.heap.size<_;omega)).trans e1,(h.cell (p:=⟨w.heap.size,2,none⟩) (by show w.heap.size<_;omega)).trans e2,h⟩)
   go_wp2_with fail
   have hrefl:=Below.refl wr.heap.size wr
   have hdrew:Below wr.heap.size wr wr.drew:=(Below.refl _ _).drew
   go_region_held3 (fun w'=>w'.cell? ⟨w.heap.size,0,none⟩=some (.int .i64 W)∧w'.cell? ⟨w.heap.size,1,none⟩=some (.int .i64 H)∧w'.cell? ⟨w.heap.size,2,none⟩=some (.slice (some ⟨pb,poff,none⟩) zs.length pc)∧Below wr.heap.size wr w')
    (first|(refine HS.out _ ?_;assumption)|go_keep)
    (first|(go_at_call 179;(try rw[HREM.out]);(try rw[HQUO.out]);refine (HGU.out _ ?_).mono ?_;assumption;rintro e wx ⟨rfl,hN⟩)|(go_at_call 178;refine (HDI.out _).mono ?_;rintro e wy ⟨rfl,rfl⟩))
   have hbx:Below V.heap.size V wx:=hb.trans (hN.mono hsz)
   have hbdx:=z2IW hbd hN hsz
   have hszx:=hbx.size
   have hcl:=qSCF hdr.1 hdr.2
   have HCO:=hide (XHCf D hdr.1 hdr.2)
   have HTA:=hide (fun w=>zFT9 D hdr.1 hdr.2 (cls D) rfl w)
   have htl:(tailB D).length≤15:=jCcD hdr.1 hdr.2
   have hts:(str (tailB D)).size≤15:=by rw[qzX5];exact htl
   have HWR:=hide (show wrD ts D=wordS ts (cls D)++tailB D from rfl)
   clear hb hbd hsz hN HS HGU HDI e0 e1 e2 hrefl hdrew c1
   obtain ⟨C,hC⟩:∃C,cls D=C:=⟨_,rfl⟩
   rw[hC] at hcl HCO HTA HWR
   have HC:=hide hC
   clear hC
   generalize tailB D=TB at *
   have c2:=(hbx.cell (p:=⟨w3.heap.size,0,none⟩) hltB).trans HV0.out
   have c3:=(hbx.cell (p:=⟨w3.heap.size,1,none⟩) hltB).trans HV1.out
   have HIT:=hide (HVT.out.below hbx (ka _))
   have hwl:(wordS ts C).length≤15:=by
    have h:=j1tV xs HOK.out C
    rw[HTS.out] at h;exact h
   have hws:(str (wordS ts C)).size≤15:=by rw[qzX5];exact hwl
   by_cases he:wordS ts C=[]
   ·have hE4:wordE ts C=4:=if_pos he
    have HNE:=hide (show X2rK W H zs kind xs=4 by
     rw[X2rK,if_pos HP.out,if_pos HK.out,if_pos HE.out,HTS.out,kc,z4Mg ts zs W kind zs.length k hlt (by rw[←HDA.out,HC.out];exact he)];rfl)
    have HNS:=hide (show zivd W H zs kind xs=[] by rw[zivd,HNE.out,if_neg (by decide)])
    clear he
    go_wp2_with (first|(go_at_call 180;refine (HCO.out _).mono ?_;rintro e wy ⟨rfl,rfl⟩)|(go_at_call 181;refine (jKYw _ bm ts _ _ HIT.out).mono ?_;rintro e wz ⟨rfl,hbz⟩))
    go_ret2
    rw[HNE.out,HNS.out]
    exact ⟨rfl,quJN (quJN HVB.out hbx) hbz⟩
   ·have hE0:wordE ts C=0:=if_neg he
    have HO:=hide (show dAll ts zs W kind (k+1)=true by rw[qulm,HA.out,←HDA.out,HC.out];simpa using he)
    have HP2:=hide (show dBits ts zs W kind (k+1)=dBits ts zs W kind k++wordS ts C++TB by rw[XRjF,←HDA.out,HWR.out,List.append_assoc])
    clear he
    generalize dBits ts zs W kind k=DB at *
    go_wp2_with (first|(go_at_call 180;refine (HCO.out _).mono ?_;rintro e wy ⟨rfl,rfl⟩)|(go_at_call 181;refine (jKYw _ bm ts _ _ HIT.out).mono ?_;rintro e wz ⟨rfl,hbz⟩;have hbdz:=z2IW hbdx hbz hszx;have hszz:=hbz.size))
    refine (zeBQ V.heap.size V.heap.size _ _ _ hbdz (by omega) (by omega)).mono ?_
    rintro e w4 ⟨rfl,hbd4,hb4⟩
    have hsz4:=hb4.size
    go_wp2_with fail
    refine (HTA.out _).mono ?_
    rintro e w5 ⟨rfl,hb5⟩
    have hbd5:=z2IW hbd4 hb5 (by omega)
    have hsz5:=hb5.size
    go_wp2_with fail
    refine (zeBQ V.heap.size V.heap.size _ _ _ hbd5 (by rw[List.length_append,jrcE];omega) (by omega)).mono ?_
    rintro e w6 ⟨rfl,hbd6,hb6⟩
    go_wp2
    go_roundw
    case rel=>exact ⟨k+1,by omega,by go_num,HO,by rw[HP2.out];exact hbd6,(((hbx.trans (hbz.mono hszx)).trans hb4).trans (hb5.mono (by omega))).trans hb6⟩
    case measure=>simp[intOf];omega
  ·obtain rfl:k=zs.length:=by omega
   have HNE:=hide (show X2rK W H zs kind xs=0 by rw[X2rK,if_pos HP.out,if_pos HK.out,if_pos HE.out,HTS.out,kc,if_pos HA.out])
   have HNS:=hide (show zivd W H zs kind xs=bytesOf (dBits ts zs W kind zs.length) by rw[zivd,HNE.out,if_pos rfl,HTS.out,kc])
   have HAB:=hide (show allB (dBits ts zs W kind zs.length)=true by rw[←HTS.out];exact X4sE xs zs W kind zs.length)
   generalize dBits ts zs W kind zs.length=DB at *
   go_wp2_with (first|(go_at_call 32;refine (zCCW V.heap.size V.heap.size _ _ hbd hsz).mono ?_;rintro e w3 ⟨rfl,hb3⟩)|(go_at_call 174;refine (XKQm _ HAB.out (by omega) _).mono ?_;rintro e w4 ⟨rfl,hb4⟩))
   go_ret2
   rw[HNE.out,HNS.out]
   exact ⟨rfl,quJN (quJN HVB.out (hb.trans hb3)) hb4⟩
theorem zbmk (W H:Int) (vp v:Value) (zs:List Int) (kind:Int) (xs:List Int) (w:World) (hvp:jCvT w vp zs) (hv:jCvT w v xs) :
  Calls Tryz.prog 125 #[.agg #[.int .i64 W,.int .i64 H,vp],.int .i64 kind,v] w fun e w'=>e=.returned (.tuple #[.string (str (zivd W H zs kind xs)),.int .i64 (X2rK W H zs kind xs)])∧Below w.heap.size w w':=by
 by_cases hp:q0fM W H zs=true
 ·by_cases hk:qkcw kind=true
  ·by_cases hE:qO3F xs=0
   ·obtain ⟨⟨b1,_⟩,⟨b3,_⟩,_,_⟩:=qwcI hp
    obtain ⟨WN,rfl⟩:=Int.eq_ofNat_of_zero_le (show 0≤W by omega)
    obtain ⟨HN,rfl⟩:=Int.eq_ofNat_of_zero_le (show 0≤H by omega)
    exact XJ6E WN HN vp v zs kind xs w hvp hv hp hk hE
   ·have HNE:=hide (show X2rK W H zs kind xs=qO3F xs by rw[X2rK,if_pos hp,if_pos hk,if_neg hE])
    have HNS:=hide (show zivd W H zs kind xs=[] by rw[zivd,HNE.out,if_neg hE])
    have HV:=hide hv;clear hv
    have HVP:=hide hvp
    obtain ⟨po,pc,rfl,hpl,hpc⟩:=hvp
    have hne:(qO3F xs != 0)=true:=by simpa using hE
    clear hpc hE
    go_enter Tryz.func125,Tryz.ntmps125
    go_wp2_with fail
    refine (XeC7 _ _ _ zs _ (HVP.out.alloc _)).mono ?_
    rintro e w1 ⟨rfl,hb1⟩
    rw[hp]
    have HB1:=hide (quJN (qUNz w _) hb1)
    go_wp2_with (go_at_call 175;refine (qJyw _ _).mono ?_;rintro e w2 ⟨rfl,rfl⟩;rw[hk])
    refine (z3li _ _ _ (HV.out.below HB1.out (ka _))).mono ?_
    rintro e w2 ⟨r,rfl,hr,hb2⟩
    clear hr
    go_wp2
    go_ret2
    rw[HNE.out,HNS.out]
    exact ⟨rfl,quJN HB1.out hb2⟩
  ·have HNE:=hide (show X2rK W H zs kind xs=6 by rw[X2rK,if_pos hp,if_neg hk])
   have HNS:=hide (show zivd W H zs kind xs=[] by rw[zivd,HNE.out,if_neg (by decide)])
   have hk:qkcw kind=false:=by simpa using hk
   have HVP:=hide hvp
   obtain ⟨po,pc,rfl,hpl,hpc⟩:=hvp
   clear hpc hv
   go_enter Tryz.func125,Tryz.ntmps125
   go_wp2_with fail
   refine (XeC7 _ _ _ zs _ (HVP.out.alloc _)).mono ?_
   rintro e w1 ⟨rfl,hb1⟩
   rw[hp]
   have HB1:=hide (quJN (qUNz w _) hb1)
   go_wp2_with (go_at_call 175;refine (qJyw _ _).mono ?_;rintro e w2 ⟨rfl,rfl⟩;rw[hk])
   go_ret2
   rw[HNE.out,HNS.out]
   exact ⟨rfl,HB1.out⟩
 ·have HNE:=hide (show X2rK W H zs kind xs=1 by rw[X2rK,if_neg hp])
  have HNS:=hide (show zivd W H zs kind xs=[] by rw[zivd,HNE.out,if_neg (by decide)])
  have hp:q0fM W H zs=false:=by simpa using hp
  have HVP:=hide hvp
  obtain ⟨po,pc,rfl,hpl,hpc⟩:=hvp
  clear hpc hv
  go_enter Tryz.func125,Tryz.ntmps125
  go_wp2_with fail
  refine (XeC7 _ _ _ zs _ (HVP.out.alloc _)).mono ?_
  rintro e w1 ⟨rfl,hb1⟩
  rw[hp]
  have HB1:=hide (quJN (qUNz w _) hb1)
  go_wp2
  go_ret2
  rw[HNE.out,HNS.out]
  exact ⟨rfl,HB1.out⟩
def readD (s:List UInt8) (W H kind:Int) (xs:List Int):Option (List Int) :=
  if s.length≤(W.toNat*H.toNat*30+7) / 8 then
    (match rdD (bookOf xs) (rowOf s) W.toNat kind (W.toNat*H.toNat) with
     | some (pos,zs)=>if fillOk ((rowOf s).drop pos)=true then some zs else none
     | none=>none)
  else none
def qaPw (s:List UInt8) (W H kind:Int) (xs:List Int):Int :=
 if jbTy W=true∧jbTy H=true then (if qkcw kind=true then (if qO3F xs=0 then (if (readD s W H kind xs).isSome=true then 0 else 1) else qO3F xs) else 6) else 3
def jNAw (s:List UInt8) (W H kind:Int) (xs:List Int):List Int:=if qaPw s W H kind xs=0 then (readD s W H kind xs).getD [] else []
end Go.Proofs.YtfjeonehdlphiaaGreatDoor
