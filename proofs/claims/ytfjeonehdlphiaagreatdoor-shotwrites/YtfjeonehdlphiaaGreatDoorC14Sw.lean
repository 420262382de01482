/- Sw: part 14 of what the proofs need. -/
import Derived.Test.YtfjeonehdlphiaaGreatDoorC1Sw
import Derived.Test.YtfjeonehdlphiaaGreatDoorC11Sw
import Derived.Test.YtfjeonehdlphiaaGreatDoorC12Sw
import Derived.Test.YtfjeonehdlphiaaGreatDoorC13Sw
import Derived.Deep.RegionHeld3
set_option linter.unusedVariables false
set_option maxHeartbeats 1600000
set_option maxRecDepth 100000
namespace Go.Proofs.YtfjeonehdlphiaaGreatDoor
open Go.RowKit
theorem je0i (xs:List Int) (n:Int):allB (wordS (j6d1 xs) n)=true:=by
 unfold wordS
 split
 ·by_cases h:n.toNat<(j6d1 xs).length
  ·rw[show (j6d1 xs).getD n.toNat []=(j6d1 xs)[n.toNat] by simp[List.getD,h]]
   rw[XL3e xs n.toNat (by rw[zFud] at h;exact h),word]
   split
   ·exact jKfQ _ _
   ·rfl
  ·rw[show (j6d1 xs).getD n.toNat []=[] by simp[List.getD,h]];rfl
 ·rfl
theorem X4sE (xs zs:List Int) (W:Nat) (kind:Int) (n:Nat):allB (dBits (j6d1 xs) zs W kind n)=true:=by
 induction n with
 | zero=>rfl
 | succ n ih=>rw[XRjF,XW0t,ih,wrD,XW0t,je0i,qzEB];rfl
theorem XKQm (l:List UInt8) (hb:allB l=true) (hl:l.length≤1000000000000) (w:World) :
  Calls Tryz.prog 174 #[.string (str l)] w fun e w'=>e=.returned (.tuple #[.string (str (XIZK l)),.int .i64 0])∧Below w.heap.size w w' :=
 zgrb (str l) (by rw[qzX5];omega) hb w
theorem XJ6E (W H:Nat) (vp v:Value) (zs:List Int) (kind:Int) (xs:List Int) (w:World) (hvp:jCvT w vp zs) (hv:jCvT w v xs) (hp:q0fM W H zs=true) (hk:qkcw kind=true) (hE:qO3F xs=0) :
  Calls Tryz.prog 125 #[.agg #[.int .i64 W,.int .i64 H,vp],.int .i64 kind,v] w fun e w'=>e=.returned (.tuple #[.string (str (zivd W H zs kind xs)),.int .i64 (X2rK W H zs kind xs)])∧Below w.heap.size w w':=by
 obtain ⟨hl1,hl2,hok,_,_⟩:=zF8D hE
 obtain ⟨⟨b1,b2⟩,⟨b3,b4⟩,b5,b6⟩:=qwcI hp
 have h4096:zs.length≤4096:=by have:=zAFj ⟨b1,b2⟩ ⟨b3,b4⟩;omega
 have hz1:1≤zs.length:=by have:=zAFj ⟨b1,b2⟩ ⟨b3,b4⟩;omega
 have HV:=hide hv;clear hv
 have HVP:=hide hvp
 obtain ⟨po,pc,rfl,hpl,hpc⟩:=hvp
 obtain ⟨pb,poff,hpo,hpbl,hpcell⟩:∃b off,po=some ⟨b,off,none⟩∧b<w.heap.size∧∀j (h:j<zs.length),w.cell? ⟨b,off+j,none⟩=some (.int .i64 zs[j]):=by
  rcases hpc with h|h
  ·subst h;simp at hz1
  ·exact h
 subst hpo
 have HPC:=hide hpcell
 clear hpcell hpc
 have HE:=hide hE
 have HOK:=hide hok
 have HZ:=hide b6
 have HP:=hide hp
 have HK:=hide hk
 clear b5 b6 hok
 go_enter Tryz.func125,Tryz.ntmps125
 go_wp2_with fail
 refine (XeC7 _ _ _ zs _ (HVP.out.alloc _)).mono ?_
 rintro e w1 ⟨rfl,hb1⟩
 rw[hp]
 have HB1:=hide (quJN (qUNz w _) hb1)
 obtain ⟨c0,c1,c2⟩:=pl3 hb1
 have hlt0:w.heap.size<w1.heap.size:=by have:=hb1.size;simp at this;omega
 clear hb1
 go_wp2_with (go_at_call 175;refine (qJyw _ _).mono ?_;rintro e w2 ⟨rfl,rfl⟩;rw[hk])
 refine (jlcJ _ _ _ (HV.out.below HB1.out (Nat.le_refl _)) HE.out).mono ?_
 rintro e w2 ⟨r,rfl,hr,hb2⟩
 have HR:=hide hr;clear hr
 have HB2:=hide (quJN HB1.out hb2)
 have c0:=(hb2.cell (p:=⟨w.heap.size,0,none⟩) hlt0).trans c0
 have c1:=(hb2.cell (p:=⟨w.heap.size,1,none⟩) hlt0).trans c1
 have c2:=(hb2.cell (p:=⟨w.heap.size,2,none⟩) hlt0).trans c2
 have hlt2:w.heap.size<w2.heap.size:=Nat.lt_of_lt_of_le hlt0 hb2.size
 clear hb2 HB1 hlt0
 go_wp2_with fail
 refine (z4Cm _ _ _ HR.out (by rw[zFud];exact hl1) (by rw[zFud];exact hl2) (Xlmz xs HOK.out)).mono ?_
 rintro e w3 ⟨cv,bm,n,rfl,hcv,hbm,hb3⟩
 have HCV:=hide hcv
 obtain ⟨co,cc,rfl,_,_⟩:=hcv
 have HB3:=hide (quJN HB2.out hb3)
 have c0:=(hb3.cell (p:=⟨w.heap.size,0,none⟩) hlt2).trans c0
 have c1:=(hb3.cell (p:=⟨w.heap.size,1,none⟩) hlt2).trans c1
 have c2:=(hb3.cell (p:=⟨w.heap.size,2,none⟩) hlt2).trans c2
 have hlt3:w.heap.size<w3.heap.size:=Nat.lt_of_lt_of_le hlt2 hb3.size
 clear hbm hb3 HB2 hlt2
 obtain ⟨V,hV⟩:∃V,V=w3.alloc (.cells #[.slice co (j6d1 xs).length cc,.map (some bm)] 219):=⟨_,rfl⟩
 have hVs:V.heap.size=w3.heap.size+1:=by rw[hV];simp
 have hVk:V.heap[w3.heap.size]?=some (.cells #[.slice co (j6d1 xs).length cc,.map (some bm)] 219 (0,0)):=by rw[hV];exact heap_alloc_new w3 _
 have hVb:Below w3.heap.size w3 V:=by rw[hV];exact qUNz _ _
 have HVB:=hide (quJN HB3.out hVb)
 have HVT:=hide (HCV.out.below hVb (Nat.le_refl _))
 have HVP2:=hide (HVP.out.below HVB.out (Nat.le_refl _))
 have HVC:=hide (show ∀j (h:j<zs.length),V.cell? ⟨pb,poff+j,none⟩=some (.int .i64 zs[j]) from fun j h=>(HVB.out.cell (p:=⟨pb,poff+j,none⟩) hpbl).trans (HPC.out j h))
 have HC0:=hide ((hVb.cell (p:=⟨w.heap.size,0,none⟩) hlt3).trans c0)
 have HC1:=hide ((hVb.cell (p:=⟨w.heap.size,1,none⟩) hlt3).trans c1)
 have HC2:=hide ((hVb.cell (p:=⟨w.heap.size,2,none⟩) hlt3).trans c2)
 have HV0:=hide (show V.cell? ⟨w3.heap.size,0,none⟩=some (.slice co (j6d1 xs).length cc) by rw[Lib.cell_of_heap hVk];rfl)
 have HV1:=hide (show V.cell? ⟨w3.heap.size,1,none⟩=some (.map (some bm)) by rw[Lib.cell_of_heap hVk];rfl)
 have HST:=hide (Lib.fresh_isBuilder 76 5 V)
 have hltV:w.heap.size<V.heap.size:=by omega
 have hltB:w3.heap.size<V.heap.size:=by omega
 go_wp2
 rw[←hV]
 have hbp:(⟨w3.heap.size+1,0,none⟩:Addr)=⟨V.heap.size,0,none⟩:=by rw[hVs]
 rw[hbp]
 clear hV hVk hVb hbp c0 c1 c2 hVs HPC HB3 HCV HR HVP HV hlt3
 generalize hts:j6d1 xs=ts at *
 have HTS:=hide hts;clear hts
 go_loopw [37] (fun i wr=>∃k:Nat,k≤zs.length∧i=.int .i64 k∧Hid (dAll ts zs W kind k=true)∧Lib.IsBuilder 76 5 V.heap.size V.heap.size (byt (dBits ts zs W kind k)) wr∧Below V.heap.size V wr)
  (fun i _=>zs.length-(intOf i).toNat)
 case atStart=>exact ⟨0,Nat.zero_le _,rfl,rfl,HST.out,qUNz _ _⟩
 case round =>
  obtain ⟨k,hk,rfl,HA,hbd,hb⟩:=hrel
  have hsz:=hb.size
  have hpl:(dBits ts zs W kind k).length≤122880:=by
   have h:=jcrL xs HOK.out zs W kind k
   rw[HTS.out] at h
   omega
  by_cases hlt:k<zs.length
  ·have HZK:=hide (zHpx HZ.out k hlt)
   have hz0:=HZK.out.1
   have hz1:=HZK.out.2
   have c1:=(hb.cell (p:=⟨pb,poff+k,none⟩) (by have:=HVB.out.size;show pb<_;omega)).trans (HVC.out k hlt)
   have HZG:=hide (show zs.getD k 0=zs[k] by simp[List.getD,hlt])
   generalize zs[k]=Z at *
   have hw1:¬(W=0):=by omega
   have hw2:¬((W:Int)=0):=by omega
   have hqb:k / W≤4096:=Nat.le_trans (Nat.div_le_self k W) (by omega)
   have HREM:=hide (show (k:Int) % (W:Int)=((k % W:Nat):Int) from rfl)
   have HQUO:=hide (show IntKind.i64.wrap ((k:Int) / (W:Int))=((k / W:Nat):Int) by rw[show (k:Int) / (W:Int)=((k / W:Nat):Int) from rfl];generalize k / W=q at hqb ⊢;exact IntWalk.i64_in _ (by omega))
   have HGU:=hide (show ∀w',Below wr.heap.size wr w'→Calls Tryz.prog 179 #[.agg #[.int .i64 W,.int .i64 H,.slice (some ⟨pb,poff,none⟩) zs.length pc],.int .i64 kind,.int .i64 ((k % W:Nat):Int),.int .i64 ((k / W:Nat):Int)] w' fun e w''=>e=.returned (.int .i64 (gAt zs W kind k))∧Below wr.heap.size wr w'' from fun w' h =>
    (XBmv _ zs W _ _ H kind k w' (((HVP2.out.below hb (Nat.le_refl _)).below h (Nat.le_refl _))) (by omega) (by omega) hlt h4096 HZ.out rfl rfl).mono fun e w'' h2=>⟨h2.1,h.trans (h2.2.mono h.size)⟩)
   have hgr:=zjsj zs W kind k HZ.out
   have hdr:=XdLc (zs.getD k 0) (gAt zs W kind k)
   have HDA:=hide (show dif Z (gAt zs W kind k)=dAt zs W kind k by rw[dAt,HZG.out])
   rw[HZG.out] at hdr
   generalize gAt zs W kind k=G at *
   have HDI:=hide (XkFC Z G ⟨hz0,hz1⟩ hgr)
   generalize dif Z G=D at *
   have e0:=(hb.cell (p:=⟨w.heap.size,0,none⟩) hltV).trans HC0.out
   have e1:=(hb.cell (p:=⟨w.heap.size,1,none⟩) hltV).trans HC1.out
   have e2:=(hb.cell (p:=⟨w.heap.size,2,none⟩) hltV).trans HC2.out
   have HS:=hide (show ∀w',Below wr.heap.size wr w'→w'.cell? ⟨w.heap.size,0,none⟩=some (.int .i64 W)∧w'.cell? ⟨w.heap.size,1,none⟩=some (.int .i64 H)∧w'.cell? ⟨w.heap.size,2,none⟩=some (.slice (some ⟨pb,poff,none⟩) zs.length pc)∧Below wr.heap.size wr w' from fun w' h =>
    ⟨(h.cell (p:=⟨w.heap.size,0,none⟩) (by show w.heap.size<_;omega)).trans e0,(h.cell (p:=⟨w.heap.size,1,none⟩) (by show w.heap.size<_;omega)).trans e1,(h.cell (p:=⟨w.heap.size,2,none⟩) (by show w.heap.size<_;omega)).trans e2,h⟩)
   go_wp2_with fail
   have hrefl:=Below.refl wr.heap.size wr
   have hdrew:Below wr.heap.size wr wr.drew:=(Below.refl _ _).drew
   go_region_held3 (fun w'=>w'.cell? ⟨w.heap.size,0,none⟩=some (.int .i64 W)∧w'.cell? ⟨w.heap.size,1,none⟩=some (.int .i64 H)∧w'.cell? ⟨w.heap.size,2,none⟩=some (.slice (some ⟨pb,poff,none⟩) zs.length pc)∧Below wr.heap.size wr w')
    (first|(refine HS.out _ ?_;assumption)|go_keep)
    (first|(go_at_call 179;(try rw[HREM.out]);(try rw[HQUO.out]);refine (HGU.out _ ?_).mono ?_;assumption;rintro e wx ⟨rfl,hN⟩)|(go_at_call 178;refine (HDI.out _).mono ?_;rintro e wy ⟨rfl,rfl⟩))
   have hbx:Below V.heap.size V wx:=hb.trans (hN.mono hsz)
   have hbdx:=z2IW hbd hN hsz
   have hszx:=hbx.size
   have hcl:=qSCF hdr.1 hdr.2
   have HCO:=hide (XHCf D hdr.1 hdr.2)
   have HTA:=hide (fun w=>zFT9 D hdr.1 hdr.2 (cls D) rfl w)
   have htl:(tailB D).length≤15:=jCcD hdr.1 hdr.2
   have hts:(str (tailB D)).size≤15:=by rw[qzX5];exact htl
   have HWR:=hide (show wrD ts D=wordS ts (cls D)++tailB D from rfl)
   clear hb hbd hsz hN HS HGU HDI e0 e1 e2 hrefl hdrew c1
   obtain ⟨C,hC⟩:∃C,cls D=C:=⟨_,rfl⟩
   rw[hC] at hcl HCO HTA HWR
   have HC:=hide hC
   clear hC
   generalize tailB D=TB at *
   have c2:=(hbx.cell (p:=⟨w3.heap.size,0,none⟩) hltB).trans HV0.out
   have c3:=(hbx.cell (p:=⟨w3.heap.size,1,none⟩) hltB).trans HV1.out
   have HIT:=hide (HVT.out.below hbx (Nat.le_refl _))
   have hwl:(wordS ts C).length≤15:=by
    have h:=j1tV xs HOK.out C
    rw[HTS.out] at h;exact h
   have hws:(str (wordS ts C)).size≤15:=by rw[qzX5];exact hwl
   by_cases he:wordS ts C=[]
   ·have hE4:wordE ts C=4:=if_pos he
    have HNE:=hide (show X2rK W H zs kind xs=4 by
     rw[X2rK,if_pos HP.out,if_pos HK.out,if_pos HE.out,HTS.out,Int.toNat_natCast,z4Mg ts zs W kind zs.length k hlt (by rw[←HDA.out,HC.out];exact he)];rfl)
    have HNS:=hide (show zivd W H zs kind xs=[] by rw[zivd,HNE.out,if_neg (by decide)])
    clear he
    go_wp2_with (first|(go_at_call 180;refine (HCO.out _).mono ?_;rintro e wy ⟨rfl,rfl⟩)|(go_at_call 181;refine (jKYw _ bm ts _ _ HIT.out).mono ?_;rintro e wz ⟨rfl,hbz⟩))
    go_ret2
    rw[HNE.out,HNS.out]
    exact ⟨rfl,quJN (quJN HVB.out hbx) hbz⟩
   ·have hE0:wordE ts C=0:=if_neg he
    have HO:=hide (show dAll ts zs W kind (k+1)=true by rw[qulm,HA.out,←HDA.out,HC.out];simpa using he)
    have HP2:=hide (show dBits ts zs W kind (k+1)=dBits ts zs W kind k++wordS ts C++TB by rw[XRjF,←HDA.out,HWR.out,List.append_assoc])
    clear he
    generalize dBits ts zs W kind k=DB at *
    go_wp2_with (first|(go_at_call 180;refine (HCO.out _).mono ?_;rintro e wy ⟨rfl,rfl⟩)|(go_at_call 181;refine (jKYw _ bm ts _ _ HIT.out).mono ?_;rintro e wz ⟨rfl,hbz⟩;have hbdz:=z2IW hbdx hbz hszx;have hszz:=hbz.size))
    refine (zeBQ V.heap.size V.heap.size _ _ _ hbdz (by omega) (by omega)).mono ?_
    rintro e w4 ⟨rfl,hbd4,hb4⟩
    have hsz4:=hb4.size
    go_wp2_with fail
    refine (HTA.out _).mono ?_
    rintro e w5 ⟨rfl,hb5⟩
    have hbd5:=z2IW hbd4 hb5 (by omega)
    have hsz5:=hb5.size
    go_wp2_with fail
    refine (zeBQ V.heap.size V.heap.size _ _ _ hbd5 (by rw[List.length_append,jrcE];omega) (by omega)).mono ?_
    rintro e w6 ⟨rfl,hbd6,hb6⟩
    go_wp2
    go_roundw
    case rel=>exact ⟨k+1,by omega,by go_num,HO,by rw[HP2.out];exact hbd6,(((hbx.trans (hbz.mono hszx)).trans hb4).trans (hb5.mono (by omega))).trans hb6⟩
    case measure=>simp[intOf];omega
  ·obtain rfl:k=zs.length:=by omega
   have HNE:=hide (show X2rK W H zs kind xs=0 by rw[X2rK,if_pos HP.out,if_pos HK.out,if_pos HE.out,HTS.out,Int.toNat_natCast,if_pos HA.out])
   have HNS:=hide (show zivd W H zs kind xs=XIZK (dBits ts zs W kind zs.length) by rw[zivd,HNE.out,if_pos rfl,HTS.out,Int.toNat_natCast])
   have HAB:=hide (show allB (dBits ts zs W kind zs.length)=true by rw[←HTS.out];exact X4sE xs zs W kind zs.length)
   generalize dBits ts zs W kind zs.length=DB at *
   go_wp2_with (first|(go_at_call 32;refine (zCCW V.heap.size V.heap.size _ _ hbd hsz).mono ?_;rintro e w3 ⟨rfl,hb3⟩)|(go_at_call 174;refine (XKQm _ HAB.out (by omega) _).mono ?_;rintro e w4 ⟨rfl,hb4⟩))
   go_ret2
   rw[HNE.out,HNS.out]
   exact ⟨rfl,quJN (quJN HVB.out (hb.trans hb3)) hb4⟩
theorem zbmk (W H:Int) (vp v:Value) (zs:List Int) (kind:Int) (xs:List Int) (w:World) (hvp:jCvT w vp zs) (hv:jCvT w v xs) :
  Calls Tryz.prog 125 #[.agg #[.int .i64 W,.int .i64 H,vp],.int .i64 kind,v] w fun e w'=>e=.returned (.tuple #[.string (str (zivd W H zs kind xs)),.int .i64 (X2rK W H zs kind xs)])∧Below w.heap.size w w':=by
 by_cases hp:q0fM W H zs=true
 ·by_cases hk:qkcw kind=true
  ·by_cases hE:qO3F xs=0
   ·obtain ⟨⟨b1,_⟩,⟨b3,_⟩,_,_⟩:=qwcI hp
    obtain ⟨WN,rfl⟩:=Int.eq_ofNat_of_zero_le (show 0≤W by omega)
    obtain ⟨HN,rfl⟩:=Int.eq_ofNat_of_zero_le (show 0≤H by omega)
    exact XJ6E WN HN vp v zs kind xs w hvp hv hp hk hE
   ·have HNE:=hide (show X2rK W H zs kind xs=qO3F xs by rw[X2rK,if_pos hp,if_pos hk,if_neg hE])
    have HNS:=hide (show zivd W H zs kind xs=[] by rw[zivd,HNE.out,if_neg hE])
    have HV:=hide hv;clear hv
    have HVP:=hide hvp
    obtain ⟨po,pc,rfl,hpl,hpc⟩:=hvp
    have hne:(qO3F xs != 0)=true:=by simpa using hE
    clear hpc hE
    go_enter Tryz.func125,Tryz.ntmps125
    go_wp2_with fail
    refine (XeC7 _ _ _ zs _ (HVP.out.alloc _)).mono ?_
    rintro e w1 ⟨rfl,hb1⟩
    rw[hp]
    have HB1:=hide (quJN (qUNz w _) hb1)
    go_wp2_with (go_at_call 175;refine (qJyw _ _).mono ?_;rintro e w2 ⟨rfl,rfl⟩;rw[hk])
    refine (z3li _ _ _ (HV.out.below HB1.out (Nat.le_refl _))).mono ?_
    rintro e w2 ⟨r,rfl,hr,hb2⟩
    clear hr
    go_wp2
    go_ret2
    rw[HNE.out,HNS.out]
    exact ⟨rfl,quJN HB1.out hb2⟩
  ·have HNE:=hide (show X2rK W H zs kind xs=6 by rw[X2rK,if_pos hp,if_neg hk])
   have HNS:=hide (show zivd W H zs kind xs=[] by rw[zivd,HNE.out,if_neg (by decide)])
   have hk:qkcw kind=false:=by simpa using hk
   have HVP:=hide hvp
   obtain ⟨po,pc,rfl,hpl,hpc⟩:=hvp
   clear hpc hv
   go_enter Tryz.func125,Tryz.ntmps125
   go_wp2_with fail
   refine (XeC7 _ _ _ zs _ (HVP.out.alloc _)).mono ?_
   rintro e w1 ⟨rfl,hb1⟩
   rw[hp]
   have HB1:=hide (quJN (qUNz w _) hb1)
   go_wp2_with (go_at_call 175;refine (qJyw _ _).mono ?_;rintro e w2 ⟨rfl,rfl⟩;rw[hk])
   go_ret2
   rw[HNE.out,HNS.out]
   exact ⟨rfl,HB1.out⟩
 ·have HNE:=hide (show X2rK W H zs kind xs=1 by rw[X2rK,if_neg hp])
  have HNS:=hide (show zivd W H zs kind xs=[] by rw[zivd,HNE.out,if_neg (by decide)])
  have hp:q0fM W H zs=false:=by simpa using hp
  have HVP:=hide hvp
  obtain ⟨po,pc,rfl,hpl,hpc⟩:=hvp
  clear hpc hv
  go_enter Tryz.func125,Tryz.ntmps125
  go_wp2_with fail
  refine (XeC7 _ _ _ zs _ (HVP.out.alloc _)).mono ?_
  rintro e w1 ⟨rfl,hb1⟩
  rw[hp]
  have HB1:=hide (quJN (qUNz w _) hb1)
  go_wp2
  go_ret2
  rw[HNE.out,HNS.out]
  exact ⟨rfl,HB1.out⟩
def readD (s:List UInt8) (W H kind:Int) (xs:List Int):Option (List Int) :=
  if s.length≤(W.toNat*H.toNat*30+7) / 8 then
    (match rdD (jLGz xs) (rowOf s) W.toNat kind (W.toNat*H.toNat) with
     | some (pos,zs)=>if jvOH ((rowOf s).drop pos)=true then some zs else none
     | none=>none)
  else none
def qaPw (s:List UInt8) (W H kind:Int) (xs:List Int):Int :=
 if jbTy W=true∧jbTy H=true then (if qkcw kind=true then (if qO3F xs=0 then (if (readD s W H kind xs).isSome=true then 0 else 1) else qO3F xs) else 6) else 3
def jNAw (s:List UInt8) (W H kind:Int) (xs:List Int):List Int:=if qaPw s W H kind xs=0 then (readD s W H kind xs).getD [] else []
def qYDS (s:List UInt8) (W H kind:Int) (xs:List Int):Int:=if qaPw s W H kind xs=0 then W else 0
def jHG5 (s:List UInt8) (W H kind:Int) (xs:List Int):Int:=if qaPw s W H kind xs=0 then H else 0
theorem qgx6 {s:List UInt8} {W H N:Nat} {kind:Int} {xs:List Int} (hN:W*H=N) (h:rdD (jLGz xs) (rowOf s) W kind N=none):readD s W H kind xs=none:=by
 rw[readD,Int.toNat_natCast,Int.toNat_natCast,hN,h];split<;>rfl
theorem j6Nr {s:List UInt8} {W H N:Nat} {kind:Int} {xs zs:List Int} {pos:Nat} (hN:W*H=N) (hl:s.length≤(N*30+7) / 8) (h:rdD (jLGz xs) (rowOf s) W kind N=some (pos,zs)):readD s W H kind xs=if jvOH ((rowOf s).drop pos)=true then some zs else none:=by
 rw[readD,Int.toNat_natCast,Int.toNat_natCast,hN,h,if_pos hl]
theorem jlwZ (xs:List Int) (hE:qO3F xs=0) (b:List UInt8) (h:(nextF (jLGz xs) [] b).2.1=0) :
  ∃i:Nat,i<(j6d1 xs).length∧(nextF (jLGz xs) [] b).1=i∧(nextF (jLGz xs) [] b).2.2=((j6d1 xs).getD i []).length∧(j6d1 xs).getD i [] <+: b:=by
 obtain ⟨h1,h2,h3⟩:=zagu (j6d1 xs) (XtTT xs hE) (zqfI xs hE) b
 have h0:frE (j6d1 xs) b=0:=by rw[←h2];exact h
 obtain ⟨i,hi,hv,hn,hp⟩:=h3 h0
 exact ⟨i,hi,h1.trans hv,hn,hp⟩
theorem nx_cls (xs:List Int) (hE:qO3F xs=0) (b:List UInt8) (h:(nextF (jLGz xs) [] b).2.1=0):∃i:Nat,i≤16∧(nextF (jLGz xs) [] b).1=i:=by
 obtain ⟨i,hi,hv,_⟩:=jlwZ xs hE b h
 have:=(zF8D hE).2.1
 rw[zFud] at hi
 exact ⟨i,by omega,hv⟩
theorem zVQf {W H kind:Int} {xs zs:List Int} (h:X2rK W H zs kind xs=0):readD (zivd W H zs kind xs) W H kind xs=some zs∧jbTy W=true∧jbTy H=true∧qkcw kind=true∧qO3F xs=0∧q0fM W H zs=true:=by
 have hS:=h
 rw[X2rK] at h
 split at h
 ·rename_i hp
  split at h
  ·rename_i hk
   split at h
   ·rename_i hE
    split at h
    ·rename_i hall
     obtain ⟨b1,b2,hl,hs⟩:=qwcI hp
     have hn:zs.length=W.toNat*H.toNat:=by
      have:(zs.length:Int)=((W.toNat*H.toNat:Nat):Int):=by rw[hl,Int.natCast_mul];congr 1<;>omega
      omega
     have hbl:=jcrL xs (zF8D hE).2.2.1 zs W.toNat kind zs.length
     have hab:=X4sE xs zs W.toNat kind zs.length
     refine ⟨?_,by simpa [jbTy] using b1,by simpa [jbTy] using b2,hk,hE,hp⟩
     rw[zivd,if_pos hS,readD,if_pos (by rw[qEqN,←hn];omega),zZlx _ hab]
     have hr:=rdD_of (j6d1 xs) (XtTT xs hE) zs hs W.toNat (by omega) kind hall (List.replicate (8*(((dBits (j6d1 xs) zs W.toNat kind zs.length).length+7) / 8)-(dBits (j6d1 xs) zs W.toNat kind zs.length).length) 48) zs.length (Nat.le_refl _)
     rw[←hn]
     show (match rdD (bookF (j6d1 xs) (j6d1 xs).length) _ _ _ _ with|some (pos,zs)=>_|none=>none)=_
     rw[hr]
     simp only[List.take_length,List.drop_left]
     rw[if_pos]
     rw[jvOH,zSOm]
     simp
     omega
    ·cases h
   ·rename_i hE;exact absurd h hE
  ·cases h
 ·cases h
theorem jJzf {s:List UInt8} {W H kind:Int} {xs:List Int} (h:qaPw s W H kind xs=0):jbTy W=true∧jbTy H=true∧qkcw kind=true∧qO3F xs=0∧∃zs,readD s W H kind xs=some zs∧jNAw s W H kind xs=zs∧qYDS s W H kind xs=W∧jHG5 s W H kind xs=H:=by
 have h0:=h
 rw[qaPw] at h
 split at h
 ·rename_i hs
  split at h
  ·rename_i hk
   split at h
   ·rename_i hE
    split at h
    ·rename_i hi
     obtain ⟨zs,hz⟩:=Option.isSome_iff_exists.1 hi
     exact ⟨hs.1,hs.2,hk,hE,zs,hz,by rw[jNAw,if_pos h0,hz];rfl,by rw[qYDS,if_pos h0],by rw[jHG5,if_pos h0]⟩
    ·cases h
   ·rename_i hE;exact absurd h hE
  ·cases h
 ·cases h
theorem qSeA {W H kind:Int} {xs zs:List Int} (h:X2rK W H zs kind xs=0):qaPw (zivd W H zs kind xs) W H kind xs=0∧jNAw (zivd W H zs kind xs) W H kind xs=zs∧qYDS (zivd W H zs kind xs) W H kind xs=W∧jHG5 (zivd W H zs kind xs) W H kind xs=H:=by
 obtain ⟨h1,h2,h3,h4,h5,_⟩:=zVQf h
 have h0:qaPw (zivd W H zs kind xs) W H kind xs=0:=by rw[qaPw,if_pos ⟨h2,h3⟩,if_pos h4,if_pos h5,h1];rfl
 obtain ⟨_,_,_,_,ys,hy,e1,e2,e3⟩:=jJzf h0
 rw[h1] at hy
 cases hy
 exact ⟨h0,e1,e2,e3⟩
theorem qDzx (l:List UInt8) (k:Nat) (h:k<l.length) (hb:allB l=true) (hk:k≤15) :
  valOf (l.take k)<65536∧48≤l[k].toNat∧l[k].toNat≤49∧valOf (l.take (k+1))=2*valOf (l.take k)+(l[k].toNat-48):=by
 have h1:=zEdZ _ (zTn5 hb k)
 have hl:(l.take k).length≤16:=by simp;omega
 have h2:=pow16 hl
 have h3:=XUy1 hb k h
 rw[List.take_succ_eq_append_getElem h,jvvo]
 omega
theorem qkDG {f:List UInt8→Option (Int×Bool)} {b:List UInt8} (h:(nextF f [] b).2.1≠0):nxD f b=none:=by rw[nxD,if_neg h]
theorem XpVD {f:List UInt8→Option (Int×Bool)} {b:List UInt8} (h:(nextF f [] b).2.1=0) (h1:(nextF f [] b).1=16):nxD f b=some (32768,(nextF f [] b).2.2):=by rw[nxD,if_pos h,if_pos h1]
theorem z4PX {f:List UInt8→Option (Int×Bool)} {b:List UInt8} (h:(nextF f [] b).2.1=0) (i:Nat) (h1:(nextF f [] b).1=i) (hi:i≤15) (hl:b.length<(nextF f [] b).2.2+i):nxD f b=none:=by
 rw[nxD,if_pos h,if_neg (by omega),h1,Int.toNat_natCast,if_pos hl]
theorem nxD_ok {f:List UInt8→Option (Int×Bool)} {b:List UInt8} (h:(nextF f [] b).2.1=0) (i:Nat) (h1:(nextF f [] b).1=i) (hi:i≤15) (hl:(nextF f [] b).2.2+i≤b.length):nxD f b=some (tailV i (valOf ((b.drop (nextF f [] b).2.2).take i)),(nextF f [] b).2.2+i):=by
 rw[nxD,if_pos h,if_neg (by omega),h1,Int.toNat_natCast,if_neg (by omega)]
theorem XFUU (ca:Option Addr) (cl cc bm n:Nat) (f:List UInt8→Option (Int×Bool)) (ba bb:Nat) (bits:List UInt8) (pos:Nat) (w:World) (hm:z395 w bm n f) (hfl:∀key,f key≠none→key.length≤100) (ht:XHvY w ba bb bits pos) (hbits:allB bits=true)
  (hcls:(nextF f [] (bits.drop pos)).2.1=0→∃i:Nat,i≤16∧(nextF f [] (bits.drop pos)).1=i) :
  Calls Tryz.prog 203 #[.agg #[.slice ca cl cc,.map (some bm)],.func (.func 217) #[] #[.pointer (some ⟨ba,0,none⟩),.pointer (some ⟨bb,0,none⟩)]] w fun e w' =>
   (∀d m,nxD f (bits.drop pos)=some (d,m)→e=.returned (.tuple #[.int .i64 d,.bool true])∧XHvY w' ba bb bits (pos+m)) ∧
   (nxD f (bits.drop pos)=none→e=.returned (.tuple #[.int .i64 0,.bool false]))∧w.grownBy w' (some ba):=by
 have HBK:=hide (hm.below (qUNz w (.cells #[.slice ca cl cc,.map (some bm)] 219)) (Nat.le_refl _))
 have HT0:=hide (ht.below (qUNz w (.cells #[.slice ca cl cc,.map (some bm)] 219)))
 have hbl:=ht.2.2.2
 have hlt:=ht.lt
 have HFL:=hide hfl
 have hle:=jefR f [] (bits.drop pos)
 rw[List.length_drop] at hle
 have hpl:=ht.2.2.1
 have HX1:=hide (fun h=>qkDG (f:=f) (b:=bits.drop pos) h)
 have HX2:=hide (fun h=>XpVD (f:=f) (b:=bits.drop pos) h)
 have HX3:=hide (fun h=>z4PX (f:=f) (b:=bits.drop pos) h)
 have HX4:=hide (fun h=>nxD_ok (f:=f) (b:=bits.drop pos) h)
 have HC:=hide hcls
 clear hcls hm ht hfl
 go_enter Tryz.func203,Tryz.ntmps203
 go_wp2_with fail
 refine (X6fJ _ ca cl cc rfl bm n f ba bb bits pos _ HBK.out HFL.out HT0.out).mono ?_
 rintro e w1 ⟨rfl,ht1,hg1⟩
 have HG1:=hide ((World.grownBy_alloc w (.cells #[.slice ca cl cc,.map (some bm)] 219) (some ba)).trans hg1)
 have HT1:=hide ht1
 clear ht1 hg1 HT0 HBK HFL
 generalize (nextF f [] (bits.drop pos)).2.2=m0 at *
 generalize (nextF f [] (bits.drop pos)).2.1=er at *
 generalize (nextF f [] (bits.drop pos)).1=cl0 at *
 by_cases her:er=0
 ·subst her
  obtain ⟨i,hi16,rfl⟩:=HC.out rfl
  clear HC
  by_cases h16:i=16
  ·subst h16
   have HNX:=hide (HX2.out rfl rfl)
   go_wp2
   go_ret2
   refine ⟨fun d m h=>?_,fun h=>?_,HG1.out⟩
   ·rw[HNX.out] at h;cases h;exact ⟨rfl,HT1.out⟩
   ·rw[HNX.out] at h;cases h
  ·have hi15:i≤15:=by omega
   have HY3:=hide (HX3.out rfl i rfl hi15)
   have HY4:=hide (HX4.out rfl i rfl hi15)
   clear HX1 HX2 HX3 HX4
   have hib:((i:Int) == 16)=false:=by simp;omega
   have hdl:(bits.drop (pos+m0)).length=bits.length-(pos+m0):=List.length_drop
   have HDD:=hide (show (bits.drop pos).drop m0=bits.drop (pos+m0) from List.drop_drop)
   have HAB:=hide (Xvwf hbits (pos+m0))
   have HLD:=hide (show (bits.drop pos).length=bits.length-pos from List.length_drop)
   have HGET:=hide (show ∀k (h:pos+m0+k<bits.length) (h2:k<(bits.drop (pos+m0)).length),bits[pos+m0+k]=(bits.drop (pos+m0))[k] from fun k h h2=>by rw[List.getElem_drop])
   rw[HDD.out] at HY4
   rw[HLD.out] at HY3 HY4
   generalize bits.drop (pos+m0)=L at *
   clear HDD h16
   go_wp2
   go_loopw [8,22] (fun v j wr=>∃k:Nat,k≤i∧k≤L.length∧j=.int .i64 k∧v=.int .i64 (valOf (L.take k):Nat)∧Hid (XHvY wr ba bb bits (pos+m0+k))∧Hid (w.grownBy wr (some ba)))
    (fun _ j _=>i-(intOf j).toNat)
   case atStart=>exact ⟨0,Nat.zero_le _,Nat.zero_le _,rfl,rfl,HT1,HG1⟩
   case round =>
    obtain ⟨k,hk,hkL,rfl,rfl,HTK,HGK⟩:=hrel
    by_cases hki:k<i
    ·have hd:decide ((k:Int)<(i:Int))=true:=by simp;omega
     by_cases hkl:k<L.length
     ·obtain ⟨v1,v2,v3,v4⟩:=qDzx L k hkl HAB.out (by omega)
      have HV4:=hide v4
      have HGT:=hide (HGET.out k (by omega) hkl)
      clear v4
      go_wp2_with fail
      refine (jUUA ba bb bits (pos+m0+k) _ HTK.out (by omega)).mono ?_
      rintro e w3 ⟨rfl,hw3⟩
      have HT3:=hide (show XHvY w3 ba bb bits (pos+m0+(k+1)) by rw[←hw3];exact HTK.out.moved (by omega))
      have HG3:=hide (show w.grownBy w3 (some ba) by
       rw[←hw3]
       refine ⟨HGK.out.os,HGK.out.tape,HGK.out.output,by simpa [World.setCell] using HGK.out.size,fun q hq hne=>?_⟩
       rw[Below.heap_setCell _ _ _ _ (fun e=>hne (by rw[e]))]
       exact HGK.out.block q hq hne)
      rw[HGT.out]
      clear hw3 HTK HGK HGT
      generalize L[k].toNat=c at *
      generalize valOf (L.take k)=V at *
      go_wp2
      go_roundw
      case rel=>exact ⟨k+1,by omega,by omega,by go_num,by rw[HV4.out];go_num,HT3,HG3⟩
      case measure=>simp[intOf];omega
     ·obtain rfl:k=L.length:=by omega
      have HNX:=hide (HY3.out (by omega))
      have HTE:=hide (show XHvY wr ba bb bits bits.length by have h:=HTK.out;rw[show pos+m0+L.length=bits.length by omega] at h;exact h)
      go_wp2_with (go_at_call 217;refine (j0wK ba bb bits _ HTE.out).mono ?_;rintro e w3 ⟨rfl,rfl⟩)
      go_ret2
      refine ⟨fun d m h=>?_,fun _=>rfl,HGK.out⟩
      rw[HNX.out] at h;cases h
    ·obtain rfl:k=i:=by omega
     have hd:decide ((k:Int)<(k:Int))=false:=by simp
     have HNX:=hide (HY4.out (by omega))
     have hv:=zEdZ _ (zTn5 HAB.out k)
     rw[List.length_take,Nat.min_eq_left hkL] at hv
     have HTV:=hide (show tailV k (valOf (L.take k))=if valOf (L.take k)<2 ^ k / 2 then ((valOf (L.take k):Nat):Int)-((2 ^ k:Nat)-1) else ((valOf (L.take k):Nat):Int) by rw[tailV,q5J9])
     have hw:=jSrY (n:=k) (by omega)
     have hp:=pow16 (n:=k) (by omega)
     generalize valOf (L.take k)=V at *
     generalize tailV k V=TV at *
     obtain ⟨p,hpe⟩:∃p:Nat,2 ^ k=p:=⟨_,rfl⟩
     rw[hpe] at hw hp hv HTV
     clear hpe
     clear HY3 HY4 HGET HAB hdl hle hpl hbl hbits
     by_cases hlow:V<p / 2
     ·have HTV:=hide (HTV.out.trans (if_pos hlow))
      go_wp2
      go_ret2
      refine ⟨fun d m h=>?_,fun h=>?_,HGK.out⟩
      ·rw[HNX.out] at h
       cases h
       refine ⟨jV70 (congrArg (Value.int IntKind.i64) ?_) rfl,by rw[←Nat.add_assoc];exact HTK.out⟩
       rw[HTV.out]
      ·rw[HNX.out] at h;cases h
     ·have HTV:=hide (HTV.out.trans (if_neg hlow))
      go_wp2
      go_ret2
      refine ⟨fun d m h=>?_,fun h=>?_,HGK.out⟩
      ·rw[HNX.out] at h
       cases h
       refine ⟨jV70 (congrArg (Value.int IntKind.i64) ?_) rfl,by rw[←Nat.add_assoc];exact HTK.out⟩
       rw[HTV.out]
      ·rw[HNX.out] at h;cases h
 ·have HNX:=hide (HX1.out her)
  have hne:(er != 0)=true:=by simpa using her
  clear her HC
  go_wp2
  go_ret2
  refine ⟨fun d m h=>?_,fun _=>rfl,HG1.out⟩
  rw[HNX.out] at h;cases h
theorem jfSQ (n:Int) (h0:0≤n) (h1:n≤4096) (w:World) :
  Calls Tryz.prog 201 #[.int .i64 n] w fun e w'=>e=.returned (.int .i64 ((n*30+7) / 8))∧w=w':=by
 go_enter Tryz.func201,Tryz.ntmps201
 go_wp2
 go_ret
 exact ⟨rfl,rfl⟩
theorem XNJu (l:List UInt8) (hl:l.length≤281474976710656) (w:World) :
  Calls Tryz.prog 204 #[.string (str l)] w fun e w'=>e=.returned (.bool (jvOH l))∧w=w':=by
 have hs:(str l).size=l.length:=qzX5 l
 by_cases h8:l.length<8
 ·have hd:decide ((l.length:Int)<8)=true:=by simp;omega
  have HE:=hide (show (!qMvX l)=jvOH l by rw[jvOH];simp[h8])
  go_enter Tryz.func204,Tryz.ntmps204
  go_wp2_with (go_at_call 200;refine (XxUc l _).mono ?_;rintro e w1 ⟨rfl,rfl⟩)
  go_ret
  exact ⟨j3Zs HE.out,rfl⟩
 ·have hd:decide ((l.length:Int)<8)=false:=by simp;omega
  have HE:=hide (show false=jvOH l by rw[jvOH];simp[h8])
  go_enter Tryz.func204,Tryz.ntmps204
  go_wp2
  go_ret
  exact ⟨j3Zs HE.out,rfl⟩
end Go.Proofs.YtfjeonehdlphiaaGreatDoor
