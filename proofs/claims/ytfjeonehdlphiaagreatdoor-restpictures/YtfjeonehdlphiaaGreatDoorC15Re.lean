/- Re: part 15 of what the proofs need. -/
import Derived.Test.YtfjeonehdlphiaaGreatDoorC1Re
import Derived.Test.YtfjeonehdlphiaaGreatDoorC10Re
import Derived.Test.YtfjeonehdlphiaaGreatDoorC12Re
import Derived.Test.YtfjeonehdlphiaaGreatDoorC13Re
import Derived.Test.YtfjeonehdlphiaaGreatDoorC14Re
import Derived.Deep.AppendLies
open Nat renaming le_refl → ka, zero_le → kb, succ_mul → kd
open Int renaming toNat_natCast → kc
set_option linter.unusedVariables false
set_option maxHeartbeats 1600000
set_option maxRecDepth 100000
namespace Go.Proofs.YtfjeonehdlphiaaGreatDoor
open Go.RowKit
def dList (zs:List Int) (W:Nat) (kind:Int) (n:Nat):List Int:=(List.range n).map (dAt zs W kind)
theorem Xbi0 (zs:List Int) (W:Nat) (kind:Int) (n:Nat):(dList zs W kind n).length=n:=by simp[dList]
theorem XOoW (zs:List Int) (W:Nat) (kind:Int) (n:Nat):(dList zs W kind (n+1)).map (Value.int .i64)=(dList zs W kind n).map (Value.int .i64)++[.int .i64 (dAt zs W kind n)]:=by
 simp[dList,List.range_succ]
theorem qpO3 (W H:Nat) (v:Value) (zs:List Int) (kind:Int) (w:World) (hv:jCvT w v zs) (hp:q0fM W H zs=true) :
  Calls Tryz.prog 136 #[.agg #[.int .i64 W,.int .i64 H,v],.int .i64 kind] w fun e w'=>∃r,e=.returned r∧jCvT w' r (dList zs W kind zs.length)∧Below w.heap.size w w':=by
 obtain ⟨⟨b1,b2⟩,⟨b3,b4⟩,b5,b6⟩:=qwcI hp
 have h4096:zs.length≤4096:=by have:=zAFj ⟨b1,b2⟩ ⟨b3,b4⟩;omega
 have hlen:zs.length=H*W:=by rw[Nat.mul_comm];exact_mod_cast b5
 have HZ:=hide b6
 have HLEN:=hide hlen
 clear b5 b6 hp hlen
 obtain ⟨i0,hi,hz0,hz1,hz2⟩:=info_parts Tryz.infoInt
 have HV:=hide hv
 obtain ⟨ao,ca,rfl,hla,_⟩:=hv
 have W0b:=qUNz w (Obj.cells #[.int .i64 W,.int .i64 H,.slice ao zs.length ca] 54)
 obtain ⟨e0,e1,e2⟩:=pl3 (Below.refl (w.alloc (Obj.cells #[.int .i64 W,.int .i64 H,.slice ao zs.length ca] 54)).heap.size _)
 have hlt0:w.heap.size<(w.alloc (Obj.cells #[.int .i64 W,.int .i64 H,.slice ao zs.length ca] 54)).heap.size:=by simp
 go_enter Tryz.func136,Tryz.ntmps136
 go_wp2_with fail
 generalize w.alloc (Obj.cells #[.int .i64 W,.int .i64 H,.slice ao zs.length ca] 54)=W0 at *
 have HW0:=hide W0b
 have HI0:=hide (HV.out.below W0b (ka _))
 have HE0:=hide e0
 have HE1:=hide e1
 have HE2:=hide e2
 have HS:=hide (show ∀w',Below W0.heap.size W0 w'→w'.cell? ⟨w.heap.size,0,none⟩=some (.int .i64 W)∧w'.cell? ⟨w.heap.size,1,none⟩=some (.int .i64 H)∧w'.cell? ⟨w.heap.size,2,none⟩=some (.slice ao zs.length ca)∧Below W0.heap.size W0 w' from fun w' h =>
  ⟨(h.cell (p:=⟨w.heap.size,0,none⟩) hlt0).trans e0,(h.cell (p:=⟨w.heap.size,1,none⟩) hlt0).trans e1,(h.cell (p:=⟨w.heap.size,2,none⟩) hlt0).trans e2,h⟩)
 clear e0 e1 e2 W0b HV
 go_loopw [5,6] (fun t i wr=>∃y:Nat,y≤H∧i=.int .i64 y∧(∃ao cap,t=.slice ao (y*W) cap)∧wr.ownsRow W0.heap.size 3 1 t (y*W) ((dList zs W kind (y*W)).map (Value.int .i64))∧Below W0.heap.size W0 wr)
  (fun _ i _=>H-(intOf i).toNat)
 case atStart=>exact ⟨0,kb _,rfl,⟨none,0,by simp⟩,by rw[Nat.zero_mul];exact World.ownsRow_nil _ _ _ _,Below.refl _ _⟩
 case round =>
  obtain ⟨y,hy,rfl,⟨tq,tc,rfl⟩,ho,hb⟩:=hrel
  have q0:=(hb.cell (p:=⟨w.heap.size,0,none⟩) hlt0).trans HE0.out
  have q1:=(hb.cell (p:=⟨w.heap.size,1,none⟩) hlt0).trans HE1.out
  by_cases hlt:y<H
  ·have hmul:y*W+W≤zs.length:=by
    rw[HLEN.out]
    have:=Nat.mul_le_mul_right W (show y+1≤H from hlt)
    rw[kd] at this;exact this
   have HM:=hide (show (y+1)*W=y*W+W from kd y W)
   have HPL:=hide (fun x (h:x<W)=>X4G3 (W:=W) (X:=x) (Y:=y) h)
   obtain ⟨M,hM⟩:∃M,M=y*W:=⟨_,rfl⟩
   rw[←hM] at ho hmul HM HPL
   simp only[←hM]
   have HMY:=hide hM
   clear hM
   have hd:decide ((y:Int)<(H:Int))=true:=by simp;omega
   go_wp2
   go_loopw [5,7] (fun t i wr=>∃x:Nat,x≤W∧i=.int .i64 x∧(∃ao cap,t=.slice ao (M+x) cap)∧wr.ownsRow W0.heap.size 3 1 t (M+x) ((dList zs W kind (M+x)).map (Value.int .i64))∧Below W0.heap.size W0 wr)
    (fun _ i _=>W-(intOf i).toNat)
   case atStart=>exact ⟨0,kb _,rfl,⟨_,_,rfl⟩,ho,hb⟩
   case round =>
    clear ho hb q0 q1
    obtain ⟨x,hx,rfl,⟨tq,tc,rfl⟩,ho,hb⟩:=hrel
    have q0:=(hb.cell (p:=⟨w.heap.size,0,none⟩) hlt0).trans HE0.out
    have q1:=(hb.cell (p:=⟨w.heap.size,1,none⟩) hlt0).trans HE1.out
    have hsz:=hb.size
    by_cases hxl:x<W
    ·have hd2:decide ((x:Int)<(W:Int))=true:=by simp;omega
     have hkl:M+x<zs.length:=by omega
     obtain ⟨m1,m2⟩:=HPL.out x hxl
     have hs:=qlb5 HZ.out (M+x)
     have hgr:=zjsj zs W kind (M+x) HZ.out
     have HAT:=hide (show ∀w',Below wr.heap.size wr w'→Calls Tryz.prog 142 #[.agg #[.int .i64 W,.int .i64 H,.slice ao zs.length ca],.int .i64 x,.int .i64 y] w' fun e w''=>e=.returned (.int .i64 (zs.getD (M+x) 0))∧Below wr.heap.size wr w'' from fun w' h =>
      (jMil _ _ _ zs _ _ x y W (M+x) _ ((HI0.out.below hb (ka _)).below h (ka _)) rfl rfl rfl (by rw[HMY.out]) hkl h4096).mono fun e w'' h2=>⟨h2.1,h.trans (h2.2.mono h.size)⟩)
     have HGU:=hide (show ∀w',Below wr.heap.size wr w'→Calls Tryz.prog 188 #[.agg #[.int .i64 W,.int .i64 H,.slice ao zs.length ca],.int .i64 kind,.int .i64 x,.int .i64 y] w' fun e w''=>e=.returned (.int .i64 (gAt zs W kind (M+x)))∧Below wr.heap.size wr w'' from fun w' h =>
      (XQcR _ zs W x y H kind (M+x) w' ((HI0.out.below hb (ka _)).below h (ka _)) (by omega) (by omega) hkl h4096 HZ.out m1.symm m2.symm).mono fun e w'' h2=>⟨h2.1,h.trans (h2.2.mono h.size)⟩)
     have HDA:=hide (show dif (zs.getD (M+x) 0) (gAt zs W kind (M+x))=dAt zs W kind (M+x) from rfl)
     have HDI:=hide (jjKe _ _ hs hgr)
     have HLS:=hide (XOoW zs W kind (M+x))
     rw[HDA.out] at HDI
     clear hs hgr m1 m2 HDA
     generalize zs.getD (M+x) 0=Z at *
     generalize gAt zs W kind (M+x)=G at *
     generalize dAt zs W kind (M+x)=D at *
     have HWR:=hide (show ∀w',Below wr.heap.size wr w'→Below W0.heap.size W0 w' from fun w' h=>hb.trans (h.mono hsz))
     have HWA:=hide (show ∀w' o,Below wr.heap.size wr w'→Below W0.heap.size W0 (w'.alloc o) from fun w' o h=>hb.trans ((quJN h (qUNz _ _)).mono hsz))
     have HOW:=hide (show ∀w' o,Below wr.heap.size wr w'→(w'.alloc o).ownsRow W0.heap.size 3 1 (.slice tq (M+x) tc) (M+x) ((dList zs W kind (M+x)).map (Value.int .i64)) from fun w' o h=>(qw14 ho h).alloc _)
     have HSZ:=hide (show ∀w' o,Below wr.heap.size wr w'→W0.heap.size≤(w'.alloc o).heap.size from fun w' o h=>by have:=h.size;simp;omega)
     have HGR:=hide (show ∀w' o w1,Below wr.heap.size wr w'→(w'.alloc o).grownBy w1 (Value.slice tq (M+x) tc).ownBlock→Below W0.heap.size W0 w1 from fun w' o w1 h hg =>
      (hb.trans ((quJN h (qUNz _ _)).mono hsz)).grown hg (by have:=h.size;simp;omega) (fun j hj=>(ho.lt j hj).1))
     have HNW:=hide (show ∀(w':World),∀j u,[Value.int .i64 D][j]?=some u→(w'.alloc (.cells #[.int .i64 D] 3)).cell? ((⟨w'.heap.size,0,none⟩:Addr).add j)=some u from fun w' j u hj=>by obtain ⟨rfl,rfl⟩:=X4yv hj;simp[Addr.add])
     have HON:=hide (show ∀u∈[Value.int .i64 D],u.oneCell'=true from fun u hu=>by simp at hu;subst hu;rfl)
     have hrefl:=Below.refl wr.heap.size wr
     have hdrew:Below wr.heap.size wr wr.drew:=(Below.refl _ _).drew
     go_wp2_with fail
     go_region_held3 (fun w'=>w'.cell? ⟨w.heap.size,0,none⟩=some (.int .i64 W)∧w'.cell? ⟨w.heap.size,1,none⟩=some (.int .i64 H)∧w'.cell? ⟨w.heap.size,2,none⟩=some (.slice ao zs.length ca)∧Below W0.heap.size W0 w')
      (first|(refine HS.out _ ?_;assumption)|(refine HS.out _ (HWR.out _ ?_);assumption)|(refine HS.out _ (HWA.out _ _ ?_);assumption))
      (first
       | (go_at_call 142;refine (HAT.out _ ?_).mono ?_;assumption;rintro e wx ⟨rfl,hN⟩)
       | (go_at_call 188;refine (HGU.out _ ?_).mono ?_;assumption;rintro e wx ⟨rfl,hN⟩)
       | (go_at_call 187;refine (HDI.out _).mono ?_;rintro e wy ⟨rfl,rfl⟩)
       | (refine step_append_lies _ rfl _ _ 52 rfl W0.heap.size 3 i0 (.int .i64 0) 1 8 Tryz.underlying52 hi hz0 hz1 hz2 rfl Nat.one_pos _ _ _ rfl (HOW.out _ _ hN) _ 1 1 [.int .i64 D] rfl rfl (HNW.out _) HON.out Nat.one_pos ?_ ?_ (HSZ.out _ _ hN) _ rfl ?_;(unfold maxLen;omega);omega;intro g cap w1 hown hgrow hat hltg;have hB1:=HGR.out _ _ _ hN hgrow))
     have ho4:w1.ownsRow W0.heap.size 3 1 (.slice (some ⟨g,0,none⟩) (M+(x+1)) cap) (M+(x+1)) ((dList zs W kind (M+(x+1))).map (Value.int .i64)):=by
      rw[show M+(x+1)=M+x+1 from rfl,HLS.out];exact hown
     clear hown hgrow hat hrefl hdrew ho hb hN
     go_wp2
     go_roundw
     case rel=>exact ⟨x+1,by omega,by go_num,⟨_,_,rfl⟩,ho4,hB1⟩
     case measure=>simp[intOf];omega
    ·have hd2:decide ((x:Int)<(W:Int))=false:=by simp;omega
     obtain rfl:x=W:=by omega
     go_wp2
     go_roundw
     case rel =>
      refine ⟨y+1,by omega,by go_num,⟨_,_,by rw[HM.out]⟩,by rw[HM.out];exact ho,hb⟩
     case measure=>simp[intOf];omega
  ·obtain rfl:y=H:=by omega
   have hd:decide ((y:Int)<(y:Int))=false:=by simp
   have HIN:=hide (show jCvT wr (.slice tq (y*W) tc) (dList zs W kind zs.length) by
    rw[HLEN.out]
    exact jCvT.own (by rw[Xbi0];exact ho) (by rw[Xbi0,←HLEN.out];omega))
   clear ho
   go_wp2
   go_ret
   exact ⟨_,rfl,HIN.out,HW0.out.trans (hb.mono HW0.out.size)⟩
theorem q3PL (zs:List Int) (W:Nat) (kind:Int) (n k:Nat) (h:k<(dList zs W kind n).length):(dList zs W kind n)[k]=dAt zs W kind k:=by simp[dList]
theorem qCdq {w3 wr w4:World} {e:TypeId} {t:Value} {n:Nat} {xs:List Value} (ho:wr.ownsRow w3.heap.size e 1 t n xs) (hb:Below w3.heap.size w3 wr) {p:Addr} {x:Value} (hp:p.block<w3.heap.size) (hc:w3.cell? p=some x) (hg:wr.grownBy w4 t.ownBlock):w4.cell? p=some x :=
 ((hb.grown hg hb.size (fun j hj=>(ho.lt j hj).1)).cell hp).trans hc
theorem jY6E (W H:Nat) (vp v:Value) (zs:List Int) (kind:Int) (xs:List Int) (w:World) (hvp:jCvT w vp zs) (hv:jCvT w v xs) (hp:q0fM W H zs=true) (hk:qkcw kind=true) (hE:qO3F xs=0) :
  Calls Tryz.prog 81 #[.agg #[.int .i64 W,.int .i64 H,vp],.int .i64 kind,v] w fun e w'=>e=.returned (.tuple #[.string (str (zivd W H zs kind xs)),.int .i64 (X2rK W H zs kind xs)])∧Below w.heap.size w w':=by
 have hnil:str []=⟨#[]⟩:=rfl
 obtain ⟨i0,hi,hz0,hz1,hz2⟩:=info_parts Tryz.infoU8
 obtain ⟨hl1,hl2,hok,_,_⟩:=zF8D hE
 obtain ⟨⟨b1,b2⟩,⟨b3,b4⟩,b5,b6⟩:=qwcI hp
 have h4096:zs.length≤4096:=by have:=zAFj ⟨b1,b2⟩ ⟨b3,b4⟩;omega
 have hz1':1≤zs.length:=by have:=zAFj ⟨b1,b2⟩ ⟨b3,b4⟩;omega
 have HV:=hide hv;clear hv
 have HVP:=hide hvp
 obtain ⟨po,pc,rfl,hpl,_⟩:=hvp
 have HE:=hide hE
 have HOK:=hide hok
 have HP:=hide hp
 have HK:=hide hk
 have hwk:decide (1≤kind∧kind≤7)=true:=hk
 clear b5 b6 hok hk
 go_enter Tryz.func81,Tryz.ntmps81
 go_wp2_with fail
 refine (zpml _ _ _ zs _ (HVP.out.alloc _)).mono ?_
 rintro e w1 ⟨rfl,hb1⟩
 rw[hp]
 have HB1:=hide (quJN (qUNz w _) hb1)
 obtain ⟨c0,c1,c2⟩:=pl3 hb1
 have hlt0:w.heap.size<w1.heap.size:=by have:=hb1.size;simp at this;omega
 clear hb1
 go_wp2_with (go_at_call 33;refine (qVbC _ _ _ _).mono ?_;rintro e wx ⟨rfl,rfl⟩;rw[hwk])
 refine (jVE5 _ _ _ (HV.out.below HB1.out (ka _))).mono ?_
 rintro e wx ⟨rfl,rfl⟩
 rw[HE.out]
 go_wp2_with fail
 refine (XQSa _ _ _ (HV.out.below HB1.out (ka _)) HE.out).mono ?_
 rintro e w2 ⟨r,rfl,hr,hb2⟩
 have c0:=(hb2.cell (p:=⟨w.heap.size,0,none⟩) hlt0).trans c0
 have c1:=(hb2.cell (p:=⟨w.heap.size,1,none⟩) hlt0).trans c1
 have c2:=(hb2.cell (p:=⟨w.heap.size,2,none⟩) hlt0).trans c2
 have HB2:=hide (quJN HB1.out hb2)
 obtain ⟨ro,rc,rfl,hrl0,hrc⟩:=hr
 obtain ⟨rb,rof,hro,hrl,hrcell⟩:∃b off,ro=some ⟨b,off,none⟩∧b<w2.heap.size∧∀j (h:j<(j6d1 xs).length),w2.cell? ⟨b,off+j,none⟩=some (.string (str (j6d1 xs)[j])):=by
  rcases hrc with h|h
  ·have h2:=zFud xs;rw[h] at h2;simp at h2;omega
  ·exact h
 have HRC:=hide hrcell
 clear hrcell hrc hrl0 hb2 HB1
 subst hro
 go_wp2_with fail
 refine (qpO3 W H _ zs kind _ (HVP.out.below HB2.out (ka _)) HP.out).mono ?_
 rintro e w3 ⟨q,rfl,hq,hb3⟩
 have hql:=Xbi0 zs W kind zs.length
 obtain ⟨qo,qc,rfl,_,hqc⟩:=hq
 obtain ⟨qb,qof,hqo,hqlt,hqcell⟩:∃b off,qo=some ⟨b,off,none⟩∧b<w3.heap.size∧∀j (h:j<(dList zs W kind zs.length).length),w3.cell? ⟨b,off+j,none⟩=some (.int .i64 (dList zs W kind zs.length)[j]):=by
  rcases hqc with h|h
  ·rw[h] at hql;simp at hql;omega
  ·exact h
 subst hqo
 have HQC:=hide (show ∀j,j<zs.length→w3.cell? ⟨qb,qof+j,none⟩=some (.int .i64 (dAt zs W kind j)) from fun j hj=>by
  rw[hqcell j (by rw[hql];exact hj),q3PL])
 have HB3:=hide (quJN HB2.out hb3)
 have HRC3:=hide (show ∀j (h:j<(j6d1 xs).length),w3.cell? ⟨rb,rof+j,none⟩=some (.string (str (j6d1 xs)[j])) from fun j h=>(hb3.cell (p:=⟨rb,rof+j,none⟩) hrl).trans (HRC.out j h))
 have hrl3:rb<w3.heap.size:=Nat.lt_of_lt_of_le hrl hb3.size
 rw[hql]
 clear hqcell hqc hb3 HRC hrl HB2 c0 c1 c2 hql hlt0 HVP HV
 have HWL:=hide (zFud xs)
 have hwl:(j6d1 xs).length≤17:=by rw[zFud];exact hl2
 generalize hts:j6d1 xs=ts at *
 have HTS:=hide hts;clear hts
 go_wp2
 go_loopw [11,12] (fun t i wr=>∃k:Nat,k≤zs.length∧i=.int .i64 k∧Hid (dAll ts zs W kind k=true)∧wr.ownsRow w3.heap.size 5 1 t (dBits ts zs W kind k).length (byt (dBits ts zs W kind k))∧Below w3.heap.size w3 wr) (fun _ i _=>zs.length-(intOf i).toNat)
 case atStart=>exact ⟨0,kb _,rfl,rfl,World.ownsRow_nil _ _ _ _,Below.refl _ _⟩
 case round =>
  obtain ⟨k,hk,rfl,HA,ho,hb⟩:=hrel
  have hsz:=hb.size
  have hpl2:(dBits ts zs W kind k).length≤122880:=by
   have h:=jcrL xs HOK.out zs W kind k
   rw[HTS.out] at h
   omega
  by_cases hlt:k<zs.length
  ·have HQK:=hide (HQC.out k hlt)
   have c1:=(hb.cell (p:=⟨qb,qof+k,none⟩) hqlt).trans HQK.out
   have hdr:=XdLc (zs.getD k 0) (gAt zs W kind k)
   have HDA:=hide (rfl:dif (zs.getD k 0) (gAt zs W kind k)=dAt zs W kind k)
   have hdr:-32768<dAt zs W kind k∧dAt zs W kind k≤32768:=hdr
   have HBS:=hide (XRjF ts zs W kind k)
   have HAS:=hide (qulm ts zs W kind k)
   have HAF:=hide (z4Mg ts zs W kind zs.length k hlt)
   generalize dAt zs W kind k=D at *
   have hcl:=qSCF hdr.1 hdr.2
   have HCO:=hide (z5HW D hdr.1 hdr.2)
   have HMO:=hide (zsRe D hdr.1 hdr.2)
   have htl:(tailB D).length≤15:=jCcD hdr.1 hdr.2
   rw[wrD] at HBS
   generalize tailB D=TB at *
   generalize cls D=C at *
   by_cases hcl2:C<ts.length
   ·have hd2:decide ((ts.length:Int)≤(C:Int))=false:=by simp;omega
    have c2:=(hb.cell (p:=⟨rb,rof+C,none⟩) hrl3).trans (HRC3.out C hcl2)
    have hws:wordS ts C=ts[C]:=by rw[wordS,if_pos (by omega)];simp[List.getD,hcl2]
    have hwl15:(ts[C]).length≤15:=by
     have h:=j1tV xs HOK.out C
     rw[HTS.out,hws] at h;exact h
    rw[hws] at HBS HAS HAF
    clear hws
    generalize ts[C]=wd at *
    by_cases he:wd=[]
    ·have hem:(str wd).toList.isEmpty=true:=by rw[Lib.toList_data,jrcE,he];rfl
     have HNE:=hide (show X2rK W H zs kind xs=4 by rw[X2rK,if_pos HP.out,if_pos HK.out,if_pos HE.out,HTS.out,kc,HAF.out he];rfl)
     have HNS:=hide (show zivd W H zs kind xs=[] by rw[zivd,HNE.out,if_neg (by decide)])
     clear he
     go_wp2_with (go_at_call 137;refine (HCO.out _).mono ?_;rintro e wy ⟨rfl,rfl⟩)
     go_ret2
     rw[HNE.out,HNS.out]
     exact ⟨rfl,quJN HB3.out hb⟩
    ·have hem:(str wd).toList.isEmpty=false:=by rw[Lib.toList_data,jrcE];simpa using he
     have HO:=hide (show dAll ts zs W kind (k+1)=true by rw[HAS.out,HA.out];simpa using he)
     clear he
     generalize dBits ts zs W kind k=L at *
     go_wp2_with (first|(go_at_call 137;refine (HCO.out _).mono ?_;rintro e wy ⟨rfl,rfl⟩)|(at_builtin;refine Lib.wpList_append_own_string _ rfl _ _ 74 9 rfl w3.heap.size 5 i0 Tryz.underlying74 Tryz.underlying9 hi hz0 hz1 hz2 _ _ _ rfl ho (str wd) rfl (by rw[qzX5];unfold maxLen;omega) (by rw[qzX5];omega) (by omega) ?_;intro v' w4 hown' hgrow _;have c4:=qCdq ho hb (p:=⟨qb,qof+k,none⟩) hqlt HQK.out hgrow))
     have hb4:Below w3.heap.size w3 w4:=hb.grown hgrow (by omega) (fun j hj=>(ho.lt j hj).1)
     have ho4:w4.ownsRow w3.heap.size 5 1 v' (L++wd).length (byt (L++wd)):=by
      rw[zP44,List.length_append]
      have hx:=hown'
      rw[qzX5] at hx
      exact hx
     have hsz4:=hb4.size
     have hlw:(L++wd).length≤122895:=by rw[List.length_append];omega
     clear hown' hgrow ho hb c1 c2
     generalize hLW:L++wd=LW at *
     have HLW:=hide hLW;clear hLW
     refine (HMO.out _).mono ?_
     rintro e w5 ⟨rfl,hb5⟩
     have ho5:=qw14 ho4 hb5
     have hsz5:=hb5.size
     go_wp2_with (at_builtin;refine Lib.wpList_append_own_string _ rfl _ _ 74 9 rfl w3.heap.size 5 i0 Tryz.underlying74 Tryz.underlying9 hi hz0 hz1 hz2 _ _ _ rfl ho5 (str TB) rfl (by rw[qzX5];unfold maxLen;omega) (by rw[qzX5];omega) (by omega) ?_;intro v6 w6 hown6 hgrow6 _)
     have hb6:Below w3.heap.size w3 w6:=(hb4.trans (hb5.mono hsz4)).grown hgrow6 (by omega) (fun j hj=>(ho5.lt j hj).1)
     have ho6:w6.ownsRow w3.heap.size 5 1 v6 (dBits ts zs W kind (k+1)).length (byt (dBits ts zs W kind (k+1))):=by
      rw[HBS.out,←List.append_assoc,HLW.out,zP44,List.length_append]
      have hx:=hown6
      rw[qzX5] at hx
      exact hx
     clear hown6 hgrow6 ho5 ho4
     go_roundw
     case rel=>exact ⟨k+1,by omega,by go_num,HO,ho6,hb6⟩
     case measure=>simp[intOf];omega
   ·have hd2:decide ((ts.length:Int)≤(C:Int))=true:=by simp;omega
    have HNE:=hide (show X2rK W H zs kind xs=4 by rw[X2rK,if_pos HP.out,if_pos HK.out,if_pos HE.out,HTS.out,kc,HAF.out (by rw[wordS,if_neg (by omega)])];rfl)
    have HNS:=hide (show zivd W H zs kind xs=[] by rw[zivd,HNE.out,if_neg (by decide)])
    go_wp2_with (go_at_call 137;refine (HCO.out _).mono ?_;rintro e wy ⟨rfl,rfl⟩)
    go_ret2
    rw[HNE.out,HNS.out]
    exact ⟨rfl,quJN HB3.out hb⟩
  ·obtain rfl:k=zs.length:=by omega
   have HNE:=hide (show X2rK W H zs kind xs=0 by rw[X2rK,if_pos HP.out,if_pos HK.out,if_pos HE.out,HTS.out,kc,if_pos HA.out])
   have HNS:=hide (show zivd W H zs kind xs=bytesOf (dBits ts zs W kind zs.length) by rw[zivd,HNE.out,if_pos rfl,HTS.out,kc])
   generalize dBits ts zs W kind zs.length=DB at *
   have hcv:=qK3H (dst:=9) Tryz.underlying74 Tryz.underlying5 Tryz.underlying9 ho
   go_wp2_with fail
   refine (XxhP (str DB) (by rw[qzX5];omega) _).mono ?_
   rintro e w4 ⟨rfl,hb4⟩
   go_wp2
   go_ret2
   rw[HNE.out,HNS.out]
   exact ⟨rfl,quJN (quJN HB3.out hb) hb4⟩
theorem qK0E (W H:Int) (vp v:Value) (zs:List Int) (kind:Int) (xs:List Int) (w:World) (hvp:jCvT w vp zs) (hv:jCvT w v xs) :
  Calls Tryz.prog 81 #[.agg #[.int .i64 W,.int .i64 H,vp],.int .i64 kind,v] w fun e w'=>e=.returned (.tuple #[.string (str (zivd W H zs kind xs)),.int .i64 (X2rK W H zs kind xs)])∧Below w.heap.size w w':=by
 by_cases hp:q0fM W H zs=true
 ·by_cases hk:qkcw kind=true
  ·by_cases hE:qO3F xs=0
   ·obtain ⟨⟨b1,_⟩,⟨b3,_⟩,_,_⟩:=qwcI hp
    obtain ⟨WN,rfl⟩:=Int.eq_ofNat_of_zero_le (show 0≤W by omega)
    obtain ⟨HN,rfl⟩:=Int.eq_ofNat_of_zero_le (show 0≤H by omega)
    exact jY6E WN HN vp v zs kind xs w hvp hv hp hk hE
   ·have HNE:=hide (show X2rK W H zs kind xs=qO3F xs by rw[X2rK,if_pos hp,if_pos hk,if_neg hE])
    have HNS:=hide (show zivd W H zs kind xs=[] by rw[zivd,HNE.out,if_neg hE])
    have hwk:decide (1≤kind∧kind≤7)=true:=hk
    have HV:=hide hv;clear hv
    have HVP:=hide hvp
    obtain ⟨po,pc,rfl,hpl,hpc⟩:=hvp
    have hne:(qO3F xs != 0)=true:=by simpa using hE
    clear hpc hE hk
    go_enter Tryz.func81,Tryz.ntmps81
    go_wp2_with fail
    refine (zpml _ _ _ zs _ (HVP.out.alloc _)).mono ?_
    rintro e w1 ⟨rfl,hb1⟩
    rw[hp]
    have HB1:=hide (quJN (qUNz w _) hb1)
    go_wp2_with (go_at_call 33;refine (qVbC _ _ _ _).mono ?_;rintro e wx ⟨rfl,rfl⟩;rw[hwk])
    refine (jVE5 _ _ _ (HV.out.below HB1.out (ka _))).mono ?_
    rintro e wx ⟨rfl,rfl⟩
    go_wp2
    go_ret2
    rw[HNE.out,HNS.out]
    exact ⟨rfl,HB1.out⟩
  ·have HNE:=hide (show X2rK W H zs kind xs=6 by rw[X2rK,if_pos hp,if_neg hk])
   have HNS:=hide (show zivd W H zs kind xs=[] by rw[zivd,HNE.out,if_neg (by decide)])
   have hk:qkcw kind=false:=by simpa using hk
   have hwk:decide (1≤kind∧kind≤7)=false:=hk
   have HVP:=hide hvp
   obtain ⟨po,pc,rfl,hpl,hpc⟩:=hvp
   clear hpc hv hk
   go_enter Tryz.func81,Tryz.ntmps81
   go_wp2_with fail
   refine (zpml _ _ _ zs _ (HVP.out.alloc _)).mono ?_
   rintro e w1 ⟨rfl,hb1⟩
   rw[hp]
   have HB1:=hide (quJN (qUNz w _) hb1)
   go_wp2_with (go_at_call 33;refine (qVbC _ _ _ _).mono ?_;rintro e wx ⟨rfl,rfl⟩;rw[hwk])
   go_ret2
   rw[HNE.out,HNS.out]
   exact ⟨rfl,HB1.out⟩
 ·have HNE:=hide (show X2rK W H zs kind xs=1 by rw[X2rK,if_neg hp])
  have HNS:=hide (show zivd W H zs kind xs=[] by rw[zivd,HNE.out,if_neg (by decide)])
  have hp:q0fM W H zs=false:=by simpa using hp
  have HVP:=hide hvp
  obtain ⟨po,pc,rfl,hpl,hpc⟩:=hvp
  clear hpc hv
  go_enter Tryz.func81,Tryz.ntmps81
  go_wp2_with fail
  refine (zpml _ _ _ zs _ (HVP.out.alloc _)).mono ?_
  rintro e w1 ⟨rfl,hb1⟩
  rw[hp]
  have HB1:=hide (quJN (qUNz w _) hb1)
  go_wp2
  go_ret2
  rw[HNE.out,HNS.out]
  exact ⟨rfl,HB1.out⟩
end Go.Proofs.YtfjeonehdlphiaaGreatDoor
