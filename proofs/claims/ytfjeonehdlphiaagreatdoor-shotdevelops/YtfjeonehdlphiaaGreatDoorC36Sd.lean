/- Part 36. -/
import Derived.Test.YtfjeonehdlphiaaGreatDoorC28Sd
import Derived.Test.YtfjeonehdlphiaaGreatDoorC34Sd
import Derived.Deep.AppendLies
open Go.Obj renaming cells → ka
open Go.Lib renaming cell_of_heap → kb
open Nat renaming le_refl → kc, lt_of_lt_of_le → km, le_trans → ko, zero_le → kw, succ_mul → xa, one_pos → zl
open Int renaming eq_ofNat_of_zero_le → kd, toNat_natCast → kG
open Go.IntWalk renaming i64_in → kf
open Go.RowKit.Below renaming refl → kh, heap_setCell → kv
open List renaming length_append → xc, length_drop → xe, replicate → yb
open Go.World renaming cell?_of_block → ys, ownsRow_nil → zc
open Go.Value renaming int → Z, slice → J
open Go.IntKind renaming i64 → G
set_option linter.unusedVariables false
set_option maxHeartbeats 1600000
set_option maxRecDepth 100000
namespace Go.Proofs.YtfjeonehdlphiaaGreatDoor
open Go.RowKit
open _root_.Go.Proofs.Tryz
def gb (zs:List Int) (W:Nat) (kind:Int) (n:Nat):List Int:=(List.range n).map (dp zs W kind)
theorem rh (zs:List Int) (W:Nat) (kind:Int) (n:Nat):(gb zs W kind n).length=n:=by simp[gb]
theorem Ar (zs:List Int) (W:Nat) (kind:Int) (n:Nat):(gb zs W kind (n+1)).map (Z .i64)=(gb zs W kind n).map (Z .i64)++[Z G (dp zs W kind n)]:=by
 simp[gb,List.range_succ]
theorem AA (W H:Nat) (v:Value) (zs:List Int) (kind:Int) (w:World) (hv:ap w v zs) (hp:a7 W H zs=true) :
  Calls prog 136 #[.agg #[Z G W,Z G H,v],Z G kind] w fun e w'=>∃r,e=.returned r/\ap w' r (gb zs W kind zs.length)/\Below w.heap.size w w':=by
 obtain ⟨⟨b1,b2⟩,⟨b3,b4⟩,b5,b6⟩:=eT hp;have h4096:zs.length<=4096:=by have:=fq ⟨b1,b2⟩ ⟨b3,b4⟩;omega
 have hlen:zs.length=H*W:=by rw[Nat.mul_comm];exact_mod_cast b5
 have F:=qH b6;have B:=qH hlen;clear b5 b6 hp hlen;obtain ⟨i0,hi,hz0,hz1,hz2⟩:=info_parts Tryz.infoInt;have HV:=qH hv;obtain ⟨f,ca,rfl,hla,_⟩:=hv;have I:=aq w (ka #[Z G W,Z G H,J f zs.length ca] 54);obtain ⟨K,L,N⟩:=kI (kh (w.alloc (ka #[Z G W,Z G H,J f zs.length ca] 54)).heap.size _);have l:w.heap.size<(w.alloc (ka #[Z G W,Z G H,J f zs.length ca] 54)).heap.size:=sS;go_enter func136,ntmps136;go_wp2_with fail
 generalize w.alloc _=c at *;have HW0:=qH I;have U:=qH (HV.1.below I (kc _));have S:=qH K;have T:=qH L;have HE2:=qH N;have E:=qH (show ∀w',Below c.heap.size c w'->w'.cell? ⟨w.heap.size,0,none⟩=some (Z G W)/\w'.cell? ⟨w.heap.size,1,none⟩=some (Z G H)/\w'.cell? ⟨w.heap.size,2,none⟩=some (J f zs.length ca)/\Below c.heap.size c w' from fun w' h =>
  ⟨(h.cell (p:=⟨w.heap.size,0,none⟩) l).trans K,(h.cell (p:=⟨w.heap.size,1,none⟩) l).trans L,(h.cell (p:=⟨w.heap.size,2,none⟩) l).trans N,h⟩)
 clear K L N I HV;go_loopw [5,6] (fun t i wr=>∃y:Nat,y<=H/\i=Z G y/\(∃f cap,t=J f (y*W) cap)/\wr.ownsRow c.heap.size 3 1 t (y*W) ((gb zs W kind (y*W)).map (Z .i64))/\Below c.heap.size c wr)
  (fun _ i _=>H-(intOf i).toNat)
 case atStart=>exact ⟨0,kw _,rfl,⟨none,0,sS⟩,by rw[Nat.zero_mul];exact zc _ _ _ _,kh _ _⟩
 case round =>
  obtain ⟨y,hy,rfl,⟨A,z,rfl⟩,k,d⟩:=hrel;have q0:=(d.cell (p:=⟨w.heap.size,0,none⟩) l).trans S.1;have q1:=(d.cell (p:=⟨w.heap.size,1,none⟩) l).trans T.1;by_cases hlt:y<H
  ·have hmul:y*W+W<=zs.length:=by
    rw[B.1];have:=Nat.mul_le_mul_right W (show y+1<=H from hlt);rw[xa] at this;exact this
   have C:=qH (show (y+1)*W=y*W+W from xa y W);have V:=qH (fun x (h:x<W)=>nf (W:=W) (X:=x) (Y:=y) h);obtain ⟨M,s⟩:∃M,M=y*W:=⟨_,rfl⟩;rw[<-s] at k hmul C V;simp only[<-s];have HMY:=qH s;clear s;have hd:decide ((y:Int)<(H:Int))=true:=sO;go_wp2;go_loopw [5,7] (fun t i wr=>∃x:Nat,x<=W/\i=Z G x/\(∃f cap,t=J f (M+x) cap)/\wr.ownsRow c.heap.size 3 1 t (M+x) ((gb zs W kind (M+x)).map (Z .i64))/\Below c.heap.size c wr)
    (fun _ i _=>W-(intOf i).toNat)
   case atStart=>exact ⟨0,kw _,rfl,⟨_,_,rfl⟩,k,d⟩
   case round =>
    clear k d q0 q1;obtain ⟨x,hx,rfl,⟨A,z,rfl⟩,k,d⟩:=hrel;have q0:=(d.cell (p:=⟨w.heap.size,0,none⟩) l).trans S.1;have q1:=(d.cell (p:=⟨w.heap.size,1,none⟩) l).trans T.1;have P:=d.size;by_cases hxl:x<W
    ·have hd2:decide ((x:Int)<(W:Int))=true:=sO;have hkl:M+x<zs.length:=oM;obtain ⟨m1,m2⟩:=V.1 x hxl;have hs:=jD F.1 (M+x);have hgr:=pl zs W kind (M+x) F.1;have HAT:=qH (show ∀w',Below wr.heap.size wr w'->Calls prog 142 #[.agg #[Z G W,Z G H,J f zs.length ca],Z G x,Z G y] w' fun e q=>e=.returned (Z G (zs.getD (M+x) 0))/\Below wr.heap.size wr q from fun w' h =>
      (lW _ _ _ zs _ _ x y W (M+x) _ ((U.1.below d (kc _)).below h (kc _)) rfl rfl rfl (by rw[HMY.1]) hkl h4096).mono fun e q m=>⟨m.1,h.trans (m.2.mono h.size)⟩)
     have HGU:=qH (show ∀w',Below wr.heap.size wr w'->Calls prog 188 #[.agg #[Z G W,Z G H,J f zs.length ca],Z G kind,Z G x,Z G y] w' fun e q=>e=.returned (Z G (bj zs W kind (M+x)))/\Below wr.heap.size wr q from fun w' h =>
      (uY _ zs W x y H kind (M+x) w' ((U.1.below d (kc _)).below h (kc _)) oM oM hkl h4096 F.1 m1.symm m2.symm).mono fun e q m=>⟨m.1,h.trans (m.2.mono h.size)⟩)
     have Q:=qH (show eS (zs.getD (M+x) 0) (bj zs W kind (M+x))=dp zs W kind (M+x) from rfl);have R:=qH (EW _ _ hs hgr);have HLS:=qH (Ar zs W kind (M+x));rw[Q.1] at R;clear hs hgr m1 m2 Q;generalize zs.getD (M+x) 0=b at *;generalize bj zs W kind (M+x)=a at *;generalize dp zs W kind (M+x)=D at *;have HWR:=qH (show ∀w',Below wr.heap.size wr w'->Below c.heap.size c w' from fun w' h=>d.trans (h.mono P));have HWA:=qH (show ∀w' o,Below wr.heap.size wr w'->Below c.heap.size c (w'.alloc o) from fun w' o h=>d.trans ((aG h (aq _ _)).mono P));have HOW:=qH (show ∀w' o,Below wr.heap.size wr w'->(w'.alloc o).ownsRow c.heap.size 3 1 (J A (M+x) z) (M+x) ((gb zs W kind (M+x)).map (Z .i64)) from fun w' o h=>(cT k h).alloc _);have HSZ:=qH (show ∀w' o,Below wr.heap.size wr w'->c.heap.size<=(w'.alloc o).heap.size from fun w' o h=>by have:=h.size;simp;omega);have HGR:=qH (show ∀w' o w1,Below wr.heap.size wr w'->(w'.alloc o).grownBy w1 (J A (M+x) z).ownBlock->Below c.heap.size c w1 from fun w' o w1 h hg =>
      (d.trans ((aG h (aq _ _)).mono P)).grown hg (by have:=h.size;simp;omega) (fun j O=>(k.lt j O).1))
     have HNW:=qH (show ∀(w':World),∀j u,[Z .i64 D][j]?=some u->(w'.alloc (.cells #[Z G D] 3)).cell? ((⟨w'.heap.size,0,none⟩:Addr).add j)=some u from fun w' j u O=>by obtain ⟨rfl,rfl⟩:=kE O;simp[Addr.add]);have HON:=qH (show ∀u∈[Z .i64 D],u.oneCell'=true from fun u hu=>by simp at hu;subst hu;rfl);have hrefl:=kh wr.heap.size wr;have hdrew:Below wr.heap.size wr wr.drew:=(kh _ _).drew;(go_wp2_with fail);go_region_held3 (fun w'=>w'.cell? ⟨w.heap.size,0,none⟩=some (Z G W)/\w'.cell? ⟨w.heap.size,1,none⟩=some (Z G H)/\w'.cell? ⟨w.heap.size,2,none⟩=some (J f zs.length ca)/\Below c.heap.size c w')
      (first|(refine E.1 _ ?_;assumption)|(refine E.1 _ (HWR.1 _ ?_);assumption)|(refine E.1 _ (HWA.1 _ _ ?_);assumption))
      (first
       | (go_at_call 142;refine (HAT.1 _ ?_).mono ?_;assumption;rintro e wx ⟨rfl,n⟩)
       | (go_at_call 188;refine (HGU.1 _ ?_).mono ?_;assumption;rintro e wx ⟨rfl,n⟩)
       | (go_at_call 187;refine (R.1 _).mono ?_;rintro e wy ⟨rfl,rfl⟩)
       | (refine step_append_lies _ rfl _ _ 52 rfl c.heap.size 3 i0 (Z G 0) 1 8 underlying52 hi hz0 hz1 hz2 rfl zl _ _ _ rfl (HOW.1 _ _ n) _ 1 1 [Z G D] rfl rfl (HNW.1 _) HON.1 zl ?_ ?_ (HSZ.1 _ _ n) _ rfl ?_;(unfold maxLen;omega);omega;intro g cap w1 hown hgrow hat hltg;have hB1:=HGR.1 _ _ _ n hgrow))
     have ho4:w1.ownsRow c.heap.size 3 1 (J (some ⟨g,0,none⟩) (M+(x+1)) cap) (M+(x+1)) ((gb zs W kind (M+(x+1))).map (Z .i64)):=by
      rw[show M+(x+1)=M+x+1 from rfl,HLS.1];exact hown
     clear hown hgrow hat hrefl hdrew k d n;go_wp2;go_roundw
     case rel=>exact ⟨x+1,oM,gN,⟨_,_,rfl⟩,ho4,hB1⟩
     case measure=>simp[intOf];omega
    ·have hd2:decide ((x:Int)<(W:Int))=false:=sO;obtain rfl:x=W:=oM;go_wp2;go_roundw
     case rel =>
      refine ⟨y+1,oM,gN,⟨_,_,by rw[C.1]⟩,by rw[C.1];exact k,d⟩
     case measure=>simp[intOf];omega
  ·obtain rfl:y=H:=oM;have hd:decide ((y:Int)<(y:Int))=false:=sS;have HIN:=qH (show ap wr (J A (y*W) z) (gb zs W kind zs.length) by
    rw[B.1];exact ap.own (by rw[rh];exact k) (by rw[rh,<-B.1];omega))
   clear k;go_wp2;go_ret;exact ⟨_,rfl,HIN.1,HW0.1.trans (d.mono HW0.1.size)⟩
theorem Aq (zs:List Int) (W:Nat) (kind:Int) (n k:Nat) (h:k<(gb zs W kind n).length):(gb zs W kind n)[k]=dp zs W kind k:=by simp[gb]
theorem Bx {a wr c:World} {e:TypeId} {t:Value} {n:Nat} {xs:List Value} (h:wr.ownsRow a.heap.size e 1 t n xs) (b:Below a.heap.size a wr) {p:Addr} {x:Value} (i:p.block<a.heap.size) (d:a.cell? p=some x) (f:wr.grownBy c t.ownBlock):c.cell? p=some x :=
 ((b.grown f b.size (fun j g=>(h.lt j g).1)).cell i).trans d
theorem Hu (W H:Nat) (vp v:Value) (zs:List Int) (kind:Int) (xs:List Int) (w:World) (hvp:ap w vp zs) (hv:ap w v xs) (hp:a7 W H zs=true) (N:eC kind=true) (hE:aU xs=0) :
  Calls prog 81 #[.agg #[Z G W,Z G H,vp],Z G kind,v] w (rT w (.tuple #[.string (lh (ch W H zs kind xs)),Z G (cM W H zs kind xs)])):=by
 have hnil:lh []=⟨#[]⟩:=rfl;obtain ⟨i0,hi,hz0,hz1,hz2⟩:=info_parts Tryz.infoU8;obtain ⟨hl1,hl2,hok,_,_⟩:=fW hE;obtain ⟨⟨b1,b2⟩,⟨b3,b4⟩,b5,b6⟩:=eT hp;have h4096:zs.length<=4096:=by have:=fq ⟨b1,b2⟩ ⟨b3,b4⟩;omega
 have hz1':1<=zs.length:=by have:=fq ⟨b1,b2⟩ ⟨b3,b4⟩;omega
 have X:=qH hv;clear hv;have Y:=qH hvp;obtain ⟨po,pc,rfl,hpl,_⟩:=hvp;have n:=qH hE;have HOK:=qH hok;have F:=qH hp;have V:=qH N;have hwk:decide (1<=kind/\kind<=7)=true:=N;clear b5 b6 hok N;go_enter func81,ntmps81;go_wp2_with fail
 refine (ql _ _ _ zs _ (Y.1.alloc _)).mono ?_;rintro e w1 ⟨rfl,I⟩;rw[hp];have E:=qH (aG (aq w _) I);obtain ⟨c0,s,u⟩:=kI I;have O:w.heap.size<w1.heap.size:=by have:=I.size;simp at this;omega
 clear I;go_wp2_with (go_at_call 33;refine (aI _ _ _ _).mono ?_;rintro e wx ⟨rfl,rfl⟩;rw[hwk])
 refine (mJ _ _ _ (X.1.below E.1 (kc _))).mono ?_;rintro e wx ⟨rfl,rfl⟩;rw[n.1];go_wp2_with fail
 refine (tk _ _ _ (X.1.below E.1 (kc _)) n.1).mono ?_;rintro e w2 ⟨r,rfl,hr,x⟩;have c0:=(x.cell (p:=⟨w.heap.size,0,none⟩) O).trans c0;have s:=(x.cell (p:=⟨w.heap.size,1,none⟩) O).trans s;have u:=(x.cell (p:=⟨w.heap.size,2,none⟩) O).trans u;have R:=qH (aG E.1 x);obtain ⟨ro,rc,rfl,hrl0,hrc⟩:=hr;obtain ⟨P,rof,hro,hrl,hrcell⟩:∃b off,ro=some ⟨b,off,none⟩/\b<w2.heap.size/\∀j (h:j<(aJ xs).length),w2.cell? ⟨b,off+j,none⟩=some (.string (lh (aJ xs)[j])):=by
  rcases hrc with h|h
  ·have h2:=eY xs;rw[h] at h2;simp at h2;omega
  ·exact h
 have HRC:=qH hrcell;clear hrcell hrc hrl0 x E;subst hro;go_wp2_with fail
 refine (AA W H _ zs kind _ (Y.1.below R.1 (kc _)) F.1).mono ?_;rintro e a ⟨q,rfl,hq,K⟩;have A:=rh zs W kind zs.length;obtain ⟨qo,qc,rfl,_,hqc⟩:=hq;obtain ⟨qb,qof,hqo,hqlt,hqcell⟩:∃b off,qo=some ⟨b,off,none⟩/\b<a.heap.size/\∀j (h:j<(gb zs W kind zs.length).length),a.cell? ⟨b,off+j,none⟩=some (Z G (gb zs W kind zs.length)[j]):=by
  rcases hqc with h|h
  ·rw[h] at A;simp at A;omega
  ·exact h
 subst hqo;have HQC:=qH (show ∀j,j<zs.length->a.cell? ⟨qb,qof+j,none⟩=some (Z G (dp zs W kind j)) from fun j y=>by
  rw[hqcell j (by rw[A];exact y),Aq])
 have S:=qH (aG R.1 K);have HRC3:=qH (show ∀j (h:j<(aJ xs).length),a.cell? ⟨P,rof+j,none⟩=some (.string (lh (aJ xs)[j])) from fun j h=>(K.cell (p:=⟨P,rof+j,none⟩) hrl).trans (HRC.1 j h));have hrl3:P<a.heap.size:=km hrl K.size;rw[A];clear hqcell hqc K HRC hrl R c0 s u A O Y X;have HWL:=qH (eY xs);have hwl:(aJ xs).length<=17:=by rw[eY];exact hl2
 generalize hts:aJ xs=ts at *;have l:=qH hts;clear hts;go_wp2;go_loopw [11,12] (fun t i wr=>∃k:Nat,k<=zs.length/\i=Z G k/\Hid (gy ts zs W kind k=true)/\wr.ownsRow a.heap.size 5 1 t (cC ts zs W kind k).length (aP (cC ts zs W kind k))/\Below a.heap.size a wr) (fun _ i _=>zs.length-(intOf i).toNat)
 case atStart=>exact ⟨0,kw _,rfl,rfl,zc _ _ _ _,kh _ _⟩
 case round =>
  obtain ⟨k,N,rfl,HA,z,d⟩:=hrel;have hsz:=d.size;have hpl2:(cC ts zs W kind k).length<=122880:=by
   have h:=oX xs HOK.1 zs W kind k;rw[l.1] at h;omega
  by_cases hlt:k<zs.length
  ·have HQK:=qH (HQC.1 k hlt);have s:=(d.cell (p:=⟨qb,qof+k,none⟩) hqlt).trans HQK.1;have c:=oY (zs.getD k 0) (bj zs W kind k);have HDA:=qH (rfl:eS (zs.getD k 0) (bj zs W kind k)=dp zs W kind k);have c:-32768<dp zs W kind k/\dp zs W kind k<=32768:=c;have T:=qH (ld ts zs W kind k);have HAS:=qH (rg ts zs W kind k);have Q:=qH (ut ts zs W kind zs.length k hlt);generalize dp zs W kind k=D at *;have hcl:=mL c.1 c.2;have U:=qH (xr D c.1 c.2);have HMO:=qH (CK D c.1 c.2);have htl:(cQ D).length<=15:=sX c.1 c.2;rw[eO] at T;generalize cQ D=TB at *;generalize br D=C at *;by_cases hcl2:C<ts.length
   ·have hd2:decide ((ts.length:Int)<=(C:Int))=false:=sO;have u:=(d.cell (p:=⟨P,rof+C,none⟩) hrl3).trans (HRC3.1 C hcl2);have hws:dd ts C=ts[C]:=(by rw[dd,if_pos oM];simp[List.getD,hcl2]);have hwl15:(ts[C]).length<=15:=by
     have h:=tj xs HOK.1 C;rw[l.1,hws] at h;exact h
    rw[hws] at T HAS Q;clear hws;generalize ts[C]=g at *;by_cases m:g=[]
    ·have hem:(lh g).toList.isEmpty=true:=(by rw[Lib.toList_data,bP,m];rfl);have f:=qH (show cM W H zs kind xs=4 by rw[cM,if_pos F.1,if_pos V.1,if_pos n.1,l.1,kG,Q.1 m];rfl);have o:=qH (show ch W H zs kind xs=[] by rw[ch,f.1,if_neg dD]);clear m;(go_wp2_with (go_at_call 137;refine (U.1 _).mono ?_;rintro e wy ⟨rfl,rfl⟩));go_ret2;rw[f.1,o.1];exact ⟨rfl,aG S.1 d⟩
    ·have hem:(lh g).toList.isEmpty=false:=(by rw[Lib.toList_data,bP];simpa using m);have HO:=au (show gy ts zs W kind (k+1)=true by rw[HAS.1,HA.out];simpa using m);clear m;generalize cC ts zs W kind k=L at *;(go_wp2_with (first|(go_at_call 137;refine (U.1 _).mono ?_;rintro e wy ⟨rfl,rfl⟩)|(at_builtin;refine Lib.wpList_append_own_string _ rfl _ _ 74 9 rfl a.heap.size 5 i0 underlying74 underlying9 hi hz0 hz1 hz2 _ _ _ rfl z (lh g) rfl (by rw[bn];unfold maxLen;omega) (by rw[bn];omega) oM ?_;intro v' w4 hown' hgrow _;have c4:=Bx z d (p:=⟨qb,qof+k,none⟩) hqlt HQK.1 hgrow)));have M:Below a.heap.size a w4:=d.grown hgrow oM (fun j y=>(z.lt j y).1);have ho4:w4.ownsRow a.heap.size 5 1 v' (L++g).length (aP (L++g)):=by
      rw[jl,xc];have B:=hown';rw[bn] at B;exact B
     have hsz4:=M.size;have hlw:(L++g).length<=122895:=(by rw[xc];omega);clear hown' hgrow z d s u;generalize hLW:L++g=LW at *;have HLW:=qH hLW;clear hLW;refine (HMO.1 _).mono ?_;rintro e w5 ⟨rfl,hb5⟩;have ho5:=cT ho4 hb5;have hsz5:=hb5.size;(go_wp2_with (at_builtin;refine Lib.wpList_append_own_string _ rfl _ _ 74 9 rfl a.heap.size 5 i0 underlying74 underlying9 hi hz0 hz1 hz2 _ _ _ rfl ho5 (lh TB) rfl (by rw[bn];unfold maxLen;omega) (by rw[bn];omega) oM ?_;intro v6 w6 hown6 hgrow6 _));have hb6:Below a.heap.size a w6:=(M.trans (hb5.mono hsz4)).grown hgrow6 oM (fun j y=>(ho5.lt j y).1);have ho6:w6.ownsRow a.heap.size 5 1 v6 (cC ts zs W kind (k+1)).length (aP (cC ts zs W kind (k+1))):=by
      rw[T.1,<-List.append_assoc,HLW.1,jl,xc];have B:=hown6;rw[bn] at B;exact B
     clear hown6 hgrow6 ho5 ho4;go_roundw
     case rel=>exact ⟨k+1,oM,gN,HO,ho6,hb6⟩
     case measure=>simp[intOf];omega
   ·have hd2:decide ((ts.length:Int)<=(C:Int))=true:=sO;have f:=qH (show cM W H zs kind xs=4 by rw[cM,if_pos F.1,if_pos V.1,if_pos n.1,l.1,kG,Q.1 (by rw[dd,if_neg oM])];rfl);have o:=qH (show ch W H zs kind xs=[] by rw[ch,f.1,if_neg dD]);(go_wp2_with (go_at_call 137;refine (U.1 _).mono ?_;rintro e wy ⟨rfl,rfl⟩));go_ret2;rw[f.1,o.1];exact ⟨rfl,aG S.1 d⟩
  ·obtain rfl:k=zs.length:=oM;have f:=qH (show cM W H zs kind xs=0 by rw[cM,if_pos F.1,if_pos V.1,if_pos n.1,l.1,kG,if_pos HA.out]);have o:=qH (show ch W H zs kind xs=dg (cC ts zs W kind zs.length) by rw[ch,f.1,if_pos rfl,l.1,kG]);generalize cC ts zs W kind zs.length=DB at *;have hcv:=ot (dst:=9) underlying74 underlying5 underlying9 z;(go_wp2_with fail);refine (xq (lh DB) (by rw[bn];omega) _).mono ?_;rintro e w4 ⟨rfl,M⟩;go_wp2;go_ret2;rw[f.1,o.1];exact ⟨rfl,aG (aG S.1 d) M⟩
theorem Ht (W H:Int) (o v:Value) (zs:List Int) (kind:Int) (xs:List Int) (w:World) (d:ap w o zs) (m:ap w v xs) :
  Calls prog 81 #[.agg #[Z G W,Z G H,o],Z G kind,v] w (rT w (.tuple #[.string (lh (ch W H zs kind xs)),Z G (cM W H zs kind xs)])):=by
 by_cases a:a7 W H zs=true
 ·by_cases b:eC kind=true
  ·by_cases j:aU xs=0
   ·obtain ⟨⟨x,_⟩,⟨y,_⟩,_,_⟩:=eT a;obtain ⟨u,rfl⟩:=kd (show 0<=W from oM);obtain ⟨HN,rfl⟩:=kd (show 0<=H from oM);exact Hu u HN o v zs kind xs w d m a b j
   ·have c:=qH (show cM W H zs kind xs=aU xs by rw[cM,if_pos a,if_pos b,if_neg j]);have g:=qH (show ch W H zs kind xs=[] by rw[ch,c.1,if_neg j]);have n:decide (1<=kind/\kind<=7)=true:=b;have t:=qH m;clear m;have i:=qH d;obtain ⟨r,q,rfl,p,l⟩:=d;have z:(aU xs != 0)=true:=(by simpa using j);clear l j b;go_enter func81,ntmps81;(go_wp2_with fail);refine (ql _ _ _ zs _ (i.1.alloc _)).mono ?_;rintro e w1 ⟨rfl,k⟩;rw[a];have f:=qH (aG (aq w _) k);(go_wp2_with (go_at_call 33;refine (aI _ _ _ _).mono ?_;rintro e s ⟨rfl,rfl⟩;rw[n]));refine (mJ _ _ _ (t.1.below f.1 (kc _))).mono ?_;rintro e s ⟨rfl,rfl⟩;go_wp2;go_ret2;rw[c.1,g.1];exact ⟨rfl,f.1⟩
  ·have c:=qH (show cM W H zs kind xs=6 by rw[cM,if_pos a,if_neg b]);have g:=qH (show ch W H zs kind xs=[] by rw[ch,c.1,if_neg dD]);have b:eC kind=false:=(by simpa using b);have n:decide (1<=kind/\kind<=7)=false:=b;have i:=qH d;obtain ⟨r,q,rfl,p,l⟩:=d;clear l m b;go_enter func81,ntmps81;(go_wp2_with fail);refine (ql _ _ _ zs _ (i.1.alloc _)).mono ?_;rintro e w1 ⟨rfl,k⟩;rw[a];have f:=qH (aG (aq w _) k);(go_wp2_with (go_at_call 33;refine (aI _ _ _ _).mono ?_;rintro e s ⟨rfl,rfl⟩;rw[n]));go_ret2;rw[c.1,g.1];exact ⟨rfl,f.1⟩
 ·have c:=qH (show cM W H zs kind xs=1 by rw[cM,if_neg a]);have g:=qH (show ch W H zs kind xs=[] by rw[ch,c.1,if_neg dD]);have a:a7 W H zs=false:=by simpa using a
  have i:=qH d;obtain ⟨r,q,rfl,p,l⟩:=d;clear l m;go_enter func81,ntmps81;go_wp2_with fail
  refine (ql _ _ _ zs _ (i.1.alloc _)).mono ?_;rintro e w1 ⟨rfl,k⟩;rw[a];have f:=qH (aG (aq w _) k);go_wp2;go_ret2;rw[c.1,g.1];exact ⟨rfl,f.1⟩
theorem Dk (xs:List Int) (e:aU xs=0) (b:List UInt8) :
  (gh (aJ xs) b≠0->dN (eb xs) b=none) /\
  (gh (aJ xs) b=0->∃i:Nat,i<=16/\∃f:i<(aJ xs).length,jT (aJ xs) b=i/\(aJ xs)[i].length<=b.length /\
   (i=16->dN (eb xs) b=some (32768,(aJ xs)[i].length)) /\
   (i<=15->b.length<(aJ xs)[i].length+i->dN (eb xs) b=none) /\
   (i<=15->(aJ xs)[i].length+i<=b.length->dN (eb xs) b=some (fU i (bS ((b.drop (aJ xs)[i].length).take i)),(aJ xs)[i].length+i))):=by
 obtain ⟨o,r,s⟩:=vH (aJ xs) (tl xs e) (xJ xs e) b;have p:(aQ (eb xs) [] b).1=jT (aJ xs) b:=o;have k:(aQ (eb xs) [] b).2.1=gh (aJ xs) b:=r;refine ⟨fun h=>vQ (by rw[k];exact h),fun h=>?_⟩;obtain ⟨i,f,n,v,m⟩:=s h;have l:(aJ xs).getD i []=(aJ xs)[i]:=by simp[List.getD,f]
 have a:(aQ (eb xs) [] b).2.2=(aJ xs)[i].length:=by rw[<-l];exact v
 have c:(aQ (eb xs) [] b).2.1=0:=by rw[k];exact h
 have j:(aQ (eb xs) [] b).1=i:=by rw[p];exact n
 have t:=(fW e).2.1;rw[l] at m;have u:=m.length_le;rw[<-eY xs] at t;refine ⟨i,oM,f,n,u,fun q=>?_,fun d g=>?_,fun d g=>?_⟩
 ·rw[vU c (by rw[j,q];rfl),a]
 ·exact vT c i j d (by rw[a];exact g)
 ·have:=vR c i j d (by rw[a];exact g);rw[a] at this;exact this
theorem EM {sb:List UInt8} {W H N pos:Nat} {kind:Int} {xs zs:List Int} (b:W*H=N) (k:aM W=true) (o:aM H=true) (q:eC kind=true) (a:aU xs=0) (h:dE (eb xs) (aF sb) W kind N=some (pos,zs)) :
  a7 W H zs=true/\cM W H zs kind xs=0/\(ch W H zs kind xs=sb->dY sb W H kind xs=some zs)/\(ch W H zs kind xs≠sb->dY sb W H kind xs=none):=by
 have t:1<=(W:Int)/\(W:Int)<=64:=by simpa [aM] using k
 obtain ⟨f,r⟩:=nk h;have s:(aJ xs).length<=17:=by rw[eY];exact (fW a).2.1
 obtain ⟨g,i,n⟩:=Ex (aJ xs) s (aF sb) (kp sb) W oM kind (pV xs a) _ _ _ h;have m:a7 W H zs=true:=by
  rw[a7,k,o,r];simp only[Bool.true_and,Bool.and_true,decide_eq_true_eq];rw[f,<-b,Int.natCast_mul]
 have l:cM W H zs kind xs=0:=by rw[cM,if_pos m,if_pos q,if_pos a,f,kG,if_pos n]
 have j:ch W H zs kind xs=dg ((aF sb).take pos):=by rw[ch,if_pos l,f,kG,i]
 rw[ig] at g;have e:=A4 sb pos g;rw[<-j] at e;refine ⟨m,l,fun c=>?_,fun c=>?_⟩
 ·have d:sb.length<=(N*30+7) / 8:=by
   rw[<-c,j,oU,i];have:=oX xs (fW a).2.2.1 zs W kind N;omega
  rw[sA b d h,if_pos (e.1 c)]
 ·by_cases d:sb.length<=(N*30+7) / 8
  ·rw[sA b d h,if_neg (fun p=>c (e.2 p))]
  ·rw[dY,kG,kG,b];exact if_neg d
theorem EK (sb:List UInt8) (W H:Nat) (kind:Int) (v:Value) (xs:List Int) (w:World) (hv:ap w v xs) (hW:aM W=true) (hH:aM H=true) (P:eC kind=true) (hE:aU xs=0) (hlen:sb.length<=32768) :
  Calls prog 169 #[.string (lh sb),Z G W,Z G H,Z G kind,v] w fun e w'=>∃r,e=.returned (.tuple #[.agg #[Z G (dQ sb W H kind xs),Z G (dP sb W H kind xs),r],Z G (bp sb W H kind xs)])/\ap w' r (cD sb W H kind xs)/\Below w.heap.size w w'/\ar w.heap.size r:=by
 obtain ⟨hl1,hl2,hok,_,_⟩:=fW hE;obtain ⟨i0,hi,hz0,hz1,hz2⟩:=info_parts Tryz.infoInt;have b1:1<=(W:Int)/\(W:Int)<=64:=by simpa [aM] using hW
 have b2:1<=(H:Int)/\(H:Int)<=64:=by simpa [aM] using hH
 have b3:=fq b1 b2;obtain ⟨b1,b1'⟩:=b1;obtain ⟨b2,b2'⟩:=b2;obtain ⟨N,hN⟩:=eX (W*H);have hNi:(W:Int)*(H:Int)=(N:Int):=by rw[<-hN];simp
 rw[hNi] at b3;have HRN:=qH (xp (s:=sb) (kind:=kind) (xs:=xs) hN);have HLA:=qH (fun pos zs=>EM (sb:=sb) (zs:=zs) (pos:=pos) hN hW hH P hE);have HRE:=qH (show bp sb W H kind xs=if (dY sb W H kind xs).isSome=true then 0 else 1 by rw[bp,if_pos ⟨hW,hH⟩,if_pos P,if_pos hE]);clear hN;have hws:(lh sb).size=sb.length:=bn sb;have HV:=qH hv;clear hv;have HE:=qH hE;have HOK:=qH hok;have hsW:decide (1<=(W:Int)/\(W:Int)<=64)=true:=hW;have hsH:decide (1<=(H:Int)/\(H:Int)<=64)=true:=hH;have hsK:decide (1<=kind/\kind<=7)=true:=P;have hl32:decide (32768<(sb.length:Int))=false:=sO;clear hok hW hH P;go_enter func169,ntmps169;go_wp2_with fail
 have R0:=heap_alloc_new w (ka #[Z G 0,Z G 0,J none 0 0] 54);have HB0:=qH (aq w (ka #[Z G 0,Z G 0,J none 0 0] 54));have hlt0:w.heap.size<(w.alloc (ka #[Z G 0,Z G 0,J none 0 0] 54)).heap.size:=sS;generalize w.alloc _=w0 at *;refine (aI _ _ _ _).mono ?_;rintro e l ⟨rfl,rfl⟩;rw[hsW];go_wp2_with fail
 refine (aI _ _ _ _).mono ?_;rintro e l ⟨rfl,rfl⟩;rw[hsH];go_wp2_with fail
 refine (aI _ _ _ _).mono ?_;rintro e l ⟨rfl,rfl⟩;rw[hsK];have HV0:=qH (HV.1.below HB0.1 (kc _));go_wp2_with fail
 refine (mJ _ _ _ HV0.1).mono ?_;rintro e l ⟨rfl,rfl⟩;rw[HE.1];go_wp2_with fail
 refine (tk _ _ _ HV0.1 HE.1).mono ?_;rintro e w4 ⟨r,rfl,hr,hb4⟩;have HRT:=qH hr;obtain ⟨ro,rc,rfl,hrl0,hrc⟩:=hr;obtain ⟨rb,rof,hro,hrl,hrcell⟩:∃b off,ro=some ⟨b,off,none⟩/\b<w4.heap.size/\∀j (h:j<(aJ xs).length),w4.cell? ⟨b,off+j,none⟩=some (.string (lh (aJ xs)[j])):=by
  rcases hrc with h|h
  ·have h2:=eY xs;rw[h] at h2;simp at h2;omega
  ·exact h
 subst hro;have HRC:=qH hrcell;clear hrcell hrc hrl0;go_wp2_with fail
 refine (xy (lh sb) oM _).mono ?_;rintro e y ⟨rfl,hb5⟩;rw[bP];have hbl:(aF sb).length<=262144:=by rw[ig];omega
 have hbm:bz (aF sb)=true:=kp _;have h05:w.heap.size<y.heap.size:=by have:=hb4.size;have:=hb5.size;omega
 have HB5:=qH (aG hb4 hb5);have HR5:=qH (show y.heap[w.heap.size]?=some (.cells #[Z G 0,Z G 0,J none 0 0] 54 (0,0)) by rw[HB5.1.block _ hlt0];exact R0);have HT5:=qH (HRT.1.below hb5 (kc _));have HRC5:=qH (show ∀j (h:j<(aJ xs).length),y.cell? ⟨rb,rof+j,none⟩=some (.string (lh (aJ xs)[j])) from fun j h=>(hb5.cell (p:=⟨rb,rof+j,none⟩) hrl).trans (HRC.1 j h));have hrl5:rb<y.heap.size:=km hrl hb5.size;have HVC5:=qH (HV0.1.below HB5.1 (kc _));have HF:=qH (Dk xs HE.1);have HDR:=qH (show ∀p d n,dN (eb xs) ((aF sb).drop p)=some (d,n)->-32768<d/\d<=32768 from fun p d n h=>by
  have:=rZ (aJ xs) (by rw[eY];exact hl2) _ (iH (kp sb) p) (pV xs HE.1 _) d n h;exact ⟨this.2.2.1,this.2.2.2.1⟩)
 have HWL:=qH (eY xs);have H15:=qH (qF xs HOK.1);clear hb4 hb5 R0 HRT HRC hrl HV0 HV;generalize hbf:eb xs=f at *;have HBF:=qH hbf;clear hbf;generalize hbb:aF sb=b at *;have HBB:=qH hbb;clear hbb;generalize hts:aJ xs=ts at *;have HTS:=qH hts;clear hts;obtain ⟨g,hw6⟩:∃g,g=y:=⟨_,rfl⟩;have h56:y.heap.size<=g.heap.size:=by rw[hw6];exact kc _
 have hb6:Below y.heap.size y g:=by rw[hw6];exact kh _ _
 go_wp2_with (at_make;refine wpList_make_full _ rfl _ _ 52 rfl y.heap.size 3 i0 (Z G 0) 1 underlying52 hi hz0 hz1 .i64 .i64 _ _ N rfl rfl rfl rfl (by rw[hz2];omega) uO (kc _) ?_;intro w7 hown U)
 rw[<-hw6] at hown U |-;have h67:g.heap.size<w7.heap.size:=(hown.lt g.heap.size rfl).2;have HI:=au (show Below y.heap.size y (w7.alloc (ka #[Z G W,Z G H,J (some ⟨g.heap.size,0,none⟩) N N] 54)) from (hb6.grown U hb6.size sS).alloc oM _);have HP0:=au (heap_alloc_new w7 (ka #[Z G W,Z G H,J (some ⟨g.heap.size,0,none⟩) N N] 54));have hown2:=hown.alloc (ka #[Z G W,Z G H,J (some ⟨g.heap.size,0,none⟩) N N] 54);rw[<-yI] at hown2;have hPs:w7.heap.size<(w7.alloc (ka #[Z G W,Z G H,J (some ⟨g.heap.size,0,none⟩) N N] 54)).heap.size:=sS;generalize w7.alloc _=W8 at *;clear hown U hw6;generalize w7.heap.size=PB at *;go_loopw [14,16] (fun bs i wr=>∃(k pos:Nat) (zs:List Int),k<=N/\i=Z G k/\zs.length=k/\bs=.string (lh (b.drop pos))/\Hid (dE f b W kind k=some (pos,zs))/\wr.ownsRow g.heap.size 3 1 (J (some ⟨g.heap.size,0,none⟩) N N) N (fs zs N)/\Hid (wr.heap[PB]?=some (.cells #[Z G W,Z G H,J (some ⟨g.heap.size,0,none⟩) N N] 54 (0,0)))/\Hid (Below y.heap.size y wr)/\PB<wr.heap.size)
  (fun _ i _=>N-(intOf i).toNat)
 case atStart=>exact ⟨0,0,[],kw _,rfl,rfl,rfl,rfl,hown2,HP0,HI,hPs⟩
 case round =>
  obtain ⟨k,pos,zs,P,rfl,z,rfl,HRK,I,HPB,C,A⟩:=hrel;clear hown2 HI HP0 hPs;have hsz:=C.out.size;have HWR:=qH (HB0.1.trans ((HB5.1.trans (C.out.mono HB5.1.size)).mono HB0.1.size));have hRr:wr.heap[w.heap.size]?=some (.cells #[Z G 0,Z G 0,J none 0 0] 54 (0,0)):=by rw[C.out.block _ h05];exact HR5.1
  have q0:wr.cell? ⟨w.heap.size,0,none⟩=some (Z G 0):=kb hRr _;have q1:wr.cell? ⟨w.heap.size,1,none⟩=some (Z G 0):=kb hRr _;have q2:wr.cell? ⟨w.heap.size,2,none⟩=some (J none 0 0):=kb hRr _;obtain ⟨f0,f1,f2⟩:=fZ hRr;have p0:wr.cell? ⟨PB,0,none⟩=some (Z G W):=kb HPB.out _;have p1:wr.cell? ⟨PB,1,none⟩=some (Z G H):=kb HPB.out _;have p2:wr.cell? ⟨PB,2,none⟩=some (J (some ⟨g.heap.size,0,none⟩) N N):=kb HPB.out _;by_cases F:k<N
  ·have hd:decide ((k:Int)<(N:Int))=true:=sO;have HRKN:=qH (show dN f (b.drop pos)=none->dE f b W kind N=none from fun h=>xm (k:=k+1) F (by rw[dE,HRK.out];simp only[h]));have HRKS:=qH (show ∀d m,dN f (b.drop pos)=some (d,m)->dE f b W kind (k+1)=some (pos+m,zs++[(bj zs W kind k+d) % 65536]) from fun d m h=>by rw[dE,HRK.out];simp only[h]);have HDRP:=qH (HDR.1 pos);have HTW:=qH (HT5.1.below C.out (kc _));have hrest:(b.drop pos).length<=262144:=(by rw[xe];omega);have HAB:=qH (iH hbm pos);have HDD:=qH (fun m=>show (b.drop pos).drop m=b.drop (pos+m) by rw[List.drop_drop]);obtain ⟨hF1,hF2⟩:=HF.1 (b.drop pos);have HF1:=qH hF1;have HF2:=qH hF2;clear hF1 hF2;obtain ⟨hzs1,hzs2⟩:=nk HRK.out;have HIN9:=qH (show ap wr (J (some ⟨g.heap.size,0,none⟩) N N) (zs++yb (N-zs.length) 0) by
    have hlp:(zs++yb (N-zs.length) 0).length=N:=(by rw[xc,List.length_replicate];omega);have h9:ap wr (J (some ⟨g.heap.size,0,none⟩) N N) (zs++yb (N-zs.length) 0):=by
     refine ap.own (base:=g.heap.size) ?_ (by rw[hlp];omega);rw[hlp,<-yH];exact I
    exact h9)
   have hgp:bj (zs++yb (N-zs.length) 0) W kind k=bj zs W kind k:=pk oM fun j hj=>(by simp[List.getD,List.getElem?_append_left (show j<zs.length from oM)]);have U:=pl zs W kind k hzs2;have hqb:k / W<=4096:=ko (Nat.div_le_self k W) oM;have HGU:=qH (show ∀w',Below wr.heap.size wr w'->Calls prog 188 #[.agg #[Z G W,Z G H,J (some ⟨g.heap.size,0,none⟩) N N],Z G kind,Z G ((k % W:Nat):Int),Z G ((k / W:Nat):Int)] w' fun e w''=>e=.returned (Z G (bj zs W kind k))/\Below wr.heap.size wr w'' from fun w' h=>by
    have hlp:(zs++yb (N-zs.length) 0).length=N:=(by rw[xc,List.length_replicate];omega);refine (uY _ (zs++yb (N-zs.length) 0) W _ _ H kind k w' (HIN9.1.below h (kc _)) oM oM (by rw[hlp];exact F) (by rw[hlp];omega) (wm _ _ hzs2) rfl rfl).mono fun e w'' h2=>⟨?_,h.trans (h2.2.mono h.size)⟩;rw[<-hgp];exact h2.1)
   clear hgp;generalize bj zs W kind k=c at *;have X:PB≠g.heap.size:=oM;have c9:=I.cellAt k oM;rw[yG zs N k z F] at c9;have f9:=I.frozenAt k;have Y:=qH (show ∀w',Below wr.heap.size wr w'->w'.cell? ⟨g.heap.size,k,none⟩=some (Z G 0)/\w'.frozen? ⟨g.heap.size,k,none⟩=false from fun w' h =>
    ⟨(h.cell (p:=⟨g.heap.size,k,none⟩) (by show g.heap.size<_;omega)).trans c9,(World.frozen?_of_block (h.block g.heap.size oM)).trans f9⟩)
   have B:=qH (show ∀w',Below wr.heap.size wr w'->w'.cell? ⟨PB,0,none⟩=some (Z G W)/\w'.cell? ⟨PB,1,none⟩=some (Z G H)/\w'.cell? ⟨PB,2,none⟩=some (J (some ⟨g.heap.size,0,none⟩) N N) from fun w' h =>
    ⟨(h.cell (p:=⟨PB,0,none⟩) A).trans p0,(h.cell (p:=⟨PB,1,none⟩) A).trans p1,(h.cell (p:=⟨PB,2,none⟩) A).trans p2⟩)
   have HS2:=qH (show ∀w' u,Below wr.heap.size wr w'->(w'.setCell ⟨g.heap.size,k,none⟩ u).cell? ⟨PB,0,none⟩=some (Z G W)/\(w'.setCell ⟨g.heap.size,k,none⟩ u).cell? ⟨PB,1,none⟩=some (Z G H)/\(w'.setCell ⟨g.heap.size,k,none⟩ u).cell? ⟨PB,2,none⟩=some (J (some ⟨g.heap.size,0,none⟩) N N) from fun w' u h=>by
    obtain ⟨t0,t1,t2⟩:=B.1 w' h;have hbk:=kv w' ⟨g.heap.size,k,none⟩ u PB X;exact ⟨(ys (a:=⟨PB,0,none⟩) hbk).trans t0,(ys (a:=⟨PB,1,none⟩) hbk).trans t1,(ys (a:=⟨PB,2,none⟩) hbk).trans t2⟩)
   have hk0:(0:Int)<=(k:Int):=oM;have hkN:(k:Int)<(N:Int):=oM;clear c9 f9;generalize hLe:b.drop pos=L at *;clear hLe;(go_wp2_with fail);refine (Bk _ ts L _ HTW.1 (by rw[HWL.1];exact hl1) oM H15.1).mono ?_;rintro e wz ⟨rfl,rfl⟩;by_cases hfe:gh ts L=0
   ·obtain ⟨i,hi16,hil,hfv,hle,g16,g15,gok⟩:=HF2.1 hfe;have G16:=qH g16;have G15:=qH g15;have GOK:=qH gok;rw[hfe,hfv];have c1:=(C.out.cell (p:=⟨rb,rof+i,none⟩) hrl5).trans (HRC5.1 i hil);have hwsz:(lh ts[i]).size=ts[i].length:=bn _;have hrs:(lh L).size=L.length:=bn _;have HX2:=qH (fun m=>show (lh L).extract m L.length=lh (L.drop m) by rw[Lib.extract_eq,bP,List.take_of_length_le (by rw[xe];exact kc _)];rfl);clear g16 g15 gok hfe hfv HF1 HF2;generalize ts[i]=x at *;have hx2:=HX2.1 x.length;by_cases h16:i=16
    ·subst h16;have HNXS:=qH (G16.1 rfl);have hDr:=HDRP.1 32768 x.length HNXS.1;have HDROP:=qH (show Value.string (lh (L.drop x.length))=.string (lh (b.drop (pos+x.length))) by rw[HDD.1]);have HDROP2:=qH (show Value.string ((lh L).extract x.length L.length)=.string (lh (L.drop x.length)) from congrArg _ (HX2.1 x.length));have hw1:¬(W=0):=oM;have hw2:¬((W:Int)=0):=oM;have HREM:=qH (show (k:Int) % (W:Int)=((k % W:Nat):Int) from rfl);have HQUO:=qH (show IntKind.i64.wrap ((k:Int) / (W:Int))=((k / W:Nat):Int) by rw[show (k:Int) / (W:Int)=((k / W:Nat):Int) from rfl];generalize k / W=q at hqb |-;exact kf _ oM);have hgd:IntKind.i64.wrap (c+32768)=c+32768:=kf _ oM;have HDN:=qH (ru (c+32768) oM oM);have hwq:IntKind.i64.wrap (65536*((c+32768) / 65536))=65536*((c+32768) / 65536):=kf _ oM;have hwm:IntKind.i64.wrap (c+32768-65536*((c+32768) / 65536))=(c+32768) % 65536:=(by rw[kf _ oM];omega);have HRK2:=au (HRKS.1 32768 (x.length) HNXS.1);have T:=kh wr.heap.size wr;have O:Below wr.heap.size wr wr.drew:=(kh _ _).drew;generalize hEE:c+32768=E at *;generalize E / 65536=Q at *;generalize E % 65536=M at *;(go_wp2_with fail);go_region_held3 (fun w'=>w'.cell? ⟨PB,0,none⟩=some (Z G W)/\w'.cell? ⟨PB,1,none⟩=some (Z G H)/\w'.cell? ⟨PB,2,none⟩=some (J (some ⟨g.heap.size,0,none⟩) N N))
      (first|(refine B.1 _ ?_;assumption)|go_keep)
      (first|(go_at_call 188;(try rw[HREM.1]);(try rw[HQUO.1]);refine (HGU.1 _ ?_).mono ?_;assumption;rintro e l ⟨rfl,o⟩))
     obtain ⟨cx,fx⟩:=Y.1 _ o;obtain ⟨y0,y1,y2⟩:=B.1 _ o;have HT2:=qH (show ∀w' u,Below l.heap.size l w'->(w'.setCell ⟨g.heap.size,k,none⟩ u).cell? ⟨PB,2,none⟩=some (J (some ⟨g.heap.size,0,none⟩) N N) from fun w' u h=>(HS2.1 w' u (o.trans (h.mono o.size))).2.2);have HT1:=qH (show ∀w',Below l.heap.size l w'->w'.cell? ⟨PB,2,none⟩=some (J (some ⟨g.heap.size,0,none⟩) N N) from fun w' h=>(B.1 w' (o.trans (h.mono o.size))).2.2);have HCX2:=qH (show ∀w',Below l.heap.size l w'->w'.cell? ⟨g.heap.size,k,none⟩=some (Z G 0)/\w'.frozen? ⟨g.heap.size,k,none⟩=false from fun w' h=>Y.1 w' (o.trans (h.mono o.size)));clear T O;have T:=kh l.heap.size l;have O:Below l.heap.size l l.drew:=(kh _ _).drew;have fxd:l.drew.frozen? ⟨g.heap.size,k,none⟩=false:=fx;have cxd:l.drew.cell? ⟨g.heap.size,k,none⟩=some (Z G 0):=cx;(go_wp2_with fail);go_region_held3 (fun w'=>w'.cell? ⟨PB,2,none⟩=some (J (some ⟨g.heap.size,0,none⟩) N N))
      (first|(refine HT1.1 _ ?_;assumption)|(refine HT2.1 _ _ ?_;assumption)|go_keep)
      (first|(go_at_call 143;refine (HDN.1 _).mono ?_;rintro e wy ⟨rfl,rfl⟩))
     have R:=((cT I o).stored k (Z G M)).1;rw[qI zs N k _ z F] at R;have hox:(l.setCell ⟨g.heap.size,k,none⟩ (Z G M)).drew.ownsRow g.heap.size 3 1 (J (some ⟨g.heap.size,0,none⟩) N N) N (fs (zs++[M]) N):=R;have HPX:=au (show (l.setCell ⟨g.heap.size,k,none⟩ (Z G M)).drew.heap[PB]?=some (.cells #[Z G W,Z G H,J (some ⟨g.heap.size,0,none⟩) N N] 54 (0,0)) by
      show (l.setCell ⟨g.heap.size,k,none⟩ (Z G M)).heap[PB]?=_;rw[kv _ _ _ _ X,o.block PB A];exact HPB.out)
     have HBX:=au (show Below y.heap.size y (l.setCell ⟨g.heap.size,k,none⟩ (Z G M)).drew from ((C.out.trans (o.mono C.out.size)).setCell (p:=⟨g.heap.size,k,none⟩) h56 _).drew);have hszx:PB<(l.setCell ⟨g.heap.size,k,none⟩ (Z G M)).drew.heap.size:=by
      have hs:=o.size;show PB<(l.setCell ⟨g.heap.size,k,none⟩ (Z G M)).heap.size;simp only[World.setCell,Array.size_modify];exact km A hs
     have hzl2:(zs++[M]).length=k+1:=(by simp[z]);clear R;generalize (l.setCell _ _).drew=WX at *;clear T O cx fx o B HS2 Y HGU HT1 HT2 HCX2 cxd fxd y0 y1 y2 I;go_wp2;go_roundw
     case rel=>exact ⟨k+1,pos+(x.length),zs++[M],oM,gN,hzl2,by first|exact HDROP.1|exact HDROP2.1.trans HDROP.1,HRK2,hox,HPX,HBX,hszx⟩
     case measure=>simp[intOf];omega
    ·have hi15:i<=15:=oM;have hib:((i:Int) == 16)=false:=sO;have HD1:=qH (HDD.1 (x.length+i));have hL1:(L.drop x.length).length=L.length-x.length:=xe;have HAB1:=qH (iH HAB.1 x.length);have HD2:=qH (show (L.drop x.length).drop i=L.drop (x.length+i) from List.drop_drop);have G15:=qH (G15.1 hi15);have GOK:=qH (GOK.1 hi15);clear G16 h16;generalize L.drop x.length=t at *;have hrs1:(lh t).size=t.length:=bn _;by_cases hsh:t.length<i
     ·have HNX:=qH (G15.1 oM);have K:=qH (show bp sb W H kind xs=1 by rw[HRE.1,HRN.1 (HRKN.1 HNX.1)];rfl);have hd2:decide ((t.length:Int)<(i:Int))=true:=sO;clear hL1;go_wp2;refine bodyPost_ret (v:=.tuple #[.agg #[Z G 0,Z G 0,J none 0 0],Z G 1]) (by simp[results,results169,go_sem,q0,q1,q2]) rfl ⟨J none 0 0,?_,?_,?_,ar.nil _⟩
      ·rw[dQ,dP,K.1];rfl
      ·rw[cD,K.1];exact ap.nil _
      ·exact ((HWR.1.setCell (p:=⟨w.heap.size,0,none⟩) (kc _) _).setCell (p:=⟨w.heap.size,1,none⟩) (kc _) _).setCell (p:=⟨w.heap.size,2,none⟩) (kc _) _
     ·have hd2:decide ((t.length:Int)<(i:Int))=false:=sO;have HNXG:=qH (GOK.1 oM);have hx3:(lh t).extract 0 i=lh (t.take i):=(by rw[Lib.extract_eq,bP,List.drop_zero,Nat.sub_zero];rfl);have hx4:(lh t).extract i t.length=lh (t.drop i):=(by rw[Lib.extract_eq,bP,List.take_of_length_le (by rw[xe];exact kc _)];rfl);have hlt1:(t.take i).length=i:=(by rw[List.length_take];omega);have HABT:=qH (jO HAB1.1 i);have hv:=nC _ HABT.1;rw[hlt1] at hv;have HTV:=qH (show fU i (bS (t.take i))=if bS (t.take i)<2 ^ i / 2 then ((bS (t.take i):Nat):Int)-((2 ^ i:Nat)-1) else ((bS (t.take i):Nat):Int) by rw[fU,fL]);have HVAL:=qH (fun w=>xv (lh (t.take i)) w (by rw[bn];omega) HABT.1);rw[bP] at HVAL;have hp:=ic (n:=i) oM;have hDr:=HDRP.1 _ _ HNXG.1;generalize bS (t.take i)=V at *;generalize hTV:fU i V=TV at *;clear hTV;obtain ⟨pp,hpe⟩:=eX (2 ^ i);rw[hpe] at hp hv HTV;have HPE:=qH hpe;have HDROP:=qH (show Value.string (lh (t.drop i))=.string (lh (b.drop (pos+(x.length+i)))) by rw[HD2.1,HD1.1]);have HDROP2:=qH (show Value.string ((lh t).extract i t.length)=.string (lh (t.drop i)) from congrArg _ hx4);generalize hT1:lh t=T1 at hx2 hrs1 hx3 hx4 HDROP2;clear hT1;have hlL1:t.length<=262144:=oM;have hil2:i<=t.length:=oM;clear hpe hL1 hsh hlt1 HD1 HD2;by_cases hlow:V<pp / 2
      ·have HDE:=qH (HTV.1.trans (if_pos hlow));obtain ⟨D,hDe⟩:=eX ((V:Int)-(pp:Int)+1);have HNXS:=qH (show dN f L=some (D,x.length+i) by rw[HNXG.1,HDE.1,<-hDe];congr 2;omega);have hDr:-32768<D/\D<=32768:=(by have:=HDE.1;omega);clear HTV HNXG HDE;have HAR:=qH (And.intro X (And.intro hqb (And.intro U (And.intro hDr (And.intro hNi (And.intro b3 (And.intro P (And.intro hkN (And.intro hk0 (And.intro z (And.intro hzs1 (And.intro F (And.intro A (And.intro hsz (And.intro h56 (And.intro h67 (And.intro h05 (And.intro hlt0 (And.intro hrl5 (And.intro hlen (And.intro hbl (And.intro b1 (And.intro b1' (And.intro b2 (And.intro b2' (And.intro hl1 (And.intro hl2 (hws))))))))))))))))))))))))))));clear X hqb U hDr hNi b3 P hkN hk0 z hzs1 F A hsz h56 h67 h05 hlt0 hrl5 hlen hbl b1 b1' b2 b2' hl1 hl2 hws hd;(go_wp2_with fail);refine (HVAL.1 _).mono ?_;rintro e wv ⟨rfl,rfl⟩;clear hx2 hx3 hrs hwsz hrest hle hil c1;have hw:Z .i64 (wrap64 ((2:Int) ^ i))=Z .i64 (pp:Int):=(by rw[lO (n:=i) oM,HPE.1]);(go_wp2_with fail);clear hw;obtain ⟨X,hqb,U,hDr,hNi,b3,P,hkN,hk0,z,hzs1,F,A,hsz,h56,h67,h05,hlt0,hrl5,hlen,hbl,b1,b1',b2,b2',hl1,hl2,hws⟩:=HAR.1;clear hp hv hlow hDe;have hw1:¬(W=0):=oM;have hw2:¬((W:Int)=0):=oM;have HREM:=qH (show (k:Int) % (W:Int)=((k % W:Nat):Int) from rfl);have HQUO:=qH (show IntKind.i64.wrap ((k:Int) / (W:Int))=((k / W:Nat):Int) by rw[show (k:Int) / (W:Int)=((k / W:Nat):Int) from rfl];generalize k / W=q at hqb |-;exact kf _ oM);have hgd:IntKind.i64.wrap (c+D)=c+D:=kf _ oM;have HDN:=qH (ru (c+D) oM oM);have hwq:IntKind.i64.wrap (65536*((c+D) / 65536))=65536*((c+D) / 65536):=kf _ oM;have hwm:IntKind.i64.wrap (c+D-65536*((c+D) / 65536))=(c+D) % 65536:=(by rw[kf _ oM];omega);have HRK2:=au (HRKS.1 D (x.length+i) HNXS.1);have T:=kh wr.heap.size wr;have O:Below wr.heap.size wr wr.drew:=(kh _ _).drew;generalize hEE:c+D=E at *;generalize E / 65536=Q at *;generalize E % 65536=M at *;go_region_held3 (fun w'=>w'.cell? ⟨PB,0,none⟩=some (Z G W)/\w'.cell? ⟨PB,1,none⟩=some (Z G H)/\w'.cell? ⟨PB,2,none⟩=some (J (some ⟨g.heap.size,0,none⟩) N N))
        (first|(refine B.1 _ ?_;assumption)|go_keep)
        (first|(go_at_call 188;(try rw[HREM.1]);(try rw[HQUO.1]);refine (HGU.1 _ ?_).mono ?_;assumption;rintro e l ⟨rfl,o⟩))
       obtain ⟨cx,fx⟩:=Y.1 _ o;obtain ⟨y0,y1,y2⟩:=B.1 _ o;have HT2:=qH (show ∀w' u,Below l.heap.size l w'->(w'.setCell ⟨g.heap.size,k,none⟩ u).cell? ⟨PB,2,none⟩=some (J (some ⟨g.heap.size,0,none⟩) N N) from fun w' u h=>(HS2.1 w' u (o.trans (h.mono o.size))).2.2);have HT1:=qH (show ∀w',Below l.heap.size l w'->w'.cell? ⟨PB,2,none⟩=some (J (some ⟨g.heap.size,0,none⟩) N N) from fun w' h=>(B.1 w' (o.trans (h.mono o.size))).2.2);have HCX2:=qH (show ∀w',Below l.heap.size l w'->w'.cell? ⟨g.heap.size,k,none⟩=some (Z G 0)/\w'.frozen? ⟨g.heap.size,k,none⟩=false from fun w' h=>Y.1 w' (o.trans (h.mono o.size)));clear T O;have T:=kh l.heap.size l;have O:Below l.heap.size l l.drew:=(kh _ _).drew;have fxd:l.drew.frozen? ⟨g.heap.size,k,none⟩=false:=fx;have cxd:l.drew.cell? ⟨g.heap.size,k,none⟩=some (Z G 0):=cx;(go_wp2_with fail);go_region_held3 (fun w'=>w'.cell? ⟨PB,2,none⟩=some (J (some ⟨g.heap.size,0,none⟩) N N))
        (first|(refine HT1.1 _ ?_;assumption)|(refine HT2.1 _ _ ?_;assumption)|go_keep)
        (first|(go_at_call 143;refine (HDN.1 _).mono ?_;rintro e wy ⟨rfl,rfl⟩))
       have R:=((cT I o).stored k (Z G M)).1;rw[qI zs N k _ z F] at R;have hox:(l.setCell ⟨g.heap.size,k,none⟩ (Z G M)).drew.ownsRow g.heap.size 3 1 (J (some ⟨g.heap.size,0,none⟩) N N) N (fs (zs++[M]) N):=R;have HPX:=au (show (l.setCell ⟨g.heap.size,k,none⟩ (Z G M)).drew.heap[PB]?=some (.cells #[Z G W,Z G H,J (some ⟨g.heap.size,0,none⟩) N N] 54 (0,0)) by
        show (l.setCell ⟨g.heap.size,k,none⟩ (Z G M)).heap[PB]?=_;rw[kv _ _ _ _ X,o.block PB A];exact HPB.out)
       have HBX:=au (show Below y.heap.size y (l.setCell ⟨g.heap.size,k,none⟩ (Z G M)).drew from ((C.out.trans (o.mono C.out.size)).setCell (p:=⟨g.heap.size,k,none⟩) h56 _).drew);have hszx:PB<(l.setCell ⟨g.heap.size,k,none⟩ (Z G M)).drew.heap.size:=by
        have hs:=o.size;show PB<(l.setCell ⟨g.heap.size,k,none⟩ (Z G M)).heap.size;simp only[World.setCell,Array.size_modify];exact km A hs
       have hzl2:(zs++[M]).length=k+1:=(by simp[z]);clear R;generalize (l.setCell _ _).drew=WX at *;clear T O cx fx o B HS2 Y HGU HT1 HT2 HCX2 cxd fxd y0 y1 y2 I;go_wp2;go_roundw
       case rel=>exact ⟨k+1,pos+(x.length+i),zs++[M],oM,gN,hzl2,by first|exact HDROP.1|exact HDROP2.1.trans HDROP.1,HRK2,hox,HPX,HBX,hszx⟩
       case measure=>simp[intOf];omega
      ·have HDE:=qH (HTV.1.trans (if_neg hlow));have HNXS:=qH (show dN f L=some ((V:Int),x.length+i) by rw[HNXG.1,HDE.1]);have hDr:-32768<(V:Int)/\(V:Int)<=32768:=(by have:=HDE.1;omega);clear HTV HNXG HDE;have HAR:=qH (And.intro X (And.intro hqb (And.intro U (And.intro hDr (And.intro hNi (And.intro b3 (And.intro P (And.intro hkN (And.intro hk0 (And.intro z (And.intro hzs1 (And.intro F (And.intro A (And.intro hsz (And.intro h56 (And.intro h67 (And.intro h05 (And.intro hlt0 (And.intro hrl5 (And.intro hlen (And.intro hbl (And.intro b1 (And.intro b1' (And.intro b2 (And.intro b2' (And.intro hl1 (And.intro hl2 (hws))))))))))))))))))))))))))));clear X hqb U hDr hNi b3 P hkN hk0 z hzs1 F A hsz h56 h67 h05 hlt0 hrl5 hlen hbl b1 b1' b2 b2' hl1 hl2 hws hd;(go_wp2_with fail);refine (HVAL.1 _).mono ?_;rintro e wv ⟨rfl,rfl⟩;clear hx2 hx3 hrs hwsz hrest hle hil c1;have hw:Z .i64 (wrap64 ((2:Int) ^ i))=Z .i64 (pp:Int):=(by rw[lO (n:=i) oM,HPE.1]);(go_wp2_with fail);clear hw;obtain ⟨X,hqb,U,hDr,hNi,b3,P,hkN,hk0,z,hzs1,F,A,hsz,h56,h67,h05,hlt0,hrl5,hlen,hbl,b1,b1',b2,b2',hl1,hl2,hws⟩:=HAR.1;clear hp hv hlow;have hw1:¬(W=0):=oM;have hw2:¬((W:Int)=0):=oM;have HREM:=qH (show (k:Int) % (W:Int)=((k % W:Nat):Int) from rfl);have HQUO:=qH (show IntKind.i64.wrap ((k:Int) / (W:Int))=((k / W:Nat):Int) by rw[show (k:Int) / (W:Int)=((k / W:Nat):Int) from rfl];generalize k / W=q at hqb |-;exact kf _ oM);have hgd:IntKind.i64.wrap (c+(V:Int))=c+(V:Int):=kf _ oM;have HDN:=qH (ru (c+(V:Int)) oM oM);have hwq:IntKind.i64.wrap (65536*((c+(V:Int)) / 65536))=65536*((c+(V:Int)) / 65536):=kf _ oM;have hwm:IntKind.i64.wrap (c+(V:Int)-65536*((c+(V:Int)) / 65536))=(c+(V:Int)) % 65536:=(by rw[kf _ oM];omega);have HRK2:=au (HRKS.1 (V:Int) (x.length+i) HNXS.1);have T:=kh wr.heap.size wr;have O:Below wr.heap.size wr wr.drew:=(kh _ _).drew;generalize hEE:c+(V:Int)=E at *;generalize E / 65536=Q at *;generalize E % 65536=M at *;go_region_held3 (fun w'=>w'.cell? ⟨PB,0,none⟩=some (Z G W)/\w'.cell? ⟨PB,1,none⟩=some (Z G H)/\w'.cell? ⟨PB,2,none⟩=some (J (some ⟨g.heap.size,0,none⟩) N N))
        (first|(refine B.1 _ ?_;assumption)|go_keep)
        (first|(go_at_call 188;(try rw[HREM.1]);(try rw[HQUO.1]);refine (HGU.1 _ ?_).mono ?_;assumption;rintro e l ⟨rfl,o⟩))
       obtain ⟨cx,fx⟩:=Y.1 _ o;obtain ⟨y0,y1,y2⟩:=B.1 _ o;have HT2:=qH (show ∀w' u,Below l.heap.size l w'->(w'.setCell ⟨g.heap.size,k,none⟩ u).cell? ⟨PB,2,none⟩=some (J (some ⟨g.heap.size,0,none⟩) N N) from fun w' u h=>(HS2.1 w' u (o.trans (h.mono o.size))).2.2);have HT1:=qH (show ∀w',Below l.heap.size l w'->w'.cell? ⟨PB,2,none⟩=some (J (some ⟨g.heap.size,0,none⟩) N N) from fun w' h=>(B.1 w' (o.trans (h.mono o.size))).2.2);have HCX2:=qH (show ∀w',Below l.heap.size l w'->w'.cell? ⟨g.heap.size,k,none⟩=some (Z G 0)/\w'.frozen? ⟨g.heap.size,k,none⟩=false from fun w' h=>Y.1 w' (o.trans (h.mono o.size)));clear T O;have T:=kh l.heap.size l;have O:Below l.heap.size l l.drew:=(kh _ _).drew;have fxd:l.drew.frozen? ⟨g.heap.size,k,none⟩=false:=fx;have cxd:l.drew.cell? ⟨g.heap.size,k,none⟩=some (Z G 0):=cx;(go_wp2_with fail);go_region_held3 (fun w'=>w'.cell? ⟨PB,2,none⟩=some (J (some ⟨g.heap.size,0,none⟩) N N))
        (first|(refine HT1.1 _ ?_;assumption)|(refine HT2.1 _ _ ?_;assumption)|go_keep)
        (first|(go_at_call 143;refine (HDN.1 _).mono ?_;rintro e wy ⟨rfl,rfl⟩))
       have R:=((cT I o).stored k (Z G M)).1;rw[qI zs N k _ z F] at R;have hox:(l.setCell ⟨g.heap.size,k,none⟩ (Z G M)).drew.ownsRow g.heap.size 3 1 (J (some ⟨g.heap.size,0,none⟩) N N) N (fs (zs++[M]) N):=R;have HPX:=au (show (l.setCell ⟨g.heap.size,k,none⟩ (Z G M)).drew.heap[PB]?=some (.cells #[Z G W,Z G H,J (some ⟨g.heap.size,0,none⟩) N N] 54 (0,0)) by
        show (l.setCell ⟨g.heap.size,k,none⟩ (Z G M)).heap[PB]?=_;rw[kv _ _ _ _ X,o.block PB A];exact HPB.out)
       have HBX:=au (show Below y.heap.size y (l.setCell ⟨g.heap.size,k,none⟩ (Z G M)).drew from ((C.out.trans (o.mono C.out.size)).setCell (p:=⟨g.heap.size,k,none⟩) h56 _).drew);have hszx:PB<(l.setCell ⟨g.heap.size,k,none⟩ (Z G M)).drew.heap.size:=by
        have hs:=o.size;show PB<(l.setCell ⟨g.heap.size,k,none⟩ (Z G M)).heap.size;simp only[World.setCell,Array.size_modify];exact km A hs
       have hzl2:(zs++[M]).length=k+1:=(by simp[z]);clear R;generalize (l.setCell _ _).drew=WX at *;clear T O cx fx o B HS2 Y HGU HT1 HT2 HCX2 cxd fxd y0 y1 y2 I;go_wp2;go_roundw
       case rel=>exact ⟨k+1,pos+(x.length+i),zs++[M],oM,gN,hzl2,by first|exact HDROP.1|exact HDROP2.1.trans HDROP.1,HRK2,hox,HPX,HBX,hszx⟩
       case measure=>simp[intOf];omega
   ·have HNX:=qH (HF1.1 hfe);have K:=qH (show bp sb W H kind xs=1 by rw[HRE.1,HRN.1 (HRKN.1 HNX.1)];rfl);have hne:(gh ts L != 0)=true:=(by simpa using hfe);clear hfe HF1 HF2;go_wp2;refine bodyPost_ret (v:=.tuple #[.agg #[Z G 0,Z G 0,J none 0 0],Z G 1]) (by simp[results,results169,go_sem,q0,q1,q2]) rfl ⟨J none 0 0,?_,?_,?_,ar.nil _⟩
    ·rw[dQ,dP,K.1];rfl
    ·rw[cD,K.1];exact ap.nil _
    ·exact ((HWR.1.setCell (p:=⟨w.heap.size,0,none⟩) (kc _) _).setCell (p:=⟨w.heap.size,1,none⟩) (kc _) _).setCell (p:=⟨w.heap.size,2,none⟩) (kc _) _
  ·obtain rfl:k=N:=oM;have hd:decide ((k:Int)<(k:Int))=false:=sS;obtain ⟨hpk,hwe,hS1,hS2⟩:=HLA.1 pos zs HRK.out;have HIN:=qH (show ap wr (J (some ⟨g.heap.size,0,none⟩) k k) zs by
    have h:=I;rw[<-z,tw] at h;rw[<-z];exact ap.own h oM)
   have hR6:w.heap.size<g.heap.size:=oM;have hRP:w.heap.size≠PB:=oM;have HW9:=qH (fun w' (h:Below wr.heap.size wr w')=>HWR.1.trans (h.mono HWR.1.size));have hRw:w.heap.size<wr.heap.size:=oM;(go_wp2_with fail);refine (Ht _ _ _ _ zs _ xs _ HIN.1 (HVC5.1.below C.out (kc _))).mono ?_;rintro e w9 ⟨rfl,hb9⟩;rw[hwe];have HWR:=qH (HW9.1 w9 hb9);have ho9:=cT I hb9;have hR9:w9.heap[w.heap.size]?=some (.cells #[Z G 0,Z G 0,J none 0 0] 54 (0,0)):=(by rw[hb9.block _ hRw];exact hRr);have hP9:w9.heap[PB]?=some (.cells #[Z G W,Z G H,J (some ⟨g.heap.size,0,none⟩) k k] 54 (0,0)):=(by rw[hb9.block _ A];exact HPB.out);clear q0 q1 q2 f0 f1 f2 p0 p1 p2 hRr;have q0:w9.cell? ⟨w.heap.size,0,none⟩=some (Z G 0):=kb hR9 _;have q1:w9.cell? ⟨w.heap.size,1,none⟩=some (Z G 0):=kb hR9 _;have q2:w9.cell? ⟨w.heap.size,2,none⟩=some (J none 0 0):=kb hR9 _;obtain ⟨f0,f1,f2⟩:=fZ hR9;have p0:w9.cell? ⟨PB,0,none⟩=some (Z G W):=kb hP9 _;have p1:w9.cell? ⟨PB,1,none⟩=some (Z G H):=kb hP9 _;have p2:w9.cell? ⟨PB,2,none⟩=some (J (some ⟨g.heap.size,0,none⟩) k k):=kb hP9 _;have HS1:=qH hS1;have HS2:=qH hS2;clear hS1 hS2 I;generalize ch W H zs kind xs=S at *;by_cases hS:S=sb
   ·have HNS:=qH (HS1.1 hS);have K:=qH (show bp sb W H kind xs=0 by rw[HRE.1,HNS.1];rfl);have HOW:=qH (((ownsRow_setCell_below (ownsRow_setCell_below (ownsRow_setCell_below ho9 (a:=⟨w.heap.size,0,none⟩) hR6 (Z G W)) (a:=⟨w.heap.size,1,none⟩) hR6 (Z G H)) (a:=⟨w.heap.size,2,none⟩) hR6 (J (some ⟨g.heap.size,0,none⟩) k k))));clear ho9;subst hS;go_wp2;refine bodyPost_ret (v:=.tuple #[.agg #[Z G W,Z G H,J (some ⟨g.heap.size,0,none⟩) k k],Z G 0]) (by simp[results,results169,go_sem,q0,q1,q2]) rfl ⟨J (some ⟨g.heap.size,0,none⟩) k k,?_,?_,?_,⟨fun b e=>by simp[Value.ownBlock] at e;omega,kc _⟩⟩
    ·rw[dQ,dP,K.1];rfl
    ·rw[cD,K.1,if_pos rfl,HNS.1];have h:=HOW.1;rw[<-z,tw] at h;rw[<-z];show ap _ _ zs;exact ap.own h oM
    ·exact ((HWR.1.setCell (p:=⟨w.heap.size,0,none⟩) (kc _) _).setCell (p:=⟨w.heap.size,1,none⟩) (kc _) _).setCell (p:=⟨w.heap.size,2,none⟩) (kc _) _
   ·have HNS:=qH (HS2.1 hS);have K:=qH (show bp sb W H kind xs=1 by rw[HRE.1,HNS.1];rfl);have hcmp:((lh S).toList == (lh sb).toList)=false:=(by rw[Lib.toList_data,Lib.toList_data,bP,bP];simpa using hS);clear ho9 hS;go_wp2;refine bodyPost_ret (v:=.tuple #[.agg #[Z G 0,Z G 0,J none 0 0],Z G 1]) (by simp[results,results169,go_sem,q0,q1,q2]) rfl ⟨J none 0 0,?_,?_,?_,ar.nil _⟩
    ·rw[dQ,dP,K.1];rfl
    ·rw[cD,K.1];exact ap.nil _
    ·exact ((HWR.1.setCell (p:=⟨w.heap.size,0,none⟩) (kc _) _).setCell (p:=⟨w.heap.size,1,none⟩) (kc _) _).setCell (p:=⟨w.heap.size,2,none⟩) (kc _) _
theorem EI (sb:List UInt8) (W H kind:Int) (v:Value) (xs:List Int) (w:World) (n:ap w v xs) :
  Calls prog 169 #[.string (lh sb),Z G W,Z G H,Z G kind,v] w fun e w'=>∃r,e=.returned (.tuple #[.agg #[Z G (dQ sb W H kind xs),Z G (dP sb W H kind xs),r],Z G (bp sb W H kind xs)])/\ap w' r (cD sb W H kind xs)/\Below w.heap.size w w'/\ar w.heap.size r:=by
 have S:(lh sb).size=sb.length:=bn sb;by_cases m:aM W=true
 ·have q:decide (1<=W/\W<=64)=true:=m;by_cases l:aM H=true
  ·have u:decide (1<=H/\H<=64)=true:=l;by_cases o:eC kind=true
   ·have C:decide (1<=kind/\kind<=7)=true:=o;by_cases k:aU xs=0
    ·have N:1<=W/\W<=64:=(by simpa [aM] using m);have O:1<=H/\H<=64:=(by simpa [aM] using l);obtain ⟨s,rfl⟩:=kd (show 0<=W from oM);obtain ⟨HN,rfl⟩:=kd (show 0<=H from oM);by_cases I:sb.length<=32768
     ·exact EK sb s HN kind v xs w n m l o k I
     ·have c:=qH (show bp sb s HN kind xs=1 by
       have P:s*HN<=4096:=ko (Nat.mul_le_mul (show s<=64 from oM) (show HN<=64 from oM)) dD;have L:dY sb s HN kind xs=none:=(by rw[dY,kG,kG];exact if_neg oM);rw[bp,if_pos ⟨m,l⟩,if_pos o,if_pos k,L];rfl)
      have Q:decide (32768<(sb.length:Int))=true:=sO;have x:=qH n;have E:=qH k;clear I n k;go_enter func169,ntmps169;(go_wp2_with fail);have a:=heap_alloc_new w (ka #[Z G 0,Z G 0,J none 0 0] 54);have d:=qH (aq w (ka #[Z G 0,Z G 0,J none 0 0] 54));have t:w.heap.size<(w.alloc (ka #[Z G 0,Z G 0,J none 0 0] 54)).heap.size:=sS;generalize w.alloc _=b at *;refine (aI _ _ _ _).mono ?_;rintro e f ⟨rfl,rfl⟩;rw[q];(go_wp2_with fail);refine (aI _ _ _ _).mono ?_;rintro e f ⟨rfl,rfl⟩;rw[u];(go_wp2_with fail);refine (aI _ _ _ _).mono ?_;rintro e f ⟨rfl,rfl⟩;rw[C];(go_wp2_with fail);refine (mJ _ _ _ (x.1.below d.1 (kc _))).mono ?_;rintro e f ⟨rfl,rfl⟩;rw[E.1];(go_wp2_with fail);refine (tk _ _ _ (x.1.below d.1 (kc _)) E.1).mono ?_;rintro e w1 ⟨r,rfl,M,F⟩;clear M;have B:w1.heap[w.heap.size]?=some (.cells #[Z G 0,Z G 0,J none 0 0] 54 (0,0)):=(by rw[F.block _ t];exact a);have K:=qH (aG d.1 F);clear a d;have g:w1.cell? ⟨w.heap.size,0,none⟩=some (Z G 0):=kb B _;have i:w1.cell? ⟨w.heap.size,1,none⟩=some (Z G 0):=kb B _;have j:w1.cell? ⟨w.heap.size,2,none⟩=some (J none 0 0):=kb B _;obtain ⟨y,z,A⟩:=fZ B;go_wp2;refine bodyPost_ret (v:=.tuple #[.agg #[Z G 0,Z G 0,J none 0 0],Z G 1]) (by simp[results,results169,go_sem,g,i,j]) rfl ⟨J none 0 0,?_,?_,?_,ar.nil _⟩
      ·rw[dQ,dP,c.1];simp
      ·rw[cD,c.1];exact ap.nil _
      ·exact ((K.1.setCell (p:=⟨w.heap.size,0,none⟩) (kc _) _).setCell (p:=⟨w.heap.size,1,none⟩) (kc _) _).setCell (p:=⟨w.heap.size,2,none⟩) (kc _) _
    ·have c:=qH (show bp sb W H kind xs=aU xs by rw[bp,if_pos ⟨m,l⟩,if_pos o,if_neg k]);have R:(aU xs != 0)=true:=(by simpa using k);have D:=qH k;have x:=qH n;clear k n;go_enter func169,ntmps169;(go_wp2_with fail);have a:=heap_alloc_new w (ka #[Z G 0,Z G 0,J none 0 0] 54);have d:=qH (aq w (ka #[Z G 0,Z G 0,J none 0 0] 54));have t:w.heap.size<(w.alloc (ka #[Z G 0,Z G 0,J none 0 0] 54)).heap.size:=sS;generalize w.alloc _=b at *;refine (aI _ _ _ _).mono ?_;rintro e f ⟨rfl,rfl⟩;rw[q];(go_wp2_with fail);refine (aI _ _ _ _).mono ?_;rintro e f ⟨rfl,rfl⟩;rw[u];(go_wp2_with fail);refine (aI _ _ _ _).mono ?_;rintro e f ⟨rfl,rfl⟩;rw[C];have g:b.cell? ⟨w.heap.size,0,none⟩=some (Z G 0):=kb a _;have i:b.cell? ⟨w.heap.size,1,none⟩=some (Z G 0):=kb a _;have j:b.cell? ⟨w.heap.size,2,none⟩=some (J none 0 0):=kb a _;obtain ⟨y,z,A⟩:=fZ a;(go_wp2_with fail);refine (mJ _ _ _ (x.1.below d.1 (kc _))).mono ?_;rintro e f ⟨rfl,rfl⟩;go_wp2;refine bodyPost_ret (v:=.tuple #[.agg #[Z G 0,Z G 0,J none 0 0],Z G (aU xs)]) (by simp[results,results169,go_sem,g,i,j]) rfl ⟨J none 0 0,?_,?_,?_,ar.nil _⟩
     ·rw[dQ,dP,c.1,if_neg D.1,if_neg D.1]
     ·rw[cD,c.1,if_neg D.1];exact ap.nil _
     ·exact ((d.1.setCell (p:=⟨w.heap.size,0,none⟩) (kc _) _).setCell (p:=⟨w.heap.size,1,none⟩) (kc _) _).setCell (p:=⟨w.heap.size,2,none⟩) (kc _) _
   ·have c:=qH (show bp sb W H kind xs=6 by rw[bp,if_pos ⟨m,l⟩,if_neg o]);have C:decide (1<=kind/\kind<=7)=false:=(by simpa [eC] using o);clear n;go_enter func169,ntmps169;(go_wp2_with fail);have a:=heap_alloc_new w (ka #[Z G 0,Z G 0,J none 0 0] 54);have d:=qH (aq w (ka #[Z G 0,Z G 0,J none 0 0] 54));have t:w.heap.size<(w.alloc (ka #[Z G 0,Z G 0,J none 0 0] 54)).heap.size:=sS;generalize w.alloc _=b at *;refine (aI _ _ _ _).mono ?_;rintro e f ⟨rfl,rfl⟩;rw[q];(go_wp2_with fail);refine (aI _ _ _ _).mono ?_;rintro e f ⟨rfl,rfl⟩;rw[u];(go_wp2_with fail);refine (aI _ _ _ _).mono ?_;rintro e f ⟨rfl,rfl⟩;rw[C];have g:b.cell? ⟨w.heap.size,0,none⟩=some (Z G 0):=kb a _;have i:b.cell? ⟨w.heap.size,1,none⟩=some (Z G 0):=kb a _;have j:b.cell? ⟨w.heap.size,2,none⟩=some (J none 0 0):=kb a _;obtain ⟨y,z,A⟩:=fZ a;go_wp2;refine bodyPost_ret (v:=.tuple #[.agg #[Z G 0,Z G 0,J none 0 0],Z G 6]) (by simp[results,results169,go_sem,g,i,j]) rfl ⟨J none 0 0,?_,?_,?_,ar.nil _⟩
    ·rw[dQ,dP,c.1];simp
    ·rw[cD,c.1];exact ap.nil _
    ·exact ((d.1.setCell (p:=⟨w.heap.size,0,none⟩) (kc _) _).setCell (p:=⟨w.heap.size,1,none⟩) (kc _) _).setCell (p:=⟨w.heap.size,2,none⟩) (kc _) _
  ·have c:=qH (show bp sb W H kind xs=3 by rw[bp,if_neg (fun h=>l h.2)]);have u:decide (1<=H/\H<=64)=false:=(by simpa [aM] using l);clear n;go_enter func169,ntmps169;(go_wp2_with fail);have a:=heap_alloc_new w (ka #[Z G 0,Z G 0,J none 0 0] 54);have d:=qH (aq w (ka #[Z G 0,Z G 0,J none 0 0] 54));have t:w.heap.size<(w.alloc (ka #[Z G 0,Z G 0,J none 0 0] 54)).heap.size:=sS;generalize w.alloc _=b at *;refine (aI _ _ _ _).mono ?_;rintro e f ⟨rfl,rfl⟩;rw[q];(go_wp2_with fail);refine (aI _ _ _ _).mono ?_;rintro e f ⟨rfl,rfl⟩;rw[u];have g:b.cell? ⟨w.heap.size,0,none⟩=some (Z G 0):=kb a _;have i:b.cell? ⟨w.heap.size,1,none⟩=some (Z G 0):=kb a _;have j:b.cell? ⟨w.heap.size,2,none⟩=some (J none 0 0):=kb a _;obtain ⟨y,z,A⟩:=fZ a;go_wp2;refine bodyPost_ret (v:=.tuple #[.agg #[Z G 0,Z G 0,J none 0 0],Z G 3]) (by simp[results,results169,go_sem,g,i,j]) rfl ⟨J none 0 0,?_,?_,?_,ar.nil _⟩
   ·rw[dQ,dP,c.1];simp
   ·rw[cD,c.1];exact ap.nil _
   ·exact ((d.1.setCell (p:=⟨w.heap.size,0,none⟩) (kc _) _).setCell (p:=⟨w.heap.size,1,none⟩) (kc _) _).setCell (p:=⟨w.heap.size,2,none⟩) (kc _) _
 ·have c:=qH (show bp sb W H kind xs=3 by rw[bp,if_neg (fun h=>m h.1)]);have q:decide (1<=W/\W<=64)=false:=by simpa [aM] using m
  clear n;go_enter func169,ntmps169;go_wp2_with fail
  have a:=heap_alloc_new w (ka #[Z G 0,Z G 0,J none 0 0] 54);have d:=qH (aq w (ka #[Z G 0,Z G 0,J none 0 0] 54));have t:w.heap.size<(w.alloc (ka #[Z G 0,Z G 0,J none 0 0] 54)).heap.size:=sS;generalize w.alloc _=b at *;refine (aI _ _ _ _).mono ?_;rintro e f ⟨rfl,rfl⟩;rw[q];have g:b.cell? ⟨w.heap.size,0,none⟩=some (Z G 0):=kb a _;have i:b.cell? ⟨w.heap.size,1,none⟩=some (Z G 0):=kb a _;have j:b.cell? ⟨w.heap.size,2,none⟩=some (J none 0 0):=kb a _;obtain ⟨y,z,A⟩:=fZ a;go_wp2;refine bodyPost_ret (v:=.tuple #[.agg #[Z G 0,Z G 0,J none 0 0],Z G 3]) (by simp[results,results169,go_sem,g,i,j]) rfl ⟨J none 0 0,?_,?_,?_,ar.nil _⟩
  ·rw[dQ,dP,c.1];simp
  ·rw[cD,c.1];exact ap.nil _
  ·exact ((d.1.setCell (p:=⟨w.heap.size,0,none⟩) (kc _) _).setCell (p:=⟨w.heap.size,1,none⟩) (kc _) _).setCell (p:=⟨w.heap.size,2,none⟩) (kc _) _
end Go.Proofs.YtfjeonehdlphiaaGreatDoor
