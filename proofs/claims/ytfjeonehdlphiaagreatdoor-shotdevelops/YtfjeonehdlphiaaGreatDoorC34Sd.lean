/- Part 34. -/
import Derived.Test.YtfjeonehdlphiaaGreatDoorC32Sd
import Derived.Deep.RegionHeld3
open Go.Obj renaming cells → ka
open Go.Lib renaming cell_of_heap → kb
open Nat renaming le_refl → kc, lt_of_lt_of_le → kf, le_trans → kh, zero_le → ko
open Int renaming eq_ofNat_of_zero_le → kd, toNat_natCast → kv
open Go.RowKit.Below renaming heap_setCell → km
open List renaming length_append → kw, length_map → kG, length_drop → xa, replicate → xc
open Go.World renaming cell?_of_block → xe
open Go.Value renaming int → Z, slice → J
open Go.IntKind renaming i64 → G
set_option linter.unusedVariables false
set_option maxHeartbeats 1600000
set_option maxRecDepth 100000
namespace Go.Proofs.YtfjeonehdlphiaaGreatDoor
open Go.RowKit
open _root_.Go.Proofs.Tryz
theorem Hc (xs:List Int) (n:Int):bz (dd (aJ xs) n)=true:=by
 unfold dd;split
 ·by_cases h:n.toNat<(aJ xs).length
  ·rw[show (aJ xs).getD n.toNat []=(aJ xs)[n.toNat] by simp[List.getD,h]];rw[yw xs n.toNat (by rw[eY] at h;exact h),d8];split
   ·exact pU _ _
   ·rfl
  ·rw[show (aJ xs).getD n.toNat []=[] by simp[List.getD,h]];rfl
 ·rfl
theorem uv (xs zs:List Int) (W:Nat) (kind:Int) (n:Nat):bz (cC (aJ xs) zs W kind n)=true:=by
 induction n with
 | zero=>rfl
 | succ n ih=>rw[ld,mH,ih,eO,mH,Hc,Gt];rfl
theorem zu (l:List UInt8) (a:bz l=true) (b:l.length<=1000000000000) (w:World) :
  Calls prog 174 #[.string (lh l)] w (rT w (.tuple #[.string (lh (dg l)),Z G 0])) :=
 zw (lh l) (by rw[bn];omega) a w
theorem Hs (W H:Nat) (vp v:Value) (zs:List Int) (kind:Int) (xs:List Int) (w:World) (hvp:ap w vp zs) (hv:ap w v xs) (hp:a7 W H zs=true) (hk:eC kind=true) (hE:aU xs=0) :
  Calls prog 125 #[.agg #[Z G W,Z G H,vp],Z G kind,v] w (rT w (.tuple #[.string (lh (ch W H zs kind xs)),Z G (cM W H zs kind xs)])):=by
 obtain ⟨hl1,hl2,hok,_,_⟩:=fW hE;obtain ⟨⟨b1,b2⟩,⟨b3,b4⟩,b5,b6⟩:=eT hp;have h4096:zs.length<=4096:=by have:=fq ⟨b1,b2⟩ ⟨b3,b4⟩;omega
 have hz1:1<=zs.length:=by have:=fq ⟨b1,b2⟩ ⟨b3,b4⟩;omega
 have HV:=qH hv;clear hv;have ac:=qH hvp;obtain ⟨po,pc,rfl,hpl,hpc⟩:=hvp;obtain ⟨s,B,hpo,hpbl,hpcell⟩:∃b off,po=some ⟨b,off,none⟩/\b<w.heap.size/\∀j (h:j<zs.length),w.cell? ⟨b,off+j,none⟩=some (Z G zs[j]):=by
  rcases hpc with h|h
  ·subst h;simp at hz1
  ·exact h
 subst hpo;have HPC:=qH hpcell;clear hpcell hpc;have Y:=qH hE;have ab:=qH hok;have HZ:=qH b6;have HP:=qH hp;have HK:=qH hk;clear b5 b6 hok;go_enter func125,ntmps125;go_wp2_with fail
 refine (ki _ _ _ zs _ (ac.1.alloc _)).mono ?_;rintro e w1 ⟨rfl,P⟩;rw[hp];have T:=qH (aG (aq w _) P);obtain ⟨u,l,o⟩:=kI P;have N:w.heap.size<w1.heap.size:=by have:=P.size;simp at this;omega
 clear P;go_wp2_with (go_at_call 175;refine (me _ _).mono ?_;rintro e w2 ⟨rfl,rfl⟩;rw[hk])
 refine (qG _ _ _ (HV.1.below T.1 (kc _)) Y.1).mono ?_;rintro e w2 ⟨r,rfl,hr,y⟩;have HR:=qH hr;clear hr;have HB2:=qH (aG T.1 y);have u:=(y.cell (p:=⟨w.heap.size,0,none⟩) N).trans u;have l:=(y.cell (p:=⟨w.heap.size,1,none⟩) N).trans l;have o:=(y.cell (p:=⟨w.heap.size,2,none⟩) N).trans o;have O:w.heap.size<w2.heap.size:=kf N y.size;clear y T N;go_wp2_with fail
 refine (vF _ _ _ HR.1 (by rw[eY];exact hl1) (by rw[eY];exact hl2) (qF xs ab.1)).mono ?_;rintro e d ⟨cv,I,n,rfl,hcv,hbm,m⟩;have HCV:=qH hcv;obtain ⟨co,cc,rfl,_,_⟩:=hcv;have HB3:=qH (aG HB2.1 m);have u:=(m.cell (p:=⟨w.heap.size,0,none⟩) O).trans u;have l:=(m.cell (p:=⟨w.heap.size,1,none⟩) O).trans l;have o:=(m.cell (p:=⟨w.heap.size,2,none⟩) O).trans o;have R:w.heap.size<d.heap.size:=kf O m.size;clear hbm m HB2 O;obtain ⟨V,K⟩:∃V,V=d.alloc (.cells #[J co (aJ xs).length cc,.map (some I)] 219):=⟨_,rfl⟩;have hVs:V.heap.size=d.heap.size+1:=by rw[K];simp
 have hVk:V.heap[d.heap.size]?=some (.cells #[J co (aJ xs).length cc,.map (some I)] 219 (0,0)):=by rw[K];exact heap_alloc_new d _
 have x:Below d.heap.size d V:=by rw[K];exact aq _ _
 have F:=qH (aG HB3.1 x);have HVT:=qH (HCV.1.below x (kc _));have HVP2:=qH (ac.1.below F.1 (kc _));have HVC:=qH (show ∀j (h:j<zs.length),V.cell? ⟨s,B+j,none⟩=some (Z G zs[j]) from fun j h=>(F.1.cell (p:=⟨s,B+j,none⟩) hpbl).trans (HPC.1 j h));have HC0:=qH ((x.cell (p:=⟨w.heap.size,0,none⟩) R).trans u);have HC1:=qH ((x.cell (p:=⟨w.heap.size,1,none⟩) R).trans l);have HC2:=qH ((x.cell (p:=⟨w.heap.size,2,none⟩) R).trans o);have HV0:=qH (show V.cell? ⟨d.heap.size,0,none⟩=some (J co (aJ xs).length cc) by rw[kb hVk];rfl);have HV1:=qH (show V.cell? ⟨d.heap.size,1,none⟩=some (.map (some I)) by rw[kb hVk];rfl);have HST:=qH (Lib.fresh_isBuilder 76 5 V);have hltV:w.heap.size<V.heap.size:=oM;have hltB:d.heap.size<V.heap.size:=oM;go_wp2;rw[<-K];have hbp:(⟨d.heap.size+1,0,none⟩:Addr)=⟨V.heap.size,0,none⟩:=by rw[hVs]
 rw[hbp];clear K hVk x hbp u l o hVs HPC HB3 HCV HR ac HV R;generalize hts:aJ xs=ts at *;have t:=qH hts;clear hts;go_loopw [37] (fun i wr=>∃k:Nat,k<=zs.length/\i=Z G k/\Hid (gy ts zs W kind k=true)/\Lib.IsBuilder 76 5 V.heap.size V.heap.size (aP (cC ts zs W kind k)) wr/\Below V.heap.size V wr)
  (fun i _=>zs.length-(intOf i).toNat)
 case atStart=>exact ⟨0,ko _,rfl,rfl,HST.1,aq _ _⟩
 case round =>
  obtain ⟨k,hk,rfl,HA,hbd,f⟩:=hrel;have S:=f.size;have hpl:(cC ts zs W kind k).length<=122880:=by
   have h:=oX xs ab.1 zs W kind k;rw[t.1] at h;omega
  by_cases M:k<zs.length
  ·have HZK:=qH (xD HZ.1 k M);have hz0:=HZK.1.1;have hz1:=HZK.1.2;have l:=(f.cell (p:=⟨s,B+k,none⟩) (by have:=F.1.size;show s<_;omega)).trans (HVC.1 k M);have HZG:=qH (show zs.getD k 0=zs[k] by simp[List.getD,M]);generalize zs[k]=a at *;have hw1:¬(W=0):=oM;have hw2:¬((W:Int)=0):=oM;have hqb:k / W<=4096:=kh (Nat.div_le_self k W) oM;have HREM:=qH (show (k:Int) % (W:Int)=((k % W:Nat):Int) from rfl);have HQUO:=qH (show IntKind.i64.wrap ((k:Int) / (W:Int))=((k / W:Nat):Int) by rw[show (k:Int) / (W:Int)=((k / W:Nat):Int) from rfl];generalize k / W=q at hqb |-;exact IntWalk.i64_in _ oM);have HGU:=qH (show ∀w',Below wr.heap.size wr w'->Calls prog 179 #[.agg #[Z G W,Z G H,J (some ⟨s,B,none⟩) zs.length pc],Z G kind,Z G ((k % W:Nat):Int),Z G ((k / W:Nat):Int)] w' fun e w''=>e=.returned (Z G (bj zs W kind k))/\Below wr.heap.size wr w'' from fun w' h =>
    (uZ _ zs W _ _ H kind k w' (((HVP2.1.below f (kc _)).below h (kc _))) oM oM M h4096 HZ.1 rfl rfl).mono fun e w'' h2=>⟨h2.1,h.trans (h2.2.mono h.size)⟩)
   have hgr:=pl zs W kind k HZ.1;have g:=oY (zs.getD k 0) (bj zs W kind k);have X:=qH (show eS a (bj zs W kind k)=dp zs W kind k by rw[dp,HZG.1]);rw[HZG.1] at g;generalize bj zs W kind k=c at *;have HDI:=qH (Az a c ⟨hz0,hz1⟩ hgr);generalize eS a c=D at *;have e0:=(f.cell (p:=⟨w.heap.size,0,none⟩) hltV).trans HC0.1;have e1:=(f.cell (p:=⟨w.heap.size,1,none⟩) hltV).trans HC1.1;have e2:=(f.cell (p:=⟨w.heap.size,2,none⟩) hltV).trans HC2.1;have HS:=qH (show ∀w',Below wr.heap.size wr w'->w'.cell? ⟨w.heap.size,0,none⟩=some (Z G W)/\w'.cell? ⟨w.heap.size,1,none⟩=some (Z G H)/\w'.cell? ⟨w.heap.size,2,none⟩=some (J (some ⟨s,B,none⟩) zs.length pc)/\Below wr.heap.size wr w' from fun w' h =>
    ⟨(h.cell (p:=⟨w.heap.size,0,none⟩) (by show w.heap.size<_;omega)).trans e0,(h.cell (p:=⟨w.heap.size,1,none⟩) (by show w.heap.size<_;omega)).trans e1,(h.cell (p:=⟨w.heap.size,2,none⟩) (by show w.heap.size<_;omega)).trans e2,h⟩)
   (go_wp2_with fail);have hrefl:=Below.refl wr.heap.size wr;have hdrew:Below wr.heap.size wr wr.drew:=(Below.refl _ _).drew;go_region_held3 (fun w'=>w'.cell? ⟨w.heap.size,0,none⟩=some (Z G W)/\w'.cell? ⟨w.heap.size,1,none⟩=some (Z G H)/\w'.cell? ⟨w.heap.size,2,none⟩=some (J (some ⟨s,B,none⟩) zs.length pc)/\Below wr.heap.size wr w')
    (first|(refine HS.1 _ ?_;assumption)|go_keep)
    (first|(go_at_call 179;(try rw[HREM.1]);(try rw[HQUO.1]);refine (HGU.1 _ ?_).mono ?_;assumption;rintro e wx ⟨rfl,hN⟩)|(go_at_call 178;refine (HDI.1 _).mono ?_;rintro e wy ⟨rfl,rfl⟩))
   have z:Below V.heap.size V wx:=f.trans (hN.mono S);have hbdx:=nW hbd hN S;have hszx:=z.size;have hcl:=mL g.1 g.2;have U:=qH (zH D g.1 g.2);have HTA:=qH (fun w=>Gw D g.1 g.2 (br D) rfl w);have htl:(cQ D).length<=15:=sX g.1 g.2;have hts:(lh (cQ D)).size<=15:=(by rw[bn];exact htl);have HWR:=qH (show eO ts D=dd ts (br D)++cQ D from rfl);clear f hbd S hN HS HGU HDI e0 e1 e2 hrefl hdrew l;obtain ⟨C,hC⟩:=eX (br D);rw[hC] at hcl U HTA HWR;have HC:=qH hC;clear hC;generalize cQ D=TB at *;have o:=(z.cell (p:=⟨d.heap.size,0,none⟩) hltB).trans HV0.1;have c3:=(z.cell (p:=⟨d.heap.size,1,none⟩) hltB).trans HV1.1;have HIT:=qH (HVT.1.below z (kc _));have hwl:(dd ts C).length<=15:=by
    have h:=tj xs ab.1 C;rw[t.1] at h;exact h
   have hws:(lh (dd ts C)).size<=15:=(by rw[bn];exact hwl);by_cases A:dd ts C=[]
   ·have hE4:jI ts C=4:=if_pos A;have E:=qH (show cM W H zs kind xs=4 by
     rw[cM,if_pos HP.1,if_pos HK.1,if_pos Y.1,t.1,kv,ut ts zs W kind zs.length k M (by rw[<-X.1,HC.1];exact A)];rfl)
    have aa:=qH (show ch W H zs kind xs=[] by rw[ch,E.1,if_neg dD]);clear A;(go_wp2_with (first|(go_at_call 180;refine (U.1 _).mono ?_;rintro e wy ⟨rfl,rfl⟩)|(go_at_call 181;refine (yu _ I ts _ _ HIT.1).mono ?_;rintro e wz ⟨rfl,L⟩)));go_ret2;rw[E.1,aa.1];exact ⟨rfl,aG (aG F.1 z) L⟩
   ·have hE0:jI ts C=0:=if_neg A;have HO:=au (show gy ts zs W kind (k+1)=true by rw[rg,HA.out,<-X.1,HC.1];simpa using A);have HP2:=qH (show cC ts zs W kind (k+1)=cC ts zs W kind k++dd ts C++TB by rw[ld,<-X.1,HWR.1,List.append_assoc]);clear A;generalize cC ts zs W kind k=DB at *;(go_wp2_with (first|(go_at_call 180;refine (U.1 _).mono ?_;rintro e wy ⟨rfl,rfl⟩)|(go_at_call 181;refine (yu _ I ts _ _ HIT.1).mono ?_;rintro e wz ⟨rfl,L⟩;have hbdz:=nW hbdx L hszx;have hszz:=L.size)));refine (tt V.heap.size V.heap.size _ _ _ hbdz oM oM).mono ?_;rintro e w4 ⟨rfl,hbd4,Q⟩;have hsz4:=Q.size;(go_wp2_with fail);refine (HTA.1 _).mono ?_;rintro e w5 ⟨rfl,hb5⟩;have hbd5:=nW hbd4 hb5 oM;have hsz5:=hb5.size;(go_wp2_with fail);refine (tt V.heap.size V.heap.size _ _ _ hbd5 (by rw[kw,bP];omega) oM).mono ?_;rintro e w6 ⟨rfl,hbd6,hb6⟩;go_wp2;go_roundw
    case rel=>exact ⟨k+1,oM,gN,HO,by rw[HP2.1];exact hbd6,(((z.trans (L.mono hszx)).trans Q).trans (hb5.mono oM)).trans hb6⟩
    case measure=>simp[intOf];omega
  ·obtain rfl:k=zs.length:=oM;have E:=qH (show cM W H zs kind xs=0 by rw[cM,if_pos HP.1,if_pos HK.1,if_pos Y.1,t.1,kv,if_pos HA.out]);have aa:=qH (show ch W H zs kind xs=dg (cC ts zs W kind zs.length) by rw[ch,E.1,if_pos rfl,t.1,kv]);have HAB:=qH (show bz (cC ts zs W kind zs.length)=true by rw[<-t.1];exact uv xs zs W kind zs.length);generalize cC ts zs W kind zs.length=DB at *;(go_wp2_with (first|(go_at_call 32;refine (sV V.heap.size V.heap.size _ _ hbd S).mono ?_;rintro e d ⟨rfl,m⟩)|(go_at_call 174;refine (zu _ HAB.1 oM _).mono ?_;rintro e w4 ⟨rfl,Q⟩)));go_ret2;rw[E.1,aa.1];exact ⟨rfl,aG (aG F.1 (f.trans m)) Q⟩
theorem Hr (W H:Int) (n v:Value) (zs:List Int) (kind:Int) (xs:List Int) (w:World) (d:ap w n zs) (m:ap w v xs) :
  Calls prog 125 #[.agg #[Z G W,Z G H,n],Z G kind,v] w (rT w (.tuple #[.string (lh (ch W H zs kind xs)),Z G (cM W H zs kind xs)])):=by
 by_cases a:a7 W H zs=true
 ·by_cases c:eC kind=true
  ·by_cases j:aU xs=0
   ·obtain ⟨⟨y,_⟩,⟨z,_⟩,_,_⟩:=eT a;obtain ⟨t,rfl⟩:=kd (show 0<=W from oM);obtain ⟨HN,rfl⟩:=kd (show 0<=H from oM);exact Hs t HN n v zs kind xs w d m a c j
   ·have b:=qH (show cM W H zs kind xs=aU xs by rw[cM,if_pos a,if_pos c,if_neg j]);have g:=qH (show ch W H zs kind xs=[] by rw[ch,b.1,if_neg j]);have s:=qH m;clear m;have i:=qH d;obtain ⟨q,p,rfl,o,l⟩:=d;have A:(aU xs != 0)=true:=(by simpa using j);clear l j;go_enter func125,ntmps125;(go_wp2_with fail);refine (ki _ _ _ zs _ (i.1.alloc _)).mono ?_;rintro e w1 ⟨rfl,k⟩;rw[a];have f:=qH (aG (aq w _) k);(go_wp2_with (go_at_call 175;refine (me _ _).mono ?_;rintro e w2 ⟨rfl,rfl⟩;rw[c]));refine (yx _ _ _ (s.1.below f.1 (kc _))).mono ?_;rintro e w2 ⟨r,rfl,x,u⟩;clear x;go_wp2;go_ret2;rw[b.1,g.1];exact ⟨rfl,aG f.1 u⟩
  ·have b:=qH (show cM W H zs kind xs=6 by rw[cM,if_pos a,if_neg c]);have g:=qH (show ch W H zs kind xs=[] by rw[ch,b.1,if_neg dD]);have c:eC kind=false:=(by simpa using c);have i:=qH d;obtain ⟨q,p,rfl,o,l⟩:=d;clear l m;go_enter func125,ntmps125;(go_wp2_with fail);refine (ki _ _ _ zs _ (i.1.alloc _)).mono ?_;rintro e w1 ⟨rfl,k⟩;rw[a];have f:=qH (aG (aq w _) k);(go_wp2_with (go_at_call 175;refine (me _ _).mono ?_;rintro e w2 ⟨rfl,rfl⟩;rw[c]));go_ret2;rw[b.1,g.1];exact ⟨rfl,f.1⟩
 ·have b:=qH (show cM W H zs kind xs=1 by rw[cM,if_neg a]);have g:=qH (show ch W H zs kind xs=[] by rw[ch,b.1,if_neg dD]);have a:a7 W H zs=false:=by simpa using a
  have i:=qH d;obtain ⟨q,p,rfl,o,l⟩:=d;clear l m;go_enter func125,ntmps125;go_wp2_with fail
  refine (ki _ _ _ zs _ (i.1.alloc _)).mono ?_;rintro e w1 ⟨rfl,k⟩;rw[a];have f:=qH (aG (aq w _) k);go_wp2;go_ret2;rw[b.1,g.1];exact ⟨rfl,f.1⟩
def dY (s:List UInt8) (W H kind:Int) (xs:List Int):Option (List Int) :=
  if s.length<=(W.toNat*H.toNat*30+7) / 8 then
    (match dE (eb xs) (aF s) W.toNat kind (W.toNat*H.toNat) with
     | some (pos,zs)=>if jq ((aF s).drop pos)=true then some zs else none
     | none=>none)
  else none
def bp (s:List UInt8) (W H kind:Int) (xs:List Int):Int :=
 if aM W=true/\aM H=true then (if eC kind=true then (if aU xs=0 then (if (dY s W H kind xs).isSome=true then 0 else 1) else aU xs) else 6) else 3
def cD (s:List UInt8) (W H kind:Int) (xs:List Int):List Int:=if bp s W H kind xs=0 then (dY s W H kind xs).getD [] else []
def dQ (s:List UInt8) (W H kind:Int) (xs:List Int):Int:=if bp s W H kind xs=0 then W else 0
def dP (s:List UInt8) (W H kind:Int) (xs:List Int):Int:=if bp s W H kind xs=0 then H else 0
theorem xp {s:List UInt8} {W H N:Nat} {kind:Int} {xs:List Int} (a:W*H=N) (h:dE (eb xs) (aF s) W kind N=none):dY s W H kind xs=none:=by
 rw[dY,kv,kv,a,h];split<;>rfl
theorem sA {s:List UInt8} {W H N:Nat} {kind:Int} {xs zs:List Int} {pos:Nat} (a:W*H=N) (b:s.length<=(N*30+7) / 8) (h:dE (eb xs) (aF s) W kind N=some (pos,zs)):dY s W H kind xs=if jq ((aF s).drop pos)=true then some zs else none:=by
 rw[dY,kv,kv,a,h,if_pos b]
theorem pV (xs:List Int) (a:aU xs=0) (b:List UInt8) (h:(aQ (eb xs) [] b).2.1=0) :
  ∃i:Nat,i<(aJ xs).length/\(aQ (eb xs) [] b).1=i/\(aQ (eb xs) [] b).2.2=((aJ xs).getD i []).length/\(aJ xs).getD i [] <+: b:=by
 obtain ⟨d,e,f⟩:=vH (aJ xs) (tl xs a) (xJ xs a) b;have c:gh (aJ xs) b=0:=by rw[<-e];exact h
 obtain ⟨i,g,l,j,k⟩:=f c;exact ⟨i,g,d.trans l,j,k⟩
theorem Dm (xs:List Int) (a:aU xs=0) (b:List UInt8) (h:(aQ (eb xs) [] b).2.1=0):∃i:Nat,i<=16/\(aQ (eb xs) [] b).1=i:=by
 obtain ⟨i,c,d,_⟩:=pV xs a b h;have:=(fW a).2.1;rw[eY] at c;exact ⟨i,oM,d⟩
theorem EG {W H kind:Int} {xs zs:List Int} (h:cM W H zs kind xs=0):dY (ch W H zs kind xs) W H kind xs=some zs/\aM W=true/\aM H=true/\eC kind=true/\aU xs=0/\a7 W H zs=true:=by
 have d:=h;rw[cM] at h;split at h
 ·rename_i hp;split at h
  ·rename_i hk;split at h
   ·rename_i hE;split at h
    ·rename_i hall;obtain ⟨b,c,f,i⟩:=eT hp;have a:zs.length=W.toNat*H.toNat:=by
      have:(zs.length:Int)=((W.toNat*H.toNat:Nat):Int):=(by rw[f,Int.natCast_mul];congr 1<;>omega);omega
     have j:=oX xs (fW hE).2.2.1 zs W.toNat kind zs.length;have e:=uv xs zs W.toNat kind zs.length;refine ⟨?_,by simpa [aM] using b,by simpa [aM] using c,hk,hE,hp⟩;rw[ch,if_pos d,dY,if_pos (by rw[oU,<-a];omega),sH _ e];have g:=Ey (aJ xs) (tl xs hE) zs i W.toNat oM kind hall (xc (8*(((cC (aJ xs) zs W.toNat kind zs.length).length+7) / 8)-(cC (aJ xs) zs W.toNat kind zs.length).length) 48) zs.length (kc _);rw[<-a];show (match dE (cd (aJ xs) (aJ xs).length) _ _ _ _ with|some (pos,zs)=>_|none=>none)=_;rw[g];simp only[List.take_length,List.drop_left];rw[if_pos];rw[jq,rJ];simp;omega
    ·cases h
   ·rename_i hE;exact absurd h hE
  ·cases h
 ·cases h
theorem EC {s:List UInt8} {W H kind:Int} {xs:List Int} (h:bp s W H kind xs=0):aM W=true/\aM H=true/\eC kind=true/\aU xs=0/\∃zs,dY s W H kind xs=some zs/\cD s W H kind xs=zs/\dQ s W H kind xs=W/\dP s W H kind xs=H:=by
 have a:=h;rw[bp] at h;split at h
 ·rename_i hs;split at h
  ·rename_i hk;split at h
   ·rename_i hE;split at h
    ·rename_i hi;obtain ⟨zs,b⟩:=Option.isSome_iff_exists.1 hi;exact ⟨hs.1,hs.2,hk,hE,zs,b,by rw[cD,if_pos a,b];rfl,by rw[dQ,if_pos a],by rw[dP,if_pos a]⟩
    ·cases h
   ·rename_i hE;exact absurd h hE
  ·cases h
 ·cases h
theorem EN {W H kind:Int} {xs zs:List Int} (h:cM W H zs kind xs=0):bp (ch W H zs kind xs) W H kind xs=0/\cD (ch W H zs kind xs) W H kind xs=zs/\dQ (ch W H zs kind xs) W H kind xs=W/\dP (ch W H zs kind xs) W H kind xs=H:=by
 obtain ⟨b,g,i,j,k,_⟩:=EG h;have a:bp (ch W H zs kind xs) W H kind xs=0:=by rw[bp,if_pos ⟨g,i⟩,if_pos j,if_pos k,b];rfl
 obtain ⟨_,_,_,_,l,c,d,e,f⟩:=EC a;rw[b] at c;cases c
 exact ⟨a,d,e,f⟩
theorem GZ (l:List UInt8) (k:Nat) (h:k<l.length) (a:bz l=true) (f:k<=15) :
  bS (l.take k)<65536/\48<=l[k].toNat/\l[k].toNat<=49/\bS (l.take (k+1))=2*bS (l.take k)+(l[k].toNat-48):=by
 have c:=nC _ (jO a k);have b:(l.take k).length<=16:=sO;have d:=ic b;have e:=mI a k h;rw[List.take_succ_eq_append_getElem h,oD];omega
theorem vQ {f:List UInt8->Option (Int×Bool)} {b:List UInt8} (h:(aQ f [] b).2.1≠0):dN f b=none:=by rw[dN,if_neg h]
theorem vU {f:List UInt8->Option (Int×Bool)} {b:List UInt8} (h:(aQ f [] b).2.1=0) (a:(aQ f [] b).1=16):dN f b=some (32768,(aQ f [] b).2.2):=by rw[dN,if_pos h,if_pos a]
theorem vT {f:List UInt8->Option (Int×Bool)} {b:List UInt8} (h:(aQ f [] b).2.1=0) (i:Nat) (a:(aQ f [] b).1=i) (d:i<=15) (c:b.length<(aQ f [] b).2.2+i):dN f b=none:=by
 rw[dN,if_pos h,if_neg oM,a,kv,if_pos c]
theorem vR {f:List UInt8->Option (Int×Bool)} {b:List UInt8} (h:(aQ f [] b).2.1=0) (i:Nat) (a:(aQ f [] b).1=i) (c:i<=15) (d:(aQ f [] b).2.2+i<=b.length):dN f b=some (fU i (bS ((b.drop (aQ f [] b).2.2).take i)),(aQ f [] b).2.2+i):=by
 rw[dN,if_pos h,if_neg oM,a,kv,if_neg oM]
theorem CZ (ca:Option Addr) (z y x n:Nat) (f:List UInt8->Option (Int×Bool)) (l s:Nat) (a:List UInt8) (pos:Nat) (w:World) (hm:cH w x n f) (hfl:∀key,f key≠none->key.length<=100) (A:dt w l s a pos) (hbits:bz a=true)
  (hcls:(aQ f [] (a.drop pos)).2.1=0->∃i:Nat,i<=16/\(aQ f [] (a.drop pos)).1=i) :
  Calls prog 203 #[.agg #[J ca z y,.map (some x)],.func (.func 217) #[] #[.pointer (some ⟨l,0,none⟩),.pointer (some ⟨s,0,none⟩)]] w fun e w' =>
   (∀d m,dN f (a.drop pos)=some (d,m)->e=.returned (.tuple #[Z G d,.bool true])/\dt w' l s a (pos+m)) /\
   (dN f (a.drop pos)=none->e=.returned (.tuple #[Z G 0,.bool false]))/\w.grownBy w' (some l):=by
 have N:=qH (hm.below (aq w (.cells #[J ca z y,.map (some x)] 219)) (kc _));have S:=qH (A.below (aq w (.cells #[J ca z y,.map (some x)] 219)));have hbl:=A.2.2.2;have hlt:=A.lt;have P:=qH hfl;have hle:=C0 f [] (a.drop pos);rw[xa] at hle;have hpl:=A.2.2.1;have U:=qH (fun h=>vQ (f:=f) (b:=a.drop pos) h);have W:=qH (fun h=>vU (f:=f) (b:=a.drop pos) h);have X:=qH (fun h=>vT (f:=f) (b:=a.drop pos) h);have Y:=qH (fun h=>vR (f:=f) (b:=a.drop pos) h);have E:=qH hcls;clear hcls hm A hfl;go_enter func203,ntmps203;go_wp2_with fail
 refine (C2 _ ca z y rfl x n f l s a pos _ N.1 P.1 S.1).mono ?_;rintro e w1 ⟨rfl,ht1,hg1⟩;have F:=au ((World.grownBy_alloc w (.cells #[J ca z y,.map (some x)] 219) (some l)).trans hg1);have T:=au ht1;clear ht1 hg1 S N P;generalize (aQ f [] (a.drop pos)).2.2=g at *;generalize (aQ f [] (a.drop pos)).2.1=er at *;generalize (aQ f [] (a.drop pos)).1=cl0 at *;by_cases C:er=0
 ·subst C;obtain ⟨i,hi16,rfl⟩:=E.1 rfl;clear E;by_cases h16:i=16
  ·subst h16;have o:=qH (W.1 rfl rfl);go_wp2;go_ret2;refine ⟨fun d m h=>?_,fun h=>?_,F.out⟩
   ·rw[o.1] at h;cases h;exact ⟨rfl,T.out⟩
   ·rw[o.1] at h;cases h
  ·have hi15:i<=15:=oM;have H:=qH (X.1 rfl i rfl hi15);have B:=qH (Y.1 rfl i rfl hi15);clear U W X Y;have hib:((i:Int) == 16)=false:=sO;have hdl:(a.drop (pos+g)).length=a.length-(pos+g):=xa;have O:=qH (show (a.drop pos).drop g=a.drop (pos+g) from List.drop_drop);have D:=qH (iH hbits (pos+g));have HLD:=qH (show (a.drop pos).length=a.length-pos from xa);have Q:=qH (show ∀k (h:pos+g+k<a.length) (h2:k<(a.drop (pos+g)).length),a[pos+g+k]=(a.drop (pos+g))[k] from fun k h h2=>by rw[List.getElem_drop]);rw[O.1] at B;rw[HLD.1] at H B;generalize a.drop (pos+g)=L at *;clear O h16;go_wp2;go_loopw [8,22] (fun v j wr=>∃k:Nat,k<=i/\k<=L.length/\j=Z G k/\v=Z G (bS (L.take k):Nat)/\Hid (dt wr l s a (pos+g+k))/\Hid (w.grownBy wr (some l)))
    (fun _ j _=>i-(intOf j).toNat)
   case atStart=>exact ⟨0,ko _,ko _,rfl,rfl,T,F⟩
   case round =>
    obtain ⟨k,hk,hkL,rfl,rfl,u,r⟩:=hrel;by_cases hki:k<i
    ·have hd:decide ((k:Int)<(i:Int))=true:=sO;by_cases hkl:k<L.length
     ·obtain ⟨v1,v2,v3,v4⟩:=GZ L k hkl D.1 oM;have HV4:=qH v4;have R:=qH (Q.1 k oM hkl);clear v4;(go_wp2_with fail);refine (xW l s a (pos+g+k) _ u.out oM).mono ?_;rintro e M ⟨rfl,K⟩;have HT3:=au (show dt M l s a (pos+g+(k+1)) by rw[<-K];exact u.out.moved oM);have HG3:=au (show w.grownBy M (some l) by
       rw[<-K];refine ⟨r.out.os,r.out.tape,r.out.output,by simpa [World.setCell] using r.out.size,fun q hq I=>?_⟩;rw[km _ _ _ _ (fun e=>I (by rw[e]))];exact r.out.block q hq I)
      rw[R.1];clear K u r R;generalize L[k].toNat=c at *;generalize bS (L.take k)=V at *;go_wp2;go_roundw
      case rel=>exact ⟨k+1,oM,oM,gN,by rw[HV4.1];go_num,HT3,HG3⟩
      case measure=>simp[intOf];omega
     ·obtain rfl:k=L.length:=oM;have o:=qH (H.1 oM);have HTE:=qH (show dt wr l s a a.length by have h:=u.out;rw[show pos+g+L.length=a.length from oM] at h;exact h);(go_wp2_with (go_at_call 217;refine (xV l s a _ HTE.1).mono ?_;rintro e M ⟨rfl,rfl⟩));go_ret2;refine ⟨fun d m h=>?_,fun _=>rfl,r.out⟩;rw[o.1] at h;cases h
    ·obtain rfl:k=i:=oM;have hd:decide ((k:Int)<(k:Int))=false:=sS;have o:=qH (B.1 oM);have hv:=nC _ (jO D.1 k);rw[List.length_take,Nat.min_eq_left hkL] at hv;have t:=qH (show fU k (bS (L.take k))=if bS (L.take k)<2 ^ k / 2 then ((bS (L.take k):Nat):Int)-((2 ^ k:Nat)-1) else ((bS (L.take k):Nat):Int) by rw[fU,fL]);have hw:=lO (n:=k) oM;have hp:=ic (n:=k) oM;generalize bS (L.take k)=V at *;generalize fU k V=TV at *;obtain ⟨p,hpe⟩:=eX (2 ^ k);rw[hpe] at hw hp hv t;clear hpe;clear H B Q D hdl hle hpl hbl hbits;by_cases hlow:V<p / 2
     ·have t:=qH (t.1.trans (if_pos hlow));go_wp2;go_ret2;refine ⟨fun d m h=>?_,fun h=>?_,r.out⟩
      ·rw[o.1] at h;cases h
       refine ⟨mr (congrArg (Z G) ?_) rfl,by rw[<-Nat.add_assoc];exact u.out⟩;rw[t.1]
      ·rw[o.1] at h;cases h
     ·have t:=qH (t.1.trans (if_neg hlow));go_wp2;go_ret2;refine ⟨fun d m h=>?_,fun h=>?_,r.out⟩
      ·rw[o.1] at h;cases h
       refine ⟨mr (congrArg (Z G) ?_) rfl,by rw[<-Nat.add_assoc];exact u.out⟩;rw[t.1]
      ·rw[o.1] at h;cases h
 ·have o:=qH (U.1 C);have I:(er != 0)=true:=by simpa using C
  clear C E;go_wp2;go_ret2;refine ⟨fun d m h=>?_,fun _=>rfl,F.out⟩;rw[o.1] at h;cases h
theorem vy (n:Int) (a:0<=n) (b:n<=4096) (w:World) :
  Calls prog 201 #[Z G n] w (rQ w (Z G ((n*30+7) / 8))):=by
 go_enter func201,ntmps201;go_wp2;go_ret;exact ⟨rfl,rfl⟩
theorem u6 (l:List UInt8) (d:l.length<=281474976710656) (w:World) :
  Calls prog 204 #[.string (lh l)] w (rQ w (.bool (jq l))):=by
 have f:(lh l).size=l.length:=bn l;by_cases b:l.length<8
 ·have c:decide ((l.length:Int)<8)=true:=sO;have a:=qH (show (!dV l)=jq l by rw[jq];simp[b]);go_enter func204,ntmps204;go_wp2_with (go_at_call 200;refine (qZ l _).mono ?_;rintro e w1 ⟨rfl,rfl⟩)
  go_ret;exact ⟨be a.1,rfl⟩
 ·have c:decide ((l.length:Int)<8)=false:=sO;have a:=qH (show false=jq l by rw[jq];simp[b]);go_enter func204,ntmps204;go_wp2;go_ret;exact ⟨be a.1,rfl⟩
def fs (zs:List Int) (n:Nat):List Value:=zs.map (Z .i64)++xc (n-zs.length) (Z G 0)
theorem yI (n:Nat):fs [] n=(madeCells (Z .i64 0).cells (n*1)).toList:=by
 rw[show (Z .i64 0).cells=#[Z .i64 0] from rfl,toList_madeCells_one];simp[fs]
theorem H1 (zs:List Int) (n:Nat) (h:zs.length<n):(fs zs n)[zs.length]?=some (Z G 0):=by
 rw[fs,List.getElem?_append_right sS,kG,Nat.sub_self,List.getElem?_replicate,if_pos oM]
theorem yG (zs:List Int) (n k:Nat) (a:zs.length=k) (h:k<n):(fs zs n)[k]?=some (Z G 0):=by subst a;exact H1 zs n h
theorem qI (zs:List Int) (n k:Nat) (x:Int) (a:zs.length=k) (h:k<n):(fs zs n).set k (Z G x)=fs (zs++[x]) n:=by
 subst a;rw[fs,fs,List.set_append_right _ _ sS,kG,Nat.sub_self,show n-zs.length=(n-(zs.length+1))+1 from oM,List.replicate_succ,List.set_cons_zero];simp
theorem tw (zs:List Int):fs zs zs.length=zs.map (Z .i64):=by simp[fs]
theorem yH (zs:List Int) (n:Nat):fs zs n=(zs++xc (n-zs.length) 0).map (Z .i64):=by simp[fs]
theorem wm (zs:List Int) (m:Nat) (h:fo zs=true):fo (zs++xc m 0)=true:=by
 rw[fo,List.all_append,Bool.and_eq_true];refine ⟨h,?_⟩;rw[List.all_eq_true];intro x a;rw[List.eq_of_mem_replicate a];rfl
theorem EH (s:ByteArray) (W H:Nat) (kind:Int) (v:Value) (xs:List Int) (w:World) (hv:ap w v xs) (hW:aM W=true) (hH:aM H=true) (hk:eC kind=true) (hE:aU xs=0) (hlen:s.size<=(W*H*30+7) / 8) :
  Calls prog 167 #[.string s,Z G W,Z G H,Z G kind,v] w fun e w'=>∃r,e=.returned (.tuple #[.agg #[Z G (dQ s.data.toList W H kind xs),Z G (dP s.data.toList W H kind xs),r],Z G (bp s.data.toList W H kind xs)])/\ap w' r (cD s.data.toList W H kind xs)/\Below w.heap.size w w':=by
 obtain ⟨hl1,hl2,hok,_,_⟩:=fW hE;obtain ⟨i0,hi,hz0,hz1,hz2⟩:=info_parts Tryz.infoInt;have b1:1<=(W:Int)/\(W:Int)<=64:=by simpa [aM] using hW
 have b2:1<=(H:Int)/\(H:Int)<=64:=by simpa [aM] using hH
 have b3:=fq b1 b2;obtain ⟨b1,b1'⟩:=b1;obtain ⟨b2,b2'⟩:=b2;obtain ⟨N,L⟩:=eX (W*H);have hNi:(W:Int)*(H:Int)=(N:Int):=by rw[<-L];simp
 rw[hNi] at b3;rw[L] at hlen;have HRN:=qH (xp (s:=s.data.toList) (kind:=kind) (xs:=xs) L);have HRS:=qH (fun pos zs=>sA (s:=s.data.toList) (kind:=kind) (xs:=xs) (zs:=zs) (pos:=pos) L (by rw[gj];exact hlen));have HRE:=qH (show bp s.data.toList W H kind xs=if (dY s.data.toList W H kind xs).isSome=true then 0 else 1 by rw[bp,if_pos ⟨hW,hH⟩,if_pos hk,if_pos hE]);have HN:=qH L;clear L;have hle2:s.size<=15361:=oM;have HV:=qH hv;clear hv;have HE:=qH hE;have HOK:=qH hok;have hmb:decide (((N:Int)*30+7) / 8<(s.size:Int))=false:=sO;clear hok;go_enter func167,ntmps167;go_wp2_with fail
 have R0:=heap_alloc_new w (ka #[Z G 0,Z G 0,J none 0 0] 54);have O:=qH (aq w (ka #[Z G 0,Z G 0,J none 0 0] 54));have hlt0:w.heap.size<(w.alloc (ka #[Z G 0,Z G 0,J none 0 0] 54)).heap.size:=sS;generalize w.alloc _=w0 at *;refine (fP _ _).mono ?_;rintro e w1 ⟨rfl,hb1⟩;rw[hW];go_wp2_with fail
 refine (fP _ _).mono ?_;rintro e w2 ⟨rfl,hb2⟩;rw[hH];go_wp2_with (go_at_call 175;refine (me _ _).mono ?_;rintro e x ⟨rfl,rfl⟩;rw[hk])
 have HB2:=qH (aG hb1 hb2);refine (qG _ _ _ ((HV.1.below O.1 (kc _)).below HB2.1 (kc _)) HE.1).mono ?_;rintro e w3 ⟨r,rfl,hr,hb3⟩;have HR:=qH hr;have HB3:=qH (aG HB2.1 hb3);clear hr hb1 hb2 hb3 HB2;go_wp2_with (go_at_call 201;refine (vy _ oM oM _).mono ?_;rintro e x ⟨rfl,rfl⟩)
 refine (vF _ _ _ HR.1 (by rw[eY];exact hl1) (by rw[eY];exact hl2) (qF xs HOK.1)).mono ?_;rintro e t ⟨cv,E,nn,rfl,hcv,ah,hb4⟩;have HBM:=qH ah;obtain ⟨K,I,rfl,hx1,hx2⟩:=hcv;have HB4:=qH (aG HB3.1 hb4);clear ah hx1 hx2 hb4 HB3 HR;go_wp2_with fail
 have hKb:=aq t (ka #[J K (aJ xs).length I,.map (some E)] 219);have hK:=heap_alloc_new t (ka #[J K (aJ xs).length I,.map (some E)] 219);have hKs:(t.alloc (ka #[J K (aJ xs).length I,.map (some E)] 219)).heap.size=t.heap.size+1:=sS;generalize t.alloc _=V0 at *;refine (tW s oM _).mono ?_;rintro e o ⟨rfl,S⟩;have hbl:(aF s.data.toList).length<=122888:=by rw[ig,gj];omega
 have ah:bz (aF s.data.toList)=true:=kp _;have HDL:=qH (rfl:s.data.toList=s.data.toList);have hs5:=S.size;have h45:t.heap.size<o.heap.size:=oM;have h05:w.heap.size<o.heap.size:=by have:=HB4.1.size;omega
 have P:=qH (aG (aG HB4.1 hKb) S);have HBK:=au ((HBM.1.below hKb (kc _)).below S (kc _));have hK5:o.heap[t.heap.size]?=some (.cells #[J K (aJ xs).length I,.map (some E)] 219 (0,0)):=by rw[S.block _ oM];exact hK
 have HK0:=qH (show o.cell? ⟨t.heap.size,0,none⟩=some (J K (aJ xs).length I) by rw[kb hK5];rfl);have HK1:=qH (show o.cell? ⟨t.heap.size,1,none⟩=some (.map (some E)) by rw[kb hK5];rfl);have HR5:=qH (show o.heap[w.heap.size]?=some (.cells #[Z G 0,Z G 0,J none 0 0] 54 (0,0)) by rw[P.1.block _ hlt0];exact R0);have HBK:Hid (cH o E nn (eb xs)):=HBK;have HFL:=qH (zi xs HOK.1);have HCL:=qH (Dm xs HE.1);have HDR:=qH (show ∀p d n,dN (eb xs) ((aF s.data.toList).drop p)=some (d,n)->-32768<d/\d<=32768 from fun p d n h=>by
  have:=rZ (aJ xs) (by rw[eY];exact hl2) _ (iH (kp s.data.toList) p) (pV xs HE.1 _) d n h;exact ⟨this.2.2.1,this.2.2.2.1⟩)
 clear hKb hK hKs S hK5 HBM R0 HB4 hs5;generalize hbf:eb xs=f at *;have HBF:=qH hbf;clear hbf;generalize hbb:aF s.data.toList=b at *;have HBB:=qH hbb;clear hbb;go_wp2_with fail
 refine (Gz b oM o).mono ?_;rintro e g ⟨y,z,rfl,ht6,hwa,hwb,hb6⟩;have R:=qH ht6;have hla:=R.1.lt;have h56:=hb6.size;clear ht6;go_wp2_with (at_make;refine wpList_make_full _ rfl _ _ 52 rfl g.heap.size 3 i0 (Z G 0) 1 underlying52 hi hz0 hz1 .i64 .i64 _ _ N rfl rfl rfl rfl (by rw[hz2];omega) uO (kc _) ?_;intro A hown T)
 have h67:g.heap.size<A.heap.size:=(hown.lt g.heap.size rfl).2;have HI:=qH (show dt (A.alloc (ka #[Z G W,Z G H,J (some ⟨g.heap.size,0,none⟩) N N] 54)) y z b 0/\Below o.heap.size o (A.alloc (ka #[Z G W,Z G H,J (some ⟨g.heap.size,0,none⟩) N N] 54)) from
  ⟨dt.below (⟨by rw[T.block y hla.1 sS];exact R.1.1,by rw[T.block z hla.2 sS];exact R.1.2.1,R.1.2.2⟩:dt A y z b 0) (aq _ _),(hb6.grown T hb6.size sS).alloc oM _⟩)
 have HP0:=au (heap_alloc_new A (ka #[Z G W,Z G H,J (some ⟨g.heap.size,0,none⟩) N N] 54));have hown2:=hown.alloc (ka #[Z G W,Z G H,J (some ⟨g.heap.size,0,none⟩) N N] 54);rw[<-yI] at hown2;have hPs:A.heap.size<(A.alloc (ka #[Z G W,Z G H,J (some ⟨g.heap.size,0,none⟩) N N] 54)).heap.size:=sS;generalize A.alloc _=W8 at *;clear hown T R;generalize A.heap.size=PB at *;go_loopw [69] (fun i wr=>∃(k pos:Nat) (zs:List Int),k<=N/\i=Z G k/\zs.length=k/\Hid (dE f b W kind k=some (pos,zs))/\Hid (dt wr y z b pos)/\wr.ownsRow g.heap.size 3 1 (J (some ⟨g.heap.size,0,none⟩) N N) N (fs zs N)/\Hid (wr.heap[PB]?=some (.cells #[Z G W,Z G H,J (some ⟨g.heap.size,0,none⟩) N N] 54 (0,0)))/\Hid (Below o.heap.size o wr)/\PB<wr.heap.size)
  (fun i _=>N-(intOf i).toNat)
 case atStart=>exact ⟨0,0,[],ko _,rfl,rfl,rfl,HI.1.1,hown2,HP0,HI.1.2,hPs⟩
 case round =>
  obtain ⟨k,pos,zs,hk,rfl,Y,ab,ac,V,Q,B,hPl⟩:=hrel;clear hown2 HI HP0 hPs;have hsz:=B.out.size;by_cases ai:k<N
  ·have hd:decide ((k:Int)<(N:Int))=true:=sO;have c2:=(B.out.cell (p:=⟨t.heap.size,0,none⟩) h45).trans HK0.1;have c3:=(B.out.cell (p:=⟨t.heap.size,1,none⟩) h45).trans HK1.1;have HBW:=qH (HBK.out.below B.out (kc _));(go_wp2_with fail);refine (CZ K _ I E nn f y z b pos _ HBW.1 HFL.1 ac.out ah (HCL.1 _)).mono ?_;rintro e l ⟨hsome,hnone,M⟩;have aa:=qH (B.out.grown M hsz (fun j hj=>by cases hj;exact hwa));cases hnx:dN f (b.drop pos) with
   | none =>
    obtain rfl:=hnone hnx;have HRDN:=qH (show dY s.data.toList W H kind xs=none from HRN.1 (by
     refine xm (k:=k+1) ai ?_;rw[dE,ab.out];simp only[hnx]))
    have C:=qH (show bp s.data.toList W H kind xs=1 by rw[HRE.1,HRDN.1];rfl);have af:l.heap[w.heap.size]?=some (.cells #[Z G 0,Z G 0,J none 0 0] 54 (0,0)):=(by rw[aa.1.block _ h05];exact HR5.1);have q0:l.cell? ⟨w.heap.size,0,none⟩=some (Z G 0):=kb af _;have q1:l.cell? ⟨w.heap.size,1,none⟩=some (Z G 0):=kb af _;have q2:l.cell? ⟨w.heap.size,2,none⟩=some (J none 0 0):=kb af _;obtain ⟨f0,f1,f2⟩:=fZ af;clear hsome hnone M hnx;go_wp2;refine bodyPost_ret (v:=.tuple #[.agg #[Z G 0,Z G 0,J none 0 0],Z G 1]) (by simp[results,results167,go_sem,q0,q1,q2]) rfl ⟨J none 0 0,?_,?_,?_⟩
    ·rw[dQ,dP,C.1];rfl
    ·rw[cD,C.1];exact ap.nil _
    ·exact (((O.1.trans ((P.1.trans (aa.1.mono P.1.size)).mono O.1.size)).setCell (p:=⟨w.heap.size,0,none⟩) (kc _) _).setCell (p:=⟨w.heap.size,1,none⟩) (kc _) _).setCell (p:=⟨w.heap.size,2,none⟩) (kc _) _
   | some q =>
    obtain ⟨D,m⟩:=q;obtain ⟨rfl,ht9⟩:=hsome D m hnx;have HT9:=qH ht9;obtain ⟨hzs1,hzs2⟩:=nk ab.out;have HRK2:=au (show dE f b W kind (k+1)=some (pos+m,zs++[(bj zs W kind k+D) % 65536]) by rw[dE,ab.out];simp only[hnx]);have X:l.ownsRow g.heap.size 3 1 (J (some ⟨g.heap.size,0,none⟩) N N) N (fs zs N):=V.kept M (.inr (by simp only[Value.ownBlock];intro h;simp only[Option.some.injEq] at h;omega));have hs9:=M.size;have ad:l.heap[PB]?=some (.cells #[Z G W,Z G H,J (some ⟨g.heap.size,0,none⟩) N N] 54 (0,0)):=(by rw[M.block PB hPl sO];exact Q.out);clear hsome hnone ht9 ac V Q B M HBW c2 c3;have hDr:=HDR.1 pos D m hnx;clear hnx;have HIN9:=qH (show ap l (J (some ⟨g.heap.size,0,none⟩) N N) (zs++xc (N-zs.length) 0) by
     have U:(zs++xc (N-zs.length) 0).length=N:=(by rw[kw,List.length_replicate];omega);refine ap.own (base:=g.heap.size) ?_ (by rw[U];omega);rw[U,<-yH];exact X)
    have hgp:bj (zs++xc (N-zs.length) 0) W kind k=bj zs W kind k:=pk oM fun j hj=>(by simp[List.getD,List.getElem?_append_left (show j<zs.length from oM)]);have T:=pl zs W kind k hzs2;have hw1:¬(W=0):=oM;have hw2:¬((W:Int)=0):=oM;have hqb:k / W<=4096:=kh (Nat.div_le_self k W) oM;have HREM:=qH (show (k:Int) % (W:Int)=((k % W:Nat):Int) from rfl);have HQUO:=qH (show IntKind.i64.wrap ((k:Int) / (W:Int))=((k / W:Nat):Int) by rw[show (k:Int) / (W:Int)=((k / W:Nat):Int) from rfl];generalize k / W=q at hqb |-;exact IntWalk.i64_in _ oM);have HGU:=qH (show ∀w',Below l.heap.size l w'->Calls prog 179 #[.agg #[Z G W,Z G H,J (some ⟨g.heap.size,0,none⟩) N N],Z G kind,Z G ((k % W:Nat):Int),Z G ((k / W:Nat):Int)] w' fun e w''=>e=.returned (Z G (bj zs W kind k))/\Below l.heap.size l w'' from fun w' h=>by
     have U:(zs++xc (N-zs.length) 0).length=N:=(by rw[kw,List.length_replicate];omega);refine (uZ _ (zs++xc (N-zs.length) 0) W _ _ H kind k w' (HIN9.1.below h (kc _)) oM oM (by rw[U];exact ai) (by rw[U];omega) (wm _ _ hzs2) rfl rfl).mono fun e w'' h2=>⟨?_,h.trans (h2.2.mono h.size)⟩;rw[<-hgp];exact h2.1)
    clear hgp hqb;generalize bj zs W kind k=c at *;have hgd:IntKind.i64.wrap (c+D)=c+D:=IntWalk.i64_in _ oM;have hand:=tM (c+D);have p0:l.cell? ⟨PB,0,none⟩=some (Z G W):=kb ad _;have p1:l.cell? ⟨PB,1,none⟩=some (Z G H):=kb ad _;have p2:l.cell? ⟨PB,2,none⟩=some (J (some ⟨g.heap.size,0,none⟩) N N):=kb ad _;have ae:PB<l.heap.size:=oM;have hne6:PB≠g.heap.size:=oM;have c9:=X.cellAt k oM;rw[yG zs N k Y ai] at c9;have f9:=X.frozenAt k;have HCX:=qH (show ∀w',Below l.heap.size l w'->w'.cell? ⟨g.heap.size,k,none⟩=some (Z G 0)/\w'.frozen? ⟨g.heap.size,k,none⟩=false from fun w' h =>
     ⟨(h.cell (p:=⟨g.heap.size,k,none⟩) (by show g.heap.size<_;omega)).trans c9,(World.frozen?_of_block (h.block g.heap.size oM)).trans f9⟩)
    have HS:=qH (show ∀w',Below l.heap.size l w'->w'.cell? ⟨PB,0,none⟩=some (Z G W)/\w'.cell? ⟨PB,1,none⟩=some (Z G H)/\w'.cell? ⟨PB,2,none⟩=some (J (some ⟨g.heap.size,0,none⟩) N N) from fun w' h =>
     ⟨(h.cell (p:=⟨PB,0,none⟩) ae).trans p0,(h.cell (p:=⟨PB,1,none⟩) ae).trans p1,(h.cell (p:=⟨PB,2,none⟩) ae).trans p2⟩)
    have HS2:=qH (show ∀w' u,Below l.heap.size l w'->(w'.setCell ⟨g.heap.size,k,none⟩ u).cell? ⟨PB,0,none⟩=some (Z G W)/\(w'.setCell ⟨g.heap.size,k,none⟩ u).cell? ⟨PB,1,none⟩=some (Z G H)/\(w'.setCell ⟨g.heap.size,k,none⟩ u).cell? ⟨PB,2,none⟩=some (J (some ⟨g.heap.size,0,none⟩) N N) from fun w' u h=>by
     obtain ⟨t0,t1,t2⟩:=HS.1 w' h;have hbk:=km w' ⟨g.heap.size,k,none⟩ u PB hne6;exact ⟨(xe (a:=⟨PB,0,none⟩) hbk).trans t0,(xe (a:=⟨PB,1,none⟩) hbk).trans t1,(xe (a:=⟨PB,2,none⟩) hbk).trans t2⟩)
    have hk0:(0:Int)<=(k:Int):=oM;have hkN:(k:Int)<(N:Int):=oM;have hrefl:=Below.refl l.heap.size l;have hdrew:Below l.heap.size l l.drew:=(Below.refl _ _).drew;(go_wp2_with fail);go_region_held3 (fun w'=>w'.cell? ⟨PB,0,none⟩=some (Z G W)/\w'.cell? ⟨PB,1,none⟩=some (Z G H)/\w'.cell? ⟨PB,2,none⟩=some (J (some ⟨g.heap.size,0,none⟩) N N))
     (first|(refine HS.1 _ ?_;assumption)|(refine HS2.1 _ _ ?_;assumption)|go_keep)
     (first|(go_at_call 179;(try rw[HREM.1]);(try rw[HQUO.1]);refine (HGU.1 _ ?_).mono ?_;assumption;rintro e x ⟨rfl,F⟩;obtain ⟨cx,fx⟩:=HCX.1 _ F))
    have hox:=((cT X F).stored k (Z G ((c+D) % 65536))).1;rw[qI zs N k _ Y ai] at hox;have HTX:=au (show dt (x.setCell ⟨g.heap.size,k,none⟩ (Z G ((c+D) % 65536))) y z b (pos+m) by
     have h:=HT9.1.below F;exact ⟨by rw[km _ _ _ _ (by show y≠g.heap.size;omega)];exact h.1,by rw[km _ _ _ _ (by show z≠g.heap.size;omega)];exact h.2.1,h.2.2⟩)
    have HPX:=au (show (x.setCell ⟨g.heap.size,k,none⟩ (Z G ((c+D) % 65536))).heap[PB]?=some (.cells #[Z G W,Z G H,J (some ⟨g.heap.size,0,none⟩) N N] 54 (0,0)) by
     rw[km _ _ _ _ hne6,F.block PB ae];exact ad)
    have HBX:=au (show Below o.heap.size o (x.setCell ⟨g.heap.size,k,none⟩ (Z G ((c+D) % 65536))) from (aa.1.trans (F.mono aa.1.size)).setCell (p:=⟨g.heap.size,k,none⟩) (by show o.heap.size<=g.heap.size;omega) _);have hszx:PB<(x.setCell ⟨g.heap.size,k,none⟩ (Z G ((c+D) % 65536))).heap.size:=(by have:=F.size;simp[World.setCell];omega);have hzl2:(zs++[(c+D) % 65536]).length=k+1:=(by simp[Y]);generalize x.setCell _ _=WX at *;clear hrefl hdrew cx fx F HS HS2 HCX HGU c9 f9 p0 p1 p2 hand hgd X;go_wp2;go_roundw
    case rel=>exact ⟨k+1,pos+m,zs++[(c+D) % 65536],oM,gN,hzl2,HRK2,HTX,hox,HPX,HBX,hszx⟩
    case measure=>simp[intOf];omega
  ·obtain rfl:k=N:=oM;have hd:decide ((k:Int)<(k:Int))=false:=sS;have HRSZ:=qH (HRS.1 pos zs ab.out);have ag:wr.heap[w.heap.size]?=some (.cells #[Z G 0,Z G 0,J none 0 0] 54 (0,0)):=(by rw[B.out.block _ h05];exact HR5.1);have q0:wr.cell? ⟨w.heap.size,0,none⟩=some (Z G 0):=kb ag _;have q1:wr.cell? ⟨w.heap.size,1,none⟩=some (Z G 0):=kb ag _;have q2:wr.cell? ⟨w.heap.size,2,none⟩=some (J none 0 0):=kb ag _;obtain ⟨f0,f1,f2⟩:=fZ ag;have p0:wr.cell? ⟨PB,0,none⟩=some (Z G W):=kb Q.out _;have p1:wr.cell? ⟨PB,1,none⟩=some (Z G H):=kb Q.out _;have p2:wr.cell? ⟨PB,2,none⟩=some (J (some ⟨g.heap.size,0,none⟩) k k):=kb Q.out _;have HWR:=qH (O.1.trans ((P.1.trans (B.out.mono P.1.size)).mono O.1.size));have hdl:(b.drop pos).length<=281474976710656:=(by rw[xa];omega);have hR6:w.heap.size<g.heap.size:=oM;have hRP:w.heap.size≠PB:=oM;cases hf:jq (b.drop pos) with
   | false =>
    have C:=qH (show bp s.data.toList W H kind xs=1 by rw[HRE.1,HRSZ.1,hf];rfl);clear V;(go_wp2_with (first|(go_at_call 218;refine (ve y z b _ _ ac.out).mono ?_;rintro e x ⟨rfl,rfl⟩)|(go_at_call 204;refine (u6 _ hdl _).mono ?_;rintro e x ⟨rfl,rfl⟩;rw[hf])));refine bodyPost_ret (v:=.tuple #[.agg #[Z G 0,Z G 0,J none 0 0],Z G 1]) (by simp[results,results167,go_sem,q0,q1,q2]) rfl ⟨J none 0 0,?_,?_,?_⟩
    ·rw[dQ,dP,C.1];rfl
    ·rw[cD,C.1];exact ap.nil _
    ·exact ((HWR.1.setCell (p:=⟨w.heap.size,0,none⟩) (kc _) _).setCell (p:=⟨w.heap.size,1,none⟩) (kc _) _).setCell (p:=⟨w.heap.size,2,none⟩) (kc _) _
   | true =>
    have HNS:=qH (show dY s.data.toList W H kind xs=some zs by rw[HRSZ.1,hf];rfl);have C:=qH (show bp s.data.toList W H kind xs=0 by rw[HRE.1,HNS.1];rfl);have HOW:=qH (((ownsRow_setCell_below (ownsRow_setCell_below (ownsRow_setCell_below V (a:=⟨w.heap.size,0,none⟩) hR6 (Z G W)) (a:=⟨w.heap.size,1,none⟩) hR6 (Z G H)) (a:=⟨w.heap.size,2,none⟩) hR6 (J (some ⟨g.heap.size,0,none⟩) k k))));clear V;(go_wp2_with (first|(go_at_call 218;refine (ve y z b _ _ ac.out).mono ?_;rintro e x ⟨rfl,rfl⟩)|(go_at_call 204;refine (u6 _ hdl _).mono ?_;rintro e x ⟨rfl,rfl⟩;rw[hf])));refine bodyPost_ret (v:=.tuple #[.agg #[Z G W,Z G H,J (some ⟨g.heap.size,0,none⟩) k k],Z G 0]) (by simp[results,results167,go_sem,q0,q1,q2]) rfl ⟨J (some ⟨g.heap.size,0,none⟩) k k,?_,?_,?_⟩
    ·rw[dQ,dP,C.1];rfl
    ·rw[cD,C.1,if_pos rfl,HNS.1];have h:=HOW.1;rw[<-Y,tw] at h;rw[<-Y];show ap _ _ zs;exact ap.own h oM
    ·exact ((HWR.1.setCell (p:=⟨w.heap.size,0,none⟩) (kc _) _).setCell (p:=⟨w.heap.size,1,none⟩) (kc _) _).setCell (p:=⟨w.heap.size,2,none⟩) (kc _) _
theorem EF (s:ByteArray) (W H kind:Int) (v:Value) (xs:List Int) (w:World) (y:ap w v xs) :
  Calls prog 167 #[.string s,Z G W,Z G H,Z G kind,v] w fun e w'=>∃r,e=.returned (.tuple #[.agg #[Z G (dQ s.data.toList W H kind xs),Z G (dP s.data.toList W H kind xs),r],Z G (bp s.data.toList W H kind xs)])/\ap w' r (cD s.data.toList W H kind xs)/\Below w.heap.size w w':=by
 by_cases g:aM W=true
 ·by_cases i:aM H=true
  ·by_cases n:eC kind=true
   ·by_cases x:aU xs=0
    ·have R:1<=W/\W<=64:=(by simpa [aM] using g);have S:1<=H/\H<=64:=(by simpa [aM] using i);obtain ⟨A,rfl⟩:=kd (show 0<=W from oM);obtain ⟨HN,rfl⟩:=kd (show 0<=H from oM);by_cases F:s.size<=(A*HN*30+7) / 8
     ·exact EH s A HN kind v xs w y g i n x F
     ·have d:=qH (show bp s.data.toList A HN kind xs=1 by
       have V:dY s.data.toList A HN kind xs=none:=(by rw[dY,kv,kv];exact if_neg (by rw[gj];exact F));rw[bp,if_pos ⟨g,i⟩,if_pos n,if_pos x,V];rfl)
      have T:=fq R S;obtain ⟨N,M⟩:=eX (A*HN);have U:(A:Int)*(HN:Int)=(N:Int):=(by rw[<-M];simp);rw[U] at T;rw[M] at F;clear M;have X:decide (((N:Int)*30+7) / 8<(s.size:Int))=true:=sO;have L:=qH y;have Q:=qH x;clear F y x;go_enter func167,ntmps167;(go_wp2_with fail);have m:=heap_alloc_new w (ka #[Z G 0,Z G 0,J none 0 0] 54);have j:=qH (aq w (ka #[Z G 0,Z G 0,J none 0 0] 54));have o:w.heap.size<(w.alloc (ka #[Z G 0,Z G 0,J none 0 0] 54)).heap.size:=sS;generalize w.alloc _=I at *;refine (fP _ _).mono ?_;rintro e w1 ⟨rfl,f⟩;rw[g];(go_wp2_with fail);refine (fP _ _).mono ?_;rintro e w2 ⟨rfl,k⟩;rw[i];(go_wp2_with (go_at_call 175;refine (me _ _).mono ?_;rintro e P ⟨rfl,rfl⟩;rw[n]));have z:=qH (aG f k);refine (qG _ _ _ ((L.1.below j.1 (kc _)).below z.1 (kc _)) Q.1).mono ?_;rintro e a ⟨r,rfl,O,B⟩;have c:=qH (aG z.1 B);clear O f k B z;have l:=qH (aG j.1 c.1);have b:a.heap[w.heap.size]?=some (.cells #[Z G 0,Z G 0,J none 0 0] 54 (0,0)):=(by rw[c.1.block _ o];exact m);have q:a.cell? ⟨w.heap.size,0,none⟩=some (Z G 0):=kb b _;have t:a.cell? ⟨w.heap.size,1,none⟩=some (Z G 0):=kb b _;have u:a.cell? ⟨w.heap.size,2,none⟩=some (J none 0 0):=kb b _;obtain ⟨C,D,E⟩:=fZ b;(go_wp2_with (go_at_call 201;refine (vy _ oM oM _).mono ?_;rintro e P ⟨rfl,rfl⟩));refine bodyPost_ret (v:=.tuple #[.agg #[Z G 0,Z G 0,J none 0 0],Z G 1]) (by simp[results,results167,go_sem,q,t,u]) rfl ⟨J none 0 0,?_,?_,?_⟩
      ·rw[dQ,dP,d.1];simp
      ·rw[cD,d.1];exact ap.nil _
      ·exact ((l.1.setCell (p:=⟨w.heap.size,0,none⟩) (kc _) _).setCell (p:=⟨w.heap.size,1,none⟩) (kc _) _).setCell (p:=⟨w.heap.size,2,none⟩) (kc _) _
    ·have d:=qH (show bp s.data.toList W H kind xs=aU xs by rw[bp,if_pos ⟨g,i⟩,if_pos n,if_neg x]);have Y:(aU xs != 0)=true:=(by simpa using x);have K:=qH x;have L:=qH y;clear x y;go_enter func167,ntmps167;(go_wp2_with fail);have m:=heap_alloc_new w (ka #[Z G 0,Z G 0,J none 0 0] 54);have j:=qH (aq w (ka #[Z G 0,Z G 0,J none 0 0] 54));have o:w.heap.size<(w.alloc (ka #[Z G 0,Z G 0,J none 0 0] 54)).heap.size:=sS;generalize w.alloc _=I at *;refine (fP _ _).mono ?_;rintro e w1 ⟨rfl,f⟩;rw[g];(go_wp2_with fail);refine (fP _ _).mono ?_;rintro e w2 ⟨rfl,k⟩;rw[i];(go_wp2_with (go_at_call 175;refine (me _ _).mono ?_;rintro e P ⟨rfl,rfl⟩;rw[n]));have z:=qH (aG f k);refine (yx _ _ _ ((L.1.below j.1 (kc _)).below z.1 (kc _))).mono ?_;rintro e a ⟨r,rfl,O,B⟩;have c:=qH (aG z.1 B);clear O f k B z;have l:=qH (aG j.1 c.1);have b:a.heap[w.heap.size]?=some (.cells #[Z G 0,Z G 0,J none 0 0] 54 (0,0)):=(by rw[c.1.block _ o];exact m);have q:a.cell? ⟨w.heap.size,0,none⟩=some (Z G 0):=kb b _;have t:a.cell? ⟨w.heap.size,1,none⟩=some (Z G 0):=kb b _;have u:a.cell? ⟨w.heap.size,2,none⟩=some (J none 0 0):=kb b _;obtain ⟨C,D,E⟩:=fZ b;go_wp2;refine bodyPost_ret (v:=.tuple #[.agg #[Z G 0,Z G 0,J none 0 0],Z G (aU xs)]) (by simp[results,results167,go_sem,q,t,u]) rfl ⟨J none 0 0,?_,?_,?_⟩
     ·rw[dQ,dP,d.1,if_neg K.1,if_neg K.1]
     ·rw[cD,d.1,if_neg K.1];exact ap.nil _
     ·exact ((l.1.setCell (p:=⟨w.heap.size,0,none⟩) (kc _) _).setCell (p:=⟨w.heap.size,1,none⟩) (kc _) _).setCell (p:=⟨w.heap.size,2,none⟩) (kc _) _
   ·have d:=qH (show bp s.data.toList W H kind xs=6 by rw[bp,if_pos ⟨g,i⟩,if_neg n]);have n:eC kind=false:=(by simpa using n);clear y;go_enter func167,ntmps167;(go_wp2_with fail);have m:=heap_alloc_new w (ka #[Z G 0,Z G 0,J none 0 0] 54);have j:=qH (aq w (ka #[Z G 0,Z G 0,J none 0 0] 54));have o:w.heap.size<(w.alloc (ka #[Z G 0,Z G 0,J none 0 0] 54)).heap.size:=sS;generalize w.alloc _=I at *;refine (fP _ _).mono ?_;rintro e w1 ⟨rfl,f⟩;rw[g];(go_wp2_with fail);refine (fP _ _).mono ?_;rintro e a ⟨rfl,k⟩;rw[i];have c:=qH (aG f k);clear f k;have l:=qH (aG j.1 c.1);have b:a.heap[w.heap.size]?=some (.cells #[Z G 0,Z G 0,J none 0 0] 54 (0,0)):=(by rw[c.1.block _ o];exact m);have q:a.cell? ⟨w.heap.size,0,none⟩=some (Z G 0):=kb b _;have t:a.cell? ⟨w.heap.size,1,none⟩=some (Z G 0):=kb b _;have u:a.cell? ⟨w.heap.size,2,none⟩=some (J none 0 0):=kb b _;obtain ⟨C,D,E⟩:=fZ b;(go_wp2_with (go_at_call 175;refine (me _ _).mono ?_;rintro e P ⟨rfl,rfl⟩;rw[n]));refine bodyPost_ret (v:=.tuple #[.agg #[Z G 0,Z G 0,J none 0 0],Z G 6]) (by simp[results,results167,go_sem,q,t,u]) rfl ⟨J none 0 0,?_,?_,?_⟩
    ·rw[dQ,dP,d.1];simp
    ·rw[cD,d.1];exact ap.nil _
    ·exact ((l.1.setCell (p:=⟨w.heap.size,0,none⟩) (kc _) _).setCell (p:=⟨w.heap.size,1,none⟩) (kc _) _).setCell (p:=⟨w.heap.size,2,none⟩) (kc _) _
  ·have d:=qH (show bp s.data.toList W H kind xs=3 by rw[bp,if_neg (fun h=>i h.2)]);have i:aM H=false:=(by simpa using i);clear y;go_enter func167,ntmps167;(go_wp2_with fail);have m:=heap_alloc_new w (ka #[Z G 0,Z G 0,J none 0 0] 54);have j:=qH (aq w (ka #[Z G 0,Z G 0,J none 0 0] 54));have o:w.heap.size<(w.alloc (ka #[Z G 0,Z G 0,J none 0 0] 54)).heap.size:=sS;generalize w.alloc _=I at *;refine (fP _ _).mono ?_;rintro e w1 ⟨rfl,f⟩;rw[g];(go_wp2_with fail);refine (fP _ _).mono ?_;rintro e a ⟨rfl,k⟩;rw[i];have c:=qH (aG f k);clear f k;have l:=qH (aG j.1 c.1);have b:a.heap[w.heap.size]?=some (.cells #[Z G 0,Z G 0,J none 0 0] 54 (0,0)):=(by rw[c.1.block _ o];exact m);have q:a.cell? ⟨w.heap.size,0,none⟩=some (Z G 0):=kb b _;have t:a.cell? ⟨w.heap.size,1,none⟩=some (Z G 0):=kb b _;have u:a.cell? ⟨w.heap.size,2,none⟩=some (J none 0 0):=kb b _;obtain ⟨C,D,E⟩:=fZ b;go_wp2;refine bodyPost_ret (v:=.tuple #[.agg #[Z G 0,Z G 0,J none 0 0],Z G 3]) (by simp[results,results167,go_sem,q,t,u]) rfl ⟨J none 0 0,?_,?_,?_⟩
   ·rw[dQ,dP,d.1];simp
   ·rw[cD,d.1];exact ap.nil _
   ·exact ((l.1.setCell (p:=⟨w.heap.size,0,none⟩) (kc _) _).setCell (p:=⟨w.heap.size,1,none⟩) (kc _) _).setCell (p:=⟨w.heap.size,2,none⟩) (kc _) _
 ·have d:=qH (show bp s.data.toList W H kind xs=3 by rw[bp,if_neg (fun h=>g h.1)]);have g:aM W=false:=by simpa using g
  clear y;go_enter func167,ntmps167;go_wp2_with fail
  have m:=heap_alloc_new w (ka #[Z G 0,Z G 0,J none 0 0] 54);have j:=qH (aq w (ka #[Z G 0,Z G 0,J none 0 0] 54));have o:w.heap.size<(w.alloc (ka #[Z G 0,Z G 0,J none 0 0] 54)).heap.size:=sS;generalize w.alloc _=I at *;refine (fP _ _).mono ?_;rintro e a ⟨rfl,f⟩;rw[g];have c:=qH f;clear f;have l:=qH (aG j.1 c.1);have b:a.heap[w.heap.size]?=some (.cells #[Z G 0,Z G 0,J none 0 0] 54 (0,0)):=by rw[c.1.block _ o];exact m
  have q:a.cell? ⟨w.heap.size,0,none⟩=some (Z G 0):=kb b _;have t:a.cell? ⟨w.heap.size,1,none⟩=some (Z G 0):=kb b _;have u:a.cell? ⟨w.heap.size,2,none⟩=some (J none 0 0):=kb b _;obtain ⟨C,D,E⟩:=fZ b;go_wp2;refine bodyPost_ret (v:=.tuple #[.agg #[Z G 0,Z G 0,J none 0 0],Z G 3]) (by simp[results,results167,go_sem,q,t,u]) rfl ⟨J none 0 0,?_,?_,?_⟩
  ·rw[dQ,dP,d.1];simp
  ·rw[cD,d.1];exact ap.nil _
  ·exact ((l.1.setCell (p:=⟨w.heap.size,0,none⟩) (kc _) _).setCell (p:=⟨w.heap.size,1,none⟩) (kc _) _).setCell (p:=⟨w.heap.size,2,none⟩) (kc _) _
theorem yT (w:World):Calls prog 105 #[] w fun e w'=>∃r,e=.returned r/\ap w' r [2,3,3,4,4,4,5,5,5,6,6,6,7,7,7,8,8]/\Below w.heap.size w w':=by
 go_enter func105,ntmps105;go_wp2;go_ret;exact ⟨_,rfl,ap.own (base:=w.heap.size) (World.ownsRow_lit w #[Z G 2,Z G 3,Z G 3,Z G 4,Z G 4,Z G 4,Z G 5,Z G 5,Z G 5,Z G 6,Z G 6,Z G 6,Z G 7,Z G 7,Z G 7,Z G 8,Z G 8] 17 (kc _) dD dD) dD,aq _ _⟩
end Go.Proofs.YtfjeonehdlphiaaGreatDoor
