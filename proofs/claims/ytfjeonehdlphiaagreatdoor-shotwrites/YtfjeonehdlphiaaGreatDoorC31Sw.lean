/- Sw: part 31 of what the proofs need. -/
import Derived.Test.YtfjeonehdlphiaaGreatDoorC2Sw
import Derived.Test.YtfjeonehdlphiaaGreatDoorC3Sw
import Derived.Test.YtfjeonehdlphiaaGreatDoorC10Sw
import Derived.Test.YtfjeonehdlphiaaGreatDoorC30Sw
set_option linter.unusedVariables false
set_option maxHeartbeats 6400000
set_option maxRecDepth 100000
namespace Go.Proofs.YtfjeonehdlphiaaGreatDoor
open Go.RowKit
def XUXS (s:List UInt8):Prop:=∀(a b:Nat) (d:Bool) (r:List UInt8),1≤a→a≤64→1≤b→b≤64→s≠headT a b (hdM d)++r
theorem qU0Y {s:List UInt8} (h:jaI1 (guess s).1 (guess s).2.1 (guess s).2.2=false):XUXS s:=by
 intro a b d r h1 h2 h3 h4 e
 have hg:=ji4T (a:=a) (b:=b) (by omega) (by omega) d r
 rw[←e] at hg
 rw[hg] at h
 have:=jwGN d h1 h2 h3 h4
 rw[this] at h
 cases h
theorem X0u4 {s:List UInt8} {x y:Nat} {d:Bool} (hg:guess s=((x:Int),(y:Int),((hdM d:Nat):Int))) (h:Lib.hasPrefix s (headT x y (hdM d))=false):XUXS s:=by
 intro a b d' r h1 h2 h3 h4 e
 have hg2:=ji4T (a:=a) (b:=b) (by omega) (by omega) d' r
 rw[←e,hg] at hg2
 simp only[Prod.mk.injEq] at hg2
 obtain ⟨e1,e2,e3⟩:=hg2
 have ea:x=a:=by omega
 have eb:y=b:=by omega
 have ed:d=d':=qxjb (by omega)
 subst ea eb ed
 rw[e,Lib.hasPrefix] at h
 rw[List.isPrefixOf_iff_prefix.2 ⟨r,rfl⟩] at h
 cases h
theorem qtWN {s p:List UInt8} (h:Lib.hasPrefix s p=true):s=p++Lib.trimPrefix s p:=by
 rw[Lib.trimPrefix,if_pos h]
 obtain ⟨r,rfl⟩:=List.isPrefixOf_iff_prefix.1 h
 simp
theorem q1HI (s:List UInt8) (hs:s.length≤140737488355328) (w:World) (hp:PowAt w):Calls Tryz.prog 36 #[.string (str s)] w fun e w'=>Below w.heap.size w w' ∧
    ((∃(x y:Nat) (d:Bool) (L:List UInt8),e=.returned (.tuple #[.agg #[.int .i64 x,.int .i64 y,.int .i64 (hdM d:Nat)],.string (str L),.bool true])∧1≤x∧x≤64∧1≤y∧y≤64∧s=headT x y (hdM d)++L) ∨
     (∃(a b c:Int) (L:List UInt8),e=.returned (.tuple #[.agg #[.int .i64 a,.int .i64 b,.int .i64 c],.string (str L),.bool false])∧XUXS s)):=by
  have HG:=hide (fun u=>Xowz s hs u)
  have HP:=hide (fun (u:World) (hu:Below w.heap.size w u)=>hp.below hu (Nat.le_refl _))
  have HR:=hide (fun u=>j8Wp (guess s).1 (guess s).2.1 (guess s).2.2 u)
  have HNR:=hide (fun h=>qU0Y (s:=s) h)
  obtain ⟨a,b,c,hg⟩:∃a b c,guess s=(a,b,c):=⟨_,_,_,rfl⟩
  rw[hg] at HG HR HNR
  simp only at HG HR HNR
  have HGG:=hide hg
  clear hg
  have a1:=al1 w (Obj.cells #[.int .i64 0,.int .i64 0,.int .i64 0] 82)
  have HB:=hide (qUNz w (Obj.cells #[.int .i64 0,.int .i64 0,.int .i64 0] 82))
  have hl1:=(Array.getElem?_eq_some_iff.1 a1).1
  go_enter Tryz.func36,Tryz.ntmps36
  go_wp2_with fail
  generalize w.alloc (Obj.cells #[.int .i64 0,.int .i64 0,.int .i64 0] 82)=U at *
  refine (HG.out U).mono ?_
  rintro e V1 ⟨rfl,hb1⟩
  have t1:=al1 V1 (Obj.cells #[.int .i64 a,.int .i64 b,.int .i64 c] 82)
  have hb2:=quJN hb1 (qUNz V1 (Obj.cells #[.int .i64 a,.int .i64 b,.int .i64 c] 82))
  have HSZ:=hide hb1.size
  obtain ⟨p0,p1,p2⟩:=z5EY t1
  have lt1:=(Array.getElem?_eq_some_iff.1 t1).1
  clear hb1
  go_wp2_with fail
  clear p0 p1 p2
  generalize V1.alloc (Obj.cells #[.int .i64 a,.int .i64 b,.int .i64 c] 82)=U1 at *
  refine (HR.out U1).mono ?_
  rintro e V2 ⟨rfl,hb3⟩
  have k0:=((quJN hb2 hb3).block _ hl1).trans a1
  have k1:=(hb3.block _ lt1).trans t1
  have hbb:=quJN (quJN HB.out hb2) hb3
  clear hb2 hb3 a1 t1 lt1
  by_cases hrt:jaI1 a b c=true
  rotate_left
  · replace hrt : jaI1 a b c = false := by simpa using hrt
    have HNH:=hide (HNR.out hrt)
    rw[hrt]
    obtain ⟨z0,z1,z2⟩:=z5EY k0
    have f0:=Lib.frozen_of_heap k0 0
    have f1:=Lib.frozen_of_heap k0 1
    have f2:=Lib.frozen_of_heap k0 2
    have HF:=hide (zHqh hbb (Nat.le_refl _) (.int .i64 0) (.int .i64 0) (.int .i64 0))
    clear hrt HR HNR HG
    go_wp2
    refine bodyPost_ret (v:=.tuple #[.agg #[.int .i64 0,.int .i64 0,.int .i64 0],.string ByteArray.empty,.bool false]) (by simp[results,Tryz.results36,go_sem,z0,z1,z2];rfl) rfl ⟨HF.out,.inr ⟨0,0,0,[],rfl,HNH.out⟩⟩
  rw[hrt]
  obtain ⟨x,y,d,rfl,rfl,rfl,h1,h2,h3,h4⟩:=XNJM hrt
  have HT:=hide (fun (u:World) (hu:PowAt u)=>qihl x y (hdM d) (by omega) (by omega) (by cases d<;>decide) u hu)
  have hpw:=HP.out _ hbb
  obtain ⟨p0,p1,p2⟩:=z5EY k1
  have hl2:=(Array.getElem?_eq_some_iff.1 k1).1
  have hl3:=(Array.getElem?_eq_some_iff.1 k0).1
  have HYES:=hide (fun (h:Lib.hasPrefix s (headT x y (hdM d))=true)=>qtWN h)
  have HNO:=hide (fun (h:Lib.hasPrefix s (headT x y (hdM d))=false)=>X0u4 HGG.out h)
  have HCP:=hide (fun (u:World)=>Tryz.strings_CutPrefix (str s) (str (headT x y (hdM d))) u)
  have H14:=hide (And.intro h1 (And.intro h2 (And.intro h3 h4)))
  clear hrt HR HNR HG HGG h1 h2 h3 h4
  generalize hHH:headT x y (hdM d)=HH at *
  have HHH:=hide hHH
  clear hHH
  generalize hCC:((hdM d:Nat):Int)=C at *
  have HCC:=hide hCC
  clear hCC
  go_wp2_with fail
  refine (HT.out V2 hpw).mono ?_
  rintro e V3 ⟨rfl,hb4⟩
  clear p0 p1 p2
  go_wp2_with fail
  refine (HCP.out V3).mono ?_
  rintro e V4 ⟨rfl,rfl⟩
  replace k0:=(hb4.block _ hl3).trans k0
  replace k1:=(hb4.block _ hl2).trans k1
  replace hbb:=quJN hbb hb4
  obtain ⟨p0,p1,p2⟩:=z5EY k1
  obtain ⟨z0,z1,z2⟩:=z5EY k0
  have f0:=Lib.frozen_of_heap k0 0
  have f1:=Lib.frozen_of_heap k0 1
  have f2:=Lib.frozen_of_heap k0 2
  have hne:V1.heap.size≠w.heap.size:=by have:=HSZ.out;omega
  have HF:=hide (zHqh hbb (Nat.le_refl _) (.int .i64 x) (.int .i64 y) (.int .i64 C))
  simp only[jrcE]
  have HLS:=hide (show ∀l:List UInt8,(⟨l.toArray⟩:ByteArray)=str l from fun _=>rfl)
  rw[HLS.out]
  obtain ⟨LL,hLL⟩:∃LL,Lib.trimPrefix s HH=LL:=⟨_,rfl⟩
  rw[hLL] at HYES ⊢
  have HLL:=hide hLL
  clear hLL
  generalize Lib.hasPrefix s HH=OK at *
  clear hb4 hpw HT HCP HP
  go_wp2
  refine bodyPost_ret (v:=.tuple #[.agg #[.int .i64 x,.int .i64 y,.int .i64 C],.string (str LL),.bool OK]) (by simp[results,Tryz.results36,go_sem,z0,z1,z2];rfl) rfl ⟨HF.out,?_⟩
  cases OK
  · exact .inr ⟨_, _, _, LL, rfl, HNO.out rfl⟩
  · exact .inl ⟨x, y, d, LL, by rw [HCC.out], H14.out.1, H14.out.2.1, H14.out.2.2.1, H14.out.2.2.2, by rw [HHH.out]; exact HYES.out rfl⟩
theorem zIAl (n:Nat) (hn:n<10) (w:World):Calls Tryz.prog 98 #[.int .i64 n] w fun e w'=>e=.returned (.string (str (dig n)))∧Below w.heap.size w w':=by
 obtain ⟨c,hc⟩:∃c:Nat,c=48+n:=⟨_,rfl⟩
 have hr:(n:Int).tmod 10=(n:Int):=by rw[Int.tmod_eq_emod_of_nonneg (by omega)];omega
 have hw:IntKind.u8.wrap (48+(n:Int))=(c:Int):=by rw[IntKind.wrap_u8];omega
 have HF:=hide (show dig n=[UInt8.ofNat c] by rw[dig,Lib.decDigits_one hn,hc])
 have hcv:=fun (wx:World) (g:Nat) (c:Int)=>@jPHi Tryz.prog wx _ _ _ g c Tryz.underlying74 Tryz.underlying5 Tryz.underlying9
 clear hc
 go_enter Tryz.func98,Tryz.ntmps98
 go_wp2
 go_ret
 exact ⟨congrArg (fun l=>Ending.returned (.string (str l))) HF.out.symm,qUNz _ _⟩
theorem jRnR (n:Nat) (hn:n<100) (w:World):Calls Tryz.prog 98 #[.int .i64 n] w fun e w'=>e=.returned (.string (str (dig n)))∧Below w.heap.size w w':=by
 by_cases h1:n<10
 ·exact zIAl n h1 w
 obtain ⟨r,hr⟩:∃r:Nat,r=n % 10:=⟨_,rfl⟩
 obtain ⟨m,hm⟩:∃m:Nat,m=n / 10:=⟨_,rfl⟩
 obtain ⟨c,hc⟩:∃c:Nat,c=48+r:=⟨_,rfl⟩
 have hr2:(n:Int).tmod 10=(r:Int):=by rw[Int.tmod_eq_emod_of_nonneg (by omega)];omega
 have hq:IntKind.i64.wrap ((n:Int) / 10)=(m:Int):=by rw[IntKind.wrap_i64];omega
 have hm9:m<10:=by omega
 have hr9:r<10:=by omega
 have HM:=hide (fun u=>zIAl m hm9 u)
 have HF:=hide (show dig n=dig m++[UInt8.ofNat c] by rw[dig,dig,Lib.decDigits_two h1 hn,Lib.decDigits_one hm9,hc,hr,hm];rfl)
 have hw:IntKind.u8.wrap (48+(r:Int))=(c:Int):=by rw[IntKind.wrap_u8];omega
 have hcv:=fun (wx:World) (g:Nat) (c:Int)=>@jPHi Tryz.prog wx _ _ _ g c Tryz.underlying74 Tryz.underlying5 Tryz.underlying9
 have hd:decide ((n:Int)<10)=false:=by simp;omega
 have hs1:(str (dig m)).size=1:=by rw[qzX5,dig,Lib.decDigits_one hm9];rfl
 have hs2:(str [UInt8.ofNat c]).size=1:=by rw[qzX5];rfl
 clear hc hr hm
 go_enter Tryz.func98,Tryz.ntmps98
 go_wp2_with fail
 refine (HM.out _).mono ?_
 rintro e w1 ⟨rfl,hb⟩
 have HB:=hide (quJN (qUNz w (Obj.cells #[.int .u8 (c:Int)] 5)) hb)
 clear hb
 go_wp2
 go_ret
 refine ⟨?_,HB.out⟩
 rw[HF.out,←jEJa];rfl
theorem zXUV (a b:Nat) (ha:a<100) (hb:b<100) (deep:Bool) (w:World):Calls Tryz.prog 34 #[.int .i64 a,.int .i64 b,.bool deep] w fun e w'=>e=.returned (.string (str (headT a b (hdM deep))))∧Below w.heap.size w w':=by
 have HA:=hide (fun u=>jRnR a ha u)
 have HB:=hide (fun u=>jRnR b hb u)
 have h5:∀n,n<100→(dig n).length≤2:=fun n hn=>by
  by_cases h:n<10
  ·rw[dig,Lib.decDigits_one h];simp
  ·rw[dig,Lib.decDigits_two h hn];simp
 have HF:=hide (show str (headT a b (hdM deep))=((((str [80,54,10]++str (dig a))++str [32])++str (dig b))++str [10])++str (dig (hdM deep))++str [10] by
  simp only[jEJa,headT,List.append_assoc])
 have hA:(str (dig a)).size≤2:=by rw[qzX5];exact h5 a ha
 have hB:(str (dig b)).size≤2:=by rw[qzX5];exact h5 b hb
 have HT:Hid (str (dig (hdM deep))=if deep then ⟨#[54,53,53,51,53]⟩ else ⟨#[50,53,53]⟩):=by
  cases deep
  ·exact (congrArg str z4Wu)
  ·exact (congrArg str ja9Q)
 clear h5 ha hb
 generalize str (dig a)=DA at *
 generalize str (dig b)=DB at *
 generalize str (dig (hdM deep))=DT at *
 generalize str (headT a b (hdM deep))=RES at *
 cases deep
 ·have hT:=HT.out
  simp only[Bool.false_eq_true,if_false] at hT
  subst hT
  clear HT
  go_enter Tryz.func34,Tryz.ntmps34
  go_wp2_with fail
  refine (HA.out _).mono ?_
  rintro e w1 ⟨rfl,hb1⟩
  have HB1:=hide hb1
  clear hb1
  go_wp2_with fail
  refine (HB.out _).mono ?_
  rintro e w2 ⟨rfl,hb2⟩
  have HB2:=hide (quJN HB1.out hb2)
  clear hb2
  go_wp2
  go_ret
  exact ⟨by rw[HF.out];rfl,HB2.out⟩
 ·have hT:=HT.out
  simp only[if_true] at hT
  subst hT
  clear HT
  go_enter Tryz.func34,Tryz.ntmps34
  go_wp2_with fail
  refine (HA.out _).mono ?_
  rintro e w1 ⟨rfl,hb1⟩
  have HB1:=hide hb1
  clear hb1
  go_wp2_with fail
  refine (HB.out _).mono ?_
  rintro e w2 ⟨rfl,hb2⟩
  have HB2:=hide (quJN HB1.out hb2)
  clear hb2
  go_wp2
  go_ret
  exact ⟨by rw[HF.out];rfl,HB2.out⟩
def pK (p:Px) (k:Nat):Int:=if k=0 then p.1 else if k=1 then p.2.1 else p.2.2
def psB (deep:Bool) (p:Px) (k:Nat):List UInt8:=(List.range k).flatMap fun j=>prB deep (pK p j)
theorem j3iW (deep:Bool) (p:Px) (k:Nat):psB deep p (k+1)=psB deep p k++prB deep (pK p k):=by simp[psB,List.range_succ]
theorem zubx (deep:Bool) (p:Px):psB deep p 3=pxB deep p:=by
 rw[j3iW,j3iW,j3iW,pxB,List.append_assoc]
 rfl
theorem ztpX (deep:Bool) (p:Px):∀k,(psB deep p k).length≤2*k
 | 0=>by simp[psB]
 | k+1=>by
  have:=ztpX deep p k
  have h2:szP deep≤2:=by unfold szP;split<;>omega
  rw[j3iW,List.length_append,zssP];omega
theorem u8_w {x:Int} (h0:0≤x):IntKind.u8.wrap x=((u8 x).toNat:Int):=by rw[IntKind.wrap_u8,qgjv h0]
theorem zJ0c (deep:Bool) {x:Int} (h0:0≤x):∃y1 y2:UInt8,IntKind.u8.wrap (x / 256)=(y1.toNat:Int)∧IntKind.u8.wrap x=(y2.toNat:Int)∧prB deep x=if deep then [y1,y2] else [y1] :=
 ⟨u8 (x / 256),u8 x,u8_w (by omega),u8_w h0,rfl⟩
theorem MarkB.other {w w':World} {base:Nat} {e:TypeId} {v:Value} {l:List UInt8} {k:Nat} {cs:Array Value} {t:TypeId} {fr:Nat×Nat} (h:MarkB w base e v l) (hg:w.grownBy w' v.ownBlock) (hk:w.heap[k]?=some (.cells cs t fr)) (ht:t≠e):w'.heap[k]?=some (.cells cs t fr):=by
 obtain ⟨g,cap,cur,fz,rfl,_,h3,_⟩:=h
 refine (hg.block k (Array.getElem?_eq_some_iff.1 hk).1 (fun e=>?_)).trans hk
 simp only[Value.ownBlock,Option.some.injEq] at e
 subst e
 rw[h3] at hk
 cases hk
 exact ht rfl
theorem MarkB.keeps {w0 w w':World} {base B:Nat} {e:TypeId} {v:Value} {l:List UInt8} (h:MarkB w base e v l) (hg:w.grownBy w' v.ownBlock) (hb:Below B w0 w) (hB:B≤base) (hw:B≤w.heap.size):Below B w0 w':=by
 obtain ⟨g,cap,cur,fz,rfl,h2,_⟩:=h
 exact hb.grown hg hw (fun k hk=>by simp only[Value.ownBlock,Option.some.injEq] at hk;omega)
theorem zZBp (deep:Bool) (ps:List Px) (k:Nat) (h:k<ps.length):pixB deep (ps.take (k+1))=pixB deep (ps.take k)++pxB deep ps[k]:=by
 rw[List.take_succ_eq_append_getElem h,pixB,pixB,List.flatMap_append,List.flatMap_cons,List.flatMap_nil,List.append_nil]
theorem qbNo (W H:Nat) (hW:W≤64) (hH:H≤64) (v:Value) (ps:List Px) (hlen:ps.length=H*W) (hin:∀p∈ps,inP p.1∧inP p.2.1∧inP p.2.2) (deep:Bool) (w:World) (hv:IsPix w v ps) :
  Calls Tryz.prog 10 #[.agg #[.int .i64 W,.int .i64 H,v],.bool deep] w fun e w'=>e=.returned (.string (str (shotB W H ps deep)))∧Below w.heap.size w w':=by
 obtain ⟨i0,hi,hz0,hz1,hz2⟩:=info_parts Tryz.infoU8
 have hlb:ps.length≤4096:=by rw[hlen];exact Nat.le_trans (Nat.mul_le_mul hH hW) (by decide)
 have HV:=hide hv
 have HHD:=hide (fun u=>zXUV W H (by omega) (by omega) deep u)
 have HIN:=hide hin
 have HRES:=hide (show shotB W H ps deep=headT W H (hdM deep)++pixB deep ps by simp[shotB])
 have hhl:(headT W H (hdM deep)).length≤40:=zAed (a:=W) (b:=H) (c:=hdM deep) (by omega) (by omega) (by unfold hdM;split<;>omega) 3 (by omega)
 generalize shotB W H ps deep=RES at *
 generalize headT W H (hdM deep)=HD at *
 clear hlen hin hW hH
 obtain ⟨ao,ca,rfl,hla,hc⟩:=hv
 clear hc
 have a1:=al1 w (Obj.cells #[.int .i64 W,.int .i64 H,.slice ao ps.length ca] 24)
 have HB:=hide (qUNz w (Obj.cells #[.int .i64 W,.int .i64 H,.slice ao ps.length ca] 24))
 have hl1:=(Array.getElem?_eq_some_iff.1 a1).1
 obtain ⟨c0,c1,c2⟩:=z5EY a1
 go_enter Tryz.func10,Tryz.ntmps10
 go_wp2_with fail
 clear c0 c1 c2
 generalize w.alloc (Obj.cells #[.int .i64 W,.int .i64 H,.slice ao ps.length ca] 24)=U at *
 refine (HHD.out U).mono ?_
 rintro e w1 ⟨rfl,hb1⟩
 have g1:=(hb1.block _ hl1).trans a1
 have hl2:=(Array.getElem?_eq_some_iff.1 g1).1
 have HB1:=hide (quJN HB.out hb1)
 clear hb1 a1 HB hl1 HHD
 have hcv:=run_bytes_of_string (P:=Tryz.prog) w1 9 74 5 (str HD) Tryz.underlying9 Tryz.underlying74 Tryz.underlying5
 have HMK:=hide (qF6P w1 (w.heap.size+1) 5 HD (by omega) (by unfold maxLen;omega))
 generalize (Obj.cells (bytesRow (str HD) (grownCap w1 (str HD).size 0 5)) 5 ((bytesRow (str HD) (grownCap w1 (str HD).size 0 5)).size,(bytesRow (str HD) (grownCap w1 (str HD).size 0 5)).size+1))=OB at hcv HMK
 have HB2:=hide (quJN HB1.out (zJxs w1 OB))
 have g2:=((zJxs w1 OB).block _ hl2).trans g1
 generalize w1.drew.alloc OB=U2 at hcv HMK HB2 g2
 generalize Value.slice (some ⟨w1.heap.size,0,none⟩) (str HD).size (grownCap w1 (str HD).size 0 5)=bv at hcv HMK
 clear g1 hl2 HB1
 go_wp2_with fail
 clear hcv
 go_loopw [5,6] (fun b i wr=>∃k:Nat,k≤ps.length∧i=.int .i64 k∧MarkB wr (w.heap.size+1) 5 b (HD++pixB deep (ps.take k))∧wr.heap[w.heap.size]?=some (.cells #[.int .i64 W,.int .i64 H,.slice ao ps.length ca] 24 (0,0))∧Below w.heap.size w wr) (fun _ i _=>ps.length-(intOf i).toNat)
 case atStart=>exact ⟨0,Nat.zero_le _,rfl,by simpa [pixB] using HMK.out,g2,HB2.out⟩
 case round =>
  clear g2 HB2 HMK
  obtain ⟨k,hk,rfl,hM,g2,hB⟩:=hrel
  obtain ⟨c0,c1,c2⟩:=z5EY g2
  have HM:=hide hM
  have HB:=hide hB
  have hl2:=(Array.getElem?_eq_some_iff.1 g2).1
  clear hM hB
  by_cases hlt:k<ps.length
  ·have hd:decide ((k:Int)<(ps.length:Int))=true:=decide_eq_true (by omega)
   obtain ⟨bk,off,rfl,hbk,x0,x1,x2⟩:∃b off,ao=some ⟨b,off,none⟩∧b<wr.heap.size∧wr.cell? ⟨b,off+k*3,none⟩=some (.int .i64 ps[k].1)∧wr.cell? ⟨b,off+k*3+1,none⟩=some (.int .i64 ps[k].2.1)∧wr.cell? ⟨b,off+k*3+2,none⟩=some (.int .i64 ps[k].2.2):=by
    obtain ⟨ao',ca',hv',_,h'⟩:=HV.out.below HB.out (Nat.le_refl _)
    cases hv'
    rcases h' with h'|⟨b,off,h1,h2,h3⟩
    ·rw[h'] at hlt;simp at hlt
    ·exact ⟨b,off,h1,h2,h3 k hlt⟩
   have HIK:=hide (HIN.out _ (List.getElem_mem hlt))
   have HTK:=hide (zZBp deep ps k hlt)
   have hL0:(HD++pixB deep (ps.take k)).length≤40+6*4096:=by
    have h2:szP deep≤2:=by unfold szP;split<;>omega
    have h3:=Nat.mul_le_mul_right (3*k) h2
    rw[List.length_append,XF45,List.length_take,Nat.min_eq_left (by omega)]
    omega
   obtain ⟨⟨p1,p2,p3⟩,hp⟩:∃p,ps[k]=p:=⟨_,rfl⟩
   rw[hp] at x0 x1 x2 HIK HTK
   clear hp
   simp only at x0 x1 x2
   obtain ⟨L0,hL0d⟩:∃L0,HD++pixB deep (ps.take k)=L0:=⟨_,rfl⟩
   rw[hL0d] at HM hL0
   have HTK2:=hide (show HD++pixB deep (ps.take (k+1))=L0++psB deep (p1,p2,p3) 3 by rw[HTK.out,←List.append_assoc,hL0d,zubx])
   clear hL0d HTK
   have HPA:=hide (fun u=>zjXb (p1,p2,p3) u)
   go_wp2_with fail
   refine (HPA.out _).mono ?_
   rintro e V1 ⟨rfl,hb3⟩
   have t1:=al1 V1 (Obj.cells #[.int .i64 p1,.int .i64 p2,.int .i64 p3] 47)
   have hb4:=quJN hb3 (qUNz V1 (Obj.cells #[.int .i64 p1,.int .i64 p2,.int .i64 p3] 47))
   have g3:=(hb4.block _ hl2).trans g2
   have HM3:=hide (HM.out.block hb4.block)
   have HB3:=hide (quJN HB.out hb4)
   clear hb3 hb4 g2 hl2 HM HB x0 x1 x2 c0 c1 c2 HPA
   go_wp2_with fail
   generalize hU3:V1.alloc (Obj.cells #[.int .i64 p1,.int .i64 p2,.int .i64 p3] 47)=U3 at *
   clear hU3
   go_loopw [5,8] (fun b i wr=>∃q:Nat,q≤3∧i=.int .i64 q∧MarkB wr (w.heap.size+1) 5 b (L0++psB deep (p1,p2,p3) q)∧wr.heap[V1.heap.size]?=some (.cells #[.int .i64 p1,.int .i64 p2,.int .i64 p3] 47 (0,0))∧wr.heap[w.heap.size]?=some (.cells #[.int .i64 W,.int .i64 H,.slice (some ⟨bk,off,none⟩) ps.length ca] 24 (0,0))∧Below w.heap.size w wr) (fun _ i _=>3-(intOf i).toNat)
   case atStart=>exact ⟨0,Nat.zero_le _,rfl,by simpa [psB] using HM3.out,t1,g3,HB3.out⟩
   case round =>
    clear t1 g3 HB3 HM3
    obtain ⟨q,hq,rfl,hM,t1,g3,hB⟩:=hrel
    have HM:=hide hM
    have HB:=hide hB
    clear hM hB
    by_cases hq3:q<3
    ·have hdq:decide ((q:Int)<3)=true:=decide_eq_true (by omega)
     have hxc:∀u:World,u.heap[V1.heap.size]?=some (.cells #[.int .i64 p1,.int .i64 p2,.int .i64 p3] 47 (0,0))→u.cell? ⟨V1.heap.size,q,none⟩=some (.int .i64 (pK (p1,p2,p3) q)):=fun u hu=>by
      rw[Lib.cell_of_heap hu]
      rcases (show q=0∨q=1∨q=2 by omega) with rfl|rfl|rfl<;>rfl
     have hpin:inP (pK (p1,p2,p3) q):=by
      obtain ⟨h1,h2,h3⟩:=HIK.out
      unfold pK;split
      ·exact h1
      ·split<;>assumption
     have HPS:=hide (j3iW deep (p1,p2,p3) q)
     have hpl:=ztpX deep (p1,p2,p3) q
     obtain ⟨x,hx⟩:∃x,pK (p1,p2,p3) q=x:=⟨_,rfl⟩
     rw[hx] at hxc hpin HPS
     clear hx
     obtain ⟨hx0,hx1⟩:=hpin
     obtain ⟨LQ,hLQ⟩:∃LQ,L0++psB deep (p1,p2,p3) q=LQ:=⟨_,rfl⟩
     have hLl:LQ.length≤100000:=by rw[←hLQ,List.length_append];omega
     rw[hLQ] at HM
     have HPQ:=hide (show L0++psB deep (p1,p2,p3) (q+1)=LQ++prB deep x by rw[HPS.out,←List.append_assoc,hLQ])
     clear hLQ HPS hpl
     obtain ⟨y1,y2,hu1,hu2,hpr⟩:=zJ0c deep hx0
     have HPR:=hide hpr
     clear hpr
     have xc:=hxc _ t1
     have HX:=hide hxc
     clear hxc
     have lt1:=(Array.getElem?_eq_some_iff.1 t1).1
     have lg3:=(Array.getElem?_eq_some_iff.1 g3).1
     have hwq:=HB.out.size
     have HM1:=hide (HM.out.block (qUNz wr (Obj.cells #[.int .u8 (y1.toNat:Int)] 5)).block)
     have t2:=((qUNz wr (Obj.cells #[.int .u8 (y1.toNat:Int)] 5)).block _ lt1).trans t1
     have g4:=((qUNz wr (Obj.cells #[.int .u8 (y1.toNat:Int)] 5)).block _ lg3).trans g3
     have n1:(wr.alloc (Obj.cells #[.int .u8 (y1.toNat:Int)] 5)).cell? ⟨wr.heap.size,0,none⟩=some (.int .u8 y1.toNat):=by
      rw[Lib.cell_of_heap (al1 wr (Obj.cells #[.int .u8 (y1.toNat:Int)] 5))];rfl
     have HB1:=hide (quJN HB.out (qUNz wr (Obj.cells #[.int .u8 (y1.toNat:Int)] 5)))
     have HXX:=hide (show ∀(v2:Value) (w2:World),(wr.alloc (Obj.cells #[.int .u8 (y1.toNat:Int)] 5)).grownBy w2 (Value.ownBlock u5)→w2.heap[V1.heap.size]?=some (.cells #[.int .i64 p1,.int .i64 p2,.int .i64 p3] 47 (0,0))∧w2.cell? ⟨V1.heap.size,q,none⟩=some (.int .i64 x)∧w2.heap[w.heap.size]?=some (.cells #[.int .i64 W,.int .i64 H,.slice (some ⟨bk,off,none⟩) ps.length ca] 24 (0,0))∧Below w.heap.size w w2 from fun v2 w2 hg2=>by
      have t3:=HM1.out.other hg2 t2 (by decide)
      exact ⟨t3,HX.out _ t3,HM1.out.other hg2 g4 (by decide),HM1.out.keeps hg2 HB1.out (Nat.le_succ _) HB1.out.size⟩)
     clear t1 t2 g3 g4 HM HB lt1 lg3 HB1
     cases deep
     ·rw[if_neg (by decide)] at HPR
      go_wp2_with (at_builtin;refine q9aO _ rfl _ _ 74 rfl (w.heap.size+1) 5 i0 Tryz.underlying74 hi hz0 hz1 hz2 _ LQ rfl HM1.out wr.heap.size 0 1 y1 rfl n1 (by omega) (by simp;omega) ?_;intro v2 w2 hm2 hg2)
      obtain ⟨t3,_,g5,hB2⟩:=HXX.out v2 w2 hg2
      go_roundw
      case rel=>exact ⟨q+1,by omega,by go_num,by rw[HPQ.out,HPR.out];exact hm2,t3,g5,hB2⟩
      case measure=>simp[intOf];omega
     ·rw[if_pos rfl] at HPR
      have HYY:=hide (show ∀(v2:Value) (w2:World),MarkB w2 (w.heap.size+1) 5 v2 (LQ++[y1])→w2.heap[V1.heap.size]?=some (.cells #[.int .i64 p1,.int .i64 p2,.int .i64 p3] 47 (0,0))→w2.heap[w.heap.size]?=some (.cells #[.int .i64 W,.int .i64 H,.slice (some ⟨bk,off,none⟩) ps.length ca] 24 (0,0))→Below w.heap.size w w2→MarkB (w2.alloc (Obj.cells #[.int .u8 (y2.toNat:Int)] 5)) (w.heap.size+1) 5 v2 (LQ++[y1])∧(w2.alloc (Obj.cells #[.int .u8 (y2.toNat:Int)] 5)).cell? ⟨w2.heap.size,0,none⟩=some (.int .u8 y2.toNat)∧w.heap.size+1≤(w2.alloc (Obj.cells #[.int .u8 (y2.toNat:Int)] 5)).heap.size∧∀w3:World,(w2.alloc (Obj.cells #[.int .u8 (y2.toNat:Int)] 5)).grownBy w3 v2.ownBlock→w3.heap[V1.heap.size]?=some (.cells #[.int .i64 p1,.int .i64 p2,.int .i64 p3] 47 (0,0))∧w3.heap[w.heap.size]?=some (.cells #[.int .i64 W,.int .i64 H,.slice (some ⟨bk,off,none⟩) ps.length ca] 24 (0,0))∧Below w.heap.size w w3 from fun v2 w2 hm2 t3 g5 hB2=>by
       have hb:=qUNz w2 (Obj.cells #[.int .u8 (y2.toNat:Int)] 5)
       have t2:=(hb.block _ (Array.getElem?_eq_some_iff.1 t3).1).trans t3
       have g4:=(hb.block _ (Array.getElem?_eq_some_iff.1 g5).1).trans g5
       have hM:=hm2.block hb.block
       have hB:=quJN hB2 hb
       refine ⟨hM,?_,by have:=hB2.size;simp;omega,fun w3 hg3=>⟨hM.other hg3 t2 (by decide),hM.other hg3 g4 (by decide),hM.keeps hg3 hB (Nat.le_succ _) hB.size⟩⟩
       rw[Lib.cell_of_heap (al1 w2 (Obj.cells #[.int .u8 (y2.toNat:Int)] 5))];rfl)
      have hL2:(LQ++[y1]).length+1≤140737488355328:=by rw[List.length_append,List.length_singleton];omega
      go_wp2_with (at_builtin;first|(refine q9aO _ rfl _ _ 74 rfl (w.heap.size+1) 5 i0 Tryz.underlying74 hi hz0 hz1 hz2 _ LQ rfl HM1.out wr.heap.size 0 1 y1 rfl n1 (by omega) (by simp;omega) ?_;intro v2 w2 hm2 hg2;obtain ⟨t3,xc2,g5,hB2⟩:=HXX.out v2 w2 hg2)|(obtain ⟨m2,n2,b2,k2⟩:=HYY.out v2 w2 hm2 t3 g5 hB2;refine q9aO _ rfl _ _ 74 rfl (w.heap.size+1) 5 i0 Tryz.underlying74 hi hz0 hz1 hz2 _ (LQ++[y1]) rfl m2 w2.heap.size 0 1 y2 rfl n2 hL2 b2 ?_;intro v3 w3 hm3 hg3))
      obtain ⟨t4,g6,hB3⟩:=k2 w3 hg3
      go_roundw
      case rel=>exact ⟨q+1,by omega,by go_num,by rw[HPQ.out,HPR.out,show LQ++[y1,y2]=LQ++[y1]++[y2] by simp];exact hm3,t4,g6,hB3⟩
      case measure=>simp[intOf];omega
    ·obtain rfl:q=3:=by omega
     have HMF:=hide HM.out
     rw[←HTK2.out] at HMF
     go_wp2
     go_roundw
     case rel=>exact ⟨k+1,by omega,by go_num,HMF.out,g3,HB.out⟩
     case measure=>simp[intOf];omega
  ·have hd:decide ((k:Int)<(ps.length:Int))=false:=decide_eq_false (by omega)
   obtain rfl:k=ps.length:=by omega
   have HMF:=hide HM.out
   rw[List.take_of_length_le (Nat.le_refl _),←HRES.out] at HMF
   have hcv:=Xbmi (P:=Tryz.prog) (dst:=9) Tryz.underlying74 Tryz.underlying5 Tryz.underlying9 HMF.out
   clear HM HMF
   go_wp2
   go_ret
   exact ⟨rfl,HB.out⟩
end Go.Proofs.YtfjeonehdlphiaaGreatDoor
