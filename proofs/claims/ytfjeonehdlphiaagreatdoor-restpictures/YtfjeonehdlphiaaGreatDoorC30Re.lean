/- Re: part 30 of what the proofs need. -/
import Derived.Test.YtfjeonehdlphiaaGreatDoorC19Re
import Derived.Test.YtfjeonehdlphiaaGreatDoorC22Re
import Derived.Laws.EntriesVeiled
open Go.Obj renaming cells → ka
open Array renaming getElem?_eq_some_iff → kb
open Go.Lib renaming frozen_of_heap → kc, cell_of_heap → kd
open Go.Act renaming put → ke
open Nat renaming le_refl → kf, le_trans → ki, zero_le → kj, mul_le_mul_right → kl, succ_mul → km
open Int renaming eq_ofNat_of_zero_le → kg
open Go.IntWalk renaming i64_in → kh
set_option linter.unusedVariables false
set_option maxHeartbeats 16000000
set_option maxRecDepth 100000
namespace Go.Proofs.YtfjeonehdlphiaaGreatDoor
open Go.RowKit
def joyM (W H:Int) (ps:List Px) (amount:Int):Int:=if picOk W H ps=true then (if XbQH amount=true then 0 else 3) else 1
def jz1R (W H:Int) (ps:List Px) (amount:Int):List Px:=(List.range ps.length).map (zesK ps W.toNat H.toNat amount)
theorem qVlB (W H:Int) (v:Value) (ps:List Px) (amount:Int) (w:World) (hv:IsPix w v ps) :
  Calls Tryz.prog 278 #[.agg #[.int .i64 W,.int .i64 H,v],.int .i64 amount] w fun e w'=>∃r,e=.returned (.tuple #[.agg #[.int .i64 (okW (joyM W H ps amount) W),.int .i64 (okW (joyM W H ps amount) H),r],.int .i64 (joyM W H ps amount)])∧IsPix w' r (okL (joyM W H ps amount) (jz1R W H ps amount))∧Below w.heap.size w w'∧Fresh w.heap.size r:=by
 have HV:=hide hv
 obtain ⟨ao,ca,rfl,hla,hc⟩:=hv
 obtain ⟨E,hE⟩:∃E,joyM W H ps amount=E:=⟨_,rfl⟩
 rw[hE]
 by_cases hp:picOk W H ps=true
 ·by_cases hm:XbQH amount=true
  ·have he:E=0:=by rw[←hE,joyM,if_pos hp,if_pos hm]
   subst he
   clear hE
   have HAM:=hide (show 0≤amount∧amount≤1024 by simpa [XbQH] using hm)
   obtain ⟨⟨w1,w2⟩,⟨h1,h2⟩,hl,hpx⟩:=XMjn hp
   obtain ⟨WN,rfl⟩:=kg (show 0≤W by omega)
   obtain ⟨HN,rfl⟩:=kg (show 0≤H by omega)
   have HLEN:=hide (show ps.length=HN*WN by rw[Nat.mul_comm];exact_mod_cast hl)
   have HPX:=hide hpx
   have HSL:=hide (show jz1R (WN:Nat) (HN:Nat) ps amount=(List.range (HN*WN)).map (zesK ps WN HN amount) by rw[jz1R,HLEN.out];rfl)
   clear hl hpx
   go_enter Tryz.func278,Tryz.ntmps278
   go_wp2_with fail
   obtain ⟨a1,a2,a3⟩:=al3 w (ka #[.int .i64 (WN:Nat),.int .i64 (HN:Nat),.slice ao ps.length ca] 24) (ka #[.int .i64 amount] 3) (ka #[.int .i64 0,.int .i64 0,.slice none 0 0] 24)
   have hB:=be3 w (ka #[.int .i64 (WN:Nat),.int .i64 (HN:Nat),.slice ao ps.length ca] 24) (ka #[.int .i64 amount] 3) (ka #[.int .i64 0,.int .i64 0,.slice none 0 0] 24)
   have hs3:(((w.alloc (ka #[.int .i64 (WN:Nat),.int .i64 (HN:Nat),.slice ao ps.length ca] 24)).alloc (ka #[.int .i64 amount] 3)).alloc (ka #[.int .i64 0,.int .i64 0,.slice none 0 0] 24)).heap.size=w.heap.size+3:=by simp
   generalize ((w.alloc (ka #[.int .i64 (WN:Nat),.int .i64 (HN:Nat),.slice ao ps.length ca] 24)).alloc (ka #[.int .i64 amount] 3)).alloc (ka #[.int .i64 0,.int .i64 0,.slice none 0 0] 24)=U at *
   replace hs3:=Nat.le_of_eq hs3.symm
   refine (XDTU WN HN _ ps _ (HV.out.below hB (kf _))).mono ?_
   rintro e w1 ⟨rfl,hb1⟩
   rw[hp]
   have g1:=(hb1.block (w.heap.size) (by omega)).trans a1
   have g2:=(hb1.block (w.heap.size+1) (by omega)).trans a2
   have g3:=(hb1.block (w.heap.size+1+1) (by omega)).trans a3
   have l0:w1.cell? ⟨w.heap.size+1,0,none⟩=some (.int .i64 amount):=by rw[kd g2];rfl
   go_wp2_with fail
   refine (Xfvu _ _).mono ?_
   rintro e w2 ⟨rfl,hb2⟩
   rw[hm]
   clear l0
   replace hb2:=quJN hb1 hb2
   replace g1:=(hb2.block (w.heap.size) (by omega)).trans a1
   replace g2:=(hb2.block (w.heap.size+1) (by omega)).trans a2
   replace g3:=(hb2.block (w.heap.size+1+1) (by omega)).trans a3
   obtain ⟨p0,p1,p2⟩:=z5EY g1
   have hww:w.heap.size<w2.heap.size:=by have:=hb2.size;omega
   go_wp2_with fail
   obtain ⟨d1,d2⟩:=al2 w2 (ka #[.func (.func 279) #[] #[.pointer (some ⟨w.heap.size+1,0,none⟩)]] 184) (ka #[.int .i64 (WN:Nat),.int .i64 (HN:Nat)] 95)
   have hD:=be2 w2 (ka #[.func (.func 279) #[] #[.pointer (some ⟨w.heap.size+1,0,none⟩)]] 184) (ka #[.int .i64 (WN:Nat),.int .i64 (HN:Nat)] 95)
   have hsD:((w2.alloc (ka #[.func (.func 279) #[] #[.pointer (some ⟨w.heap.size+1,0,none⟩)]] 184)).alloc (ka #[.int .i64 (WN:Nat),.int .i64 (HN:Nat)] 95)).heap.size=w2.heap.size+2:=by simp
   generalize (w2.alloc (ka #[.func (.func 279) #[] #[.pointer (some ⟨w.heap.size+1,0,none⟩)]] 184)).alloc (ka #[.int .i64 (WN:Nat),.int .i64 (HN:Nat)] 95)=Z at *
   replace hsD:=Nat.le_of_eq hsD.symm
   have hb2s:=hb2.size
   have hbZ:=quJN hb2 hD
   refine (XMhx WN HN (HN*WN) (by omega) (by omega) rfl 280 _ (zesK ps WN HN amount) Z (enters_of Tryz.func280 (by kernel_rfl) rfl) ?_).mono ?_
   ·intro j M hj hM
    have hj':j<ps.length:=by rw[HLEN.out];exact hj
    obtain ⟨bk,off,hao,hbl,hcell⟩:∃b off,ao=some ⟨b,off,none⟩∧b<w.heap.size∧∀j (h:j<ps.length),
      w.cell? ⟨b,off+j*3,none⟩=some (.int .i64 ps[j].1)∧w.cell? ⟨b,off+j*3+1,none⟩=some (.int .i64 ps[j].2.1)∧w.cell? ⟨b,off+j*3+2,none⟩=some (.int .i64 ps[j].2.2):=by
     rcases hc with h|h
     ·subst h;simp at hj'
     ·exact h
    subst hao
    have hUM:=quJN hbZ hM
    have hwM:=hB.trans (hUM.mono hB.size)
    have hsM:=hM.size
    have m1:=(hUM.block w.heap.size (by omega)).trans a1
    have m2:=(hUM.block (w.heap.size+1) (by omega)).trans a2
    have m3:=(hM.block w2.heap.size (by omega)).trans d1
    have m4:=(hM.block (w2.heap.size+1) (by omega)).trans d2
    obtain ⟨e0,e1,e2⟩:=z5EY m1
    exact XNss WN HN j bk off ca (by omega) (by omega) (by omega) (by omega) amount HAM.out.1 HAM.out.2 ps HLEN.out HPX.out hj' w.heap.size (w2.heap.size+1) w2.heap.size (w.heap.size+1) M (by omega) (by omega) (by omega) (by omega) (by omega)
     e0 e1 e2 (by rw[kd m4];rfl) (by rw[kd m4];rfl) (by rw[kd m3];rfl) (by rw[kd m2];rfl) (fun i hi=>by
      obtain ⟨c0,c1,c2⟩:=hcell i hi
      rw[jD3W ps i hi] at c0 c1 c2
      exact ⟨(hwM.cell (p:=⟨bk,off+i*3,none⟩) hbl).trans c0,(hwM.cell (p:=⟨bk,off+i*3+1,none⟩) hbl).trans c1,(hwM.cell (p:=⟨bk,off+i*3+2,none⟩) hbl).trans c2⟩)
   ·rintro e w3 ⟨r,rfl,hr,hb3,hfr⟩
    clear p0 p1 p2
    rw[←HSL.out] at hr
    have hsl:(jz1R (WN:Nat) (HN:Nat) ps amount).length=ps.length:=by simp[jz1R]
    have HSLL:=hide hsl
    clear hsl
    replace hb3:=quJN hbZ hb3
    replace g3:=(hb3.block (w.heap.size+1+1) (by omega)).trans a3
    obtain ⟨z0,z1,z2⟩:=z5EY g3
    have f0:=kc g3 0
    have f1:=kc g3 1
    have f2:=kc g3 2
    have HR:=hide hr
    obtain ⟨ro,rc,rfl,_,_⟩:=hr
    have HFIN:=hide (zHqh (hB.trans (hb3.mono hB.size)) (show w.heap.size≤w.heap.size+1+1 by omega) (.int .i64 (WN:Nat)) (.int .i64 (HN:Nat)) (.slice ro (jz1R (WN:Nat) (HN:Nat) ps amount).length rc))
    have HPX2:=hide (HR.out.set3 hfr (show w.heap.size+1+1<Z.heap.size by omega) (.int .i64 (WN:Nat)) (.int .i64 (HN:Nat)) (.slice ro (jz1R (WN:Nat) (HN:Nat) ps amount).length rc))
    rw[HSLL.out] at HPX2 HFIN hfr
    rw[HSLL.out]
    go_wp2
    exact bodyPost_ret (v:=.tuple #[.agg #[.int .i64 (WN:Nat),.int .i64 (HN:Nat),.slice ro ps.length rc],.int .i64 0]) (by simp[results,Tryz.results278,go_sem,z0,z1,z2]) rfl ⟨_,rfl,HPX2.out,HFIN.out,hfr.mono (by omega)⟩
  ·have he:E=3:=by rw[←hE,joyM,if_pos hp,if_neg hm]
   have hm:XbQH amount=false:=by simpa using hm
   subst he
   clear hE
   go_enter Tryz.func278,Tryz.ntmps278
   go_wp2_with fail
   obtain ⟨a1,a2,a3⟩:=al3 w (ka #[.int .i64 W,.int .i64 H,.slice ao ps.length ca] 24) (ka #[.int .i64 amount] 3) (ka #[.int .i64 0,.int .i64 0,.slice none 0 0] 24)
   have hB:=be3 w (ka #[.int .i64 W,.int .i64 H,.slice ao ps.length ca] 24) (ka #[.int .i64 amount] 3) (ka #[.int .i64 0,.int .i64 0,.slice none 0 0] 24)
   have hs3:(((w.alloc (ka #[.int .i64 W,.int .i64 H,.slice ao ps.length ca] 24)).alloc (ka #[.int .i64 amount] 3)).alloc (ka #[.int .i64 0,.int .i64 0,.slice none 0 0] 24)).heap.size=w.heap.size+3:=by simp
   generalize ((w.alloc (ka #[.int .i64 W,.int .i64 H,.slice ao ps.length ca] 24)).alloc (ka #[.int .i64 amount] 3)).alloc (ka #[.int .i64 0,.int .i64 0,.slice none 0 0] 24)=U at *
   replace hs3:=Nat.le_of_eq hs3.symm
   refine (XDTU W H _ ps _ (HV.out.below hB (kf _))).mono ?_
   rintro e w1 ⟨rfl,hb1⟩
   rw[hp]
   have g1:=(hb1.block (w.heap.size) (by omega)).trans a1
   have g2:=(hb1.block (w.heap.size+1) (by omega)).trans a2
   have g3:=(hb1.block (w.heap.size+1+1) (by omega)).trans a3
   have l0:w1.cell? ⟨w.heap.size+1,0,none⟩=some (.int .i64 amount):=by rw[kd g2];rfl
   go_wp2_with fail
   refine (Xfvu _ _).mono ?_
   rintro e w2 ⟨rfl,hb2⟩
   rw[hm]
   clear l0
   replace hb2:=quJN hb1 hb2
   replace g1:=(hb2.block (w.heap.size) (by omega)).trans a1
   replace g2:=(hb2.block (w.heap.size+1) (by omega)).trans a2
   replace g3:=(hb2.block (w.heap.size+1+1) (by omega)).trans a3
   obtain ⟨z0,z1,z2⟩:=z5EY g3
   have f0:=kc g3 0
   have f1:=kc g3 1
   have f2:=kc g3 2
   have HBL:=hb2
   have HFIN:=hide (zHqh (hB.trans (HBL.mono hB.size)) (show w.heap.size≤w.heap.size+1+1 by omega) (.int .i64 0) (.int .i64 0) (.slice none 0 0))
   go_wp2
   exact bodyPost_ret (v:=.tuple #[.agg #[.int .i64 0,.int .i64 0,.slice none 0 0],.int .i64 3]) (by simp[results,Tryz.results278,go_sem,z0,z1,z2]) rfl ⟨.slice none 0 0,rfl,IsPix.nil _,HFIN.out,Fresh.nil _⟩
 ·have he:E=1:=by rw[←hE,joyM,if_neg hp]
  have hp:picOk W H ps=false:=by simpa using hp
  subst he
  clear hE
  go_enter Tryz.func278,Tryz.ntmps278
  go_wp2_with fail
  obtain ⟨a1,a2,a3⟩:=al3 w (ka #[.int .i64 W,.int .i64 H,.slice ao ps.length ca] 24) (ka #[.int .i64 amount] 3) (ka #[.int .i64 0,.int .i64 0,.slice none 0 0] 24)
  have hB:=be3 w (ka #[.int .i64 W,.int .i64 H,.slice ao ps.length ca] 24) (ka #[.int .i64 amount] 3) (ka #[.int .i64 0,.int .i64 0,.slice none 0 0] 24)
  have hs3:(((w.alloc (ka #[.int .i64 W,.int .i64 H,.slice ao ps.length ca] 24)).alloc (ka #[.int .i64 amount] 3)).alloc (ka #[.int .i64 0,.int .i64 0,.slice none 0 0] 24)).heap.size=w.heap.size+3:=by simp
  generalize ((w.alloc (ka #[.int .i64 W,.int .i64 H,.slice ao ps.length ca] 24)).alloc (ka #[.int .i64 amount] 3)).alloc (ka #[.int .i64 0,.int .i64 0,.slice none 0 0] 24)=U at *
  replace hs3:=Nat.le_of_eq hs3.symm
  refine (XDTU W H _ ps _ (HV.out.below hB (kf _))).mono ?_
  rintro e w1 ⟨rfl,hb1⟩
  rw[hp]
  have g1:=(hb1.block (w.heap.size) (by omega)).trans a1
  have g2:=(hb1.block (w.heap.size+1) (by omega)).trans a2
  have g3:=(hb1.block (w.heap.size+1+1) (by omega)).trans a3
  obtain ⟨z0,z1,z2⟩:=z5EY g3
  have f0:=kc g3 0
  have f1:=kc g3 1
  have f2:=kc g3 2
  have HBL:=hb1
  have HFIN:=hide (zHqh (hB.trans (HBL.mono hB.size)) (show w.heap.size≤w.heap.size+1+1 by omega) (.int .i64 0) (.int .i64 0) (.slice none 0 0))
  go_wp2
  exact bodyPost_ret (v:=.tuple #[.agg #[.int .i64 0,.int .i64 0,.slice none 0 0],.int .i64 1]) (by simp[results,Tryz.results278,go_sem,z0,z1,z2]) rfl ⟨.slice none 0 0,rfl,IsPix.nil _,HFIN.out,Fresh.nil _⟩
end Go.Proofs.YtfjeonehdlphiaaGreatDoor
namespace Go.Proofs.YtfjeonehdlphiaaGreatDoor
def wtN (n:Nat):Int:=if n=1 then 2 else 1
theorem zyMc (n:Nat):1≤wtN n∧wtN n≤2:=by unfold wtN;split<;>omega
def sIx (W H X Y n:Nat):Nat:=(near H ((Y:Int)-1+(n / 3:Nat))).toNat*W+(near W ((X:Int)-1+(n % 3:Nat))).toNat
def sG (ps:List Px) (W H X Y j n:Nat):Int:=pxF (pxAt ps (sIx W H X Y n)) j*wtN (n % 3)*wtN (n / 3)
theorem jIm7 {a b A B:Int} (h1:0≤a) (h2:a≤A) (h3:0≤b) (h4:b≤B):0≤a*b∧a*b≤A*B :=
 ⟨Int.mul_nonneg h1 h3,Int.mul_le_mul h2 h4 h3 (by omega)⟩
theorem XKcU {ps:List Px} (h:pxsOk ps=true) (W H X Y j n:Nat):0≤sG ps W H X Y j n∧sG ps W H X Y j n≤262140:=by
 obtain ⟨a,b⟩:=qgpk (z1DB h (sIx W H X Y n)) j
 obtain ⟨c,d⟩:=zyMc (n % 3)
 obtain ⟨e,f⟩:=zyMc (n / 3)
 obtain ⟨g,i⟩:=jIm7 a b (by omega:0≤wtN (n % 3)) d
 obtain ⟨k,l⟩:=jIm7 g i (by omega:0≤wtN (n / 3)) f
 exact ⟨k,by unfold sG;omega⟩
theorem j6SJ (W:Nat) (x:Nat) (h:x<W):(near W ((x:Int)-1+((1:Nat):Int))).toNat=x:=by
 rw[near,if_neg (by omega),if_neg (by omega)];omega
theorem zuEl {W H X Y:Nat} (hX:X<W) (hY:Y<H):sIx W H X Y 4=Y*W+X:=by
 have h1:=j6SJ H Y hY
 have h2:=j6SJ W X hX
 rw[sIx,show 4 / 3=1 from rfl,show 4 % 3=1 from rfl,h1,h2]
theorem jeOO {ps:List Px} {W H X Y:Nat} (hX:X<W) (hY:Y<H) (j:Nat):sumN (sG ps W H X Y j) 9=pxF (wF ps W H X Y (List.finRange 8)) j:=by
 have hm:=zuEl (W:=W) (H:=H) hX hY
 have hl:List.finRange 8=[0,1,2,3,4,5,6,7]:=by decide
 have h0:wIx W H X Y 0=sIx W H X Y 0:=rfl
 have h1:wIx W H X Y 1=sIx W H X Y 1:=rfl
 have h2:wIx W H X Y 2=sIx W H X Y 2:=rfl
 have h3:wIx W H X Y 3=sIx W H X Y 3:=rfl
 have h4:wIx W H X Y 4=sIx W H X Y 5:=rfl
 have h5:wIx W H X Y 5=sIx W H X Y 6:=rfl
 have h6:wIx W H X Y 6=sIx W H X Y 7:=rfl
 have h7:wIx W H X Y 7=sIx W H X Y 8:=rfl
 rw[wF,hl]
 simp only[List.foldl_cons,List.foldl_nil]
 simp only[show ((0:Fin 8):Nat)=0 from rfl,show ((1:Fin 8):Nat)=1 from rfl,show ((2:Fin 8):Nat)=2 from rfl,show ((3:Fin 8):Nat)=3 from rfl,show ((4:Fin 8):Nat)=4 from rfl,show ((5:Fin 8):Nat)=5 from rfl,show ((6:Fin 8):Nat)=6 from rfl,show ((7:Fin 8):Nat)=7 from rfl]
 rw[h0,h1,h2,h3,h4,h5,h6,h7]
 rw[show wWt 0=1 by decide,show wWt 1=2 by decide,show wWt 2=1 by decide,show wWt 3=2 by decide,show wWt 4=2 by decide,show wWt 5=1 by decide,show wWt 6=2 by decide,show wWt 7=1 by decide]
 simp only[sumN,sG]
 rw[hm]
 simp only[show wtN (0 % 3)=1 by decide,show wtN (1 % 3)=2 by decide,show wtN (2 % 3)=1 by decide]
 generalize pxAt ps (sIx W H X Y 0)=a0
 generalize pxAt ps (sIx W H X Y 1)=a1
 generalize pxAt ps (sIx W H X Y 2)=a2
 generalize pxAt ps (sIx W H X Y 3)=a3
 generalize pxAt ps (Y*W+X)=a4
 generalize pxAt ps (sIx W H X Y 5)=a5
 generalize pxAt ps (sIx W H X Y 6)=a6
 generalize pxAt ps (sIx W H X Y 7)=a7
 generalize pxAt ps (sIx W H X Y 8)=a8
 unfold pxF addP
 by_cases e0:j=0
 ·simp only[e0,if_true];omega
 ·by_cases e1:j=1
  ·subst e1;simp only[if_neg e0,if_true];omega
  ·simp only[if_neg e0,if_neg e1];omega
theorem sIx_lt {W H:Nat} (hW:1≤W) (hH:1≤H) (X Y n:Nat):sIx W H X Y n<H*W:=by
 obtain ⟨a1,a2⟩:=Xxtr H ((Y:Int)-1+(n / 3:Nat)) (by omega)
 obtain ⟨b1,b2⟩:=Xxtr W ((X:Int)-1+(n % 3:Nat)) (by omega)
 unfold sIx
 generalize near H ((Y:Int)-1+(n / 3:Nat))=a at *
 generalize near W ((X:Int)-1+(n % 3:Nat))=b at *
 obtain ⟨A,rfl⟩:=kg a1
 obtain ⟨B,rfl⟩:=kg b1
 simp only[Int.toNat_natCast]
 have h1:(A+1)*W≤H*W:=kl _ (by omega)
 rw[km] at h1
 omega
def qrAO (ps:List Px) (W H X Y:Nat) (amount:Int) (j:Nat):Int:=XZdI (pxF (pxAt ps (Y*W+X)) j) (sumN (sG ps W H X Y j) 9) amount
theorem z7XS {ps:List Px} {W H X Y:Nat} (hX:X<W) (hY:Y<H) (amount:Int):(qrAO ps W H X Y amount 0,qrAO ps W H X Y amount 1,qrAO ps W H X Y amount 2)=zesK ps W H amount (Y*W+X):=by
 have hm:(Y*W+X) % W=X∧(Y*W+X) / W=Y:=X4G3 hX
 simp only[qrAO,jeOO hX hY]
 unfold zesK
 rw[hm.1,hm.2]
 rfl
end Go.Proofs.YtfjeonehdlphiaaGreatDoor
namespace Go.Proofs.YtfjeonehdlphiaaGreatDoor
open Go.RowKit
def ShJ (w:World) (W H:Nat) (qv:Value) (L:List Px) (k:Nat) (wr:World):Prop :=
 ∃so scap,wr.heap[w.heap.size+2]?=some (.cells #[.int .i64 W,.int .i64 H,.slice so k scap] 24 (0,0))∧wr.ownsRow w.heap.size 61 3 (.slice so k scap) k ((L.take k).flatMap pixL)∧wr.heap[w.heap.size]?=some (.cells #[.int .i64 W,.int .i64 H,qv] 24 (0,0))∧wr.heap[w.heap.size+1]?=some (.cells #[.int .i64 0,.int .i64 0,.slice none 0 0] 24 (0,0))∧wr.heap[w.heap.size+3]?=some (.cells (tri wtN) 47 (0,0))∧Below w.heap.size w wr
def ShK (Z0 w1:World) (SB:Nat) (s:Nat→Int) (wv:World):Prop :=
 wv.heap[SB]?=some (.cells (tri s) 47 (0,0))∧(∀b,b<Z0.heap.size→b≠SB→wv.heap[b]?=Z0.heap[b]?)∧Z0.heap.size≤wv.heap.size∧Below w1.heap.size w1 wv
theorem ShJ.below {w:World} {W H:Nat} {qv:Value} {L:List Px} {k:Nat} {wr wv:World} (h:ShJ w W H qv L k wr) (hb:Below wr.heap.size wr wv):ShJ w W H qv L k wv:=by
 obtain ⟨so,scap,j1,j2,j3,j4,j6,j5⟩:=h
 exact ⟨so,scap,(hb.block _ (kb.1 j1).1).trans j1,qw14 j2 hb,(hb.block _ (kb.1 j3).1).trans j3,(hb.block _ (kb.1 j4).1).trans j4,(hb.block _ (kb.1 j6).1).trans j6,j5.trans (hb.mono j5.size)⟩
theorem ShJ.sum {w:World} {W H:Nat} {qv:Value} {L:List Px} {k:Nat} {w1 Z0 wv:World} {SB:Nat} {s0 s:Nat→Int} (h:ShJ w W H qv L k Z0) (hs:Z0.heap[SB]?=some (.cells (tri s0) 47 (0,0))) (hSB:w1.heap.size≤SB) (hw:w.heap.size+3<w1.heap.size) (hB:Below w.heap.size w w1) (hk:ShK Z0 w1 SB s wv):ShJ w W H qv L k wv:=by
 obtain ⟨so,scap,j1,j2,j3,j4,j6,j5⟩:=h
 obtain ⟨_,k2,k3,k4⟩:=hk
 have hne:=qYYy j2 hs (by decide)
 refine ⟨so,scap,(k2 _ (kb.1 j1).1 (by omega)).trans j1,⟨j2.1,?_⟩,(k2 _ (kb.1 j3).1 (by omega)).trans j3,(k2 _ (kb.1 j4).1 (by omega)).trans j4,(k2 _ (kb.1 j6).1 (by omega)).trans j6,hB.trans (k4.mono hB.size)⟩
 rcases j2.2 with ho|⟨g,cap,cur,hv,hg,hh,r⟩
 ·exact .inl ho
 ·refine .inr ⟨g,cap,cur,hv,hg,?_,r⟩
  rw[k2 g (kb.1 hh).1 (fun e=>hne (by rw[hv,e];rfl))];exact hh
theorem ShK.below {Z0 w1:World} {SB:Nat} {s:Nat→Int} {wv wx:World} (h:ShK Z0 w1 SB s wv) (hb:Below wv.heap.size wv wx):ShK Z0 w1 SB s wx:=by
 obtain ⟨k1,k2,k3,k4⟩:=h
 exact ⟨(hb.block _ (kb.1 k1).1).trans k1,fun b hbl hne=>(hb.block b (by omega)).trans (k2 b hbl hne),ki k3 hb.size,k4.trans (hb.mono k4.size)⟩
theorem ShK.congr {Z0 w1:World} {SB:Nat} {s t:Nat→Int} {wv:World} (h:ShK Z0 w1 SB s wv) (he:∀j,j<3→s j=t j):ShK Z0 w1 SB t wv:=by
 obtain ⟨k1,k2,k3,k4⟩:=h
 exact ⟨by rw[←q3Qb s t he];exact k1,k2,k3,k4⟩
theorem ShK.set {Z0 w1:World} {SB:Nat} {s t:Nat→Int} {wv:World} (h:ShK Z0 w1 SB s wv) (hSB:w1.heap.size≤SB) (k:Nat) (x:Int) (hk:k<3) (hx:x=t k) (ht:∀j,j<3→j≠k→s j=t j):ShK Z0 w1 SB t (wv.drew.setCell ⟨SB,k,none⟩ (.int .i64 x)):=by
 obtain ⟨k1,k2,k3,k4⟩:=h
 have k1':wv.drew.heap[SB]?=some (.cells (tri s) 47 (0,0)):=k1
 refine ⟨?_,fun b hbl hne=>(Below.heap_setCell _ _ _ _ hne).trans (k2 b hbl hne),(show Z0.heap.size≤(wv.setCell ⟨SB,k,none⟩ (.int .i64 x)).heap.size by simpa [World.setCell] using k3),(k4.drew).setCell (p:=⟨SB,k,none⟩) hSB _⟩
 rw[heap_setCell_same wv.drew SB k _ _ _ k1',zWS1 s t k x hk hx ht]
theorem zZAQ (W H:Nat) (hW1:1≤W) (hW:W≤64) (hH1:1≤H) (hH:H≤64) (v:Value) (ps:List Px) (amount:Int) (ha0:0≤amount) (ha1:amount≤1024) (hlen:ps.length=H*W) (hps:pxsOk ps=true) (w:World) (hv:IsPix w v ps) :
  Calls Tryz.prog 86 #[.agg #[.int .i64 W,.int .i64 H,v],.int .i64 amount] w fun e w'=>∃r,e=.returned (.agg #[.int .i64 W,.int .i64 H,r])∧IsPix w' r (jz1R W H ps amount)∧Below w.heap.size w w'∧Fresh w.heap.size r:=by
 have HPS:=hide hps
 have HLEN:=hide hlen
 have hlb:ps.length≤4096:=by rw[hlen];exact ki (Nat.mul_le_mul hH hW) (by decide)
 have hLL:(jz1R W H ps amount).length=ps.length:=by simp[jz1R]
 have HLG:=hide (show ∀j,j<ps.length→(jz1R W H ps amount)[j]?=some (zesK ps W H amount j) from fun j hj=>by simp[jz1R,hj])
 obtain ⟨L,hL⟩:∃L,jz1R W H ps amount=L:=⟨_,rfl⟩
 rw[hL] at hLL HLG ⊢
 have HLL:=hide hLL
 clear hps hL hLL
 obtain ⟨ao,ca,rfl,hla,hc⟩:=hv
 obtain ⟨i0,hi,hz0,hz1,hz2⟩:=info_parts Tryz.infoPixel
 have HC:=hide (show ∀j,j<ps.length→∃bk off,ao=some ⟨bk,off,none⟩∧bk<w.heap.size∧w.cell? ⟨bk,off+j*3,none⟩=some (.int .i64 (pxAt ps j).1)∧w.cell? ⟨bk,off+j*3+1,none⟩=some (.int .i64 (pxAt ps j).2.1)∧w.cell? ⟨bk,off+j*3+2,none⟩=some (.int .i64 (pxAt ps j).2.2) from fun j hj=>by
  rcases hc with h|⟨b,off,h1,h2,h3⟩
  ·subst h;simp at hj
  ·have:=h3 j hj
   rw[jD3W ps j hj] at this
   exact ⟨b,off,h1,h2,this⟩)
 clear hc hlen
 go_enter Tryz.func86,Tryz.ntmps86
 go_wp2_with fail
 obtain ⟨a1,a2,a3,a4⟩:=al4 w (ka #[.int .i64 W,.int .i64 H,.slice ao ps.length ca] 24) (ka #[.int .i64 0,.int .i64 0,.slice none 0 0] 24) (ka #[.int .i64 W,.int .i64 H,.slice none 0 0] 24) (ka #[.int .i64 1,.int .i64 2,.int .i64 1] 47)
 have hB:=be4 w (ka #[.int .i64 W,.int .i64 H,.slice ao ps.length ca] 24) (ka #[.int .i64 0,.int .i64 0,.slice none 0 0] 24) (ka #[.int .i64 W,.int .i64 H,.slice none 0 0] 24) (ka #[.int .i64 1,.int .i64 2,.int .i64 1] 47)
 generalize (((w.alloc (ka #[.int .i64 W,.int .i64 H,.slice ao ps.length ca] 24)).alloc (ka #[.int .i64 0,.int .i64 0,.slice none 0 0] 24)).alloc (ka #[.int .i64 W,.int .i64 H,.slice none 0 0] 24)).alloc (ka #[.int .i64 1,.int .i64 2,.int .i64 1] 47)=U at *
 go_loopw [7] (fun i wr=>∃Y:Nat,Y≤H∧i=.int .i64 Y∧ShJ w W H (.slice ao ps.length ca) L (Y*W) wr) (fun i _=>H-(intOf i).toNat)
 case atStart=>exact ⟨0,kj _,rfl,none,0,by rw[Nat.zero_mul];exact a3,by rw[Nat.zero_mul];exact World.ownsRow_nil _ _ _ _,a1,a2,a4,hB⟩
 case round =>
  clear a1 a2 a3 a4 hB
  obtain ⟨Y,hY,rfl,hJ⟩:=hrel
  have HJ:=hide hJ
  obtain ⟨so,scap,j1,j2,j3,j4,j6,j5⟩:=hJ
  obtain ⟨q0,q1,q2⟩:=z5EY j3
  by_cases hlt:Y<H
  ·have hd:decide ((Y:Int)<(H:Int))=true:=by simp;omega
   obtain ⟨M,hM⟩:∃M,M=Y*W:=⟨_,rfl⟩
   rw[←hM] at HJ j1 j2
   have hMM:M+W≤ps.length:=by rw[HLEN.out,hM,←km];exact kl _ hlt
   have hYW:(Y:Int)*(W:Int)=(M:Int):=by rw[hM];simp
   have HM:=hide hM
   clear hM
   go_wp2_with fail
   go_loopw [8] (fun i wr=>∃X:Nat,X≤W∧i=.int .i64 X∧ShJ w W H (.slice ao ps.length ca) L (M+X) wr) (fun i _=>W-(intOf i).toNat)
   case atStart=>exact ⟨0,kj _,rfl,HJ.out⟩
   case round =>
    clear j1 j2 j3 j4 j6 j5 q0 q1 q2 HJ
    obtain ⟨X,hX,rfl,hJ⟩:=hrel
    obtain ⟨so,scap,j1,j2,j3,j4,j6,j5⟩:=hJ
    obtain ⟨q0,q1,q2⟩:=z5EY j3
    by_cases hlx:X<W
    ·have hdx:decide ((X:Int)<(W:Int))=true:=by simp;omega
     have hk:M+X<ps.length:=by omega
     obtain ⟨bk,off,rfl,hbl,c0,c1,c2⟩:=HC.out (M+X) hk
     have d0:=(j5.cell (p:=⟨bk,off+(M+X)*3,none⟩) hbl).trans c0
     have d1:=(j5.cell (p:=⟨bk,off+(M+X)*3+1,none⟩) hbl).trans c1
     have d2:=(j5.cell (p:=⟨bk,off+(M+X)*3+2,none⟩) hbl).trans c2
     clear c0 c1 c2
     have hok:=z1DB HPS.out (M+X)
     obtain ⟨p,hp⟩:∃p,pxAt ps (M+X)=p:=⟨_,rfl⟩
     have HP:=hide hp
     rw[hp] at d0 d1 d2 hok
     clear hp
     have HOK:=hide hok
     clear hok
     have hMX:(M:Int)+(X:Int)=((M+X:Nat):Int):=by simp
     have hwM:IntKind.i64.wrap (M:Int)=(M:Int):=kh _ (by omega)
     have hwMX:IntKind.i64.wrap ((M:Int)+(X:Int))=((M+X:Nat):Int):=by rw[hMX];exact kh _ (by omega)
     obtain ⟨k,hkk⟩:∃k,M+X=k:=⟨_,rfl⟩
     rw[hkk] at d0 d1 d2 hwMX hk j1 j2
     rw[hkk] at HP
     have HK:=hide hkk
     clear hkk hMX
     go_wp2_with fail
     have hJ0:ShJ w W H (.slice (some ⟨bk,off,none⟩) ps.length ca) L k wr:=⟨so,scap,j1,j2,j3,j4,j6,j5⟩
     refine (zjXb p _).mono ?_
     rintro e w1 ⟨rfl,hb1⟩
     have hl6:=(kb.1 j6).1
     have hs1:=hb1.size
     have hw3:w.heap.size+3<w1.heap.size:=by omega
     have hBw1:Below w.heap.size w w1:=j5.trans (hb1.mono j5.size)
     clear d0 d1 d2 q0 q1 q2 hdx hd hwMX hwM
     go_wp2_with fail
     have hZ:=be3 w1 (ka #[.int .i64 p.1,.int .i64 p.2.1,.int .i64 p.2.2] 47) (ka #[.int .i64 0,.int .i64 0,.int .i64 0] 47) (ka #[.int .i64 0,.int .i64 0,.int .i64 0] 47)
     obtain ⟨zo,zs,zl⟩:=al3 w1 (ka #[.int .i64 p.1,.int .i64 p.2.1,.int .i64 p.2.2] 47) (ka #[.int .i64 0,.int .i64 0,.int .i64 0] 47) (ka #[.int .i64 0,.int .i64 0,.int .i64 0] 47)
     have HJZ:=hide (hJ0.below (quJN hb1 hZ))
     have hsZ:(((w1.alloc (ka #[.int .i64 p.1,.int .i64 p.2.1,.int .i64 p.2.2] 47)).alloc (ka #[.int .i64 0,.int .i64 0,.int .i64 0] 47)).alloc (ka #[.int .i64 0,.int .i64 0,.int .i64 0] 47)).heap.size=w1.heap.size+3:=by simp
     generalize ((w1.alloc (ka #[.int .i64 p.1,.int .i64 p.2.1,.int .i64 p.2.2] 47)).alloc (ka #[.int .i64 0,.int .i64 0,.int .i64 0] 47)).alloc (ka #[.int .i64 0,.int .i64 0,.int .i64 0] 47)=Z0 at *
     have HZS:=hide hsZ
     have HZO:=hide (show Z0.heap[w1.heap.size]?=some (.cells (tri (pxF p)) 47 (0,0)) from zo)
     have HZB:=hide (show Z0.heap[w1.heap.size+1]?=some (.cells (tri fun _=>0) 47 (0,0)) from zs)
     have HZL:=hide (show Z0.heap[w1.heap.size+1+1]?=some (.cells (tri fun _=>0) 47 (0,0)) from zl)
     have HBW:=hide hBw1
     clear hsZ zo zs zl j1 j2 j3 j4 j6 j5 hJ0 hb1 hBw1
     go_loopw [12] (fun i wv=>∃V:Nat,V≤3∧i=.int .i64 ((V:Int)-1)∧ShK Z0 w1 (w1.heap.size+1) (fun j=>sumN (sG ps W H X Y j) (3*V)) wv) (fun i _=>(2-intOf i).toNat)
     case atStart=>exact ⟨0,by omega,rfl,by simpa [tri,sumN] using HZB.out,fun _ _ _=>rfl,kf _,hZ⟩
     case round =>
      obtain ⟨V,hV,rfl,hK⟩:=hrel
      by_cases hlv:V<3
      ·obtain ⟨vv,hvv⟩:∃vv:Int,(V:Int)-1=vv:=⟨_,rfl⟩
       rw[hvv]
       have hdv:decide (vv≤1)=true:=by simp;omega
       go_wp2_with fail
       go_loopw [13] (fun i wu=>∃T:Nat,T≤3∧i=.int .i64 ((T:Int)-1)∧ShK Z0 w1 (w1.heap.size+1) (fun j=>sumN (sG ps W H X Y j) (3*V+T)) wu) (fun i _=>(2-intOf i).toNat)
       case atStart=>exact ⟨0,by omega,rfl,hK⟩
       case round =>
        clear hK
        obtain ⟨T,hT,rfl,hK⟩:=hrel
        by_cases hlu:T<3
        ·obtain ⟨uu,huu⟩:∃uu:Int,(T:Int)-1=uu:=⟨_,rfl⟩
         rw[huu]
         have hdu:decide (uu≤1)=true:=by simp;omega
         obtain ⟨so,scap,j1,j2,j3,j4,j6,j5⟩:=HJZ.out.sum HZB.out (Nat.le_succ _) hw3 HBW.out hK
         obtain ⟨q0,q1,q2⟩:=z5EY j3
         obtain ⟨NY,hNY⟩:=kg (Xxtr H ((Y:Int)-1+(V:Nat)) (by omega)).1
         obtain ⟨NX,hNX⟩:=kg (Xxtr W ((X:Int)-1+(T:Nat)) (by omega)).1
         have hNYl:NY<H:=by have:=(Xxtr H ((Y:Int)-1+(V:Nat)) (by omega)).2;omega
         have hNXl:NX<W:=by have:=(Xxtr W ((X:Int)-1+(T:Nat)) (by omega)).2;omega
         obtain ⟨A,hA⟩:∃A,(if (Y:Int)+vv<(H:Int)-1 then (Y:Int)+vv else (H:Int)-1)=A:=⟨_,rfl⟩
         obtain ⟨B,hBB⟩:∃B,(if (X:Int)+uu<(W:Int)-1 then (X:Int)+uu else (W:Int)-1)=B:=⟨_,rfl⟩
         have hA2:(if 0<A then A else 0)=(NY:Int):=by
          rw[←hNY,←hA];rcases jpLA H ((Y:Int)-1+(V:Nat)) with ⟨h1,h2⟩|⟨h1,h2,h3⟩|⟨h1,h2,h3⟩<;>(split<;>split<;>omega)
         have hB2:(if 0<B then B else 0)=(NX:Int):=by
          rw[←hNX,←hBB];rcases jpLA W ((X:Int)-1+(T:Nat)) with ⟨h1,h2⟩|⟨h1,h2,h3⟩|⟨h1,h2,h3⟩<;>(split<;>split<;>omega)
         obtain ⟨n,hn⟩:∃n,3*V+T=n:=⟨_,rfl⟩
         have HIX:=hide (show sIx W H X Y n=NY*W+NX by
          rw[←hn,sIx,show (3*V+T) / 3=V by omega,show (3*V+T) % 3=T by omega,hNY,hNX];rfl)
         have hn3:n / 3=V:=by omega
         have hnm:n % 3=T:=by omega
         rw[hn] at hK
         obtain ⟨NM,hNM⟩:∃NM,NM=NY*W:=⟨_,rfl⟩
         have hNYW:(NY:Int)*(W:Int)=(NM:Int):=by rw[hNM];simp
         obtain ⟨K1,hK1⟩:∃K1,NM+NX=K1:=⟨_,rfl⟩
         have hNMK:(NM:Int)+(NX:Int)=(K1:Int):=by omega
         rw[←hNM,hK1] at HIX
         have hKl:K1<ps.length:=by rw[←HIX.out,HLEN.out];exact sIx_lt hW1 hH1 X Y n
         obtain ⟨bk2,off2,hao2,hbl2,c0,c1,c2⟩:=HC.out K1 hKl
         obtain ⟨rfl,rfl⟩:bk=bk2∧off=off2:=by simpa using hao2
         have d0:=(j5.cell (p:=⟨bk,off+K1*3,none⟩) hbl).trans c0
         have d1:=(j5.cell (p:=⟨bk,off+K1*3+1,none⟩) hbl).trans c1
         have d2:=(j5.cell (p:=⟨bk,off+K1*3+2,none⟩) hbl).trans c2
         obtain ⟨pk,hpk⟩:∃pk,pxAt ps K1=pk:=⟨_,rfl⟩
         have HPK:=hide (show pxAt ps (sIx W H X Y n)=pk by rw[HIX.out];exact hpk)
         rw[hpk] at d0 d1 d2
         have HR:=hide (fun j=>XKcU HPS.out W H X Y j n)
         have HSG:=hide (show ∀j,sG ps W H X Y j n=pxF pk j*wtN T*wtN V from fun j=>by rw[sG,HPK.out,hn3,hnm])
         have HPF:=hide (show ∀j,0≤pxF pk j∧pxF pk j≤65535 from fun j=>by rw[←hpk];exact qgpk (z1DB HPS.out K1) j)
         have HN:=hide hn
         have HKK:=hide hK
         clear hn hNM hK1 hpk c0 c1 c2 hbl2 hao2 hNY hNX hn3 hnm hK
         go_wp2_with fail
         refine (zjXb pk _).mono ?_
         rintro e w2 ⟨rfl,hb2⟩
         clear hA hBB d0 d1 d2 q0 q1 q2 hA2 hB2 hNYW hNMK hdu hdv
         go_wp2_with fail
         have hKC:=HKK.out.below (quJN hb2 (qUNz w2 (ka #[.int .i64 pk.1,.int .i64 pk.2.1,.int .i64 pk.2.2] 47)))
         have zc:(w2.alloc (ka #[.int .i64 pk.1,.int .i64 pk.2.1,.int .i64 pk.2.2] 47)).heap[w2.heap.size]?=some (.cells (tri (pxF pk)) 47 (0,0)):=al1 w2 _
         have hlc:Z0.heap.size≤w2.heap.size:=ki HKK.out.2.2.1 hb2.size
         generalize w2.alloc (ka #[.int .i64 pk.1,.int .i64 pk.2.1,.int .i64 pk.2.2] 47)=WC at *
         clear j1 j2 j3 j4 j6 j5 hb2 HKK
         go_loopw [15] (fun i wk=>∃kk:Nat,kk≤3∧i=.int .i64 kk∧ShK Z0 w1 (w1.heap.size+1) (fun j=>sumN (sG ps W H X Y j) n+(if j<kk then sG ps W H X Y j n else 0)) wk∧wk.heap[w2.heap.size]?=some (.cells (tri (pxF pk)) 47 (0,0))) (fun i _=>3-(intOf i).toNat)
         case atStart=>exact ⟨0,by omega,rfl,hKC.congr (fun j _=>by simp),zc⟩
         case round =>
          clear hKC zc
          obtain ⟨kk,hkk,rfl,hK,zc⟩:=hrel
          by_cases hlk:kk<3
          ·have hdk:decide ((kk:Int)<3)=true:=by simp;omega
           obtain ⟨so,scap,j1,j2,j3,j4,j6,j5⟩:=HJZ.out.sum HZB.out (Nat.le_succ _) hw3 HBW.out hK
           have HR1:=Xrmj (fun m=>XKcU HPS.out W H X Y kk m) n
           have hcs:wr.cell? ⟨w1.heap.size+1,kk,none⟩=some (.int .i64 (sumN (sG ps W H X Y kk) n)):=by rw[kd hK.1,zPnZ _ kk hlk];simp
           have hcf:wr.frozen? ⟨w1.heap.size+1,kk,none⟩=false:=kc hK.1 kk
           have hcc:wr.cell? ⟨w2.heap.size,kk,none⟩=some (.int .i64 (pxF pk kk)):=by rw[kd zc,zPnZ _ kk hlk]
           have hct:wr.cell? ⟨w.heap.size+1+1+1,T,none⟩=some (.int .i64 (wtN T)):=by rw[kd (b:=w.heap.size+1+1+1) j6,zPnZ _ T hlu]
           have hcv:wr.cell? ⟨w.heap.size+1+1+1,V,none⟩=some (.int .i64 (wtN V)):=by rw[kd (b:=w.heap.size+1+1+1) j6,zPnZ _ V hlv]
           obtain ⟨b1,b2⟩:=HPF.out kk
           obtain ⟨b3,b4⟩:=zyMc T
           obtain ⟨b5,b6⟩:=zyMc V
           obtain ⟨b7,b8⟩:=jIm7 b1 b2 (show 0≤wtN T by omega) b4
           obtain ⟨b9,b10⟩:=jIm7 b7 b8 (show 0≤wtN V by omega) b6
           have HSGk:=hide (HSG.out kk)
           obtain ⟨m1,hm1⟩:∃m1,pxF pk kk*wtN T=m1:=⟨_,rfl⟩
           rw[hm1] at b7 b8 b9 b10 HSGk
           obtain ⟨m2,hm2⟩:∃m2,m1*wtN V=m2:=⟨_,rfl⟩
           rw[hm2] at b9 b10 HSGk
           obtain ⟨s0,hs0⟩:∃s0,sumN (sG ps W H X Y kk) n=s0:=⟨_,rfl⟩
           rw[hs0] at hcs HR1
           have hn9:n≤8:=by have:=HN.out;omega
           have hw1:IntKind.i64.wrap m1=m1:=kh _ (by omega)
           have hw2:IntKind.i64.wrap m2=m2:=kh _ (by omega)
           have hws:IntKind.i64.wrap (s0+m2)=s0+m2:=kh _ (by omega)
           have hwu:IntKind.i64.wrap (uu+1)=(T:Int):=by rw[←huu];exact (kh _ (by omega)).trans (by omega)
           have hwv:IntKind.i64.wrap (vv+1)=(V:Int):=by rw[←hvv];exact (kh _ (by omega)).trans (by omega)
           have hKset:=ShK.set (t:=fun j=>sumN (sG ps W H X Y j) n+(if j<kk+1 then sG ps W H X Y j n else 0)) hK (Nat.le_succ _) kk (s0+m2) hlk (by simp only[if_pos (Nat.lt_succ_self kk)];rw[hs0,HSGk.out]) (fun j _ hne=>by
            show sumN (sG ps W H X Y j) n+(if j<kk then sG ps W H X Y j n else 0)=sumN (sG ps W H X Y j) n+(if j<kk+1 then sG ps W H X Y j n else 0)
            by_cases h:j<kk
            ·rw[if_pos h,if_pos (by omega)]
            ·rw[if_neg h,if_neg (by omega)])
           have hlw2:w1.heap.size+1≠w2.heap.size:=by have:=HZS.out;omega
           have zc2:(wr.drew.setCell ⟨w1.heap.size+1,kk,none⟩ (.int .i64 (s0+m2))).heap[w2.heap.size]?=some (.cells (tri (pxF pk)) 47 (0,0)):=(Below.heap_setCell _ _ _ _ (Ne.symm hlw2)).trans zc
           generalize wtN T=wt at *
           generalize wtN V=wv at *
           generalize pxF pk kk=pc at *
           have hlkI:(kk:Int)<3:=by omega
           have hluI:(T:Int)<3:=by omega
           have hlvI:(V:Int)<3:=by omega
           have HSET:=hide hKset
           have HZC:=hide zc2
           clear j1 j2 j3 j4 j6 j5 hK zc hKset zc2 hs0
           have hSd:wr.drew.cell? ⟨w1.heap.size+1,kk,none⟩=some (.int .i64 s0)∧wr.drew.cell? ⟨w2.heap.size,kk,none⟩=some (.int .i64 pc)∧wr.drew.cell? ⟨w.heap.size+1+1+1,T,none⟩=some (.int .i64 wt)∧wr.drew.cell? ⟨w.heap.size+1+1+1,V,none⟩=some (.int .i64 wv):=⟨hcs,hcc,hct,hcv⟩
           go_wp2_with fail
           have hmx:Tryz.prog.follows .mixedOrders=true:=by kernel_rfl
           refine qYgd (S:=fun v:World=>v.cell? ⟨w1.heap.size+1,kk,none⟩=some (.int .i64 s0)∧v.cell? ⟨w2.heap.size,kk,none⟩=some (.int .i64 pc)∧v.cell? ⟨w.heap.size+1+1+1,T,none⟩=some (.int .i64 wt)∧v.cell? ⟨w.heap.size+1+1+1,V,none⟩=some (.int .i64 wv)) (f:=19) hmx ?_
           show jZdv _ _ _ _ _ _ 20 _ _ wr.drew
           refine j7aj (i:=0) (oi:=_) (v:=?vv0) rfl (by kernel_rfl) (by kernel_rfl) (by kernel_rfl) (by kernel_rfl) (by kernel_rfl) (fun _ _ _ h=>h) (Or.inl ⟨by rfl,?yy0⟩) hSd ?rr0
           case yy0=>(intro wq hSq;obtain ⟨_,_,_,_⟩:=hSq;go_simp<;>with_reducible rfl)
           try simp only[ke]
           refine j7aj (i:=1) (oi:=_) (v:=?vv1) rfl (by kernel_rfl) (by kernel_rfl) (by kernel_rfl) (by kernel_rfl) (by kernel_rfl) (fun _ _ _ h=>h) (Or.inl ⟨by rfl,?yy1⟩) hSd ?rr1
           case yy1=>(intro wq hSq;obtain ⟨_,_,_,_⟩:=hSq;go_simp<;>with_reducible rfl)
           try simp only[ke]
           refine j7aj (i:=2) (oi:=_) (v:=?vv2) rfl (by kernel_rfl) (by kernel_rfl) (by kernel_rfl) (by kernel_rfl) (by kernel_rfl) (fun _ _ _ h=>h) (Or.inl ⟨by rfl,?yy2⟩) hSd ?rr2
           case yy2=>(intro wq hSq;obtain ⟨_,_,_,_⟩:=hSq;go_simp<;>with_reducible rfl)
           try simp only[ke]
           refine j7aj (i:=3) (oi:=_) (v:=?vv3) rfl (by kernel_rfl) (by kernel_rfl) (by kernel_rfl) (by kernel_rfl) (by kernel_rfl) (fun _ _ _ h=>h) (Or.inl ⟨by rfl,?yy3⟩) hSd ?rr3
           case yy3=>(intro wq hSq;obtain ⟨_,_,_,_⟩:=hSq;go_simp<;>with_reducible rfl)
           try simp only[ke]
           refine j7aj (i:=4) (oi:=_) (v:=?vv4) rfl (by kernel_rfl) (by kernel_rfl) (by kernel_rfl) (by kernel_rfl) (by kernel_rfl) (fun _ _ _ h=>h) (Or.inl ⟨by rfl,?yy4⟩) hSd ?rr4
           case yy4=>(intro wq hSq;obtain ⟨_,_,_,_⟩:=hSq;go_simp<;>with_reducible rfl)
           try simp only[ke]
           refine j7aj (i:=5) (oi:=_) (v:=?vv5) rfl (by kernel_rfl) (by kernel_rfl) (by kernel_rfl) (by kernel_rfl) (by kernel_rfl) (fun _ _ _ h=>h) (Or.inl ⟨by rfl,?yy5⟩) hSd ?rr5
           case yy5=>(intro wq hSq;obtain ⟨_,_,_,_⟩:=hSq;go_simp<;>with_reducible rfl)
           try simp only[ke]
           refine j7aj (i:=6) (oi:=_) (v:=?vv6) rfl (by kernel_rfl) (by kernel_rfl) (by kernel_rfl) (by kernel_rfl) (by kernel_rfl) (fun _ _ _ h=>h) (Or.inl ⟨by rfl,?yy6⟩) hSd ?rr6
           case yy6=>(intro wq hSq;obtain ⟨_,_,_,_⟩:=hSq;go_simp<;>with_reducible rfl)
           try simp only[ke]
           refine j7aj (i:=7) (oi:=_) (v:=?vv7) rfl (by kernel_rfl) (by kernel_rfl) (by kernel_rfl) (by kernel_rfl) (by kernel_rfl) (fun _ _ _ h=>h) (Or.inl ⟨by rfl,?yy7⟩) hSd ?rr7
           case yy7=>(intro wq hSq;obtain ⟨_,_,_,_⟩:=hSq;go_simp<;>with_reducible rfl)
           try simp only[ke]
           refine j7aj (i:=8) (oi:=_) (v:=?vv8) rfl (by kernel_rfl) (by kernel_rfl) (by kernel_rfl) (by kernel_rfl) (by kernel_rfl) (fun _ _ _ h=>h) (Or.inl ⟨by rfl,?yy8⟩) hSd ?rr8
           case yy8=>(intro wq hSq;obtain ⟨_,_,_,_⟩:=hSq;go_simp<;>with_reducible rfl)
           try simp only[ke]
           refine j7aj (i:=9) (oi:=_) (v:=?vv9) rfl (by kernel_rfl) (by kernel_rfl) (by kernel_rfl) (by kernel_rfl) (by kernel_rfl) (fun _ _ _ h=>h) (Or.inl ⟨by rfl,?yy9⟩) hSd ?rr9
           case yy9=>(intro wq hSq;obtain ⟨_,_,_,_⟩:=hSq;go_simp<;>with_reducible rfl)
           try simp only[ke]
           refine j7aj (i:=10) (oi:=_) (v:=?vv10) rfl (by kernel_rfl) (by kernel_rfl) (by kernel_rfl) (by kernel_rfl) (by kernel_rfl) (fun _ _ _ h=>h) (Or.inl ⟨by rfl,?yy10⟩) hSd ?rr10
           case yy10=>(intro wq hSq;obtain ⟨_,_,_,_⟩:=hSq;go_simp<;>with_reducible rfl)
           try simp only[ke]
           refine j7aj (i:=11) (oi:=_) (v:=?vv11) rfl (by kernel_rfl) (by kernel_rfl) (by kernel_rfl) (by kernel_rfl) (by kernel_rfl) (fun _ _ _ h=>h) (Or.inl ⟨by rfl,?yy11⟩) hSd ?rr11
           case yy11=>(intro wq hSq;obtain ⟨_,_,_,_⟩:=hSq;go_simp<;>with_reducible rfl)
           try simp only[ke]
           refine j7aj (i:=12) (oi:=_) (v:=?vv12) rfl (by kernel_rfl) (by kernel_rfl) (by kernel_rfl) (by kernel_rfl) (by kernel_rfl) (fun _ _ _ h=>h) (Or.inl ⟨by rfl,?yy12⟩) hSd ?rr12
           case yy12=>(intro wq hSq;obtain ⟨_,_,_,_⟩:=hSq;go_simp<;>with_reducible rfl)
           try simp only[ke]
           refine j7aj (i:=13) (oi:=_) (v:=?vv13) rfl (by kernel_rfl) (by kernel_rfl) (by kernel_rfl) (by kernel_rfl) (by kernel_rfl) (fun _ _ _ h=>h) (Or.inl ⟨by rfl,?yy13⟩) hSd ?rr13
           case yy13=>(intro wq hSq;obtain ⟨_,_,_,_⟩:=hSq;go_simp<;>with_reducible rfl)
           try simp only[ke]
           refine j7aj (i:=14) (oi:=_) (v:=?vv14) rfl (by kernel_rfl) (by kernel_rfl) (by kernel_rfl) (by kernel_rfl) (by kernel_rfl) (fun _ _ _ h=>h) (Or.inl ⟨by rfl,?yy14⟩) hSd ?rr14
           case yy14=>(intro wq hSq;obtain ⟨_,_,_,_⟩:=hSq;go_simp<;>with_reducible rfl)
           try simp only[ke]
           refine j7aj (i:=15) (oi:=_) (v:=?vv15) rfl (by kernel_rfl) (by kernel_rfl) (by kernel_rfl) (by kernel_rfl) (by kernel_rfl) (fun _ _ _ h=>h) (Or.inl ⟨by rfl,?yy15⟩) hSd ?rr15
           case yy15=>(intro wq hSq;obtain ⟨_,_,_,_⟩:=hSq;go_simp<;>with_reducible rfl)
           try simp only[ke]
           refine j7aj (i:=16) (oi:=_) (v:=?vv16) rfl (by kernel_rfl) (by kernel_rfl) (by kernel_rfl) (by kernel_rfl) (by kernel_rfl) (fun _ _ _ h=>h) (Or.inl ⟨by rfl,?yy16⟩) hSd ?rr16
           case yy16=>(intro wq hSq;obtain ⟨_,_,_,_⟩:=hSq;go_simp<;>with_reducible rfl)
           try simp only[ke]
           refine j7aj (i:=17) (oi:=_) (v:=?vv17) rfl (by kernel_rfl) (by kernel_rfl) (by kernel_rfl) (by kernel_rfl) (by kernel_rfl) (fun _ _ _ h=>h) (Or.inl ⟨by rfl,?yy17⟩) hSd ?rr17
           case yy17=>(intro wq hSq;obtain ⟨_,_,_,_⟩:=hSq;go_simp<;>with_reducible rfl)
           try simp only[ke]
           refine j7aj (i:=18) (oi:=_) (v:=?vv18) rfl (by kernel_rfl) (by kernel_rfl) (by kernel_rfl) (by kernel_rfl) (by kernel_rfl) (fun _ _ _ h=>h) (Or.inl ⟨by rfl,?yy18⟩) hSd ?rr18
           case yy18=>(intro wq hSq;obtain ⟨_,_,_,_⟩:=hSq;go_simp<;>with_reducible rfl)
           try simp only[ke]
           refine z9gO (o:=_) (by kernel_rfl) rfl (fun K' hK=>?_)
           rw[if_pos (by rfl)]
           go_simp
           refine hK.out _ _ ?_
           clear hK
           refine jFdp (by kernel_rfl) ?_ _
           try simp only[ke]
           go_wp2
           go_roundw
           case rel=>exact ⟨kk+1,by omega,by go_num,HSET.out,HZC.out⟩
           case measure=>simp[intOf];omega
          ·have hdk:decide ((kk:Int)<3)=false:=by simp;omega
           have h3:kk=3:=by omega
           subst h3
           have HK1:=hide (show ShK Z0 w1 (w1.heap.size+1) (fun j=>sumN (sG ps W H X Y j) (3*V+(T+1))) wr from hK.congr (fun j hj=>by
            have hn:=HN.out
            rw[if_pos hj,show 3*V+(T+1)=n+1 by omega];rfl))
           clear hK zc
           go_wp2
           go_roundw
           case rel=>exact ⟨T+1,by omega,by go_num,HK1.out⟩
           case measure=>simp[intOf];omega
        ·have h3:T=3:=by omega
         subst h3
         have hdu:decide (((3:Nat):Int)-1≤1)=false:=by decide
         have HK1:=hide (show ShK Z0 w1 (w1.heap.size+1) (fun j=>sumN (sG ps W H X Y j) (3*(V+1))) wr from hK)
         clear hK
         go_wp2
         go_roundw
         case rel=>exact ⟨V+1,by omega,by go_num,HK1.out⟩
         case measure=>simp[intOf];omega
      ·have h3:V=3:=by omega
       have e2:(V:Int)-1=2:=by omega
       rw[e2]
       clear e2
       subst h3
       have hdv:decide ((2:Int)≤1)=false:=by decide
       have HK9:=hide (show ShK Z0 w1 (w1.heap.size+1) (fun j=>sumN (sG ps W H X Y j) 9) wr from hK)
       have hlk:=hK.2.2.1
       have zl9:wr.heap[w1.heap.size+1+1]?=some (.cells (tri fun _=>0) 47 (0,0)):=(hK.2.1 (w1.heap.size+1+1) (by have:=HZS.out;omega) (by omega)).trans HZL.out
       have zo9:wr.heap[w1.heap.size]?=some (.cells (tri (pxF p)) 47 (0,0)):=(hK.2.1 w1.heap.size (by have:=HZS.out;omega) (by omega)).trans HZO.out
       have HJ9:=hide (HJZ.out.sum HZB.out (Nat.le_succ _) hw3 HBW.out hK)
       have hKb:=hK.2.2.2
       clear hK
       go_wp2_with fail
       generalize wr=Z9 at *
       go_loopw [16] (fun i wl=>∃kk:Nat,kk≤3∧i=.int .i64 kk∧ShK Z9 w1 (w1.heap.size+1+1) (fun j=>if j<kk then qrAO ps W H X Y amount j else 0) wl) (fun i _=>3-(intOf i).toNat)
       case atStart=>exact ⟨0,by omega,rfl,zl9,fun _ _ _=>rfl,kf _,hKb⟩
       case round =>
        obtain ⟨kk,hkk,rfl,hK⟩:=hrel
        have hsb:=(kb.1 HK9.out.1).1
        have hob:=(kb.1 zo9).1
        by_cases hlk3:kk<3
        ·have hdk:decide ((kk:Int)<3)=true:=by simp;omega
         have hcs:wr.cell? ⟨w1.heap.size+1,kk,none⟩=some (.int .i64 (sumN (sG ps W H X Y kk) 9)):=by rw[kd ((hK.2.1 (w1.heap.size+1) hsb (by omega)).trans HK9.out.1),zPnZ _ kk hlk3]
         have hco:wr.cell? ⟨w1.heap.size,kk,none⟩=some (.int .i64 (pxF p kk)):=by rw[kd ((hK.2.1 w1.heap.size hob (by omega)).trans zo9),zPnZ _ kk hlk3]
         have hcl:wr.cell? ⟨w1.heap.size+1+1,kk,none⟩=some (.int .i64 0):=by rw[kd hK.1,zPnZ _ kk hlk3,if_neg (Nat.lt_irrefl _)]
         have hcf:wr.frozen? ⟨w1.heap.size+1+1,kk,none⟩=false:=kc hK.1 kk
         have HQ:=hide (show qrAO ps W H X Y amount kk=jeC7 (pxF p kk+(pxF p kk-sumN (sG ps W H X Y kk) 9 / 16)*amount / 256) by rw[qrAO,←HM.out,HK.out,HP.out];rfl)
         obtain ⟨s1,s2⟩:=Xrmj (fun m=>XKcU HPS.out W H X Y kk m) 9
         obtain ⟨p1,p2⟩:=qgpk HOK.out kk
         obtain ⟨sm,hsm⟩:∃sm,sumN (sG ps W H X Y kk) 9=sm:=⟨_,rfl⟩
         obtain ⟨pc,hpc⟩:∃pc,pxF p kk=pc:=⟨_,rfl⟩
         rw[hsm] at hcs HQ s1 s2
         rw[hpc] at hco HQ p1 p2
         obtain ⟨b,hb⟩:∃b,sm / 16=b:=⟨_,rfl⟩
         have hb0:0≤b∧b≤147454:=by omega
         rw[hb] at HQ
         have hm:=z2et (a:=pc-b) (r:=amount) (A:=147454) (R:=1024) (by omega) (by omega) ha0 ha1 (by omega)
         obtain ⟨m,hM9⟩:∃m,(pc-b)*amount=m:=⟨_,rfl⟩
         rw[hM9] at HQ hm
         obtain ⟨hm0,hm1⟩:=hm
         obtain ⟨hb0,hb1⟩:=hb0
         obtain ⟨D,hD⟩:∃D,m / 256=D:=⟨_,rfl⟩
         have hd0:-600000≤D∧D≤600000:=by omega
         obtain ⟨hd0,hd1⟩:=hd0
         rw[hD] at HQ
         have HDN:=hide (fun v=>jPXH m 256 (by omega) (by omega) (by omega) (by omega) v)
         rw[hD] at HDN
         have hbt:sm.tdiv 16=b:=by rw[Int.tdiv_eq_ediv_of_nonneg s1];exact hb
         have hwq:IntKind.i64.wrap b=b:=kh _ (by omega)
         have hwd:IntKind.i64.wrap (pc-b)=pc-b:=kh _ (by omega)
         have hwm:IntKind.i64.wrap m=m:=kh _ (by omega)
         have hwt:IntKind.i64.wrap (pc+D)=pc+D:=kh _ (by omega)
         have HSET:=hide (ShK.set (t:=fun j=>if j<kk+1 then qrAO ps W H X Y amount j else 0) hK (by omega) kk (jeC7 (pc+D)) hlk3 (by rw[if_pos (Nat.lt_succ_self kk),HQ.out]) (fun j _ hne=>by
          show (if j<kk then qrAO ps W H X Y amount j else 0)=(if j<kk+1 then qrAO ps W H X Y amount j else 0)
          by_cases h:j<kk
          ·rw[if_pos h,if_pos (by omega)]
          ·rw[if_neg h,if_neg (by omega)]))
         have hlkI:(kk:Int)<3:=by omega
         clear hK hD hsm hpc
         have hSd:wr.drew.cell? ⟨w1.heap.size+1,kk,none⟩=some (.int .i64 sm)∧wr.drew.cell? ⟨w1.heap.size,kk,none⟩=some (.int .i64 pc):=⟨hcs,hco⟩
         go_wp2_with fail
         have hmx:Tryz.prog.follows .mixedOrders=true:=by kernel_rfl
         refine qYgd (S:=fun v:World=>v.cell? ⟨w1.heap.size+1,kk,none⟩=some (.int .i64 sm)∧v.cell? ⟨w1.heap.size,kk,none⟩=some (.int .i64 pc)) (f:=18) hmx ?_
         show jZdv _ _ _ _ _ _ 19 _ _ wr.drew
         refine j7aj (i:=0) (oi:=_) (v:=?vv101) rfl (by kernel_rfl) (by kernel_rfl) (by kernel_rfl) (by kernel_rfl) (by kernel_rfl) (fun _ _ _ h=>h) (Or.inl ⟨by rfl,?yy101⟩) hSd ?rr101
         case yy101=>(intro wq hSq;obtain ⟨_,_⟩:=hSq;go_simp<;>with_reducible rfl)
         try simp only[ke]
         refine j7aj (i:=1) (oi:=_) (v:=?vv102) rfl (by kernel_rfl) (by kernel_rfl) (by kernel_rfl) (by kernel_rfl) (by kernel_rfl) (fun _ _ _ h=>h) (Or.inl ⟨by rfl,?yy102⟩) hSd ?rr102
         case yy102=>(intro wq hSq;obtain ⟨_,_⟩:=hSq;go_simp<;>with_reducible rfl)
         try simp only[ke]
         refine j7aj (i:=2) (oi:=_) (v:=?vv103) rfl (by kernel_rfl) (by kernel_rfl) (by kernel_rfl) (by kernel_rfl) (by kernel_rfl) (fun _ _ _ h=>h) (Or.inl ⟨by rfl,?yy103⟩) hSd ?rr103
         case yy103=>(intro wq hSq;obtain ⟨_,_⟩:=hSq;go_simp<;>with_reducible rfl)
         try simp only[ke]
         refine j7aj (i:=3) (oi:=_) (v:=?vv104) rfl (by kernel_rfl) (by kernel_rfl) (by kernel_rfl) (by kernel_rfl) (by kernel_rfl) (fun _ _ _ h=>h) (Or.inl ⟨by rfl,?yy104⟩) hSd ?rr104
         case yy104=>(intro wq hSq;obtain ⟨_,_⟩:=hSq;go_simp<;>with_reducible rfl)
         try simp only[ke]
         refine j7aj (i:=4) (oi:=_) (v:=?vv105) rfl (by kernel_rfl) (by kernel_rfl) (by kernel_rfl) (by kernel_rfl) (by kernel_rfl) (fun _ _ _ h=>h) (Or.inl ⟨by rfl,?yy105⟩) hSd ?rr105
         case yy105=>(intro wq hSq;obtain ⟨_,_⟩:=hSq;go_simp<;>with_reducible rfl)
         try simp only[ke]
         refine j7aj (i:=5) (oi:=_) (v:=?vv106) rfl (by kernel_rfl) (by kernel_rfl) (by kernel_rfl) (by kernel_rfl) (by kernel_rfl) (fun _ _ _ h=>h) (Or.inl ⟨by rfl,?yy106⟩) hSd ?rr106
         case yy106=>(intro wq hSq;obtain ⟨_,_⟩:=hSq;go_simp<;>with_reducible rfl)
         try simp only[ke]
         refine j7aj (i:=6) (oi:=_) (v:=?vv107) rfl (by kernel_rfl) (by kernel_rfl) (by kernel_rfl) (by kernel_rfl) (by kernel_rfl) (fun _ _ _ h=>h) (Or.inl ⟨by rfl,?yy107⟩) hSd ?rr107
         case yy107=>(intro wq hSq;obtain ⟨_,_⟩:=hSq;go_simp<;>with_reducible rfl)
         try simp only[ke]
         refine j7aj (i:=7) (oi:=_) (v:=?vv108) rfl (by kernel_rfl) (by kernel_rfl) (by kernel_rfl) (by kernel_rfl) (by kernel_rfl) (fun _ _ _ h=>h) (Or.inl ⟨by rfl,?yy108⟩) hSd ?rr108
         case yy108=>(intro wq hSq;obtain ⟨_,_⟩:=hSq;go_simp<;>with_reducible rfl)
         try simp only[ke]
         refine j7aj (i:=8) (oi:=_) (v:=?vv109) rfl (by kernel_rfl) (by kernel_rfl) (by kernel_rfl) (by kernel_rfl) (by kernel_rfl) (fun _ _ _ h=>h) (Or.inl ⟨by rfl,?yy109⟩) hSd ?rr109
         case yy109=>(intro wq hSq;obtain ⟨_,_⟩:=hSq;go_simp<;>with_reducible rfl)
         try simp only[ke]
         refine j7aj (i:=9) (oi:=_) (v:=?vv110) rfl (by kernel_rfl) (by kernel_rfl) (by kernel_rfl) (by kernel_rfl) (by kernel_rfl) (fun _ _ _ h=>h) (Or.inl ⟨by rfl,?yy110⟩) hSd ?rr110
         case yy110=>(intro wq hSq;obtain ⟨_,_⟩:=hSq;go_simp<;>with_reducible rfl)
         try simp only[ke]
         refine j7aj (i:=10) (oi:=_) (v:=?vv111) rfl (by kernel_rfl) (by kernel_rfl) (by kernel_rfl) (by kernel_rfl) (by kernel_rfl) (fun _ _ _ h=>h) (Or.inl ⟨by rfl,?yy111⟩) hSd ?rr111
         case yy111=>(intro wq hSq;obtain ⟨_,_⟩:=hSq;go_simp<;>with_reducible rfl)
         try simp only[ke]
         refine j7aj (i:=11) (oi:=_) (v:=?vv112) rfl (by kernel_rfl) (by kernel_rfl) (by kernel_rfl) (by kernel_rfl) (by kernel_rfl) (fun _ _ _ h=>h) (Or.inl ⟨by rfl,?yy112⟩) hSd ?rr112
         case yy112=>(intro wq hSq;obtain ⟨_,_⟩:=hSq;go_simp<;>with_reducible rfl)
         try simp only[ke]
         refine j7aj (i:=12) (oi:=_) (v:=?vv113) rfl (by kernel_rfl) (by kernel_rfl) (by kernel_rfl) (by kernel_rfl) (by kernel_rfl) (fun _ _ _ h=>h) (Or.inl ⟨by rfl,?yy113⟩) hSd ?rr113
         case yy113=>(intro wq hSq;obtain ⟨_,_⟩:=hSq;go_simp<;>with_reducible rfl)
         try simp only[ke]
         refine j7aj (i:=13) (oi:=_) (v:=?vv114) rfl (by kernel_rfl) (by kernel_rfl) (by kernel_rfl) (by kernel_rfl) (by kernel_rfl) (fun _ _ _ h=>h) (Or.inl ⟨by rfl,?yy114⟩) hSd ?rr114
         case yy114=>(intro wq hSq;obtain ⟨_,_⟩:=hSq;go_simp<;>with_reducible rfl)
         try simp only[ke]
         refine znWj (i:=14) (o:=_) (by kernel_rfl) rfl (fun K' hK=>?_)
         rw[if_pos (by rfl)]
         go_simp
         refine (HDN.out _).mono ?_
         rintro e wq ⟨rfl,rfl⟩
         have hSd:=hSd
         refine hK.out _ _ hSd ?_
         clear hK
         try simp only[ke]
         refine j7aj (i:=15) (oi:=_) (v:=?vv115) rfl (by kernel_rfl) (by kernel_rfl) (by kernel_rfl) (by kernel_rfl) (by kernel_rfl) (fun _ _ _ h=>h) (Or.inl ⟨by rfl,?yy115⟩) hSd ?rr115
         case yy115=>(intro wq hSq;obtain ⟨_,_⟩:=hSq;go_simp<;>with_reducible rfl)
         try simp only[ke]
         refine znWj (i:=16) (o:=_) (by kernel_rfl) rfl (fun K' hK=>?_)
         rw[if_pos (by rfl)]
         go_simp
         refine (XO78 _ _).mono ?_
         rintro e wq ⟨rfl,rfl⟩
         have hSd:=hSd
         refine hK.out _ _ hSd ?_
         clear hK
         try simp only[ke]
         refine j7aj (i:=17) (oi:=_) (v:=?vv116) rfl (by kernel_rfl) (by kernel_rfl) (by kernel_rfl) (by kernel_rfl) (by kernel_rfl) (fun _ _ _ h=>h) (Or.inl ⟨by rfl,?yy116⟩) hSd ?rr116
         case yy116=>(intro wq hSq;obtain ⟨_,_⟩:=hSq;go_simp<;>with_reducible rfl)
         try simp only[ke]
         refine z9gO (o:=_) (by kernel_rfl) rfl (fun K' hK=>?_)
         rw[if_pos (by rfl)]
         go_simp
         refine hK.out _ _ ?_
         clear hK
         refine jFdp (by kernel_rfl) ?_ _
         try simp only[ke]
         go_wp2
         go_roundw
         case rel=>exact ⟨kk+1,by omega,by go_num,HSET.out⟩
         case measure=>simp[intOf];omega
        ·have hdk:decide ((kk:Int)<3)=false:=by simp;omega
         have h3:kk=3:=by omega
         subst h3
         have hKL:=hK.1
         have hJL:=HJ9.out.sum zl9 (show w1.heap.size≤w1.heap.size+1+1 by omega) hw3 HBW.out hK
         obtain ⟨so,scap,j1,j2,j3,j4,j6,j5⟩:=hJL
         have HQ3:=hide (show (qrAO ps W H X Y amount 0,qrAO ps W H X Y amount 1,qrAO ps W H X Y amount 2)=zesK ps W H amount k by rw[z7XS hlx hlt,←HM.out,HK.out])
         have iT:wr.heap[w1.heap.size+1+1]?=some (.cells #[.int .i64 (qrAO ps W H X Y amount 0),.int .i64 (qrAO ps W H X Y amount 1),.int .i64 (qrAO ps W H X Y amount 2)] 47 (0,0)):=hKL
         generalize qrAO ps W H X Y amount 0=x at *
         generalize qrAO ps W H X Y amount 1=y at *
         generalize qrAO ps W H X Y amount 2=z at *
         have HST:=hide (show (L.take (k+1)).flatMap pixL=(L.take k).flatMap pixL++pixL (x,y,z) by
          have hk2:k<L.length:=by rw[HLL.out];exact hk
          have hg:=HLG.out k hk
          rw[List.getElem?_eq_getElem hk2] at hg
          rw[List.take_succ_eq_append_getElem hk2,Option.some.inj hg,List.flatMap_append,HQ3.out];simp)
         obtain ⟨XS,hXS⟩:∃XS,(L.take k).flatMap pixL=XS:=⟨_,rfl⟩
         rw[hXS] at j2 HST
         have hbW:=j5.size
         have hlT:=(kb.1 iT).1
         have nT:=qYYy j2 iT (by decide)
         have HL1:=hide (show k+1≤maxLen by unfold maxLen;omega)
         have HL2:=hide (show (k+1)*24≤140737488355328 by omega)
         have HS:=hide (show ∀v,Below wr.heap.size wr v→v.cell? ⟨w1.heap.size+1+1,0,none⟩=some (.int .i64 x)∧v.cell? ⟨w1.heap.size+1+1,1,none⟩=some (.int .i64 y)∧v.cell? ⟨w1.heap.size+1+1,2,none⟩=some (.int .i64 z)∧v.cell? ⟨w.heap.size+1+1,2,none⟩=some (.slice so k scap) from fun v h=>by
          obtain ⟨t0,t1,t2⟩:=z5EY ((h.block _ hlT).trans iT)
          obtain ⟨_,_,t3⟩:=z5EY ((h.block (w.heap.size+2) (kb.1 j1).1).trans j1)
          exact ⟨t0,t1,t2,t3⟩)
         have HTL:=hide (show ∀(V1:World) (gg cap:Nat) (w3:World),Below wr.heap.size wr V1→V1.grownBy w3 (Value.slice so k scap).ownBlock→w3.ownsRow w.heap.size 61 3 (.slice (some ⟨gg,0,none⟩) (k+1) cap) (k+1) (XS++pixL (x,y,z))→(w3.cell? ⟨w1.heap.size+1+1,0,none⟩=some (.int .i64 x)∧w3.cell? ⟨w1.heap.size+1+1,1,none⟩=some (.int .i64 y)∧w3.cell? ⟨w1.heap.size+1+1,2,none⟩=some (.int .i64 z)∧w3.cell? ⟨w.heap.size+1+1,2,none⟩=some (.slice so k scap))∧w3.frozen? ⟨w.heap.size+1+1,2,none⟩=false∧ShJ w W H (.slice (some ⟨bk,off,none⟩) ps.length ca) L (k+1) (w3.setCell ⟨w.heap.size+1+1,2,none⟩ (.slice (some ⟨gg,0,none⟩) (k+1) cap)) from fun V1 gg cap w3 h1 h2 h3=>by
          obtain ⟨t1,t2,t3,t4,t5,t6,t7⟩:=j7Ww (by decide) j1 j2 j5 (kf _) (by omega) h1 h2 h3
          obtain ⟨y0,y1,y2⟩:=z5EY ((t1 _ hlT nT).trans iT)
          refine ⟨⟨y0,y1,y2,t2⟩,t3,some ⟨gg,0,none⟩,cap,t4,by rw[HST.out];exact t5,(t7 _ (kb.1 j3).1 (qYYy j2 j3 (by decide)) (by omega)).trans j3,(t7 _ (kb.1 j4).1 (qYYy j2 j4 (by decide)) (by omega)).trans j4,(t7 _ (kb.1 j6).1 (qYYy j2 j6 (by decide)) (by omega)).trans j6,t6⟩)
         have HON:=hide (show ∀v:World,Calls Tryz.prog 44 #[.agg #[.int .i64 x,.int .i64 y,.int .i64 z]] v fun e v'=>e=.returned (.agg #[.int .i64 x,.int .i64 y,.int .i64 z])∧Below v.heap.size v v' from fun v=>qif0 (x,y,z) v)
         have hWd:Below wr.heap.size wr wr.drew:=(Below.refl _ _).drew
         have hSd:=HS.out _ hWd
         clear hK hKL iT j1 j3 j4 j6 hXS
         go_wp2_with fail
         have hmx:Tryz.prog.follows .mixedOrders=true:=by kernel_rfl
         refine qYgd (S:=fun v:World=>v.cell? ⟨w1.heap.size+1+1,0,none⟩=some (.int .i64 x)∧v.cell? ⟨w1.heap.size+1+1,1,none⟩=some (.int .i64 y)∧v.cell? ⟨w1.heap.size+1+1,2,none⟩=some (.int .i64 z)∧v.cell? ⟨w.heap.size+1+1,2,none⟩=some (.slice so k scap)) (f:=7) hmx ?_
         show jZdv _ _ _ _ _ _ 8 _ _ wr.drew
         refine j7aj (i:=0) (oi:=_) (v:=?vv117) rfl (by kernel_rfl) (by kernel_rfl) (by kernel_rfl) (by kernel_rfl) (by kernel_rfl) (fun _ _ _ h=>h) (Or.inl ⟨by rfl,?yy117⟩) hSd ?rr117
         case yy117=>(intro wq hSq;obtain ⟨_,_,_,_⟩:=hSq;go_simp<;>with_reducible rfl)
         try simp only[ke]
         refine j7aj (i:=1) (oi:=_) (v:=?vv118) rfl (by kernel_rfl) (by kernel_rfl) (by kernel_rfl) (by kernel_rfl) (by kernel_rfl) (fun _ _ _ h=>h) (Or.inl ⟨by rfl,?yy118⟩) hSd ?rr118
         case yy118=>(intro wq hSq;obtain ⟨_,_,_,_⟩:=hSq;go_simp<;>with_reducible rfl)
         try simp only[ke]
         refine j7aj (i:=2) (oi:=_) (v:=?vv119) rfl (by kernel_rfl) (by kernel_rfl) (by kernel_rfl) (by kernel_rfl) (by kernel_rfl) (fun _ _ _ h=>h) (Or.inl ⟨by rfl,?yy119⟩) hSd ?rr119
         case yy119=>(intro wq hSq;obtain ⟨_,_,_,_⟩:=hSq;go_simp<;>with_reducible rfl)
         try simp only[ke]
         refine znWj (i:=3) (o:=_) (by kernel_rfl) rfl (fun K' hK=>?_)
         rw[if_pos (by rfl)]
         go_simp
         refine (HON.out _).mono ?_
         rintro e V1 ⟨rfl,hbv⟩
         have hB1:Below wr.heap.size wr V1:=hWd.trans (hbv.mono hWd.size)
         have hSd:=HS.out _ hB1
         refine hK.out _ _ hSd ?_
         clear hK
         try simp only[ke]
         refine znWj (i:=4) (o:=_) (by kernel_rfl) rfl (fun K' hK=>?_)
         rw[if_pos (by rfl)]
         go_simp
         have hBs:Below wr.heap.size wr (V1.alloc (ka #[.int .i64 x,.int .i64 y,.int .i64 z] 61)):=hB1.alloc hB1.size _
         have hSd:=HS.out _ hBs
         refine hK.out _ _ hSd ?_
         clear hK
         try simp only[ke]
         refine znWj (i:=5) (o:=_) (by kernel_rfl) rfl (fun K' hK=>?_)
         refine step_append_lies _ rfl _ _ 22 rfl w.heap.size 61 i0 pixZ 3 24 Tryz.underlying22 hi hz0 hz1 hz2 rfl (by decide) (.slice so k scap) k XS rfl ((qw14 j2 hB1).alloc _) ⟨V1.heap.size,0,none⟩ 1 1 (pixL (x,y,z)) rfl rfl (World.news_of_block (al1 V1 _)) (fun u hu=>by simp[pixL] at hu;rcases hu with rfl|rfl|rfl<;>rfl) Nat.one_pos HL1.out HL2.out (ki hbW hBs.size) _ rfl ?_
         intro gg cap w3 hown hgrow hat hltg
         obtain ⟨hSx,p2f,HFIN⟩:=HTL.out _ gg cap w3 hBs hgrow hown
         have hSd:=hSx
         refine hK.out _ _ hSd ?_
         clear hK
         try simp only[ke]
         refine j7aj (i:=6) (oi:=_) (v:=?vv120) rfl (by kernel_rfl) (by kernel_rfl) (by kernel_rfl) (by kernel_rfl) (by kernel_rfl) (fun _ _ _ h=>h) (Or.inl ⟨by rfl,?yy120⟩) hSd ?rr120
         case yy120=>(intro wq hSq;obtain ⟨_,_,_,_⟩:=hSq;go_simp<;>with_reducible rfl)
         try simp only[ke]
         refine z9gO (o:=_) (by kernel_rfl) rfl (fun K' hK=>?_)
         rw[if_pos (by rfl)]
         go_simp
         refine hK.out _ _ ?_
         clear hK
         refine jFdp (by kernel_rfl) ?_ _
         try simp only[ke]
         go_wp2
         go_roundw
         case rel=>exact ⟨X+1,by omega,by go_num,by rw[show M+(X+1)=k+1 by have:=HK.out;omega];exact HFIN⟩
         case measure=>simp[intOf];omega
    ·have hdx:decide ((X:Int)<(W:Int))=false:=by simp;omega
     have h3:X=W:=by omega
     subst h3
     have HJ1:=hide (show ShJ w X H (.slice ao ps.length ca) L ((Y+1)*X) wr from ⟨so,scap,by rw[km,←HM.out];exact j1,by rw[km,←HM.out];exact j2,j3,j4,j6,j5⟩)
     go_wp2
     go_roundw
     case rel=>exact ⟨Y+1,by omega,by go_num,HJ1.out⟩
     case measure=>simp[intOf];omega
  ·have hd:decide ((Y:Int)<(H:Int))=false:=by simp;omega
   obtain rfl:Y=H:=by omega
   rw[←HLEN.out] at j1 j2
   rw[List.take_of_length_le (by rw[HLL.out];exact kf _)] at j2
   obtain ⟨p0,p1,p2⟩:=z5EY j1
   obtain ⟨z0,z1,z2⟩:=z5EY j4
   have f0:=kc j4 0
   have f1:=kc j4 1
   have f2:=kc j4 2
   have HFI:=hide (zHqh j5 (show w.heap.size≤w.heap.size+1 by omega) (.int .i64 (W:Nat)) (.int .i64 (Y:Nat)) (.slice so ps.length scap))
   have hpx:IsPix wr (.slice so ps.length scap) L:=IsPix.own (base:=w.heap.size) (ps:=L) (v:=.slice so ps.length scap) (by rw[HLL.out];exact j2) (by rw[HLL.out];omega)
   have hne:(Value.slice so ps.length scap).ownBlock≠some (w.heap.size+1):=fun e=>qYYy j2 j4 (by decide) e.symm
   have HX:=hide (hpx.other (zv5i wr (w.heap.size+1) (.int .i64 (W:Nat)) (.int .i64 (Y:Nat)) (.slice so ps.length scap)) (fun b hb=>jZhz _ _ _ _ _ b hb) hne)
   have HF:=hide (Fresh.own j2)
   clear hpx hne
   go_wp2
   exact bodyPost_ret (v:=.agg #[.int .i64 (W:Nat),.int .i64 (Y:Nat),.slice so ps.length scap]) (by simp[results,Tryz.results86,go_sem,z0,z1,z2]) rfl ⟨_,rfl,HX.out,HFI.out,HF.out⟩
end Go.Proofs.YtfjeonehdlphiaaGreatDoor
