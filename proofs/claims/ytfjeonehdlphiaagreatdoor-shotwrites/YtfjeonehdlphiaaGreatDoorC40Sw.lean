/- Sw: part 40 of what the proofs need. -/
import Derived.Test.YtfjeonehdlphiaaGreatDoorC25Sw
import Derived.Laws.EntriesVeiled
set_option linter.unusedVariables false
set_option maxHeartbeats 1600000
set_option maxRecDepth 100000
namespace Go.Proofs.YtfjeonehdlphiaaGreatDoor
open Go.RowKit
def joyM (W H:Int) (ps:List Px) (amount:Int):Int:=if picOk W H ps=true then (if XbQH amount=true then 0 else 3) else 1
def jz1R (W H:Int) (ps:List Px) (amount:Int):List Px:=(List.range ps.length).map (zesK ps W.toNat H.toNat amount)
theorem qVlB (W H:Int) (v:Value) (ps:List Px) (amount:Int) (w:World) (hv:IsPix w v ps) :
  Calls Tryz.prog 278 #[.agg #[.int .i64 W,.int .i64 H,v],.int .i64 amount] w fun e w'=>∃r,e=.returned (.tuple #[.agg #[.int .i64 (okW (joyM W H ps amount) W),.int .i64 (okW (joyM W H ps amount) H),r],.int .i64 (joyM W H ps amount)])∧IsPix w' r (okL (joyM W H ps amount) (jz1R W H ps amount))∧Below w.heap.size w w'∧Fresh w.heap.size r:=by
 have HV:=hide hv
 obtain ⟨ao,ca,rfl,hla,hc⟩:=hv
 obtain ⟨E,hE⟩:∃E,joyM W H ps amount=E:=⟨_,rfl⟩
 rw[hE]
 by_cases hp:picOk W H ps=true
 ·by_cases hm:XbQH amount=true
  ·have he:E=0:=by rw[←hE,joyM,if_pos hp,if_pos hm]
   subst he
   clear hE
   have HAM:=hide (show 0≤amount∧amount≤1024 by simpa [XbQH] using hm)
   obtain ⟨⟨w1,w2⟩,⟨h1,h2⟩,hl,hpx⟩:=XMjn hp
   obtain ⟨WN,rfl⟩:=Int.eq_ofNat_of_zero_le (show 0≤W by omega)
   obtain ⟨HN,rfl⟩:=Int.eq_ofNat_of_zero_le (show 0≤H by omega)
   have HLEN:=hide (show ps.length=HN*WN by rw[Nat.mul_comm];exact_mod_cast hl)
   have HPX:=hide hpx
   have HSL:=hide (show jz1R (WN:Nat) (HN:Nat) ps amount=(List.range (HN*WN)).map (zesK ps WN HN amount) by rw[jz1R,HLEN.out];rfl)
   clear hl hpx
   go_enter Tryz.func278,Tryz.ntmps278
   go_wp2_with fail
   obtain ⟨a1,a2,a3⟩:=al3 w (Obj.cells #[.int .i64 (WN:Nat),.int .i64 (HN:Nat),.slice ao ps.length ca] 24) (Obj.cells #[.int .i64 amount] 3) (Obj.cells #[.int .i64 0,.int .i64 0,.slice none 0 0] 24)
   have hB:=be3 w (Obj.cells #[.int .i64 (WN:Nat),.int .i64 (HN:Nat),.slice ao ps.length ca] 24) (Obj.cells #[.int .i64 amount] 3) (Obj.cells #[.int .i64 0,.int .i64 0,.slice none 0 0] 24)
   have hs3:(((w.alloc (Obj.cells #[.int .i64 (WN:Nat),.int .i64 (HN:Nat),.slice ao ps.length ca] 24)).alloc (Obj.cells #[.int .i64 amount] 3)).alloc (Obj.cells #[.int .i64 0,.int .i64 0,.slice none 0 0] 24)).heap.size=w.heap.size+3:=by simp
   generalize ((w.alloc (Obj.cells #[.int .i64 (WN:Nat),.int .i64 (HN:Nat),.slice ao ps.length ca] 24)).alloc (Obj.cells #[.int .i64 amount] 3)).alloc (Obj.cells #[.int .i64 0,.int .i64 0,.slice none 0 0] 24)=U at *
   replace hs3:=Nat.le_of_eq hs3.symm
   refine (XDTU WN HN _ ps _ (HV.out.below hB (Nat.le_refl _))).mono ?_
   rintro e w1 ⟨rfl,hb1⟩
   rw[hp]
   have g1:=(hb1.block (w.heap.size) (by omega)).trans a1
   have g2:=(hb1.block (w.heap.size+1) (by omega)).trans a2
   have g3:=(hb1.block (w.heap.size+1+1) (by omega)).trans a3
   have l0:w1.cell? ⟨w.heap.size+1,0,none⟩=some (.int .i64 amount):=by rw[Lib.cell_of_heap g2];rfl
   go_wp2_with fail
   refine (Xfvu _ _).mono ?_
   rintro e w2 ⟨rfl,hb2⟩
   rw[hm]
   clear l0
   replace hb2:=quJN hb1 hb2
   replace g1:=(hb2.block (w.heap.size) (by omega)).trans a1
   replace g2:=(hb2.block (w.heap.size+1) (by omega)).trans a2
   replace g3:=(hb2.block (w.heap.size+1+1) (by omega)).trans a3
   obtain ⟨p0,p1,p2⟩:=z5EY g1
   have hww:w.heap.size<w2.heap.size:=by have:=hb2.size;omega
   go_wp2_with fail
   obtain ⟨d1,d2⟩:=al2 w2 (Obj.cells #[.func (.func 279) #[] #[.pointer (some ⟨w.heap.size+1,0,none⟩)]] 184) (Obj.cells #[.int .i64 (WN:Nat),.int .i64 (HN:Nat)] 95)
   have hD:=be2 w2 (Obj.cells #[.func (.func 279) #[] #[.pointer (some ⟨w.heap.size+1,0,none⟩)]] 184) (Obj.cells #[.int .i64 (WN:Nat),.int .i64 (HN:Nat)] 95)
   have hsD:((w2.alloc (Obj.cells #[.func (.func 279) #[] #[.pointer (some ⟨w.heap.size+1,0,none⟩)]] 184)).alloc (Obj.cells #[.int .i64 (WN:Nat),.int .i64 (HN:Nat)] 95)).heap.size=w2.heap.size+2:=by simp
   generalize (w2.alloc (Obj.cells #[.func (.func 279) #[] #[.pointer (some ⟨w.heap.size+1,0,none⟩)]] 184)).alloc (Obj.cells #[.int .i64 (WN:Nat),.int .i64 (HN:Nat)] 95)=Z at *
   replace hsD:=Nat.le_of_eq hsD.symm
   have hb2s:=hb2.size
   have hbZ:=quJN hb2 hD
   refine (XMhx WN HN (HN*WN) (by omega) (by omega) rfl 280 _ (zesK ps WN HN amount) Z (enters_of Tryz.func280 (by kernel_rfl) rfl) ?_).mono ?_
   ·intro j M hj hM
    have hj':j<ps.length:=by rw[HLEN.out];exact hj
    obtain ⟨bk,off,hao,hbl,hcell⟩:∃b off,ao=some ⟨b,off,none⟩∧b<w.heap.size∧∀j (h:j<ps.length),
      w.cell? ⟨b,off+j*3,none⟩=some (.int .i64 ps[j].1)∧w.cell? ⟨b,off+j*3+1,none⟩=some (.int .i64 ps[j].2.1)∧w.cell? ⟨b,off+j*3+2,none⟩=some (.int .i64 ps[j].2.2):=by
     rcases hc with h|h
     ·subst h;simp at hj'
     ·exact h
    subst hao
    have hUM:=quJN hbZ hM
    have hwM:=hB.trans (hUM.mono hB.size)
    have hsM:=hM.size
    have m1:=(hUM.block w.heap.size (by omega)).trans a1
    have m2:=(hUM.block (w.heap.size+1) (by omega)).trans a2
    have m3:=(hM.block w2.heap.size (by omega)).trans d1
    have m4:=(hM.block (w2.heap.size+1) (by omega)).trans d2
    obtain ⟨e0,e1,e2⟩:=z5EY m1
    exact XNss WN HN j bk off ca (by omega) (by omega) (by omega) (by omega) amount HAM.out.1 HAM.out.2 ps HLEN.out HPX.out hj' w.heap.size (w2.heap.size+1) w2.heap.size (w.heap.size+1) M (by omega) (by omega) (by omega) (by omega) (by omega)
     e0 e1 e2 (by rw[Lib.cell_of_heap m4];rfl) (by rw[Lib.cell_of_heap m4];rfl) (by rw[Lib.cell_of_heap m3];rfl) (by rw[Lib.cell_of_heap m2];rfl) (fun i hi=>by
      obtain ⟨c0,c1,c2⟩:=hcell i hi
      rw[jD3W ps i hi] at c0 c1 c2
      exact ⟨(hwM.cell (p:=⟨bk,off+i*3,none⟩) hbl).trans c0,(hwM.cell (p:=⟨bk,off+i*3+1,none⟩) hbl).trans c1,(hwM.cell (p:=⟨bk,off+i*3+2,none⟩) hbl).trans c2⟩)
   ·rintro e w3 ⟨r,rfl,hr,hb3,hfr⟩
    clear p0 p1 p2
    rw[←HSL.out] at hr
    have hsl:(jz1R (WN:Nat) (HN:Nat) ps amount).length=ps.length:=by simp[jz1R]
    have HSLL:=hide hsl
    clear hsl
    replace hb3:=quJN hbZ hb3
    replace g3:=(hb3.block (w.heap.size+1+1) (by omega)).trans a3
    obtain ⟨z0,z1,z2⟩:=z5EY g3
    have f0:=Lib.frozen_of_heap g3 0
    have f1:=Lib.frozen_of_heap g3 1
    have f2:=Lib.frozen_of_heap g3 2
    have HR:=hide hr
    obtain ⟨ro,rc,rfl,_,_⟩:=hr
    have HFIN:=hide (zHqh (hB.trans (hb3.mono hB.size)) (show w.heap.size≤w.heap.size+1+1 by omega) (.int .i64 (WN:Nat)) (.int .i64 (HN:Nat)) (.slice ro (jz1R (WN:Nat) (HN:Nat) ps amount).length rc))
    have HPX2:=hide (HR.out.set3 hfr (show w.heap.size+1+1<Z.heap.size by omega) (.int .i64 (WN:Nat)) (.int .i64 (HN:Nat)) (.slice ro (jz1R (WN:Nat) (HN:Nat) ps amount).length rc))
    rw[HSLL.out] at HPX2 HFIN hfr
    rw[HSLL.out]
    go_wp2
    exact bodyPost_ret (v:=.tuple #[.agg #[.int .i64 (WN:Nat),.int .i64 (HN:Nat),.slice ro ps.length rc],.int .i64 0]) (by simp[results,Tryz.results278,go_sem,z0,z1,z2]) rfl ⟨_,rfl,HPX2.out,HFIN.out,hfr.mono (by omega)⟩
  ·have he:E=3:=by rw[←hE,joyM,if_pos hp,if_neg hm]
   have hm:XbQH amount=false:=by simpa using hm
   subst he
   clear hE
   go_enter Tryz.func278,Tryz.ntmps278
   go_wp2_with fail
   obtain ⟨a1,a2,a3⟩:=al3 w (Obj.cells #[.int .i64 W,.int .i64 H,.slice ao ps.length ca] 24) (Obj.cells #[.int .i64 amount] 3) (Obj.cells #[.int .i64 0,.int .i64 0,.slice none 0 0] 24)
   have hB:=be3 w (Obj.cells #[.int .i64 W,.int .i64 H,.slice ao ps.length ca] 24) (Obj.cells #[.int .i64 amount] 3) (Obj.cells #[.int .i64 0,.int .i64 0,.slice none 0 0] 24)
   have hs3:(((w.alloc (Obj.cells #[.int .i64 W,.int .i64 H,.slice ao ps.length ca] 24)).alloc (Obj.cells #[.int .i64 amount] 3)).alloc (Obj.cells #[.int .i64 0,.int .i64 0,.slice none 0 0] 24)).heap.size=w.heap.size+3:=by simp
   generalize ((w.alloc (Obj.cells #[.int .i64 W,.int .i64 H,.slice ao ps.length ca] 24)).alloc (Obj.cells #[.int .i64 amount] 3)).alloc (Obj.cells #[.int .i64 0,.int .i64 0,.slice none 0 0] 24)=U at *
   replace hs3:=Nat.le_of_eq hs3.symm
   refine (XDTU W H _ ps _ (HV.out.below hB (Nat.le_refl _))).mono ?_
   rintro e w1 ⟨rfl,hb1⟩
   rw[hp]
   have g1:=(hb1.block (w.heap.size) (by omega)).trans a1
   have g2:=(hb1.block (w.heap.size+1) (by omega)).trans a2
   have g3:=(hb1.block (w.heap.size+1+1) (by omega)).trans a3
   have l0:w1.cell? ⟨w.heap.size+1,0,none⟩=some (.int .i64 amount):=by rw[Lib.cell_of_heap g2];rfl
   go_wp2_with fail
   refine (Xfvu _ _).mono ?_
   rintro e w2 ⟨rfl,hb2⟩
   rw[hm]
   clear l0
   replace hb2:=quJN hb1 hb2
   replace g1:=(hb2.block (w.heap.size) (by omega)).trans a1
   replace g2:=(hb2.block (w.heap.size+1) (by omega)).trans a2
   replace g3:=(hb2.block (w.heap.size+1+1) (by omega)).trans a3
   obtain ⟨z0,z1,z2⟩:=z5EY g3
   have f0:=Lib.frozen_of_heap g3 0
   have f1:=Lib.frozen_of_heap g3 1
   have f2:=Lib.frozen_of_heap g3 2
   have HBL:=hb2
   have HFIN:=hide (zHqh (hB.trans (HBL.mono hB.size)) (show w.heap.size≤w.heap.size+1+1 by omega) (.int .i64 0) (.int .i64 0) (.slice none 0 0))
   go_wp2
   exact bodyPost_ret (v:=.tuple #[.agg #[.int .i64 0,.int .i64 0,.slice none 0 0],.int .i64 3]) (by simp[results,Tryz.results278,go_sem,z0,z1,z2]) rfl ⟨.slice none 0 0,rfl,IsPix.nil _,HFIN.out,Fresh.nil _⟩
 ·have he:E=1:=by rw[←hE,joyM,if_neg hp]
  have hp:picOk W H ps=false:=by simpa using hp
  subst he
  clear hE
  go_enter Tryz.func278,Tryz.ntmps278
  go_wp2_with fail
  obtain ⟨a1,a2,a3⟩:=al3 w (Obj.cells #[.int .i64 W,.int .i64 H,.slice ao ps.length ca] 24) (Obj.cells #[.int .i64 amount] 3) (Obj.cells #[.int .i64 0,.int .i64 0,.slice none 0 0] 24)
  have hB:=be3 w (Obj.cells #[.int .i64 W,.int .i64 H,.slice ao ps.length ca] 24) (Obj.cells #[.int .i64 amount] 3) (Obj.cells #[.int .i64 0,.int .i64 0,.slice none 0 0] 24)
  have hs3:(((w.alloc (Obj.cells #[.int .i64 W,.int .i64 H,.slice ao ps.length ca] 24)).alloc (Obj.cells #[.int .i64 amount] 3)).alloc (Obj.cells #[.int .i64 0,.int .i64 0,.slice none 0 0] 24)).heap.size=w.heap.size+3:=by simp
  generalize ((w.alloc (Obj.cells #[.int .i64 W,.int .i64 H,.slice ao ps.length ca] 24)).alloc (Obj.cells #[.int .i64 amount] 3)).alloc (Obj.cells #[.int .i64 0,.int .i64 0,.slice none 0 0] 24)=U at *
  replace hs3:=Nat.le_of_eq hs3.symm
  refine (XDTU W H _ ps _ (HV.out.below hB (Nat.le_refl _))).mono ?_
  rintro e w1 ⟨rfl,hb1⟩
  rw[hp]
  have g1:=(hb1.block (w.heap.size) (by omega)).trans a1
  have g2:=(hb1.block (w.heap.size+1) (by omega)).trans a2
  have g3:=(hb1.block (w.heap.size+1+1) (by omega)).trans a3
  obtain ⟨z0,z1,z2⟩:=z5EY g3
  have f0:=Lib.frozen_of_heap g3 0
  have f1:=Lib.frozen_of_heap g3 1
  have f2:=Lib.frozen_of_heap g3 2
  have HBL:=hb1
  have HFIN:=hide (zHqh (hB.trans (HBL.mono hB.size)) (show w.heap.size≤w.heap.size+1+1 by omega) (.int .i64 0) (.int .i64 0) (.slice none 0 0))
  go_wp2
  exact bodyPost_ret (v:=.tuple #[.agg #[.int .i64 0,.int .i64 0,.slice none 0 0],.int .i64 1]) (by simp[results,Tryz.results278,go_sem,z0,z1,z2]) rfl ⟨.slice none 0 0,rfl,IsPix.nil _,HFIN.out,Fresh.nil _⟩
end Go.Proofs.YtfjeonehdlphiaaGreatDoor
