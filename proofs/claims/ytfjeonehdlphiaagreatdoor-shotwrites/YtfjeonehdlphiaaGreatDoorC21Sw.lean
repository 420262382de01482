/- Sw: part 21 of what the proofs need. -/
import Derived.Test.YtfjeonehdlphiaaGreatDoorC3Sw
import Derived.Test.YtfjeonehdlphiaaGreatDoorC4Sw
import Derived.Test.YtfjeonehdlphiaaGreatDoorC9Sw
import Derived.Test.YtfjeonehdlphiaaGreatDoorC16Sw
set_option linter.unusedVariables false
set_option maxHeartbeats 1600000
set_option maxRecDepth 100000
namespace Go.Proofs.YtfjeonehdlphiaaGreatDoor
open Go.RowKit
abbrev nine (m:Nat→Int):Array Value:=#[.int .i64 (m 0),.int .i64 (m 1),.int .i64 (m 2),.int .i64 (m 3),.int .i64 (m 4),.int .i64 (m 5),.int .i64 (m 6),.int .i64 (m 7),.int .i64 (m 8)]
def nineL (m:Nat→Int):List Int:=(List.range 9).map m
def matOk (m:Nat→Int):Bool:=allIn (-32768) 32768 (nineL m)
theorem X1Cm (m:Nat→Int) (k:Nat) (h:k<9):(nine m)[k]?=some (.int .i64 (m k)):=by
 rcases (show k=0∨k=1∨k=2∨k=3∨k=4∨k=5∨k=6∨k=7∨k=8 by omega) with rfl|rfl|rfl|rfl|rfl|rfl|rfl|rfl|rfl<;>rfl
theorem XiDe {m:Nat→Int} (h:matOk m=true) (k:Nat) (hk:k<9):-32768≤m k∧m k≤32768:=by
 have:=List.all_eq_true.1 h (m k) (List.mem_map.2 ⟨k,List.mem_range.2 hk,rfl⟩)
 simpa using this
theorem qtKV {w w':World} {t:TypeId} (m:Nat→Int) (hb:Below (w.alloc (.cells (nine m) t)).heap.size (w.alloc (.cells (nine m) t)) w'):jCvT w' (.slice (some ⟨w.heap.size,0,none⟩) 9 9) (nineL m):=by
 refine ⟨_,_,rfl,by simp[nineL],.inr ⟨w.heap.size,0,rfl,by have:=hb.size;simp at this;omega,fun j hj=>?_⟩⟩
 have hj9:j<9:=by simpa [nineL] using hj
 rw[hb.cell (p:=⟨w.heap.size,0+j,none⟩) (by simp),Lib.cell_of_heap (heap_alloc_new w _),Nat.zero_add,X1Cm m j hj9]
 simp[nineL]
theorem XdM0 (m:Nat→Int) (w:World):Calls Tryz.prog 148 #[.agg (nine m)] w fun e w'=>e=.returned (.bool (matOk m))∧Below w.heap.size w w':=by
 go_enter Tryz.func148,Tryz.ntmps148
 go_wp2_with fail
 refine (qFis (-32768) 32768 _ (nineL m) _ (qtKV m (Below.refl _ _))).mono ?_
 rintro e w1 ⟨rfl,rfl⟩
 rw[show allIn (-32768) 32768 (nineL m)=matOk m from rfl]
 go_wp2
 go_ret
 exact ⟨rfl,qUNz _ _⟩
theorem zZMj {w:World} {b:Nat} {t:TypeId} {fr:Nat×Nat} {m:Nat→Int} (h:w.heap[b]?=some (.cells (nine m) t fr)) :
  w.cell? ⟨b,0,none⟩=some (.int .i64 (m 0))∧w.cell? ⟨b,1,none⟩=some (.int .i64 (m 1))∧w.cell? ⟨b,2,none⟩=some (.int .i64 (m 2))∧w.cell? ⟨b,3,none⟩=some (.int .i64 (m 3))∧w.cell? ⟨b,4,none⟩=some (.int .i64 (m 4))∧w.cell? ⟨b,5,none⟩=some (.int .i64 (m 5))∧w.cell? ⟨b,6,none⟩=some (.int .i64 (m 6))∧w.cell? ⟨b,7,none⟩=some (.int .i64 (m 7))∧w.cell? ⟨b,8,none⟩=some (.int .i64 (m 8)) :=
 ⟨by rw[Lib.cell_of_heap h];rfl,by rw[Lib.cell_of_heap h];rfl,by rw[Lib.cell_of_heap h];rfl,by rw[Lib.cell_of_heap h];rfl,by rw[Lib.cell_of_heap h];rfl,by rw[Lib.cell_of_heap h];rfl,by rw[Lib.cell_of_heap h];rfl,by rw[Lib.cell_of_heap h];rfl,by rw[Lib.cell_of_heap h];rfl⟩
def mixE (W H:Int) (ps:List Px) (m:Nat→Int):Int:=if picOk W H ps=true then (if matOk m=true then 0 else 3) else 1
theorem jjtZ (W H:Int) (v:Value) (ps:List Px) (m:Nat→Int) (w:World) (hv:IsPix w v ps) :
  Calls Tryz.prog 269 #[.agg #[.int .i64 W,.int .i64 H,v],.agg (nine m)] w fun e w'=>∃r,e=.returned (.tuple #[.agg #[.int .i64 (okW (mixE W H ps m) W),.int .i64 (okW (mixE W H ps m) H),r],.int .i64 (mixE W H ps m)])∧IsPix w' r (okL (mixE W H ps m) (ps.map (mixP m)))∧Below w.heap.size w w'∧Fresh w.heap.size r:=by
 have HV:=hide hv
 obtain ⟨ao,ca,rfl,hla,hc⟩:=hv
 obtain ⟨E,hE⟩:∃E,mixE W H ps m=E:=⟨_,rfl⟩
 rw[hE]
 by_cases hp:picOk W H ps=true
 ·by_cases hm:matOk m=true
  ·have he:E=0:=by rw[←hE,mixE,if_pos hp,if_pos hm]
   subst he
   clear hE
   obtain ⟨⟨w1,w2⟩,⟨h1,h2⟩,hl,hpx⟩:=XMjn hp
   obtain ⟨WN,rfl⟩:=Int.eq_ofNat_of_zero_le (show 0≤W by omega)
   obtain ⟨HN,rfl⟩:=Int.eq_ofNat_of_zero_le (show 0≤H by omega)
   have HLEN:=hide (show ps.length=HN*WN by rw[Nat.mul_comm];exact_mod_cast hl)
   have HPX:=hide hpx
   clear hl hpx
   go_enter Tryz.func269,Tryz.ntmps269
   go_wp2_with fail
   obtain ⟨a1,a2,a3⟩:=al3 w (Obj.cells #[.int .i64 (WN:Nat),.int .i64 (HN:Nat),.slice ao ps.length ca] 24) (Obj.cells (nine m) 48) (Obj.cells #[.int .i64 0,.int .i64 0,.slice none 0 0] 24)
   have hB:=be3 w (Obj.cells #[.int .i64 (WN:Nat),.int .i64 (HN:Nat),.slice ao ps.length ca] 24) (Obj.cells (nine m) 48) (Obj.cells #[.int .i64 0,.int .i64 0,.slice none 0 0] 24)
   have hs3:(((w.alloc (Obj.cells #[.int .i64 (WN:Nat),.int .i64 (HN:Nat),.slice ao ps.length ca] 24)).alloc (Obj.cells (nine m) 48)).alloc (Obj.cells #[.int .i64 0,.int .i64 0,.slice none 0 0] 24)).heap.size=w.heap.size+3:=by simp
   generalize ((w.alloc (Obj.cells #[.int .i64 (WN:Nat),.int .i64 (HN:Nat),.slice ao ps.length ca] 24)).alloc (Obj.cells (nine m) 48)).alloc (Obj.cells #[.int .i64 0,.int .i64 0,.slice none 0 0] 24)=U at *
   refine (XDTU WN HN _ ps _ (HV.out.below hB (Nat.le_refl _))).mono ?_
   rintro e w1 ⟨rfl,hb1⟩
   rw[hp]
   have g1:=(hb1.block (w.heap.size) (by omega)).trans a1
   have g2:=(hb1.block (w.heap.size+1) (by omega)).trans a2
   have g3:=(hb1.block (w.heap.size+1+1) (by omega)).trans a3
   obtain ⟨n0,n1,n2,n3,n4,n5,n6,n7,n8⟩:=zZMj g2
   go_wp2_with fail
   refine (XdM0 m _).mono ?_
   rintro e w2 ⟨rfl,hb2⟩
   rw[hm]
   clear n0 n1 n2 n3 n4 n5 n6 n7 n8
   replace hb2:=quJN hb1 hb2
   replace g1:=(hb2.block (w.heap.size) (by omega)).trans a1
   replace g2:=(hb2.block (w.heap.size+1) (by omega)).trans a2
   replace g3:=(hb2.block (w.heap.size+1+1) (by omega)).trans a3
   obtain ⟨p0,p1,p2⟩:=z5EY g1
   go_wp2_with fail
   refine (jd7f WN HN (by omega) (by omega) _ ps HLEN.out 271 #[.pointer (some ⟨w.heap.size+1,0,none⟩)] (mixP m) _ (HV.out.below (hB.trans (hb2.mono hB.size)) (Nat.le_refl _)) (enters_of Tryz.func271 (by kernel_rfl) rfl) ?_).mono ?_
   ·intro j hj V hV
    have hb3:=quJN hb2 hV
    have g2':=(hb3.block (w.heap.size+1) (by omega)).trans a2
    exact jpF6 (w.heap.size+1) m (fun k hk=>XiDe hm k hk) ps[j] (List.all_eq_true.1 HPX.out _ (List.getElem_mem hj)) V (by have:=hb3.size;omega) (fun k hk=>by rw[Lib.cell_of_heap g2',X1Cm m k hk])
   ·rintro e w3 ⟨r,rfl,hr,hb3,hfr⟩
    clear p0 p1 p2
    replace hb3:=quJN hb2 hb3
    replace g3:=(hb3.block (w.heap.size+1+1) (by omega)).trans a3
    have hs2:=hb2.size
    obtain ⟨z0,z1,z2⟩:=z5EY g3
    have f0:=Lib.frozen_of_heap g3 0
    have f1:=Lib.frozen_of_heap g3 1
    have f2:=Lib.frozen_of_heap g3 2
    have HR:=hide hr
    obtain ⟨ro,rc,rfl,_,_⟩:=hr
    have HFIN:=hide (zHqh (hB.trans (hb3.mono hB.size)) (show w.heap.size≤w.heap.size+1+1 by omega) (.int .i64 (WN:Nat)) (.int .i64 (HN:Nat)) (.slice ro (ps.map (mixP m)).length rc))
    have HPX2:=hide (HR.out.set3 hfr (show w.heap.size+1+1<w2.heap.size by omega) (.int .i64 (WN:Nat)) (.int .i64 (HN:Nat)) (.slice ro (ps.map (mixP m)).length rc))
    rw[List.length_map] at HPX2 HFIN hfr
    go_wp2
    exact bodyPost_ret (v:=.tuple #[.agg #[.int .i64 (WN:Nat),.int .i64 (HN:Nat),.slice ro ps.length rc],.int .i64 0]) (by simp[results,Tryz.results269,go_sem,z0,z1,z2]) rfl ⟨_,rfl,HPX2.out,HFIN.out,hfr.mono (by omega)⟩
  ·have he:E=3:=by rw[←hE,mixE,if_pos hp,if_neg hm]
   have hm:matOk m=false:=by simpa using hm
   subst he
   clear hE
   go_enter Tryz.func269,Tryz.ntmps269
   go_wp2_with fail
   obtain ⟨a1,a2,a3⟩:=al3 w (Obj.cells #[.int .i64 W,.int .i64 H,.slice ao ps.length ca] 24) (Obj.cells (nine m) 48) (Obj.cells #[.int .i64 0,.int .i64 0,.slice none 0 0] 24)
   have hB:=be3 w (Obj.cells #[.int .i64 W,.int .i64 H,.slice ao ps.length ca] 24) (Obj.cells (nine m) 48) (Obj.cells #[.int .i64 0,.int .i64 0,.slice none 0 0] 24)
   have hs3:(((w.alloc (Obj.cells #[.int .i64 W,.int .i64 H,.slice ao ps.length ca] 24)).alloc (Obj.cells (nine m) 48)).alloc (Obj.cells #[.int .i64 0,.int .i64 0,.slice none 0 0] 24)).heap.size=w.heap.size+3:=by simp
   generalize ((w.alloc (Obj.cells #[.int .i64 W,.int .i64 H,.slice ao ps.length ca] 24)).alloc (Obj.cells (nine m) 48)).alloc (Obj.cells #[.int .i64 0,.int .i64 0,.slice none 0 0] 24)=U at *
   refine (XDTU W H _ ps _ (HV.out.below hB (Nat.le_refl _))).mono ?_
   rintro e w1 ⟨rfl,hb1⟩
   rw[hp]
   have g1:=(hb1.block (w.heap.size) (by omega)).trans a1
   have g2:=(hb1.block (w.heap.size+1) (by omega)).trans a2
   have g3:=(hb1.block (w.heap.size+1+1) (by omega)).trans a3
   obtain ⟨n0,n1,n2,n3,n4,n5,n6,n7,n8⟩:=zZMj g2
   go_wp2_with fail
   refine (XdM0 m _).mono ?_
   rintro e w2 ⟨rfl,hb2⟩
   rw[hm]
   clear n0 n1 n2 n3 n4 n5 n6 n7 n8
   replace hb2:=quJN hb1 hb2
   replace g1:=(hb2.block (w.heap.size) (by omega)).trans a1
   replace g2:=(hb2.block (w.heap.size+1) (by omega)).trans a2
   replace g3:=(hb2.block (w.heap.size+1+1) (by omega)).trans a3
   obtain ⟨z0,z1,z2⟩:=z5EY g3
   have f0:=Lib.frozen_of_heap g3 0
   have f1:=Lib.frozen_of_heap g3 1
   have f2:=Lib.frozen_of_heap g3 2
   have HBL:=hb2
   have HFIN:=hide (zHqh (hB.trans (HBL.mono hB.size)) (show w.heap.size≤w.heap.size+1+1 by omega) (.int .i64 0) (.int .i64 0) (.slice none 0 0))
   go_wp2
   exact bodyPost_ret (v:=.tuple #[.agg #[.int .i64 0,.int .i64 0,.slice none 0 0],.int .i64 3]) (by simp[results,Tryz.results269,go_sem,z0,z1,z2]) rfl ⟨.slice none 0 0,rfl,IsPix.nil _,HFIN.out,Fresh.nil _⟩
 ·have he:E=1:=by rw[←hE,mixE,if_neg hp]
  have hp:picOk W H ps=false:=by simpa using hp
  subst he
  clear hE
  go_enter Tryz.func269,Tryz.ntmps269
  go_wp2_with fail
  obtain ⟨a1,a2,a3⟩:=al3 w (Obj.cells #[.int .i64 W,.int .i64 H,.slice ao ps.length ca] 24) (Obj.cells (nine m) 48) (Obj.cells #[.int .i64 0,.int .i64 0,.slice none 0 0] 24)
  have hB:=be3 w (Obj.cells #[.int .i64 W,.int .i64 H,.slice ao ps.length ca] 24) (Obj.cells (nine m) 48) (Obj.cells #[.int .i64 0,.int .i64 0,.slice none 0 0] 24)
  have hs3:(((w.alloc (Obj.cells #[.int .i64 W,.int .i64 H,.slice ao ps.length ca] 24)).alloc (Obj.cells (nine m) 48)).alloc (Obj.cells #[.int .i64 0,.int .i64 0,.slice none 0 0] 24)).heap.size=w.heap.size+3:=by simp
  generalize ((w.alloc (Obj.cells #[.int .i64 W,.int .i64 H,.slice ao ps.length ca] 24)).alloc (Obj.cells (nine m) 48)).alloc (Obj.cells #[.int .i64 0,.int .i64 0,.slice none 0 0] 24)=U at *
  refine (XDTU W H _ ps _ (HV.out.below hB (Nat.le_refl _))).mono ?_
  rintro e w1 ⟨rfl,hb1⟩
  rw[hp]
  have g1:=(hb1.block (w.heap.size) (by omega)).trans a1
  have g2:=(hb1.block (w.heap.size+1) (by omega)).trans a2
  have g3:=(hb1.block (w.heap.size+1+1) (by omega)).trans a3
  obtain ⟨z0,z1,z2⟩:=z5EY g3
  have f0:=Lib.frozen_of_heap g3 0
  have f1:=Lib.frozen_of_heap g3 1
  have f2:=Lib.frozen_of_heap g3 2
  have HBL:=hb1
  have HFIN:=hide (zHqh (hB.trans (HBL.mono hB.size)) (show w.heap.size≤w.heap.size+1+1 by omega) (.int .i64 0) (.int .i64 0) (.slice none 0 0))
  go_wp2
  exact bodyPost_ret (v:=.tuple #[.agg #[.int .i64 0,.int .i64 0,.slice none 0 0],.int .i64 1]) (by simp[results,Tryz.results269,go_sem,z0,z1,z2]) rfl ⟨.slice none 0 0,rfl,IsPix.nil _,HFIN.out,Fresh.nil _⟩
def inTop (x:Int):Bool:=allIn 0 65535 [x]
theorem XUbU (x:Int):inTop x=true↔0≤x∧x≤65535:=by simp[inTop,allIn]
def qYU7 (ls:List Pt) (x:Int):Int:=if zamz ls=true then (if inTop x=true then 0 else 3) else 1
def zzs5 (ls:List Pt) (x:Int):Int:=if qYU7 ls x=0 then qy0p ls x else 0
theorem z26J (v:Value) (ls:List Pt) (x:Int) (w:World) (hv:IsPts w v ls) :
  Calls Tryz.prog 150 #[v,.int .i64 x] w fun e w'=>e=.returned (.tuple #[.int .i64 (zzs5 ls x),.int .i64 (qYU7 ls x)])∧Below w.heap.size w w':=by
 have HV:=hide hv
 clear hv
 obtain ⟨E,hE⟩:∃E,qYU7 ls x=E:=⟨_,rfl⟩
 obtain ⟨Z,hZ⟩:∃Z,zzs5 ls x=Z:=⟨_,rfl⟩
 rw[hE,hZ]
 rw[zzs5,hE] at hZ
 by_cases hc:zamz ls=true
 ·by_cases hx:inTop x=true
  ·have he:E=0:=by rw[←hE,qYU7,if_pos hc,if_pos hx]
   subst he
   rw[if_pos rfl] at hZ
   have HZ:=hide hZ
   obtain ⟨x0,x1⟩:=(XUbU x).1 hx
   have HC:=hide (zqz3 hc)
   clear hE hZ
   go_enter Tryz.func150,Tryz.ntmps150
   go_wp2_with fail
   refine (jHKJ _ ls _ HV.out).mono ?_
   rintro e w1 ⟨rfl,hb1⟩
   rw[hc]
   go_wp2_with fail
   refine (qFis 0 65535 _ [x] _ (ints1 w1 x)).mono ?_
   rintro e w2 ⟨rfl,rfl⟩
   rw[show allIn 0 65535 [x]=true from hx]
   have hb2:=quJN hb1 (qUNz w1 (Obj.cells #[.int .i64 x] 3))
   clear hc hx
   go_wp2_with fail
   refine (qmUZ _ ls x x0 x1 HC.out _ (HV.out.below hb2 (Nat.le_refl _))).mono ?_
   rintro e w3 ⟨rfl,hb3⟩
   go_wp2
   go_ret2
   rw[HZ.out]
   exact ⟨rfl,quJN hb2 hb3⟩
  ·have he:E=3:=by rw[←hE,qYU7,if_pos hc,if_neg hx]
   subst he
   rw[if_neg (by decide)] at hZ
   subst hZ
   have hx:allIn 0 65535 [x]=false:=by simpa [inTop] using hx
   clear hE
   go_enter Tryz.func150,Tryz.ntmps150
   go_wp2_with fail
   refine (jHKJ _ ls _ HV.out).mono ?_
   rintro e w1 ⟨rfl,hb1⟩
   rw[hc]
   go_wp2_with fail
   refine (qFis 0 65535 _ [x] _ (ints1 w1 x)).mono ?_
   rintro e w2 ⟨rfl,rfl⟩
   rw[hx]
   have hb2:=quJN hb1 (qUNz w1 (Obj.cells #[.int .i64 x] 3))
   go_wp2
   go_ret2
   exact ⟨rfl,hb2⟩
 ·have he:E=1:=by rw[←hE,qYU7,if_neg hc]
  subst he
  rw[if_neg (by decide)] at hZ
  subst hZ
  have hc:zamz ls=false:=by simpa using hc
  clear hE
  go_enter Tryz.func150,Tryz.ntmps150
  go_wp2_with fail
  refine (jHKJ _ ls _ HV.out).mono ?_
  rintro e w1 ⟨rfl,hb1⟩
  rw[hc]
  go_wp2
  go_ret2
  exact ⟨rfl,hb1⟩
def bendP (ls:List Pt) (p:Px):Px:=(qy0p ls p.1,qy0p ls p.2.1,qy0p ls p.2.2)
theorem X2Jq (Bl:Nat) (v:Value) (ls:List Pt) (hcv:jhAl ls) (p:Px) (hp:pxOk p=true) (V:World) (hB:Bl<V.heap.size) (hv:IsPts V v ls) (hc:V.cell? ⟨Bl,0,none⟩=some v) :
  Calls Tryz.prog 276 #[pixV p,.pointer (some ⟨Bl,0,none⟩)] V fun e w'=>e=.returned (pixV (bendP ls p))∧Below V.heap.size V w':=by
 obtain ⟨⟨r1,r2⟩,⟨g1,g2⟩,u1,u2⟩:=(X1aR p).1 hp
 obtain ⟨r,g,u⟩:=p
 simp only at r1 r2 g1 g2 u1 u2
 have HB1:=be2 V (Obj.cells #[.int .i64 r,.int .i64 g,.int .i64 u] 61) (Obj.cells #[.int .i64 0,.int .i64 0,.int .i64 0] 61)
 obtain ⟨k1,k2⟩:=al2 V (Obj.cells #[.int .i64 r,.int .i64 g,.int .i64 u] 61) (Obj.cells #[.int .i64 0,.int .i64 0,.int .i64 0] 61)
 have hsU:((V.alloc (Obj.cells #[.int .i64 r,.int .i64 g,.int .i64 u] 61)).alloc (Obj.cells #[.int .i64 0,.int .i64 0,.int .i64 0] 61)).heap.size=V.heap.size+2:=by simp
 have HV:=hide hv
 obtain ⟨ao,ca,rfl,_,_⟩:=hv
 go_enter Tryz.func276,Tryz.ntmps276
 go_wp2_with fail
 generalize (V.alloc (Obj.cells #[.int .i64 r,.int .i64 g,.int .i64 u] 61)).alloc (Obj.cells #[.int .i64 0,.int .i64 0,.int .i64 0] 61)=U at *
 have HS:=hide (show ∀w',Below U.heap.size U w'→(w'.cell? ⟨Bl,0,none⟩=some (.slice ao ls.length ca)∧w'.cell? ⟨V.heap.size,0,none⟩=some (.int .i64 r)∧w'.cell? ⟨V.heap.size,1,none⟩=some (.int .i64 g)∧w'.cell? ⟨V.heap.size,2,none⟩=some (.int .i64 u)) from fun w' h=>by
  have hV:=HB1.trans (h.mono HB1.size)
  obtain ⟨q0,q1,q2⟩:=z5EY ((h.block V.heap.size (by omega)).trans k1)
  exact ⟨(hV.cell (p:=⟨Bl,0,none⟩) hB).trans hc,q0,q1,q2⟩)
 have HS3:=hide (show ∀w' x y z,Below U.heap.size U w'→((((w'.setCell ⟨V.heap.size+1,0,none⟩ x).setCell ⟨V.heap.size+1,1,none⟩ y).setCell ⟨V.heap.size+1,2,none⟩ z).cell? ⟨Bl,0,none⟩=some (.slice ao ls.length ca)∧(((w'.setCell ⟨V.heap.size+1,0,none⟩ x).setCell ⟨V.heap.size+1,1,none⟩ y).setCell ⟨V.heap.size+1,2,none⟩ z).cell? ⟨V.heap.size,0,none⟩=some (.int .i64 r)∧(((w'.setCell ⟨V.heap.size+1,0,none⟩ x).setCell ⟨V.heap.size+1,1,none⟩ y).setCell ⟨V.heap.size+1,2,none⟩ z).cell? ⟨V.heap.size,1,none⟩=some (.int .i64 g)∧(((w'.setCell ⟨V.heap.size+1,0,none⟩ x).setCell ⟨V.heap.size+1,1,none⟩ y).setCell ⟨V.heap.size+1,2,none⟩ z).cell? ⟨V.heap.size,2,none⟩=some (.int .i64 u)) from fun w' x y z h=>by
  have hh:=HS.out w' h
  have e1:Bl≠V.heap.size+1:=by omega
  have e5:V.heap.size≠V.heap.size+1:=by omega
  rw[zd1R _ _ _ e1,zd1R _ _ _ e5,zd1R _ _ _ e5,zd1R _ _ _ e5]
  exact hh)
 have HH:=hide (show ∀w' x,Below U.heap.size U w'→0≤x→x≤65535→Calls Tryz.prog 190 #[.slice ao ls.length ca,.int .i64 x] w' fun e w''=>e=.returned (.int .i64 (qy0p ls x))∧Below U.heap.size U w''∧(w''.cell? ⟨V.heap.size+1,0,none⟩=some (.int .i64 0)∧w''.cell? ⟨V.heap.size+1,1,none⟩=some (.int .i64 0)∧w''.cell? ⟨V.heap.size+1,2,none⟩=some (.int .i64 0))∧w''.frozen? ⟨V.heap.size+1,0,none⟩=false∧w''.frozen? ⟨V.heap.size+1,1,none⟩=false∧w''.frozen? ⟨V.heap.size+1,2,none⟩=false from fun w' x h hx0 hx1 =>
  (qmUZ _ ls x hx0 hx1 hcv w' (HV.out.below (HB1.trans (h.mono HB1.size)) (Nat.le_refl _))).mono fun e w'' h2=>by
   have h3:=h.trans (h2.2.mono h.size)
   have hn:=(h3.block (V.heap.size+1) (by omega)).trans k2
   exact ⟨h2.1,h3,z5EY hn,Lib.frozen_of_heap hn 0,Lib.frozen_of_heap hn 1,Lib.frozen_of_heap hn 2⟩)
 have HFIN:=hide (show ∀w' x y z,Below U.heap.size U w'→Below V.heap.size V (((w'.setCell ⟨V.heap.size+1,0,none⟩ x).setCell ⟨V.heap.size+1,1,none⟩ y).setCell ⟨V.heap.size+1,2,none⟩ z) from fun w' x y z h=>zHqh (HB1.trans (h.mono HB1.size)) (by omega) x y z)
 have hdrew:Below U.heap.size U U.drew:=(Below.refl _ _).drew
 clear k1 k2 hc
 go_region_held3 (fun w'=>(w'.cell? ⟨Bl,0,none⟩=some (.slice ao ls.length ca)∧w'.cell? ⟨V.heap.size,0,none⟩=some (.int .i64 r)∧w'.cell? ⟨V.heap.size,1,none⟩=some (.int .i64 g)∧w'.cell? ⟨V.heap.size,2,none⟩=some (.int .i64 u)))
  (first|(refine HS.out _ ?_;assumption)|(refine HS3.out _ _ _ _ ?_;assumption))
  (first
   | (go_at_call 190;refine (HH.out _ _ ?_ ?_ ?_).mono ?_;assumption;assumption;assumption;rintro e wx ⟨rfl,hN,⟨z0,z1,z2⟩,f0,f1,f2⟩))
 all_goals
  go_wp2
  exact bodyPost_ret (v:=.agg #[.int .i64 (qy0p ls r),.int .i64 (qy0p ls g),.int .i64 (qy0p ls u)]) (by simp[results,Tryz.results276,go_sem,z0,z1,z2]) rfl ⟨rfl,HFIN.out _ _ _ _ (by assumption)⟩
def bendE (W H:Int) (ps:List Px) (ls:List Pt):Int:=if picOk W H ps=true∧zamz ls=true then 0 else 1
theorem q6yx (W H:Int) (v:Value) (ps:List Px) (vl:Value) (ls:List Pt) (w:World) (hv:IsPix w v ps) (hvl:IsPts w vl ls) :
  Calls Tryz.prog 275 #[.agg #[.int .i64 W,.int .i64 H,v],vl] w fun e w'=>∃r,e=.returned (.tuple #[.agg #[.int .i64 (okW (bendE W H ps ls) W),.int .i64 (okW (bendE W H ps ls) H),r],.int .i64 (bendE W H ps ls)])∧IsPix w' r (okL (bendE W H ps ls) (ps.map (bendP ls)))∧Below w.heap.size w w'∧Fresh w.heap.size r:=by
 have HV:=hide hv
 have HL:=hide hvl
 obtain ⟨ao,ca,rfl,hla,hc⟩:=hv
 obtain ⟨lo,lc,rfl,_,_⟩:=hvl
 obtain ⟨E,hE⟩:∃E,bendE W H ps ls=E:=⟨_,rfl⟩
 rw[hE]
 by_cases hp:picOk W H ps=true
 ·by_cases hm:zamz ls=true
  ·have he:E=0:=by rw[←hE,bendE,if_pos ⟨hp,hm⟩]
   subst he
   clear hE
   have HCV:=hide (zqz3 hm)
   obtain ⟨⟨w1,w2⟩,⟨h1,h2⟩,hl,hpx⟩:=XMjn hp
   obtain ⟨WN,rfl⟩:=Int.eq_ofNat_of_zero_le (show 0≤W by omega)
   obtain ⟨HN,rfl⟩:=Int.eq_ofNat_of_zero_le (show 0≤H by omega)
   have HLEN:=hide (show ps.length=HN*WN by rw[Nat.mul_comm];exact_mod_cast hl)
   have HPX:=hide hpx
   clear hl hpx
   go_enter Tryz.func275,Tryz.ntmps275
   go_wp2_with fail
   obtain ⟨a1,a2,a3⟩:=al3 w (Obj.cells #[.int .i64 (WN:Nat),.int .i64 (HN:Nat),.slice ao ps.length ca] 24) (Obj.cells #[.slice lo ls.length lc] 49) (Obj.cells #[.int .i64 0,.int .i64 0,.slice none 0 0] 24)
   have hB:=be3 w (Obj.cells #[.int .i64 (WN:Nat),.int .i64 (HN:Nat),.slice ao ps.length ca] 24) (Obj.cells #[.slice lo ls.length lc] 49) (Obj.cells #[.int .i64 0,.int .i64 0,.slice none 0 0] 24)
   have hs3:(((w.alloc (Obj.cells #[.int .i64 (WN:Nat),.int .i64 (HN:Nat),.slice ao ps.length ca] 24)).alloc (Obj.cells #[.slice lo ls.length lc] 49)).alloc (Obj.cells #[.int .i64 0,.int .i64 0,.slice none 0 0] 24)).heap.size=w.heap.size+3:=by simp
   generalize ((w.alloc (Obj.cells #[.int .i64 (WN:Nat),.int .i64 (HN:Nat),.slice ao ps.length ca] 24)).alloc (Obj.cells #[.slice lo ls.length lc] 49)).alloc (Obj.cells #[.int .i64 0,.int .i64 0,.slice none 0 0] 24)=U at *
   refine (XDTU WN HN _ ps _ (HV.out.below hB (Nat.le_refl _))).mono ?_
   rintro e w1 ⟨rfl,hb1⟩
   rw[hp]
   have g1:=(hb1.block (w.heap.size) (by omega)).trans a1
   have g2:=(hb1.block (w.heap.size+1) (by omega)).trans a2
   have g3:=(hb1.block (w.heap.size+1+1) (by omega)).trans a3
   have l0:w1.cell? ⟨w.heap.size+1,0,none⟩=some (.slice lo ls.length lc):=by rw[Lib.cell_of_heap g2];rfl
   go_wp2_with fail
   refine (jHKJ _ ls _ (HL.out.below (hB.trans (hb1.mono hB.size)) (Nat.le_refl _))).mono ?_
   rintro e w2 ⟨rfl,hb2⟩
   rw[hm]
   clear l0
   replace hb2:=quJN hb1 hb2
   replace g1:=(hb2.block (w.heap.size) (by omega)).trans a1
   replace g2:=(hb2.block (w.heap.size+1) (by omega)).trans a2
   replace g3:=(hb2.block (w.heap.size+1+1) (by omega)).trans a3
   obtain ⟨p0,p1,p2⟩:=z5EY g1
   go_wp2_with fail
   refine (jd7f WN HN (by omega) (by omega) _ ps HLEN.out 276 #[.pointer (some ⟨w.heap.size+1,0,none⟩)] (bendP ls) _ (HV.out.below (hB.trans (hb2.mono hB.size)) (Nat.le_refl _)) (enters_of Tryz.func276 (by kernel_rfl) rfl) ?_).mono ?_
   ·intro j hj V hV
    have hb3:=quJN hb2 hV
    have g2':=(hb3.block (w.heap.size+1) (by omega)).trans a2
    exact X2Jq (w.heap.size+1) _ ls HCV.out ps[j] (List.all_eq_true.1 HPX.out _ (List.getElem_mem hj)) V (by have:=hb3.size;omega) (HL.out.below (hB.trans (hb3.mono hB.size)) (Nat.le_refl _)) (by rw[Lib.cell_of_heap g2'];rfl)
   ·rintro e w3 ⟨r,rfl,hr,hb3,hfr⟩
    clear p0 p1 p2
    replace hb3:=quJN hb2 hb3
    replace g3:=(hb3.block (w.heap.size+1+1) (by omega)).trans a3
    have hs2:=hb2.size
    obtain ⟨z0,z1,z2⟩:=z5EY g3
    have f0:=Lib.frozen_of_heap g3 0
    have f1:=Lib.frozen_of_heap g3 1
    have f2:=Lib.frozen_of_heap g3 2
    have HR:=hide hr
    obtain ⟨ro,rc,rfl,_,_⟩:=hr
    have HFIN:=hide (zHqh (hB.trans (hb3.mono hB.size)) (show w.heap.size≤w.heap.size+1+1 by omega) (.int .i64 (WN:Nat)) (.int .i64 (HN:Nat)) (.slice ro (ps.map (bendP ls)).length rc))
    have HPX2:=hide (HR.out.set3 hfr (show w.heap.size+1+1<w2.heap.size by omega) (.int .i64 (WN:Nat)) (.int .i64 (HN:Nat)) (.slice ro (ps.map (bendP ls)).length rc))
    rw[List.length_map] at HPX2 HFIN hfr
    go_wp2
    exact bodyPost_ret (v:=.tuple #[.agg #[.int .i64 (WN:Nat),.int .i64 (HN:Nat),.slice ro ps.length rc],.int .i64 0]) (by simp[results,Tryz.results275,go_sem,z0,z1,z2]) rfl ⟨_,rfl,HPX2.out,HFIN.out,hfr.mono (by omega)⟩
  ·have he:E=1:=by rw[←hE,bendE,if_neg (fun h=>hm h.2)]
   have hm:zamz ls=false:=by simpa using hm
   subst he
   clear hE
   go_enter Tryz.func275,Tryz.ntmps275
   go_wp2_with fail
   obtain ⟨a1,a2,a3⟩:=al3 w (Obj.cells #[.int .i64 W,.int .i64 H,.slice ao ps.length ca] 24) (Obj.cells #[.slice lo ls.length lc] 49) (Obj.cells #[.int .i64 0,.int .i64 0,.slice none 0 0] 24)
   have hB:=be3 w (Obj.cells #[.int .i64 W,.int .i64 H,.slice ao ps.length ca] 24) (Obj.cells #[.slice lo ls.length lc] 49) (Obj.cells #[.int .i64 0,.int .i64 0,.slice none 0 0] 24)
   have hs3:(((w.alloc (Obj.cells #[.int .i64 W,.int .i64 H,.slice ao ps.length ca] 24)).alloc (Obj.cells #[.slice lo ls.length lc] 49)).alloc (Obj.cells #[.int .i64 0,.int .i64 0,.slice none 0 0] 24)).heap.size=w.heap.size+3:=by simp
   generalize ((w.alloc (Obj.cells #[.int .i64 W,.int .i64 H,.slice ao ps.length ca] 24)).alloc (Obj.cells #[.slice lo ls.length lc] 49)).alloc (Obj.cells #[.int .i64 0,.int .i64 0,.slice none 0 0] 24)=U at *
   refine (XDTU W H _ ps _ (HV.out.below hB (Nat.le_refl _))).mono ?_
   rintro e w1 ⟨rfl,hb1⟩
   rw[hp]
   have g1:=(hb1.block (w.heap.size) (by omega)).trans a1
   have g2:=(hb1.block (w.heap.size+1) (by omega)).trans a2
   have g3:=(hb1.block (w.heap.size+1+1) (by omega)).trans a3
   have l0:w1.cell? ⟨w.heap.size+1,0,none⟩=some (.slice lo ls.length lc):=by rw[Lib.cell_of_heap g2];rfl
   go_wp2_with fail
   refine (jHKJ _ ls _ (HL.out.below (hB.trans (hb1.mono hB.size)) (Nat.le_refl _))).mono ?_
   rintro e w2 ⟨rfl,hb2⟩
   rw[hm]
   clear l0
   replace hb2:=quJN hb1 hb2
   replace g1:=(hb2.block (w.heap.size) (by omega)).trans a1
   replace g2:=(hb2.block (w.heap.size+1) (by omega)).trans a2
   replace g3:=(hb2.block (w.heap.size+1+1) (by omega)).trans a3
   obtain ⟨z0,z1,z2⟩:=z5EY g3
   have f0:=Lib.frozen_of_heap g3 0
   have f1:=Lib.frozen_of_heap g3 1
   have f2:=Lib.frozen_of_heap g3 2
   have HBL:=hb2
   have HFIN:=hide (zHqh (hB.trans (HBL.mono hB.size)) (show w.heap.size≤w.heap.size+1+1 by omega) (.int .i64 0) (.int .i64 0) (.slice none 0 0))
   go_wp2
   exact bodyPost_ret (v:=.tuple #[.agg #[.int .i64 0,.int .i64 0,.slice none 0 0],.int .i64 1]) (by simp[results,Tryz.results275,go_sem,z0,z1,z2]) rfl ⟨.slice none 0 0,rfl,IsPix.nil _,HFIN.out,Fresh.nil _⟩
 ·have he:E=1:=by rw[←hE,bendE,if_neg (fun h=>hp h.1)]
  have hp:picOk W H ps=false:=by simpa using hp
  subst he
  clear hE
  go_enter Tryz.func275,Tryz.ntmps275
  go_wp2_with fail
  obtain ⟨a1,a2,a3⟩:=al3 w (Obj.cells #[.int .i64 W,.int .i64 H,.slice ao ps.length ca] 24) (Obj.cells #[.slice lo ls.length lc] 49) (Obj.cells #[.int .i64 0,.int .i64 0,.slice none 0 0] 24)
  have hB:=be3 w (Obj.cells #[.int .i64 W,.int .i64 H,.slice ao ps.length ca] 24) (Obj.cells #[.slice lo ls.length lc] 49) (Obj.cells #[.int .i64 0,.int .i64 0,.slice none 0 0] 24)
  have hs3:(((w.alloc (Obj.cells #[.int .i64 W,.int .i64 H,.slice ao ps.length ca] 24)).alloc (Obj.cells #[.slice lo ls.length lc] 49)).alloc (Obj.cells #[.int .i64 0,.int .i64 0,.slice none 0 0] 24)).heap.size=w.heap.size+3:=by simp
  generalize ((w.alloc (Obj.cells #[.int .i64 W,.int .i64 H,.slice ao ps.length ca] 24)).alloc (Obj.cells #[.slice lo ls.length lc] 49)).alloc (Obj.cells #[.int .i64 0,.int .i64 0,.slice none 0 0] 24)=U at *
  refine (XDTU W H _ ps _ (HV.out.below hB (Nat.le_refl _))).mono ?_
  rintro e w1 ⟨rfl,hb1⟩
  rw[hp]
  have g1:=(hb1.block (w.heap.size) (by omega)).trans a1
  have g2:=(hb1.block (w.heap.size+1) (by omega)).trans a2
  have g3:=(hb1.block (w.heap.size+1+1) (by omega)).trans a3
  obtain ⟨z0,z1,z2⟩:=z5EY g3
  have f0:=Lib.frozen_of_heap g3 0
  have f1:=Lib.frozen_of_heap g3 1
  have f2:=Lib.frozen_of_heap g3 2
  have HBL:=hb1
  have HFIN:=hide (zHqh (hB.trans (HBL.mono hB.size)) (show w.heap.size≤w.heap.size+1+1 by omega) (.int .i64 0) (.int .i64 0) (.slice none 0 0))
  go_wp2
  exact bodyPost_ret (v:=.tuple #[.agg #[.int .i64 0,.int .i64 0,.slice none 0 0],.int .i64 1]) (by simp[results,Tryz.results275,go_sem,z0,z1,z2]) rfl ⟨.slice none 0 0,rfl,IsPix.nil _,HFIN.out,Fresh.nil _⟩
theorem j7Ww {et ct:TypeId} {sz:Nat} (ce:ct≠et) {W' V1 w1 w:World} {base PB:Nat} {x y:Value} {so:Option Addr} {scap k m g cap:Nat} {xs ys:List Value}
  (i1:W'.heap[PB]?=some (.cells #[x,y,.slice so k scap] ct (0,0))) (i2:W'.ownsRow base et sz (.slice so k scap) k xs)
  (i5:Below w.heap.size w W') (hb:w.heap.size≤base) (hPB:w.heap.size≤PB) (hV1:Below W'.heap.size W' V1) (hg:V1.grownBy w1 (Value.slice so k scap).ownBlock)
  (ho:w1.ownsRow base et sz (.slice (some ⟨g,0,none⟩) m cap) m ys) :
  (∀b,b<W'.heap.size→some b≠(Value.slice so k scap).ownBlock→w1.heap[b]?=W'.heap[b]?)∧w1.cell? ⟨PB,2,none⟩=some (.slice so k scap)∧w1.frozen? ⟨PB,2,none⟩=false ∧
   (w1.setCell ⟨PB,2,none⟩ (.slice (some ⟨g,0,none⟩) m cap)).heap[PB]?=some (.cells #[x,y,.slice (some ⟨g,0,none⟩) m cap] ct (0,0)) ∧
   (w1.setCell ⟨PB,2,none⟩ (.slice (some ⟨g,0,none⟩) m cap)).ownsRow base et sz (.slice (some ⟨g,0,none⟩) m cap) m ys∧Below w.heap.size w (w1.setCell ⟨PB,2,none⟩ (.slice (some ⟨g,0,none⟩) m cap)) ∧
   (∀b,b<W'.heap.size→some b≠(Value.slice so k scap).ownBlock→b≠PB→(w1.setCell ⟨PB,2,none⟩ (.slice (some ⟨g,0,none⟩) m cap)).heap[b]?=W'.heap[b]?):=by
 have hs:=hV1.size
 have keep:∀b,b<W'.heap.size→some b≠(Value.slice so k scap).ownBlock→w1.heap[b]?=W'.heap[b]?:=fun b hb hne=>by
  rw[hg.block b (by omega) hne,hV1.block b hb]
 have l1:=(Array.getElem?_eq_some_iff.1 i1).1
 have kP:=(keep PB l1 (qYYy i2 i1 ce)).trans i1
 have hc:=heap_setCell_same w1 PB 2 _ _ (.slice (some ⟨g,0,none⟩) m cap) kP
 refine ⟨keep,by rw[Lib.cell_of_heap kP];rfl,Lib.frozen_of_heap kP 2,by rw[hc];rfl,ownsRow_setCell_other ho (fun e=>qYYy ho kP ce e.symm) _,?_,fun b hb hne hn=>(Below.heap_setCell _ _ _ _ hn).trans (keep b hb hne)⟩
 exact ((i5.trans (hV1.mono i5.size)).grown hg (by have:=i5.size;omega) (fun j hj=>Nat.le_trans hb (i2.lt j hj).1)).setCell (p:=⟨PB,2,none⟩) hPB _
def addP (s:Px) (k:Int) (p:Px):Px:=(s.1+k*p.1,s.2.1+k*p.2.1,s.2.2+k*p.2.2)
def X9Co (m:Int) (p:Px):Prop:=(0≤p.1∧p.1≤m*65535)∧(0≤p.2.1∧p.2.1≤m*65535)∧(0≤p.2.2∧p.2.2≤m*65535)
theorem qpn3 {a r A R:Int} (h1:0≤a) (h2:a≤A) (h3:0≤r) (h4:r≤R):0≤a*r∧a*r≤A*R :=
 ⟨Int.mul_nonneg h1 h3,Int.mul_le_mul h2 h4 h3 (by omega)⟩
theorem j8Cj (s p:Px) (k:Int) (hk0:0≤k) (hk:k≤4) (hs:X9Co 32 s) (hp:pxOk p=true) (w:World) :
  Calls Tryz.prog 282 #[pixV s,pixV p,.int .i64 k] w fun e w'=>e=.returned (pixV (addP s k p))∧Below w.heap.size w w':=by
 obtain ⟨⟨r1,r2⟩,⟨g1,g2⟩,u1,u2⟩:=(X1aR p).1 hp
 obtain ⟨⟨s1,s2⟩,⟨s3,s4⟩,s5,s6⟩:=hs
 obtain ⟨r,g,u⟩:=p
 obtain ⟨a,b,c⟩:=s
 simp only at r1 r2 g1 g2 u1 u2 s1 s2 s3 s4 s5 s6
 obtain ⟨m1,m2⟩:=qpn3 hk0 hk r1 r2
 obtain ⟨m3,m4⟩:=qpn3 hk0 hk g1 g2
 obtain ⟨m5,m6⟩:=qpn3 hk0 hk u1 u2
 have HE:=hide (show addP (a,b,c) k (r,g,u)=(a+k*r,b+k*g,c+k*u) from rfl)
 rw[HE.out]
 clear HE
 obtain ⟨A,hA⟩:∃A,k*r=A:=⟨_,rfl⟩
 obtain ⟨B,hB⟩:∃B,k*g=B:=⟨_,rfl⟩
 obtain ⟨C,hC⟩:∃C,k*u=C:=⟨_,rfl⟩
 rw[hA] at m1 m2
 rw[hB] at m3 m4
 rw[hC] at m5 m6
 rw[hA,hB,hC]
 go_enter Tryz.func282,Tryz.ntmps282
 go_wp2
 exact bodyPost_ret (v:=.agg #[.int .i64 (a+A),.int .i64 (b+B),.int .i64 (c+C)]) (by simp[results,Tryz.results282,go_sem]) rfl ⟨rfl,be3 _ _ _ _⟩
def near (W x:Int):Int:=if x<0 then 0 else if W≤x then W-1 else x
theorem Xxtr (W x:Int) (h:1≤W):0≤near W x∧near W x<W:=by unfold near;split<;>(try split)<;>omega
theorem jpLA (W x:Int):(x<0∧near W x=0)∨(0≤x∧W≤x∧near W x=W-1)∨(0≤x∧x<W∧near W x=x):=by unfold near;split<;>(try split)<;>omega
theorem qzGK (W H x y:Int) (hW1:1≤W) (hW:W≤64) (hH1:1≤H) (hH:H≤64) (hx0:-1≤x) (hx1:x≤66) (hy0:-1≤y) (hy1:y≤66) (w:World) :
  Calls Tryz.prog 283 #[.agg #[.int .i64 W,.int .i64 H],.agg #[.int .i64 x,.int .i64 y]] w fun e w'=>e=.returned (.agg #[.int .i64 (near W x),.int .i64 (near H y)])∧Below w.heap.size w w':=by
 rcases jpLA W x with ⟨a1,e1⟩|⟨a1,a2,e1⟩|⟨a1,a2,e1⟩<;>rcases jpLA H y with ⟨b1,e2⟩|⟨b1,b2,e2⟩|⟨b1,b2,e2⟩
 all_goals
  have E1:=hide e1
  have E2:=hide e2
  clear e1 e2
  go_enter Tryz.func283,Tryz.ntmps283
  go_wp2
  all_goals exact bodyPost_ret (v:=.agg #[.int .i64 (near W x),.int .i64 (near H y)]) (by simp[results,Tryz.results283,go_sem,E1.out,E2.out]) rfl ⟨rfl,be3 _ _ _ _⟩
end Go.Proofs.YtfjeonehdlphiaaGreatDoor
namespace Go.Proofs.YtfjeonehdlphiaaGreatDoor
open Go.RowKit Go.Shelf
attribute [local go_sem] Oper.semAt_some
def nOf (k:Nat):Nat:=if k<4 then k else k+1
def posOf (n:Nat):Nat:=if n≤4 then n else n-1
theorem zMht (n:Nat) (h:n≠4):posOf (n+1)=posOf n+1:=by unfold posOf;split<;>split<;>omega
theorem qYaj (n:Nat) (h:n≠4):nOf (posOf n)=n:=by unfold nOf posOf;split<;>split<;>omega
theorem z1dO (n:Nat) (h:n<9):posOf n<8:=by unfold posOf;split<;>omega
theorem zJHU (F:Fence) (n:Nat) (hf:F.fn 128) (hro:F.round=none) (X Y:Int) (w:World) :
  CallsIn F n Tryz.prog 128 #[.agg #[.int .i64 X,.int .i64 Y]] w fun e w'=>e=.returned (.func (.func 184) #[] #[.pointer (some ⟨w.heap.size,0,none⟩)])∧w'=w.alloc (.cells #[.int .i64 X,.int .i64 Y] 97):=by
 refine callsIn_of_wp Tryz.func128 rfl hf ?_ hro
 simp only[Tryz.ntmps128,List.size_toArray,List.length_cons,List.length_nil,Nat.reduceAdd,Nat.reduceSub,Array.replicate_succ,Array.replicate_zero,List.push_toArray,List.append_toArray,List.nil_append,List.cons_append]
 gi_wp2
 go_ret
 exact ⟨rfl,rfl⟩
theorem XdxO (F:Fence) (n:Nat) (hf:F.fn 184) (hro:F.round=none) (hn:1≤n) (l Bs X Y:Nat) (hX:X≤64) (hY0:Y≤64) (J Jx:List (Fin 8)→World→Prop) (hJa:∀s W o,J s W→J s (W.alloc o))
  (hY:∀pre (x:Fin 8) V,J pre V→pre.length<8→YieldAt F (n-1) Tryz.prog l #[.agg #[.int .i64 ((X:Int)-1+(nOf x.1 % 3:Nat)),.int .i64 ((Y:Int)-1+(nOf x.1 / 3:Nat))]] V fun e V' =>
   (e=.returned (.bool true)∧J (pre++[x]) V'∧KeepB Bs V V')∨(e=.returned (.bool false)∧Jx (pre++[x]) V'))
  (V:World) (hc0:V.cell? ⟨Bs,0,none⟩=some (.int .i64 X)) (hc1:V.cell? ⟨Bs,1,none⟩=some (.int .i64 Y)) (h0:J [] V) :
  CallsIn F n Tryz.prog 184 #[.func (.yield l) #[] #[],.pointer (some ⟨Bs,0,none⟩)] V fun e V'=>(∃v,e=.returned v) ∧
   ((∃ys,ys=List.finRange 8∧J ys V')∨(∃pre,pre <+: List.finRange 8∧Jx pre V')):=by
 refine callsIn_of_wp Tryz.func184 rfl hf ?_ hro
 simp only[Tryz.ntmps184,List.size_toArray,List.length_cons,List.length_nil,Nat.reduceAdd,Nat.reduceSub,Array.replicate_succ,Array.replicate_zero,List.push_toArray,List.append_toArray,List.nil_append,List.cons_append]
 gi_wp2
 gi_loopw [3] (fun i wr=>∃(b:Nat) (yb:Int),b≤3∧Hid (yb=(Y:Int)-1+(b:Nat))∧i=.int .i64 yb∧J (idx 8 (posOf (3*b))) wr∧wr.cell? ⟨Bs,0,none⟩=some (.int .i64 X)∧wr.cell? ⟨Bs,1,none⟩=some (.int .i64 Y)) (fun i _=>((Y:Int)+2-intOf i).toNat)
 case atStart=>exact ⟨0,(Y:Int)-1,by omega,hide (by simp),rfl,h0,hc0,hc1⟩
 case round =>
  obtain ⟨b,yb,hb,HYB,rfl,hJ,c0,c1⟩:=hrel
  clear hc0 hc1 h0
  by_cases hlt:b<3
  ·have hd:decide (yb≤(Y:Int)+1)=true:=by have:=HYB.out;simp;omega
   have hyb0:-1≤yb∧yb≤66:=by have:=HYB.out;omega
   obtain ⟨hyb0,hyb1⟩:=hyb0
   gi_wp2
   gi_loopw [4] (fun i wr=>∃(a:Nat) (xa:Int),a≤3∧Hid (xa=(X:Int)-1+(a:Nat))∧i=.int .i64 xa∧J (idx 8 (posOf (3*b+a))) wr∧wr.cell? ⟨Bs,0,none⟩=some (.int .i64 X)∧wr.cell? ⟨Bs,1,none⟩=some (.int .i64 Y)) (fun i _=>((X:Int)+2-intOf i).toNat)
   case atStart=>exact ⟨0,(X:Int)-1,by omega,hide (by simp),rfl,hJ,c0,c1⟩
   case round =>
    clear hJ c0 c1
    obtain ⟨a,xa,ha,HXA,rfl,hJ,c0,c1⟩:=hrel
    have hbs:Bs<wr.heap.size:=World.block_lt_of_cell? wr _ c0
    have hxa0:-1≤xa∧xa≤66:=by have:=HXA.out;omega
    obtain ⟨hxa0,hxa1⟩:=hxa0
    by_cases hal:a<3
    ·have hd2:decide (xa≤(X:Int)+1)=true:=by have:=HXA.out;simp;omega
     have k0:=(World.cell?_of_block (a:=⟨Bs,0,none⟩) (Below.heap_alloc wr (Obj.cells #[.int .i64 xa,.int .i64 yb] 97) Bs hbs)).trans c0
     have k1:=(World.cell?_of_block (a:=⟨Bs,1,none⟩) (Below.heap_alloc wr (Obj.cells #[.int .i64 xa,.int .i64 yb] 97) Bs hbs)).trans c1
     have HNX:=hide (show xa+1=(X:Int)-1+((a+1:Nat):Int) by have:=HXA.out;omega)
     have hms:((X:Int)+2-(xa+1)).toNat<((X:Int)+2-xa).toNat:=by have:=HXA.out;omega
     by_cases hcen:a=1∧b=1
     ·obtain rfl:xa=(X:Int):=by have:=HXA.out;omega
      obtain rfl:yb=(Y:Int):=by have:=HYB.out;omega
      have HP:=hide (show posOf (3*b+(a+1))=posOf (3*b+a) by rw[hcen.1,hcen.2];rfl)
      clear hcen
      gi_wp2
      refine ⟨fun _ h=>(by cases h),?_⟩
      gi_wp2
      go_roundw
      case rel=>exact ⟨a+1,_,by omega,HNX,rfl,by rw[HP.out];exact hJa _ _ _ hJ,k0,k1⟩
      case measure=>simpa [intOf] using hms
     ·have hn4:3*b+a≠4:=by omega
      have hplt:=z1dO (3*b+a) (by omega)
      have hYx:=hY (idx 8 (posOf (3*b+a))) ⟨posOf (3*b+a),hplt⟩ (wr.alloc (Obj.cells #[.int .i64 xa,.int .i64 yb] 97)) (hJa _ _ _ hJ) (by rw[zBZc _ _ (Nat.le_of_lt hplt)];exact hplt)
      simp only[qYaj (3*b+a) hn4,show (3*b+a) % 3=a by omega,show (3*b+a) / 3=b by omega] at hYx
      rw[←HXA.out,←HYB.out] at hYx
      obtain ⟨fn,tmps,assign,body,hy',hR⟩:=hYx
      have HSP:=hide (show idx 8 (posOf (3*b+(a+1)))=idx 8 (posOf (3*b+a))++[⟨posOf (3*b+a),hplt⟩] by
       rw[←zbJt 8 _ hplt,←zMht _ hn4];rfl)
      have HPR:=hide (show idx 8 (posOf (3*b+a))++[⟨posOf (3*b+a),hplt⟩] <+: List.finRange 8 by
       rw[←zbJt 8 _ hplt];exact zq3o 8 _)
      have hor:(¬xa=(X:Int))∨(xa=(X:Int)∧¬yb=(Y:Int)):=by have:=HXA.out;have:=HYB.out;omega
      clear hn4
      rcases hor with hxa|⟨hxa,hyb⟩
      ·gi_wp2
       refine hR.mono ?_
       rintro e V3 (⟨rfl,hJ3,hk3⟩|⟨rfl,hJx3⟩)
       ·have c3:=(World.cell?_of_block (a:=⟨Bs,0,none⟩) hk3).trans k0
        have c4:=(World.cell?_of_block (a:=⟨Bs,1,none⟩) hk3).trans k1
        rw[←HSP.out] at hJ3
        gi_wp2
        go_roundw
        case rel=>exact ⟨a+1,_,by omega,HNX,rfl,hJ3,c3,c4⟩
        case measure=>simpa [intOf] using hms
       ·gi_wp2
        refine bodyPost_ret (results_none rfl _ _ _) rfl ?_
        exact ⟨⟨_,rfl⟩,.inr ⟨_,HPR.out,hJx3⟩⟩
      ·subst hxa
       gi_wp2
       refine hR.mono ?_
       rintro e V3 (⟨rfl,hJ3,hk3⟩|⟨rfl,hJx3⟩)
       ·have c3:=(World.cell?_of_block (a:=⟨Bs,0,none⟩) hk3).trans k0
        have c4:=(World.cell?_of_block (a:=⟨Bs,1,none⟩) hk3).trans k1
        rw[←HSP.out] at hJ3
        gi_wp2
        go_roundw
        case rel=>exact ⟨a+1,_,by omega,HNX,rfl,hJ3,c3,c4⟩
        case measure=>simpa [intOf] using hms
       ·gi_wp2
        refine bodyPost_ret (results_none rfl _ _ _) rfl ?_
        exact ⟨⟨_,rfl⟩,.inr ⟨_,HPR.out,hJx3⟩⟩
    ·have hd2:decide (xa≤(X:Int)+1)=false:=by have:=HXA.out;simp;omega
     obtain rfl:a=3:=by omega
     have HNY:=hide (show yb+1=(Y:Int)-1+((b+1:Nat):Int) by have:=HYB.out;omega)
     have hms:((Y:Int)+2-(yb+1)).toNat<((Y:Int)+2-yb).toNat:=by have:=HYB.out;omega
     gi_wp2
     go_roundw
     case rel=>exact ⟨b+1,_,by omega,HNY,rfl,hJ,c0,c1⟩
     case measure=>simpa [intOf] using hms
  ·obtain rfl:b=3:=by omega
   have hd:decide (yb≤(Y:Int)+1)=false:=by have:=HYB.out;simp;omega
   gi_wp2
   go_end0
   exact ⟨⟨_,rfl⟩,.inl ⟨_,by rw[←jEoj];rfl,hJ⟩⟩
theorem jMfn (F:Fence) (n:Nat) (hf:F.fn 184) (hro:F.round=none) (hn:1≤n) (Bs X Y:Nat) (hX:X≤64) (hY0:Y≤64) (w:World) (hBw:Bs<w.heap.size)
  (hc0:w.cell? ⟨Bs,0,none⟩=some (.int .i64 X)) (hc1:w.cell? ⟨Bs,1,none⟩=some (.int .i64 Y)) :
  SeqStopsK F n Tryz.prog 184 #[.pointer (some ⟨Bs,0,none⟩)] (fun x:Fin 8=>#[Value.agg #[.int .i64 ((X:Int)-1+(nOf x.1 % 3:Nat)),.int .i64 ((Y:Int)-1+(nOf x.1 / 3:Nat))]]) (KeepB Bs) (fun ys=>ys=List.finRange 8) (fun pre=>pre <+: List.finRange 8) 8 w:=fun l J Jx V hV hJ _ hY h0 =>
 XdxO F n hf hro hn l Bs X Y hX hY0 J Jx (fun s W o h=>hJ s W (W.alloc o) none h (World.grownBy_alloc W o none) (fun r e=>by cases e)) hY V ((hV.cell (p:=⟨Bs,0,none⟩) hBw).trans hc0) ((hV.cell (p:=⟨Bs,1,none⟩) hBw).trans hc1) h0
end Go.Proofs.YtfjeonehdlphiaaGreatDoor
namespace Go.Proofs.YtfjeonehdlphiaaGreatDoor
open Go.RowKit
def pxAt (ps:List Px) (j:Nat):Px:=ps.getD j (0,0,0)
theorem jD3W (ps:List Px) (i:Nat) (h:i<ps.length):ps[i]=pxAt ps i:=by simp[pxAt,List.getD_eq_getElem?_getD,List.getElem?_eq_getElem h]
theorem z1DB {ps:List Px} (h:pxsOk ps=true) (j:Nat):pxOk (pxAt ps j)=true:=by
 by_cases hj:j<ps.length
 ·rw[←jD3W ps j hj];exact List.all_eq_true.1 h _ (List.getElem_mem hj)
 ·rw[pxAt,List.getD_eq_getElem?_getD,List.getElem?_eq_none (by omega)];rfl
def wIx (W H X Y:Nat) (k:Nat):Nat:=(near H ((Y:Int)-1+(nOf k / 3:Nat))).toNat*W+(near W ((X:Int)-1+(nOf k % 3:Nat))).toNat
def wWt (k:Nat):Int:=if nOf k % 3=1∨nOf k / 3=1 then 2 else 1
def wF (ps:List Px) (W H X Y:Nat) (pre:List (Fin 8)):Px:=pre.foldl (fun s x=>addP s (wWt x.1) (pxAt ps (wIx W H X Y x.1))) (addP (0,0,0) 4 (pxAt ps (Y*W+X)))
theorem zYcT (ps:List Px) (W H X Y:Nat) (pre:List (Fin 8)) (x:Fin 8):wF ps W H X Y (pre++[x])=addP (wF ps W H X Y pre) (wWt x.1) (pxAt ps (wIx W H X Y x.1)):=by simp[wF]
theorem XW1U (k:Nat):0≤wWt k∧wWt k≤2:=by unfold wWt;split<;>omega
theorem zVA9 {m n:Int} {s p:Px} {k:Int} (hs:X9Co m s) (hp:pxOk p=true) (h0:0≤k) (h1:k≤n):X9Co (m+n) (addP s k p):=by
 obtain ⟨⟨r1,r2⟩,⟨g1,g2⟩,u1,u2⟩:=(X1aR p).1 hp
 obtain ⟨⟨s1,s2⟩,⟨s3,s4⟩,s5,s6⟩:=hs
 obtain ⟨m1,m2⟩:=qpn3 h0 h1 r1 r2
 obtain ⟨m3,m4⟩:=qpn3 h0 h1 g1 g2
 obtain ⟨m5,m6⟩:=qpn3 h0 h1 u1 u2
 have e:(m+n)*65535=m*65535+n*65535:=Int.add_mul _ _ _
 refine ⟨⟨?_,?_⟩,⟨?_,?_⟩,?_,?_⟩<;>(simp only[addP];omega)
theorem qa6R {ps:List Px} (h:pxsOk ps=true) (W H X Y:Nat) (pre:List (Fin 8)) (m:Int) (s:Px) (hs:X9Co m s):X9Co (m+2*(pre.length:Int)) (pre.foldl (fun s x=>addP s (wWt x.1) (pxAt ps (wIx W H X Y x.1))) s):=by
 induction pre generalizing m s with
 | nil=>simpa using hs
 | cons x pre ih =>
  have:=ih (m+2) _ (zVA9 hs (z1DB h (wIx W H X Y x.1)) (XW1U x.1).1 (XW1U x.1).2)
  rw[show (m+2)+2*(pre.length:Int)=m+2*((x::pre).length:Int) by simp;omega] at this
  exact this
theorem jdoM {ps:List Px} (h:pxsOk ps=true) (W H X Y:Nat) (pre:List (Fin 8)):X9Co (4+2*(pre.length:Int)) (wF ps W H X Y pre) :=
 qa6R h W H X Y pre 4 _ (zVA9 (m:=0) (n:=4) (s:=(0,0,0)) (k:=4) ⟨⟨by decide,by decide⟩,⟨by decide,by decide⟩,by decide,by decide⟩ (z1DB h (Y*W+X)) (by omega) (by omega))
theorem qf9w {m n:Int} {p:Px} (h:X9Co m p) (hm:m≤n):X9Co n p:=by
 obtain ⟨⟨s1,s2⟩,⟨s3,s4⟩,s5,s6⟩:=h
 refine ⟨⟨s1,?_⟩,⟨s3,?_⟩,s5,?_⟩<;>omega
theorem wIx_lt {W H:Nat} (hW:1≤W) (hH:1≤H) (X Y k:Nat):wIx W H X Y k<H*W:=by
 obtain ⟨a1,a2⟩:=Xxtr H ((Y:Int)-1+(nOf k / 3:Nat)) (by omega)
 obtain ⟨b1,b2⟩:=Xxtr W ((X:Int)-1+(nOf k % 3:Nat)) (by omega)
 unfold wIx
 generalize near H ((Y:Int)-1+(nOf k / 3:Nat))=a at *
 generalize near W ((X:Int)-1+(nOf k % 3:Nat))=b at *
 obtain ⟨A,rfl⟩:=Int.eq_ofNat_of_zero_le a1
 obtain ⟨B,rfl⟩:=Int.eq_ofNat_of_zero_le b1
 simp only[Int.toNat_natCast]
 have h1:(A+1)*W≤H*W:=Nat.mul_le_mul_right _ (by omega)
 rw[Nat.succ_mul] at h1
 omega
end Go.Proofs.YtfjeonehdlphiaaGreatDoor
