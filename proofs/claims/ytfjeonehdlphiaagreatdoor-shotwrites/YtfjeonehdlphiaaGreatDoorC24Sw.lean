/- Sw: part 24 of what the proofs need. -/
import Derived.Test.YtfjeonehdlphiaaGreatDoorC4Sw
import Derived.Test.YtfjeonehdlphiaaGreatDoorC21Sw
import Derived.Test.YtfjeonehdlphiaaGreatDoorC22Sw
set_option linter.unusedVariables false
set_option maxHeartbeats 3200000
set_option maxRecDepth 100000
namespace Go.Proofs.YtfjeonehdlphiaaGreatDoor
open Go.RowKit
theorem jikX (q c:Nat):((q:Int) == (c:Int))=decide (q=c):=by
 by_cases h:q=c
 ·simp[h]
 ·rw[decide_eq_false h];simpa using fun e:(q:Int)=c=>h (by omega)
theorem zkc8 (p X Y:Nat) (hp:p≤3) (w:World):Calls Tryz.prog 126 #[.int .i64 p,.agg #[.int .i64 X,.int .i64 Y]] w fun e w'=>e=.returned (.int .i64 (colV p X Y:Nat))∧Below w.heap.size w w':=by
 go_enter Tryz.func126,Tryz.ntmps126
 go_wp2_with fail
 refine (XW0z p X Y hp _).mono ?_
 rintro e w1 ⟨rfl,hb1⟩
 go_wp2
 go_ret
 exact ⟨rfl,quJN (qUNz _ _) hb1⟩
theorem XhPw (p X Y c Bp Bc:Nat) (hp:p≤3) (w:World) (hBp:Bp<w.heap.size) (hBc:Bc<w.heap.size) (k1:w.cell? ⟨Bp,0,none⟩=some (.int .i64 p)) (k2:w.cell? ⟨Bc,0,none⟩=some (.int .i64 c)) :
  Calls Tryz.prog 129 #[.agg #[.int .i64 X,.int .i64 Y],.pointer (some ⟨Bp,0,none⟩),.pointer (some ⟨Bc,0,none⟩)] w fun e w'=>e=.returned (.bool (decide (colV p X Y=c)))∧Below w.heap.size w w':=by
 have HCO:=hide (fun v=>zkc8 p X Y hp v)
 obtain ⟨q,hq⟩:∃q,colV p X Y=q:=⟨_,rfl⟩
 rw[hq] at HCO ⊢
 clear hq
 have HB:=hide (qUNz w (Obj.cells #[.int .i64 X,.int .i64 Y] 97))
 have b3:=al1 w (Obj.cells #[.int .i64 X,.int .i64 Y] 97)
 have HE:=hide (jikX q c)
 go_enter Tryz.func129,Tryz.ntmps129
 go_wp2_with fail
 have hl3:=(Array.getElem?_eq_some_iff.1 b3).1
 generalize w.alloc (Obj.cells #[.int .i64 X,.int .i64 Y] 97)=U at *
 have HS:=hide (show ∀v,Below U.heap.size U v→v.cell? ⟨Bp,0,none⟩=some (.int .i64 p)∧v.cell? ⟨Bc,0,none⟩=some (.int .i64 c)∧v.cell? ⟨w.heap.size,0,none⟩=some (.int .i64 X)∧v.cell? ⟨w.heap.size,1,none⟩=some (.int .i64 Y) from fun v h=>by
  have hw:=HB.out.trans (h.mono HB.out.size)
  have t:=(h.block _ hl3).trans b3
  exact ⟨(hw.cell (p:=⟨Bp,0,none⟩) hBp).trans k1,(hw.cell (p:=⟨Bc,0,none⟩) hBc).trans k2,by rw[Lib.cell_of_heap t];rfl,by rw[Lib.cell_of_heap t];rfl⟩)
 have hWd:Below U.heap.size U U.drew:=(Below.refl _ _).drew
 have hSd:=HS.out _ hWd
 have hmx:Tryz.prog.follows .mixedOrders=true:=by kernel_rfl
 refine qYgd (S:=fun v:World=>v.cell? ⟨Bp,0,none⟩=some (.int .i64 p)∧v.cell? ⟨Bc,0,none⟩=some (.int .i64 c)∧v.cell? ⟨w.heap.size,0,none⟩=some (.int .i64 X)∧v.cell? ⟨w.heap.size,1,none⟩=some (.int .i64 Y)) (f:=5) hmx ?_
 show jZdv _ _ _ _ _ _ 6 _ _ U.drew
 refine j7aj (i:=0) (oi:=_) (v:=?vv1) rfl (by kernel_rfl) (by kernel_rfl) (by kernel_rfl) (by kernel_rfl) (by kernel_rfl) (fun _ _ _ h=>h) (Or.inl ⟨by rfl,?yy1⟩) hSd ?rr1
 case yy1=>(intro wq hSq;obtain ⟨_,_,_,_⟩:=hSq;go_simp<;>with_reducible rfl)
 try simp only[Act.put]
 refine j7aj (i:=1) (oi:=_) (v:=?vv2) rfl (by kernel_rfl) (by kernel_rfl) (by kernel_rfl) (by kernel_rfl) (by kernel_rfl) (fun _ _ _ h=>h) (Or.inl ⟨by rfl,?yy2⟩) hSd ?rr2
 case yy2=>(intro wq hSq;obtain ⟨_,_,_,_⟩:=hSq;go_simp<;>with_reducible rfl)
 try simp only[Act.put]
 refine j7aj (i:=3) (oi:=_) (v:=?vv3) rfl (by kernel_rfl) (by kernel_rfl) (by kernel_rfl) (by kernel_rfl) (by kernel_rfl) (fun _ _ _ h=>h) (Or.inl ⟨by rfl,?yy3⟩) hSd ?rr3
 case yy3=>(intro wq hSq;obtain ⟨_,_,_,_⟩:=hSq;go_simp<;>with_reducible rfl)
 try simp only[Act.put]
 refine znWj (i:=2) (o:=_) (by kernel_rfl) rfl (fun K' hK=>?_)
 rw[if_pos (by rfl)]
 go_simp
 refine (HCO.out _).mono ?_
 rintro e V1 ⟨rfl,hbv⟩
 have hB1:Below U.heap.size U V1:=hWd.trans (hbv.mono hWd.size)
 have hSd:=HS.out _ hB1
 refine hK.out _ _ hSd ?_
 clear hK
 try simp only[Act.put]
 refine j7aj (i:=4) (oi:=_) (v:=?vv4) rfl (by kernel_rfl) (by kernel_rfl) (by kernel_rfl) (by kernel_rfl) (by kernel_rfl) (fun _ _ _ h=>h) (Or.inl ⟨by rfl,?yy4⟩) hSd ?rr4
 case yy4=>(intro wq hSq;obtain ⟨_,_,_,_⟩:=hSq;go_simp<;>with_reducible rfl)
 try simp only[Act.put]
 refine z9gO (o:=_) (by kernel_rfl) rfl (fun K' hK=>?_)
 rw[if_pos (by rfl)]
 go_simp
 refine hK.out _ _ ?_
 clear hK
 refine jFdp (by kernel_rfl) ?_ _
 try simp only[Act.put]
 go_wp2
 go_ret
 exact ⟨j3Zs HE.out,HB.out.trans (hB1.mono HB.out.size)⟩
def parX (X:Nat) (x:Fin 8):Int:=(X:Int)-1+(nOf x.1 % 3:Nat)
def parY (Y:Nat) (x:Fin 8):Int:=(Y:Int)-1+(nOf x.1 / 3:Nat)
def parC (p X Y c:Nat) (x:Fin 8):Bool:=decide (colV p (parX X x).toNat (parY Y x).toNat=c)
def partV (zs:List Int) (W H p X Y c:Nat):Int:=if colV p X Y=c then zAt zs (Y*W+X) else meanV zs W H (parX X) (parY Y) (parC p X Y c)
theorem Xdtf (W H p X Y c bk off ca:Nat) (hW1:1≤W) (hW:W≤64) (hH1:1≤H) (hH:H≤64) (hp:p≤3) (hX:X<W) (hY:Y<H) (zs:List Int) (hlen:zs.length=H*W) (hzs:allIn 0 65535 zs=true) (w:World) (hbk:bk<w.heap.size) (hcell:∀j,j<zs.length→w.cell? ⟨bk,off+j,none⟩=some (.int .i64 (zAt zs j))) :
  Calls Tryz.prog 73 #[.agg #[.int .i64 W,.int .i64 H,.slice (some ⟨bk,off,none⟩) zs.length ca],.int .i64 p,.agg #[.int .i64 X,.int .i64 Y],.int .i64 c] w fun e w'=>e=.returned (.int .i64 (partV zs W H p X Y c))∧Below w.heap.size w w':=by
 have HPV:=hide (show partV zs W H p X Y c=if colV p X Y=c then zAt zs (Y*W+X) else meanV zs W H (parX X) (parY Y) (parC p X Y c) from rfl)
 generalize partV zs W H p X Y c=RES at *
 have hl4:zs.length≤4096:=by rw[hlen];exact Nat.le_trans (Nat.mul_le_mul hH hW) (by decide)
 have hkl:Y*W+X<zs.length:=by
  have h1:(Y+1)*W≤H*W:=Nat.mul_le_mul_right _ hY
  rw[Nat.succ_mul] at h1
  rw[hlen];omega
 have HC:=hide hcell
 have HCO:=hide (fun v=>zkc8 p X Y hp v)
 obtain ⟨a1,a2,a3,a4⟩:=al4 w (Obj.cells #[.int .i64 W,.int .i64 H,.slice (some ⟨bk,off,none⟩) zs.length ca] 54) (Obj.cells #[.int .i64 p] 3) (Obj.cells #[.int .i64 X,.int .i64 Y] 97) (Obj.cells #[.int .i64 c] 3)
 have HB:=hide (be4 w (Obj.cells #[.int .i64 W,.int .i64 H,.slice (some ⟨bk,off,none⟩) zs.length ca] 54) (Obj.cells #[.int .i64 p] 3) (Obj.cells #[.int .i64 X,.int .i64 Y] 97) (Obj.cells #[.int .i64 c] 3))
 have HMP:=hide (fun (u:World) (hu:Below w.heap.size w u) (Bs:Nat) (hBs:Bs<u.heap.size) (e0:u.cell? ⟨Bs,0,none⟩=some (.int .i64 X)) (e1:u.cell? ⟨Bs,1,none⟩=some (.int .i64 Y)) (hp1:w.heap.size+1<u.heap.size) (hp3:w.heap.size+3<u.heap.size) (k1:u.cell? ⟨w.heap.size+1,0,none⟩=some (.int .i64 p)) (k2:u.cell? ⟨w.heap.size+3,0,none⟩=some (.int .i64 c)) =>
  qkM9 8 W H bk off ca (by omega) hW1 hW hH1 hH zs hlen hzs 184 129 Bs #[.pointer (some ⟨Bs,0,none⟩)] #[.pointer (some ⟨w.heap.size+1,0,none⟩),.pointer (some ⟨w.heap.size+3,0,none⟩)] (parX X) (parY Y) (parC p X Y c) u (enters_of Tryz.func184 (by kernel_rfl) rfl) (enters_of Tryz.func129 (by kernel_rfl) rfl) hBs (Nat.lt_of_lt_of_le hbk hu.size) (fun j hj=>(hu.cell (p:=⟨bk,off+j,none⟩) hbk).trans (hcell j hj))
   (fun V hV=>jMfn Fence.wide (3-1) trivial rfl (by omega) Bs X Y (by omega) (by omega) V (Nat.lt_of_lt_of_le hBs hV.size) ((hV.cell (p:=⟨Bs,0,none⟩) hBs).trans e0) ((hV.cell (p:=⟨Bs,1,none⟩) hBs).trans e1))
   (fun x V hh hV=>by
    have hh2:0≤parX X x∧parX X x<W∧0≤parY Y x∧parY Y x<H:=by simpa [hasB] using hh
    have h:=XhPw p (parX X x).toNat (parY Y x).toNat c (w.heap.size+1) (w.heap.size+3) hp V (Nat.lt_of_lt_of_le hp1 hV.size) (Nat.lt_of_lt_of_le hp3 hV.size) ((hV.cell (p:=⟨w.heap.size+1,0,none⟩) hp1).trans k1) ((hV.cell (p:=⟨w.heap.size+3,0,none⟩) hp3).trans k2)
    rw[Int.toNat_of_nonneg hh2.1,Int.toNat_of_nonneg hh2.2.2.1] at h
    exact h))
 obtain ⟨K1,hK1⟩:∃K1,Y*W+X=K1:=⟨_,rfl⟩
 rw[hK1] at HPV hkl
 have HIX:=hide (fun v=>XSSj W H X Y W K1 rfl hK1 (by omega) v)
 have hcz:=hcell K1 hkl
 obtain ⟨z,hz0⟩:∃z,zAt zs K1=z:=⟨_,rfl⟩
 rw[hz0] at hcz HPV
 clear hz0 hK1 hcell hlen hzs
 obtain ⟨q,hq⟩:∃q,colV p X Y=q:=⟨_,rfl⟩
 rw[hq] at HCO HPV
 clear hq
 go_enter Tryz.func73,Tryz.ntmps73
 go_wp2_with fail
 have hs4:((((w.alloc (Obj.cells #[.int .i64 W,.int .i64 H,.slice (some ⟨bk,off,none⟩) zs.length ca] 54)).alloc (Obj.cells #[.int .i64 p] 3)).alloc (Obj.cells #[.int .i64 X,.int .i64 Y] 97)).alloc (Obj.cells #[.int .i64 c] 3)).heap.size=w.heap.size+4:=by simp
 generalize (((w.alloc (Obj.cells #[.int .i64 W,.int .i64 H,.slice (some ⟨bk,off,none⟩) zs.length ca] 54)).alloc (Obj.cells #[.int .i64 p] 3)).alloc (Obj.cells #[.int .i64 X,.int .i64 Y] 97)).alloc (Obj.cells #[.int .i64 c] 3)=U at *
 replace hs4:=Nat.le_of_eq hs4.symm
 have HS:=hide (show ∀v,Below U.heap.size U v→v.cell? ⟨w.heap.size,0,none⟩=some (.int .i64 W)∧v.cell? ⟨w.heap.size,1,none⟩=some (.int .i64 H)∧v.cell? ⟨w.heap.size,2,none⟩=some (.slice (some ⟨bk,off,none⟩) zs.length ca)∧v.cell? ⟨w.heap.size+1,0,none⟩=some (.int .i64 p)∧v.cell? ⟨w.heap.size+1+1,0,none⟩=some (.int .i64 X)∧v.cell? ⟨w.heap.size+1+1,1,none⟩=some (.int .i64 Y)∧v.cell? ⟨w.heap.size+1+1+1,0,none⟩=some (.int .i64 c)∧v.cell? ⟨bk,off+K1,none⟩=some (.int .i64 z) from fun v h=>by
  have hw:=HB.out.trans (h.mono HB.out.size)
  obtain ⟨t0,t1,t2⟩:=z5EY ((h.block _ (by omega)).trans a1)
  have t3:=(h.block (w.heap.size+2) (by omega)).trans a3
  exact ⟨t0,t1,t2,by rw[Lib.cell_of_heap ((h.block (w.heap.size+1) (by omega)).trans a2)];rfl,by rw[Lib.cell_of_heap (b:=w.heap.size+1+1) t3];rfl,by rw[Lib.cell_of_heap (b:=w.heap.size+1+1) t3];rfl,by rw[Lib.cell_of_heap (b:=w.heap.size+1+1+1) ((h.block (w.heap.size+3) (by omega)).trans a4)];rfl,(hw.cell (p:=⟨bk,off+K1,none⟩) hbk).trans hcz⟩)
 have hWd:Below U.heap.size U U.drew:=(Below.refl _ _).drew
 have hSd:=HS.out _ hWd
 have hklI:(K1:Int)<(zs.length:Int):=by omega
 clear a1 a2 a3 a4 hcz
 have hmx:Tryz.prog.follows .mixedOrders=true:=by kernel_rfl
 refine qYgd (S:=fun v:World=>v.cell? ⟨w.heap.size,0,none⟩=some (.int .i64 W)∧v.cell? ⟨w.heap.size,1,none⟩=some (.int .i64 H)∧v.cell? ⟨w.heap.size,2,none⟩=some (.slice (some ⟨bk,off,none⟩) zs.length ca)∧v.cell? ⟨w.heap.size+1,0,none⟩=some (.int .i64 p)∧v.cell? ⟨w.heap.size+1+1,0,none⟩=some (.int .i64 X)∧v.cell? ⟨w.heap.size+1+1,1,none⟩=some (.int .i64 Y)∧v.cell? ⟨w.heap.size+1+1+1,0,none⟩=some (.int .i64 c)∧v.cell? ⟨bk,off+K1,none⟩=some (.int .i64 z)) (f:=4) hmx ?_
 show jZdv _ _ _ _ _ _ 5 _ _ U.drew
 refine j7aj (i:=0) (oi:=_) (v:=?vv5) rfl (by kernel_rfl) (by kernel_rfl) (by kernel_rfl) (by kernel_rfl) (by kernel_rfl) (fun _ _ _ h=>h) (Or.inl ⟨by rfl,?yy5⟩) hSd ?rr5
 case yy5=>(intro wq hSq;obtain ⟨_,_,_,_,_,_,_,_⟩:=hSq;go_simp<;>with_reducible rfl)
 try simp only[Act.put]
 refine j7aj (i:=1) (oi:=_) (v:=?vv6) rfl (by kernel_rfl) (by kernel_rfl) (by kernel_rfl) (by kernel_rfl) (by kernel_rfl) (fun _ _ _ h=>h) (Or.inl ⟨by rfl,?yy6⟩) hSd ?rr6
 case yy6=>(intro wq hSq;obtain ⟨_,_,_,_,_,_,_,_⟩:=hSq;go_simp<;>with_reducible rfl)
 try simp only[Act.put]
 refine j7aj (i:=3) (oi:=_) (v:=?vv7) rfl (by kernel_rfl) (by kernel_rfl) (by kernel_rfl) (by kernel_rfl) (by kernel_rfl) (fun _ _ _ h=>h) (Or.inl ⟨by rfl,?yy7⟩) hSd ?rr7
 case yy7=>(intro wq hSq;obtain ⟨_,_,_,_,_,_,_,_⟩:=hSq;go_simp<;>with_reducible rfl)
 try simp only[Act.put]
 refine znWj (i:=2) (o:=_) (by kernel_rfl) rfl (fun K' hK=>?_)
 rw[if_pos (by rfl)]
 go_simp
 refine (HCO.out _).mono ?_
 rintro e V1 ⟨rfl,hbv⟩
 have hB1:Below U.heap.size U V1:=hWd.trans (hbv.mono hWd.size)
 have hSd:=HS.out _ hB1
 refine hK.out _ _ hSd ?_
 clear hK
 try simp only[Act.put]
 refine z9gO (o:=_) (by kernel_rfl) rfl (fun K' hK=>?_)
 rw[if_pos (by rfl)]
 go_simp
 refine hK.out _ _ ?_
 clear hK
 refine jFdp (by kernel_rfl) ?_ _
 try simp only[Act.put]
 by_cases hqc:q=c
 ·rw[if_pos hqc] at HPV
  have hd:((q:Int) == (c:Int))=true:=by simp[hqc]
  clear hSd
  have hWd2:Below U.heap.size U V1.drew:=hB1.drew
  have hSd:=HS.out _ hWd2
  go_wp2_with fail
  have hmx:Tryz.prog.follows .mixedOrders=true:=by kernel_rfl
  refine qYgd (S:=fun v:World=>v.cell? ⟨w.heap.size,0,none⟩=some (.int .i64 W)∧v.cell? ⟨w.heap.size,1,none⟩=some (.int .i64 H)∧v.cell? ⟨w.heap.size,2,none⟩=some (.slice (some ⟨bk,off,none⟩) zs.length ca)∧v.cell? ⟨w.heap.size+1,0,none⟩=some (.int .i64 p)∧v.cell? ⟨w.heap.size+1+1,0,none⟩=some (.int .i64 X)∧v.cell? ⟨w.heap.size+1+1,1,none⟩=some (.int .i64 Y)∧v.cell? ⟨w.heap.size+1+1+1,0,none⟩=some (.int .i64 c)∧v.cell? ⟨bk,off+K1,none⟩=some (.int .i64 z)) (f:=11) hmx ?_
  show jZdv _ _ _ _ _ _ 12 _ _ V1.drew
  refine j7aj (i:=0) (oi:=_) (v:=?vv8) rfl (by kernel_rfl) (by kernel_rfl) (by kernel_rfl) (by kernel_rfl) (by kernel_rfl) (fun _ _ _ h=>h) (Or.inl ⟨by rfl,?yy8⟩) hSd ?rr8
  case yy8=>(intro wq hSq;obtain ⟨_,_,_,_,_,_,_,_⟩:=hSq;go_simp<;>with_reducible rfl)
  try simp only[Act.put]
  refine j7aj (i:=1) (oi:=_) (v:=?vv9) rfl (by kernel_rfl) (by kernel_rfl) (by kernel_rfl) (by kernel_rfl) (by kernel_rfl) (fun _ _ _ h=>h) (Or.inl ⟨by rfl,?yy9⟩) hSd ?rr9
  case yy9=>(intro wq hSq;obtain ⟨_,_,_,_,_,_,_,_⟩:=hSq;go_simp<;>with_reducible rfl)
  try simp only[Act.put]
  refine j7aj (i:=2) (oi:=_) (v:=?vv10) rfl (by kernel_rfl) (by kernel_rfl) (by kernel_rfl) (by kernel_rfl) (by kernel_rfl) (fun _ _ _ h=>h) (Or.inl ⟨by rfl,?yy10⟩) hSd ?rr10
  case yy10=>(intro wq hSq;obtain ⟨_,_,_,_,_,_,_,_⟩:=hSq;go_simp<;>with_reducible rfl)
  try simp only[Act.put]
  refine j7aj (i:=3) (oi:=_) (v:=?vv11) rfl (by kernel_rfl) (by kernel_rfl) (by kernel_rfl) (by kernel_rfl) (by kernel_rfl) (fun _ _ _ h=>h) (Or.inl ⟨by rfl,?yy11⟩) hSd ?rr11
  case yy11=>(intro wq hSq;obtain ⟨_,_,_,_,_,_,_,_⟩:=hSq;go_simp<;>with_reducible rfl)
  try simp only[Act.put]
  refine j7aj (i:=4) (oi:=_) (v:=?vv12) rfl (by kernel_rfl) (by kernel_rfl) (by kernel_rfl) (by kernel_rfl) (by kernel_rfl) (fun _ _ _ h=>h) (Or.inl ⟨by rfl,?yy12⟩) hSd ?rr12
  case yy12=>(intro wq hSq;obtain ⟨_,_,_,_,_,_,_,_⟩:=hSq;go_simp<;>with_reducible rfl)
  try simp only[Act.put]
  refine j7aj (i:=5) (oi:=_) (v:=?vv13) rfl (by kernel_rfl) (by kernel_rfl) (by kernel_rfl) (by kernel_rfl) (by kernel_rfl) (fun _ _ _ h=>h) (Or.inl ⟨by rfl,?yy13⟩) hSd ?rr13
  case yy13=>(intro wq hSq;obtain ⟨_,_,_,_,_,_,_,_⟩:=hSq;go_simp<;>with_reducible rfl)
  try simp only[Act.put]
  refine j7aj (i:=6) (oi:=_) (v:=?vv14) rfl (by kernel_rfl) (by kernel_rfl) (by kernel_rfl) (by kernel_rfl) (by kernel_rfl) (fun _ _ _ h=>h) (Or.inl ⟨by rfl,?yy14⟩) hSd ?rr14
  case yy14=>(intro wq hSq;obtain ⟨_,_,_,_,_,_,_,_⟩:=hSq;go_simp<;>with_reducible rfl)
  try simp only[Act.put]
  refine j7aj (i:=7) (oi:=_) (v:=?vv15) rfl (by kernel_rfl) (by kernel_rfl) (by kernel_rfl) (by kernel_rfl) (by kernel_rfl) (fun _ _ _ h=>h) (Or.inl ⟨by rfl,?yy15⟩) hSd ?rr15
  case yy15=>(intro wq hSq;obtain ⟨_,_,_,_,_,_,_,_⟩:=hSq;go_simp<;>with_reducible rfl)
  try simp only[Act.put]
  refine znWj (i:=8) (o:=_) (by kernel_rfl) rfl (fun K' hK=>?_)
  rw[if_pos (by rfl)]
  go_simp
  refine (HIX.out _).mono ?_
  rintro e V2 ⟨rfl,hbv2⟩
  have hB2:Below U.heap.size U V2:=hWd2.trans (hbv2.mono hWd2.size)
  have hSd:=HS.out _ hB2
  refine hK.out _ _ hSd ?_
  clear hK
  try simp only[Act.put]
  refine j7aj (i:=9) (oi:=_) (v:=?vv16) rfl (by kernel_rfl) (by kernel_rfl) (by kernel_rfl) (by kernel_rfl) (by kernel_rfl) (fun _ _ _ h=>h) (Or.inl ⟨by rfl,?yy16⟩) hSd ?rr16
  case yy16=>(intro wq hSq;obtain ⟨_,_,_,_,_,_,_,_⟩:=hSq;go_simp<;>with_reducible rfl)
  try simp only[Act.put]
  refine j7aj (i:=10) (oi:=_) (v:=?vv17) rfl (by kernel_rfl) (by kernel_rfl) (by kernel_rfl) (by kernel_rfl) (by kernel_rfl) (fun _ _ _ h=>h) (Or.inl ⟨by rfl,?yy17⟩) hSd ?rr17
  case yy17=>(intro wq hSq;obtain ⟨_,_,_,_,_,_,_,_⟩:=hSq;go_simp<;>with_reducible rfl)
  try simp only[Act.put]
  refine z9gO (o:=_) (by kernel_rfl) rfl (fun K' hK=>?_)
  rw[if_pos (by rfl)]
  go_simp
  refine hK.out _ _ ?_
  clear hK
  refine jFdp (by kernel_rfl) ?_ _
  try simp only[Act.put]
  go_wp2
  go_ret
  exact ⟨jx9N HPV.out.symm,HB.out.trans (hB2.mono HB.out.size)⟩
 ·rw[if_neg hqc] at HPV
  have hd:((q:Int) == (c:Int))=false:=by simpa using fun h:(q:Int)=c=>hqc (by omega)
  clear hSd
  have hWd2:Below U.heap.size U V1.drew:=hB1.drew
  have hSd:=HS.out _ hWd2
  go_wp2_with fail
  have hmx:Tryz.prog.follows .mixedOrders=true:=by kernel_rfl
  refine qYgd (S:=fun v:World=>v.cell? ⟨w.heap.size,0,none⟩=some (.int .i64 W)∧v.cell? ⟨w.heap.size,1,none⟩=some (.int .i64 H)∧v.cell? ⟨w.heap.size,2,none⟩=some (.slice (some ⟨bk,off,none⟩) zs.length ca)∧v.cell? ⟨w.heap.size+1,0,none⟩=some (.int .i64 p)∧v.cell? ⟨w.heap.size+1+1,0,none⟩=some (.int .i64 X)∧v.cell? ⟨w.heap.size+1+1,1,none⟩=some (.int .i64 Y)∧v.cell? ⟨w.heap.size+1+1+1,0,none⟩=some (.int .i64 c)∧v.cell? ⟨bk,off+K1,none⟩=some (.int .i64 z)) (f:=5) hmx ?_
  show jZdv _ _ _ _ _ _ 6 _ _ V1.drew
  refine j7aj (i:=0) (oi:=_) (v:=?vv18) rfl (by kernel_rfl) (by kernel_rfl) (by kernel_rfl) (by kernel_rfl) (by kernel_rfl) (fun _ _ _ h=>h) (Or.inl ⟨by rfl,?yy18⟩) hSd ?rr18
  case yy18=>(intro wq hSq;obtain ⟨_,_,_,_,_,_,_,_⟩:=hSq;go_simp<;>with_reducible rfl)
  try simp only[Act.put]
  refine j7aj (i:=1) (oi:=_) (v:=?vv19) rfl (by kernel_rfl) (by kernel_rfl) (by kernel_rfl) (by kernel_rfl) (by kernel_rfl) (fun _ _ _ h=>h) (Or.inl ⟨by rfl,?yy19⟩) hSd ?rr19
  case yy19=>(intro wq hSq;obtain ⟨_,_,_,_,_,_,_,_⟩:=hSq;go_simp<;>with_reducible rfl)
  try simp only[Act.put]
  refine j7aj (i:=3) (oi:=_) (v:=?vv20) rfl (by kernel_rfl) (by kernel_rfl) (by kernel_rfl) (by kernel_rfl) (by kernel_rfl) (fun _ _ _ h=>h) (Or.inl ⟨by rfl,?yy20⟩) hSd ?rr20
  case yy20=>(intro wq hSq;obtain ⟨_,_,_,_,_,_,_,_⟩:=hSq;go_simp<;>with_reducible rfl)
  try simp only[Act.put]
  refine znWj (i:=2) (o:=_) (by kernel_rfl) rfl (fun K' hK=>?_)
  rw[if_pos (by rfl)]
  go_simp
  refine ((callsIn_wide (n:=3)).1 (zJHU Fence.wide _ trivial rfl _ _ _)).mono ?_
  rintro e V2 ⟨rfl,rfl⟩
  have hB2:Below U.heap.size U (V1.drew.alloc (Obj.cells #[.int .i64 X,.int .i64 Y] 97)):=hWd2.alloc hWd2.size _
  have hSd:=HS.out _ hB2
  refine hK.out _ _ hSd ?_
  clear hK
  try simp only[Act.put]
  refine znWj (i:=4) (o:=_) (by kernel_rfl) rfl (fun K' hK=>?_)
  rw[if_pos (by rfl)]
  go_simp
  have hsU:U.heap.size≤V1.heap.size:=hWd2.size
  have tB:(V1.drew.alloc (Obj.cells #[.int .i64 X,.int .i64 Y] 97)).heap[V1.drew.heap.size]?=some (.cells #[.int .i64 X,.int .i64 Y] 97 (0,0)):=al1 V1.drew _
  refine (HMP.out _ (HB.out.trans (hB2.mono HB.out.size)) V1.drew.heap.size (by simp) (by rw[Lib.cell_of_heap tB];rfl) (by rw[Lib.cell_of_heap tB];rfl) (by simp;omega) (by simp;omega) hSd.2.2.2.1 hSd.2.2.2.2.2.2.1).mono ?_
  rintro e V3 ⟨rfl,hb3⟩
  have hB3:Below U.heap.size U V3:=hB2.trans (hb3.mono hB2.size)
  have hSd:=HS.out _ hB3
  refine hK.out _ _ hSd ?_
  clear hK
  try simp only[Act.put]
  refine z9gO (o:=_) (by kernel_rfl) rfl (fun K' hK=>?_)
  rw[if_pos (by rfl)]
  go_simp
  refine hK.out _ _ ?_
  clear hK
  refine jFdp (by kernel_rfl) ?_ _
  try simp only[Act.put]
  go_wp2
  go_ret
  exact ⟨jx9N HPV.out.symm,HB.out.trans (hB3.mono HB.out.size)⟩
def fillP (zs:List Int) (W H p j:Nat):Px:=(partV zs W H p (j % W) (j / W) 0,partV zs W H p (j % W) (j / W) 1,partV zs W H p (j % W) (j / W) 2)
theorem qfZD (W H p j bk off ca:Nat) (hW1:1≤W) (hW:W≤64) (hH1:1≤H) (hH:H≤64) (hp:p≤3) (zs:List Int) (hlen:zs.length=H*W) (hzs:allIn 0 65535 zs=true) (hj:j<zs.length) (Bp Bh:Nat) (w:World) (hBp:Bp<w.heap.size) (hBh:Bh<w.heap.size) (hbk:bk<w.heap.size)
  (k0:w.cell? ⟨Bp,0,none⟩=some (.int .i64 W)) (k1:w.cell? ⟨Bp,1,none⟩=some (.int .i64 H)) (k2:w.cell? ⟨Bp,2,none⟩=some (.slice (some ⟨bk,off,none⟩) zs.length ca)) (k3:w.cell? ⟨Bh,0,none⟩=some (.int .i64 p))
  (hcell:∀j,j<zs.length→w.cell? ⟨bk,off+j,none⟩=some (.int .i64 (zAt zs j))) :
  Calls Tryz.prog 72 #[.agg #[.int .i64 (j % W:Nat),.int .i64 (j / W:Nat)],.pointer (some ⟨Bp,0,none⟩),.pointer (some ⟨Bh,0,none⟩)] w fun e w'=>e=.returned (pixV (fillP zs W H p j))∧Below w.heap.size w w':=by
 have hXW:j % W<W:=Nat.mod_lt _ (by omega)
 have hYH:j / W<H:=by rw[hlen] at hj;exact Nat.div_lt_of_lt_mul (by rw[Nat.mul_comm];exact hj)
 have HF:=hide (show fillP zs W H p j=(partV zs W H p (j % W) (j / W) 0,partV zs W H p (j % W) (j / W) 1,partV zs W H p (j % W) (j / W) 2) from rfl)
 generalize fillP zs W H p j=RES at *
 obtain ⟨X,hX⟩:∃X,j % W=X:=⟨_,rfl⟩
 obtain ⟨Y,hY⟩:∃Y,j / W=Y:=⟨_,rfl⟩
 rw[hX] at hXW
 rw[hY] at hYH
 rw[hX,hY] at HF
 rw[hX,hY]
 clear hX hY
 have HPA:=hide (fun (c:Nat) (v:World) (hv:Below w.heap.size w v)=>Xdtf W H p X Y c bk off ca hW1 hW hH1 hH hp hXW hYH zs hlen hzs v (Nat.lt_of_lt_of_le hbk hv.size) (fun j hj=>(hv.cell (p:=⟨bk,off+j,none⟩) hbk).trans (hcell j hj)))
 obtain ⟨r0,hr0⟩:∃r,partV zs W H p X Y 0=r:=⟨_,rfl⟩
 obtain ⟨r1,hr1⟩:∃r,partV zs W H p X Y 1=r:=⟨_,rfl⟩
 obtain ⟨r2,hr2⟩:∃r,partV zs W H p X Y 2=r:=⟨_,rfl⟩
 have HP0:=hide (HPA.out 0)
 have HP1:=hide (HPA.out 1)
 have HP2:=hide (HPA.out 2)
 rw[hr0] at HP0 HF
 rw[hr1] at HP1 HF
 rw[hr2] at HP2 HF
 clear HPA hr0 hr1 hr2 hcell hlen hzs
 have HB:=hide (be2 w (Obj.cells #[.int .i64 X,.int .i64 Y] 97) (Obj.cells #[.int .i64 0,.int .i64 0,.int .i64 0] 61))
 obtain ⟨a1,a2⟩:=al2 w (Obj.cells #[.int .i64 X,.int .i64 Y] 97) (Obj.cells #[.int .i64 0,.int .i64 0,.int .i64 0] 61)
 go_enter Tryz.func72,Tryz.ntmps72
 go_wp2_with fail
 have hl1:=(Array.getElem?_eq_some_iff.1 a1).1
 have hl2:=(Array.getElem?_eq_some_iff.1 a2).1
 generalize (w.alloc (Obj.cells #[.int .i64 X,.int .i64 Y] 97)).alloc (Obj.cells #[.int .i64 0,.int .i64 0,.int .i64 0] 61)=U at *
 have HS:=hide (show ∀v,Below U.heap.size U v→v.cell? ⟨Bp,0,none⟩=some (.int .i64 W)∧v.cell? ⟨Bp,1,none⟩=some (.int .i64 H)∧v.cell? ⟨Bp,2,none⟩=some (.slice (some ⟨bk,off,none⟩) zs.length ca)∧v.cell? ⟨Bh,0,none⟩=some (.int .i64 p)∧v.cell? ⟨w.heap.size,0,none⟩=some (.int .i64 X)∧v.cell? ⟨w.heap.size,1,none⟩=some (.int .i64 Y) from fun v h=>by
  have hw:=HB.out.trans (h.mono HB.out.size)
  have t:=(h.block _ hl1).trans a1
  exact ⟨(hw.cell (p:=⟨Bp,0,none⟩) hBp).trans k0,(hw.cell (p:=⟨Bp,1,none⟩) hBp).trans k1,(hw.cell (p:=⟨Bp,2,none⟩) hBp).trans k2,(hw.cell (p:=⟨Bh,0,none⟩) hBh).trans k3,by rw[Lib.cell_of_heap t];rfl,by rw[Lib.cell_of_heap t];rfl⟩)
 have hWd:Below U.heap.size U U.drew:=(Below.refl _ _).drew
 have hSd:=HS.out _ hWd
 have hmx:Tryz.prog.follows .mixedOrders=true:=by kernel_rfl
 refine qYgd (S:=fun v:World=>v.cell? ⟨Bp,0,none⟩=some (.int .i64 W)∧v.cell? ⟨Bp,1,none⟩=some (.int .i64 H)∧v.cell? ⟨Bp,2,none⟩=some (.slice (some ⟨bk,off,none⟩) zs.length ca)∧v.cell? ⟨Bh,0,none⟩=some (.int .i64 p)∧v.cell? ⟨w.heap.size,0,none⟩=some (.int .i64 X)∧v.cell? ⟨w.heap.size,1,none⟩=some (.int .i64 Y)) (f:=13) hmx ?_
 show jZdv _ _ _ _ _ _ 14 _ _ U.drew
 refine j7aj (i:=0) (oi:=_) (v:=?vv1) rfl (by kernel_rfl) (by kernel_rfl) (by kernel_rfl) (by kernel_rfl) (by kernel_rfl) (fun _ _ _ h=>h) (Or.inl ⟨by rfl,?yy1⟩) hSd ?rr1
 case yy1=>(intro wq hSq;obtain ⟨_,_,_,_,_,_⟩:=hSq;go_simp<;>with_reducible rfl)
 try simp only[Act.put]
 refine j7aj (i:=1) (oi:=_) (v:=?vv2) rfl (by kernel_rfl) (by kernel_rfl) (by kernel_rfl) (by kernel_rfl) (by kernel_rfl) (fun _ _ _ h=>h) (Or.inl ⟨by rfl,?yy2⟩) hSd ?rr2
 case yy2=>(intro wq hSq;obtain ⟨_,_,_,_,_,_⟩:=hSq;go_simp<;>with_reducible rfl)
 try simp only[Act.put]
 refine j7aj (i:=2) (oi:=_) (v:=?vv3) rfl (by kernel_rfl) (by kernel_rfl) (by kernel_rfl) (by kernel_rfl) (by kernel_rfl) (fun _ _ _ h=>h) (Or.inl ⟨by rfl,?yy3⟩) hSd ?rr3
 case yy3=>(intro wq hSq;obtain ⟨_,_,_,_,_,_⟩:=hSq;go_simp<;>with_reducible rfl)
 try simp only[Act.put]
 refine j7aj (i:=4) (oi:=_) (v:=?vv4) rfl (by kernel_rfl) (by kernel_rfl) (by kernel_rfl) (by kernel_rfl) (by kernel_rfl) (fun _ _ _ h=>h) (Or.inl ⟨by rfl,?yy4⟩) hSd ?rr4
 case yy4=>(intro wq hSq;obtain ⟨_,_,_,_,_,_⟩:=hSq;go_simp<;>with_reducible rfl)
 try simp only[Act.put]
 refine j7aj (i:=5) (oi:=_) (v:=?vv5) rfl (by kernel_rfl) (by kernel_rfl) (by kernel_rfl) (by kernel_rfl) (by kernel_rfl) (fun _ _ _ h=>h) (Or.inl ⟨by rfl,?yy5⟩) hSd ?rr5
 case yy5=>(intro wq hSq;obtain ⟨_,_,_,_,_,_⟩:=hSq;go_simp<;>with_reducible rfl)
 try simp only[Act.put]
 refine j7aj (i:=6) (oi:=_) (v:=?vv6) rfl (by kernel_rfl) (by kernel_rfl) (by kernel_rfl) (by kernel_rfl) (by kernel_rfl) (fun _ _ _ h=>h) (Or.inl ⟨by rfl,?yy6⟩) hSd ?rr6
 case yy6=>(intro wq hSq;obtain ⟨_,_,_,_,_,_⟩:=hSq;go_simp<;>with_reducible rfl)
 try simp only[Act.put]
 refine j7aj (i:=8) (oi:=_) (v:=?vv7) rfl (by kernel_rfl) (by kernel_rfl) (by kernel_rfl) (by kernel_rfl) (by kernel_rfl) (fun _ _ _ h=>h) (Or.inl ⟨by rfl,?yy7⟩) hSd ?rr7
 case yy7=>(intro wq hSq;obtain ⟨_,_,_,_,_,_⟩:=hSq;go_simp<;>with_reducible rfl)
 try simp only[Act.put]
 refine j7aj (i:=9) (oi:=_) (v:=?vv8) rfl (by kernel_rfl) (by kernel_rfl) (by kernel_rfl) (by kernel_rfl) (by kernel_rfl) (fun _ _ _ h=>h) (Or.inl ⟨by rfl,?yy8⟩) hSd ?rr8
 case yy8=>(intro wq hSq;obtain ⟨_,_,_,_,_,_⟩:=hSq;go_simp<;>with_reducible rfl)
 try simp only[Act.put]
 refine j7aj (i:=10) (oi:=_) (v:=?vv9) rfl (by kernel_rfl) (by kernel_rfl) (by kernel_rfl) (by kernel_rfl) (by kernel_rfl) (fun _ _ _ h=>h) (Or.inl ⟨by rfl,?yy9⟩) hSd ?rr9
 case yy9=>(intro wq hSq;obtain ⟨_,_,_,_,_,_⟩:=hSq;go_simp<;>with_reducible rfl)
 try simp only[Act.put]
 refine znWj (i:=3) (o:=_) (by kernel_rfl) rfl (fun K' hK=>?_)
 rw[if_pos (by rfl)]
 go_simp
 refine (HP0.out _ (HB.out.trans (hWd.mono HB.out.size))).mono ?_
 rintro e V0 ⟨rfl,hbv0⟩
 have hB0:Below U.heap.size U V0:=hWd.trans (hbv0.mono hWd.size)
 have hSd:=HS.out _ hB0
 refine hK.out _ _ hSd ?_
 clear hK
 try simp only[Act.put]
 refine znWj (i:=7) (o:=_) (by kernel_rfl) rfl (fun K' hK=>?_)
 rw[if_pos (by rfl)]
 go_simp
 refine (HP1.out _ (HB.out.trans (hB0.mono HB.out.size))).mono ?_
 rintro e V1 ⟨rfl,hbv1⟩
 have hB1:Below U.heap.size U V1:=hB0.trans (hbv1.mono hB0.size)
 have hSd:=HS.out _ hB1
 refine hK.out _ _ hSd ?_
 clear hK
 try simp only[Act.put]
 refine znWj (i:=11) (o:=_) (by kernel_rfl) rfl (fun K' hK=>?_)
 rw[if_pos (by rfl)]
 go_simp
 refine (HP2.out _ (HB.out.trans (hB1.mono HB.out.size))).mono ?_
 rintro e V2 ⟨rfl,hbv2⟩
 have hB2:Below U.heap.size U V2:=hB1.trans (hbv2.mono hB1.size)
 have hSd:=HS.out _ hB2
 refine hK.out _ _ hSd ?_
 clear hK
 try simp only[Act.put]
 refine j7aj (i:=12) (oi:=_) (v:=?vv10) rfl (by kernel_rfl) (by kernel_rfl) (by kernel_rfl) (by kernel_rfl) (by kernel_rfl) (fun _ _ _ h=>h) (Or.inl ⟨by rfl,?yy10⟩) hSd ?rr10
 case yy10=>(intro wq hSq;obtain ⟨_,_,_,_,_,_⟩:=hSq;go_simp<;>with_reducible rfl)
 try simp only[Act.put]
 have gR:=(hB2.block (w.heap.size+1) hl2).trans a2
 obtain ⟨z0,z1,z2⟩:=z5EY gR
 have f0:=Lib.frozen_of_heap gR 0
 have f1:=Lib.frozen_of_heap gR 1
 have f2:=Lib.frozen_of_heap gR 2
 refine z9gO (o:=_) (by kernel_rfl) rfl (fun K' hK=>?_)
 rw[if_pos (by rfl)]
 go_simp
 refine hK.out _ _ ?_
 clear hK
 refine jFdp (by kernel_rfl) ?_ _
 try simp only[Act.put]
 have HFIN:=hide (zHqh (HB.out.trans (hB2.mono HB.out.size)) (show w.heap.size≤w.heap.size+1 by omega) (.int .i64 r0) (.int .i64 r1) (.int .i64 r2))
 go_wp2
 exact bodyPost_ret (v:=.agg #[.int .i64 r0,.int .i64 r1,.int .i64 r2]) (by simp[results,Tryz.results72,go_sem,z0,z1,z2]) rfl ⟨by rw[HF.out],HFIN.out⟩
def fillE (W H:Int) (zs:List Int) (phase:Int):Int:=if q0fM W H zs=true then (if qdne phase=true then 0 else 3) else 1
def fillL (W H:Int) (zs:List Int) (phase:Int):List Px:=(List.range zs.length).map (fillP zs W.toNat H.toNat phase.toNat)
theorem q3wV (W H:Int) (v:Value) (zs:List Int) (phase:Int) (w:World) (hv:jCvT w v zs) :
  Calls Tryz.prog 20 #[.agg #[.int .i64 W,.int .i64 H,v],.int .i64 phase] w fun e w'=>∃r,e=.returned (.tuple #[.agg #[.int .i64 (okW (fillE W H zs phase) W),.int .i64 (okW (fillE W H zs phase) H),r],.int .i64 (fillE W H zs phase)])∧IsPix w' r (okL (fillE W H zs phase) (fillL W H zs phase))∧Below w.heap.size w w'∧Fresh w.heap.size r:=by
 have HV:=hide hv
 obtain ⟨E,hE⟩:∃E,fillE W H zs phase=E:=⟨_,rfl⟩
 rw[hE]
 by_cases hp:q0fM W H zs=true
 ·by_cases hph:qdne phase=true
  ·have he:E=0:=by rw[←hE,fillE,if_pos hp,if_pos hph]
   subst he
   clear hE
   obtain ⟨⟨w1,w2⟩,⟨h1,h2⟩,hl,_⟩:=qwcI hp
   have hz:=XAOl hp
   have hph2:0≤phase∧phase≤3:=by simpa [qdne] using hph
   have hsm:=zAFj ⟨w1,w2⟩ ⟨h1,h2⟩
   have hn1:1≤zs.length:=by omega
   obtain ⟨bk,off,ca,rfl,hbk,hcell⟩:=hv.cells hn1
   obtain ⟨WN,rfl⟩:=Int.eq_ofNat_of_zero_le (show 0≤W by omega)
   obtain ⟨HN,rfl⟩:=Int.eq_ofNat_of_zero_le (show 0≤H by omega)
   obtain ⟨PN,rfl⟩:=Int.eq_ofNat_of_zero_le hph2.1
   have HLEN:=hide (show zs.length=HN*WN by rw[Nat.mul_comm];exact_mod_cast hl)
   have HZ:=hide hz
   have HC:=hide hcell
   rw[show okW 0 (WN:Int)=WN from rfl,show okW 0 (HN:Int)=HN from rfl,show okL 0 (fillL (WN:Int) (HN:Int) zs (PN:Int))=(List.range zs.length).map (fillP zs WN HN PN) from rfl]
   clear hl hz hcell hsm hv
   go_enter Tryz.func20,Tryz.ntmps20
   go_wp2_with fail
   obtain ⟨a1,a2,a3⟩:=al3 w (Obj.cells #[.int .i64 (WN:Nat),.int .i64 (HN:Nat),.slice (some ⟨bk,off,none⟩) zs.length ca] 54) (Obj.cells #[.int .i64 (PN:Nat)] 3) (Obj.cells #[.int .i64 0,.int .i64 0,.slice none 0 0] 24)
   have hB:=be3 w (Obj.cells #[.int .i64 (WN:Nat),.int .i64 (HN:Nat),.slice (some ⟨bk,off,none⟩) zs.length ca] 54) (Obj.cells #[.int .i64 (PN:Nat)] 3) (Obj.cells #[.int .i64 0,.int .i64 0,.slice none 0 0] 24)
   have hs3:(((w.alloc (Obj.cells #[.int .i64 (WN:Nat),.int .i64 (HN:Nat),.slice (some ⟨bk,off,none⟩) zs.length ca] 54)).alloc (Obj.cells #[.int .i64 (PN:Nat)] 3)).alloc (Obj.cells #[.int .i64 0,.int .i64 0,.slice none 0 0] 24)).heap.size=w.heap.size+3:=by simp
   generalize ((w.alloc (Obj.cells #[.int .i64 (WN:Nat),.int .i64 (HN:Nat),.slice (some ⟨bk,off,none⟩) zs.length ca] 54)).alloc (Obj.cells #[.int .i64 (PN:Nat)] 3)).alloc (Obj.cells #[.int .i64 0,.int .i64 0,.slice none 0 0] 24)=U at *
   refine (XeC7 WN HN _ zs _ (HV.out.below hB (Nat.le_refl _))).mono ?_
   rintro e w1 ⟨rfl,hb1⟩
   rw[hp]
   have g2:=bx1 ((hb1.block (w.heap.size+1) (by omega)).trans a2)
   have g3:=(hb1.block (w.heap.size+1+1) (by omega)).trans a3
   go_wp2_with fail
   refine (qtgz _ _).mono ?_
   rintro e w2 ⟨rfl,hb2⟩
   rw[hph]
   clear g2
   replace hb2:=quJN hb1 hb2
   replace g3:=(hb2.block (w.heap.size+1+1) (by omega)).trans a3
   obtain ⟨p0,p1,p2⟩:=z5EY ((hb2.block (w.heap.size) (by omega)).trans a1)
   go_wp2_with fail
   have hbG:=quJN hb2 (qUNz w2 (Obj.cells #[.int .i64 (WN:Nat),.int .i64 (HN:Nat)] 95))
   have hs2:=hb2.size
   clear p0 p1 p2
   generalize w2.alloc (Obj.cells #[.int .i64 (WN:Nat),.int .i64 (HN:Nat)] 95)=w2g at *
   refine (XMhx WN HN zs.length (by omega) (by omega) HLEN.out 72 #[.pointer (some ⟨w.heap.size,0,none⟩),.pointer (some ⟨w.heap.size+1,0,none⟩)] (fillP zs WN HN PN) _ (enters_of Tryz.func72 (by kernel_rfl) rfl) ?_).mono ?_
   ·intro j V hj hV
    have hb3:=quJN hbG hV
    have hbw:=hB.trans (hb3.mono hB.size)
    obtain ⟨e0,e1,e2⟩:=z5EY ((hb3.block (w.heap.size) (by omega)).trans a1)
    have e3:=bx1 ((hb3.block (w.heap.size+1) (by omega)).trans a2)
    have hs:=hb3.size
    exact qfZD WN HN PN j bk off ca (by omega) (by omega) (by omega) (by omega) (by omega) zs HLEN.out HZ.out hj w.heap.size (w.heap.size+1) V (by omega) (by omega) (Nat.lt_of_lt_of_le hbk hbw.size) e0 e1 e2 e3 (fun i hi=>(hbw.cell (p:=⟨bk,off+i,none⟩) hbk).trans (HC.out i hi))
   ·rintro e w3 ⟨r,rfl,hr,hb3,hfr⟩
    replace hb3:=quJN hbG hb3
    replace g3:=(hb3.block (w.heap.size+1+1) (by omega)).trans a3
    obtain ⟨z0,z1,z2⟩:=z5EY g3
    have f0:=Lib.frozen_of_heap g3 0
    have f1:=Lib.frozen_of_heap g3 1
    have f2:=Lib.frozen_of_heap g3 2
    have HR:=hide hr
    obtain ⟨ro,rc,rfl,_,_⟩:=hr
    have HFIN:=hide (zHqh (hB.trans (hb3.mono hB.size)) (show w.heap.size≤w.heap.size+1+1 by omega) (.int .i64 (WN:Nat)) (.int .i64 (HN:Nat)) (.slice ro ((List.range zs.length).map (fillP zs WN HN PN)).length rc))
    have hsG:=hbG.size
    have HPX2:=hide (HR.out.set3 hfr (show w.heap.size+1+1<w2g.heap.size by omega) (.int .i64 (WN:Nat)) (.int .i64 (HN:Nat)) (.slice ro ((List.range zs.length).map (fillP zs WN HN PN)).length rc))
    rw[List.length_map,List.length_range] at HPX2 HFIN hfr
    rw[List.length_map,List.length_range]
    go_wp2
    exact bodyPost_ret (v:=.tuple #[.agg #[.int .i64 (WN:Nat),.int .i64 (HN:Nat),.slice ro zs.length rc],.int .i64 0]) (by simp[results,Tryz.results20,go_sem,z0,z1,z2]) rfl ⟨_,rfl,HPX2.out,HFIN.out,hfr.mono (by omega)⟩
  ·have he:E=3:=by rw[←hE,fillE,if_pos hp,if_neg hph]
   have hph:qdne phase=false:=by simpa using hph
   subst he
   clear hE
   obtain ⟨ao,ca,rfl,_,_⟩:=hv
   go_enter Tryz.func20,Tryz.ntmps20
   go_wp2_with fail
   obtain ⟨a1,a2,a3⟩:=al3 w (Obj.cells #[.int .i64 W,.int .i64 H,.slice ao zs.length ca] 54) (Obj.cells #[.int .i64 phase] 3) (Obj.cells #[.int .i64 0,.int .i64 0,.slice none 0 0] 24)
   have hB:=be3 w (Obj.cells #[.int .i64 W,.int .i64 H,.slice ao zs.length ca] 54) (Obj.cells #[.int .i64 phase] 3) (Obj.cells #[.int .i64 0,.int .i64 0,.slice none 0 0] 24)
   have hs3:(((w.alloc (Obj.cells #[.int .i64 W,.int .i64 H,.slice ao zs.length ca] 54)).alloc (Obj.cells #[.int .i64 phase] 3)).alloc (Obj.cells #[.int .i64 0,.int .i64 0,.slice none 0 0] 24)).heap.size=w.heap.size+3:=by simp
   generalize ((w.alloc (Obj.cells #[.int .i64 W,.int .i64 H,.slice ao zs.length ca] 54)).alloc (Obj.cells #[.int .i64 phase] 3)).alloc (Obj.cells #[.int .i64 0,.int .i64 0,.slice none 0 0] 24)=U at *
   refine (XeC7 W H _ zs _ (HV.out.below hB (Nat.le_refl _))).mono ?_
   rintro e w1 ⟨rfl,hb1⟩
   rw[hp]
   have g2:=bx1 ((hb1.block (w.heap.size+1) (by omega)).trans a2)
   have g3:=(hb1.block (w.heap.size+1+1) (by omega)).trans a3
   go_wp2_with fail
   refine (qtgz _ _).mono ?_
   rintro e w2 ⟨rfl,hb2⟩
   rw[hph]
   clear g2
   replace hb2:=quJN hb1 hb2
   replace g3:=(hb2.block (w.heap.size+1+1) (by omega)).trans a3
   obtain ⟨z0,z1,z2⟩:=z5EY g3
   have f0:=Lib.frozen_of_heap g3 0
   have f1:=Lib.frozen_of_heap g3 1
   have f2:=Lib.frozen_of_heap g3 2
   have HFIN:=hide (zHqh (hB.trans (hb2.mono hB.size)) (show w.heap.size≤w.heap.size+1+1 by omega) (.int .i64 0) (.int .i64 0) (.slice none 0 0))
   go_wp2
   exact bodyPost_ret (v:=.tuple #[.agg #[.int .i64 0,.int .i64 0,.slice none 0 0],.int .i64 3]) (by simp[results,Tryz.results20,go_sem,z0,z1,z2]) rfl ⟨.slice none 0 0,rfl,IsPix.nil _,HFIN.out,Fresh.nil _⟩
 ·have he:E=1:=by rw[←hE,fillE,if_neg hp]
  have hp:q0fM W H zs=false:=by simpa using hp
  subst he
  clear hE
  obtain ⟨ao,ca,rfl,_,_⟩:=hv
  go_enter Tryz.func20,Tryz.ntmps20
  go_wp2_with fail
  obtain ⟨a1,a2,a3⟩:=al3 w (Obj.cells #[.int .i64 W,.int .i64 H,.slice ao zs.length ca] 54) (Obj.cells #[.int .i64 phase] 3) (Obj.cells #[.int .i64 0,.int .i64 0,.slice none 0 0] 24)
  have hB:=be3 w (Obj.cells #[.int .i64 W,.int .i64 H,.slice ao zs.length ca] 54) (Obj.cells #[.int .i64 phase] 3) (Obj.cells #[.int .i64 0,.int .i64 0,.slice none 0 0] 24)
  have hs3:(((w.alloc (Obj.cells #[.int .i64 W,.int .i64 H,.slice ao zs.length ca] 54)).alloc (Obj.cells #[.int .i64 phase] 3)).alloc (Obj.cells #[.int .i64 0,.int .i64 0,.slice none 0 0] 24)).heap.size=w.heap.size+3:=by simp
  generalize ((w.alloc (Obj.cells #[.int .i64 W,.int .i64 H,.slice ao zs.length ca] 54)).alloc (Obj.cells #[.int .i64 phase] 3)).alloc (Obj.cells #[.int .i64 0,.int .i64 0,.slice none 0 0] 24)=U at *
  refine (XeC7 W H _ zs _ (HV.out.below hB (Nat.le_refl _))).mono ?_
  rintro e w1 ⟨rfl,hb1⟩
  rw[hp]
  have g2:=bx1 ((hb1.block (w.heap.size+1) (by omega)).trans a2)
  have g3:=(hb1.block (w.heap.size+1+1) (by omega)).trans a3
  generalize w1=w2 at *
  have hb2:=hb1
  obtain ⟨z0,z1,z2⟩:=z5EY g3
  have f0:=Lib.frozen_of_heap g3 0
  have f1:=Lib.frozen_of_heap g3 1
  have f2:=Lib.frozen_of_heap g3 2
  have HFIN:=hide (zHqh (hB.trans (hb2.mono hB.size)) (show w.heap.size≤w.heap.size+1+1 by omega) (.int .i64 0) (.int .i64 0) (.slice none 0 0))
  go_wp2
  exact bodyPost_ret (v:=.tuple #[.agg #[.int .i64 0,.int .i64 0,.slice none 0 0],.int .i64 1]) (by simp[results,Tryz.results20,go_sem,z0,z1,z2]) rfl ⟨.slice none 0 0,rfl,IsPix.nil _,HFIN.out,Fresh.nil _⟩
end Go.Proofs.YtfjeonehdlphiaaGreatDoor
