/- Sw: part 22 of what the proofs need. -/
import Derived.Test.YtfjeonehdlphiaaGreatDoorC3Sw
import Derived.Test.YtfjeonehdlphiaaGreatDoorC9Sw
import Derived.Test.YtfjeonehdlphiaaGreatDoorC17Sw
import Derived.Test.YtfjeonehdlphiaaGreatDoorC21Sw
set_option linter.unusedVariables false
set_option maxHeartbeats 4000000
set_option maxRecDepth 100000
namespace Go.Proofs.YtfjeonehdlphiaaGreatDoor
open Go.RowKit Go.Shelf
attribute [local go_sem] Oper.semAt_some
def mStep {N:Nat} (zs:List Int) (W H:Nat) (px py:Fin N→Int) (cnt:Fin N→Bool) (s:Int×Nat) (x:Fin N):Int×Nat :=
 if hasB W H (px x) (py x)=true∧cnt x=true then (s.1+zAt zs ((py x).toNat*W+(px x).toNat),s.2+1) else s
def mF {N:Nat} (zs:List Int) (W H:Nat) (px py:Fin N→Int) (cnt:Fin N→Bool) (pre:List (Fin N)):Int×Nat:=pre.foldl (mStep zs W H px py cnt) (0,0)
theorem zkIF {N:Nat} (zs:List Int) (W H:Nat) (px py:Fin N→Int) (cnt:Fin N→Bool) (pre:List (Fin N)) (x:Fin N):mF zs W H px py cnt (pre++[x])=mStep zs W H px py cnt (mF zs W H px py cnt pre) x:=by simp[mF]
theorem zVKI {N:Nat} {zs:List Int} (h:allIn 0 65535 zs=true) (W H:Nat) (px py:Fin N→Int) (cnt:Fin N→Bool) (pre:List (Fin N)) (s:Int×Nat) (n:Nat) (h1:0≤s.1) (h2:s.1≤s.2*65535) (h3:s.2≤n) :
  0≤(pre.foldl (mStep zs W H px py cnt) s).1∧(pre.foldl (mStep zs W H px py cnt) s).1≤(pre.foldl (mStep zs W H px py cnt) s).2*65535∧(pre.foldl (mStep zs W H px py cnt) s).2≤n+pre.length:=by
 induction pre generalizing s n with
 | nil=>exact ⟨h1,h2,h3⟩
 | cons x pre ih =>
  simp only[List.foldl_cons,List.length_cons]
  have hz:=XWrv h ((py x).toNat*W+(px x).toNat)
  have hs:0≤(mStep zs W H px py cnt s x).1∧(mStep zs W H px py cnt s x).1≤(mStep zs W H px py cnt s x).2*65535∧(mStep zs W H px py cnt s x).2≤n+1:=by
   unfold mStep
   split
   ·refine ⟨?_,?_,?_⟩
    ·show 0≤s.1+zAt zs ((py x).toNat*W+(px x).toNat);omega
    ·show s.1+zAt zs ((py x).toNat*W+(px x).toNat)≤((s.2+1:Nat):Int)*65535;omega
    ·show s.2+1≤n+1;omega
   ·exact ⟨h1,h2,by omega⟩
  have:=ih (mStep zs W H px py cnt s x) (n+1) hs.1 hs.2.1 hs.2.2
  refine ⟨this.1,this.2.1,by omega⟩
def meanV {N:Nat} (zs:List Int) (W H:Nat) (px py:Fin N→Int) (cnt:Fin N→Bool):Int :=
 if (mF zs W H px py cnt (List.finRange N)).2=0 then 0 else (mF zs W H px py cnt (List.finRange N)).1 / ((mF zs W H px py cnt (List.finRange N)).2:Int)
theorem qkM9 (N W H bk off ca:Nat) (hN:N≤8) (hW1:1≤W) (hW:W≤64) (hH1:1≤H) (hH:H≤64) (zs:List Int) (hlen:zs.length=H*W) (hzs:allIn 0 65535 zs=true) (gf cf Bs:Nat) (lb caps:Array Value) (px py:Fin N→Int) (cnt:Fin N→Bool) (w:World)
  (egg:∀args w,(callFunc gf args).run Tryz.prog w=.ok (.enter gf args) w) (egc:∀args w,(callFunc cf args).run Tryz.prog w=.ok (.enter cf args) w) (hBs:Bs<w.heap.size)
  (hbk:bk<w.heap.size) (hcell:∀j,j<zs.length→w.cell? ⟨bk,off+j,none⟩=some (.int .i64 (zAt zs j)))
  (hseq:∀V,Below w.heap.size w V→SeqStopsK Fence.wide (3-1) Tryz.prog gf lb (fun x:Fin N=>#[Value.agg #[.int .i64 (px x),.int .i64 (py x)]]) (KeepB Bs) (fun ys=>ys=List.finRange N) (fun pre=>pre <+: List.finRange N) N V)
  (hcnt:∀(x:Fin N) (V:World),hasB W H (px x) (py x)=true→Below w.heap.size w V→Calls Tryz.prog cf (#[.agg #[.int .i64 (px x),.int .i64 (py x)]]++caps) V fun e V'=>e=.returned (.bool (cnt x))∧Below V.heap.size V V') :
  Calls Tryz.prog 127 #[.agg #[.int .i64 W,.int .i64 H,.slice (some ⟨bk,off,none⟩) zs.length ca],.func (.func gf) #[] lb,.func (.func cf) #[] caps] w fun e w'=>e=.returned (.int .i64 (meanV zs W H px py cnt))∧Below w.heap.size w w':=by
 have hl4:zs.length≤4096:=by rw[hlen];exact Nat.le_trans (Nat.mul_le_mul hH hW) (by decide)
 have HLEN:=hide hlen
 have HZS:=hide hzs
 have HC:=hide hcell
 have HSEQ:=hide hseq
 have HCNT:=hide hcnt
 clear hlen hzs hcell hseq hcnt
 refine (callsIn_wide (n:=3)).1 ?_
 refine callsIn_of_wp_marks Tryz.func127 rfl trivial ?_ rfl
 simp only[Tryz.ntmps127,List.size_toArray,List.length_cons,List.length_nil,Nat.reduceAdd,Nat.reduceSub,Array.replicate_succ,Array.replicate_zero,List.push_toArray,List.append_toArray,List.nil_append,List.cons_append]
 gi_wp2_with fail
 obtain ⟨a1,a2,a3,a4⟩:=al4 w (Obj.cells #[.int .i64 W,.int .i64 H,.slice (some ⟨bk,off,none⟩) zs.length ca] 54) (Obj.cells #[.func (.func cf) #[] caps] 176) (Obj.cells #[.int .i64 W,.int .i64 H] 95) (Obj.cells #[.int .i64 0] 3)
 have hB4:=be4 w (Obj.cells #[.int .i64 W,.int .i64 H,.slice (some ⟨bk,off,none⟩) zs.length ca] 54) (Obj.cells #[.func (.func cf) #[] caps] 176) (Obj.cells #[.int .i64 W,.int .i64 H] 95) (Obj.cells #[.int .i64 0] 3)
 have hs4:((((w.alloc (Obj.cells #[.int .i64 W,.int .i64 H,.slice (some ⟨bk,off,none⟩) zs.length ca] 54)).alloc (Obj.cells #[.func (.func cf) #[] caps] 176)).alloc (Obj.cells #[.int .i64 W,.int .i64 H] 95)).alloc (Obj.cells #[.int .i64 0] 3)).heap.size=w.heap.size+4:=by simp
 generalize (((w.alloc (Obj.cells #[.int .i64 W,.int .i64 H,.slice (some ⟨bk,off,none⟩) zs.length ca] 54)).alloc (Obj.cells #[.func (.func cf) #[] caps] 176)).alloc (Obj.cells #[.int .i64 W,.int .i64 H] 95)).alloc (Obj.cells #[.int .i64 0] 3)=U4 at *
 have b1:=(Below.heap_alloc U4 (Obj.cells #[.int .i64 0] 3) w.heap.size (by omega)).trans a1
 have b2:=(Below.heap_alloc U4 (Obj.cells #[.int .i64 0] 3) (w.heap.size+1) (by omega)).trans a2
 have b3:=(Below.heap_alloc U4 (Obj.cells #[.int .i64 0] 3) (w.heap.size+2) (by omega)).trans a3
 have b4:=(Below.heap_alloc U4 (Obj.cells #[.int .i64 0] 3) (w.heap.size+3) (by omega)).trans a4
 have b5:(U4.alloc (Obj.cells #[.int .i64 0] 3)).heap[w.heap.size+4]?=some (Obj.cells #[.int .i64 0] 3):=by have h:=al1 U4 (Obj.cells #[.int .i64 0] 3);rw[hs4] at h;exact h
 have hB0:=quJN hB4 (qUNz U4 (Obj.cells #[.int .i64 0] 3))
 have hs0:w.heap.size+5≤(U4.alloc (Obj.cells #[.int .i64 0] 3)).heap.size:=by simp;omega
 clear a1 a2 a3 a4 hB4 hs4
 generalize U4.alloc (Obj.cells #[.int .i64 0] 3)=W0 at *
 refine wpIn_rangeFunc_ownH (α:=Fin N) rfl (show 1≤3 by omega) (gf:=gf) (lb:=lb) rfl trivial egg
  (HSEQ.out W0 hB0) (fun {A B C} h k=>h.trans' k) (fun X l o o' hl _ _ _=>qMCQ (by omega)) (Below.refl _ _) (fun _=>rfl)
  (fun pre W'=>W'.heap[w.heap.size+3]?=some (.cells #[.int .i64 (mF zs W H px py cnt pre).1] 3 (0,0))∧W'.heap[w.heap.size+4]?=some (.cells #[.int .i64 ((mF zs W H px py cnt pre).2:Nat)] 3 (0,0))∧W'.heap[w.heap.size]?=some (.cells #[.int .i64 W,.int .i64 H,.slice (some ⟨bk,off,none⟩) zs.length ca] 54 (0,0))∧W'.heap[w.heap.size+1]?=some (.cells #[.func (.func cf) #[] caps] 176 (0,0))∧W'.heap[w.heap.size+2]?=some (.cells #[.int .i64 W,.int .i64 H] 95 (0,0))∧Below w.heap.size w W')
  (fun _ _ _=>False)
  (fun s X Y row ⟨c1,c2,c3,c4,c5,c6⟩ hg hr=>⟨qLYA hg hr c1,qLYA hg hr c2,qLYA hg hr c3,qLYA hg hr c4,qLYA hg hr c5,ownFrom_below (β:=Unit) (Nat.le_refl _) (by omega) () X Y row c6 hg hr⟩)
  (fun _ _ _ _ _ hs _ _=>hs)
  ⟨b4,b5,b1,b2,b3,hB0⟩
  (fun x a' W'=>∃Bx,w.heap.size+5≤Bx∧W'.heap[Bx]?=some (.cells #[.int .i64 (px x),.int .i64 (py x)] 97 (0,0))∧a'={ tmps:=#[.agg #[.int .i64 W,.int .i64 H,.slice (some ⟨bk,off,none⟩) zs.length ca],.func (.func gf) #[] lb,.func (.func cf) #[] caps,.pointer (some ⟨w.heap.size,0,none⟩),undef,.pointer (some ⟨w.heap.size+1,0,none⟩),.int .i64 0,.pointer (some ⟨w.heap.size+1+1,0,none⟩),.pointer (some ⟨w.heap.size+1+1+1,0,none⟩),.pointer (some ⟨w.heap.size+1+1+1+1,0,none⟩),.pointer (some ⟨Bx,0,none⟩),.pointer (some ⟨w.heap.size,0,none⟩),.int .i64 W,.pointer (some ⟨w.heap.size,1,none⟩),.int .i64 H,.agg #[.int .i64 W,.int .i64 H],.func (.func gf) #[] lb,.agg #[.int .i64 (px x),.int .i64 (py x)],undef,undef,undef,undef,undef,undef,undef,undef,undef,undef,undef,undef,undef,undef,undef,undef,undef,undef,undef,undef,undef,undef,undef,undef],defers:=[] })
  (fun x a' _ X Y row ⟨Bx,c1,c2,c3⟩ hg hr=>⟨Bx,c1,qLYA hg hr c2,c3⟩)
  ?assign ?body ?done ?stop
 case assign =>
  rintro l pre x W' K ⟨i1,i2,i3,i4,i5,i6⟩ hK
  have hl1:=(Array.getElem?_eq_some_iff.1 i1).1
  have hl2:=(Array.getElem?_eq_some_iff.1 i2).1
  have hl3:=(Array.getElem?_eq_some_iff.1 i3).1
  have hl4:=(Array.getElem?_eq_some_iff.1 i4).1
  have hl5:=(Array.getElem?_eq_some_iff.1 i5).1
  have hl6:=i6.size
  gi_wp2
  exact hK _ _ ((KeepsOthers.alloc _ _).from _) (Below.heap_alloc _ _ _ (by omega)) ⟨(Below.heap_alloc _ _ _ hl1).trans i1,(Below.heap_alloc _ _ _ hl2).trans i2,(Below.heap_alloc _ _ _ hl3).trans i3,(Below.heap_alloc _ _ _ hl4).trans i4,(Below.heap_alloc _ _ _ hl5).trans i5,i6.alloc hl6 _⟩ ⟨W'.heap.size,by omega,al1 W' _,rfl⟩
 case body =>
  rintro l pre x a' W' hl ⟨rr,hrr⟩ ⟨i1,i2,i3,i4,i5,i6⟩ ⟨Bx,hBx,bX,rfl⟩ hlt
  have HSN:=hide (zkIF zs W H px py cnt pre x)
  have hr:0≤(mF zs W H px py cnt pre).1∧(mF zs W H px py cnt pre).1≤(mF zs W H px py cnt pre).2*65535∧(mF zs W H px py cnt pre).2≤0+pre.length:=zVKI HZS.out W H px py cnt pre (0,0) 0 (Int.le_refl _) (by decide) (Nat.le_refl _)
  obtain ⟨⟨sm,nn⟩,hsn⟩:∃t,mF zs W H px py cnt pre=t:=⟨_,rfl⟩
  rw[hsn] at i1 i2 HSN hr
  obtain ⟨hr1,hr2,hr3⟩:=hr
  simp only at hr1 hr2 hr3 i1 i2
  clear hsn
  have HCN:=hide (fun V h1 h2=>HCNT.out x V h1 h2)
  have HMS:=hide (show mStep zs W H px py cnt (sm,nn) x=if hasB W H (px x) (py x)=true∧cnt x=true then (sm+zAt zs ((py x).toNat*W+(px x).toNat),nn+1) else (sm,nn) from rfl)
  obtain ⟨xa,hxa⟩:∃xa,px x=xa:=⟨_,rfl⟩
  obtain ⟨yb,hyb⟩:∃yb,py x=yb:=⟨_,rfl⟩
  obtain ⟨cx,hcx⟩:∃cx,cnt x=cx:=⟨_,rfl⟩
  rw[hxa,hyb] at bX ⊢
  rw[hxa,hyb,hcx] at HCN HMS
  clear hxa hyb hcx
  have hl1:=(Array.getElem?_eq_some_iff.1 i1).1
  have hl2:=(Array.getElem?_eq_some_iff.1 i2).1
  have hl3:=(Array.getElem?_eq_some_iff.1 i3).1
  have hl4:=(Array.getElem?_eq_some_iff.1 i4).1
  have hl5:=(Array.getElem?_eq_some_iff.1 i5).1
  have hlX:=(Array.getElem?_eq_some_iff.1 bX).1
  have hsz:=i6.size
  have g0:W'.cell? ⟨w.heap.size+1+1,0,none⟩=some (.int .i64 W):=by rw[Lib.cell_of_heap (b:=w.heap.size+1+1) i5];rfl
  have g1:W'.cell? ⟨w.heap.size+1+1,1,none⟩=some (.int .i64 H):=by rw[Lib.cell_of_heap (b:=w.heap.size+1+1) i5];rfl
  have x0:W'.cell? ⟨Bx,0,none⟩=some (.int .i64 xa):=by rw[Lib.cell_of_heap bX];rfl
  have x1:W'.cell? ⟨Bx,1,none⟩=some (.int .i64 yb):=by rw[Lib.cell_of_heap bX];rfl
  have HEND0:=hide (show ∀V,Below W'.heap.size W' V→mF zs W H px py cnt (pre++[x])=(sm,nn)→KeepsFrom W0.heap.size W' V∧KeepB Bs W' V∧(V.heap[w.heap.size+3]?=some (.cells #[.int .i64 (mF zs W H px py cnt (pre++[x])).1] 3 (0,0))∧V.heap[w.heap.size+4]?=some (.cells #[.int .i64 ((mF zs W H px py cnt (pre++[x])).2:Nat)] 3 (0,0))∧V.heap[w.heap.size]?=some (.cells #[.int .i64 W,.int .i64 H,.slice (some ⟨bk,off,none⟩) zs.length ca] 54 (0,0))∧V.heap[w.heap.size+1]?=some (.cells #[.func (.func cf) #[] caps] 176 (0,0))∧V.heap[w.heap.size+2]?=some (.cells #[.int .i64 W,.int .i64 H] 95 (0,0))∧Below w.heap.size w V) from fun V h hm=>by
   rw[hm]
   exact ⟨⟨h.size,fun k o _ hk _=>(h.block k (Array.getElem?_eq_some_iff.1 hk).1).trans hk⟩,h.block Bs (by omega),(h.block _ hl1).trans i1,(h.block _ hl2).trans i2,(h.block _ hl3).trans i3,(h.block _ hl4).trans i4,(h.block _ hl5).trans i5,i6.trans (h.mono hsz)⟩)
  have HEND1:=hide (show ∀V (z:Int),Below W'.heap.size W' V→mF zs W H px py cnt (pre++[x])=(sm+z,nn+1)→KeepsFrom W0.heap.size W' ((V.setCell ⟨w.heap.size+1+1+1,0,none⟩ (.int .i64 (sm+z))).setCell ⟨w.heap.size+1+1+1+1,0,none⟩ (.int .i64 ((nn+1:Nat):Int)))∧KeepB Bs W' ((V.setCell ⟨w.heap.size+1+1+1,0,none⟩ (.int .i64 (sm+z))).setCell ⟨w.heap.size+1+1+1+1,0,none⟩ (.int .i64 ((nn+1:Nat):Int)))∧(((V.setCell ⟨w.heap.size+1+1+1,0,none⟩ (.int .i64 (sm+z))).setCell ⟨w.heap.size+1+1+1+1,0,none⟩ (.int .i64 ((nn+1:Nat):Int))).heap[w.heap.size+3]?=some (.cells #[.int .i64 (mF zs W H px py cnt (pre++[x])).1] 3 (0,0))∧((V.setCell ⟨w.heap.size+1+1+1,0,none⟩ (.int .i64 (sm+z))).setCell ⟨w.heap.size+1+1+1+1,0,none⟩ (.int .i64 ((nn+1:Nat):Int))).heap[w.heap.size+4]?=some (.cells #[.int .i64 ((mF zs W H px py cnt (pre++[x])).2:Nat)] 3 (0,0))∧((V.setCell ⟨w.heap.size+1+1+1,0,none⟩ (.int .i64 (sm+z))).setCell ⟨w.heap.size+1+1+1+1,0,none⟩ (.int .i64 ((nn+1:Nat):Int))).heap[w.heap.size]?=some (.cells #[.int .i64 W,.int .i64 H,.slice (some ⟨bk,off,none⟩) zs.length ca] 54 (0,0))∧((V.setCell ⟨w.heap.size+1+1+1,0,none⟩ (.int .i64 (sm+z))).setCell ⟨w.heap.size+1+1+1+1,0,none⟩ (.int .i64 ((nn+1:Nat):Int))).heap[w.heap.size+1]?=some (.cells #[.func (.func cf) #[] caps] 176 (0,0))∧((V.setCell ⟨w.heap.size+1+1+1,0,none⟩ (.int .i64 (sm+z))).setCell ⟨w.heap.size+1+1+1+1,0,none⟩ (.int .i64 ((nn+1:Nat):Int))).heap[w.heap.size+2]?=some (.cells #[.int .i64 W,.int .i64 H] 95 (0,0))∧Below w.heap.size w ((V.setCell ⟨w.heap.size+1+1+1,0,none⟩ (.int .i64 (sm+z))).setCell ⟨w.heap.size+1+1+1+1,0,none⟩ (.int .i64 ((nn+1:Nat):Int)))) from fun V z h hm=>by
   rw[hm]
   have k3:=(h.block _ hl1).trans i1
   have k4:=(h.block _ hl2).trans i2
   have h3:=heap_setCell_same V (w.heap.size+3) 0 _ _ (.int .i64 (sm+z)) k3
   have o3:∀b,b≠w.heap.size+3→(V.setCell ⟨w.heap.size+3,0,none⟩ (.int .i64 (sm+z))).heap[b]?=V.heap[b]?:=fun b hb=>Below.heap_setCell _ _ _ _ hb
   have k4':=(o3 (w.heap.size+4) (by omega)).trans k4
   have h4:=heap_setCell_same (V.setCell ⟨w.heap.size+3,0,none⟩ (.int .i64 (sm+z))) (w.heap.size+4) 0 _ _ (.int .i64 ((nn+1:Nat):Int)) k4'
   have o4:∀b,b≠w.heap.size+4→((V.setCell ⟨w.heap.size+3,0,none⟩ (.int .i64 (sm+z))).setCell ⟨w.heap.size+4,0,none⟩ (.int .i64 ((nn+1:Nat):Int))).heap[b]?=(V.setCell ⟨w.heap.size+3,0,none⟩ (.int .i64 (sm+z))).heap[b]?:=fun b hb=>Below.heap_setCell _ _ _ _ hb
   have oo:∀b,b≠w.heap.size+3→b≠w.heap.size+4→b<W'.heap.size→((V.setCell ⟨w.heap.size+3,0,none⟩ (.int .i64 (sm+z))).setCell ⟨w.heap.size+4,0,none⟩ (.int .i64 ((nn+1:Nat):Int))).heap[b]?=W'.heap[b]?:=fun b h1 h2 h5=>(o4 b h2).trans ((o3 b h1).trans (h.block b h5))
   refine ⟨⟨?_,fun k o hkB hk hoc=>?_⟩,oo Bs (by omega) (by omega) (by omega),?_,?_,(oo _ (by omega) (by omega) hl3).trans i3,(oo _ (by omega) (by omega) hl4).trans i4,(oo _ (by omega) (by omega) hl5).trans i5,?_⟩
   ·have:=h.size;simpa [World.setCell] using this
   ·exact (oo k (by omega) (by omega) (Array.getElem?_eq_some_iff.1 hk).1).trans hk
   ·exact (o4 _ (by omega)).trans (by rw[h3];rfl)
   ·show ((V.setCell ⟨w.heap.size+3,0,none⟩ (.int .i64 (sm+z))).setCell ⟨w.heap.size+4,0,none⟩ (.int .i64 ((nn+1:Nat):Int))).heap[w.heap.size+4]?=_
    rw[h4];rfl
   ·exact ((i6.trans (h.mono hsz)).setCell (p:=⟨w.heap.size+3,0,none⟩) (by show w.heap.size≤w.heap.size+3;omega) _).setCell (p:=⟨w.heap.size+4,0,none⟩) (by show w.heap.size≤w.heap.size+4;omega) _)
  gi_wp2_with fail
  refine ⟨trivial,?_⟩
  refine (CallsIn.inRound l (callsIn_wide.2 (z7Cs W H xa yb _))).mono ?_
  rintro e V1 ⟨rfl,hb1⟩
  by_cases hh:hasB W H xa yb=true
  ·rw[hh]
   have q0:V1.cell? ⟨w.heap.size+1,0,none⟩=some (.func (.func cf) #[] caps):=by rw[Lib.cell_of_heap ((hb1.block _ hl4).trans i4)];rfl
   have q1:V1.cell? ⟨Bx,0,none⟩=some (.int .i64 xa):=by rw[Lib.cell_of_heap ((hb1.block _ hlX).trans bX)];rfl
   have q2:V1.cell? ⟨Bx,1,none⟩=some (.int .i64 yb):=by rw[Lib.cell_of_heap ((hb1.block _ hlX).trans bX)];rfl
   gi_wp2_with fail
   refine ⟨trivial,?_⟩
   refine (CallsIn.inRound l (callsIn_wide.2 (HCN.out _ hh (i6.trans (hb1.mono hsz))))).mono ?_
   rintro e V2 ⟨rfl,hb2⟩
   have hb12:=quJN hb1 hb2
   cases hcx:cx with
   | false =>
    have HM0:=hide (show mF zs W H px py cnt (pre++[x])=(sm,nn) by rw[HSN.out,HMS.out,hcx];simp)
    gi_wp2
    exact HEND0.out _ hb12 HM0.out
   | true =>
    obtain ⟨hx0,hx1,hy0,hy1⟩:0≤xa∧xa<W∧0≤yb∧yb<H:=by simpa [hasB] using hh
    have HM1:=hide (show mF zs W H px py cnt (pre++[x])=(sm+zAt zs (yb.toNat*W+xa.toNat),nn+1) by rw[HSN.out,HMS.out,hcx,hh];simp)
    obtain ⟨X,rfl⟩:=Int.eq_ofNat_of_zero_le hx0
    obtain ⟨Y,rfl⟩:=Int.eq_ofNat_of_zero_le hy0
    rw[Int.toNat_natCast,Int.toNat_natCast] at HM1
    have hkl:Y*W+X<zs.length:=by
     have h1:(Y+1)*W≤H*W:=Nat.mul_le_mul_right _ (by omega)
     rw[Nat.succ_mul] at h1
     rw[HLEN.out];omega
    obtain ⟨K1,hK1⟩:∃K1,Y*W+X=K1:=⟨_,rfl⟩
    rw[hK1] at HM1 hkl
    have HIX:=hide (fun v=>XSSj W H X Y W K1 rfl hK1 (by omega) v)
    have hz:=XWrv HZS.out K1
    have hcz:=HC.out K1 hkl
    obtain ⟨z,hz0⟩:∃z,zAt zs K1=z:=⟨_,rfl⟩
    rw[hz0] at hz hcz HM1
    obtain ⟨hz1,hz2⟩:=hz
    clear hz0 hK1 x0 x1 g0 g1 q0 q1 q2
    have HS:=hide (show ∀v,Below W'.heap.size W' v→v.cell? ⟨w.heap.size+1+1+1,0,none⟩=some (.int .i64 sm)∧v.cell? ⟨w.heap.size,2,none⟩=some (.slice (some ⟨bk,off,none⟩) zs.length ca)∧v.cell? ⟨w.heap.size+1+1,0,none⟩=some (.int .i64 W)∧v.cell? ⟨w.heap.size+1+1,1,none⟩=some (.int .i64 H)∧v.cell? ⟨Bx,0,none⟩=some (.int .i64 (X:Nat))∧v.cell? ⟨Bx,1,none⟩=some (.int .i64 (Y:Nat))∧v.cell? ⟨bk,off+K1,none⟩=some (.int .i64 z) from fun v h=>by
     obtain ⟨_,_,t2⟩:=z5EY ((h.block _ hl3).trans i3)
     have t5:=(h.block _ hl5).trans i5
     have tx:=(h.block _ hlX).trans bX
     exact ⟨by rw[Lib.cell_of_heap (b:=w.heap.size+1+1+1) ((h.block _ hl1).trans i1)];rfl,t2,by rw[Lib.cell_of_heap (b:=w.heap.size+1+1) t5];rfl,by rw[Lib.cell_of_heap (b:=w.heap.size+1+1) t5];rfl,by rw[Lib.cell_of_heap tx];rfl,by rw[Lib.cell_of_heap tx];rfl,((i6.trans (h.mono hsz)).cell (p:=⟨bk,off+K1,none⟩) hbk).trans hcz⟩)
    have HF:=hide (show ∀v,Below W'.heap.size W' v→v.frozen? ⟨w.heap.size+1+1+1,0,none⟩=false∧v.cell? ⟨w.heap.size+1+1+1,0,none⟩=some (.int .i64 sm)∧v.frozen? ⟨w.heap.size+1+1+1+1,0,none⟩=false∧v.cell? ⟨w.heap.size+1+1+1+1,0,none⟩=some (.int .i64 (nn:Nat)) from fun v h=>by
     have t3:=(h.block _ hl1).trans i1
     have t4:=(h.block _ hl2).trans i2
     exact ⟨Lib.frozen_of_heap (b:=w.heap.size+1+1+1) t3 0,by rw[Lib.cell_of_heap (b:=w.heap.size+1+1+1) t3];rfl,Lib.frozen_of_heap (b:=w.heap.size+1+1+1+1) t4 0,by rw[Lib.cell_of_heap (b:=w.heap.size+1+1+1+1) t4];rfl⟩)
    have hws:IntKind.i64.wrap (sm+z)=sm+z:=IntWalk.i64_in _ (by omega)
    have hwn:IntKind.i64.wrap ((nn:Int)+1)=((nn+1:Nat):Int):=(IntWalk.i64_in _ (by omega)).trans (by omega)
    have hklI:(K1:Int)<(zs.length:Int):=by omega
    have hWd:Below W'.heap.size W' V2.drew:=hb12.drew
    have hSd:=HS.out _ hWd
    have hmx:Tryz.prog.follows .mixedOrders=true:=by kernel_rfl
    gi_wp2_with fail
    refine qXaV (S:=fun v:World=>v.cell? ⟨w.heap.size+1+1+1,0,none⟩=some (.int .i64 sm)∧v.cell? ⟨w.heap.size,2,none⟩=some (.slice (some ⟨bk,off,none⟩) zs.length ca)∧v.cell? ⟨w.heap.size+1+1,0,none⟩=some (.int .i64 W)∧v.cell? ⟨w.heap.size+1+1,1,none⟩=some (.int .i64 H)∧v.cell? ⟨Bx,0,none⟩=some (.int .i64 (X:Nat))∧v.cell? ⟨Bx,1,none⟩=some (.int .i64 (Y:Nat))∧v.cell? ⟨bk,off+K1,none⟩=some (.int .i64 z)) (f:=9) hmx ?nd ?no ?_
    case nd=>exact qU4N (by kernel_rfl)
    case no=>rintro ⟨_,_,h⟩;exact h
    show jZdv _ _ _ _ _ _ 10 _ _ V2.drew
    refine j7aj (i:=0) (oi:=_) (v:=?vv1) rfl (by kernel_rfl) (by kernel_rfl) (by kernel_rfl) (by kernel_rfl) (by kernel_rfl) (fun _ _ _ h=>h) (Or.inl ⟨by rfl,?yy1⟩) hSd ?rr1
    case yy1=>(intro wq hSq;obtain ⟨_,_,_,_,_,_,_⟩:=hSq;go_simp<;>with_reducible rfl)
    try simp only[Act.put]
    refine j7aj (i:=1) (oi:=_) (v:=?vv2) rfl (by kernel_rfl) (by kernel_rfl) (by kernel_rfl) (by kernel_rfl) (by kernel_rfl) (fun _ _ _ h=>h) (Or.inl ⟨by rfl,?yy2⟩) hSd ?rr2
    case yy2=>(intro wq hSq;obtain ⟨_,_,_,_,_,_,_⟩:=hSq;go_simp<;>with_reducible rfl)
    try simp only[Act.put]
    refine j7aj (i:=2) (oi:=_) (v:=?vv3) rfl (by kernel_rfl) (by kernel_rfl) (by kernel_rfl) (by kernel_rfl) (by kernel_rfl) (fun _ _ _ h=>h) (Or.inl ⟨by rfl,?yy3⟩) hSd ?rr3
    case yy3=>(intro wq hSq;obtain ⟨_,_,_,_,_,_,_⟩:=hSq;go_simp<;>with_reducible rfl)
    try simp only[Act.put]
    refine j7aj (i:=3) (oi:=_) (v:=?vv4) rfl (by kernel_rfl) (by kernel_rfl) (by kernel_rfl) (by kernel_rfl) (by kernel_rfl) (fun _ _ _ h=>h) (Or.inl ⟨by rfl,?yy4⟩) hSd ?rr4
    case yy4=>(intro wq hSq;obtain ⟨_,_,_,_,_,_,_⟩:=hSq;go_simp<;>with_reducible rfl)
    try simp only[Act.put]
    refine j7aj (i:=4) (oi:=_) (v:=?vv5) rfl (by kernel_rfl) (by kernel_rfl) (by kernel_rfl) (by kernel_rfl) (by kernel_rfl) (fun _ _ _ h=>h) (Or.inl ⟨by rfl,?yy5⟩) hSd ?rr5
    case yy5=>(intro wq hSq;obtain ⟨_,_,_,_,_,_,_⟩:=hSq;go_simp<;>with_reducible rfl)
    try simp only[Act.put]
    refine znWj (i:=5) (o:=_) (by kernel_rfl) rfl (fun K' hK=>?_)
    rw[if_pos (by rfl)]
    go_simp
    refine (HIX.out _).mono ?_
    rintro e V3 ⟨rfl,hb3⟩
    have hB3:Below W'.heap.size W' V3:=hWd.trans (hb3.mono hWd.size)
    have hSd:=HS.out _ hB3
    refine hK.out _ _ hSd ?_
    clear hK
    try simp only[Act.put]
    refine j7aj (i:=6) (oi:=_) (v:=?vv6) rfl (by kernel_rfl) (by kernel_rfl) (by kernel_rfl) (by kernel_rfl) (by kernel_rfl) (fun _ _ _ h=>h) (Or.inl ⟨by rfl,?yy6⟩) hSd ?rr6
    case yy6=>(intro wq hSq;obtain ⟨_,_,_,_,_,_,_⟩:=hSq;go_simp<;>with_reducible rfl)
    try simp only[Act.put]
    refine j7aj (i:=7) (oi:=_) (v:=?vv7) rfl (by kernel_rfl) (by kernel_rfl) (by kernel_rfl) (by kernel_rfl) (by kernel_rfl) (fun _ _ _ h=>h) (Or.inl ⟨by rfl,?yy7⟩) hSd ?rr7
    case yy7=>(intro wq hSq;obtain ⟨_,_,_,_,_,_,_⟩:=hSq;go_simp<;>with_reducible rfl)
    try simp only[Act.put]
    refine j7aj (i:=8) (oi:=_) (v:=?vv8) rfl (by kernel_rfl) (by kernel_rfl) (by kernel_rfl) (by kernel_rfl) (by kernel_rfl) (fun _ _ _ h=>h) (Or.inl ⟨by rfl,?yy8⟩) hSd ?rr8
    case yy8=>(intro wq hSq;obtain ⟨_,_,_,_,_,_,_⟩:=hSq;go_simp<;>with_reducible rfl)
    try simp only[Act.put]
    obtain ⟨f3,c3,f4,c4⟩:=HF.out _ hB3
    refine z9gO (o:=_) (by kernel_rfl) rfl (fun K' hK=>?_)
    rw[if_pos (by rfl)]
    go_simp
    refine hK.out _ _ ?_
    clear hK
    refine jFdp (by kernel_rfl) ?_ _
    try simp only[Act.put]
    have n4:(V3.setCell ⟨w.heap.size+1+1+1,0,none⟩ (.int .i64 (sm+z))).cell? ⟨w.heap.size+1+1+1+1,0,none⟩=some (.int .i64 (nn:Nat)):=(World.cell?_setCell_far _ _ _ _ (by show w.heap.size+3≠w.heap.size+4;omega)).trans c4
    gi_wp2
    exact HEND1.out _ z hB3 HM1.out
  ·have hh:hasB W H xa yb=false:=by simpa using hh
   have HM0:=hide (show mF zs W H px py cnt (pre++[x])=(sm,nn) by rw[HSN.out,HMS.out,hh];simp)
   rw[hh]
   gi_wp2
   repeat (refine ⟨fun _ h=>(by cases h),?_⟩;gi_wp2)
   exact HEND0.out _ hb1 HM0.out
 case done =>
  rintro D ys W' hD rfl ⟨i1,i2,i3,i4,i5,i6⟩ hK
  have hr:0≤(mF zs W H px py cnt (List.finRange N)).1∧(mF zs W H px py cnt (List.finRange N)).1≤(mF zs W H px py cnt (List.finRange N)).2*65535∧(mF zs W H px py cnt (List.finRange N)).2≤0+(List.finRange N).length:=zVKI HZS.out W H px py cnt (List.finRange N) (0,0) 0 (Int.le_refl _) (by decide) (Nat.le_refl _)
  rw[List.length_finRange] at hr
  have HV:=hide (show meanV zs W H px py cnt=if (mF zs W H px py cnt (List.finRange N)).2=0 then 0 else (mF zs W H px py cnt (List.finRange N)).1 / ((mF zs W H px py cnt (List.finRange N)).2:Int) from rfl)
  obtain ⟨⟨sm,nn⟩,hsn⟩:∃t,mF zs W H px py cnt (List.finRange N)=t:=⟨_,rfl⟩
  rw[hsn] at i1 i2 HV hr
  simp only at hr i1 i2 HV
  obtain ⟨hr1,hr2,hr3⟩:=hr
  have c3:W'.cell? ⟨w.heap.size+1+1+1,0,none⟩=some (.int .i64 sm):=by rw[Lib.cell_of_heap (b:=w.heap.size+1+1+1) i1];rfl
  have c4:W'.cell? ⟨w.heap.size+1+1+1+1,0,none⟩=some (.int .i64 (nn:Nat)):=by rw[Lib.cell_of_heap (b:=w.heap.size+1+1+1+1) i2];rfl
  have HY:=hide (show Below w.heap.size w (W'.putObj D (.deferred none)) from i6.trans (belowK_b (w:=w) (Nat.le_refl _) W' D _ _ (by omega) hK rfl rfl))
  by_cases hn:nn=0
  ·subst hn
   rw[if_pos rfl] at HV
   gi_wp2
   refine ⟨by simp,.inl ⟨_,_,rfl,run_takeDeferred hK,?_⟩⟩
   exact ⟨.int .i64 0,by simp[results,Tryz.results127,go_sem],by rw[HV.out],HY.out⟩
  ·rw[if_neg hn] at HV
   have hq:=Int.tdiv_eq_ediv_of_nonneg (b:=(nn:Int)) hr1
   rw[←hq] at HV
   have hq0:0≤sm.tdiv (nn:Int):=by rw[hq];exact Int.ediv_nonneg hr1 (by omega)
   have hq1:sm.tdiv (nn:Int)≤sm:=by rw[hq];exact Int.ediv_le_self _ hr1
   obtain ⟨q,hqq⟩:∃q,sm.tdiv (nn:Int)=q:=⟨_,rfl⟩
   rw[hqq] at HV hq0 hq1
   have hbz:((nn:Int) == 0)=false:=by simp;omega
   have hwq:IntKind.i64.wrap q=q:=IntWalk.i64_in _ (by omega)
   clear hq
   gi_wp2
   refine ⟨by simp,.inl ⟨_,_,rfl,run_takeDeferred hK,?_⟩⟩
   exact ⟨.int .i64 q,by simp[results,Tryz.results127,go_sem],by rw[HV.out],HY.out⟩
 case stop=>rintro D c pre W' _ _ h _;exact h.elim
attribute [local go_sem] Oper.semAt_some
theorem zPMW (W H N:Nat) (hW:W≤64) (hH:H≤64) (hNHW:N=H*W) (tf:Nat) (caps:Array Value) (T:Nat→Int) (w:World) (eg:∀args w,(callFunc tf args).run Tryz.prog w=.ok (.enter tf args) w)
    (htell:∀(j:Nat) (V:World),j<N→Below w.heap.size w V→Calls Tryz.prog tf (#[.agg #[.int .i64 (j % W:Nat),.int .i64 (j / W:Nat)]]++caps) V fun e V'=>e=.returned (.int .i64 (T j))∧Below V.heap.size V V') :
    Calls Tryz.prog 255 #[.agg #[.int .i64 W,.int .i64 H],.func (.func tf) #[] caps] w fun e w'=>∃r,e=.returned (.agg #[.int .i64 W,.int .i64 H,r])∧jCvT w' r ((List.range N).map T)∧Below w.heap.size w w'∧Fresh w.heap.size r:=by
  obtain ⟨i0,hi,hz0,hz1,hz2⟩:=info_parts Tryz.infoInt
  refine (callsIn_wide (n:=3)).1 ?_
  refine callsIn_of_wp_marks Tryz.func255 rfl trivial ?_ rfl
  simp only[Tryz.ntmps255,List.size_toArray,List.length_cons,List.length_nil,Nat.reduceAdd,Nat.reduceSub,Array.replicate_succ,Array.replicate_zero,List.push_toArray,List.append_toArray,List.nil_append,List.cons_append]
  gi_wp2_with fail
  refine wpIn_wide.2 ?_
  have hN:N=W*H:=by rw[hNHW,Nat.mul_comm]
  have HNHW:=hide hNHW
  clear hNHW
  have hNi:(W:Int)*(H:Int)=(N:Int):=by rw[hN];simp
  have hNb:N≤4096:=by rw[hN];exact Nat.le_trans (Nat.mul_le_mul hW hH) (by decide)
  have hmk:∀V:World,(Instr.makeSlice 52 (.int .i64 0) (.int .i64 N)).run Tryz.prog V=.ok (.slice (some ⟨V.heap.size,0,none⟩) 0 N) (V.alloc (.cells (madeCells (Value.int .i64 0).cells (N*1)) 3)):=fun V=>by
    have h:=run_make (P:=Tryz.prog) V 52 3 i0 (.int .i64 0) Tryz.underlying52 hi hz0 .i64 .i64 0 N (Int.le_refl _) (by omega) (by rw[hz2];omega) (by omega)
    rw[hz1] at h
    simpa using h
  have hwN:IntKind.i64.wrap ((W:Int)*(H:Int))=(N:Int):=by rw[hNi];exact IntWalk.i64_in _ (by omega)
  have hwM:IntKind.i64.wrap (N:Int)=(N:Int):=IntWalk.i64_in _ (by omega)
  have HN:=hide hN
  clear hN
  have hB3:=quJN (quJN (qUNz w (Obj.cells #[.int .i64 W,.int .i64 H] 95)) (qUNz _ (Obj.cells #[.func (.func tf) #[] caps] 98))) (qUNz _ (Obj.cells #[.int .i64 0,.int .i64 0,.slice none 0 0] 54))
  have g0:(((w.alloc (Obj.cells #[.int .i64 W,.int .i64 H] 95)).alloc (Obj.cells #[.func (.func tf) #[] caps] 98)).alloc (Obj.cells #[.int .i64 0,.int .i64 0,.slice none 0 0] 54)).heap[w.heap.size]?=some (.cells #[.int .i64 W,.int .i64 H] 95 (0,0)):=by
    rw[Below.heap_alloc _ _ _ (by simp;omega),Below.heap_alloc _ _ _ (by simp)];exact heap_alloc_new w _
  have g1:(((w.alloc (Obj.cells #[.int .i64 W,.int .i64 H] 95)).alloc (Obj.cells #[.func (.func tf) #[] caps] 98)).alloc (Obj.cells #[.int .i64 0,.int .i64 0,.slice none 0 0] 54)).heap[w.heap.size+1]?=some (.cells #[.func (.func tf) #[] caps] 98 (0,0)):=by
    rw[Below.heap_alloc _ _ _ (by simp)]
    have h:=heap_alloc_new (w.alloc (Obj.cells #[.int .i64 W,.int .i64 H] 95)) (Obj.cells #[.func (.func tf) #[] caps] 98)
    rw[World.size_alloc] at h;exact h
  have g2:(((w.alloc (Obj.cells #[.int .i64 W,.int .i64 H] 95)).alloc (Obj.cells #[.func (.func tf) #[] caps] 98)).alloc (Obj.cells #[.int .i64 0,.int .i64 0,.slice none 0 0] 54)).heap[w.heap.size+2]?=some (.cells #[.int .i64 0,.int .i64 0,.slice none 0 0] 54 (0,0)):=by
    have h:=heap_alloc_new ((w.alloc (Obj.cells #[.int .i64 W,.int .i64 H] 95)).alloc (Obj.cells #[.func (.func tf) #[] caps] 98)) (Obj.cells #[.int .i64 0,.int .i64 0,.slice none 0 0] 54)
    rw[World.size_alloc,World.size_alloc] at h;exact h
  have hs3:(((w.alloc (Obj.cells #[.int .i64 W,.int .i64 H] 95)).alloc (Obj.cells #[.func (.func tf) #[] caps] 98)).alloc (Obj.cells #[.int .i64 0,.int .i64 0,.slice none 0 0] 54)).heap.size=w.heap.size+3:=by simp
  generalize ((w.alloc (Obj.cells #[.int .i64 W,.int .i64 H] 95)).alloc (Obj.cells #[.func (.func tf) #[] caps] 98)).alloc (Obj.cells #[.int .i64 0,.int .i64 0,.slice none 0 0] 54)=W3 at *
  have k0:W3.cell? ⟨w.heap.size,0,none⟩=some (.int .i64 W):=by rw[Lib.cell_of_heap g0];rfl
  have k1:W3.cell? ⟨w.heap.size,1,none⟩=some (.int .i64 H):=by rw[Lib.cell_of_heap g0];rfl
  have HS:=hide (show ∀w',Below W3.heap.size W3 w'→w'.cell? ⟨w.heap.size,0,none⟩=some (.int .i64 W)∧w'.cell? ⟨w.heap.size,1,none⟩=some (.int .i64 H) from fun w' h =>
    ⟨(h.cell (p:=⟨w.heap.size,0,none⟩) (by show w.heap.size<_;omega)).trans k0,(h.cell (p:=⟨w.heap.size,1,none⟩) (by show w.heap.size<_;omega)).trans k1⟩)
  have hdrew:Below W3.heap.size W3 W3.drew:=(Below.refl _ _).drew
  have HMK:=hide hmk
  go_region_held3 (fun w'=>w'.cell? ⟨w.heap.size,0,none⟩=some (.int .i64 W)∧w'.cell? ⟨w.heap.size,1,none⟩=some (.int .i64 H))
    (first|(refine HS.out _ ?_;assumption)|(refine HS.out _ ?_;exact quJN (by assumption) (qUNz _ _))|go_keep)
    (fail)
  all_goals first
    | (show Exit.then _ _ _ _ ((W3.alloc (Obj.cells (madeCells #[.int .i64 0] N) 3)).alloc (Obj.cells #[.int .i64 W,.int .i64 H,.slice (some ⟨w.heap.size+3,0,none⟩) 0 N] 54)).drew
       have hVb:Below W3.heap.size W3 ((W3.alloc (Obj.cells (madeCells #[.int .i64 0] N) 3)).alloc (Obj.cells #[.int .i64 W,.int .i64 H,.slice (some ⟨w.heap.size+3,0,none⟩) 0 N] 54)).drew:=XpIb (quJN (qUNz _ _) (qUNz _ _))
       have vP:((W3.alloc (Obj.cells (madeCells #[.int .i64 0] N) 3)).alloc (Obj.cells #[.int .i64 W,.int .i64 H,.slice (some ⟨w.heap.size+3,0,none⟩) 0 N] 54)).drew.heap[w.heap.size+3+1]?=some (.cells #[.int .i64 W,.int .i64 H,.slice (some ⟨w.heap.size+3,0,none⟩) 0 N] 54 (0,0)):=by
         have h:=heap_alloc_new (W3.alloc (Obj.cells (madeCells #[.int .i64 0] N) 3)) (Obj.cells #[.int .i64 W,.int .i64 H,.slice (some ⟨w.heap.size+3,0,none⟩) 0 N] 54)
         rw[World.size_alloc,hs3] at h;exact h
       have vS:((W3.alloc (Obj.cells (madeCells #[.int .i64 0] N) 3)).alloc (Obj.cells #[.int .i64 W,.int .i64 H,.slice (some ⟨w.heap.size+3,0,none⟩) 0 N] 54)).drew.ownsRow w.heap.size 3 1 (.slice (some ⟨w.heap.size+3,0,none⟩) 0 N) 0 []:=by
         have h:=(World.ownsRow_made (base:=w.heap.size) (e:=3) (size:=1) W3 (madeCells #[.int .i64 0] N) N (by omega) (by unfold maxLen;omega) (by simp[madeCells])).alloc (Obj.cells #[.int .i64 W,.int .i64 H,.slice (some ⟨w.heap.size+3,0,none⟩) 0 N] 54)
         rw[hs3] at h;exact h
       have hPB:w.heap.size+2<w.heap.size+3+1:=by omega
       generalize ((W3.alloc (Obj.cells (madeCells #[.int .i64 0] N) 3)).alloc (Obj.cells #[.int .i64 W,.int .i64 H,.slice (some ⟨w.heap.size+3,0,none⟩) 0 N] 54)).drew=V at *
       generalize w.heap.size+3+1=PB at hPB vP ⊢
       generalize hSB:Value.slice (some ⟨w.heap.size+3,0,none⟩) 0 N=SV at *
       clear hSB)
    | (have hVb:Below W3.heap.size W3 ((W3.alloc (Obj.cells #[.int .i64 W,.int .i64 H,.slice (some ⟨w.heap.size+3+1,0,none⟩) 0 N] 54)).alloc (Obj.cells (madeCells #[.int .i64 0] N) 3)).drew:=XpIb (quJN (qUNz _ _) (qUNz _ _))
       have vP:((W3.alloc (Obj.cells #[.int .i64 W,.int .i64 H,.slice (some ⟨w.heap.size+3+1,0,none⟩) 0 N] 54)).alloc (Obj.cells (madeCells #[.int .i64 0] N) 3)).drew.heap[w.heap.size+3]?=some (.cells #[.int .i64 W,.int .i64 H,.slice (some ⟨w.heap.size+3+1,0,none⟩) 0 N] 54 (0,0)):=by
         have h:=heap_alloc_new W3 (Obj.cells #[.int .i64 W,.int .i64 H,.slice (some ⟨w.heap.size+3+1,0,none⟩) 0 N] 54)
         rw[hs3] at h
         exact (Below.heap_alloc _ _ _ (by simp;omega)).trans h
       have vS:((W3.alloc (Obj.cells #[.int .i64 W,.int .i64 H,.slice (some ⟨w.heap.size+3+1,0,none⟩) 0 N] 54)).alloc (Obj.cells (madeCells #[.int .i64 0] N) 3)).drew.ownsRow w.heap.size 3 1 (.slice (some ⟨w.heap.size+3+1,0,none⟩) 0 N) 0 []:=by
         have h:=World.ownsRow_made (base:=w.heap.size) (e:=3) (size:=1) (W3.alloc (Obj.cells #[.int .i64 W,.int .i64 H,.slice (some ⟨w.heap.size+3+1,0,none⟩) 0 N] 54)) (madeCells #[.int .i64 0] N) N (by simp;omega) (by unfold maxLen;omega) (by simp[madeCells])
         rw[World.size_alloc,hs3] at h;exact h
       have hPB:w.heap.size+2<w.heap.size+3:=by omega
       generalize ((W3.alloc (Obj.cells #[.int .i64 W,.int .i64 H,.slice (some ⟨w.heap.size+3+1,0,none⟩) 0 N] 54)).alloc (Obj.cells (madeCells #[.int .i64 0] N) 3)).drew=V at *
       generalize hSB:Value.slice (some ⟨w.heap.size+3+1,0,none⟩) 0 N=SV at *
       clear hSB
       generalize w.heap.size+3=PB at hPB vP ⊢)
  all_goals
    have k0:=(hVb.cell (p:=⟨w.heap.size,0,none⟩) (by show w.heap.size<_;omega)).trans k0
    have k1:=(hVb.cell (p:=⟨w.heap.size,1,none⟩) (by show w.heap.size<_;omega)).trans k1
    gi_wp2_with fail
    refine ⟨trivial,?_⟩
    refine (jIfE Fence.wide _ trivial rfl _ _ _).mono ?_
    rintro e w' ⟨rfl,rfl⟩
    gi_wp2_with fail
    have hsV:=hVb.size
    have hlP:=(Array.getElem?_eq_some_iff.1 vP).1
    have n0:=heap_alloc_new V (Obj.cells #[.int .i64 W,.int .i64 H] 95)
    have hs0:(V.alloc (Obj.cells #[.int .i64 W,.int .i64 H] 95)).heap.size=V.heap.size+1:=by simp
    have hB0:Below w.heap.size w (V.alloc (Obj.cells #[.int .i64 W,.int .i64 H] 95)):=quJN (quJN hB3 hVb) (qUNz _ _)
    have j0:(V.alloc (Obj.cells #[.int .i64 W,.int .i64 H] 95)).heap[PB]?=some (.cells #[.int .i64 W,.int .i64 H,SV] 54 (0,0)):=(Below.heap_alloc _ _ _ hlP).trans vP
    have j1:=vS.alloc (Obj.cells #[.int .i64 W,.int .i64 H] 95)
    have j2:(V.alloc (Obj.cells #[.int .i64 W,.int .i64 H] 95)).heap[w.heap.size+1]?=some (.cells #[.func (.func tf) #[] caps] 98 (0,0)):=by
      rw[Below.heap_alloc _ _ _ (by omega),hVb.block _ (by omega)];exact g1
    have j3:(V.alloc (Obj.cells #[.int .i64 W,.int .i64 H] 95)).heap[w.heap.size+2]?=some (.cells #[.int .i64 0,.int .i64 0,.slice none 0 0] 54 (0,0)):=by
      rw[Below.heap_alloc _ _ _ (by omega),hVb.block _ (by omega)];exact g2
    generalize V.alloc (Obj.cells #[.int .i64 W,.int .i64 H] 95)=W0 at *
    refine wpIn_rangeFunc_ownH (α:=Fin N) rfl (show 1≤3 by omega) (gf:=154) (lb:=#[.pointer (some ⟨V.heap.size,0,none⟩)]) rfl trivial (enters_of Tryz.func154 (by kernel_rfl) rfl)
      (joPr Fence.wide (3-1) trivial rfl (by omega) V.heap.size W H N hW hH HNHW.out W0 (by omega) (by rw[Lib.cell_of_heap n0];rfl) (by rw[Lib.cell_of_heap n0];rfl)) (fun {A B C} h k=>h.trans' k) (fun X l o o' hl _ _ _=>qMCQ (by omega)) (Below.refl _ _) (fun _=>rfl)
      (fun pre W'=>(∃v,W'.heap[PB]?=some (.cells #[.int .i64 W,.int .i64 H,v] 54 (0,0))∧W'.ownsRow w.heap.size 3 1 v pre.length ((pre.map fun (j:Fin N)=>T j.1).map (Value.int .i64)))∧W'.heap[w.heap.size+1]?=some (.cells #[.func (.func tf) #[] caps] 98 (0,0))∧W'.heap[w.heap.size+2]?=some (.cells #[.int .i64 0,.int .i64 0,.slice none 0 0] 54 (0,0))∧W'.heap[V.heap.size]?=some (.cells #[.int .i64 W,.int .i64 H] 95 (0,0))∧Below w.heap.size w W')
      (fun _ _ _=>False)
      (fun s X Y row ⟨⟨v,a1,a2⟩,a3,a4,a6,a5⟩ hg hr=>⟨⟨v,qLYA hg hr a1,jg0p hg hr a2⟩,qLYA hg hr a3,qLYA hg hr a4,qLYA hg hr a6,ownFrom_below (β:=Unit) (Nat.le_refl _) (by omega) () X Y row a5 hg hr⟩)
      (fun _ _ _ _ _ hs _ _=>hs)
      ⟨⟨_,j0,j1⟩,j2,j3,n0,hB0⟩
      (fun x a' W'=>∃Bx,W0.heap.size≤Bx∧W'.heap[Bx]?=some (.cells #[.int .i64 (x.1 % W:Nat),.int .i64 (x.1 / W:Nat)] 97 (0,0))∧a'={ tmps:=#[.agg #[.int .i64 W,.int .i64 H],.func (.func tf) #[] caps,.pointer (some ⟨w.heap.size,0,none⟩),.pointer (some ⟨w.heap.size+1,0,none⟩),.pointer (some ⟨w.heap.size+1+1,0,none⟩),.pointer (some ⟨PB,0,none⟩),.pointer (some ⟨Bx,0,none⟩),.pointer (some ⟨w.heap.size,0,none⟩),.int .i64 W,.pointer (some ⟨w.heap.size,1,none⟩),.int .i64 H,.pointer (some ⟨w.heap.size,0,none⟩),.int .i64 W,.pointer (some ⟨w.heap.size,1,none⟩),.int .i64 H,.int .i64 N,SV,.agg #[.int .i64 W,.int .i64 H,SV],.agg #[.int .i64 W,.int .i64 H],.func (.func 154) #[] #[.pointer (some ⟨V.heap.size,0,none⟩)],.agg #[.int .i64 (x.1 % W:Nat),.int .i64 (x.1 / W:Nat)],undef,undef,undef,undef,undef,undef,undef,undef,undef],defers:=[] })
      (fun x a' _ X Y row ⟨Bx,b1,b2,b3⟩ hg hr=>⟨Bx,b1,qLYA hg hr b2,b3⟩)
      ?assign ?body ?done ?stop
    case assign =>
      rintro l pre x W' K ⟨⟨v,i1,i2⟩,i3,i4,i6,i5⟩ hK
      have hl1:=(Array.getElem?_eq_some_iff.1 i1).1
      have hl3:=(Array.getElem?_eq_some_iff.1 i3).1
      have hl4:=(Array.getElem?_eq_some_iff.1 i4).1
      have hl6:=(Array.getElem?_eq_some_iff.1 i6).1
      gi_wp2
      exact hK _ _ ((KeepsOthers.alloc _ _).from _) (Below.heap_alloc _ _ _ hl6) ⟨⟨v,(Below.heap_alloc _ _ _ hl1).trans i1,i2.alloc _⟩,(Below.heap_alloc _ _ _ hl3).trans i3,(Below.heap_alloc _ _ _ hl4).trans i4,(Below.heap_alloc _ _ _ hl6).trans i6,i5.alloc i5.size _⟩ ⟨W'.heap.size,by omega,heap_alloc_new W' _,rfl⟩
    case body =>
      rintro l pre x a' W' hl ⟨r,hr⟩ ⟨⟨sv,i1,i2⟩,i3,i4,i6,i5⟩ ⟨Bx,hBx,bX,rfl⟩ hlt
      obtain ⟨so,scap,rfl⟩:=XPKi i2
      have p2:W'.cell? ⟨PB,2,none⟩=some (.slice so pre.length scap):=by rw[Lib.cell_of_heap i1];rfl
      have t0:W'.cell? ⟨w.heap.size+1,0,none⟩=some (.func (.func tf) #[] caps):=by rw[Lib.cell_of_heap i3];rfl
      have x0:W'.cell? ⟨Bx,0,none⟩=some (.int .i64 (x.1 % W:Nat)):=by rw[Lib.cell_of_heap bX];rfl
      have x1:W'.cell? ⟨Bx,1,none⟩=some (.int .i64 (x.1 / W:Nat)):=by rw[Lib.cell_of_heap bX];rfl
      have hmx:Tryz.prog.follows .mixedOrders=true:=by kernel_rfl
      have hlP:=(Array.getElem?_eq_some_iff.1 i1).1
      have hlT:=(Array.getElem?_eq_some_iff.1 i3).1
      have hlX:=(Array.getElem?_eq_some_iff.1 bX).1
      have hbW:w.heap.size≤W'.heap.size:=by omega
      have HL1:=hide (show pre.length+1≤maxLen by unfold maxLen;omega)
      have HL2:=hide (show (pre.length+1)*8≤140737488355328 by omega)
      have HS:=hide (show ∀v,Below W'.heap.size W' v→v.cell? ⟨w.heap.size+1,0,none⟩=some (.func (.func tf) #[] caps)∧v.cell? ⟨Bx,0,none⟩=some (.int .i64 (x.1 % W:Nat))∧v.cell? ⟨Bx,1,none⟩=some (.int .i64 (x.1 / W:Nat)) from fun v h =>
        ⟨(h.cell (p:=⟨w.heap.size+1,0,none⟩) hlT).trans t0,(h.cell (p:=⟨Bx,0,none⟩) hlX).trans x0,(h.cell (p:=⟨Bx,1,none⟩) hlX).trans x1⟩)
      have HP2:=hide (show ∀v,Below W'.heap.size W' v→v.cell? ⟨PB,2,none⟩=some (.slice so pre.length scap) from fun v h=>(h.cell (p:=⟨PB,2,none⟩) hlP).trans p2)
      have HTL:=hide (fun (V1:World) (g cap:Nat) (w1:World) (h1:Below W'.heap.size W' V1) (h2:(V1.alloc (Obj.cells #[.int .i64 (T x.1)] 3)).grownBy w1 (Value.slice so pre.length scap).ownBlock) (h3:w1.ownsRow (w.heap.size) 3 1 (.slice (some ⟨g,0,none⟩) (pre.length+1) cap) (pre.length+1) ((pre.map fun (j:Fin N)=>T j.1).map (Value.int .i64)++[.int .i64 (T x.1)]))=>XXqf (es:=#[.int .i64 (T x.1)]) (by decide) (by decide) (by decide) (by decide) (by decide) (by decide) (by decide) (B0:=W0.heap.size) (PB:=PB) i1 i2 i3 i4 i6 bX i5 (by omega) (by omega) (by omega) h1 h2 h3)
      have hWd:Below W'.heap.size W' W'.drew:=(Below.refl _ _).drew
      have HT:=hide (htell x.1 W'.drew x.2 i5.drew)
      gi_wp2_with fail
      have hSd:=HS.out _ hWd
      have p2:=HP2.out _ hWd
      refine jNnL (S:=fun v:World=>v.cell? ⟨w.heap.size+1,0,none⟩=some (.func (.func tf) #[] caps)∧v.cell? ⟨Bx,0,none⟩=some (.int .i64 (x.1 % W:Nat))∧v.cell? ⟨Bx,1,none⟩=some (.int .i64 (x.1 / W:Nat))) hmx ?nd ?no ?_
      case nd=>exact qU4N (by kernel_rfl)
      case no=>rintro ⟨_,_,h⟩;exact h
      show wpAnyH _ _ _ _ _ 9 _ _ W'.drew
      refine wpAnyH_take (i:=0) (oi:=_) (v:=.pointer (some ⟨PB,2,none⟩)) rfl (by kernel_rfl) (by kernel_rfl) (by kernel_rfl) (fun _ _ _ h=>h) (Or.inl ⟨by rfl,fun v hSv=>by obtain ⟨s2,s3,s4⟩:=hSv;go_simp⟩) hSd ?_
      simp only[Act.put]
      refine wpAnyH_take (i:=2) (oi:=_) (v:=.func (.func tf) #[] caps) rfl (by kernel_rfl) (by kernel_rfl) (by kernel_rfl) (fun _ _ _ h=>h) (Or.inl ⟨by rfl,fun v hSv=>by obtain ⟨s2,s3,s4⟩:=hSv;go_simp⟩) hSd ?_
      simp only[Act.put]
      refine wpAnyH_take (i:=3) (oi:=_) (v:=.agg #[.int .i64 (x.1 % W:Nat),.int .i64 (x.1 / W:Nat)]) rfl (by kernel_rfl) (by kernel_rfl) (by kernel_rfl) (fun _ _ _ h=>h) (Or.inl ⟨by rfl,fun v hSv=>by obtain ⟨s2,s3,s4⟩:=hSv;go_simp⟩) hSd ?_
      simp only[Act.put]
      refine wpAnyH_ready (rs:=[1,4]) (by kernel_rfl) (by simp) ?_
      refine AllReadyH.cons (o:=_) rfl (fun K hK=>?wA) (AllReadyH.cons (o:=_) rfl (fun K hK=>?wB) AllReadyH.nil)
      case wA =>
        rw[if_pos (by rfl)]
        go_simp
        refine hK.out _ _ hSd (fun _=>?_)
        clear hK
        refine wpAnyH_ready (rs:=[4]) (by kernel_rfl) (by simp) ?_
        refine AllReadyH.cons (o:=_) rfl (fun K hK=>?_) AllReadyH.nil
        rw[if_pos (by rfl)]
        go_simp
        refine HT.out.mono ?_
        rintro e V1 ⟨rfl,hb1⟩
        have hV1:Below W'.heap.size W' V1:=hWd.trans hb1
        have hSd:=HS.out _ hV1
        have p2:=HP2.out _ hV1
        refine hK.out _ _ hSd (fun _=>?_)
        clear hK
        refine wpAnyH_ready (rs:=[5]) (by kernel_rfl) (by simp) ?_
        refine AllReadyH.cons (o:=_) rfl (fun K hK=>?_) AllReadyH.nil
        rw[if_pos (by rfl)]
        go_simp
        have hV2:Below W'.heap.size W' (V1.alloc (Obj.cells #[.int .i64 (T x.1)] 3)):=hV1.trans ((qUNz _ _).mono hV1.size)
        have hSd:=HS.out _ hV2
        have p2:=HP2.out _ hV2
        refine hK.out _ _ hSd (fun _=>?_)
        clear hK
        have ho2:=((qw14 i2 hV1).alloc (Obj.cells #[.int .i64 (T x.1)] 3))
        refine wpAnyH_ready (rs:=[6]) (by kernel_rfl) (by simp) ?_
        refine AllReadyH.cons (o:=_) rfl (fun K hK=>?_) AllReadyH.nil
        refine step_append_lies _ rfl _ _ 52 rfl (w.heap.size) 3 i0 (.int .i64 0) 1 8 Tryz.underlying52 hi hz0 hz1 hz2 rfl Nat.one_pos (.slice so pre.length scap) pre.length ((pre.map fun (j:Fin N)=>T j.1).map (Value.int .i64)) rfl ho2 ⟨V1.heap.size,0,none⟩ 1 1 [.int .i64 (T x.1)] rfl rfl (fun j u hj=>by obtain ⟨rfl,rfl⟩:=X4yv hj;simp[Addr.add]) (fun u hu=>by simp at hu;subst hu;rfl) Nat.one_pos HL1.out HL2.out (Nat.le_trans hbW hV2.size) _ rfl ?_
        intro g cap w1 hown hgrow hat hltg
        obtain ⟨hSd,p2,p2f,HFIN⟩:=HTL.out V1 g cap w1 hV1 hgrow hown
        refine hK.out _ _ hSd (fun _=>?_)
        clear hK
        refine wpAnyH_ready (rs:=[7]) (by kernel_rfl) (by simp) ?_
        refine AllReadyH.cons (o:=_) rfl (fun K hK=>?_) AllReadyH.nil
        rw[if_pos (by rfl)]
        go_simp
        refine hK.out _ _ hSd (fun _=>?_)
        clear hK
        refine wpAnyH_ready (rs:=[8]) (by kernel_rfl) (by simp) ?_
        refine AllReadyH.cons (o:=_) rfl (fun K hK=>?_) AllReadyH.nil
        rw[if_pos (by rfl)]
        go_simp
        refine hK.out _ _ HFIN.1 (fun _=>?_)
        clear hK
        refine wpAnyH_done (by kernel_rfl) ?_ _
        obtain ⟨_,f1,f2,⟨v,f3,f4⟩,f5,f6,f7,f8⟩:=HFIN
        exact ⟨f1,f2,⟨v,f3,by rw[List.length_append,List.map_append,List.map_append];exact f4⟩,f5,f6,f7,f8⟩
      case wB =>
        rw[if_pos (by rfl)]
        go_simp
        refine HT.out.mono ?_
        rintro e V1 ⟨rfl,hb1⟩
        have hV1:Below W'.heap.size W' V1:=hWd.trans hb1
        have hSd:=HS.out _ hV1
        have p2:=HP2.out _ hV1
        refine hK.out _ _ hSd (fun _=>?_)
        clear hK
        refine wpAnyH_ready (rs:=[1,5]) (by kernel_rfl) (by simp) ?_
        refine AllReadyH.cons (o:=_) rfl (fun K hK=>?wC) (AllReadyH.cons (o:=_) rfl (fun K hK=>?wD) AllReadyH.nil)
        case wC =>
          rw[if_pos (by rfl)]
          go_simp
          refine hK.out _ _ hSd (fun _=>?_)
          clear hK
          refine wpAnyH_ready (rs:=[5]) (by kernel_rfl) (by simp) ?_
          refine AllReadyH.cons (o:=_) rfl (fun K hK=>?_) AllReadyH.nil
          rw[if_pos (by rfl)]
          go_simp
          have hV2:Below W'.heap.size W' (V1.alloc (Obj.cells #[.int .i64 (T x.1)] 3)):=hV1.trans ((qUNz _ _).mono hV1.size)
          have hSd:=HS.out _ hV2
          have p2:=HP2.out _ hV2
          refine hK.out _ _ hSd (fun _=>?_)
          clear hK
          have ho2:=((qw14 i2 hV1).alloc (Obj.cells #[.int .i64 (T x.1)] 3))
          refine wpAnyH_ready (rs:=[6]) (by kernel_rfl) (by simp) ?_
          refine AllReadyH.cons (o:=_) rfl (fun K hK=>?_) AllReadyH.nil
          refine step_append_lies _ rfl _ _ 52 rfl (w.heap.size) 3 i0 (.int .i64 0) 1 8 Tryz.underlying52 hi hz0 hz1 hz2 rfl Nat.one_pos (.slice so pre.length scap) pre.length ((pre.map fun (j:Fin N)=>T j.1).map (Value.int .i64)) rfl ho2 ⟨V1.heap.size,0,none⟩ 1 1 [.int .i64 (T x.1)] rfl rfl (fun j u hj=>by obtain ⟨rfl,rfl⟩:=X4yv hj;simp[Addr.add]) (fun u hu=>by simp at hu;subst hu;rfl) Nat.one_pos HL1.out HL2.out (Nat.le_trans hbW hV2.size) _ rfl ?_
          intro g cap w1 hown hgrow hat hltg
          obtain ⟨hSd,p2,p2f,HFIN⟩:=HTL.out V1 g cap w1 hV1 hgrow hown
          refine hK.out _ _ hSd (fun _=>?_)
          clear hK
          refine wpAnyH_ready (rs:=[7]) (by kernel_rfl) (by simp) ?_
          refine AllReadyH.cons (o:=_) rfl (fun K hK=>?_) AllReadyH.nil
          rw[if_pos (by rfl)]
          go_simp
          refine hK.out _ _ hSd (fun _=>?_)
          clear hK
          refine wpAnyH_ready (rs:=[8]) (by kernel_rfl) (by simp) ?_
          refine AllReadyH.cons (o:=_) rfl (fun K hK=>?_) AllReadyH.nil
          rw[if_pos (by rfl)]
          go_simp
          refine hK.out _ _ HFIN.1 (fun _=>?_)
          clear hK
          refine wpAnyH_done (by kernel_rfl) ?_ _
          obtain ⟨_,f1,f2,⟨v,f3,f4⟩,f5,f6,f7,f8⟩:=HFIN
          exact ⟨f1,f2,⟨v,f3,by rw[List.length_append,List.map_append,List.map_append];exact f4⟩,f5,f6,f7,f8⟩
        case wD =>
          rw[if_pos (by rfl)]
          go_simp
          have hV2:Below W'.heap.size W' (V1.alloc (Obj.cells #[.int .i64 (T x.1)] 3)):=hV1.trans ((qUNz _ _).mono hV1.size)
          have hSd:=HS.out _ hV2
          have p2:=HP2.out _ hV2
          refine hK.out _ _ hSd (fun _=>?_)
          clear hK
          refine wpAnyH_ready (rs:=[1]) (by kernel_rfl) (by simp) ?_
          refine AllReadyH.cons (o:=_) rfl (fun K hK=>?_) AllReadyH.nil
          rw[if_pos (by rfl)]
          go_simp
          refine hK.out _ _ hSd (fun _=>?_)
          clear hK
          have ho2:=((qw14 i2 hV1).alloc (Obj.cells #[.int .i64 (T x.1)] 3))
          refine wpAnyH_ready (rs:=[6]) (by kernel_rfl) (by simp) ?_
          refine AllReadyH.cons (o:=_) rfl (fun K hK=>?_) AllReadyH.nil
          refine step_append_lies _ rfl _ _ 52 rfl (w.heap.size) 3 i0 (.int .i64 0) 1 8 Tryz.underlying52 hi hz0 hz1 hz2 rfl Nat.one_pos (.slice so pre.length scap) pre.length ((pre.map fun (j:Fin N)=>T j.1).map (Value.int .i64)) rfl ho2 ⟨V1.heap.size,0,none⟩ 1 1 [.int .i64 (T x.1)] rfl rfl (fun j u hj=>by obtain ⟨rfl,rfl⟩:=X4yv hj;simp[Addr.add]) (fun u hu=>by simp at hu;subst hu;rfl) Nat.one_pos HL1.out HL2.out (Nat.le_trans hbW hV2.size) _ rfl ?_
          intro g cap w1 hown hgrow hat hltg
          obtain ⟨hSd,p2,p2f,HFIN⟩:=HTL.out V1 g cap w1 hV1 hgrow hown
          refine hK.out _ _ hSd (fun _=>?_)
          clear hK
          refine wpAnyH_ready (rs:=[7]) (by kernel_rfl) (by simp) ?_
          refine AllReadyH.cons (o:=_) rfl (fun K hK=>?_) AllReadyH.nil
          rw[if_pos (by rfl)]
          go_simp
          refine hK.out _ _ hSd (fun _=>?_)
          clear hK
          refine wpAnyH_ready (rs:=[8]) (by kernel_rfl) (by simp) ?_
          refine AllReadyH.cons (o:=_) rfl (fun K hK=>?_) AllReadyH.nil
          rw[if_pos (by rfl)]
          go_simp
          refine hK.out _ _ HFIN.1 (fun _=>?_)
          clear hK
          refine wpAnyH_done (by kernel_rfl) ?_ _
          obtain ⟨_,f1,f2,⟨v,f3,f4⟩,f5,f6,f7,f8⟩:=HFIN
          exact ⟨f1,f2,⟨v,f3,by rw[List.length_append,List.map_append,List.map_append];exact f4⟩,f5,f6,f7,f8⟩
    case done =>
      rintro D ys W' hD rfl ⟨⟨v,i1,i2⟩,i3,i4,i6,i5⟩ hK
      have p0:W'.cell? ⟨PB,0,none⟩=some (.int .i64 W):=by rw[Lib.cell_of_heap i1];rfl
      have p1:W'.cell? ⟨PB,1,none⟩=some (.int .i64 H):=by rw[Lib.cell_of_heap i1];rfl
      have p2:W'.cell? ⟨PB,2,none⟩=some v:=by rw[Lib.cell_of_heap i1];rfl
      have r0:W'.cell? ⟨w.heap.size+1+1,0,none⟩=some (.int .i64 0):=by rw[Lib.cell_of_heap i4];rfl
      have r1:W'.cell? ⟨w.heap.size+1+1,1,none⟩=some (.int .i64 0):=by rw[Lib.cell_of_heap i4];rfl
      have r2:W'.cell? ⟨w.heap.size+1+1,2,none⟩=some (.slice none 0 0):=by rw[Lib.cell_of_heap i4];rfl
      have f0:W'.frozen? ⟨w.heap.size+1+1,0,none⟩=false:=Lib.frozen_of_heap i4 0
      have f1:W'.frozen? ⟨w.heap.size+1+1,1,none⟩=false:=Lib.frozen_of_heap i4 1
      have f2:W'.frozen? ⟨w.heap.size+1+1,2,none⟩=false:=Lib.frozen_of_heap i4 2
      obtain ⟨ao,cap,rfl⟩:=XPKi i2
      gi_wp2
      obtain ⟨x1,x2,x3,x4⟩:=X0Wz i4 (.int .i64 W) (.int .i64 H) (.slice ao (List.finRange N).length cap) w (by omega) i5
      have i2':=jNsf x2 (qYYy i2 i4 (by decide)) i2
      have hDr:D≠w.heap.size+2:=fun e=>by rw[e,i4] at hK;cases hK
      replace hK:=(x2 D hDr).trans hK
      simp only[List.length_finRange] at x1 x2 x3 x4 i2' hK
      generalize ((W'.setCell ⟨w.heap.size+1+1,0,none⟩ (.int .i64 W)).setCell ⟨w.heap.size+1+1,1,none⟩ (.int .i64 H)).setCell ⟨w.heap.size+1+1,2,none⟩ (.slice ao N cap)=X at *
      refine ⟨by simp,.inl ⟨_,_,rfl,run_takeDeferred hK,?_⟩⟩
      have y1:=(World.putObj_heap_other (w:=X) (o:=.deferred none) (Ne.symm hDr)).trans x1
      have y2:=ownsRow_putObj i2' (.deferred none) hK rfl
      have y3:Below w.heap.size w (X.putObj D (.deferred none)):=x4.trans (belowK_b (w:=w) (Nat.le_refl _) X D _ _ (by omega) hK rfl rfl)
      have c0:(X.putObj D (.deferred none)).cell? ⟨w.heap.size+1+1,0,none⟩=some (.int .i64 W):=by rw[Lib.cell_of_heap y1];rfl
      have c1:(X.putObj D (.deferred none)).cell? ⟨w.heap.size+1+1,1,none⟩=some (.int .i64 H):=by rw[Lib.cell_of_heap y1];rfl
      have c2:(X.putObj D (.deferred none)).cell? ⟨w.heap.size+1+1,2,none⟩=some (.slice ao N cap):=by rw[Lib.cell_of_heap y1];rfl
      generalize X.putObj D (.deferred none)=Z at *
      refine ⟨.agg #[.int .i64 W,.int .i64 H,.slice ao N cap],by simp[results,Tryz.results255,go_sem,c0,c1,c2],.slice ao N cap,rfl,?_,y3,Fresh.own (by simpa using y2)⟩
      rw[←zhtE N T]
      exact jCvT.own (base:=w.heap.size) (by simpa using y2) (by simp;omega)
    case stop=>rintro D c pre W' _ _ h _;exact h.elim
end Go.Proofs.YtfjeonehdlphiaaGreatDoor
