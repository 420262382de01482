/- Sh: part 4 of what the proofs need. -/
import Derived.Test.YtfjeonehdlphiaaGreatDoorC1Sh
import Derived.Test.YtfjeonehdlphiaaGreatDoorC2Sh
import Derived.Test.YtfjeonehdlphiaaGreatDoorC3Sh
import Derived.Maps.OwnSet
import Derived.Maps.OwnOps
import Derived.WideKeyEntry
import Derived.DeepKeys4
import Derived.Carry
import Derived.Laws.EntriesVeiled
import Derived.Laws.CopyOwn
namespace Go.Proofs.YtfjeonehdlphiaaGreatDoor
set_option linter.unusedVariables false
open Go.RowKit Go.Shelf
attribute [local go_sem] Oper.semAt_some
def mStep {N:Nat} (zs:List Int) (W H:Nat) (px py:Fin N→Int) (cnt:Fin N→Bool) (s:Int×Nat) (x:Fin N):Int×Nat :=
 if hasB W H (px x) (py x)=true∧cnt x=true then (s.1+zAt zs ((py x).toNat*W+(px x).toNat),s.2+1) else s
def mF {N:Nat} (zs:List Int) (W H:Nat) (px py:Fin N→Int) (cnt:Fin N→Bool) (pre:List (Fin N)):Int×Nat:=pre.foldl (mStep zs W H px py cnt) (0,0)
theorem zkIF {N:Nat} (zs:List Int) (W H:Nat) (px py:Fin N→Int) (cnt:Fin N→Bool) (pre:List (Fin N)) (x:Fin N):mF zs W H px py cnt (pre++[x])=mStep zs W H px py cnt (mF zs W H px py cnt pre) x:=by simp[mF]
theorem zVKI {N:Nat} {zs:List Int} (h:allIn 0 65535 zs=true) (W H:Nat) (px py:Fin N→Int) (cnt:Fin N→Bool) (pre:List (Fin N)) (s:Int×Nat) (n:Nat) (h1:0≤s.1) (h2:s.1≤s.2*65535) (h3:s.2≤n) :
  0≤(pre.foldl (mStep zs W H px py cnt) s).1∧(pre.foldl (mStep zs W H px py cnt) s).1≤(pre.foldl (mStep zs W H px py cnt) s).2*65535∧(pre.foldl (mStep zs W H px py cnt) s).2≤n+pre.length:=by
 induction pre generalizing s n with
 | nil=>exact ⟨h1,h2,h3⟩
 | cons x pre ih =>
  simp only[List.foldl_cons,List.length_cons]
  have hz:=XWrv h ((py x).toNat*W+(px x).toNat)
  have hs:0≤(mStep zs W H px py cnt s x).1∧(mStep zs W H px py cnt s x).1≤(mStep zs W H px py cnt s x).2*65535∧(mStep zs W H px py cnt s x).2≤n+1:=by
   unfold mStep
   split
   ·refine ⟨?_,?_,?_⟩
    ·show 0≤s.1+zAt zs ((py x).toNat*W+(px x).toNat);omega
    ·show s.1+zAt zs ((py x).toNat*W+(px x).toNat)≤((s.2+1:Nat):Int)*65535;omega
    ·show s.2+1≤n+1;omega
   ·exact ⟨h1,h2,by omega⟩
  have:=ih (mStep zs W H px py cnt s x) (n+1) hs.1 hs.2.1 hs.2.2
  refine ⟨this.1,this.2.1,by omega⟩
def meanV {N:Nat} (zs:List Int) (W H:Nat) (px py:Fin N→Int) (cnt:Fin N→Bool):Int :=
 if (mF zs W H px py cnt (List.finRange N)).2=0 then 0 else (mF zs W H px py cnt (List.finRange N)).1 / ((mF zs W H px py cnt (List.finRange N)).2:Int)
set_option maxRecDepth 100000 in
set_option maxHeartbeats 4000000 in
theorem qkM9 (N W H bk off ca:Nat) (hN:N≤8) (hW1:1≤W) (hW:W≤64) (hH1:1≤H) (hH:H≤64) (zs:List Int) (hlen:zs.length=H*W) (hzs:allIn 0 65535 zs=true) (gf cf Bs:Nat) (lb caps:Array Value) (px py:Fin N→Int) (cnt:Fin N→Bool) (w:World)
  (egg:∀args w,(callFunc gf args).run Tryz.prog w=.ok (.enter gf args) w) (egc:∀args w,(callFunc cf args).run Tryz.prog w=.ok (.enter cf args) w) (hBs:Bs<w.heap.size)
  (hbk:bk<w.heap.size) (hcell:∀j,j<zs.length→w.cell? ⟨bk,off+j,none⟩=some (.int .i64 (zAt zs j)))
  (hseq:∀V,Below w.heap.size w V→SeqStopsK Fence.wide (3-1) Tryz.prog gf lb (fun x:Fin N=>#[Value.agg #[.int .i64 (px x),.int .i64 (py x)]]) (KeepB Bs) (fun ys=>ys=List.finRange N) (fun pre=>pre <+: List.finRange N) N V)
  (hcnt:∀(x:Fin N) (V:World),hasB W H (px x) (py x)=true→Below w.heap.size w V→Calls Tryz.prog cf (#[.agg #[.int .i64 (px x),.int .i64 (py x)]]++caps) V fun e V'=>e=.returned (.bool (cnt x))∧Below V.heap.size V V') :
  Calls Tryz.prog 127 #[.agg #[.int .i64 W,.int .i64 H,.slice (some ⟨bk,off,none⟩) zs.length ca],.func (.func gf) #[] lb,.func (.func cf) #[] caps] w fun e w'=>e=.returned (.int .i64 (meanV zs W H px py cnt))∧Below w.heap.size w w':=by
 have hl4:zs.length≤4096:=by rw[hlen];exact Nat.le_trans (Nat.mul_le_mul hH hW) (by decide)
 have HLEN:=hide hlen
 have HZS:=hide hzs
 have HC:=hide hcell
 have HSEQ:=hide hseq
 have HCNT:=hide hcnt
 clear hlen hzs hcell hseq hcnt
 refine (callsIn_wide (n:=3)).1 ?_
 refine callsIn_of_wp_marks Tryz.func127 rfl trivial ?_ rfl
 simp only[Tryz.ntmps127,List.size_toArray,List.length_cons,List.length_nil,Nat.reduceAdd,Nat.reduceSub,Array.replicate_succ,Array.replicate_zero,List.push_toArray,List.append_toArray,List.nil_append,List.cons_append]
 gi_wp2_with fail
 obtain ⟨a1,a2,a3,a4⟩:=al4 w (Obj.cells #[.int .i64 W,.int .i64 H,.slice (some ⟨bk,off,none⟩) zs.length ca] 54) (Obj.cells #[.func (.func cf) #[] caps] 176) (Obj.cells #[.int .i64 W,.int .i64 H] 95) (Obj.cells #[.int .i64 0] 3)
 have hB4:=be4 w (Obj.cells #[.int .i64 W,.int .i64 H,.slice (some ⟨bk,off,none⟩) zs.length ca] 54) (Obj.cells #[.func (.func cf) #[] caps] 176) (Obj.cells #[.int .i64 W,.int .i64 H] 95) (Obj.cells #[.int .i64 0] 3)
 have hs4:((((w.alloc (Obj.cells #[.int .i64 W,.int .i64 H,.slice (some ⟨bk,off,none⟩) zs.length ca] 54)).alloc (Obj.cells #[.func (.func cf) #[] caps] 176)).alloc (Obj.cells #[.int .i64 W,.int .i64 H] 95)).alloc (Obj.cells #[.int .i64 0] 3)).heap.size=w.heap.size+4:=by simp
 generalize (((w.alloc (Obj.cells #[.int .i64 W,.int .i64 H,.slice (some ⟨bk,off,none⟩) zs.length ca] 54)).alloc (Obj.cells #[.func (.func cf) #[] caps] 176)).alloc (Obj.cells #[.int .i64 W,.int .i64 H] 95)).alloc (Obj.cells #[.int .i64 0] 3)=U4 at *
 have b1:=(Below.heap_alloc U4 (Obj.cells #[.int .i64 0] 3) w.heap.size (by omega)).trans a1
 have b2:=(Below.heap_alloc U4 (Obj.cells #[.int .i64 0] 3) (w.heap.size+1) (by omega)).trans a2
 have b3:=(Below.heap_alloc U4 (Obj.cells #[.int .i64 0] 3) (w.heap.size+2) (by omega)).trans a3
 have b4:=(Below.heap_alloc U4 (Obj.cells #[.int .i64 0] 3) (w.heap.size+3) (by omega)).trans a4
 have b5:(U4.alloc (Obj.cells #[.int .i64 0] 3)).heap[w.heap.size+4]?=some (Obj.cells #[.int .i64 0] 3):=by have h:=al1 U4 (Obj.cells #[.int .i64 0] 3);rw[hs4] at h;exact h
 have hB0:=quJN hB4 (qUNz U4 (Obj.cells #[.int .i64 0] 3))
 have hs0:w.heap.size+5≤(U4.alloc (Obj.cells #[.int .i64 0] 3)).heap.size:=by simp;omega
 clear a1 a2 a3 a4 hB4 hs4
 generalize U4.alloc (Obj.cells #[.int .i64 0] 3)=W0 at *
 refine wpIn_rangeFunc_ownH (α:=Fin N) rfl (show 1≤3 by omega) (gf:=gf) (lb:=lb) rfl trivial egg
  (HSEQ.out W0 hB0) (fun {A B C} h k=>h.trans' k) (fun X l o o' hl _ _ _=>qMCQ (by omega)) (Below.refl _ _) (fun _=>rfl)
  (fun pre W'=>W'.heap[w.heap.size+3]?=some (.cells #[.int .i64 (mF zs W H px py cnt pre).1] 3 (0,0))∧W'.heap[w.heap.size+4]?=some (.cells #[.int .i64 ((mF zs W H px py cnt pre).2:Nat)] 3 (0,0))∧W'.heap[w.heap.size]?=some (.cells #[.int .i64 W,.int .i64 H,.slice (some ⟨bk,off,none⟩) zs.length ca] 54 (0,0))∧W'.heap[w.heap.size+1]?=some (.cells #[.func (.func cf) #[] caps] 176 (0,0))∧W'.heap[w.heap.size+2]?=some (.cells #[.int .i64 W,.int .i64 H] 95 (0,0))∧Below w.heap.size w W')
  (fun _ _ _=>False)
  (fun s X Y row ⟨c1,c2,c3,c4,c5,c6⟩ hg hr=>⟨qLYA hg hr c1,qLYA hg hr c2,qLYA hg hr c3,qLYA hg hr c4,qLYA hg hr c5,ownFrom_below (β:=Unit) (Nat.le_refl _) (by omega) () X Y row c6 hg hr⟩)
  (fun _ _ _ _ _ hs _ _=>hs)
  ⟨b4,b5,b1,b2,b3,hB0⟩
  (fun x a' W'=>∃Bx,w.heap.size+5≤Bx∧W'.heap[Bx]?=some (.cells #[.int .i64 (px x),.int .i64 (py x)] 97 (0,0))∧a'={ tmps:=#[.agg #[.int .i64 W,.int .i64 H,.slice (some ⟨bk,off,none⟩) zs.length ca],.func (.func gf) #[] lb,.func (.func cf) #[] caps,.pointer (some ⟨w.heap.size,0,none⟩),undef,.pointer (some ⟨w.heap.size+1,0,none⟩),.int .i64 0,.pointer (some ⟨w.heap.size+1+1,0,none⟩),.pointer (some ⟨w.heap.size+1+1+1,0,none⟩),.pointer (some ⟨w.heap.size+1+1+1+1,0,none⟩),.pointer (some ⟨Bx,0,none⟩),.pointer (some ⟨w.heap.size,0,none⟩),.int .i64 W,.pointer (some ⟨w.heap.size,1,none⟩),.int .i64 H,.agg #[.int .i64 W,.int .i64 H],.func (.func gf) #[] lb,.agg #[.int .i64 (px x),.int .i64 (py x)],undef,undef,undef,undef,undef,undef,undef,undef,undef,undef,undef,undef,undef,undef,undef,undef,undef,undef,undef,undef,undef,undef,undef,undef],defers:=[] })
  (fun x a' _ X Y row ⟨Bx,c1,c2,c3⟩ hg hr=>⟨Bx,c1,qLYA hg hr c2,c3⟩)
  ?assign ?body ?done ?stop
 case assign =>
  rintro l pre x W' K ⟨i1,i2,i3,i4,i5,i6⟩ hK
  have hl1:=(Array.getElem?_eq_some_iff.1 i1).1
  have hl2:=(Array.getElem?_eq_some_iff.1 i2).1
  have hl3:=(Array.getElem?_eq_some_iff.1 i3).1
  have hl4:=(Array.getElem?_eq_some_iff.1 i4).1
  have hl5:=(Array.getElem?_eq_some_iff.1 i5).1
  have hl6:=i6.size
  gi_wp2
  exact hK _ _ ((KeepsOthers.alloc _ _).from _) (Below.heap_alloc _ _ _ (by omega)) ⟨(Below.heap_alloc _ _ _ hl1).trans i1,(Below.heap_alloc _ _ _ hl2).trans i2,(Below.heap_alloc _ _ _ hl3).trans i3,(Below.heap_alloc _ _ _ hl4).trans i4,(Below.heap_alloc _ _ _ hl5).trans i5,i6.alloc hl6 _⟩ ⟨W'.heap.size,by omega,al1 W' _,rfl⟩
 case body =>
  rintro l pre x a' W' hl ⟨rr,hrr⟩ ⟨i1,i2,i3,i4,i5,i6⟩ ⟨Bx,hBx,bX,rfl⟩ hlt
  have HSN:=hide (zkIF zs W H px py cnt pre x)
  have hr:0≤(mF zs W H px py cnt pre).1∧(mF zs W H px py cnt pre).1≤(mF zs W H px py cnt pre).2*65535∧(mF zs W H px py cnt pre).2≤0+pre.length:=zVKI HZS.out W H px py cnt pre (0,0) 0 (Int.le_refl _) (by decide) (Nat.le_refl _)
  obtain ⟨⟨sm,nn⟩,hsn⟩:∃t,mF zs W H px py cnt pre=t:=⟨_,rfl⟩
  rw[hsn] at i1 i2 HSN hr
  obtain ⟨hr1,hr2,hr3⟩:=hr
  simp only at hr1 hr2 hr3 i1 i2
  clear hsn
  have HCN:=hide (fun V h1 h2=>HCNT.out x V h1 h2)
  have HMS:=hide (show mStep zs W H px py cnt (sm,nn) x=if hasB W H (px x) (py x)=true∧cnt x=true then (sm+zAt zs ((py x).toNat*W+(px x).toNat),nn+1) else (sm,nn) from rfl)
  obtain ⟨xa,hxa⟩:∃xa,px x=xa:=⟨_,rfl⟩
  obtain ⟨yb,hyb⟩:∃yb,py x=yb:=⟨_,rfl⟩
  obtain ⟨cx,hcx⟩:∃cx,cnt x=cx:=⟨_,rfl⟩
  rw[hxa,hyb] at bX ⊢
  rw[hxa,hyb,hcx] at HCN HMS
  clear hxa hyb hcx
  have hl1:=(Array.getElem?_eq_some_iff.1 i1).1
  have hl2:=(Array.getElem?_eq_some_iff.1 i2).1
  have hl3:=(Array.getElem?_eq_some_iff.1 i3).1
  have hl4:=(Array.getElem?_eq_some_iff.1 i4).1
  have hl5:=(Array.getElem?_eq_some_iff.1 i5).1
  have hlX:=(Array.getElem?_eq_some_iff.1 bX).1
  have hsz:=i6.size
  have g0:W'.cell? ⟨w.heap.size+1+1,0,none⟩=some (.int .i64 W):=by rw[Lib.cell_of_heap (b:=w.heap.size+1+1) i5];rfl
  have g1:W'.cell? ⟨w.heap.size+1+1,1,none⟩=some (.int .i64 H):=by rw[Lib.cell_of_heap (b:=w.heap.size+1+1) i5];rfl
  have x0:W'.cell? ⟨Bx,0,none⟩=some (.int .i64 xa):=by rw[Lib.cell_of_heap bX];rfl
  have x1:W'.cell? ⟨Bx,1,none⟩=some (.int .i64 yb):=by rw[Lib.cell_of_heap bX];rfl
  have HEND0:=hide (show ∀V,Below W'.heap.size W' V→mF zs W H px py cnt (pre++[x])=(sm,nn)→KeepsFrom W0.heap.size W' V∧KeepB Bs W' V∧(V.heap[w.heap.size+3]?=some (.cells #[.int .i64 (mF zs W H px py cnt (pre++[x])).1] 3 (0,0))∧V.heap[w.heap.size+4]?=some (.cells #[.int .i64 ((mF zs W H px py cnt (pre++[x])).2:Nat)] 3 (0,0))∧V.heap[w.heap.size]?=some (.cells #[.int .i64 W,.int .i64 H,.slice (some ⟨bk,off,none⟩) zs.length ca] 54 (0,0))∧V.heap[w.heap.size+1]?=some (.cells #[.func (.func cf) #[] caps] 176 (0,0))∧V.heap[w.heap.size+2]?=some (.cells #[.int .i64 W,.int .i64 H] 95 (0,0))∧Below w.heap.size w V) from fun V h hm=>by
   rw[hm]
   exact ⟨⟨h.size,fun k o _ hk _=>(h.block k (Array.getElem?_eq_some_iff.1 hk).1).trans hk⟩,h.block Bs (by omega),(h.block _ hl1).trans i1,(h.block _ hl2).trans i2,(h.block _ hl3).trans i3,(h.block _ hl4).trans i4,(h.block _ hl5).trans i5,i6.trans (h.mono hsz)⟩)
  have HEND1:=hide (show ∀V (z:Int),Below W'.heap.size W' V→mF zs W H px py cnt (pre++[x])=(sm+z,nn+1)→KeepsFrom W0.heap.size W' ((V.setCell ⟨w.heap.size+1+1+1,0,none⟩ (.int .i64 (sm+z))).setCell ⟨w.heap.size+1+1+1+1,0,none⟩ (.int .i64 ((nn+1:Nat):Int)))∧KeepB Bs W' ((V.setCell ⟨w.heap.size+1+1+1,0,none⟩ (.int .i64 (sm+z))).setCell ⟨w.heap.size+1+1+1+1,0,none⟩ (.int .i64 ((nn+1:Nat):Int)))∧(((V.setCell ⟨w.heap.size+1+1+1,0,none⟩ (.int .i64 (sm+z))).setCell ⟨w.heap.size+1+1+1+1,0,none⟩ (.int .i64 ((nn+1:Nat):Int))).heap[w.heap.size+3]?=some (.cells #[.int .i64 (mF zs W H px py cnt (pre++[x])).1] 3 (0,0))∧((V.setCell ⟨w.heap.size+1+1+1,0,none⟩ (.int .i64 (sm+z))).setCell ⟨w.heap.size+1+1+1+1,0,none⟩ (.int .i64 ((nn+1:Nat):Int))).heap[w.heap.size+4]?=some (.cells #[.int .i64 ((mF zs W H px py cnt (pre++[x])).2:Nat)] 3 (0,0))∧((V.setCell ⟨w.heap.size+1+1+1,0,none⟩ (.int .i64 (sm+z))).setCell ⟨w.heap.size+1+1+1+1,0,none⟩ (.int .i64 ((nn+1:Nat):Int))).heap[w.heap.size]?=some (.cells #[.int .i64 W,.int .i64 H,.slice (some ⟨bk,off,none⟩) zs.length ca] 54 (0,0))∧((V.setCell ⟨w.heap.size+1+1+1,0,none⟩ (.int .i64 (sm+z))).setCell ⟨w.heap.size+1+1+1+1,0,none⟩ (.int .i64 ((nn+1:Nat):Int))).heap[w.heap.size+1]?=some (.cells #[.func (.func cf) #[] caps] 176 (0,0))∧((V.setCell ⟨w.heap.size+1+1+1,0,none⟩ (.int .i64 (sm+z))).setCell ⟨w.heap.size+1+1+1+1,0,none⟩ (.int .i64 ((nn+1:Nat):Int))).heap[w.heap.size+2]?=some (.cells #[.int .i64 W,.int .i64 H] 95 (0,0))∧Below w.heap.size w ((V.setCell ⟨w.heap.size+1+1+1,0,none⟩ (.int .i64 (sm+z))).setCell ⟨w.heap.size+1+1+1+1,0,none⟩ (.int .i64 ((nn+1:Nat):Int)))) from fun V z h hm=>by
   rw[hm]
   have k3:=(h.block _ hl1).trans i1
   have k4:=(h.block _ hl2).trans i2
   have h3:=heap_setCell_same V (w.heap.size+3) 0 _ _ (.int .i64 (sm+z)) k3
   have o3:∀b,b≠w.heap.size+3→(V.setCell ⟨w.heap.size+3,0,none⟩ (.int .i64 (sm+z))).heap[b]?=V.heap[b]?:=fun b hb=>Below.heap_setCell _ _ _ _ hb
   have k4':=(o3 (w.heap.size+4) (by omega)).trans k4
   have h4:=heap_setCell_same (V.setCell ⟨w.heap.size+3,0,none⟩ (.int .i64 (sm+z))) (w.heap.size+4) 0 _ _ (.int .i64 ((nn+1:Nat):Int)) k4'
   have o4:∀b,b≠w.heap.size+4→((V.setCell ⟨w.heap.size+3,0,none⟩ (.int .i64 (sm+z))).setCell ⟨w.heap.size+4,0,none⟩ (.int .i64 ((nn+1:Nat):Int))).heap[b]?=(V.setCell ⟨w.heap.size+3,0,none⟩ (.int .i64 (sm+z))).heap[b]?:=fun b hb=>Below.heap_setCell _ _ _ _ hb
   have oo:∀b,b≠w.heap.size+3→b≠w.heap.size+4→b<W'.heap.size→((V.setCell ⟨w.heap.size+3,0,none⟩ (.int .i64 (sm+z))).setCell ⟨w.heap.size+4,0,none⟩ (.int .i64 ((nn+1:Nat):Int))).heap[b]?=W'.heap[b]?:=fun b h1 h2 h5=>(o4 b h2).trans ((o3 b h1).trans (h.block b h5))
   refine ⟨⟨?_,fun k o hkB hk hoc=>?_⟩,oo Bs (by omega) (by omega) (by omega),?_,?_,(oo _ (by omega) (by omega) hl3).trans i3,(oo _ (by omega) (by omega) hl4).trans i4,(oo _ (by omega) (by omega) hl5).trans i5,?_⟩
   ·have:=h.size;simpa [World.setCell] using this
   ·exact (oo k (by omega) (by omega) (Array.getElem?_eq_some_iff.1 hk).1).trans hk
   ·exact (o4 _ (by omega)).trans (by rw[h3];rfl)
   ·show ((V.setCell ⟨w.heap.size+3,0,none⟩ (.int .i64 (sm+z))).setCell ⟨w.heap.size+4,0,none⟩ (.int .i64 ((nn+1:Nat):Int))).heap[w.heap.size+4]?=_
    rw[h4];rfl
   ·exact ((i6.trans (h.mono hsz)).setCell (p:=⟨w.heap.size+3,0,none⟩) (by show w.heap.size≤w.heap.size+3;omega) _).setCell (p:=⟨w.heap.size+4,0,none⟩) (by show w.heap.size≤w.heap.size+4;omega) _)
  gi_wp2_with fail
  refine ⟨trivial,?_⟩
  refine (CallsIn.inRound l (callsIn_wide.2 (z7Cs W H xa yb _))).mono ?_
  rintro e V1 ⟨rfl,hb1⟩
  by_cases hh:hasB W H xa yb=true
  ·rw[hh]
   have q0:V1.cell? ⟨w.heap.size+1,0,none⟩=some (.func (.func cf) #[] caps):=by rw[Lib.cell_of_heap ((hb1.block _ hl4).trans i4)];rfl
   have q1:V1.cell? ⟨Bx,0,none⟩=some (.int .i64 xa):=by rw[Lib.cell_of_heap ((hb1.block _ hlX).trans bX)];rfl
   have q2:V1.cell? ⟨Bx,1,none⟩=some (.int .i64 yb):=by rw[Lib.cell_of_heap ((hb1.block _ hlX).trans bX)];rfl
   gi_wp2_with fail
   refine ⟨trivial,?_⟩
   refine (CallsIn.inRound l (callsIn_wide.2 (HCN.out _ hh (i6.trans (hb1.mono hsz))))).mono ?_
   rintro e V2 ⟨rfl,hb2⟩
   have hb12:=quJN hb1 hb2
   cases hcx:cx with
   | false =>
    have HM0:=hide (show mF zs W H px py cnt (pre++[x])=(sm,nn) by rw[HSN.out,HMS.out,hcx];simp)
    gi_wp2
    exact HEND0.out _ hb12 HM0.out
   | true =>
    obtain ⟨hx0,hx1,hy0,hy1⟩:0≤xa∧xa<W∧0≤yb∧yb<H:=by simpa [hasB] using hh
    have HM1:=hide (show mF zs W H px py cnt (pre++[x])=(sm+zAt zs (yb.toNat*W+xa.toNat),nn+1) by rw[HSN.out,HMS.out,hcx,hh];simp)
    obtain ⟨X,rfl⟩:=Int.eq_ofNat_of_zero_le hx0
    obtain ⟨Y,rfl⟩:=Int.eq_ofNat_of_zero_le hy0
    rw[Int.toNat_natCast,Int.toNat_natCast] at HM1
    have hkl:Y*W+X<zs.length:=by
     have h1:(Y+1)*W≤H*W:=Nat.mul_le_mul_right _ (by omega)
     rw[Nat.succ_mul] at h1
     rw[HLEN.out];omega
    obtain ⟨K1,hK1⟩:∃K1,Y*W+X=K1:=⟨_,rfl⟩
    rw[hK1] at HM1 hkl
    have HIX:=hide (fun v=>XSSj W H X Y W K1 rfl hK1 (by omega) v)
    have hz:=XWrv HZS.out K1
    have hcz:=HC.out K1 hkl
    obtain ⟨z,hz0⟩:∃z,zAt zs K1=z:=⟨_,rfl⟩
    rw[hz0] at hz hcz HM1
    obtain ⟨hz1,hz2⟩:=hz
    clear hz0 hK1 x0 x1 g0 g1 q0 q1 q2
    have HS:=hide (show ∀v,Below W'.heap.size W' v→v.cell? ⟨w.heap.size+1+1+1,0,none⟩=some (.int .i64 sm)∧v.cell? ⟨w.heap.size,2,none⟩=some (.slice (some ⟨bk,off,none⟩) zs.length ca)∧v.cell? ⟨w.heap.size+1+1,0,none⟩=some (.int .i64 W)∧v.cell? ⟨w.heap.size+1+1,1,none⟩=some (.int .i64 H)∧v.cell? ⟨Bx,0,none⟩=some (.int .i64 (X:Nat))∧v.cell? ⟨Bx,1,none⟩=some (.int .i64 (Y:Nat))∧v.cell? ⟨bk,off+K1,none⟩=some (.int .i64 z) from fun v h=>by
     obtain ⟨_,_,t2⟩:=z5EY ((h.block _ hl3).trans i3)
     have t5:=(h.block _ hl5).trans i5
     have tx:=(h.block _ hlX).trans bX
     exact ⟨by rw[Lib.cell_of_heap (b:=w.heap.size+1+1+1) ((h.block _ hl1).trans i1)];rfl,t2,by rw[Lib.cell_of_heap (b:=w.heap.size+1+1) t5];rfl,by rw[Lib.cell_of_heap (b:=w.heap.size+1+1) t5];rfl,by rw[Lib.cell_of_heap tx];rfl,by rw[Lib.cell_of_heap tx];rfl,((i6.trans (h.mono hsz)).cell (p:=⟨bk,off+K1,none⟩) hbk).trans hcz⟩)
    have HF:=hide (show ∀v,Below W'.heap.size W' v→v.frozen? ⟨w.heap.size+1+1+1,0,none⟩=false∧v.cell? ⟨w.heap.size+1+1+1,0,none⟩=some (.int .i64 sm)∧v.frozen? ⟨w.heap.size+1+1+1+1,0,none⟩=false∧v.cell? ⟨w.heap.size+1+1+1+1,0,none⟩=some (.int .i64 (nn:Nat)) from fun v h=>by
     have t3:=(h.block _ hl1).trans i1
     have t4:=(h.block _ hl2).trans i2
     exact ⟨Lib.frozen_of_heap (b:=w.heap.size+1+1+1) t3 0,by rw[Lib.cell_of_heap (b:=w.heap.size+1+1+1) t3];rfl,Lib.frozen_of_heap (b:=w.heap.size+1+1+1+1) t4 0,by rw[Lib.cell_of_heap (b:=w.heap.size+1+1+1+1) t4];rfl⟩)
    have hws:IntKind.i64.wrap (sm+z)=sm+z:=IntWalk.i64_in _ (by omega)
    have hwn:IntKind.i64.wrap ((nn:Int)+1)=((nn+1:Nat):Int):=(IntWalk.i64_in _ (by omega)).trans (by omega)
    have hklI:(K1:Int)<(zs.length:Int):=by omega
    have hWd:Below W'.heap.size W' V2.drew:=hb12.drew
    have hSd:=HS.out _ hWd
    have hmx:Tryz.prog.follows .mixedOrders=true:=by kernel_rfl
    gi_wp2_with fail
    refine qXaV (S:=fun v:World=>v.cell? ⟨w.heap.size+1+1+1,0,none⟩=some (.int .i64 sm)∧v.cell? ⟨w.heap.size,2,none⟩=some (.slice (some ⟨bk,off,none⟩) zs.length ca)∧v.cell? ⟨w.heap.size+1+1,0,none⟩=some (.int .i64 W)∧v.cell? ⟨w.heap.size+1+1,1,none⟩=some (.int .i64 H)∧v.cell? ⟨Bx,0,none⟩=some (.int .i64 (X:Nat))∧v.cell? ⟨Bx,1,none⟩=some (.int .i64 (Y:Nat))∧v.cell? ⟨bk,off+K1,none⟩=some (.int .i64 z)) (f:=9) hmx ?nd ?no ?_
    case nd=>exact qU4N (by kernel_rfl)
    case no=>rintro ⟨_,_,h⟩;exact h
    show jZdv _ _ _ _ _ _ 10 _ _ V2.drew
    refine j7aj (i:=0) (oi:=_) (v:=?vv1) rfl (by kernel_rfl) (by kernel_rfl) (by kernel_rfl) (by kernel_rfl) (by kernel_rfl) (fun _ _ _ h=>h) (Or.inl ⟨by rfl,?yy1⟩) hSd ?rr1
    case yy1=>(intro wq hSq;obtain ⟨_,_,_,_,_,_,_⟩:=hSq;go_simp<;>with_reducible rfl)
    try simp only[Act.put]
    refine j7aj (i:=1) (oi:=_) (v:=?vv2) rfl (by kernel_rfl) (by kernel_rfl) (by kernel_rfl) (by kernel_rfl) (by kernel_rfl) (fun _ _ _ h=>h) (Or.inl ⟨by rfl,?yy2⟩) hSd ?rr2
    case yy2=>(intro wq hSq;obtain ⟨_,_,_,_,_,_,_⟩:=hSq;go_simp<;>with_reducible rfl)
    try simp only[Act.put]
    refine j7aj (i:=2) (oi:=_) (v:=?vv3) rfl (by kernel_rfl) (by kernel_rfl) (by kernel_rfl) (by kernel_rfl) (by kernel_rfl) (fun _ _ _ h=>h) (Or.inl ⟨by rfl,?yy3⟩) hSd ?rr3
    case yy3=>(intro wq hSq;obtain ⟨_,_,_,_,_,_,_⟩:=hSq;go_simp<;>with_reducible rfl)
    try simp only[Act.put]
    refine j7aj (i:=3) (oi:=_) (v:=?vv4) rfl (by kernel_rfl) (by kernel_rfl) (by kernel_rfl) (by kernel_rfl) (by kernel_rfl) (fun _ _ _ h=>h) (Or.inl ⟨by rfl,?yy4⟩) hSd ?rr4
    case yy4=>(intro wq hSq;obtain ⟨_,_,_,_,_,_,_⟩:=hSq;go_simp<;>with_reducible rfl)
    try simp only[Act.put]
    refine j7aj (i:=4) (oi:=_) (v:=?vv5) rfl (by kernel_rfl) (by kernel_rfl) (by kernel_rfl) (by kernel_rfl) (by kernel_rfl) (fun _ _ _ h=>h) (Or.inl ⟨by rfl,?yy5⟩) hSd ?rr5
    case yy5=>(intro wq hSq;obtain ⟨_,_,_,_,_,_,_⟩:=hSq;go_simp<;>with_reducible rfl)
    try simp only[Act.put]
    refine znWj (i:=5) (o:=_) (by kernel_rfl) rfl (fun K' hK=>?_)
    rw[if_pos (by rfl)]
    go_simp
    refine (HIX.out _).mono ?_
    rintro e V3 ⟨rfl,hb3⟩
    have hB3:Below W'.heap.size W' V3:=hWd.trans (hb3.mono hWd.size)
    have hSd:=HS.out _ hB3
    refine hK.out _ _ hSd ?_
    clear hK
    try simp only[Act.put]
    refine j7aj (i:=6) (oi:=_) (v:=?vv6) rfl (by kernel_rfl) (by kernel_rfl) (by kernel_rfl) (by kernel_rfl) (by kernel_rfl) (fun _ _ _ h=>h) (Or.inl ⟨by rfl,?yy6⟩) hSd ?rr6
    case yy6=>(intro wq hSq;obtain ⟨_,_,_,_,_,_,_⟩:=hSq;go_simp<;>with_reducible rfl)
    try simp only[Act.put]
    refine j7aj (i:=7) (oi:=_) (v:=?vv7) rfl (by kernel_rfl) (by kernel_rfl) (by kernel_rfl) (by kernel_rfl) (by kernel_rfl) (fun _ _ _ h=>h) (Or.inl ⟨by rfl,?yy7⟩) hSd ?rr7
    case yy7=>(intro wq hSq;obtain ⟨_,_,_,_,_,_,_⟩:=hSq;go_simp<;>with_reducible rfl)
    try simp only[Act.put]
    refine j7aj (i:=8) (oi:=_) (v:=?vv8) rfl (by kernel_rfl) (by kernel_rfl) (by kernel_rfl) (by kernel_rfl) (by kernel_rfl) (fun _ _ _ h=>h) (Or.inl ⟨by rfl,?yy8⟩) hSd ?rr8
    case yy8=>(intro wq hSq;obtain ⟨_,_,_,_,_,_,_⟩:=hSq;go_simp<;>with_reducible rfl)
    try simp only[Act.put]
    obtain ⟨f3,c3,f4,c4⟩:=HF.out _ hB3
    refine z9gO (o:=_) (by kernel_rfl) rfl (fun K' hK=>?_)
    rw[if_pos (by rfl)]
    go_simp
    refine hK.out _ _ ?_
    clear hK
    refine jFdp (by kernel_rfl) ?_ _
    try simp only[Act.put]
    have n4:(V3.setCell ⟨w.heap.size+1+1+1,0,none⟩ (.int .i64 (sm+z))).cell? ⟨w.heap.size+1+1+1+1,0,none⟩=some (.int .i64 (nn:Nat)):=(World.cell?_setCell_far _ _ _ _ (by show w.heap.size+3≠w.heap.size+4;omega)).trans c4
    gi_wp2
    exact HEND1.out _ z hB3 HM1.out
  ·have hh:hasB W H xa yb=false:=by simpa using hh
   have HM0:=hide (show mF zs W H px py cnt (pre++[x])=(sm,nn) by rw[HSN.out,HMS.out,hh];simp)
   rw[hh]
   gi_wp2
   repeat (refine ⟨fun _ h=>(by cases h),?_⟩;gi_wp2)
   exact HEND0.out _ hb1 HM0.out
 case done =>
  rintro D ys W' hD rfl ⟨i1,i2,i3,i4,i5,i6⟩ hK
  have hr:0≤(mF zs W H px py cnt (List.finRange N)).1∧(mF zs W H px py cnt (List.finRange N)).1≤(mF zs W H px py cnt (List.finRange N)).2*65535∧(mF zs W H px py cnt (List.finRange N)).2≤0+(List.finRange N).length:=zVKI HZS.out W H px py cnt (List.finRange N) (0,0) 0 (Int.le_refl _) (by decide) (Nat.le_refl _)
  rw[List.length_finRange] at hr
  have HV:=hide (show meanV zs W H px py cnt=if (mF zs W H px py cnt (List.finRange N)).2=0 then 0 else (mF zs W H px py cnt (List.finRange N)).1 / ((mF zs W H px py cnt (List.finRange N)).2:Int) from rfl)
  obtain ⟨⟨sm,nn⟩,hsn⟩:∃t,mF zs W H px py cnt (List.finRange N)=t:=⟨_,rfl⟩
  rw[hsn] at i1 i2 HV hr
  simp only at hr i1 i2 HV
  obtain ⟨hr1,hr2,hr3⟩:=hr
  have c3:W'.cell? ⟨w.heap.size+1+1+1,0,none⟩=some (.int .i64 sm):=by rw[Lib.cell_of_heap (b:=w.heap.size+1+1+1) i1];rfl
  have c4:W'.cell? ⟨w.heap.size+1+1+1+1,0,none⟩=some (.int .i64 (nn:Nat)):=by rw[Lib.cell_of_heap (b:=w.heap.size+1+1+1+1) i2];rfl
  have HY:=hide (show Below w.heap.size w (W'.putObj D (.deferred none)) from i6.trans (belowK_b (w:=w) (Nat.le_refl _) W' D _ _ (by omega) hK rfl rfl))
  by_cases hn:nn=0
  ·subst hn
   rw[if_pos rfl] at HV
   gi_wp2
   refine ⟨by simp,.inl ⟨_,_,rfl,run_takeDeferred hK,?_⟩⟩
   exact ⟨.int .i64 0,by simp[results,Tryz.results127,go_sem],by rw[HV.out],HY.out⟩
  ·rw[if_neg hn] at HV
   have hq:=Int.tdiv_eq_ediv_of_nonneg (b:=(nn:Int)) hr1
   rw[←hq] at HV
   have hq0:0≤sm.tdiv (nn:Int):=by rw[hq];exact Int.ediv_nonneg hr1 (by omega)
   have hq1:sm.tdiv (nn:Int)≤sm:=by rw[hq];exact Int.ediv_le_self _ hr1
   obtain ⟨q,hqq⟩:∃q,sm.tdiv (nn:Int)=q:=⟨_,rfl⟩
   rw[hqq] at HV hq0 hq1
   have hbz:((nn:Int) == 0)=false:=by simp;omega
   have hwq:IntKind.i64.wrap q=q:=IntWalk.i64_in _ (by omega)
   clear hq
   gi_wp2
   refine ⟨by simp,.inl ⟨_,_,rfl,run_takeDeferred hK,?_⟩⟩
   exact ⟨.int .i64 q,by simp[results,Tryz.results127,go_sem],by rw[HV.out],HY.out⟩
 case stop=>rintro D c pre W' _ _ h _;exact h.elim
end Go.Proofs.YtfjeonehdlphiaaGreatDoor

namespace Go.Proofs.YtfjeonehdlphiaaGreatDoor
open Go.RowKit
def colB (phase x y:Nat):Bool×Bool:=(decide (x % 2≠phase % 2),decide (y % 2≠phase / 2))
def colV (phase x y:Nat):Nat:=match colB phase x y with
 | (true,true)=>2
 | (true,false)=>1
 | (false,true)=>1
 | (false,false)=>0
set_option maxRecDepth 100000 in
set_option maxHeartbeats 800000 in
theorem XW0z (p X Y:Nat) (hp:p≤3) (w:World) :
  Calls Tryz.prog 183 #[.int .i64 p,.int .i64 X,.int .i64 Y] w fun e w'=>e=.returned (.tuple #[.int .i64 (colV p X Y:Nat),.int .i64 0])∧Below w.heap.size w w':=by
 have hpo:qdne (p:Int)=true:=by simp[qdne];omega
 obtain ⟨C,hC⟩:∃C,colV p X Y=C:=⟨_,rfl⟩
 rw[hC]
 have hx:X % 2=0∨X % 2=1:=by omega
 have hy:Y % 2=0∨Y % 2=1:=by omega
 have hm:p % 2=0∨p % 2=1:=by omega
 have hv:p / 2=0∨p / 2=1:=by omega
 rcases hm with hm|hm<;>rcases hv with hv|hv<;>rcases hx with hx|hx<;>rcases hy with hy|hy
 all_goals
  rw[colV,colB,hx,hy,hm,hv] at hC
  simp at hC
  have HC:=hide hC.symm
  have hxi:(X:Int) % 2=((X % 2:Nat):Int):=rfl
  have hyi:(Y:Int) % 2=((Y % 2:Nat):Int):=rfl
  have hmi:(p:Int) % 2=((p % 2:Nat):Int):=rfl
  have hvi:(p:Int) / 2=((p / 2:Nat):Int):=rfl
  rw[hx] at hxi
  rw[hy] at hyi
  rw[hm] at hmi
  rw[hv] at hvi
  clear hC hx hy hm hv
  go_enter Tryz.func183,Tryz.ntmps183
  go_wp2_with fail
  refine (qtgz _ _).mono ?_
  rintro e w1 ⟨rfl,hb1⟩
  rw[hpo]
  go_wp2
  go_ret2
  rw[HC.out]
  exact ⟨rfl,hb1⟩
end Go.Proofs.YtfjeonehdlphiaaGreatDoor

namespace Go.Proofs.YtfjeonehdlphiaaGreatDoor
open Go.RowKit Go.Shelf
attribute [local go_sem] Oper.semAt_some
set_option maxRecDepth 100000 in
set_option maxHeartbeats 1000000 in
theorem zPMW (W H N:Nat) (hW:W≤64) (hH:H≤64) (hNHW:N=H*W) (tf:Nat) (caps:Array Value) (T:Nat→Int) (w:World) (eg:∀args w,(callFunc tf args).run Tryz.prog w=.ok (.enter tf args) w)
    (htell:∀(j:Nat) (V:World),j<N→Below w.heap.size w V→Calls Tryz.prog tf (#[.agg #[.int .i64 (j % W:Nat),.int .i64 (j / W:Nat)]]++caps) V fun e V'=>e=.returned (.int .i64 (T j))∧Below V.heap.size V V') :
    Calls Tryz.prog 255 #[.agg #[.int .i64 W,.int .i64 H],.func (.func tf) #[] caps] w fun e w'=>∃r,e=.returned (.agg #[.int .i64 W,.int .i64 H,r])∧jCvT w' r ((List.range N).map T)∧Below w.heap.size w w'∧Fresh w.heap.size r:=by
  obtain ⟨i0,hi,hz0,hz1,hz2⟩:=info_parts Tryz.infoInt
  refine (callsIn_wide (n:=3)).1 ?_
  refine callsIn_of_wp_marks Tryz.func255 rfl trivial ?_ rfl
  simp only[Tryz.ntmps255,List.size_toArray,List.length_cons,List.length_nil,Nat.reduceAdd,Nat.reduceSub,Array.replicate_succ,Array.replicate_zero,List.push_toArray,List.append_toArray,List.nil_append,List.cons_append]
  gi_wp2_with fail
  refine wpIn_wide.2 ?_
  have hN:N=W*H:=by rw[hNHW,Nat.mul_comm]
  have HNHW:=hide hNHW
  clear hNHW
  have hNi:(W:Int)*(H:Int)=(N:Int):=by rw[hN];simp
  have hNb:N≤4096:=by rw[hN];exact Nat.le_trans (Nat.mul_le_mul hW hH) (by decide)
  have hmk:∀V:World,(Instr.makeSlice 52 (.int .i64 0) (.int .i64 N)).run Tryz.prog V=.ok (.slice (some ⟨V.heap.size,0,none⟩) 0 N) (V.alloc (.cells (madeCells (Value.int .i64 0).cells (N*1)) 3)):=fun V=>by
    have h:=run_make (P:=Tryz.prog) V 52 3 i0 (.int .i64 0) Tryz.underlying52 hi hz0 .i64 .i64 0 N (Int.le_refl _) (by omega) (by rw[hz2];omega) (by omega)
    rw[hz1] at h
    simpa using h
  have hwN:IntKind.i64.wrap ((W:Int)*(H:Int))=(N:Int):=by rw[hNi];exact IntWalk.i64_in _ (by omega)
  have hwM:IntKind.i64.wrap (N:Int)=(N:Int):=IntWalk.i64_in _ (by omega)
  have HN:=hide hN
  clear hN
  have hB3:=quJN (quJN (qUNz w (Obj.cells #[.int .i64 W,.int .i64 H] 95)) (qUNz _ (Obj.cells #[.func (.func tf) #[] caps] 98))) (qUNz _ (Obj.cells #[.int .i64 0,.int .i64 0,.slice none 0 0] 54))
  have g0:(((w.alloc (Obj.cells #[.int .i64 W,.int .i64 H] 95)).alloc (Obj.cells #[.func (.func tf) #[] caps] 98)).alloc (Obj.cells #[.int .i64 0,.int .i64 0,.slice none 0 0] 54)).heap[w.heap.size]?=some (.cells #[.int .i64 W,.int .i64 H] 95 (0,0)):=by
    rw[Below.heap_alloc _ _ _ (by simp;omega),Below.heap_alloc _ _ _ (by simp)];exact heap_alloc_new w _
  have g1:(((w.alloc (Obj.cells #[.int .i64 W,.int .i64 H] 95)).alloc (Obj.cells #[.func (.func tf) #[] caps] 98)).alloc (Obj.cells #[.int .i64 0,.int .i64 0,.slice none 0 0] 54)).heap[w.heap.size+1]?=some (.cells #[.func (.func tf) #[] caps] 98 (0,0)):=by
    rw[Below.heap_alloc _ _ _ (by simp)]
    have h:=heap_alloc_new (w.alloc (Obj.cells #[.int .i64 W,.int .i64 H] 95)) (Obj.cells #[.func (.func tf) #[] caps] 98)
    rw[World.size_alloc] at h;exact h
  have g2:(((w.alloc (Obj.cells #[.int .i64 W,.int .i64 H] 95)).alloc (Obj.cells #[.func (.func tf) #[] caps] 98)).alloc (Obj.cells #[.int .i64 0,.int .i64 0,.slice none 0 0] 54)).heap[w.heap.size+2]?=some (.cells #[.int .i64 0,.int .i64 0,.slice none 0 0] 54 (0,0)):=by
    have h:=heap_alloc_new ((w.alloc (Obj.cells #[.int .i64 W,.int .i64 H] 95)).alloc (Obj.cells #[.func (.func tf) #[] caps] 98)) (Obj.cells #[.int .i64 0,.int .i64 0,.slice none 0 0] 54)
    rw[World.size_alloc,World.size_alloc] at h;exact h
  have hs3:(((w.alloc (Obj.cells #[.int .i64 W,.int .i64 H] 95)).alloc (Obj.cells #[.func (.func tf) #[] caps] 98)).alloc (Obj.cells #[.int .i64 0,.int .i64 0,.slice none 0 0] 54)).heap.size=w.heap.size+3:=by simp
  generalize ((w.alloc (Obj.cells #[.int .i64 W,.int .i64 H] 95)).alloc (Obj.cells #[.func (.func tf) #[] caps] 98)).alloc (Obj.cells #[.int .i64 0,.int .i64 0,.slice none 0 0] 54)=W3 at *
  have k0:W3.cell? ⟨w.heap.size,0,none⟩=some (.int .i64 W):=by rw[Lib.cell_of_heap g0];rfl
  have k1:W3.cell? ⟨w.heap.size,1,none⟩=some (.int .i64 H):=by rw[Lib.cell_of_heap g0];rfl
  have HS:=hide (show ∀w',Below W3.heap.size W3 w'→w'.cell? ⟨w.heap.size,0,none⟩=some (.int .i64 W)∧w'.cell? ⟨w.heap.size,1,none⟩=some (.int .i64 H) from fun w' h =>
    ⟨(h.cell (p:=⟨w.heap.size,0,none⟩) (by show w.heap.size<_;omega)).trans k0,(h.cell (p:=⟨w.heap.size,1,none⟩) (by show w.heap.size<_;omega)).trans k1⟩)
  have hdrew:Below W3.heap.size W3 W3.drew:=(Below.refl _ _).drew
  have HMK:=hide hmk
  go_region_held3 (fun w'=>w'.cell? ⟨w.heap.size,0,none⟩=some (.int .i64 W)∧w'.cell? ⟨w.heap.size,1,none⟩=some (.int .i64 H))
    (first|(refine HS.out _ ?_;assumption)|(refine HS.out _ ?_;exact quJN (by assumption) (qUNz _ _))|go_keep)
    (fail)
  all_goals first
    | (show Exit.then _ _ _ _ ((W3.alloc (Obj.cells (madeCells #[.int .i64 0] N) 3)).alloc (Obj.cells #[.int .i64 W,.int .i64 H,.slice (some ⟨w.heap.size+3,0,none⟩) 0 N] 54)).drew
       have hVb:Below W3.heap.size W3 ((W3.alloc (Obj.cells (madeCells #[.int .i64 0] N) 3)).alloc (Obj.cells #[.int .i64 W,.int .i64 H,.slice (some ⟨w.heap.size+3,0,none⟩) 0 N] 54)).drew:=XpIb (quJN (qUNz _ _) (qUNz _ _))
       have vP:((W3.alloc (Obj.cells (madeCells #[.int .i64 0] N) 3)).alloc (Obj.cells #[.int .i64 W,.int .i64 H,.slice (some ⟨w.heap.size+3,0,none⟩) 0 N] 54)).drew.heap[w.heap.size+3+1]?=some (.cells #[.int .i64 W,.int .i64 H,.slice (some ⟨w.heap.size+3,0,none⟩) 0 N] 54 (0,0)):=by
         have h:=heap_alloc_new (W3.alloc (Obj.cells (madeCells #[.int .i64 0] N) 3)) (Obj.cells #[.int .i64 W,.int .i64 H,.slice (some ⟨w.heap.size+3,0,none⟩) 0 N] 54)
         rw[World.size_alloc,hs3] at h;exact h
       have vS:((W3.alloc (Obj.cells (madeCells #[.int .i64 0] N) 3)).alloc (Obj.cells #[.int .i64 W,.int .i64 H,.slice (some ⟨w.heap.size+3,0,none⟩) 0 N] 54)).drew.ownsRow w.heap.size 3 1 (.slice (some ⟨w.heap.size+3,0,none⟩) 0 N) 0 []:=by
         have h:=(World.ownsRow_made (base:=w.heap.size) (e:=3) (size:=1) W3 (madeCells #[.int .i64 0] N) N (by omega) (by unfold maxLen;omega) (by simp[madeCells])).alloc (Obj.cells #[.int .i64 W,.int .i64 H,.slice (some ⟨w.heap.size+3,0,none⟩) 0 N] 54)
         rw[hs3] at h;exact h
       have hPB:w.heap.size+2<w.heap.size+3+1:=by omega
       generalize ((W3.alloc (Obj.cells (madeCells #[.int .i64 0] N) 3)).alloc (Obj.cells #[.int .i64 W,.int .i64 H,.slice (some ⟨w.heap.size+3,0,none⟩) 0 N] 54)).drew=V at *
       generalize w.heap.size+3+1=PB at hPB vP ⊢
       generalize hSB:Value.slice (some ⟨w.heap.size+3,0,none⟩) 0 N=SV at *
       clear hSB)
    | (have hVb:Below W3.heap.size W3 ((W3.alloc (Obj.cells #[.int .i64 W,.int .i64 H,.slice (some ⟨w.heap.size+3+1,0,none⟩) 0 N] 54)).alloc (Obj.cells (madeCells #[.int .i64 0] N) 3)).drew:=XpIb (quJN (qUNz _ _) (qUNz _ _))
       have vP:((W3.alloc (Obj.cells #[.int .i64 W,.int .i64 H,.slice (some ⟨w.heap.size+3+1,0,none⟩) 0 N] 54)).alloc (Obj.cells (madeCells #[.int .i64 0] N) 3)).drew.heap[w.heap.size+3]?=some (.cells #[.int .i64 W,.int .i64 H,.slice (some ⟨w.heap.size+3+1,0,none⟩) 0 N] 54 (0,0)):=by
         have h:=heap_alloc_new W3 (Obj.cells #[.int .i64 W,.int .i64 H,.slice (some ⟨w.heap.size+3+1,0,none⟩) 0 N] 54)
         rw[hs3] at h
         exact (Below.heap_alloc _ _ _ (by simp;omega)).trans h
       have vS:((W3.alloc (Obj.cells #[.int .i64 W,.int .i64 H,.slice (some ⟨w.heap.size+3+1,0,none⟩) 0 N] 54)).alloc (Obj.cells (madeCells #[.int .i64 0] N) 3)).drew.ownsRow w.heap.size 3 1 (.slice (some ⟨w.heap.size+3+1,0,none⟩) 0 N) 0 []:=by
         have h:=World.ownsRow_made (base:=w.heap.size) (e:=3) (size:=1) (W3.alloc (Obj.cells #[.int .i64 W,.int .i64 H,.slice (some ⟨w.heap.size+3+1,0,none⟩) 0 N] 54)) (madeCells #[.int .i64 0] N) N (by simp;omega) (by unfold maxLen;omega) (by simp[madeCells])
         rw[World.size_alloc,hs3] at h;exact h
       have hPB:w.heap.size+2<w.heap.size+3:=by omega
       generalize ((W3.alloc (Obj.cells #[.int .i64 W,.int .i64 H,.slice (some ⟨w.heap.size+3+1,0,none⟩) 0 N] 54)).alloc (Obj.cells (madeCells #[.int .i64 0] N) 3)).drew=V at *
       generalize hSB:Value.slice (some ⟨w.heap.size+3+1,0,none⟩) 0 N=SV at *
       clear hSB
       generalize w.heap.size+3=PB at hPB vP ⊢)
  all_goals
    have k0:=(hVb.cell (p:=⟨w.heap.size,0,none⟩) (by show w.heap.size<_;omega)).trans k0
    have k1:=(hVb.cell (p:=⟨w.heap.size,1,none⟩) (by show w.heap.size<_;omega)).trans k1
    gi_wp2_with fail
    refine ⟨trivial,?_⟩
    refine (jIfE Fence.wide _ trivial rfl _ _ _).mono ?_
    rintro e w' ⟨rfl,rfl⟩
    gi_wp2_with fail
    have hsV:=hVb.size
    have hlP:=(Array.getElem?_eq_some_iff.1 vP).1
    have n0:=heap_alloc_new V (Obj.cells #[.int .i64 W,.int .i64 H] 95)
    have hs0:(V.alloc (Obj.cells #[.int .i64 W,.int .i64 H] 95)).heap.size=V.heap.size+1:=by simp
    have hB0:Below w.heap.size w (V.alloc (Obj.cells #[.int .i64 W,.int .i64 H] 95)):=quJN (quJN hB3 hVb) (qUNz _ _)
    have j0:(V.alloc (Obj.cells #[.int .i64 W,.int .i64 H] 95)).heap[PB]?=some (.cells #[.int .i64 W,.int .i64 H,SV] 54 (0,0)):=(Below.heap_alloc _ _ _ hlP).trans vP
    have j1:=vS.alloc (Obj.cells #[.int .i64 W,.int .i64 H] 95)
    have j2:(V.alloc (Obj.cells #[.int .i64 W,.int .i64 H] 95)).heap[w.heap.size+1]?=some (.cells #[.func (.func tf) #[] caps] 98 (0,0)):=by
      rw[Below.heap_alloc _ _ _ (by omega),hVb.block _ (by omega)];exact g1
    have j3:(V.alloc (Obj.cells #[.int .i64 W,.int .i64 H] 95)).heap[w.heap.size+2]?=some (.cells #[.int .i64 0,.int .i64 0,.slice none 0 0] 54 (0,0)):=by
      rw[Below.heap_alloc _ _ _ (by omega),hVb.block _ (by omega)];exact g2
    generalize V.alloc (Obj.cells #[.int .i64 W,.int .i64 H] 95)=W0 at *
    refine wpIn_rangeFunc_ownH (α:=Fin N) rfl (show 1≤3 by omega) (gf:=154) (lb:=#[.pointer (some ⟨V.heap.size,0,none⟩)]) rfl trivial (enters_of Tryz.func154 (by kernel_rfl) rfl)
      (joPr Fence.wide (3-1) trivial rfl (by omega) V.heap.size W H N hW hH HNHW.out W0 (by omega) (by rw[Lib.cell_of_heap n0];rfl) (by rw[Lib.cell_of_heap n0];rfl)) (fun {A B C} h k=>h.trans' k) (fun X l o o' hl _ _ _=>qMCQ (by omega)) (Below.refl _ _) (fun _=>rfl)
      (fun pre W'=>(∃v,W'.heap[PB]?=some (.cells #[.int .i64 W,.int .i64 H,v] 54 (0,0))∧W'.ownsRow w.heap.size 3 1 v pre.length ((pre.map fun (j:Fin N)=>T j.1).map (Value.int .i64)))∧W'.heap[w.heap.size+1]?=some (.cells #[.func (.func tf) #[] caps] 98 (0,0))∧W'.heap[w.heap.size+2]?=some (.cells #[.int .i64 0,.int .i64 0,.slice none 0 0] 54 (0,0))∧W'.heap[V.heap.size]?=some (.cells #[.int .i64 W,.int .i64 H] 95 (0,0))∧Below w.heap.size w W')
      (fun _ _ _=>False)
      (fun s X Y row ⟨⟨v,a1,a2⟩,a3,a4,a6,a5⟩ hg hr=>⟨⟨v,qLYA hg hr a1,jg0p hg hr a2⟩,qLYA hg hr a3,qLYA hg hr a4,qLYA hg hr a6,ownFrom_below (β:=Unit) (Nat.le_refl _) (by omega) () X Y row a5 hg hr⟩)
      (fun _ _ _ _ _ hs _ _=>hs)
      ⟨⟨_,j0,j1⟩,j2,j3,n0,hB0⟩
      (fun x a' W'=>∃Bx,W0.heap.size≤Bx∧W'.heap[Bx]?=some (.cells #[.int .i64 (x.1 % W:Nat),.int .i64 (x.1 / W:Nat)] 97 (0,0))∧a'={ tmps:=#[.agg #[.int .i64 W,.int .i64 H],.func (.func tf) #[] caps,.pointer (some ⟨w.heap.size,0,none⟩),.pointer (some ⟨w.heap.size+1,0,none⟩),.pointer (some ⟨w.heap.size+1+1,0,none⟩),.pointer (some ⟨PB,0,none⟩),.pointer (some ⟨Bx,0,none⟩),.pointer (some ⟨w.heap.size,0,none⟩),.int .i64 W,.pointer (some ⟨w.heap.size,1,none⟩),.int .i64 H,.pointer (some ⟨w.heap.size,0,none⟩),.int .i64 W,.pointer (some ⟨w.heap.size,1,none⟩),.int .i64 H,.int .i64 N,SV,.agg #[.int .i64 W,.int .i64 H,SV],.agg #[.int .i64 W,.int .i64 H],.func (.func 154) #[] #[.pointer (some ⟨V.heap.size,0,none⟩)],.agg #[.int .i64 (x.1 % W:Nat),.int .i64 (x.1 / W:Nat)],undef,undef,undef,undef,undef,undef,undef,undef,undef],defers:=[] })
      (fun x a' _ X Y row ⟨Bx,b1,b2,b3⟩ hg hr=>⟨Bx,b1,qLYA hg hr b2,b3⟩)
      ?assign ?body ?done ?stop
    case assign =>
      rintro l pre x W' K ⟨⟨v,i1,i2⟩,i3,i4,i6,i5⟩ hK
      have hl1:=(Array.getElem?_eq_some_iff.1 i1).1
      have hl3:=(Array.getElem?_eq_some_iff.1 i3).1
      have hl4:=(Array.getElem?_eq_some_iff.1 i4).1
      have hl6:=(Array.getElem?_eq_some_iff.1 i6).1
      gi_wp2
      exact hK _ _ ((KeepsOthers.alloc _ _).from _) (Below.heap_alloc _ _ _ hl6) ⟨⟨v,(Below.heap_alloc _ _ _ hl1).trans i1,i2.alloc _⟩,(Below.heap_alloc _ _ _ hl3).trans i3,(Below.heap_alloc _ _ _ hl4).trans i4,(Below.heap_alloc _ _ _ hl6).trans i6,i5.alloc i5.size _⟩ ⟨W'.heap.size,by omega,heap_alloc_new W' _,rfl⟩
    case body =>
      rintro l pre x a' W' hl ⟨r,hr⟩ ⟨⟨sv,i1,i2⟩,i3,i4,i6,i5⟩ ⟨Bx,hBx,bX,rfl⟩ hlt
      obtain ⟨so,scap,rfl⟩:=XPKi i2
      have p2:W'.cell? ⟨PB,2,none⟩=some (.slice so pre.length scap):=by rw[Lib.cell_of_heap i1];rfl
      have t0:W'.cell? ⟨w.heap.size+1,0,none⟩=some (.func (.func tf) #[] caps):=by rw[Lib.cell_of_heap i3];rfl
      have x0:W'.cell? ⟨Bx,0,none⟩=some (.int .i64 (x.1 % W:Nat)):=by rw[Lib.cell_of_heap bX];rfl
      have x1:W'.cell? ⟨Bx,1,none⟩=some (.int .i64 (x.1 / W:Nat)):=by rw[Lib.cell_of_heap bX];rfl
      have hmx:Tryz.prog.follows .mixedOrders=true:=by kernel_rfl
      have hlP:=(Array.getElem?_eq_some_iff.1 i1).1
      have hlT:=(Array.getElem?_eq_some_iff.1 i3).1
      have hlX:=(Array.getElem?_eq_some_iff.1 bX).1
      have hbW:w.heap.size≤W'.heap.size:=by omega
      have HL1:=hide (show pre.length+1≤maxLen by unfold maxLen;omega)
      have HL2:=hide (show (pre.length+1)*8≤140737488355328 by omega)
      have HS:=hide (show ∀v,Below W'.heap.size W' v→v.cell? ⟨w.heap.size+1,0,none⟩=some (.func (.func tf) #[] caps)∧v.cell? ⟨Bx,0,none⟩=some (.int .i64 (x.1 % W:Nat))∧v.cell? ⟨Bx,1,none⟩=some (.int .i64 (x.1 / W:Nat)) from fun v h =>
        ⟨(h.cell (p:=⟨w.heap.size+1,0,none⟩) hlT).trans t0,(h.cell (p:=⟨Bx,0,none⟩) hlX).trans x0,(h.cell (p:=⟨Bx,1,none⟩) hlX).trans x1⟩)
      have HP2:=hide (show ∀v,Below W'.heap.size W' v→v.cell? ⟨PB,2,none⟩=some (.slice so pre.length scap) from fun v h=>(h.cell (p:=⟨PB,2,none⟩) hlP).trans p2)
      have HTL:=hide (fun (V1:World) (g cap:Nat) (w1:World) (h1:Below W'.heap.size W' V1) (h2:(V1.alloc (Obj.cells #[.int .i64 (T x.1)] 3)).grownBy w1 (Value.slice so pre.length scap).ownBlock) (h3:w1.ownsRow (w.heap.size) 3 1 (.slice (some ⟨g,0,none⟩) (pre.length+1) cap) (pre.length+1) ((pre.map fun (j:Fin N)=>T j.1).map (Value.int .i64)++[.int .i64 (T x.1)]))=>XXqf (es:=#[.int .i64 (T x.1)]) (by decide) (by decide) (by decide) (by decide) (by decide) (by decide) (by decide) (B0:=W0.heap.size) (PB:=PB) i1 i2 i3 i4 i6 bX i5 (by omega) (by omega) (by omega) h1 h2 h3)
      have hWd:Below W'.heap.size W' W'.drew:=(Below.refl _ _).drew
      have HT:=hide (htell x.1 W'.drew x.2 i5.drew)
      gi_wp2_with fail
      have hSd:=HS.out _ hWd
      have p2:=HP2.out _ hWd
      refine jNnL (S:=fun v:World=>v.cell? ⟨w.heap.size+1,0,none⟩=some (.func (.func tf) #[] caps)∧v.cell? ⟨Bx,0,none⟩=some (.int .i64 (x.1 % W:Nat))∧v.cell? ⟨Bx,1,none⟩=some (.int .i64 (x.1 / W:Nat))) hmx ?nd ?no ?_
      case nd=>exact qU4N (by kernel_rfl)
      case no=>rintro ⟨_,_,h⟩;exact h
      show wpAnyH _ _ _ _ _ 9 _ _ W'.drew
      refine wpAnyH_take (i:=0) (oi:=_) (v:=.pointer (some ⟨PB,2,none⟩)) rfl (by kernel_rfl) (by kernel_rfl) (by kernel_rfl) (fun _ _ _ h=>h) (Or.inl ⟨by rfl,fun v hSv=>by obtain ⟨s2,s3,s4⟩:=hSv;go_simp⟩) hSd ?_
      simp only[Act.put]
      refine wpAnyH_take (i:=2) (oi:=_) (v:=.func (.func tf) #[] caps) rfl (by kernel_rfl) (by kernel_rfl) (by kernel_rfl) (fun _ _ _ h=>h) (Or.inl ⟨by rfl,fun v hSv=>by obtain ⟨s2,s3,s4⟩:=hSv;go_simp⟩) hSd ?_
      simp only[Act.put]
      refine wpAnyH_take (i:=3) (oi:=_) (v:=.agg #[.int .i64 (x.1 % W:Nat),.int .i64 (x.1 / W:Nat)]) rfl (by kernel_rfl) (by kernel_rfl) (by kernel_rfl) (fun _ _ _ h=>h) (Or.inl ⟨by rfl,fun v hSv=>by obtain ⟨s2,s3,s4⟩:=hSv;go_simp⟩) hSd ?_
      simp only[Act.put]
      refine wpAnyH_ready (rs:=[1,4]) (by kernel_rfl) (by simp) ?_
      refine AllReadyH.cons (o:=_) rfl (fun K hK=>?wA) (AllReadyH.cons (o:=_) rfl (fun K hK=>?wB) AllReadyH.nil)
      case wA =>
        rw[if_pos (by rfl)]
        go_simp
        refine hK.out _ _ hSd (fun _=>?_)
        clear hK
        refine wpAnyH_ready (rs:=[4]) (by kernel_rfl) (by simp) ?_
        refine AllReadyH.cons (o:=_) rfl (fun K hK=>?_) AllReadyH.nil
        rw[if_pos (by rfl)]
        go_simp
        refine HT.out.mono ?_
        rintro e V1 ⟨rfl,hb1⟩
        have hV1:Below W'.heap.size W' V1:=hWd.trans hb1
        have hSd:=HS.out _ hV1
        have p2:=HP2.out _ hV1
        refine hK.out _ _ hSd (fun _=>?_)
        clear hK
        refine wpAnyH_ready (rs:=[5]) (by kernel_rfl) (by simp) ?_
        refine AllReadyH.cons (o:=_) rfl (fun K hK=>?_) AllReadyH.nil
        rw[if_pos (by rfl)]
        go_simp
        have hV2:Below W'.heap.size W' (V1.alloc (Obj.cells #[.int .i64 (T x.1)] 3)):=hV1.trans ((qUNz _ _).mono hV1.size)
        have hSd:=HS.out _ hV2
        have p2:=HP2.out _ hV2
        refine hK.out _ _ hSd (fun _=>?_)
        clear hK
        have ho2:=((qw14 i2 hV1).alloc (Obj.cells #[.int .i64 (T x.1)] 3))
        refine wpAnyH_ready (rs:=[6]) (by kernel_rfl) (by simp) ?_
        refine AllReadyH.cons (o:=_) rfl (fun K hK=>?_) AllReadyH.nil
        refine step_append_lies _ rfl _ _ 52 rfl (w.heap.size) 3 i0 (.int .i64 0) 1 8 Tryz.underlying52 hi hz0 hz1 hz2 rfl Nat.one_pos (.slice so pre.length scap) pre.length ((pre.map fun (j:Fin N)=>T j.1).map (Value.int .i64)) rfl ho2 ⟨V1.heap.size,0,none⟩ 1 1 [.int .i64 (T x.1)] rfl rfl (fun j u hj=>by obtain ⟨rfl,rfl⟩:=X4yv hj;simp[Addr.add]) (fun u hu=>by simp at hu;subst hu;rfl) Nat.one_pos HL1.out HL2.out (Nat.le_trans hbW hV2.size) _ rfl ?_
        intro g cap w1 hown hgrow hat hltg
        obtain ⟨hSd,p2,p2f,HFIN⟩:=HTL.out V1 g cap w1 hV1 hgrow hown
        refine hK.out _ _ hSd (fun _=>?_)
        clear hK
        refine wpAnyH_ready (rs:=[7]) (by kernel_rfl) (by simp) ?_
        refine AllReadyH.cons (o:=_) rfl (fun K hK=>?_) AllReadyH.nil
        rw[if_pos (by rfl)]
        go_simp
        refine hK.out _ _ hSd (fun _=>?_)
        clear hK
        refine wpAnyH_ready (rs:=[8]) (by kernel_rfl) (by simp) ?_
        refine AllReadyH.cons (o:=_) rfl (fun K hK=>?_) AllReadyH.nil
        rw[if_pos (by rfl)]
        go_simp
        refine hK.out _ _ HFIN.1 (fun _=>?_)
        clear hK
        refine wpAnyH_done (by kernel_rfl) ?_ _
        obtain ⟨_,f1,f2,⟨v,f3,f4⟩,f5,f6,f7,f8⟩:=HFIN
        exact ⟨f1,f2,⟨v,f3,by rw[List.length_append,List.map_append,List.map_append];exact f4⟩,f5,f6,f7,f8⟩
      case wB =>
        rw[if_pos (by rfl)]
        go_simp
        refine HT.out.mono ?_
        rintro e V1 ⟨rfl,hb1⟩
        have hV1:Below W'.heap.size W' V1:=hWd.trans hb1
        have hSd:=HS.out _ hV1
        have p2:=HP2.out _ hV1
        refine hK.out _ _ hSd (fun _=>?_)
        clear hK
        refine wpAnyH_ready (rs:=[1,5]) (by kernel_rfl) (by simp) ?_
        refine AllReadyH.cons (o:=_) rfl (fun K hK=>?wC) (AllReadyH.cons (o:=_) rfl (fun K hK=>?wD) AllReadyH.nil)
        case wC =>
          rw[if_pos (by rfl)]
          go_simp
          refine hK.out _ _ hSd (fun _=>?_)
          clear hK
          refine wpAnyH_ready (rs:=[5]) (by kernel_rfl) (by simp) ?_
          refine AllReadyH.cons (o:=_) rfl (fun K hK=>?_) AllReadyH.nil
          rw[if_pos (by rfl)]
          go_simp
          have hV2:Below W'.heap.size W' (V1.alloc (Obj.cells #[.int .i64 (T x.1)] 3)):=hV1.trans ((qUNz _ _).mono hV1.size)
          have hSd:=HS.out _ hV2
          have p2:=HP2.out _ hV2
          refine hK.out _ _ hSd (fun _=>?_)
          clear hK
          have ho2:=((qw14 i2 hV1).alloc (Obj.cells #[.int .i64 (T x.1)] 3))
          refine wpAnyH_ready (rs:=[6]) (by kernel_rfl) (by simp) ?_
          refine AllReadyH.cons (o:=_) rfl (fun K hK=>?_) AllReadyH.nil
          refine step_append_lies _ rfl _ _ 52 rfl (w.heap.size) 3 i0 (.int .i64 0) 1 8 Tryz.underlying52 hi hz0 hz1 hz2 rfl Nat.one_pos (.slice so pre.length scap) pre.length ((pre.map fun (j:Fin N)=>T j.1).map (Value.int .i64)) rfl ho2 ⟨V1.heap.size,0,none⟩ 1 1 [.int .i64 (T x.1)] rfl rfl (fun j u hj=>by obtain ⟨rfl,rfl⟩:=X4yv hj;simp[Addr.add]) (fun u hu=>by simp at hu;subst hu;rfl) Nat.one_pos HL1.out HL2.out (Nat.le_trans hbW hV2.size) _ rfl ?_
          intro g cap w1 hown hgrow hat hltg
          obtain ⟨hSd,p2,p2f,HFIN⟩:=HTL.out V1 g cap w1 hV1 hgrow hown
          refine hK.out _ _ hSd (fun _=>?_)
          clear hK
          refine wpAnyH_ready (rs:=[7]) (by kernel_rfl) (by simp) ?_
          refine AllReadyH.cons (o:=_) rfl (fun K hK=>?_) AllReadyH.nil
          rw[if_pos (by rfl)]
          go_simp
          refine hK.out _ _ hSd (fun _=>?_)
          clear hK
          refine wpAnyH_ready (rs:=[8]) (by kernel_rfl) (by simp) ?_
          refine AllReadyH.cons (o:=_) rfl (fun K hK=>?_) AllReadyH.nil
          rw[if_pos (by rfl)]
          go_simp
          refine hK.out _ _ HFIN.1 (fun _=>?_)
          clear hK
          refine wpAnyH_done (by kernel_rfl) ?_ _
          obtain ⟨_,f1,f2,⟨v,f3,f4⟩,f5,f6,f7,f8⟩:=HFIN
          exact ⟨f1,f2,⟨v,f3,by rw[List.length_append,List.map_append,List.map_append];exact f4⟩,f5,f6,f7,f8⟩
        case wD =>
          rw[if_pos (by rfl)]
          go_simp
          have hV2:Below W'.heap.size W' (V1.alloc (Obj.cells #[.int .i64 (T x.1)] 3)):=hV1.trans ((qUNz _ _).mono hV1.size)
          have hSd:=HS.out _ hV2
          have p2:=HP2.out _ hV2
          refine hK.out _ _ hSd (fun _=>?_)
          clear hK
          refine wpAnyH_ready (rs:=[1]) (by kernel_rfl) (by simp) ?_
          refine AllReadyH.cons (o:=_) rfl (fun K hK=>?_) AllReadyH.nil
          rw[if_pos (by rfl)]
          go_simp
          refine hK.out _ _ hSd (fun _=>?_)
          clear hK
          have ho2:=((qw14 i2 hV1).alloc (Obj.cells #[.int .i64 (T x.1)] 3))
          refine wpAnyH_ready (rs:=[6]) (by kernel_rfl) (by simp) ?_
          refine AllReadyH.cons (o:=_) rfl (fun K hK=>?_) AllReadyH.nil
          refine step_append_lies _ rfl _ _ 52 rfl (w.heap.size) 3 i0 (.int .i64 0) 1 8 Tryz.underlying52 hi hz0 hz1 hz2 rfl Nat.one_pos (.slice so pre.length scap) pre.length ((pre.map fun (j:Fin N)=>T j.1).map (Value.int .i64)) rfl ho2 ⟨V1.heap.size,0,none⟩ 1 1 [.int .i64 (T x.1)] rfl rfl (fun j u hj=>by obtain ⟨rfl,rfl⟩:=X4yv hj;simp[Addr.add]) (fun u hu=>by simp at hu;subst hu;rfl) Nat.one_pos HL1.out HL2.out (Nat.le_trans hbW hV2.size) _ rfl ?_
          intro g cap w1 hown hgrow hat hltg
          obtain ⟨hSd,p2,p2f,HFIN⟩:=HTL.out V1 g cap w1 hV1 hgrow hown
          refine hK.out _ _ hSd (fun _=>?_)
          clear hK
          refine wpAnyH_ready (rs:=[7]) (by kernel_rfl) (by simp) ?_
          refine AllReadyH.cons (o:=_) rfl (fun K hK=>?_) AllReadyH.nil
          rw[if_pos (by rfl)]
          go_simp
          refine hK.out _ _ hSd (fun _=>?_)
          clear hK
          refine wpAnyH_ready (rs:=[8]) (by kernel_rfl) (by simp) ?_
          refine AllReadyH.cons (o:=_) rfl (fun K hK=>?_) AllReadyH.nil
          rw[if_pos (by rfl)]
          go_simp
          refine hK.out _ _ HFIN.1 (fun _=>?_)
          clear hK
          refine wpAnyH_done (by kernel_rfl) ?_ _
          obtain ⟨_,f1,f2,⟨v,f3,f4⟩,f5,f6,f7,f8⟩:=HFIN
          exact ⟨f1,f2,⟨v,f3,by rw[List.length_append,List.map_append,List.map_append];exact f4⟩,f5,f6,f7,f8⟩
    case done =>
      rintro D ys W' hD rfl ⟨⟨v,i1,i2⟩,i3,i4,i6,i5⟩ hK
      have p0:W'.cell? ⟨PB,0,none⟩=some (.int .i64 W):=by rw[Lib.cell_of_heap i1];rfl
      have p1:W'.cell? ⟨PB,1,none⟩=some (.int .i64 H):=by rw[Lib.cell_of_heap i1];rfl
      have p2:W'.cell? ⟨PB,2,none⟩=some v:=by rw[Lib.cell_of_heap i1];rfl
      have r0:W'.cell? ⟨w.heap.size+1+1,0,none⟩=some (.int .i64 0):=by rw[Lib.cell_of_heap i4];rfl
      have r1:W'.cell? ⟨w.heap.size+1+1,1,none⟩=some (.int .i64 0):=by rw[Lib.cell_of_heap i4];rfl
      have r2:W'.cell? ⟨w.heap.size+1+1,2,none⟩=some (.slice none 0 0):=by rw[Lib.cell_of_heap i4];rfl
      have f0:W'.frozen? ⟨w.heap.size+1+1,0,none⟩=false:=Lib.frozen_of_heap i4 0
      have f1:W'.frozen? ⟨w.heap.size+1+1,1,none⟩=false:=Lib.frozen_of_heap i4 1
      have f2:W'.frozen? ⟨w.heap.size+1+1,2,none⟩=false:=Lib.frozen_of_heap i4 2
      obtain ⟨ao,cap,rfl⟩:=XPKi i2
      gi_wp2
      obtain ⟨x1,x2,x3,x4⟩:=X0Wz i4 (.int .i64 W) (.int .i64 H) (.slice ao (List.finRange N).length cap) w (by omega) i5
      have i2':=jNsf x2 (qYYy i2 i4 (by decide)) i2
      have hDr:D≠w.heap.size+2:=fun e=>by rw[e,i4] at hK;cases hK
      replace hK:=(x2 D hDr).trans hK
      simp only[List.length_finRange] at x1 x2 x3 x4 i2' hK
      generalize ((W'.setCell ⟨w.heap.size+1+1,0,none⟩ (.int .i64 W)).setCell ⟨w.heap.size+1+1,1,none⟩ (.int .i64 H)).setCell ⟨w.heap.size+1+1,2,none⟩ (.slice ao N cap)=X at *
      refine ⟨by simp,.inl ⟨_,_,rfl,run_takeDeferred hK,?_⟩⟩
      have y1:=(World.putObj_heap_other (w:=X) (o:=.deferred none) (Ne.symm hDr)).trans x1
      have y2:=ownsRow_putObj i2' (.deferred none) hK rfl
      have y3:Below w.heap.size w (X.putObj D (.deferred none)):=x4.trans (belowK_b (w:=w) (Nat.le_refl _) X D _ _ (by omega) hK rfl rfl)
      have c0:(X.putObj D (.deferred none)).cell? ⟨w.heap.size+1+1,0,none⟩=some (.int .i64 W):=by rw[Lib.cell_of_heap y1];rfl
      have c1:(X.putObj D (.deferred none)).cell? ⟨w.heap.size+1+1,1,none⟩=some (.int .i64 H):=by rw[Lib.cell_of_heap y1];rfl
      have c2:(X.putObj D (.deferred none)).cell? ⟨w.heap.size+1+1,2,none⟩=some (.slice ao N cap):=by rw[Lib.cell_of_heap y1];rfl
      generalize X.putObj D (.deferred none)=Z at *
      refine ⟨.agg #[.int .i64 W,.int .i64 H,.slice ao N cap],by simp[results,Tryz.results255,go_sem,c0,c1,c2],.slice ao N cap,rfl,?_,y3,Fresh.own (by simpa using y2)⟩
      rw[←zhtE N T]
      exact jCvT.own (base:=w.heap.size) (by simpa using y2) (by simp;omega)
    case stop=>rintro D c pre W' _ _ h _;exact h.elim
end Go.Proofs.YtfjeonehdlphiaaGreatDoor

namespace Go.Proofs.YtfjeonehdlphiaaGreatDoor
set_option linter.unusedVariables false
open Go.RowKit
def zBza (zs:List Int) (W:Nat) (m:Nat→Int) (white:Int) (j:Nat):Int:=jeC7 ((zAt zs j-m (j / W % 2*2+j % W % 2))*65535 / (white-m (j / W % 2*2+j % W % 2)))
def gainV (zs:List Int) (W p:Nat) (m:Nat→Int) (j:Nat):Int:=jeC7 (zAt zs j*m (colV p (j % W) (j / W)) / 256)
theorem Xmh1 (p X Y:Nat):colV p X Y<3:=by unfold colV;split<;>omega
set_option maxRecDepth 100000 in
set_option maxHeartbeats 1600000 in
theorem Xq1h (W H j bk off ca:Nat) (hW1:1≤W) (hW:W≤64) (hH:H≤64) (zs:List Int) (hlen:zs.length=H*W) (hzs:allIn 0 65535 zs=true) (hj:j<zs.length) (m:Nat→Int) (white:Int) (hw0:white≤65535) (hm:∀k,k<4→0≤m k∧m k≤white-1) (Bb Bp Bg Bw:Nat) (w:World) (hBp:Bp<w.heap.size) (hBg:Bg<w.heap.size) (hbk:bk<w.heap.size)
  (k2:w.cell? ⟨Bp,2,none⟩=some (.slice (some ⟨bk,off,none⟩) zs.length ca)) (g0:w.cell? ⟨Bg,0,none⟩=some (.int .i64 W)) (g1:w.cell? ⟨Bg,1,none⟩=some (.int .i64 H)) (hBb:Bb<w.heap.size) (hBw:Bw<w.heap.size) (kb:∀k,k<4→w.cell? ⟨Bb,k,none⟩=some (.int .i64 (m k))) (kw:w.cell? ⟨Bw,0,none⟩=some (.int .i64 white))
  (hcell:∀j,j<zs.length→w.cell? ⟨bk,off+j,none⟩=some (.int .i64 (zAt zs j))) :
  Calls Tryz.prog 256 #[.agg #[.int .i64 (j % W:Nat),.int .i64 (j / W:Nat)],.pointer (some ⟨Bb,0,none⟩),.pointer (some ⟨Bp,0,none⟩),.pointer (some ⟨Bg,0,none⟩),.pointer (some ⟨Bw,0,none⟩)] w fun e w'=>e=.returned (.int .i64 (zBza zs W m white j))∧Below w.heap.size w w':=by
 have HT:=hide (show zBza zs W m white j=jeC7 ((zAt zs j-m (j / W % 2*2+j % W % 2))*65535 / (white-m (j / W % 2*2+j % W % 2))) from rfl)
 generalize zBza zs W m white j=RES at *
 have hl4:zs.length≤4096:=by rw[hlen];exact Nat.le_trans (Nat.mul_le_mul hH hW) (by decide)
 obtain ⟨X,hX⟩:∃X,j % W=X:=⟨_,rfl⟩
 obtain ⟨Y,hY⟩:∃Y,j / W=Y:=⟨_,rfl⟩
 have hk:Y*W+X=j:=by rw[←hX,←hY,Nat.mul_comm];exact Nat.div_add_mod j W
 have HIX:=hide (fun v=>XSSj W H X Y W j rfl hk (by omega) v)
 have hzr:=XWrv hzs j
 have hcz:=hcell j hj
 have hjI:(j:Int)<(zs.length:Int):=by omega
 rw[hX,hY] at HT
 rw[hX,hY]
 obtain ⟨a,ha⟩:∃a,Y % 2=a:=⟨_,rfl⟩
 obtain ⟨b,hb⟩:∃b,X % 2=b:=⟨_,rfl⟩
 have hya:(Y:Int) % 2=(a:Int):=by rw[←ha];rfl
 have hxb:(X:Int) % 2=(b:Int):=by rw[←hb];rfl
 obtain ⟨A2,hA2⟩:∃A2,a*2=A2:=⟨_,rfl⟩
 have hi1:(a:Int)*2=(A2:Int):=by omega
 obtain ⟨ix,hix⟩:∃ix,A2+b=ix:=⟨_,rfl⟩
 have hi2:(A2:Int)+(b:Int)=(ix:Int):=by omega
 have hix4:ix<4:=by omega
 have hixI:(ix:Int)<4:=by omega
 rw[ha,hb,hA2,hix] at HT
 obtain ⟨hm0,hm1⟩:=hm ix hix4
 have kb0:=kb ix hix4
 obtain ⟨bl,hbl⟩:∃bl,m ix=bl:=⟨_,rfl⟩
 rw[hbl] at HT hm0 hm1 kb0
 obtain ⟨z,hz⟩:∃z,zAt zs j=z:=⟨_,rfl⟩
 rw[hz] at HT hzr hcz
 obtain ⟨hz1,hz2⟩:=hzr
 obtain ⟨d,hd⟩:∃d,white-bl=d:=⟨_,rfl⟩
 rw[hd] at HT
 have hd1:1≤d:=by omega
 have hd0:¬(d=0):=by omega
 obtain ⟨n,hn⟩:∃n,(z-bl)*65535=n:=⟨_,rfl⟩
 rw[hn,←zj0b n d (by omega)] at HT
 have hn1:-4294967296≤n∧n≤4294967296:=by omega
 have hf:=qFLz n d (by omega)
 have hr1:-4294967296≤n / d:=Int.le_ediv_of_mul_le (by omega) (by omega)
 have hr2:n / d≤4294967296:=Int.ediv_le_of_le_mul (by omega) (by omega)
 obtain ⟨q,hq⟩:∃q,n.tdiv d=q:=⟨_,rfl⟩
 rw[hq] at HT hf
 have hqr:-4294967297≤q∧q≤4294967298:=by omega
 obtain ⟨hq1,hq2⟩:=hqr
 have hwd:IntKind.i64.wrap (white-bl)=d:=by rw[hd];exact IntWalk.i64_in _ (by omega)
 have hwd2:IntKind.i64.wrap d=d:=IntWalk.i64_in _ (by omega)
 have hwe:IntKind.i64.wrap (z-bl)=z-bl:=IntWalk.i64_in _ (by omega)
 have hwn:IntKind.i64.wrap n=n:=IntWalk.i64_in _ (by omega)
 have hwq:IntKind.i64.wrap q=q:=IntWalk.i64_in _ (by omega)
 clear hf hr1 hr2 hX hY ha hb hA2 hix hbl hz hk hlen hcell hm kb hzs
 have HB:=hide (qUNz w (Obj.cells #[.int .i64 X,.int .i64 Y] 97))
 have a1:=al1 w (Obj.cells #[.int .i64 X,.int .i64 Y] 97)
 have kb1:=(HB.out.cell (p:=⟨Bb,ix,none⟩) hBb).trans kb0
 obtain ⟨s0,s1⟩:=bx2 a1
 go_enter Tryz.func256,Tryz.ntmps256
 go_wp2_with fail
 have hl1:=(Array.getElem?_eq_some_iff.1 a1).1
 generalize w.alloc (Obj.cells #[.int .i64 X,.int .i64 Y] 97)=U at *
 have HS:=hide (show ∀v,Below U.heap.size U v→v.cell? ⟨Bp,2,none⟩=some (.slice (some ⟨bk,off,none⟩) zs.length ca)∧v.cell? ⟨Bg,0,none⟩=some (.int .i64 W)∧v.cell? ⟨Bg,1,none⟩=some (.int .i64 H)∧v.cell? ⟨w.heap.size,0,none⟩=some (.int .i64 X)∧v.cell? ⟨w.heap.size,1,none⟩=some (.int .i64 Y)∧v.cell? ⟨bk,off+j,none⟩=some (.int .i64 z)∧v.cell? ⟨Bw,0,none⟩=some (.int .i64 white) from fun v h=>by
  have hw:=HB.out.trans (h.mono HB.out.size)
  obtain ⟨y0,y1⟩:=bx2 ((h.block _ hl1).trans a1)
  exact ⟨(hw.cell (p:=⟨Bp,2,none⟩) hBp).trans k2,(hw.cell (p:=⟨Bg,0,none⟩) hBg).trans g0,(hw.cell (p:=⟨Bg,1,none⟩) hBg).trans g1,y0,y1,(hw.cell (p:=⟨bk,off+j,none⟩) hbk).trans hcz,(hw.cell (p:=⟨Bw,0,none⟩) hBw).trans kw⟩)
 have hWd:Below U.heap.size U U.drew:=(Below.refl _ _).drew
 have hSd:=HS.out _ hWd
 clear s0 s1
 have hmx:Tryz.prog.follows .mixedOrders=true:=by kernel_rfl
 refine qYgd (S:=fun v:World=>v.cell? ⟨Bp,2,none⟩=some (.slice (some ⟨bk,off,none⟩) zs.length ca)∧v.cell? ⟨Bg,0,none⟩=some (.int .i64 W)∧v.cell? ⟨Bg,1,none⟩=some (.int .i64 H)∧v.cell? ⟨w.heap.size,0,none⟩=some (.int .i64 X)∧v.cell? ⟨w.heap.size,1,none⟩=some (.int .i64 Y)∧v.cell? ⟨bk,off+j,none⟩=some (.int .i64 z)∧v.cell? ⟨Bw,0,none⟩=some (.int .i64 white)) (f:=15) hmx ?_
 show jZdv _ _ _ _ _ _ 16 _ _ U.drew
 refine zB2j (i:=0) (oi:=_) (v:=?vv1) (some 18) rfl rfl (by kernel_rfl) (by kernel_rfl) (by kernel_rfl) (by kernel_rfl) (by kernel_rfl) (fun _ _ _ h=>h) (Or.inl ⟨by rfl,?yy1⟩) hSd ?rr1
 case yy1=>(intro wq hSq;obtain ⟨_,_,_,_,_,_,_⟩:=hSq;go_simp<;>with_reducible rfl)
 simp only[Act.put,List.setIfInBounds_toArray,List.set_cons_succ,List.set_cons_zero]
 refine zB2j (i:=2) (oi:=_) (v:=?vv2) (some 20) rfl rfl (by kernel_rfl) (by kernel_rfl) (by kernel_rfl) (by kernel_rfl) (by kernel_rfl) (fun _ _ _ h=>h) (Or.inl ⟨by rfl,?yy2⟩) hSd ?rr2
 case yy2=>(intro wq hSq;obtain ⟨_,_,_,_,_,_,_⟩:=hSq;go_simp<;>with_reducible rfl)
 simp only[Act.put,List.setIfInBounds_toArray,List.set_cons_succ,List.set_cons_zero]
 refine zB2j (i:=3) (oi:=_) (v:=?vv3) (some 21) rfl rfl (by kernel_rfl) (by kernel_rfl) (by kernel_rfl) (by kernel_rfl) (by kernel_rfl) (fun _ _ _ h=>h) (Or.inl ⟨by rfl,?yy3⟩) hSd ?rr3
 case yy3=>(intro wq hSq;obtain ⟨_,_,_,_,_,_,_⟩:=hSq;go_simp<;>with_reducible rfl)
 simp only[Act.put,List.setIfInBounds_toArray,List.set_cons_succ,List.set_cons_zero]
 refine zB2j (i:=7) (oi:=_) (v:=?vv4) (some 25) rfl rfl (by kernel_rfl) (by kernel_rfl) (by kernel_rfl) (by kernel_rfl) (by kernel_rfl) (fun _ _ _ h=>h) (Or.inl ⟨by rfl,?yy4⟩) hSd ?rr4
 case yy4=>(intro wq hSq;obtain ⟨_,_,_,_,_,_,_⟩:=hSq;go_simp<;>with_reducible rfl)
 simp only[Act.put,List.setIfInBounds_toArray,List.set_cons_succ,List.set_cons_zero]
 refine zB2j (i:=10) (oi:=_) (v:=?vv5) (some 28) rfl rfl (by kernel_rfl) (by kernel_rfl) (by kernel_rfl) (by kernel_rfl) (by kernel_rfl) (fun _ _ _ h=>h) (Or.inl ⟨by rfl,?yy5⟩) hSd ?rr5
 case yy5=>(intro wq hSq;obtain ⟨_,_,_,_,_,_,_⟩:=hSq;go_simp<;>with_reducible rfl)
 simp only[Act.put,List.setIfInBounds_toArray,List.set_cons_succ,List.set_cons_zero]
 refine zB2j (i:=11) (oi:=_) (v:=?vv6) (some 29) rfl rfl (by kernel_rfl) (by kernel_rfl) (by kernel_rfl) (by kernel_rfl) (by kernel_rfl) (fun _ _ _ h=>h) (Or.inl ⟨by rfl,?yy6⟩) hSd ?rr6
 case yy6=>(intro wq hSq;obtain ⟨_,_,_,_,_,_,_⟩:=hSq;go_simp<;>with_reducible rfl)
 simp only[Act.put,List.setIfInBounds_toArray,List.set_cons_succ,List.set_cons_zero]
 refine zB2j (i:=1) (oi:=_) (v:=?vv7) (some 19) rfl rfl (by kernel_rfl) (by kernel_rfl) (by kernel_rfl) (by kernel_rfl) (by kernel_rfl) (fun _ _ _ h=>h) (Or.inl ⟨by rfl,?yy7⟩) hSd ?rr7
 case yy7=>(intro wq hSq;obtain ⟨_,_,_,_,_,_,_⟩:=hSq;go_simp<;>with_reducible rfl)
 simp only[Act.put,List.setIfInBounds_toArray,List.set_cons_succ,List.set_cons_zero]
 refine zB2j (i:=12) (oi:=_) (v:=?vv8) (some 30) rfl rfl (by kernel_rfl) (by kernel_rfl) (by kernel_rfl) (by kernel_rfl) (by kernel_rfl) (fun _ _ _ h=>h) (Or.inl ⟨by rfl,?yy8⟩) hSd ?rr8
 case yy8=>(intro wq hSq;obtain ⟨_,_,_,_,_,_,_⟩:=hSq;go_simp<;>with_reducible rfl)
 simp only[Act.put,List.setIfInBounds_toArray,List.set_cons_succ,List.set_cons_zero]
 refine znWj (i:=4) (o:=_) (by kernel_rfl) rfl (fun K' hK=>?_)
 rw[if_pos (by rfl)]
 go_simp
 refine (HIX.out _).mono ?_
 rintro e V1 ⟨rfl,hbv⟩
 have hB1:Below U.heap.size U V1:=hWd.trans (hbv.mono hWd.size)
 have hSd:=HS.out _ hB1
 refine hK.out _ _ hSd ?_
 clear hK
 try simp only[Act.put]
 refine zB2j (i:=5) (oi:=_) (v:=?vv9) (some 23) rfl rfl (by kernel_rfl) (by kernel_rfl) (by kernel_rfl) (by kernel_rfl) (by kernel_rfl) (fun _ _ _ h=>h) (Or.inl ⟨by rfl,?yy9⟩) hSd ?rr9
 case yy9=>(intro wq hSq;obtain ⟨_,_,_,_,_,_,_⟩:=hSq;go_simp<;>with_reducible rfl)
 simp only[Act.put,List.setIfInBounds_toArray,List.set_cons_succ,List.set_cons_zero]
 refine zB2j (i:=6) (oi:=_) (v:=?vv10) (some 24) rfl rfl (by kernel_rfl) (by kernel_rfl) (by kernel_rfl) (by kernel_rfl) (by kernel_rfl) (fun _ _ _ h=>h) (Or.inl ⟨by rfl,?yy10⟩) hSd ?rr10
 case yy10=>(intro wq hSq;obtain ⟨_,_,_,_,_,_,_⟩:=hSq;go_simp<;>with_reducible rfl)
 simp only[Act.put,List.setIfInBounds_toArray,List.set_cons_succ,List.set_cons_zero]
 refine zB2j (i:=8) (oi:=_) (v:=?vv11) (some 26) rfl rfl (by kernel_rfl) (by kernel_rfl) (by kernel_rfl) (by kernel_rfl) (by kernel_rfl) (fun _ _ _ h=>h) (Or.inl ⟨by rfl,?yy11⟩) hSd ?rr11
 case yy11=>(intro wq hSq;obtain ⟨_,_,_,_,_,_,_⟩:=hSq;go_simp<;>with_reducible rfl)
 simp only[Act.put,List.setIfInBounds_toArray,List.set_cons_succ,List.set_cons_zero]
 refine zB2j (i:=9) (oi:=_) (v:=?vv12) (some 27) rfl rfl (by kernel_rfl) (by kernel_rfl) (by kernel_rfl) (by kernel_rfl) (by kernel_rfl) (fun _ _ _ h=>h) (Or.inl ⟨by rfl,?yy12⟩) hSd ?rr12
 case yy12=>(intro wq hSq;obtain ⟨_,_,_,_,_,_,_⟩:=hSq;go_simp<;>with_reducible rfl)
 simp only[Act.put,List.setIfInBounds_toArray,List.set_cons_succ,List.set_cons_zero]
 refine zB2j (i:=13) (oi:=_) (v:=?vv13) (some 31) rfl rfl (by kernel_rfl) (by kernel_rfl) (by kernel_rfl) (by kernel_rfl) (by kernel_rfl) (fun _ _ _ h=>h) (Or.inl ⟨by rfl,?yy13⟩) hSd ?rr13
 case yy13=>(intro wq hSq;obtain ⟨_,_,_,_,_,_,_⟩:=hSq;go_simp<;>with_reducible rfl)
 simp only[Act.put,List.setIfInBounds_toArray,List.set_cons_succ,List.set_cons_zero]
 refine znWj (i:=14) (o:=_) (by kernel_rfl) rfl (fun K' hK=>?_)
 rw[if_pos (by rfl)]
 go_simp
 refine (Xgzp _ _).mono ?_
 rintro e Vx ⟨rfl,rfl⟩
 have hSd:=hSd
 refine hK.out _ _ hSd ?_
 clear hK
 try simp only[Act.put]
 refine z9gO (o:=_) (by kernel_rfl) rfl (fun K' hK=>?_)
 rw[if_pos (by rfl)]
 go_simp
 refine hK.out _ _ ?_
 clear hK
 refine jFdp (by kernel_rfl) ?_ _
 try simp only[Act.put]
 go_wp2
 go_ret
 exact ⟨jx9N HT.out.symm,HB.out.trans (hB1.mono HB.out.size)⟩
set_option maxRecDepth 100000 in
set_option maxHeartbeats 1600000 in
theorem zrmA (W H j bk off ca:Nat) (hW1:1≤W) (hW:W≤64) (hH:H≤64) (zs:List Int) (hlen:zs.length=H*W) (hzs:allIn 0 65535 zs=true) (hj:j<zs.length) (p:Nat) (hp:p≤3) (m:Nat→Int) (hm:∀k,k<3→0≤m k∧m k≤65535) (Bh Bp Bg Bm:Nat) (w:World) (hBp:Bp<w.heap.size) (hBg:Bg<w.heap.size) (hbk:bk<w.heap.size)
  (k2:w.cell? ⟨Bp,2,none⟩=some (.slice (some ⟨bk,off,none⟩) zs.length ca)) (g0:w.cell? ⟨Bg,0,none⟩=some (.int .i64 W)) (g1:w.cell? ⟨Bg,1,none⟩=some (.int .i64 H)) (hBh:Bh<w.heap.size) (hBm:Bm<w.heap.size) (kh:w.cell? ⟨Bh,0,none⟩=some (.int .i64 p)) (km:∀k,k<3→w.cell? ⟨Bm,k,none⟩=some (.int .i64 (m k)))
  (hcell:∀j,j<zs.length→w.cell? ⟨bk,off+j,none⟩=some (.int .i64 (zAt zs j))) :
  Calls Tryz.prog 266 #[.agg #[.int .i64 (j % W:Nat),.int .i64 (j / W:Nat)],.pointer (some ⟨Bh,0,none⟩),.pointer (some ⟨Bp,0,none⟩),.pointer (some ⟨Bg,0,none⟩),.pointer (some ⟨Bm,0,none⟩)] w fun e w'=>e=.returned (.int .i64 (gainV zs W p m j))∧Below w.heap.size w w':=by
 have HT:=hide (show gainV zs W p m j=jeC7 (zAt zs j*m (colV p (j % W) (j / W)) / 256) from rfl)
 generalize gainV zs W p m j=RES at *
 have hl4:zs.length≤4096:=by rw[hlen];exact Nat.le_trans (Nat.mul_le_mul hH hW) (by decide)
 obtain ⟨X,hX⟩:∃X,j % W=X:=⟨_,rfl⟩
 obtain ⟨Y,hY⟩:∃Y,j / W=Y:=⟨_,rfl⟩
 have hk:Y*W+X=j:=by rw[←hX,←hY,Nat.mul_comm];exact Nat.div_add_mod j W
 have HIX:=hide (fun v=>XSSj W H X Y W j rfl hk (by omega) v)
 have hzr:=XWrv hzs j
 have hcz:=hcell j hj
 have hjI:(j:Int)<(zs.length:Int):=by omega
 rw[hX,hY] at HT
 rw[hX,hY]
 have HCO:=hide (fun v=>XW0z p X Y hp v)
 have hc3:=Xmh1 p X Y
 obtain ⟨c,hc⟩:∃c,colV p X Y=c:=⟨_,rfl⟩
 rw[hc] at HCO HT hc3
 have hcI:(c:Int)<3:=by omega
 obtain ⟨hm0,hm1⟩:=hm c hc3
 have km0:=km c hc3
 obtain ⟨gn,hgn⟩:∃gn,m c=gn:=⟨_,rfl⟩
 rw[hgn] at HT hm0 hm1 km0
 obtain ⟨z,hz⟩:∃z,zAt zs j=z:=⟨_,rfl⟩
 rw[hz] at HT hzr hcz
 obtain ⟨hz1,hz2⟩:=hzr
 have hn0:0≤z*gn:=Int.mul_nonneg hz1 hm0
 have hn1:z*gn≤65535*65535:=Int.mul_le_mul hz2 hm1 hm0 (by omega)
 obtain ⟨n,hn⟩:∃n,z*gn=n:=⟨_,rfl⟩
 rw[hn] at HT hn0 hn1
 have hq0:=Int.tdiv_eq_ediv_of_nonneg (b:=256) hn0
 rw[←hq0] at HT
 have hqr:0≤n.tdiv 256∧n.tdiv 256≤4294967296:=by rw[hq0];omega
 obtain ⟨q,hq⟩:∃q,n.tdiv 256=q:=⟨_,rfl⟩
 rw[hq] at HT hqr
 obtain ⟨hq1,hq2⟩:=hqr
 have hq3:n / 256=q:=by rw[←hq0];exact hq
 have hwn:IntKind.i64.wrap n=n:=IntWalk.i64_in _ (by omega)
 have hwq:IntKind.i64.wrap q=q:=IntWalk.i64_in _ (by omega)
 clear hq0 hX hY hc hgn hz hk hlen hcell hm km hzs
 have HB:=hide (qUNz w (Obj.cells #[.int .i64 X,.int .i64 Y] 97))
 have a1:=al1 w (Obj.cells #[.int .i64 X,.int .i64 Y] 97)
 have kh1:=(HB.out.cell (p:=⟨Bh,0,none⟩) hBh).trans kh
 obtain ⟨s0,s1⟩:=bx2 a1
 go_enter Tryz.func266,Tryz.ntmps266
 go_wp2_with fail
 have hl1:=(Array.getElem?_eq_some_iff.1 a1).1
 have hB0:=HB
 generalize w.alloc (Obj.cells #[.int .i64 X,.int .i64 Y] 97)=U0 at *
 refine (HCO.out _).mono ?_
 rintro e U ⟨rfl,hbU⟩
 replace HB:=hide (HB.out.trans (hbU.mono HB.out.size))
 replace a1:=(hbU.block _ hl1).trans a1
 replace hl1:=(Array.getElem?_eq_some_iff.1 a1).1
 go_wp2_with fail
 clear kh1 hbU hB0
 have HS:=hide (show ∀v,Below U.heap.size U v→v.cell? ⟨Bp,2,none⟩=some (.slice (some ⟨bk,off,none⟩) zs.length ca)∧v.cell? ⟨Bg,0,none⟩=some (.int .i64 W)∧v.cell? ⟨Bg,1,none⟩=some (.int .i64 H)∧v.cell? ⟨w.heap.size,0,none⟩=some (.int .i64 X)∧v.cell? ⟨w.heap.size,1,none⟩=some (.int .i64 Y)∧v.cell? ⟨bk,off+j,none⟩=some (.int .i64 z)∧v.cell? ⟨Bm,c,none⟩=some (.int .i64 gn) from fun v h=>by
  have hw:=HB.out.trans (h.mono HB.out.size)
  obtain ⟨y0,y1⟩:=bx2 ((h.block _ hl1).trans a1)
  exact ⟨(hw.cell (p:=⟨Bp,2,none⟩) hBp).trans k2,(hw.cell (p:=⟨Bg,0,none⟩) hBg).trans g0,(hw.cell (p:=⟨Bg,1,none⟩) hBg).trans g1,y0,y1,(hw.cell (p:=⟨bk,off+j,none⟩) hbk).trans hcz,(hw.cell (p:=⟨Bm,c,none⟩) hBm).trans km0⟩)
 have hWd:Below U.heap.size U U.drew:=(Below.refl _ _).drew
 have hSd:=HS.out _ hWd
 clear s0 s1
 have hmx:Tryz.prog.follows .mixedOrders=true:=by kernel_rfl
 refine qYgd (S:=fun v:World=>v.cell? ⟨Bp,2,none⟩=some (.slice (some ⟨bk,off,none⟩) zs.length ca)∧v.cell? ⟨Bg,0,none⟩=some (.int .i64 W)∧v.cell? ⟨Bg,1,none⟩=some (.int .i64 H)∧v.cell? ⟨w.heap.size,0,none⟩=some (.int .i64 X)∧v.cell? ⟨w.heap.size,1,none⟩=some (.int .i64 Y)∧v.cell? ⟨bk,off+j,none⟩=some (.int .i64 z)∧v.cell? ⟨Bm,c,none⟩=some (.int .i64 gn)) (f:=13) hmx ?_
 show jZdv _ _ _ _ _ _ 14 _ _ U.drew
 refine zB2j (i:=0) (oi:=_) (v:=?vv14) (some 18) rfl rfl (by kernel_rfl) (by kernel_rfl) (by kernel_rfl) (by kernel_rfl) (by kernel_rfl) (fun _ _ _ h=>h) (Or.inl ⟨by rfl,?yy14⟩) hSd ?rr14
 case yy14=>(intro wq hSq;obtain ⟨_,_,_,_,_,_,_⟩:=hSq;go_simp<;>with_reducible rfl)
 simp only[Act.put,List.setIfInBounds_toArray,List.set_cons_succ,List.set_cons_zero]
 refine zB2j (i:=2) (oi:=_) (v:=?vv15) (some 20) rfl rfl (by kernel_rfl) (by kernel_rfl) (by kernel_rfl) (by kernel_rfl) (by kernel_rfl) (fun _ _ _ h=>h) (Or.inl ⟨by rfl,?yy15⟩) hSd ?rr15
 case yy15=>(intro wq hSq;obtain ⟨_,_,_,_,_,_,_⟩:=hSq;go_simp<;>with_reducible rfl)
 simp only[Act.put,List.setIfInBounds_toArray,List.set_cons_succ,List.set_cons_zero]
 refine zB2j (i:=3) (oi:=_) (v:=?vv16) (some 21) rfl rfl (by kernel_rfl) (by kernel_rfl) (by kernel_rfl) (by kernel_rfl) (by kernel_rfl) (fun _ _ _ h=>h) (Or.inl ⟨by rfl,?yy16⟩) hSd ?rr16
 case yy16=>(intro wq hSq;obtain ⟨_,_,_,_,_,_,_⟩:=hSq;go_simp<;>with_reducible rfl)
 simp only[Act.put,List.setIfInBounds_toArray,List.set_cons_succ,List.set_cons_zero]
 refine zB2j (i:=7) (oi:=_) (v:=?vv17) (some 25) rfl rfl (by kernel_rfl) (by kernel_rfl) (by kernel_rfl) (by kernel_rfl) (by kernel_rfl) (fun _ _ _ h=>h) (Or.inl ⟨by rfl,?yy17⟩) hSd ?rr17
 case yy17=>(intro wq hSq;obtain ⟨_,_,_,_,_,_,_⟩:=hSq;go_simp<;>with_reducible rfl)
 simp only[Act.put,List.setIfInBounds_toArray,List.set_cons_succ,List.set_cons_zero]
 refine zB2j (i:=1) (oi:=_) (v:=?vv18) (some 19) rfl rfl (by kernel_rfl) (by kernel_rfl) (by kernel_rfl) (by kernel_rfl) (by kernel_rfl) (fun _ _ _ h=>h) (Or.inl ⟨by rfl,?yy18⟩) hSd ?rr18
 case yy18=>(intro wq hSq;obtain ⟨_,_,_,_,_,_,_⟩:=hSq;go_simp<;>with_reducible rfl)
 simp only[Act.put,List.setIfInBounds_toArray,List.set_cons_succ,List.set_cons_zero]
 refine zB2j (i:=8) (oi:=_) (v:=?vv19) (some 26) rfl rfl (by kernel_rfl) (by kernel_rfl) (by kernel_rfl) (by kernel_rfl) (by kernel_rfl) (fun _ _ _ h=>h) (Or.inl ⟨by rfl,?yy19⟩) hSd ?rr19
 case yy19=>(intro wq hSq;obtain ⟨_,_,_,_,_,_,_⟩:=hSq;go_simp<;>with_reducible rfl)
 simp only[Act.put,List.setIfInBounds_toArray,List.set_cons_succ,List.set_cons_zero]
 refine zB2j (i:=9) (oi:=_) (v:=?vv20) (some 27) rfl rfl (by kernel_rfl) (by kernel_rfl) (by kernel_rfl) (by kernel_rfl) (by kernel_rfl) (fun _ _ _ h=>h) (Or.inl ⟨by rfl,?yy20⟩) hSd ?rr20
 case yy20=>(intro wq hSq;obtain ⟨_,_,_,_,_,_,_⟩:=hSq;go_simp<;>with_reducible rfl)
 simp only[Act.put,List.setIfInBounds_toArray,List.set_cons_succ,List.set_cons_zero]
 refine znWj (i:=4) (o:=_) (by kernel_rfl) rfl (fun K' hK=>?_)
 rw[if_pos (by rfl)]
 go_simp
 refine (HIX.out _).mono ?_
 rintro e V1 ⟨rfl,hbv⟩
 have hB1:Below U.heap.size U V1:=hWd.trans (hbv.mono hWd.size)
 have hSd:=HS.out _ hB1
 refine hK.out _ _ hSd ?_
 clear hK
 try simp only[Act.put]
 refine zB2j (i:=5) (oi:=_) (v:=?vv21) (some 23) rfl rfl (by kernel_rfl) (by kernel_rfl) (by kernel_rfl) (by kernel_rfl) (by kernel_rfl) (fun _ _ _ h=>h) (Or.inl ⟨by rfl,?yy21⟩) hSd ?rr21
 case yy21=>(intro wq hSq;obtain ⟨_,_,_,_,_,_,_⟩:=hSq;go_simp<;>with_reducible rfl)
 simp only[Act.put,List.setIfInBounds_toArray,List.set_cons_succ,List.set_cons_zero]
 refine zB2j (i:=6) (oi:=_) (v:=?vv22) (some 24) rfl rfl (by kernel_rfl) (by kernel_rfl) (by kernel_rfl) (by kernel_rfl) (by kernel_rfl) (fun _ _ _ h=>h) (Or.inl ⟨by rfl,?yy22⟩) hSd ?rr22
 case yy22=>(intro wq hSq;obtain ⟨_,_,_,_,_,_,_⟩:=hSq;go_simp<;>with_reducible rfl)
 simp only[Act.put,List.setIfInBounds_toArray,List.set_cons_succ,List.set_cons_zero]
 refine zB2j (i:=10) (oi:=_) (v:=?vv23) (some 28) rfl rfl (by kernel_rfl) (by kernel_rfl) (by kernel_rfl) (by kernel_rfl) (by kernel_rfl) (fun _ _ _ h=>h) (Or.inl ⟨by rfl,?yy23⟩) hSd ?rr23
 case yy23=>(intro wq hSq;obtain ⟨_,_,_,_,_,_,_⟩:=hSq;go_simp<;>with_reducible rfl)
 simp only[Act.put,List.setIfInBounds_toArray,List.set_cons_succ,List.set_cons_zero]
 refine zB2j (i:=11) (oi:=_) (v:=?vv24) (some 29) rfl rfl (by kernel_rfl) (by kernel_rfl) (by kernel_rfl) (by kernel_rfl) (by kernel_rfl) (fun _ _ _ h=>h) (Or.inl ⟨by rfl,?yy24⟩) hSd ?rr24
 case yy24=>(intro wq hSq;obtain ⟨_,_,_,_,_,_,_⟩:=hSq;go_simp<;>with_reducible rfl)
 simp only[Act.put,List.setIfInBounds_toArray,List.set_cons_succ,List.set_cons_zero]
 refine znWj (i:=12) (o:=_) (by kernel_rfl) rfl (fun K' hK=>?_)
 rw[if_pos (by rfl)]
 go_simp
 refine (Xgzp _ _).mono ?_
 rintro e Vx ⟨rfl,rfl⟩
 have hSd:=hSd
 refine hK.out _ _ hSd ?_
 clear hK
 try simp only[Act.put]
 refine z9gO (o:=_) (by kernel_rfl) rfl (fun K' hK=>?_)
 rw[if_pos (by rfl)]
 go_simp
 refine hK.out _ _ ?_
 clear hK
 refine jFdp (by kernel_rfl) ?_ _
 try simp only[Act.put]
 go_wp2
 go_ret
 exact ⟨jx9N HT.out.symm,HB.out.trans (hB1.mono HB.out.size)⟩
end Go.Proofs.YtfjeonehdlphiaaGreatDoor

namespace Go.Proofs.YtfjeonehdlphiaaGreatDoor
set_option linter.unusedVariables false
open Go.RowKit
theorem XZeB {w:World} {b:Nat} {t:TypeId} {fr:Nat×Nat} {m:Nat→Int} (h:w.heap[b]?=some (.cells (fourA m) t fr)) :
  w.cell? ⟨b,0,none⟩=some (.int .i64 (m 0))∧w.cell? ⟨b,1,none⟩=some (.int .i64 (m 1))∧w.cell? ⟨b,2,none⟩=some (.int .i64 (m 2))∧w.cell? ⟨b,3,none⟩=some (.int .i64 (m 3)) :=
 ⟨by rw[Lib.cell_of_heap h];rfl,by rw[Lib.cell_of_heap h];rfl,by rw[Lib.cell_of_heap h];rfl,by rw[Lib.cell_of_heap h];rfl⟩
def levE (W H:Int) (zs:List Int) (m:Nat→Int) (white:Int):Int:=if q0fM W H zs=true then (if zN6Q m white=true then 0 else 3) else 1
def levL (W:Int) (zs:List Int) (m:Nat→Int) (white:Int):List Int:=(List.range zs.length).map (zBza zs W.toNat m white)
set_option maxRecDepth 100000 in
set_option maxHeartbeats 1600000 in
theorem XDBp (W H:Int) (v:Value) (zs:List Int) (m:Nat→Int) (white:Int) (w:World) (hv:jCvT w v zs) :
  Calls Tryz.prog 254 #[.agg #[.int .i64 W,.int .i64 H,v],.agg (fourA m),.int .i64 white] w fun e w'=>∃r,e=.returned (.tuple #[.agg #[.int .i64 (okW (levE W H zs m white) W),.int .i64 (okW (levE W H zs m white) H),r],.int .i64 (levE W H zs m white)])∧jCvT w' r (okL (levE W H zs m white) (levL W zs m white))∧Below w.heap.size w w'∧Fresh w.heap.size r:=by
 have HV:=hide hv
 obtain ⟨E,hE⟩:∃E,levE W H zs m white=E:=⟨_,rfl⟩
 rw[hE]
 by_cases hp:q0fM W H zs=true
 ·by_cases hph:zN6Q m white=true
  ·have he:E=0:=by rw[←hE,levE,if_pos hp,if_pos hph]
   subst he
   clear hE
   obtain ⟨⟨w1,w2⟩,⟨h1,h2⟩,hl,_⟩:=qwcI hp
   have hz:=XAOl hp
   have hph3:=hph
   rw[zN6Q,Bool.and_eq_true] at hph3
   have hph2:1≤white∧white≤65535:=by simpa using hph3.1
   have HMM:=hide (fun k (hk:k<4)=>XL98 hph3.2 k hk)
   have hsm:=zAFj ⟨w1,w2⟩ ⟨h1,h2⟩
   have hn1:1≤zs.length:=by omega
   obtain ⟨bk,off,ca,rfl,hbk,hcell⟩:=hv.cells hn1
   obtain ⟨WN,rfl⟩:=Int.eq_ofNat_of_zero_le (show 0≤W by omega)
   obtain ⟨HN,rfl⟩:=Int.eq_ofNat_of_zero_le (show 0≤H by omega)
   have HLEN:=hide (show zs.length=HN*WN by rw[Nat.mul_comm];exact_mod_cast hl)
   have HZ:=hide hz
   have HC:=hide hcell
   rw[show okW 0 (WN:Int)=WN from rfl,show okW 0 (HN:Int)=HN from rfl,show okL 0 (levL (WN:Int) zs m white)=(List.range zs.length).map (zBza zs WN m white) from rfl]
   clear hl hz hcell hsm hv hph3
   go_enter Tryz.func254,Tryz.ntmps254
   go_wp2_with fail
   obtain ⟨a1,a2,a3,a4⟩:=al4 w (Obj.cells #[.int .i64 (WN:Nat),.int .i64 (HN:Nat),.slice (some ⟨bk,off,none⟩) zs.length ca] 54) (Obj.cells (fourA m) 45) (Obj.cells #[.int .i64 white] 3) (Obj.cells #[.int .i64 0,.int .i64 0,.slice none 0 0] 54)
   have hB:=be4 w (Obj.cells #[.int .i64 (WN:Nat),.int .i64 (HN:Nat),.slice (some ⟨bk,off,none⟩) zs.length ca] 54) (Obj.cells (fourA m) 45) (Obj.cells #[.int .i64 white] 3) (Obj.cells #[.int .i64 0,.int .i64 0,.slice none 0 0] 54)
   have hs3:((((w.alloc (Obj.cells #[.int .i64 (WN:Nat),.int .i64 (HN:Nat),.slice (some ⟨bk,off,none⟩) zs.length ca] 54)).alloc (Obj.cells (fourA m) 45)).alloc (Obj.cells #[.int .i64 white] 3)).alloc (Obj.cells #[.int .i64 0,.int .i64 0,.slice none 0 0] 54)).heap.size=w.heap.size+4:=by simp
   generalize (((w.alloc (Obj.cells #[.int .i64 (WN:Nat),.int .i64 (HN:Nat),.slice (some ⟨bk,off,none⟩) zs.length ca] 54)).alloc (Obj.cells (fourA m) 45)).alloc (Obj.cells #[.int .i64 white] 3)).alloc (Obj.cells #[.int .i64 0,.int .i64 0,.slice none 0 0] 54)=U at *
   refine (XeC7 WN HN _ zs _ (HV.out.below hB (Nat.le_refl _))).mono ?_
   rintro e w1 ⟨rfl,hb1⟩
   rw[hp]
   have g4:=(hb1.block (w.heap.size+3) (by omega)).trans a4
   obtain ⟨n0,n1,n2,n3⟩:=XZeB ((hb1.block (w.heap.size+1) (by omega)).trans a2)
   have g3:=bx1 ((hb1.block (w.heap.size+1+1) (by omega)).trans a3)
   go_wp2_with fail
   refine (zO8p m white _).mono ?_
   rintro e w2 ⟨rfl,hb2⟩
   rw[hph]
   clear n0 n1 n2 n3 g3
   replace hb2:=quJN hb1 hb2
   replace g4:=(hb2.block (w.heap.size+3) (by omega)).trans a4
   obtain ⟨p0,p1,p2⟩:=z5EY ((hb2.block (w.heap.size) (by omega)).trans a1)
   go_wp2_with fail
   have hbG:=quJN hb2 (qUNz w2 (Obj.cells #[.int .i64 (WN:Nat),.int .i64 (HN:Nat)] 95))
   have aG:=al1 w2 (Obj.cells #[.int .i64 (WN:Nat),.int .i64 (HN:Nat)] 95)
   have hlG:=(Array.getElem?_eq_some_iff.1 aG).1
   have hs2:=hb2.size
   clear p0 p1 p2
   generalize w2.alloc (Obj.cells #[.int .i64 (WN:Nat),.int .i64 (HN:Nat)] 95)=w2g at *
   refine (zPMW WN HN zs.length (by omega) (by omega) HLEN.out 256 #[.pointer (some ⟨w.heap.size+1,0,none⟩),.pointer (some ⟨w.heap.size,0,none⟩),.pointer (some ⟨w2.heap.size,0,none⟩),.pointer (some ⟨w.heap.size+1+1,0,none⟩)] (zBza zs WN m white) _ (enters_of Tryz.func256 (by kernel_rfl) rfl) ?_).mono ?_
   ·intro j V hj hV
    have hb3:=quJN hbG hV
    have hbw:=hB.trans (hb3.mono hB.size)
    obtain ⟨e0,e1,e2⟩:=z5EY ((hb3.block (w.heap.size) (by omega)).trans a1)
    have e3:=bx1 ((hb3.block (w.heap.size+2) (by omega)).trans a3)
    have e6:=(hb3.block (w.heap.size+1) (by omega)).trans a2
    obtain ⟨e4,e5⟩:=bx2 ((hV.block w2.heap.size hlG).trans aG)
    have hs:=hb3.size
    have hsV:=hV.size
    exact Xq1h WN HN j bk off ca (by omega) (by omega) (by omega) zs HLEN.out HZ.out hj m white (by omega) (fun k hk=>HMM.out k hk) (w.heap.size+1) w.heap.size w2.heap.size (w.heap.size+2) V (by omega) (by omega) (Nat.lt_of_lt_of_le hbk hbw.size) e2 e4 e5 (by omega) (by omega) (fun k hk=>by rw[Lib.cell_of_heap e6,zh9q m k hk]) e3 (fun i hi=>(hbw.cell (p:=⟨bk,off+i,none⟩) hbk).trans (HC.out i hi))
   ·rintro e w3 ⟨r,rfl,hr,hb3,hfr⟩
    replace hb3:=quJN hbG hb3
    replace g4:=(hb3.block (w.heap.size+3) (by omega)).trans a4
    obtain ⟨z0,z1,z2⟩:=z5EY (b:=w.heap.size+1+1+1) g4
    have f0:=Lib.frozen_of_heap (b:=w.heap.size+1+1+1) g4 0
    have f1:=Lib.frozen_of_heap (b:=w.heap.size+1+1+1) g4 1
    have f2:=Lib.frozen_of_heap (b:=w.heap.size+1+1+1) g4 2
    have HR:=hide hr
    obtain ⟨ro,rc,rfl,_,_⟩:=hr
    have HFIN:=hide (zHqh (hB.trans (hb3.mono hB.size)) (show w.heap.size≤w.heap.size+1+1+1 by omega) (.int .i64 (WN:Nat)) (.int .i64 (HN:Nat)) (.slice ro ((List.range zs.length).map (zBza zs WN m white)).length rc))
    have hsG:=hbG.size
    have HPX2:=hide (HR.out.set3 hfr (show w.heap.size+1+1+1<w2g.heap.size by omega) (.int .i64 (WN:Nat)) (.int .i64 (HN:Nat)) (.slice ro ((List.range zs.length).map (zBza zs WN m white)).length rc))
    rw[List.length_map,List.length_range] at HPX2 HFIN hfr
    rw[List.length_map,List.length_range]
    go_wp2
    exact bodyPost_ret (v:=.tuple #[.agg #[.int .i64 (WN:Nat),.int .i64 (HN:Nat),.slice ro zs.length rc],.int .i64 0]) (by simp[results,Tryz.results254,go_sem,z0,z1,z2]) rfl ⟨_,rfl,HPX2.out,HFIN.out,hfr.mono (by omega)⟩
  ·have he:E=3:=by rw[←hE,levE,if_pos hp,if_neg hph]
   have hph:zN6Q m white=false:=by simpa using hph
   subst he
   clear hE
   obtain ⟨ao,ca,rfl,_,_⟩:=hv
   go_enter Tryz.func254,Tryz.ntmps254
   go_wp2_with fail
   obtain ⟨a1,a2,a3,a4⟩:=al4 w (Obj.cells #[.int .i64 W,.int .i64 H,.slice ao zs.length ca] 54) (Obj.cells (fourA m) 45) (Obj.cells #[.int .i64 white] 3) (Obj.cells #[.int .i64 0,.int .i64 0,.slice none 0 0] 54)
   have hB:=be4 w (Obj.cells #[.int .i64 W,.int .i64 H,.slice ao zs.length ca] 54) (Obj.cells (fourA m) 45) (Obj.cells #[.int .i64 white] 3) (Obj.cells #[.int .i64 0,.int .i64 0,.slice none 0 0] 54)
   have hs3:((((w.alloc (Obj.cells #[.int .i64 W,.int .i64 H,.slice ao zs.length ca] 54)).alloc (Obj.cells (fourA m) 45)).alloc (Obj.cells #[.int .i64 white] 3)).alloc (Obj.cells #[.int .i64 0,.int .i64 0,.slice none 0 0] 54)).heap.size=w.heap.size+4:=by simp
   generalize (((w.alloc (Obj.cells #[.int .i64 W,.int .i64 H,.slice ao zs.length ca] 54)).alloc (Obj.cells (fourA m) 45)).alloc (Obj.cells #[.int .i64 white] 3)).alloc (Obj.cells #[.int .i64 0,.int .i64 0,.slice none 0 0] 54)=U at *
   refine (XeC7 W H _ zs _ (HV.out.below hB (Nat.le_refl _))).mono ?_
   rintro e w1 ⟨rfl,hb1⟩
   rw[hp]
   have g4:=(hb1.block (w.heap.size+3) (by omega)).trans a4
   obtain ⟨n0,n1,n2,n3⟩:=XZeB ((hb1.block (w.heap.size+1) (by omega)).trans a2)
   have g3:=bx1 ((hb1.block (w.heap.size+1+1) (by omega)).trans a3)
   go_wp2_with fail
   refine (zO8p m white _).mono ?_
   rintro e w2 ⟨rfl,hb2⟩
   rw[hph]
   clear n0 n1 n2 n3 g3
   replace hb2:=quJN hb1 hb2
   replace g4:=(hb2.block (w.heap.size+3) (by omega)).trans a4
   obtain ⟨z0,z1,z2⟩:=z5EY (b:=w.heap.size+1+1+1) g4
   have f0:=Lib.frozen_of_heap (b:=w.heap.size+1+1+1) g4 0
   have f1:=Lib.frozen_of_heap (b:=w.heap.size+1+1+1) g4 1
   have f2:=Lib.frozen_of_heap (b:=w.heap.size+1+1+1) g4 2
   have HFIN:=hide (zHqh (hB.trans (hb2.mono hB.size)) (show w.heap.size≤w.heap.size+1+1+1 by omega) (.int .i64 0) (.int .i64 0) (.slice none 0 0))
   go_wp2
   exact bodyPost_ret (v:=.tuple #[.agg #[.int .i64 0,.int .i64 0,.slice none 0 0],.int .i64 3]) (by simp[results,Tryz.results254,go_sem,z0,z1,z2]) rfl ⟨.slice none 0 0,rfl,jCvT.nil _,HFIN.out,Fresh.nil _⟩
 ·have he:E=1:=by rw[←hE,levE,if_neg hp]
  have hp:q0fM W H zs=false:=by simpa using hp
  subst he
  clear hE
  obtain ⟨ao,ca,rfl,_,_⟩:=hv
  go_enter Tryz.func254,Tryz.ntmps254
  go_wp2_with fail
  obtain ⟨a1,a2,a3,a4⟩:=al4 w (Obj.cells #[.int .i64 W,.int .i64 H,.slice ao zs.length ca] 54) (Obj.cells (fourA m) 45) (Obj.cells #[.int .i64 white] 3) (Obj.cells #[.int .i64 0,.int .i64 0,.slice none 0 0] 54)
  have hB:=be4 w (Obj.cells #[.int .i64 W,.int .i64 H,.slice ao zs.length ca] 54) (Obj.cells (fourA m) 45) (Obj.cells #[.int .i64 white] 3) (Obj.cells #[.int .i64 0,.int .i64 0,.slice none 0 0] 54)
  have hs3:((((w.alloc (Obj.cells #[.int .i64 W,.int .i64 H,.slice ao zs.length ca] 54)).alloc (Obj.cells (fourA m) 45)).alloc (Obj.cells #[.int .i64 white] 3)).alloc (Obj.cells #[.int .i64 0,.int .i64 0,.slice none 0 0] 54)).heap.size=w.heap.size+4:=by simp
  generalize (((w.alloc (Obj.cells #[.int .i64 W,.int .i64 H,.slice ao zs.length ca] 54)).alloc (Obj.cells (fourA m) 45)).alloc (Obj.cells #[.int .i64 white] 3)).alloc (Obj.cells #[.int .i64 0,.int .i64 0,.slice none 0 0] 54)=U at *
  refine (XeC7 W H _ zs _ (HV.out.below hB (Nat.le_refl _))).mono ?_
  rintro e w1 ⟨rfl,hb1⟩
  rw[hp]
  have g4:=(hb1.block (w.heap.size+3) (by omega)).trans a4
  generalize w1=w2 at *
  have hb2:=hb1
  obtain ⟨z0,z1,z2⟩:=z5EY (b:=w.heap.size+1+1+1) g4
  have f0:=Lib.frozen_of_heap (b:=w.heap.size+1+1+1) g4 0
  have f1:=Lib.frozen_of_heap (b:=w.heap.size+1+1+1) g4 1
  have f2:=Lib.frozen_of_heap (b:=w.heap.size+1+1+1) g4 2
  have HFIN:=hide (zHqh (hB.trans (hb2.mono hB.size)) (show w.heap.size≤w.heap.size+1+1+1 by omega) (.int .i64 0) (.int .i64 0) (.slice none 0 0))
  go_wp2
  exact bodyPost_ret (v:=.tuple #[.agg #[.int .i64 0,.int .i64 0,.slice none 0 0],.int .i64 1]) (by simp[results,Tryz.results254,go_sem,z0,z1,z2]) rfl ⟨.slice none 0 0,rfl,jCvT.nil _,HFIN.out,Fresh.nil _⟩
end Go.Proofs.YtfjeonehdlphiaaGreatDoor

namespace Go.Proofs.YtfjeonehdlphiaaGreatDoor
set_option linter.unusedVariables false
open Go.RowKit
def gaiE (W H:Int) (zs:List Int) (phase:Int) (m:Nat→Int):Int:=if q0fM W H zs=true then (if qdne phase=true∧j1E7 m=true then 0 else 3) else 1
def gaiL (W:Int) (zs:List Int) (phase:Int) (m:Nat→Int):List Int:=(List.range zs.length).map (gainV zs W.toNat phase.toNat m)
set_option maxRecDepth 100000 in
set_option maxHeartbeats 1600000 in
theorem zHt1 (W H:Int) (v:Value) (zs:List Int) (phase:Int) (m:Nat→Int) (w:World) (hv:jCvT w v zs) :
  Calls Tryz.prog 265 #[.agg #[.int .i64 W,.int .i64 H,v],.int .i64 phase,.agg (qilW m)] w fun e w'=>∃r,e=.returned (.tuple #[.agg #[.int .i64 (okW (gaiE W H zs phase m) W),.int .i64 (okW (gaiE W H zs phase m) H),r],.int .i64 (gaiE W H zs phase m)])∧jCvT w' r (okL (gaiE W H zs phase m) (gaiL W zs phase m))∧Below w.heap.size w w'∧Fresh w.heap.size r:=by
 have HV:=hide hv
 obtain ⟨E,hE⟩:∃E,gaiE W H zs phase m=E:=⟨_,rfl⟩
 rw[hE]
 by_cases hp:q0fM W H zs=true
 ·by_cases hph:qdne phase=true
  ·by_cases hgn:j1E7 m=true
   ·have he:E=0:=by rw[←hE,gaiE,if_pos hp,if_pos ⟨hph,hgn⟩]
    subst he
    clear hE
    obtain ⟨⟨w1,w2⟩,⟨h1,h2⟩,hl,_⟩:=qwcI hp
    have hz:=XAOl hp
    have hph2:0≤phase∧phase≤3:=by simpa [qdne] using hph
    have HMM:=hide (fun k (hk:k<3)=>XL98 hgn k hk)
    have hsm:=zAFj ⟨w1,w2⟩ ⟨h1,h2⟩
    have hn1:1≤zs.length:=by omega
    obtain ⟨bk,off,ca,rfl,hbk,hcell⟩:=hv.cells hn1
    obtain ⟨WN,rfl⟩:=Int.eq_ofNat_of_zero_le (show 0≤W by omega)
    obtain ⟨HN,rfl⟩:=Int.eq_ofNat_of_zero_le (show 0≤H by omega)
    obtain ⟨PN,rfl⟩:=Int.eq_ofNat_of_zero_le hph2.1
    have HLEN:=hide (show zs.length=HN*WN by rw[Nat.mul_comm];exact_mod_cast hl)
    have HZ:=hide hz
    have HC:=hide hcell
    rw[show okW 0 (WN:Int)=WN from rfl,show okW 0 (HN:Int)=HN from rfl,show okL 0 (gaiL (WN:Int) zs (PN:Int) m)=(List.range zs.length).map (gainV zs WN PN m) from rfl]
    clear hl hz hcell hsm hv
    go_enter Tryz.func265,Tryz.ntmps265
    go_wp2_with fail
    obtain ⟨a1,a2,a3,a4⟩:=al4 w (Obj.cells #[.int .i64 (WN:Nat),.int .i64 (HN:Nat),.slice (some ⟨bk,off,none⟩) zs.length ca] 54) (Obj.cells #[.int .i64 (PN:Nat)] 3) (Obj.cells (qilW m) 47) (Obj.cells #[.int .i64 0,.int .i64 0,.slice none 0 0] 54)
    have hB:=be4 w (Obj.cells #[.int .i64 (WN:Nat),.int .i64 (HN:Nat),.slice (some ⟨bk,off,none⟩) zs.length ca] 54) (Obj.cells #[.int .i64 (PN:Nat)] 3) (Obj.cells (qilW m) 47) (Obj.cells #[.int .i64 0,.int .i64 0,.slice none 0 0] 54)
    have hs3:((((w.alloc (Obj.cells #[.int .i64 (WN:Nat),.int .i64 (HN:Nat),.slice (some ⟨bk,off,none⟩) zs.length ca] 54)).alloc (Obj.cells #[.int .i64 (PN:Nat)] 3)).alloc (Obj.cells (qilW m) 47)).alloc (Obj.cells #[.int .i64 0,.int .i64 0,.slice none 0 0] 54)).heap.size=w.heap.size+4:=by simp
    generalize (((w.alloc (Obj.cells #[.int .i64 (WN:Nat),.int .i64 (HN:Nat),.slice (some ⟨bk,off,none⟩) zs.length ca] 54)).alloc (Obj.cells #[.int .i64 (PN:Nat)] 3)).alloc (Obj.cells (qilW m) 47)).alloc (Obj.cells #[.int .i64 0,.int .i64 0,.slice none 0 0] 54)=U at *
    refine (XeC7 WN HN _ zs _ (HV.out.below hB (Nat.le_refl _))).mono ?_
    rintro e w1 ⟨rfl,hb1⟩
    rw[hp]
    have g4:=(hb1.block (w.heap.size+3) (by omega)).trans a4
    have g2:=bx1 ((hb1.block (w.heap.size+1) (by omega)).trans a2)
    go_wp2_with fail
    refine (qtgz _ _).mono ?_
    rintro e w2 ⟨rfl,hb2⟩
    rw[hph]
    clear g2
    replace hb2:=quJN hb1 hb2
    replace g4:=(hb2.block (w.heap.size+3) (by omega)).trans a4
    obtain ⟨n0,n1,n2⟩:=z5EY (b:=w.heap.size+1+1) ((hb2.block (w.heap.size+2) (by omega)).trans a3)
    go_wp2_with fail
    refine (XByj m _).mono ?_
    rintro e w2b ⟨rfl,hb2b⟩
    rw[hgn]
    clear n0 n1 n2
    replace hb2:=quJN hb2 hb2b
    clear hb2b
    generalize w2b=w2 at *
    replace g4:=(hb2.block (w.heap.size+3) (by omega)).trans a4
    obtain ⟨p0,p1,p2⟩:=z5EY ((hb2.block (w.heap.size) (by omega)).trans a1)
    go_wp2_with fail
    have hbG:=quJN hb2 (qUNz w2 (Obj.cells #[.int .i64 (WN:Nat),.int .i64 (HN:Nat)] 95))
    have aG:=al1 w2 (Obj.cells #[.int .i64 (WN:Nat),.int .i64 (HN:Nat)] 95)
    have hlG:=(Array.getElem?_eq_some_iff.1 aG).1
    have hs2:=hb2.size
    clear p0 p1 p2
    generalize w2.alloc (Obj.cells #[.int .i64 (WN:Nat),.int .i64 (HN:Nat)] 95)=w2g at *
    refine (zPMW WN HN zs.length (by omega) (by omega) HLEN.out 266 #[.pointer (some ⟨w.heap.size+1,0,none⟩),.pointer (some ⟨w.heap.size,0,none⟩),.pointer (some ⟨w2.heap.size,0,none⟩),.pointer (some ⟨w.heap.size+1+1,0,none⟩)] (gainV zs WN PN m) _ (enters_of Tryz.func266 (by kernel_rfl) rfl) ?_).mono ?_
    ·intro j V hj hV
     have hb3:=quJN hbG hV
     have hbw:=hB.trans (hb3.mono hB.size)
     obtain ⟨e0,e1,e2⟩:=z5EY ((hb3.block (w.heap.size) (by omega)).trans a1)
     have e3:=bx1 ((hb3.block (w.heap.size+1) (by omega)).trans a2)
     have e6:=(hb3.block (w.heap.size+2) (by omega)).trans a3
     obtain ⟨e4,e5⟩:=bx2 ((hV.block w2.heap.size hlG).trans aG)
     have hs:=hb3.size
     have hsV:=hV.size
     exact zrmA WN HN j bk off ca (by omega) (by omega) (by omega) zs HLEN.out HZ.out hj PN (by omega) m (fun k hk=>HMM.out k hk) (w.heap.size+1) w.heap.size w2.heap.size (w.heap.size+2) V (by omega) (by omega) (Nat.lt_of_lt_of_le hbk hbw.size) e2 e4 e5 (by omega) (by omega) e3 (fun k hk=>by rw[Lib.cell_of_heap e6,jscf m k hk]) (fun i hi=>(hbw.cell (p:=⟨bk,off+i,none⟩) hbk).trans (HC.out i hi))
    ·rintro e w3 ⟨r,rfl,hr,hb3,hfr⟩
     replace hb3:=quJN hbG hb3
     replace g4:=(hb3.block (w.heap.size+3) (by omega)).trans a4
     obtain ⟨z0,z1,z2⟩:=z5EY (b:=w.heap.size+1+1+1) g4
     have f0:=Lib.frozen_of_heap (b:=w.heap.size+1+1+1) g4 0
     have f1:=Lib.frozen_of_heap (b:=w.heap.size+1+1+1) g4 1
     have f2:=Lib.frozen_of_heap (b:=w.heap.size+1+1+1) g4 2
     have HR:=hide hr
     obtain ⟨ro,rc,rfl,_,_⟩:=hr
     have HFIN:=hide (zHqh (hB.trans (hb3.mono hB.size)) (show w.heap.size≤w.heap.size+1+1+1 by omega) (.int .i64 (WN:Nat)) (.int .i64 (HN:Nat)) (.slice ro ((List.range zs.length).map (gainV zs WN PN m)).length rc))
     have hsG:=hbG.size
     have HPX2:=hide (HR.out.set3 hfr (show w.heap.size+1+1+1<w2g.heap.size by omega) (.int .i64 (WN:Nat)) (.int .i64 (HN:Nat)) (.slice ro ((List.range zs.length).map (gainV zs WN PN m)).length rc))
     rw[List.length_map,List.length_range] at HPX2 HFIN hfr
     rw[List.length_map,List.length_range]
     go_wp2
     exact bodyPost_ret (v:=.tuple #[.agg #[.int .i64 (WN:Nat),.int .i64 (HN:Nat),.slice ro zs.length rc],.int .i64 0]) (by simp[results,Tryz.results265,go_sem,z0,z1,z2]) rfl ⟨_,rfl,HPX2.out,HFIN.out,hfr.mono (by omega)⟩
   ·have he:E=3:=by rw[←hE,gaiE,if_pos hp,if_neg (fun h=>hgn h.2)]
    have hgn:j1E7 m=false:=by simpa using hgn
    subst he
    clear hE
    obtain ⟨ao,ca,rfl,_,_⟩:=hv
    go_enter Tryz.func265,Tryz.ntmps265
    go_wp2_with fail
    obtain ⟨a1,a2,a3,a4⟩:=al4 w (Obj.cells #[.int .i64 W,.int .i64 H,.slice ao zs.length ca] 54) (Obj.cells #[.int .i64 phase] 3) (Obj.cells (qilW m) 47) (Obj.cells #[.int .i64 0,.int .i64 0,.slice none 0 0] 54)
    have hB:=be4 w (Obj.cells #[.int .i64 W,.int .i64 H,.slice ao zs.length ca] 54) (Obj.cells #[.int .i64 phase] 3) (Obj.cells (qilW m) 47) (Obj.cells #[.int .i64 0,.int .i64 0,.slice none 0 0] 54)
    have hs3:((((w.alloc (Obj.cells #[.int .i64 W,.int .i64 H,.slice ao zs.length ca] 54)).alloc (Obj.cells #[.int .i64 phase] 3)).alloc (Obj.cells (qilW m) 47)).alloc (Obj.cells #[.int .i64 0,.int .i64 0,.slice none 0 0] 54)).heap.size=w.heap.size+4:=by simp
    generalize (((w.alloc (Obj.cells #[.int .i64 W,.int .i64 H,.slice ao zs.length ca] 54)).alloc (Obj.cells #[.int .i64 phase] 3)).alloc (Obj.cells (qilW m) 47)).alloc (Obj.cells #[.int .i64 0,.int .i64 0,.slice none 0 0] 54)=U at *
    refine (XeC7 W H _ zs _ (HV.out.below hB (Nat.le_refl _))).mono ?_
    rintro e w1 ⟨rfl,hb1⟩
    rw[hp]
    have g4:=(hb1.block (w.heap.size+3) (by omega)).trans a4
    have g2:=bx1 ((hb1.block (w.heap.size+1) (by omega)).trans a2)
    go_wp2_with fail
    refine (qtgz _ _).mono ?_
    rintro e w2 ⟨rfl,hb2⟩
    rw[hph]
    clear g2
    replace hb2:=quJN hb1 hb2
    replace g4:=(hb2.block (w.heap.size+3) (by omega)).trans a4
    obtain ⟨n0,n1,n2⟩:=z5EY (b:=w.heap.size+1+1) ((hb2.block (w.heap.size+2) (by omega)).trans a3)
    go_wp2_with fail
    refine (XByj m _).mono ?_
    rintro e w2b ⟨rfl,hb2b⟩
    rw[hgn]
    clear n0 n1 n2
    replace hb2:=quJN hb2 hb2b
    clear hb2b
    generalize w2b=w2 at *
    replace g4:=(hb2.block (w.heap.size+3) (by omega)).trans a4
    obtain ⟨z0,z1,z2⟩:=z5EY (b:=w.heap.size+1+1+1) g4
    have f0:=Lib.frozen_of_heap (b:=w.heap.size+1+1+1) g4 0
    have f1:=Lib.frozen_of_heap (b:=w.heap.size+1+1+1) g4 1
    have f2:=Lib.frozen_of_heap (b:=w.heap.size+1+1+1) g4 2
    have HFIN:=hide (zHqh (hB.trans (hb2.mono hB.size)) (show w.heap.size≤w.heap.size+1+1+1 by omega) (.int .i64 0) (.int .i64 0) (.slice none 0 0))
    go_wp2
    exact bodyPost_ret (v:=.tuple #[.agg #[.int .i64 0,.int .i64 0,.slice none 0 0],.int .i64 3]) (by simp[results,Tryz.results265,go_sem,z0,z1,z2]) rfl ⟨.slice none 0 0,rfl,jCvT.nil _,HFIN.out,Fresh.nil _⟩
  ·have he:E=3:=by rw[←hE,gaiE,if_pos hp,if_neg (fun h=>hph h.1)]
   have hph:qdne phase=false:=by simpa using hph
   subst he
   clear hE
   obtain ⟨ao,ca,rfl,_,_⟩:=hv
   go_enter Tryz.func265,Tryz.ntmps265
   go_wp2_with fail
   obtain ⟨a1,a2,a3,a4⟩:=al4 w (Obj.cells #[.int .i64 W,.int .i64 H,.slice ao zs.length ca] 54) (Obj.cells #[.int .i64 phase] 3) (Obj.cells (qilW m) 47) (Obj.cells #[.int .i64 0,.int .i64 0,.slice none 0 0] 54)
   have hB:=be4 w (Obj.cells #[.int .i64 W,.int .i64 H,.slice ao zs.length ca] 54) (Obj.cells #[.int .i64 phase] 3) (Obj.cells (qilW m) 47) (Obj.cells #[.int .i64 0,.int .i64 0,.slice none 0 0] 54)
   have hs3:((((w.alloc (Obj.cells #[.int .i64 W,.int .i64 H,.slice ao zs.length ca] 54)).alloc (Obj.cells #[.int .i64 phase] 3)).alloc (Obj.cells (qilW m) 47)).alloc (Obj.cells #[.int .i64 0,.int .i64 0,.slice none 0 0] 54)).heap.size=w.heap.size+4:=by simp
   generalize (((w.alloc (Obj.cells #[.int .i64 W,.int .i64 H,.slice ao zs.length ca] 54)).alloc (Obj.cells #[.int .i64 phase] 3)).alloc (Obj.cells (qilW m) 47)).alloc (Obj.cells #[.int .i64 0,.int .i64 0,.slice none 0 0] 54)=U at *
   refine (XeC7 W H _ zs _ (HV.out.below hB (Nat.le_refl _))).mono ?_
   rintro e w1 ⟨rfl,hb1⟩
   rw[hp]
   have g4:=(hb1.block (w.heap.size+3) (by omega)).trans a4
   have g2:=bx1 ((hb1.block (w.heap.size+1) (by omega)).trans a2)
   go_wp2_with fail
   refine (qtgz _ _).mono ?_
   rintro e w2 ⟨rfl,hb2⟩
   rw[hph]
   clear g2
   replace hb2:=quJN hb1 hb2
   replace g4:=(hb2.block (w.heap.size+3) (by omega)).trans a4
   obtain ⟨z0,z1,z2⟩:=z5EY (b:=w.heap.size+1+1+1) g4
   have f0:=Lib.frozen_of_heap (b:=w.heap.size+1+1+1) g4 0
   have f1:=Lib.frozen_of_heap (b:=w.heap.size+1+1+1) g4 1
   have f2:=Lib.frozen_of_heap (b:=w.heap.size+1+1+1) g4 2
   have HFIN:=hide (zHqh (hB.trans (hb2.mono hB.size)) (show w.heap.size≤w.heap.size+1+1+1 by omega) (.int .i64 0) (.int .i64 0) (.slice none 0 0))
   go_wp2
   exact bodyPost_ret (v:=.tuple #[.agg #[.int .i64 0,.int .i64 0,.slice none 0 0],.int .i64 3]) (by simp[results,Tryz.results265,go_sem,z0,z1,z2]) rfl ⟨.slice none 0 0,rfl,jCvT.nil _,HFIN.out,Fresh.nil _⟩
 ·have he:E=1:=by rw[←hE,gaiE,if_neg hp]
  have hp:q0fM W H zs=false:=by simpa using hp
  subst he
  clear hE
  obtain ⟨ao,ca,rfl,_,_⟩:=hv
  go_enter Tryz.func265,Tryz.ntmps265
  go_wp2_with fail
  obtain ⟨a1,a2,a3,a4⟩:=al4 w (Obj.cells #[.int .i64 W,.int .i64 H,.slice ao zs.length ca] 54) (Obj.cells #[.int .i64 phase] 3) (Obj.cells (qilW m) 47) (Obj.cells #[.int .i64 0,.int .i64 0,.slice none 0 0] 54)
  have hB:=be4 w (Obj.cells #[.int .i64 W,.int .i64 H,.slice ao zs.length ca] 54) (Obj.cells #[.int .i64 phase] 3) (Obj.cells (qilW m) 47) (Obj.cells #[.int .i64 0,.int .i64 0,.slice none 0 0] 54)
  have hs3:((((w.alloc (Obj.cells #[.int .i64 W,.int .i64 H,.slice ao zs.length ca] 54)).alloc (Obj.cells #[.int .i64 phase] 3)).alloc (Obj.cells (qilW m) 47)).alloc (Obj.cells #[.int .i64 0,.int .i64 0,.slice none 0 0] 54)).heap.size=w.heap.size+4:=by simp
  generalize (((w.alloc (Obj.cells #[.int .i64 W,.int .i64 H,.slice ao zs.length ca] 54)).alloc (Obj.cells #[.int .i64 phase] 3)).alloc (Obj.cells (qilW m) 47)).alloc (Obj.cells #[.int .i64 0,.int .i64 0,.slice none 0 0] 54)=U at *
  refine (XeC7 W H _ zs _ (HV.out.below hB (Nat.le_refl _))).mono ?_
  rintro e w1 ⟨rfl,hb1⟩
  rw[hp]
  have g4:=(hb1.block (w.heap.size+3) (by omega)).trans a4
  generalize w1=w2 at *
  have hb2:=hb1
  obtain ⟨z0,z1,z2⟩:=z5EY (b:=w.heap.size+1+1+1) g4
  have f0:=Lib.frozen_of_heap (b:=w.heap.size+1+1+1) g4 0
  have f1:=Lib.frozen_of_heap (b:=w.heap.size+1+1+1) g4 1
  have f2:=Lib.frozen_of_heap (b:=w.heap.size+1+1+1) g4 2
  have HFIN:=hide (zHqh (hB.trans (hb2.mono hB.size)) (show w.heap.size≤w.heap.size+1+1+1 by omega) (.int .i64 0) (.int .i64 0) (.slice none 0 0))
  go_wp2
  exact bodyPost_ret (v:=.tuple #[.agg #[.int .i64 0,.int .i64 0,.slice none 0 0],.int .i64 1]) (by simp[results,Tryz.results265,go_sem,z0,z1,z2]) rfl ⟨.slice none 0 0,rfl,jCvT.nil _,HFIN.out,Fresh.nil _⟩
end Go.Proofs.YtfjeonehdlphiaaGreatDoor

namespace Go.Proofs.YtfjeonehdlphiaaGreatDoor
open Go.RowKit Go.Shelf
attribute [local go_sem] Oper.semAt_some
def crDx (k:Nat):Int:=if k=1 then -2 else if k=2 then 2 else 0
def crDy (k:Nat):Int:=if k=0 then -2 else if k=3 then 2 else 0
def crX (X:Nat) (x:Fin 4):Int:=(X:Int)+crDx x.1
def crY (Y:Nat) (x:Fin 4):Int:=(Y:Int)+crDy x.1
theorem cr0 (w:World):(Instr.index 296 (.agg #[.int .i64 0,.int .i64 (-2),.int .i64 (-2),.int .i64 0,.int .i64 2,.int .i64 0,.int .i64 0,.int .i64 2]) (.int .i64 0)).run Tryz.prog w=.ok (.agg #[.int .i64 0,.int .i64 (-2)]) w:=by kernel_rfl
theorem cr1 (w:World):(Instr.index 296 (.agg #[.int .i64 0,.int .i64 (-2),.int .i64 (-2),.int .i64 0,.int .i64 2,.int .i64 0,.int .i64 0,.int .i64 2]) (.int .i64 1)).run Tryz.prog w=.ok (.agg #[.int .i64 (-2),.int .i64 0]) w:=by kernel_rfl
theorem cr2 (w:World):(Instr.index 296 (.agg #[.int .i64 0,.int .i64 (-2),.int .i64 (-2),.int .i64 0,.int .i64 2,.int .i64 0,.int .i64 0,.int .i64 2]) (.int .i64 2)).run Tryz.prog w=.ok (.agg #[.int .i64 2,.int .i64 0]) w:=by kernel_rfl
theorem cr3 (w:World):(Instr.index 296 (.agg #[.int .i64 0,.int .i64 (-2),.int .i64 (-2),.int .i64 0,.int .i64 2,.int .i64 0,.int .i64 0,.int .i64 2]) (.int .i64 3)).run Tryz.prog w=.ok (.agg #[.int .i64 0,.int .i64 2]) w:=by kernel_rfl
theorem crAt (k:Nat) (hk:k<4) (w:World):(Instr.index 296 (.agg #[.int .i64 0,.int .i64 (-2),.int .i64 (-2),.int .i64 0,.int .i64 2,.int .i64 0,.int .i64 0,.int .i64 2]) (.int .i64 k)).run Tryz.prog w=.ok (.agg #[.int .i64 (crDx k),.int .i64 (crDy k)]) w:=by
 rcases (show k=0∨k=1∨k=2∨k=3 by omega) with rfl|rfl|rfl|rfl
 ·exact cr0 w
 ·exact cr1 w
 ·exact cr2 w
 ·exact cr3 w
theorem XGF8 (k:Nat):-2≤crDx k∧crDx k≤2:=by unfold crDx;split<;>(try split)<;>omega
theorem zVs0 (k:Nat):-2≤crDy k∧crDy k≤2:=by unfold crDy;split<;>(try split)<;>omega
theorem jDQt (F:Fence) (n:Nat) (hf:F.fn 262) (hro:F.round=none) (X Y far:Int) (w:World) :
  CallsIn F n Tryz.prog 262 #[.agg #[.int .i64 X,.int .i64 Y],.int .i64 far] w fun e w'=>e=.returned (.func (.func 263) #[] #[.pointer (some ⟨w.heap.size+1,0,none⟩),.pointer (some ⟨w.heap.size,0,none⟩)])∧w'=(w.alloc (.cells #[.int .i64 X,.int .i64 Y] 97)).alloc (.cells #[.int .i64 far] 3):=by
 refine callsIn_of_wp Tryz.func262 rfl hf ?_ hro
 simp only[Tryz.ntmps262,List.size_toArray,List.length_cons,List.length_nil,Nat.reduceAdd,Nat.reduceSub,Array.replicate_succ,Array.replicate_zero,List.push_toArray,List.append_toArray,List.nil_append,List.cons_append]
 gi_wp2
 go_ret
 exact ⟨rfl,rfl⟩
set_option maxRecDepth 100000 in
set_option maxHeartbeats 1600000 in
theorem zJ2U (F:Fence) (n:Nat) (hf:F.fn 263) (hro:F.round=none) (hn:1≤n) (l Bs Bf X Y:Nat) (hX:X≤64) (hY0:Y≤64) (J Jx:List (Fin 4)→World→Prop) (hJa:∀s W o,J s W→J s (W.alloc o))
  (hY:∀pre (x:Fin 4) V,J pre V→pre.length<4→YieldAt F (n-1) Tryz.prog l #[.agg #[.int .i64 (crX X x),.int .i64 (crY Y x)]] V fun e V' =>
   (e=.returned (.bool true)∧J (pre++[x]) V'∧KeepB Bs V V')∨(e=.returned (.bool false)∧Jx (pre++[x]) V'))
  (V:World) (hcf:V.cell? ⟨Bf,0,none⟩=some (.int .i64 2)) (hc0:V.cell? ⟨Bs,0,none⟩=some (.int .i64 X)) (hc1:V.cell? ⟨Bs,1,none⟩=some (.int .i64 Y)) (h0:J [] V) :
  CallsIn F n Tryz.prog 263 #[.func (.yield l) #[] #[],.pointer (some ⟨Bf,0,none⟩),.pointer (some ⟨Bs,0,none⟩)] V fun e V'=>(∃v,e=.returned v) ∧
   ((∃ys,ys=List.finRange 4∧J ys V')∨(∃pre,pre <+: List.finRange 4∧Jx pre V')):=by
 refine callsIn_of_wp Tryz.func263 rfl hf ?_ hro
 simp only[Tryz.ntmps263,List.size_toArray,List.length_cons,List.length_nil,Nat.reduceAdd,Nat.reduceSub,Array.replicate_succ,Array.replicate_zero,List.push_toArray,List.append_toArray,List.nil_append,List.cons_append]
 gi_wp2
 gi_loopw [17] (fun i wr=>∃(b:Nat),b≤4∧i=.int .i64 b∧J (idx 4 b) wr∧wr.cell? ⟨Bs,0,none⟩=some (.int .i64 X)∧wr.cell? ⟨Bs,1,none⟩=some (.int .i64 Y)) (fun i _=>4-(intOf i).toNat)
 case atStart=>exact ⟨0,by omega,rfl,h0,hc0,hc1⟩
 case round =>
  obtain ⟨b,hb,rfl,hJ,c0,c1⟩:=hrel
  clear hc0 hc1 h0 hcf
  have hbs:Bs<wr.heap.size:=World.block_lt_of_cell? wr _ c0
  by_cases hlt:b<4
  ·have hd:decide ((b:Int)<4)=true:=by simp;omega
   have hix:=crAt b hlt
   have hdx:=XGF8 b
   have hdy:=zVs0 b
   have hYx:=hY (idx 4 b) ⟨b,hlt⟩ (wr.alloc (Obj.cells #[.int .i64 (crDx b),.int .i64 (crDy b)] 97)) (hJa _ _ _ hJ) (by rw[zBZc _ _ (Nat.le_of_lt hlt)];exact hlt)
   simp only[crX,crY] at hYx
   have k0:=(World.cell?_of_block (a:=⟨Bs,0,none⟩) (Below.heap_alloc wr (Obj.cells #[.int .i64 (crDx b),.int .i64 (crDy b)] 97) Bs hbs)).trans c0
   have k1:=(World.cell?_of_block (a:=⟨Bs,1,none⟩) (Below.heap_alloc wr (Obj.cells #[.int .i64 (crDx b),.int .i64 (crDy b)] 97) Bs hbs)).trans c1
   have HSP:=hide (show idx 4 (b+1)=idx 4 b++[⟨b,hlt⟩] from zbJt 4 b hlt)
   have HPR:=hide (show idx 4 b++[⟨b,hlt⟩] <+: List.finRange 4 by rw[←zbJt 4 _ hlt];exact zq3o 4 _)
   obtain ⟨dx,hdxe⟩:∃dx,crDx b=dx:=⟨_,rfl⟩
   obtain ⟨dy,hdye⟩:∃dy,crDy b=dy:=⟨_,rfl⟩
   rw[hdxe] at hix hdx hYx k0 k1
   rw[hdye] at hix hdy hYx k0 k1
   obtain ⟨hdx1,hdx2⟩:=hdx
   obtain ⟨hdy1,hdy2⟩:=hdy
   obtain ⟨fn,tmps,assign,body,hy',hR⟩:=hYx
   clear hdxe hdye
   gi_wp2
   refine hR.mono ?_
   rintro e V3 (⟨rfl,hJ3,hk3⟩|⟨rfl,hJx3⟩)
   ·have c3:=(World.cell?_of_block (a:=⟨Bs,0,none⟩) hk3).trans k0
    have c4:=(World.cell?_of_block (a:=⟨Bs,1,none⟩) hk3).trans k1
    rw[←HSP.out] at hJ3
    gi_wp2
    go_roundw
    case rel=>exact ⟨b+1,by omega,by go_num,hJ3,c3,c4⟩
    case measure=>simp[intOf];omega
   ·gi_wp2
    refine bodyPost_ret (results_none rfl _ _ _) rfl ?_
    exact ⟨⟨_,rfl⟩,.inr ⟨_,HPR.out,hJx3⟩⟩
  ·obtain rfl:b=4:=by omega
   have hd:decide (((4:Nat):Int)<4)=false:=by simp
   gi_wp2
   go_end0
   exact ⟨⟨_,rfl⟩,.inl ⟨_,by rw[←jEoj],hJ⟩⟩
theorem X0rh (F:Fence) (n:Nat) (hf:F.fn 263) (hro:F.round=none) (hn:1≤n) (Bs Bf X Y:Nat) (hX:X≤64) (hY0:Y≤64) (w:World) (hBw:Bs<w.heap.size) (hBf:Bf<w.heap.size) (hcf:w.cell? ⟨Bf,0,none⟩=some (.int .i64 2))
  (hc0:w.cell? ⟨Bs,0,none⟩=some (.int .i64 X)) (hc1:w.cell? ⟨Bs,1,none⟩=some (.int .i64 Y)) :
  SeqStopsK F n Tryz.prog 263 #[.pointer (some ⟨Bf,0,none⟩),.pointer (some ⟨Bs,0,none⟩)] (fun x:Fin 4=>#[Value.agg #[.int .i64 (crX X x),.int .i64 (crY Y x)]]) (KeepB Bs) (fun ys=>ys=List.finRange 4) (fun pre=>pre <+: List.finRange 4) 4 w:=fun l J Jx V hV hJ _ hY h0 =>
 zJ2U F n hf hro hn l Bs Bf X Y hX hY0 J Jx (fun s W o h=>hJ s W (W.alloc o) none h (World.grownBy_alloc W o none) (fun r e=>by cases e)) hY V ((hV.cell (p:=⟨Bf,0,none⟩) hBf).trans hcf) ((hV.cell (p:=⟨Bs,0,none⟩) hBw).trans hc0) ((hV.cell (p:=⟨Bs,1,none⟩) hBw).trans hc1) h0
end Go.Proofs.YtfjeonehdlphiaaGreatDoor

namespace Go.Proofs.YtfjeonehdlphiaaGreatDoor
open Go.RowKit
def spotV (p:Pt):Value:=.agg #[.int .i64 p.1,.int .i64 p.2]
def spotK (p:Pt):Lit:=.string (keyBytes [.int .i64 p.1,.int .i64 p.2])
def ptWf (p:Pt):Prop:=(Lit.int .i64 p.1).wf=true∧(Lit.int .i64 p.2).wf=true
theorem laidB:laidOutB Tryz.prog=true:=by kernel_rfl
theorem Xm7Y:WideMaps.KeyLaw Tryz.prog 97:=deep_law_laid laidB (m:=2) (by omega) (of_decide_eq_true (by kernel_rfl)) (by kernel_rfl) (by kernel_rfl)
theorem qWTT:Maps.Keyed Tryz.prog 97:=Maps.Keyed.of_law Xm7Y
theorem XGQ0:∃m,Tryz.prog.types.size=m+2:=⟨_,(Nat.sub_add_cancel (of_decide_eq_true (by kernel_rfl):2≤Tryz.prog.types.size)).symm⟩
theorem zeIO:Tryz.prog.keyType 97=true:=by kernel_rfl
theorem q7xA:Tryz.prog.cellsOf 97=2:=by kernel_rfl
theorem X9Y3:Tryz.prog.cellsOf 3=1:=by kernel_rfl
theorem jj9G (p:Pt) (h:ptWf p):keyOf Tryz.prog 97 (spotV p)=some (spotK p):=by
 obtain ⟨m,hm⟩:=XGQ0
 unfold keyOf
 simp only[Tryz.underlying97]
 rw[if_pos (by simp[zeIO,spotV,Value.formed,Tryz.underlying97,q7xA]),hm]
 unfold Program.keyLits
 simp only[Tryz.underlying97,spotV,Value.cells]
 rw[if_pos ⟨by rw[q7xA];rfl,by simp⟩,List.mapM_cons,List.mapM_cons,List.mapM_nil]
 simp[X9Y3,Program.keyLits,Tryz.underlying3,h.1,h.2,spotK]
theorem j8JW {p q:Pt} (hp:ptWf p) (hq:ptWf q) (h:spotK p=spotK q):p=q:=by
 have:=qWTT.inj (jj9G p hp) (by rw[h];exact jj9G q hq)
 simp only[spotV,Value.agg.injEq,Array.mk.injEq,List.cons.injEq,Value.int.injEq,true_and,and_true] at this
 exact Prod.ext this.1 this.2
def q5Sk (w:World) (bm n:Nat) (ls:List Pt):Prop :=
 ∃D:DataW Unit,w.ownsMap Tryz.prog 97 (plainElem Tryz.prog 3) bm n D∧∀p,ptWf p→D.atKey (spotK p) (.lit (.int .i64 0))=.lit (.int .i64 (ls.count p:Nat))
theorem q5Sk.lt {w:World} {bm n:Nat} {ls:List Pt} (h:q5Sk w bm n ls):bm<w.heap.size:=by
 obtain ⟨D,hD,_⟩:=h
 exact hD.lt
theorem q5Sk.kept {w w':World} {bm n:Nat} {ls:List Pt} {row:Option Nat} (h:q5Sk w bm n ls) (hg:w.grownBy w' row) (hne:some bm≠row):q5Sk w' bm n ls:=by
 obtain ⟨D,hD,hf⟩:=h
 exact ⟨D,hD.kept hg hne,hf⟩
theorem q5Sk.below {w w':World} {bm n B:Nat} {ls:List Pt} (h:q5Sk w bm n ls) (hb:Below B w w') (hB:bm<B):q5Sk w' bm n ls:=by
 obtain ⟨D,⟨es,clock,hh,r⟩,hf⟩:=h
 exact ⟨D,⟨es,clock,by rw[hb.block bm hB];exact hh,r⟩,hf⟩
theorem q5Sk.alloc {w:World} {bm n:Nat} {ls:List Pt} (h:q5Sk w bm n ls) (o:Obj):q5Sk (w.alloc o) bm n ls:=h.kept (World.grownBy_alloc w o none) (by simp)
theorem q5Sk.drew {w:World} {bm n:Nat} {ls:List Pt} (h:q5Sk w bm n ls):q5Sk w.drew bm n ls:=h
theorem q5Sk.made (w:World):q5Sk (w.alloc (.map #[] 0)) w.heap.size 0 [] :=
 ⟨.map [],World.ownsMap_made w _ _ _,fun _ _=>rfl⟩
theorem X43J (w:World):(zeroValue 3).run Tryz.prog w=.ok (.int .i64 0) w:=by kernel_rfl
theorem q5Sk.look {w:World} {bm n:Nat} {ls:List Pt} (h:q5Sk w bm n ls) (p:Pt) (hp:ptWf p) :
  (Instr.lookup 294 (.map (some bm)) (spotV p) false).run Tryz.prog w=.ok (.int .i64 (ls.count p:Nat)) w:=by
 obtain ⟨D,hD,hf⟩:=h
 obtain ⟨c,hrun,hat,_⟩:=hD.lookup_int qWTT Tryz.underlying294 Tryz.underlying3 (X43J w) (jj9G p hp)
 rw[hf p hp] at hat
 rw[hrun]
 simp only[DataW.lit.injEq,Lit.int.injEq,true_and] at hat
 rw[hat]
theorem q5Sk.same {w w':World} {bm n:Nat} {ls:List Pt} (h:q5Sk w bm n ls) (hb:w'.heap[bm]?=w.heap[bm]?):q5Sk w' bm n ls:=by
 obtain ⟨D,⟨es,clock,hh,r⟩,hf⟩:=h
 exact ⟨D,⟨es,clock,hb.trans hh,r⟩,hf⟩
theorem q5Sk.mono {w:World} {bm n n':Nat} {ls:List Pt} (h:q5Sk w bm n ls) (hn:n≤n'):q5Sk w bm n' ls:=by
 obtain ⟨D,hD,hf⟩:=h
 exact ⟨D,hD.mono hn,hf⟩
section
open Go.ChangeMaps Go.MapKept
open Go.WideElems (Fit set_self)
theorem jMef {P:Program} {w:World} {t k e:TypeId} {H:Type} {R:Value→Option (DataW H×List MemPlace)} {b:Nat} {es:Array MapEntry} {clock:Nat} (K:WideMaps.KeyLaw P k) (ht:P.underlying t=some (.map k e)) {z:Value} (hz:∀u:World,(zeroValue e).run P u=.ok z u) (hb:w.heap[b]?=some (.map es clock)) (F:Fit P k R es clock)
  {key:Value} {kl:Lit} (hkey:keyOf P k key=some kl) :
  ∃(r:Value) (w1:World),(Instr.mapEntry t (.map (some b)) key).run P w=.ok r w1∧(w1=setBlock w b (.map es clock)∨((Instr.mapUpdate t (.map (some b)) key z).run P w=.ok () w1∧(Instr.lookup t (.map (some b)) key false).run P w=.ok z w)):=by
 rcases K.find w hkey es.toList F.keys with ⟨h1,h2⟩|⟨j,e0,h1,h2,h3⟩
 ·refine ⟨.tuple #[z,goInt clock],setBlock w b (.map (es.push ⟨key,z,clock⟩) (clock+1)),?_,.inr ⟨?_,?_⟩⟩
  ·simp[Instr.mapEntry,run_underlying ht,MapKept.run_getObj_map hb,K.check w false hkey,h1,hz,MapKept.run_setObj_map _ hb,Result.andThen,setBlock]
  ·simp[Instr.mapUpdate,run_underlying ht,MapKept.run_getObj_map hb,K.check w false hkey,h1,MapKept.run_setObj_map _ hb,Result.andThen,setBlock]
  ·simp[Instr.lookup,run_underlying ht,MapKept.run_getObj_map hb,K.check w es.isEmpty hkey,h1,hz,Result.andThen]
 ·have hj:es[j]?=some e0:=by simpa using h2
  have hsame:es.modify j (fun e=>{ e with key:=key })=es:=by
   apply Array.ext'
   rw[Array.toList_modify,modify_eq_set _ _ _ _ h2]
   have:({ e0 with key:=key }:MapEntry)=e0:=by rw[←h3]
   rw[this]
   exact set_self _ _ _ h2
  refine ⟨.tuple #[e0.val,goInt e0.born],setBlock w b (.map es clock),?_,.inl rfl⟩
  simp[Instr.mapEntry,run_underlying ht,MapKept.run_getObj_map hb,K.check w false hkey,h1,hj,h3,K.stays w hkey,hsame,MapKept.run_setObj_map _ hb,Result.andThen,setBlock]
theorem q5Sk.entry {w:World} {bm n:Nat} {ls:List Pt} (h:q5Sk w bm n ls) (hn:n<1000) (hl:ls.length<1000) (p:Pt) (hp:ptWf p) :
  ∃(v0:Value) (st:Nat) (w1:World),(Instr.mapEntry 294 (.map (some bm)) (spotV p)).run Tryz.prog w=.ok (.tuple #[v0,.int .i64 st]) w1∧w.grownBy w1 (some bm)∧q5Sk w1 bm (n+1) ls ∧
   ∃w2,(Instr.entryStore 294 (.map (some bm)) (.int .i64 st) (.int .i64 ((ls.count p+1:Nat):Int))).run Tryz.prog w1=.ok () w2∧q5Sk w2 bm (n+1) (ls++[p])∧w.grownBy w2 (some bm):=by
 have HB:=h
 obtain ⟨D,hD,hf⟩:=h
 have hm:=hD.isMap
 have hput:∀(w':World) (c:Nat) (ls':List Pt),w'.ownsMap Tryz.prog 97 (plainElem Tryz.prog 3) bm (n+1) (D.put (spotK p) (.lit (.int .i64 (c:Nat))))→(∀q,ptWf q→ls'.count q=if q=p then c else ls.count q)→q5Sk w' bm (n+1) ls':=fun w' c ls' hown hc=>⟨_,hown,fun q hq=>by
  rw[hc q hq]
  by_cases e:q=p
  ·subst e
   rw[if_pos rfl]
   exact Maps.atKey_put_same hm (qWTT.key (jj9G q hp)) _ _
  ·rw[if_neg e,Maps.atKey_put_other (fun h=>e (j8JW hq hp h))]
   exact hf q hq⟩
 have hw:(Lit.int .i64 ((ls.count p+1:Nat):Int)).wf=true:=WalkArith.wf_i64 (by have:=List.count_le_length (a:=p) (l:=ls);omega)
 obtain ⟨w',hrun,hown,hgr⟩:=hD.update qWTT Tryz.underlying294 (by unfold maxLen;omega) (jj9G p hp) (plainElem_int (H:=Unit) Tryz.underlying3 hw)
 have hlook:=q5Sk.look HB p hp
 obtain ⟨w0,hrun0,hown0,hgr0⟩:=hD.update qWTT Tryz.underlying294 (by unfold maxLen;omega) (jj9G p hp) (plainElem_int (H:=Unit) (a:=0) Tryz.underlying3 (by decide))
 obtain ⟨es,clock,hb,F,hs,hDe⟩:=hD
 obtain ⟨v0,st,es1,clock1,hent,hv0,hst⟩:=WideElems.entry_then_store Xm7Y Tryz.underlying294 X43J hb F (jj9G p hp)
 obtain ⟨r,w1,hent2,hor⟩:=jMef Xm7Y Tryz.underlying294 X43J hb F (jj9G p hp)
 obtain ⟨es',clock',hst1,hst2⟩:=hst (setBlock w bm (.map es1 clock1)) (.int .i64 ((ls.count p+1:Nat):Int)) (heap_setBlock_same hb _)
 have hw1:w1=setBlock w bm (.map es1 clock1):=by
  have h2:=hent.symm.trans hent2
  rw[Result.ok.injEq] at h2
  exact h2.2.symm
 have hw2:w'=setBlock w bm (.map es' clock'):=by
  have h2:=hrun.symm.trans hst2
  rw[Result.ok.injEq] at h2
  exact h2.2
 have hb1:(setBlock w bm (.map es1 clock1)).heap[bm]?=some (.map es1 clock1):=heap_setBlock_same hb _
 have hg:∀(u:World) (a:Array MapEntry) (c:Nat) (o':Obj),u.heap[bm]?=some (.map a c)→u.grownBy (setBlock u bm o') (some bm):=fun u a c o' ho=>⟨rfl,rfl,rfl,by simp[setBlock],fun i _ hi=>heap_setBlock_other ho _ (fun e=>hi (by rw[e]))⟩
 refine ⟨v0,st,_,hent,hg _ _ _ _ hb,?_,_,hst1,?_,(hg _ _ _ _ hb).trans (hg _ _ _ _ hb1)⟩
 ·rw[←hw1]
  rcases hor with e|⟨e,e0⟩
  ·subst e
   exact (HB.same ((heap_setBlock_same hb _).trans hb.symm)).mono (by omega)
  ·have h2:=hrun0.symm.trans e
   have h3:=hlook.symm.trans e0
   rw[Result.ok.injEq] at h2 h3
   have h4:=h3.1
   rw[Value.int.injEq] at h4
   have hc0:ls.count p=0:=by have:=h4.2;omega
   rw[←h2.2]
   refine hput w0 0 ls hown0 (fun q _=>?_)
   by_cases e:q=p
   ·subst e;simp[hc0]
   ·rw[if_neg e]
 ·refine q5Sk.same (w:=w') (hput w' (ls.count p+1) _ hown (fun q _=>?_)) ?_
  ·by_cases e:q=p
   ·subst e;simp
   ·rw[if_neg e,List.count_append,List.count_singleton]
    simp[Ne.symm e]
  ·rw[hw2,heap_setBlock_same hb _]
   exact heap_setBlock_same hb1 _
end
end Go.Proofs.YtfjeonehdlphiaaGreatDoor

namespace Go.Proofs.YtfjeonehdlphiaaGreatDoor
set_option linter.unusedVariables false
open Go.RowKit
def goodB (ls:List Pt) (p:Pt):Bool:=decide (ls.count p=0)
theorem j3wx (c:Nat):((c:Int) == 0)=decide (c=0):=by
 by_cases h:c=0
 ·subst h;rfl
 ·rw[decide_eq_false h];simpa using h
theorem z3E6 {x y:Int} (hx:0≤x∧x≤64) (hy:0≤y∧y≤64):ptWf (x,y):=⟨WalkArith.wf_i64 (by omega),WalkArith.wf_i64 (by omega)⟩
set_option maxRecDepth 100000 in
theorem zWHx (ls:List Pt) (n bm Bv:Nat) (x y:Int) (hx:0≤x∧x≤64) (hy:0≤y∧y≤64) (w:World) (hBv:Bv<w.heap.size) (kb:w.cell? ⟨Bv,0,none⟩=some (.map (some bm))) (hm:q5Sk w bm n ls) :
  Calls Tryz.prog 260 #[.agg #[.int .i64 x,.int .i64 y],.pointer (some ⟨Bv,0,none⟩)] w fun e w'=>e=.returned (.bool (goodB ls (x,y)))∧Below w.heap.size w w':=by
 have hlk0:=(hm.alloc (Obj.cells #[.int .i64 x,.int .i64 y] 97)).look (x,y) (z3E6 hx hy)
 have HE:=hide (j3wx (ls.count (x,y)))
 rw[show decide (ls.count (x,y)=0)=goodB ls (x,y) from rfl] at HE
 obtain ⟨c,hc⟩:∃c,ls.count (x,y)=c:=⟨_,rfl⟩
 rw[hc] at hlk0 HE
 have hlk:(Instr.lookup 294 (.map (some bm)) (.agg #[.int .i64 x,.int .i64 y]) false).run Tryz.prog (w.alloc (Obj.cells #[.int .i64 x,.int .i64 y] 97))=.ok (.int .i64 (c:Nat)) (w.alloc (Obj.cells #[.int .i64 x,.int .i64 y] 97)):=hlk0
 have kb1:=((qUNz w (Obj.cells #[.int .i64 x,.int .i64 y] 97)).cell (p:=⟨Bv,0,none⟩) hBv).trans kb
 clear hlk0 hc kb hm
 go_enter Tryz.func260,Tryz.ntmps260
 go_wp2
 go_ret
 exact ⟨j3Zs HE.out,qUNz _ _⟩
def repC (ls:List Pt) (X Y:Nat) (x:Fin 4):Bool:=goodB ls (crX X x,crY Y x)
def repV (zs:List Int) (W H:Nat) (ls:List Pt) (j:Nat):Int :=
 if goodB ls ((j % W:Nat),(j / W:Nat))=true then zAt zs j else meanV zs W H (crX (j % W)) (crY (j / W)) (repC ls (j % W) (j / W))
set_option maxRecDepth 100000 in
set_option maxHeartbeats 3200000 in
theorem z63Z (W H j bk off ca:Nat) (hW1:1≤W) (hW:W≤64) (hH1:1≤H) (hH:H≤64) (zs:List Int) (hlen:zs.length=H*W) (hzs:allIn 0 65535 zs=true) (hj:j<zs.length) (ls:List Pt) (n bm Bd Bp Bg Bv:Nat) (w:World) (hBp:Bp<w.heap.size) (hBg:Bg<w.heap.size) (hbk:bk<w.heap.size)
  (k0:w.cell? ⟨Bp,0,none⟩=some (.int .i64 W)) (k1:w.cell? ⟨Bp,1,none⟩=some (.int .i64 H)) (k2:w.cell? ⟨Bp,2,none⟩=some (.slice (some ⟨bk,off,none⟩) zs.length ca)) (g0:w.cell? ⟨Bg,0,none⟩=some (.int .i64 W)) (g1:w.cell? ⟨Bg,1,none⟩=some (.int .i64 H)) (hBd:Bd<w.heap.size) (kd:w.cell? ⟨Bd,0,none⟩=some (.func (.func 260) #[] #[.pointer (some ⟨Bv,0,none⟩)])) (hBv:Bv<w.heap.size) (kv:w.cell? ⟨Bv,0,none⟩=some (.map (some bm))) (hm:q5Sk w bm n ls)
  (hcell:∀j,j<zs.length→w.cell? ⟨bk,off+j,none⟩=some (.int .i64 (zAt zs j))) :
  Calls Tryz.prog 261 #[.agg #[.int .i64 (j % W:Nat),.int .i64 (j / W:Nat)],.pointer (some ⟨Bd,0,none⟩),.pointer (some ⟨Bp,0,none⟩),.pointer (some ⟨Bg,0,none⟩)] w fun e w'=>e=.returned (.int .i64 (repV zs W H ls j))∧Below w.heap.size w w':=by
 have HT:=hide (show repV zs W H ls j=if goodB ls ((j % W:Nat),(j / W:Nat))=true then zAt zs j else meanV zs W H (crX (j % W)) (crY (j / W)) (repC ls (j % W) (j / W)) from rfl)
 generalize repV zs W H ls j=RES at *
 have hl4:zs.length≤4096:=by rw[hlen];exact Nat.le_trans (Nat.mul_le_mul hH hW) (by decide)
 have hXW:j % W<W:=Nat.mod_lt _ hW1
 have hYH:j / W<H:=Nat.div_lt_of_lt_mul (by rw[Nat.mul_comm,←hlen];exact hj)
 obtain ⟨X,hX⟩:∃X,j % W=X:=⟨_,rfl⟩
 obtain ⟨Y,hY⟩:∃Y,j / W=Y:=⟨_,rfl⟩
 have hk:Y*W+X=j:=by rw[←hX,←hY,Nat.mul_comm];exact Nat.div_add_mod j W
 have HIX:=hide (fun v=>XSSj W H X Y W j rfl hk (by omega) v)
 have hcz:=hcell j hj
 have hjI:(j:Int)<(zs.length:Int):=by omega
 rw[hX,hY] at HT
 rw[hX] at hXW
 rw[hY] at hYH
 rw[hX,hY]
 obtain ⟨z,hz⟩:∃z,zAt zs j=z:=⟨_,rfl⟩
 rw[hz] at HT hcz
 have HG:=hide (fun (u:World) (hu:Below w.heap.size w u)=>zWHx ls n bm Bv X Y (by omega) (by omega) u (Nat.lt_of_lt_of_le hBv hu.size) ((hu.cell (p:=⟨Bv,0,none⟩) hBv).trans kv) (hm.below hu hm.lt))
 have HMP:=hide (fun (u:World) (hu:Below w.heap.size w u) (Bs Bf:Nat) (hBs:Bs<u.heap.size) (hBf:Bf<u.heap.size) (e0:u.cell? ⟨Bs,0,none⟩=some (.int .i64 X)) (e1:u.cell? ⟨Bs,1,none⟩=some (.int .i64 Y)) (e2:u.cell? ⟨Bf,0,none⟩=some (.int .i64 2)) =>
  qkM9 4 W H bk off ca (by omega) hW1 hW hH1 hH zs hlen hzs 263 260 Bs #[.pointer (some ⟨Bf,0,none⟩),.pointer (some ⟨Bs,0,none⟩)] #[.pointer (some ⟨Bv,0,none⟩)] (crX X) (crY Y) (repC ls X Y) u (enters_of Tryz.func263 (by kernel_rfl) rfl) (enters_of Tryz.func260 (by kernel_rfl) rfl) hBs (Nat.lt_of_lt_of_le hbk hu.size) (fun j hj=>(hu.cell (p:=⟨bk,off+j,none⟩) hbk).trans (hcell j hj))
   (fun V hV=>X0rh Fence.wide (3-1) trivial rfl (by omega) Bs Bf X Y (by omega) (by omega) V (Nat.lt_of_lt_of_le hBs hV.size) (Nat.lt_of_lt_of_le hBf hV.size) ((hV.cell (p:=⟨Bf,0,none⟩) hBf).trans e2) ((hV.cell (p:=⟨Bs,0,none⟩) hBs).trans e0) ((hV.cell (p:=⟨Bs,1,none⟩) hBs).trans e1))
   (fun x V hh hV=>by
    have hh2:0≤crX X x∧crX X x<W∧0≤crY Y x∧crY Y x<H:=by simpa [hasB] using hh
    have hV2:=hu.trans (hV.mono hu.size)
    exact zWHx ls n bm Bv (crX X x) (crY Y x) (by omega) (by omega) V (Nat.lt_of_lt_of_le hBv hV2.size) ((hV2.cell (p:=⟨Bv,0,none⟩) hBv).trans kv) (hm.below hV2 hm.lt)))
 have eg1:=enters_of Tryz.func260 (by kernel_rfl) rfl
 clear hX hY hz hk hlen hcell hzs kv hm
 have HB:=hide (qUNz w (Obj.cells #[.int .i64 X,.int .i64 Y] 97))
 have a1:=al1 w (Obj.cells #[.int .i64 X,.int .i64 Y] 97)
 have kd1:=(HB.out.cell (p:=⟨Bd,0,none⟩) hBd).trans kd
 obtain ⟨s0,s1⟩:=bx2 a1
 go_enter Tryz.func261,Tryz.ntmps261
 go_wp2_with fail
 have hl1:=(Array.getElem?_eq_some_iff.1 a1).1
 generalize w.alloc (Obj.cells #[.int .i64 X,.int .i64 Y] 97)=U at *
 refine (HG.out _ HB.out).mono ?_
 rintro e V0 ⟨rfl,hb0⟩
 have HS:=hide (show ∀v,Below U.heap.size U v→v.cell? ⟨Bp,0,none⟩=some (.int .i64 W)∧v.cell? ⟨Bp,1,none⟩=some (.int .i64 H)∧v.cell? ⟨Bp,2,none⟩=some (.slice (some ⟨bk,off,none⟩) zs.length ca)∧v.cell? ⟨Bg,0,none⟩=some (.int .i64 W)∧v.cell? ⟨Bg,1,none⟩=some (.int .i64 H)∧v.cell? ⟨w.heap.size,0,none⟩=some (.int .i64 X)∧v.cell? ⟨w.heap.size,1,none⟩=some (.int .i64 Y)∧v.cell? ⟨bk,off+j,none⟩=some (.int .i64 z)∧v.cell? ⟨Bd,0,none⟩=some (.func (.func 260) #[] #[.pointer (some ⟨Bv,0,none⟩)]) from fun v h=>by
  have hw:=HB.out.trans (h.mono HB.out.size)
  obtain ⟨y0,y1⟩:=bx2 ((h.block _ hl1).trans a1)
  exact ⟨(hw.cell (p:=⟨Bp,0,none⟩) hBp).trans k0,(hw.cell (p:=⟨Bp,1,none⟩) hBp).trans k1,(hw.cell (p:=⟨Bp,2,none⟩) hBp).trans k2,(hw.cell (p:=⟨Bg,0,none⟩) hBg).trans g0,(hw.cell (p:=⟨Bg,1,none⟩) hBg).trans g1,y0,y1,(hw.cell (p:=⟨bk,off+j,none⟩) hbk).trans hcz,(hw.cell (p:=⟨Bd,0,none⟩) hBd).trans kd⟩)
 clear s0 s1 kd1 k0 k1 k2 g0 g1 kd hcz eg1
 have hWd:Below U.heap.size U V0.drew:=hb0.drew
 have hSd:=HS.out _ hWd
 by_cases hg:goodB ls ((X:Nat),(Y:Nat))=true
 ·rw[hg]
  rw[if_pos hg] at HT
  go_wp2_with fail
  have hmx:Tryz.prog.follows .mixedOrders=true:=by kernel_rfl
  refine qYgd (S:=fun v:World=>v.cell? ⟨Bp,0,none⟩=some (.int .i64 W)∧v.cell? ⟨Bp,1,none⟩=some (.int .i64 H)∧v.cell? ⟨Bp,2,none⟩=some (.slice (some ⟨bk,off,none⟩) zs.length ca)∧v.cell? ⟨Bg,0,none⟩=some (.int .i64 W)∧v.cell? ⟨Bg,1,none⟩=some (.int .i64 H)∧v.cell? ⟨w.heap.size,0,none⟩=some (.int .i64 X)∧v.cell? ⟨w.heap.size,1,none⟩=some (.int .i64 Y)∧v.cell? ⟨bk,off+j,none⟩=some (.int .i64 z)∧v.cell? ⟨Bd,0,none⟩=some (.func (.func 260) #[] #[.pointer (some ⟨Bv,0,none⟩)])) (f:=7) hmx ?_
  show jZdv _ _ _ _ _ _ 8 _ _ V0.drew
  refine zB2j (i:=0) (oi:=_) (v:=?vv1) (some 9) rfl rfl (by kernel_rfl) (by kernel_rfl) (by kernel_rfl) (by kernel_rfl) (by kernel_rfl) (fun _ _ _ h=>h) (Or.inl ⟨by rfl,?yy1⟩) hSd ?rr1
  case yy1=>(intro wq hSq;obtain ⟨_,_,_,_,_,_,_,_,_⟩:=hSq;go_simp<;>with_reducible rfl)
  simp only[Act.put,List.setIfInBounds_toArray,List.set_cons_succ,List.set_cons_zero]
  refine zB2j (i:=2) (oi:=_) (v:=?vv2) (some 11) rfl rfl (by kernel_rfl) (by kernel_rfl) (by kernel_rfl) (by kernel_rfl) (by kernel_rfl) (fun _ _ _ h=>h) (Or.inl ⟨by rfl,?yy2⟩) hSd ?rr2
  case yy2=>(intro wq hSq;obtain ⟨_,_,_,_,_,_,_,_,_⟩:=hSq;go_simp<;>with_reducible rfl)
  simp only[Act.put,List.setIfInBounds_toArray,List.set_cons_succ,List.set_cons_zero]
  refine zB2j (i:=3) (oi:=_) (v:=?vv3) (some 12) rfl rfl (by kernel_rfl) (by kernel_rfl) (by kernel_rfl) (by kernel_rfl) (by kernel_rfl) (fun _ _ _ h=>h) (Or.inl ⟨by rfl,?yy3⟩) hSd ?rr3
  case yy3=>(intro wq hSq;obtain ⟨_,_,_,_,_,_,_,_,_⟩:=hSq;go_simp<;>with_reducible rfl)
  simp only[Act.put,List.setIfInBounds_toArray,List.set_cons_succ,List.set_cons_zero]
  refine zB2j (i:=1) (oi:=_) (v:=?vv4) (some 10) rfl rfl (by kernel_rfl) (by kernel_rfl) (by kernel_rfl) (by kernel_rfl) (by kernel_rfl) (fun _ _ _ h=>h) (Or.inl ⟨by rfl,?yy4⟩) hSd ?rr4
  case yy4=>(intro wq hSq;obtain ⟨_,_,_,_,_,_,_,_,_⟩:=hSq;go_simp<;>with_reducible rfl)
  simp only[Act.put,List.setIfInBounds_toArray,List.set_cons_succ,List.set_cons_zero]
  refine znWj (i:=4) (o:=_) (by kernel_rfl) rfl (fun K' hK=>?_)
  rw[if_pos (by rfl)]
  go_simp
  refine (HIX.out _).mono ?_
  rintro e V1 ⟨rfl,hbv⟩
  have hB1:Below U.heap.size U V1:=hWd.trans (hbv.mono hWd.size)
  have hSd:=HS.out _ hB1
  refine hK.out _ _ hSd ?_
  clear hK
  try simp only[Act.put]
  refine zB2j (i:=5) (oi:=_) (v:=?vv5) (some 14) rfl rfl (by kernel_rfl) (by kernel_rfl) (by kernel_rfl) (by kernel_rfl) (by kernel_rfl) (fun _ _ _ h=>h) (Or.inl ⟨by rfl,?yy5⟩) hSd ?rr5
  case yy5=>(intro wq hSq;obtain ⟨_,_,_,_,_,_,_,_,_⟩:=hSq;go_simp<;>with_reducible rfl)
  simp only[Act.put,List.setIfInBounds_toArray,List.set_cons_succ,List.set_cons_zero]
  refine zB2j (i:=6) (oi:=_) (v:=?vv6) (some 15) rfl rfl (by kernel_rfl) (by kernel_rfl) (by kernel_rfl) (by kernel_rfl) (by kernel_rfl) (fun _ _ _ h=>h) (Or.inl ⟨by rfl,?yy6⟩) hSd ?rr6
  case yy6=>(intro wq hSq;obtain ⟨_,_,_,_,_,_,_,_,_⟩:=hSq;go_simp<;>with_reducible rfl)
  simp only[Act.put,List.setIfInBounds_toArray,List.set_cons_succ,List.set_cons_zero]
  refine z9gO (o:=_) (by kernel_rfl) rfl (fun K' hK=>?_)
  rw[if_pos (by rfl)]
  go_simp
  refine hK.out _ _ ?_
  clear hK
  refine jFdp (by kernel_rfl) ?_ _
  try simp only[Act.put]
  go_wp2
  go_ret
  exact ⟨jx9N HT.out.symm,HB.out.trans (hB1.mono HB.out.size)⟩
 ·have hg2:goodB ls ((X:Nat),(Y:Nat))=false:=by simpa using hg
  rw[hg2]
  rw[if_neg hg] at HT
  go_wp2_with fail
  have hmx:Tryz.prog.follows .mixedOrders=true:=by kernel_rfl
  refine qYgd (S:=fun v:World=>v.cell? ⟨Bp,0,none⟩=some (.int .i64 W)∧v.cell? ⟨Bp,1,none⟩=some (.int .i64 H)∧v.cell? ⟨Bp,2,none⟩=some (.slice (some ⟨bk,off,none⟩) zs.length ca)∧v.cell? ⟨Bg,0,none⟩=some (.int .i64 W)∧v.cell? ⟨Bg,1,none⟩=some (.int .i64 H)∧v.cell? ⟨w.heap.size,0,none⟩=some (.int .i64 X)∧v.cell? ⟨w.heap.size,1,none⟩=some (.int .i64 Y)∧v.cell? ⟨bk,off+j,none⟩=some (.int .i64 z)∧v.cell? ⟨Bd,0,none⟩=some (.func (.func 260) #[] #[.pointer (some ⟨Bv,0,none⟩)])) (f:=5) hmx ?_
  show jZdv _ _ _ _ _ _ 6 _ _ V0.drew
  refine zB2j (i:=0) (oi:=_) (v:=?vv7) (some 16) rfl rfl (by kernel_rfl) (by kernel_rfl) (by kernel_rfl) (by kernel_rfl) (by kernel_rfl) (fun _ _ _ h=>h) (Or.inl ⟨by rfl,?yy7⟩) hSd ?rr7
  case yy7=>(intro wq hSq;obtain ⟨_,_,_,_,_,_,_,_,_⟩:=hSq;go_simp<;>with_reducible rfl)
  simp only[Act.put,List.setIfInBounds_toArray,List.set_cons_succ,List.set_cons_zero]
  refine zB2j (i:=1) (oi:=_) (v:=?vv8) (some 17) rfl rfl (by kernel_rfl) (by kernel_rfl) (by kernel_rfl) (by kernel_rfl) (by kernel_rfl) (fun _ _ _ h=>h) (Or.inl ⟨by rfl,?yy8⟩) hSd ?rr8
  case yy8=>(intro wq hSq;obtain ⟨_,_,_,_,_,_,_,_,_⟩:=hSq;go_simp<;>with_reducible rfl)
  simp only[Act.put,List.setIfInBounds_toArray,List.set_cons_succ,List.set_cons_zero]
  refine zB2j (i:=3) (oi:=_) (v:=?vv9) (some 19) rfl rfl (by kernel_rfl) (by kernel_rfl) (by kernel_rfl) (by kernel_rfl) (by kernel_rfl) (fun _ _ _ h=>h) (Or.inl ⟨by rfl,?yy9⟩) hSd ?rr9
  case yy9=>(intro wq hSq;obtain ⟨_,_,_,_,_,_,_,_,_⟩:=hSq;go_simp<;>with_reducible rfl)
  simp only[Act.put,List.setIfInBounds_toArray,List.set_cons_succ,List.set_cons_zero]
  refine znWj (i:=2) (o:=_) (by kernel_rfl) rfl (fun K' hK=>?_)
  rw[if_pos (by rfl)]
  go_simp
  refine ((callsIn_wide (n:=3)).1 (jDQt Fence.wide _ trivial rfl _ _ _ _)).mono ?_
  rintro e V2 ⟨rfl,rfl⟩
  have hB2:Below U.heap.size U ((V0.drew.alloc (Obj.cells #[.int .i64 X,.int .i64 Y] 97)).alloc (Obj.cells #[.int .i64 2] 3)):=(hWd.alloc hWd.size _).alloc (by rw[World.size_alloc];exact Nat.le_succ_of_le hWd.size) _
  have hSd:=HS.out _ hB2
  refine hK.out _ _ hSd ?_
  clear hK
  try simp only[Act.put]
  refine znWj (i:=4) (o:=_) (by kernel_rfl) rfl (fun K' hK=>?_)
  rw[if_pos (by rfl)]
  go_simp
  have hsU:U.heap.size≤V0.heap.size:=hWd.size
  obtain ⟨tB,tC⟩:=al2 V0.drew (Obj.cells #[.int .i64 X,.int .i64 Y] 97) (Obj.cells #[.int .i64 2] 3)
  refine (HMP.out _ (HB.out.trans (hB2.mono HB.out.size)) V0.drew.heap.size (V0.drew.heap.size+1) (by rw[World.size_alloc,World.size_alloc];omega) (by rw[World.size_alloc,World.size_alloc];omega) (by rw[Lib.cell_of_heap tB];rfl) (by rw[Lib.cell_of_heap tB];rfl) (by rw[Lib.cell_of_heap tC];rfl)).mono ?_
  rintro e V3 ⟨rfl,hb3⟩
  have hB3:Below U.heap.size U V3:=hB2.trans (hb3.mono hB2.size)
  have hSd:=HS.out _ hB3
  refine hK.out _ _ hSd ?_
  clear hK
  try simp only[Act.put]
  refine z9gO (o:=_) (by kernel_rfl) rfl (fun K' hK=>?_)
  rw[if_pos (by rfl)]
  go_simp
  refine hK.out _ _ ?_
  clear hK
  refine jFdp (by kernel_rfl) ?_ _
  try simp only[Act.put]
  go_wp2
  go_ret
  exact ⟨jx9N HT.out.symm,HB.out.trans (hB3.mono HB.out.size)⟩
end Go.Proofs.YtfjeonehdlphiaaGreatDoor

namespace Go.Proofs.YtfjeonehdlphiaaGreatDoor
set_option linter.unusedVariables false
open Go.RowKit
def repE (W H:Int) (zs:List Int) (ls:List Pt):Int:=if q0fM W H zs=true then (if (ls.length:Int)≤64 then (if XepW W H ls=true then 0 else 3) else 2) else 1
def repL (W H:Int) (zs:List Int) (ls:List Pt):List Int:=(List.range zs.length).map (repV zs W.toNat H.toNat ls)
def ReJ (w W0:World) (bm W H:Nat) (ls:List Pt) (k:Nat) (wr:World):Prop :=
 q5Sk wr bm k (ls.take k)∧(∀b,b<W0.heap.size→b≠bm→wr.heap[b]?=W0.heap[b]?)∧W0.heap.size≤wr.heap.size∧Below w.heap.size w wr∧∀i,i<k→hasB W H (ptAt ls i).1 (ptAt ls i).2=true
theorem ReJ.next {w W0:World} {bm W H:Nat} {ls:List Pt} {k:Nat} {wr V w2:World} (h:ReJ w W0 bm W H ls k wr) (hbm:w.heap.size≤bm) (hV:Below wr.heap.size wr V) (hk:k<ls.length) (hh:hasB W H (ptAt ls k).1 (ptAt ls k).2=true)
  (hm:q5Sk w2 bm (k+1) (ls.take k++[ptAt ls k])) (hg:V.grownBy w2 (some bm)):ReJ w W0 bm W H ls (k+1) w2:=by
 obtain ⟨h1,h2,h3,h4,h5⟩:=h
 refine ⟨?_,fun b hb hne=>?_,?_,(h4.trans (hV.mono h4.size)).grown hg (Nat.le_trans h4.size hV.size) (fun j hj=>by cases hj;exact hbm),fun i hi=>?_⟩
 ·rw[List.take_succ_eq_append_getElem hk,jU85];exact hm
 ·rw[hg.block b (Nat.lt_of_lt_of_le hb (Nat.le_trans h3 hV.size)) (fun e=>hne (by cases e;rfl)),hV.block b (Nat.lt_of_lt_of_le hb h3)]
  exact h2 b hb hne
 ·exact Nat.le_trans h3 (Nat.le_trans hV.size hg.size)
 ·rcases Nat.lt_succ_iff_lt_or_eq.1 hi with h|rfl
  ·exact h5 i h
  ·exact hh
set_option maxRecDepth 100000 in
set_option maxHeartbeats 3200000 in
theorem zXdr (W H:Int) (v:Value) (zs:List Int) (lv:Value) (ls:List Pt) (hls:∀j,j<ls.length→ptWf (ptAt ls j)) (w:World) (hv:jCvT w v zs) (hlv:IsPts w lv ls) :
  Calls Tryz.prog 259 #[.agg #[.int .i64 W,.int .i64 H,v],lv] w fun e w'=>∃r,e=.returned (.tuple #[.agg #[.int .i64 (okW (repE W H zs ls) W),.int .i64 (okW (repE W H zs ls) H),r],.int .i64 (repE W H zs ls)])∧jCvT w' r (okL (repE W H zs ls) (repL W H zs ls))∧Below w.heap.size w w'∧Fresh w.heap.size r:=by
 have HV:=hide hv
 obtain ⟨lo,lc,rfl,hll,hlc⟩:=hlv
 have HLS:=hide hls
 have HC:=hide (show ∀j,j<ls.length→∃bq oq,lo=some ⟨bq,oq,none⟩∧bq<w.heap.size∧w.cell? ⟨bq,oq+j*2,none⟩=some (.int .i64 (ptAt ls j).1)∧w.cell? ⟨bq,oq+j*2+1,none⟩=some (.int .i64 (ptAt ls j).2) from fun j hj=>by
  rcases hlc with h|⟨b,off,h1,h2,h3⟩
  ·subst h;simp at hj
  ·exact ⟨b,off,h1,h2,h3 j hj⟩)
 clear hlc hls
 obtain ⟨E,hE⟩:∃E,repE W H zs ls=E:=⟨_,rfl⟩
 rw[hE]
 by_cases hp:q0fM W H zs=true
 ·by_cases hmn:(ls.length:Int)≤64
  ·have HE:=hide (show E=if XepW W H ls=true then 0 else 3 by rw[←hE,repE,if_pos hp,if_pos hmn])
   clear hE
   obtain ⟨⟨w1,w2⟩,⟨h1,h2⟩,hl,_⟩:=qwcI hp
   have hz:=XAOl hp
   have hsm:=zAFj ⟨w1,w2⟩ ⟨h1,h2⟩
   have hn1:1≤zs.length:=by omega
   obtain ⟨bk,off,ca,rfl,hbk,hcell⟩:=hv.cells hn1
   obtain ⟨WN,rfl⟩:=Int.eq_ofNat_of_zero_le (show 0≤W by omega)
   obtain ⟨HN,rfl⟩:=Int.eq_ofNat_of_zero_le (show 0≤H by omega)
   have HLEN:=hide (show zs.length=HN*WN by rw[Nat.mul_comm];exact_mod_cast hl)
   have HZ:=hide hz
   have HCC:=hide hcell
   have hd64:decide (64<(ls.length:Int))=false:=by simp;omega
   clear hl hz hcell hsm hv
   have hmm:=@run_makeMap Tryz.prog
   go_enter Tryz.func259,Tryz.ntmps259
   go_wp2_with fail
   obtain ⟨a1,a2⟩:=al2 w (Obj.cells #[.int .i64 (WN:Nat),.int .i64 (HN:Nat),.slice (some ⟨bk,off,none⟩) zs.length ca] 54) (Obj.cells #[.int .i64 0,.int .i64 0,.slice none 0 0] 54)
   have hB:=be2 w (Obj.cells #[.int .i64 (WN:Nat),.int .i64 (HN:Nat),.slice (some ⟨bk,off,none⟩) zs.length ca] 54) (Obj.cells #[.int .i64 0,.int .i64 0,.slice none 0 0] 54)
   generalize (w.alloc (Obj.cells #[.int .i64 (WN:Nat),.int .i64 (HN:Nat),.slice (some ⟨bk,off,none⟩) zs.length ca] 54)).alloc (Obj.cells #[.int .i64 0,.int .i64 0,.slice none 0 0] 54)=U at *
   have hlU:=(Array.getElem?_eq_some_iff.1 a2).1
   have hlU0:=(Array.getElem?_eq_some_iff.1 a1).1
   refine (XeC7 WN HN _ zs _ (HV.out.below hB (Nat.le_refl _))).mono ?_
   rintro e w1 ⟨rfl,hb1⟩
   rw[hp]
   obtain ⟨p0,p1,p2⟩:=z5EY ((hb1.block w.heap.size hlU0).trans a1)
   have hsU:=hb1.size
   have hBw:=hB.trans (hb1.mono hB.size)
   go_wp2_with fail
   obtain ⟨c1,c2,c3⟩:=al3 w1 (Obj.cells #[.int .i64 (WN:Nat),.int .i64 (HN:Nat)] 95) (Obj.map #[] 0) (Obj.cells #[.map (some (w1.heap.size+1))] 294)
   have hB3:=be3 w1 (Obj.cells #[.int .i64 (WN:Nat),.int .i64 (HN:Nat)] 95) (Obj.map #[] 0) (Obj.cells #[.map (some (w1.heap.size+1))] 294)
   have hM0:q5Sk (((w1.alloc (Obj.cells #[.int .i64 (WN:Nat),.int .i64 (HN:Nat)] 95)).alloc (Obj.map #[] 0)).alloc (Obj.cells #[.map (some (w1.heap.size+1))] 294)) (w1.heap.size+1) 0 []:=by
    have h:=q5Sk.made (w1.alloc (Obj.cells #[.int .i64 (WN:Nat),.int .i64 (HN:Nat)] 95))
    rw[World.size_alloc] at h
    exact h.alloc _
   have hs3:w1.heap.size+3≤(((w1.alloc (Obj.cells #[.int .i64 (WN:Nat),.int .i64 (HN:Nat)] 95)).alloc (Obj.map #[] 0)).alloc (Obj.cells #[.map (some (w1.heap.size+1))] 294)).heap.size:=by simp
   clear p0 p1 p2 hmm
   generalize ((w1.alloc (Obj.cells #[.int .i64 (WN:Nat),.int .i64 (HN:Nat)] 95)).alloc (Obj.map #[] 0)).alloc (Obj.cells #[.map (some (w1.heap.size+1))] 294)=W0 at *
   have A1:=(hB3.block w.heap.size (by omega)).trans ((hb1.block w.heap.size hlU0).trans a1)
   have A2:=(hB3.block (w.heap.size+1) (by omega)).trans ((hb1.block (w.heap.size+1) hlU).trans a2)
   have hBW0:=hBw.trans (hB3.mono hBw.size)
   clear a1 a2
   go_loopw [27] (fun i wr=>∃k:Nat,k≤ls.length∧i=.int .i64 k∧ReJ w W0 (w1.heap.size+1) WN HN ls k wr) (fun i _=>ls.length-(intOf i).toNat)
   case atStart=>exact ⟨0,Nat.zero_le _,rfl,hM0,fun _ _ _=>rfl,Nat.le_refl _,hBW0,fun i hi=>by omega⟩
   case round =>
    clear hM0
    obtain ⟨k,hk,rfl,hJ⟩:=hrel
    have HJ:=hide hJ
    obtain ⟨j1,j2,j3,j4,j5⟩:=hJ
    have HK2:=hide j2
    clear j2
    have b0:=(HK2.out w.heap.size (by omega) (by omega)).trans A1
    have b1:=(HK2.out (w.heap.size+1) (by omega) (by omega)).trans A2
    have b2:=(HK2.out w1.heap.size (by omega) (by omega)).trans c1
    have b3:=(HK2.out (w1.heap.size+2) (by omega) (by omega)).trans c3
    by_cases hlt:k<ls.length
    ·have hd:decide ((k:Int)<(ls.length:Int))=true:=by simp;omega
     obtain ⟨bq,oq,rfl,hbq,e0,e1⟩:=HC.out k hlt
     have d0:=(j4.cell (p:=⟨bq,oq+k*2,none⟩) hbq).trans e0
     have d1:=(j4.cell (p:=⟨bq,oq+k*2+1,none⟩) hbq).trans e1
     have hwf:=HLS.out k hlt
     have HNX:=hide (fun (V w2:World) (hV:Below wr.heap.size wr V) hh hm hg=>ReJ.next (w2:=w2) HJ.out (show w.heap.size≤w1.heap.size+1 by omega) hV hlt hh hm hg)
     have HFA:=hide (fun h=>zEqn (W:=(WN:Int)) (H:=(HN:Int)) k hlt h)
     obtain ⟨⟨x,y⟩,hxy⟩:∃p,ptAt ls k=p:=⟨_,rfl⟩
     rw[hxy] at d0 d1 hwf HNX HFA
     simp only at d0 d1 HNX HFA
     have HHA:=hide (fun v=>z7Cs WN HN x y v)
     clear hxy e0 e1
     have a5:=al1 wr (Obj.cells #[.int .i64 x,.int .i64 y] 97)
     have hB5:=qUNz wr (Obj.cells #[.int .i64 x,.int .i64 y] 97)
     obtain ⟨s0,s1⟩:=bx2 a5
     obtain ⟨g0,g1⟩:=bx2 ((hB5.block w1.heap.size (by omega)).trans b2)
     go_wp2_with fail
     have hl5:=(Array.getElem?_eq_some_iff.1 a5).1
     generalize wr.alloc (Obj.cells #[.int .i64 x,.int .i64 y] 97)=V5 at *
     refine (HHA.out _).mono ?_
     rintro e V6 ⟨rfl,hb6⟩
     have hB6:=quJN hB5 hb6
     have hl3:=(Array.getElem?_eq_some_iff.1 b3).1
     clear s0 s1 g0 g1
     by_cases hh:hasB WN HN x y=true
     ·rw[hh]
      have hcl:(ls.take k).count (x,y)≤64:=by have:=List.count_le_length (a:=(x,y)) (l:=ls.take k);have:=List.length_take_le k ls;omega
      have hM6:q5Sk V6.drew (w1.heap.size+1) k (ls.take k):=(j1.below hB6 (by have:=j1.lt;omega)).drew
      have hlk:=hM6.look (x,y) hwf
      obtain ⟨v0,st,w7,hent0,hg7,hM7,w8,hst0,hM8,hg8⟩:=hM6.entry (by omega) (by have:=List.length_take_le k ls;omega) (x,y) hwf
      have hlk7:=hM7.look (x,y) hwf
      obtain ⟨c,hc⟩:∃c,(ls.take k).count (x,y)=c:=⟨_,rfl⟩
      rw[hc] at hlk hlk7 hst0 hcl
      have hent:(Instr.mapEntry 294 (.map (some (w1.heap.size+1))) (.agg #[.int .i64 x,.int .i64 y])).run Tryz.prog V6.drew=.ok (.tuple #[v0,.int .i64 st]) w7:=hent0
      have hst:(Instr.entryStore 294 (.map (some (w1.heap.size+1))) (.int .i64 st) (.int .i64 ((c:Int)+1))).run Tryz.prog w7=.ok () w8:=hst0
      have hwc:IntKind.i64.wrap ((c:Int)+1)=(c:Int)+1:=IntWalk.i64_in _ (by omega)
      have HEND:=hide (HNX.out V6.drew w8 (hB6.drew) hh hM8 hg8)
      clear hc hent0 hst0 HNX
      have t3:=(hB6.block (w1.heap.size+2) hl3).trans b3
      have t5:=(hb6.block wr.heap.size hl5).trans a5
      have hj1:=j1.lt
      have t3b:=(hg7.block (w1.heap.size+2) (show w1.heap.size+2<V6.heap.size from (Array.getElem?_eq_some_iff.1 t3).1) (fun e=>by have:=Option.some.inj e;omega)).trans t3
      have t5b:=(hg7.block wr.heap.size (show wr.heap.size<V6.heap.size from (Array.getElem?_eq_some_iff.1 t5).1) (fun e=>by have:=Option.some.inj e;omega)).trans t5
      have hSd:V6.drew.cell? ⟨w1.heap.size+1+1,0,none⟩=some (.map (some (w1.heap.size+1)))∧V6.drew.cell? ⟨wr.heap.size,0,none⟩=some (.int .i64 x)∧V6.drew.cell? ⟨wr.heap.size,1,none⟩=some (.int .i64 y)∧(Instr.lookup 294 (.map (some (w1.heap.size+1))) (.agg #[.int .i64 x,.int .i64 y]) false).run Tryz.prog V6.drew=.ok (.int .i64 (c:Nat)) V6.drew:=⟨bx1 (w:=V6.drew) (b:=w1.heap.size+1+1) t3,(bx2 (w:=V6.drew) t5).1,(bx2 (w:=V6.drew) t5).2,hlk⟩
      have HS7:=hide (show w7.cell? ⟨w1.heap.size+1+1,0,none⟩=some (.map (some (w1.heap.size+1)))∧w7.cell? ⟨wr.heap.size,0,none⟩=some (.int .i64 x)∧w7.cell? ⟨wr.heap.size,1,none⟩=some (.int .i64 y)∧(Instr.lookup 294 (.map (some (w1.heap.size+1))) (.agg #[.int .i64 x,.int .i64 y]) false).run Tryz.prog w7=.ok (.int .i64 (c:Nat)) w7 from ⟨bx1 (b:=w1.heap.size+1+1) t3b,(bx2 t5b).1,(bx2 t5b).2,hlk7⟩)
      clear t3 t5 t3b t5b hlk hlk7
      go_wp2_with fail
      have hmx:Tryz.prog.follows .mixedOrders=true:=by kernel_rfl
      refine qYgd (S:=fun v:World=>v.cell? ⟨w1.heap.size+1+1,0,none⟩=some (.map (some (w1.heap.size+1)))∧v.cell? ⟨wr.heap.size,0,none⟩=some (.int .i64 x)∧v.cell? ⟨wr.heap.size,1,none⟩=some (.int .i64 y)∧(Instr.lookup 294 (.map (some (w1.heap.size+1))) (.agg #[.int .i64 x,.int .i64 y]) false).run Tryz.prog v=.ok (.int .i64 (c:Nat)) v) (f:=6) hmx ?_
      show jZdv _ _ _ _ _ _ 7 _ _ V6.drew
      refine zB2j (i:=0) (oi:=_) (v:=?vv1) (some 36) rfl rfl (by kernel_rfl) (by kernel_rfl) (by kernel_rfl) (by kernel_rfl) (by kernel_rfl) (fun _ _ _ h=>h) (Or.inl ⟨by rfl,?yy1⟩) hSd ?rr1
      case yy1=>(intro wq hSq;obtain ⟨_,_,_,_⟩:=hSq;go_simp<;>with_reducible rfl)
      simp only[Act.put,List.setIfInBounds_toArray,List.set_cons_succ,List.set_cons_zero]
      refine zB2j (i:=1) (oi:=_) (v:=?vv2) (some 37) rfl rfl (by kernel_rfl) (by kernel_rfl) (by kernel_rfl) (by kernel_rfl) (by kernel_rfl) (fun _ _ _ h=>h) (Or.inl ⟨by rfl,?yy2⟩) hSd ?rr2
      case yy2=>(intro wq hSq;obtain ⟨_,_,_,_⟩:=hSq;go_simp<;>with_reducible rfl)
      simp only[Act.put,List.setIfInBounds_toArray,List.set_cons_succ,List.set_cons_zero]
      refine zB2j (i:=2) (oi:=_) (v:=?vv3) (some 38) rfl rfl (by kernel_rfl) (by kernel_rfl) (by kernel_rfl) (by kernel_rfl) (by kernel_rfl) (fun _ _ _ h=>h) (Or.inl ⟨by rfl,?yy3⟩) hSd ?rr3
      case yy3=>(intro wq hSq;obtain ⟨_,_,_,_⟩:=hSq;go_simp<;>with_reducible rfl)
      simp only[Act.put,List.setIfInBounds_toArray,List.set_cons_succ,List.set_cons_zero]
      refine zB2j (i:=3) (oi:=_) (v:=?vv4) (some 39) rfl rfl (by kernel_rfl) (by kernel_rfl) (by kernel_rfl) (by kernel_rfl) (by kernel_rfl) (fun _ _ _ h=>h) (Or.inl ⟨by rfl,?yy4⟩) hSd ?rr4
      case yy4=>(intro wq hSq;obtain ⟨_,_,_,_⟩:=hSq;go_simp<;>with_reducible rfl)
      simp only[Act.put,List.setIfInBounds_toArray,List.set_cons_succ,List.set_cons_zero]
      refine znWj (i:=4) (o:=_) (by kernel_rfl) rfl (fun K' hK=>?_)
      rw[if_pos (by rfl)]
      go_simp
      have hSd:=HS7.out
      refine hK.out _ _ hSd ?_
      clear hK
      try simp only[Act.put]
      refine zB2j (i:=5) (oi:=_) (v:=?vv5) (some 41) rfl rfl (by kernel_rfl) (by kernel_rfl) (by kernel_rfl) (by kernel_rfl) (by kernel_rfl) (fun _ _ _ h=>h) (Or.inl ⟨by rfl,?yy5⟩) hSd ?rr5
      case yy5=>(intro wq hSq;obtain ⟨_,_,_,_⟩:=hSq;go_simp<;>with_reducible rfl)
      simp only[Act.put,List.setIfInBounds_toArray,List.set_cons_succ,List.set_cons_zero]
      refine z9gO (o:=_) (by kernel_rfl) rfl (fun K' hK=>?_)
      rw[if_pos (by rfl)]
      go_simp
      refine hK.out _ _ ?_
      clear hK
      refine jFdp (by kernel_rfl) ?_ _
      try simp only[Act.put]
      go_wp2
      go_roundw
      case rel=>exact ⟨k+1,by omega,by go_num,HEND.out⟩
      case measure=>simp[intOf];omega
     ·have hh:hasB WN HN x y=false:=by simpa using hh
      rw[hh]
      have he:E=3:=by rw[HE.out,HFA.out hh];rfl
      subst he
      have g4:=(hB6.block (w.heap.size+1) (by omega)).trans b1
      obtain ⟨z0,z1,z2⟩:=z5EY g4
      have f0:=Lib.frozen_of_heap g4 0
      have f1:=Lib.frozen_of_heap g4 1
      have f2:=Lib.frozen_of_heap g4 2
      have HFIN:=hide (zHqh (j4.trans (hB6.mono j4.size)) (show w.heap.size≤w.heap.size+1 by omega) (.int .i64 0) (.int .i64 0) (.slice none 0 0))
      go_wp2
      exact bodyPost_ret (v:=.tuple #[.agg #[.int .i64 0,.int .i64 0,.slice none 0 0],.int .i64 3]) (by simp[results,Tryz.results259,go_sem,z0,z1,z2]) rfl ⟨.slice none 0 0,rfl,jCvT.nil _,HFIN.out,Fresh.nil _⟩
    ·have hd:decide ((k:Int)<(ls.length:Int))=false:=by simp;omega
     have hkl:k=ls.length:=by omega
     subst hkl
     have he:E=0:=by rw[HE.out,XjDF j5,if_pos rfl]
     subst he
     rw[List.take_length] at j1
     have hM1:=hide j1
     have a5:=al1 wr (Obj.cells #[.func (.func 260) #[] #[.pointer (some ⟨w1.heap.size+1+1,0,none⟩)]] 176)
     have hB5:=qUNz wr (Obj.cells #[.func (.func 260) #[] #[.pointer (some ⟨w1.heap.size+1+1,0,none⟩)]] 176)
     obtain ⟨g0,g1⟩:=bx2 ((hB5.block w1.heap.size (by omega)).trans b2)
     obtain ⟨g2,g3⟩:=bx2 b2
     go_wp2_with fail
     have hl5:=(Array.getElem?_eq_some_iff.1 a5).1
     clear g0 g1 g2 g3
     generalize wr.alloc (Obj.cells #[.func (.func 260) #[] #[.pointer (some ⟨w1.heap.size+1+1,0,none⟩)]] 176)=V5 at *
     refine (zPMW WN HN zs.length (by omega) (by omega) HLEN.out 261 #[.pointer (some ⟨wr.heap.size,0,none⟩),.pointer (some ⟨w.heap.size,0,none⟩),.pointer (some ⟨w1.heap.size,0,none⟩)] (repV zs WN HN ls) _ (enters_of Tryz.func261 (by kernel_rfl) rfl) ?_).mono ?_
     ·intro j V hj hV
      have hb3:=quJN hB5 hV
      have hbw:=j4.trans (hb3.mono j4.size)
      obtain ⟨e0,e1,e2⟩:=z5EY ((hb3.block w.heap.size (by omega)).trans b0)
      obtain ⟨e4,e5⟩:=bx2 ((hb3.block w1.heap.size (by omega)).trans b2)
      have e6:=bx1 ((hb3.block (w1.heap.size+2) (by omega)).trans b3)
      have e7:=bx1 ((hV.block wr.heap.size hl5).trans a5)
      have hs:=hb3.size
      have hsV:=hV.size
      exact z63Z WN HN j bk off ca (by omega) (by omega) (by omega) (by omega) zs HLEN.out HZ.out hj ls ls.length (w1.heap.size+1) wr.heap.size w.heap.size w1.heap.size (w1.heap.size+2) V (by omega) (by omega) (Nat.lt_of_lt_of_le hbk hbw.size) e0 e1 e2 e4 e5 (by omega) e7 (by omega) e6 (hM1.out.below hb3 hM1.out.lt) (fun i hi=>(hbw.cell (p:=⟨bk,off+i,none⟩) hbk).trans (HCC.out i hi))
     ·rintro e w3 ⟨r,rfl,hr,hb3,hfr⟩
      replace hb3:=quJN hB5 hb3
      have g4:=(hb3.block (w.heap.size+1) (by omega)).trans b1
      obtain ⟨z0,z1,z2⟩:=z5EY g4
      have f0:=Lib.frozen_of_heap g4 0
      have f1:=Lib.frozen_of_heap g4 1
      have f2:=Lib.frozen_of_heap g4 2
      have HR:=hide hr
      obtain ⟨ro,rc,rfl,_,_⟩:=hr
      have HFIN:=hide (zHqh (j4.trans (hb3.mono j4.size)) (show w.heap.size≤w.heap.size+1 by omega) (.int .i64 (WN:Nat)) (.int .i64 (HN:Nat)) (.slice ro ((List.range zs.length).map (repV zs WN HN ls)).length rc))
      have HPX2:=hide (HR.out.set3 hfr (show w.heap.size+1<V5.heap.size by have:=hB5.size;omega) (.int .i64 (WN:Nat)) (.int .i64 (HN:Nat)) (.slice ro ((List.range zs.length).map (repV zs WN HN ls)).length rc))
      rw[List.length_map,List.length_range] at HPX2 HFIN hfr
      rw[List.length_map,List.length_range]
      have hsz5:w.heap.size≤V5.heap.size:=Nat.le_trans j4.size hB5.size
      go_wp2
      exact bodyPost_ret (v:=.tuple #[.agg #[.int .i64 (WN:Nat),.int .i64 (HN:Nat),.slice ro zs.length rc],.int .i64 0]) (by simp[results,Tryz.results259,go_sem,z0,z1,z2]) rfl ⟨_,rfl,HPX2.out,HFIN.out,hfr.mono hsz5⟩
  ·have he:E=2:=by rw[←hE,repE,if_pos hp,if_neg hmn]
   have hd64:decide (64<(ls.length:Int))=true:=by simp;omega
   subst he
   clear hE
   obtain ⟨ao,ca,rfl,_,_⟩:=hv
   go_enter Tryz.func259,Tryz.ntmps259
   go_wp2_with fail
   obtain ⟨a1,a2⟩:=al2 w (Obj.cells #[.int .i64 W,.int .i64 H,.slice ao zs.length ca] 54) (Obj.cells #[.int .i64 0,.int .i64 0,.slice none 0 0] 54)
   have hB:=be2 w (Obj.cells #[.int .i64 W,.int .i64 H,.slice ao zs.length ca] 54) (Obj.cells #[.int .i64 0,.int .i64 0,.slice none 0 0] 54)
   generalize (w.alloc (Obj.cells #[.int .i64 W,.int .i64 H,.slice ao zs.length ca] 54)).alloc (Obj.cells #[.int .i64 0,.int .i64 0,.slice none 0 0] 54)=U at *
   have hlU:=(Array.getElem?_eq_some_iff.1 a2).1
   refine (XeC7 W H _ zs _ (HV.out.below hB (Nat.le_refl _))).mono ?_
   rintro e w1 ⟨rfl,hb1⟩
   rw[hp]
   have g4:=(hb1.block (w.heap.size+1) hlU).trans a2
   obtain ⟨z0,z1,z2⟩:=z5EY g4
   have f0:=Lib.frozen_of_heap g4 0
   have f1:=Lib.frozen_of_heap g4 1
   have f2:=Lib.frozen_of_heap g4 2
   have HFIN:=hide (zHqh (hB.trans (hb1.mono hB.size)) (show w.heap.size≤w.heap.size+1 by omega) (.int .i64 0) (.int .i64 0) (.slice none 0 0))
   go_wp2
   exact bodyPost_ret (v:=.tuple #[.agg #[.int .i64 0,.int .i64 0,.slice none 0 0],.int .i64 2]) (by simp[results,Tryz.results259,go_sem,z0,z1,z2]) rfl ⟨.slice none 0 0,rfl,jCvT.nil _,HFIN.out,Fresh.nil _⟩
 ·have he:E=1:=by rw[←hE,repE,if_neg hp]
  have hp:q0fM W H zs=false:=by simpa using hp
  subst he
  clear hE
  obtain ⟨ao,ca,rfl,_,_⟩:=hv
  go_enter Tryz.func259,Tryz.ntmps259
  go_wp2_with fail
  obtain ⟨a1,a2⟩:=al2 w (Obj.cells #[.int .i64 W,.int .i64 H,.slice ao zs.length ca] 54) (Obj.cells #[.int .i64 0,.int .i64 0,.slice none 0 0] 54)
  have hB:=be2 w (Obj.cells #[.int .i64 W,.int .i64 H,.slice ao zs.length ca] 54) (Obj.cells #[.int .i64 0,.int .i64 0,.slice none 0 0] 54)
  generalize (w.alloc (Obj.cells #[.int .i64 W,.int .i64 H,.slice ao zs.length ca] 54)).alloc (Obj.cells #[.int .i64 0,.int .i64 0,.slice none 0 0] 54)=U at *
  have hlU:=(Array.getElem?_eq_some_iff.1 a2).1
  refine (XeC7 W H _ zs _ (HV.out.below hB (Nat.le_refl _))).mono ?_
  rintro e w1 ⟨rfl,hb1⟩
  rw[hp]
  have g4:=(hb1.block (w.heap.size+1) hlU).trans a2
  obtain ⟨z0,z1,z2⟩:=z5EY g4
  have f0:=Lib.frozen_of_heap g4 0
  have f1:=Lib.frozen_of_heap g4 1
  have f2:=Lib.frozen_of_heap g4 2
  have HFIN:=hide (zHqh (hB.trans (hb1.mono hB.size)) (show w.heap.size≤w.heap.size+1 by omega) (.int .i64 0) (.int .i64 0) (.slice none 0 0))
  go_wp2
  exact bodyPost_ret (v:=.tuple #[.agg #[.int .i64 0,.int .i64 0,.slice none 0 0],.int .i64 1]) (by simp[results,Tryz.results259,go_sem,z0,z1,z2]) rfl ⟨.slice none 0 0,rfl,jCvT.nil _,HFIN.out,Fresh.nil _⟩
end Go.Proofs.YtfjeonehdlphiaaGreatDoor

namespace Go.Proofs.YtfjeonehdlphiaaGreatDoor
set_option linter.unusedVariables false
open Go.RowKit
theorem jikX (q c:Nat):((q:Int) == (c:Int))=decide (q=c):=by
 by_cases h:q=c
 ·simp[h]
 ·rw[decide_eq_false h];simpa using fun e:(q:Int)=c=>h (by omega)
theorem zkc8 (p X Y:Nat) (hp:p≤3) (w:World):Calls Tryz.prog 126 #[.int .i64 p,.agg #[.int .i64 X,.int .i64 Y]] w fun e w'=>e=.returned (.int .i64 (colV p X Y:Nat))∧Below w.heap.size w w':=by
 go_enter Tryz.func126,Tryz.ntmps126
 go_wp2_with fail
 refine (XW0z p X Y hp _).mono ?_
 rintro e w1 ⟨rfl,hb1⟩
 go_wp2
 go_ret
 exact ⟨rfl,quJN (qUNz _ _) hb1⟩
set_option maxRecDepth 100000 in
set_option maxHeartbeats 800000 in
theorem XhPw (p X Y c Bp Bc:Nat) (hp:p≤3) (w:World) (hBp:Bp<w.heap.size) (hBc:Bc<w.heap.size) (k1:w.cell? ⟨Bp,0,none⟩=some (.int .i64 p)) (k2:w.cell? ⟨Bc,0,none⟩=some (.int .i64 c)) :
  Calls Tryz.prog 129 #[.agg #[.int .i64 X,.int .i64 Y],.pointer (some ⟨Bp,0,none⟩),.pointer (some ⟨Bc,0,none⟩)] w fun e w'=>e=.returned (.bool (decide (colV p X Y=c)))∧Below w.heap.size w w':=by
 have HCO:=hide (fun v=>zkc8 p X Y hp v)
 obtain ⟨q,hq⟩:∃q,colV p X Y=q:=⟨_,rfl⟩
 rw[hq] at HCO ⊢
 clear hq
 have HB:=hide (qUNz w (Obj.cells #[.int .i64 X,.int .i64 Y] 97))
 have b3:=al1 w (Obj.cells #[.int .i64 X,.int .i64 Y] 97)
 have HE:=hide (jikX q c)
 go_enter Tryz.func129,Tryz.ntmps129
 go_wp2_with fail
 have hl3:=(Array.getElem?_eq_some_iff.1 b3).1
 generalize w.alloc (Obj.cells #[.int .i64 X,.int .i64 Y] 97)=U at *
 have HS:=hide (show ∀v,Below U.heap.size U v→v.cell? ⟨Bp,0,none⟩=some (.int .i64 p)∧v.cell? ⟨Bc,0,none⟩=some (.int .i64 c)∧v.cell? ⟨w.heap.size,0,none⟩=some (.int .i64 X)∧v.cell? ⟨w.heap.size,1,none⟩=some (.int .i64 Y) from fun v h=>by
  have hw:=HB.out.trans (h.mono HB.out.size)
  have t:=(h.block _ hl3).trans b3
  exact ⟨(hw.cell (p:=⟨Bp,0,none⟩) hBp).trans k1,(hw.cell (p:=⟨Bc,0,none⟩) hBc).trans k2,by rw[Lib.cell_of_heap t];rfl,by rw[Lib.cell_of_heap t];rfl⟩)
 have hWd:Below U.heap.size U U.drew:=(Below.refl _ _).drew
 have hSd:=HS.out _ hWd
 have hmx:Tryz.prog.follows .mixedOrders=true:=by kernel_rfl
 refine qYgd (S:=fun v:World=>v.cell? ⟨Bp,0,none⟩=some (.int .i64 p)∧v.cell? ⟨Bc,0,none⟩=some (.int .i64 c)∧v.cell? ⟨w.heap.size,0,none⟩=some (.int .i64 X)∧v.cell? ⟨w.heap.size,1,none⟩=some (.int .i64 Y)) (f:=5) hmx ?_
 show jZdv _ _ _ _ _ _ 6 _ _ U.drew
 refine j7aj (i:=0) (oi:=_) (v:=?vv1) rfl (by kernel_rfl) (by kernel_rfl) (by kernel_rfl) (by kernel_rfl) (by kernel_rfl) (fun _ _ _ h=>h) (Or.inl ⟨by rfl,?yy1⟩) hSd ?rr1
 case yy1=>(intro wq hSq;obtain ⟨_,_,_,_⟩:=hSq;go_simp<;>with_reducible rfl)
 try simp only[Act.put]
 refine j7aj (i:=1) (oi:=_) (v:=?vv2) rfl (by kernel_rfl) (by kernel_rfl) (by kernel_rfl) (by kernel_rfl) (by kernel_rfl) (fun _ _ _ h=>h) (Or.inl ⟨by rfl,?yy2⟩) hSd ?rr2
 case yy2=>(intro wq hSq;obtain ⟨_,_,_,_⟩:=hSq;go_simp<;>with_reducible rfl)
 try simp only[Act.put]
 refine j7aj (i:=3) (oi:=_) (v:=?vv3) rfl (by kernel_rfl) (by kernel_rfl) (by kernel_rfl) (by kernel_rfl) (by kernel_rfl) (fun _ _ _ h=>h) (Or.inl ⟨by rfl,?yy3⟩) hSd ?rr3
 case yy3=>(intro wq hSq;obtain ⟨_,_,_,_⟩:=hSq;go_simp<;>with_reducible rfl)
 try simp only[Act.put]
 refine znWj (i:=2) (o:=_) (by kernel_rfl) rfl (fun K' hK=>?_)
 rw[if_pos (by rfl)]
 go_simp
 refine (HCO.out _).mono ?_
 rintro e V1 ⟨rfl,hbv⟩
 have hB1:Below U.heap.size U V1:=hWd.trans (hbv.mono hWd.size)
 have hSd:=HS.out _ hB1
 refine hK.out _ _ hSd ?_
 clear hK
 try simp only[Act.put]
 refine j7aj (i:=4) (oi:=_) (v:=?vv4) rfl (by kernel_rfl) (by kernel_rfl) (by kernel_rfl) (by kernel_rfl) (by kernel_rfl) (fun _ _ _ h=>h) (Or.inl ⟨by rfl,?yy4⟩) hSd ?rr4
 case yy4=>(intro wq hSq;obtain ⟨_,_,_,_⟩:=hSq;go_simp<;>with_reducible rfl)
 try simp only[Act.put]
 refine z9gO (o:=_) (by kernel_rfl) rfl (fun K' hK=>?_)
 rw[if_pos (by rfl)]
 go_simp
 refine hK.out _ _ ?_
 clear hK
 refine jFdp (by kernel_rfl) ?_ _
 try simp only[Act.put]
 go_wp2
 go_ret
 exact ⟨j3Zs HE.out,HB.out.trans (hB1.mono HB.out.size)⟩
def parX (X:Nat) (x:Fin 8):Int:=(X:Int)-1+(nOf x.1 % 3:Nat)
def parY (Y:Nat) (x:Fin 8):Int:=(Y:Int)-1+(nOf x.1 / 3:Nat)
def parC (p X Y c:Nat) (x:Fin 8):Bool:=decide (colV p (parX X x).toNat (parY Y x).toNat=c)
def partV (zs:List Int) (W H p X Y c:Nat):Int:=if colV p X Y=c then zAt zs (Y*W+X) else meanV zs W H (parX X) (parY Y) (parC p X Y c)
set_option maxRecDepth 100000 in
set_option maxHeartbeats 3200000 in
theorem Xdtf (W H p X Y c bk off ca:Nat) (hW1:1≤W) (hW:W≤64) (hH1:1≤H) (hH:H≤64) (hp:p≤3) (hX:X<W) (hY:Y<H) (zs:List Int) (hlen:zs.length=H*W) (hzs:allIn 0 65535 zs=true) (w:World) (hbk:bk<w.heap.size) (hcell:∀j,j<zs.length→w.cell? ⟨bk,off+j,none⟩=some (.int .i64 (zAt zs j))) :
  Calls Tryz.prog 73 #[.agg #[.int .i64 W,.int .i64 H,.slice (some ⟨bk,off,none⟩) zs.length ca],.int .i64 p,.agg #[.int .i64 X,.int .i64 Y],.int .i64 c] w fun e w'=>e=.returned (.int .i64 (partV zs W H p X Y c))∧Below w.heap.size w w':=by
 have HPV:=hide (show partV zs W H p X Y c=if colV p X Y=c then zAt zs (Y*W+X) else meanV zs W H (parX X) (parY Y) (parC p X Y c) from rfl)
 generalize partV zs W H p X Y c=RES at *
 have hl4:zs.length≤4096:=by rw[hlen];exact Nat.le_trans (Nat.mul_le_mul hH hW) (by decide)
 have hkl:Y*W+X<zs.length:=by
  have h1:(Y+1)*W≤H*W:=Nat.mul_le_mul_right _ hY
  rw[Nat.succ_mul] at h1
  rw[hlen];omega
 have HC:=hide hcell
 have HCO:=hide (fun v=>zkc8 p X Y hp v)
 obtain ⟨a1,a2,a3,a4⟩:=al4 w (Obj.cells #[.int .i64 W,.int .i64 H,.slice (some ⟨bk,off,none⟩) zs.length ca] 54) (Obj.cells #[.int .i64 p] 3) (Obj.cells #[.int .i64 X,.int .i64 Y] 97) (Obj.cells #[.int .i64 c] 3)
 have HB:=hide (be4 w (Obj.cells #[.int .i64 W,.int .i64 H,.slice (some ⟨bk,off,none⟩) zs.length ca] 54) (Obj.cells #[.int .i64 p] 3) (Obj.cells #[.int .i64 X,.int .i64 Y] 97) (Obj.cells #[.int .i64 c] 3))
 have HMP:=hide (fun (u:World) (hu:Below w.heap.size w u) (Bs:Nat) (hBs:Bs<u.heap.size) (e0:u.cell? ⟨Bs,0,none⟩=some (.int .i64 X)) (e1:u.cell? ⟨Bs,1,none⟩=some (.int .i64 Y)) (hp1:w.heap.size+1<u.heap.size) (hp3:w.heap.size+3<u.heap.size) (k1:u.cell? ⟨w.heap.size+1,0,none⟩=some (.int .i64 p)) (k2:u.cell? ⟨w.heap.size+3,0,none⟩=some (.int .i64 c)) =>
  qkM9 8 W H bk off ca (by omega) hW1 hW hH1 hH zs hlen hzs 184 129 Bs #[.pointer (some ⟨Bs,0,none⟩)] #[.pointer (some ⟨w.heap.size+1,0,none⟩),.pointer (some ⟨w.heap.size+3,0,none⟩)] (parX X) (parY Y) (parC p X Y c) u (enters_of Tryz.func184 (by kernel_rfl) rfl) (enters_of Tryz.func129 (by kernel_rfl) rfl) hBs (Nat.lt_of_lt_of_le hbk hu.size) (fun j hj=>(hu.cell (p:=⟨bk,off+j,none⟩) hbk).trans (hcell j hj))
   (fun V hV=>jMfn Fence.wide (3-1) trivial rfl (by omega) Bs X Y (by omega) (by omega) V (Nat.lt_of_lt_of_le hBs hV.size) ((hV.cell (p:=⟨Bs,0,none⟩) hBs).trans e0) ((hV.cell (p:=⟨Bs,1,none⟩) hBs).trans e1))
   (fun x V hh hV=>by
    have hh2:0≤parX X x∧parX X x<W∧0≤parY Y x∧parY Y x<H:=by simpa [hasB] using hh
    have h:=XhPw p (parX X x).toNat (parY Y x).toNat c (w.heap.size+1) (w.heap.size+3) hp V (Nat.lt_of_lt_of_le hp1 hV.size) (Nat.lt_of_lt_of_le hp3 hV.size) ((hV.cell (p:=⟨w.heap.size+1,0,none⟩) hp1).trans k1) ((hV.cell (p:=⟨w.heap.size+3,0,none⟩) hp3).trans k2)
    rw[Int.toNat_of_nonneg hh2.1,Int.toNat_of_nonneg hh2.2.2.1] at h
    exact h))
 obtain ⟨K1,hK1⟩:∃K1,Y*W+X=K1:=⟨_,rfl⟩
 rw[hK1] at HPV hkl
 have HIX:=hide (fun v=>XSSj W H X Y W K1 rfl hK1 (by omega) v)
 have hcz:=hcell K1 hkl
 obtain ⟨z,hz0⟩:∃z,zAt zs K1=z:=⟨_,rfl⟩
 rw[hz0] at hcz HPV
 clear hz0 hK1 hcell hlen hzs
 obtain ⟨q,hq⟩:∃q,colV p X Y=q:=⟨_,rfl⟩
 rw[hq] at HCO HPV
 clear hq
 go_enter Tryz.func73,Tryz.ntmps73
 go_wp2_with fail
 have hs4:((((w.alloc (Obj.cells #[.int .i64 W,.int .i64 H,.slice (some ⟨bk,off,none⟩) zs.length ca] 54)).alloc (Obj.cells #[.int .i64 p] 3)).alloc (Obj.cells #[.int .i64 X,.int .i64 Y] 97)).alloc (Obj.cells #[.int .i64 c] 3)).heap.size=w.heap.size+4:=by simp
 generalize (((w.alloc (Obj.cells #[.int .i64 W,.int .i64 H,.slice (some ⟨bk,off,none⟩) zs.length ca] 54)).alloc (Obj.cells #[.int .i64 p] 3)).alloc (Obj.cells #[.int .i64 X,.int .i64 Y] 97)).alloc (Obj.cells #[.int .i64 c] 3)=U at *
 replace hs4:=Nat.le_of_eq hs4.symm
 have HS:=hide (show ∀v,Below U.heap.size U v→v.cell? ⟨w.heap.size,0,none⟩=some (.int .i64 W)∧v.cell? ⟨w.heap.size,1,none⟩=some (.int .i64 H)∧v.cell? ⟨w.heap.size,2,none⟩=some (.slice (some ⟨bk,off,none⟩) zs.length ca)∧v.cell? ⟨w.heap.size+1,0,none⟩=some (.int .i64 p)∧v.cell? ⟨w.heap.size+1+1,0,none⟩=some (.int .i64 X)∧v.cell? ⟨w.heap.size+1+1,1,none⟩=some (.int .i64 Y)∧v.cell? ⟨w.heap.size+1+1+1,0,none⟩=some (.int .i64 c)∧v.cell? ⟨bk,off+K1,none⟩=some (.int .i64 z) from fun v h=>by
  have hw:=HB.out.trans (h.mono HB.out.size)
  obtain ⟨t0,t1,t2⟩:=z5EY ((h.block _ (by omega)).trans a1)
  have t3:=(h.block (w.heap.size+2) (by omega)).trans a3
  exact ⟨t0,t1,t2,by rw[Lib.cell_of_heap ((h.block (w.heap.size+1) (by omega)).trans a2)];rfl,by rw[Lib.cell_of_heap (b:=w.heap.size+1+1) t3];rfl,by rw[Lib.cell_of_heap (b:=w.heap.size+1+1) t3];rfl,by rw[Lib.cell_of_heap (b:=w.heap.size+1+1+1) ((h.block (w.heap.size+3) (by omega)).trans a4)];rfl,(hw.cell (p:=⟨bk,off+K1,none⟩) hbk).trans hcz⟩)
 have hWd:Below U.heap.size U U.drew:=(Below.refl _ _).drew
 have hSd:=HS.out _ hWd
 have hklI:(K1:Int)<(zs.length:Int):=by omega
 clear a1 a2 a3 a4 hcz
 have hmx:Tryz.prog.follows .mixedOrders=true:=by kernel_rfl
 refine qYgd (S:=fun v:World=>v.cell? ⟨w.heap.size,0,none⟩=some (.int .i64 W)∧v.cell? ⟨w.heap.size,1,none⟩=some (.int .i64 H)∧v.cell? ⟨w.heap.size,2,none⟩=some (.slice (some ⟨bk,off,none⟩) zs.length ca)∧v.cell? ⟨w.heap.size+1,0,none⟩=some (.int .i64 p)∧v.cell? ⟨w.heap.size+1+1,0,none⟩=some (.int .i64 X)∧v.cell? ⟨w.heap.size+1+1,1,none⟩=some (.int .i64 Y)∧v.cell? ⟨w.heap.size+1+1+1,0,none⟩=some (.int .i64 c)∧v.cell? ⟨bk,off+K1,none⟩=some (.int .i64 z)) (f:=4) hmx ?_
 show jZdv _ _ _ _ _ _ 5 _ _ U.drew
 refine j7aj (i:=0) (oi:=_) (v:=?vv5) rfl (by kernel_rfl) (by kernel_rfl) (by kernel_rfl) (by kernel_rfl) (by kernel_rfl) (fun _ _ _ h=>h) (Or.inl ⟨by rfl,?yy5⟩) hSd ?rr5
 case yy5=>(intro wq hSq;obtain ⟨_,_,_,_,_,_,_,_⟩:=hSq;go_simp<;>with_reducible rfl)
 try simp only[Act.put]
 refine j7aj (i:=1) (oi:=_) (v:=?vv6) rfl (by kernel_rfl) (by kernel_rfl) (by kernel_rfl) (by kernel_rfl) (by kernel_rfl) (fun _ _ _ h=>h) (Or.inl ⟨by rfl,?yy6⟩) hSd ?rr6
 case yy6=>(intro wq hSq;obtain ⟨_,_,_,_,_,_,_,_⟩:=hSq;go_simp<;>with_reducible rfl)
 try simp only[Act.put]
 refine j7aj (i:=3) (oi:=_) (v:=?vv7) rfl (by kernel_rfl) (by kernel_rfl) (by kernel_rfl) (by kernel_rfl) (by kernel_rfl) (fun _ _ _ h=>h) (Or.inl ⟨by rfl,?yy7⟩) hSd ?rr7
 case yy7=>(intro wq hSq;obtain ⟨_,_,_,_,_,_,_,_⟩:=hSq;go_simp<;>with_reducible rfl)
 try simp only[Act.put]
 refine znWj (i:=2) (o:=_) (by kernel_rfl) rfl (fun K' hK=>?_)
 rw[if_pos (by rfl)]
 go_simp
 refine (HCO.out _).mono ?_
 rintro e V1 ⟨rfl,hbv⟩
 have hB1:Below U.heap.size U V1:=hWd.trans (hbv.mono hWd.size)
 have hSd:=HS.out _ hB1
 refine hK.out _ _ hSd ?_
 clear hK
 try simp only[Act.put]
 refine z9gO (o:=_) (by kernel_rfl) rfl (fun K' hK=>?_)
 rw[if_pos (by rfl)]
 go_simp
 refine hK.out _ _ ?_
 clear hK
 refine jFdp (by kernel_rfl) ?_ _
 try simp only[Act.put]
 by_cases hqc:q=c
 ·rw[if_pos hqc] at HPV
  have hd:((q:Int) == (c:Int))=true:=by simp[hqc]
  clear hSd
  have hWd2:Below U.heap.size U V1.drew:=hB1.drew
  have hSd:=HS.out _ hWd2
  go_wp2_with fail
  have hmx:Tryz.prog.follows .mixedOrders=true:=by kernel_rfl
  refine qYgd (S:=fun v:World=>v.cell? ⟨w.heap.size,0,none⟩=some (.int .i64 W)∧v.cell? ⟨w.heap.size,1,none⟩=some (.int .i64 H)∧v.cell? ⟨w.heap.size,2,none⟩=some (.slice (some ⟨bk,off,none⟩) zs.length ca)∧v.cell? ⟨w.heap.size+1,0,none⟩=some (.int .i64 p)∧v.cell? ⟨w.heap.size+1+1,0,none⟩=some (.int .i64 X)∧v.cell? ⟨w.heap.size+1+1,1,none⟩=some (.int .i64 Y)∧v.cell? ⟨w.heap.size+1+1+1,0,none⟩=some (.int .i64 c)∧v.cell? ⟨bk,off+K1,none⟩=some (.int .i64 z)) (f:=11) hmx ?_
  show jZdv _ _ _ _ _ _ 12 _ _ V1.drew
  refine j7aj (i:=0) (oi:=_) (v:=?vv8) rfl (by kernel_rfl) (by kernel_rfl) (by kernel_rfl) (by kernel_rfl) (by kernel_rfl) (fun _ _ _ h=>h) (Or.inl ⟨by rfl,?yy8⟩) hSd ?rr8
  case yy8=>(intro wq hSq;obtain ⟨_,_,_,_,_,_,_,_⟩:=hSq;go_simp<;>with_reducible rfl)
  try simp only[Act.put]
  refine j7aj (i:=1) (oi:=_) (v:=?vv9) rfl (by kernel_rfl) (by kernel_rfl) (by kernel_rfl) (by kernel_rfl) (by kernel_rfl) (fun _ _ _ h=>h) (Or.inl ⟨by rfl,?yy9⟩) hSd ?rr9
  case yy9=>(intro wq hSq;obtain ⟨_,_,_,_,_,_,_,_⟩:=hSq;go_simp<;>with_reducible rfl)
  try simp only[Act.put]
  refine j7aj (i:=2) (oi:=_) (v:=?vv10) rfl (by kernel_rfl) (by kernel_rfl) (by kernel_rfl) (by kernel_rfl) (by kernel_rfl) (fun _ _ _ h=>h) (Or.inl ⟨by rfl,?yy10⟩) hSd ?rr10
  case yy10=>(intro wq hSq;obtain ⟨_,_,_,_,_,_,_,_⟩:=hSq;go_simp<;>with_reducible rfl)
  try simp only[Act.put]
  refine j7aj (i:=3) (oi:=_) (v:=?vv11) rfl (by kernel_rfl) (by kernel_rfl) (by kernel_rfl) (by kernel_rfl) (by kernel_rfl) (fun _ _ _ h=>h) (Or.inl ⟨by rfl,?yy11⟩) hSd ?rr11
  case yy11=>(intro wq hSq;obtain ⟨_,_,_,_,_,_,_,_⟩:=hSq;go_simp<;>with_reducible rfl)
  try simp only[Act.put]
  refine j7aj (i:=4) (oi:=_) (v:=?vv12) rfl (by kernel_rfl) (by kernel_rfl) (by kernel_rfl) (by kernel_rfl) (by kernel_rfl) (fun _ _ _ h=>h) (Or.inl ⟨by rfl,?yy12⟩) hSd ?rr12
  case yy12=>(intro wq hSq;obtain ⟨_,_,_,_,_,_,_,_⟩:=hSq;go_simp<;>with_reducible rfl)
  try simp only[Act.put]
  refine j7aj (i:=5) (oi:=_) (v:=?vv13) rfl (by kernel_rfl) (by kernel_rfl) (by kernel_rfl) (by kernel_rfl) (by kernel_rfl) (fun _ _ _ h=>h) (Or.inl ⟨by rfl,?yy13⟩) hSd ?rr13
  case yy13=>(intro wq hSq;obtain ⟨_,_,_,_,_,_,_,_⟩:=hSq;go_simp<;>with_reducible rfl)
  try simp only[Act.put]
  refine j7aj (i:=6) (oi:=_) (v:=?vv14) rfl (by kernel_rfl) (by kernel_rfl) (by kernel_rfl) (by kernel_rfl) (by kernel_rfl) (fun _ _ _ h=>h) (Or.inl ⟨by rfl,?yy14⟩) hSd ?rr14
  case yy14=>(intro wq hSq;obtain ⟨_,_,_,_,_,_,_,_⟩:=hSq;go_simp<;>with_reducible rfl)
  try simp only[Act.put]
  refine j7aj (i:=7) (oi:=_) (v:=?vv15) rfl (by kernel_rfl) (by kernel_rfl) (by kernel_rfl) (by kernel_rfl) (by kernel_rfl) (fun _ _ _ h=>h) (Or.inl ⟨by rfl,?yy15⟩) hSd ?rr15
  case yy15=>(intro wq hSq;obtain ⟨_,_,_,_,_,_,_,_⟩:=hSq;go_simp<;>with_reducible rfl)
  try simp only[Act.put]
  refine znWj (i:=8) (o:=_) (by kernel_rfl) rfl (fun K' hK=>?_)
  rw[if_pos (by rfl)]
  go_simp
  refine (HIX.out _).mono ?_
  rintro e V2 ⟨rfl,hbv2⟩
  have hB2:Below U.heap.size U V2:=hWd2.trans (hbv2.mono hWd2.size)
  have hSd:=HS.out _ hB2
  refine hK.out _ _ hSd ?_
  clear hK
  try simp only[Act.put]
  refine j7aj (i:=9) (oi:=_) (v:=?vv16) rfl (by kernel_rfl) (by kernel_rfl) (by kernel_rfl) (by kernel_rfl) (by kernel_rfl) (fun _ _ _ h=>h) (Or.inl ⟨by rfl,?yy16⟩) hSd ?rr16
  case yy16=>(intro wq hSq;obtain ⟨_,_,_,_,_,_,_,_⟩:=hSq;go_simp<;>with_reducible rfl)
  try simp only[Act.put]
  refine j7aj (i:=10) (oi:=_) (v:=?vv17) rfl (by kernel_rfl) (by kernel_rfl) (by kernel_rfl) (by kernel_rfl) (by kernel_rfl) (fun _ _ _ h=>h) (Or.inl ⟨by rfl,?yy17⟩) hSd ?rr17
  case yy17=>(intro wq hSq;obtain ⟨_,_,_,_,_,_,_,_⟩:=hSq;go_simp<;>with_reducible rfl)
  try simp only[Act.put]
  refine z9gO (o:=_) (by kernel_rfl) rfl (fun K' hK=>?_)
  rw[if_pos (by rfl)]
  go_simp
  refine hK.out _ _ ?_
  clear hK
  refine jFdp (by kernel_rfl) ?_ _
  try simp only[Act.put]
  go_wp2
  go_ret
  exact ⟨jx9N HPV.out.symm,HB.out.trans (hB2.mono HB.out.size)⟩
 ·rw[if_neg hqc] at HPV
  have hd:((q:Int) == (c:Int))=false:=by simpa using fun h:(q:Int)=c=>hqc (by omega)
  clear hSd
  have hWd2:Below U.heap.size U V1.drew:=hB1.drew
  have hSd:=HS.out _ hWd2
  go_wp2_with fail
  have hmx:Tryz.prog.follows .mixedOrders=true:=by kernel_rfl
  refine qYgd (S:=fun v:World=>v.cell? ⟨w.heap.size,0,none⟩=some (.int .i64 W)∧v.cell? ⟨w.heap.size,1,none⟩=some (.int .i64 H)∧v.cell? ⟨w.heap.size,2,none⟩=some (.slice (some ⟨bk,off,none⟩) zs.length ca)∧v.cell? ⟨w.heap.size+1,0,none⟩=some (.int .i64 p)∧v.cell? ⟨w.heap.size+1+1,0,none⟩=some (.int .i64 X)∧v.cell? ⟨w.heap.size+1+1,1,none⟩=some (.int .i64 Y)∧v.cell? ⟨w.heap.size+1+1+1,0,none⟩=some (.int .i64 c)∧v.cell? ⟨bk,off+K1,none⟩=some (.int .i64 z)) (f:=5) hmx ?_
  show jZdv _ _ _ _ _ _ 6 _ _ V1.drew
  refine j7aj (i:=0) (oi:=_) (v:=?vv18) rfl (by kernel_rfl) (by kernel_rfl) (by kernel_rfl) (by kernel_rfl) (by kernel_rfl) (fun _ _ _ h=>h) (Or.inl ⟨by rfl,?yy18⟩) hSd ?rr18
  case yy18=>(intro wq hSq;obtain ⟨_,_,_,_,_,_,_,_⟩:=hSq;go_simp<;>with_reducible rfl)
  try simp only[Act.put]
  refine j7aj (i:=1) (oi:=_) (v:=?vv19) rfl (by kernel_rfl) (by kernel_rfl) (by kernel_rfl) (by kernel_rfl) (by kernel_rfl) (fun _ _ _ h=>h) (Or.inl ⟨by rfl,?yy19⟩) hSd ?rr19
  case yy19=>(intro wq hSq;obtain ⟨_,_,_,_,_,_,_,_⟩:=hSq;go_simp<;>with_reducible rfl)
  try simp only[Act.put]
  refine j7aj (i:=3) (oi:=_) (v:=?vv20) rfl (by kernel_rfl) (by kernel_rfl) (by kernel_rfl) (by kernel_rfl) (by kernel_rfl) (fun _ _ _ h=>h) (Or.inl ⟨by rfl,?yy20⟩) hSd ?rr20
  case yy20=>(intro wq hSq;obtain ⟨_,_,_,_,_,_,_,_⟩:=hSq;go_simp<;>with_reducible rfl)
  try simp only[Act.put]
  refine znWj (i:=2) (o:=_) (by kernel_rfl) rfl (fun K' hK=>?_)
  rw[if_pos (by rfl)]
  go_simp
  refine ((callsIn_wide (n:=3)).1 (zJHU Fence.wide _ trivial rfl _ _ _)).mono ?_
  rintro e V2 ⟨rfl,rfl⟩
  have hB2:Below U.heap.size U (V1.drew.alloc (Obj.cells #[.int .i64 X,.int .i64 Y] 97)):=hWd2.alloc hWd2.size _
  have hSd:=HS.out _ hB2
  refine hK.out _ _ hSd ?_
  clear hK
  try simp only[Act.put]
  refine znWj (i:=4) (o:=_) (by kernel_rfl) rfl (fun K' hK=>?_)
  rw[if_pos (by rfl)]
  go_simp
  have hsU:U.heap.size≤V1.heap.size:=hWd2.size
  have tB:(V1.drew.alloc (Obj.cells #[.int .i64 X,.int .i64 Y] 97)).heap[V1.drew.heap.size]?=some (.cells #[.int .i64 X,.int .i64 Y] 97 (0,0)):=al1 V1.drew _
  refine (HMP.out _ (HB.out.trans (hB2.mono HB.out.size)) V1.drew.heap.size (by simp) (by rw[Lib.cell_of_heap tB];rfl) (by rw[Lib.cell_of_heap tB];rfl) (by simp;omega) (by simp;omega) hSd.2.2.2.1 hSd.2.2.2.2.2.2.1).mono ?_
  rintro e V3 ⟨rfl,hb3⟩
  have hB3:Below U.heap.size U V3:=hB2.trans (hb3.mono hB2.size)
  have hSd:=HS.out _ hB3
  refine hK.out _ _ hSd ?_
  clear hK
  try simp only[Act.put]
  refine z9gO (o:=_) (by kernel_rfl) rfl (fun K' hK=>?_)
  rw[if_pos (by rfl)]
  go_simp
  refine hK.out _ _ ?_
  clear hK
  refine jFdp (by kernel_rfl) ?_ _
  try simp only[Act.put]
  go_wp2
  go_ret
  exact ⟨jx9N HPV.out.symm,HB.out.trans (hB3.mono HB.out.size)⟩
end Go.Proofs.YtfjeonehdlphiaaGreatDoor

namespace Go.Proofs.YtfjeonehdlphiaaGreatDoor
set_option linter.unusedVariables false
open Go.RowKit
def fillP (zs:List Int) (W H p j:Nat):Px:=(partV zs W H p (j % W) (j / W) 0,partV zs W H p (j % W) (j / W) 1,partV zs W H p (j % W) (j / W) 2)
set_option maxRecDepth 100000 in
set_option maxHeartbeats 1600000 in
theorem qfZD (W H p j bk off ca:Nat) (hW1:1≤W) (hW:W≤64) (hH1:1≤H) (hH:H≤64) (hp:p≤3) (zs:List Int) (hlen:zs.length=H*W) (hzs:allIn 0 65535 zs=true) (hj:j<zs.length) (Bp Bh:Nat) (w:World) (hBp:Bp<w.heap.size) (hBh:Bh<w.heap.size) (hbk:bk<w.heap.size)
  (k0:w.cell? ⟨Bp,0,none⟩=some (.int .i64 W)) (k1:w.cell? ⟨Bp,1,none⟩=some (.int .i64 H)) (k2:w.cell? ⟨Bp,2,none⟩=some (.slice (some ⟨bk,off,none⟩) zs.length ca)) (k3:w.cell? ⟨Bh,0,none⟩=some (.int .i64 p))
  (hcell:∀j,j<zs.length→w.cell? ⟨bk,off+j,none⟩=some (.int .i64 (zAt zs j))) :
  Calls Tryz.prog 72 #[.agg #[.int .i64 (j % W:Nat),.int .i64 (j / W:Nat)],.pointer (some ⟨Bp,0,none⟩),.pointer (some ⟨Bh,0,none⟩)] w fun e w'=>e=.returned (pixV (fillP zs W H p j))∧Below w.heap.size w w':=by
 have hXW:j % W<W:=Nat.mod_lt _ (by omega)
 have hYH:j / W<H:=by rw[hlen] at hj;exact Nat.div_lt_of_lt_mul (by rw[Nat.mul_comm];exact hj)
 have HF:=hide (show fillP zs W H p j=(partV zs W H p (j % W) (j / W) 0,partV zs W H p (j % W) (j / W) 1,partV zs W H p (j % W) (j / W) 2) from rfl)
 generalize fillP zs W H p j=RES at *
 obtain ⟨X,hX⟩:∃X,j % W=X:=⟨_,rfl⟩
 obtain ⟨Y,hY⟩:∃Y,j / W=Y:=⟨_,rfl⟩
 rw[hX] at hXW
 rw[hY] at hYH
 rw[hX,hY] at HF
 rw[hX,hY]
 clear hX hY
 have HPA:=hide (fun (c:Nat) (v:World) (hv:Below w.heap.size w v)=>Xdtf W H p X Y c bk off ca hW1 hW hH1 hH hp hXW hYH zs hlen hzs v (Nat.lt_of_lt_of_le hbk hv.size) (fun j hj=>(hv.cell (p:=⟨bk,off+j,none⟩) hbk).trans (hcell j hj)))
 obtain ⟨r0,hr0⟩:∃r,partV zs W H p X Y 0=r:=⟨_,rfl⟩
 obtain ⟨r1,hr1⟩:∃r,partV zs W H p X Y 1=r:=⟨_,rfl⟩
 obtain ⟨r2,hr2⟩:∃r,partV zs W H p X Y 2=r:=⟨_,rfl⟩
 have HP0:=hide (HPA.out 0)
 have HP1:=hide (HPA.out 1)
 have HP2:=hide (HPA.out 2)
 rw[hr0] at HP0 HF
 rw[hr1] at HP1 HF
 rw[hr2] at HP2 HF
 clear HPA hr0 hr1 hr2 hcell hlen hzs
 have HB:=hide (be2 w (Obj.cells #[.int .i64 X,.int .i64 Y] 97) (Obj.cells #[.int .i64 0,.int .i64 0,.int .i64 0] 61))
 obtain ⟨a1,a2⟩:=al2 w (Obj.cells #[.int .i64 X,.int .i64 Y] 97) (Obj.cells #[.int .i64 0,.int .i64 0,.int .i64 0] 61)
 go_enter Tryz.func72,Tryz.ntmps72
 go_wp2_with fail
 have hl1:=(Array.getElem?_eq_some_iff.1 a1).1
 have hl2:=(Array.getElem?_eq_some_iff.1 a2).1
 generalize (w.alloc (Obj.cells #[.int .i64 X,.int .i64 Y] 97)).alloc (Obj.cells #[.int .i64 0,.int .i64 0,.int .i64 0] 61)=U at *
 have HS:=hide (show ∀v,Below U.heap.size U v→v.cell? ⟨Bp,0,none⟩=some (.int .i64 W)∧v.cell? ⟨Bp,1,none⟩=some (.int .i64 H)∧v.cell? ⟨Bp,2,none⟩=some (.slice (some ⟨bk,off,none⟩) zs.length ca)∧v.cell? ⟨Bh,0,none⟩=some (.int .i64 p)∧v.cell? ⟨w.heap.size,0,none⟩=some (.int .i64 X)∧v.cell? ⟨w.heap.size,1,none⟩=some (.int .i64 Y) from fun v h=>by
  have hw:=HB.out.trans (h.mono HB.out.size)
  have t:=(h.block _ hl1).trans a1
  exact ⟨(hw.cell (p:=⟨Bp,0,none⟩) hBp).trans k0,(hw.cell (p:=⟨Bp,1,none⟩) hBp).trans k1,(hw.cell (p:=⟨Bp,2,none⟩) hBp).trans k2,(hw.cell (p:=⟨Bh,0,none⟩) hBh).trans k3,by rw[Lib.cell_of_heap t];rfl,by rw[Lib.cell_of_heap t];rfl⟩)
 have hWd:Below U.heap.size U U.drew:=(Below.refl _ _).drew
 have hSd:=HS.out _ hWd
 have hmx:Tryz.prog.follows .mixedOrders=true:=by kernel_rfl
 refine qYgd (S:=fun v:World=>v.cell? ⟨Bp,0,none⟩=some (.int .i64 W)∧v.cell? ⟨Bp,1,none⟩=some (.int .i64 H)∧v.cell? ⟨Bp,2,none⟩=some (.slice (some ⟨bk,off,none⟩) zs.length ca)∧v.cell? ⟨Bh,0,none⟩=some (.int .i64 p)∧v.cell? ⟨w.heap.size,0,none⟩=some (.int .i64 X)∧v.cell? ⟨w.heap.size,1,none⟩=some (.int .i64 Y)) (f:=13) hmx ?_
 show jZdv _ _ _ _ _ _ 14 _ _ U.drew
 refine j7aj (i:=0) (oi:=_) (v:=?vv1) rfl (by kernel_rfl) (by kernel_rfl) (by kernel_rfl) (by kernel_rfl) (by kernel_rfl) (fun _ _ _ h=>h) (Or.inl ⟨by rfl,?yy1⟩) hSd ?rr1
 case yy1=>(intro wq hSq;obtain ⟨_,_,_,_,_,_⟩:=hSq;go_simp<;>with_reducible rfl)
 try simp only[Act.put]
 refine j7aj (i:=1) (oi:=_) (v:=?vv2) rfl (by kernel_rfl) (by kernel_rfl) (by kernel_rfl) (by kernel_rfl) (by kernel_rfl) (fun _ _ _ h=>h) (Or.inl ⟨by rfl,?yy2⟩) hSd ?rr2
 case yy2=>(intro wq hSq;obtain ⟨_,_,_,_,_,_⟩:=hSq;go_simp<;>with_reducible rfl)
 try simp only[Act.put]
 refine j7aj (i:=2) (oi:=_) (v:=?vv3) rfl (by kernel_rfl) (by kernel_rfl) (by kernel_rfl) (by kernel_rfl) (by kernel_rfl) (fun _ _ _ h=>h) (Or.inl ⟨by rfl,?yy3⟩) hSd ?rr3
 case yy3=>(intro wq hSq;obtain ⟨_,_,_,_,_,_⟩:=hSq;go_simp<;>with_reducible rfl)
 try simp only[Act.put]
 refine j7aj (i:=4) (oi:=_) (v:=?vv4) rfl (by kernel_rfl) (by kernel_rfl) (by kernel_rfl) (by kernel_rfl) (by kernel_rfl) (fun _ _ _ h=>h) (Or.inl ⟨by rfl,?yy4⟩) hSd ?rr4
 case yy4=>(intro wq hSq;obtain ⟨_,_,_,_,_,_⟩:=hSq;go_simp<;>with_reducible rfl)
 try simp only[Act.put]
 refine j7aj (i:=5) (oi:=_) (v:=?vv5) rfl (by kernel_rfl) (by kernel_rfl) (by kernel_rfl) (by kernel_rfl) (by kernel_rfl) (fun _ _ _ h=>h) (Or.inl ⟨by rfl,?yy5⟩) hSd ?rr5
 case yy5=>(intro wq hSq;obtain ⟨_,_,_,_,_,_⟩:=hSq;go_simp<;>with_reducible rfl)
 try simp only[Act.put]
 refine j7aj (i:=6) (oi:=_) (v:=?vv6) rfl (by kernel_rfl) (by kernel_rfl) (by kernel_rfl) (by kernel_rfl) (by kernel_rfl) (fun _ _ _ h=>h) (Or.inl ⟨by rfl,?yy6⟩) hSd ?rr6
 case yy6=>(intro wq hSq;obtain ⟨_,_,_,_,_,_⟩:=hSq;go_simp<;>with_reducible rfl)
 try simp only[Act.put]
 refine j7aj (i:=8) (oi:=_) (v:=?vv7) rfl (by kernel_rfl) (by kernel_rfl) (by kernel_rfl) (by kernel_rfl) (by kernel_rfl) (fun _ _ _ h=>h) (Or.inl ⟨by rfl,?yy7⟩) hSd ?rr7
 case yy7=>(intro wq hSq;obtain ⟨_,_,_,_,_,_⟩:=hSq;go_simp<;>with_reducible rfl)
 try simp only[Act.put]
 refine j7aj (i:=9) (oi:=_) (v:=?vv8) rfl (by kernel_rfl) (by kernel_rfl) (by kernel_rfl) (by kernel_rfl) (by kernel_rfl) (fun _ _ _ h=>h) (Or.inl ⟨by rfl,?yy8⟩) hSd ?rr8
 case yy8=>(intro wq hSq;obtain ⟨_,_,_,_,_,_⟩:=hSq;go_simp<;>with_reducible rfl)
 try simp only[Act.put]
 refine j7aj (i:=10) (oi:=_) (v:=?vv9) rfl (by kernel_rfl) (by kernel_rfl) (by kernel_rfl) (by kernel_rfl) (by kernel_rfl) (fun _ _ _ h=>h) (Or.inl ⟨by rfl,?yy9⟩) hSd ?rr9
 case yy9=>(intro wq hSq;obtain ⟨_,_,_,_,_,_⟩:=hSq;go_simp<;>with_reducible rfl)
 try simp only[Act.put]
 refine znWj (i:=3) (o:=_) (by kernel_rfl) rfl (fun K' hK=>?_)
 rw[if_pos (by rfl)]
 go_simp
 refine (HP0.out _ (HB.out.trans (hWd.mono HB.out.size))).mono ?_
 rintro e V0 ⟨rfl,hbv0⟩
 have hB0:Below U.heap.size U V0:=hWd.trans (hbv0.mono hWd.size)
 have hSd:=HS.out _ hB0
 refine hK.out _ _ hSd ?_
 clear hK
 try simp only[Act.put]
 refine znWj (i:=7) (o:=_) (by kernel_rfl) rfl (fun K' hK=>?_)
 rw[if_pos (by rfl)]
 go_simp
 refine (HP1.out _ (HB.out.trans (hB0.mono HB.out.size))).mono ?_
 rintro e V1 ⟨rfl,hbv1⟩
 have hB1:Below U.heap.size U V1:=hB0.trans (hbv1.mono hB0.size)
 have hSd:=HS.out _ hB1
 refine hK.out _ _ hSd ?_
 clear hK
 try simp only[Act.put]
 refine znWj (i:=11) (o:=_) (by kernel_rfl) rfl (fun K' hK=>?_)
 rw[if_pos (by rfl)]
 go_simp
 refine (HP2.out _ (HB.out.trans (hB1.mono HB.out.size))).mono ?_
 rintro e V2 ⟨rfl,hbv2⟩
 have hB2:Below U.heap.size U V2:=hB1.trans (hbv2.mono hB1.size)
 have hSd:=HS.out _ hB2
 refine hK.out _ _ hSd ?_
 clear hK
 try simp only[Act.put]
 refine j7aj (i:=12) (oi:=_) (v:=?vv10) rfl (by kernel_rfl) (by kernel_rfl) (by kernel_rfl) (by kernel_rfl) (by kernel_rfl) (fun _ _ _ h=>h) (Or.inl ⟨by rfl,?yy10⟩) hSd ?rr10
 case yy10=>(intro wq hSq;obtain ⟨_,_,_,_,_,_⟩:=hSq;go_simp<;>with_reducible rfl)
 try simp only[Act.put]
 have gR:=(hB2.block (w.heap.size+1) hl2).trans a2
 obtain ⟨z0,z1,z2⟩:=z5EY gR
 have f0:=Lib.frozen_of_heap gR 0
 have f1:=Lib.frozen_of_heap gR 1
 have f2:=Lib.frozen_of_heap gR 2
 refine z9gO (o:=_) (by kernel_rfl) rfl (fun K' hK=>?_)
 rw[if_pos (by rfl)]
 go_simp
 refine hK.out _ _ ?_
 clear hK
 refine jFdp (by kernel_rfl) ?_ _
 try simp only[Act.put]
 have HFIN:=hide (zHqh (HB.out.trans (hB2.mono HB.out.size)) (show w.heap.size≤w.heap.size+1 by omega) (.int .i64 r0) (.int .i64 r1) (.int .i64 r2))
 go_wp2
 exact bodyPost_ret (v:=.agg #[.int .i64 r0,.int .i64 r1,.int .i64 r2]) (by simp[results,Tryz.results72,go_sem,z0,z1,z2]) rfl ⟨by rw[HF.out],HFIN.out⟩
def fillE (W H:Int) (zs:List Int) (phase:Int):Int:=if q0fM W H zs=true then (if qdne phase=true then 0 else 3) else 1
def fillL (W H:Int) (zs:List Int) (phase:Int):List Px:=(List.range zs.length).map (fillP zs W.toNat H.toNat phase.toNat)
set_option maxRecDepth 100000 in
set_option maxHeartbeats 1600000 in
theorem q3wV (W H:Int) (v:Value) (zs:List Int) (phase:Int) (w:World) (hv:jCvT w v zs) :
  Calls Tryz.prog 20 #[.agg #[.int .i64 W,.int .i64 H,v],.int .i64 phase] w fun e w'=>∃r,e=.returned (.tuple #[.agg #[.int .i64 (okW (fillE W H zs phase) W),.int .i64 (okW (fillE W H zs phase) H),r],.int .i64 (fillE W H zs phase)])∧IsPix w' r (okL (fillE W H zs phase) (fillL W H zs phase))∧Below w.heap.size w w'∧Fresh w.heap.size r:=by
 have HV:=hide hv
 obtain ⟨E,hE⟩:∃E,fillE W H zs phase=E:=⟨_,rfl⟩
 rw[hE]
 by_cases hp:q0fM W H zs=true
 ·by_cases hph:qdne phase=true
  ·have he:E=0:=by rw[←hE,fillE,if_pos hp,if_pos hph]
   subst he
   clear hE
   obtain ⟨⟨w1,w2⟩,⟨h1,h2⟩,hl,_⟩:=qwcI hp
   have hz:=XAOl hp
   have hph2:0≤phase∧phase≤3:=by simpa [qdne] using hph
   have hsm:=zAFj ⟨w1,w2⟩ ⟨h1,h2⟩
   have hn1:1≤zs.length:=by omega
   obtain ⟨bk,off,ca,rfl,hbk,hcell⟩:=hv.cells hn1
   obtain ⟨WN,rfl⟩:=Int.eq_ofNat_of_zero_le (show 0≤W by omega)
   obtain ⟨HN,rfl⟩:=Int.eq_ofNat_of_zero_le (show 0≤H by omega)
   obtain ⟨PN,rfl⟩:=Int.eq_ofNat_of_zero_le hph2.1
   have HLEN:=hide (show zs.length=HN*WN by rw[Nat.mul_comm];exact_mod_cast hl)
   have HZ:=hide hz
   have HC:=hide hcell
   rw[show okW 0 (WN:Int)=WN from rfl,show okW 0 (HN:Int)=HN from rfl,show okL 0 (fillL (WN:Int) (HN:Int) zs (PN:Int))=(List.range zs.length).map (fillP zs WN HN PN) from rfl]
   clear hl hz hcell hsm hv
   go_enter Tryz.func20,Tryz.ntmps20
   go_wp2_with fail
   obtain ⟨a1,a2,a3⟩:=al3 w (Obj.cells #[.int .i64 (WN:Nat),.int .i64 (HN:Nat),.slice (some ⟨bk,off,none⟩) zs.length ca] 54) (Obj.cells #[.int .i64 (PN:Nat)] 3) (Obj.cells #[.int .i64 0,.int .i64 0,.slice none 0 0] 24)
   have hB:=be3 w (Obj.cells #[.int .i64 (WN:Nat),.int .i64 (HN:Nat),.slice (some ⟨bk,off,none⟩) zs.length ca] 54) (Obj.cells #[.int .i64 (PN:Nat)] 3) (Obj.cells #[.int .i64 0,.int .i64 0,.slice none 0 0] 24)
   have hs3:(((w.alloc (Obj.cells #[.int .i64 (WN:Nat),.int .i64 (HN:Nat),.slice (some ⟨bk,off,none⟩) zs.length ca] 54)).alloc (Obj.cells #[.int .i64 (PN:Nat)] 3)).alloc (Obj.cells #[.int .i64 0,.int .i64 0,.slice none 0 0] 24)).heap.size=w.heap.size+3:=by simp
   generalize ((w.alloc (Obj.cells #[.int .i64 (WN:Nat),.int .i64 (HN:Nat),.slice (some ⟨bk,off,none⟩) zs.length ca] 54)).alloc (Obj.cells #[.int .i64 (PN:Nat)] 3)).alloc (Obj.cells #[.int .i64 0,.int .i64 0,.slice none 0 0] 24)=U at *
   refine (XeC7 WN HN _ zs _ (HV.out.below hB (Nat.le_refl _))).mono ?_
   rintro e w1 ⟨rfl,hb1⟩
   rw[hp]
   have g2:=bx1 ((hb1.block (w.heap.size+1) (by omega)).trans a2)
   have g3:=(hb1.block (w.heap.size+1+1) (by omega)).trans a3
   go_wp2_with fail
   refine (qtgz _ _).mono ?_
   rintro e w2 ⟨rfl,hb2⟩
   rw[hph]
   clear g2
   replace hb2:=quJN hb1 hb2
   replace g3:=(hb2.block (w.heap.size+1+1) (by omega)).trans a3
   obtain ⟨p0,p1,p2⟩:=z5EY ((hb2.block (w.heap.size) (by omega)).trans a1)
   go_wp2_with fail
   have hbG:=quJN hb2 (qUNz w2 (Obj.cells #[.int .i64 (WN:Nat),.int .i64 (HN:Nat)] 95))
   have hs2:=hb2.size
   clear p0 p1 p2
   generalize w2.alloc (Obj.cells #[.int .i64 (WN:Nat),.int .i64 (HN:Nat)] 95)=w2g at *
   refine (XMhx WN HN zs.length (by omega) (by omega) HLEN.out 72 #[.pointer (some ⟨w.heap.size,0,none⟩),.pointer (some ⟨w.heap.size+1,0,none⟩)] (fillP zs WN HN PN) _ (enters_of Tryz.func72 (by kernel_rfl) rfl) ?_).mono ?_
   ·intro j V hj hV
    have hb3:=quJN hbG hV
    have hbw:=hB.trans (hb3.mono hB.size)
    obtain ⟨e0,e1,e2⟩:=z5EY ((hb3.block (w.heap.size) (by omega)).trans a1)
    have e3:=bx1 ((hb3.block (w.heap.size+1) (by omega)).trans a2)
    have hs:=hb3.size
    exact qfZD WN HN PN j bk off ca (by omega) (by omega) (by omega) (by omega) (by omega) zs HLEN.out HZ.out hj w.heap.size (w.heap.size+1) V (by omega) (by omega) (Nat.lt_of_lt_of_le hbk hbw.size) e0 e1 e2 e3 (fun i hi=>(hbw.cell (p:=⟨bk,off+i,none⟩) hbk).trans (HC.out i hi))
   ·rintro e w3 ⟨r,rfl,hr,hb3,hfr⟩
    replace hb3:=quJN hbG hb3
    replace g3:=(hb3.block (w.heap.size+1+1) (by omega)).trans a3
    obtain ⟨z0,z1,z2⟩:=z5EY g3
    have f0:=Lib.frozen_of_heap g3 0
    have f1:=Lib.frozen_of_heap g3 1
    have f2:=Lib.frozen_of_heap g3 2
    have HR:=hide hr
    obtain ⟨ro,rc,rfl,_,_⟩:=hr
    have HFIN:=hide (zHqh (hB.trans (hb3.mono hB.size)) (show w.heap.size≤w.heap.size+1+1 by omega) (.int .i64 (WN:Nat)) (.int .i64 (HN:Nat)) (.slice ro ((List.range zs.length).map (fillP zs WN HN PN)).length rc))
    have hsG:=hbG.size
    have HPX2:=hide (HR.out.set3 hfr (show w.heap.size+1+1<w2g.heap.size by omega) (.int .i64 (WN:Nat)) (.int .i64 (HN:Nat)) (.slice ro ((List.range zs.length).map (fillP zs WN HN PN)).length rc))
    rw[List.length_map,List.length_range] at HPX2 HFIN hfr
    rw[List.length_map,List.length_range]
    go_wp2
    exact bodyPost_ret (v:=.tuple #[.agg #[.int .i64 (WN:Nat),.int .i64 (HN:Nat),.slice ro zs.length rc],.int .i64 0]) (by simp[results,Tryz.results20,go_sem,z0,z1,z2]) rfl ⟨_,rfl,HPX2.out,HFIN.out,hfr.mono (by omega)⟩
  ·have he:E=3:=by rw[←hE,fillE,if_pos hp,if_neg hph]
   have hph:qdne phase=false:=by simpa using hph
   subst he
   clear hE
   obtain ⟨ao,ca,rfl,_,_⟩:=hv
   go_enter Tryz.func20,Tryz.ntmps20
   go_wp2_with fail
   obtain ⟨a1,a2,a3⟩:=al3 w (Obj.cells #[.int .i64 W,.int .i64 H,.slice ao zs.length ca] 54) (Obj.cells #[.int .i64 phase] 3) (Obj.cells #[.int .i64 0,.int .i64 0,.slice none 0 0] 24)
   have hB:=be3 w (Obj.cells #[.int .i64 W,.int .i64 H,.slice ao zs.length ca] 54) (Obj.cells #[.int .i64 phase] 3) (Obj.cells #[.int .i64 0,.int .i64 0,.slice none 0 0] 24)
   have hs3:(((w.alloc (Obj.cells #[.int .i64 W,.int .i64 H,.slice ao zs.length ca] 54)).alloc (Obj.cells #[.int .i64 phase] 3)).alloc (Obj.cells #[.int .i64 0,.int .i64 0,.slice none 0 0] 24)).heap.size=w.heap.size+3:=by simp
   generalize ((w.alloc (Obj.cells #[.int .i64 W,.int .i64 H,.slice ao zs.length ca] 54)).alloc (Obj.cells #[.int .i64 phase] 3)).alloc (Obj.cells #[.int .i64 0,.int .i64 0,.slice none 0 0] 24)=U at *
   refine (XeC7 W H _ zs _ (HV.out.below hB (Nat.le_refl _))).mono ?_
   rintro e w1 ⟨rfl,hb1⟩
   rw[hp]
   have g2:=bx1 ((hb1.block (w.heap.size+1) (by omega)).trans a2)
   have g3:=(hb1.block (w.heap.size+1+1) (by omega)).trans a3
   go_wp2_with fail
   refine (qtgz _ _).mono ?_
   rintro e w2 ⟨rfl,hb2⟩
   rw[hph]
   clear g2
   replace hb2:=quJN hb1 hb2
   replace g3:=(hb2.block (w.heap.size+1+1) (by omega)).trans a3
   obtain ⟨z0,z1,z2⟩:=z5EY g3
   have f0:=Lib.frozen_of_heap g3 0
   have f1:=Lib.frozen_of_heap g3 1
   have f2:=Lib.frozen_of_heap g3 2
   have HFIN:=hide (zHqh (hB.trans (hb2.mono hB.size)) (show w.heap.size≤w.heap.size+1+1 by omega) (.int .i64 0) (.int .i64 0) (.slice none 0 0))
   go_wp2
   exact bodyPost_ret (v:=.tuple #[.agg #[.int .i64 0,.int .i64 0,.slice none 0 0],.int .i64 3]) (by simp[results,Tryz.results20,go_sem,z0,z1,z2]) rfl ⟨.slice none 0 0,rfl,IsPix.nil _,HFIN.out,Fresh.nil _⟩
 ·have he:E=1:=by rw[←hE,fillE,if_neg hp]
  have hp:q0fM W H zs=false:=by simpa using hp
  subst he
  clear hE
  obtain ⟨ao,ca,rfl,_,_⟩:=hv
  go_enter Tryz.func20,Tryz.ntmps20
  go_wp2_with fail
  obtain ⟨a1,a2,a3⟩:=al3 w (Obj.cells #[.int .i64 W,.int .i64 H,.slice ao zs.length ca] 54) (Obj.cells #[.int .i64 phase] 3) (Obj.cells #[.int .i64 0,.int .i64 0,.slice none 0 0] 24)
  have hB:=be3 w (Obj.cells #[.int .i64 W,.int .i64 H,.slice ao zs.length ca] 54) (Obj.cells #[.int .i64 phase] 3) (Obj.cells #[.int .i64 0,.int .i64 0,.slice none 0 0] 24)
  have hs3:(((w.alloc (Obj.cells #[.int .i64 W,.int .i64 H,.slice ao zs.length ca] 54)).alloc (Obj.cells #[.int .i64 phase] 3)).alloc (Obj.cells #[.int .i64 0,.int .i64 0,.slice none 0 0] 24)).heap.size=w.heap.size+3:=by simp
  generalize ((w.alloc (Obj.cells #[.int .i64 W,.int .i64 H,.slice ao zs.length ca] 54)).alloc (Obj.cells #[.int .i64 phase] 3)).alloc (Obj.cells #[.int .i64 0,.int .i64 0,.slice none 0 0] 24)=U at *
  refine (XeC7 W H _ zs _ (HV.out.below hB (Nat.le_refl _))).mono ?_
  rintro e w1 ⟨rfl,hb1⟩
  rw[hp]
  have g2:=bx1 ((hb1.block (w.heap.size+1) (by omega)).trans a2)
  have g3:=(hb1.block (w.heap.size+1+1) (by omega)).trans a3
  generalize w1=w2 at *
  have hb2:=hb1
  obtain ⟨z0,z1,z2⟩:=z5EY g3
  have f0:=Lib.frozen_of_heap g3 0
  have f1:=Lib.frozen_of_heap g3 1
  have f2:=Lib.frozen_of_heap g3 2
  have HFIN:=hide (zHqh (hB.trans (hb2.mono hB.size)) (show w.heap.size≤w.heap.size+1+1 by omega) (.int .i64 0) (.int .i64 0) (.slice none 0 0))
  go_wp2
  exact bodyPost_ret (v:=.tuple #[.agg #[.int .i64 0,.int .i64 0,.slice none 0 0],.int .i64 1]) (by simp[results,Tryz.results20,go_sem,z0,z1,z2]) rfl ⟨.slice none 0 0,rfl,IsPix.nil _,HFIN.out,Fresh.nil _⟩
end Go.Proofs.YtfjeonehdlphiaaGreatDoor

namespace Go.Proofs.YtfjeonehdlphiaaGreatDoor
open Go.RowKit Go.Shelf
attribute [local go_sem] Oper.semAt_some
theorem zNvO {P:Program} {c:Code} {Q:Exit→Act→World→Prop} {a:Act} {w:World} (R:Act→World→Prop) (h1:c.wp P (Exit.then R Q) a w) (h2:∀a' w',R a' w'→Q .normal a' w'):c.wp P Q a w :=
 wp_mono h1 fun e a' w' h=>by
  cases e with
  | normal=>exact h2 a' w' h
  | _=>exact h
set_option maxRecDepth 100000 in
set_option maxHeartbeats 4000000 in
theorem X2XP (W H X Y bk off ca:Nat) (hW1:1≤W) (hW:W≤64) (hH1:1≤H) (hH:H≤64) (hX:X<W) (hY:Y<H) (ps:List Px) (hlen:ps.length=H*W) (hps:pxsOk ps=true) (w:World)
    (hbk:bk<w.heap.size) (hcell:∀j,j<ps.length→w.cell? ⟨bk,off+j*3,none⟩=some (.int .i64 (pxAt ps j).1)∧w.cell? ⟨bk,off+j*3+1,none⟩=some (.int .i64 (pxAt ps j).2.1)∧w.cell? ⟨bk,off+j*3+2,none⟩=some (.int .i64 (pxAt ps j).2.2)) :
    Calls Tryz.prog 281 #[.agg #[.int .i64 W,.int .i64 H,.slice (some ⟨bk,off,none⟩) ps.length ca],.agg #[.int .i64 X,.int .i64 Y]] w fun e w'=>e=.returned (pixV (wF ps W H X Y (List.finRange 8)))∧Below w.heap.size w w':=by
  have hl4:ps.length≤4096:=by rw[hlen];exact Nat.le_trans (Nat.mul_le_mul hH hW) (by decide)
  have hjl:Y*W+X<ps.length:=by
    have h1:(Y+1)*W≤H*W:=Nat.mul_le_mul_right _ hY
    rw[Nat.succ_mul] at h1
    rw[hlen];omega
  have HLEN:=hide hlen
  have HPS:=hide hps
  have HC:=hide hcell
  clear hlen hps hcell
  refine (callsIn_wide (n:=3)).1 ?_
  refine callsIn_of_wp_marks Tryz.func281 rfl trivial ?_ rfl
  simp only[Tryz.ntmps281,List.size_toArray,List.length_cons,List.length_nil,Nat.reduceAdd,Nat.reduceSub,Array.replicate_succ,Array.replicate_zero,List.push_toArray,List.append_toArray,List.nil_append,List.cons_append]
  gi_wp2_with fail
  refine wpIn_wide.2 ?_
  obtain ⟨a1,a2,a3,a4⟩:=al4 w (Obj.cells #[.int .i64 W,.int .i64 H,.slice (some ⟨bk,off,none⟩) ps.length ca] 24) (Obj.cells #[.int .i64 X,.int .i64 Y] 97) (Obj.cells #[.int .i64 0,.int .i64 0,.int .i64 0] 61) (Obj.cells #[.int .i64 W,.int .i64 H] 95)
  have hB4:=be4 w (Obj.cells #[.int .i64 W,.int .i64 H,.slice (some ⟨bk,off,none⟩) ps.length ca] 24) (Obj.cells #[.int .i64 X,.int .i64 Y] 97) (Obj.cells #[.int .i64 0,.int .i64 0,.int .i64 0] 61) (Obj.cells #[.int .i64 W,.int .i64 H] 95)
  have hs4:((((w.alloc (Obj.cells #[.int .i64 W,.int .i64 H,.slice (some ⟨bk,off,none⟩) ps.length ca] 24)).alloc (Obj.cells #[.int .i64 X,.int .i64 Y] 97)).alloc (Obj.cells #[.int .i64 0,.int .i64 0,.int .i64 0] 61)).alloc (Obj.cells #[.int .i64 W,.int .i64 H] 95)).heap.size=w.heap.size+4:=by simp
  generalize (((w.alloc (Obj.cells #[.int .i64 W,.int .i64 H,.slice (some ⟨bk,off,none⟩) ps.length ca] 24)).alloc (Obj.cells #[.int .i64 X,.int .i64 Y] 97)).alloc (Obj.cells #[.int .i64 0,.int .i64 0,.int .i64 0] 61)).alloc (Obj.cells #[.int .i64 W,.int .i64 H] 95)=U at *
  replace hs4:=Nat.le_of_eq hs4.symm
  obtain ⟨⟨r,g,u⟩,hp⟩:∃p,pxAt ps (Y*W+X)=p:=⟨_,rfl⟩
  have hpk:=z1DB HPS.out (Y*W+X)
  have HS0:=hide (show wF ps W H X Y []=addP (0,0,0) 4 (r,g,u) by rw[←hp];rfl)
  have HS0b:=hide (qf9w (jdoM HPS.out W H X Y []) (show 4+2*((([]:List (Fin 8)).length:Nat):Int)≤32 by decide))
  have HS:=hide (show ∀w',Below U.heap.size U w'→(w'.cell? ⟨w.heap.size,2,none⟩=some (.slice (some ⟨bk,off,none⟩) ps.length ca)∧w'.cell? ⟨w.heap.size+3,0,none⟩=some (.int .i64 W)∧w'.cell? ⟨w.heap.size+3,1,none⟩=some (.int .i64 H)∧w'.cell? ⟨w.heap.size+1,0,none⟩=some (.int .i64 X)∧w'.cell? ⟨w.heap.size+1,1,none⟩=some (.int .i64 Y) ∧
      w'.cell? ⟨bk,off+(Y*W+X)*3,none⟩=some (.int .i64 r)∧w'.cell? ⟨bk,off+(Y*W+X)*3+1,none⟩=some (.int .i64 g)∧w'.cell? ⟨bk,off+(Y*W+X)*3+2,none⟩=some (.int .i64 u)) from fun w' h=>by
    have hV:=hB4.trans (h.mono hB4.size)
    obtain ⟨_,_,q2⟩:=z5EY ((h.block w.heap.size (by omega)).trans a1)
    have g2:=(h.block (w.heap.size+1) (by omega)).trans a2
    have g4:=(h.block (w.heap.size+3) (by omega)).trans a4
    obtain ⟨c0,c1,c2⟩:=HC.out _ hjl
    rw[hp] at c0 c1 c2
    exact ⟨q2,by rw[Lib.cell_of_heap g4];rfl,by rw[Lib.cell_of_heap g4];rfl,by rw[Lib.cell_of_heap g2];rfl,by rw[Lib.cell_of_heap g2];rfl,(hV.cell (p:=⟨bk,off+(Y*W+X)*3,none⟩) hbk).trans c0,(hV.cell (p:=⟨bk,off+(Y*W+X)*3+1,none⟩) hbk).trans c1,(hV.cell (p:=⟨bk,off+(Y*W+X)*3+2,none⟩) hbk).trans c2⟩)
  obtain ⟨J,hJ⟩:∃J,Y*W+X=J:=⟨_,rfl⟩
  have HIX:=hide (show ∀w',Below U.heap.size U w'→Calls Tryz.prog 42 #[.agg #[.int .i64 W,.int .i64 H],.agg #[.int .i64 X,.int .i64 Y]] w' fun e w''=>e=.returned (.int .i64 J)∧Below U.heap.size U w''∧Below w'.heap.size w' w'' from fun w' h =>
    (XSSj W H X Y W J rfl hJ (by omega) w').mono fun e w'' h2=>⟨h2.1,h.trans (h2.2.mono h.size),h2.2⟩)
  rw[hp] at hpk
  have HWE:=hide (show ∀w',Below U.heap.size U w'→Calls Tryz.prog 282 #[.agg #[.int .i64 0,.int .i64 0,.int .i64 0],.agg #[.int .i64 r,.int .i64 g,.int .i64 u],.int .i64 4] w' fun e w''=>e=.returned (pixV (wF ps W H X Y []))∧Below U.heap.size U w''∧Below w'.heap.size w' w'' from fun w' h=>by
    rw[HS0.out]
    exact (j8Cj (0,0,0) (r,g,u) 4 (by omega) (by omega) ⟨⟨by decide,by decide⟩,⟨by decide,by decide⟩,by decide,by decide⟩ hpk w').mono fun e w'' h2=>⟨h2.1,h.trans (h2.2.mono h.size),h2.2⟩)
  rw[hJ] at HS hjl
  clear hpk hp
  obtain ⟨⟨s0,s1,s2⟩,hs⟩:∃s,wF ps W H X Y []=s:=⟨_,rfl⟩
  rw[hs] at HWE HS0b
  have HSS:=hide hs
  clear hs HS0 hJ
  have HSA:=hide (show ∀w' o,Below U.heap.size U w'→Below U.heap.size U (w'.alloc o) from fun w' o h=>h.alloc h.size o)
  have HS3:=hide (show ∀w' b x y z,Below U.heap.size U w'→U.heap.size≤b→Below U.heap.size U (((w'.setCell ⟨b,0,none⟩ x).setCell ⟨b,1,none⟩ y).setCell ⟨b,2,none⟩ z) from fun w' b x y z h hb=>zHqh h hb x y z)
  have hdrew:Below U.heap.size U U.drew:=(Below.refl _ _).drew
  have hdrewA:Below U.heap.size U (U.alloc (Obj.cells #[.int .i64 0,.int .i64 0,.int .i64 0] 61)).drew:=XpIb (qUNz _ _)
  have HZU:=hide (show (U.alloc (Obj.cells #[.int .i64 0,.int .i64 0,.int .i64 0] 61)).drew.heap[U.heap.size]?=some (.cells #[.int .i64 0,.int .i64 0,.int .i64 0] 61 (0,0)) from al1 U _)
  refine zNvO (fun a' V=>∃SB,a'={ tmps:=#[.agg #[.int .i64 W,.int .i64 H,.slice (some ⟨bk,off,none⟩) ps.length ca],.agg #[.int .i64 X,.int .i64 Y],.pointer (some ⟨w.heap.size,0,none⟩),.pointer (some ⟨w.heap.size+1,0,none⟩),.pointer (some ⟨w.heap.size+1+1,0,none⟩),.pointer (some ⟨w.heap.size+1+1+1,0,none⟩),.pointer (some ⟨SB,0,none⟩),undef,undef,.pointer (some ⟨w.heap.size,0,none⟩),.int .i64 W,.pointer (some ⟨w.heap.size,1,none⟩),.int .i64 H,.agg #[.int .i64 W,.int .i64 H],.agg #[.int .i64 0,.int .i64 0,.int .i64 0],.pointer (some ⟨w.heap.size,2,none⟩),.slice (some ⟨bk,off,none⟩) ps.length ca,.agg #[.int .i64 W,.int .i64 H],.agg #[.int .i64 X,.int .i64 Y],.int .i64 J,.pointer (some ⟨bk,off+J*3,none⟩),.agg #[.int .i64 r,.int .i64 g,.int .i64 u],pixV (s0,s1,s2),undef,undef,undef,undef,undef,undef,undef,undef,undef,undef,undef,undef,undef,undef,undef,undef,undef,undef,undef,undef,undef,undef,undef,undef,undef,undef,undef,undef],defers:=[] }∧Below U.heap.size U V∧V.heap[SB]?=some (.cells #[.int .i64 s0,.int .i64 s1,.int .i64 s2] 61 (0,0))∧U.heap.size≤SB) ?_ ?_
  rotate_left
  · rintro a' V ⟨SB, rfl, vB, vS, hSB⟩
    obtain ⟨k1,k2,k3,k4,k5,k6,k7,k8⟩:=HS.out V vB
    gi_wp2_with fail
    refine ⟨trivial,?_⟩
    refine (zJHU Fence.wide _ trivial rfl _ _ _).mono ?_
    rintro e w' ⟨rfl,rfl⟩
    gi_wp2_with fail
    have hsV:=vB.size
    have hlS:=(Array.getElem?_eq_some_iff.1 vS).1
    have n0:=al1 V (Obj.cells #[.int .i64 X,.int .i64 Y] 97)
    have hs0:(V.alloc (Obj.cells #[.int .i64 X,.int .i64 Y] 97)).heap.size=V.heap.size+1:=by simp
    have j0:(V.alloc (Obj.cells #[.int .i64 X,.int .i64 Y] 97)).heap[SB]?=some (.cells #[.int .i64 s0,.int .i64 s1,.int .i64 s2] 61 (0,0)):=(Below.heap_alloc _ _ _ hlS).trans vS
    have hB0:Below U.heap.size U (V.alloc (Obj.cells #[.int .i64 X,.int .i64 Y] 97)):=vB.alloc vB.size _
    generalize V.alloc (Obj.cells #[.int .i64 X,.int .i64 Y] 97)=W0 at *
    refine wpIn_rangeFunc_ownH (α:=Fin 8) rfl (show 1≤3 by omega) (gf:=184) (lb:=#[.pointer (some ⟨V.heap.size,0,none⟩)]) rfl trivial (enters_of Tryz.func184 (by kernel_rfl) rfl)
      (jMfn Fence.wide (3-1) trivial rfl (by omega) V.heap.size X Y (by omega) (by omega) W0 (by omega) (by rw[Lib.cell_of_heap n0];rfl) (by rw[Lib.cell_of_heap n0];rfl)) (fun {A B C} h k=>h.trans' k) (fun X l o o' hl _ _ _=>qMCQ (by omega)) (Below.refl _ _) (fun _=>rfl)
      (fun pre W'=>W'.heap[SB]?=some (.cells (pixA (wF ps W H X Y pre)) 61 (0,0))∧W'.heap[V.heap.size]?=some (.cells #[.int .i64 X,.int .i64 Y] 97 (0,0))∧Below U.heap.size U W')
      (fun _ _ _=>False)
      (fun s X Y row ⟨b1,b2,b3⟩ hg hr=>⟨qLYA hg hr b1,qLYA hg hr b2,ownFrom_below (β:=Unit) (Nat.le_refl _) (by omega) () X Y row b3 hg hr⟩)
      (fun _ _ _ _ _ hs _ _=>hs)
      ⟨by rw[HSS.out];exact j0,n0,hB0⟩
      (fun x a' W'=>∃Bx,W0.heap.size≤Bx∧W'.heap[Bx]?=some (.cells #[.int .i64 ((X:Int)-1+(nOf x.1 % 3:Nat)),.int .i64 ((Y:Int)-1+(nOf x.1 / 3:Nat))] 97 (0,0))∧a'={ tmps:=#[.agg #[.int .i64 W,.int .i64 H,.slice (some ⟨bk,off,none⟩) ps.length ca],.agg #[.int .i64 X,.int .i64 Y],.pointer (some ⟨w.heap.size,0,none⟩),.pointer (some ⟨w.heap.size+1,0,none⟩),.pointer (some ⟨w.heap.size+1+1,0,none⟩),.pointer (some ⟨w.heap.size+1+1+1,0,none⟩),.pointer (some ⟨SB,0,none⟩),.pointer (some ⟨Bx,0,none⟩),undef,.pointer (some ⟨w.heap.size,0,none⟩),.int .i64 W,.pointer (some ⟨w.heap.size,1,none⟩),.int .i64 H,.agg #[.int .i64 W,.int .i64 H],.agg #[.int .i64 0,.int .i64 0,.int .i64 0],.pointer (some ⟨w.heap.size,2,none⟩),.slice (some ⟨bk,off,none⟩) ps.length ca,.agg #[.int .i64 W,.int .i64 H],.agg #[.int .i64 X,.int .i64 Y],.int .i64 J,.pointer (some ⟨bk,off+J*3,none⟩),.agg #[.int .i64 r,.int .i64 g,.int .i64 u],pixV (s0,s1,s2),.agg #[.int .i64 X,.int .i64 Y],.func (.func 184) #[] #[.pointer (some ⟨V.heap.size,0,none⟩)],.agg #[.int .i64 ((X:Int)-1+(nOf x.1 % 3:Nat)),.int .i64 ((Y:Int)-1+(nOf x.1 / 3:Nat))],undef,undef,undef,undef,undef,undef,undef,undef,undef,undef,undef,undef,undef,undef,undef,undef,undef,undef,undef,undef,undef,undef,undef,undef,undef],defers:=[] })
      (fun x a' _ X Y row ⟨Bx,b1,b2,b3⟩ hg hr=>⟨Bx,b1,qLYA hg hr b2,b3⟩)
      ?assign ?body ?done ?stop
    case assign =>
      rintro l pre x W' K ⟨i1,i2,i3⟩ hK
      have hl1:=(Array.getElem?_eq_some_iff.1 i1).1
      have hl2:=(Array.getElem?_eq_some_iff.1 i2).1
      have hl3:=i3.size
      gi_wp2
      exact hK _ _ ((KeepsOthers.alloc _ _).from _) (Below.heap_alloc _ _ _ hl2) ⟨(Below.heap_alloc _ _ _ hl1).trans i1,(Below.heap_alloc _ _ _ hl2).trans i2,i3.alloc hl3 _⟩ ⟨W'.heap.size,by omega,al1 W' _,rfl⟩
    case body =>
      rintro l pre x a' W' hl ⟨rr,hrr⟩ ⟨i1,i2,i3⟩ ⟨Bx,hBx,bX,rfl⟩ hlt
      have HWU:=hide (qf9w (jdoM HPS.out W H X Y pre) (show 4+2*(pre.length:Int)≤32 by omega))
      have HSN:=hide (zYcT ps W H X Y pre x)
      have hn3:nOf x.1 % 3<3:=by omega
      have hn9:nOf x.1 / 3<3:=by have:=x.2;unfold nOf;split<;>omega
      obtain ⟨xa,hxa⟩:∃xa:Int,(X:Int)-1+(nOf x.1 % 3:Nat)=xa:=⟨_,rfl⟩
      obtain ⟨yb,hyb⟩:∃yb:Int,(Y:Int)-1+(nOf x.1 / 3:Nat)=yb:=⟨_,rfl⟩
      have hxb:-1≤xa∧xa≤66:=by omega
      have hybb:-1≤yb∧yb≤66:=by omega
      have HNW:=Xxtr W xa (by omega)
      have HNH:=Xxtr H yb (by omega)
      obtain ⟨NX,hNX⟩:=Int.eq_ofNat_of_zero_le HNW.1
      obtain ⟨NY,hNY⟩:=Int.eq_ofNat_of_zero_le HNH.1
      obtain ⟨K,hK⟩:∃K,wIx W H X Y x.1=K:=⟨_,rfl⟩
      have hKL:K<ps.length:=by rw[HLEN.out,←hK];exact wIx_lt hW1 hH1 X Y x.1
      have HKE:=hide (show NY*W+NX=K by rw[←hK,wIx,hxa,hyb,hNX,hNY];rfl)
      obtain ⟨⟨pr,pg,pu⟩,hpp⟩:∃p,pxAt ps K=p:=⟨_,rfl⟩
      have hpk:=z1DB HPS.out K
      obtain ⟨cc0,cc1,cc2⟩:=HC.out K hKL
      rw[hpp] at cc0 cc1 cc2 hpk
      rw[hK,hpp] at HSN
      have HWT:=XW1U x.1
      have HWD:=hide (show (xa=(X:Int)∨yb=(Y:Int)→wWt x.1=2)∧(¬xa=(X:Int)→¬yb=(Y:Int)→wWt x.1=1) from ⟨fun h=>by rw[wWt,if_pos (by omega)],fun h1 h2=>by rw[wWt,if_neg (by omega)]⟩)
      rw[hxa,hyb] at bX ⊢
      generalize wF ps W H X Y pre=sm at *
      obtain ⟨m0,m1,m2⟩:=sm
      obtain ⟨⟨nn0,nn1,nn2⟩,hnn⟩:∃n,addP (m0,m1,m2) (wWt x.1) (pr,pg,pu)=n:=⟨_,rfl⟩
      rw[hnn] at HSN
      have HWE2:=hide (fun (v:World)=>j8Cj (m0,m1,m2) (pr,pg,pu) (wWt x.1) HWT.1 (by omega) HWU.out hpk v)
      rw[hnn] at HWE2
      have HNE:=hide (fun (v:World)=>qzGK W H xa yb (by omega) (by omega) (by omega) (by omega) hxb.1 hxb.2 hybb.1 hybb.2 v)
      rw[hNX,hNY] at HNE
      have HIX2:=hide (fun (v:World)=>XSSj W H NX NY W K rfl HKE.out (by omega) v)
      have hsz:=i3.size
      have hlS':=(Array.getElem?_eq_some_iff.1 i1).1
      have hlX:=(Array.getElem?_eq_some_iff.1 bX).1
      have hSX:SB≠Bx:=fun e=>by rw[e] at i1;rw[i1] at bX;simp only[Option.some.injEq,Obj.cells.injEq] at bX;exact absurd bX.2.1 (by decide)
      have hSG:SB≠V.heap.size:=fun e=>by rw[e] at i1;rw[i1] at i2;simp only[Option.some.injEq,Obj.cells.injEq] at i2;exact absurd i2.2.1 (by decide)
      have HS2:=hide (show ∀v,Below W'.heap.size W' v→v.cell? ⟨w.heap.size,2,none⟩=some (.slice (some ⟨bk,off,none⟩) ps.length ca)∧v.cell? ⟨w.heap.size+3,0,none⟩=some (.int .i64 W)∧v.cell? ⟨w.heap.size+3,1,none⟩=some (.int .i64 H)∧v.cell? ⟨Bx,0,none⟩=some (.int .i64 xa)∧v.cell? ⟨Bx,1,none⟩=some (.int .i64 yb)∧v.cell? ⟨bk,off+K*3,none⟩=some (.int .i64 pr)∧v.cell? ⟨bk,off+K*3+1,none⟩=some (.int .i64 pg)∧v.cell? ⟨bk,off+K*3+2,none⟩=some (.int .i64 pu) from fun v h=>by
        have hUv:=i3.trans (h.mono hsz)
        obtain ⟨o1,o2,o3,_⟩:=HS.out v hUv
        have gx:=(h.block Bx hlX).trans bX
        have hwv:=hB4.trans (hUv.mono hB4.size)
        exact ⟨o1,o2,o3,by rw[Lib.cell_of_heap gx];rfl,by rw[Lib.cell_of_heap gx];rfl,(hwv.cell (p:=⟨bk,off+K*3,none⟩) hbk).trans cc0,(hwv.cell (p:=⟨bk,off+K*3+1,none⟩) hbk).trans cc1,(hwv.cell (p:=⟨bk,off+K*3+2,none⟩) hbk).trans cc2⟩)
      have HQ:=hide (show ∀v,Below W'.heap.size W' v→v.cell? ⟨SB,0,none⟩=some (.int .i64 m0)∧v.cell? ⟨SB,1,none⟩=some (.int .i64 m1)∧v.cell? ⟨SB,2,none⟩=some (.int .i64 m2) from fun v h=>z5EY ((h.block SB hlS').trans i1))
      have HTL:=hide (show ∀v,Below W'.heap.size W' v→v.frozen? ⟨SB,0,none⟩=false∧v.frozen? ⟨SB,1,none⟩=false∧v.frozen? ⟨SB,2,none⟩=false∧((((v.setCell ⟨SB,0,none⟩ (.int .i64 nn0)).setCell ⟨SB,1,none⟩ (.int .i64 nn1)).setCell ⟨SB,2,none⟩ (.int .i64 nn2)).cell? ⟨w.heap.size,2,none⟩=some (.slice (some ⟨bk,off,none⟩) ps.length ca)∧(((v.setCell ⟨SB,0,none⟩ (.int .i64 nn0)).setCell ⟨SB,1,none⟩ (.int .i64 nn1)).setCell ⟨SB,2,none⟩ (.int .i64 nn2)).cell? ⟨w.heap.size+3,0,none⟩=some (.int .i64 W)∧(((v.setCell ⟨SB,0,none⟩ (.int .i64 nn0)).setCell ⟨SB,1,none⟩ (.int .i64 nn1)).setCell ⟨SB,2,none⟩ (.int .i64 nn2)).cell? ⟨w.heap.size+3,1,none⟩=some (.int .i64 H)∧(((v.setCell ⟨SB,0,none⟩ (.int .i64 nn0)).setCell ⟨SB,1,none⟩ (.int .i64 nn1)).setCell ⟨SB,2,none⟩ (.int .i64 nn2)).cell? ⟨Bx,0,none⟩=some (.int .i64 xa)∧(((v.setCell ⟨SB,0,none⟩ (.int .i64 nn0)).setCell ⟨SB,1,none⟩ (.int .i64 nn1)).setCell ⟨SB,2,none⟩ (.int .i64 nn2)).cell? ⟨Bx,1,none⟩=some (.int .i64 yb)∧(((v.setCell ⟨SB,0,none⟩ (.int .i64 nn0)).setCell ⟨SB,1,none⟩ (.int .i64 nn1)).setCell ⟨SB,2,none⟩ (.int .i64 nn2)).cell? ⟨bk,off+K*3,none⟩=some (.int .i64 pr)∧(((v.setCell ⟨SB,0,none⟩ (.int .i64 nn0)).setCell ⟨SB,1,none⟩ (.int .i64 nn1)).setCell ⟨SB,2,none⟩ (.int .i64 nn2)).cell? ⟨bk,off+K*3+1,none⟩=some (.int .i64 pg)∧(((v.setCell ⟨SB,0,none⟩ (.int .i64 nn0)).setCell ⟨SB,1,none⟩ (.int .i64 nn1)).setCell ⟨SB,2,none⟩ (.int .i64 nn2)).cell? ⟨bk,off+K*3+2,none⟩=some (.int .i64 pu)) ∧
          (KeepsFrom W0.heap.size W' (((v.setCell ⟨SB,0,none⟩ (.int .i64 nn0)).setCell ⟨SB,1,none⟩ (.int .i64 nn1)).setCell ⟨SB,2,none⟩ (.int .i64 nn2))∧KeepB V.heap.size W' (((v.setCell ⟨SB,0,none⟩ (.int .i64 nn0)).setCell ⟨SB,1,none⟩ (.int .i64 nn1)).setCell ⟨SB,2,none⟩ (.int .i64 nn2))∧((((v.setCell ⟨SB,0,none⟩ (.int .i64 nn0)).setCell ⟨SB,1,none⟩ (.int .i64 nn1)).setCell ⟨SB,2,none⟩ (.int .i64 nn2)).heap[SB]?=some (.cells (pixA (wF ps W H X Y (pre++[x]))) 61 (0,0))∧(((v.setCell ⟨SB,0,none⟩ (.int .i64 nn0)).setCell ⟨SB,1,none⟩ (.int .i64 nn1)).setCell ⟨SB,2,none⟩ (.int .i64 nn2)).heap[V.heap.size]?=some (.cells #[.int .i64 X,.int .i64 Y] 97 (0,0))∧Below U.heap.size U (((v.setCell ⟨SB,0,none⟩ (.int .i64 nn0)).setCell ⟨SB,1,none⟩ (.int .i64 nn1)).setCell ⟨SB,2,none⟩ (.int .i64 nn2)))) from fun v h=>by
        have gS:=(h.block SB hlS').trans i1
        have gV:=(h.block V.heap.size (Array.getElem?_eq_some_iff.1 i2).1).trans i2
        have hUv:=i3.trans (h.mono hsz)
        obtain ⟨x1,x2,x3,x4⟩:=X0Wz gS (.int .i64 nn0) (.int .i64 nn1) (.int .i64 nn2) U hSB hUv
        have hh:=HS2.out v h
        have e1:w.heap.size≠SB:=by omega
        have e2:w.heap.size+3≠SB:=by omega
        have e4:bk≠SB:=by omega
        refine ⟨Lib.frozen_of_heap gS 0,Lib.frozen_of_heap gS 1,Lib.frozen_of_heap gS 2,?_,⟨?_,fun k o _ hk hoc=>?_⟩,?_,?_,?_,x4⟩
        · rw [zd1R _ _ _ e1, zd1R _ _ _ e2, zd1R _ _ _ e2, zd1R _ _ _ (Ne.symm hSX), zd1R _ _ _ (Ne.symm hSX), zd1R _ _ _ e4, zd1R _ _ _ e4, zd1R _ _ _ e4]
          exact hh
        · rw [x3]; exact h.size
        · have hkl := (Array.getElem?_eq_some_iff.1 hk).1
          rw[x2 k (fun e=>by rw[e,i1] at hk;cases hk;cases hoc),h.block k hkl];exact hk
        · show _ = _
          rw[x2 _ (Ne.symm hSG),gV,i2]
        · rw [HSN.out]; exact x1
        · rw [x2 _ (Ne.symm hSG)]; exact gV)
      have hWd:Below W'.heap.size W' W'.drew:=(Below.refl _ _).drew
      have c10:W'.cell? ⟨w.heap.size+1,0,none⟩=some (.int .i64 X):=(HS.out _ i3).2.2.2.1
      have c11:W'.cell? ⟨w.heap.size+1,1,none⟩=some (.int .i64 Y):=(HS.out _ i3).2.2.2.2.1
      have cx0:W'.cell? ⟨Bx,0,none⟩=some (.int .i64 xa):=by rw[Lib.cell_of_heap bX];rfl
      have cx1:W'.cell? ⟨Bx,1,none⟩=some (.int .i64 yb):=by rw[Lib.cell_of_heap bX];rfl
      have hmx:Tryz.prog.follows .mixedOrders=true:=by kernel_rfl
      clear hpk cc0 cc1 cc2 hnn hpp hK HNW HNH hNX hNY hxa hyb hn3 hn9
      have hcases:(xa=(X:Int))∨(¬xa=(X:Int)∧yb=(Y:Int))∨(¬xa=(X:Int)∧¬yb=(Y:Int)):=by omega
      obtain ⟨wt,hwt⟩:∃wt,wWt x.1=wt:=⟨_,rfl⟩
      rw[hwt] at HWD HWE2
      rcases hcases with hc1|⟨hc1,hc2⟩|⟨hc1,hc2⟩
      all_goals first
        | (have hbx:(xa == (X:Int))=true:=by simpa using hc1
           have HW2:=hide (HWD.out.1 (.inl hc1))
           clear hc1 HWD
           gi_wp2_with fail
           generalize hwv:Value.int IntKind.i64 2=wv
           have HWV:=hide (show wv=.int .i64 wt by rw[←hwv,HW2.out])
           clear hwv HW2)
        | (have hbx:(xa == (X:Int))=false:=by simpa using hc1
           have hby:(yb == (Y:Int))=true:=by simpa using hc2
           have HW2:=hide (HWD.out.1 (.inr hc2))
           clear hc1 hc2 HWD
           gi_wp2_with fail
           generalize hwv:Value.int IntKind.i64 2=wv
           have HWV:=hide (show wv=.int .i64 wt by rw[←hwv,HW2.out])
           clear hwv HW2)
        | (have hbx:(xa == (X:Int))=false:=by simpa using hc1
           have hby:(yb == (Y:Int))=false:=by simpa using hc2
           have HW2:=hide (HWD.out.2 hc1 hc2)
           clear hc1 hc2 HWD
           gi_wp2_with fail
           generalize hwv:Value.int IntKind.i64 1=wv
           have HWV:=hide (show wv=.int .i64 wt by rw[←hwv,HW2.out])
           clear hwv HW2)
      all_goals
        have hSd:=HS2.out _ hWd
        obtain ⟨q0,q1,q2⟩:=HQ.out _ hWd
        refine jNnL (S:=fun v:World=>v.cell? ⟨w.heap.size,2,none⟩=some (.slice (some ⟨bk,off,none⟩) ps.length ca)∧v.cell? ⟨w.heap.size+3,0,none⟩=some (.int .i64 W)∧v.cell? ⟨w.heap.size+3,1,none⟩=some (.int .i64 H)∧v.cell? ⟨Bx,0,none⟩=some (.int .i64 xa)∧v.cell? ⟨Bx,1,none⟩=some (.int .i64 yb)∧v.cell? ⟨bk,off+K*3,none⟩=some (.int .i64 pr)∧v.cell? ⟨bk,off+K*3+1,none⟩=some (.int .i64 pg)∧v.cell? ⟨bk,off+K*3+2,none⟩=some (.int .i64 pu)) hmx ?nd ?no ?_
        case nd=>exact qU4N (by kernel_rfl)
        case no=>rintro ⟨_,_,h⟩;exact h
        show wpAnyH _ _ _ _ _ 13 _ _ W'.drew
        refine wpAnyH_take (i:=1) (oi:=_) (v:=.pointer (some ⟨w.heap.size,2,none⟩)) rfl (by kernel_rfl) (by kernel_rfl) (by kernel_rfl) (fun _ _ _ h=>h) (Or.inl ⟨by rfl,fun v hSv=>by obtain ⟨t1,t2,t3,t4,t5,t6,t7,t8⟩:=hSv;go_simp⟩) hSd ?_
        simp only[Act.put]
        refine wpAnyH_take (i:=2) (oi:=_) (v:=.slice (some ⟨bk,off,none⟩) ps.length ca) rfl (by kernel_rfl) (by kernel_rfl) (by kernel_rfl) (fun _ _ _ h=>h) (Or.inl ⟨by rfl,fun v hSv=>by obtain ⟨t1,t2,t3,t4,t5,t6,t7,t8⟩:=hSv;go_simp⟩) hSd ?_
        simp only[Act.put]
        refine wpAnyH_take (i:=3) (oi:=_) (v:=.agg #[.int .i64 W,.int .i64 H]) rfl (by kernel_rfl) (by kernel_rfl) (by kernel_rfl) (fun _ _ _ h=>h) (Or.inl ⟨by rfl,fun v hSv=>by obtain ⟨t1,t2,t3,t4,t5,t6,t7,t8⟩:=hSv;go_simp⟩) hSd ?_
        simp only[Act.put]
        refine wpAnyH_take (i:=4) (oi:=_) (v:=.agg #[.int .i64 W,.int .i64 H]) rfl (by kernel_rfl) (by kernel_rfl) (by kernel_rfl) (fun _ _ _ h=>h) (Or.inl ⟨by rfl,fun v hSv=>by obtain ⟨t1,t2,t3,t4,t5,t6,t7,t8⟩:=hSv;go_simp⟩) hSd ?_
        simp only[Act.put]
        refine wpAnyH_take (i:=5) (oi:=_) (v:=.agg #[.int .i64 xa,.int .i64 yb]) rfl (by kernel_rfl) (by kernel_rfl) (by kernel_rfl) (fun _ _ _ h=>h) (Or.inl ⟨by rfl,fun v hSv=>by obtain ⟨t1,t2,t3,t4,t5,t6,t7,t8⟩:=hSv;go_simp⟩) hSd ?_
        simp only[Act.put]
        refine wpAnyH_take (i:=10) (oi:=_) (v:=wv) rfl (by kernel_rfl) (by kernel_rfl) (by kernel_rfl) (fun _ _ _ h=>h) (Or.inl ⟨by rfl,fun v hSv=>by obtain ⟨t1,t2,t3,t4,t5,t6,t7,t8⟩:=hSv;go_simp⟩) hSd ?_
        simp only[Act.put]
        refine wpAnyH_ready (rs:=[0,6]) (by kernel_rfl) (by simp) ?_
        refine AllReadyH.cons (o:=_) rfl (fun K' hK=>?wA) (AllReadyH.cons (o:=_) rfl (fun K' hK=>?wB) AllReadyH.nil)
        case wA =>
          rw[if_pos (by rfl)]
          go_simp
          refine hK.out _ _ hSd (fun _=>?_)
          clear hK
          refine wpAnyH_ready (rs:=[6]) (by kernel_rfl) (by simp) ?_
          refine AllReadyH.cons (o:=_) rfl (fun K' hK=>?_) AllReadyH.nil
          rw[if_pos (by rfl)]
          go_simp
          refine (HNE.out _).mono ?_
          rintro e V2 ⟨rfl,hbV2⟩
          have hBV2:Below W'.heap.size W' V2:=hWd.trans (hbV2.mono hWd.size)
          have hSd:=HS2.out _ hBV2
          obtain ⟨q0,q1,q2⟩:=HQ.out _ hBV2
          refine hK.out _ _ hSd (fun _=>?_)
          clear hK
          refine wpAnyH_ready (rs:=[7]) (by kernel_rfl) (by simp) ?_
          refine AllReadyH.cons (o:=_) rfl (fun K' hK=>?_) AllReadyH.nil
          rw[if_pos (by rfl)]
          go_simp
          refine (HIX2.out _).mono ?_
          rintro e V3 ⟨rfl,hbV3⟩
          have hBV3:Below W'.heap.size W' V3:=hBV2.trans (hbV3.mono hBV2.size)
          have hSd:=HS2.out _ hBV3
          obtain ⟨q0,q1,q2⟩:=HQ.out _ hBV3
          refine hK.out _ _ hSd (fun _=>?_)
          clear hK
          refine wpAnyH_take (i:=8) (oi:=_) (v:=.pointer (some ⟨bk,off+K*3,none⟩)) rfl (by kernel_rfl) (by kernel_rfl) (by kernel_rfl) (fun _ _ _ h=>h) (Or.inl ⟨by rfl,fun v hSv=>by obtain ⟨t1,t2,t3,t4,t5,t6,t7,t8⟩:=hSv;go_simp⟩) hSd ?_
          simp only[Act.put]
          refine wpAnyH_take (i:=9) (oi:=_) (v:=.agg #[.int .i64 pr,.int .i64 pg,.int .i64 pu]) rfl (by kernel_rfl) (by kernel_rfl) (by kernel_rfl) (fun _ _ _ h=>h) (Or.inl ⟨by rfl,fun v hSv=>by obtain ⟨t1,t2,t3,t4,t5,t6,t7,t8⟩:=hSv;go_simp⟩) hSd ?_
          simp only[Act.put]
          refine wpAnyH_ready (rs:=[11]) (by kernel_rfl) (by simp) ?_
          refine AllReadyH.cons (o:=_) rfl (fun K' hK=>?_) AllReadyH.nil
          rw[if_pos (by rfl)]
          go_simp
          rw[HWV.out]
          refine (HWE2.out _).mono ?_
          rintro e V4 ⟨rfl,hb4⟩
          have hB4':Below W'.heap.size W' V4:=hBV3.trans (hb4.mono hBV3.size)
          have hSd:=HS2.out _ hB4'
          obtain ⟨q0,q1,q2⟩:=HQ.out _ hB4'
          obtain ⟨qf0,qf1,qf2,HT1,HT2⟩:=HTL.out _ hB4'
          refine hK.out _ _ hSd (fun _=>?_)
          clear hK
          refine wpAnyH_ready (rs:=[12]) (by kernel_rfl) (by simp) ?_
          refine AllReadyH.cons (o:=_) rfl (fun K' hK=>?_) AllReadyH.nil
          rw[if_pos (by rfl)]
          go_simp
          refine hK.out _ _ HT1 (fun _=>?_)
          clear hK
          refine wpAnyH_done (by kernel_rfl) ?_ _
          exact HT2
        case wB =>
          rw[if_pos (by rfl)]
          go_simp
          refine (HNE.out _).mono ?_
          rintro e V2 ⟨rfl,hbV2⟩
          have hBV2:Below W'.heap.size W' V2:=hWd.trans (hbV2.mono hWd.size)
          have hSd:=HS2.out _ hBV2
          obtain ⟨q0,q1,q2⟩:=HQ.out _ hBV2
          refine hK.out _ _ hSd (fun _=>?_)
          clear hK
          refine wpAnyH_ready (rs:=[0,7]) (by kernel_rfl) (by simp) ?_
          refine AllReadyH.cons (o:=_) rfl (fun K' hK=>?wC) (AllReadyH.cons (o:=_) rfl (fun K' hK=>?wD) AllReadyH.nil)
          case wC =>
            rw[if_pos (by rfl)]
            go_simp
            refine hK.out _ _ hSd (fun _=>?_)
            clear hK
            refine wpAnyH_ready (rs:=[7]) (by kernel_rfl) (by simp) ?_
            refine AllReadyH.cons (o:=_) rfl (fun K' hK=>?_) AllReadyH.nil
            rw[if_pos (by rfl)]
            go_simp
            refine (HIX2.out _).mono ?_
            rintro e V3 ⟨rfl,hbV3⟩
            have hBV3:Below W'.heap.size W' V3:=hBV2.trans (hbV3.mono hBV2.size)
            have hSd:=HS2.out _ hBV3
            obtain ⟨q0,q1,q2⟩:=HQ.out _ hBV3
            refine hK.out _ _ hSd (fun _=>?_)
            clear hK
            refine wpAnyH_take (i:=8) (oi:=_) (v:=.pointer (some ⟨bk,off+K*3,none⟩)) rfl (by kernel_rfl) (by kernel_rfl) (by kernel_rfl) (fun _ _ _ h=>h) (Or.inl ⟨by rfl,fun v hSv=>by obtain ⟨t1,t2,t3,t4,t5,t6,t7,t8⟩:=hSv;go_simp⟩) hSd ?_
            simp only[Act.put]
            refine wpAnyH_take (i:=9) (oi:=_) (v:=.agg #[.int .i64 pr,.int .i64 pg,.int .i64 pu]) rfl (by kernel_rfl) (by kernel_rfl) (by kernel_rfl) (fun _ _ _ h=>h) (Or.inl ⟨by rfl,fun v hSv=>by obtain ⟨t1,t2,t3,t4,t5,t6,t7,t8⟩:=hSv;go_simp⟩) hSd ?_
            simp only[Act.put]
            refine wpAnyH_ready (rs:=[11]) (by kernel_rfl) (by simp) ?_
            refine AllReadyH.cons (o:=_) rfl (fun K' hK=>?_) AllReadyH.nil
            rw[if_pos (by rfl)]
            go_simp
            rw[HWV.out]
            refine (HWE2.out _).mono ?_
            rintro e V4 ⟨rfl,hb4⟩
            have hB4':Below W'.heap.size W' V4:=hBV3.trans (hb4.mono hBV3.size)
            have hSd:=HS2.out _ hB4'
            obtain ⟨q0,q1,q2⟩:=HQ.out _ hB4'
            obtain ⟨qf0,qf1,qf2,HT1,HT2⟩:=HTL.out _ hB4'
            refine hK.out _ _ hSd (fun _=>?_)
            clear hK
            refine wpAnyH_ready (rs:=[12]) (by kernel_rfl) (by simp) ?_
            refine AllReadyH.cons (o:=_) rfl (fun K' hK=>?_) AllReadyH.nil
            rw[if_pos (by rfl)]
            go_simp
            refine hK.out _ _ HT1 (fun _=>?_)
            clear hK
            refine wpAnyH_done (by kernel_rfl) ?_ _
            exact HT2
          case wD =>
            rw[if_pos (by rfl)]
            go_simp
            refine (HIX2.out _).mono ?_
            rintro e V3 ⟨rfl,hbV3⟩
            have hBV3:Below W'.heap.size W' V3:=hBV2.trans (hbV3.mono hBV2.size)
            have hSd:=HS2.out _ hBV3
            obtain ⟨q0,q1,q2⟩:=HQ.out _ hBV3
            refine hK.out _ _ hSd (fun _=>?_)
            clear hK
            refine wpAnyH_take (i:=8) (oi:=_) (v:=.pointer (some ⟨bk,off+K*3,none⟩)) rfl (by kernel_rfl) (by kernel_rfl) (by kernel_rfl) (fun _ _ _ h=>h) (Or.inl ⟨by rfl,fun v hSv=>by obtain ⟨t1,t2,t3,t4,t5,t6,t7,t8⟩:=hSv;go_simp⟩) hSd ?_
            simp only[Act.put]
            refine wpAnyH_take (i:=9) (oi:=_) (v:=.agg #[.int .i64 pr,.int .i64 pg,.int .i64 pu]) rfl (by kernel_rfl) (by kernel_rfl) (by kernel_rfl) (fun _ _ _ h=>h) (Or.inl ⟨by rfl,fun v hSv=>by obtain ⟨t1,t2,t3,t4,t5,t6,t7,t8⟩:=hSv;go_simp⟩) hSd ?_
            simp only[Act.put]
            refine wpAnyH_ready (rs:=[0]) (by kernel_rfl) (by simp) ?_
            refine AllReadyH.cons (o:=_) rfl (fun K' hK=>?_) AllReadyH.nil
            rw[if_pos (by rfl)]
            go_simp
            refine hK.out _ _ hSd (fun _=>?_)
            clear hK
            refine wpAnyH_ready (rs:=[11]) (by kernel_rfl) (by simp) ?_
            refine AllReadyH.cons (o:=_) rfl (fun K' hK=>?_) AllReadyH.nil
            rw[if_pos (by rfl)]
            go_simp
            rw[HWV.out]
            refine (HWE2.out _).mono ?_
            rintro e V4 ⟨rfl,hb4⟩
            have hB4':Below W'.heap.size W' V4:=hBV3.trans (hb4.mono hBV3.size)
            have hSd:=HS2.out _ hB4'
            obtain ⟨q0,q1,q2⟩:=HQ.out _ hB4'
            obtain ⟨qf0,qf1,qf2,HT1,HT2⟩:=HTL.out _ hB4'
            refine hK.out _ _ hSd (fun _=>?_)
            clear hK
            refine wpAnyH_ready (rs:=[12]) (by kernel_rfl) (by simp) ?_
            refine AllReadyH.cons (o:=_) rfl (fun K' hK=>?_) AllReadyH.nil
            rw[if_pos (by rfl)]
            go_simp
            refine hK.out _ _ HT1 (fun _=>?_)
            clear hK
            refine wpAnyH_done (by kernel_rfl) ?_ _
            exact HT2
    case done =>
      rintro D ys W' hD rfl ⟨i1,i2,i3⟩ hK
      obtain ⟨⟨t0,t1,t2⟩,ht⟩:∃t,wF ps W H X Y (List.finRange 8)=t:=⟨_,rfl⟩
      rw[ht] at i1
      have HT:=hide ht
      clear ht
      obtain ⟨p0,p1,p2⟩:=z5EY i1
      have i4:=(i3.block (w.heap.size+1+1) (by omega)).trans a3
      obtain ⟨r0,r1,r2⟩:=z5EY i4
      have f0:=Lib.frozen_of_heap i4 0
      have f1:=Lib.frozen_of_heap i4 1
      have f2:=Lib.frozen_of_heap i4 2
      have hBw:=hB4.trans (i3.mono hB4.size)
      gi_wp2
      obtain ⟨x1,x2,x3,x4⟩:=X0Wz i4 (.int .i64 t0) (.int .i64 t1) (.int .i64 t2) w (by omega) hBw
      have hDr:D≠w.heap.size+1+1:=fun e=>by rw[e,i4] at hK;cases hK
      replace hK:=(x2 D hDr).trans hK
      generalize ((W'.setCell ⟨w.heap.size+1+1,0,none⟩ (.int .i64 t0)).setCell ⟨w.heap.size+1+1,1,none⟩ (.int .i64 t1)).setCell ⟨w.heap.size+1+1,2,none⟩ (.int .i64 t2)=Z at *
      refine ⟨by simp,.inl ⟨_,_,rfl,run_takeDeferred hK,?_⟩⟩
      have y1:=(World.putObj_heap_other (w:=Z) (o:=.deferred none) (Ne.symm hDr)).trans x1
      have y3:Below w.heap.size w (Z.putObj D (.deferred none)):=x4.trans (belowK_b (w:=w) (Nat.le_refl _) Z D _ _ (by omega) hK rfl rfl)
      obtain ⟨c0,c1,c2⟩:=z5EY y1
      generalize Z.putObj D (.deferred none)=Y' at *
      exact ⟨.agg #[.int .i64 t0,.int .i64 t1,.int .i64 t2],by simp[results,Tryz.results281,go_sem,c0,c1,c2],by rw[HT.out],y3⟩
    case stop=>rintro D c pre W' _ _ h _;exact h.elim
  go_region_held3 (fun w'=>(w'.cell? ⟨w.heap.size,2,none⟩=some (.slice (some ⟨bk,off,none⟩) ps.length ca)∧w'.cell? ⟨w.heap.size+3,0,none⟩=some (.int .i64 W)∧w'.cell? ⟨w.heap.size+3,1,none⟩=some (.int .i64 H)∧w'.cell? ⟨w.heap.size+1,0,none⟩=some (.int .i64 X)∧w'.cell? ⟨w.heap.size+1,1,none⟩=some (.int .i64 Y) ∧
      w'.cell? ⟨bk,off+J*3,none⟩=some (.int .i64 r)∧w'.cell? ⟨bk,off+J*3+1,none⟩=some (.int .i64 g)∧w'.cell? ⟨bk,off+J*3+2,none⟩=some (.int .i64 u)))
    (first|(refine HS.out _ ?_;assumption)|(refine HS.out _ (HSA.out _ _ ?_);assumption)|(refine HS.out _ (HS3.out _ _ _ _ _ ?_ ?_);assumption;omega)|(refine HS.out _ (HS3.out _ _ _ _ _ (HSA.out _ _ ?_) ?_);assumption;omega))
    (first
      | (go_at_call 42;refine (HIX.out _ ?_).mono ?_;(first|assumption|(refine HSA.out _ _ ?_;assumption));rintro e wx ⟨rfl,hN,hNx⟩;have hszU:=hN.size;(first|(have hz:=(hNx.block U.heap.size (by simp)).trans HZU.out;have hszz:=(Array.getElem?_eq_some_iff.1 hz).1)|skip))
      | (go_at_call 282;refine (HWE.out _ ?_).mono ?_;(first|assumption|(refine HSA.out _ _ ?_;assumption));rintro e wy ⟨rfl,hN2,hNy⟩;have hszV:=hN2.size;(first|(have hzz:=(hNy.block U.heap.size hszz).trans hz;obtain ⟨z0,z1,z2⟩:=z5EY hzz;have f0:=Lib.frozen_of_heap hzz 0;have f1:=Lib.frozen_of_heap hzz 1;have f2:=Lib.frozen_of_heap hzz 2)|(have hzz:=(hNy.block wx.heap.size (by simp)).trans (al1 wx _);obtain ⟨z0,z1,z2⟩:=z5EY hzz;have f0:=Lib.frozen_of_heap hzz 0;have f1:=Lib.frozen_of_heap hzz 1;have f2:=Lib.frozen_of_heap hzz 2)|skip)))
  all_goals first
    | exact ⟨wy.heap.size,rfl,HSA.out wy _ hN2,al1 wy _,hszV⟩
    | exact ⟨wx.heap.size,rfl,HS3.out wy wx.heap.size _ _ _ hN2 hszU,(X0Wz hzz (.int .i64 s0) (.int .i64 s1) (.int .i64 s2) U hszU hN2).1,hszU⟩
    | exact ⟨U.heap.size,rfl,HS3.out wy U.heap.size _ _ _ hN2 (Nat.le_refl _),(X0Wz hzz (.int .i64 s0) (.int .i64 s1) (.int .i64 s2) U (Nat.le_refl _) hN2).1,Nat.le_refl _⟩
end Go.Proofs.YtfjeonehdlphiaaGreatDoor

namespace Go.Proofs.YtfjeonehdlphiaaGreatDoor
open Go.RowKit
def XZdI (p s amount:Int):Int:=jeC7 (p+(p-s / 16)*amount / 256)
set_option maxRecDepth 100000 in
set_option maxHeartbeats 800000 in
theorem XT2s (p s amount:Int) (hp0:0≤p) (hp1:p≤65535) (hs0:0≤s) (hs1:s≤2097120) (ha0:0≤amount) (ha1:amount≤1024) (Ba:Nat) (V:World) (hc:V.cell? ⟨Ba,0,none⟩=some (.int .i64 amount)) :
  Calls Tryz.prog 279 #[.int .i64 p,.int .i64 s,.pointer (some ⟨Ba,0,none⟩)] V fun e w'=>e=.returned (.int .i64 (XZdI p s amount))∧V=w':=by
 have HE:=hide (show XZdI p s amount=jeC7 (p+(p-s / 16)*amount / 256) from rfl)
 generalize XZdI p s amount=R at *
 obtain ⟨b,hb⟩:∃b,s / 16=b:=⟨_,rfl⟩
 have hb0:0≤b∧b≤131070:=by omega
 rw[hb] at HE
 have hm:=z2et (a:=p-b) (r:=amount) (A:=131070) (R:=1024) (by omega) (by omega) ha0 ha1 (by omega)
 obtain ⟨M,hM⟩:∃M,(p-b)*amount=M:=⟨_,rfl⟩
 rw[hM] at HE hm
 obtain ⟨hm0,hm1⟩:=hm
 obtain ⟨hb0,hb1⟩:=hb0
 obtain ⟨D,hD⟩:∃D,M / 256=D:=⟨_,rfl⟩
 have hd0:-524280≤D∧D≤524280:=by omega
 obtain ⟨hd0,hd1⟩:=hd0
 rw[hD] at HE
 go_enter Tryz.func279,Tryz.ntmps279
 go_wp2_with (go_at_call 257;refine (Xgzp _ _).mono ?_;rintro e w' ⟨rfl,rfl⟩)
 go_ret
 exact ⟨jx9N HE.out.symm,rfl⟩
end Go.Proofs.YtfjeonehdlphiaaGreatDoor

namespace Go.Proofs.YtfjeonehdlphiaaGreatDoor
open Go.RowKit Go.Shelf
def zesK (ps:List Px) (W H:Nat) (amount:Int) (j:Nat):Px :=
 (XZdI (pxAt ps j).1 (wF ps W H (j % W) (j / W) (List.finRange 8)).1 amount,XZdI (pxAt ps j).2.1 (wF ps W H (j % W) (j / W) (List.finRange 8)).2.1 amount,XZdI (pxAt ps j).2.2 (wF ps W H (j % W) (j / W) (List.finRange 8)).2.2 amount)
theorem j6wQ {wy U:World} {B6 B7:Nat} {t:TypeId} {z:Array Value} (hz:∃a b c,z=#[a,b,c]) (h6:wy.heap[B6]?=some (.cells z t (0,0))) (h7:wy.heap[B7]?=some (.cells z t (0,0))) (hne:B6≠B7) (hU:Below U.heap.size U wy) (l6:U.heap.size≤B6) (l7:U.heap.size≤B7) (a b c d e f:Value) :
  Below U.heap.size U ((((((wy.setCell ⟨B6,0,none⟩ a).setCell ⟨B6,1,none⟩ b).setCell ⟨B6,2,none⟩ c).setCell ⟨B7,0,none⟩ d).setCell ⟨B7,1,none⟩ e).setCell ⟨B7,2,none⟩ f) ∧
   ((((((wy.setCell ⟨B6,0,none⟩ a).setCell ⟨B6,1,none⟩ b).setCell ⟨B6,2,none⟩ c).setCell ⟨B7,0,none⟩ d).setCell ⟨B7,1,none⟩ e).setCell ⟨B7,2,none⟩ f).heap[B6]?=some (.cells #[a,b,c] t (0,0)) ∧
   ((((((wy.setCell ⟨B6,0,none⟩ a).setCell ⟨B6,1,none⟩ b).setCell ⟨B6,2,none⟩ c).setCell ⟨B7,0,none⟩ d).setCell ⟨B7,1,none⟩ e).setCell ⟨B7,2,none⟩ f).heap[B7]?=some (.cells #[d,e,f] t (0,0))∧U.heap.size≤B6∧U.heap.size≤B7:=by
 obtain ⟨x,y,u,rfl⟩:=hz
 obtain ⟨p1,p2,p3,p4⟩:=X0Wz h6 a b c U l6 hU
 have h7':=(p2 B7 (Ne.symm hne)).trans h7
 obtain ⟨q1,q2,q3,q4⟩:=X0Wz h7' d e f U l7 p4
 exact ⟨q4,(q2 B6 hne).trans p1,q1,l6,l7⟩
theorem X7yz {wy U:World} {B:Nat} {t:TypeId} {z:Array Value} (hz:∃a b c,z=#[a,b,c]) (h6:wy.heap[B]?=some (.cells z t (0,0))) (hU:Below U.heap.size U wy) (l6:U.heap.size≤B) (a b c:Value) (y:Array Value) :
  Below U.heap.size U ((((wy.setCell ⟨B,0,none⟩ a).setCell ⟨B,1,none⟩ b).setCell ⟨B,2,none⟩ c).alloc (Obj.cells y t))∧((((wy.setCell ⟨B,0,none⟩ a).setCell ⟨B,1,none⟩ b).setCell ⟨B,2,none⟩ c).alloc (Obj.cells y t)).heap[B]?=some (.cells #[a,b,c] t (0,0)) ∧
   ((((wy.setCell ⟨B,0,none⟩ a).setCell ⟨B,1,none⟩ b).setCell ⟨B,2,none⟩ c).alloc (Obj.cells y t)).heap[wy.heap.size]?=some (.cells y t (0,0))∧U.heap.size≤B∧U.heap.size≤wy.heap.size:=by
 obtain ⟨x,y',u,rfl⟩:=hz
 obtain ⟨p1,p2,p3,p4⟩:=X0Wz h6 a b c U l6 hU
 have hl:=(Array.getElem?_eq_some_iff.1 h6).1
 refine ⟨p4.alloc p4.size _,(Below.heap_alloc _ _ _ (by omega)).trans p1,?_,l6,hU.size⟩
 have h:=al1 (((wy.setCell ⟨B,0,none⟩ a).setCell ⟨B,1,none⟩ b).setCell ⟨B,2,none⟩ c) (Obj.cells y t)
 rw[p3] at h;exact h
theorem XZdM {wy U:World} {t:TypeId} (hU:Below U.heap.size U wy) (x y:Array Value) :
  Below U.heap.size U ((wy.alloc (Obj.cells x t)).alloc (Obj.cells y t))∧((wy.alloc (Obj.cells x t)).alloc (Obj.cells y t)).heap[wy.heap.size]?=some (.cells x t (0,0))∧((wy.alloc (Obj.cells x t)).alloc (Obj.cells y t)).heap[wy.heap.size+1]?=some (.cells y t (0,0))∧U.heap.size≤wy.heap.size∧U.heap.size≤wy.heap.size+1:=by
 obtain ⟨h1,h2⟩:=al2 wy (Obj.cells x t) (Obj.cells y t)
 have:=hU.size
 exact ⟨(hU.alloc hU.size _).alloc (by simp;omega) _,h1,h2,this,by omega⟩
theorem jkc6 {A B C D E:Prop} (h:A∧B∧C∧D∧E):A∧C∧B∧E∧D:=⟨h.1,h.2.2.1,h.2.1,h.2.2.2.2,h.2.2.2.1⟩
set_option maxRecDepth 100000 in
set_option maxHeartbeats 4000000 in
theorem XNss (W H j bk off ca:Nat) (hW1:1≤W) (hW:W≤64) (hH1:1≤H) (hH:H≤64) (amount:Int) (ha0:0≤amount) (ha1:amount≤1024) (ps:List Px) (hlen:ps.length=H*W) (hps:pxsOk ps=true) (hj:j<ps.length) (Bq Bg Bf Ba:Nat) (V:World)
  (hbk:bk<V.heap.size) (hBq:Bq<V.heap.size) (hBg:Bg<V.heap.size) (hBf:Bf<V.heap.size) (hBa:Ba<V.heap.size)
  (kq0:V.cell? ⟨Bq,0,none⟩=some (.int .i64 W)) (kq1:V.cell? ⟨Bq,1,none⟩=some (.int .i64 H)) (kq2:V.cell? ⟨Bq,2,none⟩=some (.slice (some ⟨bk,off,none⟩) ps.length ca)) (kg0:V.cell? ⟨Bg,0,none⟩=some (.int .i64 W)) (kg1:V.cell? ⟨Bg,1,none⟩=some (.int .i64 H))
  (kf:V.cell? ⟨Bf,0,none⟩=some (.func (.func 279) #[] #[.pointer (some ⟨Ba,0,none⟩)])) (ka:V.cell? ⟨Ba,0,none⟩=some (.int .i64 amount))
  (hcell:∀j,j<ps.length→V.cell? ⟨bk,off+j*3,none⟩=some (.int .i64 (pxAt ps j).1)∧V.cell? ⟨bk,off+j*3+1,none⟩=some (.int .i64 (pxAt ps j).2.1)∧V.cell? ⟨bk,off+j*3+2,none⟩=some (.int .i64 (pxAt ps j).2.2)) :
  Calls Tryz.prog 280 #[.agg #[.int .i64 (j % W:Nat),.int .i64 (j / W:Nat)],.pointer (some ⟨Bq,0,none⟩),.pointer (some ⟨Bg,0,none⟩),.pointer (some ⟨Bf,0,none⟩)] V fun e V'=>e=.returned (pixV (zesK ps W H amount j))∧Below V.heap.size V V':=by
 have hl4:ps.length≤4096:=by rw[hlen];exact Nat.le_trans (Nat.mul_le_mul hH hW) (by decide)
 have HSP:=hide (show zesK ps W H amount j=(XZdI (pxAt ps j).1 (wF ps W H (j % W) (j / W) (List.finRange 8)).1 amount,XZdI (pxAt ps j).2.1 (wF ps W H (j % W) (j / W) (List.finRange 8)).2.1 amount,XZdI (pxAt ps j).2.2 (wF ps W H (j % W) (j / W) (List.finRange 8)).2.2 amount) from rfl)
 generalize zesK ps W H amount j=RES at *
 have hXW:j % W<W:=Nat.mod_lt _ (by omega)
 have hYH:j / W<H:=by rw[hlen] at hj;exact Nat.div_lt_of_lt_mul (by rw[Nat.mul_comm];exact hj)
 obtain ⟨X,hX⟩:∃X,j % W=X:=⟨_,rfl⟩
 obtain ⟨Y,hY⟩:∃Y,j / W=Y:=⟨_,rfl⟩
 have hk:Y*W+X=j:=by rw[←hX,←hY,Nat.mul_comm];exact Nat.div_add_mod j W
 rw[hX] at hXW
 rw[hY] at hYH
 rw[hX,hY] at HSP
 rw[hX,hY]
 clear hX hY
 have HK:=hide hk
 have HLEN:=hide hlen
 have HPS:=hide hps
 have HC:=hide hcell
 clear hk hlen hps hcell
 obtain ⟨⟨r,g,u⟩,hp⟩:∃p,pxAt ps j=p:=⟨_,rfl⟩
 obtain ⟨⟨s0,s1,s2⟩,hs⟩:∃s,wF ps W H X Y (List.finRange 8)=s:=⟨_,rfl⟩
 obtain ⟨⟨r1,r2⟩,⟨g1,g2⟩,u1,u2⟩:=(X1aR _).1 (z1DB HPS.out j)
 obtain ⟨⟨o1,o2⟩,⟨o3,o4⟩,o5,o6⟩:=qf9w (jdoM HPS.out W H X Y (List.finRange 8)) (show 4+2*(((List.finRange 8).length:Nat):Int)≤32 by decide)
 obtain ⟨c0,c1,c2⟩:=HC.out j hj
 rw[hp] at r1 r2 g1 g2 u1 u2 c0 c1 c2 HSP
 rw[hs] at o1 o2 o3 o4 o5 o6 HSP
 have HWF:=hide hs
 clear hp hs
 have HB1:=be2 V (Obj.cells #[.int .i64 X,.int .i64 Y] 97) (Obj.cells #[.int .i64 0,.int .i64 0,.int .i64 0] 61)
 obtain ⟨n1,n2⟩:=al2 V (Obj.cells #[.int .i64 X,.int .i64 Y] 97) (Obj.cells #[.int .i64 0,.int .i64 0,.int .i64 0] 61)
 have hsU:((V.alloc (Obj.cells #[.int .i64 X,.int .i64 Y] 97)).alloc (Obj.cells #[.int .i64 0,.int .i64 0,.int .i64 0] 61)).heap.size=V.heap.size+2:=by simp
 go_enter Tryz.func280,Tryz.ntmps280
 go_wp2_with fail
 generalize (V.alloc (Obj.cells #[.int .i64 X,.int .i64 Y] 97)).alloc (Obj.cells #[.int .i64 0,.int .i64 0,.int .i64 0] 61)=U at *
 replace hsU:=Nat.le_of_eq hsU.symm
 have HS:=hide (show ∀w',Below U.heap.size U w'→(w'.cell? ⟨Bq,0,none⟩=some (.int .i64 W)∧w'.cell? ⟨Bq,1,none⟩=some (.int .i64 H)∧w'.cell? ⟨Bq,2,none⟩=some (.slice (some ⟨bk,off,none⟩) ps.length ca)∧w'.cell? ⟨Bg,0,none⟩=some (.int .i64 W)∧w'.cell? ⟨Bg,1,none⟩=some (.int .i64 H)∧w'.cell? ⟨V.heap.size,0,none⟩=some (.int .i64 X)∧w'.cell? ⟨V.heap.size,1,none⟩=some (.int .i64 Y) ∧
   w'.cell? ⟨bk,off+j*3,none⟩=some (.int .i64 r)∧w'.cell? ⟨bk,off+j*3+1,none⟩=some (.int .i64 g)∧w'.cell? ⟨bk,off+j*3+2,none⟩=some (.int .i64 u)) from fun w' h=>by
  have hV:=HB1.trans (h.mono HB1.size)
  have hn:=(h.block V.heap.size (by omega)).trans n1
  exact ⟨(hV.cell (p:=⟨Bq,0,none⟩) hBq).trans kq0,(hV.cell (p:=⟨Bq,1,none⟩) hBq).trans kq1,(hV.cell (p:=⟨Bq,2,none⟩) hBq).trans kq2,(hV.cell (p:=⟨Bg,0,none⟩) hBg).trans kg0,(hV.cell (p:=⟨Bg,1,none⟩) hBg).trans kg1,by rw[Lib.cell_of_heap hn];rfl,by rw[Lib.cell_of_heap hn];rfl,(hV.cell (p:=⟨bk,off+j*3,none⟩) hbk).trans c0,(hV.cell (p:=⟨bk,off+j*3+1,none⟩) hbk).trans c1,(hV.cell (p:=⟨bk,off+j*3+2,none⟩) hbk).trans c2⟩)
 have HIX:=hide (show ∀w',Below U.heap.size U w'→Calls Tryz.prog 42 #[.agg #[.int .i64 W,.int .i64 H],.agg #[.int .i64 X,.int .i64 Y]] w' fun e w''=>e=.returned (.int .i64 j)∧Below U.heap.size U w''∧Below w'.heap.size w' w'' from fun w' h =>
  (XSSj W H X Y W j rfl HK.out (by omega) w').mono fun e w'' h2=>⟨h2.1,h.trans (h2.2.mono h.size),h2.2⟩)
 have HWA:=hide (show ∀w',Below U.heap.size U w'→Calls Tryz.prog 281 #[.agg #[.int .i64 W,.int .i64 H,.slice (some ⟨bk,off,none⟩) ps.length ca],.agg #[.int .i64 X,.int .i64 Y]] w' fun e w''=>e=.returned (.agg #[.int .i64 s0,.int .i64 s1,.int .i64 s2])∧Below U.heap.size U w''∧Below w'.heap.size w' w'' from fun w' h=>by
  have hV:=HB1.trans (h.mono HB1.size)
  have h2:=X2XP W H X Y bk off ca hW1 hW hH1 hH hXW hYH ps HLEN.out HPS.out w' (by have:=hV.size;omega) (fun i hi=>by
   obtain ⟨d0,d1,d2⟩:=HC.out i hi
   exact ⟨(hV.cell (p:=⟨bk,off+i*3,none⟩) hbk).trans d0,(hV.cell (p:=⟨bk,off+i*3+1,none⟩) hbk).trans d1,(hV.cell (p:=⟨bk,off+i*3+2,none⟩) hbk).trans d2⟩)
  rw[HWF.out] at h2
  exact h2.mono fun e w'' h2=>⟨h2.1,h.trans (h2.2.mono h.size),h2.2⟩)
 have HSA:=hide (show ∀w' o,Below U.heap.size U w'→Below U.heap.size U (w'.alloc o) from fun w' o h=>h.alloc h.size o)
 have HS3:=hide (show ∀w' b x y z,Below U.heap.size U w'→U.heap.size≤b→Below U.heap.size U (((w'.setCell ⟨b,0,none⟩ x).setCell ⟨b,1,none⟩ y).setCell ⟨b,2,none⟩ z) from fun w' b x y z h hb=>zHqh h hb x y z)
 have hdrew:Below U.heap.size U U.drew:=(Below.refl _ _).drew
 have hrefl:Below U.heap.size U U:=Below.refl _ _
 have HZ1:=hide (show (U.alloc (Obj.cells #[.int .i64 0,.int .i64 0,.int .i64 0] 61)).drew.heap[U.heap.size]?=some (.cells #[.int .i64 0,.int .i64 0,.int .i64 0] 61 (0,0)) from al1 U _)
 have HZ2a:=hide (show ((U.alloc (Obj.cells #[.int .i64 0,.int .i64 0,.int .i64 0] 61)).alloc (Obj.cells #[.int .i64 0,.int .i64 0,.int .i64 0] 61)).drew.heap[U.heap.size]?=some (.cells #[.int .i64 0,.int .i64 0,.int .i64 0] 61 (0,0)) from (al2 U _ _).1)
 have HZ2b:=hide (show ((U.alloc (Obj.cells #[.int .i64 0,.int .i64 0,.int .i64 0] 61)).alloc (Obj.cells #[.int .i64 0,.int .i64 0,.int .i64 0] 61)).drew.heap[U.heap.size+1]?=some (.cells #[.int .i64 0,.int .i64 0,.int .i64 0] 61 (0,0)) from (al2 U _ _).2)
 have HLT1:=hide (show True→U.heap.size<(U.alloc (Obj.cells #[.int .i64 0,.int .i64 0,.int .i64 0] 61)).drew.heap.size from fun _=>by show _<(U.alloc (Obj.cells #[.int .i64 0,.int .i64 0,.int .i64 0] 61)).heap.size;simp)
 have HLT:=hide (show True→U.heap.size<((U.alloc (Obj.cells #[.int .i64 0,.int .i64 0,.int .i64 0] 61)).alloc (Obj.cells #[.int .i64 0,.int .i64 0,.int .i64 0] 61)).drew.heap.size from fun _=>by show _<((U.alloc (Obj.cells #[.int .i64 0,.int .i64 0,.int .i64 0] 61)).alloc (Obj.cells #[.int .i64 0,.int .i64 0,.int .i64 0] 61)).heap.size;simp;omega)
 have HLT2:=hide (show True→U.heap.size+1<((U.alloc (Obj.cells #[.int .i64 0,.int .i64 0,.int .i64 0] 61)).alloc (Obj.cells #[.int .i64 0,.int .i64 0,.int .i64 0] 61)).drew.heap.size from fun _=>by show _<((U.alloc (Obj.cells #[.int .i64 0,.int .i64 0,.int .i64 0] 61)).alloc (Obj.cells #[.int .i64 0,.int .i64 0,.int .i64 0] 61)).heap.size;simp)
 have HLA:=hide (show ∀(w':World) (b:Nat),b<w'.heap.size→b<(w'.alloc (Obj.cells #[.int .i64 0,.int .i64 0,.int .i64 0] 61)).heap.size from fun w' b h=>by simp;omega)
 have HAL:=hide (show ∀(w':World) (b:Nat),w'.heap[b]?=some (.cells #[.int .i64 0,.int .i64 0,.int .i64 0] 61 (0,0))→(w'.alloc (Obj.cells #[.int .i64 0,.int .i64 0,.int .i64 0] 61)).heap[b]?=some (.cells #[.int .i64 0,.int .i64 0,.int .i64 0] 61 (0,0)) from fun w' b h=>(Below.heap_alloc _ _ _ (Array.getElem?_eq_some_iff.1 h).1).trans h)
 have HLC1:=hide (show ∀(w':World),w'.heap.size<(w'.alloc (Obj.cells #[.int .i64 0,.int .i64 0,.int .i64 0] 61)).heap.size from fun w'=>by simp)
 have HLC2:=hide (show ∀(w':World),w'.heap.size<((w'.alloc (Obj.cells #[.int .i64 0,.int .i64 0,.int .i64 0] 61)).alloc (Obj.cells #[.int .i64 0,.int .i64 0,.int .i64 0] 61)).heap.size from fun w'=>by simp;omega)
 have HLC3:=hide (show ∀(w':World),w'.heap.size+1<((w'.alloc (Obj.cells #[.int .i64 0,.int .i64 0,.int .i64 0] 61)).alloc (Obj.cells #[.int .i64 0,.int .i64 0,.int .i64 0] 61)).heap.size from fun w'=>by simp)
 refine zNvO (fun a' M=>∃B6 B7,a'={ tmps:=#[.agg #[.int .i64 X,.int .i64 Y],.pointer (some ⟨Bq,0,none⟩),.pointer (some ⟨Bg,0,none⟩),.pointer (some ⟨Bf,0,none⟩),.pointer (some ⟨V.heap.size,0,none⟩),.pointer (some ⟨V.heap.size+1,0,none⟩),.pointer (some ⟨B6,0,none⟩),.pointer (some ⟨B7,0,none⟩),.pointer (some ⟨Bq,2,none⟩),.slice (some ⟨bk,off,none⟩) ps.length ca,.agg #[.int .i64 W,.int .i64 H],.agg #[.int .i64 X,.int .i64 Y],.int .i64 j,.pointer (some ⟨bk,off+j*3,none⟩),.agg #[.int .i64 r,.int .i64 g,.int .i64 u],.agg #[.int .i64 W,.int .i64 H,.slice (some ⟨bk,off,none⟩) ps.length ca],.agg #[.int .i64 X,.int .i64 Y],.agg #[.int .i64 s0,.int .i64 s1,.int .i64 s2],undef,undef,undef,undef,undef,undef,undef,undef,undef,undef,undef,undef,undef,undef,undef,undef,undef,undef,undef],defers:=[] }∧Below U.heap.size U M∧M.heap[B6]?=some (.cells #[.int .i64 r,.int .i64 g,.int .i64 u] 61 (0,0))∧M.heap[B7]?=some (.cells #[.int .i64 s0,.int .i64 s1,.int .i64 s2] 61 (0,0))∧U.heap.size≤B6∧U.heap.size≤B7) ?_ ?_
 rotate_left
 ·rintro a' M ⟨B6,B7,rfl,mB,m6,m7,l6,l7⟩
  have hz1:=(mB.block (V.heap.size+1) (by omega)).trans n2
  have hVM:=HB1.trans (mB.mono HB1.size)
  have hsM:=mB.size
  have h6l:=(Array.getElem?_eq_some_iff.1 m6).1
  have h7l:=(Array.getElem?_eq_some_iff.1 m7).1
  have HSb:=hide (show ∀w',Below M.heap.size M w'→w'.cell? ⟨Bf,0,none⟩=some (.func (.func 279) #[] #[.pointer (some ⟨Ba,0,none⟩)])∧w'.cell? ⟨B6,0,none⟩=some (.int .i64 r)∧w'.cell? ⟨B6,1,none⟩=some (.int .i64 g)∧w'.cell? ⟨B6,2,none⟩=some (.int .i64 u)∧w'.cell? ⟨B7,0,none⟩=some (.int .i64 s0)∧w'.cell? ⟨B7,1,none⟩=some (.int .i64 s1)∧w'.cell? ⟨B7,2,none⟩=some (.int .i64 s2) from fun w' h=>by
   have hV:=hVM.trans (h.mono hVM.size)
   obtain ⟨e0,e1,e2⟩:=z5EY ((h.block B6 h6l).trans m6)
   obtain ⟨e3,e4,e5⟩:=z5EY ((h.block B7 h7l).trans m7)
   exact ⟨(hV.cell (p:=⟨Bf,0,none⟩) hBf).trans kf,e0,e1,e2,e3,e4,e5⟩)
  have HSb3:=hide (show ∀w' x y z,Below M.heap.size M w'→(((w'.setCell ⟨V.heap.size+1,0,none⟩ x).setCell ⟨V.heap.size+1,1,none⟩ y).setCell ⟨V.heap.size+1,2,none⟩ z).cell? ⟨Bf,0,none⟩=some (.func (.func 279) #[] #[.pointer (some ⟨Ba,0,none⟩)])∧(((w'.setCell ⟨V.heap.size+1,0,none⟩ x).setCell ⟨V.heap.size+1,1,none⟩ y).setCell ⟨V.heap.size+1,2,none⟩ z).cell? ⟨B6,0,none⟩=some (.int .i64 r)∧(((w'.setCell ⟨V.heap.size+1,0,none⟩ x).setCell ⟨V.heap.size+1,1,none⟩ y).setCell ⟨V.heap.size+1,2,none⟩ z).cell? ⟨B6,1,none⟩=some (.int .i64 g)∧(((w'.setCell ⟨V.heap.size+1,0,none⟩ x).setCell ⟨V.heap.size+1,1,none⟩ y).setCell ⟨V.heap.size+1,2,none⟩ z).cell? ⟨B6,2,none⟩=some (.int .i64 u)∧(((w'.setCell ⟨V.heap.size+1,0,none⟩ x).setCell ⟨V.heap.size+1,1,none⟩ y).setCell ⟨V.heap.size+1,2,none⟩ z).cell? ⟨B7,0,none⟩=some (.int .i64 s0)∧(((w'.setCell ⟨V.heap.size+1,0,none⟩ x).setCell ⟨V.heap.size+1,1,none⟩ y).setCell ⟨V.heap.size+1,2,none⟩ z).cell? ⟨B7,1,none⟩=some (.int .i64 s1)∧(((w'.setCell ⟨V.heap.size+1,0,none⟩ x).setCell ⟨V.heap.size+1,1,none⟩ y).setCell ⟨V.heap.size+1,2,none⟩ z).cell? ⟨B7,2,none⟩=some (.int .i64 s2) from fun w' x y z h=>by
   have hh:=HSb.out w' h
   have e1:Bf≠V.heap.size+1:=by omega
   have e2:B6≠V.heap.size+1:=by omega
   have e3:B7≠V.heap.size+1:=by omega
   rw[zd1R _ _ _ e1,zd1R _ _ _ e2,zd1R _ _ _ e2,zd1R _ _ _ e2,zd1R _ _ _ e3,zd1R _ _ _ e3,zd1R _ _ _ e3]
   exact hh)
  have HSH:=hide (show ∀w' p q,Below M.heap.size M w'→0≤p→p≤65535→0≤q→q≤2097120→Calls Tryz.prog 279 #[.int .i64 p,.int .i64 q,.pointer (some ⟨Ba,0,none⟩)] w' fun e w''=>e=.returned (.int .i64 (XZdI p q amount))∧Below M.heap.size M w''∧(w''.cell? ⟨V.heap.size+1,0,none⟩=some (.int .i64 0)∧w''.cell? ⟨V.heap.size+1,1,none⟩=some (.int .i64 0)∧w''.cell? ⟨V.heap.size+1,2,none⟩=some (.int .i64 0))∧w''.frozen? ⟨V.heap.size+1,0,none⟩=false∧w''.frozen? ⟨V.heap.size+1,1,none⟩=false∧w''.frozen? ⟨V.heap.size+1,2,none⟩=false from fun w' p q h hp0 hp1 hq0 hq1 =>
   (XT2s p q amount hp0 hp1 hq0 hq1 ha0 ha1 Ba w' (((hVM.trans (h.mono hVM.size)).cell (p:=⟨Ba,0,none⟩) hBa).trans ka)).mono fun e w'' h2=>by
    obtain ⟨rfl,rfl⟩:=h2
    have hn:=(h.block (V.heap.size+1) (by omega)).trans hz1
    exact ⟨rfl,h,z5EY hn,Lib.frozen_of_heap hn 0,Lib.frozen_of_heap hn 1,Lib.frozen_of_heap hn 2⟩)
  have HFIN:=hide (show ∀w' x y z,Below M.heap.size M w'→Below V.heap.size V (((w'.setCell ⟨V.heap.size+1,0,none⟩ x).setCell ⟨V.heap.size+1,1,none⟩ y).setCell ⟨V.heap.size+1,2,none⟩ z) from fun w' x y z h=>zHqh (hVM.trans (h.mono hVM.size)) (by omega) x y z)
  have hdrewM:Below M.heap.size M M.drew:=(Below.refl _ _).drew
  have hreflM:Below M.heap.size M M:=Below.refl _ _
  have o2':s0≤2097120:=by omega
  have o4':s1≤2097120:=by omega
  have o6':s2≤2097120:=by omega
  clear n1 n2 c0 c1 c2 kq0 kq1 kq2 kg0 kg1 kf ka HS HIX HWA HSA HS3 hdrew hrefl m6 m7 hz1 o2 o4 o6
  go_wp2_with fail
  go_region_held3 (fun w'=>w'.cell? ⟨Bf,0,none⟩=some (.func (.func 279) #[] #[.pointer (some ⟨Ba,0,none⟩)])∧w'.cell? ⟨B6,0,none⟩=some (.int .i64 r)∧w'.cell? ⟨B6,1,none⟩=some (.int .i64 g)∧w'.cell? ⟨B6,2,none⟩=some (.int .i64 u)∧w'.cell? ⟨B7,0,none⟩=some (.int .i64 s0)∧w'.cell? ⟨B7,1,none⟩=some (.int .i64 s1)∧w'.cell? ⟨B7,2,none⟩=some (.int .i64 s2))
   (first|(with_reducible refine HSb.out _ ?_;with_reducible assumption)|(with_reducible refine HSb3.out _ _ _ _ ?_;with_reducible assumption))
   (first
    | (go_at_call 279;refine (HSH.out _ _ _ ?_ ?_ ?_ ?_ ?_).mono ?_;assumption;assumption;assumption;assumption;assumption;rintro e wz ⟨rfl,hN3,⟨z0,z1,z2⟩,f0,f1,f2⟩))
  all_goals
   go_wp2
   exact bodyPost_ret (v:=.agg #[.int .i64 (XZdI r s0 amount),.int .i64 (XZdI g s1 amount),.int .i64 (XZdI u s2 amount)]) (by simp[results,Tryz.results280,go_sem,z0,z1,z2]) rfl ⟨by rw[HSP.out],HFIN.out _ _ _ _ (by assumption)⟩
 go_region_held3 (fun w'=>(w'.cell? ⟨Bq,0,none⟩=some (.int .i64 W)∧w'.cell? ⟨Bq,1,none⟩=some (.int .i64 H)∧w'.cell? ⟨Bq,2,none⟩=some (.slice (some ⟨bk,off,none⟩) ps.length ca)∧w'.cell? ⟨Bg,0,none⟩=some (.int .i64 W)∧w'.cell? ⟨Bg,1,none⟩=some (.int .i64 H)∧w'.cell? ⟨V.heap.size,0,none⟩=some (.int .i64 X)∧w'.cell? ⟨V.heap.size,1,none⟩=some (.int .i64 Y) ∧
   w'.cell? ⟨bk,off+j*3,none⟩=some (.int .i64 r)∧w'.cell? ⟨bk,off+j*3+1,none⟩=some (.int .i64 g)∧w'.cell? ⟨bk,off+j*3+2,none⟩=some (.int .i64 u)))
  (first|(refine HS.out _ ?_;repeat (first|with_reducible assumption|(with_reducible refine HSA.out _ _ ?_)|(with_reducible refine HS3.out _ _ _ _ _ ?_ (by omega))|(with_reducible refine XpIb ?_))))
  (first
   | (go_at_call 42;refine (HIX.out _ ?_).mono ?_;(repeat (first|with_reducible assumption|(with_reducible refine HSA.out _ _ ?_)|(with_reducible refine XpIb ?_)));rintro e wx ⟨rfl,hN,hNx⟩;have hszU:=hN.size;(first|(with_reducible have hzA:=(hNx.block U.heap.size (HLT.out trivial)).trans HZ2a.out;with_reducible have hzB:=(hNx.block (U.heap.size+1) (HLT2.out trivial)).trans HZ2b.out;have hszA:U.heap.size<wx.heap.size:=(Array.getElem?_eq_some_iff.1 hzA).1;have hszB:U.heap.size+1<wx.heap.size:=(Array.getElem?_eq_some_iff.1 hzB).1)|(with_reducible have hzA:=(hNx.block U.heap.size (HLT1.out trivial)).trans HZ1.out;have hszA:U.heap.size<wx.heap.size:=(Array.getElem?_eq_some_iff.1 hzA).1)|skip))
   | (go_at_call 281;refine (HWA.out _ ?_).mono ?_;(repeat (first|with_reducible assumption|(with_reducible refine HSA.out _ _ ?_)|(with_reducible refine XpIb ?_)));rintro e wy ⟨rfl,hN2,hNy⟩;have hszV:=hN2.size;(first|(with_reducible have yA:=(hNy.block U.heap.size hszA).trans hzA;have ysA:U.heap.size<wy.heap.size:=(Array.getElem?_eq_some_iff.1 yA).1)|(with_reducible have yA:=(hNy.block U.heap.size (HLA.out _ _ hszA)).trans (HAL.out _ _ hzA);have ysA:U.heap.size<wy.heap.size:=(Array.getElem?_eq_some_iff.1 yA).1)|skip);(first|(with_reducible have yB:=(hNy.block (U.heap.size+1) hszB).trans hzB;have ysB:U.heap.size+1<wy.heap.size:=(Array.getElem?_eq_some_iff.1 yB).1)|skip);(first|(with_reducible have yC:=(hNy.block wx.heap.size (HLC2.out _)).trans (al2 wx _ _).1;with_reducible have yD:=(hNy.block (wx.heap.size+1) (HLC3.out _)).trans (al2 wx _ _).2;have ysC:wx.heap.size<wy.heap.size:=(Array.getElem?_eq_some_iff.1 yC).1;have ysD:wx.heap.size+1<wy.heap.size:=(Array.getElem?_eq_some_iff.1 yD).1)|(with_reducible have yC:=(hNy.block wx.heap.size (HLC1.out _)).trans (al1 wx _);have ysC:wx.heap.size<wy.heap.size:=(Array.getElem?_eq_some_iff.1 yC).1)|skip);(try (obtain ⟨yA0,yA1,yA2⟩:=z5EY yA;have yAf0:=Lib.frozen_of_heap yA 0;have yAf1:=Lib.frozen_of_heap yA 1;have yAf2:=Lib.frozen_of_heap yA 2));(try (obtain ⟨yB0,yB1,yB2⟩:=z5EY yB;have yBf0:=Lib.frozen_of_heap yB 0;have yBf1:=Lib.frozen_of_heap yB 1;have yBf2:=Lib.frozen_of_heap yB 2));(try (obtain ⟨yC0,yC1,yC2⟩:=z5EY yC;have yCf0:=Lib.frozen_of_heap yC 0;have yCf1:=Lib.frozen_of_heap yC 1;have yCf2:=Lib.frozen_of_heap yC 2));(try (obtain ⟨yD0,yD1,yD2⟩:=z5EY yD;have yDf0:=Lib.frozen_of_heap yD 0;have yDf1:=Lib.frozen_of_heap yD 1;have yDf2:=Lib.frozen_of_heap yD 2));(try (have ne1:¬U.heap.size=wx.heap.size:=by omega;have ne2:¬wx.heap.size=U.heap.size:=by omega));(try (have ne3:¬U.heap.size=wy.heap.size:=by omega;have ne4:¬wy.heap.size=U.heap.size:=by omega));(try (have ne5:¬wx.heap.size=wy.heap.size:=by omega;have ne6:¬wy.heap.size=wx.heap.size:=by omega))))
 all_goals show ∃B6 B7,_
 all_goals first
  | with_reducible exact ⟨wy.heap.size,wy.heap.size+1,rfl,XZdM hN2 _ _⟩
  | with_reducible exact ⟨wy.heap.size+1,wy.heap.size,rfl,jkc6 (XZdM hN2 _ _)⟩
  | with_reducible exact ⟨wx.heap.size,wy.heap.size,rfl,X7yz ⟨_,_,_,rfl⟩ yC hN2 hszU _ _ _ _⟩
  | with_reducible exact ⟨wy.heap.size,wx.heap.size,rfl,jkc6 (X7yz ⟨_,_,_,rfl⟩ yC hN2 hszU _ _ _ _)⟩
  | with_reducible exact ⟨U.heap.size,wy.heap.size,rfl,X7yz ⟨_,_,_,rfl⟩ yA hN2 (Nat.le_refl _) _ _ _ _⟩
  | with_reducible exact ⟨wy.heap.size,U.heap.size,rfl,jkc6 (X7yz ⟨_,_,_,rfl⟩ yA hN2 (Nat.le_refl _) _ _ _ _)⟩
  | with_reducible exact ⟨wx.heap.size,wx.heap.size+1,rfl,j6wQ ⟨_,_,_,rfl⟩ yC yD (by omega) hN2 hszU (Nat.le_succ_of_le hszU) _ _ _ _ _ _⟩
  | with_reducible exact ⟨wx.heap.size+1,wx.heap.size,rfl,j6wQ ⟨_,_,_,rfl⟩ yD yC (by omega) hN2 (Nat.le_succ_of_le hszU) hszU _ _ _ _ _ _⟩
  | with_reducible exact ⟨U.heap.size,wx.heap.size,rfl,j6wQ ⟨_,_,_,rfl⟩ yA yC (by omega) hN2 (Nat.le_refl _) hszU _ _ _ _ _ _⟩
  | with_reducible exact ⟨U.heap.size,U.heap.size+1,rfl,j6wQ ⟨_,_,_,rfl⟩ yA yB (by omega) hN2 (Nat.le_refl _) (Nat.le_succ _) _ _ _ _ _ _⟩
  | with_reducible exact ⟨wx.heap.size,U.heap.size,rfl,j6wQ ⟨_,_,_,rfl⟩ yC yA (by omega) hN2 hszU (Nat.le_refl _) _ _ _ _ _ _⟩
  | with_reducible exact ⟨U.heap.size+1,U.heap.size,rfl,j6wQ ⟨_,_,_,rfl⟩ yB yA (by omega) hN2 (Nat.le_succ _) (Nat.le_refl _) _ _ _ _ _ _⟩
end Go.Proofs.YtfjeonehdlphiaaGreatDoor

namespace Go.Proofs.YtfjeonehdlphiaaGreatDoor
open Go.RowKit
def joyM (W H:Int) (ps:List Px) (amount:Int):Int:=if picOk W H ps=true then (if XbQH amount=true then 0 else 3) else 1
def jz1R (W H:Int) (ps:List Px) (amount:Int):List Px:=(List.range ps.length).map (zesK ps W.toNat H.toNat amount)
set_option maxRecDepth 100000 in
set_option maxHeartbeats 1600000 in
theorem qVlB (W H:Int) (v:Value) (ps:List Px) (amount:Int) (w:World) (hv:IsPix w v ps) :
  Calls Tryz.prog 278 #[.agg #[.int .i64 W,.int .i64 H,v],.int .i64 amount] w fun e w'=>∃r,e=.returned (.tuple #[.agg #[.int .i64 (okW (joyM W H ps amount) W),.int .i64 (okW (joyM W H ps amount) H),r],.int .i64 (joyM W H ps amount)])∧IsPix w' r (okL (joyM W H ps amount) (jz1R W H ps amount))∧Below w.heap.size w w'∧Fresh w.heap.size r:=by
 have HV:=hide hv
 obtain ⟨ao,ca,rfl,hla,hc⟩:=hv
 obtain ⟨E,hE⟩:∃E,joyM W H ps amount=E:=⟨_,rfl⟩
 rw[hE]
 by_cases hp:picOk W H ps=true
 ·by_cases hm:XbQH amount=true
  ·have he:E=0:=by rw[←hE,joyM,if_pos hp,if_pos hm]
   subst he
   clear hE
   have HAM:=hide (show 0≤amount∧amount≤1024 by simpa [XbQH] using hm)
   obtain ⟨⟨w1,w2⟩,⟨h1,h2⟩,hl,hpx⟩:=XMjn hp
   obtain ⟨WN,rfl⟩:=Int.eq_ofNat_of_zero_le (show 0≤W by omega)
   obtain ⟨HN,rfl⟩:=Int.eq_ofNat_of_zero_le (show 0≤H by omega)
   have HLEN:=hide (show ps.length=HN*WN by rw[Nat.mul_comm];exact_mod_cast hl)
   have HPX:=hide hpx
   have HSL:=hide (show jz1R (WN:Nat) (HN:Nat) ps amount=(List.range (HN*WN)).map (zesK ps WN HN amount) by rw[jz1R,HLEN.out];rfl)
   clear hl hpx
   go_enter Tryz.func278,Tryz.ntmps278
   go_wp2_with fail
   obtain ⟨a1,a2,a3⟩:=al3 w (Obj.cells #[.int .i64 (WN:Nat),.int .i64 (HN:Nat),.slice ao ps.length ca] 24) (Obj.cells #[.int .i64 amount] 3) (Obj.cells #[.int .i64 0,.int .i64 0,.slice none 0 0] 24)
   have hB:=be3 w (Obj.cells #[.int .i64 (WN:Nat),.int .i64 (HN:Nat),.slice ao ps.length ca] 24) (Obj.cells #[.int .i64 amount] 3) (Obj.cells #[.int .i64 0,.int .i64 0,.slice none 0 0] 24)
   have hs3:(((w.alloc (Obj.cells #[.int .i64 (WN:Nat),.int .i64 (HN:Nat),.slice ao ps.length ca] 24)).alloc (Obj.cells #[.int .i64 amount] 3)).alloc (Obj.cells #[.int .i64 0,.int .i64 0,.slice none 0 0] 24)).heap.size=w.heap.size+3:=by simp
   generalize ((w.alloc (Obj.cells #[.int .i64 (WN:Nat),.int .i64 (HN:Nat),.slice ao ps.length ca] 24)).alloc (Obj.cells #[.int .i64 amount] 3)).alloc (Obj.cells #[.int .i64 0,.int .i64 0,.slice none 0 0] 24)=U at *
   replace hs3:=Nat.le_of_eq hs3.symm
   refine (XDTU WN HN _ ps _ (HV.out.below hB (Nat.le_refl _))).mono ?_
   rintro e w1 ⟨rfl,hb1⟩
   rw[hp]
   have g1:=(hb1.block (w.heap.size) (by omega)).trans a1
   have g2:=(hb1.block (w.heap.size+1) (by omega)).trans a2
   have g3:=(hb1.block (w.heap.size+1+1) (by omega)).trans a3
   have l0:w1.cell? ⟨w.heap.size+1,0,none⟩=some (.int .i64 amount):=by rw[Lib.cell_of_heap g2];rfl
   go_wp2_with fail
   refine (Xfvu _ _).mono ?_
   rintro e w2 ⟨rfl,hb2⟩
   rw[hm]
   clear l0
   replace hb2:=quJN hb1 hb2
   replace g1:=(hb2.block (w.heap.size) (by omega)).trans a1
   replace g2:=(hb2.block (w.heap.size+1) (by omega)).trans a2
   replace g3:=(hb2.block (w.heap.size+1+1) (by omega)).trans a3
   obtain ⟨p0,p1,p2⟩:=z5EY g1
   have hww:w.heap.size<w2.heap.size:=by have:=hb2.size;omega
   go_wp2_with fail
   obtain ⟨d1,d2⟩:=al2 w2 (Obj.cells #[.func (.func 279) #[] #[.pointer (some ⟨w.heap.size+1,0,none⟩)]] 184) (Obj.cells #[.int .i64 (WN:Nat),.int .i64 (HN:Nat)] 95)
   have hD:=be2 w2 (Obj.cells #[.func (.func 279) #[] #[.pointer (some ⟨w.heap.size+1,0,none⟩)]] 184) (Obj.cells #[.int .i64 (WN:Nat),.int .i64 (HN:Nat)] 95)
   have hsD:((w2.alloc (Obj.cells #[.func (.func 279) #[] #[.pointer (some ⟨w.heap.size+1,0,none⟩)]] 184)).alloc (Obj.cells #[.int .i64 (WN:Nat),.int .i64 (HN:Nat)] 95)).heap.size=w2.heap.size+2:=by simp
   generalize (w2.alloc (Obj.cells #[.func (.func 279) #[] #[.pointer (some ⟨w.heap.size+1,0,none⟩)]] 184)).alloc (Obj.cells #[.int .i64 (WN:Nat),.int .i64 (HN:Nat)] 95)=Z at *
   replace hsD:=Nat.le_of_eq hsD.symm
   have hb2s:=hb2.size
   have hbZ:=quJN hb2 hD
   refine (XMhx WN HN (HN*WN) (by omega) (by omega) rfl 280 _ (zesK ps WN HN amount) Z (enters_of Tryz.func280 (by kernel_rfl) rfl) ?_).mono ?_
   ·intro j M hj hM
    have hj':j<ps.length:=by rw[HLEN.out];exact hj
    obtain ⟨bk,off,hao,hbl,hcell⟩:∃b off,ao=some ⟨b,off,none⟩∧b<w.heap.size∧∀j (h:j<ps.length),
      w.cell? ⟨b,off+j*3,none⟩=some (.int .i64 ps[j].1)∧w.cell? ⟨b,off+j*3+1,none⟩=some (.int .i64 ps[j].2.1)∧w.cell? ⟨b,off+j*3+2,none⟩=some (.int .i64 ps[j].2.2):=by
     rcases hc with h|h
     ·subst h;simp at hj'
     ·exact h
    subst hao
    have hUM:=quJN hbZ hM
    have hwM:=hB.trans (hUM.mono hB.size)
    have hsM:=hM.size
    have m1:=(hUM.block w.heap.size (by omega)).trans a1
    have m2:=(hUM.block (w.heap.size+1) (by omega)).trans a2
    have m3:=(hM.block w2.heap.size (by omega)).trans d1
    have m4:=(hM.block (w2.heap.size+1) (by omega)).trans d2
    obtain ⟨e0,e1,e2⟩:=z5EY m1
    exact XNss WN HN j bk off ca (by omega) (by omega) (by omega) (by omega) amount HAM.out.1 HAM.out.2 ps HLEN.out HPX.out hj' w.heap.size (w2.heap.size+1) w2.heap.size (w.heap.size+1) M (by omega) (by omega) (by omega) (by omega) (by omega)
     e0 e1 e2 (by rw[Lib.cell_of_heap m4];rfl) (by rw[Lib.cell_of_heap m4];rfl) (by rw[Lib.cell_of_heap m3];rfl) (by rw[Lib.cell_of_heap m2];rfl) (fun i hi=>by
      obtain ⟨c0,c1,c2⟩:=hcell i hi
      rw[jD3W ps i hi] at c0 c1 c2
      exact ⟨(hwM.cell (p:=⟨bk,off+i*3,none⟩) hbl).trans c0,(hwM.cell (p:=⟨bk,off+i*3+1,none⟩) hbl).trans c1,(hwM.cell (p:=⟨bk,off+i*3+2,none⟩) hbl).trans c2⟩)
   ·rintro e w3 ⟨r,rfl,hr,hb3,hfr⟩
    clear p0 p1 p2
    rw[←HSL.out] at hr
    have hsl:(jz1R (WN:Nat) (HN:Nat) ps amount).length=ps.length:=by simp[jz1R]
    have HSLL:=hide hsl
    clear hsl
    replace hb3:=quJN hbZ hb3
    replace g3:=(hb3.block (w.heap.size+1+1) (by omega)).trans a3
    obtain ⟨z0,z1,z2⟩:=z5EY g3
    have f0:=Lib.frozen_of_heap g3 0
    have f1:=Lib.frozen_of_heap g3 1
    have f2:=Lib.frozen_of_heap g3 2
    have HR:=hide hr
    obtain ⟨ro,rc,rfl,_,_⟩:=hr
    have HFIN:=hide (zHqh (hB.trans (hb3.mono hB.size)) (show w.heap.size≤w.heap.size+1+1 by omega) (.int .i64 (WN:Nat)) (.int .i64 (HN:Nat)) (.slice ro (jz1R (WN:Nat) (HN:Nat) ps amount).length rc))
    have HPX2:=hide (HR.out.set3 hfr (show w.heap.size+1+1<Z.heap.size by omega) (.int .i64 (WN:Nat)) (.int .i64 (HN:Nat)) (.slice ro (jz1R (WN:Nat) (HN:Nat) ps amount).length rc))
    rw[HSLL.out] at HPX2 HFIN hfr
    rw[HSLL.out]
    go_wp2
    exact bodyPost_ret (v:=.tuple #[.agg #[.int .i64 (WN:Nat),.int .i64 (HN:Nat),.slice ro ps.length rc],.int .i64 0]) (by simp[results,Tryz.results278,go_sem,z0,z1,z2]) rfl ⟨_,rfl,HPX2.out,HFIN.out,hfr.mono (by omega)⟩
  ·have he:E=3:=by rw[←hE,joyM,if_pos hp,if_neg hm]
   have hm:XbQH amount=false:=by simpa using hm
   subst he
   clear hE
   go_enter Tryz.func278,Tryz.ntmps278
   go_wp2_with fail
   obtain ⟨a1,a2,a3⟩:=al3 w (Obj.cells #[.int .i64 W,.int .i64 H,.slice ao ps.length ca] 24) (Obj.cells #[.int .i64 amount] 3) (Obj.cells #[.int .i64 0,.int .i64 0,.slice none 0 0] 24)
   have hB:=be3 w (Obj.cells #[.int .i64 W,.int .i64 H,.slice ao ps.length ca] 24) (Obj.cells #[.int .i64 amount] 3) (Obj.cells #[.int .i64 0,.int .i64 0,.slice none 0 0] 24)
   have hs3:(((w.alloc (Obj.cells #[.int .i64 W,.int .i64 H,.slice ao ps.length ca] 24)).alloc (Obj.cells #[.int .i64 amount] 3)).alloc (Obj.cells #[.int .i64 0,.int .i64 0,.slice none 0 0] 24)).heap.size=w.heap.size+3:=by simp
   generalize ((w.alloc (Obj.cells #[.int .i64 W,.int .i64 H,.slice ao ps.length ca] 24)).alloc (Obj.cells #[.int .i64 amount] 3)).alloc (Obj.cells #[.int .i64 0,.int .i64 0,.slice none 0 0] 24)=U at *
   replace hs3:=Nat.le_of_eq hs3.symm
   refine (XDTU W H _ ps _ (HV.out.below hB (Nat.le_refl _))).mono ?_
   rintro e w1 ⟨rfl,hb1⟩
   rw[hp]
   have g1:=(hb1.block (w.heap.size) (by omega)).trans a1
   have g2:=(hb1.block (w.heap.size+1) (by omega)).trans a2
   have g3:=(hb1.block (w.heap.size+1+1) (by omega)).trans a3
   have l0:w1.cell? ⟨w.heap.size+1,0,none⟩=some (.int .i64 amount):=by rw[Lib.cell_of_heap g2];rfl
   go_wp2_with fail
   refine (Xfvu _ _).mono ?_
   rintro e w2 ⟨rfl,hb2⟩
   rw[hm]
   clear l0
   replace hb2:=quJN hb1 hb2
   replace g1:=(hb2.block (w.heap.size) (by omega)).trans a1
   replace g2:=(hb2.block (w.heap.size+1) (by omega)).trans a2
   replace g3:=(hb2.block (w.heap.size+1+1) (by omega)).trans a3
   obtain ⟨z0,z1,z2⟩:=z5EY g3
   have f0:=Lib.frozen_of_heap g3 0
   have f1:=Lib.frozen_of_heap g3 1
   have f2:=Lib.frozen_of_heap g3 2
   have HBL:=hb2
   have HFIN:=hide (zHqh (hB.trans (HBL.mono hB.size)) (show w.heap.size≤w.heap.size+1+1 by omega) (.int .i64 0) (.int .i64 0) (.slice none 0 0))
   go_wp2
   exact bodyPost_ret (v:=.tuple #[.agg #[.int .i64 0,.int .i64 0,.slice none 0 0],.int .i64 3]) (by simp[results,Tryz.results278,go_sem,z0,z1,z2]) rfl ⟨.slice none 0 0,rfl,IsPix.nil _,HFIN.out,Fresh.nil _⟩
 ·have he:E=1:=by rw[←hE,joyM,if_neg hp]
  have hp:picOk W H ps=false:=by simpa using hp
  subst he
  clear hE
  go_enter Tryz.func278,Tryz.ntmps278
  go_wp2_with fail
  obtain ⟨a1,a2,a3⟩:=al3 w (Obj.cells #[.int .i64 W,.int .i64 H,.slice ao ps.length ca] 24) (Obj.cells #[.int .i64 amount] 3) (Obj.cells #[.int .i64 0,.int .i64 0,.slice none 0 0] 24)
  have hB:=be3 w (Obj.cells #[.int .i64 W,.int .i64 H,.slice ao ps.length ca] 24) (Obj.cells #[.int .i64 amount] 3) (Obj.cells #[.int .i64 0,.int .i64 0,.slice none 0 0] 24)
  have hs3:(((w.alloc (Obj.cells #[.int .i64 W,.int .i64 H,.slice ao ps.length ca] 24)).alloc (Obj.cells #[.int .i64 amount] 3)).alloc (Obj.cells #[.int .i64 0,.int .i64 0,.slice none 0 0] 24)).heap.size=w.heap.size+3:=by simp
  generalize ((w.alloc (Obj.cells #[.int .i64 W,.int .i64 H,.slice ao ps.length ca] 24)).alloc (Obj.cells #[.int .i64 amount] 3)).alloc (Obj.cells #[.int .i64 0,.int .i64 0,.slice none 0 0] 24)=U at *
  replace hs3:=Nat.le_of_eq hs3.symm
  refine (XDTU W H _ ps _ (HV.out.below hB (Nat.le_refl _))).mono ?_
  rintro e w1 ⟨rfl,hb1⟩
  rw[hp]
  have g1:=(hb1.block (w.heap.size) (by omega)).trans a1
  have g2:=(hb1.block (w.heap.size+1) (by omega)).trans a2
  have g3:=(hb1.block (w.heap.size+1+1) (by omega)).trans a3
  obtain ⟨z0,z1,z2⟩:=z5EY g3
  have f0:=Lib.frozen_of_heap g3 0
  have f1:=Lib.frozen_of_heap g3 1
  have f2:=Lib.frozen_of_heap g3 2
  have HBL:=hb1
  have HFIN:=hide (zHqh (hB.trans (HBL.mono hB.size)) (show w.heap.size≤w.heap.size+1+1 by omega) (.int .i64 0) (.int .i64 0) (.slice none 0 0))
  go_wp2
  exact bodyPost_ret (v:=.tuple #[.agg #[.int .i64 0,.int .i64 0,.slice none 0 0],.int .i64 1]) (by simp[results,Tryz.results278,go_sem,z0,z1,z2]) rfl ⟨.slice none 0 0,rfl,IsPix.nil _,HFIN.out,Fresh.nil _⟩
end Go.Proofs.YtfjeonehdlphiaaGreatDoor

namespace Go.Proofs.YtfjeonehdlphiaaGreatDoor
set_option linter.unusedVariables false
open Go.RowKit
abbrev frP (W H:Int) (v:Value):Array Value:=#[.int .i64 W,.int .i64 H,v,.int .i64 0,.int .i64 0,.slice none 0 0]
abbrev frQ (W H:Int) (v:Value):Array Value:=#[.int .i64 0,.int .i64 0,.slice none 0 0,.int .i64 W,.int .i64 H,v]
theorem jcb2 {w:World} {b:Nat} {a0 a1 a2 a3 a4 a5:Value} {t:TypeId} {fr:Nat×Nat} (h:w.heap[b]?=some (.cells #[a0,a1,a2,a3,a4,a5] t fr)) :
  w.cell? ⟨b,0,none⟩=some a0∧w.cell? ⟨b,1,none⟩=some a1∧w.cell? ⟨b,2,none⟩=some a2∧w.cell? ⟨b,3,none⟩=some a3∧w.cell? ⟨b,4,none⟩=some a4∧w.cell? ⟨b,5,none⟩=some a5 :=
 ⟨by rw[Lib.cell_of_heap h];rfl,by rw[Lib.cell_of_heap h];rfl,by rw[Lib.cell_of_heap h];rfl,by rw[Lib.cell_of_heap h];rfl,by rw[Lib.cell_of_heap h];rfl,by rw[Lib.cell_of_heap h];rfl⟩
theorem jCvT.setRow {w:World} {v:Value} {xs:List Int} {B k:Nat} (h:jCvT w v xs) (hf:Fresh B v) (hk:k<B) (cs:Array Value):jCvT (w.setRow k cs) v xs :=
 h.other (by simp) (fun b hb=>setRow_other w k b cs hb) (hf.ne hk)
theorem IsPix.setRow {w:World} {v:Value} {xs:List Px} {B k:Nat} (h:IsPix w v xs) (hf:Fresh B v) (hk:k<B) (cs:Array Value):IsPix (w.setRow k cs) v xs :=
 h.other (by simp) (fun b hb=>setRow_other w k b cs hb) (hf.ne hk)
set_option maxRecDepth 100000 in
set_option maxHeartbeats 800000 in
theorem jrQv (W H:Int) (v:Value) (zs:List Int) (m:Nat→Int) (white:Int) (w:World) (hv:jCvT w v zs) (hE:levE W H zs m white=0) :
  Calls Tryz.prog 253 #[.agg #[.int .i64 (m 0),.int .i64 (m 1),.int .i64 (m 2),.int .i64 (m 3),.int .i64 white],.agg (frP W H v)] w fun e w'=>∃r,e=.returned (.tuple #[.agg (frP W H r),.int .i64 0])∧jCvT w' r (levL W zs m white)∧Below w.heap.size w w'∧Fresh w.heap.size r:=by
 have HV:=hide hv
 obtain ⟨ao,ca,rfl,_,_⟩:=hv
 obtain ⟨a1,a2,a3⟩:=al3 w (Obj.cells #[.int .i64 (m 0),.int .i64 (m 1),.int .i64 (m 2),.int .i64 (m 3),.int .i64 white] 240) (Obj.cells (frP W H (.slice ao zs.length ca)) 206) (Obj.cells #[.int .i64 0,.int .i64 0,.slice none 0 0,.int .i64 0,.int .i64 0,.slice none 0 0] 206)
 have HB:=hide (be3 w (Obj.cells #[.int .i64 (m 0),.int .i64 (m 1),.int .i64 (m 2),.int .i64 (m 3),.int .i64 white] 240) (Obj.cells (frP W H (.slice ao zs.length ca)) 206) (Obj.cells #[.int .i64 0,.int .i64 0,.slice none 0 0,.int .i64 0,.int .i64 0,.slice none 0 0] 206))
 have HC:=hide (XDBp W H _ zs m white _ (HV.out.below HB.out (Nat.le_refl _)))
 rw[hE,show okW 0 W=W from rfl,show okW 0 H=H from rfl,show okL 0 (levL W zs m white)=levL W zs m white from rfl] at HC
 obtain ⟨q0,q1,q2,q3,q4,q5⟩:=jcb2 a2
 have r0:=cell_of_row _ _ 0 _ _ _ a1
 have r1:=cell_of_row _ _ 1 _ _ _ a1
 have r2:=cell_of_row _ _ 2 _ _ _ a1
 have r3:=cell_of_row _ _ 3 _ _ _ a1
 have r4:=cell_of_row _ _ 4 _ _ _ a1
 simp only[List.getElem?_toArray,List.getElem?_cons_zero,List.getElem?_cons_succ] at r0 r1 r2 r3 r4
 go_enter Tryz.func253,Tryz.ntmps253
 go_wp2_with fail
 clear q0 q1 q2 q3 q4 q5 r0 r1 r2 r3 r4
 have hl3:=(Array.getElem?_eq_some_iff.1 a3).1
 generalize ((w.alloc (Obj.cells #[.int .i64 (m 0),.int .i64 (m 1),.int .i64 (m 2),.int .i64 (m 3),.int .i64 white] 240)).alloc (Obj.cells (frP W H (.slice ao zs.length ca)) 206)).alloc (Obj.cells #[.int .i64 0,.int .i64 0,.slice none 0 0,.int .i64 0,.int .i64 0,.slice none 0 0] 206)=U at *
 refine HC.out.mono ?_
 rintro e w1 ⟨r,rfl,hr,hb1,hfr⟩
 have HR:=hide hr
 obtain ⟨ro,rc,rfl,x1,x2⟩:=hr
 clear x1 x2
 generalize (levL W zs m white).length=N at *
 have t6:=al1 w1 (Obj.cells #[.int .i64 W,.int .i64 H,.slice ro N rc] 54)
 have hb2:=quJN hb1 (qUNz w1 (Obj.cells #[.int .i64 W,.int .i64 H,.slice ro N rc] 54))
 have HR2:=hide (HR.out.alloc (Obj.cells #[.int .i64 W,.int .i64 H,.slice ro N rc] 54))
 have b3:=(hb2.block _ hl3).trans a3
 obtain ⟨k0,k1,k2⟩:=z5EY t6
 have hsz:w.heap.size+2<U.heap.size:=hl3
 have HX:=hide (HR2.out.setRow hfr hsz (frP W H (.slice ro N rc)))
 have HF:=hide (below_setRow (g:=w.heap.size+2) (HB.out.trans (hb2.mono HB.out.size)) (by omega) (frP W H (.slice ro N rc)))
 have i1:(Tryz.prog.info? 206).map (·.size)=some (frP W H (.slice ro N rc)).size:=by kernel_rfl
 have i3:(frP W H (.slice ro N rc)).all (·.oneCell')=true:=by simp[Value.oneCell']
 have i4:(w1.alloc (Obj.cells #[.int .i64 W,.int .i64 H,.slice ro N rc] 54)).heap[w.heap.size+1+1]?=some (Obj.cells #[.int .i64 0,.int .i64 0,.slice none 0 0,.int .i64 0,.int .i64 0,.slice none 0 0] 206 (0,0)):=b3
 go_wp2_with (refine wpList_store_row rfl 206 _ _ rfl (w.heap.size+1+1) (frP W H (.slice ro N rc)) rfl rfl _ _ i4 i1 rfl i3 ?_)
 have hUw:=HB.out.size
 obtain ⟨z0,z1,z2,z3,z4,z5⟩:=jcb2 (setRow_heap _ _ _ (frP W H (.slice ro N rc)) _ _ i4)
 exact bodyPost_ret (v:=.tuple #[.agg (frP W H (.slice ro N rc)),.int .i64 0]) (by simp[results,Tryz.results253,go_sem,z0,z1,z2,z3,z4,z5]) rfl ⟨_,rfl,HX.out,HF.out,hfr.mono hUw⟩
set_option maxRecDepth 100000 in
set_option maxHeartbeats 800000 in
theorem qxTT (W H:Int) (v:Value) (zs:List Int) (lv:Value) (ls:List Pt) (hls:∀j,j<ls.length→ptWf (ptAt ls j)) (w:World) (hv:jCvT w v zs) (hlv:IsPts w lv ls) (hE:repE W H zs ls=0) :
  Calls Tryz.prog 258 #[.agg #[lv],.agg (frP W H v)] w fun e w'=>∃r,e=.returned (.tuple #[.agg (frP W H r),.int .i64 0])∧jCvT w' r (repL W H zs ls)∧Below w.heap.size w w'∧Fresh w.heap.size r:=by
 have HV:=hide hv
 obtain ⟨ao,ca,rfl,_,_⟩:=hv
 have HL:=hide hlv
 obtain ⟨lo,lc,rfl,_,_⟩:=hlv
 obtain ⟨a1,a2,a3⟩:=al3 w (Obj.cells #[.slice lo ls.length lc] 242) (Obj.cells (frP W H (.slice ao zs.length ca)) 206) (Obj.cells #[.int .i64 0,.int .i64 0,.slice none 0 0,.int .i64 0,.int .i64 0,.slice none 0 0] 206)
 have HB:=hide (be3 w (Obj.cells #[.slice lo ls.length lc] 242) (Obj.cells (frP W H (.slice ao zs.length ca)) 206) (Obj.cells #[.int .i64 0,.int .i64 0,.slice none 0 0,.int .i64 0,.int .i64 0,.slice none 0 0] 206))
 have HC:=hide (zXdr W H _ zs _ ls hls _ (HV.out.below HB.out (Nat.le_refl _)) (HL.out.below HB.out (Nat.le_refl _)))
 rw[hE,show okW 0 W=W from rfl,show okW 0 H=H from rfl,show okL 0 (repL W H zs ls)=repL W H zs ls from rfl] at HC
 obtain ⟨q0,q1,q2,q3,q4,q5⟩:=jcb2 a2
 have r0:=cell_of_row _ _ 0 _ _ _ a1
 simp only[List.getElem?_toArray,List.getElem?_cons_zero] at r0
 go_enter Tryz.func258,Tryz.ntmps258
 go_wp2_with fail
 clear q0 q1 q2 q3 q4 q5 r0
 have hl3:=(Array.getElem?_eq_some_iff.1 a3).1
 generalize ((w.alloc (Obj.cells #[.slice lo ls.length lc] 242)).alloc (Obj.cells (frP W H (.slice ao zs.length ca)) 206)).alloc (Obj.cells #[.int .i64 0,.int .i64 0,.slice none 0 0,.int .i64 0,.int .i64 0,.slice none 0 0] 206)=U at *
 refine HC.out.mono ?_
 rintro e w1 ⟨r,rfl,hr,hb1,hfr⟩
 have HR:=hide hr
 obtain ⟨ro,rc,rfl,x1,x2⟩:=hr
 clear x1 x2
 generalize (repL W H zs ls).length=N at *
 have t6:=al1 w1 (Obj.cells #[.int .i64 W,.int .i64 H,.slice ro N rc] 54)
 have hb2:=quJN hb1 (qUNz w1 (Obj.cells #[.int .i64 W,.int .i64 H,.slice ro N rc] 54))
 have HR2:=hide (HR.out.alloc (Obj.cells #[.int .i64 W,.int .i64 H,.slice ro N rc] 54))
 have b3:=(hb2.block _ hl3).trans a3
 obtain ⟨k0,k1,k2⟩:=z5EY t6
 have hsz:w.heap.size+2<U.heap.size:=hl3
 have HX:=hide (HR2.out.setRow hfr hsz (frP W H (.slice ro N rc)))
 have HF:=hide (below_setRow (g:=w.heap.size+2) (HB.out.trans (hb2.mono HB.out.size)) (by omega) (frP W H (.slice ro N rc)))
 have i1:(Tryz.prog.info? 206).map (·.size)=some (frP W H (.slice ro N rc)).size:=by kernel_rfl
 have i3:(frP W H (.slice ro N rc)).all (·.oneCell')=true:=by simp[Value.oneCell']
 have i4:(w1.alloc (Obj.cells #[.int .i64 W,.int .i64 H,.slice ro N rc] 54)).heap[w.heap.size+1+1]?=some (Obj.cells #[.int .i64 0,.int .i64 0,.slice none 0 0,.int .i64 0,.int .i64 0,.slice none 0 0] 206 (0,0)):=b3
 go_wp2_with (refine wpList_store_row rfl 206 _ _ rfl (w.heap.size+1+1) (frP W H (.slice ro N rc)) rfl rfl _ _ i4 i1 rfl i3 ?_)
 have hUw:=HB.out.size
 obtain ⟨z0,z1,z2,z3,z4,z5⟩:=jcb2 (setRow_heap _ _ _ (frP W H (.slice ro N rc)) _ _ i4)
 exact bodyPost_ret (v:=.tuple #[.agg (frP W H (.slice ro N rc)),.int .i64 0]) (by simp[results,Tryz.results258,go_sem,z0,z1,z2,z3,z4,z5]) rfl ⟨_,rfl,HX.out,HF.out,hfr.mono hUw⟩
set_option maxRecDepth 100000 in
set_option maxHeartbeats 800000 in
theorem qlQT (W H:Int) (v:Value) (zs:List Int) (phase:Int) (m:Nat→Int) (w:World) (hv:jCvT w v zs) (hE:gaiE W H zs phase m=0) :
  Calls Tryz.prog 264 #[.agg #[.int .i64 phase,.int .i64 (m 0),.int .i64 (m 1),.int .i64 (m 2)],.agg (frP W H v)] w fun e w'=>∃r,e=.returned (.tuple #[.agg (frP W H r),.int .i64 0])∧jCvT w' r (gaiL W zs phase m)∧Below w.heap.size w w'∧Fresh w.heap.size r:=by
 have HV:=hide hv
 obtain ⟨ao,ca,rfl,_,_⟩:=hv
 obtain ⟨a1,a2,a3⟩:=al3 w (Obj.cells #[.int .i64 phase,.int .i64 (m 0),.int .i64 (m 1),.int .i64 (m 2)] 244) (Obj.cells (frP W H (.slice ao zs.length ca)) 206) (Obj.cells #[.int .i64 0,.int .i64 0,.slice none 0 0,.int .i64 0,.int .i64 0,.slice none 0 0] 206)
 have HB:=hide (be3 w (Obj.cells #[.int .i64 phase,.int .i64 (m 0),.int .i64 (m 1),.int .i64 (m 2)] 244) (Obj.cells (frP W H (.slice ao zs.length ca)) 206) (Obj.cells #[.int .i64 0,.int .i64 0,.slice none 0 0,.int .i64 0,.int .i64 0,.slice none 0 0] 206))
 have HC:=hide (zHt1 W H _ zs phase m _ (HV.out.below HB.out (Nat.le_refl _)))
 rw[hE,show okW 0 W=W from rfl,show okW 0 H=H from rfl,show okL 0 (gaiL W zs phase m)=gaiL W zs phase m from rfl] at HC
 obtain ⟨q0,q1,q2,q3,q4,q5⟩:=jcb2 a2
 have r0:=cell_of_row _ _ 0 _ _ _ a1
 have r1:=cell_of_row _ _ 1 _ _ _ a1
 have r2:=cell_of_row _ _ 2 _ _ _ a1
 have r3:=cell_of_row _ _ 3 _ _ _ a1
 simp only[List.getElem?_toArray,List.getElem?_cons_zero,List.getElem?_cons_succ] at r0 r1 r2 r3
 go_enter Tryz.func264,Tryz.ntmps264
 go_wp2_with fail
 clear q0 q1 q2 q3 q4 q5 r0 r1 r2 r3
 have hl3:=(Array.getElem?_eq_some_iff.1 a3).1
 generalize ((w.alloc (Obj.cells #[.int .i64 phase,.int .i64 (m 0),.int .i64 (m 1),.int .i64 (m 2)] 244)).alloc (Obj.cells (frP W H (.slice ao zs.length ca)) 206)).alloc (Obj.cells #[.int .i64 0,.int .i64 0,.slice none 0 0,.int .i64 0,.int .i64 0,.slice none 0 0] 206)=U at *
 refine HC.out.mono ?_
 rintro e w1 ⟨r,rfl,hr,hb1,hfr⟩
 have HR:=hide hr
 obtain ⟨ro,rc,rfl,x1,x2⟩:=hr
 clear x1 x2
 generalize (gaiL W zs phase m).length=N at *
 have t6:=al1 w1 (Obj.cells #[.int .i64 W,.int .i64 H,.slice ro N rc] 54)
 have hb2:=quJN hb1 (qUNz w1 (Obj.cells #[.int .i64 W,.int .i64 H,.slice ro N rc] 54))
 have HR2:=hide (HR.out.alloc (Obj.cells #[.int .i64 W,.int .i64 H,.slice ro N rc] 54))
 have b3:=(hb2.block _ hl3).trans a3
 obtain ⟨k0,k1,k2⟩:=z5EY t6
 have hsz:w.heap.size+2<U.heap.size:=hl3
 have HX:=hide (HR2.out.setRow hfr hsz (frP W H (.slice ro N rc)))
 have HF:=hide (below_setRow (g:=w.heap.size+2) (HB.out.trans (hb2.mono HB.out.size)) (by omega) (frP W H (.slice ro N rc)))
 have i1:(Tryz.prog.info? 206).map (·.size)=some (frP W H (.slice ro N rc)).size:=by kernel_rfl
 have i3:(frP W H (.slice ro N rc)).all (·.oneCell')=true:=by simp[Value.oneCell']
 have i4:(w1.alloc (Obj.cells #[.int .i64 W,.int .i64 H,.slice ro N rc] 54)).heap[w.heap.size+1+1]?=some (Obj.cells #[.int .i64 0,.int .i64 0,.slice none 0 0,.int .i64 0,.int .i64 0,.slice none 0 0] 206 (0,0)):=b3
 go_wp2_with (refine wpList_store_row rfl 206 _ _ rfl (w.heap.size+1+1) (frP W H (.slice ro N rc)) rfl rfl _ _ i4 i1 rfl i3 ?_)
 have hUw:=HB.out.size
 obtain ⟨z0,z1,z2,z3,z4,z5⟩:=jcb2 (setRow_heap _ _ _ (frP W H (.slice ro N rc)) _ _ i4)
 exact bodyPost_ret (v:=.tuple #[.agg (frP W H (.slice ro N rc)),.int .i64 0]) (by simp[results,Tryz.results264,go_sem,z0,z1,z2,z3,z4,z5]) rfl ⟨_,rfl,HX.out,HF.out,hfr.mono hUw⟩
set_option maxRecDepth 100000 in
set_option maxHeartbeats 800000 in
theorem qSHV (W H:Int) (v:Value) (zs:List Int) (phase:Int) (w:World) (hv:jCvT w v zs) (hE:fillE W H zs phase=0) :
  Calls Tryz.prog 267 #[.agg #[.int .i64 phase],.agg (frP W H v)] w fun e w'=>∃r,e=.returned (.tuple #[.agg (frQ W H r),.int .i64 0])∧IsPix w' r (fillL W H zs phase)∧Below w.heap.size w w'∧Fresh w.heap.size r:=by
 have HV:=hide hv
 obtain ⟨ao,ca,rfl,_,_⟩:=hv
 obtain ⟨a1,a2,a3⟩:=al3 w (Obj.cells #[.int .i64 phase] 246) (Obj.cells (frP W H (.slice ao zs.length ca)) 206) (Obj.cells #[.int .i64 0,.int .i64 0,.slice none 0 0,.int .i64 0,.int .i64 0,.slice none 0 0] 206)
 have HB:=hide (be3 w (Obj.cells #[.int .i64 phase] 246) (Obj.cells (frP W H (.slice ao zs.length ca)) 206) (Obj.cells #[.int .i64 0,.int .i64 0,.slice none 0 0,.int .i64 0,.int .i64 0,.slice none 0 0] 206))
 have HC:=hide (q3wV W H _ zs phase _ (HV.out.below HB.out (Nat.le_refl _)))
 rw[hE,show okW 0 W=W from rfl,show okW 0 H=H from rfl,show okL 0 (fillL W H zs phase)=fillL W H zs phase from rfl] at HC
 obtain ⟨q0,q1,q2,q3,q4,q5⟩:=jcb2 a2
 have r0:=cell_of_row _ _ 0 _ _ _ a1
 simp only[List.getElem?_toArray,List.getElem?_cons_zero] at r0
 go_enter Tryz.func267,Tryz.ntmps267
 go_wp2_with fail
 clear q0 q1 q2 q3 q4 q5 r0
 have hl3:=(Array.getElem?_eq_some_iff.1 a3).1
 generalize ((w.alloc (Obj.cells #[.int .i64 phase] 246)).alloc (Obj.cells (frP W H (.slice ao zs.length ca)) 206)).alloc (Obj.cells #[.int .i64 0,.int .i64 0,.slice none 0 0,.int .i64 0,.int .i64 0,.slice none 0 0] 206)=U at *
 refine HC.out.mono ?_
 rintro e w1 ⟨r,rfl,hr,hb1,hfr⟩
 have HR:=hide hr
 obtain ⟨ro,rc,rfl,x1,x2⟩:=hr
 clear x1 x2
 generalize (fillL W H zs phase).length=N at *
 have t6:=al1 w1 (Obj.cells #[.int .i64 W,.int .i64 H,.slice ro N rc] 24)
 have hb2:=quJN hb1 (qUNz w1 (Obj.cells #[.int .i64 W,.int .i64 H,.slice ro N rc] 24))
 have HR2:=hide (HR.out.alloc (Obj.cells #[.int .i64 W,.int .i64 H,.slice ro N rc] 24))
 have b3:=(hb2.block _ hl3).trans a3
 obtain ⟨k0,k1,k2⟩:=z5EY t6
 have hsz:w.heap.size+2<U.heap.size:=hl3
 have HX:=hide (HR2.out.setRow hfr hsz (frQ W H (.slice ro N rc)))
 have HF:=hide (below_setRow (g:=w.heap.size+2) (HB.out.trans (hb2.mono HB.out.size)) (by omega) (frQ W H (.slice ro N rc)))
 have i1:(Tryz.prog.info? 206).map (·.size)=some (frQ W H (.slice ro N rc)).size:=by kernel_rfl
 have i3:(frQ W H (.slice ro N rc)).all (·.oneCell')=true:=by simp[Value.oneCell']
 have i4:(w1.alloc (Obj.cells #[.int .i64 W,.int .i64 H,.slice ro N rc] 24)).heap[w.heap.size+1+1]?=some (Obj.cells #[.int .i64 0,.int .i64 0,.slice none 0 0,.int .i64 0,.int .i64 0,.slice none 0 0] 206 (0,0)):=b3
 go_wp2_with (refine wpList_store_row rfl 206 _ _ rfl (w.heap.size+1+1) (frQ W H (.slice ro N rc)) rfl rfl _ _ i4 i1 rfl i3 ?_)
 have hUw:=HB.out.size
 obtain ⟨z0,z1,z2,z3,z4,z5⟩:=jcb2 (setRow_heap _ _ _ (frQ W H (.slice ro N rc)) _ _ i4)
 exact bodyPost_ret (v:=.tuple #[.agg (frQ W H (.slice ro N rc)),.int .i64 0]) (by simp[results,Tryz.results267,go_sem,z0,z1,z2,z3,z4,z5]) rfl ⟨_,rfl,HX.out,HF.out,hfr.mono hUw⟩
set_option maxRecDepth 100000 in
set_option maxHeartbeats 800000 in
theorem jpcW (W H:Int) (v:Value) (ps:List Px) (m:Nat→Int) (w:World) (hv:IsPix w v ps) (hE:mixE W H ps m=0) :
  Calls Tryz.prog 268 #[.agg #[.int .i64 (m 0),.int .i64 (m 1),.int .i64 (m 2),.int .i64 (m 3),.int .i64 (m 4),.int .i64 (m 5),.int .i64 (m 6),.int .i64 (m 7),.int .i64 (m 8)],.agg (frQ W H v)] w fun e w'=>∃r,e=.returned (.tuple #[.agg (frQ W H r),.int .i64 0])∧IsPix w' r (ps.map (mixP m))∧Below w.heap.size w w'∧Fresh w.heap.size r:=by
 have HV:=hide hv
 obtain ⟨ao,ca,rfl,_,_⟩:=hv
 obtain ⟨a1,a2,a3⟩:=al3 w (Obj.cells #[.int .i64 (m 0),.int .i64 (m 1),.int .i64 (m 2),.int .i64 (m 3),.int .i64 (m 4),.int .i64 (m 5),.int .i64 (m 6),.int .i64 (m 7),.int .i64 (m 8)] 248) (Obj.cells (frQ W H (.slice ao ps.length ca)) 206) (Obj.cells #[.int .i64 0,.int .i64 0,.slice none 0 0,.int .i64 0,.int .i64 0,.slice none 0 0] 206)
 have HB:=hide (be3 w (Obj.cells #[.int .i64 (m 0),.int .i64 (m 1),.int .i64 (m 2),.int .i64 (m 3),.int .i64 (m 4),.int .i64 (m 5),.int .i64 (m 6),.int .i64 (m 7),.int .i64 (m 8)] 248) (Obj.cells (frQ W H (.slice ao ps.length ca)) 206) (Obj.cells #[.int .i64 0,.int .i64 0,.slice none 0 0,.int .i64 0,.int .i64 0,.slice none 0 0] 206))
 have HC:=hide (jjtZ W H _ ps m _ (HV.out.below HB.out (Nat.le_refl _)))
 rw[hE,show okW 0 W=W from rfl,show okW 0 H=H from rfl,show okL 0 (ps.map (mixP m))=ps.map (mixP m) from rfl] at HC
 obtain ⟨q0,q1,q2,q3,q4,q5⟩:=jcb2 a2
 have r0:=cell_of_row _ _ 0 _ _ _ a1
 have r1:=cell_of_row _ _ 1 _ _ _ a1
 have r2:=cell_of_row _ _ 2 _ _ _ a1
 have r3:=cell_of_row _ _ 3 _ _ _ a1
 have r4:=cell_of_row _ _ 4 _ _ _ a1
 have r5:=cell_of_row _ _ 5 _ _ _ a1
 have r6:=cell_of_row _ _ 6 _ _ _ a1
 have r7:=cell_of_row _ _ 7 _ _ _ a1
 have r8:=cell_of_row _ _ 8 _ _ _ a1
 simp only[List.getElem?_toArray,List.getElem?_cons_zero,List.getElem?_cons_succ] at r0 r1 r2 r3 r4 r5 r6 r7 r8
 go_enter Tryz.func268,Tryz.ntmps268
 go_wp2_with fail
 clear q0 q1 q2 q3 q4 q5 r0 r1 r2 r3 r4 r5 r6 r7 r8
 have hl3:=(Array.getElem?_eq_some_iff.1 a3).1
 generalize ((w.alloc (Obj.cells #[.int .i64 (m 0),.int .i64 (m 1),.int .i64 (m 2),.int .i64 (m 3),.int .i64 (m 4),.int .i64 (m 5),.int .i64 (m 6),.int .i64 (m 7),.int .i64 (m 8)] 248)).alloc (Obj.cells (frQ W H (.slice ao ps.length ca)) 206)).alloc (Obj.cells #[.int .i64 0,.int .i64 0,.slice none 0 0,.int .i64 0,.int .i64 0,.slice none 0 0] 206)=U at *
 refine HC.out.mono ?_
 rintro e w1 ⟨r,rfl,hr,hb1,hfr⟩
 have HR:=hide hr
 obtain ⟨ro,rc,rfl,x1,x2⟩:=hr
 clear x1 x2
 generalize (ps.map (mixP m)).length=N at *
 have t6:=al1 w1 (Obj.cells #[.int .i64 W,.int .i64 H,.slice ro N rc] 24)
 have hb2:=quJN hb1 (qUNz w1 (Obj.cells #[.int .i64 W,.int .i64 H,.slice ro N rc] 24))
 have HR2:=hide (HR.out.alloc (Obj.cells #[.int .i64 W,.int .i64 H,.slice ro N rc] 24))
 have b3:=(hb2.block _ hl3).trans a3
 obtain ⟨k0,k1,k2⟩:=z5EY t6
 have hsz:w.heap.size+2<U.heap.size:=hl3
 have HX:=hide (HR2.out.setRow hfr hsz (frQ W H (.slice ro N rc)))
 have HF:=hide (below_setRow (g:=w.heap.size+2) (HB.out.trans (hb2.mono HB.out.size)) (by omega) (frQ W H (.slice ro N rc)))
 have i1:(Tryz.prog.info? 206).map (·.size)=some (frQ W H (.slice ro N rc)).size:=by kernel_rfl
 have i3:(frQ W H (.slice ro N rc)).all (·.oneCell')=true:=by simp[Value.oneCell']
 have i4:(w1.alloc (Obj.cells #[.int .i64 W,.int .i64 H,.slice ro N rc] 24)).heap[w.heap.size+1+1]?=some (Obj.cells #[.int .i64 0,.int .i64 0,.slice none 0 0,.int .i64 0,.int .i64 0,.slice none 0 0] 206 (0,0)):=b3
 go_wp2_with (refine wpList_store_row rfl 206 _ _ rfl (w.heap.size+1+1) (frQ W H (.slice ro N rc)) rfl rfl _ _ i4 i1 rfl i3 ?_)
 have hUw:=HB.out.size
 obtain ⟨z0,z1,z2,z3,z4,z5⟩:=jcb2 (setRow_heap _ _ _ (frQ W H (.slice ro N rc)) _ _ i4)
 exact bodyPost_ret (v:=.tuple #[.agg (frQ W H (.slice ro N rc)),.int .i64 0]) (by simp[results,Tryz.results268,go_sem,z0,z1,z2,z3,z4,z5]) rfl ⟨_,rfl,HX.out,HF.out,hfr.mono hUw⟩
set_option maxRecDepth 100000 in
set_option maxHeartbeats 800000 in
theorem XKl8 (W H:Int) (v:Value) (ps:List Px) (lv:Value) (ls:List Pt) (w:World) (hv:IsPix w v ps) (hlv:IsPts w lv ls) (hE:bendE W H ps ls=0) :
  Calls Tryz.prog 274 #[.agg #[lv],.agg (frQ W H v)] w fun e w'=>∃r,e=.returned (.tuple #[.agg (frQ W H r),.int .i64 0])∧IsPix w' r (ps.map (bendP ls))∧Below w.heap.size w w'∧Fresh w.heap.size r:=by
 have HV:=hide hv
 obtain ⟨ao,ca,rfl,_,_⟩:=hv
 have HL:=hide hlv
 obtain ⟨lo,lc,rfl,_,_⟩:=hlv
 obtain ⟨a1,a2,a3⟩:=al3 w (Obj.cells #[.slice lo ls.length lc] 250) (Obj.cells (frQ W H (.slice ao ps.length ca)) 206) (Obj.cells #[.int .i64 0,.int .i64 0,.slice none 0 0,.int .i64 0,.int .i64 0,.slice none 0 0] 206)
 have HB:=hide (be3 w (Obj.cells #[.slice lo ls.length lc] 250) (Obj.cells (frQ W H (.slice ao ps.length ca)) 206) (Obj.cells #[.int .i64 0,.int .i64 0,.slice none 0 0,.int .i64 0,.int .i64 0,.slice none 0 0] 206))
 have HC:=hide (q6yx W H _ ps _ ls _ (HV.out.below HB.out (Nat.le_refl _)) (HL.out.below HB.out (Nat.le_refl _)))
 rw[hE,show okW 0 W=W from rfl,show okW 0 H=H from rfl,show okL 0 (ps.map (bendP ls))=ps.map (bendP ls) from rfl] at HC
 obtain ⟨q0,q1,q2,q3,q4,q5⟩:=jcb2 a2
 have r0:=cell_of_row _ _ 0 _ _ _ a1
 simp only[List.getElem?_toArray,List.getElem?_cons_zero] at r0
 go_enter Tryz.func274,Tryz.ntmps274
 go_wp2_with fail
 clear q0 q1 q2 q3 q4 q5 r0
 have hl3:=(Array.getElem?_eq_some_iff.1 a3).1
 generalize ((w.alloc (Obj.cells #[.slice lo ls.length lc] 250)).alloc (Obj.cells (frQ W H (.slice ao ps.length ca)) 206)).alloc (Obj.cells #[.int .i64 0,.int .i64 0,.slice none 0 0,.int .i64 0,.int .i64 0,.slice none 0 0] 206)=U at *
 refine HC.out.mono ?_
 rintro e w1 ⟨r,rfl,hr,hb1,hfr⟩
 have HR:=hide hr
 obtain ⟨ro,rc,rfl,x1,x2⟩:=hr
 clear x1 x2
 generalize (ps.map (bendP ls)).length=N at *
 have t6:=al1 w1 (Obj.cells #[.int .i64 W,.int .i64 H,.slice ro N rc] 24)
 have hb2:=quJN hb1 (qUNz w1 (Obj.cells #[.int .i64 W,.int .i64 H,.slice ro N rc] 24))
 have HR2:=hide (HR.out.alloc (Obj.cells #[.int .i64 W,.int .i64 H,.slice ro N rc] 24))
 have b3:=(hb2.block _ hl3).trans a3
 obtain ⟨k0,k1,k2⟩:=z5EY t6
 have hsz:w.heap.size+2<U.heap.size:=hl3
 have HX:=hide (HR2.out.setRow hfr hsz (frQ W H (.slice ro N rc)))
 have HF:=hide (below_setRow (g:=w.heap.size+2) (HB.out.trans (hb2.mono HB.out.size)) (by omega) (frQ W H (.slice ro N rc)))
 have i1:(Tryz.prog.info? 206).map (·.size)=some (frQ W H (.slice ro N rc)).size:=by kernel_rfl
 have i3:(frQ W H (.slice ro N rc)).all (·.oneCell')=true:=by simp[Value.oneCell']
 have i4:(w1.alloc (Obj.cells #[.int .i64 W,.int .i64 H,.slice ro N rc] 24)).heap[w.heap.size+1+1]?=some (Obj.cells #[.int .i64 0,.int .i64 0,.slice none 0 0,.int .i64 0,.int .i64 0,.slice none 0 0] 206 (0,0)):=b3
 go_wp2_with (refine wpList_store_row rfl 206 _ _ rfl (w.heap.size+1+1) (frQ W H (.slice ro N rc)) rfl rfl _ _ i4 i1 rfl i3 ?_)
 have hUw:=HB.out.size
 obtain ⟨z0,z1,z2,z3,z4,z5⟩:=jcb2 (setRow_heap _ _ _ (frQ W H (.slice ro N rc)) _ _ i4)
 exact bodyPost_ret (v:=.tuple #[.agg (frQ W H (.slice ro N rc)),.int .i64 0]) (by simp[results,Tryz.results274,go_sem,z0,z1,z2,z3,z4,z5]) rfl ⟨_,rfl,HX.out,HF.out,hfr.mono hUw⟩
set_option maxRecDepth 100000 in
set_option maxHeartbeats 800000 in
theorem qOWc (W H:Int) (v:Value) (ps:List Px) (amount:Int) (w:World) (hv:IsPix w v ps) (hE:joyM W H ps amount=0) :
  Calls Tryz.prog 277 #[.agg #[.int .i64 amount],.agg (frQ W H v)] w fun e w'=>∃r,e=.returned (.tuple #[.agg (frQ W H r),.int .i64 0])∧IsPix w' r (jz1R W H ps amount)∧Below w.heap.size w w'∧Fresh w.heap.size r:=by
 have HV:=hide hv
 obtain ⟨ao,ca,rfl,_,_⟩:=hv
 obtain ⟨a1,a2,a3⟩:=al3 w (Obj.cells #[.int .i64 amount] 252) (Obj.cells (frQ W H (.slice ao ps.length ca)) 206) (Obj.cells #[.int .i64 0,.int .i64 0,.slice none 0 0,.int .i64 0,.int .i64 0,.slice none 0 0] 206)
 have HB:=hide (be3 w (Obj.cells #[.int .i64 amount] 252) (Obj.cells (frQ W H (.slice ao ps.length ca)) 206) (Obj.cells #[.int .i64 0,.int .i64 0,.slice none 0 0,.int .i64 0,.int .i64 0,.slice none 0 0] 206))
 have HC:=hide (qVlB W H _ ps amount _ (HV.out.below HB.out (Nat.le_refl _)))
 rw[hE,show okW 0 W=W from rfl,show okW 0 H=H from rfl,show okL 0 (jz1R W H ps amount)=jz1R W H ps amount from rfl] at HC
 obtain ⟨q0,q1,q2,q3,q4,q5⟩:=jcb2 a2
 have r0:=cell_of_row _ _ 0 _ _ _ a1
 simp only[List.getElem?_toArray,List.getElem?_cons_zero] at r0
 go_enter Tryz.func277,Tryz.ntmps277
 go_wp2_with fail
 clear q0 q1 q2 q3 q4 q5 r0
 have hl3:=(Array.getElem?_eq_some_iff.1 a3).1
 generalize ((w.alloc (Obj.cells #[.int .i64 amount] 252)).alloc (Obj.cells (frQ W H (.slice ao ps.length ca)) 206)).alloc (Obj.cells #[.int .i64 0,.int .i64 0,.slice none 0 0,.int .i64 0,.int .i64 0,.slice none 0 0] 206)=U at *
 refine HC.out.mono ?_
 rintro e w1 ⟨r,rfl,hr,hb1,hfr⟩
 have HR:=hide hr
 obtain ⟨ro,rc,rfl,x1,x2⟩:=hr
 clear x1 x2
 generalize (jz1R W H ps amount).length=N at *
 have t6:=al1 w1 (Obj.cells #[.int .i64 W,.int .i64 H,.slice ro N rc] 24)
 have hb2:=quJN hb1 (qUNz w1 (Obj.cells #[.int .i64 W,.int .i64 H,.slice ro N rc] 24))
 have HR2:=hide (HR.out.alloc (Obj.cells #[.int .i64 W,.int .i64 H,.slice ro N rc] 24))
 have b3:=(hb2.block _ hl3).trans a3
 obtain ⟨k0,k1,k2⟩:=z5EY t6
 have hsz:w.heap.size+2<U.heap.size:=hl3
 have HX:=hide (HR2.out.setRow hfr hsz (frQ W H (.slice ro N rc)))
 have HF:=hide (below_setRow (g:=w.heap.size+2) (HB.out.trans (hb2.mono HB.out.size)) (by omega) (frQ W H (.slice ro N rc)))
 have i1:(Tryz.prog.info? 206).map (·.size)=some (frQ W H (.slice ro N rc)).size:=by kernel_rfl
 have i3:(frQ W H (.slice ro N rc)).all (·.oneCell')=true:=by simp[Value.oneCell']
 have i4:(w1.alloc (Obj.cells #[.int .i64 W,.int .i64 H,.slice ro N rc] 24)).heap[w.heap.size+1+1]?=some (Obj.cells #[.int .i64 0,.int .i64 0,.slice none 0 0,.int .i64 0,.int .i64 0,.slice none 0 0] 206 (0,0)):=b3
 go_wp2_with (refine wpList_store_row rfl 206 _ _ rfl (w.heap.size+1+1) (frQ W H (.slice ro N rc)) rfl rfl _ _ i4 i1 rfl i3 ?_)
 have hUw:=HB.out.size
 obtain ⟨z0,z1,z2,z3,z4,z5⟩:=jcb2 (setRow_heap _ _ _ (frQ W H (.slice ro N rc)) _ _ i4)
 exact bodyPost_ret (v:=.tuple #[.agg (frQ W H (.slice ro N rc)),.int .i64 0]) (by simp[results,Tryz.results277,go_sem,z0,z1,z2,z3,z4,z5]) rfl ⟨_,rfl,HX.out,HF.out,hfr.mono hUw⟩
end Go.Proofs.YtfjeonehdlphiaaGreatDoor

namespace Go.Proofs.YtfjeonehdlphiaaGreatDoor
set_option linter.unusedVariables false
open Go.RowKit
theorem IsPix.cells {w:World} {v:Value} {ps:List Px} (h:IsPix w v ps) (hn:1≤ps.length):∃bk off ca,v=.slice (some ⟨bk,off,none⟩) ps.length ca∧bk<w.heap.size∧∀j,j<ps.length→w.cell? ⟨bk,off+j*3,none⟩=some (.int .i64 (pxAt ps j).1)∧w.cell? ⟨bk,off+j*3+1,none⟩=some (.int .i64 (pxAt ps j).2.1)∧w.cell? ⟨bk,off+j*3+2,none⟩=some (.int .i64 (pxAt ps j).2.2):=by
 obtain ⟨ao,ca,rfl,_,h⟩:=h
 rcases h with h|⟨b,off,rfl,hlt,hc⟩
 ·subst h;simp at hn
 ·exact ⟨b,off,ca,rfl,hlt,fun j hj=>by
   have:=hc j hj
   rw[jD3W ps j hj] at this
   exact this⟩
end Go.Proofs.YtfjeonehdlphiaaGreatDoor
