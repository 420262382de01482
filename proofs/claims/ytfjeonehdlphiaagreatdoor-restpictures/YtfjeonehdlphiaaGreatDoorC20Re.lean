/- Re: part 20 of what the proofs need. -/
import Derived.Test.YtfjeonehdlphiaaGreatDoorC2Re
import Derived.Test.YtfjeonehdlphiaaGreatDoorC3Re
import Derived.Test.YtfjeonehdlphiaaGreatDoorC7Re
import Derived.Test.YtfjeonehdlphiaaGreatDoorC19Re
open Go.Obj renaming cells → ka
open Array renaming getElem?_eq_some_iff → kb
open Go.Lib renaming frozen_of_heap → kc, cell_of_heap → kd
open Go.Act renaming put → ke
open Nat renaming le_refl → kf, lt_of_lt_of_le → kh, le_trans → ki, mul_le_mul_right → kk, succ_mul → kl, mul_comm → km
open Int renaming eq_ofNat_of_zero_le → kg, toNat_natCast → kj
set_option linter.unusedVariables false
set_option maxHeartbeats 4000000
set_option maxRecDepth 100000
namespace Go.Proofs.YtfjeonehdlphiaaGreatDoor
open Go.RowKit Go.Shelf
attribute [local go_sem] Oper.semAt_some
def mStep {N:Nat} (zs:List Int) (W H:Nat) (px py:Fin N→Int) (cnt:Fin N→Bool) (s:Int×Nat) (x:Fin N):Int×Nat :=
 if hasB W H (px x) (py x)=true∧cnt x=true then (s.1+zAt zs ((py x).toNat*W+(px x).toNat),s.2+1) else s
def mF {N:Nat} (zs:List Int) (W H:Nat) (px py:Fin N→Int) (cnt:Fin N→Bool) (pre:List (Fin N)):Int×Nat:=pre.foldl (mStep zs W H px py cnt) (0,0)
theorem zkIF {N:Nat} (zs:List Int) (W H:Nat) (px py:Fin N→Int) (cnt:Fin N→Bool) (pre:List (Fin N)) (x:Fin N):mF zs W H px py cnt (pre++[x])=mStep zs W H px py cnt (mF zs W H px py cnt pre) x:=by simp[mF]
theorem zVKI {N:Nat} {zs:List Int} (h:allIn 0 65535 zs=true) (W H:Nat) (px py:Fin N→Int) (cnt:Fin N→Bool) (pre:List (Fin N)) (s:Int×Nat) (n:Nat) (h1:0≤s.1) (h2:s.1≤s.2*65535) (h3:s.2≤n) :
  0≤(pre.foldl (mStep zs W H px py cnt) s).1∧(pre.foldl (mStep zs W H px py cnt) s).1≤(pre.foldl (mStep zs W H px py cnt) s).2*65535∧(pre.foldl (mStep zs W H px py cnt) s).2≤n+pre.length:=by
 induction pre generalizing s n with
 | nil=>exact ⟨h1,h2,h3⟩
 | cons x pre ih =>
  simp only[List.foldl_cons,List.length_cons]
  have hz:=XWrv h ((py x).toNat*W+(px x).toNat)
  have hs:0≤(mStep zs W H px py cnt s x).1∧(mStep zs W H px py cnt s x).1≤(mStep zs W H px py cnt s x).2*65535∧(mStep zs W H px py cnt s x).2≤n+1:=by
   unfold mStep
   split
   ·refine ⟨?_,?_,?_⟩
    ·show 0≤s.1+zAt zs ((py x).toNat*W+(px x).toNat);omega
    ·show s.1+zAt zs ((py x).toNat*W+(px x).toNat)≤((s.2+1:Nat):Int)*65535;omega
    ·show s.2+1≤n+1;omega
   ·exact ⟨h1,h2,by omega⟩
  have:=ih (mStep zs W H px py cnt s x) (n+1) hs.1 hs.2.1 hs.2.2
  refine ⟨this.1,this.2.1,by omega⟩
def meanV {N:Nat} (zs:List Int) (W H:Nat) (px py:Fin N→Int) (cnt:Fin N→Bool):Int :=
 if (mF zs W H px py cnt (List.finRange N)).2=0 then 0 else (mF zs W H px py cnt (List.finRange N)).1 / ((mF zs W H px py cnt (List.finRange N)).2:Int)
theorem qkM9 (N W H bk off ca:Nat) (hN:N≤8) (hW1:1≤W) (hW:W≤64) (hH1:1≤H) (hH:H≤64) (zs:List Int) (hlen:zs.length=H*W) (hzs:allIn 0 65535 zs=true) (gf cf Bs:Nat) (lb caps:Array Value) (px py:Fin N→Int) (cnt:Fin N→Bool) (w:World)
  (egg:∀args w,(callFunc gf args).run Tryz.prog w=.ok (.enter gf args) w) (egc:∀args w,(callFunc cf args).run Tryz.prog w=.ok (.enter cf args) w) (hBs:Bs<w.heap.size)
  (hbk:bk<w.heap.size) (hcell:∀j,j<zs.length→w.cell? ⟨bk,off+j,none⟩=some (.int .i64 (zAt zs j)))
  (hseq:∀V,Below w.heap.size w V→SeqStopsK Fence.wide (3-1) Tryz.prog gf lb (fun x:Fin N=>#[Value.agg #[.int .i64 (px x),.int .i64 (py x)]]) (KeepB Bs) (fun ys=>ys=List.finRange N) (fun pre=>pre <+: List.finRange N) N V)
  (hcnt:∀(x:Fin N) (V:World),hasB W H (px x) (py x)=true→Below w.heap.size w V→Calls Tryz.prog cf (#[.agg #[.int .i64 (px x),.int .i64 (py x)]]++caps) V fun e V'=>e=.returned (.bool (cnt x))∧Below V.heap.size V V') :
  Calls Tryz.prog 127 #[.agg #[.int .i64 W,.int .i64 H,.slice (some ⟨bk,off,none⟩) zs.length ca],.func (.func gf) #[] lb,.func (.func cf) #[] caps] w fun e w'=>e=.returned (.int .i64 (meanV zs W H px py cnt))∧Below w.heap.size w w':=by
 have hl4:zs.length≤4096:=by rw[hlen];exact ki (Nat.mul_le_mul hH hW) (by decide)
 have HLEN:=hide hlen
 have HZS:=hide hzs
 have HC:=hide hcell
 have HSEQ:=hide hseq
 have HCNT:=hide hcnt
 clear hlen hzs hcell hseq hcnt
 refine (callsIn_wide (n:=3)).1 ?_
 refine callsIn_of_wp_marks Tryz.func127 rfl trivial ?_ rfl
 simp only[Tryz.ntmps127,List.size_toArray,List.length_cons,List.length_nil,Nat.reduceAdd,Nat.reduceSub,Array.replicate_succ,Array.replicate_zero,List.push_toArray,List.append_toArray,List.nil_append,List.cons_append]
 gi_wp2_with fail
 obtain ⟨a1,a2,a3,a4⟩:=al4 w (ka #[.int .i64 W,.int .i64 H,.slice (some ⟨bk,off,none⟩) zs.length ca] 54) (ka #[.func (.func cf) #[] caps] 176) (ka #[.int .i64 W,.int .i64 H] 95) (ka #[.int .i64 0] 3)
 have hB4:=be4 w (ka #[.int .i64 W,.int .i64 H,.slice (some ⟨bk,off,none⟩) zs.length ca] 54) (ka #[.func (.func cf) #[] caps] 176) (ka #[.int .i64 W,.int .i64 H] 95) (ka #[.int .i64 0] 3)
 have hs4:((((w.alloc (ka #[.int .i64 W,.int .i64 H,.slice (some ⟨bk,off,none⟩) zs.length ca] 54)).alloc (ka #[.func (.func cf) #[] caps] 176)).alloc (ka #[.int .i64 W,.int .i64 H] 95)).alloc (ka #[.int .i64 0] 3)).heap.size=w.heap.size+4:=by simp
 generalize (((w.alloc (ka #[.int .i64 W,.int .i64 H,.slice (some ⟨bk,off,none⟩) zs.length ca] 54)).alloc (ka #[.func (.func cf) #[] caps] 176)).alloc (ka #[.int .i64 W,.int .i64 H] 95)).alloc (ka #[.int .i64 0] 3)=U4 at *
 have b1:=(Below.heap_alloc U4 (ka #[.int .i64 0] 3) w.heap.size (by omega)).trans a1
 have b2:=(Below.heap_alloc U4 (ka #[.int .i64 0] 3) (w.heap.size+1) (by omega)).trans a2
 have b3:=(Below.heap_alloc U4 (ka #[.int .i64 0] 3) (w.heap.size+2) (by omega)).trans a3
 have b4:=(Below.heap_alloc U4 (ka #[.int .i64 0] 3) (w.heap.size+3) (by omega)).trans a4
 have b5:(U4.alloc (ka #[.int .i64 0] 3)).heap[w.heap.size+4]?=some (ka #[.int .i64 0] 3):=by have h:=al1 U4 (ka #[.int .i64 0] 3);rw[hs4] at h;exact h
 have hB0:=quJN hB4 (qUNz U4 (ka #[.int .i64 0] 3))
 have hs0:w.heap.size+5≤(U4.alloc (ka #[.int .i64 0] 3)).heap.size:=by simp;omega
 clear a1 a2 a3 a4 hB4 hs4
 generalize U4.alloc (ka #[.int .i64 0] 3)=W0 at *
 refine wpIn_rangeFunc_ownH (α:=Fin N) rfl (show 1≤3 by omega) (gf:=gf) (lb:=lb) rfl trivial egg
  (HSEQ.out W0 hB0) (fun {A B C} h k=>h.trans' k) (fun X l o o' hl _ _ _=>qMCQ (by omega)) (Below.refl _ _) (fun _=>rfl)
  (fun pre W'=>W'.heap[w.heap.size+3]?=some (.cells #[.int .i64 (mF zs W H px py cnt pre).1] 3 (0,0))∧W'.heap[w.heap.size+4]?=some (.cells #[.int .i64 ((mF zs W H px py cnt pre).2:Nat)] 3 (0,0))∧W'.heap[w.heap.size]?=some (.cells #[.int .i64 W,.int .i64 H,.slice (some ⟨bk,off,none⟩) zs.length ca] 54 (0,0))∧W'.heap[w.heap.size+1]?=some (.cells #[.func (.func cf) #[] caps] 176 (0,0))∧W'.heap[w.heap.size+2]?=some (.cells #[.int .i64 W,.int .i64 H] 95 (0,0))∧Below w.heap.size w W')
  (fun _ _ _=>False)
  (fun s X Y row ⟨c1,c2,c3,c4,c5,c6⟩ hg hr=>⟨qLYA hg hr c1,qLYA hg hr c2,qLYA hg hr c3,qLYA hg hr c4,qLYA hg hr c5,ownFrom_below (β:=Unit) (kf _) (by omega) () X Y row c6 hg hr⟩)
  (fun _ _ _ _ _ hs _ _=>hs)
  ⟨b4,b5,b1,b2,b3,hB0⟩
  (fun x a' W'=>∃Bx,w.heap.size+5≤Bx∧W'.heap[Bx]?=some (.cells #[.int .i64 (px x),.int .i64 (py x)] 97 (0,0))∧a'={ tmps:=#[.agg #[.int .i64 W,.int .i64 H,.slice (some ⟨bk,off,none⟩) zs.length ca],.func (.func gf) #[] lb,.func (.func cf) #[] caps,.pointer (some ⟨w.heap.size,0,none⟩),undef,.pointer (some ⟨w.heap.size+1,0,none⟩),.int .i64 0,.pointer (some ⟨w.heap.size+1+1,0,none⟩),.pointer (some ⟨w.heap.size+1+1+1,0,none⟩),.pointer (some ⟨w.heap.size+1+1+1+1,0,none⟩),.pointer (some ⟨Bx,0,none⟩),.pointer (some ⟨w.heap.size,0,none⟩),.int .i64 W,.pointer (some ⟨w.heap.size,1,none⟩),.int .i64 H,.agg #[.int .i64 W,.int .i64 H],.func (.func gf) #[] lb,.agg #[.int .i64 (px x),.int .i64 (py x)],undef,undef,undef,undef,undef,undef,undef,undef,undef,undef,undef,undef,undef,undef,undef,undef,undef,undef,undef,undef,undef,undef,undef,undef],defers:=[] })
  (fun x a' _ X Y row ⟨Bx,c1,c2,c3⟩ hg hr=>⟨Bx,c1,qLYA hg hr c2,c3⟩)
  ?assign ?body ?done ?stop
 case assign =>
  rintro l pre x W' K ⟨i1,i2,i3,i4,i5,i6⟩ hK
  have hl1:=(kb.1 i1).1
  have hl2:=(kb.1 i2).1
  have hl3:=(kb.1 i3).1
  have hl4:=(kb.1 i4).1
  have hl5:=(kb.1 i5).1
  have hl6:=i6.size
  gi_wp2
  exact hK _ _ ((KeepsOthers.alloc _ _).from _) (Below.heap_alloc _ _ _ (by omega)) ⟨(Below.heap_alloc _ _ _ hl1).trans i1,(Below.heap_alloc _ _ _ hl2).trans i2,(Below.heap_alloc _ _ _ hl3).trans i3,(Below.heap_alloc _ _ _ hl4).trans i4,(Below.heap_alloc _ _ _ hl5).trans i5,i6.alloc hl6 _⟩ ⟨W'.heap.size,by omega,al1 W' _,rfl⟩
 case body =>
  rintro l pre x a' W' hl ⟨rr,hrr⟩ ⟨i1,i2,i3,i4,i5,i6⟩ ⟨Bx,hBx,bX,rfl⟩ hlt
  have HSN:=hide (zkIF zs W H px py cnt pre x)
  have hr:0≤(mF zs W H px py cnt pre).1∧(mF zs W H px py cnt pre).1≤(mF zs W H px py cnt pre).2*65535∧(mF zs W H px py cnt pre).2≤0+pre.length:=zVKI HZS.out W H px py cnt pre (0,0) 0 (Int.le_refl _) (by decide) (kf _)
  obtain ⟨⟨sm,nn⟩,hsn⟩:∃t,mF zs W H px py cnt pre=t:=⟨_,rfl⟩
  rw[hsn] at i1 i2 HSN hr
  obtain ⟨hr1,hr2,hr3⟩:=hr
  simp only at hr1 hr2 hr3 i1 i2
  clear hsn
  have HCN:=hide (fun V h1 h2=>HCNT.out x V h1 h2)
  have HMS:=hide (show mStep zs W H px py cnt (sm,nn) x=if hasB W H (px x) (py x)=true∧cnt x=true then (sm+zAt zs ((py x).toNat*W+(px x).toNat),nn+1) else (sm,nn) from rfl)
  obtain ⟨xa,hxa⟩:∃xa,px x=xa:=⟨_,rfl⟩
  obtain ⟨yb,hyb⟩:∃yb,py x=yb:=⟨_,rfl⟩
  obtain ⟨cx,hcx⟩:∃cx,cnt x=cx:=⟨_,rfl⟩
  rw[hxa,hyb] at bX ⊢
  rw[hxa,hyb,hcx] at HCN HMS
  clear hxa hyb hcx
  have hl1:=(kb.1 i1).1
  have hl2:=(kb.1 i2).1
  have hl3:=(kb.1 i3).1
  have hl4:=(kb.1 i4).1
  have hl5:=(kb.1 i5).1
  have hlX:=(kb.1 bX).1
  have hsz:=i6.size
  have g0:W'.cell? ⟨w.heap.size+1+1,0,none⟩=some (.int .i64 W):=by rw[kd (b:=w.heap.size+1+1) i5];rfl
  have g1:W'.cell? ⟨w.heap.size+1+1,1,none⟩=some (.int .i64 H):=by rw[kd (b:=w.heap.size+1+1) i5];rfl
  have x0:W'.cell? ⟨Bx,0,none⟩=some (.int .i64 xa):=by rw[kd bX];rfl
  have x1:W'.cell? ⟨Bx,1,none⟩=some (.int .i64 yb):=by rw[kd bX];rfl
  have HEND0:=hide (show ∀V,Below W'.heap.size W' V→mF zs W H px py cnt (pre++[x])=(sm,nn)→KeepsFrom W0.heap.size W' V∧KeepB Bs W' V∧(V.heap[w.heap.size+3]?=some (.cells #[.int .i64 (mF zs W H px py cnt (pre++[x])).1] 3 (0,0))∧V.heap[w.heap.size+4]?=some (.cells #[.int .i64 ((mF zs W H px py cnt (pre++[x])).2:Nat)] 3 (0,0))∧V.heap[w.heap.size]?=some (.cells #[.int .i64 W,.int .i64 H,.slice (some ⟨bk,off,none⟩) zs.length ca] 54 (0,0))∧V.heap[w.heap.size+1]?=some (.cells #[.func (.func cf) #[] caps] 176 (0,0))∧V.heap[w.heap.size+2]?=some (.cells #[.int .i64 W,.int .i64 H] 95 (0,0))∧Below w.heap.size w V) from fun V h hm=>by
   rw[hm]
   exact ⟨⟨h.size,fun k o _ hk _=>(h.block k (kb.1 hk).1).trans hk⟩,h.block Bs (by omega),(h.block _ hl1).trans i1,(h.block _ hl2).trans i2,(h.block _ hl3).trans i3,(h.block _ hl4).trans i4,(h.block _ hl5).trans i5,i6.trans (h.mono hsz)⟩)
  have HEND1:=hide (show ∀V (z:Int),Below W'.heap.size W' V→mF zs W H px py cnt (pre++[x])=(sm+z,nn+1)→KeepsFrom W0.heap.size W' ((V.setCell ⟨w.heap.size+1+1+1,0,none⟩ (.int .i64 (sm+z))).setCell ⟨w.heap.size+1+1+1+1,0,none⟩ (.int .i64 ((nn+1:Nat):Int)))∧KeepB Bs W' ((V.setCell ⟨w.heap.size+1+1+1,0,none⟩ (.int .i64 (sm+z))).setCell ⟨w.heap.size+1+1+1+1,0,none⟩ (.int .i64 ((nn+1:Nat):Int)))∧(((V.setCell ⟨w.heap.size+1+1+1,0,none⟩ (.int .i64 (sm+z))).setCell ⟨w.heap.size+1+1+1+1,0,none⟩ (.int .i64 ((nn+1:Nat):Int))).heap[w.heap.size+3]?=some (.cells #[.int .i64 (mF zs W H px py cnt (pre++[x])).1] 3 (0,0))∧((V.setCell ⟨w.heap.size+1+1+1,0,none⟩ (.int .i64 (sm+z))).setCell ⟨w.heap.size+1+1+1+1,0,none⟩ (.int .i64 ((nn+1:Nat):Int))).heap[w.heap.size+4]?=some (.cells #[.int .i64 ((mF zs W H px py cnt (pre++[x])).2:Nat)] 3 (0,0))∧((V.setCell ⟨w.heap.size+1+1+1,0,none⟩ (.int .i64 (sm+z))).setCell ⟨w.heap.size+1+1+1+1,0,none⟩ (.int .i64 ((nn+1:Nat):Int))).heap[w.heap.size]?=some (.cells #[.int .i64 W,.int .i64 H,.slice (some ⟨bk,off,none⟩) zs.length ca] 54 (0,0))∧((V.setCell ⟨w.heap.size+1+1+1,0,none⟩ (.int .i64 (sm+z))).setCell ⟨w.heap.size+1+1+1+1,0,none⟩ (.int .i64 ((nn+1:Nat):Int))).heap[w.heap.size+1]?=some (.cells #[.func (.func cf) #[] caps] 176 (0,0))∧((V.setCell ⟨w.heap.size+1+1+1,0,none⟩ (.int .i64 (sm+z))).setCell ⟨w.heap.size+1+1+1+1,0,none⟩ (.int .i64 ((nn+1:Nat):Int))).heap[w.heap.size+2]?=some (.cells #[.int .i64 W,.int .i64 H] 95 (0,0))∧Below w.heap.size w ((V.setCell ⟨w.heap.size+1+1+1,0,none⟩ (.int .i64 (sm+z))).setCell ⟨w.heap.size+1+1+1+1,0,none⟩ (.int .i64 ((nn+1:Nat):Int)))) from fun V z h hm=>by
   rw[hm]
   have k3:=(h.block _ hl1).trans i1
   have k4:=(h.block _ hl2).trans i2
   have h3:=heap_setCell_same V (w.heap.size+3) 0 _ _ (.int .i64 (sm+z)) k3
   have o3:∀b,b≠w.heap.size+3→(V.setCell ⟨w.heap.size+3,0,none⟩ (.int .i64 (sm+z))).heap[b]?=V.heap[b]?:=fun b hb=>Below.heap_setCell _ _ _ _ hb
   have k4':=(o3 (w.heap.size+4) (by omega)).trans k4
   have h4:=heap_setCell_same (V.setCell ⟨w.heap.size+3,0,none⟩ (.int .i64 (sm+z))) (w.heap.size+4) 0 _ _ (.int .i64 ((nn+1:Nat):Int)) k4'
   have o4:∀b,b≠w.heap.size+4→((V.setCell ⟨w.heap.size+3,0,none⟩ (.int .i64 (sm+z))).setCell ⟨w.heap.size+4,0,none⟩ (.int .i64 ((nn+1:Nat):Int))).heap[b]?=(V.setCell ⟨w.heap.size+3,0,none⟩ (.int .i64 (sm+z))).heap[b]?:=fun b hb=>Below.heap_setCell _ _ _ _ hb
   have oo:∀b,b≠w.heap.size+3→b≠w.heap.size+4→b<W'.heap.size→((V.setCell ⟨w.heap.size+3,0,none⟩ (.int .i64 (sm+z))).setCell ⟨w.heap.size+4,0,none⟩ (.int .i64 ((nn+1:Nat):Int))).heap[b]?=W'.heap[b]?:=fun b h1 h2 h5=>(o4 b h2).trans ((o3 b h1).trans (h.block b h5))
   refine ⟨⟨?_,fun k o hkB hk hoc=>?_⟩,oo Bs (by omega) (by omega) (by omega),?_,?_,(oo _ (by omega) (by omega) hl3).trans i3,(oo _ (by omega) (by omega) hl4).trans i4,(oo _ (by omega) (by omega) hl5).trans i5,?_⟩
   ·have:=h.size;simpa [World.setCell] using this
   ·exact (oo k (by omega) (by omega) (kb.1 hk).1).trans hk
   ·exact (o4 _ (by omega)).trans (by rw[h3];rfl)
   ·show ((V.setCell ⟨w.heap.size+3,0,none⟩ (.int .i64 (sm+z))).setCell ⟨w.heap.size+4,0,none⟩ (.int .i64 ((nn+1:Nat):Int))).heap[w.heap.size+4]?=_
    rw[h4];rfl
   ·exact ((i6.trans (h.mono hsz)).setCell (p:=⟨w.heap.size+3,0,none⟩) (by show w.heap.size≤w.heap.size+3;omega) _).setCell (p:=⟨w.heap.size+4,0,none⟩) (by show w.heap.size≤w.heap.size+4;omega) _)
  gi_wp2_with fail
  refine ⟨trivial,?_⟩
  refine (CallsIn.inRound l (callsIn_wide.2 (z7Cs W H xa yb _))).mono ?_
  rintro e V1 ⟨rfl,hb1⟩
  by_cases hh:hasB W H xa yb=true
  ·rw[hh]
   have q0:V1.cell? ⟨w.heap.size+1,0,none⟩=some (.func (.func cf) #[] caps):=by rw[kd ((hb1.block _ hl4).trans i4)];rfl
   have q1:V1.cell? ⟨Bx,0,none⟩=some (.int .i64 xa):=by rw[kd ((hb1.block _ hlX).trans bX)];rfl
   have q2:V1.cell? ⟨Bx,1,none⟩=some (.int .i64 yb):=by rw[kd ((hb1.block _ hlX).trans bX)];rfl
   gi_wp2_with fail
   refine ⟨trivial,?_⟩
   refine (CallsIn.inRound l (callsIn_wide.2 (HCN.out _ hh (i6.trans (hb1.mono hsz))))).mono ?_
   rintro e V2 ⟨rfl,hb2⟩
   have hb12:=quJN hb1 hb2
   cases hcx:cx with
   | false =>
    have HM0:=hide (show mF zs W H px py cnt (pre++[x])=(sm,nn) by rw[HSN.out,HMS.out,hcx];simp)
    gi_wp2
    exact HEND0.out _ hb12 HM0.out
   | true =>
    obtain ⟨hx0,hx1,hy0,hy1⟩:0≤xa∧xa<W∧0≤yb∧yb<H:=by simpa [hasB] using hh
    have HM1:=hide (show mF zs W H px py cnt (pre++[x])=(sm+zAt zs (yb.toNat*W+xa.toNat),nn+1) by rw[HSN.out,HMS.out,hcx,hh];simp)
    obtain ⟨X,rfl⟩:=kg hx0
    obtain ⟨Y,rfl⟩:=kg hy0
    rw[kj,kj] at HM1
    have hkl:Y*W+X<zs.length:=by
     have h1:(Y+1)*W≤H*W:=kk _ (by omega)
     rw[kl] at h1
     rw[HLEN.out];omega
    obtain ⟨K1,hK1⟩:∃K1,Y*W+X=K1:=⟨_,rfl⟩
    rw[hK1] at HM1 hkl
    have HIX:=hide (fun v=>XSSj W H X Y W K1 rfl hK1 (by omega) v)
    have hz:=XWrv HZS.out K1
    have hcz:=HC.out K1 hkl
    obtain ⟨z,hz0⟩:∃z,zAt zs K1=z:=⟨_,rfl⟩
    rw[hz0] at hz hcz HM1
    obtain ⟨hz1,hz2⟩:=hz
    clear hz0 hK1 x0 x1 g0 g1 q0 q1 q2
    have HS:=hide (show ∀v,Below W'.heap.size W' v→v.cell? ⟨w.heap.size+1+1+1,0,none⟩=some (.int .i64 sm)∧v.cell? ⟨w.heap.size,2,none⟩=some (.slice (some ⟨bk,off,none⟩) zs.length ca)∧v.cell? ⟨w.heap.size+1+1,0,none⟩=some (.int .i64 W)∧v.cell? ⟨w.heap.size+1+1,1,none⟩=some (.int .i64 H)∧v.cell? ⟨Bx,0,none⟩=some (.int .i64 (X:Nat))∧v.cell? ⟨Bx,1,none⟩=some (.int .i64 (Y:Nat))∧v.cell? ⟨bk,off+K1,none⟩=some (.int .i64 z) from fun v h=>by
     obtain ⟨_,_,t2⟩:=z5EY ((h.block _ hl3).trans i3)
     have t5:=(h.block _ hl5).trans i5
     have tx:=(h.block _ hlX).trans bX
     exact ⟨by rw[kd (b:=w.heap.size+1+1+1) ((h.block _ hl1).trans i1)];rfl,t2,by rw[kd (b:=w.heap.size+1+1) t5];rfl,by rw[kd (b:=w.heap.size+1+1) t5];rfl,by rw[kd tx];rfl,by rw[kd tx];rfl,((i6.trans (h.mono hsz)).cell (p:=⟨bk,off+K1,none⟩) hbk).trans hcz⟩)
    have HF:=hide (show ∀v,Below W'.heap.size W' v→v.frozen? ⟨w.heap.size+1+1+1,0,none⟩=false∧v.cell? ⟨w.heap.size+1+1+1,0,none⟩=some (.int .i64 sm)∧v.frozen? ⟨w.heap.size+1+1+1+1,0,none⟩=false∧v.cell? ⟨w.heap.size+1+1+1+1,0,none⟩=some (.int .i64 (nn:Nat)) from fun v h=>by
     have t3:=(h.block _ hl1).trans i1
     have t4:=(h.block _ hl2).trans i2
     exact ⟨kc (b:=w.heap.size+1+1+1) t3 0,by rw[kd (b:=w.heap.size+1+1+1) t3];rfl,kc (b:=w.heap.size+1+1+1+1) t4 0,by rw[kd (b:=w.heap.size+1+1+1+1) t4];rfl⟩)
    have hws:IntKind.i64.wrap (sm+z)=sm+z:=IntWalk.i64_in _ (by omega)
    have hwn:IntKind.i64.wrap ((nn:Int)+1)=((nn+1:Nat):Int):=(IntWalk.i64_in _ (by omega)).trans (by omega)
    have hklI:(K1:Int)<(zs.length:Int):=by omega
    have hWd:Below W'.heap.size W' V2.drew:=hb12.drew
    have hSd:=HS.out _ hWd
    have hmx:Tryz.prog.follows .mixedOrders=true:=by kernel_rfl
    gi_wp2_with fail
    refine qXaV (S:=fun v:World=>v.cell? ⟨w.heap.size+1+1+1,0,none⟩=some (.int .i64 sm)∧v.cell? ⟨w.heap.size,2,none⟩=some (.slice (some ⟨bk,off,none⟩) zs.length ca)∧v.cell? ⟨w.heap.size+1+1,0,none⟩=some (.int .i64 W)∧v.cell? ⟨w.heap.size+1+1,1,none⟩=some (.int .i64 H)∧v.cell? ⟨Bx,0,none⟩=some (.int .i64 (X:Nat))∧v.cell? ⟨Bx,1,none⟩=some (.int .i64 (Y:Nat))∧v.cell? ⟨bk,off+K1,none⟩=some (.int .i64 z)) (f:=9) hmx ?nd ?no ?_
    case nd=>exact qU4N (by kernel_rfl)
    case no=>rintro ⟨_,_,h⟩;exact h
    show jZdv _ _ _ _ _ _ 10 _ _ V2.drew
    refine j7aj (i:=0) (oi:=_) (v:=?vv1) rfl (by kernel_rfl) (by kernel_rfl) (by kernel_rfl) (by kernel_rfl) (by kernel_rfl) (fun _ _ _ h=>h) (Or.inl ⟨by rfl,?yy1⟩) hSd ?rr1
    case yy1=>(intro wq hSq;obtain ⟨_,_,_,_,_,_,_⟩:=hSq;go_simp<;>with_reducible rfl)
    try simp only[ke]
    refine j7aj (i:=1) (oi:=_) (v:=?vv2) rfl (by kernel_rfl) (by kernel_rfl) (by kernel_rfl) (by kernel_rfl) (by kernel_rfl) (fun _ _ _ h=>h) (Or.inl ⟨by rfl,?yy2⟩) hSd ?rr2
    case yy2=>(intro wq hSq;obtain ⟨_,_,_,_,_,_,_⟩:=hSq;go_simp<;>with_reducible rfl)
    try simp only[ke]
    refine j7aj (i:=2) (oi:=_) (v:=?vv3) rfl (by kernel_rfl) (by kernel_rfl) (by kernel_rfl) (by kernel_rfl) (by kernel_rfl) (fun _ _ _ h=>h) (Or.inl ⟨by rfl,?yy3⟩) hSd ?rr3
    case yy3=>(intro wq hSq;obtain ⟨_,_,_,_,_,_,_⟩:=hSq;go_simp<;>with_reducible rfl)
    try simp only[ke]
    refine j7aj (i:=3) (oi:=_) (v:=?vv4) rfl (by kernel_rfl) (by kernel_rfl) (by kernel_rfl) (by kernel_rfl) (by kernel_rfl) (fun _ _ _ h=>h) (Or.inl ⟨by rfl,?yy4⟩) hSd ?rr4
    case yy4=>(intro wq hSq;obtain ⟨_,_,_,_,_,_,_⟩:=hSq;go_simp<;>with_reducible rfl)
    try simp only[ke]
    refine j7aj (i:=4) (oi:=_) (v:=?vv5) rfl (by kernel_rfl) (by kernel_rfl) (by kernel_rfl) (by kernel_rfl) (by kernel_rfl) (fun _ _ _ h=>h) (Or.inl ⟨by rfl,?yy5⟩) hSd ?rr5
    case yy5=>(intro wq hSq;obtain ⟨_,_,_,_,_,_,_⟩:=hSq;go_simp<;>with_reducible rfl)
    try simp only[ke]
    refine znWj (i:=5) (o:=_) (by kernel_rfl) rfl (fun K' hK=>?_)
    rw[if_pos (by rfl)]
    go_simp
    refine (HIX.out _).mono ?_
    rintro e V3 ⟨rfl,hb3⟩
    have hB3:Below W'.heap.size W' V3:=hWd.trans (hb3.mono hWd.size)
    have hSd:=HS.out _ hB3
    refine hK.out _ _ hSd ?_
    clear hK
    try simp only[ke]
    refine j7aj (i:=6) (oi:=_) (v:=?vv6) rfl (by kernel_rfl) (by kernel_rfl) (by kernel_rfl) (by kernel_rfl) (by kernel_rfl) (fun _ _ _ h=>h) (Or.inl ⟨by rfl,?yy6⟩) hSd ?rr6
    case yy6=>(intro wq hSq;obtain ⟨_,_,_,_,_,_,_⟩:=hSq;go_simp<;>with_reducible rfl)
    try simp only[ke]
    refine j7aj (i:=7) (oi:=_) (v:=?vv7) rfl (by kernel_rfl) (by kernel_rfl) (by kernel_rfl) (by kernel_rfl) (by kernel_rfl) (fun _ _ _ h=>h) (Or.inl ⟨by rfl,?yy7⟩) hSd ?rr7
    case yy7=>(intro wq hSq;obtain ⟨_,_,_,_,_,_,_⟩:=hSq;go_simp<;>with_reducible rfl)
    try simp only[ke]
    refine j7aj (i:=8) (oi:=_) (v:=?vv8) rfl (by kernel_rfl) (by kernel_rfl) (by kernel_rfl) (by kernel_rfl) (by kernel_rfl) (fun _ _ _ h=>h) (Or.inl ⟨by rfl,?yy8⟩) hSd ?rr8
    case yy8=>(intro wq hSq;obtain ⟨_,_,_,_,_,_,_⟩:=hSq;go_simp<;>with_reducible rfl)
    try simp only[ke]
    obtain ⟨f3,c3,f4,c4⟩:=HF.out _ hB3
    refine z9gO (o:=_) (by kernel_rfl) rfl (fun K' hK=>?_)
    rw[if_pos (by rfl)]
    go_simp
    refine hK.out _ _ ?_
    clear hK
    refine jFdp (by kernel_rfl) ?_ _
    try simp only[ke]
    have n4:(V3.setCell ⟨w.heap.size+1+1+1,0,none⟩ (.int .i64 (sm+z))).cell? ⟨w.heap.size+1+1+1+1,0,none⟩=some (.int .i64 (nn:Nat)):=(World.cell?_setCell_far _ _ _ _ (by show w.heap.size+3≠w.heap.size+4;omega)).trans c4
    gi_wp2
    exact HEND1.out _ z hB3 HM1.out
  ·have hh:hasB W H xa yb=false:=by simpa using hh
   have HM0:=hide (show mF zs W H px py cnt (pre++[x])=(sm,nn) by rw[HSN.out,HMS.out,hh];simp)
   rw[hh]
   gi_wp2
   repeat (refine ⟨fun _ h=>(by cases h),?_⟩;gi_wp2)
   exact HEND0.out _ hb1 HM0.out
 case done =>
  rintro D ys W' hD rfl ⟨i1,i2,i3,i4,i5,i6⟩ hK
  have hr:0≤(mF zs W H px py cnt (List.finRange N)).1∧(mF zs W H px py cnt (List.finRange N)).1≤(mF zs W H px py cnt (List.finRange N)).2*65535∧(mF zs W H px py cnt (List.finRange N)).2≤0+(List.finRange N).length:=zVKI HZS.out W H px py cnt (List.finRange N) (0,0) 0 (Int.le_refl _) (by decide) (kf _)
  rw[List.length_finRange] at hr
  have HV:=hide (show meanV zs W H px py cnt=if (mF zs W H px py cnt (List.finRange N)).2=0 then 0 else (mF zs W H px py cnt (List.finRange N)).1 / ((mF zs W H px py cnt (List.finRange N)).2:Int) from rfl)
  obtain ⟨⟨sm,nn⟩,hsn⟩:∃t,mF zs W H px py cnt (List.finRange N)=t:=⟨_,rfl⟩
  rw[hsn] at i1 i2 HV hr
  simp only at hr i1 i2 HV
  obtain ⟨hr1,hr2,hr3⟩:=hr
  have c3:W'.cell? ⟨w.heap.size+1+1+1,0,none⟩=some (.int .i64 sm):=by rw[kd (b:=w.heap.size+1+1+1) i1];rfl
  have c4:W'.cell? ⟨w.heap.size+1+1+1+1,0,none⟩=some (.int .i64 (nn:Nat)):=by rw[kd (b:=w.heap.size+1+1+1+1) i2];rfl
  have HY:=hide (show Below w.heap.size w (W'.putObj D (.deferred none)) from i6.trans (belowK_b (w:=w) (kf _) W' D _ _ (by omega) hK rfl rfl))
  by_cases hn:nn=0
  ·subst hn
   rw[if_pos rfl] at HV
   gi_wp2
   refine ⟨by simp,.inl ⟨_,_,rfl,run_takeDeferred hK,?_⟩⟩
   exact ⟨.int .i64 0,by simp[results,Tryz.results127,go_sem],by rw[HV.out],HY.out⟩
  ·rw[if_neg hn] at HV
   have hq:=Int.tdiv_eq_ediv_of_nonneg (b:=(nn:Int)) hr1
   rw[←hq] at HV
   have hq0:0≤sm.tdiv (nn:Int):=by rw[hq];exact Int.ediv_nonneg hr1 (by omega)
   have hq1:sm.tdiv (nn:Int)≤sm:=by rw[hq];exact Int.ediv_le_self _ hr1
   obtain ⟨q,hqq⟩:∃q,sm.tdiv (nn:Int)=q:=⟨_,rfl⟩
   rw[hqq] at HV hq0 hq1
   have hbz:((nn:Int) == 0)=false:=by simp;omega
   have hwq:IntKind.i64.wrap q=q:=IntWalk.i64_in _ (by omega)
   clear hq
   gi_wp2
   refine ⟨by simp,.inl ⟨_,_,rfl,run_takeDeferred hK,?_⟩⟩
   exact ⟨.int .i64 q,by simp[results,Tryz.results127,go_sem],by rw[HV.out],HY.out⟩
 case stop=>rintro D c pre W' _ _ h _;exact h.elim
end Go.Proofs.YtfjeonehdlphiaaGreatDoor
namespace Go.Proofs.YtfjeonehdlphiaaGreatDoor
open Go.RowKit
theorem jikX (q c:Nat):((q:Int) == (c:Int))=decide (q=c):=by
 by_cases h:q=c
 ·simp[h]
 ·rw[decide_eq_false h];simpa using fun e:(q:Int)=c=>h (by omega)
theorem zkc8 (p X Y:Nat) (hp:p≤3) (w:World):Calls Tryz.prog 126 #[.int .i64 p,.agg #[.int .i64 X,.int .i64 Y]] w fun e w'=>e=.returned (.int .i64 (colV p X Y:Nat))∧Below w.heap.size w w':=by
 go_enter Tryz.func126,Tryz.ntmps126
 go_wp2_with fail
 refine (XW0z p X Y hp _).mono ?_
 rintro e w1 ⟨rfl,hb1⟩
 go_wp2
 go_ret
 exact ⟨rfl,quJN (qUNz _ _) hb1⟩
theorem XhPw (p X Y c Bp Bc:Nat) (hp:p≤3) (w:World) (hBp:Bp<w.heap.size) (hBc:Bc<w.heap.size) (k1:w.cell? ⟨Bp,0,none⟩=some (.int .i64 p)) (k2:w.cell? ⟨Bc,0,none⟩=some (.int .i64 c)) :
  Calls Tryz.prog 129 #[.agg #[.int .i64 X,.int .i64 Y],.pointer (some ⟨Bp,0,none⟩),.pointer (some ⟨Bc,0,none⟩)] w fun e w'=>e=.returned (.bool (decide (colV p X Y=c)))∧Below w.heap.size w w':=by
 have HCO:=hide (fun v=>zkc8 p X Y hp v)
 obtain ⟨q,hq⟩:∃q,colV p X Y=q:=⟨_,rfl⟩
 rw[hq] at HCO ⊢
 clear hq
 have HB:=hide (qUNz w (ka #[.int .i64 X,.int .i64 Y] 97))
 have b3:=al1 w (ka #[.int .i64 X,.int .i64 Y] 97)
 have HE:=hide (jikX q c)
 go_enter Tryz.func129,Tryz.ntmps129
 go_wp2_with fail
 have hl3:=(kb.1 b3).1
 generalize w.alloc (ka #[.int .i64 X,.int .i64 Y] 97)=U at *
 have HS:=hide (show ∀v,Below U.heap.size U v→v.cell? ⟨Bp,0,none⟩=some (.int .i64 p)∧v.cell? ⟨Bc,0,none⟩=some (.int .i64 c)∧v.cell? ⟨w.heap.size,0,none⟩=some (.int .i64 X)∧v.cell? ⟨w.heap.size,1,none⟩=some (.int .i64 Y) from fun v h=>by
  have hw:=HB.out.trans (h.mono HB.out.size)
  have t:=(h.block _ hl3).trans b3
  exact ⟨(hw.cell (p:=⟨Bp,0,none⟩) hBp).trans k1,(hw.cell (p:=⟨Bc,0,none⟩) hBc).trans k2,by rw[kd t];rfl,by rw[kd t];rfl⟩)
 have hWd:Below U.heap.size U U.drew:=(Below.refl _ _).drew
 have hSd:=HS.out _ hWd
 have hmx:Tryz.prog.follows .mixedOrders=true:=by kernel_rfl
 refine qYgd (S:=fun v:World=>v.cell? ⟨Bp,0,none⟩=some (.int .i64 p)∧v.cell? ⟨Bc,0,none⟩=some (.int .i64 c)∧v.cell? ⟨w.heap.size,0,none⟩=some (.int .i64 X)∧v.cell? ⟨w.heap.size,1,none⟩=some (.int .i64 Y)) (f:=5) hmx ?_
 show jZdv _ _ _ _ _ _ 6 _ _ U.drew
 refine j7aj (i:=0) (oi:=_) (v:=?vv1) rfl (by kernel_rfl) (by kernel_rfl) (by kernel_rfl) (by kernel_rfl) (by kernel_rfl) (fun _ _ _ h=>h) (Or.inl ⟨by rfl,?yy1⟩) hSd ?rr1
 case yy1=>(intro wq hSq;obtain ⟨_,_,_,_⟩:=hSq;go_simp<;>with_reducible rfl)
 try simp only[ke]
 refine j7aj (i:=1) (oi:=_) (v:=?vv2) rfl (by kernel_rfl) (by kernel_rfl) (by kernel_rfl) (by kernel_rfl) (by kernel_rfl) (fun _ _ _ h=>h) (Or.inl ⟨by rfl,?yy2⟩) hSd ?rr2
 case yy2=>(intro wq hSq;obtain ⟨_,_,_,_⟩:=hSq;go_simp<;>with_reducible rfl)
 try simp only[ke]
 refine j7aj (i:=3) (oi:=_) (v:=?vv3) rfl (by kernel_rfl) (by kernel_rfl) (by kernel_rfl) (by kernel_rfl) (by kernel_rfl) (fun _ _ _ h=>h) (Or.inl ⟨by rfl,?yy3⟩) hSd ?rr3
 case yy3=>(intro wq hSq;obtain ⟨_,_,_,_⟩:=hSq;go_simp<;>with_reducible rfl)
 try simp only[ke]
 refine znWj (i:=2) (o:=_) (by kernel_rfl) rfl (fun K' hK=>?_)
 rw[if_pos (by rfl)]
 go_simp
 refine (HCO.out _).mono ?_
 rintro e V1 ⟨rfl,hbv⟩
 have hB1:Below U.heap.size U V1:=hWd.trans (hbv.mono hWd.size)
 have hSd:=HS.out _ hB1
 refine hK.out _ _ hSd ?_
 clear hK
 try simp only[ke]
 refine j7aj (i:=4) (oi:=_) (v:=?vv4) rfl (by kernel_rfl) (by kernel_rfl) (by kernel_rfl) (by kernel_rfl) (by kernel_rfl) (fun _ _ _ h=>h) (Or.inl ⟨by rfl,?yy4⟩) hSd ?rr4
 case yy4=>(intro wq hSq;obtain ⟨_,_,_,_⟩:=hSq;go_simp<;>with_reducible rfl)
 try simp only[ke]
 refine z9gO (o:=_) (by kernel_rfl) rfl (fun K' hK=>?_)
 rw[if_pos (by rfl)]
 go_simp
 refine hK.out _ _ ?_
 clear hK
 refine jFdp (by kernel_rfl) ?_ _
 try simp only[ke]
 go_wp2
 go_ret
 exact ⟨j3Zs HE.out,HB.out.trans (hB1.mono HB.out.size)⟩
def parX (X:Nat) (x:Fin 8):Int:=(X:Int)-1+(nOf x.1 % 3:Nat)
def parY (Y:Nat) (x:Fin 8):Int:=(Y:Int)-1+(nOf x.1 / 3:Nat)
def parC (p X Y c:Nat) (x:Fin 8):Bool:=decide (colV p (parX X x).toNat (parY Y x).toNat=c)
def partV (zs:List Int) (W H p X Y c:Nat):Int:=if colV p X Y=c then zAt zs (Y*W+X) else meanV zs W H (parX X) (parY Y) (parC p X Y c)
theorem Xdtf (W H p X Y c bk off ca:Nat) (hW1:1≤W) (hW:W≤64) (hH1:1≤H) (hH:H≤64) (hp:p≤3) (hX:X<W) (hY:Y<H) (zs:List Int) (hlen:zs.length=H*W) (hzs:allIn 0 65535 zs=true) (w:World) (hbk:bk<w.heap.size) (hcell:∀j,j<zs.length→w.cell? ⟨bk,off+j,none⟩=some (.int .i64 (zAt zs j))) :
  Calls Tryz.prog 73 #[.agg #[.int .i64 W,.int .i64 H,.slice (some ⟨bk,off,none⟩) zs.length ca],.int .i64 p,.agg #[.int .i64 X,.int .i64 Y],.int .i64 c] w fun e w'=>e=.returned (.int .i64 (partV zs W H p X Y c))∧Below w.heap.size w w':=by
 have HPV:=hide (show partV zs W H p X Y c=if colV p X Y=c then zAt zs (Y*W+X) else meanV zs W H (parX X) (parY Y) (parC p X Y c) from rfl)
 generalize partV zs W H p X Y c=RES at *
 have hl4:zs.length≤4096:=by rw[hlen];exact ki (Nat.mul_le_mul hH hW) (by decide)
 have hkl:Y*W+X<zs.length:=by
  have h1:(Y+1)*W≤H*W:=kk _ hY
  rw[kl] at h1
  rw[hlen];omega
 have HC:=hide hcell
 have HCO:=hide (fun v=>zkc8 p X Y hp v)
 obtain ⟨a1,a2,a3,a4⟩:=al4 w (ka #[.int .i64 W,.int .i64 H,.slice (some ⟨bk,off,none⟩) zs.length ca] 54) (ka #[.int .i64 p] 3) (ka #[.int .i64 X,.int .i64 Y] 97) (ka #[.int .i64 c] 3)
 have HB:=hide (be4 w (ka #[.int .i64 W,.int .i64 H,.slice (some ⟨bk,off,none⟩) zs.length ca] 54) (ka #[.int .i64 p] 3) (ka #[.int .i64 X,.int .i64 Y] 97) (ka #[.int .i64 c] 3))
 have HMP:=hide (fun (u:World) (hu:Below w.heap.size w u) (Bs:Nat) (hBs:Bs<u.heap.size) (e0:u.cell? ⟨Bs,0,none⟩=some (.int .i64 X)) (e1:u.cell? ⟨Bs,1,none⟩=some (.int .i64 Y)) (hp1:w.heap.size+1<u.heap.size) (hp3:w.heap.size+3<u.heap.size) (k1:u.cell? ⟨w.heap.size+1,0,none⟩=some (.int .i64 p)) (k2:u.cell? ⟨w.heap.size+3,0,none⟩=some (.int .i64 c)) =>
  qkM9 8 W H bk off ca (by omega) hW1 hW hH1 hH zs hlen hzs 184 129 Bs #[.pointer (some ⟨Bs,0,none⟩)] #[.pointer (some ⟨w.heap.size+1,0,none⟩),.pointer (some ⟨w.heap.size+3,0,none⟩)] (parX X) (parY Y) (parC p X Y c) u (enters_of Tryz.func184 (by kernel_rfl) rfl) (enters_of Tryz.func129 (by kernel_rfl) rfl) hBs (kh hbk hu.size) (fun j hj=>(hu.cell (p:=⟨bk,off+j,none⟩) hbk).trans (hcell j hj))
   (fun V hV=>jMfn Fence.wide (3-1) trivial rfl (by omega) Bs X Y (by omega) (by omega) V (kh hBs hV.size) ((hV.cell (p:=⟨Bs,0,none⟩) hBs).trans e0) ((hV.cell (p:=⟨Bs,1,none⟩) hBs).trans e1))
   (fun x V hh hV=>by
    have hh2:0≤parX X x∧parX X x<W∧0≤parY Y x∧parY Y x<H:=by simpa [hasB] using hh
    have h:=XhPw p (parX X x).toNat (parY Y x).toNat c (w.heap.size+1) (w.heap.size+3) hp V (kh hp1 hV.size) (kh hp3 hV.size) ((hV.cell (p:=⟨w.heap.size+1,0,none⟩) hp1).trans k1) ((hV.cell (p:=⟨w.heap.size+3,0,none⟩) hp3).trans k2)
    rw[Int.toNat_of_nonneg hh2.1,Int.toNat_of_nonneg hh2.2.2.1] at h
    exact h))
 obtain ⟨K1,hK1⟩:∃K1,Y*W+X=K1:=⟨_,rfl⟩
 rw[hK1] at HPV hkl
 have HIX:=hide (fun v=>XSSj W H X Y W K1 rfl hK1 (by omega) v)
 have hcz:=hcell K1 hkl
 obtain ⟨z,hz0⟩:∃z,zAt zs K1=z:=⟨_,rfl⟩
 rw[hz0] at hcz HPV
 clear hz0 hK1 hcell hlen hzs
 obtain ⟨q,hq⟩:∃q,colV p X Y=q:=⟨_,rfl⟩
 rw[hq] at HCO HPV
 clear hq
 go_enter Tryz.func73,Tryz.ntmps73
 go_wp2_with fail
 have hs4:((((w.alloc (ka #[.int .i64 W,.int .i64 H,.slice (some ⟨bk,off,none⟩) zs.length ca] 54)).alloc (ka #[.int .i64 p] 3)).alloc (ka #[.int .i64 X,.int .i64 Y] 97)).alloc (ka #[.int .i64 c] 3)).heap.size=w.heap.size+4:=by simp
 generalize (((w.alloc (ka #[.int .i64 W,.int .i64 H,.slice (some ⟨bk,off,none⟩) zs.length ca] 54)).alloc (ka #[.int .i64 p] 3)).alloc (ka #[.int .i64 X,.int .i64 Y] 97)).alloc (ka #[.int .i64 c] 3)=U at *
 replace hs4:=Nat.le_of_eq hs4.symm
 have HS:=hide (show ∀v,Below U.heap.size U v→v.cell? ⟨w.heap.size,0,none⟩=some (.int .i64 W)∧v.cell? ⟨w.heap.size,1,none⟩=some (.int .i64 H)∧v.cell? ⟨w.heap.size,2,none⟩=some (.slice (some ⟨bk,off,none⟩) zs.length ca)∧v.cell? ⟨w.heap.size+1,0,none⟩=some (.int .i64 p)∧v.cell? ⟨w.heap.size+1+1,0,none⟩=some (.int .i64 X)∧v.cell? ⟨w.heap.size+1+1,1,none⟩=some (.int .i64 Y)∧v.cell? ⟨w.heap.size+1+1+1,0,none⟩=some (.int .i64 c)∧v.cell? ⟨bk,off+K1,none⟩=some (.int .i64 z) from fun v h=>by
  have hw:=HB.out.trans (h.mono HB.out.size)
  obtain ⟨t0,t1,t2⟩:=z5EY ((h.block _ (by omega)).trans a1)
  have t3:=(h.block (w.heap.size+2) (by omega)).trans a3
  exact ⟨t0,t1,t2,by rw[kd ((h.block (w.heap.size+1) (by omega)).trans a2)];rfl,by rw[kd (b:=w.heap.size+1+1) t3];rfl,by rw[kd (b:=w.heap.size+1+1) t3];rfl,by rw[kd (b:=w.heap.size+1+1+1) ((h.block (w.heap.size+3) (by omega)).trans a4)];rfl,(hw.cell (p:=⟨bk,off+K1,none⟩) hbk).trans hcz⟩)
 have hWd:Below U.heap.size U U.drew:=(Below.refl _ _).drew
 have hSd:=HS.out _ hWd
 have hklI:(K1:Int)<(zs.length:Int):=by omega
 clear a1 a2 a3 a4 hcz
 have hmx:Tryz.prog.follows .mixedOrders=true:=by kernel_rfl
 refine qYgd (S:=fun v:World=>v.cell? ⟨w.heap.size,0,none⟩=some (.int .i64 W)∧v.cell? ⟨w.heap.size,1,none⟩=some (.int .i64 H)∧v.cell? ⟨w.heap.size,2,none⟩=some (.slice (some ⟨bk,off,none⟩) zs.length ca)∧v.cell? ⟨w.heap.size+1,0,none⟩=some (.int .i64 p)∧v.cell? ⟨w.heap.size+1+1,0,none⟩=some (.int .i64 X)∧v.cell? ⟨w.heap.size+1+1,1,none⟩=some (.int .i64 Y)∧v.cell? ⟨w.heap.size+1+1+1,0,none⟩=some (.int .i64 c)∧v.cell? ⟨bk,off+K1,none⟩=some (.int .i64 z)) (f:=4) hmx ?_
 show jZdv _ _ _ _ _ _ 5 _ _ U.drew
 refine j7aj (i:=0) (oi:=_) (v:=?vv5) rfl (by kernel_rfl) (by kernel_rfl) (by kernel_rfl) (by kernel_rfl) (by kernel_rfl) (fun _ _ _ h=>h) (Or.inl ⟨by rfl,?yy5⟩) hSd ?rr5
 case yy5=>(intro wq hSq;obtain ⟨_,_,_,_,_,_,_,_⟩:=hSq;go_simp<;>with_reducible rfl)
 try simp only[ke]
 refine j7aj (i:=1) (oi:=_) (v:=?vv6) rfl (by kernel_rfl) (by kernel_rfl) (by kernel_rfl) (by kernel_rfl) (by kernel_rfl) (fun _ _ _ h=>h) (Or.inl ⟨by rfl,?yy6⟩) hSd ?rr6
 case yy6=>(intro wq hSq;obtain ⟨_,_,_,_,_,_,_,_⟩:=hSq;go_simp<;>with_reducible rfl)
 try simp only[ke]
 refine j7aj (i:=3) (oi:=_) (v:=?vv7) rfl (by kernel_rfl) (by kernel_rfl) (by kernel_rfl) (by kernel_rfl) (by kernel_rfl) (fun _ _ _ h=>h) (Or.inl ⟨by rfl,?yy7⟩) hSd ?rr7
 case yy7=>(intro wq hSq;obtain ⟨_,_,_,_,_,_,_,_⟩:=hSq;go_simp<;>with_reducible rfl)
 try simp only[ke]
 refine znWj (i:=2) (o:=_) (by kernel_rfl) rfl (fun K' hK=>?_)
 rw[if_pos (by rfl)]
 go_simp
 refine (HCO.out _).mono ?_
 rintro e V1 ⟨rfl,hbv⟩
 have hB1:Below U.heap.size U V1:=hWd.trans (hbv.mono hWd.size)
 have hSd:=HS.out _ hB1
 refine hK.out _ _ hSd ?_
 clear hK
 try simp only[ke]
 refine z9gO (o:=_) (by kernel_rfl) rfl (fun K' hK=>?_)
 rw[if_pos (by rfl)]
 go_simp
 refine hK.out _ _ ?_
 clear hK
 refine jFdp (by kernel_rfl) ?_ _
 try simp only[ke]
 by_cases hqc:q=c
 ·rw[if_pos hqc] at HPV
  have hd:((q:Int) == (c:Int))=true:=by simp[hqc]
  clear hSd
  have hWd2:Below U.heap.size U V1.drew:=hB1.drew
  have hSd:=HS.out _ hWd2
  go_wp2_with fail
  have hmx:Tryz.prog.follows .mixedOrders=true:=by kernel_rfl
  refine qYgd (S:=fun v:World=>v.cell? ⟨w.heap.size,0,none⟩=some (.int .i64 W)∧v.cell? ⟨w.heap.size,1,none⟩=some (.int .i64 H)∧v.cell? ⟨w.heap.size,2,none⟩=some (.slice (some ⟨bk,off,none⟩) zs.length ca)∧v.cell? ⟨w.heap.size+1,0,none⟩=some (.int .i64 p)∧v.cell? ⟨w.heap.size+1+1,0,none⟩=some (.int .i64 X)∧v.cell? ⟨w.heap.size+1+1,1,none⟩=some (.int .i64 Y)∧v.cell? ⟨w.heap.size+1+1+1,0,none⟩=some (.int .i64 c)∧v.cell? ⟨bk,off+K1,none⟩=some (.int .i64 z)) (f:=11) hmx ?_
  show jZdv _ _ _ _ _ _ 12 _ _ V1.drew
  refine j7aj (i:=0) (oi:=_) (v:=?vv8) rfl (by kernel_rfl) (by kernel_rfl) (by kernel_rfl) (by kernel_rfl) (by kernel_rfl) (fun _ _ _ h=>h) (Or.inl ⟨by rfl,?yy8⟩) hSd ?rr8
  case yy8=>(intro wq hSq;obtain ⟨_,_,_,_,_,_,_,_⟩:=hSq;go_simp<;>with_reducible rfl)
  try simp only[ke]
  refine j7aj (i:=1) (oi:=_) (v:=?vv9) rfl (by kernel_rfl) (by kernel_rfl) (by kernel_rfl) (by kernel_rfl) (by kernel_rfl) (fun _ _ _ h=>h) (Or.inl ⟨by rfl,?yy9⟩) hSd ?rr9
  case yy9=>(intro wq hSq;obtain ⟨_,_,_,_,_,_,_,_⟩:=hSq;go_simp<;>with_reducible rfl)
  try simp only[ke]
  refine j7aj (i:=2) (oi:=_) (v:=?vv10) rfl (by kernel_rfl) (by kernel_rfl) (by kernel_rfl) (by kernel_rfl) (by kernel_rfl) (fun _ _ _ h=>h) (Or.inl ⟨by rfl,?yy10⟩) hSd ?rr10
  case yy10=>(intro wq hSq;obtain ⟨_,_,_,_,_,_,_,_⟩:=hSq;go_simp<;>with_reducible rfl)
  try simp only[ke]
  refine j7aj (i:=3) (oi:=_) (v:=?vv11) rfl (by kernel_rfl) (by kernel_rfl) (by kernel_rfl) (by kernel_rfl) (by kernel_rfl) (fun _ _ _ h=>h) (Or.inl ⟨by rfl,?yy11⟩) hSd ?rr11
  case yy11=>(intro wq hSq;obtain ⟨_,_,_,_,_,_,_,_⟩:=hSq;go_simp<;>with_reducible rfl)
  try simp only[ke]
  refine j7aj (i:=4) (oi:=_) (v:=?vv12) rfl (by kernel_rfl) (by kernel_rfl) (by kernel_rfl) (by kernel_rfl) (by kernel_rfl) (fun _ _ _ h=>h) (Or.inl ⟨by rfl,?yy12⟩) hSd ?rr12
  case yy12=>(intro wq hSq;obtain ⟨_,_,_,_,_,_,_,_⟩:=hSq;go_simp<;>with_reducible rfl)
  try simp only[ke]
  refine j7aj (i:=5) (oi:=_) (v:=?vv13) rfl (by kernel_rfl) (by kernel_rfl) (by kernel_rfl) (by kernel_rfl) (by kernel_rfl) (fun _ _ _ h=>h) (Or.inl ⟨by rfl,?yy13⟩) hSd ?rr13
  case yy13=>(intro wq hSq;obtain ⟨_,_,_,_,_,_,_,_⟩:=hSq;go_simp<;>with_reducible rfl)
  try simp only[ke]
  refine j7aj (i:=6) (oi:=_) (v:=?vv14) rfl (by kernel_rfl) (by kernel_rfl) (by kernel_rfl) (by kernel_rfl) (by kernel_rfl) (fun _ _ _ h=>h) (Or.inl ⟨by rfl,?yy14⟩) hSd ?rr14
  case yy14=>(intro wq hSq;obtain ⟨_,_,_,_,_,_,_,_⟩:=hSq;go_simp<;>with_reducible rfl)
  try simp only[ke]
  refine j7aj (i:=7) (oi:=_) (v:=?vv15) rfl (by kernel_rfl) (by kernel_rfl) (by kernel_rfl) (by kernel_rfl) (by kernel_rfl) (fun _ _ _ h=>h) (Or.inl ⟨by rfl,?yy15⟩) hSd ?rr15
  case yy15=>(intro wq hSq;obtain ⟨_,_,_,_,_,_,_,_⟩:=hSq;go_simp<;>with_reducible rfl)
  try simp only[ke]
  refine znWj (i:=8) (o:=_) (by kernel_rfl) rfl (fun K' hK=>?_)
  rw[if_pos (by rfl)]
  go_simp
  refine (HIX.out _).mono ?_
  rintro e V2 ⟨rfl,hbv2⟩
  have hB2:Below U.heap.size U V2:=hWd2.trans (hbv2.mono hWd2.size)
  have hSd:=HS.out _ hB2
  refine hK.out _ _ hSd ?_
  clear hK
  try simp only[ke]
  refine j7aj (i:=9) (oi:=_) (v:=?vv16) rfl (by kernel_rfl) (by kernel_rfl) (by kernel_rfl) (by kernel_rfl) (by kernel_rfl) (fun _ _ _ h=>h) (Or.inl ⟨by rfl,?yy16⟩) hSd ?rr16
  case yy16=>(intro wq hSq;obtain ⟨_,_,_,_,_,_,_,_⟩:=hSq;go_simp<;>with_reducible rfl)
  try simp only[ke]
  refine j7aj (i:=10) (oi:=_) (v:=?vv17) rfl (by kernel_rfl) (by kernel_rfl) (by kernel_rfl) (by kernel_rfl) (by kernel_rfl) (fun _ _ _ h=>h) (Or.inl ⟨by rfl,?yy17⟩) hSd ?rr17
  case yy17=>(intro wq hSq;obtain ⟨_,_,_,_,_,_,_,_⟩:=hSq;go_simp<;>with_reducible rfl)
  try simp only[ke]
  refine z9gO (o:=_) (by kernel_rfl) rfl (fun K' hK=>?_)
  rw[if_pos (by rfl)]
  go_simp
  refine hK.out _ _ ?_
  clear hK
  refine jFdp (by kernel_rfl) ?_ _
  try simp only[ke]
  go_wp2
  go_ret
  exact ⟨jx9N HPV.out.symm,HB.out.trans (hB2.mono HB.out.size)⟩
 ·rw[if_neg hqc] at HPV
  have hd:((q:Int) == (c:Int))=false:=by simpa using fun h:(q:Int)=c=>hqc (by omega)
  clear hSd
  have hWd2:Below U.heap.size U V1.drew:=hB1.drew
  have hSd:=HS.out _ hWd2
  go_wp2_with fail
  have hmx:Tryz.prog.follows .mixedOrders=true:=by kernel_rfl
  refine qYgd (S:=fun v:World=>v.cell? ⟨w.heap.size,0,none⟩=some (.int .i64 W)∧v.cell? ⟨w.heap.size,1,none⟩=some (.int .i64 H)∧v.cell? ⟨w.heap.size,2,none⟩=some (.slice (some ⟨bk,off,none⟩) zs.length ca)∧v.cell? ⟨w.heap.size+1,0,none⟩=some (.int .i64 p)∧v.cell? ⟨w.heap.size+1+1,0,none⟩=some (.int .i64 X)∧v.cell? ⟨w.heap.size+1+1,1,none⟩=some (.int .i64 Y)∧v.cell? ⟨w.heap.size+1+1+1,0,none⟩=some (.int .i64 c)∧v.cell? ⟨bk,off+K1,none⟩=some (.int .i64 z)) (f:=5) hmx ?_
  show jZdv _ _ _ _ _ _ 6 _ _ V1.drew
  refine j7aj (i:=0) (oi:=_) (v:=?vv18) rfl (by kernel_rfl) (by kernel_rfl) (by kernel_rfl) (by kernel_rfl) (by kernel_rfl) (fun _ _ _ h=>h) (Or.inl ⟨by rfl,?yy18⟩) hSd ?rr18
  case yy18=>(intro wq hSq;obtain ⟨_,_,_,_,_,_,_,_⟩:=hSq;go_simp<;>with_reducible rfl)
  try simp only[ke]
  refine j7aj (i:=1) (oi:=_) (v:=?vv19) rfl (by kernel_rfl) (by kernel_rfl) (by kernel_rfl) (by kernel_rfl) (by kernel_rfl) (fun _ _ _ h=>h) (Or.inl ⟨by rfl,?yy19⟩) hSd ?rr19
  case yy19=>(intro wq hSq;obtain ⟨_,_,_,_,_,_,_,_⟩:=hSq;go_simp<;>with_reducible rfl)
  try simp only[ke]
  refine j7aj (i:=3) (oi:=_) (v:=?vv20) rfl (by kernel_rfl) (by kernel_rfl) (by kernel_rfl) (by kernel_rfl) (by kernel_rfl) (fun _ _ _ h=>h) (Or.inl ⟨by rfl,?yy20⟩) hSd ?rr20
  case yy20=>(intro wq hSq;obtain ⟨_,_,_,_,_,_,_,_⟩:=hSq;go_simp<;>with_reducible rfl)
  try simp only[ke]
  refine znWj (i:=2) (o:=_) (by kernel_rfl) rfl (fun K' hK=>?_)
  rw[if_pos (by rfl)]
  go_simp
  refine ((callsIn_wide (n:=3)).1 (zJHU Fence.wide _ trivial rfl _ _ _)).mono ?_
  rintro e V2 ⟨rfl,rfl⟩
  have hB2:Below U.heap.size U (V1.drew.alloc (ka #[.int .i64 X,.int .i64 Y] 97)):=hWd2.alloc hWd2.size _
  have hSd:=HS.out _ hB2
  refine hK.out _ _ hSd ?_
  clear hK
  try simp only[ke]
  refine znWj (i:=4) (o:=_) (by kernel_rfl) rfl (fun K' hK=>?_)
  rw[if_pos (by rfl)]
  go_simp
  have hsU:U.heap.size≤V1.heap.size:=hWd2.size
  have tB:(V1.drew.alloc (ka #[.int .i64 X,.int .i64 Y] 97)).heap[V1.drew.heap.size]?=some (.cells #[.int .i64 X,.int .i64 Y] 97 (0,0)):=al1 V1.drew _
  refine (HMP.out _ (HB.out.trans (hB2.mono HB.out.size)) V1.drew.heap.size (by simp) (by rw[kd tB];rfl) (by rw[kd tB];rfl) (by simp;omega) (by simp;omega) hSd.2.2.2.1 hSd.2.2.2.2.2.2.1).mono ?_
  rintro e V3 ⟨rfl,hb3⟩
  have hB3:Below U.heap.size U V3:=hB2.trans (hb3.mono hB2.size)
  have hSd:=HS.out _ hB3
  refine hK.out _ _ hSd ?_
  clear hK
  try simp only[ke]
  refine z9gO (o:=_) (by kernel_rfl) rfl (fun K' hK=>?_)
  rw[if_pos (by rfl)]
  go_simp
  refine hK.out _ _ ?_
  clear hK
  refine jFdp (by kernel_rfl) ?_ _
  try simp only[ke]
  go_wp2
  go_ret
  exact ⟨jx9N HPV.out.symm,HB.out.trans (hB3.mono HB.out.size)⟩
def fillP (zs:List Int) (W H p j:Nat):Px:=(partV zs W H p (j % W) (j / W) 0,partV zs W H p (j % W) (j / W) 1,partV zs W H p (j % W) (j / W) 2)
theorem qfZD (W H p j bk off ca:Nat) (hW1:1≤W) (hW:W≤64) (hH1:1≤H) (hH:H≤64) (hp:p≤3) (zs:List Int) (hlen:zs.length=H*W) (hzs:allIn 0 65535 zs=true) (hj:j<zs.length) (Bp Bh:Nat) (w:World) (hBp:Bp<w.heap.size) (hBh:Bh<w.heap.size) (hbk:bk<w.heap.size)
  (k0:w.cell? ⟨Bp,0,none⟩=some (.int .i64 W)) (k1:w.cell? ⟨Bp,1,none⟩=some (.int .i64 H)) (k2:w.cell? ⟨Bp,2,none⟩=some (.slice (some ⟨bk,off,none⟩) zs.length ca)) (k3:w.cell? ⟨Bh,0,none⟩=some (.int .i64 p))
  (hcell:∀j,j<zs.length→w.cell? ⟨bk,off+j,none⟩=some (.int .i64 (zAt zs j))) :
  Calls Tryz.prog 72 #[.agg #[.int .i64 (j % W:Nat),.int .i64 (j / W:Nat)],.pointer (some ⟨Bp,0,none⟩),.pointer (some ⟨Bh,0,none⟩)] w fun e w'=>e=.returned (pixV (fillP zs W H p j))∧Below w.heap.size w w':=by
 have hXW:j % W<W:=Nat.mod_lt _ (by omega)
 have hYH:j / W<H:=by rw[hlen] at hj;exact Nat.div_lt_of_lt_mul (by rw[km];exact hj)
 have HF:=hide (show fillP zs W H p j=(partV zs W H p (j % W) (j / W) 0,partV zs W H p (j % W) (j / W) 1,partV zs W H p (j % W) (j / W) 2) from rfl)
 generalize fillP zs W H p j=RES at *
 obtain ⟨X,hX⟩:∃X,j % W=X:=⟨_,rfl⟩
 obtain ⟨Y,hY⟩:∃Y,j / W=Y:=⟨_,rfl⟩
 rw[hX] at hXW
 rw[hY] at hYH
 rw[hX,hY] at HF
 rw[hX,hY]
 clear hX hY
 have HPA:=hide (fun (c:Nat) (v:World) (hv:Below w.heap.size w v)=>Xdtf W H p X Y c bk off ca hW1 hW hH1 hH hp hXW hYH zs hlen hzs v (kh hbk hv.size) (fun j hj=>(hv.cell (p:=⟨bk,off+j,none⟩) hbk).trans (hcell j hj)))
 obtain ⟨r0,hr0⟩:∃r,partV zs W H p X Y 0=r:=⟨_,rfl⟩
 obtain ⟨r1,hr1⟩:∃r,partV zs W H p X Y 1=r:=⟨_,rfl⟩
 obtain ⟨r2,hr2⟩:∃r,partV zs W H p X Y 2=r:=⟨_,rfl⟩
 have HP0:=hide (HPA.out 0)
 have HP1:=hide (HPA.out 1)
 have HP2:=hide (HPA.out 2)
 rw[hr0] at HP0 HF
 rw[hr1] at HP1 HF
 rw[hr2] at HP2 HF
 clear HPA hr0 hr1 hr2 hcell hlen hzs
 have HB:=hide (be2 w (ka #[.int .i64 X,.int .i64 Y] 97) (ka #[.int .i64 0,.int .i64 0,.int .i64 0] 61))
 obtain ⟨a1,a2⟩:=al2 w (ka #[.int .i64 X,.int .i64 Y] 97) (ka #[.int .i64 0,.int .i64 0,.int .i64 0] 61)
 go_enter Tryz.func72,Tryz.ntmps72
 go_wp2_with fail
 have hl1:=(kb.1 a1).1
 have hl2:=(kb.1 a2).1
 generalize (w.alloc (ka #[.int .i64 X,.int .i64 Y] 97)).alloc (ka #[.int .i64 0,.int .i64 0,.int .i64 0] 61)=U at *
 have HS:=hide (show ∀v,Below U.heap.size U v→v.cell? ⟨Bp,0,none⟩=some (.int .i64 W)∧v.cell? ⟨Bp,1,none⟩=some (.int .i64 H)∧v.cell? ⟨Bp,2,none⟩=some (.slice (some ⟨bk,off,none⟩) zs.length ca)∧v.cell? ⟨Bh,0,none⟩=some (.int .i64 p)∧v.cell? ⟨w.heap.size,0,none⟩=some (.int .i64 X)∧v.cell? ⟨w.heap.size,1,none⟩=some (.int .i64 Y) from fun v h=>by
  have hw:=HB.out.trans (h.mono HB.out.size)
  have t:=(h.block _ hl1).trans a1
  exact ⟨(hw.cell (p:=⟨Bp,0,none⟩) hBp).trans k0,(hw.cell (p:=⟨Bp,1,none⟩) hBp).trans k1,(hw.cell (p:=⟨Bp,2,none⟩) hBp).trans k2,(hw.cell (p:=⟨Bh,0,none⟩) hBh).trans k3,by rw[kd t];rfl,by rw[kd t];rfl⟩)
 have hWd:Below U.heap.size U U.drew:=(Below.refl _ _).drew
 have hSd:=HS.out _ hWd
 have hmx:Tryz.prog.follows .mixedOrders=true:=by kernel_rfl
 refine qYgd (S:=fun v:World=>v.cell? ⟨Bp,0,none⟩=some (.int .i64 W)∧v.cell? ⟨Bp,1,none⟩=some (.int .i64 H)∧v.cell? ⟨Bp,2,none⟩=some (.slice (some ⟨bk,off,none⟩) zs.length ca)∧v.cell? ⟨Bh,0,none⟩=some (.int .i64 p)∧v.cell? ⟨w.heap.size,0,none⟩=some (.int .i64 X)∧v.cell? ⟨w.heap.size,1,none⟩=some (.int .i64 Y)) (f:=13) hmx ?_
 show jZdv _ _ _ _ _ _ 14 _ _ U.drew
 refine j7aj (i:=0) (oi:=_) (v:=?vv1) rfl (by kernel_rfl) (by kernel_rfl) (by kernel_rfl) (by kernel_rfl) (by kernel_rfl) (fun _ _ _ h=>h) (Or.inl ⟨by rfl,?yy1⟩) hSd ?rr1
 case yy1=>(intro wq hSq;obtain ⟨_,_,_,_,_,_⟩:=hSq;go_simp<;>with_reducible rfl)
 try simp only[ke]
 refine j7aj (i:=1) (oi:=_) (v:=?vv2) rfl (by kernel_rfl) (by kernel_rfl) (by kernel_rfl) (by kernel_rfl) (by kernel_rfl) (fun _ _ _ h=>h) (Or.inl ⟨by rfl,?yy2⟩) hSd ?rr2
 case yy2=>(intro wq hSq;obtain ⟨_,_,_,_,_,_⟩:=hSq;go_simp<;>with_reducible rfl)
 try simp only[ke]
 refine j7aj (i:=2) (oi:=_) (v:=?vv3) rfl (by kernel_rfl) (by kernel_rfl) (by kernel_rfl) (by kernel_rfl) (by kernel_rfl) (fun _ _ _ h=>h) (Or.inl ⟨by rfl,?yy3⟩) hSd ?rr3
 case yy3=>(intro wq hSq;obtain ⟨_,_,_,_,_,_⟩:=hSq;go_simp<;>with_reducible rfl)
 try simp only[ke]
 refine j7aj (i:=4) (oi:=_) (v:=?vv4) rfl (by kernel_rfl) (by kernel_rfl) (by kernel_rfl) (by kernel_rfl) (by kernel_rfl) (fun _ _ _ h=>h) (Or.inl ⟨by rfl,?yy4⟩) hSd ?rr4
 case yy4=>(intro wq hSq;obtain ⟨_,_,_,_,_,_⟩:=hSq;go_simp<;>with_reducible rfl)
 try simp only[ke]
 refine j7aj (i:=5) (oi:=_) (v:=?vv5) rfl (by kernel_rfl) (by kernel_rfl) (by kernel_rfl) (by kernel_rfl) (by kernel_rfl) (fun _ _ _ h=>h) (Or.inl ⟨by rfl,?yy5⟩) hSd ?rr5
 case yy5=>(intro wq hSq;obtain ⟨_,_,_,_,_,_⟩:=hSq;go_simp<;>with_reducible rfl)
 try simp only[ke]
 refine j7aj (i:=6) (oi:=_) (v:=?vv6) rfl (by kernel_rfl) (by kernel_rfl) (by kernel_rfl) (by kernel_rfl) (by kernel_rfl) (fun _ _ _ h=>h) (Or.inl ⟨by rfl,?yy6⟩) hSd ?rr6
 case yy6=>(intro wq hSq;obtain ⟨_,_,_,_,_,_⟩:=hSq;go_simp<;>with_reducible rfl)
 try simp only[ke]
 refine j7aj (i:=8) (oi:=_) (v:=?vv7) rfl (by kernel_rfl) (by kernel_rfl) (by kernel_rfl) (by kernel_rfl) (by kernel_rfl) (fun _ _ _ h=>h) (Or.inl ⟨by rfl,?yy7⟩) hSd ?rr7
 case yy7=>(intro wq hSq;obtain ⟨_,_,_,_,_,_⟩:=hSq;go_simp<;>with_reducible rfl)
 try simp only[ke]
 refine j7aj (i:=9) (oi:=_) (v:=?vv8) rfl (by kernel_rfl) (by kernel_rfl) (by kernel_rfl) (by kernel_rfl) (by kernel_rfl) (fun _ _ _ h=>h) (Or.inl ⟨by rfl,?yy8⟩) hSd ?rr8
 case yy8=>(intro wq hSq;obtain ⟨_,_,_,_,_,_⟩:=hSq;go_simp<;>with_reducible rfl)
 try simp only[ke]
 refine j7aj (i:=10) (oi:=_) (v:=?vv9) rfl (by kernel_rfl) (by kernel_rfl) (by kernel_rfl) (by kernel_rfl) (by kernel_rfl) (fun _ _ _ h=>h) (Or.inl ⟨by rfl,?yy9⟩) hSd ?rr9
 case yy9=>(intro wq hSq;obtain ⟨_,_,_,_,_,_⟩:=hSq;go_simp<;>with_reducible rfl)
 try simp only[ke]
 refine znWj (i:=3) (o:=_) (by kernel_rfl) rfl (fun K' hK=>?_)
 rw[if_pos (by rfl)]
 go_simp
 refine (HP0.out _ (HB.out.trans (hWd.mono HB.out.size))).mono ?_
 rintro e V0 ⟨rfl,hbv0⟩
 have hB0:Below U.heap.size U V0:=hWd.trans (hbv0.mono hWd.size)
 have hSd:=HS.out _ hB0
 refine hK.out _ _ hSd ?_
 clear hK
 try simp only[ke]
 refine znWj (i:=7) (o:=_) (by kernel_rfl) rfl (fun K' hK=>?_)
 rw[if_pos (by rfl)]
 go_simp
 refine (HP1.out _ (HB.out.trans (hB0.mono HB.out.size))).mono ?_
 rintro e V1 ⟨rfl,hbv1⟩
 have hB1:Below U.heap.size U V1:=hB0.trans (hbv1.mono hB0.size)
 have hSd:=HS.out _ hB1
 refine hK.out _ _ hSd ?_
 clear hK
 try simp only[ke]
 refine znWj (i:=11) (o:=_) (by kernel_rfl) rfl (fun K' hK=>?_)
 rw[if_pos (by rfl)]
 go_simp
 refine (HP2.out _ (HB.out.trans (hB1.mono HB.out.size))).mono ?_
 rintro e V2 ⟨rfl,hbv2⟩
 have hB2:Below U.heap.size U V2:=hB1.trans (hbv2.mono hB1.size)
 have hSd:=HS.out _ hB2
 refine hK.out _ _ hSd ?_
 clear hK
 try simp only[ke]
 refine j7aj (i:=12) (oi:=_) (v:=?vv10) rfl (by kernel_rfl) (by kernel_rfl) (by kernel_rfl) (by kernel_rfl) (by kernel_rfl) (fun _ _ _ h=>h) (Or.inl ⟨by rfl,?yy10⟩) hSd ?rr10
 case yy10=>(intro wq hSq;obtain ⟨_,_,_,_,_,_⟩:=hSq;go_simp<;>with_reducible rfl)
 try simp only[ke]
 have gR:=(hB2.block (w.heap.size+1) hl2).trans a2
 obtain ⟨z0,z1,z2⟩:=z5EY gR
 have f0:=kc gR 0
 have f1:=kc gR 1
 have f2:=kc gR 2
 refine z9gO (o:=_) (by kernel_rfl) rfl (fun K' hK=>?_)
 rw[if_pos (by rfl)]
 go_simp
 refine hK.out _ _ ?_
 clear hK
 refine jFdp (by kernel_rfl) ?_ _
 try simp only[ke]
 have HFIN:=hide (zHqh (HB.out.trans (hB2.mono HB.out.size)) (show w.heap.size≤w.heap.size+1 by omega) (.int .i64 r0) (.int .i64 r1) (.int .i64 r2))
 go_wp2
 exact bodyPost_ret (v:=.agg #[.int .i64 r0,.int .i64 r1,.int .i64 r2]) (by simp[results,Tryz.results72,go_sem,z0,z1,z2]) rfl ⟨by rw[HF.out],HFIN.out⟩
def fillE (W H:Int) (zs:List Int) (phase:Int):Int:=if q0fM W H zs=true then (if qdne phase=true then 0 else 3) else 1
def fillL (W H:Int) (zs:List Int) (phase:Int):List Px:=(List.range zs.length).map (fillP zs W.toNat H.toNat phase.toNat)
theorem XiEN (W H:Int) (v:Value) (zs:List Int) (phase:Int) (w:World) (hv:jCvT w v zs) :
  Calls Tryz.prog 20 #[.agg #[.int .i64 W,.int .i64 H,v],.int .i64 phase] w fun e w'=>∃r,e=.returned (.tuple #[.agg #[.int .i64 (okW (fillE W H zs phase) W),.int .i64 (okW (fillE W H zs phase) H),r],.int .i64 (fillE W H zs phase)])∧IsPix w' r (okL (fillE W H zs phase) (fillL W H zs phase))∧Below w.heap.size w w'∧Fresh w.heap.size r∧Free w' r:=by
 have HV:=hide hv
 obtain ⟨E,hE⟩:∃E,fillE W H zs phase=E:=⟨_,rfl⟩
 rw[hE]
 by_cases hp:q0fM W H zs=true
 ·by_cases hph:qdne phase=true
  ·have he:E=0:=by rw[←hE,fillE,if_pos hp,if_pos hph]
   subst he
   clear hE
   obtain ⟨⟨w1,w2⟩,⟨h1,h2⟩,hl,_⟩:=qwcI hp
   have hz:=XAOl hp
   have hph2:0≤phase∧phase≤3:=by simpa [qdne] using hph
   have hsm:=zAFj ⟨w1,w2⟩ ⟨h1,h2⟩
   have hn1:1≤zs.length:=by omega
   obtain ⟨bk,off,ca,rfl,hbk,hcell⟩:=hv.cells hn1
   obtain ⟨WN,rfl⟩:=kg (show 0≤W by omega)
   obtain ⟨HN,rfl⟩:=kg (show 0≤H by omega)
   obtain ⟨PN,rfl⟩:=kg hph2.1
   have HLEN:=hide (show zs.length=HN*WN by rw[km];exact_mod_cast hl)
   have HZ:=hide hz
   have HC:=hide hcell
   rw[show okW 0 (WN:Int)=WN from rfl,show okW 0 (HN:Int)=HN from rfl,show okL 0 (fillL (WN:Int) (HN:Int) zs (PN:Int))=(List.range zs.length).map (fillP zs WN HN PN) from rfl]
   clear hl hz hcell hsm hv
   go_enter Tryz.func20,Tryz.ntmps20
   go_wp2_with fail
   obtain ⟨a1,a2,a3⟩:=al3 w (ka #[.int .i64 (WN:Nat),.int .i64 (HN:Nat),.slice (some ⟨bk,off,none⟩) zs.length ca] 54) (ka #[.int .i64 (PN:Nat)] 3) (ka #[.int .i64 0,.int .i64 0,.slice none 0 0] 24)
   have hB:=be3 w (ka #[.int .i64 (WN:Nat),.int .i64 (HN:Nat),.slice (some ⟨bk,off,none⟩) zs.length ca] 54) (ka #[.int .i64 (PN:Nat)] 3) (ka #[.int .i64 0,.int .i64 0,.slice none 0 0] 24)
   have hs3:(((w.alloc (ka #[.int .i64 (WN:Nat),.int .i64 (HN:Nat),.slice (some ⟨bk,off,none⟩) zs.length ca] 54)).alloc (ka #[.int .i64 (PN:Nat)] 3)).alloc (ka #[.int .i64 0,.int .i64 0,.slice none 0 0] 24)).heap.size=w.heap.size+3:=by simp
   generalize ((w.alloc (ka #[.int .i64 (WN:Nat),.int .i64 (HN:Nat),.slice (some ⟨bk,off,none⟩) zs.length ca] 54)).alloc (ka #[.int .i64 (PN:Nat)] 3)).alloc (ka #[.int .i64 0,.int .i64 0,.slice none 0 0] 24)=U at *
   refine (XeC7 WN HN _ zs _ (HV.out.below hB (kf _))).mono ?_
   rintro e w1 ⟨rfl,hb1⟩
   rw[hp]
   have g2:=bx1 ((hb1.block (w.heap.size+1) (by omega)).trans a2)
   have g3:=(hb1.block (w.heap.size+1+1) (by omega)).trans a3
   go_wp2_with fail
   refine (qtgz _ _).mono ?_
   rintro e w2 ⟨rfl,hb2⟩
   rw[hph]
   clear g2
   replace hb2:=quJN hb1 hb2
   replace g3:=(hb2.block (w.heap.size+1+1) (by omega)).trans a3
   obtain ⟨p0,p1,p2⟩:=z5EY ((hb2.block (w.heap.size) (by omega)).trans a1)
   go_wp2_with fail
   have hbG:=quJN hb2 (qUNz w2 (ka #[.int .i64 (WN:Nat),.int .i64 (HN:Nat)] 95))
   have hs2:=hb2.size
   clear p0 p1 p2
   generalize w2.alloc (ka #[.int .i64 (WN:Nat),.int .i64 (HN:Nat)] 95)=w2g at *
   refine (qNgU WN HN zs.length (by omega) (by omega) HLEN.out 72 #[.pointer (some ⟨w.heap.size,0,none⟩),.pointer (some ⟨w.heap.size+1,0,none⟩)] (fillP zs WN HN PN) _ (enters_of Tryz.func72 (by kernel_rfl) rfl) ?_).mono ?_
   ·intro j V hj hV
    have hb3:=quJN hbG hV
    have hbw:=hB.trans (hb3.mono hB.size)
    obtain ⟨e0,e1,e2⟩:=z5EY ((hb3.block (w.heap.size) (by omega)).trans a1)
    have e3:=bx1 ((hb3.block (w.heap.size+1) (by omega)).trans a2)
    have hs:=hb3.size
    exact qfZD WN HN PN j bk off ca (by omega) (by omega) (by omega) (by omega) (by omega) zs HLEN.out HZ.out hj w.heap.size (w.heap.size+1) V (by omega) (by omega) (kh hbk hbw.size) e0 e1 e2 e3 (fun i hi=>(hbw.cell (p:=⟨bk,off+i,none⟩) hbk).trans (HC.out i hi))
   ·rintro e w3 ⟨r,rfl,hr,hb3,hfr,hfe⟩
    replace hb3:=quJN hbG hb3
    replace g3:=(hb3.block (w.heap.size+1+1) (by omega)).trans a3
    obtain ⟨z0,z1,z2⟩:=z5EY g3
    have f0:=kc g3 0
    have f1:=kc g3 1
    have f2:=kc g3 2
    have HR:=hide hr
    obtain ⟨ro,rc,rfl,_,_⟩:=hr
    have HFIN:=hide (zHqh (hB.trans (hb3.mono hB.size)) (show w.heap.size≤w.heap.size+1+1 by omega) (.int .i64 (WN:Nat)) (.int .i64 (HN:Nat)) (.slice ro ((List.range zs.length).map (fillP zs WN HN PN)).length rc))
    have hsG:=hbG.size
    have HPX2:=hide (HR.out.set3 hfr (show w.heap.size+1+1<w2g.heap.size by omega) (.int .i64 (WN:Nat)) (.int .i64 (HN:Nat)) (.slice ro ((List.range zs.length).map (fillP zs WN HN PN)).length rc))
    have HFE:=hide (hfe.set3 hfr (show w.heap.size+1+1<w2g.heap.size by omega) (.int .i64 (WN:Nat)) (.int .i64 (HN:Nat)) (.slice ro ((List.range zs.length).map (fillP zs WN HN PN)).length rc))
    rw[List.length_map,List.length_range] at HPX2 HFIN hfr HFE
    rw[List.length_map,List.length_range]
    go_wp2
    exact bodyPost_ret (v:=.tuple #[.agg #[.int .i64 (WN:Nat),.int .i64 (HN:Nat),.slice ro zs.length rc],.int .i64 0]) (by simp[results,Tryz.results20,go_sem,z0,z1,z2]) rfl ⟨_,rfl,HPX2.out,HFIN.out,hfr.mono (by omega),HFE.out⟩
  ·have he:E=3:=by rw[←hE,fillE,if_pos hp,if_neg hph]
   have hph:qdne phase=false:=by simpa using hph
   subst he
   clear hE
   obtain ⟨ao,ca,rfl,_,_⟩:=hv
   go_enter Tryz.func20,Tryz.ntmps20
   go_wp2_with fail
   obtain ⟨a1,a2,a3⟩:=al3 w (ka #[.int .i64 W,.int .i64 H,.slice ao zs.length ca] 54) (ka #[.int .i64 phase] 3) (ka #[.int .i64 0,.int .i64 0,.slice none 0 0] 24)
   have hB:=be3 w (ka #[.int .i64 W,.int .i64 H,.slice ao zs.length ca] 54) (ka #[.int .i64 phase] 3) (ka #[.int .i64 0,.int .i64 0,.slice none 0 0] 24)
   have hs3:(((w.alloc (ka #[.int .i64 W,.int .i64 H,.slice ao zs.length ca] 54)).alloc (ka #[.int .i64 phase] 3)).alloc (ka #[.int .i64 0,.int .i64 0,.slice none 0 0] 24)).heap.size=w.heap.size+3:=by simp
   generalize ((w.alloc (ka #[.int .i64 W,.int .i64 H,.slice ao zs.length ca] 54)).alloc (ka #[.int .i64 phase] 3)).alloc (ka #[.int .i64 0,.int .i64 0,.slice none 0 0] 24)=U at *
   refine (XeC7 W H _ zs _ (HV.out.below hB (kf _))).mono ?_
   rintro e w1 ⟨rfl,hb1⟩
   rw[hp]
   have g2:=bx1 ((hb1.block (w.heap.size+1) (by omega)).trans a2)
   have g3:=(hb1.block (w.heap.size+1+1) (by omega)).trans a3
   go_wp2_with fail
   refine (qtgz _ _).mono ?_
   rintro e w2 ⟨rfl,hb2⟩
   rw[hph]
   clear g2
   replace hb2:=quJN hb1 hb2
   replace g3:=(hb2.block (w.heap.size+1+1) (by omega)).trans a3
   obtain ⟨z0,z1,z2⟩:=z5EY g3
   have f0:=kc g3 0
   have f1:=kc g3 1
   have f2:=kc g3 2
   have HFIN:=hide (zHqh (hB.trans (hb2.mono hB.size)) (show w.heap.size≤w.heap.size+1+1 by omega) (.int .i64 0) (.int .i64 0) (.slice none 0 0))
   go_wp2
   exact bodyPost_ret (v:=.tuple #[.agg #[.int .i64 0,.int .i64 0,.slice none 0 0],.int .i64 3]) (by simp[results,Tryz.results20,go_sem,z0,z1,z2]) rfl ⟨.slice none 0 0,rfl,IsPix.nil _,HFIN.out,Fresh.nil _,Free.nil _⟩
 ·have he:E=1:=by rw[←hE,fillE,if_neg hp]
  have hp:q0fM W H zs=false:=by simpa using hp
  subst he
  clear hE
  obtain ⟨ao,ca,rfl,_,_⟩:=hv
  go_enter Tryz.func20,Tryz.ntmps20
  go_wp2_with fail
  obtain ⟨a1,a2,a3⟩:=al3 w (ka #[.int .i64 W,.int .i64 H,.slice ao zs.length ca] 54) (ka #[.int .i64 phase] 3) (ka #[.int .i64 0,.int .i64 0,.slice none 0 0] 24)
  have hB:=be3 w (ka #[.int .i64 W,.int .i64 H,.slice ao zs.length ca] 54) (ka #[.int .i64 phase] 3) (ka #[.int .i64 0,.int .i64 0,.slice none 0 0] 24)
  have hs3:(((w.alloc (ka #[.int .i64 W,.int .i64 H,.slice ao zs.length ca] 54)).alloc (ka #[.int .i64 phase] 3)).alloc (ka #[.int .i64 0,.int .i64 0,.slice none 0 0] 24)).heap.size=w.heap.size+3:=by simp
  generalize ((w.alloc (ka #[.int .i64 W,.int .i64 H,.slice ao zs.length ca] 54)).alloc (ka #[.int .i64 phase] 3)).alloc (ka #[.int .i64 0,.int .i64 0,.slice none 0 0] 24)=U at *
  refine (XeC7 W H _ zs _ (HV.out.below hB (kf _))).mono ?_
  rintro e w1 ⟨rfl,hb1⟩
  rw[hp]
  have g2:=bx1 ((hb1.block (w.heap.size+1) (by omega)).trans a2)
  have g3:=(hb1.block (w.heap.size+1+1) (by omega)).trans a3
  generalize w1=w2 at *
  have hb2:=hb1
  obtain ⟨z0,z1,z2⟩:=z5EY g3
  have f0:=kc g3 0
  have f1:=kc g3 1
  have f2:=kc g3 2
  have HFIN:=hide (zHqh (hB.trans (hb2.mono hB.size)) (show w.heap.size≤w.heap.size+1+1 by omega) (.int .i64 0) (.int .i64 0) (.slice none 0 0))
  go_wp2
  exact bodyPost_ret (v:=.tuple #[.agg #[.int .i64 0,.int .i64 0,.slice none 0 0],.int .i64 1]) (by simp[results,Tryz.results20,go_sem,z0,z1,z2]) rfl ⟨.slice none 0 0,rfl,IsPix.nil _,HFIN.out,Fresh.nil _,Free.nil _⟩
theorem q3wV (W H:Int) (v:Value) (zs:List Int) (phase:Int) (w:World) (hv:jCvT w v zs) :
  Calls Tryz.prog 20 #[.agg #[.int .i64 W,.int .i64 H,v],.int .i64 phase] w fun e w'=>∃r,e=.returned (.tuple #[.agg #[.int .i64 (okW (fillE W H zs phase) W),.int .i64 (okW (fillE W H zs phase) H),r],.int .i64 (fillE W H zs phase)])∧IsPix w' r (okL (fillE W H zs phase) (fillL W H zs phase))∧Below w.heap.size w w'∧Fresh w.heap.size r :=
 (XiEN W H v zs phase w hv).mono fun _ _ ⟨r,h1,h2,h3,h4,_⟩=>⟨r,h1,h2,h3,h4⟩
def inTop (x:Int):Bool:=allIn 0 65535 [x]
theorem XUbU (x:Int):inTop x=true↔0≤x∧x≤65535:=by simp[inTop,allIn]
def qYU7 (ls:List Pt) (x:Int):Int:=if zamz ls=true then (if inTop x=true then 0 else 3) else 1
def zzs5 (ls:List Pt) (x:Int):Int:=if qYU7 ls x=0 then qy0p ls x else 0
theorem z26J (v:Value) (ls:List Pt) (x:Int) (w:World) (hv:IsPts w v ls) :
  Calls Tryz.prog 150 #[v,.int .i64 x] w fun e w'=>e=.returned (.tuple #[.int .i64 (zzs5 ls x),.int .i64 (qYU7 ls x)])∧Below w.heap.size w w':=by
 have HV:=hide hv
 clear hv
 obtain ⟨E,hE⟩:∃E,qYU7 ls x=E:=⟨_,rfl⟩
 obtain ⟨Z,hZ⟩:∃Z,zzs5 ls x=Z:=⟨_,rfl⟩
 rw[hE,hZ]
 rw[zzs5,hE] at hZ
 by_cases hc:zamz ls=true
 ·by_cases hx:inTop x=true
  ·have he:E=0:=by rw[←hE,qYU7,if_pos hc,if_pos hx]
   subst he
   rw[if_pos rfl] at hZ
   have HZ:=hide hZ
   obtain ⟨x0,x1⟩:=(XUbU x).1 hx
   have HC:=hide (zqz3 hc)
   clear hE hZ
   go_enter Tryz.func150,Tryz.ntmps150
   go_wp2_with fail
   refine (jHKJ _ ls _ HV.out).mono ?_
   rintro e w1 ⟨rfl,hb1⟩
   rw[hc]
   go_wp2_with fail
   refine (qFis 0 65535 _ [x] _ (ints1 w1 x)).mono ?_
   rintro e w2 ⟨rfl,rfl⟩
   rw[show allIn 0 65535 [x]=true from hx]
   have hb2:=quJN hb1 (qUNz w1 (ka #[.int .i64 x] 3))
   clear hc hx
   go_wp2_with fail
   refine (qmUZ _ ls x x0 x1 HC.out _ (HV.out.below hb2 (kf _))).mono ?_
   rintro e w3 ⟨rfl,hb3⟩
   go_wp2
   go_ret2
   rw[HZ.out]
   exact ⟨rfl,quJN hb2 hb3⟩
  ·have he:E=3:=by rw[←hE,qYU7,if_pos hc,if_neg hx]
   subst he
   rw[if_neg (by decide)] at hZ
   subst hZ
   have hx:allIn 0 65535 [x]=false:=by simpa [inTop] using hx
   clear hE
   go_enter Tryz.func150,Tryz.ntmps150
   go_wp2_with fail
   refine (jHKJ _ ls _ HV.out).mono ?_
   rintro e w1 ⟨rfl,hb1⟩
   rw[hc]
   go_wp2_with fail
   refine (qFis 0 65535 _ [x] _ (ints1 w1 x)).mono ?_
   rintro e w2 ⟨rfl,rfl⟩
   rw[hx]
   have hb2:=quJN hb1 (qUNz w1 (ka #[.int .i64 x] 3))
   go_wp2
   go_ret2
   exact ⟨rfl,hb2⟩
 ·have he:E=1:=by rw[←hE,qYU7,if_neg hc]
  subst he
  rw[if_neg (by decide)] at hZ
  subst hZ
  have hc:zamz ls=false:=by simpa using hc
  clear hE
  go_enter Tryz.func150,Tryz.ntmps150
  go_wp2_with fail
  refine (jHKJ _ ls _ HV.out).mono ?_
  rintro e w1 ⟨rfl,hb1⟩
  rw[hc]
  go_wp2
  go_ret2
  exact ⟨rfl,hb1⟩
def bendP (ls:List Pt) (p:Px):Px:=(qy0p ls p.1,qy0p ls p.2.1,qy0p ls p.2.2)
theorem X2Jq (Bl:Nat) (v:Value) (ls:List Pt) (hcv:jhAl ls) (p:Px) (hp:pxOk p=true) (V:World) (hB:Bl<V.heap.size) (hv:IsPts V v ls) (hc:V.cell? ⟨Bl,0,none⟩=some v) :
  Calls Tryz.prog 276 #[pixV p,.pointer (some ⟨Bl,0,none⟩)] V fun e w'=>e=.returned (pixV (bendP ls p))∧Below V.heap.size V w':=by
 obtain ⟨⟨r1,r2⟩,⟨g1,g2⟩,u1,u2⟩:=(X1aR p).1 hp
 obtain ⟨r,g,u⟩:=p
 simp only at r1 r2 g1 g2 u1 u2
 have HB1:=be2 V (ka #[.int .i64 r,.int .i64 g,.int .i64 u] 61) (ka #[.int .i64 0,.int .i64 0,.int .i64 0] 61)
 obtain ⟨k1,k2⟩:=al2 V (ka #[.int .i64 r,.int .i64 g,.int .i64 u] 61) (ka #[.int .i64 0,.int .i64 0,.int .i64 0] 61)
 have hsU:((V.alloc (ka #[.int .i64 r,.int .i64 g,.int .i64 u] 61)).alloc (ka #[.int .i64 0,.int .i64 0,.int .i64 0] 61)).heap.size=V.heap.size+2:=by simp
 have HV:=hide hv
 obtain ⟨ao,ca,rfl,_,_⟩:=hv
 go_enter Tryz.func276,Tryz.ntmps276
 go_wp2_with fail
 generalize (V.alloc (ka #[.int .i64 r,.int .i64 g,.int .i64 u] 61)).alloc (ka #[.int .i64 0,.int .i64 0,.int .i64 0] 61)=U at *
 have HS:=hide (show ∀w',Below U.heap.size U w'→(w'.cell? ⟨Bl,0,none⟩=some (.slice ao ls.length ca)∧w'.cell? ⟨V.heap.size,0,none⟩=some (.int .i64 r)∧w'.cell? ⟨V.heap.size,1,none⟩=some (.int .i64 g)∧w'.cell? ⟨V.heap.size,2,none⟩=some (.int .i64 u)) from fun w' h=>by
  have hV:=HB1.trans (h.mono HB1.size)
  obtain ⟨q0,q1,q2⟩:=z5EY ((h.block V.heap.size (by omega)).trans k1)
  exact ⟨(hV.cell (p:=⟨Bl,0,none⟩) hB).trans hc,q0,q1,q2⟩)
 have HS3:=hide (show ∀w' x y z,Below U.heap.size U w'→((((w'.setCell ⟨V.heap.size+1,0,none⟩ x).setCell ⟨V.heap.size+1,1,none⟩ y).setCell ⟨V.heap.size+1,2,none⟩ z).cell? ⟨Bl,0,none⟩=some (.slice ao ls.length ca)∧(((w'.setCell ⟨V.heap.size+1,0,none⟩ x).setCell ⟨V.heap.size+1,1,none⟩ y).setCell ⟨V.heap.size+1,2,none⟩ z).cell? ⟨V.heap.size,0,none⟩=some (.int .i64 r)∧(((w'.setCell ⟨V.heap.size+1,0,none⟩ x).setCell ⟨V.heap.size+1,1,none⟩ y).setCell ⟨V.heap.size+1,2,none⟩ z).cell? ⟨V.heap.size,1,none⟩=some (.int .i64 g)∧(((w'.setCell ⟨V.heap.size+1,0,none⟩ x).setCell ⟨V.heap.size+1,1,none⟩ y).setCell ⟨V.heap.size+1,2,none⟩ z).cell? ⟨V.heap.size,2,none⟩=some (.int .i64 u)) from fun w' x y z h=>by
  have hh:=HS.out w' h
  have e1:Bl≠V.heap.size+1:=by omega
  have e5:V.heap.size≠V.heap.size+1:=by omega
  rw[zd1R _ _ _ e1,zd1R _ _ _ e5,zd1R _ _ _ e5,zd1R _ _ _ e5]
  exact hh)
 have HH:=hide (show ∀w' x,Below U.heap.size U w'→0≤x→x≤65535→Calls Tryz.prog 190 #[.slice ao ls.length ca,.int .i64 x] w' fun e w''=>e=.returned (.int .i64 (qy0p ls x))∧Below U.heap.size U w''∧(w''.cell? ⟨V.heap.size+1,0,none⟩=some (.int .i64 0)∧w''.cell? ⟨V.heap.size+1,1,none⟩=some (.int .i64 0)∧w''.cell? ⟨V.heap.size+1,2,none⟩=some (.int .i64 0))∧w''.frozen? ⟨V.heap.size+1,0,none⟩=false∧w''.frozen? ⟨V.heap.size+1,1,none⟩=false∧w''.frozen? ⟨V.heap.size+1,2,none⟩=false from fun w' x h hx0 hx1 =>
  (qmUZ _ ls x hx0 hx1 hcv w' (HV.out.below (HB1.trans (h.mono HB1.size)) (kf _))).mono fun e w'' h2=>by
   have h3:=h.trans (h2.2.mono h.size)
   have hn:=(h3.block (V.heap.size+1) (by omega)).trans k2
   exact ⟨h2.1,h3,z5EY hn,kc hn 0,kc hn 1,kc hn 2⟩)
 have HFIN:=hide (show ∀w' x y z,Below U.heap.size U w'→Below V.heap.size V (((w'.setCell ⟨V.heap.size+1,0,none⟩ x).setCell ⟨V.heap.size+1,1,none⟩ y).setCell ⟨V.heap.size+1,2,none⟩ z) from fun w' x y z h=>zHqh (HB1.trans (h.mono HB1.size)) (by omega) x y z)
 have hdrew:Below U.heap.size U U.drew:=(Below.refl _ _).drew
 clear k1 k2 hc
 go_region_held3 (fun w'=>(w'.cell? ⟨Bl,0,none⟩=some (.slice ao ls.length ca)∧w'.cell? ⟨V.heap.size,0,none⟩=some (.int .i64 r)∧w'.cell? ⟨V.heap.size,1,none⟩=some (.int .i64 g)∧w'.cell? ⟨V.heap.size,2,none⟩=some (.int .i64 u)))
  (first|(refine HS.out _ ?_;assumption)|(refine HS3.out _ _ _ _ ?_;assumption))
  (first
   | (go_at_call 190;refine (HH.out _ _ ?_ ?_ ?_).mono ?_;assumption;assumption;assumption;rintro e wx ⟨rfl,hN,⟨z0,z1,z2⟩,f0,f1,f2⟩))
 all_goals
  go_wp2
  exact bodyPost_ret (v:=.agg #[.int .i64 (qy0p ls r),.int .i64 (qy0p ls g),.int .i64 (qy0p ls u)]) (by simp[results,Tryz.results276,go_sem,z0,z1,z2]) rfl ⟨rfl,HFIN.out _ _ _ _ (by assumption)⟩
def bendE (W H:Int) (ps:List Px) (ls:List Pt):Int:=if picOk W H ps=true∧zamz ls=true then 0 else 1
theorem q6yx (W H:Int) (v:Value) (ps:List Px) (vl:Value) (ls:List Pt) (w:World) (hv:IsPix w v ps) (hvl:IsPts w vl ls) :
  Calls Tryz.prog 275 #[.agg #[.int .i64 W,.int .i64 H,v],vl] w fun e w'=>∃r,e=.returned (.tuple #[.agg #[.int .i64 (okW (bendE W H ps ls) W),.int .i64 (okW (bendE W H ps ls) H),r],.int .i64 (bendE W H ps ls)])∧IsPix w' r (okL (bendE W H ps ls) (ps.map (bendP ls)))∧Below w.heap.size w w'∧Fresh w.heap.size r:=by
 have HV:=hide hv
 have HL:=hide hvl
 obtain ⟨ao,ca,rfl,hla,hc⟩:=hv
 obtain ⟨lo,lc,rfl,_,_⟩:=hvl
 obtain ⟨E,hE⟩:∃E,bendE W H ps ls=E:=⟨_,rfl⟩
 rw[hE]
 by_cases hp:picOk W H ps=true
 ·by_cases hm:zamz ls=true
  ·have he:E=0:=by rw[←hE,bendE,if_pos ⟨hp,hm⟩]
   subst he
   clear hE
   have HCV:=hide (zqz3 hm)
   obtain ⟨⟨w1,w2⟩,⟨h1,h2⟩,hl,hpx⟩:=XMjn hp
   obtain ⟨WN,rfl⟩:=kg (show 0≤W by omega)
   obtain ⟨HN,rfl⟩:=kg (show 0≤H by omega)
   have HLEN:=hide (show ps.length=HN*WN by rw[km];exact_mod_cast hl)
   have HPX:=hide hpx
   clear hl hpx
   go_enter Tryz.func275,Tryz.ntmps275
   go_wp2_with fail
   obtain ⟨a1,a2,a3⟩:=al3 w (ka #[.int .i64 (WN:Nat),.int .i64 (HN:Nat),.slice ao ps.length ca] 24) (ka #[.slice lo ls.length lc] 49) (ka #[.int .i64 0,.int .i64 0,.slice none 0 0] 24)
   have hB:=be3 w (ka #[.int .i64 (WN:Nat),.int .i64 (HN:Nat),.slice ao ps.length ca] 24) (ka #[.slice lo ls.length lc] 49) (ka #[.int .i64 0,.int .i64 0,.slice none 0 0] 24)
   have hs3:(((w.alloc (ka #[.int .i64 (WN:Nat),.int .i64 (HN:Nat),.slice ao ps.length ca] 24)).alloc (ka #[.slice lo ls.length lc] 49)).alloc (ka #[.int .i64 0,.int .i64 0,.slice none 0 0] 24)).heap.size=w.heap.size+3:=by simp
   generalize ((w.alloc (ka #[.int .i64 (WN:Nat),.int .i64 (HN:Nat),.slice ao ps.length ca] 24)).alloc (ka #[.slice lo ls.length lc] 49)).alloc (ka #[.int .i64 0,.int .i64 0,.slice none 0 0] 24)=U at *
   refine (XDTU WN HN _ ps _ (HV.out.below hB (kf _))).mono ?_
   rintro e w1 ⟨rfl,hb1⟩
   rw[hp]
   have g1:=(hb1.block (w.heap.size) (by omega)).trans a1
   have g2:=(hb1.block (w.heap.size+1) (by omega)).trans a2
   have g3:=(hb1.block (w.heap.size+1+1) (by omega)).trans a3
   have l0:w1.cell? ⟨w.heap.size+1,0,none⟩=some (.slice lo ls.length lc):=by rw[kd g2];rfl
   go_wp2_with fail
   refine (jHKJ _ ls _ (HL.out.below (hB.trans (hb1.mono hB.size)) (kf _))).mono ?_
   rintro e w2 ⟨rfl,hb2⟩
   rw[hm]
   clear l0
   replace hb2:=quJN hb1 hb2
   replace g1:=(hb2.block (w.heap.size) (by omega)).trans a1
   replace g2:=(hb2.block (w.heap.size+1) (by omega)).trans a2
   replace g3:=(hb2.block (w.heap.size+1+1) (by omega)).trans a3
   obtain ⟨p0,p1,p2⟩:=z5EY g1
   go_wp2_with fail
   refine (jd7f WN HN (by omega) (by omega) _ ps HLEN.out 276 #[.pointer (some ⟨w.heap.size+1,0,none⟩)] (bendP ls) _ (HV.out.below (hB.trans (hb2.mono hB.size)) (kf _)) (enters_of Tryz.func276 (by kernel_rfl) rfl) ?_).mono ?_
   ·intro j hj V hV
    have hb3:=quJN hb2 hV
    have g2':=(hb3.block (w.heap.size+1) (by omega)).trans a2
    exact X2Jq (w.heap.size+1) _ ls HCV.out ps[j] (List.all_eq_true.1 HPX.out _ (List.getElem_mem hj)) V (by have:=hb3.size;omega) (HL.out.below (hB.trans (hb3.mono hB.size)) (kf _)) (by rw[kd g2'];rfl)
   ·rintro e w3 ⟨r,rfl,hr,hb3,hfr⟩
    clear p0 p1 p2
    replace hb3:=quJN hb2 hb3
    replace g3:=(hb3.block (w.heap.size+1+1) (by omega)).trans a3
    have hs2:=hb2.size
    obtain ⟨z0,z1,z2⟩:=z5EY g3
    have f0:=kc g3 0
    have f1:=kc g3 1
    have f2:=kc g3 2
    have HR:=hide hr
    obtain ⟨ro,rc,rfl,_,_⟩:=hr
    have HFIN:=hide (zHqh (hB.trans (hb3.mono hB.size)) (show w.heap.size≤w.heap.size+1+1 by omega) (.int .i64 (WN:Nat)) (.int .i64 (HN:Nat)) (.slice ro (ps.map (bendP ls)).length rc))
    have HPX2:=hide (HR.out.set3 hfr (show w.heap.size+1+1<w2.heap.size by omega) (.int .i64 (WN:Nat)) (.int .i64 (HN:Nat)) (.slice ro (ps.map (bendP ls)).length rc))
    rw[List.length_map] at HPX2 HFIN hfr
    go_wp2
    exact bodyPost_ret (v:=.tuple #[.agg #[.int .i64 (WN:Nat),.int .i64 (HN:Nat),.slice ro ps.length rc],.int .i64 0]) (by simp[results,Tryz.results275,go_sem,z0,z1,z2]) rfl ⟨_,rfl,HPX2.out,HFIN.out,hfr.mono (by omega)⟩
  ·have he:E=1:=by rw[←hE,bendE,if_neg (fun h=>hm h.2)]
   have hm:zamz ls=false:=by simpa using hm
   subst he
   clear hE
   go_enter Tryz.func275,Tryz.ntmps275
   go_wp2_with fail
   obtain ⟨a1,a2,a3⟩:=al3 w (ka #[.int .i64 W,.int .i64 H,.slice ao ps.length ca] 24) (ka #[.slice lo ls.length lc] 49) (ka #[.int .i64 0,.int .i64 0,.slice none 0 0] 24)
   have hB:=be3 w (ka #[.int .i64 W,.int .i64 H,.slice ao ps.length ca] 24) (ka #[.slice lo ls.length lc] 49) (ka #[.int .i64 0,.int .i64 0,.slice none 0 0] 24)
   have hs3:(((w.alloc (ka #[.int .i64 W,.int .i64 H,.slice ao ps.length ca] 24)).alloc (ka #[.slice lo ls.length lc] 49)).alloc (ka #[.int .i64 0,.int .i64 0,.slice none 0 0] 24)).heap.size=w.heap.size+3:=by simp
   generalize ((w.alloc (ka #[.int .i64 W,.int .i64 H,.slice ao ps.length ca] 24)).alloc (ka #[.slice lo ls.length lc] 49)).alloc (ka #[.int .i64 0,.int .i64 0,.slice none 0 0] 24)=U at *
   refine (XDTU W H _ ps _ (HV.out.below hB (kf _))).mono ?_
   rintro e w1 ⟨rfl,hb1⟩
   rw[hp]
   have g1:=(hb1.block (w.heap.size) (by omega)).trans a1
   have g2:=(hb1.block (w.heap.size+1) (by omega)).trans a2
   have g3:=(hb1.block (w.heap.size+1+1) (by omega)).trans a3
   have l0:w1.cell? ⟨w.heap.size+1,0,none⟩=some (.slice lo ls.length lc):=by rw[kd g2];rfl
   go_wp2_with fail
   refine (jHKJ _ ls _ (HL.out.below (hB.trans (hb1.mono hB.size)) (kf _))).mono ?_
   rintro e w2 ⟨rfl,hb2⟩
   rw[hm]
   clear l0
   replace hb2:=quJN hb1 hb2
   replace g1:=(hb2.block (w.heap.size) (by omega)).trans a1
   replace g2:=(hb2.block (w.heap.size+1) (by omega)).trans a2
   replace g3:=(hb2.block (w.heap.size+1+1) (by omega)).trans a3
   obtain ⟨z0,z1,z2⟩:=z5EY g3
   have f0:=kc g3 0
   have f1:=kc g3 1
   have f2:=kc g3 2
   have HBL:=hb2
   have HFIN:=hide (zHqh (hB.trans (HBL.mono hB.size)) (show w.heap.size≤w.heap.size+1+1 by omega) (.int .i64 0) (.int .i64 0) (.slice none 0 0))
   go_wp2
   exact bodyPost_ret (v:=.tuple #[.agg #[.int .i64 0,.int .i64 0,.slice none 0 0],.int .i64 1]) (by simp[results,Tryz.results275,go_sem,z0,z1,z2]) rfl ⟨.slice none 0 0,rfl,IsPix.nil _,HFIN.out,Fresh.nil _⟩
 ·have he:E=1:=by rw[←hE,bendE,if_neg (fun h=>hp h.1)]
  have hp:picOk W H ps=false:=by simpa using hp
  subst he
  clear hE
  go_enter Tryz.func275,Tryz.ntmps275
  go_wp2_with fail
  obtain ⟨a1,a2,a3⟩:=al3 w (ka #[.int .i64 W,.int .i64 H,.slice ao ps.length ca] 24) (ka #[.slice lo ls.length lc] 49) (ka #[.int .i64 0,.int .i64 0,.slice none 0 0] 24)
  have hB:=be3 w (ka #[.int .i64 W,.int .i64 H,.slice ao ps.length ca] 24) (ka #[.slice lo ls.length lc] 49) (ka #[.int .i64 0,.int .i64 0,.slice none 0 0] 24)
  have hs3:(((w.alloc (ka #[.int .i64 W,.int .i64 H,.slice ao ps.length ca] 24)).alloc (ka #[.slice lo ls.length lc] 49)).alloc (ka #[.int .i64 0,.int .i64 0,.slice none 0 0] 24)).heap.size=w.heap.size+3:=by simp
  generalize ((w.alloc (ka #[.int .i64 W,.int .i64 H,.slice ao ps.length ca] 24)).alloc (ka #[.slice lo ls.length lc] 49)).alloc (ka #[.int .i64 0,.int .i64 0,.slice none 0 0] 24)=U at *
  refine (XDTU W H _ ps _ (HV.out.below hB (kf _))).mono ?_
  rintro e w1 ⟨rfl,hb1⟩
  rw[hp]
  have g1:=(hb1.block (w.heap.size) (by omega)).trans a1
  have g2:=(hb1.block (w.heap.size+1) (by omega)).trans a2
  have g3:=(hb1.block (w.heap.size+1+1) (by omega)).trans a3
  obtain ⟨z0,z1,z2⟩:=z5EY g3
  have f0:=kc g3 0
  have f1:=kc g3 1
  have f2:=kc g3 2
  have HBL:=hb1
  have HFIN:=hide (zHqh (hB.trans (HBL.mono hB.size)) (show w.heap.size≤w.heap.size+1+1 by omega) (.int .i64 0) (.int .i64 0) (.slice none 0 0))
  go_wp2
  exact bodyPost_ret (v:=.tuple #[.agg #[.int .i64 0,.int .i64 0,.slice none 0 0],.int .i64 1]) (by simp[results,Tryz.results275,go_sem,z0,z1,z2]) rfl ⟨.slice none 0 0,rfl,IsPix.nil _,HFIN.out,Fresh.nil _⟩
end Go.Proofs.YtfjeonehdlphiaaGreatDoor
