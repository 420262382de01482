/- Re: part 28 of what the proofs need. -/
import Derived.Test.YtfjeonehdlphiaaGreatDoorC2Re
import Derived.Test.YtfjeonehdlphiaaGreatDoorC6Re
import Derived.Test.YtfjeonehdlphiaaGreatDoorC8Re
import Derived.Test.YtfjeonehdlphiaaGreatDoorC20Re
import Derived.Test.YtfjeonehdlphiaaGreatDoorC21Re
import Derived.Laws.EntriesVeiled
open Go.Obj renaming cells → ka
open List renaming setIfInBounds_toArray → kc, set_cons_zero → kf, set_cons_succ → kg
open Array renaming getElem?_eq_some_iff → ke
open Go.Lib renaming frozen_of_heap → kh, cell_of_heap → ki
open Go.Act renaming put → kj
open Nat renaming le_refl → kk, lt_of_lt_of_le → kl, le_trans → km, zero_le → kn, mul_comm → ko
set_option linter.unusedVariables false
set_option maxHeartbeats 3200000
set_option maxRecDepth 100000
namespace Go.Proofs.YtfjeonehdlphiaaGreatDoor
open Go.RowKit
def goodB (ls:List Pt) (p:Pt):Bool:=decide (ls.count p=0)
theorem j3wx (c:Nat):((c:Int) == 0)=decide (c=0):=by
 by_cases h:c=0
 ·subst h;rfl
 ·rw[decide_eq_false h];simpa using h
theorem z3E6 {x y:Int} (hx:0≤x∧x≤64) (hy:0≤y∧y≤64):ptWf (x,y):=⟨WalkArith.wf_i64 (by omega),WalkArith.wf_i64 (by omega)⟩
theorem zWHx (ls:List Pt) (n bm Bv:Nat) (x y:Int) (hx:0≤x∧x≤64) (hy:0≤y∧y≤64) (w:World) (hBv:Bv<w.heap.size) (kb:w.cell? ⟨Bv,0,none⟩=some (.map (some bm))) (hm:q5Sk w bm n ls) :
  Calls Tryz.prog 260 #[.agg #[.int .i64 x,.int .i64 y],.pointer (some ⟨Bv,0,none⟩)] w fun e w'=>e=.returned (.bool (goodB ls (x,y)))∧Below w.heap.size w w':=by
 have hlk0:=(hm.alloc (ka #[.int .i64 x,.int .i64 y] 97)).look (x,y) (z3E6 hx hy)
 have HE:=hide (j3wx (ls.count (x,y)))
 rw[show decide (ls.count (x,y)=0)=goodB ls (x,y) from rfl] at HE
 obtain ⟨c,hc⟩:∃c,ls.count (x,y)=c:=⟨_,rfl⟩
 rw[hc] at hlk0 HE
 have hlk:(Instr.lookup 294 (.map (some bm)) (.agg #[.int .i64 x,.int .i64 y]) false).run Tryz.prog (w.alloc (ka #[.int .i64 x,.int .i64 y] 97))=.ok (.int .i64 (c:Nat)) (w.alloc (ka #[.int .i64 x,.int .i64 y] 97)):=hlk0
 have kb1:=((qUNz w (ka #[.int .i64 x,.int .i64 y] 97)).cell (p:=⟨Bv,0,none⟩) hBv).trans kb
 clear hlk0 hc kb hm
 go_enter Tryz.func260,Tryz.ntmps260
 go_wp2
 go_ret
 exact ⟨j3Zs HE.out,qUNz _ _⟩
def repC (ls:List Pt) (X Y:Nat) (x:Fin 4):Bool:=goodB ls (crX X x,crY Y x)
def repV (zs:List Int) (W H:Nat) (ls:List Pt) (j:Nat):Int :=
 if goodB ls ((j % W:Nat),(j / W:Nat))=true then zAt zs j else meanV zs W H (crX (j % W)) (crY (j / W)) (repC ls (j % W) (j / W))
theorem z63Z (W H j bk off ca:Nat) (hW1:1≤W) (hW:W≤64) (hH1:1≤H) (hH:H≤64) (zs:List Int) (hlen:zs.length=H*W) (hzs:allIn 0 65535 zs=true) (hj:j<zs.length) (ls:List Pt) (n bm Bd Bp Bg Bv:Nat) (w:World) (hBp:Bp<w.heap.size) (hBg:Bg<w.heap.size) (hbk:bk<w.heap.size)
  (k0:w.cell? ⟨Bp,0,none⟩=some (.int .i64 W)) (k1:w.cell? ⟨Bp,1,none⟩=some (.int .i64 H)) (k2:w.cell? ⟨Bp,2,none⟩=some (.slice (some ⟨bk,off,none⟩) zs.length ca)) (g0:w.cell? ⟨Bg,0,none⟩=some (.int .i64 W)) (g1:w.cell? ⟨Bg,1,none⟩=some (.int .i64 H)) (hBd:Bd<w.heap.size) (kd:w.cell? ⟨Bd,0,none⟩=some (.func (.func 260) #[] #[.pointer (some ⟨Bv,0,none⟩)])) (hBv:Bv<w.heap.size) (kv:w.cell? ⟨Bv,0,none⟩=some (.map (some bm))) (hm:q5Sk w bm n ls)
  (hcell:∀j,j<zs.length→w.cell? ⟨bk,off+j,none⟩=some (.int .i64 (zAt zs j))) :
  Calls Tryz.prog 261 #[.agg #[.int .i64 (j % W:Nat),.int .i64 (j / W:Nat)],.pointer (some ⟨Bd,0,none⟩),.pointer (some ⟨Bp,0,none⟩),.pointer (some ⟨Bg,0,none⟩)] w fun e w'=>e=.returned (.int .i64 (repV zs W H ls j))∧Below w.heap.size w w':=by
 have HT:=hide (show repV zs W H ls j=if goodB ls ((j % W:Nat),(j / W:Nat))=true then zAt zs j else meanV zs W H (crX (j % W)) (crY (j / W)) (repC ls (j % W) (j / W)) from rfl)
 generalize repV zs W H ls j=RES at *
 have hl4:zs.length≤4096:=by rw[hlen];exact km (Nat.mul_le_mul hH hW) (by decide)
 have hXW:j % W<W:=Nat.mod_lt _ hW1
 have hYH:j / W<H:=Nat.div_lt_of_lt_mul (by rw[ko,←hlen];exact hj)
 obtain ⟨X,hX⟩:∃X,j % W=X:=⟨_,rfl⟩
 obtain ⟨Y,hY⟩:∃Y,j / W=Y:=⟨_,rfl⟩
 have hk:Y*W+X=j:=by rw[←hX,←hY,ko];exact Nat.div_add_mod j W
 have HIX:=hide (fun v=>XSSj W H X Y W j rfl hk (by omega) v)
 have hcz:=hcell j hj
 have hjI:(j:Int)<(zs.length:Int):=by omega
 rw[hX,hY] at HT
 rw[hX] at hXW
 rw[hY] at hYH
 rw[hX,hY]
 obtain ⟨z,hz⟩:∃z,zAt zs j=z:=⟨_,rfl⟩
 rw[hz] at HT hcz
 have HG:=hide (fun (u:World) (hu:Below w.heap.size w u)=>zWHx ls n bm Bv X Y (by omega) (by omega) u (kl hBv hu.size) ((hu.cell (p:=⟨Bv,0,none⟩) hBv).trans kv) (hm.below hu hm.lt))
 have HMP:=hide (fun (u:World) (hu:Below w.heap.size w u) (Bs Bf:Nat) (hBs:Bs<u.heap.size) (hBf:Bf<u.heap.size) (e0:u.cell? ⟨Bs,0,none⟩=some (.int .i64 X)) (e1:u.cell? ⟨Bs,1,none⟩=some (.int .i64 Y)) (e2:u.cell? ⟨Bf,0,none⟩=some (.int .i64 2)) =>
  qkM9 4 W H bk off ca (by omega) hW1 hW hH1 hH zs hlen hzs 263 260 Bs #[.pointer (some ⟨Bf,0,none⟩),.pointer (some ⟨Bs,0,none⟩)] #[.pointer (some ⟨Bv,0,none⟩)] (crX X) (crY Y) (repC ls X Y) u (enters_of Tryz.func263 (by kernel_rfl) rfl) (enters_of Tryz.func260 (by kernel_rfl) rfl) hBs (kl hbk hu.size) (fun j hj=>(hu.cell (p:=⟨bk,off+j,none⟩) hbk).trans (hcell j hj))
   (fun V hV=>X0rh Fence.wide (3-1) trivial rfl (by omega) Bs Bf X Y (by omega) (by omega) V (kl hBs hV.size) (kl hBf hV.size) ((hV.cell (p:=⟨Bf,0,none⟩) hBf).trans e2) ((hV.cell (p:=⟨Bs,0,none⟩) hBs).trans e0) ((hV.cell (p:=⟨Bs,1,none⟩) hBs).trans e1))
   (fun x V hh hV=>by
    have hh2:0≤crX X x∧crX X x<W∧0≤crY Y x∧crY Y x<H:=by simpa [hasB] using hh
    have hV2:=hu.trans (hV.mono hu.size)
    exact zWHx ls n bm Bv (crX X x) (crY Y x) (by omega) (by omega) V (kl hBv hV2.size) ((hV2.cell (p:=⟨Bv,0,none⟩) hBv).trans kv) (hm.below hV2 hm.lt)))
 have eg1:=enters_of Tryz.func260 (by kernel_rfl) rfl
 clear hX hY hz hk hlen hcell hzs kv hm
 have HB:=hide (qUNz w (ka #[.int .i64 X,.int .i64 Y] 97))
 have a1:=al1 w (ka #[.int .i64 X,.int .i64 Y] 97)
 have kd1:=(HB.out.cell (p:=⟨Bd,0,none⟩) hBd).trans kd
 obtain ⟨s0,s1⟩:=bx2 a1
 go_enter Tryz.func261,Tryz.ntmps261
 go_wp2_with fail
 have hl1:=(ke.1 a1).1
 generalize w.alloc (ka #[.int .i64 X,.int .i64 Y] 97)=U at *
 refine (HG.out _ HB.out).mono ?_
 rintro e V0 ⟨rfl,hb0⟩
 have HS:=hide (show ∀v,Below U.heap.size U v→v.cell? ⟨Bp,0,none⟩=some (.int .i64 W)∧v.cell? ⟨Bp,1,none⟩=some (.int .i64 H)∧v.cell? ⟨Bp,2,none⟩=some (.slice (some ⟨bk,off,none⟩) zs.length ca)∧v.cell? ⟨Bg,0,none⟩=some (.int .i64 W)∧v.cell? ⟨Bg,1,none⟩=some (.int .i64 H)∧v.cell? ⟨w.heap.size,0,none⟩=some (.int .i64 X)∧v.cell? ⟨w.heap.size,1,none⟩=some (.int .i64 Y)∧v.cell? ⟨bk,off+j,none⟩=some (.int .i64 z)∧v.cell? ⟨Bd,0,none⟩=some (.func (.func 260) #[] #[.pointer (some ⟨Bv,0,none⟩)]) from fun v h=>by
  have hw:=HB.out.trans (h.mono HB.out.size)
  obtain ⟨y0,y1⟩:=bx2 ((h.block _ hl1).trans a1)
  exact ⟨(hw.cell (p:=⟨Bp,0,none⟩) hBp).trans k0,(hw.cell (p:=⟨Bp,1,none⟩) hBp).trans k1,(hw.cell (p:=⟨Bp,2,none⟩) hBp).trans k2,(hw.cell (p:=⟨Bg,0,none⟩) hBg).trans g0,(hw.cell (p:=⟨Bg,1,none⟩) hBg).trans g1,y0,y1,(hw.cell (p:=⟨bk,off+j,none⟩) hbk).trans hcz,(hw.cell (p:=⟨Bd,0,none⟩) hBd).trans kd⟩)
 clear s0 s1 kd1 k0 k1 k2 g0 g1 kd hcz eg1
 have hWd:Below U.heap.size U V0.drew:=hb0.drew
 have hSd:=HS.out _ hWd
 by_cases hg:goodB ls ((X:Nat),(Y:Nat))=true
 ·rw[hg]
  rw[if_pos hg] at HT
  go_wp2_with fail
  have hmx:Tryz.prog.follows .mixedOrders=true:=by kernel_rfl
  refine qYgd (S:=fun v:World=>v.cell? ⟨Bp,0,none⟩=some (.int .i64 W)∧v.cell? ⟨Bp,1,none⟩=some (.int .i64 H)∧v.cell? ⟨Bp,2,none⟩=some (.slice (some ⟨bk,off,none⟩) zs.length ca)∧v.cell? ⟨Bg,0,none⟩=some (.int .i64 W)∧v.cell? ⟨Bg,1,none⟩=some (.int .i64 H)∧v.cell? ⟨w.heap.size,0,none⟩=some (.int .i64 X)∧v.cell? ⟨w.heap.size,1,none⟩=some (.int .i64 Y)∧v.cell? ⟨bk,off+j,none⟩=some (.int .i64 z)∧v.cell? ⟨Bd,0,none⟩=some (.func (.func 260) #[] #[.pointer (some ⟨Bv,0,none⟩)])) (f:=7) hmx ?_
  show jZdv _ _ _ _ _ _ 8 _ _ V0.drew
  refine zB2j (i:=0) (oi:=_) (v:=?vv1) (some 9) rfl rfl (by kernel_rfl) (by kernel_rfl) (by kernel_rfl) (by kernel_rfl) (by kernel_rfl) (fun _ _ _ h=>h) (Or.inl ⟨by rfl,?yy1⟩) hSd ?rr1
  case yy1=>(intro wq hSq;obtain ⟨_,_,_,_,_,_,_,_,_⟩:=hSq;go_simp<;>with_reducible rfl)
  simp only[kj,kc,kg,kf]
  refine zB2j (i:=2) (oi:=_) (v:=?vv2) (some 11) rfl rfl (by kernel_rfl) (by kernel_rfl) (by kernel_rfl) (by kernel_rfl) (by kernel_rfl) (fun _ _ _ h=>h) (Or.inl ⟨by rfl,?yy2⟩) hSd ?rr2
  case yy2=>(intro wq hSq;obtain ⟨_,_,_,_,_,_,_,_,_⟩:=hSq;go_simp<;>with_reducible rfl)
  simp only[kj,kc,kg,kf]
  refine zB2j (i:=3) (oi:=_) (v:=?vv3) (some 12) rfl rfl (by kernel_rfl) (by kernel_rfl) (by kernel_rfl) (by kernel_rfl) (by kernel_rfl) (fun _ _ _ h=>h) (Or.inl ⟨by rfl,?yy3⟩) hSd ?rr3
  case yy3=>(intro wq hSq;obtain ⟨_,_,_,_,_,_,_,_,_⟩:=hSq;go_simp<;>with_reducible rfl)
  simp only[kj,kc,kg,kf]
  refine zB2j (i:=1) (oi:=_) (v:=?vv4) (some 10) rfl rfl (by kernel_rfl) (by kernel_rfl) (by kernel_rfl) (by kernel_rfl) (by kernel_rfl) (fun _ _ _ h=>h) (Or.inl ⟨by rfl,?yy4⟩) hSd ?rr4
  case yy4=>(intro wq hSq;obtain ⟨_,_,_,_,_,_,_,_,_⟩:=hSq;go_simp<;>with_reducible rfl)
  simp only[kj,kc,kg,kf]
  refine znWj (i:=4) (o:=_) (by kernel_rfl) rfl (fun K' hK=>?_)
  rw[if_pos (by rfl)]
  go_simp
  refine (HIX.out _).mono ?_
  rintro e V1 ⟨rfl,hbv⟩
  have hB1:Below U.heap.size U V1:=hWd.trans (hbv.mono hWd.size)
  have hSd:=HS.out _ hB1
  refine hK.out _ _ hSd ?_
  clear hK
  try simp only[kj]
  refine zB2j (i:=5) (oi:=_) (v:=?vv5) (some 14) rfl rfl (by kernel_rfl) (by kernel_rfl) (by kernel_rfl) (by kernel_rfl) (by kernel_rfl) (fun _ _ _ h=>h) (Or.inl ⟨by rfl,?yy5⟩) hSd ?rr5
  case yy5=>(intro wq hSq;obtain ⟨_,_,_,_,_,_,_,_,_⟩:=hSq;go_simp<;>with_reducible rfl)
  simp only[kj,kc,kg,kf]
  refine zB2j (i:=6) (oi:=_) (v:=?vv6) (some 15) rfl rfl (by kernel_rfl) (by kernel_rfl) (by kernel_rfl) (by kernel_rfl) (by kernel_rfl) (fun _ _ _ h=>h) (Or.inl ⟨by rfl,?yy6⟩) hSd ?rr6
  case yy6=>(intro wq hSq;obtain ⟨_,_,_,_,_,_,_,_,_⟩:=hSq;go_simp<;>with_reducible rfl)
  simp only[kj,kc,kg,kf]
  refine z9gO (o:=_) (by kernel_rfl) rfl (fun K' hK=>?_)
  rw[if_pos (by rfl)]
  go_simp
  refine hK.out _ _ ?_
  clear hK
  refine jFdp (by kernel_rfl) ?_ _
  try simp only[kj]
  go_wp2
  go_ret
  exact ⟨jx9N HT.out.symm,HB.out.trans (hB1.mono HB.out.size)⟩
 ·have hg2:goodB ls ((X:Nat),(Y:Nat))=false:=by simpa using hg
  rw[hg2]
  rw[if_neg hg] at HT
  go_wp2_with fail
  have hmx:Tryz.prog.follows .mixedOrders=true:=by kernel_rfl
  refine qYgd (S:=fun v:World=>v.cell? ⟨Bp,0,none⟩=some (.int .i64 W)∧v.cell? ⟨Bp,1,none⟩=some (.int .i64 H)∧v.cell? ⟨Bp,2,none⟩=some (.slice (some ⟨bk,off,none⟩) zs.length ca)∧v.cell? ⟨Bg,0,none⟩=some (.int .i64 W)∧v.cell? ⟨Bg,1,none⟩=some (.int .i64 H)∧v.cell? ⟨w.heap.size,0,none⟩=some (.int .i64 X)∧v.cell? ⟨w.heap.size,1,none⟩=some (.int .i64 Y)∧v.cell? ⟨bk,off+j,none⟩=some (.int .i64 z)∧v.cell? ⟨Bd,0,none⟩=some (.func (.func 260) #[] #[.pointer (some ⟨Bv,0,none⟩)])) (f:=5) hmx ?_
  show jZdv _ _ _ _ _ _ 6 _ _ V0.drew
  refine zB2j (i:=0) (oi:=_) (v:=?vv7) (some 16) rfl rfl (by kernel_rfl) (by kernel_rfl) (by kernel_rfl) (by kernel_rfl) (by kernel_rfl) (fun _ _ _ h=>h) (Or.inl ⟨by rfl,?yy7⟩) hSd ?rr7
  case yy7=>(intro wq hSq;obtain ⟨_,_,_,_,_,_,_,_,_⟩:=hSq;go_simp<;>with_reducible rfl)
  simp only[kj,kc,kg,kf]
  refine zB2j (i:=1) (oi:=_) (v:=?vv8) (some 17) rfl rfl (by kernel_rfl) (by kernel_rfl) (by kernel_rfl) (by kernel_rfl) (by kernel_rfl) (fun _ _ _ h=>h) (Or.inl ⟨by rfl,?yy8⟩) hSd ?rr8
  case yy8=>(intro wq hSq;obtain ⟨_,_,_,_,_,_,_,_,_⟩:=hSq;go_simp<;>with_reducible rfl)
  simp only[kj,kc,kg,kf]
  refine zB2j (i:=3) (oi:=_) (v:=?vv9) (some 19) rfl rfl (by kernel_rfl) (by kernel_rfl) (by kernel_rfl) (by kernel_rfl) (by kernel_rfl) (fun _ _ _ h=>h) (Or.inl ⟨by rfl,?yy9⟩) hSd ?rr9
  case yy9=>(intro wq hSq;obtain ⟨_,_,_,_,_,_,_,_,_⟩:=hSq;go_simp<;>with_reducible rfl)
  simp only[kj,kc,kg,kf]
  refine znWj (i:=2) (o:=_) (by kernel_rfl) rfl (fun K' hK=>?_)
  rw[if_pos (by rfl)]
  go_simp
  refine ((callsIn_wide (n:=3)).1 (jDQt Fence.wide _ trivial rfl _ _ _ _)).mono ?_
  rintro e V2 ⟨rfl,rfl⟩
  have hB2:Below U.heap.size U ((V0.drew.alloc (ka #[.int .i64 X,.int .i64 Y] 97)).alloc (ka #[.int .i64 2] 3)):=(hWd.alloc hWd.size _).alloc (by rw[World.size_alloc];exact Nat.le_succ_of_le hWd.size) _
  have hSd:=HS.out _ hB2
  refine hK.out _ _ hSd ?_
  clear hK
  try simp only[kj]
  refine znWj (i:=4) (o:=_) (by kernel_rfl) rfl (fun K' hK=>?_)
  rw[if_pos (by rfl)]
  go_simp
  have hsU:U.heap.size≤V0.heap.size:=hWd.size
  obtain ⟨tB,tC⟩:=al2 V0.drew (ka #[.int .i64 X,.int .i64 Y] 97) (ka #[.int .i64 2] 3)
  refine (HMP.out _ (HB.out.trans (hB2.mono HB.out.size)) V0.drew.heap.size (V0.drew.heap.size+1) (by rw[World.size_alloc,World.size_alloc];omega) (by rw[World.size_alloc,World.size_alloc];omega) (by rw[ki tB];rfl) (by rw[ki tB];rfl) (by rw[ki tC];rfl)).mono ?_
  rintro e V3 ⟨rfl,hb3⟩
  have hB3:Below U.heap.size U V3:=hB2.trans (hb3.mono hB2.size)
  have hSd:=HS.out _ hB3
  refine hK.out _ _ hSd ?_
  clear hK
  try simp only[kj]
  refine z9gO (o:=_) (by kernel_rfl) rfl (fun K' hK=>?_)
  rw[if_pos (by rfl)]
  go_simp
  refine hK.out _ _ ?_
  clear hK
  refine jFdp (by kernel_rfl) ?_ _
  try simp only[kj]
  go_wp2
  go_ret
  exact ⟨jx9N HT.out.symm,HB.out.trans (hB3.mono HB.out.size)⟩
def repE (W H:Int) (zs:List Int) (ls:List Pt):Int:=if q0fM W H zs=true then (if (ls.length:Int)≤64 then (if XepW W H ls=true then 0 else 3) else 2) else 1
def repL (W H:Int) (zs:List Int) (ls:List Pt):List Int:=(List.range zs.length).map (repV zs W.toNat H.toNat ls)
def ReJ (w W0:World) (bm W H:Nat) (ls:List Pt) (k:Nat) (wr:World):Prop :=
 q5Sk wr bm k (ls.take k)∧(∀b,b<W0.heap.size→b≠bm→wr.heap[b]?=W0.heap[b]?)∧W0.heap.size≤wr.heap.size∧Below w.heap.size w wr∧∀i,i<k→hasB W H (ptAt ls i).1 (ptAt ls i).2=true
theorem ReJ.next {w W0:World} {bm W H:Nat} {ls:List Pt} {k:Nat} {wr V w2:World} (h:ReJ w W0 bm W H ls k wr) (hbm:w.heap.size≤bm) (hV:Below wr.heap.size wr V) (hk:k<ls.length) (hh:hasB W H (ptAt ls k).1 (ptAt ls k).2=true)
  (hm:q5Sk w2 bm (k+1) (ls.take k++[ptAt ls k])) (hg:V.grownBy w2 (some bm)):ReJ w W0 bm W H ls (k+1) w2:=by
 obtain ⟨h1,h2,h3,h4,h5⟩:=h
 refine ⟨?_,fun b hb hne=>?_,?_,(h4.trans (hV.mono h4.size)).grown hg (km h4.size hV.size) (fun j hj=>by cases hj;exact hbm),fun i hi=>?_⟩
 ·rw[List.take_succ_eq_append_getElem hk,jU85];exact hm
 ·rw[hg.block b (kl hb (km h3 hV.size)) (fun e=>hne (by cases e;rfl)),hV.block b (kl hb h3)]
  exact h2 b hb hne
 ·exact km h3 (km hV.size hg.size)
 ·rcases Nat.lt_succ_iff_lt_or_eq.1 hi with h|rfl
  ·exact h5 i h
  ·exact hh
theorem zXdr (W H:Int) (v:Value) (zs:List Int) (lv:Value) (ls:List Pt) (hls:∀j,j<ls.length→ptWf (ptAt ls j)) (w:World) (hv:jCvT w v zs) (hlv:IsPts w lv ls) :
  Calls Tryz.prog 259 #[.agg #[.int .i64 W,.int .i64 H,v],lv] w fun e w'=>∃r,e=.returned (.tuple #[.agg #[.int .i64 (okW (repE W H zs ls) W),.int .i64 (okW (repE W H zs ls) H),r],.int .i64 (repE W H zs ls)])∧jCvT w' r (okL (repE W H zs ls) (repL W H zs ls))∧Below w.heap.size w w'∧Fresh w.heap.size r:=by
 have HV:=hide hv
 obtain ⟨lo,lc,rfl,hll,hlc⟩:=hlv
 have HLS:=hide hls
 have HC:=hide (show ∀j,j<ls.length→∃bq oq,lo=some ⟨bq,oq,none⟩∧bq<w.heap.size∧w.cell? ⟨bq,oq+j*2,none⟩=some (.int .i64 (ptAt ls j).1)∧w.cell? ⟨bq,oq+j*2+1,none⟩=some (.int .i64 (ptAt ls j).2) from fun j hj=>by
  rcases hlc with h|⟨b,off,h1,h2,h3⟩
  ·subst h;simp at hj
  ·exact ⟨b,off,h1,h2,h3 j hj⟩)
 clear hlc hls
 obtain ⟨E,hE⟩:∃E,repE W H zs ls=E:=⟨_,rfl⟩
 rw[hE]
 by_cases hp:q0fM W H zs=true
 ·by_cases hmn:(ls.length:Int)≤64
  ·have HE:=hide (show E=if XepW W H ls=true then 0 else 3 by rw[←hE,repE,if_pos hp,if_pos hmn])
   clear hE
   obtain ⟨⟨w1,w2⟩,⟨h1,h2⟩,hl,_⟩:=qwcI hp
   have hz:=XAOl hp
   have hsm:=zAFj ⟨w1,w2⟩ ⟨h1,h2⟩
   have hn1:1≤zs.length:=by omega
   obtain ⟨bk,off,ca,rfl,hbk,hcell⟩:=hv.cells hn1
   obtain ⟨WN,rfl⟩:=Int.eq_ofNat_of_zero_le (show 0≤W by omega)
   obtain ⟨HN,rfl⟩:=Int.eq_ofNat_of_zero_le (show 0≤H by omega)
   have HLEN:=hide (show zs.length=HN*WN by rw[ko];exact_mod_cast hl)
   have HZ:=hide hz
   have HCC:=hide hcell
   have hd64:decide (64<(ls.length:Int))=false:=by simp;omega
   clear hl hz hcell hsm hv
   have hmm:=@run_makeMap Tryz.prog
   go_enter Tryz.func259,Tryz.ntmps259
   go_wp2_with fail
   obtain ⟨a1,a2⟩:=al2 w (ka #[.int .i64 (WN:Nat),.int .i64 (HN:Nat),.slice (some ⟨bk,off,none⟩) zs.length ca] 54) (ka #[.int .i64 0,.int .i64 0,.slice none 0 0] 54)
   have hB:=be2 w (ka #[.int .i64 (WN:Nat),.int .i64 (HN:Nat),.slice (some ⟨bk,off,none⟩) zs.length ca] 54) (ka #[.int .i64 0,.int .i64 0,.slice none 0 0] 54)
   generalize (w.alloc (ka #[.int .i64 (WN:Nat),.int .i64 (HN:Nat),.slice (some ⟨bk,off,none⟩) zs.length ca] 54)).alloc (ka #[.int .i64 0,.int .i64 0,.slice none 0 0] 54)=U at *
   have hlU:=(ke.1 a2).1
   have hlU0:=(ke.1 a1).1
   refine (XeC7 WN HN _ zs _ (HV.out.below hB (kk _))).mono ?_
   rintro e w1 ⟨rfl,hb1⟩
   rw[hp]
   obtain ⟨p0,p1,p2⟩:=z5EY ((hb1.block w.heap.size hlU0).trans a1)
   have hsU:=hb1.size
   have hBw:=hB.trans (hb1.mono hB.size)
   go_wp2_with fail
   obtain ⟨c1,c2,c3⟩:=al3 w1 (ka #[.int .i64 (WN:Nat),.int .i64 (HN:Nat)] 95) (Obj.map #[] 0) (ka #[.map (some (w1.heap.size+1))] 294)
   have hB3:=be3 w1 (ka #[.int .i64 (WN:Nat),.int .i64 (HN:Nat)] 95) (Obj.map #[] 0) (ka #[.map (some (w1.heap.size+1))] 294)
   have hM0:q5Sk (((w1.alloc (ka #[.int .i64 (WN:Nat),.int .i64 (HN:Nat)] 95)).alloc (Obj.map #[] 0)).alloc (ka #[.map (some (w1.heap.size+1))] 294)) (w1.heap.size+1) 0 []:=by
    have h:=q5Sk.made (w1.alloc (ka #[.int .i64 (WN:Nat),.int .i64 (HN:Nat)] 95))
    rw[World.size_alloc] at h
    exact h.alloc _
   have hs3:w1.heap.size+3≤(((w1.alloc (ka #[.int .i64 (WN:Nat),.int .i64 (HN:Nat)] 95)).alloc (Obj.map #[] 0)).alloc (ka #[.map (some (w1.heap.size+1))] 294)).heap.size:=by simp
   clear p0 p1 p2 hmm
   generalize ((w1.alloc (ka #[.int .i64 (WN:Nat),.int .i64 (HN:Nat)] 95)).alloc (Obj.map #[] 0)).alloc (ka #[.map (some (w1.heap.size+1))] 294)=W0 at *
   have A1:=(hB3.block w.heap.size (by omega)).trans ((hb1.block w.heap.size hlU0).trans a1)
   have A2:=(hB3.block (w.heap.size+1) (by omega)).trans ((hb1.block (w.heap.size+1) hlU).trans a2)
   have hBW0:=hBw.trans (hB3.mono hBw.size)
   clear a1 a2
   go_loopw [27] (fun i wr=>∃k:Nat,k≤ls.length∧i=.int .i64 k∧ReJ w W0 (w1.heap.size+1) WN HN ls k wr) (fun i _=>ls.length-(intOf i).toNat)
   case atStart=>exact ⟨0,kn _,rfl,hM0,fun _ _ _=>rfl,kk _,hBW0,fun i hi=>by omega⟩
   case round =>
    clear hM0
    obtain ⟨k,hk,rfl,hJ⟩:=hrel
    have HJ:=hide hJ
    obtain ⟨j1,j2,j3,j4,j5⟩:=hJ
    have HK2:=hide j2
    clear j2
    have b0:=(HK2.out w.heap.size (by omega) (by omega)).trans A1
    have b1:=(HK2.out (w.heap.size+1) (by omega) (by omega)).trans A2
    have b2:=(HK2.out w1.heap.size (by omega) (by omega)).trans c1
    have b3:=(HK2.out (w1.heap.size+2) (by omega) (by omega)).trans c3
    by_cases hlt:k<ls.length
    ·have hd:decide ((k:Int)<(ls.length:Int))=true:=by simp;omega
     obtain ⟨bq,oq,rfl,hbq,e0,e1⟩:=HC.out k hlt
     have d0:=(j4.cell (p:=⟨bq,oq+k*2,none⟩) hbq).trans e0
     have d1:=(j4.cell (p:=⟨bq,oq+k*2+1,none⟩) hbq).trans e1
     have hwf:=HLS.out k hlt
     have HNX:=hide (fun (V w2:World) (hV:Below wr.heap.size wr V) hh hm hg=>ReJ.next (w2:=w2) HJ.out (show w.heap.size≤w1.heap.size+1 by omega) hV hlt hh hm hg)
     have HFA:=hide (fun h=>zEqn (W:=(WN:Int)) (H:=(HN:Int)) k hlt h)
     obtain ⟨⟨x,y⟩,hxy⟩:∃p,ptAt ls k=p:=⟨_,rfl⟩
     rw[hxy] at d0 d1 hwf HNX HFA
     simp only at d0 d1 HNX HFA
     have HHA:=hide (fun v=>z7Cs WN HN x y v)
     clear hxy e0 e1
     have a5:=al1 wr (ka #[.int .i64 x,.int .i64 y] 97)
     have hB5:=qUNz wr (ka #[.int .i64 x,.int .i64 y] 97)
     obtain ⟨s0,s1⟩:=bx2 a5
     obtain ⟨g0,g1⟩:=bx2 ((hB5.block w1.heap.size (by omega)).trans b2)
     go_wp2_with fail
     have hl5:=(ke.1 a5).1
     generalize wr.alloc (ka #[.int .i64 x,.int .i64 y] 97)=V5 at *
     refine (HHA.out _).mono ?_
     rintro e V6 ⟨rfl,hb6⟩
     have hB6:=quJN hB5 hb6
     have hl3:=(ke.1 b3).1
     clear s0 s1 g0 g1
     by_cases hh:hasB WN HN x y=true
     ·rw[hh]
      have hcl:(ls.take k).count (x,y)≤64:=by have:=List.count_le_length (a:=(x,y)) (l:=ls.take k);have:=List.length_take_le k ls;omega
      have hM6:q5Sk V6.drew (w1.heap.size+1) k (ls.take k):=(j1.below hB6 (by have:=j1.lt;omega)).drew
      have hlk:=hM6.look (x,y) hwf
      obtain ⟨v0,st,w7,hent0,hg7,hM7,w8,hst0,hM8,hg8⟩:=hM6.entry (by omega) (by have:=List.length_take_le k ls;omega) (x,y) hwf
      have hlk7:=hM7.look (x,y) hwf
      obtain ⟨c,hc⟩:∃c,(ls.take k).count (x,y)=c:=⟨_,rfl⟩
      rw[hc] at hlk hlk7 hst0 hcl
      have hent:(Instr.mapEntry 294 (.map (some (w1.heap.size+1))) (.agg #[.int .i64 x,.int .i64 y])).run Tryz.prog V6.drew=.ok (.tuple #[v0,.int .i64 st]) w7:=hent0
      have hst:(Instr.entryStore 294 (.map (some (w1.heap.size+1))) (.int .i64 st) (.int .i64 ((c:Int)+1))).run Tryz.prog w7=.ok () w8:=hst0
      have hwc:IntKind.i64.wrap ((c:Int)+1)=(c:Int)+1:=IntWalk.i64_in _ (by omega)
      have HEND:=hide (HNX.out V6.drew w8 (hB6.drew) hh hM8 hg8)
      clear hc hent0 hst0 HNX
      have t3:=(hB6.block (w1.heap.size+2) hl3).trans b3
      have t5:=(hb6.block wr.heap.size hl5).trans a5
      have hj1:=j1.lt
      have t3b:=(hg7.block (w1.heap.size+2) (show w1.heap.size+2<V6.heap.size from (ke.1 t3).1) (fun e=>by have:=Option.some.inj e;omega)).trans t3
      have t5b:=(hg7.block wr.heap.size (show wr.heap.size<V6.heap.size from (ke.1 t5).1) (fun e=>by have:=Option.some.inj e;omega)).trans t5
      have hSd:V6.drew.cell? ⟨w1.heap.size+1+1,0,none⟩=some (.map (some (w1.heap.size+1)))∧V6.drew.cell? ⟨wr.heap.size,0,none⟩=some (.int .i64 x)∧V6.drew.cell? ⟨wr.heap.size,1,none⟩=some (.int .i64 y)∧(Instr.lookup 294 (.map (some (w1.heap.size+1))) (.agg #[.int .i64 x,.int .i64 y]) false).run Tryz.prog V6.drew=.ok (.int .i64 (c:Nat)) V6.drew:=⟨bx1 (w:=V6.drew) (b:=w1.heap.size+1+1) t3,(bx2 (w:=V6.drew) t5).1,(bx2 (w:=V6.drew) t5).2,hlk⟩
      have HS7:=hide (show w7.cell? ⟨w1.heap.size+1+1,0,none⟩=some (.map (some (w1.heap.size+1)))∧w7.cell? ⟨wr.heap.size,0,none⟩=some (.int .i64 x)∧w7.cell? ⟨wr.heap.size,1,none⟩=some (.int .i64 y)∧(Instr.lookup 294 (.map (some (w1.heap.size+1))) (.agg #[.int .i64 x,.int .i64 y]) false).run Tryz.prog w7=.ok (.int .i64 (c:Nat)) w7 from ⟨bx1 (b:=w1.heap.size+1+1) t3b,(bx2 t5b).1,(bx2 t5b).2,hlk7⟩)
      clear t3 t5 t3b t5b hlk hlk7
      go_wp2_with fail
      have hmx:Tryz.prog.follows .mixedOrders=true:=by kernel_rfl
      refine qYgd (S:=fun v:World=>v.cell? ⟨w1.heap.size+1+1,0,none⟩=some (.map (some (w1.heap.size+1)))∧v.cell? ⟨wr.heap.size,0,none⟩=some (.int .i64 x)∧v.cell? ⟨wr.heap.size,1,none⟩=some (.int .i64 y)∧(Instr.lookup 294 (.map (some (w1.heap.size+1))) (.agg #[.int .i64 x,.int .i64 y]) false).run Tryz.prog v=.ok (.int .i64 (c:Nat)) v) (f:=6) hmx ?_
      show jZdv _ _ _ _ _ _ 7 _ _ V6.drew
      refine zB2j (i:=0) (oi:=_) (v:=?vv1) (some 36) rfl rfl (by kernel_rfl) (by kernel_rfl) (by kernel_rfl) (by kernel_rfl) (by kernel_rfl) (fun _ _ _ h=>h) (Or.inl ⟨by rfl,?yy1⟩) hSd ?rr1
      case yy1=>(intro wq hSq;obtain ⟨_,_,_,_⟩:=hSq;go_simp<;>with_reducible rfl)
      simp only[kj,kc,kg,kf]
      refine zB2j (i:=1) (oi:=_) (v:=?vv2) (some 37) rfl rfl (by kernel_rfl) (by kernel_rfl) (by kernel_rfl) (by kernel_rfl) (by kernel_rfl) (fun _ _ _ h=>h) (Or.inl ⟨by rfl,?yy2⟩) hSd ?rr2
      case yy2=>(intro wq hSq;obtain ⟨_,_,_,_⟩:=hSq;go_simp<;>with_reducible rfl)
      simp only[kj,kc,kg,kf]
      refine zB2j (i:=2) (oi:=_) (v:=?vv3) (some 38) rfl rfl (by kernel_rfl) (by kernel_rfl) (by kernel_rfl) (by kernel_rfl) (by kernel_rfl) (fun _ _ _ h=>h) (Or.inl ⟨by rfl,?yy3⟩) hSd ?rr3
      case yy3=>(intro wq hSq;obtain ⟨_,_,_,_⟩:=hSq;go_simp<;>with_reducible rfl)
      simp only[kj,kc,kg,kf]
      refine zB2j (i:=3) (oi:=_) (v:=?vv4) (some 39) rfl rfl (by kernel_rfl) (by kernel_rfl) (by kernel_rfl) (by kernel_rfl) (by kernel_rfl) (fun _ _ _ h=>h) (Or.inl ⟨by rfl,?yy4⟩) hSd ?rr4
      case yy4=>(intro wq hSq;obtain ⟨_,_,_,_⟩:=hSq;go_simp<;>with_reducible rfl)
      simp only[kj,kc,kg,kf]
      refine znWj (i:=4) (o:=_) (by kernel_rfl) rfl (fun K' hK=>?_)
      rw[if_pos (by rfl)]
      go_simp
      have hSd:=HS7.out
      refine hK.out _ _ hSd ?_
      clear hK
      try simp only[kj]
      refine zB2j (i:=5) (oi:=_) (v:=?vv5) (some 41) rfl rfl (by kernel_rfl) (by kernel_rfl) (by kernel_rfl) (by kernel_rfl) (by kernel_rfl) (fun _ _ _ h=>h) (Or.inl ⟨by rfl,?yy5⟩) hSd ?rr5
      case yy5=>(intro wq hSq;obtain ⟨_,_,_,_⟩:=hSq;go_simp<;>with_reducible rfl)
      simp only[kj,kc,kg,kf]
      refine z9gO (o:=_) (by kernel_rfl) rfl (fun K' hK=>?_)
      rw[if_pos (by rfl)]
      go_simp
      refine hK.out _ _ ?_
      clear hK
      refine jFdp (by kernel_rfl) ?_ _
      try simp only[kj]
      go_wp2
      go_roundw
      case rel=>exact ⟨k+1,by omega,by go_num,HEND.out⟩
      case measure=>simp[intOf];omega
     ·have hh:hasB WN HN x y=false:=by simpa using hh
      rw[hh]
      have he:E=3:=by rw[HE.out,HFA.out hh];rfl
      subst he
      have g4:=(hB6.block (w.heap.size+1) (by omega)).trans b1
      obtain ⟨z0,z1,z2⟩:=z5EY g4
      have f0:=kh g4 0
      have f1:=kh g4 1
      have f2:=kh g4 2
      have HFIN:=hide (zHqh (j4.trans (hB6.mono j4.size)) (show w.heap.size≤w.heap.size+1 by omega) (.int .i64 0) (.int .i64 0) (.slice none 0 0))
      go_wp2
      exact bodyPost_ret (v:=.tuple #[.agg #[.int .i64 0,.int .i64 0,.slice none 0 0],.int .i64 3]) (by simp[results,Tryz.results259,go_sem,z0,z1,z2]) rfl ⟨.slice none 0 0,rfl,jCvT.nil _,HFIN.out,Fresh.nil _⟩
    ·have hd:decide ((k:Int)<(ls.length:Int))=false:=by simp;omega
     have hkl:k=ls.length:=by omega
     subst hkl
     have he:E=0:=by rw[HE.out,XjDF j5,if_pos rfl]
     subst he
     rw[List.take_length] at j1
     have hM1:=hide j1
     have a5:=al1 wr (ka #[.func (.func 260) #[] #[.pointer (some ⟨w1.heap.size+1+1,0,none⟩)]] 176)
     have hB5:=qUNz wr (ka #[.func (.func 260) #[] #[.pointer (some ⟨w1.heap.size+1+1,0,none⟩)]] 176)
     obtain ⟨g0,g1⟩:=bx2 ((hB5.block w1.heap.size (by omega)).trans b2)
     obtain ⟨g2,g3⟩:=bx2 b2
     go_wp2_with fail
     have hl5:=(ke.1 a5).1
     clear g0 g1 g2 g3
     generalize wr.alloc (ka #[.func (.func 260) #[] #[.pointer (some ⟨w1.heap.size+1+1,0,none⟩)]] 176)=V5 at *
     refine (zPMW WN HN zs.length (by omega) (by omega) HLEN.out 261 #[.pointer (some ⟨wr.heap.size,0,none⟩),.pointer (some ⟨w.heap.size,0,none⟩),.pointer (some ⟨w1.heap.size,0,none⟩)] (repV zs WN HN ls) _ (enters_of Tryz.func261 (by kernel_rfl) rfl) ?_).mono ?_
     ·intro j V hj hV
      have hb3:=quJN hB5 hV
      have hbw:=j4.trans (hb3.mono j4.size)
      obtain ⟨e0,e1,e2⟩:=z5EY ((hb3.block w.heap.size (by omega)).trans b0)
      obtain ⟨e4,e5⟩:=bx2 ((hb3.block w1.heap.size (by omega)).trans b2)
      have e6:=bx1 ((hb3.block (w1.heap.size+2) (by omega)).trans b3)
      have e7:=bx1 ((hV.block wr.heap.size hl5).trans a5)
      have hs:=hb3.size
      have hsV:=hV.size
      exact z63Z WN HN j bk off ca (by omega) (by omega) (by omega) (by omega) zs HLEN.out HZ.out hj ls ls.length (w1.heap.size+1) wr.heap.size w.heap.size w1.heap.size (w1.heap.size+2) V (by omega) (by omega) (kl hbk hbw.size) e0 e1 e2 e4 e5 (by omega) e7 (by omega) e6 (hM1.out.below hb3 hM1.out.lt) (fun i hi=>(hbw.cell (p:=⟨bk,off+i,none⟩) hbk).trans (HCC.out i hi))
     ·rintro e w3 ⟨r,rfl,hr,hb3,hfr⟩
      replace hb3:=quJN hB5 hb3
      have g4:=(hb3.block (w.heap.size+1) (by omega)).trans b1
      obtain ⟨z0,z1,z2⟩:=z5EY g4
      have f0:=kh g4 0
      have f1:=kh g4 1
      have f2:=kh g4 2
      have HR:=hide hr
      obtain ⟨ro,rc,rfl,_,_⟩:=hr
      have HFIN:=hide (zHqh (j4.trans (hb3.mono j4.size)) (show w.heap.size≤w.heap.size+1 by omega) (.int .i64 (WN:Nat)) (.int .i64 (HN:Nat)) (.slice ro ((List.range zs.length).map (repV zs WN HN ls)).length rc))
      have HPX2:=hide (HR.out.set3 hfr (show w.heap.size+1<V5.heap.size by have:=hB5.size;omega) (.int .i64 (WN:Nat)) (.int .i64 (HN:Nat)) (.slice ro ((List.range zs.length).map (repV zs WN HN ls)).length rc))
      rw[List.length_map,List.length_range] at HPX2 HFIN hfr
      rw[List.length_map,List.length_range]
      have hsz5:w.heap.size≤V5.heap.size:=km j4.size hB5.size
      go_wp2
      exact bodyPost_ret (v:=.tuple #[.agg #[.int .i64 (WN:Nat),.int .i64 (HN:Nat),.slice ro zs.length rc],.int .i64 0]) (by simp[results,Tryz.results259,go_sem,z0,z1,z2]) rfl ⟨_,rfl,HPX2.out,HFIN.out,hfr.mono hsz5⟩
  ·have he:E=2:=by rw[←hE,repE,if_pos hp,if_neg hmn]
   have hd64:decide (64<(ls.length:Int))=true:=by simp;omega
   subst he
   clear hE
   obtain ⟨ao,ca,rfl,_,_⟩:=hv
   go_enter Tryz.func259,Tryz.ntmps259
   go_wp2_with fail
   obtain ⟨a1,a2⟩:=al2 w (ka #[.int .i64 W,.int .i64 H,.slice ao zs.length ca] 54) (ka #[.int .i64 0,.int .i64 0,.slice none 0 0] 54)
   have hB:=be2 w (ka #[.int .i64 W,.int .i64 H,.slice ao zs.length ca] 54) (ka #[.int .i64 0,.int .i64 0,.slice none 0 0] 54)
   generalize (w.alloc (ka #[.int .i64 W,.int .i64 H,.slice ao zs.length ca] 54)).alloc (ka #[.int .i64 0,.int .i64 0,.slice none 0 0] 54)=U at *
   have hlU:=(ke.1 a2).1
   refine (XeC7 W H _ zs _ (HV.out.below hB (kk _))).mono ?_
   rintro e w1 ⟨rfl,hb1⟩
   rw[hp]
   have g4:=(hb1.block (w.heap.size+1) hlU).trans a2
   obtain ⟨z0,z1,z2⟩:=z5EY g4
   have f0:=kh g4 0
   have f1:=kh g4 1
   have f2:=kh g4 2
   have HFIN:=hide (zHqh (hB.trans (hb1.mono hB.size)) (show w.heap.size≤w.heap.size+1 by omega) (.int .i64 0) (.int .i64 0) (.slice none 0 0))
   go_wp2
   exact bodyPost_ret (v:=.tuple #[.agg #[.int .i64 0,.int .i64 0,.slice none 0 0],.int .i64 2]) (by simp[results,Tryz.results259,go_sem,z0,z1,z2]) rfl ⟨.slice none 0 0,rfl,jCvT.nil _,HFIN.out,Fresh.nil _⟩
 ·have he:E=1:=by rw[←hE,repE,if_neg hp]
  have hp:q0fM W H zs=false:=by simpa using hp
  subst he
  clear hE
  obtain ⟨ao,ca,rfl,_,_⟩:=hv
  go_enter Tryz.func259,Tryz.ntmps259
  go_wp2_with fail
  obtain ⟨a1,a2⟩:=al2 w (ka #[.int .i64 W,.int .i64 H,.slice ao zs.length ca] 54) (ka #[.int .i64 0,.int .i64 0,.slice none 0 0] 54)
  have hB:=be2 w (ka #[.int .i64 W,.int .i64 H,.slice ao zs.length ca] 54) (ka #[.int .i64 0,.int .i64 0,.slice none 0 0] 54)
  generalize (w.alloc (ka #[.int .i64 W,.int .i64 H,.slice ao zs.length ca] 54)).alloc (ka #[.int .i64 0,.int .i64 0,.slice none 0 0] 54)=U at *
  have hlU:=(ke.1 a2).1
  refine (XeC7 W H _ zs _ (HV.out.below hB (kk _))).mono ?_
  rintro e w1 ⟨rfl,hb1⟩
  rw[hp]
  have g4:=(hb1.block (w.heap.size+1) hlU).trans a2
  obtain ⟨z0,z1,z2⟩:=z5EY g4
  have f0:=kh g4 0
  have f1:=kh g4 1
  have f2:=kh g4 2
  have HFIN:=hide (zHqh (hB.trans (hb1.mono hB.size)) (show w.heap.size≤w.heap.size+1 by omega) (.int .i64 0) (.int .i64 0) (.slice none 0 0))
  go_wp2
  exact bodyPost_ret (v:=.tuple #[.agg #[.int .i64 0,.int .i64 0,.slice none 0 0],.int .i64 1]) (by simp[results,Tryz.results259,go_sem,z0,z1,z2]) rfl ⟨.slice none 0 0,rfl,jCvT.nil _,HFIN.out,Fresh.nil _⟩
theorem jyt8 {ls:List Pt} {p:Pt} (i:Nat) (hi:i<ls.length) (h:ptAt ls i=p):goodB ls p=false:=by
 have hm:p∈ls:=by rw[←h,←jU85 ls i hi];exact List.getElem_mem hi
 have:=List.count_pos_iff.2 hm
 exact decide_eq_false (by omega)
theorem Xdq4 {ls:List Pt} {p:Pt} (h:∀i,i<ls.length→ptAt ls i≠p):goodB ls p=true:=by
 refine decide_eq_true (List.count_eq_zero.2 fun hm=>?_)
 obtain ⟨i,hi,e⟩:=List.getElem_of_mem hm
 exact h i hi (by rw[←jU85 ls i hi];exact e)
theorem qg8E (v:Value) (ls:List Pt) (x y:Int) (w:World) (hv:IsPts w v ls) :
  Calls Tryz.prog 141 #[v,.int .i64 x,.int .i64 y] w fun e w'=>e=.returned (.bool (!goodB ls (x,y)))∧w=w':=by
 obtain ⟨ao,ca,rfl,hla,hc0⟩:=hv
 have HC:=hide (fun j hj=>IsPts.at ⟨ao,ca,rfl,hla,hc0⟩ j hj)
 clear hc0
 obtain ⟨R,hR⟩:∃R,goodB ls (x,y)=R:=⟨_,rfl⟩
 rw[hR]
 have HR:=hide hR
 clear hR
 go_enter Tryz.func141,Tryz.ntmps141
 go_wp2
 go_loop [7] (fun i=>∃k:Nat,k≤ls.length∧i=.int .i64 k∧Hid (∀i,i<k→ptAt ls i≠(x,y))) (fun i=>ls.length-(intOf i).toNat)
 case atStart=>exact ⟨0,kn _,rfl,hide (fun i hi=>by omega)⟩
 case round =>
  obtain ⟨k,hk,rfl,HA⟩:=hrel
  by_cases hlt:k<ls.length
  ·have hd:decide ((k:Int)<(ls.length:Int))=true:=by simp;omega
   obtain ⟨bq,oq,rfl,hbq,e0,e1⟩:=HC.out k hlt
   have HF:=hide (fun h=>jyt8 (p:=(x,y)) k hlt h)
   have HT:=hide (show ptAt ls k≠(x,y)→∀i,i<k+1→ptAt ls i≠(x,y) from fun hn i hi=>by
    rcases Nat.lt_succ_iff_lt_or_eq.1 hi with h|rfl
    ·exact HA.out i h
    ·exact hn)
   obtain ⟨⟨a,b⟩,hab⟩:∃p,ptAt ls k=p:=⟨_,rfl⟩
   rw[hab] at e0 e1 HF HT
   simp only at e0 e1
   clear hab
   by_cases hx:a=x
   ·subst hx
    by_cases hy:b=y
    ·subst hy
     have hr:R=false:=HR.out.symm.trans (HF.out rfl)
     subst hr
     go_wp2
     go_ret
     exact ⟨rfl,rfl⟩
    ·have hyb:(b == y)=false:=by simpa using hy
     have HN:=hide (HT.out (by simpa using hy))
     go_wp2
     go_round
     case rel=>exact ⟨k+1,by omega,by go_num,HN⟩
     case measure=>simp[intOf];omega
   ·have hxb:(a == x)=false:=by simpa using hx
    have HN:=hide (HT.out (fun e=>hx (congrArg Prod.fst e)))
    go_wp2
    go_round
    case rel=>exact ⟨k+1,by omega,by go_num,HN⟩
    case measure=>simp[intOf];omega
  ·have hd:decide ((k:Int)<(ls.length:Int))=false:=by simp;omega
   have hkl:k=ls.length:=by omega
   have hr:R=true:=HR.out.symm.trans (Xdq4 (fun i hi=>HA.out i (by omega)))
   subst hr
   go_wp2
   go_ret
   exact ⟨rfl,rfl⟩
theorem jbdn (v:Value) (ls:List Pt) (W H:Int) (hW:1≤W∧W≤64) (hH:1≤H∧H≤64) (w:World) (hv:IsPts w v ls) :
  Calls Tryz.prog 132 #[v,.int .i64 W,.int .i64 H] w fun e w'=>e=.returned (.bool (XepW W H ls))∧w=w':=by
 obtain ⟨ao,ca,rfl,hla,hc0⟩:=hv
 have HC:=hide (fun j hj=>IsPts.at ⟨ao,ca,rfl,hla,hc0⟩ j hj)
 clear hc0
 obtain ⟨hW1,hW2⟩:=hW
 obtain ⟨hH1,hH2⟩:=hH
 obtain ⟨R,hR⟩:∃R,XepW W H ls=R:=⟨_,rfl⟩
 rw[hR]
 have HR:=hide hR
 clear hR
 go_enter Tryz.func132,Tryz.ntmps132
 go_wp2
 go_loop [7] (fun i=>∃k:Nat,k≤ls.length∧i=.int .i64 k∧Hid (∀i,i<k→hasB W H (ptAt ls i).1 (ptAt ls i).2=true)) (fun i=>ls.length-(intOf i).toNat)
 case atStart=>exact ⟨0,kn _,rfl,hide (fun i hi=>by omega)⟩
 case round =>
  obtain ⟨k,hk,rfl,HA⟩:=hrel
  by_cases hlt:k<ls.length
  ·have hd:decide ((k:Int)<(ls.length:Int))=true:=by simp;omega
   obtain ⟨bq,oq,rfl,hbq,e0,e1⟩:=HC.out k hlt
   have HF:=hide (fun h=>zEqn (W:=W) (H:=H) k hlt h)
   have HT:=hide (show hasB W H (ptAt ls k).1 (ptAt ls k).2=true→∀i,i<k+1→hasB W H (ptAt ls i).1 (ptAt ls i).2=true from fun hn i hi=>by
    rcases Nat.lt_succ_iff_lt_or_eq.1 hi with h|rfl
    ·exact HA.out i h
    ·exact hn)
   obtain ⟨⟨a,b⟩,hab⟩:∃p,ptAt ls k=p:=⟨_,rfl⟩
   rw[hab] at e0 e1 HF HT
   simp only at e0 e1 HF HT
   clear hab
   by_cases hx:0≤a∧a≤W-1
   ·have hxd:decide (0≤a∧a≤W-1)=true:=by simpa using hx
    by_cases hy:0≤b∧b≤H-1
    ·have hyd:decide (0≤b∧b≤H-1)=true:=by simpa using hy
     have HN:=hide (HT.out (by simp[hasB];omega))
     clear hx hy
     go_wp2_with (go_at_call 33;refine (qVbC _ _ _ _).mono ?_;rintro e wx ⟨rfl,rfl⟩;first|rw[hxd]|rw[hyd])
     go_round
     case rel=>exact ⟨k+1,by omega,by go_num,HN⟩
     case measure=>simp[intOf];omega
    ·have hyd:decide (0≤b∧b≤H-1)=false:=by simpa using hy
     have hr:R=false:=HR.out.symm.trans (HF.out (by simp[hasB];omega))
     subst hr
     clear hx hy
     go_wp2_with (go_at_call 33;refine (qVbC _ _ _ _).mono ?_;rintro e wx ⟨rfl,rfl⟩;first|rw[hxd]|rw[hyd])
     go_ret
     exact ⟨rfl,rfl⟩
   ·have hxd:decide (0≤a∧a≤W-1)=false:=by simpa using hx
    have hr:R=false:=HR.out.symm.trans (HF.out (by simp[hasB];omega))
    subst hr
    clear hx
    go_wp2_with (go_at_call 33;refine (qVbC _ _ _ _).mono ?_;rintro e wx ⟨rfl,rfl⟩;rw[hxd])
    go_ret
    exact ⟨rfl,rfl⟩
  ·have hd:decide ((k:Int)<(ls.length:Int))=false:=by simp;omega
   have hkl:k=ls.length:=by omega
   have hr:R=true:=HR.out.symm.trans (XjDF (fun i hi=>HA.out i (by omega)))
   subst hr
   go_wp2
   go_ret
   exact ⟨rfl,rfl⟩
end Go.Proofs.YtfjeonehdlphiaaGreatDoor
