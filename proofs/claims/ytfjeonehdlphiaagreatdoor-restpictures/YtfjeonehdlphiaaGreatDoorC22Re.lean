/- Re: part 22 of what the proofs need. -/
import Derived.Test.YtfjeonehdlphiaaGreatDoorC3Re
import Derived.Test.YtfjeonehdlphiaaGreatDoorC6Re
import Derived.Test.YtfjeonehdlphiaaGreatDoorC19Re
import Derived.Test.YtfjeonehdlphiaaGreatDoorC20Re
import Derived.Test.YtfjeonehdlphiaaGreatDoorC21Re
open Go.Obj renaming cells → kb
open List renaming setIfInBounds_toArray → kc, set_cons_zero → ke, set_cons_succ → kg
open Array renaming getElem?_eq_some_iff → kd
open Go.Lib renaming frozen_of_heap → kh, cell_of_heap → ki
open Go.Act renaming put → kj
open Nat renaming le_refl → kk, le_trans → ko, zero_le → kp, mul_le_mul_right → kq, succ_mul → kr, mul_comm → ks
open Go.AllReadyH renaming cons → kl, nil → km
open Go.RowKit.Below renaming refl → kn
set_option linter.unusedVariables false
set_option maxHeartbeats 6400000
set_option maxRecDepth 100000
namespace Go.Proofs.YtfjeonehdlphiaaGreatDoor
open Go.RowKit Go.Shelf
attribute [local go_sem] Oper.semAt_some
theorem zNvO {P:Program} {c:Code} {Q:Exit→Act→World→Prop} {a:Act} {w:World} (R:Act→World→Prop) (h1:c.wp P (Exit.then R Q) a w) (h2:∀a' w',R a' w'→Q .normal a' w'):c.wp P Q a w :=
 wp_mono h1 fun e a' w' h=>by
  cases e with
  | normal=>exact h2 a' w' h
  | _=>exact h
theorem X2XP (W H X Y bk off ca:Nat) (hW1:1≤W) (hW:W≤64) (hH1:1≤H) (hH:H≤64) (hX:X<W) (hY:Y<H) (ps:List Px) (hlen:ps.length=H*W) (hps:pxsOk ps=true) (w:World)
    (hbk:bk<w.heap.size) (hcell:∀j,j<ps.length→w.cell? ⟨bk,off+j*3,none⟩=some (.int .i64 (pxAt ps j).1)∧w.cell? ⟨bk,off+j*3+1,none⟩=some (.int .i64 (pxAt ps j).2.1)∧w.cell? ⟨bk,off+j*3+2,none⟩=some (.int .i64 (pxAt ps j).2.2)) :
    Calls Tryz.prog 281 #[.agg #[.int .i64 W,.int .i64 H,.slice (some ⟨bk,off,none⟩) ps.length ca],.agg #[.int .i64 X,.int .i64 Y]] w fun e w'=>e=.returned (pixV (wF ps W H X Y (List.finRange 8)))∧Below w.heap.size w w':=by
  have hl4:ps.length≤4096:=by rw[hlen];exact ko (Nat.mul_le_mul hH hW) (by decide)
  have hjl:Y*W+X<ps.length:=by
    have h1:(Y+1)*W≤H*W:=kq _ hY
    rw[kr] at h1
    rw[hlen];omega
  have HLEN:=hide hlen
  have HPS:=hide hps
  have HC:=hide hcell
  clear hlen hps hcell
  refine (callsIn_wide (n:=3)).1 ?_
  refine callsIn_of_wp_marks Tryz.func281 rfl trivial ?_ rfl
  simp only[Tryz.ntmps281,List.size_toArray,List.length_cons,List.length_nil,Nat.reduceAdd,Nat.reduceSub,Array.replicate_succ,Array.replicate_zero,List.push_toArray,List.append_toArray,List.nil_append,List.cons_append]
  gi_wp2_with fail
  refine wpIn_wide.2 ?_
  obtain ⟨a1,a2,a3,a4⟩:=al4 w (kb #[.int .i64 W,.int .i64 H,.slice (some ⟨bk,off,none⟩) ps.length ca] 24) (kb #[.int .i64 X,.int .i64 Y] 97) (kb #[.int .i64 0,.int .i64 0,.int .i64 0] 61) (kb #[.int .i64 W,.int .i64 H] 95)
  have hB4:=be4 w (kb #[.int .i64 W,.int .i64 H,.slice (some ⟨bk,off,none⟩) ps.length ca] 24) (kb #[.int .i64 X,.int .i64 Y] 97) (kb #[.int .i64 0,.int .i64 0,.int .i64 0] 61) (kb #[.int .i64 W,.int .i64 H] 95)
  have hs4:((((w.alloc (kb #[.int .i64 W,.int .i64 H,.slice (some ⟨bk,off,none⟩) ps.length ca] 24)).alloc (kb #[.int .i64 X,.int .i64 Y] 97)).alloc (kb #[.int .i64 0,.int .i64 0,.int .i64 0] 61)).alloc (kb #[.int .i64 W,.int .i64 H] 95)).heap.size=w.heap.size+4:=by simp
  generalize (((w.alloc (kb #[.int .i64 W,.int .i64 H,.slice (some ⟨bk,off,none⟩) ps.length ca] 24)).alloc (kb #[.int .i64 X,.int .i64 Y] 97)).alloc (kb #[.int .i64 0,.int .i64 0,.int .i64 0] 61)).alloc (kb #[.int .i64 W,.int .i64 H] 95)=U at *
  replace hs4:=Nat.le_of_eq hs4.symm
  obtain ⟨⟨r,g,u⟩,hp⟩:∃p,pxAt ps (Y*W+X)=p:=⟨_,rfl⟩
  have hpk:=z1DB HPS.out (Y*W+X)
  have HS0:=hide (show wF ps W H X Y []=addP (0,0,0) 4 (r,g,u) by rw[←hp];rfl)
  have HS0b:=hide (qf9w (jdoM HPS.out W H X Y []) (show 4+2*((([]:List (Fin 8)).length:Nat):Int)≤32 by decide))
  have HS:=hide (show ∀w',Below U.heap.size U w'→(w'.cell? ⟨w.heap.size,2,none⟩=some (.slice (some ⟨bk,off,none⟩) ps.length ca)∧w'.cell? ⟨w.heap.size+3,0,none⟩=some (.int .i64 W)∧w'.cell? ⟨w.heap.size+3,1,none⟩=some (.int .i64 H)∧w'.cell? ⟨w.heap.size+1,0,none⟩=some (.int .i64 X)∧w'.cell? ⟨w.heap.size+1,1,none⟩=some (.int .i64 Y) ∧
      w'.cell? ⟨bk,off+(Y*W+X)*3,none⟩=some (.int .i64 r)∧w'.cell? ⟨bk,off+(Y*W+X)*3+1,none⟩=some (.int .i64 g)∧w'.cell? ⟨bk,off+(Y*W+X)*3+2,none⟩=some (.int .i64 u)) from fun w' h=>by
    have hV:=hB4.trans (h.mono hB4.size)
    obtain ⟨_,_,q2⟩:=z5EY ((h.block w.heap.size (by omega)).trans a1)
    have g2:=(h.block (w.heap.size+1) (by omega)).trans a2
    have g4:=(h.block (w.heap.size+3) (by omega)).trans a4
    obtain ⟨c0,c1,c2⟩:=HC.out _ hjl
    rw[hp] at c0 c1 c2
    exact ⟨q2,by rw[ki g4];rfl,by rw[ki g4];rfl,by rw[ki g2];rfl,by rw[ki g2];rfl,(hV.cell (p:=⟨bk,off+(Y*W+X)*3,none⟩) hbk).trans c0,(hV.cell (p:=⟨bk,off+(Y*W+X)*3+1,none⟩) hbk).trans c1,(hV.cell (p:=⟨bk,off+(Y*W+X)*3+2,none⟩) hbk).trans c2⟩)
  obtain ⟨J,hJ⟩:∃J,Y*W+X=J:=⟨_,rfl⟩
  have HIX:=hide (show ∀w',Below U.heap.size U w'→Calls Tryz.prog 42 #[.agg #[.int .i64 W,.int .i64 H],.agg #[.int .i64 X,.int .i64 Y]] w' fun e w''=>e=.returned (.int .i64 J)∧Below U.heap.size U w''∧Below w'.heap.size w' w'' from fun w' h =>
    (XSSj W H X Y W J rfl hJ (by omega) w').mono fun e w'' h2=>⟨h2.1,h.trans (h2.2.mono h.size),h2.2⟩)
  rw[hp] at hpk
  have HWE:=hide (show ∀w',Below U.heap.size U w'→Calls Tryz.prog 282 #[.agg #[.int .i64 0,.int .i64 0,.int .i64 0],.agg #[.int .i64 r,.int .i64 g,.int .i64 u],.int .i64 4] w' fun e w''=>e=.returned (pixV (wF ps W H X Y []))∧Below U.heap.size U w''∧Below w'.heap.size w' w'' from fun w' h=>by
    rw[HS0.out]
    exact (j8Cj (0,0,0) (r,g,u) 4 (by omega) (by omega) ⟨⟨by decide,by decide⟩,⟨by decide,by decide⟩,by decide,by decide⟩ hpk w').mono fun e w'' h2=>⟨h2.1,h.trans (h2.2.mono h.size),h2.2⟩)
  rw[hJ] at HS hjl
  clear hpk hp
  obtain ⟨⟨s0,s1,s2⟩,hs⟩:∃s,wF ps W H X Y []=s:=⟨_,rfl⟩
  rw[hs] at HWE HS0b
  have HSS:=hide hs
  clear hs HS0 hJ
  have HSA:=hide (show ∀w' o,Below U.heap.size U w'→Below U.heap.size U (w'.alloc o) from fun w' o h=>h.alloc h.size o)
  have HS3:=hide (show ∀w' b x y z,Below U.heap.size U w'→U.heap.size≤b→Below U.heap.size U (((w'.setCell ⟨b,0,none⟩ x).setCell ⟨b,1,none⟩ y).setCell ⟨b,2,none⟩ z) from fun w' b x y z h hb=>zHqh h hb x y z)
  have hdrew:Below U.heap.size U U.drew:=(kn _ _).drew
  have hdrewA:Below U.heap.size U (U.alloc (kb #[.int .i64 0,.int .i64 0,.int .i64 0] 61)).drew:=XpIb (qUNz _ _)
  have HZU:=hide (show (U.alloc (kb #[.int .i64 0,.int .i64 0,.int .i64 0] 61)).drew.heap[U.heap.size]?=some (.cells #[.int .i64 0,.int .i64 0,.int .i64 0] 61 (0,0)) from al1 U _)
  refine zNvO (fun a' V=>∃SB,a'={ tmps:=#[.agg #[.int .i64 W,.int .i64 H,.slice (some ⟨bk,off,none⟩) ps.length ca],.agg #[.int .i64 X,.int .i64 Y],.pointer (some ⟨w.heap.size,0,none⟩),.pointer (some ⟨w.heap.size+1,0,none⟩),.pointer (some ⟨w.heap.size+1+1,0,none⟩),.pointer (some ⟨w.heap.size+1+1+1,0,none⟩),.pointer (some ⟨SB,0,none⟩),undef,undef,.pointer (some ⟨w.heap.size,0,none⟩),.int .i64 W,.pointer (some ⟨w.heap.size,1,none⟩),.int .i64 H,.agg #[.int .i64 W,.int .i64 H],.agg #[.int .i64 0,.int .i64 0,.int .i64 0],.pointer (some ⟨w.heap.size,2,none⟩),.slice (some ⟨bk,off,none⟩) ps.length ca,.agg #[.int .i64 W,.int .i64 H],.agg #[.int .i64 X,.int .i64 Y],.int .i64 J,.pointer (some ⟨bk,off+J*3,none⟩),.agg #[.int .i64 r,.int .i64 g,.int .i64 u],pixV (s0,s1,s2),undef,undef,undef,undef,undef,undef,undef,undef,undef,undef,undef,undef,undef,undef,undef,undef,undef,undef,undef,undef,undef,undef,undef,undef,undef,undef,undef,undef],defers:=[] }∧Below U.heap.size U V∧V.heap[SB]?=some (.cells #[.int .i64 s0,.int .i64 s1,.int .i64 s2] 61 (0,0))∧U.heap.size≤SB) ?_ ?_
  rotate_left
  · rintro a' V ⟨SB, rfl, vB, vS, hSB⟩
    obtain ⟨k1,k2,k3,k4,k5,k6,k7,k8⟩:=HS.out V vB
    gi_wp2_with fail
    refine ⟨trivial,?_⟩
    refine (zJHU Fence.wide _ trivial rfl _ _ _).mono ?_
    rintro e w' ⟨rfl,rfl⟩
    gi_wp2_with fail
    have hsV:=vB.size
    have hlS:=(kd.1 vS).1
    have n0:=al1 V (kb #[.int .i64 X,.int .i64 Y] 97)
    have hs0:(V.alloc (kb #[.int .i64 X,.int .i64 Y] 97)).heap.size=V.heap.size+1:=by simp
    have j0:(V.alloc (kb #[.int .i64 X,.int .i64 Y] 97)).heap[SB]?=some (.cells #[.int .i64 s0,.int .i64 s1,.int .i64 s2] 61 (0,0)):=(Below.heap_alloc _ _ _ hlS).trans vS
    have hB0:Below U.heap.size U (V.alloc (kb #[.int .i64 X,.int .i64 Y] 97)):=vB.alloc vB.size _
    generalize V.alloc (kb #[.int .i64 X,.int .i64 Y] 97)=W0 at *
    refine wpIn_rangeFunc_ownH (α:=Fin 8) rfl (show 1≤3 by omega) (gf:=184) (lb:=#[.pointer (some ⟨V.heap.size,0,none⟩)]) rfl trivial (enters_of Tryz.func184 (by kernel_rfl) rfl)
      (jMfn Fence.wide (3-1) trivial rfl (by omega) V.heap.size X Y (by omega) (by omega) W0 (by omega) (by rw[ki n0];rfl) (by rw[ki n0];rfl)) (fun {A B C} h k=>h.trans' k) (fun X l o o' hl _ _ _=>qMCQ (by omega)) (kn _ _) (fun _=>rfl)
      (fun pre W'=>W'.heap[SB]?=some (.cells (pixA (wF ps W H X Y pre)) 61 (0,0))∧W'.heap[V.heap.size]?=some (.cells #[.int .i64 X,.int .i64 Y] 97 (0,0))∧Below U.heap.size U W')
      (fun _ _ _=>False)
      (fun s X Y row ⟨b1,b2,b3⟩ hg hr=>⟨qLYA hg hr b1,qLYA hg hr b2,ownFrom_below (β:=Unit) (kk _) (by omega) () X Y row b3 hg hr⟩)
      (fun _ _ _ _ _ hs _ _=>hs)
      ⟨by rw[HSS.out];exact j0,n0,hB0⟩
      (fun x a' W'=>∃Bx,W0.heap.size≤Bx∧W'.heap[Bx]?=some (.cells #[.int .i64 ((X:Int)-1+(nOf x.1 % 3:Nat)),.int .i64 ((Y:Int)-1+(nOf x.1 / 3:Nat))] 97 (0,0))∧a'={ tmps:=#[.agg #[.int .i64 W,.int .i64 H,.slice (some ⟨bk,off,none⟩) ps.length ca],.agg #[.int .i64 X,.int .i64 Y],.pointer (some ⟨w.heap.size,0,none⟩),.pointer (some ⟨w.heap.size+1,0,none⟩),.pointer (some ⟨w.heap.size+1+1,0,none⟩),.pointer (some ⟨w.heap.size+1+1+1,0,none⟩),.pointer (some ⟨SB,0,none⟩),.pointer (some ⟨Bx,0,none⟩),undef,.pointer (some ⟨w.heap.size,0,none⟩),.int .i64 W,.pointer (some ⟨w.heap.size,1,none⟩),.int .i64 H,.agg #[.int .i64 W,.int .i64 H],.agg #[.int .i64 0,.int .i64 0,.int .i64 0],.pointer (some ⟨w.heap.size,2,none⟩),.slice (some ⟨bk,off,none⟩) ps.length ca,.agg #[.int .i64 W,.int .i64 H],.agg #[.int .i64 X,.int .i64 Y],.int .i64 J,.pointer (some ⟨bk,off+J*3,none⟩),.agg #[.int .i64 r,.int .i64 g,.int .i64 u],pixV (s0,s1,s2),.agg #[.int .i64 X,.int .i64 Y],.func (.func 184) #[] #[.pointer (some ⟨V.heap.size,0,none⟩)],.agg #[.int .i64 ((X:Int)-1+(nOf x.1 % 3:Nat)),.int .i64 ((Y:Int)-1+(nOf x.1 / 3:Nat))],undef,undef,undef,undef,undef,undef,undef,undef,undef,undef,undef,undef,undef,undef,undef,undef,undef,undef,undef,undef,undef,undef,undef,undef,undef],defers:=[] })
      (fun x a' _ X Y row ⟨Bx,b1,b2,b3⟩ hg hr=>⟨Bx,b1,qLYA hg hr b2,b3⟩)
      ?assign ?body ?done ?stop
    case assign =>
      rintro l pre x W' K ⟨i1,i2,i3⟩ hK
      have hl1:=(kd.1 i1).1
      have hl2:=(kd.1 i2).1
      have hl3:=i3.size
      gi_wp2
      exact hK _ _ ((KeepsOthers.alloc _ _).from _) (Below.heap_alloc _ _ _ hl2) ⟨(Below.heap_alloc _ _ _ hl1).trans i1,(Below.heap_alloc _ _ _ hl2).trans i2,i3.alloc hl3 _⟩ ⟨W'.heap.size,by omega,al1 W' _,rfl⟩
    case body =>
      rintro l pre x a' W' hl ⟨rr,hrr⟩ ⟨i1,i2,i3⟩ ⟨Bx,hBx,bX,rfl⟩ hlt
      have HWU:=hide (qf9w (jdoM HPS.out W H X Y pre) (show 4+2*(pre.length:Int)≤32 by omega))
      have HSN:=hide (zYcT ps W H X Y pre x)
      have hn3:nOf x.1 % 3<3:=by omega
      have hn9:nOf x.1 / 3<3:=by have:=x.2;unfold nOf;split<;>omega
      obtain ⟨xa,hxa⟩:∃xa:Int,(X:Int)-1+(nOf x.1 % 3:Nat)=xa:=⟨_,rfl⟩
      obtain ⟨yb,hyb⟩:∃yb:Int,(Y:Int)-1+(nOf x.1 / 3:Nat)=yb:=⟨_,rfl⟩
      have hxb:-1≤xa∧xa≤66:=by omega
      have hybb:-1≤yb∧yb≤66:=by omega
      have HNW:=Xxtr W xa (by omega)
      have HNH:=Xxtr H yb (by omega)
      obtain ⟨NX,hNX⟩:=Int.eq_ofNat_of_zero_le HNW.1
      obtain ⟨NY,hNY⟩:=Int.eq_ofNat_of_zero_le HNH.1
      obtain ⟨K,hK⟩:∃K,wIx W H X Y x.1=K:=⟨_,rfl⟩
      have hKL:K<ps.length:=by rw[HLEN.out,←hK];exact wIx_lt hW1 hH1 X Y x.1
      have HKE:=hide (show NY*W+NX=K by rw[←hK,wIx,hxa,hyb,hNX,hNY];rfl)
      obtain ⟨⟨pr,pg,pu⟩,hpp⟩:∃p,pxAt ps K=p:=⟨_,rfl⟩
      have hpk:=z1DB HPS.out K
      obtain ⟨cc0,cc1,cc2⟩:=HC.out K hKL
      rw[hpp] at cc0 cc1 cc2 hpk
      rw[hK,hpp] at HSN
      have HWT:=XW1U x.1
      have HWD:=hide (show (xa=(X:Int)∨yb=(Y:Int)→wWt x.1=2)∧(¬xa=(X:Int)→¬yb=(Y:Int)→wWt x.1=1) from ⟨fun h=>by rw[wWt,if_pos (by omega)],fun h1 h2=>by rw[wWt,if_neg (by omega)]⟩)
      rw[hxa,hyb] at bX ⊢
      generalize wF ps W H X Y pre=sm at *
      obtain ⟨m0,m1,m2⟩:=sm
      obtain ⟨⟨nn0,nn1,nn2⟩,hnn⟩:∃n,addP (m0,m1,m2) (wWt x.1) (pr,pg,pu)=n:=⟨_,rfl⟩
      rw[hnn] at HSN
      have HWE2:=hide (fun (v:World)=>j8Cj (m0,m1,m2) (pr,pg,pu) (wWt x.1) HWT.1 (by omega) HWU.out hpk v)
      rw[hnn] at HWE2
      have HNE:=hide (fun (v:World)=>qzGK W H xa yb (by omega) (by omega) (by omega) (by omega) hxb.1 hxb.2 hybb.1 hybb.2 v)
      rw[hNX,hNY] at HNE
      have HIX2:=hide (fun (v:World)=>XSSj W H NX NY W K rfl HKE.out (by omega) v)
      have hsz:=i3.size
      have hlS':=(kd.1 i1).1
      have hlX:=(kd.1 bX).1
      have hSX:SB≠Bx:=fun e=>by rw[e] at i1;rw[i1] at bX;simp only[Option.some.injEq,kb.injEq] at bX;exact absurd bX.2.1 (by decide)
      have hSG:SB≠V.heap.size:=fun e=>by rw[e] at i1;rw[i1] at i2;simp only[Option.some.injEq,kb.injEq] at i2;exact absurd i2.2.1 (by decide)
      have HS2:=hide (show ∀v,Below W'.heap.size W' v→v.cell? ⟨w.heap.size,2,none⟩=some (.slice (some ⟨bk,off,none⟩) ps.length ca)∧v.cell? ⟨w.heap.size+3,0,none⟩=some (.int .i64 W)∧v.cell? ⟨w.heap.size+3,1,none⟩=some (.int .i64 H)∧v.cell? ⟨Bx,0,none⟩=some (.int .i64 xa)∧v.cell? ⟨Bx,1,none⟩=some (.int .i64 yb)∧v.cell? ⟨bk,off+K*3,none⟩=some (.int .i64 pr)∧v.cell? ⟨bk,off+K*3+1,none⟩=some (.int .i64 pg)∧v.cell? ⟨bk,off+K*3+2,none⟩=some (.int .i64 pu) from fun v h=>by
        have hUv:=i3.trans (h.mono hsz)
        obtain ⟨o1,o2,o3,_⟩:=HS.out v hUv
        have gx:=(h.block Bx hlX).trans bX
        have hwv:=hB4.trans (hUv.mono hB4.size)
        exact ⟨o1,o2,o3,by rw[ki gx];rfl,by rw[ki gx];rfl,(hwv.cell (p:=⟨bk,off+K*3,none⟩) hbk).trans cc0,(hwv.cell (p:=⟨bk,off+K*3+1,none⟩) hbk).trans cc1,(hwv.cell (p:=⟨bk,off+K*3+2,none⟩) hbk).trans cc2⟩)
      have HQ:=hide (show ∀v,Below W'.heap.size W' v→v.cell? ⟨SB,0,none⟩=some (.int .i64 m0)∧v.cell? ⟨SB,1,none⟩=some (.int .i64 m1)∧v.cell? ⟨SB,2,none⟩=some (.int .i64 m2) from fun v h=>z5EY ((h.block SB hlS').trans i1))
      have HTL:=hide (show ∀v,Below W'.heap.size W' v→v.frozen? ⟨SB,0,none⟩=false∧v.frozen? ⟨SB,1,none⟩=false∧v.frozen? ⟨SB,2,none⟩=false∧((((v.setCell ⟨SB,0,none⟩ (.int .i64 nn0)).setCell ⟨SB,1,none⟩ (.int .i64 nn1)).setCell ⟨SB,2,none⟩ (.int .i64 nn2)).cell? ⟨w.heap.size,2,none⟩=some (.slice (some ⟨bk,off,none⟩) ps.length ca)∧(((v.setCell ⟨SB,0,none⟩ (.int .i64 nn0)).setCell ⟨SB,1,none⟩ (.int .i64 nn1)).setCell ⟨SB,2,none⟩ (.int .i64 nn2)).cell? ⟨w.heap.size+3,0,none⟩=some (.int .i64 W)∧(((v.setCell ⟨SB,0,none⟩ (.int .i64 nn0)).setCell ⟨SB,1,none⟩ (.int .i64 nn1)).setCell ⟨SB,2,none⟩ (.int .i64 nn2)).cell? ⟨w.heap.size+3,1,none⟩=some (.int .i64 H)∧(((v.setCell ⟨SB,0,none⟩ (.int .i64 nn0)).setCell ⟨SB,1,none⟩ (.int .i64 nn1)).setCell ⟨SB,2,none⟩ (.int .i64 nn2)).cell? ⟨Bx,0,none⟩=some (.int .i64 xa)∧(((v.setCell ⟨SB,0,none⟩ (.int .i64 nn0)).setCell ⟨SB,1,none⟩ (.int .i64 nn1)).setCell ⟨SB,2,none⟩ (.int .i64 nn2)).cell? ⟨Bx,1,none⟩=some (.int .i64 yb)∧(((v.setCell ⟨SB,0,none⟩ (.int .i64 nn0)).setCell ⟨SB,1,none⟩ (.int .i64 nn1)).setCell ⟨SB,2,none⟩ (.int .i64 nn2)).cell? ⟨bk,off+K*3,none⟩=some (.int .i64 pr)∧(((v.setCell ⟨SB,0,none⟩ (.int .i64 nn0)).setCell ⟨SB,1,none⟩ (.int .i64 nn1)).setCell ⟨SB,2,none⟩ (.int .i64 nn2)).cell? ⟨bk,off+K*3+1,none⟩=some (.int .i64 pg)∧(((v.setCell ⟨SB,0,none⟩ (.int .i64 nn0)).setCell ⟨SB,1,none⟩ (.int .i64 nn1)).setCell ⟨SB,2,none⟩ (.int .i64 nn2)).cell? ⟨bk,off+K*3+2,none⟩=some (.int .i64 pu)) ∧
          (KeepsFrom W0.heap.size W' (((v.setCell ⟨SB,0,none⟩ (.int .i64 nn0)).setCell ⟨SB,1,none⟩ (.int .i64 nn1)).setCell ⟨SB,2,none⟩ (.int .i64 nn2))∧KeepB V.heap.size W' (((v.setCell ⟨SB,0,none⟩ (.int .i64 nn0)).setCell ⟨SB,1,none⟩ (.int .i64 nn1)).setCell ⟨SB,2,none⟩ (.int .i64 nn2))∧((((v.setCell ⟨SB,0,none⟩ (.int .i64 nn0)).setCell ⟨SB,1,none⟩ (.int .i64 nn1)).setCell ⟨SB,2,none⟩ (.int .i64 nn2)).heap[SB]?=some (.cells (pixA (wF ps W H X Y (pre++[x]))) 61 (0,0))∧(((v.setCell ⟨SB,0,none⟩ (.int .i64 nn0)).setCell ⟨SB,1,none⟩ (.int .i64 nn1)).setCell ⟨SB,2,none⟩ (.int .i64 nn2)).heap[V.heap.size]?=some (.cells #[.int .i64 X,.int .i64 Y] 97 (0,0))∧Below U.heap.size U (((v.setCell ⟨SB,0,none⟩ (.int .i64 nn0)).setCell ⟨SB,1,none⟩ (.int .i64 nn1)).setCell ⟨SB,2,none⟩ (.int .i64 nn2)))) from fun v h=>by
        have gS:=(h.block SB hlS').trans i1
        have gV:=(h.block V.heap.size (kd.1 i2).1).trans i2
        have hUv:=i3.trans (h.mono hsz)
        obtain ⟨x1,x2,x3,x4⟩:=X0Wz gS (.int .i64 nn0) (.int .i64 nn1) (.int .i64 nn2) U hSB hUv
        have hh:=HS2.out v h
        have e1:w.heap.size≠SB:=by omega
        have e2:w.heap.size+3≠SB:=by omega
        have e4:bk≠SB:=by omega
        refine ⟨kh gS 0,kh gS 1,kh gS 2,?_,⟨?_,fun k o _ hk hoc=>?_⟩,?_,?_,?_,x4⟩
        · rw [zd1R _ _ _ e1, zd1R _ _ _ e2, zd1R _ _ _ e2, zd1R _ _ _ (Ne.symm hSX), zd1R _ _ _ (Ne.symm hSX), zd1R _ _ _ e4, zd1R _ _ _ e4, zd1R _ _ _ e4]
          exact hh
        · rw [x3]; exact h.size
        · have hkl := (kd.1 hk).1
          rw[x2 k (fun e=>by rw[e,i1] at hk;cases hk;cases hoc),h.block k hkl];exact hk
        · show _ = _
          rw[x2 _ (Ne.symm hSG),gV,i2]
        · rw [HSN.out]; exact x1
        · rw [x2 _ (Ne.symm hSG)]; exact gV)
      have hWd:Below W'.heap.size W' W'.drew:=(kn _ _).drew
      have c10:W'.cell? ⟨w.heap.size+1,0,none⟩=some (.int .i64 X):=(HS.out _ i3).2.2.2.1
      have c11:W'.cell? ⟨w.heap.size+1,1,none⟩=some (.int .i64 Y):=(HS.out _ i3).2.2.2.2.1
      have cx0:W'.cell? ⟨Bx,0,none⟩=some (.int .i64 xa):=by rw[ki bX];rfl
      have cx1:W'.cell? ⟨Bx,1,none⟩=some (.int .i64 yb):=by rw[ki bX];rfl
      have hmx:Tryz.prog.follows .mixedOrders=true:=by kernel_rfl
      clear hpk cc0 cc1 cc2 hnn hpp hK HNW HNH hNX hNY hxa hyb hn3 hn9
      have hcases:(xa=(X:Int))∨(¬xa=(X:Int)∧yb=(Y:Int))∨(¬xa=(X:Int)∧¬yb=(Y:Int)):=by omega
      obtain ⟨wt,hwt⟩:∃wt,wWt x.1=wt:=⟨_,rfl⟩
      rw[hwt] at HWD HWE2
      rcases hcases with hc1|⟨hc1,hc2⟩|⟨hc1,hc2⟩
      all_goals first
        | (have hbx:(xa == (X:Int))=true:=by simpa using hc1
           have HW2:=hide (HWD.out.1 (.inl hc1))
           clear hc1 HWD
           gi_wp2_with fail
           generalize hwv:Value.int IntKind.i64 2=wv
           have HWV:=hide (show wv=.int .i64 wt by rw[←hwv,HW2.out])
           clear hwv HW2)
        | (have hbx:(xa == (X:Int))=false:=by simpa using hc1
           have hby:(yb == (Y:Int))=true:=by simpa using hc2
           have HW2:=hide (HWD.out.1 (.inr hc2))
           clear hc1 hc2 HWD
           gi_wp2_with fail
           generalize hwv:Value.int IntKind.i64 2=wv
           have HWV:=hide (show wv=.int .i64 wt by rw[←hwv,HW2.out])
           clear hwv HW2)
        | (have hbx:(xa == (X:Int))=false:=by simpa using hc1
           have hby:(yb == (Y:Int))=false:=by simpa using hc2
           have HW2:=hide (HWD.out.2 hc1 hc2)
           clear hc1 hc2 HWD
           gi_wp2_with fail
           generalize hwv:Value.int IntKind.i64 1=wv
           have HWV:=hide (show wv=.int .i64 wt by rw[←hwv,HW2.out])
           clear hwv HW2)
      all_goals
        have hSd:=HS2.out _ hWd
        obtain ⟨q0,q1,q2⟩:=HQ.out _ hWd
        refine jNnL (S:=fun v:World=>v.cell? ⟨w.heap.size,2,none⟩=some (.slice (some ⟨bk,off,none⟩) ps.length ca)∧v.cell? ⟨w.heap.size+3,0,none⟩=some (.int .i64 W)∧v.cell? ⟨w.heap.size+3,1,none⟩=some (.int .i64 H)∧v.cell? ⟨Bx,0,none⟩=some (.int .i64 xa)∧v.cell? ⟨Bx,1,none⟩=some (.int .i64 yb)∧v.cell? ⟨bk,off+K*3,none⟩=some (.int .i64 pr)∧v.cell? ⟨bk,off+K*3+1,none⟩=some (.int .i64 pg)∧v.cell? ⟨bk,off+K*3+2,none⟩=some (.int .i64 pu)) hmx ?nd ?no ?_
        case nd=>exact qU4N (by kernel_rfl)
        case no=>rintro ⟨_,_,h⟩;exact h
        show wpAnyH _ _ _ _ _ 13 _ _ W'.drew
        refine wpAnyH_take (i:=1) (oi:=_) (v:=.pointer (some ⟨w.heap.size,2,none⟩)) rfl (by kernel_rfl) (by kernel_rfl) (by kernel_rfl) (fun _ _ _ h=>h) (Or.inl ⟨by rfl,fun v hSv=>by obtain ⟨t1,t2,t3,t4,t5,t6,t7,t8⟩:=hSv;go_simp⟩) hSd ?_
        simp only[kj]
        refine wpAnyH_take (i:=2) (oi:=_) (v:=.slice (some ⟨bk,off,none⟩) ps.length ca) rfl (by kernel_rfl) (by kernel_rfl) (by kernel_rfl) (fun _ _ _ h=>h) (Or.inl ⟨by rfl,fun v hSv=>by obtain ⟨t1,t2,t3,t4,t5,t6,t7,t8⟩:=hSv;go_simp⟩) hSd ?_
        simp only[kj]
        refine wpAnyH_take (i:=3) (oi:=_) (v:=.agg #[.int .i64 W,.int .i64 H]) rfl (by kernel_rfl) (by kernel_rfl) (by kernel_rfl) (fun _ _ _ h=>h) (Or.inl ⟨by rfl,fun v hSv=>by obtain ⟨t1,t2,t3,t4,t5,t6,t7,t8⟩:=hSv;go_simp⟩) hSd ?_
        simp only[kj]
        refine wpAnyH_take (i:=4) (oi:=_) (v:=.agg #[.int .i64 W,.int .i64 H]) rfl (by kernel_rfl) (by kernel_rfl) (by kernel_rfl) (fun _ _ _ h=>h) (Or.inl ⟨by rfl,fun v hSv=>by obtain ⟨t1,t2,t3,t4,t5,t6,t7,t8⟩:=hSv;go_simp⟩) hSd ?_
        simp only[kj]
        refine wpAnyH_take (i:=5) (oi:=_) (v:=.agg #[.int .i64 xa,.int .i64 yb]) rfl (by kernel_rfl) (by kernel_rfl) (by kernel_rfl) (fun _ _ _ h=>h) (Or.inl ⟨by rfl,fun v hSv=>by obtain ⟨t1,t2,t3,t4,t5,t6,t7,t8⟩:=hSv;go_simp⟩) hSd ?_
        simp only[kj]
        refine wpAnyH_take (i:=10) (oi:=_) (v:=wv) rfl (by kernel_rfl) (by kernel_rfl) (by kernel_rfl) (fun _ _ _ h=>h) (Or.inl ⟨by rfl,fun v hSv=>by obtain ⟨t1,t2,t3,t4,t5,t6,t7,t8⟩:=hSv;go_simp⟩) hSd ?_
        simp only[kj]
        refine wpAnyH_ready (rs:=[0,6]) (by kernel_rfl) (by simp) ?_
        refine kl (o:=_) rfl (fun K' hK=>?wA) (kl (o:=_) rfl (fun K' hK=>?wB) km)
        case wA =>
          rw[if_pos (by rfl)]
          go_simp
          refine hK.out _ _ hSd (fun _=>?_)
          clear hK
          refine wpAnyH_ready (rs:=[6]) (by kernel_rfl) (by simp) ?_
          refine kl (o:=_) rfl (fun K' hK=>?_) km
          rw[if_pos (by rfl)]
          go_simp
          refine (HNE.out _).mono ?_
          rintro e V2 ⟨rfl,hbV2⟩
          have hBV2:Below W'.heap.size W' V2:=hWd.trans (hbV2.mono hWd.size)
          have hSd:=HS2.out _ hBV2
          obtain ⟨q0,q1,q2⟩:=HQ.out _ hBV2
          refine hK.out _ _ hSd (fun _=>?_)
          clear hK
          refine wpAnyH_ready (rs:=[7]) (by kernel_rfl) (by simp) ?_
          refine kl (o:=_) rfl (fun K' hK=>?_) km
          rw[if_pos (by rfl)]
          go_simp
          refine (HIX2.out _).mono ?_
          rintro e V3 ⟨rfl,hbV3⟩
          have hBV3:Below W'.heap.size W' V3:=hBV2.trans (hbV3.mono hBV2.size)
          have hSd:=HS2.out _ hBV3
          obtain ⟨q0,q1,q2⟩:=HQ.out _ hBV3
          refine hK.out _ _ hSd (fun _=>?_)
          clear hK
          refine wpAnyH_take (i:=8) (oi:=_) (v:=.pointer (some ⟨bk,off+K*3,none⟩)) rfl (by kernel_rfl) (by kernel_rfl) (by kernel_rfl) (fun _ _ _ h=>h) (Or.inl ⟨by rfl,fun v hSv=>by obtain ⟨t1,t2,t3,t4,t5,t6,t7,t8⟩:=hSv;go_simp⟩) hSd ?_
          simp only[kj]
          refine wpAnyH_take (i:=9) (oi:=_) (v:=.agg #[.int .i64 pr,.int .i64 pg,.int .i64 pu]) rfl (by kernel_rfl) (by kernel_rfl) (by kernel_rfl) (fun _ _ _ h=>h) (Or.inl ⟨by rfl,fun v hSv=>by obtain ⟨t1,t2,t3,t4,t5,t6,t7,t8⟩:=hSv;go_simp⟩) hSd ?_
          simp only[kj]
          refine wpAnyH_ready (rs:=[11]) (by kernel_rfl) (by simp) ?_
          refine kl (o:=_) rfl (fun K' hK=>?_) km
          rw[if_pos (by rfl)]
          go_simp
          rw[HWV.out]
          refine (HWE2.out _).mono ?_
          rintro e V4 ⟨rfl,hb4⟩
          have hB4':Below W'.heap.size W' V4:=hBV3.trans (hb4.mono hBV3.size)
          have hSd:=HS2.out _ hB4'
          obtain ⟨q0,q1,q2⟩:=HQ.out _ hB4'
          obtain ⟨qf0,qf1,qf2,HT1,HT2⟩:=HTL.out _ hB4'
          refine hK.out _ _ hSd (fun _=>?_)
          clear hK
          refine wpAnyH_ready (rs:=[12]) (by kernel_rfl) (by simp) ?_
          refine kl (o:=_) rfl (fun K' hK=>?_) km
          rw[if_pos (by rfl)]
          go_simp
          refine hK.out _ _ HT1 (fun _=>?_)
          clear hK
          refine wpAnyH_done (by kernel_rfl) ?_ _
          exact HT2
        case wB =>
          rw[if_pos (by rfl)]
          go_simp
          refine (HNE.out _).mono ?_
          rintro e V2 ⟨rfl,hbV2⟩
          have hBV2:Below W'.heap.size W' V2:=hWd.trans (hbV2.mono hWd.size)
          have hSd:=HS2.out _ hBV2
          obtain ⟨q0,q1,q2⟩:=HQ.out _ hBV2
          refine hK.out _ _ hSd (fun _=>?_)
          clear hK
          refine wpAnyH_ready (rs:=[0,7]) (by kernel_rfl) (by simp) ?_
          refine kl (o:=_) rfl (fun K' hK=>?wC) (kl (o:=_) rfl (fun K' hK=>?wD) km)
          case wC =>
            rw[if_pos (by rfl)]
            go_simp
            refine hK.out _ _ hSd (fun _=>?_)
            clear hK
            refine wpAnyH_ready (rs:=[7]) (by kernel_rfl) (by simp) ?_
            refine kl (o:=_) rfl (fun K' hK=>?_) km
            rw[if_pos (by rfl)]
            go_simp
            refine (HIX2.out _).mono ?_
            rintro e V3 ⟨rfl,hbV3⟩
            have hBV3:Below W'.heap.size W' V3:=hBV2.trans (hbV3.mono hBV2.size)
            have hSd:=HS2.out _ hBV3
            obtain ⟨q0,q1,q2⟩:=HQ.out _ hBV3
            refine hK.out _ _ hSd (fun _=>?_)
            clear hK
            refine wpAnyH_take (i:=8) (oi:=_) (v:=.pointer (some ⟨bk,off+K*3,none⟩)) rfl (by kernel_rfl) (by kernel_rfl) (by kernel_rfl) (fun _ _ _ h=>h) (Or.inl ⟨by rfl,fun v hSv=>by obtain ⟨t1,t2,t3,t4,t5,t6,t7,t8⟩:=hSv;go_simp⟩) hSd ?_
            simp only[kj]
            refine wpAnyH_take (i:=9) (oi:=_) (v:=.agg #[.int .i64 pr,.int .i64 pg,.int .i64 pu]) rfl (by kernel_rfl) (by kernel_rfl) (by kernel_rfl) (fun _ _ _ h=>h) (Or.inl ⟨by rfl,fun v hSv=>by obtain ⟨t1,t2,t3,t4,t5,t6,t7,t8⟩:=hSv;go_simp⟩) hSd ?_
            simp only[kj]
            refine wpAnyH_ready (rs:=[11]) (by kernel_rfl) (by simp) ?_
            refine kl (o:=_) rfl (fun K' hK=>?_) km
            rw[if_pos (by rfl)]
            go_simp
            rw[HWV.out]
            refine (HWE2.out _).mono ?_
            rintro e V4 ⟨rfl,hb4⟩
            have hB4':Below W'.heap.size W' V4:=hBV3.trans (hb4.mono hBV3.size)
            have hSd:=HS2.out _ hB4'
            obtain ⟨q0,q1,q2⟩:=HQ.out _ hB4'
            obtain ⟨qf0,qf1,qf2,HT1,HT2⟩:=HTL.out _ hB4'
            refine hK.out _ _ hSd (fun _=>?_)
            clear hK
            refine wpAnyH_ready (rs:=[12]) (by kernel_rfl) (by simp) ?_
            refine kl (o:=_) rfl (fun K' hK=>?_) km
            rw[if_pos (by rfl)]
            go_simp
            refine hK.out _ _ HT1 (fun _=>?_)
            clear hK
            refine wpAnyH_done (by kernel_rfl) ?_ _
            exact HT2
          case wD =>
            rw[if_pos (by rfl)]
            go_simp
            refine (HIX2.out _).mono ?_
            rintro e V3 ⟨rfl,hbV3⟩
            have hBV3:Below W'.heap.size W' V3:=hBV2.trans (hbV3.mono hBV2.size)
            have hSd:=HS2.out _ hBV3
            obtain ⟨q0,q1,q2⟩:=HQ.out _ hBV3
            refine hK.out _ _ hSd (fun _=>?_)
            clear hK
            refine wpAnyH_take (i:=8) (oi:=_) (v:=.pointer (some ⟨bk,off+K*3,none⟩)) rfl (by kernel_rfl) (by kernel_rfl) (by kernel_rfl) (fun _ _ _ h=>h) (Or.inl ⟨by rfl,fun v hSv=>by obtain ⟨t1,t2,t3,t4,t5,t6,t7,t8⟩:=hSv;go_simp⟩) hSd ?_
            simp only[kj]
            refine wpAnyH_take (i:=9) (oi:=_) (v:=.agg #[.int .i64 pr,.int .i64 pg,.int .i64 pu]) rfl (by kernel_rfl) (by kernel_rfl) (by kernel_rfl) (fun _ _ _ h=>h) (Or.inl ⟨by rfl,fun v hSv=>by obtain ⟨t1,t2,t3,t4,t5,t6,t7,t8⟩:=hSv;go_simp⟩) hSd ?_
            simp only[kj]
            refine wpAnyH_ready (rs:=[0]) (by kernel_rfl) (by simp) ?_
            refine kl (o:=_) rfl (fun K' hK=>?_) km
            rw[if_pos (by rfl)]
            go_simp
            refine hK.out _ _ hSd (fun _=>?_)
            clear hK
            refine wpAnyH_ready (rs:=[11]) (by kernel_rfl) (by simp) ?_
            refine kl (o:=_) rfl (fun K' hK=>?_) km
            rw[if_pos (by rfl)]
            go_simp
            rw[HWV.out]
            refine (HWE2.out _).mono ?_
            rintro e V4 ⟨rfl,hb4⟩
            have hB4':Below W'.heap.size W' V4:=hBV3.trans (hb4.mono hBV3.size)
            have hSd:=HS2.out _ hB4'
            obtain ⟨q0,q1,q2⟩:=HQ.out _ hB4'
            obtain ⟨qf0,qf1,qf2,HT1,HT2⟩:=HTL.out _ hB4'
            refine hK.out _ _ hSd (fun _=>?_)
            clear hK
            refine wpAnyH_ready (rs:=[12]) (by kernel_rfl) (by simp) ?_
            refine kl (o:=_) rfl (fun K' hK=>?_) km
            rw[if_pos (by rfl)]
            go_simp
            refine hK.out _ _ HT1 (fun _=>?_)
            clear hK
            refine wpAnyH_done (by kernel_rfl) ?_ _
            exact HT2
    case done =>
      rintro D ys W' hD rfl ⟨i1,i2,i3⟩ hK
      obtain ⟨⟨t0,t1,t2⟩,ht⟩:∃t,wF ps W H X Y (List.finRange 8)=t:=⟨_,rfl⟩
      rw[ht] at i1
      have HT:=hide ht
      clear ht
      obtain ⟨p0,p1,p2⟩:=z5EY i1
      have i4:=(i3.block (w.heap.size+1+1) (by omega)).trans a3
      obtain ⟨r0,r1,r2⟩:=z5EY i4
      have f0:=kh i4 0
      have f1:=kh i4 1
      have f2:=kh i4 2
      have hBw:=hB4.trans (i3.mono hB4.size)
      gi_wp2
      obtain ⟨x1,x2,x3,x4⟩:=X0Wz i4 (.int .i64 t0) (.int .i64 t1) (.int .i64 t2) w (by omega) hBw
      have hDr:D≠w.heap.size+1+1:=fun e=>by rw[e,i4] at hK;cases hK
      replace hK:=(x2 D hDr).trans hK
      generalize ((W'.setCell ⟨w.heap.size+1+1,0,none⟩ (.int .i64 t0)).setCell ⟨w.heap.size+1+1,1,none⟩ (.int .i64 t1)).setCell ⟨w.heap.size+1+1,2,none⟩ (.int .i64 t2)=Z at *
      refine ⟨by simp,.inl ⟨_,_,rfl,run_takeDeferred hK,?_⟩⟩
      have y1:=(World.putObj_heap_other (w:=Z) (o:=.deferred none) (Ne.symm hDr)).trans x1
      have y3:Below w.heap.size w (Z.putObj D (.deferred none)):=x4.trans (belowK_b (w:=w) (kk _) Z D _ _ (by omega) hK rfl rfl)
      obtain ⟨c0,c1,c2⟩:=z5EY y1
      generalize Z.putObj D (.deferred none)=Y' at *
      exact ⟨.agg #[.int .i64 t0,.int .i64 t1,.int .i64 t2],by simp[results,Tryz.results281,go_sem,c0,c1,c2],by rw[HT.out],y3⟩
    case stop=>rintro D c pre W' _ _ h _;exact h.elim
  go_region_held3 (fun w'=>(w'.cell? ⟨w.heap.size,2,none⟩=some (.slice (some ⟨bk,off,none⟩) ps.length ca)∧w'.cell? ⟨w.heap.size+3,0,none⟩=some (.int .i64 W)∧w'.cell? ⟨w.heap.size+3,1,none⟩=some (.int .i64 H)∧w'.cell? ⟨w.heap.size+1,0,none⟩=some (.int .i64 X)∧w'.cell? ⟨w.heap.size+1,1,none⟩=some (.int .i64 Y) ∧
      w'.cell? ⟨bk,off+J*3,none⟩=some (.int .i64 r)∧w'.cell? ⟨bk,off+J*3+1,none⟩=some (.int .i64 g)∧w'.cell? ⟨bk,off+J*3+2,none⟩=some (.int .i64 u)))
    (first|(refine HS.out _ ?_;assumption)|(refine HS.out _ (HSA.out _ _ ?_);assumption)|(refine HS.out _ (HS3.out _ _ _ _ _ ?_ ?_);assumption;omega)|(refine HS.out _ (HS3.out _ _ _ _ _ (HSA.out _ _ ?_) ?_);assumption;omega))
    (first
      | (go_at_call 42;refine (HIX.out _ ?_).mono ?_;(first|assumption|(refine HSA.out _ _ ?_;assumption));rintro e wx ⟨rfl,hN,hNx⟩;have hszU:=hN.size;(first|(have hz:=(hNx.block U.heap.size (by simp)).trans HZU.out;have hszz:=(kd.1 hz).1)|skip))
      | (go_at_call 282;refine (HWE.out _ ?_).mono ?_;(first|assumption|(refine HSA.out _ _ ?_;assumption));rintro e wy ⟨rfl,hN2,hNy⟩;have hszV:=hN2.size;(first|(have hzz:=(hNy.block U.heap.size hszz).trans hz;obtain ⟨z0,z1,z2⟩:=z5EY hzz;have f0:=kh hzz 0;have f1:=kh hzz 1;have f2:=kh hzz 2)|(have hzz:=(hNy.block wx.heap.size (by simp)).trans (al1 wx _);obtain ⟨z0,z1,z2⟩:=z5EY hzz;have f0:=kh hzz 0;have f1:=kh hzz 1;have f2:=kh hzz 2)|skip)))
  all_goals first
    | exact ⟨wy.heap.size,rfl,HSA.out wy _ hN2,al1 wy _,hszV⟩
    | exact ⟨wx.heap.size,rfl,HS3.out wy wx.heap.size _ _ _ hN2 hszU,(X0Wz hzz (.int .i64 s0) (.int .i64 s1) (.int .i64 s2) U hszU hN2).1,hszU⟩
    | exact ⟨U.heap.size,rfl,HS3.out wy U.heap.size _ _ _ hN2 (kk _),(X0Wz hzz (.int .i64 s0) (.int .i64 s1) (.int .i64 s2) U (kk _) hN2).1,kk _⟩
end Go.Proofs.YtfjeonehdlphiaaGreatDoor
namespace Go.Proofs.YtfjeonehdlphiaaGreatDoor
open Go.RowKit
def XZdI (p s amount:Int):Int:=jeC7 (p+(p-s / 16)*amount / 256)
theorem XT2s (p s amount:Int) (hp0:0≤p) (hp1:p≤65535) (hs0:0≤s) (hs1:s≤2097120) (ha0:0≤amount) (ha1:amount≤1024) (Ba:Nat) (V:World) (hc:V.cell? ⟨Ba,0,none⟩=some (.int .i64 amount)) :
  Calls Tryz.prog 279 #[.int .i64 p,.int .i64 s,.pointer (some ⟨Ba,0,none⟩)] V fun e w'=>e=.returned (.int .i64 (XZdI p s amount))∧V=w':=by
 have HE:=hide (show XZdI p s amount=jeC7 (p+(p-s / 16)*amount / 256) from rfl)
 generalize XZdI p s amount=R at *
 obtain ⟨b,hb⟩:∃b,s / 16=b:=⟨_,rfl⟩
 have hb0:0≤b∧b≤131070:=by omega
 rw[hb] at HE
 have hm:=z2et (a:=p-b) (r:=amount) (A:=131070) (R:=1024) (by omega) (by omega) ha0 ha1 (by omega)
 obtain ⟨M,hM⟩:∃M,(p-b)*amount=M:=⟨_,rfl⟩
 rw[hM] at HE hm
 obtain ⟨hm0,hm1⟩:=hm
 obtain ⟨hb0,hb1⟩:=hb0
 obtain ⟨D,hD⟩:∃D,M / 256=D:=⟨_,rfl⟩
 have hd0:-524280≤D∧D≤524280:=by omega
 obtain ⟨hd0,hd1⟩:=hd0
 rw[hD] at HE
 go_enter Tryz.func279,Tryz.ntmps279
 go_wp2_with (go_at_call 257;refine (Xgzp _ _).mono ?_;rintro e w' ⟨rfl,rfl⟩)
 go_ret
 exact ⟨jx9N HE.out.symm,rfl⟩
end Go.Proofs.YtfjeonehdlphiaaGreatDoor
namespace Go.Proofs.YtfjeonehdlphiaaGreatDoor
open Go.RowKit Go.Shelf
def zesK (ps:List Px) (W H:Nat) (amount:Int) (j:Nat):Px :=
 (XZdI (pxAt ps j).1 (wF ps W H (j % W) (j / W) (List.finRange 8)).1 amount,XZdI (pxAt ps j).2.1 (wF ps W H (j % W) (j / W) (List.finRange 8)).2.1 amount,XZdI (pxAt ps j).2.2 (wF ps W H (j % W) (j / W) (List.finRange 8)).2.2 amount)
theorem j6wQ {wy U:World} {B6 B7:Nat} {t:TypeId} {z:Array Value} (hz:∃a b c,z=#[a,b,c]) (h6:wy.heap[B6]?=some (.cells z t (0,0))) (h7:wy.heap[B7]?=some (.cells z t (0,0))) (hne:B6≠B7) (hU:Below U.heap.size U wy) (l6:U.heap.size≤B6) (l7:U.heap.size≤B7) (a b c d e f:Value) :
  Below U.heap.size U ((((((wy.setCell ⟨B6,0,none⟩ a).setCell ⟨B6,1,none⟩ b).setCell ⟨B6,2,none⟩ c).setCell ⟨B7,0,none⟩ d).setCell ⟨B7,1,none⟩ e).setCell ⟨B7,2,none⟩ f) ∧
   ((((((wy.setCell ⟨B6,0,none⟩ a).setCell ⟨B6,1,none⟩ b).setCell ⟨B6,2,none⟩ c).setCell ⟨B7,0,none⟩ d).setCell ⟨B7,1,none⟩ e).setCell ⟨B7,2,none⟩ f).heap[B6]?=some (.cells #[a,b,c] t (0,0)) ∧
   ((((((wy.setCell ⟨B6,0,none⟩ a).setCell ⟨B6,1,none⟩ b).setCell ⟨B6,2,none⟩ c).setCell ⟨B7,0,none⟩ d).setCell ⟨B7,1,none⟩ e).setCell ⟨B7,2,none⟩ f).heap[B7]?=some (.cells #[d,e,f] t (0,0))∧U.heap.size≤B6∧U.heap.size≤B7:=by
 obtain ⟨x,y,u,rfl⟩:=hz
 obtain ⟨p1,p2,p3,p4⟩:=X0Wz h6 a b c U l6 hU
 have h7':=(p2 B7 (Ne.symm hne)).trans h7
 obtain ⟨q1,q2,q3,q4⟩:=X0Wz h7' d e f U l7 p4
 exact ⟨q4,(q2 B6 hne).trans p1,q1,l6,l7⟩
theorem X7yz {wy U:World} {B:Nat} {t:TypeId} {z:Array Value} (hz:∃a b c,z=#[a,b,c]) (h6:wy.heap[B]?=some (.cells z t (0,0))) (hU:Below U.heap.size U wy) (l6:U.heap.size≤B) (a b c:Value) (y:Array Value) :
  Below U.heap.size U ((((wy.setCell ⟨B,0,none⟩ a).setCell ⟨B,1,none⟩ b).setCell ⟨B,2,none⟩ c).alloc (kb y t))∧((((wy.setCell ⟨B,0,none⟩ a).setCell ⟨B,1,none⟩ b).setCell ⟨B,2,none⟩ c).alloc (kb y t)).heap[B]?=some (.cells #[a,b,c] t (0,0)) ∧
   ((((wy.setCell ⟨B,0,none⟩ a).setCell ⟨B,1,none⟩ b).setCell ⟨B,2,none⟩ c).alloc (kb y t)).heap[wy.heap.size]?=some (.cells y t (0,0))∧U.heap.size≤B∧U.heap.size≤wy.heap.size:=by
 obtain ⟨x,y',u,rfl⟩:=hz
 obtain ⟨p1,p2,p3,p4⟩:=X0Wz h6 a b c U l6 hU
 have hl:=(kd.1 h6).1
 refine ⟨p4.alloc p4.size _,(Below.heap_alloc _ _ _ (by omega)).trans p1,?_,l6,hU.size⟩
 have h:=al1 (((wy.setCell ⟨B,0,none⟩ a).setCell ⟨B,1,none⟩ b).setCell ⟨B,2,none⟩ c) (kb y t)
 rw[p3] at h;exact h
theorem XZdM {wy U:World} {t:TypeId} (hU:Below U.heap.size U wy) (x y:Array Value) :
  Below U.heap.size U ((wy.alloc (kb x t)).alloc (kb y t))∧((wy.alloc (kb x t)).alloc (kb y t)).heap[wy.heap.size]?=some (.cells x t (0,0))∧((wy.alloc (kb x t)).alloc (kb y t)).heap[wy.heap.size+1]?=some (.cells y t (0,0))∧U.heap.size≤wy.heap.size∧U.heap.size≤wy.heap.size+1:=by
 obtain ⟨h1,h2⟩:=al2 wy (kb x t) (kb y t)
 have:=hU.size
 exact ⟨(hU.alloc hU.size _).alloc (by simp;omega) _,h1,h2,this,by omega⟩
theorem jkc6 {A B C D E:Prop} (h:A∧B∧C∧D∧E):A∧C∧B∧E∧D:=⟨h.1,h.2.2.1,h.2.1,h.2.2.2.2,h.2.2.2.1⟩
theorem XNss (W H j bk off ca:Nat) (hW1:1≤W) (hW:W≤64) (hH1:1≤H) (hH:H≤64) (amount:Int) (ha0:0≤amount) (ha1:amount≤1024) (ps:List Px) (hlen:ps.length=H*W) (hps:pxsOk ps=true) (hj:j<ps.length) (Bq Bg Bf Ba:Nat) (V:World)
  (hbk:bk<V.heap.size) (hBq:Bq<V.heap.size) (hBg:Bg<V.heap.size) (hBf:Bf<V.heap.size) (hBa:Ba<V.heap.size)
  (kq0:V.cell? ⟨Bq,0,none⟩=some (.int .i64 W)) (kq1:V.cell? ⟨Bq,1,none⟩=some (.int .i64 H)) (kq2:V.cell? ⟨Bq,2,none⟩=some (.slice (some ⟨bk,off,none⟩) ps.length ca)) (kg0:V.cell? ⟨Bg,0,none⟩=some (.int .i64 W)) (kg1:V.cell? ⟨Bg,1,none⟩=some (.int .i64 H))
  (kf:V.cell? ⟨Bf,0,none⟩=some (.func (.func 279) #[] #[.pointer (some ⟨Ba,0,none⟩)])) (ka:V.cell? ⟨Ba,0,none⟩=some (.int .i64 amount))
  (hcell:∀j,j<ps.length→V.cell? ⟨bk,off+j*3,none⟩=some (.int .i64 (pxAt ps j).1)∧V.cell? ⟨bk,off+j*3+1,none⟩=some (.int .i64 (pxAt ps j).2.1)∧V.cell? ⟨bk,off+j*3+2,none⟩=some (.int .i64 (pxAt ps j).2.2)) :
  Calls Tryz.prog 280 #[.agg #[.int .i64 (j % W:Nat),.int .i64 (j / W:Nat)],.pointer (some ⟨Bq,0,none⟩),.pointer (some ⟨Bg,0,none⟩),.pointer (some ⟨Bf,0,none⟩)] V fun e V'=>e=.returned (pixV (zesK ps W H amount j))∧Below V.heap.size V V':=by
 have hl4:ps.length≤4096:=by rw[hlen];exact ko (Nat.mul_le_mul hH hW) (by decide)
 have HSP:=hide (show zesK ps W H amount j=(XZdI (pxAt ps j).1 (wF ps W H (j % W) (j / W) (List.finRange 8)).1 amount,XZdI (pxAt ps j).2.1 (wF ps W H (j % W) (j / W) (List.finRange 8)).2.1 amount,XZdI (pxAt ps j).2.2 (wF ps W H (j % W) (j / W) (List.finRange 8)).2.2 amount) from rfl)
 generalize zesK ps W H amount j=RES at *
 have hXW:j % W<W:=Nat.mod_lt _ (by omega)
 have hYH:j / W<H:=by rw[hlen] at hj;exact Nat.div_lt_of_lt_mul (by rw[ks];exact hj)
 obtain ⟨X,hX⟩:∃X,j % W=X:=⟨_,rfl⟩
 obtain ⟨Y,hY⟩:∃Y,j / W=Y:=⟨_,rfl⟩
 have hk:Y*W+X=j:=by rw[←hX,←hY,ks];exact Nat.div_add_mod j W
 rw[hX] at hXW
 rw[hY] at hYH
 rw[hX,hY] at HSP
 rw[hX,hY]
 clear hX hY
 have HK:=hide hk
 have HLEN:=hide hlen
 have HPS:=hide hps
 have HC:=hide hcell
 clear hk hlen hps hcell
 obtain ⟨⟨r,g,u⟩,hp⟩:∃p,pxAt ps j=p:=⟨_,rfl⟩
 obtain ⟨⟨s0,s1,s2⟩,hs⟩:∃s,wF ps W H X Y (List.finRange 8)=s:=⟨_,rfl⟩
 obtain ⟨⟨r1,r2⟩,⟨g1,g2⟩,u1,u2⟩:=(X1aR _).1 (z1DB HPS.out j)
 obtain ⟨⟨o1,o2⟩,⟨o3,o4⟩,o5,o6⟩:=qf9w (jdoM HPS.out W H X Y (List.finRange 8)) (show 4+2*(((List.finRange 8).length:Nat):Int)≤32 by decide)
 obtain ⟨c0,c1,c2⟩:=HC.out j hj
 rw[hp] at r1 r2 g1 g2 u1 u2 c0 c1 c2 HSP
 rw[hs] at o1 o2 o3 o4 o5 o6 HSP
 have HWF:=hide hs
 clear hp hs
 have HB1:=be2 V (kb #[.int .i64 X,.int .i64 Y] 97) (kb #[.int .i64 0,.int .i64 0,.int .i64 0] 61)
 obtain ⟨n1,n2⟩:=al2 V (kb #[.int .i64 X,.int .i64 Y] 97) (kb #[.int .i64 0,.int .i64 0,.int .i64 0] 61)
 have hsU:((V.alloc (kb #[.int .i64 X,.int .i64 Y] 97)).alloc (kb #[.int .i64 0,.int .i64 0,.int .i64 0] 61)).heap.size=V.heap.size+2:=by simp
 go_enter Tryz.func280,Tryz.ntmps280
 go_wp2_with fail
 generalize (V.alloc (kb #[.int .i64 X,.int .i64 Y] 97)).alloc (kb #[.int .i64 0,.int .i64 0,.int .i64 0] 61)=U at *
 replace hsU:=Nat.le_of_eq hsU.symm
 have HS:=hide (show ∀w',Below U.heap.size U w'→(w'.cell? ⟨Bq,0,none⟩=some (.int .i64 W)∧w'.cell? ⟨Bq,1,none⟩=some (.int .i64 H)∧w'.cell? ⟨Bq,2,none⟩=some (.slice (some ⟨bk,off,none⟩) ps.length ca)∧w'.cell? ⟨Bg,0,none⟩=some (.int .i64 W)∧w'.cell? ⟨Bg,1,none⟩=some (.int .i64 H)∧w'.cell? ⟨V.heap.size,0,none⟩=some (.int .i64 X)∧w'.cell? ⟨V.heap.size,1,none⟩=some (.int .i64 Y) ∧
   w'.cell? ⟨bk,off+j*3,none⟩=some (.int .i64 r)∧w'.cell? ⟨bk,off+j*3+1,none⟩=some (.int .i64 g)∧w'.cell? ⟨bk,off+j*3+2,none⟩=some (.int .i64 u)) from fun w' h=>by
  have hV:=HB1.trans (h.mono HB1.size)
  have hn:=(h.block V.heap.size (by omega)).trans n1
  exact ⟨(hV.cell (p:=⟨Bq,0,none⟩) hBq).trans kq0,(hV.cell (p:=⟨Bq,1,none⟩) hBq).trans kq1,(hV.cell (p:=⟨Bq,2,none⟩) hBq).trans kq2,(hV.cell (p:=⟨Bg,0,none⟩) hBg).trans kg0,(hV.cell (p:=⟨Bg,1,none⟩) hBg).trans kg1,by rw[ki hn];rfl,by rw[ki hn];rfl,(hV.cell (p:=⟨bk,off+j*3,none⟩) hbk).trans c0,(hV.cell (p:=⟨bk,off+j*3+1,none⟩) hbk).trans c1,(hV.cell (p:=⟨bk,off+j*3+2,none⟩) hbk).trans c2⟩)
 have HIX:=hide (show ∀w',Below U.heap.size U w'→Calls Tryz.prog 42 #[.agg #[.int .i64 W,.int .i64 H],.agg #[.int .i64 X,.int .i64 Y]] w' fun e w''=>e=.returned (.int .i64 j)∧Below U.heap.size U w''∧Below w'.heap.size w' w'' from fun w' h =>
  (XSSj W H X Y W j rfl HK.out (by omega) w').mono fun e w'' h2=>⟨h2.1,h.trans (h2.2.mono h.size),h2.2⟩)
 have HWA:=hide (show ∀w',Below U.heap.size U w'→Calls Tryz.prog 281 #[.agg #[.int .i64 W,.int .i64 H,.slice (some ⟨bk,off,none⟩) ps.length ca],.agg #[.int .i64 X,.int .i64 Y]] w' fun e w''=>e=.returned (.agg #[.int .i64 s0,.int .i64 s1,.int .i64 s2])∧Below U.heap.size U w''∧Below w'.heap.size w' w'' from fun w' h=>by
  have hV:=HB1.trans (h.mono HB1.size)
  have h2:=X2XP W H X Y bk off ca hW1 hW hH1 hH hXW hYH ps HLEN.out HPS.out w' (by have:=hV.size;omega) (fun i hi=>by
   obtain ⟨d0,d1,d2⟩:=HC.out i hi
   exact ⟨(hV.cell (p:=⟨bk,off+i*3,none⟩) hbk).trans d0,(hV.cell (p:=⟨bk,off+i*3+1,none⟩) hbk).trans d1,(hV.cell (p:=⟨bk,off+i*3+2,none⟩) hbk).trans d2⟩)
  rw[HWF.out] at h2
  exact h2.mono fun e w'' h2=>⟨h2.1,h.trans (h2.2.mono h.size),h2.2⟩)
 have HSA:=hide (show ∀w' o,Below U.heap.size U w'→Below U.heap.size U (w'.alloc o) from fun w' o h=>h.alloc h.size o)
 have HS3:=hide (show ∀w' b x y z,Below U.heap.size U w'→U.heap.size≤b→Below U.heap.size U (((w'.setCell ⟨b,0,none⟩ x).setCell ⟨b,1,none⟩ y).setCell ⟨b,2,none⟩ z) from fun w' b x y z h hb=>zHqh h hb x y z)
 have hdrew:Below U.heap.size U U.drew:=(kn _ _).drew
 have hrefl:Below U.heap.size U U:=kn _ _
 have HZ1:=hide (show (U.alloc (kb #[.int .i64 0,.int .i64 0,.int .i64 0] 61)).drew.heap[U.heap.size]?=some (.cells #[.int .i64 0,.int .i64 0,.int .i64 0] 61 (0,0)) from al1 U _)
 have HZ2a:=hide (show ((U.alloc (kb #[.int .i64 0,.int .i64 0,.int .i64 0] 61)).alloc (kb #[.int .i64 0,.int .i64 0,.int .i64 0] 61)).drew.heap[U.heap.size]?=some (.cells #[.int .i64 0,.int .i64 0,.int .i64 0] 61 (0,0)) from (al2 U _ _).1)
 have HZ2b:=hide (show ((U.alloc (kb #[.int .i64 0,.int .i64 0,.int .i64 0] 61)).alloc (kb #[.int .i64 0,.int .i64 0,.int .i64 0] 61)).drew.heap[U.heap.size+1]?=some (.cells #[.int .i64 0,.int .i64 0,.int .i64 0] 61 (0,0)) from (al2 U _ _).2)
 have HLT1:=hide (show True→U.heap.size<(U.alloc (kb #[.int .i64 0,.int .i64 0,.int .i64 0] 61)).drew.heap.size from fun _=>by show _<(U.alloc (kb #[.int .i64 0,.int .i64 0,.int .i64 0] 61)).heap.size;simp)
 have HLT:=hide (show True→U.heap.size<((U.alloc (kb #[.int .i64 0,.int .i64 0,.int .i64 0] 61)).alloc (kb #[.int .i64 0,.int .i64 0,.int .i64 0] 61)).drew.heap.size from fun _=>by show _<((U.alloc (kb #[.int .i64 0,.int .i64 0,.int .i64 0] 61)).alloc (kb #[.int .i64 0,.int .i64 0,.int .i64 0] 61)).heap.size;simp;omega)
 have HLT2:=hide (show True→U.heap.size+1<((U.alloc (kb #[.int .i64 0,.int .i64 0,.int .i64 0] 61)).alloc (kb #[.int .i64 0,.int .i64 0,.int .i64 0] 61)).drew.heap.size from fun _=>by show _<((U.alloc (kb #[.int .i64 0,.int .i64 0,.int .i64 0] 61)).alloc (kb #[.int .i64 0,.int .i64 0,.int .i64 0] 61)).heap.size;simp)
 have HLA:=hide (show ∀(w':World) (b:Nat),b<w'.heap.size→b<(w'.alloc (kb #[.int .i64 0,.int .i64 0,.int .i64 0] 61)).heap.size from fun w' b h=>by simp;omega)
 have HAL:=hide (show ∀(w':World) (b:Nat),w'.heap[b]?=some (.cells #[.int .i64 0,.int .i64 0,.int .i64 0] 61 (0,0))→(w'.alloc (kb #[.int .i64 0,.int .i64 0,.int .i64 0] 61)).heap[b]?=some (.cells #[.int .i64 0,.int .i64 0,.int .i64 0] 61 (0,0)) from fun w' b h=>(Below.heap_alloc _ _ _ (kd.1 h).1).trans h)
 have HLC1:=hide (show ∀(w':World),w'.heap.size<(w'.alloc (kb #[.int .i64 0,.int .i64 0,.int .i64 0] 61)).heap.size from fun w'=>by simp)
 have HLC2:=hide (show ∀(w':World),w'.heap.size<((w'.alloc (kb #[.int .i64 0,.int .i64 0,.int .i64 0] 61)).alloc (kb #[.int .i64 0,.int .i64 0,.int .i64 0] 61)).heap.size from fun w'=>by simp;omega)
 have HLC3:=hide (show ∀(w':World),w'.heap.size+1<((w'.alloc (kb #[.int .i64 0,.int .i64 0,.int .i64 0] 61)).alloc (kb #[.int .i64 0,.int .i64 0,.int .i64 0] 61)).heap.size from fun w'=>by simp)
 refine zNvO (fun a' M=>∃B6 B7,a'={ tmps:=#[.agg #[.int .i64 X,.int .i64 Y],.pointer (some ⟨Bq,0,none⟩),.pointer (some ⟨Bg,0,none⟩),.pointer (some ⟨Bf,0,none⟩),.pointer (some ⟨V.heap.size,0,none⟩),.pointer (some ⟨V.heap.size+1,0,none⟩),.pointer (some ⟨B6,0,none⟩),.pointer (some ⟨B7,0,none⟩),.pointer (some ⟨Bq,2,none⟩),.slice (some ⟨bk,off,none⟩) ps.length ca,.agg #[.int .i64 W,.int .i64 H],.agg #[.int .i64 X,.int .i64 Y],.int .i64 j,.pointer (some ⟨bk,off+j*3,none⟩),.agg #[.int .i64 r,.int .i64 g,.int .i64 u],.agg #[.int .i64 W,.int .i64 H,.slice (some ⟨bk,off,none⟩) ps.length ca],.agg #[.int .i64 X,.int .i64 Y],.agg #[.int .i64 s0,.int .i64 s1,.int .i64 s2],undef,undef,undef,undef,undef,undef,undef,undef,undef,undef,undef,undef,undef,undef,undef,undef,undef,undef,undef],defers:=[] }∧Below U.heap.size U M∧M.heap[B6]?=some (.cells #[.int .i64 r,.int .i64 g,.int .i64 u] 61 (0,0))∧M.heap[B7]?=some (.cells #[.int .i64 s0,.int .i64 s1,.int .i64 s2] 61 (0,0))∧U.heap.size≤B6∧U.heap.size≤B7) ?_ ?_
 rotate_left
 ·rintro a' M ⟨B6,B7,rfl,mB,m6,m7,l6,l7⟩
  have hz1:=(mB.block (V.heap.size+1) (by omega)).trans n2
  have hVM:=HB1.trans (mB.mono HB1.size)
  have hsM:=mB.size
  have h6l:=(kd.1 m6).1
  have h7l:=(kd.1 m7).1
  have HSb:=hide (show ∀w',Below M.heap.size M w'→w'.cell? ⟨Bf,0,none⟩=some (.func (.func 279) #[] #[.pointer (some ⟨Ba,0,none⟩)])∧w'.cell? ⟨B6,0,none⟩=some (.int .i64 r)∧w'.cell? ⟨B6,1,none⟩=some (.int .i64 g)∧w'.cell? ⟨B6,2,none⟩=some (.int .i64 u)∧w'.cell? ⟨B7,0,none⟩=some (.int .i64 s0)∧w'.cell? ⟨B7,1,none⟩=some (.int .i64 s1)∧w'.cell? ⟨B7,2,none⟩=some (.int .i64 s2) from fun w' h=>by
   have hV:=hVM.trans (h.mono hVM.size)
   obtain ⟨e0,e1,e2⟩:=z5EY ((h.block B6 h6l).trans m6)
   obtain ⟨e3,e4,e5⟩:=z5EY ((h.block B7 h7l).trans m7)
   exact ⟨(hV.cell (p:=⟨Bf,0,none⟩) hBf).trans kf,e0,e1,e2,e3,e4,e5⟩)
  have HSb3:=hide (show ∀w' x y z,Below M.heap.size M w'→(((w'.setCell ⟨V.heap.size+1,0,none⟩ x).setCell ⟨V.heap.size+1,1,none⟩ y).setCell ⟨V.heap.size+1,2,none⟩ z).cell? ⟨Bf,0,none⟩=some (.func (.func 279) #[] #[.pointer (some ⟨Ba,0,none⟩)])∧(((w'.setCell ⟨V.heap.size+1,0,none⟩ x).setCell ⟨V.heap.size+1,1,none⟩ y).setCell ⟨V.heap.size+1,2,none⟩ z).cell? ⟨B6,0,none⟩=some (.int .i64 r)∧(((w'.setCell ⟨V.heap.size+1,0,none⟩ x).setCell ⟨V.heap.size+1,1,none⟩ y).setCell ⟨V.heap.size+1,2,none⟩ z).cell? ⟨B6,1,none⟩=some (.int .i64 g)∧(((w'.setCell ⟨V.heap.size+1,0,none⟩ x).setCell ⟨V.heap.size+1,1,none⟩ y).setCell ⟨V.heap.size+1,2,none⟩ z).cell? ⟨B6,2,none⟩=some (.int .i64 u)∧(((w'.setCell ⟨V.heap.size+1,0,none⟩ x).setCell ⟨V.heap.size+1,1,none⟩ y).setCell ⟨V.heap.size+1,2,none⟩ z).cell? ⟨B7,0,none⟩=some (.int .i64 s0)∧(((w'.setCell ⟨V.heap.size+1,0,none⟩ x).setCell ⟨V.heap.size+1,1,none⟩ y).setCell ⟨V.heap.size+1,2,none⟩ z).cell? ⟨B7,1,none⟩=some (.int .i64 s1)∧(((w'.setCell ⟨V.heap.size+1,0,none⟩ x).setCell ⟨V.heap.size+1,1,none⟩ y).setCell ⟨V.heap.size+1,2,none⟩ z).cell? ⟨B7,2,none⟩=some (.int .i64 s2) from fun w' x y z h=>by
   have hh:=HSb.out w' h
   have e1:Bf≠V.heap.size+1:=by omega
   have e2:B6≠V.heap.size+1:=by omega
   have e3:B7≠V.heap.size+1:=by omega
   rw[zd1R _ _ _ e1,zd1R _ _ _ e2,zd1R _ _ _ e2,zd1R _ _ _ e2,zd1R _ _ _ e3,zd1R _ _ _ e3,zd1R _ _ _ e3]
   exact hh)
  have HSH:=hide (show ∀w' p q,Below M.heap.size M w'→0≤p→p≤65535→0≤q→q≤2097120→Calls Tryz.prog 279 #[.int .i64 p,.int .i64 q,.pointer (some ⟨Ba,0,none⟩)] w' fun e w''=>e=.returned (.int .i64 (XZdI p q amount))∧Below M.heap.size M w''∧(w''.cell? ⟨V.heap.size+1,0,none⟩=some (.int .i64 0)∧w''.cell? ⟨V.heap.size+1,1,none⟩=some (.int .i64 0)∧w''.cell? ⟨V.heap.size+1,2,none⟩=some (.int .i64 0))∧w''.frozen? ⟨V.heap.size+1,0,none⟩=false∧w''.frozen? ⟨V.heap.size+1,1,none⟩=false∧w''.frozen? ⟨V.heap.size+1,2,none⟩=false from fun w' p q h hp0 hp1 hq0 hq1 =>
   (XT2s p q amount hp0 hp1 hq0 hq1 ha0 ha1 Ba w' (((hVM.trans (h.mono hVM.size)).cell (p:=⟨Ba,0,none⟩) hBa).trans ka)).mono fun e w'' h2=>by
    obtain ⟨rfl,rfl⟩:=h2
    have hn:=(h.block (V.heap.size+1) (by omega)).trans hz1
    exact ⟨rfl,h,z5EY hn,kh hn 0,kh hn 1,kh hn 2⟩)
  have HFIN:=hide (show ∀w' x y z,Below M.heap.size M w'→Below V.heap.size V (((w'.setCell ⟨V.heap.size+1,0,none⟩ x).setCell ⟨V.heap.size+1,1,none⟩ y).setCell ⟨V.heap.size+1,2,none⟩ z) from fun w' x y z h=>zHqh (hVM.trans (h.mono hVM.size)) (by omega) x y z)
  have hdrewM:Below M.heap.size M M.drew:=(kn _ _).drew
  have hreflM:Below M.heap.size M M:=kn _ _
  have o2':s0≤2097120:=by omega
  have o4':s1≤2097120:=by omega
  have o6':s2≤2097120:=by omega
  clear n1 n2 c0 c1 c2 kq0 kq1 kq2 kg0 kg1 kf ka HS HIX HWA HSA HS3 hdrew hrefl m6 m7 hz1 o2 o4 o6
  go_wp2_with fail
  go_region_held3 (fun w'=>w'.cell? ⟨Bf,0,none⟩=some (.func (.func 279) #[] #[.pointer (some ⟨Ba,0,none⟩)])∧w'.cell? ⟨B6,0,none⟩=some (.int .i64 r)∧w'.cell? ⟨B6,1,none⟩=some (.int .i64 g)∧w'.cell? ⟨B6,2,none⟩=some (.int .i64 u)∧w'.cell? ⟨B7,0,none⟩=some (.int .i64 s0)∧w'.cell? ⟨B7,1,none⟩=some (.int .i64 s1)∧w'.cell? ⟨B7,2,none⟩=some (.int .i64 s2))
   (first|(with_reducible refine HSb.out _ ?_;with_reducible assumption)|(with_reducible refine HSb3.out _ _ _ _ ?_;with_reducible assumption))
   (first
    | (go_at_call 279;refine (HSH.out _ _ _ ?_ ?_ ?_ ?_ ?_).mono ?_;assumption;assumption;assumption;assumption;assumption;rintro e wz ⟨rfl,hN3,⟨z0,z1,z2⟩,f0,f1,f2⟩))
  all_goals
   go_wp2
   exact bodyPost_ret (v:=.agg #[.int .i64 (XZdI r s0 amount),.int .i64 (XZdI g s1 amount),.int .i64 (XZdI u s2 amount)]) (by simp[results,Tryz.results280,go_sem,z0,z1,z2]) rfl ⟨by rw[HSP.out],HFIN.out _ _ _ _ (by assumption)⟩
 go_region_held3 (fun w'=>(w'.cell? ⟨Bq,0,none⟩=some (.int .i64 W)∧w'.cell? ⟨Bq,1,none⟩=some (.int .i64 H)∧w'.cell? ⟨Bq,2,none⟩=some (.slice (some ⟨bk,off,none⟩) ps.length ca)∧w'.cell? ⟨Bg,0,none⟩=some (.int .i64 W)∧w'.cell? ⟨Bg,1,none⟩=some (.int .i64 H)∧w'.cell? ⟨V.heap.size,0,none⟩=some (.int .i64 X)∧w'.cell? ⟨V.heap.size,1,none⟩=some (.int .i64 Y) ∧
   w'.cell? ⟨bk,off+j*3,none⟩=some (.int .i64 r)∧w'.cell? ⟨bk,off+j*3+1,none⟩=some (.int .i64 g)∧w'.cell? ⟨bk,off+j*3+2,none⟩=some (.int .i64 u)))
  (first|(refine HS.out _ ?_;repeat (first|with_reducible assumption|(with_reducible refine HSA.out _ _ ?_)|(with_reducible refine HS3.out _ _ _ _ _ ?_ (by omega))|(with_reducible refine XpIb ?_))))
  (first
   | (go_at_call 42;refine (HIX.out _ ?_).mono ?_;(repeat (first|with_reducible assumption|(with_reducible refine HSA.out _ _ ?_)|(with_reducible refine XpIb ?_)));rintro e wx ⟨rfl,hN,hNx⟩;have hszU:=hN.size;(first|(with_reducible have hzA:=(hNx.block U.heap.size (HLT.out trivial)).trans HZ2a.out;with_reducible have hzB:=(hNx.block (U.heap.size+1) (HLT2.out trivial)).trans HZ2b.out;have hszA:U.heap.size<wx.heap.size:=(kd.1 hzA).1;have hszB:U.heap.size+1<wx.heap.size:=(kd.1 hzB).1)|(with_reducible have hzA:=(hNx.block U.heap.size (HLT1.out trivial)).trans HZ1.out;have hszA:U.heap.size<wx.heap.size:=(kd.1 hzA).1)|skip))
   | (go_at_call 281;refine (HWA.out _ ?_).mono ?_;(repeat (first|with_reducible assumption|(with_reducible refine HSA.out _ _ ?_)|(with_reducible refine XpIb ?_)));rintro e wy ⟨rfl,hN2,hNy⟩;have hszV:=hN2.size;(first|(with_reducible have yA:=(hNy.block U.heap.size hszA).trans hzA;have ysA:U.heap.size<wy.heap.size:=(kd.1 yA).1)|(with_reducible have yA:=(hNy.block U.heap.size (HLA.out _ _ hszA)).trans (HAL.out _ _ hzA);have ysA:U.heap.size<wy.heap.size:=(kd.1 yA).1)|skip);(first|(with_reducible have yB:=(hNy.block (U.heap.size+1) hszB).trans hzB;have ysB:U.heap.size+1<wy.heap.size:=(kd.1 yB).1)|skip);(first|(with_reducible have yC:=(hNy.block wx.heap.size (HLC2.out _)).trans (al2 wx _ _).1;with_reducible have yD:=(hNy.block (wx.heap.size+1) (HLC3.out _)).trans (al2 wx _ _).2;have ysC:wx.heap.size<wy.heap.size:=(kd.1 yC).1;have ysD:wx.heap.size+1<wy.heap.size:=(kd.1 yD).1)|(with_reducible have yC:=(hNy.block wx.heap.size (HLC1.out _)).trans (al1 wx _);have ysC:wx.heap.size<wy.heap.size:=(kd.1 yC).1)|skip);(try (obtain ⟨yA0,yA1,yA2⟩:=z5EY yA;have yAf0:=kh yA 0;have yAf1:=kh yA 1;have yAf2:=kh yA 2));(try (obtain ⟨yB0,yB1,yB2⟩:=z5EY yB;have yBf0:=kh yB 0;have yBf1:=kh yB 1;have yBf2:=kh yB 2));(try (obtain ⟨yC0,yC1,yC2⟩:=z5EY yC;have yCf0:=kh yC 0;have yCf1:=kh yC 1;have yCf2:=kh yC 2));(try (obtain ⟨yD0,yD1,yD2⟩:=z5EY yD;have yDf0:=kh yD 0;have yDf1:=kh yD 1;have yDf2:=kh yD 2));(try (have ne1:¬U.heap.size=wx.heap.size:=by omega;have ne2:¬wx.heap.size=U.heap.size:=by omega));(try (have ne3:¬U.heap.size=wy.heap.size:=by omega;have ne4:¬wy.heap.size=U.heap.size:=by omega));(try (have ne5:¬wx.heap.size=wy.heap.size:=by omega;have ne6:¬wy.heap.size=wx.heap.size:=by omega))))
 all_goals show ∃B6 B7,_
 all_goals first
  | with_reducible exact ⟨wy.heap.size,wy.heap.size+1,rfl,XZdM hN2 _ _⟩
  | with_reducible exact ⟨wy.heap.size+1,wy.heap.size,rfl,jkc6 (XZdM hN2 _ _)⟩
  | with_reducible exact ⟨wx.heap.size,wy.heap.size,rfl,X7yz ⟨_,_,_,rfl⟩ yC hN2 hszU _ _ _ _⟩
  | with_reducible exact ⟨wy.heap.size,wx.heap.size,rfl,jkc6 (X7yz ⟨_,_,_,rfl⟩ yC hN2 hszU _ _ _ _)⟩
  | with_reducible exact ⟨U.heap.size,wy.heap.size,rfl,X7yz ⟨_,_,_,rfl⟩ yA hN2 (kk _) _ _ _ _⟩
  | with_reducible exact ⟨wy.heap.size,U.heap.size,rfl,jkc6 (X7yz ⟨_,_,_,rfl⟩ yA hN2 (kk _) _ _ _ _)⟩
  | with_reducible exact ⟨wx.heap.size,wx.heap.size+1,rfl,j6wQ ⟨_,_,_,rfl⟩ yC yD (by omega) hN2 hszU (Nat.le_succ_of_le hszU) _ _ _ _ _ _⟩
  | with_reducible exact ⟨wx.heap.size+1,wx.heap.size,rfl,j6wQ ⟨_,_,_,rfl⟩ yD yC (by omega) hN2 (Nat.le_succ_of_le hszU) hszU _ _ _ _ _ _⟩
  | with_reducible exact ⟨U.heap.size,wx.heap.size,rfl,j6wQ ⟨_,_,_,rfl⟩ yA yC (by omega) hN2 (kk _) hszU _ _ _ _ _ _⟩
  | with_reducible exact ⟨U.heap.size,U.heap.size+1,rfl,j6wQ ⟨_,_,_,rfl⟩ yA yB (by omega) hN2 (kk _) (Nat.le_succ _) _ _ _ _ _ _⟩
  | with_reducible exact ⟨wx.heap.size,U.heap.size,rfl,j6wQ ⟨_,_,_,rfl⟩ yC yA (by omega) hN2 hszU (kk _) _ _ _ _ _ _⟩
  | with_reducible exact ⟨U.heap.size+1,U.heap.size,rfl,j6wQ ⟨_,_,_,rfl⟩ yB yA (by omega) hN2 (Nat.le_succ _) (kk _) _ _ _ _ _ _⟩
end Go.Proofs.YtfjeonehdlphiaaGreatDoor
namespace Go.Proofs.YtfjeonehdlphiaaGreatDoor
def tri (s:Nat→Int):Array Value:=#[.int .i64 (s 0),.int .i64 (s 1),.int .i64 (s 2)]
theorem zPnZ (s:Nat→Int) (k:Nat) (h:k<3):(tri s)[k]?=some (.int .i64 (s k)):=by
 rcases (show k=0∨k=1∨k=2 by omega) with rfl|rfl|rfl<;>rfl
theorem zWS1 (s t:Nat→Int) (k:Nat) (x:Int) (hk:k<3) (hx:x=t k) (ht:∀j,j<3→j≠k→s j=t j):(tri s).setIfInBounds k (.int .i64 x)=tri t:=by
 subst hx
 rcases (show k=0∨k=1∨k=2 by omega) with rfl|rfl|rfl
 ·have h1:=ht 1 (by omega) (by omega)
  have h2:=ht 2 (by omega) (by omega)
  simp[tri,h1,h2]
 ·have h1:=ht 0 (by omega) (by omega)
  have h2:=ht 2 (by omega) (by omega)
  simp[tri,h1,h2]
 ·have h1:=ht 0 (by omega) (by omega)
  have h2:=ht 1 (by omega) (by omega)
  simp[tri,h1,h2]
theorem q3Qb (s t:Nat→Int) (h:∀j,j<3→s j=t j):tri s=tri t:=by
 simp[tri,h 0 (by omega),h 1 (by omega),h 2 (by omega)]
def pxF (p:Px) (k:Nat):Int:=if k=0 then p.1 else if k=1 then p.2.1 else p.2.2
theorem qgpk {p:Px} (h:pxOk p=true) (k:Nat):0≤pxF p k∧pxF p k≤65535:=by
 obtain ⟨h1,h2,h3⟩:=(X1aR p).1 h
 unfold pxF
 split
 ·exact h1
 ·split
  ·exact h2
  ·exact h3
def sumN (g:Nat→Int):Nat→Int
 | 0=>0
 | n+1=>sumN g n+g n
theorem Xrmj {g:Nat→Int} (h:∀n,0≤g n∧g n≤262140) (n:Nat):0≤sumN g n∧sumN g n≤n*262140:=by
 induction n with
 | zero=>simp[sumN]
 | succ n ih =>
  obtain ⟨a,b⟩:=h n
  obtain ⟨c,d⟩:=ih
  refine ⟨?_,?_⟩
  ·simp only[sumN];omega
  ·simp only[sumN];omega
end Go.Proofs.YtfjeonehdlphiaaGreatDoor
namespace Go.Proofs.YtfjeonehdlphiaaGreatDoor
open Go.RowKit
theorem qwt0 (p X Y:Nat):colV p X Y<3:=by unfold colV;split<;>omega
theorem IsPix.cells {w:World} {v:Value} {ps:List Px} (h:IsPix w v ps) (hn:1≤ps.length):∃bk off ca,v=.slice (some ⟨bk,off,none⟩) ps.length ca∧bk<w.heap.size∧∀j,j<ps.length→w.cell? ⟨bk,off+j*3,none⟩=some (.int .i64 (pxAt ps j).1)∧w.cell? ⟨bk,off+j*3+1,none⟩=some (.int .i64 (pxAt ps j).2.1)∧w.cell? ⟨bk,off+j*3+2,none⟩=some (.int .i64 (pxAt ps j).2.2):=by
 obtain ⟨ao,ca,rfl,_,h⟩:=h
 rcases h with h|⟨b,off,rfl,hlt,hc⟩
 ·subst h;simp at hn
 ·exact ⟨b,off,ca,rfl,hlt,fun j hj=>by
   have:=hc j hj
   rw[jD3W ps j hj] at this
   exact this⟩
end Go.Proofs.YtfjeonehdlphiaaGreatDoor
namespace Go.Proofs.YtfjeonehdlphiaaGreatDoor
theorem jblL {N:Nat} {zs:List Int} {B:Int} (h:∀j,0≤zAt zs j∧zAt zs j≤B) (W H:Nat) (px py:Fin N→Int) (cnt:Fin N→Bool) (pre:List (Fin N)) (s:Int×Nat) (h1:0≤s.1) (h2:s.1≤s.2*B) :
  0≤(pre.foldl (mStep zs W H px py cnt) s).1∧(pre.foldl (mStep zs W H px py cnt) s).1≤(pre.foldl (mStep zs W H px py cnt) s).2*B:=by
 induction pre generalizing s with
 | nil=>exact ⟨h1,h2⟩
 | cons x pre ih =>
  simp only[List.foldl_cons]
  have hz:=h ((py x).toNat*W+(px x).toNat)
  refine ih (mStep zs W H px py cnt s x) ?_ ?_
  ·unfold mStep
   split
   ·show 0≤s.1+zAt zs ((py x).toNat*W+(px x).toNat);omega
   ·exact h1
  ·unfold mStep
   split
   ·show s.1+zAt zs ((py x).toNat*W+(px x).toNat)≤((s.2+1:Nat):Int)*B
    have e:((s.2+1:Nat):Int)*B=s.2*B+B:=by rw[Int.natCast_add,Int.add_mul];simp
    omega
   ·exact h2
theorem jn73 {N:Nat} {zs:List Int} {B:Int} (h:∀j,0≤zAt zs j∧zAt zs j≤B) (W H:Nat) (px py:Fin N→Int) (cnt:Fin N→Bool):0≤meanV zs W H px py cnt∧meanV zs W H px py cnt≤B:=by
 have hB:0≤B:=by have:=h 0;omega
 obtain ⟨h1,h2⟩:=jblL h W H px py cnt (List.finRange N) (0,0) (Int.le_refl _) (by simp)
 unfold meanV mF
 generalize (List.finRange N).foldl (mStep zs W H px py cnt) (0,0)=s at *
 split
 ·exact ⟨Int.le_refl _,hB⟩
 ·rename_i hn
  refine ⟨Int.ediv_nonneg h1 (by omega),Int.ediv_le_of_le_mul (by omega) ?_⟩
  rw[Int.mul_comm];exact h2
theorem jwje {zs:List Int} {B:Int} (h:∀j,0≤zAt zs j∧zAt zs j≤B) (W H p X Y c:Nat):0≤partV zs W H p X Y c∧partV zs W H p X Y c≤B:=by
 unfold partV
 split
 ·exact h _
 ·exact jn73 h W H _ _ _
theorem ji4F (W H:Int) (zs:List Int) (phase:Int):(fillL W H zs phase).length=zs.length:=by simp[fillL]
theorem jSvB {W H:Int} {zs:List Int} (phase:Int) (h:q0fM W H zs=true):picOk W H (fillL W H zs phase)=true:=by
 obtain ⟨h1,h2,h3,_⟩:=qwcI h
 have hz:=XWrv (XAOl h)
 rw[jZMK,Bool.and_eq_true] at h
 rw[picOk,ji4F,h.1,Bool.true_and]
 refine List.all_eq_true.2 fun q hq=>?_
 obtain ⟨j,_,rfl⟩:=List.mem_map.1 hq
 exact (X1aR _).2 ⟨jwje hz _ _ _ _ _ 0,jwje hz _ _ _ _ _ 1,jwje hz _ _ _ _ _ 2⟩
end Go.Proofs.YtfjeonehdlphiaaGreatDoor
namespace Go.Proofs.YtfjeonehdlphiaaGreatDoor
open Go.RowKit
def LvJ (w:World) (W H:Nat) (qv:Value) (m:Nat→Int) (L:List Int) (k:Nat) (wr:World):Prop :=
 ∃so scap,wr.heap[w.heap.size+3]?=some (.cells #[.int .i64 W,.int .i64 H,.slice so k scap] 54 (0,0))∧wr.ownsRow w.heap.size 3 1 (.slice so k scap) k ((L.take k).map (Value.int .i64))∧wr.heap[w.heap.size]?=some (.cells #[.int .i64 W,.int .i64 H,qv] 54 (0,0))∧wr.heap[w.heap.size+2]?=some (.cells #[.int .i64 0,.int .i64 0,.slice none 0 0] 54 (0,0))∧wr.heap[w.heap.size+1]?=some (.cells (fourA m) 45 (0,0))∧Below w.heap.size w wr
theorem XqgP (W H:Nat) (hW1:1≤W) (hW:W≤64) (hH:H≤64) (v:Value) (zs:List Int) (m:Nat→Int) (white:Int) (hw0:white≤65535) (hm:∀k,k<4→0≤m k∧m k≤white-1) (hlen:zs.length=H*W) (hzs:allIn 0 65535 zs=true) (w:World) (hv:jCvT w v zs) :
  Calls Tryz.prog 85 #[.agg #[.int .i64 W,.int .i64 H,v],.agg (fourA m),.int .i64 white] w fun e w'=>∃r,e=.returned (.agg #[.int .i64 W,.int .i64 H,r])∧jCvT w' r ((List.range zs.length).map (zBza zs W m white))∧Below w.heap.size w w'∧Fresh w.heap.size r:=by
 have HZS:=hide hzs
 have HV:=hide hv
 have HLEN:=hide hlen
 have HMM:=hide hm
 have hlb:zs.length≤4096:=by rw[hlen];exact ko (Nat.mul_le_mul hH hW) (by decide)
 have hLL:((List.range zs.length).map (zBza zs W m white)).length=zs.length:=by simp
 have HLG:=hide (show ∀j,j<zs.length→((List.range zs.length).map (zBza zs W m white))[j]?=some (zBza zs W m white j) from fun j hj=>by simp[hj])
 obtain ⟨L,hL⟩:∃L,(List.range zs.length).map (zBza zs W m white)=L:=⟨_,rfl⟩
 rw[hL] at hLL HLG ⊢
 have HLL:=hide hLL
 clear hL hLL hzs hlen hm
 obtain ⟨ao,ca,rfl,hla,hc⟩:=hv
 clear hc
 obtain ⟨i0,hi,hz0,hz1,hz2⟩:=info_parts Tryz.infoInt
 go_enter Tryz.func85,Tryz.ntmps85
 go_wp2_with fail
 obtain ⟨a1,a2,a3,a4⟩:=al4 w (kb #[.int .i64 W,.int .i64 H,.slice ao zs.length ca] 54) (kb (fourA m) 45) (kb #[.int .i64 0,.int .i64 0,.slice none 0 0] 54) (kb #[.int .i64 W,.int .i64 H,.slice none 0 0] 54)
 have hB:=be4 w (kb #[.int .i64 W,.int .i64 H,.slice ao zs.length ca] 54) (kb (fourA m) 45) (kb #[.int .i64 0,.int .i64 0,.slice none 0 0] 54) (kb #[.int .i64 W,.int .i64 H,.slice none 0 0] 54)
 generalize (((w.alloc (kb #[.int .i64 W,.int .i64 H,.slice ao zs.length ca] 54)).alloc (kb (fourA m) 45)).alloc (kb #[.int .i64 0,.int .i64 0,.slice none 0 0] 54)).alloc (kb #[.int .i64 W,.int .i64 H,.slice none 0 0] 54)=U at *
 go_loopw [8] (fun i wr=>∃Y:Nat,Y≤H∧i=.int .i64 Y∧LvJ w W H (.slice ao zs.length ca) m L (Y*W) wr) (fun i _=>H-(intOf i).toNat)
 case atStart=>exact ⟨0,kp _,rfl,none,0,by rw[Nat.zero_mul];exact a4,by rw[Nat.zero_mul];exact World.ownsRow_nil _ _ _ _,a1,a3,a2,hB⟩
 case round =>
  clear a1 a2 a3 a4 hB
  obtain ⟨Y,hY,rfl,hJ⟩:=hrel
  have HJ:=hide hJ
  obtain ⟨so,scap,j1,j2,j3,j4,j6,j5⟩:=hJ
  obtain ⟨q0,q1,q2⟩:=z5EY j3
  by_cases hlt:Y<H
  ·have hd:decide ((Y:Int)<(H:Int))=true:=by simp;omega
   obtain ⟨M,hM⟩:∃M,M=Y*W:=⟨_,rfl⟩
   rw[←hM] at HJ j1 j2
   have hMM:M+W≤zs.length:=by rw[HLEN.out,hM,←kr];exact kq _ hlt
   have HM:=hide hM
   clear hM
   go_wp2_with fail
   go_loopw [9] (fun i wr=>∃X:Nat,X≤W∧i=.int .i64 X∧LvJ w W H (.slice ao zs.length ca) m L (M+X) wr) (fun i _=>W-(intOf i).toNat)
   case atStart=>exact ⟨0,kp _,rfl,HJ.out⟩
   case round =>
    clear j1 j2 j3 j4 j5 j6 q0 q1 q2 HJ hd
    obtain ⟨X,hX,rfl,hJ⟩:=hrel
    obtain ⟨so,scap,j1,j2,j3,j4,j6,j5⟩:=hJ
    obtain ⟨q0,q1,q2⟩:=z5EY j3
    by_cases hlx:X<W
    ·have hdx:decide ((X:Int)<(W:Int))=true:=by simp;omega
     obtain ⟨k,hkk⟩:∃k,M+X=k:=⟨_,rfl⟩
     rw[hkk] at j1 j2
     have hk:k<zs.length:=by omega
     have HK:=hide hkk
     have hkY:Y*W+X=k:=by rw[←HM.out];exact hkk
     obtain ⟨hpm,hpd⟩:(Y*W+X) % W=X∧(Y*W+X) / W=Y:=X4G3 hlx
     rw[hkY] at hpm hpd
     have HT:=hide (show zBza zs W m white k=jeC7 ((zAt zs k-m (k / W % 2*2+k % W % 2))*65535 / (white-m (k / W % 2*2+k % W % 2))) from rfl)
     rw[hpm,hpd] at HT
     obtain ⟨a,ha⟩:∃a,Y % 2=a:=⟨_,rfl⟩
     obtain ⟨b,hb⟩:∃b,X % 2=b:=⟨_,rfl⟩
     have hya:(Y:Int) % 2=(a:Int):=by rw[←ha];rfl
     have hxb:(X:Int) % 2=(b:Int):=by rw[←hb];rfl
     obtain ⟨A2,hA2⟩:∃A2,a*2=A2:=⟨_,rfl⟩
     have hi1:(a:Int)*2=(A2:Int):=by omega
     obtain ⟨ix,hix⟩:∃ix,A2+b=ix:=⟨_,rfl⟩
     have hi2:(A2:Int)+(b:Int)=(ix:Int):=by omega
     have hix4:ix<4:=by omega
     have hixI:(ix:Int)<4:=by omega
     rw[ha,hb,hA2,hix] at HT
     obtain ⟨hm0,hm1⟩:=HMM.out ix hix4
     have kb0:wr.cell? ⟨w.heap.size+1,ix,none⟩=some (.int .i64 (m ix)):=by rw[ki j6,zh9q m ix hix4]
     obtain ⟨bl,hbl⟩:∃bl,m ix=bl:=⟨_,rfl⟩
     rw[hbl] at HT hm0 hm1 kb0
     have hzr:=XWrv HZS.out k
     have HAT:=hide (fun (u:World) (hu:Below wr.heap.size wr u)=>jMil W H (.slice ao zs.length ca) zs X Y X Y W k u (HV.out.below (j5.trans (hu.mono j5.size)) (kk _)) rfl rfl rfl hkY hk hlb)
     rw[show zs.getD k 0=zAt zs k from rfl] at HAT
     obtain ⟨z,hz⟩:∃z,zAt zs k=z:=⟨_,rfl⟩
     rw[hz] at HT hzr HAT
     obtain ⟨hzr1,hzr2⟩:=hzr
     obtain ⟨d,hdd⟩:∃d,white-bl=d:=⟨_,rfl⟩
     rw[hdd] at HT
     obtain ⟨n,hn⟩:∃n,(z-bl)*65535=n:=⟨_,rfl⟩
     rw[hn] at HT
     have HDN:=hide (fun u=>jPXH n d (by omega) (by omega) (by omega) (by omega) u)
     have hwd:IntKind.i64.wrap d=d:=IntWalk.i64_in _ (by omega)
     have hwe:IntKind.i64.wrap (z-bl)=z-bl:=IntWalk.i64_in _ (by omega)
     have hwn:IntKind.i64.wrap n=n:=IntWalk.i64_in _ (by omega)
     obtain ⟨y,hy⟩:∃y,jeC7 (n / d)=y:=⟨_,rfl⟩
     rw[hy] at HT
     have HCL:=hide (fun u=>XO78 (n / d) u)
     rw[hy] at HCL
     have HST:=hide (show (L.take (k+1)).map (Value.int .i64)=(L.take k).map (Value.int .i64)++[.int .i64 y] by
      have hk2:k<L.length:=by rw[HLL.out];exact hk
      have hg:=HLG.out k hk
      rw[List.getElem?_eq_getElem hk2] at hg
      rw[List.take_succ_eq_append_getElem hk2,Option.some.inj hg,List.map_append,HT.out];rfl)
     obtain ⟨XS,hXS⟩:∃XS,(L.take k).map (Value.int .i64)=XS:=⟨_,rfl⟩
     rw[hXS] at j2 HST
     have hbW:=j5.size
     have HL1:=hide (show k+1≤maxLen by unfold maxLen;omega)
     have HL2:=hide (show (k+1)*8≤140737488355328 by omega)
     clear ha hb hA2 hix hbl hz hy hXS hpm hpd hkY hkk
     have HS:=hide (show ∀v,Below wr.heap.size wr v→v.cell? ⟨w.heap.size+1+1+1,2,none⟩=some (.slice so k scap)∧v.cell? ⟨w.heap.size,0,none⟩=some (.int .i64 W)∧v.cell? ⟨w.heap.size,1,none⟩=some (.int .i64 H)∧v.cell? ⟨w.heap.size,2,none⟩=some (.slice ao zs.length ca) from fun v h=>by
      obtain ⟨_,_,t2⟩:=z5EY ((h.block (w.heap.size+3) (kd.1 j1).1).trans j1)
      exact ⟨t2,z5EY ((h.block _ (kd.1 j3).1).trans j3)⟩)
     have nq:=qYYy j2 j3 (by decide)
     have HTL:=hide (show ∀(V1:World) (gg cap:Nat) (w3:World),Below wr.heap.size wr V1→V1.grownBy w3 (Value.slice so k scap).ownBlock→w3.ownsRow w.heap.size 3 1 (.slice (some ⟨gg,0,none⟩) (k+1) cap) (k+1) (XS++[.int .i64 y])→(w3.cell? ⟨w.heap.size+1+1+1,2,none⟩=some (.slice so k scap)∧w3.cell? ⟨w.heap.size,0,none⟩=some (.int .i64 W)∧w3.cell? ⟨w.heap.size,1,none⟩=some (.int .i64 H)∧w3.cell? ⟨w.heap.size,2,none⟩=some (.slice ao zs.length ca))∧w3.frozen? ⟨w.heap.size+1+1+1,2,none⟩=false∧LvJ w W H (.slice ao zs.length ca) m L (k+1) (w3.setCell ⟨w.heap.size+1+1+1,2,none⟩ (.slice (some ⟨gg,0,none⟩) (k+1) cap)) from fun V1 gg cap w3 h1 h2 h3=>by
      obtain ⟨t1,t2,t3,t4,t5,t6,t7⟩:=j7Ww (by decide) j1 j2 j5 (kk _) (by omega) h1 h2 h3
      exact ⟨⟨t2,z5EY ((t1 _ (kd.1 j3).1 nq).trans j3)⟩,t3,some ⟨gg,0,none⟩,cap,t4,by rw[HST.out];exact t5,(t7 _ (kd.1 j3).1 nq (by omega)).trans j3,(t7 _ (kd.1 j4).1 (qYYy j2 j4 (by decide)) (by omega)).trans j4,(t7 _ (kd.1 j6).1 (qYYy j2 j6 (by decide)) (by omega)).trans j6,t6⟩)
     have hWd:Below wr.heap.size wr wr.drew:=(kn _ _).drew
     go_wp2_with fail
     have hSd:=HS.out _ hWd
     clear q0 q1 q2 hdx j1 j3 j4 j6 kb0
     have hmx:Tryz.prog.follows .mixedOrders=true:=by kernel_rfl
     refine qYgd (S:=fun v:World=>v.cell? ⟨w.heap.size+1+1+1,2,none⟩=some (.slice so k scap)∧v.cell? ⟨w.heap.size,0,none⟩=some (.int .i64 W)∧v.cell? ⟨w.heap.size,1,none⟩=some (.int .i64 H)∧v.cell? ⟨w.heap.size,2,none⟩=some (.slice ao zs.length ca)) (f:=17) hmx ?_
     show jZdv _ _ _ _ _ _ 18 _ _ wr.drew
     refine zB2j (i:=0) (oi:=_) (v:=?vv1) (some 36) rfl rfl (by kernel_rfl) (by kernel_rfl) (by kernel_rfl) (by kernel_rfl) (by kernel_rfl) (fun _ _ _ h=>h) (Or.inl ⟨by rfl,?yy1⟩) hSd ?rr1
     case yy1=>(intro wq hSq;obtain ⟨_,_,_,_⟩:=hSq;go_simp<;>with_reducible rfl)
     simp only[kj,kc,kg,ke]
     refine zB2j (i:=2) (oi:=_) (v:=?vv2) (some 38) rfl rfl (by kernel_rfl) (by kernel_rfl) (by kernel_rfl) (by kernel_rfl) (by kernel_rfl) (fun _ _ _ h=>h) (Or.inl ⟨by rfl,?yy2⟩) hSd ?rr2
     case yy2=>(intro wq hSq;obtain ⟨_,_,_,_⟩:=hSq;go_simp<;>with_reducible rfl)
     simp only[kj,kc,kg,ke]
     refine zB2j (i:=3) (oi:=_) (v:=?vv3) (some 39) rfl rfl (by kernel_rfl) (by kernel_rfl) (by kernel_rfl) (by kernel_rfl) (by kernel_rfl) (fun _ _ _ h=>h) (Or.inl ⟨by rfl,?yy3⟩) hSd ?rr3
     case yy3=>(intro wq hSq;obtain ⟨_,_,_,_⟩:=hSq;go_simp<;>with_reducible rfl)
     simp only[kj,kc,kg,ke]
     refine zB2j (i:=4) (oi:=_) (v:=?vv4) (some 40) rfl rfl (by kernel_rfl) (by kernel_rfl) (by kernel_rfl) (by kernel_rfl) (by kernel_rfl) (fun _ _ _ h=>h) (Or.inl ⟨by rfl,?yy4⟩) hSd ?rr4
     case yy4=>(intro wq hSq;obtain ⟨_,_,_,_⟩:=hSq;go_simp<;>with_reducible rfl)
     simp only[kj,kc,kg,ke]
     refine zB2j (i:=6) (oi:=_) (v:=?vv5) (some 42) rfl rfl (by kernel_rfl) (by kernel_rfl) (by kernel_rfl) (by kernel_rfl) (by kernel_rfl) (fun _ _ _ h=>h) (Or.inl ⟨by rfl,?yy5⟩) hSd ?rr5
     case yy5=>(intro wq hSq;obtain ⟨_,_,_,_⟩:=hSq;go_simp<;>with_reducible rfl)
     simp only[kj,kc,kg,ke]
     refine zB2j (i:=9) (oi:=_) (v:=?vv6) (some 45) rfl rfl (by kernel_rfl) (by kernel_rfl) (by kernel_rfl) (by kernel_rfl) (by kernel_rfl) (fun _ _ _ h=>h) (Or.inl ⟨by rfl,?yy6⟩) hSd ?rr6
     case yy6=>(intro wq hSq;obtain ⟨_,_,_,_⟩:=hSq;go_simp<;>with_reducible rfl)
     simp only[kj,kc,kg,ke]
     refine zB2j (i:=10) (oi:=_) (v:=?vv7) (some 46) rfl rfl (by kernel_rfl) (by kernel_rfl) (by kernel_rfl) (by kernel_rfl) (by kernel_rfl) (fun _ _ _ h=>h) (Or.inl ⟨by rfl,?yy7⟩) hSd ?rr7
     case yy7=>(intro wq hSq;obtain ⟨_,_,_,_⟩:=hSq;go_simp<;>with_reducible rfl)
     simp only[kj,kc,kg,ke]
     refine zB2j (i:=1) (oi:=_) (v:=?vv8) (some 37) rfl rfl (by kernel_rfl) (by kernel_rfl) (by kernel_rfl) (by kernel_rfl) (by kernel_rfl) (fun _ _ _ h=>h) (Or.inl ⟨by rfl,?yy8⟩) hSd ?rr8
     case yy8=>(intro wq hSq;obtain ⟨_,_,_,_⟩:=hSq;go_simp<;>with_reducible rfl)
     simp only[kj,kc,kg,ke]
     refine zB2j (i:=11) (oi:=_) (v:=?vv9) (some 47) rfl rfl (by kernel_rfl) (by kernel_rfl) (by kernel_rfl) (by kernel_rfl) (by kernel_rfl) (fun _ _ _ h=>h) (Or.inl ⟨by rfl,?yy9⟩) hSd ?rr9
     case yy9=>(intro wq hSq;obtain ⟨_,_,_,_⟩:=hSq;go_simp<;>with_reducible rfl)
     simp only[kj,kc,kg,ke]
     refine znWj (i:=5) (o:=_) (by kernel_rfl) rfl (fun K' hK=>?_)
     rw[if_pos (by rfl)]
     go_simp
     refine (HAT.out _ hWd).mono ?_
     rintro e V0 ⟨rfl,hb0⟩
     have hB0:Below wr.heap.size wr V0:=hWd.trans (hb0.mono hWd.size)
     have hSd:=HS.out _ hB0
     refine hK.out _ _ hSd ?_
     clear hK
     try simp only[kj]
     refine zB2j (i:=7) (oi:=_) (v:=?vv10) (some 43) rfl rfl (by kernel_rfl) (by kernel_rfl) (by kernel_rfl) (by kernel_rfl) (by kernel_rfl) (fun _ _ _ h=>h) (Or.inl ⟨by rfl,?yy10⟩) hSd ?rr10
     case yy10=>(intro wq hSq;obtain ⟨_,_,_,_⟩:=hSq;go_simp<;>with_reducible rfl)
     simp only[kj,kc,kg,ke]
     refine zB2j (i:=8) (oi:=_) (v:=?vv11) (some 44) rfl rfl (by kernel_rfl) (by kernel_rfl) (by kernel_rfl) (by kernel_rfl) (by kernel_rfl) (fun _ _ _ h=>h) (Or.inl ⟨by rfl,?yy11⟩) hSd ?rr11
     case yy11=>(intro wq hSq;obtain ⟨_,_,_,_⟩:=hSq;go_simp<;>with_reducible rfl)
     simp only[kj,kc,kg,ke]
     refine znWj (i:=12) (o:=_) (by kernel_rfl) rfl (fun K' hK=>?_)
     rw[if_pos (by rfl)]
     go_simp
     refine (HDN.out _).mono ?_
     rintro e Vx ⟨rfl,rfl⟩
     have hSd:=hSd
     refine hK.out _ _ hSd ?_
     clear hK
     try simp only[kj]
     refine znWj (i:=13) (o:=_) (by kernel_rfl) rfl (fun K' hK=>?_)
     rw[if_pos (by rfl)]
     go_simp
     refine (HCL.out _).mono ?_
     rintro e Vy ⟨rfl,rfl⟩
     have hSd:=hSd
     refine hK.out _ _ hSd ?_
     clear hK
     try simp only[kj]
     refine znWj (i:=14) (o:=_) (by kernel_rfl) rfl (fun K' hK=>?_)
     rw[if_pos (by rfl)]
     go_simp
     have hBs:Below wr.heap.size wr (V0.alloc (kb #[.int .i64 y] 3)):=hB0.alloc hB0.size _
     have hSd:=HS.out _ hBs
     refine hK.out _ _ hSd ?_
     clear hK
     try simp only[kj]
     refine znWj (i:=15) (o:=_) (by kernel_rfl) rfl (fun K' hK=>?_)
     refine step_append_lies _ rfl _ _ 52 rfl w.heap.size 3 i0 (.int .i64 0) 1 8 Tryz.underlying52 hi hz0 hz1 hz2 rfl (by decide) (.slice so k scap) k XS rfl ((qw14 j2 hB0).alloc _) ⟨V0.heap.size,0,none⟩ 1 1 [.int .i64 y] rfl rfl (World.news_of_block (al1 V0 _)) (fun u hu=>by simp at hu;subst hu;rfl) Nat.one_pos HL1.out HL2.out (ko hbW hBs.size) _ rfl ?_
     intro gg cap w3 hown hgrow hat hltg
     obtain ⟨hSx,p2f,HFIN⟩:=HTL.out _ gg cap w3 hBs hgrow hown
     have hSd:=hSx
     refine hK.out _ _ hSd ?_
     clear hK
     try simp only[kj]
     refine j7aj (i:=16) (oi:=_) (v:=?vv12) rfl (by kernel_rfl) (by kernel_rfl) (by kernel_rfl) (by kernel_rfl) (by kernel_rfl) (fun _ _ _ h=>h) (Or.inl ⟨by rfl,?yy12⟩) hSd ?rr12
     case yy12=>(intro wq hSq;obtain ⟨_,_,_,_⟩:=hSq;go_simp<;>with_reducible rfl)
     try simp only[kj]
     refine z9gO (o:=_) (by kernel_rfl) rfl (fun K' hK=>?_)
     rw[if_pos (by rfl)]
     go_simp
     refine hK.out _ _ ?_
     clear hK
     refine jFdp (by kernel_rfl) ?_ _
     try simp only[kj]
     go_wp2
     go_roundw
     case rel=>exact ⟨X+1,by omega,by go_num,by rw[show M+(X+1)=k+1 by have:=HK.out;omega];exact HFIN⟩
     case measure=>simp[intOf];omega
    ·have hdx:decide ((X:Int)<(W:Int))=false:=by simp;omega
     have h3:X=W:=by omega
     subst h3
     have HJ1:=hide (show LvJ w X H (.slice ao zs.length ca) m L ((Y+1)*X) wr from ⟨so,scap,by rw[kr,←HM.out];exact j1,by rw[kr,←HM.out];exact j2,j3,j4,j6,j5⟩)
     go_wp2
     go_roundw
     case rel=>exact ⟨Y+1,by omega,by go_num,HJ1.out⟩
     case measure=>simp[intOf];omega
  ·have hd:decide ((Y:Int)<(H:Int))=false:=by simp;omega
   obtain rfl:Y=H:=by omega
   rw[←HLEN.out] at j1 j2
   rw[List.take_of_length_le (by rw[HLL.out];exact kk _)] at j2
   obtain ⟨p0,p1,p2⟩:=z5EY (b:=w.heap.size+1+1+1) j1
   obtain ⟨z0,z1,z2⟩:=z5EY (b:=w.heap.size+1+1) j4
   have f0:=kh (b:=w.heap.size+1+1) j4 0
   have f1:=kh (b:=w.heap.size+1+1) j4 1
   have f2:=kh (b:=w.heap.size+1+1) j4 2
   have HFI:=hide (zHqh j5 (show w.heap.size≤w.heap.size+1+1 by omega) (.int .i64 (W:Nat)) (.int .i64 (Y:Nat)) (.slice so zs.length scap))
   have hpx:jCvT wr (.slice so zs.length scap) L:=jCvT.own (base:=w.heap.size) (xs:=L) (v:=.slice so zs.length scap) (by rw[HLL.out];exact j2) (by rw[HLL.out];omega)
   have hne:(Value.slice so zs.length scap).ownBlock≠some (w.heap.size+1+1):=fun e=>qYYy j2 j4 (by decide) e.symm
   have HX:=hide (hpx.other (zv5i wr (w.heap.size+1+1) (.int .i64 (W:Nat)) (.int .i64 (Y:Nat)) (.slice so zs.length scap)) (fun b hb=>jZhz _ _ _ _ _ b hb) hne)
   have HF:=hide (Fresh.own j2)
   clear hpx hne
   go_wp2
   exact bodyPost_ret (v:=.agg #[.int .i64 (W:Nat),.int .i64 (Y:Nat),.slice so zs.length scap]) (by simp[results,Tryz.results85,go_sem,z0,z1,z2]) rfl ⟨_,rfl,HX.out,HFI.out,HF.out⟩
end Go.Proofs.YtfjeonehdlphiaaGreatDoor
