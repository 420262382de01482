/- Re: part 21 of what the proofs need. -/
import Derived.Test.YtfjeonehdlphiaaGreatDoorC2Re
import Derived.Test.YtfjeonehdlphiaaGreatDoorC6Re
import Derived.Test.YtfjeonehdlphiaaGreatDoorC19Re
import Derived.Test.YtfjeonehdlphiaaGreatDoorC20Re
open Go.Obj renaming cells → ka
open List renaming setIfInBounds_toArray → kc, set_cons_zero → ke, set_cons_succ → kf
open Array renaming getElem?_eq_some_iff → kd
open Go.Lib renaming frozen_of_heap → kg, cell_of_heap → ki
open Go.Act renaming put → kj
open Nat renaming le_refl → kk, lt_of_lt_of_le → kq, le_trans → kr, mul_comm → ks
open Int renaming eq_ofNat_of_zero_le → kl
open Go.AllReadyH renaming cons → kn, nil → ko
open Go.IntWalk renaming i64_in → kp
set_option linter.unusedVariables false
set_option maxHeartbeats 1600000
set_option maxRecDepth 100000
namespace Go.Proofs.YtfjeonehdlphiaaGreatDoor
open Go.RowKit Go.Shelf
attribute [local go_sem] Oper.semAt_some
theorem zPMW (W H N:Nat) (hW:W≤64) (hH:H≤64) (hNHW:N=H*W) (tf:Nat) (caps:Array Value) (T:Nat→Int) (w:World) (eg:∀args w,(callFunc tf args).run Tryz.prog w=.ok (.enter tf args) w)
    (htell:∀(j:Nat) (V:World),j<N→Below w.heap.size w V→Calls Tryz.prog tf (#[.agg #[.int .i64 (j % W:Nat),.int .i64 (j / W:Nat)]]++caps) V fun e V'=>e=.returned (.int .i64 (T j))∧Below V.heap.size V V') :
    Calls Tryz.prog 255 #[.agg #[.int .i64 W,.int .i64 H],.func (.func tf) #[] caps] w fun e w'=>∃r,e=.returned (.agg #[.int .i64 W,.int .i64 H,r])∧jCvT w' r ((List.range N).map T)∧Below w.heap.size w w'∧Fresh w.heap.size r:=by
  obtain ⟨i0,hi,hz0,hz1,hz2⟩:=info_parts Tryz.infoInt
  refine (callsIn_wide (n:=3)).1 ?_
  refine callsIn_of_wp_marks Tryz.func255 rfl trivial ?_ rfl
  simp only[Tryz.ntmps255,List.size_toArray,List.length_cons,List.length_nil,Nat.reduceAdd,Nat.reduceSub,Array.replicate_succ,Array.replicate_zero,List.push_toArray,List.append_toArray,List.nil_append,List.cons_append]
  gi_wp2_with fail
  refine wpIn_wide.2 ?_
  have hN:N=W*H:=by rw[hNHW,ks]
  have HNHW:=hide hNHW
  clear hNHW
  have hNi:(W:Int)*(H:Int)=(N:Int):=by rw[hN];simp
  have hNb:N≤4096:=by rw[hN];exact kr (Nat.mul_le_mul hW hH) (by decide)
  have hmk:∀V:World,(Instr.makeSlice 52 (.int .i64 0) (.int .i64 N)).run Tryz.prog V=.ok (.slice (some ⟨V.heap.size,0,none⟩) 0 N) (V.alloc (.cells (madeCells (Value.int .i64 0).cells (N*1)) 3)):=fun V=>by
    have h:=run_make (P:=Tryz.prog) V 52 3 i0 (.int .i64 0) Tryz.underlying52 hi hz0 .i64 .i64 0 N (Int.le_refl _) (by omega) (by rw[hz2];omega) (by omega)
    rw[hz1] at h
    simpa using h
  have hwN:IntKind.i64.wrap ((W:Int)*(H:Int))=(N:Int):=by rw[hNi];exact kp _ (by omega)
  have hwM:IntKind.i64.wrap (N:Int)=(N:Int):=kp _ (by omega)
  have HN:=hide hN
  clear hN
  have hB3:=quJN (quJN (qUNz w (ka #[.int .i64 W,.int .i64 H] 95)) (qUNz _ (ka #[.func (.func tf) #[] caps] 98))) (qUNz _ (ka #[.int .i64 0,.int .i64 0,.slice none 0 0] 54))
  have g0:(((w.alloc (ka #[.int .i64 W,.int .i64 H] 95)).alloc (ka #[.func (.func tf) #[] caps] 98)).alloc (ka #[.int .i64 0,.int .i64 0,.slice none 0 0] 54)).heap[w.heap.size]?=some (.cells #[.int .i64 W,.int .i64 H] 95 (0,0)):=by
    rw[Below.heap_alloc _ _ _ (by simp;omega),Below.heap_alloc _ _ _ (by simp)];exact heap_alloc_new w _
  have g1:(((w.alloc (ka #[.int .i64 W,.int .i64 H] 95)).alloc (ka #[.func (.func tf) #[] caps] 98)).alloc (ka #[.int .i64 0,.int .i64 0,.slice none 0 0] 54)).heap[w.heap.size+1]?=some (.cells #[.func (.func tf) #[] caps] 98 (0,0)):=by
    rw[Below.heap_alloc _ _ _ (by simp)]
    have h:=heap_alloc_new (w.alloc (ka #[.int .i64 W,.int .i64 H] 95)) (ka #[.func (.func tf) #[] caps] 98)
    rw[World.size_alloc] at h;exact h
  have g2:(((w.alloc (ka #[.int .i64 W,.int .i64 H] 95)).alloc (ka #[.func (.func tf) #[] caps] 98)).alloc (ka #[.int .i64 0,.int .i64 0,.slice none 0 0] 54)).heap[w.heap.size+2]?=some (.cells #[.int .i64 0,.int .i64 0,.slice none 0 0] 54 (0,0)):=by
    have h:=heap_alloc_new ((w.alloc (ka #[.int .i64 W,.int .i64 H] 95)).alloc (ka #[.func (.func tf) #[] caps] 98)) (ka #[.int .i64 0,.int .i64 0,.slice none 0 0] 54)
    rw[World.size_alloc,World.size_alloc] at h;exact h
  have hs3:(((w.alloc (ka #[.int .i64 W,.int .i64 H] 95)).alloc (ka #[.func (.func tf) #[] caps] 98)).alloc (ka #[.int .i64 0,.int .i64 0,.slice none 0 0] 54)).heap.size=w.heap.size+3:=by simp
  generalize ((w.alloc (ka #[.int .i64 W,.int .i64 H] 95)).alloc (ka #[.func (.func tf) #[] caps] 98)).alloc (ka #[.int .i64 0,.int .i64 0,.slice none 0 0] 54)=W3 at *
  have k0:W3.cell? ⟨w.heap.size,0,none⟩=some (.int .i64 W):=by rw[ki g0];rfl
  have k1:W3.cell? ⟨w.heap.size,1,none⟩=some (.int .i64 H):=by rw[ki g0];rfl
  have HS:=hide (show ∀w',Below W3.heap.size W3 w'→w'.cell? ⟨w.heap.size,0,none⟩=some (.int .i64 W)∧w'.cell? ⟨w.heap.size,1,none⟩=some (.int .i64 H) from fun w' h =>
    ⟨(h.cell (p:=⟨w.heap.size,0,none⟩) (by show w.heap.size<_;omega)).trans k0,(h.cell (p:=⟨w.heap.size,1,none⟩) (by show w.heap.size<_;omega)).trans k1⟩)
  have hdrew:Below W3.heap.size W3 W3.drew:=(Below.refl _ _).drew
  have HMK:=hide hmk
  go_region_held3 (fun w'=>w'.cell? ⟨w.heap.size,0,none⟩=some (.int .i64 W)∧w'.cell? ⟨w.heap.size,1,none⟩=some (.int .i64 H))
    (first|(refine HS.out _ ?_;assumption)|(refine HS.out _ ?_;exact quJN (by assumption) (qUNz _ _))|go_keep)
    (fail)
  all_goals first
    | (show Exit.then _ _ _ _ ((W3.alloc (ka (madeCells #[.int .i64 0] N) 3)).alloc (ka #[.int .i64 W,.int .i64 H,.slice (some ⟨w.heap.size+3,0,none⟩) 0 N] 54)).drew
       have hVb:Below W3.heap.size W3 ((W3.alloc (ka (madeCells #[.int .i64 0] N) 3)).alloc (ka #[.int .i64 W,.int .i64 H,.slice (some ⟨w.heap.size+3,0,none⟩) 0 N] 54)).drew:=XpIb (quJN (qUNz _ _) (qUNz _ _))
       have vP:((W3.alloc (ka (madeCells #[.int .i64 0] N) 3)).alloc (ka #[.int .i64 W,.int .i64 H,.slice (some ⟨w.heap.size+3,0,none⟩) 0 N] 54)).drew.heap[w.heap.size+3+1]?=some (.cells #[.int .i64 W,.int .i64 H,.slice (some ⟨w.heap.size+3,0,none⟩) 0 N] 54 (0,0)):=by
         have h:=heap_alloc_new (W3.alloc (ka (madeCells #[.int .i64 0] N) 3)) (ka #[.int .i64 W,.int .i64 H,.slice (some ⟨w.heap.size+3,0,none⟩) 0 N] 54)
         rw[World.size_alloc,hs3] at h;exact h
       have vS:((W3.alloc (ka (madeCells #[.int .i64 0] N) 3)).alloc (ka #[.int .i64 W,.int .i64 H,.slice (some ⟨w.heap.size+3,0,none⟩) 0 N] 54)).drew.ownsRow w.heap.size 3 1 (.slice (some ⟨w.heap.size+3,0,none⟩) 0 N) 0 []:=by
         have h:=(World.ownsRow_made (base:=w.heap.size) (e:=3) (size:=1) W3 (madeCells #[.int .i64 0] N) N (by omega) (by unfold maxLen;omega) (by simp[madeCells])).alloc (ka #[.int .i64 W,.int .i64 H,.slice (some ⟨w.heap.size+3,0,none⟩) 0 N] 54)
         rw[hs3] at h;exact h
       have hPB:w.heap.size+2<w.heap.size+3+1:=by omega
       generalize ((W3.alloc (ka (madeCells #[.int .i64 0] N) 3)).alloc (ka #[.int .i64 W,.int .i64 H,.slice (some ⟨w.heap.size+3,0,none⟩) 0 N] 54)).drew=V at *
       generalize w.heap.size+3+1=PB at hPB vP ⊢
       generalize hSB:Value.slice (some ⟨w.heap.size+3,0,none⟩) 0 N=SV at *
       clear hSB)
    | (have hVb:Below W3.heap.size W3 ((W3.alloc (ka #[.int .i64 W,.int .i64 H,.slice (some ⟨w.heap.size+3+1,0,none⟩) 0 N] 54)).alloc (ka (madeCells #[.int .i64 0] N) 3)).drew:=XpIb (quJN (qUNz _ _) (qUNz _ _))
       have vP:((W3.alloc (ka #[.int .i64 W,.int .i64 H,.slice (some ⟨w.heap.size+3+1,0,none⟩) 0 N] 54)).alloc (ka (madeCells #[.int .i64 0] N) 3)).drew.heap[w.heap.size+3]?=some (.cells #[.int .i64 W,.int .i64 H,.slice (some ⟨w.heap.size+3+1,0,none⟩) 0 N] 54 (0,0)):=by
         have h:=heap_alloc_new W3 (ka #[.int .i64 W,.int .i64 H,.slice (some ⟨w.heap.size+3+1,0,none⟩) 0 N] 54)
         rw[hs3] at h
         exact (Below.heap_alloc _ _ _ (by simp;omega)).trans h
       have vS:((W3.alloc (ka #[.int .i64 W,.int .i64 H,.slice (some ⟨w.heap.size+3+1,0,none⟩) 0 N] 54)).alloc (ka (madeCells #[.int .i64 0] N) 3)).drew.ownsRow w.heap.size 3 1 (.slice (some ⟨w.heap.size+3+1,0,none⟩) 0 N) 0 []:=by
         have h:=World.ownsRow_made (base:=w.heap.size) (e:=3) (size:=1) (W3.alloc (ka #[.int .i64 W,.int .i64 H,.slice (some ⟨w.heap.size+3+1,0,none⟩) 0 N] 54)) (madeCells #[.int .i64 0] N) N (by simp;omega) (by unfold maxLen;omega) (by simp[madeCells])
         rw[World.size_alloc,hs3] at h;exact h
       have hPB:w.heap.size+2<w.heap.size+3:=by omega
       generalize ((W3.alloc (ka #[.int .i64 W,.int .i64 H,.slice (some ⟨w.heap.size+3+1,0,none⟩) 0 N] 54)).alloc (ka (madeCells #[.int .i64 0] N) 3)).drew=V at *
       generalize hSB:Value.slice (some ⟨w.heap.size+3+1,0,none⟩) 0 N=SV at *
       clear hSB
       generalize w.heap.size+3=PB at hPB vP ⊢)
  all_goals
    have k0:=(hVb.cell (p:=⟨w.heap.size,0,none⟩) (by show w.heap.size<_;omega)).trans k0
    have k1:=(hVb.cell (p:=⟨w.heap.size,1,none⟩) (by show w.heap.size<_;omega)).trans k1
    gi_wp2_with fail
    refine ⟨trivial,?_⟩
    refine (jIfE Fence.wide _ trivial rfl _ _ _).mono ?_
    rintro e w' ⟨rfl,rfl⟩
    gi_wp2_with fail
    have hsV:=hVb.size
    have hlP:=(kd.1 vP).1
    have n0:=heap_alloc_new V (ka #[.int .i64 W,.int .i64 H] 95)
    have hs0:(V.alloc (ka #[.int .i64 W,.int .i64 H] 95)).heap.size=V.heap.size+1:=by simp
    have hB0:Below w.heap.size w (V.alloc (ka #[.int .i64 W,.int .i64 H] 95)):=quJN (quJN hB3 hVb) (qUNz _ _)
    have j0:(V.alloc (ka #[.int .i64 W,.int .i64 H] 95)).heap[PB]?=some (.cells #[.int .i64 W,.int .i64 H,SV] 54 (0,0)):=(Below.heap_alloc _ _ _ hlP).trans vP
    have j1:=vS.alloc (ka #[.int .i64 W,.int .i64 H] 95)
    have j2:(V.alloc (ka #[.int .i64 W,.int .i64 H] 95)).heap[w.heap.size+1]?=some (.cells #[.func (.func tf) #[] caps] 98 (0,0)):=by
      rw[Below.heap_alloc _ _ _ (by omega),hVb.block _ (by omega)];exact g1
    have j3:(V.alloc (ka #[.int .i64 W,.int .i64 H] 95)).heap[w.heap.size+2]?=some (.cells #[.int .i64 0,.int .i64 0,.slice none 0 0] 54 (0,0)):=by
      rw[Below.heap_alloc _ _ _ (by omega),hVb.block _ (by omega)];exact g2
    generalize V.alloc (ka #[.int .i64 W,.int .i64 H] 95)=W0 at *
    refine wpIn_rangeFunc_ownH (α:=Fin N) rfl (show 1≤3 by omega) (gf:=154) (lb:=#[.pointer (some ⟨V.heap.size,0,none⟩)]) rfl trivial (enters_of Tryz.func154 (by kernel_rfl) rfl)
      (joPr Fence.wide (3-1) trivial rfl (by omega) V.heap.size W H N hW hH HNHW.out W0 (by omega) (by rw[ki n0];rfl) (by rw[ki n0];rfl)) (fun {A B C} h k=>h.trans' k) (fun X l o o' hl _ _ _=>qMCQ (by omega)) (Below.refl _ _) (fun _=>rfl)
      (fun pre W'=>(∃v,W'.heap[PB]?=some (.cells #[.int .i64 W,.int .i64 H,v] 54 (0,0))∧W'.ownsRow w.heap.size 3 1 v pre.length ((pre.map fun (j:Fin N)=>T j.1).map (Value.int .i64)))∧W'.heap[w.heap.size+1]?=some (.cells #[.func (.func tf) #[] caps] 98 (0,0))∧W'.heap[w.heap.size+2]?=some (.cells #[.int .i64 0,.int .i64 0,.slice none 0 0] 54 (0,0))∧W'.heap[V.heap.size]?=some (.cells #[.int .i64 W,.int .i64 H] 95 (0,0))∧Below w.heap.size w W')
      (fun _ _ _=>False)
      (fun s X Y row ⟨⟨v,a1,a2⟩,a3,a4,a6,a5⟩ hg hr=>⟨⟨v,qLYA hg hr a1,jg0p hg hr a2⟩,qLYA hg hr a3,qLYA hg hr a4,qLYA hg hr a6,ownFrom_below (β:=Unit) (kk _) (by omega) () X Y row a5 hg hr⟩)
      (fun _ _ _ _ _ hs _ _=>hs)
      ⟨⟨_,j0,j1⟩,j2,j3,n0,hB0⟩
      (fun x a' W'=>∃Bx,W0.heap.size≤Bx∧W'.heap[Bx]?=some (.cells #[.int .i64 (x.1 % W:Nat),.int .i64 (x.1 / W:Nat)] 97 (0,0))∧a'={ tmps:=#[.agg #[.int .i64 W,.int .i64 H],.func (.func tf) #[] caps,.pointer (some ⟨w.heap.size,0,none⟩),.pointer (some ⟨w.heap.size+1,0,none⟩),.pointer (some ⟨w.heap.size+1+1,0,none⟩),.pointer (some ⟨PB,0,none⟩),.pointer (some ⟨Bx,0,none⟩),.pointer (some ⟨w.heap.size,0,none⟩),.int .i64 W,.pointer (some ⟨w.heap.size,1,none⟩),.int .i64 H,.pointer (some ⟨w.heap.size,0,none⟩),.int .i64 W,.pointer (some ⟨w.heap.size,1,none⟩),.int .i64 H,.int .i64 N,SV,.agg #[.int .i64 W,.int .i64 H,SV],.agg #[.int .i64 W,.int .i64 H],.func (.func 154) #[] #[.pointer (some ⟨V.heap.size,0,none⟩)],.agg #[.int .i64 (x.1 % W:Nat),.int .i64 (x.1 / W:Nat)],undef,undef,undef,undef,undef,undef,undef,undef,undef],defers:=[] })
      (fun x a' _ X Y row ⟨Bx,b1,b2,b3⟩ hg hr=>⟨Bx,b1,qLYA hg hr b2,b3⟩)
      ?assign ?body ?done ?stop
    case assign =>
      rintro l pre x W' K ⟨⟨v,i1,i2⟩,i3,i4,i6,i5⟩ hK
      have hl1:=(kd.1 i1).1
      have hl3:=(kd.1 i3).1
      have hl4:=(kd.1 i4).1
      have hl6:=(kd.1 i6).1
      gi_wp2
      exact hK _ _ ((KeepsOthers.alloc _ _).from _) (Below.heap_alloc _ _ _ hl6) ⟨⟨v,(Below.heap_alloc _ _ _ hl1).trans i1,i2.alloc _⟩,(Below.heap_alloc _ _ _ hl3).trans i3,(Below.heap_alloc _ _ _ hl4).trans i4,(Below.heap_alloc _ _ _ hl6).trans i6,i5.alloc i5.size _⟩ ⟨W'.heap.size,by omega,heap_alloc_new W' _,rfl⟩
    case body =>
      rintro l pre x a' W' hl ⟨r,hr⟩ ⟨⟨sv,i1,i2⟩,i3,i4,i6,i5⟩ ⟨Bx,hBx,bX,rfl⟩ hlt
      obtain ⟨so,scap,rfl⟩:=XPKi i2
      have p2:W'.cell? ⟨PB,2,none⟩=some (.slice so pre.length scap):=by rw[ki i1];rfl
      have t0:W'.cell? ⟨w.heap.size+1,0,none⟩=some (.func (.func tf) #[] caps):=by rw[ki i3];rfl
      have x0:W'.cell? ⟨Bx,0,none⟩=some (.int .i64 (x.1 % W:Nat)):=by rw[ki bX];rfl
      have x1:W'.cell? ⟨Bx,1,none⟩=some (.int .i64 (x.1 / W:Nat)):=by rw[ki bX];rfl
      have hmx:Tryz.prog.follows .mixedOrders=true:=by kernel_rfl
      have hlP:=(kd.1 i1).1
      have hlT:=(kd.1 i3).1
      have hlX:=(kd.1 bX).1
      have hbW:w.heap.size≤W'.heap.size:=by omega
      have HL1:=hide (show pre.length+1≤maxLen by unfold maxLen;omega)
      have HL2:=hide (show (pre.length+1)*8≤140737488355328 by omega)
      have HS:=hide (show ∀v,Below W'.heap.size W' v→v.cell? ⟨w.heap.size+1,0,none⟩=some (.func (.func tf) #[] caps)∧v.cell? ⟨Bx,0,none⟩=some (.int .i64 (x.1 % W:Nat))∧v.cell? ⟨Bx,1,none⟩=some (.int .i64 (x.1 / W:Nat)) from fun v h =>
        ⟨(h.cell (p:=⟨w.heap.size+1,0,none⟩) hlT).trans t0,(h.cell (p:=⟨Bx,0,none⟩) hlX).trans x0,(h.cell (p:=⟨Bx,1,none⟩) hlX).trans x1⟩)
      have HP2:=hide (show ∀v,Below W'.heap.size W' v→v.cell? ⟨PB,2,none⟩=some (.slice so pre.length scap) from fun v h=>(h.cell (p:=⟨PB,2,none⟩) hlP).trans p2)
      have HTL:=hide (fun (V1:World) (g cap:Nat) (w1:World) (h1:Below W'.heap.size W' V1) (h2:(V1.alloc (ka #[.int .i64 (T x.1)] 3)).grownBy w1 (Value.slice so pre.length scap).ownBlock) (h3:w1.ownsRow (w.heap.size) 3 1 (.slice (some ⟨g,0,none⟩) (pre.length+1) cap) (pre.length+1) ((pre.map fun (j:Fin N)=>T j.1).map (Value.int .i64)++[.int .i64 (T x.1)]))=>XXqf (es:=#[.int .i64 (T x.1)]) (by decide) (by decide) (by decide) (by decide) (by decide) (by decide) (by decide) (B0:=W0.heap.size) (PB:=PB) i1 i2 i3 i4 i6 bX i5 (by omega) (by omega) (by omega) h1 h2 h3)
      have hWd:Below W'.heap.size W' W'.drew:=(Below.refl _ _).drew
      have HT:=hide (htell x.1 W'.drew x.2 i5.drew)
      gi_wp2_with fail
      have hSd:=HS.out _ hWd
      have p2:=HP2.out _ hWd
      refine jNnL (S:=fun v:World=>v.cell? ⟨w.heap.size+1,0,none⟩=some (.func (.func tf) #[] caps)∧v.cell? ⟨Bx,0,none⟩=some (.int .i64 (x.1 % W:Nat))∧v.cell? ⟨Bx,1,none⟩=some (.int .i64 (x.1 / W:Nat))) hmx ?nd ?no ?_
      case nd=>exact qU4N (by kernel_rfl)
      case no=>rintro ⟨_,_,h⟩;exact h
      show wpAnyH _ _ _ _ _ 9 _ _ W'.drew
      refine wpAnyH_take (i:=0) (oi:=_) (v:=.pointer (some ⟨PB,2,none⟩)) rfl (by kernel_rfl) (by kernel_rfl) (by kernel_rfl) (fun _ _ _ h=>h) (Or.inl ⟨by rfl,fun v hSv=>by obtain ⟨s2,s3,s4⟩:=hSv;go_simp⟩) hSd ?_
      simp only[kj]
      refine wpAnyH_take (i:=2) (oi:=_) (v:=.func (.func tf) #[] caps) rfl (by kernel_rfl) (by kernel_rfl) (by kernel_rfl) (fun _ _ _ h=>h) (Or.inl ⟨by rfl,fun v hSv=>by obtain ⟨s2,s3,s4⟩:=hSv;go_simp⟩) hSd ?_
      simp only[kj]
      refine wpAnyH_take (i:=3) (oi:=_) (v:=.agg #[.int .i64 (x.1 % W:Nat),.int .i64 (x.1 / W:Nat)]) rfl (by kernel_rfl) (by kernel_rfl) (by kernel_rfl) (fun _ _ _ h=>h) (Or.inl ⟨by rfl,fun v hSv=>by obtain ⟨s2,s3,s4⟩:=hSv;go_simp⟩) hSd ?_
      simp only[kj]
      refine wpAnyH_ready (rs:=[1,4]) (by kernel_rfl) (by simp) ?_
      refine kn (o:=_) rfl (fun K hK=>?wA) (kn (o:=_) rfl (fun K hK=>?wB) ko)
      case wA =>
        rw[if_pos (by rfl)]
        go_simp
        refine hK.out _ _ hSd (fun _=>?_)
        clear hK
        refine wpAnyH_ready (rs:=[4]) (by kernel_rfl) (by simp) ?_
        refine kn (o:=_) rfl (fun K hK=>?_) ko
        rw[if_pos (by rfl)]
        go_simp
        refine HT.out.mono ?_
        rintro e V1 ⟨rfl,hb1⟩
        have hV1:Below W'.heap.size W' V1:=hWd.trans hb1
        have hSd:=HS.out _ hV1
        have p2:=HP2.out _ hV1
        refine hK.out _ _ hSd (fun _=>?_)
        clear hK
        refine wpAnyH_ready (rs:=[5]) (by kernel_rfl) (by simp) ?_
        refine kn (o:=_) rfl (fun K hK=>?_) ko
        rw[if_pos (by rfl)]
        go_simp
        have hV2:Below W'.heap.size W' (V1.alloc (ka #[.int .i64 (T x.1)] 3)):=hV1.trans ((qUNz _ _).mono hV1.size)
        have hSd:=HS.out _ hV2
        have p2:=HP2.out _ hV2
        refine hK.out _ _ hSd (fun _=>?_)
        clear hK
        have ho2:=((qw14 i2 hV1).alloc (ka #[.int .i64 (T x.1)] 3))
        refine wpAnyH_ready (rs:=[6]) (by kernel_rfl) (by simp) ?_
        refine kn (o:=_) rfl (fun K hK=>?_) ko
        refine step_append_lies _ rfl _ _ 52 rfl (w.heap.size) 3 i0 (.int .i64 0) 1 8 Tryz.underlying52 hi hz0 hz1 hz2 rfl Nat.one_pos (.slice so pre.length scap) pre.length ((pre.map fun (j:Fin N)=>T j.1).map (Value.int .i64)) rfl ho2 ⟨V1.heap.size,0,none⟩ 1 1 [.int .i64 (T x.1)] rfl rfl (fun j u hj=>by obtain ⟨rfl,rfl⟩:=X4yv hj;simp[Addr.add]) (fun u hu=>by simp at hu;subst hu;rfl) Nat.one_pos HL1.out HL2.out (kr hbW hV2.size) _ rfl ?_
        intro g cap w1 hown hgrow hat hltg
        obtain ⟨hSd,p2,p2f,HFIN⟩:=HTL.out V1 g cap w1 hV1 hgrow hown
        refine hK.out _ _ hSd (fun _=>?_)
        clear hK
        refine wpAnyH_ready (rs:=[7]) (by kernel_rfl) (by simp) ?_
        refine kn (o:=_) rfl (fun K hK=>?_) ko
        rw[if_pos (by rfl)]
        go_simp
        refine hK.out _ _ hSd (fun _=>?_)
        clear hK
        refine wpAnyH_ready (rs:=[8]) (by kernel_rfl) (by simp) ?_
        refine kn (o:=_) rfl (fun K hK=>?_) ko
        rw[if_pos (by rfl)]
        go_simp
        refine hK.out _ _ HFIN.1 (fun _=>?_)
        clear hK
        refine wpAnyH_done (by kernel_rfl) ?_ _
        obtain ⟨_,f1,f2,⟨v,f3,f4⟩,f5,f6,f7,f8⟩:=HFIN
        exact ⟨f1,f2,⟨v,f3,by rw[List.length_append,List.map_append,List.map_append];exact f4⟩,f5,f6,f7,f8⟩
      case wB =>
        rw[if_pos (by rfl)]
        go_simp
        refine HT.out.mono ?_
        rintro e V1 ⟨rfl,hb1⟩
        have hV1:Below W'.heap.size W' V1:=hWd.trans hb1
        have hSd:=HS.out _ hV1
        have p2:=HP2.out _ hV1
        refine hK.out _ _ hSd (fun _=>?_)
        clear hK
        refine wpAnyH_ready (rs:=[1,5]) (by kernel_rfl) (by simp) ?_
        refine kn (o:=_) rfl (fun K hK=>?wC) (kn (o:=_) rfl (fun K hK=>?wD) ko)
        case wC =>
          rw[if_pos (by rfl)]
          go_simp
          refine hK.out _ _ hSd (fun _=>?_)
          clear hK
          refine wpAnyH_ready (rs:=[5]) (by kernel_rfl) (by simp) ?_
          refine kn (o:=_) rfl (fun K hK=>?_) ko
          rw[if_pos (by rfl)]
          go_simp
          have hV2:Below W'.heap.size W' (V1.alloc (ka #[.int .i64 (T x.1)] 3)):=hV1.trans ((qUNz _ _).mono hV1.size)
          have hSd:=HS.out _ hV2
          have p2:=HP2.out _ hV2
          refine hK.out _ _ hSd (fun _=>?_)
          clear hK
          have ho2:=((qw14 i2 hV1).alloc (ka #[.int .i64 (T x.1)] 3))
          refine wpAnyH_ready (rs:=[6]) (by kernel_rfl) (by simp) ?_
          refine kn (o:=_) rfl (fun K hK=>?_) ko
          refine step_append_lies _ rfl _ _ 52 rfl (w.heap.size) 3 i0 (.int .i64 0) 1 8 Tryz.underlying52 hi hz0 hz1 hz2 rfl Nat.one_pos (.slice so pre.length scap) pre.length ((pre.map fun (j:Fin N)=>T j.1).map (Value.int .i64)) rfl ho2 ⟨V1.heap.size,0,none⟩ 1 1 [.int .i64 (T x.1)] rfl rfl (fun j u hj=>by obtain ⟨rfl,rfl⟩:=X4yv hj;simp[Addr.add]) (fun u hu=>by simp at hu;subst hu;rfl) Nat.one_pos HL1.out HL2.out (kr hbW hV2.size) _ rfl ?_
          intro g cap w1 hown hgrow hat hltg
          obtain ⟨hSd,p2,p2f,HFIN⟩:=HTL.out V1 g cap w1 hV1 hgrow hown
          refine hK.out _ _ hSd (fun _=>?_)
          clear hK
          refine wpAnyH_ready (rs:=[7]) (by kernel_rfl) (by simp) ?_
          refine kn (o:=_) rfl (fun K hK=>?_) ko
          rw[if_pos (by rfl)]
          go_simp
          refine hK.out _ _ hSd (fun _=>?_)
          clear hK
          refine wpAnyH_ready (rs:=[8]) (by kernel_rfl) (by simp) ?_
          refine kn (o:=_) rfl (fun K hK=>?_) ko
          rw[if_pos (by rfl)]
          go_simp
          refine hK.out _ _ HFIN.1 (fun _=>?_)
          clear hK
          refine wpAnyH_done (by kernel_rfl) ?_ _
          obtain ⟨_,f1,f2,⟨v,f3,f4⟩,f5,f6,f7,f8⟩:=HFIN
          exact ⟨f1,f2,⟨v,f3,by rw[List.length_append,List.map_append,List.map_append];exact f4⟩,f5,f6,f7,f8⟩
        case wD =>
          rw[if_pos (by rfl)]
          go_simp
          have hV2:Below W'.heap.size W' (V1.alloc (ka #[.int .i64 (T x.1)] 3)):=hV1.trans ((qUNz _ _).mono hV1.size)
          have hSd:=HS.out _ hV2
          have p2:=HP2.out _ hV2
          refine hK.out _ _ hSd (fun _=>?_)
          clear hK
          refine wpAnyH_ready (rs:=[1]) (by kernel_rfl) (by simp) ?_
          refine kn (o:=_) rfl (fun K hK=>?_) ko
          rw[if_pos (by rfl)]
          go_simp
          refine hK.out _ _ hSd (fun _=>?_)
          clear hK
          have ho2:=((qw14 i2 hV1).alloc (ka #[.int .i64 (T x.1)] 3))
          refine wpAnyH_ready (rs:=[6]) (by kernel_rfl) (by simp) ?_
          refine kn (o:=_) rfl (fun K hK=>?_) ko
          refine step_append_lies _ rfl _ _ 52 rfl (w.heap.size) 3 i0 (.int .i64 0) 1 8 Tryz.underlying52 hi hz0 hz1 hz2 rfl Nat.one_pos (.slice so pre.length scap) pre.length ((pre.map fun (j:Fin N)=>T j.1).map (Value.int .i64)) rfl ho2 ⟨V1.heap.size,0,none⟩ 1 1 [.int .i64 (T x.1)] rfl rfl (fun j u hj=>by obtain ⟨rfl,rfl⟩:=X4yv hj;simp[Addr.add]) (fun u hu=>by simp at hu;subst hu;rfl) Nat.one_pos HL1.out HL2.out (kr hbW hV2.size) _ rfl ?_
          intro g cap w1 hown hgrow hat hltg
          obtain ⟨hSd,p2,p2f,HFIN⟩:=HTL.out V1 g cap w1 hV1 hgrow hown
          refine hK.out _ _ hSd (fun _=>?_)
          clear hK
          refine wpAnyH_ready (rs:=[7]) (by kernel_rfl) (by simp) ?_
          refine kn (o:=_) rfl (fun K hK=>?_) ko
          rw[if_pos (by rfl)]
          go_simp
          refine hK.out _ _ hSd (fun _=>?_)
          clear hK
          refine wpAnyH_ready (rs:=[8]) (by kernel_rfl) (by simp) ?_
          refine kn (o:=_) rfl (fun K hK=>?_) ko
          rw[if_pos (by rfl)]
          go_simp
          refine hK.out _ _ HFIN.1 (fun _=>?_)
          clear hK
          refine wpAnyH_done (by kernel_rfl) ?_ _
          obtain ⟨_,f1,f2,⟨v,f3,f4⟩,f5,f6,f7,f8⟩:=HFIN
          exact ⟨f1,f2,⟨v,f3,by rw[List.length_append,List.map_append,List.map_append];exact f4⟩,f5,f6,f7,f8⟩
    case done =>
      rintro D ys W' hD rfl ⟨⟨v,i1,i2⟩,i3,i4,i6,i5⟩ hK
      have p0:W'.cell? ⟨PB,0,none⟩=some (.int .i64 W):=by rw[ki i1];rfl
      have p1:W'.cell? ⟨PB,1,none⟩=some (.int .i64 H):=by rw[ki i1];rfl
      have p2:W'.cell? ⟨PB,2,none⟩=some v:=by rw[ki i1];rfl
      have r0:W'.cell? ⟨w.heap.size+1+1,0,none⟩=some (.int .i64 0):=by rw[ki i4];rfl
      have r1:W'.cell? ⟨w.heap.size+1+1,1,none⟩=some (.int .i64 0):=by rw[ki i4];rfl
      have r2:W'.cell? ⟨w.heap.size+1+1,2,none⟩=some (.slice none 0 0):=by rw[ki i4];rfl
      have f0:W'.frozen? ⟨w.heap.size+1+1,0,none⟩=false:=kg i4 0
      have f1:W'.frozen? ⟨w.heap.size+1+1,1,none⟩=false:=kg i4 1
      have f2:W'.frozen? ⟨w.heap.size+1+1,2,none⟩=false:=kg i4 2
      obtain ⟨ao,cap,rfl⟩:=XPKi i2
      gi_wp2
      obtain ⟨x1,x2,x3,x4⟩:=X0Wz i4 (.int .i64 W) (.int .i64 H) (.slice ao (List.finRange N).length cap) w (by omega) i5
      have i2':=jNsf x2 (qYYy i2 i4 (by decide)) i2
      have hDr:D≠w.heap.size+2:=fun e=>by rw[e,i4] at hK;cases hK
      replace hK:=(x2 D hDr).trans hK
      simp only[List.length_finRange] at x1 x2 x3 x4 i2' hK
      generalize ((W'.setCell ⟨w.heap.size+1+1,0,none⟩ (.int .i64 W)).setCell ⟨w.heap.size+1+1,1,none⟩ (.int .i64 H)).setCell ⟨w.heap.size+1+1,2,none⟩ (.slice ao N cap)=X at *
      refine ⟨by simp,.inl ⟨_,_,rfl,run_takeDeferred hK,?_⟩⟩
      have y1:=(World.putObj_heap_other (w:=X) (o:=.deferred none) (Ne.symm hDr)).trans x1
      have y2:=ownsRow_putObj i2' (.deferred none) hK rfl
      have y3:Below w.heap.size w (X.putObj D (.deferred none)):=x4.trans (belowK_b (w:=w) (kk _) X D _ _ (by omega) hK rfl rfl)
      have c0:(X.putObj D (.deferred none)).cell? ⟨w.heap.size+1+1,0,none⟩=some (.int .i64 W):=by rw[ki y1];rfl
      have c1:(X.putObj D (.deferred none)).cell? ⟨w.heap.size+1+1,1,none⟩=some (.int .i64 H):=by rw[ki y1];rfl
      have c2:(X.putObj D (.deferred none)).cell? ⟨w.heap.size+1+1,2,none⟩=some (.slice ao N cap):=by rw[ki y1];rfl
      generalize X.putObj D (.deferred none)=Z at *
      refine ⟨.agg #[.int .i64 W,.int .i64 H,.slice ao N cap],by simp[results,Tryz.results255,go_sem,c0,c1,c2],.slice ao N cap,rfl,?_,y3,Fresh.own (by simpa using y2)⟩
      rw[←zhtE N T]
      exact jCvT.own (base:=w.heap.size) (by simpa using y2) (by simp;omega)
    case stop=>rintro D c pre W' _ _ h _;exact h.elim
end Go.Proofs.YtfjeonehdlphiaaGreatDoor
namespace Go.Proofs.YtfjeonehdlphiaaGreatDoor
open Go.RowKit
def zBza (zs:List Int) (W:Nat) (m:Nat→Int) (white:Int) (j:Nat):Int:=jeC7 ((zAt zs j-m (j / W % 2*2+j % W % 2))*65535 / (white-m (j / W % 2*2+j % W % 2)))
def gainV (zs:List Int) (W p:Nat) (m:Nat→Int) (j:Nat):Int:=jeC7 (zAt zs j*m (colV p (j % W) (j / W)) / 256)
theorem Xmh1 (p X Y:Nat):colV p X Y<3:=by unfold colV;split<;>omega
theorem Xq1h (W H j bk off ca:Nat) (hW1:1≤W) (hW:W≤64) (hH:H≤64) (zs:List Int) (hlen:zs.length=H*W) (hzs:allIn 0 65535 zs=true) (hj:j<zs.length) (m:Nat→Int) (white:Int) (hw0:white≤65535) (hm:∀k,k<4→0≤m k∧m k≤white-1) (Bb Bp Bg Bw:Nat) (w:World) (hBp:Bp<w.heap.size) (hBg:Bg<w.heap.size) (hbk:bk<w.heap.size)
  (k2:w.cell? ⟨Bp,2,none⟩=some (.slice (some ⟨bk,off,none⟩) zs.length ca)) (g0:w.cell? ⟨Bg,0,none⟩=some (.int .i64 W)) (g1:w.cell? ⟨Bg,1,none⟩=some (.int .i64 H)) (hBb:Bb<w.heap.size) (hBw:Bw<w.heap.size) (kb:∀k,k<4→w.cell? ⟨Bb,k,none⟩=some (.int .i64 (m k))) (kw:w.cell? ⟨Bw,0,none⟩=some (.int .i64 white))
  (hcell:∀j,j<zs.length→w.cell? ⟨bk,off+j,none⟩=some (.int .i64 (zAt zs j))) :
  Calls Tryz.prog 256 #[.agg #[.int .i64 (j % W:Nat),.int .i64 (j / W:Nat)],.pointer (some ⟨Bb,0,none⟩),.pointer (some ⟨Bp,0,none⟩),.pointer (some ⟨Bg,0,none⟩),.pointer (some ⟨Bw,0,none⟩)] w fun e w'=>e=.returned (.int .i64 (zBza zs W m white j))∧Below w.heap.size w w':=by
 have HT:=hide (show zBza zs W m white j=jeC7 ((zAt zs j-m (j / W % 2*2+j % W % 2))*65535 / (white-m (j / W % 2*2+j % W % 2))) from rfl)
 generalize zBza zs W m white j=RES at *
 have hl4:zs.length≤4096:=by rw[hlen];exact kr (Nat.mul_le_mul hH hW) (by decide)
 obtain ⟨X,hX⟩:∃X,j % W=X:=⟨_,rfl⟩
 obtain ⟨Y,hY⟩:∃Y,j / W=Y:=⟨_,rfl⟩
 have hk:Y*W+X=j:=by rw[←hX,←hY,ks];exact Nat.div_add_mod j W
 have HIX:=hide (fun v=>XSSj W H X Y W j rfl hk (by omega) v)
 have hzr:=XWrv hzs j
 have hcz:=hcell j hj
 have hjI:(j:Int)<(zs.length:Int):=by omega
 rw[hX,hY] at HT
 rw[hX,hY]
 obtain ⟨a,ha⟩:∃a,Y % 2=a:=⟨_,rfl⟩
 obtain ⟨b,hb⟩:∃b,X % 2=b:=⟨_,rfl⟩
 have hya:(Y:Int) % 2=(a:Int):=by rw[←ha];rfl
 have hxb:(X:Int) % 2=(b:Int):=by rw[←hb];rfl
 obtain ⟨A2,hA2⟩:∃A2,a*2=A2:=⟨_,rfl⟩
 have hi1:(a:Int)*2=(A2:Int):=by omega
 obtain ⟨ix,hix⟩:∃ix,A2+b=ix:=⟨_,rfl⟩
 have hi2:(A2:Int)+(b:Int)=(ix:Int):=by omega
 have hix4:ix<4:=by omega
 have hixI:(ix:Int)<4:=by omega
 rw[ha,hb,hA2,hix] at HT
 obtain ⟨hm0,hm1⟩:=hm ix hix4
 have kb0:=kb ix hix4
 obtain ⟨bl,hbl⟩:∃bl,m ix=bl:=⟨_,rfl⟩
 rw[hbl] at HT hm0 hm1 kb0
 obtain ⟨z,hz⟩:∃z,zAt zs j=z:=⟨_,rfl⟩
 rw[hz] at HT hzr hcz
 obtain ⟨hz1,hz2⟩:=hzr
 obtain ⟨d,hd⟩:∃d,white-bl=d:=⟨_,rfl⟩
 rw[hd] at HT
 have hd1:1≤d:=by omega
 have hd0:¬(d=0):=by omega
 obtain ⟨n,hn⟩:∃n,(z-bl)*65535=n:=⟨_,rfl⟩
 rw[hn,←zj0b n d (by omega)] at HT
 have hn1:-4294967296≤n∧n≤4294967296:=by omega
 have hf:=qFLz n d (by omega)
 have hr1:-4294967296≤n / d:=Int.le_ediv_of_mul_le (by omega) (by omega)
 have hr2:n / d≤4294967296:=Int.ediv_le_of_le_mul (by omega) (by omega)
 obtain ⟨q,hq⟩:∃q,n.tdiv d=q:=⟨_,rfl⟩
 rw[hq] at HT hf
 have hqr:-4294967297≤q∧q≤4294967298:=by omega
 obtain ⟨hq1,hq2⟩:=hqr
 have hwd:IntKind.i64.wrap (white-bl)=d:=by rw[hd];exact kp _ (by omega)
 have hwd2:IntKind.i64.wrap d=d:=kp _ (by omega)
 have hwe:IntKind.i64.wrap (z-bl)=z-bl:=kp _ (by omega)
 have hwn:IntKind.i64.wrap n=n:=kp _ (by omega)
 have hwq:IntKind.i64.wrap q=q:=kp _ (by omega)
 clear hf hr1 hr2 hX hY ha hb hA2 hix hbl hz hk hlen hcell hm kb hzs
 have HB:=hide (qUNz w (ka #[.int .i64 X,.int .i64 Y] 97))
 have a1:=al1 w (ka #[.int .i64 X,.int .i64 Y] 97)
 have kb1:=(HB.out.cell (p:=⟨Bb,ix,none⟩) hBb).trans kb0
 obtain ⟨s0,s1⟩:=bx2 a1
 go_enter Tryz.func256,Tryz.ntmps256
 go_wp2_with fail
 have hl1:=(kd.1 a1).1
 generalize w.alloc (ka #[.int .i64 X,.int .i64 Y] 97)=U at *
 have HS:=hide (show ∀v,Below U.heap.size U v→v.cell? ⟨Bp,2,none⟩=some (.slice (some ⟨bk,off,none⟩) zs.length ca)∧v.cell? ⟨Bg,0,none⟩=some (.int .i64 W)∧v.cell? ⟨Bg,1,none⟩=some (.int .i64 H)∧v.cell? ⟨w.heap.size,0,none⟩=some (.int .i64 X)∧v.cell? ⟨w.heap.size,1,none⟩=some (.int .i64 Y)∧v.cell? ⟨bk,off+j,none⟩=some (.int .i64 z)∧v.cell? ⟨Bw,0,none⟩=some (.int .i64 white) from fun v h=>by
  have hw:=HB.out.trans (h.mono HB.out.size)
  obtain ⟨y0,y1⟩:=bx2 ((h.block _ hl1).trans a1)
  exact ⟨(hw.cell (p:=⟨Bp,2,none⟩) hBp).trans k2,(hw.cell (p:=⟨Bg,0,none⟩) hBg).trans g0,(hw.cell (p:=⟨Bg,1,none⟩) hBg).trans g1,y0,y1,(hw.cell (p:=⟨bk,off+j,none⟩) hbk).trans hcz,(hw.cell (p:=⟨Bw,0,none⟩) hBw).trans kw⟩)
 have hWd:Below U.heap.size U U.drew:=(Below.refl _ _).drew
 have hSd:=HS.out _ hWd
 clear s0 s1
 have hmx:Tryz.prog.follows .mixedOrders=true:=by kernel_rfl
 refine qYgd (S:=fun v:World=>v.cell? ⟨Bp,2,none⟩=some (.slice (some ⟨bk,off,none⟩) zs.length ca)∧v.cell? ⟨Bg,0,none⟩=some (.int .i64 W)∧v.cell? ⟨Bg,1,none⟩=some (.int .i64 H)∧v.cell? ⟨w.heap.size,0,none⟩=some (.int .i64 X)∧v.cell? ⟨w.heap.size,1,none⟩=some (.int .i64 Y)∧v.cell? ⟨bk,off+j,none⟩=some (.int .i64 z)∧v.cell? ⟨Bw,0,none⟩=some (.int .i64 white)) (f:=15) hmx ?_
 show jZdv _ _ _ _ _ _ 16 _ _ U.drew
 refine zB2j (i:=0) (oi:=_) (v:=?vv1) (some 18) rfl rfl (by kernel_rfl) (by kernel_rfl) (by kernel_rfl) (by kernel_rfl) (by kernel_rfl) (fun _ _ _ h=>h) (Or.inl ⟨by rfl,?yy1⟩) hSd ?rr1
 case yy1=>(intro wq hSq;obtain ⟨_,_,_,_,_,_,_⟩:=hSq;go_simp<;>with_reducible rfl)
 simp only[kj,kc,kf,ke]
 refine zB2j (i:=2) (oi:=_) (v:=?vv2) (some 20) rfl rfl (by kernel_rfl) (by kernel_rfl) (by kernel_rfl) (by kernel_rfl) (by kernel_rfl) (fun _ _ _ h=>h) (Or.inl ⟨by rfl,?yy2⟩) hSd ?rr2
 case yy2=>(intro wq hSq;obtain ⟨_,_,_,_,_,_,_⟩:=hSq;go_simp<;>with_reducible rfl)
 simp only[kj,kc,kf,ke]
 refine zB2j (i:=3) (oi:=_) (v:=?vv3) (some 21) rfl rfl (by kernel_rfl) (by kernel_rfl) (by kernel_rfl) (by kernel_rfl) (by kernel_rfl) (fun _ _ _ h=>h) (Or.inl ⟨by rfl,?yy3⟩) hSd ?rr3
 case yy3=>(intro wq hSq;obtain ⟨_,_,_,_,_,_,_⟩:=hSq;go_simp<;>with_reducible rfl)
 simp only[kj,kc,kf,ke]
 refine zB2j (i:=7) (oi:=_) (v:=?vv4) (some 25) rfl rfl (by kernel_rfl) (by kernel_rfl) (by kernel_rfl) (by kernel_rfl) (by kernel_rfl) (fun _ _ _ h=>h) (Or.inl ⟨by rfl,?yy4⟩) hSd ?rr4
 case yy4=>(intro wq hSq;obtain ⟨_,_,_,_,_,_,_⟩:=hSq;go_simp<;>with_reducible rfl)
 simp only[kj,kc,kf,ke]
 refine zB2j (i:=10) (oi:=_) (v:=?vv5) (some 28) rfl rfl (by kernel_rfl) (by kernel_rfl) (by kernel_rfl) (by kernel_rfl) (by kernel_rfl) (fun _ _ _ h=>h) (Or.inl ⟨by rfl,?yy5⟩) hSd ?rr5
 case yy5=>(intro wq hSq;obtain ⟨_,_,_,_,_,_,_⟩:=hSq;go_simp<;>with_reducible rfl)
 simp only[kj,kc,kf,ke]
 refine zB2j (i:=11) (oi:=_) (v:=?vv6) (some 29) rfl rfl (by kernel_rfl) (by kernel_rfl) (by kernel_rfl) (by kernel_rfl) (by kernel_rfl) (fun _ _ _ h=>h) (Or.inl ⟨by rfl,?yy6⟩) hSd ?rr6
 case yy6=>(intro wq hSq;obtain ⟨_,_,_,_,_,_,_⟩:=hSq;go_simp<;>with_reducible rfl)
 simp only[kj,kc,kf,ke]
 refine zB2j (i:=1) (oi:=_) (v:=?vv7) (some 19) rfl rfl (by kernel_rfl) (by kernel_rfl) (by kernel_rfl) (by kernel_rfl) (by kernel_rfl) (fun _ _ _ h=>h) (Or.inl ⟨by rfl,?yy7⟩) hSd ?rr7
 case yy7=>(intro wq hSq;obtain ⟨_,_,_,_,_,_,_⟩:=hSq;go_simp<;>with_reducible rfl)
 simp only[kj,kc,kf,ke]
 refine zB2j (i:=12) (oi:=_) (v:=?vv8) (some 30) rfl rfl (by kernel_rfl) (by kernel_rfl) (by kernel_rfl) (by kernel_rfl) (by kernel_rfl) (fun _ _ _ h=>h) (Or.inl ⟨by rfl,?yy8⟩) hSd ?rr8
 case yy8=>(intro wq hSq;obtain ⟨_,_,_,_,_,_,_⟩:=hSq;go_simp<;>with_reducible rfl)
 simp only[kj,kc,kf,ke]
 refine znWj (i:=4) (o:=_) (by kernel_rfl) rfl (fun K' hK=>?_)
 rw[if_pos (by rfl)]
 go_simp
 refine (HIX.out _).mono ?_
 rintro e V1 ⟨rfl,hbv⟩
 have hB1:Below U.heap.size U V1:=hWd.trans (hbv.mono hWd.size)
 have hSd:=HS.out _ hB1
 refine hK.out _ _ hSd ?_
 clear hK
 try simp only[kj]
 refine zB2j (i:=5) (oi:=_) (v:=?vv9) (some 23) rfl rfl (by kernel_rfl) (by kernel_rfl) (by kernel_rfl) (by kernel_rfl) (by kernel_rfl) (fun _ _ _ h=>h) (Or.inl ⟨by rfl,?yy9⟩) hSd ?rr9
 case yy9=>(intro wq hSq;obtain ⟨_,_,_,_,_,_,_⟩:=hSq;go_simp<;>with_reducible rfl)
 simp only[kj,kc,kf,ke]
 refine zB2j (i:=6) (oi:=_) (v:=?vv10) (some 24) rfl rfl (by kernel_rfl) (by kernel_rfl) (by kernel_rfl) (by kernel_rfl) (by kernel_rfl) (fun _ _ _ h=>h) (Or.inl ⟨by rfl,?yy10⟩) hSd ?rr10
 case yy10=>(intro wq hSq;obtain ⟨_,_,_,_,_,_,_⟩:=hSq;go_simp<;>with_reducible rfl)
 simp only[kj,kc,kf,ke]
 refine zB2j (i:=8) (oi:=_) (v:=?vv11) (some 26) rfl rfl (by kernel_rfl) (by kernel_rfl) (by kernel_rfl) (by kernel_rfl) (by kernel_rfl) (fun _ _ _ h=>h) (Or.inl ⟨by rfl,?yy11⟩) hSd ?rr11
 case yy11=>(intro wq hSq;obtain ⟨_,_,_,_,_,_,_⟩:=hSq;go_simp<;>with_reducible rfl)
 simp only[kj,kc,kf,ke]
 refine zB2j (i:=9) (oi:=_) (v:=?vv12) (some 27) rfl rfl (by kernel_rfl) (by kernel_rfl) (by kernel_rfl) (by kernel_rfl) (by kernel_rfl) (fun _ _ _ h=>h) (Or.inl ⟨by rfl,?yy12⟩) hSd ?rr12
 case yy12=>(intro wq hSq;obtain ⟨_,_,_,_,_,_,_⟩:=hSq;go_simp<;>with_reducible rfl)
 simp only[kj,kc,kf,ke]
 refine zB2j (i:=13) (oi:=_) (v:=?vv13) (some 31) rfl rfl (by kernel_rfl) (by kernel_rfl) (by kernel_rfl) (by kernel_rfl) (by kernel_rfl) (fun _ _ _ h=>h) (Or.inl ⟨by rfl,?yy13⟩) hSd ?rr13
 case yy13=>(intro wq hSq;obtain ⟨_,_,_,_,_,_,_⟩:=hSq;go_simp<;>with_reducible rfl)
 simp only[kj,kc,kf,ke]
 refine znWj (i:=14) (o:=_) (by kernel_rfl) rfl (fun K' hK=>?_)
 rw[if_pos (by rfl)]
 go_simp
 refine (Xgzp _ _).mono ?_
 rintro e Vx ⟨rfl,rfl⟩
 have hSd:=hSd
 refine hK.out _ _ hSd ?_
 clear hK
 try simp only[kj]
 refine z9gO (o:=_) (by kernel_rfl) rfl (fun K' hK=>?_)
 rw[if_pos (by rfl)]
 go_simp
 refine hK.out _ _ ?_
 clear hK
 refine jFdp (by kernel_rfl) ?_ _
 try simp only[kj]
 go_wp2
 go_ret
 exact ⟨jx9N HT.out.symm,HB.out.trans (hB1.mono HB.out.size)⟩
theorem zrmA (W H j bk off ca:Nat) (hW1:1≤W) (hW:W≤64) (hH:H≤64) (zs:List Int) (hlen:zs.length=H*W) (hzs:allIn 0 65535 zs=true) (hj:j<zs.length) (p:Nat) (hp:p≤3) (m:Nat→Int) (hm:∀k,k<3→0≤m k∧m k≤65535) (Bh Bp Bg Bm:Nat) (w:World) (hBp:Bp<w.heap.size) (hBg:Bg<w.heap.size) (hbk:bk<w.heap.size)
  (k2:w.cell? ⟨Bp,2,none⟩=some (.slice (some ⟨bk,off,none⟩) zs.length ca)) (g0:w.cell? ⟨Bg,0,none⟩=some (.int .i64 W)) (g1:w.cell? ⟨Bg,1,none⟩=some (.int .i64 H)) (hBh:Bh<w.heap.size) (hBm:Bm<w.heap.size) (kh:w.cell? ⟨Bh,0,none⟩=some (.int .i64 p)) (km:∀k,k<3→w.cell? ⟨Bm,k,none⟩=some (.int .i64 (m k)))
  (hcell:∀j,j<zs.length→w.cell? ⟨bk,off+j,none⟩=some (.int .i64 (zAt zs j))) :
  Calls Tryz.prog 266 #[.agg #[.int .i64 (j % W:Nat),.int .i64 (j / W:Nat)],.pointer (some ⟨Bh,0,none⟩),.pointer (some ⟨Bp,0,none⟩),.pointer (some ⟨Bg,0,none⟩),.pointer (some ⟨Bm,0,none⟩)] w fun e w'=>e=.returned (.int .i64 (gainV zs W p m j))∧Below w.heap.size w w':=by
 have HT:=hide (show gainV zs W p m j=jeC7 (zAt zs j*m (colV p (j % W) (j / W)) / 256) from rfl)
 generalize gainV zs W p m j=RES at *
 have hl4:zs.length≤4096:=by rw[hlen];exact kr (Nat.mul_le_mul hH hW) (by decide)
 obtain ⟨X,hX⟩:∃X,j % W=X:=⟨_,rfl⟩
 obtain ⟨Y,hY⟩:∃Y,j / W=Y:=⟨_,rfl⟩
 have hk:Y*W+X=j:=by rw[←hX,←hY,ks];exact Nat.div_add_mod j W
 have HIX:=hide (fun v=>XSSj W H X Y W j rfl hk (by omega) v)
 have hzr:=XWrv hzs j
 have hcz:=hcell j hj
 have hjI:(j:Int)<(zs.length:Int):=by omega
 rw[hX,hY] at HT
 rw[hX,hY]
 have HCO:=hide (fun v=>XW0z p X Y hp v)
 have hc3:=Xmh1 p X Y
 obtain ⟨c,hc⟩:∃c,colV p X Y=c:=⟨_,rfl⟩
 rw[hc] at HCO HT hc3
 have hcI:(c:Int)<3:=by omega
 obtain ⟨hm0,hm1⟩:=hm c hc3
 have km0:=km c hc3
 obtain ⟨gn,hgn⟩:∃gn,m c=gn:=⟨_,rfl⟩
 rw[hgn] at HT hm0 hm1 km0
 obtain ⟨z,hz⟩:∃z,zAt zs j=z:=⟨_,rfl⟩
 rw[hz] at HT hzr hcz
 obtain ⟨hz1,hz2⟩:=hzr
 have hn0:0≤z*gn:=Int.mul_nonneg hz1 hm0
 have hn1:z*gn≤65535*65535:=Int.mul_le_mul hz2 hm1 hm0 (by omega)
 obtain ⟨n,hn⟩:∃n,z*gn=n:=⟨_,rfl⟩
 rw[hn] at HT hn0 hn1
 have hq0:=Int.tdiv_eq_ediv_of_nonneg (b:=256) hn0
 rw[←hq0] at HT
 have hqr:0≤n.tdiv 256∧n.tdiv 256≤4294967296:=by rw[hq0];omega
 obtain ⟨q,hq⟩:∃q,n.tdiv 256=q:=⟨_,rfl⟩
 rw[hq] at HT hqr
 obtain ⟨hq1,hq2⟩:=hqr
 have hq3:n / 256=q:=by rw[←hq0];exact hq
 have hwn:IntKind.i64.wrap n=n:=kp _ (by omega)
 have hwq:IntKind.i64.wrap q=q:=kp _ (by omega)
 clear hq0 hX hY hc hgn hz hk hlen hcell hm km hzs
 have HB:=hide (qUNz w (ka #[.int .i64 X,.int .i64 Y] 97))
 have a1:=al1 w (ka #[.int .i64 X,.int .i64 Y] 97)
 have kh1:=(HB.out.cell (p:=⟨Bh,0,none⟩) hBh).trans kh
 obtain ⟨s0,s1⟩:=bx2 a1
 go_enter Tryz.func266,Tryz.ntmps266
 go_wp2_with fail
 have hl1:=(kd.1 a1).1
 have hB0:=HB
 generalize w.alloc (ka #[.int .i64 X,.int .i64 Y] 97)=U0 at *
 refine (HCO.out _).mono ?_
 rintro e U ⟨rfl,hbU⟩
 replace HB:=hide (HB.out.trans (hbU.mono HB.out.size))
 replace a1:=(hbU.block _ hl1).trans a1
 replace hl1:=(kd.1 a1).1
 go_wp2_with fail
 clear kh1 hbU hB0
 have HS:=hide (show ∀v,Below U.heap.size U v→v.cell? ⟨Bp,2,none⟩=some (.slice (some ⟨bk,off,none⟩) zs.length ca)∧v.cell? ⟨Bg,0,none⟩=some (.int .i64 W)∧v.cell? ⟨Bg,1,none⟩=some (.int .i64 H)∧v.cell? ⟨w.heap.size,0,none⟩=some (.int .i64 X)∧v.cell? ⟨w.heap.size,1,none⟩=some (.int .i64 Y)∧v.cell? ⟨bk,off+j,none⟩=some (.int .i64 z)∧v.cell? ⟨Bm,c,none⟩=some (.int .i64 gn) from fun v h=>by
  have hw:=HB.out.trans (h.mono HB.out.size)
  obtain ⟨y0,y1⟩:=bx2 ((h.block _ hl1).trans a1)
  exact ⟨(hw.cell (p:=⟨Bp,2,none⟩) hBp).trans k2,(hw.cell (p:=⟨Bg,0,none⟩) hBg).trans g0,(hw.cell (p:=⟨Bg,1,none⟩) hBg).trans g1,y0,y1,(hw.cell (p:=⟨bk,off+j,none⟩) hbk).trans hcz,(hw.cell (p:=⟨Bm,c,none⟩) hBm).trans km0⟩)
 have hWd:Below U.heap.size U U.drew:=(Below.refl _ _).drew
 have hSd:=HS.out _ hWd
 clear s0 s1
 have hmx:Tryz.prog.follows .mixedOrders=true:=by kernel_rfl
 refine qYgd (S:=fun v:World=>v.cell? ⟨Bp,2,none⟩=some (.slice (some ⟨bk,off,none⟩) zs.length ca)∧v.cell? ⟨Bg,0,none⟩=some (.int .i64 W)∧v.cell? ⟨Bg,1,none⟩=some (.int .i64 H)∧v.cell? ⟨w.heap.size,0,none⟩=some (.int .i64 X)∧v.cell? ⟨w.heap.size,1,none⟩=some (.int .i64 Y)∧v.cell? ⟨bk,off+j,none⟩=some (.int .i64 z)∧v.cell? ⟨Bm,c,none⟩=some (.int .i64 gn)) (f:=13) hmx ?_
 show jZdv _ _ _ _ _ _ 14 _ _ U.drew
 refine zB2j (i:=0) (oi:=_) (v:=?vv14) (some 18) rfl rfl (by kernel_rfl) (by kernel_rfl) (by kernel_rfl) (by kernel_rfl) (by kernel_rfl) (fun _ _ _ h=>h) (Or.inl ⟨by rfl,?yy14⟩) hSd ?rr14
 case yy14=>(intro wq hSq;obtain ⟨_,_,_,_,_,_,_⟩:=hSq;go_simp<;>with_reducible rfl)
 simp only[kj,kc,kf,ke]
 refine zB2j (i:=2) (oi:=_) (v:=?vv15) (some 20) rfl rfl (by kernel_rfl) (by kernel_rfl) (by kernel_rfl) (by kernel_rfl) (by kernel_rfl) (fun _ _ _ h=>h) (Or.inl ⟨by rfl,?yy15⟩) hSd ?rr15
 case yy15=>(intro wq hSq;obtain ⟨_,_,_,_,_,_,_⟩:=hSq;go_simp<;>with_reducible rfl)
 simp only[kj,kc,kf,ke]
 refine zB2j (i:=3) (oi:=_) (v:=?vv16) (some 21) rfl rfl (by kernel_rfl) (by kernel_rfl) (by kernel_rfl) (by kernel_rfl) (by kernel_rfl) (fun _ _ _ h=>h) (Or.inl ⟨by rfl,?yy16⟩) hSd ?rr16
 case yy16=>(intro wq hSq;obtain ⟨_,_,_,_,_,_,_⟩:=hSq;go_simp<;>with_reducible rfl)
 simp only[kj,kc,kf,ke]
 refine zB2j (i:=7) (oi:=_) (v:=?vv17) (some 25) rfl rfl (by kernel_rfl) (by kernel_rfl) (by kernel_rfl) (by kernel_rfl) (by kernel_rfl) (fun _ _ _ h=>h) (Or.inl ⟨by rfl,?yy17⟩) hSd ?rr17
 case yy17=>(intro wq hSq;obtain ⟨_,_,_,_,_,_,_⟩:=hSq;go_simp<;>with_reducible rfl)
 simp only[kj,kc,kf,ke]
 refine zB2j (i:=1) (oi:=_) (v:=?vv18) (some 19) rfl rfl (by kernel_rfl) (by kernel_rfl) (by kernel_rfl) (by kernel_rfl) (by kernel_rfl) (fun _ _ _ h=>h) (Or.inl ⟨by rfl,?yy18⟩) hSd ?rr18
 case yy18=>(intro wq hSq;obtain ⟨_,_,_,_,_,_,_⟩:=hSq;go_simp<;>with_reducible rfl)
 simp only[kj,kc,kf,ke]
 refine zB2j (i:=8) (oi:=_) (v:=?vv19) (some 26) rfl rfl (by kernel_rfl) (by kernel_rfl) (by kernel_rfl) (by kernel_rfl) (by kernel_rfl) (fun _ _ _ h=>h) (Or.inl ⟨by rfl,?yy19⟩) hSd ?rr19
 case yy19=>(intro wq hSq;obtain ⟨_,_,_,_,_,_,_⟩:=hSq;go_simp<;>with_reducible rfl)
 simp only[kj,kc,kf,ke]
 refine zB2j (i:=9) (oi:=_) (v:=?vv20) (some 27) rfl rfl (by kernel_rfl) (by kernel_rfl) (by kernel_rfl) (by kernel_rfl) (by kernel_rfl) (fun _ _ _ h=>h) (Or.inl ⟨by rfl,?yy20⟩) hSd ?rr20
 case yy20=>(intro wq hSq;obtain ⟨_,_,_,_,_,_,_⟩:=hSq;go_simp<;>with_reducible rfl)
 simp only[kj,kc,kf,ke]
 refine znWj (i:=4) (o:=_) (by kernel_rfl) rfl (fun K' hK=>?_)
 rw[if_pos (by rfl)]
 go_simp
 refine (HIX.out _).mono ?_
 rintro e V1 ⟨rfl,hbv⟩
 have hB1:Below U.heap.size U V1:=hWd.trans (hbv.mono hWd.size)
 have hSd:=HS.out _ hB1
 refine hK.out _ _ hSd ?_
 clear hK
 try simp only[kj]
 refine zB2j (i:=5) (oi:=_) (v:=?vv21) (some 23) rfl rfl (by kernel_rfl) (by kernel_rfl) (by kernel_rfl) (by kernel_rfl) (by kernel_rfl) (fun _ _ _ h=>h) (Or.inl ⟨by rfl,?yy21⟩) hSd ?rr21
 case yy21=>(intro wq hSq;obtain ⟨_,_,_,_,_,_,_⟩:=hSq;go_simp<;>with_reducible rfl)
 simp only[kj,kc,kf,ke]
 refine zB2j (i:=6) (oi:=_) (v:=?vv22) (some 24) rfl rfl (by kernel_rfl) (by kernel_rfl) (by kernel_rfl) (by kernel_rfl) (by kernel_rfl) (fun _ _ _ h=>h) (Or.inl ⟨by rfl,?yy22⟩) hSd ?rr22
 case yy22=>(intro wq hSq;obtain ⟨_,_,_,_,_,_,_⟩:=hSq;go_simp<;>with_reducible rfl)
 simp only[kj,kc,kf,ke]
 refine zB2j (i:=10) (oi:=_) (v:=?vv23) (some 28) rfl rfl (by kernel_rfl) (by kernel_rfl) (by kernel_rfl) (by kernel_rfl) (by kernel_rfl) (fun _ _ _ h=>h) (Or.inl ⟨by rfl,?yy23⟩) hSd ?rr23
 case yy23=>(intro wq hSq;obtain ⟨_,_,_,_,_,_,_⟩:=hSq;go_simp<;>with_reducible rfl)
 simp only[kj,kc,kf,ke]
 refine zB2j (i:=11) (oi:=_) (v:=?vv24) (some 29) rfl rfl (by kernel_rfl) (by kernel_rfl) (by kernel_rfl) (by kernel_rfl) (by kernel_rfl) (fun _ _ _ h=>h) (Or.inl ⟨by rfl,?yy24⟩) hSd ?rr24
 case yy24=>(intro wq hSq;obtain ⟨_,_,_,_,_,_,_⟩:=hSq;go_simp<;>with_reducible rfl)
 simp only[kj,kc,kf,ke]
 refine znWj (i:=12) (o:=_) (by kernel_rfl) rfl (fun K' hK=>?_)
 rw[if_pos (by rfl)]
 go_simp
 refine (Xgzp _ _).mono ?_
 rintro e Vx ⟨rfl,rfl⟩
 have hSd:=hSd
 refine hK.out _ _ hSd ?_
 clear hK
 try simp only[kj]
 refine z9gO (o:=_) (by kernel_rfl) rfl (fun K' hK=>?_)
 rw[if_pos (by rfl)]
 go_simp
 refine hK.out _ _ ?_
 clear hK
 refine jFdp (by kernel_rfl) ?_ _
 try simp only[kj]
 go_wp2
 go_ret
 exact ⟨jx9N HT.out.symm,HB.out.trans (hB1.mono HB.out.size)⟩
theorem XZeB {w:World} {b:Nat} {t:TypeId} {fr:Nat×Nat} {m:Nat→Int} (h:w.heap[b]?=some (.cells (fourA m) t fr)) :
  w.cell? ⟨b,0,none⟩=some (.int .i64 (m 0))∧w.cell? ⟨b,1,none⟩=some (.int .i64 (m 1))∧w.cell? ⟨b,2,none⟩=some (.int .i64 (m 2))∧w.cell? ⟨b,3,none⟩=some (.int .i64 (m 3)) :=
 ⟨by rw[ki h];rfl,by rw[ki h];rfl,by rw[ki h];rfl,by rw[ki h];rfl⟩
def levE (W H:Int) (zs:List Int) (m:Nat→Int) (white:Int):Int:=if q0fM W H zs=true then (if zN6Q m white=true then 0 else 3) else 1
def levL (W:Int) (zs:List Int) (m:Nat→Int) (white:Int):List Int:=(List.range zs.length).map (zBza zs W.toNat m white)
theorem XDBp (W H:Int) (v:Value) (zs:List Int) (m:Nat→Int) (white:Int) (w:World) (hv:jCvT w v zs) :
  Calls Tryz.prog 254 #[.agg #[.int .i64 W,.int .i64 H,v],.agg (fourA m),.int .i64 white] w fun e w'=>∃r,e=.returned (.tuple #[.agg #[.int .i64 (okW (levE W H zs m white) W),.int .i64 (okW (levE W H zs m white) H),r],.int .i64 (levE W H zs m white)])∧jCvT w' r (okL (levE W H zs m white) (levL W zs m white))∧Below w.heap.size w w'∧Fresh w.heap.size r:=by
 have HV:=hide hv
 obtain ⟨E,hE⟩:∃E,levE W H zs m white=E:=⟨_,rfl⟩
 rw[hE]
 by_cases hp:q0fM W H zs=true
 ·by_cases hph:zN6Q m white=true
  ·have he:E=0:=by rw[←hE,levE,if_pos hp,if_pos hph]
   subst he
   clear hE
   obtain ⟨⟨w1,w2⟩,⟨h1,h2⟩,hl,_⟩:=qwcI hp
   have hz:=XAOl hp
   have hph3:=hph
   rw[zN6Q,Bool.and_eq_true] at hph3
   have hph2:1≤white∧white≤65535:=by simpa using hph3.1
   have HMM:=hide (fun k (hk:k<4)=>XL98 hph3.2 k hk)
   have hsm:=zAFj ⟨w1,w2⟩ ⟨h1,h2⟩
   have hn1:1≤zs.length:=by omega
   obtain ⟨bk,off,ca,rfl,hbk,hcell⟩:=hv.cells hn1
   obtain ⟨WN,rfl⟩:=kl (show 0≤W by omega)
   obtain ⟨HN,rfl⟩:=kl (show 0≤H by omega)
   have HLEN:=hide (show zs.length=HN*WN by rw[ks];exact_mod_cast hl)
   have HZ:=hide hz
   have HC:=hide hcell
   rw[show okW 0 (WN:Int)=WN from rfl,show okW 0 (HN:Int)=HN from rfl,show okL 0 (levL (WN:Int) zs m white)=(List.range zs.length).map (zBza zs WN m white) from rfl]
   clear hl hz hcell hsm hv hph3
   go_enter Tryz.func254,Tryz.ntmps254
   go_wp2_with fail
   obtain ⟨a1,a2,a3,a4⟩:=al4 w (ka #[.int .i64 (WN:Nat),.int .i64 (HN:Nat),.slice (some ⟨bk,off,none⟩) zs.length ca] 54) (ka (fourA m) 45) (ka #[.int .i64 white] 3) (ka #[.int .i64 0,.int .i64 0,.slice none 0 0] 54)
   have hB:=be4 w (ka #[.int .i64 (WN:Nat),.int .i64 (HN:Nat),.slice (some ⟨bk,off,none⟩) zs.length ca] 54) (ka (fourA m) 45) (ka #[.int .i64 white] 3) (ka #[.int .i64 0,.int .i64 0,.slice none 0 0] 54)
   have hs3:((((w.alloc (ka #[.int .i64 (WN:Nat),.int .i64 (HN:Nat),.slice (some ⟨bk,off,none⟩) zs.length ca] 54)).alloc (ka (fourA m) 45)).alloc (ka #[.int .i64 white] 3)).alloc (ka #[.int .i64 0,.int .i64 0,.slice none 0 0] 54)).heap.size=w.heap.size+4:=by simp
   generalize (((w.alloc (ka #[.int .i64 (WN:Nat),.int .i64 (HN:Nat),.slice (some ⟨bk,off,none⟩) zs.length ca] 54)).alloc (ka (fourA m) 45)).alloc (ka #[.int .i64 white] 3)).alloc (ka #[.int .i64 0,.int .i64 0,.slice none 0 0] 54)=U at *
   refine (XeC7 WN HN _ zs _ (HV.out.below hB (kk _))).mono ?_
   rintro e w1 ⟨rfl,hb1⟩
   rw[hp]
   have g4:=(hb1.block (w.heap.size+3) (by omega)).trans a4
   obtain ⟨n0,n1,n2,n3⟩:=XZeB ((hb1.block (w.heap.size+1) (by omega)).trans a2)
   have g3:=bx1 ((hb1.block (w.heap.size+1+1) (by omega)).trans a3)
   go_wp2_with fail
   refine (zO8p m white _).mono ?_
   rintro e w2 ⟨rfl,hb2⟩
   rw[hph]
   clear n0 n1 n2 n3 g3
   replace hb2:=quJN hb1 hb2
   replace g4:=(hb2.block (w.heap.size+3) (by omega)).trans a4
   obtain ⟨p0,p1,p2⟩:=z5EY ((hb2.block (w.heap.size) (by omega)).trans a1)
   go_wp2_with fail
   have hbG:=quJN hb2 (qUNz w2 (ka #[.int .i64 (WN:Nat),.int .i64 (HN:Nat)] 95))
   have aG:=al1 w2 (ka #[.int .i64 (WN:Nat),.int .i64 (HN:Nat)] 95)
   have hlG:=(kd.1 aG).1
   have hs2:=hb2.size
   clear p0 p1 p2
   generalize w2.alloc (ka #[.int .i64 (WN:Nat),.int .i64 (HN:Nat)] 95)=w2g at *
   refine (zPMW WN HN zs.length (by omega) (by omega) HLEN.out 256 #[.pointer (some ⟨w.heap.size+1,0,none⟩),.pointer (some ⟨w.heap.size,0,none⟩),.pointer (some ⟨w2.heap.size,0,none⟩),.pointer (some ⟨w.heap.size+1+1,0,none⟩)] (zBza zs WN m white) _ (enters_of Tryz.func256 (by kernel_rfl) rfl) ?_).mono ?_
   ·intro j V hj hV
    have hb3:=quJN hbG hV
    have hbw:=hB.trans (hb3.mono hB.size)
    obtain ⟨e0,e1,e2⟩:=z5EY ((hb3.block (w.heap.size) (by omega)).trans a1)
    have e3:=bx1 ((hb3.block (w.heap.size+2) (by omega)).trans a3)
    have e6:=(hb3.block (w.heap.size+1) (by omega)).trans a2
    obtain ⟨e4,e5⟩:=bx2 ((hV.block w2.heap.size hlG).trans aG)
    have hs:=hb3.size
    have hsV:=hV.size
    exact Xq1h WN HN j bk off ca (by omega) (by omega) (by omega) zs HLEN.out HZ.out hj m white (by omega) (fun k hk=>HMM.out k hk) (w.heap.size+1) w.heap.size w2.heap.size (w.heap.size+2) V (by omega) (by omega) (kq hbk hbw.size) e2 e4 e5 (by omega) (by omega) (fun k hk=>by rw[ki e6,zh9q m k hk]) e3 (fun i hi=>(hbw.cell (p:=⟨bk,off+i,none⟩) hbk).trans (HC.out i hi))
   ·rintro e w3 ⟨r,rfl,hr,hb3,hfr⟩
    replace hb3:=quJN hbG hb3
    replace g4:=(hb3.block (w.heap.size+3) (by omega)).trans a4
    obtain ⟨z0,z1,z2⟩:=z5EY (b:=w.heap.size+1+1+1) g4
    have f0:=kg (b:=w.heap.size+1+1+1) g4 0
    have f1:=kg (b:=w.heap.size+1+1+1) g4 1
    have f2:=kg (b:=w.heap.size+1+1+1) g4 2
    have HR:=hide hr
    obtain ⟨ro,rc,rfl,_,_⟩:=hr
    have HFIN:=hide (zHqh (hB.trans (hb3.mono hB.size)) (show w.heap.size≤w.heap.size+1+1+1 by omega) (.int .i64 (WN:Nat)) (.int .i64 (HN:Nat)) (.slice ro ((List.range zs.length).map (zBza zs WN m white)).length rc))
    have hsG:=hbG.size
    have HPX2:=hide (HR.out.set3 hfr (show w.heap.size+1+1+1<w2g.heap.size by omega) (.int .i64 (WN:Nat)) (.int .i64 (HN:Nat)) (.slice ro ((List.range zs.length).map (zBza zs WN m white)).length rc))
    rw[List.length_map,List.length_range] at HPX2 HFIN hfr
    rw[List.length_map,List.length_range]
    go_wp2
    exact bodyPost_ret (v:=.tuple #[.agg #[.int .i64 (WN:Nat),.int .i64 (HN:Nat),.slice ro zs.length rc],.int .i64 0]) (by simp[results,Tryz.results254,go_sem,z0,z1,z2]) rfl ⟨_,rfl,HPX2.out,HFIN.out,hfr.mono (by omega)⟩
  ·have he:E=3:=by rw[←hE,levE,if_pos hp,if_neg hph]
   have hph:zN6Q m white=false:=by simpa using hph
   subst he
   clear hE
   obtain ⟨ao,ca,rfl,_,_⟩:=hv
   go_enter Tryz.func254,Tryz.ntmps254
   go_wp2_with fail
   obtain ⟨a1,a2,a3,a4⟩:=al4 w (ka #[.int .i64 W,.int .i64 H,.slice ao zs.length ca] 54) (ka (fourA m) 45) (ka #[.int .i64 white] 3) (ka #[.int .i64 0,.int .i64 0,.slice none 0 0] 54)
   have hB:=be4 w (ka #[.int .i64 W,.int .i64 H,.slice ao zs.length ca] 54) (ka (fourA m) 45) (ka #[.int .i64 white] 3) (ka #[.int .i64 0,.int .i64 0,.slice none 0 0] 54)
   have hs3:((((w.alloc (ka #[.int .i64 W,.int .i64 H,.slice ao zs.length ca] 54)).alloc (ka (fourA m) 45)).alloc (ka #[.int .i64 white] 3)).alloc (ka #[.int .i64 0,.int .i64 0,.slice none 0 0] 54)).heap.size=w.heap.size+4:=by simp
   generalize (((w.alloc (ka #[.int .i64 W,.int .i64 H,.slice ao zs.length ca] 54)).alloc (ka (fourA m) 45)).alloc (ka #[.int .i64 white] 3)).alloc (ka #[.int .i64 0,.int .i64 0,.slice none 0 0] 54)=U at *
   refine (XeC7 W H _ zs _ (HV.out.below hB (kk _))).mono ?_
   rintro e w1 ⟨rfl,hb1⟩
   rw[hp]
   have g4:=(hb1.block (w.heap.size+3) (by omega)).trans a4
   obtain ⟨n0,n1,n2,n3⟩:=XZeB ((hb1.block (w.heap.size+1) (by omega)).trans a2)
   have g3:=bx1 ((hb1.block (w.heap.size+1+1) (by omega)).trans a3)
   go_wp2_with fail
   refine (zO8p m white _).mono ?_
   rintro e w2 ⟨rfl,hb2⟩
   rw[hph]
   clear n0 n1 n2 n3 g3
   replace hb2:=quJN hb1 hb2
   replace g4:=(hb2.block (w.heap.size+3) (by omega)).trans a4
   obtain ⟨z0,z1,z2⟩:=z5EY (b:=w.heap.size+1+1+1) g4
   have f0:=kg (b:=w.heap.size+1+1+1) g4 0
   have f1:=kg (b:=w.heap.size+1+1+1) g4 1
   have f2:=kg (b:=w.heap.size+1+1+1) g4 2
   have HFIN:=hide (zHqh (hB.trans (hb2.mono hB.size)) (show w.heap.size≤w.heap.size+1+1+1 by omega) (.int .i64 0) (.int .i64 0) (.slice none 0 0))
   go_wp2
   exact bodyPost_ret (v:=.tuple #[.agg #[.int .i64 0,.int .i64 0,.slice none 0 0],.int .i64 3]) (by simp[results,Tryz.results254,go_sem,z0,z1,z2]) rfl ⟨.slice none 0 0,rfl,jCvT.nil _,HFIN.out,Fresh.nil _⟩
 ·have he:E=1:=by rw[←hE,levE,if_neg hp]
  have hp:q0fM W H zs=false:=by simpa using hp
  subst he
  clear hE
  obtain ⟨ao,ca,rfl,_,_⟩:=hv
  go_enter Tryz.func254,Tryz.ntmps254
  go_wp2_with fail
  obtain ⟨a1,a2,a3,a4⟩:=al4 w (ka #[.int .i64 W,.int .i64 H,.slice ao zs.length ca] 54) (ka (fourA m) 45) (ka #[.int .i64 white] 3) (ka #[.int .i64 0,.int .i64 0,.slice none 0 0] 54)
  have hB:=be4 w (ka #[.int .i64 W,.int .i64 H,.slice ao zs.length ca] 54) (ka (fourA m) 45) (ka #[.int .i64 white] 3) (ka #[.int .i64 0,.int .i64 0,.slice none 0 0] 54)
  have hs3:((((w.alloc (ka #[.int .i64 W,.int .i64 H,.slice ao zs.length ca] 54)).alloc (ka (fourA m) 45)).alloc (ka #[.int .i64 white] 3)).alloc (ka #[.int .i64 0,.int .i64 0,.slice none 0 0] 54)).heap.size=w.heap.size+4:=by simp
  generalize (((w.alloc (ka #[.int .i64 W,.int .i64 H,.slice ao zs.length ca] 54)).alloc (ka (fourA m) 45)).alloc (ka #[.int .i64 white] 3)).alloc (ka #[.int .i64 0,.int .i64 0,.slice none 0 0] 54)=U at *
  refine (XeC7 W H _ zs _ (HV.out.below hB (kk _))).mono ?_
  rintro e w1 ⟨rfl,hb1⟩
  rw[hp]
  have g4:=(hb1.block (w.heap.size+3) (by omega)).trans a4
  generalize w1=w2 at *
  have hb2:=hb1
  obtain ⟨z0,z1,z2⟩:=z5EY (b:=w.heap.size+1+1+1) g4
  have f0:=kg (b:=w.heap.size+1+1+1) g4 0
  have f1:=kg (b:=w.heap.size+1+1+1) g4 1
  have f2:=kg (b:=w.heap.size+1+1+1) g4 2
  have HFIN:=hide (zHqh (hB.trans (hb2.mono hB.size)) (show w.heap.size≤w.heap.size+1+1+1 by omega) (.int .i64 0) (.int .i64 0) (.slice none 0 0))
  go_wp2
  exact bodyPost_ret (v:=.tuple #[.agg #[.int .i64 0,.int .i64 0,.slice none 0 0],.int .i64 1]) (by simp[results,Tryz.results254,go_sem,z0,z1,z2]) rfl ⟨.slice none 0 0,rfl,jCvT.nil _,HFIN.out,Fresh.nil _⟩
def gaiE (W H:Int) (zs:List Int) (phase:Int) (m:Nat→Int):Int:=if q0fM W H zs=true then (if qdne phase=true∧j1E7 m=true then 0 else 3) else 1
def gaiL (W:Int) (zs:List Int) (phase:Int) (m:Nat→Int):List Int:=(List.range zs.length).map (gainV zs W.toNat phase.toNat m)
theorem zHt1 (W H:Int) (v:Value) (zs:List Int) (phase:Int) (m:Nat→Int) (w:World) (hv:jCvT w v zs) :
  Calls Tryz.prog 265 #[.agg #[.int .i64 W,.int .i64 H,v],.int .i64 phase,.agg (qilW m)] w fun e w'=>∃r,e=.returned (.tuple #[.agg #[.int .i64 (okW (gaiE W H zs phase m) W),.int .i64 (okW (gaiE W H zs phase m) H),r],.int .i64 (gaiE W H zs phase m)])∧jCvT w' r (okL (gaiE W H zs phase m) (gaiL W zs phase m))∧Below w.heap.size w w'∧Fresh w.heap.size r:=by
 have HV:=hide hv
 obtain ⟨E,hE⟩:∃E,gaiE W H zs phase m=E:=⟨_,rfl⟩
 rw[hE]
 by_cases hp:q0fM W H zs=true
 ·by_cases hph:qdne phase=true
  ·by_cases hgn:j1E7 m=true
   ·have he:E=0:=by rw[←hE,gaiE,if_pos hp,if_pos ⟨hph,hgn⟩]
    subst he
    clear hE
    obtain ⟨⟨w1,w2⟩,⟨h1,h2⟩,hl,_⟩:=qwcI hp
    have hz:=XAOl hp
    have hph2:0≤phase∧phase≤3:=by simpa [qdne] using hph
    have HMM:=hide (fun k (hk:k<3)=>XL98 hgn k hk)
    have hsm:=zAFj ⟨w1,w2⟩ ⟨h1,h2⟩
    have hn1:1≤zs.length:=by omega
    obtain ⟨bk,off,ca,rfl,hbk,hcell⟩:=hv.cells hn1
    obtain ⟨WN,rfl⟩:=kl (show 0≤W by omega)
    obtain ⟨HN,rfl⟩:=kl (show 0≤H by omega)
    obtain ⟨PN,rfl⟩:=kl hph2.1
    have HLEN:=hide (show zs.length=HN*WN by rw[ks];exact_mod_cast hl)
    have HZ:=hide hz
    have HC:=hide hcell
    rw[show okW 0 (WN:Int)=WN from rfl,show okW 0 (HN:Int)=HN from rfl,show okL 0 (gaiL (WN:Int) zs (PN:Int) m)=(List.range zs.length).map (gainV zs WN PN m) from rfl]
    clear hl hz hcell hsm hv
    go_enter Tryz.func265,Tryz.ntmps265
    go_wp2_with fail
    obtain ⟨a1,a2,a3,a4⟩:=al4 w (ka #[.int .i64 (WN:Nat),.int .i64 (HN:Nat),.slice (some ⟨bk,off,none⟩) zs.length ca] 54) (ka #[.int .i64 (PN:Nat)] 3) (ka (qilW m) 47) (ka #[.int .i64 0,.int .i64 0,.slice none 0 0] 54)
    have hB:=be4 w (ka #[.int .i64 (WN:Nat),.int .i64 (HN:Nat),.slice (some ⟨bk,off,none⟩) zs.length ca] 54) (ka #[.int .i64 (PN:Nat)] 3) (ka (qilW m) 47) (ka #[.int .i64 0,.int .i64 0,.slice none 0 0] 54)
    have hs3:((((w.alloc (ka #[.int .i64 (WN:Nat),.int .i64 (HN:Nat),.slice (some ⟨bk,off,none⟩) zs.length ca] 54)).alloc (ka #[.int .i64 (PN:Nat)] 3)).alloc (ka (qilW m) 47)).alloc (ka #[.int .i64 0,.int .i64 0,.slice none 0 0] 54)).heap.size=w.heap.size+4:=by simp
    generalize (((w.alloc (ka #[.int .i64 (WN:Nat),.int .i64 (HN:Nat),.slice (some ⟨bk,off,none⟩) zs.length ca] 54)).alloc (ka #[.int .i64 (PN:Nat)] 3)).alloc (ka (qilW m) 47)).alloc (ka #[.int .i64 0,.int .i64 0,.slice none 0 0] 54)=U at *
    refine (XeC7 WN HN _ zs _ (HV.out.below hB (kk _))).mono ?_
    rintro e w1 ⟨rfl,hb1⟩
    rw[hp]
    have g4:=(hb1.block (w.heap.size+3) (by omega)).trans a4
    have g2:=bx1 ((hb1.block (w.heap.size+1) (by omega)).trans a2)
    go_wp2_with fail
    refine (qtgz _ _).mono ?_
    rintro e w2 ⟨rfl,hb2⟩
    rw[hph]
    clear g2
    replace hb2:=quJN hb1 hb2
    replace g4:=(hb2.block (w.heap.size+3) (by omega)).trans a4
    obtain ⟨n0,n1,n2⟩:=z5EY (b:=w.heap.size+1+1) ((hb2.block (w.heap.size+2) (by omega)).trans a3)
    go_wp2_with fail
    refine (XByj m _).mono ?_
    rintro e w2b ⟨rfl,hb2b⟩
    rw[hgn]
    clear n0 n1 n2
    replace hb2:=quJN hb2 hb2b
    clear hb2b
    generalize w2b=w2 at *
    replace g4:=(hb2.block (w.heap.size+3) (by omega)).trans a4
    obtain ⟨p0,p1,p2⟩:=z5EY ((hb2.block (w.heap.size) (by omega)).trans a1)
    go_wp2_with fail
    have hbG:=quJN hb2 (qUNz w2 (ka #[.int .i64 (WN:Nat),.int .i64 (HN:Nat)] 95))
    have aG:=al1 w2 (ka #[.int .i64 (WN:Nat),.int .i64 (HN:Nat)] 95)
    have hlG:=(kd.1 aG).1
    have hs2:=hb2.size
    clear p0 p1 p2
    generalize w2.alloc (ka #[.int .i64 (WN:Nat),.int .i64 (HN:Nat)] 95)=w2g at *
    refine (zPMW WN HN zs.length (by omega) (by omega) HLEN.out 266 #[.pointer (some ⟨w.heap.size+1,0,none⟩),.pointer (some ⟨w.heap.size,0,none⟩),.pointer (some ⟨w2.heap.size,0,none⟩),.pointer (some ⟨w.heap.size+1+1,0,none⟩)] (gainV zs WN PN m) _ (enters_of Tryz.func266 (by kernel_rfl) rfl) ?_).mono ?_
    ·intro j V hj hV
     have hb3:=quJN hbG hV
     have hbw:=hB.trans (hb3.mono hB.size)
     obtain ⟨e0,e1,e2⟩:=z5EY ((hb3.block (w.heap.size) (by omega)).trans a1)
     have e3:=bx1 ((hb3.block (w.heap.size+1) (by omega)).trans a2)
     have e6:=(hb3.block (w.heap.size+2) (by omega)).trans a3
     obtain ⟨e4,e5⟩:=bx2 ((hV.block w2.heap.size hlG).trans aG)
     have hs:=hb3.size
     have hsV:=hV.size
     exact zrmA WN HN j bk off ca (by omega) (by omega) (by omega) zs HLEN.out HZ.out hj PN (by omega) m (fun k hk=>HMM.out k hk) (w.heap.size+1) w.heap.size w2.heap.size (w.heap.size+2) V (by omega) (by omega) (kq hbk hbw.size) e2 e4 e5 (by omega) (by omega) e3 (fun k hk=>by rw[ki e6,jscf m k hk]) (fun i hi=>(hbw.cell (p:=⟨bk,off+i,none⟩) hbk).trans (HC.out i hi))
    ·rintro e w3 ⟨r,rfl,hr,hb3,hfr⟩
     replace hb3:=quJN hbG hb3
     replace g4:=(hb3.block (w.heap.size+3) (by omega)).trans a4
     obtain ⟨z0,z1,z2⟩:=z5EY (b:=w.heap.size+1+1+1) g4
     have f0:=kg (b:=w.heap.size+1+1+1) g4 0
     have f1:=kg (b:=w.heap.size+1+1+1) g4 1
     have f2:=kg (b:=w.heap.size+1+1+1) g4 2
     have HR:=hide hr
     obtain ⟨ro,rc,rfl,_,_⟩:=hr
     have HFIN:=hide (zHqh (hB.trans (hb3.mono hB.size)) (show w.heap.size≤w.heap.size+1+1+1 by omega) (.int .i64 (WN:Nat)) (.int .i64 (HN:Nat)) (.slice ro ((List.range zs.length).map (gainV zs WN PN m)).length rc))
     have hsG:=hbG.size
     have HPX2:=hide (HR.out.set3 hfr (show w.heap.size+1+1+1<w2g.heap.size by omega) (.int .i64 (WN:Nat)) (.int .i64 (HN:Nat)) (.slice ro ((List.range zs.length).map (gainV zs WN PN m)).length rc))
     rw[List.length_map,List.length_range] at HPX2 HFIN hfr
     rw[List.length_map,List.length_range]
     go_wp2
     exact bodyPost_ret (v:=.tuple #[.agg #[.int .i64 (WN:Nat),.int .i64 (HN:Nat),.slice ro zs.length rc],.int .i64 0]) (by simp[results,Tryz.results265,go_sem,z0,z1,z2]) rfl ⟨_,rfl,HPX2.out,HFIN.out,hfr.mono (by omega)⟩
   ·have he:E=3:=by rw[←hE,gaiE,if_pos hp,if_neg (fun h=>hgn h.2)]
    have hgn:j1E7 m=false:=by simpa using hgn
    subst he
    clear hE
    obtain ⟨ao,ca,rfl,_,_⟩:=hv
    go_enter Tryz.func265,Tryz.ntmps265
    go_wp2_with fail
    obtain ⟨a1,a2,a3,a4⟩:=al4 w (ka #[.int .i64 W,.int .i64 H,.slice ao zs.length ca] 54) (ka #[.int .i64 phase] 3) (ka (qilW m) 47) (ka #[.int .i64 0,.int .i64 0,.slice none 0 0] 54)
    have hB:=be4 w (ka #[.int .i64 W,.int .i64 H,.slice ao zs.length ca] 54) (ka #[.int .i64 phase] 3) (ka (qilW m) 47) (ka #[.int .i64 0,.int .i64 0,.slice none 0 0] 54)
    have hs3:((((w.alloc (ka #[.int .i64 W,.int .i64 H,.slice ao zs.length ca] 54)).alloc (ka #[.int .i64 phase] 3)).alloc (ka (qilW m) 47)).alloc (ka #[.int .i64 0,.int .i64 0,.slice none 0 0] 54)).heap.size=w.heap.size+4:=by simp
    generalize (((w.alloc (ka #[.int .i64 W,.int .i64 H,.slice ao zs.length ca] 54)).alloc (ka #[.int .i64 phase] 3)).alloc (ka (qilW m) 47)).alloc (ka #[.int .i64 0,.int .i64 0,.slice none 0 0] 54)=U at *
    refine (XeC7 W H _ zs _ (HV.out.below hB (kk _))).mono ?_
    rintro e w1 ⟨rfl,hb1⟩
    rw[hp]
    have g4:=(hb1.block (w.heap.size+3) (by omega)).trans a4
    have g2:=bx1 ((hb1.block (w.heap.size+1) (by omega)).trans a2)
    go_wp2_with fail
    refine (qtgz _ _).mono ?_
    rintro e w2 ⟨rfl,hb2⟩
    rw[hph]
    clear g2
    replace hb2:=quJN hb1 hb2
    replace g4:=(hb2.block (w.heap.size+3) (by omega)).trans a4
    obtain ⟨n0,n1,n2⟩:=z5EY (b:=w.heap.size+1+1) ((hb2.block (w.heap.size+2) (by omega)).trans a3)
    go_wp2_with fail
    refine (XByj m _).mono ?_
    rintro e w2b ⟨rfl,hb2b⟩
    rw[hgn]
    clear n0 n1 n2
    replace hb2:=quJN hb2 hb2b
    clear hb2b
    generalize w2b=w2 at *
    replace g4:=(hb2.block (w.heap.size+3) (by omega)).trans a4
    obtain ⟨z0,z1,z2⟩:=z5EY (b:=w.heap.size+1+1+1) g4
    have f0:=kg (b:=w.heap.size+1+1+1) g4 0
    have f1:=kg (b:=w.heap.size+1+1+1) g4 1
    have f2:=kg (b:=w.heap.size+1+1+1) g4 2
    have HFIN:=hide (zHqh (hB.trans (hb2.mono hB.size)) (show w.heap.size≤w.heap.size+1+1+1 by omega) (.int .i64 0) (.int .i64 0) (.slice none 0 0))
    go_wp2
    exact bodyPost_ret (v:=.tuple #[.agg #[.int .i64 0,.int .i64 0,.slice none 0 0],.int .i64 3]) (by simp[results,Tryz.results265,go_sem,z0,z1,z2]) rfl ⟨.slice none 0 0,rfl,jCvT.nil _,HFIN.out,Fresh.nil _⟩
  ·have he:E=3:=by rw[←hE,gaiE,if_pos hp,if_neg (fun h=>hph h.1)]
   have hph:qdne phase=false:=by simpa using hph
   subst he
   clear hE
   obtain ⟨ao,ca,rfl,_,_⟩:=hv
   go_enter Tryz.func265,Tryz.ntmps265
   go_wp2_with fail
   obtain ⟨a1,a2,a3,a4⟩:=al4 w (ka #[.int .i64 W,.int .i64 H,.slice ao zs.length ca] 54) (ka #[.int .i64 phase] 3) (ka (qilW m) 47) (ka #[.int .i64 0,.int .i64 0,.slice none 0 0] 54)
   have hB:=be4 w (ka #[.int .i64 W,.int .i64 H,.slice ao zs.length ca] 54) (ka #[.int .i64 phase] 3) (ka (qilW m) 47) (ka #[.int .i64 0,.int .i64 0,.slice none 0 0] 54)
   have hs3:((((w.alloc (ka #[.int .i64 W,.int .i64 H,.slice ao zs.length ca] 54)).alloc (ka #[.int .i64 phase] 3)).alloc (ka (qilW m) 47)).alloc (ka #[.int .i64 0,.int .i64 0,.slice none 0 0] 54)).heap.size=w.heap.size+4:=by simp
   generalize (((w.alloc (ka #[.int .i64 W,.int .i64 H,.slice ao zs.length ca] 54)).alloc (ka #[.int .i64 phase] 3)).alloc (ka (qilW m) 47)).alloc (ka #[.int .i64 0,.int .i64 0,.slice none 0 0] 54)=U at *
   refine (XeC7 W H _ zs _ (HV.out.below hB (kk _))).mono ?_
   rintro e w1 ⟨rfl,hb1⟩
   rw[hp]
   have g4:=(hb1.block (w.heap.size+3) (by omega)).trans a4
   have g2:=bx1 ((hb1.block (w.heap.size+1) (by omega)).trans a2)
   go_wp2_with fail
   refine (qtgz _ _).mono ?_
   rintro e w2 ⟨rfl,hb2⟩
   rw[hph]
   clear g2
   replace hb2:=quJN hb1 hb2
   replace g4:=(hb2.block (w.heap.size+3) (by omega)).trans a4
   obtain ⟨z0,z1,z2⟩:=z5EY (b:=w.heap.size+1+1+1) g4
   have f0:=kg (b:=w.heap.size+1+1+1) g4 0
   have f1:=kg (b:=w.heap.size+1+1+1) g4 1
   have f2:=kg (b:=w.heap.size+1+1+1) g4 2
   have HFIN:=hide (zHqh (hB.trans (hb2.mono hB.size)) (show w.heap.size≤w.heap.size+1+1+1 by omega) (.int .i64 0) (.int .i64 0) (.slice none 0 0))
   go_wp2
   exact bodyPost_ret (v:=.tuple #[.agg #[.int .i64 0,.int .i64 0,.slice none 0 0],.int .i64 3]) (by simp[results,Tryz.results265,go_sem,z0,z1,z2]) rfl ⟨.slice none 0 0,rfl,jCvT.nil _,HFIN.out,Fresh.nil _⟩
 ·have he:E=1:=by rw[←hE,gaiE,if_neg hp]
  have hp:q0fM W H zs=false:=by simpa using hp
  subst he
  clear hE
  obtain ⟨ao,ca,rfl,_,_⟩:=hv
  go_enter Tryz.func265,Tryz.ntmps265
  go_wp2_with fail
  obtain ⟨a1,a2,a3,a4⟩:=al4 w (ka #[.int .i64 W,.int .i64 H,.slice ao zs.length ca] 54) (ka #[.int .i64 phase] 3) (ka (qilW m) 47) (ka #[.int .i64 0,.int .i64 0,.slice none 0 0] 54)
  have hB:=be4 w (ka #[.int .i64 W,.int .i64 H,.slice ao zs.length ca] 54) (ka #[.int .i64 phase] 3) (ka (qilW m) 47) (ka #[.int .i64 0,.int .i64 0,.slice none 0 0] 54)
  have hs3:((((w.alloc (ka #[.int .i64 W,.int .i64 H,.slice ao zs.length ca] 54)).alloc (ka #[.int .i64 phase] 3)).alloc (ka (qilW m) 47)).alloc (ka #[.int .i64 0,.int .i64 0,.slice none 0 0] 54)).heap.size=w.heap.size+4:=by simp
  generalize (((w.alloc (ka #[.int .i64 W,.int .i64 H,.slice ao zs.length ca] 54)).alloc (ka #[.int .i64 phase] 3)).alloc (ka (qilW m) 47)).alloc (ka #[.int .i64 0,.int .i64 0,.slice none 0 0] 54)=U at *
  refine (XeC7 W H _ zs _ (HV.out.below hB (kk _))).mono ?_
  rintro e w1 ⟨rfl,hb1⟩
  rw[hp]
  have g4:=(hb1.block (w.heap.size+3) (by omega)).trans a4
  generalize w1=w2 at *
  have hb2:=hb1
  obtain ⟨z0,z1,z2⟩:=z5EY (b:=w.heap.size+1+1+1) g4
  have f0:=kg (b:=w.heap.size+1+1+1) g4 0
  have f1:=kg (b:=w.heap.size+1+1+1) g4 1
  have f2:=kg (b:=w.heap.size+1+1+1) g4 2
  have HFIN:=hide (zHqh (hB.trans (hb2.mono hB.size)) (show w.heap.size≤w.heap.size+1+1+1 by omega) (.int .i64 0) (.int .i64 0) (.slice none 0 0))
  go_wp2
  exact bodyPost_ret (v:=.tuple #[.agg #[.int .i64 0,.int .i64 0,.slice none 0 0],.int .i64 1]) (by simp[results,Tryz.results265,go_sem,z0,z1,z2]) rfl ⟨.slice none 0 0,rfl,jCvT.nil _,HFIN.out,Fresh.nil _⟩
end Go.Proofs.YtfjeonehdlphiaaGreatDoor
namespace Go.Proofs.YtfjeonehdlphiaaGreatDoor
open Go.RowKit Go.Shelf
attribute [local go_sem] Oper.semAt_some
def crDx (k:Nat):Int:=if k=1 then -2 else if k=2 then 2 else 0
def crDy (k:Nat):Int:=if k=0 then -2 else if k=3 then 2 else 0
def crX (X:Nat) (x:Fin 4):Int:=(X:Int)+crDx x.1
def crY (Y:Nat) (x:Fin 4):Int:=(Y:Int)+crDy x.1
theorem cr0 (w:World):(Instr.index 296 (.agg #[.int .i64 0,.int .i64 (-2),.int .i64 (-2),.int .i64 0,.int .i64 2,.int .i64 0,.int .i64 0,.int .i64 2]) (.int .i64 0)).run Tryz.prog w=.ok (.agg #[.int .i64 0,.int .i64 (-2)]) w:=by kernel_rfl
theorem cr1 (w:World):(Instr.index 296 (.agg #[.int .i64 0,.int .i64 (-2),.int .i64 (-2),.int .i64 0,.int .i64 2,.int .i64 0,.int .i64 0,.int .i64 2]) (.int .i64 1)).run Tryz.prog w=.ok (.agg #[.int .i64 (-2),.int .i64 0]) w:=by kernel_rfl
theorem cr2 (w:World):(Instr.index 296 (.agg #[.int .i64 0,.int .i64 (-2),.int .i64 (-2),.int .i64 0,.int .i64 2,.int .i64 0,.int .i64 0,.int .i64 2]) (.int .i64 2)).run Tryz.prog w=.ok (.agg #[.int .i64 2,.int .i64 0]) w:=by kernel_rfl
theorem cr3 (w:World):(Instr.index 296 (.agg #[.int .i64 0,.int .i64 (-2),.int .i64 (-2),.int .i64 0,.int .i64 2,.int .i64 0,.int .i64 0,.int .i64 2]) (.int .i64 3)).run Tryz.prog w=.ok (.agg #[.int .i64 0,.int .i64 2]) w:=by kernel_rfl
theorem crAt (k:Nat) (hk:k<4) (w:World):(Instr.index 296 (.agg #[.int .i64 0,.int .i64 (-2),.int .i64 (-2),.int .i64 0,.int .i64 2,.int .i64 0,.int .i64 0,.int .i64 2]) (.int .i64 k)).run Tryz.prog w=.ok (.agg #[.int .i64 (crDx k),.int .i64 (crDy k)]) w:=by
 rcases (show k=0∨k=1∨k=2∨k=3 by omega) with rfl|rfl|rfl|rfl
 ·exact cr0 w
 ·exact cr1 w
 ·exact cr2 w
 ·exact cr3 w
theorem XGF8 (k:Nat):-2≤crDx k∧crDx k≤2:=by unfold crDx;split<;>(try split)<;>omega
theorem zVs0 (k:Nat):-2≤crDy k∧crDy k≤2:=by unfold crDy;split<;>(try split)<;>omega
theorem jDQt (F:Fence) (n:Nat) (hf:F.fn 262) (hro:F.round=none) (X Y far:Int) (w:World) :
  CallsIn F n Tryz.prog 262 #[.agg #[.int .i64 X,.int .i64 Y],.int .i64 far] w fun e w'=>e=.returned (.func (.func 263) #[] #[.pointer (some ⟨w.heap.size+1,0,none⟩),.pointer (some ⟨w.heap.size,0,none⟩)])∧w'=(w.alloc (.cells #[.int .i64 X,.int .i64 Y] 97)).alloc (.cells #[.int .i64 far] 3):=by
 refine callsIn_of_wp Tryz.func262 rfl hf ?_ hro
 simp only[Tryz.ntmps262,List.size_toArray,List.length_cons,List.length_nil,Nat.reduceAdd,Nat.reduceSub,Array.replicate_succ,Array.replicate_zero,List.push_toArray,List.append_toArray,List.nil_append,List.cons_append]
 gi_wp2
 go_ret
 exact ⟨rfl,rfl⟩
theorem zJ2U (F:Fence) (n:Nat) (hf:F.fn 263) (hro:F.round=none) (hn:1≤n) (l Bs Bf X Y:Nat) (hX:X≤64) (hY0:Y≤64) (J Jx:List (Fin 4)→World→Prop) (hJa:∀s W o,J s W→J s (W.alloc o))
  (hY:∀pre (x:Fin 4) V,J pre V→pre.length<4→YieldAt F (n-1) Tryz.prog l #[.agg #[.int .i64 (crX X x),.int .i64 (crY Y x)]] V fun e V' =>
   (e=.returned (.bool true)∧J (pre++[x]) V'∧KeepB Bs V V')∨(e=.returned (.bool false)∧Jx (pre++[x]) V'))
  (V:World) (hcf:V.cell? ⟨Bf,0,none⟩=some (.int .i64 2)) (hc0:V.cell? ⟨Bs,0,none⟩=some (.int .i64 X)) (hc1:V.cell? ⟨Bs,1,none⟩=some (.int .i64 Y)) (h0:J [] V) :
  CallsIn F n Tryz.prog 263 #[.func (.yield l) #[] #[],.pointer (some ⟨Bf,0,none⟩),.pointer (some ⟨Bs,0,none⟩)] V fun e V'=>(∃v,e=.returned v) ∧
   ((∃ys,ys=List.finRange 4∧J ys V')∨(∃pre,pre <+: List.finRange 4∧Jx pre V')):=by
 refine callsIn_of_wp Tryz.func263 rfl hf ?_ hro
 simp only[Tryz.ntmps263,List.size_toArray,List.length_cons,List.length_nil,Nat.reduceAdd,Nat.reduceSub,Array.replicate_succ,Array.replicate_zero,List.push_toArray,List.append_toArray,List.nil_append,List.cons_append]
 gi_wp2
 gi_loopw [17] (fun i wr=>∃(b:Nat),b≤4∧i=.int .i64 b∧J (idx 4 b) wr∧wr.cell? ⟨Bs,0,none⟩=some (.int .i64 X)∧wr.cell? ⟨Bs,1,none⟩=some (.int .i64 Y)) (fun i _=>4-(intOf i).toNat)
 case atStart=>exact ⟨0,by omega,rfl,h0,hc0,hc1⟩
 case round =>
  obtain ⟨b,hb,rfl,hJ,c0,c1⟩:=hrel
  clear hc0 hc1 h0 hcf
  have hbs:Bs<wr.heap.size:=World.block_lt_of_cell? wr _ c0
  by_cases hlt:b<4
  ·have hd:decide ((b:Int)<4)=true:=by simp;omega
   have hix:=crAt b hlt
   have hdx:=XGF8 b
   have hdy:=zVs0 b
   have hYx:=hY (idx 4 b) ⟨b,hlt⟩ (wr.alloc (ka #[.int .i64 (crDx b),.int .i64 (crDy b)] 97)) (hJa _ _ _ hJ) (by rw[zBZc _ _ (Nat.le_of_lt hlt)];exact hlt)
   simp only[crX,crY] at hYx
   have k0:=(World.cell?_of_block (a:=⟨Bs,0,none⟩) (Below.heap_alloc wr (ka #[.int .i64 (crDx b),.int .i64 (crDy b)] 97) Bs hbs)).trans c0
   have k1:=(World.cell?_of_block (a:=⟨Bs,1,none⟩) (Below.heap_alloc wr (ka #[.int .i64 (crDx b),.int .i64 (crDy b)] 97) Bs hbs)).trans c1
   have HSP:=hide (show idx 4 (b+1)=idx 4 b++[⟨b,hlt⟩] from zbJt 4 b hlt)
   have HPR:=hide (show idx 4 b++[⟨b,hlt⟩] <+: List.finRange 4 by rw[←zbJt 4 _ hlt];exact zq3o 4 _)
   obtain ⟨dx,hdxe⟩:∃dx,crDx b=dx:=⟨_,rfl⟩
   obtain ⟨dy,hdye⟩:∃dy,crDy b=dy:=⟨_,rfl⟩
   rw[hdxe] at hix hdx hYx k0 k1
   rw[hdye] at hix hdy hYx k0 k1
   obtain ⟨hdx1,hdx2⟩:=hdx
   obtain ⟨hdy1,hdy2⟩:=hdy
   obtain ⟨fn,tmps,assign,body,hy',hR⟩:=hYx
   clear hdxe hdye
   gi_wp2
   refine hR.mono ?_
   rintro e V3 (⟨rfl,hJ3,hk3⟩|⟨rfl,hJx3⟩)
   ·have c3:=(World.cell?_of_block (a:=⟨Bs,0,none⟩) hk3).trans k0
    have c4:=(World.cell?_of_block (a:=⟨Bs,1,none⟩) hk3).trans k1
    rw[←HSP.out] at hJ3
    gi_wp2
    go_roundw
    case rel=>exact ⟨b+1,by omega,by go_num,hJ3,c3,c4⟩
    case measure=>simp[intOf];omega
   ·gi_wp2
    refine bodyPost_ret (results_none rfl _ _ _) rfl ?_
    exact ⟨⟨_,rfl⟩,.inr ⟨_,HPR.out,hJx3⟩⟩
  ·obtain rfl:b=4:=by omega
   have hd:decide (((4:Nat):Int)<4)=false:=by simp
   gi_wp2
   go_end0
   exact ⟨⟨_,rfl⟩,.inl ⟨_,by rw[←jEoj],hJ⟩⟩
theorem X0rh (F:Fence) (n:Nat) (hf:F.fn 263) (hro:F.round=none) (hn:1≤n) (Bs Bf X Y:Nat) (hX:X≤64) (hY0:Y≤64) (w:World) (hBw:Bs<w.heap.size) (hBf:Bf<w.heap.size) (hcf:w.cell? ⟨Bf,0,none⟩=some (.int .i64 2))
  (hc0:w.cell? ⟨Bs,0,none⟩=some (.int .i64 X)) (hc1:w.cell? ⟨Bs,1,none⟩=some (.int .i64 Y)) :
  SeqStopsK F n Tryz.prog 263 #[.pointer (some ⟨Bf,0,none⟩),.pointer (some ⟨Bs,0,none⟩)] (fun x:Fin 4=>#[Value.agg #[.int .i64 (crX X x),.int .i64 (crY Y x)]]) (KeepB Bs) (fun ys=>ys=List.finRange 4) (fun pre=>pre <+: List.finRange 4) 4 w:=fun l J Jx V hV hJ _ hY h0 =>
 zJ2U F n hf hro hn l Bs Bf X Y hX hY0 J Jx (fun s W o h=>hJ s W (W.alloc o) none h (World.grownBy_alloc W o none) (fun r e=>by cases e)) hY V ((hV.cell (p:=⟨Bf,0,none⟩) hBf).trans hcf) ((hV.cell (p:=⟨Bs,0,none⟩) hBw).trans hc0) ((hV.cell (p:=⟨Bs,1,none⟩) hBw).trans hc1) h0
end Go.Proofs.YtfjeonehdlphiaaGreatDoor
