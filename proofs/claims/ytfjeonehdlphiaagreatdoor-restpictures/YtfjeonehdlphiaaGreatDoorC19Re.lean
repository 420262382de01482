/- Re: part 19 of what the proofs need. -/
import Derived.Test.YtfjeonehdlphiaaGreatDoorC2Re
import Derived.Test.YtfjeonehdlphiaaGreatDoorC4Re
import Derived.Test.YtfjeonehdlphiaaGreatDoorC5Re
import Derived.Test.YtfjeonehdlphiaaGreatDoorC6Re
import Derived.Deep.AppendLies
open Go.Obj renaming cells → ka
open Array renaming getElem?_eq_some_iff → kb
open Go.Lib renaming frozen_of_heap → kc, cell_of_heap → kd
open Nat renaming le_refl → ke, le_trans → kk, mul_comm → kn
open List renaming getElem?_eq_getElem → kg, getD_eq_getElem?_getD → km
open Int renaming eq_ofNat_of_zero_le → kh
open Go.AllReadyH renaming cons → ki, nil → kj
open Go.RowKit.Below renaming heap_setCell → kl
set_option linter.unusedVariables false
set_option maxHeartbeats 1600000
set_option maxRecDepth 100000
namespace Go.Proofs.YtfjeonehdlphiaaGreatDoor
open Go.RowKit Go.Shelf
attribute [local go_sem] Oper.semAt_some
theorem KeepB.trans' {Bg:Nat} {A B C:World} (h:KeepB Bg A B) (k:KeepB Bg B C):KeepB Bg A C:=Eq.trans k h
theorem qMCQ {Bg l:Nat} {X:World} {o:Obj} (h:Bg≠l):KeepB Bg X (X.putObj l o):=by
 show (X.putObj l o).heap[Bg]?=X.heap[Bg]?
 unfold World.putObj
 simp[Ne.symm h]
theorem XpIb {B:Nat} {a w:World} (h:Below B a w):Below B a w.drew:=h.drew
theorem jIfE (F:Fence) (n:Nat) (hf:F.fn 102) (hro:F.round=none) (W H:Int) (w:World) :
  CallsIn F n Tryz.prog 102 #[.agg #[.int .i64 W,.int .i64 H]] w fun e w'=>e=.returned (.func (.func 154) #[] #[.pointer (some ⟨w.heap.size,0,none⟩)])∧w'=w.alloc (.cells #[.int .i64 W,.int .i64 H] 95):=by
 refine callsIn_of_wp Tryz.func102 rfl hf ?_ hro
 simp only[Tryz.ntmps102,List.size_toArray,List.length_cons,List.length_nil,Nat.reduceAdd,Nat.reduceSub,Array.replicate_succ,Array.replicate_zero,List.push_toArray,List.append_toArray,List.nil_append,List.cons_append]
 gi_wp2
 go_ret
 exact ⟨rfl,rfl⟩
theorem joPr (F:Fence) (n:Nat) (hf:F.fn 154) (hro:F.round=none) (hn:1≤n) (Bg W H N:Nat) (hW:W≤64) (hH:H≤64) (hN:N=H*W) (w:World) (hBw:Bg<w.heap.size)
  (hc0:w.cell? ⟨Bg,0,none⟩=some (.int .i64 W)) (hc1:w.cell? ⟨Bg,1,none⟩=some (.int .i64 H)) :
  SeqStopsK F n Tryz.prog 154 #[.pointer (some ⟨Bg,0,none⟩)] (fun x:Fin N=>#[Value.agg #[.int .i64 (x.1 % W:Nat),.int .i64 (x.1 / W:Nat)]]) (KeepB Bg) (fun ys=>ys=List.finRange N) (fun pre=>pre <+: List.finRange N) N w:=fun l J Jx V hV _ _ hY h0 =>
 j95T F n hf hro hn l Bg W H N hW hH hN J Jx hY V ((hV.cell (p:=⟨Bg,0,none⟩) hBw).trans hc0) ((hV.cell (p:=⟨Bg,1,none⟩) hBw).trans hc1) h0
end Go.Proofs.YtfjeonehdlphiaaGreatDoor
namespace Go.Proofs.YtfjeonehdlphiaaGreatDoor
open Go.RowKit
theorem qYYy {V:World} {base:Nat} {et:TypeId} {sz:Nat} {v:Value} {n:Nat} {xs:List Value} (h:V.ownsRow base et sz v n xs) {b:Nat} {cs:Array Value} {t:TypeId} {fr:Nat×Nat} (hb:V.heap[b]?=some (.cells cs t fr)) (ht:t≠et):some b≠v.ownBlock:=by
 rcases h.2 with ⟨hv,_⟩|⟨g,cap,cur,hv,_,hg,_⟩
 ·rw[hv];simp[Value.ownBlock]
 ·rw[hv]
  simp only[Value.ownBlock]
  intro e
  simp only[Option.some.injEq] at e
  subst e
  rw[hb] at hg
  simp only[Option.some.injEq,ka.injEq] at hg
  exact ht hg.2.1
theorem jlft {V:World} {base:Nat} {et:TypeId} {sz:Nat} {v:Value} {n:Nat} {xs:List Value} (h:V.ownsRow base et sz v n xs) {b:Nat} {o:Obj} (hb:V.heap[b]?=some o) (ho:o.isCells=false):some b≠v.ownBlock:=by
 rcases h.2 with ⟨hv,_⟩|⟨g,cap,cur,hv,_,hg,_⟩
 ·rw[hv];simp[Value.ownBlock]
 ·rw[hv]
  simp only[Value.ownBlock]
  intro e
  simp only[Option.some.injEq] at e
  subst e
  rw[hb] at hg
  cases hg
  simp[Obj.isCells] at ho
theorem XPKi {w:World} {base:Nat} {e:TypeId} {sz:Nat} {v:Value} {n:Nat} {xs:List Value} (h:w.ownsRow base e sz v n xs):∃ao cap,v=.slice ao n cap:=by
 rcases h.2 with ⟨hv,hn⟩|⟨g,cap,cur,hv,_⟩
 ·exact ⟨none,0,by rw[hv,hn]⟩
 ·exact ⟨_,_,hv⟩
theorem qU4N {ops:Array Oper} (h:(ops.toList.all fun o=>match o.op with | .defer _=>false|_=>true)=true):jj84 ops:=by
 intro i o ho c hc
 have hm:o∈ops.toList:=by
  rw[←Array.getElem?_toList] at ho
  exact List.mem_of_getElem? ho
 have:=List.all_eq_true.1 h o hm
 rw[hc] at this
 cases this
theorem qLYA {B:Nat} {X Y:World} {row:Option Nat} (hg:X.grownBy Y row) (hr:∀r,row=some r→B≤r∧∃o:Obj,X.heap[r]?=some o∧o.isCells=false) {b:Nat} {cs:Array Value} {t:TypeId} {fr:Nat×Nat} (h:X.heap[b]?=some (.cells cs t fr)):Y.heap[b]?=some (.cells cs t fr):=by
 refine (hg.block b (kb.1 h).1 (fun e=>?_)).trans h
 obtain ⟨_,o,ho,hc⟩:=hr b e.symm
 rw[h] at ho;cases ho;cases hc
theorem jg0p {B:Nat} {X Y:World} {row:Option Nat} (hg:X.grownBy Y row) (hr:∀r,row=some r→B≤r∧∃o:Obj,X.heap[r]?=some o∧o.isCells=false) {base:Nat} {et:TypeId} {sz:Nat} {v:Value} {n:Nat} {xs:List Value} (h:X.ownsRow base et sz v n xs):Y.ownsRow base et sz v n xs:=by
 refine h.kept hg ?_
 by_cases hv:v.ownBlock=none
 ·exact .inl hv
 ·refine .inr fun e=>?_
  cases hrow:row with
  | none=>rw[hrow] at e;exact hv e
  | some r =>
   obtain ⟨_,o,ho,hc⟩:=hr r hrow
   exact jlft h ho hc (by rw[e,hrow])
theorem XXqf {et ct ft gt xt:TypeId} {sz:Nat} (ce:ct≠et) (fe:ft≠et) (ge:gt≠et) (xe:xt≠et) (cf:ct≠ft) (cg:ct≠gt) (cx:ct≠xt)
  {W' V1 w1 w:World} {base PB Bt Br Bx Bg B0:Nat} {W H:Int} {so:Option Addr} {scap n g cap:Nat} {fn x0 x1:Value} {es:Array Value} {xs:List Value}
  (i1:W'.heap[PB]?=some (.cells #[.int .i64 W,.int .i64 H,.slice so n scap] ct (0,0))) (i2:W'.ownsRow base et sz (.slice so n scap) n xs)
  (i3:W'.heap[Bt]?=some (.cells #[fn] ft (0,0))) (i4:W'.heap[Br]?=some (.cells #[.int .i64 0,.int .i64 0,.slice none 0 0] ct (0,0)))
  (i6:W'.heap[Bg]?=some (.cells #[.int .i64 W,.int .i64 H] gt (0,0))) (bX:W'.heap[Bx]?=some (.cells #[x0,x1] xt (0,0)))
  (i5:Below w.heap.size w W') (hbase:w.heap.size≤base) (hPw:w.heap.size≤PB) (hPR:PB≠Br)
  (hV1:Below W'.heap.size W' V1) (hg:(V1.alloc (ka es et)).grownBy w1 (Value.slice so n scap).ownBlock)
  (ho:w1.ownsRow base et sz (.slice (some ⟨g,0,none⟩) (n+1) cap) (n+1) (xs++es.toList)) :
  (w1.cell? ⟨Bt,0,none⟩=some fn∧w1.cell? ⟨Bx,0,none⟩=some x0∧w1.cell? ⟨Bx,1,none⟩=some x1)∧w1.cell? ⟨PB,2,none⟩=some (.slice so n scap)∧w1.frozen? ⟨PB,2,none⟩=false ∧
  (((w1.setCell ⟨PB,2,none⟩ (.slice (some ⟨g,0,none⟩) (n+1) cap)).cell? ⟨Bt,0,none⟩=some fn∧(w1.setCell ⟨PB,2,none⟩ (.slice (some ⟨g,0,none⟩) (n+1) cap)).cell? ⟨Bx,0,none⟩=some x0∧(w1.setCell ⟨PB,2,none⟩ (.slice (some ⟨g,0,none⟩) (n+1) cap)).cell? ⟨Bx,1,none⟩=some x1) ∧
   (KeepsFrom B0 W' (w1.setCell ⟨PB,2,none⟩ (.slice (some ⟨g,0,none⟩) (n+1) cap))∧KeepB Bg W' (w1.setCell ⟨PB,2,none⟩ (.slice (some ⟨g,0,none⟩) (n+1) cap)) ∧
    ((∃v,(w1.setCell ⟨PB,2,none⟩ (.slice (some ⟨g,0,none⟩) (n+1) cap)).heap[PB]?=some (.cells #[.int .i64 W,.int .i64 H,v] ct (0,0))∧(w1.setCell ⟨PB,2,none⟩ (.slice (some ⟨g,0,none⟩) (n+1) cap)).ownsRow base et sz v (n+1) (xs++es.toList)) ∧
     (w1.setCell ⟨PB,2,none⟩ (.slice (some ⟨g,0,none⟩) (n+1) cap)).heap[Bt]?=some (.cells #[fn] ft (0,0))∧(w1.setCell ⟨PB,2,none⟩ (.slice (some ⟨g,0,none⟩) (n+1) cap)).heap[Br]?=some (.cells #[.int .i64 0,.int .i64 0,.slice none 0 0] ct (0,0)) ∧
     (w1.setCell ⟨PB,2,none⟩ (.slice (some ⟨g,0,none⟩) (n+1) cap)).heap[Bg]?=some (.cells #[.int .i64 W,.int .i64 H] gt (0,0))∧Below w.heap.size w (w1.setCell ⟨PB,2,none⟩ (.slice (some ⟨g,0,none⟩) (n+1) cap))))):=by
 have keep:∀b o,W'.heap[b]?=some o→some b≠(Value.slice so n scap).ownBlock→w1.heap[b]?=some o:=fun b o hb hne=>by
  have hl:=(kb.1 hb).1
  have hs:=hV1.size
  rw[hg.block b (by simp;omega) hne,Below.heap_alloc _ _ _ (by omega),hV1.block b hl];exact hb
 have kP:=keep PB _ i1 (qYYy i2 i1 ce)
 have kT:=keep Bt _ i3 (qYYy i2 i3 fe)
 have kR:=keep Br _ i4 (qYYy i2 i4 ce)
 have kG:=keep Bg _ i6 (qYYy i2 i6 ge)
 have kX:=keep Bx _ bX (qYYy i2 bX xe)
 have nT:PB≠Bt:=fun e=>by rw[e] at i1;rw[i1] at i3;simp only[Option.some.injEq,ka.injEq] at i3;exact cf i3.2.1
 have nG:PB≠Bg:=fun e=>by rw[e] at i1;rw[i1] at i6;simp only[Option.some.injEq,ka.injEq] at i6;exact cg i6.2.1
 have nX:PB≠Bx:=fun e=>by rw[e] at i1;rw[i1] at bX;simp only[Option.some.injEq,ka.injEq] at bX;exact cx bX.2.1
 have fT:=(kl w1 ⟨PB,2,none⟩ (.slice (some ⟨g,0,none⟩) (n+1) cap) Bt (Ne.symm nT)).trans kT
 have fR:=(kl w1 ⟨PB,2,none⟩ (.slice (some ⟨g,0,none⟩) (n+1) cap) Br (Ne.symm hPR)).trans kR
 have fG:=(kl w1 ⟨PB,2,none⟩ (.slice (some ⟨g,0,none⟩) (n+1) cap) Bg (Ne.symm nG)).trans kG
 have fX:=(kl w1 ⟨PB,2,none⟩ (.slice (some ⟨g,0,none⟩) (n+1) cap) Bx (Ne.symm nX)).trans kX
 refine ⟨⟨by rw[kd kT];rfl,by rw[kd kX];rfl,by rw[kd kX];rfl⟩,by rw[kd kP];rfl,kc kP 2,
  ⟨by rw[kd fT];rfl,by rw[kd fX];rfl,by rw[kd fX];rfl⟩,?_,by rw[KeepB,fG,i6],⟨_,?_,ownsRow_setCell_other ho (fun e=>qYYy ho kP ce e.symm) _⟩,fT,fR,fG,?_⟩
 ·refine ⟨?_,fun k o _ hk hoc=>?_⟩
  ·have h1:=hV1.size
   have h2:=hg.size
   simp only[World.size_alloc] at h2
   simp only[World.setCell,Array.size_modify]
   omega
  ·rw[kl _ _ _ _ (fun e=>by rw[show k=PB from e,i1] at hk;cases hk;simp[Obj.isCells] at hoc)]
   exact keep k o hk (jlft i2 hk hoc)
 ·have:=heap_setCell_same w1 PB 2 _ _ (.slice (some ⟨g,0,none⟩) (n+1) cap) kP
  rw[this];rfl
 ·have hs:=hV1.size
  exact ((((i5.trans (hV1.mono i5.size)).alloc (by have:=i5.size;omega) _).grown hg (by have:=i5.size;simp;omega) (fun j hj=>kk hbase (i2.lt j hj).1))).setCell (p:=⟨PB,2,none⟩) hPw _
theorem X0Wz {W':World} {Br:Nat} {ct:TypeId} {a b c:Value} (i4:W'.heap[Br]?=some (.cells #[a,b,c] ct (0,0))) (x y z:Value) (w:World) (hBr:w.heap.size≤Br) (i5:Below w.heap.size w W') :
  (((W'.setCell ⟨Br,0,none⟩ x).setCell ⟨Br,1,none⟩ y).setCell ⟨Br,2,none⟩ z).heap[Br]?=some (.cells #[x,y,z] ct (0,0))∧(∀k,k≠Br→(((W'.setCell ⟨Br,0,none⟩ x).setCell ⟨Br,1,none⟩ y).setCell ⟨Br,2,none⟩ z).heap[k]?=W'.heap[k]?) ∧
   (((W'.setCell ⟨Br,0,none⟩ x).setCell ⟨Br,1,none⟩ y).setCell ⟨Br,2,none⟩ z).heap.size=W'.heap.size∧Below w.heap.size w (((W'.setCell ⟨Br,0,none⟩ x).setCell ⟨Br,1,none⟩ y).setCell ⟨Br,2,none⟩ z):=by
 refine ⟨?_,fun k hk=>?_,by simp[World.setCell],((i5.setCell (p:=⟨Br,0,none⟩) hBr _).setCell (p:=⟨Br,1,none⟩) hBr _).setCell (p:=⟨Br,2,none⟩) hBr _⟩
 ·have h1:=heap_setCell_same W' Br 0 _ _ x i4
  have h2:=heap_setCell_same _ Br 1 _ _ y h1
  have h3:=heap_setCell_same _ Br 2 _ _ z h2
  rw[h3];rfl
 ·rw[kl _ _ _ _ hk,kl _ _ _ _ hk,kl _ _ _ _ hk]
theorem jNsf {W' X:World} {Br:Nat} (h:∀k,k≠Br→X.heap[k]?=W'.heap[k]?) {base:Nat} {et:TypeId} {sz:Nat} {v:Value} {n:Nat} {xs:List Value} (hne:some Br≠v.ownBlock) (ho:W'.ownsRow base et sz v n xs):X.ownsRow base et sz v n xs:=by
 refine ⟨ho.1,?_⟩
 rcases ho.2 with ho|⟨g,cap,cur,hv,hg,hh,r⟩
 ·exact .inl ho
 ·refine .inr ⟨g,cap,cur,hv,hg,?_,r⟩
  rw[h g (fun e=>hne (by rw[hv,e];rfl))];exact hh
end Go.Proofs.YtfjeonehdlphiaaGreatDoor
namespace Go.Proofs.YtfjeonehdlphiaaGreatDoor
open Go.RowKit Go.Shelf
attribute [local go_sem] Oper.semAt_some
theorem qNgU (W H N:Nat) (hW:W≤64) (hH:H≤64) (hNHW:N=H*W) (tf:Nat) (caps:Array Value) (T:Nat→Int×Int×Int) (w:World) (eg:∀args w,(callFunc tf args).run Tryz.prog w=.ok (.enter tf args) w)
    (htell:∀(j:Nat) (V:World),j<N→Below w.heap.size w V→Calls Tryz.prog tf (#[.agg #[.int .i64 (j % W:Nat),.int .i64 (j / W:Nat)]]++caps) V fun e V'=>e=.returned (pixV (T j))∧Below V.heap.size V V') :
    Calls Tryz.prog 40 #[.agg #[.int .i64 W,.int .i64 H],.func (.func tf) #[] caps] w fun e w'=>∃r,e=.returned (.agg #[.int .i64 W,.int .i64 H,r])∧IsPix w' r ((List.range N).map T)∧Below w.heap.size w w'∧Fresh w.heap.size r∧Free w' r:=by
  obtain ⟨i0,hi,hz0,hz1,hz2⟩:=info_parts Tryz.infoPixel
  refine (callsIn_wide (n:=3)).1 ?_
  refine callsIn_of_wp_marks Tryz.func40 rfl trivial ?_ rfl
  simp only[Tryz.ntmps40,List.size_toArray,List.length_cons,List.length_nil,Nat.reduceAdd,Nat.reduceSub,Array.replicate_succ,Array.replicate_zero,List.push_toArray,List.append_toArray,List.nil_append,List.cons_append]
  gi_wp2_with fail
  refine wpIn_wide.2 ?_
  have hN:N=W*H:=by rw[hNHW,kn]
  have HNHW:=hide hNHW
  clear hNHW
  have hNi:(W:Int)*(H:Int)=(N:Int):=by rw[hN];simp
  have hNb:N≤4096:=by rw[hN];exact kk (Nat.mul_le_mul hW hH) (by decide)
  have hmk:∀V:World,(Instr.makeSlice 22 (.int .i64 0) (.int .i64 N)).run Tryz.prog V=.ok (.slice (some ⟨V.heap.size,0,none⟩) 0 N) (V.alloc (.cells (madeCells #[.int .i64 0,.int .i64 0,.int .i64 0] (N*3)) 61)):=fun V=>by
    have h:=run_make (P:=Tryz.prog) V 22 61 i0 pixZ Tryz.underlying22 hi hz0 .i64 .i64 0 N (Int.le_refl _) (by omega) (by rw[hz2];omega) (by omega)
    rw[hz1] at h
    simpa [pixZ,Value.cells] using h
  have hwN:IntKind.i64.wrap ((W:Int)*(H:Int))=(N:Int):=by rw[hNi];exact IntWalk.i64_in _ (by omega)
  have hwM:IntKind.i64.wrap (N:Int)=(N:Int):=IntWalk.i64_in _ (by omega)
  have HN:=hide hN
  clear hN
  have hB3:=quJN (quJN (qUNz w (ka #[.int .i64 W,.int .i64 H] 95)) (qUNz _ (ka #[.func (.func tf) #[] caps] 99))) (qUNz _ (ka #[.int .i64 0,.int .i64 0,.slice none 0 0] 24))
  have g0:(((w.alloc (ka #[.int .i64 W,.int .i64 H] 95)).alloc (ka #[.func (.func tf) #[] caps] 99)).alloc (ka #[.int .i64 0,.int .i64 0,.slice none 0 0] 24)).heap[w.heap.size]?=some (.cells #[.int .i64 W,.int .i64 H] 95 (0,0)):=by
    rw[Below.heap_alloc _ _ _ (by simp;omega),Below.heap_alloc _ _ _ (by simp)];exact heap_alloc_new w _
  have g1:(((w.alloc (ka #[.int .i64 W,.int .i64 H] 95)).alloc (ka #[.func (.func tf) #[] caps] 99)).alloc (ka #[.int .i64 0,.int .i64 0,.slice none 0 0] 24)).heap[w.heap.size+1]?=some (.cells #[.func (.func tf) #[] caps] 99 (0,0)):=by
    rw[Below.heap_alloc _ _ _ (by simp)]
    have h:=heap_alloc_new (w.alloc (ka #[.int .i64 W,.int .i64 H] 95)) (ka #[.func (.func tf) #[] caps] 99)
    rw[World.size_alloc] at h;exact h
  have g2:(((w.alloc (ka #[.int .i64 W,.int .i64 H] 95)).alloc (ka #[.func (.func tf) #[] caps] 99)).alloc (ka #[.int .i64 0,.int .i64 0,.slice none 0 0] 24)).heap[w.heap.size+2]?=some (.cells #[.int .i64 0,.int .i64 0,.slice none 0 0] 24 (0,0)):=by
    have h:=heap_alloc_new ((w.alloc (ka #[.int .i64 W,.int .i64 H] 95)).alloc (ka #[.func (.func tf) #[] caps] 99)) (ka #[.int .i64 0,.int .i64 0,.slice none 0 0] 24)
    rw[World.size_alloc,World.size_alloc] at h;exact h
  have hs3:(((w.alloc (ka #[.int .i64 W,.int .i64 H] 95)).alloc (ka #[.func (.func tf) #[] caps] 99)).alloc (ka #[.int .i64 0,.int .i64 0,.slice none 0 0] 24)).heap.size=w.heap.size+3:=by simp
  generalize ((w.alloc (ka #[.int .i64 W,.int .i64 H] 95)).alloc (ka #[.func (.func tf) #[] caps] 99)).alloc (ka #[.int .i64 0,.int .i64 0,.slice none 0 0] 24)=W3 at *
  have k0:W3.cell? ⟨w.heap.size,0,none⟩=some (.int .i64 W):=by rw[kd g0];rfl
  have k1:W3.cell? ⟨w.heap.size,1,none⟩=some (.int .i64 H):=by rw[kd g0];rfl
  have HS:=hide (show ∀w',Below W3.heap.size W3 w'→w'.cell? ⟨w.heap.size,0,none⟩=some (.int .i64 W)∧w'.cell? ⟨w.heap.size,1,none⟩=some (.int .i64 H) from fun w' h =>
    ⟨(h.cell (p:=⟨w.heap.size,0,none⟩) (by show w.heap.size<_;omega)).trans k0,(h.cell (p:=⟨w.heap.size,1,none⟩) (by show w.heap.size<_;omega)).trans k1⟩)
  have hdrew:Below W3.heap.size W3 W3.drew:=(Below.refl _ _).drew
  have HMK:=hide hmk
  go_region_held3 (fun w'=>w'.cell? ⟨w.heap.size,0,none⟩=some (.int .i64 W)∧w'.cell? ⟨w.heap.size,1,none⟩=some (.int .i64 H))
    (first|(refine HS.out _ ?_;assumption)|(refine HS.out _ ?_;exact quJN (by assumption) (qUNz _ _))|go_keep)
    (fail)
  all_goals first
    | (show Exit.then _ _ _ _ ((W3.alloc (ka (madeCells #[.int .i64 0,.int .i64 0,.int .i64 0] (N*3)) 61)).alloc (ka #[.int .i64 W,.int .i64 H,.slice (some ⟨w.heap.size+3,0,none⟩) 0 N] 24)).drew
       have hVb:Below W3.heap.size W3 ((W3.alloc (ka (madeCells #[.int .i64 0,.int .i64 0,.int .i64 0] (N*3)) 61)).alloc (ka #[.int .i64 W,.int .i64 H,.slice (some ⟨w.heap.size+3,0,none⟩) 0 N] 24)).drew:=XpIb (quJN (qUNz _ _) (qUNz _ _))
       have vP:((W3.alloc (ka (madeCells #[.int .i64 0,.int .i64 0,.int .i64 0] (N*3)) 61)).alloc (ka #[.int .i64 W,.int .i64 H,.slice (some ⟨w.heap.size+3,0,none⟩) 0 N] 24)).drew.heap[w.heap.size+3+1]?=some (.cells #[.int .i64 W,.int .i64 H,.slice (some ⟨w.heap.size+3,0,none⟩) 0 N] 24 (0,0)):=by
         have h:=heap_alloc_new (W3.alloc (ka (madeCells #[.int .i64 0,.int .i64 0,.int .i64 0] (N*3)) 61)) (ka #[.int .i64 W,.int .i64 H,.slice (some ⟨w.heap.size+3,0,none⟩) 0 N] 24)
         rw[World.size_alloc,hs3] at h;exact h
       have vS:((W3.alloc (ka (madeCells #[.int .i64 0,.int .i64 0,.int .i64 0] (N*3)) 61)).alloc (ka #[.int .i64 W,.int .i64 H,.slice (some ⟨w.heap.size+3,0,none⟩) 0 N] 24)).drew.ownsRow w.heap.size 61 3 (.slice (some ⟨w.heap.size+3,0,none⟩) 0 N) 0 []:=by
         have h:=(World.ownsRow_made (base:=w.heap.size) (e:=61) (size:=3) W3 (madeCells #[.int .i64 0,.int .i64 0,.int .i64 0] (N*3)) N (by omega) (by unfold maxLen;omega) (by simp[madeCells])).alloc (ka #[.int .i64 W,.int .i64 H,.slice (some ⟨w.heap.size+3,0,none⟩) 0 N] 24)
         rw[hs3] at h;exact h
       have hPB:w.heap.size+2<w.heap.size+3+1:=by omega
       generalize ((W3.alloc (ka (madeCells #[.int .i64 0,.int .i64 0,.int .i64 0] (N*3)) 61)).alloc (ka #[.int .i64 W,.int .i64 H,.slice (some ⟨w.heap.size+3,0,none⟩) 0 N] 24)).drew=V at *
       generalize w.heap.size+3+1=PB at hPB vP ⊢
       generalize hSB:Value.slice (some ⟨w.heap.size+3,0,none⟩) 0 N=SV at *
       clear hSB)
    | (have hVb:Below W3.heap.size W3 ((W3.alloc (ka #[.int .i64 W,.int .i64 H,.slice (some ⟨w.heap.size+3+1,0,none⟩) 0 N] 24)).alloc (ka (madeCells #[.int .i64 0,.int .i64 0,.int .i64 0] (N*3)) 61)).drew:=XpIb (quJN (qUNz _ _) (qUNz _ _))
       have vP:((W3.alloc (ka #[.int .i64 W,.int .i64 H,.slice (some ⟨w.heap.size+3+1,0,none⟩) 0 N] 24)).alloc (ka (madeCells #[.int .i64 0,.int .i64 0,.int .i64 0] (N*3)) 61)).drew.heap[w.heap.size+3]?=some (.cells #[.int .i64 W,.int .i64 H,.slice (some ⟨w.heap.size+3+1,0,none⟩) 0 N] 24 (0,0)):=by
         have h:=heap_alloc_new W3 (ka #[.int .i64 W,.int .i64 H,.slice (some ⟨w.heap.size+3+1,0,none⟩) 0 N] 24)
         rw[hs3] at h
         exact (Below.heap_alloc _ _ _ (by simp;omega)).trans h
       have vS:((W3.alloc (ka #[.int .i64 W,.int .i64 H,.slice (some ⟨w.heap.size+3+1,0,none⟩) 0 N] 24)).alloc (ka (madeCells #[.int .i64 0,.int .i64 0,.int .i64 0] (N*3)) 61)).drew.ownsRow w.heap.size 61 3 (.slice (some ⟨w.heap.size+3+1,0,none⟩) 0 N) 0 []:=by
         have h:=World.ownsRow_made (base:=w.heap.size) (e:=61) (size:=3) (W3.alloc (ka #[.int .i64 W,.int .i64 H,.slice (some ⟨w.heap.size+3+1,0,none⟩) 0 N] 24)) (madeCells #[.int .i64 0,.int .i64 0,.int .i64 0] (N*3)) N (by simp;omega) (by unfold maxLen;omega) (by simp[madeCells])
         rw[World.size_alloc,hs3] at h;exact h
       have hPB:w.heap.size+2<w.heap.size+3:=by omega
       generalize ((W3.alloc (ka #[.int .i64 W,.int .i64 H,.slice (some ⟨w.heap.size+3+1,0,none⟩) 0 N] 24)).alloc (ka (madeCells #[.int .i64 0,.int .i64 0,.int .i64 0] (N*3)) 61)).drew=V at *
       generalize hSB:Value.slice (some ⟨w.heap.size+3+1,0,none⟩) 0 N=SV at *
       clear hSB
       generalize w.heap.size+3=PB at hPB vP ⊢)
  all_goals
    have k0:=(hVb.cell (p:=⟨w.heap.size,0,none⟩) (by show w.heap.size<_;omega)).trans k0
    have k1:=(hVb.cell (p:=⟨w.heap.size,1,none⟩) (by show w.heap.size<_;omega)).trans k1
    gi_wp2_with fail
    refine ⟨trivial,?_⟩
    refine (jIfE Fence.wide _ trivial rfl _ _ _).mono ?_
    rintro e w' ⟨rfl,rfl⟩
    gi_wp2_with fail
    have hsV:=hVb.size
    have hlP:=(kb.1 vP).1
    have n0:=heap_alloc_new V (ka #[.int .i64 W,.int .i64 H] 95)
    have hs0:(V.alloc (ka #[.int .i64 W,.int .i64 H] 95)).heap.size=V.heap.size+1:=by simp
    have hB0:Below w.heap.size w (V.alloc (ka #[.int .i64 W,.int .i64 H] 95)):=quJN (quJN hB3 hVb) (qUNz _ _)
    have j0:(V.alloc (ka #[.int .i64 W,.int .i64 H] 95)).heap[PB]?=some (.cells #[.int .i64 W,.int .i64 H,SV] 24 (0,0)):=(Below.heap_alloc _ _ _ hlP).trans vP
    have j1:=vS.alloc (ka #[.int .i64 W,.int .i64 H] 95)
    have j2:(V.alloc (ka #[.int .i64 W,.int .i64 H] 95)).heap[w.heap.size+1]?=some (.cells #[.func (.func tf) #[] caps] 99 (0,0)):=by
      rw[Below.heap_alloc _ _ _ (by omega),hVb.block _ (by omega)];exact g1
    have j3:(V.alloc (ka #[.int .i64 W,.int .i64 H] 95)).heap[w.heap.size+2]?=some (.cells #[.int .i64 0,.int .i64 0,.slice none 0 0] 24 (0,0)):=by
      rw[Below.heap_alloc _ _ _ (by omega),hVb.block _ (by omega)];exact g2
    generalize V.alloc (ka #[.int .i64 W,.int .i64 H] 95)=W0 at *
    refine wpIn_rangeFunc_ownH (α:=Fin N) rfl (show 1≤3 by omega) (gf:=154) (lb:=#[.pointer (some ⟨V.heap.size,0,none⟩)]) rfl trivial (enters_of Tryz.func154 (by kernel_rfl) rfl)
      (joPr Fence.wide (3-1) trivial rfl (by omega) V.heap.size W H N hW hH HNHW.out W0 (by omega) (by rw[kd n0];rfl) (by rw[kd n0];rfl)) (fun {A B C} h k=>h.trans' k) (fun X l o o' hl _ _ _=>qMCQ (by omega)) (Below.refl _ _) (fun _=>rfl)
      (fun pre W'=>(∃v,W'.heap[PB]?=some (.cells #[.int .i64 W,.int .i64 H,v] 24 (0,0))∧W'.ownsRow w.heap.size 61 3 v pre.length ((pre.map fun (j:Fin N)=>T j.1).flatMap pixL))∧W'.heap[w.heap.size+1]?=some (.cells #[.func (.func tf) #[] caps] 99 (0,0))∧W'.heap[w.heap.size+2]?=some (.cells #[.int .i64 0,.int .i64 0,.slice none 0 0] 24 (0,0))∧W'.heap[V.heap.size]?=some (.cells #[.int .i64 W,.int .i64 H] 95 (0,0))∧Below w.heap.size w W')
      (fun _ _ _=>False)
      (fun s X Y row ⟨⟨v,a1,a2⟩,a3,a4,a6,a5⟩ hg hr=>⟨⟨v,qLYA hg hr a1,jg0p hg hr a2⟩,qLYA hg hr a3,qLYA hg hr a4,qLYA hg hr a6,ownFrom_below (β:=Unit) (ke _) (by omega) () X Y row a5 hg hr⟩)
      (fun _ _ _ _ _ hs _ _=>hs)
      ⟨⟨_,j0,j1⟩,j2,j3,n0,hB0⟩
      (fun x a' W'=>∃Bx,W0.heap.size≤Bx∧W'.heap[Bx]?=some (.cells #[.int .i64 (x.1 % W:Nat),.int .i64 (x.1 / W:Nat)] 97 (0,0))∧a'={ tmps:=#[.agg #[.int .i64 W,.int .i64 H],.func (.func tf) #[] caps,.pointer (some ⟨w.heap.size,0,none⟩),.pointer (some ⟨w.heap.size+1,0,none⟩),.pointer (some ⟨w.heap.size+1+1,0,none⟩),.pointer (some ⟨PB,0,none⟩),.pointer (some ⟨Bx,0,none⟩),.pointer (some ⟨w.heap.size,0,none⟩),.int .i64 W,.pointer (some ⟨w.heap.size,1,none⟩),.int .i64 H,.pointer (some ⟨w.heap.size,0,none⟩),.int .i64 W,.pointer (some ⟨w.heap.size,1,none⟩),.int .i64 H,.int .i64 N,SV,.agg #[.int .i64 W,.int .i64 H,SV],.agg #[.int .i64 W,.int .i64 H],.func (.func 154) #[] #[.pointer (some ⟨V.heap.size,0,none⟩)],.agg #[.int .i64 (x.1 % W:Nat),.int .i64 (x.1 / W:Nat)],undef,undef,undef,undef,undef,undef,undef,undef,undef],defers:=[] })
      (fun x a' _ X Y row ⟨Bx,b1,b2,b3⟩ hg hr=>⟨Bx,b1,qLYA hg hr b2,b3⟩)
      ?assign ?body ?done ?stop
    case assign =>
      rintro l pre x W' K ⟨⟨v,i1,i2⟩,i3,i4,i6,i5⟩ hK
      have hl1:=(kb.1 i1).1
      have hl3:=(kb.1 i3).1
      have hl4:=(kb.1 i4).1
      have hl6:=(kb.1 i6).1
      gi_wp2
      exact hK _ _ ((KeepsOthers.alloc _ _).from _) (Below.heap_alloc _ _ _ hl6) ⟨⟨v,(Below.heap_alloc _ _ _ hl1).trans i1,i2.alloc _⟩,(Below.heap_alloc _ _ _ hl3).trans i3,(Below.heap_alloc _ _ _ hl4).trans i4,(Below.heap_alloc _ _ _ hl6).trans i6,i5.alloc i5.size _⟩ ⟨W'.heap.size,by omega,heap_alloc_new W' _,rfl⟩
    case body =>
      rintro l pre x a' W' hl ⟨r,hr⟩ ⟨⟨sv,i1,i2⟩,i3,i4,i6,i5⟩ ⟨Bx,hBx,bX,rfl⟩ hlt
      obtain ⟨so,scap,rfl⟩:=XPKi i2
      have p2:W'.cell? ⟨PB,2,none⟩=some (.slice so pre.length scap):=by rw[kd i1];rfl
      have t0:W'.cell? ⟨w.heap.size+1,0,none⟩=some (.func (.func tf) #[] caps):=by rw[kd i3];rfl
      have x0:W'.cell? ⟨Bx,0,none⟩=some (.int .i64 (x.1 % W:Nat)):=by rw[kd bX];rfl
      have x1:W'.cell? ⟨Bx,1,none⟩=some (.int .i64 (x.1 / W:Nat)):=by rw[kd bX];rfl
      have hmx:Tryz.prog.follows .mixedOrders=true:=by kernel_rfl
      have hlP:=(kb.1 i1).1
      have hlT:=(kb.1 i3).1
      have hlX:=(kb.1 bX).1
      have hbW:w.heap.size≤W'.heap.size:=by omega
      have HL1:=hide (show pre.length+1≤maxLen by unfold maxLen;omega)
      have HL2:=hide (show (pre.length+1)*24≤140737488355328 by omega)
      have HS:=hide (show ∀v,Below W'.heap.size W' v→v.cell? ⟨w.heap.size+1,0,none⟩=some (.func (.func tf) #[] caps)∧v.cell? ⟨Bx,0,none⟩=some (.int .i64 (x.1 % W:Nat))∧v.cell? ⟨Bx,1,none⟩=some (.int .i64 (x.1 / W:Nat)) from fun v h =>
        ⟨(h.cell (p:=⟨w.heap.size+1,0,none⟩) hlT).trans t0,(h.cell (p:=⟨Bx,0,none⟩) hlX).trans x0,(h.cell (p:=⟨Bx,1,none⟩) hlX).trans x1⟩)
      have HP2:=hide (show ∀v,Below W'.heap.size W' v→v.cell? ⟨PB,2,none⟩=some (.slice so pre.length scap) from fun v h=>(h.cell (p:=⟨PB,2,none⟩) hlP).trans p2)
      have HTL:=hide (fun (V1:World) (g cap:Nat) (w1:World) (h1:Below W'.heap.size W' V1) (h2:(V1.alloc (ka (pixA (T x.1)) 61)).grownBy w1 (Value.slice so pre.length scap).ownBlock) (h3:w1.ownsRow (w.heap.size) 61 3 (.slice (some ⟨g,0,none⟩) (pre.length+1) cap) (pre.length+1) ((pre.map fun (j:Fin N)=>T j.1).flatMap pixL++pixL (T x.1)))=>XXqf (es:=(pixA (T x.1))) (by decide) (by decide) (by decide) (by decide) (by decide) (by decide) (by decide) (B0:=W0.heap.size) (PB:=PB) i1 i2 i3 i4 i6 bX i5 (by omega) (by omega) (by omega) h1 h2 h3)
      have hWd:Below W'.heap.size W' W'.drew:=(Below.refl _ _).drew
      have HT:=hide (htell x.1 W'.drew x.2 i5.drew)
      gi_wp2_with fail
      have hSd:=HS.out _ hWd
      have p2:=HP2.out _ hWd
      refine jNnL (S:=fun v:World=>v.cell? ⟨w.heap.size+1,0,none⟩=some (.func (.func tf) #[] caps)∧v.cell? ⟨Bx,0,none⟩=some (.int .i64 (x.1 % W:Nat))∧v.cell? ⟨Bx,1,none⟩=some (.int .i64 (x.1 / W:Nat))) hmx ?nd ?no ?_
      case nd=>exact qU4N (by kernel_rfl)
      case no=>rintro ⟨_,_,h⟩;exact h
      show wpAnyH _ _ _ _ _ 9 _ _ W'.drew
      refine wpAnyH_take (i:=0) (oi:=_) (v:=.pointer (some ⟨PB,2,none⟩)) rfl (by kernel_rfl) (by kernel_rfl) (by kernel_rfl) (fun _ _ _ h=>h) (Or.inl ⟨by rfl,fun v hSv=>by obtain ⟨s2,s3,s4⟩:=hSv;go_simp⟩) hSd ?_
      simp only[Act.put]
      refine wpAnyH_take (i:=2) (oi:=_) (v:=.func (.func tf) #[] caps) rfl (by kernel_rfl) (by kernel_rfl) (by kernel_rfl) (fun _ _ _ h=>h) (Or.inl ⟨by rfl,fun v hSv=>by obtain ⟨s2,s3,s4⟩:=hSv;go_simp⟩) hSd ?_
      simp only[Act.put]
      refine wpAnyH_take (i:=3) (oi:=_) (v:=.agg #[.int .i64 (x.1 % W:Nat),.int .i64 (x.1 / W:Nat)]) rfl (by kernel_rfl) (by kernel_rfl) (by kernel_rfl) (fun _ _ _ h=>h) (Or.inl ⟨by rfl,fun v hSv=>by obtain ⟨s2,s3,s4⟩:=hSv;go_simp⟩) hSd ?_
      simp only[Act.put]
      refine wpAnyH_ready (rs:=[1,4]) (by kernel_rfl) (by simp) ?_
      refine ki (o:=_) rfl (fun K hK=>?wA) (ki (o:=_) rfl (fun K hK=>?wB) kj)
      case wA =>
        rw[if_pos (by rfl)]
        go_simp
        refine hK.out _ _ hSd (fun _=>?_)
        clear hK
        refine wpAnyH_ready (rs:=[4]) (by kernel_rfl) (by simp) ?_
        refine ki (o:=_) rfl (fun K hK=>?_) kj
        rw[if_pos (by rfl)]
        go_simp
        refine HT.out.mono ?_
        rintro e V1 ⟨rfl,hb1⟩
        have hV1:Below W'.heap.size W' V1:=hWd.trans hb1
        have hSd:=HS.out _ hV1
        have p2:=HP2.out _ hV1
        refine hK.out _ _ hSd (fun _=>?_)
        clear hK
        refine wpAnyH_ready (rs:=[5]) (by kernel_rfl) (by simp) ?_
        refine ki (o:=_) rfl (fun K hK=>?_) kj
        rw[if_pos (by rfl)]
        go_simp
        have hV2:Below W'.heap.size W' (V1.alloc (ka (pixA (T x.1)) 61)):=hV1.trans ((qUNz _ _).mono hV1.size)
        have hSd:=HS.out _ hV2
        have p2:=HP2.out _ hV2
        refine hK.out _ _ hSd (fun _=>?_)
        clear hK
        have ho2:=((qw14 i2 hV1).alloc (ka (pixA (T x.1)) 61))
        refine wpAnyH_ready (rs:=[6]) (by kernel_rfl) (by simp) ?_
        refine ki (o:=_) rfl (fun K hK=>?_) kj
        refine step_append_lies _ rfl _ _ 22 rfl (w.heap.size) 61 i0 pixZ 3 24 Tryz.underlying22 hi hz0 hz1 hz2 rfl (by decide) (.slice so pre.length scap) pre.length ((pre.map fun (j:Fin N)=>T j.1).flatMap pixL) rfl ho2 ⟨V1.heap.size,0,none⟩ 1 1 (pixL (T x.1)) rfl rfl (World.news_of_block (heap_alloc_new V1 _)) (fun u hu=>by simp[pixL] at hu;rcases hu with rfl|rfl|rfl<;>rfl) Nat.one_pos HL1.out HL2.out (kk hbW hV2.size) _ rfl ?_
        intro g cap w1 hown hgrow hat hltg
        obtain ⟨hSd,p2,p2f,HFIN⟩:=HTL.out V1 g cap w1 hV1 hgrow hown
        refine hK.out _ _ hSd (fun _=>?_)
        clear hK
        refine wpAnyH_ready (rs:=[7]) (by kernel_rfl) (by simp) ?_
        refine ki (o:=_) rfl (fun K hK=>?_) kj
        rw[if_pos (by rfl)]
        go_simp
        refine hK.out _ _ hSd (fun _=>?_)
        clear hK
        refine wpAnyH_ready (rs:=[8]) (by kernel_rfl) (by simp) ?_
        refine ki (o:=_) rfl (fun K hK=>?_) kj
        rw[if_pos (by rfl)]
        go_simp
        refine hK.out _ _ HFIN.1 (fun _=>?_)
        clear hK
        refine wpAnyH_done (by kernel_rfl) ?_ _
        obtain ⟨_,f1,f2,⟨v,f3,f4⟩,f5,f6,f7,f8⟩:=HFIN
        exact ⟨f1,f2,⟨v,f3,by rw[List.length_append,List.map_append,List.flatMap_append];exact f4⟩,f5,f6,f7,f8⟩
      case wB =>
        rw[if_pos (by rfl)]
        go_simp
        refine HT.out.mono ?_
        rintro e V1 ⟨rfl,hb1⟩
        have hV1:Below W'.heap.size W' V1:=hWd.trans hb1
        have hSd:=HS.out _ hV1
        have p2:=HP2.out _ hV1
        refine hK.out _ _ hSd (fun _=>?_)
        clear hK
        refine wpAnyH_ready (rs:=[1,5]) (by kernel_rfl) (by simp) ?_
        refine ki (o:=_) rfl (fun K hK=>?wC) (ki (o:=_) rfl (fun K hK=>?wD) kj)
        case wC =>
          rw[if_pos (by rfl)]
          go_simp
          refine hK.out _ _ hSd (fun _=>?_)
          clear hK
          refine wpAnyH_ready (rs:=[5]) (by kernel_rfl) (by simp) ?_
          refine ki (o:=_) rfl (fun K hK=>?_) kj
          rw[if_pos (by rfl)]
          go_simp
          have hV2:Below W'.heap.size W' (V1.alloc (ka (pixA (T x.1)) 61)):=hV1.trans ((qUNz _ _).mono hV1.size)
          have hSd:=HS.out _ hV2
          have p2:=HP2.out _ hV2
          refine hK.out _ _ hSd (fun _=>?_)
          clear hK
          have ho2:=((qw14 i2 hV1).alloc (ka (pixA (T x.1)) 61))
          refine wpAnyH_ready (rs:=[6]) (by kernel_rfl) (by simp) ?_
          refine ki (o:=_) rfl (fun K hK=>?_) kj
          refine step_append_lies _ rfl _ _ 22 rfl (w.heap.size) 61 i0 pixZ 3 24 Tryz.underlying22 hi hz0 hz1 hz2 rfl (by decide) (.slice so pre.length scap) pre.length ((pre.map fun (j:Fin N)=>T j.1).flatMap pixL) rfl ho2 ⟨V1.heap.size,0,none⟩ 1 1 (pixL (T x.1)) rfl rfl (World.news_of_block (heap_alloc_new V1 _)) (fun u hu=>by simp[pixL] at hu;rcases hu with rfl|rfl|rfl<;>rfl) Nat.one_pos HL1.out HL2.out (kk hbW hV2.size) _ rfl ?_
          intro g cap w1 hown hgrow hat hltg
          obtain ⟨hSd,p2,p2f,HFIN⟩:=HTL.out V1 g cap w1 hV1 hgrow hown
          refine hK.out _ _ hSd (fun _=>?_)
          clear hK
          refine wpAnyH_ready (rs:=[7]) (by kernel_rfl) (by simp) ?_
          refine ki (o:=_) rfl (fun K hK=>?_) kj
          rw[if_pos (by rfl)]
          go_simp
          refine hK.out _ _ hSd (fun _=>?_)
          clear hK
          refine wpAnyH_ready (rs:=[8]) (by kernel_rfl) (by simp) ?_
          refine ki (o:=_) rfl (fun K hK=>?_) kj
          rw[if_pos (by rfl)]
          go_simp
          refine hK.out _ _ HFIN.1 (fun _=>?_)
          clear hK
          refine wpAnyH_done (by kernel_rfl) ?_ _
          obtain ⟨_,f1,f2,⟨v,f3,f4⟩,f5,f6,f7,f8⟩:=HFIN
          exact ⟨f1,f2,⟨v,f3,by rw[List.length_append,List.map_append,List.flatMap_append];exact f4⟩,f5,f6,f7,f8⟩
        case wD =>
          rw[if_pos (by rfl)]
          go_simp
          have hV2:Below W'.heap.size W' (V1.alloc (ka (pixA (T x.1)) 61)):=hV1.trans ((qUNz _ _).mono hV1.size)
          have hSd:=HS.out _ hV2
          have p2:=HP2.out _ hV2
          refine hK.out _ _ hSd (fun _=>?_)
          clear hK
          refine wpAnyH_ready (rs:=[1]) (by kernel_rfl) (by simp) ?_
          refine ki (o:=_) rfl (fun K hK=>?_) kj
          rw[if_pos (by rfl)]
          go_simp
          refine hK.out _ _ hSd (fun _=>?_)
          clear hK
          have ho2:=((qw14 i2 hV1).alloc (ka (pixA (T x.1)) 61))
          refine wpAnyH_ready (rs:=[6]) (by kernel_rfl) (by simp) ?_
          refine ki (o:=_) rfl (fun K hK=>?_) kj
          refine step_append_lies _ rfl _ _ 22 rfl (w.heap.size) 61 i0 pixZ 3 24 Tryz.underlying22 hi hz0 hz1 hz2 rfl (by decide) (.slice so pre.length scap) pre.length ((pre.map fun (j:Fin N)=>T j.1).flatMap pixL) rfl ho2 ⟨V1.heap.size,0,none⟩ 1 1 (pixL (T x.1)) rfl rfl (World.news_of_block (heap_alloc_new V1 _)) (fun u hu=>by simp[pixL] at hu;rcases hu with rfl|rfl|rfl<;>rfl) Nat.one_pos HL1.out HL2.out (kk hbW hV2.size) _ rfl ?_
          intro g cap w1 hown hgrow hat hltg
          obtain ⟨hSd,p2,p2f,HFIN⟩:=HTL.out V1 g cap w1 hV1 hgrow hown
          refine hK.out _ _ hSd (fun _=>?_)
          clear hK
          refine wpAnyH_ready (rs:=[7]) (by kernel_rfl) (by simp) ?_
          refine ki (o:=_) rfl (fun K hK=>?_) kj
          rw[if_pos (by rfl)]
          go_simp
          refine hK.out _ _ hSd (fun _=>?_)
          clear hK
          refine wpAnyH_ready (rs:=[8]) (by kernel_rfl) (by simp) ?_
          refine ki (o:=_) rfl (fun K hK=>?_) kj
          rw[if_pos (by rfl)]
          go_simp
          refine hK.out _ _ HFIN.1 (fun _=>?_)
          clear hK
          refine wpAnyH_done (by kernel_rfl) ?_ _
          obtain ⟨_,f1,f2,⟨v,f3,f4⟩,f5,f6,f7,f8⟩:=HFIN
          exact ⟨f1,f2,⟨v,f3,by rw[List.length_append,List.map_append,List.flatMap_append];exact f4⟩,f5,f6,f7,f8⟩
    case done =>
      rintro D ys W' hD rfl ⟨⟨v,i1,i2⟩,i3,i4,i6,i5⟩ hK
      have p0:W'.cell? ⟨PB,0,none⟩=some (.int .i64 W):=by rw[kd i1];rfl
      have p1:W'.cell? ⟨PB,1,none⟩=some (.int .i64 H):=by rw[kd i1];rfl
      have p2:W'.cell? ⟨PB,2,none⟩=some v:=by rw[kd i1];rfl
      have r0:W'.cell? ⟨w.heap.size+1+1,0,none⟩=some (.int .i64 0):=by rw[kd i4];rfl
      have r1:W'.cell? ⟨w.heap.size+1+1,1,none⟩=some (.int .i64 0):=by rw[kd i4];rfl
      have r2:W'.cell? ⟨w.heap.size+1+1,2,none⟩=some (.slice none 0 0):=by rw[kd i4];rfl
      have f0:W'.frozen? ⟨w.heap.size+1+1,0,none⟩=false:=kc i4 0
      have f1:W'.frozen? ⟨w.heap.size+1+1,1,none⟩=false:=kc i4 1
      have f2:W'.frozen? ⟨w.heap.size+1+1,2,none⟩=false:=kc i4 2
      obtain ⟨ao,cap,rfl⟩:=XPKi i2
      gi_wp2
      obtain ⟨x1,x2,x3,x4⟩:=X0Wz i4 (.int .i64 W) (.int .i64 H) (.slice ao (List.finRange N).length cap) w (by omega) i5
      have i2':=jNsf x2 (qYYy i2 i4 (by decide)) i2
      have hDr:D≠w.heap.size+2:=fun e=>by rw[e,i4] at hK;cases hK
      replace hK:=(x2 D hDr).trans hK
      simp only[List.length_finRange] at x1 x2 x3 x4 i2' hK
      generalize ((W'.setCell ⟨w.heap.size+1+1,0,none⟩ (.int .i64 W)).setCell ⟨w.heap.size+1+1,1,none⟩ (.int .i64 H)).setCell ⟨w.heap.size+1+1,2,none⟩ (.slice ao N cap)=X at *
      refine ⟨by simp,.inl ⟨_,_,rfl,run_takeDeferred hK,?_⟩⟩
      have y1:=(World.putObj_heap_other (w:=X) (o:=.deferred none) (Ne.symm hDr)).trans x1
      have y2:=ownsRow_putObj i2' (.deferred none) hK rfl
      have y3:Below w.heap.size w (X.putObj D (.deferred none)):=x4.trans (belowK_b (w:=w) (ke _) X D _ _ (by omega) hK rfl rfl)
      have c0:(X.putObj D (.deferred none)).cell? ⟨w.heap.size+1+1,0,none⟩=some (.int .i64 W):=by rw[kd y1];rfl
      have c1:(X.putObj D (.deferred none)).cell? ⟨w.heap.size+1+1,1,none⟩=some (.int .i64 H):=by rw[kd y1];rfl
      have c2:(X.putObj D (.deferred none)).cell? ⟨w.heap.size+1+1,2,none⟩=some (.slice ao N cap):=by rw[kd y1];rfl
      generalize X.putObj D (.deferred none)=Z at *
      refine ⟨.agg #[.int .i64 W,.int .i64 H,.slice ao N cap],by simp[results,Tryz.results40,go_sem,c0,c1,c2],.slice ao N cap,rfl,?_,y3,Fresh.own (by simpa using y2),Free.own y2⟩
      rw[←zhtE N T]
      exact IsPix.own (base:=w.heap.size) (by simpa using y2) (by simp;omega)
    case stop=>rintro D c pre W' _ _ h _;exact h.elim
theorem XMhx (W H N:Nat) (hW:W≤64) (hH:H≤64) (hNHW:N=H*W) (tf:Nat) (caps:Array Value) (T:Nat→Int×Int×Int) (w:World) (eg:∀args w,(callFunc tf args).run Tryz.prog w=.ok (.enter tf args) w)
  (htell:∀(j:Nat) (V:World),j<N→Below w.heap.size w V→Calls Tryz.prog tf (#[.agg #[.int .i64 (j % W:Nat),.int .i64 (j / W:Nat)]]++caps) V fun e V'=>e=.returned (pixV (T j))∧Below V.heap.size V V') :
  Calls Tryz.prog 40 #[.agg #[.int .i64 W,.int .i64 H],.func (.func tf) #[] caps] w fun e w'=>∃r,e=.returned (.agg #[.int .i64 W,.int .i64 H,r])∧IsPix w' r ((List.range N).map T)∧Below w.heap.size w w'∧Fresh w.heap.size r :=
 (qNgU W H N hW hH hNHW tf caps T w eg htell).mono fun _ _ ⟨r,h1,h2,h3,h4,_⟩=>⟨r,h1,h2,h3,h4⟩
end Go.Proofs.YtfjeonehdlphiaaGreatDoor
namespace Go.Proofs.YtfjeonehdlphiaaGreatDoor
open Go.RowKit
theorem XQLB (W H j bk off ca:Nat) (ps:List Px) (hj:j<ps.length) (h4096:ps.length≤4096) (tf:Nat) (caps:Array Value) (q:Px) (Bf Bq Bg:Nat) (V:World) (eg:∀args w,(callFunc tf args).run Tryz.prog w=.ok (.enter tf args) w)
  (hbk:bk<V.heap.size) (hBf:Bf<V.heap.size) (hBq:Bq<V.heap.size) (hBg:Bg<V.heap.size)
  (kf:V.cell? ⟨Bf,0,none⟩=some (.func (.func tf) #[] caps)) (kq:V.cell? ⟨Bq,2,none⟩=some (.slice (some ⟨bk,off,none⟩) ps.length ca)) (kg0:V.cell? ⟨Bg,0,none⟩=some (.int .i64 W)) (kg1:V.cell? ⟨Bg,1,none⟩=some (.int .i64 H))
  (c0:V.cell? ⟨bk,off+j*3,none⟩=some (.int .i64 ps[j].1)) (c1:V.cell? ⟨bk,off+j*3+1,none⟩=some (.int .i64 ps[j].2.1)) (c2:V.cell? ⟨bk,off+j*3+2,none⟩=some (.int .i64 ps[j].2.2))
  (hbe:∀U,Below V.heap.size V U→Calls Tryz.prog tf (#[pixV ps[j]]++caps) U fun e U'=>e=.returned (pixV q)∧Below U.heap.size U U') :
  Calls Tryz.prog 273 #[.agg #[.int .i64 (j % W:Nat),.int .i64 (j / W:Nat)],.pointer (some ⟨Bf,0,none⟩),.pointer (some ⟨Bq,0,none⟩),.pointer (some ⟨Bg,0,none⟩)] V fun e V'=>e=.returned (pixV q)∧Below V.heap.size V V':=by
 obtain ⟨X,hX⟩:∃X,j % W=X:=⟨_,rfl⟩
 obtain ⟨Y,hY⟩:∃Y,j / W=Y:=⟨_,rfl⟩
 have hk:Y*W+X=j:=by rw[←hX,←hY,kn];exact Nat.div_add_mod j W
 rw[hX,hY]
 clear hX hY
 have HK:=hide hk
 clear hk
 obtain ⟨⟨r,g,u⟩,hp⟩:∃p,ps[j]=p:=⟨_,rfl⟩
 rw[hp] at c0 c1 c2 hbe
 simp only at c0 c1 c2
 clear hp
 obtain ⟨q0,q1,q2⟩:=q
 have HB1:=quJN (qUNz V (ka #[.int .i64 X,.int .i64 Y] 97)) (qUNz _ (ka #[.int .i64 0,.int .i64 0,.int .i64 0] 61))
 have n1:((V.alloc (ka #[.int .i64 X,.int .i64 Y] 97)).alloc (ka #[.int .i64 0,.int .i64 0,.int .i64 0] 61)).heap[V.heap.size]?=some (.cells #[.int .i64 X,.int .i64 Y] 97 (0,0)):=by
  rw[Below.heap_alloc _ _ _ (by simp)];exact heap_alloc_new V _
 have n2:((V.alloc (ka #[.int .i64 X,.int .i64 Y] 97)).alloc (ka #[.int .i64 0,.int .i64 0,.int .i64 0] 61)).heap[V.heap.size+1]?=some (.cells #[.int .i64 0,.int .i64 0,.int .i64 0] 61 (0,0)):=by
  have h:=heap_alloc_new (V.alloc (ka #[.int .i64 X,.int .i64 Y] 97)) (ka #[.int .i64 0,.int .i64 0,.int .i64 0] 61)
  rw[World.size_alloc] at h;exact h
 have hsU:((V.alloc (ka #[.int .i64 X,.int .i64 Y] 97)).alloc (ka #[.int .i64 0,.int .i64 0,.int .i64 0] 61)).heap.size=V.heap.size+2:=by simp
 go_enter Tryz.func273,Tryz.ntmps273
 go_wp2_with fail
 generalize (V.alloc (ka #[.int .i64 X,.int .i64 Y] 97)).alloc (ka #[.int .i64 0,.int .i64 0,.int .i64 0] 61)=U at *
 have HS:=hide (show ∀w',Below U.heap.size U w'→w'.cell? ⟨Bf,0,none⟩=some (.func (.func tf) #[] caps)∧w'.cell? ⟨Bq,2,none⟩=some (.slice (some ⟨bk,off,none⟩) ps.length ca)∧w'.cell? ⟨Bg,0,none⟩=some (.int .i64 W)∧w'.cell? ⟨Bg,1,none⟩=some (.int .i64 H) ∧
   w'.cell? ⟨bk,off+j*3,none⟩=some (.int .i64 r)∧w'.cell? ⟨bk,off+j*3+1,none⟩=some (.int .i64 g)∧w'.cell? ⟨bk,off+j*3+2,none⟩=some (.int .i64 u)∧w'.cell? ⟨V.heap.size,0,none⟩=some (.int .i64 X)∧w'.cell? ⟨V.heap.size,1,none⟩=some (.int .i64 Y) from fun w' h=>by
  have hV:=HB1.trans (h.mono HB1.size)
  have hn:=(h.block V.heap.size (by omega)).trans n1
  exact ⟨(hV.cell (p:=⟨Bf,0,none⟩) hBf).trans kf,(hV.cell (p:=⟨Bq,2,none⟩) hBq).trans kq,(hV.cell (p:=⟨Bg,0,none⟩) hBg).trans kg0,(hV.cell (p:=⟨Bg,1,none⟩) hBg).trans kg1,(hV.cell (p:=⟨bk,off+j*3,none⟩) hbk).trans c0,(hV.cell (p:=⟨bk,off+j*3+1,none⟩) hbk).trans c1,(hV.cell (p:=⟨bk,off+j*3+2,none⟩) hbk).trans c2,by rw[kd hn];rfl,by rw[kd hn];rfl⟩)
 have HS3:=hide (show ∀w' x y z,Below U.heap.size U w'→((((w'.setCell ⟨V.heap.size+1,0,none⟩ x).setCell ⟨V.heap.size+1,1,none⟩ y).setCell ⟨V.heap.size+1,2,none⟩ z).cell? ⟨Bf,0,none⟩=some (.func (.func tf) #[] caps)∧(((w'.setCell ⟨V.heap.size+1,0,none⟩ x).setCell ⟨V.heap.size+1,1,none⟩ y).setCell ⟨V.heap.size+1,2,none⟩ z).cell? ⟨Bq,2,none⟩=some (.slice (some ⟨bk,off,none⟩) ps.length ca)∧(((w'.setCell ⟨V.heap.size+1,0,none⟩ x).setCell ⟨V.heap.size+1,1,none⟩ y).setCell ⟨V.heap.size+1,2,none⟩ z).cell? ⟨Bg,0,none⟩=some (.int .i64 W)∧(((w'.setCell ⟨V.heap.size+1,0,none⟩ x).setCell ⟨V.heap.size+1,1,none⟩ y).setCell ⟨V.heap.size+1,2,none⟩ z).cell? ⟨Bg,1,none⟩=some (.int .i64 H) ∧
   (((w'.setCell ⟨V.heap.size+1,0,none⟩ x).setCell ⟨V.heap.size+1,1,none⟩ y).setCell ⟨V.heap.size+1,2,none⟩ z).cell? ⟨bk,off+j*3,none⟩=some (.int .i64 r)∧(((w'.setCell ⟨V.heap.size+1,0,none⟩ x).setCell ⟨V.heap.size+1,1,none⟩ y).setCell ⟨V.heap.size+1,2,none⟩ z).cell? ⟨bk,off+j*3+1,none⟩=some (.int .i64 g)∧(((w'.setCell ⟨V.heap.size+1,0,none⟩ x).setCell ⟨V.heap.size+1,1,none⟩ y).setCell ⟨V.heap.size+1,2,none⟩ z).cell? ⟨bk,off+j*3+2,none⟩=some (.int .i64 u)∧(((w'.setCell ⟨V.heap.size+1,0,none⟩ x).setCell ⟨V.heap.size+1,1,none⟩ y).setCell ⟨V.heap.size+1,2,none⟩ z).cell? ⟨V.heap.size,0,none⟩=some (.int .i64 X)∧(((w'.setCell ⟨V.heap.size+1,0,none⟩ x).setCell ⟨V.heap.size+1,1,none⟩ y).setCell ⟨V.heap.size+1,2,none⟩ z).cell? ⟨V.heap.size,1,none⟩=some (.int .i64 Y)) from fun w' x y z h=>by
  have hh:=HS.out w' h
  have e1:Bf≠V.heap.size+1:=by omega
  have e2:Bq≠V.heap.size+1:=by omega
  have e3:Bg≠V.heap.size+1:=by omega
  have e4:bk≠V.heap.size+1:=by omega
  have e5:V.heap.size≠V.heap.size+1:=by omega
  rw[zd1R _ _ _ e1,zd1R _ _ _ e2,zd1R _ _ _ e3,zd1R _ _ _ e3,zd1R _ _ _ e4,zd1R _ _ _ e4,zd1R _ _ _ e4,zd1R _ _ _ e5,zd1R _ _ _ e5]
  exact hh)
 have HIX:=hide (show ∀w',Below U.heap.size U w'→Calls Tryz.prog 42 #[.agg #[.int .i64 W,.int .i64 H],.agg #[.int .i64 X,.int .i64 Y]] w' fun e w''=>e=.returned (.int .i64 j)∧Below U.heap.size U w'' from fun w' h =>
  (XSSj W H X Y W j rfl HK.out (by omega) w').mono fun e w'' h2=>⟨h2.1,h.trans (h2.2.mono h.size)⟩)
 have HBE:=hide (show ∀w',Below U.heap.size U w'→Calls Tryz.prog tf (#[.agg #[.int .i64 r,.int .i64 g,.int .i64 u]]++caps) w' fun e w''=>e=.returned (.agg #[.int .i64 q0,.int .i64 q1,.int .i64 q2])∧Below U.heap.size U w''∧(w''.cell? ⟨V.heap.size+1,0,none⟩=some (.int .i64 0)∧w''.cell? ⟨V.heap.size+1,1,none⟩=some (.int .i64 0)∧w''.cell? ⟨V.heap.size+1,2,none⟩=some (.int .i64 0))∧w''.frozen? ⟨V.heap.size+1,0,none⟩=false∧w''.frozen? ⟨V.heap.size+1,1,none⟩=false∧w''.frozen? ⟨V.heap.size+1,2,none⟩=false from fun w' h =>
  (hbe w' (HB1.trans (h.mono HB1.size))).mono fun e w'' h2=>by
   have h3:=h.trans (h2.2.mono h.size)
   have hn:=(h3.block (V.heap.size+1) (by omega)).trans n2
   exact ⟨h2.1,h3,z5EY hn,kc hn 0,kc hn 1,kc hn 2⟩)
 have HFIN:=hide (show ∀w' x y z,Below U.heap.size U w'→Below V.heap.size V (((w'.setCell ⟨V.heap.size+1,0,none⟩ x).setCell ⟨V.heap.size+1,1,none⟩ y).setCell ⟨V.heap.size+1,2,none⟩ z) from fun w' x y z h=>zHqh (HB1.trans (h.mono HB1.size)) (by omega) x y z)
 have hdrew:Below U.heap.size U U.drew:=(Below.refl _ _).drew
 clear hbe n1 n2 kf kq kg0 kg1 c0 c1 c2
 go_region_held3 (fun w'=>w'.cell? ⟨Bf,0,none⟩=some (.func (.func tf) #[] caps)∧w'.cell? ⟨Bq,2,none⟩=some (.slice (some ⟨bk,off,none⟩) ps.length ca)∧w'.cell? ⟨Bg,0,none⟩=some (.int .i64 W)∧w'.cell? ⟨Bg,1,none⟩=some (.int .i64 H) ∧
   w'.cell? ⟨bk,off+j*3,none⟩=some (.int .i64 r)∧w'.cell? ⟨bk,off+j*3+1,none⟩=some (.int .i64 g)∧w'.cell? ⟨bk,off+j*3+2,none⟩=some (.int .i64 u)∧w'.cell? ⟨V.heap.size,0,none⟩=some (.int .i64 X)∧w'.cell? ⟨V.heap.size,1,none⟩=some (.int .i64 Y))
  (first|(refine HS.out _ ?_;assumption)|(refine HS3.out _ _ _ _ ?_;assumption))
  (first
   | (go_at_call 42;refine (HIX.out _ ?_).mono ?_;assumption;rintro e wx ⟨rfl,hN⟩)
   | (refine (HBE.out _ ?_).mono ?_;assumption;rintro e wy ⟨rfl,hN2,⟨z0,z1,z2⟩,f0,f1,f2⟩))
 have q0':=z0
 go_wp2
 exact bodyPost_ret (v:=.agg #[.int .i64 q0,.int .i64 q1,.int .i64 q2]) (by simp[results,Tryz.results273,go_sem,z0,z1,z2]) rfl ⟨rfl,HFIN.out _ _ _ _ hN2⟩
theorem zg0q {α:Type} [Inhabited α] {β:Type} (ps:List α) (f:α→β) (N:Nat) (h:ps.length=N):(List.range N).map (fun j=>f (ps.getD j default))=ps.map f:=by
 apply List.ext_getElem
 ·simp[h]
 ·intro i h1 h2
  simp at h1
  simp[km,kg (show i<ps.length by omega)]
theorem jd7f (W H:Nat) (hW:W≤64) (hH:H≤64) (v:Value) (ps:List Px) (hlen:ps.length=H*W) (tf:Nat) (caps:Array Value) (f:Px→Px) (w:World) (hv:IsPix w v ps) (eg:∀args w,(callFunc tf args).run Tryz.prog w=.ok (.enter tf args) w)
  (hbe:∀(j:Nat) (h:j<ps.length) (U:World),Below w.heap.size w U→Calls Tryz.prog tf (#[pixV ps[j]]++caps) U fun e U'=>e=.returned (pixV (f ps[j]))∧Below U.heap.size U U') :
  Calls Tryz.prog 270 #[.agg #[.int .i64 W,.int .i64 H,v],.func (.func tf) #[] caps] w fun e w'=>∃r,e=.returned (.agg #[.int .i64 W,.int .i64 H,r])∧IsPix w' r (ps.map f)∧Below w.heap.size w w'∧Fresh w.heap.size r:=by
 have HV:=hide hv
 obtain ⟨ao,ca,rfl,hla,hc⟩:=hv
 have hl4:ps.length≤4096:=by rw[hlen];exact kk (Nat.mul_le_mul hH hW) (by decide)
 have HLEN:=hide hlen
 clear hlen
 go_enter Tryz.func270,Tryz.ntmps270
 go_wp2_with fail
 obtain ⟨a1,a2,a3,a4⟩:=al4 w (ka #[.int .i64 W,.int .i64 H,.slice ao ps.length ca] 24) (ka #[.func (.func tf) #[] caps] 300) (ka #[.int .i64 0,.int .i64 0,.slice none 0 0] 24) (ka #[.int .i64 W,.int .i64 H] 95)
 have hB4:=be4 w (ka #[.int .i64 W,.int .i64 H,.slice ao ps.length ca] 24) (ka #[.func (.func tf) #[] caps] 300) (ka #[.int .i64 0,.int .i64 0,.slice none 0 0] 24) (ka #[.int .i64 W,.int .i64 H] 95)
 have hs4:((((w.alloc (ka #[.int .i64 W,.int .i64 H,.slice ao ps.length ca] 24)).alloc (ka #[.func (.func tf) #[] caps] 300)).alloc (ka #[.int .i64 0,.int .i64 0,.slice none 0 0] 24)).alloc (ka #[.int .i64 W,.int .i64 H] 95)).heap.size=w.heap.size+4:=by simp
 generalize (((w.alloc (ka #[.int .i64 W,.int .i64 H,.slice ao ps.length ca] 24)).alloc (ka #[.func (.func tf) #[] caps] 300)).alloc (ka #[.int .i64 0,.int .i64 0,.slice none 0 0] 24)).alloc (ka #[.int .i64 W,.int .i64 H] 95)=U at *
 refine (XMhx W H (H*W) hW hH rfl 273 _ (fun j=>f (ps.getD j default)) U (enters_of Tryz.func273 (by kernel_rfl) rfl) ?_).mono ?_
 ·intro j V hj hV
  have hj':j<ps.length:=by rw[HLEN.out];exact hj
  have hVw:=hB4.trans (hV.mono hB4.size)
  obtain ⟨bk,off,hao,hbl,hcell⟩:∃b off,ao=some ⟨b,off,none⟩∧b<w.heap.size∧∀j (h:j<ps.length),
    w.cell? ⟨b,off+j*3,none⟩=some (.int .i64 ps[j].1)∧w.cell? ⟨b,off+j*3+1,none⟩=some (.int .i64 ps[j].2.1)∧w.cell? ⟨b,off+j*3+2,none⟩=some (.int .i64 ps[j].2.2):=by
   rcases hc with h|h
   ·subst h;simp at hj'
   ·exact h
  subst hao
  have g1:=(hV.block (w.heap.size) (by omega)).trans a1
  have g2:=(hV.block (w.heap.size+1) (by omega)).trans a2
  have g4:=(hV.block (w.heap.size+3) (by omega)).trans a4
  have hsV:=hV.size
  obtain ⟨c0,c1,c2⟩:=hcell j hj'
  have hD:ps.getD j default=ps[j]:=by simp[km,kg hj']
  rw[hD]
  exact XQLB W H j bk off ca ps hj' hl4 tf caps (f ps[j]) (w.heap.size+1) w.heap.size (w.heap.size+3) V eg (by omega) (by omega) (by omega) (by omega)
   (by rw[kd g2];rfl) (by rw[kd g1];rfl) (by rw[kd g4];rfl) (by rw[kd g4];rfl)
   ((hVw.cell (p:=⟨bk,off+j*3,none⟩) hbl).trans c0) ((hVw.cell (p:=⟨bk,off+j*3+1,none⟩) hbl).trans c1) ((hVw.cell (p:=⟨bk,off+j*3+2,none⟩) hbl).trans c2)
   (fun U' hU'=>hbe j hj' U' (hVw.trans (hU'.mono hVw.size)))
 ·rintro e w1 ⟨r,rfl,hr,hb,hfr⟩
  rw[zg0q ps f (H*W) HLEN.out] at hr
  have g3:=(hb.block (w.heap.size+1+1) (by omega)).trans a3
  obtain ⟨z0,z1,z2⟩:=z5EY g3
  have f0:=kc g3 0
  have f1:=kc g3 1
  have f2:=kc g3 2
  have HR:=hide hr
  obtain ⟨ro,rc,rfl,_,_⟩:=hr
  have HFIN:=hide (zHqh (hB4.trans (hb.mono hB4.size)) (show w.heap.size≤w.heap.size+1+1 by omega) (.int .i64 W) (.int .i64 H) (.slice ro (ps.map f).length rc))
  have HPX:=hide (HR.out.set3 hfr (show w.heap.size+1+1<U.heap.size by omega) (.int .i64 W) (.int .i64 H) (.slice ro (ps.map f).length rc))
  rw[List.length_map] at HPX HFIN hfr
  go_wp2
  exact bodyPost_ret (v:=.agg #[.int .i64 W,.int .i64 H,.slice ro ps.length rc]) (by simp[results,Tryz.results270,go_sem,z0,z1,z2]) rfl ⟨_,rfl,HPX.out,HFIN.out,hfr.mono (by omega)⟩
abbrev nine (m:Nat→Int):Array Value:=#[.int .i64 (m 0),.int .i64 (m 1),.int .i64 (m 2),.int .i64 (m 3),.int .i64 (m 4),.int .i64 (m 5),.int .i64 (m 6),.int .i64 (m 7),.int .i64 (m 8)]
def nineL (m:Nat→Int):List Int:=(List.range 9).map m
def matOk (m:Nat→Int):Bool:=allIn (-32768) 32768 (nineL m)
theorem X1Cm (m:Nat→Int) (k:Nat) (h:k<9):(nine m)[k]?=some (.int .i64 (m k)):=by
 rcases (show k=0∨k=1∨k=2∨k=3∨k=4∨k=5∨k=6∨k=7∨k=8 by omega) with rfl|rfl|rfl|rfl|rfl|rfl|rfl|rfl|rfl<;>rfl
theorem XiDe {m:Nat→Int} (h:matOk m=true) (k:Nat) (hk:k<9):-32768≤m k∧m k≤32768:=by
 have:=List.all_eq_true.1 h (m k) (List.mem_map.2 ⟨k,List.mem_range.2 hk,rfl⟩)
 simpa using this
theorem qtKV {w w':World} {t:TypeId} (m:Nat→Int) (hb:Below (w.alloc (.cells (nine m) t)).heap.size (w.alloc (.cells (nine m) t)) w'):jCvT w' (.slice (some ⟨w.heap.size,0,none⟩) 9 9) (nineL m):=by
 refine ⟨_,_,rfl,by simp[nineL],.inr ⟨w.heap.size,0,rfl,by have:=hb.size;simp at this;omega,fun j hj=>?_⟩⟩
 have hj9:j<9:=by simpa [nineL] using hj
 rw[hb.cell (p:=⟨w.heap.size,0+j,none⟩) (by simp),kd (heap_alloc_new w _),Nat.zero_add,X1Cm m j hj9]
 simp[nineL]
theorem XdM0 (m:Nat→Int) (w:World):Calls Tryz.prog 148 #[.agg (nine m)] w fun e w'=>e=.returned (.bool (matOk m))∧Below w.heap.size w w':=by
 go_enter Tryz.func148,Tryz.ntmps148
 go_wp2_with fail
 refine (qFis (-32768) 32768 _ (nineL m) _ (qtKV m (Below.refl _ _))).mono ?_
 rintro e w1 ⟨rfl,rfl⟩
 rw[show allIn (-32768) 32768 (nineL m)=matOk m from rfl]
 go_wp2
 go_ret
 exact ⟨rfl,qUNz _ _⟩
theorem zZMj {w:World} {b:Nat} {t:TypeId} {fr:Nat×Nat} {m:Nat→Int} (h:w.heap[b]?=some (.cells (nine m) t fr)) :
  w.cell? ⟨b,0,none⟩=some (.int .i64 (m 0))∧w.cell? ⟨b,1,none⟩=some (.int .i64 (m 1))∧w.cell? ⟨b,2,none⟩=some (.int .i64 (m 2))∧w.cell? ⟨b,3,none⟩=some (.int .i64 (m 3))∧w.cell? ⟨b,4,none⟩=some (.int .i64 (m 4))∧w.cell? ⟨b,5,none⟩=some (.int .i64 (m 5))∧w.cell? ⟨b,6,none⟩=some (.int .i64 (m 6))∧w.cell? ⟨b,7,none⟩=some (.int .i64 (m 7))∧w.cell? ⟨b,8,none⟩=some (.int .i64 (m 8)) :=
 ⟨by rw[kd h];rfl,by rw[kd h];rfl,by rw[kd h];rfl,by rw[kd h];rfl,by rw[kd h];rfl,by rw[kd h];rfl,by rw[kd h];rfl,by rw[kd h];rfl,by rw[kd h];rfl⟩
def mixE (W H:Int) (ps:List Px) (m:Nat→Int):Int:=if picOk W H ps=true then (if matOk m=true then 0 else 3) else 1
theorem jjtZ (W H:Int) (v:Value) (ps:List Px) (m:Nat→Int) (w:World) (hv:IsPix w v ps) :
  Calls Tryz.prog 269 #[.agg #[.int .i64 W,.int .i64 H,v],.agg (nine m)] w fun e w'=>∃r,e=.returned (.tuple #[.agg #[.int .i64 (okW (mixE W H ps m) W),.int .i64 (okW (mixE W H ps m) H),r],.int .i64 (mixE W H ps m)])∧IsPix w' r (okL (mixE W H ps m) (ps.map (mixP m)))∧Below w.heap.size w w'∧Fresh w.heap.size r:=by
 have HV:=hide hv
 obtain ⟨ao,ca,rfl,hla,hc⟩:=hv
 obtain ⟨E,hE⟩:∃E,mixE W H ps m=E:=⟨_,rfl⟩
 rw[hE]
 by_cases hp:picOk W H ps=true
 ·by_cases hm:matOk m=true
  ·have he:E=0:=by rw[←hE,mixE,if_pos hp,if_pos hm]
   subst he
   clear hE
   obtain ⟨⟨w1,w2⟩,⟨h1,h2⟩,hl,hpx⟩:=XMjn hp
   obtain ⟨WN,rfl⟩:=kh (show 0≤W by omega)
   obtain ⟨HN,rfl⟩:=kh (show 0≤H by omega)
   have HLEN:=hide (show ps.length=HN*WN by rw[kn];exact_mod_cast hl)
   have HPX:=hide hpx
   clear hl hpx
   go_enter Tryz.func269,Tryz.ntmps269
   go_wp2_with fail
   obtain ⟨a1,a2,a3⟩:=al3 w (ka #[.int .i64 (WN:Nat),.int .i64 (HN:Nat),.slice ao ps.length ca] 24) (ka (nine m) 48) (ka #[.int .i64 0,.int .i64 0,.slice none 0 0] 24)
   have hB:=be3 w (ka #[.int .i64 (WN:Nat),.int .i64 (HN:Nat),.slice ao ps.length ca] 24) (ka (nine m) 48) (ka #[.int .i64 0,.int .i64 0,.slice none 0 0] 24)
   have hs3:(((w.alloc (ka #[.int .i64 (WN:Nat),.int .i64 (HN:Nat),.slice ao ps.length ca] 24)).alloc (ka (nine m) 48)).alloc (ka #[.int .i64 0,.int .i64 0,.slice none 0 0] 24)).heap.size=w.heap.size+3:=by simp
   generalize ((w.alloc (ka #[.int .i64 (WN:Nat),.int .i64 (HN:Nat),.slice ao ps.length ca] 24)).alloc (ka (nine m) 48)).alloc (ka #[.int .i64 0,.int .i64 0,.slice none 0 0] 24)=U at *
   refine (XDTU WN HN _ ps _ (HV.out.below hB (ke _))).mono ?_
   rintro e w1 ⟨rfl,hb1⟩
   rw[hp]
   have g1:=(hb1.block (w.heap.size) (by omega)).trans a1
   have g2:=(hb1.block (w.heap.size+1) (by omega)).trans a2
   have g3:=(hb1.block (w.heap.size+1+1) (by omega)).trans a3
   obtain ⟨n0,n1,n2,n3,n4,n5,n6,n7,n8⟩:=zZMj g2
   go_wp2_with fail
   refine (XdM0 m _).mono ?_
   rintro e w2 ⟨rfl,hb2⟩
   rw[hm]
   clear n0 n1 n2 n3 n4 n5 n6 n7 n8
   replace hb2:=quJN hb1 hb2
   replace g1:=(hb2.block (w.heap.size) (by omega)).trans a1
   replace g2:=(hb2.block (w.heap.size+1) (by omega)).trans a2
   replace g3:=(hb2.block (w.heap.size+1+1) (by omega)).trans a3
   obtain ⟨p0,p1,p2⟩:=z5EY g1
   go_wp2_with fail
   refine (jd7f WN HN (by omega) (by omega) _ ps HLEN.out 271 #[.pointer (some ⟨w.heap.size+1,0,none⟩)] (mixP m) _ (HV.out.below (hB.trans (hb2.mono hB.size)) (ke _)) (enters_of Tryz.func271 (by kernel_rfl) rfl) ?_).mono ?_
   ·intro j hj V hV
    have hb3:=quJN hb2 hV
    have g2':=(hb3.block (w.heap.size+1) (by omega)).trans a2
    exact jpF6 (w.heap.size+1) m (fun k hk=>XiDe hm k hk) ps[j] (List.all_eq_true.1 HPX.out _ (List.getElem_mem hj)) V (by have:=hb3.size;omega) (fun k hk=>by rw[kd g2',X1Cm m k hk])
   ·rintro e w3 ⟨r,rfl,hr,hb3,hfr⟩
    clear p0 p1 p2
    replace hb3:=quJN hb2 hb3
    replace g3:=(hb3.block (w.heap.size+1+1) (by omega)).trans a3
    have hs2:=hb2.size
    obtain ⟨z0,z1,z2⟩:=z5EY g3
    have f0:=kc g3 0
    have f1:=kc g3 1
    have f2:=kc g3 2
    have HR:=hide hr
    obtain ⟨ro,rc,rfl,_,_⟩:=hr
    have HFIN:=hide (zHqh (hB.trans (hb3.mono hB.size)) (show w.heap.size≤w.heap.size+1+1 by omega) (.int .i64 (WN:Nat)) (.int .i64 (HN:Nat)) (.slice ro (ps.map (mixP m)).length rc))
    have HPX2:=hide (HR.out.set3 hfr (show w.heap.size+1+1<w2.heap.size by omega) (.int .i64 (WN:Nat)) (.int .i64 (HN:Nat)) (.slice ro (ps.map (mixP m)).length rc))
    rw[List.length_map] at HPX2 HFIN hfr
    go_wp2
    exact bodyPost_ret (v:=.tuple #[.agg #[.int .i64 (WN:Nat),.int .i64 (HN:Nat),.slice ro ps.length rc],.int .i64 0]) (by simp[results,Tryz.results269,go_sem,z0,z1,z2]) rfl ⟨_,rfl,HPX2.out,HFIN.out,hfr.mono (by omega)⟩
  ·have he:E=3:=by rw[←hE,mixE,if_pos hp,if_neg hm]
   have hm:matOk m=false:=by simpa using hm
   subst he
   clear hE
   go_enter Tryz.func269,Tryz.ntmps269
   go_wp2_with fail
   obtain ⟨a1,a2,a3⟩:=al3 w (ka #[.int .i64 W,.int .i64 H,.slice ao ps.length ca] 24) (ka (nine m) 48) (ka #[.int .i64 0,.int .i64 0,.slice none 0 0] 24)
   have hB:=be3 w (ka #[.int .i64 W,.int .i64 H,.slice ao ps.length ca] 24) (ka (nine m) 48) (ka #[.int .i64 0,.int .i64 0,.slice none 0 0] 24)
   have hs3:(((w.alloc (ka #[.int .i64 W,.int .i64 H,.slice ao ps.length ca] 24)).alloc (ka (nine m) 48)).alloc (ka #[.int .i64 0,.int .i64 0,.slice none 0 0] 24)).heap.size=w.heap.size+3:=by simp
   generalize ((w.alloc (ka #[.int .i64 W,.int .i64 H,.slice ao ps.length ca] 24)).alloc (ka (nine m) 48)).alloc (ka #[.int .i64 0,.int .i64 0,.slice none 0 0] 24)=U at *
   refine (XDTU W H _ ps _ (HV.out.below hB (ke _))).mono ?_
   rintro e w1 ⟨rfl,hb1⟩
   rw[hp]
   have g1:=(hb1.block (w.heap.size) (by omega)).trans a1
   have g2:=(hb1.block (w.heap.size+1) (by omega)).trans a2
   have g3:=(hb1.block (w.heap.size+1+1) (by omega)).trans a3
   obtain ⟨n0,n1,n2,n3,n4,n5,n6,n7,n8⟩:=zZMj g2
   go_wp2_with fail
   refine (XdM0 m _).mono ?_
   rintro e w2 ⟨rfl,hb2⟩
   rw[hm]
   clear n0 n1 n2 n3 n4 n5 n6 n7 n8
   replace hb2:=quJN hb1 hb2
   replace g1:=(hb2.block (w.heap.size) (by omega)).trans a1
   replace g2:=(hb2.block (w.heap.size+1) (by omega)).trans a2
   replace g3:=(hb2.block (w.heap.size+1+1) (by omega)).trans a3
   obtain ⟨z0,z1,z2⟩:=z5EY g3
   have f0:=kc g3 0
   have f1:=kc g3 1
   have f2:=kc g3 2
   have HBL:=hb2
   have HFIN:=hide (zHqh (hB.trans (HBL.mono hB.size)) (show w.heap.size≤w.heap.size+1+1 by omega) (.int .i64 0) (.int .i64 0) (.slice none 0 0))
   go_wp2
   exact bodyPost_ret (v:=.tuple #[.agg #[.int .i64 0,.int .i64 0,.slice none 0 0],.int .i64 3]) (by simp[results,Tryz.results269,go_sem,z0,z1,z2]) rfl ⟨.slice none 0 0,rfl,IsPix.nil _,HFIN.out,Fresh.nil _⟩
 ·have he:E=1:=by rw[←hE,mixE,if_neg hp]
  have hp:picOk W H ps=false:=by simpa using hp
  subst he
  clear hE
  go_enter Tryz.func269,Tryz.ntmps269
  go_wp2_with fail
  obtain ⟨a1,a2,a3⟩:=al3 w (ka #[.int .i64 W,.int .i64 H,.slice ao ps.length ca] 24) (ka (nine m) 48) (ka #[.int .i64 0,.int .i64 0,.slice none 0 0] 24)
  have hB:=be3 w (ka #[.int .i64 W,.int .i64 H,.slice ao ps.length ca] 24) (ka (nine m) 48) (ka #[.int .i64 0,.int .i64 0,.slice none 0 0] 24)
  have hs3:(((w.alloc (ka #[.int .i64 W,.int .i64 H,.slice ao ps.length ca] 24)).alloc (ka (nine m) 48)).alloc (ka #[.int .i64 0,.int .i64 0,.slice none 0 0] 24)).heap.size=w.heap.size+3:=by simp
  generalize ((w.alloc (ka #[.int .i64 W,.int .i64 H,.slice ao ps.length ca] 24)).alloc (ka (nine m) 48)).alloc (ka #[.int .i64 0,.int .i64 0,.slice none 0 0] 24)=U at *
  refine (XDTU W H _ ps _ (HV.out.below hB (ke _))).mono ?_
  rintro e w1 ⟨rfl,hb1⟩
  rw[hp]
  have g1:=(hb1.block (w.heap.size) (by omega)).trans a1
  have g2:=(hb1.block (w.heap.size+1) (by omega)).trans a2
  have g3:=(hb1.block (w.heap.size+1+1) (by omega)).trans a3
  obtain ⟨z0,z1,z2⟩:=z5EY g3
  have f0:=kc g3 0
  have f1:=kc g3 1
  have f2:=kc g3 2
  have HBL:=hb1
  have HFIN:=hide (zHqh (hB.trans (HBL.mono hB.size)) (show w.heap.size≤w.heap.size+1+1 by omega) (.int .i64 0) (.int .i64 0) (.slice none 0 0))
  go_wp2
  exact bodyPost_ret (v:=.tuple #[.agg #[.int .i64 0,.int .i64 0,.slice none 0 0],.int .i64 1]) (by simp[results,Tryz.results269,go_sem,z0,z1,z2]) rfl ⟨.slice none 0 0,rfl,IsPix.nil _,HFIN.out,Fresh.nil _⟩
def addP (s:Px) (k:Int) (p:Px):Px:=(s.1+k*p.1,s.2.1+k*p.2.1,s.2.2+k*p.2.2)
def X9Co (m:Int) (p:Px):Prop:=(0≤p.1∧p.1≤m*65535)∧(0≤p.2.1∧p.2.1≤m*65535)∧(0≤p.2.2∧p.2.2≤m*65535)
theorem qpn3 {a r A R:Int} (h1:0≤a) (h2:a≤A) (h3:0≤r) (h4:r≤R):0≤a*r∧a*r≤A*R :=
 ⟨Int.mul_nonneg h1 h3,Int.mul_le_mul h2 h4 h3 (by omega)⟩
theorem j8Cj (s p:Px) (k:Int) (hk0:0≤k) (hk:k≤4) (hs:X9Co 32 s) (hp:pxOk p=true) (w:World) :
  Calls Tryz.prog 282 #[pixV s,pixV p,.int .i64 k] w fun e w'=>e=.returned (pixV (addP s k p))∧Below w.heap.size w w':=by
 obtain ⟨⟨r1,r2⟩,⟨g1,g2⟩,u1,u2⟩:=(X1aR p).1 hp
 obtain ⟨⟨s1,s2⟩,⟨s3,s4⟩,s5,s6⟩:=hs
 obtain ⟨r,g,u⟩:=p
 obtain ⟨a,b,c⟩:=s
 simp only at r1 r2 g1 g2 u1 u2 s1 s2 s3 s4 s5 s6
 obtain ⟨m1,m2⟩:=qpn3 hk0 hk r1 r2
 obtain ⟨m3,m4⟩:=qpn3 hk0 hk g1 g2
 obtain ⟨m5,m6⟩:=qpn3 hk0 hk u1 u2
 have HE:=hide (show addP (a,b,c) k (r,g,u)=(a+k*r,b+k*g,c+k*u) from rfl)
 rw[HE.out]
 clear HE
 obtain ⟨A,hA⟩:∃A,k*r=A:=⟨_,rfl⟩
 obtain ⟨B,hB⟩:∃B,k*g=B:=⟨_,rfl⟩
 obtain ⟨C,hC⟩:∃C,k*u=C:=⟨_,rfl⟩
 rw[hA] at m1 m2
 rw[hB] at m3 m4
 rw[hC] at m5 m6
 rw[hA,hB,hC]
 go_enter Tryz.func282,Tryz.ntmps282
 go_wp2
 exact bodyPost_ret (v:=.agg #[.int .i64 (a+A),.int .i64 (b+B),.int .i64 (c+C)]) (by simp[results,Tryz.results282,go_sem]) rfl ⟨rfl,be3 _ _ _ _⟩
def near (W x:Int):Int:=if x<0 then 0 else if W≤x then W-1 else x
theorem Xxtr (W x:Int) (h:1≤W):0≤near W x∧near W x<W:=by unfold near;split<;>(try split)<;>omega
theorem jpLA (W x:Int):(x<0∧near W x=0)∨(0≤x∧W≤x∧near W x=W-1)∨(0≤x∧x<W∧near W x=x):=by unfold near;split<;>(try split)<;>omega
theorem qzGK (W H x y:Int) (hW1:1≤W) (hW:W≤64) (hH1:1≤H) (hH:H≤64) (hx0:-1≤x) (hx1:x≤66) (hy0:-1≤y) (hy1:y≤66) (w:World) :
  Calls Tryz.prog 283 #[.agg #[.int .i64 W,.int .i64 H],.agg #[.int .i64 x,.int .i64 y]] w fun e w'=>e=.returned (.agg #[.int .i64 (near W x),.int .i64 (near H y)])∧Below w.heap.size w w':=by
 rcases jpLA W x with ⟨a1,e1⟩|⟨a1,a2,e1⟩|⟨a1,a2,e1⟩<;>rcases jpLA H y with ⟨b1,e2⟩|⟨b1,b2,e2⟩|⟨b1,b2,e2⟩
 all_goals
  have E1:=hide e1
  have E2:=hide e2
  clear e1 e2
  go_enter Tryz.func283,Tryz.ntmps283
  go_wp2
  all_goals exact bodyPost_ret (v:=.agg #[.int .i64 (near W x),.int .i64 (near H y)]) (by simp[results,Tryz.results283,go_sem,E1.out,E2.out]) rfl ⟨rfl,be3 _ _ _ _⟩
end Go.Proofs.YtfjeonehdlphiaaGreatDoor
namespace Go.Proofs.YtfjeonehdlphiaaGreatDoor
open Go.RowKit Go.Shelf
attribute [local go_sem] Oper.semAt_some
def nOf (k:Nat):Nat:=if k<4 then k else k+1
def posOf (n:Nat):Nat:=if n≤4 then n else n-1
theorem zMht (n:Nat) (h:n≠4):posOf (n+1)=posOf n+1:=by unfold posOf;split<;>split<;>omega
theorem qYaj (n:Nat) (h:n≠4):nOf (posOf n)=n:=by unfold nOf posOf;split<;>split<;>omega
theorem z1dO (n:Nat) (h:n<9):posOf n<8:=by unfold posOf;split<;>omega
theorem zJHU (F:Fence) (n:Nat) (hf:F.fn 128) (hro:F.round=none) (X Y:Int) (w:World) :
  CallsIn F n Tryz.prog 128 #[.agg #[.int .i64 X,.int .i64 Y]] w fun e w'=>e=.returned (.func (.func 184) #[] #[.pointer (some ⟨w.heap.size,0,none⟩)])∧w'=w.alloc (.cells #[.int .i64 X,.int .i64 Y] 97):=by
 refine callsIn_of_wp Tryz.func128 rfl hf ?_ hro
 simp only[Tryz.ntmps128,List.size_toArray,List.length_cons,List.length_nil,Nat.reduceAdd,Nat.reduceSub,Array.replicate_succ,Array.replicate_zero,List.push_toArray,List.append_toArray,List.nil_append,List.cons_append]
 gi_wp2
 go_ret
 exact ⟨rfl,rfl⟩
theorem XdxO (F:Fence) (n:Nat) (hf:F.fn 184) (hro:F.round=none) (hn:1≤n) (l Bs X Y:Nat) (hX:X≤64) (hY0:Y≤64) (J Jx:List (Fin 8)→World→Prop) (hJa:∀s W o,J s W→J s (W.alloc o))
  (hY:∀pre (x:Fin 8) V,J pre V→pre.length<8→YieldAt F (n-1) Tryz.prog l #[.agg #[.int .i64 ((X:Int)-1+(nOf x.1 % 3:Nat)),.int .i64 ((Y:Int)-1+(nOf x.1 / 3:Nat))]] V fun e V' =>
   (e=.returned (.bool true)∧J (pre++[x]) V'∧KeepB Bs V V')∨(e=.returned (.bool false)∧Jx (pre++[x]) V'))
  (V:World) (hc0:V.cell? ⟨Bs,0,none⟩=some (.int .i64 X)) (hc1:V.cell? ⟨Bs,1,none⟩=some (.int .i64 Y)) (h0:J [] V) :
  CallsIn F n Tryz.prog 184 #[.func (.yield l) #[] #[],.pointer (some ⟨Bs,0,none⟩)] V fun e V'=>(∃v,e=.returned v) ∧
   ((∃ys,ys=List.finRange 8∧J ys V')∨(∃pre,pre <+: List.finRange 8∧Jx pre V')):=by
 refine callsIn_of_wp Tryz.func184 rfl hf ?_ hro
 simp only[Tryz.ntmps184,List.size_toArray,List.length_cons,List.length_nil,Nat.reduceAdd,Nat.reduceSub,Array.replicate_succ,Array.replicate_zero,List.push_toArray,List.append_toArray,List.nil_append,List.cons_append]
 gi_wp2
 gi_loopw [3] (fun i wr=>∃(b:Nat) (yb:Int),b≤3∧Hid (yb=(Y:Int)-1+(b:Nat))∧i=.int .i64 yb∧J (idx 8 (posOf (3*b))) wr∧wr.cell? ⟨Bs,0,none⟩=some (.int .i64 X)∧wr.cell? ⟨Bs,1,none⟩=some (.int .i64 Y)) (fun i _=>((Y:Int)+2-intOf i).toNat)
 case atStart=>exact ⟨0,(Y:Int)-1,by omega,hide (by simp),rfl,h0,hc0,hc1⟩
 case round =>
  obtain ⟨b,yb,hb,HYB,rfl,hJ,c0,c1⟩:=hrel
  clear hc0 hc1 h0
  by_cases hlt:b<3
  ·have hd:decide (yb≤(Y:Int)+1)=true:=by have:=HYB.out;simp;omega
   have hyb0:-1≤yb∧yb≤66:=by have:=HYB.out;omega
   obtain ⟨hyb0,hyb1⟩:=hyb0
   gi_wp2
   gi_loopw [4] (fun i wr=>∃(a:Nat) (xa:Int),a≤3∧Hid (xa=(X:Int)-1+(a:Nat))∧i=.int .i64 xa∧J (idx 8 (posOf (3*b+a))) wr∧wr.cell? ⟨Bs,0,none⟩=some (.int .i64 X)∧wr.cell? ⟨Bs,1,none⟩=some (.int .i64 Y)) (fun i _=>((X:Int)+2-intOf i).toNat)
   case atStart=>exact ⟨0,(X:Int)-1,by omega,hide (by simp),rfl,hJ,c0,c1⟩
   case round =>
    clear hJ c0 c1
    obtain ⟨a,xa,ha,HXA,rfl,hJ,c0,c1⟩:=hrel
    have hbs:Bs<wr.heap.size:=World.block_lt_of_cell? wr _ c0
    have hxa0:-1≤xa∧xa≤66:=by have:=HXA.out;omega
    obtain ⟨hxa0,hxa1⟩:=hxa0
    by_cases hal:a<3
    ·have hd2:decide (xa≤(X:Int)+1)=true:=by have:=HXA.out;simp;omega
     have k0:=(World.cell?_of_block (a:=⟨Bs,0,none⟩) (Below.heap_alloc wr (ka #[.int .i64 xa,.int .i64 yb] 97) Bs hbs)).trans c0
     have k1:=(World.cell?_of_block (a:=⟨Bs,1,none⟩) (Below.heap_alloc wr (ka #[.int .i64 xa,.int .i64 yb] 97) Bs hbs)).trans c1
     have HNX:=hide (show xa+1=(X:Int)-1+((a+1:Nat):Int) by have:=HXA.out;omega)
     have hms:((X:Int)+2-(xa+1)).toNat<((X:Int)+2-xa).toNat:=by have:=HXA.out;omega
     by_cases hcen:a=1∧b=1
     ·obtain rfl:xa=(X:Int):=by have:=HXA.out;omega
      obtain rfl:yb=(Y:Int):=by have:=HYB.out;omega
      have HP:=hide (show posOf (3*b+(a+1))=posOf (3*b+a) by rw[hcen.1,hcen.2];rfl)
      clear hcen
      gi_wp2
      refine ⟨fun _ h=>(by cases h),?_⟩
      gi_wp2
      go_roundw
      case rel=>exact ⟨a+1,_,by omega,HNX,rfl,by rw[HP.out];exact hJa _ _ _ hJ,k0,k1⟩
      case measure=>simpa [intOf] using hms
     ·have hn4:3*b+a≠4:=by omega
      have hplt:=z1dO (3*b+a) (by omega)
      have hYx:=hY (idx 8 (posOf (3*b+a))) ⟨posOf (3*b+a),hplt⟩ (wr.alloc (ka #[.int .i64 xa,.int .i64 yb] 97)) (hJa _ _ _ hJ) (by rw[zBZc _ _ (Nat.le_of_lt hplt)];exact hplt)
      simp only[qYaj (3*b+a) hn4,show (3*b+a) % 3=a by omega,show (3*b+a) / 3=b by omega] at hYx
      rw[←HXA.out,←HYB.out] at hYx
      obtain ⟨fn,tmps,assign,body,hy',hR⟩:=hYx
      have HSP:=hide (show idx 8 (posOf (3*b+(a+1)))=idx 8 (posOf (3*b+a))++[⟨posOf (3*b+a),hplt⟩] by
       rw[←zbJt 8 _ hplt,←zMht _ hn4];rfl)
      have HPR:=hide (show idx 8 (posOf (3*b+a))++[⟨posOf (3*b+a),hplt⟩] <+: List.finRange 8 by
       rw[←zbJt 8 _ hplt];exact zq3o 8 _)
      have hor:(¬xa=(X:Int))∨(xa=(X:Int)∧¬yb=(Y:Int)):=by have:=HXA.out;have:=HYB.out;omega
      clear hn4
      rcases hor with hxa|⟨hxa,hyb⟩
      ·gi_wp2
       refine hR.mono ?_
       rintro e V3 (⟨rfl,hJ3,hk3⟩|⟨rfl,hJx3⟩)
       ·have c3:=(World.cell?_of_block (a:=⟨Bs,0,none⟩) hk3).trans k0
        have c4:=(World.cell?_of_block (a:=⟨Bs,1,none⟩) hk3).trans k1
        rw[←HSP.out] at hJ3
        gi_wp2
        go_roundw
        case rel=>exact ⟨a+1,_,by omega,HNX,rfl,hJ3,c3,c4⟩
        case measure=>simpa [intOf] using hms
       ·gi_wp2
        refine bodyPost_ret (results_none rfl _ _ _) rfl ?_
        exact ⟨⟨_,rfl⟩,.inr ⟨_,HPR.out,hJx3⟩⟩
      ·subst hxa
       gi_wp2
       refine hR.mono ?_
       rintro e V3 (⟨rfl,hJ3,hk3⟩|⟨rfl,hJx3⟩)
       ·have c3:=(World.cell?_of_block (a:=⟨Bs,0,none⟩) hk3).trans k0
        have c4:=(World.cell?_of_block (a:=⟨Bs,1,none⟩) hk3).trans k1
        rw[←HSP.out] at hJ3
        gi_wp2
        go_roundw
        case rel=>exact ⟨a+1,_,by omega,HNX,rfl,hJ3,c3,c4⟩
        case measure=>simpa [intOf] using hms
       ·gi_wp2
        refine bodyPost_ret (results_none rfl _ _ _) rfl ?_
        exact ⟨⟨_,rfl⟩,.inr ⟨_,HPR.out,hJx3⟩⟩
    ·have hd2:decide (xa≤(X:Int)+1)=false:=by have:=HXA.out;simp;omega
     obtain rfl:a=3:=by omega
     have HNY:=hide (show yb+1=(Y:Int)-1+((b+1:Nat):Int) by have:=HYB.out;omega)
     have hms:((Y:Int)+2-(yb+1)).toNat<((Y:Int)+2-yb).toNat:=by have:=HYB.out;omega
     gi_wp2
     go_roundw
     case rel=>exact ⟨b+1,_,by omega,HNY,rfl,hJ,c0,c1⟩
     case measure=>simpa [intOf] using hms
  ·obtain rfl:b=3:=by omega
   have hd:decide (yb≤(Y:Int)+1)=false:=by have:=HYB.out;simp;omega
   gi_wp2
   go_end0
   exact ⟨⟨_,rfl⟩,.inl ⟨_,by rw[←jEoj];rfl,hJ⟩⟩
theorem jMfn (F:Fence) (n:Nat) (hf:F.fn 184) (hro:F.round=none) (hn:1≤n) (Bs X Y:Nat) (hX:X≤64) (hY0:Y≤64) (w:World) (hBw:Bs<w.heap.size)
  (hc0:w.cell? ⟨Bs,0,none⟩=some (.int .i64 X)) (hc1:w.cell? ⟨Bs,1,none⟩=some (.int .i64 Y)) :
  SeqStopsK F n Tryz.prog 184 #[.pointer (some ⟨Bs,0,none⟩)] (fun x:Fin 8=>#[Value.agg #[.int .i64 ((X:Int)-1+(nOf x.1 % 3:Nat)),.int .i64 ((Y:Int)-1+(nOf x.1 / 3:Nat))]]) (KeepB Bs) (fun ys=>ys=List.finRange 8) (fun pre=>pre <+: List.finRange 8) 8 w:=fun l J Jx V hV hJ _ hY h0 =>
 XdxO F n hf hro hn l Bs X Y hX hY0 J Jx (fun s W o h=>hJ s W (W.alloc o) none h (World.grownBy_alloc W o none) (fun r e=>by cases e)) hY V ((hV.cell (p:=⟨Bs,0,none⟩) hBw).trans hc0) ((hV.cell (p:=⟨Bs,1,none⟩) hBw).trans hc1) h0
end Go.Proofs.YtfjeonehdlphiaaGreatDoor
namespace Go.Proofs.YtfjeonehdlphiaaGreatDoor
open Go.RowKit
def pxAt (ps:List Px) (j:Nat):Px:=ps.getD j (0,0,0)
theorem jD3W (ps:List Px) (i:Nat) (h:i<ps.length):ps[i]=pxAt ps i:=by simp[pxAt,km,kg h]
theorem z1DB {ps:List Px} (h:pxsOk ps=true) (j:Nat):pxOk (pxAt ps j)=true:=by
 by_cases hj:j<ps.length
 ·rw[←jD3W ps j hj];exact List.all_eq_true.1 h _ (List.getElem_mem hj)
 ·rw[pxAt,km,List.getElem?_eq_none (by omega)];rfl
def wIx (W H X Y:Nat) (k:Nat):Nat:=(near H ((Y:Int)-1+(nOf k / 3:Nat))).toNat*W+(near W ((X:Int)-1+(nOf k % 3:Nat))).toNat
def wWt (k:Nat):Int:=if nOf k % 3=1∨nOf k / 3=1 then 2 else 1
def wF (ps:List Px) (W H X Y:Nat) (pre:List (Fin 8)):Px:=pre.foldl (fun s x=>addP s (wWt x.1) (pxAt ps (wIx W H X Y x.1))) (addP (0,0,0) 4 (pxAt ps (Y*W+X)))
theorem zYcT (ps:List Px) (W H X Y:Nat) (pre:List (Fin 8)) (x:Fin 8):wF ps W H X Y (pre++[x])=addP (wF ps W H X Y pre) (wWt x.1) (pxAt ps (wIx W H X Y x.1)):=by simp[wF]
theorem XW1U (k:Nat):0≤wWt k∧wWt k≤2:=by unfold wWt;split<;>omega
theorem zVA9 {m n:Int} {s p:Px} {k:Int} (hs:X9Co m s) (hp:pxOk p=true) (h0:0≤k) (h1:k≤n):X9Co (m+n) (addP s k p):=by
 obtain ⟨⟨r1,r2⟩,⟨g1,g2⟩,u1,u2⟩:=(X1aR p).1 hp
 obtain ⟨⟨s1,s2⟩,⟨s3,s4⟩,s5,s6⟩:=hs
 obtain ⟨m1,m2⟩:=qpn3 h0 h1 r1 r2
 obtain ⟨m3,m4⟩:=qpn3 h0 h1 g1 g2
 obtain ⟨m5,m6⟩:=qpn3 h0 h1 u1 u2
 have e:(m+n)*65535=m*65535+n*65535:=Int.add_mul _ _ _
 refine ⟨⟨?_,?_⟩,⟨?_,?_⟩,?_,?_⟩<;>(simp only[addP];omega)
theorem qa6R {ps:List Px} (h:pxsOk ps=true) (W H X Y:Nat) (pre:List (Fin 8)) (m:Int) (s:Px) (hs:X9Co m s):X9Co (m+2*(pre.length:Int)) (pre.foldl (fun s x=>addP s (wWt x.1) (pxAt ps (wIx W H X Y x.1))) s):=by
 induction pre generalizing m s with
 | nil=>simpa using hs
 | cons x pre ih =>
  have:=ih (m+2) _ (zVA9 hs (z1DB h (wIx W H X Y x.1)) (XW1U x.1).1 (XW1U x.1).2)
  rw[show (m+2)+2*(pre.length:Int)=m+2*((x::pre).length:Int) by simp;omega] at this
  exact this
theorem jdoM {ps:List Px} (h:pxsOk ps=true) (W H X Y:Nat) (pre:List (Fin 8)):X9Co (4+2*(pre.length:Int)) (wF ps W H X Y pre) :=
 qa6R h W H X Y pre 4 _ (zVA9 (m:=0) (n:=4) (s:=(0,0,0)) (k:=4) ⟨⟨by decide,by decide⟩,⟨by decide,by decide⟩,by decide,by decide⟩ (z1DB h (Y*W+X)) (by omega) (by omega))
theorem qf9w {m n:Int} {p:Px} (h:X9Co m p) (hm:m≤n):X9Co n p:=by
 obtain ⟨⟨s1,s2⟩,⟨s3,s4⟩,s5,s6⟩:=h
 refine ⟨⟨s1,?_⟩,⟨s3,?_⟩,s5,?_⟩<;>omega
theorem wIx_lt {W H:Nat} (hW:1≤W) (hH:1≤H) (X Y k:Nat):wIx W H X Y k<H*W:=by
 obtain ⟨a1,a2⟩:=Xxtr H ((Y:Int)-1+(nOf k / 3:Nat)) (by omega)
 obtain ⟨b1,b2⟩:=Xxtr W ((X:Int)-1+(nOf k % 3:Nat)) (by omega)
 unfold wIx
 generalize near H ((Y:Int)-1+(nOf k / 3:Nat))=a at *
 generalize near W ((X:Int)-1+(nOf k % 3:Nat))=b at *
 obtain ⟨A,rfl⟩:=kh a1
 obtain ⟨B,rfl⟩:=kh b1
 simp only[Int.toNat_natCast]
 have h1:(A+1)*W≤H*W:=Nat.mul_le_mul_right _ (by omega)
 rw[Nat.succ_mul] at h1
 omega
theorem j7Ww {et ct:TypeId} {sz:Nat} (ce:ct≠et) {W' V1 w1 w:World} {base PB:Nat} {x y:Value} {so:Option Addr} {scap k m g cap:Nat} {xs ys:List Value}
  (i1:W'.heap[PB]?=some (.cells #[x,y,.slice so k scap] ct (0,0))) (i2:W'.ownsRow base et sz (.slice so k scap) k xs)
  (i5:Below w.heap.size w W') (hb:w.heap.size≤base) (hPB:w.heap.size≤PB) (hV1:Below W'.heap.size W' V1) (hg:V1.grownBy w1 (Value.slice so k scap).ownBlock)
  (ho:w1.ownsRow base et sz (.slice (some ⟨g,0,none⟩) m cap) m ys) :
  (∀b,b<W'.heap.size→some b≠(Value.slice so k scap).ownBlock→w1.heap[b]?=W'.heap[b]?)∧w1.cell? ⟨PB,2,none⟩=some (.slice so k scap)∧w1.frozen? ⟨PB,2,none⟩=false ∧
   (w1.setCell ⟨PB,2,none⟩ (.slice (some ⟨g,0,none⟩) m cap)).heap[PB]?=some (.cells #[x,y,.slice (some ⟨g,0,none⟩) m cap] ct (0,0)) ∧
   (w1.setCell ⟨PB,2,none⟩ (.slice (some ⟨g,0,none⟩) m cap)).ownsRow base et sz (.slice (some ⟨g,0,none⟩) m cap) m ys∧Below w.heap.size w (w1.setCell ⟨PB,2,none⟩ (.slice (some ⟨g,0,none⟩) m cap)) ∧
   (∀b,b<W'.heap.size→some b≠(Value.slice so k scap).ownBlock→b≠PB→(w1.setCell ⟨PB,2,none⟩ (.slice (some ⟨g,0,none⟩) m cap)).heap[b]?=W'.heap[b]?):=by
 have hs:=hV1.size
 have keep:∀b,b<W'.heap.size→some b≠(Value.slice so k scap).ownBlock→w1.heap[b]?=W'.heap[b]?:=fun b hb hne=>by
  rw[hg.block b (by omega) hne,hV1.block b hb]
 have l1:=(kb.1 i1).1
 have kP:=(keep PB l1 (qYYy i2 i1 ce)).trans i1
 have hc:=heap_setCell_same w1 PB 2 _ _ (.slice (some ⟨g,0,none⟩) m cap) kP
 refine ⟨keep,by rw[kd kP];rfl,kc kP 2,by rw[hc];rfl,ownsRow_setCell_other ho (fun e=>qYYy ho kP ce e.symm) _,?_,fun b hb hne hn=>(kl _ _ _ _ hn).trans (keep b hb hne)⟩
 exact ((i5.trans (hV1.mono i5.size)).grown hg (by have:=i5.size;omega) (fun j hj=>kk hb (i2.lt j hj).1)).setCell (p:=⟨PB,2,none⟩) hPB _
end Go.Proofs.YtfjeonehdlphiaaGreatDoor
