/- Sw: part 9 of what the proofs need. -/
import Derived.Test.YtfjeonehdlphiaaGreatDoorC3Sw
import Derived.Test.YtfjeonehdlphiaaGreatDoorC7Sw
import Derived.Test.YtfjeonehdlphiaaGreatDoorC8Sw
import Derived.Deep.RegionHeld3
import Derived.Deep.AppendLies
set_option linter.unusedVariables false
set_option maxHeartbeats 1600000
set_option maxRecDepth 100000
namespace Go.Proofs.YtfjeonehdlphiaaGreatDoor
open Go.RowKit Go.Shelf
attribute [local go_sem] Oper.semAt_some
theorem KeepB.trans' {Bg:Nat} {A B C:World} (h:KeepB Bg A B) (k:KeepB Bg B C):KeepB Bg A C:=Eq.trans k h
theorem qMCQ {Bg l:Nat} {X:World} {o:Obj} (h:Bg≠l):KeepB Bg X (X.putObj l o):=by
 show (X.putObj l o).heap[Bg]?=X.heap[Bg]?
 unfold World.putObj
 simp[Ne.symm h]
theorem XpIb {B:Nat} {a w:World} (h:Below B a w):Below B a w.drew:=h.drew
theorem jIfE (F:Fence) (n:Nat) (hf:F.fn 102) (hro:F.round=none) (W H:Int) (w:World) :
  CallsIn F n Tryz.prog 102 #[.agg #[.int .i64 W,.int .i64 H]] w fun e w'=>e=.returned (.func (.func 154) #[] #[.pointer (some ⟨w.heap.size,0,none⟩)])∧w'=w.alloc (.cells #[.int .i64 W,.int .i64 H] 95):=by
 refine callsIn_of_wp Tryz.func102 rfl hf ?_ hro
 simp only[Tryz.ntmps102,List.size_toArray,List.length_cons,List.length_nil,Nat.reduceAdd,Nat.reduceSub,Array.replicate_succ,Array.replicate_zero,List.push_toArray,List.append_toArray,List.nil_append,List.cons_append]
 gi_wp2
 go_ret
 exact ⟨rfl,rfl⟩
theorem joPr (F:Fence) (n:Nat) (hf:F.fn 154) (hro:F.round=none) (hn:1≤n) (Bg W H N:Nat) (hW:W≤64) (hH:H≤64) (hN:N=H*W) (w:World) (hBw:Bg<w.heap.size)
  (hc0:w.cell? ⟨Bg,0,none⟩=some (.int .i64 W)) (hc1:w.cell? ⟨Bg,1,none⟩=some (.int .i64 H)) :
  SeqStopsK F n Tryz.prog 154 #[.pointer (some ⟨Bg,0,none⟩)] (fun x:Fin N=>#[Value.agg #[.int .i64 (x.1 % W:Nat),.int .i64 (x.1 / W:Nat)]]) (KeepB Bg) (fun ys=>ys=List.finRange N) (fun pre=>pre <+: List.finRange N) N w:=fun l J Jx V hV _ _ hY h0 =>
 j95T F n hf hro hn l Bg W H N hW hH hN J Jx hY V ((hV.cell (p:=⟨Bg,0,none⟩) hBw).trans hc0) ((hV.cell (p:=⟨Bg,1,none⟩) hBw).trans hc1) h0
end Go.Proofs.YtfjeonehdlphiaaGreatDoor
namespace Go.Proofs.YtfjeonehdlphiaaGreatDoor
open Go.RowKit
theorem qYYy {V:World} {base:Nat} {et:TypeId} {sz:Nat} {v:Value} {n:Nat} {xs:List Value} (h:V.ownsRow base et sz v n xs) {b:Nat} {cs:Array Value} {t:TypeId} {fr:Nat×Nat} (hb:V.heap[b]?=some (.cells cs t fr)) (ht:t≠et):some b≠v.ownBlock:=by
 rcases h.2 with ⟨hv,_⟩|⟨g,cap,cur,hv,_,hg,_⟩
 ·rw[hv];simp[Value.ownBlock]
 ·rw[hv]
  simp only[Value.ownBlock]
  intro e
  simp only[Option.some.injEq] at e
  subst e
  rw[hb] at hg
  simp only[Option.some.injEq,Obj.cells.injEq] at hg
  exact ht hg.2.1
theorem jlft {V:World} {base:Nat} {et:TypeId} {sz:Nat} {v:Value} {n:Nat} {xs:List Value} (h:V.ownsRow base et sz v n xs) {b:Nat} {o:Obj} (hb:V.heap[b]?=some o) (ho:o.isCells=false):some b≠v.ownBlock:=by
 rcases h.2 with ⟨hv,_⟩|⟨g,cap,cur,hv,_,hg,_⟩
 ·rw[hv];simp[Value.ownBlock]
 ·rw[hv]
  simp only[Value.ownBlock]
  intro e
  simp only[Option.some.injEq] at e
  subst e
  rw[hb] at hg
  cases hg
  simp[Obj.isCells] at ho
theorem XPKi {w:World} {base:Nat} {e:TypeId} {sz:Nat} {v:Value} {n:Nat} {xs:List Value} (h:w.ownsRow base e sz v n xs):∃ao cap,v=.slice ao n cap:=by
 rcases h.2 with ⟨hv,hn⟩|⟨g,cap,cur,hv,_⟩
 ·exact ⟨none,0,by rw[hv,hn]⟩
 ·exact ⟨_,_,hv⟩
theorem qU4N {ops:Array Oper} (h:(ops.toList.all fun o=>match o.op with | .defer _=>false|_=>true)=true):jj84 ops:=by
 intro i o ho c hc
 have hm:o∈ops.toList:=by
  rw[←Array.getElem?_toList] at ho
  exact List.mem_of_getElem? ho
 have:=List.all_eq_true.1 h o hm
 rw[hc] at this
 cases this
theorem qLYA {B:Nat} {X Y:World} {row:Option Nat} (hg:X.grownBy Y row) (hr:∀r,row=some r→B≤r∧∃o:Obj,X.heap[r]?=some o∧o.isCells=false) {b:Nat} {cs:Array Value} {t:TypeId} {fr:Nat×Nat} (h:X.heap[b]?=some (.cells cs t fr)):Y.heap[b]?=some (.cells cs t fr):=by
 refine (hg.block b (Array.getElem?_eq_some_iff.1 h).1 (fun e=>?_)).trans h
 obtain ⟨_,o,ho,hc⟩:=hr b e.symm
 rw[h] at ho;cases ho;cases hc
theorem jg0p {B:Nat} {X Y:World} {row:Option Nat} (hg:X.grownBy Y row) (hr:∀r,row=some r→B≤r∧∃o:Obj,X.heap[r]?=some o∧o.isCells=false) {base:Nat} {et:TypeId} {sz:Nat} {v:Value} {n:Nat} {xs:List Value} (h:X.ownsRow base et sz v n xs):Y.ownsRow base et sz v n xs:=by
 refine h.kept hg ?_
 by_cases hv:v.ownBlock=none
 ·exact .inl hv
 ·refine .inr fun e=>?_
  cases hrow:row with
  | none=>rw[hrow] at e;exact hv e
  | some r =>
   obtain ⟨_,o,ho,hc⟩:=hr r hrow
   exact jlft h ho hc (by rw[e,hrow])
theorem XXqf {et ct ft gt xt:TypeId} {sz:Nat} (ce:ct≠et) (fe:ft≠et) (ge:gt≠et) (xe:xt≠et) (cf:ct≠ft) (cg:ct≠gt) (cx:ct≠xt)
  {W' V1 w1 w:World} {base PB Bt Br Bx Bg B0:Nat} {W H:Int} {so:Option Addr} {scap n g cap:Nat} {fn x0 x1:Value} {es:Array Value} {xs:List Value}
  (i1:W'.heap[PB]?=some (.cells #[.int .i64 W,.int .i64 H,.slice so n scap] ct (0,0))) (i2:W'.ownsRow base et sz (.slice so n scap) n xs)
  (i3:W'.heap[Bt]?=some (.cells #[fn] ft (0,0))) (i4:W'.heap[Br]?=some (.cells #[.int .i64 0,.int .i64 0,.slice none 0 0] ct (0,0)))
  (i6:W'.heap[Bg]?=some (.cells #[.int .i64 W,.int .i64 H] gt (0,0))) (bX:W'.heap[Bx]?=some (.cells #[x0,x1] xt (0,0)))
  (i5:Below w.heap.size w W') (hbase:w.heap.size≤base) (hPw:w.heap.size≤PB) (hPR:PB≠Br)
  (hV1:Below W'.heap.size W' V1) (hg:(V1.alloc (Obj.cells es et)).grownBy w1 (Value.slice so n scap).ownBlock)
  (ho:w1.ownsRow base et sz (.slice (some ⟨g,0,none⟩) (n+1) cap) (n+1) (xs++es.toList)) :
  (w1.cell? ⟨Bt,0,none⟩=some fn∧w1.cell? ⟨Bx,0,none⟩=some x0∧w1.cell? ⟨Bx,1,none⟩=some x1)∧w1.cell? ⟨PB,2,none⟩=some (.slice so n scap)∧w1.frozen? ⟨PB,2,none⟩=false ∧
  (((w1.setCell ⟨PB,2,none⟩ (.slice (some ⟨g,0,none⟩) (n+1) cap)).cell? ⟨Bt,0,none⟩=some fn∧(w1.setCell ⟨PB,2,none⟩ (.slice (some ⟨g,0,none⟩) (n+1) cap)).cell? ⟨Bx,0,none⟩=some x0∧(w1.setCell ⟨PB,2,none⟩ (.slice (some ⟨g,0,none⟩) (n+1) cap)).cell? ⟨Bx,1,none⟩=some x1) ∧
   (KeepsFrom B0 W' (w1.setCell ⟨PB,2,none⟩ (.slice (some ⟨g,0,none⟩) (n+1) cap))∧KeepB Bg W' (w1.setCell ⟨PB,2,none⟩ (.slice (some ⟨g,0,none⟩) (n+1) cap)) ∧
    ((∃v,(w1.setCell ⟨PB,2,none⟩ (.slice (some ⟨g,0,none⟩) (n+1) cap)).heap[PB]?=some (.cells #[.int .i64 W,.int .i64 H,v] ct (0,0))∧(w1.setCell ⟨PB,2,none⟩ (.slice (some ⟨g,0,none⟩) (n+1) cap)).ownsRow base et sz v (n+1) (xs++es.toList)) ∧
     (w1.setCell ⟨PB,2,none⟩ (.slice (some ⟨g,0,none⟩) (n+1) cap)).heap[Bt]?=some (.cells #[fn] ft (0,0))∧(w1.setCell ⟨PB,2,none⟩ (.slice (some ⟨g,0,none⟩) (n+1) cap)).heap[Br]?=some (.cells #[.int .i64 0,.int .i64 0,.slice none 0 0] ct (0,0)) ∧
     (w1.setCell ⟨PB,2,none⟩ (.slice (some ⟨g,0,none⟩) (n+1) cap)).heap[Bg]?=some (.cells #[.int .i64 W,.int .i64 H] gt (0,0))∧Below w.heap.size w (w1.setCell ⟨PB,2,none⟩ (.slice (some ⟨g,0,none⟩) (n+1) cap))))):=by
 have keep:∀b o,W'.heap[b]?=some o→some b≠(Value.slice so n scap).ownBlock→w1.heap[b]?=some o:=fun b o hb hne=>by
  have hl:=(Array.getElem?_eq_some_iff.1 hb).1
  have hs:=hV1.size
  rw[hg.block b (by simp;omega) hne,Below.heap_alloc _ _ _ (by omega),hV1.block b hl];exact hb
 have kP:=keep PB _ i1 (qYYy i2 i1 ce)
 have kT:=keep Bt _ i3 (qYYy i2 i3 fe)
 have kR:=keep Br _ i4 (qYYy i2 i4 ce)
 have kG:=keep Bg _ i6 (qYYy i2 i6 ge)
 have kX:=keep Bx _ bX (qYYy i2 bX xe)
 have nT:PB≠Bt:=fun e=>by rw[e] at i1;rw[i1] at i3;simp only[Option.some.injEq,Obj.cells.injEq] at i3;exact cf i3.2.1
 have nG:PB≠Bg:=fun e=>by rw[e] at i1;rw[i1] at i6;simp only[Option.some.injEq,Obj.cells.injEq] at i6;exact cg i6.2.1
 have nX:PB≠Bx:=fun e=>by rw[e] at i1;rw[i1] at bX;simp only[Option.some.injEq,Obj.cells.injEq] at bX;exact cx bX.2.1
 have fT:=(Below.heap_setCell w1 ⟨PB,2,none⟩ (.slice (some ⟨g,0,none⟩) (n+1) cap) Bt (Ne.symm nT)).trans kT
 have fR:=(Below.heap_setCell w1 ⟨PB,2,none⟩ (.slice (some ⟨g,0,none⟩) (n+1) cap) Br (Ne.symm hPR)).trans kR
 have fG:=(Below.heap_setCell w1 ⟨PB,2,none⟩ (.slice (some ⟨g,0,none⟩) (n+1) cap) Bg (Ne.symm nG)).trans kG
 have fX:=(Below.heap_setCell w1 ⟨PB,2,none⟩ (.slice (some ⟨g,0,none⟩) (n+1) cap) Bx (Ne.symm nX)).trans kX
 refine ⟨⟨by rw[Lib.cell_of_heap kT];rfl,by rw[Lib.cell_of_heap kX];rfl,by rw[Lib.cell_of_heap kX];rfl⟩,by rw[Lib.cell_of_heap kP];rfl,Lib.frozen_of_heap kP 2,
  ⟨by rw[Lib.cell_of_heap fT];rfl,by rw[Lib.cell_of_heap fX];rfl,by rw[Lib.cell_of_heap fX];rfl⟩,?_,by rw[KeepB,fG,i6],⟨_,?_,ownsRow_setCell_other ho (fun e=>qYYy ho kP ce e.symm) _⟩,fT,fR,fG,?_⟩
 ·refine ⟨?_,fun k o _ hk hoc=>?_⟩
  ·have h1:=hV1.size
   have h2:=hg.size
   simp only[World.size_alloc] at h2
   simp only[World.setCell,Array.size_modify]
   omega
  ·rw[Below.heap_setCell _ _ _ _ (fun e=>by rw[show k=PB from e,i1] at hk;cases hk;simp[Obj.isCells] at hoc)]
   exact keep k o hk (jlft i2 hk hoc)
 ·have:=heap_setCell_same w1 PB 2 _ _ (.slice (some ⟨g,0,none⟩) (n+1) cap) kP
  rw[this];rfl
 ·have hs:=hV1.size
  exact ((((i5.trans (hV1.mono i5.size)).alloc (by have:=i5.size;omega) _).grown hg (by have:=i5.size;simp;omega) (fun j hj=>Nat.le_trans hbase (i2.lt j hj).1))).setCell (p:=⟨PB,2,none⟩) hPw _
theorem X0Wz {W':World} {Br:Nat} {ct:TypeId} {a b c:Value} (i4:W'.heap[Br]?=some (.cells #[a,b,c] ct (0,0))) (x y z:Value) (w:World) (hBr:w.heap.size≤Br) (i5:Below w.heap.size w W') :
  (((W'.setCell ⟨Br,0,none⟩ x).setCell ⟨Br,1,none⟩ y).setCell ⟨Br,2,none⟩ z).heap[Br]?=some (.cells #[x,y,z] ct (0,0))∧(∀k,k≠Br→(((W'.setCell ⟨Br,0,none⟩ x).setCell ⟨Br,1,none⟩ y).setCell ⟨Br,2,none⟩ z).heap[k]?=W'.heap[k]?) ∧
   (((W'.setCell ⟨Br,0,none⟩ x).setCell ⟨Br,1,none⟩ y).setCell ⟨Br,2,none⟩ z).heap.size=W'.heap.size∧Below w.heap.size w (((W'.setCell ⟨Br,0,none⟩ x).setCell ⟨Br,1,none⟩ y).setCell ⟨Br,2,none⟩ z):=by
 refine ⟨?_,fun k hk=>?_,by simp[World.setCell],((i5.setCell (p:=⟨Br,0,none⟩) hBr _).setCell (p:=⟨Br,1,none⟩) hBr _).setCell (p:=⟨Br,2,none⟩) hBr _⟩
 ·have h1:=heap_setCell_same W' Br 0 _ _ x i4
  have h2:=heap_setCell_same _ Br 1 _ _ y h1
  have h3:=heap_setCell_same _ Br 2 _ _ z h2
  rw[h3];rfl
 ·rw[Below.heap_setCell _ _ _ _ hk,Below.heap_setCell _ _ _ _ hk,Below.heap_setCell _ _ _ _ hk]
theorem jNsf {W' X:World} {Br:Nat} (h:∀k,k≠Br→X.heap[k]?=W'.heap[k]?) {base:Nat} {et:TypeId} {sz:Nat} {v:Value} {n:Nat} {xs:List Value} (hne:some Br≠v.ownBlock) (ho:W'.ownsRow base et sz v n xs):X.ownsRow base et sz v n xs:=by
 refine ⟨ho.1,?_⟩
 rcases ho.2 with ho|⟨g,cap,cur,hv,hg,hh,r⟩
 ·exact .inl ho
 ·refine .inr ⟨g,cap,cur,hv,hg,?_,r⟩
  rw[h g (fun e=>hne (by rw[hv,e];rfl))];exact hh
end Go.Proofs.YtfjeonehdlphiaaGreatDoor
namespace Go.Proofs.YtfjeonehdlphiaaGreatDoor
open Go.RowKit Go.Shelf
attribute [local go_sem] Oper.semAt_some
theorem XMhx (W H N:Nat) (hW:W≤64) (hH:H≤64) (hNHW:N=H*W) (tf:Nat) (caps:Array Value) (T:Nat→Int×Int×Int) (w:World) (eg:∀args w,(callFunc tf args).run Tryz.prog w=.ok (.enter tf args) w)
    (htell:∀(j:Nat) (V:World),j<N→Below w.heap.size w V→Calls Tryz.prog tf (#[.agg #[.int .i64 (j % W:Nat),.int .i64 (j / W:Nat)]]++caps) V fun e V'=>e=.returned (pixV (T j))∧Below V.heap.size V V') :
    Calls Tryz.prog 40 #[.agg #[.int .i64 W,.int .i64 H],.func (.func tf) #[] caps] w fun e w'=>∃r,e=.returned (.agg #[.int .i64 W,.int .i64 H,r])∧IsPix w' r ((List.range N).map T)∧Below w.heap.size w w'∧Fresh w.heap.size r:=by
  obtain ⟨i0,hi,hz0,hz1,hz2⟩:=info_parts Tryz.infoPixel
  refine (callsIn_wide (n:=3)).1 ?_
  refine callsIn_of_wp_marks Tryz.func40 rfl trivial ?_ rfl
  simp only[Tryz.ntmps40,List.size_toArray,List.length_cons,List.length_nil,Nat.reduceAdd,Nat.reduceSub,Array.replicate_succ,Array.replicate_zero,List.push_toArray,List.append_toArray,List.nil_append,List.cons_append]
  gi_wp2_with fail
  refine wpIn_wide.2 ?_
  have hN:N=W*H:=by rw[hNHW,Nat.mul_comm]
  have HNHW:=hide hNHW
  clear hNHW
  have hNi:(W:Int)*(H:Int)=(N:Int):=by rw[hN];simp
  have hNb:N≤4096:=by rw[hN];exact Nat.le_trans (Nat.mul_le_mul hW hH) (by decide)
  have hmk:∀V:World,(Instr.makeSlice 22 (.int .i64 0) (.int .i64 N)).run Tryz.prog V=.ok (.slice (some ⟨V.heap.size,0,none⟩) 0 N) (V.alloc (.cells (madeCells #[.int .i64 0,.int .i64 0,.int .i64 0] (N*3)) 61)):=fun V=>by
    have h:=run_make (P:=Tryz.prog) V 22 61 i0 pixZ Tryz.underlying22 hi hz0 .i64 .i64 0 N (Int.le_refl _) (by omega) (by rw[hz2];omega) (by omega)
    rw[hz1] at h
    simpa [pixZ,Value.cells] using h
  have hwN:IntKind.i64.wrap ((W:Int)*(H:Int))=(N:Int):=by rw[hNi];exact IntWalk.i64_in _ (by omega)
  have hwM:IntKind.i64.wrap (N:Int)=(N:Int):=IntWalk.i64_in _ (by omega)
  have HN:=hide hN
  clear hN
  have hB3:=quJN (quJN (qUNz w (Obj.cells #[.int .i64 W,.int .i64 H] 95)) (qUNz _ (Obj.cells #[.func (.func tf) #[] caps] 99))) (qUNz _ (Obj.cells #[.int .i64 0,.int .i64 0,.slice none 0 0] 24))
  have g0:(((w.alloc (Obj.cells #[.int .i64 W,.int .i64 H] 95)).alloc (Obj.cells #[.func (.func tf) #[] caps] 99)).alloc (Obj.cells #[.int .i64 0,.int .i64 0,.slice none 0 0] 24)).heap[w.heap.size]?=some (.cells #[.int .i64 W,.int .i64 H] 95 (0,0)):=by
    rw[Below.heap_alloc _ _ _ (by simp;omega),Below.heap_alloc _ _ _ (by simp)];exact heap_alloc_new w _
  have g1:(((w.alloc (Obj.cells #[.int .i64 W,.int .i64 H] 95)).alloc (Obj.cells #[.func (.func tf) #[] caps] 99)).alloc (Obj.cells #[.int .i64 0,.int .i64 0,.slice none 0 0] 24)).heap[w.heap.size+1]?=some (.cells #[.func (.func tf) #[] caps] 99 (0,0)):=by
    rw[Below.heap_alloc _ _ _ (by simp)]
    have h:=heap_alloc_new (w.alloc (Obj.cells #[.int .i64 W,.int .i64 H] 95)) (Obj.cells #[.func (.func tf) #[] caps] 99)
    rw[World.size_alloc] at h;exact h
  have g2:(((w.alloc (Obj.cells #[.int .i64 W,.int .i64 H] 95)).alloc (Obj.cells #[.func (.func tf) #[] caps] 99)).alloc (Obj.cells #[.int .i64 0,.int .i64 0,.slice none 0 0] 24)).heap[w.heap.size+2]?=some (.cells #[.int .i64 0,.int .i64 0,.slice none 0 0] 24 (0,0)):=by
    have h:=heap_alloc_new ((w.alloc (Obj.cells #[.int .i64 W,.int .i64 H] 95)).alloc (Obj.cells #[.func (.func tf) #[] caps] 99)) (Obj.cells #[.int .i64 0,.int .i64 0,.slice none 0 0] 24)
    rw[World.size_alloc,World.size_alloc] at h;exact h
  have hs3:(((w.alloc (Obj.cells #[.int .i64 W,.int .i64 H] 95)).alloc (Obj.cells #[.func (.func tf) #[] caps] 99)).alloc (Obj.cells #[.int .i64 0,.int .i64 0,.slice none 0 0] 24)).heap.size=w.heap.size+3:=by simp
  generalize ((w.alloc (Obj.cells #[.int .i64 W,.int .i64 H] 95)).alloc (Obj.cells #[.func (.func tf) #[] caps] 99)).alloc (Obj.cells #[.int .i64 0,.int .i64 0,.slice none 0 0] 24)=W3 at *
  have k0:W3.cell? ⟨w.heap.size,0,none⟩=some (.int .i64 W):=by rw[Lib.cell_of_heap g0];rfl
  have k1:W3.cell? ⟨w.heap.size,1,none⟩=some (.int .i64 H):=by rw[Lib.cell_of_heap g0];rfl
  have HS:=hide (show ∀w',Below W3.heap.size W3 w'→w'.cell? ⟨w.heap.size,0,none⟩=some (.int .i64 W)∧w'.cell? ⟨w.heap.size,1,none⟩=some (.int .i64 H) from fun w' h =>
    ⟨(h.cell (p:=⟨w.heap.size,0,none⟩) (by show w.heap.size<_;omega)).trans k0,(h.cell (p:=⟨w.heap.size,1,none⟩) (by show w.heap.size<_;omega)).trans k1⟩)
  have hdrew:Below W3.heap.size W3 W3.drew:=(Below.refl _ _).drew
  have HMK:=hide hmk
  go_region_held3 (fun w'=>w'.cell? ⟨w.heap.size,0,none⟩=some (.int .i64 W)∧w'.cell? ⟨w.heap.size,1,none⟩=some (.int .i64 H))
    (first|(refine HS.out _ ?_;assumption)|(refine HS.out _ ?_;exact quJN (by assumption) (qUNz _ _))|go_keep)
    (fail)
  all_goals first
    | (show Exit.then _ _ _ _ ((W3.alloc (Obj.cells (madeCells #[.int .i64 0,.int .i64 0,.int .i64 0] (N*3)) 61)).alloc (Obj.cells #[.int .i64 W,.int .i64 H,.slice (some ⟨w.heap.size+3,0,none⟩) 0 N] 24)).drew
       have hVb:Below W3.heap.size W3 ((W3.alloc (Obj.cells (madeCells #[.int .i64 0,.int .i64 0,.int .i64 0] (N*3)) 61)).alloc (Obj.cells #[.int .i64 W,.int .i64 H,.slice (some ⟨w.heap.size+3,0,none⟩) 0 N] 24)).drew:=XpIb (quJN (qUNz _ _) (qUNz _ _))
       have vP:((W3.alloc (Obj.cells (madeCells #[.int .i64 0,.int .i64 0,.int .i64 0] (N*3)) 61)).alloc (Obj.cells #[.int .i64 W,.int .i64 H,.slice (some ⟨w.heap.size+3,0,none⟩) 0 N] 24)).drew.heap[w.heap.size+3+1]?=some (.cells #[.int .i64 W,.int .i64 H,.slice (some ⟨w.heap.size+3,0,none⟩) 0 N] 24 (0,0)):=by
         have h:=heap_alloc_new (W3.alloc (Obj.cells (madeCells #[.int .i64 0,.int .i64 0,.int .i64 0] (N*3)) 61)) (Obj.cells #[.int .i64 W,.int .i64 H,.slice (some ⟨w.heap.size+3,0,none⟩) 0 N] 24)
         rw[World.size_alloc,hs3] at h;exact h
       have vS:((W3.alloc (Obj.cells (madeCells #[.int .i64 0,.int .i64 0,.int .i64 0] (N*3)) 61)).alloc (Obj.cells #[.int .i64 W,.int .i64 H,.slice (some ⟨w.heap.size+3,0,none⟩) 0 N] 24)).drew.ownsRow w.heap.size 61 3 (.slice (some ⟨w.heap.size+3,0,none⟩) 0 N) 0 []:=by
         have h:=(World.ownsRow_made (base:=w.heap.size) (e:=61) (size:=3) W3 (madeCells #[.int .i64 0,.int .i64 0,.int .i64 0] (N*3)) N (by omega) (by unfold maxLen;omega) (by simp[madeCells])).alloc (Obj.cells #[.int .i64 W,.int .i64 H,.slice (some ⟨w.heap.size+3,0,none⟩) 0 N] 24)
         rw[hs3] at h;exact h
       have hPB:w.heap.size+2<w.heap.size+3+1:=by omega
       generalize ((W3.alloc (Obj.cells (madeCells #[.int .i64 0,.int .i64 0,.int .i64 0] (N*3)) 61)).alloc (Obj.cells #[.int .i64 W,.int .i64 H,.slice (some ⟨w.heap.size+3,0,none⟩) 0 N] 24)).drew=V at *
       generalize w.heap.size+3+1=PB at hPB vP ⊢
       generalize hSB:Value.slice (some ⟨w.heap.size+3,0,none⟩) 0 N=SV at *
       clear hSB)
    | (have hVb:Below W3.heap.size W3 ((W3.alloc (Obj.cells #[.int .i64 W,.int .i64 H,.slice (some ⟨w.heap.size+3+1,0,none⟩) 0 N] 24)).alloc (Obj.cells (madeCells #[.int .i64 0,.int .i64 0,.int .i64 0] (N*3)) 61)).drew:=XpIb (quJN (qUNz _ _) (qUNz _ _))
       have vP:((W3.alloc (Obj.cells #[.int .i64 W,.int .i64 H,.slice (some ⟨w.heap.size+3+1,0,none⟩) 0 N] 24)).alloc (Obj.cells (madeCells #[.int .i64 0,.int .i64 0,.int .i64 0] (N*3)) 61)).drew.heap[w.heap.size+3]?=some (.cells #[.int .i64 W,.int .i64 H,.slice (some ⟨w.heap.size+3+1,0,none⟩) 0 N] 24 (0,0)):=by
         have h:=heap_alloc_new W3 (Obj.cells #[.int .i64 W,.int .i64 H,.slice (some ⟨w.heap.size+3+1,0,none⟩) 0 N] 24)
         rw[hs3] at h
         exact (Below.heap_alloc _ _ _ (by simp;omega)).trans h
       have vS:((W3.alloc (Obj.cells #[.int .i64 W,.int .i64 H,.slice (some ⟨w.heap.size+3+1,0,none⟩) 0 N] 24)).alloc (Obj.cells (madeCells #[.int .i64 0,.int .i64 0,.int .i64 0] (N*3)) 61)).drew.ownsRow w.heap.size 61 3 (.slice (some ⟨w.heap.size+3+1,0,none⟩) 0 N) 0 []:=by
         have h:=World.ownsRow_made (base:=w.heap.size) (e:=61) (size:=3) (W3.alloc (Obj.cells #[.int .i64 W,.int .i64 H,.slice (some ⟨w.heap.size+3+1,0,none⟩) 0 N] 24)) (madeCells #[.int .i64 0,.int .i64 0,.int .i64 0] (N*3)) N (by simp;omega) (by unfold maxLen;omega) (by simp[madeCells])
         rw[World.size_alloc,hs3] at h;exact h
       have hPB:w.heap.size+2<w.heap.size+3:=by omega
       generalize ((W3.alloc (Obj.cells #[.int .i64 W,.int .i64 H,.slice (some ⟨w.heap.size+3+1,0,none⟩) 0 N] 24)).alloc (Obj.cells (madeCells #[.int .i64 0,.int .i64 0,.int .i64 0] (N*3)) 61)).drew=V at *
       generalize hSB:Value.slice (some ⟨w.heap.size+3+1,0,none⟩) 0 N=SV at *
       clear hSB
       generalize w.heap.size+3=PB at hPB vP ⊢)
  all_goals
    have k0:=(hVb.cell (p:=⟨w.heap.size,0,none⟩) (by show w.heap.size<_;omega)).trans k0
    have k1:=(hVb.cell (p:=⟨w.heap.size,1,none⟩) (by show w.heap.size<_;omega)).trans k1
    gi_wp2_with fail
    refine ⟨trivial,?_⟩
    refine (jIfE Fence.wide _ trivial rfl _ _ _).mono ?_
    rintro e w' ⟨rfl,rfl⟩
    gi_wp2_with fail
    have hsV:=hVb.size
    have hlP:=(Array.getElem?_eq_some_iff.1 vP).1
    have n0:=heap_alloc_new V (Obj.cells #[.int .i64 W,.int .i64 H] 95)
    have hs0:(V.alloc (Obj.cells #[.int .i64 W,.int .i64 H] 95)).heap.size=V.heap.size+1:=by simp
    have hB0:Below w.heap.size w (V.alloc (Obj.cells #[.int .i64 W,.int .i64 H] 95)):=quJN (quJN hB3 hVb) (qUNz _ _)
    have j0:(V.alloc (Obj.cells #[.int .i64 W,.int .i64 H] 95)).heap[PB]?=some (.cells #[.int .i64 W,.int .i64 H,SV] 24 (0,0)):=(Below.heap_alloc _ _ _ hlP).trans vP
    have j1:=vS.alloc (Obj.cells #[.int .i64 W,.int .i64 H] 95)
    have j2:(V.alloc (Obj.cells #[.int .i64 W,.int .i64 H] 95)).heap[w.heap.size+1]?=some (.cells #[.func (.func tf) #[] caps] 99 (0,0)):=by
      rw[Below.heap_alloc _ _ _ (by omega),hVb.block _ (by omega)];exact g1
    have j3:(V.alloc (Obj.cells #[.int .i64 W,.int .i64 H] 95)).heap[w.heap.size+2]?=some (.cells #[.int .i64 0,.int .i64 0,.slice none 0 0] 24 (0,0)):=by
      rw[Below.heap_alloc _ _ _ (by omega),hVb.block _ (by omega)];exact g2
    generalize V.alloc (Obj.cells #[.int .i64 W,.int .i64 H] 95)=W0 at *
    refine wpIn_rangeFunc_ownH (α:=Fin N) rfl (show 1≤3 by omega) (gf:=154) (lb:=#[.pointer (some ⟨V.heap.size,0,none⟩)]) rfl trivial (enters_of Tryz.func154 (by kernel_rfl) rfl)
      (joPr Fence.wide (3-1) trivial rfl (by omega) V.heap.size W H N hW hH HNHW.out W0 (by omega) (by rw[Lib.cell_of_heap n0];rfl) (by rw[Lib.cell_of_heap n0];rfl)) (fun {A B C} h k=>h.trans' k) (fun X l o o' hl _ _ _=>qMCQ (by omega)) (Below.refl _ _) (fun _=>rfl)
      (fun pre W'=>(∃v,W'.heap[PB]?=some (.cells #[.int .i64 W,.int .i64 H,v] 24 (0,0))∧W'.ownsRow w.heap.size 61 3 v pre.length ((pre.map fun (j:Fin N)=>T j.1).flatMap pixL))∧W'.heap[w.heap.size+1]?=some (.cells #[.func (.func tf) #[] caps] 99 (0,0))∧W'.heap[w.heap.size+2]?=some (.cells #[.int .i64 0,.int .i64 0,.slice none 0 0] 24 (0,0))∧W'.heap[V.heap.size]?=some (.cells #[.int .i64 W,.int .i64 H] 95 (0,0))∧Below w.heap.size w W')
      (fun _ _ _=>False)
      (fun s X Y row ⟨⟨v,a1,a2⟩,a3,a4,a6,a5⟩ hg hr=>⟨⟨v,qLYA hg hr a1,jg0p hg hr a2⟩,qLYA hg hr a3,qLYA hg hr a4,qLYA hg hr a6,ownFrom_below (β:=Unit) (Nat.le_refl _) (by omega) () X Y row a5 hg hr⟩)
      (fun _ _ _ _ _ hs _ _=>hs)
      ⟨⟨_,j0,j1⟩,j2,j3,n0,hB0⟩
      (fun x a' W'=>∃Bx,W0.heap.size≤Bx∧W'.heap[Bx]?=some (.cells #[.int .i64 (x.1 % W:Nat),.int .i64 (x.1 / W:Nat)] 97 (0,0))∧a'={ tmps:=#[.agg #[.int .i64 W,.int .i64 H],.func (.func tf) #[] caps,.pointer (some ⟨w.heap.size,0,none⟩),.pointer (some ⟨w.heap.size+1,0,none⟩),.pointer (some ⟨w.heap.size+1+1,0,none⟩),.pointer (some ⟨PB,0,none⟩),.pointer (some ⟨Bx,0,none⟩),.pointer (some ⟨w.heap.size,0,none⟩),.int .i64 W,.pointer (some ⟨w.heap.size,1,none⟩),.int .i64 H,.pointer (some ⟨w.heap.size,0,none⟩),.int .i64 W,.pointer (some ⟨w.heap.size,1,none⟩),.int .i64 H,.int .i64 N,SV,.agg #[.int .i64 W,.int .i64 H,SV],.agg #[.int .i64 W,.int .i64 H],.func (.func 154) #[] #[.pointer (some ⟨V.heap.size,0,none⟩)],.agg #[.int .i64 (x.1 % W:Nat),.int .i64 (x.1 / W:Nat)],undef,undef,undef,undef,undef,undef,undef,undef,undef],defers:=[] })
      (fun x a' _ X Y row ⟨Bx,b1,b2,b3⟩ hg hr=>⟨Bx,b1,qLYA hg hr b2,b3⟩)
      ?assign ?body ?done ?stop
    case assign =>
      rintro l pre x W' K ⟨⟨v,i1,i2⟩,i3,i4,i6,i5⟩ hK
      have hl1:=(Array.getElem?_eq_some_iff.1 i1).1
      have hl3:=(Array.getElem?_eq_some_iff.1 i3).1
      have hl4:=(Array.getElem?_eq_some_iff.1 i4).1
      have hl6:=(Array.getElem?_eq_some_iff.1 i6).1
      gi_wp2
      exact hK _ _ ((KeepsOthers.alloc _ _).from _) (Below.heap_alloc _ _ _ hl6) ⟨⟨v,(Below.heap_alloc _ _ _ hl1).trans i1,i2.alloc _⟩,(Below.heap_alloc _ _ _ hl3).trans i3,(Below.heap_alloc _ _ _ hl4).trans i4,(Below.heap_alloc _ _ _ hl6).trans i6,i5.alloc i5.size _⟩ ⟨W'.heap.size,by omega,heap_alloc_new W' _,rfl⟩
    case body =>
      rintro l pre x a' W' hl ⟨r,hr⟩ ⟨⟨sv,i1,i2⟩,i3,i4,i6,i5⟩ ⟨Bx,hBx,bX,rfl⟩ hlt
      obtain ⟨so,scap,rfl⟩:=XPKi i2
      have p2:W'.cell? ⟨PB,2,none⟩=some (.slice so pre.length scap):=by rw[Lib.cell_of_heap i1];rfl
      have t0:W'.cell? ⟨w.heap.size+1,0,none⟩=some (.func (.func tf) #[] caps):=by rw[Lib.cell_of_heap i3];rfl
      have x0:W'.cell? ⟨Bx,0,none⟩=some (.int .i64 (x.1 % W:Nat)):=by rw[Lib.cell_of_heap bX];rfl
      have x1:W'.cell? ⟨Bx,1,none⟩=some (.int .i64 (x.1 / W:Nat)):=by rw[Lib.cell_of_heap bX];rfl
      have hmx:Tryz.prog.follows .mixedOrders=true:=by kernel_rfl
      have hlP:=(Array.getElem?_eq_some_iff.1 i1).1
      have hlT:=(Array.getElem?_eq_some_iff.1 i3).1
      have hlX:=(Array.getElem?_eq_some_iff.1 bX).1
      have hbW:w.heap.size≤W'.heap.size:=by omega
      have HL1:=hide (show pre.length+1≤maxLen by unfold maxLen;omega)
      have HL2:=hide (show (pre.length+1)*24≤140737488355328 by omega)
      have HS:=hide (show ∀v,Below W'.heap.size W' v→v.cell? ⟨w.heap.size+1,0,none⟩=some (.func (.func tf) #[] caps)∧v.cell? ⟨Bx,0,none⟩=some (.int .i64 (x.1 % W:Nat))∧v.cell? ⟨Bx,1,none⟩=some (.int .i64 (x.1 / W:Nat)) from fun v h =>
        ⟨(h.cell (p:=⟨w.heap.size+1,0,none⟩) hlT).trans t0,(h.cell (p:=⟨Bx,0,none⟩) hlX).trans x0,(h.cell (p:=⟨Bx,1,none⟩) hlX).trans x1⟩)
      have HP2:=hide (show ∀v,Below W'.heap.size W' v→v.cell? ⟨PB,2,none⟩=some (.slice so pre.length scap) from fun v h=>(h.cell (p:=⟨PB,2,none⟩) hlP).trans p2)
      have HTL:=hide (fun (V1:World) (g cap:Nat) (w1:World) (h1:Below W'.heap.size W' V1) (h2:(V1.alloc (Obj.cells (pixA (T x.1)) 61)).grownBy w1 (Value.slice so pre.length scap).ownBlock) (h3:w1.ownsRow (w.heap.size) 61 3 (.slice (some ⟨g,0,none⟩) (pre.length+1) cap) (pre.length+1) ((pre.map fun (j:Fin N)=>T j.1).flatMap pixL++pixL (T x.1)))=>XXqf (es:=(pixA (T x.1))) (by decide) (by decide) (by decide) (by decide) (by decide) (by decide) (by decide) (B0:=W0.heap.size) (PB:=PB) i1 i2 i3 i4 i6 bX i5 (by omega) (by omega) (by omega) h1 h2 h3)
      have hWd:Below W'.heap.size W' W'.drew:=(Below.refl _ _).drew
      have HT:=hide (htell x.1 W'.drew x.2 i5.drew)
      gi_wp2_with fail
      have hSd:=HS.out _ hWd
      have p2:=HP2.out _ hWd
      refine jNnL (S:=fun v:World=>v.cell? ⟨w.heap.size+1,0,none⟩=some (.func (.func tf) #[] caps)∧v.cell? ⟨Bx,0,none⟩=some (.int .i64 (x.1 % W:Nat))∧v.cell? ⟨Bx,1,none⟩=some (.int .i64 (x.1 / W:Nat))) hmx ?nd ?no ?_
      case nd=>exact qU4N (by kernel_rfl)
      case no=>rintro ⟨_,_,h⟩;exact h
      show wpAnyH _ _ _ _ _ 9 _ _ W'.drew
      refine wpAnyH_take (i:=0) (oi:=_) (v:=.pointer (some ⟨PB,2,none⟩)) rfl (by kernel_rfl) (by kernel_rfl) (by kernel_rfl) (fun _ _ _ h=>h) (Or.inl ⟨by rfl,fun v hSv=>by obtain ⟨s2,s3,s4⟩:=hSv;go_simp⟩) hSd ?_
      simp only[Act.put]
      refine wpAnyH_take (i:=2) (oi:=_) (v:=.func (.func tf) #[] caps) rfl (by kernel_rfl) (by kernel_rfl) (by kernel_rfl) (fun _ _ _ h=>h) (Or.inl ⟨by rfl,fun v hSv=>by obtain ⟨s2,s3,s4⟩:=hSv;go_simp⟩) hSd ?_
      simp only[Act.put]
      refine wpAnyH_take (i:=3) (oi:=_) (v:=.agg #[.int .i64 (x.1 % W:Nat),.int .i64 (x.1 / W:Nat)]) rfl (by kernel_rfl) (by kernel_rfl) (by kernel_rfl) (fun _ _ _ h=>h) (Or.inl ⟨by rfl,fun v hSv=>by obtain ⟨s2,s3,s4⟩:=hSv;go_simp⟩) hSd ?_
      simp only[Act.put]
      refine wpAnyH_ready (rs:=[1,4]) (by kernel_rfl) (by simp) ?_
      refine AllReadyH.cons (o:=_) rfl (fun K hK=>?wA) (AllReadyH.cons (o:=_) rfl (fun K hK=>?wB) AllReadyH.nil)
      case wA =>
        rw[if_pos (by rfl)]
        go_simp
        refine hK.out _ _ hSd (fun _=>?_)
        clear hK
        refine wpAnyH_ready (rs:=[4]) (by kernel_rfl) (by simp) ?_
        refine AllReadyH.cons (o:=_) rfl (fun K hK=>?_) AllReadyH.nil
        rw[if_pos (by rfl)]
        go_simp
        refine HT.out.mono ?_
        rintro e V1 ⟨rfl,hb1⟩
        have hV1:Below W'.heap.size W' V1:=hWd.trans hb1
        have hSd:=HS.out _ hV1
        have p2:=HP2.out _ hV1
        refine hK.out _ _ hSd (fun _=>?_)
        clear hK
        refine wpAnyH_ready (rs:=[5]) (by kernel_rfl) (by simp) ?_
        refine AllReadyH.cons (o:=_) rfl (fun K hK=>?_) AllReadyH.nil
        rw[if_pos (by rfl)]
        go_simp
        have hV2:Below W'.heap.size W' (V1.alloc (Obj.cells (pixA (T x.1)) 61)):=hV1.trans ((qUNz _ _).mono hV1.size)
        have hSd:=HS.out _ hV2
        have p2:=HP2.out _ hV2
        refine hK.out _ _ hSd (fun _=>?_)
        clear hK
        have ho2:=((qw14 i2 hV1).alloc (Obj.cells (pixA (T x.1)) 61))
        refine wpAnyH_ready (rs:=[6]) (by kernel_rfl) (by simp) ?_
        refine AllReadyH.cons (o:=_) rfl (fun K hK=>?_) AllReadyH.nil
        refine step_append_lies _ rfl _ _ 22 rfl (w.heap.size) 61 i0 pixZ 3 24 Tryz.underlying22 hi hz0 hz1 hz2 rfl (by decide) (.slice so pre.length scap) pre.length ((pre.map fun (j:Fin N)=>T j.1).flatMap pixL) rfl ho2 ⟨V1.heap.size,0,none⟩ 1 1 (pixL (T x.1)) rfl rfl (World.news_of_block (heap_alloc_new V1 _)) (fun u hu=>by simp[pixL] at hu;rcases hu with rfl|rfl|rfl<;>rfl) Nat.one_pos HL1.out HL2.out (Nat.le_trans hbW hV2.size) _ rfl ?_
        intro g cap w1 hown hgrow hat hltg
        obtain ⟨hSd,p2,p2f,HFIN⟩:=HTL.out V1 g cap w1 hV1 hgrow hown
        refine hK.out _ _ hSd (fun _=>?_)
        clear hK
        refine wpAnyH_ready (rs:=[7]) (by kernel_rfl) (by simp) ?_
        refine AllReadyH.cons (o:=_) rfl (fun K hK=>?_) AllReadyH.nil
        rw[if_pos (by rfl)]
        go_simp
        refine hK.out _ _ hSd (fun _=>?_)
        clear hK
        refine wpAnyH_ready (rs:=[8]) (by kernel_rfl) (by simp) ?_
        refine AllReadyH.cons (o:=_) rfl (fun K hK=>?_) AllReadyH.nil
        rw[if_pos (by rfl)]
        go_simp
        refine hK.out _ _ HFIN.1 (fun _=>?_)
        clear hK
        refine wpAnyH_done (by kernel_rfl) ?_ _
        obtain ⟨_,f1,f2,⟨v,f3,f4⟩,f5,f6,f7,f8⟩:=HFIN
        exact ⟨f1,f2,⟨v,f3,by rw[List.length_append,List.map_append,List.flatMap_append];exact f4⟩,f5,f6,f7,f8⟩
      case wB =>
        rw[if_pos (by rfl)]
        go_simp
        refine HT.out.mono ?_
        rintro e V1 ⟨rfl,hb1⟩
        have hV1:Below W'.heap.size W' V1:=hWd.trans hb1
        have hSd:=HS.out _ hV1
        have p2:=HP2.out _ hV1
        refine hK.out _ _ hSd (fun _=>?_)
        clear hK
        refine wpAnyH_ready (rs:=[1,5]) (by kernel_rfl) (by simp) ?_
        refine AllReadyH.cons (o:=_) rfl (fun K hK=>?wC) (AllReadyH.cons (o:=_) rfl (fun K hK=>?wD) AllReadyH.nil)
        case wC =>
          rw[if_pos (by rfl)]
          go_simp
          refine hK.out _ _ hSd (fun _=>?_)
          clear hK
          refine wpAnyH_ready (rs:=[5]) (by kernel_rfl) (by simp) ?_
          refine AllReadyH.cons (o:=_) rfl (fun K hK=>?_) AllReadyH.nil
          rw[if_pos (by rfl)]
          go_simp
          have hV2:Below W'.heap.size W' (V1.alloc (Obj.cells (pixA (T x.1)) 61)):=hV1.trans ((qUNz _ _).mono hV1.size)
          have hSd:=HS.out _ hV2
          have p2:=HP2.out _ hV2
          refine hK.out _ _ hSd (fun _=>?_)
          clear hK
          have ho2:=((qw14 i2 hV1).alloc (Obj.cells (pixA (T x.1)) 61))
          refine wpAnyH_ready (rs:=[6]) (by kernel_rfl) (by simp) ?_
          refine AllReadyH.cons (o:=_) rfl (fun K hK=>?_) AllReadyH.nil
          refine step_append_lies _ rfl _ _ 22 rfl (w.heap.size) 61 i0 pixZ 3 24 Tryz.underlying22 hi hz0 hz1 hz2 rfl (by decide) (.slice so pre.length scap) pre.length ((pre.map fun (j:Fin N)=>T j.1).flatMap pixL) rfl ho2 ⟨V1.heap.size,0,none⟩ 1 1 (pixL (T x.1)) rfl rfl (World.news_of_block (heap_alloc_new V1 _)) (fun u hu=>by simp[pixL] at hu;rcases hu with rfl|rfl|rfl<;>rfl) Nat.one_pos HL1.out HL2.out (Nat.le_trans hbW hV2.size) _ rfl ?_
          intro g cap w1 hown hgrow hat hltg
          obtain ⟨hSd,p2,p2f,HFIN⟩:=HTL.out V1 g cap w1 hV1 hgrow hown
          refine hK.out _ _ hSd (fun _=>?_)
          clear hK
          refine wpAnyH_ready (rs:=[7]) (by kernel_rfl) (by simp) ?_
          refine AllReadyH.cons (o:=_) rfl (fun K hK=>?_) AllReadyH.nil
          rw[if_pos (by rfl)]
          go_simp
          refine hK.out _ _ hSd (fun _=>?_)
          clear hK
          refine wpAnyH_ready (rs:=[8]) (by kernel_rfl) (by simp) ?_
          refine AllReadyH.cons (o:=_) rfl (fun K hK=>?_) AllReadyH.nil
          rw[if_pos (by rfl)]
          go_simp
          refine hK.out _ _ HFIN.1 (fun _=>?_)
          clear hK
          refine wpAnyH_done (by kernel_rfl) ?_ _
          obtain ⟨_,f1,f2,⟨v,f3,f4⟩,f5,f6,f7,f8⟩:=HFIN
          exact ⟨f1,f2,⟨v,f3,by rw[List.length_append,List.map_append,List.flatMap_append];exact f4⟩,f5,f6,f7,f8⟩
        case wD =>
          rw[if_pos (by rfl)]
          go_simp
          have hV2:Below W'.heap.size W' (V1.alloc (Obj.cells (pixA (T x.1)) 61)):=hV1.trans ((qUNz _ _).mono hV1.size)
          have hSd:=HS.out _ hV2
          have p2:=HP2.out _ hV2
          refine hK.out _ _ hSd (fun _=>?_)
          clear hK
          refine wpAnyH_ready (rs:=[1]) (by kernel_rfl) (by simp) ?_
          refine AllReadyH.cons (o:=_) rfl (fun K hK=>?_) AllReadyH.nil
          rw[if_pos (by rfl)]
          go_simp
          refine hK.out _ _ hSd (fun _=>?_)
          clear hK
          have ho2:=((qw14 i2 hV1).alloc (Obj.cells (pixA (T x.1)) 61))
          refine wpAnyH_ready (rs:=[6]) (by kernel_rfl) (by simp) ?_
          refine AllReadyH.cons (o:=_) rfl (fun K hK=>?_) AllReadyH.nil
          refine step_append_lies _ rfl _ _ 22 rfl (w.heap.size) 61 i0 pixZ 3 24 Tryz.underlying22 hi hz0 hz1 hz2 rfl (by decide) (.slice so pre.length scap) pre.length ((pre.map fun (j:Fin N)=>T j.1).flatMap pixL) rfl ho2 ⟨V1.heap.size,0,none⟩ 1 1 (pixL (T x.1)) rfl rfl (World.news_of_block (heap_alloc_new V1 _)) (fun u hu=>by simp[pixL] at hu;rcases hu with rfl|rfl|rfl<;>rfl) Nat.one_pos HL1.out HL2.out (Nat.le_trans hbW hV2.size) _ rfl ?_
          intro g cap w1 hown hgrow hat hltg
          obtain ⟨hSd,p2,p2f,HFIN⟩:=HTL.out V1 g cap w1 hV1 hgrow hown
          refine hK.out _ _ hSd (fun _=>?_)
          clear hK
          refine wpAnyH_ready (rs:=[7]) (by kernel_rfl) (by simp) ?_
          refine AllReadyH.cons (o:=_) rfl (fun K hK=>?_) AllReadyH.nil
          rw[if_pos (by rfl)]
          go_simp
          refine hK.out _ _ hSd (fun _=>?_)
          clear hK
          refine wpAnyH_ready (rs:=[8]) (by kernel_rfl) (by simp) ?_
          refine AllReadyH.cons (o:=_) rfl (fun K hK=>?_) AllReadyH.nil
          rw[if_pos (by rfl)]
          go_simp
          refine hK.out _ _ HFIN.1 (fun _=>?_)
          clear hK
          refine wpAnyH_done (by kernel_rfl) ?_ _
          obtain ⟨_,f1,f2,⟨v,f3,f4⟩,f5,f6,f7,f8⟩:=HFIN
          exact ⟨f1,f2,⟨v,f3,by rw[List.length_append,List.map_append,List.flatMap_append];exact f4⟩,f5,f6,f7,f8⟩
    case done =>
      rintro D ys W' hD rfl ⟨⟨v,i1,i2⟩,i3,i4,i6,i5⟩ hK
      have p0:W'.cell? ⟨PB,0,none⟩=some (.int .i64 W):=by rw[Lib.cell_of_heap i1];rfl
      have p1:W'.cell? ⟨PB,1,none⟩=some (.int .i64 H):=by rw[Lib.cell_of_heap i1];rfl
      have p2:W'.cell? ⟨PB,2,none⟩=some v:=by rw[Lib.cell_of_heap i1];rfl
      have r0:W'.cell? ⟨w.heap.size+1+1,0,none⟩=some (.int .i64 0):=by rw[Lib.cell_of_heap i4];rfl
      have r1:W'.cell? ⟨w.heap.size+1+1,1,none⟩=some (.int .i64 0):=by rw[Lib.cell_of_heap i4];rfl
      have r2:W'.cell? ⟨w.heap.size+1+1,2,none⟩=some (.slice none 0 0):=by rw[Lib.cell_of_heap i4];rfl
      have f0:W'.frozen? ⟨w.heap.size+1+1,0,none⟩=false:=Lib.frozen_of_heap i4 0
      have f1:W'.frozen? ⟨w.heap.size+1+1,1,none⟩=false:=Lib.frozen_of_heap i4 1
      have f2:W'.frozen? ⟨w.heap.size+1+1,2,none⟩=false:=Lib.frozen_of_heap i4 2
      obtain ⟨ao,cap,rfl⟩:=XPKi i2
      gi_wp2
      obtain ⟨x1,x2,x3,x4⟩:=X0Wz i4 (.int .i64 W) (.int .i64 H) (.slice ao (List.finRange N).length cap) w (by omega) i5
      have i2':=jNsf x2 (qYYy i2 i4 (by decide)) i2
      have hDr:D≠w.heap.size+2:=fun e=>by rw[e,i4] at hK;cases hK
      replace hK:=(x2 D hDr).trans hK
      simp only[List.length_finRange] at x1 x2 x3 x4 i2' hK
      generalize ((W'.setCell ⟨w.heap.size+1+1,0,none⟩ (.int .i64 W)).setCell ⟨w.heap.size+1+1,1,none⟩ (.int .i64 H)).setCell ⟨w.heap.size+1+1,2,none⟩ (.slice ao N cap)=X at *
      refine ⟨by simp,.inl ⟨_,_,rfl,run_takeDeferred hK,?_⟩⟩
      have y1:=(World.putObj_heap_other (w:=X) (o:=.deferred none) (Ne.symm hDr)).trans x1
      have y2:=ownsRow_putObj i2' (.deferred none) hK rfl
      have y3:Below w.heap.size w (X.putObj D (.deferred none)):=x4.trans (belowK_b (w:=w) (Nat.le_refl _) X D _ _ (by omega) hK rfl rfl)
      have c0:(X.putObj D (.deferred none)).cell? ⟨w.heap.size+1+1,0,none⟩=some (.int .i64 W):=by rw[Lib.cell_of_heap y1];rfl
      have c1:(X.putObj D (.deferred none)).cell? ⟨w.heap.size+1+1,1,none⟩=some (.int .i64 H):=by rw[Lib.cell_of_heap y1];rfl
      have c2:(X.putObj D (.deferred none)).cell? ⟨w.heap.size+1+1,2,none⟩=some (.slice ao N cap):=by rw[Lib.cell_of_heap y1];rfl
      generalize X.putObj D (.deferred none)=Z at *
      refine ⟨.agg #[.int .i64 W,.int .i64 H,.slice ao N cap],by simp[results,Tryz.results40,go_sem,c0,c1,c2],.slice ao N cap,rfl,?_,y3,Fresh.own (by simpa using y2)⟩
      rw[←zhtE N T]
      exact IsPix.own (base:=w.heap.size) (by simpa using y2) (by simp;omega)
    case stop=>rintro D c pre W' _ _ h _;exact h.elim
end Go.Proofs.YtfjeonehdlphiaaGreatDoor
namespace Go.Proofs.YtfjeonehdlphiaaGreatDoor
open Go.RowKit
theorem XQLB (W H j bk off ca:Nat) (ps:List Px) (hj:j<ps.length) (h4096:ps.length≤4096) (tf:Nat) (caps:Array Value) (q:Px) (Bf Bq Bg:Nat) (V:World) (eg:∀args w,(callFunc tf args).run Tryz.prog w=.ok (.enter tf args) w)
  (hbk:bk<V.heap.size) (hBf:Bf<V.heap.size) (hBq:Bq<V.heap.size) (hBg:Bg<V.heap.size)
  (kf:V.cell? ⟨Bf,0,none⟩=some (.func (.func tf) #[] caps)) (kq:V.cell? ⟨Bq,2,none⟩=some (.slice (some ⟨bk,off,none⟩) ps.length ca)) (kg0:V.cell? ⟨Bg,0,none⟩=some (.int .i64 W)) (kg1:V.cell? ⟨Bg,1,none⟩=some (.int .i64 H))
  (c0:V.cell? ⟨bk,off+j*3,none⟩=some (.int .i64 ps[j].1)) (c1:V.cell? ⟨bk,off+j*3+1,none⟩=some (.int .i64 ps[j].2.1)) (c2:V.cell? ⟨bk,off+j*3+2,none⟩=some (.int .i64 ps[j].2.2))
  (hbe:∀U,Below V.heap.size V U→Calls Tryz.prog tf (#[pixV ps[j]]++caps) U fun e U'=>e=.returned (pixV q)∧Below U.heap.size U U') :
  Calls Tryz.prog 273 #[.agg #[.int .i64 (j % W:Nat),.int .i64 (j / W:Nat)],.pointer (some ⟨Bf,0,none⟩),.pointer (some ⟨Bq,0,none⟩),.pointer (some ⟨Bg,0,none⟩)] V fun e V'=>e=.returned (pixV q)∧Below V.heap.size V V':=by
 obtain ⟨X,hX⟩:∃X,j % W=X:=⟨_,rfl⟩
 obtain ⟨Y,hY⟩:∃Y,j / W=Y:=⟨_,rfl⟩
 have hk:Y*W+X=j:=by rw[←hX,←hY,Nat.mul_comm];exact Nat.div_add_mod j W
 rw[hX,hY]
 clear hX hY
 have HK:=hide hk
 clear hk
 obtain ⟨⟨r,g,u⟩,hp⟩:∃p,ps[j]=p:=⟨_,rfl⟩
 rw[hp] at c0 c1 c2 hbe
 simp only at c0 c1 c2
 clear hp
 obtain ⟨q0,q1,q2⟩:=q
 have HB1:=quJN (qUNz V (Obj.cells #[.int .i64 X,.int .i64 Y] 97)) (qUNz _ (Obj.cells #[.int .i64 0,.int .i64 0,.int .i64 0] 61))
 have n1:((V.alloc (Obj.cells #[.int .i64 X,.int .i64 Y] 97)).alloc (Obj.cells #[.int .i64 0,.int .i64 0,.int .i64 0] 61)).heap[V.heap.size]?=some (.cells #[.int .i64 X,.int .i64 Y] 97 (0,0)):=by
  rw[Below.heap_alloc _ _ _ (by simp)];exact heap_alloc_new V _
 have n2:((V.alloc (Obj.cells #[.int .i64 X,.int .i64 Y] 97)).alloc (Obj.cells #[.int .i64 0,.int .i64 0,.int .i64 0] 61)).heap[V.heap.size+1]?=some (.cells #[.int .i64 0,.int .i64 0,.int .i64 0] 61 (0,0)):=by
  have h:=heap_alloc_new (V.alloc (Obj.cells #[.int .i64 X,.int .i64 Y] 97)) (Obj.cells #[.int .i64 0,.int .i64 0,.int .i64 0] 61)
  rw[World.size_alloc] at h;exact h
 have hsU:((V.alloc (Obj.cells #[.int .i64 X,.int .i64 Y] 97)).alloc (Obj.cells #[.int .i64 0,.int .i64 0,.int .i64 0] 61)).heap.size=V.heap.size+2:=by simp
 go_enter Tryz.func273,Tryz.ntmps273
 go_wp2_with fail
 generalize (V.alloc (Obj.cells #[.int .i64 X,.int .i64 Y] 97)).alloc (Obj.cells #[.int .i64 0,.int .i64 0,.int .i64 0] 61)=U at *
 have HS:=hide (show ∀w',Below U.heap.size U w'→w'.cell? ⟨Bf,0,none⟩=some (.func (.func tf) #[] caps)∧w'.cell? ⟨Bq,2,none⟩=some (.slice (some ⟨bk,off,none⟩) ps.length ca)∧w'.cell? ⟨Bg,0,none⟩=some (.int .i64 W)∧w'.cell? ⟨Bg,1,none⟩=some (.int .i64 H) ∧
   w'.cell? ⟨bk,off+j*3,none⟩=some (.int .i64 r)∧w'.cell? ⟨bk,off+j*3+1,none⟩=some (.int .i64 g)∧w'.cell? ⟨bk,off+j*3+2,none⟩=some (.int .i64 u)∧w'.cell? ⟨V.heap.size,0,none⟩=some (.int .i64 X)∧w'.cell? ⟨V.heap.size,1,none⟩=some (.int .i64 Y) from fun w' h=>by
  have hV:=HB1.trans (h.mono HB1.size)
  have hn:=(h.block V.heap.size (by omega)).trans n1
  exact ⟨(hV.cell (p:=⟨Bf,0,none⟩) hBf).trans kf,(hV.cell (p:=⟨Bq,2,none⟩) hBq).trans kq,(hV.cell (p:=⟨Bg,0,none⟩) hBg).trans kg0,(hV.cell (p:=⟨Bg,1,none⟩) hBg).trans kg1,(hV.cell (p:=⟨bk,off+j*3,none⟩) hbk).trans c0,(hV.cell (p:=⟨bk,off+j*3+1,none⟩) hbk).trans c1,(hV.cell (p:=⟨bk,off+j*3+2,none⟩) hbk).trans c2,by rw[Lib.cell_of_heap hn];rfl,by rw[Lib.cell_of_heap hn];rfl⟩)
 have HS3:=hide (show ∀w' x y z,Below U.heap.size U w'→((((w'.setCell ⟨V.heap.size+1,0,none⟩ x).setCell ⟨V.heap.size+1,1,none⟩ y).setCell ⟨V.heap.size+1,2,none⟩ z).cell? ⟨Bf,0,none⟩=some (.func (.func tf) #[] caps)∧(((w'.setCell ⟨V.heap.size+1,0,none⟩ x).setCell ⟨V.heap.size+1,1,none⟩ y).setCell ⟨V.heap.size+1,2,none⟩ z).cell? ⟨Bq,2,none⟩=some (.slice (some ⟨bk,off,none⟩) ps.length ca)∧(((w'.setCell ⟨V.heap.size+1,0,none⟩ x).setCell ⟨V.heap.size+1,1,none⟩ y).setCell ⟨V.heap.size+1,2,none⟩ z).cell? ⟨Bg,0,none⟩=some (.int .i64 W)∧(((w'.setCell ⟨V.heap.size+1,0,none⟩ x).setCell ⟨V.heap.size+1,1,none⟩ y).setCell ⟨V.heap.size+1,2,none⟩ z).cell? ⟨Bg,1,none⟩=some (.int .i64 H) ∧
   (((w'.setCell ⟨V.heap.size+1,0,none⟩ x).setCell ⟨V.heap.size+1,1,none⟩ y).setCell ⟨V.heap.size+1,2,none⟩ z).cell? ⟨bk,off+j*3,none⟩=some (.int .i64 r)∧(((w'.setCell ⟨V.heap.size+1,0,none⟩ x).setCell ⟨V.heap.size+1,1,none⟩ y).setCell ⟨V.heap.size+1,2,none⟩ z).cell? ⟨bk,off+j*3+1,none⟩=some (.int .i64 g)∧(((w'.setCell ⟨V.heap.size+1,0,none⟩ x).setCell ⟨V.heap.size+1,1,none⟩ y).setCell ⟨V.heap.size+1,2,none⟩ z).cell? ⟨bk,off+j*3+2,none⟩=some (.int .i64 u)∧(((w'.setCell ⟨V.heap.size+1,0,none⟩ x).setCell ⟨V.heap.size+1,1,none⟩ y).setCell ⟨V.heap.size+1,2,none⟩ z).cell? ⟨V.heap.size,0,none⟩=some (.int .i64 X)∧(((w'.setCell ⟨V.heap.size+1,0,none⟩ x).setCell ⟨V.heap.size+1,1,none⟩ y).setCell ⟨V.heap.size+1,2,none⟩ z).cell? ⟨V.heap.size,1,none⟩=some (.int .i64 Y)) from fun w' x y z h=>by
  have hh:=HS.out w' h
  have e1:Bf≠V.heap.size+1:=by omega
  have e2:Bq≠V.heap.size+1:=by omega
  have e3:Bg≠V.heap.size+1:=by omega
  have e4:bk≠V.heap.size+1:=by omega
  have e5:V.heap.size≠V.heap.size+1:=by omega
  rw[zd1R _ _ _ e1,zd1R _ _ _ e2,zd1R _ _ _ e3,zd1R _ _ _ e3,zd1R _ _ _ e4,zd1R _ _ _ e4,zd1R _ _ _ e4,zd1R _ _ _ e5,zd1R _ _ _ e5]
  exact hh)
 have HIX:=hide (show ∀w',Below U.heap.size U w'→Calls Tryz.prog 42 #[.agg #[.int .i64 W,.int .i64 H],.agg #[.int .i64 X,.int .i64 Y]] w' fun e w''=>e=.returned (.int .i64 j)∧Below U.heap.size U w'' from fun w' h =>
  (XSSj W H X Y W j rfl HK.out (by omega) w').mono fun e w'' h2=>⟨h2.1,h.trans (h2.2.mono h.size)⟩)
 have HBE:=hide (show ∀w',Below U.heap.size U w'→Calls Tryz.prog tf (#[.agg #[.int .i64 r,.int .i64 g,.int .i64 u]]++caps) w' fun e w''=>e=.returned (.agg #[.int .i64 q0,.int .i64 q1,.int .i64 q2])∧Below U.heap.size U w''∧(w''.cell? ⟨V.heap.size+1,0,none⟩=some (.int .i64 0)∧w''.cell? ⟨V.heap.size+1,1,none⟩=some (.int .i64 0)∧w''.cell? ⟨V.heap.size+1,2,none⟩=some (.int .i64 0))∧w''.frozen? ⟨V.heap.size+1,0,none⟩=false∧w''.frozen? ⟨V.heap.size+1,1,none⟩=false∧w''.frozen? ⟨V.heap.size+1,2,none⟩=false from fun w' h =>
  (hbe w' (HB1.trans (h.mono HB1.size))).mono fun e w'' h2=>by
   have h3:=h.trans (h2.2.mono h.size)
   have hn:=(h3.block (V.heap.size+1) (by omega)).trans n2
   exact ⟨h2.1,h3,z5EY hn,Lib.frozen_of_heap hn 0,Lib.frozen_of_heap hn 1,Lib.frozen_of_heap hn 2⟩)
 have HFIN:=hide (show ∀w' x y z,Below U.heap.size U w'→Below V.heap.size V (((w'.setCell ⟨V.heap.size+1,0,none⟩ x).setCell ⟨V.heap.size+1,1,none⟩ y).setCell ⟨V.heap.size+1,2,none⟩ z) from fun w' x y z h=>zHqh (HB1.trans (h.mono HB1.size)) (by omega) x y z)
 have hdrew:Below U.heap.size U U.drew:=(Below.refl _ _).drew
 clear hbe n1 n2 kf kq kg0 kg1 c0 c1 c2
 go_region_held3 (fun w'=>w'.cell? ⟨Bf,0,none⟩=some (.func (.func tf) #[] caps)∧w'.cell? ⟨Bq,2,none⟩=some (.slice (some ⟨bk,off,none⟩) ps.length ca)∧w'.cell? ⟨Bg,0,none⟩=some (.int .i64 W)∧w'.cell? ⟨Bg,1,none⟩=some (.int .i64 H) ∧
   w'.cell? ⟨bk,off+j*3,none⟩=some (.int .i64 r)∧w'.cell? ⟨bk,off+j*3+1,none⟩=some (.int .i64 g)∧w'.cell? ⟨bk,off+j*3+2,none⟩=some (.int .i64 u)∧w'.cell? ⟨V.heap.size,0,none⟩=some (.int .i64 X)∧w'.cell? ⟨V.heap.size,1,none⟩=some (.int .i64 Y))
  (first|(refine HS.out _ ?_;assumption)|(refine HS3.out _ _ _ _ ?_;assumption))
  (first
   | (go_at_call 42;refine (HIX.out _ ?_).mono ?_;assumption;rintro e wx ⟨rfl,hN⟩)
   | (refine (HBE.out _ ?_).mono ?_;assumption;rintro e wy ⟨rfl,hN2,⟨z0,z1,z2⟩,f0,f1,f2⟩))
 have q0':=z0
 go_wp2
 exact bodyPost_ret (v:=.agg #[.int .i64 q0,.int .i64 q1,.int .i64 q2]) (by simp[results,Tryz.results273,go_sem,z0,z1,z2]) rfl ⟨rfl,HFIN.out _ _ _ _ hN2⟩
theorem zg0q {α:Type} [Inhabited α] {β:Type} (ps:List α) (f:α→β) (N:Nat) (h:ps.length=N):(List.range N).map (fun j=>f (ps.getD j default))=ps.map f:=by
 apply List.ext_getElem
 ·simp[h]
 ·intro i h1 h2
  simp at h1
  simp[List.getD_eq_getElem?_getD,List.getElem?_eq_getElem (show i<ps.length by omega)]
theorem jd7f (W H:Nat) (hW:W≤64) (hH:H≤64) (v:Value) (ps:List Px) (hlen:ps.length=H*W) (tf:Nat) (caps:Array Value) (f:Px→Px) (w:World) (hv:IsPix w v ps) (eg:∀args w,(callFunc tf args).run Tryz.prog w=.ok (.enter tf args) w)
  (hbe:∀(j:Nat) (h:j<ps.length) (U:World),Below w.heap.size w U→Calls Tryz.prog tf (#[pixV ps[j]]++caps) U fun e U'=>e=.returned (pixV (f ps[j]))∧Below U.heap.size U U') :
  Calls Tryz.prog 270 #[.agg #[.int .i64 W,.int .i64 H,v],.func (.func tf) #[] caps] w fun e w'=>∃r,e=.returned (.agg #[.int .i64 W,.int .i64 H,r])∧IsPix w' r (ps.map f)∧Below w.heap.size w w'∧Fresh w.heap.size r:=by
 have HV:=hide hv
 obtain ⟨ao,ca,rfl,hla,hc⟩:=hv
 have hl4:ps.length≤4096:=by rw[hlen];exact Nat.le_trans (Nat.mul_le_mul hH hW) (by decide)
 have HLEN:=hide hlen
 clear hlen
 go_enter Tryz.func270,Tryz.ntmps270
 go_wp2_with fail
 obtain ⟨a1,a2,a3,a4⟩:=al4 w (Obj.cells #[.int .i64 W,.int .i64 H,.slice ao ps.length ca] 24) (Obj.cells #[.func (.func tf) #[] caps] 300) (Obj.cells #[.int .i64 0,.int .i64 0,.slice none 0 0] 24) (Obj.cells #[.int .i64 W,.int .i64 H] 95)
 have hB4:=be4 w (Obj.cells #[.int .i64 W,.int .i64 H,.slice ao ps.length ca] 24) (Obj.cells #[.func (.func tf) #[] caps] 300) (Obj.cells #[.int .i64 0,.int .i64 0,.slice none 0 0] 24) (Obj.cells #[.int .i64 W,.int .i64 H] 95)
 have hs4:((((w.alloc (Obj.cells #[.int .i64 W,.int .i64 H,.slice ao ps.length ca] 24)).alloc (Obj.cells #[.func (.func tf) #[] caps] 300)).alloc (Obj.cells #[.int .i64 0,.int .i64 0,.slice none 0 0] 24)).alloc (Obj.cells #[.int .i64 W,.int .i64 H] 95)).heap.size=w.heap.size+4:=by simp
 generalize (((w.alloc (Obj.cells #[.int .i64 W,.int .i64 H,.slice ao ps.length ca] 24)).alloc (Obj.cells #[.func (.func tf) #[] caps] 300)).alloc (Obj.cells #[.int .i64 0,.int .i64 0,.slice none 0 0] 24)).alloc (Obj.cells #[.int .i64 W,.int .i64 H] 95)=U at *
 refine (XMhx W H (H*W) hW hH rfl 273 _ (fun j=>f (ps.getD j default)) U (enters_of Tryz.func273 (by kernel_rfl) rfl) ?_).mono ?_
 ·intro j V hj hV
  have hj':j<ps.length:=by rw[HLEN.out];exact hj
  have hVw:=hB4.trans (hV.mono hB4.size)
  obtain ⟨bk,off,hao,hbl,hcell⟩:∃b off,ao=some ⟨b,off,none⟩∧b<w.heap.size∧∀j (h:j<ps.length),
    w.cell? ⟨b,off+j*3,none⟩=some (.int .i64 ps[j].1)∧w.cell? ⟨b,off+j*3+1,none⟩=some (.int .i64 ps[j].2.1)∧w.cell? ⟨b,off+j*3+2,none⟩=some (.int .i64 ps[j].2.2):=by
   rcases hc with h|h
   ·subst h;simp at hj'
   ·exact h
  subst hao
  have g1:=(hV.block (w.heap.size) (by omega)).trans a1
  have g2:=(hV.block (w.heap.size+1) (by omega)).trans a2
  have g4:=(hV.block (w.heap.size+3) (by omega)).trans a4
  have hsV:=hV.size
  obtain ⟨c0,c1,c2⟩:=hcell j hj'
  have hD:ps.getD j default=ps[j]:=by simp[List.getD_eq_getElem?_getD,List.getElem?_eq_getElem hj']
  rw[hD]
  exact XQLB W H j bk off ca ps hj' hl4 tf caps (f ps[j]) (w.heap.size+1) w.heap.size (w.heap.size+3) V eg (by omega) (by omega) (by omega) (by omega)
   (by rw[Lib.cell_of_heap g2];rfl) (by rw[Lib.cell_of_heap g1];rfl) (by rw[Lib.cell_of_heap g4];rfl) (by rw[Lib.cell_of_heap g4];rfl)
   ((hVw.cell (p:=⟨bk,off+j*3,none⟩) hbl).trans c0) ((hVw.cell (p:=⟨bk,off+j*3+1,none⟩) hbl).trans c1) ((hVw.cell (p:=⟨bk,off+j*3+2,none⟩) hbl).trans c2)
   (fun U' hU'=>hbe j hj' U' (hVw.trans (hU'.mono hVw.size)))
 ·rintro e w1 ⟨r,rfl,hr,hb,hfr⟩
  rw[zg0q ps f (H*W) HLEN.out] at hr
  have g3:=(hb.block (w.heap.size+1+1) (by omega)).trans a3
  obtain ⟨z0,z1,z2⟩:=z5EY g3
  have f0:=Lib.frozen_of_heap g3 0
  have f1:=Lib.frozen_of_heap g3 1
  have f2:=Lib.frozen_of_heap g3 2
  have HR:=hide hr
  obtain ⟨ro,rc,rfl,_,_⟩:=hr
  have HFIN:=hide (zHqh (hB4.trans (hb.mono hB4.size)) (show w.heap.size≤w.heap.size+1+1 by omega) (.int .i64 W) (.int .i64 H) (.slice ro (ps.map f).length rc))
  have HPX:=hide (HR.out.set3 hfr (show w.heap.size+1+1<U.heap.size by omega) (.int .i64 W) (.int .i64 H) (.slice ro (ps.map f).length rc))
  rw[List.length_map] at HPX HFIN hfr
  go_wp2
  exact bodyPost_ret (v:=.agg #[.int .i64 W,.int .i64 H,.slice ro ps.length rc]) (by simp[results,Tryz.results270,go_sem,z0,z1,z2]) rfl ⟨_,rfl,HPX.out,HFIN.out,hfr.mono (by omega)⟩
end Go.Proofs.YtfjeonehdlphiaaGreatDoor
