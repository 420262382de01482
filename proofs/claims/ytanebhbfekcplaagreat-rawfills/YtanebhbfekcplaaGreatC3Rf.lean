/- Rf: part 3 of what the proofs need. -/
import Derived.Test.YtanebhbfekcplaaGreatC1Rf
import Derived.Test.YtanebhbfekcplaaGreatC2Rf
import Derived.Deep.Cut
import Derived.Deep.CutRange
import Derived.Maps.OwnSet
import Derived.Maps.OwnOps
import Derived.WideKeyEntry
import Derived.DeepKeys4
import Derived.Carry
import Derived.RangeFuncNested
import Derived.RangeFuncCalls
import Derived.OrdersIn
import Derived.OrdersHeld
import Derived.Test.YtanebhbfekcplaaGreatProg
import Derived.RangeFuncBound
import Derived.RangeFuncLeaves
import Derived.Shelf.Abstract
import Derived.Shelf.RegionOpen
import Derived.WalkKit
import Derived.OwnWalkIn
import Derived.TacticsInMore
import Derived.LoopNIn
import Derived.LoopIn
import Derived.RangeFuncBox
import Derived.Maps.AppendAt
import Derived.Deep.RegionHeld3
import Derived.Deep.AppendLies
import Derived.Laws.EntriesVeiled
import Derived.BigQuiet
import Derived.Laws.AppendOwnNone
namespace Go.Proofs.YtanebhbfekcplaaGreat
set_option linter.unusedVariables false
set_option linter.unusedSimpArgs false
open Go.RowKit
def kq9 (w h d k r:Int) (le:List Int) (st:List (List UInt8)) (n:zw) (l:List UInt8):Option qH:=if l=[] then some ⟨w,h,d,k,r,le,st,n⟩ else none
def kq8 (b3 b4:List UInt8→Nat) (w h d k r:Int) (le:List Int) (st:List (List UInt8)) (l:List UInt8):Option qH:=match YZ b3 b4 l with
 | none=>none
 | some (n,u)=>kq9 w h d k r le st n u
def kq7 (b2 b3 b4:List UInt8→Nat) (w h d k r:Int) (le:List Int) (l:List UInt8):Option qH:=match X0 JG b2 l with
 | none=>none
 | some (st,u)=>kq8 b3 b4 w h d k r le st u
def kq6 (b1 b2 b3 b4:List UInt8→Nat) (w h d k r:Int) (l:List UInt8):Option qH:=match X0 J3 b1 l with
 | none=>none
 | some (le,u)=>kq7 b2 b3 b4 w h d k r le u
def kq5 (b1 b2 b3 b4:List UInt8→Nat) (w h d k:Int) (l:List UInt8):Option qH:=match J3 l with
 | none=>none
 | some (r,u)=>kq6 b1 b2 b3 b4 w h d k r u
def kq4 (b1 b2 b3 b4:List UInt8→Nat) (w h d:Int) (l:List UInt8):Option qH:=match J3 l with
 | none=>none
 | some (k,u)=>kq5 b1 b2 b3 b4 w h d k u
def kq3 (b1 b2 b3 b4:List UInt8→Nat) (w h:Int) (l:List UInt8):Option qH:=match J3 l with
 | none=>none
 | some (d,u)=>kq4 b1 b2 b3 b4 w h d u
def kq2 (b1 b2 b3 b4:List UInt8→Nat) (w:Int) (l:List UInt8):Option qH:=match J3 l with
 | none=>none
 | some (h,u)=>kq3 b1 b2 b3 b4 w h u
def kq1 (b1 b2 b3 b4:List UInt8→Nat) (l:List UInt8):Option qH:=match J3 l with
 | none=>none
 | some (w,u)=>kq2 b1 b2 b3 b4 w u
def q39 (b1 b2 b3 b4:List UInt8→Nat) (s:List UInt8):Option qH:=match JG s with
 | none=>none
 | some (m,l)=>if m=XN then kq1 b1 b2 b3 b4 l else none
def QS (s:List UInt8):Value:=.string (str s)
theorem q1s {g:Nat} {t:TypeId} {xs:List Int} {V:World} (h:j9 g t (xs.map (Value.int .i64)) V) (hn:xs.length≤1048576):qd V (.slice (some ⟨g,0,none⟩) xs.length xs.length) xs:=by
 refine ⟨_,_,rfl,by omega,.inr ⟨g,0,rfl,h.lt,fun j hj=>?_⟩⟩
 rw[Nat.zero_add,Lib.cell_of_heap h]
 simp[hj]
theorem q1v {g:Nat} {t:TypeId} {ts:List (List UInt8)} {V:World} (h:j9 g t (ts.map QS) V) (hn:ts.length≤1048576):jk V (.slice (some ⟨g,0,none⟩) ts.length ts.length) ts:=by
 refine ⟨_,_,rfl,by omega,.inr ⟨g,0,rfl,h.lt,fun j hj=>?_⟩⟩
 rw[Nat.zero_add,Lib.cell_of_heap h]
 simp[hj,QS]
theorem Tryz.infoStrF:(Tryz.prog.info? 9).map (fun i=>(i.zero,i.size,i.bytes))=some (some (.string ⟨#[]⟩),1,16):=by kernel_rfl
theorem q0v (z:Value) (N:Nat):madeCells #[z] N=(List.replicate N z).toArray:=by
 refine Array.ext (by simp[madeCells]) fun i h1 h2=>?_
 simp[madeCells,Nat.mod_one]
theorem q2E (ns:List (List UInt8)) (M:Nat) (x:List UInt8):(ns.map QS++List.replicate (M+1) (Value.string ⟨#[]⟩)).set ns.length (.string (str x))=(ns++[x]).map QS++List.replicate M (Value.string ⟨#[]⟩):=by
 rw[List.set_append_right _ _ (by simp),List.length_map,Nat.sub_self,List.replicate_succ,List.set_cons_zero]
 simp[QS]
theorem q16 (s:List UInt8) (w:World) (hl:s.length≤281474976710656) :
  Calls Tryz.prog 85 #[.string (str s)] w fun e w'=>e=.returned (.string (str s))∧Below w.heap.size w w':=by
 have HC:=q7 (Tryz.stringslite_Clone (str s) w (by rw[qu];exact hl))
 go_enter Tryz.func85,Tryz.ntmps85
 go_wp2_with fail
 refine (HC.out).mono ?_
 rintro e w1 ⟨rfl,hb⟩
 go_wp2
 go_ret
 exact ⟨rfl,hb⟩
theorem Yp {l t s:List UInt8} (h:JG l=some (s,t)):t.length≤l.length:=by
 rw[(YE.sound _ _ _ h).1,List.length_append];omega
theorem K2 {l t s:List UInt8} (h:JG l=some (s,t)):s.length≤l.length:=by
 rw[(YE.sound _ _ _ h).1,List.length_append,zI,List.length_append];omega
structure FJ (w:World) (X:List (Nat×TypeId×List Value)) (l:List UInt8) (cs:List Value) (V:World):Prop where
 sep:∀x∈X,w.heap.size+2<x.1
 bel:Below w.heap.size w V
 rd:Z8 (w.heap.size+2) l V
 box:j9 w.heap.size 32 cs V
 okb:j9 (w.heap.size+1) 4 [.bool false] V
 ex:∀x∈X,j9 x.1 x.2.1 x.2.2 V
theorem FJ.num {w:World} {X:List (Nat×TypeId×List Value)} {l t:List UInt8} {cs:List Value} {V V':World} (h:FJ w X l cs V) (hs:RSt w.heap.size (w.heap.size+2) V V') (hr:Z8 (w.heap.size+2) t V'):FJ w X t cs V' where
 sep:=h.sep
 bel:=h.bel.trans hs.bel
 rd:=hr
 box:=(hs.keep _ h.box.lt (by omega)).trans h.box
 okb:=(hs.keep _ h.okb.lt (by omega)).trans h.okb
 ex:=fun x hx=>(hs.keep _ (h.ex x hx).lt (by have:=h.sep x hx;omega)).trans (h.ex x hx)
theorem FJ.pan {w:World} {X:List (Nat×TypeId×List Value)} {l:List UInt8} {cs:List Value} {V V':World} (h:FJ w X l cs V) (hs:RSt w.heap.size (w.heap.size+2) V V'):Below w.heap.size w V'∧j9 w.heap.size 32 cs V'∧j9 (w.heap.size+1) 4 [.bool false] V' :=
 ⟨h.bel.trans hs.bel,(hs.keep _ h.box.lt (by omega)).trans h.box,(hs.keep _ h.okb.lt (by omega)).trans h.okb⟩
theorem FJ.pan2 {w:World} {X:List (Nat×TypeId×List Value)} {l:List UInt8} {cs:List Value} {V V':World} {g:Nat} (h:FJ w X l cs V) (hg:w.heap.size+2<g) (hs:KD w.heap.size (w.heap.size+2) g V V'):Below w.heap.size w V'∧j9 w.heap.size 32 cs V'∧j9 (w.heap.size+1) 4 [.bool false] V' :=
 ⟨h.bel.trans hs.bel,(hs.keep _ h.box.lt (by omega) (by omega)).trans h.box,(hs.keep _ h.okb.lt (by omega) (by omega)).trans h.okb⟩
theorem FJ.put {w:World} {X:List (Nat×TypeId×List Value)} {l:List UInt8} {cs:List Value} {V:World} (h:FJ w X l cs V) (i:Nat) (v:Value) (h1:v.oneCell'=true):FJ w X l (cs.set i v) (V.setCell ⟨w.heap.size,i,none⟩ v):=by
 obtain ⟨hh,hs⟩:=h.box.set (B:=w.heap.size) (b:=w.heap.size+2) (Nat.le_refl _) i v h1
 have hk:∀k,k≠w.heap.size→(V.setCell ⟨w.heap.size,i,none⟩ v).heap[k]?=V.heap[k]?:=fun k hk=>Below.heap_setCell _ _ _ _ (fun e=>hk e)
 exact ⟨h.sep,h.bel.trans hs.bel,(hk _ (by omega)).trans h.rd,hh,(hk _ (by omega)).trans h.okb,fun x hx=>(hk _ (by have:=h.sep x hx;omega)).trans (h.ex x hx)⟩
theorem FJ.alloc {w:World} {X:List (Nat×TypeId×List Value)} {l:List UInt8} {cs:List Value} {V:World} (h:FJ w X l cs V) (ds:List Value) (t:TypeId):FJ w ((V.heap.size,t,ds)::X) l cs (V.alloc (.cells ds.toArray t)) where
 sep:=fun x hx=>by
  rcases List.mem_cons.1 hx with rfl|hx
  ·exact (Array.getElem?_eq_some_iff.1 h.rd).1
  ·exact h.sep x hx
 bel:=h.bel.trans ((qa V _).mono h.bel.size)
 rd:=QE h.rd _
 box:=((qa V _).block _ h.box.lt).trans h.box
 okb:=((qa V _).block _ h.okb.lt).trans h.okb
 ex:=fun x hx=>by
  rcases List.mem_cons.1 hx with rfl|hx
  ·exact al1 V _
  ·exact ((qa V _).block _ (h.ex x hx).lt).trans (h.ex x hx)
theorem FJ.bel2 {w:World} {X:List (Nat×TypeId×List Value)} {l:List UInt8} {cs:List Value} {V V':World} (h:FJ w X l cs V) (hb:Below V.heap.size V V'):FJ w X l cs V' :=
 ⟨h.sep,h.bel.trans (hb.mono h.bel.size),(hb.block _ (Array.getElem?_eq_some_iff.1 h.rd).1).trans h.rd,(hb.block _ h.box.lt).trans h.box,(hb.block _ h.okb.lt).trans h.okb,fun x hx=>(hb.block _ (h.ex x hx).lt).trans (h.ex x hx)⟩
theorem FJ.drew {w:World} {X:List (Nat×TypeId×List Value)} {l:List UInt8} {cs:List Value} {V:World} (h:FJ w X l cs V):FJ w X l cs V.drew :=
 ⟨h.sep,h.bel.drew,h.rd,h.box,h.okb,h.ex⟩
theorem FJ.fillX {w:World} {X:List (Nat×TypeId×List Value)} {g:Nat} {t:TypeId} {ds ds':List Value} {l u:List UInt8} {cs:List Value} {V V':World} (h:FJ w ((g,t,ds)::X) l cs V) (hX:∀x∈X,x.1≠g) (hs:KD w.heap.size (w.heap.size+2) g V V') (hr:Z8 (w.heap.size+2) u V') (hh:j9 g t ds' V'):FJ w ((g,t,ds')::X) u cs V':=by
 have hg:w.heap.size+2<g:=h.sep (g,t,ds) List.mem_cons_self
 refine ⟨?_,h.bel.trans hs.bel,hr,(hs.keep _ h.box.lt (by omega) (by omega)).trans h.box,(hs.keep _ h.okb.lt (by omega) (by omega)).trans h.okb,?_⟩
 ·intro x hx
  rcases List.mem_cons.1 hx with rfl|hx
  ·exact hg
  ·exact h.sep x (by simp[hx])
 ·intro x hx
  rcases List.mem_cons.1 hx with rfl|hx
  ·exact hh
  ·exact (hs.keep _ (h.ex x (by simp[hx])).lt (by have:=h.sep x (by simp[hx]);omega) (hX x hx)).trans (h.ex x (by simp[hx]))
theorem FJ.plan {w:World} {X:List (Nat×TypeId×List Value)} {l:List UInt8} {cs cs':List Value} {V:World} (h:FJ w X l cs V):FJ w X l cs' (V.setRow w.heap.size cs'.toArray):=by
 have hk:∀k,k≠w.heap.size→(V.setRow w.heap.size cs'.toArray).heap[k]?=V.heap[k]?:=fun k hk=>setRow_other _ _ _ _ hk
 exact ⟨h.sep,below_setRow h.bel (Nat.le_refl _) _,(hk _ (by omega)).trans h.rd,setRow_heap _ _ _ _ _ _ h.box,(hk _ (by omega)).trans h.okb,fun x hx=>(hk _ (by have:=h.sep x hx;omega)).trans (h.ex x hx)⟩
set_option maxRecDepth 100000 in
set_option maxHeartbeats 3200000 in
theorem q0M (s:List UInt8) (w:World) (hs:s.length≤140737488355328) :
    Calls Tryz.prog 45 #[.string (str s)] w fun e w'=>Below w.heap.size w w'∧((∃r lv tv sv cv,q39 (fun _=>17) (fun _=>64) (fun _=>64) (fun _=>16) s=some r∧e=.returned (.tuple #[.agg (qs r lv tv sv cv),.bool true])∧jl w' r lv tv sv cv∧qn w.heap.size lv∧qn w.heap.size tv∧qn w.heap.size sv∧qn w.heap.size cv)∨(q39 (fun _=>17) (fun _=>64) (fun _=>64) (fun _=>16) s=none∧e=.returned (.tuple #[.agg qr,.bool false]))):=by
  have HJ0:FJ w [] s qr.toList (((w.alloc (.cells qr 32)).alloc (.cells #[.bool false] 4)).alloc (.cells #[.string (str s)] 115)):=by
    obtain ⟨a1,a2,a3⟩:=al3 w (Obj.cells qr 32) (Obj.cells #[.bool false] 4) (Obj.cells #[.string (str s)] 115)
    exact ⟨by simp,be3 w _ _ _,a3,a1,a2,by simp⟩
  have HJ:=q7 HJ0
  clear HJ0
  have hmf:∀(fn:Fn) (first cap:Array Value) (w:World),(Instr.makeFunc fn first cap).run Tryz.prog w=.ok (.func fn first cap) w:=fun _ _ _ _=>rfl
  obtain ⟨R,HP⟩:∃R,Hid (R=q39 (fun _=>17) (fun _=>64) (fun _=>64) (fun _=>16) s):=⟨_,rfl⟩
  rw[←HP.out]
  go_enter_defers Tryz.func45,Tryz.ntmps45
  go_wp2_with fail
  generalize ((w.alloc (.cells qr 32)).alloc (.cells #[.bool false] 4)).alloc (.cells #[.string (str s)] 115)=V0 at *
  refine (Kf w.heap.size (w.heap.size+2) s V0 (by omega) HJ.out.bel.size HJ.out.rd (by omega)).mono ?_
  rintro e V1 ⟨hS,hc⟩
  rcases hc with ⟨m,l1,hp,rfl,hR⟩|⟨hp,rfl⟩
  rotate_left
  · exact (fun q => jg q.1 q.2.1 rfl q.2.2 rfl rfl (fun W hW => ⟨hW, .inr ⟨by rw [HP.out, q39, hp], rfl⟩⟩)) (HJ.out.pan hS)
  have hl1:l1.length≤140737488355328:=by have:=Yp hp;omega
  replace HP:=q7 (show R=if m=XN then kq1 (fun _=>17) (fun _=>64) (fun _=>64) (fun _=>16) l1 else none by rw[HP.out,q39,hp])
  replace HJ:=q7 (HJ.out.num hS hR)
  have hml:=K2 hp
  clear hp hS hR
  by_cases hm:m=XN
  rotate_left
  · rw [if_neg hm] at HP
    have hq:((str m).toList == [100,97,114,107])=false:=by rw[Lib.toList_data,qI];exact beq_false_of_ne hm
    go_wp2_with fail
    refine (Yf _).mono ?_
    rintro e V' ⟨rfl,rfl⟩
    exact jg HJ.out.bel HJ.out.box rfl HJ.out.okb rfl rfl (fun W hW=>⟨hW,.inr ⟨HP.out,rfl⟩⟩)
  subst hm
  rw[if_pos rfl] at HP
  have hq:((str XN).toList == [100,97,114,107])=true:=by rw[Lib.toList_data,qI];rfl
  go_wp2_with fail
  refine (Zj _).mono ?_
  rintro e VQ ⟨rfl,rfl⟩
  go_wp2_with fail
  refine (jm w.heap.size (w.heap.size+2) l1 VQ (by omega) HJ.out.bel.size HJ.out.rd (by omega)).mono ?_
  rintro e V2 ⟨hS,hc⟩
  rcases hc with ⟨rw,l2,hp,rfl,hR⟩|⟨hp,rfl⟩
  rotate_left
  · exact (fun q => jg q.1 q.2.1 rfl q.2.2 rfl rfl (fun W hW => ⟨hW, .inr ⟨by rw [HP.out, kq1, hp], rfl⟩⟩)) (HJ.out.pan hS)
  have hl2:l2.length≤140737488355328:=by have:=ze hp;omega
  replace HP:=q7 (show R=kq2 (fun _=>17) (fun _=>64) (fun _=>64) (fun _=>16) rw l2 by rw[HP.out,kq1,hp])
  replace HJ:=q7 (HJ.out.num hS hR)
  clear hp hS hR
  go_wp2_with fail
  refine (jm w.heap.size (w.heap.size+2) l2 V2 (by omega) HJ.out.bel.size HJ.out.rd (by omega)).mono ?_
  rintro e V3 ⟨hS,hc⟩
  rcases hc with ⟨rh,l3,hp,rfl,hR⟩|⟨hp,rfl⟩
  rotate_left
  · exact (fun q => jg q.1 q.2.1 rfl q.2.2 rfl rfl (fun W hW => ⟨hW, .inr ⟨by rw [HP.out, kq2, hp], rfl⟩⟩)) (HJ.out.pan hS)
  have hl3:l3.length≤140737488355328:=by have:=ze hp;omega
  replace HP:=q7 (show R=kq3 (fun _=>17) (fun _=>64) (fun _=>64) (fun _=>16) rw rh l3 by rw[HP.out,kq2,hp])
  replace HJ:=q7 (HJ.out.num hS hR)
  clear hp hS hR
  have c0:V3.cell? ⟨w.heap.size,0,none⟩=some (.int .i64 0):=by rw[Lib.cell_of_heap HJ.out.box];rfl
  have f0:V3.frozen? ⟨w.heap.size,0,none⟩=false:=Lib.frozen_of_heap HJ.out.box _
  replace HJ:=q7 (HJ.out.put 0 (.int .i64 rw) rfl)
  replace HJ:=q7 (show FJ w [] l3 [.int .i64 rw,.int .i64 0,.int .i64 0,.int .i64 0,.int .i64 0,.slice none 0 0,.slice none 0 0,.int .i64 0,.int .i64 0,.int .i64 0,.int .i64 0,.int .i64 0,.int .i64 0,.slice none 0 0,.int .i64 0,.int .i64 0,.int .i64 0,.int .i64 0,.int .i64 0,.int .i64 0,.int .i64 0,.int .i64 0,.int .i64 0,.int .i64 0,.int .i64 0,.int .i64 0,.slice none 0 0,.int .i64 0] (V3.setCell ⟨w.heap.size,0,none⟩ (.int .i64 rw)) from HJ.out)
  have c1:(V3.setCell ⟨w.heap.size,0,none⟩ (.int .i64 rw)).cell? ⟨w.heap.size,1,none⟩=some (.int .i64 0):=by rw[Lib.cell_of_heap HJ.out.box];rfl
  have f1:(V3.setCell ⟨w.heap.size,0,none⟩ (.int .i64 rw)).frozen? ⟨w.heap.size,1,none⟩=false:=Lib.frozen_of_heap HJ.out.box _
  replace HJ:=q7 (HJ.out.put 1 (.int .i64 rh) rfl)
  replace HJ:=q7 (show FJ w [] l3 [.int .i64 rw,.int .i64 rh,.int .i64 0,.int .i64 0,.int .i64 0,.slice none 0 0,.slice none 0 0,.int .i64 0,.int .i64 0,.int .i64 0,.int .i64 0,.int .i64 0,.int .i64 0,.slice none 0 0,.int .i64 0,.int .i64 0,.int .i64 0,.int .i64 0,.int .i64 0,.int .i64 0,.int .i64 0,.int .i64 0,.int .i64 0,.int .i64 0,.int .i64 0,.int .i64 0,.slice none 0 0,.int .i64 0] ((V3.setCell ⟨w.heap.size,0,none⟩ (.int .i64 rw)).setCell ⟨w.heap.size,1,none⟩ (.int .i64 rh)) from HJ.out)
  go_wp2_with fail
  clear c0 f0 c1 f1
  generalize ((V3.setCell ⟨w.heap.size,0,none⟩ (.int .i64 rw)).setCell ⟨w.heap.size,1,none⟩ (.int .i64 rh))=VB at *
  refine (jm w.heap.size (w.heap.size+2) l3 VB (by omega) HJ.out.bel.size HJ.out.rd (by omega)).mono ?_
  rintro e V4 ⟨hS,hc⟩
  rcases hc with ⟨rd,l4,hp,rfl,hR⟩|⟨hp,rfl⟩
  rotate_left
  · exact (fun q => jg q.1 q.2.1 rfl q.2.2 rfl rfl (fun W hW => ⟨hW, .inr ⟨by rw [HP.out, kq3, hp], rfl⟩⟩)) (HJ.out.pan hS)
  have hl4:l4.length≤140737488355328:=by have:=ze hp;omega
  replace HP:=q7 (show R=kq4 (fun _=>17) (fun _=>64) (fun _=>64) (fun _=>16) rw rh rd l4 by rw[HP.out,kq3,hp])
  replace HJ:=q7 (HJ.out.num hS hR)
  clear hp hS hR
  go_wp2_with fail
  refine (jm w.heap.size (w.heap.size+2) l4 V4 (by omega) HJ.out.bel.size HJ.out.rd (by omega)).mono ?_
  rintro e V5 ⟨hS,hc⟩
  rcases hc with ⟨rk,l5,hp,rfl,hR⟩|⟨hp,rfl⟩
  rotate_left
  · exact (fun q => jg q.1 q.2.1 rfl q.2.2 rfl rfl (fun W hW => ⟨hW, .inr ⟨by rw [HP.out, kq4, hp], rfl⟩⟩)) (HJ.out.pan hS)
  have hl5:l5.length≤140737488355328:=by have:=ze hp;omega
  replace HP:=q7 (show R=kq5 (fun _=>17) (fun _=>64) (fun _=>64) (fun _=>16) rw rh rd rk l5 by rw[HP.out,kq4,hp])
  replace HJ:=q7 (HJ.out.num hS hR)
  clear hp hS hR
  go_wp2_with fail
  refine (jm w.heap.size (w.heap.size+2) l5 V5 (by omega) HJ.out.bel.size HJ.out.rd (by omega)).mono ?_
  rintro e V6 ⟨hS,hc⟩
  rcases hc with ⟨rr,l6,hp,rfl,hR⟩|⟨hp,rfl⟩
  rotate_left
  · exact (fun q => jg q.1 q.2.1 rfl q.2.2 rfl rfl (fun W hW => ⟨hW, .inr ⟨by rw [HP.out, kq5, hp], rfl⟩⟩)) (HJ.out.pan hS)
  have hl6:l6.length≤140737488355328:=by have:=ze hp;omega
  replace HP:=q7 (show R=kq6 (fun _=>17) (fun _=>64) (fun _=>64) (fun _=>16) rw rh rd rk rr l6 by rw[HP.out,kq5,hp])
  replace HJ:=q7 (HJ.out.num hS hR)
  clear hp hS hR
  have c0:V6.cell? ⟨w.heap.size,2,none⟩=some (.int .i64 0):=by rw[Lib.cell_of_heap HJ.out.box];rfl
  have f0:V6.frozen? ⟨w.heap.size,2,none⟩=false:=Lib.frozen_of_heap HJ.out.box _
  replace HJ:=q7 (HJ.out.put 2 (.int .i64 rd) rfl)
  replace HJ:=q7 (show FJ w [] l6 [.int .i64 rw,.int .i64 rh,.int .i64 rd,.int .i64 0,.int .i64 0,.slice none 0 0,.slice none 0 0,.int .i64 0,.int .i64 0,.int .i64 0,.int .i64 0,.int .i64 0,.int .i64 0,.slice none 0 0,.int .i64 0,.int .i64 0,.int .i64 0,.int .i64 0,.int .i64 0,.int .i64 0,.int .i64 0,.int .i64 0,.int .i64 0,.int .i64 0,.int .i64 0,.int .i64 0,.slice none 0 0,.int .i64 0] (V6.setCell ⟨w.heap.size,2,none⟩ (.int .i64 rd)) from HJ.out)
  have c1:(V6.setCell ⟨w.heap.size,2,none⟩ (.int .i64 rd)).cell? ⟨w.heap.size,3,none⟩=some (.int .i64 0):=by rw[Lib.cell_of_heap HJ.out.box];rfl
  have f1:(V6.setCell ⟨w.heap.size,2,none⟩ (.int .i64 rd)).frozen? ⟨w.heap.size,3,none⟩=false:=Lib.frozen_of_heap HJ.out.box _
  replace HJ:=q7 (HJ.out.put 3 (.int .i64 rk) rfl)
  replace HJ:=q7 (show FJ w [] l6 [.int .i64 rw,.int .i64 rh,.int .i64 rd,.int .i64 rk,.int .i64 0,.slice none 0 0,.slice none 0 0,.int .i64 0,.int .i64 0,.int .i64 0,.int .i64 0,.int .i64 0,.int .i64 0,.slice none 0 0,.int .i64 0,.int .i64 0,.int .i64 0,.int .i64 0,.int .i64 0,.int .i64 0,.int .i64 0,.int .i64 0,.int .i64 0,.int .i64 0,.int .i64 0,.int .i64 0,.slice none 0 0,.int .i64 0] ((V6.setCell ⟨w.heap.size,2,none⟩ (.int .i64 rd)).setCell ⟨w.heap.size,3,none⟩ (.int .i64 rk)) from HJ.out)
  have c2:((V6.setCell ⟨w.heap.size,2,none⟩ (.int .i64 rd)).setCell ⟨w.heap.size,3,none⟩ (.int .i64 rk)).cell? ⟨w.heap.size,4,none⟩=some (.int .i64 0):=by rw[Lib.cell_of_heap HJ.out.box];rfl
  have f2:((V6.setCell ⟨w.heap.size,2,none⟩ (.int .i64 rd)).setCell ⟨w.heap.size,3,none⟩ (.int .i64 rk)).frozen? ⟨w.heap.size,4,none⟩=false:=Lib.frozen_of_heap HJ.out.box _
  replace HJ:=q7 (HJ.out.put 4 (.int .i64 rr) rfl)
  replace HJ:=q7 (show FJ w [] l6 [.int .i64 rw,.int .i64 rh,.int .i64 rd,.int .i64 rk,.int .i64 rr,.slice none 0 0,.slice none 0 0,.int .i64 0,.int .i64 0,.int .i64 0,.int .i64 0,.int .i64 0,.int .i64 0,.slice none 0 0,.int .i64 0,.int .i64 0,.int .i64 0,.int .i64 0,.int .i64 0,.int .i64 0,.int .i64 0,.int .i64 0,.int .i64 0,.int .i64 0,.int .i64 0,.int .i64 0,.slice none 0 0,.int .i64 0] (((V6.setCell ⟨w.heap.size,2,none⟩ (.int .i64 rd)).setCell ⟨w.heap.size,3,none⟩ (.int .i64 rk)).setCell ⟨w.heap.size,4,none⟩ (.int .i64 rr)) from HJ.out)
  go_wp2_with fail
  clear c0 f0 c1 f1 c2 f2
  generalize (((V6.setCell ⟨w.heap.size,2,none⟩ (.int .i64 rd)).setCell ⟨w.heap.size,3,none⟩ (.int .i64 rk)).setCell ⟨w.heap.size,4,none⟩ (.int .i64 rr))=VC at *
  refine (QA w.heap.size (w.heap.size+2) 17 l6 VC (by omega) HJ.out.bel.size HJ.out.rd (by omega)).mono ?_
  rintro e V7 ⟨hS,hc⟩
  rcases hc with ⟨n,l7,hp,rfl,hR⟩|⟨hp,rfl⟩
  rotate_left
  · exact (fun q => jg q.1 q.2.1 rfl q.2.2 rfl rfl (fun W hW => ⟨hW, .inr ⟨by rw [HP.out, kq6, Yl hp], rfl⟩⟩)) (HJ.out.pan hS)
  obtain ⟨N7,rfl,hN7,hlp,hlen⟩:=Za (p:=J3) hp
  have HLP:=q7 hlp
  have hl7:l7.length≤140737488355328:=by omega
  replace HJ:=q7 (HJ.out.num hS hR)
  clear hp hS hR hlp hlen
  obtain ⟨i0,hi,hz0,hz1,hz2⟩:=info_parts Tryz.infoInt
  obtain ⟨ZA,hZA⟩:∃ZA:Array Value,(List.replicate N7 (Value.int .i64 0)).toArray=ZA:=⟨_,rfl⟩
  have hmk:∀V:World,(Instr.makeSlice 22 (.int .i64 N7) (.int .i64 N7)).run Tryz.prog V=.ok (.slice (some ⟨V.heap.size,0,none⟩) N7 N7) (V.alloc (.cells ZA 3)):=fun V=>by
    have h:=run_make (P:=Tryz.prog) V 22 3 i0 (Value.int .i64 0) Tryz.underlying22 hi hz0 .i64 .i64 N7 N7 (by omega) (Int.le_refl _) (by rw[hz2];omega) (by omega)
    rw[hz1,Int.toNat_natCast,Nat.mul_one] at h
    rw[←hZA,←q0v]
    simpa [Value.cells] using h
  clear hi hz0 hz1 hz2
  have hxs7:∀x∈([]:List (Nat×TypeId×List Value)),x.1≠V7.heap.size:=fun x hx=>by have:=(HJ.out.ex x hx).lt;omega
  have ci:V7.cell? ⟨w.heap.size,5,none⟩=some (.slice none 0 0):=by rw[Lib.cell_of_heap HJ.out.box];rfl
  have fi:V7.frozen? ⟨w.heap.size,5,none⟩=false:=Lib.frozen_of_heap HJ.out.box _
  have hbl:w.heap.size<V7.heap.size:=HJ.out.box.lt
  have ci':(V7.alloc (.cells ZA 3)).cell? ⟨w.heap.size,5,none⟩=some (.slice none 0 0):=by rw[Lib.cell_of_heap (((qa V7 _).block _ HJ.out.box.lt).trans HJ.out.box)];rfl
  have fi':(V7.alloc (.cells ZA 3)).frozen? ⟨w.heap.size,5,none⟩=false:=Lib.frozen_of_heap (((qa V7 _).block _ HJ.out.box.lt).trans HJ.out.box) _
  replace HJ:=q7 ((HJ.out.put 5 (.slice (some ⟨V7.heap.size,0,none⟩) N7 N7) rfl).alloc (List.replicate N7 (Value.int .i64 0)) 3)
  rw[hZA,show (V7.setCell ⟨w.heap.size,5,none⟩ (.slice (some ⟨V7.heap.size,0,none⟩) N7 N7)).heap.size=V7.heap.size by simp[World.setCell]] at HJ
  clear hZA
  have hsep7:w.heap.size+2<V7.heap.size:=HJ.out.sep _ List.mem_cons_self
  go_upto_region 7 with fail
  clear ci fi ci' fi' hmk hbl
  generalize V7.heap.size=S7 at *
  generalize (V7.setCell ⟨w.heap.size,5,none⟩ (.slice (some ⟨S7,0,none⟩) N7 N7)).alloc (.cells ZA 3)=VD at *
  replace HJ:=q7 (show FJ w [(S7,3,List.replicate N7 (Value.int .i64 0))] l7 [.int .i64 rw,.int .i64 rh,.int .i64 rd,.int .i64 rk,.int .i64 rr,.slice (some ⟨S7,0,none⟩) N7 N7,.slice none 0 0,.int .i64 0,.int .i64 0,.int .i64 0,.int .i64 0,.int .i64 0,.int .i64 0,.slice none 0 0,.int .i64 0,.int .i64 0,.int .i64 0,.int .i64 0,.int .i64 0,.int .i64 0,.int .i64 0,.int .i64 0,.int .i64 0,.int .i64 0,.int .i64 0,.int .i64 0,.slice none 0 0,.int .i64 0] VD from HJ.out)
  have cj:VD.cell? ⟨w.heap.size,5,none⟩=some (.slice (some ⟨S7,0,none⟩) N7 N7):=by rw[Lib.cell_of_heap HJ.out.box];rfl
  go_wp2_with fail
  clear cj
  have hHL:=HJ.out.ex (S7,3,List.replicate N7 (Value.int .i64 0)) (by simp)
  refine (Jp w.heap.size (w.heap.size+2) S7 0 N7 N7 3 (List.replicate N7 (Value.int .i64 0)) l7 VD (by omega) (by omega) (by omega) HJ.out.bel.size HJ.out.rd (by omega) hHL (by simp) (by omega) (fun i hi=>⟨0,by rw[Nat.zero_add,List.getElem?_replicate,if_pos hi]⟩)).mono ?_
  rintro e VE ⟨hS,hc⟩
  rcases hc with ⟨le,lE,hp,rfl,hR,hH⟩|⟨hp,rfl⟩
  rotate_left
  · exact (fun q => jg q.1 q.2.1 rfl q.2.2 rfl rfl (fun W hW => ⟨hW, .inr ⟨by rw [HP.out, kq6, HLP.out, hp], rfl⟩⟩)) (HJ.out.pan2 hsep7 hS)
  have hnl:=je hp
  have hlE:lE.length≤140737488355328:=by have:=zV (fun _ _ _=>ze) hp;omega
  replace HP:=q7 (show R=kq7 (fun _=>64) (fun _=>64) (fun _=>16) rw rh rd rk rr le lE by rw[HP.out,kq6,HLP.out,hp])
  have hpe:JB (List.replicate N7 (Value.int .i64 0)) 0 (le.map (Value.int .i64))=le.map (Value.int .i64):=by
    unfold JB
    rw[List.take_zero,List.nil_append,List.drop_of_length_le (by simp;omega),List.append_nil]
  rw[hpe] at hH
  replace HJ:=q7 (HJ.out.fillX (by simp) hS hR hH)
  clear hp hS hR hH HLP hHL hpe
  go_wp2_with fail
  refine (QA w.heap.size (w.heap.size+2) 64 lE VE (by omega) HJ.out.bel.size HJ.out.rd (by omega)).mono ?_
  rintro e V8 ⟨hS,hc⟩
  rcases hc with ⟨n,l8,hp,rfl,hR⟩|⟨hp,rfl⟩
  rotate_left
  · exact (fun q => jg q.1 q.2.1 rfl q.2.2 rfl rfl (fun W hW => ⟨hW, .inr ⟨by rw [HP.out, kq7, Yl hp], rfl⟩⟩)) (HJ.out.pan hS)
  obtain ⟨N8,rfl,hN8,hlp,hlen⟩:=Za (p:=JG) hp
  have HLP:=q7 hlp
  have hl8:l8.length≤140737488355328:=by omega
  replace HJ:=q7 (HJ.out.num hS hR)
  clear hp hS hR hlp hlen
  obtain ⟨i0,hi,hz0,hz1,hz2⟩:=info_parts Tryz.infoStrF
  obtain ⟨ZA,hZA⟩:∃ZA:Array Value,(List.replicate N8 (Value.string ⟨#[]⟩)).toArray=ZA:=⟨_,rfl⟩
  have hmk:∀V:World,(Instr.makeSlice 23 (.int .i64 N8) (.int .i64 N8)).run Tryz.prog V=.ok (.slice (some ⟨V.heap.size,0,none⟩) N8 N8) (V.alloc (.cells ZA 9)):=fun V=>by
    have h:=run_make (P:=Tryz.prog) V 23 9 i0 (Value.string ⟨#[]⟩) Tryz.underlying23 hi hz0 .i64 .i64 N8 N8 (by omega) (Int.le_refl _) (by rw[hz2];omega) (by omega)
    rw[hz1,Int.toNat_natCast,Nat.mul_one] at h
    rw[←hZA,←q0v]
    simpa [Value.cells] using h
  clear hi hz0 hz1 hz2
  have hxs8:∀x∈([(S7,3,le.map (Value.int .i64))]:List (Nat×TypeId×List Value)),x.1≠V8.heap.size:=fun x hx=>by have:=(HJ.out.ex x hx).lt;omega
  have ci:V8.cell? ⟨w.heap.size,6,none⟩=some (.slice none 0 0):=by rw[Lib.cell_of_heap HJ.out.box];rfl
  have fi:V8.frozen? ⟨w.heap.size,6,none⟩=false:=Lib.frozen_of_heap HJ.out.box _
  have hbl:w.heap.size<V8.heap.size:=HJ.out.box.lt
  have ci':(V8.alloc (.cells ZA 9)).cell? ⟨w.heap.size,6,none⟩=some (.slice none 0 0):=by rw[Lib.cell_of_heap (((qa V8 _).block _ HJ.out.box.lt).trans HJ.out.box)];rfl
  have fi':(V8.alloc (.cells ZA 9)).frozen? ⟨w.heap.size,6,none⟩=false:=Lib.frozen_of_heap (((qa V8 _).block _ HJ.out.box.lt).trans HJ.out.box) _
  replace HJ:=q7 ((HJ.out.put 6 (.slice (some ⟨V8.heap.size,0,none⟩) N8 N8) rfl).alloc (List.replicate N8 (Value.string ⟨#[]⟩)) 9)
  rw[hZA,show (V8.setCell ⟨w.heap.size,6,none⟩ (.slice (some ⟨V8.heap.size,0,none⟩) N8 N8)).heap.size=V8.heap.size by simp[World.setCell]] at HJ
  clear hZA
  have hsep8:w.heap.size+2<V8.heap.size:=HJ.out.sep _ List.mem_cons_self
  go_upto_region 9 with fail
  clear ci fi ci' fi' hmk hbl
  generalize V8.heap.size=S8 at *
  generalize (V8.setCell ⟨w.heap.size,6,none⟩ (.slice (some ⟨S8,0,none⟩) N8 N8)).alloc (.cells ZA 9)=VF at *
  replace HJ:=q7 (show FJ w [(S8,9,[].map QS++List.replicate (N8-0) (Value.string ⟨#[]⟩)),(S7,3,le.map (Value.int .i64))] l8 [.int .i64 rw,.int .i64 rh,.int .i64 rd,.int .i64 rk,.int .i64 rr,.slice (some ⟨S7,0,none⟩) N7 N7,.slice (some ⟨S8,0,none⟩) N8 N8,.int .i64 0,.int .i64 0,.int .i64 0,.int .i64 0,.int .i64 0,.int .i64 0,.slice none 0 0,.int .i64 0,.int .i64 0,.int .i64 0,.int .i64 0,.int .i64 0,.int .i64 0,.int .i64 0,.int .i64 0,.int .i64 0,.int .i64 0,.int .i64 0,.int .i64 0,.slice none 0 0,.int .i64 0] VF from HJ.out)
  have cj:VF.cell? ⟨w.heap.size,6,none⟩=some (.slice (some ⟨S8,0,none⟩) N8 N8):=by rw[Lib.cell_of_heap HJ.out.box];rfl
  go_wp2_with fail
  clear cj
  go_loopw [34] (fun i wr=>∃k:Nat,k≤N8∧i=.int .i64 k∧∃ns u,ju JG k l8=some (ns,u)∧FJ w [(S8,9,ns.map QS++List.replicate (N8-k) (Value.string ⟨#[]⟩)),(S7,3,le.map (Value.int .i64))] u [.int .i64 rw,.int .i64 rh,.int .i64 rd,.int .i64 rk,.int .i64 rr,.slice (some ⟨S7,0,none⟩) N7 N7,.slice (some ⟨S8,0,none⟩) N8 N8,.int .i64 0,.int .i64 0,.int .i64 0,.int .i64 0,.int .i64 0,.int .i64 0,.slice none 0 0,.int .i64 0,.int .i64 0,.int .i64 0,.int .i64 0,.int .i64 0,.int .i64 0,.int .i64 0,.int .i64 0,.int .i64 0,.int .i64 0,.int .i64 0,.int .i64 0,.slice none 0 0,.int .i64 0] wr) (fun i _=>N8-(intOf i).toNat)
  case atStart=>exact ⟨0,Nat.zero_le _,rfl,[],l8,rfl,HJ.out⟩
  case round =>
    clear HJ
    obtain ⟨k,hk,rfl,ns,u,hm,hJ⟩:=hrel
    have HJ:=q7 hJ
    clear hJ
    have hnl2:=je hm
    have hul:=zV (fun _ _ _=>Yp) hm
    by_cases hlt:k<N8
    · have hd : decide ((k : Int) < (N8 : Int)) = true := by simp; omega
      have HM:=q7 hm
      have HSQ:=q7 (fun (v:World) (cs':List UInt8) (hv:FJ w [(S8,9,ns.map QS++List.replicate (N8-k) (Value.string ⟨#[]⟩)),(S7,3,le.map (Value.int .i64))] cs' [.int .i64 rw,.int .i64 rh,.int .i64 rd,.int .i64 rk,.int .i64 rr,.slice (some ⟨S7,0,none⟩) N7 N7,.slice (some ⟨S8,0,none⟩) N8 N8,.int .i64 0,.int .i64 0,.int .i64 0,.int .i64 0,.int .i64 0,.int .i64 0,.slice none 0 0,.int .i64 0,.int .i64 0,.int .i64 0,.int .i64 0,.int .i64 0,.int .i64 0,.int .i64 0,.int .i64 0,.int .i64 0,.int .i64 0,.int .i64 0,.int .i64 0,.slice none 0 0,.int .i64 0] v)=>show v.cell? ⟨w.heap.size,6,none⟩=some (.slice (some ⟨S8,0,none⟩) N8 N8)∧True from ⟨by rw[Lib.cell_of_heap hv.box];rfl,trivial⟩)
      clear hm
      go_upto_region 12 with fail
      have HJd:=q7 HJ.out.drew
      have hSd:=HSQ.out _ _ HJd.out
      have hmx:Tryz.prog.follows .mixedOrders=true:=by kernel_rfl
      refine qK (S:=(fun v:World=>v.cell? ⟨w.heap.size,6,none⟩=some (.slice (some ⟨S8,0,none⟩) N8 N8)∧True)) (f:=6) hmx ?_
      show j7 _ _ _ _ _ _ 7 _ _ wr.drew
      refine q9 (i:=0) (oi:=_) (v:=?vv1) (some 37) [] rfl rfl (by kernel_rfl) (by kernel_rfl) (by kernel_rfl) (by kernel_rfl) (by kernel_rfl) (fun _ _ _ h=>Zb (d:=37) (by decide) h) (Or.inl ⟨by rfl,?yy1⟩) hSd ?rr1
      case yy1=>(intro wq hSq;obtain ⟨_,_⟩:=hSq;go_simp<;>with_reducible rfl)
      simp only[Act.put,List.setIfInBounds_toArray,List.set_cons_succ,List.set_cons_zero]
      refine q9 (i:=2) (oi:=_) (v:=?vv2) (some 39) [] rfl rfl (by kernel_rfl) (by kernel_rfl) (by kernel_rfl) (by kernel_rfl) (by kernel_rfl) (fun _ _ _ h=>Zb (d:=39) (by decide) h) (Or.inl ⟨by rfl,?yy2⟩) hSd ?rr2
      case yy2=>(intro wq hSq;obtain ⟨_,_⟩:=hSq;go_simp<;>with_reducible rfl)
      simp only[Act.put,List.setIfInBounds_toArray,List.set_cons_succ,List.set_cons_zero]
      refine q9 (i:=1) (oi:=_) (v:=?vv3) (some 38) [] rfl rfl (by kernel_rfl) (by kernel_rfl) (by kernel_rfl) (by kernel_rfl) (by kernel_rfl) (fun _ _ _ h=>Zb (d:=38) (by decide) h) (Or.inl ⟨by rfl,?yy3⟩) hSd ?rr3
      case yy3=>(intro wq hSq;obtain ⟨_,_⟩:=hSq;go_simp<;>with_reducible rfl)
      simp only[Act.put,List.setIfInBounds_toArray,List.set_cons_succ,List.set_cons_zero]
      refine qm (i:=3) (o:=_) (by kernel_rfl) rfl (fun K' hK=>?_)
      rw[if_pos (by rfl)]
      go_simp
      refine (Kf w.heap.size (w.heap.size+2) u wr.drew (by omega) HJd.out.bel.size HJd.out.rd (by omega)).mono ?_
      rintro e X1 ⟨hS,hc⟩
      rcases hc with ⟨tx,u1,hp,rfl,hR⟩|⟨hp,rfl⟩
      rotate_left
      · exact (fun q => jg q.1 q.2.1 rfl q.2.2 rfl rfl (fun W hW => ⟨hW, .inr ⟨by rw [HP.out, kq7, HLP.out, zp HM.out hp hlt], rfl⟩⟩)) (HJd.out.pan hS)
      have HP1:=q7 hp
      have hu1:=Yp hp
      have htx:=K2 hp
      have HJ1:=q7 (HJd.out.num hS hR)
      clear hp hS hR
      have hSd:=HSQ.out _ _ HJ1.out
      refine hK.out _ _ hSd ?_
      clear hK
      try simp only[Act.put]
      refine qm (i:=4) (o:=_) (by kernel_rfl) rfl (fun K' hK=>?_)
      rw[if_pos (by rfl)]
      go_simp
      refine (q16 tx X1 (by omega)).mono ?_
      rintro e X2 ⟨rfl,hb2⟩
      have HJ2:=q7 (HJ1.out.bel2 hb2)
      clear hb2
      have hcl:(ns.map QS++List.replicate (N8-k) (Value.string ⟨#[]⟩)).length=N8:=by rw[List.length_append,List.length_map,List.length_replicate,hnl2];omega
      have hH:=HJ2.out.ex (S8,9,ns.map QS++List.replicate (N8-k) (Value.string ⟨#[]⟩)) (by simp)
      obtain ⟨z0,c0⟩:∃z,X2.cell? ⟨S8,k,none⟩=some z:=⟨_,by rw[Lib.cell_of_heap hH,List.getElem?_toArray];exact List.getElem?_eq_getElem (by rw[hcl];omega)⟩
      have f0:X2.frozen? ⟨S8,k,none⟩=false:=Lib.frozen_of_heap hH _
      obtain ⟨hH3,hS3⟩:=hH.set (B:=w.heap.size) (b:=w.heap.size+2) (by omega) k (.string (str tx)) rfl
      have HJ3:=q7 (HJ2.out.fillX hxs8 hS3 ((Below.heap_setCell _ _ _ _ (show w.heap.size+2≠S8 by omega)).trans HJ2.out.rd) hH3)
      clear hcl hH hH3 hS3
      have hSd:=HSQ.out _ _ HJ2.out
      refine hK.out _ _ hSd ?_
      clear hK
      try simp only[Act.put]
      refine q9 (i:=5) (oi:=_) (v:=?vv4) (some 42) [] rfl rfl (by kernel_rfl) (by kernel_rfl) (by kernel_rfl) (by kernel_rfl) (by kernel_rfl) (fun _ _ _ h=>Zb (d:=42) (by decide) h) (Or.inl ⟨by rfl,?yy4⟩) hSd ?rr4
      case yy4=>(intro wq hSq;obtain ⟨_,_⟩:=hSq;go_simp<;>with_reducible rfl)
      simp only[Act.put,List.setIfInBounds_toArray,List.set_cons_succ,List.set_cons_zero]
      refine qV (o:=_) (by kernel_rfl) rfl (fun K' hK=>?_)
      rw[if_pos (by rfl)]
      go_simp
      refine hK.out _ _ ?_
      clear hK
      refine qU (by kernel_rfl) ?_ _
      try simp only[Act.put]
      have HJ4:=q7 (show FJ w [(S8,9,(ns++[tx]).map QS++List.replicate (N8-(k+1)) (Value.string ⟨#[]⟩)),(S7,3,le.map (Value.int .i64))] u1 [.int .i64 rw,.int .i64 rh,.int .i64 rd,.int .i64 rk,.int .i64 rr,.slice (some ⟨S7,0,none⟩) N7 N7,.slice (some ⟨S8,0,none⟩) N8 N8,.int .i64 0,.int .i64 0,.int .i64 0,.int .i64 0,.int .i64 0,.int .i64 0,.slice none 0 0,.int .i64 0,.int .i64 0,.int .i64 0,.int .i64 0,.int .i64 0,.int .i64 0,.int .i64 0,.int .i64 0,.int .i64 0,.int .i64 0,.int .i64 0,.int .i64 0,.slice none 0 0,.int .i64 0] _ from by
        have h:=HJ3.out
        rw[show N8-k=N8-(k+1)+1 by omega,←hnl2,q2E,hnl2] at h
        exact h)
      have HM2:=q7 (Qw HM.out HP1.out)
      clear HJ3 HJ2 HJ1 HJd HJ hSd c0 f0 HSQ
      go_wp2
      go_roundw
      case rel=>exact ⟨k+1,hlt,by go_num,_,_,HM2.out,HJ4.out⟩
      case measure=>simp[intOf];omega
    · have hd : decide ((k : Int) < (N8 : Int)) = false := by simp; omega
      obtain rfl:N8=k:=by omega
      replace HP:=q7 (show R=kq8 (fun _=>64) (fun _=>16) rw rh rd rk rr le ns u by rw[HP.out,kq7,HLP.out,hm])
      replace HJ:=q7 (show FJ w [(S8,9,ns.map QS),(S7,3,le.map (Value.int .i64))] u [.int .i64 rw,.int .i64 rh,.int .i64 rd,.int .i64 rk,.int .i64 rr,.slice (some ⟨S7,0,none⟩) N7 N7,.slice (some ⟨S8,0,none⟩) N8 N8,.int .i64 0,.int .i64 0,.int .i64 0,.int .i64 0,.int .i64 0,.int .i64 0,.slice none 0 0,.int .i64 0,.int .i64 0,.int .i64 0,.int .i64 0,.int .i64 0,.int .i64 0,.int .i64 0,.int .i64 0,.int .i64 0,.int .i64 0,.int .i64 0,.int .i64 0,.slice none 0 0,.int .i64 0] wr by have h:=HJ.out;rwa [Nat.sub_self,List.replicate_zero,List.append_nil] at h)
      clear hm HLP
      go_wp2_with fail
      refine (q1X w.heap.size (w.heap.size+2) u wr (by omega) HJ.out.rd (by omega)).mono ?_
      rintro e VG ⟨hS,hc⟩
      rcases hc with ⟨n,sv,cv,lG,hp,rfl,hR,hIP,hfs,hfc⟩|⟨hp,rfl⟩
      rotate_left
      · exact (fun q => jg q.1 q.2.1 rfl q.2.2 rfl rfl (fun W hW => ⟨hW, .inr ⟨by rw [HP.out, kq8, hp], rfl⟩⟩)) (HJ.out.pan hS)
      have hwz:w.heap.size+2<wr.heap.size:=(Array.getElem?_eq_some_iff.1 HJ.out.rd).1
      replace HP:=q7 (show R=kq9 rw rh rd rk rr le ns n lG by rw[HP.out,kq8,hp])
      replace HJ:=q7 (HJ.out.num hS hR)
      obtain ⟨CA,hCA⟩:∃CA:List Value,CA=[.int .i64 rw,.int .i64 rh,.int .i64 rd,.int .i64 rk,.int .i64 rr,.slice (some ⟨S7,0,none⟩) N7 N7,.slice (some ⟨S8,0,none⟩) N8 N8,.int .i64 0,.int .i64 0,.int .i64 0,.int .i64 0,.int .i64 0,.int .i64 0,.slice none 0 0,.int .i64 0,.int .i64 0,.int .i64 0,.int .i64 0,.int .i64 0,.int .i64 0,.int .i64 0,.int .i64 0,.int .i64 0,.int .i64 0,.int .i64 0,.int .i64 0,.slice none 0 0,.int .i64 0]:=⟨_,rfl⟩
      rw[←hCA] at HJ
      have hbx:=HJ.out.box
      have hca:7+(qZ n sv cv).size=CA.toArray.size:=by rw[hCA];rfl
      have hct:(CA.toArray.toList.take 7++(qZ n sv cv).toList).toArray=qs (⟨rw,rh,rd,rk,rr,le,ns,n⟩:qH) (.slice (some ⟨S7,0,none⟩) N7 N7) (.slice (some ⟨S8,0,none⟩) N8 N8) sv cv:=by rw[hCA];rfl
      obtain ⟨so,sc,hsv,_,_⟩:=hIP.spots
      obtain ⟨co,cc,hcv,_,_⟩:=hIP.curve
      have hpa:(qZ n sv cv).all (·.oneCell')=true:=by rw[hsv,hcv];simp[Value.oneCell']
      have hpi:(Tryz.prog.info? 30).map (·.size)=some (qZ n sv cv).size:=by kernel_rfl
      have HRO:=q7 (show (qs (⟨rw,rh,rd,rk,rr,le,ns,n⟩:qH) (.slice (some ⟨S7,0,none⟩) N7 N7) (.slice (some ⟨S8,0,none⟩) N8 N8) sv cv).all (·.oneCell')=true by rw[hsv,hcv];simp[Value.oneCell'])
      have HIP:=q7 hIP
      clear hp hS hR hCA hIP hsv hcv
      go_upto_region 15 with (refine ZO rfl 30 _ _ rfl w.heap.size 7 (qZ n sv cv) rfl rfl _ _ hbx hpi hca hpa ?_)
      rw[hct]
      replace HJ:=q7 (HJ.out.plan (cs':=(qs (⟨rw,rh,rd,rk,rr,le,ns,n⟩:qH) (.slice (some ⟨S7,0,none⟩) N7 N7) (.slice (some ⟨S8,0,none⟩) N8 N8) sv cv).toList))
      rw[Array.toArray_toList] at HJ
      obtain ⟨RA,hRA⟩:∃RA,RA=qs (⟨rw,rh,rd,rk,rr,le,ns,n⟩:qH) (.slice (some ⟨S7,0,none⟩) N7 N7) (.slice (some ⟨S8,0,none⟩) N8 N8) sv cv:=⟨_,rfl⟩
      rw[←hRA] at HJ ⊢
      have HRA:=q7 hRA
      clear hRA
      replace HIP:=q7 (show jY (VG.setRow w.heap.size RA) n sv cv from ⟨HIP.out.spots.other (k:=w.heap.size) (by simp) (fun b hb=>setRow_other _ _ _ _ hb) (hfs.ne (by omega)),HIP.out.curve.other (k:=w.heap.size) (by simp) (fun b hb=>setRow_other _ _ _ _ hb) (hfc.ne (by omega))⟩)
      clear hct hbx hca hpa hpi
      generalize VG.setRow w.heap.size RA=VH at *
      have crd:VH.cell? ⟨w.heap.size+2,0,none⟩=some (.string (str lG)):=by rw[Lib.cell_of_heap HJ.out.rd];rfl
      by_cases hlg:lG=[]
      rotate_left
      · replace HP := q7 (show R = none by rw [HP.out, kq9, if_neg hlg])
        have hq:((str lG).toList == [])=false:=by rw[Lib.toList_data,qI];exact beq_false_of_ne hlg
        have hq2:(str lG).toList.isEmpty=false:=by rw[Lib.toList_data,qI];simpa using hlg
        go_wp2_with fail
        refine (Yf _).mono ?_
        rintro e V' ⟨rfl,rfl⟩
        exact jg HJ.out.bel HJ.out.box (by rw[HRA.out];rfl) HJ.out.okb rfl rfl (fun W hW=>⟨hW,.inr ⟨HP.out,rfl⟩⟩)
      replace HP:=q7 (show R=some ⟨rw,rh,rd,rk,rr,le,ns,n⟩ by rw[HP.out,kq9,if_pos hlg])
      subst hlg
      have hq2:(str []).toList.isEmpty=true:=by rw[Lib.toList_data,qI];rfl
      go_wp2_with fail
      refine (Zj _).mono ?_
      rintro e VI ⟨rfl,rfl⟩
      clear crd hq2
      subst hnl hnl2
      have hbx:VI.heap[w.heap.size]?=some (.cells RA 32 (0,0)):=by have:=HJ.out.box;unfold j9 at this;rwa [Array.toArray_toList] at this
      have hsz:(Tryz.prog.info? 32).map (·.size)=some RA.size:=by rw[HRA.out];kernel_rfl
      have hro:RA.all (·.oneCell')=true:=by rw[HRA.out];exact HRO.out
      have hx6:=HJ.out.ex (S7,3,le.map (Value.int .i64)) (by simp)
      have hx7:=HJ.out.ex (S8,9,ns.map QS) (by simp)
      have hs6:=HJ.out.sep (S7,3,le.map (Value.int .i64)) (by simp)
      have hs7:=HJ.out.sep (S8,9,ns.map QS) (by simp)
      simp only at hx6 hx7 hs6 hs7
      have hk0:(VI.setRow w.heap.size RA).heap[w.heap.size+1]?=some (.cells #[.bool false] 4 (0,0)):=(setRow_other _ _ _ _ (by omega)).trans HJ.out.okb
      have ck:(VI.setRow w.heap.size RA).cell? ⟨w.heap.size+1,0,none⟩=some (.bool false):=by rw[Lib.cell_of_heap hk0];rfl
      have fk:(VI.setRow w.heap.size RA).frozen? ⟨w.heap.size+1,0,none⟩=false:=Lib.frozen_of_heap hk0 0
      have HKK:=q7 (show ((VI.setRow w.heap.size RA).setCell ⟨w.heap.size+1,0,none⟩ (.bool true)).heap[w.heap.size+1]?=some (.cells #[.bool true] 4 (0,0)) by simp[World.setCell,Array.getElem?_modify,hk0])
      have HRR:=q7 (show ((VI.setRow w.heap.size RA).setCell ⟨w.heap.size+1,0,none⟩ (.bool true)).heap[w.heap.size]?=some (.cells RA 32 (0,0)) from (Below.heap_setCell _ _ _ _ (show w.heap.size≠w.heap.size+1 by omega)).trans (setRow_heap _ _ _ _ _ _ hbx))
      have HK:=q7 (show ∀k,k≠w.heap.size→k≠w.heap.size+1→((VI.setRow w.heap.size RA).setCell ⟨w.heap.size+1,0,none⟩ (.bool true)).heap[k]?=VI.heap[k]? from fun k h1 h2=>(Below.heap_setCell _ _ _ _ (fun e=>h2 e)).trans (setRow_other _ _ _ _ h1))
      have HBF:=q7 (show Below w.heap.size w ((VI.setRow w.heap.size RA).setCell ⟨w.heap.size+1,0,none⟩ (.bool true)) from (below_setRow HJ.out.bel (Nat.le_refl _) _).setCell (p:=⟨w.heap.size+1,0,none⟩) (Nat.le_succ _) _)
      have HSS:=q7 (show VI.heap.size≤((VI.setRow w.heap.size RA).setCell ⟨w.heap.size+1,0,none⟩ (.bool true)).heap.size by simp[World.setCell])
      have HI6:=q7 (q1s (V:=(VI.setRow w.heap.size RA).setCell ⟨w.heap.size+1,0,none⟩ (.bool true)) (g:=S7) (t:=3) (xs:=le) ((HK.out S7 (by omega) (by omega)).trans hx6) (by omega))
      have HI7:=q7 (q1v (V:=(VI.setRow w.heap.size RA).setCell ⟨w.heap.size+1,0,none⟩ (.bool true)) (g:=S8) (t:=9) (ts:=ns) ((HK.out S8 (by omega) (by omega)).trans hx7) (by omega))
      have HIF:=q7 (show jY ((VI.setRow w.heap.size RA).setCell ⟨w.heap.size+1,0,none⟩ (.bool true)) n sv cv from
        ⟨(HIP.out.spots.other (k:=w.heap.size) (w':=VI.setRow w.heap.size RA) (by simp) (fun b hb=>setRow_other _ _ _ _ hb) (hfs.ne (by omega))).other (k:=w.heap.size+1) (by simp[World.setCell]) (fun b hb=>Below.heap_setCell _ _ _ _ (fun e=>hb e)) (hfs.ne (by omega)),
         (HIP.out.curve.other (k:=w.heap.size) (w':=VI.setRow w.heap.size RA) (by simp) (fun b hb=>setRow_other _ _ _ _ hb) (hfc.ne (by omega))).other (k:=w.heap.size+1) (by simp[World.setCell]) (fun b hb=>Below.heap_setCell _ _ _ _ (fun e=>hb e)) (hfc.ne (by omega))⟩)
      have HFS:=q7 (hfs.mono (show w.heap.size≤wr.heap.size by omega))
      have HFC:=q7 (hfc.mono (show w.heap.size≤wr.heap.size by omega))
      clear hk0 hx6 hx7 HIP HJ hfs hfc HRO
      go_wp2_with (first|refine wpList_load_row rfl 32 _ rfl _ rfl _ _ _ _ hbx Tryz.underlying32 rfl hsz ?_|refine wpList_store_row rfl 32 _ _ rfl w.heap.size RA rfl rfl _ _ hbx hsz rfl hro ?_)
      refine q3Z HRR.out hsz HKK.out rfl rfl ⟨HBF.out,.inl ⟨_,_,_,_,_,HP.out,by rw[HRA.out],⟨HI6.out,HI7.out,HIF.out⟩,⟨fun b e=>?_,Nat.le_refl _⟩,⟨fun b e=>?_,Nat.le_refl _⟩,HFS.out,HFC.out⟩⟩
      · simp [Value.ownBlock] at e; omega
      · simp [Value.ownBlock] at e; omega
end Go.Proofs.YtanebhbfekcplaaGreat

namespace Go.Proofs.YtanebhbfekcplaaGreat
set_option linter.unusedVariables false
open Go.RowKit
def Zo (r:qH) (k:Nat):Nat:=k*r.rows.toNat*r.w.toNat
def zK (r:qH) (zs:List Int) (k:Nat):List Int:=(zs.drop (Zo r k)).take (jj r k*r.w).toNat
def q2H (r:qH) (zs:List Int) (k:Nat):Bool:=(List.range k).all fun i=>decide (wsE r (zK r zs i) (jj r i)=0)
def fiS (r:qH) (zs:List Int) (k:Nat):List (List UInt8):=(List.range k).map fun i=>wsS r (zK r zs i) (jj r i)
theorem YQ (r:qH) (zs:List Int) (k:Nat):q2H r zs (k+1)=(q2H r zs k && decide (wsE r (zK r zs k) (jj r k)=0)):=by simp[q2H,List.range_succ]
theorem q0q (r:qH) (zs:List Int) (k:Nat):fiS r zs (k+1)=fiS r zs k++[wsS r (zK r zs k) (jj r k)]:=by simp[fiS,List.range_succ]
theorem XF {r:qH} {zs:List Int} {k n:Nat} (h:k<n) (hk:wsE r (zK r zs k) (jj r k)≠0):q2H r zs n=false:=by
 rw[Bool.eq_false_iff];intro he
 have:=List.all_eq_true.1 he k (List.mem_range.2 h)
 exact hk (by simpa using this)
def q1C (r:qH) (PW PH:Int) (zs:List Int):Bool:=qB PW PH zs && decide (PW=r.w) && decide (PH=r.h) && zm r.depth zs
def zB (r:qH) (PW PH:Int) (zs:List Int):Int:=if jA r=0 then (if Qv r=0 then (if q1C r PW PH zs=true then (if q2H r zs (jG r)=true then 0 else 4) else 1) else Qv r) else jA r
def qG (r:qH) (zs:List Int):qH:={ r with strips:=fiS r zs (jG r) }
theorem QC {r:qH} (h:zy r) (k:Nat):(Zo r k:Int)=k*r.rows*r.w:=by
 have h1:=h.rows
 have h2:=h.w
 unfold Zo
 rw[Int.natCast_mul,Int.natCast_mul,Int.toNat_of_nonneg (by omega),Int.toNat_of_nonneg (by omega)]
theorem K4 {r:qH} (h:zy r) {k:Nat} (hk:k<jG r):(Zo r k:Int)+jj r k*r.w≤r.h*r.w:=by
 have h2:=h.w
 rw[QC h,←Int.add_mul]
 exact Int.mul_le_mul_of_nonneg_right (by unfold jj;omega) (by omega)
theorem q3n {r:qH} (h:zy r) {k:Nat} (hk:k+1<jG r):jj r k=r.rows:=by
 have h1:=(h.cnt_pos (k+1)).1 hk
 have e:((k+1:Nat):Int)*r.rows=k*r.rows+r.rows:=by rw[Int.natCast_add,Int.add_mul];simp
 unfold jj
 omega
theorem q0u {r:qH} (h:zy r) {k:Nat} (hk:k+1<jG r):(Zo r (k+1):Int)=Zo r k+jj r k*r.w:=by
 rw[QC h,QC h,q3n h hk,←Int.add_mul,Int.natCast_add,Int.add_mul]
 simp
theorem QV {r:qH} (h:zy r) {k:Nat} (hk:k<jG r) {zs:List Int} (hz:(zs.length:Int)=r.w*r.h):((zK r zs k).length:Int)=jj r k*r.w:=by
 have h1:=K4 h hk
 have h2:=h.size hk
 rw[Int.mul_comm r.w] at hz
 unfold zK
 rw[List.length_take,List.length_drop]
 omega
theorem Zg {r:qH} {zs:List Int} {k:Nat} {z:Int} (h:z∈zK r zs k):z∈zs:=List.mem_of_mem_drop (List.mem_of_mem_take h)
theorem q3V {r:qH} (h:zy r) {k:Nat} (hk:k<jG r) {PW PH:Int} {zs:List Int} (hf:q1C r PW PH zs=true):wsE r (zK r zs k) (jj r k)=0∨wsE r (zK r zs k) (jj r k)=4:=by
 simp only[q1C,Bool.and_eq_true,decide_eq_true_eq] at hf
 obtain ⟨⟨⟨hp,rfl⟩,rfl⟩,hd⟩:=hf
 simp only[qB,Bool.and_eq_true,decide_eq_true_eq] at hp
 have hl:=QV h hk hp.1.2
 obtain ⟨s1,s2⟩:=h.size hk
 obtain ⟨r1,r2⟩:=h.row hk
 have hw:=h.w
 have hdp:=h.depth
 unfold wsE
 by_cases hz:r.kind=0
 ·rw[if_pos hz,Q9,if_pos (by rw[qA,decide_eq_true_eq];exact hdp),if_pos (by omega),if_pos]
  ·exact .inl rfl
  ·refine List.all_eq_true.2 fun z hm=>?_
   have:=List.all_eq_true.1 hd z (Zg hm)
   simp only[decide_eq_true_eq] at this
   simp only[QU,decide_eq_true_eq]
   omega
 ·rw[if_neg hz,qD,if_pos,if_pos (by have:=h.kind;rw[zk,decide_eq_true_eq];omega),if_pos (h.code hz)]
  ·split
   ·exact .inl rfl
   ·exact .inr rfl
  ·simp only[qB,Bool.and_eq_true,decide_eq_true_eq,qz]
   refine ⟨⟨⟨hw,r1,r2⟩,by rw[hl,Int.mul_comm]⟩,List.all_eq_true.2 fun z hm=>List.all_eq_true.1 hp.2 z (Zg hm)⟩
end Go.Proofs.YtanebhbfekcplaaGreat

namespace Go.Proofs.YtanebhbfekcplaaGreat
set_option linter.unusedVariables false
open Go.RowKit
def q1i (s:List UInt8):Option qH:=match q39 (fun _=>17) (fun _=>64) (fun _=>64) (fun _=>16) s with
 | none=>none
 | some r=>if jb r=0 then some r else none
theorem jk.other {w w':World} {v:Value} {ts:List (List UInt8)} {k:Nat} (h:jk w v ts) (hs:w.heap.size≤w'.heap.size) (hk:∀b,b≠k→w'.heap[b]?=w.heap[b]?) (hne:v.ownBlock≠some k):jk w' v ts:=by
 obtain ⟨ao,cap,rfl,hl,h⟩:=h
 refine ⟨ao,cap,rfl,hl,?_⟩
 rcases h with h|⟨b,off,rfl,hlt,hc⟩
 ·exact .inl h
 ·have hb:b≠k:=fun e=>hne (by rw[e];rfl)
  refine .inr ⟨b,off,rfl,Nat.lt_of_lt_of_le hlt hs,fun j hj=>?_⟩
  rw[World.cell?_of_block (a:=⟨b,off+j,none⟩) (hk b hb)]
  exact hc j hj
theorem jl.other {w w':World} {r:qH} {lv tv sv cv:Value} {B k:Nat} (h:jl w r lv tv sv cv) (hs:w.heap.size≤w'.heap.size) (hk:∀b,b≠k→w'.heap[b]?=w.heap[b]?) (hB:k<B) (f1:qn B lv) (f2:qn B tv) (f3:qn B sv) (f4:qn B cv):jl w' r lv tv sv cv :=
 ⟨h.lens.other hs hk (f1.ne hB),h.strips.other hs hk (f2.ne hB),h.plan.spots.other hs hk (f3.ne hB),h.plan.curve.other hs hk (f4.ne hB)⟩
theorem zH {w:World} {r:qH} {lv tv sv cv:Value} (h:jl w r lv tv sv cv):(qs r lv tv sv cv).all (·.oneCell')=true:=by
 obtain ⟨_,_,e1,_⟩:=h.lens
 obtain ⟨_,_,e2,_⟩:=h.strips
 obtain ⟨_,_,e3,_⟩:=h.plan.spots
 obtain ⟨_,_,e4,_⟩:=h.plan.curve
 rw[e1,e2,e3,e4]
 simp[Value.oneCell']
theorem J2 {fn:Func} (hfn:fn.results=#[.cell 2 32,.tmp 3]) (tmps:Array Value) (R:Nat) (cs:Array Value) (z:Value) (W:World) (h2:tmps.getD 2 undef=.pointer (some ⟨R,0,none⟩)) (h3:tmps.getD 3 undef=z)
  (hR:W.heap[R]?=some (.cells cs 32 (0,0))) (hs:(Tryz.prog.info? 32).map (·.size)=some cs.size) :
  (results fn tmps).run Tryz.prog W=.ok (.tuple #[.agg cs,z]) W:=by
 have hl:=run_loadVar_row (P:=Tryz.prog) W R 32 32 cs (0,0) _ hR Tryz.underlying32 rfl hs
 have h2':tmps[2]?.getD undef=.pointer (some ⟨R,0,none⟩):=by simpa using h2
 have h3':tmps[3]?.getD undef=z:=by simpa using h3
 simp[results,hfn,h2',h3',asAddr,hl]
theorem zg {P:Program} {ops:Array Oper} {rest:List Oper} {o:Oper} {a:Act} {w:World} {Q:Exit→Act→World→Prop} (hw:Region.wanted o (yielded ops a.tmps)=true) (ty:TypeId) (x:Operand) (ho:o.op=.load ty x)
  (g:Nat) (hx:a.eval x=.pointer (some ⟨g,0,none⟩)) (t:TypeId) (cs:Array Value) (fr:Nat×Nat) (d:TypeDesc) (hg:w.heap[g]?=some (.cells cs t fr))
  (hu:P.underlying ty=some d) (hd:(match d with | .struct _ | .array _ _=>true|_=>false)=true) (hi:(P.info? ty).map (·.size)=some cs.size)
  (h:wpList P ops Q rest (a.put o.dst (.agg cs)) w):wpList P ops Q (o::rest) a w:=by
 unfold wpList
 rw[if_pos hw]
 exact .inl (wp_load_row ty x ho g hx t cs fr d hg hu hd hi h)
set_option maxRecDepth 100000 in
set_option maxHeartbeats 3200000 in
theorem KT (s:List UInt8) (w:World) (hs:s.length≤140737488355328) :
  Calls Tryz.prog 17 #[.string (str s)] w fun e w'=>Below w.heap.size w w'∧((∃r lv tv sv cv,q1i s=some r∧e=.returned (.tuple #[.agg (qs r lv tv sv cv),.int .i64 0])∧jl w' r lv tv sv cv∧qn w.heap.size lv∧qn w.heap.size tv∧qn w.heap.size sv∧qn w.heap.size cv)∨(q1i s=none∧e=.returned (.tuple #[.agg qr,.int .i64 1]))):=by
 have HF:=q7 (q0M s (w.alloc (.cells qr 32)) hs)
 have a1:=al1 w (Obj.cells qr 32)
 have HB:=q7 (qa w (Obj.cells qr 32))
 have hl1:=(Array.getElem?_eq_some_iff.1 a1).1
 have HR:=q7 (show q1i s=match q39 (fun _=>17) (fun _=>64) (fun _=>64) (fun _=>16) s with|none=>none|some r=>if jb r=0 then some r else none from rfl)
 generalize q1i s=RR at *
 have iz:(Tryz.prog.info? 32).map (·.size)=some (qr:Array Value).size:=by kernel_rfl
 have oz:(qr:Array Value).all (·.oneCell')=true:=by simp[Value.oneCell']
 go_enter Tryz.func17,Tryz.ntmps17
 go_wp2_with fail
 generalize w.alloc (Obj.cells qr 32)=U at *
 refine (HF.out).mono ?_
 rintro e V1 ⟨hb1,hc⟩
 have HB1:=q7 (q8 HB.out hb1)
 rcases hc with ⟨r,lv,tv,sv,cv,hp,rfl,hI,f1,f2,f3,f4⟩|⟨hp,rfl⟩
 ·have HO:=q7 (zH hI)
  have i1:(Tryz.prog.info? 32).map (·.size)=some (qs r lv tv sv cv).size:=by kernel_rfl
  have HC:=q7 (fun (u:World) (hu:Below V1.heap.size V1 u)=>Qa r lv tv sv cv u (hI.below hu (Nat.le_refl _)))
  replace HR:=q7 (show RR=if jb r=0 then some r else none by rw[HR.out,hp])
  obtain ⟨RA,hRA⟩:∃RA,qs r lv tv sv cv=RA:=⟨_,rfl⟩
  rw[hRA] at HC i1 HO ⊢
  have HRA:=q7 hRA
  have z1:=al1 V1 (Obj.cells qr 32)
  have i2:(qr:Array Value).size=RA.size:=by rw[←hRA];rfl
  have c1:=setRow_heap _ _ _ RA _ _ z1
  have HBX:=q7 (below_setRow (g:=V1.heap.size) (qa V1 (Obj.cells qr 32)) (Nat.le_refl _) RA)
  have hlx:=(Array.getElem?_eq_some_iff.1 c1).1
  have hos:=HO.out
  clear hRA hp
  go_upto_region 2 with (refine wpList_store_row rfl 32 _ _ rfl V1.heap.size RA rfl rfl _ _ z1 i1 i2 hos ?_)
  clear z1
  generalize (V1.alloc (Obj.cells qr 32)).setRow V1.heap.size RA=V2 at *
  go_wp2_with (refine zg (by rfl) 32 _ rfl _ rfl _ _ _ _ c1 Tryz.underlying32 rfl i1 ?_)
  refine (HC.out _ HBX.out).mono ?_
  rintro e V3 ⟨rfl,hb3⟩
  have g1:V3.heap[w.heap.size]?=some (.cells qr 32 (0,0)):=(((hb1.trans (HBX.out.mono hb1.size)).trans (hb3.mono (Nat.le_trans hb1.size HBX.out.size))).block _ hl1).trans a1
  have d1:=(hb3.block _ hlx).trans c1
  have HB3:=q7 (q8 (q8 HB1.out HBX.out) hb3)
  have HI3:=q7 (hI.below (q8 HBX.out hb3) (Nat.le_refl _))
  clear HC c1 hb3 hI
  by_cases hE:jb r=0
  ·rw[hE]
   rw[if_pos hE] at HR
   have HG:=q7 (setRow_heap _ _ _ RA _ _ g1)
   have HBF:=q7 (below_setRow (g:=w.heap.size) HB3.out (Nat.le_refl _) RA)
   have HIF:=q7 (HI3.out.other (k:=w.heap.size) (w':=V3.setRow w.heap.size RA) (B:=U.heap.size) (by simp) (fun b hb=>setRow_other _ _ _ _ hb) hl1 f1 f2 f3 f4)
   have hw:w.heap.size≤U.heap.size:=by omega
   have HFR:=q7 (show qn w.heap.size lv∧qn w.heap.size tv∧qn w.heap.size sv∧qn w.heap.size cv from ⟨f1.mono hw,f2.mono hw,f3.mono hw,f4.mono hw⟩)
   clear f1 f2 f3 f4
   go_wp2_with (first|refine wpList_load_row rfl 32 _ rfl _ rfl _ _ _ _ d1 Tryz.underlying32 rfl i1 ?_|refine wpList_store_row rfl 32 _ _ rfl w.heap.size RA rfl rfl _ _ g1 i1 i2 hos ?_)
   refine bodyPost_ret (v:=.tuple #[.agg RA,.int .i64 0]) (J2 Tryz.results17 _ _ _ _ _ rfl rfl HG.out i1) rfl ⟨HBF.out,.inl ⟨r,lv,tv,sv,cv,HR.out,by rw[HRA.out],HIF.out,HFR.out⟩⟩
  ·have hn:(jb r != 0)=true:=by simpa using hE
   rw[if_neg hE] at HR
   have HG:=q7 (setRow_heap _ _ _ qr _ _ g1)
   have HBF:=q7 (below_setRow (g:=w.heap.size) HB3.out (Nat.le_refl _) qr)
   clear HI3 f1 f2 f3 f4
   go_wp2_with (refine wpList_store_row rfl 32 _ _ rfl w.heap.size qr rfl rfl _ _ g1 iz rfl oz ?_)
   refine bodyPost_ret (v:=.tuple #[.agg qr,.int .i64 1]) (J2 Tryz.results17 _ _ _ _ _ rfl rfl HG.out iz) rfl ⟨HBF.out,.inr ⟨HR.out,rfl⟩⟩
 ·replace HR:=q7 (show RR=none by rw[HR.out,hp])
  obtain ⟨ZR,hZR⟩:∃ZR:Array Value,qr=ZR:=⟨_,rfl⟩
  rw[show Ending.returned (.tuple #[.agg qr,.bool false])=Ending.returned (.tuple #[.agg ZR,.bool false]) by rw[hZR]]
  have z1:=al1 V1 (Obj.cells qr 32)
  have i1:(Tryz.prog.info? 32).map (·.size)=some ZR.size:=by rw[←hZR];exact iz
  have i2:(qr:Array Value).size=ZR.size:=by rw[←hZR]
  have hos:ZR.all (·.oneCell')=true:=by rw[←hZR];exact oz
  have HBX:=q7 (below_setRow (g:=V1.heap.size) (qa V1 (Obj.cells qr 32)) (Nat.le_refl _) ZR)
  have g1:((V1.alloc (Obj.cells qr 32)).setRow V1.heap.size ZR).heap[w.heap.size]?=some (.cells qr 32 (0,0)):=((hb1.trans (HBX.out.mono hb1.size)).block _ hl1).trans a1
  have HB3:=q7 (q8 HB1.out HBX.out)
  have HG:=q7 (setRow_heap _ _ _ qr _ _ g1)
  have HBF:=q7 (below_setRow (g:=w.heap.size) HB3.out (Nat.le_refl _) qr)
  clear hp hZR
  go_upto_region 3 with (refine wpList_store_row rfl 32 _ _ rfl V1.heap.size ZR rfl rfl _ _ z1 i1 i2 hos ?_)
  clear z1
  generalize (V1.alloc (Obj.cells qr 32)).setRow V1.heap.size ZR=V2 at *
  go_wp2_with (refine wpList_store_row rfl 32 _ _ rfl w.heap.size qr rfl rfl _ _ g1 iz rfl oz ?_)
  refine bodyPost_ret (v:=.tuple #[.agg qr,.int .i64 1]) (J2 Tryz.results17 _ _ _ _ _ rfl rfl HG.out iz) rfl ⟨HBF.out,.inr ⟨HR.out,rfl⟩⟩
end Go.Proofs.YtanebhbfekcplaaGreat

namespace Go.Proofs.YtanebhbfekcplaaGreat
set_option linter.unusedVariables false
open Go.RowKit
def q44 (n:zw):zw:=⟨n.phase,ix (Qj n),n.white,n.spots,ix (Qb n),ix (q2d n),n.curve,n.amount⟩
def nrm (r:qH):qH:={ r with plan:=q44 r.plan }
theorem q3Q (r:qH) (lv tv sv cv:Value):qs (nrm r) lv tv sv cv=qs r lv tv sv cv:=rfl
theorem q2a {w:World} {r:qH} {lv tv sv cv:Value}:jl w (nrm r) lv tv sv cv↔jl w r lv tv sv cv :=
 ⟨fun h=>⟨h.lens,h.strips,h.plan.spots,h.plan.curve⟩,fun h=>⟨h.lens,h.strips,h.plan.spots,h.plan.curve⟩⟩
theorem q2L (n:zw):jW (q44 n)=jW n:=by
 have e1:Z9 (q44 n).black 4=Z9 n.black 4:=rfl
 have e2:Z9 (q44 n).gains 3=Z9 n.gains 3:=rfl
 have e3:zT (q44 n).matrix=zT n.matrix:=rfl
 simp only[jW,Qo,QQ,QP,jC,Qr,JK,e1,e2,e3]
 rfl
theorem q0V (r:qH):jb (nrm r)=jb r:=by
 have e1:jA (nrm r)=jA r:=rfl
 have e2:Qv (nrm r)=Qv r:=by
  unfold Qv
  rw[show (nrm r).plan=q44 r.plan from rfl,q2L]
  rfl
 have e3:q0g (nrm r) (nrm r).strips.length=q0g r r.strips.length:=rfl
 unfold jb
 rw[e1,e2,e3]
 rfl
structure Fits (n:zw):Prop where
 phase:zR n.phase
 black:∀x∈Qj n,zR x
 white:zR n.white
 spots:∀p∈n.spots,zR p.1∧zR p.2
 gains:∀x∈Qb n,zR x
 matrix:∀x∈q2d n,zR x
 curve:∀p∈n.curve,zR p.1∧zR p.2
 amount:zR n.amount
 many:n.spots.length≤64
 points:n.curve.length≤16
theorem KO {n:zw} (h:jW n=0):Fits n:=by
 obtain ⟨h1,h2,h3,h4,h5,h6,h7,h8⟩:=zf h
 have hc:=Xm h8
 have hl:=Zf h8
 simp only[jC,Bool.and_eq_true,decide_eq_true_eq] at h2
 have hb:=fun k hk=>Yj h2.2 k hk
 have hg:=fun k hk=>Yj h3 k hk
 have hm:=fun k hk=>q2D h4 k hk
 simp only[zl,decide_eq_true_eq] at h1
 simp only[jD,decide_eq_true_eq] at h5
 refine ⟨?_,?_,?_,?_,?_,?_,?_,?_,by omega,by omega⟩
 ·unfold zR;omega
 ·intro x hx
  have b0:=hb 0 (by omega)
  have b1:=hb 1 (by omega)
  have b2:=hb 2 (by omega)
  have b3:=hb 3 (by omega)
  simp only[Qj,List.mem_cons,List.not_mem_nil,or_false] at hx
  unfold zR
  rcases hx with rfl|rfl|rfl|rfl<;>omega
 ·unfold zR;omega
 ·intro p hp
  have:=List.all_eq_true.1 h7 p hp
  simp only[YG,decide_eq_true_eq] at this
  unfold zR
  omega
 ·intro x hx
  have b0:=hg 0 (by omega)
  have b1:=hg 1 (by omega)
  have b2:=hg 2 (by omega)
  simp only[Qb,List.mem_cons,List.not_mem_nil,or_false] at hx
  unfold zR
  rcases hx with rfl|rfl|rfl<;>omega
 ·intro x hx
  have b0:=hm 0 (by omega)
  have b1:=hm 1 (by omega)
  have b2:=hm 2 (by omega)
  have b3:=hm 3 (by omega)
  have b4:=hm 4 (by omega)
  have b5:=hm 5 (by omega)
  have b6:=hm 6 (by omega)
  have b7:=hm 7 (by omega)
  have b8:=hm 8 (by omega)
  simp only[q2d,List.mem_cons,List.not_mem_nil,or_false] at hx
  unfold zR
  rcases hx with rfl|rfl|rfl|rfl|rfl|rfl|rfl|rfl|rfl<;>omega
 ·intro p hp
  obtain ⟨i,hi,rfl⟩:=List.getElem_of_mem hp
  rw[Q5 _ _ hi]
  have:=hc.x i hi
  simp only[qQ,Bool.and_eq_true] at h8
  have:=(Zp h8.2 i hi).1
  unfold zR
  omega
 ·unfold zR;omega
theorem q0T {b3 b4:List UInt8→Nat} {n:zw} (h:Fits n) (h3:∀t,n.spots.length≤b3 (n.spots.flatMap zP++t)) (h4:∀t,n.curve.length≤b4 (n.curve.flatMap zP++t)) (t:List UInt8):YZ b3 b4 (K9 n++t)=some (q44 n,t):=by
 have hm:=h.many
 have hp:=h.points
 simp only[K9,List.append_assoc]
 rw[YZ,jh h.phase]
 simp only
 rw[pq2,(Zs Ji 4).full (Qj n) _ ⟨rfl,h.black⟩]
 simp only
 rw[pq3,jh h.white]
 simp only
 rw[pq4,QB q01 h.spots (by unfold zR;omega) (h3 _)]
 simp only
 rw[pq5,(Zs Ji 3).full (Qb n) _ ⟨rfl,h.gains⟩]
 simp only
 rw[pq6,(Zs Ji 9).full (q2d n) _ ⟨rfl,h.matrix⟩]
 simp only
 rw[pq7,QB q01 h.curve (by unfold zR;omega) (h4 _)]
 simp only
 rw[pq8,jh h.amount]
 rfl
theorem q1M {b1 b2 b3 b4:List UInt8→Nat} {r:qH} (h:Z7 r) (h1:∀t,r.lens.length≤b1 (r.lens.flatMap zE++t)) (h2:∀t,r.strips.length≤b2 (r.strips.flatMap zI++t)) (h3:∀t,r.plan.spots.length≤b3 (r.plan.spots.flatMap zP++t)) (h4:∀t,r.plan.curve.length≤b4 (r.plan.curve.flatMap zP++t)) :
  q39 b1 b2 b3 b4 (KS r)=some (nrm r):=by
 have hw:=h.head.w
 have hh:=h.head.h
 have hd:=h.head.depth
 have hk:=h.head.kind
 have hr:=h.head.rows
 have hl:=h.lens_le
 have hst:r.strips.length≤64:=by have:=h.many;have:=h.head.cnt_le;omega
 have hsl:=h.strip_le
 have hle:∀x∈r.lens,zR x:=by
  intro x hx
  have:=h.head.lens
  unfold JA at this
  split at this
  ·split at this
   ·rename_i h0
    rw[List.eq_nil_of_length_eq_zero h0] at hx
    cases hx
   ·cases this
  ·obtain ⟨_,_,h3,_⟩:=qT this
   have:=List.all_eq_true.1 h3 x hx
   simp only[ZN,decide_eq_true_eq] at this
   unfold zR
   omega
 rw[q39,KS,YE.full XN _ (by decide)]
 simp only[q42,List.flatMap_cons,List.flatMap_nil,List.append_nil,List.append_assoc,if_true]
 rw[kq1,jh (by unfold zR;omega)]
 simp only
 rw[kq2,jh (by unfold zR;omega)]
 simp only
 rw[kq3,jh (by unfold zR;omega)]
 simp only
 rw[kq4,jh (by unfold zR;omega)]
 simp only
 rw[kq5,jh (by unfold zR;omega)]
 simp only
 rw[kq6,QB Ji hle (by unfold zR;omega) (h1 _)]
 simp only
 rw[kq7,QB YE (fun s hs=>by have:=hsl s hs;unfold zR;omega) (by unfold zR;omega) (h2 _)]
 simp only
 have:=q0T (KO h.plan) h3 h4 []
 rw[List.append_nil] at this
 rw[kq8,this]
 simp only
 rw[kq9,if_pos rfl]
 rfl
theorem q00 {r:qH} (h:Z7 r):q1i (KS r)=some (nrm r):=by
 rw[q1i,q1M h (fun _=>h.lens_le) (fun _=>by have:=h.many;have:=h.head.cnt_le;omega) (fun _=>(KO h.plan).many) (fun _=>(KO h.plan).points)]
 simp only
 rw[if_pos (by rw[q0V];exact h.zero)]
end Go.Proofs.YtanebhbfekcplaaGreat

namespace Go.Proofs.YtanebhbfekcplaaGreat
set_option linter.unusedVariables false
open Go.RowKit
theorem Xz {r:qH} {PW PH:Int} {zs:List Int} (h:q1C r PW PH zs=true):qB PW PH zs=true∧PW=r.w∧PH=r.h∧zm r.depth zs=true:=by
 simp only[q1C,Bool.and_eq_true,decide_eq_true_eq] at h
 exact ⟨h.1.1.1,h.1.1.2,h.1.2,h.2⟩
theorem Xr (r:qH) (zs:List Int) (k:Nat):(fiS r zs k).length=k:=by simp[fiS]
theorem fiS_at (r:qH) (zs:List Int) {k i:Nat} (h:i<k):(fiS r zs k).getD i []=wsS r (zK r zs i) (jj r i):=by
 simp[fiS,h]
theorem q3u {r:qH} {zs:List Int} {k n:Nat} (he:q2H r zs n=true) (h:k<n):wsE r (zK r zs k) (jj r k)=0:=by
 have:=List.all_eq_true.1 he k (List.mem_range.2 h)
 simpa using this
theorem q3A {r:qH} (h:zy r) {k:Nat} (hk:k<jG r) {PW PH:Int} {zs:List Int} (hf:q1C r PW PH zs=true) (h0:wsE r (zK r zs k) (jj r k)=0) :
  stE r (wsS r (zK r zs k) (jj r k)) (jj r k)=0∧stZ r (wsS r (zK r zs k) (jj r k)) (jj r k)=zK r zs k:=by
 obtain ⟨hp,rfl,rfl,hd⟩:=Xz hf
 have hl:=QV h hk (qM hp).2.2.1
 unfold wsE at h0
 unfold wsS
 by_cases hz:r.kind=0
 ·rw[if_pos hz] at h0 ⊢
  obtain ⟨e1,e2⟩:=Xb h0
  rw[hl] at e1 e2
  obtain ⟨f1,f2⟩:=Jo hz (zO (zK r zs k) r.depth) (jj r k)
  exact ⟨f1.trans e1,f2.trans e2⟩
 ·rw[if_neg hz] at h0 ⊢
  obtain ⟨e1,e2,_,_⟩:=Ya h0
  have hdp:zm r.depth (zK r zs k)=true:=List.all_eq_true.2 fun z hm=>List.all_eq_true.1 hd z (Zg hm)
  have hs:stE r (qx r.w (jj r k) (zK r zs k) r.kind r.lens) (jj r k)=0:=by
   rw[stE,if_neg hz,if_pos e1,e2,if_pos hdp]
  exact ⟨hs,by rw[stZ,if_pos hs,if_neg hz,e2]⟩
theorem q1o {r:qH} (h:zy r) {zs:List Int} (hz:(zs.length:Int)=r.w*r.h) (k:Nat) (hk:k≤jG r):(List.range k).flatMap (fun i=>zK r zs i)=zs.take (if k=jG r then zs.length else Zo r k):=by
 induction k with
 | zero =>
  have:jG r≠0:=by
   have:=(h.cnt_pos 0).2 (by have:=h.h;simp;omega)
   omega
  rw[if_neg (fun e=>this e.symm)]
  simp[Zo]
 | succ k ih =>
  have hk':k<jG r:=hk
  have ih':=ih (by omega)
  rw[if_neg (by omega)] at ih'
  rw[List.range_succ,List.flatMap_append,ih',List.flatMap_singleton,zK]
  have hle:=K4 h hk'
  have hsz:=h.size hk'
  rw[Int.mul_comm r.w] at hz
  have e:zs.take (Zo r k)++(zs.drop (Zo r k)).take (jj r k*r.w).toNat=zs.take (Zo r k+(jj r k*r.w).toNat):=by
   rw[List.take_add]
  rw[e]
  by_cases hc:k+1=jG r
  ·rw[if_pos hc,List.take_length,List.take_of_length_le]
   have hend:jj r k=r.h-k*r.rows:=by
    have h1:=(not_congr (h.cnt_pos (k+1))).1 (by omega)
    have e:((k+1:Nat):Int)*r.rows=k*r.rows+r.rows:=by rw[Int.natCast_add,Int.add_mul];simp
    unfold jj
    omega
   have e2:(Zo r k:Int)+jj r k*r.w=r.h*r.w:=by
    rw[QC h,hend,←Int.add_mul]
    congr 1
    omega
   omega
  ·rw[if_neg hc]
   have:=q0u h (show k+1<jG r by omega)
   congr 1
   omega
theorem q21 {r:qH} (h:zy r) (zs:List Int):zy (qG r zs):=⟨h.w,h.h,h.depth,h.rows,h.kind,h.lens⟩
theorem q17 {r:qH} {PW PH:Int} {zs:List Int} (h:zB r PW PH zs=0):Z7 (qG r zs)∧Xo (qG r zs)=zs∧PW=r.w∧PH=r.h∧ZJ (qG r zs)=PW∧Zl (qG r zs)=PH:=by
 unfold zB at h
 split at h
 ·rename_i h1
  split at h
  ·rename_i h2
   split at h
   ·rename_i h3
    split at h
    ·rename_i h4
     have hH:=zQ h1
     obtain ⟨hp,rfl,rfl,hd⟩:=Xz h3
     have hst:∀k,k<jG r→stE (qG r zs) (Kw (qG r zs) k) (jj (qG r zs) k)=0∧stZ (qG r zs) (Kw (qG r zs) k) (jj (qG r zs) k)=zK r zs k:=by
      intro k hk
      have e:Kw (qG r zs) k=wsS r (zK r zs k) (jj r k):=fiS_at r zs hk
      rw[e]
      exact q3A hH hk h3 (q3u h4 hk)
     have hok:q0g (qG r zs) (jG r)=true:=List.all_eq_true.2 fun k hk=>by
      rw[decide_eq_true_eq]
      exact (hst k (List.mem_range.1 hk)).1
     have hP:jW r.plan=0∧jM r.w r.h r.plan.spots=true:=by
      unfold Qv at h2
      split at h2
      ·rename_i h5
       split at h2
       ·rename_i h6;exact ⟨h5,h6⟩
       ·cases h2
      ·rename_i h5;exact absurd h2 h5
     have hl:(qG r zs).strips.length=jG r:=Xr r zs (jG r)
     have hR:Z7 (qG r zs):=⟨q21 hH zs,hl,hP.1,hP.2,by rw[hl];exact hok⟩
     refine ⟨hR,?_,rfl,rfl,by rw[ZJ,if_pos hR.zero];rfl,by rw[Zl,if_pos hR.zero];rfl⟩
     rw[Xo,if_pos hR.zero,hl]
     have:ZY (qG r zs) (jG r)=(List.range (jG r)).flatMap fun i=>zK r zs i:=by
      unfold ZY
      rw[List.flatMap_def,List.flatMap_def]
      congr 1
      exact List.map_congr_left fun k hk=>(hst k (List.mem_range.1 hk)).2
     rw[this,q1o hH (qM hp).2.2.1 _ (Nat.le_refl _),if_pos rfl,List.take_length]
    ·cases h
   ·cases h
  ·rename_i h2;exact absurd h h2
 ·rename_i h1;exact absurd h h1
end Go.Proofs.YtanebhbfekcplaaGreat

namespace Go.Proofs.YtanebhbfekcplaaGreat
set_option linter.unusedVariables false
open Go.RowKit
def Kr (r:qH):qH:={ r with strips:=[] }
theorem qd.cell {w:World} {v:Value} {xs:List Int} {B k i:Nat} {u:Value} (h:qd w v xs) (hf:qn B v) (hk:k<B):qd (w.setCell ⟨k,i,none⟩ u) v xs:=h.other (by simp[World.setCell]) (fun b hb=>Below.heap_setCell _ _ _ _ (fun e=>hb e)) (hf.ne hk)
theorem qX.cell {w:World} {v:Value} {xs:List Pt} {B k i:Nat} {u:Value} (h:qX w v xs) (hf:qn B v) (hk:k<B):qX (w.setCell ⟨k,i,none⟩ u) v xs:=h.other (by simp[World.setCell]) (fun b hb=>Below.heap_setCell _ _ _ _ (fun e=>hb e)) (hf.ne hk)
theorem zd {g:Nat} {t:TypeId} {cs:List Value} {w:World} (h:j9 g t cs w) (i:Nat) (v:Value):j9 g t (cs.set i v) (w.setCell ⟨g,i,none⟩ v):=by
 unfold j9 at h ⊢
 simp[World.setCell,Array.getElem?_modify,h]
set_option maxRecDepth 100000 in
set_option maxHeartbeats 3200000 in
theorem q35 (r:qH) (lv tv sv cv:Value) (w:World) (hr:jl w r lv tv sv cv) (g1:r.lens.length≤1000000) (g2:r.plan.spots.length≤1000000) (g3:r.plan.curve.length≤1000000) :
  Calls Tryz.prog 33 #[.agg (qs r lv tv sv cv)] w fun e w'=>∃lv' sv' cv',e=.returned (.agg (qs (Kr r) lv' (.slice none 0 0) sv' cv'))∧jl w' (Kr r) lv' (.slice none 0 0) sv' cv'∧Below w.heap.size w w'∧qn w.heap.size lv'∧qn w.heap.size sv'∧qn w.heap.size cv':=by
 have HL:=q7 hr.lens
 have HS:=q7 hr.plan.spots
 have HC:=q7 hr.plan.curve
 obtain ⟨lo,lc,rfl,_,_⟩:=hr.lens
 obtain ⟨tp,tc,rfl,_,_⟩:=hr.strips
 obtain ⟨so,sc,rfl,_,_⟩:=hr.plan.spots
 obtain ⟨co,cc,rfl,_,_⟩:=hr.plan.curve
 obtain ⟨a1,a2⟩:=al2 w (Obj.cells (qs r (.slice lo r.lens.length lc) (.slice tp r.strips.length tc) (.slice so r.plan.spots.length sc) (.slice co r.plan.curve.length cc)) 32) (Obj.cells qr 32)
 have HB:=q7 (be2 w (Obj.cells (qs r (.slice lo r.lens.length lc) (.slice tp r.strips.length tc) (.slice so r.plan.spots.length sc) (.slice co r.plan.curve.length cc)) 32) (Obj.cells qr 32))
 have hl1:=(Array.getElem?_eq_some_iff.1 a1).1
 have hl2:=(Array.getElem?_eq_some_iff.1 a2).1
 obtain ⟨s0,s1,s2,s3,s4,s5,s6,s13,s26⟩:=qv a1
 clear hr
 go_enter Tryz.func33,Tryz.ntmps33
 go_wp2_with fail
 clear s0 s1 s2 s3 s4 s5 s6 s13 s26
 generalize (w.alloc (Obj.cells (qs r (.slice lo r.lens.length lc) (.slice tp r.strips.length tc) (.slice so r.plan.spots.length sc) (.slice co r.plan.curve.length cc)) 32)).alloc (Obj.cells qr 32)=U at *
 refine (YD _ r.lens U (HL.out.below HB.out (Nat.le_refl _)) g1).mono ?_
 rintro e V1 ⟨lv',rfl,hI1,hb1,hf1⟩
 have b1:j9 w.heap.size 32 (qs r (.slice lo r.lens.length lc) (.slice tp r.strips.length tc) (.slice so r.plan.spots.length sc) (.slice co r.plan.curve.length cc)).toList V1:=(hb1.block _ hl1).trans a1
 have z1:V1.heap[w.heap.size+1]?=some (.cells qr 32 (0,0)):=(hb1.block _ hl2).trans a2
 have c5:V1.cell? ⟨w.heap.size,5,none⟩=some (.slice lo r.lens.length lc):=by rw[Lib.cell_of_heap b1];rfl
 have f5:V1.frozen? ⟨w.heap.size,5,none⟩=false:=Lib.frozen_of_heap b1 _
 have HI1:=q7 hI1
 obtain ⟨lo',lc',rfl,_,_⟩:=hI1
 have b2:=zd b1 5 (.slice lo' r.lens.length lc')
 have c6:(V1.setCell ⟨w.heap.size,5,none⟩ (.slice lo' r.lens.length lc')).cell? ⟨w.heap.size,6,none⟩=some (.slice tp r.strips.length tc):=by rw[Lib.cell_of_heap b2];rfl
 have f6:(V1.setCell ⟨w.heap.size,5,none⟩ (.slice lo' r.lens.length lc')).frozen? ⟨w.heap.size,6,none⟩=false:=Lib.frozen_of_heap b2 _
 have b3:=zd b2 6 (.slice none 0 0)
 have b3:j9 w.heap.size 32 (qs (Kr r) (.slice lo' r.lens.length lc') (.slice none 0 0) (.slice so r.plan.spots.length sc) (.slice co r.plan.curve.length cc)).toList ((V1.setCell ⟨w.heap.size,5,none⟩ (.slice lo' r.lens.length lc')).setCell ⟨w.heap.size,6,none⟩ (.slice none 0 0)):=b3
 have hkk:∀k,k≠w.heap.size→((V1.setCell ⟨w.heap.size,5,none⟩ (.slice lo' r.lens.length lc')).setCell ⟨w.heap.size,6,none⟩ (.slice none 0 0)).heap[k]?=V1.heap[k]?:=fun k hk=>(Below.heap_setCell _ _ _ _ (fun e=>hk e)).trans (Below.heap_setCell _ _ _ _ (fun e=>hk e))
 have z2:=(hkk (w.heap.size+1) (by omega)).trans z1
 have c13:((V1.setCell ⟨w.heap.size,5,none⟩ (.slice lo' r.lens.length lc')).setCell ⟨w.heap.size,6,none⟩ (.slice none 0 0)).cell? ⟨w.heap.size,13,none⟩=some (.slice so r.plan.spots.length sc):=by rw[Lib.cell_of_heap b3];rfl
 have HI2:=q7 ((HI1.out.cell (k:=w.heap.size) (i:=5) (u:=.slice lo' r.lens.length lc') hf1 hl1).cell (k:=w.heap.size) (i:=6) (u:=.slice none 0 0) hf1 hl1)
 have HB2:=q7 (((q8 HB.out hb1).setCell (p:=⟨w.heap.size,5,none⟩) (Nat.le_refl _) (.slice lo' r.lens.length lc')).setCell (p:=⟨w.heap.size,6,none⟩) (Nat.le_refl _) (.slice none 0 0))
 have hsz:=hb1.size
 have HSZ:=q7 (show U.heap.size≤((V1.setCell ⟨w.heap.size,5,none⟩ (.slice lo' r.lens.length lc')).setCell ⟨w.heap.size,6,none⟩ (.slice none 0 0)).heap.size by simp[World.setCell];exact hsz)
 clear b1 b2 z1 hkk
 go_wp2_with fail
 clear c5 f5 c6 f6 c13
 generalize (V1.setCell ⟨w.heap.size,5,none⟩ (.slice lo' r.lens.length lc')).setCell ⟨w.heap.size,6,none⟩ (.slice none 0 0)=W2 at *
 refine (Xa _ r.plan.spots W2 (HS.out.below HB2.out (Nat.le_refl _)) g2).mono ?_
 rintro e V3 ⟨sv',rfl,hI3,hb3,hf3⟩
 have HI3:=q7 hI3
 obtain ⟨so',sc',rfl,_,_⟩:=hI3
 have hl3:w.heap.size<W2.heap.size:=Nat.lt_of_lt_of_le hl1 HSZ.out
 have b4:j9 w.heap.size 32 _ V3:=(hb3.block _ hl3).trans b3
 have z4:V3.heap[w.heap.size+1]?=some (.cells qr 32 (0,0)):=(hb3.block _ (Array.getElem?_eq_some_iff.1 z2).1).trans z2
 have HL4:=q7 (HI2.out.below hb3 (Nat.le_refl _))
 have c13:V3.cell? ⟨w.heap.size,13,none⟩=some (.slice so r.plan.spots.length sc):=by rw[Lib.cell_of_heap b4];rfl
 have f13:V3.frozen? ⟨w.heap.size,13,none⟩=false:=Lib.frozen_of_heap b4 _
 have b5:=zd b4 13 (.slice so' r.plan.spots.length sc')
 have b5:j9 w.heap.size 32 (qs (Kr r) (.slice lo' r.lens.length lc') (.slice none 0 0) (.slice so' r.plan.spots.length sc') (.slice co r.plan.curve.length cc)).toList (V3.setCell ⟨w.heap.size,13,none⟩ (.slice so' r.plan.spots.length sc')):=b5
 have z5:=(Below.heap_setCell V3 ⟨w.heap.size,13,none⟩ (.slice so' r.plan.spots.length sc') (w.heap.size+1) (show w.heap.size+1≠w.heap.size by omega)).trans z4
 have c26:(V3.setCell ⟨w.heap.size,13,none⟩ (.slice so' r.plan.spots.length sc')).cell? ⟨w.heap.size,26,none⟩=some (.slice co r.plan.curve.length cc):=by rw[Lib.cell_of_heap b5];rfl
 have HL5:=q7 (HL4.out.cell (k:=w.heap.size) (i:=13) (u:=.slice so' r.plan.spots.length sc') hf1 hl1)
 have HS5:=q7 (HI3.out.cell (k:=w.heap.size) (i:=13) (u:=.slice so' r.plan.spots.length sc') hf3 hl3)
 have HB5:=q7 ((q8 HB2.out hb3).setCell (p:=⟨w.heap.size,13,none⟩) (Nat.le_refl _) (.slice so' r.plan.spots.length sc'))
 have HSZ5:=q7 (show W2.heap.size≤(V3.setCell ⟨w.heap.size,13,none⟩ (.slice so' r.plan.spots.length sc')).heap.size by simp[World.setCell];exact hb3.size)
 clear b4 z4 b3 z2
 go_wp2_with fail
 clear c13 f13 c26
 generalize V3.setCell ⟨w.heap.size,13,none⟩ (.slice so' r.plan.spots.length sc')=W4 at *
 refine (YR _ r.plan.curve W4 (HC.out.below HB5.out (Nat.le_refl _)) g3).mono ?_
 rintro e V5 ⟨cv',rfl,hI5,hb5,hf5⟩
 have HI5:=q7 hI5
 obtain ⟨co',cc',rfl,_,_⟩:=hI5
 have hl5:w.heap.size<W4.heap.size:=Nat.lt_of_lt_of_le hl3 HSZ5.out
 have b6:j9 w.heap.size 32 _ V5:=(hb5.block _ hl5).trans b5
 have z6:V5.heap[w.heap.size+1]?=some (.cells qr 32 (0,0)):=(hb5.block _ (Array.getElem?_eq_some_iff.1 z5).1).trans z5
 have c26:V5.cell? ⟨w.heap.size,26,none⟩=some (.slice co r.plan.curve.length cc):=by rw[Lib.cell_of_heap b6];rfl
 have f26:V5.frozen? ⟨w.heap.size,26,none⟩=false:=Lib.frozen_of_heap b6 _
 have b7:=zd b6 26 (.slice co' r.plan.curve.length cc')
 obtain ⟨RA,hRA⟩:∃RA,qs (Kr r) (.slice lo' r.lens.length lc') (.slice none 0 0) (.slice so' r.plan.spots.length sc') (.slice co' r.plan.curve.length cc')=RA:=⟨_,rfl⟩
 have b7:(V5.setCell ⟨w.heap.size,26,none⟩ (.slice co' r.plan.curve.length cc')).heap[w.heap.size]?=some (.cells RA 32 (0,0)):=by rw[←hRA];exact b7
 have z7:=(Below.heap_setCell V5 ⟨w.heap.size,26,none⟩ (.slice co' r.plan.curve.length cc') (w.heap.size+1) (show w.heap.size+1≠w.heap.size by omega)).trans z6
 have HL7:=q7 ((HL5.out.below hb5 (Nat.le_refl _)).cell (k:=w.heap.size) (i:=26) (u:=.slice co' r.plan.curve.length cc') hf1 hl1)
 have HS7:=q7 ((HS5.out.below hb5 (Nat.le_refl _)).cell (k:=w.heap.size) (i:=26) (u:=.slice co' r.plan.curve.length cc') hf3 hl3)
 have HC7:=q7 (HI5.out.cell (k:=w.heap.size) (i:=26) (u:=.slice co' r.plan.curve.length cc') hf5 hl5)
 have HB7:=q7 ((q8 HB5.out hb5).setCell (p:=⟨w.heap.size,26,none⟩) (Nat.le_refl _) (.slice co' r.plan.curve.length cc'))
 have i1:(Tryz.prog.info? 32).map (·.size)=some RA.size:=by rw[←hRA];kernel_rfl
 have i2:(qr:Array Value).size=RA.size:=by rw[←hRA];rfl
 have i3:RA.all (·.oneCell')=true:=by rw[←hRA];simp[Value.oneCell']
 have HRA:=q7 hRA
 clear hRA b6 z6 b5 z5
 go_upto_region 5 with fail
 clear c26 f26
 generalize V5.setCell ⟨w.heap.size,26,none⟩ (.slice co' r.plan.curve.length cc')=W6 at *
 have HG:=q7 (setRow_heap _ _ _ RA _ _ z7)
 have hk:∀k,k≠w.heap.size+1→(W6.setRow (w.heap.size+1) RA).heap[k]?=W6.heap[k]?:=fun k hk=>setRow_other _ _ _ _ hk
 have HBF:=q7 (below_setRow (g:=w.heap.size+1) HB7.out (Nat.le_succ _) RA)
 have hu2:w.heap.size+1<U.heap.size:=hl2
 have HIF:=q7 (show jl (W6.setRow (w.heap.size+1) RA) (Kr r) (.slice lo' r.lens.length lc') (.slice none 0 0) (.slice so' r.plan.spots.length sc') (.slice co' r.plan.curve.length cc') from
  ⟨HL7.out.other (k:=w.heap.size+1) (by simp) hk (hf1.ne hl2),jk.nil _,HS7.out.other (k:=w.heap.size+1) (by simp) hk (hf3.ne (by have:=HSZ.out;omega)),HC7.out.other (k:=w.heap.size+1) (by simp) hk (hf5.ne (by have:=HSZ.out;have:=HSZ5.out;omega))⟩)
 have HFR:=q7 (show qn w.heap.size (.slice lo' r.lens.length lc')∧qn w.heap.size (.slice so' r.plan.spots.length sc')∧qn w.heap.size (.slice co' r.plan.curve.length cc') from ⟨hf1.mono (by omega),hf3.mono (by omega),hf5.mono (by omega)⟩)
 clear HL7 HS7 HC7 hf1 hf3 hf5 hk
 go_wp2_with (first|refine wpList_load_row rfl 32 _ rfl _ rfl _ _ _ _ b7 Tryz.underlying32 rfl i1 ?_|refine wpList_store_row rfl 32 _ _ rfl (w.heap.size+1) RA rfl rfl _ _ z7 i1 i2 i3 ?_)
 refine bodyPost_ret (v:=.agg RA) (results_cell_row Tryz.results33 _ _ _ _ _ _ _ rfl HG.out Tryz.underlying32 rfl i1) rfl ⟨_,_,_,by rw[HRA.out],HIF.out,HBF.out,HFR.out⟩
end Go.Proofs.YtanebhbfekcplaaGreat

namespace Go.Proofs.YtanebhbfekcplaaGreat
set_option linter.unusedVariables false
open Go.RowKit
theorem YV {w w':World} {base:Nat} {e:TypeId} {sz:Nat} {v:Value} {n:Nat} {xs:List Value} (h:w.ownsRow base e sz v n xs) (hk:∀g,v.ownBlock=some g→w'.heap[g]?=w.heap[g]?):w'.ownsRow base e sz v n xs:=by
 refine ⟨h.1,?_⟩
 rcases h.2 with h|⟨g,cap,cur,hv,hg,hh,r⟩
 ·exact .inl h
 ·exact .inr ⟨g,cap,cur,hv,hg,(hk g (by rw[hv];rfl)).trans hh,r⟩
abbrev RowX:=TypeId×Nat×Value×Nat×List Value
def Kk (v:Value):Prop:=∀n c,v=.slice none n c→n=0∧c=0
theorem q2b {et ct:TypeId} {sz:Nat} (ce:ct≠et) {V w1 w:World} {B base PB i:Nat} {cs:List Value} {so:Option Addr} {scap k m:Nat} {v':Value} {xs ys:List Value}
  (i1:j9 PB ct cs V) (hi:cs[i]?=some (.slice so k scap)) (i2:V.ownsRow base et sz (.slice so k scap) k xs) (i5:Below B w V) (hB:B≤base) (hPB:B≤PB) (hw:B≤V.heap.size)
  (hg:V.grownBy w1 (Value.slice so k scap).ownBlock) (ho:w1.ownsRow base et sz v' m ys) :
  w1.cell? ⟨PB,i,none⟩=some (.slice so k scap)∧w1.frozen? ⟨PB,i,none⟩=false∧j9 PB ct (cs.set i v') (w1.setCell ⟨PB,i,none⟩ v')∧(w1.setCell ⟨PB,i,none⟩ v').ownsRow base et sz v' m ys ∧
   Below B w (w1.setCell ⟨PB,i,none⟩ v')∧(∀b,b<V.heap.size→some b≠(Value.slice so k scap).ownBlock→b≠PB→(w1.setCell ⟨PB,i,none⟩ v').heap[b]?=V.heap[b]?):=by
 have keep:∀b,b<V.heap.size→some b≠(Value.slice so k scap).ownBlock→w1.heap[b]?=V.heap[b]?:=fun b hb hne=>hg.block b hb hne
 have kP:j9 PB ct cs w1:=(keep PB i1.lt (J4 i2 i1 ce)).trans i1
 refine ⟨by rw[Lib.cell_of_heap kP];simpa using hi,Lib.frozen_of_heap kP i,zd kP i v',ownsRow_setCell_other ho (fun e=>J4 ho kP ce e.symm) _,?_,fun b hb hne hn=>(Below.heap_setCell _ _ _ _ hn).trans (keep b hb hne)⟩
 exact (i5.grown hg hw (fun j hj=>Nat.le_trans hB (i2.lt j hj).1)).setCell (p:=⟨PB,i,none⟩) hPB _
theorem jk.own {w:World} {base:Nat} {v:Value} {ts:List (List UInt8)} (h:w.ownsRow base 9 1 v ts.length (ts.map QS)) (hl:ts.length≤9223372036854775807):jk w v ts:=by
 rcases h.2 with ⟨hv,hn⟩|⟨g,cap,cur,hv,_,hg,_⟩
 ·exact ⟨none,0,by rw[hv,hn],hl,.inl (List.eq_nil_of_length_eq_zero hn)⟩
 ·refine ⟨_,cap,hv,hl,.inr ⟨g,0,rfl,(Array.getElem?_eq_some_iff.1 hg).1,fun j hj=>?_⟩⟩
  subst hv
  rw[Nat.zero_add,h.cellAt j (by omega)]
  simp[hj,QS]
theorem qq {fn:Func} (hfn:fn.results=#[.cell 4 32,.tmp 5]) (tmps:Array Value) (R:Nat) (cs:Array Value) (z:Value) (W:World) (h2:tmps.getD 4 undef=.pointer (some ⟨R,0,none⟩)) (h3:tmps.getD 5 undef=z)
  (hR:W.heap[R]?=some (.cells cs 32 (0,0))) (hs:(Tryz.prog.info? 32).map (·.size)=some cs.size) :
  (results fn tmps).run Tryz.prog W=.ok (.tuple #[.agg cs,z]) W:=by
 have hl:=run_loadVar_row (P:=Tryz.prog) W R 32 32 cs (0,0) _ hR Tryz.underlying32 rfl hs
 have h2':tmps[4]?.getD undef=.pointer (some ⟨R,0,none⟩):=by simpa using h2
 have h3':tmps[5]?.getD undef=z:=by simpa using h3
 simp[results,hfn,h2',h3',asAddr,hl]
theorem q2Z (P:Program) (t e:TypeId) (ht:P.underlying t=some (.slice (P.elem t))) (hs:∀w,(sizeOf (P.elem t)).run P w=.ok 1 w) (a:Addr) (n c M:Nat) (h:M≤n) (w:World) :
  (Instr.slice t (.slice (some a) n c) (some (.int .i64 M)) none none).run P w=.ok (.slice (some (if c=M then a else a.add M)) (n-M) (c-M)) w:=by
 rw[run_slice_l w t (some a) n c ht .i64 M (by omega) (by omega),hs]
 simp only[Result.andThen,sliced,Int.toNat_natCast,Nat.mul_one,Option.map_some]
 split<;>simp_all
theorem q33 (P:Program) (t e:TypeId) (ht:P.underlying t=some (.slice (P.elem t))) (hs:∀w,(sizeOf (P.elem t)).run P w=.ok 1 w) (b o n c M:Nat) (h:M≤c) (w:World) :
  (Instr.slice t (.slice (some ⟨b,o,none⟩) n c) none (some (.int .i64 M)) none).run P w=.ok (.slice (some ⟨b,o,none⟩) M c) w:=by
 rw[run_slice_h w t (some ⟨b,o,none⟩) n c ht .i64 M (by omega) (by omega),hs]
 simp only[Result.andThen,sliced,Int.toNat_natCast,Nat.zero_mul,Nat.sub_zero,Option.map_some]
 split<;>simp_all[Addr.add_lit]
theorem Kh {w:World} {zs:List Int} {bk off ca P M:Nat} (hc:∀j,j<zs.length→w.cell? ⟨bk,off+j,none⟩=some (.int .i64 (zAt zs j))) (hb:bk<w.heap.size) (h:P+M≤zs.length) (hz:zs.length≤4096):qd w (.slice (some ⟨bk,off+P,none⟩) M (ca-P)) ((zs.drop P).take M):=by
 have hl:((zs.drop P).take M).length=M:=by rw[List.length_take,List.length_drop];omega
 refine ⟨_,_,by rw[hl],by omega,.inr ⟨bk,_,rfl,hb,fun j hj=>?_⟩⟩
 rw[Nat.add_assoc,hc (P+j) (by omega)]
 simp[zAt,List.getD_eq_getElem?_getD,show P+j<zs.length by omega]
def FiJ (r:qH) (zs:List Int) (lv sv cv:Value) (QX k:Nat) (U wr:World):Prop :=
 ∃(so:Option Addr) (cap:Nat),q2H r zs k=true∧j9 QX 32 (qs r lv (.slice so k cap) sv cv).toList wr∧wr.ownsRow QX 9 1 (.slice so k cap) k ((fiS r zs k).map QS)∧Below QX U wr
theorem FiJ.below {r:qH} {zs:List Int} {lv sv cv:Value} {QX k:Nat} {U wr V:World} (h:FiJ r zs lv sv cv QX k U wr) (hV:Below wr.heap.size wr V):FiJ r zs lv sv cv QX k U V:=by
 obtain ⟨so,cap,h1,h2,h3,h4⟩:=h
 exact ⟨so,cap,h1,(hV.block _ h2.lt).trans h2,qy h3 hV,h4.trans (hV.mono (Nat.le_of_lt h2.lt))⟩
set_option maxRecDepth 100000 in
set_option maxHeartbeats 6400000 in
theorem ZG (r:qH) (lv tv sv cv:Value) (PW PH:Int) (v:Value) (zs:List Int) (w:World) (hr:jl w r lv tv sv cv) (hv:qd w v zs) (hroom:XQ v) :
  Calls Tryz.prog 12 #[.agg (qs r lv tv sv cv),.agg #[.int .i64 PW,.int .i64 PH,v]] w fun e w'=>Below w.heap.size w w'∧((zB r PW PH zs=0∧∃lv' tv' sv' cv',e=.returned (.tuple #[.agg (qs (qG r zs) lv' tv' sv' cv'),.int .i64 0])∧jl w' (qG r zs) lv' tv' sv' cv'∧qn w.heap.size lv'∧qn w.heap.size tv'∧qn w.heap.size sv'∧qn w.heap.size cv') ∨
   (zB r PW PH zs≠0∧e=.returned (.tuple #[.agg qr,.int .i64 (zB r PW PH zs)]))):=by
 have HR:=q7 hr
 have HV:=q7 hv
 have HCH:=q7 (fun (u:World) (hu:Below w.heap.size w u)=>Js r lv tv sv cv u (HR.out.lens.below hu (Nat.le_refl _)))
 have HCP:=q7 (fun (u:World) (hu:Below w.heap.size w u)=>ZW r lv tv sv cv u (HR.out.plan.below hu (Nat.le_refl _)))
 have HPL:=q7 (fun (u:World) (hu:Below w.heap.size w u)=>Qg PW PH v zs u (HV.out.below hu (Nat.le_refl _)))
 have HDP:=q7 (fun (hd:1≤r.depth∧r.depth≤16) (u:World) (hu:Below w.heap.size w u)=>Z4 v zs r.depth u hd (HV.out.below hu (Nat.le_refl _)))
 have HBA:=q7 (fun (u:World) (hu:Below w.heap.size w u) g1 g2 g3=>q35 r lv tv sv cv u (HR.out.below hu (Nat.le_refl _)) g1 g2 g3)
 have HSC0:=q7 (fun (u:World) (h:zy r)=>QK r lv tv sv cv u h)
 have HSR0:=q7 (fun (k:Nat) (u:World) (h:zy r) (hk:k<jG r)=>Jk r lv tv sv cv k u h hk)
 have HWS0:=q7 (fun (v':Value) (l:List Int) (n:Int) (u:World) (hu:Below w.heap.size w u) (hv':qd u v' l)=>X5 r lv tv sv cv v' l n u (HR.out.lens.below hu (Nat.le_refl _)) hv')
 have HE:=q7 (show zB r PW PH zs=if jA r=0 then (if Qv r=0 then (if q1C r PW PH zs=true then (if q2H r zs (jG r)=true then 0 else 4) else 1) else Qv r) else jA r from rfl)
 have HFP:=q7 (show q1C r PW PH zs=(qB PW PH zs && decide (PW=r.w) && decide (PH=r.h) && zm r.depth zs) from rfl)
 generalize zB r PW PH zs=E at *
 obtain ⟨vo,vc,rfl,hvl,_⟩:=hv
 have hvc:zs.length≤vc:=hroom
 obtain ⟨a1,a2,a3⟩:=al3 w (Obj.cells (qs r lv tv sv cv) 32) (Obj.cells #[.int .i64 PW,.int .i64 PH,.slice vo zs.length vc] 34) (Obj.cells qr 32)
 have HB:=q7 (be3 w (Obj.cells (qs r lv tv sv cv) 32) (Obj.cells #[.int .i64 PW,.int .i64 PH,.slice vo zs.length vc] 34) (Obj.cells qr 32))
 have hl1:=(Array.getElem?_eq_some_iff.1 a1).1
 have hl2:=(Array.getElem?_eq_some_iff.1 a2).1
 have hl3:=(Array.getElem?_eq_some_iff.1 a3).1
 have iz:(Tryz.prog.info? 32).map (·.size)=some (qr:Array Value).size:=by kernel_rfl
 have oz:(qr:Array Value).all (·.oneCell')=true:=by simp[Value.oneCell']
 clear hr hroom
 go_enter Tryz.func12,Tryz.ntmps12
 go_wp2_with (refine wpList_load_row rfl 32 _ rfl _ rfl _ _ _ _ a1 Tryz.underlying32 rfl (by kernel_rfl) ?_)
 generalize ((w.alloc (Obj.cells (qs r lv tv sv cv) 32)).alloc (Obj.cells #[.int .i64 PW,.int .i64 PH,.slice vo zs.length vc] 34)).alloc (Obj.cells qr 32)=U at *
 have HRC:=q7 (fun (v:World) (h:v.heap[w.heap.size]?=some (.cells (qs r lv tv sv cv) 32 (0,0)))=>qv h)
 have hi28:(Tryz.prog.info? 32).map (·.size)=some ((qs r lv tv sv cv):Array Value).size:=by kernel_rfl
 generalize (qs r lv tv sv cv)=RQ at *
 refine (HCH.out _ HB.out).mono ?_
 rintro e V1 ⟨rfl,hb1⟩
 by_cases hF:jA r=0
 rotate_left
 ·rw[if_neg hF] at HE
  have he:=HE.out
  subst he
  have hn:(jA r != 0)=true:=by simpa using hF
  have g3:=(hb1.block _ hl3).trans a3
  have HG:=q7 (setRow_heap _ _ _ qr _ _ g3)
  have HBF:=q7 (below_setRow (g:=w.heap.size+2) (q8 HB.out hb1) (by omega) qr)
  go_wp2_with (refine wpList_store_row rfl 32 _ _ rfl (w.heap.size+2) qr rfl rfl _ _ g3 iz rfl oz ?_)
  refine bodyPost_ret (v:=.tuple #[.agg qr,.int .i64 (jA r)]) (qq Tryz.results12 _ _ _ _ _ rfl rfl HG.out iz) rfl ⟨HBF.out,.inr ⟨hF,rfl⟩⟩
 rw[if_pos hF] at HE
 rw[hF]
 have hH:=zQ hF
 have HHD:=q7 hH
 have g1:=(hb1.block _ hl1).trans a1
 clear HCH hF
 go_wp2_with (refine wpList_load_row rfl 32 _ rfl _ rfl _ _ _ _ g1 Tryz.underlying32 rfl hi28 ?_)
 refine (HCP.out _ (q8 HB.out hb1)).mono ?_
 rintro e V2 ⟨rfl,hb2⟩
 replace hb2:=q8 hb1 hb2
 clear g1 hb1
 by_cases hP:Qv r=0
 rotate_left
 ·rw[if_neg hP] at HE
  have he:=HE.out
  subst he
  have hn:(Qv r != 0)=true:=by simpa using hP
  have g3:=(hb2.block _ hl3).trans a3
  have HG:=q7 (setRow_heap _ _ _ qr _ _ g3)
  have HBF:=q7 (below_setRow (g:=w.heap.size+2) (q8 HB.out hb2) (by omega) qr)
  go_wp2_with (refine wpList_store_row rfl 32 _ _ rfl (w.heap.size+2) qr rfl rfl _ _ g3 iz rfl oz ?_)
  refine bodyPost_ret (v:=.tuple #[.agg qr,.int .i64 (Qv r)]) (qq Tryz.results12 _ _ _ _ _ rfl rfl HG.out iz) rfl ⟨HBF.out,.inr ⟨hP,rfl⟩⟩
 rw[if_pos hP] at HE
 rw[hP]
 have HPZ:=q7 hP
 clear HCP hP
 have g2:=(hb2.block _ hl2).trans a2
 obtain ⟨p0,p1,p2⟩:=jJ g2
 go_wp2_with fail
 clear p0 p1 p2
 refine (HPL.out _ (q8 HB.out hb2)).mono ?_
 rintro e V3 ⟨rfl,hb3⟩
 replace hb3:=q8 hb2 hb3
 clear g2 hb2 HPL
 have g2:=(hb3.block _ hl2).trans a2
 have g1:=(hb3.block _ hl1).trans a1
 obtain ⟨p0,p1,p2⟩:=jJ g2
 obtain ⟨s0,s1,s2,s3,s4,s5,s6,s13,s26⟩:=HRC.out _ g1
 clear g1 g2
 cases hpo:qB PW PH zs
 ·have he:E=1:=by rw[HE.out,HFP.out,hpo];rfl
  subst he
  clear HFP
  have g3:=(hb3.block _ hl3).trans a3
  have HG:=q7 (setRow_heap _ _ _ qr _ _ g3)
  have HBF:=q7 (below_setRow (g:=w.heap.size+2) (q8 HB.out hb3) (by omega) qr)
  go_wp2_with (refine wpList_store_row rfl 32 _ _ rfl (w.heap.size+2) qr rfl rfl _ _ g3 iz rfl oz ?_)
  refine bodyPost_ret (v:=.tuple #[.agg qr,.int .i64 1]) (qq Tryz.results12 _ _ _ _ _ rfl rfl HG.out iz) rfl ⟨HBF.out,.inr ⟨by decide,rfl⟩⟩
 by_cases hpw:PW=r.w
 rotate_left
 ·have hn1:(PW != r.w)=true:=by simpa using hpw
  have he:E=1:=by rw[HE.out,HFP.out,decide_eq_false hpw];simp
  subst he
  clear HFP
  have g3:=(hb3.block _ hl3).trans a3
  have HG:=q7 (setRow_heap _ _ _ qr _ _ g3)
  have HBF:=q7 (below_setRow (g:=w.heap.size+2) (q8 HB.out hb3) (by omega) qr)
  go_wp2_with (refine wpList_store_row rfl 32 _ _ rfl (w.heap.size+2) qr rfl rfl _ _ g3 iz rfl oz ?_)
  refine bodyPost_ret (v:=.tuple #[.agg qr,.int .i64 1]) (qq Tryz.results12 _ _ _ _ _ rfl rfl HG.out iz) rfl ⟨HBF.out,.inr ⟨by decide,rfl⟩⟩
 have hn1:(PW != r.w)=false:=by simpa using hpw
 by_cases hph:PH=r.h
 rotate_left
 ·have hn2:(PH != r.h)=true:=by simpa using hph
  have he:E=1:=by rw[HE.out,HFP.out,decide_eq_false hph];simp
  subst he
  clear HFP
  have g3:=(hb3.block _ hl3).trans a3
  have HG:=q7 (setRow_heap _ _ _ qr _ _ g3)
  have HBF:=q7 (below_setRow (g:=w.heap.size+2) (q8 HB.out hb3) (by omega) qr)
  go_wp2_with (refine wpList_store_row rfl 32 _ _ rfl (w.heap.size+2) qr rfl rfl _ _ g3 iz rfl oz ?_)
  refine bodyPost_ret (v:=.tuple #[.agg qr,.int .i64 1]) (qq Tryz.results12 _ _ _ _ _ rfl rfl HG.out iz) rfl ⟨HBF.out,.inr ⟨by decide,rfl⟩⟩
 have hn2:(PH != r.h)=false:=by simpa using hph
 go_wp2_with fail
 refine (HDP.out HHD.out.depth _ (q8 HB.out hb3)).mono ?_
 rintro e V4 ⟨rfl,rfl⟩
 cases hdo:zm r.depth zs
 ·have he:E=1:=by rw[HE.out,HFP.out,hdo];simp
  subst he
  clear HFP p0 p1 p2 s0 s1 s2 s3 s4 s5 s6 s13 s26
  have g3:=(hb3.block _ hl3).trans a3
  have HG:=q7 (setRow_heap _ _ _ qr _ _ g3)
  have HBF:=q7 (below_setRow (g:=w.heap.size+2) (q8 HB.out hb3) (by omega) qr)
  go_wp2_with (refine wpList_store_row rfl 32 _ _ rfl (w.heap.size+2) qr rfl rfl _ _ g3 iz rfl oz ?_)
  refine bodyPost_ret (v:=.tuple #[.agg qr,.int .i64 1]) (qq Tryz.results12 _ _ _ _ _ rfl rfl HG.out iz) rfl ⟨HBF.out,.inr ⟨by decide,rfl⟩⟩
 have hfit:q1C r PW PH zs=true:=by rw[HFP.out,hpo,hdo,decide_eq_true hpw,decide_eq_true hph];rfl
 rw[if_pos hfit] at HE
 have HFT:=q7 hfit
 obtain ⟨hW,hHh,hlen,_⟩:=qM hpo
 have hsm:=jV hW hHh
 have hn1':1≤zs.length:=by omega
 have hz4:zs.length≤4096:=by omega
 have HLEN:=q7 (show (zs.length:Int)=r.w*r.h by rw[hlen,hpw,hph])
 obtain ⟨bk,off,ca,hve,hbk,hcell⟩:=HV.out.cells hn1'
 cases hve
 have HC:=q7 hcell
 clear HFP HDP hfit hpo hdo hpw hph hn1 hn2 p0 p1 p2 s0 s1 s2 s3 s4 s5 s6 s13 s26 hlen hsm hcell hW hHh hH
 have g1:=(hb3.block _ hl1).trans a1
 have hle17:r.lens.length≤1000000:=by
  have:=HHD.out.lens
  unfold JA at this
  split at this
  ·split at this
   ·omega
   ·cases this
  ·have:=(qT this).2.1;omega
 have hplz:jW r.plan=0:=by
  have:=HPZ.out
  unfold Qv at this
  split at this
  ·assumption
  ·exact this
 have hsp:r.plan.spots.length≤1000000:=by have:=(zf hplz).2.2.2.2.2.1;omega
 have hcu:r.plan.curve.length≤1000000:=by have:=Zf (zf hplz).2.2.2.2.2.2.2;omega
 go_wp2_with (refine wpList_load_row rfl 32 _ rfl _ rfl _ _ _ _ g1 Tryz.underlying32 rfl hi28 ?_)
 clear g1
 refine (HBA.out _ (q8 HB.out hb3) hle17 hsp hcu).mono ?_
 rintro e VB ⟨lv',sv',cv',rfl,hIB,hbB,f1,f3,f4⟩
 clear HBA hle17 hplz hsp hcu
 have HFR:=q7 (show qn U.heap.size lv'∧qn U.heap.size sv'∧qn U.heap.size cv' from ⟨f1.mono hb3.size,f3.mono hb3.size,f4.mono hb3.size⟩)
 replace hbB:=q8 hb3 hbB
 clear hb3 f1 f3 f4
 have HIB:=q7 hIB
 have HO:=q7 (zH hIB)
 have HRAW:=q7 (show qs (Kr r) lv' (.slice none 0 0) sv' cv'=qs r lv' (.slice none 0 0) sv' cv' from rfl)
 obtain ⟨RA,hRA⟩:∃RA,qs (Kr r) lv' (.slice none 0 0) sv' cv'=RA:=⟨_,rfl⟩
 have i1:(Tryz.prog.info? 32).map (·.size)=some RA.size:=by rw[←hRA];kernel_rfl
 have i2:(qr:Array Value).size=RA.size:=by rw[←hRA];rfl
 rw[hRA] at HO HRAW ⊢
 have HRA:=q7 hRA
 have hos:=HO.out
 clear hRA hIB
 have z1:=al1 VB (Obj.cells qr 32)
 have c1:=setRow_heap _ _ _ RA _ _ z1
 have HBX:=q7 (below_setRow (g:=VB.heap.size) (qa VB (Obj.cells qr 32)) (Nat.le_refl _) RA)
 go_upto_region 10 with (refine wpList_store_row rfl 32 _ _ rfl VB.heap.size RA rfl rfl _ _ z1 i1 i2 hos ?_)
 clear z1
 obtain ⟨QX,hQX⟩:∃QX,VB.heap.size=QX:=⟨_,rfl⟩
 rw[hQX] at c1 HBX ⊢
 have HJ0:=q7 (show FiJ r zs lv' sv' cv' QX 0 VB ((VB.alloc (Obj.cells qr 32)).setRow QX RA) from ⟨none,0,rfl,c1.trans (by rw[HRAW.out]),⟨by simp[fiS],.inl ⟨rfl,rfl⟩⟩,HBX.out⟩)
 have hUQ:U.heap.size≤QX:=by rw[←hQX];exact hbB.size
 generalize (VB.alloc (Obj.cells qr 32)).setRow QX RA=V5 at *
 have hb5:Below U.heap.size U V5:=hbB.trans (HBX.out.mono hUQ)
 have HSC:=q7 (fun (u:World)=>HSC0.out u HHD.out)
 have g1:=(hb5.block _ hl1).trans a1
 have g2:=(hb5.block _ hl2).trans a2
 obtain ⟨p0,p1,p2⟩:=jJ g2
 have hcp:=HHD.out.cnt_le
 have HPA:=q7 (QC HHD.out)
 clear HBX c1 HO HRAW hos i1 i2 HRA
 clear g2 HSC0
 generalize hC:jG r=C at *
 have HCN:=q7 hC
 clear hC
 go_wp2_with (refine wpList_load_row rfl 32 _ rfl _ rfl _ _ _ _ g1 Tryz.underlying32 rfl hi28 ?_)
 refine (HSC.out _).mono ?_
 rintro e V6 ⟨rfl,hb6⟩
 have HJ6:=q7 (HJ0.out.below hb6)
 clear HJ0 g1 p0 p1 p2 HSC hb5
 have HBU:=q7 (show Below U.heap.size U VB from hbB)
 go_wp2_with fail
 go_loopw [9,58] (fun lf i wr=>∃k:Nat,k≤C∧i=.int .i64 k∧(∃ao m c,lf=.slice (some ao) m c∧(k<C→ao=⟨bk,off+Zo r k,none⟩∧m=zs.length-Zo r k∧c=vc-Zo r k))∧FiJ r zs lv' sv' cv' QX k VB wr) (fun _ i _=>C-(intOf i).toNat)
 case atStart=>exact ⟨0,Nat.zero_le _,rfl,⟨_,_,_,rfl,fun _=>by simp[Zo]⟩,HJ6.out⟩
 case round =>
  clear HJ6
  obtain ⟨k,hk,rfl,⟨ao,m,c,rfl,hao⟩,hJ⟩:=hrel
  have HJ:=q7 hJ
  obtain ⟨so,cap,j1,j2,j3,j4⟩:=hJ
  have hUQ2:Below U.heap.size U wr:=hbB.trans (j4.mono hUQ)
  by_cases hlt:k<C
  ·have hd:decide ((k:Int)<(C:Int))=true:=by simp;omega
   obtain ⟨rfl,rfl,rfl⟩:=hao hlt
   have hlc:k<jG r:=by have:=HCN.out;omega
   have HSR:=q7 (fun (u:World)=>HSR0.out k u HHD.out hlt)
   have hple:=K4 HHD.out hlc
   have hsz:=HHD.out.size hlc
   have hL:=HLEN.out
   rw[Int.mul_comm] at hL
   rw[←hL] at hple
   obtain ⟨M,hM⟩:∃M:Nat,jj r k*r.w=M:=⟨(jj r k*r.w).toNat,by omega⟩
   have HPR:=q7 (show zK r zs k=(zs.drop (Zo r k)).take M by rw[zK,hM,Int.toNat_natCast])
   have HNX:=q7 (show k+1<C→Zo r (k+1)=Zo r k+M∧Zo r k+M<zs.length from fun h=>by
    have hc2:k+1<jG r:=by have:=HCN.out;omega
    have e1:=q0u HHD.out hc2
    have e2:=K4 HHD.out hc2
    have e3:=HHD.out.size hc2
    rw[hM] at e1
    rw[←hL] at e2
    omega)
   have HEI:=q7 (q3V HHD.out hlc HFT.out)
   have HFF:=q7 (fun hk0=>XF (r:=r) (zs:=zs) hlc hk0)
   have HFS:=q7 (q0q r zs k)
   have HOK:=q7 (show wsE r (zK r zs k) (jj r k)=0→q2H r zs (k+1)=true from fun h0=>by rw[YQ,j1,h0];rfl)
   rw[hM] at hple hsz
   generalize jj r k=RN at *
   generalize hPP:Zo r k=PP at *
   clear hPP
   have hwm:IntKind.i64.wrap (M:Int)=M:=IntWalk.i64_in _ (by omega)
   have hpm:PP+M≤zs.length:=by omega
   have hM1:1≤M:=by omega
   have HII:=q7 (fun (u:World) (hu:Below w.heap.size w u)=>Kh (ca:=vc) (fun j hj=>(hu.cell (p:=⟨bk,off+j,none⟩) hbk).trans (HC.out j hj)) (Nat.lt_of_lt_of_le hbk hu.size) hpm hz4)
   rw[←HPR.out] at HII
   generalize zK r zs k=PT at *
   have HWS:=q7 (fun (u:World) (hu:Below w.heap.size w u)=>HWS0.out _ PT RN u hu (HII.out u hu))
   obtain ⟨NP,hNP⟩:∃NP,zs.length-PP=NP:=⟨_,rfl⟩
   obtain ⟨CP,hCP⟩:∃CP,vc-PP=CP:=⟨_,rfl⟩
   obtain ⟨OP,hOP⟩:∃OP,off+PP=OP:=⟨_,rfl⟩
   rw[hCP,hOP] at HWS
   rw[hNP,hCP,hOP]
   have hMC:M≤CP:=by omega
   have hMN:M≤NP:=by omega
   have HOP:=q7 hOP
   have HNP:=q7 hNP
   have HCP2:=q7 hCP
   clear hOP hNP hCP hL hple hsz hao
   have hsl1:∀V:World,(Instr.slice 22 (.slice (some ⟨bk,OP,none⟩) NP CP) none (some (.int .i64 M)) none).run Tryz.prog V=.ok (.slice (some ⟨bk,OP,none⟩) M CP) V:=fun V=>q33 Tryz.prog 22 3 Tryz.underlying22 (fun _=>by kernel_rfl) bk OP NP CP M hMC V
   obtain ⟨AD,hAD⟩:∃AD:Addr,(if CP=M then (⟨bk,OP,none⟩:Addr) else (⟨bk,OP,none⟩:Addr).add M)=AD:=⟨_,rfl⟩
   have hsl2:∀V:World,(Instr.slice 22 (.slice (some ⟨bk,OP,none⟩) NP CP) (some (.int .i64 M)) none none).run Tryz.prog V=.ok (.slice (some AD) (NP-M) (CP-M)) V:=fun V=>by rw[←hAD];exact q2Z Tryz.prog 22 3 Tryz.underlying22 (fun _=>by kernel_rfl) ⟨bk,OP,none⟩ NP CP M hMN V
   have HAD:=q7 hAD
   have HM:=q7 hM
   clear hAD hpm HII HPR
   have hkQ:=j2.lt
   have hlw:w.heap.size<wr.heap.size:=Nat.lt_of_lt_of_le hl1 hUQ2.size
   have g1:=(hUQ2.block _ hl1).trans a1
   have HS:=q7 (show ∀v,Below wr.heap.size wr v→v.heap[w.heap.size]?=some (.cells RQ 32 (0,0))∧v.cell? ⟨w.heap.size,0,none⟩=some (.int .i64 r.w) from fun v h=>⟨(h.block _ hlw).trans g1,(HRC.out v ((h.block _ hlw).trans g1)).1⟩)
   clear j1 j2 j3 HSR0 HWS0
   go_wp2_with (refine wpList_load_row rfl 32 _ rfl _ rfl _ _ _ _ g1 Tryz.underlying32 rfl hi28 ?_)
   clear g1
   refine (HSR.out _).mono ?_
   rintro e X1 ⟨rfl,hx1⟩
   go_upto_region 15 with fail
   have hWd:Below wr.heap.size wr X1.drew:=hx1.drew
   have hSd:=HS.out _ hWd
   have hmx:Tryz.prog.follows .mixedOrders=true:=by kernel_rfl
   refine qK (S:=(fun v:World=>v.heap[w.heap.size]?=some (.cells RQ 32 (0,0))∧v.cell? ⟨w.heap.size,0,none⟩=some (.int .i64 r.w))) (f:=13) hmx ?_
   show j7 _ _ _ _ _ _ 14 _ _ X1.drew
   refine q9 (i:=0) (oi:=_) (v:=.agg RQ) (some 65) [] rfl rfl (by kernel_rfl) (by kernel_rfl) (by kernel_rfl) (by kernel_rfl) (by kernel_rfl) (fun _ _ _ h=>h) (Or.inl ⟨by rfl,?yy1⟩) hSd ?rr1
   case yy1=>(intro wq hSq;obtain ⟨hq1,hq2⟩:=hSq;exact zY 32 _ rfl _ rfl _ _ _ _ hq1 Tryz.underlying32 rfl hi28)
   simp only[Act.put,List.setIfInBounds_toArray,List.set_cons_succ,List.set_cons_zero]
   refine q9 (i:=1) (oi:=_) (v:=?vv2) (some 66) [] rfl rfl (by kernel_rfl) (by kernel_rfl) (by kernel_rfl) (by kernel_rfl) (by kernel_rfl) (fun _ _ _ h=>h) (Or.inl ⟨by rfl,?yy2⟩) hSd ?rr2
   case yy2=>(intro wq hSq;obtain ⟨hq1,hq2⟩:=hSq;go_simp<;>with_reducible rfl)
   simp only[Act.put,List.setIfInBounds_toArray,List.set_cons_succ,List.set_cons_zero]
   refine q9 (i:=2) (oi:=_) (v:=?vv3) (some 67) [] rfl rfl (by kernel_rfl) (by kernel_rfl) (by kernel_rfl) (by kernel_rfl) (by kernel_rfl) (fun _ _ _ h=>h) (Or.inl ⟨by rfl,?yy3⟩) hSd ?rr3
   case yy3=>(intro wq hSq;obtain ⟨hq1,hq2⟩:=hSq;go_simp<;>with_reducible rfl)
   simp only[Act.put,List.setIfInBounds_toArray,List.set_cons_succ,List.set_cons_zero]
   refine q9 (i:=3) (oi:=_) (v:=?vv4) (some 68) [] rfl rfl (by kernel_rfl) (by kernel_rfl) (by kernel_rfl) (by kernel_rfl) (by kernel_rfl) (fun _ _ _ h=>h) (Or.inl ⟨by rfl,?yy4⟩) hSd ?rr4
   case yy4=>(intro wq hSq;obtain ⟨hq1,hq2⟩:=hSq;go_simp<;>with_reducible rfl)
   simp only[Act.put,List.setIfInBounds_toArray,List.set_cons_succ,List.set_cons_zero]
   refine q9 (i:=7) (oi:=_) (v:=?vv5) (some 72) [] rfl rfl (by kernel_rfl) (by kernel_rfl) (by kernel_rfl) (by kernel_rfl) (by kernel_rfl) (fun _ _ _ h=>h) (Or.inl ⟨by rfl,?yy5⟩) hSd ?rr5
   case yy5=>(intro wq hSq;obtain ⟨hq1,hq2⟩:=hSq;go_simp<;>with_reducible rfl)
   simp only[Act.put,List.setIfInBounds_toArray,List.set_cons_succ,List.set_cons_zero]
   refine q9 (i:=4) (oi:=_) (v:=?vv6) (some 69) [] rfl rfl (by kernel_rfl) (by kernel_rfl) (by kernel_rfl) (by kernel_rfl) (by kernel_rfl) (fun _ _ _ h=>h) (Or.inl ⟨by rfl,?yy6⟩) hSd ?rr6
   case yy6=>(intro wq hSq;obtain ⟨hq1,hq2⟩:=hSq;go_simp<;>with_reducible rfl)
   simp only[Act.put,List.setIfInBounds_toArray,List.set_cons_succ,List.set_cons_zero]
   refine q9 (i:=5) (oi:=_) (v:=.int .i64 M) (some 70) [] rfl rfl (by kernel_rfl) (by kernel_rfl) (by kernel_rfl) (by kernel_rfl) (by kernel_rfl) (fun _ _ _ h=>h) (Or.inl ⟨by rfl,?yy7⟩) hSd ?rr7
   case yy7=>(intro wq hSq;obtain ⟨hq1,hq2⟩:=hSq;first|(go_simp;done)|(go_simp;rw[hM];try (go_simp<;>with_reducible rfl)))
   simp only[Act.put,List.setIfInBounds_toArray,List.set_cons_succ,List.set_cons_zero]
   refine q9 (i:=6) (oi:=_) (v:=?vv8) (some 71) [] rfl rfl (by kernel_rfl) (by kernel_rfl) (by kernel_rfl) (by kernel_rfl) (by kernel_rfl) (fun _ _ _ h=>h) (Or.inl ⟨by rfl,?yy8⟩) hSd ?rr8
   case yy8=>(intro wq hSq;obtain ⟨hq1,hq2⟩:=hSq;go_simp<;>with_reducible rfl)
   simp only[Act.put,List.setIfInBounds_toArray,List.set_cons_succ,List.set_cons_zero]
   refine qm (i:=8) (o:=_) (by kernel_rfl) rfl (fun K' hK=>?_)
   rw[if_pos (by rfl)]
   go_simp
   refine (HWS.out _ (q8 HB.out (q8 hUQ2 hWd))).mono ?_
   rintro e X2 ⟨rfl,hx2⟩
   have hX2:Below wr.heap.size wr X2:=q8 hWd hx2
   have hSd:=HS.out _ hX2
   refine hK.out _ _ hSd ?_
   clear hK
   try simp only[Act.put]
   refine q9 (i:=9) (oi:=_) (v:=?vv9) (some 64) [] rfl rfl (by kernel_rfl) (by kernel_rfl) (by kernel_rfl) (by kernel_rfl) (by kernel_rfl) (fun _ _ _ h=>h) (Or.inl ⟨by rfl,?yy9⟩) hSd ?rr9
   case yy9=>(intro wq hSq;obtain ⟨hq1,hq2⟩:=hSq;go_simp<;>with_reducible rfl)
   simp only[Act.put,List.setIfInBounds_toArray,List.set_cons_succ,List.set_cons_zero]
   refine q9 (i:=10) (oi:=_) (v:=?vv10) (some 74) [] rfl rfl (by kernel_rfl) (by kernel_rfl) (by kernel_rfl) (by kernel_rfl) (by kernel_rfl) (fun _ _ _ h=>h) (Or.inl ⟨by rfl,?yy10⟩) hSd ?rr10
   case yy10=>(intro wq hSq;obtain ⟨hq1,hq2⟩:=hSq;go_simp<;>with_reducible rfl)
   simp only[Act.put,List.setIfInBounds_toArray,List.set_cons_succ,List.set_cons_zero]
   refine q9 (i:=11) (oi:=_) (v:=?vv11) (some 75) [] rfl rfl (by kernel_rfl) (by kernel_rfl) (by kernel_rfl) (by kernel_rfl) (by kernel_rfl) (fun _ _ _ h=>h) (Or.inl ⟨by rfl,?yy11⟩) hSd ?rr11
   case yy11=>(intro wq hSq;obtain ⟨hq1,hq2⟩:=hSq;go_simp<;>with_reducible rfl)
   simp only[Act.put,List.setIfInBounds_toArray,List.set_cons_succ,List.set_cons_zero]
   refine qm (i:=12) (o:=_) (by kernel_rfl) rfl (fun K' hK=>?_)
   rw[if_pos (by rfl)]
   go_simp
   have hSd:=hSd
   refine hK.out _ _ hSd ?_
   clear hK
   try simp only[Act.put]
   refine qV (o:=_) (by kernel_rfl) rfl (fun K' hK=>?_)
   rw[if_pos (by rfl)]
   go_simp
   refine hK.out _ _ ?_
   clear hK
   refine qU (by kernel_rfl) ?_ _
   try simp only[Act.put]
   clear hSd hWd hx1 hx2
   have HJ2:=q7 (HJ.out.below hX2)
   clear HJ HWS HSR
   obtain ⟨so,cap,k1,k2,k3,k4⟩:=HJ2.out
   have hUX:Below U.heap.size U X2:=hbB.trans (k4.mono hUQ)
   by_cases h0:wsE r PT RN=0
   ·rw[h0]
    obtain ⟨T,hT⟩:∃T,wsS r PT RN=T:=⟨_,rfl⟩
    rw[hT] at HFS ⊢
    clear hT
    obtain ⟨i0,hi,hz0,hz1,hz2⟩:=info_parts Tryz.infoStrF
    obtain ⟨s0,s1,s2,s3,s4,s5,s6,s13,s26⟩:=qv k2
    have hlw2:w.heap.size<X2.heap.size:=Nat.lt_of_lt_of_le hl1 hUX.size
    have hXQ:QX<X2.heap.size:=k2.lt
    have b2:j9 QX 32 (qs r lv' (.slice so k cap) sv' cv').toList (X2.alloc (Obj.cells #[.string (str T)] 9)):=((qa X2 _).block _ hXQ).trans k2
    have o2:=qy k3 (qa X2 (Obj.cells #[.string (str T)] 9))
    have c2:=al1 X2 (Obj.cells #[.string (str T)] 9)
    have b4:Below QX VB (X2.alloc (Obj.cells #[.string (str T)] 9)):=k4.trans ((qa X2 _).mono (Nat.le_of_lt hXQ))
    have hkl:k≤64:=by omega
    have gz:=((qa X2 (Obj.cells #[.string (str T)] 9)).block _ hlw2).trans ((hUX.block _ hl1).trans a1)
    have s6':(X2.alloc (Obj.cells #[.string (str T)] 9)).cell? ⟨QX,6,none⟩=some (.slice so k cap):=by rw[Lib.cell_of_heap b2];rfl
    have q2:∀j u,[Value.string (str T)][j]?=some u→(X2.alloc (Obj.cells #[.string (str T)] 9)).cell? ((⟨X2.heap.size,0,none⟩:Addr).add j)=some u:=by
     intro j u hj
     rcases j with _|j
     ·simp only[List.getElem?_cons_zero,Option.some.injEq] at hj
      rw[Addr.add_lit,Lib.cell_of_heap c2,←hj];rfl
     ·simp at hj
    have q3:∀u∈[Value.string (str T)],u.oneCell'=true:=by intro u hu;rw[List.mem_singleton.1 hu];rfl
    have q4:k+1≤maxLen:=by unfold maxLen;omega
    have q5:(k+1)*16≤140737488355328:=by omega
    have q6:QX≤(X2.alloc (Obj.cells #[.string (str T)] 9)).heap.size:=by simp;omega
    clear s0 s1 s2 s3 s4 s5 s13 s26 k1 k2 k3 HJ2
    go_wp2_with (at_builtin;refine wpList_append_own _ rfl _ _ 23 rfl QX 9 i0 (.string ⟨#[]⟩) 1 16 Tryz.underlying23 hi hz0 hz1 hz2 rfl (by decide) _ k ((fiS r zs k).map QS) rfl o2 ⟨X2.heap.size,0,none⟩ 1 1 [.string (str T)] rfl rfl q2 q3 q4 q5 q6 ?_)
    intro v' w1 hown hgrow hnil
    obtain ⟨x1,x2,x3,x4,x5,x6⟩:=q2b (i:=6) (by decide) b2 rfl o2 b4 (Nat.le_refl _) (Nat.le_refl _) (by simp;omega) hgrow hown
    rcases id hown.2 with ⟨_,hn0⟩|⟨g,cp,cur,rfl,_⟩
    ·exfalso;omega
    have HJ3:=q7 (show FiJ r zs lv' sv' cv' QX (k+1) VB (w1.setCell ⟨QX,6,none⟩ (.slice (some ⟨g,0,none⟩) (k+1) cp)) from ⟨some ⟨g,0,none⟩,cp,HOK.out h0,x3,by rw[HFS.out,List.map_append];exact x4,x5⟩)
    have gw:(w1.setCell ⟨QX,6,none⟩ (.slice (some ⟨g,0,none⟩) (k+1) cp)).heap[w.heap.size]?=some (.cells RQ 32 (0,0)):=(x6 _ (by simp;omega) (J4 o2 gz (by decide)) (by omega)).trans gz
    obtain ⟨r0,_⟩:=HRC.out _ gw
    clear x3 x4 x5 x6 gw gz b2 o2 c2 b4 hown hgrow hnil
    have hwm2:IntKind.i64.wrap (RN*r.w)=(M:Int):=by rw[hM];exact hwm
    go_wp2
    go_roundw
    case rel =>
     refine ⟨k+1,hlt,by go_num,⟨_,_,_,rfl,fun h=>?_⟩,HJ3.out⟩
     obtain ⟨e,e'⟩:=HNX.out h
     have:=HNP.out
     have:=HCP2.out
     have:=HOP.out
     rw[←HAD.out,if_neg,Addr.add_lit,e]
     ·refine ⟨by rw[←HOP.out,Nat.add_assoc],by omega,by omega⟩
     ·omega
    case measure=>simp[intOf];omega
   ·rcases HEI.out with he|he
    ·exact absurd he h0
    rw[he]
    have hzf:=HFF.out h0
    rw[HCN.out] at hzf
    have hee:E=4:=by rw[HE.out,hzf];rfl
    subst hee
    clear k1 k2 k3 k4
    have g3:=(hUX.block _ hl3).trans a3
    have HG:=q7 (setRow_heap _ _ _ qr _ _ g3)
    have HBF:=q7 (below_setRow (g:=w.heap.size+2) (q8 HB.out hUX) (by omega) qr)
    go_wp2_with (refine wpList_store_row rfl 32 _ _ rfl (w.heap.size+2) qr rfl rfl _ _ g3 iz rfl oz ?_)
    refine bodyPost_ret (v:=.tuple #[.agg qr,.int .i64 4]) (qq Tryz.results12 _ _ _ _ _ rfl rfl HG.out iz) rfl ⟨HBF.out,.inr ⟨by decide,rfl⟩⟩
  ·have hd:decide ((k:Int)<(C:Int))=false:=by simp;omega
   obtain rfl:k=C:=by omega
   have he:E=0:=by rw[HE.out,if_pos j1]
   subst he
   have g3:=(hUQ2.block _ hl3).trans a3
   obtain ⟨RA,hRA⟩:∃RA,qs r lv' (.slice so k cap) sv' cv'=RA:=⟨_,rfl⟩
   have i1:(Tryz.prog.info? 32).map (·.size)=some RA.size:=by rw[←hRA];kernel_rfl
   have i2:(qr:Array Value).size=RA.size:=by rw[←hRA];rfl
   have hIF:jl wr (qG r zs) lv' (.slice so k cap) sv' cv':=⟨HIB.out.lens.below j4 (by omega),jk.own (base:=QX) (by rw[show (qG r zs).strips=fiS r zs k by rw[qG,HCN.out]];simpa [fiS] using j3) (by rw[show (qG r zs).strips=fiS r zs k by rw[qG,HCN.out]];simp[fiS];omega),HIB.out.plan.spots.below j4 (by omega),HIB.out.plan.curve.below j4 (by omega)⟩
   have hos:RA.all (·.oneCell')=true:=by rw[←hRA];exact (zH hIF:(qs (qG r zs) lv' (.slice so k cap) sv' cv').all (·.oneCell')=true)
   have HRA:=q7 hRA
   have d1:wr.heap[QX]?=some (.cells RA 32 (0,0)):=by rw[←hRA];exact j2
   have HG:=q7 (setRow_heap _ _ _ RA _ _ g3)
   have HBF:=q7 (below_setRow (g:=w.heap.size+2) (q8 HB.out hUQ2) (by omega) RA)
   have hfo:=qn.own j3
   obtain ⟨f1,f3,f4⟩:=HFR.out
   have HIF:=q7 (hIF.other (k:=w.heap.size+2) (w':=wr.setRow (w.heap.size+2) RA) (B:=U.heap.size) (by simp) (fun b hb=>setRow_other _ _ _ _ hb) hl3 f1 (hfo.mono hUQ) f3 f4)
   have hw:w.heap.size≤U.heap.size:=by omega
   have HFZ:=q7 (show qn w.heap.size lv'∧qn w.heap.size (.slice so k cap)∧qn w.heap.size sv'∧qn w.heap.size cv' from ⟨f1.mono hw,hfo.mono (by omega),f3.mono hw,f4.mono hw⟩)
   clear hRA f1 f3 f4 hfo hIF j1 j2 j3 j4 HJ hao
   go_wp2_with (first|refine wpList_load_row rfl 32 _ rfl _ rfl _ _ _ _ d1 Tryz.underlying32 rfl i1 ?_|refine wpList_store_row rfl 32 _ _ rfl (w.heap.size+2) RA rfl rfl _ _ g3 i1 i2 hos ?_)
   have HRF:=q7 (show qs (qG r zs) lv' (.slice so k cap) sv' cv'=RA from HRA.out)
   first
   | refine bodyPost_ret (v:=.tuple #[.agg RA,.int .i64 0]) (qq Tryz.results12 _ _ _ _ _ rfl rfl HG.out i1) rfl ⟨HBF.out,_,_,_,_,by rw[HRF.out],HIF.out,HFZ.out⟩
   | refine bodyPost_ret (v:=.tuple #[.agg RA,.int .i64 0]) (qq Tryz.results12 _ _ _ _ _ rfl rfl HG.out i1) rfl ⟨HBF.out,.inl ⟨rfl,_,_,_,_,by rw[HRF.out],HIF.out,HFZ.out⟩⟩
end Go.Proofs.YtanebhbfekcplaaGreat

namespace Go.Proofs.YtanebhbfekcplaaGreat
open Go.RowKit
theorem Ku (m:Nat→Int) (k:Nat) (h:k<(zT m).length):(zT m)[k]=m k:=by simp[zT]
set_option maxRecDepth 100000 in
set_option maxHeartbeats 800000 in
theorem KP (m:Nat→Int) (w:World):Calls Tryz.prog 109 #[.agg (q3g m)] w fun e w'=>e=.returned (.bool (JK m))∧Below w.heap.size w w':=by
 obtain ⟨R,hR⟩:∃R,JK m=R:=⟨_,rfl⟩
 rw[hR]
 have HR:=q7 (show R=qF (-32768) 32768 (zT m) by rw[←hR];rfl)
 clear hR
 have g:=al1 w (Obj.cells (q3g m) 27)
 have HC:=q7 (fun k (hk:k<9)=>show (w.alloc (Obj.cells (q3g m) 27)).cell? ⟨w.heap.size,k,none⟩=some (.int .i64 (m k)) by rw[Lib.cell_of_heap g,q0B m k hk])
 have hB:=qa w (Obj.cells (q3g m) 27)
 have h9:(zT m).length=9:=by simp[zT]
 have HL9:=q7 h9
 clear g h9
 go_enter Tryz.func109,Tryz.ntmps109
 go_wp2
 generalize w.alloc (Obj.cells (q3g m) 27)=U at *
 go_loop [3] (fun i=>∃k:Nat,k≤9∧i=.int .i64 k∧Hid (qF (-32768) 32768 ((zT m).take k)=true)) (fun i=>9-(intOf i).toNat)
 case atStart=>exact ⟨0,by omega,rfl,rfl⟩
 case round =>
  obtain ⟨k,hk,rfl,HA⟩:=hrel
  by_cases hlt:k<9
  ·have c1:=HC.out k hlt
   have hlt':k<(zT m).length:=by rw[HL9.out];exact hlt
   by_cases hx:-32768≤m k∧m k≤32768
   ·have hsx:decide (-32768≤m k∧m k≤32768)=true:=by simpa using hx
    have HT:=q7 (show qF (-32768) 32768 ((zT m).take (k+1))=true by rw[List.take_succ_eq_append_getElem hlt',Xx,HA.out,Ku];exact hsx)
    clear hx
    go_wp2_with (go_at_call 55;refine (qe _ _ _ _).mono ?_;rintro e wx ⟨rfl,rfl⟩;rw[hsx])
    go_round
    case rel=>exact ⟨k+1,by omega,by go_num,HT⟩
    case measure=>simp[intOf];omega
   ·have hsx:decide (-32768≤m k∧m k≤32768)=false:=by simpa using hx
    have HX:=q7 (show false=R by rw[HR.out,QY (-32768) 32768 (zT m) k hlt' (by rw[Ku];exact hx)])
    clear hx
    go_wp2_with (go_at_call 55;refine (qe _ _ _ _).mono ?_;rintro e wx ⟨rfl,rfl⟩;rw[hsx])
    go_ret
    exact ⟨qg HX.out,hB⟩
  ·have HX:=q7 (show true=R by rw[HR.out,←HA.out,List.take_of_length_le (by rw[HL9.out];omega)])
   go_wp2
   go_ret
   exact ⟨qg HX.out,hB⟩
end Go.Proofs.YtanebhbfekcplaaGreat

namespace Go.Proofs.YtanebhbfekcplaaGreat
open Go.RowKit
set_option maxRecDepth 100000 in
set_option maxHeartbeats 1600000 in
theorem XX (v:Value) (ls:List Pt) (w:World) (hv:qX w v ls) :
  Calls Tryz.prog 110 #[v] w fun e w'=>e=.returned (.bool (qQ ls))∧Below w.heap.size w w':=by
 obtain ⟨ao,ca,rfl,hla,hc⟩:=hv
 obtain ⟨R,hR⟩:∃R,qQ ls=R:=⟨_,rfl⟩
 rw[hR]
 by_cases hn:2≤(ls.length:Int)∧(ls.length:Int)≤16
 ·have hdn:decide (2≤(ls.length:Int)∧(ls.length:Int)≤16)=true:=by simpa using hn
  obtain ⟨bk,off,hao,hbl,hcell⟩:∃b off,ao=some ⟨b,off,none⟩∧b<w.heap.size∧∀j,j<ls.length →
    w.cell? ⟨b,off+j*2,none⟩=some (.int .i64 (qk ls j).1)∧w.cell? ⟨b,off+j*2+1,none⟩=some (.int .i64 (qk ls j).2):=by
   rcases hc with h|h
   ·subst h;simp at hn
   ·exact h
  subst hao
  have HCELL:=q7 hcell;clear hcell hc
  obtain ⟨n0,n1⟩:=hn
  have p0:=(HCELL.out 0 (by omega)).1
  have p1:=(HCELL.out (ls.length-1) (by omega)).1
  rw[Nat.zero_mul,Nat.add_zero] at p0
  by_cases hf:(qk ls 0).1=0
  ·by_cases ht:(qk ls (ls.length-1)).1=65535
   ·have HR:=q7 (show R=Jl ls ls.length by rw[←hR,qQ,Qq,hdn,hf,ht];rfl)
    rw[hf] at p0
    rw[ht] at p1
    clear hR hf ht
    go_enter Tryz.func110,Tryz.ntmps110
    go_wp2_with (go_at_call 55;refine (qe _ _ _ _).mono ?_;rintro e wx ⟨rfl,rfl⟩;rw[hdn])
    clear p0 p1 hdn
    go_loopw [3] (fun i wr=>∃k:Nat,k≤ls.length∧i=.int .i64 k∧Hid (Jl ls k=true)∧∃n,wr=w.drewN n) (fun i _=>ls.length-(intOf i).toNat)
    case atStart=>exact ⟨0,Nat.zero_le _,rfl,rfl,0,rfl⟩
    case round =>
     obtain ⟨k,hk,rfl,HA,nn,rfl⟩:=hrel
     by_cases hlt:k<ls.length
     ·have hlt2:(k:Int)<(ls.length:Int):=by omega
      obtain ⟨c0,c1⟩:=HCELL.out k hlt
      have HS:=q7 (XI ls k)
      have HF:=q7 (fun h=>ZU ls k ls.length hlt h)
      by_cases hy:ptY ls k=true
      ·have hyd:decide (0≤(qk ls k).2∧(qk ls k).2≤65535)=true:=hy
       have HWI:=q7 (show ∀w',Calls Tryz.prog 55 #[.int .i64 (qk ls k).2,.int .i64 0,.int .i64 65535] w' fun e w''=>e=.returned (.bool true)∧w''=w' from fun w'=>by
        have h:=q2v (qk ls k).2 0 65535 w'
        rw[hyd] at h;exact h)
       clear hyd
       have hpr:∀i,k=i+1→w.cell? ⟨bk,off+i*2,none⟩=some (.int .i64 (qk ls i).1)∧w.cell? ⟨bk,off+i*2+1,none⟩=some (.int .i64 (qk ls i).2):=fun i e=>HCELL.out i (by omega)
       cases k with
       | zero =>
        have HT:=q7 (show Jl ls (0+1)=true by rw[HS.out,HA.out,hy];simp[Qm])
        clear hy HS HF hpr
        simp only[Nat.zero_mul,Nat.add_zero] at c0 c1
        go_wp2_with fail
        go_quiet ((go_at_call 55;exact (HWI.out _).mono (fun _ _ h=>⟨h.1,_,h.2⟩)))
        go_wp2
        go_roundw
        case rel=>exact ⟨0+1,by omega,by go_num,HT,_,rfl⟩
        case measure=>simp[intOf];omega
       | succ i =>
        obtain ⟨d0,d1⟩:=hpr i rfl
        clear hpr
        have hwi:IntKind.i64.wrap (i:Int)=(i:Int):=IntWalk.i64_in _ (by omega)
        have hil:i<ls.length:=by omega
        have hil2:(i:Int)<(ls.length:Int):=by omega
        have hil3:0≤(i:Int):=by omega
        have hil4:(i:Int)+1<(ls.length:Int):=by omega
        by_cases hs:(qk ls i).1<(qk ls (i+1)).1
        ·have hsb:decide ((qk ls (i+1)).1≤(qk ls i).1)=false:=by simp;omega
         by_cases hs2:(qk ls i).2≤(qk ls (i+1)).2
         ·have hsb2:decide ((qk ls (i+1)).2<(qk ls i).2)=false:=by simp;omega
          have HT:=q7 (show Jl ls (i+1+1)=true by rw[HS.out,HA.out,hy];simp[Qm,hs,hs2])
          clear hy HS HF hs hs2
          go_wp2_with fail
          go_quiet ((go_at_call 55;exact (HWI.out _).mono (fun _ _ h=>⟨h.1,_,h.2⟩)))
          go_wp2
          go_roundw
          case rel=>exact ⟨i+1+1,by omega,by go_num,HT,_,rfl⟩
          case measure=>simp[intOf];omega
         ·have hsb2:decide ((qk ls (i+1)).2<(qk ls i).2)=true:=by simp;omega
          have HX:=q7 (show false=R by rw[HR.out,HF.out (by rw[hy];simp[Qm];omega)])
          clear hy HS HF hs hs2
          go_wp2_with fail
          go_quiet ((go_at_call 55;exact (HWI.out _).mono (fun _ _ h=>⟨h.1,_,h.2⟩)))
          go_wp2
          go_ret
          exact ⟨qg HX.out,by first|exact below_drewN (Below.refl _ _) _|exact below_drewN (below_drewN (Below.refl _ _) _) _⟩
        ·have hsb:decide ((qk ls (i+1)).1≤(qk ls i).1)=true:=by simp;omega
         have HX:=q7 (show false=R by rw[HR.out,HF.out (by rw[hy];simp[Qm];omega)])
         clear hy HS HF hs
         go_wp2_with fail
         go_quiet ((go_at_call 55;exact (HWI.out _).mono (fun _ _ h=>⟨h.1,_,h.2⟩)))
         go_wp2
         go_ret
         exact ⟨qg HX.out,by first|exact below_drewN (Below.refl _ _) _|exact below_drewN (below_drewN (Below.refl _ _) _) _⟩
      ·have hy:ptY ls k=false:=by simpa using hy
       have hyd:decide (0≤(qk ls k).2∧(qk ls k).2≤65535)=false:=hy
       have HWI:=q7 (show ∀w',Calls Tryz.prog 55 #[.int .i64 (qk ls k).2,.int .i64 0,.int .i64 65535] w' fun e w''=>e=.returned (.bool false)∧w''=w' from fun w'=>by
        have h:=q2v (qk ls k).2 0 65535 w'
        rw[hyd] at h;exact h)
       clear hyd
       have HX:=q7 (show false=R by rw[HR.out,HF.out (by rw[hy];rfl)])
       clear hy HS HF
       go_wp2_with fail
       go_quiet ((go_at_call 55;exact (HWI.out _).mono (fun _ _ h=>⟨h.1,_,h.2⟩)))
       go_wp2
       go_ret
       exact ⟨qg HX.out,by first|exact below_drewN (Below.refl _ _) _|exact below_drewN (below_drewN (Below.refl _ _) _) _⟩
     ·have HX:=q7 (show true=R by rw[HR.out,←HA.out,show k=ls.length by omega])
      have hd:decide ((k:Int)<(ls.length:Int))=false:=by simp;omega
      go_wp2
      go_ret
      exact ⟨qg HX.out,by first|exact below_drewN (Below.refl _ _) _|exact below_drewN (below_drewN (Below.refl _ _) _) _⟩
   ·have HX:=q7 (show false=R by rw[←hR,qQ,Qq];simp[ht])
    have hb:((qk ls (ls.length-1)).1 != 65535)=true:=by simpa using ht
    rw[hf] at p0
    clear hR hf ht
    go_enter Tryz.func110,Tryz.ntmps110
    go_wp2_with (go_at_call 55;refine (qe _ _ _ _).mono ?_;rintro e wx ⟨rfl,rfl⟩;rw[hdn])
    go_ret
    exact ⟨qg HX.out,Below.refl _ _⟩
  ·have HX:=q7 (show false=R by rw[←hR,qQ,Qq];simp[hf])
   have hb:((qk ls 0).1 != 0)=true:=by simpa using hf
   clear hR hf
   go_enter Tryz.func110,Tryz.ntmps110
   go_wp2_with (go_at_call 55;refine (qe _ _ _ _).mono ?_;rintro e wx ⟨rfl,rfl⟩;rw[hdn])
   go_ret
   exact ⟨qg HX.out,Below.refl _ _⟩
 ·have hdn:decide (2≤(ls.length:Int)∧(ls.length:Int)≤16)=false:=by simpa using hn
  have HX:=q7 (show false=R by rw[←hR,qQ,Qq,hdn];rfl)
  clear hR hn
  go_enter Tryz.func110,Tryz.ntmps110
  go_wp2_with (go_at_call 55;refine (qe _ _ _ _).mono ?_;rintro e wx ⟨rfl,rfl⟩;rw[hdn])
  go_ret
  exact ⟨qg HX.out,Below.refl _ _⟩
end Go.Proofs.YtanebhbfekcplaaGreat

namespace Go.Proofs.YtanebhbfekcplaaGreat
open Go.RowKit
def spotK (p:Pt):Lit:=.string (keyBytes [.int .i64 p.1,.int .i64 p.2])
def ptWf (p:Pt):Prop:=(Lit.int .i64 p.1).wf=true∧(Lit.int .i64 p.2).wf=true
def jy (w:World) (bm n:Nat) (ls:List Pt):Prop :=
 ∃D:DataW Unit,w.ownsMap Tryz.prog 77 (plainElem Tryz.prog 3) bm n D∧∀p,ptWf p→D.atKey (spotK p) (.lit (.int .i64 0))=.lit (.int .i64 (ls.count p:Nat))
theorem jy.lt {w:World} {bm n:Nat} {ls:List Pt} (h:jy w bm n ls):bm<w.heap.size:=by
 obtain ⟨D,hD,_⟩:=h
 exact hD.lt
theorem jy.kept {w w':World} {bm n:Nat} {ls:List Pt} {row:Option Nat} (h:jy w bm n ls) (hg:w.grownBy w' row) (hne:some bm≠row):jy w' bm n ls:=by
 obtain ⟨D,hD,hf⟩:=h
 exact ⟨D,hD.kept hg hne,hf⟩
theorem jy.below {w w':World} {bm n B:Nat} {ls:List Pt} (h:jy w bm n ls) (hb:Below B w w') (hB:bm<B):jy w' bm n ls:=by
 obtain ⟨D,⟨es,clock,hh,r⟩,hf⟩:=h
 exact ⟨D,⟨es,clock,by rw[hb.block bm hB];exact hh,r⟩,hf⟩
theorem jy.alloc {w:World} {bm n:Nat} {ls:List Pt} (h:jy w bm n ls) (o:Obj):jy (w.alloc o) bm n ls:=h.kept (World.grownBy_alloc w o none) (by simp)
theorem jy.drew {w:World} {bm n:Nat} {ls:List Pt} (h:jy w bm n ls):jy w.drew bm n ls:=h
theorem jy.made (w:World):jy (w.alloc (.map #[] 0)) w.heap.size 0 [] :=
 ⟨.map [],World.ownsMap_made w _ _ _,fun _ _=>rfl⟩
theorem jy.same {w w':World} {bm n:Nat} {ls:List Pt} (h:jy w bm n ls) (hb:w'.heap[bm]?=w.heap[bm]?):jy w' bm n ls:=by
 obtain ⟨D,⟨es,clock,hh,r⟩,hf⟩:=h
 exact ⟨D,⟨es,clock,hb.trans hh,r⟩,hf⟩
theorem jy.mono {w:World} {bm n n':Nat} {ls:List Pt} (h:jy w bm n ls) (hn:n≤n'):jy w bm n' ls:=by
 obtain ⟨D,hD,hf⟩:=h
 exact ⟨D,hD.mono hn,hf⟩
section
open Go.ChangeMaps Go.MapKept
open Go.WideElems (Fit set_self)
end
end Go.Proofs.YtanebhbfekcplaaGreat

namespace Go.Proofs.YtanebhbfekcplaaGreat
set_option linter.unusedVariables false
open Go.RowKit
set_option maxRecDepth 100000 in
set_option maxHeartbeats 800000 in
theorem QZ (v:Value) (ls:List Pt) (W H:Int) (hW:1≤W∧W≤64) (hH:1≤H∧H≤64) (w:World) (hv:qX w v ls) :
  Calls Tryz.prog 58 #[v,.int .i64 W,.int .i64 H] w fun e w'=>e=.returned (.bool (jM W H ls))∧w=w':=by
 obtain ⟨ao,ca,rfl,hla,hc0⟩:=hv
 have HC:=q7 (fun j hj=>qX.at ⟨ao,ca,rfl,hla,hc0⟩ j hj)
 clear hc0
 obtain ⟨hW1,hW2⟩:=hW
 obtain ⟨hH1,hH2⟩:=hH
 obtain ⟨R,hR⟩:∃R,jM W H ls=R:=⟨_,rfl⟩
 rw[hR]
 have HR:=q7 hR
 clear hR
 go_enter Tryz.func58,Tryz.ntmps58
 go_wp2
 go_loop [7] (fun i=>∃k:Nat,k≤ls.length∧i=.int .i64 k∧Hid (∀i,i<k→YG W H (qk ls i).1 (qk ls i).2=true)) (fun i=>ls.length-(intOf i).toNat)
 case atStart=>exact ⟨0,Nat.zero_le _,rfl,q7 (fun i hi=>by omega)⟩
 case round =>
  obtain ⟨k,hk,rfl,HA⟩:=hrel
  by_cases hlt:k<ls.length
  ·have hd:decide ((k:Int)<(ls.length:Int))=true:=by simp;omega
   obtain ⟨bq,oq,rfl,hbq,e0,e1⟩:=HC.out k hlt
   have HF:=q7 (fun h=>XK (W:=W) (H:=H) k hlt h)
   have HT:=q7 (show YG W H (qk ls k).1 (qk ls k).2=true→∀i,i<k+1→YG W H (qk ls i).1 (qk ls i).2=true from fun hn i hi=>by
    rcases Nat.lt_succ_iff_lt_or_eq.1 hi with h|rfl
    ·exact HA.out i h
    ·exact hn)
   obtain ⟨⟨a,b⟩,hab⟩:∃p,qk ls k=p:=⟨_,rfl⟩
   rw[hab] at e0 e1 HF HT
   simp only at e0 e1 HF HT
   clear hab
   by_cases hx:0≤a∧a≤W-1
   ·have hxd:decide (0≤a∧a≤W-1)=true:=by simpa using hx
    by_cases hy:0≤b∧b≤H-1
    ·have hyd:decide (0≤b∧b≤H-1)=true:=by simpa using hy
     have HN:=q7 (HT.out (by simp[YG];omega))
     clear hx hy
     go_wp2_with (go_at_call 55;refine (qe _ _ _ _).mono ?_;rintro e wx ⟨rfl,rfl⟩;first|rw[hxd]|rw[hyd])
     go_round
     case rel=>exact ⟨k+1,by omega,by go_num,HN⟩
     case measure=>simp[intOf];omega
    ·have hyd:decide (0≤b∧b≤H-1)=false:=by simpa using hy
     have hr:R=false:=HR.out.symm.trans (HF.out (by simp[YG];omega))
     subst hr
     clear hx hy
     go_wp2_with (go_at_call 55;refine (qe _ _ _ _).mono ?_;rintro e wx ⟨rfl,rfl⟩;first|rw[hxd]|rw[hyd])
     go_ret
     exact ⟨rfl,rfl⟩
   ·have hxd:decide (0≤a∧a≤W-1)=false:=by simpa using hx
    have hr:R=false:=HR.out.symm.trans (HF.out (by simp[YG];omega))
    subst hr
    clear hx
    go_wp2_with (go_at_call 55;refine (qe _ _ _ _).mono ?_;rintro e wx ⟨rfl,rfl⟩;rw[hxd])
    go_ret
    exact ⟨rfl,rfl⟩
  ·have hd:decide ((k:Int)<(ls.length:Int))=false:=by simp;omega
   have hkl:k=ls.length:=by omega
   have hr:R=true:=HR.out.symm.trans (Xj (fun i hi=>HA.out i (by omega)))
   subst hr
   go_wp2
   go_ret
   exact ⟨rfl,rfl⟩
end Go.Proofs.YtanebhbfekcplaaGreat

namespace Go.Proofs.YtanebhbfekcplaaGreat
set_option linter.unusedVariables false
open Go.RowKit
theorem QD (a b:Int) (m:Nat→Int) (n:Nat):qF a b (Z9 m n)=true↔∀k,k<n→a≤m k∧m k≤b:=by
 constructor
 ·intro h k hk;exact Yj h k hk
 ·intro h
  refine List.all_eq_true.2 fun x hx=>?_
  obtain ⟨k,hk,rfl⟩:=List.mem_map.1 hx
  exact decide_eq_true (h k (List.mem_range.1 hk))
def zr (n:zw):Bool:=zl n.phase && decide (1≤n.white∧n.white≤65535) && decide ((n.spots.length:Int)≤64) && jM 64 64 n.spots && JK n.matrix && jD n.amount
theorem q2B (n:zw):jW n=if zr n=true∧qF 0 (n.white-1) (Z9 n.black 4)=true∧qF 0 65535 (Z9 n.gains 3)=true then (if qQ n.curve=true then 0 else 1) else 3:=by
 unfold jW zr Qo QQ QP jC Qr
 congr 1
 simp only[Bool.and_eq_true]
 apply propext
 constructor
 ·rintro ⟨⟨⟨⟨h1,h2,h3⟩,h4⟩,h5,h6⟩,h7,h8⟩
  exact ⟨⟨⟨⟨⟨⟨h1,h2⟩,h7⟩,h8⟩,h5⟩,h6⟩,h3,h4⟩
 ·rintro ⟨⟨⟨⟨⟨⟨h1,h2⟩,h7⟩,h8⟩,h5⟩,h6⟩,h3,h4⟩
  exact ⟨⟨⟨⟨h1,h2,h3⟩,h4⟩,h5,h6⟩,h7,h8⟩
set_option maxRecDepth 100000 in
set_option maxHeartbeats 3200000 in
theorem YC (n:zw) (sv cv:Value) (w:World) (hp:jY w n sv cv) :
  Calls Tryz.prog 57 #[.agg (qZ n sv cv)] w fun e w'=>e=.returned (.int .i64 (jW n))∧Below w.heap.size w w':=by
 have HP:=q7 hp
 obtain ⟨⟨lo,lc,rfl,hll,_⟩,⟨ko,kc,rfl,hkl,_⟩⟩:=hp
 have a1:=al1 w (Obj.cells (qZ n (.slice lo n.spots.length lc) (.slice ko n.curve.length kc)) 30)
 have HB:=q7 (qa w (Obj.cells (qZ n (.slice lo n.spots.length lc) (.slice ko n.curve.length kc)) 30))
 have HE:=q7 (q2B n)
 obtain ⟨E,hE⟩:∃E,jW n=E:=⟨_,rfl⟩
 rw[hE] at HE ⊢
 clear hE
 have HFO:=q7 (show zr n=(zl n.phase && decide (1≤n.white∧n.white≤65535) && decide ((n.spots.length:Int)≤64) && jM 64 64 n.spots && JK n.matrix && jD n.amount) from rfl)
 have hph:decide (0≤n.phase∧n.phase≤3)=zl n.phase:=rfl
 have ham:decide (0≤n.amount∧n.amount≤1024)=jD n.amount:=rfl
 have HPH:=q7 hph
 have HAM:=q7 ham
 clear hph ham
 go_enter Tryz.func57,Tryz.ntmps57
 go_upto_region 1 with fail
 have hl1:=(Array.getElem?_eq_some_iff.1 a1).1
 generalize w.alloc (Obj.cells (qZ n (.slice lo n.spots.length lc) (.slice ko n.curve.length kc)) 30)=U at *
 have HCL:=q7 (fun (v:World) (h:Below U.heap.size U v)=>qN ((h.block _ hl1).trans a1))
 go_cut [38] from 5 (fun s v=>s=.bool (!zr n)∧Below U.heap.size U v)
 case first =>
  obtain ⟨c0,c1,c2,c3,c4,c5,c6,c7,c8,c9,c10,c11,c12,c13,c14,c15,c16,c17,c18,c19,c20⟩:=HCL.out U (Below.refl _ _)
  cases p1:zl n.phase
  ·have HS0:=q7 (show true=!zr n by rw[HFO.out,p1];rfl)
   go_wp2_with (go_at_call 55;refine (qe _ _ _ _).mono ?_;rintro e wx ⟨rfl,rfl⟩;rw[HPH.out,p1])
   go_meet
   case rel=>exact ⟨by rw[HS0.out],Below.refl _ _⟩
  ·cases p2:decide (1≤n.white∧n.white≤65535)
   ·have HS0:=q7 (show true=!zr n by rw[HFO.out,p1,p2];rfl)
    go_wp2_with (go_at_call 55;refine (qe _ _ _ _).mono ?_;rintro e wx ⟨rfl,rfl⟩;first|rw[HPH.out,p1]|rw[p2])
    go_meet
    case rel=>exact ⟨by rw[HS0.out],Below.refl _ _⟩
   ·by_cases p3:(n.spots.length:Int)≤64
    ·have hd:decide (64<(n.spots.length:Int))=false:=by simp;omega
     have hd3:decide ((n.spots.length:Int)≤64)=true:=by simpa using p3
     cases p4:jM 64 64 n.spots
     ·have HS0:=q7 (show true=!zr n by rw[HFO.out,p1,p2,hd3,p4];rfl)
      go_wp2_with (first|(go_at_call 55;refine (qe _ _ _ _).mono ?_;rintro e wx ⟨rfl,rfl⟩;first|rw[HPH.out,p1]|rw[p2])|(go_at_call 58;refine (QZ _ n.spots 64 64 (by omega) (by omega) _ (HP.out.spots.below HB.out (Nat.le_refl _))).mono ?_;rintro e wx ⟨rfl,rfl⟩;rw[p4]))
      go_meet
      case rel=>exact ⟨by rw[HS0.out],Below.refl _ _⟩
     ·go_wp2_with (first|(go_at_call 55;refine (qe _ _ _ _).mono ?_;rintro e wx ⟨rfl,rfl⟩;first|rw[HPH.out,p1]|rw[p2])|(go_at_call 58;refine (QZ _ n.spots 64 64 (by omega) (by omega) _ (HP.out.spots.below HB.out (Nat.le_refl _))).mono ?_;rintro e wx ⟨rfl,rfl⟩;rw[p4]))
      refine (KP n.matrix _).mono ?_
      rintro e V1 ⟨rfl,hb1⟩
      clear c0 c1 c2 c3 c4 c5 c6 c7 c8 c9 c10 c11 c12 c13 c14 c15 c16 c17 c18 c19 c20
      cases p5:JK n.matrix
      ·have HS0:=q7 (show true=!zr n by rw[HFO.out,p1,p2,hd3,p4,p5];rfl)
       go_wp2
       go_meet
       case rel=>exact ⟨by rw[HS0.out],hb1⟩
      ·obtain ⟨c0,c1,c2,c3,c4,c5,c6,c7,c8,c9,c10,c11,c12,c13,c14,c15,c16,c17,c18,c19,c20⟩:=HCL.out V1 hb1
       have HS0:=q7 (show (!jD n.amount)=!zr n by rw[HFO.out,p1,p2,hd3,p4,p5];rfl)
       go_wp2_with (go_at_call 55;refine (qe _ _ _ _).mono ?_;rintro e wx ⟨rfl,rfl⟩;rw[HAM.out])
       go_meet
       case rel=>exact ⟨by rw[HS0.out],hb1⟩
    ·have hd:decide (64<(n.spots.length:Int))=true:=by simp;omega
     have hd3:decide ((n.spots.length:Int)≤64)=false:=by simpa using p3
     have HS0:=q7 (show true=!zr n by rw[HFO.out,p1,p2,hd3];rfl)
     go_wp2_with (go_at_call 55;refine (qe _ _ _ _).mono ?_;rintro e wx ⟨rfl,rfl⟩;first|rw[HPH.out,p1]|rw[p2])
     go_meet
     case rel=>exact ⟨by rw[HS0.out],Below.refl _ _⟩
 case rest =>
  obtain ⟨rfl,hbc⟩:=hcut
  have HBC:=q7 (HB.out.trans (hbc.mono HB.out.size))
  cases pf:zr n
  ·have he:E=3:=by rw[HE.out,if_neg (fun h=>by rw[pf] at h;cases h.1)]
   subst he
   go_wp2
   go_ret
   exact ⟨rfl,HBC.out⟩
  ·have hwh:1≤n.white∧n.white≤65535:=by
    rw[HFO.out] at pf
    simp only[Bool.and_eq_true,decide_eq_true_eq] at pf
    exact pf.1.1.1.1.2
   obtain ⟨hw1,hw2⟩:=hwh
   have HE2:=q7 (show E=if qF 0 (n.white-1) (Z9 n.black 4)=true∧qF 0 65535 (Z9 n.gains 3)=true then (if qQ n.curve=true then 0 else 1) else 3 by rw[HE.out,pf];simp only[true_and])
   clear pf HE HFO
   go_wp2_with fail
   go_loopw [3] (fun i wr=>∃k:Nat,k≤4∧i=.int .i64 k∧Below U.heap.size U wr∧Hid (∀j,j<k→0≤n.black j∧n.black j≤n.white-1)) (fun i _=>4-(intOf i).toNat)
   case atStart=>exact ⟨0,by omega,rfl,hbc,q7 (fun j hj=>by omega)⟩
   case round =>
    clear hbc HBC
    obtain ⟨k,hk,rfl,hbr,HA⟩:=hrel
    by_cases hlt:k<4
    ·have hd:decide ((k:Int)<4)=true:=by simp;omega
     have HCK:=q7 (show ∀v,Below U.heap.size U v→v.cell? ⟨w.heap.size,1+k,none⟩=some (.int .i64 (n.black k)) from fun v h=>by
      rw[Lib.cell_of_heap ((h.block _ hl1).trans a1)]
      rcases (show k=0∨k=1∨k=2∨k=3 by omega) with rfl|rfl|rfl|rfl<;>rfl)
     obtain ⟨bl,hbl⟩:∃bl,n.black k=bl:=⟨_,rfl⟩
     have HBL:=q7 hbl
     rw[hbl] at HCK
     clear hbl
     have hkI:(k:Int)<4:=by omega
     have hww:IntKind.i64.wrap (n.white-1)=n.white-1:=IntWalk.i64_in _ (by omega)
     have HS:=q7 (show ∀v,Below U.heap.size U v→v.cell? ⟨w.heap.size,1+k,none⟩=some (.int .i64 bl)∧v.cell? ⟨w.heap.size,5,none⟩=some (.int .i64 n.white) from fun v h=>⟨HCK.out v h,(HCL.out v h).2.2.2.2.2.1⟩)
     have hWd:Below U.heap.size U wr.drew:=hbr.drew
     have hSd:=HS.out _ hWd
     obtain ⟨B,hB⟩:∃B,decide (0≤bl∧bl≤n.white-1)=B:=⟨_,rfl⟩
     have HBB:=q7 hB
     clear hB
     go_wp2_with fail
     have hmx:Tryz.prog.follows .mixedOrders=true:=by kernel_rfl
     refine qK (S:=fun v:World=>v.cell? ⟨w.heap.size,1+k,none⟩=some (.int .i64 bl)∧v.cell? ⟨w.heap.size,5,none⟩=some (.int .i64 n.white)) (f:=8) hmx ?_
     show j7 _ _ _ _ _ _ 9 _ _ wr.drew
     refine jq (i:=0) (oi:=_) (v:=?vv1) (some 43) rfl rfl (by kernel_rfl) (by kernel_rfl) (by kernel_rfl) (by kernel_rfl) (by kernel_rfl) (fun _ _ _ h=>h) (Or.inl ⟨by rfl,?yy1⟩) hSd ?rr1
     case yy1=>(intro wq hSq;obtain ⟨_,_⟩:=hSq;go_simp<;>with_reducible rfl)
     simp only[Act.put,List.setIfInBounds_toArray,List.set_cons_succ,List.set_cons_zero]
     refine jq (i:=1) (oi:=_) (v:=?vv2) (some 44) rfl rfl (by kernel_rfl) (by kernel_rfl) (by kernel_rfl) (by kernel_rfl) (by kernel_rfl) (fun _ _ _ h=>h) (Or.inl ⟨by rfl,?yy2⟩) hSd ?rr2
     case yy2=>(intro wq hSq;obtain ⟨_,_⟩:=hSq;go_simp<;>with_reducible rfl)
     simp only[Act.put,List.setIfInBounds_toArray,List.set_cons_succ,List.set_cons_zero]
     refine jq (i:=4) (oi:=_) (v:=?vv3) (some 47) rfl rfl (by kernel_rfl) (by kernel_rfl) (by kernel_rfl) (by kernel_rfl) (by kernel_rfl) (fun _ _ _ h=>h) (Or.inl ⟨by rfl,?yy3⟩) hSd ?rr3
     case yy3=>(intro wq hSq;obtain ⟨_,_⟩:=hSq;go_simp<;>with_reducible rfl)
     simp only[Act.put,List.setIfInBounds_toArray,List.set_cons_succ,List.set_cons_zero]
     refine jq (i:=2) (oi:=_) (v:=?vv4) (some 45) rfl rfl (by kernel_rfl) (by kernel_rfl) (by kernel_rfl) (by kernel_rfl) (by kernel_rfl) (fun _ _ _ h=>h) (Or.inl ⟨by rfl,?yy4⟩) hSd ?rr4
     case yy4=>(intro wq hSq;obtain ⟨_,_⟩:=hSq;go_simp<;>with_reducible rfl)
     simp only[Act.put,List.setIfInBounds_toArray,List.set_cons_succ,List.set_cons_zero]
     refine jq (i:=5) (oi:=_) (v:=?vv5) (some 48) rfl rfl (by kernel_rfl) (by kernel_rfl) (by kernel_rfl) (by kernel_rfl) (by kernel_rfl) (fun _ _ _ h=>h) (Or.inl ⟨by rfl,?yy5⟩) hSd ?rr5
     case yy5=>(intro wq hSq;obtain ⟨_,_⟩:=hSq;go_simp<;>with_reducible rfl)
     simp only[Act.put,List.setIfInBounds_toArray,List.set_cons_succ,List.set_cons_zero]
     refine jq (i:=3) (oi:=_) (v:=?vv6) (some 46) rfl rfl (by kernel_rfl) (by kernel_rfl) (by kernel_rfl) (by kernel_rfl) (by kernel_rfl) (fun _ _ _ h=>h) (Or.inl ⟨by rfl,?yy6⟩) hSd ?rr6
     case yy6=>(intro wq hSq;obtain ⟨_,_⟩:=hSq;go_simp<;>with_reducible rfl)
     simp only[Act.put,List.setIfInBounds_toArray,List.set_cons_succ,List.set_cons_zero]
     refine jq (i:=6) (oi:=_) (v:=?vv7) (some 49) rfl rfl (by kernel_rfl) (by kernel_rfl) (by kernel_rfl) (by kernel_rfl) (by kernel_rfl) (fun _ _ _ h=>h) (Or.inl ⟨by rfl,?yy7⟩) hSd ?rr7
     case yy7=>(intro wq hSq;obtain ⟨_,_⟩:=hSq;go_simp<;>with_reducible rfl)
     simp only[Act.put,List.setIfInBounds_toArray,List.set_cons_succ,List.set_cons_zero]
     refine qm (i:=7) (o:=_) (by kernel_rfl) rfl (fun K' hK=>?_)
     rw[if_pos (by rfl)]
     go_simp
     refine (qe _ _ _ _).mono ?_
     rintro e Vx ⟨rfl,rfl⟩
     rw[HBB.out]
     have hSd:=hSd
     refine hK.out _ _ hSd ?_
     clear hK
     try simp only[Act.put]
     refine qV (o:=_) (by kernel_rfl) rfl (fun K' hK=>?_)
     rw[if_pos (by rfl)]
     go_simp
     refine hK.out _ _ ?_
     clear hK
     refine qU (by kernel_rfl) ?_ _
     try simp only[Act.put]
     cases B
     ·have he:E=3:=by
       rw[HE2.out,if_neg]
       intro h
       have h2:=(QD _ _ _ _).1 h.1 k hlt
       rw[HBL.out] at h2
       exact of_decide_eq_false HBB.out h2
      subst he
      go_wp2
      go_ret
      exact ⟨rfl,HB.out.trans (hWd.mono HB.out.size)⟩
     ·have HN:=q7 (show ∀j,j<k+1→0≤n.black j∧n.black j≤n.white-1 from fun j hj=>by
       rcases Nat.lt_succ_iff_lt_or_eq.1 hj with h|rfl
       ·exact HA.out j h
       ·rw[HBL.out];exact of_decide_eq_true HBB.out)
      go_wp2
      go_roundw
      case rel=>(repeat apply Exists.intro);exact ⟨⟨k+1,by omega,by go_num,hWd,HN⟩,rfl⟩
      case measure=>simp[intOf];omega
    ·have hd:decide ((k:Int)<4)=false:=by simp;omega
     obtain rfl:k=4:=by omega
     have HE3:=q7 (show E=if qF 0 65535 (Z9 n.gains 3)=true then (if qQ n.curve=true then 0 else 1) else 3 by rw[HE2.out,(QD _ _ _ _).2 HA.out];simp only[true_and])
     clear HA HE2
     go_wp2_with fail
     go_loopw [4] (fun i wv=>∃k:Nat,k≤3∧i=.int .i64 k∧Below U.heap.size U wv∧Hid (∀j,j<k→0≤n.gains j∧n.gains j≤65535)) (fun i _=>3-(intOf i).toNat)
     case atStart=>exact ⟨0,by omega,rfl,hbr,q7 (fun j hj=>by omega)⟩
     case round =>
      clear hbr hd
      obtain ⟨k,hk,rfl,hbr,HA⟩:=hrel
      by_cases hlt:k<3
      ·have hd:decide ((k:Int)<3)=true:=by simp;omega
       have hck:wr.cell? ⟨w.heap.size,7+k,none⟩=some (.int .i64 (n.gains k)):=by
        rw[Lib.cell_of_heap ((hbr.block _ hl1).trans a1)]
        rcases (show k=0∨k=1∨k=2 by omega) with rfl|rfl|rfl<;>rfl
       obtain ⟨bl,hbl⟩:∃bl,n.gains k=bl:=⟨_,rfl⟩
       have HBL:=q7 hbl
       rw[hbl] at hck
       clear hbl
       have hkI:(k:Int)<3:=by omega
       cases hB:decide (0≤bl∧bl≤65535)
       ·have he:E=3:=by
         rw[HE3.out,if_neg]
         intro h
         have h2:=(QD _ _ _ _).1 h k hlt
         rw[HBL.out] at h2
         exact of_decide_eq_false hB h2
        subst he
        have HBF:=q7 (HB.out.trans (hbr.mono HB.out.size))
        go_wp2_with (go_at_call 55;refine (qe _ _ _ _).mono ?_;rintro e wx ⟨rfl,rfl⟩;rw[hB])
        go_ret
        exact ⟨rfl,HBF.out⟩
       ·have HN:=q7 (show ∀j,j<k+1→0≤n.gains j∧n.gains j≤65535 from fun j hj=>by
         rcases Nat.lt_succ_iff_lt_or_eq.1 hj with h|rfl
         ·exact HA.out j h
         ·rw[HBL.out];exact of_decide_eq_true hB)
        go_wp2_with (go_at_call 55;refine (qe _ _ _ _).mono ?_;rintro e wx ⟨rfl,rfl⟩;rw[hB])
        go_roundw
        case rel=>(repeat apply Exists.intro);exact ⟨⟨k+1,by omega,by go_num,hbr,HN⟩,rfl⟩
        case measure=>simp[intOf];omega
      ·have hd:decide ((k:Int)<3)=false:=by simp;omega
       obtain rfl:k=3:=by omega
       have HE4:=q7 (show E=if qQ n.curve=true then 0 else 1 by rw[HE3.out,(QD _ _ _ _).2 HA.out];simp)
       clear HA HE3
       have HBF:=q7 (HB.out.trans (hbr.mono HB.out.size))
       obtain ⟨c0,c1,c2,c3,c4,c5,c6,c7,c8,c9,c10,c11,c12,c13,c14,c15,c16,c17,c18,c19,c20⟩:=HCL.out _ hbr
       go_wp2_with fail
       clear c0 c1 c2 c3 c4 c5 c6 c7 c8 c9 c10 c11 c12 c13 c14 c15 c16 c17 c18 c19 c20
       refine (XX _ n.curve _ (HP.out.curve.below HBF.out (Nat.le_refl _))).mono ?_
       rintro e V2 ⟨rfl,hb2⟩
       cases hcv:qQ n.curve
       ·have he:E=1:=by rw[HE4.out,hcv];rfl
        subst he
        go_wp2
        go_ret
        exact ⟨rfl,q8 HBF.out hb2⟩
       ·have he:E=0:=by rw[HE4.out,hcv];rfl
        subst he
        go_wp2
        go_ret
        exact ⟨rfl,q8 HBF.out hb2⟩
end Go.Proofs.YtanebhbfekcplaaGreat

namespace Go.Proofs.YtanebhbfekcplaaGreat
set_option linter.unusedVariables false
open Go.RowKit
theorem q07 (r:qH):Qp r=(decide (1≤r.w∧r.w≤64) && decide (1≤r.h∧r.h≤64) && decide (1≤r.depth∧r.depth≤16) && decide (1≤r.rows∧r.rows≤r.h)):=rfl
set_option maxRecDepth 100000 in
set_option maxHeartbeats 1600000 in
theorem Y9 (r:qH) (lv tv sv cv:Value) (w:World) (hl:qd w lv r.lens) :
  Calls Tryz.prog 24 #[.agg (qs r lv tv sv cv)] w fun e w'=>e=.returned (.int .i64 (jA r))∧Below w.heap.size w w':=by
 have HL:=q7 hl
 obtain ⟨ao,ca,rfl,_,_⟩:=hl
 have a1:=al1 w (Obj.cells (qs r (.slice ao r.lens.length ca) tv sv cv) 32)
 have HB:=q7 (qa w (Obj.cells (qs r (.slice ao r.lens.length ca) tv sv cv) 32))
 have HE:=q7 (show jA r=if Qp r=true then (if 0≤r.kind∧r.kind≤7 then JA r else 6) else 3 from rfl)
 have HG:=q7 (q07 r)
 have HK:=q7 (show JA r=if r.kind=0 then (if r.lens.length=0 then 0 else 1) else ql r.lens from rfl)
 generalize jA r=E at *
 obtain ⟨s0,s1,s2,s3,s4,s5,s6,s13,s26⟩:=qv a1
 have HW1:=q7 (fun u=>qe r.w 1 64 u)
 have HW2:=q7 (fun u=>qe r.h 1 64 u)
 have HW3:=q7 (fun u=>qe r.depth 1 16 u)
 have HW4:=q7 (fun u=>qe r.rows 1 r.h u)
 have HW5:=q7 (fun u=>qe r.kind 0 7 u)
 have HL4:=q7 (HL.out.below HB.out (Nat.le_refl _))
 go_enter Tryz.func24,Tryz.ntmps24
 go_wp2_with fail
 clear a1
 generalize w.alloc (Obj.cells (qs r (.slice ao r.lens.length ca) tv sv cv) 32)=U at *
 refine (HW1.out _).mono ?_
 rintro e w1 ⟨rfl,rfl⟩
 by_cases q1:1≤r.w∧r.w≤64
 rotate_left
 ·have he:E=3:=by rw[HE.out,HG.out,decide_eq_false q1];rfl
  rw[decide_eq_false q1]
  subst he
  go_wp2
  go_ret
  exact ⟨rfl,HB.out⟩
 rw[decide_eq_true q1]
 go_wp2_with fail
 refine (HW2.out _).mono ?_
 rintro e w1 ⟨rfl,rfl⟩
 by_cases q2:1≤r.h∧r.h≤64
 rotate_left
 ·have he:E=3:=by rw[HE.out,HG.out,decide_eq_true q1,decide_eq_false q2];rfl
  rw[decide_eq_false q2]
  subst he
  go_wp2
  go_ret
  exact ⟨rfl,HB.out⟩
 rw[decide_eq_true q2]
 go_wp2_with fail
 refine (HW3.out _).mono ?_
 rintro e w1 ⟨rfl,rfl⟩
 by_cases q3:1≤r.depth∧r.depth≤16
 rotate_left
 ·have he:E=3:=by rw[HE.out,HG.out,decide_eq_true q1,decide_eq_true q2,decide_eq_false q3];rfl
  rw[decide_eq_false q3]
  subst he
  go_wp2
  go_ret
  exact ⟨rfl,HB.out⟩
 rw[decide_eq_true q3]
 go_wp2_with fail
 refine (HW4.out _).mono ?_
 rintro e w1 ⟨rfl,rfl⟩
 by_cases q4:1≤r.rows∧r.rows≤r.h
 rotate_left
 ·have he:E=3:=by rw[HE.out,HG.out,decide_eq_true q1,decide_eq_true q2,decide_eq_true q3,decide_eq_false q4];rfl
  rw[decide_eq_false q4]
  subst he
  go_wp2
  go_ret
  exact ⟨rfl,HB.out⟩
 rw[decide_eq_true q4]
 have HE':=q7 (show E=if 0≤r.kind∧r.kind≤7 then JA r else 6 by rw[HE.out,HG.out,decide_eq_true q1,decide_eq_true q2,decide_eq_true q3,decide_eq_true q4];rfl)
 clear HE HG q1 q2 q3 q4 HW1 HW2 HW3 HW4
 go_wp2_with fail
 refine (HW5.out _).mono ?_
 rintro e w1 ⟨rfl,rfl⟩
 by_cases q5:0≤r.kind∧r.kind≤7
 rotate_left
 ·have he:E=6:=by rw[HE'.out,if_neg q5]
  rw[decide_eq_false q5]
  subst he
  go_wp2
  go_ret
  exact ⟨rfl,HB.out⟩
 rw[decide_eq_true q5]
 have HE2:=q7 (show E=if r.kind=0 then (if r.lens.length=0 then 0 else 1) else ql r.lens by rw[HE'.out,if_pos q5];exact HK.out)
 clear HE' HK HW5
 by_cases hk:r.kind=0
 ·have hk':(r.kind == 0)=true:=by simpa using hk
  have hk2:decide (0<r.kind)=false:=decide_eq_false (by omega)
  rw[if_pos hk] at HE2
  by_cases hn:r.lens.length=0
  ·have he:E=0:=by rw[HE2.out,if_pos hn]
   have hn':decide (0<(r.lens.length:Int))=false:=decide_eq_false (by omega)
   subst he
   go_wp2
   go_ret
   exact ⟨rfl,HB.out⟩
  ·have he:E=1:=by rw[HE2.out,if_neg hn]
   have hn':decide (0<(r.lens.length:Int))=true:=decide_eq_true (by omega)
   subst he
   go_wp2
   go_ret
   exact ⟨rfl,HB.out⟩
 ·have hk':(r.kind == 0)=false:=by simpa using hk
  have hk2:decide (0<r.kind)=true:=decide_eq_true (by omega)
  rw[if_neg hk] at HE2
  go_wp2_with fail
  refine (zW _ r.lens _ HL4.out).mono ?_
  rintro e w1 ⟨rfl,rfl⟩
  go_wp2
  go_ret
  exact ⟨qt HE2.out.symm,HB.out⟩
set_option maxRecDepth 100000 in
set_option maxHeartbeats 1600000 in
theorem Yk (r:qH) (lv tv sv cv:Value) (w:World) (hh:zy r) (hp:jY w r.plan sv cv) :
  Calls Tryz.prog 26 #[.agg (qs r lv tv sv cv)] w fun e w'=>e=.returned (.int .i64 (Qv r))∧Below w.heap.size w w':=by
 have HP:=q7 hp
 obtain ⟨⟨lo,lc,rfl,hll,_⟩,⟨ko,kc,rfl,hkl,_⟩⟩:=hp
 have a1:=al1 w (Obj.cells (qs r lv tv (.slice lo r.plan.spots.length lc) (.slice ko r.plan.curve.length kc)) 32)
 have HB:=q7 (qa w (Obj.cells (qs r lv tv (.slice lo r.plan.spots.length lc) (.slice ko r.plan.curve.length kc)) 32))
 have hlt:=(Array.getElem?_eq_some_iff.1 a1).1
 have HE:=q7 (show Qv r=if jW r.plan=0 then (if jM r.w r.h r.plan.spots=true then 0 else 3) else jW r.plan from rfl)
 generalize Qv r=E at *
 have HT:=q7 (Ju a1)
 have HHD:=q7 hh
 have HCK:=q7 (fun (u:World) (hu:Below w.heap.size w u)=>YC r.plan _ _ u (HP.out.below hu (Nat.le_refl _)))
 clear hh
 go_enter Tryz.func26,Tryz.ntmps26
 go_wp2_with (refine zJ rfl 30 _ rfl _ 7 rfl (qZ r.plan (.slice lo r.plan.spots.length lc) (.slice ko r.plan.curve.length kc)) _ HT.out Tryz.underlying30 rfl (by kernel_rfl) ?_)
 generalize w.alloc (Obj.cells (qs r lv tv (.slice lo r.plan.spots.length lc) (.slice ko r.plan.curve.length kc)) 32)=U at *
 refine (HCK.out _ HB.out).mono ?_
 rintro e V1 ⟨rfl,hb1⟩
 have HB1:=q7 (q8 HB.out hb1)
 by_cases hF:jW r.plan=0
 ·rw[if_pos hF] at HE
  rw[hF]
  obtain ⟨s0,s1,s2,s3,s4,s5,s6,s13,s26⟩:=qv ((hb1.block _ hlt).trans a1)
  go_wp2_with fail
  clear s0 s1 s2 s3 s4 s5 s6 s13 s26
  refine (QZ _ r.plan.spots r.w r.h HHD.out.w HHD.out.h _ (HP.out.spots.below HB1.out (Nat.le_refl _))).mono ?_
  rintro e V3 ⟨rfl,rfl⟩
  cases hs:jM r.w r.h r.plan.spots
  ·have he:E=3:=by rw[HE.out,hs];rfl
   subst he
   go_wp2
   go_ret
   exact ⟨rfl,HB1.out⟩
  ·have he:E=0:=by rw[HE.out,hs];rfl
   subst he
   go_wp2
   go_ret
   exact ⟨rfl,HB1.out⟩
 ·rw[if_neg hF] at HE
  have hn:(jW r.plan != 0)=true:=by simpa using hF
  have he:E=jW r.plan:=HE.out
  subst he
  go_wp2
  go_ret
  exact ⟨rfl,HB1.out⟩
set_option maxRecDepth 100000 in
set_option maxHeartbeats 800000 in
theorem q04 (r:qH) (lv tv sv cv:Value) (w:World) (h:zy r) :
  Calls Tryz.prog 25 #[.agg (qs r lv tv sv cv)] w fun e w'=>e=.returned (.int .i64 (jG r))∧Below w.heap.size w w':=by
 have hb:=h.rows
 have hc:=h.h
 obtain ⟨X,hX⟩:∃X:Int,r.h+r.rows-1=X:=⟨_,rfl⟩
 have hp:=h.cnt_int
 rw[hX] at hp
 have hx:0≤X:=by omega
 have hn:¬r.rows=0:=by omega
 have a1:=al1 w (Obj.cells (qs r lv tv sv cv) 32)
 have HB:=q7 (qa w (Obj.cells (qs r lv tv sv cv) 32))
 have t1:IntKind.i64.wrap (r.h+r.rows)=r.h+r.rows:=IntWalk.i64_in _ (by omega)
 have t2:IntKind.i64.wrap (r.h+r.rows-1)=X:=by rw[←hX];exact IntWalk.i64_in _ (by omega)
 have hq:X.tdiv r.rows=(jG r:Int):=by rw[hp];exact Int.tdiv_eq_ediv_of_nonneg hx
 have hle:=h.cnt_le
 have t3:IntKind.i64.wrap (X.tdiv r.rows)=(jG r:Int):=by rw[hq];exact IntWalk.i64_in _ (by omega)
 have HC:=q7 hp.symm
 clear hp
 generalize jG r=C at *
 obtain ⟨s0,s1,s2,s3,s4,s5,s6,s13,s26⟩:=qv a1
 go_enter Tryz.func25,Tryz.ntmps25
 go_wp2
 go_ret
 exact ⟨qt (by first|rfl|exact HC.out),HB.out⟩
set_option maxRecDepth 100000 in
set_option maxHeartbeats 800000 in
theorem KZ (r:qH) (lv tv sv cv:Value) (i:Nat) (w:World) (h:zy r) (hi:i<jG r) :
  Calls Tryz.prog 38 #[.agg (qs r lv tv sv cv),.int .i64 i] w fun e w'=>e=.returned (.int .i64 (jj r i))∧Below w.heap.size w w':=by
 have hb:=h.rows
 have hc:=h.h
 have hlt:=(h.cnt_pos i).1 hi
 have hle:=h.cnt_le
 have a1:=al1 w (Obj.cells (qs r lv tv sv cv) 32)
 have HB:=q7 (qa w (Obj.cells (qs r lv tv sv cv) 32))
 have h0:0≤(i:Int)*r.rows:=Int.mul_nonneg (by omega) (by omega)
 have t1:wrap64 ((i:Int)*r.rows)=i*r.rows:=IntWalk.wrap64_in _ (by omega)
 have t2:wrap64 (r.h-(i:Int)*r.rows)=r.h-i*r.rows:=IntWalk.wrap64_in _ (by omega)
 have HR:=q7 (show min r.rows (wrap64 (r.h-wrap64 ((i:Int)*r.rows)))=jj r i by rw[t1,t2];rfl)
 have HR2:=q7 (show min r.rows (r.h-(i:Int)*r.rows)=jj r i from rfl)
 clear t1 t2
 generalize jj r i=R at *
 obtain ⟨s0,s1,s2,s3,s4,s5,s6,s13,s26⟩:=qv a1
 go_enter Tryz.func38,Tryz.ntmps38
 go_wp2
 go_ret
 exact ⟨qt (by first|exact HR.out|exact HR2.out),HB.out⟩
end Go.Proofs.YtanebhbfekcplaaGreat

namespace Go.Proofs.YtanebhbfekcplaaGreat
set_option linter.unusedVariables false
open Go.RowKit
theorem Ka (W:World) (xs:Array Value) (i:Nat) (z:Int) (h:xs[i]?=some (.int .i64 z)):(part 3 xs i).run Tryz.prog W=.ok (.int .i64 z) W:=by
 have ha:=Tryz.isAgg3 W
 simp[part,Sem.run_bind,ha,h,go_sem]
theorem Yt {N:Nat} {t:TypeId} (ht:Tryz.prog.underlying t=some (.array N 3)) (xs:Array Value) (f:Nat→Int) (hx:∀i,i<N→xs[i]?=some (.int .i64 (f i))) (d:Nat) (W:World) :
  (Op.equalIn (d+2) t (.agg xs) (.agg xs)).run Tryz.prog W=.ok true W:=by
 have hs:=Tryz.sizeOf3
 unfold Op.equalIn
 simp only[Sem.run_bind,run_underlying ht,Result.andThen_ok,hs]
 have hm:∀i∈List.range' 0 N,i<N:=fun i hi=>by simp at hi;exact hi
 simp only[Std.Legacy.Range.forIn_eq_forIn_range',Std.Legacy.Range.size,Nat.sub_zero,Nat.add_one_sub_one,Nat.div_one]
 generalize List.range' 0 N=is at hm ⊢
 induction is with
 | nil=>rfl
 | cons i is ih =>
  have hp:=Ka W xs (i*1) (f i) (by rw[Nat.mul_one];exact hx i (hm i (by simp)))
  have he:=run_equalIn_int (P:=Tryz.prog) W d 3 .i64 .i64 (f i) (f i) Tryz.underlying3
  simp only[List.forIn_cons,Sem.run_bind,hp,he,Result.andThen_ok]
  simpa using ih (fun j hj=>hm j (by simp[hj]))
end Go.Proofs.YtanebhbfekcplaaGreat

namespace Go.Proofs.YtanebhbfekcplaaGreat
set_option linter.unusedVariables false
open Go.RowKit
set_option maxRecDepth 100000 in
set_option maxHeartbeats 3200000 in
theorem Xd (n:zw) (sv cv su cu:Value) (w:World) (h1:jY w n sv cv) (h2:jY w n su cu) :
  Calls Tryz.prog 41 #[.agg (qZ n sv cv),.agg (qZ n su cu)] w fun e w'=>e=.returned (.bool true)∧Below w.heap.size w w':=by
 have H1:=q7 h1
 have H2:=q7 h2
 obtain ⟨⟨lo,lc,rfl,hll,_⟩,⟨ko,kc,rfl,hkl,_⟩⟩:=h1
 obtain ⟨⟨mo,mc,rfl,_,_⟩,⟨po,pc,rfl,_,_⟩⟩:=h2
 obtain ⟨a1,a2⟩:=al2 w (Obj.cells (qZ n (.slice lo n.spots.length lc) (.slice ko n.curve.length kc)) 30) (Obj.cells (qZ n (.slice mo n.spots.length mc) (.slice po n.curve.length pc)) 30)
 have HB:=q7 (be2 w (Obj.cells (qZ n (.slice lo n.spots.length lc) (.slice ko n.curve.length kc)) 30) (Obj.cells (qZ n (.slice mo n.spots.length mc) (.slice po n.curve.length pc)) 30))
 obtain ⟨c0,c1,c2,c3,c4,c5,c6,c7,c8,c9,c10,c11,c12,c13,c14,c15,c16,c17,c18,c19,c20⟩:=qN a1
 obtain ⟨d0,d1,d2,d3,d4,d5,d6,d7,d8,d9,d10,d11,d12,d13,d14,d15,d16,d17,d18,d19,d20⟩:=qN a2
 have e4:∀W,(Op.equalIn 10000 24 (.agg #[.int .i64 (n.black 0),.int .i64 (n.black 1),.int .i64 (n.black 2),.int .i64 (n.black 3)]) (.agg #[.int .i64 (n.black 0),.int .i64 (n.black 1),.int .i64 (n.black 2),.int .i64 (n.black 3)])).run Tryz.prog W=.ok true W:=fun W=>Yt (N:=4) Tryz.underlying24 _ n.black (fun i hi=>by rcases (show i=0∨i=1∨i=2∨i=3 by omega) with rfl|rfl|rfl|rfl<;>rfl) 9998 W
 have e3:∀W,(Op.equalIn 10000 26 (.agg #[.int .i64 (n.gains 0),.int .i64 (n.gains 1),.int .i64 (n.gains 2)]) (.agg #[.int .i64 (n.gains 0),.int .i64 (n.gains 1),.int .i64 (n.gains 2)])).run Tryz.prog W=.ok true W:=fun W=>Yt (N:=3) Tryz.underlying26 _ n.gains (fun i hi=>by rcases (show i=0∨i=1∨i=2 by omega) with rfl|rfl|rfl<;>rfl) 9998 W
 have e9:∀W,(Op.equalIn 10000 27 (.agg #[.int .i64 (n.matrix 0),.int .i64 (n.matrix 1),.int .i64 (n.matrix 2),.int .i64 (n.matrix 3),.int .i64 (n.matrix 4),.int .i64 (n.matrix 5),.int .i64 (n.matrix 6),.int .i64 (n.matrix 7),.int .i64 (n.matrix 8)]) (.agg #[.int .i64 (n.matrix 0),.int .i64 (n.matrix 1),.int .i64 (n.matrix 2),.int .i64 (n.matrix 3),.int .i64 (n.matrix 4),.int .i64 (n.matrix 5),.int .i64 (n.matrix 6),.int .i64 (n.matrix 7),.int .i64 (n.matrix 8)])).run Tryz.prog W=.ok true W:=fun W=>Yt (N:=9) Tryz.underlying27 _ n.matrix (fun i hi=>by rcases (show i=0∨i=1∨i=2∨i=3∨i=4∨i=5∨i=6∨i=7∨i=8 by omega) with rfl|rfl|rfl|rfl|rfl|rfl|rfl|rfl|rfl<;>rfl) 9998 W
 have hl1:=(Array.getElem?_eq_some_iff.1 a1).1
 have hl2:=(Array.getElem?_eq_some_iff.1 a2).1
 go_enter Tryz.func41,Tryz.ntmps41
 go_upto_region 3 with fail
 clear c0 c1 c2 c3 c4 c5 c6 c7 c8 c9 c10 c11 c12 c13 c14 c15 c16 c17 c18 c19 c20 d0 d1 d2 d3 d4 d5 d6 d7 d8 d9 d10 d11 d12 d13 d14 d15 d16 d17 d18 d19 d20 e4 e3 e9
 generalize (w.alloc (Obj.cells (qZ n (.slice lo n.spots.length lc) (.slice ko n.curve.length kc)) 30)).alloc (Obj.cells (qZ n (.slice mo n.spots.length mc) (.slice po n.curve.length pc)) 30)=U at *
 have HP1:=q7 (fun (V:World) (hV:Below U.heap.size U V)=>qN ((hV.block _ hl1).trans a1))
 have HP2:=q7 (fun (V:World) (hV:Below U.heap.size U V)=>qN ((hV.block _ hl2).trans a2))
 clear a1 a2 hl1 hl2
 go_wp2_with fail
 go_loopw [5] (fun i wr=>∃k:Nat,k≤n.spots.length∧i=.int .i64 k∧Below U.heap.size U wr) (fun i _=>n.spots.length-(intOf i).toNat)
 case atStart=>exact ⟨0,Nat.zero_le _,rfl,Below.refl _ _⟩
 case round =>
  obtain ⟨k,hk,rfl,hbel⟩:=hrel
  obtain ⟨c0,c1,c2,c3,c4,c5,c6,c7,c8,c9,c10,c11,c12,c13,c14,c15,c16,c17,c18,c19,c20⟩:=HP1.out wr hbel
  obtain ⟨d0,d1,d2,d3,d4,d5,d6,d7,d8,d9,d10,d11,d12,d13,d14,d15,d16,d17,d18,d19,d20⟩:=HP2.out wr hbel
  by_cases hlt:k<n.spots.length
  ·have hd:decide ((k:Int)<(n.spots.length:Int))=true:=by simp;omega
   obtain ⟨bq,oq,rfl,hbq,x0,x1⟩:=(H1.out.spots.below (q8 HB.out hbel) (Nat.le_refl _)).at k hlt
   obtain ⟨br,or',rfl,hbr,y0,y1⟩:=(H2.out.spots.below (q8 HB.out hbel) (Nat.le_refl _)).at k hlt
   obtain ⟨⟨x,y⟩,hxy⟩:∃t,qk n.spots k=t:=⟨_,rfl⟩
   rw[hxy] at x0 x1 y0 y1
   go_upto_region 6 with fail
   go_quiet (fail)
   go_wp2
   go_roundw
   case rel=>exact ⟨k+1,hlt,by go_num,below_drewN hbel _⟩
   case measure=>simp[intOf];omega
  ·have hd:decide ((k:Int)<(n.spots.length:Int))=false:=by simp;omega
   obtain rfl:k=n.spots.length:=by omega
   go_wp2_with fail
   go_loopw [6] (fun i wr=>∃k:Nat,k≤n.curve.length∧i=.int .i64 k∧Below U.heap.size U wr) (fun i _=>n.curve.length-(intOf i).toNat)
   case atStart=>exact ⟨0,Nat.zero_le _,rfl,hbel⟩
   case round =>
    obtain ⟨k,hk,rfl,hbel⟩:=hrel
    obtain ⟨c0,c1,c2,c3,c4,c5,c6,c7,c8,c9,c10,c11,c12,c13,c14,c15,c16,c17,c18,c19,c20⟩:=HP1.out wr hbel
    obtain ⟨d0,d1,d2,d3,d4,d5,d6,d7,d8,d9,d10,d11,d12,d13,d14,d15,d16,d17,d18,d19,d20⟩:=HP2.out wr hbel
    by_cases hlt:k<n.curve.length
    ·have hd:decide ((k:Int)<(n.curve.length:Int))=true:=by simp;omega
     obtain ⟨bq,oq,rfl,hbq,x0,x1⟩:=(H1.out.curve.below (q8 HB.out hbel) (Nat.le_refl _)).at k hlt
     obtain ⟨br,or',rfl,hbr,y0,y1⟩:=(H2.out.curve.below (q8 HB.out hbel) (Nat.le_refl _)).at k hlt
     obtain ⟨⟨x,y⟩,hxy⟩:∃t,qk n.curve k=t:=⟨_,rfl⟩
     rw[hxy] at x0 x1 y0 y1
     go_upto_region 11 with fail
     go_quiet (fail)
     go_wp2
     go_roundw
     case rel=>exact ⟨k+1,hlt,by go_num,below_drewN hbel _⟩
     case measure=>simp[intOf];omega
    ·have hd:decide ((k:Int)<(n.curve.length:Int))=false:=by simp;omega
     obtain rfl:k=n.curve.length:=by omega
     go_wp2
     go_ret
     exact ⟨rfl,q8 HB.out hbel⟩
end Go.Proofs.YtanebhbfekcplaaGreat

namespace Go.Proofs.YtanebhbfekcplaaGreat
set_option linter.unusedVariables false
open Go.RowKit
theorem Q7 {P:Program} {ops:Array Oper} {rest:List Oper} {o:Oper} {a:Act} {w:World} {Q:Exit→Act→World→Prop} (hw:Region.wanted o (yielded ops a.tmps)=true) (ty:TypeId) (x:Operand) (ho:o.op=.load ty x)
  (g of:Nat) (hx:a.eval x=.pointer (some ⟨g,of,none⟩)) (cs:Array Value) (d:TypeDesc) (hc:∀j v,cs.toList[j]?=some v→w.cell? ⟨g,of+j,none⟩=some v)
  (hu:P.underlying ty=some d) (hd:(match d with | .struct _ | .array _ _=>true|_=>false)=true) (hi:(P.info? ty).map (·.size)=some cs.size)
  (h:wpList P ops Q rest (a.put o.dst (.agg cs)) w):wpList P ops Q (o::rest) a w:=by
 unfold wpList
 rw[if_pos hw]
 refine .inl ?_
 unfold Oper.wp execOp
 simp only[ho,hx,Instr.loadAt,Instr.sureAddr,Sem.run_bind,Sem.run_pure,Result.andThen_ok,QL w g of ty cs d hc hu hd hi]
 exact h
set_option maxRecDepth 100000 in
set_option maxHeartbeats 3200000 in
theorem J5 (r:qH) (lv tv sv cv lu tu su cu:Value) (w:World) (h1:jl w r lv tv sv cv) (h2:jl w r lu tu su cu) :
  Calls Tryz.prog 14 #[.agg (qs r lv tv sv cv),.agg (qs r lu tu su cu)] w fun e w'=>e=.returned (.bool true)∧Below w.heap.size w w':=by
 have H1:=q7 h1
 have H2:=q7 h2
 obtain ⟨lo,lc,rfl,_,_⟩:=h1.lens
 obtain ⟨tp,tc,rfl,_,_⟩:=h1.strips
 obtain ⟨mo,mc,rfl,_,_⟩:=h2.lens
 obtain ⟨up,uc,rfl,_,_⟩:=h2.strips
 clear h1 h2
 obtain ⟨a1,a2⟩:=al2 w (Obj.cells (qs r (.slice lo r.lens.length lc) (.slice tp r.strips.length tc) sv cv) 32) (Obj.cells (qs r (.slice mo r.lens.length mc) (.slice up r.strips.length uc) su cu) 32)
 have HB:=q7 (be2 w (Obj.cells (qs r (.slice lo r.lens.length lc) (.slice tp r.strips.length tc) sv cv) 32) (Obj.cells (qs r (.slice mo r.lens.length mc) (.slice up r.strips.length uc) su cu) 32))
 have hl1:=(Array.getElem?_eq_some_iff.1 a1).1
 have hl2:=(Array.getElem?_eq_some_iff.1 a2).1
 obtain ⟨s0,s1,s2,s3,s4,s5,s6,s13,s26⟩:=qv a1
 obtain ⟨t0,t1,t2,t3,t4,t5,t6,t13,t26⟩:=qv a2
 go_enter Tryz.func14,Tryz.ntmps14
 go_wp2_with fail
 clear s0 s1 s2 s3 s4 s5 s6 s13 s26 t0 t1 t2 t3 t4 t5 t6 t13 t26
 generalize (w.alloc (Obj.cells (qs r (.slice lo r.lens.length lc) (.slice tp r.strips.length tc) sv cv) 32)).alloc (Obj.cells (qs r (.slice mo r.lens.length mc) (.slice up r.strips.length uc) su cu) 32)=U at *
 have HC1:=q7 (fun (V:World) (hV:Below U.heap.size U V)=>qv ((hV.block _ hl1).trans a1))
 have HC2:=q7 (fun (V:World) (hV:Below U.heap.size U V)=>qv ((hV.block _ hl2).trans a2))
 have HT1:=q7 (fun (V:World) (hV:Below U.heap.size U V)=>Ju ((hV.block _ hl1).trans a1))
 have HT2:=q7 (fun (V:World) (hV:Below U.heap.size U V)=>Ju ((hV.block _ hl2).trans a2))
 clear a1 a2 hl1 hl2
 refine (JR _ _ r.lens r.lens _ (H1.out.lens.below HB.out (Nat.le_refl _)) (H2.out.lens.below HB.out (Nat.le_refl _))).mono ?_
 rintro e V1 ⟨rfl,hb1⟩
 rw[decide_eq_true rfl]
 obtain ⟨s0,s1,s2,s3,s4,s5,s6,s13,s26⟩:=HC1.out V1 hb1
 obtain ⟨t0,t1,t2,t3,t4,t5,t6,t13,t26⟩:=HC2.out V1 hb1
 have p1:=HT1.out V1 hb1
 have p2:=HT2.out V1 hb1
 have HP1:=q7 p1
 have HP2:=q7 p2
 clear p1 p2
 go_wp2_with (first|refine Q7 (by rfl) 30 _ rfl w.heap.size 7 rfl (qZ r.plan sv cv) _ HP1.out Tryz.underlying30 rfl (by kernel_rfl) ?_|refine Q7 (by rfl) 30 _ rfl (w.heap.size+1) 7 rfl (qZ r.plan su cu) _ HP2.out Tryz.underlying30 rfl (by kernel_rfl) ?_)
 clear s0 s1 s2 s3 s4 s5 s6 s13 s26 t0 t1 t2 t3 t4 t5 t6 t13 t26
 refine (Xd r.plan _ _ _ _ _ (H1.out.plan.below (q8 HB.out hb1) (Nat.le_refl _)) (H2.out.plan.below (q8 HB.out hb1) (Nat.le_refl _))).mono ?_
 rintro e V2 ⟨rfl,hb2⟩
 replace hb2:=q8 hb1 hb2
 go_wp2_with fail
 go_loopw [5] (fun i wr=>∃k:Nat,k≤r.strips.length∧i=.int .i64 k∧Below U.heap.size U wr) (fun i _=>r.strips.length-(intOf i).toNat)
 case atStart=>exact ⟨0,Nat.zero_le _,rfl,hb2⟩
 case round =>
  obtain ⟨k,hk,rfl,hbel⟩:=hrel
  obtain ⟨s0,s1,s2,s3,s4,s5,s6,s13,s26⟩:=HC1.out wr hbel
  obtain ⟨t0,t1,t2,t3,t4,t5,t6,t13,t26⟩:=HC2.out wr hbel
  by_cases hlt:k<r.strips.length
  ·have hd:decide ((k:Int)<(r.strips.length:Int))=true:=by simp;omega
   obtain ⟨bq,oq,rfl,hbq,x0⟩:=(H1.out.strips.below (q8 HB.out hbel) (Nat.le_refl _)).at k hlt
   obtain ⟨br,or',rfl,hbr,y0⟩:=(H2.out.strips.below (q8 HB.out hbel) (Nat.le_refl _)).at k hlt
   obtain ⟨T,hT⟩:∃t,str (r.strips.getD k [])=t:=⟨_,rfl⟩
   rw[hT] at x0 y0
   clear hT
   go_upto_region 6 with fail
   go_quiet (fail)
   go_wp2
   go_roundw
   case rel=>exact ⟨k+1,hlt,by go_num,below_drewN hbel _⟩
   case measure=>simp[intOf];omega
  ·have hd:decide ((k:Int)<(r.strips.length:Int))=false:=by simp;omega
   obtain rfl:k=r.strips.length:=by omega
   go_wp2
   go_ret
   exact ⟨rfl,q8 HB.out hbel⟩
end Go.Proofs.YtanebhbfekcplaaGreat

namespace Go.Proofs.YtanebhbfekcplaaGreat
open Go.RowKit
theorem ints4 (w:World) (a b c d:Int):qd (w.alloc (.cells #[.int .i64 a,.int .i64 b,.int .i64 c,.int .i64 d] 3)) (.slice (some ⟨w.heap.size,0,none⟩) 4 4) [a,b,c,d] :=
 qd.own (base:=w.heap.size) (World.ownsRow_lit w #[.int .i64 a,.int .i64 b,.int .i64 c,.int .i64 d] 4 (Nat.le_refl _) (by decide) (by simp)) (by simp)
theorem X7 (W1 H1 W2 H2:Int) (va vb:Value) (xs ys:List Int) (w:World) (ha:qd w va xs) (hb:qd w vb ys) :
  Calls Tryz.prog 11 #[.agg #[.int .i64 W1,.int .i64 H1,va],.agg #[.int .i64 W2,.int .i64 H2,vb]] w fun e w'=>e=.returned (.bool (decide (W1=W2∧H1=H2∧xs=ys)))∧Below w.heap.size w w':=by
 have HA:=q7 ha
 have HB:=q7 hb
 obtain ⟨ao,ca,rfl,_,_⟩:=ha
 obtain ⟨bo,cb,rfl,_,_⟩:=hb
 obtain ⟨R,hR⟩:∃R,decide (W1=W2∧H1=H2∧xs=ys)=R:=⟨_,rfl⟩
 rw[hR]
 by_cases h1:W1=W2
 ·by_cases h2:H1=H2
  ·subst h1 h2
   have HE:=q7 (show decide (xs=ys)=R by rw[←hR];simp)
   clear hR
   go_enter Tryz.func11,Tryz.ntmps11
   go_wp2_with fail
   refine (JR _ _ xs ys _ ((HA.out.alloc _).alloc _) ((HB.out.alloc _).alloc _)).mono ?_
   rintro e w1 ⟨rfl,hb1⟩
   go_wp2
   go_ret
   exact ⟨qg HE.out,q8 (q8 (qa _ _) (qa _ _)) hb1⟩
  ·have hd:(H1 == H2)=false:=by simpa using h2
   have HE:=q7 (show false=R by rw[←hR];simp[h2])
   subst h1
   clear hR
   go_enter Tryz.func11,Tryz.ntmps11
   go_wp2
   go_ret
   exact ⟨qg HE.out,q8 (qa _ _) (qa _ _)⟩
 ·have hd:(W1 == W2)=false:=by simpa using h1
  have HE:=q7 (show false=R by rw[←hR];simp[h1])
  clear hR
  go_enter Tryz.func11,Tryz.ntmps11
  go_wp2
  go_ret
  exact ⟨qg HE.out,q8 (qa _ _) (qa _ _)⟩
end Go.Proofs.YtanebhbfekcplaaGreat

namespace Go.Proofs.YtanebhbfekcplaaGreat
open Go.RowKit
theorem q3X (w:World):Calls Tryz.prog 61 #[] w fun e w'=>∃r,e=.returned r∧qd w' r [2,3,3,4,4,4,5,5,5,6,6,6,7,7,7,8,8]∧Below w.heap.size w w':=by
 go_enter Tryz.func61,Tryz.ntmps61
 go_wp2
 go_ret
 exact ⟨_,rfl,qd.own (base:=w.heap.size) (World.ownsRow_lit w #[.int .i64 2,.int .i64 3,.int .i64 3,.int .i64 4,.int .i64 4,.int .i64 4,.int .i64 5,.int .i64 5,.int .i64 5,.int .i64 6,.int .i64 6,.int .i64 6,.int .i64 7,.int .i64 7,.int .i64 7,.int .i64 8,.int .i64 8] 17 (Nat.le_refl _) (by decide) (by decide)) (by decide),qa _ _⟩
end Go.Proofs.YtanebhbfekcplaaGreat

namespace Go.Proofs.YtanebhbfekcplaaGreat
def idM (k:Nat):Int:=if k=0∨k=4∨k=8 then 4096 else 0
def q1R:zw:=⟨0,fun _=>0,65535,[],fun _=>256,idM,[(0,0),(65535,65535)],64⟩
def zeroN:zw:=⟨0,fun _=>0,0,[],fun _=>0,fun _=>0,[],0⟩
end Go.Proofs.YtanebhbfekcplaaGreat

namespace Go.Proofs.YtanebhbfekcplaaGreat
open Go.RowKit
theorem q3Y (w:World) (ls:List Pt) (cs:Array Value) (t:TypeId) (n:Nat) (hn:ls.length=n) (hc:∀j,j<n→cs[j*2]?=some (.int .i64 (qk ls j).1)∧cs[j*2+1]?=some (.int .i64 (qk ls j).2)) (hb:n≤4096):qX (w.alloc (.cells cs t)) (.slice (some ⟨w.heap.size,0,none⟩) n n) ls:=by
 subst hn
 refine ⟨_,_,rfl,by omega,.inr ⟨w.heap.size,0,rfl,by simp,fun j hj=>?_⟩⟩
 obtain ⟨h1,h2⟩:=hc j hj
 rw[Nat.zero_add]
 exact ⟨by rw[Lib.cell_of_heap (al1 w _)];exact h1,by rw[Lib.cell_of_heap (al1 w _)];exact h2⟩
end Go.Proofs.YtanebhbfekcplaaGreat

namespace Go.Proofs.YtanebhbfekcplaaGreat
set_option linter.unusedVariables false
open Go.RowKit
abbrev J8 (cv:Value):Array Value:=#[.int .i64 0,.int .i64 0,.int .i64 0,.int .i64 0,.int .i64 0,.int .i64 65535,.slice none 0 0,.int .i64 256,.int .i64 256,.int .i64 256,.int .i64 4096,.int .i64 0,.int .i64 0,.int .i64 0,.int .i64 4096,.int .i64 0,.int .i64 0,.int .i64 0,.int .i64 4096,cv,.int .i64 64]
theorem KL (w:World):Calls Tryz.prog 116 #[] w fun e w'=>∃v,e=.returned v∧qX w' v [(0,0),(65535,65535)]∧Below w.heap.size w w'∧qn w.heap.size v:=by
 go_enter Tryz.func116,Tryz.ntmps116
 go_wp2
 go_ret
 refine ⟨_,rfl,q3Y w [(0,0),(65535,65535)] _ _ 2 rfl (fun j hj=>?_) (by omega),qa _ _,fun b e=>?_,Nat.le_refl _⟩
 ·rcases (show j=0∨j=1 by omega) with rfl|rfl<;>exact ⟨rfl,rfl⟩
 ·cases e
  exact Nat.le_refl _
set_option maxRecDepth 100000 in
set_option maxHeartbeats 1600000 in
theorem q1S (w:World):Calls Tryz.prog 62 #[] w fun e w'=>∃cv,e=.returned (.agg (J8 cv))∧jY w' q1R (.slice none 0 0) cv∧Below w.heap.size w w':=by
 have a1:=al1 w (Obj.cells JJ 30)
 have hl:=(Array.getElem?_eq_some_iff.1 a1).1
 have HB:=q7 (qa w (Obj.cells JJ 30))
 go_enter Tryz.func62,Tryz.ntmps62
 go_wp2_with fail
 refine (KL _).mono ?_
 rintro e w1 ⟨v,rfl,hv,hb,hfr⟩
 have g1:=(hb.block _ hl).trans a1
 have hB:=q8 HB.out hb
 have HV:=q7 hv
 obtain ⟨co,cc,rfl,x1,x2⟩:=hv
 clear x1 x2
 have i1:(Tryz.prog.info? 30).map (·.size)=some (J8 (.slice co 2 cc)).size:=by kernel_rfl
 have i3:(J8 (.slice co 2 cc)).all (·.oneCell')=true:=by simp[Value.oneCell']
 have HX:=q7 (HV.out.other (k:=w.heap.size) (w':=w1.setRow w.heap.size (J8 (.slice co 2 cc))) (by simp) (fun b hb=>setRow_other _ _ _ _ hb) (hfr.ne hl))
 have HF:=q7 (below_setRow (g:=w.heap.size) hB (Nat.le_refl _) (J8 (.slice co 2 cc)))
 have HG:=q7 (setRow_heap _ _ _ (J8 (.slice co 2 cc)) _ _ g1)
 go_wp2_with (refine wpList_store_row rfl 30 _ _ rfl w.heap.size (J8 (.slice co 2 cc)) rfl rfl _ _ g1 i1 rfl i3 ?_)
 refine bodyPost_ret (v:=.agg (J8 (.slice co 2 cc))) (results_cell_row Tryz.results62 _ _ _ _ _ _ _ rfl HG.out Tryz.underlying30 rfl (by kernel_rfl)) rfl ⟨_,rfl,⟨⟨none,0,rfl,by decide,.inl rfl⟩,HX.out⟩,HF.out⟩
end Go.Proofs.YtanebhbfekcplaaGreat

namespace Go.Proofs.YtanebhbfekcplaaGreat
set_option linter.unusedVariables false
open Go.RowKit
theorem JH {P:Program} {ops:Array Oper} {rest:List Oper} {o:Oper} {a:Act} {w:World} {Q:Exit→Act→World→Prop} (hg:o.guard=none) (t:TypeId) (parts:Array (Nat×Operand)) (ho:o.op=.build t parts) (cs:Array Value)
  (hf:P.built t (parts.map fun (i,x)=>(i,a.eval x)).toList=some cs)
  (h:wpList P ops Q rest (a.put o.dst (.agg cs)) w):wpList P ops Q (o::rest) a w :=
 wpList_build hg t parts ho (by rw[hf];rfl) (by rw[hf];exact h)
theorem XM (w:World):Calls Tryz.prog 29 #[] w fun e w'=>∃so sc,e=.returned (.agg #[.int .i64 2,.int .i64 2,.slice so 4 sc])∧qd w' (.slice so 4 sc) [10,65535,0,7]∧4≤sc∧Below w.heap.size w w':=by
 go_enter Tryz.func29,Tryz.ntmps29
 go_wp2
 have HI:=q7 (ints4 (w.alloc (Obj.cells #[.int .i64 2,.int .i64 2,.slice (some ⟨w.heap.size+1,0,none⟩) 4 4] 34)) 10 65535 0 7)
 rw[World.size_alloc] at HI
 refine bodyPost_ret (v:=.agg #[.int .i64 2,.int .i64 2,.slice (some ⟨w.heap.size+1,0,none⟩) 4 4]) (by simp[results,Tryz.results29,go_sem]) rfl ⟨_,_,rfl,HI.out,Nat.le_refl _,q8 (qa _ _) (qa _ _)⟩
def KX:qH:=⟨2,2,16,7,1,[2,3,3,4,4,4,5,5,5,6,6,6,7,7,7,8,8],[],q1R⟩
def Jx:qH:=qG KX [10,65535,0,7]
theorem Kg:zB KX 2 2 [10,65535,0,7]=0:=by decide +kernel
theorem XL:Z7 Jx∧Xo Jx=[10,65535,0,7]∧ZJ Jx=2∧Zl Jx=2∧Jx.strips.length=2:=by
 obtain ⟨h1,h2,_,_,h3,h4⟩:=q17 Kg
 exact ⟨h1,h2,h3,h4,by rw[Jx,qG,Xr];decide⟩
set_option maxRecDepth 100000 in
set_option maxHeartbeats 3200000 in
theorem q3F (w:World):Calls Tryz.prog 28 #[] w fun e w'=>∃lv tv sv cv,e=.returned (.agg (qs Jx lv tv sv cv))∧jl w' Jx lv tv sv cv∧Below w.heap.size w w':=by
 have a1:=al1 w (Obj.cells qr 32)
 have HB:=q7 (qa w (Obj.cells qr 32))
 have hl1:=(Array.getElem?_eq_some_iff.1 a1).1
 have iz:(Tryz.prog.info? 32).map (·.size)=some (qr:Array Value).size:=by kernel_rfl
 go_enter Tryz.func28,Tryz.ntmps28
 go_wp2_with fail
 generalize w.alloc (Obj.cells qr 32)=U at *
 refine (q3X U).mono ?_
 rintro e V1 ⟨lv,rfl,hI1,hb1⟩
 have HI1:=q7 hI1
 obtain ⟨lo,lc,rfl,hx3,hx4⟩:=hI1
 clear hx3 hx4
 go_wp2_with fail
 refine (q1S V1).mono ?_
 rintro e V2 ⟨cv,rfl,hP,hb2⟩
 have HP:=q7 hP
 obtain ⟨ko,kc,rfl,hx1,hx2⟩:=hP.curve
 clear hP hx1 hx2
 rw[show q1R.curve.length=2 from rfl] at HP ⊢
 rw[show ([2,3,3,4,4,4,5,5,5,6,6,6,7,7,7,8,8]:List Int).length=17 from rfl] at HI1
 obtain ⟨RA,hRA⟩:∃RA:Array Value,#[.int .i64 2,.int .i64 2,.int .i64 16,.int .i64 7,.int .i64 1,.slice lo 17 lc,.slice none 0 0,.int .i64 0,.int .i64 0,.int .i64 0,.int .i64 0,.int .i64 0,.int .i64 65535,.slice none 0 0,.int .i64 256,.int .i64 256,.int .i64 256,.int .i64 4096,.int .i64 0,.int .i64 0,.int .i64 0,.int .i64 4096,.int .i64 0,.int .i64 0,.int .i64 0,.int .i64 4096,.slice ko 2 kc,.int .i64 64]=RA:=⟨_,rfl⟩
 have hbu:Tryz.prog.built 32 [(0,.int .i64 2),(1,.int .i64 2),(2,.int .i64 16),(3,.int .i64 7),(4,.int .i64 1),(5,.slice lo 17 lc),(7,.agg (J8 (.slice ko 2 kc)))]=some RA:=by rw[←hRA];kernel_rfl
 have HRW:=q7 (show qs KX (.slice lo 17 lc) (.slice none 0 0) (.slice none 0 0) (.slice ko 2 kc)=RA from hRA)
 have HIR:=q7 (show jl V2 KX (.slice lo 17 lc) (.slice none 0 0) (.slice none 0 0) (.slice ko 2 kc) from ⟨HI1.out.below hb2 (Nat.le_refl _),jk.nil _,HP.out.spots,HP.out.curve⟩)
 clear hRA
 dsimp only
 rename_i hKK
 refine hKK _ _ ?_
 clear hKK
 refine JH rfl 32 _ rfl RA ?hf ?_
 case hf=>exact Eq.trans (congrArg (Tryz.prog.built 32) (by kernel_rfl)) hbu
 simp only[Act.put,List.setIfInBounds_toArray,List.set_cons_succ,List.set_cons_zero]
 clear hbu
 go_wp2_with fail
 refine (XM V2).mono ?_
 rintro e V3 ⟨so,sc,rfl,hI3,hr3,hb3⟩
 have HF:=q7 (ZG KX _ _ _ _ 2 2 (.slice so 4 sc) [10,65535,0,7] V3 (HIR.out.below hb3 (Nat.le_refl _)) hI3 hr3)
 rw[HRW.out] at HF
 have hbU:=q8 (q8 hb1 hb2) hb3
 clear hI3 hr3 hb3 hb1 hb2
 go_wp2_with fail
 refine (HF.out).mono ?_
 rintro e V4 ⟨hb4,hc⟩
 rcases hc with ⟨_,lv',tv',sv',cv',rfl,hI,f1,f2,f3,f4⟩|⟨hn,_⟩
 rotate_left
 ·exact absurd Kg hn
 have HO:=q7 (zH hI)
 have i1:(Tryz.prog.info? 32).map (·.size)=some (qs (qG KX [10,65535,0,7]) lv' tv' sv' cv').size:=by kernel_rfl
 obtain ⟨RB,hRB⟩:∃RB,qs (qG KX [10,65535,0,7]) lv' tv' sv' cv'=RB:=⟨_,rfl⟩
 rw[hRB] at i1 HO ⊢
 have HRB:=q7 hRB
 have z1:=al1 V4 (Obj.cells qr 32)
 have i2:(qr:Array Value).size=RB.size:=by rw[←hRB];rfl
 have c1:=setRow_heap _ _ _ RB _ _ z1
 have HBX:=q7 (below_setRow (g:=V4.heap.size) (qa V4 (Obj.cells qr 32)) (Nat.le_refl _) RB)
 have hos:=HO.out
 have hbV:=q8 hbU hb4
 have hV3:=hbU.size
 clear hRB
 go_upto_region 2 with (refine wpList_store_row rfl 32 _ _ rfl V4.heap.size RB rfl rfl _ _ z1 i1 i2 hos ?_)
 clear z1
 have g1:((V4.alloc (Obj.cells qr 32)).setRow V4.heap.size RB).heap[w.heap.size]?=some (.cells qr 32 (0,0)):=((hbV.trans (HBX.out.mono hbV.size)).block _ hl1).trans a1
 have HBF0:=q7 (q8 (q8 HB.out hbV) HBX.out)
 have HI4:=q7 (hI.below HBX.out (Nat.le_refl _))
 generalize (V4.alloc (Obj.cells qr 32)).setRow V4.heap.size RB=V5 at *
 have HG:=q7 (setRow_heap _ _ _ RB _ _ g1)
 have HBF:=q7 (below_setRow (g:=w.heap.size) HBF0.out (Nat.le_refl _) RB)
 have hw3:w.heap.size<V3.heap.size:=Nat.lt_of_lt_of_le hl1 hV3
 have HIF:=q7 (HI4.out.other (k:=w.heap.size) (w':=V5.setRow w.heap.size RB) (B:=V3.heap.size) (by simp) (fun b hb=>setRow_other _ _ _ _ hb) hw3 f1 f2 f3 f4)
 clear f1 f2 f3 f4 hI
 go_wp2_with (first|refine wpList_load_row rfl 32 _ rfl _ rfl _ _ _ _ c1 Tryz.underlying32 rfl i1 ?_|refine wpList_store_row rfl 32 _ _ rfl w.heap.size RB rfl rfl _ _ g1 i1 i2 hos ?_)
 refine bodyPost_ret (v:=.agg RB) (results_cell_row Tryz.results28 _ _ _ _ _ _ _ rfl HG.out Tryz.underlying32 rfl i1) rfl ⟨_,_,_,_,by rw[←HRB.out];rfl,HIF.out,HBF.out⟩
theorem q3J {tv:Value} {lv sv cv:Value} {w:World} (h:jl w Jx lv tv sv cv):∃tn tc,tv=.slice tn 2 tc:=by
 obtain ⟨tn,tc,h1,_⟩:=h.strips
 rw[XL.2.2.2.2] at h1
 exact ⟨tn,tc,h1⟩
set_option maxRecDepth 100000 in
set_option maxHeartbeats 6400000 in
theorem YO (w:World):Calls Tryz.prog 9 #[] w fun e w'=>e=.returned (.bool true)∧Below w.heap.size w w':=by
 obtain ⟨hR,hZ,hW,hH,hL⟩:=XL
 have HR:=q7 hR
 have HZ:=q7 hZ
 have HPE:=q7 hR.zero
 have HRS:=q7 (show rawS Jx=KS Jx by rw[rawS,if_pos hR.zero])
 have HRD:=q7 (q00 hR)
 have HBL:=q7 (show (KS Jx).length≤140737488355328 by decide +kernel)
 have iz:(Tryz.prog.info? 32).map (·.size)=some (qr:Array Value).size:=by kernel_rfl
 clear hR hZ hL
 have HFA:=q7 (fun u=>q3F u)
 generalize hFF:Jx=FF at *
 have HFF:=q7 hFF
 clear hFF
 go_enter Tryz.func9,Tryz.ntmps9
 go_wp2_with fail
 refine (HFA.out w).mono ?_
 rintro e V1 ⟨lv,tv,sv,cv,rfl,hI,hb1⟩
 have HC:=q7 (JZ FF lv tv sv cv V1 hI)
 rw[hW,hH,HPE.out,HZ.out] at HC
 obtain ⟨RA,hRA⟩:∃RA,qs FF lv tv sv cv=RA:=⟨_,rfl⟩
 rw[hRA] at HC ⊢
 clear hRA hI
 go_wp2_with fail
 refine (HC.out).mono ?_
 rintro e V2 ⟨pv,rfl,hp,hb2,_⟩
 have HP:=q7 hp
 obtain ⟨po,pc,rfl,_,_⟩:=hp
 rw[show ([10,65535,0,7]:List Int).length=4 from rfl] at HP ⊢
 have B1:=al1 V2 (Obj.cells #[.int .i64 2,.int .i64 2,.slice po 4 pc] 34)
 have hb3:=q8 (q8 hb1 hb2) (qa V2 (Obj.cells #[.int .i64 2,.int .i64 2,.slice po 4 pc] 34))
 replace HP:=q7 (HP.out.alloc (Obj.cells #[.int .i64 2,.int .i64 2,.slice po 4 pc] 34))
 clear hb1 hb2 HC
 go_wp2_with fail
 generalize V2.alloc (Obj.cells #[.int .i64 2,.int .i64 2,.slice po 4 pc] 34)=U1 at *
 generalize V2.heap.size=PB at *
 have l1:=(Array.getElem?_eq_some_iff.1 B1).1
 refine (HFA.out U1).mono ?_
 rintro e V3 ⟨lv,tv,sv,cv,rfl,hI,hb4⟩
 have HC:=q7 (Ks FF lv tv sv cv V3 hI)
 rw[HRS.out,HPE.out] at HC
 obtain ⟨RB,hRB⟩:∃RB,qs FF lv tv sv cv=RB:=⟨_,rfl⟩
 rw[hRB] at HC ⊢
 clear hRB hI
 go_wp2_with fail
 refine (HC.out).mono ?_
 rintro e V4 ⟨rfl,hb5⟩
 have hb6:=q8 hb4 hb5
 replace HP:=q7 (HP.out.below hb6 (Nat.le_refl _))
 replace B1:=(hb6.block _ l1).trans B1
 replace hb3:=q8 hb3 hb6
 replace l1:=(Array.getElem?_eq_some_iff.1 B1).1
 clear hb4 hb5 hb6 HC
 have HC:=q7 (KT (KS FF) V4 HBL.out)
 obtain ⟨SS,hSS⟩:∃SS,str (KS FF)=SS:=⟨_,rfl⟩
 rw[hSS] at HC ⊢
 clear hSS
 go_wp2_with fail
 refine (HC.out).mono ?_
 rintro e V5 ⟨hb7,hc⟩
 rcases hc with ⟨r',lv,tv,sv,cv,hrd,rfl,hI,f1,f2,f3,f4⟩|⟨hrd,_⟩
 rotate_left
 ·rw[HRD.out] at hrd;cases hrd
 rw[HRD.out] at hrd
 cases hrd
 have hI:=q2a.1 hI
 have HO:=q7 (zH hI)
 have i1:(Tryz.prog.info? 32).map (·.size)=some (qs FF lv tv sv cv).size:=by kernel_rfl
 rw[q3Q]
 obtain ⟨RC,hRC⟩:∃RC,qs FF lv tv sv cv=RC:=⟨_,rfl⟩
 rw[hRC] at i1 HO ⊢
 have HRC:=q7 hRC
 have z1:=al1 V5 (Obj.cells qr 32)
 have i2:(qr:Array Value).size=RC.size:=by rw[←hRC];rfl
 have c1:=setRow_heap _ _ _ RC _ _ z1
 have HBX:=q7 (below_setRow (g:=V5.heap.size) (qa V5 (Obj.cells qr 32)) (Nat.le_refl _) RC)
 have hos:=HO.out
 have hb8:=q8 hb7 HBX.out
 clear hRC f1 f2 f3 f4
 go_upto_region 4 with (refine wpList_store_row rfl 32 _ _ rfl V5.heap.size RC rfl rfl _ _ z1 i1 i2 hos ?_)
 try simp only[Act.put]
 clear z1
 have HI5:=q7 (hI.below HBX.out (Nat.le_refl _))
 replace HP:=q7 (HP.out.below hb8 (Nat.le_refl _))
 replace B1:=(hb8.block _ l1).trans B1
 have HBW:=q7 (q8 hb3 hb8)
 clear hb3 hb7 hb8 hI HBX
 generalize (V5.alloc (Obj.cells qr 32)).setRow V5.heap.size RC=U at *
 generalize V5.heap.size=RX at *
 replace l1:=(Array.getElem?_eq_some_iff.1 B1).1
 have l2:=(Array.getElem?_eq_some_iff.1 c1).1
 have HS:=q7 (show ∀v,Below U.heap.size U v→(v.cell? ⟨PB,0,none⟩=some (.int .i64 2)∧v.cell? ⟨PB,1,none⟩=some (.int .i64 2)∧v.cell? ⟨PB,2,none⟩=some (.slice po 4 pc))∧v.heap[RX]?=some (.cells RC 32 (0,0)) from fun v h=>⟨jJ ((h.block _ l1).trans B1),(h.block _ l2).trans c1⟩)
 have hWd:Below U.heap.size U U.drew:=(Below.refl _ _).drew
 have hSd:=HS.out _ hWd
 generalize Value.agg RA=g1
 generalize Value.agg RB=g2
 have HTL:=q7 (fun (tv lv sv cv:Value) (u:World) (h:jl u FF lv tv sv cv)=>show ∃tn tc,tv=.slice tn 2 tc from q3J (w:=u) (lv:=lv) (sv:=sv) (cv:=cv) (HFF.out.symm ▸ h))
 have hmx:Tryz.prog.follows .mixedOrders=true:=by kernel_rfl
 refine qK (S:=(fun v:World=>(v.cell? ⟨PB,0,none⟩=some (.int .i64 2)∧v.cell? ⟨PB,1,none⟩=some (.int .i64 2)∧v.cell? ⟨PB,2,none⟩=some (.slice po 4 pc))∧v.heap[RX]?=some (.cells RC 32 (0,0)))) (f:=31) hmx ?_
 show j7 _ _ _ _ _ _ 32 _ _ U.drew
 refine q9 (i:=0) (oi:=_) (v:=?vv1) (some 22) [] rfl rfl (by kernel_rfl) (by kernel_rfl) (by kernel_rfl) (by kernel_rfl) (by kernel_rfl) (fun _ _ _ h=>h) (Or.inl ⟨by rfl,?yy1⟩) hSd ?rr1
 case yy1=>(intro wq hSq;obtain ⟨⟨_,_,_⟩,hq4⟩:=hSq;go_simp<;>with_reducible rfl)
 simp only[Act.put,List.setIfInBounds_toArray,List.set_cons_succ,List.set_cons_zero]
 refine q9 (i:=1) (oi:=_) (v:=?vv2) (some 23) [] rfl rfl (by kernel_rfl) (by kernel_rfl) (by kernel_rfl) (by kernel_rfl) (by kernel_rfl) (fun _ _ _ h=>h) (Or.inl ⟨by rfl,?yy2⟩) hSd ?rr2
 case yy2=>(intro wq hSq;obtain ⟨⟨_,_,_⟩,hq4⟩:=hSq;go_simp<;>with_reducible rfl)
 simp only[Act.put,List.setIfInBounds_toArray,List.set_cons_succ,List.set_cons_zero]
 refine q9 (i:=2) (oi:=_) (v:=?vv3) (some 24) [] rfl rfl (by kernel_rfl) (by kernel_rfl) (by kernel_rfl) (by kernel_rfl) (by kernel_rfl) (fun _ _ _ h=>h) (Or.inl ⟨by rfl,?yy3⟩) hSd ?rr3
 case yy3=>(intro wq hSq;obtain ⟨⟨_,_,_⟩,hq4⟩:=hSq;go_simp<;>with_reducible rfl)
 simp only[Act.put,List.setIfInBounds_toArray,List.set_cons_succ,List.set_cons_zero]
 refine q9 (i:=3) (oi:=_) (v:=?vv4) (some 25) [] rfl rfl (by kernel_rfl) (by kernel_rfl) (by kernel_rfl) (by kernel_rfl) (by kernel_rfl) (fun _ _ _ h=>h) (Or.inl ⟨by rfl,?yy4⟩) hSd ?rr4
 case yy4=>(intro wq hSq;obtain ⟨⟨_,_,_⟩,hq4⟩:=hSq;go_simp<;>with_reducible rfl)
 simp only[Act.put,List.setIfInBounds_toArray,List.set_cons_succ,List.set_cons_zero]
 refine q9 (i:=4) (oi:=_) (v:=?vv5) (some 26) [] rfl rfl (by kernel_rfl) (by kernel_rfl) (by kernel_rfl) (by kernel_rfl) (by kernel_rfl) (fun _ _ _ h=>h) (Or.inl ⟨by rfl,?yy5⟩) hSd ?rr5
 case yy5=>(intro wq hSq;obtain ⟨⟨_,_,_⟩,hq4⟩:=hSq;go_simp<;>with_reducible rfl)
 simp only[Act.put,List.setIfInBounds_toArray,List.set_cons_succ,List.set_cons_zero]
 refine q9 (i:=5) (oi:=_) (v:=?vv6) (some 27) [] rfl rfl (by kernel_rfl) (by kernel_rfl) (by kernel_rfl) (by kernel_rfl) (by kernel_rfl) (fun _ _ _ h=>h) (Or.inl ⟨by rfl,?yy6⟩) hSd ?rr6
 case yy6=>(intro wq hSq;obtain ⟨⟨_,_,_⟩,hq4⟩:=hSq;go_simp<;>with_reducible rfl)
 simp only[Act.put,List.setIfInBounds_toArray,List.set_cons_succ,List.set_cons_zero]
 refine q9 (i:=6) (oi:=_) (v:=?vv7) (some 28) [] rfl rfl (by kernel_rfl) (by kernel_rfl) (by kernel_rfl) (by kernel_rfl) (by kernel_rfl) (fun _ _ _ h=>h) (Or.inl ⟨by rfl,?yy7⟩) hSd ?rr7
 case yy7=>(intro wq hSq;obtain ⟨⟨_,_,_⟩,hq4⟩:=hSq;go_simp<;>with_reducible rfl)
 simp only[Act.put,List.setIfInBounds_toArray,List.set_cons_succ,List.set_cons_zero]
 refine q9 (i:=7) (oi:=_) (v:=?vv8) (some 29) [] rfl rfl (by kernel_rfl) (by kernel_rfl) (by kernel_rfl) (by kernel_rfl) (by kernel_rfl) (fun _ _ _ h=>h) (Or.inl ⟨by rfl,?yy8⟩) hSd ?rr8
 case yy8=>(intro wq hSq;obtain ⟨⟨_,_,_⟩,hq4⟩:=hSq;go_simp<;>with_reducible rfl)
 simp only[Act.put,List.setIfInBounds_toArray,List.set_cons_succ,List.set_cons_zero]
 refine q9 (i:=8) (oi:=_) (v:=?vv9) (some 30) [] rfl rfl (by kernel_rfl) (by kernel_rfl) (by kernel_rfl) (by kernel_rfl) (by kernel_rfl) (fun _ _ _ h=>h) (Or.inl ⟨by rfl,?yy9⟩) hSd ?rr9
 case yy9=>(intro wq hSq;obtain ⟨⟨_,_,_⟩,hq4⟩:=hSq;go_simp<;>with_reducible rfl)
 simp only[Act.put,List.setIfInBounds_toArray,List.set_cons_succ,List.set_cons_zero]
 refine q9 (i:=9) (oi:=_) (v:=?vv10) (some 31) [] rfl rfl (by kernel_rfl) (by kernel_rfl) (by kernel_rfl) (by kernel_rfl) (by kernel_rfl) (fun _ _ _ h=>h) (Or.inl ⟨by rfl,?yy10⟩) hSd ?rr10
 case yy10=>(intro wq hSq;obtain ⟨⟨_,_,_⟩,hq4⟩:=hSq;go_simp<;>with_reducible rfl)
 simp only[Act.put,List.setIfInBounds_toArray,List.set_cons_succ,List.set_cons_zero]
 refine q9 (i:=10) (oi:=_) (v:=?vv11) (some 32) [] rfl rfl (by kernel_rfl) (by kernel_rfl) (by kernel_rfl) (by kernel_rfl) (by kernel_rfl) (fun _ _ _ h=>h) (Or.inl ⟨by rfl,?yy11⟩) hSd ?rr11
 case yy11=>(intro wq hSq;obtain ⟨⟨_,_,_⟩,hq4⟩:=hSq;go_simp<;>with_reducible rfl)
 simp only[Act.put,List.setIfInBounds_toArray,List.set_cons_succ,List.set_cons_zero]
 refine qm (i:=11) (o:=_) (by kernel_rfl) rfl (fun K' hK=>?_)
 rw[if_pos (by rfl)]
 go_simp
 refine (HFA.out _).mono ?_
 rintro e Y1 ⟨lw,tw,sw,cw,rfl,hJ,hbv⟩
 have hY1:Below U.heap.size U Y1:=q8 hWd hbv
 have HJ:=q7 hJ
 obtain ⟨tn,tc,rfl⟩:=HTL.out _ _ _ _ _ hJ
 clear hJ hbv
 have hSd:=HS.out _ hY1
 refine hK.out _ _ hSd ?_
 clear hK
 try simp only[Act.put]
 refine qm (i:=12) (o:=_) (by kernel_rfl) rfl (fun K' hK=>?_)
 have HCK:=q7 (Qa FF lw (.slice tn 2 tc) sw cw Y1 HJ.out)
 rw[HPE.out] at HCK
 obtain ⟨RD,hRD⟩:∃RD,qs FF lw (.slice tn 2 tc) sw cw=RD:=⟨_,rfl⟩
 rw[hRD] at HCK ⊢
 clear hRD
 rw[if_pos (by rfl)]
 go_simp
 refine (HCK.out).mono ?_
 rintro e Y2 ⟨rfl,hbv⟩
 have hY2:Below U.heap.size U Y2:=q8 hY1 hbv
 clear hbv
 generalize Value.agg RD=g3
 clear HCK HJ
 have hSd:=HS.out _ hY2
 refine hK.out _ _ hSd ?_
 clear hK
 try simp only[Act.put]
 refine q9 (i:=13) (oi:=_) (v:=?vv12) (some 35) [] rfl rfl (by kernel_rfl) (by kernel_rfl) (by kernel_rfl) (by kernel_rfl) (by kernel_rfl) (fun _ _ _ h=>h) (Or.inl ⟨by rfl,?yy12⟩) hSd ?rr12
 case yy12=>(intro wq hSq;obtain ⟨⟨_,_,_⟩,hq4⟩:=hSq;go_simp<;>with_reducible rfl)
 simp only[Act.put,List.setIfInBounds_toArray,List.set_cons_succ,List.set_cons_zero]
 refine q9 (i:=14) (oi:=_) (v:=?vv13) (some 36) [] rfl rfl (by kernel_rfl) (by kernel_rfl) (by kernel_rfl) (by kernel_rfl) (by kernel_rfl) (fun _ _ _ h=>h) (Or.inl ⟨by rfl,?yy13⟩) hSd ?rr13
 case yy13=>(intro wq hSq;obtain ⟨⟨_,_,_⟩,hq4⟩:=hSq;go_simp<;>with_reducible rfl)
 simp only[Act.put,List.setIfInBounds_toArray,List.set_cons_succ,List.set_cons_zero]
 refine q9 (i:=15) (oi:=_) (v:=?vv14) (some 37) [] rfl rfl (by kernel_rfl) (by kernel_rfl) (by kernel_rfl) (by kernel_rfl) (by kernel_rfl) (fun _ _ _ h=>h) (Or.inl ⟨by rfl,?yy14⟩) hSd ?rr14
 case yy14=>(intro wq hSq;obtain ⟨⟨_,_,_⟩,hq4⟩:=hSq;go_simp<;>with_reducible rfl)
 simp only[Act.put,List.setIfInBounds_toArray,List.set_cons_succ,List.set_cons_zero]
 refine qm (i:=16) (o:=_) (by kernel_rfl) rfl (fun K' hK=>?_)
 rw[if_pos (by rfl)]
 go_simp
 refine (HFA.out _).mono ?_
 rintro e Y3 ⟨lw,tw,sw,cw,rfl,hJ,hbv⟩
 have hY3:Below U.heap.size U Y3:=q8 hY2 hbv
 have HJ:=q7 hJ
 obtain ⟨tn,tc,rfl⟩:=HTL.out _ _ _ _ _ hJ
 clear hJ hbv
 have hfd:∀V:World,(Instr.field 32 (.agg (qs FF lw (.slice tn 2 tc) sw cw)) 6).run Tryz.prog V=.ok (.slice tn 2 tc) V:=fun V=>by kernel_rfl
 obtain ⟨RD,hRD⟩:∃RD,qs FF lw (.slice tn 2 tc) sw cw=RD:=⟨_,rfl⟩
 rw[hRD] at hfd ⊢
 clear hRD
 have hSd:=HS.out _ hY3
 refine hK.out _ _ hSd ?_
 clear hK
 try simp only[Act.put]
 refine q9 (i:=17) (oi:=_) (v:=?vv15) (some 39) [] rfl rfl (by kernel_rfl) (by kernel_rfl) (by kernel_rfl) (by kernel_rfl) (by kernel_rfl) (fun _ _ _ h=>h) (Or.inl ⟨by rfl,?yy15⟩) hSd ?rr15
 case yy15=>(intro wq hSq;obtain ⟨⟨_,_,_⟩,hq4⟩:=hSq;go_simp<;>with_reducible rfl)
 simp only[Act.put,List.setIfInBounds_toArray,List.set_cons_succ,List.set_cons_zero]
 refine q9 (i:=18) (oi:=_) (v:=?vv16) (some 40) [] rfl rfl (by kernel_rfl) (by kernel_rfl) (by kernel_rfl) (by kernel_rfl) (by kernel_rfl) (fun _ _ _ h=>h) (Or.inl ⟨by rfl,?yy16⟩) hSd ?rr16
 case yy16=>(intro wq hSq;obtain ⟨⟨_,_,_⟩,hq4⟩:=hSq;go_simp<;>with_reducible rfl)
 simp only[Act.put,List.setIfInBounds_toArray,List.set_cons_succ,List.set_cons_zero]
 refine q9 (i:=19) (oi:=_) (v:=?vv17) (some 41) [] rfl rfl (by kernel_rfl) (by kernel_rfl) (by kernel_rfl) (by kernel_rfl) (by kernel_rfl) (fun _ _ _ h=>h) (Or.inl ⟨by rfl,?yy17⟩) hSd ?rr17
 case yy17=>(intro wq hSq;obtain ⟨⟨_,_,_⟩,hq4⟩:=hSq;go_simp<;>with_reducible rfl)
 simp only[Act.put,List.setIfInBounds_toArray,List.set_cons_succ,List.set_cons_zero]
 refine q9 (i:=20) (oi:=_) (v:=?vv18) (some 42) [] rfl rfl (by kernel_rfl) (by kernel_rfl) (by kernel_rfl) (by kernel_rfl) (by kernel_rfl) (fun _ _ _ h=>h) (Or.inl ⟨by rfl,?yy18⟩) hSd ?rr18
 case yy18=>(intro wq hSq;obtain ⟨⟨_,_,_⟩,hq4⟩:=hSq;go_simp<;>with_reducible rfl)
 simp only[Act.put,List.setIfInBounds_toArray,List.set_cons_succ,List.set_cons_zero]
 refine q9 (i:=21) (oi:=_) (v:=?vv19) (some 43) [] rfl rfl (by kernel_rfl) (by kernel_rfl) (by kernel_rfl) (by kernel_rfl) (by kernel_rfl) (fun _ _ _ h=>h) (Or.inl ⟨by rfl,?yy19⟩) hSd ?rr19
 case yy19=>(intro wq hSq;obtain ⟨⟨_,_,_⟩,hq4⟩:=hSq;go_simp<;>with_reducible rfl)
 simp only[Act.put,List.setIfInBounds_toArray,List.set_cons_succ,List.set_cons_zero]
 refine q9 (i:=22) (oi:=_) (v:=?vv20) (some 44) [] rfl rfl (by kernel_rfl) (by kernel_rfl) (by kernel_rfl) (by kernel_rfl) (by kernel_rfl) (fun _ _ _ h=>h) (Or.inl ⟨by rfl,?yy20⟩) hSd ?rr20
 case yy20=>(intro wq hSq;obtain ⟨⟨_,_,_⟩,hq4⟩:=hSq;go_simp<;>with_reducible rfl)
 simp only[Act.put,List.setIfInBounds_toArray,List.set_cons_succ,List.set_cons_zero]
 refine qm (i:=23) (o:=_) (by kernel_rfl) rfl (fun K' hK=>?_)
 rw[if_pos (by rfl)]
 go_simp
 refine (XM _).mono ?_
 rintro e Y4 ⟨so,sc,rfl,hI4,_,hbv⟩
 have hY4:Below U.heap.size U Y4:=q8 hY3 hbv
 have HI4:=q7 hI4
 clear hI4 hbv hfd
 have hSd:=HS.out _ hY4
 refine hK.out _ _ hSd ?_
 clear hK
 try simp only[Act.put]
 refine qm (i:=24) (o:=_) (by kernel_rfl) rfl (fun K' hK=>?_)
 rw[if_pos (by rfl)]
 go_simp
 refine (X7 2 2 2 2 _ _ [10,65535,0,7] [10,65535,0,7] Y4 (HP.out.below hY4 (Nat.le_refl _)) HI4.out).mono ?_
 rintro e Y5 ⟨rfl,hbv⟩
 have hY5:Below U.heap.size U Y5:=q8 hY4 hbv
 clear hbv
 rw[show decide ((2:Int)=2∧(2:Int)=2∧([10,65535,0,7]:List Int)=[10,65535,0,7])=true by decide]
 have hSd:=HS.out _ hY5
 refine hK.out _ _ hSd ?_
 clear hK
 try simp only[Act.put]
 refine q9 (i:=25) (oi:=_) (v:=?vv21) (some 47) [] rfl rfl (by kernel_rfl) (by kernel_rfl) (by kernel_rfl) (by kernel_rfl) (by kernel_rfl) (fun _ _ _ h=>h) (Or.inl ⟨by rfl,?yy21⟩) hSd ?rr21
 case yy21=>(intro wq hSq;obtain ⟨⟨_,_,_⟩,hq4⟩:=hSq;go_simp<;>with_reducible rfl)
 simp only[Act.put,List.setIfInBounds_toArray,List.set_cons_succ,List.set_cons_zero]
 refine q9 (i:=26) (oi:=_) (v:=?vv22) (some 48) [] rfl rfl (by kernel_rfl) (by kernel_rfl) (by kernel_rfl) (by kernel_rfl) (by kernel_rfl) (fun _ _ _ h=>h) (Or.inl ⟨by rfl,?yy22⟩) hSd ?rr22
 case yy22=>(intro wq hSq;obtain ⟨⟨_,_,_⟩,hq4⟩:=hSq;go_simp<;>with_reducible rfl)
 simp only[Act.put,List.setIfInBounds_toArray,List.set_cons_succ,List.set_cons_zero]
 refine q9 (i:=27) (oi:=_) (v:=.agg RC) (some 49) [] rfl rfl (by kernel_rfl) (by kernel_rfl) (by kernel_rfl) (by kernel_rfl) (by kernel_rfl) (fun _ _ _ h=>h) (Or.inl ⟨by rfl,?yy23⟩) hSd ?rr23
 case yy23=>(intro wq hSq;obtain ⟨⟨_,_,_⟩,hq4⟩:=hSq;exact zY 32 _ rfl _ rfl _ _ _ _ hq4 Tryz.underlying32 rfl i1)
 simp only[Act.put,List.setIfInBounds_toArray,List.set_cons_succ,List.set_cons_zero]
 refine qm (i:=28) (o:=_) (by kernel_rfl) rfl (fun K' hK=>?_)
 rw[if_pos (by rfl)]
 go_simp
 refine (HFA.out _).mono ?_
 rintro e Y6 ⟨lw,tw,sw,cw,rfl,hJ,hbv⟩
 have hY6:Below U.heap.size U Y6:=q8 hY5 hbv
 have HJ:=q7 hJ
 obtain ⟨tn,tc,rfl⟩:=HTL.out _ _ _ _ _ hJ
 clear hJ hbv
 have hSd:=HS.out _ hY6
 refine hK.out _ _ hSd ?_
 clear hK
 try simp only[Act.put]
 refine qm (i:=29) (o:=_) (by kernel_rfl) rfl (fun K' hK=>?_)
 have HCK:=q7 (J5 FF lv tv sv cv lw (.slice tn 2 tc) sw cw Y6 (HI5.out.below hY6 (Nat.le_refl _)) HJ.out)
 rw[HRC.out] at HCK
 obtain ⟨RE,hRE⟩:∃RE,qs FF lw (.slice tn 2 tc) sw cw=RE:=⟨_,rfl⟩
 rw[hRE] at HCK ⊢
 clear hRE
 rw[if_pos (by rfl)]
 go_simp
 refine (HCK.out).mono ?_
 rintro e Y7 ⟨rfl,hbv⟩
 have hY7:Below U.heap.size U Y7:=q8 hY6 hbv
 clear hbv
 clear HCK HJ
 have hSd:=HS.out _ hY7
 refine hK.out _ _ hSd ?_
 clear hK
 try simp only[Act.put]
 refine q9 (i:=30) (oi:=_) (v:=?vv24) (some 52) [] rfl rfl (by kernel_rfl) (by kernel_rfl) (by kernel_rfl) (by kernel_rfl) (by kernel_rfl) (fun _ _ _ h=>h) (Or.inl ⟨by rfl,?yy24⟩) hSd ?rr24
 case yy24=>(intro wq hSq;obtain ⟨⟨_,_,_⟩,hq4⟩:=hSq;go_simp<;>with_reducible rfl)
 simp only[Act.put,List.setIfInBounds_toArray,List.set_cons_succ,List.set_cons_zero]
 refine qV (o:=_) (by kernel_rfl) rfl (fun K' hK=>?_)
 rw[if_pos (by rfl)]
 go_simp
 refine hK.out _ _ ?_
 clear hK
 refine qU (by kernel_rfl) ?_ _
 try simp only[Act.put]
 clear hSd
 go_wp2
 go_ret
 exact ⟨rfl,q8 HBW.out hY7⟩
end Go.Proofs.YtanebhbfekcplaaGreat

namespace Go.Proofs.YtanebhbfekcplaaGreat
set_option linter.unusedVariables false
open Go.RowKit
theorem q2f {w:World} {a:Addr} {ts:List (List UInt8)} (o:Obj) (hc:ts=[]∨∃b off,some a=some ⟨b,off,none⟩∧b<w.heap.size∧∀j,j<ts.length→w.cell? ⟨b,off+j,none⟩=some (.string (str (ts.getD j [])))) :
  ∀j u,(ts.map QS)[j]?=some u→(w.alloc o).cell? (a.add j)=some u:=by
 intro j u hj
 rcases hc with h|⟨b,off,h,hb,h2⟩
 ·subst h;simp at hj
 ·cases h
  rw[List.getElem?_map] at hj
  obtain ⟨z,hz,rfl⟩:=Option.map_eq_some_iff.1 hj
  obtain ⟨hl,rfl⟩:=List.getElem?_eq_some_iff.1 hz
  rw[Addr.add_lit]
  refine Lib.cell?_alloc_some _ ?_
  rw[h2 j hl,Yh hl];rfl
structure OJ (w:World) (cs:List Value) (X:List RowX) (V:World):Prop where
 bel:Below w.heap.size w V
 box:j9 w.heap.size 32 cs V
 res:j9 (w.heap.size+1) 32 qr.toList V
 rows:∀x∈X,V.ownsRow (w.heap.size+2) x.1 x.2.1 x.2.2.1 x.2.2.2.1 x.2.2.2.2
theorem OJ.sz {w:World} {cs:List Value} {X:List RowX} {V:World} (h:OJ w cs X V):w.heap.size+1<V.heap.size:=h.res.lt
theorem OJ.low {w:World} {cs:List Value} {X:List RowX} {V V':World} (h:OJ w cs X V) (hb:Below V.heap.size V V'):OJ w cs X V' :=
 ⟨h.bel.trans (hb.mono h.bel.size),(hb.block _ h.box.lt).trans h.box,(hb.block _ h.res.lt).trans h.res,fun x hx=>qy (h.rows x hx) hb⟩
theorem OJ.put {w:World} {cs:List Value} {X:List RowX} {V:World} (h:OJ w cs X V) (i:Nat) (v:Value):OJ w (cs.set i v) X (V.setCell ⟨w.heap.size,i,none⟩ v) where
 bel:=h.bel.setCell (p:=⟨w.heap.size,i,none⟩) (Nat.le_refl _) _
 box:=zd h.box i v
 res:=(Below.heap_setCell _ _ _ _ (by show w.heap.size+1≠w.heap.size;omega)).trans h.res
 rows:=fun x hx=>ownsRow_setCell_other (h.rows x hx) (fun e=>absurd ((h.rows x hx).lt _ e).1 (by show ¬(w.heap.size+2≤w.heap.size);omega)) _
theorem OJ.grow {w:World} {cs:List Value} {X:List RowX} {V w1:World} {g:Nat} {e:TypeId} {sz m:Nat} {v':Value} {ys:List Value} (h:OJ w cs X (V.alloc (.cells #[] e))) (hg:(V.alloc (.cells #[] e)).grownBy w1 (some g)) (hgV:g=V.heap.size) (hV:OJ w cs X V) (ho:w1.ownsRow (w.heap.size+2) e sz v' m ys):OJ w cs ((e,sz,v',m,ys)::X) w1 where
 bel:=h.bel.grown hg h.bel.size (fun k hk=>by cases hk;have:=hV.sz;omega)
 box:=(hg.block _ h.box.lt (by have:=hV.sz;simp;omega)).trans h.box
 res:=(hg.block _ h.res.lt (by have:=hV.sz;simp;omega)).trans h.res
 rows:=fun x hx=>by
  rcases List.mem_cons.1 hx with rfl|hx
  ·exact ho
  ·exact YV (h.rows x hx) (fun k hk=>hg.block k ((h.rows x hx).lt k hk).2 (fun e'=>by have:=((hV.rows x hx).lt k hk).2;cases e';omega))
theorem OJ.row {w:World} {cs:List Value} {X:List RowX} {V:World} (h:OJ w cs X V) (e:TypeId) (sz:Nat) (v:Value) (n:Nat) (xs:List Value) (ho:V.ownsRow (w.heap.size+2) e sz v n xs):OJ w cs ((e,sz,v,n,xs)::X) V :=
 ⟨h.bel,h.box,h.res,fun x hx=>by
  rcases List.mem_cons.1 hx with rfl|hx
  ·exact ho
  ·exact h.rows x hx⟩
set_option maxRecDepth 100000 in
set_option maxHeartbeats 6400000 in
theorem q15 (r:qH) (lv tv sv cv:Value) (w:World) (hr:jl w r lv tv sv cv) (g1:r.lens.length≤1000000) (g0:r.strips.length≤8796093022208) (g2:r.plan.spots.length≤1000000) (g3:r.plan.curve.length≤1000000) (lz:Kk lv) (tz:Kk tv) (sz:Kk sv) (cz:Kk cv) :
  Calls Tryz.prog 37 #[.agg (qs r lv tv sv cv)] w fun e w'=>∃lv' tv' sv' cv',e=.returned (.agg (qs r lv' tv' sv' cv'))∧jl w' r lv' tv' sv' cv'∧Below w.heap.size w w'∧qn w.heap.size lv'∧qn w.heap.size tv'∧qn w.heap.size sv'∧qn w.heap.size cv':=by
 have HLI:=q7 hr.lens
 have HTI:=q7 hr.strips
 have HSI:=q7 hr.plan.spots
 have HCI:=q7 hr.plan.curve
 obtain ⟨lo,lc,rfl,hx1,hx2⟩:=hr.lens
 obtain ⟨tn,tc,rfl,hx3,hx4⟩:=hr.strips
 obtain ⟨so,sc,rfl,hx5,hx6⟩:=hr.plan.spots
 obtain ⟨ko,kc,rfl,hx7,hx8⟩:=hr.plan.curve
 clear hx2 hx4 hx6 hx8 hr
 obtain ⟨a1,a2⟩:=al2 w (Obj.cells (qs r (.slice lo r.lens.length lc) (.slice tn r.strips.length tc) (.slice so r.plan.spots.length sc) (.slice ko r.plan.curve.length kc)) 32) (Obj.cells qr 32)
 have HJ:=q7 (show OJ w (qs r (.slice lo r.lens.length lc) (.slice tn r.strips.length tc) (.slice so r.plan.spots.length sc) (.slice ko r.plan.curve.length kc)).toList [] ((w.alloc (Obj.cells (qs r (.slice lo r.lens.length lc) (.slice tn r.strips.length tc) (.slice so r.plan.spots.length sc) (.slice ko r.plan.curve.length kc)) 32)).alloc (Obj.cells qr 32)) from ⟨be2 w _ _,a1,a2,by simp⟩)
 have iz:(Tryz.prog.info? 32).map (·.size)=some (qr:Array Value).size:=by kernel_rfl
 clear a1 a2
 go_enter Tryz.func37,Tryz.ntmps37
 go_upto_region 1 with fail
 generalize (w.alloc (Obj.cells (qs r (.slice lo r.lens.length lc) (.slice tn r.strips.length tc) (.slice so r.plan.spots.length sc) (.slice ko r.plan.curve.length kc)) 32)).alloc (Obj.cells qr 32)=V0 at *
 go_cut [1] from 3 (fun x v=>x=.pointer (some ⟨w.heap.size,0,none⟩)∧∃(ao':Option Addr) (ca':Nat),OJ w (qs r (.slice ao' r.lens.length ca') (.slice tn r.strips.length tc) (.slice so r.plan.spots.length sc) (.slice ko r.plan.curve.length kc)).toList [(3,1,(.slice ao' r.lens.length ca'),r.lens.length,r.lens.map (Value.int .i64))] v)
 case first =>
  obtain ⟨i0,hi,hz0,hz1,hz2⟩:=info_parts Tryz.infoInt
  have HJA:=q7 (HJ.out.low (qa V0 (Obj.cells #[] 3)))
  have ci:(V0.alloc (Obj.cells #[] 3)).cell? ⟨w.heap.size,5,none⟩=some (.slice lo r.lens.length lc):=by rw[Lib.cell_of_heap HJA.out.box];rfl
  have fi:(V0.alloc (Obj.cells #[] 3)).frozen? ⟨w.heap.size,5,none⟩=false:=Lib.frozen_of_heap HJA.out.box _
  have HOW:=q7 (World.ownsRow_made (base:=w.heap.size+2) (e:=3) (size:=1) V0 #[] 0 (by have:=HJ.out.sz;omega) (Nat.zero_le _) (by simp))
  have HIV:=q7 (HLI.out.below HJ.out.bel (Nat.le_refl _))
  cases lo with
  | none =>
   obtain ⟨hl0,hc0⟩:=lz _ _ rfl
   have hnl:r.lens=[]:=List.eq_nil_of_length_eq_zero hl0
   have HXX:=q7 (show Value.slice none r.lens.length lc=.slice none 0 0 by rw[hl0,hc0])
   have HF:=q7 (show OJ w (qs r (.slice (some ⟨V0.heap.size,0,none⟩) r.lens.length 0) (.slice tn r.strips.length tc) (.slice so r.plan.spots.length sc) (.slice ko r.plan.curve.length kc)).toList [(3,1,(.slice (some ⟨V0.heap.size,0,none⟩) r.lens.length 0),r.lens.length,r.lens.map (Value.int .i64))] ((V0.alloc (Obj.cells #[] 3)).setCell ⟨w.heap.size,5,none⟩ (.slice (some ⟨V0.heap.size,0,none⟩) 0 0)) from by
    rw[hnl]
    exact ((HJA.out.row 3 1 _ 0 [] HOW.out).put 5 (.slice (some ⟨V0.heap.size,0,none⟩) 0 0)))
   clear hl0 hc0 hnl
   go_wp2_with (at_builtin;refine wpList_append_own_none rfl _ _ 22 rfl (w.heap.size+2) 3 i0 1 Tryz.underlying22 hi _ 0 [] rfl HOW.out HXX.out ?_)
   clear ci fi
   go_meet
   case rel=>exact ⟨rfl,_,_,HF.out⟩
  | some ad =>
   have HN:=q7 (show ∀j u,(r.lens.map (Value.int .i64))[j]?=some u→(V0.alloc (Obj.cells #[] 3)).cell? (ad.add j)=some u from Km _ (by
    obtain ⟨ao',cap',hv',_,h'⟩:=HIV.out
    cases hv'
    exact h'))
   have q1:(r.lens.map (Value.int .i64)).length=r.lens.length*1:=by simp
   have q3:∀u∈r.lens.map (Value.int .i64),u.oneCell'=true:=fun u hu=>by obtain ⟨z,_,rfl⟩:=List.mem_map.1 hu;rfl
   have q4:0+r.lens.length≤maxLen:=by unfold maxLen;omega
   have q5:(0+r.lens.length)*8≤140737488355328:=by omega
   have q6:w.heap.size+2≤(V0.alloc (Obj.cells #[] 3)).heap.size:=by have:=HJ.out.sz;simp;omega
   go_wp2_with (at_builtin;refine wpList_append_own _ rfl _ _ 22 rfl (w.heap.size+2) 3 i0 (.int .i64 0) 1 8 Tryz.underlying22 hi hz0 hz1 hz2 rfl (by decide) _ 0 [] rfl HOW.out ad r.lens.length lc (r.lens.map (Value.int .i64)) rfl q1 HN.out q3 q4 q5 q6 ?_)
   clear ci fi
   intro v' w1 hown hgrow hnil
   try rw[Nat.zero_add] at hown
   try rw[List.nil_append] at hown
   rcases id hown.2 with ⟨hv,_⟩|⟨g,cp,cur,rfl,_⟩
   ·exact (hnil hv).elim
   have HG:=q7 (HJA.out.grow hgrow rfl HJ.out hown)
   have ci:w1.cell? ⟨w.heap.size,5,none⟩=some (.slice (some ad) r.lens.length lc):=by rw[Lib.cell_of_heap HG.out.box];rfl
   have fi:w1.frozen? ⟨w.heap.size,5,none⟩=false:=Lib.frozen_of_heap HG.out.box _
   have HF:=q7 (HG.out.put 5 (.slice (some ⟨g,0,none⟩) r.lens.length cp))
   clear hown hgrow hnil
   go_wp2
   go_meet
   case rel=>exact ⟨rfl,_,_,HF.out⟩
 case rest =>
  obtain ⟨rfl,ao0,ca0,hJ⟩:=hcut
  replace HJ:=q7 hJ
  clear hJ
  generalize wc=V1 at *
  go_upto_region 2 with fail
  go_cut [1] from 8 (fun x v=>x=.pointer (some ⟨w.heap.size,0,none⟩)∧∃(ao':Option Addr) (ca':Nat),OJ w (qs r (.slice ao0 r.lens.length ca0) (.slice ao' r.strips.length ca') (.slice so r.plan.spots.length sc) (.slice ko r.plan.curve.length kc)).toList [(9,1,(.slice ao' r.strips.length ca'),r.strips.length,r.strips.map QS),(3,1,.slice ao0 r.lens.length ca0,r.lens.length,r.lens.map (Value.int .i64))] v)
  case first =>
   obtain ⟨i0,hi,hz0,hz1,hz2⟩:=info_parts Tryz.infoStrF
   have HJA:=q7 (HJ.out.low (qa V1 (Obj.cells #[] 9)))
   have ci:(V1.alloc (Obj.cells #[] 9)).cell? ⟨w.heap.size,6,none⟩=some (.slice tn r.strips.length tc):=by rw[Lib.cell_of_heap HJA.out.box];rfl
   have fi:(V1.alloc (Obj.cells #[] 9)).frozen? ⟨w.heap.size,6,none⟩=false:=Lib.frozen_of_heap HJA.out.box _
   have HOW:=q7 (World.ownsRow_made (base:=w.heap.size+2) (e:=9) (size:=1) V1 #[] 0 (by have:=HJ.out.sz;omega) (Nat.zero_le _) (by simp))
   have HIV:=q7 (HTI.out.below HJ.out.bel (Nat.le_refl _))
   cases tn with
   | none =>
    obtain ⟨hl0,hc0⟩:=tz _ _ rfl
    have hnl:r.strips=[]:=List.eq_nil_of_length_eq_zero hl0
    have HXX:=q7 (show Value.slice none r.strips.length tc=.slice none 0 0 by rw[hl0,hc0])
    have HF:=q7 (show OJ w (qs r (.slice ao0 r.lens.length ca0) (.slice (some ⟨V1.heap.size,0,none⟩) r.strips.length 0) (.slice so r.plan.spots.length sc) (.slice ko r.plan.curve.length kc)).toList [(9,1,(.slice (some ⟨V1.heap.size,0,none⟩) r.strips.length 0),r.strips.length,r.strips.map QS),(3,1,.slice ao0 r.lens.length ca0,r.lens.length,r.lens.map (Value.int .i64))] ((V1.alloc (Obj.cells #[] 9)).setCell ⟨w.heap.size,6,none⟩ (.slice (some ⟨V1.heap.size,0,none⟩) 0 0)) from by
     rw[hnl]
     exact ((HJA.out.row 9 1 _ 0 [] HOW.out).put 6 (.slice (some ⟨V1.heap.size,0,none⟩) 0 0)))
    clear hl0 hc0 hnl
    go_wp2_with (at_builtin;refine wpList_append_own_none rfl _ _ 23 rfl (w.heap.size+2) 9 i0 1 Tryz.underlying23 hi _ 0 [] rfl HOW.out HXX.out ?_)
    clear ci fi
    go_meet
    case rel=>exact ⟨rfl,_,_,HF.out⟩
   | some ad =>
    have HN:=q7 (show ∀j u,(r.strips.map QS)[j]?=some u→(V1.alloc (Obj.cells #[] 9)).cell? (ad.add j)=some u from q2f _ (by
     obtain ⟨ao',cap',hv',_,h'⟩:=HIV.out
     cases hv'
     exact h'))
    have q1:(r.strips.map QS).length=r.strips.length*1:=by simp
    have q3:∀u∈r.strips.map QS,u.oneCell'=true:=fun u hu=>by obtain ⟨z,_,rfl⟩:=List.mem_map.1 hu;rfl
    have q4:0+r.strips.length≤maxLen:=by unfold maxLen;omega
    have q5:(0+r.strips.length)*16≤140737488355328:=by omega
    have q6:w.heap.size+2≤(V1.alloc (Obj.cells #[] 9)).heap.size:=by have:=HJ.out.sz;simp;omega
    go_wp2_with (at_builtin;refine wpList_append_own _ rfl _ _ 23 rfl (w.heap.size+2) 9 i0 (.string ⟨#[]⟩) 1 16 Tryz.underlying23 hi hz0 hz1 hz2 rfl (by decide) _ 0 [] rfl HOW.out ad r.strips.length tc (r.strips.map QS) rfl q1 HN.out q3 q4 q5 q6 ?_)
    clear ci fi
    intro v' w1 hown hgrow hnil
    try rw[Nat.zero_add] at hown
    try rw[List.nil_append] at hown
    rcases id hown.2 with ⟨hv,_⟩|⟨g,cp,cur,rfl,_⟩
    ·exact (hnil hv).elim
    have HG:=q7 (HJA.out.grow hgrow rfl HJ.out hown)
    have ci:w1.cell? ⟨w.heap.size,6,none⟩=some (.slice (some ad) r.strips.length tc):=by rw[Lib.cell_of_heap HG.out.box];rfl
    have fi:w1.frozen? ⟨w.heap.size,6,none⟩=false:=Lib.frozen_of_heap HG.out.box _
    have HF:=q7 (HG.out.put 6 (.slice (some ⟨g,0,none⟩) r.strips.length cp))
    clear hown hgrow hnil
    go_wp2
    go_meet
    case rel=>exact ⟨rfl,_,_,HF.out⟩
  case rest =>
   obtain ⟨rfl,ao1,ca1,hJ⟩:=hcut
   replace HJ:=q7 hJ
   clear hJ
   generalize wc=V2 at *
   go_upto_region 3 with fail
   go_cut [1] from 13 (fun x v=>x=.pointer (some ⟨w.heap.size,0,none⟩)∧∃(ao':Option Addr) (ca':Nat),OJ w (qs r (.slice ao0 r.lens.length ca0) (.slice ao1 r.strips.length ca1) (.slice ao' r.plan.spots.length ca') (.slice ko r.plan.curve.length kc)).toList [(77,2,(.slice ao' r.plan.spots.length ca'),r.plan.spots.length,r.plan.spots.flatMap ptL),(9,1,.slice ao1 r.strips.length ca1,r.strips.length,r.strips.map QS),(3,1,.slice ao0 r.lens.length ca0,r.lens.length,r.lens.map (Value.int .i64))] v)
   case first =>
    obtain ⟨i0,hi,hz0,hz1,hz2⟩:=info_parts Tryz.infoSpot
    have HJA:=q7 (HJ.out.low (qa V2 (Obj.cells #[] 77)))
    have ci:(V2.alloc (Obj.cells #[] 77)).cell? ⟨w.heap.size,13,none⟩=some (.slice so r.plan.spots.length sc):=by rw[Lib.cell_of_heap HJA.out.box];rfl
    have fi:(V2.alloc (Obj.cells #[] 77)).frozen? ⟨w.heap.size,13,none⟩=false:=Lib.frozen_of_heap HJA.out.box _
    have HOW:=q7 (World.ownsRow_made (base:=w.heap.size+2) (e:=77) (size:=2) V2 #[] 0 (by have:=HJ.out.sz;omega) (Nat.zero_le _) (by simp))
    have HIV:=q7 (HSI.out.below HJ.out.bel (Nat.le_refl _))
    cases so with
    | none =>
     obtain ⟨hl0,hc0⟩:=sz _ _ rfl
     have hnl:r.plan.spots=[]:=List.eq_nil_of_length_eq_zero hl0
     have HXX:=q7 (show Value.slice none r.plan.spots.length sc=.slice none 0 0 by rw[hl0,hc0])
     have HF:=q7 (show OJ w (qs r (.slice ao0 r.lens.length ca0) (.slice ao1 r.strips.length ca1) (.slice (some ⟨V2.heap.size,0,none⟩) r.plan.spots.length 0) (.slice ko r.plan.curve.length kc)).toList [(77,2,(.slice (some ⟨V2.heap.size,0,none⟩) r.plan.spots.length 0),r.plan.spots.length,r.plan.spots.flatMap ptL),(9,1,.slice ao1 r.strips.length ca1,r.strips.length,r.strips.map QS),(3,1,.slice ao0 r.lens.length ca0,r.lens.length,r.lens.map (Value.int .i64))] ((V2.alloc (Obj.cells #[] 77)).setCell ⟨w.heap.size,13,none⟩ (.slice (some ⟨V2.heap.size,0,none⟩) 0 0)) from by
      rw[hnl]
      exact ((HJA.out.row 77 2 _ 0 [] HOW.out).put 13 (.slice (some ⟨V2.heap.size,0,none⟩) 0 0)))
     clear hl0 hc0 hnl
     go_wp2_with (at_builtin;refine wpList_append_own_none rfl _ _ 25 rfl (w.heap.size+2) 77 i0 2 Tryz.underlying25 hi _ 0 [] rfl HOW.out HXX.out ?_)
     clear ci fi
     go_meet
     case rel=>exact ⟨rfl,_,_,HF.out⟩
    | some ad =>
     have HN:=q7 (show ∀j u,(r.plan.spots.flatMap ptL)[j]?=some u→(V2.alloc (Obj.cells #[] 77)).cell? (ad.add j)=some u from Zh _ (by
      obtain ⟨ao',cap',hv',_,h'⟩:=HIV.out
      cases hv'
      exact h'))
     have q1:(r.plan.spots.flatMap ptL).length=r.plan.spots.length*2:=by rw[jc]
     have q3:∀u∈r.plan.spots.flatMap ptL,u.oneCell'=true:=fun u hu=>by exact QF _ u hu
     have q4:0+r.plan.spots.length≤maxLen:=by unfold maxLen;omega
     have q5:(0+r.plan.spots.length)*16≤140737488355328:=by omega
     have q6:w.heap.size+2≤(V2.alloc (Obj.cells #[] 77)).heap.size:=by have:=HJ.out.sz;simp;omega
     go_wp2_with (at_builtin;refine wpList_append_own _ rfl _ _ 25 rfl (w.heap.size+2) 77 i0 spZ 2 16 Tryz.underlying25 hi hz0 hz1 hz2 rfl (by decide) _ 0 [] rfl HOW.out ad r.plan.spots.length sc (r.plan.spots.flatMap ptL) rfl q1 HN.out q3 q4 q5 q6 ?_)
     clear ci fi
     intro v' w1 hown hgrow hnil
     try rw[Nat.zero_add] at hown
     try rw[List.nil_append] at hown
     rcases id hown.2 with ⟨hv,_⟩|⟨g,cp,cur,rfl,_⟩
     ·exact (hnil hv).elim
     have HG:=q7 (HJA.out.grow hgrow rfl HJ.out hown)
     have ci:w1.cell? ⟨w.heap.size,13,none⟩=some (.slice (some ad) r.plan.spots.length sc):=by rw[Lib.cell_of_heap HG.out.box];rfl
     have fi:w1.frozen? ⟨w.heap.size,13,none⟩=false:=Lib.frozen_of_heap HG.out.box _
     have HF:=q7 (HG.out.put 13 (.slice (some ⟨g,0,none⟩) r.plan.spots.length cp))
     clear hown hgrow hnil
     go_wp2
     go_meet
     case rel=>exact ⟨rfl,_,_,HF.out⟩
   case rest =>
    obtain ⟨rfl,ao2,ca2,hJ⟩:=hcut
    replace HJ:=q7 hJ
    clear hJ
    generalize wc=V3 at *
    go_upto_region 4 with fail
    go_cut [1] from 20 (fun x v=>x=.pointer (some ⟨w.heap.size,0,none⟩)∧∃(ao':Option Addr) (ca':Nat),OJ w (qs r (.slice ao0 r.lens.length ca0) (.slice ao1 r.strips.length ca1) (.slice ao2 r.plan.spots.length ca2) (.slice ao' r.plan.curve.length ca')).toList [(78,2,(.slice ao' r.plan.curve.length ca'),r.plan.curve.length,r.plan.curve.flatMap ptL),(77,2,.slice ao2 r.plan.spots.length ca2,r.plan.spots.length,r.plan.spots.flatMap ptL),(9,1,.slice ao1 r.strips.length ca1,r.strips.length,r.strips.map QS),(3,1,.slice ao0 r.lens.length ca0,r.lens.length,r.lens.map (Value.int .i64))] v)
    case first =>
     obtain ⟨i0,hi,hz0,hz1,hz2⟩:=info_parts Tryz.infoPoint
     have HJA:=q7 (HJ.out.low (qa V3 (Obj.cells #[] 78)))
     have ci:(V3.alloc (Obj.cells #[] 78)).cell? ⟨w.heap.size,26,none⟩=some (.slice ko r.plan.curve.length kc):=by rw[Lib.cell_of_heap HJA.out.box];rfl
     have fi:(V3.alloc (Obj.cells #[] 78)).frozen? ⟨w.heap.size,26,none⟩=false:=Lib.frozen_of_heap HJA.out.box _
     have HOW:=q7 (World.ownsRow_made (base:=w.heap.size+2) (e:=78) (size:=2) V3 #[] 0 (by have:=HJ.out.sz;omega) (Nat.zero_le _) (by simp))
     have HIV:=q7 (HCI.out.below HJ.out.bel (Nat.le_refl _))
     cases ko with
     | none =>
      obtain ⟨hl0,hc0⟩:=cz _ _ rfl
      have hnl:r.plan.curve=[]:=List.eq_nil_of_length_eq_zero hl0
      have HXX:=q7 (show Value.slice none r.plan.curve.length kc=.slice none 0 0 by rw[hl0,hc0])
      have HF:=q7 (show OJ w (qs r (.slice ao0 r.lens.length ca0) (.slice ao1 r.strips.length ca1) (.slice ao2 r.plan.spots.length ca2) (.slice (some ⟨V3.heap.size,0,none⟩) r.plan.curve.length 0)).toList [(78,2,(.slice (some ⟨V3.heap.size,0,none⟩) r.plan.curve.length 0),r.plan.curve.length,r.plan.curve.flatMap ptL),(77,2,.slice ao2 r.plan.spots.length ca2,r.plan.spots.length,r.plan.spots.flatMap ptL),(9,1,.slice ao1 r.strips.length ca1,r.strips.length,r.strips.map QS),(3,1,.slice ao0 r.lens.length ca0,r.lens.length,r.lens.map (Value.int .i64))] ((V3.alloc (Obj.cells #[] 78)).setCell ⟨w.heap.size,26,none⟩ (.slice (some ⟨V3.heap.size,0,none⟩) 0 0)) from by
       rw[hnl]
       exact ((HJA.out.row 78 2 _ 0 [] HOW.out).put 26 (.slice (some ⟨V3.heap.size,0,none⟩) 0 0)))
      clear hl0 hc0 hnl
      go_wp2_with (at_builtin;refine wpList_append_own_none rfl _ _ 28 rfl (w.heap.size+2) 78 i0 2 Tryz.underlying28 hi _ 0 [] rfl HOW.out HXX.out ?_)
      clear ci fi
      go_meet
      case rel=>exact ⟨rfl,_,_,HF.out⟩
     | some ad =>
      have HN:=q7 (show ∀j u,(r.plan.curve.flatMap ptL)[j]?=some u→(V3.alloc (Obj.cells #[] 78)).cell? (ad.add j)=some u from Zh _ (by
       obtain ⟨ao',cap',hv',_,h'⟩:=HIV.out
       cases hv'
       exact h'))
      have q1:(r.plan.curve.flatMap ptL).length=r.plan.curve.length*2:=by rw[jc]
      have q3:∀u∈r.plan.curve.flatMap ptL,u.oneCell'=true:=fun u hu=>by exact QF _ u hu
      have q4:0+r.plan.curve.length≤maxLen:=by unfold maxLen;omega
      have q5:(0+r.plan.curve.length)*16≤140737488355328:=by omega
      have q6:w.heap.size+2≤(V3.alloc (Obj.cells #[] 78)).heap.size:=by have:=HJ.out.sz;simp;omega
      go_wp2_with (at_builtin;refine wpList_append_own _ rfl _ _ 28 rfl (w.heap.size+2) 78 i0 spZ 2 16 Tryz.underlying28 hi hz0 hz1 hz2 rfl (by decide) _ 0 [] rfl HOW.out ad r.plan.curve.length kc (r.plan.curve.flatMap ptL) rfl q1 HN.out q3 q4 q5 q6 ?_)
      clear ci fi
      intro v' w1 hown hgrow hnil
      try rw[Nat.zero_add] at hown
      try rw[List.nil_append] at hown
      rcases id hown.2 with ⟨hv,_⟩|⟨g,cp,cur,rfl,_⟩
      ·exact (hnil hv).elim
      have HG:=q7 (HJA.out.grow hgrow rfl HJ.out hown)
      have ci:w1.cell? ⟨w.heap.size,26,none⟩=some (.slice (some ad) r.plan.curve.length kc):=by rw[Lib.cell_of_heap HG.out.box];rfl
      have fi:w1.frozen? ⟨w.heap.size,26,none⟩=false:=Lib.frozen_of_heap HG.out.box _
      have HF:=q7 (HG.out.put 26 (.slice (some ⟨g,0,none⟩) r.plan.curve.length cp))
      clear hown hgrow hnil
      go_wp2
      go_meet
      case rel=>exact ⟨rfl,_,_,HF.out⟩
    case rest =>
     obtain ⟨rfl,ao3,ca3,hJ⟩:=hcut
     replace HJ:=q7 hJ
     clear hJ
     generalize wc=V4 at *
     have f5:=HJ.out.rows (3,1,.slice ao0 r.lens.length ca0,r.lens.length,r.lens.map (Value.int .i64)) (by simp)
     have f6:=HJ.out.rows (9,1,.slice ao1 r.strips.length ca1,r.strips.length,r.strips.map QS) (by simp)
     have f13:=HJ.out.rows (77,2,.slice ao2 r.plan.spots.length ca2,r.plan.spots.length,r.plan.spots.flatMap ptL) (by simp)
     have f26:=HJ.out.rows (78,2,.slice ao3 r.plan.curve.length ca3,r.plan.curve.length,r.plan.curve.flatMap ptL) (by simp)
     simp only at f5 f6 f13 f26
     have hIR:jl V4 r (.slice ao0 r.lens.length ca0) (.slice ao1 r.strips.length ca1) (.slice ao2 r.plan.spots.length ca2) (.slice ao3 r.plan.curve.length ca3):=⟨qd.own (base:=w.heap.size+2) f5 hx1,jk.own (base:=w.heap.size+2) f6 hx3,qX.own (base:=w.heap.size+2) f13 hx5,qX.own (base:=w.heap.size+2) f26 hx7⟩
     obtain ⟨RB,hRB⟩:∃RB,(qs r (.slice ao0 r.lens.length ca0) (.slice ao1 r.strips.length ca1) (.slice ao2 r.plan.spots.length ca2) (.slice ao3 r.plan.curve.length ca3))=RB:=⟨_,rfl⟩
     have d1:V4.heap[w.heap.size]?=some (.cells RB 32 (0,0)):=by rw[←hRB];exact HJ.out.box
     have g3:=HJ.out.res
     have i1:(Tryz.prog.info? 32).map (·.size)=some RB.size:=by rw[←hRB];kernel_rfl
     have i2:(qr:Array Value).size=RB.size:=by rw[←hRB];rfl
     have hos:RB.all (·.oneCell')=true:=by rw[←hRB];exact zH hIR
     have HG:=q7 (setRow_heap _ _ _ RB _ _ g3)
     have HBF:=q7 (below_setRow (g:=w.heap.size+1) HJ.out.bel (by omega) RB)
     have z1:=qn.own f5
     have z2:=qn.own f6
     have z3:=qn.own f13
     have z4:=qn.own f26
     have HIF:=q7 (hIR.other (k:=w.heap.size+1) (w':=V4.setRow (w.heap.size+1) RB) (B:=w.heap.size+2) (by simp) (fun b hb=>setRow_other _ _ _ _ hb) (by omega) z1 z2 z3 z4)
     have HFZ:=q7 (show qn w.heap.size (.slice ao0 r.lens.length ca0)∧qn w.heap.size (.slice ao1 r.strips.length ca1)∧qn w.heap.size (.slice ao2 r.plan.spots.length ca2)∧qn w.heap.size (.slice ao3 r.plan.curve.length ca3) from ⟨z1.mono (by omega),z2.mono (by omega),z3.mono (by omega),z4.mono (by omega)⟩)
     have HRB:=q7 hRB
     clear hRB hIR f5 f6 f13 f26 z1 z2 z3 z4 HJ
     go_wp2_with (first|refine wpList_load_row rfl 32 _ rfl _ rfl _ _ _ _ d1 Tryz.underlying32 rfl i1 ?_|refine wpList_store_row rfl 32 _ _ rfl (w.heap.size+1) RB rfl rfl _ _ g3 i1 i2 hos ?_)
     refine bodyPost_ret (v:=.agg RB) (results_cell_row Tryz.results37 _ _ _ _ _ _ _ rfl HG.out Tryz.underlying32 rfl i1) rfl ⟨_,_,_,_,by rw[HRB.out],HIF.out,HBF.out,HFZ.out⟩
end Go.Proofs.YtanebhbfekcplaaGreat

namespace Go.Proofs.YtanebhbfekcplaaGreat
set_option linter.unusedVariables false
open Go.RowKit
def Jy (d:Int) (xs:List Int):Bool:=xs.all fun n=>decide (n≤2 ^ d.toNat-1)
theorem q3l {d:Int} {xs:List Int} (h:∀x∈xs,0≤x):Jy d xs=zm d xs:=by
 unfold Jy zm qF
 induction xs with
 | nil=>rfl
 | cons x xs ih =>
  have h0:=h x (by simp)
  rw[List.all_cons,List.all_cons,ih (fun y hy=>h y (by simp[hy]))]
  congr 1
  exact decide_eq_decide.2 ⟨fun h=>⟨h0,h⟩,fun h=>h.2⟩
theorem KF {d:Int} {xs:List Int} {k:Nat} (hk:k<xs.length) (h:¬xs[k]≤2 ^ d.toNat-1):Jy d xs=false:=by
 rw[Bool.eq_false_iff];intro he
 exact h (of_decide_eq_true (List.all_eq_true.1 he _ (List.getElem_mem hk)))
theorem q1f {d:Int} {xs:List Int} {k:Nat} (hk:k<xs.length) (h:Jy d (xs.take k)=true) (h2:xs[k]≤2 ^ d.toNat-1):Jy d (xs.take (k+1))=true:=by
 unfold Jy at h ⊢
 rw[List.take_succ_eq_append_getElem hk,List.all_append,h]
 simp[h2]
set_option maxRecDepth 100000 in
set_option maxHeartbeats 1600000 in
theorem q05 (v:Value) (xs:List Int) (d:Int) (w:World) (hd:1≤d∧d≤16) (hv:qd w v xs) :
  Calls Tryz.prog 36 #[v,.int .i64 d] w fun e w'=>e=.returned (.bool (Jy d xs))∧Below w.heap.size w w':=by
 obtain ⟨q1,q2,q3⟩:=q2O hd
 obtain ⟨ao,ca,rfl,hxl,hc⟩:=hv
 have HSF:=q7 (fun k (hk:k<xs.length) (h:¬xs[k]≤2 ^ d.toNat-1)=>KF (d:=d) hk h)
 have HST:=q7 (fun k (hk:k<xs.length) (h:Jy d (xs.take k)=true) (h2:xs[k]≤2 ^ d.toNat-1)=>q1f (d:=d) hk h h2)
 have HS0:=q7 (show Jy d (xs.take 0)=true from rfl)
 have HSL:=q7 (show Jy d xs=Jy d (xs.take xs.length) by rw[List.take_length])
 obtain ⟨D,rfl⟩:∃D:Nat,d=D:=⟨d.toNat,by omega⟩
 rw[Int.toNat_natCast] at HSF HST q1 q2 q3
 generalize Jy (D:Int)=SB at *
 obtain ⟨X,hX⟩:∃X:Int,(2:Int) ^ D=X:=⟨_,rfl⟩
 rw[hX] at HSF HST q1 q2 q3
 have hx2:(1:Int)*2 ^ D=X:=by rw[hX,Int.one_mul]
 have t1:IntKind.i64.wrap X=X:=IntWalk.i64_in _ (by omega)
 have hsh:((1:Int) <<< D)=X:=by rw[Int.shiftLeft_eq,hX,Int.one_mul]
 go_enter Tryz.func36,Tryz.ntmps36
 go_wp2_with fail
 go_loopw [5] (fun i wr=>∃k:Nat,k≤xs.length∧i=.int .i64 k∧Hid (SB (xs.take k)=true)∧Below w.heap.size w wr) (fun i _=>xs.length-(intOf i).toNat)
 case atStart=>exact ⟨0,Nat.zero_le _,rfl,HS0.out,Below.refl _ _⟩
 case round =>
  obtain ⟨k,hk,rfl,HJ,hbel⟩:=hrel
  by_cases hlt:k<xs.length
  ·have hd:decide ((k:Int)<(xs.length:Int))=true:=by simp;omega
   obtain ⟨b,off,rfl,hb,hcell⟩:∃b off,ao=some ⟨b,off,none⟩∧b<w.heap.size∧wr.cell? ⟨b,off+k,none⟩=some (.int .i64 xs[k]):=by
    rcases hc with h|⟨b,off,h1,h2,h3⟩
    ·rw[h] at hlt;simp at hlt
    ·exact ⟨b,off,h1,h2,(hbel.cell (p:=⟨b,off+k,none⟩) h2).trans (h3 k hlt)⟩
   have HF:=q7 (HSF.out k hlt)
   have HT:=q7 (HST.out k hlt HJ.out)
   obtain ⟨z,hz⟩:∃z,xs[k]=z:=⟨_,rfl⟩
   rw[hz] at hcell HF HT
   by_cases hle:z≤X-1
   ·have hdz:decide (X-1<z)=false:=decide_eq_false (by omega)
    have HT2:=q7 (HT.out hle)
    go_upto_region 4 with fail
    go_quiet (fail)
    go_wp2
    go_roundw
    case rel=>exact ⟨k+1,hlt,by go_num,HT2.out,below_drewN hbel _⟩
    case measure=>simp[intOf];omega
   ·have hdz:decide (X-1<z)=true:=decide_eq_true (by omega)
    have HF2:=q7 (HF.out (by first|exact hle|omega))
    go_upto_region 4 with fail
    go_quiet (fail)
    go_wp2
    go_ret
    exact ⟨qg HF2.out.symm,below_drewN hbel _⟩
  ·have hd:decide ((k:Int)<(xs.length:Int))=false:=by simp;omega
   obtain rfl:xs.length=k:=by omega
   have HF:=q7 (HSL.out.trans HJ.out)
   go_wp2
   go_ret
   exact ⟨qg HF.out.symm,hbel⟩
end Go.Proofs.YtanebhbfekcplaaGreat

namespace Go.Proofs.YtanebhbfekcplaaGreat
open Go.RowKit
theorem q0C (W H:Int) (v:Value) (zs:List Int) (x y:Int) (X Y WN k:Nat) (w:World) (hv:qd w v zs) (hW:W=WN) (hx:x=X) (hy:y=Y) (hm:Y*WN+X=k) (hk:k<zs.length) (hk2:zs.length≤4096) :
  Calls Tryz.prog 125 #[.agg #[.int .i64 W,.int .i64 H,v],.int .i64 x,.int .i64 y] w fun e w'=>e=.returned (.int .i64 (zs.getD k 0))∧Below w.heap.size w w':=by
 subst hx hy
 obtain ⟨ao,ca,rfl,hla,hc⟩:=hv
 obtain ⟨bk,off,hao,hbl,hcell⟩:∃b off,ao=some ⟨b,off,none⟩∧b<w.heap.size∧∀j (h:j<zs.length),w.cell? ⟨b,off+j,none⟩=some (.int .i64 zs[j]):=by
  rcases hc with h|h
  ·subst h;simp at hk
  ·exact h
 subst hao hW
 have hc1:∀o,(w.alloc o).cell? ⟨bk,off+k,none⟩=some (.int .i64 (zs.getD k 0)):=fun o=>by
  rw[World.cell?_of_block (w:=w) (Below.heap_alloc w o bk hbl),hcell k hk];simp[List.getD,hk]
 clear hcell hc
 obtain ⟨M,hM⟩:∃M:Nat,M=Y*WN:=⟨_,rfl⟩
 have hmm:(Y:Int)*(WN:Int)=(M:Int):=by rw[hM];simp
 rw[←hM] at hm
 have hat:(M:Int)+(X:Int)=(k:Int):=by omega
 clear hM
 generalize zs.getD k 0=Z at *
 go_enter Tryz.func125,Tryz.ntmps125
 go_wp2
 go_ret
 exact ⟨rfl,qa _ _⟩
end Go.Proofs.YtanebhbfekcplaaGreat

namespace Go.Proofs.YtanebhbfekcplaaGreat
open Go.RowKit
theorem q0W (n:Int) (b:Nat):(0≤n∧n.tdiv b=n / b)∨(n<0∧n.tdiv b=-((-n) / b)):=by
 by_cases h:0≤n
 ·exact .inl ⟨h,Int.tdiv_eq_ediv_of_nonneg h⟩
 ·refine .inr ⟨by omega,?_⟩
  have:=Int.neg_tdiv (-n) b
  rw[Int.neg_neg] at this
  rw[this,Int.tdiv_eq_ediv_of_nonneg (by omega)]
set_option maxRecDepth 100000 in
theorem Zx (n:Int) (h0:-4000000≤n) (h1:n≤4000000) (w:World) :
  Calls Tryz.prog 115 #[.int .i64 n,.int .i64 2] w fun e w'=>e=.returned (.int .i64 (n / 2))∧w=w':=by
 have hc:=q0W n 2
 obtain ⟨q,hq⟩:∃q,n.tdiv 2=q:=⟨_,rfl⟩
 simp only[show ((2:Nat):Int)=2 from rfl,hq] at hc
 by_cases ht:n<q*2
 ·have hd:decide (n<q*2)=true:=by simpa using ht
  have HE:=q7 (show q-1=n / 2 by omega)
  have hb:-4000001≤q∧q≤4000000:=by omega
  clear hc ht
  go_enter Tryz.func115,Tryz.ntmps115
  go_wp2
  go_ret
  exact ⟨qt HE.out,rfl⟩
 ·have hd:decide (n<q*2)=false:=by simpa using ht
  have HE:=q7 (show q=n / 2 by omega)
  have hb:-4000001≤q∧q≤4000000:=by omega
  clear hc ht
  go_enter Tryz.func115,Tryz.ntmps115
  go_wp2
  go_ret
  exact ⟨qt HE.out,rfl⟩
set_option maxRecDepth 100000 in
set_option maxHeartbeats 400000 in
theorem QN (d:Int) (h0:-32768<d) (h1:d≤32768) (w:World) :
  Calls Tryz.prog 73 #[.int .i64 d] w fun e w'=>e=.returned (.int .i64 (cls d:Nat))∧w=w':=by
 have hN:∃N:Nat,N≤32768∧(d=N∨(d=-(N:Int)∧0<N)):=⟨d.natAbs,by omega,by omega⟩
 obtain ⟨N,hNb,hN⟩:=hN
 have HB:=q7 (show Jh N≤16 from Zy (by omega))
 have HC:=q7 (show Jh N=cls d by rw[cls];congr 1;omega)
 clear h0 h1
 generalize cls d=C at *
 rcases hN with rfl|⟨rfl,hpos⟩
 ·have hdc:decide ((N:Int) < -(N:Int))=false:=by simp
  go_enter Tryz.func73,Tryz.ntmps73
  go_wp2
  go_loop [3,4] (fun c n=>∃k:Nat,k≤16∧c=.int .i64 k∧n=.int .i64 ((N / 2 ^ k:Nat):Int)∧Hid (k≤Jh N)) (fun c _=>16-(intOf c).toNat)
  case atStart=>exact ⟨0,by omega,rfl,by (simp;try omega),by show _≤_;omega⟩
  case round =>
   obtain ⟨k,hk,rfl,rfl,HK⟩:=hrel
   have HH:=q7 (q0s N k)
   have HM:=q7 (@J7 N k)
   have HD:=q7 (@Je N k)
   have hle:N / 2 ^ k≤32768:=Nat.le_trans (Nat.div_le_self _ _) hNb
   generalize N / 2 ^ k=n at *
   by_cases hn:n=0
   ·subst hn
    have HE:=q7 (show (k:Int)=(C:Nat) by rw[←HC.out];have:=HD.out rfl;have:=HK.out;omega)
    go_wp2
    go_ret
    exact ⟨qt HE.out,rfl⟩
   ·have hlt:=HM.out hn
    have HK2:Hid (k+1≤Jh N):=hlt
    have hk2:k+1≤16:=by have:=HB.out;omega
    clear hlt
    go_wp2
    go_round
    case rel=>exact ⟨k+1,hk2,by go_num,by rw[HH.out];go_num,HK2⟩
    case measure=>simp[intOf];omega
 ·have hdc:decide (-(N:Int) < - -(N:Int))=true:=by simp;omega
  have hdd:decide (-(N:Int)<(N:Int))=true:=by simp;omega
  have hnn:- -(N:Int)=(N:Int):=Int.neg_neg _
  go_enter Tryz.func73,Tryz.ntmps73
  go_wp2
  go_loop [3,4] (fun c n=>∃k:Nat,k≤16∧c=.int .i64 k∧n=.int .i64 ((N / 2 ^ k:Nat):Int)∧Hid (k≤Jh N)) (fun c _=>16-(intOf c).toNat)
  case atStart=>exact ⟨0,by omega,rfl,by (simp;try omega),by show _≤_;omega⟩
  case round =>
   obtain ⟨k,hk,rfl,rfl,HK⟩:=hrel
   have HH:=q7 (q0s N k)
   have HM:=q7 (@J7 N k)
   have HD:=q7 (@Je N k)
   have hle:N / 2 ^ k≤32768:=Nat.le_trans (Nat.div_le_self _ _) hNb
   generalize N / 2 ^ k=n at *
   by_cases hn:n=0
   ·subst hn
    have HE:=q7 (show (k:Int)=(C:Nat) by rw[←HC.out];have:=HD.out rfl;have:=HK.out;omega)
    go_wp2
    go_ret
    exact ⟨qt HE.out,rfl⟩
   ·have hlt:=HM.out hn
    have HK2:Hid (k+1≤Jh N):=hlt
    have hk2:k+1≤16:=by have:=HB.out;omega
    clear hlt
    go_wp2
    go_round
    case rel=>exact ⟨k+1,hk2,by go_num,by rw[HH.out];go_num,HK2⟩
    case measure=>simp[intOf];omega
end Go.Proofs.YtanebhbfekcplaaGreat

namespace Go.Proofs.YtanebhbfekcplaaGreat
open Go.RowKit
set_option maxRecDepth 100000 in
set_option maxHeartbeats 400000 in
theorem JE (s g:Int) (hs:0≤s∧s≤65535) (hg:-65536≤g∧g≤131070) (w:World) :
  Calls Tryz.prog 124 #[.int .i64 s,.int .i64 g] w fun e w'=>e=.returned (.int .i64 (dif s g))∧w=w':=by
 have HD:=q7 (show ∀d:Int,-32768<d→d≤32768→(d-(s-g)) % 65536=0→d=dif s g from fun d a b c=>by unfold dif;split<;>omega)
 go_enter Tryz.func124,Tryz.ntmps124
 go_wp2
 go_loop [5] (fun v=>∃d:Int,v=.int .i64 d∧-131070≤d∧d≤131071∧(d-(s-g)) % 65536=0) (fun v=>(intOf v+200000).toNat)
 case atStart=>exact ⟨s-g,rfl,by omega,by omega,by omega⟩
 case round =>
  obtain ⟨d,rfl,q1,q2,q3⟩:=hrel
  by_cases h:32768<d
  ·go_wp2
   go_round
   case rel=>exact ⟨d-65536,rfl,by omega,by omega,by omega⟩
   case measure=>simp[intOf];omega
  ·go_wp2
   go_loop [5] (fun v=>∃d:Int,v=.int .i64 d∧-131070≤d∧d≤32768∧(d-(s-g)) % 65536=0) (fun v=>(200000-intOf v).toNat)
   case atStart=>exact ⟨d,rfl,by omega,by omega,by omega⟩
   case round =>
    obtain ⟨d,rfl,q1,q2,q3⟩:=hrel
    by_cases h:d≤-32768
    ·go_wp2
     go_round
     case rel=>exact ⟨d+65536,rfl,by omega,by omega,by omega⟩
     case measure=>simp[intOf];omega
    ·have HE:=q7 (HD.out d (by omega) q2 q3)
     go_wp2
     go_ret
     exact ⟨qt HE.out,rfl⟩
set_option maxRecDepth 100000 in
set_option maxHeartbeats 400000 in
theorem q31 (d:Int) (h0:-32768<d) (h1:d≤32768) (w:World) :
  Calls Tryz.prog 74 #[.int .i64 d] w fun e w'=>e=.returned (.string (str (jv d)))∧Below w.heap.size w w':=by
 have hcl:=XH h0 h1
 obtain ⟨C,hC⟩:∃C,C=cls d:=⟨_,rfl⟩
 have HCO:=q7 (QN d h0 h1)
 rw[←hC] at hcl HCO
 by_cases hz:C=0
 ·have HE:=q7 (show ⟨#[]⟩=str (jv d) by rw[jv,if_pos (.inl (hC ▸ hz))];rfl)
  clear hC
  subst hz
  go_enter Tryz.func74,Tryz.ntmps74
  go_wp2_with (go_at_call 73;refine (HCO.out _).mono ?_;rintro e w1 ⟨rfl,rfl⟩)
  go_ret
  exact ⟨congrArg (fun x=>Ending.returned (.string x)) HE.out,Below.refl _ _⟩
 by_cases ht:C=16
 ·have HE:=q7 (show ⟨#[]⟩=str (jv d) by rw[jv,if_pos (.inr (hC ▸ ht))];rfl)
  clear hC
  subst ht
  go_enter Tryz.func74,Tryz.ntmps74
  go_wp2_with (go_at_call 73;refine (HCO.out _).mono ?_;rintro e w1 ⟨rfl,rfl⟩)
  go_ret
  exact ⟨congrArg (fun x=>Ending.returned (.string x)) HE.out,Below.refl _ _⟩
 have HE:=q7 (show str (qf (JF d) C)=str (jv d) by rw[jv,if_neg (by omega),←hC])
 obtain ⟨hlt,hN⟩:=Yz d (by omega)
 rw[←hC] at hlt hN
 have HLT:=q7 hlt
 have hw:=zX (n:=C) (by omega)
 have hp:=Jw (n:=C) (by omega)
 have HLT6:=q7 (show JF d<65536 from Nat.lt_of_lt_of_le hlt hp)
 rw[jo] at hN
 have hb0:((C:Int) == 0)=false:=by simp;omega
 have hb16:((C:Int) == 16)=false:=by simp;omega
 have hd0:d≠0:=fun e=>by rw[e] at hC;exact hz hC
 clear hC hlt
 generalize JF d=N at *
 by_cases hneg:d<0
 ·have hd:decide (0<d)=false:=by simp;omega
  rw[if_pos hneg] at hN
  obtain ⟨p,hpe⟩:∃p:Nat,2 ^ C=p:=⟨_,rfl⟩
  rw[hpe] at hN hp hw
  have HPE:=q7 hpe
  clear hpe
  go_enter Tryz.func74,Tryz.ntmps74
  go_wp2_with (go_at_call 73;refine (HCO.out _).mono ?_;rintro e w1 ⟨rfl,rfl⟩)
  refine (Q1 _ _ N C (by rw[hN]) rfl (by omega) HLT6.out _).mono ?_
  rintro e w1 ⟨rfl,hb1⟩
  go_wp2
  go_ret
  exact ⟨congrArg (fun x=>Ending.returned (.string x)) HE.out,hb1⟩
 ·have hd:decide (0<d)=true:=by simp;omega
  rw[if_neg hneg] at hN
  clear hw hp
  go_enter Tryz.func74,Tryz.ntmps74
  go_wp2_with (go_at_call 73;refine (HCO.out _).mono ?_;rintro e w1 ⟨rfl,rfl⟩)
  refine (Q1 _ _ N C (by rw[hN]) rfl (by omega) HLT6.out _).mono ?_
  rintro e w1 ⟨rfl,hb1⟩
  go_wp2
  go_ret
  exact ⟨congrArg (fun x=>Ending.returned (.string x)) HE.out,hb1⟩
set_option maxRecDepth 100000 in
set_option maxHeartbeats 800000 in
theorem KV (v:Value) (zs:List Int) (W X Y:Nat) (H kind:Int) (k:Nat) (w:World) (hv:qd w v zs) (hW1:1≤W) (hW:W≤64) (hk:k<zs.length) (hl:zs.length≤4096) (hz:jn zs=true) (hX:X=k % W) (hY:Y=k / W) :
  Calls Tryz.prog 114 #[.agg #[.int .i64 W,.int .i64 H,v],.int .i64 kind,.int .i64 X,.int .i64 Y] w fun e w'=>e=.returned (.int .i64 (gAt zs W kind k))∧Below w.heap.size w w':=by
 obtain ⟨p1,p2,p3,p4⟩:=Zm W k hW1
 rw[←hX,←hY] at p1
 rw[←hY] at p2 p3
 rw[←hX] at p3 p4
 have HV:=q7 hv
 obtain ⟨ao,ca,rfl,hla,_⟩:=hv
 have hYb:Y≤4096:=by rw[hY];exact Nat.le_trans (Nat.div_le_self k W) (by omega)
 have hs1:=qW hz (k-1)
 have hs2:=qW hz (k-W)
 have hs3:=qW hz (k-W-1)
 clear hz
 by_cases hx:X=0
 ·by_cases hy:Y=0
  ·have HE:=q7 (show 32768=gAt zs W kind k by rw[gAt,if_pos ⟨hX ▸ hx,hY ▸ hy⟩])
   subst hx hy
   clear hX hY hs1 hs2 hs3 p2 p3 p1
   go_enter Tryz.func114,Tryz.ntmps114
   go_wp2
   go_ret
   exact ⟨qt HE.out,qa _ _⟩
  ·have HE:=q7 (show zs.getD (k-W) 0=gAt zs W kind k by rw[gAt,if_neg (fun h=>hy (hY.trans h.2)),if_neg (fun h=>hy (hY.trans h)),if_pos (hX ▸ hx)])
   have hkW:=p2 hy
   have hyb:((Y:Int) == 0)=false:=by simp;omega
   subst hx
   obtain ⟨y1,hy1⟩:∃y1,Y=y1+1:=⟨Y-1,by omega⟩
   have hyi:(Y:Int)-1=(y1:Int):=by omega
   have hyb1:y1≤4096:=by omega
   have HM:=q7 (show y1*W+0=k-W by rw[hy1,Nat.succ_mul] at p1;omega)
   clear hX hY p3 p2 p1 hy hs1 hs3 hy1
   go_enter Tryz.func114,Tryz.ntmps114
   go_wp2_with fail
   refine (q0C _ _ _ zs _ _ 0 y1 W (k-W) _ (HV.out.alloc _) rfl rfl rfl HM.out (by omega) hl).mono ?_
   rintro e w1 ⟨rfl,hb1⟩
   go_wp2
   go_ret
   exact ⟨qt HE.out,q8 (qa _ _) hb1⟩
 ·have hxb:((X:Int) == 0)=false:=by simp;omega
  obtain ⟨x1,hx1⟩:∃x1,X=x1+1:=⟨X-1,by omega⟩
  have hxi:(X:Int)-1=(x1:Int):=by omega
  have hxb1:x1≤64:=by omega
  by_cases hy:Y=0
  ·have HE:=q7 (show zs.getD (k-1) 0=gAt zs W kind k by rw[gAt,if_neg (fun h=>hx (hX.trans h.1)),if_pos (hY ▸ hy)])
   subst hy
   have HM:=q7 (show 0*W+x1=k-1 by rw[Nat.zero_mul] at p1 ⊢;omega)
   clear hX hY p3 p2 hs2 hs3 p1 hx1 hx
   go_enter Tryz.func114,Tryz.ntmps114
   go_wp2_with fail
   refine (q0C _ _ _ zs _ _ x1 0 W (k-1) _ (HV.out.alloc _) rfl rfl rfl HM.out (by omega) hl).mono ?_
   rintro e w1 ⟨rfl,hb1⟩
   go_wp2
   go_ret
   exact ⟨qt HE.out,q8 (qa _ _) hb1⟩
  ·have HE:=q7 (show j0 kind (zs.getD (k-1) 0) (zs.getD (k-W) 0) (zs.getD (k-W-1) 0)=gAt zs W kind k by rw[gAt,if_neg (fun h=>hx (hX.trans h.1)),if_neg (fun h=>hy (hY.trans h)),if_neg (fun h=>hx (hX.trans h))])
   have hkW:=p2 hy
   have hyb:((Y:Int) == 0)=false:=by simp;omega
   obtain ⟨y1,hy1⟩:∃y1,Y=y1+1:=⟨Y-1,by omega⟩
   have hyi:(Y:Int)-1=(y1:Int):=by omega
   have hyb1:y1≤4096:=by omega
   rw[hy1,Nat.succ_mul] at p1
   have m1:Y*W+x1=k-1:=by rw[hy1,Nat.succ_mul];omega
   have m2:y1*W+X=k-W:=by omega
   have m3:y1*W+x1=k-W-1:=by omega
   have W0b:=qa w (Obj.cells #[.int .i64 W,.int .i64 H,.slice ao zs.length ca] 34)
   obtain ⟨e0,e1,e2⟩:=pl3 (Below.refl (w.alloc (Obj.cells #[.int .i64 W,.int .i64 H,.slice ao zs.length ca] 34)).heap.size _)
   have hlt0:w.heap.size<(w.alloc (Obj.cells #[.int .i64 W,.int .i64 H,.slice ao zs.length ca] 34)).heap.size:=by simp
   clear hX hY p3 p2 hy p1 hy1 hx1 hx
   go_enter Tryz.func114,Tryz.ntmps114
   go_wp2_with fail
   generalize w.alloc (Obj.cells #[.int .i64 W,.int .i64 H,.slice ao zs.length ca] 34)=W0 at *
   have HI0:=q7 (HV.out.below W0b (Nat.le_refl _))
   obtain ⟨F,hF⟩:∃F:Nat→Nat→Int,∀y x,F y x=zs.getD (y*W+x) 0:=⟨_,fun _ _=>rfl⟩
   have A:∀w' (x y:Nat),y*W+x<zs.length→Below W0.heap.size W0 w'→Calls Tryz.prog 125 #[.agg #[.int .i64 W,.int .i64 H,.slice ao zs.length ca],.int .i64 x,.int .i64 y] w' fun e w''=>e=.returned (.int .i64 (F y x))∧Below W0.heap.size W0 w'':=fun w' x y hxy h =>
    (q0C _ _ _ zs _ _ x y W _ _ (HI0.out.below h (Nat.le_refl _)) rfl rfl rfl rfl hxy hl).mono fun e w'' h2=>⟨by rw[hF];exact h2.1,h.trans (h2.2.mono h.size)⟩
   have HA:=q7 A
   have HWX:=q7 (show IntKind.i64.wrap (x1:Int)=(x1:Int) from IntWalk.i64_in _ (by omega))
   have HWY:=q7 (show IntKind.i64.wrap (y1:Int)=(y1:Int) from IntWalk.i64_in _ (by omega))
   have L1:=q7 (show Y*W+x1<zs.length by omega)
   have L2:=q7 (show y1*W+X<zs.length by omega)
   have L3:=q7 (show y1*W+x1<zs.length by omega)
   have hZ1:F Y x1=zs.getD (k-1) 0:=by rw[hF,m1]
   have hZ2:F y1 X=zs.getD (k-W) 0:=by rw[hF,m2]
   have hZ3:F y1 x1=zs.getD (k-W-1) 0:=by rw[hF,m3]
   have HS:=q7 (show ∀w',Below W0.heap.size W0 w'→w'.cell? ⟨w.heap.size,0,none⟩=some (.int .i64 W)∧w'.cell? ⟨w.heap.size,1,none⟩=some (.int .i64 H)∧w'.cell? ⟨w.heap.size,2,none⟩=some (.slice ao zs.length ca)∧Below W0.heap.size W0 w' from fun w' h =>
    ⟨(h.cell (p:=⟨w.heap.size,0,none⟩) hlt0).trans e0,(h.cell (p:=⟨w.heap.size,1,none⟩) hlt0).trans e1,(h.cell (p:=⟨w.heap.size,2,none⟩) hlt0).trans e2,h⟩)
   have hrefl:=Below.refl W0.heap.size W0
   have hdrew:Below W0.heap.size W0 W0.drew:=(Below.refl _ _).drew
   clear A m1 m2 m3 hkW hF
   generalize zs.getD (k-1) 0=Z1 at *
   generalize zs.getD (k-W) 0=Z2 at *
   generalize zs.getD (k-W-1) 0=Z3 at *
   go_region_held3 (fun w'=>w'.cell? ⟨w.heap.size,0,none⟩=some (.int .i64 W)∧w'.cell? ⟨w.heap.size,1,none⟩=some (.int .i64 H)∧w'.cell? ⟨w.heap.size,2,none⟩=some (.slice ao zs.length ca)∧Below W0.heap.size W0 w')
    (first|(refine HS.out _ ?_;assumption)|go_keep)
    (first|(go_at_call 125;(try rw[HWX.out]);(try rw[HWY.out]);refine (HA.out _ _ _ ?_ ?_).mono ?_;(first|exact L1.out|exact L2.out|exact L3.out);assumption;rintro e wx ⟨rfl,hN⟩))
   have HWB:=q7 (W0b.trans (hN.mono W0b.size))
   by_cases h1:kind=1
   ·subst h1
    go_wp2
    go_ret
    exact ⟨qt (by rw[←HE.out];simp[j0]),HWB.out⟩
   by_cases h2:kind=2
   ·subst h2
    go_wp2
    go_ret
    exact ⟨qt (by rw[←HE.out];simp[j0]),HWB.out⟩
   by_cases h3:kind=3
   ·subst h3
    go_wp2
    go_ret
    exact ⟨qt (by rw[←HE.out];simp[j0]),HWB.out⟩
   by_cases h4:kind=4
   ·subst h4
    go_wp2
    go_ret
    exact ⟨qt (by rw[←HE.out];simp[j0]),HWB.out⟩
   by_cases h5:kind=5
   ·subst h5
    go_wp2_with (go_at_call 115;refine (Zx _ (by omega) (by omega) _).mono ?_;rintro e wy ⟨rfl,rfl⟩)
    go_ret
    exact ⟨qt (by rw[←HE.out];simp[j0]),HWB.out⟩
   by_cases h6:kind=6
   ·subst h6
    go_wp2_with (go_at_call 115;refine (Zx _ (by omega) (by omega) _).mono ?_;rintro e wy ⟨rfl,rfl⟩)
    go_ret
    exact ⟨qt (by rw[←HE.out];simp[j0]),HWB.out⟩
   have k1:(kind == 1)=false:=by simpa using h1
   have k2:(kind == 2)=false:=by simpa using h2
   have k3:(kind == 3)=false:=by simpa using h3
   have k4:(kind == 4)=false:=by simpa using h4
   have k5:(kind == 5)=false:=by simpa using h5
   have k6:(kind == 6)=false:=by simpa using h6
   have HE2:=q7 (show (Z1+Z2) / 2=gAt zs W kind k by rw[←HE.out];simp[j0,h1,h2,h3,h4,h5,h6])
   clear h1 h2 h3 h4 h5 h6
   go_wp2_with (go_at_call 115;refine (Zx _ (by omega) (by omega) _).mono ?_;rintro e wy ⟨rfl,rfl⟩)
   go_ret
   exact ⟨qt HE2.out,HWB.out⟩
end Go.Proofs.YtanebhbfekcplaaGreat

namespace Go.Proofs.YtanebhbfekcplaaGreat
open Go.RowKit
def QJ (zs:List Int) (W:Nat) (kind:Int) (n:Nat):List Int:=(List.range n).map (dAt zs W kind)
theorem Qk (zs:List Int) (W:Nat) (kind:Int) (n:Nat):(QJ zs W kind n).length=n:=by simp[QJ]
theorem q1a (zs:List Int) (W:Nat) (kind:Int) (n:Nat):(QJ zs W kind (n+1)).map (Value.int .i64)=(QJ zs W kind n).map (Value.int .i64)++[.int .i64 (dAt zs W kind n)]:=by
 simp[QJ,List.range_succ]
set_option maxRecDepth 100000 in
set_option maxHeartbeats 1600000 in
theorem Zr (W H:Nat) (v:Value) (zs:List Int) (kind:Int) (w:World) (hv:qd w v zs) (hp:qB W H zs=true) :
  Calls Tryz.prog 72 #[.agg #[.int .i64 W,.int .i64 H,v],.int .i64 kind] w fun e w'=>∃r,e=.returned r∧qd w' r (QJ zs W kind zs.length)∧Below w.heap.size w w':=by
 obtain ⟨⟨b1,b2⟩,⟨b3,b4⟩,b5,b6⟩:=qM hp
 have h4096:zs.length≤4096:=by have:=jV ⟨b1,b2⟩ ⟨b3,b4⟩;omega
 have hlen:zs.length=H*W:=by rw[Nat.mul_comm];exact_mod_cast b5
 have HZ:=q7 b6
 have HLEN:=q7 hlen
 clear b5 b6 hp hlen
 obtain ⟨i0,hi,hz0,hz1,hz2⟩:=info_parts Tryz.infoInt
 have HV:=q7 hv
 obtain ⟨ao,ca,rfl,hla,_⟩:=hv
 have W0b:=qa w (Obj.cells #[.int .i64 W,.int .i64 H,.slice ao zs.length ca] 34)
 obtain ⟨e0,e1,e2⟩:=pl3 (Below.refl (w.alloc (Obj.cells #[.int .i64 W,.int .i64 H,.slice ao zs.length ca] 34)).heap.size _)
 have hlt0:w.heap.size<(w.alloc (Obj.cells #[.int .i64 W,.int .i64 H,.slice ao zs.length ca] 34)).heap.size:=by simp
 go_enter Tryz.func72,Tryz.ntmps72
 go_wp2_with fail
 generalize w.alloc (Obj.cells #[.int .i64 W,.int .i64 H,.slice ao zs.length ca] 34)=W0 at *
 have HW0:=q7 W0b
 have HI0:=q7 (HV.out.below W0b (Nat.le_refl _))
 have HE0:=q7 e0
 have HE1:=q7 e1
 have HE2:=q7 e2
 have HS:=q7 (show ∀w',Below W0.heap.size W0 w'→w'.cell? ⟨w.heap.size,0,none⟩=some (.int .i64 W)∧w'.cell? ⟨w.heap.size,1,none⟩=some (.int .i64 H)∧w'.cell? ⟨w.heap.size,2,none⟩=some (.slice ao zs.length ca)∧Below W0.heap.size W0 w' from fun w' h =>
  ⟨(h.cell (p:=⟨w.heap.size,0,none⟩) hlt0).trans e0,(h.cell (p:=⟨w.heap.size,1,none⟩) hlt0).trans e1,(h.cell (p:=⟨w.heap.size,2,none⟩) hlt0).trans e2,h⟩)
 clear e0 e1 e2 W0b HV
 go_loopw [5,6] (fun t i wr=>∃y:Nat,y≤H∧i=.int .i64 y∧(∃ao cap,t=.slice ao (y*W) cap)∧wr.ownsRow W0.heap.size 3 1 t (y*W) ((QJ zs W kind (y*W)).map (Value.int .i64))∧Below W0.heap.size W0 wr)
  (fun _ i _=>H-(intOf i).toNat)
 case atStart=>exact ⟨0,Nat.zero_le _,rfl,⟨none,0,by simp⟩,by rw[Nat.zero_mul];exact World.ownsRow_nil _ _ _ _,Below.refl _ _⟩
 case round =>
  obtain ⟨y,hy,rfl,⟨tq,tc,rfl⟩,ho,hb⟩:=hrel
  have q0:=(hb.cell (p:=⟨w.heap.size,0,none⟩) hlt0).trans HE0.out
  have q1:=(hb.cell (p:=⟨w.heap.size,1,none⟩) hlt0).trans HE1.out
  by_cases hlt:y<H
  ·have hmul:y*W+W≤zs.length:=by
    rw[HLEN.out]
    have:=Nat.mul_le_mul_right W (show y+1≤H from hlt)
    rw[Nat.succ_mul] at this;exact this
   have HM:=q7 (show (y+1)*W=y*W+W from Nat.succ_mul y W)
   have HPL:=q7 (fun x (h:x<W)=>q3B (W:=W) (X:=x) (Y:=y) h)
   obtain ⟨M,hM⟩:∃M,M=y*W:=⟨_,rfl⟩
   rw[←hM] at ho hmul HM HPL
   simp only[←hM]
   have HMY:=q7 hM
   clear hM
   have hd:decide ((y:Int)<(H:Int))=true:=by simp;omega
   go_wp2
   go_loopw [5,7] (fun t i wr=>∃x:Nat,x≤W∧i=.int .i64 x∧(∃ao cap,t=.slice ao (M+x) cap)∧wr.ownsRow W0.heap.size 3 1 t (M+x) ((QJ zs W kind (M+x)).map (Value.int .i64))∧Below W0.heap.size W0 wr)
    (fun _ i _=>W-(intOf i).toNat)
   case atStart=>exact ⟨0,Nat.zero_le _,rfl,⟨_,_,rfl⟩,ho,hb⟩
   case round =>
    clear ho hb q0 q1
    obtain ⟨x,hx,rfl,⟨tq,tc,rfl⟩,ho,hb⟩:=hrel
    have q0:=(hb.cell (p:=⟨w.heap.size,0,none⟩) hlt0).trans HE0.out
    have q1:=(hb.cell (p:=⟨w.heap.size,1,none⟩) hlt0).trans HE1.out
    have hsz:=hb.size
    by_cases hxl:x<W
    ·have hd2:decide ((x:Int)<(W:Int))=true:=by simp;omega
     have hkl:M+x<zs.length:=by omega
     obtain ⟨m1,m2⟩:=HPL.out x hxl
     have hs:=qW HZ.out (M+x)
     have hgr:=ZB zs W kind (M+x) HZ.out
     have HAT:=q7 (show ∀w',Below wr.heap.size wr w'→Calls Tryz.prog 125 #[.agg #[.int .i64 W,.int .i64 H,.slice ao zs.length ca],.int .i64 x,.int .i64 y] w' fun e w''=>e=.returned (.int .i64 (zs.getD (M+x) 0))∧Below wr.heap.size wr w'' from fun w' h =>
      (q0C _ _ _ zs _ _ x y W (M+x) _ ((HI0.out.below hb (Nat.le_refl _)).below h (Nat.le_refl _)) rfl rfl rfl (by rw[HMY.out]) hkl h4096).mono fun e w'' h2=>⟨h2.1,h.trans (h2.2.mono h.size)⟩)
     have HGU:=q7 (show ∀w',Below wr.heap.size wr w'→Calls Tryz.prog 114 #[.agg #[.int .i64 W,.int .i64 H,.slice ao zs.length ca],.int .i64 kind,.int .i64 x,.int .i64 y] w' fun e w''=>e=.returned (.int .i64 (gAt zs W kind (M+x)))∧Below wr.heap.size wr w'' from fun w' h =>
      (KV _ zs W x y H kind (M+x) w' ((HI0.out.below hb (Nat.le_refl _)).below h (Nat.le_refl _)) (by omega) (by omega) hkl h4096 HZ.out m1.symm m2.symm).mono fun e w'' h2=>⟨h2.1,h.trans (h2.2.mono h.size)⟩)
     have HDA:=q7 (show dif (zs.getD (M+x) 0) (gAt zs W kind (M+x))=dAt zs W kind (M+x) from rfl)
     have HDI:=q7 (JE _ _ hs hgr)
     have HLS:=q7 (q1a zs W kind (M+x))
     rw[HDA.out] at HDI
     clear hs hgr m1 m2 HDA
     generalize zs.getD (M+x) 0=Z at *
     generalize gAt zs W kind (M+x)=G at *
     generalize dAt zs W kind (M+x)=D at *
     have HWR:=q7 (show ∀w',Below wr.heap.size wr w'→Below W0.heap.size W0 w' from fun w' h=>hb.trans (h.mono hsz))
     have HWA:=q7 (show ∀w' o,Below wr.heap.size wr w'→Below W0.heap.size W0 (w'.alloc o) from fun w' o h=>hb.trans ((q8 h (qa _ _)).mono hsz))
     have HOW:=q7 (show ∀w' o,Below wr.heap.size wr w'→(w'.alloc o).ownsRow W0.heap.size 3 1 (.slice tq (M+x) tc) (M+x) ((QJ zs W kind (M+x)).map (Value.int .i64)) from fun w' o h=>(qy ho h).alloc _)
     have HSZ:=q7 (show ∀w' o,Below wr.heap.size wr w'→W0.heap.size≤(w'.alloc o).heap.size from fun w' o h=>by have:=h.size;simp;omega)
     have HGR:=q7 (show ∀w' o w1,Below wr.heap.size wr w'→(w'.alloc o).grownBy w1 (Value.slice tq (M+x) tc).ownBlock→Below W0.heap.size W0 w1 from fun w' o w1 h hg =>
      (hb.trans ((q8 h (qa _ _)).mono hsz)).grown hg (by have:=h.size;simp;omega) (fun j hj=>(ho.lt j hj).1))
     have HNW:=q7 (show ∀(w':World),∀j u,[Value.int .i64 D][j]?=some u→(w'.alloc (.cells #[.int .i64 D] 3)).cell? ((⟨w'.heap.size,0,none⟩:Addr).add j)=some u from fun w' j u hj=>by obtain ⟨rfl,rfl⟩:=ZD hj;simp[Addr.add])
     have HON:=q7 (show ∀u∈[Value.int .i64 D],u.oneCell'=true from fun u hu=>by simp at hu;subst hu;rfl)
     have hrefl:=Below.refl wr.heap.size wr
     have hdrew:Below wr.heap.size wr wr.drew:=(Below.refl _ _).drew
     go_wp2_with fail
     go_region_held3 (fun w'=>w'.cell? ⟨w.heap.size,0,none⟩=some (.int .i64 W)∧w'.cell? ⟨w.heap.size,1,none⟩=some (.int .i64 H)∧w'.cell? ⟨w.heap.size,2,none⟩=some (.slice ao zs.length ca)∧Below W0.heap.size W0 w')
      (first|(refine HS.out _ ?_;assumption)|(refine HS.out _ (HWR.out _ ?_);assumption)|(refine HS.out _ (HWA.out _ _ ?_);assumption))
      (first
       | (go_at_call 125;refine (HAT.out _ ?_).mono ?_;assumption;rintro e wx ⟨rfl,hN⟩)
       | (go_at_call 114;refine (HGU.out _ ?_).mono ?_;assumption;rintro e wx ⟨rfl,hN⟩)
       | (go_at_call 124;refine (HDI.out _).mono ?_;rintro e wy ⟨rfl,rfl⟩)
       | (refine step_append_lies _ rfl _ _ 22 rfl W0.heap.size 3 i0 (.int .i64 0) 1 8 Tryz.underlying22 hi hz0 hz1 hz2 rfl Nat.one_pos _ _ _ rfl (HOW.out _ _ hN) _ 1 1 [.int .i64 D] rfl rfl (HNW.out _) HON.out Nat.one_pos ?_ ?_ (HSZ.out _ _ hN) _ rfl ?_;(unfold maxLen;omega);omega;intro g cap w1 hown hgrow hat hltg;have hB1:=HGR.out _ _ _ hN hgrow))
     have ho4:w1.ownsRow W0.heap.size 3 1 (.slice (some ⟨g,0,none⟩) (M+(x+1)) cap) (M+(x+1)) ((QJ zs W kind (M+(x+1))).map (Value.int .i64)):=by
      rw[show M+(x+1)=M+x+1 from rfl,HLS.out];exact hown
     clear hown hgrow hat hrefl hdrew ho hb hN
     go_wp2
     go_roundw
     case rel=>exact ⟨x+1,by omega,by go_num,⟨_,_,rfl⟩,ho4,hB1⟩
     case measure=>simp[intOf];omega
    ·have hd2:decide ((x:Int)<(W:Int))=false:=by simp;omega
     obtain rfl:x=W:=by omega
     go_wp2
     go_roundw
     case rel =>
      refine ⟨y+1,by omega,by go_num,⟨_,_,by rw[HM.out]⟩,by rw[HM.out];exact ho,hb⟩
     case measure=>simp[intOf];omega
  ·obtain rfl:y=H:=by omega
   have hd:decide ((y:Int)<(y:Int))=false:=by simp
   have HIN:=q7 (show qd wr (.slice tq (y*W) tc) (QJ zs W kind zs.length) by
    rw[HLEN.out]
    exact qd.own (by rw[Qk];exact ho) (by rw[Qk,←HLEN.out];omega))
   clear ho
   go_wp2
   go_ret
   exact ⟨_,rfl,HIN.out,HW0.out.trans (hb.mono HW0.out.size)⟩
end Go.Proofs.YtanebhbfekcplaaGreat

namespace Go.Proofs.YtanebhbfekcplaaGreat
open Go.RowKit
theorem q1Q (zs:List Int) (W:Nat) (kind:Int) (n k:Nat) (h:k<(QJ zs W kind n).length):(QJ zs W kind n)[k]=dAt zs W kind k:=by simp[QJ]
theorem q1j {w3 wr w4:World} {e:TypeId} {t:Value} {n:Nat} {xs:List Value} (ho:wr.ownsRow w3.heap.size e 1 t n xs) (hb:Below w3.heap.size w3 wr) {p:Addr} {x:Value} (hp:p.block<w3.heap.size) (hc:w3.cell? p=some x) (hg:wr.grownBy w4 t.ownBlock):w4.cell? p=some x :=
 ((hb.grown hg hb.size (fun j hj=>(ho.lt j hj).1)).cell hp).trans hc
set_option maxRecDepth 100000 in
set_option maxHeartbeats 1600000 in
theorem X8 (W H:Nat) (vp v:Value) (zs:List Int) (kind:Int) (xs:List Int) (w:World) (hvp:qd w vp zs) (hv:qd w v xs) (hp:qB W H zs=true) (hk:zk kind=true) (hE:ql xs=0) :
  Calls Tryz.prog 40 #[.agg #[.int .i64 W,.int .i64 H,vp],.int .i64 kind,v] w fun e w'=>e=.returned (.tuple #[.string (str (qx W H zs kind xs)),.int .i64 (qD W H zs kind xs)])∧Below w.heap.size w w':=by
 have hnil:str []=⟨#[]⟩:=rfl
 obtain ⟨i0,hi,hz0,hz1,hz2⟩:=info_parts Tryz.infoU8
 obtain ⟨hl1,hl2,hok,_,_⟩:=qT hE
 obtain ⟨⟨b1,b2⟩,⟨b3,b4⟩,b5,b6⟩:=qM hp
 have h4096:zs.length≤4096:=by have:=jV ⟨b1,b2⟩ ⟨b3,b4⟩;omega
 have hz1':1≤zs.length:=by have:=jV ⟨b1,b2⟩ ⟨b3,b4⟩;omega
 have HV:=q7 hv;clear hv
 have HVP:=q7 hvp
 obtain ⟨po,pc,rfl,hpl,_⟩:=hvp
 have HE:=q7 hE
 have HOK:=q7 hok
 have HP:=q7 hp
 have HK:=q7 hk
 have hwk:decide (1≤kind∧kind≤7)=true:=hk
 clear b5 b6 hok hk
 go_enter Tryz.func40,Tryz.ntmps40
 go_wp2_with fail
 refine (jT _ _ _ zs _ (HVP.out.alloc _)).mono ?_
 rintro e w1 ⟨rfl,hb1⟩
 rw[hp]
 have HB1:=q7 (q8 (qa w _) hb1)
 obtain ⟨c0,c1,c2⟩:=pl3 hb1
 have hlt0:w.heap.size<w1.heap.size:=by have:=hb1.size;simp at this;omega
 clear hb1
 go_wp2_with (go_at_call 55;refine (qe _ _ _ _).mono ?_;rintro e wx ⟨rfl,rfl⟩;rw[hwk])
 refine (zW _ _ _ (HV.out.below HB1.out (Nat.le_refl _))).mono ?_
 rintro e wx ⟨rfl,rfl⟩
 rw[HE.out]
 go_wp2_with fail
 refine (KN _ _ _ (HV.out.below HB1.out (Nat.le_refl _)) HE.out).mono ?_
 rintro e w2 ⟨r,rfl,hr,hb2⟩
 have c0:=(hb2.cell (p:=⟨w.heap.size,0,none⟩) hlt0).trans c0
 have c1:=(hb2.cell (p:=⟨w.heap.size,1,none⟩) hlt0).trans c1
 have c2:=(hb2.cell (p:=⟨w.heap.size,2,none⟩) hlt0).trans c2
 have HB2:=q7 (q8 HB1.out hb2)
 obtain ⟨ro,rc,rfl,hrl0,hrc⟩:=hr
 obtain ⟨rb,rof,hro,hrl,hrcell⟩:∃b off,ro=some ⟨b,off,none⟩∧b<w2.heap.size∧∀j (h:j<(qh xs).length),w2.cell? ⟨b,off+j,none⟩=some (.string (str (qh xs)[j])):=by
  rcases hrc with h|h
  ·have h2:=qp xs;rw[h] at h2;simp at h2;omega
  ·exact h
 have HRC:=q7 hrcell
 clear hrcell hrc hrl0 hb2 HB1
 subst hro
 go_wp2_with fail
 refine (Zr W H _ zs kind _ (HVP.out.below HB2.out (Nat.le_refl _)) HP.out).mono ?_
 rintro e w3 ⟨q,rfl,hq,hb3⟩
 have hql:=Qk zs W kind zs.length
 obtain ⟨qo,qc,rfl,_,hqc⟩:=hq
 obtain ⟨qb,qof,hqo,hqlt,hqcell⟩:∃b off,qo=some ⟨b,off,none⟩∧b<w3.heap.size∧∀j (h:j<(QJ zs W kind zs.length).length),w3.cell? ⟨b,off+j,none⟩=some (.int .i64 (QJ zs W kind zs.length)[j]):=by
  rcases hqc with h|h
  ·rw[h] at hql;simp at hql;omega
  ·exact h
 subst hqo
 have HQC:=q7 (show ∀j,j<zs.length→w3.cell? ⟨qb,qof+j,none⟩=some (.int .i64 (dAt zs W kind j)) from fun j hj=>by
  rw[hqcell j (by rw[hql];exact hj),q1Q])
 have HB3:=q7 (q8 HB2.out hb3)
 have HRC3:=q7 (show ∀j (h:j<(qh xs).length),w3.cell? ⟨rb,rof+j,none⟩=some (.string (str (qh xs)[j])) from fun j h=>(hb3.cell (p:=⟨rb,rof+j,none⟩) hrl).trans (HRC.out j h))
 have hrl3:rb<w3.heap.size:=Nat.lt_of_lt_of_le hrl hb3.size
 rw[hql]
 clear hqcell hqc hb3 HRC hrl HB2 c0 c1 c2 hql hlt0 HVP HV
 have HWL:=q7 (qp xs)
 have hwl:(qh xs).length≤17:=by rw[qp];exact hl2
 generalize hts:qh xs=ts at *
 have HTS:=q7 hts;clear hts
 go_wp2
 go_loopw [11,12] (fun t i wr=>∃k:Nat,k≤zs.length∧i=.int .i64 k∧Hid (q2m ts zs W kind k=true)∧wr.ownsRow w3.heap.size 5 1 t (jB ts zs W kind k).length (byt (jB ts zs W kind k))∧Below w3.heap.size w3 wr) (fun _ i _=>zs.length-(intOf i).toNat)
 case atStart=>exact ⟨0,Nat.zero_le _,rfl,rfl,World.ownsRow_nil _ _ _ _,Below.refl _ _⟩
 case round =>
  obtain ⟨k,hk,rfl,HA,ho,hb⟩:=hrel
  have hsz:=hb.size
  have hpl2:(jB ts zs W kind k).length≤122880:=by
   have h:=Qh xs HOK.out zs W kind k
   rw[HTS.out] at h
   omega
  by_cases hlt:k<zs.length
  ·have HQK:=q7 (HQC.out k hlt)
   have c1:=(hb.cell (p:=⟨qb,qof+k,none⟩) hqlt).trans HQK.out
   have hdr:=J9 (zs.getD k 0) (gAt zs W kind k)
   have HDA:=q7 (rfl:dif (zs.getD k 0) (gAt zs W kind k)=dAt zs W kind k)
   have hdr:-32768<dAt zs W kind k∧dAt zs W kind k≤32768:=hdr
   have HBS:=q7 (zh ts zs W kind k)
   have HAS:=q7 (K7 ts zs W kind k)
   have HAF:=q7 (XD ts zs W kind zs.length k hlt)
   generalize dAt zs W kind k=D at *
   have hcl:=XH hdr.1 hdr.2
   have HCO:=q7 (QN D hdr.1 hdr.2)
   have HMO:=q7 (q31 D hdr.1 hdr.2)
   have htl:(jv D).length≤15:=Ql hdr.1 hdr.2
   rw[wrD] at HBS
   generalize jv D=TB at *
   generalize cls D=C at *
   by_cases hcl2:C<ts.length
   ·have hd2:decide ((ts.length:Int)≤(C:Int))=false:=by simp;omega
    have c2:=(hb.cell (p:=⟨rb,rof+C,none⟩) hrl3).trans (HRC3.out C hcl2)
    have hws:jF ts C=ts[C]:=by rw[jF,if_pos (by omega)];simp[List.getD,hcl2]
    have hwl15:(ts[C]).length≤15:=by
     have h:=Qc xs HOK.out C
     rw[HTS.out,hws] at h;exact h
    rw[hws] at HBS HAS HAF
    clear hws
    generalize ts[C]=wd at *
    by_cases he:wd=[]
    ·have hem:(str wd).toList.isEmpty=true:=by rw[Lib.toList_data,qI,he];rfl
     have HNE:=q7 (show qD W H zs kind xs=4 by rw[qD,if_pos HP.out,if_pos HK.out,if_pos HE.out,HTS.out,Int.toNat_natCast,HAF.out he];rfl)
     have HNS:=q7 (show qx W H zs kind xs=[] by rw[qx,HNE.out,if_neg (by decide)])
     clear he
     go_wp2_with (go_at_call 73;refine (HCO.out _).mono ?_;rintro e wy ⟨rfl,rfl⟩)
     go_ret2
     rw[HNE.out,HNS.out]
     exact ⟨rfl,q8 HB3.out hb⟩
    ·have hem:(str wd).toList.isEmpty=false:=by rw[Lib.toList_data,qI];simpa using he
     have HO:=q7 (show q2m ts zs W kind (k+1)=true by rw[HAS.out,HA.out];simpa using he)
     clear he
     generalize jB ts zs W kind k=L at *
     go_wp2_with (first|(go_at_call 73;refine (HCO.out _).mono ?_;rintro e wy ⟨rfl,rfl⟩)|(at_builtin;refine Lib.wpList_append_own_string _ rfl _ _ 71 9 rfl w3.heap.size 5 i0 Tryz.underlying71 Tryz.underlying9 hi hz0 hz1 hz2 _ _ _ rfl ho (str wd) rfl (by rw[qu];unfold maxLen;omega) (by rw[qu];omega) (by omega) ?_;intro v' w4 hown' hgrow _;have c4:=q1j ho hb (p:=⟨qb,qof+k,none⟩) hqlt HQK.out hgrow))
     have hb4:Below w3.heap.size w3 w4:=hb.grown hgrow (by omega) (fun j hj=>(ho.lt j hj).1)
     have ho4:w4.ownsRow w3.heap.size 5 1 v' (L++wd).length (byt (L++wd)):=by
      rw[jx,List.length_append]
      have hx:=hown'
      rw[qu] at hx
      exact hx
     have hsz4:=hb4.size
     have hlw:(L++wd).length≤122895:=by rw[List.length_append];omega
     clear hown' hgrow ho hb c1 c2
     generalize hLW:L++wd=LW at *
     have HLW:=q7 hLW;clear hLW
     refine (HMO.out _).mono ?_
     rintro e w5 ⟨rfl,hb5⟩
     have ho5:=qy ho4 hb5
     have hsz5:=hb5.size
     go_wp2_with (at_builtin;refine Lib.wpList_append_own_string _ rfl _ _ 71 9 rfl w3.heap.size 5 i0 Tryz.underlying71 Tryz.underlying9 hi hz0 hz1 hz2 _ _ _ rfl ho5 (str TB) rfl (by rw[qu];unfold maxLen;omega) (by rw[qu];omega) (by omega) ?_;intro v6 w6 hown6 hgrow6 _)
     have hb6:Below w3.heap.size w3 w6:=(hb4.trans (hb5.mono hsz4)).grown hgrow6 (by omega) (fun j hj=>(ho5.lt j hj).1)
     have ho6:w6.ownsRow w3.heap.size 5 1 v6 (jB ts zs W kind (k+1)).length (byt (jB ts zs W kind (k+1))):=by
      rw[HBS.out,←List.append_assoc,HLW.out,jx,List.length_append]
      have hx:=hown6
      rw[qu] at hx
      exact hx
     clear hown6 hgrow6 ho5 ho4
     go_roundw
     case rel=>exact ⟨k+1,by omega,by go_num,HO,ho6,hb6⟩
     case measure=>simp[intOf];omega
   ·have hd2:decide ((ts.length:Int)≤(C:Int))=true:=by simp;omega
    have HNE:=q7 (show qD W H zs kind xs=4 by rw[qD,if_pos HP.out,if_pos HK.out,if_pos HE.out,HTS.out,Int.toNat_natCast,HAF.out (by rw[jF,if_neg (by omega)])];rfl)
    have HNS:=q7 (show qx W H zs kind xs=[] by rw[qx,HNE.out,if_neg (by decide)])
    go_wp2_with (go_at_call 73;refine (HCO.out _).mono ?_;rintro e wy ⟨rfl,rfl⟩)
    go_ret2
    rw[HNE.out,HNS.out]
    exact ⟨rfl,q8 HB3.out hb⟩
  ·obtain rfl:k=zs.length:=by omega
   have HNE:=q7 (show qD W H zs kind xs=0 by rw[qD,if_pos HP.out,if_pos HK.out,if_pos HE.out,HTS.out,Int.toNat_natCast,if_pos HA.out])
   have HNS:=q7 (show qx W H zs kind xs=bytesOf (jB ts zs W kind zs.length) by rw[qx,HNE.out,if_pos rfl,HTS.out,Int.toNat_natCast])
   generalize jB ts zs W kind zs.length=DB at *
   have hcv:=jz (dst:=9) Tryz.underlying71 Tryz.underlying5 Tryz.underlying9 ho
   go_wp2_with fail
   refine (JX (str DB) (by rw[qu];omega) _).mono ?_
   rintro e w4 ⟨rfl,hb4⟩
   go_wp2
   go_ret2
   rw[HNE.out,HNS.out]
   exact ⟨rfl,q8 (q8 HB3.out hb) hb4⟩
theorem Yy (W H:Int) (vp v:Value) (zs:List Int) (kind:Int) (xs:List Int) (w:World) (hvp:qd w vp zs) (hv:qd w v xs) :
  Calls Tryz.prog 40 #[.agg #[.int .i64 W,.int .i64 H,vp],.int .i64 kind,v] w fun e w'=>e=.returned (.tuple #[.string (str (qx W H zs kind xs)),.int .i64 (qD W H zs kind xs)])∧Below w.heap.size w w':=by
 by_cases hp:qB W H zs=true
 ·by_cases hk:zk kind=true
  ·by_cases hE:ql xs=0
   ·obtain ⟨⟨b1,_⟩,⟨b3,_⟩,_,_⟩:=qM hp
    obtain ⟨WN,rfl⟩:=Int.eq_ofNat_of_zero_le (show 0≤W by omega)
    obtain ⟨HN,rfl⟩:=Int.eq_ofNat_of_zero_le (show 0≤H by omega)
    exact X8 WN HN vp v zs kind xs w hvp hv hp hk hE
   ·have HNE:=q7 (show qD W H zs kind xs=ql xs by rw[qD,if_pos hp,if_pos hk,if_neg hE])
    have HNS:=q7 (show qx W H zs kind xs=[] by rw[qx,HNE.out,if_neg hE])
    have hwk:decide (1≤kind∧kind≤7)=true:=hk
    have HV:=q7 hv;clear hv
    have HVP:=q7 hvp
    obtain ⟨po,pc,rfl,hpl,hpc⟩:=hvp
    have hne:(ql xs != 0)=true:=by simpa using hE
    clear hpc hE hk
    go_enter Tryz.func40,Tryz.ntmps40
    go_wp2_with fail
    refine (jT _ _ _ zs _ (HVP.out.alloc _)).mono ?_
    rintro e w1 ⟨rfl,hb1⟩
    rw[hp]
    have HB1:=q7 (q8 (qa w _) hb1)
    go_wp2_with (go_at_call 55;refine (qe _ _ _ _).mono ?_;rintro e wx ⟨rfl,rfl⟩;rw[hwk])
    refine (zW _ _ _ (HV.out.below HB1.out (Nat.le_refl _))).mono ?_
    rintro e wx ⟨rfl,rfl⟩
    go_wp2
    go_ret2
    rw[HNE.out,HNS.out]
    exact ⟨rfl,HB1.out⟩
  ·have HNE:=q7 (show qD W H zs kind xs=6 by rw[qD,if_pos hp,if_neg hk])
   have HNS:=q7 (show qx W H zs kind xs=[] by rw[qx,HNE.out,if_neg (by decide)])
   have hk:zk kind=false:=by simpa using hk
   have hwk:decide (1≤kind∧kind≤7)=false:=hk
   have HVP:=q7 hvp
   obtain ⟨po,pc,rfl,hpl,hpc⟩:=hvp
   clear hpc hv hk
   go_enter Tryz.func40,Tryz.ntmps40
   go_wp2_with fail
   refine (jT _ _ _ zs _ (HVP.out.alloc _)).mono ?_
   rintro e w1 ⟨rfl,hb1⟩
   rw[hp]
   have HB1:=q7 (q8 (qa w _) hb1)
   go_wp2_with (go_at_call 55;refine (qe _ _ _ _).mono ?_;rintro e wx ⟨rfl,rfl⟩;rw[hwk])
   go_ret2
   rw[HNE.out,HNS.out]
   exact ⟨rfl,HB1.out⟩
 ·have HNE:=q7 (show qD W H zs kind xs=1 by rw[qD,if_neg hp])
  have HNS:=q7 (show qx W H zs kind xs=[] by rw[qx,HNE.out,if_neg (by decide)])
  have hp:qB W H zs=false:=by simpa using hp
  have HVP:=q7 hvp
  obtain ⟨po,pc,rfl,hpl,hpc⟩:=hvp
  clear hpc hv
  go_enter Tryz.func40,Tryz.ntmps40
  go_wp2_with fail
  refine (jT _ _ _ zs _ (HVP.out.alloc _)).mono ?_
  rintro e w1 ⟨rfl,hb1⟩
  rw[hp]
  have HB1:=q7 (q8 (qa w _) hb1)
  go_wp2
  go_ret2
  rw[HNE.out,HNS.out]
  exact ⟨rfl,HB1.out⟩
end Go.Proofs.YtanebhbfekcplaaGreat
