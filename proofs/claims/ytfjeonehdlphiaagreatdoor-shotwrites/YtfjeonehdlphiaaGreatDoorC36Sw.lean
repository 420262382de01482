/- Sw: part 36 of what the proofs need. -/
import Derived.Test.YtfjeonehdlphiaaGreatDoorC6Sw
import Derived.Test.YtfjeonehdlphiaaGreatDoorC16Sw
import Derived.Test.YtfjeonehdlphiaaGreatDoorC29Sw
import Derived.Test.YtfjeonehdlphiaaGreatDoorC34Sw
import Derived.Test.YtfjeonehdlphiaaGreatDoorC35Sw
set_option linter.unusedVariables false
set_option maxHeartbeats 3200000
set_option maxRecDepth 100000
namespace Go.Proofs.YtfjeonehdlphiaaGreatDoor
set_option linter.unusedSimpArgs false
open Go.RowKit
def kq9 (w h d k r:Int) (le:List Int) (st:List (List UInt8)) (n:Plan) (l:List UInt8):Option RawF:=if l=[] then some ⟨w,h,d,k,r,le,st,n⟩ else none
def kq8 (b3 b4:List UInt8→Nat) (w h d k r:Int) (le:List Int) (st:List (List UInt8)) (l:List UInt8):Option RawF:=match planP b3 b4 l with
 | none=>none
 | some (n,u)=>kq9 w h d k r le st n u
def kq7 (b2 b3 b4:List UInt8→Nat) (w h d k r:Int) (le:List Int) (l:List UInt8):Option RawF:=match listP textP b2 l with
 | none=>none
 | some (st,u)=>kq8 b3 b4 w h d k r le st u
def kq6 (b1 b2 b3 b4:List UInt8→Nat) (w h d k r:Int) (l:List UInt8):Option RawF:=match listP numP b1 l with
 | none=>none
 | some (le,u)=>kq7 b2 b3 b4 w h d k r le u
def kq5 (b1 b2 b3 b4:List UInt8→Nat) (w h d k:Int) (l:List UInt8):Option RawF:=match numP l with
 | none=>none
 | some (r,u)=>kq6 b1 b2 b3 b4 w h d k r u
def kq4 (b1 b2 b3 b4:List UInt8→Nat) (w h d:Int) (l:List UInt8):Option RawF:=match numP l with
 | none=>none
 | some (k,u)=>kq5 b1 b2 b3 b4 w h d k u
def kq3 (b1 b2 b3 b4:List UInt8→Nat) (w h:Int) (l:List UInt8):Option RawF:=match numP l with
 | none=>none
 | some (d,u)=>kq4 b1 b2 b3 b4 w h d u
def kq2 (b1 b2 b3 b4:List UInt8→Nat) (w:Int) (l:List UInt8):Option RawF:=match numP l with
 | none=>none
 | some (h,u)=>kq3 b1 b2 b3 b4 w h u
def kq1 (b1 b2 b3 b4:List UInt8→Nat) (l:List UInt8):Option RawF:=match numP l with
 | none=>none
 | some (w,u)=>kq2 b1 b2 b3 b4 w u
def rawP (b1 b2 b3 b4:List UInt8→Nat) (s:List UInt8):Option RawF:=match textP s with
 | none=>none
 | some (m,l)=>if m=darkL then kq1 b1 b2 b3 b4 l else none
def strV (s:List UInt8):Value:=.string (str s)
theorem qjcf {g:Nat} {t:TypeId} {xs:List Int} {V:World} (h:Holds g t (xs.map (Value.int .i64)) V) (hn:xs.length≤1048576):jCvT V (.slice (some ⟨g,0,none⟩) xs.length xs.length) xs:=by
 refine ⟨_,_,rfl,by omega,.inr ⟨g,0,rfl,h.lt,fun j hj=>?_⟩⟩
 rw[Nat.zero_add,Lib.cell_of_heap h]
 simp[hj]
theorem jlEe {g:Nat} {t:TypeId} {ts:List (List UInt8)} {V:World} (h:Holds g t (ts.map strV) V) (hn:ts.length≤1048576):zGcC V (.slice (some ⟨g,0,none⟩) ts.length ts.length) ts:=by
 refine ⟨_,_,rfl,by omega,.inr ⟨g,0,rfl,h.lt,fun j hj=>?_⟩⟩
 rw[Nat.zero_add,Lib.cell_of_heap h]
 simp[hj,strV]
theorem Tryz.infoStrF:(Tryz.prog.info? 9).map (fun i=>(i.zero,i.size,i.bytes))=some (some (.string ⟨#[]⟩),1,16):=by kernel_rfl
theorem qjRV (z:Value) (N:Nat):madeCells #[z] N=(List.replicate N z).toArray:=by
 refine Array.ext (by simp[madeCells]) fun i h1 h2=>?_
 simp[madeCells,Nat.mod_one]
theorem qrn3 (ns:List (List UInt8)) (M:Nat) (x:List UInt8):(ns.map strV++List.replicate (M+1) (Value.string ⟨#[]⟩)).set ns.length (.string (str x))=(ns++[x]).map strV++List.replicate M (Value.string ⟨#[]⟩):=by
 rw[List.set_append_right _ _ (by simp),List.length_map,Nat.sub_self,List.replicate_succ,List.set_cons_zero]
 simp[strV]
theorem jQyx (s:List UInt8) (w:World) (hl:s.length≤281474976710656) :
  Calls Tryz.prog 164 #[.string (str s)] w fun e w'=>e=.returned (.string (str s))∧Below w.heap.size w w':=by
 have HC:=hide (Tryz.stringslite_Clone (str s) w (by rw[qzX5];exact hl))
 go_enter Tryz.func164,Tryz.ntmps164
 go_wp2_with fail
 refine (HC.out).mono ?_
 rintro e w1 ⟨rfl,hb⟩
 go_wp2
 go_ret
 exact ⟨rfl,hb⟩
theorem Xz65 {l t s:List UInt8} (h:textP l=some (s,t)):t.length≤l.length:=by
 rw[(zGqm.sound _ _ _ h).1,List.length_append];omega
theorem jt6w {l t s:List UInt8} (h:textP l=some (s,t)):s.length≤l.length:=by
 rw[(zGqm.sound _ _ _ h).1,List.length_append,textW,List.length_append];omega
structure FJ (w:World) (X:List (Nat×TypeId×List Value)) (l:List UInt8) (cs:List Value) (V:World):Prop where
 sep:∀x∈X,w.heap.size+2<x.1
 bel:Below w.heap.size w V
 rd:IsRd (w.heap.size+2) l V
 box:Holds w.heap.size 57 cs V
 okb:Holds (w.heap.size+1) 4 [.bool false] V
 ex:∀x∈X,Holds x.1 x.2.1 x.2.2 V
theorem FJ.num {w:World} {X:List (Nat×TypeId×List Value)} {l t:List UInt8} {cs:List Value} {V V':World} (h:FJ w X l cs V) (hs:RSt w.heap.size (w.heap.size+2) V V') (hr:IsRd (w.heap.size+2) t V'):FJ w X t cs V' where
 sep:=h.sep
 bel:=h.bel.trans hs.bel
 rd:=hr
 box:=(hs.keep _ h.box.lt (by omega)).trans h.box
 okb:=(hs.keep _ h.okb.lt (by omega)).trans h.okb
 ex:=fun x hx=>(hs.keep _ (h.ex x hx).lt (by have:=h.sep x hx;omega)).trans (h.ex x hx)
theorem FJ.pan {w:World} {X:List (Nat×TypeId×List Value)} {l:List UInt8} {cs:List Value} {V V':World} (h:FJ w X l cs V) (hs:RSt w.heap.size (w.heap.size+2) V V'):Below w.heap.size w V'∧Holds w.heap.size 57 cs V'∧Holds (w.heap.size+1) 4 [.bool false] V' :=
 ⟨h.bel.trans hs.bel,(hs.keep _ h.box.lt (by omega)).trans h.box,(hs.keep _ h.okb.lt (by omega)).trans h.okb⟩
theorem FJ.pan2 {w:World} {X:List (Nat×TypeId×List Value)} {l:List UInt8} {cs:List Value} {V V':World} {g:Nat} (h:FJ w X l cs V) (hg:w.heap.size+2<g) (hs:RSt2 w.heap.size (w.heap.size+2) g V V'):Below w.heap.size w V'∧Holds w.heap.size 57 cs V'∧Holds (w.heap.size+1) 4 [.bool false] V' :=
 ⟨h.bel.trans hs.bel,(hs.keep _ h.box.lt (by omega) (by omega)).trans h.box,(hs.keep _ h.okb.lt (by omega) (by omega)).trans h.okb⟩
theorem FJ.put {w:World} {X:List (Nat×TypeId×List Value)} {l:List UInt8} {cs:List Value} {V:World} (h:FJ w X l cs V) (i:Nat) (v:Value) (h1:v.oneCell'=true):FJ w X l (cs.set i v) (V.setCell ⟨w.heap.size,i,none⟩ v):=by
 obtain ⟨hh,hs⟩:=h.box.set (B:=w.heap.size) (b:=w.heap.size+2) (Nat.le_refl _) i v h1
 have hk:∀k,k≠w.heap.size→(V.setCell ⟨w.heap.size,i,none⟩ v).heap[k]?=V.heap[k]?:=fun k hk=>Below.heap_setCell _ _ _ _ (fun e=>hk e)
 exact ⟨h.sep,h.bel.trans hs.bel,(hk _ (by omega)).trans h.rd,hh,(hk _ (by omega)).trans h.okb,fun x hx=>(hk _ (by have:=h.sep x hx;omega)).trans (h.ex x hx)⟩
theorem FJ.alloc {w:World} {X:List (Nat×TypeId×List Value)} {l:List UInt8} {cs:List Value} {V:World} (h:FJ w X l cs V) (ds:List Value) (t:TypeId):FJ w ((V.heap.size,t,ds)::X) l cs (V.alloc (.cells ds.toArray t)) where
 sep:=fun x hx=>by
  rcases List.mem_cons.1 hx with rfl|hx
  ·exact (Array.getElem?_eq_some_iff.1 h.rd).1
  ·exact h.sep x hx
 bel:=h.bel.trans ((qUNz V _).mono h.bel.size)
 rd:=qgz9 h.rd _
 box:=((qUNz V _).block _ h.box.lt).trans h.box
 okb:=((qUNz V _).block _ h.okb.lt).trans h.okb
 ex:=fun x hx=>by
  rcases List.mem_cons.1 hx with rfl|hx
  ·exact al1 V _
  ·exact ((qUNz V _).block _ (h.ex x hx).lt).trans (h.ex x hx)
theorem FJ.bel2 {w:World} {X:List (Nat×TypeId×List Value)} {l:List UInt8} {cs:List Value} {V V':World} (h:FJ w X l cs V) (hb:Below V.heap.size V V'):FJ w X l cs V' :=
 ⟨h.sep,h.bel.trans (hb.mono h.bel.size),(hb.block _ (Array.getElem?_eq_some_iff.1 h.rd).1).trans h.rd,(hb.block _ h.box.lt).trans h.box,(hb.block _ h.okb.lt).trans h.okb,fun x hx=>(hb.block _ (h.ex x hx).lt).trans (h.ex x hx)⟩
theorem FJ.drew {w:World} {X:List (Nat×TypeId×List Value)} {l:List UInt8} {cs:List Value} {V:World} (h:FJ w X l cs V):FJ w X l cs V.drew :=
 ⟨h.sep,h.bel.drew,h.rd,h.box,h.okb,h.ex⟩
theorem FJ.fillX {w:World} {X:List (Nat×TypeId×List Value)} {g:Nat} {t:TypeId} {ds ds':List Value} {l u:List UInt8} {cs:List Value} {V V':World} (h:FJ w ((g,t,ds)::X) l cs V) (hX:∀x∈X,x.1≠g) (hs:RSt2 w.heap.size (w.heap.size+2) g V V') (hr:IsRd (w.heap.size+2) u V') (hh:Holds g t ds' V'):FJ w ((g,t,ds')::X) u cs V':=by
 have hg:w.heap.size+2<g:=h.sep (g,t,ds) List.mem_cons_self
 refine ⟨?_,h.bel.trans hs.bel,hr,(hs.keep _ h.box.lt (by omega) (by omega)).trans h.box,(hs.keep _ h.okb.lt (by omega) (by omega)).trans h.okb,?_⟩
 ·intro x hx
  rcases List.mem_cons.1 hx with rfl|hx
  ·exact hg
  ·exact h.sep x (by simp[hx])
 ·intro x hx
  rcases List.mem_cons.1 hx with rfl|hx
  ·exact hh
  ·exact (hs.keep _ (h.ex x (by simp[hx])).lt (by have:=h.sep x (by simp[hx]);omega) (hX x hx)).trans (h.ex x (by simp[hx]))
theorem FJ.plan {w:World} {X:List (Nat×TypeId×List Value)} {l:List UInt8} {cs cs':List Value} {V:World} (h:FJ w X l cs V):FJ w X l cs' (V.setRow w.heap.size cs'.toArray):=by
 have hk:∀k,k≠w.heap.size→(V.setRow w.heap.size cs'.toArray).heap[k]?=V.heap[k]?:=fun k hk=>setRow_other _ _ _ _ hk
 exact ⟨h.sep,below_setRow h.bel (Nat.le_refl _) _,(hk _ (by omega)).trans h.rd,setRow_heap _ _ _ _ _ _ h.box,(hk _ (by omega)).trans h.okb,fun x hx=>(hk _ (by have:=h.sep x hx;omega)).trans (h.ex x hx)⟩
theorem zhHE (s:List UInt8) (w:World) (hs:s.length≤140737488355328) :
    Calls Tryz.prog 107 #[.string (str s)] w fun e w'=>Below w.heap.size w w'∧((∃r lv tv sv cv,rawP (fun _=>17) (fun _=>64) (fun _=>64) (fun _=>16) s=some r∧e=.returned (.tuple #[.agg (rawA r lv tv sv cv),.bool true])∧IsRaw w' r lv tv sv cv∧Fresh w.heap.size lv∧Fresh w.heap.size tv∧Fresh w.heap.size sv∧Fresh w.heap.size cv)∨(rawP (fun _=>17) (fun _=>64) (fun _=>64) (fun _=>16) s=none∧e=.returned (.tuple #[.agg rawZ,.bool false]))):=by
  have HJ0:FJ w [] s rawZ.toList (((w.alloc (.cells rawZ 57)).alloc (.cells #[.bool false] 4)).alloc (.cells #[.string (str s)] 200)):=by
    obtain ⟨a1,a2,a3⟩:=al3 w (Obj.cells rawZ 57) (Obj.cells #[.bool false] 4) (Obj.cells #[.string (str s)] 200)
    exact ⟨by simp,be3 w _ _ _,a3,a1,a2,by simp⟩
  have HJ:=hide HJ0
  clear HJ0
  have hmf:∀(fn:Fn) (first cap:Array Value) (w:World),(Instr.makeFunc fn first cap).run Tryz.prog w=.ok (.func fn first cap) w:=fun _ _ _ _=>rfl
  obtain ⟨R,HP⟩:∃R,Hid (R=rawP (fun _=>17) (fun _=>64) (fun _=>64) (fun _=>16) s):=⟨_,rfl⟩
  rw[←HP.out]
  go_enter_defers Tryz.func107,Tryz.ntmps107
  go_wp2_with fail
  generalize ((w.alloc (.cells rawZ 57)).alloc (.cells #[.bool false] 4)).alloc (.cells #[.string (str s)] 200)=V0 at *
  refine (q940 w.heap.size (w.heap.size+2) s V0 (by omega) HJ.out.bel.size HJ.out.rd (by omega)).mono ?_
  rintro e V1 ⟨hS,hc⟩
  rcases hc with ⟨m,l1,hp,rfl,hR⟩|⟨hp,rfl⟩
  rotate_left
  · exact (fun q => XQWw q.1 q.2.1 rfl q.2.2 rfl rfl (fun W hW => ⟨hW, .inr ⟨by rw [HP.out, rawP, hp], rfl⟩⟩)) (HJ.out.pan hS)
  have hl1:l1.length≤140737488355328:=by have:=Xz65 hp;omega
  replace HP:=hide (show R=if m=darkL then kq1 (fun _=>17) (fun _=>64) (fun _=>64) (fun _=>16) l1 else none by rw[HP.out,rawP,hp])
  replace HJ:=hide (HJ.out.num hS hR)
  have hml:=jt6w hp
  clear hp hS hR
  by_cases hm:m=darkL
  rotate_left
  · rw [if_neg hm] at HP
    have hq:((str m).toList == [100,97,114,107])=false:=by rw[Lib.toList_data,jrcE];exact beq_false_of_ne hm
    go_wp2_with fail
    refine (q2dr _).mono ?_
    rintro e V' ⟨rfl,rfl⟩
    exact XQWw HJ.out.bel HJ.out.box rfl HJ.out.okb rfl rfl (fun W hW=>⟨hW,.inr ⟨HP.out,rfl⟩⟩)
  subst hm
  rw[if_pos rfl] at HP
  have hq:((str darkL).toList == [100,97,114,107])=true:=by rw[Lib.toList_data,jrcE];rfl
  go_wp2_with fail
  refine (qEMU _).mono ?_
  rintro e VQ ⟨rfl,rfl⟩
  go_wp2_with fail
  refine (qI49 w.heap.size (w.heap.size+2) l1 VQ (by omega) HJ.out.bel.size HJ.out.rd (by omega)).mono ?_
  rintro e V2 ⟨hS,hc⟩
  rcases hc with ⟨rw,l2,hp,rfl,hR⟩|⟨hp,rfl⟩
  rotate_left
  · exact (fun q => XQWw q.1 q.2.1 rfl q.2.2 rfl rfl (fun W hW => ⟨hW, .inr ⟨by rw [HP.out, kq1, hp], rfl⟩⟩)) (HJ.out.pan hS)
  have hl2:l2.length≤140737488355328:=by have:=jN2l hp;omega
  replace HP:=hide (show R=kq2 (fun _=>17) (fun _=>64) (fun _=>64) (fun _=>16) rw l2 by rw[HP.out,kq1,hp])
  replace HJ:=hide (HJ.out.num hS hR)
  clear hp hS hR
  go_wp2_with fail
  refine (qI49 w.heap.size (w.heap.size+2) l2 V2 (by omega) HJ.out.bel.size HJ.out.rd (by omega)).mono ?_
  rintro e V3 ⟨hS,hc⟩
  rcases hc with ⟨rh,l3,hp,rfl,hR⟩|⟨hp,rfl⟩
  rotate_left
  · exact (fun q => XQWw q.1 q.2.1 rfl q.2.2 rfl rfl (fun W hW => ⟨hW, .inr ⟨by rw [HP.out, kq2, hp], rfl⟩⟩)) (HJ.out.pan hS)
  have hl3:l3.length≤140737488355328:=by have:=jN2l hp;omega
  replace HP:=hide (show R=kq3 (fun _=>17) (fun _=>64) (fun _=>64) (fun _=>16) rw rh l3 by rw[HP.out,kq2,hp])
  replace HJ:=hide (HJ.out.num hS hR)
  clear hp hS hR
  have c0:V3.cell? ⟨w.heap.size,0,none⟩=some (.int .i64 0):=by rw[Lib.cell_of_heap HJ.out.box];rfl
  have f0:V3.frozen? ⟨w.heap.size,0,none⟩=false:=Lib.frozen_of_heap HJ.out.box _
  replace HJ:=hide (HJ.out.put 0 (.int .i64 rw) rfl)
  replace HJ:=hide (show FJ w [] l3 [.int .i64 rw,.int .i64 0,.int .i64 0,.int .i64 0,.int .i64 0,.slice none 0 0,.slice none 0 0,.int .i64 0,.int .i64 0,.int .i64 0,.int .i64 0,.int .i64 0,.int .i64 0,.slice none 0 0,.int .i64 0,.int .i64 0,.int .i64 0,.int .i64 0,.int .i64 0,.int .i64 0,.int .i64 0,.int .i64 0,.int .i64 0,.int .i64 0,.int .i64 0,.int .i64 0,.slice none 0 0,.int .i64 0] (V3.setCell ⟨w.heap.size,0,none⟩ (.int .i64 rw)) from HJ.out)
  have c1:(V3.setCell ⟨w.heap.size,0,none⟩ (.int .i64 rw)).cell? ⟨w.heap.size,1,none⟩=some (.int .i64 0):=by rw[Lib.cell_of_heap HJ.out.box];rfl
  have f1:(V3.setCell ⟨w.heap.size,0,none⟩ (.int .i64 rw)).frozen? ⟨w.heap.size,1,none⟩=false:=Lib.frozen_of_heap HJ.out.box _
  replace HJ:=hide (HJ.out.put 1 (.int .i64 rh) rfl)
  replace HJ:=hide (show FJ w [] l3 [.int .i64 rw,.int .i64 rh,.int .i64 0,.int .i64 0,.int .i64 0,.slice none 0 0,.slice none 0 0,.int .i64 0,.int .i64 0,.int .i64 0,.int .i64 0,.int .i64 0,.int .i64 0,.slice none 0 0,.int .i64 0,.int .i64 0,.int .i64 0,.int .i64 0,.int .i64 0,.int .i64 0,.int .i64 0,.int .i64 0,.int .i64 0,.int .i64 0,.int .i64 0,.int .i64 0,.slice none 0 0,.int .i64 0] ((V3.setCell ⟨w.heap.size,0,none⟩ (.int .i64 rw)).setCell ⟨w.heap.size,1,none⟩ (.int .i64 rh)) from HJ.out)
  go_wp2_with fail
  clear c0 f0 c1 f1
  generalize ((V3.setCell ⟨w.heap.size,0,none⟩ (.int .i64 rw)).setCell ⟨w.heap.size,1,none⟩ (.int .i64 rh))=VB at *
  refine (qI49 w.heap.size (w.heap.size+2) l3 VB (by omega) HJ.out.bel.size HJ.out.rd (by omega)).mono ?_
  rintro e V4 ⟨hS,hc⟩
  rcases hc with ⟨rd,l4,hp,rfl,hR⟩|⟨hp,rfl⟩
  rotate_left
  · exact (fun q => XQWw q.1 q.2.1 rfl q.2.2 rfl rfl (fun W hW => ⟨hW, .inr ⟨by rw [HP.out, kq3, hp], rfl⟩⟩)) (HJ.out.pan hS)
  have hl4:l4.length≤140737488355328:=by have:=jN2l hp;omega
  replace HP:=hide (show R=kq4 (fun _=>17) (fun _=>64) (fun _=>64) (fun _=>16) rw rh rd l4 by rw[HP.out,kq3,hp])
  replace HJ:=hide (HJ.out.num hS hR)
  clear hp hS hR
  go_wp2_with fail
  refine (qI49 w.heap.size (w.heap.size+2) l4 V4 (by omega) HJ.out.bel.size HJ.out.rd (by omega)).mono ?_
  rintro e V5 ⟨hS,hc⟩
  rcases hc with ⟨rk,l5,hp,rfl,hR⟩|⟨hp,rfl⟩
  rotate_left
  · exact (fun q => XQWw q.1 q.2.1 rfl q.2.2 rfl rfl (fun W hW => ⟨hW, .inr ⟨by rw [HP.out, kq4, hp], rfl⟩⟩)) (HJ.out.pan hS)
  have hl5:l5.length≤140737488355328:=by have:=jN2l hp;omega
  replace HP:=hide (show R=kq5 (fun _=>17) (fun _=>64) (fun _=>64) (fun _=>16) rw rh rd rk l5 by rw[HP.out,kq4,hp])
  replace HJ:=hide (HJ.out.num hS hR)
  clear hp hS hR
  go_wp2_with fail
  refine (qI49 w.heap.size (w.heap.size+2) l5 V5 (by omega) HJ.out.bel.size HJ.out.rd (by omega)).mono ?_
  rintro e V6 ⟨hS,hc⟩
  rcases hc with ⟨rr,l6,hp,rfl,hR⟩|⟨hp,rfl⟩
  rotate_left
  · exact (fun q => XQWw q.1 q.2.1 rfl q.2.2 rfl rfl (fun W hW => ⟨hW, .inr ⟨by rw [HP.out, kq5, hp], rfl⟩⟩)) (HJ.out.pan hS)
  have hl6:l6.length≤140737488355328:=by have:=jN2l hp;omega
  replace HP:=hide (show R=kq6 (fun _=>17) (fun _=>64) (fun _=>64) (fun _=>16) rw rh rd rk rr l6 by rw[HP.out,kq5,hp])
  replace HJ:=hide (HJ.out.num hS hR)
  clear hp hS hR
  have c0:V6.cell? ⟨w.heap.size,2,none⟩=some (.int .i64 0):=by rw[Lib.cell_of_heap HJ.out.box];rfl
  have f0:V6.frozen? ⟨w.heap.size,2,none⟩=false:=Lib.frozen_of_heap HJ.out.box _
  replace HJ:=hide (HJ.out.put 2 (.int .i64 rd) rfl)
  replace HJ:=hide (show FJ w [] l6 [.int .i64 rw,.int .i64 rh,.int .i64 rd,.int .i64 0,.int .i64 0,.slice none 0 0,.slice none 0 0,.int .i64 0,.int .i64 0,.int .i64 0,.int .i64 0,.int .i64 0,.int .i64 0,.slice none 0 0,.int .i64 0,.int .i64 0,.int .i64 0,.int .i64 0,.int .i64 0,.int .i64 0,.int .i64 0,.int .i64 0,.int .i64 0,.int .i64 0,.int .i64 0,.int .i64 0,.slice none 0 0,.int .i64 0] (V6.setCell ⟨w.heap.size,2,none⟩ (.int .i64 rd)) from HJ.out)
  have c1:(V6.setCell ⟨w.heap.size,2,none⟩ (.int .i64 rd)).cell? ⟨w.heap.size,3,none⟩=some (.int .i64 0):=by rw[Lib.cell_of_heap HJ.out.box];rfl
  have f1:(V6.setCell ⟨w.heap.size,2,none⟩ (.int .i64 rd)).frozen? ⟨w.heap.size,3,none⟩=false:=Lib.frozen_of_heap HJ.out.box _
  replace HJ:=hide (HJ.out.put 3 (.int .i64 rk) rfl)
  replace HJ:=hide (show FJ w [] l6 [.int .i64 rw,.int .i64 rh,.int .i64 rd,.int .i64 rk,.int .i64 0,.slice none 0 0,.slice none 0 0,.int .i64 0,.int .i64 0,.int .i64 0,.int .i64 0,.int .i64 0,.int .i64 0,.slice none 0 0,.int .i64 0,.int .i64 0,.int .i64 0,.int .i64 0,.int .i64 0,.int .i64 0,.int .i64 0,.int .i64 0,.int .i64 0,.int .i64 0,.int .i64 0,.int .i64 0,.slice none 0 0,.int .i64 0] ((V6.setCell ⟨w.heap.size,2,none⟩ (.int .i64 rd)).setCell ⟨w.heap.size,3,none⟩ (.int .i64 rk)) from HJ.out)
  have c2:((V6.setCell ⟨w.heap.size,2,none⟩ (.int .i64 rd)).setCell ⟨w.heap.size,3,none⟩ (.int .i64 rk)).cell? ⟨w.heap.size,4,none⟩=some (.int .i64 0):=by rw[Lib.cell_of_heap HJ.out.box];rfl
  have f2:((V6.setCell ⟨w.heap.size,2,none⟩ (.int .i64 rd)).setCell ⟨w.heap.size,3,none⟩ (.int .i64 rk)).frozen? ⟨w.heap.size,4,none⟩=false:=Lib.frozen_of_heap HJ.out.box _
  replace HJ:=hide (HJ.out.put 4 (.int .i64 rr) rfl)
  replace HJ:=hide (show FJ w [] l6 [.int .i64 rw,.int .i64 rh,.int .i64 rd,.int .i64 rk,.int .i64 rr,.slice none 0 0,.slice none 0 0,.int .i64 0,.int .i64 0,.int .i64 0,.int .i64 0,.int .i64 0,.int .i64 0,.slice none 0 0,.int .i64 0,.int .i64 0,.int .i64 0,.int .i64 0,.int .i64 0,.int .i64 0,.int .i64 0,.int .i64 0,.int .i64 0,.int .i64 0,.int .i64 0,.int .i64 0,.slice none 0 0,.int .i64 0] (((V6.setCell ⟨w.heap.size,2,none⟩ (.int .i64 rd)).setCell ⟨w.heap.size,3,none⟩ (.int .i64 rk)).setCell ⟨w.heap.size,4,none⟩ (.int .i64 rr)) from HJ.out)
  go_wp2_with fail
  clear c0 f0 c1 f1 c2 f2
  generalize (((V6.setCell ⟨w.heap.size,2,none⟩ (.int .i64 rd)).setCell ⟨w.heap.size,3,none⟩ (.int .i64 rk)).setCell ⟨w.heap.size,4,none⟩ (.int .i64 rr))=VC at *
  refine (zbMh w.heap.size (w.heap.size+2) 17 l6 VC (by omega) HJ.out.bel.size HJ.out.rd (by omega)).mono ?_
  rintro e V7 ⟨hS,hc⟩
  rcases hc with ⟨n,l7,hp,rfl,hR⟩|⟨hp,rfl⟩
  rotate_left
  · exact (fun q => XQWw q.1 q.2.1 rfl q.2.2 rfl rfl (fun W hW => ⟨hW, .inr ⟨by rw [HP.out, kq6, qbhm hp], rfl⟩⟩)) (HJ.out.pan hS)
  obtain ⟨N7,rfl,hN7,hlp,hlen⟩:=qf3O (p:=numP) hp
  have HLP:=hide hlp
  have hl7:l7.length≤140737488355328:=by omega
  replace HJ:=hide (HJ.out.num hS hR)
  clear hp hS hR hlp hlen
  obtain ⟨i0,hi,hz0,hz1,hz2⟩:=info_parts Tryz.infoInt
  obtain ⟨ZA,hZA⟩:∃ZA:Array Value,(List.replicate N7 (Value.int .i64 0)).toArray=ZA:=⟨_,rfl⟩
  have hmk:∀V:World,(Instr.makeSlice 52 (.int .i64 N7) (.int .i64 N7)).run Tryz.prog V=.ok (.slice (some ⟨V.heap.size,0,none⟩) N7 N7) (V.alloc (.cells ZA 3)):=fun V=>by
    have h:=run_make (P:=Tryz.prog) V 52 3 i0 (Value.int .i64 0) Tryz.underlying52 hi hz0 .i64 .i64 N7 N7 (by omega) (Int.le_refl _) (by rw[hz2];omega) (by omega)
    rw[hz1,Int.toNat_natCast,Nat.mul_one] at h
    rw[←hZA,←qjRV]
    simpa [Value.cells] using h
  clear hi hz0 hz1 hz2
  have hxs7:∀x∈([]:List (Nat×TypeId×List Value)),x.1≠V7.heap.size:=fun x hx=>by have:=(HJ.out.ex x hx).lt;omega
  have ci:V7.cell? ⟨w.heap.size,5,none⟩=some (.slice none 0 0):=by rw[Lib.cell_of_heap HJ.out.box];rfl
  have fi:V7.frozen? ⟨w.heap.size,5,none⟩=false:=Lib.frozen_of_heap HJ.out.box _
  have hbl:w.heap.size<V7.heap.size:=HJ.out.box.lt
  have ci':(V7.alloc (.cells ZA 3)).cell? ⟨w.heap.size,5,none⟩=some (.slice none 0 0):=by rw[Lib.cell_of_heap (((qUNz V7 _).block _ HJ.out.box.lt).trans HJ.out.box)];rfl
  have fi':(V7.alloc (.cells ZA 3)).frozen? ⟨w.heap.size,5,none⟩=false:=Lib.frozen_of_heap (((qUNz V7 _).block _ HJ.out.box.lt).trans HJ.out.box) _
  replace HJ:=hide ((HJ.out.put 5 (.slice (some ⟨V7.heap.size,0,none⟩) N7 N7) rfl).alloc (List.replicate N7 (Value.int .i64 0)) 3)
  rw[hZA,show (V7.setCell ⟨w.heap.size,5,none⟩ (.slice (some ⟨V7.heap.size,0,none⟩) N7 N7)).heap.size=V7.heap.size by simp[World.setCell]] at HJ
  clear hZA
  have hsep7:w.heap.size+2<V7.heap.size:=HJ.out.sep _ List.mem_cons_self
  go_upto_region 7 with fail
  clear ci fi ci' fi' hmk hbl
  generalize V7.heap.size=S7 at *
  generalize (V7.setCell ⟨w.heap.size,5,none⟩ (.slice (some ⟨S7,0,none⟩) N7 N7)).alloc (.cells ZA 3)=VD at *
  replace HJ:=hide (show FJ w [(S7,3,List.replicate N7 (Value.int .i64 0))] l7 [.int .i64 rw,.int .i64 rh,.int .i64 rd,.int .i64 rk,.int .i64 rr,.slice (some ⟨S7,0,none⟩) N7 N7,.slice none 0 0,.int .i64 0,.int .i64 0,.int .i64 0,.int .i64 0,.int .i64 0,.int .i64 0,.slice none 0 0,.int .i64 0,.int .i64 0,.int .i64 0,.int .i64 0,.int .i64 0,.int .i64 0,.int .i64 0,.int .i64 0,.int .i64 0,.int .i64 0,.int .i64 0,.int .i64 0,.slice none 0 0,.int .i64 0] VD from HJ.out)
  have cj:VD.cell? ⟨w.heap.size,5,none⟩=some (.slice (some ⟨S7,0,none⟩) N7 N7):=by rw[Lib.cell_of_heap HJ.out.box];rfl
  go_wp2_with fail
  clear cj
  have hHL:=HJ.out.ex (S7,3,List.replicate N7 (Value.int .i64 0)) (by simp)
  refine (qKIr w.heap.size (w.heap.size+2) S7 0 N7 N7 3 (List.replicate N7 (Value.int .i64 0)) l7 VD (by omega) (by omega) (by omega) HJ.out.bel.size HJ.out.rd (by omega) hHL (by simp) (by omega) (fun i hi=>⟨0,by rw[Nat.zero_add,List.getElem?_replicate,if_pos hi]⟩)).mono ?_
  rintro e VE ⟨hS,hc⟩
  rcases hc with ⟨le,lE,hp,rfl,hR,hH⟩|⟨hp,rfl⟩
  rotate_left
  · exact (fun q => XQWw q.1 q.2.1 rfl q.2.2 rfl rfl (fun W hW => ⟨hW, .inr ⟨by rw [HP.out, kq6, HLP.out, hp], rfl⟩⟩)) (HJ.out.pan2 hsep7 hS)
  have hnl:=jPlP hp
  have hlE:lE.length≤140737488355328:=by have:=X8f4 (fun _ _ _=>jN2l) hp;omega
  replace HP:=hide (show R=kq7 (fun _=>64) (fun _=>64) (fun _=>16) rw rh rd rk rr le lE by rw[HP.out,kq6,HLP.out,hp])
  have hpe:patch (List.replicate N7 (Value.int .i64 0)) 0 (le.map (Value.int .i64))=le.map (Value.int .i64):=by
    unfold patch
    rw[List.take_zero,List.nil_append,List.drop_of_length_le (by simp;omega),List.append_nil]
  rw[hpe] at hH
  replace HJ:=hide (HJ.out.fillX (by simp) hS hR hH)
  clear hp hS hR hH HLP hHL hpe
  go_wp2_with fail
  refine (zbMh w.heap.size (w.heap.size+2) 64 lE VE (by omega) HJ.out.bel.size HJ.out.rd (by omega)).mono ?_
  rintro e V8 ⟨hS,hc⟩
  rcases hc with ⟨n,l8,hp,rfl,hR⟩|⟨hp,rfl⟩
  rotate_left
  · exact (fun q => XQWw q.1 q.2.1 rfl q.2.2 rfl rfl (fun W hW => ⟨hW, .inr ⟨by rw [HP.out, kq7, qbhm hp], rfl⟩⟩)) (HJ.out.pan hS)
  obtain ⟨N8,rfl,hN8,hlp,hlen⟩:=qf3O (p:=textP) hp
  have HLP:=hide hlp
  have hl8:l8.length≤140737488355328:=by omega
  replace HJ:=hide (HJ.out.num hS hR)
  clear hp hS hR hlp hlen
  obtain ⟨i0,hi,hz0,hz1,hz2⟩:=info_parts Tryz.infoStrF
  obtain ⟨ZA,hZA⟩:∃ZA:Array Value,(List.replicate N8 (Value.string ⟨#[]⟩)).toArray=ZA:=⟨_,rfl⟩
  have hmk:∀V:World,(Instr.makeSlice 55 (.int .i64 N8) (.int .i64 N8)).run Tryz.prog V=.ok (.slice (some ⟨V.heap.size,0,none⟩) N8 N8) (V.alloc (.cells ZA 9)):=fun V=>by
    have h:=run_make (P:=Tryz.prog) V 55 9 i0 (Value.string ⟨#[]⟩) Tryz.underlying55 hi hz0 .i64 .i64 N8 N8 (by omega) (Int.le_refl _) (by rw[hz2];omega) (by omega)
    rw[hz1,Int.toNat_natCast,Nat.mul_one] at h
    rw[←hZA,←qjRV]
    simpa [Value.cells] using h
  clear hi hz0 hz1 hz2
  have hxs8:∀x∈([(S7,3,le.map (Value.int .i64))]:List (Nat×TypeId×List Value)),x.1≠V8.heap.size:=fun x hx=>by have:=(HJ.out.ex x hx).lt;omega
  have ci:V8.cell? ⟨w.heap.size,6,none⟩=some (.slice none 0 0):=by rw[Lib.cell_of_heap HJ.out.box];rfl
  have fi:V8.frozen? ⟨w.heap.size,6,none⟩=false:=Lib.frozen_of_heap HJ.out.box _
  have hbl:w.heap.size<V8.heap.size:=HJ.out.box.lt
  have ci':(V8.alloc (.cells ZA 9)).cell? ⟨w.heap.size,6,none⟩=some (.slice none 0 0):=by rw[Lib.cell_of_heap (((qUNz V8 _).block _ HJ.out.box.lt).trans HJ.out.box)];rfl
  have fi':(V8.alloc (.cells ZA 9)).frozen? ⟨w.heap.size,6,none⟩=false:=Lib.frozen_of_heap (((qUNz V8 _).block _ HJ.out.box.lt).trans HJ.out.box) _
  replace HJ:=hide ((HJ.out.put 6 (.slice (some ⟨V8.heap.size,0,none⟩) N8 N8) rfl).alloc (List.replicate N8 (Value.string ⟨#[]⟩)) 9)
  rw[hZA,show (V8.setCell ⟨w.heap.size,6,none⟩ (.slice (some ⟨V8.heap.size,0,none⟩) N8 N8)).heap.size=V8.heap.size by simp[World.setCell]] at HJ
  clear hZA
  have hsep8:w.heap.size+2<V8.heap.size:=HJ.out.sep _ List.mem_cons_self
  go_upto_region 9 with fail
  clear ci fi ci' fi' hmk hbl
  generalize V8.heap.size=S8 at *
  generalize (V8.setCell ⟨w.heap.size,6,none⟩ (.slice (some ⟨S8,0,none⟩) N8 N8)).alloc (.cells ZA 9)=VF at *
  replace HJ:=hide (show FJ w [(S8,9,[].map strV++List.replicate (N8-0) (Value.string ⟨#[]⟩)),(S7,3,le.map (Value.int .i64))] l8 [.int .i64 rw,.int .i64 rh,.int .i64 rd,.int .i64 rk,.int .i64 rr,.slice (some ⟨S7,0,none⟩) N7 N7,.slice (some ⟨S8,0,none⟩) N8 N8,.int .i64 0,.int .i64 0,.int .i64 0,.int .i64 0,.int .i64 0,.int .i64 0,.slice none 0 0,.int .i64 0,.int .i64 0,.int .i64 0,.int .i64 0,.int .i64 0,.int .i64 0,.int .i64 0,.int .i64 0,.int .i64 0,.int .i64 0,.int .i64 0,.int .i64 0,.slice none 0 0,.int .i64 0] VF from HJ.out)
  have cj:VF.cell? ⟨w.heap.size,6,none⟩=some (.slice (some ⟨S8,0,none⟩) N8 N8):=by rw[Lib.cell_of_heap HJ.out.box];rfl
  go_wp2_with fail
  clear cj
  go_loopw [34] (fun i wr=>∃k:Nat,k≤N8∧i=.int .i64 k∧∃ns u,manyP textP k l8=some (ns,u)∧FJ w [(S8,9,ns.map strV++List.replicate (N8-k) (Value.string ⟨#[]⟩)),(S7,3,le.map (Value.int .i64))] u [.int .i64 rw,.int .i64 rh,.int .i64 rd,.int .i64 rk,.int .i64 rr,.slice (some ⟨S7,0,none⟩) N7 N7,.slice (some ⟨S8,0,none⟩) N8 N8,.int .i64 0,.int .i64 0,.int .i64 0,.int .i64 0,.int .i64 0,.int .i64 0,.slice none 0 0,.int .i64 0,.int .i64 0,.int .i64 0,.int .i64 0,.int .i64 0,.int .i64 0,.int .i64 0,.int .i64 0,.int .i64 0,.int .i64 0,.int .i64 0,.int .i64 0,.slice none 0 0,.int .i64 0] wr) (fun i _=>N8-(intOf i).toNat)
  case atStart=>exact ⟨0,Nat.zero_le _,rfl,[],l8,rfl,HJ.out⟩
  case round =>
    clear HJ
    obtain ⟨k,hk,rfl,ns,u,hm,hJ⟩:=hrel
    have HJ:=hide hJ
    clear hJ
    have hnl2:=jPlP hm
    have hul:=X8f4 (fun _ _ _=>Xz65) hm
    by_cases hlt:k<N8
    · have hd : decide ((k : Int) < (N8 : Int)) = true := by simp; omega
      have HM:=hide hm
      have HSQ:=hide (fun (v:World) (cs':List UInt8) (hv:FJ w [(S8,9,ns.map strV++List.replicate (N8-k) (Value.string ⟨#[]⟩)),(S7,3,le.map (Value.int .i64))] cs' [.int .i64 rw,.int .i64 rh,.int .i64 rd,.int .i64 rk,.int .i64 rr,.slice (some ⟨S7,0,none⟩) N7 N7,.slice (some ⟨S8,0,none⟩) N8 N8,.int .i64 0,.int .i64 0,.int .i64 0,.int .i64 0,.int .i64 0,.int .i64 0,.slice none 0 0,.int .i64 0,.int .i64 0,.int .i64 0,.int .i64 0,.int .i64 0,.int .i64 0,.int .i64 0,.int .i64 0,.int .i64 0,.int .i64 0,.int .i64 0,.int .i64 0,.slice none 0 0,.int .i64 0] v)=>show v.cell? ⟨w.heap.size,6,none⟩=some (.slice (some ⟨S8,0,none⟩) N8 N8)∧True from ⟨by rw[Lib.cell_of_heap hv.box];rfl,trivial⟩)
      clear hm
      go_upto_region 12 with fail
      have HJd:=hide HJ.out.drew
      have hSd:=HSQ.out _ _ HJd.out
      have hmx:Tryz.prog.follows .mixedOrders=true:=by kernel_rfl
      refine qYgd (S:=(fun v:World=>v.cell? ⟨w.heap.size,6,none⟩=some (.slice (some ⟨S8,0,none⟩) N8 N8)∧True)) (f:=6) hmx ?_
      show jZdv _ _ _ _ _ _ 7 _ _ wr.drew
      refine XmaW (i:=0) (oi:=_) (v:=?vv1) (some 37) [] rfl rfl (by kernel_rfl) (by kernel_rfl) (by kernel_rfl) (by kernel_rfl) (by kernel_rfl) (fun _ _ _ h=>jjeL (d:=37) (by decide) h) (Or.inl ⟨by rfl,?yy1⟩) hSd ?rr1
      case yy1=>(intro wq hSq;obtain ⟨_,_⟩:=hSq;go_simp<;>with_reducible rfl)
      simp only[Act.put,List.setIfInBounds_toArray,List.set_cons_succ,List.set_cons_zero]
      refine XmaW (i:=2) (oi:=_) (v:=?vv2) (some 39) [] rfl rfl (by kernel_rfl) (by kernel_rfl) (by kernel_rfl) (by kernel_rfl) (by kernel_rfl) (fun _ _ _ h=>jjeL (d:=39) (by decide) h) (Or.inl ⟨by rfl,?yy2⟩) hSd ?rr2
      case yy2=>(intro wq hSq;obtain ⟨_,_⟩:=hSq;go_simp<;>with_reducible rfl)
      simp only[Act.put,List.setIfInBounds_toArray,List.set_cons_succ,List.set_cons_zero]
      refine XmaW (i:=1) (oi:=_) (v:=?vv3) (some 38) [] rfl rfl (by kernel_rfl) (by kernel_rfl) (by kernel_rfl) (by kernel_rfl) (by kernel_rfl) (fun _ _ _ h=>jjeL (d:=38) (by decide) h) (Or.inl ⟨by rfl,?yy3⟩) hSd ?rr3
      case yy3=>(intro wq hSq;obtain ⟨_,_⟩:=hSq;go_simp<;>with_reducible rfl)
      simp only[Act.put,List.setIfInBounds_toArray,List.set_cons_succ,List.set_cons_zero]
      refine znWj (i:=3) (o:=_) (by kernel_rfl) rfl (fun K' hK=>?_)
      rw[if_pos (by rfl)]
      go_simp
      refine (q940 w.heap.size (w.heap.size+2) u wr.drew (by omega) HJd.out.bel.size HJd.out.rd (by omega)).mono ?_
      rintro e X1 ⟨hS,hc⟩
      rcases hc with ⟨tx,u1,hp,rfl,hR⟩|⟨hp,rfl⟩
      rotate_left
      · exact (fun q => XQWw q.1 q.2.1 rfl q.2.2 rfl rfl (fun W hW => ⟨hW, .inr ⟨by rw [HP.out, kq7, HLP.out, XLXy HM.out hp hlt], rfl⟩⟩)) (HJd.out.pan hS)
      have HP1:=hide hp
      have hu1:=Xz65 hp
      have htx:=jt6w hp
      have HJ1:=hide (HJd.out.num hS hR)
      clear hp hS hR
      have hSd:=HSQ.out _ _ HJ1.out
      refine hK.out _ _ hSd ?_
      clear hK
      try simp only[Act.put]
      refine znWj (i:=4) (o:=_) (by kernel_rfl) rfl (fun K' hK=>?_)
      rw[if_pos (by rfl)]
      go_simp
      refine (jQyx tx X1 (by omega)).mono ?_
      rintro e X2 ⟨rfl,hb2⟩
      have HJ2:=hide (HJ1.out.bel2 hb2)
      clear hb2
      have hcl:(ns.map strV++List.replicate (N8-k) (Value.string ⟨#[]⟩)).length=N8:=by rw[List.length_append,List.length_map,List.length_replicate,hnl2];omega
      have hH:=HJ2.out.ex (S8,9,ns.map strV++List.replicate (N8-k) (Value.string ⟨#[]⟩)) (by simp)
      obtain ⟨z0,c0⟩:∃z,X2.cell? ⟨S8,k,none⟩=some z:=⟨_,by rw[Lib.cell_of_heap hH,List.getElem?_toArray];exact List.getElem?_eq_getElem (by rw[hcl];omega)⟩
      have f0:X2.frozen? ⟨S8,k,none⟩=false:=Lib.frozen_of_heap hH _
      obtain ⟨hH3,hS3⟩:=hH.set (B:=w.heap.size) (b:=w.heap.size+2) (by omega) k (.string (str tx)) rfl
      have HJ3:=hide (HJ2.out.fillX hxs8 hS3 ((Below.heap_setCell _ _ _ _ (show w.heap.size+2≠S8 by omega)).trans HJ2.out.rd) hH3)
      clear hcl hH hH3 hS3
      have hSd:=HSQ.out _ _ HJ2.out
      refine hK.out _ _ hSd ?_
      clear hK
      try simp only[Act.put]
      refine XmaW (i:=5) (oi:=_) (v:=?vv4) (some 42) [] rfl rfl (by kernel_rfl) (by kernel_rfl) (by kernel_rfl) (by kernel_rfl) (by kernel_rfl) (fun _ _ _ h=>jjeL (d:=42) (by decide) h) (Or.inl ⟨by rfl,?yy4⟩) hSd ?rr4
      case yy4=>(intro wq hSq;obtain ⟨_,_⟩:=hSq;go_simp<;>with_reducible rfl)
      simp only[Act.put,List.setIfInBounds_toArray,List.set_cons_succ,List.set_cons_zero]
      refine z9gO (o:=_) (by kernel_rfl) rfl (fun K' hK=>?_)
      rw[if_pos (by rfl)]
      go_simp
      refine hK.out _ _ ?_
      clear hK
      refine jFdp (by kernel_rfl) ?_ _
      try simp only[Act.put]
      have HJ4:=hide (show FJ w [(S8,9,(ns++[tx]).map strV++List.replicate (N8-(k+1)) (Value.string ⟨#[]⟩)),(S7,3,le.map (Value.int .i64))] u1 [.int .i64 rw,.int .i64 rh,.int .i64 rd,.int .i64 rk,.int .i64 rr,.slice (some ⟨S7,0,none⟩) N7 N7,.slice (some ⟨S8,0,none⟩) N8 N8,.int .i64 0,.int .i64 0,.int .i64 0,.int .i64 0,.int .i64 0,.int .i64 0,.slice none 0 0,.int .i64 0,.int .i64 0,.int .i64 0,.int .i64 0,.int .i64 0,.int .i64 0,.int .i64 0,.int .i64 0,.int .i64 0,.int .i64 0,.int .i64 0,.int .i64 0,.slice none 0 0,.int .i64 0] _ from by
        have h:=HJ3.out
        rw[show N8-k=N8-(k+1)+1 by omega,←hnl2,qrn3,hnl2] at h
        exact h)
      have HM2:=hide (jvSA HM.out HP1.out)
      clear HJ3 HJ2 HJ1 HJd HJ hSd c0 f0 HSQ
      go_wp2
      go_roundw
      case rel=>exact ⟨k+1,hlt,by go_num,_,_,HM2.out,HJ4.out⟩
      case measure=>simp[intOf];omega
    · have hd : decide ((k : Int) < (N8 : Int)) = false := by simp; omega
      obtain rfl:N8=k:=by omega
      replace HP:=hide (show R=kq8 (fun _=>64) (fun _=>16) rw rh rd rk rr le ns u by rw[HP.out,kq7,HLP.out,hm])
      replace HJ:=hide (show FJ w [(S8,9,ns.map strV),(S7,3,le.map (Value.int .i64))] u [.int .i64 rw,.int .i64 rh,.int .i64 rd,.int .i64 rk,.int .i64 rr,.slice (some ⟨S7,0,none⟩) N7 N7,.slice (some ⟨S8,0,none⟩) N8 N8,.int .i64 0,.int .i64 0,.int .i64 0,.int .i64 0,.int .i64 0,.int .i64 0,.slice none 0 0,.int .i64 0,.int .i64 0,.int .i64 0,.int .i64 0,.int .i64 0,.int .i64 0,.int .i64 0,.int .i64 0,.int .i64 0,.int .i64 0,.int .i64 0,.int .i64 0,.slice none 0 0,.int .i64 0] wr by have h:=HJ.out;rwa [Nat.sub_self,List.replicate_zero,List.append_nil] at h)
      clear hm HLP
      go_wp2_with fail
      refine (jh1c w.heap.size (w.heap.size+2) u wr (by omega) HJ.out.rd (by omega)).mono ?_
      rintro e VG ⟨hS,hc⟩
      rcases hc with ⟨n,sv,cv,lG,hp,rfl,hR,hIP,hfs,hfc⟩|⟨hp,rfl⟩
      rotate_left
      · exact (fun q => XQWw q.1 q.2.1 rfl q.2.2 rfl rfl (fun W hW => ⟨hW, .inr ⟨by rw [HP.out, kq8, hp], rfl⟩⟩)) (HJ.out.pan hS)
      have hwz:w.heap.size+2<wr.heap.size:=(Array.getElem?_eq_some_iff.1 HJ.out.rd).1
      replace HP:=hide (show R=kq9 rw rh rd rk rr le ns n lG by rw[HP.out,kq8,hp])
      replace HJ:=hide (HJ.out.num hS hR)
      obtain ⟨CA,hCA⟩:∃CA:List Value,CA=[.int .i64 rw,.int .i64 rh,.int .i64 rd,.int .i64 rk,.int .i64 rr,.slice (some ⟨S7,0,none⟩) N7 N7,.slice (some ⟨S8,0,none⟩) N8 N8,.int .i64 0,.int .i64 0,.int .i64 0,.int .i64 0,.int .i64 0,.int .i64 0,.slice none 0 0,.int .i64 0,.int .i64 0,.int .i64 0,.int .i64 0,.int .i64 0,.int .i64 0,.int .i64 0,.int .i64 0,.int .i64 0,.int .i64 0,.int .i64 0,.int .i64 0,.slice none 0 0,.int .i64 0]:=⟨_,rfl⟩
      rw[←hCA] at HJ
      have hbx:=HJ.out.box
      have hca:7+(planA n sv cv).size=CA.toArray.size:=by rw[hCA];rfl
      have hct:(CA.toArray.toList.take 7++(planA n sv cv).toList).toArray=rawA (⟨rw,rh,rd,rk,rr,le,ns,n⟩:RawF) (.slice (some ⟨S7,0,none⟩) N7 N7) (.slice (some ⟨S8,0,none⟩) N8 N8) sv cv:=by rw[hCA];rfl
      obtain ⟨so,sc,hsv,_,_⟩:=hIP.spots
      obtain ⟨co,cc,hcv,_,_⟩:=hIP.curve
      have hpa:(planA n sv cv).all (·.oneCell')=true:=by rw[hsv,hcv];simp[Value.oneCell']
      have hpi:(Tryz.prog.info? 51).map (·.size)=some (planA n sv cv).size:=by kernel_rfl
      have HRO:=hide (show (rawA (⟨rw,rh,rd,rk,rr,le,ns,n⟩:RawF) (.slice (some ⟨S7,0,none⟩) N7 N7) (.slice (some ⟨S8,0,none⟩) N8 N8) sv cv).all (·.oneCell')=true by rw[hsv,hcv];simp[Value.oneCell'])
      have HIP:=hide hIP
      clear hp hS hR hCA hIP hsv hcv
      go_upto_region 15 with (refine zPEB rfl 51 _ _ rfl w.heap.size 7 (planA n sv cv) rfl rfl _ _ hbx hpi hca hpa ?_)
      rw[hct]
      replace HJ:=hide (HJ.out.plan (cs':=(rawA (⟨rw,rh,rd,rk,rr,le,ns,n⟩:RawF) (.slice (some ⟨S7,0,none⟩) N7 N7) (.slice (some ⟨S8,0,none⟩) N8 N8) sv cv).toList))
      rw[Array.toArray_toList] at HJ
      obtain ⟨RA,hRA⟩:∃RA,RA=rawA (⟨rw,rh,rd,rk,rr,le,ns,n⟩:RawF) (.slice (some ⟨S7,0,none⟩) N7 N7) (.slice (some ⟨S8,0,none⟩) N8 N8) sv cv:=⟨_,rfl⟩
      rw[←hRA] at HJ ⊢
      have HRA:=hide hRA
      clear hRA
      replace HIP:=hide (show X1uD (VG.setRow w.heap.size RA) n sv cv from ⟨HIP.out.spots.other (k:=w.heap.size) (by simp) (fun b hb=>setRow_other _ _ _ _ hb) (hfs.ne (by omega)),HIP.out.curve.other (k:=w.heap.size) (by simp) (fun b hb=>setRow_other _ _ _ _ hb) (hfc.ne (by omega))⟩)
      clear hct hbx hca hpa hpi
      generalize VG.setRow w.heap.size RA=VH at *
      have crd:VH.cell? ⟨w.heap.size+2,0,none⟩=some (.string (str lG)):=by rw[Lib.cell_of_heap HJ.out.rd];rfl
      by_cases hlg:lG=[]
      rotate_left
      · replace HP := hide (show R = none by rw [HP.out, kq9, if_neg hlg])
        have hq:((str lG).toList == [])=false:=by rw[Lib.toList_data,jrcE];exact beq_false_of_ne hlg
        have hq2:(str lG).toList.isEmpty=false:=by rw[Lib.toList_data,jrcE];simpa using hlg
        go_wp2_with fail
        refine (q2dr _).mono ?_
        rintro e V' ⟨rfl,rfl⟩
        exact XQWw HJ.out.bel HJ.out.box (by rw[HRA.out];rfl) HJ.out.okb rfl rfl (fun W hW=>⟨hW,.inr ⟨HP.out,rfl⟩⟩)
      replace HP:=hide (show R=some ⟨rw,rh,rd,rk,rr,le,ns,n⟩ by rw[HP.out,kq9,if_pos hlg])
      subst hlg
      have hq2:(str []).toList.isEmpty=true:=by rw[Lib.toList_data,jrcE];rfl
      go_wp2_with fail
      refine (qEMU _).mono ?_
      rintro e VI ⟨rfl,rfl⟩
      clear crd hq2
      subst hnl hnl2
      have hbx:VI.heap[w.heap.size]?=some (.cells RA 57 (0,0)):=by have:=HJ.out.box;unfold Holds at this;rwa [Array.toArray_toList] at this
      have hsz:(Tryz.prog.info? 57).map (·.size)=some RA.size:=by rw[HRA.out];kernel_rfl
      have hro:RA.all (·.oneCell')=true:=by rw[HRA.out];exact HRO.out
      have hx6:=HJ.out.ex (S7,3,le.map (Value.int .i64)) (by simp)
      have hx7:=HJ.out.ex (S8,9,ns.map strV) (by simp)
      have hs6:=HJ.out.sep (S7,3,le.map (Value.int .i64)) (by simp)
      have hs7:=HJ.out.sep (S8,9,ns.map strV) (by simp)
      simp only at hx6 hx7 hs6 hs7
      have hk0:(VI.setRow w.heap.size RA).heap[w.heap.size+1]?=some (.cells #[.bool false] 4 (0,0)):=(setRow_other _ _ _ _ (by omega)).trans HJ.out.okb
      have ck:(VI.setRow w.heap.size RA).cell? ⟨w.heap.size+1,0,none⟩=some (.bool false):=by rw[Lib.cell_of_heap hk0];rfl
      have fk:(VI.setRow w.heap.size RA).frozen? ⟨w.heap.size+1,0,none⟩=false:=Lib.frozen_of_heap hk0 0
      have HKK:=hide (show ((VI.setRow w.heap.size RA).setCell ⟨w.heap.size+1,0,none⟩ (.bool true)).heap[w.heap.size+1]?=some (.cells #[.bool true] 4 (0,0)) by simp[World.setCell,Array.getElem?_modify,hk0])
      have HRR:=hide (show ((VI.setRow w.heap.size RA).setCell ⟨w.heap.size+1,0,none⟩ (.bool true)).heap[w.heap.size]?=some (.cells RA 57 (0,0)) from (Below.heap_setCell _ _ _ _ (show w.heap.size≠w.heap.size+1 by omega)).trans (setRow_heap _ _ _ _ _ _ hbx))
      have HK:=hide (show ∀k,k≠w.heap.size→k≠w.heap.size+1→((VI.setRow w.heap.size RA).setCell ⟨w.heap.size+1,0,none⟩ (.bool true)).heap[k]?=VI.heap[k]? from fun k h1 h2=>(Below.heap_setCell _ _ _ _ (fun e=>h2 e)).trans (setRow_other _ _ _ _ h1))
      have HBF:=hide (show Below w.heap.size w ((VI.setRow w.heap.size RA).setCell ⟨w.heap.size+1,0,none⟩ (.bool true)) from (below_setRow HJ.out.bel (Nat.le_refl _) _).setCell (p:=⟨w.heap.size+1,0,none⟩) (Nat.le_succ _) _)
      have HSS:=hide (show VI.heap.size≤((VI.setRow w.heap.size RA).setCell ⟨w.heap.size+1,0,none⟩ (.bool true)).heap.size by simp[World.setCell])
      have HI6:=hide (qjcf (V:=(VI.setRow w.heap.size RA).setCell ⟨w.heap.size+1,0,none⟩ (.bool true)) (g:=S7) (t:=3) (xs:=le) ((HK.out S7 (by omega) (by omega)).trans hx6) (by omega))
      have HI7:=hide (jlEe (V:=(VI.setRow w.heap.size RA).setCell ⟨w.heap.size+1,0,none⟩ (.bool true)) (g:=S8) (t:=9) (ts:=ns) ((HK.out S8 (by omega) (by omega)).trans hx7) (by omega))
      have HIF:=hide (show X1uD ((VI.setRow w.heap.size RA).setCell ⟨w.heap.size+1,0,none⟩ (.bool true)) n sv cv from
        ⟨(HIP.out.spots.other (k:=w.heap.size) (w':=VI.setRow w.heap.size RA) (by simp) (fun b hb=>setRow_other _ _ _ _ hb) (hfs.ne (by omega))).other (k:=w.heap.size+1) (by simp[World.setCell]) (fun b hb=>Below.heap_setCell _ _ _ _ (fun e=>hb e)) (hfs.ne (by omega)),
         (HIP.out.curve.other (k:=w.heap.size) (w':=VI.setRow w.heap.size RA) (by simp) (fun b hb=>setRow_other _ _ _ _ hb) (hfc.ne (by omega))).other (k:=w.heap.size+1) (by simp[World.setCell]) (fun b hb=>Below.heap_setCell _ _ _ _ (fun e=>hb e)) (hfc.ne (by omega))⟩)
      have HFS:=hide (hfs.mono (show w.heap.size≤wr.heap.size by omega))
      have HFC:=hide (hfc.mono (show w.heap.size≤wr.heap.size by omega))
      clear hk0 hx6 hx7 HIP HJ hfs hfc HRO
      go_wp2_with (first|refine wpList_load_row rfl 57 _ rfl _ rfl _ _ _ _ hbx Tryz.underlying57 rfl hsz ?_|refine wpList_store_row rfl 57 _ _ rfl w.heap.size RA rfl rfl _ _ hbx hsz rfl hro ?_)
      refine X8n7 HRR.out hsz HKK.out rfl rfl ⟨HBF.out,.inl ⟨_,_,_,_,_,HP.out,by rw[HRA.out],⟨HI6.out,HI7.out,HIF.out⟩,⟨fun b e=>?_,Nat.le_refl _⟩,⟨fun b e=>?_,Nat.le_refl _⟩,HFS.out,HFC.out⟩⟩
      · simp [Value.ownBlock] at e; omega
      · simp [Value.ownBlock] at e; omega
end Go.Proofs.YtfjeonehdlphiaaGreatDoor
namespace Go.Proofs.YtfjeonehdlphiaaGreatDoor
open Go.RowKit
def rawRd (s:List UInt8):Option RawF:=match rawP (fun _=>17) (fun _=>64) (fun _=>64) (fun _=>16) s with
 | none=>none
 | some r=>if XDWf r=0 then some r else none
theorem zGcC.other {w w':World} {v:Value} {ts:List (List UInt8)} {k:Nat} (h:zGcC w v ts) (hs:w.heap.size≤w'.heap.size) (hk:∀b,b≠k→w'.heap[b]?=w.heap[b]?) (hne:v.ownBlock≠some k):zGcC w' v ts:=by
 obtain ⟨ao,cap,rfl,hl,h⟩:=h
 refine ⟨ao,cap,rfl,hl,?_⟩
 rcases h with h|⟨b,off,rfl,hlt,hc⟩
 ·exact .inl h
 ·have hb:b≠k:=fun e=>hne (by rw[e];rfl)
  refine .inr ⟨b,off,rfl,Nat.lt_of_lt_of_le hlt hs,fun j hj=>?_⟩
  rw[World.cell?_of_block (a:=⟨b,off+j,none⟩) (hk b hb)]
  exact hc j hj
theorem IsRaw.other {w w':World} {r:RawF} {lv tv sv cv:Value} {B k:Nat} (h:IsRaw w r lv tv sv cv) (hs:w.heap.size≤w'.heap.size) (hk:∀b,b≠k→w'.heap[b]?=w.heap[b]?) (hB:k<B) (f1:Fresh B lv) (f2:Fresh B tv) (f3:Fresh B sv) (f4:Fresh B cv):IsRaw w' r lv tv sv cv :=
 ⟨h.lens.other hs hk (f1.ne hB),h.strips.other hs hk (f2.ne hB),h.plan.spots.other hs hk (f3.ne hB),h.plan.curve.other hs hk (f4.ne hB)⟩
theorem XIRQ {w:World} {r:RawF} {lv tv sv cv:Value} (h:IsRaw w r lv tv sv cv):(rawA r lv tv sv cv).all (·.oneCell')=true:=by
 obtain ⟨_,_,e1,_⟩:=h.lens
 obtain ⟨_,_,e2,_⟩:=h.strips
 obtain ⟨_,_,e3,_⟩:=h.plan.spots
 obtain ⟨_,_,e4,_⟩:=h.plan.curve
 rw[e1,e2,e3,e4]
 simp[Value.oneCell']
theorem qjYq {fn:Func} (hfn:fn.results=#[.cell 2 57,.tmp 3]) (tmps:Array Value) (R:Nat) (cs:Array Value) (z:Value) (W:World) (h2:tmps.getD 2 undef=.pointer (some ⟨R,0,none⟩)) (h3:tmps.getD 3 undef=z)
  (hR:W.heap[R]?=some (.cells cs 57 (0,0))) (hs:(Tryz.prog.info? 57).map (·.size)=some cs.size) :
  (results fn tmps).run Tryz.prog W=.ok (.tuple #[.agg cs,z]) W:=by
 have hl:=run_loadVar_row (P:=Tryz.prog) W R 57 57 cs (0,0) _ hR Tryz.underlying57 rfl hs
 have h2':tmps[2]?.getD undef=.pointer (some ⟨R,0,none⟩):=by simpa using h2
 have h3':tmps[3]?.getD undef=z:=by simpa using h3
 simp[results,hfn,h2',h3',asAddr,hl]
theorem ztDq {P:Program} {ops:Array Oper} {rest:List Oper} {o:Oper} {a:Act} {w:World} {Q:Exit→Act→World→Prop} (hw:Region.wanted o (yielded ops a.tmps)=true) (ty:TypeId) (x:Operand) (ho:o.op=.load ty x)
  (g:Nat) (hx:a.eval x=.pointer (some ⟨g,0,none⟩)) (t:TypeId) (cs:Array Value) (fr:Nat×Nat) (d:TypeDesc) (hg:w.heap[g]?=some (.cells cs t fr))
  (hu:P.underlying ty=some d) (hd:(match d with | .struct _ | .array _ _=>true|_=>false)=true) (hi:(P.info? ty).map (·.size)=some cs.size)
  (h:wpList P ops Q rest (a.put o.dst (.agg cs)) w):wpList P ops Q (o::rest) a w:=by
 unfold wpList
 rw[if_pos hw]
 exact .inl (wp_load_row ty x ho g hx t cs fr d hg hu hd hi h)
theorem jR6l (s:List UInt8) (w:World) (hs:s.length≤140737488355328) :
  Calls Tryz.prog 47 #[.string (str s)] w fun e w'=>Below w.heap.size w w'∧((∃r lv tv sv cv,rawRd s=some r∧e=.returned (.tuple #[.agg (rawA r lv tv sv cv),.int .i64 0])∧IsRaw w' r lv tv sv cv∧Fresh w.heap.size lv∧Fresh w.heap.size tv∧Fresh w.heap.size sv∧Fresh w.heap.size cv)∨(rawRd s=none∧e=.returned (.tuple #[.agg rawZ,.int .i64 1]))):=by
 have HF:=hide (zhHE s (w.alloc (.cells rawZ 57)) hs)
 have a1:=al1 w (Obj.cells rawZ 57)
 have HB:=hide (qUNz w (Obj.cells rawZ 57))
 have hl1:=(Array.getElem?_eq_some_iff.1 a1).1
 have HR:=hide (show rawRd s=match rawP (fun _=>17) (fun _=>64) (fun _=>64) (fun _=>16) s with|none=>none|some r=>if XDWf r=0 then some r else none from rfl)
 generalize rawRd s=RR at *
 have iz:(Tryz.prog.info? 57).map (·.size)=some (rawZ:Array Value).size:=by kernel_rfl
 have oz:(rawZ:Array Value).all (·.oneCell')=true:=by simp[Value.oneCell']
 go_enter Tryz.func47,Tryz.ntmps47
 go_wp2_with fail
 generalize w.alloc (Obj.cells rawZ 57)=U at *
 refine (HF.out).mono ?_
 rintro e V1 ⟨hb1,hc⟩
 have HB1:=hide (quJN HB.out hb1)
 rcases hc with ⟨r,lv,tv,sv,cv,hp,rfl,hI,f1,f2,f3,f4⟩|⟨hp,rfl⟩
 ·have HO:=hide (XIRQ hI)
  have i1:(Tryz.prog.info? 57).map (·.size)=some (rawA r lv tv sv cv).size:=by kernel_rfl
  have HC:=hide (fun (u:World) (hu:Below V1.heap.size V1 u)=>j0f2 r lv tv sv cv u (hI.below hu (Nat.le_refl _)))
  replace HR:=hide (show RR=if XDWf r=0 then some r else none by rw[HR.out,hp])
  obtain ⟨RA,hRA⟩:∃RA,rawA r lv tv sv cv=RA:=⟨_,rfl⟩
  rw[hRA] at HC i1 HO ⊢
  have HRA:=hide hRA
  have z1:=al1 V1 (Obj.cells rawZ 57)
  have i2:(rawZ:Array Value).size=RA.size:=by rw[←hRA];rfl
  have c1:=setRow_heap _ _ _ RA _ _ z1
  have HBX:=hide (below_setRow (g:=V1.heap.size) (qUNz V1 (Obj.cells rawZ 57)) (Nat.le_refl _) RA)
  have hlx:=(Array.getElem?_eq_some_iff.1 c1).1
  have hos:=HO.out
  clear hRA hp
  go_upto_region 2 with (refine wpList_store_row rfl 57 _ _ rfl V1.heap.size RA rfl rfl _ _ z1 i1 i2 hos ?_)
  clear z1
  generalize (V1.alloc (Obj.cells rawZ 57)).setRow V1.heap.size RA=V2 at *
  go_wp2_with (refine ztDq (by rfl) 57 _ rfl _ rfl _ _ _ _ c1 Tryz.underlying57 rfl i1 ?_)
  refine (HC.out _ HBX.out).mono ?_
  rintro e V3 ⟨rfl,hb3⟩
  have g1:V3.heap[w.heap.size]?=some (.cells rawZ 57 (0,0)):=(((hb1.trans (HBX.out.mono hb1.size)).trans (hb3.mono (Nat.le_trans hb1.size HBX.out.size))).block _ hl1).trans a1
  have d1:=(hb3.block _ hlx).trans c1
  have HB3:=hide (quJN (quJN HB1.out HBX.out) hb3)
  have HI3:=hide (hI.below (quJN HBX.out hb3) (Nat.le_refl _))
  clear HC c1 hb3 hI
  by_cases hE:XDWf r=0
  ·rw[hE]
   rw[if_pos hE] at HR
   have HG:=hide (setRow_heap _ _ _ RA _ _ g1)
   have HBF:=hide (below_setRow (g:=w.heap.size) HB3.out (Nat.le_refl _) RA)
   have HIF:=hide (HI3.out.other (k:=w.heap.size) (w':=V3.setRow w.heap.size RA) (B:=U.heap.size) (by simp) (fun b hb=>setRow_other _ _ _ _ hb) hl1 f1 f2 f3 f4)
   have hw:w.heap.size≤U.heap.size:=by omega
   have HFR:=hide (show Fresh w.heap.size lv∧Fresh w.heap.size tv∧Fresh w.heap.size sv∧Fresh w.heap.size cv from ⟨f1.mono hw,f2.mono hw,f3.mono hw,f4.mono hw⟩)
   clear f1 f2 f3 f4
   go_wp2_with (first|refine wpList_load_row rfl 57 _ rfl _ rfl _ _ _ _ d1 Tryz.underlying57 rfl i1 ?_|refine wpList_store_row rfl 57 _ _ rfl w.heap.size RA rfl rfl _ _ g1 i1 i2 hos ?_)
   refine bodyPost_ret (v:=.tuple #[.agg RA,.int .i64 0]) (qjYq Tryz.results47 _ _ _ _ _ rfl rfl HG.out i1) rfl ⟨HBF.out,.inl ⟨r,lv,tv,sv,cv,HR.out,by rw[HRA.out],HIF.out,HFR.out⟩⟩
  ·have hn:(XDWf r != 0)=true:=by simpa using hE
   rw[if_neg hE] at HR
   have HG:=hide (setRow_heap _ _ _ rawZ _ _ g1)
   have HBF:=hide (below_setRow (g:=w.heap.size) HB3.out (Nat.le_refl _) rawZ)
   clear HI3 f1 f2 f3 f4
   go_wp2_with (refine wpList_store_row rfl 57 _ _ rfl w.heap.size rawZ rfl rfl _ _ g1 iz rfl oz ?_)
   refine bodyPost_ret (v:=.tuple #[.agg rawZ,.int .i64 1]) (qjYq Tryz.results47 _ _ _ _ _ rfl rfl HG.out iz) rfl ⟨HBF.out,.inr ⟨HR.out,rfl⟩⟩
 ·replace HR:=hide (show RR=none by rw[HR.out,hp])
  obtain ⟨ZR,hZR⟩:∃ZR:Array Value,rawZ=ZR:=⟨_,rfl⟩
  rw[show Ending.returned (.tuple #[.agg rawZ,.bool false])=Ending.returned (.tuple #[.agg ZR,.bool false]) by rw[hZR]]
  have z1:=al1 V1 (Obj.cells rawZ 57)
  have i1:(Tryz.prog.info? 57).map (·.size)=some ZR.size:=by rw[←hZR];exact iz
  have i2:(rawZ:Array Value).size=ZR.size:=by rw[←hZR]
  have hos:ZR.all (·.oneCell')=true:=by rw[←hZR];exact oz
  have HBX:=hide (below_setRow (g:=V1.heap.size) (qUNz V1 (Obj.cells rawZ 57)) (Nat.le_refl _) ZR)
  have g1:((V1.alloc (Obj.cells rawZ 57)).setRow V1.heap.size ZR).heap[w.heap.size]?=some (.cells rawZ 57 (0,0)):=((hb1.trans (HBX.out.mono hb1.size)).block _ hl1).trans a1
  have HB3:=hide (quJN HB1.out HBX.out)
  have HG:=hide (setRow_heap _ _ _ rawZ _ _ g1)
  have HBF:=hide (below_setRow (g:=w.heap.size) HB3.out (Nat.le_refl _) rawZ)
  clear hp hZR
  go_upto_region 3 with (refine wpList_store_row rfl 57 _ _ rfl V1.heap.size ZR rfl rfl _ _ z1 i1 i2 hos ?_)
  clear z1
  generalize (V1.alloc (Obj.cells rawZ 57)).setRow V1.heap.size ZR=V2 at *
  go_wp2_with (refine wpList_store_row rfl 57 _ _ rfl w.heap.size rawZ rfl rfl _ _ g1 iz rfl oz ?_)
  refine bodyPost_ret (v:=.tuple #[.agg rawZ,.int .i64 1]) (qjYq Tryz.results47 _ _ _ _ _ rfl rfl HG.out iz) rfl ⟨HBF.out,.inr ⟨HR.out,rfl⟩⟩
def nrmP (n:Plan):Plan:=⟨n.phase,ix (zDfR n),n.white,n.spots,ix (jgEL n),ix (matL n),n.curve,n.amount⟩
def nrm (r:RawF):RawF:={ r with plan:=nrmP r.plan }
theorem zUAc (n:Plan):planE (nrmP n)=planE n:=by
 have e1:arrL (nrmP n).black 4=arrL n.black 4:=rfl
 have e2:arrL (nrmP n).gains 3=arrL n.gains 3:=rfl
 have e3:nineL (nrmP n).matrix=nineL n.matrix:=rfl
 simp only[planE,zU8n,jmgp,q0Sl,zN6Q,j1E7,matOk,e1,e2,e3]
 rfl
theorem q7oc (r:RawF):XDWf (nrm r)=XDWf r:=by
 have e1:headE (nrm r)=headE r:=rfl
 have e2:pErr (nrm r)=pErr r:=by
  unfold pErr
  rw[show (nrm r).plan=nrmP r.plan from rfl,zUAc]
  rfl
 have e3:stOk (nrm r) (nrm r).strips.length=stOk r r.strips.length:=rfl
 unfold XDWf
 rw[e1,e2,e3]
 rfl
structure Fits (n:Plan):Prop where
 phase:in32 n.phase
 black:∀x∈zDfR n,in32 x
 white:in32 n.white
 spots:∀p∈n.spots,in32 p.1∧in32 p.2
 gains:∀x∈jgEL n,in32 x
 matrix:∀x∈matL n,in32 x
 curve:∀p∈n.curve,in32 p.1∧in32 p.2
 amount:in32 n.amount
 many:n.spots.length≤64
 points:n.curve.length≤16
theorem zpo0 {n:Plan} (h:planE n=0):Fits n:=by
 obtain ⟨h1,h2,h3,h4,h5,h6,h7,h8⟩:=qwVl h
 have hc:=zqz3 h8
 have hl:=qcx1 h8
 simp only[zN6Q,Bool.and_eq_true,decide_eq_true_eq] at h2
 have hb:=fun k hk=>XL98 h2.2 k hk
 have hg:=fun k hk=>XL98 h3 k hk
 have hm:=fun k hk=>XiDe h4 k hk
 simp only[qdne,decide_eq_true_eq] at h1
 simp only[XbQH,decide_eq_true_eq] at h5
 refine ⟨?_,?_,?_,?_,?_,?_,?_,?_,by omega,by omega⟩
 ·unfold in32;omega
 ·intro x hx
  have b0:=hb 0 (by omega)
  have b1:=hb 1 (by omega)
  have b2:=hb 2 (by omega)
  have b3:=hb 3 (by omega)
  simp only[zDfR,List.mem_cons,List.not_mem_nil,or_false] at hx
  unfold in32
  rcases hx with rfl|rfl|rfl|rfl<;>omega
 ·unfold in32;omega
 ·intro p hp
  have:=List.all_eq_true.1 h7 p hp
  simp only[hasB,decide_eq_true_eq] at this
  unfold in32
  omega
 ·intro x hx
  have b0:=hg 0 (by omega)
  have b1:=hg 1 (by omega)
  have b2:=hg 2 (by omega)
  simp only[jgEL,List.mem_cons,List.not_mem_nil,or_false] at hx
  unfold in32
  rcases hx with rfl|rfl|rfl<;>omega
 ·intro x hx
  have b0:=hm 0 (by omega)
  have b1:=hm 1 (by omega)
  have b2:=hm 2 (by omega)
  have b3:=hm 3 (by omega)
  have b4:=hm 4 (by omega)
  have b5:=hm 5 (by omega)
  have b6:=hm 6 (by omega)
  have b7:=hm 7 (by omega)
  have b8:=hm 8 (by omega)
  simp only[matL,List.mem_cons,List.not_mem_nil,or_false] at hx
  unfold in32
  rcases hx with rfl|rfl|rfl|rfl|rfl|rfl|rfl|rfl|rfl<;>omega
 ·intro p hp
  obtain ⟨i,hi,rfl⟩:=List.getElem_of_mem hp
  rw[jU85 _ _ hi]
  have:=hc.x i hi
  simp only[zamz,Bool.and_eq_true] at h8
  have:=(qzFt h8.2 i hi).1
  unfold in32
  omega
 ·unfold in32;omega
theorem z80h {b3 b4:List UInt8→Nat} {n:Plan} (h:Fits n) (h3:∀t,n.spots.length≤b3 (n.spots.flatMap pairW++t)) (h4:∀t,n.curve.length≤b4 (n.curve.flatMap pairW++t)) (t:List UInt8):planP b3 b4 (planW n++t)=some (nrmP n,t):=by
 have hm:=h.many
 have hp:=h.points
 simp only[planW,List.append_assoc]
 rw[planP,qqDw h.phase]
 simp only
 rw[pq2,(zfCg qAdV 4).full (zDfR n) _ ⟨rfl,h.black⟩]
 simp only
 rw[pq3,qqDw h.white]
 simp only
 rw[pq4,jhfc jYsO h.spots (by unfold in32;omega) (h3 _)]
 simp only
 rw[pq5,(zfCg qAdV 3).full (jgEL n) _ ⟨rfl,h.gains⟩]
 simp only
 rw[pq6,(zfCg qAdV 9).full (matL n) _ ⟨rfl,h.matrix⟩]
 simp only
 rw[pq7,jhfc jYsO h.curve (by unfold in32;omega) (h4 _)]
 simp only
 rw[pq8,qqDw h.amount]
 rfl
theorem qTcB {b1 b2 b3 b4:List UInt8→Nat} {r:RawF} (h:Right r) (h1:∀t,r.lens.length≤b1 (r.lens.flatMap num4++t)) (h2:∀t,r.strips.length≤b2 (r.strips.flatMap textW++t)) (h3:∀t,r.plan.spots.length≤b3 (r.plan.spots.flatMap pairW++t)) (h4:∀t,r.plan.curve.length≤b4 (r.plan.curve.flatMap pairW++t)) :
  rawP b1 b2 b3 b4 (rawW r)=some (nrm r):=by
 have hw:=h.head.w
 have hh:=h.head.h
 have hd:=h.head.depth
 have hk:=h.head.kind
 have hr:=h.head.rows
 have hl:=h.lens_le
 have hst:r.strips.length≤64:=by have:=h.many;have:=h.head.cnt_le;omega
 have hsl:=h.strip_le
 have hle:∀x∈r.lens,in32 x:=by
  intro x hx
  have:=h.head.lens
  unfold kindE at this
  split at this
  ·split at this
   ·rename_i h0
    rw[List.eq_nil_of_length_eq_zero h0] at hx
    cases hx
   ·cases this
  ·obtain ⟨_,_,h3,_⟩:=zF8D this
   have:=List.all_eq_true.1 h3 x hx
   simp only[lenOk,decide_eq_true_eq] at this
   unfold in32
   omega
 rw[rawP,rawW,zGqm.full darkL _ (by decide)]
 simp only[headL,List.flatMap_cons,List.flatMap_nil,List.append_nil,List.append_assoc,if_true]
 rw[kq1,qqDw (by unfold in32;omega)]
 simp only
 rw[kq2,qqDw (by unfold in32;omega)]
 simp only
 rw[kq3,qqDw (by unfold in32;omega)]
 simp only
 rw[kq4,qqDw (by unfold in32;omega)]
 simp only
 rw[kq5,qqDw (by unfold in32;omega)]
 simp only
 rw[kq6,jhfc qAdV hle (by unfold in32;omega) (h1 _)]
 simp only
 rw[kq7,jhfc zGqm (fun s hs=>by have:=hsl s hs;unfold in32;omega) (by unfold in32;omega) (h2 _)]
 simp only
 have:=z80h (zpo0 h.plan) h3 h4 []
 rw[List.append_nil] at this
 rw[kq8,this]
 simp only
 rw[kq9,if_pos rfl]
 rfl
theorem qOXu {r:RawF} (h:Right r):rawRd (rawW r)=some (nrm r):=by
 rw[rawRd,qTcB h (fun _=>h.lens_le) (fun _=>by have:=h.many;have:=h.head.cnt_le;omega) (fun _=>(zpo0 h.plan).many) (fun _=>(zpo0 h.plan).points)]
 simp only
 rw[if_pos (by rw[q7oc];exact h.zero)]
theorem zkuu {r:RawF} {PW PH:Int} {zs:List Int} (h:fitP r PW PH zs=true):q0fM PW PH zs=true∧PW=r.w∧PH=r.h∧jgbG r.depth zs=true:=by
 simp only[fitP,Bool.and_eq_true,decide_eq_true_eq] at h
 exact ⟨h.1.1.1,h.1.1.2,h.1.2,h.2⟩
theorem qvpy (r:RawF) (zs:List Int) (k:Nat):(fiS r zs k).length=k:=by simp[fiS]
theorem fiS_at (r:RawF) (zs:List Int) {k i:Nat} (h:i<k):(fiS r zs k).getD i []=wsS r (parL r zs i) (rowN r i):=by
 simp[fiS,h]
theorem qAO3 {r:RawF} {zs:List Int} {k n:Nat} (he:fiOk r zs n=true) (h:k<n):wsE r (parL r zs k) (rowN r k)=0:=by
 have:=List.all_eq_true.1 he k (List.mem_range.2 h)
 simpa using this
theorem j4D4 {r:RawF} (h:Head r) {k:Nat} (hk:k<cntN r) {PW PH:Int} {zs:List Int} (hf:fitP r PW PH zs=true) (h0:wsE r (parL r zs k) (rowN r k)=0) :
  stE r (wsS r (parL r zs k) (rowN r k)) (rowN r k)=0∧stZ r (wsS r (parL r zs k) (rowN r k)) (rowN r k)=parL r zs k:=by
 obtain ⟨hp,rfl,rfl,hd⟩:=zkuu hf
 have hl:=XBlq h hk (qwcI hp).2.2.1
 unfold wsE at h0
 unfold wsS
 by_cases hz:r.kind=0
 ·rw[if_pos hz] at h0 ⊢
  obtain ⟨e1,e2⟩:=XGJQ h0
  rw[hl] at e1 e2
  obtain ⟨f1,f2⟩:=XX6a hz (packS (parL r zs k) r.depth) (rowN r k)
  exact ⟨f1.trans e1,f2.trans e2⟩
 ·rw[if_neg hz] at h0 ⊢
  obtain ⟨e1,e2,_,_⟩:=qSeA h0
  have hdp:jgbG r.depth (parL r zs k)=true:=List.all_eq_true.2 fun z hm=>List.all_eq_true.1 hd z (Xeu9 hm)
  have hs:stE r (zivd r.w (rowN r k) (parL r zs k) r.kind r.lens) (rowN r k)=0:=by
   rw[stE,if_neg hz,if_pos e1,e2,if_pos hdp]
  exact ⟨hs,by rw[stZ,if_pos hs,if_neg hz,e2]⟩
theorem zhdP {r:RawF} (h:Head r) {zs:List Int} (hz:(zs.length:Int)=r.w*r.h) (k:Nat) (hk:k≤cntN r):(List.range k).flatMap (fun i=>parL r zs i)=zs.take (if k=cntN r then zs.length else parN r k):=by
 induction k with
 | zero =>
  have:cntN r≠0:=by
   have:=(h.cnt_pos 0).2 (by have:=h.h;simp;omega)
   omega
  rw[if_neg (fun e=>this e.symm)]
  simp[parN]
 | succ k ih =>
  have hk':k<cntN r:=hk
  have ih':=ih (by omega)
  rw[if_neg (by omega)] at ih'
  rw[List.range_succ,List.flatMap_append,ih',List.flatMap_singleton,parL]
  have hle:=juYi h hk'
  have hsz:=h.size hk'
  rw[Int.mul_comm r.w] at hz
  have e:zs.take (parN r k)++(zs.drop (parN r k)).take (rowN r k*r.w).toNat=zs.take (parN r k+(rowN r k*r.w).toNat):=by
   rw[List.take_add]
  rw[e]
  by_cases hc:k+1=cntN r
  ·rw[if_pos hc,List.take_length,List.take_of_length_le]
   have hend:rowN r k=r.h-k*r.rows:=by
    have h1:=(not_congr (h.cnt_pos (k+1))).1 (by omega)
    have e:((k+1:Nat):Int)*r.rows=k*r.rows+r.rows:=by rw[Int.natCast_add,Int.add_mul];simp
    unfold rowN
    omega
   have e2:(parN r k:Int)+rowN r k*r.w=r.h*r.w:=by
    rw[jXie h,hend,←Int.add_mul]
    congr 1
    omega
   omega
  ·rw[if_neg hc]
   have:=q4pj h (show k+1<cntN r by omega)
   congr 1
   omega
theorem z2pS {r:RawF} (h:Head r) (zs:List Int):Head (qtvI r zs):=⟨h.w,h.h,h.depth,h.rows,h.kind,h.lens⟩
theorem q02E {r:RawF} {PW PH:Int} {zs:List Int} (h:XQ5R r PW PH zs=0):Right (qtvI r zs)∧zcNm (qtvI r zs)=zs∧PW=r.w∧PH=r.h∧XH9X (qtvI r zs)=PW∧zq73 (qtvI r zs)=PH:=by
 unfold XQ5R at h
 split at h
 ·rename_i h1
  split at h
  ·rename_i h2
   split at h
   ·rename_i h3
    split at h
    ·rename_i h4
     have hH:=jWRa h1
     obtain ⟨hp,rfl,rfl,hd⟩:=zkuu h3
     have hst:∀k,k<cntN r→stE (qtvI r zs) (stAt (qtvI r zs) k) (rowN (qtvI r zs) k)=0∧stZ (qtvI r zs) (stAt (qtvI r zs) k) (rowN (qtvI r zs) k)=parL r zs k:=by
      intro k hk
      have e:stAt (qtvI r zs) k=wsS r (parL r zs k) (rowN r k):=fiS_at r zs hk
      rw[e]
      exact j4D4 hH hk h3 (qAO3 h4 hk)
     have hok:stOk (qtvI r zs) (cntN r)=true:=List.all_eq_true.2 fun k hk=>by
      rw[decide_eq_true_eq]
      exact (hst k (List.mem_range.1 hk)).1
     have hP:planE r.plan=0∧XepW r.w r.h r.plan.spots=true:=by
      unfold pErr at h2
      split at h2
      ·rename_i h5
       split at h2
       ·rename_i h6;exact ⟨h5,h6⟩
       ·cases h2
      ·rename_i h5;exact absurd h2 h5
     have hl:(qtvI r zs).strips.length=cntN r:=qvpy r zs (cntN r)
     have hR:Right (qtvI r zs):=⟨z2pS hH zs,hl,hP.1,hP.2,by rw[hl];exact hok⟩
     refine ⟨hR,?_,rfl,rfl,by rw[XH9X,if_pos hR.zero];rfl,by rw[zq73,if_pos hR.zero];rfl⟩
     rw[zcNm,if_pos hR.zero,hl]
     have:plUp (qtvI r zs) (cntN r)=(List.range (cntN r)).flatMap fun i=>parL r zs i:=by
      unfold plUp
      rw[List.flatMap_def,List.flatMap_def]
      congr 1
      exact List.map_congr_left fun k hk=>(hst k (List.mem_range.1 hk)).2
     rw[this,zhdP hH (qwcI hp).2.2.1 _ (Nat.le_refl _),if_pos rfl,List.take_length]
    ·cases h
   ·cases h
  ·rename_i h2;exact absurd h h2
 ·rename_i h1;exact absurd h h1
end Go.Proofs.YtfjeonehdlphiaaGreatDoor
