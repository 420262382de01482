/- Part 44. -/
import Derived.Test.YtfjeonehdlphiaaGreatDoorC39Sd
import Derived.Test.YtfjeonehdlphiaaGreatDoorC40Sd
open Go.Obj renaming cells → ka
open List renaming setIfInBounds_toArray → kb, set_cons_zero → kc, set_cons_succ → kd, eq_nil_of_length_eq_zero → xe, length_append → ys, append_assoc → zc, length_map → zl, all_eq_true → zo, replicate → zv, range → zB
open Go.Lib renaming frozen_of_heap → kf, cell_of_heap → kh
open Go.Act renaming put → km
open Nat renaming le_refl → ko, lt_of_lt_of_le → kv, le_trans → kw, zero_le → xa, le_of_lt → zO
open Go.RowKit.Below renaming heap_setCell → kG
open Int renaming toNat_natCast → xc
open Bool renaming and_eq_true → yb
open Go.Value renaming int → Z, slice → J
open Go.IntKind renaming i64 → G
set_option linter.unusedVariables false
set_option maxHeartbeats 6400000
set_option maxRecDepth 100000
namespace Go.Proofs.YtfjeonehdlphiaaGreatDoor
open Go.RowKit
open _root_.Go.Proofs.Tryz
set_option linter.unusedSimpArgs false
open Go.RowKit
def lu (w h d k r:Int) (a:List Int) (b:List (List UInt8)) (n:aA) (l:List UInt8):Option av:=if l=[] then some ⟨w,h,d,k,r,a,b,n⟩ else none
def lr (a b:List UInt8->Nat) (w h d k r:Int) (c:List Int) (e:List (List UInt8)) (l:List UInt8):Option av:=match iZ a b l with
 | none=>none
 | some (n,u)=>lu w h d k r c e n u
def kA (a b c:List UInt8->Nat) (w h d k r:Int) (e:List Int) (l:List UInt8):Option av:=match eE cn a l with
 | none=>none
 | some (st,u)=>lr b c w h d k r e st u
def kz (a b c e:List UInt8->Nat) (w h d k r:Int) (l:List UInt8):Option av:=match eE aH a l with
 | none=>none
 | some (le,u)=>kA b c e w h d k r le u
def lq (a b c e:List UInt8->Nat) (w h d k:Int) (l:List UInt8):Option av:=match aH l with
 | none=>none
 | some (r,u)=>kz a b c e w h d k r u
def ln (a b c e:List UInt8->Nat) (w h d:Int) (l:List UInt8):Option av:=match aH l with
 | none=>none
 | some (k,u)=>lq a b c e w h d k u
def ll (a b c e:List UInt8->Nat) (w h:Int) (l:List UInt8):Option av:=match aH l with
 | none=>none
 | some (d,u)=>ln a b c e w h d u
def jv (a b c d:List UInt8->Nat) (w:Int) (l:List UInt8):Option av:=match aH l with
 | none=>none
 | some (h,u)=>ll a b c d w h u
def ju (a b c d:List UInt8->Nat) (l:List UInt8):Option av:=match aH l with
 | none=>none
 | some (w,u)=>jv a b c d w u
def gI (a b c d:List UInt8->Nat) (s:List UInt8):Option av:=match cn s with
 | none=>none
 | some (m,l)=>if m=gc then ju a b c d l else none
def bH (s:List UInt8):Value:=.string (lh s)
theorem BW {g:Nat} {t:TypeId} {xs:List Int} {V:World} (h:bx g t (xs.map (Z .i64)) V) (b:xs.length<=1048576):ap V (J (some ⟨g,0,none⟩) xs.length xs.length) xs:=by
 refine ⟨_,_,rfl,oM,.inr ⟨g,0,rfl,h.lt,fun j a=>?_⟩⟩;rw[Nat.zero_add,kh h];simp[a]
theorem Gn {g:Nat} {t:TypeId} {ts:List (List UInt8)} {V:World} (h:bx g t (ts.map bH) V) (b:ts.length<=1048576):fv V (J (some ⟨g,0,none⟩) ts.length ts.length) ts:=by
 refine ⟨_,_,rfl,oM,.inr ⟨g,0,rfl,h.lt,fun j a=>?_⟩⟩;rw[Nat.zero_add,kh h];simp[a,bH]
theorem Tryz.infoStrF:(prog.info? 9).map (fun i=>(i.zero,i.size,i.bytes))=some (some (.string ⟨#[]⟩),1,16):=kR
theorem vn (z:Value) (N:Nat):madeCells #[z] N=(zv N z).toArray:=by
 refine Array.ext (by simp[madeCells]) fun i a b=>?_;simp[madeCells,Nat.mod_one]
theorem Gp (a:List (List UInt8)) (M:Nat) (x:List UInt8):(a.map bH++zv (M+1) (Value.string ⟨#[]⟩)).set a.length (.string (lh x))=(a++[x]).map bH++zv M (Value.string ⟨#[]⟩):=by
 rw[List.set_append_right _ _ sS,zl,Nat.sub_self,List.replicate_succ,kc];simp[bH]
theorem FE (s:List UInt8) (w:World) (c:s.length<=281474976710656) :
  Calls prog 164 #[.string (lh s)] w (rT w (.string (lh s))):=by
 have a:=qH (Tryz.stringslite_Clone (lh s) w (by rw[bn];exact c));go_enter func164,ntmps164;go_wp2_with fail
 refine (a.1).mono ?_;rintro e w1 ⟨rfl,b⟩;go_wp2;go_ret;exact ⟨rfl,b⟩
theorem oB {l t s:List UInt8} (h:cn l=some (s,t)):t.length<=l.length:=by
 rw[(nv.sound _ _ _ h).1,ys];omega
theorem xZ {l t s:List UInt8} (h:cn l=some (s,t)):s.length<=l.length:=by
 rw[(nv.sound _ _ _ h).1,ys,ez,ys];omega
structure FJ (w:World) (X:List (Nat×TypeId×List Value)) (l:List UInt8) (cs:List Value) (V:World):Prop where
 sep:∀x∈X,w.heap.size+2<x.1
 bel:Below w.heap.size w V
 rd:dT (w.heap.size+2) l V
 box:bx w.heap.size 57 cs V
 okb:bx (w.heap.size+1) 4 [.bool false] V
 ex:∀x∈X,bx x.1 x.2.1 x.2.2 V
theorem FJ.num {w:World} {X:List (Nat×TypeId×List Value)} {l t:List UInt8} {d:List Value} {V b:World} (h:FJ w X l d V) (a:cB w.heap.size (w.heap.size+2) V b) (e:dT (w.heap.size+2) t b):FJ w X t d b where
 sep:=h.sep
 bel:=h.bel.trans a.bel
 rd:=e
 box:=(a.keep _ h.box.lt oM).trans h.box
 okb:=(a.keep _ h.okb.lt oM).trans h.okb
 ex:=fun x c=>(a.keep _ (h.ex x c).lt (by have:=h.sep x c;omega)).trans (h.ex x c)
theorem FJ.pan {w:World} {X:List (Nat×TypeId×List Value)} {l:List UInt8} {c:List Value} {V a:World} (h:FJ w X l c V) (b:cB w.heap.size (w.heap.size+2) V a):Below w.heap.size w a/\bx w.heap.size 57 c a/\bx (w.heap.size+1) 4 [.bool false] a :=
 ⟨h.bel.trans b.bel,(b.keep _ h.box.lt oM).trans h.box,(b.keep _ h.okb.lt oM).trans h.okb⟩
theorem FJ.pan2 {w:World} {X:List (Nat×TypeId×List Value)} {l:List UInt8} {c:List Value} {V a:World} {g:Nat} (h:FJ w X l c V) (d:w.heap.size+2<g) (b:gp w.heap.size (w.heap.size+2) g V a):Below w.heap.size w a/\bx w.heap.size 57 c a/\bx (w.heap.size+1) 4 [.bool false] a :=
 ⟨h.bel.trans b.bel,(b.keep _ h.box.lt oM oM).trans h.box,(b.keep _ h.okb.lt oM oM).trans h.okb⟩
theorem FJ.put {w:World} {X:List (Nat×TypeId×List Value)} {l:List UInt8} {c:List Value} {V:World} (h:FJ w X l c V) (i:Nat) (v:Value) (f:v.oneCell'=true):FJ w X l (c.set i v) (V.setCell ⟨w.heap.size,i,none⟩ v):=by
 obtain ⟨g,j⟩:=h.box.set (B:=w.heap.size) (b:=w.heap.size+2) (ko _) i v f;have a:∀k,k≠w.heap.size->(V.setCell ⟨w.heap.size,i,none⟩ v).heap[k]?=V.heap[k]?:=fun k a=>kG _ _ _ _ (fun e=>a e);exact ⟨h.sep,h.bel.trans j.bel,(a _ oM).trans h.rd,g,(a _ oM).trans h.okb,fun x d=>(a _ (by have:=h.sep x d;omega)).trans (h.ex x d)⟩
theorem FJ.alloc {w:World} {X:List (Nat×TypeId×List Value)} {l:List UInt8} {b:List Value} {V:World} (h:FJ w X l b V) (c:List Value) (t:TypeId):FJ w ((V.heap.size,t,c)::X) l b (V.alloc (.cells c.toArray t)) where
 sep:=fun x a=>by
  rcases List.mem_cons.1 a with rfl|a
  ·exact (lS h.rd)
  ·exact h.sep x a
 bel:=h.bel.trans ((aq V _).mono h.bel.size)
 rd:=nl h.rd _
 box:=((aq V _).block _ h.box.lt).trans h.box
 okb:=((aq V _).block _ h.okb.lt).trans h.okb
 ex:=fun x a=>by
  rcases List.mem_cons.1 a with rfl|a
  ·exact aD V _
  ·exact ((aq V _).block _ (h.ex x a).lt).trans (h.ex x a)
theorem FJ.bel2 {w:World} {X:List (Nat×TypeId×List Value)} {l:List UInt8} {c:List Value} {V b:World} (h:FJ w X l c V) (a:Below V.heap.size V b):FJ w X l c b :=
 ⟨h.sep,h.bel.trans (a.mono h.bel.size),(a.block _ (lS h.rd)).trans h.rd,(a.block _ h.box.lt).trans h.box,(a.block _ h.okb.lt).trans h.okb,fun x d=>(a.block _ (h.ex x d).lt).trans (h.ex x d)⟩
theorem FJ.drew {w:World} {X:List (Nat×TypeId×List Value)} {l:List UInt8} {a:List Value} {V:World} (h:FJ w X l a V):FJ w X l a V.drew :=
 ⟨h.sep,h.bel.drew,h.rd,h.box,h.okb,h.ex⟩
theorem FJ.fillX {w:World} {X:List (Nat×TypeId×List Value)} {g:Nat} {t:TypeId} {e f:List Value} {l u:List UInt8} {d:List Value} {V b:World} (h:FJ w ((g,t,e)::X) l d V) (i:∀x∈X,x.1≠g) (c:gp w.heap.size (w.heap.size+2) g V b) (m:dT (w.heap.size+2) u b) (k:bx g t f b):FJ w ((g,t,f)::X) u d b:=by
 have j:w.heap.size+2<g:=h.sep (g,t,e) List.mem_cons_self;refine ⟨?_,h.bel.trans c.bel,m,(c.keep _ h.box.lt oM oM).trans h.box,(c.keep _ h.okb.lt oM oM).trans h.okb,?_⟩
 ·intro x a;rcases List.mem_cons.1 a with rfl|a
  ·exact j
  ·exact h.sep x (by simp[a])
 ·intro x a;rcases List.mem_cons.1 a with rfl|a
  ·exact k
  ·exact (c.keep _ (h.ex x (by simp[a])).lt (by have:=h.sep x (by simp[a]);omega) (i x a)).trans (h.ex x (by simp[a]))
theorem FJ.plan {w:World} {X:List (Nat×TypeId×List Value)} {l:List UInt8} {c cs':List Value} {V:World} (h:FJ w X l c V):FJ w X l cs' (V.setRow w.heap.size cs'.toArray):=by
 have a:∀k,k≠w.heap.size->(V.setRow w.heap.size cs'.toArray).heap[k]?=V.heap[k]?:=fun k a=>setRow_other _ _ _ _ a;exact ⟨h.sep,below_setRow h.bel (ko _) _,(a _ oM).trans h.rd,setRow_heap _ _ _ _ _ _ h.box,(a _ oM).trans h.okb,fun x b=>(a _ (by have:=h.sep x b;omega)).trans (h.ex x b)⟩
theorem AR (s:List UInt8) (w:World) (hs:s.length<=140737488355328) :
    Calls prog 107 #[.string (lh s)] w fun e w'=>Below w.heap.size w w'/\((∃r lv tv X U,gI (fun _=>17) (fun _=>64) (fun _=>64) (fun _=>16) s=some r/\e=.returned (.tuple #[.agg (aC r lv tv X U),.bool true])/\cR w' r lv tv X U/\ar w.heap.size lv/\ar w.heap.size tv/\ar w.heap.size X/\ar w.heap.size U)\/(gI (fun _=>17) (fun _=>64) (fun _=>64) (fun _=>16) s=none/\e=.returned (.tuple #[.agg ay,.bool false]))):=by
  have HJ0:FJ w [] s ay.toList (((w.alloc (.cells ay 57)).alloc (.cells #[.bool false] 4)).alloc (.cells #[.string (lh s)] 200)):=by
    obtain ⟨a1,a2,a3⟩:=iG w (ka ay 57) (ka #[.bool false] 4) (ka #[.string (lh s)] 200);exact ⟨sS,jP w _ _ _,a3,a1,a2,sS⟩
  have a:=qH HJ0;clear HJ0;have hmf:∀(fn:Fn) (first cap:Array Value) (w:World),(Instr.makeFunc fn first cap).run prog w=.ok (.func fn first cap) w:=fun _ _ _ _=>rfl;obtain ⟨R,o⟩:∃R,Hid (R=gI (fun _=>17) (fun _=>64) (fun _=>64) (fun _=>16) s):=⟨_,rfl⟩;rw[<-o.out];go_enter_defers func107,ntmps107;go_wp2_with fail
  generalize ((w.alloc _).alloc _).alloc _=V0 at *;refine (xB w.heap.size (w.heap.size+2) s V0 oM a.1.bel.size a.1.rd oM).mono ?_;rintro e V1 ⟨j,K⟩;rcases K with ⟨m,l1,c,rfl,y⟩|⟨c,rfl⟩;rotate_left
  · exact (fun q => im q.1 q.2.1 rfl q.2.2 rfl rfl (fun W E => ⟨E, .inr ⟨by rw [o.out, gI, c], rfl⟩⟩)) (a.1.pan j)
  have hl1:l1.length<=140737488355328:=by have:=oB c;omega
  replace o:=au (show R=if m=gc then ju (fun _=>17) (fun _=>64) (fun _=>64) (fun _=>16) l1 else none by rw[o.out,gI,c]);replace a:=qH (a.1.num j y);have hml:=xZ c;clear c j y;by_cases hm:m=gc;rotate_left
  · rw [if_neg hm] at o;have hq:((lh m).toList == [100,97,114,107])=false:=(by rw[Lib.toList_data,bP];exact beq_false_of_ne hm);(go_wp2_with fail);refine (pP _).mono ?_;rintro e V' ⟨rfl,rfl⟩;exact im a.1.bel a.1.box rfl a.1.okb rfl rfl (fun W E=>⟨E,.inr ⟨o.out,rfl⟩⟩)
  subst hm;rw[if_pos rfl] at o;have hq:((lh gc).toList == [100,97,114,107])=true:=by rw[Lib.toList_data,bP];rfl
  go_wp2_with fail
  refine (pQ _).mono ?_;rintro e VQ ⟨rfl,rfl⟩;go_wp2_with fail
  refine (gJ w.heap.size (w.heap.size+2) l1 VQ oM a.1.bel.size a.1.rd oM).mono ?_;rintro e V2 ⟨j,K⟩;rcases K with ⟨rw,l2,c,rfl,y⟩|⟨c,rfl⟩;rotate_left
  · exact (fun q => im q.1 q.2.1 rfl q.2.2 rfl rfl (fun W E => ⟨E, .inr ⟨by rw [o.out, ju, c], rfl⟩⟩)) (a.1.pan j)
  have hl2:l2.length<=140737488355328:=by have:=fK c;omega
  replace o:=au (show R=jv (fun _=>17) (fun _=>64) (fun _=>64) (fun _=>16) rw l2 by rw[o.out,ju,c]);replace a:=qH (a.1.num j y);clear c j y;go_wp2_with fail
  refine (gJ w.heap.size (w.heap.size+2) l2 V2 oM a.1.bel.size a.1.rd oM).mono ?_;rintro e V3 ⟨j,K⟩;rcases K with ⟨F,l3,c,rfl,y⟩|⟨c,rfl⟩;rotate_left
  · exact (fun q => im q.1 q.2.1 rfl q.2.2 rfl rfl (fun W E => ⟨E, .inr ⟨by rw [o.out, jv, c], rfl⟩⟩)) (a.1.pan j)
  have hl3:l3.length<=140737488355328:=by have:=fK c;omega
  replace o:=au (show R=ll (fun _=>17) (fun _=>64) (fun _=>64) (fun _=>16) rw F l3 by rw[o.out,jv,c]);replace a:=qH (a.1.num j y);clear c j y;have c0:V3.cell? ⟨w.heap.size,0,none⟩=some (Z G 0):=kh a.1.box _;have f0:V3.frozen? ⟨w.heap.size,0,none⟩=false:=kf a.1.box _;replace a:=qH (a.1.put 0 (Z G rw) rfl);replace a:=qH (show FJ w [] l3 [Z G rw,Z G 0,Z G 0,Z G 0,Z G 0,J none 0 0,J none 0 0,Z G 0,Z G 0,Z G 0,Z G 0,Z G 0,Z G 0,J none 0 0,Z G 0,Z G 0,Z G 0,Z G 0,Z G 0,Z G 0,Z G 0,Z G 0,Z G 0,Z G 0,Z G 0,Z G 0,J none 0 0,Z G 0] (V3.setCell ⟨w.heap.size,0,none⟩ (Z G rw)) from a.1);have c1:(V3.setCell ⟨w.heap.size,0,none⟩ (Z G rw)).cell? ⟨w.heap.size,1,none⟩=some (Z G 0):=kh a.1.box _;have f1:(V3.setCell ⟨w.heap.size,0,none⟩ (Z G rw)).frozen? ⟨w.heap.size,1,none⟩=false:=kf a.1.box _;replace a:=qH (a.1.put 1 (Z G F) rfl);replace a:=qH (show FJ w [] l3 [Z G rw,Z G F,Z G 0,Z G 0,Z G 0,J none 0 0,J none 0 0,Z G 0,Z G 0,Z G 0,Z G 0,Z G 0,Z G 0,J none 0 0,Z G 0,Z G 0,Z G 0,Z G 0,Z G 0,Z G 0,Z G 0,Z G 0,Z G 0,Z G 0,Z G 0,Z G 0,J none 0 0,Z G 0] ((V3.setCell ⟨w.heap.size,0,none⟩ (Z G rw)).setCell ⟨w.heap.size,1,none⟩ (Z G F)) from a.1);go_wp2_with fail
  clear c0 f0 c1 f1;generalize ((V3.setCell _ _).setCell _ _)=VB at *;refine (gJ w.heap.size (w.heap.size+2) l3 VB oM a.1.bel.size a.1.rd oM).mono ?_;rintro e V4 ⟨j,K⟩;rcases K with ⟨A,l4,c,rfl,y⟩|⟨c,rfl⟩;rotate_left
  · exact (fun q => im q.1 q.2.1 rfl q.2.2 rfl rfl (fun W E => ⟨E, .inr ⟨by rw [o.out, ll, c], rfl⟩⟩)) (a.1.pan j)
  have hl4:l4.length<=140737488355328:=by have:=fK c;omega
  replace o:=au (show R=ln (fun _=>17) (fun _=>64) (fun _=>64) (fun _=>16) rw F A l4 by rw[o.out,ll,c]);replace a:=qH (a.1.num j y);clear c j y;go_wp2_with fail
  refine (gJ w.heap.size (w.heap.size+2) l4 V4 oM a.1.bel.size a.1.rd oM).mono ?_;rintro e V5 ⟨j,K⟩;rcases K with ⟨H,l5,c,rfl,y⟩|⟨c,rfl⟩;rotate_left
  · exact (fun q => im q.1 q.2.1 rfl q.2.2 rfl rfl (fun W E => ⟨E, .inr ⟨by rw [o.out, ln, c], rfl⟩⟩)) (a.1.pan j)
  have hl5:l5.length<=140737488355328:=by have:=fK c;omega
  replace o:=au (show R=lq (fun _=>17) (fun _=>64) (fun _=>64) (fun _=>16) rw F A H l5 by rw[o.out,ln,c]);replace a:=qH (a.1.num j y);clear c j y;go_wp2_with fail
  refine (gJ w.heap.size (w.heap.size+2) l5 V5 oM a.1.bel.size a.1.rd oM).mono ?_;rintro e V6 ⟨j,K⟩;rcases K with ⟨M,l6,c,rfl,y⟩|⟨c,rfl⟩;rotate_left
  · exact (fun q => im q.1 q.2.1 rfl q.2.2 rfl rfl (fun W E => ⟨E, .inr ⟨by rw [o.out, lq, c], rfl⟩⟩)) (a.1.pan j)
  have hl6:l6.length<=140737488355328:=by have:=fK c;omega
  replace o:=au (show R=kz (fun _=>17) (fun _=>64) (fun _=>64) (fun _=>16) rw F A H M l6 by rw[o.out,lq,c]);replace a:=qH (a.1.num j y);clear c j y;have c0:V6.cell? ⟨w.heap.size,2,none⟩=some (Z G 0):=kh a.1.box _;have f0:V6.frozen? ⟨w.heap.size,2,none⟩=false:=kf a.1.box _;replace a:=qH (a.1.put 2 (Z G A) rfl);replace a:=qH (show FJ w [] l6 [Z G rw,Z G F,Z G A,Z G 0,Z G 0,J none 0 0,J none 0 0,Z G 0,Z G 0,Z G 0,Z G 0,Z G 0,Z G 0,J none 0 0,Z G 0,Z G 0,Z G 0,Z G 0,Z G 0,Z G 0,Z G 0,Z G 0,Z G 0,Z G 0,Z G 0,Z G 0,J none 0 0,Z G 0] (V6.setCell ⟨w.heap.size,2,none⟩ (Z G A)) from a.1);have c1:(V6.setCell ⟨w.heap.size,2,none⟩ (Z G A)).cell? ⟨w.heap.size,3,none⟩=some (Z G 0):=kh a.1.box _;have f1:(V6.setCell ⟨w.heap.size,2,none⟩ (Z G A)).frozen? ⟨w.heap.size,3,none⟩=false:=kf a.1.box _;replace a:=qH (a.1.put 3 (Z G H) rfl);replace a:=qH (show FJ w [] l6 [Z G rw,Z G F,Z G A,Z G H,Z G 0,J none 0 0,J none 0 0,Z G 0,Z G 0,Z G 0,Z G 0,Z G 0,Z G 0,J none 0 0,Z G 0,Z G 0,Z G 0,Z G 0,Z G 0,Z G 0,Z G 0,Z G 0,Z G 0,Z G 0,Z G 0,Z G 0,J none 0 0,Z G 0] ((V6.setCell ⟨w.heap.size,2,none⟩ (Z G A)).setCell ⟨w.heap.size,3,none⟩ (Z G H)) from a.1);have c2:((V6.setCell ⟨w.heap.size,2,none⟩ (Z G A)).setCell ⟨w.heap.size,3,none⟩ (Z G H)).cell? ⟨w.heap.size,4,none⟩=some (Z G 0):=kh a.1.box _;have f2:((V6.setCell ⟨w.heap.size,2,none⟩ (Z G A)).setCell ⟨w.heap.size,3,none⟩ (Z G H)).frozen? ⟨w.heap.size,4,none⟩=false:=kf a.1.box _;replace a:=qH (a.1.put 4 (Z G M) rfl);replace a:=qH (show FJ w [] l6 [Z G rw,Z G F,Z G A,Z G H,Z G M,J none 0 0,J none 0 0,Z G 0,Z G 0,Z G 0,Z G 0,Z G 0,Z G 0,J none 0 0,Z G 0,Z G 0,Z G 0,Z G 0,Z G 0,Z G 0,Z G 0,Z G 0,Z G 0,Z G 0,Z G 0,Z G 0,J none 0 0,Z G 0] (((V6.setCell ⟨w.heap.size,2,none⟩ (Z G A)).setCell ⟨w.heap.size,3,none⟩ (Z G H)).setCell ⟨w.heap.size,4,none⟩ (Z G M)) from a.1);go_wp2_with fail
  clear c0 f0 c1 f1 c2 f2;generalize (((V6.setCell _ _).setCell _ _).setCell _ _)=VC at *;refine (qq w.heap.size (w.heap.size+2) 17 l6 VC oM a.1.bel.size a.1.rd oM).mono ?_;rintro e Q ⟨j,K⟩;rcases K with ⟨n,l7,c,rfl,y⟩|⟨c,rfl⟩;rotate_left
  · exact (fun q => im q.1 q.2.1 rfl q.2.2 rfl rfl (fun W E => ⟨E, .inr ⟨by rw [o.out, kz, pJ c], rfl⟩⟩)) (a.1.pan j)
  obtain ⟨l,rfl,hN7,hlp,hlen⟩:=pL (p:=aH) c;have HLP:=qH hlp;have hl7:l7.length<=140737488355328:=oM;replace a:=qH (a.1.num j y);clear c j y hlp hlen;obtain ⟨i0,hi,hz0,hz1,hz2⟩:=info_parts Tryz.infoInt;obtain ⟨ZA,hZA⟩:=eX ((zv l (Z .i64 0)).toArray);have hmk:∀V:World,(Instr.makeSlice 52 (Z G l) (Z G l)).run prog V=.ok (J (some ⟨V.heap.size,0,none⟩) l l) (V.alloc (.cells ZA 3)):=fun V=>by
    have h:=run_make (P:=prog) V 52 3 i0 (Z .i64 0) underlying52 hi hz0 .i64 .i64 l l oM (Int.le_refl _) (by rw[hz2];omega) oM;rw[hz1,xc,Nat.mul_one] at h;rw[<-hZA,<-vn];simpa [Value.cells] using h
  clear hi hz0 hz1 hz2;have hxs7:∀x∈([]:List (Nat×TypeId×List Value)),x.1≠Q.heap.size:=fun x hx=>by have:=(a.1.ex x hx).lt;omega
  have ci:Q.cell? ⟨w.heap.size,5,none⟩=some (J none 0 0):=kh a.1.box _;have fi:Q.frozen? ⟨w.heap.size,5,none⟩=false:=kf a.1.box _;have hbl:w.heap.size<Q.heap.size:=a.1.box.lt;have ci':(Q.alloc (.cells ZA 3)).cell? ⟨w.heap.size,5,none⟩=some (J none 0 0):=kh (((aq Q _).block _ a.1.box.lt).trans a.1.box) _;have fi':(Q.alloc (.cells ZA 3)).frozen? ⟨w.heap.size,5,none⟩=false:=kf (((aq Q _).block _ a.1.box.lt).trans a.1.box) _;replace a:=qH ((a.1.put 5 (J (some ⟨Q.heap.size,0,none⟩) l l) rfl).alloc (zv l (Z .i64 0)) 3);rw[hZA,show (Q.setCell ⟨w.heap.size,5,none⟩ (J (some ⟨Q.heap.size,0,none⟩) l l)).heap.size=Q.heap.size by simp[World.setCell]] at a;clear hZA;have hsep7:w.heap.size+2<Q.heap.size:=a.1.sep _ List.mem_cons_self;go_upto_region 7 with fail
  clear ci fi ci' fi' hmk hbl;generalize Q.heap.size=D at *;generalize (Q.setCell _ _).alloc _=VD at *;replace a:=qH (show FJ w [(D,3,zv l (Z .i64 0))] l7 [Z G rw,Z G F,Z G A,Z G H,Z G M,J (some ⟨D,0,none⟩) l l,J none 0 0,Z G 0,Z G 0,Z G 0,Z G 0,Z G 0,Z G 0,J none 0 0,Z G 0,Z G 0,Z G 0,Z G 0,Z G 0,Z G 0,Z G 0,Z G 0,Z G 0,Z G 0,Z G 0,Z G 0,J none 0 0,Z G 0] VD from a.1);have cj:VD.cell? ⟨w.heap.size,5,none⟩=some (J (some ⟨D,0,none⟩) l l):=kh a.1.box _;go_wp2_with fail
  clear cj;have hHL:=a.1.ex (D,3,zv l (Z .i64 0)) sS;refine (qs w.heap.size (w.heap.size+2) D 0 l l 3 (zv l (Z .i64 0)) l7 VD oM oM oM a.1.bel.size a.1.rd oM hHL sS oM (fun i hi=>⟨0,by rw[Nat.zero_add,List.getElem?_replicate,if_pos hi]⟩)).mono ?_;rintro e VE ⟨j,K⟩;rcases K with ⟨L,lE,c,rfl,y,hH⟩|⟨c,rfl⟩;rotate_left
  · exact (fun q => im q.1 q.2.1 rfl q.2.2 rfl rfl (fun W E => ⟨E, .inr ⟨by rw [o.out, kz, HLP.1, c], rfl⟩⟩)) (a.1.pan2 hsep7 j)
  have hnl:=iS c;have hlE:lE.length<=140737488355328:=by have:=mg (fun _ _ _=>fK) c;omega
  replace o:=au (show R=kA (fun _=>64) (fun _=>64) (fun _=>16) rw F A H M L lE by rw[o.out,kz,HLP.1,c]);have hpe:dw (zv l (Z .i64 0)) 0 (L.map (Z .i64))=L.map (Z .i64):=by
    unfold dw;rw[List.take_zero,List.nil_append,List.drop_of_length_le sO,List.append_nil]
  rw[hpe] at hH;replace a:=qH (a.1.fillX sS j y hH);clear c j y hH HLP hHL hpe;go_wp2_with fail
  refine (qq w.heap.size (w.heap.size+2) 64 lE VE oM a.1.bel.size a.1.rd oM).mono ?_;rintro e T ⟨j,K⟩;rcases K with ⟨n,l8,c,rfl,y⟩|⟨c,rfl⟩;rotate_left
  · exact (fun q => im q.1 q.2.1 rfl q.2.2 rfl rfl (fun W E => ⟨E, .inr ⟨by rw [o.out, kA, pJ c], rfl⟩⟩)) (a.1.pan j)
  obtain ⟨f,rfl,hN8,hlp,hlen⟩:=pL (p:=cn) c;have HLP:=qH hlp;have hl8:l8.length<=140737488355328:=oM;replace a:=qH (a.1.num j y);clear c j y hlp hlen;obtain ⟨i0,hi,hz0,hz1,hz2⟩:=info_parts Tryz.infoStrF;obtain ⟨ZA,hZA⟩:=eX ((zv f (Value.string ⟨#[]⟩)).toArray);have hmk:∀V:World,(Instr.makeSlice 55 (Z G f) (Z G f)).run prog V=.ok (J (some ⟨V.heap.size,0,none⟩) f f) (V.alloc (.cells ZA 9)):=fun V=>by
    have h:=run_make (P:=prog) V 55 9 i0 (Value.string ⟨#[]⟩) underlying55 hi hz0 .i64 .i64 f f oM (Int.le_refl _) (by rw[hz2];omega) oM;rw[hz1,xc,Nat.mul_one] at h;rw[<-hZA,<-vn];simpa [Value.cells] using h
  clear hi hz0 hz1 hz2;have hxs8:∀x∈([(D,3,L.map (Z .i64))]:List (Nat×TypeId×List Value)),x.1≠T.heap.size:=fun x hx=>by have:=(a.1.ex x hx).lt;omega
  have ci:T.cell? ⟨w.heap.size,6,none⟩=some (J none 0 0):=kh a.1.box _;have fi:T.frozen? ⟨w.heap.size,6,none⟩=false:=kf a.1.box _;have hbl:w.heap.size<T.heap.size:=a.1.box.lt;have ci':(T.alloc (.cells ZA 9)).cell? ⟨w.heap.size,6,none⟩=some (J none 0 0):=kh (((aq T _).block _ a.1.box.lt).trans a.1.box) _;have fi':(T.alloc (.cells ZA 9)).frozen? ⟨w.heap.size,6,none⟩=false:=kf (((aq T _).block _ a.1.box.lt).trans a.1.box) _;replace a:=qH ((a.1.put 6 (J (some ⟨T.heap.size,0,none⟩) f f) rfl).alloc (zv f (Value.string ⟨#[]⟩)) 9);rw[hZA,show (T.setCell ⟨w.heap.size,6,none⟩ (J (some ⟨T.heap.size,0,none⟩) f f)).heap.size=T.heap.size by simp[World.setCell]] at a;clear hZA;have hsep8:w.heap.size+2<T.heap.size:=a.1.sep _ List.mem_cons_self;go_upto_region 9 with fail
  clear ci fi ci' fi' hmk hbl;generalize T.heap.size=C at *;generalize (T.setCell _ _).alloc _=VF at *;replace a:=qH (show FJ w [(C,9,[].map bH++zv (f-0) (Value.string ⟨#[]⟩)),(D,3,L.map (Z .i64))] l8 [Z G rw,Z G F,Z G A,Z G H,Z G M,J (some ⟨D,0,none⟩) l l,J (some ⟨C,0,none⟩) f f,Z G 0,Z G 0,Z G 0,Z G 0,Z G 0,Z G 0,J none 0 0,Z G 0,Z G 0,Z G 0,Z G 0,Z G 0,Z G 0,Z G 0,Z G 0,Z G 0,Z G 0,Z G 0,Z G 0,J none 0 0,Z G 0] VF from a.1);have cj:VF.cell? ⟨w.heap.size,6,none⟩=some (J (some ⟨C,0,none⟩) f f):=kh a.1.box _;go_wp2_with fail
  clear cj;go_loopw [34] (fun i wr=>∃k:Nat,k<=f/\i=Z G k/\∃N u,bO cn k l8=some (N,u)/\FJ w [(C,9,N.map bH++zv (f-k) (Value.string ⟨#[]⟩)),(D,3,L.map (Z .i64))] u [Z G rw,Z G F,Z G A,Z G H,Z G M,J (some ⟨D,0,none⟩) l l,J (some ⟨C,0,none⟩) f f,Z G 0,Z G 0,Z G 0,Z G 0,Z G 0,Z G 0,J none 0 0,Z G 0,Z G 0,Z G 0,Z G 0,Z G 0,Z G 0,Z G 0,Z G 0,Z G 0,Z G 0,Z G 0,Z G 0,J none 0 0,Z G 0] wr) (fun i _=>f-(intOf i).toNat)
  case atStart=>exact ⟨0,xa _,rfl,[],l8,rfl,a.1⟩
  case round =>
    clear a;obtain ⟨k,hk,rfl,N,u,hm,hJ⟩:=hrel;have a:=qH hJ;clear hJ;have hnl2:=iS hm;have hul:=mg (fun _ _ _=>oB) hm;by_cases hlt:k<f
    · have hd : decide ((k : Int) < (f : Int)) = true := (by simp; omega);have HM:=qH hm;have HSQ:=qH (fun (v:World) (cs':List UInt8) (hv:FJ w [(C,9,N.map bH++zv (f-k) (Value.string ⟨#[]⟩)),(D,3,L.map (Z .i64))] cs' [Z G rw,Z G F,Z G A,Z G H,Z G M,J (some ⟨D,0,none⟩) l l,J (some ⟨C,0,none⟩) f f,Z G 0,Z G 0,Z G 0,Z G 0,Z G 0,Z G 0,J none 0 0,Z G 0,Z G 0,Z G 0,Z G 0,Z G 0,Z G 0,Z G 0,Z G 0,Z G 0,Z G 0,Z G 0,Z G 0,J none 0 0,Z G 0] v)=>show v.cell? ⟨w.heap.size,6,none⟩=some (J (some ⟨C,0,none⟩) f f)/\True from ⟨kh hv.box _,trivial⟩);clear hm;(go_upto_region 12 with fail);have HJd:=qH a.1.drew;have hSd:=HSQ.1 _ _ HJd.1;refine dR (S:=(fun v:World=>v.cell? ⟨w.heap.size,6,none⟩=some (J (some ⟨C,0,none⟩) f f)/\True)) 6 ?_;refine dS (i:=0) (oi:=_) (v:=?vv1) (some 37) [] rfl rfl kR kR kR kR kR (fun _ _ _ h=>pe (d:=37) dD h) (Or.inl ⟨rR,?yy1⟩) hSd ?rr1
      case yy1=>(intro wq hSq;obtain ⟨_,_⟩:=hSq;go_simp<;>with_reducible rfl)
      simp only[km,kb,kd,kc];refine dS (i:=2) (oi:=_) (v:=?vv2) (some 39) [] rfl rfl kR kR kR kR kR (fun _ _ _ h=>pe (d:=39) dD h) (Or.inl ⟨rR,?yy2⟩) hSd ?rr2
      case yy2=>(intro wq hSq;obtain ⟨_,_⟩:=hSq;go_simp<;>with_reducible rfl)
      simp only[km,kb,kd,kc];refine dS (i:=1) (oi:=_) (v:=?vv3) (some 38) [] rfl rfl kR kR kR kR kR (fun _ _ _ h=>pe (d:=38) dD h) (Or.inl ⟨rR,?yy3⟩) hSd ?rr3
      case yy3=>(intro wq hSq;obtain ⟨_,_⟩:=hSq;go_simp<;>with_reducible rfl)
      simp only[km,kb,kd,kc];refine aw 3 fun K' hK=>?_;go_simp;refine (xB w.heap.size (w.heap.size+2) u wr.drew oM HJd.1.bel.size HJd.1.rd oM).mono ?_;rintro e X1 ⟨j,K⟩;rcases K with ⟨tx,u1,c,rfl,y⟩|⟨c,rfl⟩;rotate_left
      · exact (fun q => im q.1 q.2.1 rfl q.2.2 rfl rfl (fun W E => ⟨E, .inr ⟨by rw [o.out, kA, HLP.1, mf HM.1 c hlt], rfl⟩⟩)) (HJd.1.pan j)
      have HP1:=qH c;have hu1:=oB c;have htx:=xZ c;have HJ1:=qH (HJd.1.num j y);clear c j y;have hSd:=HSQ.1 _ _ HJ1.1;refine hK.out _ _ hSd ?_;clear hK;(try simp only[km]);refine aw 4 fun K' hK=>?_;go_simp;refine (FE tx X1 oM).mono ?_;rintro e X2 ⟨rfl,hb2⟩;have HJ2:=qH (HJ1.1.bel2 hb2);clear hb2;have hcl:(N.map bH++zv (f-k) (Value.string ⟨#[]⟩)).length=f:=(by rw[ys,zl,List.length_replicate,hnl2];omega);have hH:=HJ2.1.ex (C,9,N.map bH++zv (f-k) (Value.string ⟨#[]⟩)) sS;obtain ⟨z0,c0⟩:∃z,X2.cell? ⟨C,k,none⟩=some z:=⟨_,by rw[kh hH,List.getElem?_toArray];exact List.getElem?_eq_getElem (by rw[hcl];omega)⟩;have f0:X2.frozen? ⟨C,k,none⟩=false:=kf hH _;obtain ⟨hH3,hS3⟩:=hH.set (B:=w.heap.size) (b:=w.heap.size+2) oM k (.string (lh tx)) rfl;have HJ3:=qH (HJ2.1.fillX hxs8 hS3 ((kG _ _ _ _ (show w.heap.size+2≠C from oM)).trans HJ2.1.rd) hH3);clear hcl hH hH3 hS3;have hSd:=HSQ.1 _ _ HJ2.1;refine hK.out _ _ hSd ?_;clear hK;(try simp only[km]);refine dS (i:=5) (oi:=_) (v:=?vv4) (some 42) [] rfl rfl kR kR kR kR kR (fun _ _ _ h=>pe (d:=42) dD h) (Or.inl ⟨rR,?yy4⟩) hSd ?rr4
      case yy4=>(intro wq hSq;obtain ⟨_,_⟩:=hSq;go_simp<;>with_reducible rfl)
      simp only[km,kb,kd,kc];refine aS fun K' hK=>?_;go_simp;refine hK.out _ _ ?_;clear hK;(try simp only[km]);have HJ4:=qH (show FJ w [(C,9,(N++[tx]).map bH++zv (f-(k+1)) (Value.string ⟨#[]⟩)),(D,3,L.map (Z .i64))] u1 [Z G rw,Z G F,Z G A,Z G H,Z G M,J (some ⟨D,0,none⟩) l l,J (some ⟨C,0,none⟩) f f,Z G 0,Z G 0,Z G 0,Z G 0,Z G 0,Z G 0,J none 0 0,Z G 0,Z G 0,Z G 0,Z G 0,Z G 0,Z G 0,Z G 0,Z G 0,Z G 0,Z G 0,Z G 0,Z G 0,J none 0 0,Z G 0] _ from by
        have h:=HJ3.1;rw[show f-k=f-(k+1)+1 from oM,<-hnl2,Gp,hnl2] at h;exact h)
      have HM2:=qH (oa HM.1 HP1.1);clear HJ3 HJ2 HJ1 HJd a hSd c0 f0 HSQ;go_wp2;go_roundw
      case rel=>exact ⟨k+1,hlt,gN,_,_,HM2.1,HJ4.1⟩
      case measure=>simp[intOf];omega
    · have hd : decide ((k : Int) < (f : Int)) = false := (by simp; omega);obtain rfl:f=k:=oM;replace o:=au (show R=lr (fun _=>64) (fun _=>16) rw F A H M L N u by rw[o.out,kA,HLP.1,hm]);replace a:=qH (show FJ w [(C,9,N.map bH),(D,3,L.map (Z .i64))] u [Z G rw,Z G F,Z G A,Z G H,Z G M,J (some ⟨D,0,none⟩) l l,J (some ⟨C,0,none⟩) f f,Z G 0,Z G 0,Z G 0,Z G 0,Z G 0,Z G 0,J none 0 0,Z G 0,Z G 0,Z G 0,Z G 0,Z G 0,Z G 0,Z G 0,Z G 0,Z G 0,Z G 0,Z G 0,Z G 0,J none 0 0,Z G 0] wr by have h:=a.1;rwa [Nat.sub_self,List.replicate_zero,List.append_nil] at h);clear hm HLP;(go_wp2_with fail);refine (Fj w.heap.size (w.heap.size+2) u wr oM a.1.rd oM).mono ?_;rintro e VG ⟨j,K⟩;rcases K with ⟨n,X,U,lG,c,rfl,y,hIP,hfs,hfc⟩|⟨c,rfl⟩;rotate_left
      · exact (fun q => im q.1 q.2.1 rfl q.2.2 rfl rfl (fun W E => ⟨E, .inr ⟨by rw [o.out, lr, c], rfl⟩⟩)) (a.1.pan j)
      have hwz:w.heap.size+2<wr.heap.size:=lS a.1.rd;replace o:=au (show R=lu rw F A H M L N n lG by rw[o.out,lr,c]);replace a:=qH (a.1.num j y);obtain ⟨CA,hCA⟩:∃CA:List Value,CA=[Z G rw,Z G F,Z G A,Z G H,Z G M,J (some ⟨D,0,none⟩) l l,J (some ⟨C,0,none⟩) f f,Z G 0,Z G 0,Z G 0,Z G 0,Z G 0,Z G 0,J none 0 0,Z G 0,Z G 0,Z G 0,Z G 0,Z G 0,Z G 0,Z G 0,Z G 0,Z G 0,Z G 0,Z G 0,Z G 0,J none 0 0,Z G 0]:=⟨_,rfl⟩;rw[<-hCA] at a;have hbx:=a.1.box;have hca:7+(aO n X U).size=CA.toArray.size:=(by rw[hCA];rfl);have hct:(CA.toArray.toList.take 7++(aO n X U).toList).toArray=aC (⟨rw,F,A,H,M,L,N,n⟩:av) (J (some ⟨D,0,none⟩) l l) (J (some ⟨C,0,none⟩) f f) X U:=(by rw[hCA];rfl);obtain ⟨so,sc,hsv,_,_⟩:=hIP.spots;obtain ⟨co,cc,hcv,_,_⟩:=hIP.curve;have hpa:(aO n X U).all (·.oneCell')=true:=(by rw[hsv,hcv];simp[Value.oneCell']);have hpi:(prog.info? 51).map (·.size)=some (aO n X U).size:=kR;have HRO:=qH (show (aC (⟨rw,F,A,H,M,L,N,n⟩:av) (J (some ⟨D,0,none⟩) l l) (J (some ⟨C,0,none⟩) f f) X U).all (·.oneCell')=true by rw[hsv,hcv];simp[Value.oneCell']);have HIP:=qH hIP;clear c j y hCA hIP hsv hcv;(go_upto_region 15 with (refine Hm rfl 51 _ _ rfl w.heap.size 7 (aO n X U) rfl rfl _ _ hbx hpi hca hpa ?_));rw[hct];replace a:=qH (a.1.plan (cs':=(aC (⟨rw,F,A,H,M,L,N,n⟩:av) (J (some ⟨D,0,none⟩) l l) (J (some ⟨C,0,none⟩) f f) X U).toList));rw[Array.toArray_toList] at a;obtain ⟨I,hRA⟩:∃I,I=aC (⟨rw,F,A,H,M,L,N,n⟩:av) (J (some ⟨D,0,none⟩) l l) (J (some ⟨C,0,none⟩) f f) X U:=⟨_,rfl⟩;rw[<-hRA] at a |-;have HRA:=qH hRA;clear hRA;replace HIP:=qH (show dH (VG.setRow w.heap.size I) n X U from ⟨HIP.1.spots.other (k:=w.heap.size) sS (fun b Y=>setRow_other _ _ _ _ Y) (hfs.ne oM),HIP.1.curve.other (k:=w.heap.size) sS (fun b Y=>setRow_other _ _ _ _ Y) (hfc.ne oM)⟩);clear hct hbx hca hpa hpi;generalize VG.setRow _ _=VH at *;have crd:VH.cell? ⟨w.heap.size+2,0,none⟩=some (.string (lh lG)):=kh a.1.rd _;by_cases hlg:lG=[];rotate_left
      · replace o := au (show R = none by rw [o.out, lu, if_neg hlg]);have hq:((lh lG).toList == [])=false:=(by rw[Lib.toList_data,bP];exact beq_false_of_ne hlg);have hq2:(lh lG).toList.isEmpty=false:=(by rw[Lib.toList_data,bP];simpa using hlg);(go_wp2_with fail);refine (pP _).mono ?_;rintro e V' ⟨rfl,rfl⟩;exact im a.1.bel a.1.box (by rw[HRA.1];rfl) a.1.okb rfl rfl (fun W E=>⟨E,.inr ⟨o.out,rfl⟩⟩)
      replace o:=au (show R=some ⟨rw,F,A,H,M,L,N,n⟩ by rw[o.out,lu,if_pos hlg]);subst hlg;have hq2:(lh []).toList.isEmpty=true:=(by rw[Lib.toList_data,bP];rfl);(go_wp2_with fail);refine (pQ _).mono ?_;rintro e O ⟨rfl,rfl⟩;clear crd hq2;subst hnl hnl2;have hbx:O.heap[w.heap.size]?=some (.cells I 57 (0,0)):=(by have:=a.1.box;unfold bx at this;rwa [Array.toArray_toList] at this);have hsz:(prog.info? 57).map (·.size)=some I.size:=(by rw[HRA.1];kernel_rfl);have hro:I.all (·.oneCell')=true:=(by rw[HRA.1];exact HRO.1);have hx6:=a.1.ex (D,3,L.map (Z .i64)) sS;have hx7:=a.1.ex (C,9,N.map bH) sS;have hs6:=a.1.sep (D,3,L.map (Z .i64)) sS;have hs7:=a.1.sep (C,9,N.map bH) sS;simp only at hx6 hx7 hs6 hs7;have hk0:(O.setRow w.heap.size I).heap[w.heap.size+1]?=some (.cells #[.bool false] 4 (0,0)):=(setRow_other _ _ _ _ oM).trans a.1.okb;have ck:(O.setRow w.heap.size I).cell? ⟨w.heap.size+1,0,none⟩=some (.bool false):=kh hk0 _;have fk:(O.setRow w.heap.size I).frozen? ⟨w.heap.size+1,0,none⟩=false:=kf hk0 0;have HKK:=qH (show ((O.setRow w.heap.size I).setCell ⟨w.heap.size+1,0,none⟩ (.bool true)).heap[w.heap.size+1]?=some (.cells #[.bool true] 4 (0,0)) by simp[World.setCell,Array.getElem?_modify,hk0]);have HRR:=qH (show ((O.setRow w.heap.size I).setCell ⟨w.heap.size+1,0,none⟩ (.bool true)).heap[w.heap.size]?=some (.cells I 57 (0,0)) from (kG _ _ _ _ (show w.heap.size≠w.heap.size+1 from oM)).trans (setRow_heap _ _ _ _ _ _ hbx));have HK:=qH (show ∀k,k≠w.heap.size->k≠w.heap.size+1->((O.setRow w.heap.size I).setCell ⟨w.heap.size+1,0,none⟩ (.bool true)).heap[k]?=O.heap[k]? from fun k h1 h2=>(kG _ _ _ _ (fun e=>h2 e)).trans (setRow_other _ _ _ _ h1));have HBF:=qH (show Below w.heap.size w ((O.setRow w.heap.size I).setCell ⟨w.heap.size+1,0,none⟩ (.bool true)) from (below_setRow a.1.bel (ko _) _).setCell (p:=⟨w.heap.size+1,0,none⟩) (Nat.le_succ _) _);have HSS:=qH (show O.heap.size<=((O.setRow w.heap.size I).setCell ⟨w.heap.size+1,0,none⟩ (.bool true)).heap.size by simp[World.setCell]);have HI6:=qH (BW (V:=(O.setRow w.heap.size I).setCell ⟨w.heap.size+1,0,none⟩ (.bool true)) (g:=D) (t:=3) (xs:=L) ((HK.1 D oM oM).trans hx6) oM);have HI7:=qH (Gn (V:=(O.setRow w.heap.size I).setCell ⟨w.heap.size+1,0,none⟩ (.bool true)) (g:=C) (t:=9) (ts:=N) ((HK.1 C oM oM).trans hx7) oM);have HIF:=qH (show dH ((O.setRow w.heap.size I).setCell ⟨w.heap.size+1,0,none⟩ (.bool true)) n X U from
        ⟨(HIP.1.spots.other (k:=w.heap.size) (w':=O.setRow w.heap.size I) sS (fun b Y=>setRow_other _ _ _ _ Y) (hfs.ne oM)).other (k:=w.heap.size+1) (by simp[World.setCell]) (fun b Y=>kG _ _ _ _ (fun e=>Y e)) (hfs.ne oM),
         (HIP.1.curve.other (k:=w.heap.size) (w':=O.setRow w.heap.size I) sS (fun b Y=>setRow_other _ _ _ _ Y) (hfc.ne oM)).other (k:=w.heap.size+1) (by simp[World.setCell]) (fun b Y=>kG _ _ _ _ (fun e=>Y e)) (hfc.ne oM)⟩)
      have HFS:=qH (hfs.mono (show w.heap.size<=wr.heap.size from oM));have HFC:=qH (hfc.mono (show w.heap.size<=wr.heap.size from oM));clear hk0 hx6 hx7 HIP a hfs hfc HRO;(go_wp2_with (first|refine wpList_load_row rfl 57 _ rfl _ rfl _ _ _ _ hbx underlying57 rfl hsz ?_|refine wpList_store_row rfl 57 _ _ rfl w.heap.size I rfl rfl _ _ hbx hsz rfl hro ?_));refine AX HRR.1 hsz HKK.1 rfl rfl ⟨HBF.1,.inl ⟨_,_,_,_,_,o.out,by rw[HRA.1],⟨HI6.1,HI7.1,HIF.1⟩,⟨fun b e=>?_,ko _⟩,⟨fun b e=>?_,ko _⟩,HFS.1,HFC.1⟩⟩
      · simp [Value.ownBlock] at e; omega
      · simp [Value.ownBlock] at e; omega
def eI (s:List UInt8):Option av:=match gI (fun _=>17) (fun _=>64) (fun _=>64) (fun _=>16) s with
 | none=>none
 | some r=>if bU r=0 then some r else none
theorem fv.other {w w':World} {v:Value} {ts:List (List UInt8)} {k:Nat} (h:fv w v ts) (o:w.heap.size<=w'.heap.size) (i:∀b,b≠k->w'.heap[b]?=w.heap[b]?) (n:v.ownBlock≠some k):fv w' v ts:=by
 obtain ⟨c,cap,rfl,l,h⟩:=h;refine ⟨c,cap,rfl,l,?_⟩;rcases h with h|⟨b,off,rfl,m,f⟩
 ·exact .inl h
 ·have d:b≠k:=fun e=>n (by rw[e];rfl);refine .inr ⟨b,off,rfl,kv m o,fun j g=>?_⟩;rw[World.cell?_of_block (a:=⟨b,off+j,none⟩) (i b d)];exact f j g
theorem cR.other {w w':World} {r:av} {f i g e:Value} {B k:Nat} (h:cR w r f i g e) (d:w.heap.size<=w'.heap.size) (c:∀b,b≠k->w'.heap[b]?=w.heap[b]?) (a:k<B) (j:ar B f) (l:ar B i) (m:ar B g) (n:ar B e):cR w' r f i g e :=
 ⟨h.lens.other d c (j.ne a),h.strips.other d c (l.ne a),h.plan.spots.other d c (m.ne a),h.plan.curve.other d c (n.ne a)⟩
theorem mq {w:World} {r:av} {b d c a:Value} (h:cR w r b d c a):(aC r b d c a).all (·.oneCell')=true:=by
 obtain ⟨_,_,e,_⟩:=h.lens;obtain ⟨_,_,f,_⟩:=h.strips;obtain ⟨_,_,g,_⟩:=h.plan.spots;obtain ⟨_,_,i,_⟩:=h.plan.curve;rw[e,f,g,i];simp[Value.oneCell']
theorem lH {c:Func} (i:c.results=#[.cell 2 57,.tmp 3]) (a:Array Value) (R:Nat) (b:Array Value) (z:Value) (W:World) (d:a.getD 2 undef=.pointer (some ⟨R,0,none⟩)) (f:a.getD 3 undef=z)
  (h:W.heap[R]?=some (.cells b 57 (0,0))) (k:(prog.info? 57).map (·.size)=some b.size) :
  (results c a).run prog W=.ok (.tuple #[.agg b,z]) W:=by
 have j:=run_loadVar_row (P:=prog) W R 57 57 b (0,0) _ h underlying57 rfl k;have e:a[2]?.getD undef=.pointer (some ⟨R,0,none⟩):=by simpa using d
 have g:a[3]?.getD undef=z:=by simpa using f
 simp[results,i,e,g,asAddr,j]
theorem Hl {P:Program} {e:Array Oper} {rest:List Oper} {o:Oper} {a:Act} {w:World} {Q:Exit->Act->World->Prop} (n:Region.wanted o (yielded e a.tmps)=true) (c:TypeId) (x:Operand) (l:o.op=.load c x)
  (g:Nat) (p:a.eval x=.pointer (some ⟨g,0,none⟩)) (t:TypeId) (b:Array Value) (f:Nat×Nat) (d:TypeDesc) (j:w.heap[g]?=some (.cells b t f))
  (m:P.underlying c=some d) (i:(match d with | .struct _ | .array _ _=>true|_=>false)=true) (k:(P.info? c).map (·.size)=some b.size)
  (h:wpList P e Q rest (a.put o.dst (.agg b)) w):wpList P e Q (o::rest) a w:=by
 unfold wpList;rw[if_pos n];exact .inl (wp_load_row c x l g p t b f d j m i k h)
theorem xk (s:List UInt8) (w:World) (hs:s.length<=140737488355328) :
  Calls prog 47 #[.string (lh s)] w fun e w'=>Below w.heap.size w w'/\((∃r i l j f,eI s=some r/\e=.returned (.tuple #[.agg (aC r i l j f),Z G 0])/\cR w' r i l j f/\ar w.heap.size i/\ar w.heap.size l/\ar w.heap.size j/\ar w.heap.size f)\/(eI s=none/\e=.returned (.tuple #[.agg ay,Z G 1]))):=by
 have HF:=qH (AR s (w.alloc (.cells ay 57)) hs);obtain ⟨T,HB⟩:=d9 w (ka ay 57);have V:=lS T;have c:=qH (show eI s=match gI (fun _=>17) (fun _=>64) (fun _=>64) (fun _=>16) s with|none=>none|some r=>if bU r=0 then some r else none from rfl);generalize eI s=RR at *;have D:(prog.info? 57).map (·.size)=some (ay:Array Value).size:=kR;have W:(ay:Array Value).all (·.oneCell')=true:=by simp[Value.oneCell']
 go_enter func47,ntmps47;go_wp2_with fail
 generalize w.alloc _=U at *;refine (HF.1).mono ?_;rintro e a ⟨q,hc⟩;have X:=qH (aG HB.1 q);rcases hc with ⟨r,i,l,j,f,C,rfl,N,H,I,K,L⟩|⟨C,rfl⟩
 ·have HO:=qH (mq N);have n:(prog.info? 57).map (·.size)=some (aC r i l j f).size:=kR;have S:=qH (fun (u:World) (hu:Below a.heap.size a u)=>xf r i l j f u (N.below hu (ko _)));replace c:=qH (show RR=if bU r=0 then some r else none by rw[c.1,C]);obtain ⟨d,O⟩:=eX (aC r i l j f);rw[O] at S n HO |-;have HRA:=qH O;have t:=aD a (ka ay 57);have R:(ay:Array Value).size=d.size:=by rw[<-O];rfl
  have F:=setRow_heap _ _ _ d _ _ t;have m:=qH (below_setRow (g:=a.heap.size) (aq a (ka ay 57)) (ko _) d);have hlx:=lS F;have P:=HO.1;clear O C;go_upto_region 2 with (refine wpList_store_row rfl 57 _ _ rfl a.heap.size d rfl rfl _ _ t n R P ?_)
  clear t;generalize (a.alloc _).setRow _ _=V2 at *;go_wp2_with (refine Hl rR 57 _ rfl _ rfl _ _ _ _ F underlying57 rfl n ?_)
  refine (S.1 _ m.1).mono ?_;rintro e V3 ⟨rfl,A⟩;have p:V3.heap[w.heap.size]?=some (.cells ay 57 (0,0)):=(((q.trans (m.1.mono q.size)).trans (A.mono (kw q.size m.1.size))).block _ V).trans T;have d1:=(A.block _ hlx).trans F;have E:=qH (aG (aG X.1 m.1) A);have Y:=qH (N.below (aG m.1 A) (ko _));clear S F A N;by_cases M:bU r=0
  ·rw[M];rw[if_pos M] at c;have y:=qH (setRow_heap _ _ _ d _ _ p);have x:=qH (below_setRow (g:=w.heap.size) E.1 (ko _) d);have HIF:=qH (Y.1.other (k:=w.heap.size) (w':=V3.setRow w.heap.size d) (B:=U.heap.size) sS (fun b hb=>setRow_other _ _ _ _ hb) V H I K L);have Q:w.heap.size<=U.heap.size:=oM;have HFR:=qH (show ar w.heap.size i/\ar w.heap.size l/\ar w.heap.size j/\ar w.heap.size f from ⟨H.mono Q,I.mono Q,K.mono Q,L.mono Q⟩);clear H I K L;(go_wp2_with (first|refine wpList_load_row rfl 57 _ rfl _ rfl _ _ _ _ d1 underlying57 rfl n ?_|refine wpList_store_row rfl 57 _ _ rfl w.heap.size d rfl rfl _ _ p n R P ?_));refine bodyPost_ret (v:=.tuple #[.agg d,Z G 0]) (lH results47 _ _ _ _ _ rfl rfl y.1 n) rfl ⟨x.1,.inl ⟨r,i,l,j,f,c.1,by rw[HRA.1],HIF.1,HFR.1⟩⟩
  ·have hn:(bU r != 0)=true:=(by simpa using M);rw[if_neg M] at c;have y:=qH (setRow_heap _ _ _ ay _ _ p);have x:=qH (below_setRow (g:=w.heap.size) E.1 (ko _) ay);clear Y H I K L;(go_wp2_with (refine wpList_store_row rfl 57 _ _ rfl w.heap.size ay rfl rfl _ _ p D rfl W ?_));refine bodyPost_ret (v:=.tuple #[.agg ay,Z G 1]) (lH results47 _ _ _ _ _ rfl rfl y.1 D) rfl ⟨x.1,.inr ⟨c.1,rfl⟩⟩
 ·replace c:=qH (show RR=none by rw[c.1,C]);obtain ⟨o,z⟩:=eX ay;rw[show Ending.returned (.tuple #[.agg ay,.bool false])=Ending.returned (.tuple #[.agg o,.bool false]) by rw[z]];have t:=aD a (ka ay 57);have n:(prog.info? 57).map (·.size)=some o.size:=by rw[<-z];exact D
  have R:(ay:Array Value).size=o.size:=by rw[<-z]
  have P:o.all (·.oneCell')=true:=by rw[<-z];exact W
  have m:=qH (below_setRow (g:=a.heap.size) (aq a (ka ay 57)) (ko _) o);have p:((a.alloc (ka ay 57)).setRow a.heap.size o).heap[w.heap.size]?=some (.cells ay 57 (0,0)):=((q.trans (m.1.mono q.size)).block _ V).trans T;have E:=qH (aG X.1 m.1);have y:=qH (setRow_heap _ _ _ ay _ _ p);have x:=qH (below_setRow (g:=w.heap.size) E.1 (ko _) ay);clear C z;go_upto_region 3 with (refine wpList_store_row rfl 57 _ _ rfl a.heap.size o rfl rfl _ _ t n R P ?_)
  clear t;generalize (a.alloc _).setRow _ _=V2 at *;go_wp2_with (refine wpList_store_row rfl 57 _ _ rfl w.heap.size ay rfl rfl _ _ p D rfl W ?_)
  refine bodyPost_ret (v:=.tuple #[.agg ay,Z G 1]) (lH results47 _ _ _ _ _ rfl rfl y.1 D) rfl ⟨x.1,.inr ⟨c.1,rfl⟩⟩
theorem B9 {l:List Int} (h:l.length=3):[ix l 0,ix l 1,ix l 2]=l:=by
 match l,h with
 | [a,b,c],_=>rfl
theorem Ca {l:List Int} (h:l.length=4):[ix l 0,ix l 1,ix l 2,ix l 3]=l:=by
 match l,h with
 | [a,b,c,d],_=>rfl
theorem Cb {l:List Int} (h:l.length=9):[ix l 0,ix l 1,ix l 2,ix l 3,ix l 4,ix l 5,ix l 6,ix l 7,ix l 8]=l:=by
 match l,h with
 | [a,b,c,d,e,f,g,h,i],_=>rfl
theorem DW {a b:List UInt8->Nat} {l t:List UInt8} {n:aA} (h:iZ a b l=some (n,t)):l=kg n++t:=by
 rw[iZ] at h;split at h;· cases h
 rename_i h1;rw[ly] at h;split at h;· cases h
 rename_i h2;rw[lz] at h;split at h;· cases h
 rename_i h3;rw[kj] at h;split at h;· cases h
 rename_i h4;rw[lA] at h;split at h;· cases h
 rename_i h5;rw[lB] at h;split at h;· cases h
 rename_i h6;rw[kk] at h;split at h;· cases h
 rename_i h7;rw[lC] at h;split at h;· cases h
 rename_i h8;cases h
 have c:=Ca (iS h2);have d:=B9 (iS h5);have e:=Cb (iS h6);rw[(ej.sound _ _ _ h1).1,((kB ej 4).sound _ _ _ h2).1,(ej.sound _ _ _ h3).1,(pI ob h4).1,((kB ej 3).sound _ _ _ h5).1,((kB ej 9).sound _ _ _ h6).1,(pI ob h7).1,(ej.sound _ _ _ h8).1];simp only[kg,iL,iO,iU,c,d,e,zc]
theorem xh {a b c d:List UInt8->Nat} {s:List UInt8} {r:av} (h:gI a b c d s=some r):s=fm r:=by
 rw[gI] at h;split at h;· cases h
 rename_i h0;split at h
 ·rename_i hm;rw[ju] at h;split at h;· cases h
  rename_i h1;rw[jv] at h;split at h;· cases h
  rename_i h2;rw[ll] at h;split at h;· cases h
  rename_i h3;rw[ln] at h;split at h;· cases h
  rename_i h4;rw[lq] at h;split at h;· cases h
  rename_i h5;rw[kz] at h;split at h;· cases h
  rename_i h6;rw[kA] at h;split at h;· cases h
  rename_i h7;rw[lr] at h;split at h;· cases h
  rename_i h8;rw[lu] at h;split at h
  ·rename_i h9;cases h
   rw[(nv.sound _ _ _ h0).1,hm,(ej.sound _ _ _ h1).1,(ej.sound _ _ _ h2).1,(ej.sound _ _ _ h3).1,(ej.sound _ _ _ h4).1,(ej.sound _ _ _ h5).1,(pI ej h6).1,(pI nv h7).1,DW h8,h9];simp[fm,pq,zc]
  ·cases h
 ·cases h
def hO (n:aA):aA:=⟨n.phase,ix (iL n),n.white,n.spots,ix (iO n),ix (iU n),n.curve,n.amount⟩
def eF (r:av):av:={ r with plan:=hO r.plan }
theorem Er (r:av) (b d c a:Value):aC (eF r) b d c a=aC r b d c a:=rfl
theorem B4 {w:World} {r:av} {b d c a:Value}:cR w (eF r) b d c a↔cR w r b d c a :=
 ⟨fun h=>⟨h.lens,h.strips,h.plan.spots,h.plan.curve⟩,fun h=>⟨h.lens,h.strips,h.plan.spots,h.plan.curve⟩⟩
theorem Ic (n:aA):cJ (hO n)=cJ n:=by
 have a:dU (hO n).black 4=dU n.black 4:=rfl;have b:dU (hO n).gains 3=dU n.gains 3:=rfl;have c:fg (hO n).matrix=fg n.matrix:=rfl;simp only[cJ,jE,kr,DE,eD,js,fJ,a,b,c];rfl
theorem ng (r:av):bU (eF r)=bU r:=by
 have a:da (eF r)=da r:=rfl;have b:cU (eF r)=cU r:=by
  unfold cU;rw[show (eF r).plan=hO r.plan from rfl,Ic];rfl
 have c:fE (eF r) (eF r).strips.length=fE r r.strips.length:=rfl;unfold bU;rw[a,b,c];rfl
structure tD (n:aA):Prop where
 phase:bW n.phase
 black:∀x∈iL n,bW x
 white:bW n.white
 spots:∀p∈n.spots,bW p.1/\bW p.2
 gains:∀x∈iO n,bW x
 matrix:∀x∈iU n,bW x
 curve:∀p∈n.curve,bW p.1/\bW p.2
 amount:bW n.amount
 many:n.spots.length<=64
 points:n.curve.length<=16
theorem rB {n:aA} (h:cJ n=0):tD n:=by
 obtain ⟨s,q,t,u,v,E,w,d⟩:=kK h;have y:=nY d;have F:=re d;simp only[eD,yb,decide_eq_true_eq] at q;have e:=fun k c=>kV q.2 k c;have f:=fun k c=>kV t k c;have a:=fun k c=>rS u k c;simp only[cW,decide_eq_true_eq] at s;simp only[fV,decide_eq_true_eq] at v;refine ⟨?_,?_,?_,?_,?_,?_,?_,?_,oM,oM⟩
 ·unfold bW;omega
 ·intro x b;have l:=e 0 oM;have m:=e 1 oM;have o:=e 2 oM;have r:=e 3 oM;simp only[iL,List.mem_cons,List.not_mem_nil,or_false] at b;unfold bW;rcases b with rfl|rfl|rfl|rfl<;>omega
 ·unfold bW;omega
 ·intro p j;have:=zo.1 w p j;simp only[bc,decide_eq_true_eq] at this;unfold bW;omega
 ·intro x b;have l:=f 0 oM;have m:=f 1 oM;have o:=f 2 oM;simp only[iO,List.mem_cons,List.not_mem_nil,or_false] at b;unfold bW;rcases b with rfl|rfl|rfl<;>omega
 ·intro x b;have l:=a 0 oM;have m:=a 1 oM;have o:=a 2 oM;have r:=a 3 oM;have z:=a 4 oM;have A:=a 5 oM;have B:=a 6 oM;have C:=a 7 oM;have D:=a 8 oM;simp only[iU,List.mem_cons,List.not_mem_nil,or_false] at b;unfold bW;rcases b with rfl|rfl|rfl|rfl|rfl|rfl|rfl|rfl|rfl<;>omega
 ·intro p j;obtain ⟨i,g,rfl⟩:=List.getElem_of_mem j;rw[i7 _ _ g];have:=y.x i g;simp only[cY,yb] at d;have:=(sw d.2 i g).1;unfold bW;omega
 ·unfold bW;omega
theorem DV {a b:List UInt8->Nat} {n:aA} (h:tD n) (c:∀t,n.spots.length<=a (n.spots.flatMap ep++t)) (d:∀t,n.curve.length<=b (n.curve.flatMap ep++t)) (t:List UInt8):iZ a b (kg n++t)=some (hO n,t):=by
 have e:=h.many;have f:=h.points;simp only[kg,zc];rw[iZ,iu h.phase];simp only;rw[ly,(kB ej 4).full (iL n) _ ⟨rfl,h.black⟩];simp only;rw[lz,iu h.white];simp only;rw[kj,pH ob h.spots (by unfold bW;omega) (c _)];simp only;rw[lA,(kB ej 3).full (iO n) _ ⟨rfl,h.gains⟩];simp only;rw[lB,(kB ej 9).full (iU n) _ ⟨rfl,h.matrix⟩];simp only;rw[kk,pH ob h.curve (by unfold bW;omega) (d _)];simp only;rw[lC,iu h.amount];rfl
theorem pi {α:Type} {f:α->List UInt8} (b:∀a,1<=(f a).length) (l:List α) (t:List UInt8):l.length<=(l.flatMap f++t).length:=by
 induction l with
 | nil=>simp
 | cons a l ih =>
  have:=b a;simp only[List.flatMap_cons,zc,List.length_cons,ys] at ih |-;omega
theorem xg {c d e f:List UInt8->Nat} {r:av} (h:gq r) (g:∀t,r.lens.length<=c (r.lens.flatMap bR++t)) (i:∀t,r.strips.length<=d (r.strips.flatMap ez++t)) (a:∀t,r.plan.spots.length<=e (r.plan.spots.flatMap ep++t)) (j:∀t,r.plan.curve.length<=f (r.plan.curve.flatMap ep++t)) :
  gI c d e f (fm r)=some (eF r):=by
 have y:=h.head.w;have o:=h.head.h;have n:=h.head.depth;have p:=h.head.kind;have u:=h.head.rows;have q:=h.lens_le;have v:r.strips.length<=64:=by have:=h.many;have:=h.head.cnt_le;omega
 have m:=h.strip_le;have k:∀x∈r.lens,bW x:=by
  intro x b;have:=h.head.lens;unfold iQ at this;split at this
  ·split at this
   ·rename_i h0;rw[xe h0] at b;cases b
   ·cases this
  ·obtain ⟨_,_,a,_⟩:=fW this;have:=zo.1 a x b;simp only[jw,decide_eq_true_eq] at this;unfold bW;omega
 rw[gI,fm,nv.full gc _ dD];simp only[pq,List.flatMap_cons,List.flatMap_nil,List.append_nil,zc,if_true];rw[ju,iu (by unfold bW;omega)];simp only;rw[jv,iu (by unfold bW;omega)];simp only;rw[ll,iu (by unfold bW;omega)];simp only;rw[ln,iu (by unfold bW;omega)];simp only;rw[lq,iu (by unfold bW;omega)];simp only;rw[kz,pH ej k (by unfold bW;omega) (g _)];simp only;rw[kA,pH nv (fun s l=>by have:=m s l;unfold bW;omega) (by unfold bW;omega) (i _)];simp only;have:=DV (rB h.plan) a j [];rw[List.append_nil] at this;rw[lr,this];simp only;rw[lu,if_pos rfl];rfl
def jb (s:List UInt8):Option av:=gI List.length List.length List.length List.length s
theorem xo {r:av} (h:gq r):eI (fm r)=some (eF r):=by
 rw[eI,xg h (fun _=>h.lens_le) (fun _=>by have:=h.many;have:=h.head.cnt_le;omega) (fun _=>(rB h.plan).many) (fun _=>(rB h.plan).points)];simp only;rw[if_pos (by rw[ng];exact h.zero)]
theorem Em {r:av} (h:gq r):jb (fm r)=some (eF r) :=
 xg h (pi (fun a=>by rw[kC];omega) _) (pi (fun a=>by simp[ez,kC];omega) _) (pi (fun a=>by simp[ep,kC]) _) (pi (fun a=>by simp[ep,kC]) _)
theorem om {s:List UInt8} {r:av} (h:eI s=some r):gq r/\s=fm r:=by
 rw[eI] at h;split at h
 ·cases h
 ·rename_i r' h1;split at h
  ·rename_i h2;cases h
   exact ⟨lw h2,xh h1⟩
  ·cases h
theorem EA {s:List UInt8} {r:av} (h:jb s=some r) (a:bU r=0):eI s=some (eF r):=by
 rw[xh h];exact xo (lw a)
theorem xd {s:List UInt8} {r:av} (h:eI s=some r):jb s=some (eF r):=by
 obtain ⟨a,rfl⟩:=om h;exact Em a
theorem xn {s:List UInt8} (h:jb s=none):eI s=none:=by
 cases h1:eI s with
 | none=>rfl
 | some r=>rw[xd h1] at h;cases h
theorem Ez {s:List UInt8} {r:av} (h:jb s=some r) (a:bU r≠0):eI s=none:=by
 cases h1:eI s with
 | none=>rfl
 | some r' =>
  rw[xd h1] at h;cases h
  rw[ng] at a;exact absurd (om h1).1.zero a
theorem Ea {d:Int} (h:d<=16):(2:Int) ^ d.toNat-1<=65535:=by
 have:(2:Nat) ^ d.toNat<=2 ^ 16:=Nat.pow_le_pow_right dD oM;have e:(2:Int) ^ d.toNat=((2 ^ d.toNat:Nat):Int):=sS;omega
theorem F8 {r:av} (h:bJ r) {s:List UInt8} {n:Int} (a:stE r s n=0):∀z∈ey r s n,0<=z/\z<=65535:=by
 have i:=Ea h.depth.2;intro z c;by_cases b:r.kind=0
 ·rw[stE,if_pos b] at a;rw[ey,stE,if_pos b,if_pos a,if_pos b] at c;have d:=(wg (Dz a).1).2.2;obtain ⟨_,_,f,g⟩:=of_decide_eq_true (zo.1 d z c);generalize (2:Int) ^ r.depth.toNat=T at *;omega
 ·rw[ey,if_pos a,if_neg b] at c;rw[stE,if_neg b] at a;have e:gd r.depth (cD s r.w n r.kind r.lens)=true:=by
   split at a
   ·split at a
    ·assumption
    ·cases a
   ·rename_i h1;exact absurd a h1
  have:=of_decide_eq_true (zo.1 e z c);omega
theorem wI {r:av} (h:bJ r):∀k,k<=aV r->fE r k=true->((cz r k).length:Int)=(if (k:Int)*r.rows<r.h then (k:Int)*r.rows else r.h)*r.w
 | 0,_,_=>by
  have:=h.h
  rw[if_pos sO]
  simp[cz]
 | k+1,hk,hs=>by
  rw[ox,yb] at hs
  have a:=wI h k oM hs.1
  have b:=pt h (show k<aV r from oM) (of_decide_eq_true hs.2)
  have c:=(h.cnt_pos k).1 oM
  have d:=h.rows
  rw[oe,ys,Int.natCast_add,a,b,if_pos c,<-Int.add_mul]
  congr 1
  have e:((k+1:Nat):Int)*r.rows=(k:Int)*r.rows+r.rows:=by rw[Int.natCast_add,Int.add_mul];simp
  rw[e]
  unfold aE
  generalize (k:Int)*r.rows=q at *
  split<;>omega
theorem wJ {r:av} (h:bJ r):∀k,k<=aV r->fE r k=true->∀z∈cz r k,0<=z/\z<=65535
 | 0,_,_,z,a=>by simp[cz] at a
 | k+1,hk,hs,z,a=>by
  rw[ox,yb] at hs
  rw[oe] at a
  rcases List.mem_append.1 a with a|a
  ·exact wJ h k oM hs.1 z a
  ·exact F8 h (of_decide_eq_true hs.2) z a
theorem xx {r:av} (h:gq r) (a:bU r=0):dz r.plan (dk r) (db r) (ed r) (db r)=0:=by
 have e:dk r=r.w/\db r=r.h/\ed r=cz r r.strips.length:=by
  unfold dk db ed;rw[if_pos a,if_pos a,if_pos a];exact ⟨rfl,rfl,rfl⟩
 obtain ⟨c,d,f⟩:=e;rw[c,d,f];have b:=wI h.head r.strips.length (by rw[h.many];exact ko _) h.strips;have j:¬((r.strips.length:Nat):Int)*r.rows<r.h:=by
  rw[h.many];intro g;have:=(h.head.cnt_pos (aV r)).2 g;omega
 rw[if_neg j] at b;have i:=wJ h.head r.strips.length (by rw[h.many];exact ko _) h.strips;have n:=h.head.w;have m:=h.head.h;have k:a7 r.w r.h (cz r r.strips.length)=true:=by
  simp only[a7,aM,yb,decide_eq_true_eq];refine ⟨⟨⟨oM,oM⟩,by rw[b,Int.mul_comm]⟩,?_⟩;exact zo.2 fun z l=>by have:=i z l;simp[mu];omega
 rw[dz,if_pos h.plan,if_pos k,if_pos h.spots]
theorem uT {r:av} {b a:Int} {zs:List Int} (h:kx r b a zs=true):a7 b a zs=true/\b=r.w/\a=r.h/\gd r.depth zs=true:=by
 simp only[kx,yb,decide_eq_true_eq] at h;exact ⟨h.1.1.1,h.1.1.2,h.1.2,h.2⟩
theorem uN (r:av) (zs:List Int) (k:Nat):(gE r zs k).length=k:=by simp[gE]
theorem AN (r:av) (zs:List Int) {k i:Nat} (h:i<k):(gE r zs k).getD i []=ks r (dv r zs i) (aE r i):=by
 simp[gE,h]
theorem AL {r:av} {zs:List Int} {k n:Nat} (a:DS r zs n=true) (h:k<n):iC r (dv r zs k) (aE r k)=0:=by
 have:=zo.1 a k (List.mem_range.2 h);simpa using this
theorem Ga {r:av} (h:bJ r) {k:Nat} (o:k<aV r) {g f:Int} {zs:List Int} (n:kx r g f zs=true) (b:iC r (dv r zs k) (aE r k)=0) :
  stE r (ks r (dv r zs k) (aE r k)) (aE r k)=0/\ey r (ks r (dv r zs k) (aE r k)) (aE r k)=dv r zs k:=by
 obtain ⟨s,rfl,rfl,l⟩:=uT n;have p:=ws h o (eT s).2.2.1;unfold iC at b;unfold ks;by_cases c:r.kind=0
 ·rw[if_pos c] at b |-;obtain ⟨d,a⟩:=GV b;rw[p] at d a;obtain ⟨i,j⟩:=oy c (kF (dv r zs k) r.depth) (aE r k);exact ⟨i.trans d,j.trans a⟩
 ·rw[if_neg c] at b |-;obtain ⟨d,a,_,_⟩:=EN b;have m:gd r.depth (dv r zs k)=true:=zo.2 fun z q=>zo.1 l z (rU q);have e:stE r (ch r.w (aE r k) (dv r zs k) r.kind r.lens) (aE r k)=0:=by
   rw[stE,if_neg c,if_pos d,a,if_pos m]
  exact ⟨e,by rw[ey,if_pos e,if_neg c,a]⟩
theorem DH {r:av} (h:bJ r) {zs:List Int} (g:(zs.length:Int)=r.w*r.h) (k:Nat) (f:k<=aV r):(zB k).flatMap (fun i=>dv r zs i)=zs.take (if k=aV r then zs.length else eH r k):=by
 induction k with
 | zero =>
  have:aV r≠0:=by
   have:=(h.cnt_pos 0).2 (by have:=h.h;simp;omega);omega
  rw[if_neg (fun e=>this e.symm)];simp[eH]
 | succ k ih =>
  have b:k<aV r:=f;have c:=ih oM;rw[if_neg oM] at c;rw[List.range_succ,List.flatMap_append,c,List.flatMap_singleton,dv];have m:=H6 h b;have n:=h.size b;rw[Int.mul_comm r.w] at g;have e:zs.take (eH r k)++(zs.drop (eH r k)).take (aE r k*r.w).toNat=zs.take (eH r k+(aE r k*r.w).toNat):=by
   rw[List.take_add]
  rw[e];by_cases a:k+1=aV r
  ·rw[if_pos a,List.take_length,List.take_of_length_le];have d:aE r k=r.h-k*r.rows:=by
    have l:=(not_congr (h.cnt_pos (k+1))).1 oM;have e:((k+1:Nat):Int)*r.rows=k*r.rows+r.rows:=(by rw[Int.natCast_add,Int.add_mul];simp);unfold aE;omega
   have j:(eH r k:Int)+aE r k*r.w=r.h*r.w:=by
    rw[oc h,d,<-Int.add_mul];congr 1;omega
   omega
  ·rw[if_neg a];have:=ww h (show k+1<aV r from oM);congr 1;omega
theorem BI {r:av} (h:bJ r) (zs:List Int):bJ (cZ r zs):=⟨h.w,h.h,h.depth,h.rows,h.kind,h.lens⟩
theorem A7 {r:av} {d c:Int} {zs:List Int} (h:io r d c zs=0):gq (cZ r zs)/\ed (cZ r zs)=zs/\d=r.w/\c=r.h/\dk (cZ r zs)=d/\db (cZ r zs)=c:=by
 unfold io at h;split at h
 ·rename_i h1;split at h
  ·rename_i h2;split at h
   ·rename_i h3;split at h
    ·rename_i h4;have f:=nU h1;obtain ⟨n,rfl,rfl,o⟩:=uT h3;have l:∀k,k<aV r->stE (cZ r zs) (cK (cZ r zs) k) (aE (cZ r zs) k)=0/\ey (cZ r zs) (cK (cZ r zs) k) (aE (cZ r zs) k)=dv r zs k:=by
      intro k a;have e:cK (cZ r zs) k=ks r (dv r zs k) (aE r k):=AN r zs a;rw[e];exact Ga f a h3 (AL h4 a)
     have m:fE (cZ r zs) (aV r)=true:=zo.2 fun k a=>by
      rw[decide_eq_true_eq];exact (l k (List.mem_range.1 a)).1
     have j:cJ r.plan=0/\cP r.w r.h r.plan.spots=true:=by
      unfold cU at h2;split at h2
      ·rename_i h5;split at h2
       ·rename_i h6;exact ⟨h5,h6⟩
       ·cases h2
      ·rename_i h5;exact absurd h2 h5
     have g:(cZ r zs).strips.length=aV r:=uN r zs (aV r);have b:gq (cZ r zs):=⟨BI f zs,g,j.1,j.2,by rw[g];exact m⟩;refine ⟨b,?_,rfl,rfl,by rw[dk,if_pos b.zero];rfl,by rw[db,if_pos b.zero];rfl⟩;rw[ed,if_pos b.zero,g];have:cz (cZ r zs) (aV r)=(zB (aV r)).flatMap fun i=>dv r zs i:=by
      unfold cz;rw[List.flatMap_def,List.flatMap_def];congr 1;exact List.map_congr_left fun k a=>(l k (List.mem_range.1 a)).2
     rw[this,DH f (eT n).2.2.1 _ (ko _),if_pos rfl,List.take_length]
    ·cases h
   ·cases h
  ·rename_i h2;exact absurd h h2
 ·rename_i h1;exact absurd h h1
def kW (r:av):av:={ r with strips:=[] }
theorem ap.cell {w:World} {v:Value} {xs:List Int} {B k i:Nat} {u:Value} (h:ap w v xs) (c:ar B v) (d:k<B):ap (w.setCell ⟨k,i,none⟩ u) v xs:=h.other (by simp[World.setCell]) (fun b a=>kG _ _ _ _ (fun e=>a e)) (c.ne d)
theorem bo.cell {w:World} {v:Value} {xs:List Pt} {B k i:Nat} {u:Value} (h:bo w v xs) (c:ar B v) (d:k<B):bo (w.setCell ⟨k,i,none⟩ u) v xs:=h.other (by simp[World.setCell]) (fun b a=>kG _ _ _ _ (fun e=>a e)) (c.ne d)
theorem mQ {g:Nat} {t:TypeId} {a:List Value} {w:World} (h:bx g t a w) (i:Nat) (v:Value):bx g t (a.set i v) (w.setCell ⟨g,i,none⟩ v):=by
 unfold bx at h |-;simp[World.setCell,Array.getElem?_modify,h]
theorem yX (r:av) (lv tv sv cv:Value) (w:World) (t:cR w r lv tv sv cv) (g1:r.lens.length<=1000000) (g2:r.plan.spots.length<=1000000) (g3:r.plan.curve.length<=1000000) :
  Calls prog 67 #[.agg (aC r lv tv sv cv)] w fun e w'=>∃L X I,e=.returned (.agg (aC (kW r) L (J none 0 0) X I))/\cR w' (kW r) L (J none 0 0) X I/\Below w.heap.size w w'/\ar w.heap.size L/\ar w.heap.size X/\ar w.heap.size I/\bI w' L/\bI w' I:=by
 have HL:=qH t.lens;have HS:=qH t.plan.spots;have HC:=qH t.plan.curve;obtain ⟨lo,lc,rfl,_,_⟩:=t.lens;obtain ⟨tp,tc,rfl,_,_⟩:=t.strips;obtain ⟨N,M,rfl,_,_⟩:=t.plan.spots;obtain ⟨z,y,rfl,_,_⟩:=t.plan.curve;obtain ⟨a1,a2,HB⟩:=gr w (ka (aC r (J lo r.lens.length lc) (J tp r.strips.length tc) (J N r.plan.spots.length M) (J z r.plan.curve.length y)) 57) (ka ay 57);have q:=lS a1;have V:=lS a2;obtain ⟨s0,s1,s2,s3,s4,s5,s6,s13,s26⟩:=eJ a1;clear t;go_enter func67,ntmps67;go_wp2_with fail
 clear s0 s1 s2 s3 s4 s5 s6 s13 s26;generalize (w.alloc _).alloc _=U at *;refine (zI _ r.lens U (HL.1.below HB.1 (ko _)) g1).mono ?_;rintro e m ⟨L,rfl,hI1,T,n,hE1⟩;have P:bx w.heap.size 57 (aC r (J lo r.lens.length lc) (J tp r.strips.length tc) (J N r.plan.spots.length M) (J z r.plan.curve.length y)).toList m:=(T.block _ q).trans a1;have z1:m.heap[w.heap.size+1]?=some (.cells ay 57 (0,0)):=(T.block _ V).trans a2;have c5:m.cell? ⟨w.heap.size,5,none⟩=some (J lo r.lens.length lc):=kh P _;have f5:m.frozen? ⟨w.heap.size,5,none⟩=false:=kf P _;have HI1:=qH hI1;obtain ⟨b,a,rfl,_,_⟩:=hI1;have Q:=mQ P 5 (J b r.lens.length a);have c6:(m.setCell ⟨w.heap.size,5,none⟩ (J b r.lens.length a)).cell? ⟨w.heap.size,6,none⟩=some (J tp r.strips.length tc):=kh Q _;have f6:(m.setCell ⟨w.heap.size,5,none⟩ (J b r.lens.length a)).frozen? ⟨w.heap.size,6,none⟩=false:=kf Q _;have F:=mQ Q 6 (J none 0 0);have F:bx w.heap.size 57 (aC (kW r) (J b r.lens.length a) (J none 0 0) (J N r.plan.spots.length M) (J z r.plan.curve.length y)).toList ((m.setCell ⟨w.heap.size,5,none⟩ (J b r.lens.length a)).setCell ⟨w.heap.size,6,none⟩ (J none 0 0)):=F;have hkk:∀k,k≠w.heap.size->((m.setCell ⟨w.heap.size,5,none⟩ (J b r.lens.length a)).setCell ⟨w.heap.size,6,none⟩ (J none 0 0)).heap[k]?=m.heap[k]?:=fun k o=>(kG _ _ _ _ (fun e=>o e)).trans (kG _ _ _ _ (fun e=>o e));have z2:=(hkk (w.heap.size+1) oM).trans z1;have c13:((m.setCell ⟨w.heap.size,5,none⟩ (J b r.lens.length a)).setCell ⟨w.heap.size,6,none⟩ (J none 0 0)).cell? ⟨w.heap.size,13,none⟩=some (J N r.plan.spots.length M):=kh F _;have HI2:=qH ((HI1.1.cell (k:=w.heap.size) (i:=5) (u:=J b r.lens.length a) n q).cell (k:=w.heap.size) (i:=6) (u:=J none 0 0) n q);have HE2:=qH ((hE1.cell (k:=w.heap.size) (i:=5) (u:=J b r.lens.length a) n q).cell (k:=w.heap.size) (i:=6) (u:=J none 0 0) n q);have HB2:=qH (((aG HB.1 T).setCell (p:=⟨w.heap.size,5,none⟩) (ko _) (J b r.lens.length a)).setCell (p:=⟨w.heap.size,6,none⟩) (ko _) (J none 0 0));have hsz:=T.size;have O:=qH (show U.heap.size<=((m.setCell ⟨w.heap.size,5,none⟩ (J b r.lens.length a)).setCell ⟨w.heap.size,6,none⟩ (J none 0 0)).heap.size by simp[World.setCell];exact hsz);clear P Q z1 hkk;go_wp2_with fail
 clear c5 f5 c6 f6 c13;generalize (m.setCell _ _).setCell _ _=W2 at *;refine (zM _ r.plan.spots W2 (HS.1.below HB2.1 (ko _)) g2).mono ?_;rintro e s ⟨X,rfl,hI3,B,K⟩;have HI3:=qH hI3;obtain ⟨j,f,rfl,_,_⟩:=hI3;have W:w.heap.size<W2.heap.size:=kv q O.1;have R:bx w.heap.size 57 _ s:=(B.block _ W).trans F;have z4:s.heap[w.heap.size+1]?=some (.cells ay 57 (0,0)):=(B.block _ (lS z2)).trans z2;have HL4:=qH (HI2.1.below B (ko _));have HE4:=qH (HE2.1.below B (ko _));have c13:s.cell? ⟨w.heap.size,13,none⟩=some (J N r.plan.spots.length M):=kh R _;have f13:s.frozen? ⟨w.heap.size,13,none⟩=false:=kf R _;have H:=mQ R 13 (J j r.plan.spots.length f);have H:bx w.heap.size 57 (aC (kW r) (J b r.lens.length a) (J none 0 0) (J j r.plan.spots.length f) (J z r.plan.curve.length y)).toList (s.setCell ⟨w.heap.size,13,none⟩ (J j r.plan.spots.length f)):=H;have z5:=(kG s ⟨w.heap.size,13,none⟩ (J j r.plan.spots.length f) (w.heap.size+1) (show w.heap.size+1≠w.heap.size from oM)).trans z4;have c26:(s.setCell ⟨w.heap.size,13,none⟩ (J j r.plan.spots.length f)).cell? ⟨w.heap.size,26,none⟩=some (J z r.plan.curve.length y):=kh H _;have HL5:=qH (HL4.1.cell (k:=w.heap.size) (i:=13) (u:=J j r.plan.spots.length f) n q);have HE5:=qH (HE4.1.cell (k:=w.heap.size) (i:=13) (u:=J j r.plan.spots.length f) n q);have HS5:=qH (HI3.1.cell (k:=w.heap.size) (i:=13) (u:=J j r.plan.spots.length f) K W);have HB5:=qH ((aG HB2.1 B).setCell (p:=⟨w.heap.size,13,none⟩) (ko _) (J j r.plan.spots.length f));have aa:=qH (show W2.heap.size<=(s.setCell ⟨w.heap.size,13,none⟩ (J j r.plan.spots.length f)).heap.size by simp[World.setCell];exact B.size);clear R z4 F z2;go_wp2_with fail
 clear c13 f13 c26;generalize s.setCell _ _=W4 at *;refine (zK _ r.plan.curve W4 (HC.1.below HB5.1 (ko _)) g3).mono ?_;rintro e x ⟨I,rfl,hI5,C,D,hE5⟩;have HI5:=qH hI5;obtain ⟨d,c,rfl,_,_⟩:=hI5;have hl5:w.heap.size<W4.heap.size:=kv W aa.1;have S:bx w.heap.size 57 _ x:=(C.block _ hl5).trans H;have z6:x.heap[w.heap.size+1]?=some (.cells ay 57 (0,0)):=(C.block _ (lS z5)).trans z5;have c26:x.cell? ⟨w.heap.size,26,none⟩=some (J z r.plan.curve.length y):=kh S _;have f26:x.frozen? ⟨w.heap.size,26,none⟩=false:=kf S _;have b7:=mQ S 26 (J d r.plan.curve.length c);obtain ⟨l,A⟩:=eX (aC (kW r) (J b r.lens.length a) (J none 0 0) (J j r.plan.spots.length f) (J d r.plan.curve.length c));have b7:(x.setCell ⟨w.heap.size,26,none⟩ (J d r.plan.curve.length c)).heap[w.heap.size]?=some (.cells l 57 (0,0)):=by rw[<-A];exact b7
 have z7:=(kG x ⟨w.heap.size,26,none⟩ (J d r.plan.curve.length c) (w.heap.size+1) (show w.heap.size+1≠w.heap.size from oM)).trans z6;have HL7:=qH ((HL5.1.below C (ko _)).cell (k:=w.heap.size) (i:=26) (u:=J d r.plan.curve.length c) n q);have HE7:=qH ((HE5.1.below C (ko _)).cell (k:=w.heap.size) (i:=26) (u:=J d r.plan.curve.length c) n q);have HS7:=qH ((HS5.1.below C (ko _)).cell (k:=w.heap.size) (i:=26) (u:=J d r.plan.curve.length c) K W);have HC7:=qH (HI5.1.cell (k:=w.heap.size) (i:=26) (u:=J d r.plan.curve.length c) D hl5);have HG7:=qH (hE5.cell (k:=w.heap.size) (i:=26) (u:=J d r.plan.curve.length c) D hl5);have HB7:=qH ((aG HB5.1 C).setCell (p:=⟨w.heap.size,26,none⟩) (ko _) (J d r.plan.curve.length c));have i1:(prog.info? 57).map (·.size)=some l.size:=by rw[<-A];kernel_rfl
 have i2:(ay:Array Value).size=l.size:=by rw[<-A];rfl
 have i3:l.all (·.oneCell')=true:=by rw[<-A];simp[Value.oneCell']
 have HRA:=qH A;clear A S z6 H z5;go_upto_region 5 with fail
 clear c26 f26;generalize x.setCell _ _=E at *;have HG:=qH (setRow_heap _ _ _ l _ _ z7);have o:∀k,k≠w.heap.size+1->(E.setRow (w.heap.size+1) l).heap[k]?=E.heap[k]?:=fun k o=>setRow_other _ _ _ _ o;have HBF:=qH (below_setRow (g:=w.heap.size+1) HB7.1 (Nat.le_succ _) l);have hu2:w.heap.size+1<U.heap.size:=V;have HIF:=qH (show cR (E.setRow (w.heap.size+1) l) (kW r) (J b r.lens.length a) (J none 0 0) (J j r.plan.spots.length f) (J d r.plan.curve.length c) from
  ⟨HL7.1.other (k:=w.heap.size+1) sS o (n.ne V),fv.nil _,HS7.1.other (k:=w.heap.size+1) sS o (K.ne (by have:=O.1;omega)),HC7.1.other (k:=w.heap.size+1) sS o (D.ne (by have:=O.1;have:=aa.1;omega))⟩)
 have HFE:=qH (show bI (E.setRow (w.heap.size+1) l) (J b r.lens.length a)/\bI (E.setRow (w.heap.size+1) l) (J d r.plan.curve.length c) from ⟨HE7.1.other o (n.ne V),HG7.1.other o (D.ne (by have:=O.1;have:=aa.1;omega))⟩);have Y:=qH (show ar w.heap.size (J b r.lens.length a)/\ar w.heap.size (J j r.plan.spots.length f)/\ar w.heap.size (J d r.plan.curve.length c) from ⟨n.mono oM,K.mono oM,D.mono oM⟩);clear HL7 HS7 HC7 n K D o;go_wp2_with (first|refine wpList_load_row rfl 57 _ rfl _ rfl _ _ _ _ b7 underlying57 rfl i1 ?_|refine wpList_store_row rfl 57 _ _ rfl (w.heap.size+1) l rfl rfl _ _ z7 i1 i2 i3 ?_)
 refine bodyPost_ret (v:=.agg l) (results_cell_row results67 _ _ _ _ _ _ _ rfl HG.1 underlying57 rfl i1) rfl ⟨_,_,_,by rw[HRA.1],HIF.1,HBF.1,Y.1.1,Y.1.2.1,Y.1.2.2,HFE.1⟩
theorem wb {w w':World} {base:Nat} {e:TypeId} {b:Nat} {v:Value} {n:Nat} {xs:List Value} (h:w.ownsRow base e b v n xs) (i:∀g,v.ownBlock=some g->w'.heap[g]?=w.heap[g]?):w'.ownsRow base e b v n xs:=by
 refine ⟨h.1,?_⟩;rcases h.2 with h|⟨g,cap,c,a,d,f,r⟩
 ·exact .inl h
 ·exact .inr ⟨g,cap,c,a,d,(i g (by rw[a];rfl)).trans f,r⟩
abbrev iE:=TypeId×Nat×Value×Nat×List Value
theorem tO {h g:TypeId} {r:Nat} (s:g≠h) {V w1 w:World} {B base PB i:Nat} {f:List Value} {d:Option Addr} {c k m:Nat} {a:Value} {xs y:List Value}
  (q:bx PB g f V) (C:f[i]?=some (J d k c)) (v:V.ownsRow base h r (J d k c) k xs) (H:Below B w V) (z:B<=base) (A:B<=PB) (F:B<=V.heap.size)
  (t:V.grownBy w1 (J d k c).ownBlock) (u:w1.ownsRow base h r a m y) :
  w1.cell? ⟨PB,i,none⟩=some (J d k c)/\w1.frozen? ⟨PB,i,none⟩=false/\bx PB g (f.set i a) (w1.setCell ⟨PB,i,none⟩ a)/\(w1.setCell ⟨PB,i,none⟩ a).ownsRow base h r a m y /\
   Below B w (w1.setCell ⟨PB,i,none⟩ a)/\(∀b,b<V.heap.size->some b≠(J d k c).ownBlock->b≠PB->(w1.setCell ⟨PB,i,none⟩ a).heap[b]?=V.heap[b]?):=by
 have x:∀b,b<V.heap.size->some b≠(J d k c).ownBlock->w1.heap[b]?=V.heap[b]?:=fun b n o=>t.block b n o;have l:bx PB g f w1:=(x PB q.lt (aW v q s)).trans q;refine ⟨by rw[kh l];simpa using C,kf l i,mQ l i a,ownsRow_setCell_other u (fun e=>aW u l s e.symm) _,?_,fun b n o E=>(kG _ _ _ _ E).trans (x b n o)⟩;exact (H.grown t F (fun j D=>kw z (v.lt j D).1)).setCell (p:=⟨PB,i,none⟩) A _
theorem fv.own {w:World} {base:Nat} {v:Value} {ts:List (List UInt8)} (h:w.ownsRow base 9 1 v ts.length (ts.map bH)) (b:ts.length<=9223372036854775807):fv w v ts:=by
 rcases h.2 with ⟨a,c⟩|⟨g,cap,f,a,_,d,_⟩
 ·exact ⟨none,0,by rw[a,c],b,.inl (xe c)⟩
 ·refine ⟨_,cap,a,b,.inr ⟨g,0,rfl,(lS d),fun j e=>?_⟩⟩;subst a;rw[Nat.zero_add,h.cellAt j oM];simp[e,bH]
theorem xl {c:Func} (i:c.results=#[.cell 4 57,.tmp 5]) (a:Array Value) (R:Nat) (b:Array Value) (z:Value) (W:World) (d:a.getD 4 undef=.pointer (some ⟨R,0,none⟩)) (f:a.getD 5 undef=z)
  (h:W.heap[R]?=some (.cells b 57 (0,0))) (k:(prog.info? 57).map (·.size)=some b.size) :
  (results c a).run prog W=.ok (.tuple #[.agg b,z]) W:=by
 have j:=run_loadVar_row (P:=prog) W R 57 57 b (0,0) _ h underlying57 rfl k;have e:a[4]?.getD undef=.pointer (some ⟨R,0,none⟩):=by simpa using d
 have g:a[5]?.getD undef=z:=by simpa using f
 simp[results,i,e,g,asAddr,j]
theorem Fq (P:Program) (t e:TypeId) (d:P.underlying t=some (.slice (P.elem t))) (b:∀w,(sizeOf (P.elem t)).run P w=.ok 1 w) (a:Addr) (n c M:Nat) (h:M<=n) (w:World) :
  (Instr.slice t (J (some a) n c) (some (Z G M)) none none).run P w=.ok (J (some (if c=M then a else a.add M)) (n-M) (c-M)) w:=by
 rw[run_slice_l w t (some a) n c d .i64 M oM oM,b];simp only[Result.andThen,sliced,xc,Nat.mul_one,Option.map_some];split<;>simp_all
theorem Fy (P:Program) (t e:TypeId) (d:P.underlying t=some (.slice (P.elem t))) (a:∀w,(sizeOf (P.elem t)).run P w=.ok 1 w) (b o n c M:Nat) (h:M<=c) (w:World) :
  (Instr.slice t (J (some ⟨b,o,none⟩) n c) none (some (Z G M)) none).run P w=.ok (J (some ⟨b,o,none⟩) M c) w:=by
 rw[run_slice_h w t (some ⟨b,o,none⟩) n c d .i64 M oM oM,a];simp only[Result.andThen,sliced,xc,Nat.zero_mul,Nat.sub_zero,Option.map_some];split<;>simp_all[Addr.add_lit]
theorem DF {w:World} {zs:List Int} {a off ca P M:Nat} (c:∀j,j<zs.length->w.cell? ⟨a,off+j,none⟩=some (Z G (aN zs j))) (b:a<w.heap.size) (h:P+M<=zs.length) (f:zs.length<=4096):ap w (J (some ⟨a,off+P,none⟩) M (ca-P)) ((zs.drop P).take M):=by
 have d:((zs.drop P).take M).length=M:=by rw[List.length_take,List.length_drop];omega
 refine ⟨_,_,by rw[d],oM,.inr ⟨a,_,rfl,b,fun j e=>?_⟩⟩;rw[Nat.add_assoc,c (P+j) oM];simp[aN,List.getD_eq_getElem?_getD,show P+j<zs.length from oM]
def mD (r:av) (zs:List Int) (d e c:Value) (a k:Nat) (U wr:World):Prop :=
 ∃(b:Option Addr) (cap:Nat),DS r zs k=true/\bx a 57 (aC r d (J b k cap) e c).toList wr/\wr.ownsRow a 9 1 (J b k cap) k ((gE r zs k).map bH)/\Below a U wr
theorem mD.below {r:av} {zs:List Int} {e f d:Value} {c k:Nat} {U wr V:World} (h:mD r zs e f d c k U wr) (b:Below wr.heap.size wr V):mD r zs e f d c k U V:=by
 obtain ⟨l,cap,g,a,i,j⟩:=h;exact ⟨l,cap,g,(b.block _ a.lt).trans a,cT i b,j.trans (b.mono (zO a.lt))⟩
theorem Es (r:av) (N P O I:Value) (s q:Int) (v:Value) (zs:List Int) (w:World) (hr:cR w r N P O I) (hv:ap w v zs) (hroom:lI v) (S:io r s q zs=0) (hkn:¬r.kind=0) :
  Calls prog 19 #[.agg (aC r N P O I),.agg #[Z G s,Z G q,v]] w fun e w'=>Below w.heap.size w w'/\((io r s q zs=0/\∃o tv' x d,e=.returned (.tuple #[.agg (aC (cZ r zs) o tv' x d),Z G 0])/\cR w' (cZ r zs) o tv' x d/\ar w.heap.size o/\ar w.heap.size tv'/\ar w.heap.size x/\ar w.heap.size d/\bI w' o/\bI w' d) \/
   (io r s q zs≠0/\e=.returned (.tuple #[.agg ay,Z G (io r s q zs)]))):=by
 have HR:=qH hr;have HV:=qH hv;have HCH:=qH (fun (u:World) (f:Below w.heap.size w u)=>ue r N P O I u (HR.1.lens.below f (ko _)));have HCP:=qH (fun (u:World) (f:Below w.heap.size w u)=>xi r N P O I u (HR.1.plan.below f (ko _)));have HPL:=qH (fun (u:World) (f:Below w.heap.size w u)=>ki s q v zs u (HV.1.below f (ko _)));have HDP:=qH (fun (hd:1<=r.depth/\r.depth<=16) (u:World) (f:Below w.heap.size w u)=>u3 v zs r.depth u hd (HV.1.below f (ko _)));have HBA:=qH (fun (u:World) (f:Below w.heap.size w u) t Q g3=>yX r N P O I u (HR.1.below f (ko _)) t Q g3);have HSC0:=qH (fun (u:World) (h:bJ r)=>xP r N P O I u h);have HSR0:=qH (fun (k:Nat) (u:World) (h:bJ r) (hk:k<aV r)=>xQ r N P O I k u h hk);have HWS0:=qH (fun (v':Value) (l:List Int) (n:Int) (u:World) (f:Below w.heap.size w u) (hv':ap u v' l)=>Hv r N P O I v' l n u (HR.1.lens.below f (ko _)) hv' hkn);have A:=qH (show io r s q zs=if da r=0 then (if cU r=0 then (if kx r s q zs=true then (if DS r zs (aV r)=true then 0 else 4) else 1) else cU r) else da r from rfl);have HFP:=qH (show kx r s q zs=(a7 s q zs && decide (s=r.w) && decide (q=r.h) && gd r.depth zs) from rfl);have H0:=qH S;clear S hkn;generalize io r s q zs=E at *;obtain ⟨vo,vc,rfl,hvl,_⟩:=hv;have hvc:zs.length<=vc:=hroom;obtain ⟨Y,a2,a3,HB⟩:=ji w (ka (aC r N P O I) 57) (ka #[Z G s,Z G q,J vo zs.length vc] 54) (ka ay 57);have hl1:=lS Y;have hl2:=lS a2;have hl3:=lS a3;have iz:(prog.info? 57).map (·.size)=some (ay:Array Value).size:=kR;have oz:(ay:Array Value).all (·.oneCell')=true:=by simp[Value.oneCell']
 clear hr hroom;go_enter func19,ntmps19;go_wp2_with (refine wpList_load_row rfl 57 _ rfl _ rfl _ _ _ _ Y underlying57 rfl kR ?_)
 generalize ((w.alloc _).alloc _).alloc _=U at *;have HRC:=qH (fun (v:World) (h:v.heap[w.heap.size]?=some (.cells (aC r N P O I) 57 (0,0)))=>eJ h);have hi28:(prog.info? 57).map (·.size)=some ((aC r N P O I):Array Value).size:=kR;generalize (aC r N P O I)=RQ at *;refine (HCH.1 _ HB.1).mono ?_;rintro e V1 ⟨rfl,hb1⟩;by_cases hF:da r=0;rotate_left
 ·rw[if_neg hF] at A;exact absurd (A.1.symm.trans H0.1) hF
 rw[if_pos hF] at A;rw[hF];have hH:=nU hF;have F:=qH hH;have t:=(hb1.block _ hl1).trans Y;clear HCH hF;go_wp2_with (refine wpList_load_row rfl 57 _ rfl _ rfl _ _ _ _ t underlying57 rfl hi28 ?_)
 refine (HCP.1 _ (aG HB.1 hb1)).mono ?_;rintro e V2 ⟨rfl,hb2⟩;replace hb2:=aG hb1 hb2;clear t hb1;by_cases hP:cU r=0;rotate_left
 ·rw[if_neg hP] at A;exact absurd (A.1.symm.trans H0.1) hP
 rw[if_pos hP] at A;rw[hP];have HPZ:=qH hP;clear HCP hP;have Q:=(hb2.block _ hl2).trans a2;obtain ⟨p0,p1,p2⟩:=al Q;go_wp2_with fail
 clear p0 p1 p2;refine (HPL.1 _ (aG HB.1 hb2)).mono ?_;rintro e V3 ⟨rfl,L⟩;replace L:=aG hb2 L;clear Q hb2 HPL;have Q:=(L.block _ hl2).trans a2;have t:=(L.block _ hl1).trans Y;obtain ⟨p0,p1,p2⟩:=al Q;obtain ⟨s0,s1,s2,s3,s4,s5,s6,s13,s26⟩:=HRC.1 _ t;clear t Q;cases hpo:a7 s q zs
 ·have D:E=1:=by rw[A.1,HFP.1,hpo];rfl
  exact absurd (D.symm.trans H0.1) dD
 by_cases hpw:s=r.w;rotate_left
 ·have hn1:(s != r.w)=true:=by simpa using hpw
  have D:E=1:=by rw[A.1,HFP.1,decide_eq_false hpw];simp
  exact absurd (D.symm.trans H0.1) dD
 have hn1:(s != r.w)=false:=by simpa using hpw
 by_cases hph:q=r.h;rotate_left
 ·have hn2:(q != r.h)=true:=by simpa using hph
  have D:E=1:=by rw[A.1,HFP.1,decide_eq_false hph];simp
  exact absurd (D.symm.trans H0.1) dD
 have hn2:(q != r.h)=false:=by simpa using hph
 go_wp2_with fail
 refine (HDP.1 F.1.depth _ (aG HB.1 L)).mono ?_;rintro e V4 ⟨rfl,rfl⟩;cases hdo:gd r.depth zs
 ·have D:E=1:=by rw[A.1,HFP.1,hdo];simp
  exact absurd (D.symm.trans H0.1) dD
 have hfit:kx r s q zs=true:=by rw[HFP.1,hpo,hdo,decide_eq_true hpw,decide_eq_true hph];rfl
 rw[if_pos hfit] at A;have HFT:=qH hfit;obtain ⟨hW,hHh,hlen,_⟩:=eT hpo;have hsm:=fq hW hHh;have hn1':1<=zs.length:=oM;have hz4:zs.length<=4096:=oM;have HLEN:=qH (show (zs.length:Int)=r.w*r.h by rw[hlen,hpw,hph]);obtain ⟨R,off,ca,hve,hbk,hcell⟩:=HV.1.cells hn1';cases hve
 have HC:=qH hcell;clear HFP HDP hfit hpo hdo hpw hph hn1 hn2 p0 p1 p2 s0 s1 s2 s3 s4 s5 s6 s13 s26 hlen hsm hcell hW hHh hH;have t:=(L.block _ hl1).trans Y;have hle17:r.lens.length<=1000000:=by
  have:=F.1.lens;unfold iQ at this;split at this
  ·split at this
   ·omega
   ·cases this
  ·have:=(fW this).2.1;omega
 have hplz:cJ r.plan=0:=by
  have:=HPZ.1;unfold cU at this;split at this
  ·assumption
  ·exact this
 have hsp:r.plan.spots.length<=1000000:=by have:=(kK hplz).2.2.2.2.2.1;omega
 have hcu:r.plan.curve.length<=1000000:=by have:=re (kK hplz).2.2.2.2.2.2.2;omega
 go_wp2_with (refine wpList_load_row rfl 57 _ rfl _ rfl _ _ _ _ t underlying57 rfl hi28 ?_)
 clear t;refine (HBA.1 _ (aG HB.1 L) hle17 hsp hcu).mono ?_;rintro e H ⟨o,x,d,rfl,hIB,hbB,f1,f3,f4,hE1,hE4⟩;clear HBA hle17 hplz hsp hcu;have HFR:=qH (show ar U.heap.size o/\ar U.heap.size x/\ar U.heap.size d from ⟨f1.mono L.size,f3.mono L.size,f4.mono L.size⟩);replace hbB:=aG L hbB;clear L f1 f3 f4;have HIB:=qH hIB;have HEB:=qH (And.intro hE1 hE4);clear hE1 hE4;have HO:=qH (mq hIB);have HRAW:=qH (show aC (kW r) o (J none 0 0) x d=aC r o (J none 0 0) x d from rfl);obtain ⟨a,K⟩:=eX (aC (kW r) o (J none 0 0) x d);have i1:(prog.info? 57).map (·.size)=some a.size:=by rw[<-K];kernel_rfl
 have i2:(ay:Array Value).size=a.size:=by rw[<-K];rfl
 rw[K] at HO HRAW |-;have HRA:=qH K;have hos:=HO.1;clear K hIB;have z1:=aD H (ka ay 57);have c1:=setRow_heap _ _ _ a _ _ z1;have HBX:=qH (below_setRow (g:=H.heap.size) (aq H (ka ay 57)) (ko _) a);go_upto_region 10 with (refine wpList_store_row rfl 57 _ _ rfl H.heap.size a rfl rfl _ _ z1 i1 i2 hos ?_)
 clear z1;obtain ⟨z,hQX⟩:=eX H.heap.size;rw[hQX] at c1 HBX |-;have HJ0:=qH (show mD r zs o x d z 0 H ((H.alloc (ka ay 57)).setRow z a) from ⟨none,0,rfl,c1.trans (by rw[HRAW.1]),⟨by simp[gE],.inl ⟨rfl,rfl⟩⟩,HBX.1⟩);have hUQ:U.heap.size<=z:=by rw[<-hQX];exact hbB.size
 generalize (H.alloc _).setRow _ _=V5 at *;have hb5:Below U.heap.size U V5:=hbB.trans (HBX.1.mono hUQ);have HSC:=qH (fun (u:World)=>HSC0.1 u F.1);have t:=(hb5.block _ hl1).trans Y;have Q:=(hb5.block _ hl2).trans a2;obtain ⟨p0,p1,p2⟩:=al Q;have hcp:=F.1.cnt_le;have HPA:=qH (oc F.1);clear HBX c1 HO HRAW hos i1 i2 HRA;clear Q HSC0;generalize hC:aV r=C at *;have HCN:=qH hC;clear hC;go_wp2_with (refine wpList_load_row rfl 57 _ rfl _ rfl _ _ _ _ t underlying57 rfl hi28 ?_)
 refine (HSC.1 _).mono ?_;rintro e V6 ⟨rfl,hb6⟩;have HJ6:=qH (HJ0.1.below hb6);clear HJ0 t p0 p1 p2 HSC hb5;have HBU:=qH (show Below U.heap.size U H from hbB);go_wp2_with fail
 go_loopw [9,58] (fun lf i wr=>∃k:Nat,k<=C/\i=Z G k/\(∃ao m c,lf=J (some ao) m c/\(k<C->ao=⟨R,off+eH r k,none⟩/\m=zs.length-eH r k/\c=vc-eH r k))/\mD r zs o x d z k H wr) (fun _ i _=>C-(intOf i).toNat)
 case atStart=>exact ⟨0,xa _,rfl,⟨_,_,_,rfl,fun _=>by simp[eH]⟩,HJ6.1⟩
 case round =>
  clear HJ6;obtain ⟨k,hk,rfl,⟨ao,m,c,rfl,hao⟩,hJ⟩:=hrel;have HJ:=qH hJ;obtain ⟨so,cap,j1,j2,j3,j4⟩:=hJ;have hUQ2:Below U.heap.size U wr:=hbB.trans (j4.mono hUQ);by_cases hlt:k<C
  ·have hd:decide ((k:Int)<(C:Int))=true:=sO;obtain ⟨rfl,rfl,rfl⟩:=hao hlt;have hlc:k<aV r:=(by have:=HCN.1;omega);have HSR:=qH (fun (u:World)=>HSR0.1 k u F.1 hlt);have hple:=H6 F.1 hlc;have hsz:=F.1.size hlc;have hL:=HLEN.1;rw[Int.mul_comm] at hL;rw[<-hL] at hple;obtain ⟨M,hM⟩:∃M:Nat,aE r k*r.w=M:=⟨(aE r k*r.w).toNat,oM⟩;have HPR:=qH (show dv r zs k=(zs.drop (eH r k)).take M by rw[dv,hM,xc]);have HNX:=qH (show k+1<C->eH r (k+1)=eH r k+M/\eH r k+M<zs.length from fun h=>by
    have hc2:k+1<aV r:=(by have:=HCN.1;omega);have e1:=ww F.1 hc2;have e2:=H6 F.1 hc2;have e3:=F.1.size hc2;rw[hM] at e1;rw[<-hL] at e2;omega)
   have HEI:=qH (Hw F.1 hlc HFT.1);have HFF:=qH (fun hk0=>AK (r:=r) (zs:=zs) hlc hk0);have HFS:=qH (AO r zs k);have HOK:=qH (show iC r (dv r zs k) (aE r k)=0->DS r zs (k+1)=true from fun S=>by rw[AM,j1,S];rfl);rw[hM] at hple hsz;generalize aE r k=RN at *;generalize hPP:eH r k=PP at *;clear hPP;have hwm:IntKind.i64.wrap (M:Int)=M:=IntWalk.i64_in _ oM;have hpm:PP+M<=zs.length:=oM;have hM1:1<=M:=oM;have HII:=qH (fun (u:World) (f:Below w.heap.size w u)=>DF (ca:=vc) (fun j hj=>(f.cell (p:=⟨R,off+j,none⟩) hbk).trans (HC.1 j hj)) (kv hbk f.size) hpm hz4);rw[<-HPR.1] at HII;generalize dv r zs k=PT at *;have HWS:=qH (fun (u:World) (f:Below w.heap.size w u)=>HWS0.1 _ PT RN u f (HII.1 u f));obtain ⟨NP,hNP⟩:=eX (zs.length-PP);obtain ⟨W,hCP⟩:=eX (vc-PP);obtain ⟨OP,hOP⟩:=eX (off+PP);rw[hCP,hOP] at HWS;rw[hNP,hCP,hOP];have hMC:M<=W:=oM;have hMN:M<=NP:=oM;have HOP:=qH hOP;have HNP:=qH hNP;have HCP2:=qH hCP;clear hOP hNP hCP hL hple hsz hao;have hsl1:∀V:World,(Instr.slice 52 (J (some ⟨R,OP,none⟩) NP W) none (some (Z G M)) none).run prog V=.ok (J (some ⟨R,OP,none⟩) M W) V:=fun V=>Fy prog 52 3 underlying52 (fun _=>kR) R OP NP W M hMC V;obtain ⟨AD,hAD⟩:=eX ((if W=M then (⟨R,OP,none⟩:Addr) else (⟨R,OP,none⟩:Addr).add M));have hsl2:∀V:World,(Instr.slice 52 (J (some ⟨R,OP,none⟩) NP W) (some (Z G M)) none none).run prog V=.ok (J (some AD) (NP-M) (W-M)) V:=fun V=>(by rw[<-hAD];exact Fq prog 52 3 underlying52 (fun _=>kR) ⟨R,OP,none⟩ NP W M hMN V);have HAD:=qH hAD;have HM:=qH hM;clear hAD hpm HII HPR;have hkQ:=j2.lt;have hlw:w.heap.size<wr.heap.size:=kv hl1 hUQ2.size;have t:=(hUQ2.block _ hl1).trans Y;have HS:=qH (show ∀v,Below wr.heap.size wr v->v.heap[w.heap.size]?=some (.cells RQ 57 (0,0))/\v.cell? ⟨w.heap.size,0,none⟩=some (Z G r.w) from fun v h=>⟨(h.block _ hlw).trans t,(HRC.1 v ((h.block _ hlw).trans t)).1⟩);clear j1 j2 j3 HSR0 HWS0;(go_wp2_with (refine wpList_load_row rfl 57 _ rfl _ rfl _ _ _ _ t underlying57 rfl hi28 ?_));clear t;refine (HSR.1 _).mono ?_;rintro e X1 ⟨rfl,hx1⟩;(go_upto_region 15 with fail);have hWd:Below wr.heap.size wr X1.drew:=hx1.drew;have hSd:=HS.1 _ hWd;refine cE 13 HS.1 ?_;refine dS (i:=0) (oi:=_) (v:=.agg RQ) (some 65) [] rfl rfl kR kR kR kR kR (fun _ _ _ h=>h) (Or.inl ⟨rR,?yy1⟩) hSd ?rr1
   case yy1=>(intro wq hSq;obtain ⟨hq1,hq2⟩:=hSq;exact nP 57 _ rfl _ rfl _ _ _ _ hq1 underlying57 rfl hi28)
   simp only[km,kb,kd,kc];refine ak 1 ?_;refine ak 2 ?_;refine ak 3 ?_;refine ak 7 ?_;refine ak 4 ?_;refine dS (i:=5) (oi:=_) (v:=Z G M) (some 70) [] rfl rfl kR kR kR kR kR (fun _ _ _ h=>h) (Or.inl ⟨rR,?yy7⟩) hSd ?rr7
   case yy7=>(intro wq hSq;obtain ⟨hq1,hq2⟩:=hSq;first|(go_simp;done)|(go_simp;rw[hM];try (go_simp<;>with_reducible rfl)))
   simp only[km,kb,kd,kc];refine ak 6 ?_;refine aw 8 fun K' hK=>?_;go_simp;refine (HWS.1 _ (aG HB.1 (aG hUQ2 hWd))).mono ?_;rintro e y ⟨rfl,hx2⟩;have hX2:Below wr.heap.size wr y:=aG hWd hx2;have hSd:=HS.1 _ hX2;refine hK.out _ _ hSd ?_;clear hK;(try simp only[km]);refine ak 9 ?_;refine ak 10 ?_;refine ak 11 ?_;refine aw 12 fun K' hK=>?_;go_simp;have hSd:=hSd;refine hK.out _ _ hSd ?_;clear hK;(try simp only[km]);refine aS fun K' hK=>?_;go_simp;refine hK.out _ _ ?_;clear hK;(try simp only[km]);clear hSd hWd hx1 hx2;have HJ2:=qH (HJ.1.below hX2);clear HJ HWS HSR;obtain ⟨so,cap,k1,k2,k3,k4⟩:=HJ2.1;have hUX:Below U.heap.size U y:=hbB.trans (k4.mono hUQ);by_cases S:iC r PT RN=0
   ·rw[S];obtain ⟨T,hT⟩:=eX (ks r PT RN);rw[hT] at HFS |-;clear hT;obtain ⟨i0,hi,hz0,hz1,hz2⟩:=info_parts Tryz.infoStrF;obtain ⟨s0,s1,s2,s3,s4,s5,s6,s13,s26⟩:=eJ k2;have hlw2:w.heap.size<y.heap.size:=kv hl1 hUX.size;have hXQ:z<y.heap.size:=k2.lt;have b2:bx z 57 (aC r o (J so k cap) x d).toList (y.alloc (ka #[.string (lh T)] 9)):=((aq y _).block _ hXQ).trans k2;have o2:=cT k3 (aq y (ka #[.string (lh T)] 9));have c2:=aD y (ka #[.string (lh T)] 9);have b4:Below z H (y.alloc (ka #[.string (lh T)] 9)):=k4.trans ((aq y _).mono (zO hXQ));have hkl:k<=64:=oM;have gz:=((aq y (ka #[.string (lh T)] 9)).block _ hlw2).trans ((hUX.block _ hl1).trans Y);have s6':(y.alloc (ka #[.string (lh T)] 9)).cell? ⟨z,6,none⟩=some (J so k cap):=kh b2 _;have q2:∀j u,[Value.string (lh T)][j]?=some u->(y.alloc (ka #[.string (lh T)] 9)).cell? ((⟨y.heap.size,0,none⟩:Addr).add j)=some u:=by
     intro j u hj;rcases j with _|j
     ·simp only[List.getElem?_cons_zero,Option.some.injEq] at hj;rw[Addr.add_lit,kh c2,<-hj];rfl
     ·simp at hj
    have q3:∀u∈[Value.string (lh T)],u.oneCell'=true:=(by intro u f;rw[List.mem_singleton.1 f];rfl);have q4:k+1<=maxLen:=uO;have q5:(k+1)*16<=140737488355328:=oM;have q6:z<=(y.alloc (ka #[.string (lh T)] 9)).heap.size:=sO;clear s0 s1 s2 s3 s4 s5 s13 s26 k1 k2 k3 HJ2;(go_wp2_with (at_builtin;refine wpList_append_own _ rfl _ _ 55 rfl z 9 i0 (.string ⟨#[]⟩) 1 16 underlying55 hi hz0 hz1 hz2 rfl dD _ k ((gE r zs k).map bH) rfl o2 ⟨y.heap.size,0,none⟩ 1 1 [.string (lh T)] rfl rfl q2 q3 q4 q5 q6 ?_));intro v' w1 hown hgrow hnil;obtain ⟨x1,x2,x3,x4,x5,x6⟩:=tO (i:=6) dD b2 rfl o2 b4 (ko _) (ko _) sO hgrow hown;rcases id hown.2 with ⟨_,hn0⟩|⟨g,cp,cur,rfl,_⟩
    ·exfalso;omega
    have HJ3:=qH (show mD r zs o x d z (k+1) H (w1.setCell ⟨z,6,none⟩ (J (some ⟨g,0,none⟩) (k+1) cp)) from ⟨some ⟨g,0,none⟩,cp,HOK.1 S,x3,by rw[HFS.1,List.map_append];exact x4,x5⟩);have gw:(w1.setCell ⟨z,6,none⟩ (J (some ⟨g,0,none⟩) (k+1) cp)).heap[w.heap.size]?=some (.cells RQ 57 (0,0)):=(x6 _ sO (aW o2 gz dD) oM).trans gz;obtain ⟨r0,_⟩:=HRC.1 _ gw;clear x3 x4 x5 x6 gw gz b2 o2 c2 b4 hown hgrow hnil;have hwm2:IntKind.i64.wrap (RN*r.w)=(M:Int):=(by rw[hM];exact hwm);go_wp2;go_roundw
    case rel =>
     refine ⟨k+1,hlt,gN,⟨_,_,_,rfl,fun h=>?_⟩,HJ3.1⟩;obtain ⟨e,e'⟩:=HNX.1 h;have:=HNP.1;have:=HCP2.1;have:=HOP.1;rw[<-HAD.1,if_neg,Addr.add_lit,e]
     ·refine ⟨by rw[<-HOP.1,Nat.add_assoc],oM,oM⟩
     ·omega
    case measure=>simp[intOf];omega
   ·rcases HEI.1 with D|D
    ·exact absurd D S
    rw[D];have hzf:=HFF.1 S;rw[HCN.1] at hzf;have hee:E=4:=(by rw[A.1,hzf];rfl);exact absurd (hee.symm.trans H0.1) dD
  ·have hd:decide ((k:Int)<(C:Int))=false:=sO;obtain rfl:k=C:=oM;have D:E=0:=(by rw[A.1,if_pos j1]);subst D;have g3:=(hUQ2.block _ hl3).trans a3;obtain ⟨a,K⟩:=eX (aC r o (J so k cap) x d);have i1:(prog.info? 57).map (·.size)=some a.size:=(by rw[<-K];kernel_rfl);have i2:(ay:Array Value).size=a.size:=(by rw[<-K];rfl);have hIF:cR wr (cZ r zs) o (J so k cap) x d:=⟨HIB.1.lens.below j4 oM,fv.own (base:=z) (by rw[show (cZ r zs).strips=gE r zs k by rw[cZ,HCN.1]];simpa [gE] using j3) (by rw[show (cZ r zs).strips=gE r zs k by rw[cZ,HCN.1]];simp[gE];omega),HIB.1.plan.spots.below j4 oM,HIB.1.plan.curve.below j4 oM⟩;have hos:a.all (·.oneCell')=true:=(by rw[<-K];exact (mq hIF:(aC (cZ r zs) o (J so k cap) x d).all (·.oneCell')=true));have HRA:=qH K;have d1:wr.heap[z]?=some (.cells a 57 (0,0)):=(by rw[<-K];exact j2);have HG:=qH (setRow_heap _ _ _ a _ _ g3);have HBF:=qH (below_setRow (g:=w.heap.size+2) (aG HB.1 hUQ2) oM a);have hfo:=ar.own j3;obtain ⟨f1,f3,f4⟩:=HFR.1;have HIF:=qH (hIF.other (k:=w.heap.size+2) (w':=wr.setRow (w.heap.size+2) a) (B:=U.heap.size) sS (fun b hb=>setRow_other _ _ _ _ hb) hl3 f1 (hfo.mono hUQ) f3 f4);have hw:w.heap.size<=U.heap.size:=oM;have X:=qH (show ar w.heap.size o/\ar w.heap.size (J so k cap)/\ar w.heap.size x/\ar w.heap.size d from ⟨f1.mono hw,hfo.mono oM,f3.mono hw,f4.mono hw⟩);have HFE:=qH (show bI (wr.setRow (w.heap.size+2) a) o/\bI (wr.setRow (w.heap.size+2) a) d from ⟨(HEB.1.1.below j4 oM).setRow f1 hl3 a,(HEB.1.2.below j4 oM).setRow f4 hl3 a⟩);clear K f1 f3 f4 hfo hIF j1 j2 j3 j4 HJ hao;(go_wp2_with (first|refine wpList_load_row rfl 57 _ rfl _ rfl _ _ _ _ d1 underlying57 rfl i1 ?_|refine wpList_store_row rfl 57 _ _ rfl (w.heap.size+2) a rfl rfl _ _ g3 i1 i2 hos ?_));have HRF:=qH (show aC (cZ r zs) o (J so k cap) x d=a from HRA.1);first
   | refine bodyPost_ret (v:=.tuple #[.agg a,Z G 0]) (xl results19 _ _ _ _ _ rfl rfl HG.1 i1) rfl ⟨HBF.1,_,_,_,_,by rw[HRF.1],HIF.1,X.1.1,X.1.2.1,X.1.2.2.1,X.1.2.2.2,HFE.1⟩
   | refine bodyPost_ret (v:=.tuple #[.agg a,Z G 0]) (xl results19 _ _ _ _ _ rfl rfl HG.1 i1) rfl ⟨HBF.1,.inl ⟨rfl,_,_,_,_,by rw[HRF.1],HIF.1,X.1.1,X.1.2.1,X.1.2.2.1,X.1.2.2.2,HFE.1⟩⟩
theorem Et (r:av) (l p n i:Value) (g f:Int) (v:Value) (zs:List Int) (w:World) (B:cR w r l p n i) (D:ap w v zs) (C:lI v) (k:io r g f zs=0) (A:¬r.kind=0) :
  Calls prog 19 #[.agg (aC r l p n i),.agg #[Z G g,Z G f,v]] w fun e w'=>Below w.heap.size w w'/\((io r g f zs=0/\∃m q o j,e=.returned (.tuple #[.agg (aC (cZ r zs) m q o j),Z G 0])/\cR w' (cZ r zs) m q o j/\ar w.heap.size m/\ar w.heap.size q/\ar w.heap.size o/\ar w.heap.size j) \/
   (io r g f zs≠0/\e=.returned (.tuple #[.agg ay,Z G (io r g f zs)]))) :=
 (Es r l p n i g f v zs w B D C k A).mono fun _ _ ⟨k,h⟩=>⟨k,h.imp (fun ⟨a,b,c,d,e,s,t,u,x,y,z,_⟩=>⟨a,b,c,d,e,s,t,u,x,y,z⟩) id⟩
def MS {α:Type} (p:List UInt8->Option (α×List UInt8)) (k:Nat) (a:Option (List UInt8)) (c:List α) (b:Option (List UInt8)):Prop :=
 c.length=k/\b=bd (bO p k) a/\(b≠none->c=bG (bO p k) [] a)
theorem MS.zero {α:Type} (p:List UInt8->Option (α×List UInt8)) (a:Option (List UInt8)):MS p 0 a [] a:=by
 cases a with
 | none=>exact ⟨rfl,rfl,fun _=>rfl⟩
 | some l=>exact ⟨rfl,rfl,fun _=>rfl⟩
theorem MS.next {α:Type} {p:List UInt8->Option (α×List UInt8)} {k:Nat} {i f:Option (List UInt8)} {m:List α} (h:MS p k i m f) (d y:α) (B:bd p f≠none->y=bG p d f):MS p (k+1) i (m++[y]) (bd p f):=by
 obtain ⟨w,c,A⟩:=h;refine ⟨by rw[ys,w];rfl,?_⟩;cases i with
 | none =>
  have e:f=none:=c;subst e;exact ⟨rfl,fun b=>absurd rfl b⟩
 | some l =>
  cases hm:bO p k l with
  | none =>
   rw[iX hm] at c;subst c;have g:bO p (k+1) l=none:=rP hm oM;exact ⟨by rw[iX g];rfl,fun b=>absurd rfl b⟩
  | some x =>
   obtain ⟨zs,t⟩:=x;obtain ⟨n,o⟩:=dq hm ([]:List α);rw[n] at c;subst c;have j:=A sS;rw[o] at j;subst j;cases hp:p t with
   | none =>
    have g:bO p (k+1) l=none:=mf hm hp oM;exact ⟨by rw[iX g,iX hp],fun b=>absurd (iX hp) b⟩
   | some z =>
    obtain ⟨a,u⟩:=z;obtain ⟨q,r⟩:=dq hp d;obtain ⟨s,v⟩:=dq (oa hm hp) ([]:List α);exact ⟨by rw[q,s],fun b=>by rw[B b,r,v]⟩
theorem MS.bad {α:Type} {p:List UInt8->Option (α×List UInt8)} {k N:Nat} {a:Option (List UInt8)} {d:List α} (h:MS p k a d none) (c:k<=N):bd (bO p N) a=none:=by
 obtain ⟨_,b,_⟩:=h;cases a with
 | none=>rfl
 | some l =>
  cases hm:bO p k l with
  | none=>exact iX (rP hm c)
  | some x =>
   obtain ⟨zs,t⟩:=x;rw[(dq hm ([]:List α)).1] at b;cases b
def LS {α:Type} (p:List UInt8->Option (α×List UInt8)) (a:Option (List UInt8)) (c:List α) (b:Option (List UInt8)):Prop :=
 b=bd (eE p List.length) a/\(b≠none->c=bG (eE p List.length) [] a)
theorem vi {α:Type} (p:List UInt8->Option (α×List UInt8)) (l:List UInt8):eE p List.length l=match bY l with|none=>none|some (n,t)=>bO p n.toNat t:=by
 rw[eE,bY];cases aH l with
 | none=>rfl
 | some x=>obtain ⟨n,t⟩:=x;simp only;split<;>rfl
theorem LS.of {α:Type} {p:List UInt8->Option (α×List UInt8)} {a g:Option (List UInt8)} {m:List α} {k N:Nat} (j:bG bY 0 a=(N:Int)) (h:MS p k (bd bY a) m g) (d:k=N\/(g=none/\k<=N)):LS p a m g:=by
 have f:bd (eE p List.length) a=bd (bO p N) (bd bY a)/\bG (eE p List.length) [] a=bG (bO p N) [] (bd bY a):=by
  cases a with
  | none=>exact ⟨(r8 _).trans (r8 _).symm,(tg _ _).trans (tg _ _).symm⟩
  | some l =>
   cases hc:bY l with
   | none =>
    have:eE p List.length l=none:=(by rw[vi,hc]);obtain ⟨b,c⟩:=oA this ([]:List α);rw[b,c,iX hc];exact ⟨(r8 _).symm,(tg _ _).symm⟩
   | some x =>
    obtain ⟨n,t⟩:=x;obtain ⟨b,c⟩:=dq hc (0:Int);rw[c] at j;subst j;rw[b];have i:eE p List.length l=bO p N t:=(by rw[vi,hc];simp only[xc]);exact ⟨by simp only[bd,Option.bind_some,i],by simp only[bG,Option.bind_some,i]⟩
 rcases d with rfl|⟨rfl,d⟩
 ·exact ⟨by rw[f.1];exact h.2.1,fun e=>by rw[f.2];exact h.2.2 e⟩
 ·exact ⟨by rw[f.1,h.bad d],fun e=>absurd rfl e⟩
theorem oW (a:Option (List UInt8)):∃N:Nat,bG bY 0 a=N/\N<=2147483647:=by
 cases a with
 | none=>exact ⟨0,rfl,xa _⟩
 | some l =>
  cases hc:bY l with
  | none=>exact ⟨0,(oA hc (0:Int)).2,xa _⟩
  | some x =>
   obtain ⟨n,t⟩:=x;have c:=hc;rw[bY] at hc;split at hc
   ·cases hc
   ·rename_i m u hq;have b:=(ej.sound _ _ _ hq).2;unfold bW at b;split at hc
    ·cases hc
     exact ⟨n.toNat,by rw[(dq c (0:Int)).2];omega,oM⟩
    ·cases hc
theorem oV {l t:List UInt8} {n:Int} (h:bY l=some (n,t)):t.length<=l.length:=by
 rw[bY] at h;split at h
 ·cases h
 ·rename_i m u hq;have:=fK hq;split at h
  ·cases h;omega
  ·cases h
theorem wo (c:Option (List UInt8)):bd cI c=bd aH (bd aH c)/\(bd cI c≠none->(bG aH 0 c,bG aH 0 (bd aH c))=bG cI (0,0) c):=by
 cases c with
 | none=>exact ⟨rfl,fun h=>absurd rfl h⟩
 | some l =>
  cases h1:aH l with
  | none =>
   have:cI l=none:=(by rw[cI,h1]);rw[iX this,iX h1];exact ⟨rfl,fun h=>absurd rfl h⟩
  | some x =>
   obtain ⟨a,t⟩:=x;obtain ⟨d,e⟩:=dq h1 (0:Int);rw[d,e];cases h2:aH t with
   | none =>
    have:cI l=none:=(by rw[cI,h1];simp only[h2]);rw[iX this,iX h2];exact ⟨rfl,fun h=>absurd rfl h⟩
   | some y =>
    obtain ⟨b,u⟩:=y;have:cI l=some ((a,b),u):=(by rw[cI,h1];simp only[h2]);obtain ⟨f,g⟩:=dq this ((0,0):Pt);obtain ⟨i,j⟩:=dq h2 (0:Int);rw[f,g,i,j];exact ⟨rfl,fun _=>rfl⟩
structure nE (s:List UInt8) (s2 s3 s4 s5 s6 s7 s8 s9 s10 s11 s12 s13 s14 s15 s16:Option (List UInt8)) (l1:List UInt8) (le:List Int) (sl:List (List UInt8)) (bl ga ma:List Int) (sp cu:List Pt):Prop where
 h1:cn s=some (gc,l1)
 h2:s2=bd aH (some l1)
 h3:s3=bd aH s2
 h4:s4=bd aH s3
 h5:s5=bd aH s4
 h6:s6=bd aH s5
 h7:LS aH s6 le s7
 h8:LS cn s7 sl s8
 h9:s9=bd aH s8
 h10:MS aH 4 s9 bl s10
 h11:s11=bd aH s10
 h12:LS cI s11 sp s12
 h13:MS aH 3 s12 ga s13
 h14:MS aH 9 s13 ma s14
 h15:LS cI s14 cu s15
 h16:s16=bd aH s15
theorem LS.some {α:Type} {p:List UInt8->Option (α×List UInt8)} {a:Option (List UInt8)} {b:List α} {t:List UInt8} (h:LS p a b (some t)):∃l,a=some l/\eE p List.length l=some (b,t):=by
 obtain ⟨l,c,d⟩:=j9 h.1.symm ([]:List α);exact ⟨l,c,by rw[d,<-h.2 sS]⟩
theorem MS.some {α:Type} {p:List UInt8->Option (α×List UInt8)} {k:Nat} {a:Option (List UInt8)} {b:List α} {t:List UInt8} (h:MS p k a b (some t)):∃l,a=some l/\bO p k l=some (b,t):=by
 obtain ⟨l,c,d⟩:=j9 h.2.1.symm ([]:List α);exact ⟨l,c,by rw[d,<-h.2.2 sS]⟩
theorem nE.yes {s:List UInt8} {m n o p s6 s7 q s9 j s11 s12 s13 s14 k l:Option (List UInt8)} {f:List UInt8} {g:List Int} {r:List (List UInt8)} {a d i:List Int} {t b:List Pt}
  (c:nE s m n o p s6 s7 q s9 j s11 s12 s13 s14 k l f g r a d i t b) (h:l=some []) :
  jb s=some ⟨bG aH 0 (some f),bG aH 0 m,bG aH 0 n,bG aH 0 o,bG aH 0 p,g,r,⟨bG aH 0 q,ix a,bG aH 0 j,t,ix d,ix i,b,bG aH 0 k⟩⟩:=by
 obtain ⟨u,C,D,E,F,H,I,K,L,v,w,x,y,z,A,B⟩:=c;subst h;obtain ⟨l15,rfl,S⟩:=j9 B.symm (0:Int);obtain ⟨l14,rfl,R⟩:=A.some;obtain ⟨l13,rfl,Q⟩:=z.some;obtain ⟨l12,rfl,P⟩:=y.some;obtain ⟨l11,rfl,O⟩:=x.some;obtain ⟨l10,rfl,N⟩:=j9 w.symm (0:Int);obtain ⟨l9,rfl,M⟩:=v.some;obtain ⟨l8,rfl,p9⟩:=j9 L.symm (0:Int);obtain ⟨l7,rfl,p8⟩:=K.some;obtain ⟨l6,rfl,Y⟩:=I.some;obtain ⟨l5,rfl,X⟩:=j9 H.symm (0:Int);obtain ⟨l4,rfl,W⟩:=j9 F.symm (0:Int);obtain ⟨l3,rfl,V⟩:=j9 E.symm (0:Int);obtain ⟨l2,rfl,U⟩:=j9 D.symm (0:Int);obtain ⟨l1',e,T⟩:=j9 C.symm (0:Int);cases e
 rw[jb,gI,u];simp only[if_true];rw[ju,T];simp only;rw[jv,U];simp only;rw[ll,V];simp only;rw[ln,W];simp only;rw[lq,X];simp only;rw[kz,Y];simp only;rw[kA,p8];simp only;rw[lr,iZ,p9];simp only;rw[ly,M];simp only;rw[lz,N];simp only;rw[kj,O];simp only;rw[lA,P];simp only;rw[lB,Q];simp only;rw[kk,R];simp only;rw[lC,S];simp only;rw[lu,if_pos rfl]
theorem nE.no {s:List UInt8} {Q R S T U V W X K L M N O P t:Option (List UInt8)} {F:List UInt8} {H:List Int} {Y:List (List UInt8)} {u w I:List Int} {sp v:List Pt}
  (c:nE s Q R S T U V W X K L M N O P t F H Y u w I sp v) (h:t≠some []):jb s=none:=by
 obtain ⟨x,l,m,n,o,p,D,E,q,y,j,z,A,B,C,k⟩:=c;cases hq:jb s with
 | none=>rfl
 | some r =>
  exfalso;rw[jb,gI,x] at hq;simp only[if_true] at hq;rw[ju] at hq;split at hq;· cases hq
  rename_i p2;rw[(dq p2 (0:Int)).1] at l;subst l;rw[jv] at hq;split at hq;· cases hq
  rename_i p3;rw[(dq p3 (0:Int)).1] at m;subst m;rw[ll] at hq;split at hq;· cases hq
  rename_i p4;rw[(dq p4 (0:Int)).1] at n;subst n;rw[ln] at hq;split at hq;· cases hq
  rename_i p5;rw[(dq p5 (0:Int)).1] at o;subst o;rw[lq] at hq;split at hq;· cases hq
  rename_i p6;rw[(dq p6 (0:Int)).1] at p;subst p;rw[kz] at hq;split at hq;· cases hq
  rename_i p7;have g:=D.1;rw[(dq p7 ([]:List Int)).1] at g;subst g;rw[kA] at hq;split at hq;· cases hq
  rename_i p8;have i:=E.1;rw[(dq p8 ([]:List (List UInt8))).1] at i;subst i;rw[lr] at hq;split at hq;· cases hq
  rename_i p9;rw[lu] at hq;split at hq;rotate_left
  ·cases hq
  rename_i hnil;subst hnil;rw[iZ] at p9;split at p9;· cases p9
  rename_i q9;rw[(dq q9 (0:Int)).1] at q;subst q;rw[ly] at p9;split at p9;· cases p9
  rename_i q10;have a:=y.2.1;rw[(dq q10 ([]:List Int)).1] at a;subst a;rw[lz] at p9;split at p9;· cases p9
  rename_i q11;rw[(dq q11 (0:Int)).1] at j;subst j;rw[kj] at p9;split at p9;· cases p9
  rename_i q12;have b:=z.1;rw[(dq q12 ([]:List Pt)).1] at b;subst b;rw[lA] at p9;split at p9;· cases p9
  rename_i q13;have d:=A.2.1;rw[(dq q13 ([]:List Int)).1] at d;subst d;rw[lB] at p9;split at p9;· cases p9
  rename_i q14;have e:=B.2.1;rw[(dq q14 ([]:List Int)).1] at e;subst e;rw[kk] at p9;split at p9;· cases p9
  rename_i q15;have f:=C.1;rw[(dq q15 ([]:List Pt)).1] at f;subst f;rw[lC] at p9;split at p9;· cases p9
  rename_i q16;rw[(dq q16 (0:Int)).1] at k;cases p9
  exact h k
theorem Eu {s:List UInt8} (h:bG cn [] (some s)≠gc):jb s=none:=by
 rw[jb,gI];cases ht:cn s with
 | none=>rfl
 | some x =>
  obtain ⟨m,l⟩:=x;rw[(dq ht ([]:List UInt8)).2] at h;simp only;rw[if_neg h]
theorem Ct {s:List UInt8} (h:bG cn [] (some s)=gc):∃a,cn s=some (gc,a)/\bd cn (some s)=some a:=by
 cases ht:cn s with
 | none=>rw[(oA ht ([]:List UInt8)).2] at h;cases h
 | some x =>
  obtain ⟨m,l⟩:=x;obtain ⟨b,c⟩:=dq ht ([]:List UInt8);rw[c] at h;exact ⟨l,by rw[h],b⟩
end Go.Proofs.YtfjeonehdlphiaaGreatDoor
