/- Part 23. -/
import Derived.Test.YtfjeonehdlphiaaGreatDoorC22Sd
import Derived.Lib.Walk
open Nat renaming le_refl → ka, zero_le → kc
open Go.RowKit.Below renaming refl → kb
open Go.Value renaming int → Z, slice → J
open Go.IntKind renaming i64 → G
set_option linter.unusedVariables false
set_option maxHeartbeats 800000
set_option maxRecDepth 100000
namespace Go.Proofs.YtfjeonehdlphiaaGreatDoor
open Go.RowKit
open _root_.Go.Proofs.Tryz
theorem Tryz.infoPoint:(prog.info? 66).map (fun i=>(i.zero,i.size,i.bytes))=some (some kM,2,16):=kR
theorem wQ (c:List Pt):∀u∈c.flatMap aK,u.oneCell'=true:=by
 intro u b;obtain ⟨t,_,a⟩:=List.mem_flatMap.1 b;simp only[aK,List.mem_cons,List.not_mem_nil,or_false] at a;rcases a with rfl|rfl<;>rfl
theorem BX {w:World} {a:Addr} {xs:List Int} (o:Obj) (e:xs=[]\/∃b off,some a=some ⟨b,off,none⟩/\b<w.heap.size/\∀j (h:j<xs.length),w.cell? ⟨b,off+j,none⟩=some (Z G xs[j])) :
  ∀j u,(xs.map (Z .i64))[j]?=some u->(w.alloc o).cell? (a.add j)=some u:=by
 intro j u c;rcases e with h|⟨b,off,h,i,d⟩
 ·subst h;simp at c
 ·cases h
  rw[List.getElem?_map] at c;obtain ⟨z,g,rfl⟩:=Option.map_eq_some_iff.1 c;obtain ⟨f,rfl⟩:=List.getElem?_eq_some_iff.1 g;rw[Addr.add_lit];exact Lib.cell?_alloc_some _ (d j f)
theorem wU {w:World} {a:Addr} {c:List Pt} (o:Obj) (m:c=[]\/∃b off,some a=some ⟨b,off,none⟩/\b<w.heap.size/\∀j,j<c.length->w.cell? ⟨b,off+j*2,none⟩=some (Z G (an c j).1)/\w.cell? ⟨b,off+j*2+1,none⟩=some (Z G (an c j).2)) :
  ∀j u,(c.flatMap aK)[j]?=some u->(w.alloc o).cell? (a.add j)=some u:=by
 intro j u d;rcases m with h|⟨b,off,h,p,l⟩
 ·subst h;simp at d
 ·cases h
  have q:j<c.length*2:=by rw[<-ni];exact (List.getElem?_eq_some_iff.1 d).1
  rw[Addr.add_lit];refine Lib.cell?_alloc_some _ ?_;obtain ⟨i,k⟩:=su c (j / 2) oM;obtain ⟨f,g⟩:=l (j / 2) oM;rcases Nat.mod_two_eq_zero_or_one j with n|n
  ·have e:j / 2*2=j:=oM;rw[e] at i f;rw[f,<-d,i]
  ·have e:j / 2*2+1=j:=oM;rw[e] at k;rw[Nat.add_assoc,e] at g;rw[g,<-d,k]
theorem zI (v:Value) (xs:List Int) (w:World) (A:ap w v xs) (H:xs.length<=1000000) :
  Calls prog 121 #[v] w fun e w'=>∃r,e=.returned r/\ap w' r xs/\Below w.heap.size w w'/\ar w.heap.size r/\bI w' r:=by
 obtain ⟨o,ca,rfl,B,f⟩:=A;have K:∀(w:World) (a:Option Addr) (n c i d:Nat),(binOp .eql 52 (J a n c) (J none i d)).run prog w=.ok (.bool a.isNone) w:=fun w a n c i d=>Lib.run_eql_slice_nil w _ _ a n c i d underlying52;cases o with
 | none =>
  have t:xs=[]:=by
   rcases f with h|⟨b,off,h,_⟩
   ·exact h
   ·cases h
  subst t;go_enter func121,ntmps121;go_wp2;go_ret;exact ⟨_,rfl,ap.nil _,kb _ _,ar.nil _,bI.nil _⟩
 | some a =>
  obtain ⟨F,q,C,D,E⟩:=info_parts Tryz.infoInt;have m:=qH (show ∀j u,(xs.map (Z .i64))[j]?=some u->(w.alloc (.cells #[] 3)).cell? (a.add j)=some u from BX _ f);clear f;go_enter func121,ntmps121;go_wp2_with (at_builtin;refine wpList_append_own _ rfl _ _ 52 rfl w.heap.size 3 F (Z G 0) 1 8 underlying52 q C D E rfl dD _ _ _ rfl (World.ownsRow_made w #[] 0 (ka _) (kc _) sS) a xs.length ca (xs.map (Z .i64)) rfl ?qc1 ?qc2 ?qc3 ?qc4 ?qc5 ?qc6 ?_)
  case qc1=>rw[List.length_map,Nat.mul_one]
  case qc2=>exact m.1
  case qc3=>intro u y;obtain ⟨z,_,rfl⟩:=List.mem_map.1 y;rfl
  case qc4=>unfold maxLen;omega
  case qc5=>omega
  case qc6=>simp
  intro l w1 x p I;go_wp2;go_ret;have g:w1.ownsRow w.heap.size 3 1 l xs.length (xs.map (Z .i64)):=by simpa using x
  exact ⟨l,rfl,ap.own g B,((kb _ w).alloc (ka _) _).grown p sS (by intro k s;simp[Value.ownBlock] at s;omega),ar.own g,bI.own g⟩
theorem zL (v:Value) (xs:List Pt) (w:World) (y:bo w v xs) (E:xs.length<=1000000) :
  Calls prog 122 #[v] w fun e w'=>∃r,e=.returned r/\bo w' r xs/\Below w.heap.size w w'/\ar w.heap.size r/\bI w' r:=by
 obtain ⟨o,ca,rfl,z,f⟩:=y;have H:∀(w:World) (a:Option Addr) (n c i d:Nat),(binOp .eql 46 (J a n c) (J none i d)).run prog w=.ok (.bool a.isNone) w:=fun w a n c i d=>Lib.run_eql_slice_nil w _ _ a n c i d underlying46;cases o with
 | none =>
  have t:xs=[]:=by
   rcases f with h|⟨b,off,h,_⟩
   ·exact h
   ·cases h
  subst t;go_enter func122,ntmps122;go_wp2;go_ret;exact ⟨_,rfl,bo.nil _,kb _ _,ar.nil _,bI.nil _⟩
 | some a =>
  obtain ⟨D,q,A,B,C⟩:=info_parts Tryz.infoSpot;have m:=qH (show ∀j u,(xs.flatMap aK)[j]?=some u->(w.alloc (.cells #[] 97)).cell? (a.add j)=some u from wU _ f);clear f;go_enter func122,ntmps122;go_wp2_with (at_builtin;refine wpList_append_own _ rfl _ _ 46 rfl w.heap.size 97 D kM 2 16 underlying46 q A B C rfl dD _ _ _ rfl (World.ownsRow_made w #[] 0 (ka _) (kc _) sS) a xs.length ca (xs.flatMap aK) rfl ?qc1 ?qc2 ?qc3 ?qc4 ?qc5 ?qc6 ?_)
  case qc1=>exact ni xs
  case qc2=>exact m.1
  case qc3=>exact wQ xs
  case qc4=>unfold maxLen;omega
  case qc5=>omega
  case qc6=>simp
  intro l w1 x p F;go_wp2;go_ret;have g:w1.ownsRow w.heap.size 97 2 l xs.length (xs.flatMap aK):=by simpa using x
  exact ⟨l,rfl,bo.own g z,((kb _ w).alloc (ka _) _).grown p sS (by intro k s;simp[Value.ownBlock] at s;omega),ar.own g,bI.own g⟩
theorem zK (v:Value) (xs:List Pt) (w:World) (y:bo w v xs) (E:xs.length<=1000000) :
  Calls prog 123 #[v] w fun e w'=>∃r,e=.returned r/\bo w' r xs/\Below w.heap.size w w'/\ar w.heap.size r/\bI w' r:=by
 obtain ⟨o,ca,rfl,z,f⟩:=y;have H:∀(w:World) (a:Option Addr) (n c i d:Nat),(binOp .eql 49 (J a n c) (J none i d)).run prog w=.ok (.bool a.isNone) w:=fun w a n c i d=>Lib.run_eql_slice_nil w _ _ a n c i d underlying49;cases o with
 | none =>
  have t:xs=[]:=by
   rcases f with h|⟨b,off,h,_⟩
   ·exact h
   ·cases h
  subst t;go_enter func123,ntmps123;go_wp2;go_ret;exact ⟨_,rfl,bo.nil _,kb _ _,ar.nil _,bI.nil _⟩
 | some a =>
  obtain ⟨D,q,A,B,C⟩:=info_parts Tryz.infoPoint;have m:=qH (show ∀j u,(xs.flatMap aK)[j]?=some u->(w.alloc (.cells #[] 66)).cell? (a.add j)=some u from wU _ f);clear f;go_enter func123,ntmps123;go_wp2_with (at_builtin;refine wpList_append_own _ rfl _ _ 49 rfl w.heap.size 66 D kM 2 16 underlying49 q A B C rfl dD _ _ _ rfl (World.ownsRow_made w #[] 0 (ka _) (kc _) sS) a xs.length ca (xs.flatMap aK) rfl ?qc1 ?qc2 ?qc3 ?qc4 ?qc5 ?qc6 ?_)
  case qc1=>exact ni xs
  case qc2=>exact m.1
  case qc3=>exact wQ xs
  case qc4=>unfold maxLen;omega
  case qc5=>omega
  case qc6=>simp
  intro l w1 x p F;go_wp2;go_ret;have g:w1.ownsRow w.heap.size 66 2 l xs.length (xs.flatMap aK):=by simpa using x
  exact ⟨l,rfl,bo.own g z,((kb _ w).alloc (ka _) _).grown p sS (by intro k s;simp[Value.ownBlock] at s;omega),ar.own g,bI.own g⟩
theorem zM (v:Value) (xs:List Pt) (w:World) (g:bo w v xs) (f:xs.length<=1000000) :
  Calls prog 122 #[v] w fun e w'=>∃r,e=.returned r/\bo w' r xs/\Below w.heap.size w w'/\ar w.heap.size r :=
 (zL v xs w g f).mono fun _ _ ⟨r,a,b,c,d,_⟩=>⟨r,a,b,c,d⟩
end Go.Proofs.YtfjeonehdlphiaaGreatDoor
