/- Re: part 36 of what the proofs need. -/
import Derived.Test.YtfjeonehdlphiaaGreatDoorC2Re
import Derived.Test.YtfjeonehdlphiaaGreatDoorC27Re
import Derived.Lib.Walk
open Nat renaming le_refl → ka, zero_le → kc
open Go.RowKit.Below renaming refl → kb
set_option linter.unusedVariables false
set_option maxHeartbeats 800000
set_option maxRecDepth 100000
namespace Go.Proofs.YtfjeonehdlphiaaGreatDoor
open Go.RowKit
theorem Tryz.infoPoint:(Tryz.prog.info? 66).map (fun i=>(i.zero,i.size,i.bytes))=some (some spZ,2,16):=by kernel_rfl
theorem XWez (ls:List Pt):∀u∈ls.flatMap ptL,u.oneCell'=true:=by
 intro u hu
 obtain ⟨t,_,ht⟩:=List.mem_flatMap.1 hu
 simp only[ptL,List.mem_cons,List.not_mem_nil,or_false] at ht
 rcases ht with rfl|rfl<;>rfl
theorem jych {w:World} {a:Addr} {xs:List Int} (o:Obj) (hc:xs=[]∨∃b off,some a=some ⟨b,off,none⟩∧b<w.heap.size∧∀j (h:j<xs.length),w.cell? ⟨b,off+j,none⟩=some (.int .i64 xs[j])) :
  ∀j u,(xs.map (Value.int .i64))[j]?=some u→(w.alloc o).cell? (a.add j)=some u:=by
 intro j u hj
 rcases hc with h|⟨b,off,h,hb,h2⟩
 ·subst h;simp at hj
 ·cases h
  rw[List.getElem?_map] at hj
  obtain ⟨z,hz,rfl⟩:=Option.map_eq_some_iff.1 hj
  obtain ⟨hl,rfl⟩:=List.getElem?_eq_some_iff.1 hz
  rw[Addr.add_lit]
  exact Lib.cell?_alloc_some _ (h2 j hl)
theorem qkro {w:World} {a:Addr} {ls:List Pt} (o:Obj) (hc:ls=[]∨∃b off,some a=some ⟨b,off,none⟩∧b<w.heap.size∧∀j,j<ls.length→w.cell? ⟨b,off+j*2,none⟩=some (.int .i64 (ptAt ls j).1)∧w.cell? ⟨b,off+j*2+1,none⟩=some (.int .i64 (ptAt ls j).2)) :
  ∀j u,(ls.flatMap ptL)[j]?=some u→(w.alloc o).cell? (a.add j)=some u:=by
 intro j u hj
 rcases hc with h|⟨b,off,h,hb,h2⟩
 ·subst h;simp at hj
 ·cases h
  have hl:j<ls.length*2:=by rw[←jn2Z];exact (List.getElem?_eq_some_iff.1 hj).1
  rw[Addr.add_lit]
  refine Lib.cell?_alloc_some _ ?_
  obtain ⟨e1,e2⟩:=zWQA ls (j / 2) (by omega)
  obtain ⟨c1,c2⟩:=h2 (j / 2) (by omega)
  rcases Nat.mod_two_eq_zero_or_one j with hm|hm
  ·have hq:j / 2*2=j:=by omega
   rw[hq] at e1 c1
   rw[c1,←hj,e1]
  ·have hq:j / 2*2+1=j:=by omega
   rw[hq] at e2
   rw[Nat.add_assoc,hq] at c2
   rw[c2,←hj,e2]
theorem zy2s (v:Value) (xs:List Int) (w:World) (hv:jCvT w v xs) (hl:xs.length≤1000000) :
  Calls Tryz.prog 121 #[v] w fun e w'=>∃r,e=.returned r∧jCvT w' r xs∧Below w.heap.size w w'∧Fresh w.heap.size r∧Free w' r:=by
 obtain ⟨ao,ca,rfl,hx,hc⟩:=hv
 have q22:∀(w:World) (a:Option Addr) (n c n' c':Nat),(binOp .eql 52 (.slice a n c) (.slice none n' c')).run Tryz.prog w=.ok (.bool a.isNone) w:=fun w a n c n' c'=>Lib.run_eql_slice_nil w _ _ a n c n' c' Tryz.underlying52
 cases ao with
 | none =>
  have hn:xs=[]:=by
   rcases hc with h|⟨b,off,h,_⟩
   ·exact h
   ·cases h
  subst hn
  go_enter Tryz.func121,Tryz.ntmps121
  go_wp2
  go_ret
  exact ⟨_,rfl,jCvT.nil _,kb _ _,Fresh.nil _,Free.nil _⟩
 | some a =>
  obtain ⟨i0,hi,hz0,hz1,hz2⟩:=info_parts Tryz.infoInt
  have HA:=hide (show ∀j u,(xs.map (Value.int .i64))[j]?=some u→(w.alloc (.cells #[] 3)).cell? (a.add j)=some u from jych _ hc)
  clear hc
  go_enter Tryz.func121,Tryz.ntmps121
  go_wp2_with (at_builtin;refine wpList_append_own _ rfl _ _ 52 rfl w.heap.size 3 i0 (.int .i64 0) 1 8 Tryz.underlying52 hi hz0 hz1 hz2 rfl (by decide) _ _ _ rfl (World.ownsRow_made w #[] 0 (ka _) (kc _) (by simp)) a xs.length ca (xs.map (Value.int .i64)) rfl ?qc1 ?qc2 ?qc3 ?qc4 ?qc5 ?qc6 ?_)
  case qc1=>rw[List.length_map,Nat.mul_one]
  case qc2=>exact HA.out
  case qc3=>intro u hu;obtain ⟨z,_,rfl⟩:=List.mem_map.1 hu;rfl
  case qc4=>unfold maxLen;omega
  case qc5=>omega
  case qc6=>simp
  intro v' w1 hown hgrow hnil
  go_wp2
  go_ret
  have hown':w1.ownsRow w.heap.size 3 1 v' xs.length (xs.map (Value.int .i64)):=by simpa using hown
  exact ⟨v',rfl,jCvT.own hown' hx,((kb _ w).alloc (ka _) _).grown hgrow (by simp) (by intro k hk;simp[Value.ownBlock] at hk;omega),Fresh.own hown',Free.own hown'⟩
theorem XsVB (v:Value) (xs:List Pt) (w:World) (hv:IsPts w v xs) (hl:xs.length≤1000000) :
  Calls Tryz.prog 122 #[v] w fun e w'=>∃r,e=.returned r∧IsPts w' r xs∧Below w.heap.size w w'∧Fresh w.heap.size r∧Free w' r:=by
 obtain ⟨ao,ca,rfl,hx,hc⟩:=hv
 have q22:∀(w:World) (a:Option Addr) (n c n' c':Nat),(binOp .eql 46 (.slice a n c) (.slice none n' c')).run Tryz.prog w=.ok (.bool a.isNone) w:=fun w a n c n' c'=>Lib.run_eql_slice_nil w _ _ a n c n' c' Tryz.underlying46
 cases ao with
 | none =>
  have hn:xs=[]:=by
   rcases hc with h|⟨b,off,h,_⟩
   ·exact h
   ·cases h
  subst hn
  go_enter Tryz.func122,Tryz.ntmps122
  go_wp2
  go_ret
  exact ⟨_,rfl,IsPts.nil _,kb _ _,Fresh.nil _,Free.nil _⟩
 | some a =>
  obtain ⟨i0,hi,hz0,hz1,hz2⟩:=info_parts Tryz.infoSpot
  have HA:=hide (show ∀j u,(xs.flatMap ptL)[j]?=some u→(w.alloc (.cells #[] 97)).cell? (a.add j)=some u from qkro _ hc)
  clear hc
  go_enter Tryz.func122,Tryz.ntmps122
  go_wp2_with (at_builtin;refine wpList_append_own _ rfl _ _ 46 rfl w.heap.size 97 i0 spZ 2 16 Tryz.underlying46 hi hz0 hz1 hz2 rfl (by decide) _ _ _ rfl (World.ownsRow_made w #[] 0 (ka _) (kc _) (by simp)) a xs.length ca (xs.flatMap ptL) rfl ?qc1 ?qc2 ?qc3 ?qc4 ?qc5 ?qc6 ?_)
  case qc1=>exact jn2Z xs
  case qc2=>exact HA.out
  case qc3=>exact XWez xs
  case qc4=>unfold maxLen;omega
  case qc5=>omega
  case qc6=>simp
  intro v' w1 hown hgrow hnil
  go_wp2
  go_ret
  have hown':w1.ownsRow w.heap.size 97 2 v' xs.length (xs.flatMap ptL):=by simpa using hown
  exact ⟨v',rfl,IsPts.own hown' hx,((kb _ w).alloc (ka _) _).grown hgrow (by simp) (by intro k hk;simp[Value.ownBlock] at hk;omega),Fresh.own hown',Free.own hown'⟩
theorem XzvJ (v:Value) (xs:List Pt) (w:World) (hv:IsPts w v xs) (hl:xs.length≤1000000) :
  Calls Tryz.prog 123 #[v] w fun e w'=>∃r,e=.returned r∧IsPts w' r xs∧Below w.heap.size w w'∧Fresh w.heap.size r∧Free w' r:=by
 obtain ⟨ao,ca,rfl,hx,hc⟩:=hv
 have q22:∀(w:World) (a:Option Addr) (n c n' c':Nat),(binOp .eql 49 (.slice a n c) (.slice none n' c')).run Tryz.prog w=.ok (.bool a.isNone) w:=fun w a n c n' c'=>Lib.run_eql_slice_nil w _ _ a n c n' c' Tryz.underlying49
 cases ao with
 | none =>
  have hn:xs=[]:=by
   rcases hc with h|⟨b,off,h,_⟩
   ·exact h
   ·cases h
  subst hn
  go_enter Tryz.func123,Tryz.ntmps123
  go_wp2
  go_ret
  exact ⟨_,rfl,IsPts.nil _,kb _ _,Fresh.nil _,Free.nil _⟩
 | some a =>
  obtain ⟨i0,hi,hz0,hz1,hz2⟩:=info_parts Tryz.infoPoint
  have HA:=hide (show ∀j u,(xs.flatMap ptL)[j]?=some u→(w.alloc (.cells #[] 66)).cell? (a.add j)=some u from qkro _ hc)
  clear hc
  go_enter Tryz.func123,Tryz.ntmps123
  go_wp2_with (at_builtin;refine wpList_append_own _ rfl _ _ 49 rfl w.heap.size 66 i0 spZ 2 16 Tryz.underlying49 hi hz0 hz1 hz2 rfl (by decide) _ _ _ rfl (World.ownsRow_made w #[] 0 (ka _) (kc _) (by simp)) a xs.length ca (xs.flatMap ptL) rfl ?qc1 ?qc2 ?qc3 ?qc4 ?qc5 ?qc6 ?_)
  case qc1=>exact jn2Z xs
  case qc2=>exact HA.out
  case qc3=>exact XWez xs
  case qc4=>unfold maxLen;omega
  case qc5=>omega
  case qc6=>simp
  intro v' w1 hown hgrow hnil
  go_wp2
  go_ret
  have hown':w1.ownsRow w.heap.size 66 2 v' xs.length (xs.flatMap ptL):=by simpa using hown
  exact ⟨v',rfl,IsPts.own hown' hx,((kb _ w).alloc (ka _) _).grown hgrow (by simp) (by intro k hk;simp[Value.ownBlock] at hk;omega),Fresh.own hown',Free.own hown'⟩
theorem zb1r (v:Value) (xs:List Pt) (w:World) (hv:IsPts w v xs) (hl:xs.length≤1000000) :
  Calls Tryz.prog 122 #[v] w fun e w'=>∃r,e=.returned r∧IsPts w' r xs∧Below w.heap.size w w'∧Fresh w.heap.size r :=
 (XsVB v xs w hv hl).mono fun _ _ ⟨r,h1,h2,h3,h4,_⟩=>⟨r,h1,h2,h3,h4⟩
end Go.Proofs.YtfjeonehdlphiaaGreatDoor
