/- Sw: part 29 of what the proofs need. -/
import Derived.Test.YtfjeonehdlphiaaGreatDoorC12Sw
import Derived.Test.YtfjeonehdlphiaaGreatDoorC28Sw
set_option linter.unusedVariables false
set_option maxHeartbeats 6400000
set_option maxRecDepth 100000
namespace Go.Proofs.YtfjeonehdlphiaaGreatDoor
open Go.RowKit
abbrev IsWr (B b:Nat) (l:List UInt8) (w:World):Prop:=Lib.IsBuilder 195 5 B b (byt l) w
def zMqr (w:World) (k:Nat):Prop:=∀cs fr,w.heap[k]?≠some (.cells cs 5 fr)
structure WStep (B b:Nat) (w w':World):Prop where
 bel:Below B w w'
 keep:∀k,k<w.heap.size→k≠b→zMqr w k→w'.heap[k]?=w.heap[k]?
theorem WStep.refl (B b:Nat) (w:World):WStep B b w w:=⟨Below.refl _ _,fun _ _ _ _=>rfl⟩
theorem WStep.trans {B b:Nat} {w w' w'':World} (h:WStep B b w w') (k:WStep B b w' w''):WStep B b w w'' where
 bel:=h.bel.trans k.bel
 keep:=fun j h1 h2 h3=>by
  have e:=h.keep j h1 h2 h3
  exact (k.keep j (Nat.lt_of_lt_of_le h1 h.bel.size) h2 (fun cs fr=>by rw[e];exact h3 cs fr)).trans e
theorem WStep.alloc {B b:Nat} {w:World} (hB:B≤w.heap.size) (o:Obj):WStep B b w (w.alloc o) :=
 ⟨(qUNz w o).mono hB,fun k h1 _ _=>(qUNz w o).block k h1⟩
theorem IsWr.alloc {B b:Nat} {l:List UInt8} {w:World} (h:IsWr B b l w) (o:Obj):IsWr B b l (w.alloc o):=by
 rcases h with ⟨h2,v,h3,h4,h5⟩|⟨h2,v,h3,h4,h5⟩
 ·exact .inl ⟨h2,v,((qUNz w o).block _ (Array.getElem?_eq_some_iff.1 h3).1).trans h3,qw14 h4 (qUNz w o),h5⟩
 ·exact .inr ⟨h2,v,((qUNz w o).block _ (Array.getElem?_eq_some_iff.1 h3).1).trans h3,qw14 h4 (qUNz w o),h5⟩
def Apart (B b:Nat) (u:Value) (w:World):Prop:=∀k,u.ownBlock=some k→k<w.heap.size→k<B∨(k≠b∧zMqr w k)
theorem WStep.block {B b:Nat} {w w':World} (hs:WStep B b w w') {k:Nat} (hk:k<w.heap.size) (ha:k<B∨(k≠b∧zMqr w k)):w'.heap[k]?=w.heap[k]?:=by
 rcases ha with h|⟨h,h'⟩
 ·exact hs.bel.block k h
 ·exact hs.keep k hk h h'
theorem jCvT.step {B b:Nat} {u:Value} {xs:List Int} {w w':World} (h:jCvT w u xs) (hs:WStep B b w w') (ha:Apart B b u w):jCvT w' u xs:=by
 obtain ⟨ao,cap,rfl,hl,h⟩:=h
 refine ⟨ao,cap,rfl,hl,?_⟩
 rcases h with h|⟨c,off,rfl,hlt,hc⟩
 ·exact .inl h
 ·refine .inr ⟨c,off,rfl,Nat.lt_of_lt_of_le hlt hs.bel.size,fun j hj=>?_⟩
  rw[World.cell?_of_block (a:=⟨c,off+j,none⟩) (hs.block hlt (ha c rfl hlt))]
  exact hc j hj
theorem qs9Z {w:World} {k:Nat} {cs:Array Value} {t:TypeId} {fr:Nat×Nat} (h:w.heap[k]?=some (.cells cs t fr)) (ht:t≠5):zMqr w k:=fun cs' fr' e=>by
 rw[h] at e
 simp only[Option.some.injEq,Obj.cells.injEq] at e
 exact ht e.2.1
theorem Tryz.sizeBuilder:(Tryz.prog.info? 76).map (·.size)=some 2:=by kernel_rfl
theorem Tryz.liesWriter:liesAt Tryz.prog Tryz.prog.depth 195 (2 / Tryz.prog.cellsOf 195) 0 76 1=true:=by kernel_rfl
theorem Tryz.infoByteW:(Tryz.prog.info? 5).map (fun i=>(i.zero,i.size,i.bytes))=some (some (.int .u8 0),1,1):=by kernel_rfl
theorem XMPW (B b:Nat) (l:List UInt8) (w:World) (h:IsWr B b l w) :
  Calls Tryz.prog 96 #[.pointer (some ⟨b,0,none⟩)] w fun e w'=>e=.returned (.tuple #[])∧(Lib.BuilderAt 195 5 B b (.pointer (some ⟨b,0,none⟩)) (byt l) w'∧WStep B b w w'∧w'.heap.size=w.heap.size∧∀k,k≠b→w'.heap[k]?=w.heap[k]?):=by
 obtain ⟨j,hj,hjs⟩:=Option.map_eq_some_iff.1 Tryz.sizeBuilder
 rcases h with hA|hA
 ·have c0:=hA.cell0
  have hsh:=hA.shape
  have hfz:=hA.frozen0
  have HU:=hide (hA.used (.pointer (some ⟨b,0,none⟩)))
  have HF:=hide (show WStep B b w (w.setCell ⟨b,0,none⟩ (.pointer (some ⟨b,0,none⟩))) from ⟨Below.setCell (p:=⟨b,0,none⟩) (Below.refl B w) hA.1 _,fun k _ hk _=>Below.heap_setCell _ _ _ _ (fun e=>hk e)⟩)
  clear hA
  go_enter Tryz.func96,Tryz.ntmps96
  go_wp2
  rw[Lib.run_to_unsafe w ⟨b,0,none⟩ Tryz.underlying73 Tryz.underlying192 hj (by rw[hjs];decide) hsh (Nat.zero_lt_succ 1)]
  simp only[Result.andThen]
  rw[Oper.upon_value]
  go_wp2
  rw[run_callFunc_extern Tryz.func151 (by kernel_rfl) (by kernel_rfl) (by kernel_rfl) (e:=Extern.AbiNoEscape.same) (by kernel_rfl)]
  rw[Lib.run_noEscape]
  simp only[Result.andThen]
  rw[Oper.upon_value]
  go_wp2
  rw[Lib.run_from_unsafe w ⟨b,0,none⟩ Tryz.underlying192 Tryz.underlying73 hj hsh Tryz.liesWriter]
  simp only[Result.andThen]
  rw[Oper.upon_value]
  go_wp2
  go_end0
  exact ⟨rfl,HU.out,HF.out,by simp[World.setCell],fun k hk=>Below.heap_setCell _ _ _ _ (fun e=>hk e)⟩
 ·have c0:=hA.cell0
  have HW:=hide hA
  clear hA
  go_enter Tryz.func96,Tryz.ntmps96
  go_wp2
  rw[Lib.run_neq_ptr_same w _ Tryz.underlying73 hj]
  go_wp2
  go_end0
  exact ⟨rfl,HW.out,WStep.refl _ _ _,rfl,fun _ _=>rfl⟩
theorem wput {B b:Nat} {v v':Value} {l m:List UInt8} {w w1 w2:World} (hB:B≤b) (hBw:B≤w.heap.size)
  (h1:w1.heap[b]?=some (.cells #[.pointer (some ⟨b,0,none⟩),v] 195 (0,0))) (hown:w1.ownsRow B 5 1 v l.length (byt l)) (hne:v.ownBlock≠some b) (hst:WStep B b w w1)
  (hg:w1.grownBy w2 v.ownBlock) (ho:w2.ownsRow B 5 1 v' (l++m).length (byt (l++m))) :
  w2.heap[b]?=some (.cells #[.pointer (some ⟨b,0,none⟩),v] 195 (0,0))∧IsWr B b (l++m) (w2.setCell ⟨b,1,none⟩ v')∧WStep B b w (w2.setCell ⟨b,1,none⟩ v'):=by
 have hlt:b<w1.heap.size:=(Array.getElem?_eq_some_iff.1 h1).1
 have h2:w2.heap[b]?=some (.cells #[.pointer (some ⟨b,0,none⟩),v] 195 (0,0)):=(hg.block b hlt (fun e=>hne e.symm)).trans h1
 have hP:=Lib.BuilderAt.put (T:=195) (e:=5) hB h2 (bs':=byt (l++m)) (by rw[q82q];exact ho) (by decide)
 refine ⟨h2,.inr hP,hst.trans ⟨((Below.refl B w1).grown hg (Nat.le_trans hBw hst.bel.size) (fun k hk=>(hown.lt k hk).1)).setCell (p:=⟨b,1,none⟩) hB _,fun k h3 h4 h5=>?_⟩⟩
 rw[Below.heap_setCell _ _ _ _ (fun e=>h4 e)]
 refine hg.block k h3 (fun e=>?_)
 rcases hown.2 with ⟨rfl,_⟩|⟨g,cap,cur,rfl,_,hgg,_⟩
 ·cases e
 ·simp only[Value.ownBlock,Option.some.injEq] at e
  subst e
  exact h5 _ _ hgg
theorem za1x (B b:Nat) (l m:List UInt8) (M c g off:Nat) (w:World) (h:IsWr B b l w) (hM:m.length=M) (hm:∀j x,m[j]?=some x→w.cell? ⟨g,off+j,none⟩=some (.int .u8 x.toNat)) (hgb:g≠b) (hlen:l.length+M≤140737488355328) (hBw:B≤w.heap.size) :
  Calls Tryz.prog 193 #[.pointer (some ⟨b,0,none⟩),.slice (some ⟨g,off,none⟩) M c] w fun e w'=>e=.returned (.tuple #[.int .i64 M,.nilIface])∧IsWr B b (l++m) w'∧WStep B b w w':=by
 obtain ⟨i0,hi,hz0,hz1,hz2⟩:=info_parts Tryz.infoByteW
 have HC:=hide (XMPW B b l w h)
 have HM:=hide hm
 clear hm
 go_enter Tryz.func193,Tryz.ntmps193
 go_wp2_with fail
 refine (HC.out).mono ?_
 rintro e w1 ⟨rfl,h1,hst,hsz,hke⟩
 obtain ⟨hB,v,hbk,hown,hne⟩:=h1
 rw[q82q] at hown
 have c0:w1.cell? ⟨b,0,none⟩=some (.pointer (some ⟨b,0,none⟩)):=by rw[Lib.cell_of_heap hbk];rfl
 have c1:w1.cell? ⟨b,1,none⟩=some v:=by rw[Lib.cell_of_heap hbk];rfl
 have HN:=hide (show ∀j u,(byt m)[j]?=some u→w1.cell? ((⟨g,off,none⟩:Addr).add j)=some u from fun j u hj=>by
  rw[byt_get?] at hj
  obtain ⟨x,hx,rfl⟩:=Option.map_eq_some_iff.1 hj
  rw[Addr.add_lit,World.cell?_of_block (a:=⟨g,off+j,none⟩) (hke g hgb)]
  exact HM.out j x hx)
 clear hke
 have HWN:=hide hown
 go_wp2_with (at_builtin;refine wpList_append_own _ rfl _ _ 74 rfl B 5 i0 (.int .u8 0) 1 1 Tryz.underlying74 hi hz0 hz1 hz2 rfl (by decide) _ _ _ rfl HWN.out ⟨g,off,none⟩ M c (byt m) rfl ?qc1 ?qc2 ?qc3 ?qc4 ?qc5 ?qc6 ?_)
 case qc1=>rw[q82q,hM,Nat.mul_one]
 case qc2=>exact HN.out
 case qc3=>exact Xhvo m
 case qc4=>unfold maxLen;omega
 case qc5=>omega
 case qc6=>omega
 intro v' w2 hown' hgrow _
 have ho:w2.ownsRow B 5 1 v' (l++m).length (byt (l++m)):=by rw[List.length_append,hM,zP44];exact hown'
 obtain ⟨hb2,hW,hS⟩:=wput hB hBw hbk hown hne hst hgrow ho
 have HW:=hide hW
 have HS:=hide hS
 have d0:w2.cell? ⟨b,0,none⟩=some (.pointer (some ⟨b,0,none⟩)):=by rw[Lib.cell_of_heap hb2];rfl
 have d1:w2.cell? ⟨b,1,none⟩=some v:=by rw[Lib.cell_of_heap hb2];rfl
 have f1:w2.frozen? ⟨b,1,none⟩=false:=Lib.frozen_of_heap hb2 1
 obtain ⟨ao,n',cap,rfl⟩:∃ao n' cap,v'=.slice ao n' cap:=by
  rcases hown'.2 with ⟨hv,_⟩|⟨g,cap,cur,hv,_⟩
  ·exact ⟨_,_,_,hv⟩
  ·exact ⟨_,_,_,hv⟩
 clear hW hS ho hown' hgrow
 go_wp2
 go_ret2
 exact ⟨rfl,HW.out,HS.out⟩
theorem qZ76 (B b:Nat) (l m:List UInt8) (w:World) (h:IsWr B b l w) (hlen:l.length+m.length≤140737488355328) (hBw:B≤w.heap.size) :
  Calls Tryz.prog 28 #[.pointer (some ⟨b,0,none⟩),.string (str m)] w fun e w'=>e=.returned (.tuple #[.int .i64 m.length,.nilIface])∧IsWr B b (l++m) w'∧WStep B b w w':=by
 obtain ⟨i0,hi,hz0,hz1,hz2⟩:=info_parts Tryz.infoByteW
 have HC:=hide (XMPW B b l w h)
 have hsm:(str m).size=m.length:=qzX5 m
 have hcm:Lib.strCells (str m)=byt m:=by simp[Lib.strCells,byt,str]
 go_enter Tryz.func28,Tryz.ntmps28
 go_wp2_with fail
 refine (HC.out).mono ?_
 rintro e w1 ⟨rfl,h1,hst,hsz,hke⟩
 obtain ⟨hB,v,hbk,hown,hne⟩:=h1
 rw[q82q] at hown
 have c0:w1.cell? ⟨b,0,none⟩=some (.pointer (some ⟨b,0,none⟩)):=by rw[Lib.cell_of_heap hbk];rfl
 have c1:w1.cell? ⟨b,1,none⟩=some v:=by rw[Lib.cell_of_heap hbk];rfl
 clear hke
 have HWN:=hide hown
 go_wp2_with (at_builtin;refine Lib.wpList_append_own_string _ rfl _ _ 74 9 rfl B 5 i0 Tryz.underlying74 Tryz.underlying9 hi hz0 hz1 hz2 _ _ _ rfl HWN.out (str m) rfl ?c3 ?c4 ?c5 ?_)
 case c3=>unfold maxLen;omega
 case c4=>omega
 case c5=>omega
 intro v' w2 hown' hgrow _
 have ho:w2.ownsRow B 5 1 v' (l++m).length (byt (l++m)):=by rw[List.length_append,zP44,←hcm,←hsm];exact hown'
 obtain ⟨hb2,hW,hS⟩:=wput hB hBw hbk hown hne hst hgrow ho
 have HW:=hide hW
 have HS:=hide hS
 have d0:w2.cell? ⟨b,0,none⟩=some (.pointer (some ⟨b,0,none⟩)):=by rw[Lib.cell_of_heap hb2];rfl
 have d1:w2.cell? ⟨b,1,none⟩=some v:=by rw[Lib.cell_of_heap hb2];rfl
 have f1:w2.frozen? ⟨b,1,none⟩=false:=Lib.frozen_of_heap hb2 1
 obtain ⟨ao,n',cap,rfl⟩:∃ao n' cap,v'=.slice ao n' cap:=by
  rcases hown'.2 with ⟨hv,_⟩|⟨g,cap,cur,hv,_⟩
  ·exact ⟨_,_,_,hv⟩
  ·exact ⟨_,_,_,hv⟩
 clear hW hS ho hown' hgrow
 go_wp2
 go_ret2
 exact ⟨rfl,HW.out,HS.out⟩
theorem XMmn {w:World} {g:Nat} {X:Int} (hg:w.heap[g]?=some (.cells #[.int .u8 (X % 4294967296 / 16777216),.int .u8 (X % 4294967296 / 65536 % 256),.int .u8 (X % 4294967296 / 256 % 256),.int .u8 (X % 256)] 5 (0,0))) :
  ∀j x,(num4 X)[j]?=some x→w.cell? ⟨g,0+j,none⟩=some (.int .u8 x.toNat):=by
 intro j x hj
 have hl:j<4:=(List.getElem?_eq_some_iff.1 hj).1
 rw[Lib.cell_of_heap hg,Nat.zero_add]
 have e:∀n:Nat,n<256→((UInt8.ofNat n).toNat:Int)=n:=fun n hn=>by simp[UInt8.toNat_ofNat'];omega
 rcases (show j=0∨j=1∨j=2∨j=3 by omega) with rfl|rfl|rfl|rfl
 all_goals
  simp only[num4,List.getElem?_cons_zero,List.getElem?_cons_succ,Option.some.injEq] at hj
  subst hj
  rw[e _ (by omega)]
  simp
  try omega
theorem j6hd (xs:List Int):(xs.flatMap num4).length=xs.length*4:=by
 induction xs with
 | nil=>rfl
 | cons x xs ih=>rw[List.flatMap_cons,List.length_append,ih,jp6u,List.length_cons];omega
theorem jycz (xs:List Int) (k:Nat) (hk:k<xs.length):(xs.take (k+1)).flatMap num4=(xs.take k).flatMap num4++num4 xs[k]:=by
 rw[List.take_succ_eq_append_getElem hk,List.flatMap_append];simp
theorem wints {B b:Nat} {xs:List Int} {w:World} {c g:Nat} {t:TypeId} {cs:Array Value} {ca:Nat} (hg:w.heap[g]?=some (.cells cs t (0,0))) (hb:g≠b) (ht:t≠5):Apart B b (.slice (some ⟨g,0,none⟩) c ca) w:=by
 intro k hk _
 simp only[Value.ownBlock,Option.some.injEq] at hk
 subst hk
 exact .inr ⟨hb,qs9Z hg ht⟩
theorem qfDp (B b:Nat) (l:List UInt8) (v:Value) (xs:List Int) (w:World) (h:IsWr B b l w) (hv:jCvT w v xs) (hap:xs=[]∨Apart B b v w) (hlen:l.length+xs.length*4≤140737488355328) (hBw:B≤w.heap.size) (hbw:b<w.heap.size) :
  Calls Tryz.prog 156 #[.pointer (some ⟨b,0,none⟩),v] w fun e w'=>e=.returned (.tuple #[])∧IsWr B b (l++xs.flatMap num4) w'∧WStep B b w w':=by
 have HV:=hide hv
 have HA:=hide hap
 obtain ⟨ao,ca,rfl,hxl,hc⟩:=hv
 have HW:=hide h
 clear h hap
 go_enter Tryz.func156,Tryz.ntmps156
 go_wp2_with fail
 go_loopw [9] (fun i wr=>∃k:Nat,k≤xs.length∧i=.int .i64 k∧IsWr B b (l++(xs.take k).flatMap num4) wr∧WStep B b w wr) (fun i _=>xs.length-(intOf i).toNat)
 case atStart=>exact ⟨0,Nat.zero_le _,rfl,by simpa using HW.out,WStep.refl _ _ _⟩
 case round =>
  clear HW
  obtain ⟨k,hk,rfl,hW,hS⟩:=hrel
  have HW:=hide hW
  have HS:=hide hS
  clear hW hS
  by_cases hlt:k<xs.length
  ·have hd:decide ((k:Int)<(xs.length:Int))=true:=by simp;omega
   obtain ⟨cb,off,rfl,hcb,hcell⟩:∃b off,ao=some ⟨b,off,none⟩∧b<wr.heap.size∧wr.cell? ⟨b,off+k,none⟩=some (.int .i64 xs[k]):=by
    obtain ⟨ao',ca',hv',_,h'⟩:=HV.out.step HS.out (HA.out.resolve_left (fun e=>by rw[e] at hlt;simp at hlt))
    cases hv'
    rcases h' with h'|⟨b,off,h1,h2,h3⟩
    ·rw[h'] at hlt;simp at hlt
    ·exact ⟨b,off,h1,h2,h3 k hlt⟩
   obtain ⟨X,hX⟩:∃X,xs[k]=X:=⟨_,rfl⟩
   rw[hX] at hcell
   clear hc
   go_wp2_with fail
   have HW1:=hide (HW.out.alloc (Obj.cells #[.int .u8 (X % 4294967296 / 16777216),.int .u8 (X % 4294967296 / 65536 % 256),.int .u8 (X % 4294967296 / 256 % 256),.int .u8 (X % 256)] 5))
   have HS1:=hide (HS.out.trans (WStep.alloc (b:=b) (Nat.le_trans hBw HS.out.bel.size) (Obj.cells #[.int .u8 (X % 4294967296 / 16777216),.int .u8 (X % 4294967296 / 65536 % 256),.int .u8 (X % 4294967296 / 256 % 256),.int .u8 (X % 256)] 5)))
   have hsz:=HS.out.bel.size
   have hg:=al1 wr (Obj.cells #[.int .u8 (X % 4294967296 / 16777216),.int .u8 (X % 4294967296 / 65536 % 256),.int .u8 (X % 4294967296 / 256 % 256),.int .u8 (X % 256)] 5)
   have hll:(l++(xs.take k).flatMap num4).length=l.length+k*4:=by rw[List.length_append,j6hd,List.length_take];omega
   refine (za1x B b (l++(xs.take k).flatMap num4) (num4 X) 4 4 wr.heap.size 0 _ HW1.out rfl (XMmn hg) (by omega) (by rw[hll];omega) (Nat.le_trans hBw HS1.out.bel.size)).mono ?_
   rintro e w2 ⟨rfl,hW2,hS2⟩
   have HW2:=hide (show IsWr B b (l++(xs.take (k+1)).flatMap num4) w2 by rw[jycz xs k hlt,hX,←List.append_assoc];exact hW2)
   have HS2:=hide (HS1.out.trans hS2)
   clear hW2 hS2 hg hll hcell hX hsz
   go_wp2
   go_roundw
   case rel=>exact ⟨k+1,hlt,by go_num,HW2.out,HS2.out⟩
   case measure=>simp[intOf];omega
  ·have hd:decide ((k:Int)<(xs.length:Int))=false:=by simp;omega
   obtain rfl:k=xs.length:=by omega
   go_wp2
   go_end0
   exact ⟨rfl,by have:=HW.out;rwa [List.take_length] at this,HS.out⟩
theorem zhLR (B b:Nat) (l:List UInt8) (v:Value) (xs:List Int) (w:World) (h:IsWr B b l w) (hv:jCvT w v xs) (hap:Apart B b v w) (hlen:l.length+xs.length*4≤140737488355328) (hBw:B≤w.heap.size) (hbw:b<w.heap.size) :
  Calls Tryz.prog 156 #[.pointer (some ⟨b,0,none⟩),v] w fun e w'=>e=.returned (.tuple #[])∧IsWr B b (l++xs.flatMap num4) w'∧WStep B b w w' :=
 qfDp B b l v xs w h hv (.inr hap) hlen hBw hbw
def zDfR (n:Plan):List Int:=[n.black 0,n.black 1,n.black 2,n.black 3]
def jgEL (n:Plan):List Int:=[n.gains 0,n.gains 1,n.gains 2]
def matL (n:Plan):List Int:=[n.matrix 0,n.matrix 1,n.matrix 2,n.matrix 3,n.matrix 4,n.matrix 5,n.matrix 6,n.matrix 7,n.matrix 8]
def planW (n:Plan):List UInt8 :=
 num4 n.phase++((zDfR n).flatMap num4++(num4 n.white++(listW pairW n.spots++((jgEL n).flatMap num4++((matL n).flatMap num4++(listW pairW n.curve++num4 n.amount))))))
theorem qbN1 {w:World} {b:Nat} {t:TypeId} {fr:Nat×Nat} {n:Plan} {sv cv:Value} (h:w.heap[b]?=some (.cells (planA n sv cv) t fr)):jCvT w (.slice (some ⟨b,1,none⟩) 4 4) (zDfR n):=by
 refine ⟨_,_,rfl,by simp[zDfR],.inr ⟨b,1,rfl,(Array.getElem?_eq_some_iff.1 h).1,fun j hj=>?_⟩⟩
 rw[Lib.cell_of_heap h]
 rcases (show j=0∨j=1∨j=2∨j=3 by have:j<4:=hj;omega) with rfl|rfl|rfl|rfl<;>rfl
theorem zumn {w:World} {b:Nat} {t:TypeId} {fr:Nat×Nat} {n:Plan} {sv cv:Value} (h:w.heap[b]?=some (.cells (planA n sv cv) t fr)):jCvT w (.slice (some ⟨b,7,none⟩) 3 3) (jgEL n):=by
 refine ⟨_,_,rfl,by simp[jgEL],.inr ⟨b,7,rfl,(Array.getElem?_eq_some_iff.1 h).1,fun j hj=>?_⟩⟩
 rw[Lib.cell_of_heap h]
 rcases (show j=0∨j=1∨j=2 by have:j<3:=hj;omega) with rfl|rfl|rfl<;>rfl
theorem XdZl {w:World} {b:Nat} {t:TypeId} {fr:Nat×Nat} {n:Plan} {sv cv:Value} (h:w.heap[b]?=some (.cells (planA n sv cv) t fr)):jCvT w (.slice (some ⟨b,10,none⟩) 9 9) (matL n):=by
 refine ⟨_,_,rfl,by simp[matL],.inr ⟨b,10,rfl,(Array.getElem?_eq_some_iff.1 h).1,fun j hj=>?_⟩⟩
 rw[Lib.cell_of_heap h]
 rcases (show j=0∨j=1∨j=2∨j=3∨j=4∨j=5∨j=6∨j=7∨j=8 by have:j<9:=hj;omega) with rfl|rfl|rfl|rfl|rfl|rfl|rfl|rfl|rfl<;>rfl
theorem zYeP {B b:Nat} {w:World} {c g off ca:Nat} {t:TypeId} {cs:Array Value} {fr:Nat×Nat} (hg:w.heap[g]?=some (.cells cs t fr)) (hb:g≠b) (ht:t≠5):Apart B b (.slice (some ⟨g,off,none⟩) c ca) w:=by
 intro k hk _
 simp only[Value.ownBlock,Option.some.injEq] at hk
 subst hk
 exact .inr ⟨hb,qs9Z hg ht⟩
theorem IsPts.step {B b:Nat} {u:Value} {ls:List Pt} {w w':World} (h:IsPts w u ls) (hs:WStep B b w w') (ha:Apart B b u w):IsPts w' u ls:=by
 obtain ⟨ao,cap,rfl,hl,h⟩:=h
 refine ⟨ao,cap,rfl,hl,?_⟩
 rcases h with h|⟨c,off,rfl,hlt,hc⟩
 ·exact .inl h
 ·have e:=hs.block hlt (ha c rfl hlt)
  refine .inr ⟨c,off,rfl,Nat.lt_of_lt_of_le hlt hs.bel.size,fun j hj=>?_⟩
  rw[World.cell?_of_block (a:=⟨c,off+j*2,none⟩) e,World.cell?_of_block (a:=⟨c,off+j*2+1,none⟩) e]
  exact hc j hj
theorem zHJ3 (ls:List Pt):(ls.flatMap pairW).length=ls.length*8:=by
 induction ls with
 | nil=>rfl
 | cons x xs ih=>rw[List.flatMap_cons,List.length_append,ih,List.length_cons,pairW,List.length_append,jp6u,jp6u];omega
theorem z6cB (ls:List Pt) (k:Nat) (hk:k<ls.length):(ls.take (k+1)).flatMap pairW=(ls.take k).flatMap pairW++pairW (ptAt ls k):=by
 rw[List.take_succ_eq_append_getElem hk,List.flatMap_append,jU85];simp
theorem X2Cx (B b:Nat) (l m:List UInt8) (w:World) (h:IsWr B b l w) (hlen:l.length+m.length+4≤140737488355328) (hBw:B≤w.heap.size) (hbw:b<w.heap.size) :
  Calls Tryz.prog 155 #[.pointer (some ⟨b,0,none⟩),.string (str m)] w fun e w'=>e=.returned (.tuple #[])∧IsWr B b (l++textW m) w'∧WStep B b w w':=by
 have hsm:(str m).size=m.length:=qzX5 m
 have HW:=hide (h.alloc (Obj.cells #[.int .i64 m.length] 3))
 have HS:=hide (WStep.alloc (b:=b) hBw (Obj.cells #[.int .i64 m.length] 3))
 have hg:=al1 w (Obj.cells #[.int .i64 m.length] 3)
 have HI:=hide (ints1 w m.length)
 have HA:=hide (wints (B:=B) (b:=b) (c:=1) (ca:=1) (xs:=[]) hg (by omega) (by decide))
 have hsz:B≤(w.alloc (Obj.cells #[.int .i64 m.length] 3)).heap.size:=Nat.le_trans hBw HS.out.bel.size
 have hsb:b<(w.alloc (Obj.cells #[.int .i64 m.length] 3)).heap.size:=Nat.lt_of_lt_of_le hbw HS.out.bel.size
 clear h hg
 go_enter Tryz.func155,Tryz.ntmps155
 go_wp2_with fail
 refine (zhLR B b l _ [(m.length:Int)] _ HW.out HI.out HA.out (by simp;omega) hsz hsb).mono ?_
 rintro e w1 ⟨rfl,hW1,hS1⟩
 have HW1:=hide hW1
 have HS1:=hide (HS.out.trans hS1)
 clear hW1 hS1 HW HI HA HS
 go_wp2_with fail
 refine (qZ76 B b _ m _ HW1.out (by rw[List.length_append,j6hd];simp;omega) (Nat.le_trans hBw HS1.out.bel.size)).mono ?_
 rintro e w2 ⟨rfl,hW2,hS2⟩
 have HW2:=hide (show IsWr B b (l++textW m) w2 by have:=hW2;simpa [textW,List.append_assoc] using this)
 have HS2:=hide (HS1.out.trans hS2)
 go_wp2
 go_end0
 exact ⟨rfl,HW2.out,HS2.out⟩
theorem zu1k (B b:Nat) (l:List UInt8) (n:Plan) (sv cv:Value) (w:World) (h:IsWr B b l w) (hp:X1uD w n sv cv) (hs:n.spots=[]∨Apart B b sv w) (hc:n.curve=[]∨Apart B b cv w) (hl:l.length≤1099511627776) (h1:n.spots.length≤1048576) (h2:n.curve.length≤1048576) (hBw:B≤w.heap.size) (hbw:b<w.heap.size) :
  Calls Tryz.prog 157 #[.pointer (some ⟨b,0,none⟩),.agg (planA n sv cv)] w fun e w'=>e=.returned (.tuple #[])∧IsWr B b (l++planW n) w'∧WStep B b w w':=by
 have HP:=hide hp
 have HAS:=hide hs
 have HAC:=hide hc
 obtain ⟨⟨lo,lc,rfl,hll,_⟩,⟨ko,kc,rfl,hkl,_⟩⟩:=hp
 have a1:=al1 w (Obj.cells (planA n (.slice lo n.spots.length lc) (.slice ko n.curve.length kc)) 51)
 have hkb:w.heap.size≠b:=by omega
 have HS0:=hide (WStep.alloc (b:=b) hBw (Obj.cells (planA n (.slice lo n.spots.length lc) (.slice ko n.curve.length kc)) 51))
 have HW0:=hide (h.alloc (Obj.cells (planA n (.slice lo n.spots.length lc) (.slice ko n.curve.length kc)) 51))
 have HNB:=hide (qs9Z a1 (by decide))
 have hlt:=(Array.getElem?_eq_some_iff.1 a1).1
 clear h hs hc
 go_enter Tryz.func157,Tryz.ntmps157
 obtain ⟨c0,c1,c2,c3,c4,c5,c6,c7,c8,c9,c10,c11,c12,c13,c14,c15,c16,c17,c18,c19,c20⟩:=qH9I a1
 go_wp2_with fail
 clear c0 c1 c2 c3 c4 c5 c6 c7 c8 c9 c10 c11 c12 c13 c14 c15 c16 c17 c18 c19 c20
 have hB0:=HS0.out.bel.size
 have hB0:B≤(w.alloc (Obj.cells (planA n (.slice lo n.spots.length lc) (.slice ko n.curve.length kc)) 51)).heap.size:=Nat.le_trans hBw HS0.out.bel.size
 have hb0:b<(w.alloc (Obj.cells (planA n (.slice lo n.spots.length lc) (.slice ko n.curve.length kc)) 51)).heap.size:=Nat.lt_of_lt_of_le hbw HS0.out.bel.size
 have HSZ:=hide (show (w.alloc (Obj.cells (planA n (.slice lo n.spots.length lc) (.slice ko n.curve.length kc)) 51)).heap.size=w.heap.size+1 from World.size_alloc _ _)
 generalize w.alloc (Obj.cells (planA n (.slice lo n.spots.length lc) (.slice ko n.curve.length kc)) 51)=U at *
 have HBK:=hide (show ∀V,WStep B b U V→V.heap[w.heap.size]?=some (.cells (planA n (.slice lo n.spots.length lc) (.slice ko n.curve.length kc)) 51 (0,0)) from fun V hV=>(hV.block hlt (.inr ⟨hkb,HNB.out⟩)).trans a1)
 have HST:=hide (WStep.refl B b U)
 have HW:=HW0
 have HL:=hide hl
 clear a1 HW0 hl
 have hBV:B≤U.heap.size:=Nat.le_trans hB0 HST.out.bel.size
 have hbV:b<U.heap.size:=Nat.lt_of_lt_of_le hb0 HST.out.bel.size
 have HG:=hide (WStep.alloc (b:=b) hBV (Obj.cells #[.int .i64 n.phase] 3))
 have HWA:=hide (HW.out.alloc (Obj.cells #[.int .i64 n.phase] 3))
 have HIA:=hide (ints1 U n.phase)
 have hga:=al1 U (Obj.cells #[.int .i64 n.phase] 3)
 have HAA:=hide (wints (B:=B) (b:=b) (c:=1) (ca:=1) (xs:=[]) hga (by omega) (by decide))
 have HLA:=hide (show l.length+[(n.phase:Int)].length*4≤140737488355328 by have:=HL.out;simp;omega)
 have hBA:=Nat.le_trans hBV HG.out.bel.size
 have hbA:=Nat.lt_of_lt_of_le hbV HG.out.bel.size
 clear hga
 rw[HSZ.out] at HIA HAA
 generalize U.alloc (Obj.cells #[.int .i64 n.phase] 3)=VA at *
 refine (zhLR B b l _ [(n.phase:Int)] _ HWA.out HIA.out HAA.out HLA.out hBA hbA).mono ?_
 rintro e V1 ⟨rfl,hW',hS'⟩
 replace HST:=hide (HST.out.trans (HG.out.trans hS'))
 obtain ⟨L1,HQ1⟩:∃L1,Hid (l++[(n.phase:Int)].flatMap num4=L1):=⟨_,rfl⟩
 rw[HQ1.out] at hW'
 replace HW:=hide hW'
 replace HL:=hide (show L1.length≤1099511627776+4 by rw[←HQ1.out,List.length_append,j6hd];have:=HL.out;simp;omega)
 clear hW' hS' HG hBV hbV HWA HIA HAA HLA hBA hbA
 obtain ⟨c0,c1,c2,c3,c4,c5,c6,c7,c8,c9,c10,c11,c12,c13,c14,c15,c16,c17,c18,c19,c20⟩:=qH9I (HBK.out V1 HST.out)
 go_wp2_with fail
 clear c0 c1 c2 c3 c4 c5 c6 c7 c8 c9 c10 c11 c12 c13 c14 c15 c16 c17 c18 c19 c20
 have hBV:B≤V1.heap.size:=Nat.le_trans hB0 HST.out.bel.size
 have hbV:b<V1.heap.size:=Nat.lt_of_lt_of_le hb0 HST.out.bel.size
 refine (zhLR B b L1 _ (zDfR n) _ HW.out (qbN1 (HBK.out _ HST.out)) (zYeP (HBK.out _ HST.out) hkb (by decide)) (by have:=HL.out;simp[zDfR];omega) hBV hbV).mono ?_
 rintro e V2 ⟨rfl,hW',hS'⟩
 replace HST:=hide (HST.out.trans hS')
 obtain ⟨L2,HQ2⟩:∃L2,Hid (L1++(zDfR n).flatMap num4=L2):=⟨_,rfl⟩
 rw[HQ2.out] at hW'
 replace HW:=hide hW'
 replace HL:=hide (show L2.length≤1099511627776+20 by rw[←HQ2.out,List.length_append,j6hd];have:=HL.out;simp[zDfR];omega)
 clear hW' hS' hBV hbV
 obtain ⟨c0,c1,c2,c3,c4,c5,c6,c7,c8,c9,c10,c11,c12,c13,c14,c15,c16,c17,c18,c19,c20⟩:=qH9I (HBK.out V2 HST.out)
 go_wp2_with fail
 clear c0 c1 c2 c3 c4 c5 c6 c7 c8 c9 c10 c11 c12 c13 c14 c15 c16 c17 c18 c19 c20
 have hBV:B≤V2.heap.size:=Nat.le_trans hB0 HST.out.bel.size
 have hbV:b<V2.heap.size:=Nat.lt_of_lt_of_le hb0 HST.out.bel.size
 have HG:=hide (WStep.alloc (b:=b) hBV (Obj.cells #[.int .i64 n.white] 3))
 have HWA:=hide (HW.out.alloc (Obj.cells #[.int .i64 n.white] 3))
 have HIA:=hide (ints1 V2 n.white)
 have hga:=al1 V2 (Obj.cells #[.int .i64 n.white] 3)
 have HAA:=hide (wints (B:=B) (b:=b) (c:=1) (ca:=1) (xs:=[]) hga (by omega) (by decide))
 have HLA:=hide (show L2.length+[(n.white:Int)].length*4≤140737488355328 by have:=HL.out;simp;omega)
 have hBA:=Nat.le_trans hBV HG.out.bel.size
 have hbA:=Nat.lt_of_lt_of_le hbV HG.out.bel.size
 clear hga
 generalize V2.alloc (Obj.cells #[.int .i64 n.white] 3)=VA at *
 refine (zhLR B b L2 _ [(n.white:Int)] _ HWA.out HIA.out HAA.out HLA.out hBA hbA).mono ?_
 rintro e V3 ⟨rfl,hW',hS'⟩
 replace HST:=hide (HST.out.trans (HG.out.trans hS'))
 obtain ⟨L3,HQ3⟩:∃L3,Hid (L2++[(n.white:Int)].flatMap num4=L3):=⟨_,rfl⟩
 rw[HQ3.out] at hW'
 replace HW:=hide hW'
 replace HL:=hide (show L3.length≤1099511627776+24 by rw[←HQ3.out,List.length_append,j6hd];have:=HL.out;simp;omega)
 clear hW' hS' HG hBV hbV HWA HIA HAA HLA hBA hbA
 obtain ⟨c0,c1,c2,c3,c4,c5,c6,c7,c8,c9,c10,c11,c12,c13,c14,c15,c16,c17,c18,c19,c20⟩:=qH9I (HBK.out V3 HST.out)
 go_wp2_with fail
 clear c0 c1 c2 c3 c4 c5 c6 c7 c8 c9 c10 c11 c12 c13 c14 c15 c16 c17 c18 c19 c20
 have hBV:B≤V3.heap.size:=Nat.le_trans hB0 HST.out.bel.size
 have hbV:b<V3.heap.size:=Nat.lt_of_lt_of_le hb0 HST.out.bel.size
 have HG:=hide (WStep.alloc (b:=b) hBV (Obj.cells #[.int .i64 n.spots.length] 3))
 have HWA:=hide (HW.out.alloc (Obj.cells #[.int .i64 n.spots.length] 3))
 have HIA:=hide (ints1 V3 n.spots.length)
 have hga:=al1 V3 (Obj.cells #[.int .i64 n.spots.length] 3)
 have HAA:=hide (wints (B:=B) (b:=b) (c:=1) (ca:=1) (xs:=[]) hga (by omega) (by decide))
 have HLA:=hide (show L3.length+[(n.spots.length:Int)].length*4≤140737488355328 by have:=HL.out;simp;omega)
 have hBA:=Nat.le_trans hBV HG.out.bel.size
 have hbA:=Nat.lt_of_lt_of_le hbV HG.out.bel.size
 clear hga
 generalize V3.alloc (Obj.cells #[.int .i64 n.spots.length] 3)=VA at *
 refine (zhLR B b L3 _ [(n.spots.length:Int)] _ HWA.out HIA.out HAA.out HLA.out hBA hbA).mono ?_
 rintro e V4 ⟨rfl,hW',hS'⟩
 replace HST:=hide (HST.out.trans (HG.out.trans hS'))
 obtain ⟨L4,HQ4⟩:∃L4,Hid (L3++[(n.spots.length:Int)].flatMap num4=L4):=⟨_,rfl⟩
 rw[HQ4.out] at hW'
 replace HW:=hide hW'
 replace HL:=hide (show L4.length≤1099511627776+28 by rw[←HQ4.out,List.length_append,j6hd];have:=HL.out;simp;omega)
 clear hW' hS' HG hBV hbV HWA HIA HAA HLA hBA hbA
 obtain ⟨c0,c1,c2,c3,c4,c5,c6,c7,c8,c9,c10,c11,c12,c13,c14,c15,c16,c17,c18,c19,c20⟩:=qH9I (HBK.out V4 HST.out)
 go_wp2_with fail
 clear c0 c1 c2 c3 c4 c5 c6 c7 c8 c9 c10 c11 c12 c13 c14 c15 c16 c17 c18 c19 c20
 go_loopw [31] (fun i wr=>∃k:Nat,k≤n.spots.length∧i=.int .i64 k∧IsWr B b (L4++(n.spots.take k).flatMap pairW) wr∧WStep B b U wr) (fun i _=>n.spots.length-(intOf i).toNat)
 case atStart=>exact ⟨0,Nat.zero_le _,rfl,by simpa using HW.out,HST.out⟩
 case round =>
  obtain ⟨k,hk,rfl,hW,hS⟩:=hrel
  have HLL:=HL
  clear HST HW
  have HST:=hide hS
  have HW:=hide hW
  clear hW hS
  by_cases hlt:k<n.spots.length
  ·have hd:decide ((k:Int)<(n.spots.length:Int))=true:=by simp;omega
   obtain ⟨bq,oq,rfl,hbq,d0,d1⟩:=(HP.out.spots.step (HS0.out.trans HST.out) (HAS.out.resolve_left (fun e=>by rw[e] at hlt;simp at hlt))).at k hlt
   obtain ⟨⟨x,y⟩,hxy⟩:∃t,ptAt n.spots k=t:=⟨_,rfl⟩
   rw[hxy] at d0 d1
   have g1:=al1 wr (Obj.cells #[.int .i64 x,.int .i64 y] 97)
   obtain ⟨e0,e1⟩:=bx2 g1
   have hBV:B≤wr.heap.size:=Nat.le_trans hB0 HST.out.bel.size
   have hbV:b<wr.heap.size:=Nat.lt_of_lt_of_le hb0 HST.out.bel.size
   have HG:=hide (WStep.alloc (b:=b) hBV (Obj.cells #[.int .i64 x,.int .i64 y] 97))
   have HWA:=hide (HW.out.alloc (Obj.cells #[.int .i64 x,.int .i64 y] 97))
   go_wp2_with fail
   clear d0 d1 e0 e1 g1
   have hBX:B≤(wr.alloc (Obj.cells #[.int .i64 x,.int .i64 y] 97)).heap.size:=Nat.le_trans hBV HG.out.bel.size
   have hbX:b<(wr.alloc (Obj.cells #[.int .i64 x,.int .i64 y] 97)).heap.size:=Nat.lt_of_lt_of_le hbV HG.out.bel.size
   have HI:=hide (zYDK (wr.alloc (Obj.cells #[.int .i64 x,.int .i64 y] 97)) x y)
   have HK:=hide (wints (B:=B) (b:=b) (c:=2) (ca:=2) (xs:=[]) (al1 (wr.alloc (Obj.cells #[.int .i64 x,.int .i64 y] 97)) (Obj.cells #[.int .i64 x,.int .i64 y] 3)) (by omega) (by decide))
   rw[World.size_alloc] at HI HK
   generalize wr.alloc (Obj.cells #[.int .i64 x,.int .i64 y] 97)=X at *
   have HG2:=hide (WStep.alloc (b:=b) hBX (Obj.cells #[.int .i64 x,.int .i64 y] 3))
   refine (zhLR B b _ _ [x,y] _ (HWA.out.alloc (Obj.cells #[.int .i64 x,.int .i64 y] 3)) HI.out HK.out (by have:=HLL.out;rw[List.length_append,zHJ3,List.length_take];simp;omega) (Nat.le_trans hBX HG2.out.bel.size) (Nat.lt_of_lt_of_le hbX HG2.out.bel.size)).mono ?_
   rintro e X2 ⟨rfl,hW',hS'⟩
   have HST2:=hide (HST.out.trans (HG.out.trans (HG2.out.trans hS')))
   have HW2:=hide (show IsWr B b (L4++(n.spots.take (k+1)).flatMap pairW) X2 by rw[z6cB _ k hlt,hxy,←List.append_assoc];exact hW')
   clear hW' hS' HG HG2 HWA HI HK hBV hbV hBX hbX
   go_wp2
   go_roundw
   case rel=>exact ⟨k+1,hlt,by go_num,HW2.out,HST2.out⟩
   case measure=>simp[intOf];omega
  ·have hd:decide ((k:Int)<(n.spots.length:Int))=false:=by simp;omega
   obtain rfl:k=n.spots.length:=by omega
   rw[List.take_length] at HW
   obtain ⟨L5,HQ5⟩:∃L5,Hid (L4++n.spots.flatMap pairW=L5):=⟨_,rfl⟩
   rw[HQ5.out] at HW
   clear HL
   have HL:=hide (show L5.length≤1099511627776+8388636 by rw[←HQ5.out,List.length_append,zHJ3];have:=HLL.out;omega)
   clear HLL
   generalize wr=VS at *
   obtain ⟨c0,c1,c2,c3,c4,c5,c6,c7,c8,c9,c10,c11,c12,c13,c14,c15,c16,c17,c18,c19,c20⟩:=qH9I (HBK.out VS HST.out)
   go_wp2_with fail
   clear c0 c1 c2 c3 c4 c5 c6 c7 c8 c9 c10 c11 c12 c13 c14 c15 c16 c17 c18 c19 c20
   have hBV:B≤VS.heap.size:=Nat.le_trans hB0 HST.out.bel.size
   have hbV:b<VS.heap.size:=Nat.lt_of_lt_of_le hb0 HST.out.bel.size
   refine (zhLR B b L5 _ (jgEL n) _ HW.out (zumn (HBK.out _ HST.out)) (zYeP (HBK.out _ HST.out) hkb (by decide)) (by have:=HL.out;simp[jgEL];omega) hBV hbV).mono ?_
   rintro e V6 ⟨rfl,hW',hS'⟩
   replace HST:=hide (HST.out.trans hS')
   obtain ⟨L6,HQ6⟩:∃L6,Hid (L5++(jgEL n).flatMap num4=L6):=⟨_,rfl⟩
   rw[HQ6.out] at hW'
   replace HW:=hide hW'
   replace HL:=hide (show L6.length≤1099511627776+8388648 by rw[←HQ6.out,List.length_append,j6hd];have:=HL.out;simp[jgEL];omega)
   clear hW' hS' hBV hbV
   obtain ⟨c0,c1,c2,c3,c4,c5,c6,c7,c8,c9,c10,c11,c12,c13,c14,c15,c16,c17,c18,c19,c20⟩:=qH9I (HBK.out V6 HST.out)
   go_wp2_with fail
   clear c0 c1 c2 c3 c4 c5 c6 c7 c8 c9 c10 c11 c12 c13 c14 c15 c16 c17 c18 c19 c20
   have hBV:B≤V6.heap.size:=Nat.le_trans hB0 HST.out.bel.size
   have hbV:b<V6.heap.size:=Nat.lt_of_lt_of_le hb0 HST.out.bel.size
   refine (zhLR B b L6 _ (matL n) _ HW.out (XdZl (HBK.out _ HST.out)) (zYeP (HBK.out _ HST.out) hkb (by decide)) (by have:=HL.out;simp[matL];omega) hBV hbV).mono ?_
   rintro e V7 ⟨rfl,hW',hS'⟩
   replace HST:=hide (HST.out.trans hS')
   obtain ⟨L7,HQ7⟩:∃L7,Hid (L6++(matL n).flatMap num4=L7):=⟨_,rfl⟩
   rw[HQ7.out] at hW'
   replace HW:=hide hW'
   replace HL:=hide (show L7.length≤1099511627776+8388684 by rw[←HQ7.out,List.length_append,j6hd];have:=HL.out;simp[matL];omega)
   clear hW' hS' hBV hbV
   obtain ⟨c0,c1,c2,c3,c4,c5,c6,c7,c8,c9,c10,c11,c12,c13,c14,c15,c16,c17,c18,c19,c20⟩:=qH9I (HBK.out V7 HST.out)
   go_wp2_with fail
   clear c0 c1 c2 c3 c4 c5 c6 c7 c8 c9 c10 c11 c12 c13 c14 c15 c16 c17 c18 c19 c20
   have hBV:B≤V7.heap.size:=Nat.le_trans hB0 HST.out.bel.size
   have hbV:b<V7.heap.size:=Nat.lt_of_lt_of_le hb0 HST.out.bel.size
   have HG:=hide (WStep.alloc (b:=b) hBV (Obj.cells #[.int .i64 n.curve.length] 3))
   have HWA:=hide (HW.out.alloc (Obj.cells #[.int .i64 n.curve.length] 3))
   have HIA:=hide (ints1 V7 n.curve.length)
   have hga:=al1 V7 (Obj.cells #[.int .i64 n.curve.length] 3)
   have HAA:=hide (wints (B:=B) (b:=b) (c:=1) (ca:=1) (xs:=[]) hga (by omega) (by decide))
   have HLA:=hide (show L7.length+[(n.curve.length:Int)].length*4≤140737488355328 by have:=HL.out;simp;omega)
   have hBA:=Nat.le_trans hBV HG.out.bel.size
   have hbA:=Nat.lt_of_lt_of_le hbV HG.out.bel.size
   clear hga
   generalize V7.alloc (Obj.cells #[.int .i64 n.curve.length] 3)=VA at *
   refine (zhLR B b L7 _ [(n.curve.length:Int)] _ HWA.out HIA.out HAA.out HLA.out hBA hbA).mono ?_
   rintro e V8 ⟨rfl,hW',hS'⟩
   replace HST:=hide (HST.out.trans (HG.out.trans hS'))
   obtain ⟨L8,HQ8⟩:∃L8,Hid (L7++[(n.curve.length:Int)].flatMap num4=L8):=⟨_,rfl⟩
   rw[HQ8.out] at hW'
   replace HW:=hide hW'
   replace HL:=hide (show L8.length≤1099511627776+8388688 by rw[←HQ8.out,List.length_append,j6hd];have:=HL.out;simp;omega)
   clear hW' hS' HG hBV hbV HWA HIA HAA HLA hBA hbA
   obtain ⟨c0,c1,c2,c3,c4,c5,c6,c7,c8,c9,c10,c11,c12,c13,c14,c15,c16,c17,c18,c19,c20⟩:=qH9I (HBK.out V8 HST.out)
   go_wp2_with fail
   clear c0 c1 c2 c3 c4 c5 c6 c7 c8 c9 c10 c11 c12 c13 c14 c15 c16 c17 c18 c19 c20
   go_loopw [60] (fun i wr=>∃k:Nat,k≤n.curve.length∧i=.int .i64 k∧IsWr B b (L8++(n.curve.take k).flatMap pairW) wr∧WStep B b U wr) (fun i _=>n.curve.length-(intOf i).toNat)
   case atStart=>exact ⟨0,Nat.zero_le _,rfl,by simpa using HW.out,HST.out⟩
   case round =>
    obtain ⟨k,hk,rfl,hW,hS⟩:=hrel
    have HLL:=HL
    clear HST HW
    have HST:=hide hS
    have HW:=hide hW
    clear hW hS
    by_cases hlt:k<n.curve.length
    ·have hd:decide ((k:Int)<(n.curve.length:Int))=true:=by simp;omega
     obtain ⟨bq,oq,rfl,hbq,d0,d1⟩:=(HP.out.curve.step (HS0.out.trans HST.out) (HAC.out.resolve_left (fun e=>by rw[e] at hlt;simp at hlt))).at k hlt
     obtain ⟨⟨x,y⟩,hxy⟩:∃t,ptAt n.curve k=t:=⟨_,rfl⟩
     rw[hxy] at d0 d1
     have g1:=al1 wr (Obj.cells #[.int .i64 x,.int .i64 y] 66)
     obtain ⟨e0,e1⟩:=bx2 g1
     have hBV:B≤wr.heap.size:=Nat.le_trans hB0 HST.out.bel.size
     have hbV:b<wr.heap.size:=Nat.lt_of_lt_of_le hb0 HST.out.bel.size
     have HG:=hide (WStep.alloc (b:=b) hBV (Obj.cells #[.int .i64 x,.int .i64 y] 66))
     have HWA:=hide (HW.out.alloc (Obj.cells #[.int .i64 x,.int .i64 y] 66))
     go_wp2_with fail
     clear d0 d1 e0 e1 g1
     have hBX:B≤(wr.alloc (Obj.cells #[.int .i64 x,.int .i64 y] 66)).heap.size:=Nat.le_trans hBV HG.out.bel.size
     have hbX:b<(wr.alloc (Obj.cells #[.int .i64 x,.int .i64 y] 66)).heap.size:=Nat.lt_of_lt_of_le hbV HG.out.bel.size
     have HI:=hide (zYDK (wr.alloc (Obj.cells #[.int .i64 x,.int .i64 y] 66)) x y)
     have HK:=hide (wints (B:=B) (b:=b) (c:=2) (ca:=2) (xs:=[]) (al1 (wr.alloc (Obj.cells #[.int .i64 x,.int .i64 y] 66)) (Obj.cells #[.int .i64 x,.int .i64 y] 3)) (by omega) (by decide))
     rw[World.size_alloc] at HI HK
     generalize wr.alloc (Obj.cells #[.int .i64 x,.int .i64 y] 66)=X at *
     have HG2:=hide (WStep.alloc (b:=b) hBX (Obj.cells #[.int .i64 x,.int .i64 y] 3))
     refine (zhLR B b _ _ [x,y] _ (HWA.out.alloc (Obj.cells #[.int .i64 x,.int .i64 y] 3)) HI.out HK.out (by have:=HLL.out;rw[List.length_append,zHJ3,List.length_take];simp;omega) (Nat.le_trans hBX HG2.out.bel.size) (Nat.lt_of_lt_of_le hbX HG2.out.bel.size)).mono ?_
     rintro e X2 ⟨rfl,hW',hS'⟩
     have HST2:=hide (HST.out.trans (HG.out.trans (HG2.out.trans hS')))
     have HW2:=hide (show IsWr B b (L8++(n.curve.take (k+1)).flatMap pairW) X2 by rw[z6cB _ k hlt,hxy,←List.append_assoc];exact hW')
     clear hW' hS' HG HG2 HWA HI HK hBV hbV hBX hbX
     go_wp2
     go_roundw
     case rel=>exact ⟨k+1,hlt,by go_num,HW2.out,HST2.out⟩
     case measure=>simp[intOf];omega
    ·have hd:decide ((k:Int)<(n.curve.length:Int))=false:=by simp;omega
     obtain rfl:k=n.curve.length:=by omega
     rw[List.take_length] at HW
     obtain ⟨L9,HQ9⟩:∃L9,Hid (L8++n.curve.flatMap pairW=L9):=⟨_,rfl⟩
     rw[HQ9.out] at HW
     clear HL
     have HL:=hide (show L9.length≤1099511627776+16777296 by rw[←HQ9.out,List.length_append,zHJ3];have:=HLL.out;omega)
     clear HLL
     generalize wr=VC at *
     obtain ⟨c0,c1,c2,c3,c4,c5,c6,c7,c8,c9,c10,c11,c12,c13,c14,c15,c16,c17,c18,c19,c20⟩:=qH9I (HBK.out VC HST.out)
     go_wp2_with fail
     clear c0 c1 c2 c3 c4 c5 c6 c7 c8 c9 c10 c11 c12 c13 c14 c15 c16 c17 c18 c19 c20
     have hBV:B≤VC.heap.size:=Nat.le_trans hB0 HST.out.bel.size
     have hbV:b<VC.heap.size:=Nat.lt_of_lt_of_le hb0 HST.out.bel.size
     have HG:=hide (WStep.alloc (b:=b) hBV (Obj.cells #[.int .i64 n.amount] 3))
     have HWA:=hide (HW.out.alloc (Obj.cells #[.int .i64 n.amount] 3))
     have HIA:=hide (ints1 VC n.amount)
     have hga:=al1 VC (Obj.cells #[.int .i64 n.amount] 3)
     have HAA:=hide (wints (B:=B) (b:=b) (c:=1) (ca:=1) (xs:=[]) hga (by omega) (by decide))
     have HLA:=hide (show L9.length+[(n.amount:Int)].length*4≤140737488355328 by have:=HL.out;simp;omega)
     have hBA:=Nat.le_trans hBV HG.out.bel.size
     have hbA:=Nat.lt_of_lt_of_le hbV HG.out.bel.size
     clear hga
     generalize VC.alloc (Obj.cells #[.int .i64 n.amount] 3)=VA at *
     refine (zhLR B b L9 _ [(n.amount:Int)] _ HWA.out HIA.out HAA.out HLA.out hBA hbA).mono ?_
     rintro e V10 ⟨rfl,hW',hS'⟩
     replace HST:=hide (HST.out.trans (HG.out.trans hS'))
     obtain ⟨L10,HQ10⟩:∃L10,Hid (L9++[(n.amount:Int)].flatMap num4=L10):=⟨_,rfl⟩
     rw[HQ10.out] at hW'
     replace HW:=hide hW'
     replace HL:=hide (show L10.length≤1099511627776+16777300 by rw[←HQ10.out,List.length_append,j6hd];have:=HL.out;simp;omega)
     clear hW' hS' HG hBV hbV HWA HIA HAA HLA hBA hbA
     have HF:=hide (show IsWr B b (l++planW n) V10 by
      have e:l++planW n=L10:=by
       rw[←HQ10.out,←HQ9.out,←HQ8.out,←HQ7.out,←HQ6.out,←HQ5.out,←HQ4.out,←HQ3.out,←HQ2.out,←HQ1.out]
       simp[planW,listW,List.append_assoc]
      rw[e];exact HW.out)
     have HSF:=hide (HS0.out.trans HST.out)
     go_wp2
     go_end0
     exact ⟨rfl,HF.out,HSF.out⟩
def parN (r:RawF) (k:Nat):Nat:=k*r.rows.toNat*r.w.toNat
def parL (r:RawF) (zs:List Int) (k:Nat):List Int:=(zs.drop (parN r k)).take (rowN r k*r.w).toNat
def fiOk (r:RawF) (zs:List Int) (k:Nat):Bool:=(List.range k).all fun i=>decide (wsE r (parL r zs i) (rowN r i)=0)
def fiS (r:RawF) (zs:List Int) (k:Nat):List (List UInt8):=(List.range k).map fun i=>wsS r (parL r zs i) (rowN r i)
theorem qTWu (r:RawF) (zs:List Int) (k:Nat):fiOk r zs (k+1)=(fiOk r zs k && decide (wsE r (parL r zs k) (rowN r k)=0)):=by simp[fiOk,List.range_succ]
theorem XZj5 (r:RawF) (zs:List Int) (k:Nat):fiS r zs (k+1)=fiS r zs k++[wsS r (parL r zs k) (rowN r k)]:=by simp[fiS,List.range_succ]
theorem X9zO {r:RawF} {zs:List Int} {k n:Nat} (h:k<n) (hk:wsE r (parL r zs k) (rowN r k)≠0):fiOk r zs n=false:=by
 rw[Bool.eq_false_iff];intro he
 have:=List.all_eq_true.1 he k (List.mem_range.2 h)
 exact hk (by simpa using this)
def fitP (r:RawF) (PW PH:Int) (zs:List Int):Bool:=q0fM PW PH zs && decide (PW=r.w) && decide (PH=r.h) && jgbG r.depth zs
def XQ5R (r:RawF) (PW PH:Int) (zs:List Int):Int:=if headE r=0 then (if pErr r=0 then (if fitP r PW PH zs=true then (if fiOk r zs (cntN r)=true then 0 else 4) else 1) else pErr r) else headE r
def qtvI (r:RawF) (zs:List Int):RawF:={ r with strips:=fiS r zs (cntN r) }
theorem jXie {r:RawF} (h:Head r) (k:Nat):(parN r k:Int)=k*r.rows*r.w:=by
 have h1:=h.rows
 have h2:=h.w
 unfold parN
 rw[Int.natCast_mul,Int.natCast_mul,Int.toNat_of_nonneg (by omega),Int.toNat_of_nonneg (by omega)]
theorem juYi {r:RawF} (h:Head r) {k:Nat} (hk:k<cntN r):(parN r k:Int)+rowN r k*r.w≤r.h*r.w:=by
 have h2:=h.w
 rw[jXie h,←Int.add_mul]
 exact Int.mul_le_mul_of_nonneg_right (by unfold rowN;omega) (by omega)
theorem XH7K {r:RawF} (h:Head r) {k:Nat} (hk:k+1<cntN r):rowN r k=r.rows:=by
 have h1:=(h.cnt_pos (k+1)).1 hk
 have e:((k+1:Nat):Int)*r.rows=k*r.rows+r.rows:=by rw[Int.natCast_add,Int.add_mul];simp
 unfold rowN
 omega
theorem q4pj {r:RawF} (h:Head r) {k:Nat} (hk:k+1<cntN r):(parN r (k+1):Int)=parN r k+rowN r k*r.w:=by
 rw[jXie h,jXie h,XH7K h hk,←Int.add_mul,Int.natCast_add,Int.add_mul]
 simp
theorem XBlq {r:RawF} (h:Head r) {k:Nat} (hk:k<cntN r) {zs:List Int} (hz:(zs.length:Int)=r.w*r.h):((parL r zs k).length:Int)=rowN r k*r.w:=by
 have h1:=juYi h hk
 have h2:=h.size hk
 rw[Int.mul_comm r.w] at hz
 unfold parL
 rw[List.length_take,List.length_drop]
 omega
theorem Xeu9 {r:RawF} {zs:List Int} {k:Nat} {z:Int} (h:z∈parL r zs k):z∈zs:=List.mem_of_mem_drop (List.mem_of_mem_take h)
theorem ws_err {r:RawF} (h:Head r) {k:Nat} (hk:k<cntN r) {PW PH:Int} {zs:List Int} (hf:fitP r PW PH zs=true):wsE r (parL r zs k) (rowN r k)=0∨wsE r (parL r zs k) (rowN r k)=4:=by
 simp only[fitP,Bool.and_eq_true,decide_eq_true_eq] at hf
 obtain ⟨⟨⟨hp,rfl⟩,rfl⟩,hd⟩:=hf
 simp only[q0fM,Bool.and_eq_true,decide_eq_true_eq] at hp
 have hl:=XBlq h hk hp.1.2
 obtain ⟨s1,s2⟩:=h.size hk
 obtain ⟨r1,r2⟩:=h.row hk
 have hw:=h.w
 have hdp:=h.depth
 unfold wsE
 by_cases hz:r.kind=0
 ·rw[if_pos hz,packE,if_pos (by rw[XSys,decide_eq_true_eq];exact hdp),if_pos (by omega),if_pos]
  ·exact .inl rfl
  ·refine List.all_eq_true.2 fun z hm=>?_
   have:=List.all_eq_true.1 hd z (Xeu9 hm)
   simp only[decide_eq_true_eq] at this
   simp only[numOk,decide_eq_true_eq]
   omega
 ·rw[if_neg hz,X2rK,if_pos,if_pos (by have:=h.kind;rw[qkcw,decide_eq_true_eq];omega),if_pos (h.code hz)]
  ·split
   ·exact .inl rfl
   ·exact .inr rfl
  ·simp only[q0fM,Bool.and_eq_true,decide_eq_true_eq,jbTy]
   refine ⟨⟨⟨hw,r1,r2⟩,by rw[hl,Int.mul_comm]⟩,List.all_eq_true.2 fun z hm=>List.all_eq_true.1 hp.2 z (Xeu9 hm)⟩
end Go.Proofs.YtfjeonehdlphiaaGreatDoor
