/- Re: part 8 of what the proofs need. -/
import Derived.Test.YtfjeonehdlphiaaGreatDoorC2Re
import Derived.WideKeyEntry
import Derived.DeepKeys4
set_option linter.unusedVariables false
namespace Go.Proofs.YtfjeonehdlphiaaGreatDoor
open Go.RowKit
def spotV (p:Pt):Value:=.agg #[.int .i64 p.1,.int .i64 p.2]
def spotK (p:Pt):Lit:=.string (keyBytes [.int .i64 p.1,.int .i64 p.2])
def ptWf (p:Pt):Prop:=(Lit.int .i64 p.1).wf=true∧(Lit.int .i64 p.2).wf=true
theorem laidB:laidOutB Tryz.prog=true:=by kernel_rfl
theorem Xm7Y:WideMaps.KeyLaw Tryz.prog 97:=deep_law_laid laidB (m:=2) (by omega) (of_decide_eq_true (by kernel_rfl)) (by kernel_rfl) (by kernel_rfl)
theorem qWTT:Maps.Keyed Tryz.prog 97:=Maps.Keyed.of_law Xm7Y
theorem XGQ0:∃m,Tryz.prog.types.size=m+2:=⟨_,(Nat.sub_add_cancel (of_decide_eq_true (by kernel_rfl):2≤Tryz.prog.types.size)).symm⟩
theorem zeIO:Tryz.prog.keyType 97=true:=by kernel_rfl
theorem q7xA:Tryz.prog.cellsOf 97=2:=by kernel_rfl
theorem X9Y3:Tryz.prog.cellsOf 3=1:=by kernel_rfl
theorem jj9G (p:Pt) (h:ptWf p):keyOf Tryz.prog 97 (spotV p)=some (spotK p):=by
 obtain ⟨m,hm⟩:=XGQ0
 unfold keyOf
 simp only[Tryz.underlying97]
 rw[if_pos (by simp[zeIO,spotV,Value.formed,Tryz.underlying97,q7xA]),hm]
 unfold Program.keyLits
 simp only[Tryz.underlying97,spotV,Value.cells]
 rw[if_pos ⟨by rw[q7xA];rfl,by simp⟩,List.mapM_cons,List.mapM_cons,List.mapM_nil]
 simp[X9Y3,Program.keyLits,Tryz.underlying3,h.1,h.2,spotK]
theorem j8JW {p q:Pt} (hp:ptWf p) (hq:ptWf q) (h:spotK p=spotK q):p=q:=by
 have:=qWTT.inj (jj9G p hp) (by rw[h];exact jj9G q hq)
 simp only[spotV,Value.agg.injEq,Array.mk.injEq,List.cons.injEq,Value.int.injEq,true_and,and_true] at this
 exact Prod.ext this.1 this.2
def q5Sk (w:World) (bm n:Nat) (ls:List Pt):Prop :=
 ∃D:DataW Unit,w.ownsMap Tryz.prog 97 (plainElem Tryz.prog 3) bm n D∧∀p,ptWf p→D.atKey (spotK p) (.lit (.int .i64 0))=.lit (.int .i64 (ls.count p:Nat))
theorem q5Sk.lt {w:World} {bm n:Nat} {ls:List Pt} (h:q5Sk w bm n ls):bm<w.heap.size:=by
 obtain ⟨D,hD,_⟩:=h
 exact hD.lt
theorem q5Sk.kept {w w':World} {bm n:Nat} {ls:List Pt} {row:Option Nat} (h:q5Sk w bm n ls) (hg:w.grownBy w' row) (hne:some bm≠row):q5Sk w' bm n ls:=by
 obtain ⟨D,hD,hf⟩:=h
 exact ⟨D,hD.kept hg hne,hf⟩
theorem q5Sk.below {w w':World} {bm n B:Nat} {ls:List Pt} (h:q5Sk w bm n ls) (hb:Below B w w') (hB:bm<B):q5Sk w' bm n ls:=by
 obtain ⟨D,⟨es,clock,hh,r⟩,hf⟩:=h
 exact ⟨D,⟨es,clock,by rw[hb.block bm hB];exact hh,r⟩,hf⟩
theorem q5Sk.alloc {w:World} {bm n:Nat} {ls:List Pt} (h:q5Sk w bm n ls) (o:Obj):q5Sk (w.alloc o) bm n ls:=h.kept (World.grownBy_alloc w o none) (by simp)
theorem q5Sk.drew {w:World} {bm n:Nat} {ls:List Pt} (h:q5Sk w bm n ls):q5Sk w.drew bm n ls:=h
theorem q5Sk.made (w:World):q5Sk (w.alloc (.map #[] 0)) w.heap.size 0 [] :=
 ⟨.map [],World.ownsMap_made w _ _ _,fun _ _=>rfl⟩
theorem X43J (w:World):(zeroValue 3).run Tryz.prog w=.ok (.int .i64 0) w:=by kernel_rfl
theorem q5Sk.look {w:World} {bm n:Nat} {ls:List Pt} (h:q5Sk w bm n ls) (p:Pt) (hp:ptWf p) :
  (Instr.lookup 294 (.map (some bm)) (spotV p) false).run Tryz.prog w=.ok (.int .i64 (ls.count p:Nat)) w:=by
 obtain ⟨D,hD,hf⟩:=h
 obtain ⟨c,hrun,hat,_⟩:=hD.lookup_int qWTT Tryz.underlying294 Tryz.underlying3 (X43J w) (jj9G p hp)
 rw[hf p hp] at hat
 rw[hrun]
 simp only[DataW.lit.injEq,Lit.int.injEq,true_and] at hat
 rw[hat]
theorem q5Sk.same {w w':World} {bm n:Nat} {ls:List Pt} (h:q5Sk w bm n ls) (hb:w'.heap[bm]?=w.heap[bm]?):q5Sk w' bm n ls:=by
 obtain ⟨D,⟨es,clock,hh,r⟩,hf⟩:=h
 exact ⟨D,⟨es,clock,hb.trans hh,r⟩,hf⟩
theorem q5Sk.mono {w:World} {bm n n':Nat} {ls:List Pt} (h:q5Sk w bm n ls) (hn:n≤n'):q5Sk w bm n' ls:=by
 obtain ⟨D,hD,hf⟩:=h
 exact ⟨D,hD.mono hn,hf⟩
section
open Go.ChangeMaps Go.MapKept
open Go.WideElems (Fit set_self)
theorem jMef {P:Program} {w:World} {t k e:TypeId} {H:Type} {R:Value→Option (DataW H×List MemPlace)} {b:Nat} {es:Array MapEntry} {clock:Nat} (K:WideMaps.KeyLaw P k) (ht:P.underlying t=some (.map k e)) {z:Value} (hz:∀u:World,(zeroValue e).run P u=.ok z u) (hb:w.heap[b]?=some (.map es clock)) (F:Fit P k R es clock)
  {key:Value} {kl:Lit} (hkey:keyOf P k key=some kl) :
  ∃(r:Value) (w1:World),(Instr.mapEntry t (.map (some b)) key).run P w=.ok r w1∧(w1=setBlock w b (.map es clock)∨((Instr.mapUpdate t (.map (some b)) key z).run P w=.ok () w1∧(Instr.lookup t (.map (some b)) key false).run P w=.ok z w)):=by
 rcases K.find w hkey es.toList F.keys with ⟨h1,h2⟩|⟨j,e0,h1,h2,h3⟩
 ·refine ⟨.tuple #[z,goInt clock],setBlock w b (.map (es.push ⟨key,z,clock⟩) (clock+1)),?_,.inr ⟨?_,?_⟩⟩
  ·simp[Instr.mapEntry,run_underlying ht,MapKept.run_getObj_map hb,K.check w false hkey,h1,hz,MapKept.run_setObj_map _ hb,Result.andThen,setBlock]
  ·simp[Instr.mapUpdate,run_underlying ht,MapKept.run_getObj_map hb,K.check w false hkey,h1,MapKept.run_setObj_map _ hb,Result.andThen,setBlock]
  ·simp[Instr.lookup,run_underlying ht,MapKept.run_getObj_map hb,K.check w es.isEmpty hkey,h1,hz,Result.andThen]
 ·have hj:es[j]?=some e0:=by simpa using h2
  have hsame:es.modify j (fun e=>{ e with key:=key })=es:=by
   apply Array.ext'
   rw[Array.toList_modify,modify_eq_set _ _ _ _ h2]
   have:({ e0 with key:=key }:MapEntry)=e0:=by rw[←h3]
   rw[this]
   exact set_self _ _ _ h2
  refine ⟨.tuple #[e0.val,goInt e0.born],setBlock w b (.map es clock),?_,.inl rfl⟩
  simp[Instr.mapEntry,run_underlying ht,MapKept.run_getObj_map hb,K.check w false hkey,h1,hj,h3,K.stays w hkey,hsame,MapKept.run_setObj_map _ hb,Result.andThen,setBlock]
theorem q5Sk.entry {w:World} {bm n:Nat} {ls:List Pt} (h:q5Sk w bm n ls) (hn:n<1000) (hl:ls.length<1000) (p:Pt) (hp:ptWf p) :
  ∃(v0:Value) (st:Nat) (w1:World),(Instr.mapEntry 294 (.map (some bm)) (spotV p)).run Tryz.prog w=.ok (.tuple #[v0,.int .i64 st]) w1∧w.grownBy w1 (some bm)∧q5Sk w1 bm (n+1) ls ∧
   ∃w2,(Instr.entryStore 294 (.map (some bm)) (.int .i64 st) (.int .i64 ((ls.count p+1:Nat):Int))).run Tryz.prog w1=.ok () w2∧q5Sk w2 bm (n+1) (ls++[p])∧w.grownBy w2 (some bm):=by
 have HB:=h
 obtain ⟨D,hD,hf⟩:=h
 have hm:=hD.isMap
 have hput:∀(w':World) (c:Nat) (ls':List Pt),w'.ownsMap Tryz.prog 97 (plainElem Tryz.prog 3) bm (n+1) (D.put (spotK p) (.lit (.int .i64 (c:Nat))))→(∀q,ptWf q→ls'.count q=if q=p then c else ls.count q)→q5Sk w' bm (n+1) ls':=fun w' c ls' hown hc=>⟨_,hown,fun q hq=>by
  rw[hc q hq]
  by_cases e:q=p
  ·subst e
   rw[if_pos rfl]
   exact Maps.atKey_put_same hm (qWTT.key (jj9G q hp)) _ _
  ·rw[if_neg e,Maps.atKey_put_other (fun h=>e (j8JW hq hp h))]
   exact hf q hq⟩
 have hw:(Lit.int .i64 ((ls.count p+1:Nat):Int)).wf=true:=WalkArith.wf_i64 (by have:=List.count_le_length (a:=p) (l:=ls);omega)
 obtain ⟨w',hrun,hown,hgr⟩:=hD.update qWTT Tryz.underlying294 (by unfold maxLen;omega) (jj9G p hp) (plainElem_int (H:=Unit) Tryz.underlying3 hw)
 have hlook:=q5Sk.look HB p hp
 obtain ⟨w0,hrun0,hown0,hgr0⟩:=hD.update qWTT Tryz.underlying294 (by unfold maxLen;omega) (jj9G p hp) (plainElem_int (H:=Unit) (a:=0) Tryz.underlying3 (by decide))
 obtain ⟨es,clock,hb,F,hs,hDe⟩:=hD
 obtain ⟨v0,st,es1,clock1,hent,hv0,hst⟩:=WideElems.entry_then_store Xm7Y Tryz.underlying294 X43J hb F (jj9G p hp)
 obtain ⟨r,w1,hent2,hor⟩:=jMef Xm7Y Tryz.underlying294 X43J hb F (jj9G p hp)
 obtain ⟨es',clock',hst1,hst2⟩:=hst (setBlock w bm (.map es1 clock1)) (.int .i64 ((ls.count p+1:Nat):Int)) (heap_setBlock_same hb _)
 have hw1:w1=setBlock w bm (.map es1 clock1):=by
  have h2:=hent.symm.trans hent2
  rw[Result.ok.injEq] at h2
  exact h2.2.symm
 have hw2:w'=setBlock w bm (.map es' clock'):=by
  have h2:=hrun.symm.trans hst2
  rw[Result.ok.injEq] at h2
  exact h2.2
 have hb1:(setBlock w bm (.map es1 clock1)).heap[bm]?=some (.map es1 clock1):=heap_setBlock_same hb _
 have hg:∀(u:World) (a:Array MapEntry) (c:Nat) (o':Obj),u.heap[bm]?=some (.map a c)→u.grownBy (setBlock u bm o') (some bm):=fun u a c o' ho=>⟨rfl,rfl,rfl,by simp[setBlock],fun i _ hi=>heap_setBlock_other ho _ (fun e=>hi (by rw[e]))⟩
 refine ⟨v0,st,_,hent,hg _ _ _ _ hb,?_,_,hst1,?_,(hg _ _ _ _ hb).trans (hg _ _ _ _ hb1)⟩
 ·rw[←hw1]
  rcases hor with e|⟨e,e0⟩
  ·subst e
   exact (HB.same ((heap_setBlock_same hb _).trans hb.symm)).mono (by omega)
  ·have h2:=hrun0.symm.trans e
   have h3:=hlook.symm.trans e0
   rw[Result.ok.injEq] at h2 h3
   have h4:=h3.1
   rw[Value.int.injEq] at h4
   have hc0:ls.count p=0:=by have:=h4.2;omega
   rw[←h2.2]
   refine hput w0 0 ls hown0 (fun q _=>?_)
   by_cases e:q=p
   ·subst e;simp[hc0]
   ·rw[if_neg e]
 ·refine q5Sk.same (w:=w') (hput w' (ls.count p+1) _ hown (fun q _=>?_)) ?_
  ·by_cases e:q=p
   ·subst e;simp
   ·rw[if_neg e,List.count_append,List.count_singleton]
    simp[Ne.symm e]
  ·rw[hw2,heap_setBlock_same hb _]
   exact heap_setBlock_same hb1 _
end
end Go.Proofs.YtfjeonehdlphiaaGreatDoor
