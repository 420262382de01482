/- Part 24. -/
import Derived.Test.YtfjeonehdlphiaaGreatDoorC10Sd
import Derived.WideKeyEntry
import Derived.DeepKeys4
open Go.Value renaming int → Z
open Go.IntKind renaming i64 → G
set_option linter.unusedVariables false
namespace Go.Proofs.YtfjeonehdlphiaaGreatDoor
open Go.RowKit
open _root_.Go.Proofs.Tryz
def ns (p:Pt):Value:=.agg #[Z G p.1,Z G p.2]
def np (p:Pt):Lit:=.string (keyBytes [.int .i64 p.1,.int .i64 p.2])
def ja (p:Pt):Prop:=(Lit.int .i64 p.1).wf=true/\(Lit.int .i64 p.2).wf=true
theorem Cc:laidOutB prog=true:=kR
theorem sN:WideMaps.KeyLaw prog 97:=deep_law_laid Cc (m:=2) oM (of_decide_eq_true kR) kR kR
theorem ov:Maps.Keyed prog 97:=Maps.Keyed.of_law sN
theorem GJ:∃m,prog.types.size=m+2:=⟨_,(Nat.sub_add_cancel (of_decide_eq_true kR:2<=prog.types.size)).symm⟩
theorem F5:prog.keyType 97=true:=kR
theorem xK:prog.cellsOf 97=2:=kR
theorem BR:prog.cellsOf 3=1:=kR
theorem lJ (p:Pt) (h:ja p):keyOf prog 97 (ns p)=some (np p):=by
 obtain ⟨m,a⟩:=GJ;unfold keyOf;simp only[underlying97];rw[if_pos (by simp[F5,ns,Value.formed,underlying97,xK]),a];unfold Program.keyLits;simp only[underlying97,ns,Value.cells];rw[if_pos ⟨by rw[xK];rfl,sS⟩,List.mapM_cons,List.mapM_cons,List.mapM_nil];simp[BR,Program.keyLits,underlying3,h.1,h.2,np]
theorem F4 {p q:Pt} (a:ja p) (b:ja q) (h:np p=np q):p=q:=by
 have:=ov.inj (lJ p a) (by rw[h];exact lJ q b);simp only[ns,Value.agg.injEq,Array.mk.injEq,List.cons.injEq,Value.int.injEq,true_and,and_true] at this;exact Prod.ext this.1 this.2
def cr (w:World) (a n:Nat) (b:List Pt):Prop :=
 ∃D:DataW Unit,w.ownsMap prog 97 (plainElem prog 3) a n D/\∀p,ja p->D.atKey (np p) (.lit (.int .i64 0))=.lit (.int .i64 (b.count p:Nat))
theorem cr.lt {w:World} {a n:Nat} {c:List Pt} (h:cr w a n c):a<w.heap.size:=by
 obtain ⟨D,b,_⟩:=h;exact b.lt
theorem cr.kept {w w':World} {a n:Nat} {b:List Pt} {c:Option Nat} (h:cr w a n b) (f:w.grownBy w' c) (g:some a≠c):cr w' a n b:=by
 obtain ⟨D,d,e⟩:=h;exact ⟨D,d.kept f g,e⟩
theorem cr.below {w w':World} {a n B:Nat} {b:List Pt} (h:cr w a n b) (e:Below B w w') (d:a<B):cr w' a n b:=by
 obtain ⟨D,⟨es,c,g,r⟩,f⟩:=h;exact ⟨D,⟨es,c,by rw[e.block a d];exact g,r⟩,f⟩
theorem cr.alloc {w:World} {a n:Nat} {b:List Pt} (h:cr w a n b) (o:Obj):cr (w.alloc o) a n b:=h.kept (World.grownBy_alloc w o none) sS
theorem cr.drew {w:World} {a n:Nat} {b:List Pt} (h:cr w a n b):cr w.drew a n b:=h
theorem cr.made (w:World):cr (w.alloc (.map #[] 0)) w.heap.size 0 [] :=
 ⟨.map [],World.ownsMap_made w _ _ _,fun _ _=>rfl⟩
theorem tz (w:World):(zeroValue 3).run prog w=.ok (Z G 0) w:=kR
theorem cr.look {w:World} {b n:Nat} {e:List Pt} (h:cr w b n e) (p:Pt) (d:ja p) :
  (Instr.lookup 294 (.map (some b)) (ns p) false).run prog w=.ok (Z G (e.count p:Nat)) w:=by
 obtain ⟨D,f,g⟩:=h;obtain ⟨c,i,a,_⟩:=f.lookup_int ov underlying294 underlying3 (tz w) (lJ p d);rw[g p d] at a;rw[i];simp only[DataW.lit.injEq,Lit.int.injEq,true_and] at a;rw[a]
theorem cr.same {w w':World} {a n:Nat} {b:List Pt} (h:cr w a n b) (d:w'.heap[a]?=w.heap[a]?):cr w' a n b:=by
 obtain ⟨D,⟨es,c,f,r⟩,e⟩:=h;exact ⟨D,⟨es,c,d.trans f,r⟩,e⟩
theorem cr.mono {w:World} {a n c:Nat} {b:List Pt} (h:cr w a n b) (f:n<=c):cr w a c b:=by
 obtain ⟨D,d,e⟩:=h;exact ⟨D,d.mono f,e⟩
section
open Go.ChangeMaps Go.MapKept
open Go.WideElems (Fit set_self)
theorem AH {P:Program} {w:World} {t k e:TypeId} {H:Type} {R:Value->Option (DataW H×List MemPlace)} {b:Nat} {es:Array MapEntry} {a:Nat} (K:WideMaps.KeyLaw P k) (i:P.underlying t=some (.map k e)) {z:Value} (m:∀u:World,(zeroValue e).run P u=.ok z u) (c:w.heap[b]?=some (.map es a)) (F:Fit P k R es a)
  {key:Value} {p:Lit} (d:keyOf P k key=some p) :
  ∃(r:Value) (w1:World),(Instr.mapEntry t (.map (some b)) key).run P w=.ok r w1/\(w1=setBlock w b (.map es a)\/((Instr.mapUpdate t (.map (some b)) key z).run P w=.ok () w1/\(Instr.lookup t (.map (some b)) key false).run P w=.ok z w)):=by
 rcases K.find w d es.toList F.keys with ⟨g,h⟩|⟨j,f,g,h,l⟩
 ·refine ⟨.tuple #[z,goInt a],setBlock w b (.map (es.push ⟨key,z,a⟩) (a+1)),?_,.inr ⟨?_,?_⟩⟩
  ·simp[Instr.mapEntry,run_underlying i,MapKept.run_getObj_map c,K.check w false d,g,m,MapKept.run_setObj_map _ c,Result.andThen,setBlock]
  ·simp[Instr.mapUpdate,run_underlying i,MapKept.run_getObj_map c,K.check w false d,g,MapKept.run_setObj_map _ c,Result.andThen,setBlock]
  ·simp[Instr.lookup,run_underlying i,MapKept.run_getObj_map c,K.check w es.isEmpty d,g,m,Result.andThen]
 ·have n:es[j]?=some f:=by simpa using h
  have o:es.modify j (fun e=>{ e with key:=key })=es:=by
   apply Array.ext';rw[Array.toList_modify,modify_eq_set _ _ _ _ h];have:({ f with key:=key }:MapEntry)=f:=(by rw[<-l]);rw[this];exact set_self _ _ _ h
  refine ⟨.tuple #[f.val,goInt f.born],setBlock w b (.map es a),?_,.inl rfl⟩;simp[Instr.mapEntry,run_underlying i,MapKept.run_getObj_map c,K.check w false d,g,n,l,K.stays w d,o,MapKept.run_setObj_map _ c,Result.andThen,setBlock]
theorem cr.entry {w:World} {b n:Nat} {d:List Pt} (h:cr w b n d) (hn:n<1000) (hl:d.length<1000) (p:Pt) (j:ja p) :
  ∃(z:Value) (s:Nat) (w1:World),(Instr.mapEntry 294 (.map (some b)) (ns p)).run prog w=.ok (.tuple #[z,Z G s]) w1/\w.grownBy w1 (some b)/\cr w1 b (n+1) d /\
   ∃w2,(Instr.entryStore 294 (.map (some b)) (Z G s) (Z G ((d.count p+1:Nat):Int))).run prog w1=.ok () w2/\cr w2 b (n+1) (d++[p])/\w.grownBy w2 (some b):=by
 have A:=h;obtain ⟨D,o,S⟩:=h;have V:=o.isMap;have K:∀(w':World) (c:Nat) (y:List Pt),w'.ownsMap prog 97 (plainElem prog 3) b (n+1) (D.put (np p) (.lit (.int .i64 (c:Nat))))->(∀q,ja q->y.count q=if q=p then c else d.count q)->cr w' b (n+1) y:=fun w' c y v P=>⟨_,v,fun q x=>by
  rw[P q x];by_cases e:q=p
  ·subst e;rw[if_pos rfl];exact Maps.atKey_put_same V (ov.key (lJ q j)) _ _
  ·rw[if_neg e,Maps.atKey_put_other (fun h=>e (F4 x j h))];exact S q x⟩
 have hw:(Lit.int .i64 ((d.count p+1:Nat):Int)).wf=true:=WalkArith.wf_i64 (by have:=List.count_le_length (a:=p) (l:=d);omega);obtain ⟨w',aa,v,hgr⟩:=o.update ov underlying294 uO (lJ p j) (plainElem_int (H:=Unit) underlying3 hw);have U:=cr.look A p j;obtain ⟨w0,ab,Y,hgr0⟩:=o.update ov underlying294 uO (lJ p j) (plainElem_int (H:=Unit) (a:=0) underlying3 dD);obtain ⟨es,clock,f,F,hs,hDe⟩:=o;obtain ⟨z,s,m,k,I,hv0,ac⟩:=WideElems.entry_then_store sN underlying294 tz f F (lJ p j);obtain ⟨r,w1,R,X⟩:=AH sN underlying294 tz f F (lJ p j);obtain ⟨O,M,ad,ae⟩:=ac (setBlock w b (.map m k)) (Z G ((d.count p+1:Nat):Int)) (heap_setBlock_same f _);have hw1:w1=setBlock w b (.map m k):=by
  have g:=I.symm.trans R;rw[Result.ok.injEq] at g;exact g.2.symm
 have hw2:w'=setBlock w b (.map O M):=by
  have g:=aa.symm.trans ae;rw[Result.ok.injEq] at g;exact g.2
 have E:(setBlock w b (.map m k)).heap[b]?=some (.map m k):=heap_setBlock_same f _;have t:∀(u:World) (a:Array MapEntry) (c:Nat) (L:Obj),u.heap[b]?=some (.map a c)->u.grownBy (setBlock u b L) (some b):=fun u a c L W=>⟨rfl,rfl,rfl,by simp[setBlock],fun i _ T=>heap_setBlock_other W _ (fun e=>T (by rw[e]))⟩;refine ⟨z,s,_,I,t _ _ _ _ f,?_,_,ad,?_,(t _ _ _ _ f).trans (t _ _ _ _ E)⟩
 ·rw[<-hw1];rcases X with e|⟨e,N⟩
  ·subst e;exact (A.same ((heap_setBlock_same f _).trans f.symm)).mono oM
  ·have g:=ab.symm.trans e;have B:=U.symm.trans N;rw[Result.ok.injEq] at g B;have C:=B.1;rw[Value.int.injEq] at C;have Q:d.count p=0:=(by have:=C.2;omega);rw[<-g.2];refine K w0 0 d Y (fun q _=>?_);by_cases e:q=p
   ·subst e;simp[Q]
   ·rw[if_neg e]
 ·refine cr.same (w:=w') (K w' (d.count p+1) _ v (fun q _=>?_)) ?_
  ·by_cases e:q=p
   ·subst e;simp
   ·rw[if_neg e,List.count_append,List.count_singleton];simp[Ne.symm e]
  ·rw[hw2,heap_setBlock_same f _];exact heap_setBlock_same E _
end
end Go.Proofs.YtfjeonehdlphiaaGreatDoor
