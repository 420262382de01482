/- Part 4. -/
import Derived.Test.YtfjeonehdlphiaaGreatDoorC3Sd
import Derived.WalkKit
set_option linter.unusedVariables false
namespace Go.Proofs.YtfjeonehdlphiaaGreatDoor
open Go
section
variable {P:Program} {ops:Array Oper} {Q:Exit->Act->World->Prop} {md:Region.Mode} {S:World->Prop} {f:Nat}
def m9 (a:Region.Mode) (b:Array Oper) (i:Nat):List Nat->Nat->Bool
 | [],j=>match b[j]? with
  | some o=>o.after.any fun e=>Region.binds a e && e.on == i
  | none=>false
 | k::r,j=>(match b[j]? with
  | some o=>o.after.any fun e=>Region.binds a e && e.on == k
  | none=>false) && m9 a b i r k
theorem wB {i j:Nat} {b:Array Bool} (g:kP md ops b) (a:j∈Region.ready md ops b\/b.getD j false=true)
  (h:(match ops[j]? with
  | some o=>o.after.any fun e=>Region.binds md e && e.on == i
  | none=>false)=true):b.getD i false=true:=by
 cases ho:ops[j]? with
 | none=>rw[ho] at h;cases h
 | some o =>
  rw[ho] at h;have c:∀e∈o.after,Region.binds md e=true->b.getD e.on false=true:=by
   rcases a with a|a
   ·obtain ⟨_,m,l,c⟩:=mem_ready.1 a;obtain rfl:=Option.some.inj (ho.symm.trans l);exact c
   ·exact g j o ho a
  have f:∃e∈o.after,(Region.binds md e && e.on == i)=true:=by
   first
    | exact List.any_eq_true.1 h
    | exact Array.any_eq_true'.1 h
  obtain ⟨e,k,d⟩:=f;rw[Bool.and_eq_true] at d;rw[<-eq_of_beq d.2];exact c e k d.1
theorem wC {i:Nat} {a:Array Bool} (b:kP md ops a):∀(p:List Nat) (j:Nat),(j∈Region.ready md ops a\/a.getD j false=true)->m9 md ops i p j=true->a.getD i false=true
 | [],j,hj,h=>wB b hj h
 | k::r,j,hj,h=>by
  unfold m9 at h
  rw[Bool.and_eq_true] at h
  exact wC b r k (.inr (wB b hj h.1)) h.2
theorem Hg {i:Nat} {p:List Nat} {oi:Oper} {v:Value} (z:ops[i]?=some oi) (K:∀(j:Nat) (o:Oper) q b,ops[j]?=some o->o.op≠.select q b)
  (O:∀c a w,Q (.panic c) (a.put oi.dst v) w->Q (.panic c) a w) (ad:m9 md ops i p f=true) :
  ∀(r:Nat) (d:Array Bool) (a:Act) (w:World),
   (∀j oj,ops[j]?=some oj->j≠i->d.getD j true=false->(∀e∈oj.after,Region.binds md e=true->e.on≠i)->oi.apart ops oj=true) ->
   kP md ops d ->
   i∈Region.ready md ops d->YieldsIf P ops S oi v a->S w ->
   de P md ops Q S f r (d.setIfInBounds i true) (a.put oi.dst v) w->de P md ops Q S f (r+1) d a w:=by
 intro r
 induction r with
 | zero =>
  intro d a w _ _ m x s H;refine ⟨fun h=>(by rw[h] at m;cases m),fun j n=>?_⟩;by_cases l:j=i
  ·subst l;exact x.wpOp z s ⟨fun _=>s,H⟩
  ·have:=ready_mono n l;rw[H.1] at this;cases this
 | succ r ih =>
  intro d a w D C m x s H;refine ⟨fun h=>(by rw[h] at m;cases m),fun j n=>?_⟩;by_cases l:j=i
  ·subst l;exact x.wpOp z s ⟨fun _=>s,H⟩
  ·have E:¬d.getD i false=true:=by
    intro g;have B:=(mem_ready.1 m).1;rcases Nat.lt_or_ge i d.size with y|y
    ·simp[y] at B g;rw[B] at g;cases g
    ·simp[Array.getElem?_eq_none y] at g
   have X:j≠f:=fun e=>E (wC C p f (.inl (e ▸ n)) ad);have g:=H.2 j (ready_mono n l);obtain ⟨I,oj,A,R⟩:=mem_ready.1 n;have ac:∀e∈oj.after,Region.binds md e=true->e.on≠i:=fun e U T V=>by
    have g:=R e U T;rw[V] at g;exact E g
   have N:=wpOp_putIf A (D j oj A l I ac) (fun q b=>K i oi q b z) (fun q b=>K j oj q b A) O x g;have W:∀k t,ops[k]?=some t->k≠i->(d.setIfInBounds j true).getD k true=false ->
     (∀e∈t.after,Region.binds md e=true->e.on≠i)->oi.apart ops t=true:=fun k t Y aa L ab=>by
    refine D k t Y aa ?_ ab;by_cases F:j=k
    ·subst F;exact I
    ·rw[getD_set_ne true F] at L;exact L
   refine wpOp_mono (fun M w' u=>⟨u.2.1,ih (d.setIfInBounds j true) M w' W (ui C n) (ready_mono m (Ne.symm l)) u.1 (u.2.1 X) ?_⟩) N;rw[Array.setIfInBounds_comm _ _ l];exact u.2.2
theorem dS {i:Nat} {oi:Oper} {v:Value} {e:Nat} {b:Array Bool} {a:Act} {w:World} (d:Option Nat) (p:List Nat) (g:ops[i]?=some oi) (m:oi.dst=d)
  (q:Region.noSelect ops=true) (n:Region.free md ops b i=true) (o:(Region.ready md ops b).contains i=true) (r:m9 md ops i p f=true) (l:nM md ops b=true)
  (j:∀c a w,Q (.panic c) (a.put oi.dst v) w->Q (.panic c) a w) (s:YieldsIf P ops S oi v a) (k:S w)
  (h:de P md ops Q S f e (b.setIfInBounds i true) (a.put d v) w):de P md ops Q S f (e+1) b a w:=by
 subst m;exact Hg g (Region.noSelect_spec q) j r e b a w (Region.free_spec g n) (uh l) (by simpa using o) s k h
end
end Go.Proofs.YtfjeonehdlphiaaGreatDoor
namespace Go.Proofs.YtfjeonehdlphiaaGreatDoor
open Go Go.RowKit
section
variable {P:Program} {ops:Array Oper} {Q:Exit->Act->World->Prop} {md:Region.Mode} {S:World->Prop} {f:Nat}
theorem qM {i:Nat} {o:Oper} (h:ops.toList[i]?=some o):ops[i]?=some o:=by rw[<-h,Array.getElem?_toList]
theorem ak {oi:Oper} {g:Nat} {b:Array Bool} {a e:Act} {w:World} {v:Value} (i:Nat)
  (h:de P md ops Q S f g (b.setIfInBounds i true) e w) (p:List Nat:=[]) (k:S w:=by exact hSd) (q:ops.toList[i]?=some oi:=by rfl)
  (o:Region.wanted oi (yielded ops a.tmps)=true:=by rfl)
  (u:∀w,S w->(execOp a.eval oi).run P w=.ok (.value v) w:=by intro x d;(repeat (have:=And.left d;replace d:=And.right d));go_simp<;>with_reducible rfl)
  (l:a.put oi.dst v=e:=by conv=>lhs;simp only[Act.put,List.setIfInBounds_toArray,List.set_cons_succ,List.set_cons_zero])
  (s:Region.noSelect ops=true:=by kernel_rfl) (n:Region.free md ops b i=true:=by kernel_rfl) (r:(Region.ready md ops b).contains i=true:=by kernel_rfl) (t:m9 md ops i p f=true:=by kernel_rfl) (m:nM md ops b=true:=by kernel_rfl)
  (j:∀c a w,Q (.panic c) (a.put oi.dst v) w->Q (.panic c) a w:=by exact fun _ _ _ h=>h):de P md ops Q S f (g+1) b a w :=
 dS oi.dst p (qM q) rfl s n r t m j (Or.inl ⟨o,u⟩) k (l ▸ h)
theorem ct {oi:Oper} {g:Nat} {b:Array Bool} {a e:Act} {w:World} {v:Value} (i:Nat)
  (h:de P md ops Q S f g (b.setIfInBounds i true) e w) (k:S w:=by exact hSd) (p:ops.toList[i]?=some oi:=by rfl)
  (o:Region.wanted oi (yielded ops a.tmps)=true:=by rfl)
  (t:∀w,S w->(execOp a.eval oi).run P w=.ok (.value v) w:=by intro u d;(repeat (have:=And.left d;replace d:=And.right d));go_simp<;>with_reducible rfl)
  (l:a.put oi.dst v=e:=by conv=>lhs;simp only[Act.put,List.setIfInBounds_toArray,List.set_cons_succ,List.set_cons_zero])
  (r:Region.noSelect ops=true:=by kernel_rfl) (n:Region.free md ops b i=true:=by kernel_rfl) (q:(Region.ready md ops b).contains i=true:=by kernel_rfl) (s:mz md ops i ops.size f=true:=by kernel_rfl) (m:nM md ops b=true:=by kernel_rfl)
  (j:∀c a w,Q (.panic c) (a.put oi.dst v) w->Q (.panic c) a w:=by exact fun _ _ _ h=>h):de P md ops Q S f (g+1) b a w :=
 Hh (qM p) r n q s m j (Or.inl ⟨o,t⟩) k (l ▸ h)
theorem aw {o:Oper} {d:Nat} {c:Array Bool} {a:Act} {w:World} (i:Nat)
  (h:∀b:Act->World->Prop,Shut (∀a w,S w->de P md ops Q S f d (c.setIfInBounds i true) a w->b a w)->Oper.wp P o a w b Q)
  (j:ops.toList[i]?=some o:=by rfl) (k:Region.ready md ops c=[i]:=by kernel_rfl) (g:Region.wanted o (yielded ops a.tmps)=true:=by rfl) :
  de P md ops Q S f (d+1) c a w :=
 eZ k (qM j) (fun b e=>by rw[if_pos g];exact h b e)
theorem aS {o:Oper} {d:Nat} {c:Array Bool} {a:Act} {w:World}
  (h:∀b:Act->World->Prop,Shut (∀a w,Q .normal a w->b a w)->Oper.wp P o a w b Q)
  (j:ops.toList[f]?=some o:=by rfl) (l:Region.ready md ops c=[f]:=by kernel_rfl) (g:Region.wanted o (yielded ops a.tmps)=true:=by rfl) (i:Region.ready md ops (c.setIfInBounds f true)=[]:=by kernel_rfl) :
  de P md ops Q S f (d+1) c a w :=
 mC l (qM j) (fun b e=>by rw[if_pos g];exact h b (fun a w k=>e a w (mA i k _)))
theorem dR {id:Nat} {a:Act} {w:World} (f:Nat) (h:de P .any ops Q S f (f+1) (Array.replicate (f+1) false) a w.drew) (c:ops.size=f+1:=by rfl) (b:P.follows .mixedOrders=true:=by kernel_rfl):(Code.region id ops true).wp P Q a w :=
 yC b (c ▸ h)
theorem cE {id B:Nat} {a:Act} {w U:World} (f:Nat) (d:∀v,Below B U v->S v) (h:de P .any ops Q S f (f+1) (Array.replicate (f+1) false) a w.drew) (c:ops.size=f+1:=by rfl) (b:P.follows .mixedOrders=true:=by kernel_rfl):(Code.region id ops true).wp P Q a w :=
 yC b (c ▸ h)
end
end Go.Proofs.YtfjeonehdlphiaaGreatDoor
