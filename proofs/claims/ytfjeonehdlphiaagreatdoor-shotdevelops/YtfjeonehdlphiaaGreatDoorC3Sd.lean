/- Part 3. -/
import Derived.Deep.RegionHeld3
set_option linter.unusedVariables false
namespace Go.Proofs.YtfjeonehdlphiaaGreatDoor
open Go
section
variable {P:Program} {ops:Array Oper} {Q:Exit->Act->World->Prop} {md:Region.Mode} {S:World->Prop} {f:Nat}
def de (P:Program) (c:Region.Mode) (b:Array Oper) (Q:Exit->Act->World->Prop) (S:World->Prop) (f:Nat):Nat->Array Bool->Act->World->Prop
 | 0,listed,a,w=>Region.ready c b listed=[]/\Q .normal a w
 | fuel+1,listed,a,w =>
  (Region.ready c b listed=[]->Q .normal a w) /\
  ∀i∈Region.ready c b listed,wpOp P b Q i (fun d w'=>(i≠f->S w')/\de P c b Q S f fuel (listed.setIfInBounds i true) d w') a w
theorem tm:∀(b:Nat) (c:Array Bool) (a:Act) (w:World),de P md ops Q S f b c a w->wpAny P md ops Q b c a w
 | 0,_,_,_,h=>h
 | b+1,_,_,_,h=>⟨h.1,fun i g=>wpOp_mono (fun d w' e=>tm b _ d w' e.2) (h.2 i g)⟩
def mz (a:Region.Mode) (b:Array Oper) (i:Nat):Nat->Nat->Bool
 | 0,_=>false
 | n+1,j=>match b[j]? with
  | some o=>o.after.any fun e=>Region.binds a e && (e.on == i || mz a b i n e.on)
  | none=>false
def kP (b:Region.Mode) (c:Array Oper) (a:Array Bool):Prop:=∀k o,c[k]?=some o->a.getD k false=true->∀e∈o.after,Region.binds b e=true->a.getD e.on false=true
def nM (c:Region.Mode) (b:Array Oper) (a:Array Bool):Bool :=
 (List.range b.size).all fun k=>match b[k]? with
  | some o=>!a.getD k false || o.after.all fun e=>!Region.binds c e || a.getD e.on false
  | none=>true
theorem uh {b:Array Bool} (h:nM md ops b=true):kP md ops b:=by
 intro k o f i e d g;have a:=List.all_eq_true.1 h k (List.mem_range.2 (Array.getElem?_eq_some_iff.1 f).1);simp only[f,i,Bool.not_true,Bool.false_or] at a;have c:(!Region.binds md e || b.getD e.on false)=true:=by
  first
   | exact List.all_eq_true.1 a e d
   | exact Array.all_eq_true'.1 a e d
 rw[g] at c;simpa using c
theorem yj {i:Nat} {b:Array Bool} (k:kP md ops b):∀(n j:Nat),(j∈Region.ready md ops b\/b.getD j false=true)->mz md ops i n j=true->b.getD i false=true
 | 0,_,_,h=>by cases h
 | n+1,j,a,h=>by
  unfold mz at h
  cases ho:ops[j]? with
  | none=>rw[ho] at h;cases h
  | some o =>
   rw[ho] at h
   have d:∀e∈o.after,Region.binds md e=true->b.getD e.on false=true:=by
    rcases a with a|a
    ·obtain ⟨_,q,p,d⟩:=mem_ready.1 a;obtain rfl:=Option.some.inj (ho.symm.trans p);exact d
    ·exact k j o ho a
   have l:∃e∈o.after,(Region.binds md e && (e.on == i || mz md ops i n e.on))=true:=by
    first
     | exact List.any_eq_true.1 h
     | exact Array.any_eq_true'.1 h
   obtain ⟨e,m,f⟩:=l;rw[Bool.and_eq_true] at f;have g:=d e m f.1;rcases Bool.or_eq_true _ _ |>.mp f.2 with c|c
   ·rw[<-eq_of_beq c];exact g
   ·exact yj k n e.on (.inr g) c
theorem ui {j:Nat} {a:Array Bool} (i:kP md ops a) (l:j∈Region.ready md ops a):kP md ops (a.setIfInBounds j true):=by
 intro k o g d e c b;by_cases f:j=k
 ·subst f;obtain ⟨_,n,m,h⟩:=mem_ready.1 l;obtain rfl:=Option.some.inj (g.symm.trans m);exact getD_set_true (h e c b)
 ·rw[getD_set_ne false f] at d;exact getD_set_true (i k o g d e c b)
theorem Hf {i n:Nat} {oi:Oper} {v:Value} (z:ops[i]?=some oi) (K:∀(j:Nat) (o:Oper) q b,ops[j]?=some o->o.op≠.select q b)
  (O:∀c a w,Q (.panic c) (a.put oi.dst v) w->Q (.panic c) a w) (ad:mz md ops i n f=true) :
  ∀(r:Nat) (d:Array Bool) (a:Act) (w:World),
   (∀j oj,ops[j]?=some oj->j≠i->d.getD j true=false->(∀e∈oj.after,Region.binds md e=true->e.on≠i)->oi.apart ops oj=true) ->
   kP md ops d ->
   i∈Region.ready md ops d->YieldsIf P ops S oi v a->S w ->
   de P md ops Q S f r (d.setIfInBounds i true) (a.put oi.dst v) w->de P md ops Q S f (r+1) d a w:=by
 intro r
 induction r with
 | zero =>
  intro d a w _ _ m x s H;refine ⟨fun h=>(by rw[h] at m;cases m),fun j p=>?_⟩;by_cases l:j=i
  ·subst l;exact x.wpOp z s ⟨fun _=>s,H⟩
  ·have:=ready_mono p l;rw[H.1] at this;cases this
 | succ r ih =>
  intro d a w D C m x s H;refine ⟨fun h=>(by rw[h] at m;cases m),fun j p=>?_⟩;by_cases l:j=i
  ·subst l;exact x.wpOp z s ⟨fun _=>s,H⟩
  ·have E:¬d.getD i false=true:=by
    intro g;have B:=(mem_ready.1 m).1;rcases Nat.lt_or_ge i d.size with y|y
    ·simp[y] at B g;rw[B] at g;cases g
    ·simp[Array.getElem?_eq_none y] at g
   have X:j≠f:=fun e=>E (yj C n f (.inl (e ▸ p)) ad);have g:=H.2 j (ready_mono p l);obtain ⟨I,oj,A,R⟩:=mem_ready.1 p;have ac:∀e∈oj.after,Region.binds md e=true->e.on≠i:=fun e U T V=>by
    have g:=R e U T;rw[V] at g;exact E g
   have N:=wpOp_putIf A (D j oj A l I ac) (fun q b=>K i oi q b z) (fun q b=>K j oj q b A) O x g;have W:∀k t,ops[k]?=some t->k≠i->(d.setIfInBounds j true).getD k true=false ->
     (∀e∈t.after,Region.binds md e=true->e.on≠i)->oi.apart ops t=true:=fun k t Y aa L ab=>by
    refine D k t Y aa ?_ ab;by_cases F:j=k
    ·subst F;exact I
    ·rw[getD_set_ne true F] at L;exact L
   refine wpOp_mono (fun M w' u=>⟨u.2.1,ih (d.setIfInBounds j true) M w' W (ui C p) (ready_mono m (Ne.symm l)) u.1 (u.2.1 X) ?_⟩) N;rw[Array.setIfInBounds_comm _ _ l];exact u.2.2
theorem Hh {i:Nat} {oi:Oper} {v:Value} {d:Nat} {b:Array Bool} {a:Act} {w:World} (e:ops[i]?=some oi)
  (n:Region.noSelect ops=true) (l:Region.free md ops b i=true) (m:(Region.ready md ops b).contains i=true) (o:mz md ops i ops.size f=true) (k:nM md ops b=true)
  (g:∀c a w,Q (.panic c) (a.put oi.dst v) w->Q (.panic c) a w) (p:YieldsIf P ops S oi v a) (j:S w)
  (h:de P md ops Q S f d (b.setIfInBounds i true) (a.put oi.dst v) w):de P md ops Q S f (d+1) b a w :=
 Hf e (Region.noSelect_spec n) g o d b a w (Region.free_spec e l) (uh k) (by simpa using m) p j h
theorem eZ {i:Nat} {o:Oper} {d:Nat} {c:Array Bool} {a:Act} {w:World} (k:Region.ready md ops c=[i]) (p:ops[i]?=some o)
  (h:∀b:Act->World->Prop,Shut (∀a w,S w->de P md ops Q S f d (c.setIfInBounds i true) a w->b a w)->if Region.wanted o (yielded ops a.tmps)=true then Oper.wp P o a w b Q else b (a.put o.dst undef) w) :
  de P md ops Q S f (d+1) c a w :=
 ⟨fun e=>(by rw[k] at e;cases e),fun j g=>by
  rw[k] at g
  obtain rfl:=List.mem_singleton.1 g
  exact wpOp_step p (fun b l=>h b (fun a w m n=>l a w ⟨fun _=>m,n⟩))⟩
theorem mC {o:Oper} {d:Nat} {c:Array Bool} {a:Act} {w:World} (k:Region.ready md ops c=[f]) (n:ops[f]?=some o)
  (h:∀b:Act->World->Prop,Shut (∀a w,de P md ops Q S f d (c.setIfInBounds f true) a w->b a w)->if Region.wanted o (yielded ops a.tmps)=true then Oper.wp P o a w b Q else b (a.put o.dst undef) w) :
  de P md ops Q S f (d+1) c a w :=
 ⟨fun g=>(by rw[k] at g;cases g),fun j i=>by
  rw[k] at i
  obtain rfl:=List.mem_singleton.1 i
  exact wpOp_step n (fun b l=>h b (fun a w m=>l a w ⟨fun e=>absurd rfl e,m⟩))⟩
theorem mA {c:Array Bool} {a:Act} {w:World} (b:Region.ready md ops c=[]) (h:Q .normal a w) :
  ∀d,de P md ops Q S f d c a w
 | 0=>⟨b,h⟩
 | _+1=>⟨fun _=>h,by rw[b];simp⟩
theorem yC {id:Nat} {a:Act} {w:World} (b:P.follows .mixedOrders=true)
  (h:de P .any ops Q S f ops.size (Array.replicate ops.size false) a { w with drawn:=w.drawn+1 }):(Code.region id ops true).wp P Q a w :=
 wp_region_any b (tm _ _ _ _ h)
end
section
variable {P:Program} {ops:Array Oper} {Q:Exit->Act->World->Prop} {md:Region.Mode} {S:World->Prop} {f:Nat}
theorem jJ {i j:Nat} {oi oj:Oper} {g:Nat} {d:Array Bool} {a:Act} {w:World} (o:Region.ready md ops d=[i,j]) (r:ops[i]?=some oi) (s:ops[j]?=some oj)
  (p:∀b:Act->World->Prop,Shut (∀a w,S w->de P md ops Q S f g (d.setIfInBounds i true) a w->b a w)->if Region.wanted oi (yielded ops a.tmps)=true then Oper.wp P oi a w b Q else b (a.put oi.dst undef) w)
  (q:∀b:Act->World->Prop,Shut (∀a w,S w->de P md ops Q S f g (d.setIfInBounds j true) a w->b a w)->if Region.wanted oj (yielded ops a.tmps)=true then Oper.wp P oj a w b Q else b (a.put oj.dst undef) w) :
  de P md ops Q S f (g+1) d a w :=
 ⟨fun n=>(by rw[o] at n;cases n),fun k c=>by
  rw[o] at c
  rcases List.mem_cons.1 c with e|c
  ·subst e
   exact wpOp_step r (fun b h=>p b (fun a w l m=>h a w ⟨fun _=>l,m⟩))
  ·obtain rfl:=List.mem_singleton.1 c
   exact wpOp_step s (fun b h=>q b (fun a w l m=>h a w ⟨fun _=>l,m⟩))⟩
theorem yy {i:Nat} {oi:Oper} {v:Value} {e:Nat} {b:Array Bool} {a:Act} {w:World} (d:Option Nat) (n:ops[i]?=some oi) (l:oi.dst=d)
  (p:Region.noSelect ops=true) (m:Region.free md ops b i=true) (o:(Region.ready md ops b).contains i=true) (q:mz md ops i ops.size f=true) (k:nM md ops b=true)
  (g:∀c a w,Q (.panic c) (a.put oi.dst v) w->Q (.panic c) a w) (r:YieldsIf P ops S oi v a) (j:S w)
  (h:de P md ops Q S f e (b.setIfInBounds i true) (a.put d v) w):de P md ops Q S f (e+1) b a w:=by
 subst l;exact Hh n p m o q k g r j h
end
end Go.Proofs.YtfjeonehdlphiaaGreatDoor
