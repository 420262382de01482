/- Re: part 6 of what the proofs need. -/
import Derived.Deep.RegionHeld3
open Bool renaming and_eq_true → ka
set_option linter.unusedVariables false
namespace Go.Proofs.YtfjeonehdlphiaaGreatDoor
open Go
section
variable {P:Program} {ops:Array Oper} {Q:Exit→Act→World→Prop} {md:Region.Mode} {S:World→Prop} {f:Nat}
def jZdv (P:Program) (md:Region.Mode) (ops:Array Oper) (Q:Exit→Act→World→Prop) (S:World→Prop) (f:Nat):Nat→Array Bool→Act→World→Prop
 | 0,listed,a,w=>Region.ready md ops listed=[]∧Q .normal a w
 | fuel+1,listed,a,w =>
  (Region.ready md ops listed=[]→Q .normal a w) ∧
  ∀i∈Region.ready md ops listed,wpOp P ops Q i (fun a' w'=>(i≠f→S w')∧jZdv P md ops Q S f fuel (listed.setIfInBounds i true) a' w') a w
theorem XQUN:∀(fuel:Nat) (listed:Array Bool) (a:Act) (w:World),jZdv P md ops Q S f fuel listed a w→wpAny P md ops Q fuel listed a w
 | 0,_,_,_,h=>h
 | fuel+1,_,_,_,h=>⟨h.1,fun i hi=>wpOp_mono (fun a' w' h'=>XQUN fuel _ a' w' h'.2) (h.2 i hi)⟩
def waits (md:Region.Mode) (ops:Array Oper) (i:Nat):Nat→Nat→Bool
 | 0,_=>false
 | n+1,j=>match ops[j]? with
  | some o=>o.after.any fun e=>Region.binds md e && (e.on == i || waits md ops i n e.on)
  | none=>false
def zYEa (md:Region.Mode) (ops:Array Oper) (listed:Array Bool):Prop:=∀k o,ops[k]?=some o→listed.getD k false=true→∀e∈o.after,Region.binds md e=true→listed.getD e.on false=true
def j5xf (md:Region.Mode) (ops:Array Oper) (listed:Array Bool):Bool :=
 (List.range ops.size).all fun k=>match ops[k]? with
  | some o=>!listed.getD k false || o.after.all fun e=>!Region.binds md e || listed.getD e.on false
  | none=>true
theorem jmuz {listed:Array Bool} (h:j5xf md ops listed=true):zYEa md ops listed:=by
 intro k o ho hk e he hb
 have h1:=List.all_eq_true.1 h k (List.mem_range.2 (Array.getElem?_eq_some_iff.1 ho).1)
 simp only[ho,hk,Bool.not_true,Bool.false_or] at h1
 have h2:(!Region.binds md e || listed.getD e.on false)=true:=by
  first
   | exact List.all_eq_true.1 h1 e he
   | exact Array.all_eq_true'.1 h1 e he
 rw[hb] at h2
 simpa using h2
theorem Xhji {i:Nat} {listed:Array Bool} (hc:zYEa md ops listed):∀(n j:Nat),(j∈Region.ready md ops listed∨listed.getD j false=true)→waits md ops i n j=true→listed.getD i false=true
 | 0,_,_,h=>by cases h
 | n+1,j,hj,h=>by
  unfold waits at h
  cases ho:ops[j]? with
  | none=>rw[ho] at h;cases h
  | some o =>
   rw[ho] at h
   have hall:∀e∈o.after,Region.binds md e=true→listed.getD e.on false=true:=by
    rcases hj with hj|hj
    ·obtain ⟨_,o',ho',hall⟩:=mem_ready.1 hj
     obtain rfl:=Option.some.inj (ho.symm.trans ho')
     exact hall
    ·exact hc j o ho hj
   have h':∃e∈o.after,(Region.binds md e && (e.on == i || waits md ops i n e.on))=true:=by
    first
     | exact List.any_eq_true.1 h
     | exact Array.any_eq_true'.1 h
   obtain ⟨e,he,hx⟩:=h'
   rw[ka] at hx
   have h1:=hall e he hx.1
   rcases Bool.or_eq_true _ _ |>.mp hx.2 with h2|h2
   ·rw[←eq_of_beq h2];exact h1
   ·exact Xhji hc n e.on (.inr h1) h2
theorem z0zk {j:Nat} {listed:Array Bool} (hc:zYEa md ops listed) (hj:j∈Region.ready md ops listed):zYEa md ops (listed.setIfInBounds j true):=by
 intro k o ho hk e he hb
 by_cases hkj:j=k
 ·subst hkj
  obtain ⟨_,o',ho',hall⟩:=mem_ready.1 hj
  obtain rfl:=Option.some.inj (ho.symm.trans ho')
  exact getD_set_true (hall e he hb)
 ·rw[getD_set_ne false hkj] at hk
  exact getD_set_true (hc k o ho hk e he hb)
theorem Xbm8 {i n:Nat} {oi:Oper} {v:Value} (hi:ops[i]?=some oi) (hsel:∀(j:Nat) (o:Oper) cs b,ops[j]?=some o→o.op≠.select cs b)
  (hQ:∀c a w,Q (.panic c) (a.put oi.dst v) w→Q (.panic c) a w) (hwt:waits md ops i n f=true) :
  ∀(fuel:Nat) (listed:Array Bool) (a:Act) (w:World),
   (∀j oj,ops[j]?=some oj→j≠i→listed.getD j true=false→(∀e∈oj.after,Region.binds md e=true→e.on≠i)→oi.apart ops oj=true) →
   zYEa md ops listed →
   i∈Region.ready md ops listed→YieldsIf P ops S oi v a→S w →
   jZdv P md ops Q S f fuel (listed.setIfInBounds i true) (a.put oi.dst v) w→jZdv P md ops Q S f (fuel+1) listed a w:=by
 intro fuel
 induction fuel with
 | zero =>
  intro listed a w _ _ hr hy hS H
  refine ⟨fun h=>(by rw[h] at hr;cases hr),fun j hj=>?_⟩
  by_cases hji:j=i
  ·subst hji;exact hy.wpOp hi hS ⟨fun _=>hS,H⟩
  ·have:=ready_mono hj hji
   rw[H.1] at this
   cases this
 | succ fuel ih =>
  intro listed a w hfree hcl hr hy hS H
  refine ⟨fun h=>(by rw[h] at hr;cases hr),fun j hj=>?_⟩
  by_cases hji:j=i
  ·subst hji;exact hy.wpOp hi hS ⟨fun _=>hS,H⟩
  ·have hiun:¬listed.getD i false=true:=by
    intro h1
    have h0:=(mem_ready.1 hr).1
    rcases Nat.lt_or_ge i listed.size with h'|h'
    ·simp[h'] at h0 h1;rw[h0] at h1;cases h1
    ·simp[Array.getElem?_eq_none h'] at h1
   have hjf:j≠f:=fun e=>hiun (Xhji hcl n f (.inl (e ▸ hj)) hwt)
   have h1:=H.2 j (ready_mono hj hji)
   obtain ⟨hjun,oj,hoj,hall⟩:=mem_ready.1 hj
   have hnot:∀e∈oj.after,Region.binds md e=true→e.on≠i:=fun e he hb heq=>by
    have h1:=hall e he hb
    rw[heq] at h1
    exact hiun h1
   have h2:=wpOp_putIf hoj (hfree j oj hoj hji hjun hnot) (fun cs b=>hsel i oi cs b hi) (fun cs b=>hsel j oj cs b hoj) hQ hy h1
   have hfree':∀k ok,ops[k]?=some ok→k≠i→(listed.setIfInBounds j true).getD k true=false →
     (∀e∈ok.after,Region.binds md e=true→e.on≠i)→oi.apart ops ok=true:=fun k ok hk hki hun hno=>by
    refine hfree k ok hk hki ?_ hno
    by_cases hjk:j=k
    ·subst hjk;exact hjun
    ·rw[getD_set_ne true hjk] at hun;exact hun
   refine wpOp_mono (fun a' w' h3=>⟨h3.2.1,ih (listed.setIfInBounds j true) a' w' hfree' (z0zk hcl hj) (ready_mono hr (Ne.symm hji)) h3.1 (h3.2.1 hjf) ?_⟩) h2
   rw[Array.setIfInBounds_comm _ _ hji]
   exact h3.2.2
theorem j7aj {i:Nat} {oi:Oper} {v:Value} {fuel:Nat} {listed:Array Bool} {a:Act} {w:World} (hi:ops[i]?=some oi)
  (hs:Region.noSelect ops=true) (hf:Region.free md ops listed i=true) (hr:(Region.ready md ops listed).contains i=true) (hwt:waits md ops i ops.size f=true) (hcl:j5xf md ops listed=true)
  (hQ:∀c a w,Q (.panic c) (a.put oi.dst v) w→Q (.panic c) a w) (hy:YieldsIf P ops S oi v a) (hS:S w)
  (h:jZdv P md ops Q S f fuel (listed.setIfInBounds i true) (a.put oi.dst v) w):jZdv P md ops Q S f (fuel+1) listed a w :=
 Xbm8 hi (Region.noSelect_spec hs) hQ hwt fuel listed a w (Region.free_spec hi hf) (jmuz hcl) (by simpa using hr) hy hS h
theorem znWj {i:Nat} {o:Oper} {fuel:Nat} {listed:Array Bool} {a:Act} {w:World} (hr:Region.ready md ops listed=[i]) (ho:ops[i]?=some o)
  (h:∀K':Act→World→Prop,Shut (∀a w,S w→jZdv P md ops Q S f fuel (listed.setIfInBounds i true) a w→K' a w)→if Region.wanted o (yielded ops a.tmps)=true then Oper.wp P o a w K' Q else K' (a.put o.dst undef) w) :
  jZdv P md ops Q S f (fuel+1) listed a w :=
 ⟨fun h0=>(by rw[hr] at h0;cases h0),fun j hj=>by
  rw[hr] at hj
  obtain rfl:=List.mem_singleton.1 hj
  exact wpOp_step ho (fun K' hK=>h K' (fun a w hS hW=>hK a w ⟨fun _=>hS,hW⟩))⟩
theorem z9gO {o:Oper} {fuel:Nat} {listed:Array Bool} {a:Act} {w:World} (hr:Region.ready md ops listed=[f]) (ho:ops[f]?=some o)
  (h:∀K':Act→World→Prop,Shut (∀a w,jZdv P md ops Q S f fuel (listed.setIfInBounds f true) a w→K' a w)→if Region.wanted o (yielded ops a.tmps)=true then Oper.wp P o a w K' Q else K' (a.put o.dst undef) w) :
  jZdv P md ops Q S f (fuel+1) listed a w :=
 ⟨fun h0=>(by rw[hr] at h0;cases h0),fun j hj=>by
  rw[hr] at hj
  obtain rfl:=List.mem_singleton.1 hj
  exact wpOp_step ho (fun K' hK=>h K' (fun a w hW=>hK a w ⟨fun e=>absurd rfl e,hW⟩))⟩
theorem jFdp {listed:Array Bool} {a:Act} {w:World} (hr:Region.ready md ops listed=[]) (h:Q .normal a w) :
  ∀fuel,jZdv P md ops Q S f fuel listed a w
 | 0=>⟨hr,h⟩
 | _+1=>⟨fun _=>h,by rw[hr];simp⟩
theorem qYgd {id:Nat} {a:Act} {w:World} (hm:P.follows .mixedOrders=true)
  (h:jZdv P .any ops Q S f ops.size (Array.replicate ops.size false) a { w with drawn:=w.drawn+1 }):(Code.region id ops true).wp P Q a w :=
 wp_region_any hm (XQUN _ _ _ _ h)
end
section
variable {P:Program} {ops:Array Oper} {Q:Exit→Act→World→Prop} {md:Region.Mode} {S:World→Prop} {f:Nat}
theorem jwFJ {i j:Nat} {oi oj:Oper} {fuel:Nat} {listed:Array Bool} {a:Act} {w:World} (hr:Region.ready md ops listed=[i,j]) (hoi:ops[i]?=some oi) (hoj:ops[j]?=some oj)
  (h1:∀K':Act→World→Prop,Shut (∀a w,S w→jZdv P md ops Q S f fuel (listed.setIfInBounds i true) a w→K' a w)→if Region.wanted oi (yielded ops a.tmps)=true then Oper.wp P oi a w K' Q else K' (a.put oi.dst undef) w)
  (h2:∀K':Act→World→Prop,Shut (∀a w,S w→jZdv P md ops Q S f fuel (listed.setIfInBounds j true) a w→K' a w)→if Region.wanted oj (yielded ops a.tmps)=true then Oper.wp P oj a w K' Q else K' (a.put oj.dst undef) w) :
  jZdv P md ops Q S f (fuel+1) listed a w :=
 ⟨fun h0=>(by rw[hr] at h0;cases h0),fun k hk=>by
  rw[hr] at hk
  rcases List.mem_cons.1 hk with e|hk
  ·subst e
   exact wpOp_step hoi (fun K' hK=>h1 K' (fun a w hS hW=>hK a w ⟨fun _=>hS,hW⟩))
  ·obtain rfl:=List.mem_singleton.1 hk
   exact wpOp_step hoj (fun K' hK=>h2 K' (fun a w hS hW=>hK a w ⟨fun _=>hS,hW⟩))⟩
theorem zB2j {i:Nat} {oi:Oper} {v:Value} {fuel:Nat} {listed:Array Bool} {a:Act} {w:World} (d:Option Nat) (hi:ops[i]?=some oi) (hd:oi.dst=d)
  (hs:Region.noSelect ops=true) (hf:Region.free md ops listed i=true) (hr:(Region.ready md ops listed).contains i=true) (hwt:waits md ops i ops.size f=true) (hcl:j5xf md ops listed=true)
  (hQ:∀c a w,Q (.panic c) (a.put oi.dst v) w→Q (.panic c) a w) (hy:YieldsIf P ops S oi v a) (hS:S w)
  (h:jZdv P md ops Q S f fuel (listed.setIfInBounds i true) (a.put d v) w):jZdv P md ops Q S f (fuel+1) listed a w:=by
 subst hd
 exact j7aj hi hs hf hr hwt hcl hQ hy hS h
end
section
variable {P:Program} {ops:Array Oper} {Q:Exit→Act→World→Prop} {md:Region.Mode} {S:World→Prop} {f:Nat}
def pathB (md:Region.Mode) (ops:Array Oper) (i:Nat):List Nat→Nat→Bool
 | [],j=>match ops[j]? with
  | some o=>o.after.any fun e=>Region.binds md e && e.on == i
  | none=>false
 | k::r,j=>(match ops[j]? with
  | some o=>o.after.any fun e=>Region.binds md e && e.on == k
  | none=>false) && pathB md ops i r k
theorem q9EE {i j:Nat} {listed:Array Bool} (hc:zYEa md ops listed) (hj:j∈Region.ready md ops listed∨listed.getD j false=true)
  (h:(match ops[j]? with
  | some o=>o.after.any fun e=>Region.binds md e && e.on == i
  | none=>false)=true):listed.getD i false=true:=by
 cases ho:ops[j]? with
 | none=>rw[ho] at h;cases h
 | some o =>
  rw[ho] at h
  have hall:∀e∈o.after,Region.binds md e=true→listed.getD e.on false=true:=by
   rcases hj with hj|hj
   ·obtain ⟨_,o',ho',hall⟩:=mem_ready.1 hj
    obtain rfl:=Option.some.inj (ho.symm.trans ho')
    exact hall
   ·exact hc j o ho hj
  have h':∃e∈o.after,(Region.binds md e && e.on == i)=true:=by
   first
    | exact List.any_eq_true.1 h
    | exact Array.any_eq_true'.1 h
  obtain ⟨e,he,hx⟩:=h'
  rw[ka] at hx
  rw[←eq_of_beq hx.2]
  exact hall e he hx.1
theorem jYPn {i:Nat} {listed:Array Bool} (hc:zYEa md ops listed):∀(p:List Nat) (j:Nat),(j∈Region.ready md ops listed∨listed.getD j false=true)→pathB md ops i p j=true→listed.getD i false=true
 | [],j,hj,h=>q9EE hc hj h
 | k::r,j,hj,h=>by
  unfold pathB at h
  rw[ka] at h
  exact jYPn hc r k (.inr (q9EE hc hj h.1)) h.2
theorem Xf6p {i:Nat} {p:List Nat} {oi:Oper} {v:Value} (hi:ops[i]?=some oi) (hsel:∀(j:Nat) (o:Oper) cs b,ops[j]?=some o→o.op≠.select cs b)
  (hQ:∀c a w,Q (.panic c) (a.put oi.dst v) w→Q (.panic c) a w) (hwt:pathB md ops i p f=true) :
  ∀(fuel:Nat) (listed:Array Bool) (a:Act) (w:World),
   (∀j oj,ops[j]?=some oj→j≠i→listed.getD j true=false→(∀e∈oj.after,Region.binds md e=true→e.on≠i)→oi.apart ops oj=true) →
   zYEa md ops listed →
   i∈Region.ready md ops listed→YieldsIf P ops S oi v a→S w →
   jZdv P md ops Q S f fuel (listed.setIfInBounds i true) (a.put oi.dst v) w→jZdv P md ops Q S f (fuel+1) listed a w:=by
 intro fuel
 induction fuel with
 | zero =>
  intro listed a w _ _ hr hy hS H
  refine ⟨fun h=>(by rw[h] at hr;cases hr),fun j hj=>?_⟩
  by_cases hji:j=i
  ·subst hji;exact hy.wpOp hi hS ⟨fun _=>hS,H⟩
  ·have:=ready_mono hj hji
   rw[H.1] at this
   cases this
 | succ fuel ih =>
  intro listed a w hfree hcl hr hy hS H
  refine ⟨fun h=>(by rw[h] at hr;cases hr),fun j hj=>?_⟩
  by_cases hji:j=i
  ·subst hji;exact hy.wpOp hi hS ⟨fun _=>hS,H⟩
  ·have hiun:¬listed.getD i false=true:=by
    intro h1
    have h0:=(mem_ready.1 hr).1
    rcases Nat.lt_or_ge i listed.size with h'|h'
    ·simp[h'] at h0 h1;rw[h0] at h1;cases h1
    ·simp[Array.getElem?_eq_none h'] at h1
   have hjf:j≠f:=fun e=>hiun (jYPn hcl p f (.inl (e ▸ hj)) hwt)
   have h1:=H.2 j (ready_mono hj hji)
   obtain ⟨hjun,oj,hoj,hall⟩:=mem_ready.1 hj
   have hnot:∀e∈oj.after,Region.binds md e=true→e.on≠i:=fun e he hb heq=>by
    have h1:=hall e he hb
    rw[heq] at h1
    exact hiun h1
   have h2:=wpOp_putIf hoj (hfree j oj hoj hji hjun hnot) (fun cs b=>hsel i oi cs b hi) (fun cs b=>hsel j oj cs b hoj) hQ hy h1
   have hfree':∀k ok,ops[k]?=some ok→k≠i→(listed.setIfInBounds j true).getD k true=false →
     (∀e∈ok.after,Region.binds md e=true→e.on≠i)→oi.apart ops ok=true:=fun k ok hk hki hun hno=>by
    refine hfree k ok hk hki ?_ hno
    by_cases hjk:j=k
    ·subst hjk;exact hjun
    ·rw[getD_set_ne true hjk] at hun;exact hun
   refine wpOp_mono (fun a' w' h3=>⟨h3.2.1,ih (listed.setIfInBounds j true) a' w' hfree' (z0zk hcl hj) (ready_mono hr (Ne.symm hji)) h3.1 (h3.2.1 hjf) ?_⟩) h2
   rw[Array.setIfInBounds_comm _ _ hji]
   exact h3.2.2
theorem XmaW {i:Nat} {oi:Oper} {v:Value} {fuel:Nat} {listed:Array Bool} {a:Act} {w:World} (d:Option Nat) (p:List Nat) (hi:ops[i]?=some oi) (hd:oi.dst=d)
  (hs:Region.noSelect ops=true) (hf:Region.free md ops listed i=true) (hr:(Region.ready md ops listed).contains i=true) (hwt:pathB md ops i p f=true) (hcl:j5xf md ops listed=true)
  (hQ:∀c a w,Q (.panic c) (a.put oi.dst v) w→Q (.panic c) a w) (hy:YieldsIf P ops S oi v a) (hS:S w)
  (h:jZdv P md ops Q S f fuel (listed.setIfInBounds i true) (a.put d v) w):jZdv P md ops Q S f (fuel+1) listed a w:=by
 subst hd
 exact Xf6p hi (Region.noSelect_spec hs) hQ hwt fuel listed a w (Region.free_spec hi hf) (jmuz hcl) (by simpa using hr) hy hS h
theorem takeQ {oi:Oper} {fuel:Nat} {listed:Array Bool} {a:Act} {w:World} (i:Nat) (v:Value) (d:Option Nat) (p:List Nat) (hy:∀w,S w→(execOp a.eval oi).run P w=.ok (.value v) w) (hS:S w)
  (h:jZdv P md ops Q S f fuel (listed.setIfInBounds i true) (a.put d v) w) (hi:ops[i]?=some oi:=by rfl) (hd:oi.dst=d:=by rfl)
  (hs:Region.noSelect ops=true:=by kernel_rfl) (hf:Region.free md ops listed i=true:=by kernel_rfl) (hr:(Region.ready md ops listed).contains i=true:=by kernel_rfl) (hwt:pathB md ops i p f=true:=by kernel_rfl) (hcl:j5xf md ops listed=true:=by kernel_rfl)
  (hQ:∀c a w,Q (.panic c) (a.put oi.dst v) w→Q (.panic c) a w:=by exact fun _ _ _ h=>h) (hg:Region.wanted oi (yielded ops a.tmps)=true:=by rfl):jZdv P md ops Q S f (fuel+1) listed a w :=
 XmaW d p hi hd hs hf hr hwt hcl hQ (Or.inl ⟨hg,hy⟩) hS h
end
end Go.Proofs.YtfjeonehdlphiaaGreatDoor
