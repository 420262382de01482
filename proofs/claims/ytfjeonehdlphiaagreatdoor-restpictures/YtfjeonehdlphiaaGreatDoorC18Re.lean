/- Re: part 18 of what the proofs need. -/
import Derived.Test.YtfjeonehdlphiaaGreatDoorC2Re
import Derived.ProofKit
import Derived.OpenShut
open List renaming getD_eq_getElem?_getD → ka
set_option linter.unusedVariables false
namespace Go.Proofs.YtfjeonehdlphiaaGreatDoor
open Go.RowKit
theorem joXr {W:World} {x:Addr} {len cap:Nat} {zs:List Int} (hl:len≤cap) (hm:cap≤maxLen) (hz:zs.length=cap)
  (hcell:∀i,i<zs.length→W.cell? (x.add i)=some (.int .i64 (zs.getD i 0))):jCvT W (.slice (some x) len cap) (zs.take len):=by
 have hlen:(zs.take len).length=len:=by rw[List.length_take];omega
 unfold maxLen at hm
 refine ⟨some x,cap,by rw[hlen],by rw[hlen];omega,?_⟩
 by_cases h0:len=0
 ·left;subst h0;rfl
 ·right
  obtain ⟨b,off,rfl,hc⟩:=ints_at hcell (by omega)
  refine ⟨b,off,rfl,World.block_lt_of_cell? W _ (hc 0 (by omega)),fun j hj=>?_⟩
  rw[hlen] at hj
  rw[hc j (by omega)]
  simp[List.getD,List.getElem?_eq_getElem (show j<zs.length by omega)]
end Go.Proofs.YtfjeonehdlphiaaGreatDoor
namespace Go.Proofs.YtfjeonehdlphiaaGreatDoor
open Go.RowKit Go.ChangeShapes
theorem cells2 {W:World} {base:Nat} {a:Addr} {cs:List Value} (h:W.cells? base a 2=some cs):∃x y,cs=[x,y]∧W.cell? (a.add 0)=some x∧W.cell? (a.add 1)=some y:=by
 obtain ⟨_,hl,hc⟩:=World.cells?_some h
 match cs,hl with
 | [x,y],_=>exact ⟨x,y,rfl,hc 0 (by omega),hc 1 (by omega)⟩
theorem jWjT {α:Type} (P:Nat→α→Prop) (n:Nat) (h:∀i,i<n→∃p,P i p) (d:α):∃ls:List α,ls.length=n∧∀i,i<n→P i (ls.getD i d):=by
 induction n with
 | zero=>exact ⟨[],rfl,fun i hi=>by omega⟩
 | succ n ih =>
  obtain ⟨ls,hl,hp⟩:=ih (fun i hi=>h i (by omega))
  obtain ⟨p,hp'⟩:=h n (by omega)
  refine ⟨ls++[p],by simp[hl],fun i hi=>?_⟩
  rcases Nat.eq_or_lt_of_le (show i≤n by omega) with e|hlt
  ·subst e
   rw[ka,List.getElem?_append_right (by omega),hl]
   simpa using hp'
  ·rw[ka,List.getElem?_append_left (by omega),←ka]
   exact hp i hlt
theorem qKFs {P:Program} {H:Type} {enc:TypeId×Value→H} {W:World} {base:Nat} {spare:Nat→Bool} {held:Bool} {fuel:Nat} {t e:TypeId} {f0 f1:Field} {v:Value} {x:DataW H×List MemPlace}
  (ht:P.underlying t=some (.slice e)) (he:P.underlying e=some (.struct #[f0,f1])) (h0:P.underlying f0.type=some (.int .i64)) (h1:P.underlying f1.type=some (.int .i64)) (o0:f0.offset=0) (o1:f1.offset=1)
  (ce:P.cellsOf e=2) (c0:P.cellsOf f0.type=1) (c1:P.cellsOf f1.type=1) (h:DataW.trod enc P W base spare held fuel t [v]=some x):∃ls,IsPts W v ls∧∀j,j<ls.length→(Lit.int .i64 (ptAt ls j).1).wf=true∧(Lit.int .i64 (ptAt ls j).2).wf=true:=by
 rcases DataW.trod_slice ht h with ⟨hcs,_⟩|⟨a,len,cap,elems,rest,n,_,hcs,_,hb,hl,hm,hlen,hel,_,_⟩
 ·simp at hcs
  subst hcs
  exact ⟨[],IsPts.nil _,fun j hj=>by simp at hj⟩
 ·simp at hcs
  subst hcs
  have each:∀i,i<len→∃p:Pt,(W.cell? ((a.add (i*2)).add 0)=some (.int .i64 p.1)∧W.cell? ((a.add (i*2)).add 1)=some (.int .i64 p.2))∧(Lit.int .i64 p.1).wf=true∧(Lit.int .i64 p.2).wf=true:=by
   intro i hi
   have h2:=hel i hi
   rw[List.getElem?_eq_getElem (by omega),ce,Option.bind_eq_some_iff] at h2
   obtain ⟨cs,hc,hy⟩:=h2
   obtain ⟨p,q,rfl,hp,hq⟩:=cells2 hc
   obtain ⟨y0,y1,m,_,_,g0,g1⟩:=Go.ChangeShapes.trod_struct2 he hy
   rw[o0,c0] at g0
   rw[o1,c1] at g1
   obtain ⟨z0,e0,_,wf0⟩:=DataW.trod_int h0 g0
   obtain ⟨z1,e1,_,wf1⟩:=DataW.trod_int h1 g1
   simp at e0 e1
   subst e0 e1
   exact ⟨(z0,z1),⟨hp,hq⟩,wf0,wf1⟩
  obtain ⟨ls,hll,hls⟩:=jWjT _ len each (0,0)
  unfold maxLen at hm
  refine ⟨ls,⟨some a,cap,by rw[hll],by omega,?_⟩,fun j hj=>(hls j (by omega)).2⟩
  by_cases hz:len=0
  ·exact .inl (List.eq_nil_of_length_eq_zero (by omega))
  ·right
   obtain ⟨b,off,spot⟩:=a
   have hspot:spot=none:=by simpa [Addr.add] using World.cell?_spot (hls 0 (by omega)).1.1
   subst hspot
   have hk:∀j,j<ls.length→W.cell? ⟨b,off+j*2,none⟩=some (.int .i64 (ptAt ls j).1)∧W.cell? ⟨b,off+j*2+1,none⟩=some (.int .i64 (ptAt ls j).2):=by
    intro j hj
    have h2:=(hls j (by omega)).1
    rw[Go.WideShapes.add_plain,Go.WideShapes.add_plain,Go.WideShapes.add_plain] at h2
    exact h2
   exact ⟨b,off,rfl,World.block_lt_of_cell? W _ (hk 0 (by omega)).1,hk⟩
end Go.Proofs.YtfjeonehdlphiaaGreatDoor
