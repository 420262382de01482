/- Re: part 45 of what the proofs need. -/
import Derived.Test.YtfjeonehdlphiaaGreatDoorC18Re
import Derived.Test.YtfjeonehdlphiaaGreatDoorC19Re
open List renaming getElem?_eq_getElem → ka
set_option linter.unusedVariables false
namespace Go.Proofs.YtfjeonehdlphiaaGreatDoor
open Go.RowKit Go.ChangeShapes
theorem z8eQ {W:World} {base:Nat} {a:Addr} {cs:List Value} (h:W.cells? base a 3=some cs):∃x y z,cs=[x,y,z]∧W.cell? (a.add 0)=some x∧W.cell? (a.add 1)=some y∧W.cell? (a.add 2)=some z:=by
 obtain ⟨_,hl,hc⟩:=World.cells?_some h
 match cs,hl with
 | [x,y,z],_=>exact ⟨x,y,z,rfl,hc 0 (by omega),hc 1 (by omega),hc 2 (by omega)⟩
theorem jyXd {P:Program} {H:Type} {enc:TypeId×Value→H} {W:World} {base:Nat} {spare:Nat→Bool} {held:Bool} {fuel:Nat} {t e:TypeId} {f0 f1 f2:Field} {v:Value} {x:DataW H×List MemPlace}
  (ht:P.underlying t=some (.slice e)) (he:P.underlying e=some (.struct #[f0,f1,f2])) (h0:P.underlying f0.type=some (.int .i64)) (h1:P.underlying f1.type=some (.int .i64)) (h2:P.underlying f2.type=some (.int .i64)) (o0:f0.offset=0) (o1:f1.offset=1) (o2:f2.offset=2)
  (ce:P.cellsOf e=3) (c0:P.cellsOf f0.type=1) (c1:P.cellsOf f1.type=1) (c2:P.cellsOf f2.type=1) (h:DataW.trod enc P W base spare held fuel t [v]=some x):∃ps,IsPix W v ps:=by
 rcases DataW.trod_slice ht h with ⟨hcs,_⟩|⟨a,len,cap,elems,rest,n,_,hcs,_,hb,hl,hm,hlen,hel,_,_⟩
 ·simp at hcs
  subst hcs
  exact ⟨[],IsPix.nil _⟩
 ·simp at hcs
  subst hcs
  have each:∀i,i<len→∃p:Px,W.cell? ((a.add (i*3)).add 0)=some (.int .i64 p.1)∧W.cell? ((a.add (i*3)).add 1)=some (.int .i64 p.2.1)∧W.cell? ((a.add (i*3)).add 2)=some (.int .i64 p.2.2):=by
   intro i hi
   have h2':=hel i hi
   rw[ka (by omega),ce,Option.bind_eq_some_iff] at h2'
   obtain ⟨cs,hc,hy⟩:=h2'
   obtain ⟨p,q,r,rfl,hp,hq,hr⟩:=z8eQ hc
   obtain ⟨xs,m,_,_,_,hxl,hx⟩:=DataW.trod_struct he hy
   have g0:=hx 0 f0 rfl
   have g1:=hx 1 f1 rfl
   have g2:=hx 2 f2 rfl
   rw[o0,c0,ka (by rw[hxl];simp)] at g0
   rw[o1,c1,ka (by rw[hxl];simp)] at g1
   rw[o2,c2,ka (by rw[hxl];simp)] at g2
   obtain ⟨z0,e0,_,_⟩:=DataW.trod_int h0 g0
   obtain ⟨z1,e1,_,_⟩:=DataW.trod_int h1 g1
   obtain ⟨z2,e2,_,_⟩:=DataW.trod_int h2 g2
   simp at e0 e1 e2
   subst e0 e1 e2
   exact ⟨(z0,z1,z2),hp,hq,hr⟩
  obtain ⟨ls,hll,hls⟩:=jWjT _ len each (0,0,0)
  unfold maxLen at hm
  refine ⟨ls,some a,cap,by rw[hll],by omega,?_⟩
  by_cases hz:len=0
  ·exact .inl (List.eq_nil_of_length_eq_zero (by omega))
  ·right
   obtain ⟨b,off,spot⟩:=a
   have hspot:spot=none:=by simpa [Addr.add] using World.cell?_spot (hls 0 (by omega)).1
   subst hspot
   have hk:∀j (hj:j<ls.length),W.cell? ⟨b,off+j*3,none⟩=some (.int .i64 ls[j].1)∧W.cell? ⟨b,off+j*3+1,none⟩=some (.int .i64 ls[j].2.1)∧W.cell? ⟨b,off+j*3+2,none⟩=some (.int .i64 ls[j].2.2):=by
    intro j hj
    have h2':=hls j (by omega)
    rw[Go.WideShapes.add_plain,Go.WideShapes.add_plain,Go.WideShapes.add_plain,Go.WideShapes.add_plain] at h2'
    rw[jD3W ls j hj]
    exact h2'
   exact ⟨b,off,rfl,World.block_lt_of_cell? W _ (hk 0 (by omega)).1,hk⟩
end Go.Proofs.YtfjeonehdlphiaaGreatDoor
