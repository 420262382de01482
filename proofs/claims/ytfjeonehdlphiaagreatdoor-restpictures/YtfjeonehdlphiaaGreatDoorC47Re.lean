/- Re: part 47 of what the proofs need. -/
import Derived.Test.YtfjeonehdlphiaaGreatDoorC18Re
import Derived.Test.YtfjeonehdlphiaaGreatDoorC35Re
import Derived.Test.YtfjeonehdlphiaaGreatDoorC39Re
import Derived.Test.YtfjeonehdlphiaaGreatDoorC46Re
open List renaming getElem?_eq_getElem → ka
set_option linter.unusedVariables false
set_option maxHeartbeats 1600000
namespace Go.Proofs.YtfjeonehdlphiaaGreatDoor
open Go.RowKit Go.ChangeShapes
theorem cells1 {W:World} {base:Nat} {a:Addr} {x:Value} (h:W.cells? base a 1=some [x]):W.cell? a=some x:=by
 obtain ⟨_,_,hc⟩:=World.cells?_some h
 have:=hc 0 (by omega)
 simpa [Addr.add] using this
theorem XS6b {P:Program} {H:Type} {enc:TypeId×Value→H} {W:World} {base:Nat} {spare:Nat→Bool} {held:Bool} {fuel:Nat} {t e:TypeId} {v:Value} {x:DataW H×List MemPlace}
  (ht:P.underlying t=some (.slice e)) (he:P.underlying e=some .string) (ce:P.cellsOf e=1) (h:DataW.trod enc P W base spare held fuel t [v]=some x):∃ts,zGcC W v ts:=by
 rcases DataW.trod_slice ht h with ⟨hcs,_⟩|⟨a,len,cap,elems,rest,n,_,hcs,_,hb,hl,hm,hlen,hel,_,_⟩
 ·simp at hcs
  subst hcs
  exact ⟨[],zGcC.nil _⟩
 ·simp at hcs
  subst hcs
  have each:∀i,i<len→∃s:List UInt8,W.cell? (a.add i)=some (.string (str s)):=by
   intro i hi
   have h2:=hel i hi
   rw[ka (by omega),ce,Nat.mul_one,Option.bind_eq_some_iff] at h2
   obtain ⟨cs,hc,hy⟩:=h2
   obtain ⟨s,rfl,_,_⟩:=DataW.trod_string he hy
   have hc1:=cells1 hc
   exact ⟨s.data.toList,by rw[str_of];exact hc1⟩
  obtain ⟨ts,hll,hls⟩:=jWjT _ len each []
  unfold maxLen at hm
  refine ⟨ts,⟨some a,cap,by rw[hll],by omega,?_⟩⟩
  by_cases hz:len=0
  ·exact .inl (List.eq_nil_of_length_eq_zero (by omega))
  ·right
   obtain ⟨b,off,spot⟩:=a
   have hspot:spot=none:=by simpa [Addr.add] using World.cell?_spot (hls 0 (by omega))
   subst hspot
   have hk:∀j,j<ts.length→W.cell? ⟨b,off+j,none⟩=some (.string (str (ts.getD j []))):=by
    intro j hj
    have h2:=hls j (by omega)
    rw[Go.WideShapes.add_plain] at h2
    exact h2
   exact ⟨b,off,rfl,World.block_lt_of_cell? W _ (hk 0 (by omega)),hk⟩
theorem qDM2 {cs:List Value} {a:Nat} {n:Nat} (hl:a<cs.length):∃v,(cs.drop a).take 1=[v]:=by
 refine ⟨cs[a],?_⟩
 rw[List.drop_eq_getElem_cons hl];rfl
theorem z9rg {P:Program} {H:Type} {enc:TypeId×Value→H} {W:World} {base:Nat} {held:Bool} {fuel:Nat} {t ti tl tt tst tp:TypeId} {f0 f1 f2 f3 f4 f5 f6 f7:Field} {cs:List Value} {x:DataW H×List MemPlace}
  (ht:P.underlying t=some (.struct #[f0,f1,f2,f3,f4,f5,f6,f7])) (hi:P.underlying ti=some (.int .i64)) (ci:P.cellsOf ti=1)
  (y0:f0.type=ti) (y1:f1.type=ti) (y2:f2.type=ti) (y3:f3.type=ti) (y4:f4.type=ti) (y5:f5.type=tl) (y6:f6.type=tt) (y7:f7.type=tp)
  (o0:f0.offset=0) (o1:f1.offset=1) (o2:f2.offset=2) (o3:f3.offset=3) (o4:f4.offset=4) (o5:f5.offset=5) (o6:f6.offset=6) (o7:f7.offset=7)
  (hl5:P.underlying tl=some (.slice ti)) (cl5:P.cellsOf tl=1) (ht6:P.underlying tt=some (.slice tst)) (ct6:P.cellsOf tt=1) (hst:P.underlying tst=some .string) (cst:P.cellsOf tst=1)
  (cp:P.cellsOf tp=21) (ct:P.cellsOf t=28) (h:DataW.trod enc P W base (fun _=>true) held fuel t cs=some x)
  (hplan:∀(fuel:Nat) (ps:List Value) (y:DataW H×List MemPlace),DataW.trod enc P W base (fun _=>true) held fuel tp ps=some y→∃n sv cv,ps=(planA n sv cv).toList∧X1uD W n sv cv) :
  ∃r lv tv sv cv,cs=(rawA r lv tv sv cv).toList∧IsRaw W r lv tv sv cv:=by
 obtain ⟨xs,m,_,_,hl,hxl,hx⟩:=DataW.trod_struct ht h
 rw[ct] at hl
 have e0:=hx 0 f0 rfl
 have e1:=hx 1 f1 rfl
 have e2:=hx 2 f2 rfl
 have e3:=hx 3 f3 rfl
 have e4:=hx 4 f4 rfl
 have e5:=hx 5 f5 rfl
 have e6:=hx 6 f6 rfl
 have e7:=hx 7 f7 rfl
 have hxl':xs.length=8:=by rw[hxl];rfl
 rw[o0,y0,ci,ka (by omega)] at e0
 rw[o1,y1,ci,ka (by omega)] at e1
 rw[o2,y2,ci,ka (by omega)] at e2
 rw[o3,y3,ci,ka (by omega)] at e3
 rw[o4,y4,ci,ka (by omega)] at e4
 rw[o5,y5,cl5,ka (by omega)] at e5
 rw[o6,y6,ct6,ka (by omega)] at e6
 rw[o7,y7,cp,ka (by omega)] at e7
 obtain ⟨a0,p0,_,_⟩:=DataW.trod_int hi e0
 obtain ⟨a1,p1,_,_⟩:=DataW.trod_int hi e1
 obtain ⟨a2,p2,_,_⟩:=DataW.trod_int hi e2
 obtain ⟨a3,p3,_,_⟩:=DataW.trod_int hi e3
 obtain ⟨a4,p4,_,_⟩:=DataW.trod_int hi e4
 obtain ⟨lv,p5⟩:=qDM2 (cs:=cs) (a:=5) (n:=0) (by omega)
 obtain ⟨tv,p6⟩:=qDM2 (cs:=cs) (a:=6) (n:=0) (by omega)
 rw[p5] at e5
 rw[p6] at e6
 obtain ⟨zs,i5⟩:∃zs,jCvT W lv zs:=by
  rcases open_ints hl5 hi ci e5 with ⟨hcs,_⟩|⟨x,l,c,zs,hcs,_,hl,hm,hz,_,hcell,hwz⟩
  ·simp at hcs
   subst hcs
   exact ⟨[],jCvT.nil _⟩
  ·simp at hcs
   subst hcs
   exact ⟨_,joXr hl hm (by simpa using hz) hcell⟩
 obtain ⟨ts,i6⟩:=XS6b ht6 hst cst e6
 obtain ⟨n,sv,cv,p7,i7⟩:=hplan _ _ _ e7
 refine ⟨⟨a0,a1,a2,a3,a4,zs,ts,n⟩,lv,tv,sv,cv,?_,⟨i5,i6,i7⟩⟩
 have q0:=jFrx p0
 have q1:=jFrx p1
 have q2:=jFrx p2
 have q3:=jFrx p3
 have q4:=jFrx p4
 have q5:=jFrx p5
 have q6:=jFrx p6
 show cs=[.int .i64 a0,.int .i64 a1,.int .i64 a2,.int .i64 a3,.int .i64 a4,lv,tv]++(planA n sv cv).toList
 rw[←p7,List.take_of_length_le (by rw[List.length_drop];omega)]
 refine List.ext_getElem? fun i=>?_
 by_cases hlt:i<7
 ·rcases (show i=0∨i=1∨i=2∨i=3∨i=4∨i=5∨i=6 by omega) with rfl|rfl|rfl|rfl|rfl|rfl|rfl
  ·exact q0
  ·exact q1
  ·exact q2
  ·exact q3
  ·exact q4
  ·exact q5
  ·exact q6
 ·rw[List.getElem?_append_right (by simp;omega),List.getElem?_drop]
  congr 1
  simp;omega
theorem jJub {P:Program} {H:Type} {enc:TypeId×Value→H} {W:World} {base:Nat} {spare:Nat→Bool} {held:Bool} {fuel:Nat} {t e:TypeId} {v:Value} {x:DataW H×List MemPlace}
  (ht:P.underlying t=some (.slice e)) (h:DataW.trod enc P W base spare held fuel t [v]=some x):NilZ v:=by
 intro n c hv
 subst hv
 rcases DataW.trod_slice ht h with ⟨hcs,_⟩|⟨a,len,cap,elems,rest,m,_,hcs,_⟩
 ·simp at hcs;exact hcs
 ·simp at hcs
theorem X2kh {P:Program} {H:Type} {enc:TypeId×Value→H} {W:World} {base:Nat} {spare:Nat→Bool} {held:Bool} {fuel:Nat} {t e:TypeId} {v:Value} {x:DataW H×List MemPlace} {ts:List (List UInt8)}
  (ht:P.underlying t=some (.slice e)) (hb:P.bytesOf e=16) (h:DataW.trod enc P W base spare held fuel t [v]=some x) (hv:zGcC W v ts) (hw:∀n∈x.1.weights P t,n≤reachBytes):ts.length≤8796093022208:=by
 obtain ⟨so,sc,rfl,_⟩:=hv
 rcases DataW.trod_slice ht h with ⟨hcs,_⟩|⟨a,len,cap,elems,rest,m,_,hcs,rfl,_,_,_,hlen,_⟩
 ·simp at hcs
  obtain ⟨_,h2,_⟩:=hcs
  simp[h2]
 ·simp at hcs
  obtain ⟨_,h2,_⟩:=hcs
  have h3:=hw _ (by simp only[DataW.weights,ht];exact List.mem_cons_self ..)
  have:=reachBytes_lt
  rw[hb] at h3
  simp only[List.length_map] at h3
  omega
theorem zhMv {P:Program} {H:Type} {enc:TypeId×Value→H} {W:World} {base:Nat} {spare:Nat→Bool} {held:Bool} {fuel:Nat} {t ti tl tt tst tp ts tc es ec:TypeId} {f0 f1 f2 f3 f4 f5 f6 f7 g0 g1 g2 g3 g4 g5 g6 g7:Field} {r:RawF} {lv tv sv cv:Value} {x:DataW H×List MemPlace}
  (ht:P.underlying t=some (.struct #[f0,f1,f2,f3,f4,f5,f6,f7]))
  (y5:f5.type=tl) (y6:f6.type=tt) (y7:f7.type=tp) (o5:f5.offset=5) (o6:f6.offset=6) (o7:f7.offset=7)
  (hl5:P.underlying tl=some (.slice ti)) (cl5:P.cellsOf tl=1) (ht6:P.underlying tt=some (.slice tst)) (ct6:P.cellsOf tt=1) (hb:P.bytesOf tst=16) (cp:P.cellsOf tp=21)
  (htp:P.underlying tp=some (.struct #[g0,g1,g2,g3,g4,g5,g6,g7])) (z3:g3.type=ts) (z6:g6.type=tc) (n3:g3.offset=6) (n6:g6.offset=19)
  (hs:P.underlying ts=some (.slice es)) (cs1:P.cellsOf ts=1) (hc:P.underlying tc=some (.slice ec)) (cc1:P.cellsOf tc=1)
  (h:DataW.trod enc P W base spare held fuel t (rawA r lv tv sv cv).toList=some x) (hr:IsRaw W r lv tv sv cv) (hw:∀n∈x.1.weights P t,n≤reachBytes) :
  NilZ lv∧NilZ tv∧NilZ sv∧NilZ cv∧r.strips.length≤8796093022208:=by
 obtain ⟨xs,m,_,rfl,_,hxl,hx⟩:=DataW.trod_struct ht h
 have hxl':xs.length=8:=by rw[hxl];rfl
 have e5:=hx 5 f5 rfl
 have e6:=hx 6 f6 rfl
 have e7:=hx 7 f7 rfl
 rw[o5,y5,cl5,ka (by omega)] at e5
 rw[o6,y6,ct6,ka (by omega)] at e6
 rw[o7,y7,cp,ka (by omega)] at e7
 have e5':DataW.trod enc P W base spare held m tl [lv]=some xs[5]:=e5
 have e6':DataW.trod enc P W base spare held m tt [tv]=some xs[6]:=e6
 have e7':DataW.trod enc P W base spare held m tp (planA r.plan sv cv).toList=some xs[7]:=e7
 obtain ⟨ys,k,_,_,_,hyl,hy⟩:=DataW.trod_struct htp e7'
 have hyl':ys.length=8:=by rw[hyl];rfl
 have d3:=hy 3 g3 rfl
 have d6:=hy 6 g6 rfl
 rw[n3,z3,cs1,ka (by omega)] at d3
 rw[n6,z6,cc1,ka (by omega)] at d6
 have d3':DataW.trod enc P W base spare held k ts [sv]=some ys[3]:=d3
 have d6':DataW.trod enc P W base spare held k tc [cv]=some ys[6]:=d6
 refine ⟨jJub hl5 e5',jJub ht6 e6',jJub hs d3',jJub hc d6',X2kh ht6 hb e6' hr.strips fun n hn=>hw n ?_⟩
 simp only[DataW.weights,ht]
 exact DataW.weights_mem_each (j:=6) (t:=tt) (d:=xs[6].1) (by rw[←y6];rfl) (by rw[List.getElem?_map,ka (by omega)];rfl) n hn
end Go.Proofs.YtfjeonehdlphiaaGreatDoor
