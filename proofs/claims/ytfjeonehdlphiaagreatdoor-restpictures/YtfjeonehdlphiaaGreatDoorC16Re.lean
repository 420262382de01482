/- Re: part 16 of what the proofs need. -/
import Derived.Test.YtfjeonehdlphiaaGreatDoorC2Re
import Derived.Test.YtfjeonehdlphiaaGreatDoorRows
import Derived.Lib.LaidTab
import Derived.OpenShut
open List renaming getElem?_eq_getElem → ka
set_option linter.unusedVariables false
namespace Go.Proofs.YtfjeonehdlphiaaGreatDoor
open Go.RowKit Go.ChangeShapes
theorem qebV {H:Type} {enc:TypeId×Value→H} {P:Program} {w:World} {base:Nat} {sp:Nat→Bool} {held:Bool} {fuel:Nat} {t e tb:TypeId} {f0 f1 f2:Field} {cs:List Value} {p:List MemPlace} {ms:List Mv}
  (ht:P.underlying t=some (.array 8 e)) (he:P.underlying e=some (.struct #[f0,f1,f2])) (h0:f0.type=tb) (h1:f1.type=tb) (h2:f2.type=tb) (o0:f0.offset=0) (o1:f1.offset=1) (o2:f2.offset=2) (hb:P.underlying tb=some .bool) (cb:P.cellsOf tb=1) (ce:P.cellsOf e=3)
  (h:DataW.trod enc P w base sp held fuel t cs=some (.agg (ms.map fun m=>.agg [.lit (.bool m.1),.lit (.bool m.2.1),.lit (.bool m.2.2)]),p)) (i:Nat) (hi:i<8) (m:Mv) (hm:ms[i]?=some m) :
  cs[i*3]?=some (.bool m.1)∧cs[i*3+1]?=some (.bool m.2.1)∧cs[i*3+2]?=some (.bool m.2.2):=by
 obtain ⟨xs,n,_,hx,_,hl,hel⟩:=DataW.trod_array ht h
 have hE:=hel i hi
 rw[ce,ka (by omega)] at hE
 obtain ⟨ys,n2,_,hy,_,hyl,hye⟩:=DataW.trod_struct he hE
 have hyl':ys.length=3:=hyl
 have e0:=hye 0 f0 rfl
 have e1:=hye 1 f1 rfl
 have e2:=hye 2 f2 rfl
 rw[h0,o0,cb,ka (by omega)] at e0
 rw[h1,o1,cb,ka (by omega)] at e1
 rw[h2,o2,cb,ka (by omega)] at e2
 obtain ⟨b0,c0,y0⟩:=DataW.trod_bool hb e0
 obtain ⟨b1,c1,y1⟩:=DataW.trod_bool hb e1
 obtain ⟨b2,c2,y2⟩:=DataW.trod_bool hb e2
 have hxi:(xs.map (·.1))[i]?=some (.agg [.lit (.bool m.1),.lit (.bool m.2.1),.lit (.bool m.2.2)]):=by
  have:=congrArg Prod.fst hx
  simp only at this
  have h3:ms.map (fun m=>(DataW.agg [.lit (.bool m.1),.lit (.bool m.2.1),.lit (.bool m.2.2)]:DataW H))=xs.map (·.1):=by
   have h4:=this
   simp only[DataW.agg.injEq] at h4
   exact h4
  rw[←h3,List.getElem?_map,hm]
  rfl
 rw[List.getElem?_map,ka (by omega),hy] at hxi
 have hyy:ys.map (·.1)=[.lit (.bool m.1),.lit (.bool m.2.1),.lit (.bool m.2.2)]:=by
  simpa using hxi
 have z0:(ys.map (·.1))[0]?=some (DataW.lit (.bool b0):DataW H):=by rw[List.getElem?_map,ka (by omega),y0];rfl
 have z1:(ys.map (·.1))[1]?=some (DataW.lit (.bool b1):DataW H):=by rw[List.getElem?_map,ka (by omega),y1];rfl
 have z2:(ys.map (·.1))[2]?=some (DataW.lit (.bool b2):DataW H):=by rw[List.getElem?_map,ka (by omega),y2];rfl
 rw[hyy] at z0 z1 z2
 simp at z0 z1 z2
 subst z0 z1 z2
 have g:∀(k:Nat) (v:Value),((((cs.drop (i*3)).take 3).drop k).take 1)=[v]→k<3→cs[i*3+k]?=some v:=fun k v hk hk3=>by
  have h0:((((cs.drop (i*3)).take 3).drop k).take 1)[0]?=some v:=by rw[hk];rfl
  rw[List.getElem?_take_of_lt (by omega),List.getElem?_drop,List.getElem?_take_of_lt (by omega),List.getElem?_drop] at h0
  exact h0
 exact ⟨g 0 _ c0 (by omega),g 1 _ c1 (by omega),g 2 _ c2 (by omega)⟩
theorem zsTb:Tryz.prog.globalNamed "darkslide/turn.moves" = some 0:=by kernel_rfl
theorem qLVO:(Tryz.prog.globals[0]?).map (·.type)=some 167:=by kernel_rfl
theorem j3Dr:Tryz.prog.cellsOf 119=3:=by kernel_rfl
theorem XLyy:Tryz.prog.cellsOf 4=1:=by kernel_rfl
theorem qSLc {W:World} {rest:List (String×DataW Unit)} (h:laidMet Tryz.prog (("darkslide/turn.moves",Rows.laid_darkslide_turn_moves)::rest) W):zR7W W:=by
 obtain ⟨ps,⟨g',t',cs,fuel,p,q,hg',ht',hvar,hd,_,_⟩,_⟩:=h
 obtain rfl:=Option.some.inj (zsTb.symm.trans hg')
 obtain rfl:=Option.some.inj (qLVO.symm.trans ht')
 have hrow:=fun i hi m hm=>qebV (ms:=mvL) Tryz.underlying167 Tryz.underlying119 rfl rfl rfl rfl rfl rfl Tryz.underlying4 XLyy j3Dr hd i hi m hm
 have hcell:=fun i=>World.var?_cell zsTb hvar i
 have key:∀k,k<8→W.cell? ⟨0,k*3,none⟩=some (.bool (mvAt k).1)∧W.cell? ⟨0,k*3+1,none⟩=some (.bool (mvAt k).2.1)∧W.cell? ⟨0,k*3+2,none⟩=some (.bool (mvAt k).2.2):=fun k hk=>by
  have hmk:mvL[k]?=some (mvAt k):=by
   unfold mvAt
   rw[List.getD_eq_getElem?_getD,ka (show k<mvL.length from hk)]
   rfl
  obtain ⟨c0,c1,c2⟩:=hrow k hk _ hmk
  refine ⟨?_,?_,?_⟩
  ·rw[hcell];simpa using c0
  ·rw[hcell];simpa using c1
  ·rw[hcell];simpa using c2
 exact ⟨World.block_lt_of_cell? W _ (key 0 (by omega)).1,key⟩
end Go.Proofs.YtfjeonehdlphiaaGreatDoor
