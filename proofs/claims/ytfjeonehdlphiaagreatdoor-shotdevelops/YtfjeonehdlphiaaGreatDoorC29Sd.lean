/- Part 29. -/
import Derived.Test.YtfjeonehdlphiaaGreatDoorC11Sd
import Derived.Test.YtfjeonehdlphiaaGreatDoorRows
import Derived.Lib.LaidTab
import Derived.OpenShut
open List renaming getElem?_eq_getElem → ka
set_option linter.unusedVariables false
namespace Go.Proofs.YtfjeonehdlphiaaGreatDoor
open _root_.Go.Proofs.Tryz
open Go.RowKit Go.ChangeShapes
theorem CT {H:Type} {enc:TypeId×Value->H} {P:Program} {w:World} {base:Nat} {sp:Nat->Bool} {V:Bool} {O:Nat} {t e b:TypeId} {d f j:Field} {a:List Value} {p:List MemPlace} {ms:List Mv}
  (ht:P.underlying t=some (.array 8 e)) (T:P.underlying e=some (.struct #[d,f,j])) (l:d.type=b) (Q:f.type=b) (R:j.type=b) (o0:d.offset=0) (o1:f.offset=1) (o2:j.offset=2) (q:P.underlying b=some .bool) (o:P.cellsOf b=1) (N:P.cellsOf e=3)
  (h:DataW.trod enc P w base sp V O t a=some (.agg (ms.map fun m=>.agg [.lit (.bool m.1),.lit (.bool m.2.1),.lit (.bool m.2.2)]),p)) (i:Nat) (W:i<8) (m:Mv) (Y:ms[i]?=some m) :
  a[i*3]?=some (.bool m.1)/\a[i*3+1]?=some (.bool m.2.1)/\a[i*3+2]?=some (.bool m.2.2):=by
 obtain ⟨xs,n,_,hx,_,hl,U⟩:=DataW.trod_array ht h;have C:=U i W;rw[N,ka oM] at C;obtain ⟨c,n2,_,hy,_,hyl,r⟩:=DataW.trod_struct T C;have hyl':c.length=3:=hyl;have y:=r 0 d rfl;have z:=r 1 f rfl;have A:=r 2 j rfl;rw[l,o0,o,ka oM] at y;rw[Q,o1,o,ka oM] at z;rw[R,o2,o,ka oM] at A;obtain ⟨E,K,y0⟩:=DataW.trod_bool q y;obtain ⟨F,L,y1⟩:=DataW.trod_bool q z;obtain ⟨I,M,y2⟩:=DataW.trod_bool q A;have D:(xs.map (·.1))[i]?=some (.agg [.lit (.bool m.1),.lit (.bool m.2.1),.lit (.bool m.2.2)]):=by
  have:=congrArg Prod.fst hx;simp only at this;have S:ms.map (fun m=>(DataW.agg [.lit (.bool m.1),.lit (.bool m.2.1),.lit (.bool m.2.2)]:DataW H))=xs.map (·.1):=by
   have B:=this;simp only[DataW.agg.injEq] at B;exact B
  rw[<-S,List.getElem?_map,Y];rfl
 rw[List.getElem?_map,ka oM,hy] at D;have hyy:c.map (·.1)=[.lit (.bool m.1),.lit (.bool m.2.1),.lit (.bool m.2.2)]:=by
  simpa using D
 have s:(c.map (·.1))[0]?=some (DataW.lit (.bool E):DataW H):=by rw[List.getElem?_map,ka oM,y0];rfl
 have u:(c.map (·.1))[1]?=some (DataW.lit (.bool F):DataW H):=by rw[List.getElem?_map,ka oM,y1];rfl
 have x:(c.map (·.1))[2]?=some (DataW.lit (.bool I):DataW H):=by rw[List.getElem?_map,ka oM,y2];rfl
 rw[hyy] at s u x;simp at s u x;subst s u x;have g:∀(k:Nat) (v:Value),((((a.drop (i*3)).take 3).drop k).take 1)=[v]->k<3->a[i*3+k]?=some v:=fun k v X hk3=>by
  have l:((((a.drop (i*3)).take 3).drop k).take 1)[0]?=some v:=by rw[X];rfl
  rw[List.getElem?_take_of_lt oM,List.getElem?_drop,List.getElem?_take_of_lt oM,List.getElem?_drop] at l;exact l
 exact ⟨g 0 _ K oM,g 1 _ L oM,g 2 _ M oM⟩
theorem uV:prog.globalNamed "darkslide/turn.moves" = some 0:=kR
theorem Bm:(prog.globals[0]?).map (·.type)=some 167:=kR
theorem zE:prog.cellsOf 119=3:=kR
theorem zD:prog.cellsOf 4=1:=kR
theorem CS {W:World} {rest:List (String×DataW Unit)} (h:laidMet prog (("darkslide/turn.moves",Rows.laid_darkslide_turn_moves)::rest) W):iD W:=by
 obtain ⟨ps,⟨w,t',u,v,p,q,j,s,t,g,_,_⟩,_⟩:=h;obtain rfl:=Option.some.inj (uV.symm.trans j);obtain rfl:=Option.some.inj (Bm.symm.trans s);have r:=fun i l m n=>CT (ms:=pS) underlying167 underlying119 rfl rfl rfl rfl rfl rfl underlying4 zD zE g i l m n;have a:=fun i=>World.var?_cell uV t i;have c:∀k,k<8->W.cell? ⟨0,k*3,none⟩=some (.bool (bZ k).1)/\W.cell? ⟨0,k*3+1,none⟩=some (.bool (bZ k).2.1)/\W.cell? ⟨0,k*3+2,none⟩=some (.bool (bZ k).2.2):=fun k b=>by
  have o:pS[k]?=some (bZ k):=by
   unfold bZ;rw[List.getD_eq_getElem?_getD,ka (show k<pS.length from b)];rfl
  obtain ⟨d,e,f⟩:=r k b _ o;refine ⟨?_,?_,?_⟩
  ·rw[a];simpa using d
  ·rw[a];simpa using e
  ·rw[a];simpa using f
 exact ⟨World.block_lt_of_cell? W _ (c 0 oM).1,c⟩
end Go.Proofs.YtfjeonehdlphiaaGreatDoor
