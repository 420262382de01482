/- Part 46. -/
import Derived.Test.YtfjeonehdlphiaaGreatDoorC41Sd
import Derived.Test.YtfjeonehdlphiaaGreatDoorC44Sd
open Go.Obj renaming cells → ka
open Nat renaming le_refl → kb
open Go.Value renaming int → Z, slice → J
open Go.IntKind renaming i64 → G
set_option linter.unusedVariables false
set_option maxHeartbeats 3200000
set_option maxRecDepth 100000
namespace Go.Proofs.YtfjeonehdlphiaaGreatDoor
open Go.RowKit
open _root_.Go.Proofs.Tryz
theorem Hk {P:Program} {e:Array Oper} {rest:List Oper} {o:Oper} {a:Act} {w:World} {Q:Exit->Act->World->Prop} (f:o.guard=none) (t:TypeId) (b:Array (Nat×Operand)) (g:o.op=.build t b) (c:Array Value)
  (d:P.built t (b.map fun (i,x)=>(i,a.eval x)).toList=some c)
  (h:wpList P e Q rest (a.put o.dst (.agg c)) w):wpList P e Q (o::rest) a w :=
 wpList_build f t b g (by rw[d];rfl) (by rw[d];exact h)
theorem F2 (w:World):Calls prog 106 #[] w fun e w'=>∃c a,e=.returned (.agg #[Z G 2,Z G 2,J c 4 a])/\ap w' (J c 4 a) [10,65535,0,7]/\4<=a/\Below w.heap.size w w':=by
 go_enter func106,ntmps106;go_wp2;have b:=qH (BU (w.alloc (ka #[Z G 2,Z G 2,J (some ⟨w.heap.size+1,0,none⟩) 4 4] 54)) 10 65535 0 7);rw[World.size_alloc] at b;refine bodyPost_ret (v:=.agg #[Z G 2,Z G 2,J (some ⟨w.heap.size+1,0,none⟩) 4 4]) (by simp[results,results106,go_sem]) rfl ⟨_,_,rfl,b.1,kb _,aG (aq _ _) (aq _ _)⟩
def mb:av:=⟨2,2,16,7,1,[2,3,3,4,4,4,5,5,5,6,6,6,7,7,7,8,8],[],jy⟩
def fA:av:=cZ mb [10,65535,0,7]
theorem rA:io mb 2 2 [10,65535,0,7]=0:=by decide +kernel
theorem AY:gq fA/\ed fA=[10,65535,0,7]/\dk fA=2/\db fA=2/\fA.strips.length=2:=by
 obtain ⟨a,b,_,_,c,d⟩:=A7 rA;exact ⟨a,b,c,d,by rw[fA,cZ,uN];decide⟩
theorem AW (w:World):Calls prog 46 #[] w fun e w'=>∃A tv sv r,e=.returned (.agg (aC fA A tv sv r))/\cR w' fA A tv sv r/\Below w.heap.size w w':=by
 obtain ⟨I,HB⟩:=d9 w (ka ay 57);have W:=lS I;have iz:(prog.info? 57).map (·.size)=some (ay:Array Value).size:=kR;go_enter func46,ntmps46;go_wp2_with fail
 generalize w.alloc _=U at *;refine (yT U).mono ?_;rintro e V1 ⟨A,rfl,Q,S⟩;have E:=qH Q;obtain ⟨m,l,rfl,hx3,hx4⟩:=Q;clear hx3 hx4;go_wp2_with fail
 refine (DR V1).mono ?_;rintro e H ⟨r,rfl,t,x⟩;have o:=qH t;obtain ⟨j,i,rfl,hx1,hx2⟩:=t.curve;clear t hx1 hx2;rw[show jy.curve.length=2 from rfl] at o |-;rw[show ([2,3,3,4,4,4,5,5,5,6,6,6,7,7,7,8,8]:List Int).length=17 from rfl] at E;obtain ⟨p,u⟩:=eX (#[Z G 2,Z G 2,Z G 16,Z G 7,Z G 1,J m 17 l,J none 0 0,Z G 0,Z G 0,Z G 0,Z G 0,Z G 0,Z G 65535,J none 0 0,Z G 256,Z G 256,Z G 256,Z G 4096,Z G 0,Z G 0,Z G 0,Z G 4096,Z G 0,Z G 0,Z G 0,Z G 4096,J j 2 i,Z G 64]);have V:prog.built 57 [(0,Z G 2),(1,Z G 2),(2,Z G 16),(3,Z G 7),(4,Z G 1),(5,J m 17 l),(7,.agg (kJ (J j 2 i)))]=some p:=by rw[<-u];kernel_rfl
 have HRW:=qH (show aC mb (J m 17 l) (J none 0 0) (J none 0 0) (J j 2 i)=p from u);have HIR:=qH (show cR H mb (J m 17 l) (J none 0 0) (J none 0 0) (J j 2 i) from ⟨E.1.below x (kb _),fv.nil _,o.1.spots,o.1.curve⟩);clear u;dsimp only;rename_i hKK;refine hKK _ _ ?_;clear hKK;refine Hk rfl 57 _ rfl p ?hf ?_
 case hf=>exact Eq.trans (congrArg (prog.built 57) kR) V
 simp only[Act.put,List.setIfInBounds_toArray,List.set_cons_succ,List.set_cons_zero];clear V;go_wp2_with fail
 refine (F2 H).mono ?_;rintro e q ⟨so,sc,rfl,R,Y,y⟩;have D:=qH (Et mb _ _ _ _ 2 2 (J so 4 sc) [10,65535,0,7] q (HIR.1.below y (kb _)) R Y rA dD);rw[HRW.1] at D;have T:=aG (aG S x) y;clear R Y y S x;go_wp2_with fail
 refine (D.1).mono ?_;rintro e c ⟨hb4,hc⟩;rcases hc with ⟨_,lv',tv',sv',K,rfl,s,L,M,N,O⟩|⟨hn,_⟩;rotate_left
 ·exact absurd rA hn
 have F:=qH (mq s);have d:(prog.info? 57).map (·.size)=some (aC (cZ mb [10,65535,0,7]) lv' tv' sv' K).size:=kR;obtain ⟨a,f⟩:=eX (aC (cZ mb [10,65535,0,7]) lv' tv' sv' K);rw[f] at d F |-;have HRB:=qH f;have C:=aD c (ka ay 57);have i2:(ay:Array Value).size=a.size:=by rw[<-f];rfl
 have c1:=setRow_heap _ _ _ a _ _ C;have n:=qH (below_setRow (g:=c.heap.size) (aq c (ka ay 57)) (kb _) a);have X:=F.1;have z:=aG T hb4;have hV3:=T.size;clear f;go_upto_region 2 with (refine wpList_store_row rfl 57 _ _ rfl c.heap.size a rfl rfl _ _ C d i2 X ?_)
 clear C;have P:((c.alloc (ka ay 57)).setRow c.heap.size a).heap[w.heap.size]?=some (.cells ay 57 (0,0)):=((z.trans (n.1.mono z.size)).block _ W).trans I;have HBF0:=qH (aG (aG HB.1 z) n.1);have HI4:=qH (s.below n.1 (kb _));generalize (c.alloc _).setRow _ _=V5 at *;have HG:=qH (setRow_heap _ _ _ a _ _ P);have HBF:=qH (below_setRow (g:=w.heap.size) HBF0.1 (kb _) a);have hw3:w.heap.size<q.heap.size:=Nat.lt_of_lt_of_le W hV3;have HIF:=qH (HI4.1.other (k:=w.heap.size) (w':=V5.setRow w.heap.size a) (B:=q.heap.size) sS (fun b hb=>setRow_other _ _ _ _ hb) hw3 L M N O);clear L M N O s;go_wp2_with (first|refine wpList_load_row rfl 57 _ rfl _ rfl _ _ _ _ c1 underlying57 rfl d ?_|refine wpList_store_row rfl 57 _ _ rfl w.heap.size a rfl rfl _ _ P d i2 X ?_)
 refine bodyPost_ret (v:=.agg a) (results_cell_row results46 _ _ _ _ _ _ _ rfl HG.1 underlying57 rfl d) rfl ⟨_,_,_,_,by rw[<-HRB.1];rfl,HIF.1,HBF.1⟩
end Go.Proofs.YtfjeonehdlphiaaGreatDoor
