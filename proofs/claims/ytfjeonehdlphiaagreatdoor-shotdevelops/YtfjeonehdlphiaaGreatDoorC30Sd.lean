/- Part 30. -/
import Derived.Test.YtfjeonehdlphiaaGreatDoorC10Sd
import Derived.ProofKit
import Derived.OpenShut
open List renaming getElem?_eq_getElem → ka
set_option linter.unusedVariables false
namespace Go.Proofs.YtfjeonehdlphiaaGreatDoor
open Go.RowKit Go.ChangeShapes
theorem yP {P:Program} {H:Type} {enc:TypeId×Value->H} {W:World} {base c:Nat} {f:Nat->Bool} {e:Bool} {r:Reach} {t:TypeId} {g:Array Field} {v:Value} {d:DataW H} {p:List MemPlace}
  (j:P.underlying t=some (.struct g)) (k:Value.okWide P W r c t v) (h:DataW.Trod enc P W base f e t v d p):∃a b,v=.agg a/\DataW.trod enc P W base f e b t a.toList=some (d,p):=by
 obtain ⟨a,rfl,_,_⟩:∃a,v=.agg a/\a.size=P.cellsOf t/\Row.okWide P W r c t a:=by
  simpa [Value.okWide,j] using k
 obtain ⟨b,i⟩:=h;exact ⟨a,b,rfl,i⟩
theorem qw {b:List Value} {a:Nat} {v:Value} (h:(b.drop a).take 1=[v]):b[a]?=some v:=by
 have c:((b.drop a).take 1)[0]?=some v:=by rw[h];rfl
 simpa using c
theorem EO {P:Program} {H:Type} {enc:TypeId×Value->H} {W:World} {base:Nat} {R:Nat->Bool} {C:Bool} {B:Nat} {t e:TypeId} {g i j k:Field} {o:List Value} {x:DataW H×List MemPlace}
  (D:P.underlying t=some (.struct #[g,i,j,k])) (l:P.underlying e=some (.int .i64)) (f:P.cellsOf e=1) (A:P.cellsOf t=4)
  (S:g.type=e) (T:i.type=e) (U:j.type=e) (V:k.type=e) (F:g.offset=0) (I:i.offset=1) (K:j.offset=2) (L:k.offset=3)
  (h:DataW.trod enc P W base R C B t o=some x):∃a b c d:Int,o=[.int .i64 a,.int .i64 b,.int .i64 c,.int .i64 d]:=by
 obtain ⟨xs,m,_,_,u,E,n⟩:=DataW.trod_struct D h;rw[A] at u;have X:xs.length=4:=E;have p:=n 0 g rfl;have q:=n 1 i rfl;have r:=n 2 j rfl;have s:=n 3 k rfl;rw[F,S,f,ka oM] at p;rw[I,T,f,ka oM] at q;rw[K,U,f,ka oM] at r;rw[L,V,f,ka oM] at s;obtain ⟨a,M,_,_⟩:=DataW.trod_int l p;obtain ⟨b,N,_,_⟩:=DataW.trod_int l q;obtain ⟨c,O,_,_⟩:=DataW.trod_int l r;obtain ⟨d,Q,_,_⟩:=DataW.trod_int l s;have v:=qw M;have w:=qw N;have y:=qw O;have z:=qw Q
 match o,u with
 | [c0,c1,c2,c3],_ =>
  simp at v w y z;subst v w y z;exact ⟨a,b,c,d,rfl⟩
theorem G7 {P:Program} {H:Type} {enc:TypeId×Value->H} {W:World} {base:Nat} {spare:Nat->Bool} {S:Bool} {Q:Nat} {t g z y:TypeId} {i j k l r s u v:Field} {p:List Value} {x:DataW H×List MemPlace}
  (U:P.underlying t=some (.struct #[i,j,k,l])) (w:P.underlying g=some (.int .i64)) (o:P.cellsOf g=1) (O:P.cellsOf t=7)
  (y0:i.type=g) (y1:j.type=z) (y2:k.type=g) (y3:l.type=y) (o0:i.offset=0) (o1:j.offset=1) (o2:k.offset=5) (o3:l.offset=6)
  (T:P.underlying z=some (.struct #[r,s,u,v])) (A:P.cellsOf z=4) (z0:r.type=g) (z1:s.type=g) (z2:u.type=g) (z3:v.type=g) (X:r.offset=0) (Y:s.offset=1) (n2:u.offset=2) (n3:v.offset=3)
  (R:P.underlying y=some .bool) (N:P.cellsOf y=1)
  (h:DataW.trod enc P W base spare S Q t p=some x):∃(a b c d e f:Int) (q:Bool),p=[.int .i64 a,.int .i64 b,.int .i64 c,.int .i64 d,.int .i64 e,.int .i64 f,.bool q]:=by
 obtain ⟨xs,m,_,_,F,V,n⟩:=DataW.trod_struct U h;rw[O] at F;have hxl':xs.length=4:=V;have B:=n 0 i rfl;have C:=n 1 j rfl;have D:=n 2 k rfl;have E:=n 3 l rfl;rw[o0,y0,o,ka oM] at B;rw[o1,y1,A,ka oM] at C;rw[o2,y2,o,ka oM] at D;rw[o3,y3,N,ka oM] at E;obtain ⟨a,I,_,_⟩:=DataW.trod_int w B;obtain ⟨r1,r2,r3,r4,K⟩:=EO T w o A z0 z1 z2 z3 X Y n2 n3 C;obtain ⟨f,L,_,_⟩:=DataW.trod_int w D;obtain ⟨q,M,_⟩:=DataW.trod_bool R E;refine ⟨a,r1,r2,r3,r4,f,q,?_⟩
 match p,F with
 | [c0,c1,c2,c3,c4,c5,c6],_ =>
  simp at I K L M;obtain ⟨rfl,rfl,rfl,rfl⟩:=K;subst I L M;rfl
end Go.Proofs.YtfjeonehdlphiaaGreatDoor
