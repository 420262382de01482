/- Part 33. -/
import Derived.Test.YtfjeonehdlphiaaGreatDoorC18Sd
import Derived.Test.YtfjeonehdlphiaaGreatDoorC22Sd
import Derived.Test.YtfjeonehdlphiaaGreatDoorC25Sd
import Derived.Test.YtfjeonehdlphiaaGreatDoorC26Sd
open Go.Obj renaming cells → ka
open Go.Lib renaming frozen_of_heap → kb, cell_of_heap → kd
open Go.Act renaming put → kf
open Nat renaming le_refl → kh, lt_of_lt_of_le → kG, le_trans → xa, mul_le_mul_right → yb, mul_comm → ys, mul_le_mul → zR
open List renaming getElem?_eq_getElem → km, getD_eq_getElem?_getD → xc, length_take → zl, length_drop → zo, all_eq_true → zv, range → zB, finRange → zO
open Int renaming eq_ofNat_of_zero_le → kv, toNat_natCast → xe
open Go.IntWalk renaming i64_in → kw
open Bool renaming and_eq_true → zc
open Go.Value renaming int → Z, slice → J
open Go.IntKind renaming i64 → G
set_option linter.unusedVariables false
set_option maxHeartbeats 6400000
set_option maxRecDepth 100000
namespace Go.Proofs.YtfjeonehdlphiaaGreatDoor
open Go.RowKit
open _root_.Go.Proofs.Tryz
abbrev bM (W H:Int) (v:Value):Array Value:=#[Z G W,Z G H,v,Z G 0,Z G 0,J none 0 0]
abbrev bE (W H:Int) (v:Value):Array Value:=#[Z G 0,Z G 0,J none 0 0,Z G W,Z G H,v]
theorem fG {w:World} {b:Nat} {a c d e f g:Value} {t:TypeId} {i:Nat×Nat} (h:w.heap[b]?=some (.cells #[a,c,d,e,f,g] t i)) :
  w.cell? ⟨b,0,none⟩=some a/\w.cell? ⟨b,1,none⟩=some c/\w.cell? ⟨b,2,none⟩=some d/\w.cell? ⟨b,3,none⟩=some e/\w.cell? ⟨b,4,none⟩=some f/\w.cell? ⟨b,5,none⟩=some g :=
 ⟨kd h _,kd h _,kd h _,kd h _,kd h _,kd h _⟩
theorem ap.setRow {w:World} {v:Value} {xs:List Int} {B k:Nat} (h:ap w v xs) (d:ar B v) (e:k<B) (a:Array Value):ap (w.setRow k a) v xs :=
 h.other sS (fun b c=>setRow_other w k b a c) (d.ne e)
theorem ax.setRow {w:World} {v:Value} {xs:List Px} {B k:Nat} (h:ax w v xs) (d:ar B v) (e:k<B) (a:Array Value):ax (w.setRow k a) v xs :=
 h.other sS (fun b c=>setRow_other w k b a c) (d.ne e)
theorem Fs (W H:Int) (v:Value) (zs:List Int) (m:Nat->Int) (c:Int) (w:World) (q:ap w v zs) (k:iR W H zs m c=0) :
  Calls prog 253 #[.agg #[Z G (m 0),Z G (m 1),Z G (m 2),Z G (m 3),Z G c],.agg (bM W H v)] w fun e w'=>∃r,e=.returned (.tuple #[.agg (bM W H r),Z G 0])/\ap w' r (jW W zs m c)/\Below w.heap.size w w'/\ar w.heap.size r:=by
 have D:=qH q;obtain ⟨I,ca,rfl,_,_⟩:=q;obtain ⟨d,F,j,f⟩:=ji w (ka #[Z G (m 0),Z G (m 1),Z G (m 2),Z G (m 3),Z G c] 240) (ka (bM W H (J I zs.length ca)) 206) (ka #[Z G 0,Z G 0,J none 0 0,Z G 0,Z G 0,J none 0 0] 206);have i:=qH (Cg W H _ zs m c _ (D.1.below f.1 (kh _)) k);rw[k,show aX 0 W=W from rfl,show aX 0 H=H from rfl,show cO 0 (jW W zs m c)=jW W zs m c from rfl] at i;obtain ⟨R,S,T,V,X,Y⟩:=fG F;have t:=cell_of_row _ _ 0 _ _ _ d;have u:=cell_of_row _ _ 1 _ _ _ d;have x:=cell_of_row _ _ 2 _ _ _ d;have y:=cell_of_row _ _ 3 _ _ _ d;have z:=cell_of_row _ _ 4 _ _ _ d;simp only[List.getElem?_toArray,List.getElem?_cons_zero,List.getElem?_cons_succ] at t u x y z;go_enter func253,ntmps253;go_wp2_with fail
 clear R S T V X Y t u x y z;have o:=lS j;generalize ((w.alloc _).alloc _).alloc _=U at *;refine i.1.mono ?_;rintro e w1 ⟨r,rfl,p,M,n⟩;have B:=qH p;obtain ⟨b,a,rfl,x1,x2⟩:=p;clear x1 x2;generalize (jW W zs m c).length=N at *;obtain ⟨t6,l⟩:=aT M (ka #[Z G W,Z G H,J b N a] 54);have C:=qH (B.1.alloc (ka #[Z G W,Z G H,J b N a] 54));have K:=(l.block _ o).trans j;obtain ⟨k0,k1,k2⟩:=al t6;have O:w.heap.size+2<U.heap.size:=o;have E:=qH (C.1.setRow n O (bM W H (J b N a)));have A:=qH (below_setRow (g:=w.heap.size+2) (f.1.trans (l.mono f.1.size)) oM (bM W H (J b N a)));have P:(prog.info? 206).map (·.size)=some (bM W H (J b N a)).size:=kR;have Q:(bM W H (J b N a)).all (·.oneCell')=true:=by simp[Value.oneCell']
 have s:(w1.alloc (ka #[Z G W,Z G H,J b N a] 54)).heap[w.heap.size+1+1]?=some (ka #[Z G 0,Z G 0,J none 0 0,Z G 0,Z G 0,J none 0 0] 206 (0,0)):=K;go_wp2_with (refine wpList_store_row rfl 206 _ _ rfl (w.heap.size+1+1) (bM W H (J b N a)) rfl rfl _ _ s P rfl Q ?_)
 have L:=f.1.size;obtain ⟨z0,z1,z2,z3,z4,z5⟩:=fG (setRow_heap _ _ _ (bM W H (J b N a)) _ _ s);exact bodyPost_ret (v:=.tuple #[.agg (bM W H (J b N a)),Z G 0]) (by simp[results,results253,go_sem,z0,z1,z2,z3,z4,z5]) rfl ⟨_,rfl,E.1,A.1,n.mono L⟩
theorem Fv (W H:Int) (v:Value) (zs:List Int) (t:Value) (a:List Pt) (M:∀j,j<a.length->ja (an a j)) (w:World) (q:ap w v zs) (o:bo w t a) (k:jc W H zs a=0) :
  Calls prog 258 #[.agg #[t],.agg (bM W H v)] w fun e w'=>∃r,e=.returned (.tuple #[.agg (bM W H r),Z G 0])/\ap w' r (kL W H zs a)/\Below w.heap.size w w'/\ar w.heap.size r:=by
 have B:=qH q;obtain ⟨F,ca,rfl,_,_⟩:=q;have y:=qH o;obtain ⟨S,R,rfl,_,_⟩:=o;obtain ⟨D,E,i,d⟩:=ji w (ka #[J S a.length R] 242) (ka (bM W H (J F zs.length ca)) 206) (ka #[Z G 0,Z G 0,J none 0 0,Z G 0,Z G 0,J none 0 0] 206);have f:=qH (E4 W H _ zs _ a M _ (B.1.below d.1 (kh _)) (y.1.below d.1 (kh _)) k);rw[k,show aX 0 W=W from rfl,show aX 0 H=H from rfl,show cO 0 (kL W H zs a)=kL W H zs a from rfl] at f;obtain ⟨T,V,X,Y,q4,q5⟩:=fG E;have u:=cell_of_row _ _ 0 _ _ _ D;simp only[List.getElem?_toArray,List.getElem?_cons_zero] at u;go_enter func258,ntmps258;go_wp2_with fail
 clear T V X Y q4 q5 u;have n:=lS i;generalize ((w.alloc _).alloc _).alloc _=U at *;refine f.1.mono ?_;rintro e w1 ⟨r,rfl,p,L,m⟩;have z:=qH p;obtain ⟨c,b,rfl,x1,x2⟩:=p;clear x1 x2;generalize (kL W H zs a).length=N at *;obtain ⟨t6,l⟩:=aT L (ka #[Z G W,Z G H,J c N b] 54);have A:=qH (z.1.alloc (ka #[Z G W,Z G H,J c N b] 54));have I:=(l.block _ n).trans i;obtain ⟨k0,k1,k2⟩:=al t6;have O:w.heap.size+2<U.heap.size:=n;have C:=qH (A.1.setRow m O (bM W H (J c N b)));have x:=qH (below_setRow (g:=w.heap.size+2) (d.1.trans (l.mono d.1.size)) oM (bM W H (J c N b)));have P:(prog.info? 206).map (·.size)=some (bM W H (J c N b)).size:=kR;have Q:(bM W H (J c N b)).all (·.oneCell')=true:=by simp[Value.oneCell']
 have s:(w1.alloc (ka #[Z G W,Z G H,J c N b] 54)).heap[w.heap.size+1+1]?=some (ka #[Z G 0,Z G 0,J none 0 0,Z G 0,Z G 0,J none 0 0] 206 (0,0)):=I;go_wp2_with (refine wpList_store_row rfl 206 _ _ rfl (w.heap.size+1+1) (bM W H (J c N b)) rfl rfl _ _ s P rfl Q ?_)
 have K:=d.1.size;obtain ⟨z0,z1,z2,z3,z4,z5⟩:=fG (setRow_heap _ _ _ (bM W H (J c N b)) _ _ s);exact bodyPost_ret (v:=.tuple #[.agg (bM W H (J c N b)),Z G 0]) (by simp[results,results258,go_sem,z0,z1,z2,z3,z4,z5]) rfl ⟨_,rfl,C.1,x.1,m.mono K⟩
theorem Fr (W H:Int) (v:Value) (zs:List Int) (c:Int) (m:Nat->Int) (w:World) (q:ap w v zs) (k:iq W H zs c m=0) :
  Calls prog 264 #[.agg #[Z G c,Z G (m 0),Z G (m 1),Z G (m 2)],.agg (bM W H v)] w fun e w'=>∃r,e=.returned (.tuple #[.agg (bM W H r),Z G 0])/\ap w' r (jV W zs c m)/\Below w.heap.size w w'/\ar w.heap.size r:=by
 have C:=qH q;obtain ⟨F,ca,rfl,_,_⟩:=q;obtain ⟨f,E,j,d⟩:=ji w (ka #[Z G c,Z G (m 0),Z G (m 1),Z G (m 2)] 244) (ka (bM W H (J F zs.length ca)) 206) (ka #[Z G 0,Z G 0,J none 0 0,Z G 0,Z G 0,J none 0 0] 206);have i:=qH (Bp W H _ zs c m _ (C.1.below d.1 (kh _)) k);rw[k,show aX 0 W=W from rfl,show aX 0 H=H from rfl,show cO 0 (jV W zs c m)=jV W zs c m from rfl] at i;obtain ⟨Q,R,S,T,V,X⟩:=fG E;have t:=cell_of_row _ _ 0 _ _ _ f;have u:=cell_of_row _ _ 1 _ _ _ f;have x:=cell_of_row _ _ 2 _ _ _ f;have y:=cell_of_row _ _ 3 _ _ _ f;simp only[List.getElem?_toArray,List.getElem?_cons_zero,List.getElem?_cons_succ] at t u x y;go_enter func264,ntmps264;go_wp2_with fail
 clear Q R S T V X t u x y;have o:=lS j;generalize ((w.alloc _).alloc _).alloc _=U at *;refine i.1.mono ?_;rintro e w1 ⟨r,rfl,p,L,n⟩;have A:=qH p;obtain ⟨b,a,rfl,x1,x2⟩:=p;clear x1 x2;generalize (jV W zs c m).length=N at *;obtain ⟨Y,l⟩:=aT L (ka #[Z G W,Z G H,J b N a] 54);have B:=qH (A.1.alloc (ka #[Z G W,Z G H,J b N a] 54));have I:=(l.block _ o).trans j;obtain ⟨k0,k1,k2⟩:=al Y;have M:w.heap.size+2<U.heap.size:=o;have D:=qH (B.1.setRow n M (bM W H (J b N a)));have z:=qH (below_setRow (g:=w.heap.size+2) (d.1.trans (l.mono d.1.size)) oM (bM W H (J b N a)));have O:(prog.info? 206).map (·.size)=some (bM W H (J b N a)).size:=kR;have P:(bM W H (J b N a)).all (·.oneCell')=true:=by simp[Value.oneCell']
 have s:(w1.alloc (ka #[Z G W,Z G H,J b N a] 54)).heap[w.heap.size+1+1]?=some (ka #[Z G 0,Z G 0,J none 0 0,Z G 0,Z G 0,J none 0 0] 206 (0,0)):=I;go_wp2_with (refine wpList_store_row rfl 206 _ _ rfl (w.heap.size+1+1) (bM W H (J b N a)) rfl rfl _ _ s O rfl P ?_)
 have K:=d.1.size;obtain ⟨z0,z1,z2,z3,z4,z5⟩:=fG (setRow_heap _ _ _ (bM W H (J b N a)) _ _ s);exact bodyPost_ret (v:=.tuple #[.agg (bM W H (J b N a)),Z G 0]) (by simp[results,results264,go_sem,z0,z1,z2,z3,z4,z5]) rfl ⟨_,rfl,D.1,z.1,n.mono K⟩
theorem Fp (W H:Int) (v:Value) (zs:List Int) (c:Int) (w:World) (o:ap w v zs) (j:fH W H zs c=0) :
  Calls prog 267 #[.agg #[Z G c],.agg (bM W H v)] w fun e w'=>∃r,e=.returned (.tuple #[.agg (bE W H r),Z G 0])/\ax w' r (ip W H zs c)/\Below w.heap.size w w'/\ar w.heap.size r:=by
 have x:=qH o;obtain ⟨B,ca,rfl,_,_⟩:=o;obtain ⟨z,A,i,d⟩:=ji w (ka #[Z G c] 246) (ka (bM W H (J B zs.length ca)) 206) (ka #[Z G 0,Z G 0,J none 0 0,Z G 0,Z G 0,J none 0 0] 206);have f:=qH (A3 W H _ zs c _ (x.1.below d.1 (kh _)) j);rw[j,show aX 0 W=W from rfl,show aX 0 H=H from rfl,show cO 0 (ip W H zs c)=ip W H zs c from rfl] at f;obtain ⟨L,M,O,P,Q,R⟩:=fG A;have q:=cell_of_row _ _ 0 _ _ _ z;simp only[List.getElem?_toArray,List.getElem?_cons_zero] at q;go_enter func267,ntmps267;go_wp2_with fail
 clear L M O P Q R q;have m:=lS i;generalize ((w.alloc _).alloc _).alloc _=U at *;refine f.1.mono ?_;rintro e w1 ⟨r,rfl,n,E,l⟩;have t:=qH n;obtain ⟨b,a,rfl,T,V⟩:=n;clear T V;generalize (ip W H zs c).length=N at *;obtain ⟨S,k⟩:=aT E (ka #[Z G W,Z G H,J b N a] 24);have u:=qH (t.1.alloc (ka #[Z G W,Z G H,J b N a] 24));have C:=(k.block _ m).trans i;obtain ⟨k0,k1,k2⟩:=al S;have F:w.heap.size+2<U.heap.size:=m;have y:=qH (u.1.setRow l F (bE W H (J b N a)));have s:=qH (below_setRow (g:=w.heap.size+2) (d.1.trans (k.mono d.1.size)) oM (bE W H (J b N a)));have I:(prog.info? 206).map (·.size)=some (bE W H (J b N a)).size:=kR;have K:(bE W H (J b N a)).all (·.oneCell')=true:=by simp[Value.oneCell']
 have p:(w1.alloc (ka #[Z G W,Z G H,J b N a] 24)).heap[w.heap.size+1+1]?=some (ka #[Z G 0,Z G 0,J none 0 0,Z G 0,Z G 0,J none 0 0] 206 (0,0)):=C;go_wp2_with (refine wpList_store_row rfl 206 _ _ rfl (w.heap.size+1+1) (bE W H (J b N a)) rfl rfl _ _ p I rfl K ?_)
 have D:=d.1.size;obtain ⟨X,Y,z2,z3,z4,z5⟩:=fG (setRow_heap _ _ _ (bE W H (J b N a)) _ _ p);exact bodyPost_ret (v:=.tuple #[.agg (bE W H (J b N a)),Z G 0]) (by simp[results,results267,go_sem,X,Y,z2,z3,z4,z5]) rfl ⟨_,rfl,y.1,s.1,l.mono D⟩
theorem Fu (W H:Int) (v:Value) (ps:List Px) (m:Nat->Int) (w:World) (p:ax w v ps) (j:iV W H ps m=0) :
  Calls prog 268 #[.agg #[Z G (m 0),Z G (m 1),Z G (m 2),Z G (m 3),Z G (m 4),Z G (m 5),Z G (m 6),Z G (m 7),Z G (m 8)],.agg (bE W H v)] w fun e w'=>∃r,e=.returned (.tuple #[.agg (bE W H r),Z G 0])/\ax w' r (ps.map (du m))/\Below w.heap.size w w'/\ar w.heap.size r:=by
 have I:=qH p;obtain ⟨M,ca,rfl,_,_⟩:=p;obtain ⟨c,L,i,d⟩:=ji w (ka #[Z G (m 0),Z G (m 1),Z G (m 2),Z G (m 3),Z G (m 4),Z G (m 5),Z G (m 6),Z G (m 7),Z G (m 8)] 248) (ka (bE W H (J M ps.length ca)) 206) (ka #[Z G 0,Z G 0,J none 0 0,Z G 0,Z G 0,J none 0 0] 206);have f:=qH (CI W H _ ps m _ (I.1.below d.1 (kh _)) j);rw[j,show aX 0 W=W from rfl,show aX 0 H=H from rfl,show cO 0 (ps.map (du m))=ps.map (du m) from rfl] at f;obtain ⟨V,X,Y,q3,q4,q5⟩:=fG L;have s:=cell_of_row _ _ 0 _ _ _ c;have t:=cell_of_row _ _ 1 _ _ _ c;have u:=cell_of_row _ _ 2 _ _ _ c;have x:=cell_of_row _ _ 3 _ _ _ c;have y:=cell_of_row _ _ 4 _ _ _ c;have z:=cell_of_row _ _ 5 _ _ _ c;have A:=cell_of_row _ _ 6 _ _ _ c;have B:=cell_of_row _ _ 7 _ _ _ c;have C:=cell_of_row _ _ 8 _ _ _ c;simp only[List.getElem?_toArray,List.getElem?_cons_zero,List.getElem?_cons_succ] at s t u x y z A B C;go_enter func268,ntmps268;go_wp2_with fail
 clear V X Y q3 q4 q5 s t u x y z A B C;have n:=lS i;generalize ((w.alloc _).alloc _).alloc _=U at *;refine f.1.mono ?_;rintro e w1 ⟨r,rfl,o,Q,l⟩;have E:=qH o;obtain ⟨b,a,rfl,x1,x2⟩:=o;clear x1 x2;generalize (ps.map (du m)).length=N at *;obtain ⟨t6,k⟩:=aT Q (ka #[Z G W,Z G H,J b N a] 24);have F:=qH (E.1.alloc (ka #[Z G W,Z G H,J b N a] 24));have O:=(k.block _ n).trans i;obtain ⟨k0,k1,k2⟩:=al t6;have R:w.heap.size+2<U.heap.size:=n;have K:=qH (F.1.setRow l R (bE W H (J b N a)));have D:=qH (below_setRow (g:=w.heap.size+2) (d.1.trans (k.mono d.1.size)) oM (bE W H (J b N a)));have S:(prog.info? 206).map (·.size)=some (bE W H (J b N a)).size:=kR;have T:(bE W H (J b N a)).all (·.oneCell')=true:=by simp[Value.oneCell']
 have q:(w1.alloc (ka #[Z G W,Z G H,J b N a] 24)).heap[w.heap.size+1+1]?=some (ka #[Z G 0,Z G 0,J none 0 0,Z G 0,Z G 0,J none 0 0] 206 (0,0)):=O;go_wp2_with (refine wpList_store_row rfl 206 _ _ rfl (w.heap.size+1+1) (bE W H (J b N a)) rfl rfl _ _ q S rfl T ?_)
 have P:=d.1.size;obtain ⟨z0,z1,z2,z3,z4,z5⟩:=fG (setRow_heap _ _ _ (bE W H (J b N a)) _ _ q);exact bodyPost_ret (v:=.tuple #[.agg (bE W H (J b N a)),Z G 0]) (by simp[results,results268,go_sem,z0,z1,z2,z3,z4,z5]) rfl ⟨_,rfl,K.1,D.1,l.mono P⟩
theorem Fm (W H:Int) (v:Value) (ps:List Px) (s:Value) (c:List Pt) (w:World) (p:ax w v ps) (n:bo w s c) (j:iK W H ps c=0) :
  Calls prog 274 #[.agg #[s],.agg (bE W H v)] w fun e w'=>∃r,e=.returned (.tuple #[.agg (bE W H r),Z G 0])/\ax w' r (ps.map (eR c))/\Below w.heap.size w w'/\ar w.heap.size r:=by
 have A:=qH p;obtain ⟨E,ca,rfl,_,_⟩:=p;have x:=qH n;obtain ⟨Q,P,rfl,_,_⟩:=n;obtain ⟨C,D,i,d⟩:=ji w (ka #[J Q c.length P] 250) (ka (bE W H (J E ps.length ca)) 206) (ka #[Z G 0,Z G 0,J none 0 0,Z G 0,Z G 0,J none 0 0] 206);have f:=qH (y5 W H _ ps _ c _ (A.1.below d.1 (kh _)) (x.1.below d.1 (kh _)) j);rw[j,show aX 0 W=W from rfl,show aX 0 H=H from rfl,show cO 0 (ps.map (eR c))=ps.map (eR c) from rfl] at f;obtain ⟨R,S,T,V,X,Y⟩:=fG D;have t:=cell_of_row _ _ 0 _ _ _ C;simp only[List.getElem?_toArray,List.getElem?_cons_zero] at t;go_enter func274,ntmps274;go_wp2_with fail
 clear R S T V X Y t;have m:=lS i;generalize ((w.alloc _).alloc _).alloc _=U at *;refine f.1.mono ?_;rintro e w1 ⟨r,rfl,o,K,l⟩;have y:=qH o;obtain ⟨b,a,rfl,x1,x2⟩:=o;clear x1 x2;generalize (ps.map (eR c)).length=N at *;obtain ⟨t6,k⟩:=aT K (ka #[Z G W,Z G H,J b N a] 24);have z:=qH (y.1.alloc (ka #[Z G W,Z G H,J b N a] 24));have F:=(k.block _ m).trans i;obtain ⟨k0,k1,k2⟩:=al t6;have L:w.heap.size+2<U.heap.size:=m;have B:=qH (z.1.setRow l L (bE W H (J b N a)));have u:=qH (below_setRow (g:=w.heap.size+2) (d.1.trans (k.mono d.1.size)) oM (bE W H (J b N a)));have M:(prog.info? 206).map (·.size)=some (bE W H (J b N a)).size:=kR;have O:(bE W H (J b N a)).all (·.oneCell')=true:=by simp[Value.oneCell']
 have q:(w1.alloc (ka #[Z G W,Z G H,J b N a] 24)).heap[w.heap.size+1+1]?=some (ka #[Z G 0,Z G 0,J none 0 0,Z G 0,Z G 0,J none 0 0] 206 (0,0)):=F;go_wp2_with (refine wpList_store_row rfl 206 _ _ rfl (w.heap.size+1+1) (bE W H (J b N a)) rfl rfl _ _ q M rfl O ?_)
 have I:=d.1.size;obtain ⟨z0,z1,z2,z3,z4,z5⟩:=fG (setRow_heap _ _ _ (bE W H (J b N a)) _ _ q);exact bodyPost_ret (v:=.tuple #[.agg (bE W H (J b N a)),Z G 0]) (by simp[results,results274,go_sem,z0,z1,z2,z3,z4,z5]) rfl ⟨_,rfl,B.1,u.1,l.mono I⟩
theorem Fw (W H:Int) (v:Value) (ps:List Px) (c:Int) (w:World) (o:ax w v ps) (j:je W H ps c=0) :
  Calls prog 277 #[.agg #[Z G c],.agg (bE W H v)] w fun e w'=>∃r,e=.returned (.tuple #[.agg (bE W H r),Z G 0])/\ax w' r (ev W H ps c)/\Below w.heap.size w w'/\ar w.heap.size r:=by
 have x:=qH o;obtain ⟨B,ca,rfl,_,_⟩:=o;obtain ⟨z,A,i,d⟩:=ji w (ka #[Z G c] 252) (ka (bE W H (J B ps.length ca)) 206) (ka #[Z G 0,Z G 0,J none 0 0,Z G 0,Z G 0,J none 0 0] 206);have f:=qH (FR W H _ ps c _ (x.1.below d.1 (kh _)) j);rw[j,show aX 0 W=W from rfl,show aX 0 H=H from rfl,show cO 0 (ev W H ps c)=ev W H ps c from rfl] at f;obtain ⟨L,M,O,P,Q,R⟩:=fG A;have q:=cell_of_row _ _ 0 _ _ _ z;simp only[List.getElem?_toArray,List.getElem?_cons_zero] at q;go_enter func277,ntmps277;go_wp2_with fail
 clear L M O P Q R q;have m:=lS i;generalize ((w.alloc _).alloc _).alloc _=U at *;refine f.1.mono ?_;rintro e w1 ⟨r,rfl,n,E,l⟩;have t:=qH n;obtain ⟨b,a,rfl,T,V⟩:=n;clear T V;generalize (ev W H ps c).length=N at *;obtain ⟨S,k⟩:=aT E (ka #[Z G W,Z G H,J b N a] 24);have u:=qH (t.1.alloc (ka #[Z G W,Z G H,J b N a] 24));have C:=(k.block _ m).trans i;obtain ⟨k0,k1,k2⟩:=al S;have F:w.heap.size+2<U.heap.size:=m;have y:=qH (u.1.setRow l F (bE W H (J b N a)));have s:=qH (below_setRow (g:=w.heap.size+2) (d.1.trans (k.mono d.1.size)) oM (bE W H (J b N a)));have I:(prog.info? 206).map (·.size)=some (bE W H (J b N a)).size:=kR;have K:(bE W H (J b N a)).all (·.oneCell')=true:=by simp[Value.oneCell']
 have p:(w1.alloc (ka #[Z G W,Z G H,J b N a] 24)).heap[w.heap.size+1+1]?=some (ka #[Z G 0,Z G 0,J none 0 0,Z G 0,Z G 0,J none 0 0] 206 (0,0)):=C;go_wp2_with (refine wpList_store_row rfl 206 _ _ rfl (w.heap.size+1+1) (bE W H (J b N a)) rfl rfl _ _ p I rfl K ?_)
 have D:=d.1.size;obtain ⟨X,Y,z2,z3,z4,z5⟩:=fG (setRow_heap _ _ _ (bE W H (J b N a)) _ _ p);exact bodyPost_ret (v:=.tuple #[.agg (bE W H (J b N a)),Z G 0]) (by simp[results,results277,go_sem,X,Y,z2,z3,z4,z5]) rfl ⟨_,rfl,y.1,s.1,l.mono D⟩
theorem tJ {a b:Int} {xs:List Int} (h:∀x∈xs,a<=x/\x<=b):az a b xs=true:=zv.2 fun x c=>decide_eq_true (h x c)
theorem sr {W H:Int} {zs:List Int} (h:a7 W H zs=true) (f:Nat->Int) (a:∀j,0<=f j/\f j<=65535):a7 W H ((zB zs.length).map f)=true:=by
 rw[nh,zc] at h |-;refine ⟨by simpa using h.1,tJ fun x b=>?_⟩;obtain ⟨j,_,rfl⟩:=List.mem_map.1 b;exact a j
theorem sy {p:Px} (b:0<=p.1/\p.1<=65535) (c:0<=p.2.1/\p.2.1<=65535) (d:0<=p.2.2/\p.2.2<=65535):et p=true :=
 tJ fun x a=>by
  simp only[List.mem_cons,List.not_mem_nil,or_false] at a
  rcases a with rfl|rfl|rfl
  ·exact b
  ·exact c
  ·exact d
theorem sj {W H:Int} {ps a:List Px} (h:aZ W H ps=true) (b:a.length=ps.length) (c:∀q∈a,et q=true):aZ W H a=true:=by
 rw[aZ,zc] at h |-;exact ⟨by rw[b];exact h.1,zv.2 c⟩
def gZ (n:aA) (W:Int) (zs:List Int):List Int:=jW W zs n.black n.white
def il (n:aA) (W H:Int) (zs:List Int):List Int:=kL W H (gZ n W zs) n.spots
def g7 (n:aA) (W H:Int) (zs:List Int):List Int:=jV W (il n W H zs) n.phase n.gains
def jo (n:aA) (W H:Int) (zs:List Int):List Px:=ip W H (g7 n W H zs) n.phase
def gB (n:aA) (W H:Int) (zs:List Int):List Px:=(jo n W H zs).map (du n.matrix)
def gC (n:aA) (W H:Int) (zs:List Int):List Px:=(gB n W H zs).map (eR n.curve)
def ec (n:aA) (W H:Int) (zs:List Int):List Px:=ev W H (gC n W H zs) n.amount
theorem rj (n:aA) (W:Int) (zs:List Int):(gZ n W zs).length=zs.length:=by simp[gZ,jW]
theorem rk (n:aA) (W H:Int) (zs:List Int):(il n W H zs).length=zs.length:=by simp[il,kL,rj]
theorem rl (n:aA) (W H:Int) (zs:List Int):(g7 n W H zs).length=zs.length:=by simp[g7,jV,rk]
theorem rm (n:aA) (W H:Int) (zs:List Int):(jo n W H zs).length=zs.length:=by simp[jo,uS,rl]
theorem rn (n:aA) (W H:Int) (zs:List Int):(gB n W H zs).length=zs.length:=by simp[gB,rm]
theorem rp (n:aA) (W H:Int) (zs:List Int):(gC n W H zs).length=zs.length:=by simp[gC,rn]
theorem nO (n:aA) (W H:Int) (zs:List Int):(ec n W H zs).length=zs.length:=by simp[ec,ev,rp]
structure eQ (n:aA) (W H:Int) (zs:List Int):Prop where
 plane:a7 W H zs=true
 phase:cW n.phase=true
 levels:eD n.black n.white=true
 gains:js n.gains=true
 matrix:fJ n.matrix=true
 amount:fV n.amount=true
 many:(n.spots.length:Int)<=64
 spots:cP W H n.spots=true
 curve:cY n.curve=true
section
variable {n:aA} {W H:Int} {zs:List Int} (h:eQ n W H zs)
include h
theorem eQ.e1:iR W H zs n.black n.white=0:=by rw[iR,if_pos h.plane,if_pos h.levels]
theorem eQ.p1:a7 W H (gZ n W zs)=true:=sr h.plane _ fun j=>k9 _
theorem eQ.e2:jc W H (gZ n W zs) n.spots=0:=by rw[jc,if_pos h.p1,if_pos h.many,if_pos h.spots]
theorem eQ.p2:a7 W H (il n W H zs)=true:=sr h.p1 _ fun j=>by
 have a:=fun j=>jK (jz h.p1) j
 unfold fO
 split
 ·exact a j
 ·exact vu a _ _ _ _ _
theorem eQ.e3:iq W H (il n W H zs) n.phase n.gains=0:=by rw[iq,if_pos h.p2,if_pos ⟨h.phase,h.gains⟩]
theorem eQ.p3:a7 W H (g7 n W H zs)=true:=sr h.p2 _ fun j=>k9 _
theorem eQ.e4:fH W H (g7 n W H zs) n.phase=0:=by rw[fH,if_pos h.p3,if_pos h.phase]
theorem eQ.p4:aZ W H (jo n W H zs)=true:=A6 _ h.p3
theorem eQ.e5:iV W H (jo n W H zs) n.matrix=0:=by rw[iV,if_pos h.p4,if_pos h.matrix]
theorem eQ.p5:aZ W H (gB n W H zs)=true:=sj h.p4 (by simp[gB]) fun q a=>by
 obtain ⟨p,_,rfl⟩:=List.mem_map.1 a
 exact sy (k9 _) (k9 _) (k9 _)
theorem eQ.e6:iK W H (gB n W H zs) n.curve=0:=by rw[iK,if_pos ⟨h.p5,h.curve⟩]
theorem eQ.p6:aZ W H (gC n W H zs)=true:=sj h.p5 (by simp[gC]) fun q k=>by
 obtain ⟨p,f,rfl⟩:=List.mem_map.1 k
 have j:=(fC h.p5).2.2.2
 have g:et p=true:=zv.1 j p f
 have a:(0<=p.1/\p.1<=65535)/\(0<=p.2.1/\p.2.1<=65535)/\(0<=p.2.2/\p.2.2<=65535):=by simpa [et,az] using g
 have c:=nY h.curve
 have b:∀x,0<=x/\x<=65535->0<=cN n.curve x/\cN n.curve x<=65535:=fun x d=>by
  obtain ⟨i,e⟩:=BZ c d.2
  exact BJ c e d.1
 exact sy (b _ a.1) (b _ a.2.1) (b _ a.2.2)
theorem eQ.e7:je W H (gC n W H zs) n.amount=0:=by rw[je,if_pos h.p6,if_pos h.amount]
theorem eQ.p7:aZ W H (ec n W H zs)=true:=sj h.p6 (by simp[ec,ev]) fun q a=>by
 obtain ⟨j,_,rfl⟩:=List.mem_map.1 a
 exact sy (k9 _) (k9 _) (k9 _)
end
abbrev sU (n:aA) (b a:Value):Array Value:=#[.iface 240 (.agg #[Z G (n.black 0),Z G (n.black 1),Z G (n.black 2),Z G (n.black 3),Z G n.white]),.iface 242 (.agg #[b]),.iface 244 (.agg #[Z G n.phase,Z G (n.gains 0),Z G (n.gains 1),Z G (n.gains 2)]),.iface 246 (.agg #[Z G n.phase]),.iface 248 (.agg #[Z G (n.matrix 0),Z G (n.matrix 1),Z G (n.matrix 2),Z G (n.matrix 3),Z G (n.matrix 4),Z G (n.matrix 5),Z G (n.matrix 6),Z G (n.matrix 7),Z G (n.matrix 8)]),.iface 250 (.agg #[a]),.iface 252 (.agg #[Z G n.amount])]
theorem Gb (n:aA) (i g:Value) (w:World) (m:dH w n i g) :
  Calls prog 171 #[.agg (aO n i g)] w fun e w'=>∃b,e=.returned (J (some ⟨b,0,none⟩) 7 7)/\w.heap.size<=b/\w'.heap[b]?=some (.cells (sU n i g) 210 (0,0))/\Below w.heap.size w w':=by
 obtain ⟨⟨f,d,rfl,N,_⟩,⟨c,a,rfl,M,_⟩⟩:=m;have l:=aD w (ka (aO n (J f n.spots.length d) (J c n.curve.length a)) 51);obtain ⟨o,p,B,D,E,F,H,I,K,L,q,r,s,t,u,v,x,y,z,A,C⟩:=fl l;have j:=qH (ea w (ka (aO n (J f n.spots.length d) (J c n.curve.length a)) 51) (ka (sU n (J f n.spots.length d) (J c n.curve.length a)) 210));have k:=qH (df w (ka (aO n (J f n.spots.length d) (J c n.curve.length a)) 51) (ka (sU n (J f n.spots.length d) (J c n.curve.length a)) 210)).2;go_enter func171,ntmps171;go_wp2;go_ret;exact ⟨w.heap.size+1,rfl,Nat.le_succ _,k.1,j.1⟩
def yJ (n:aA) (W H:Int) (zs:List Int) (B F:Nat) (wr:World):Nat->Prop
 | 0=>∃r,wr.heap[F]?=some (.cells (bM W H r) 206 (0,0))/\ap wr r zs
 | 1=>∃r,wr.heap[F]?=some (.cells (bM W H r) 206 (0,0))/\ap wr r (gZ n W zs)
 | 2=>∃r,wr.heap[F]?=some (.cells (bM W H r) 206 (0,0))/\ap wr r (il n W H zs)
 | 3=>∃r,wr.heap[F]?=some (.cells (bM W H r) 206 (0,0))/\ap wr r (g7 n W H zs)
 | 4=>∃r,wr.heap[F]?=some (.cells (bE W H r) 206 (0,0))/\ax wr r (jo n W H zs)
 | 5=>∃r,wr.heap[F]?=some (.cells (bE W H r) 206 (0,0))/\ax wr r (gB n W H zs)
 | 6=>∃r,wr.heap[F]?=some (.cells (bE W H r) 206 (0,0))/\ax wr r (gC n W H zs)
 | _=>∃r,wr.heap[F]?=some (.cells (bE W H r) 206 (0,0))/\ax wr r (ec n W H zs)/\ar B r
def oH (w a:World) (F:Nat) (wr:World):Prop:=(∀b,b<a.heap.size->b≠F->wr.heap[b]?=a.heap[b]?)/\a.heap.size<=wr.heap.size/\Below w.heap.size w wr
theorem oH.next {w d:World} {F:Nat} {wr V:World} (h:oH w d F wr) (g:w.heap.size<=F) (c:Below wr.heap.size wr V) (a:Array Value):oH w d F (V.setRow F a) :=
 ⟨fun b e f=>(setRow_other V F b a f).trans ((c.block b (kG e h.2.1)).trans (h.1 b e f)),by rw[setRow_size];exact xa h.2.1 c.size,below_setRow (h.2.2.trans (c.mono h.2.2.size)) g a⟩
theorem Cu (n:aA) (w:World):(method 405 240 (.agg #[Z G (n.black 0),Z G (n.black 1),Z G (n.black 2),Z G (n.black 3),Z G n.white]) "darkslide/line.run").run prog w=.ok (253,.agg #[Z G (n.black 0),Z G (n.black 1),Z G (n.black 2),Z G (n.black 3),Z G n.white]) w:=kR
theorem Cv (c:Option Addr) (b a:Nat) (w:World):(method 405 242 (.agg #[J c b a]) "darkslide/line.run").run prog w=.ok (258,.agg #[J c b a]) w:=kR
theorem Cw (n:aA) (w:World):(method 405 244 (.agg #[Z G n.phase,Z G (n.gains 0),Z G (n.gains 1),Z G (n.gains 2)]) "darkslide/line.run").run prog w=.ok (264,.agg #[Z G n.phase,Z G (n.gains 0),Z G (n.gains 1),Z G (n.gains 2)]) w:=kR
theorem Cx (n:aA) (w:World):(method 405 246 (.agg #[Z G n.phase]) "darkslide/line.run").run prog w=.ok (267,.agg #[Z G n.phase]) w:=kR
theorem Cy (n:aA) (w:World):(method 405 248 (.agg #[Z G (n.matrix 0),Z G (n.matrix 1),Z G (n.matrix 2),Z G (n.matrix 3),Z G (n.matrix 4),Z G (n.matrix 5),Z G (n.matrix 6),Z G (n.matrix 7),Z G (n.matrix 8)]) "darkslide/line.run").run prog w=.ok (268,.agg #[Z G (n.matrix 0),Z G (n.matrix 1),Z G (n.matrix 2),Z G (n.matrix 3),Z G (n.matrix 4),Z G (n.matrix 5),Z G (n.matrix 6),Z G (n.matrix 7),Z G (n.matrix 8)]) w:=kR
theorem Cz (c:Option Addr) (b a:Nat) (w:World):(method 405 250 (.agg #[J c b a]) "darkslide/line.run").run prog w=.ok (274,.agg #[J c b a]) w:=kR
theorem CB (n:aA) (w:World):(method 405 252 (.agg #[Z G n.amount]) "darkslide/line.run").run prog w=.ok (277,.agg #[Z G n.amount]) w:=kR
theorem sJ {f:Nat} {args:Array Value} {w:World} {W H:Int} {L:List Int} (h:Calls prog f args w fun e w'=>∃r,e=.returned (.tuple #[.agg (bM W H r),Z G 0])/\ap w' r L/\Below w.heap.size w w'/\ar w.heap.size r) :
  Calls prog f args w fun e w'=>∃b N a,e=.returned (.tuple #[.agg (bM W H (J b N a)),Z G 0])/\Hid (ap w' (J b N a) L)/\Below w.heap.size w w'/\ar w.heap.size (J b N a) :=
 h.mono fun e w' ⟨r,d,c,g,i⟩=>by obtain ⟨b,a,rfl,_,_⟩:=id c;exact ⟨b,_,a,d,c,g,i⟩
theorem qt {f:Nat} {args:Array Value} {w:World} {W H:Int} {L:List Px} (h:Calls prog f args w fun e w'=>∃r,e=.returned (.tuple #[.agg (bE W H r),Z G 0])/\ax w' r L/\Below w.heap.size w w'/\ar w.heap.size r) :
  Calls prog f args w fun e w'=>∃b N a,e=.returned (.tuple #[.agg (bE W H (J b N a)),Z G 0])/\Hid (ax w' (J b N a) L)/\Below w.heap.size w w'/\ar w.heap.size (J b N a) :=
 h.mono fun e w' ⟨r,d,c,g,i⟩=>by obtain ⟨b,a,rfl,_,_⟩:=id c;exact ⟨b,_,a,d,c,g,i⟩
theorem Av (n:aA) (sv cv:Value) (W H:Int) (v:Value) (zs:List Int) (w:World) (hp:dH w n sv cv) (hls:∀j,j<n.spots.length->ja (an n.spots j)) (hv:ap w v zs) (hD:eQ n W H zs) :
    Calls prog 117 #[.agg (aO n sv cv),.agg #[Z G W,Z G H,v]] w fun e w'=>∃r,e=.returned (.tuple #[.agg #[Z G W,Z G H,r],Z G 0])/\ax w' r (ec n W H zs)/\Below w.heap.size w w'/\ar w.heap.size r:=by
  have HP:=qH hp;have HV:=qH hv;have E:=qH hD;clear hD;obtain ⟨⟨X,T,rfl,hll,_⟩,⟨S,R,rfl,hkl,_⟩⟩:=hp;obtain ⟨ao,ca,rfl,_,_⟩:=hv;obtain ⟨a1,a2,a3,a4,HB⟩:=tG w (ka (aO n (J X n.spots.length T) (J S n.curve.length R)) 51) (ka #[Z G W,Z G H,J ao zs.length ca] 54) (ka #[Z G 0,Z G 0,J none 0 0] 24) (ka (bM W H (J ao zs.length ca)) 206);have HST:=qH (fun (u:World) (hu:Below w.heap.size w u)=>Gb n _ _ u (HP.1.below hu (kh _)));obtain ⟨p0,p1,p2⟩:=al (iG w (ka (aO n (J X n.spots.length T) (J S n.curve.length R)) 51) (ka #[Z G W,Z G H,J ao zs.length ca] 54) (ka #[Z G 0,Z G 0,J none 0 0] 24)).2.1;go_enter func117,ntmps117;go_wp2_with (refine wpList_load_row rfl 51 _ rfl _ rfl _ _ _ _ a1 underlying51 rfl kR ?_)
  have hl1:=lS a1;have hl3:=lS a3;have hl4:=lS a4;clear p0 p1 p2;generalize (((w.alloc _).alloc _).alloc _).alloc _=U at *;refine (HST.1 _ HB.1).mono ?_;rintro e w1 ⟨sb,rfl,hsb,hst,B⟩;have hls1:=lS hst;have hsz1:=B.size;have a:=(B.block _ hl4).trans a4;have g3:=(B.block _ hl3).trans a3;have HBW:=qH (HB.1.trans (B.mono HB.1.size));have HI0:=qH (HV.1.below HBW.1 (kh _));go_wp2_with fail
  go_loopw [16] (fun i wr=>∃k:Nat,k<=7/\i=Z G k/\yJ n W H zs (w.heap.size+4) (w.heap.size+3) wr k/\oH w w1 (w.heap.size+3) wr) (fun i _=>7-(intOf i).toNat)
  case atStart=>exact ⟨0,oM,rfl,⟨_,a,HI0.1⟩,fun _ _ _=>rfl,kh _,HBW.1⟩
  case round =>
    clear a HI0;obtain ⟨k,hk,rfl,A,I⟩:=hrel;have F:=(I.1 sb hls1 oM).trans hst;have Q:=(I.1 (w.heap.size+2) oM oM).trans g3;have K:=qH I.2.2;have HSPr:=qH (HP.1.spots.below K.1 (kh _));have HCVr:=qH (HP.1.curve.below K.1 (kh _));have HNX:=qH (fun (V:World) (hV:Below wr.heap.size wr V) (cs:Array Value)=>I.next (show w.heap.size<=w.heap.size+3 from oM) hV cs);have hszr:=I.2.1;clear I;rcases (show k=0\/k=1\/k=2\/k=3\/k=4\/k=5\/k=6\/k=7 from oM) with rfl|rfl|rfl|rfl|rfl|rfl|rfl|rfl;obtain ⟨r,a,d⟩:=A;have m:=qH d;obtain ⟨t,s,rfl,p,q⟩:=d;clear p q;have o:=qH (sJ (Fs W H _ zs n.black n.white _ m.1 E.1.e1));obtain ⟨N,c⟩:=eX ((zs).length);rw[c] at a o;clear c;have z:wr.cell? ⟨sb,0,none⟩=some (.iface 240 (.agg #[Z G (n.black 0),Z G (n.black 1),Z G (n.black 2),Z G (n.black 3),Z G n.white])):=kd F _;have C:=Cu n;have D:=enters_of func253 kR rfl;rotate_left;obtain ⟨r,a,d⟩:=A;have m:=qH d;obtain ⟨t,s,rfl,p,q⟩:=d;clear p q;have o:=qH (sJ (Fv W H _ (gZ n W zs) _ n.spots hls _ m.1 HSPr.1 E.1.e2));obtain ⟨N,c⟩:=eX ((gZ n W zs).length);rw[c] at a o;clear c;have z:wr.cell? ⟨sb,1,none⟩=some (.iface 242 (.agg #[J X n.spots.length T])):=kd F _;have C:=Cv X n.spots.length T;have D:=enters_of func258 kR rfl;rotate_left;obtain ⟨r,a,d⟩:=A;have m:=qH d;obtain ⟨t,s,rfl,p,q⟩:=d;clear p q;have o:=qH (sJ (Fr W H _ (il n W H zs) n.phase n.gains _ m.1 E.1.e3));obtain ⟨N,c⟩:=eX ((il n W H zs).length);rw[c] at a o;clear c;have z:wr.cell? ⟨sb,2,none⟩=some (.iface 244 (.agg #[Z G n.phase,Z G (n.gains 0),Z G (n.gains 1),Z G (n.gains 2)])):=kd F _;have C:=Cw n;have D:=enters_of func264 kR rfl;rotate_left;obtain ⟨r,a,d⟩:=A;have m:=qH d;obtain ⟨t,s,rfl,p,q⟩:=d;clear p q;have o:=qH (qt (Fp W H _ (g7 n W H zs) n.phase _ m.1 E.1.e4));obtain ⟨N,c⟩:=eX ((g7 n W H zs).length);rw[c] at a o;clear c;have z:wr.cell? ⟨sb,3,none⟩=some (.iface 246 (.agg #[Z G n.phase])):=kd F _;have C:=Cx n;have D:=enters_of func267 kR rfl;rotate_left;obtain ⟨r,a,d⟩:=A;have m:=qH d;obtain ⟨t,s,rfl,p,q⟩:=d;clear p q;have o:=qH (qt (Fu W H _ (jo n W H zs) n.matrix _ m.1 E.1.e5));obtain ⟨N,c⟩:=eX ((jo n W H zs).length);rw[c] at a o;clear c;have z:wr.cell? ⟨sb,4,none⟩=some (.iface 248 (.agg #[Z G (n.matrix 0),Z G (n.matrix 1),Z G (n.matrix 2),Z G (n.matrix 3),Z G (n.matrix 4),Z G (n.matrix 5),Z G (n.matrix 6),Z G (n.matrix 7),Z G (n.matrix 8)])):=kd F _;have C:=Cy n;have D:=enters_of func268 kR rfl;rotate_left;obtain ⟨r,a,d⟩:=A;have m:=qH d;obtain ⟨t,s,rfl,p,q⟩:=d;clear p q;have o:=qH (qt (Fm W H _ (gB n W H zs) _ n.curve _ m.1 HCVr.1 E.1.e6));obtain ⟨N,c⟩:=eX ((gB n W H zs).length);rw[c] at a o;clear c;have z:wr.cell? ⟨sb,5,none⟩=some (.iface 250 (.agg #[J S n.curve.length R])):=kd F _;have C:=Cz S n.curve.length R;have D:=enters_of func274 kR rfl;rotate_left;obtain ⟨r,a,d⟩:=A;have m:=qH d;obtain ⟨t,s,rfl,p,q⟩:=d;clear p q;have o:=qH (qt (Fw W H _ (gC n W H zs) n.amount _ m.1 E.1.e7));obtain ⟨N,c⟩:=eX ((gC n W H zs).length);rw[c] at a o;clear c;have z:wr.cell? ⟨sb,6,none⟩=some (.iface 252 (.agg #[Z G n.amount])):=kd F _;have C:=CB n;have D:=enters_of func277 kR rfl;rotate_left
    · obtain ⟨r, a, d, hfr⟩ := A;have m:=qH d;obtain ⟨t,s,rfl,p,q⟩:=d;clear p q;obtain ⟨N,c⟩:=eX ((ec n W H zs).length);rw[c] at a m hfr;clear c;obtain ⟨Y,q1,q2,q3,q4,q5⟩:=fG (b:=w.heap.size+1+1+1) a;obtain ⟨z0,z1,z2⟩:=al (b:=w.heap.size+1+1) Q;have y0:=kb (b:=w.heap.size+1+1) Q 0;have y1:=kb (b:=w.heap.size+1+1) Q 1;have y2:=kb (b:=w.heap.size+1+1) Q 2;have HFI:=qH (bf K.1 (show w.heap.size<=w.heap.size+1+1 from oM) (Z G W) (Z G H) (J t N s));have hne:(J t N s).ownBlock≠some (w.heap.size+1+1):=hfr.ne oM;have x:=qH (m.1.other (gK wr (w.heap.size+1+1) (Z G W) (Z G H) (J t N s)) (fun b hb=>eL _ _ _ _ _ b hb) hne);go_wp2;exact bodyPost_ret (v:=.tuple #[.agg #[Z G W,Z G H,J t N s],Z G 0]) (by simp[results,results117,go_sem,z0,z1,z2]) rfl ⟨_,rfl,x.1,HFI.1,hfr.mono oM⟩
    all_goals first
      | (obtain ⟨Y,q1,q2,q3,q4,q5⟩:=fG (b:=w.heap.size+1+1+1) a
         go_wp2_with fail
         refine o.1.mono ?_
         rintro e V1 ⟨l,f,g,rfl,HR2,B,M⟩
         obtain ⟨t9,L⟩:=aT B (ka (bM W H (J l f g)) 206)
         have HR3:=qH (HR2.out.alloc (ka (bM W H (J l f g)) 206))
         have i1:(prog.info? 206).map (·.size)=some (bM W H (J l f g)).size:=kR
         have i3:(bM W H (J l f g)).all (·.oneCell')=true:=by simp[Value.oneCell']
         have O:=lS a
         have P:=(L.block (w.heap.size+1+1+1) O).trans a
         have x:=qH (HR3.1.setRow M (show w.heap.size+1+1+1<wr.heap.size from O) (bM W H (J l f g)))
         have HN:=qH (HNX.1 _ L (bM W H (J l f g)))
         have y:=qH (setRow_heap _ _ _ (bM W H (J l f g)) _ _ P)
         have hwr:=K.1.size
         have HFR:=qH (M.mono (show w.heap.size+4<=wr.heap.size from oM))
         clear Y q1 q2 q3 q4 q5 z C D
         go_wp2_with (first|refine wpList_load_row rfl 206 _ rfl _ rfl _ _ _ _ t9 underlying206 rfl kR ?_|refine wpList_store_row rfl 206 _ _ rfl (w.heap.size+1+1+1) (bM W H (J l f g)) rfl rfl _ _ P i1 rfl i3 ?_)
         go_roundw
         case rel=>first|exact ⟨1,oM,rfl,⟨_,y.1,x.1⟩,HN.1⟩|exact ⟨2,oM,rfl,⟨_,y.1,x.1⟩,HN.1⟩|exact ⟨3,oM,rfl,⟨_,y.1,x.1⟩,HN.1⟩
         case measure=>simp[intOf])
      | (obtain ⟨Y,q1,q2,q3,q4,q5⟩:=fG (b:=w.heap.size+1+1+1) a
         go_wp2_with fail
         refine o.1.mono ?_
         rintro e V1 ⟨l,f,g,rfl,HR2,B,M⟩
         obtain ⟨t9,L⟩:=aT B (ka (bE W H (J l f g)) 206)
         have HR3:=qH (HR2.out.alloc (ka (bE W H (J l f g)) 206))
         have i1:(prog.info? 206).map (·.size)=some (bE W H (J l f g)).size:=kR
         have i3:(bE W H (J l f g)).all (·.oneCell')=true:=by simp[Value.oneCell']
         have O:=lS a
         have P:=(L.block (w.heap.size+1+1+1) O).trans a
         have x:=qH (HR3.1.setRow M (show w.heap.size+1+1+1<wr.heap.size from O) (bE W H (J l f g)))
         have HN:=qH (HNX.1 _ L (bE W H (J l f g)))
         have y:=qH (setRow_heap _ _ _ (bE W H (J l f g)) _ _ P)
         have hwr:=K.1.size
         have HFR:=qH (M.mono (show w.heap.size+4<=wr.heap.size from oM))
         clear Y q1 q2 q3 q4 q5 z C D
         go_wp2_with (first|refine wpList_load_row rfl 206 _ rfl _ rfl _ _ _ _ t9 underlying206 rfl kR ?_|refine wpList_store_row rfl 206 _ _ rfl (w.heap.size+1+1+1) (bE W H (J l f g)) rfl rfl _ _ P i1 rfl i3 ?_)
         go_roundw
         case rel=>first|exact ⟨4,oM,rfl,⟨_,y.1,x.1⟩,HN.1⟩|exact ⟨5,oM,rfl,⟨_,y.1,x.1⟩,HN.1⟩|exact ⟨6,oM,rfl,⟨_,y.1,x.1⟩,HN.1⟩|exact ⟨7,oM,rfl,⟨_,y.1,x.1,HFR.1⟩,HN.1⟩
         case measure=>simp[intOf])
theorem At {n:aA} {W H:Int} {zs:List Int} (h:cJ n=0) (i:a7 W H zs=true) (j:cP W H n.spots=true):eQ n W H zs:=by
 obtain ⟨a,b,c,d,e,f,_,g⟩:=kK h;exact ⟨i,a,b,c,d,e,f,j,g⟩
theorem ky {n:aA} {W H:Int} {zs:List Int} {a:Int} (h:dz n W H zs a=0):cJ n=0/\a7 W H zs=true/\cP W a n.spots=true:=by
 unfold dz at h;split at h
 ·rename_i h1;split at h
  ·rename_i h2;split at h
   ·rename_i h3;exact ⟨h1,h2,h3⟩
   ·cases h
  ·cases h
 ·rename_i h1;exact absurd h h1
theorem Do {p:Int} (h:cW p=true):cW (kD p)=true:=by
 have a:0<=p/\p<=3:=by simpa [cW] using h
 unfold kD;simp only[cW,decide_eq_true_eq];split<;>omega
theorem Dn {m:Nat->Int} {a:Int} (h:eD m a=true):eD (mY m) a=true:=by
 rw[eD,zc] at h |-;refine ⟨h.1,zv.2 fun x b=>?_⟩;obtain ⟨k,c,rfl⟩:=List.mem_map.1 b;exact decide_eq_true (kV h.2 ((k+2) % 4) (Nat.mod_lt _ oM))
theorem CN {W H c:Int} {a:List Pt} {top rows:Nat} (h:cP W c a=true) (i:(rows:Int)=H):cP W H (gm a top rows)=true:=by
 refine zv.2 fun p e=>?_;obtain ⟨s,g,rfl⟩:=List.mem_map.1 e;obtain ⟨d,f⟩:=List.mem_filter.1 g;have b:=zv.1 h s d;simp only[bc,li,decide_eq_true_eq] at b f |-;omega
theorem As {n:aA} {W H:Int} {zs:List Int} {i:Int} {TP HN:Nat} (h:cJ n=0) (j:a7 W H zs=true) (k:cP W i n.spots=true) (g:(HN:Int)=H):eQ (ff n TP HN) W H zs:=by
 obtain ⟨a,b,c,d,e,l,_,f⟩:=kK h;refine ⟨j,?_,?_,c,d,e,?_,CN k g,f⟩
 ·show cW (if TP % 2=1 then kD n.phase else n.phase)=true;split
  ·exact Do a
  ·exact a
 ·show eD (if TP % 2=1 then mY n.black else n.black) n.white=true;split
  ·exact Dn b
  ·exact b
 ·have:=rV n.spots TP HN;show ((gm n.spots TP HN).length:Int)<=64;omega
theorem F6 {W H:Int} {a:List Pt} (h:cP W H a=true) (e:W<=64) (d:H<=64) (j:Nat) (c:j<a.length):ja (an a j):=by
 have b:=xL h j c;simp only[bc,decide_eq_true_eq] at b;exact ⟨WalkArith.wf_i64 oM,WalkArith.wf_i64 oM⟩
def qd (H top a b c:Int):Bool:=decide ((1<=a/\a<=64)/\(0<=top/\top<=a)/\(0<=b/\b<=a)/\(0<=c/\c<=a)/\b<c/\top+H<=a/\top<=max 0 (b-4)/\min a (c+4)<=top+H)
def kH (n:aA) (W H:Int) (zs:List Int) (top a b c:Int):Int:=if dz n W H zs a=0 then (if qd H top a b c=true then 0 else 3) else dz n W H zs a
def mi (n:aA) (W H:Int) (zs:List Int) (top a b:Int):List Px:=cm (ec (ff n top.toNat H.toNat) W H zs) W.toNat (a-top).toNat (b-a).toNat
theorem uF {P:Program} {o:Oper} {a:Act} {w:World} (c:TypeId) (x:Operand) (j:o.op=.load c x) (g:Nat) (l:a.eval x=.pointer (some ⟨g,0,none⟩)) (t:TypeId) (b:Array Value) (e:Nat×Nat) (d:TypeDesc) (h:w.heap[g]?=some (.cells b t e))
  (k:P.underlying c=some d) (f:(match d with | .struct _ | .array _ _=>true|_=>false)=true) (i:(P.info? c).map (·.size)=some b.size):(execOp a.eval o).run P w=.ok (.value (.agg b)) w:=by
 unfold execOp;simp only[j,l,Instr.loadAt,Instr.sureAddr,Sem.run_bind,Sem.run_pure,Result.andThen_ok,run_loadVar_row w g t c b e d h k f i]
theorem Fb (ps:List Px) (W top many j:Nat) (a:j<many*W) (b:(top+many)*W<=ps.length):aB (cm ps W top many) j=aB ps (top*W+j):=by
 unfold cm aB;rw[xc,xc,List.getElem?_take_of_lt a,List.getElem?_drop]
theorem nm {α:Type} (ps:List α) (W top many:Nat) (a:(top+many)*W<=ps.length):(cm ps W top many).length=many*W:=by
 unfold cm;rw[zl,zo];rw[Nat.add_mul] at a;omega
theorem Gq {w:World} {b off:Nat} {ps:List Px} {W top many:Nat} (d:∀j (h:j<ps.length),w.cell? ⟨b,off+j*3,none⟩=some (Z G ps[j].1)/\w.cell? ⟨b,off+j*3+1,none⟩=some (Z G ps[j].2.1)/\w.cell? ⟨b,off+j*3+2,none⟩=some (Z G ps[j].2.2)) (a:(top+many)*W<=ps.length) :
  ∀j,j<many*W->w.cell? ⟨b,off+top*W*3+j*3,none⟩=some (Z G (aB (cm ps W top many) j).1)/\w.cell? ⟨b,off+top*W*3+j*3+1,none⟩=some (Z G (aB (cm ps W top many) j).2.1)/\w.cell? ⟨b,off+top*W*3+j*3+2,none⟩=some (Z G (aB (cm ps W top many) j).2.2):=by
 intro j e;rw[Fb ps W top many j e a];have c:top*W+j<ps.length:=by rw[Nat.add_mul] at a;omega
 have h:=d (top*W+j) c;rw[gH ps _ c] at h;rw[show off+top*W*3+j*3=off+(top*W+j)*3 from oM];exact h
theorem BT (w:World) (a b c:Int):ap (w.alloc (.cells #[Z G a,Z G b,Z G c] 3)) (J (some ⟨w.heap.size,0,none⟩) 3 3) [a,b,c] :=
 ap.own (base:=w.heap.size) (World.ownsRow_lit w #[Z G a,Z G b,Z G c] 3 (kh _) dD sS) sS
theorem Cj (n:aA) (sv cv:Value) (W H:Int) (v:Value) (zs:List Int) (top g d f:Int) (w:World) (hp:dH w n sv cv) (hv:ap w v zs) (h0:kH n W H zs top g d f=0) :
  Calls prog 57 #[.agg (aO n sv cv),.agg #[Z G W,Z G H,v],Z G top,Z G g,Z G d,Z G f] w fun e w'=>∃r,e=.returned (.tuple #[.agg #[Z G (aX (kH n W H zs top g d f) W),Z G (aX (kH n W H zs top g d f) (f-d)),r],Z G (kH n W H zs top g d f)])/\ax w' r (cO (kH n W H zs top g d f) (mi n W H zs top d f))/\Below w.heap.size w w'/\ar w.heap.size r:=by
 have HP:=qH hp;have HV:=qH hv;have HFI:=qH (fun (u:World) (hu:Below w.heap.size w u)=>uU n sv cv W H v zs g u (HP.1.below hu (kh _)) (HV.1.below hu (kh _)));obtain ⟨⟨lo,lc,rfl,hll,_⟩,⟨ko,kc,rfl,hkl,_⟩⟩:=hp;obtain ⟨ao,ca,rfl,_,_⟩:=hv;obtain ⟨a1,a2,a3,l⟩:=ji w (ka (aO n (J lo n.spots.length lc) (J ko n.curve.length kc)) 51) (ka #[Z G W,Z G H,J ao zs.length ca] 54) (ka #[Z G 0,Z G 0,J none 0 0] 24);have HPE:=qH (show kH n W H zs top g d f=if dz n W H zs g=0 then (if qd H top g d f=true then 0 else 3) else dz n W H zs g from rfl);obtain ⟨E,hE⟩:=eX (kH n W H zs top g d f);have H0:=qH (show E=0 from hE.symm.trans h0);rw[hE] at HPE |-;clear hE;obtain ⟨F,hF0⟩:=eX (dz n W H zs g);have HF0:=qH hF0;rw[hF0] at HFI HPE;clear hF0;obtain ⟨p0,p1,p2⟩:=al a2;go_enter func57,ntmps57;go_wp2_with (refine wpList_load_row rfl 51 _ rfl _ rfl _ _ _ _ a1 underlying51 rfl kR ?_)
 clear p0 p1 p2;have hl1:=lS a1;have hl2:=lS a2;have hl3:=lS a3;generalize ((w.alloc _).alloc _).alloc _=U at *;refine (HFI.1 _ l.1).mono ?_;rintro e w1 ⟨rfl,hb1⟩;have HB1:=qH (l.1.trans (hb1.mono l.1.size));have HERR:=qH (show ∀(V:World),Below U.heap.size U V->V.cell? ⟨w.heap.size+1+1,0,none⟩=some (Z G 0)/\V.cell? ⟨w.heap.size+1+1,1,none⟩=some (Z G 0)/\V.cell? ⟨w.heap.size+1+1,2,none⟩=some (J none 0 0)/\V.frozen? ⟨w.heap.size+1+1,0,none⟩=false/\V.frozen? ⟨w.heap.size+1+1,1,none⟩=false/\V.frozen? ⟨w.heap.size+1+1,2,none⟩=false/\Below w.heap.size w (((V.setCell ⟨w.heap.size+1+1,0,none⟩ (Z G 0)).setCell ⟨w.heap.size+1+1,1,none⟩ (Z G 0)).setCell ⟨w.heap.size+1+1,2,none⟩ (J none 0 0)) from fun V hV=>by
  have g3:=(hV.block _ hl3).trans a3;obtain ⟨z0,z1,z2⟩:=al (b:=w.heap.size+1+1) g3;exact ⟨z0,z1,z2,kb (b:=w.heap.size+1+1) g3 0,kb (b:=w.heap.size+1+1) g3 1,kb (b:=w.heap.size+1+1) g3 2,bf (l.1.trans (hV.mono l.1.size)) (show w.heap.size<=w.heap.size+1+1 from oM) _ _ _⟩)
 by_cases hF:F=0
 ·have HF1:=qH (HF0.1.trans hF);subst hF;rw[if_pos rfl] at HPE;obtain ⟨hpl0,hpok,hspt⟩:=ky HF1.1;obtain ⟨hW,hH,hlen0,_⟩:=eT hpok;have hsm:=fq hW hH;obtain ⟨p0,p1,p2⟩:=al ((hb1.block _ hl2).trans a2);have h3of:¬(qd H top g d f=true)->E=3:=fun h=>by rw[HPE.1,if_neg h]
  have H3:=qH h3of;clear h3of;by_cases hs1:1<=g/\g<=64
  ·have hsd:aM g=true:=(by simpa [aM] using hs1);by_cases T:(0<=top/\top<=g)/\(0<=d/\d<=g)/\(0<=f/\f<=g)
   ·have hin:az 0 g [top,d,f]=true:=(by simpa [az] using T);by_cases hs3:d<f
    ·have hd3:decide (f<=d)=false:=sO;by_cases hs4:top+H<=g
     ·have hd4:decide (g<top+H)=false:=sO;have hw4:IntKind.i64.wrap (top+H)=top+H:=kw _ oM;obtain ⟨m,hTN⟩:=kv T.1.1;obtain ⟨k,hFN⟩:=kv T.2.1.1;obtain ⟨x,hTO⟩:=kv T.2.2.1;obtain ⟨GN,hGN⟩:=kv (show 0<=g from oM);have HTN:=qH hTN;have HFN:=qH hFN;have HTO:=qH hTO;have HGN:=qH hGN;have HNE:=qH (fun u=>vE k x GN oM oM oM u);rw[<-hFN,<-hTO,<-hGN] at HNE;have hnA:((bi k:Nat):Int)=max 0 (d-4):=(by unfold bi;omega);have hnB:((bT x GN:Nat):Int)=min g (f+4):=(by unfold bT;omega);obtain ⟨NA,hNA⟩:=eX (bi k);obtain ⟨NB,hNB⟩:=eX (bT x GN);rw[hNA] at HNE hnA;rw[hNB] at HNE hnB;have HnA:=qH hnA;have HnB:=qH hnB;clear hNA hNB hTN hFN hTO hGN hnA hnB;(go_wp2_with fail);refine (fP g _).mono ?_;rintro e w2 ⟨rfl,hb2⟩;rw[hsd];have hb3:=aG hb1 hb2;obtain ⟨x0,X,Y⟩:=al (((aG hb3 (aq w2 (ka #[Z G top,Z G d,Z G f] 3))).block _ hl2).trans a2);have hbV:=aG hb3 (aq w2 (ka #[Z G top,Z G d,Z G f] 3));have hI3:=BT w2 top d f;clear p0 p1 p2;(go_wp2_with fail);refine (cF 0 g _ [top,d,f] _ hI3).mono ?_;rintro e w3 ⟨rfl,rfl⟩;rw[hin];generalize w2.alloc _=w3 at *;(go_wp2_with fail);refine (HNE.1 _).mono ?_;rintro e w4 ⟨rfl,rfl⟩;by_cases hs5:top<=(NA:Int)
      ·have hd5:decide ((NA:Int)<top)=false:=sO;by_cases hs6:(NB:Int)<=top+H
       ·have hd6:decide (top+H<(NB:Int))=false:=sO;have hok:qd H top g d f=true:=decide_eq_true ⟨hs1,T.1,T.2.1,T.2.2,hs3,hs4,by rw[<-HnA.1];exact hs5,by rw[<-HnB.1];exact hs6⟩;have C:E=0:=(by rw[HPE.1,if_pos hok]);subst C;obtain ⟨HN,hHN⟩:=kv (show 0<=H from oM);obtain ⟨s,hWN⟩:=kv (show 0<=W from oM);have HHN:=qH hHN;have HWN:=qH hWN;have HLEN:=qH (show zs.length=HN*s by rw[ys];rw[hWN,hHN] at hlen0;exact_mod_cast hlen0);have HDK:=qH (As (TP:=m) (HN:=HN) hpl0 hpok hspt hHN.symm);obtain ⟨hph,_,_,_,_,hmany,hs64,_⟩:=kK hpl0;have hph2:0<=n.phase/\n.phase<=3:=(by simpa [cW] using hph);have HMV:=qH (fun (u:World) (hu:Below w.heap.size w u)=>CQ n _ _ m HN (by have:=HTN.1;omega) oM hph2 oM hs64 u (HP.1.below hu (kh _)));rw[<-HTN.1,<-hHN] at HMV;have HDV:=qH (fun (rv:Value) (u:World) (hu:Below w.heap.size w u) (hpl:dH u (ff n m HN) rv (J ko n.curve.length kc))=>Av (ff n m HN) rv _ W H _ zs u hpl (F6 HDK.1.spots hW.2 hH.2) (HV.1.below hu (kh _)) HDK.1);have HPT:=qH (show mi n W H zs top d f=cm (ec (ff n m HN) W H zs) s (k-m) (x-k) by
         unfold mi;rw[HTN.1,HFN.1,HTO.1,hHN,hWN];simp only[xe];rw[show ((k:Int)-(m:Int)).toNat=k-m from oM,show ((x:Int)-(k:Int)).toNat=x-k from oM])
        have HDL:=qH (nO (ff n m HN) W H zs);obtain ⟨D,hD⟩:=eX (ec (ff n m HN) W H zs);rw[hD] at HDV HPT HDL;clear hD hHN hWN hph hph2 hmany hs64 hpl0 hpok hspt hlen0;have L:=qH (show ∀v,Below U.heap.size U v->v.cell? ⟨w.heap.size+1,0,none⟩=some (Z G W)/\v.cell? ⟨w.heap.size+1,1,none⟩=some (Z G H)/\v.cell? ⟨w.heap.size+1,2,none⟩=some (J ao zs.length ca)/\v.heap[w.heap.size]?=some (.cells (aO n (J lo n.spots.length lc) (J ko n.curve.length kc)) 51 (0,0)) from fun v h=>by
         obtain ⟨y0,y1,y2⟩:=al ((h.block _ hl2).trans a2);exact ⟨y0,y1,y2,(h.block _ hl1).trans a1⟩)
        have hsU3:=hbV.size;(go_upto_region 9 with fail);clear x0 X Y;go_cut [17,18] from 73 (fun q e v=>∃I B t,q=.pointer (some ⟨I,0,none⟩)/\e=Z G 0/\v.heap[I]?=some (.cells #[Z G W,Z G H,J B D.length t] 24 (0,0))/\ax v (J B D.length t) D/\D.length<=t/\U.heap.size<=I/\Below U.heap.size U v)
        case first =>
         have hWd:Below U.heap.size U w3.drew:=hbV.drew;have hSd:=L.1 _ hWd;refine cE 12 L.1 ?_;refine yy (i:=0) (oi:=_) (v:=.agg (aO n (J lo n.spots.length lc) (J ko n.curve.length kc))) (some 74) rfl rfl kR kR kR kR kR (fun _ _ _ h=>h) (Or.inl ⟨rR,?yy1⟩) hSd ?rr1
         case yy1=>(intro wq hSq;exact uF 51 _ rfl _ rfl _ _ _ _ hSq.2.2.2 underlying51 rfl kR)
         simp only[kf,List.setIfInBounds_toArray,List.set_cons_succ,List.set_cons_zero];refine ct 1 ?_;refine ct 2 ?_;refine ct 5 ?_;refine ct 3 ?_;refine jJ (i:=4) (j:=10) (oi:=_) (oj:=_) kR rfl rfl (fun y c=>?brA) (fun y c=>?brB)
         case brA =>
          rw[if_pos rR];go_simp;refine (HMV.1 _ (l.1.trans (hWd.mono l.1.size))).mono ?_;rintro e O ⟨rv,rfl,hpl,hbm⟩;have z:Below U.heap.size U O:=hWd.trans (hbm.mono hWd.size);have hSd:=L.1 _ z;refine c.out _ _ hSd ?_;clear c;(try simp only[kf]);refine jJ (i:=6) (j:=10) (oi:=_) (oj:=_) kR rfl rfl (fun y c=>?brC) (fun y c=>?brD)
          case brC =>
           rw[if_pos rR];go_simp;refine (HDV.1 rv _ (l.1.trans (z.mono l.1.size)) hpl).mono ?_;rintro e R ⟨r,rfl,Q,hbd,P⟩;have K:Below U.heap.size U R:=z.trans (hbd.mono z.size);have hSd:=L.1 _ K;refine c.out _ _ hSd ?_;clear c;(try simp only[kf]);have HR:=qH Q;have hrm:=P.2;obtain ⟨B,t,rfl,X,Y⟩:=Q;clear X Y;refine ct 7 ?_;refine ct 8 ?_;refine ct 9 ?_;refine aw 10 fun y c=>?_;go_simp;have hB3:Below U.heap.size U (R.alloc (ka #[Z G 0,Z G 0,J none 0 0] 24)):=K.alloc K.size _;have hSd:=L.1 _ hB3;refine c.out _ _ hSd ?_;clear c;(try simp only[kf]);refine aw 11 fun y c=>?_;go_simp;have hB4:Below U.heap.size U (R.alloc (ka #[Z G W,Z G H,J B D.length t] 24)):=K.alloc K.size _;have hSd:=L.1 _ hB4;refine c.out _ _ hSd ?_;clear c;(try simp only[kf]);refine aS fun y c=>?_;go_simp;refine c.out _ _ ?_;clear c;(try simp only[kf]);clear hSd;go_wp2;go_meet
           case rel=>exact ⟨R.heap.size,B,t,rfl,rfl,aD R _,HR.1.alloc _,hrm,K.size,hB4⟩
          case brD =>
           rw[if_pos rR];go_simp;have S:Below U.heap.size U (O.alloc (ka #[Z G 0,Z G 0,J none 0 0] 24)):=z.alloc z.size _;have hSd:=L.1 _ S;refine c.out _ _ hSd ?_;clear c;(try simp only[kf]);have gz0:=aD O (ka #[Z G 0,Z G 0,J none 0 0] 24);have hpl2:=hpl.below (aq O (ka #[Z G 0,Z G 0,J none 0 0] 24)) (kh _);have hlz:=lS gz0;have hq:=z.size;generalize O.alloc _=Vz at *;generalize O.heap.size=I at *;refine aw 6 fun y c=>?_;go_simp;refine (HDV.1 rv _ (l.1.trans (S.mono l.1.size)) hpl2).mono ?_;rintro e R ⟨r,rfl,Q,hbd,P⟩;have K:Below U.heap.size U R:=S.trans (hbd.mono S.size);have hSd:=L.1 _ K;refine c.out _ _ hSd ?_;clear c;(try simp only[kf]);have HR:=qH Q;have hrm:=P.2;obtain ⟨B,t,rfl,X,Y⟩:=Q;clear X Y;refine ct 7 ?_;refine ct 8 ?_;refine ct 9 ?_;have gz:=(hbd.block I hlz).trans gz0;obtain ⟨z0,z1,z2⟩:=al gz;obtain ⟨f0,f1,f2⟩:=fZ gz;obtain ⟨vS,_,_,_⟩:=eo gz (Z G W) (Z G H) (J B D.length t) w (xa l.1.size hq) (l.1.trans (K.mono l.1.size));have hB4:=bf K hq (Z G W) (Z G H) (J B D.length t);have HX:=qH (HR.1.set3 P hlz (Z G W) (Z G H) (J B D.length t));refine aw 11 fun y c=>?_;go_simp;have hSd:=L.1 _ hB4;refine c.out _ _ hSd ?_;clear c;(try simp only[kf]);clear z0 z1 z2 f0 f1 f2;refine aS fun y c=>?_;go_simp;refine c.out _ _ ?_;clear c;(try simp only[kf]);clear hSd;go_wp2;go_meet
           case rel=>exact ⟨I,B,t,rfl,rfl,vS,HX.1,hrm,hq,hB4⟩
         case brB =>
          rw[if_pos rR];go_simp;have S:Below U.heap.size U (w3.alloc (ka #[Z G 0,Z G 0,J none 0 0] 24)).drew:=(hbV.alloc hbV.size _).drew;have hSd:=L.1 _ S;refine c.out _ _ hSd ?_;clear c;(try simp only[kf]);have gz0:(w3.alloc (ka #[Z G 0,Z G 0,J none 0 0] 24)).drew.heap[w3.heap.size]?=_:=aD w3 (ka #[Z G 0,Z G 0,J none 0 0] 24);have hlz:=lS gz0;have hq:=hbV.size;generalize (w3.alloc _).drew=Vz at *;generalize w3.heap.size=I at *;refine aw 4 fun y c=>?_;go_simp;refine (HMV.1 _ (l.1.trans (S.mono l.1.size))).mono ?_;rintro e O ⟨rv,rfl,hpl,hbm⟩;have z:Below U.heap.size U O:=S.trans (hbm.mono S.size);have hSd:=L.1 _ z;refine c.out _ _ hSd ?_;clear c;(try simp only[kf]);replace gz0:=(hbm.block I hlz).trans gz0;replace hlz:=lS gz0;refine aw 6 fun y c=>?_;go_simp;refine (HDV.1 rv _ (l.1.trans (z.mono l.1.size)) hpl).mono ?_;rintro e R ⟨r,rfl,Q,hbd,P⟩;have K:Below U.heap.size U R:=z.trans (hbd.mono z.size);have hSd:=L.1 _ K;refine c.out _ _ hSd ?_;clear c;(try simp only[kf]);have HR:=qH Q;have hrm:=P.2;obtain ⟨B,t,rfl,X,Y⟩:=Q;clear X Y;refine ct 7 ?_;refine ct 8 ?_;refine ct 9 ?_;have gz:=(hbd.block I hlz).trans gz0;obtain ⟨z0,z1,z2⟩:=al gz;obtain ⟨f0,f1,f2⟩:=fZ gz;obtain ⟨vS,_,_,_⟩:=eo gz (Z G W) (Z G H) (J B D.length t) w (xa l.1.size hq) (l.1.trans (K.mono l.1.size));have hB4:=bf K hq (Z G W) (Z G H) (J B D.length t);have HX:=qH (HR.1.set3 P hlz (Z G W) (Z G H) (J B D.length t));refine aw 11 fun y c=>?_;go_simp;have hSd:=L.1 _ hB4;refine c.out _ _ hSd ?_;clear c;(try simp only[kf]);clear z0 z1 z2 f0 f1 f2;refine aS fun y c=>?_;go_simp;refine c.out _ _ ?_;clear c;(try simp only[kf]);clear hSd;go_wp2;go_meet
          case rel=>exact ⟨I,B,t,rfl,rfl,vS,HX.1,hrm,hq,hB4⟩
        case rest =>
         obtain ⟨I,B,t,rfl,rfl,vS,hpx,hroom,hQX,vB⟩:=hcut;have hsVQ:=vB.size;have hlQ:=lS vS;have HPX:=qH hpx;have hD1:1<=D.length:=by
          rw[HDL.1,HLEN.1];exact zR (show 1<=HN by have:=HHN.1;omega) (show 1<=s by have:=HWN.1;omega)
         obtain ⟨ro2,rc2,hpe,_,hpor⟩:=hpx;cases hpe
         rcases hpor with hpor|⟨pb,po,rfl,hpb,hpc⟩
         ·rw[hpor] at hD1;simp at hD1
         have HPC:=qH hpc;clear hpc;obtain ⟨q0,q1,q2⟩:=al vS;have hTF:m<=k:=(by have:=HnA.1;have:=HTN.1;have:=HFN.1;omega);have hFT:k<x:=(by have:=HFN.1;have:=HTO.1;omega);have hTH:x<=m+HN:=(by have:=HnB.1;have:=HTN.1;have:=HTO.1;have:=HHN.1;have:=HGN.1;omega);have hWN1:1<=s:=(by have:=HWN.1;omega);have hWN2:s<=64:=(by have:=HWN.1;omega);have hHN2:HN<=64:=(by have:=HHN.1;omega);have hDl:D.length=HN*s:=(by rw[HDL.1,HLEN.1]);have hm1:(k-m+(x-k))*s<=D.length:=(by rw[hDl];exact yb _ oM);have hm2:HN*s<=64*64:=zR hHN2 hWN2;have hm3:1*s<=(x-k)*s:=yb _ oM;have HSC:=qH (fun (V:World) (hV:Below wc.heap.size wc V)=>Gq (w:=V) (b:=pb) (off:=po) (ps:=D) (W:=s) (top:=k-m) (many:=x-k) (fun j hj=>by
          obtain ⟨e0,e1,e2⟩:=HPC.1 j hj;exact ⟨(hV.cell (p:=⟨pb,po+j*3,none⟩) hpb).trans e0,(hV.cell (p:=⟨pb,po+j*3+1,none⟩) hpb).trans e1,(hV.cell (p:=⟨pb,po+j*3+2,none⟩) hpb).trans e2⟩) hm1)
         have HRL:=qH (nm D s (k-m) (x-k) hm1);have hmA:(d-top)*W=((k-m)*s:Nat):=(by rw[HFN.1,HTN.1,HWN.1,Int.natCast_mul,Int.natCast_sub hTF]);have hmB:(f-top)*W=((x-m)*s:Nat):=(by rw[HTO.1,HTN.1,HWN.1,Int.natCast_mul,Int.natCast_sub oM]);have hmC:(x-m)*s=(k-m)*s+(x-k)*s:=(by rw[<-Nat.add_mul];congr 1;omega);obtain ⟨A,hA⟩:=eX ((k-m)*s);obtain ⟨M,hM⟩:=eX ((x-k)*s);rw[hmC] at hmB;rw[Nat.add_mul] at hm1;rw[hA] at hmA hmB hm1 HSC;rw[hM] at hmB hm1 hm3 HSC HRL;obtain ⟨N,hN⟩:=eX D.length;rw[hN] at hm1 hD1 hroom HPX q2 vS;rw[hDl] at hN;have hN4:N<=4096:=oM;clear hmC hA hM hN hDl HPC;have hwA:IntKind.i64.wrap (d-top)=d-top:=kw _ oM;have hwB:IntKind.i64.wrap (f-top)=f-top:=kw _ oM;have hwAm:IntKind.i64.wrap (A:Int)=(A:Int):=kw _ oM;have hwBm:IntKind.i64.wrap ((A+M:Nat):Int)=((A+M:Nat):Int):=kw _ oM;have hg1:(A:Int)<=((A+M:Nat):Int):=oM;have hg2:((A+M:Nat):Int)<=(t:Int):=oM;have hg3:¬(t=A):=oM;(go_wp2_with fail);rw[Nat.add_sub_cancel_left];have hwD:IntKind.i64.wrap (f-d)=f-d:=kw _ oM;have hWd2:Below U.heap.size U wc.drew:=vB.drew;have HS2:=qH (show ∀v,Below wc.heap.size wc v->v.cell? ⟨I,0,none⟩=some (Z G W) from fun v h=>(al ((h.block _ hlQ).trans vS)).1);have hWc:Below wc.heap.size wc wc.drew:=(Below.refl _ _).drew;have hSd:=HS2.1 _ hWc;clear q0 q1 q2;refine cE 9 HS2.1 ?_;refine ct 0 ?_;refine ct 2 ?_;refine ct 3 ?_;refine ct 5 ?_;refine ct 1 ?_;refine ct 4 ?_;refine aw 6 fun y c=>?_;go_simp;refine (zJ pb (po+A*3) M (t-A) (cm D s (k-m) (x-k)) _ HRL.1 (kG hpb hWc.size) oM oM (fun j hj=>by have:=HSC.1 _ hWc j hj;exact this)).mono ?_;rintro e O ⟨r,rfl,Q,hbv,P⟩;have z:Below wc.heap.size wc O:=hWc.trans (hbv.mono hWc.size);have HR:=qH Q;obtain ⟨co,cc,rfl,X,Y⟩:=Q;clear X Y;rw[HRL.1] at HR P |-;have hSd:=HS2.1 _ z;refine c.out _ _ hSd ?_;clear c;(try simp only[kf]);refine ct 7 ?_;refine eZ (i:=8) (o:=_) kR rfl (fun y c=>?_);have hBU:=aG vB z;obtain ⟨z0,z1,z2,f0,f1,f2,_⟩:=HERR.1 _ hBU;rw[if_pos rR];go_simp;clear f0 f1 f2;have hSd:=(eK (w:=O) (b:=w.heap.size+1+1) (Z G W) (Z G (f-d)) (J co M cc) (a:=⟨I,0,none⟩) (show I≠w.heap.size+1+1 from oM)).trans (HS2.1 _ z);refine c.out _ _ hSd ?_;clear c;(try simp only[kf]);refine aS fun y c=>?_;go_simp;refine c.out _ _ ?_;clear c;(try simp only[kf]);have HX:=qH (HR.1.set3 P (show w.heap.size+1+1<wc.drew.heap.size from (by show w.heap.size+1+1<wc.heap.size;omega)) (Z G W) (Z G (f-d)) (J co M cc));have HF:=qH (bf (l.1.trans (hBU.mono l.1.size)) (show w.heap.size<=w.heap.size+1+1 from oM) (Z G W) (Z G (f-d)) (J co M cc));have hwf:=xa l.1.size vB.size;have HFR:=qH (P.mono (show w.heap.size<=wc.drew.heap.size from hwf));clear hSd;go_wp2;refine bodyPost_ret (v:=.tuple #[.agg #[Z G W,Z G (f-d),J co M cc],Z G 0]) (by simp[results,results57,go_sem,z0,z1,z2]) rfl ⟨_,rfl,?_,HF.1,HFR.1⟩;show ax _ _ (mi n W H zs top d f);rw[HPT.1];exact HX.1
       ·have hd6:decide (top+H<(NB:Int))=true:=sO;have C:E=3:=H3.1 (fun h=>hs6 (by rw[HnB.1];exact (of_decide_eq_true h).2.2.2.2.2.2.2));exact absurd (C.symm.trans H0.1) dD
      ·have hd5:decide ((NA:Int)<top)=true:=sO;have C:E=3:=H3.1 (fun h=>hs5 (by rw[HnA.1];exact (of_decide_eq_true h).2.2.2.2.2.2.1));exact absurd (C.symm.trans H0.1) dD
     ·have hd4:decide (g<top+H)=true:=sO;have hw4:IntKind.i64.wrap (top+H)=top+H:=kw _ oM;have C:E=3:=H3.1 (fun h=>hs4 (by have:=of_decide_eq_true h;omega));exact absurd (C.symm.trans H0.1) dD
    ·have hd3:decide (f<=d)=true:=sO;have C:E=3:=H3.1 (fun h=>hs3 (by have:=of_decide_eq_true h;omega));exact absurd (C.symm.trans H0.1) dD
   ·have hin:az 0 g [top,d,f]=false:=(by simpa [az] using T);have C:E=3:=H3.1 (fun h=>T (by have:=of_decide_eq_true h;omega));exact absurd (C.symm.trans H0.1) dD
  ·have hsd:aM g=false:=(by simpa [aM] using hs1);have C:E=3:=H3.1 (fun h=>hs1 (of_decide_eq_true h).1);exact absurd (C.symm.trans H0.1) dD
 ·have hn:(F != 0)=true:=by simpa using hF
  rw[if_neg hF] at HPE;have C:E=F:=HPE.1;exact absurd (C.symm.trans H0.1) hF
def cL (H rows f:Nat):Nat:=f+min rows (H-f)
def lL (n:aA) (W H:Nat) (zs:List Int) (rows f:Nat):List Px :=
 mi n W ((bT (cL H rows f) H-bi f:Nat):Int) (cm zs W (bi f) (bT (cL H rows f) H-bi f)) (bi f:Nat) f (cL H rows f:Nat)
def eV (n:aA) (W H:Nat) (zs:List Int) (rows:Nat):Nat->Nat->List Px
 | 0,_=>[]
 | fuel+1,f=>if f<H then lL n W H zs rows f++eV n W H zs rows fuel (cL H rows f) else []
theorem Gh (n:aA) (W H:Nat) (zs:List Int) (rows a:Nat):eV n W H zs rows a H=[]:=by
 cases a with
 | zero=>rfl
 | succ k=>rw[eV,if_neg oM]
theorem kN {H rows f:Nat} (b:1<=rows) (a:f<H):f<cL H rows f:=by unfold cL;omega
theorem nt {H rows f:Nat} (a:f<H):cL H rows f<=H:=by unfold cL;omega
theorem Gi (n:aA) (W H:Nat) (zs:List Int) (rows:Nat) (d:1<=rows):∀a b f,H-f<=a->H-f<=b->eV n W H zs rows a f=eV n W H zs rows b f:=by
 intro a
 induction a with
 | zero =>
  intro b f e g;cases b with
  | zero=>rfl
  | succ b=>rw[eV,eV,if_neg oM]
 | succ a ih =>
  intro b f e g;cases b with
  | zero=>rw[eV,eV,if_neg oM]
  | succ b =>
   rw[eV,eV];by_cases c:f<H
   ·rw[if_pos c,if_pos c,ih b _ (by have:=kN d c;omega) (by have:=kN d c;omega)]
   ·rw[if_neg c,if_neg c]
def fT (n:aA) (W H:Int) (zs:List Int) (rows:Int):Int:=if dz n W H zs H=0 then (if 1<=rows then 0 else 3) else dz n W H zs H
def gL (n:aA) (W H:Int) (zs:List Int) (rows:Int):List Px:=eV n W.toNat H.toNat zs rows.toNat H.toNat 0
theorem Fa {a b:Int} {zs:List Int} (h:az a b zs=true) (W t m:Nat):az a b (cm zs W t m)=true:=by
 refine zv.2 fun x c=>zv.1 h x ?_;exact List.mem_of_mem_drop (List.mem_of_mem_take c)
theorem xR {n:aA} {W H:Nat} {zs:List Int} {rows f:Nat} (i:dz n W H zs H=0) (r:1<=rows) (b:f<H) :
  kH n W ((bT (cL H rows f) H-bi f:Nat):Int) (cm zs W (bi f) (bT (cL H rows f) H-bi f)) (bi f:Nat) H f (cL H rows f:Nat)=0:=by
 obtain ⟨c,a,d⟩:=ky i;obtain ⟨k,j,m,_⟩:=eT a;have s:=kN (H:=H) r b;have u:=nt (rows:=rows) b;generalize cL H rows f=t at *;have e:bi f<=f:=by unfold bi;omega
 have g:t<=bT t H:=by unfold bT;omega
 have h:bT t H<=H:=by unfold bT;omega
 have o:zs.length=H*W:=by rw[ys];exact_mod_cast m
 have v:(bT t H-bi f)*W<=H*W:=yb _ oM;have p:(bi f+(bT t H-bi f))*W<=zs.length:=by rw[o];exact yb _ oM
 have l:dz n W ((bT t H-bi f:Nat):Int) (cm zs W (bi f) (bT t H-bi f)) H=0:=by
  have q:a7 W ((bT t H-bi f:Nat):Int) (cm zs W (bi f) (bT t H-bi f))=true:=by
   rw[nh,zc];refine ⟨?_,Fa (jz a) _ _ _⟩;rw[nm zs W _ _ p];simp only[ew,aM,zc,decide_eq_true_eq];refine ⟨⟨k,oM⟩,?_⟩;rw[Int.natCast_mul,Int.mul_comm]
  rw[dz,if_pos c,if_pos q,if_pos d]
 rw[kH,if_pos l,if_pos];refine decide_eq_true ⟨j,⟨oM,oM⟩,⟨oM,oM⟩,⟨oM,oM⟩,oM,oM,?_,?_⟩
 ·unfold bi;omega
 ·unfold bT at g h |-;unfold bi at e |-;omega
theorem xS {n:aA} {W H:Nat} {zs:List Int} {rows f:Nat} (b:zs.length=H*W) (c:1<=rows) (a:f<H) :
  (bi f+(bT (cL H rows f) H-bi f))*W<=zs.length:=by
 have d:=kN (H:=H) c a;have e:=nt (rows:=rows) a;generalize cL H rows f=t at *;rw[b];refine yb _ ?_;unfold bi bT;omega
theorem Gd (n:aA) {W H:Nat} {zs:List Int} {rows f:Nat} (d:zs.length=H*W) (b:1<=rows) (a:f<H):(lL n W H zs rows f).length=(cL H rows f-f)*W:=by
 have c:=xS (n:=n) d b a;have e:=kN (H:=H) b a;have g:=nt (rows:=rows) a;unfold lL mi;generalize cL H rows f=t at *;simp only[xe];rw[show ((f:Int)-(bi f:Nat)).toNat=f-bi f by unfold bi;omega,show ((t:Int)-(f:Nat)).toNat=t-f from oM];refine nm _ _ _ _ ?_;rw[nO,nm zs W _ _ c];refine yb _ ?_;unfold bi bT;omega
theorem Gj (n:aA) {W H:Nat} {zs:List Int} {rows f:Nat} (b:1<=rows) (a:f<H):eV n W H zs rows (H-f) f=lL n W H zs rows f++eV n W H zs rows (H-cL H rows f) (cL H rows f):=by
 have d:=kN (H:=H) b a;obtain ⟨k,c⟩:∃k,H-f=k+1:=⟨H-f-1,oM⟩;rw[c,eV,if_pos a,Gi n W H zs rows b k (H-cL H rows f) _ oM (kh _)]
theorem Fc (zs:List Int) (W top many j:Nat) (a:j<many*W):aN (cm zs W top many) j=aN zs (top*W+j):=by
 unfold cm aN;rw[xc,xc,List.getElem?_take_of_lt a,List.getElem?_drop]
theorem Ge {n:aA} {W H:Nat} {zs:List Int} {rows f:Nat} (l:dz n W H zs H=0) (q:zs.length=H*W) (i:1<=rows) (d:f<H) (k b:Value) (a off ca:Nat) (u:World) (s:dH u n k b) (o:a<u.heap.size) (v:zs.length<=4096)
  (p:∀j,j<zs.length->u.cell? ⟨a,off+j,none⟩=some (Z G (aN zs j))) :
  Calls prog 57 #[.agg (aO n k b),.agg #[Z G (W:Nat),Z G (bT (cL H rows f) H-bi f:Nat),J (some ⟨a,off+bi f*W,none⟩) ((bT (cL H rows f) H-bi f)*W) (ca-bi f*W)],Z G (bi f:Nat),Z G (H:Nat),Z G (f:Nat),Z G (cL H rows f:Nat)] u
   fun e w'=>∃r,e=.returned (.tuple #[.agg #[Z G (W:Nat),Z G ((cL H rows f:Nat)-(f:Nat):Int),r],Z G 0])/\ax w' r (lL n W H zs rows f)/\Below u.heap.size u w'/\ar u.heap.size r:=by
 have c:=xS (n:=n) q i d;have g:=nm zs W _ _ c;have t:ap u (J (some ⟨a,off+bi f*W,none⟩) ((bT (cL H rows f) H-bi f)*W) (ca-bi f*W)) (cm zs W (bi f) (bT (cL H rows f) H-bi f)):=by
  rw[Nat.add_mul] at c;refine ⟨_,_,by rw[g],oM,.inr ⟨a,_,rfl,o,fun j m=>?_⟩⟩;have e:=p (bi f*W+j) (by rw[<-g] at c;omega);rw[<-Fc zs W (bi f) (bT (cL H rows f) H-bi f) j (by rw[<-g];exact m)] at e;rw[Nat.add_assoc,e];unfold aN;rw[xc,km m,Option.getD_some]
 have h:=Cj n k b W ((bT (cL H rows f) H-bi f:Nat):Int) _ _ (bi f:Nat) H f (cL H rows f:Nat) u s t (xR l i d);rw[xR l i d] at h;exact h
structure gW (top HA HB lo hi:Nat):Prop where
 low:top<=lo
 high:hi<=top+HA
 all:top+HA<=HB
 zero:lo=0->top=0
def d7 (a r:Nat):Nat:=if a=0 then 0 else a+r
def el (a b r:Nat):Nat:=if b=a then a else b-r
theorem gW.shr {top b a d c:Nat} (h:gW top b a d c) (r:Nat):gW top b a (d7 d r) (el a c r):=by
 obtain ⟨f,g,e,i⟩:=h;refine ⟨?_,?_,e,?_⟩
 ·unfold d7;split<;>omega
 ·unfold el;split<;>omega
 ·unfold d7;split<;>omega
def fu (W top b a:Nat) (c d:List Int):Prop:=∀y x,b<=y->y<a->x<W->aN c ((y-top)*W+x)=aN d (y*W+x)
def gM (W top b a:Nat) (c d:List Px):Prop:=∀y x,b<=y->y<a->x<W->aB c ((y-top)*W+x)=aB d (y*W+x)
theorem n9 {W y x:Nat} (a:x<W):(y*W+x) % W=x:=by rw[Nat.add_comm,Nat.add_mul_mod_self_right,Nat.mod_eq_of_lt a]
theorem H5 {W y x:Nat} (a:x<W):(y*W+x) / W=y:=by
 rw[Nat.add_comm,Nat.add_mul_div_right _ _ oM,Nat.div_eq_of_lt a,Nat.zero_add]
theorem lk {W H y x:Nat} (a:y<H) (b:x<W):y*W+x<H*W:=by
 have h:=yb W (show y+1<=H from a);rw[Nat.add_mul,Nat.one_mul] at h;omega
theorem yF (f:Nat->Int) {n j:Nat} (h:j<n):aN ((zB n).map f) j=f j:=by
 unfold aN;rw[xc,List.getElem?_map,List.getElem?_range h];rfl
theorem wX (f:Nat->Px) {n j:Nat} (h:j<n):aB ((zB n).map f) j=f j:=by
 unfold aB;rw[xc,List.getElem?_map,List.getElem?_range h];rfl
theorem wW (f:Px->Px) {ps:List Px} {j:Nat} (h:j<ps.length):aB (ps.map f) j=f (aB ps j):=by
 unfold aB;rw[xc,xc,List.getElem?_map,km h];rfl
theorem vx {N:Nat} {j k:List Int} {W i d:Nat} {f g b c:Fin N->Int} {ca e:Fin N->Bool}
  (l:∀x,(bc W i (f x) (g x)=true/\ca x=true)↔(bc W d (b x) (c x)=true/\e x=true))
  (m:∀x,bc W d (b x) (c x)=true->e x=true->aN j ((g x).toNat*W+(f x).toNat)=aN k ((c x).toNat*W+(b x).toNat)) :
  gl j W i f g ca=gl k W d b c e:=by
 have n:di j W i f g ca=di k W d b c e:=by
  funext s x;unfold di;by_cases a:bc W d (b x) (c x)=true/\e x=true
  ·rw[if_pos ((l x).2 a),if_pos a,m x a.1 a.2]
  ·rw[if_neg (fun h=>a ((l x).1 h)),if_neg a]
 unfold gl mF;rw[n]
section
variable {W top HA HB lo hi:Nat}
theorem fu.map {g i:List Int} {e f:Nat->Int} {d a:Nat} (b:gW top HA HB d a) (l:g.length=HA*W) (m:i.length=HB*W)
  (h:∀y x,d<=y->y<a->x<W->e ((y-top)*W+x)=f (y*W+x)):fu W top d a ((zB g.length).map e) ((zB i.length).map f):=by
 intro y x j k c;have:=b.low;have:=b.high;have:=b.all;rw[yF _ (by rw[l];exact lk oM c),yF _ (by rw[m];exact lk oM c)];exact h y x j k c
theorem gM.map {g nb:Nat} {e f:Nat->Px} {d a:Nat} (b:gW top HA HB d a) (k:g=HA*W) (l:nb=HB*W)
  (h:∀y x,d<=y->y<a->x<W->e ((y-top)*W+x)=f (y*W+x)):gM W top d a ((zB g).map e) ((zB nb).map f):=by
 intro y x i j c;have:=b.low;have:=b.high;have:=b.all;rw[wX _ (by rw[k];exact lk oM c),wX _ (by rw[l];exact lk oM c)];exact h y x i j c
theorem Ce {b c:List Int} {f g:Nat->Int} {h:Int} (e:gW top HA HB lo hi) (l:b.length=HA*W) (m:c.length=HB*W) (o:fu W top lo hi b c)
  (n:∀y x,top<=y->f ((y-top) % 2*2+x % 2)=g (y % 2*2+x % 2)):fu W top lo hi (jW W b f h) (jW W c g h):=by
 refine fu.map e l m fun y x d i a=>?_;have j:=o y x d i a;have k:=n y x (xa e.low d);simp only[gG,xe,n9 a,H5 a,j,k]
theorem Bn {b c:List Int} {f g:Int} {m:Nat->Int} (e:gW top HA HB lo hi) (k:b.length=HA*W) (l:c.length=HB*W) (o:fu W top lo hi b c)
  (n:∀y x,top<=y->ce f.toNat x (y-top)=ce g.toNat x y):fu W top lo hi (jV W b f m) (jV W c g m):=by
 refine fu.map e k l fun y x d h a=>?_;have i:=o y x d h a;have j:=n y x (xa e.low d);simp only[gF,xe,n9 a,H5 a,i,j]
theorem xz {y r:Nat} {d:Int} (g:gW top HA HB lo hi) (a:d7 lo r<=y) (c:y<el HB hi r) (k:-(r:Int)<=d) (l:d<=r) :
  (0<=((y-top:Nat):Int)+d/\((y-top:Nat):Int)+d<HA↔0<=(y:Int)+d/\(y:Int)+d<HB)/\(0<=(y:Int)+d/\(y:Int)+d<HB->lo<=((y:Int)+d).toNat/\((y:Int)+d).toNat<hi/\(((y-top:Nat):Int)+d).toNat=((y:Int)+d).toNat-top):=by
 obtain ⟨h,i,j,f⟩:=g;have m:top<=y:=by
  unfold d7 at a;split at a<;>omega
 have b:lo=0\/lo+r<=y:=by
  unfold d7 at a;split at a
  ·exact .inl ‹_›
  ·exact .inr a
 have e:(hi=HB/\y<HB)\/y+r<hi:=by
  unfold el at c;split at c
  ·exact .inl ⟨‹_›,c⟩
  ·exact .inr oM
 rcases b with b|b<;>rcases e with e|e
 ·have:=f b;omega
 ·have:=f b;omega
 ·omega
 ·omega
theorem E2 {m f:List Int} {l lb:List Pt} (b:gW top HA HB lo hi) (z:m.length=HA*W) (A:f.length=HB*W) (r:fu W top lo hi m f)
  (p:∀(y:Nat) (x:Int),top<=y->y<top+HA->dK l (x,((y-top:Nat):Int))=dK lb (x,(y:Int))):fu W top (d7 lo 2) (el HB hi 2) (kL W HA m l) (kL W HB f lb):=by
 refine fu.map (b.shr 2) z A fun y x a e i=>?_;have q:=b.shr 2;have B:top<=y:=xa q.low a;have C:y<top+HA:=kG e q.high;have t:=r y x (by unfold d7 at a;split at a<;>omega) (by have:=b.high;have:=b.all;unfold el at e;split at e<;>omega) i;have v:=p y x B C;simp only[fO,xe,n9 i,H5 i,t,v];refine congrArg (fun u=>if dK lb ((x:Int),(y:Int))=true then aN f (y*W+x) else u) ?_;have s:∀k:Fin 4,(0<=dn (y-top) k/\dn (y-top) k<HA↔0<=dn y k/\dn y k<HB)/\(0<=dn y k/\dn y k<HB->lo<=(dn y k).toNat/\(dn y k).toNat<hi/\(dn (y-top) k).toNat=(dn y k).toNat-top):=fun k =>
  xz (d:=CP k.1) b a e (by unfold CP;(repeat' split)<;>omega) (by unfold CP;(repeat' split)<;>omega)
 refine vx (fun k=>?_) (fun k g E=>?_)
 ·obtain ⟨j,D⟩:=s k;have o:bc W HA (fc x k) (dn (y-top) k)=true↔bc W HB (fc x k) (dn y k)=true:=by
   simp only[bc,decide_eq_true_eq];constructor
   ·intro h;have:=j.1 ⟨h.2.2.1,h.2.2.2⟩;exact ⟨h.1,h.2.1,this.1,this.2⟩
   ·intro h;have:=j.2 ⟨h.2.2.1,h.2.2.2⟩;exact ⟨h.1,h.2.1,this.1,this.2⟩
  have n:bc W HB (fc x k) (dn y k)=true->kn l x (y-top) k=kn lb x y k:=fun h=>by
   simp only[bc,decide_eq_true_eq] at h;have c:=D ⟨h.2.2.1,h.2.2.2⟩;have w:=j.2 ⟨h.2.2.1,h.2.2.2⟩;have:=p (dn y k).toNat (fc x k) (by have:=b.low;omega) (by have:=b.high;omega);rw[<-c.2.2,Int.toNat_of_nonneg w.1,Int.toNat_of_nonneg h.2.2.1] at this;exact this
  constructor
  ·intro h;have a:=o.1 h.1;exact ⟨a,by rw[<-n a];exact h.2⟩
  ·intro h;exact ⟨o.2 h.1,by rw[n h.1];exact h.2⟩
 ·simp only[bc,decide_eq_true_eq] at g;have c:=(s k).2 ⟨g.2.2.1,g.2.2.2⟩;rw[c.2.2];exact r _ _ c.1 c.2.1 oM
theorem vC {k:Nat} (h:k<8):bu k / 3<=2:=by unfold bu;split<;>omega
theorem A5 {j g:List Int} {i f:Int} (b:gW top HA HB lo hi) (B:j.length=HA*W) (C:g.length=HB*W) (r:fu W top lo hi j g)
  (q:∀y x,top<=y->ce i.toNat x (y-top)=ce f.toNat x y):gM W top (d7 lo 1) (el HB hi 1) (ip W HA j i) (ip W HB g f):=by
 refine gM.map (b.shr 1) B C fun y x a l n=>?_;have E:=b.shr 1;have D:top<=y:=xa E.low a;have z:=r y x (by unfold d7 at a;split at a<;>omega) (by have:=b.high;have:=b.all;unfold el at l;split at l<;>omega) n;have A:=q y x D;have t:∀k:Fin 8,(0<=cV (y-top) k/\cV (y-top) k<HA↔0<=cV y k/\cV y k<HB)/\(0<=cV y k/\cV y k<HB->lo<=(cV y k).toNat/\(cV y k).toNat<hi/\(cV (y-top) k).toNat=(cV y k).toNat-top):=fun k=>by
  have h:=xz (d:=-1+(bu k.1 / 3:Nat)) b a l oM (by have:=vC k.2;omega);have v:cV (y-top) k=((y-top:Nat):Int)+(-1+(bu k.1 / 3:Nat)):=by unfold cV;omega
  have w:cV y k=(y:Int)+(-1+(bu k.1 / 3:Nat)):=by unfold cV;omega
  rw[v,w];exact h
 have H:∀c,ek j W HA i.toNat x (y-top) c=ek g W HB f.toNat x y c:=fun c=>by
  unfold ek;rw[z,A];refine congrArg (fun u=>if ce f.toNat x y=c then aN g (y*W+x) else u) ?_;refine vx (fun k=>?_) (fun k m I=>?_)
  ·obtain ⟨s,F⟩:=t k;have p:bc W HA (fB x k) (cV (y-top) k)=true↔bc W HB (fB x k) (cV y k)=true:=by
    simp only[bc,decide_eq_true_eq];constructor
    ·intro h;have:=s.1 ⟨h.2.2.1,h.2.2.2⟩;exact ⟨h.1,h.2.1,this.1,this.2⟩
    ·intro h;have:=s.2 ⟨h.2.2.1,h.2.2.2⟩;exact ⟨h.1,h.2.1,this.1,this.2⟩
   have o:bc W HB (fB x k) (cV y k)=true->ia i.toNat x (y-top) c k=ia f.toNat x y c k:=fun h=>by
    simp only[bc,decide_eq_true_eq] at h;have e:=F ⟨h.2.2.1,h.2.2.2⟩;have:=q (cV y k).toNat (fB x k).toNat (by have:=b.low;omega);unfold ia;rw[e.2.2,this]
   constructor
   ·intro h;have a:=p.1 h.1;exact ⟨a,by rw[<-o a];exact h.2⟩
   ·intro h;exact ⟨p.2 h.1,by rw[o h.1];exact h.2⟩
  ·simp only[bc,decide_eq_true_eq] at m;have e:=(t k).2 ⟨m.2.2.1,m.2.2.2⟩;rw[e.2.2];exact r _ _ e.1 e.2.1 oM
 simp only[fI,xe,n9 n,H5 n,H]
theorem uC {c d:List Px} {f:Px->Px} (a:gW top HA HB lo hi) (h:c.length=HA*W) (i:d.length=HB*W) (j:gM W top lo hi c d):gM W top lo hi (c.map f) (d.map f):=by
 intro y x e g b;have:=a.low;have:=a.high;have:=a.all;rw[wW _ (by rw[h];exact lk oM b),wW _ (by rw[i];exact lk oM b),j y x e g b]
theorem CW {W:Nat} {x:Int} (h:1<=W):(dC W x).toNat<W:=by unfold dC;(repeat' split)<;>omega
theorem FP {f b:List Px} {l:Int} (e:gW top HA HB lo hi) (z:f.length=HA*W) (A:b.length=HB*W) (o:gM W top lo hi f b) :
  gM W top (d7 lo 1) (el HB hi 1) (ev W HA f l) (ev W HB b l):=by
 refine gM.map (e.shr 1) z A fun y x a d j=>?_;have C:=e.shr 1;have L:top<=y:=xa C.low a;have m:=o y x (by unfold d7 at a;split at a<;>omega) (by have:=e.high;have:=e.all;unfold el at d;split at d<;>omega) j;have E:∀k:Fin 8,aB f (fr W HA x (y-top) k.1)=aB b (fr W HB x y k.1):=fun k=>by
  unfold fr;have B:=vC k.2;generalize bu k.1 / 3=q at B;have n:=CW (x:=(x:Int)-1+(bu k.1 % 3:Nat)) (show 1<=W from oM);generalize (dC W ((x:Int)-1+(bu k.1 % 3:Nat))).toNat=F at n;have D:∃c:Nat,(dC HB ((y:Int)-1+(q:Nat))).toNat=c/\(dC HA (((y-top:Nat):Int)-1+(q:Nat))).toNat=c-top/\lo<=c/\c<hi:=by
   refine ⟨_,rfl,?_⟩;obtain ⟨H,I,K,v⟩:=e;have i:(lo=0/\top=0)\/(lo+1<=y/\0<lo):=by
    unfold d7 at a;split at a
    ·exact .inl ⟨‹_›,v ‹_›⟩
    ·exact .inr ⟨a,oM⟩
   have h:(hi=HB/\y<HB/\top+HA=HB)\/(y+1<hi/\hi<HB)\/(y+1<hi/\hi=HB):=by
    unfold el at d;split at d
    ·exact .inl ⟨‹_›,d,oM⟩
    ·exact .inr (.inl ⟨oM,oM⟩)
   unfold dC;rcases i with i|i<;>rcases h with h|h|h<;>(repeat' split)<;>omega
  obtain ⟨c,p,r,t,u⟩:=D;rw[p,r];exact o c F t u n
 have w:wF f W HA x (y-top) (zO 8)=wF b W HB x y (zO 8):=by
  unfold wF;rw[m];refine congrArg (fun g=>(zO 8).foldl g (iF (0,0,0) 4 (aB b (y*W+x)))) ?_;funext s k;rw[E k]
 simp only[jF,xe,n9 j,H5 j,w,m]
end
structure tF (top HA:Nat) (na nb:aA):Prop where
 black:∀y x,top<=y->na.black ((y-top) % 2*2+x % 2)=nb.black (y % 2*2+x % 2)
 phase:∀y x,top<=y->ce na.phase.toNat x (y-top)=ce nb.phase.toNat x y
 spots:∀(y:Nat) (x:Int),top<=y->y<top+HA->dK na.spots (x,((y-top:Nat):Int))=dK nb.spots (x,(y:Int))
 white:na.white=nb.white
 gains:na.gains=nb.gains
 matrix:na.matrix=nb.matrix
 curve:na.curve=nb.curve
 amount:na.amount=nb.amount
theorem CR (a:List Pt) (top rows y:Nat) (x:Int) (j:top<=y) (k:y<top+rows):dK (gm a top rows) (x,((y-top:Nat):Int))=dK a (x,(y:Int)):=by
 have c:(x,((y-top:Nat):Int))∈gm a top rows↔(x,(y:Int))∈a:=by
  unfold gm;rw[List.mem_map];constructor
  ·rintro ⟨s,g,b⟩;obtain ⟨d,f⟩:=List.mem_filter.1 g;obtain ⟨l,i⟩:=s;simp only[Prod.mk.injEq,li,decide_eq_true_eq] at b f;have e:i=(y:Int):=oM;rw[<-b.1,<-e];exact d
  ·intro h;refine ⟨(x,(y:Int)),List.mem_filter.2 ⟨h,?_⟩,?_⟩
   ·simp only[li,decide_eq_true_eq];omega
   ·simp only[Prod.mk.injEq,true_and];omega
 unfold dK;rw[decide_eq_decide,List.count_eq_zero,List.count_eq_zero,c]
theorem zT (p:Int) (b:cW p=true) (top x y:Nat) (c:top<=y):ce (if top % 2=1 then kD p else p).toNat x (y-top)=ce p.toNat x y:=by
 have d:0<=p/\p<=3:=by simpa [cW] using b
 have a:mN (if top % 2=1 then kD p else p).toNat x (y-top)=mN p.toNat x y:=by
  unfold mN;refine Prod.ext ?_ ?_<;>refine decide_eq_decide.2 ?_<;>unfold kD<;>split<;>(try split)<;>omega
 unfold ce;rw[a]
theorem FG (n:aA) (d:cW n.phase=true) (top a:Nat):tF top a (ff n top a) n:=by
 refine ⟨fun y x h=>?_,fun y x h=>zT _ d _ _ _ h,fun y x b c=>CR _ _ _ _ _ b c,rfl,rfl,rfl,rfl,rfl⟩;show (if top % 2=1 then mY n.black else n.black) _=_;split
 ·unfold mY;exact congrArg n.black oM
 ·exact congrArg n.black oM
theorem Au {h nb:aA} {W top b a e c:Nat} {f g:List Int} (d:tF top b h nb) (k:gW top b a e c) (i:f.length=b*W) (j:g.length=a*W) (v:fu W top e c f g) :
  gM W top (d7 e 4) (el a c 4) (ec h W b f) (ec nb W a g):=by
 have n:fu W top e c (gZ h W f) (gZ nb W g):=by
  unfold gZ;rw[d.white];exact Ce k i j v d.black
 have o:fu W top (d7 e 2) (el a c 2) (il h W b f) (il nb W a g) :=
  E2 k (by rw[rj,i]) (by rw[rj,j]) n d.spots
 have p:fu W top (d7 e 2) (el a c 2) (g7 h W b f) (g7 nb W a g):=by
  unfold g7;rw[d.gains];exact Bn (k.shr 2) (by rw[rk,i]) (by rw[rk,j]) o d.phase
 have q:=A5 (k.shr 2) (by rw[rl,i]) (by rw[rl,j]) p d.phase;have r:gM W top (d7 (d7 e 2) 1) (el a (el a c 2) 1) (gB h W b f) (gB nb W a g):=by
  unfold gB;rw[d.matrix];exact uC ((k.shr 2).shr 1) (by rw[rm,i]) (by rw[rm,j]) q
 have s:gM W top (d7 (d7 e 2) 1) (el a (el a c 2) 1) (gC h W b f) (gC nb W a g):=by
  unfold gC;rw[d.curve];exact uC ((k.shr 2).shr 1) (by rw[rn,i]) (by rw[rn,j]) r
 have t:gM W top (d7 (d7 (d7 e 2) 1) 1) (el a (el a (el a c 2) 1) 1) (ec h W b f) (ec nb W a g):=by
  unfold ec;rw[d.amount];exact FP ((k.shr 2).shr 1) (by rw[rp,i]) (by rw[rp,j]) s
 intro y x l m u;refine t y x ?_ ?_ u
 ·unfold d7 at l |-;split at l<;>(repeat' split)<;>omega
 ·unfold el at m |-;split at m<;>(repeat' split)<;>omega
theorem Fg {W top a m:Nat} {d e:List Px} (v:top<=a) (g:(a-top+m)*W<=d.length) (i:(a+m)*W<=e.length) (h:gM W top a (a+m) d e):cm d W (a-top) m=cm e W a m:=by
 have s:(cm d W (a-top) m).length=m*W:=by
  unfold cm;rw[zl,zo];rw[Nat.add_mul] at g;omega
 have t:(cm e W a m).length=m*W:=by
  unfold cm;rw[zl,zo];rw[Nat.add_mul] at i;omega
 refine List.ext_getElem? fun j=>?_;by_cases c:j<m*W
 ·have l:0<W:=by
   rcases Nat.eq_zero_or_pos W with f|f
   ·rw[f] at c;omega
   ·exact f
  obtain ⟨q,r,u,n,k⟩:∃q r,q<m/\r<W/\j=q*W+r :=
   ⟨j / W,j % W,Nat.div_lt_of_lt_mul (by rw[ys];exact c),Nat.mod_lt _ l,by rw[ys];exact (Nat.div_add_mod j W).symm⟩
  have b:=h (a+q) r oM oM n;have o:(a+q-top)*W+r=(a-top)*W+j:=by
   rw[show a+q-top=(a-top)+q from oM,Nat.add_mul,Nat.add_assoc,<-k]
  have p:(a+q)*W+r=a*W+j:=by rw[Nat.add_mul,Nat.add_assoc,<-k]
  rw[o,p] at b;rw[Nat.add_mul] at g i;unfold aB at b;rw[xc,xc,km oM,km oM] at b;simp only[Option.getD_some] at b;unfold cm;rw[List.getElem?_take_of_lt c,List.getElem?_take_of_lt c,List.getElem?_drop,List.getElem?_drop,km oM,km oM,b]
 ·rw[List.getElem?_eq_none (by rw[s];omega),List.getElem?_eq_none (by rw[t];omega)]
theorem DG {n:aA} {W top H a b c:Nat} {d e:List Int} (j:cW n.phase=true) (f:d.length=H*W) (h:e.length=a*W) (i:top+H<=a) (o:b<c) (r:c<=a) (q:top=0\/top+4<=b) (p:top+H=a\/c+4<=top+H)
  (m:fu W top top (top+H) d e):cm (ec (ff n top H) W H d) W (b-top) (c-b)=cm (ec n W a e) W b (c-b):=by
 have k:gW top H a top (top+H):=⟨kh _,kh _,i,id⟩;have g:=Au (FG n j top H) k f h m;refine Fg oM ?_ ?_ ?_
 ·rw[nO,f];exact yb _ oM
 ·rw[nO,h];exact yb _ oM
 ·intro y x s t l;refine g y x ?_ ?_ l
  ·unfold d7;split<;>omega
  ·unfold el;split<;>omega
theorem yQ (zs:List Int) (W top H a:Nat) (g:zs.length=a*W) (h:top+H<=a):fu W top top (top+H) (cm zs W top H) zs:=by
 intro y x d f b;have c:=lk (show y-top<H from oM) b;have i:=lk (show y<a from oM) b;unfold aN cm;rw[xc,xc,List.getElem?_take_of_lt c,List.getElem?_drop];have e:top*W+((y-top)*W+x)=y*W+x:=by
  rw[<-Nat.add_assoc,<-Nat.add_mul,show top+(y-top)=y from oM]
 rw[e]
theorem Fd {α:Type} (L:List α) (W f t H:Nat) (c:f<=t) (d:t<=H):cm L W f (t-f)++cm L W t (H-t)=cm L W f (H-f):=by
 unfold cm;have a:t*W=f*W+(t-f)*W:=by rw[<-Nat.add_mul,show f+(t-f)=t from oM]
 have b:(H-f)*W=(t-f)*W+(H-t)*W:=by rw[<-Nat.add_mul,show t-f+(H-t)=H-f from oM]
 rw[a,b,List.take_add,List.drop_drop]
theorem E9 {α:Type} {L:List α} {W H:Nat} (h:L.length=H*W):cm L W 0 (H-0)=L:=by
 unfold cm;rw[Nat.zero_mul,List.drop_zero,Nat.sub_zero,<-h,List.take_length]
theorem Gf {n:aA} {W H:Nat} {zs:List Int} {rows f:Nat} (l:dz n W H zs H=0) (q:1<=rows) (b:f<H) :
  lL n W H zs rows f=cm (ec n W H zs) W f (cL H rows f-f):=by
 obtain ⟨i,j,r⟩:=ky l;obtain ⟨y,x,o,_⟩:=eT j;have a:zs.length=H*W:=by rw[ys];exact_mod_cast o
 have m:=kN (H:=H) q b;have p:=nt (rows:=rows) b;unfold lL mi;generalize cL H rows f=t at *;have s:bi f<=f:=by unfold bi;omega
 have u:t<=bT t H:=by unfold bT;omega
 have v:bT t H<=H:=by unfold bT;omega
 have k:bi f=0\/bi f+4<=f:=by unfold bi;omega
 have w:bT t H=H\/t+4<=bT t H:=by unfold bT;omega
 generalize bi f=A at *;generalize bT t H=B at *;have c:((A:Int)).toNat=A:=xe A;have d:(((B-A:Nat):Int)).toNat=B-A:=xe _;have e:((W:Int)).toNat=W:=xe W;have g:((f:Int)-(A:Int)).toNat=f-A:=oM;have h:((t:Int)-(f:Int)).toNat=t-f:=oM;rw[c,d,e,g,h];refine DG (kK i).1 ?_ a oM m p k oM (yQ zs W A (B-A) H a oM);refine nm zs W _ _ ?_;rw[a];exact yb _ oM
theorem Gk {n:aA} {W H:Nat} {zs:List Int} {rows:Nat} (h:dz n W H zs H=0) (d:1<=rows):∀b f,f<=H->H-f<=b->eV n W H zs rows b f=cm (ec n W H zs) W f (H-f):=by
 intro b
 induction b with
 | zero =>
  intro f e g;rw[show H-f=0 from oM];simp[eV,cm]
 | succ k ih =>
  intro f e g;rw[eV];by_cases a:f<H
  ·have i:=kN (H:=H) d a;have c:=nt (rows:=rows) a;rw[if_pos a,Gf h d a,ih _ c oM,Fd _ _ _ _ _ oM c]
  ·rw[if_neg a,show H-f=0 from oM];simp[cm]
theorem Gm {n:aA} {W H:Int} {zs:List Int} {rows:Int} (a:dz n W H zs H=0) (j:1<=rows):gL n W H zs rows=ec n W H zs:=by
 obtain ⟨f,c,g⟩:=ky a;obtain ⟨i,h,d,_⟩:=eT c;obtain ⟨b,rfl⟩:=kv (show 0<=W from oM);obtain ⟨HN,rfl⟩:=kv (show 0<=H from oM);have e:zs.length=HN*b:=by rw[ys];exact_mod_cast d
 unfold gL;rw[xe,xe,Gk a oM HN 0 (Nat.zero_le _) oM];exact E9 (by rw[nO,e])
theorem qm {W H:Int} {zs:List Int} (h:a7 W H zs=true):∃a HN:Nat,W=a/\H=HN/\1<=a/\a<=64/\1<=HN/\HN<=64/\zs.length=HN*a:=by
 obtain ⟨d,c,b,_⟩:=eT h;obtain ⟨a,rfl⟩:=kv (show 0<=W from oM);obtain ⟨HN,rfl⟩:=kv (show 0<=H from oM);exact ⟨a,HN,rfl,rfl,oM,oM,oM,oM,by rw[ys];exact_mod_cast b⟩
theorem wH {W H:Int} {zs:List Px} (h:aZ W H zs=true):∃a HN:Nat,W=a/\H=HN/\1<=a/\a<=64/\1<=HN/\HN<=64/\zs.length=HN*a:=by
 obtain ⟨d,c,b,_⟩:=fC h;obtain ⟨a,rfl⟩:=kv (show 0<=W from oM);obtain ⟨HN,rfl⟩:=kv (show 0<=H from oM);exact ⟨a,HN,rfl,rfl,oM,oM,oM,oM,by rw[ys];exact_mod_cast b⟩
theorem wG {W H:Int} {zs:List Px} (h:aZ W H zs=true):zs.length<=4096:=by
 obtain ⟨d,HN,_,_,_,a,_,b,c⟩:=wH h;rw[c];exact zR b a
theorem wD {p:Int} (h:cW p=true):∃P:Nat,p=P/\P<=3:=by
 have a:=of_decide_eq_true h;obtain ⟨P,rfl⟩:=kv a.1;exact ⟨P,rfl,oM⟩
section
variable {n:aA} {W H:Int} {zs:List Int} (hd:eQ n W H zs) (u:World) (v:Value)
include hd
theorem EP (i:ap u v zs):Calls prog 85 #[.agg #[Z G W,Z G H,v],.agg (g9 n.black),Z G n.white] u fun e w'=>∃r,e=.returned (.agg #[Z G W,Z G H,r])/\ap w' r (gZ n W zs)/\Below u.heap.size u w'/\ar u.heap.size r:=by
 obtain ⟨b,HN,rfl,rfl,c,d,j,f,h⟩:=qm hd.plane;have a:=hd.levels;rw[eD,zc,decide_eq_true_eq] at a;exact Ch b HN c d f v zs n.black n.white a.1.2 (fun k g=>kV a.2 k g) h (jz hd.plane) u i
theorem EQ (j:ap u v (gZ n W zs)) (a:Value) (i:bo u a n.spots):Calls prog 84 #[.agg #[Z G W,Z G H,v],a] u fun e w'=>∃r,e=.returned (.agg #[Z G W,Z G H,r])/\ap w' r (il n W H zs)/\Below u.heap.size u w'/\ar u.heap.size r:=by
 obtain ⟨b,HN,rfl,rfl,c,d,f,g,h⟩:=qm hd.p1;exact E5 b HN c d f g v _ a n.spots h (jz hd.p1) u j i
theorem ER (l:ap u v (il n W H zs)):Calls prog 83 #[.agg #[Z G W,Z G H,v],Z G n.phase,.agg (jf n.gains)] u fun e w'=>∃r,e=.returned (.agg #[Z G W,Z G H,r])/\ap w' r (g7 n W H zs)/\Below u.heap.size u w'/\ar u.heap.size r:=by
 obtain ⟨b,HN,rfl,rfl,c,d,m,f,j⟩:=qm hd.p2;obtain ⟨P,a,g⟩:=wD hd.phase;have h:=Bq b HN P c d f g v _ n.gains (fun k i=>kV hd.gains k i) j (jz hd.p2) u l;rw[<-a,show P=n.phase.toNat by rw[a,xe]] at h;exact h
theorem ES (k:ap u v (g7 n W H zs)):Calls prog 89 #[.agg #[Z G W,Z G H,v],Z G n.phase] u fun e w'=>∃r,e=.returned (.agg #[Z G W,Z G H,r])/\ax w' r (jo n W H zs)/\Below u.heap.size u w'/\ar u.heap.size r:=by
 obtain ⟨b,HN,rfl,rfl,c,d,f,g,j⟩:=qm hd.p3;obtain ⟨P,a,i⟩:=wD hd.phase;have h:=A8 b HN P c d f g i v _ j (jz hd.p3) u k;rw[<-a,show P=n.phase.toNat by rw[a,xe]] at h;exact h
theorem ET (a:ax u v (jo n W H zs)):Calls prog 88 #[.agg #[Z G W,Z G H,v],.agg (gn n.matrix)] u fun e w'=>∃r,e=.returned (.agg #[Z G W,Z G H,r])/\ax w' r (gB n W H zs)/\Below u.heap.size u w'/\ar u.heap.size r :=
 CJ W H v _ n.matrix hd.matrix (fC hd.p4).2.2.2 (wG hd.p4) u a
theorem EU (c:ax u v (gB n W H zs)) (a:Value) (b:bo u a n.curve):Calls prog 87 #[.agg #[Z G W,Z G H,v],a] u fun e w'=>∃r,e=.returned (.agg #[Z G W,Z G H,r])/\ax w' r (gC n W H zs)/\Below u.heap.size u w'/\ar u.heap.size r :=
 y6 W H v _ a n.curve (nY hd.curve) (fC hd.p5).2.2.2 (wG hd.p5) u c b
theorem EV (i:ax u v (gC n W H zs)):Calls prog 86 #[.agg #[Z G W,Z G H,v],Z G n.amount] u fun e w'=>∃r,e=.returned (.agg #[Z G W,Z G H,r])/\ax w' r (ec n W H zs)/\Below u.heap.size u w'/\ar u.heap.size r:=by
 obtain ⟨b,HN,rfl,rfl,c,d,f,g,h⟩:=wH hd.p6;have a:=of_decide_eq_true hd.amount;exact FO b HN c d f g v _ n.amount a.1 a.2 h (fC hd.p6).2.2.2 u i
end
end Go.Proofs.YtfjeonehdlphiaaGreatDoor
