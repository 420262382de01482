/- Part 17. -/
import Derived.Test.YtfjeonehdlphiaaGreatDoorC16Sd
open Go.Obj renaming cells → kc
open Go.Lib renaming frozen_of_heap → kd, cell_of_heap → kh
open Go.Act renaming put → km
open Nat renaming le_refl → ko, le_trans → kG, zero_le → xe, succ_mul → ys, mul_comm → zc, mul_le_mul → zB, one_pos → zO
open Go.IntWalk renaming i64_in → kv
open Go.RowKit.Below renaming refl → kw, heap_alloc → xc
open List renaming take_succ_eq_append_getElem → xa, take_of_length_le → yb, range → zl, map_append → zo, finRange → zv
open Go.Value renaming int → Z, slice → J
open Go.IntKind renaming i64 → G
set_option linter.unusedVariables false
set_option maxHeartbeats 6400000
set_option maxRecDepth 100000
namespace Go.Proofs.YtfjeonehdlphiaaGreatDoor
open _root_.Go.Proofs.Tryz
open Go.RowKit Go.Shelf
def jF (ps:List Px) (W H:Nat) (a:Int) (j:Nat):Px :=
 (ij (aB ps j).1 (wF ps W H (j % W) (j / W) (zv 8)).1 a,ij (aB ps j).2.1 (wF ps W H (j % W) (j / W) (zv 8)).2.1 a,ij (aB ps j).2.2 (wF ps W H (j % W) (j / W) (zv 8)).2.2 a)
theorem ny {i U:World} {g h:Nat} {t:TypeId} {z:Array Value} (q:∃a b c,z=#[a,b,c]) (m:i.heap[g]?=some (.cells z t (0,0))) (n:i.heap[h]?=some (.cells z t (0,0))) (j:g≠h) (p:Below U.heap.size U i) (k:U.heap.size<=g) (l:U.heap.size<=h) (a b c d e f:Value) :
  Below U.heap.size U ((((((i.setCell ⟨g,0,none⟩ a).setCell ⟨g,1,none⟩ b).setCell ⟨g,2,none⟩ c).setCell ⟨h,0,none⟩ d).setCell ⟨h,1,none⟩ e).setCell ⟨h,2,none⟩ f) /\
   ((((((i.setCell ⟨g,0,none⟩ a).setCell ⟨g,1,none⟩ b).setCell ⟨g,2,none⟩ c).setCell ⟨h,0,none⟩ d).setCell ⟨h,1,none⟩ e).setCell ⟨h,2,none⟩ f).heap[g]?=some (.cells #[a,b,c] t (0,0)) /\
   ((((((i.setCell ⟨g,0,none⟩ a).setCell ⟨g,1,none⟩ b).setCell ⟨g,2,none⟩ c).setCell ⟨h,0,none⟩ d).setCell ⟨h,1,none⟩ e).setCell ⟨h,2,none⟩ f).heap[h]?=some (.cells #[d,e,f] t (0,0))/\U.heap.size<=g/\U.heap.size<=h:=by
 obtain ⟨x,y,u,rfl⟩:=q;obtain ⟨r,s,C,v⟩:=eo m a b c U k p;have o:=(s h (Ne.symm j)).trans n;obtain ⟨w,A,D,B⟩:=eo o d e f U l v;exact ⟨B,(A g j).trans r,w,k,l⟩
theorem pX {d U:World} {B:Nat} {t:TypeId} {z:Array Value} (j:∃a b c,z=#[a,b,c]) (e:d.heap[B]?=some (.cells z t (0,0))) (f:Below U.heap.size U d) (g:U.heap.size<=B) (a b c:Value) (y:Array Value) :
  Below U.heap.size U ((((d.setCell ⟨B,0,none⟩ a).setCell ⟨B,1,none⟩ b).setCell ⟨B,2,none⟩ c).alloc (kc y t))/\((((d.setCell ⟨B,0,none⟩ a).setCell ⟨B,1,none⟩ b).setCell ⟨B,2,none⟩ c).alloc (kc y t)).heap[B]?=some (.cells #[a,b,c] t (0,0)) /\
   ((((d.setCell ⟨B,0,none⟩ a).setCell ⟨B,1,none⟩ b).setCell ⟨B,2,none⟩ c).alloc (kc y t)).heap[d.heap.size]?=some (.cells y t (0,0))/\U.heap.size<=B/\U.heap.size<=d.heap.size:=by
 obtain ⟨x,o,u,rfl⟩:=j;obtain ⟨k,n,l,i⟩:=eo e a b c U g f;have m:=lS e;refine ⟨i.alloc i.size _,(xc _ _ _ oM).trans k,?_,g,f.size⟩;have h:=aD (((d.setCell ⟨B,0,none⟩ a).setCell ⟨B,1,none⟩ b).setCell ⟨B,2,none⟩ c) (kc y t);rw[l] at h;exact h
theorem vK {a U:World} {t:TypeId} (b:Below U.heap.size U a) (x y:Array Value) :
  Below U.heap.size U ((a.alloc (kc x t)).alloc (kc y t))/\((a.alloc (kc x t)).alloc (kc y t)).heap[a.heap.size]?=some (.cells x t (0,0))/\((a.alloc (kc x t)).alloc (kc y t)).heap[a.heap.size+1]?=some (.cells y t (0,0))/\U.heap.size<=a.heap.size/\U.heap.size<=a.heap.size+1:=by
 obtain ⟨c,d⟩:=df a (kc x t) (kc y t);have:=b.size;exact ⟨(b.alloc b.size _).alloc sO _,c,d,this,oM⟩
theorem sW {A B C D E:Prop} (h:A/\B/\C/\D/\E):A/\C/\B/\E/\D:=⟨h.1,h.2.2.1,h.2.1,h.2.2.2.2,h.2.2.2.1⟩
theorem FQ (W H j a off ca:Nat) (hW1:1<=W) (hW:W<=64) (hH1:1<=H) (hH:H<=64) (t:Int) (ha0:0<=t) (ha1:t<=1024) (ps:List Px) (hlen:ps.length=H*W) (hps:eu ps=true) (hj:j<ps.length) (l D F E:Nat) (V:World)
  (aa:a<V.heap.size) (hBq:l<V.heap.size) (hBg:D<V.heap.size) (hBf:F<V.heap.size) (hBa:E<V.heap.size)
  (kq0:V.cell? ⟨l,0,none⟩=some (Z G W)) (ju:V.cell? ⟨l,1,none⟩=some (Z G H)) (jv:V.cell? ⟨l,2,none⟩=some (J (some ⟨a,off,none⟩) ps.length ca)) (kg0:V.cell? ⟨D,0,none⟩=some (Z G W)) (kg1:V.cell? ⟨D,1,none⟩=some (Z G H))
  (kf:V.cell? ⟨F,0,none⟩=some (.func (.func 279) #[] #[.pointer (some ⟨E,0,none⟩)])) (ka:V.cell? ⟨E,0,none⟩=some (Z G t))
  (hcell:∀j,j<ps.length->V.cell? ⟨a,off+j*3,none⟩=some (Z G (aB ps j).1)/\V.cell? ⟨a,off+j*3+1,none⟩=some (Z G (aB ps j).2.1)/\V.cell? ⟨a,off+j*3+2,none⟩=some (Z G (aB ps j).2.2)) :
  Calls prog 280 #[.agg #[Z G (j % W:Nat),Z G (j / W:Nat)],.pointer (some ⟨l,0,none⟩),.pointer (some ⟨D,0,none⟩),.pointer (some ⟨F,0,none⟩)] V fun e V'=>e=.returned (dj (jF ps W H t j))/\Below V.heap.size V V':=by
 have hl4:ps.length<=4096:=by rw[hlen];exact kG (zB hH hW) dD
 have HSP:=qH (show jF ps W H t j=(ij (aB ps j).1 (wF ps W H (j % W) (j / W) (zv 8)).1 t,ij (aB ps j).2.1 (wF ps W H (j % W) (j / W) (zv 8)).2.1 t,ij (aB ps j).2.2 (wF ps W H (j % W) (j / W) (zv 8)).2.2 t) from rfl);generalize jF ps W H t j=RES at *;have hXW:j % W<W:=Nat.mod_lt _ oM;have hYH:j / W<H:=by rw[hlen] at hj;exact Nat.div_lt_of_lt_mul (by rw[zc];exact hj)
 obtain ⟨X,hX⟩:=eX (j % W);obtain ⟨Y,hY⟩:=eX (j / W);have hk:Y*W+X=j:=by rw[<-hX,<-hY,zc];exact Nat.div_add_mod j W
 rw[hX] at hXW;rw[hY] at hYH;rw[hX,hY] at HSP;rw[hX,hY];clear hX hY;have HK:=qH hk;have HLEN:=qH hlen;have HPS:=qH hps;have HC:=qH hcell;clear hk hlen hps hcell;obtain ⟨⟨r,g,u⟩,hp⟩:∃p,aB ps j=p:=⟨_,rfl⟩;obtain ⟨⟨K,L,N⟩,hs⟩:∃s,wF ps W H X Y (zv 8)=s:=⟨_,rfl⟩;obtain ⟨⟨r1,r2⟩,⟨g1,g2⟩,u1,u2⟩:=(jC _).1 (kl HPS.1 j);obtain ⟨⟨o1,o2⟩,⟨o3,o4⟩,o5,o6⟩:=sz (th HPS.1 W H X Y (zv 8)) (show 4+2*(((zv 8).length:Nat):Int)<=32 from dD);obtain ⟨c0,c1,c2⟩:=HC.1 j hj;rw[hp] at r1 r2 g1 g2 u1 u2 c0 c1 c2 HSP;rw[hs] at o1 o2 o3 o4 o5 o6 HSP;have HWF:=qH hs;clear hp hs;have R:=ea V (kc #[Z G X,Z G Y] 97) (kc #[Z G 0,Z G 0,Z G 0] 61);obtain ⟨n1,n2⟩:=df V (kc #[Z G X,Z G Y] 97) (kc #[Z G 0,Z G 0,Z G 0] 61);have hsU:((V.alloc (kc #[Z G X,Z G Y] 97)).alloc (kc #[Z G 0,Z G 0,Z G 0] 61)).heap.size=V.heap.size+2:=sS;go_enter func280,ntmps280;go_wp2_with fail
 generalize (V.alloc _).alloc _=U at *;replace hsU:=Nat.le_of_eq hsU.symm;have HS:=qH (show ∀w',Below U.heap.size U w'->(w'.cell? ⟨l,0,none⟩=some (Z G W)/\w'.cell? ⟨l,1,none⟩=some (Z G H)/\w'.cell? ⟨l,2,none⟩=some (J (some ⟨a,off,none⟩) ps.length ca)/\w'.cell? ⟨D,0,none⟩=some (Z G W)/\w'.cell? ⟨D,1,none⟩=some (Z G H)/\w'.cell? ⟨V.heap.size,0,none⟩=some (Z G X)/\w'.cell? ⟨V.heap.size,1,none⟩=some (Z G Y) /\
   w'.cell? ⟨a,off+j*3,none⟩=some (Z G r)/\w'.cell? ⟨a,off+j*3+1,none⟩=some (Z G g)/\w'.cell? ⟨a,off+j*3+2,none⟩=some (Z G u)) from fun w' h=>by
  have n:=R.trans (h.mono R.size);have O:=(h.block V.heap.size oM).trans n1;exact ⟨(n.cell (p:=⟨l,0,none⟩) hBq).trans kq0,(n.cell (p:=⟨l,1,none⟩) hBq).trans ju,(n.cell (p:=⟨l,2,none⟩) hBq).trans jv,(n.cell (p:=⟨D,0,none⟩) hBg).trans kg0,(n.cell (p:=⟨D,1,none⟩) hBg).trans kg1,kh O _,kh O _,(n.cell (p:=⟨a,off+j*3,none⟩) aa).trans c0,(n.cell (p:=⟨a,off+j*3+1,none⟩) aa).trans c1,(n.cell (p:=⟨a,off+j*3+2,none⟩) aa).trans c2⟩)
 have HIX:=qH (show ∀w',Below U.heap.size U w'->Calls prog 42 #[.agg #[Z G W,Z G H],.agg #[Z G X,Z G Y]] w' fun e m=>e=.returned (Z G j)/\Below U.heap.size U m/\Below w'.heap.size w' m from fun w' h =>
  (iP W H X Y W j rfl HK.1 oM w').mono fun e m C=>⟨C.1,h.trans (C.2.mono h.size),C.2⟩)
 have HWA:=qH (show ∀w',Below U.heap.size U w'->Calls prog 281 #[.agg #[Z G W,Z G H,J (some ⟨a,off,none⟩) ps.length ca],.agg #[Z G X,Z G Y]] w' fun e m=>e=.returned (.agg #[Z G K,Z G L,Z G N])/\Below U.heap.size U m/\Below w'.heap.size w' m from fun w' h=>by
  have n:=R.trans (h.mono R.size);have C:=G5 W H X Y a off ca hW1 hW hH1 hH hXW hYH ps HLEN.1 HPS.1 w' (by have:=n.size;omega) (fun i hi=>by
   obtain ⟨d0,d1,d2⟩:=HC.1 i hi;exact ⟨(n.cell (p:=⟨a,off+i*3,none⟩) aa).trans d0,(n.cell (p:=⟨a,off+i*3+1,none⟩) aa).trans d1,(n.cell (p:=⟨a,off+i*3+2,none⟩) aa).trans d2⟩)
  rw[HWF.1] at C;exact C.mono fun e m C=>⟨C.1,h.trans (C.2.mono h.size),C.2⟩)
 have HSA:=qH (show ∀w' o,Below U.heap.size U w'->Below U.heap.size U (w'.alloc o) from fun w' o h=>h.alloc h.size o);have HS3:=qH (show ∀w' b x y z,Below U.heap.size U w'->U.heap.size<=b->Below U.heap.size U (((w'.setCell ⟨b,0,none⟩ x).setCell ⟨b,1,none⟩ y).setCell ⟨b,2,none⟩ z) from fun w' b x y z h hb=>bf h hb x y z);have hdrew:Below U.heap.size U U.drew:=(kw _ _).drew;have hrefl:Below U.heap.size U U:=kw _ _;have HZ1:=qH (show (U.alloc (kc #[Z G 0,Z G 0,Z G 0] 61)).drew.heap[U.heap.size]?=some (.cells #[Z G 0,Z G 0,Z G 0] 61 (0,0)) from aD U _);have HZ2a:=qH (show ((U.alloc (kc #[Z G 0,Z G 0,Z G 0] 61)).alloc (kc #[Z G 0,Z G 0,Z G 0] 61)).drew.heap[U.heap.size]?=some (.cells #[Z G 0,Z G 0,Z G 0] 61 (0,0)) from (df U _ _).1);have HZ2b:=qH (show ((U.alloc (kc #[Z G 0,Z G 0,Z G 0] 61)).alloc (kc #[Z G 0,Z G 0,Z G 0] 61)).drew.heap[U.heap.size+1]?=some (.cells #[Z G 0,Z G 0,Z G 0] 61 (0,0)) from (df U _ _).2);have HLT1:=qH (show True->U.heap.size<(U.alloc (kc #[Z G 0,Z G 0,Z G 0] 61)).drew.heap.size from fun _=>by show _<(U.alloc (kc #[Z G 0,Z G 0,Z G 0] 61)).heap.size;simp);have HLT:=qH (show True->U.heap.size<((U.alloc (kc #[Z G 0,Z G 0,Z G 0] 61)).alloc (kc #[Z G 0,Z G 0,Z G 0] 61)).drew.heap.size from fun _=>by show _<((U.alloc (kc #[Z G 0,Z G 0,Z G 0] 61)).alloc (kc #[Z G 0,Z G 0,Z G 0] 61)).heap.size;simp;omega);have HLT2:=qH (show True->U.heap.size+1<((U.alloc (kc #[Z G 0,Z G 0,Z G 0] 61)).alloc (kc #[Z G 0,Z G 0,Z G 0] 61)).drew.heap.size from fun _=>by show _<((U.alloc (kc #[Z G 0,Z G 0,Z G 0] 61)).alloc (kc #[Z G 0,Z G 0,Z G 0] 61)).heap.size;simp);have HLA:=qH (show ∀(w':World) (b:Nat),b<w'.heap.size->b<(w'.alloc (kc #[Z G 0,Z G 0,Z G 0] 61)).heap.size from fun w' b h=>sO);have HAL:=qH (show ∀(w':World) (b:Nat),w'.heap[b]?=some (.cells #[Z G 0,Z G 0,Z G 0] 61 (0,0))->(w'.alloc (kc #[Z G 0,Z G 0,Z G 0] 61)).heap[b]?=some (.cells #[Z G 0,Z G 0,Z G 0] 61 (0,0)) from fun w' b h=>(xc _ _ _ (lS h)).trans h);have HLC1:=qH (show ∀(w':World),w'.heap.size<(w'.alloc (kc #[Z G 0,Z G 0,Z G 0] 61)).heap.size from fun w'=>sS);have HLC2:=qH (show ∀(w':World),w'.heap.size<((w'.alloc (kc #[Z G 0,Z G 0,Z G 0] 61)).alloc (kc #[Z G 0,Z G 0,Z G 0] 61)).heap.size from fun w'=>sO);have HLC3:=qH (show ∀(w':World),w'.heap.size+1<((w'.alloc (kc #[Z G 0,Z G 0,Z G 0] 61)).alloc (kc #[Z G 0,Z G 0,Z G 0] 61)).heap.size from fun w'=>sS);refine yB (fun a' M=>∃f k,a'={ tmps:=#[.agg #[Z G X,Z G Y],.pointer (some ⟨l,0,none⟩),.pointer (some ⟨D,0,none⟩),.pointer (some ⟨F,0,none⟩),.pointer (some ⟨V.heap.size,0,none⟩),.pointer (some ⟨V.heap.size+1,0,none⟩),.pointer (some ⟨f,0,none⟩),.pointer (some ⟨k,0,none⟩),.pointer (some ⟨l,2,none⟩),J (some ⟨a,off,none⟩) ps.length ca,.agg #[Z G W,Z G H],.agg #[Z G X,Z G Y],Z G j,.pointer (some ⟨a,off+j*3,none⟩),.agg #[Z G r,Z G g,Z G u],.agg #[Z G W,Z G H,J (some ⟨a,off,none⟩) ps.length ca],.agg #[Z G X,Z G Y],.agg #[Z G K,Z G L,Z G N],undef,undef,undef,undef,undef,undef,undef,undef,undef,undef,undef,undef,undef,undef,undef,undef,undef,undef,undef],defers:=[] }/\Below U.heap.size U M/\M.heap[f]?=some (.cells #[Z G r,Z G g,Z G u] 61 (0,0))/\M.heap[k]?=some (.cells #[Z G K,Z G L,Z G N] 61 (0,0))/\U.heap.size<=f/\U.heap.size<=k) ?_ ?_;rotate_left
 ·rintro a' M ⟨f,k,rfl,mB,m6,m7,l6,l7⟩;have hz1:=(mB.block (V.heap.size+1) oM).trans n2;have T:=R.trans (mB.mono R.size);have hsM:=mB.size;have h6l:=lS m6;have h7l:=lS m7;have HSb:=qH (show ∀w',Below M.heap.size M w'->w'.cell? ⟨F,0,none⟩=some (.func (.func 279) #[] #[.pointer (some ⟨E,0,none⟩)])/\w'.cell? ⟨f,0,none⟩=some (Z G r)/\w'.cell? ⟨f,1,none⟩=some (Z G g)/\w'.cell? ⟨f,2,none⟩=some (Z G u)/\w'.cell? ⟨k,0,none⟩=some (Z G K)/\w'.cell? ⟨k,1,none⟩=some (Z G L)/\w'.cell? ⟨k,2,none⟩=some (Z G N) from fun w' h=>by
   have n:=T.trans (h.mono T.size);obtain ⟨e0,e1,e2⟩:=al ((h.block f h6l).trans m6);obtain ⟨e3,e4,e5⟩:=al ((h.block k h7l).trans m7);exact ⟨(n.cell (p:=⟨F,0,none⟩) hBf).trans kf,e0,e1,e2,e3,e4,e5⟩)
  have HSb3:=qH (show ∀w' x y z,Below M.heap.size M w'->(((w'.setCell ⟨V.heap.size+1,0,none⟩ x).setCell ⟨V.heap.size+1,1,none⟩ y).setCell ⟨V.heap.size+1,2,none⟩ z).cell? ⟨F,0,none⟩=some (.func (.func 279) #[] #[.pointer (some ⟨E,0,none⟩)])/\(((w'.setCell ⟨V.heap.size+1,0,none⟩ x).setCell ⟨V.heap.size+1,1,none⟩ y).setCell ⟨V.heap.size+1,2,none⟩ z).cell? ⟨f,0,none⟩=some (Z G r)/\(((w'.setCell ⟨V.heap.size+1,0,none⟩ x).setCell ⟨V.heap.size+1,1,none⟩ y).setCell ⟨V.heap.size+1,2,none⟩ z).cell? ⟨f,1,none⟩=some (Z G g)/\(((w'.setCell ⟨V.heap.size+1,0,none⟩ x).setCell ⟨V.heap.size+1,1,none⟩ y).setCell ⟨V.heap.size+1,2,none⟩ z).cell? ⟨f,2,none⟩=some (Z G u)/\(((w'.setCell ⟨V.heap.size+1,0,none⟩ x).setCell ⟨V.heap.size+1,1,none⟩ y).setCell ⟨V.heap.size+1,2,none⟩ z).cell? ⟨k,0,none⟩=some (Z G K)/\(((w'.setCell ⟨V.heap.size+1,0,none⟩ x).setCell ⟨V.heap.size+1,1,none⟩ y).setCell ⟨V.heap.size+1,2,none⟩ z).cell? ⟨k,1,none⟩=some (Z G L)/\(((w'.setCell ⟨V.heap.size+1,0,none⟩ x).setCell ⟨V.heap.size+1,1,none⟩ y).setCell ⟨V.heap.size+1,2,none⟩ z).cell? ⟨k,2,none⟩=some (Z G N) from fun w' x y z h=>by
   have hh:=HSb.1 w' h;have e1:F≠V.heap.size+1:=oM;have e2:f≠V.heap.size+1:=oM;have e3:k≠V.heap.size+1:=oM;rw[eK _ _ _ e1,eK _ _ _ e2,eK _ _ _ e2,eK _ _ _ e2,eK _ _ _ e3,eK _ _ _ e3,eK _ _ _ e3];exact hh)
  have HSH:=qH (show ∀w' p q,Below M.heap.size M w'->0<=p->p<=65535->0<=q->q<=2097120->Calls prog 279 #[Z G p,Z G q,.pointer (some ⟨E,0,none⟩)] w' fun e m=>e=.returned (Z G (ij p q t))/\Below M.heap.size M m/\(m.cell? ⟨V.heap.size+1,0,none⟩=some (Z G 0)/\m.cell? ⟨V.heap.size+1,1,none⟩=some (Z G 0)/\m.cell? ⟨V.heap.size+1,2,none⟩=some (Z G 0))/\m.frozen? ⟨V.heap.size+1,0,none⟩=false/\m.frozen? ⟨V.heap.size+1,1,none⟩=false/\m.frozen? ⟨V.heap.size+1,2,none⟩=false from fun w' p q h hp0 hp1 hq0 hq1 =>
   (FS p q t hp0 hp1 hq0 hq1 ha0 ha1 E w' (((T.trans (h.mono T.size)).cell (p:=⟨E,0,none⟩) hBa).trans ka)).mono fun e m C=>by
    obtain ⟨rfl,rfl⟩:=C;have O:=(h.block (V.heap.size+1) oM).trans hz1;exact ⟨rfl,h,al O,kd O 0,kd O 1,kd O 2⟩)
  have HFIN:=qH (show ∀w' x y z,Below M.heap.size M w'->Below V.heap.size V (((w'.setCell ⟨V.heap.size+1,0,none⟩ x).setCell ⟨V.heap.size+1,1,none⟩ y).setCell ⟨V.heap.size+1,2,none⟩ z) from fun w' x y z h=>bf (T.trans (h.mono T.size)) oM x y z);have hdrewM:Below M.heap.size M M.drew:=(kw _ _).drew;have hreflM:Below M.heap.size M M:=kw _ _;have o2':K<=2097120:=oM;have o4':L<=2097120:=oM;have o6':N<=2097120:=oM;clear n1 n2 c0 c1 c2 kq0 ju jv kg0 kg1 kf ka HS HIX HWA HSA HS3 hdrew hrefl m6 m7 hz1 o2 o4 o6;go_wp2_with fail
  go_region_held3 (fun w'=>w'.cell? ⟨F,0,none⟩=some (.func (.func 279) #[] #[.pointer (some ⟨E,0,none⟩)])/\w'.cell? ⟨f,0,none⟩=some (Z G r)/\w'.cell? ⟨f,1,none⟩=some (Z G g)/\w'.cell? ⟨f,2,none⟩=some (Z G u)/\w'.cell? ⟨k,0,none⟩=some (Z G K)/\w'.cell? ⟨k,1,none⟩=some (Z G L)/\w'.cell? ⟨k,2,none⟩=some (Z G N))
   (first|(with_reducible refine HSb.1 _ ?_;with_reducible assumption)|(with_reducible refine HSb3.1 _ _ _ _ ?_;with_reducible assumption))
   (first
    | (go_at_call 279;refine (HSH.1 _ _ _ ?_ ?_ ?_ ?_ ?_).mono ?_;assumption;assumption;assumption;assumption;assumption;rintro e wz ⟨rfl,hN3,⟨z0,z1,z2⟩,f0,f1,f2⟩))
  all_goals
   go_wp2;exact bodyPost_ret (v:=.agg #[Z G (ij r K t),Z G (ij g L t),Z G (ij u N t)]) (by simp[results,results280,go_sem,z0,z1,z2]) rfl ⟨by rw[HSP.1],HFIN.1 _ _ _ _ (by assumption)⟩
 go_region_held3 (fun w'=>(w'.cell? ⟨l,0,none⟩=some (Z G W)/\w'.cell? ⟨l,1,none⟩=some (Z G H)/\w'.cell? ⟨l,2,none⟩=some (J (some ⟨a,off,none⟩) ps.length ca)/\w'.cell? ⟨D,0,none⟩=some (Z G W)/\w'.cell? ⟨D,1,none⟩=some (Z G H)/\w'.cell? ⟨V.heap.size,0,none⟩=some (Z G X)/\w'.cell? ⟨V.heap.size,1,none⟩=some (Z G Y) /\
   w'.cell? ⟨a,off+j*3,none⟩=some (Z G r)/\w'.cell? ⟨a,off+j*3+1,none⟩=some (Z G g)/\w'.cell? ⟨a,off+j*3+2,none⟩=some (Z G u)))
  (first|(refine HS.1 _ ?_;repeat (first|with_reducible assumption|(with_reducible refine HSA.1 _ _ ?_)|(with_reducible refine HS3.1 _ _ _ _ _ ?_ oM)|(with_reducible refine kX ?_))))
  (first
   | (go_at_call 42;refine (HIX.1 _ ?_).mono ?_;(repeat (first|with_reducible assumption|(with_reducible refine HSA.1 _ _ ?_)|(with_reducible refine kX ?_)));rintro e c ⟨rfl,hN,hNx⟩;have I:=hN.size;(first|(with_reducible have hzA:=(hNx.block U.heap.size (HLT.1 trivial)).trans HZ2a.1;with_reducible have hzB:=(hNx.block (U.heap.size+1) (HLT2.1 trivial)).trans HZ2b.1;have hszA:U.heap.size<c.heap.size:=lS hzA;have hszB:U.heap.size+1<c.heap.size:=lS hzB)|(with_reducible have hzA:=(hNx.block U.heap.size (HLT1.1 trivial)).trans HZ1.1;have hszA:U.heap.size<c.heap.size:=lS hzA)|skip))
   | (go_at_call 281;refine (HWA.1 _ ?_).mono ?_;(repeat (first|with_reducible assumption|(with_reducible refine HSA.1 _ _ ?_)|(with_reducible refine kX ?_)));rintro e d ⟨rfl,w,S⟩;have hszV:=w.size;(first|(with_reducible have A:=(S.block U.heap.size hszA).trans hzA;have ysA:U.heap.size<d.heap.size:=lS A)|(with_reducible have A:=(S.block U.heap.size (HLA.1 _ _ hszA)).trans (HAL.1 _ _ hzA);have ysA:U.heap.size<d.heap.size:=lS A)|skip);(first|(with_reducible have P:=(S.block (U.heap.size+1) hszB).trans hzB;have ysB:U.heap.size+1<d.heap.size:=lS P)|skip);(first|(with_reducible have B:=(S.block c.heap.size (HLC2.1 _)).trans (df c _ _).1;with_reducible have Q:=(S.block (c.heap.size+1) (HLC3.1 _)).trans (df c _ _).2;have ysC:c.heap.size<d.heap.size:=lS B;have ysD:c.heap.size+1<d.heap.size:=lS Q)|(with_reducible have B:=(S.block c.heap.size (HLC1.1 _)).trans (aD c _);have ysC:c.heap.size<d.heap.size:=lS B)|skip);(try (obtain ⟨yA0,yA1,yA2⟩:=al A;have yAf0:=kd A 0;have yAf1:=kd A 1;have yAf2:=kd A 2));(try (obtain ⟨yB0,yB1,yB2⟩:=al P;have yBf0:=kd P 0;have yBf1:=kd P 1;have yBf2:=kd P 2));(try (obtain ⟨yC0,yC1,yC2⟩:=al B;have yCf0:=kd B 0;have yCf1:=kd B 1;have yCf2:=kd B 2));(try (obtain ⟨yD0,yD1,yD2⟩:=al Q;have yDf0:=kd Q 0;have yDf1:=kd Q 1;have yDf2:=kd Q 2));(try (have ne1:¬U.heap.size=c.heap.size:=by omega;have ne2:¬c.heap.size=U.heap.size:=oM));(try (have ne3:¬U.heap.size=d.heap.size:=by omega;have ne4:¬d.heap.size=U.heap.size:=oM));(try (have ne5:¬c.heap.size=d.heap.size:=by omega;have ne6:¬d.heap.size=c.heap.size:=oM))))
 all_goals show ∃f k,_
 all_goals first
  | with_reducible exact ⟨d.heap.size,d.heap.size+1,rfl,vK w _ _⟩
  | with_reducible exact ⟨d.heap.size+1,d.heap.size,rfl,sW (vK w _ _)⟩
  | with_reducible exact ⟨c.heap.size,d.heap.size,rfl,pX ⟨_,_,_,rfl⟩ B w I _ _ _ _⟩
  | with_reducible exact ⟨d.heap.size,c.heap.size,rfl,sW (pX ⟨_,_,_,rfl⟩ B w I _ _ _ _)⟩
  | with_reducible exact ⟨U.heap.size,d.heap.size,rfl,pX ⟨_,_,_,rfl⟩ A w (ko _) _ _ _ _⟩
  | with_reducible exact ⟨d.heap.size,U.heap.size,rfl,sW (pX ⟨_,_,_,rfl⟩ A w (ko _) _ _ _ _)⟩
  | with_reducible exact ⟨c.heap.size,c.heap.size+1,rfl,ny ⟨_,_,_,rfl⟩ B Q oM w I (Nat.le_succ_of_le I) _ _ _ _ _ _⟩
  | with_reducible exact ⟨c.heap.size+1,c.heap.size,rfl,ny ⟨_,_,_,rfl⟩ Q B oM w (Nat.le_succ_of_le I) I _ _ _ _ _ _⟩
  | with_reducible exact ⟨U.heap.size,c.heap.size,rfl,ny ⟨_,_,_,rfl⟩ A B oM w (ko _) I _ _ _ _ _ _⟩
  | with_reducible exact ⟨U.heap.size,U.heap.size+1,rfl,ny ⟨_,_,_,rfl⟩ A P oM w (ko _) (Nat.le_succ _) _ _ _ _ _ _⟩
  | with_reducible exact ⟨c.heap.size,U.heap.size,rfl,ny ⟨_,_,_,rfl⟩ B A oM w I (ko _) _ _ _ _ _ _⟩
  | with_reducible exact ⟨U.heap.size+1,U.heap.size,rfl,ny ⟨_,_,_,rfl⟩ P A oM w (Nat.le_succ _) (ko _) _ _ _ _ _ _⟩
end Go.Proofs.YtfjeonehdlphiaaGreatDoor
namespace Go.Proofs.YtfjeonehdlphiaaGreatDoor
open Go.RowKit
open _root_.Go.Proofs.Tryz
def dF (s:Nat->Int):Array Value:=#[Z G (s 0),Z G (s 1),Z G (s 2)]
theorem iA (s:Nat->Int) (k:Nat) (h:k<3):(dF s)[k]?=some (Z G (s k)):=by
 rcases (show k=0\/k=1\/k=2 from oM) with rfl|rfl|rfl<;>rfl
theorem qB (s t:Nat->Int) (k:Nat) (x:Int) (e:k<3) (d:x=t k) (a:∀j,j<3->j≠k->s j=t j):(dF s).setIfInBounds k (Z G x)=dF t:=by
 subst d;rcases (show k=0\/k=1\/k=2 from oM) with rfl|rfl|rfl
 ·have b:=a 1 oM oM;have c:=a 2 oM oM;simp[dF,b,c]
 ·have b:=a 0 oM oM;have c:=a 2 oM oM;simp[dF,b,c]
 ·have b:=a 0 oM oM;have c:=a 1 oM oM;simp[dF,b,c]
theorem oC (s t:Nat->Int) (h:∀j,j<3->s j=t j):dF s=dF t:=by
 simp[dF,h 0 oM,h 1 oM,h 2 oM]
def eq (p:Px) (k:Nat):Int:=if k=0 then p.1 else if k=1 then p.2.1 else p.2.2
theorem sx {p:Px} (h:et p=true) (k:Nat):0<=eq p k/\eq p k<=65535:=by
 obtain ⟨a,b,c⟩:=(jC p).1 h;unfold eq;split
 ·exact a
 ·split
  ·exact b
  ·exact c
def a8 (g:Nat->Int):Nat->Int
 | 0=>0
 | n+1=>a8 g n+g n
theorem qz {g:Nat->Int} (h:∀n,0<=g n/\g n<=262140) (n:Nat):0<=a8 g n/\a8 g n<=n*262140:=by
 induction n with
 | zero=>simp[a8]
 | succ n ih =>
  obtain ⟨a,b⟩:=h n;obtain ⟨c,d⟩:=ih;refine ⟨?_,?_⟩
  ·simp only[a8];omega
  ·simp only[a8];omega
theorem ul (p X Y:Nat):ce p X Y<3:=by unfold ce;split<;>omega
theorem Cp {N:Nat} {zs:List Int} {B:Int} (h:∀j,0<=aN zs j/\aN zs j<=B) (W H:Nat) (a b:Fin N->Int) (aj:Fin N->Bool) (c:List (Fin N)) (s:Int×Nat) (d:0<=s.1) (f:s.1<=s.2*B) :
  0<=(c.foldl (di zs W H a b aj) s).1/\(c.foldl (di zs W H a b aj) s).1<=(c.foldl (di zs W H a b aj) s).2*B:=by
 induction c generalizing s with
 | nil=>exact ⟨d,f⟩
 | cons x c ih =>
  simp only[List.foldl_cons];have g:=h ((b x).toNat*W+(a x).toNat);refine ih (di zs W H a b aj s x) ?_ ?_
  ·unfold di;split
   ·show 0<=s.1+aN zs ((b x).toNat*W+(a x).toNat);omega
   ·exact d
  ·unfold di;split
   ·show s.1+aN zs ((b x).toNat*W+(a x).toNat)<=((s.2+1:Nat):Int)*B;have e:((s.2+1:Nat):Int)*B=s.2*B+B:=(by rw[Int.natCast_add,Int.add_mul];simp);omega
   ·exact f
theorem vu {N:Nat} {zs:List Int} {B:Int} (h:∀j,0<=aN zs j/\aN zs j<=B) (W H:Nat) (a b:Fin N->Int) (aj:Fin N->Bool):0<=gl zs W H a b aj/\gl zs W H a b aj<=B:=by
 have e:0<=B:=by have:=h 0;omega
 obtain ⟨c,d⟩:=Cp h W H a b aj (zv N) (0,0) (Int.le_refl _) sS;unfold gl mF;generalize (zv N).foldl (di zs W H a b aj) (0,0)=s at *;split
 ·exact ⟨Int.le_refl _,e⟩
 ·rename_i hn;refine ⟨Int.ediv_nonneg c oM,Int.ediv_le_of_le_mul oM ?_⟩;rw[Int.mul_comm];exact d
theorem si {zs:List Int} {B:Int} (h:∀j,0<=aN zs j/\aN zs j<=B) (W H p X Y c:Nat):0<=ek zs W H p X Y c/\ek zs W H p X Y c<=B:=by
 unfold ek;split
 ·exact h _
 ·exact vu h W H _ _ _
theorem uS (W H:Int) (zs:List Int) (a:Int):(ip W H zs a).length=zs.length:=by simp[ip]
theorem A6 {W H:Int} {zs:List Int} (c:Int) (h:a7 W H zs=true):aZ W H (ip W H zs c)=true:=by
 obtain ⟨d,e,f,_⟩:=eT h;have a:=jK (jz h);rw[nh,Bool.and_eq_true] at h;rw[aZ,uS,h.1,Bool.true_and];refine List.all_eq_true.2 fun q b=>?_;obtain ⟨j,_,rfl⟩:=List.mem_map.1 b;exact (jC _).2 ⟨si a _ _ _ _ _ 0,si a _ _ _ _ _ 1,si a _ _ _ _ _ 2⟩
theorem vI (m:Nat->Int) (k:Nat) (h:k<(fg m).length):(fg m)[k]=m k:=by simp[fg]
theorem CG (m:Nat->Int) (w:World):Calls prog 185 #[.agg (gn m)] w (rT w (.bool (fJ m))):=by
 obtain ⟨R,d⟩:=eX (fJ m);rw[d];have l:=qH (show R=az (-32768) 32768 (fg m) by rw[<-d];rfl);clear d;obtain ⟨g,o⟩:=lV w (kc (gn m) 48);have s:=qH (fun k (p:k<9)=>show (w.alloc (kc (gn m) 48)).cell? ⟨w.heap.size,k,none⟩=some (Z G (m k)) by rw[kh g,iW m k p]);have n:(fg m).length=9:=by simp[fg]
 have j:=qH n;clear g n;go_enter func185,ntmps185;go_wp2;generalize w.alloc _=U at *;go_loop [3] (fun i=>∃k:Nat,k<=9/\i=Z G k/\Hid (az (-32768) 32768 ((fg m).take k)=true)) (fun i=>9-(intOf i).toNat)
 case atStart=>exact ⟨0,oM,rfl,rfl⟩
 case round =>
  obtain ⟨k,p,rfl,f⟩:=hrel;by_cases q:k<9
  ·have v:=s.1 k q;have r:k<(fg m).length:=(by rw[j.1];exact q);by_cases a:-32768<=m k/\m k<=32768
   ·have b:decide (-32768<=m k/\m k<=32768)=true:=(by simpa using a);have t:=au (show az (-32768) 32768 ((fg m).take (k+1))=true by rw[xa r,tK,f.out,vI];exact b);clear a;(go_wp2_with (go_at_call 33;refine (aI _ _ _ _).mono ?_;rintro e u ⟨rfl,rfl⟩;rw[b]));go_round
    case rel=>exact ⟨k+1,oM,gN,t⟩
    case measure=>simp[intOf];omega
   ·have b:decide (-32768<=m k/\m k<=32768)=false:=(by simpa using a);have c:=qH (show false=R by rw[l.1,qK (-32768) 32768 (fg m) k r (by rw[vI];exact a)]);clear a;(go_wp2_with (go_at_call 33;refine (aI _ _ _ _).mono ?_;rintro e u ⟨rfl,rfl⟩;rw[b]));go_ret;exact ⟨be c.1,o⟩
  ·have c:=qH (show true=R by rw[l.1,<-f.out,yb (by rw[j.1];omega)]);go_wp2;go_ret;exact ⟨be c.1,o⟩
theorem Dq (v:Value) (a:List Pt) (x:Int) (z:0<=x) (h1:x<=65535) (l:gQ a) (w:World) (V:bo w v a) :
  Calls prog 144 #[v,Z G x] w (rT w (Z G (cN a x))):=by
 obtain ⟨H,ca,rfl,hla,A⟩:=V;have S:=l.two;have hl16:=l.most;obtain ⟨g,off,L,hbl,B⟩:∃b off,H=some ⟨b,off,none⟩/\b<w.heap.size/\∀j,j<a.length ->
   w.cell? ⟨b,off+j*2,none⟩=some (Z G (an a j).1)/\w.cell? ⟨b,off+j*2+1,none⟩=some (Z G (an a j).2):=by
  rcases A with h|h
  ·subst h;simp at S
  ·exact h
 subst L;have r:=qH B;clear B A;have c:=qH l;clear l;go_enter func144,ntmps144;go_wp2;go_loop [5] (fun i=>∃k:Nat,1<=k/\k<a.length/\i=Z G k/\Hid (∀j,1<=j->j<k->(an a j).1<x)) (fun i=>a.length-(intOf i).toNat)
 case atStart=>exact ⟨1,oM,oM,rfl,fun j O hj2=>oM⟩
 case round =>
  obtain ⟨k,Q,d,rfl,n⟩:=hrel;obtain ⟨X,Y⟩:=r.1 k d;by_cases m:(an a k).1<x
  ·have N:decide ((an a k).1<x)=true:=(by simpa using m);have R:k+1<a.length:=by
    rcases Nat.eq_or_lt_of_le (show k<=a.length-1 from oM) with e|C
    ·have:=c.1.last;rw[<-e] at this;omega
    ·omega
   go_wp2;go_round
   case rel=>exact ⟨k+1,oM,R,gN,fun j P O=>by
    rcases Nat.eq_or_lt_of_le (show j<=k from oM) with e|C
    ·rw[e];exact m
    ·exact n.out j P C⟩
   case measure=>simp[intOf];omega
  ·have N:decide ((an a k).1<x)=false:=(by simpa using m);have f:=qH (BK c.1 z Q d oM n.out);obtain ⟨i,rfl⟩:∃i,k=i+1:=⟨k-1,oM⟩;have T:(an a i).1<=x:=by
    rcases Nat.eq_zero_or_pos i with e|U
    ·rw[e,c.1.first];exact z
    ·exact Int.le_of_lt (n.out i U oM)
   obtain ⟨d0,d1⟩:=r.1 i oM;obtain ⟨F,W,p,q⟩:=qP c.1 i d x T oM;obtain ⟨y0,y1⟩:=c.1.y i oM;obtain ⟨y2,y3⟩:=c.1.y (i+1) d;obtain ⟨x0,x1⟩:=c.1.x i oM;obtain ⟨x2,x3⟩:=c.1.x (i+1) d;obtain ⟨s0,s1⟩:=c.1.step i d;rw[gY,Nat.add_sub_cancel] at p q f;have E:¬(an a (i+1)).1-(an a i).1=0:=oM;clear m;generalize (an a (i+1)).1=s at *;generalize (an a i).1=o at *;generalize (an a (i+1)).2=u at *;generalize (an a i).2=t at *;obtain ⟨M,K⟩:=eX ((u-t)*(x-o));rw[K] at F W p q f;obtain ⟨D,I⟩:=eX (s-o);rw[I] at p q f E;have hD0:0<D:=oM;have hq0:0<=M / D:=Int.ediv_nonneg F oM;have hDz:(D == 0)=false:=(by simpa using E);have hwi:IntKind.i64.wrap (i:Int)=(i:Int):=kv _ oM;have hil:i<a.length:=oM;have hil2:(i:Int)<(a.length:Int):=oM;have hil3:(0:Int)<=(i:Int):=oM;have hil4:(i:Int)+1<(a.length:Int):=oM;have hil5:(0:Int)<=(i:Int)+1:=oM;have hwi2:IntKind.i64.wrap ((i:Int)+1)=(i:Int)+1:=kv _ oM;(go_wp2_with fail);(go_region_held3 (fun w'=>w'.cell? ⟨g,off+(i+1)*2,none⟩=some (Z G s)/\w'.cell? ⟨g,off+(i+1)*2+1,none⟩=some (Z G u)/\w'.cell? ⟨g,off+i*2,none⟩=some (Z G o)/\w'.cell? ⟨g,off+i*2+1,none⟩=some (Z G t)) (go_keep) (fail));all_goals
    go_wp2;(go_region);go_wp2;go_ret;exact ⟨aY f.1.symm,(ea _ _ _).drew.drew⟩
theorem Ad (v:Value) (a:List Pt) (w:World) (U:bo w v a) :
  Calls prog 186 #[v] w (rT w (.bool (cY a))):=by
 obtain ⟨M,ca,rfl,hla,H⟩:=U;obtain ⟨R,f⟩:=eX (cY a);rw[f];by_cases r:2<=(a.length:Int)/\(a.length:Int)<=16
 ·have l:decide (2<=(a.length:Int)/\(a.length:Int)<=16)=true:=by simpa using r
  obtain ⟨F,off,P,X,I⟩:∃b off,M=some ⟨b,off,none⟩/\b<w.heap.size/\∀j,j<a.length ->
    w.cell? ⟨b,off+j*2,none⟩=some (Z G (an a j).1)/\w.cell? ⟨b,off+j*2+1,none⟩=some (Z G (an a j).2):=by
   rcases H with h|h
   ·subst h;simp at r
   ·exact h
  subst P;have t:=qH I;clear I H;obtain ⟨n0,n1⟩:=r;have y:=(t.1 0 oM).1;have L:=(t.1 (a.length-1) oM).1;rw[Nat.zero_mul,Nat.add_zero] at y;by_cases m:(an a 0).1=0
  ·by_cases q:(an a (a.length-1)).1=65535
   ·have u:=qH (show R=ie a a.length by rw[<-f,cY,jp,l,m,q];rfl);rw[m] at y;rw[q] at L;clear f m q;go_enter func186,ntmps186;(go_wp2_with (go_at_call 33;refine (aI _ _ _ _).mono ?_;rintro e E ⟨rfl,rfl⟩;rw[l]));clear y L l;go_loopw [3] (fun i wr=>∃k:Nat,k<=a.length/\i=Z G k/\Hid (ie a k=true)/\∃n,wr=w.drewN n) (fun i _=>a.length-(intOf i).toNat)
    case atStart=>exact ⟨0,xe _,rfl,rfl,0,rfl⟩
    case round =>
     obtain ⟨k,hk,rfl,z,nn,rfl⟩:=hrel;by_cases K:k<a.length
     ·have hlt2:(k:Int)<(a.length:Int):=oM;obtain ⟨N,O⟩:=t.1 k K;have o:=qH (wS a k);have g:=qH (fun h=>wR a k a.length K h);by_cases c:mo a k=true
      ·have s:decide (0<=(an a k).2/\(an a k).2<=65535)=true:=c;have p:=qH (show ∀w',Calls prog 33 #[Z G (an a k).2,Z G 0,Z G 65535] w' fun e D=>e=.returned (.bool true)/\D=w' from fun w'=>by
        have h:=ym (an a k).2 0 65535 w';rw[s] at h;exact h)
       clear s;have B:∀i,k=i+1->w.cell? ⟨F,off+i*2,none⟩=some (Z G (an a i).1)/\w.cell? ⟨F,off+i*2+1,none⟩=some (Z G (an a i).2):=fun i e=>t.1 i oM;cases k with
       | zero =>
        have A:=au (show ie a (0+1)=true by rw[o.1,z.out,c];simp[jB]);clear c o g B;simp only[Nat.zero_mul,Nat.add_zero] at N O;(go_wp2_with fail);go_quiet ((go_at_call 33;exact (p.1 _).mono (fun _ _ h=>⟨h.1,_,h.2⟩)));go_wp2;go_roundw
        case rel=>exact ⟨0+1,oM,gN,A,_,rfl⟩
        case measure=>simp[intOf];omega
       | succ i =>
        obtain ⟨V,W⟩:=B i rfl;clear B;have hwi:IntKind.i64.wrap (i:Int)=(i:Int):=kv _ oM;have aa:i<a.length:=oM;have ab:(i:Int)<(a.length:Int):=oM;have ac:0<=(i:Int):=oM;have ad:(i:Int)+1<(a.length:Int):=oM;by_cases x:(an a i).1<(an a (i+1)).1
        ·have S:decide ((an a (i+1)).1<=(an a i).1)=false:=sO;by_cases C:(an a i).2<=(an a (i+1)).2
         ·have T:decide ((an a (i+1)).2<(an a i).2)=false:=sO;have A:=au (show ie a (i+1+1)=true by rw[o.1,z.out,c];simp[jB,x,C]);clear c o g x C;(go_wp2_with fail);go_quiet ((go_at_call 33;exact (p.1 _).mono (fun _ _ h=>⟨h.1,_,h.2⟩)));go_wp2;go_roundw
          case rel=>exact ⟨i+1+1,oM,gN,A,_,rfl⟩
          case measure=>simp[intOf];omega
         ·have T:decide ((an a (i+1)).2<(an a i).2)=true:=sO;have d:=qH (show false=R by rw[u.1,g.1 (by rw[c];simp[jB];omega)]);clear c o g x C;(go_wp2_with fail);go_quiet ((go_at_call 33;exact (p.1 _).mono (fun _ _ h=>⟨h.1,_,h.2⟩)));go_wp2;go_ret;exact ⟨be d.1,by first|exact below_drewN (kw _ _) _|exact below_drewN (below_drewN (kw _ _) _) _⟩
        ·have S:decide ((an a (i+1)).1<=(an a i).1)=true:=sO;have d:=qH (show false=R by rw[u.1,g.1 (by rw[c];simp[jB];omega)]);clear c o g x;(go_wp2_with fail);go_quiet ((go_at_call 33;exact (p.1 _).mono (fun _ _ h=>⟨h.1,_,h.2⟩)));go_wp2;go_ret;exact ⟨be d.1,by first|exact below_drewN (kw _ _) _|exact below_drewN (below_drewN (kw _ _) _) _⟩
      ·have c:mo a k=false:=(by simpa using c);have s:decide (0<=(an a k).2/\(an a k).2<=65535)=false:=c;have p:=qH (show ∀w',Calls prog 33 #[Z G (an a k).2,Z G 0,Z G 65535] w' fun e D=>e=.returned (.bool false)/\D=w' from fun w'=>by
        have h:=ym (an a k).2 0 65535 w';rw[s] at h;exact h)
       clear s;have d:=qH (show false=R by rw[u.1,g.1 (by rw[c];rfl)]);clear c o g;(go_wp2_with fail);go_quiet ((go_at_call 33;exact (p.1 _).mono (fun _ _ h=>⟨h.1,_,h.2⟩)));go_wp2;go_ret;exact ⟨be d.1,by first|exact below_drewN (kw _ _) _|exact below_drewN (below_drewN (kw _ _) _) _⟩
     ·have d:=qH (show true=R by rw[u.1,<-z.out,show k=a.length from oM]);have Y:decide ((k:Int)<(a.length:Int))=false:=sO;go_wp2;go_ret;exact ⟨be d.1,by first|exact below_drewN (kw _ _) _|exact below_drewN (below_drewN (kw _ _) _) _⟩
   ·have d:=qH (show false=R by rw[<-f,cY,jp];simp[q]);have Q:((an a (a.length-1)).1 != 65535)=true:=(by simpa using q);rw[m] at y;clear f m q;go_enter func186,ntmps186;(go_wp2_with (go_at_call 33;refine (aI _ _ _ _).mono ?_;rintro e E ⟨rfl,rfl⟩;rw[l]));go_ret;exact ⟨be d.1,kw _ _⟩
  ·have d:=qH (show false=R by rw[<-f,cY,jp];simp[m]);have Q:((an a 0).1 != 0)=true:=(by simpa using m);clear f m;go_enter func186,ntmps186;(go_wp2_with (go_at_call 33;refine (aI _ _ _ _).mono ?_;rintro e E ⟨rfl,rfl⟩;rw[l]));go_ret;exact ⟨be d.1,kw _ _⟩
 ·have l:decide (2<=(a.length:Int)/\(a.length:Int)<=16)=false:=by simpa using r
  have d:=qH (show false=R by rw[<-f,cY,jp,l];rfl);clear f r;go_enter func186,ntmps186;go_wp2_with (go_at_call 33;refine (aI _ _ _ _).mono ?_;rintro e E ⟨rfl,rfl⟩;rw[l])
  go_ret;exact ⟨be d.1,kw _ _⟩
def oI (w:World) (W H:Nat) (c:Value) (m:Nat->Int) (L:List Int) (k:Nat) (wr:World):Prop :=
 ∃b a,wr.heap[w.heap.size+3]?=some (.cells #[Z G W,Z G H,J b k a] 54 (0,0))/\wr.ownsRow w.heap.size 3 1 (J b k a) k ((L.take k).map (Z .i64))/\wr.heap[w.heap.size]?=some (.cells #[Z G W,Z G H,c] 54 (0,0))/\wr.heap[w.heap.size+2]?=some (.cells #[Z G 0,Z G 0,J none 0 0] 54 (0,0))/\wr.heap[w.heap.size+1]?=some (.cells (g9 m) 45 (0,0))/\Below w.heap.size w wr
theorem Ch (W H:Nat) (hW1:1<=W) (hW:W<=64) (hH:H<=64) (v:Value) (zs:List Int) (m:Nat->Int) (x:Int) (hw0:x<=65535) (hm:∀k,k<4->0<=m k/\m k<=x-1) (hlen:zs.length=H*W) (hzs:az 0 65535 zs=true) (w:World) (hv:ap w v zs) :
  Calls prog 85 #[.agg #[Z G W,Z G H,v],.agg (g9 m),Z G x] w fun e w'=>∃r,e=.returned (.agg #[Z G W,Z G H,r])/\ap w' r ((zl zs.length).map (gG zs W m x))/\Below w.heap.size w w'/\ar w.heap.size r:=by
 have HZS:=qH hzs;have HV:=qH hv;have HLEN:=qH hlen;have HMM:=qH hm;have hlb:zs.length<=4096:=by rw[hlen];exact kG (zB hH hW) dD
 have hLL:((zl zs.length).map (gG zs W m x)).length=zs.length:=sS;have HLG:=qH (show ∀j,j<zs.length->((zl zs.length).map (gG zs W m x))[j]?=some (gG zs W m x j) from fun j hj=>by simp[hj]);obtain ⟨L,hL⟩:=eX ((zl zs.length).map (gG zs W m x));rw[hL] at hLL HLG |-;have K:=qH hLL;clear hL hLL hzs hlen hm;obtain ⟨B,ca,rfl,hla,hc⟩:=hv;clear hc;obtain ⟨i0,hi,hz0,hz1,hz2⟩:=info_parts Tryz.infoInt;go_enter func85,ntmps85;go_wp2_with fail
 obtain ⟨a1,a2,a3,a4,hB⟩:=jM w (kc #[Z G W,Z G H,J B zs.length ca] 54) (kc (g9 m) 45) (kc #[Z G 0,Z G 0,J none 0 0] 54) (kc #[Z G W,Z G H,J none 0 0] 54);generalize (((w.alloc _).alloc _).alloc _).alloc _=U at *;go_loopw [8] (fun i wr=>∃Y:Nat,Y<=H/\i=Z G Y/\oI w W H (J B zs.length ca) m L (Y*W) wr) (fun i _=>H-(intOf i).toNat)
 case atStart=>exact ⟨0,xe _,rfl,none,0,by rw[Nat.zero_mul];exact a4,by rw[Nat.zero_mul];exact World.ownsRow_nil _ _ _ _,a1,a3,a2,hB⟩
 case round =>
  clear a1 a2 a3 a4 hB;obtain ⟨Y,hY,rfl,R⟩:=hrel;have HJ:=qH R;obtain ⟨q,p,s,f,g,l,D,C⟩:=R;obtain ⟨q0,q1,q2⟩:=al g;by_cases hlt:Y<H
  ·have hd:decide ((Y:Int)<(H:Int))=true:=sO;obtain ⟨M,S⟩:∃M,M=Y*W:=⟨_,rfl⟩;rw[<-S] at HJ s f;have hMM:M+W<=zs.length:=(by rw[HLEN.1,S,<-ys];exact Nat.mul_le_mul_right _ hlt);have HM:=qH S;clear S;(go_wp2_with fail);go_loopw [9] (fun i wr=>∃X:Nat,X<=W/\i=Z G X/\oI w W H (J B zs.length ca) m L (M+X) wr) (fun i _=>W-(intOf i).toNat)
   case atStart=>exact ⟨0,xe _,rfl,HJ.1⟩
   case round =>
    clear s f g l C D q0 q1 q2 HJ hd;obtain ⟨X,hX,rfl,R⟩:=hrel;obtain ⟨q,p,s,f,g,l,D,C⟩:=R;obtain ⟨q0,q1,q2⟩:=al g;by_cases hlx:X<W
    ·have hdx:decide ((X:Int)<(W:Int))=true:=sO;obtain ⟨k,V⟩:=eX (M+X);rw[V] at s f;have hk:k<zs.length:=oM;have HK:=qH V;have hkY:Y*W+X=k:=(by rw[<-HM.1];exact V);obtain ⟨hpm,hpd⟩:(Y*W+X) % W=X/\(Y*W+X) / W=Y:=nf hlx;rw[hkY] at hpm hpd;have A:=qH (show gG zs W m x k=bQ ((aN zs k-m (k / W % 2*2+k % W % 2))*65535 / (x-m (k / W % 2*2+k % W % 2))) from rfl);rw[hpm,hpd] at A;obtain ⟨a,ha⟩:=eX (Y % 2);obtain ⟨b,I⟩:=eX (X % 2);have hya:(Y:Int) % 2=(a:Int):=(by rw[<-ha];rfl);have hxb:(X:Int) % 2=(b:Int):=(by rw[<-I];rfl);obtain ⟨A2,hA2⟩:=eX (a*2);have hi1:(a:Int)*2=(A2:Int):=oM;obtain ⟨ix,hix⟩:=eX (A2+b);have hi2:(A2:Int)+(b:Int)=(ix:Int):=oM;have hix4:ix<4:=oM;have hixI:(ix:Int)<4:=oM;rw[ha,I,hA2,hix] at A;obtain ⟨hm0,hm1⟩:=HMM.1 ix hix4;have kb0:wr.cell? ⟨w.heap.size+1,ix,none⟩=some (Z G (m ix)):=(by rw[kh D,rC m ix hix4]);obtain ⟨P,hbl⟩:=eX (m ix);rw[hbl] at A hm0 hm1 kb0;have hzr:=jK HZS.1 k;have HAT:=qH (fun (u:World) (hu:Below wr.heap.size wr u)=>lW W H (J B zs.length ca) zs X Y X Y W k u (HV.1.below (C.trans (hu.mono C.size)) (ko _)) rfl rfl rfl hkY hk hlb);rw[show zs.getD k 0=aN zs k from rfl] at HAT;obtain ⟨z,hz⟩:=eX (aN zs k);rw[hz] at A hzr HAT;obtain ⟨hzr1,hzr2⟩:=hzr;obtain ⟨d,hdd⟩:=eX (x-P);rw[hdd] at A;obtain ⟨n,hn⟩:=eX ((z-P)*65535);rw[hn] at A;have HDN:=qH (fun u=>uA n d oM oM oM oM u);have hwd:IntKind.i64.wrap d=d:=kv _ oM;have hwe:IntKind.i64.wrap (z-P)=z-P:=kv _ oM;have hwn:IntKind.i64.wrap n=n:=kv _ oM;obtain ⟨y,hy⟩:=eX (bQ (n / d));rw[hy] at A;have HCL:=qH (fun u=>mK (n / d) u);rw[hy] at HCL;have HST:=qH (show (L.take (k+1)).map (Z .i64)=(L.take k).map (Z .i64)++[Z G y] by
      have hk2:k<L.length:=(by rw[K.1];exact hk);have hg:=HLG.1 k hk;rw[List.getElem?_eq_getElem hk2] at hg;rw[xa hk2,Option.some.inj hg,zo,A.1];rfl)
     obtain ⟨XS,hXS⟩:=eX ((L.take k).map (Z .i64));rw[hXS] at f HST;have hbW:=C.size;have HL1:=qH (show k+1<=maxLen from uO);have HL2:=qH (show (k+1)*8<=140737488355328 from oM);clear ha I hA2 hix hbl hz hy hXS hpm hpd hkY V;have N:=qH (show ∀v,Below wr.heap.size wr v->v.cell? ⟨w.heap.size+1+1+1,2,none⟩=some (J q k p)/\v.cell? ⟨w.heap.size,0,none⟩=some (Z G W)/\v.cell? ⟨w.heap.size,1,none⟩=some (Z G H)/\v.cell? ⟨w.heap.size,2,none⟩=some (J B zs.length ca) from fun v h=>by
      obtain ⟨_,_,t2⟩:=al ((h.block (w.heap.size+3) (lS s)).trans s);exact ⟨t2,al ((h.block _ (lS g)).trans g)⟩)
     have nq:=aW f g dD;have HTL:=qH (show ∀(V1:World) (E cap:Nat) (t:World),Below wr.heap.size wr V1->V1.grownBy t (J q k p).ownBlock->t.ownsRow w.heap.size 3 1 (J (some ⟨E,0,none⟩) (k+1) cap) (k+1) (XS++[Z G y])->(t.cell? ⟨w.heap.size+1+1+1,2,none⟩=some (J q k p)/\t.cell? ⟨w.heap.size,0,none⟩=some (Z G W)/\t.cell? ⟨w.heap.size,1,none⟩=some (Z G H)/\t.cell? ⟨w.heap.size,2,none⟩=some (J B zs.length ca))/\t.frozen? ⟨w.heap.size+1+1+1,2,none⟩=false/\oI w W H (J B zs.length ca) m L (k+1) (t.setCell ⟨w.heap.size+1+1+1,2,none⟩ (J (some ⟨E,0,none⟩) (k+1) cap)) from fun V1 E cap t h1 h2 h3=>by
      obtain ⟨t1,t2,t3,t4,t5,t6,t7⟩:=jj dD s f C (ko _) oM h1 h2 h3;exact ⟨⟨t2,al ((t1 _ (lS g) nq).trans g)⟩,t3,some ⟨E,0,none⟩,cap,t4,by rw[HST.1];exact t5,(t7 _ (lS g) nq oM).trans g,(t7 _ (lS l) (aW f l dD) oM).trans l,(t7 _ (lS D) (aW f D dD) oM).trans D,t6⟩)
     have T:Below wr.heap.size wr wr.drew:=(kw _ _).drew;(go_wp2_with fail);have hSd:=N.1 _ T;clear q0 q1 q2 hdx s g l D kb0;refine cE 17 N.1 ?_;refine ct 0 ?_;refine ct 2 ?_;refine ct 3 ?_;refine ct 4 ?_;refine ct 6 ?_;refine ct 9 ?_;refine ct 10 ?_;refine ct 1 ?_;refine ct 11 ?_;refine aw 5 fun F c=>?_;go_simp;refine (HAT.1 _ T).mono ?_;rintro e O ⟨rfl,hb0⟩;have Q:Below wr.heap.size wr O:=T.trans (hb0.mono T.size);have hSd:=N.1 _ Q;refine c.out _ _ hSd ?_;clear c;(try simp only[km]);refine ct 7 ?_;refine ct 8 ?_;refine aw 12 fun F c=>?_;go_simp;refine (HDN.1 _).mono ?_;rintro e Vx ⟨rfl,rfl⟩;have hSd:=hSd;refine c.out _ _ hSd ?_;clear c;(try simp only[km]);refine aw 13 fun F c=>?_;go_simp;refine (HCL.1 _).mono ?_;rintro e Vy ⟨rfl,rfl⟩;have hSd:=hSd;refine c.out _ _ hSd ?_;clear c;(try simp only[km]);refine aw 14 fun F c=>?_;go_simp;have hBs:Below wr.heap.size wr (O.alloc (kc #[Z G y] 3)):=Q.alloc Q.size _;have hSd:=N.1 _ hBs;refine c.out _ _ hSd ?_;clear c;(try simp only[km]);refine eZ (i:=15) (o:=_) kR rfl (fun F c=>?_);refine step_append_lies _ rfl _ _ 52 rfl w.heap.size 3 i0 (Z G 0) 1 8 underlying52 hi hz0 hz1 hz2 rfl dD (J q k p) k XS rfl ((cT f Q).alloc _) ⟨O.heap.size,0,none⟩ 1 1 [Z G y] rfl rfl (World.news_of_block (aD O _)) (fun u hu=>by simp at hu;subst hu;rfl) zO HL1.1 HL2.1 (kG hbW hBs.size) _ rfl ?_;intro E cap t hown hgrow hat hltg;obtain ⟨hSx,p2f,HFIN⟩:=HTL.1 _ E cap t hBs hgrow hown;have hSd:=hSx;refine c.out _ _ hSd ?_;clear c;(try simp only[km]);refine ct 16 ?_;refine aS fun F c=>?_;go_simp;refine c.out _ _ ?_;clear c;(try simp only[km]);go_wp2;go_roundw
     case rel=>exact ⟨X+1,oM,gN,by rw[show M+(X+1)=k+1 by have:=HK.1;omega];exact HFIN⟩
     case measure=>simp[intOf];omega
    ·have hdx:decide ((X:Int)<(W:Int))=false:=sO;have h3:X=W:=oM;subst h3;have HJ1:=qH (show oI w X H (J B zs.length ca) m L ((Y+1)*X) wr from ⟨q,p,by rw[ys,<-HM.1];exact s,by rw[ys,<-HM.1];exact f,g,l,D,C⟩);go_wp2;go_roundw
     case rel=>exact ⟨Y+1,oM,gN,HJ1.1⟩
     case measure=>simp[intOf];omega
  ·have hd:decide ((Y:Int)<(H:Int))=false:=sO;obtain rfl:Y=H:=oM;rw[<-HLEN.1] at s f;rw[yb (by rw[K.1];exact ko _)] at f;obtain ⟨p0,p1,p2⟩:=al (b:=w.heap.size+1+1+1) s;obtain ⟨z0,z1,z2⟩:=al (b:=w.heap.size+1+1) l;have f0:=kd (b:=w.heap.size+1+1) l 0;have f1:=kd (b:=w.heap.size+1+1) l 1;have f2:=kd (b:=w.heap.size+1+1) l 2;have HFI:=qH (bf C (show w.heap.size<=w.heap.size+1+1 from oM) (Z G (W:Nat)) (Z G (Y:Nat)) (J q zs.length p));have hpx:ap wr (J q zs.length p) L:=ap.own (base:=w.heap.size) (xs:=L) (v:=J q zs.length p) (by rw[K.1];exact f) (by rw[K.1];omega);have hne:(J q zs.length p).ownBlock≠some (w.heap.size+1+1):=fun e=>aW f l dD e.symm;have HX:=qH (hpx.other (gK wr (w.heap.size+1+1) (Z G (W:Nat)) (Z G (Y:Nat)) (J q zs.length p)) (fun b I=>eL _ _ _ _ _ b I) hne);have HF:=qH (ar.own f);clear hpx hne;go_wp2;exact bodyPost_ret (v:=.agg #[Z G (W:Nat),Z G (Y:Nat),J q zs.length p]) (by simp[results,results85,go_sem,z0,z1,z2]) rfl ⟨_,rfl,HX.1,HFI.1,HF.1⟩
theorem qY (p X Y:Nat) (l:p<=3) (j:X<=4096) (k:Y<=4096) (w:World) :
  Calls prog 140 #[Z G p,Z G X,Z G Y] w (rQ w (Z G (ce p X Y:Nat))):=by
 obtain ⟨C,c⟩:=eX (ce p X Y);rw[c];have a:X % 2=0\/X % 2=1:=oM;have b:Y % 2=0\/Y % 2=1:=oM;rcases (show p=0\/p=1\/p=2\/p=3 from oM) with rfl|rfl|rfl|rfl<;>rcases a with a|a<;>rcases b with b|b;all_goals
  rw[ce,mN,a,b] at c;simp at c;have f:=qH c.symm;have d:(X:Int) % 2=((X % 2:Nat):Int):=rfl;have e:(Y:Int) % 2=((Y % 2:Nat):Int):=rfl;rw[a] at d;rw[b] at e;have g:((X:Int)+1) % 2=1-(X:Int) % 2:=oM;have i:((Y:Int)+1) % 2=1-(Y:Int) % 2:=oM;rw[d] at g;rw[e] at i;clear c a b;go_enter func140,ntmps140;go_wp2;go_ret;rw[f.1];exact ⟨rfl,rfl⟩
theorem tS (W H X Y k:Nat) (v:Value) (zs:List Int) (w:World) (i:ap w v zs) (g:Y*W+X=k) (f:k<zs.length) (m:zs.length<=4096) :
  Calls prog 142 #[.agg #[Z G W,Z G H,v],Z G X,Z G Y] w (rT w (Z G (aN zs k))):=by
 obtain ⟨c,off,ca,rfl,e,d⟩:=i.cells oM;have l:∀o,(w.alloc o).cell? ⟨c,off+k,none⟩=some (Z G (aN zs k)):=fun o=>by
  rw[World.cell?_of_block (w:=w) (xc w o c e),d k f]
 clear d;obtain ⟨M,b⟩:∃M:Nat,M=Y*W:=⟨_,rfl⟩;have n:(Y:Int)*(W:Int)=(M:Int):=by rw[b];simp
 rw[<-b] at g;have j:(M:Int)+(X:Int)=(k:Int):=oM;clear b;generalize aN zs k=a at *;go_enter func142,ntmps142;go_wp2;go_ret;exact ⟨rfl,aq _ _⟩
def tE (w:World) (W H:Nat) (c:Value) (m:Nat->Int) (L:List Int) (k:Nat) (wr:World):Prop :=
 ∃b a,wr.heap[w.heap.size+3]?=some (.cells #[Z G W,Z G H,J b k a] 54 (0,0))/\wr.ownsRow w.heap.size 3 1 (J b k a) k ((L.take k).map (Z .i64))/\wr.heap[w.heap.size]?=some (.cells #[Z G W,Z G H,c] 54 (0,0))/\wr.heap[w.heap.size+2]?=some (.cells #[Z G 0,Z G 0,J none 0 0] 54 (0,0))/\wr.heap[w.heap.size+1]?=some (.cells (jf m) 47 (0,0))/\Below w.heap.size w wr
theorem Bq (W H p:Nat) (hW1:1<=W) (hW:W<=64) (hH:H<=64) (hp:p<=3) (v:Value) (zs:List Int) (m:Nat->Int) (hm:∀k,k<3->0<=m k/\m k<=65535) (hlen:zs.length=H*W) (hzs:az 0 65535 zs=true) (w:World) (hv:ap w v zs) :
  Calls prog 83 #[.agg #[Z G W,Z G H,v],Z G p,.agg (jf m)] w fun e w'=>∃r,e=.returned (.agg #[Z G W,Z G H,r])/\ap w' r ((zl zs.length).map (gF zs W p m))/\Below w.heap.size w w'/\ar w.heap.size r:=by
 have HZS:=qH hzs;have HMM:=qH hm;have hlb:zs.length<=4096:=by rw[hlen];exact kG (zB hH hW) dD
 have hLL:((zl zs.length).map (gF zs W p m)).length=zs.length:=sS;have HLG:=qH (show ∀j,j<zs.length->((zl zs.length).map (gF zs W p m))[j]?=some (gF zs W p m j) from fun j K=>by simp[K]);obtain ⟨L,hL⟩:=eX ((zl zs.length).map (gF zs W p m));rw[hL] at hLL HLG |-;have N:=qH hLL;clear hL hLL hzs hlen hm;obtain ⟨V,ca,rfl,hla,I⟩:=hv;have HC:=qH (show ∀j,j<zs.length->∃d off,V=some ⟨d,off,none⟩/\d<w.heap.size/\w.cell? ⟨d,off+j,none⟩=some (Z G (aN zs j)) from fun j K=>by
  rcases I with h|⟨b,off,h1,h2,h3⟩
  ·subst h;simp at K
  ·have:=h3 j K;rw[tu zs j K] at this;exact ⟨b,off,h1,h2,this⟩)
 clear I;obtain ⟨i0,hi,hz0,hz1,hz2⟩:=info_parts Tryz.infoInt;go_enter func83,ntmps83;go_wp2_with fail
 obtain ⟨a1,a2,a3,a4,hB⟩:=jM w (kc #[Z G W,Z G H,J V zs.length ca] 54) (kc (jf m) 47) (kc #[Z G 0,Z G 0,J none 0 0] 54) (kc #[Z G W,Z G H,J none 0 0] 54);generalize (((w.alloc _).alloc _).alloc _).alloc _=U at *;go_loopw [8] (fun i wr=>∃k:Nat,k<=zs.length/\i=Z G k/\tE w W H (J V zs.length ca) m L k wr) (fun i _=>zs.length-(intOf i).toNat)
 case atStart=>exact ⟨0,xe _,rfl,none,0,a4,World.ownsRow_nil _ _ _ _,a1,a3,a2,hB⟩
 case round =>
  clear a1 a2 a3 a4 hB;obtain ⟨k,hk,rfl,t,s,M,l,A,B,C,E⟩:=hrel;obtain ⟨q0,q1,q2⟩:=al A;by_cases hlt:k<zs.length
  ·have hd:decide ((k:Int)<(zs.length:Int))=true:=sO;have hlI:(k:Int)<(zs.length:Int):=oM;obtain ⟨d,off,rfl,hbl,P⟩:=HC.1 k hlt;have x:=qH (show gF zs W p m k=bQ (aN zs k*m (ce p (k % W) (k / W)) / 256) from rfl);have hXW:k % W<W:=Nat.mod_lt _ oM;have hYl:k / W<=4096:=kG (Nat.div_le_self _ _) oM;have hm1:(k:Int).tmod (W:Int)=((k % W:Nat):Int):=rfl;have hm2:(k:Int) % (W:Int)=((k % W:Nat):Int):=rfl;have hd1:(k:Int).tdiv (W:Int)=((k / W:Nat):Int):=rfl;have hd2:(k:Int) / (W:Int)=((k / W:Nat):Int):=rfl;obtain ⟨X,hX⟩:=eX (k % W);obtain ⟨Y,hY⟩:=eX (k / W);rw[hX] at hm1 hm2 hXW x;rw[hY] at hd1 hd2 hYl x;have hW0:¬(W=0):=oM;have hwz:((W:Int) == 0)=false:=(by rw[beq_eq_false_iff_ne];omega);have hwX:IntKind.i64.wrap (X:Int)=(X:Int):=kv _ oM;have hwY:IntKind.i64.wrap (Y:Int)=(Y:Int):=kv _ oM;have HCO:=qH (fun u=>qY p X Y hp oM hYl u);have hq3:=un p X Y;obtain ⟨c,I⟩:=eX (ce p X Y);rw[I] at HCO x hq3;have hcI:(c:Int)<3:=oM;obtain ⟨hg0,hg1⟩:=HMM.1 c hq3;have R:∀u:World,u.heap[w.heap.size+1]?=some (.cells (jf m) 47 (0,0))->u.cell? ⟨w.heap.size+1,c,none⟩=some (Z G (m c)):=fun u h=>(by rw[kh h,td m c hq3]);obtain ⟨F,hgn⟩:=eX (m c);rw[hgn] at x hg0 hg1 R;have hzr:=jK HZS.1 k;obtain ⟨z,hz⟩:=eX (aN zs k);rw[hz] at x hzr P;obtain ⟨hzr1,hzr2⟩:=hzr;have hn0:0<=z*F:=Int.mul_nonneg hzr1 hg0;have hn1:z*F<=65535*65535:=Int.mul_le_mul hzr2 hg1 hg0 oM;obtain ⟨n,hn⟩:=eX (z*F);rw[hn] at x hn0 hn1;have hq0:=Int.tdiv_eq_ediv_of_nonneg (b:=256) hn0;obtain ⟨q,hq⟩:=eX (n / 256);rw[hq] at x hq0;have hwn:IntKind.i64.wrap n=n:=kv _ oM;have hwq:IntKind.i64.wrap q=q:=kv _ oM;obtain ⟨y,hy⟩:=eX (bQ q);rw[hy] at x;have HCL:=qH (fun u=>mK q u);rw[hy] at HCL;have HST:=qH (show (L.take (k+1)).map (Z .i64)=(L.take k).map (Z .i64)++[Z G y] by
    have hk2:k<L.length:=(by rw[N.1];exact hlt);have hg:=HLG.1 k hlt;rw[List.getElem?_eq_getElem hk2] at hg;rw[xa hk2,Option.some.inj hg,zo,x.1];rfl)
   obtain ⟨XS,hXS⟩:=eX ((L.take k).map (Z .i64));rw[hXS] at l HST;have hbW:=E.size;have HL1:=qH (show k+1<=maxLen from uO);have HL2:=qH (show (k+1)*8<=140737488355328 from oM);clear hX hY I hz hgn hy hXS;have S:=qH (show ∀v,Below wr.heap.size wr v->v.cell? ⟨w.heap.size+1+1+1,2,none⟩=some (J t k s)/\v.cell? ⟨w.heap.size,0,none⟩=some (Z G W)/\v.cell? ⟨w.heap.size,2,none⟩=some (J (some ⟨d,off,none⟩) zs.length ca)/\v.cell? ⟨d,off+k,none⟩=some (Z G z)/\v.cell? ⟨w.heap.size+1,c,none⟩=some (Z G F) from fun v h=>by
    obtain ⟨_,_,t2⟩:=al ((h.block (w.heap.size+3) (lS M)).trans M);obtain ⟨y0,_,y2⟩:=al ((h.block _ (lS A)).trans A);exact ⟨t2,y0,y2,((E.trans (h.mono E.size)).cell (p:=⟨d,off+k,none⟩) hbl).trans P,R _ ((h.block _ (lS C)).trans C)⟩)
   have nq:=aW l A dD;have nb:some d≠(J t k s).ownBlock:=fun e=>(by have:=(l.lt d e.symm).1;omega);have HTL:=qH (show ∀(T:World) (D cap:Nat) (g:World),Below wr.heap.size wr T->T.grownBy g (J t k s).ownBlock->g.ownsRow w.heap.size 3 1 (J (some ⟨D,0,none⟩) (k+1) cap) (k+1) (XS++[Z G y])->(g.cell? ⟨w.heap.size+1+1+1,2,none⟩=some (J t k s)/\g.cell? ⟨w.heap.size,0,none⟩=some (Z G W)/\g.cell? ⟨w.heap.size,2,none⟩=some (J (some ⟨d,off,none⟩) zs.length ca)/\g.cell? ⟨d,off+k,none⟩=some (Z G z)/\g.cell? ⟨w.heap.size+1,c,none⟩=some (Z G F))/\g.frozen? ⟨w.heap.size+1+1+1,2,none⟩=false/\tE w W H (J (some ⟨d,off,none⟩) zs.length ca) m L (k+1) (g.setCell ⟨w.heap.size+1+1+1,2,none⟩ (J (some ⟨D,0,none⟩) (k+1) cap)) from fun T D cap g h1 h2 h3=>by
    obtain ⟨t1,t2,t3,t4,t5,t6,t7⟩:=jj dD M l E (ko _) oM h1 h2 h3;obtain ⟨y0,_,y2⟩:=al ((t1 _ (lS A) nq).trans A);have kb:=t1 d oM nb;have n6:=aW l C dD;exact ⟨⟨t2,y0,y2,(World.cell?_of_block (a:=⟨d,off+k,none⟩) kb).trans ((E.cell (p:=⟨d,off+k,none⟩) hbl).trans P),R _ ((t1 _ (lS C) n6).trans C)⟩,t3,some ⟨D,0,none⟩,cap,t4,by rw[HST.1];exact t5,(t7 _ (lS A) nq oM).trans A,(t7 _ (lS B) (aW l B dD) oM).trans B,(t7 _ (lS C) n6 oM).trans C,t6⟩)
   have Q:Below wr.heap.size wr wr.drew:=(kw _ _).drew;clear R;(go_wp2_with fail);have hSd:=S.1 _ Q;clear P q0 q1 q2 hd M A B C;refine cE 25 S.1 ?_;refine ct 0 ?_;refine ct 2 ?_;refine ct 4 ?_;refine ct 7 ?_;refine ct 8 ?_;refine ct 9 ?_;refine ct 12 ?_;refine ct 13 ?_;refine ct 1 ?_;refine ct 3 ?_;refine ct 10 ?_;refine ct 14 ?_;refine ct 5 ?_;refine ct 11 ?_;refine ct 15 ?_;refine ct 6 ?_;refine aw 16 fun O f=>?_;go_simp;refine (HCO.1 _).mono ?_;rintro e Vx ⟨rfl,rfl⟩;have hSd:=hSd;refine f.out _ _ hSd ?_;clear f;(try simp only[km]);refine ct 17 ?_;refine ct 18 ?_;refine ct 19 ?_;refine ct 20 ?_;refine aw 21 fun O f=>?_;go_simp;refine (HCL.1 _).mono ?_;rintro e Vy ⟨rfl,rfl⟩;have hSd:=hSd;refine f.out _ _ hSd ?_;clear f;(try simp only[km]);refine aw 22 fun O f=>?_;go_simp;have hBs:Below wr.heap.size wr (wr.drew.alloc (kc #[Z G y] 3)):=Q.alloc Q.size _;have hSd:=S.1 _ hBs;refine f.out _ _ hSd ?_;clear f;(try simp only[km]);refine eZ (i:=23) (o:=_) kR rfl (fun O f=>?_);refine step_append_lies _ rfl _ _ 52 rfl w.heap.size 3 i0 (Z G 0) 1 8 underlying52 hi hz0 hz1 hz2 rfl dD (J t k s) k XS rfl ((cT l Q).alloc _) ⟨wr.drew.heap.size,0,none⟩ 1 1 [Z G y] rfl rfl (World.news_of_block (aD wr.drew _)) (fun u hu=>by simp at hu;subst hu;rfl) zO HL1.1 HL2.1 (kG hbW hBs.size) _ rfl ?_;intro D cap g hown hgrow hat hltg;obtain ⟨hSx,p2f,HFIN⟩:=HTL.1 _ D cap g hBs hgrow hown;have hSd:=hSx;refine f.out _ _ hSd ?_;clear f;(try simp only[km]);refine ct 24 ?_;refine aS fun O f=>?_;go_simp;refine f.out _ _ ?_;clear f;(try simp only[km]);go_wp2;go_roundw
   case rel=>exact ⟨k+1,oM,gN,HFIN⟩
   case measure=>simp[intOf];omega
  ·have hd:decide ((k:Int)<(zs.length:Int))=false:=sO;obtain rfl:k=zs.length:=oM;rw[yb (by rw[N.1];exact ko _)] at l;obtain ⟨p0,p1,p2⟩:=al (b:=w.heap.size+1+1+1) M;obtain ⟨z0,z1,z2⟩:=al (b:=w.heap.size+1+1) B;have f0:=kd (b:=w.heap.size+1+1) B 0;have f1:=kd (b:=w.heap.size+1+1) B 1;have f2:=kd (b:=w.heap.size+1+1) B 2;have HFI:=qH (bf E (show w.heap.size<=w.heap.size+1+1 from oM) (Z G (W:Nat)) (Z G (H:Nat)) (J t zs.length s));have hpx:ap wr (J t zs.length s) L:=ap.own (base:=w.heap.size) (xs:=L) (v:=J t zs.length s) (by rw[N.1];exact l) (by rw[N.1];omega);have hne:(J t zs.length s).ownBlock≠some (w.heap.size+1+1):=fun e=>aW l B dD e.symm;have HX:=qH (hpx.other (gK wr (w.heap.size+1+1) (Z G (W:Nat)) (Z G (H:Nat)) (J t zs.length s)) (fun b hb=>eL _ _ _ _ _ b hb) hne);have HF:=qH (ar.own l);clear hpx hne;go_wp2;exact bodyPost_ret (v:=.agg #[Z G (W:Nat),Z G (H:Nat),J t zs.length s]) (by simp[results,results83,go_sem,z0,z1,z2]) rfl ⟨_,rfl,HX.1,HFI.1,HF.1⟩
def fX (X i:Nat):Int:=(X:Int)-1+(i % 3:Nat)
def fY (Y i:Nat):Int:=(Y:Int)-1+(i / 3:Nat)
def jS (W H p X Y c i:Nat):Prop:=bc W H (fX X i) (fY Y i)=true/\ce p (fX X i).toNat (fY Y i).toNat=c
instance (W H p X Y c i:Nat):Decidable (jS W H p X Y c i):=by unfold jS;infer_instance
def fS (zs:List Int) (W H p X Y c i:Nat):Int:=if jS W H p X Y c i then aN zs ((fY Y i).toNat*W+(fX X i).toNat) else 0
def fN (W H p X Y c i:Nat):Int:=if jS W H p X Y c i then 1 else 0
def fQ (zs:List Int) (W H p X Y c:Nat):Int:=a8 (fS zs W H p X Y c) 9 / max (a8 (fN W H p X Y c) 9) 1
theorem lM (g:Nat->Int) (m n:Nat) (h:m<=n) (a:∀i,m<=i->i<n->g i=0):a8 g n=a8 g m:=by
 induction n with
 | zero=>rw[show m=0 from oM]
 | succ n ih =>
  by_cases c:m=n+1
  ·rw[c]
  ·simp only[a8];rw[a n oM oM,ih oM (fun i b d=>a i b oM),Int.add_zero]
theorem pd (zs:List Int) {W H p X Y c i:Nat} (h:¬(0<=fX X i/\fX X i<W/\0<=fY Y i/\fY Y i<H)):fS zs W H p X Y c i=0:=by
 rw[fS,if_neg];rintro ⟨a,_⟩;exact h (by simpa [bc] using a)
theorem pa {W H p X Y c i:Nat} (h:¬(0<=fX X i/\fX X i<W/\0<=fY Y i/\fY Y i<H)):fN W H p X Y c i=0:=by
 rw[fN,if_neg];rintro ⟨a,_⟩;exact h (by simpa [bc] using a)
theorem uM {zs:List Int} (h:az 0 65535 zs=true) (W H p X Y c i:Nat):0<=fS zs W H p X Y c i/\fS zs W H p X Y c i<=262140:=by
 have:=jK h ((fY Y i).toNat*W+(fX X i).toNat);unfold fS;split<;>omega
theorem uL (W H p X Y c i:Nat):0<=fN W H p X Y c i/\fN W H p X Y c i<=1:=by unfold fN;split<;>omega
theorem xT {g:Nat->Int} (h:∀n,0<=g n/\g n<=1) (n:Nat):0<=a8 g n/\a8 g n<=n:=by
 induction n with
 | zero=>simp[a8]
 | succ n ih =>
  obtain ⟨a,b⟩:=h n;obtain ⟨c,d⟩:=ih;refine ⟨?_,?_⟩<;>(simp only[a8];omega)
theorem Cr (zs:List Int) (W H p X Y c:Nat) (s:Int×Nat) (x:Fin 8) :
  (di zs W H (fB X) (cV Y) (ia p X Y c) s x).1=s.1+fS zs W H p X Y c (bu x.1)/\((di zs W H (fB X) (cV Y) (ia p X Y c) s x).2:Int)=(s.2:Int)+fN W H p X Y c (bu x.1):=by
 have a:(bc W H (fB X x) (cV Y x)=true/\ia p X Y c x=true)↔jS W H p X Y c (bu x.1):=by
  unfold jS ia;rw[decide_eq_true_iff];exact Iff.rfl
 unfold di fS fN;by_cases h:jS W H p X Y c (bu x.1)
 ·rw[if_pos (a.2 h),if_pos h,if_pos h];exact ⟨rfl,sS⟩
 ·rw[if_neg (fun e=>h (a.1 e)),if_neg h,if_neg h];exact ⟨sS,sS⟩
theorem Cq {N:Nat} (zs:List Int) (W H:Nat) (b c:Fin N->Int) (aj:Fin N->Bool) (a:List (Fin N)) (s:Int×Nat) (h:s.2=0->s.1=0) :
  (a.foldl (di zs W H b c aj) s).2=0->(a.foldl (di zs W H b c aj) s).1=0:=by
 induction a generalizing s with
 | nil=>exact h
 | cons x a ih =>
  simp only[List.foldl_cons];refine ih _ ?_;unfold di;split
  ·intro e;simp at e
  ·exact h
theorem Co {zs:List Int} {W H p X Y c:Nat} (g:ce p X Y≠c) :
  (mF zs W H (fB X) (cV Y) (ia p X Y c) (zv 8)).1=a8 (fS zs W H p X Y c) 9/\((mF zs W H (fB X) (cV Y) (ia p X Y c) (zv 8)).2:Int)=a8 (fN W H p X Y c) 9:=by
 have b:¬jS W H p X Y c 4:=by
  rintro ⟨_,h⟩;rw[show fX X 4=(X:Int) by unfold fX;omega,show fY Y 4=(Y:Int) by unfold fY;omega,Int.toNat_natCast,Int.toNat_natCast] at h;exact g h
 have d:fS zs W H p X Y c 4=0:=by rw[fS,if_neg b]
 have e:fN W H p X Y c 4=0:=by rw[fN,if_neg b]
 have f:zv 8=[0,1,2,3,4,5,6,7]:=dD;have a:=Cr zs W H p X Y c;rw[mF,f];simp only[List.foldl_cons,List.foldl_nil];constructor
 ·rw[(a _ _).1,(a _ _).1,(a _ _).1,(a _ _).1,(a _ _).1,(a _ _).1,(a _ _).1,(a _ _).1];simp only[a8,d];simp only[show bu ((0:Fin 8):Nat)=0 from rfl,show bu ((1:Fin 8):Nat)=1 from rfl,show bu ((2:Fin 8):Nat)=2 from rfl,show bu ((3:Fin 8):Nat)=3 from rfl,show bu ((4:Fin 8):Nat)=5 from rfl,show bu ((5:Fin 8):Nat)=6 from rfl,show bu ((6:Fin 8):Nat)=7 from rfl,show bu ((7:Fin 8):Nat)=8 from rfl];omega
 ·rw[(a _ _).2,(a _ _).2,(a _ _).2,(a _ _).2,(a _ _).2,(a _ _).2,(a _ _).2,(a _ _).2];simp only[a8,e];simp only[show bu ((0:Fin 8):Nat)=0 from rfl,show bu ((1:Fin 8):Nat)=1 from rfl,show bu ((2:Fin 8):Nat)=2 from rfl,show bu ((3:Fin 8):Nat)=3 from rfl,show bu ((4:Fin 8):Nat)=5 from rfl,show bu ((5:Fin 8):Nat)=6 from rfl,show bu ((6:Fin 8):Nat)=7 from rfl,show bu ((7:Fin 8):Nat)=8 from rfl];simp
theorem wA {zs:List Int} {W H p X Y c:Nat}:ek zs W H p X Y c=if c=ce p X Y then aN zs (Y*W+X) else fQ zs W H p X Y c:=by
 unfold ek;by_cases h:ce p X Y=c
 ·rw[if_pos h,if_pos h.symm]
 ·rw[if_neg h,if_neg (fun e=>h e.symm)];obtain ⟨a,b⟩:=Co (zs:=zs) (W:=W) (H:=H) h;have d:=Cq zs W H (fB X) (cV Y) (ia p X Y c) (zv 8) (0,0) (fun _=>rfl);unfold gl fQ;rw[<-a,<-b];unfold mF;unfold mF at a b;generalize (zv 8).foldl (di zs W H (fB X) (cV Y) (ia p X Y c)) (0,0)=s at *;split
  ·rename_i hn;rw[d hn,Int.zero_ediv]
  ·rw[show max (s.2:Int) 1=s.2 from oM]
end Go.Proofs.YtfjeonehdlphiaaGreatDoor
