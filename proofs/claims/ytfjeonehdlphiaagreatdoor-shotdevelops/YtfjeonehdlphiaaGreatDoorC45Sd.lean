/- Part 45. -/
import Derived.Test.YtfjeonehdlphiaaGreatDoorC38Sd
import Derived.Test.YtfjeonehdlphiaaGreatDoorC44Sd
open Go.Obj renaming cells → ka
open List renaming setIfInBounds_toArray → kb, set_cons_zero → kc, set_cons_succ → kd
open Go.Act renaming put → kf
open Nat renaming le_refl → kh, lt_of_lt_of_le → km, mul_comm → ko, mul_le_mul → kv
open Go.Value renaming int → Z, slice → J
open Go.IntKind renaming i64 → G
set_option linter.unusedVariables false
set_option maxHeartbeats 6400000
set_option maxRecDepth 100000
namespace Go.Proofs.YtfjeonehdlphiaaGreatDoor
open Go.RowKit
open _root_.Go.Proofs.Tryz
theorem Gc (V:World) (t:TypeId) (f z:Value) (b:f.oneCell'=true):(store ⟨V.heap.size,0,none⟩ f).run prog (V.alloc (ka #[z] t))=.ok () ((V.alloc (ka #[z] t)).setRow V.heap.size #[f]):=by
 have a:=aD V (ka #[z] t);have c:(V.alloc (ka #[z] t)).cell? ⟨V.heap.size,0,none⟩=some z:=Lib.cell_of_heap a _;have d:=Lib.frozen_of_heap a 0;rw[run_store prog _ _ f _ b,c];simp[d,setCell_eq_setRow _ V.heap.size 0 _ t (0,0) f a]
theorem F0 (w:World) (hp:dI w):Calls prog 11 #[.string (lh iY)] w fun e w'=>Below w.heap.size w w'/\∃r,e=.returned (.tuple #[.agg #[Z G (1:Nat),Z G (1:Nat),r],.bool true,Z G 0])/\ax w' r (od true mh (1*1))/\ar w.heap.size r:=by
 have HH:=qH (fun (u:World) (hu:Below w.heap.size w u)=>BH u (hp.below hu (kh _)));obtain ⟨a1,HB⟩:=d9 w (ka #[Z G 0,Z G 0,J none 0 0] 24);have hl1:=lS a1;clear hp;go_enter func11,ntmps11;go_wp2_with fail
 generalize w.alloc _=U at *;refine (HH.1 U HB.1).mono ?_;clear HH;rintro e b ⟨he,ab⟩;have g1:=(ab.block _ hl1).trans a1;have HB1:=qH (aG HB.1 ab);have HSZ:=qH (show w.heap.size<b.heap.size from km hl1 ab.size);clear ab a1 HB hl1;obtain ⟨x,y,d,L,ad,ae,ac,aa⟩:∃(x y:Nat) (d:Bool) (L:List UInt8),x=1/\y=1/\d=true/\L=mh:=⟨_,_,_,_,rfl,rfl,rfl,rfl⟩;have h2:x<=64:=oM;have h4:y<=64:=oM;have HXX:=qH (And.intro ad (And.intro ae (And.intro ac aa)));have hLL2:L.length=B6 d*(3*x*y):=by rw[ad,ae,ac,aa];rfl
 rw[show (Ending.returned (.tuple #[.agg #[Z G (1:Nat),Z G (1:Nat),Z G (cw true:Nat)],.string (lh mh),.bool true]))=.returned (.tuple #[.agg #[Z G x,Z G y,Z G (cw d:Nat)],.string (lh L),.bool true]) by rw[ad,ae,ac,aa]] at he;subst he;clear ad ae ac aa;have hxy:x*y<=64*64:=kv h2 h4;have hN3:3*x*y<=12288:=by rw[Nat.mul_assoc];omega
 have hZ2:B6 d<=2:=by unfold B6;cases d<;>decide
 have hZM:B6 d*(3*x*y)<=24576:=Nat.le_trans (kv hZ2 hN3) oM;have HSI:=qH (fun u=>F1 x y d h2 h4 u);have HDP:=qH (fun u=>ri x y (cw d:Nat) u);have HDE:=qH (rL d);have hLs:(lh L).size=L.length:=bn L;have HPX:=qH (fun (j X Y Bh Bl Bg Bf:Nat) (u:World) hh hl hg hf (hj:Y*x+X=j) (hk:B6 d*(3*j+2)+B6 d<=L.length) (hL:L.length<=100000) (hj4:j<=4096)=>DP x y X Y j d L Bh Bl Bg Bf u hh hl hg hf hj hk hL hj4);have HPI:=qH (show ∀N,od d L N=(List.range N).map (oh d L) from fun _=>rfl);generalize hC:((cw d:Nat):Int)=C at *;clear hC;obtain ⟨T,W,HB2⟩:=gr b (ka #[Z G x,Z G y,Z G C] 82) (ka #[.string (lh L)] 9);go_upto_region 2 with fail
 generalize (b.alloc _).alloc _=X at *;have l1:=lS T;have l2:=lS W;have m:=qH (show ∀v,Below X.heap.size X v->(fun v=>Below X.heap.size X v/\v.cell? ⟨b.heap.size+1,0,none⟩=some (.string (lh L))/\v.cell? ⟨b.heap.size,0,none⟩=some (Z G x)/\v.cell? ⟨b.heap.size,1,none⟩=some (Z G y)/\v.cell? ⟨b.heap.size,2,none⟩=some (Z G C)) v from fun v f=>by
  obtain ⟨E,F,q2⟩:=al ((f.block _ l1).trans T);exact ⟨f,Lib.cell_of_heap ((f.block _ l2).trans W) _,E,F,q2⟩)
 have hSd:(fun v=>Below X.heap.size X v/\v.cell? ⟨b.heap.size+1,0,none⟩=some (.string (lh L))/\v.cell? ⟨b.heap.size,0,none⟩=some (Z G x)/\v.cell? ⟨b.heap.size,1,none⟩=some (Z G y)/\v.cell? ⟨b.heap.size,2,none⟩=some (Z G C)) X.drew:=m.1 _ (jk X);obtain ⟨a,hZ⟩:=eX (B6 d*(3*x*y));rw[hZ] at hLL2 hZM HSI;have HZ:=qH hZ;clear hZ;obtain ⟨SL,K⟩:=eX (lh L);have HSL:=qH K;have hne:=hLL2;clear hLL2;have hnb:((SL.size:Int) != (a:Int))=false:=by rw[<-K,hLs];simp;omega
 have hnb2:(SL.size != a)=false:=by rw[<-K,hLs];simpa using hne
 have HLZ:=qH hne;rw[K] at hSd m |-;clear K hne hLs;refine dR (S:=(fun v=>Below X.heap.size X v/\v.cell? ⟨b.heap.size+1,0,none⟩=some (.string SL)/\v.cell? ⟨b.heap.size,0,none⟩=some (Z G x)/\v.cell? ⟨b.heap.size,1,none⟩=some (Z G y)/\v.cell? ⟨b.heap.size,2,none⟩=some (Z G C))) 8 ?_;refine ak 0 ?_ (p:=[2,1]);refine ak 1 ?_ (p:=[2]);refine ak 2 ?_;refine ak 3 ?_ (p:=[7,4]);refine ak 5 ?_ (p:=[7,6]);refine ak 4 ?_ (p:=[7]);refine aw 6 fun z c=>?_;go_simp;refine (HSI.1 _).mono ?_;rintro e s ⟨rfl,hb2⟩;have hSd:=m.1 _ (aG hSd.1 hb2);refine c.out _ _ hSd ?_;clear c;try simp only[kf]
 refine ak 7 ?_;refine aS fun z c=>?_;go_simp;refine c.out _ _ ?_;clear c;try simp only[kf]
 have A:=hSd.1;obtain ⟨_,_,E,F,q2⟩:=hSd;have lB2:=HB2.1.size;have n:=(A.block _ (km HSZ.1 lB2)).trans ((HB2.1.block _ HSZ.1).trans g1);have k:=(A.block _ l1).trans T;have q:=(A.block _ l2).trans W;have H:=qH (aG (aG HB1.1 HB2.1) A);have hsz2:=A.size;clear A hb2 m T W g1;have hst:=Gc s 93 (.func (.func 38) #[] #[.pointer (some ⟨b.heap.size,0,none⟩),.pointer (some ⟨b.heap.size+1,0,none⟩)]) .nilFunc rfl;have I:=setRow_heap _ _ _ #[(.func (.func 38) #[] #[.pointer (some ⟨b.heap.size,0,none⟩),.pointer (some ⟨b.heap.size+1,0,none⟩)])] _ _ (aD s (ka #[.nilFunc] 93));have O:=below_setRow (g:=s.heap.size) (aq s (ka #[.nilFunc] 93)) (kh _) #[(.func (.func 38) #[] #[.pointer (some ⟨b.heap.size,0,none⟩),.pointer (some ⟨b.heap.size+1,0,none⟩)])];have D:=lS k;have R:=lS q;have t:=lS n;replace k:=(O.block _ D).trans k;replace q:=(O.block _ R).trans q;replace n:=(O.block _ t).trans n;replace H:=qH (aG H.1 O);go_upto_region 5 with fail
 clear hst;generalize (s.alloc (ka #[.nilFunc] 93)).setRow s.heap.size #[(.func (.func 38) #[] #[.pointer (some ⟨b.heap.size,0,none⟩),.pointer (some ⟨b.heap.size+1,0,none⟩)])]=l at *;generalize s.heap.size=FB at *;have le1:=lS I;obtain ⟨n0,n1,n2⟩:=al k;obtain ⟨y1,B⟩:=lV l (ka #[Z G x,Z G y] 95);replace D:=lS k;replace R:=lS q;replace t:=lS n;have hn1:l.heap.size≠w.heap.size:=oM;replace k:=(B.block _ D).trans k;replace q:=(B.block _ R).trans q;replace n:=(B.block _ t).trans n;replace I:=(B.block _ le1).trans I;replace H:=qH (aG H.1 B);clear O E F q2 B;go_upto_region 6 with fail
 clear n0 n1 n2;generalize l.alloc _=Y at *;replace D:=lS k;replace R:=lS q;replace t:=lS n;replace le1:=lS I;have ly1:=lS y1;have m:=qH (show ∀v,Below Y.heap.size Y v->(fun v=>v.heap[l.heap.size]?=some (.cells #[Z G x,Z G y] 95 (0,0))/\v.heap[b.heap.size]?=some (.cells #[Z G x,Z G y,Z G C] 82 (0,0))) v from fun v f=>⟨(f.block _ ly1).trans y1,(f.block _ D).trans k⟩);have hSd:(fun v=>v.heap[l.heap.size]?=some (.cells #[Z G x,Z G y] 95 (0,0))/\v.heap[b.heap.size]?=some (.cells #[Z G x,Z G y,Z G C] 82 (0,0))) Y.drew:=m.1 _ (jk Y);have hn2:b.heap.size≠w.heap.size:=by have:=HSZ.1;omega
 have HGP:=qH (fun (V:World) (hV:Below Y.heap.size Y V)=>pm x y (y*x) h2 h4 rfl 41 #[.pointer (some ⟨l.heap.size,0,none⟩),.pointer (some ⟨FB,0,none⟩)] (oh d L) V (enters_of func41 kR rfl) (fun j V' hj hV'=>by
  have f:=aG hV hV';have r1:=(f.block _ D).trans k;have r2:=(f.block _ R).trans q;have r3:=(f.block _ ly1).trans y1;have r4:=(f.block _ le1).trans I;have hjx:j / x*x+j % x=j:=by rw[ko];exact Nat.div_add_mod j x
  have hj4:j<4096:=by have:=ko y x;omega
  have hlen:B6 d*(3*j+2)+B6 d<=L.length:=by
   rw[HLZ.1,<-HZ.1,show 3*x*y=3*(y*x) by rw[Nat.mul_assoc,ko x y]];have:B6 d*(3*j+2)+B6 d=B6 d*(3*j+3):=(by rw[<-Nat.mul_succ]);rw[this];exact Nat.mul_le_mul_left _ oM
  exact HPX.1 j (j % x) (j / x) b.heap.size (b.heap.size+1) l.heap.size FB V' r1 r2 r3 r4 hjx hlen (by rw[HLZ.1];omega) oM))
 rw[<-HPI.1] at HGP;refine dR (S:=(fun v=>v.heap[l.heap.size]?=some (.cells #[Z G x,Z G y] 95 (0,0))/\v.heap[b.heap.size]?=some (.cells #[Z G x,Z G y,Z G C] 82 (0,0)))) 7 ?_;refine dS (i:=0) (oi:=_) (v:=?vv75) (some 32) [] rfl rfl kR kR kR kR kR (fun _ _ _ h=>h) (Or.inl ⟨rR,?yy75⟩) hSd ?rr75
 case yy75=>(intro wq M;obtain ⟨P,Q⟩:=M;obtain ⟨E,F⟩:=bL P;obtain ⟨r0,r1,r2⟩:=al Q;go_simp<;>with_reducible rfl)
 simp only[kf,kb,kd,kc];refine dS (i:=1) (oi:=_) (v:=?vv76) (some 33) [] rfl rfl kR kR kR kR kR (fun _ _ _ h=>h) (Or.inl ⟨rR,?yy76⟩) hSd ?rr76
 case yy76=>(intro wq M;obtain ⟨P,Q⟩:=M;obtain ⟨E,F⟩:=bL P;obtain ⟨r0,r1,r2⟩:=al Q;go_simp<;>with_reducible rfl)
 simp only[kf,kb,kd,kc];refine dS (i:=3) (oi:=_) (v:=?vv77) (some 35) [] rfl rfl kR kR kR kR kR (fun _ _ _ h=>h) (Or.inl ⟨rR,?yy77⟩) hSd ?rr77
 case yy77=>(intro wq M;obtain ⟨P,Q⟩:=M;obtain ⟨E,F⟩:=bL P;obtain ⟨r0,r1,r2⟩:=al Q;go_simp<;>with_reducible rfl)
 simp only[kf,kb,kd,kc];refine aw 2 fun z c=>?_;go_simp;refine (HGP.1 _ (jk Y)).mono ?_;rintro e W1 ⟨r,rfl,hr,hbv,hfr⟩;have HR:=qH hr;obtain ⟨ro,rc,rfl,x1,x2⟩:=hr;clear x1 x2;rw[DL] at HR hfr |-;have hW1:=aG (jk Y) hbv;have hSd:=m.1 _ hW1;refine c.out _ _ hSd ?_;clear c;try simp only[kf]
 refine aw 4 fun z c=>?_;go_simp;refine (HDP.1 _).mono ?_;rintro e W2 ⟨rfl,hb9⟩;have hW2:=aG hW1 hb9;have HR2:=qH (HR.1.below hb9 (kh _));have hSd:=m.1 _ hW2;refine c.out _ _ hSd ?_;clear c;try simp only[kf]
 refine eZ (i:=5) (o:=_) kR rfl (fun z c=>?_);have hz:=(hW2.block _ t).trans n;obtain ⟨z0,z1,z2⟩:=al hz;obtain ⟨f0,f1,f2⟩:=fZ hz;have HF:=qH (bf (aG H.1 hW2) (kh _) (Z G x) (Z G y) (J ro (y*x) rc));have HRF:=qH (HR2.1.set3 hfr (show w.heap.size<Y.drew.heap.size from t) (Z G x) (Z G y) (J ro (y*x) rc));rw[if_pos rR];go_simp;have hSd:=(show (fun (v:World)=>v.heap[l.heap.size]?=some (.cells #[Z G x,Z G y] 95 (0,0))/\v.heap[b.heap.size]?=some (.cells #[Z G x,Z G y,Z G C] 82 (0,0))) (((W2.setCell ⟨w.heap.size,0,none⟩ (Z G x)).setCell ⟨w.heap.size,1,none⟩ (Z G y)).setCell ⟨w.heap.size,2,none⟩ (J ro (y*x) rc)) from ⟨(eL _ _ _ _ _ _ hn1).trans hSd.1,(eL _ _ _ _ _ _ hn2).trans hSd.2⟩);refine c.out _ _ hSd ?_;clear c;try simp only[kf]
 refine aw 6 fun z c=>?_;go_simp;have hSd:=hSd;refine c.out _ _ hSd ?_;clear c;try simp only[kf]
 refine aS fun z c=>?_;go_simp;refine c.out _ _ ?_;clear c;try simp only[kf]
 go_wp2;refine bodyPost_ret (v:=.tuple #[.agg #[Z G x,Z G y,J ro (y*x) rc],.bool d,Z G 0]) (by simp[results,results11,go_sem,z0,z1,z2,HDE.1]) rfl (by obtain ⟨rfl,rfl,rfl,rfl⟩:=HXX.1;exact ⟨HF.1,_,rfl,HRF.1,hfr.mono (Nat.le_of_lt t)⟩)
end Go.Proofs.YtfjeonehdlphiaaGreatDoor
