/- Part 21. -/
import Derived.Test.YtfjeonehdlphiaaGreatDoorC20Sd
import Derived.Lib.Strings
open Nat renaming le_refl → ka, lt_of_lt_of_le → kb, zero_le → kc
open Go.Value renaming int → Z, slice → J
open Go.IntKind renaming i64 → G
set_option linter.unusedVariables false
set_option maxHeartbeats 800000
set_option maxRecDepth 100000
namespace Go.Proofs.YtfjeonehdlphiaaGreatDoor
open Go.RowKit
open _root_.Go.Proofs.Tryz
theorem Tryz.infoStr:(prog.info? 9).map (fun i=>(i.zero,i.size,i.bytes))=some (some (.string ⟨#[]⟩),1,16):=kR
def dr (w:World) (v:Value) (ts:List (List UInt8)):Prop :=
 ∃a cap,v=J a ts.length cap/\ts.length<=1000000/\(ts=[]\/∃b off,a=some ⟨b,off,none⟩/\b<w.heap.size/\∀j (h:j<ts.length),w.cell? ⟨b,off+j,none⟩=some (.string (lh ts[j])))
theorem dr.below {w w':World} {v:Value} {ts:List (List UInt8)} {B:Nat} (h:dr w v ts) (a:Below B w w') (e:w.heap.size<=B):dr w' v ts:=by
 obtain ⟨d,cap,l,k,h⟩:=h;refine ⟨d,cap,l,k,?_⟩;rcases h with h|⟨b,off,f,c,g⟩
 ·exact .inl h
 ·exact .inr ⟨b,off,f,kb c a.size,fun j i=>by rw[a.cell (p:=⟨b,off+j,none⟩) (by exact kb c e)];exact g j i⟩
theorem dr.nil (w:World):dr w (J none 0 0) []:=⟨none,0,rfl,sS,.inl rfl⟩
theorem dr.own {w:World} {base:Nat} {v:Value} {n:Nat} {f:Nat->List UInt8} (h:w.ownsRow base 9 1 v n (eW n f)) (d:n<=1000000):dr w v ((List.range n).map f):=by
 have a:((List.range n).map f).length=n:=sS;rcases h.2 with ⟨b,e⟩|⟨g,cap,k,b,_,i,_⟩
 ·exact ⟨none,0,by rw[b,a,e],by rw[a];exact d,.inl (by subst e;rfl)⟩
 ·refine ⟨_,cap,by rw[a];exact b,by rw[a];exact d,.inr ⟨g,0,rfl,(lS i),fun j c=>?_⟩⟩;subst b;rw[a] at c;rw[Nat.zero_add,h.cellAt j oM,my n f j c];simp
theorem yd (xs:List Int):eW xs.length (cA xs 0 0)=(madeCells (Value.string ⟨#[]⟩).cells (xs.length*1)).toList:=by
 rw[show (Value.string ⟨#[]⟩).cells=#[Value.string ⟨#[]⟩] from rfl,toList_madeCells_one];apply List.ext_getElem?;intro j;by_cases h:j<xs.length
 ·rw[my _ _ _ h,List.getElem?_replicate,if_pos oM,G9];rfl
 ·rw[List.getElem?_eq_none (by rw[nB];omega),List.getElem?_eq_none sO]
def nb (xs:List Int):Nat->Nat
 | 0=>0
 | t+1=>bF xs t xs.length
theorem yY (xs:List Int) (t:Nat):base xs t=2*nb xs t:=by
 cases t with
 | zero=>rfl
 | succ t=>exact vV xs t
theorem CV (xs:List Int) (t:Nat) (b:t<=15) (a:bN xs<=32768):nb xs t<=65536:=by
 cases t with
 | zero=>simp[nb]
 | succ t=>exact Nat.le_trans (r9 xs t _ oM a) (ic oM)
theorem rY (n size:Int) (N S:Nat) (d:n=N) (b:size=S) (a:S<=16) (c:N<2 ^ S) (w:World) :
  Calls prog 173 #[Z G n,Z G size] w (rT w (.tuple #[.string (lh (aL N S)),Z G 0])):=by
 subst d b;exact Dj N S a c w
theorem qG (v:Value) (xs:List Int) (w:World) (Q:ap w v xs) (A:aU xs=0) :
  Calls prog 176 #[v] w fun e w'=>∃r,e=.returned (.tuple #[r,Z G 0])/\dr w' r (aJ xs)/\Below w.heap.size w w':=by
 obtain ⟨hl1,hl2,L,hs1,P⟩:=fW A;obtain ⟨i0,d,hz0,hz1,hz2⟩:=info_parts Tryz.infoStr;have W:=qH Q;obtain ⟨Y,ca,rfl,hla,D⟩:=Q;obtain ⟨b,off,hao,hbl,E⟩:∃b off,Y=some ⟨b,off,none⟩/\b<w.heap.size/\∀j (h:j<xs.length),w.cell? ⟨b,off+j,none⟩=some (Z G xs[j]):=by
  rcases D with h|h
  ·subst h;exact absurd hl1 sS
  ·exact h
 subst hao;have T:=qH E;clear E D;have V:=qH L;clear L;have q:=qH P;clear hs1 P;go_enter func176,ntmps176;go_wp2_with (first|(go_at_call 120;refine (qX _ _ _ W.1).mono ?_;rintro e w1 ⟨rfl,rfl⟩)|(at_make;refine wpList_make_full _ rfl _ _ 55 rfl w.heap.size 9 i0 (.string ⟨#[]⟩) 1 underlying55 d hz0 hz1 .i64 .i64 _ _ xs.length rfl rfl rfl rfl (by rw[hz2];omega) uO (ka _) ?_;intro w1 O F))
 have B:Below w.heap.size w w1:=(Below.refl _ _).grown F (ka _) sS;have I:w1.ownsRow w.heap.size 9 1 (J (some ⟨w.heap.size,0,none⟩) xs.length xs.length) xs.length (eW xs.length (cA xs 0 0)):=by
  rw[show eW xs.length (cA xs 0 0)=(madeCells (Value.string ⟨#[]⟩).cells (xs.length*1)).toList from yd xs];exact O
 clear O F A;go_loopw [6,7] (fun x y wr=>∃t:Nat,t<=15/\y=Z G ((t:Int)+1)/\x=Z G (nb xs t:Nat) /\
   wr.ownsRow w.heap.size 9 1 (J (some ⟨w.heap.size,0,none⟩) xs.length xs.length) xs.length (eW xs.length (cA xs t 0))/\Below w.heap.size w wr)
  (fun _ y _=>16-(intOf y).toNat)
 case atStart=>exact ⟨0,oM,gN,rfl,I,B⟩
 case round =>
  obtain ⟨t,ht,rfl,rfl,o,s⟩:=hrel;clear I B;by_cases hlt:t<15
  ·have hd:decide ((t:Int)+1<=15)=true:=sO;have hnb:=CV xs t oM q.1;have S:=qH (yY xs t);have X:=qH (vW xs t);generalize hN:nb xs t=N at *;clear hN;go_wp2;go_loopw [6,25] (fun x i R=>∃k:Nat,k<=xs.length/\i=Z G k/\x=Z G (bF xs t k:Nat) /\
     R.ownsRow w.heap.size 9 1 (J (some ⟨w.heap.size,0,none⟩) xs.length xs.length) xs.length (eW xs.length (cA xs t k))/\Below w.heap.size w R)
    (fun _ i _=>xs.length-(intOf i).toNat)
   case atStart=>exact ⟨0,kc _,rfl,by rw[X.1,S.1];go_num,o,s⟩
   case round =>
    obtain ⟨k,hk,rfl,rfl,g,m⟩:=hrel;clear o s;have hfit:=r9 xs t k oM q.1;have hp16:=ic (n:=t+1) oM;by_cases f:k<xs.length
    ·have c1:=(m.cell (p:=⟨b,off+k,none⟩) hbl).trans (T.1 k f);by_cases a:xs[k]=(t:Int)+1
     ·have H:=pW xs t k oM q.1 f a;have l:=qH (show bF xs t (k+1)=bF xs t k+1 by rw[bF,bF,mM xs _ k f,if_pos a];omega);have c:=qH (yc xs.length (cA xs t k) (cA xs t (k+1)) k (aL (bF xs t k) (t+1)) (yr xs t k f a) (fun i _ d=>yp xs t k i d));have z:=g.cellAt k oM;rw[my _ _ _ f] at z;have f2:=g.frozenAt k;have heq:(xs[k] == (t:Int)+1)=true:=(by simpa using a);have U:=qH H;have hsz:=m.size;clear a;have hM:bF xs t k<=65536:=oM;clear hfit hp16 H;generalize bF xs t k=M at *;(go_wp2_with (go_at_call 173;refine (rY _ _ M (t+1) rfl oM oM U.1 _).mono ?_;rintro e w3 ⟨rfl,C⟩;have u:=cT g C;have c3:=(u.cellAt k oM).trans (g.cellAt k oM ▸ z);have f3:=u.frozenAt k));have K:=(u.stored k (.string (lh (aL M (t+1))))).1;rw[c.1] at K;go_roundw
      case rel=>exact ⟨k+1,oM,gN,by rw[l.1];go_num,K,(m.trans (C.mono hsz)).setCell (ka _) _⟩
      case measure=>simp[intOf];omega
     ·have l:=qH (show bF xs t (k+1)=bF xs t k by rw[bF,bF,mM xs _ k f,if_neg a];omega);have c:=qH (nA xs.length (cA xs t (k+1)) (cA xs t k) (fun i _=>yq xs t k i f a));have heq:(xs[k] == (t:Int)+1)=false:=(by simpa using a);clear a;go_wp2;go_roundw
      case rel=>exact ⟨k+1,oM,gN,by rw[l.1],by rw[c.1];exact g,m⟩
      case measure=>simp[intOf];omega
    ·obtain rfl:k=xs.length:=oM;have c:=qH (nA xs.length (cA xs (t+1) 0) (cA xs t xs.length) (fun i d=>yt xs t i d));have l:=qH (show nb xs (t+1)=bF xs t xs.length from rfl);go_wp2;go_roundw
     case rel=>exact ⟨t+1,oM,gN,by rw[l.1],by rw[c.1];exact g,m⟩
     case measure=>simp[intOf];omega
  ·obtain rfl:t=15:=oM;have c:=qH (nA xs.length (cA xs 15 0) (d8 xs) (fun i d=>yo xs i d V.1));rw[c.1] at o;have hT:=dr.own o oM;go_wp2;go_ret2;exact ⟨_,rfl,hT,s⟩
theorem yx (v:Value) (xs:List Int) (w:World) (b:ap w v xs) :
  Calls prog 176 #[v] w fun e w'=>∃r,e=.returned (.tuple #[r,Z G (aU xs)])/\dr w' r (if aU xs=0 then aJ xs else [])/\Below w.heap.size w w':=by
 by_cases a:aU xs=0
 ·rw[if_pos a,a];exact qG v xs w b a
 ·rw[if_neg a];have d:(aU xs != 0)=true:=by simpa using a
  clear a;have c:=qH b;clear b;go_enter func176,ntmps176;go_wp2_with (go_at_call 120;refine (qX _ _ _ c.1).mono ?_;rintro e w1 ⟨rfl,rfl⟩)
  go_ret2;exact ⟨_,rfl,dr.nil _,Below.refl _ _⟩
theorem sB (n size:Int) (N S:Nat) (d:n=N) (b:size=S) (a:S<=16) (c:N<65536) (w:World) :
  Calls prog 133 #[Z G n,Z G size] w (rT w (.string (lh (aL N S)))):=by
 subst d b;exact xt S N w a c
theorem tk (v:Value) (xs:List Int) (w:World) (hv:ap w v xs) (D:aU xs=0) :
  Calls prog 135 #[v] w fun e w'=>∃r,e=.returned r/\dr w' r (aJ xs)/\Below w.heap.size w w':=by
 obtain ⟨hl1,hl2,R,hs1,T⟩:=fW D;obtain ⟨i0,f,hz0,hz1,hz2⟩:=info_parts Tryz.infoStr;obtain ⟨ao,ca,rfl,hla,I⟩:=hv;obtain ⟨b,off,hao,hbl,K⟩:∃b off,ao=some ⟨b,off,none⟩/\b<w.heap.size/\∀j (h:j<xs.length),w.cell? ⟨b,off+j,none⟩=some (Z G xs[j]):=by
  rcases I with h|h
  ·subst h;exact absurd hl1 sS
  ·exact h
 subst hao;have Y:=qH K;clear K I;have HOK:=qH R;clear R;have HK:=qH T;clear hs1 T;go_enter func135,ntmps135;go_wp2_with (at_make;refine wpList_make_full _ rfl _ _ 55 rfl w.heap.size 9 i0 (.string ⟨#[]⟩) 1 underlying55 f hz0 hz1 .i64 .i64 _ _ xs.length rfl rfl rfl rfl (by rw[hz2];omega) uO (ka _) ?_;intro w1 S O)
 have F:Below w.heap.size w w1:=(Below.refl _ _).grown O (ka _) sS;have P:w1.ownsRow w.heap.size 9 1 (J (some ⟨w.heap.size,0,none⟩) xs.length xs.length) xs.length (eW xs.length (cA xs 0 0)):=by
  rw[show eW xs.length (cA xs 0 0)=(madeCells (Value.string ⟨#[]⟩).cells (xs.length*1)).toList from yd xs];exact S
 clear S O D;go_loopw [4,5,6] (fun z y A wr=>∃t N L:Nat,t<=15/\A=Z G ((t:Int)+1)/\z=Z G (N:Nat)/\y=Z G (L:Nat)/\L<=t/\N<=65536/\Hid (N*2 ^ (t+1-L)=base xs t) /\
   wr.ownsRow w.heap.size 9 1 (J (some ⟨w.heap.size,0,none⟩) xs.length xs.length) xs.length (eW xs.length (cA xs t 0))/\Below w.heap.size w wr)
  (fun _ _ A _=>16-(intOf A).toNat)
 case atStart=>exact ⟨0,0,0,oM,gN,rfl,rfl,oM,oM,by show _=_;simp[base],P,F⟩
 case round =>
  obtain ⟨t,N,L,ht,rfl,rfl,rfl,E,o,l,q,u⟩:=hrel;clear P F;by_cases hlt:t<15
  ·have hd:decide ((t:Int)+1<=15)=true:=sO;have HZ:=qH (vW xs t);go_wp2;go_loopw [4,5,7] (fun z y i V=>∃k N L:Nat,k<=xs.length/\i=Z G k/\z=Z G (N:Nat)/\y=Z G (L:Nat)/\L<=t+1/\N<=65536/\Hid (N*2 ^ (t+1-L)=bF xs t k) /\
     V.ownsRow w.heap.size 9 1 (J (some ⟨w.heap.size,0,none⟩) xs.length xs.length) xs.length (eW xs.length (cA xs t k))/\Below w.heap.size w V)
    (fun _ _ i _=>xs.length-(intOf i).toNat)
   case atStart=>exact ⟨0,N,L,kc _,rfl,rfl,rfl,oM,o,by show _=_;rw[l.out,HZ.1],q,u⟩
   case round =>
    obtain ⟨k,N,L,hk,rfl,rfl,rfl,E,o,l,g,m⟩:=hrel;clear q u;by_cases c:k<xs.length
    ·have c1:=(m.cell (p:=⟨b,off+k,none⟩) hbl).trans (Y.1 k c);by_cases a:xs[k]=(t:Int)+1
     ·have hnl:=pW xs t k oM HK.1 c a;have hp16:=ic (n:=t+1) oM;have s:=qH (show bF xs t (k+1)=bF xs t k+1 by rw[bF,bF,mM xs _ k c,if_pos a];omega);have d:=qH (yc xs.length (cA xs t k) (cA xs t (k+1)) k (aL (bF xs t k) (t+1)) (yr xs t k c a) (fun i _ f=>yp xs t k i f));have B:=g.cellAt k oM;rw[my _ _ _ c] at B;have f2:=g.frozenAt k;have heq:(xs[k] != (t:Int)+1)=false:=(by simpa using a);have hM:bF xs t k<65536:=oM;have hsz:=m.size;have U:wrap64 ((N:Int)*2 ^ (t+1-L))=(bF xs t k:Nat):=by
       rw[fL,<-Int.natCast_mul,l.out];exact IntWalk.wrap64_in _ oM
      clear a hnl hp16;generalize bF xs t k=M at *;have C:(t:Int)+1=((t+1:Nat):Int):=oM;have W:=qH C;have e2:t+1<=16:=oM;clear C;(go_wp2_with fail);(try rw[U]);clear U;refine (sB _ _ M (t+1) rfl W.1 e2 hM _).mono ?_;rintro e w3 ⟨rfl,H⟩;have x:=cT g H;have c3:=(x.cellAt k (by rw[Nat.mul_one];exact c)).trans (g.cellAt k (by rw[Nat.mul_one];exact c) ▸ B);have f3:=x.frozenAt k;go_wp2;have Q:=(x.stored k (.string (lh (aL M (t+1))))).1;rw[d.1] at Q;go_roundw
      case rel=>exact ⟨k+1,M+1,t+1,oM,gN,gN,gN,oM,oM,by show _=_;rw[s.1];simp,Q,(m.trans (H.mono hsz)).setCell (ka _) _⟩
      case measure=>simp[intOf];omega
     ·have s:=qH (show bF xs t (k+1)=bF xs t k by rw[bF,bF,mM xs _ k c,if_neg a];omega);have d:=qH (nA xs.length (cA xs t (k+1)) (cA xs t k) (fun i _=>yq xs t k i c a));have heq:(xs[k] != (t:Int)+1)=true:=(by simpa using a);clear a;go_wp2;go_roundw
      case rel=>exact ⟨k+1,N,L,oM,gN,rfl,rfl,E,o,by show _=_;rw[s.1,l.out],by rw[d.1];exact g,m⟩
      case measure=>simp[intOf];omega
    ·obtain rfl:k=xs.length:=oM;have d:=qH (nA xs.length (cA xs (t+1) 0) (cA xs t xs.length) (fun i f=>yt xs t i f));have X:=au (show N*2 ^ (t+1+1-L)=base xs (t+1) by
      rw[vV,<-l.out,show t+1+1-L=(t+1-L)+1 from oM,Nat.pow_succ,<-Nat.mul_assoc,Nat.mul_comm])
     go_wp2;go_roundw
     case rel=>exact ⟨t+1,N,L,oM,gN,rfl,rfl,oM,o,X,by rw[d.1];exact g,m⟩
     case measure=>simp[intOf];omega
  ·obtain rfl:t=15:=oM;have d:=qH (nA xs.length (cA xs 15 0) (d8 xs) (fun i f=>yo xs i f HOK.1));rw[d.1] at q;have hT:=dr.own q oM;go_wp2;go_ret;exact ⟨_,rfl,hT,u⟩
theorem Gw (d:Int) (r:-32768<d) (s:d<=32768) (C:Nat) (a:C=br d) (w:World) :
  Calls prog 182 #[Z G d,Z G C] w (rT w (.string (lh (cQ d)))):=by
 have t:=mL r s;rw[<-a] at t;by_cases q:C=0
 ·have c:=qH (show ⟨#[]⟩=lh (cQ d) by rw[cQ,if_pos (.inl (a ▸ q))];rfl);clear a;subst q;go_enter func182,ntmps182;go_wp2;go_ret;exact ⟨congrArg (fun x=>Ending.returned (.string x)) c.1,Below.refl _ _⟩
 by_cases m:C=16
 ·have c:=qH (show ⟨#[]⟩=lh (cQ d) by rw[cQ,if_pos (.inr (a ▸ m))];rfl);clear a;subst m;go_enter func182,ntmps182;go_wp2;go_ret;exact ⟨congrArg (fun x=>Ending.returned (.string x)) c.1,Below.refl _ _⟩
 have c:=qH (show lh (aL (iy d) C)=lh (cQ d) by rw[cQ,if_neg oM,<-a]);obtain ⟨i,b⟩:=sY d oM;rw[<-a] at i b;have j:=qH i;have o:=lO (n:=C) oM;have k:=ic (n:=C) oM;rw[fL] at b;have y:((C:Int) == 0)=false:=sO;have z:((C:Int) == 16)=false:=sO;clear a i;generalize iy d=N at *;by_cases f:d<0
 ·have u:decide (d<0)=true:=by simpa using f
  rw[if_pos f] at b;obtain ⟨p,l⟩:=eX (2 ^ C);rw[l] at b k o;have v:=qH l;go_enter func182,ntmps182;go_wp2_with fail
  refine (rY _ _ N C (by rw[b]) rfl oM j.1 _).mono ?_;rintro e w1 ⟨rfl,g⟩;go_wp2;go_ret;exact ⟨congrArg (fun x=>Ending.returned (.string x)) c.1,g⟩
 ·have u:decide (d<0)=false:=by simpa using f
  rw[if_neg f] at b;clear o k;go_enter func182,ntmps182;go_wp2_with fail
  refine (rY _ _ N C (by rw[b]) rfl oM j.1 _).mono ?_;rintro e w1 ⟨rfl,g⟩;go_wp2;go_ret;exact ⟨congrArg (fun x=>Ending.returned (.string x)) c.1,g⟩
end Go.Proofs.YtfjeonehdlphiaaGreatDoor
