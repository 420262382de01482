/- Part 27. -/
import Derived.Test.YtfjeonehdlphiaaGreatDoorC17Sd
import Derived.Test.YtfjeonehdlphiaaGreatDoorC19Sd
import Derived.Test.YtfjeonehdlphiaaGreatDoorC25Sd
open Go.Value renaming int → Z, slice → J
open Go.IntKind renaming i64 → G
set_option linter.unusedVariables false
set_option maxHeartbeats 3200000
set_option maxRecDepth 100000
namespace Go.Proofs.YtfjeonehdlphiaaGreatDoor
open Go.RowKit
open _root_.Go.Proofs.Tryz
theorem oQ (a b:Int) (m:Nat->Int) (n:Nat):az a b (dU m n)=true↔∀k,k<n->a<=m k/\m k<=b:=by
 constructor
 ·intro h k c;exact kV h k c
 ·intro h;refine List.all_eq_true.2 fun x d=>?_;obtain ⟨k,c,rfl⟩:=List.mem_map.1 d;exact decide_eq_true (h k (List.mem_range.1 c))
def jr (n:aA):Bool:=cW n.phase && decide (1<=n.white/\n.white<=65535) && decide ((n.spots.length:Int)<=64) && cP 64 64 n.spots && fJ n.matrix && fV n.amount
theorem DT (n:aA):cJ n=if jr n=true/\az 0 (n.white-1) (dU n.black 4)=true/\az 0 65535 (dU n.gains 3)=true then (if cY n.curve=true then 0 else 1) else 3:=by
 unfold cJ jr jE kr DE eD js;congr 1;simp only[Bool.and_eq_true];apply propext;constructor
 ·rintro ⟨⟨⟨⟨a,b,c⟩,d⟩,e,f⟩,g,h⟩;exact ⟨⟨⟨⟨⟨⟨a,b⟩,g⟩,h⟩,e⟩,f⟩,c,d⟩
 ·rintro ⟨⟨⟨⟨⟨⟨a,b⟩,g⟩,h⟩,e⟩,f⟩,c,d⟩;exact ⟨⟨⟨⟨a,b,c⟩,d⟩,e,f⟩,g,h⟩
theorem zF (n:aA) (sv cv:Value) (w:World) (hp:dH w n sv cv) :
  Calls prog 131 #[.agg (aO n sv cv)] w (rT w (Z G (cJ n))):=by
 have HP:=qH hp;obtain ⟨⟨lo,lc,rfl,hll,_⟩,⟨ko,kc,rfl,hkl,_⟩⟩:=hp;obtain ⟨F,b⟩:=d9 w (Obj.cells (aO n (J lo n.spots.length lc) (J ko n.curve.length kc)) 51);have D:=qH (DT n);obtain ⟨E,hE⟩:=eX (cJ n);rw[hE] at D |-;clear hE;have g:=qH (show jr n=(cW n.phase && decide (1<=n.white/\n.white<=65535) && decide ((n.spots.length:Int)<=64) && cP 64 64 n.spots && fJ n.matrix && fV n.amount) from rfl);have hph:decide (0<=n.phase/\n.phase<=3)=cW n.phase:=rfl;have ham:decide (0<=n.amount/\n.amount<=1024)=fV n.amount:=rfl;have u:=qH hph;have HAM:=qH ham;clear hph ham;go_enter func131,ntmps131;go_upto_region 1 with fail
 have hl1:=lS F;generalize w.alloc _=U at *;have C:=qH (fun (v:World) (h:Below U.heap.size U v)=>fl ((h.block _ hl1).trans F));go_cut [38] from 5 (fun s v=>s=.bool (!jr n)/\Below U.heap.size U v)
 case first =>
  obtain ⟨H,I,V,X,Y,c5,c6,c7,c8,c9,K,L,M,N,O,P,Q,R,S,T,W⟩:=C.1 U (Below.refl _ _);cases p1:cW n.phase
  ·have a:=qH (show true=!jr n by rw[g.1,p1];rfl);(go_wp2_with (go_at_call 33;refine (aI _ _ _ _).mono ?_;rintro e f ⟨rfl,rfl⟩;rw[u.1,p1]));go_meet
   case rel=>exact ⟨by rw[a.1],Below.refl _ _⟩
  ·cases p2:decide (1<=n.white/\n.white<=65535)
   ·have a:=qH (show true=!jr n by rw[g.1,p1,p2];rfl);(go_wp2_with (go_at_call 33;refine (aI _ _ _ _).mono ?_;rintro e f ⟨rfl,rfl⟩;first|rw[u.1,p1]|rw[p2]));go_meet
    case rel=>exact ⟨by rw[a.1],Below.refl _ _⟩
   ·by_cases p3:(n.spots.length:Int)<=64
    ·have q:decide (64<(n.spots.length:Int))=false:=sO;have z:decide ((n.spots.length:Int)<=64)=true:=(by simpa using p3);cases p4:cP 64 64 n.spots
     ·have a:=qH (show true=!jr n by rw[g.1,p1,p2,z,p4];rfl);(go_wp2_with (first|(go_at_call 33;refine (aI _ _ _ _).mono ?_;rintro e f ⟨rfl,rfl⟩;first|rw[u.1,p1]|rw[p2])|(go_at_call 132;refine (sR _ n.spots 64 64 oM oM _ (HP.1.spots.below b.1 (Nat.le_refl _))).mono ?_;rintro e f ⟨rfl,rfl⟩;rw[p4])));go_meet
      case rel=>exact ⟨by rw[a.1],Below.refl _ _⟩
     ·(go_wp2_with (first|(go_at_call 33;refine (aI _ _ _ _).mono ?_;rintro e f ⟨rfl,rfl⟩;first|rw[u.1,p1]|rw[p2])|(go_at_call 132;refine (sR _ n.spots 64 64 oM oM _ (HP.1.spots.below b.1 (Nat.le_refl _))).mono ?_;rintro e f ⟨rfl,rfl⟩;rw[p4])));refine (CG n.matrix _).mono ?_;rintro e V1 ⟨rfl,hb1⟩;clear H I V X Y c5 c6 c7 c8 c9 K L M N O P Q R S T W;cases p5:fJ n.matrix
      ·have a:=qH (show true=!jr n by rw[g.1,p1,p2,z,p4,p5];rfl);go_wp2;go_meet
       case rel=>exact ⟨by rw[a.1],hb1⟩
      ·obtain ⟨H,I,V,X,Y,c5,c6,c7,c8,c9,K,L,M,N,O,P,Q,R,S,T,W⟩:=C.1 V1 hb1;have a:=qH (show (!fV n.amount)=!jr n by rw[g.1,p1,p2,z,p4,p5];rfl);(go_wp2_with (go_at_call 33;refine (aI _ _ _ _).mono ?_;rintro e f ⟨rfl,rfl⟩;rw[HAM.1]));go_meet
       case rel=>exact ⟨by rw[a.1],hb1⟩
    ·have q:decide (64<(n.spots.length:Int))=true:=sO;have z:decide ((n.spots.length:Int)<=64)=false:=(by simpa using p3);have a:=qH (show true=!jr n by rw[g.1,p1,p2,z];rfl);(go_wp2_with (go_at_call 33;refine (aI _ _ _ _).mono ?_;rintro e f ⟨rfl,rfl⟩;first|rw[u.1,p1]|rw[p2]));go_meet
     case rel=>exact ⟨by rw[a.1],Below.refl _ _⟩
 case rest =>
  obtain ⟨rfl,hbc⟩:=hcut;have HBC:=qH (b.1.trans (hbc.mono b.1.size));cases pf:jr n
  ·have d:E=3:=(by rw[D.1,if_neg (fun h=>by rw[pf] at h;cases h.1)]);subst d;go_wp2;go_ret;exact ⟨rfl,HBC.1⟩
  ·have hwh:1<=n.white/\n.white<=65535:=by
    rw[g.1] at pf;simp only[Bool.and_eq_true,decide_eq_true_eq] at pf;exact pf.1.1.1.1.2
   obtain ⟨hw1,hw2⟩:=hwh;have HE2:=qH (show E=if az 0 (n.white-1) (dU n.black 4)=true/\az 0 65535 (dU n.gains 3)=true then (if cY n.curve=true then 0 else 1) else 3 by rw[D.1,pf];simp only[true_and]);clear pf D g;(go_wp2_with fail);go_loopw [3] (fun i wr=>∃k:Nat,k<=4/\i=Z G k/\Below U.heap.size U wr/\Hid (∀j,j<k->0<=n.black j/\n.black j<=n.white-1)) (fun i _=>4-(intOf i).toNat)
   case atStart=>exact ⟨0,oM,rfl,hbc,au (fun j A=>oM)⟩
   case round =>
    clear hbc HBC;obtain ⟨k,hk,rfl,c,l⟩:=hrel;by_cases hlt:k<4
    ·have q:decide ((k:Int)<4)=true:=sO;have HCK:=qH (show ∀v,Below U.heap.size U v->v.cell? ⟨w.heap.size,1+k,none⟩=some (Z G (n.black k)) from fun v h=>by
      rw[Lib.cell_of_heap ((h.block _ hl1).trans F)];rcases (show k=0\/k=1\/k=2\/k=3 from oM) with rfl|rfl|rfl|rfl<;>rfl)
     obtain ⟨p,o⟩:=eX (n.black k);have t:=qH o;rw[o] at HCK;clear o;have hkI:(k:Int)<4:=oM;have hww:IntKind.i64.wrap (n.white-1)=n.white-1:=IntWalk.i64_in _ oM;have HS:=qH (show ∀v,Below U.heap.size U v->v.cell? ⟨w.heap.size,1+k,none⟩=some (Z G p)/\v.cell? ⟨w.heap.size,5,none⟩=some (Z G n.white) from fun v h=>⟨HCK.1 v h,(C.1 v h).2.2.2.2.2.1⟩);have hWd:Below U.heap.size U wr.drew:=c.drew;have hSd:=HS.1 _ hWd;obtain ⟨B,m⟩:=eX (decide (0<=p/\p<=n.white-1));have HBB:=qH m;clear m;(go_wp2_with fail);refine cE 8 HS.1 ?_;refine ct 0 ?_;refine ct 1 ?_;refine ct 4 ?_;refine ct 2 ?_;refine ct 5 ?_;refine ct 3 ?_;refine ct 6 ?_;refine aw 7 fun K' y=>?_;go_simp;refine (aI _ _ _ _).mono ?_;rintro e Vx ⟨rfl,rfl⟩;rw[HBB.1];have hSd:=hSd;refine y.out _ _ hSd ?_;clear y;(try simp only[Act.put]);refine aS fun K' y=>?_;go_simp;refine y.out _ _ ?_;clear y;(try simp only[Act.put]);cases B
     ·have d:E=3:=by
       rw[HE2.1,if_neg];intro h;have x:=(oQ _ _ _ _).1 h.1 k hlt;rw[t.1] at x;exact of_decide_eq_false HBB.1 x
      subst d;go_wp2;go_ret;exact ⟨rfl,b.1.trans (hWd.mono b.1.size)⟩
     ·have HN:=au (show ∀j,j<k+1->0<=n.black j/\n.black j<=n.white-1 from fun j A=>by
       rcases Nat.lt_succ_iff_lt_or_eq.1 A with h|rfl
       ·exact l.out j h
       ·rw[t.1];exact of_decide_eq_true HBB.1)
      go_wp2;go_roundw
      case rel=>(repeat apply Exists.intro);exact ⟨⟨k+1,oM,gN,hWd,HN⟩,rfl⟩
      case measure=>simp[intOf];omega
    ·have q:decide ((k:Int)<4)=false:=sO;obtain rfl:k=4:=oM;have HE3:=qH (show E=if az 0 65535 (dU n.gains 3)=true then (if cY n.curve=true then 0 else 1) else 3 by rw[HE2.1,(oQ _ _ _ _).2 l.out];simp only[true_and]);clear l HE2;(go_wp2_with fail);go_loopw [4] (fun i wv=>∃k:Nat,k<=3/\i=Z G k/\Below U.heap.size U wv/\Hid (∀j,j<k->0<=n.gains j/\n.gains j<=65535)) (fun i _=>3-(intOf i).toNat)
     case atStart=>exact ⟨0,oM,rfl,c,au (fun j A=>oM)⟩
     case round =>
      clear c q;obtain ⟨k,hk,rfl,c,l⟩:=hrel;by_cases hlt:k<3
      ·have q:decide ((k:Int)<3)=true:=sO;have hck:wr.cell? ⟨w.heap.size,7+k,none⟩=some (Z G (n.gains k)):=by
        rw[Lib.cell_of_heap ((c.block _ hl1).trans F)];rcases (show k=0\/k=1\/k=2 from oM) with rfl|rfl|rfl<;>rfl
       obtain ⟨p,o⟩:=eX (n.gains k);have t:=qH o;rw[o] at hck;clear o;have hkI:(k:Int)<3:=oM;cases m:decide (0<=p/\p<=65535)
       ·have d:E=3:=by
         rw[HE3.1,if_neg];intro h;have x:=(oQ _ _ _ _).1 h k hlt;rw[t.1] at x;exact of_decide_eq_false m x
        subst d;have r:=qH (b.1.trans (c.mono b.1.size));(go_wp2_with (go_at_call 33;refine (aI _ _ _ _).mono ?_;rintro e f ⟨rfl,rfl⟩;rw[m]));go_ret;exact ⟨rfl,r.1⟩
       ·have HN:=au (show ∀j,j<k+1->0<=n.gains j/\n.gains j<=65535 from fun j A=>by
         rcases Nat.lt_succ_iff_lt_or_eq.1 A with h|rfl
         ·exact l.out j h
         ·rw[t.1];exact of_decide_eq_true m)
        (go_wp2_with (go_at_call 33;refine (aI _ _ _ _).mono ?_;rintro e f ⟨rfl,rfl⟩;rw[m]));go_roundw
        case rel=>(repeat apply Exists.intro);exact ⟨⟨k+1,oM,gN,c,HN⟩,rfl⟩
        case measure=>simp[intOf];omega
      ·have q:decide ((k:Int)<3)=false:=sO;obtain rfl:k=3:=oM;have HE4:=qH (show E=if cY n.curve=true then 0 else 1 by rw[HE3.1,(oQ _ _ _ _).2 l.out];simp);clear l HE3;have r:=qH (b.1.trans (c.mono b.1.size));obtain ⟨H,I,V,X,Y,c5,c6,c7,c8,c9,K,L,M,N,O,P,Q,R,S,T,W⟩:=C.1 _ c;(go_wp2_with fail);clear H I V X Y c5 c6 c7 c8 c9 K L M N O P Q R S T W;refine (Ad _ n.curve _ (HP.1.curve.below r.1 (Nat.le_refl _))).mono ?_;rintro e V2 ⟨rfl,hb2⟩;cases hcv:cY n.curve
       ·have d:E=1:=(by rw[HE4.1,hcv];rfl);subst d;go_wp2;go_ret;exact ⟨rfl,aG r.1 hb2⟩
       ·have d:E=0:=(by rw[HE4.1,hcv];rfl);subst d;go_wp2;go_ret;exact ⟨rfl,aG r.1 hb2⟩
end Go.Proofs.YtfjeonehdlphiaaGreatDoor
