/- Re: part 10 of what the proofs need. -/
import Derived.Test.YtfjeonehdlphiaaGreatDoorC3Re
import Derived.Test.YtfjeonehdlphiaaGreatDoorC9Re
import Derived.Lib.Strings
open Nat renaming le_refl → ka, lt_of_lt_of_le → kb, zero_le → kc
set_option linter.unusedVariables false
set_option maxHeartbeats 800000
set_option maxRecDepth 100000
namespace Go.Proofs.YtfjeonehdlphiaaGreatDoor
open Go.RowKit
theorem Tryz.infoStr:(Tryz.prog.info? 9).map (fun i=>(i.zero,i.size,i.bytes))=some (some (.string ⟨#[]⟩),1,16):=by kernel_rfl
def j1jj (w:World) (v:Value) (ts:List (List UInt8)):Prop :=
 ∃ao cap,v=.slice ao ts.length cap∧ts.length≤1000000∧(ts=[]∨∃b off,ao=some ⟨b,off,none⟩∧b<w.heap.size∧∀j (h:j<ts.length),w.cell? ⟨b,off+j,none⟩=some (.string (str ts[j])))
theorem j1jj.below {w w':World} {v:Value} {ts:List (List UInt8)} {B:Nat} (h:j1jj w v ts) (hb:Below B w w') (hB:w.heap.size≤B):j1jj w' v ts:=by
 obtain ⟨ao,cap,hv,hl,h⟩:=h
 refine ⟨ao,cap,hv,hl,?_⟩
 rcases h with h|⟨b,off,ha,hlt,hc⟩
 ·exact .inl h
 ·exact .inr ⟨b,off,ha,kb hlt hb.size,fun j hj=>by rw[hb.cell (p:=⟨b,off+j,none⟩) (by exact kb hlt hB)];exact hc j hj⟩
theorem j1jj.nil (w:World):j1jj w (.slice none 0 0) []:=⟨none,0,rfl,by simp,.inl rfl⟩
theorem j1jj.own {w:World} {base:Nat} {v:Value} {n:Nat} {f:Nat→List UInt8} (h:w.ownsRow base 9 1 v n (qwpy n f)) (hl:n≤1000000):j1jj w v ((List.range n).map f):=by
 have hlen:((List.range n).map f).length=n:=by simp
 rcases h.2 with ⟨hv,hn⟩|⟨g,cap,cur,hv,_,hg,_⟩
 ·exact ⟨none,0,by rw[hv,hlen,hn],by rw[hlen];exact hl,.inl (by subst hn;rfl)⟩
 ·refine ⟨_,cap,by rw[hlen];exact hv,by rw[hlen];exact hl,.inr ⟨g,0,rfl,(Array.getElem?_eq_some_iff.1 hg).1,fun j hj=>?_⟩⟩
  subst hv
  rw[hlen] at hj
  rw[Nat.zero_add,h.cellAt j (by omega),XOmP n f j hj]
  simp
theorem z0OT (xs:List Int):qwpy xs.length (qZPP xs 0 0)=(madeCells (Value.string ⟨#[]⟩).cells (xs.length*1)).toList:=by
 rw[show (Value.string ⟨#[]⟩).cells=#[Value.string ⟨#[]⟩] from rfl,toList_madeCells_one]
 apply List.ext_getElem?
 intro j
 by_cases h:j<xs.length
 ·rw[XOmP _ _ _ h,List.getElem?_replicate,if_pos (by omega),qzK6];rfl
 ·rw[List.getElem?_eq_none (by rw[j7q8];omega),List.getElem?_eq_none (by simp;omega)]
def nb (xs:List Int):Nat→Nat
 | 0=>0
 | t+1=>nxt xs t xs.length
theorem XuXL (xs:List Int) (t:Nat):base xs t=2*nb xs t:=by
 cases t with
 | zero=>rfl
 | succ t=>exact zU85 xs t
theorem jyCv (xs:List Int) (t:Nat) (ht:t≤15) (hs:ksum xs≤32768):nb xs t≤65536:=by
 cases t with
 | zero=>simp[nb]
 | succ t=>exact Nat.le_trans (jRof xs t _ (by omega) hs) (pow16 (by omega))
theorem qykP (n size:Int) (N S:Nat) (hn:n=N) (hS:size=S) (h16:S≤16) (hlt:N<2 ^ S) (w:World) :
  Calls Tryz.prog 173 #[.int .i64 n,.int .i64 size] w fun e w'=>e=.returned (.tuple #[.string (str (jJyG N S)),.int .i64 0])∧Below w.heap.size w w':=by
 subst hn hS
 exact XFu1 N S h16 hlt w
theorem jlcJ (v:Value) (xs:List Int) (w:World) (hv:jCvT w v xs) (hE:qO3F xs=0) :
  Calls Tryz.prog 176 #[v] w fun e w'=>∃r,e=.returned (.tuple #[r,.int .i64 0])∧j1jj w' r (j6d1 xs)∧Below w.heap.size w w':=by
 obtain ⟨hl1,hl2,hok,hs1,hs2⟩:=zF8D hE
 obtain ⟨i0,hi,hz0,hz1,hz2⟩:=info_parts Tryz.infoStr
 have HV:=hide hv
 obtain ⟨ao,ca,rfl,hla,hc⟩:=hv
 obtain ⟨b,off,hao,hbl,hcell⟩:∃b off,ao=some ⟨b,off,none⟩∧b<w.heap.size∧∀j (h:j<xs.length),w.cell? ⟨b,off+j,none⟩=some (.int .i64 xs[j]):=by
  rcases hc with h|h
  ·subst h;exact absurd hl1 (by simp)
  ·exact h
 subst hao
 have HCELL:=hide hcell;clear hcell hc
 have HOK:=hide hok;clear hok
 have HK:=hide hs2;clear hs1 hs2
 go_enter Tryz.func176,Tryz.ntmps176
 go_wp2_with (first|(go_at_call 120;refine (jIcm _ _ _ HV.out).mono ?_;rintro e w1 ⟨rfl,rfl⟩)|(at_make;refine wpList_make_full _ rfl _ _ 55 rfl w.heap.size 9 i0 (.string ⟨#[]⟩) 1 Tryz.underlying55 hi hz0 hz1 .i64 .i64 _ _ xs.length rfl rfl rfl rfl (by rw[hz2];omega) (by unfold maxLen;omega) (ka _) ?_;intro w1 hown hgr))
 have hb1:Below w.heap.size w w1:=(Below.refl _ _).grown hgr (ka _) (by simp)
 have ho1:w1.ownsRow w.heap.size 9 1 (.slice (some ⟨w.heap.size,0,none⟩) xs.length xs.length) xs.length (qwpy xs.length (qZPP xs 0 0)):=by
  rw[show qwpy xs.length (qZPP xs 0 0)=(madeCells (Value.string ⟨#[]⟩).cells (xs.length*1)).toList from z0OT xs]
  exact hown
 clear hown hgr hE
 go_loopw [6,7] (fun nx sz wr=>∃t:Nat,t≤15∧sz=.int .i64 ((t:Int)+1)∧nx=.int .i64 (nb xs t:Nat) ∧
   wr.ownsRow w.heap.size 9 1 (.slice (some ⟨w.heap.size,0,none⟩) xs.length xs.length) xs.length (qwpy xs.length (qZPP xs t 0))∧Below w.heap.size w wr)
  (fun _ sz _=>16-(intOf sz).toNat)
 case atStart=>exact ⟨0,by omega,by go_num,rfl,ho1,hb1⟩
 case round =>
  obtain ⟨t,ht,rfl,rfl,ho,hb⟩:=hrel
  clear ho1 hb1
  by_cases hlt:t<15
  ·have hd:decide ((t:Int)+1≤15)=true:=by simp;omega
   have hnb:=jyCv xs t (by omega) HK.out
   have HB:=hide (XuXL xs t)
   have HZ:=hide (XL0z xs t)
   generalize hN:nb xs t=N at *
   clear hN
   go_wp2
   go_loopw [6,25] (fun nx i wq=>∃k:Nat,k≤xs.length∧i=.int .i64 k∧nx=.int .i64 (nxt xs t k:Nat) ∧
     wq.ownsRow w.heap.size 9 1 (.slice (some ⟨w.heap.size,0,none⟩) xs.length xs.length) xs.length (qwpy xs.length (qZPP xs t k))∧Below w.heap.size w wq)
    (fun _ i _=>xs.length-(intOf i).toNat)
   case atStart=>exact ⟨0,kc _,rfl,by rw[HZ.out,HB.out];go_num,ho,hb⟩
   case round =>
    obtain ⟨k,hk,rfl,rfl,ho2,hb2⟩:=hrel
    clear ho hb
    have hfit:=jRof xs t k (by omega) HK.out
    have hp16:=pow16 (n:=t+1) (by omega)
    by_cases hkl:k<xs.length
    ·have c1:=(hb2.cell (p:=⟨b,off+k,none⟩) hbl).trans (HCELL.out k hkl)
     by_cases he:xs[k]=(t:Int)+1
     ·have hnl:=XdXl xs t k (by omega) HK.out hkl he
      have HN1:=hide (show nxt xs t (k+1)=nxt xs t k+1 by rw[nxt,nxt,XIRo xs _ k hkl,if_pos he];omega)
      have HS:=hide (XDzG xs.length (qZPP xs t k) (qZPP xs t (k+1)) k (jJyG (nxt xs t k) (t+1)) (qCGE xs t k hkl he) (fun i _ hi=>X4e5 xs t k i hi))
      have c2:=ho2.cellAt k (by omega)
      rw[XOmP _ _ _ hkl] at c2
      have f2:=ho2.frozenAt k
      have heq:(xs[k] == (t:Int)+1)=true:=by simpa using he
      have HNL:=hide hnl
      have hsz:=hb2.size
      clear he
      have hM:nxt xs t k≤65536:=by omega
      clear hfit hp16 hnl
      generalize nxt xs t k=M at *
      go_wp2_with (go_at_call 173;refine (qykP _ _ M (t+1) rfl (by omega) (by omega) HNL.out _).mono ?_;rintro e w3 ⟨rfl,hb3⟩;have ho3:=qw14 ho2 hb3;have c3:=(ho3.cellAt k (by omega)).trans (ho2.cellAt k (by omega) ▸ c2);have f3:=ho3.frozenAt k)
      have ho4:=(ho3.stored k (.string (str (jJyG M (t+1))))).1
      rw[HS.out] at ho4
      go_roundw
      case rel=>exact ⟨k+1,by omega,by go_num,by rw[HN1.out];go_num,ho4,(hb2.trans (hb3.mono hsz)).setCell (ka _) _⟩
      case measure=>simp[intOf];omega
     ·have HN1:=hide (show nxt xs t (k+1)=nxt xs t k by rw[nxt,nxt,XIRo xs _ k hkl,if_neg he];omega)
      have HS:=hide (zeln xs.length (qZPP xs t (k+1)) (qZPP xs t k) (fun i _=>zsQ2 xs t k i hkl he))
      have heq:(xs[k] == (t:Int)+1)=false:=by simpa using he
      clear he
      go_wp2
      go_roundw
      case rel=>exact ⟨k+1,by omega,by go_num,by rw[HN1.out],by rw[HS.out];exact ho2,hb2⟩
      case measure=>simp[intOf];omega
    ·obtain rfl:k=xs.length:=by omega
     have HS:=hide (zeln xs.length (qZPP xs (t+1) 0) (qZPP xs t xs.length) (fun i hi=>qua8 xs t i hi))
     have HN1:=hide (show nb xs (t+1)=nxt xs t xs.length from rfl)
     go_wp2
     go_roundw
     case rel=>exact ⟨t+1,by omega,by go_num,by rw[HN1.out],by rw[HS.out];exact ho2,hb2⟩
     case measure=>simp[intOf];omega
  ·obtain rfl:t=15:=by omega
   have HS:=hide (zeln xs.length (qZPP xs 15 0) (word xs) (fun i hi=>qGGX xs i hi HOK.out))
   rw[HS.out] at ho
   have hT:=j1jj.own ho (by omega)
   go_wp2
   go_ret2
   exact ⟨_,rfl,hT,hb⟩
theorem z3li (v:Value) (xs:List Int) (w:World) (hv:jCvT w v xs) :
  Calls Tryz.prog 176 #[v] w fun e w'=>∃r,e=.returned (.tuple #[r,.int .i64 (qO3F xs)])∧j1jj w' r (if qO3F xs=0 then j6d1 xs else [])∧Below w.heap.size w w':=by
 by_cases hE:qO3F xs=0
 ·rw[if_pos hE,hE]
  exact jlcJ v xs w hv hE
 ·rw[if_neg hE]
  have hne:(qO3F xs != 0)=true:=by simpa using hE
  clear hE
  have HV:=hide hv;clear hv
  go_enter Tryz.func176,Tryz.ntmps176
  go_wp2_with (go_at_call 120;refine (jIcm _ _ _ HV.out).mono ?_;rintro e w1 ⟨rfl,rfl⟩)
  go_ret2
  exact ⟨_,rfl,j1jj.nil _,Below.refl _ _⟩
theorem qWfW (n size:Int) (N S:Nat) (hn:n=N) (hS:size=S) (h16:S≤16) (hlt:N<65536) (w:World) :
  Calls Tryz.prog 133 #[.int .i64 n,.int .i64 size] w fun e w'=>e=.returned (.string (str (jJyG N S)))∧Below w.heap.size w w':=by
 subst hn hS
 exact jfHn S N w h16 hlt
theorem XQSa (v:Value) (xs:List Int) (w:World) (hv:jCvT w v xs) (hE:qO3F xs=0) :
  Calls Tryz.prog 135 #[v] w fun e w'=>∃r,e=.returned r∧j1jj w' r (j6d1 xs)∧Below w.heap.size w w':=by
 obtain ⟨hl1,hl2,hok,hs1,hs2⟩:=zF8D hE
 obtain ⟨i0,hi,hz0,hz1,hz2⟩:=info_parts Tryz.infoStr
 obtain ⟨ao,ca,rfl,hla,hc⟩:=hv
 obtain ⟨b,off,hao,hbl,hcell⟩:∃b off,ao=some ⟨b,off,none⟩∧b<w.heap.size∧∀j (h:j<xs.length),w.cell? ⟨b,off+j,none⟩=some (.int .i64 xs[j]):=by
  rcases hc with h|h
  ·subst h;exact absurd hl1 (by simp)
  ·exact h
 subst hao
 have HCELL:=hide hcell;clear hcell hc
 have HOK:=hide hok;clear hok
 have HK:=hide hs2;clear hs1 hs2
 go_enter Tryz.func135,Tryz.ntmps135
 go_wp2_with (at_make;refine wpList_make_full _ rfl _ _ 55 rfl w.heap.size 9 i0 (.string ⟨#[]⟩) 1 Tryz.underlying55 hi hz0 hz1 .i64 .i64 _ _ xs.length rfl rfl rfl rfl (by rw[hz2];omega) (by unfold maxLen;omega) (ka _) ?_;intro w1 hown hgr)
 have hb1:Below w.heap.size w w1:=(Below.refl _ _).grown hgr (ka _) (by simp)
 have ho1:w1.ownsRow w.heap.size 9 1 (.slice (some ⟨w.heap.size,0,none⟩) xs.length xs.length) xs.length (qwpy xs.length (qZPP xs 0 0)):=by
  rw[show qwpy xs.length (qZPP xs 0 0)=(madeCells (Value.string ⟨#[]⟩).cells (xs.length*1)).toList from z0OT xs]
  exact hown
 clear hown hgr hE
 go_loopw [4,5,6] (fun nx la sz wr=>∃t N L:Nat,t≤15∧sz=.int .i64 ((t:Int)+1)∧nx=.int .i64 (N:Nat)∧la=.int .i64 (L:Nat)∧L≤t∧N≤65536∧Hid (N*2 ^ (t+1-L)=base xs t) ∧
   wr.ownsRow w.heap.size 9 1 (.slice (some ⟨w.heap.size,0,none⟩) xs.length xs.length) xs.length (qwpy xs.length (qZPP xs t 0))∧Below w.heap.size w wr)
  (fun _ _ sz _=>16-(intOf sz).toNat)
 case atStart=>exact ⟨0,0,0,by omega,by go_num,rfl,rfl,by omega,by omega,by show _=_;simp[base],ho1,hb1⟩
 case round =>
  obtain ⟨t,N,L,ht,rfl,rfl,rfl,hLt,hN,HNL,ho,hb⟩:=hrel
  clear ho1 hb1
  by_cases hlt:t<15
  ·have hd:decide ((t:Int)+1≤15)=true:=by simp;omega
   have HZ:=hide (XL0z xs t)
   go_wp2
   go_loopw [4,5,7] (fun nx la i wq=>∃k N L:Nat,k≤xs.length∧i=.int .i64 k∧nx=.int .i64 (N:Nat)∧la=.int .i64 (L:Nat)∧L≤t+1∧N≤65536∧Hid (N*2 ^ (t+1-L)=nxt xs t k) ∧
     wq.ownsRow w.heap.size 9 1 (.slice (some ⟨w.heap.size,0,none⟩) xs.length xs.length) xs.length (qwpy xs.length (qZPP xs t k))∧Below w.heap.size w wq)
    (fun _ _ i _=>xs.length-(intOf i).toNat)
   case atStart=>exact ⟨0,N,L,kc _,rfl,rfl,rfl,by omega,hN,by show _=_;rw[HNL.out,HZ.out],ho,hb⟩
   case round =>
    obtain ⟨k,N,L,hk,rfl,rfl,rfl,hLt,hN,HNL,ho2,hb2⟩:=hrel
    clear ho hb
    by_cases hkl:k<xs.length
    ·have c1:=(hb2.cell (p:=⟨b,off+k,none⟩) hbl).trans (HCELL.out k hkl)
     by_cases he:xs[k]=(t:Int)+1
     ·have hnl:=XdXl xs t k (by omega) HK.out hkl he
      have hp16:=pow16 (n:=t+1) (by omega)
      have HN1:=hide (show nxt xs t (k+1)=nxt xs t k+1 by rw[nxt,nxt,XIRo xs _ k hkl,if_pos he];omega)
      have HS:=hide (XDzG xs.length (qZPP xs t k) (qZPP xs t (k+1)) k (jJyG (nxt xs t k) (t+1)) (qCGE xs t k hkl he) (fun i _ hi=>X4e5 xs t k i hi))
      have c2:=ho2.cellAt k (by omega)
      rw[XOmP _ _ _ hkl] at c2
      have f2:=ho2.frozenAt k
      have heq:(xs[k] != (t:Int)+1)=false:=by simpa using he
      have hM:nxt xs t k<65536:=by omega
      have hsz:=hb2.size
      have hsh:wrap64 ((N:Int)*2 ^ (t+1-L))=(nxt xs t k:Nat):=by
       rw[q5J9,←Int.natCast_mul,HNL.out]
       exact IntWalk.wrap64_in _ (by omega)
      clear he hnl hp16
      generalize nxt xs t k=M at *
      have e1:(t:Int)+1=((t+1:Nat):Int):=by omega
      have E1:=hide e1
      have e2:t+1≤16:=by omega
      clear e1
      go_wp2_with fail
      try rw[hsh]
      clear hsh
      refine (qWfW _ _ M (t+1) rfl E1.out e2 hM _).mono ?_
      rintro e w3 ⟨rfl,hb3⟩
      have ho3:=qw14 ho2 hb3
      have c3:=(ho3.cellAt k (by rw[Nat.mul_one];exact hkl)).trans (ho2.cellAt k (by rw[Nat.mul_one];exact hkl) ▸ c2)
      have f3:=ho3.frozenAt k
      go_wp2
      have ho4:=(ho3.stored k (.string (str (jJyG M (t+1))))).1
      rw[HS.out] at ho4
      go_roundw
      case rel=>exact ⟨k+1,M+1,t+1,by omega,by go_num,by go_num,by go_num,by omega,by omega,by show _=_;rw[HN1.out];simp,ho4,(hb2.trans (hb3.mono hsz)).setCell (ka _) _⟩
      case measure=>simp[intOf];omega
     ·have HN1:=hide (show nxt xs t (k+1)=nxt xs t k by rw[nxt,nxt,XIRo xs _ k hkl,if_neg he];omega)
      have HS:=hide (zeln xs.length (qZPP xs t (k+1)) (qZPP xs t k) (fun i _=>zsQ2 xs t k i hkl he))
      have heq:(xs[k] != (t:Int)+1)=true:=by simpa using he
      clear he
      go_wp2
      go_roundw
      case rel=>exact ⟨k+1,N,L,by omega,by go_num,rfl,rfl,hLt,hN,by show _=_;rw[HN1.out,HNL.out],by rw[HS.out];exact ho2,hb2⟩
      case measure=>simp[intOf];omega
    ·obtain rfl:k=xs.length:=by omega
     have HS:=hide (zeln xs.length (qZPP xs (t+1) 0) (qZPP xs t xs.length) (fun i hi=>qua8 xs t i hi))
     have HB:=hide (show N*2 ^ (t+1+1-L)=base xs (t+1) by
      rw[zU85,←HNL.out,show t+1+1-L=(t+1-L)+1 by omega,Nat.pow_succ,←Nat.mul_assoc,Nat.mul_comm])
     go_wp2
     go_roundw
     case rel=>exact ⟨t+1,N,L,by omega,by go_num,rfl,rfl,by omega,hN,HB,by rw[HS.out];exact ho2,hb2⟩
     case measure=>simp[intOf];omega
  ·obtain rfl:t=15:=by omega
   have HS:=hide (zeln xs.length (qZPP xs 15 0) (word xs) (fun i hi=>qGGX xs i hi HOK.out))
   rw[HS.out] at ho
   have hT:=j1jj.own ho (by omega)
   go_wp2
   go_ret
   exact ⟨_,rfl,hT,hb⟩
theorem zFT9 (d:Int) (h0:-32768<d) (h1:d≤32768) (C:Nat) (hC:C=cls d) (w:World) :
  Calls Tryz.prog 182 #[.int .i64 d,.int .i64 C] w fun e w'=>e=.returned (.string (str (tailB d)))∧Below w.heap.size w w':=by
 have hcl:=qSCF h0 h1
 rw[←hC] at hcl
 by_cases hz:C=0
 ·have HE:=hide (show ⟨#[]⟩=str (tailB d) by rw[tailB,if_pos (.inl (hC ▸ hz))];rfl)
  clear hC
  subst hz
  go_enter Tryz.func182,Tryz.ntmps182
  go_wp2
  go_ret
  exact ⟨congrArg (fun x=>Ending.returned (.string x)) HE.out,Below.refl _ _⟩
 by_cases ht:C=16
 ·have HE:=hide (show ⟨#[]⟩=str (tailB d) by rw[tailB,if_pos (.inr (hC ▸ ht))];rfl)
  clear hC
  subst ht
  go_enter Tryz.func182,Tryz.ntmps182
  go_wp2
  go_ret
  exact ⟨congrArg (fun x=>Ending.returned (.string x)) HE.out,Below.refl _ _⟩
 have HE:=hide (show str (jJyG (tailN d) C)=str (tailB d) by rw[tailB,if_neg (by omega),←hC])
 obtain ⟨hlt,hN⟩:=jUqN d (by omega)
 rw[←hC] at hlt hN
 have HLT:=hide hlt
 have hw:=jSrY (n:=C) (by omega)
 have hp:=pow16 (n:=C) (by omega)
 rw[q5J9] at hN
 have hb0:((C:Int) == 0)=false:=by simp;omega
 have hb16:((C:Int) == 16)=false:=by simp;omega
 clear hC hlt
 generalize tailN d=N at *
 by_cases hneg:d<0
 ·have hd:decide (d<0)=true:=by simpa using hneg
  rw[if_pos hneg] at hN
  obtain ⟨p,hpe⟩:∃p:Nat,2 ^ C=p:=⟨_,rfl⟩
  rw[hpe] at hN hp hw
  have HPE:=hide hpe
  go_enter Tryz.func182,Tryz.ntmps182
  go_wp2_with fail
  refine (qykP _ _ N C (by rw[hN]) rfl (by omega) HLT.out _).mono ?_
  rintro e w1 ⟨rfl,hb1⟩
  go_wp2
  go_ret
  exact ⟨congrArg (fun x=>Ending.returned (.string x)) HE.out,hb1⟩
 ·have hd:decide (d<0)=false:=by simpa using hneg
  rw[if_neg hneg] at hN
  clear hw hp
  go_enter Tryz.func182,Tryz.ntmps182
  go_wp2_with fail
  refine (qykP _ _ N C (by rw[hN]) rfl (by omega) HLT.out _).mono ?_
  rintro e w1 ⟨rfl,hb1⟩
  go_wp2
  go_ret
  exact ⟨congrArg (fun x=>Ending.returned (.string x)) HE.out,hb1⟩
end Go.Proofs.YtfjeonehdlphiaaGreatDoor
