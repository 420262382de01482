/- Rf: part 2 of what the proofs need. -/
import Derived.Test.YtanebhbfekcplaaGreatC1Rf
import Derived.Deep.RegionHeld3
import Derived.OrdersHeld
import Derived.RangeFuncNested
import Derived.RangeFuncBound
import Derived.RangeFuncCalls
import Derived.RangeFuncLeaves
import Derived.Shelf.Abstract
import Derived.Shelf.RegionOpen
import Derived.WalkKit
import Derived.OwnWalkIn
import Derived.TacticsInMore
import Derived.LoopNIn
import Derived.LoopIn
import Derived.RangeFuncBox
import Derived.Maps.AppendAt
import Derived.Deep.AppendLies
import Derived.OrdersIn
import Derived.Test.YtanebhbfekcplaaGreatProg
import Derived.Deep.Cut
import Derived.Laws.CopyOwn
import Derived.Lib.SliceRun
import Derived.Lib.Walk
import Derived.Defers
import Derived.Recover
import Derived.Laws.Pointers
import Derived.Lib.Builder
import Derived.Deep.CutRange
import Derived.Lib.UnsafeStr
namespace Go.Proofs.YtanebhbfekcplaaGreat
open Go.RowKit
theorem Kb (l:List UInt8):decide (0≤Lib.indexByte l 49)=jX l:=by
 have key:∀l:List UInt8,-1≤Lib.indexByte l 49∧(0≤Lib.indexByte l 49↔jX l=true):=by
  intro l
  induction l with
  | nil=>exact ⟨by decide,by decide⟩
  | cons b l ih =>
   obtain ⟨ih1,ih2⟩:=ih
   simp only[Lib.indexByte,jX,List.any_cons] at *
   by_cases hb:(b == 49)=true
   ·rw[if_pos hb,hb];simp
   ·rw[if_neg hb]
    by_cases hi:(Lib.indexByte l 49 == -1)=true
    ·rw[if_pos hi]
     have hi:Lib.indexByte l 49=-1:=by simpa using hi
     rw[hi] at ih2
     refine ⟨by decide,?_⟩
     have hb':(b == 49)=false:=by simpa using hb
     rw[hb',Bool.false_or,←ih2]
    ·rw[if_neg hi]
     have hi:Lib.indexByte l 49≠-1:=by simpa using hi
     have hb':(b == 49)=false:=by simpa using hb
     refine ⟨by omega,?_⟩
     rw[hb',Bool.false_or,←ih2]
     omega
 rw[Bool.eq_iff_iff,decide_eq_true_eq]
 exact (key l).2
theorem Qf (l:List UInt8) (w:World) :
  Calls Tryz.prog 99 #[.string (str l),.string ⟨#[49]⟩] w fun e w'=>e=.returned (.bool (jX l))∧w=w':=by
 refine (Tryz.strings_Contains_one (str l) 49 w).mono ?_
 rintro e w' ⟨rfl,rfl⟩
 rw[qI,Kb]
 exact ⟨rfl,rfl⟩
theorem q0b (L:List UInt8) (D:Nat) (hD:D≤L.length) (_hL:L.length≤140737488355328) (bl:Nat) (w:World) (hbk:w.heap[bl]?=some (.cells #[.string (str L)] 9 (0,0))) :
  Calls Tryz.prog 97 #[.int .i64 D,.pointer (some ⟨bl,0,none⟩)] w fun e w'=>e=.returned (.string (str (L.take D)))∧w.setCell ⟨bl,0,none⟩ (.string (str (L.drop D)))=w':=by
 have c0:w.cell? ⟨bl,0,none⟩=some (.string (str L)):=by rw[Lib.cell_of_heap hbk];rfl
 have f0:w.frozen? ⟨bl,0,none⟩=false:=Lib.frozen_of_heap hbk 0
 have hs:(str L).size=L.length:=qu L
 have HX1:=q7 (show (str L).extract 0 D=str (L.take D) by rw[Lib.extract_eq];simp[str])
 have HX2:=q7 (show (str L).extract D L.length=str (L.drop D) by rw[Lib.extract_eq,qI,List.take_of_length_le (by rw[List.length_drop];exact Nat.le_refl _)];rfl)
 generalize str L=S at *
 clear hbk
 go_enter Tryz.func97,Tryz.ntmps97
 go_wp2
 go_ret
 exact ⟨congrArg (fun x=>Ending.returned (.string x)) HX1.out,by rw[←HX2.out]⟩
def Qe (b:List UInt8) (D n k:Nat):List Value:=(q0d b D k).map (Value.int .i64)++List.replicate (n-k) (.int .i64 0)
theorem Kl (b:List UInt8) (D n:Nat):Qe b D n 0=(madeCells (Value.int .i64 0).cells (n*1)).toList:=by
 rw[show (Value.int .i64 0).cells=#[Value.int .i64 0] from rfl,toList_madeCells_one];simp[Qe,q0d]
theorem q14 (b:List UInt8) (D n k:Nat) (h:k<n):(Qe b D n k)[k]?=some (.int .i64 0):=by
 rw[Qe,List.getElem?_append_right (by simp[jI]),List.length_map,jI,Nat.sub_self,List.getElem?_replicate,if_pos (by omega)]
theorem q1r (b:List UInt8) (D n k:Nat) (h:k<n):(Qe b D n k).set k (.int .i64 (js ((b.drop (k*D)).take D):Int))=Qe b D n (k+1):=by
 rw[Qe,Qe,K5,List.set_append_right _ _ (by simp[jI]),List.length_map,jI,Nat.sub_self,show n-k=(n-(k+1))+1 by omega,List.replicate_succ,List.set_cons_zero]
 simp
theorem q1n (b:List UInt8) (D n:Nat):Qe b D n n=(q0d b D n).map (Value.int .i64):=by simp[Qe]
set_option maxRecDepth 100000 in
set_option maxHeartbeats 800000 in
theorem KA (s:ByteArray) (D n:Nat) (hD1:1≤D) (hD:D≤16) (hn:n≤4096) (hl:s.size=(n*D+7) / 8) (w:World) :
  Calls Tryz.prog 53 #[.string s,.int .i64 D,.int .i64 n] w fun e w'=>∃v,e=.returned (.tuple #[v,.int .i64 (if jX ((ji s.data.toList).drop (n*D))=true then 1 else 0)]) ∧
   qd w' v (if jX ((ji s.data.toList).drop (n*D))=true then [] else q0d (ji s.data.toList) D n)∧Below w.heap.size w w':=by
 obtain ⟨i0,hi,hz0,hz1,hz2⟩:=info_parts Tryz.infoInt
 have hd:qA D=true:=by simp[qA];omega
 have hm:(n*D:Nat)≤65536:=Nat.le_trans (Nat.mul_le_mul hn hD) (by decide)
 obtain ⟨m,hm0⟩:∃m:Nat,m=n*D:=⟨_,rfl⟩
 have hmi:(n:Int)*(D:Int)=(m:Int):=by rw[hm0];simp
 have HM:=q7 hm0
 rw[←hm0] at hm hl ⊢
 clear hm0
 have hn0:decide ((n:Int)<0)=false:=by simp
 have hn1:decide (4096<(n:Int))=false:=by simp;omega
 have hne:((s.size:Int) != ((m:Int)+7) / 8)=false:=by simp;omega
 have hsz:s.size≤17592186044416:=by omega
 have HR:=q7 (JM s.data.toList)
 have HRL:=q7 (show m≤(ji s.data.toList).length by rw[zG,jS];omega)
 have HRU:=q7 (show (ji s.data.toList).length≤140737488355328 by rw[zG,jS];omega)
 generalize hR:ji s.data.toList=R at *
 have HRR:=q7 hR;clear hR
 go_enter Tryz.func53,Tryz.ntmps53
 go_wp2_with (first|(go_at_call 94;refine (jr _ _).mono ?_;rintro e w1 ⟨rfl,rfl⟩)|(go_at_call 95;refine (Q2 _ (by omega) (by omega) _).mono ?_;rintro e w1 ⟨rfl,rfl⟩)|(go_at_call 96;refine (q0c _ hsz _).mono ?_;rintro e w1 ⟨rfl,hb1⟩;rw[HRR.out])|(at_make;refine wpList_make_full _ rfl _ _ 22 rfl (w1.heap.size+1) 3 i0 (.int .i64 0) 1 Tryz.underlying22 hi hz0 hz1 .i64 .i64 _ _ n rfl rfl rfl rfl (by rw[hz2];omega) (by unfold maxLen;omega) (by simp) ?_;intro w2 hown hgr))
 have hb2:Below w.heap.size w w2:=((hb1.alloc hb1.size _).grown hgr (by have:=hb1.size;simp;omega) (by simp))
 have hk2:w2.heap[w1.heap.size]?=some (.cells #[.string (str R)] 9 (0,0)):=by
  rw[hgr.block w1.heap.size (by simp) (by simp)];exact heap_alloc_new w1 _
 have hs2:w1.heap.size+1≤w2.heap.size:=by have:=hgr.size;simpa using this
 have hs1:=hb1.size
 clear hgr
 go_loopw [35] (fun i wr=>∃k:Nat,k≤n∧i=.int .i64 k∧wr.heap[w1.heap.size]?=some (.cells #[.string (str (R.drop (k*D)))] 9 (0,0)) ∧
   wr.ownsRow (w1.heap.size+1) 3 1 (.slice (some ⟨w1.heap.size+1,0,none⟩) n n) n (Qe R D n k)∧Below w.heap.size w wr)
  (fun i _=>n-(intOf i).toNat)
 case atStart=>exact ⟨0,Nat.zero_le _,rfl,by simpa using hk2,by rw[Kl];rw[show (w1.alloc (Obj.cells #[Value.string (str R)] 9)).heap.size=w1.heap.size+1 by simp] at hown;exact hown,hb2⟩
 case round =>
  obtain ⟨k,hk,rfl,hbk,ho,hb⟩:=hrel
  clear hown hk2 hb2
  by_cases hlt:k<n
  ·have hkm:(k+1)*D≤m:=by rw[HM.out];exact Nat.mul_le_mul_right _ hlt
   rw[Nat.succ_mul] at hkm
   have hL1:D≤(R.drop (k*D)).length:=by have:=HRL.out;rw[List.length_drop];omega
   have hL2:(R.drop (k*D)).length≤140737488355328:=by have:=HRU.out;rw[List.length_drop];omega
   have HB:=q7 (show zx ((R.drop (k*D)).take D)=true from Qi (Jm HR.out _) _)
   have hcl:((R.drop (k*D)).take D).length=D:=by rw[List.length_take];omega
   have hV:Kq (str ((R.drop (k*D)).take D))=js ((R.drop (k*D)).take D):=if_pos ⟨HB.out,by rw[qu,hcl];exact hD⟩
   have hVs:(str ((R.drop (k*D)).take D)).size≤maxLen:=by rw[qu,hcl];unfold maxLen;omega
   have c1:=ho.cellAt k (by omega)
   rw[q14 R D n k hlt] at c1
   have f1:=ho.frozenAt k
   have HS:=q7 (q1r R D n k hlt)
   have HD:=q7 (show (R.drop (k*D)).drop D=R.drop ((k+1)*D) by rw[List.drop_drop,Nat.succ_mul])
   clear hkm hcl
   generalize R.drop (k*D)=L at *
   generalize js (L.take D)=V at *
   go_wp2_with (first|(go_at_call 97;refine (q0b L D hL1 hL2 w1.heap.size _ hbk).mono ?_;rintro e w3 ⟨rfl,rfl⟩)|(go_at_call 98;refine (q2N _ _ hVs).mono ?_;rintro e w3 ⟨rfl,rfl⟩))
   have ho3:=((ownsRow_setCell_below ho (a:=⟨w1.heap.size,0,none⟩) (Nat.lt_succ_self _) (.string (str (L.drop D)))).stored k (.int .i64 (V:Int))).1
   rw[HS.out] at ho3
   have hk3:((wr.setCell ⟨w1.heap.size,0,none⟩ (.string (str (L.drop D)))).setCell ⟨w1.heap.size+1,k,none⟩ (.int .i64 (V:Int))).heap[w1.heap.size]?=some (.cells #[.string (str (L.drop D))] 9 (0,0)):=by
    rw[Below.heap_setCell _ _ _ _ (by simp)]
    exact heap_setCell_same wr w1.heap.size 0 _ _ _ hbk
   rw[HD.out] at hk3 ho3
   go_roundw
   case rel =>
    rw[HD.out]
    exact ⟨k+1,by omega,by go_num,hk3,ho3,(hb.setCell (p:=⟨w1.heap.size,0,none⟩) hs1 _).setCell (p:=⟨w1.heap.size+1,k,none⟩) (Nat.le_succ_of_le hs1) _⟩
   case measure=>simp[intOf];omega
  ·obtain rfl:k=n:=by omega
   rw[q1n] at ho
   rw[←HM.out] at hbk
   have c0:wr.cell? ⟨w1.heap.size,0,none⟩=some (.string (str (R.drop m))):=by rw[Lib.cell_of_heap hbk];rfl
   have hints:qd wr (.slice (some ⟨w1.heap.size+1,0,none⟩) k k) (q0d R D k):=qd.own (by rw[jI];exact ho) (by rw[jI];omega)
   clear ho hbk
   by_cases hone:jX (R.drop m)=true
   ·go_wp2_with (go_at_call 99;refine (Qf _ _).mono ?_;rintro e w3 ⟨rfl,rfl⟩)
    go_ret2
    exact ⟨_,rfl,qd.nil _,hb⟩
   ·have hone:jX (R.drop m)=false:=by simpa using hone
    go_wp2_with (go_at_call 99;refine (Qf _ _).mono ?_;rintro e w3 ⟨rfl,rfl⟩)
    go_ret2
    exact ⟨_,rfl,hints,hb⟩
theorem q3i {d n:Int} (h1:1≤d) (h2:d≤16) (h3:0≤n) (h4:n≤4096):0≤n*d∧n*d≤65536:=by
 obtain ⟨a,rfl⟩:=Int.eq_ofNat_of_zero_le h3
 obtain ⟨b,rfl⟩:=Int.eq_ofNat_of_zero_le (show 0≤d by omega)
 have h:a*b≤4096*16:=Nat.mul_le_mul (by omega) (by omega)
 rw[←Int.natCast_mul]
 omega
theorem q2V (s:List UInt8) (d n:Int) :
  (XO s d n=3∧Kx s d n=[]∧(qA d=false∨(qA d=true∧n<0))) ∨
  (XO s d n=2∧Kx s d n=[]∧qA d=true∧4096<n) ∨
  (XO s d n=1∧Kx s d n=[]∧qA d=true∧0≤n∧n≤4096∧s.length≠(n.toNat*d.toNat+7) / 8) ∨
  (∃D N:Nat,d=D∧n=N∧1≤D∧D≤16∧N≤4096∧s.length=(N*D+7) / 8 ∧
   XO s d n=(if jX ((ji s).drop (N*D))=true then 1 else 0)∧Kx s d n=if jX ((ji s).drop (N*D))=true then [] else q0d (ji s) D N):=by
 by_cases hd:qA d=true
 ·have hd16:1≤d∧d≤16:=by simpa [qA] using hd
  by_cases h0:0≤n
  ·by_cases h1:n≤4096
   ·by_cases hl:s.length=(n.toNat*d.toNat+7) / 8
    ·right;right;right
     refine ⟨d.toNat,n.toNat,by omega,by omega,by omega,by omega,by omega,hl,?_,?_⟩
     ·rw[XO,if_pos ⟨hd,h0⟩,if_pos h1]
      by_cases ho:jX ((ji s).drop (n.toNat*d.toNat))=true
      ·rw[if_pos ho,if_neg (by simp[ja,ho])]
      ·have ho:jX ((ji s).drop (n.toNat*d.toNat))=false:=by simpa using ho
       have hf:ja s d n=true:=by simp only[ja,decide_eq_true_eq];exact ⟨hd,h0,h1,hl,ho⟩
       rw[if_pos hf,if_neg (by simp[ho])]
     ·rw[Kx]
      by_cases ho:jX ((ji s).drop (n.toNat*d.toNat))=true
      ·rw[if_pos ho,if_neg (by simp[ja,ho])]
      ·have ho:jX ((ji s).drop (n.toNat*d.toNat))=false:=by simpa using ho
       have hf:ja s d n=true:=by simp only[ja,decide_eq_true_eq];exact ⟨hd,h0,h1,hl,ho⟩
       rw[if_pos hf,if_neg (by simp[ho])]
    ·have hf:¬ja s d n=true:=by simp only[ja,decide_eq_true_eq];exact fun h=>hl h.2.2.2.1
     exact .inr (.inr (.inl ⟨by rw[XO,if_pos ⟨hd,h0⟩,if_pos h1,if_neg hf],by rw[Kx,if_neg hf],hd,h0,h1,hl⟩))
   ·have hf:¬ja s d n=true:=by simp only[ja,decide_eq_true_eq];exact fun h=>h1 h.2.2.1
    exact .inr (.inl ⟨by rw[XO,if_pos ⟨hd,h0⟩,if_neg h1],by rw[Kx,if_neg hf],hd,by omega⟩)
  ·have hf:¬ja s d n=true:=by simp only[ja,decide_eq_true_eq];exact fun h=>h0 h.2.1
   exact .inl ⟨by rw[XO,if_neg (fun h=>h0 h.2)],by rw[Kx,if_neg hf],.inr ⟨hd,by omega⟩⟩
 ·have hf:¬ja s d n=true:=by simp only[ja,decide_eq_true_eq];exact fun h=>hd h.1
  exact .inl ⟨by rw[XO,if_neg (fun h=>hd h.1)],by rw[Kx,if_neg hf],.inl (by simpa using hd)⟩
set_option maxRecDepth 100000 in
set_option maxHeartbeats 400000 in
theorem KQ (s:ByteArray) (d n:Int) (w:World) :
  Calls Tryz.prog 53 #[.string s,.int .i64 d,.int .i64 n] w fun e w'=>∃v,e=.returned (.tuple #[v,.int .i64 (XO s.data.toList d n)])∧qd w' v (Kx s.data.toList d n)∧Below w.heap.size w w':=by
 rcases q2V s.data.toList d n with ⟨hE,hV,h|⟨h1,h2⟩⟩|⟨hE,hV,h1,h2⟩|⟨hE,hV,h1,h2,h3,h4⟩|⟨D,N,rfl,rfl,h1,h2,h3,h4,hE,hV⟩
 ·have HE:=q7 hE;have HV:=q7 hV;clear hE hV
  go_enter Tryz.func53,Tryz.ntmps53
  go_wp2_with (go_at_call 94;refine (jr _ _).mono ?_;rintro e w1 ⟨rfl,rfl⟩)
  go_ret2
  rw[HE.out,HV.out]
  exact ⟨_,rfl,qd.nil _,Below.refl _ _⟩
 ·have HE:=q7 hE;have HV:=q7 hV;clear hE hV
  go_enter Tryz.func53,Tryz.ntmps53
  go_wp2_with (go_at_call 94;refine (jr _ _).mono ?_;rintro e w1 ⟨rfl,rfl⟩)
  go_ret2
  rw[HE.out,HV.out]
  exact ⟨_,rfl,qd.nil _,Below.refl _ _⟩
 ·have HE:=q7 hE;have HV:=q7 hV;clear hE hV
  go_enter Tryz.func53,Tryz.ntmps53
  go_wp2_with (go_at_call 94;refine (jr _ _).mono ?_;rintro e w1 ⟨rfl,rfl⟩)
  go_ret2
  rw[HE.out,HV.out]
  exact ⟨_,rfl,qd.nil _,Below.refl _ _⟩
 ·have HE:=q7 hE;have HV:=q7 hV;clear hE hV
  have hd16:1≤d∧d≤16:=by simpa [qA] using h1
  obtain ⟨hm0,hm1⟩:=q3i hd16.1 hd16.2 h2 h3
  have hmm:n*d=((n.toNat*d.toNat:Nat):Int):=by
   rw[Int.natCast_mul,Int.toNat_of_nonneg h2,Int.toNat_of_nonneg (by omega)]
  have hne:((s.size:Int) != (n*d+7) / 8)=true:=by
   rw[jS] at h4
   rw[hmm]
   generalize n.toNat*d.toNat=z at *
   simp
   omega
  clear hmm h4 hd16
  go_enter Tryz.func53,Tryz.ntmps53
  go_wp2_with (first|(go_at_call 94;refine (jr _ _).mono ?_;rintro e w1 ⟨rfl,rfl⟩)|(go_at_call 95;refine (Q2 _ (by omega) (by omega) _).mono ?_;rintro e w1 ⟨rfl,rfl⟩))
  go_ret2
  rw[HE.out,HV.out]
  exact ⟨_,rfl,qd.nil _,Below.refl _ _⟩
 ·rw[hE,hV]
  exact KA s D N h1 h2 h3 (by rw[←jS];exact h4) w
end Go.Proofs.YtanebhbfekcplaaGreat

namespace Go.Proofs.YtanebhbfekcplaaGreat
open Go.RowKit
theorem q3H (l:List UInt8) (k:Nat) (h:k<l.length) (hb:zx l=true) (hk:k≤15) :
  js (l.take k)<65536∧48≤l[k].toNat∧l[k].toNat≤49∧js (l.take (k+1))=2*js (l.take k)+(l[k].toNat-48):=by
 have h1:=Ze _ (Qi hb k)
 have hl:(l.take k).length≤16:=by simp;omega
 have h2:=Jw hl
 have h3:=Qx hb k h
 rw[List.take_succ_eq_append_getElem h,zN]
 omega
theorem q46 {f:List UInt8→Option (Int×Bool)} {b:List UInt8} (h:(qE f [] b).2.1≠0):nxD f b=none:=by rw[nxD,if_neg h]
theorem q40 {f:List UInt8→Option (Int×Bool)} {b:List UInt8} (h:(qE f [] b).2.1=0) (h1:(qE f [] b).1=16):nxD f b=some (32768,(qE f [] b).2.2):=by rw[nxD,if_pos h,if_pos h1]
theorem q2e {f:List UInt8→Option (Int×Bool)} {b:List UInt8} (h:(qE f [] b).2.1=0) (i:Nat) (h1:(qE f [] b).1=i) (hi:i≤15) (hl:b.length<(qE f [] b).2.2+i):nxD f b=none:=by
 rw[nxD,if_pos h,if_neg (by omega),h1,Int.toNat_natCast,if_pos hl]
theorem nxD_ok {f:List UInt8→Option (Int×Bool)} {b:List UInt8} (h:(qE f [] b).2.1=0) (i:Nat) (h1:(qE f [] b).1=i) (hi:i≤15) (hl:(qE f [] b).2.2+i≤b.length):nxD f b=some (JD i (js ((b.drop (qE f [] b).2.2).take i)),(qE f [] b).2.2+i):=by
 rw[nxD,if_pos h,if_neg (by omega),h1,Int.toNat_natCast,if_neg (by omega)]
set_option maxRecDepth 100000 in
set_option maxHeartbeats 400000 in
theorem q1H (ca:Option Addr) (cl cc bm n:Nat) (f:List UInt8→Option (Int×Bool)) (ba bb:Nat) (bits:List UInt8) (pos:Nat) (w:World) (hm:qC w bm n f) (hfl:∀key,f key≠none→key.length≤100) (ht:qR w ba bb bits pos) (hbits:zx bits=true)
  (hcls:(qE f [] (bits.drop pos)).2.1=0→∃i:Nat,i≤16∧(qE f [] (bits.drop pos)).1=i) :
  Calls Tryz.prog 106 #[.agg #[.slice ca cl cc,.map (some bm)],.func (.func 136) #[] #[.pointer (some ⟨ba,0,none⟩),.pointer (some ⟨bb,0,none⟩)]] w fun e w' =>
   (∀d m,nxD f (bits.drop pos)=some (d,m)→e=.returned (.tuple #[.int .i64 d,.bool true])∧qR w' ba bb bits (pos+m)) ∧
   (nxD f (bits.drop pos)=none→e=.returned (.tuple #[.int .i64 0,.bool false]))∧w.grownBy w' (some ba):=by
 have HBK:=q7 (hm.below (qa w (.cells #[.slice ca cl cc,.map (some bm)] 131)) (Nat.le_refl _))
 have HT0:=q7 (ht.below (qa w (.cells #[.slice ca cl cc,.map (some bm)] 131)))
 have hbl:=ht.2.2.2
 have hlt:=ht.lt
 have HFL:=q7 hfl
 have hle:=q3M f [] (bits.drop pos)
 rw[List.length_drop] at hle
 have hpl:=ht.2.2.1
 have HX1:=q7 (fun h=>q46 (f:=f) (b:=bits.drop pos) h)
 have HX2:=q7 (fun h=>q40 (f:=f) (b:=bits.drop pos) h)
 have HX3:=q7 (fun h=>q2e (f:=f) (b:=bits.drop pos) h)
 have HX4:=q7 (fun h=>nxD_ok (f:=f) (b:=bits.drop pos) h)
 have HC:=q7 hcls
 clear hcls hm ht hfl
 go_enter Tryz.func106,Tryz.ntmps106
 go_wp2_with fail
 refine (q3q _ ca cl cc rfl bm n f ba bb bits pos _ HBK.out HFL.out HT0.out).mono ?_
 rintro e w1 ⟨rfl,ht1,hg1⟩
 have HG1:=q7 ((World.grownBy_alloc w (.cells #[.slice ca cl cc,.map (some bm)] 131) (some ba)).trans hg1)
 have HT1:=q7 ht1
 clear ht1 hg1 HT0 HBK HFL
 generalize (qE f [] (bits.drop pos)).2.2=m0 at *
 generalize (qE f [] (bits.drop pos)).2.1=er at *
 generalize (qE f [] (bits.drop pos)).1=cl0 at *
 by_cases her:er=0
 ·subst her
  obtain ⟨i,hi16,rfl⟩:=HC.out rfl
  clear HC
  by_cases h16:i=16
  ·subst h16
   have HNX:=q7 (HX2.out rfl rfl)
   go_wp2
   go_ret2
   refine ⟨fun d m h=>?_,fun h=>?_,HG1.out⟩
   ·rw[HNX.out] at h;cases h;exact ⟨rfl,HT1.out⟩
   ·rw[HNX.out] at h;cases h
  ·have hi15:i≤15:=by omega
   have HY3:=q7 (HX3.out rfl i rfl hi15)
   have HY4:=q7 (HX4.out rfl i rfl hi15)
   clear HX1 HX2 HX3 HX4
   have hib:((i:Int) == 16)=false:=by simp;omega
   have hdl:(bits.drop (pos+m0)).length=bits.length-(pos+m0):=List.length_drop
   have HDD:=q7 (show (bits.drop pos).drop m0=bits.drop (pos+m0) from List.drop_drop)
   have HAB:=q7 (Jm hbits (pos+m0))
   have HLD:=q7 (show (bits.drop pos).length=bits.length-pos from List.length_drop)
   have HGET:=q7 (show ∀k (h:pos+m0+k<bits.length) (h2:k<(bits.drop (pos+m0)).length),bits[pos+m0+k]=(bits.drop (pos+m0))[k] from fun k h h2=>by rw[List.getElem_drop])
   rw[HDD.out] at HY4
   rw[HLD.out] at HY3 HY4
   generalize bits.drop (pos+m0)=L at *
   clear HDD h16
   go_wp2
   go_loopw [8,22] (fun v j wr=>∃k:Nat,k≤i∧k≤L.length∧j=.int .i64 k∧v=.int .i64 (js (L.take k):Nat)∧Hid (qR wr ba bb bits (pos+m0+k))∧Hid (w.grownBy wr (some ba)))
    (fun _ j _=>i-(intOf j).toNat)
   case atStart=>exact ⟨0,Nat.zero_le _,Nat.zero_le _,rfl,rfl,HT1,HG1⟩
   case round =>
    obtain ⟨k,hk,hkL,rfl,rfl,HTK,HGK⟩:=hrel
    by_cases hki:k<i
    ·have hd:decide ((k:Int)<(i:Int))=true:=by simp;omega
     by_cases hkl:k<L.length
     ·obtain ⟨v1,v2,v3,v4⟩:=q3H L k hkl HAB.out (by omega)
      have HV4:=q7 v4
      have HGT:=q7 (HGET.out k (by omega) hkl)
      clear v4
      go_wp2_with fail
      refine (q0e ba bb bits (pos+m0+k) _ HTK.out (by omega)).mono ?_
      rintro e w3 ⟨rfl,hw3⟩
      have HT3:=q7 (show qR w3 ba bb bits (pos+m0+(k+1)) by rw[←hw3];exact HTK.out.moved (by omega))
      have HG3:=q7 (show w.grownBy w3 (some ba) by
       rw[←hw3]
       refine ⟨HGK.out.os,HGK.out.tape,HGK.out.output,by simpa [World.setCell] using HGK.out.size,fun q hq hne=>?_⟩
       rw[Below.heap_setCell _ _ _ _ (fun e=>hne (by rw[e]))]
       exact HGK.out.block q hq hne)
      rw[HGT.out]
      clear hw3 HTK HGK HGT
      generalize L[k].toNat=c at *
      generalize js (L.take k)=V at *
      go_wp2
      go_roundw
      case rel=>exact ⟨k+1,by omega,by omega,by go_num,by rw[HV4.out];go_num,HT3,HG3⟩
      case measure=>simp[intOf];omega
     ·obtain rfl:k=L.length:=by omega
      have HNX:=q7 (HY3.out (by omega))
      have HTE:=q7 (show qR wr ba bb bits bits.length by have h:=HTK.out;rw[show pos+m0+L.length=bits.length by omega] at h;exact h)
      go_wp2_with (go_at_call 136;refine (q0z ba bb bits _ HTE.out).mono ?_;rintro e w3 ⟨rfl,rfl⟩)
      go_ret2
      refine ⟨fun d m h=>?_,fun _=>rfl,HGK.out⟩
      rw[HNX.out] at h;cases h
    ·obtain rfl:k=i:=by omega
     have hd:decide ((k:Int)<(k:Int))=false:=by simp
     have HNX:=q7 (HY4.out (by omega))
     have hv:=Ze _ (Qi HAB.out k)
     rw[List.length_take,Nat.min_eq_left hkL] at hv
     have HTV:=q7 (show JD k (js (L.take k))=if js (L.take k)<2 ^ k / 2 then ((js (L.take k):Nat):Int)-((2 ^ k:Nat)-1) else ((js (L.take k):Nat):Int) by rw[JD,jo])
     have hw:=zX (n:=k) (by omega)
     have hp:=Jw (n:=k) (by omega)
     generalize js (L.take k)=V at *
     generalize JD k V=TV at *
     obtain ⟨p,hpe⟩:∃p:Nat,2 ^ k=p:=⟨_,rfl⟩
     rw[hpe] at hw hp hv HTV
     clear hpe
     clear HY3 HY4 HGET HAB hdl hle hpl hbl hbits
     by_cases hlow:V<p / 2
     ·have HTV:=q7 (HTV.out.trans (if_pos hlow))
      go_wp2
      go_ret2
      refine ⟨fun d m h=>?_,fun h=>?_,HGK.out⟩
      ·rw[HNX.out] at h
       cases h
       refine ⟨Zc (congrArg (Value.int IntKind.i64) ?_) rfl,by rw[←Nat.add_assoc];exact HTK.out⟩
       rw[HTV.out]
      ·rw[HNX.out] at h;cases h
     ·have HTV:=q7 (HTV.out.trans (if_neg hlow))
      go_wp2
      go_ret2
      refine ⟨fun d m h=>?_,fun h=>?_,HGK.out⟩
      ·rw[HNX.out] at h
       cases h
       refine ⟨Zc (congrArg (Value.int IntKind.i64) ?_) rfl,by rw[←Nat.add_assoc];exact HTK.out⟩
       rw[HTV.out]
      ·rw[HNX.out] at h;cases h
 ·have HNX:=q7 (HX1.out her)
  have hne:(er != 0)=true:=by simpa using her
  clear her HC
  go_wp2
  go_ret2
  refine ⟨fun d m h=>?_,fun _=>rfl,HG1.out⟩
  rw[HNX.out] at h;cases h
theorem Jn (n:Int) (h0:0≤n) (h1:n≤4096) (w:World) :
  Calls Tryz.prog 103 #[.int .i64 n] w fun e w'=>e=.returned (.int .i64 ((n*30+7) / 8))∧w=w':=by
 go_enter Tryz.func103,Tryz.ntmps103
 go_wp2
 go_ret
 exact ⟨rfl,rfl⟩
set_option maxRecDepth 100000 in
theorem Xe (l:List UInt8) (hl:l.length≤281474976710656) (w:World) :
  Calls Tryz.prog 108 #[.string (str l)] w fun e w'=>e=.returned (.bool (J6 l))∧w=w':=by
 have hs:(str l).size=l.length:=qu l
 by_cases h8:l.length<8
 ·have hd:decide ((l.length:Int)<8)=true:=by simp;omega
  have HE:=q7 (show (!jX l)=J6 l by rw[J6];simp[h8])
  go_enter Tryz.func108,Tryz.ntmps108
  go_wp2_with (go_at_call 99;refine (Qf l _).mono ?_;rintro e w1 ⟨rfl,rfl⟩)
  go_ret
  exact ⟨qg HE.out,rfl⟩
 ·have hd:decide ((l.length:Int)<8)=false:=by simp;omega
  have HE:=q7 (show false=J6 l by rw[J6];simp[h8])
  go_enter Tryz.func108,Tryz.ntmps108
  go_wp2
  go_ret
  exact ⟨qg HE.out,rfl⟩
end Go.Proofs.YtanebhbfekcplaaGreat

namespace Go.Proofs.YtanebhbfekcplaaGreat
open Go.RowKit
def KJ (zs:List Int) (n:Nat):List Value:=zs.map (Value.int .i64)++List.replicate (n-zs.length) (.int .i64 0)
theorem q1B (n:Nat):KJ [] n=(madeCells (Value.int .i64 0).cells (n*1)).toList:=by
 rw[show (Value.int .i64 0).cells=#[Value.int .i64 0] from rfl,toList_madeCells_one];simp[KJ]
theorem q3O (zs:List Int) (n:Nat) (h:zs.length<n):(KJ zs n)[zs.length]?=some (.int .i64 0):=by
 rw[KJ,List.getElem?_append_right (by simp),List.length_map,Nat.sub_self,List.getElem?_replicate,if_pos (by omega)]
theorem q2o (zs:List Int) (n k:Nat) (hk:zs.length=k) (h:k<n):(KJ zs n)[k]?=some (.int .i64 0):=by subst hk;exact q3O zs n h
theorem q2I (zs:List Int) (n k:Nat) (x:Int) (hk:zs.length=k) (h:k<n):(KJ zs n).set k (.int .i64 x)=KJ (zs++[x]) n:=by
 subst hk
 rw[KJ,KJ,List.set_append_right _ _ (by simp),List.length_map,Nat.sub_self,show n-zs.length=(n-(zs.length+1))+1 by omega,List.replicate_succ,List.set_cons_zero]
 simp
theorem q3D (zs:List Int):KJ zs zs.length=zs.map (Value.int .i64):=by simp[KJ]
theorem q1O (zs:List Int) (n:Nat):KJ zs n=(zs++List.replicate (n-zs.length) 0).map (Value.int .i64):=by simp[KJ]
theorem pad_ok (zs:List Int) (m:Nat) (h:jn zs=true):jn (zs++List.replicate m 0)=true:=by
 rw[jn,List.all_append,Bool.and_eq_true]
 refine ⟨h,?_⟩
 rw[List.all_eq_true]
 intro x hx
 rw[List.eq_of_mem_replicate hx];rfl
set_option maxRecDepth 100000 in
set_option maxHeartbeats 1600000 in
theorem q1A (s:ByteArray) (W H:Nat) (kind:Int) (v:Value) (xs:List Int) (w:World) (hv:qd w v xs) (hW:qz W=true) (hH:qz H=true) (hk:zk kind=true) (hE:ql xs=0) (hlen:s.size≤(W*H*30+7) / 8) :
  Calls Tryz.prog 54 #[.string s,.int .i64 W,.int .i64 H,.int .i64 kind,v] w fun e w'=>∃r,e=.returned (.tuple #[.agg #[.int .i64 (zz s.data.toList W H kind xs),.int .i64 (zC s.data.toList W H kind xs),r],.int .i64 (qP s.data.toList W H kind xs)])∧qd w' r (jO s.data.toList W H kind xs)∧Below w.heap.size w w':=by
 obtain ⟨hl1,hl2,hok,_,_⟩:=qT hE
 obtain ⟨i0,hi,hz0,hz1,hz2⟩:=info_parts Tryz.infoInt
 have b1:1≤(W:Int)∧(W:Int)≤64:=by simpa [qz] using hW
 have b2:1≤(H:Int)∧(H:Int)≤64:=by simpa [qz] using hH
 have b3:=jV b1 b2
 obtain ⟨b1,b1'⟩:=b1
 obtain ⟨b2,b2'⟩:=b2
 obtain ⟨N,hN⟩:∃N,W*H=N:=⟨_,rfl⟩
 have hNi:(W:Int)*(H:Int)=(N:Int):=by rw[←hN];simp
 rw[hNi] at b3
 rw[hN] at hlen
 have HRN:=q7 (q3c (s:=s.data.toList) (kind:=kind) (xs:=xs) hN)
 have HRS:=q7 (fun pos zs=>q3C (s:=s.data.toList) (kind:=kind) (xs:=xs) (zs:=zs) (pos:=pos) hN (by rw[jS];exact hlen))
 have HRE:=q7 (show qP s.data.toList W H kind xs=if (Qs s.data.toList W H kind xs).isSome=true then 0 else 1 by rw[qP,if_pos ⟨hW,hH⟩,if_pos hk,if_pos hE])
 have HN:=q7 hN
 clear hN
 have hle2:s.size≤15361:=by omega
 have HV:=q7 hv;clear hv
 have HE:=q7 hE
 have HOK:=q7 hok
 have hmb:decide (((N:Int)*30+7) / 8<(s.size:Int))=false:=by simp;omega
 clear hok
 go_enter Tryz.func54,Tryz.ntmps54
 go_wp2_with fail
 have R0:=heap_alloc_new w (Obj.cells #[.int .i64 0,.int .i64 0,.slice none 0 0] 34)
 have HB0:=q7 (qa w (Obj.cells #[.int .i64 0,.int .i64 0,.slice none 0 0] 34))
 have hlt0:w.heap.size<(w.alloc (Obj.cells #[.int .i64 0,.int .i64 0,.slice none 0 0] 34)).heap.size:=by simp
 generalize w.alloc (Obj.cells #[.int .i64 0,.int .i64 0,.slice none 0 0] 34)=w0 at *
 refine (jf _ _).mono ?_
 rintro e w1 ⟨rfl,hb1⟩
 rw[hW]
 go_wp2_with fail
 refine (jf _ _).mono ?_
 rintro e w2 ⟨rfl,hb2⟩
 rw[hH]
 go_wp2_with (go_at_call 101;refine (za _ _).mono ?_;rintro e wx ⟨rfl,rfl⟩;rw[hk])
 have HB2:=q7 (q8 hb1 hb2)
 refine (QH _ _ _ ((HV.out.below HB0.out (Nat.le_refl _)).below HB2.out (Nat.le_refl _)) HE.out).mono ?_
 rintro e w3 ⟨r,rfl,hr,hb3⟩
 have HR:=q7 hr
 have HB3:=q7 (q8 HB2.out hb3)
 clear hr hb1 hb2 hb3 HB2
 go_wp2_with (go_at_call 103;refine (Jn _ (by omega) (by omega) _).mono ?_;rintro e wx ⟨rfl,rfl⟩)
 refine (q26 _ _ _ HR.out (by rw[qp];exact hl1) (by rw[qp];exact hl2) (KI xs HOK.out)).mono ?_
 rintro e w4 ⟨cv,bm,nn,rfl,hcv,hbm,hb4⟩
 have HBM:=q7 hbm
 obtain ⟨co,cc,rfl,hx1,hx2⟩:=hcv
 have HB4:=q7 (q8 HB3.out hb4)
 clear hbm hx1 hx2 hb4 HB3 HR
 go_wp2_with fail
 have hKb:=qa w4 (Obj.cells #[.slice co (qh xs).length cc,.map (some bm)] 131)
 have hK:=heap_alloc_new w4 (Obj.cells #[.slice co (qh xs).length cc,.map (some bm)] 131)
 have hKs:(w4.alloc (Obj.cells #[.slice co (qh xs).length cc,.map (some bm)] 131)).heap.size=w4.heap.size+1:=by simp
 generalize w4.alloc (Obj.cells #[.slice co (qh xs).length cc,.map (some bm)] 131)=V0 at *
 refine (q0c s (by omega) _).mono ?_
 rintro e w5 ⟨rfl,hb5⟩
 have hbl:(ji s.data.toList).length≤122888:=by rw[zG,jS];omega
 have hbm:zx (ji s.data.toList)=true:=JM _
 have HDL:=q7 (rfl:s.data.toList=s.data.toList)
 have hs5:=hb5.size
 have h45:w4.heap.size<w5.heap.size:=by omega
 have h05:w.heap.size<w5.heap.size:=by have:=HB4.out.size;omega
 have HB5:=q7 (q8 (q8 HB4.out hKb) hb5)
 have HBK:=q7 ((HBM.out.below hKb (Nat.le_refl _)).below hb5 (Nat.le_refl _))
 have hK5:w5.heap[w4.heap.size]?=some (.cells #[.slice co (qh xs).length cc,.map (some bm)] 131 (0,0)):=by rw[hb5.block _ (by omega)];exact hK
 have HK0:=q7 (show w5.cell? ⟨w4.heap.size,0,none⟩=some (.slice co (qh xs).length cc) by rw[Lib.cell_of_heap hK5];rfl)
 have HK1:=q7 (show w5.cell? ⟨w4.heap.size,1,none⟩=some (.map (some bm)) by rw[Lib.cell_of_heap hK5];rfl)
 have HR5:=q7 (show w5.heap[w.heap.size]?=some (.cells #[.int .i64 0,.int .i64 0,.slice none 0 0] 34 (0,0)) by rw[HB5.out.block _ hlt0];exact R0)
 have HBK:Hid (qC w5 bm nn (Q6 xs)):=HBK
 have HFL:=q7 (Ke xs HOK.out)
 have HCL:=q7 (nx_cls xs HE.out)
 have HDR:=q7 (show ∀p d n,nxD (Q6 xs) ((ji s.data.toList).drop p)=some (d,n)→-32768<d∧d≤32768 from fun p d n h=>by
  have:=q2W (qh xs) (by rw[qp];exact hl2) _ (Jm (JM s.data.toList) p) (q0k xs HE.out _) d n h
  exact ⟨this.2.2.1,this.2.2.2.1⟩)
 clear hKb hK hKs hb5 hK5 HBM R0 HB4 hs5
 generalize hbf:Q6 xs=f at *
 have HBF:=q7 hbf;clear hbf
 generalize hbb:ji s.data.toList=b at *
 have HBB:=q7 hbb;clear hbb
 go_wp2_with fail
 refine (q2J b (by omega) w5).mono ?_
 rintro e w6 ⟨ba,bb,rfl,ht6,hwa,hwb,hb6⟩
 have HT6:=q7 ht6
 have hla:=HT6.out.lt
 have h56:=hb6.size
 clear ht6
 go_wp2_with (at_make;refine wpList_make_full _ rfl _ _ 22 rfl w6.heap.size 3 i0 (.int .i64 0) 1 Tryz.underlying22 hi hz0 hz1 .i64 .i64 _ _ N rfl rfl rfl rfl (by rw[hz2];omega) (by unfold maxLen;omega) (Nat.le_refl _) ?_;intro w7 hown hgr)
 have h67:w6.heap.size<w7.heap.size:=(hown.lt w6.heap.size rfl).2
 have HI:=q7 (show qR (w7.alloc (Obj.cells #[.int .i64 W,.int .i64 H,.slice (some ⟨w6.heap.size,0,none⟩) N N] 34)) ba bb b 0∧Below w5.heap.size w5 (w7.alloc (Obj.cells #[.int .i64 W,.int .i64 H,.slice (some ⟨w6.heap.size,0,none⟩) N N] 34)) from
  ⟨qR.below (⟨by rw[hgr.block ba hla.1 (by simp)];exact HT6.out.1,by rw[hgr.block bb hla.2 (by simp)];exact HT6.out.2.1,HT6.out.2.2⟩:qR w7 ba bb b 0) (qa _ _),(hb6.grown hgr hb6.size (by simp)).alloc (by omega) _⟩)
 have HP0:=q7 (heap_alloc_new w7 (Obj.cells #[.int .i64 W,.int .i64 H,.slice (some ⟨w6.heap.size,0,none⟩) N N] 34))
 have hown2:=hown.alloc (Obj.cells #[.int .i64 W,.int .i64 H,.slice (some ⟨w6.heap.size,0,none⟩) N N] 34)
 rw[←q1B] at hown2
 have hPs:w7.heap.size<(w7.alloc (Obj.cells #[.int .i64 W,.int .i64 H,.slice (some ⟨w6.heap.size,0,none⟩) N N] 34)).heap.size:=by simp
 generalize w7.alloc (Obj.cells #[.int .i64 W,.int .i64 H,.slice (some ⟨w6.heap.size,0,none⟩) N N] 34)=W8 at *
 clear hown hgr HT6
 generalize w7.heap.size=PB at *
 go_loopw [69] (fun i wr=>∃(k pos:Nat) (zs:List Int),k≤N∧i=.int .i64 k∧zs.length=k∧Hid (rdD f b W kind k=some (pos,zs))∧Hid (qR wr ba bb b pos)∧wr.ownsRow w6.heap.size 3 1 (.slice (some ⟨w6.heap.size,0,none⟩) N N) N (KJ zs N)∧Hid (wr.heap[PB]?=some (.cells #[.int .i64 W,.int .i64 H,.slice (some ⟨w6.heap.size,0,none⟩) N N] 34 (0,0)))∧Hid (Below w5.heap.size w5 wr)∧PB<wr.heap.size)
  (fun i _=>N-(intOf i).toNat)
 case atStart=>exact ⟨0,0,[],Nat.zero_le _,rfl,rfl,rfl,HI.out.1,hown2,HP0,HI.out.2,hPs⟩
 case round =>
  obtain ⟨k,pos,zs,hk,rfl,hzl,HRK,HTK,ho,HPB,HBL,hPl⟩:=hrel
  clear hown2 HI HP0 hPs
  have hsz:=HBL.out.size
  by_cases hlt:k<N
  ·have hd:decide ((k:Int)<(N:Int))=true:=by simp;omega
   have c2:=(HBL.out.cell (p:=⟨w4.heap.size,0,none⟩) h45).trans HK0.out
   have c3:=(HBL.out.cell (p:=⟨w4.heap.size,1,none⟩) h45).trans HK1.out
   have HBW:=q7 (HBK.out.below HBL.out (Nat.le_refl _))
   go_wp2_with fail
   refine (q1H co _ cc bm nn f ba bb b pos _ HBW.out HFL.out HTK.out hbm (HCL.out _)).mono ?_
   rintro e w9 ⟨hsome,hnone,hg9⟩
   have HB9:=q7 (HBL.out.grown hg9 hsz (fun j hj=>by cases hj;exact hwa))
   cases hnx:nxD f (b.drop pos) with
   | none =>
    obtain rfl:=hnone hnx
    have HRDN:=q7 (show Qs s.data.toList W H kind xs=none from HRN.out (by
     refine q34 (k:=k+1) hlt ?_
     rw[rdD,HRK.out];simp only[hnx]))
    have HNE:=q7 (show qP s.data.toList W H kind xs=1 by rw[HRE.out,HRDN.out];rfl)
    have hR9:w9.heap[w.heap.size]?=some (.cells #[.int .i64 0,.int .i64 0,.slice none 0 0] 34 (0,0)):=by rw[HB9.out.block _ h05];exact HR5.out
    have q0:w9.cell? ⟨w.heap.size,0,none⟩=some (.int .i64 0):=by rw[Lib.cell_of_heap hR9];rfl
    have q1:w9.cell? ⟨w.heap.size,1,none⟩=some (.int .i64 0):=by rw[Lib.cell_of_heap hR9];rfl
    have q2:w9.cell? ⟨w.heap.size,2,none⟩=some (.slice none 0 0):=by rw[Lib.cell_of_heap hR9];rfl
    have f0:=Lib.frozen_of_heap hR9 0
    have f1:=Lib.frozen_of_heap hR9 1
    have f2:=Lib.frozen_of_heap hR9 2
    clear hsome hnone hg9 hnx
    go_wp2
    refine bodyPost_ret (v:=.tuple #[.agg #[.int .i64 0,.int .i64 0,.slice none 0 0],.int .i64 1]) (by simp[results,Tryz.results54,go_sem,q0,q1,q2]) rfl ⟨.slice none 0 0,?_,?_,?_⟩
    ·rw[zz,zC,HNE.out];rfl
    ·rw[jO,HNE.out];exact qd.nil _
    ·exact (((HB0.out.trans ((HB5.out.trans (HB9.out.mono HB5.out.size)).mono HB0.out.size)).setCell (p:=⟨w.heap.size,0,none⟩) (Nat.le_refl _) _).setCell (p:=⟨w.heap.size,1,none⟩) (Nat.le_refl _) _).setCell (p:=⟨w.heap.size,2,none⟩) (Nat.le_refl _) _
   | some q =>
    obtain ⟨D,m⟩:=q
    obtain ⟨rfl,ht9⟩:=hsome D m hnx
    have HT9:=q7 ht9
    obtain ⟨hzs1,hzs2⟩:=q2t HRK.out
    have HRK2:=q7 (show rdD f b W kind (k+1)=some (pos+m,zs++[(gAt zs W kind k+D) % 65536]) by rw[rdD,HRK.out];simp only[hnx])
    have ho9:w9.ownsRow w6.heap.size 3 1 (.slice (some ⟨w6.heap.size,0,none⟩) N N) N (KJ zs N):=ho.kept hg9 (.inr (by simp only[Value.ownBlock];intro h;simp only[Option.some.injEq] at h;omega))
    have hs9:=hg9.size
    have hP9:w9.heap[PB]?=some (.cells #[.int .i64 W,.int .i64 H,.slice (some ⟨w6.heap.size,0,none⟩) N N] 34 (0,0)):=by rw[hg9.block PB hPl (by simp;omega)];exact HPB.out
    clear hsome hnone ht9 HTK ho HPB HBL hg9 HBW c2 c3
    have hDr:=HDR.out pos D m hnx
    clear hnx
    have HIN9:=q7 (show qd w9 (.slice (some ⟨w6.heap.size,0,none⟩) N N) (zs++List.replicate (N-zs.length) 0) by
     have hlp:(zs++List.replicate (N-zs.length) 0).length=N:=by rw[List.length_append,List.length_replicate];omega
     refine qd.own (base:=w6.heap.size) ?_ (by rw[hlp];omega)
     rw[hlp,←q1O];exact ho9)
    have hgp:gAt (zs++List.replicate (N-zs.length) 0) W kind k=gAt zs W kind k:=q24 (by omega) fun j hj=>by simp[List.getD,List.getElem?_append_left (show j<zs.length by omega)]
    have hgr:=ZB zs W kind k hzs2
    have hw1:¬(W=0):=by omega
    have hw2:¬((W:Int)=0):=by omega
    have hqb:k / W≤4096:=Nat.le_trans (Nat.div_le_self k W) (by omega)
    have HREM:=q7 (show (k:Int) % (W:Int)=((k % W:Nat):Int) from rfl)
    have HQUO:=q7 (show IntKind.i64.wrap ((k:Int) / (W:Int))=((k / W:Nat):Int) by rw[show (k:Int) / (W:Int)=((k / W:Nat):Int) from rfl];generalize k / W=q at hqb ⊢;exact IntWalk.i64_in _ (by omega))
    have HGU:=q7 (show ∀w',Below w9.heap.size w9 w'→Calls Tryz.prog 107 #[.agg #[.int .i64 W,.int .i64 H,.slice (some ⟨w6.heap.size,0,none⟩) N N],.int .i64 kind,.int .i64 ((k % W:Nat):Int),.int .i64 ((k / W:Nat):Int)] w' fun e w''=>e=.returned (.int .i64 (gAt zs W kind k))∧Below w9.heap.size w9 w'' from fun w' h=>by
     have hlp:(zs++List.replicate (N-zs.length) 0).length=N:=by rw[List.length_append,List.length_replicate];omega
     refine (Ko _ (zs++List.replicate (N-zs.length) 0) W _ _ H kind k w' (HIN9.out.below h (Nat.le_refl _)) (by omega) (by omega) (by rw[hlp];exact hlt) (by rw[hlp];omega) (pad_ok _ _ hzs2) rfl rfl).mono fun e w'' h2=>⟨?_,h.trans (h2.2.mono h.size)⟩
     rw[←hgp];exact h2.1)
    clear hgp hqb
    generalize gAt zs W kind k=G at *
    have hgd:IntKind.i64.wrap (G+D)=G+D:=IntWalk.i64_in _ (by omega)
    have hand:=q3R (G+D)
    have p0:w9.cell? ⟨PB,0,none⟩=some (.int .i64 W):=by rw[Lib.cell_of_heap hP9];rfl
    have p1:w9.cell? ⟨PB,1,none⟩=some (.int .i64 H):=by rw[Lib.cell_of_heap hP9];rfl
    have p2:w9.cell? ⟨PB,2,none⟩=some (.slice (some ⟨w6.heap.size,0,none⟩) N N):=by rw[Lib.cell_of_heap hP9];rfl
    have hPl9:PB<w9.heap.size:=by omega
    have hne6:PB≠w6.heap.size:=by omega
    have c9:=ho9.cellAt k (by omega)
    rw[q2o zs N k hzl hlt] at c9
    have f9:=ho9.frozenAt k
    have HCX:=q7 (show ∀w',Below w9.heap.size w9 w'→w'.cell? ⟨w6.heap.size,k,none⟩=some (.int .i64 0)∧w'.frozen? ⟨w6.heap.size,k,none⟩=false from fun w' h =>
     ⟨(h.cell (p:=⟨w6.heap.size,k,none⟩) (by show w6.heap.size<_;omega)).trans c9,(World.frozen?_of_block (h.block w6.heap.size (by omega))).trans f9⟩)
    have HS:=q7 (show ∀w',Below w9.heap.size w9 w'→w'.cell? ⟨PB,0,none⟩=some (.int .i64 W)∧w'.cell? ⟨PB,1,none⟩=some (.int .i64 H)∧w'.cell? ⟨PB,2,none⟩=some (.slice (some ⟨w6.heap.size,0,none⟩) N N) from fun w' h =>
     ⟨(h.cell (p:=⟨PB,0,none⟩) hPl9).trans p0,(h.cell (p:=⟨PB,1,none⟩) hPl9).trans p1,(h.cell (p:=⟨PB,2,none⟩) hPl9).trans p2⟩)
    have HS2:=q7 (show ∀w' u,Below w9.heap.size w9 w'→(w'.setCell ⟨w6.heap.size,k,none⟩ u).cell? ⟨PB,0,none⟩=some (.int .i64 W)∧(w'.setCell ⟨w6.heap.size,k,none⟩ u).cell? ⟨PB,1,none⟩=some (.int .i64 H)∧(w'.setCell ⟨w6.heap.size,k,none⟩ u).cell? ⟨PB,2,none⟩=some (.slice (some ⟨w6.heap.size,0,none⟩) N N) from fun w' u h=>by
     obtain ⟨t0,t1,t2⟩:=HS.out w' h
     have hbk:=Below.heap_setCell w' ⟨w6.heap.size,k,none⟩ u PB hne6
     exact ⟨(World.cell?_of_block (a:=⟨PB,0,none⟩) hbk).trans t0,(World.cell?_of_block (a:=⟨PB,1,none⟩) hbk).trans t1,(World.cell?_of_block (a:=⟨PB,2,none⟩) hbk).trans t2⟩)
    have hk0:(0:Int)≤(k:Int):=by omega
    have hkN:(k:Int)<(N:Int):=by omega
    have hrefl:=Below.refl w9.heap.size w9
    have hdrew:Below w9.heap.size w9 w9.drew:=(Below.refl _ _).drew
    go_wp2_with fail
    go_region_held3 (fun w'=>w'.cell? ⟨PB,0,none⟩=some (.int .i64 W)∧w'.cell? ⟨PB,1,none⟩=some (.int .i64 H)∧w'.cell? ⟨PB,2,none⟩=some (.slice (some ⟨w6.heap.size,0,none⟩) N N))
     (first|(refine HS.out _ ?_;assumption)|(refine HS2.out _ _ ?_;assumption)|go_keep)
     (first|(go_at_call 107;(try rw[HREM.out]);(try rw[HQUO.out]);refine (HGU.out _ ?_).mono ?_;assumption;rintro e wx ⟨rfl,hNB⟩;obtain ⟨cx,fx⟩:=HCX.out _ hNB))
    have hox:=((qy ho9 hNB).stored k (.int .i64 ((G+D) % 65536))).1
    rw[q2I zs N k _ hzl hlt] at hox
    have HTX:=q7 (show qR (wx.setCell ⟨w6.heap.size,k,none⟩ (.int .i64 ((G+D) % 65536))) ba bb b (pos+m) by
     have h:=HT9.out.below hNB
     exact ⟨by rw[Below.heap_setCell _ _ _ _ (by show ba≠w6.heap.size;omega)];exact h.1,by rw[Below.heap_setCell _ _ _ _ (by show bb≠w6.heap.size;omega)];exact h.2.1,h.2.2⟩)
    have HPX:=q7 (show (wx.setCell ⟨w6.heap.size,k,none⟩ (.int .i64 ((G+D) % 65536))).heap[PB]?=some (.cells #[.int .i64 W,.int .i64 H,.slice (some ⟨w6.heap.size,0,none⟩) N N] 34 (0,0)) by
     rw[Below.heap_setCell _ _ _ _ hne6,hNB.block PB hPl9];exact hP9)
    have HBX:=q7 (show Below w5.heap.size w5 (wx.setCell ⟨w6.heap.size,k,none⟩ (.int .i64 ((G+D) % 65536))) from (HB9.out.trans (hNB.mono HB9.out.size)).setCell (p:=⟨w6.heap.size,k,none⟩) (by show w5.heap.size≤w6.heap.size;omega) _)
    have hszx:PB<(wx.setCell ⟨w6.heap.size,k,none⟩ (.int .i64 ((G+D) % 65536))).heap.size:=by have:=hNB.size;simp[World.setCell];omega
    have hzl2:(zs++[(G+D) % 65536]).length=k+1:=by simp[hzl]
    generalize wx.setCell ⟨w6.heap.size,k,none⟩ (.int .i64 ((G+D) % 65536))=WX at *
    clear hrefl hdrew cx fx hNB HS HS2 HCX HGU c9 f9 p0 p1 p2 hand hgd ho9
    go_wp2
    go_roundw
    case rel=>exact ⟨k+1,pos+m,zs++[(G+D) % 65536],by omega,by go_num,hzl2,HRK2,HTX,hox,HPX,HBX,hszx⟩
    case measure=>simp[intOf];omega
  ·obtain rfl:k=N:=by omega
   have hd:decide ((k:Int)<(k:Int))=false:=by simp
   have HRSZ:=q7 (HRS.out pos zs HRK.out)
   have hRr:wr.heap[w.heap.size]?=some (.cells #[.int .i64 0,.int .i64 0,.slice none 0 0] 34 (0,0)):=by rw[HBL.out.block _ h05];exact HR5.out
   have q0:wr.cell? ⟨w.heap.size,0,none⟩=some (.int .i64 0):=by rw[Lib.cell_of_heap hRr];rfl
   have q1:wr.cell? ⟨w.heap.size,1,none⟩=some (.int .i64 0):=by rw[Lib.cell_of_heap hRr];rfl
   have q2:wr.cell? ⟨w.heap.size,2,none⟩=some (.slice none 0 0):=by rw[Lib.cell_of_heap hRr];rfl
   have f0:=Lib.frozen_of_heap hRr 0
   have f1:=Lib.frozen_of_heap hRr 1
   have f2:=Lib.frozen_of_heap hRr 2
   have p0:wr.cell? ⟨PB,0,none⟩=some (.int .i64 W):=by rw[Lib.cell_of_heap HPB.out];rfl
   have p1:wr.cell? ⟨PB,1,none⟩=some (.int .i64 H):=by rw[Lib.cell_of_heap HPB.out];rfl
   have p2:wr.cell? ⟨PB,2,none⟩=some (.slice (some ⟨w6.heap.size,0,none⟩) k k):=by rw[Lib.cell_of_heap HPB.out];rfl
   have HWR:=q7 (HB0.out.trans ((HB5.out.trans (HBL.out.mono HB5.out.size)).mono HB0.out.size))
   have hdl:(b.drop pos).length≤281474976710656:=by rw[List.length_drop];omega
   have hR6:w.heap.size<w6.heap.size:=by omega
   have hRP:w.heap.size≠PB:=by omega
   cases hf:J6 (b.drop pos) with
   | false =>
    have HNE:=q7 (show qP s.data.toList W H kind xs=1 by rw[HRE.out,HRSZ.out,hf];rfl)
    clear ho
    go_wp2_with (first|(go_at_call 137;refine (q0m ba bb b _ _ HTK.out).mono ?_;rintro e wx ⟨rfl,rfl⟩)|(go_at_call 108;refine (Xe _ hdl _).mono ?_;rintro e wx ⟨rfl,rfl⟩;rw[hf]))
    refine bodyPost_ret (v:=.tuple #[.agg #[.int .i64 0,.int .i64 0,.slice none 0 0],.int .i64 1]) (by simp[results,Tryz.results54,go_sem,q0,q1,q2]) rfl ⟨.slice none 0 0,?_,?_,?_⟩
    ·rw[zz,zC,HNE.out];rfl
    ·rw[jO,HNE.out];exact qd.nil _
    ·exact ((HWR.out.setCell (p:=⟨w.heap.size,0,none⟩) (Nat.le_refl _) _).setCell (p:=⟨w.heap.size,1,none⟩) (Nat.le_refl _) _).setCell (p:=⟨w.heap.size,2,none⟩) (Nat.le_refl _) _
   | true =>
    have HNS:=q7 (show Qs s.data.toList W H kind xs=some zs by rw[HRSZ.out,hf];rfl)
    have HNE:=q7 (show qP s.data.toList W H kind xs=0 by rw[HRE.out,HNS.out];rfl)
    have HOW:=q7 (((ownsRow_setCell_below (ownsRow_setCell_below (ownsRow_setCell_below ho (a:=⟨w.heap.size,0,none⟩) hR6 (.int .i64 W)) (a:=⟨w.heap.size,1,none⟩) hR6 (.int .i64 H)) (a:=⟨w.heap.size,2,none⟩) hR6 (.slice (some ⟨w6.heap.size,0,none⟩) k k))))
    clear ho
    go_wp2_with (first|(go_at_call 137;refine (q0m ba bb b _ _ HTK.out).mono ?_;rintro e wx ⟨rfl,rfl⟩)|(go_at_call 108;refine (Xe _ hdl _).mono ?_;rintro e wx ⟨rfl,rfl⟩;rw[hf]))
    refine bodyPost_ret (v:=.tuple #[.agg #[.int .i64 W,.int .i64 H,.slice (some ⟨w6.heap.size,0,none⟩) k k],.int .i64 0]) (by simp[results,Tryz.results54,go_sem,q0,q1,q2]) rfl ⟨.slice (some ⟨w6.heap.size,0,none⟩) k k,?_,?_,?_⟩
    ·rw[zz,zC,HNE.out];rfl
    ·rw[jO,HNE.out,if_pos rfl,HNS.out]
     have h:=HOW.out
     rw[←hzl,q3D] at h
     rw[←hzl]
     show qd _ _ zs
     exact qd.own h (by omega)
    ·exact ((HWR.out.setCell (p:=⟨w.heap.size,0,none⟩) (Nat.le_refl _) _).setCell (p:=⟨w.heap.size,1,none⟩) (Nat.le_refl _) _).setCell (p:=⟨w.heap.size,2,none⟩) (Nat.le_refl _) _
set_option maxRecDepth 100000 in
set_option maxHeartbeats 800000 in
theorem q2y (s:ByteArray) (W H kind:Int) (v:Value) (xs:List Int) (w:World) (hv:qd w v xs) :
  Calls Tryz.prog 54 #[.string s,.int .i64 W,.int .i64 H,.int .i64 kind,v] w fun e w'=>∃r,e=.returned (.tuple #[.agg #[.int .i64 (zz s.data.toList W H kind xs),.int .i64 (zC s.data.toList W H kind xs),r],.int .i64 (qP s.data.toList W H kind xs)])∧qd w' r (jO s.data.toList W H kind xs)∧Below w.heap.size w w':=by
 by_cases hW:qz W=true
 ·by_cases hH:qz H=true
  ·by_cases hk:zk kind=true
   ·by_cases hE:ql xs=0
    ·have b1:1≤W∧W≤64:=by simpa [qz] using hW
     have b2:1≤H∧H≤64:=by simpa [qz] using hH
     obtain ⟨WN,rfl⟩:=Int.eq_ofNat_of_zero_le (show 0≤W by omega)
     obtain ⟨HN,rfl⟩:=Int.eq_ofNat_of_zero_le (show 0≤H by omega)
     by_cases hl:s.size≤(WN*HN*30+7) / 8
     ·exact q1A s WN HN kind v xs w hv hW hH hk hE hl
     ·have HNE:=q7 (show qP s.data.toList WN HN kind xs=1 by
       have hn:Qs s.data.toList WN HN kind xs=none:=by rw[Qs,Int.toNat_natCast,Int.toNat_natCast];exact if_neg (by rw[jS];exact hl)
       rw[qP,if_pos ⟨hW,hH⟩,if_pos hk,if_pos hE,hn];rfl)
      have b3:=jV b1 b2
      obtain ⟨N,hN⟩:∃N,WN*HN=N:=⟨_,rfl⟩
      have hNi:(WN:Int)*(HN:Int)=(N:Int):=by rw[←hN];simp
      rw[hNi] at b3
      rw[hN] at hl
      clear hN
      have hmb:decide (((N:Int)*30+7) / 8<(s.size:Int))=true:=by simp;omega
      have HV:=q7 hv
      have HE:=q7 hE
      clear hl hv hE
      go_enter Tryz.func54,Tryz.ntmps54
      go_wp2_with fail
      have R0:=heap_alloc_new w (Obj.cells #[.int .i64 0,.int .i64 0,.slice none 0 0] 34)
      have HB0:=q7 (qa w (Obj.cells #[.int .i64 0,.int .i64 0,.slice none 0 0] 34))
      have hlt0:w.heap.size<(w.alloc (Obj.cells #[.int .i64 0,.int .i64 0,.slice none 0 0] 34)).heap.size:=by simp
      generalize w.alloc (Obj.cells #[.int .i64 0,.int .i64 0,.slice none 0 0] 34)=w0 at *
      refine (jf _ _).mono ?_
      rintro e w1 ⟨rfl,hb1⟩
      rw[hW]
      go_wp2_with fail
      refine (jf _ _).mono ?_
      rintro e w2 ⟨rfl,hb2⟩
      rw[hH]
      go_wp2_with (go_at_call 101;refine (za _ _).mono ?_;rintro e wx ⟨rfl,rfl⟩;rw[hk])
      have HB2:=q7 (q8 hb1 hb2)
      refine (QH _ _ _ ((HV.out.below HB0.out (Nat.le_refl _)).below HB2.out (Nat.le_refl _)) HE.out).mono ?_
      rintro e WE ⟨r,rfl,hr,hb3⟩
      have HBE:=q7 (q8 HB2.out hb3)
      clear hr hb1 hb2 hb3 HB2
      have HWR:=q7 (q8 HB0.out HBE.out)
      have hRr:WE.heap[w.heap.size]?=some (.cells #[.int .i64 0,.int .i64 0,.slice none 0 0] 34 (0,0)):=by rw[HBE.out.block _ hlt0];exact R0
      have q0:WE.cell? ⟨w.heap.size,0,none⟩=some (.int .i64 0):=by rw[Lib.cell_of_heap hRr];rfl
      have q1:WE.cell? ⟨w.heap.size,1,none⟩=some (.int .i64 0):=by rw[Lib.cell_of_heap hRr];rfl
      have q2:WE.cell? ⟨w.heap.size,2,none⟩=some (.slice none 0 0):=by rw[Lib.cell_of_heap hRr];rfl
      have f0:=Lib.frozen_of_heap hRr 0
      have f1:=Lib.frozen_of_heap hRr 1
      have f2:=Lib.frozen_of_heap hRr 2
      go_wp2_with (go_at_call 103;refine (Jn _ (by omega) (by omega) _).mono ?_;rintro e wx ⟨rfl,rfl⟩)
      refine bodyPost_ret (v:=.tuple #[.agg #[.int .i64 0,.int .i64 0,.slice none 0 0],.int .i64 1]) (by simp[results,Tryz.results54,go_sem,q0,q1,q2]) rfl ⟨.slice none 0 0,?_,?_,?_⟩
      ·rw[zz,zC,HNE.out];simp
      ·rw[jO,HNE.out];exact qd.nil _
      ·exact ((HWR.out.setCell (p:=⟨w.heap.size,0,none⟩) (Nat.le_refl _) _).setCell (p:=⟨w.heap.size,1,none⟩) (Nat.le_refl _) _).setCell (p:=⟨w.heap.size,2,none⟩) (Nat.le_refl _) _
    ·have HNE:=q7 (show qP s.data.toList W H kind xs=ql xs by rw[qP,if_pos ⟨hW,hH⟩,if_pos hk,if_neg hE])
     have hne:(ql xs != 0)=true:=by simpa using hE
     have HNZ:=q7 hE
     have HV:=q7 hv
     clear hE hv
     go_enter Tryz.func54,Tryz.ntmps54
     go_wp2_with fail
     have R0:=heap_alloc_new w (Obj.cells #[.int .i64 0,.int .i64 0,.slice none 0 0] 34)
     have HB0:=q7 (qa w (Obj.cells #[.int .i64 0,.int .i64 0,.slice none 0 0] 34))
     have hlt0:w.heap.size<(w.alloc (Obj.cells #[.int .i64 0,.int .i64 0,.slice none 0 0] 34)).heap.size:=by simp
     generalize w.alloc (Obj.cells #[.int .i64 0,.int .i64 0,.slice none 0 0] 34)=w0 at *
     refine (jf _ _).mono ?_
     rintro e w1 ⟨rfl,hb1⟩
     rw[hW]
     go_wp2_with fail
     refine (jf _ _).mono ?_
     rintro e w2 ⟨rfl,hb2⟩
     rw[hH]
     go_wp2_with (go_at_call 101;refine (za _ _).mono ?_;rintro e wx ⟨rfl,rfl⟩;rw[hk])
     have HB2:=q7 (q8 hb1 hb2)
     refine (Kt _ _ _ ((HV.out.below HB0.out (Nat.le_refl _)).below HB2.out (Nat.le_refl _))).mono ?_
     rintro e WE ⟨r,rfl,hr,hb3⟩
     have HBE:=q7 (q8 HB2.out hb3)
     clear hr hb1 hb2 hb3 HB2
     have HWR:=q7 (q8 HB0.out HBE.out)
     have hRr:WE.heap[w.heap.size]?=some (.cells #[.int .i64 0,.int .i64 0,.slice none 0 0] 34 (0,0)):=by rw[HBE.out.block _ hlt0];exact R0
     have q0:WE.cell? ⟨w.heap.size,0,none⟩=some (.int .i64 0):=by rw[Lib.cell_of_heap hRr];rfl
     have q1:WE.cell? ⟨w.heap.size,1,none⟩=some (.int .i64 0):=by rw[Lib.cell_of_heap hRr];rfl
     have q2:WE.cell? ⟨w.heap.size,2,none⟩=some (.slice none 0 0):=by rw[Lib.cell_of_heap hRr];rfl
     have f0:=Lib.frozen_of_heap hRr 0
     have f1:=Lib.frozen_of_heap hRr 1
     have f2:=Lib.frozen_of_heap hRr 2
     go_wp2
     refine bodyPost_ret (v:=.tuple #[.agg #[.int .i64 0,.int .i64 0,.slice none 0 0],.int .i64 (ql xs)]) (by simp[results,Tryz.results54,go_sem,q0,q1,q2]) rfl ⟨.slice none 0 0,?_,?_,?_⟩
     ·rw[zz,zC,HNE.out,if_neg HNZ.out,if_neg HNZ.out]
     ·rw[jO,HNE.out,if_neg HNZ.out];exact qd.nil _
     ·exact ((HWR.out.setCell (p:=⟨w.heap.size,0,none⟩) (Nat.le_refl _) _).setCell (p:=⟨w.heap.size,1,none⟩) (Nat.le_refl _) _).setCell (p:=⟨w.heap.size,2,none⟩) (Nat.le_refl _) _
   ·have HNE:=q7 (show qP s.data.toList W H kind xs=6 by rw[qP,if_pos ⟨hW,hH⟩,if_neg hk])
    have hk:zk kind=false:=by simpa using hk
    clear hv
    go_enter Tryz.func54,Tryz.ntmps54
    go_wp2_with fail
    have R0:=heap_alloc_new w (Obj.cells #[.int .i64 0,.int .i64 0,.slice none 0 0] 34)
    have HB0:=q7 (qa w (Obj.cells #[.int .i64 0,.int .i64 0,.slice none 0 0] 34))
    have hlt0:w.heap.size<(w.alloc (Obj.cells #[.int .i64 0,.int .i64 0,.slice none 0 0] 34)).heap.size:=by simp
    generalize w.alloc (Obj.cells #[.int .i64 0,.int .i64 0,.slice none 0 0] 34)=w0 at *
    refine (jf _ _).mono ?_
    rintro e w1 ⟨rfl,hb1⟩
    rw[hW]
    go_wp2_with fail
    refine (jf _ _).mono ?_
    rintro e WE ⟨rfl,hb2⟩
    rw[hH]
    have HBE:=q7 (q8 hb1 hb2)
    clear hb1 hb2
    have HWR:=q7 (q8 HB0.out HBE.out)
    have hRr:WE.heap[w.heap.size]?=some (.cells #[.int .i64 0,.int .i64 0,.slice none 0 0] 34 (0,0)):=by rw[HBE.out.block _ hlt0];exact R0
    have q0:WE.cell? ⟨w.heap.size,0,none⟩=some (.int .i64 0):=by rw[Lib.cell_of_heap hRr];rfl
    have q1:WE.cell? ⟨w.heap.size,1,none⟩=some (.int .i64 0):=by rw[Lib.cell_of_heap hRr];rfl
    have q2:WE.cell? ⟨w.heap.size,2,none⟩=some (.slice none 0 0):=by rw[Lib.cell_of_heap hRr];rfl
    have f0:=Lib.frozen_of_heap hRr 0
    have f1:=Lib.frozen_of_heap hRr 1
    have f2:=Lib.frozen_of_heap hRr 2
    go_wp2_with (go_at_call 101;refine (za _ _).mono ?_;rintro e wx ⟨rfl,rfl⟩;rw[hk])
    refine bodyPost_ret (v:=.tuple #[.agg #[.int .i64 0,.int .i64 0,.slice none 0 0],.int .i64 6]) (by simp[results,Tryz.results54,go_sem,q0,q1,q2]) rfl ⟨.slice none 0 0,?_,?_,?_⟩
    ·rw[zz,zC,HNE.out];simp
    ·rw[jO,HNE.out];exact qd.nil _
    ·exact ((HWR.out.setCell (p:=⟨w.heap.size,0,none⟩) (Nat.le_refl _) _).setCell (p:=⟨w.heap.size,1,none⟩) (Nat.le_refl _) _).setCell (p:=⟨w.heap.size,2,none⟩) (Nat.le_refl _) _
  ·have HNE:=q7 (show qP s.data.toList W H kind xs=3 by rw[qP,if_neg (fun h=>hH h.2)])
   have hH:qz H=false:=by simpa using hH
   clear hv
   go_enter Tryz.func54,Tryz.ntmps54
   go_wp2_with fail
   have R0:=heap_alloc_new w (Obj.cells #[.int .i64 0,.int .i64 0,.slice none 0 0] 34)
   have HB0:=q7 (qa w (Obj.cells #[.int .i64 0,.int .i64 0,.slice none 0 0] 34))
   have hlt0:w.heap.size<(w.alloc (Obj.cells #[.int .i64 0,.int .i64 0,.slice none 0 0] 34)).heap.size:=by simp
   generalize w.alloc (Obj.cells #[.int .i64 0,.int .i64 0,.slice none 0 0] 34)=w0 at *
   refine (jf _ _).mono ?_
   rintro e w1 ⟨rfl,hb1⟩
   rw[hW]
   go_wp2_with fail
   refine (jf _ _).mono ?_
   rintro e WE ⟨rfl,hb2⟩
   rw[hH]
   have HBE:=q7 (q8 hb1 hb2)
   clear hb1 hb2
   have HWR:=q7 (q8 HB0.out HBE.out)
   have hRr:WE.heap[w.heap.size]?=some (.cells #[.int .i64 0,.int .i64 0,.slice none 0 0] 34 (0,0)):=by rw[HBE.out.block _ hlt0];exact R0
   have q0:WE.cell? ⟨w.heap.size,0,none⟩=some (.int .i64 0):=by rw[Lib.cell_of_heap hRr];rfl
   have q1:WE.cell? ⟨w.heap.size,1,none⟩=some (.int .i64 0):=by rw[Lib.cell_of_heap hRr];rfl
   have q2:WE.cell? ⟨w.heap.size,2,none⟩=some (.slice none 0 0):=by rw[Lib.cell_of_heap hRr];rfl
   have f0:=Lib.frozen_of_heap hRr 0
   have f1:=Lib.frozen_of_heap hRr 1
   have f2:=Lib.frozen_of_heap hRr 2
   go_wp2
   refine bodyPost_ret (v:=.tuple #[.agg #[.int .i64 0,.int .i64 0,.slice none 0 0],.int .i64 3]) (by simp[results,Tryz.results54,go_sem,q0,q1,q2]) rfl ⟨.slice none 0 0,?_,?_,?_⟩
   ·rw[zz,zC,HNE.out];simp
   ·rw[jO,HNE.out];exact qd.nil _
   ·exact ((HWR.out.setCell (p:=⟨w.heap.size,0,none⟩) (Nat.le_refl _) _).setCell (p:=⟨w.heap.size,1,none⟩) (Nat.le_refl _) _).setCell (p:=⟨w.heap.size,2,none⟩) (Nat.le_refl _) _
 ·have HNE:=q7 (show qP s.data.toList W H kind xs=3 by rw[qP,if_neg (fun h=>hW h.1)])
  have hW:qz W=false:=by simpa using hW
  clear hv
  go_enter Tryz.func54,Tryz.ntmps54
  go_wp2_with fail
  have R0:=heap_alloc_new w (Obj.cells #[.int .i64 0,.int .i64 0,.slice none 0 0] 34)
  have HB0:=q7 (qa w (Obj.cells #[.int .i64 0,.int .i64 0,.slice none 0 0] 34))
  have hlt0:w.heap.size<(w.alloc (Obj.cells #[.int .i64 0,.int .i64 0,.slice none 0 0] 34)).heap.size:=by simp
  generalize w.alloc (Obj.cells #[.int .i64 0,.int .i64 0,.slice none 0 0] 34)=w0 at *
  refine (jf _ _).mono ?_
  rintro e WE ⟨rfl,hb1⟩
  rw[hW]
  have HBE:=q7 hb1
  clear hb1
  have HWR:=q7 (q8 HB0.out HBE.out)
  have hRr:WE.heap[w.heap.size]?=some (.cells #[.int .i64 0,.int .i64 0,.slice none 0 0] 34 (0,0)):=by rw[HBE.out.block _ hlt0];exact R0
  have q0:WE.cell? ⟨w.heap.size,0,none⟩=some (.int .i64 0):=by rw[Lib.cell_of_heap hRr];rfl
  have q1:WE.cell? ⟨w.heap.size,1,none⟩=some (.int .i64 0):=by rw[Lib.cell_of_heap hRr];rfl
  have q2:WE.cell? ⟨w.heap.size,2,none⟩=some (.slice none 0 0):=by rw[Lib.cell_of_heap hRr];rfl
  have f0:=Lib.frozen_of_heap hRr 0
  have f1:=Lib.frozen_of_heap hRr 1
  have f2:=Lib.frozen_of_heap hRr 2
  go_wp2
  refine bodyPost_ret (v:=.tuple #[.agg #[.int .i64 0,.int .i64 0,.slice none 0 0],.int .i64 3]) (by simp[results,Tryz.results54,go_sem,q0,q1,q2]) rfl ⟨.slice none 0 0,?_,?_,?_⟩
  ·rw[zz,zC,HNE.out];simp
  ·rw[jO,HNE.out];exact qd.nil _
  ·exact ((HWR.out.setCell (p:=⟨w.heap.size,0,none⟩) (Nat.le_refl _) _).setCell (p:=⟨w.heap.size,1,none⟩) (Nat.le_refl _) _).setCell (p:=⟨w.heap.size,2,none⟩) (Nat.le_refl _) _
end Go.Proofs.YtanebhbfekcplaaGreat

namespace Go.Proofs.YtanebhbfekcplaaGreat
set_option linter.unusedVariables false
open Go.RowKit
def jk (w:World) (v:Value) (ts:List (List UInt8)):Prop :=
 ∃ao cap,v=.slice ao ts.length cap∧ts.length≤9223372036854775807∧(ts=[]∨∃b off,ao=some ⟨b,off,none⟩∧b<w.heap.size∧∀j,j<ts.length→w.cell? ⟨b,off+j,none⟩=some (.string (str (ts.getD j []))))
theorem jk.below {w w':World} {v:Value} {ts:List (List UInt8)} {B:Nat} (h:jk w v ts) (hb:Below B w w') (hB:w.heap.size≤B):jk w' v ts:=by
 obtain ⟨ao,cap,hv,hl,h⟩:=h
 refine ⟨ao,cap,hv,hl,?_⟩
 rcases h with h|⟨b,off,ha,hlt,hc⟩
 ·exact .inl h
 ·exact .inr ⟨b,off,ha,Nat.lt_of_lt_of_le hlt hb.size,fun j hj=>by rw[hb.cell (p:=⟨b,off+j,none⟩) (by exact Nat.lt_of_lt_of_le hlt hB)];exact hc j hj⟩
theorem jk.nil (w:World):jk w (.slice none 0 0) []:=⟨none,0,rfl,by simp,.inl rfl⟩
theorem jk.at {w:World} {ao:Option Addr} {ca n:Nat} {ts:List (List UInt8)} (h:jk w (.slice ao n ca) ts) (j:Nat) (hj:j<ts.length):∃b off,ao=some ⟨b,off,none⟩∧b<w.heap.size∧w.cell? ⟨b,off+j,none⟩=some (.string (str (ts.getD j []))):=by
 obtain ⟨ao',cap,hv,hl,h⟩:=h
 cases hv
 rcases h with h|⟨b,off,ha,hlt,hc⟩
 ·rw[h] at hj;simp at hj
 ·exact ⟨b,off,ha,hlt,hc j hj⟩
theorem qv {w:World} {b:Nat} {t:TypeId} {fr:Nat×Nat} {r:qH} {lv tv sv cv:Value} (h:w.heap[b]?=some (.cells (qs r lv tv sv cv) t fr)) :
  w.cell? ⟨b,0,none⟩=some (.int .i64 r.w)∧w.cell? ⟨b,1,none⟩=some (.int .i64 r.h)∧w.cell? ⟨b,2,none⟩=some (.int .i64 r.depth)∧w.cell? ⟨b,3,none⟩=some (.int .i64 r.kind)∧w.cell? ⟨b,4,none⟩=some (.int .i64 r.rows) ∧
  w.cell? ⟨b,5,none⟩=some lv∧w.cell? ⟨b,6,none⟩=some tv∧w.cell? ⟨b,13,none⟩=some sv∧w.cell? ⟨b,26,none⟩=some cv:=by
 refine ⟨?_,?_,?_,?_,?_,?_,?_,?_,?_⟩<;>(rw[Lib.cell_of_heap h];rfl)
structure jl (w:World) (r:qH) (lv tv sv cv:Value):Prop where
 lens:qd w lv r.lens
 strips:jk w tv r.strips
 plan:jY w r.plan sv cv
theorem jl.below {w w':World} {r:qH} {lv tv sv cv:Value} {B:Nat} (h:jl w r lv tv sv cv) (hb:Below B w w') (hB:w.heap.size≤B):jl w' r lv tv sv cv :=
 ⟨h.lens.below hb hB,h.strips.below hb hB,h.plan.below hb hB⟩
set_option maxRecDepth 100000 in
set_option maxHeartbeats 800000 in
theorem QK (r:qH) (lv tv sv cv:Value) (w:World) (h:zy r) :
  Calls Tryz.prog 20 #[.agg (qs r lv tv sv cv)] w fun e w'=>e=.returned (.int .i64 (jG r))∧Below w.heap.size w w':=by
 have hb:=h.rows
 have hc:=h.h
 obtain ⟨X,hX⟩:∃X:Int,r.h+r.rows-1=X:=⟨_,rfl⟩
 have hp:=h.cnt_int
 rw[hX] at hp
 have hx:0≤X:=by omega
 have hn:¬r.rows=0:=by omega
 have a1:=al1 w (Obj.cells (qs r lv tv sv cv) 32)
 have HB:=q7 (qa w (Obj.cells (qs r lv tv sv cv) 32))
 have t1:IntKind.i64.wrap (r.h+r.rows)=r.h+r.rows:=IntWalk.i64_in _ (by omega)
 have t2:IntKind.i64.wrap (r.h+r.rows-1)=X:=by rw[←hX];exact IntWalk.i64_in _ (by omega)
 have hq:X.tdiv r.rows=(jG r:Int):=by rw[hp];exact Int.tdiv_eq_ediv_of_nonneg hx
 have hle:=h.cnt_le
 have t3:IntKind.i64.wrap (X.tdiv r.rows)=(jG r:Int):=by rw[hq];exact IntWalk.i64_in _ (by omega)
 have HC:=q7 hp.symm
 clear hp
 generalize jG r=C at *
 obtain ⟨s0,s1,s2,s3,s4,s5,s6,s13,s26⟩:=qv a1
 go_enter Tryz.func20,Tryz.ntmps20
 go_wp2
 go_ret
 exact ⟨qt (by first|rfl|exact HC.out),HB.out⟩
set_option maxRecDepth 100000 in
set_option maxHeartbeats 800000 in
theorem Jk (r:qH) (lv tv sv cv:Value) (i:Nat) (w:World) (h:zy r) (hi:i<jG r) :
  Calls Tryz.prog 23 #[.agg (qs r lv tv sv cv),.int .i64 i] w fun e w'=>e=.returned (.int .i64 (jj r i))∧Below w.heap.size w w':=by
 have hb:=h.rows
 have hc:=h.h
 have hlt:=(h.cnt_pos i).1 hi
 have hle:=h.cnt_le
 have a1:=al1 w (Obj.cells (qs r lv tv sv cv) 32)
 have HB:=q7 (qa w (Obj.cells (qs r lv tv sv cv) 32))
 have h0:0≤(i:Int)*r.rows:=Int.mul_nonneg (by omega) (by omega)
 have t1:wrap64 ((i:Int)*r.rows)=i*r.rows:=IntWalk.wrap64_in _ (by omega)
 have t2:wrap64 (r.h-(i:Int)*r.rows)=r.h-i*r.rows:=IntWalk.wrap64_in _ (by omega)
 have HR:=q7 (show min r.rows (wrap64 (r.h-wrap64 ((i:Int)*r.rows)))=jj r i by rw[t1,t2];rfl)
 have HR2:=q7 (show min r.rows (r.h-(i:Int)*r.rows)=jj r i from rfl)
 clear t1 t2
 generalize jj r i=R at *
 obtain ⟨s0,s1,s2,s3,s4,s5,s6,s13,s26⟩:=qv a1
 go_enter Tryz.func23,Tryz.ntmps23
 go_wp2
 go_ret
 exact ⟨qt (by first|exact HR.out|exact HR2.out),HB.out⟩
theorem q2O {d:Int} (h:1≤d∧d≤16):(1:Int)*2 ^ d.toNat-1=2 ^ d.toNat-1∧2 ^ d.toNat≤(65536:Int)∧(2:Int)≤2 ^ d.toNat:=by
 obtain ⟨D,rfl⟩:∃D:Nat,d=D:=⟨d.toNat,by omega⟩
 have h1:1≤D∧D≤16:=by omega
 rw[Int.toNat_natCast]
 have:∀D:Nat,1≤D∧D≤16→(2:Int) ^ D≤65536∧(2:Int)≤2 ^ D:=by
  intro D hD
  rcases (show D=1∨D=2∨D=3∨D=4∨D=5∨D=6∨D=7∨D=8∨D=9∨D=10∨D=11∨D=12∨D=13∨D=14∨D=15∨D=16 by omega) with rfl|rfl|rfl|rfl|rfl|rfl|rfl|rfl|rfl|rfl|rfl|rfl|rfl|rfl|rfl|rfl<;>decide
 exact ⟨by omega,this D h1⟩
set_option maxRecDepth 100000 in
set_option maxHeartbeats 800000 in
theorem Z4 (v:Value) (xs:List Int) (d:Int) (w:World) (hd:1≤d∧d≤16) (hv:qd w v xs) :
  Calls Tryz.prog 32 #[v,.int .i64 d] w fun e w'=>e=.returned (.bool (zm d xs))∧w=w':=by
 have HV:=q7 hv
 obtain ⟨ao,ca,rfl,_,_⟩:=hv
 obtain ⟨q1,q2,q3⟩:=q2O hd
 have HD:=q7 (show zm d xs=qF 0 (2 ^ d.toNat-1) xs from rfl)
 generalize zm d xs=R at *
 obtain ⟨D,rfl⟩:∃D:Nat,d=D:=⟨d.toNat,by omega⟩
 rw[Int.toNat_natCast] at HD q1 q2 q3
 obtain ⟨X,hX⟩:∃X:Int,(2:Int) ^ D=X:=⟨_,rfl⟩
 rw[hX] at HD q1 q2 q3
 have hx2:(1:Int)*2 ^ D=X:=by rw[hX,Int.one_mul]
 have t1:IntKind.i64.wrap X=X:=IntWalk.i64_in _ (by omega)
 have hsh:((1:Int) <<< D)=X:=by rw[Int.shiftLeft_eq,hX,Int.one_mul]
 go_enter Tryz.func32,Tryz.ntmps32
 go_wp2_with fail
 refine (qi 0 (X-1) _ xs _ HV.out).mono ?_
 rintro e w1 ⟨rfl,rfl⟩
 go_wp2
 go_ret
 exact ⟨qg HD.out.symm,rfl⟩
theorem q1P (w:World) (a b:Int):qd (w.alloc (.cells #[.int .i64 a,.int .i64 b] 3)) (.slice (some ⟨w.heap.size,0,none⟩) 2 2) [a,b] :=
 qd.own (base:=w.heap.size) (World.ownsRow_lit w #[.int .i64 a,.int .i64 b] 2 (Nat.le_refl _) (by decide) (by simp)) (by simp)
theorem q0L (r:qH):Qp r=(qF 1 64 [r.w,r.h] && qF 1 16 [r.depth] && qF 1 r.h [r.rows]):=by
 simp[Qp,qz,qA,qF]
set_option maxRecDepth 100000 in
set_option maxHeartbeats 1600000 in
theorem Js (r:qH) (lv tv sv cv:Value) (w:World) (hl:qd w lv r.lens) :
  Calls Tryz.prog 19 #[.agg (qs r lv tv sv cv)] w fun e w'=>e=.returned (.int .i64 (jA r))∧Below w.heap.size w w':=by
 have HL:=q7 hl
 obtain ⟨ao,ca,rfl,_,_⟩:=hl
 have a1:=al1 w (Obj.cells (qs r (.slice ao r.lens.length ca) tv sv cv) 32)
 have HB:=q7 (qa w (Obj.cells (qs r (.slice ao r.lens.length ca) tv sv cv) 32))
 have hlt:=(Array.getElem?_eq_some_iff.1 a1).1
 have HE:=q7 (show jA r=if Qp r=true then (if 0≤r.kind∧r.kind≤7 then JA r else 6) else 3 from rfl)
 have HG:=q7 (q0L r)
 have HK:=q7 (show JA r=if r.kind=0 then (if r.lens.length=0 then 0 else 1) else ql r.lens from rfl)
 generalize jA r=E at *
 obtain ⟨s0,s1,s2,s3,s4,s5,s6,s13,s26⟩:=qv a1
 go_enter Tryz.func19,Tryz.ntmps19
 go_wp2_with fail
 clear s0 s1 s2 s3 s4 s5 s6 s13 s26
 have H1:=q7 (q1P (w.alloc (Obj.cells (qs r (.slice ao r.lens.length ca) tv sv cv) 32)) r.w r.h)
 have B1:=q7 (qa (w.alloc (Obj.cells (qs r (.slice ao r.lens.length ca) tv sv cv) 32)) (Obj.cells #[.int .i64 r.w,.int .i64 r.h] 3))
 rw[World.size_alloc] at H1
 generalize w.alloc (Obj.cells (qs r (.slice ao r.lens.length ca) tv sv cv) 32)=U at *
 have HF:=q7 (fun (u:World) (hu:Below U.heap.size U u)=>qv ((hu.block _ hlt).trans a1))
 have HA:=q7 a1
 clear a1
 generalize U.alloc (Obj.cells #[.int .i64 r.w,.int .i64 r.h] 3)=U1 at *
 refine (qi 1 64 _ [r.w,r.h] _ H1.out).mono ?_
 rintro e w1 ⟨rfl,rfl⟩
 cases q1:qF 1 64 [r.w,r.h]
 ·have he:E=3:=by rw[HE.out,HG.out,q1];rfl
  subst he
  go_wp2
  go_ret
  exact ⟨rfl,q8 HB.out B1.out⟩
 ·obtain ⟨s0,s1,s2,s3,s4,s5,s6,s13,s26⟩:=HF.out U1 B1.out
  go_wp2_with fail
  clear s0 s1 s2 s3 s4 s5 s6 s13 s26
  have B2:=q7 (q8 B1.out (qa U1 (Obj.cells #[.int .i64 r.depth] 3)))
  refine (qi 1 16 _ [r.depth] _ (zo U1 r.depth)).mono ?_
  rintro e w1 ⟨rfl,rfl⟩
  generalize U1.alloc (Obj.cells #[.int .i64 r.depth] 3)=U2 at *
  cases q2:qF 1 16 [r.depth]
  ·have he:E=3:=by rw[HE.out,HG.out,q1,q2];rfl
   subst he
   go_wp2
   go_ret
   exact ⟨rfl,q8 HB.out B2.out⟩
  ·obtain ⟨s0,s1,s2,s3,s4,s5,s6,s13,s26⟩:=HF.out U2 B2.out
   go_wp2_with fail
   clear s0 s1 s2 s3 s4 s5 s6 s13 s26
   have B3:=q7 (q8 B2.out (qa U2 (Obj.cells #[.int .i64 r.rows] 3)))
   refine (qi 1 r.h _ [r.rows] _ (zo U2 r.rows)).mono ?_
   rintro e w1 ⟨rfl,rfl⟩
   generalize U2.alloc (Obj.cells #[.int .i64 r.rows] 3)=U3 at *
   cases q3:qF 1 r.h [r.rows]
   ·have he:E=3:=by rw[HE.out,HG.out,q1,q2,q3];rfl
    subst he
    go_wp2
    go_ret
    exact ⟨rfl,q8 HB.out B3.out⟩
   ·have HE':=q7 (show E=if 0≤r.kind∧r.kind≤7 then JA r else 6 by rw[HE.out,HG.out,q1,q2,q3];rfl)
    clear HE HG q1 q2 q3
    obtain ⟨s0,s1,s2,s3,s4,s5,s6,s13,s26⟩:=HF.out U3 B3.out
    go_wp2_with fail
    clear s0 s1 s2 s3 s4 s5 s6 s13 s26
    have B4:=q7 (q8 B3.out (qa U3 (Obj.cells #[.int .i64 r.kind] 3)))
    refine (qi 0 7 _ [r.kind] _ (zo U3 r.kind)).mono ?_
    rintro e w1 ⟨rfl,rfl⟩
    generalize U3.alloc (Obj.cells #[.int .i64 r.kind] 3)=U4 at *
    cases q4:qF 0 7 [r.kind]
    ·have he:E=6:=by
      rw[HE'.out,if_neg]
      intro hk
      simp[qF,hk] at q4
     subst he
     go_wp2
     go_ret
     exact ⟨rfl,q8 HB.out B4.out⟩
    ·have hk4:0≤r.kind∧r.kind≤7:=by simpa [qF] using q4
     have HE2:=q7 (show E=if r.kind=0 then (if r.lens.length=0 then 0 else 1) else ql r.lens by rw[HE'.out,if_pos hk4];exact HK.out)
     clear HE' q4 hk4
     have HL4:=q7 (HL.out.below (q8 HB.out B4.out) (Nat.le_refl _))
     obtain ⟨s0,s1,s2,s3,s4,s5,s6,s13,s26⟩:=HF.out U4 B4.out
     by_cases hk:r.kind=0
     ·have hk':(r.kind != 0)=false:=by simpa using hk
      rw[if_pos hk] at HE2
      by_cases hn:r.lens.length=0
      ·have he:E=0:=by rw[HE2.out,if_pos hn]
       have hn':decide (0<(r.lens.length:Int))=false:=decide_eq_false (by omega)
       subst he
       go_wp2
       go_ret
       exact ⟨rfl,q8 HB.out B4.out⟩
      ·have he:E=1:=by rw[HE2.out,if_neg hn]
       have hn':decide (0<(r.lens.length:Int))=true:=decide_eq_true (by omega)
       subst he
       go_wp2
       go_ret
       exact ⟨rfl,q8 HB.out B4.out⟩
     ·have hk':(r.kind != 0)=true:=by simpa using hk
      rw[if_neg hk] at HE2
      go_wp2_with fail
      refine (Q0 _ r.lens _ HL4.out).mono ?_
      rintro e w1 ⟨rfl,rfl⟩
      go_wp2
      go_ret
      exact ⟨qt HE2.out.symm,q8 HB.out B4.out⟩
theorem Ju {w:World} {b:Nat} {t:TypeId} {fr:Nat×Nat} {r:qH} {lv tv sv cv:Value} (h:w.heap[b]?=some (.cells (qs r lv tv sv cv) t fr)) :
  ∀j v,(qZ r.plan sv cv).toList[j]?=some v→w.cell? ⟨b,7+j,none⟩=some v:=by
 intro j v hj
 rw[Lib.cell_of_heap h,←hj,←Array.getElem?_toList,show (qs r lv tv sv cv).toList=[.int .i64 r.w,.int .i64 r.h,.int .i64 r.depth,.int .i64 r.kind,.int .i64 r.rows,lv,tv]++(qZ r.plan sv cv).toList from rfl,List.getElem?_append_right (by simp)]
 simp
set_option maxRecDepth 100000 in
set_option maxHeartbeats 1600000 in
theorem ZW (r:qH) (lv tv sv cv:Value) (w:World) (hp:jY w r.plan sv cv) :
  Calls Tryz.prog 21 #[.agg (qs r lv tv sv cv)] w fun e w'=>e=.returned (.int .i64 (Qv r))∧Below w.heap.size w w':=by
 have HP:=q7 hp
 obtain ⟨⟨lo,lc,rfl,hll,_⟩,⟨ko,kc,rfl,hkl,_⟩⟩:=hp
 have a1:=al1 w (Obj.cells (qs r lv tv (.slice lo r.plan.spots.length lc) (.slice ko r.plan.curve.length kc)) 32)
 have HB:=q7 (qa w (Obj.cells (qs r lv tv (.slice lo r.plan.spots.length lc) (.slice ko r.plan.curve.length kc)) 32))
 have hlt:=(Array.getElem?_eq_some_iff.1 a1).1
 have HE:=q7 (show Qv r=if jW r.plan=0 then (if jM r.w r.h r.plan.spots=true then 0 else 3) else jW r.plan from rfl)
 generalize Qv r=E at *
 have HT:=q7 (Ju a1)
 have HCK:=q7 (fun (u:World) (hu:Below w.heap.size w u)=>q2i r.plan _ _ u (HP.out.below hu (Nat.le_refl _)))
 go_enter Tryz.func21,Tryz.ntmps21
 go_wp2_with (refine zJ rfl 30 _ rfl _ 7 rfl (qZ r.plan (.slice lo r.plan.spots.length lc) (.slice ko r.plan.curve.length kc)) _ HT.out Tryz.underlying30 rfl (by kernel_rfl) ?_)
 generalize w.alloc (Obj.cells (qs r lv tv (.slice lo r.plan.spots.length lc) (.slice ko r.plan.curve.length kc)) 32)=U at *
 refine (HCK.out _ HB.out).mono ?_
 rintro e V1 ⟨rfl,hb1⟩
 have HB1:=q7 (q8 HB.out hb1)
 by_cases hF:jW r.plan=0
 ·rw[if_pos hF] at HE
  rw[hF]
  obtain ⟨s0,s1,s2,s3,s4,s5,s6,s13,s26⟩:=qv ((hb1.block _ hlt).trans a1)
  have g1:=al1 V1 (Obj.cells #[.int .i64 r.w,.int .i64 r.h] 89)
  have hb3:=q8 hb1 (qa V1 (Obj.cells #[.int .i64 r.w,.int .i64 r.h] 89))
  obtain ⟨q0,q1⟩:=bx2 g1
  obtain ⟨_,_,_,_,_,_,_,u13,_⟩:=qv ((hb3.block _ hlt).trans a1)
  go_wp2_with fail
  clear s0 s1 s2 s3 s4 s5 s6 s13 s26 u13 q0 q1
  generalize V1.alloc (Obj.cells #[.int .i64 r.w,.int .i64 r.h] 89)=G at *
  have HB3:=q7 (q8 HB.out hb3)
  refine (XE r.w r.h _ r.plan.spots _ (HP.out.spots.below HB3.out (Nat.le_refl _))).mono ?_
  rintro e V3 ⟨rfl,hb4⟩
  have HB4:=q7 (q8 HB3.out hb4)
  cases hs:jM r.w r.h r.plan.spots
  ·have he:E=3:=by rw[HE.out,hs];rfl
   subst he
   go_wp2
   go_ret
   exact ⟨rfl,HB4.out⟩
  ·have he:E=0:=by rw[HE.out,hs];rfl
   subst he
   go_wp2
   go_ret
   exact ⟨rfl,HB4.out⟩
 ·rw[if_neg hF] at HE
  have hn:(jW r.plan != 0)=true:=by simpa using hF
  have he:E=jW r.plan:=HE.out
  subst he
  go_wp2
  go_ret
  exact ⟨rfl,HB1.out⟩
theorem Jo {r:qH} (hk:r.kind=0) (s:List UInt8) (n:Int):stE r s n=XO s r.depth (n*r.w)∧stZ r s n=Kx s r.depth (n*r.w):=by
 have h1:stE r s n=XO s r.depth (n*r.w):=by rw[stE,if_pos hk]
 refine ⟨h1,?_⟩
 rw[stZ,h1,if_pos hk]
 split
 ·rfl
 ·rename_i hn
  rw[Kx,if_neg]
  intro hf
  have hf':=hf
  simp only[ja,decide_eq_true_eq] at hf'
  exact hn (by rw[XO,if_pos ⟨hf'.1,hf'.2.1⟩,if_pos hf'.2.2.1,if_pos hf])
set_option maxRecDepth 100000 in
set_option maxHeartbeats 1600000 in
theorem Yc (r:qH) (lv tv sv cv:Value) (s:List UInt8) (n:Int) (w:World) (h:zy r) (hn:1≤n∧n≤64) (hl:qd w lv r.lens) :
  Calls Tryz.prog 22 #[.agg (qs r lv tv sv cv),.string (str s),.int .i64 n] w fun e w'=>∃v,e=.returned (.tuple #[v,.int .i64 (stE r s n)])∧qd w' v (stZ r s n)∧Below w.heap.size w w':=by
 have HL:=q7 hl
 obtain ⟨ao,ca,rfl,_,_⟩:=hl
 have a1:=al1 w (Obj.cells (qs r (.slice ao r.lens.length ca) tv sv cv) 32)
 have HB:=q7 (qa w (Obj.cells (qs r (.slice ao r.lens.length ca) tv sv cv) 32))
 have hlt:=(Array.getElem?_eq_some_iff.1 a1).1
 have hd:=h.depth
 have hw:=h.w
 have hm:=XT ⟨by omega,hn.2⟩ ⟨by omega,hw.2⟩
 obtain ⟨s0,s1,s2,s3,s4,s5,s6,s13,s26⟩:=qv a1
 by_cases hk:r.kind=0
 ·obtain ⟨e1,e2⟩:=Jo hk s n
  have hk':(r.kind == 0)=true:=by simpa using hk
  obtain ⟨M,hM⟩:∃M,n*r.w=M:=⟨_,rfl⟩
  rw[hM] at hm e1 e2
  rw[e1,e2]
  have t1:IntKind.i64.wrap M=M:=IntWalk.i64_in _ (by omega)
  clear hd hw e1 e2 h
  go_enter Tryz.func22,Tryz.ntmps22
  go_wp2_with fail
  refine (KQ (str s) r.depth M _).mono ?_
  rintro e w1 ⟨v,rfl,hv,hb1⟩
  rw[qI] at hv ⊢
  go_wp2
  go_ret2
  exact ⟨_,rfl,hv,q8 HB.out hb1⟩
 ·have hk':(r.kind == 0)=false:=by simpa using hk
  have HE:=q7 (show stE r s n=if qP s r.w n r.kind r.lens=0 then (if zm r.depth (jO s r.w n r.kind r.lens)=true then 0 else 1) else qP s r.w n r.kind r.lens by rw[stE,if_neg hk])
  have HZ:=q7 (show stZ r s n=if stE r s n=0 then jO s r.w n r.kind r.lens else [] by rw[stZ,if_neg hk])
  generalize stE r s n=E at *
  generalize stZ r s n=Z at *
  have HR:=q7 (fun (u:World) (hu:Below w.heap.size w u)=>q2y (str s) r.w n r.kind _ r.lens u (HL.out.below hu (Nat.le_refl _)))
  rw[qI] at HR
  generalize qP s r.w n r.kind r.lens=F at *
  generalize jO s r.w n r.kind r.lens=Y at *
  generalize zz s r.w n r.kind r.lens=W' at *
  generalize zC s r.w n r.kind r.lens=H' at *
  clear h hm
  go_enter Tryz.func22,Tryz.ntmps22
  go_wp2_with fail
  clear s0 s1 s2 s3 s4 s5 s6 s13 s26
  generalize w.alloc (Obj.cells (qs r (.slice ao r.lens.length ca) tv sv cv) 32)=U at *
  refine (HR.out _ HB.out).mono ?_
  rintro e V1 ⟨v,rfl,hv,hb1⟩
  have HV:=q7 hv
  obtain ⟨vo,vc,rfl,_,_⟩:=hv
  have g1:=al1 V1 (Obj.cells #[.int .i64 W',.int .i64 H',.slice vo Y.length vc] 34)
  have hb3:=q8 hb1 (qa V1 (Obj.cells #[.int .i64 W',.int .i64 H',.slice vo Y.length vc] 34))
  have HV1:=q7 (HV.out.alloc (Obj.cells #[.int .i64 W',.int .i64 H',.slice vo Y.length vc] 34))
  have HB3:=q7 (q8 HB.out hb3)
  obtain ⟨p0,p1,p2⟩:=jJ g1
  obtain ⟨s0,s1,s2,s3,s4,s5,s6,s13,s26⟩:=qv ((hb3.block _ hlt).trans a1)
  by_cases hF:F=0
  ·subst hF
   rw[if_pos rfl] at HE
   go_wp2_with fail
   refine (Z4 _ Y r.depth _ hd HV1.out).mono ?_
   rintro e V2 ⟨rfl,rfl⟩
   cases hq:zm r.depth Y
   ·have he:E=1:=by rw[HE.out,hq];rfl
    have hz:Z=[]:=by rw[HZ.out,he];rfl
    subst he hz
    go_wp2
    go_ret2
    exact ⟨_,rfl,qd.nil _,HB3.out⟩
   ·have he:E=0:=by rw[HE.out,hq];rfl
    have hz:Z=Y:=by rw[HZ.out,he];rfl
    subst he hz
    go_wp2
    go_ret2
    exact ⟨_,rfl,HV1.out,HB3.out⟩
  ·have hn':(F != 0)=true:=by simpa using hF
   rw[if_neg hF] at HE
   have he:E=F:=HE.out
   have hz:Z=[]:=by rw[HZ.out,he,if_neg hF]
   subst he hz
   go_wp2
   go_ret2
   exact ⟨_,rfl,qd.nil _,HB3.out⟩
def wsE (r:qH) (l:List Int) (n:Int):Int:=if r.kind=0 then Q9 l r.depth else qD r.w n l r.kind r.lens
def wsS (r:qH) (l:List Int) (n:Int):List UInt8:=if r.kind=0 then zO l r.depth else qx r.w n l r.kind r.lens
set_option maxRecDepth 100000 in
set_option maxHeartbeats 1600000 in
theorem X5 (r:qH) (lv tv sv cv:Value) (v:Value) (l:List Int) (n:Int) (w:World) (hl:qd w lv r.lens) (hv:qd w v l) :
  Calls Tryz.prog 34 #[.agg (qs r lv tv sv cv),v,.int .i64 n] w fun e w'=>e=.returned (.tuple #[.string (str (wsS r l n)),.int .i64 (wsE r l n)])∧Below w.heap.size w w':=by
 have HL:=q7 hl
 have HV:=q7 hv
 obtain ⟨ao,ca,rfl,_,_⟩:=hl
 obtain ⟨vo,vc,rfl,_,_⟩:=hv
 have a1:=al1 w (Obj.cells (qs r (.slice ao r.lens.length ca) tv sv cv) 32)
 have HB:=q7 (qa w (Obj.cells (qs r (.slice ao r.lens.length ca) tv sv cv) 32))
 obtain ⟨s0,s1,s2,s3,s4,s5,s6,s13,s26⟩:=qv a1
 by_cases hk:r.kind=0
 ·have hk':(r.kind == 0)=true:=by simpa using hk
  rw[wsS,wsE,if_pos hk,if_pos hk]
  go_enter Tryz.func34,Tryz.ntmps34
  go_wp2_with fail
  clear s0 s1 s2 s3 s4 s5 s6 s13 s26
  refine (q2Y _ l r.depth _ (HV.out.below HB.out (Nat.le_refl _))).mono ?_
  rintro e w1 ⟨rfl,hb1⟩
  go_wp2
  go_ret2
  exact ⟨rfl,q8 HB.out hb1⟩
 ·have hk':(r.kind == 0)=false:=by simpa using hk
  rw[wsS,wsE,if_neg hk,if_neg hk]
  go_enter Tryz.func34,Tryz.ntmps34
  go_wp2_with fail
  clear s0 s1 s2 s3 s4 s5 s6 s13 s26
  refine (q0R r.w n _ _ l r.kind r.lens _ (HV.out.below HB.out (Nat.le_refl _)) (HL.out.below HB.out (Nat.le_refl _))).mono ?_
  rintro e w1 ⟨rfl,hb1⟩
  go_wp2
  go_ret2
  exact ⟨rfl,q8 HB.out hb1⟩
end Go.Proofs.YtanebhbfekcplaaGreat

namespace Go.Proofs.YtanebhbfekcplaaGreat
set_option linter.unusedVariables false
open Go.RowKit
def zR (n:Int):Prop:=-2147483648≤n∧n≤2147483647
instance (n:Int):Decidable (zR n):=inferInstanceAs (Decidable (_∧_))
def zE (n:Int):List UInt8 :=
 [UInt8.ofNat ((n % 4294967296).toNat / 16777216 % 256),UInt8.ofNat ((n % 4294967296).toNat / 65536 % 256),UInt8.ofNat ((n % 4294967296).toNat / 256 % 256),UInt8.ofNat ((n % 4294967296).toNat % 256)]
def u32 (a b c d:UInt8):Nat:=a.toNat*16777216+b.toNat*65536+c.toNat*256+d.toNat
def Zk (u:Nat):Int:=if u<2147483648 then u else u-4294967296
def J3:List UInt8→Option (Int×List UInt8)
 | a::b::c::d::t=>some (Zk (u32 a b c d),t)
 | _=>none
theorem zu (n:Int):(zE n).length=4:=rfl
theorem q3L (a b c d:UInt8):zE (Zk (u32 a b c d))=[a,b,c,d]:=by
 have ha:=a.toNat_lt
 have hb:=b.toNat_lt
 have hc:=c.toNat_lt
 have hd:=d.toNat_lt
 have e:(Zk (u32 a b c d) % 4294967296).toNat=u32 a b c d:=by
  unfold Zk u32
  split<;>omega
 unfold zE
 rw[e]
 unfold u32
 have e1:(a.toNat*16777216+b.toNat*65536+c.toNat*256+d.toNat) / 16777216 % 256=a.toNat:=by omega
 have e2:(a.toNat*16777216+b.toNat*65536+c.toNat*256+d.toNat) / 65536 % 256=b.toNat:=by omega
 have e3:(a.toNat*16777216+b.toNat*65536+c.toNat*256+d.toNat) / 256 % 256=c.toNat:=by omega
 have e4:(a.toNat*16777216+b.toNat*65536+c.toNat*256+d.toNat) % 256=d.toNat:=by omega
 rw[e1,e2,e3,e4]
 simp
theorem q2U (a b c d:UInt8):zR (Zk (u32 a b c d)):=by
 have ha:=a.toNat_lt
 have hb:=b.toNat_lt
 have hc:=c.toNat_lt
 have hd:=d.toNat_lt
 unfold zR Zk u32
 split<;>omega
theorem jh {n:Int} (h:zR n) (t:List UInt8):J3 (zE n++t)=some (n,t):=by
 show some (Zk (u32 _ _ _ _),t)=_
 congr 2
 unfold zR at h
 obtain ⟨N,hN⟩:∃N,(n % 4294967296).toNat=N:=⟨_,rfl⟩
 have hlt:N<4294967296:=by omega
 rw[hN]
 unfold u32
 simp only[UInt8.toNat_ofNat']
 unfold Zk
 split<;>omega
structure Cod {α:Type} (p:List UInt8→Option (α×List UInt8)) (wr:α→List UInt8) (ok:α→Prop):Prop where
 sound:∀l a t,p l=some (a,t)→l=wr a++t∧ok a
 full:∀a t,ok a→p (wr a++t)=some (a,t)
theorem Ji:Cod J3 zE zR where
 sound:=by
  intro l n t h
  match l,h with
  | a::b::c::d::t',h =>
   simp only[J3,Option.some.injEq,Prod.mk.injEq] at h
   obtain ⟨rfl,rfl⟩:=h
   exact ⟨by rw[q3L];rfl,q2U a b c d⟩
 full:=fun n t h=>jh h t
def ju {α:Type} (p:List UInt8→Option (α×List UInt8)):Nat→List UInt8→Option (List α×List UInt8)
 | 0,l=>some ([],l)
 | k+1,l=>match ju p k l with
  | none=>none
  | some (ys,t)=>match p t with
   | none=>none
   | some (a,t')=>some (ys++[a],t')
theorem q0N {α:Type} {p:List UInt8→Option (α×List UInt8)} {k n:Nat} {l:List UInt8} (h:ju p k l=none) (hn:k≤n):ju p n l=none:=by
 induction n with
 | zero=>rw[Nat.le_zero.1 hn] at h;exact h
 | succ n ih =>
  by_cases e:k=n+1
  ·rw[←e];exact h
  ·rw[ju,ih (by omega)]
theorem zp {α:Type} {p:List UInt8→Option (α×List UInt8)} {k n:Nat} {l t:List UInt8} {ys:List α} (h:ju p k l=some (ys,t)) (hp:p t=none) (hn:k<n):ju p n l=none :=
 q0N (k:=k+1) (by rw[ju,h];simp only[hp]) hn
theorem Qw {α:Type} {p:List UInt8→Option (α×List UInt8)} {k:Nat} {l t t':List UInt8} {ys:List α} {a:α} (h:ju p k l=some (ys,t)) (hp:p t=some (a,t')):ju p (k+1) l=some (ys++[a],t'):=by
 rw[ju,h];simp only[hp]
theorem je {α:Type} {p:List UInt8→Option (α×List UInt8)} {n:Nat} {l t:List UInt8} {ys:List α} (h:ju p n l=some (ys,t)):ys.length=n:=by
 induction n generalizing ys t with
 | zero=>simp only[ju,Option.some.injEq,Prod.mk.injEq] at h;rw[←h.1];rfl
 | succ n ih =>
  rw[ju] at h
  split at h
  ·exact absurd h (by simp)
  ·rename_i ys' t' h1
   split at h
   ·exact absurd h (by simp)
   ·simp only[Option.some.injEq,Prod.mk.injEq] at h
    rw[←h.1,List.length_append,ih h1];rfl
theorem Zs {α:Type} {p:List UInt8→Option (α×List UInt8)} {wr:α→List UInt8} {ok:α→Prop} (c:Cod p wr ok) (n:Nat):Cod (ju p n) (fun ys=>ys.flatMap wr) (fun ys=>ys.length=n∧∀a∈ys,ok a) where
 sound:=by
  intro l ys t h
  refine ⟨?_,je h,?_⟩
  ·induction n generalizing ys t with
   | zero=>simp only[ju,Option.some.injEq,Prod.mk.injEq] at h;rw[←h.1,←h.2];rfl
   | succ n ih =>
    rw[ju] at h
    split at h
    ·exact absurd h (by simp)
    ·rename_i ys' t' h1
     split at h
     ·exact absurd h (by simp)
     ·rename_i a t'' h2
      simp only[Option.some.injEq,Prod.mk.injEq] at h
      rw[ih ys' t' h1,(c.sound _ _ _ h2).1,←h.1,←h.2]
      simp
  ·induction n generalizing ys t with
   | zero=>simp only[ju,Option.some.injEq,Prod.mk.injEq] at h;rw[←h.1];simp
   | succ n ih =>
    rw[ju] at h
    split at h
    ·exact absurd h (by simp)
    ·rename_i ys' t' h1
     split at h
     ·exact absurd h (by simp)
     ·rename_i a t'' h2
      simp only[Option.some.injEq,Prod.mk.injEq] at h
      intro b hb
      rw[←h.1,List.mem_append] at hb
      rcases hb with hb|hb
      ·exact ih ys' t' h1 b hb
      ·rw[List.mem_singleton.1 hb];exact (c.sound _ _ _ h2).2
 full:=by
  intro ys t h
  obtain ⟨h1,h2⟩:=h
  induction n generalizing ys t with
  | zero=>rw[List.eq_nil_of_length_eq_zero h1];rfl
  | succ n ih =>
   obtain ⟨bs,b,rfl⟩:∃bs b,ys=bs++[b]:=⟨ys.dropLast,ys.getLast (by intro e;rw[e] at h1;simp at h1),(List.dropLast_concat_getLast _).symm⟩
   have e1:bs.length=n:=by simpa using h1
   have:=ih bs (wr b++t) e1 (fun a ha=>h2 a (by simp[ha]))
   rw[ju,show (fun ys=>List.flatMap wr ys) (bs++[b])++t=bs.flatMap wr++(wr b++t) by simp,this]
   simp only[c.full b t (h2 b (by simp))]
def X0 {α:Type} (p:List UInt8→Option (α×List UInt8)) (b:List UInt8→Nat) (l:List UInt8):Option (List α×List UInt8) :=
 match J3 l with
 | none=>none
 | some (n,t)=>if 0≤n∧n≤(b t:Int) then ju p n.toNat t else none
def YM {α:Type} (wr:α→List UInt8) (ys:List α):List UInt8:=zE ys.length++ys.flatMap wr
theorem QB {α:Type} {p:List UInt8→Option (α×List UInt8)} {wr:α→List UInt8} {ok:α→Prop} (c:Cod p wr ok) {b:List UInt8→Nat} {ys:List α} {t:List UInt8} (h1:∀a∈ys,ok a) (h2:zR ys.length) (h3:ys.length≤b (ys.flatMap wr++t)) :
  X0 p b (YM wr ys++t)=some (ys,t):=by
 rw[X0,YM,List.append_assoc,jh h2]
 simp only
 rw[if_pos ⟨by omega,by omega⟩,Int.toNat_natCast]
 exact (Zs c ys.length).full ys t ⟨rfl,h1⟩
def JG (l:List UInt8):Option (List UInt8×List UInt8) :=
 match J3 l with
 | none=>none
 | some (n,t)=>if 0≤n∧n≤(t.length:Int) then some (t.take n.toNat,t.drop n.toNat) else none
def zI (s:List UInt8):List UInt8:=zE s.length++s
theorem YE:Cod JG zI (fun s=>zR s.length) where
 sound:=by
  intro l s t h
  rw[JG] at h
  split at h
  ·exact absurd h (by simp)
  ·rename_i n u h1
   split at h
   ·rename_i h2
    obtain ⟨f1,f2⟩:=Ji.sound _ _ _ h1
    simp only[Option.some.injEq,Prod.mk.injEq] at h
    obtain ⟨rfl,rfl⟩:=h
    have e:((u.take n.toNat).length:Int)=n:=by rw[List.length_take];omega
    exact ⟨by rw[zI,e,List.append_assoc,List.take_append_drop,f1],by rw[e];exact f2⟩
   ·exact absurd h (by simp)
 full:=by
  intro s t h
  rw[JG,zI,List.append_assoc,jh h]
  simp only
  rw[if_pos ⟨by omega,by rw[List.length_append];omega⟩,Int.toNat_natCast,List.take_left' rfl,List.drop_left' rfl]
def Q8 (l:List UInt8):Option (Pt×List UInt8) :=
 match J3 l with
 | none=>none
 | some (x,t)=>match J3 t with
  | none=>none
  | some (y,u)=>some ((x,y),u)
def zP (p:Pt):List UInt8:=zE p.1++zE p.2
theorem q01:Cod Q8 zP (fun p=>zR p.1∧zR p.2) where
 sound:=by
  intro l p t h
  rw[Q8] at h
  split at h
  ·exact absurd h (by simp)
  ·rename_i x u h1
   split at h
   ·exact absurd h (by simp)
   ·rename_i y v h2
    simp only[Option.some.injEq,Prod.mk.injEq] at h
    obtain ⟨rfl,rfl⟩:=h
    obtain ⟨f1,f2⟩:=Ji.sound _ _ _ h1
    obtain ⟨g1,g2⟩:=Ji.sound _ _ _ h2
    exact ⟨by rw[zP,List.append_assoc,←g1,f1],f2,g2⟩
 full:=by
  intro p t h
  rw[Q8,zP,List.append_assoc,jh h.1]
  simp only
  rw[jh h.2]
end Go.Proofs.YtanebhbfekcplaaGreat

namespace Go.Proofs.YtanebhbfekcplaaGreat
set_option linter.unusedVariables false
open Go.RowKit
abbrev panV:Value:=.iface 35 (.int .i64 1)
abbrev panE:Ending:=.panicked [{ v:=panV,recovered:=false }]
structure RSt (B b:Nat) (w w':World):Prop where
 bel:Below B w w'
 keep:∀k,k<w.heap.size→k≠b→w'.heap[k]?=w.heap[k]?
theorem RSt.refl (B b:Nat) (w:World):RSt B b w w:=⟨Below.refl _ _,fun _ _ _=>rfl⟩
theorem RSt.trans {B b:Nat} {w w' w'':World} (h:RSt B b w w') (k:RSt B b w' w''):RSt B b w w'' :=
 ⟨h.bel.trans k.bel,fun j h1 h2=>(k.keep j (Nat.lt_of_lt_of_le h1 h.bel.size) h2).trans (h.keep j h1 h2)⟩
theorem RSt.alloc {B b:Nat} {w:World} (hB:B≤w.heap.size) (o:Obj):RSt B b w (w.alloc o):=⟨(qa w o).mono hB,fun k h1 _=>(qa w o).block k h1⟩
theorem RSt.drew {B b:Nat} {w:World}:RSt B b w w.drew:=⟨(Below.refl _ _).drew,fun _ _ _=>rfl⟩
theorem RSt.drews (B b n:Nat) (w:World):RSt B b w (w.drewN n):=⟨⟨rfl,rfl,rfl,Nat.le_refl _,fun _ _=>rfl⟩,fun _ _ _=>rfl⟩
def Z8 (b:Nat) (l:List UInt8) (w:World):Prop:=w.heap[b]?=some (.cells #[.string (str l)] 115 (0,0))
def q3E {α:Type} (B b:Nat) (l:List UInt8) (w:World) (p:List UInt8→Option (α×List UInt8)) (ret:α→Value) (e:Ending) (w':World):Prop :=
 RSt B b w w'∧((∃a t,p l=some (a,t)∧e=.returned (ret a)∧Z8 b t w')∨(p l=none∧e=panE))
set_option maxRecDepth 100000 in
theorem Zj (w:World):Calls Tryz.prog 80 #[.bool true] w fun e w'=>e=.returned (.tuple #[])∧w'=w:=by
 go_enter Tryz.func80,Tryz.ntmps80
 go_wp2
 go_end0
 exact ⟨rfl,rfl⟩
set_option maxRecDepth 100000 in
theorem Yf (w:World):Calls Tryz.prog 80 #[.bool false] w fun e w'=>e=panE∧w'=w:=by
 go_enter Tryz.func80,Tryz.ntmps80
 go_wp2
 exact ⟨rfl,rfl,rfl⟩
def XS (n:Int) (l:List UInt8):Option (List UInt8×List UInt8):=if 0≤n∧n≤(l.length:Int) then some (l.take n.toNat,l.drop n.toNat) else none
theorem rd_set {B b:Nat} {l t:List UInt8} {w:World} (hB:B≤b) (h:Z8 b l w):Z8 b t (w.setCell ⟨b,0,none⟩ (.string (str t)))∧RSt B b w (w.setCell ⟨b,0,none⟩ (.string (str t))):=by
 refine ⟨?_,(Below.refl B w).setCell (p:=⟨b,0,none⟩) hB _,fun k _ hk=>Below.heap_setCell _ _ _ _ (fun e=>hk e)⟩
 unfold Z8 at h ⊢
 simp[World.setCell,Array.getElem?_modify,h]
theorem QE {b:Nat} {l:List UInt8} {w:World} (h:Z8 b l w) (o:Obj):Z8 b l (w.alloc o):=((qa w o).block _ (Array.getElem?_eq_some_iff.1 h).1).trans h
set_option maxRecDepth 100000 in
set_option maxHeartbeats 800000 in
theorem YS (B b:Nat) (l:List UInt8) (n:Int) (w:World) (hB:B≤b) (hBw:B≤w.heap.size) (h:Z8 b l w) (hl:l.length≤140737488355328) :
  Calls Tryz.prog 127 #[.pointer (some ⟨b,0,none⟩),.int .i64 n] w (q3E B b l w (XS n) (fun s=>.string (str s))):=by
 have c0:w.cell? ⟨b,0,none⟩=some (.string (str l)):=by rw[Lib.cell_of_heap h];rfl
 have ha:=QE h (Obj.cells #[.int .i64 n] 3)
 have d0:(w.alloc (Obj.cells #[.int .i64 n] 3)).cell? ⟨b,0,none⟩=some (.string (str l)):=by rw[Lib.cell_of_heap ha];rfl
 have f0:(w.alloc (Obj.cells #[.int .i64 n] 3)).frozen? ⟨b,0,none⟩=false:=Lib.frozen_of_heap ha 0
 have HS:=q7 (RSt.alloc (b:=b) hBw (Obj.cells #[.int .i64 n] 3))
 have HP:=q7 (show XS n l=if 0≤n∧n≤(l.length:Int) then some (l.take n.toNat,l.drop n.toNat) else none from rfl)
 have HI:=q7 (zo w n)
 have hs:(str l).size=l.length:=qu l
 by_cases hn:0≤n∧n≤(l.length:Int)
 ·obtain ⟨N,rfl⟩:=Int.eq_ofNat_of_zero_le hn.1
  have hN:N≤l.length:=by omega
  rw[if_pos hn,Int.toNat_natCast] at HP
  have HX1:=q7 (show (str l).extract 0 N=str (l.take N) by rw[Lib.extract_eq];simp[str])
  have HX2:=q7 (show (str l).extract N l.length=str (l.drop N) by rw[Lib.extract_eq,qI,List.take_of_length_le (by rw[List.length_drop];exact Nat.le_refl _)];rfl)
  have HA:=q7 (show qF 0 l.length [(N:Int)]=true by simp[qF];omega)
  obtain ⟨R1,R2⟩:=rd_set (B:=B) (t:=l.drop N) hB ha
  have HR1:=q7 R1
  have HR2:=q7 (HS.out.trans R2)
  clear R1 R2 h ha
  generalize str l=S at *
  go_enter Tryz.func127,Tryz.ntmps127
  go_wp2_with fail
  refine (qi 0 l.length _ [(N:Int)] _ HI.out).mono ?_
  rintro e w1 ⟨rfl,rfl⟩
  rw[HA.out]
  go_wp2_with fail
  refine (Zj _).mono ?_
  rintro e w1 ⟨rfl,rfl⟩
  go_wp2
  go_ret
  have e2:=HX2.out
  rw[e2]
  exact ⟨HR2.out,.inl ⟨_,_,HP.out,congrArg (fun x=>Ending.returned (.string x)) HX1.out,HR1.out⟩⟩
 ·rw[if_neg hn] at HP
  have HA:=q7 (show qF 0 l.length [n]=false by simp only[qF,List.all_cons,List.all_nil,Bool.and_true];exact decide_eq_false hn)
  clear h ha
  generalize str l=S at *
  go_enter Tryz.func127,Tryz.ntmps127
  go_wp2_with fail
  refine (qi 0 l.length _ [n] _ HI.out).mono ?_
  rintro e w1 ⟨rfl,rfl⟩
  rw[HA.out]
  go_wp2_with fail
  refine (Yf _).mono ?_
  rintro e w1 ⟨rfl,rfl⟩
  exact ⟨rfl,HS.out,.inr ⟨HP.out,rfl⟩⟩
theorem KY {x y:Int} (i:Nat) (hx₀:0≤x) (hx:x % 2 ^ i=0) (hx₁:x<2 ^ 32) (h₀:0≤y) (h₁:y<2 ^ i) (h₂:y<2 ^ 32):bits .or .u32 x y=x+y :=
 bits_join .u32 32 (by decide) (fun n h0 h1=>by rw[IntKind.wrap_u32];omega) i x y hx₀ hx hx₁ h₀ h₁ h₂
theorem q3o (U:Nat) (h:U<4294967296):wrap64 (wrap32 (U:Int))=Zk U:=by
 unfold Zk wrap64 wrap32
 split<;>omega
theorem q4f (c0 c1 c2 c3:UInt8):wrap64 (wrap32 (bits .or .u32 (bits .or .u32 (bits .or .u32 (((c0.toNat:Int)) % 4294967296*16777216 % 4294967296) ((c1.toNat:Int) % 4294967296*65536 % 4294967296)) ((c2.toNat:Int) % 4294967296*256 % 4294967296)) ((c3.toNat:Int) % 4294967296)))=Zk (u32 c0 c1 c2 c3):=by
 have h0:=c0.toNat_lt
 have h1:=c1.toNat_lt
 have h2:=c2.toNat_lt
 have h3:=c3.toNat_lt
 have hU:u32 c0 c1 c2 c3<4294967296:=by unfold u32;omega
 rw[←q3o _ hU]
 congr 2
 have e0:(c0.toNat:Int) % 4294967296*16777216 % 4294967296=c0.toNat*16777216:=by omega
 have e1:(c1.toNat:Int) % 4294967296*65536 % 4294967296=c1.toNat*65536:=by omega
 have e2:(c2.toNat:Int) % 4294967296*256 % 4294967296=c2.toNat*256:=by omega
 have e3:(c3.toNat:Int) % 4294967296=c3.toNat:=by omega
 rw[e0,e1,e2,e3]
 have f1:bits .or .u32 ((c0.toNat:Int)*16777216) ((c1.toNat:Int)*65536)=(c0.toNat:Int)*16777216+(c1.toNat:Int)*65536:=KY 24 (by omega) (by omega) (by omega) (by omega) (by omega) (by omega)
 have f2:bits .or .u32 ((c0.toNat:Int)*16777216+(c1.toNat:Int)*65536) ((c2.toNat:Int)*256)=(c0.toNat:Int)*16777216+(c1.toNat:Int)*65536+(c2.toNat:Int)*256:=KY 16 (by omega) (by omega) (by omega) (by omega) (by omega) (by omega)
 have f3:bits .or .u32 ((c0.toNat:Int)*16777216+(c1.toNat:Int)*65536+(c2.toNat:Int)*256) (c3.toNat:Int)=(c0.toNat:Int)*16777216+(c1.toNat:Int)*65536+(c2.toNat:Int)*256+c3.toNat:=KY 8 (by omega) (by omega) (by omega) (by omega) (by omega) (by omega)
 rw[f1,f2,f3,u32]
 omega
set_option maxRecDepth 100000 in
set_option maxHeartbeats 800000 in
theorem jm (B b:Nat) (l:List UInt8) (w:World) (hB:B≤b) (hBw:B≤w.heap.size) (h:Z8 b l w) (hl:l.length≤140737488355328) :
  Calls Tryz.prog 82 #[.pointer (some ⟨b,0,none⟩)] w (q3E B b l w J3 (fun n=>.int .i64 n)):=by
 have HT:=q7 (YS B b l 4 w hB hBw h hl)
 match l,HT with
 | c0::c1::c2::c3::t,HT =>
  have HP:=q7 (show XS 4 (c0::c1::c2::c3::t)=some ([c0,c1,c2,c3],t) by rw[XS,if_pos ⟨by decide,by simp;omega⟩];rfl)
  have q0:(str [c0,c1,c2,c3]).size=4:=rfl
  go_enter Tryz.func82,Tryz.ntmps82
  go_wp2_with fail
  refine (HT.out).mono ?_
  rintro e w1 ⟨hS,hc⟩
  rw[HP.out] at hc
  obtain ⟨a,u,he,rfl,hR⟩:∃a u,some ([c0,c1,c2,c3],t)=some (a,u)∧e=.returned (.string (str a))∧Z8 b u w1:=by
   rcases hc with hc|⟨hc,_⟩
   ·exact hc
   ·cases hc
  cases he
  have HR:=q7 hR
  have HS:=q7 hS
  clear hR hS HT h
  go_upto_region 2 with fail
  go_quiet (fail)
  go_wp2
  go_ret
  exact ⟨HS.out.trans (RSt.drews _ _ _ _),.inl ⟨_,_,rfl,qt (q4f c0 c1 c2 c3),HR.out⟩⟩
 | [],HT =>
  have HP:=q7 (show XS 4 []=none from rfl)
  go_enter Tryz.func82,Tryz.ntmps82
  go_wp2_with fail
  refine (HT.out).mono ?_
  rintro e w1 ⟨hS,hc⟩
  rw[HP.out] at hc
  rcases hc with ⟨_,_,hc,_⟩|⟨_,rfl⟩
  ·cases hc
  ·exact ⟨rfl,hS,.inr ⟨rfl,rfl⟩⟩
 | [x0],HT =>
  have HP:=q7 (show XS 4 [x0]=none from rfl)
  go_enter Tryz.func82,Tryz.ntmps82
  go_wp2_with fail
  refine (HT.out).mono ?_
  rintro e w1 ⟨hS,hc⟩
  rw[HP.out] at hc
  rcases hc with ⟨_,_,hc,_⟩|⟨_,rfl⟩
  ·cases hc
  ·exact ⟨rfl,hS,.inr ⟨rfl,rfl⟩⟩
 | [x0,x1],HT =>
  have HP:=q7 (show XS 4 [x0,x1]=none from rfl)
  go_enter Tryz.func82,Tryz.ntmps82
  go_wp2_with fail
  refine (HT.out).mono ?_
  rintro e w1 ⟨hS,hc⟩
  rw[HP.out] at hc
  rcases hc with ⟨_,_,hc,_⟩|⟨_,rfl⟩
  ·cases hc
  ·exact ⟨rfl,hS,.inr ⟨rfl,rfl⟩⟩
 | [x0,x1,x2],HT =>
  have HP:=q7 (show XS 4 [x0,x1,x2]=none from rfl)
  go_enter Tryz.func82,Tryz.ntmps82
  go_wp2_with fail
  refine (HT.out).mono ?_
  rintro e w1 ⟨hS,hc⟩
  rw[HP.out] at hc
  rcases hc with ⟨_,_,hc,_⟩|⟨_,rfl⟩
  ·cases hc
  ·exact ⟨rfl,hS,.inr ⟨rfl,rfl⟩⟩
theorem q3e {l t:List UInt8} {n:Int} (h:J3 l=some (n,t)):JG l=XS n t:=by rw[JG,h];rfl
theorem Yi {l t:List UInt8} {n:Int} (h:J3 l=some (n,t)):t.length+4=l.length:=by
 rw[(Ji.sound _ _ _ h).1,List.length_append,zu];omega
def q3U (m:Nat) (l:List UInt8):Option (Int×List UInt8):=match J3 l with
 | none=>none
 | some (n,t)=>if 0≤n∧n≤(m:Int) then some (n,t) else none
set_option maxRecDepth 100000 in
set_option maxHeartbeats 800000 in
theorem Kf (B b:Nat) (l:List UInt8) (w:World) (hB:B≤b) (hBw:B≤w.heap.size) (h:Z8 b l w) (hl:l.length≤140737488355328) :
  Calls Tryz.prog 81 #[.pointer (some ⟨b,0,none⟩)] w (q3E B b l w JG (fun s=>.string (str s))):=by
 have HN:=q7 (jm B b l w hB hBw h hl)
 clear h
 go_enter Tryz.func81,Tryz.ntmps81
 go_wp2_with fail
 refine (HN.out).mono ?_
 rintro e w1 ⟨hS,hc⟩
 rcases hc with ⟨n,t,hp,rfl,hR⟩|⟨hp,rfl⟩
 ·have HE:=q7 (q3e hp)
  have hlt:=Yi hp
  have HS:=q7 hS
  go_wp2_with fail
  refine (YS B b t n w1 hB (Nat.le_trans hBw HS.out.bel.size) hR (by omega)).mono ?_
  rintro e w2 ⟨hS2,hc2⟩
  rcases hc2 with ⟨a,u,hp2,rfl,hR2⟩|⟨hp2,rfl⟩
  ·have HR2:=q7 hR2
   have HS2:=q7 (HS.out.trans hS2)
   have HP:=q7 (HE.out.trans hp2)
   clear hp hp2 hR hS hS2 hR2
   go_wp2
   go_ret
   exact ⟨HS2.out,.inl ⟨_,_,HP.out,rfl,HR2.out⟩⟩
  ·exact ⟨rfl,HS.out.trans hS2,.inr ⟨HE.out.trans hp2,rfl⟩⟩
 ·exact ⟨rfl,hS,.inr ⟨by rw[JG,hp],rfl⟩⟩
set_option maxRecDepth 100000 in
set_option maxHeartbeats 800000 in
theorem QA (B b m:Nat) (l:List UInt8) (w:World) (hB:B≤b) (hBw:B≤w.heap.size) (h:Z8 b l w) (hl:l.length≤140737488355328) :
  Calls Tryz.prog 83 #[.pointer (some ⟨b,0,none⟩),.int .i64 m] w (q3E B b l w (q3U m) (fun n=>.int .i64 n)):=by
 have HN:=q7 (jm B b l w hB hBw h hl)
 clear h
 go_enter Tryz.func83,Tryz.ntmps83
 go_wp2_with fail
 refine (HN.out).mono ?_
 rintro e w1 ⟨hS,hc⟩
 rcases hc with ⟨n,t,hp,rfl,hR⟩|⟨hp,rfl⟩
 ·have HE:=q7 (show q3U m l=if 0≤n∧n≤(m:Int) then some (n,t) else none by rw[q3U,hp])
  have HR:=q7 (QE hR (Obj.cells #[.int .i64 n] 3))
  have HS:=q7 (hS.trans (RSt.alloc (b:=b) (Nat.le_trans hBw hS.bel.size) (Obj.cells #[.int .i64 n] 3)))
  have HA:=q7 (show qF 0 m [n]=decide (0≤n∧n≤(m:Int)) by simp[qF])
  clear hp hR hS
  go_wp2_with fail
  refine (qi 0 m _ [n] _ (zo w1 n)).mono ?_
  rintro e w2 ⟨rfl,rfl⟩
  rw[HA.out]
  by_cases hn:0≤n∧n≤(m:Int)
  ·rw[if_pos hn] at HE
   rw[decide_eq_true hn]
   clear hn HA
   go_wp2_with fail
   refine (Zj _).mono ?_
   rintro e w3 ⟨rfl,rfl⟩
   go_wp2
   go_ret
   exact ⟨HS.out,.inl ⟨_,_,HE.out,rfl,HR.out⟩⟩
  ·rw[if_neg hn] at HE
   rw[decide_eq_false hn]
   clear hn HA
   go_wp2_with fail
   refine (Yf _).mono ?_
   rintro e w3 ⟨rfl,rfl⟩
   exact ⟨rfl,HS.out,.inr ⟨HE.out,rfl⟩⟩
 ·exact ⟨rfl,hS,.inr ⟨by rw[q3U,hp],rfl⟩⟩
structure KD (B b g:Nat) (w w':World):Prop where
 bel:Below B w w'
 keep:∀k,k<w.heap.size→k≠b→k≠g→w'.heap[k]?=w.heap[k]?
theorem RSt.two {B b g:Nat} {w w':World} (h:RSt B b w w'):KD B b g w w':=⟨h.bel,fun k h1 h2 _=>h.keep k h1 h2⟩
theorem KD.refl (B b g:Nat) (w:World):KD B b g w w:=⟨Below.refl _ _,fun _ _ _ _=>rfl⟩
theorem KD.trans {B b g:Nat} {w w' w'':World} (h:KD B b g w w') (k:KD B b g w' w''):KD B b g w w'' :=
 ⟨h.bel.trans k.bel,fun j h1 h2 h3=>(k.keep j (Nat.lt_of_lt_of_le h1 h.bel.size) h2 h3).trans (h.keep j h1 h2 h3)⟩
def j9 (g:Nat) (t:TypeId) (cs:List Value) (w:World):Prop:=w.heap[g]?=some (.cells cs.toArray t (0,0))
theorem j9.set {B b g:Nat} {t:TypeId} {cs:List Value} {w:World} (h:j9 g t cs w) (hB:B≤g) (i:Nat) (v:Value) (h1:v.oneCell'=true):j9 g t (cs.set i v) (w.setCell ⟨g,i,none⟩ v)∧KD B b g w (w.setCell ⟨g,i,none⟩ v):=by
 refine ⟨?_,(Below.refl B w).setCell (p:=⟨g,i,none⟩) hB _,fun k _ _ hk=>Below.heap_setCell _ _ _ _ (fun e=>hk e)⟩
 unfold j9 at h ⊢
 simp[World.setCell,Array.getElem?_modify,h]
def JB (cs:List Value) (o:Nat) (xs:List Value):List Value:=cs.take o++xs++cs.drop (o+xs.length)
theorem q1J (cs:List Value) (o:Nat):JB cs o []=cs:=by simp[JB]
theorem q2s (cs:List Value) (o:Nat) (xs:List Value) (v:Value) (h:o+xs.length<cs.length):(JB cs o xs).set (o+xs.length) v=JB cs o (xs++[v]):=by
 have e1:(cs.take o++xs).length=o+xs.length:=by simp;omega
 unfold JB
 rw[List.set_append_right _ _ (by omega),e1,Nat.sub_self,List.drop_eq_getElem_cons h,List.set_cons_zero]
 simp[Nat.add_assoc]
theorem q2k (cs:List Value) (o:Nat) (xs:List Value) (h:o+xs.length<cs.length):(JB cs o xs)[o+xs.length]?=cs[o+xs.length]?:=by
 unfold JB
 rw[List.getElem?_append_right (by simp;omega)]
 simp
 congr 1
 omega
set_option maxRecDepth 100000 in
set_option maxHeartbeats 1600000 in
theorem Jp (B b g off N c:Nat) (t:TypeId) (cs:List Value) (l:List UInt8) (w:World) (hB:B≤b) (hBg:B≤g) (hgb:g≠b) (hBw:B≤w.heap.size) (h:Z8 b l w) (hl:l.length≤140737488355328) (hg:j9 g t cs w) (hN:off+N≤cs.length) (hN2:N≤1048576) (hz:∀i,i<N→∃z:Int,cs[off+i]?=some (.int .i64 z)) :
  Calls Tryz.prog 84 #[.pointer (some ⟨b,0,none⟩),.slice (some ⟨g,off,none⟩) N c] w fun e w'=>KD B b g w w'∧((∃ns u,ju J3 N l=some (ns,u)∧e=.returned (.tuple #[])∧Z8 b u w'∧j9 g t (JB cs off (ns.map (Value.int .i64))) w')∨(ju J3 N l=none∧e=panE)):=by
 have HI:=q7 h
 have HG:=q7 hg
 clear h hg
 go_enter Tryz.func84,Tryz.ntmps84
 go_wp2_with fail
 go_loopw [7] (fun i wr=>∃k:Nat,k≤N∧i=.int .i64 k∧∃ns u,ju J3 k l=some (ns,u)∧Z8 b u wr∧j9 g t (JB cs off (ns.map (Value.int .i64))) wr∧KD B b g w wr) (fun i _=>N-(intOf i).toNat)
 case atStart=>exact ⟨0,Nat.zero_le _,rfl,[],l,rfl,HI.out,by rw[List.map_nil,q1J];exact HG.out,KD.refl _ _ _ _⟩
 case round =>
  clear HI HG
  obtain ⟨k,hk,rfl,ns,u,hm,hR,hH,hS⟩:=hrel
  have hnl:=je hm
  have hul:u.length≤l.length:=by rw[((Zs Ji k).sound _ _ _ hm).1];simp
  by_cases hlt:k<N
  ·have hd:decide ((k:Int)<(N:Int))=true:=by simp;omega
   have HM:=q7 hm
   have HR:=q7 hR
   have HH:=q7 hH
   have HS:=q7 hS
   clear hm hR hH hS
   go_wp2_with fail
   refine (jm B b u wr hB (Nat.le_trans hBw HS.out.bel.size) HR.out (by omega)).mono ?_
   rintro e w1 ⟨hS1,hc1⟩
   rcases hc1 with ⟨n,t1,hp,rfl,hR1⟩|⟨hp,rfl⟩
   ·have hH1:j9 g t (JB cs off (ns.map (Value.int .i64))) w1:=(hS1.keep g (Array.getElem?_eq_some_iff.1 HH.out).1 hgb).trans HH.out
    obtain ⟨z,hz'⟩:=hz k hlt
    have hpl:(ns.map (Value.int .i64)).length=k:=by rw[List.length_map,hnl]
    have c1:w1.cell? ⟨g,off+k,none⟩=some (.int .i64 z):=by
     rw[Lib.cell_of_heap hH1]
     have:=q2k cs off (ns.map (Value.int .i64)) (by rw[hpl];omega)
     rw[hpl] at this
     simp[this,hz']
    have f1:w1.frozen? ⟨g,off+k,none⟩=false:=Lib.frozen_of_heap hH1 _
    obtain ⟨hH2,hS2⟩:=hH1.set (B:=B) (b:=b) hBg (off+k) (.int .i64 n) rfl
    have hR2:Z8 b t1 (w1.setCell ⟨g,off+k,none⟩ (.int .i64 n)):=(Below.heap_setCell _ _ _ _ (fun e=>hgb e.symm)).trans hR1
    have hps:=q2s cs off (ns.map (Value.int .i64)) (.int .i64 n) (by rw[hpl];omega)
    rw[hpl] at hps
    rw[hps,←List.map_singleton (f:=Value.int .i64),←List.map_append] at hH2
    have HF:=q7 (show ∃ns u,ju J3 (k+1) l=some (ns,u)∧Z8 b u (w1.setCell ⟨g,off+k,none⟩ (.int .i64 n))∧j9 g t (JB cs off (ns.map (Value.int .i64))) (w1.setCell ⟨g,off+k,none⟩ (.int .i64 n))∧KD B b g w (w1.setCell ⟨g,off+k,none⟩ (.int .i64 n)) from ⟨_,_,Qw HM.out hp,hR2,hH2,HS.out.trans (hS1.two.trans hS2)⟩)
    clear hH1 hH2 hS2 hR2 hps hp hS1 hR1 hz'
    go_wp2
    go_roundw
    case rel=>exact ⟨k+1,hlt,by go_num,HF.out⟩
    case measure=>simp[intOf];omega
   ·exact ⟨rfl,HS.out.trans hS1.two,.inr ⟨zp HM.out hp hlt,rfl⟩⟩
  ·have hd:decide ((k:Int)<(N:Int))=false:=by simp;omega
   obtain rfl:k=N:=by omega
   go_wp2
   go_end0
   exact ⟨hS,.inl ⟨ns,u,hm,rfl,hR,hH⟩⟩
end Go.Proofs.YtanebhbfekcplaaGreat

namespace Go.Proofs.YtanebhbfekcplaaGreat
open Go
section
variable {P:Program} {ops:Array Oper} {Q:Exit→Act→World→Prop} {md:Region.Mode} {S:World→Prop} {f:Nat}
def j7 (P:Program) (md:Region.Mode) (ops:Array Oper) (Q:Exit→Act→World→Prop) (S:World→Prop) (f:Nat):Nat→Array Bool→Act→World→Prop
 | 0,listed,a,w=>Region.ready md ops listed=[]∧Q .normal a w
 | fuel+1,listed,a,w =>
  (Region.ready md ops listed=[]→Q .normal a w) ∧
  ∀i∈Region.ready md ops listed,wpOp P ops Q i (fun a' w'=>(i≠f→S w')∧j7 P md ops Q S f fuel (listed.setIfInBounds i true) a' w') a w
theorem XG:∀(fuel:Nat) (listed:Array Bool) (a:Act) (w:World),j7 P md ops Q S f fuel listed a w→wpAny P md ops Q fuel listed a w
 | 0,_,_,_,h=>h
 | fuel+1,_,_,_,h=>⟨h.1,fun i hi=>wpOp_mono (fun a' w' h'=>XG fuel _ a' w' h'.2) (h.2 i hi)⟩
def Ky (md:Region.Mode) (ops:Array Oper) (i:Nat):Nat→Nat→Bool
 | 0,_=>false
 | n+1,j=>match ops[j]? with
  | some o=>o.after.any fun e=>Region.binds md e && (e.on == i || Ky md ops i n e.on)
  | none=>false
def JY (md:Region.Mode) (ops:Array Oper) (listed:Array Bool):Prop:=∀k o,ops[k]?=some o→listed.getD k false=true→∀e∈o.after,Region.binds md e=true→listed.getD e.on false=true
def XZ (md:Region.Mode) (ops:Array Oper) (listed:Array Bool):Bool :=
 (List.range ops.size).all fun k=>match ops[k]? with
  | some o=>!listed.getD k false || o.after.all fun e=>!Region.binds md e || listed.getD e.on false
  | none=>true
theorem YY {listed:Array Bool} (h:XZ md ops listed=true):JY md ops listed:=by
 intro k o ho hk e he hb
 have h1:=List.all_eq_true.1 h k (List.mem_range.2 (Array.getElem?_eq_some_iff.1 ho).1)
 simp only[ho,hk,Bool.not_true,Bool.false_or] at h1
 have h2:(!Region.binds md e || listed.getD e.on false)=true:=by
  first
   | exact List.all_eq_true.1 h1 e he
   | exact Array.all_eq_true'.1 h1 e he
 rw[hb] at h2
 simpa using h2
theorem Xi {i:Nat} {listed:Array Bool} (hc:JY md ops listed):∀(n j:Nat),(j∈Region.ready md ops listed∨listed.getD j false=true)→Ky md ops i n j=true→listed.getD i false=true
 | 0,_,_,h=>by cases h
 | n+1,j,hj,h=>by
  unfold Ky at h
  cases ho:ops[j]? with
  | none=>rw[ho] at h;cases h
  | some o =>
   rw[ho] at h
   have hall:∀e∈o.after,Region.binds md e=true→listed.getD e.on false=true:=by
    rcases hj with hj|hj
    ·obtain ⟨_,o',ho',hall⟩:=mem_ready.1 hj
     obtain rfl:=Option.some.inj (ho.symm.trans ho')
     exact hall
    ·exact hc j o ho hj
   have h':∃e∈o.after,(Region.binds md e && (e.on == i || Ky md ops i n e.on))=true:=by
    first
     | exact List.any_eq_true.1 h
     | exact Array.any_eq_true'.1 h
   obtain ⟨e,he,hx⟩:=h'
   rw[Bool.and_eq_true] at hx
   have h1:=hall e he hx.1
   rcases Bool.or_eq_true _ _ |>.mp hx.2 with h2|h2
   ·rw[←eq_of_beq h2];exact h1
   ·exact Xi hc n e.on (.inr h1) h2
theorem Xk {j:Nat} {listed:Array Bool} (hc:JY md ops listed) (hj:j∈Region.ready md ops listed):JY md ops (listed.setIfInBounds j true):=by
 intro k o ho hk e he hb
 by_cases hkj:j=k
 ·subst hkj
  obtain ⟨_,o',ho',hall⟩:=mem_ready.1 hj
  obtain rfl:=Option.some.inj (ho.symm.trans ho')
  exact getD_set_true (hall e he hb)
 ·rw[getD_set_ne false hkj] at hk
  exact getD_set_true (hc k o ho hk e he hb)
theorem YU {i n:Nat} {oi:Oper} {v:Value} (hi:ops[i]?=some oi) (hsel:∀(j:Nat) (o:Oper) cs b,ops[j]?=some o→o.op≠.select cs b)
  (hQ:∀c a w,Q (.panic c) (a.put oi.dst v) w→Q (.panic c) a w) (hwt:Ky md ops i n f=true) :
  ∀(fuel:Nat) (listed:Array Bool) (a:Act) (w:World),
   (∀j oj,ops[j]?=some oj→j≠i→listed.getD j true=false→(∀e∈oj.after,Region.binds md e=true→e.on≠i)→oi.apart ops oj=true) →
   JY md ops listed →
   i∈Region.ready md ops listed→YieldsIf P ops S oi v a→S w →
   j7 P md ops Q S f fuel (listed.setIfInBounds i true) (a.put oi.dst v) w→j7 P md ops Q S f (fuel+1) listed a w:=by
 intro fuel
 induction fuel with
 | zero =>
  intro listed a w _ _ hr hy hS H
  refine ⟨fun h=>(by rw[h] at hr;cases hr),fun j hj=>?_⟩
  by_cases hji:j=i
  ·subst hji;exact hy.wpOp hi hS ⟨fun _=>hS,H⟩
  ·have:=ready_mono hj hji
   rw[H.1] at this
   cases this
 | succ fuel ih =>
  intro listed a w hfree hcl hr hy hS H
  refine ⟨fun h=>(by rw[h] at hr;cases hr),fun j hj=>?_⟩
  by_cases hji:j=i
  ·subst hji;exact hy.wpOp hi hS ⟨fun _=>hS,H⟩
  ·have hiun:¬listed.getD i false=true:=by
    intro h1
    have h0:=(mem_ready.1 hr).1
    rcases Nat.lt_or_ge i listed.size with h'|h'
    ·simp[h'] at h0 h1;rw[h0] at h1;cases h1
    ·simp[Array.getElem?_eq_none h'] at h1
   have hjf:j≠f:=fun e=>hiun (Xi hcl n f (.inl (e ▸ hj)) hwt)
   have h1:=H.2 j (ready_mono hj hji)
   obtain ⟨hjun,oj,hoj,hall⟩:=mem_ready.1 hj
   have hnot:∀e∈oj.after,Region.binds md e=true→e.on≠i:=fun e he hb heq=>by
    have h1:=hall e he hb
    rw[heq] at h1
    exact hiun h1
   have h2:=wpOp_putIf hoj (hfree j oj hoj hji hjun hnot) (fun cs b=>hsel i oi cs b hi) (fun cs b=>hsel j oj cs b hoj) hQ hy h1
   have hfree':∀k ok,ops[k]?=some ok→k≠i→(listed.setIfInBounds j true).getD k true=false →
     (∀e∈ok.after,Region.binds md e=true→e.on≠i)→oi.apart ops ok=true:=fun k ok hk hki hun hno=>by
    refine hfree k ok hk hki ?_ hno
    by_cases hjk:j=k
    ·subst hjk;exact hjun
    ·rw[getD_set_ne true hjk] at hun;exact hun
   refine wpOp_mono (fun a' w' h3=>⟨h3.2.1,ih (listed.setIfInBounds j true) a' w' hfree' (Xk hcl hj) (ready_mono hr (Ne.symm hji)) h3.1 (h3.2.1 hjf) ?_⟩) h2
   rw[Array.setIfInBounds_comm _ _ hji]
   exact h3.2.2
theorem q02 {i:Nat} {oi:Oper} {v:Value} {fuel:Nat} {listed:Array Bool} {a:Act} {w:World} (hi:ops[i]?=some oi)
  (hs:Region.noSelect ops=true) (hf:Region.free md ops listed i=true) (hr:(Region.ready md ops listed).contains i=true) (hwt:Ky md ops i ops.size f=true) (hcl:XZ md ops listed=true)
  (hQ:∀c a w,Q (.panic c) (a.put oi.dst v) w→Q (.panic c) a w) (hy:YieldsIf P ops S oi v a) (hS:S w)
  (h:j7 P md ops Q S f fuel (listed.setIfInBounds i true) (a.put oi.dst v) w):j7 P md ops Q S f (fuel+1) listed a w :=
 YU hi (Region.noSelect_spec hs) hQ hwt fuel listed a w (Region.free_spec hi hf) (YY hcl) (by simpa using hr) hy hS h
theorem qm {i:Nat} {o:Oper} {fuel:Nat} {listed:Array Bool} {a:Act} {w:World} (hr:Region.ready md ops listed=[i]) (ho:ops[i]?=some o)
  (h:∀K':Act→World→Prop,Shut (∀a w,S w→j7 P md ops Q S f fuel (listed.setIfInBounds i true) a w→K' a w)→if Region.wanted o (yielded ops a.tmps)=true then Oper.wp P o a w K' Q else K' (a.put o.dst undef) w) :
  j7 P md ops Q S f (fuel+1) listed a w :=
 ⟨fun h0=>(by rw[hr] at h0;cases h0),fun j hj=>by
  rw[hr] at hj
  obtain rfl:=List.mem_singleton.1 hj
  exact wpOp_step ho (fun K' hK=>h K' (fun a w hS hW=>hK a w ⟨fun _=>hS,hW⟩))⟩
theorem qV {o:Oper} {fuel:Nat} {listed:Array Bool} {a:Act} {w:World} (hr:Region.ready md ops listed=[f]) (ho:ops[f]?=some o)
  (h:∀K':Act→World→Prop,Shut (∀a w,j7 P md ops Q S f fuel (listed.setIfInBounds f true) a w→K' a w)→if Region.wanted o (yielded ops a.tmps)=true then Oper.wp P o a w K' Q else K' (a.put o.dst undef) w) :
  j7 P md ops Q S f (fuel+1) listed a w :=
 ⟨fun h0=>(by rw[hr] at h0;cases h0),fun j hj=>by
  rw[hr] at hj
  obtain rfl:=List.mem_singleton.1 hj
  exact wpOp_step ho (fun K' hK=>h K' (fun a w hW=>hK a w ⟨fun e=>absurd rfl e,hW⟩))⟩
theorem qU {listed:Array Bool} {a:Act} {w:World} (hr:Region.ready md ops listed=[]) (h:Q .normal a w) :
  ∀fuel,j7 P md ops Q S f fuel listed a w
 | 0=>⟨hr,h⟩
 | _+1=>⟨fun _=>h,by rw[hr];simp⟩
theorem qK {id:Nat} {a:Act} {w:World} (hm:P.follows .mixedOrders=true)
  (h:j7 P .any ops Q S f ops.size (Array.replicate ops.size false) a { w with drawn:=w.drawn+1 }):(Code.region id ops true).wp P Q a w :=
 wp_region_any hm (XG _ _ _ _ h)
end
end Go.Proofs.YtanebhbfekcplaaGreat

namespace Go.Proofs.YtanebhbfekcplaaGreat
open Go
section
variable {P:Program} {ops:Array Oper} {Q:Exit→Act→World→Prop} {md:Region.Mode} {S:World→Prop} {f:Nat}
theorem JC {i j:Nat} {oi oj:Oper} {fuel:Nat} {listed:Array Bool} {a:Act} {w:World} (hr:Region.ready md ops listed=[i,j]) (hoi:ops[i]?=some oi) (hoj:ops[j]?=some oj)
  (h1:∀K':Act→World→Prop,Shut (∀a w,S w→j7 P md ops Q S f fuel (listed.setIfInBounds i true) a w→K' a w)→if Region.wanted oi (yielded ops a.tmps)=true then Oper.wp P oi a w K' Q else K' (a.put oi.dst undef) w)
  (h2:∀K':Act→World→Prop,Shut (∀a w,S w→j7 P md ops Q S f fuel (listed.setIfInBounds j true) a w→K' a w)→if Region.wanted oj (yielded ops a.tmps)=true then Oper.wp P oj a w K' Q else K' (a.put oj.dst undef) w) :
  j7 P md ops Q S f (fuel+1) listed a w :=
 ⟨fun h0=>(by rw[hr] at h0;cases h0),fun k hk=>by
  rw[hr] at hk
  rcases List.mem_cons.1 hk with e|hk
  ·subst e
   exact wpOp_step hoi (fun K' hK=>h1 K' (fun a w hS hW=>hK a w ⟨fun _=>hS,hW⟩))
  ·obtain rfl:=List.mem_singleton.1 hk
   exact wpOp_step hoj (fun K' hK=>h2 K' (fun a w hS hW=>hK a w ⟨fun _=>hS,hW⟩))⟩
theorem jq {i:Nat} {oi:Oper} {v:Value} {fuel:Nat} {listed:Array Bool} {a:Act} {w:World} (d:Option Nat) (hi:ops[i]?=some oi) (hd:oi.dst=d)
  (hs:Region.noSelect ops=true) (hf:Region.free md ops listed i=true) (hr:(Region.ready md ops listed).contains i=true) (hwt:Ky md ops i ops.size f=true) (hcl:XZ md ops listed=true)
  (hQ:∀c a w,Q (.panic c) (a.put oi.dst v) w→Q (.panic c) a w) (hy:YieldsIf P ops S oi v a) (hS:S w)
  (h:j7 P md ops Q S f fuel (listed.setIfInBounds i true) (a.put d v) w):j7 P md ops Q S f (fuel+1) listed a w:=by
 subst hd
 exact q02 hi hs hf hr hwt hcl hQ hy hS h
end
end Go.Proofs.YtanebhbfekcplaaGreat

namespace Go.Proofs.YtanebhbfekcplaaGreat
open Go
section
variable {P:Program} {ops:Array Oper} {Q:Exit→Act→World→Prop} {md:Region.Mode} {S:World→Prop} {f:Nat}
def q2T (md:Region.Mode) (ops:Array Oper) (i:Nat):List Nat→Nat→Bool
 | [],j=>match ops[j]? with
  | some o=>o.after.any fun e=>Region.binds md e && e.on == i
  | none=>false
 | k::r,j=>(match ops[j]? with
  | some o=>o.after.any fun e=>Region.binds md e && e.on == k
  | none=>false) && q2T md ops i r k
theorem q0o {i j:Nat} {listed:Array Bool} (hc:JY md ops listed) (hj:j∈Region.ready md ops listed∨listed.getD j false=true)
  (h:(match ops[j]? with
  | some o=>o.after.any fun e=>Region.binds md e && e.on == i
  | none=>false)=true):listed.getD i false=true:=by
 cases ho:ops[j]? with
 | none=>rw[ho] at h;cases h
 | some o =>
  rw[ho] at h
  have hall:∀e∈o.after,Region.binds md e=true→listed.getD e.on false=true:=by
   rcases hj with hj|hj
   ·obtain ⟨_,o',ho',hall⟩:=mem_ready.1 hj
    obtain rfl:=Option.some.inj (ho.symm.trans ho')
    exact hall
   ·exact hc j o ho hj
  have h':∃e∈o.after,(Region.binds md e && e.on == i)=true:=by
   first
    | exact List.any_eq_true.1 h
    | exact Array.any_eq_true'.1 h
  obtain ⟨e,he,hx⟩:=h'
  rw[Bool.and_eq_true] at hx
  rw[←eq_of_beq hx.2]
  exact hall e he hx.1
theorem K8 {i:Nat} {listed:Array Bool} (hc:JY md ops listed):∀(p:List Nat) (j:Nat),(j∈Region.ready md ops listed∨listed.getD j false=true)→q2T md ops i p j=true→listed.getD i false=true
 | [],j,hj,h=>q0o hc hj h
 | k::r,j,hj,h=>by
  unfold q2T at h
  rw[Bool.and_eq_true] at h
  exact K8 hc r k (.inr (q0o hc hj h.1)) h.2
theorem Ys {i:Nat} {p:List Nat} {oi:Oper} {v:Value} (hi:ops[i]?=some oi) (hsel:∀(j:Nat) (o:Oper) cs b,ops[j]?=some o→o.op≠.select cs b)
  (hQ:∀c a w,Q (.panic c) (a.put oi.dst v) w→Q (.panic c) a w) (hwt:q2T md ops i p f=true) :
  ∀(fuel:Nat) (listed:Array Bool) (a:Act) (w:World),
   (∀j oj,ops[j]?=some oj→j≠i→listed.getD j true=false→(∀e∈oj.after,Region.binds md e=true→e.on≠i)→oi.apart ops oj=true) →
   JY md ops listed →
   i∈Region.ready md ops listed→YieldsIf P ops S oi v a→S w →
   j7 P md ops Q S f fuel (listed.setIfInBounds i true) (a.put oi.dst v) w→j7 P md ops Q S f (fuel+1) listed a w:=by
 intro fuel
 induction fuel with
 | zero =>
  intro listed a w _ _ hr hy hS H
  refine ⟨fun h=>(by rw[h] at hr;cases hr),fun j hj=>?_⟩
  by_cases hji:j=i
  ·subst hji;exact hy.wpOp hi hS ⟨fun _=>hS,H⟩
  ·have:=ready_mono hj hji
   rw[H.1] at this
   cases this
 | succ fuel ih =>
  intro listed a w hfree hcl hr hy hS H
  refine ⟨fun h=>(by rw[h] at hr;cases hr),fun j hj=>?_⟩
  by_cases hji:j=i
  ·subst hji;exact hy.wpOp hi hS ⟨fun _=>hS,H⟩
  ·have hiun:¬listed.getD i false=true:=by
    intro h1
    have h0:=(mem_ready.1 hr).1
    rcases Nat.lt_or_ge i listed.size with h'|h'
    ·simp[h'] at h0 h1;rw[h0] at h1;cases h1
    ·simp[Array.getElem?_eq_none h'] at h1
   have hjf:j≠f:=fun e=>hiun (K8 hcl p f (.inl (e ▸ hj)) hwt)
   have h1:=H.2 j (ready_mono hj hji)
   obtain ⟨hjun,oj,hoj,hall⟩:=mem_ready.1 hj
   have hnot:∀e∈oj.after,Region.binds md e=true→e.on≠i:=fun e he hb heq=>by
    have h1:=hall e he hb
    rw[heq] at h1
    exact hiun h1
   have h2:=wpOp_putIf hoj (hfree j oj hoj hji hjun hnot) (fun cs b=>hsel i oi cs b hi) (fun cs b=>hsel j oj cs b hoj) hQ hy h1
   have hfree':∀k ok,ops[k]?=some ok→k≠i→(listed.setIfInBounds j true).getD k true=false →
     (∀e∈ok.after,Region.binds md e=true→e.on≠i)→oi.apart ops ok=true:=fun k ok hk hki hun hno=>by
    refine hfree k ok hk hki ?_ hno
    by_cases hjk:j=k
    ·subst hjk;exact hjun
    ·rw[getD_set_ne true hjk] at hun;exact hun
   refine wpOp_mono (fun a' w' h3=>⟨h3.2.1,ih (listed.setIfInBounds j true) a' w' hfree' (Xk hcl hj) (ready_mono hr (Ne.symm hji)) h3.1 (h3.2.1 hjf) ?_⟩) h2
   rw[Array.setIfInBounds_comm _ _ hji]
   exact h3.2.2
theorem q9 {i:Nat} {oi:Oper} {v:Value} {fuel:Nat} {listed:Array Bool} {a:Act} {w:World} (d:Option Nat) (p:List Nat) (hi:ops[i]?=some oi) (hd:oi.dst=d)
  (hs:Region.noSelect ops=true) (hf:Region.free md ops listed i=true) (hr:(Region.ready md ops listed).contains i=true) (hwt:q2T md ops i p f=true) (hcl:XZ md ops listed=true)
  (hQ:∀c a w,Q (.panic c) (a.put oi.dst v) w→Q (.panic c) a w) (hy:YieldsIf P ops S oi v a) (hS:S w)
  (h:j7 P md ops Q S f fuel (listed.setIfInBounds i true) (a.put d v) w):j7 P md ops Q S f (fuel+1) listed a w:=by
 subst hd
 exact Ys hi (Region.noSelect_spec hs) hQ hwt fuel listed a w (Region.free_spec hi hf) (YY hcl) (by simpa using hr) hy hS h
end
end Go.Proofs.YtanebhbfekcplaaGreat

namespace Go.Proofs.YtanebhbfekcplaaGreat
open Go.RowKit
theorem q4b {et ct:TypeId} {sz:Nat} (ce:ct≠et) {W' V1 w1 w:World} {base PB:Nat} {x y:Value} {so:Option Addr} {scap k m g cap:Nat} {xs ys:List Value}
  (i1:W'.heap[PB]?=some (.cells #[x,y,.slice so k scap] ct (0,0))) (i2:W'.ownsRow base et sz (.slice so k scap) k xs)
  (i5:Below w.heap.size w W') (hb:w.heap.size≤base) (hPB:w.heap.size≤PB) (hV1:Below W'.heap.size W' V1) (hg:V1.grownBy w1 (Value.slice so k scap).ownBlock)
  (ho:w1.ownsRow base et sz (.slice (some ⟨g,0,none⟩) m cap) m ys) :
  (∀b,b<W'.heap.size→some b≠(Value.slice so k scap).ownBlock→w1.heap[b]?=W'.heap[b]?)∧w1.cell? ⟨PB,2,none⟩=some (.slice so k scap)∧w1.frozen? ⟨PB,2,none⟩=false ∧
   (w1.setCell ⟨PB,2,none⟩ (.slice (some ⟨g,0,none⟩) m cap)).heap[PB]?=some (.cells #[x,y,.slice (some ⟨g,0,none⟩) m cap] ct (0,0)) ∧
   (w1.setCell ⟨PB,2,none⟩ (.slice (some ⟨g,0,none⟩) m cap)).ownsRow base et sz (.slice (some ⟨g,0,none⟩) m cap) m ys∧Below w.heap.size w (w1.setCell ⟨PB,2,none⟩ (.slice (some ⟨g,0,none⟩) m cap)) ∧
   (∀b,b<W'.heap.size→some b≠(Value.slice so k scap).ownBlock→b≠PB→(w1.setCell ⟨PB,2,none⟩ (.slice (some ⟨g,0,none⟩) m cap)).heap[b]?=W'.heap[b]?):=by
 have hs:=hV1.size
 have keep:∀b,b<W'.heap.size→some b≠(Value.slice so k scap).ownBlock→w1.heap[b]?=W'.heap[b]?:=fun b hb hne=>by
  rw[hg.block b (by omega) hne,hV1.block b hb]
 have l1:=(Array.getElem?_eq_some_iff.1 i1).1
 have kP:=(keep PB l1 (J4 i2 i1 ce)).trans i1
 have hc:=heap_setCell_same w1 PB 2 _ _ (.slice (some ⟨g,0,none⟩) m cap) kP
 refine ⟨keep,by rw[Lib.cell_of_heap kP];rfl,Lib.frozen_of_heap kP 2,by rw[hc];rfl,ownsRow_setCell_other ho (fun e=>J4 ho kP ce e.symm) _,?_,fun b hb hne hn=>(Below.heap_setCell _ _ _ _ hn).trans (keep b hb hne)⟩
 exact ((i5.trans (hV1.mono i5.size)).grown hg (by have:=i5.size;omega) (fun j hj=>Nat.le_trans hb (i2.lt j hj).1)).setCell (p:=⟨PB,2,none⟩) hPB _
end Go.Proofs.YtanebhbfekcplaaGreat

namespace Go.Proofs.YtanebhbfekcplaaGreat
set_option linter.unusedVariables false
open Go.RowKit
def inRows (top rows:Nat) (s:Pt):Bool:=decide ((top:Int)≤s.2∧s.2<(top:Int)+rows)
def Xl (ls:List Pt) (top rows:Nat):List Pt:=(ls.filter (inRows top rows)).map fun s=>(s.1,s.2-top)
def q37 (p:Int):Int:=if p<2 then p+2 else p-2
def q3K (m:Nat→Int) (k:Nat):Int:=m ((k+2) % 4)
def q4i (n:zw) (top:Nat):zw:={ n with phase:=if top % 2=1 then q37 n.phase else n.phase,black:=if top % 2=1 then q3K n.black else n.black }
abbrev JJ:Array Value:=#[.int .i64 0,.int .i64 0,.int .i64 0,.int .i64 0,.int .i64 0,.int .i64 0,.slice none 0 0,.int .i64 0,.int .i64 0,.int .i64 0,.int .i64 0,.int .i64 0,.int .i64 0,.int .i64 0,.int .i64 0,.int .i64 0,.int .i64 0,.int .i64 0,.int .i64 0,.slice none 0 0,.int .i64 0]
def ptL (t:Pt):List Value:=[.int .i64 t.1,.int .i64 t.2]
def spZ:Value:=.agg #[.int .i64 0,.int .i64 0]
theorem Tryz.infoSpot:(Tryz.prog.info? 77).map (fun i=>(i.zero,i.size,i.bytes))=some (some spZ,2,16):=by kernel_rfl
theorem jc (ls:List Pt):(ls.flatMap ptL).length=ls.length*2:=by
 induction ls with
 | nil=>rfl
 | cons p ls ih=>rw[List.flatMap_cons,List.length_append,ih];simp[ptL];omega
theorem JP (ls:List Pt) (j:Nat) (h:j<ls.length):(ls.flatMap ptL)[j*2]?=some (.int .i64 (qk ls j).1)∧(ls.flatMap ptL)[j*2+1]?=some (.int .i64 (qk ls j).2):=by
 rw[←Q5 ls j h]
 induction ls generalizing j with
 | nil=>simp at h
 | cons p ls ih =>
  cases j with
  | zero=>simp[ptL,List.flatMap_cons]
  | succ j =>
   have h':j<ls.length:=by simpa using h
   have:=ih j h'
   rw[List.flatMap_cons,show (j+1)*2=j*2+2 by omega]
   simp only[ptL,List.cons_append,List.nil_append,List.getElem?_cons_succ,List.getElem_cons_succ]
   exact this
theorem qX.own {w:World} {base:Nat} {e:TypeId} {v:Value} {ls:List Pt} (h:w.ownsRow base e 2 v ls.length (ls.flatMap ptL)) (hl:ls.length≤9223372036854775807):qX w v ls:=by
 rcases h.2 with ⟨hv,hn⟩|⟨g,cap,cur,hv,_,hg,h1,h2,h3,h4⟩
 ·exact ⟨none,0,by rw[hv,hn],hl,.inl (List.eq_nil_of_length_eq_zero hn)⟩
 ·refine ⟨_,cap,hv,hl,.inr ⟨g,0,rfl,(Array.getElem?_eq_some_iff.1 hg).1,fun j hj=>?_⟩⟩
  have key:∀i u,i<ls.length*2→(ls.flatMap ptL)[i]?=some u→w.cell? ⟨g,0+i,none⟩=some u:=fun i u hi hu=>by
   rw[Nat.zero_add,cell_of_row w g i cur _ _ hg]
   rw[←h4,List.getElem?_take_of_lt hi] at hu
   simpa using hu
  obtain ⟨a,b⟩:=JP ls j hj
  exact ⟨key _ _ (by omega) a,key _ _ (by omega) b⟩
theorem qX.other {w w':World} {v:Value} {ls:List Pt} {k:Nat} (h:qX w v ls) (hs:w.heap.size≤w'.heap.size) (hk:∀b,b≠k→w'.heap[b]?=w.heap[b]?) (hne:v.ownBlock≠some k):qX w' v ls:=by
 obtain ⟨ao,cap,rfl,hl,h⟩:=h
 refine ⟨ao,cap,rfl,hl,?_⟩
 rcases h with h|⟨b,off,rfl,hlt,hc⟩
 ·exact .inl h
 ·have hb:b≠k:=fun e=>hne (by rw[e];rfl)
  refine .inr ⟨b,off,rfl,Nat.lt_of_lt_of_le hlt hs,fun j hj=>?_⟩
  rw[World.cell?_of_block (a:=⟨b,off+j*2,none⟩) (hk b hb),World.cell?_of_block (a:=⟨b,off+j*2+1,none⟩) (hk b hb)]
  exact hc j hj
def MvJ (w:World) (n:zw) (TP R:Nat) (sv cv s:Value) (k:Nat) (wr:World):Prop :=
 wr.ownsRow w.heap.size 77 2 s (Xl (n.spots.take k) TP R).length ((Xl (n.spots.take k) TP R).flatMap ptL)∧wr.heap[w.heap.size]?=some (.cells (qZ (q4i n TP) sv cv) 30 (0,0))∧wr.heap[w.heap.size+1]?=some (.cells JJ 30 (0,0))∧Below w.heap.size w wr
theorem MvJ.below {w:World} {n:zw} {TP R:Nat} {sv cv s:Value} {k:Nat} {wr V:World} (h:MvJ w n TP R sv cv s k wr) (hV:Below wr.heap.size wr V):MvJ w n TP R sv cv s k V :=
 ⟨qy h.1 hV,(hV.block _ (Array.getElem?_eq_some_iff.1 h.2.1).1).trans h.2.1,(hV.block _ (Array.getElem?_eq_some_iff.1 h.2.2.1).1).trans h.2.2.1,h.2.2.2.trans (hV.mono h.2.2.2.size)⟩
end Go.Proofs.YtanebhbfekcplaaGreat

namespace Go.Proofs.YtanebhbfekcplaaGreat
set_option linter.unusedVariables false
open Go.RowKit
theorem Tryz.infoPoint:(Tryz.prog.info? 78).map (fun i=>(i.zero,i.size,i.bytes))=some (some spZ,2,16):=by kernel_rfl
theorem QF (ls:List Pt):∀u∈ls.flatMap ptL,u.oneCell'=true:=by
 intro u hu
 obtain ⟨t,_,ht⟩:=List.mem_flatMap.1 hu
 simp only[ptL,List.mem_cons,List.not_mem_nil,or_false] at ht
 rcases ht with rfl|rfl<;>rfl
theorem Km {w:World} {a:Addr} {xs:List Int} (o:Obj) (hc:xs=[]∨∃b off,some a=some ⟨b,off,none⟩∧b<w.heap.size∧∀j (h:j<xs.length),w.cell? ⟨b,off+j,none⟩=some (.int .i64 xs[j])) :
  ∀j u,(xs.map (Value.int .i64))[j]?=some u→(w.alloc o).cell? (a.add j)=some u:=by
 intro j u hj
 rcases hc with h|⟨b,off,h,hb,h2⟩
 ·subst h;simp at hj
 ·cases h
  rw[List.getElem?_map] at hj
  obtain ⟨z,hz,rfl⟩:=Option.map_eq_some_iff.1 hj
  obtain ⟨hl,rfl⟩:=List.getElem?_eq_some_iff.1 hz
  rw[Addr.add_lit]
  exact Lib.cell?_alloc_some _ (h2 j hl)
theorem Zh {w:World} {a:Addr} {ls:List Pt} (o:Obj) (hc:ls=[]∨∃b off,some a=some ⟨b,off,none⟩∧b<w.heap.size∧∀j,j<ls.length→w.cell? ⟨b,off+j*2,none⟩=some (.int .i64 (qk ls j).1)∧w.cell? ⟨b,off+j*2+1,none⟩=some (.int .i64 (qk ls j).2)) :
  ∀j u,(ls.flatMap ptL)[j]?=some u→(w.alloc o).cell? (a.add j)=some u:=by
 intro j u hj
 rcases hc with h|⟨b,off,h,hb,h2⟩
 ·subst h;simp at hj
 ·cases h
  have hl:j<ls.length*2:=by rw[←jc];exact (List.getElem?_eq_some_iff.1 hj).1
  rw[Addr.add_lit]
  refine Lib.cell?_alloc_some _ ?_
  obtain ⟨e1,e2⟩:=JP ls (j / 2) (by omega)
  obtain ⟨c1,c2⟩:=h2 (j / 2) (by omega)
  rcases Nat.mod_two_eq_zero_or_one j with hm|hm
  ·have hq:j / 2*2=j:=by omega
   rw[hq] at e1 c1
   rw[c1,←hj,e1]
  ·have hq:j / 2*2+1=j:=by omega
   rw[hq] at e2
   rw[Nat.add_assoc,hq] at c2
   rw[c2,←hj,e2]
set_option maxHeartbeats 800000 in
set_option maxRecDepth 100000 in
theorem YD (v:Value) (xs:List Int) (w:World) (hv:qd w v xs) (hl:xs.length≤1000000) :
  Calls Tryz.prog 64 #[v] w fun e w'=>∃r,e=.returned r∧qd w' r xs∧Below w.heap.size w w'∧qn w.heap.size r:=by
 obtain ⟨ao,ca,rfl,hx,hc⟩:=hv
 have q22:∀(w:World) (a:Option Addr) (n c n' c':Nat),(binOp .eql 22 (.slice a n c) (.slice none n' c')).run Tryz.prog w=.ok (.bool a.isNone) w:=fun w a n c n' c'=>Lib.run_eql_slice_nil w _ _ a n c n' c' Tryz.underlying22
 cases ao with
 | none =>
  have hn:xs=[]:=by
   rcases hc with h|⟨b,off,h,_⟩
   ·exact h
   ·cases h
  subst hn
  go_enter Tryz.func64,Tryz.ntmps64
  go_wp2
  go_ret
  exact ⟨_,rfl,qd.nil _,Below.refl _ _,qn.nil _⟩
 | some a =>
  obtain ⟨i0,hi,hz0,hz1,hz2⟩:=info_parts Tryz.infoInt
  have HA:=q7 (show ∀j u,(xs.map (Value.int .i64))[j]?=some u→(w.alloc (.cells #[] 3)).cell? (a.add j)=some u from Km _ hc)
  clear hc
  go_enter Tryz.func64,Tryz.ntmps64
  go_wp2_with (at_builtin;refine wpList_append_own _ rfl _ _ 22 rfl w.heap.size 3 i0 (.int .i64 0) 1 8 Tryz.underlying22 hi hz0 hz1 hz2 rfl (by decide) _ _ _ rfl (World.ownsRow_made w #[] 0 (Nat.le_refl _) (Nat.zero_le _) (by simp)) a xs.length ca (xs.map (Value.int .i64)) rfl ?qc1 ?qc2 ?qc3 ?qc4 ?qc5 ?qc6 ?_)
  case qc1=>rw[List.length_map,Nat.mul_one]
  case qc2=>exact HA.out
  case qc3=>intro u hu;obtain ⟨z,_,rfl⟩:=List.mem_map.1 hu;rfl
  case qc4=>unfold maxLen;omega
  case qc5=>omega
  case qc6=>simp
  intro v' w1 hown hgrow hnil
  go_wp2
  go_ret
  have hown':w1.ownsRow w.heap.size 3 1 v' xs.length (xs.map (Value.int .i64)):=by simpa using hown
  exact ⟨v',rfl,qd.own hown' hx,((Below.refl _ w).alloc (Nat.le_refl _) _).grown hgrow (by simp) (by intro k hk;simp[Value.ownBlock] at hk;omega),qn.own hown'⟩
set_option maxHeartbeats 800000 in
set_option maxRecDepth 100000 in
theorem Xa (v:Value) (xs:List Pt) (w:World) (hv:qX w v xs) (hl:xs.length≤1000000) :
  Calls Tryz.prog 65 #[v] w fun e w'=>∃r,e=.returned r∧qX w' r xs∧Below w.heap.size w w'∧qn w.heap.size r:=by
 obtain ⟨ao,ca,rfl,hx,hc⟩:=hv
 have q22:∀(w:World) (a:Option Addr) (n c n' c':Nat),(binOp .eql 25 (.slice a n c) (.slice none n' c')).run Tryz.prog w=.ok (.bool a.isNone) w:=fun w a n c n' c'=>Lib.run_eql_slice_nil w _ _ a n c n' c' Tryz.underlying25
 cases ao with
 | none =>
  have hn:xs=[]:=by
   rcases hc with h|⟨b,off,h,_⟩
   ·exact h
   ·cases h
  subst hn
  go_enter Tryz.func65,Tryz.ntmps65
  go_wp2
  go_ret
  exact ⟨_,rfl,qX.nil _,Below.refl _ _,qn.nil _⟩
 | some a =>
  obtain ⟨i0,hi,hz0,hz1,hz2⟩:=info_parts Tryz.infoSpot
  have HA:=q7 (show ∀j u,(xs.flatMap ptL)[j]?=some u→(w.alloc (.cells #[] 77)).cell? (a.add j)=some u from Zh _ hc)
  clear hc
  go_enter Tryz.func65,Tryz.ntmps65
  go_wp2_with (at_builtin;refine wpList_append_own _ rfl _ _ 25 rfl w.heap.size 77 i0 spZ 2 16 Tryz.underlying25 hi hz0 hz1 hz2 rfl (by decide) _ _ _ rfl (World.ownsRow_made w #[] 0 (Nat.le_refl _) (Nat.zero_le _) (by simp)) a xs.length ca (xs.flatMap ptL) rfl ?qc1 ?qc2 ?qc3 ?qc4 ?qc5 ?qc6 ?_)
  case qc1=>exact jc xs
  case qc2=>exact HA.out
  case qc3=>exact QF xs
  case qc4=>unfold maxLen;omega
  case qc5=>omega
  case qc6=>simp
  intro v' w1 hown hgrow hnil
  go_wp2
  go_ret
  have hown':w1.ownsRow w.heap.size 77 2 v' xs.length (xs.flatMap ptL):=by simpa using hown
  exact ⟨v',rfl,qX.own hown' hx,((Below.refl _ w).alloc (Nat.le_refl _) _).grown hgrow (by simp) (by intro k hk;simp[Value.ownBlock] at hk;omega),qn.own hown'⟩
set_option maxHeartbeats 800000 in
set_option maxRecDepth 100000 in
theorem YR (v:Value) (xs:List Pt) (w:World) (hv:qX w v xs) (hl:xs.length≤1000000) :
  Calls Tryz.prog 66 #[v] w fun e w'=>∃r,e=.returned r∧qX w' r xs∧Below w.heap.size w w'∧qn w.heap.size r:=by
 obtain ⟨ao,ca,rfl,hx,hc⟩:=hv
 have q22:∀(w:World) (a:Option Addr) (n c n' c':Nat),(binOp .eql 28 (.slice a n c) (.slice none n' c')).run Tryz.prog w=.ok (.bool a.isNone) w:=fun w a n c n' c'=>Lib.run_eql_slice_nil w _ _ a n c n' c' Tryz.underlying28
 cases ao with
 | none =>
  have hn:xs=[]:=by
   rcases hc with h|⟨b,off,h,_⟩
   ·exact h
   ·cases h
  subst hn
  go_enter Tryz.func66,Tryz.ntmps66
  go_wp2
  go_ret
  exact ⟨_,rfl,qX.nil _,Below.refl _ _,qn.nil _⟩
 | some a =>
  obtain ⟨i0,hi,hz0,hz1,hz2⟩:=info_parts Tryz.infoPoint
  have HA:=q7 (show ∀j u,(xs.flatMap ptL)[j]?=some u→(w.alloc (.cells #[] 78)).cell? (a.add j)=some u from Zh _ hc)
  clear hc
  go_enter Tryz.func66,Tryz.ntmps66
  go_wp2_with (at_builtin;refine wpList_append_own _ rfl _ _ 28 rfl w.heap.size 78 i0 spZ 2 16 Tryz.underlying28 hi hz0 hz1 hz2 rfl (by decide) _ _ _ rfl (World.ownsRow_made w #[] 0 (Nat.le_refl _) (Nat.zero_le _) (by simp)) a xs.length ca (xs.flatMap ptL) rfl ?qc1 ?qc2 ?qc3 ?qc4 ?qc5 ?qc6 ?_)
  case qc1=>exact jc xs
  case qc2=>exact HA.out
  case qc3=>exact QF xs
  case qc4=>unfold maxLen;omega
  case qc5=>omega
  case qc6=>simp
  intro v' w1 hown hgrow hnil
  go_wp2
  go_ret
  have hown':w1.ownsRow w.heap.size 78 2 v' xs.length (xs.flatMap ptL):=by simpa using hown
  exact ⟨v',rfl,qX.own hown' hx,((Below.refl _ w).alloc (Nat.le_refl _) _).grown hgrow (by simp) (by intro k hk;simp[Value.ownBlock] at hk;omega),qn.own hown'⟩
end Go.Proofs.YtanebhbfekcplaaGreat

namespace Go.Proofs.YtanebhbfekcplaaGreat
set_option linter.unusedVariables false
set_option linter.unusedSimpArgs false
open Go.RowKit
def ix (l:List Int) (k:Nat):Int:=l.getD k 0
def pq8 (mk:Int→zw) (l:List UInt8):Option (zw×List UInt8):=match J3 l with
 | none=>none
 | some (am,u)=>some (mk am,u)
def pq7 (b4:List UInt8→Nat) (ph:Int) (bl:List Int) (wh:Int) (sp:List Pt) (ga ma:List Int) (l:List UInt8):Option (zw×List UInt8):=match X0 Q8 b4 l with
 | none=>none
 | some (cu,u)=>pq8 (fun am=>⟨ph,ix bl,wh,sp,ix ga,ix ma,cu,am⟩) u
def pq6 (b4:List UInt8→Nat) (ph:Int) (bl:List Int) (wh:Int) (sp:List Pt) (ga:List Int) (l:List UInt8):Option (zw×List UInt8):=match ju J3 9 l with
 | none=>none
 | some (ma,u)=>pq7 b4 ph bl wh sp ga ma u
def pq5 (b4:List UInt8→Nat) (ph:Int) (bl:List Int) (wh:Int) (sp:List Pt) (l:List UInt8):Option (zw×List UInt8):=match ju J3 3 l with
 | none=>none
 | some (ga,u)=>pq6 b4 ph bl wh sp ga u
def pq4 (b3 b4:List UInt8→Nat) (ph:Int) (bl:List Int) (wh:Int) (l:List UInt8):Option (zw×List UInt8):=match X0 Q8 b3 l with
 | none=>none
 | some (sp,u)=>pq5 b4 ph bl wh sp u
def pq3 (b3 b4:List UInt8→Nat) (ph:Int) (bl:List Int) (l:List UInt8):Option (zw×List UInt8):=match J3 l with
 | none=>none
 | some (wh,u)=>pq4 b3 b4 ph bl wh u
def pq2 (b3 b4:List UInt8→Nat) (ph:Int) (l:List UInt8):Option (zw×List UInt8):=match ju J3 4 l with
 | none=>none
 | some (bl,u)=>pq3 b3 b4 ph bl u
def YZ (b3 b4:List UInt8→Nat) (l:List UInt8):Option (zw×List UInt8):=match J3 l with
 | none=>none
 | some (ph,u)=>pq2 b3 b4 ph u
theorem Yl {α:Type} {p:List UInt8→Option (α×List UInt8)} {m:Nat} {l:List UInt8} (h:q3U m l=none):X0 p (fun _=>m) l=none:=by
 unfold q3U at h
 unfold X0
 cases h1:J3 l with
 | none=>rfl
 | some x =>
  obtain ⟨n,t⟩:=x
  rw[h1] at h
  simp only at h ⊢
  split at h
  ·cases h
  ·rename_i h2;rw[if_neg h2]
theorem Za {α:Type} {p:List UInt8→Option (α×List UInt8)} {m:Nat} {l t:List UInt8} {n:Int} (h:q3U m l=some (n,t)):∃N:Nat,n=N∧N≤m∧X0 p (fun _=>m) l=ju p N t∧t.length+4=l.length:=by
 rw[q3U] at h
 split at h
 ·cases h
 ·rename_i n' t' h1
  split at h
  ·rename_i h2
   cases h
   refine ⟨n.toNat,by omega,by omega,?_,Yi h1⟩
   rw[X0]
   simp only[h1]
   rw[if_pos h2]
  ·cases h
theorem zV {α:Type} {p:List UInt8→Option (α×List UInt8)} (hp:∀l a t,p l=some (a,t)→t.length≤l.length) {n:Nat} {l t:List UInt8} {ys:List α} (h:ju p n l=some (ys,t)):t.length≤l.length:=by
 induction n generalizing ys t with
 | zero=>simp only[ju,Option.some.injEq,Prod.mk.injEq] at h;rw[h.2];exact Nat.le_refl _
 | succ n ih =>
  rw[ju] at h
  split at h
  ·cases h
  ·rename_i ys' t' h1
   split at h
   ·cases h
   ·rename_i a t'' h2
    cases h
    exact Nat.le_trans (hp _ _ _ h2) (ih h1)
theorem ze {l t:List UInt8} {n:Int} (h:J3 l=some (n,t)):t.length≤l.length:=by have:=Yi h;omega
theorem q0A {l t:List UInt8} {p:Pt} (h:Q8 l=some (p,t)):t.length≤l.length:=by
 rw[(q01.sound _ _ _ h).1,List.length_append];omega
structure PJ (B b:Nat) (w:World) (X:List (Nat×TypeId×List Value)) (l:List UInt8) (cs:List Value) (V:World):Prop where
 bw:b<w.heap.size
 Bw:B≤b
 sep:∀x∈X,w.heap.size+1<x.1
 st:RSt B b w V
 rd:Z8 b l V
 res:j9 w.heap.size 30 JJ.toList V
 box:j9 (w.heap.size+1) 30 cs V
 ex:∀x∈X,j9 x.1 x.2.1 x.2.2 V
theorem j9.lt {g:Nat} {t:TypeId} {cs:List Value} {V:World} (h:j9 g t cs V):g<V.heap.size:=(Array.getElem?_eq_some_iff.1 h).1
theorem PJ.num {B b:Nat} {w:World} {X:List (Nat×TypeId×List Value)} {l t:List UInt8} {cs:List Value} {V V':World} (h:PJ B b w X l cs V) (hs:RSt B b V V') (hr:Z8 b t V'):PJ B b w X t cs V' where
 bw:=h.bw
 Bw:=h.Bw
 sep:=h.sep
 st:=h.st.trans hs
 rd:=hr
 res:=(hs.keep _ h.res.lt (by have:=h.bw;omega)).trans h.res
 box:=(hs.keep _ h.box.lt (by have:=h.bw;omega)).trans h.box
 ex:=fun x hx=>(hs.keep _ (h.ex x hx).lt (by have:=h.bw;have:=h.sep x hx;omega)).trans (h.ex x hx)
theorem PJ.fill {B b:Nat} {w:World} {X:List (Nat×TypeId×List Value)} {l t:List UInt8} {cs cs':List Value} {V V':World} (h:PJ B b w X l cs V) (hs:KD B b (w.heap.size+1) V V') (hr:Z8 b t V') (hh:j9 (w.heap.size+1) 30 cs' V'):PJ B b w X t cs' V' where
 bw:=h.bw
 Bw:=h.Bw
 sep:=h.sep
 st:=⟨h.st.bel.trans hs.bel,fun k h1 h2=>(hs.keep k (Nat.lt_of_lt_of_le h1 h.st.bel.size) h2 (by omega)).trans (h.st.keep k h1 h2)⟩
 rd:=hr
 res:=(hs.keep _ h.res.lt (by have:=h.bw;omega) (by omega)).trans h.res
 box:=hh
 ex:=fun x hx=>(hs.keep _ (h.ex x hx).lt (by have:=h.bw;have:=h.sep x hx;omega) (by have:=h.sep x hx;omega)).trans (h.ex x hx)
theorem PJ.put {B b:Nat} {w:World} {X:List (Nat×TypeId×List Value)} {l:List UInt8} {cs:List Value} {V:World} (h:PJ B b w X l cs V) (i:Nat) (v:Value) (h1:v.oneCell'=true):PJ B b w X l (cs.set i v) (V.setCell ⟨w.heap.size+1,i,none⟩ v):=by
 obtain ⟨hh,hs⟩:=h.box.set (B:=B) (b:=b) (by have:=h.bw;have:=h.Bw;omega) i v h1
 exact h.fill hs ((Below.heap_setCell _ _ _ _ (by have:=h.bw;show b≠w.heap.size+1;omega)).trans h.rd) hh
theorem PJ.alloc {B b:Nat} {w:World} {X:List (Nat×TypeId×List Value)} {l:List UInt8} {cs:List Value} {V:World} (h:PJ B b w X l cs V) (ds:List Value) (t:TypeId):PJ B b w ((V.heap.size,t,ds)::X) l cs (V.alloc (.cells ds.toArray t)) where
 bw:=h.bw
 Bw:=h.Bw
 sep:=fun x hx=>by
  rcases List.mem_cons.1 hx with rfl|hx
  ·exact h.box.lt
  ·exact h.sep x hx
 st:=h.st.trans (RSt.alloc (by have:=h.st.bel.size;have:=h.bw;have:=h.Bw;omega) _)
 rd:=QE h.rd _
 res:=((qa V _).block _ h.res.lt).trans h.res
 box:=((qa V _).block _ h.box.lt).trans h.box
 ex:=fun x hx=>by
  rcases List.mem_cons.1 hx with rfl|hx
  ·exact al1 V _
  ·exact ((qa V _).block _ (h.ex x hx).lt).trans (h.ex x hx)
theorem PJ.drew {B b:Nat} {w:World} {X:List (Nat×TypeId×List Value)} {l:List UInt8} {cs:List Value} {V:World} (h:PJ B b w X l cs V):PJ B b w X l cs V.drew :=
 ⟨h.bw,h.Bw,h.sep,h.st.trans RSt.drew,h.rd,h.res,h.box,h.ex⟩
theorem PJ.two {B b:Nat} {w:World} {X:List (Nat×TypeId×List Value)} {g:Nat} {t:TypeId} {ds:List Value} {l:List UInt8} {cs:List Value} {V:World} (h:PJ B b w ((g,t,ds)::X) l cs V) (hX:∀x∈X,x.1≠g) (i:Nat) (v u:Value) :
  PJ B b w ((g,t,(ds.set i v).set (i+1) u)::X) l cs ((V.setCell ⟨g,i,none⟩ v).setCell ⟨g,i+1,none⟩ u):=by
 have hg:=h.sep (g,t,ds) (by simp)
 have hb:=h.bw
 have hk:∀k,k≠g→((V.setCell ⟨g,i,none⟩ v).setCell ⟨g,i+1,none⟩ u).heap[k]?=V.heap[k]?:=fun k hk=>(Below.heap_setCell _ _ _ _ (fun e=>hk e)).trans (Below.heap_setCell _ _ _ _ (fun e=>hk e))
 have hB:B≤g:=by have:=h.Bw;simp only at hg;omega
 refine ⟨h.bw,h.Bw,?_,?_,(hk b (by simp only at hg;omega)).trans h.rd,(hk _ (by simp only at hg;omega)).trans h.res,(hk _ (by simp only at hg;omega)).trans h.box,?_⟩
 ·intro x hx
  rcases List.mem_cons.1 hx with rfl|hx
  ·exact hg
  ·exact h.sep x (by simp[hx])
 ·refine ⟨(h.st.bel.setCell (p:=⟨g,i,none⟩) hB v).setCell (p:=⟨g,i+1,none⟩) hB u,fun k h1 h2=>(hk k (by simp only at hg;omega)).trans (h.st.keep k h1 h2)⟩
 ·intro x hx
  rcases List.mem_cons.1 hx with rfl|hx
  ·have h0:=h.ex (g,t,ds) (by simp)
   unfold j9 at h0 ⊢
   simp[World.setCell,Array.getElem?_modify,h0]
  ·exact (hk _ (hX x hx)).trans (h.ex x (by simp[hx]))
theorem q0G (ns:List Pt) (M:Nat) (x y:Int):((ns.flatMap ptL++List.replicate (2*(M+1)) (Value.int .i64 0)).set (ns.length*2) (.int .i64 x)).set (ns.length*2+1) (.int .i64 y)=(ns++[(x,y)]).flatMap ptL++List.replicate (2*M) (Value.int .i64 0):=by
 have hl:=jc ns
 rw[List.set_append_right _ _ (by omega),hl,Nat.sub_self,show 2*(M+1)=2*M+1+1 by omega,List.replicate_succ,List.replicate_succ,List.set_cons_zero,List.set_append_right _ _ (by omega),hl,show ns.length*2+1-ns.length*2=1 by omega]
 simp[ptL,List.flatMap_append]
theorem Kc {g:Nat} {t:TypeId} {ns:List Pt} {V:World} (h:j9 g t (ns.flatMap ptL) V) (hn:ns.length≤1048576):qX V (.slice (some ⟨g,0,none⟩) ns.length ns.length) ns:=by
 refine ⟨_,_,rfl,by omega,.inr ⟨g,0,rfl,h.lt,fun j hj=>?_⟩⟩
 obtain ⟨e1,e2⟩:=JP ns j hj
 rw[Nat.zero_add,Lib.cell_of_heap h,Lib.cell_of_heap h]
 simp only[List.getElem?_toArray]
 exact ⟨e1,e2⟩
theorem q0E (N:Nat):(madeCells #[Value.int .i64 0,.int .i64 0] (N*2))=(List.replicate (2*N) (Value.int .i64 0)).toArray:=by
 refine Array.ext (by simp[madeCells];omega) fun i h1 h2=>?_
 simp only[madeCells,Array.getElem_ofFn,List.getElem_toArray,List.getElem_replicate]
 have:i % (#[Value.int .i64 0,.int .i64 0]:Array Value).size<2:=Nat.mod_lt _ (by decide)
 rcases (show i % 2=0∨i % 2=1 by omega) with e|e<;>simp[e]
set_option maxRecDepth 100000 in
set_option maxHeartbeats 6400000 in
theorem q1X (B b:Nat) (l:List UInt8) (w:World) (hB:B≤b) (h:Z8 b l w) (hl:l.length≤140737488355328) :
  Calls Tryz.prog 86 #[.pointer (some ⟨b,0,none⟩)] w fun e w'=>RSt B b w w'∧((∃n sv cv u,YZ (fun _=>64) (fun _=>16) l=some (n,u)∧e=.returned (.agg (qZ n sv cv))∧Z8 b u w'∧jY w' n sv cv∧qn w.heap.size sv∧qn w.heap.size cv)∨(YZ (fun _=>64) (fun _=>16) l=none∧e=panE)):=by
 have hbw:b<w.heap.size:=(Array.getElem?_eq_some_iff.1 h).1
 have hBw:B≤w.heap.size:=by omega
 have HJ0:PJ B b w [] l JJ.toList ((w.alloc (.cells JJ 30)).alloc (.cells JJ 30)):=by
  obtain ⟨a1,a2⟩:=al2 w (Obj.cells JJ 30) (Obj.cells JJ 30)
  exact ⟨hbw,hB,by simp,(RSt.alloc hBw _).trans (RSt.alloc (by simp;omega) _),QE (QE h _) _,a1,a2,by simp⟩
 have HJ:=q7 HJ0
 clear HJ0 h
 obtain ⟨R,HP⟩:∃R,Hid (R=YZ (fun _=>64) (fun _=>16) l):=⟨_,rfl⟩
 rw[←HP.out]
 go_enter Tryz.func86,Tryz.ntmps86
 go_wp2_with fail
 generalize (w.alloc (.cells JJ 30)).alloc (.cells JJ 30)=V0 at *
 refine (jm B b l V0 hB (Nat.le_trans hBw HJ.out.st.bel.size) HJ.out.rd (by omega)).mono ?_
 rintro e V1 ⟨hS,hc⟩
 rcases hc with ⟨ph,l1,hp,rfl,hR⟩|⟨hp,rfl⟩
 rotate_left
 ·exact ⟨rfl,HJ.out.st.trans hS,.inr ⟨by rw[HP.out,YZ,hp],rfl⟩⟩
 replace HP:=q7 (show R=pq2 (fun _=>64) (fun _=>16) ph l1 by rw[HP.out,YZ,hp])
 have hl1:l1.length≤140737488355328:=by have:=ze hp;omega
 replace HJ:=q7 (HJ.out.num hS hR)
 have ci:V1.cell? ⟨w.heap.size+1,0,none⟩=some (.int .i64 0):=by rw[Lib.cell_of_heap HJ.out.box];rfl
 have fi:V1.frozen? ⟨w.heap.size+1,0,none⟩=false:=Lib.frozen_of_heap HJ.out.box _
 replace HJ:=q7 (HJ.out.put 0 (.int .i64 ph) rfl)
 clear hp hS hR
 replace HJ:=q7 (show PJ B b w [] l1 [.int .i64 ph,.int .i64 0,.int .i64 0,.int .i64 0,.int .i64 0,.int .i64 0,.slice none 0 0,.int .i64 0,.int .i64 0,.int .i64 0,.int .i64 0,.int .i64 0,.int .i64 0,.int .i64 0,.int .i64 0,.int .i64 0,.int .i64 0,.int .i64 0,.int .i64 0,.slice none 0 0,.int .i64 0] (V1.setCell ⟨w.heap.size+1,0,none⟩ (.int .i64 ph)) from HJ.out)
 go_wp2_with fail
 clear ci fi
 generalize V1.setCell ⟨w.heap.size+1,0,none⟩ (.int .i64 ph)=V1' at *
 have hz:∀i,i<4→∃z:Int,([.int .i64 ph,.int .i64 0,.int .i64 0,.int .i64 0,.int .i64 0,.int .i64 0,.slice none 0 0,.int .i64 0,.int .i64 0,.int .i64 0,.int .i64 0,.int .i64 0,.int .i64 0,.int .i64 0,.int .i64 0,.int .i64 0,.int .i64 0,.int .i64 0,.int .i64 0,.slice none 0 0,.int .i64 0]:List Value)[1+i]?=some (.int .i64 z):=fun i hi=>by
  rcases (show i=0∨i=1∨i=2∨i=3 by omega) with rfl|rfl|rfl|rfl<;>exact ⟨_,rfl⟩
 refine (Jp B b (w.heap.size+1) 1 4 4 30 [.int .i64 ph,.int .i64 0,.int .i64 0,.int .i64 0,.int .i64 0,.int .i64 0,.slice none 0 0,.int .i64 0,.int .i64 0,.int .i64 0,.int .i64 0,.int .i64 0,.int .i64 0,.int .i64 0,.int .i64 0,.int .i64 0,.int .i64 0,.int .i64 0,.int .i64 0,.slice none 0 0,.int .i64 0] l1 V1' hB (by omega) (by omega) (Nat.le_trans hBw HJ.out.st.bel.size) HJ.out.rd (by omega) HJ.out.box (by simp) (by omega) hz).mono ?_
 rintro e V2 ⟨hS,hc⟩
 rcases hc with ⟨ns,l2,hp,rfl,hR,hH⟩|⟨hp,rfl⟩
 rotate_left
 ·exact ⟨rfl,⟨HJ.out.st.bel.trans hS.bel,fun k h1 h2=>(hS.keep k (Nat.lt_of_lt_of_le h1 HJ.out.st.bel.size) h2 (by omega)).trans (HJ.out.st.keep k h1 h2)⟩,.inr ⟨by rw[HP.out,pq2,hp],rfl⟩⟩
 obtain ⟨a0,a1,a2,a3,rfl⟩:∃a0 a1 a2 a3,ns=[a0,a1,a2,a3]:=by
  have hlen:=je hp
  match ns,hlen with
  | [a0,a1,a2,a3],_=>exact ⟨a0,a1,a2,a3,rfl⟩
 replace HP:=q7 (show R=pq3 (fun _=>64) (fun _=>16) ph [a0,a1,a2,a3] l2 by rw[HP.out,pq2,hp])
 have hl2:l2.length≤140737488355328:=by have:=zV (fun _ _ _=>ze) hp;omega
 replace HJ:=q7 (HJ.out.fill hS hR hH)
 clear hp hS hR hH hz
 replace HJ:=q7 (show PJ B b w [] l2 [.int .i64 ph,.int .i64 a0,.int .i64 a1,.int .i64 a2,.int .i64 a3,.int .i64 0,.slice none 0 0,.int .i64 0,.int .i64 0,.int .i64 0,.int .i64 0,.int .i64 0,.int .i64 0,.int .i64 0,.int .i64 0,.int .i64 0,.int .i64 0,.int .i64 0,.int .i64 0,.slice none 0 0,.int .i64 0] V2 from HJ.out)
 go_wp2_with fail
 refine (jm B b l2 V2 hB (Nat.le_trans hBw HJ.out.st.bel.size) HJ.out.rd (by omega)).mono ?_
 rintro e V3 ⟨hS,hc⟩
 rcases hc with ⟨wh,l3,hp,rfl,hR⟩|⟨hp,rfl⟩
 rotate_left
 ·exact ⟨rfl,HJ.out.st.trans hS,.inr ⟨by rw[HP.out,pq3,hp],rfl⟩⟩
 replace HP:=q7 (show R=pq4 (fun _=>64) (fun _=>16) ph [a0,a1,a2,a3] wh l3 by rw[HP.out,pq3,hp])
 have hl3:l3.length≤140737488355328:=by have:=ze hp;omega
 replace HJ:=q7 (HJ.out.num hS hR)
 have ci:V3.cell? ⟨w.heap.size+1,5,none⟩=some (.int .i64 0):=by rw[Lib.cell_of_heap HJ.out.box];rfl
 have fi:V3.frozen? ⟨w.heap.size+1,5,none⟩=false:=Lib.frozen_of_heap HJ.out.box _
 replace HJ:=q7 (HJ.out.put 5 (.int .i64 wh) rfl)
 clear hp hS hR
 replace HJ:=q7 (show PJ B b w [] l3 [.int .i64 ph,.int .i64 a0,.int .i64 a1,.int .i64 a2,.int .i64 a3,.int .i64 wh,.slice none 0 0,.int .i64 0,.int .i64 0,.int .i64 0,.int .i64 0,.int .i64 0,.int .i64 0,.int .i64 0,.int .i64 0,.int .i64 0,.int .i64 0,.int .i64 0,.int .i64 0,.slice none 0 0,.int .i64 0] (V3.setCell ⟨w.heap.size+1,5,none⟩ (.int .i64 wh)) from HJ.out)
 go_wp2_with fail
 clear ci fi
 generalize V3.setCell ⟨w.heap.size+1,5,none⟩ (.int .i64 wh)=V3' at *
 refine (QA B b 64 l3 V3' hB (Nat.le_trans hBw HJ.out.st.bel.size) HJ.out.rd (by omega)).mono ?_
 rintro e V4 ⟨hS,hc⟩
 rcases hc with ⟨n,l4,hp,rfl,hR⟩|⟨hp,rfl⟩
 rotate_left
 ·exact ⟨rfl,HJ.out.st.trans hS,.inr ⟨by rw[HP.out,pq4,Yl hp],rfl⟩⟩
 obtain ⟨N4,rfl,hN4,hlp,hlen⟩:=Za (p:=Q8) hp
 have HLP:=q7 hlp
 have hl4:l4.length≤140737488355328:=by omega
 replace HJ:=q7 (HJ.out.num hS hR)
 clear hp hS hR hlp hlen
 obtain ⟨i0,hi,hz0,hz1,hz2⟩:=info_parts Tryz.infoSpot
 obtain ⟨ZA,hZA⟩:∃ZA:Array Value,(List.replicate (2*N4) (Value.int .i64 0)).toArray=ZA:=⟨_,rfl⟩
 have hmk:∀V:World,(Instr.makeSlice 25 (.int .i64 N4) (.int .i64 N4)).run Tryz.prog V=.ok (.slice (some ⟨V.heap.size,0,none⟩) N4 N4) (V.alloc (.cells ZA 77)):=fun V=>by
  have h:=run_make (P:=Tryz.prog) V 25 77 i0 spZ Tryz.underlying25 hi hz0 .i64 .i64 N4 N4 (by omega) (Int.le_refl _) (by rw[hz2];omega) (by omega)
  rw[hz1,Int.toNat_natCast] at h
  rw[←hZA,←q0E]
  simpa [spZ,Value.cells] using h
 clear hi hz0 hz1 hz2
 have hxs4:∀x∈([]:List (Nat×TypeId×List Value)),x.1≠V4.heap.size:=fun x hx=>by have:=(HJ.out.ex x hx).lt;omega
 have ci:V4.cell? ⟨w.heap.size+1,6,none⟩=some (.slice none 0 0):=by rw[Lib.cell_of_heap HJ.out.box];rfl
 have fi:V4.frozen? ⟨w.heap.size+1,6,none⟩=false:=Lib.frozen_of_heap HJ.out.box _
 have hbl:w.heap.size+1<V4.heap.size:=HJ.out.box.lt
 have ci':(V4.alloc (.cells ZA 77)).cell? ⟨w.heap.size+1,6,none⟩=some (.slice none 0 0):=by rw[Lib.cell_of_heap (((qa V4 _).block _ HJ.out.box.lt).trans HJ.out.box)];rfl
 have fi':(V4.alloc (.cells ZA 77)).frozen? ⟨w.heap.size+1,6,none⟩=false:=Lib.frozen_of_heap (((qa V4 _).block _ HJ.out.box.lt).trans HJ.out.box) _
 replace HJ:=q7 ((HJ.out.put 6 (.slice (some ⟨V4.heap.size,0,none⟩) N4 N4) rfl).alloc (List.replicate (2*N4) (Value.int .i64 0)) 77)
 rw[hZA,show (V4.setCell ⟨w.heap.size+1,6,none⟩ (.slice (some ⟨V4.heap.size,0,none⟩) N4 N4)).heap.size=V4.heap.size by simp[World.setCell]] at HJ
 clear hZA
 have hsep4:w.heap.size+1<V4.heap.size:=HJ.out.sep _ List.mem_cons_self
 go_upto_region 6 with fail
 clear ci fi ci' fi' hmk hbl
 generalize V4.heap.size=S4 at *
 generalize (V4.setCell ⟨w.heap.size+1,6,none⟩ (.slice (some ⟨S4,0,none⟩) N4 N4)).alloc (.cells ZA 77)=VA at *
 have cj:VA.cell? ⟨w.heap.size+1,6,none⟩=some (.slice (some ⟨S4,0,none⟩) N4 N4):=by rw[Lib.cell_of_heap HJ.out.box];rfl
 go_wp2_with fail
 clear cj
 replace HJ:=q7 (show PJ B b w [(S4,77,[].flatMap ptL++List.replicate (2*(N4-0)) (Value.int .i64 0))] l4 [.int .i64 ph,.int .i64 a0,.int .i64 a1,.int .i64 a2,.int .i64 a3,.int .i64 wh,.slice (some ⟨S4,0,none⟩) N4 N4,.int .i64 0,.int .i64 0,.int .i64 0,.int .i64 0,.int .i64 0,.int .i64 0,.int .i64 0,.int .i64 0,.int .i64 0,.int .i64 0,.int .i64 0,.int .i64 0,.slice none 0 0,.int .i64 0] VA from HJ.out)
 go_loopw [23] (fun i wr=>∃k:Nat,k≤N4∧i=.int .i64 k∧∃ns u,ju Q8 k l4=some (ns,u)∧PJ B b w [(S4,77,ns.flatMap ptL++List.replicate (2*(N4-k)) (Value.int .i64 0))] u [.int .i64 ph,.int .i64 a0,.int .i64 a1,.int .i64 a2,.int .i64 a3,.int .i64 wh,.slice (some ⟨S4,0,none⟩) N4 N4,.int .i64 0,.int .i64 0,.int .i64 0,.int .i64 0,.int .i64 0,.int .i64 0,.int .i64 0,.int .i64 0,.int .i64 0,.int .i64 0,.int .i64 0,.int .i64 0,.slice none 0 0,.int .i64 0] wr) (fun i _=>N4-(intOf i).toNat)
 case atStart=>exact ⟨0,Nat.zero_le _,rfl,[],l4,rfl,HJ.out⟩
 case round =>
  clear HJ
  obtain ⟨k,hk,rfl,ns,u,hm,hJ⟩:=hrel
  have HJ:=q7 hJ
  clear hJ
  have hnl:=je hm
  have hul:=zV (fun _ _ _=>q0A) hm
  by_cases hlt:k<N4
  ·have hd:decide ((k:Int)<(N4:Int))=true:=by simp;omega
   have HM:=q7 hm
   have HSQ:=q7 (fun (v:World) (cs':List UInt8) (hv:PJ B b w [(S4,77,ns.flatMap ptL++List.replicate (2*(N4-k)) (Value.int .i64 0))] cs' [.int .i64 ph,.int .i64 a0,.int .i64 a1,.int .i64 a2,.int .i64 a3,.int .i64 wh,.slice (some ⟨S4,0,none⟩) N4 N4,.int .i64 0,.int .i64 0,.int .i64 0,.int .i64 0,.int .i64 0,.int .i64 0,.int .i64 0,.int .i64 0,.int .i64 0,.int .i64 0,.int .i64 0,.int .i64 0,.slice none 0 0,.int .i64 0] v)=>show v.cell? ⟨w.heap.size+1,6,none⟩=some (.slice (some ⟨S4,0,none⟩) N4 N4)∧True from ⟨by rw[Lib.cell_of_heap hv.box];rfl,trivial⟩)
   clear hm
   go_upto_region 9 with fail
   have HJd:=q7 HJ.out.drew
   have hSd:=HSQ.out _ _ HJd.out
   have hmx:Tryz.prog.follows .mixedOrders=true:=by kernel_rfl
   refine qK (S:=(fun v:World=>v.cell? ⟨w.heap.size+1,6,none⟩=some (.slice (some ⟨S4,0,none⟩) N4 N4)∧True)) (f:=9) hmx ?_
   show j7 _ _ _ _ _ _ 10 _ _ wr.drew
   refine q9 (i:=0) (oi:=_) (v:=?vv1) (some 26) [] rfl rfl (by kernel_rfl) (by kernel_rfl) (by kernel_rfl) (by kernel_rfl) (by kernel_rfl) (fun _ _ _ h=>h) (Or.inl ⟨by rfl,?yy1⟩) hSd ?rr1
   case yy1=>(intro wq hSq;obtain ⟨_,_⟩:=hSq;go_simp<;>with_reducible rfl)
   simp only[Act.put,List.setIfInBounds_toArray,List.set_cons_succ,List.set_cons_zero]
   refine q9 (i:=2) (oi:=_) (v:=?vv2) (some 28) [] rfl rfl (by kernel_rfl) (by kernel_rfl) (by kernel_rfl) (by kernel_rfl) (by kernel_rfl) (fun _ _ _ h=>h) (Or.inl ⟨by rfl,?yy2⟩) hSd ?rr2
   case yy2=>(intro wq hSq;obtain ⟨_,_⟩:=hSq;go_simp<;>with_reducible rfl)
   simp only[Act.put,List.setIfInBounds_toArray,List.set_cons_succ,List.set_cons_zero]
   refine q9 (i:=3) (oi:=_) (v:=?vv3) (some 29) [] rfl rfl (by kernel_rfl) (by kernel_rfl) (by kernel_rfl) (by kernel_rfl) (by kernel_rfl) (fun _ _ _ h=>h) (Or.inl ⟨by rfl,?yy3⟩) hSd ?rr3
   case yy3=>(intro wq hSq;obtain ⟨_,_⟩:=hSq;go_simp<;>with_reducible rfl)
   simp only[Act.put,List.setIfInBounds_toArray,List.set_cons_succ,List.set_cons_zero]
   refine q9 (i:=5) (oi:=_) (v:=?vv4) (some 31) [] rfl rfl (by kernel_rfl) (by kernel_rfl) (by kernel_rfl) (by kernel_rfl) (by kernel_rfl) (fun _ _ _ h=>h) (Or.inl ⟨by rfl,?yy4⟩) hSd ?rr4
   case yy4=>(intro wq hSq;obtain ⟨_,_⟩:=hSq;go_simp<;>with_reducible rfl)
   simp only[Act.put,List.setIfInBounds_toArray,List.set_cons_succ,List.set_cons_zero]
   refine q9 (i:=1) (oi:=_) (v:=?vv5) (some 27) [] rfl rfl (by kernel_rfl) (by kernel_rfl) (by kernel_rfl) (by kernel_rfl) (by kernel_rfl) (fun _ _ _ h=>h) (Or.inl ⟨by rfl,?yy5⟩) hSd ?rr5
   case yy5=>(intro wq hSq;obtain ⟨_,_⟩:=hSq;go_simp<;>with_reducible rfl)
   simp only[Act.put,List.setIfInBounds_toArray,List.set_cons_succ,List.set_cons_zero]
   refine qm (i:=4) (o:=_) (by kernel_rfl) rfl (fun K' hK=>?_)
   rw[if_pos (by rfl)]
   go_simp
   refine (jm B b u wr.drew hB (Nat.le_trans hBw HJd.out.st.bel.size) HJd.out.rd (by omega)).mono ?_
   rintro e X1 ⟨hS,hc⟩
   rcases hc with ⟨x,u1,hp,rfl,hR⟩|⟨hp,rfl⟩
   rotate_left
   ·exact ⟨rfl,HJd.out.st.trans hS,.inr ⟨by rw[HP.out,pq4,HLP.out,zp HM.out (by rw[Q8,hp]) hlt],rfl⟩⟩
   have HP1:=q7 hp
   have hu1:=ze hp
   have HJ1:=q7 (HJd.out.num hS hR)
   clear hp hS hR
   have hSd:=HSQ.out _ _ HJ1.out
   refine hK.out _ _ hSd ?_
   clear hK
   try simp only[Act.put]
   refine qm (i:=6) (o:=_) (by kernel_rfl) rfl (fun K' hK=>?_)
   rw[if_pos (by rfl)]
   go_simp
   refine (jm B b u1 X1 hB (Nat.le_trans hBw HJ1.out.st.bel.size) HJ1.out.rd (by omega)).mono ?_
   rintro e X2 ⟨hS,hc⟩
   rcases hc with ⟨y,u2,hp,rfl,hR⟩|⟨hp,rfl⟩
   rotate_left
   ·exact ⟨rfl,HJ1.out.st.trans hS,.inr ⟨by rw[HP.out,pq4,HLP.out,zp HM.out (by rw[Q8,HP1.out];simp only[hp]) hlt],rfl⟩⟩
   have HP2:=q7 (show Q8 u=some ((x,y),u2) by rw[Q8,HP1.out];simp only[hp])
   have HJ2:=q7 (HJ1.out.num hS hR)
   clear hp hS hR
   have hcl:(ns.flatMap ptL++List.replicate (2*(N4-k)) (Value.int .i64 0)).length=N4*2:=by rw[List.length_append,jc,List.length_replicate,hnl];omega
   have hH:=HJ2.out.ex (S4,77,ns.flatMap ptL++List.replicate (2*(N4-k)) (Value.int .i64 0)) (by simp)
   have g0:∃z,X2.cell? ⟨S4,k*2,none⟩=some z:=⟨_,by rw[Lib.cell_of_heap hH,List.getElem?_toArray];exact List.getElem?_eq_getElem (by rw[hcl];omega)⟩
   have g1:∃z,X2.cell? ⟨S4,k*2+1,none⟩=some z:=⟨_,by rw[Lib.cell_of_heap hH,List.getElem?_toArray];exact List.getElem?_eq_getElem (by rw[hcl];omega)⟩
   obtain ⟨z0,c0⟩:=g0
   obtain ⟨z1,c1⟩:=g1
   have f0:X2.frozen? ⟨S4,k*2,none⟩=false:=Lib.frozen_of_heap hH _
   have f1:X2.frozen? ⟨S4,k*2+1,none⟩=false:=Lib.frozen_of_heap hH _
   have HJ3:=q7 (HJ2.out.two hxs4 (k*2) (.int .i64 x) (.int .i64 y))
   clear hcl hH
   have hSd:=HSQ.out _ _ HJ2.out
   refine hK.out _ _ hSd ?_
   clear hK
   try simp only[Act.put]
   refine q9 (i:=7) (oi:=_) (v:=?vv6) (some 33) [] rfl rfl (by kernel_rfl) (by kernel_rfl) (by kernel_rfl) (by kernel_rfl) (by kernel_rfl) (fun _ _ _ h=>h) (Or.inl ⟨by rfl,?yy6⟩) hSd ?rr6
   case yy6=>(intro wq hSq;obtain ⟨_,_⟩:=hSq;go_simp<;>with_reducible rfl)
   simp only[Act.put,List.setIfInBounds_toArray,List.set_cons_succ,List.set_cons_zero]
   refine q9 (i:=8) (oi:=_) (v:=?vv7) (some 34) [] rfl rfl (by kernel_rfl) (by kernel_rfl) (by kernel_rfl) (by kernel_rfl) (by kernel_rfl) (fun _ _ _ h=>h) (Or.inl ⟨by rfl,?yy7⟩) hSd ?rr7
   case yy7=>(intro wq hSq;obtain ⟨_,_⟩:=hSq;go_simp<;>with_reducible rfl)
   simp only[Act.put,List.setIfInBounds_toArray,List.set_cons_succ,List.set_cons_zero]
   refine qV (o:=_) (by kernel_rfl) rfl (fun K' hK=>?_)
   rw[if_pos (by rfl)]
   go_simp
   refine hK.out _ _ ?_
   clear hK
   refine qU (by kernel_rfl) ?_ _
   try simp only[Act.put]
   have HJ4:=q7 (show PJ B b w [(S4,77,(ns++[(x,y)]).flatMap ptL++List.replicate (2*(N4-(k+1))) (Value.int .i64 0))] u2 [.int .i64 ph,.int .i64 a0,.int .i64 a1,.int .i64 a2,.int .i64 a3,.int .i64 wh,.slice (some ⟨S4,0,none⟩) N4 N4,.int .i64 0,.int .i64 0,.int .i64 0,.int .i64 0,.int .i64 0,.int .i64 0,.int .i64 0,.int .i64 0,.int .i64 0,.int .i64 0,.int .i64 0,.int .i64 0,.slice none 0 0,.int .i64 0] _ from by
    have h:=HJ3.out
    rw[show N4-k=N4-(k+1)+1 by omega,←hnl,q0G,hnl] at h
    exact h)
   have HM2:=q7 (Qw HM.out HP2.out)
   clear HJ3 HJ2 HJ1 HJd HJ hSd c0 c1 f0 f1 HSQ
   go_wp2
   go_roundw
   case rel=>exact ⟨k+1,hlt,by go_num,_,_,HM2.out,HJ4.out⟩
   case measure=>simp[intOf];omega
  ·have hd:decide ((k:Int)<(N4:Int))=false:=by simp;omega
   obtain rfl:N4=k:=by omega
   replace HP:=q7 (show R=pq5 (fun _=>16) ph [a0,a1,a2,a3] wh ns u by rw[HP.out,pq4,HLP.out,hm])
   replace HJ:=q7 (show PJ B b w [(S4,77,ns.flatMap ptL)] u [.int .i64 ph,.int .i64 a0,.int .i64 a1,.int .i64 a2,.int .i64 a3,.int .i64 wh,.slice (some ⟨S4,0,none⟩) N4 N4,.int .i64 0,.int .i64 0,.int .i64 0,.int .i64 0,.int .i64 0,.int .i64 0,.int .i64 0,.int .i64 0,.int .i64 0,.int .i64 0,.int .i64 0,.int .i64 0,.slice none 0 0,.int .i64 0] wr by have h:=HJ.out;rwa [Nat.sub_self,Nat.mul_zero,List.replicate_zero,List.append_nil] at h)
   have hn4:=hnl
   clear hm HLP hnl
   generalize ns=sp at *
   generalize u=l4u at *
   generalize wr=W4 at *
   have hl4u:l4u.length≤140737488355328:=by omega
   clear hul
   go_wp2_with fail
   have hz:∀i,i<3→∃z:Int,([.int .i64 ph,.int .i64 a0,.int .i64 a1,.int .i64 a2,.int .i64 a3,.int .i64 wh,.slice (some ⟨S4,0,none⟩) N4 N4,.int .i64 0,.int .i64 0,.int .i64 0,.int .i64 0,.int .i64 0,.int .i64 0,.int .i64 0,.int .i64 0,.int .i64 0,.int .i64 0,.int .i64 0,.int .i64 0,.slice none 0 0,.int .i64 0]:List Value)[7+i]?=some (.int .i64 z):=fun i hi=>by
    rcases (show i=0∨i=1∨i=2 by omega) with rfl|rfl|rfl<;>exact ⟨_,rfl⟩
   refine (Jp B b (w.heap.size+1) 7 3 3 30 [.int .i64 ph,.int .i64 a0,.int .i64 a1,.int .i64 a2,.int .i64 a3,.int .i64 wh,.slice (some ⟨S4,0,none⟩) N4 N4,.int .i64 0,.int .i64 0,.int .i64 0,.int .i64 0,.int .i64 0,.int .i64 0,.int .i64 0,.int .i64 0,.int .i64 0,.int .i64 0,.int .i64 0,.int .i64 0,.slice none 0 0,.int .i64 0] l4u W4 hB (by omega) (by omega) (Nat.le_trans hBw HJ.out.st.bel.size) HJ.out.rd (by omega) HJ.out.box (by simp) (by omega) hz).mono ?_
   rintro e V5 ⟨hS,hc⟩
   rcases hc with ⟨ns,l5,hp,rfl,hR,hH⟩|⟨hp,rfl⟩
   rotate_left
   ·exact ⟨rfl,⟨HJ.out.st.bel.trans hS.bel,fun k h1 h2=>(hS.keep k (Nat.lt_of_lt_of_le h1 HJ.out.st.bel.size) h2 (by omega)).trans (HJ.out.st.keep k h1 h2)⟩,.inr ⟨by rw[HP.out,pq5,hp],rfl⟩⟩
   obtain ⟨g0,g1,g2,rfl⟩:∃g0 g1 g2,ns=[g0,g1,g2]:=by
    have hlen:=je hp
    match ns,hlen with
    | [g0,g1,g2],_=>exact ⟨g0,g1,g2,rfl⟩
   replace HP:=q7 (show R=pq6 (fun _=>16) ph [a0,a1,a2,a3] wh sp [g0,g1,g2] l5 by rw[HP.out,pq5,hp])
   have hl5:l5.length≤140737488355328:=by have:=zV (fun _ _ _=>ze) hp;omega
   replace HJ:=q7 (HJ.out.fill hS hR hH)
   clear hp hS hR hH hz
   replace HJ:=q7 (show PJ B b w [(S4,77,sp.flatMap ptL)] l5 [.int .i64 ph,.int .i64 a0,.int .i64 a1,.int .i64 a2,.int .i64 a3,.int .i64 wh,.slice (some ⟨S4,0,none⟩) N4 N4,.int .i64 g0,.int .i64 g1,.int .i64 g2,.int .i64 0,.int .i64 0,.int .i64 0,.int .i64 0,.int .i64 0,.int .i64 0,.int .i64 0,.int .i64 0,.int .i64 0,.slice none 0 0,.int .i64 0] V5 from HJ.out)
   go_wp2_with fail
   have hz:∀i,i<9→∃z:Int,([.int .i64 ph,.int .i64 a0,.int .i64 a1,.int .i64 a2,.int .i64 a3,.int .i64 wh,.slice (some ⟨S4,0,none⟩) N4 N4,.int .i64 g0,.int .i64 g1,.int .i64 g2,.int .i64 0,.int .i64 0,.int .i64 0,.int .i64 0,.int .i64 0,.int .i64 0,.int .i64 0,.int .i64 0,.int .i64 0,.slice none 0 0,.int .i64 0]:List Value)[10+i]?=some (.int .i64 z):=fun i hi=>by
    rcases (show i=0∨i=1∨i=2∨i=3∨i=4∨i=5∨i=6∨i=7∨i=8 by omega) with rfl|rfl|rfl|rfl|rfl|rfl|rfl|rfl|rfl<;>exact ⟨_,rfl⟩
   refine (Jp B b (w.heap.size+1) 10 9 9 30 [.int .i64 ph,.int .i64 a0,.int .i64 a1,.int .i64 a2,.int .i64 a3,.int .i64 wh,.slice (some ⟨S4,0,none⟩) N4 N4,.int .i64 g0,.int .i64 g1,.int .i64 g2,.int .i64 0,.int .i64 0,.int .i64 0,.int .i64 0,.int .i64 0,.int .i64 0,.int .i64 0,.int .i64 0,.int .i64 0,.slice none 0 0,.int .i64 0] l5 V5 hB (by omega) (by omega) (Nat.le_trans hBw HJ.out.st.bel.size) HJ.out.rd (by omega) HJ.out.box (by simp) (by omega) hz).mono ?_
   rintro e V6 ⟨hS,hc⟩
   rcases hc with ⟨ns,l6,hp,rfl,hR,hH⟩|⟨hp,rfl⟩
   rotate_left
   ·exact ⟨rfl,⟨HJ.out.st.bel.trans hS.bel,fun k h1 h2=>(hS.keep k (Nat.lt_of_lt_of_le h1 HJ.out.st.bel.size) h2 (by omega)).trans (HJ.out.st.keep k h1 h2)⟩,.inr ⟨by rw[HP.out,pq6,hp],rfl⟩⟩
   obtain ⟨m0,m1,m2,m3,m4,m5,m6,m7,m8,rfl⟩:∃m0 m1 m2 m3 m4 m5 m6 m7 m8,ns=[m0,m1,m2,m3,m4,m5,m6,m7,m8]:=by
    have hlen:=je hp
    match ns,hlen with
    | [m0,m1,m2,m3,m4,m5,m6,m7,m8],_=>exact ⟨m0,m1,m2,m3,m4,m5,m6,m7,m8,rfl⟩
   replace HP:=q7 (show R=pq7 (fun _=>16) ph [a0,a1,a2,a3] wh sp [g0,g1,g2] [m0,m1,m2,m3,m4,m5,m6,m7,m8] l6 by rw[HP.out,pq6,hp])
   have hl6:l6.length≤140737488355328:=by have:=zV (fun _ _ _=>ze) hp;omega
   replace HJ:=q7 (HJ.out.fill hS hR hH)
   clear hp hS hR hH hz
   replace HJ:=q7 (show PJ B b w [(S4,77,sp.flatMap ptL)] l6 [.int .i64 ph,.int .i64 a0,.int .i64 a1,.int .i64 a2,.int .i64 a3,.int .i64 wh,.slice (some ⟨S4,0,none⟩) N4 N4,.int .i64 g0,.int .i64 g1,.int .i64 g2,.int .i64 m0,.int .i64 m1,.int .i64 m2,.int .i64 m3,.int .i64 m4,.int .i64 m5,.int .i64 m6,.int .i64 m7,.int .i64 m8,.slice none 0 0,.int .i64 0] V6 from HJ.out)
   go_wp2_with fail
   refine (QA B b 16 l6 V6 hB (Nat.le_trans hBw HJ.out.st.bel.size) HJ.out.rd (by omega)).mono ?_
   rintro e V7 ⟨hS,hc⟩
   rcases hc with ⟨n,l7,hp,rfl,hR⟩|⟨hp,rfl⟩
   rotate_left
   ·exact ⟨rfl,HJ.out.st.trans hS,.inr ⟨by rw[HP.out,pq7,Yl hp],rfl⟩⟩
   obtain ⟨N7,rfl,hN7,hlp,hlen⟩:=Za (p:=Q8) hp
   have HLP:=q7 hlp
   have hl7:l7.length≤140737488355328:=by omega
   replace HJ:=q7 (HJ.out.num hS hR)
   clear hp hS hR hlp hlen
   obtain ⟨i0,hi,hz0,hz1,hz2⟩:=info_parts Tryz.infoPoint
   obtain ⟨ZA,hZA⟩:∃ZA:Array Value,(List.replicate (2*N7) (Value.int .i64 0)).toArray=ZA:=⟨_,rfl⟩
   have hmk:∀V:World,(Instr.makeSlice 28 (.int .i64 N7) (.int .i64 N7)).run Tryz.prog V=.ok (.slice (some ⟨V.heap.size,0,none⟩) N7 N7) (V.alloc (.cells ZA 78)):=fun V=>by
    have h:=run_make (P:=Tryz.prog) V 28 78 i0 spZ Tryz.underlying28 hi hz0 .i64 .i64 N7 N7 (by omega) (Int.le_refl _) (by rw[hz2];omega) (by omega)
    rw[hz1,Int.toNat_natCast] at h
    rw[←hZA,←q0E]
    simpa [spZ,Value.cells] using h
   clear hi hz0 hz1 hz2
   have hxs7:∀x∈([(S4,77,sp.flatMap ptL)]:List (Nat×TypeId×List Value)),x.1≠V7.heap.size:=fun x hx=>by have:=(HJ.out.ex x hx).lt;omega
   have ci:V7.cell? ⟨w.heap.size+1,19,none⟩=some (.slice none 0 0):=by rw[Lib.cell_of_heap HJ.out.box];rfl
   have fi:V7.frozen? ⟨w.heap.size+1,19,none⟩=false:=Lib.frozen_of_heap HJ.out.box _
   have hbl:w.heap.size+1<V7.heap.size:=HJ.out.box.lt
   have ci':(V7.alloc (.cells ZA 78)).cell? ⟨w.heap.size+1,19,none⟩=some (.slice none 0 0):=by rw[Lib.cell_of_heap (((qa V7 _).block _ HJ.out.box.lt).trans HJ.out.box)];rfl
   have fi':(V7.alloc (.cells ZA 78)).frozen? ⟨w.heap.size+1,19,none⟩=false:=Lib.frozen_of_heap (((qa V7 _).block _ HJ.out.box.lt).trans HJ.out.box) _
   replace HJ:=q7 ((HJ.out.put 19 (.slice (some ⟨V7.heap.size,0,none⟩) N7 N7) rfl).alloc (List.replicate (2*N7) (Value.int .i64 0)) 78)
   rw[hZA,show (V7.setCell ⟨w.heap.size+1,19,none⟩ (.slice (some ⟨V7.heap.size,0,none⟩) N7 N7)).heap.size=V7.heap.size by simp[World.setCell]] at HJ
   clear hZA
   have hsep7:w.heap.size+1<V7.heap.size:=HJ.out.sep _ List.mem_cons_self
   go_upto_region 14 with fail
   clear ci fi ci' fi' hmk hbl
   generalize V7.heap.size=S7 at *
   generalize (V7.setCell ⟨w.heap.size+1,19,none⟩ (.slice (some ⟨S7,0,none⟩) N7 N7)).alloc (.cells ZA 78)=VA at *
   have cj:VA.cell? ⟨w.heap.size+1,19,none⟩=some (.slice (some ⟨S7,0,none⟩) N7 N7):=by rw[Lib.cell_of_heap HJ.out.box];rfl
   go_wp2_with fail
   clear cj
   replace HJ:=q7 (show PJ B b w [(S7,78,[].flatMap ptL++List.replicate (2*(N7-0)) (Value.int .i64 0)),(S4,77,sp.flatMap ptL)] l7 [.int .i64 ph,.int .i64 a0,.int .i64 a1,.int .i64 a2,.int .i64 a3,.int .i64 wh,.slice (some ⟨S4,0,none⟩) N4 N4,.int .i64 g0,.int .i64 g1,.int .i64 g2,.int .i64 m0,.int .i64 m1,.int .i64 m2,.int .i64 m3,.int .i64 m4,.int .i64 m5,.int .i64 m6,.int .i64 m7,.int .i64 m8,.slice (some ⟨S7,0,none⟩) N7 N7,.int .i64 0] VA from HJ.out)
   go_loopw [51] (fun i wr=>∃k:Nat,k≤N7∧i=.int .i64 k∧∃ns u,ju Q8 k l7=some (ns,u)∧PJ B b w [(S7,78,ns.flatMap ptL++List.replicate (2*(N7-k)) (Value.int .i64 0)),(S4,77,sp.flatMap ptL)] u [.int .i64 ph,.int .i64 a0,.int .i64 a1,.int .i64 a2,.int .i64 a3,.int .i64 wh,.slice (some ⟨S4,0,none⟩) N4 N4,.int .i64 g0,.int .i64 g1,.int .i64 g2,.int .i64 m0,.int .i64 m1,.int .i64 m2,.int .i64 m3,.int .i64 m4,.int .i64 m5,.int .i64 m6,.int .i64 m7,.int .i64 m8,.slice (some ⟨S7,0,none⟩) N7 N7,.int .i64 0] wr) (fun i _=>N7-(intOf i).toNat)
   case atStart=>exact ⟨0,Nat.zero_le _,rfl,[],l7,rfl,HJ.out⟩
   case round =>
    clear HJ
    obtain ⟨k,hk,rfl,ns,u,hm,hJ⟩:=hrel
    have HJ:=q7 hJ
    clear hJ
    have hnl:=je hm
    have hul:=zV (fun _ _ _=>q0A) hm
    by_cases hlt:k<N7
    ·have hd:decide ((k:Int)<(N7:Int))=true:=by simp;omega
     have HM:=q7 hm
     have HSQ:=q7 (fun (v:World) (cs':List UInt8) (hv:PJ B b w [(S7,78,ns.flatMap ptL++List.replicate (2*(N7-k)) (Value.int .i64 0)),(S4,77,sp.flatMap ptL)] cs' [.int .i64 ph,.int .i64 a0,.int .i64 a1,.int .i64 a2,.int .i64 a3,.int .i64 wh,.slice (some ⟨S4,0,none⟩) N4 N4,.int .i64 g0,.int .i64 g1,.int .i64 g2,.int .i64 m0,.int .i64 m1,.int .i64 m2,.int .i64 m3,.int .i64 m4,.int .i64 m5,.int .i64 m6,.int .i64 m7,.int .i64 m8,.slice (some ⟨S7,0,none⟩) N7 N7,.int .i64 0] v)=>show v.cell? ⟨w.heap.size+1,19,none⟩=some (.slice (some ⟨S7,0,none⟩) N7 N7)∧True from ⟨by rw[Lib.cell_of_heap hv.box];rfl,trivial⟩)
     clear hm
     go_upto_region 17 with fail
     have HJd:=q7 HJ.out.drew
     have hSd:=HSQ.out _ _ HJd.out
     have hmx:Tryz.prog.follows .mixedOrders=true:=by kernel_rfl
     refine qK (S:=(fun v:World=>v.cell? ⟨w.heap.size+1,19,none⟩=some (.slice (some ⟨S7,0,none⟩) N7 N7)∧True)) (f:=9) hmx ?_
     show j7 _ _ _ _ _ _ 10 _ _ wr.drew
     refine q9 (i:=0) (oi:=_) (v:=?vv8) (some 54) [] rfl rfl (by kernel_rfl) (by kernel_rfl) (by kernel_rfl) (by kernel_rfl) (by kernel_rfl) (fun _ _ _ h=>h) (Or.inl ⟨by rfl,?yy8⟩) hSd ?rr8
     case yy8=>(intro wq hSq;obtain ⟨_,_⟩:=hSq;go_simp<;>with_reducible rfl)
     simp only[Act.put,List.setIfInBounds_toArray,List.set_cons_succ,List.set_cons_zero]
     refine q9 (i:=2) (oi:=_) (v:=?vv9) (some 56) [] rfl rfl (by kernel_rfl) (by kernel_rfl) (by kernel_rfl) (by kernel_rfl) (by kernel_rfl) (fun _ _ _ h=>h) (Or.inl ⟨by rfl,?yy9⟩) hSd ?rr9
     case yy9=>(intro wq hSq;obtain ⟨_,_⟩:=hSq;go_simp<;>with_reducible rfl)
     simp only[Act.put,List.setIfInBounds_toArray,List.set_cons_succ,List.set_cons_zero]
     refine q9 (i:=3) (oi:=_) (v:=?vv10) (some 57) [] rfl rfl (by kernel_rfl) (by kernel_rfl) (by kernel_rfl) (by kernel_rfl) (by kernel_rfl) (fun _ _ _ h=>h) (Or.inl ⟨by rfl,?yy10⟩) hSd ?rr10
     case yy10=>(intro wq hSq;obtain ⟨_,_⟩:=hSq;go_simp<;>with_reducible rfl)
     simp only[Act.put,List.setIfInBounds_toArray,List.set_cons_succ,List.set_cons_zero]
     refine q9 (i:=5) (oi:=_) (v:=?vv11) (some 59) [] rfl rfl (by kernel_rfl) (by kernel_rfl) (by kernel_rfl) (by kernel_rfl) (by kernel_rfl) (fun _ _ _ h=>h) (Or.inl ⟨by rfl,?yy11⟩) hSd ?rr11
     case yy11=>(intro wq hSq;obtain ⟨_,_⟩:=hSq;go_simp<;>with_reducible rfl)
     simp only[Act.put,List.setIfInBounds_toArray,List.set_cons_succ,List.set_cons_zero]
     refine q9 (i:=1) (oi:=_) (v:=?vv12) (some 55) [] rfl rfl (by kernel_rfl) (by kernel_rfl) (by kernel_rfl) (by kernel_rfl) (by kernel_rfl) (fun _ _ _ h=>h) (Or.inl ⟨by rfl,?yy12⟩) hSd ?rr12
     case yy12=>(intro wq hSq;obtain ⟨_,_⟩:=hSq;go_simp<;>with_reducible rfl)
     simp only[Act.put,List.setIfInBounds_toArray,List.set_cons_succ,List.set_cons_zero]
     refine qm (i:=4) (o:=_) (by kernel_rfl) rfl (fun K' hK=>?_)
     rw[if_pos (by rfl)]
     go_simp
     refine (jm B b u wr.drew hB (Nat.le_trans hBw HJd.out.st.bel.size) HJd.out.rd (by omega)).mono ?_
     rintro e X1 ⟨hS,hc⟩
     rcases hc with ⟨x,u1,hp,rfl,hR⟩|⟨hp,rfl⟩
     rotate_left
     ·exact ⟨rfl,HJd.out.st.trans hS,.inr ⟨by rw[HP.out,pq7,HLP.out,zp HM.out (by rw[Q8,hp]) hlt],rfl⟩⟩
     have HP1:=q7 hp
     have hu1:=ze hp
     have HJ1:=q7 (HJd.out.num hS hR)
     clear hp hS hR
     have hSd:=HSQ.out _ _ HJ1.out
     refine hK.out _ _ hSd ?_
     clear hK
     try simp only[Act.put]
     refine qm (i:=6) (o:=_) (by kernel_rfl) rfl (fun K' hK=>?_)
     rw[if_pos (by rfl)]
     go_simp
     refine (jm B b u1 X1 hB (Nat.le_trans hBw HJ1.out.st.bel.size) HJ1.out.rd (by omega)).mono ?_
     rintro e X2 ⟨hS,hc⟩
     rcases hc with ⟨y,u2,hp,rfl,hR⟩|⟨hp,rfl⟩
     rotate_left
     ·exact ⟨rfl,HJ1.out.st.trans hS,.inr ⟨by rw[HP.out,pq7,HLP.out,zp HM.out (by rw[Q8,HP1.out];simp only[hp]) hlt],rfl⟩⟩
     have HP2:=q7 (show Q8 u=some ((x,y),u2) by rw[Q8,HP1.out];simp only[hp])
     have HJ2:=q7 (HJ1.out.num hS hR)
     clear hp hS hR
     have hcl:(ns.flatMap ptL++List.replicate (2*(N7-k)) (Value.int .i64 0)).length=N7*2:=by rw[List.length_append,jc,List.length_replicate,hnl];omega
     have hH:=HJ2.out.ex (S7,78,ns.flatMap ptL++List.replicate (2*(N7-k)) (Value.int .i64 0)) (by simp)
     have g0:∃z,X2.cell? ⟨S7,k*2,none⟩=some z:=⟨_,by rw[Lib.cell_of_heap hH,List.getElem?_toArray];exact List.getElem?_eq_getElem (by rw[hcl];omega)⟩
     have g1:∃z,X2.cell? ⟨S7,k*2+1,none⟩=some z:=⟨_,by rw[Lib.cell_of_heap hH,List.getElem?_toArray];exact List.getElem?_eq_getElem (by rw[hcl];omega)⟩
     obtain ⟨z0,c0⟩:=g0
     obtain ⟨z1,c1⟩:=g1
     have f0:X2.frozen? ⟨S7,k*2,none⟩=false:=Lib.frozen_of_heap hH _
     have f1:X2.frozen? ⟨S7,k*2+1,none⟩=false:=Lib.frozen_of_heap hH _
     have HJ3:=q7 (HJ2.out.two hxs7 (k*2) (.int .i64 x) (.int .i64 y))
     clear hcl hH
     have hSd:=HSQ.out _ _ HJ2.out
     refine hK.out _ _ hSd ?_
     clear hK
     try simp only[Act.put]
     refine q9 (i:=7) (oi:=_) (v:=?vv13) (some 61) [] rfl rfl (by kernel_rfl) (by kernel_rfl) (by kernel_rfl) (by kernel_rfl) (by kernel_rfl) (fun _ _ _ h=>h) (Or.inl ⟨by rfl,?yy13⟩) hSd ?rr13
     case yy13=>(intro wq hSq;obtain ⟨_,_⟩:=hSq;go_simp<;>with_reducible rfl)
     simp only[Act.put,List.setIfInBounds_toArray,List.set_cons_succ,List.set_cons_zero]
     refine q9 (i:=8) (oi:=_) (v:=?vv14) (some 62) [] rfl rfl (by kernel_rfl) (by kernel_rfl) (by kernel_rfl) (by kernel_rfl) (by kernel_rfl) (fun _ _ _ h=>h) (Or.inl ⟨by rfl,?yy14⟩) hSd ?rr14
     case yy14=>(intro wq hSq;obtain ⟨_,_⟩:=hSq;go_simp<;>with_reducible rfl)
     simp only[Act.put,List.setIfInBounds_toArray,List.set_cons_succ,List.set_cons_zero]
     refine qV (o:=_) (by kernel_rfl) rfl (fun K' hK=>?_)
     rw[if_pos (by rfl)]
     go_simp
     refine hK.out _ _ ?_
     clear hK
     refine qU (by kernel_rfl) ?_ _
     try simp only[Act.put]
     have HJ4:=q7 (show PJ B b w [(S7,78,(ns++[(x,y)]).flatMap ptL++List.replicate (2*(N7-(k+1))) (Value.int .i64 0)),(S4,77,sp.flatMap ptL)] u2 [.int .i64 ph,.int .i64 a0,.int .i64 a1,.int .i64 a2,.int .i64 a3,.int .i64 wh,.slice (some ⟨S4,0,none⟩) N4 N4,.int .i64 g0,.int .i64 g1,.int .i64 g2,.int .i64 m0,.int .i64 m1,.int .i64 m2,.int .i64 m3,.int .i64 m4,.int .i64 m5,.int .i64 m6,.int .i64 m7,.int .i64 m8,.slice (some ⟨S7,0,none⟩) N7 N7,.int .i64 0] _ from by
      have h:=HJ3.out
      rw[show N7-k=N7-(k+1)+1 by omega,←hnl,q0G,hnl] at h
      exact h)
     have HM2:=q7 (Qw HM.out HP2.out)
     clear HJ3 HJ2 HJ1 HJd HJ hSd c0 c1 f0 f1 HSQ
     go_wp2
     go_roundw
     case rel=>exact ⟨k+1,hlt,by go_num,_,_,HM2.out,HJ4.out⟩
     case measure=>simp[intOf];omega
    ·have hd:decide ((k:Int)<(N7:Int))=false:=by simp;omega
     obtain rfl:N7=k:=by omega
     replace HP:=q7 (show R=pq8 (fun am=>⟨ph,ix [a0,a1,a2,a3],wh,sp,ix [g0,g1,g2],ix [m0,m1,m2,m3,m4,m5,m6,m7,m8],ns,am⟩) u by rw[HP.out,pq7,HLP.out,hm])
     replace HJ:=q7 (show PJ B b w [(S7,78,ns.flatMap ptL),(S4,77,sp.flatMap ptL)] u [.int .i64 ph,.int .i64 a0,.int .i64 a1,.int .i64 a2,.int .i64 a3,.int .i64 wh,.slice (some ⟨S4,0,none⟩) N4 N4,.int .i64 g0,.int .i64 g1,.int .i64 g2,.int .i64 m0,.int .i64 m1,.int .i64 m2,.int .i64 m3,.int .i64 m4,.int .i64 m5,.int .i64 m6,.int .i64 m7,.int .i64 m8,.slice (some ⟨S7,0,none⟩) N7 N7,.int .i64 0] wr by have h:=HJ.out;rwa [Nat.sub_self,Nat.mul_zero,List.replicate_zero,List.append_nil] at h)
     have hn7:=hnl
     clear hm HLP hnl
     generalize ns=cu at *
     generalize u=l7u at *
     generalize wr=W7 at *
     have hl7u:l7u.length≤140737488355328:=by omega
     clear hul
     go_wp2_with fail
     refine (jm B b l7u W7 hB (Nat.le_trans hBw HJ.out.st.bel.size) HJ.out.rd (by omega)).mono ?_
     rintro e V8 ⟨hS,hc⟩
     rcases hc with ⟨am,l8,hp,rfl,hR⟩|⟨hp,rfl⟩
     rotate_left
     ·exact ⟨rfl,HJ.out.st.trans hS,.inr ⟨by rw[HP.out,pq8,hp],rfl⟩⟩
     replace HP:=q7 (show R=some (⟨ph,ix [a0,a1,a2,a3],wh,sp,ix [g0,g1,g2],ix [m0,m1,m2,m3,m4,m5,m6,m7,m8],cu,am⟩,l8) by rw[HP.out,pq8,hp])
     replace HJ:=q7 (HJ.out.num hS hR)
     have ci:V8.cell? ⟨w.heap.size+1,20,none⟩=some (.int .i64 0):=by rw[Lib.cell_of_heap HJ.out.box];rfl
     have fi:V8.frozen? ⟨w.heap.size+1,20,none⟩=false:=Lib.frozen_of_heap HJ.out.box _
     replace HJ:=q7 (HJ.out.put 20 (.int .i64 am) rfl)
     clear hp hS hR
     obtain ⟨PA,hPA⟩:∃PA,PA=qZ (⟨ph,ix [a0,a1,a2,a3],wh,sp,ix [g0,g1,g2],ix [m0,m1,m2,m3,m4,m5,m6,m7,m8],cu,am⟩:zw) (.slice (some ⟨S4,0,none⟩) N4 N4) (.slice (some ⟨S7,0,none⟩) N7 N7):=⟨_,rfl⟩
     have hbx:(V8.setCell ⟨w.heap.size+1,20,none⟩ (.int .i64 am)).heap[w.heap.size+1]?=some (.cells PA 30 (0,0)):=by rw[hPA];exact HJ.out.box
     have hrs:(V8.setCell ⟨w.heap.size+1,20,none⟩ (.int .i64 am)).heap[w.heap.size]?=some (.cells JJ 30 (0,0)):=HJ.out.res
     have i1:(Tryz.prog.info? 30).map (·.size)=some PA.size:=by rw[hPA];kernel_rfl
     have i2:(JJ:Array Value).size=PA.size:=by rw[hPA];rfl
     have i3:PA.all (·.oneCell')=true:=by rw[hPA];simp[Value.oneCell']
     have hx4:=HJ.out.ex (S4,77,sp.flatMap ptL) (by simp)
     have hx7:=HJ.out.ex (S7,78,cu.flatMap ptL) (by simp)
     have hs4:=HJ.out.sep (S4,77,sp.flatMap ptL) (by simp)
     have hs7:=HJ.out.sep (S7,78,cu.flatMap ptL) (by simp)
     simp only at hs4 hs7 hx4 hx7
     have HI4:=q7 (Kc hx4 (by omega))
     have HI7:=q7 (Kc hx7 (by omega))
     have HST:=q7 HJ.out.st
     have HRD:=q7 HJ.out.rd
     clear HJ hx4 hx7
     go_upto_region 20 with fail
     clear ci fi
     generalize V8.setCell ⟨w.heap.size+1,20,none⟩ (.int .i64 am)=VF at *
     have HG:=q7 (setRow_heap _ _ _ PA _ _ hrs)
     have HF:=q7 (show RSt B b w (VF.setRow w.heap.size PA) from ⟨HST.out.bel.trans (below_setRow (Below.refl _ _) (by omega) PA),fun k h1 h2=>(setRow_other _ _ _ _ (by omega)).trans (HST.out.keep k h1 h2)⟩)
     have HRF:=q7 (show Z8 b l8 (VF.setRow w.heap.size PA) from (setRow_other _ _ _ _ (by omega)).trans HRD.out)
     have HPF:=q7 (show jY (VF.setRow w.heap.size PA) ⟨ph,ix [a0,a1,a2,a3],wh,sp,ix [g0,g1,g2],ix [m0,m1,m2,m3,m4,m5,m6,m7,m8],cu,am⟩ (.slice (some ⟨S4,0,none⟩) N4 N4) (.slice (some ⟨S7,0,none⟩) N7 N7) from ⟨hn4 ▸ HI4.out.other (k:=w.heap.size) (by simp) (fun b hb=>setRow_other _ _ _ _ hb) (by simp[Value.ownBlock];omega),hn7 ▸ HI7.out.other (k:=w.heap.size) (by simp) (fun b hb=>setRow_other _ _ _ _ hb) (by simp[Value.ownBlock];omega)⟩)
     clear HST HRD HI4 HI7
     go_wp2_with (first|refine wpList_load_row rfl 30 _ rfl _ rfl _ _ _ _ hbx Tryz.underlying30 rfl i1 ?_|refine wpList_store_row rfl 30 _ _ rfl w.heap.size PA rfl rfl _ _ hrs i1 i2 i3 ?_)
     refine bodyPost_ret (v:=.agg PA) (results_cell_row Tryz.results86 _ _ _ _ _ _ _ rfl HG.out Tryz.underlying30 rfl i1) rfl ⟨HF.out,.inl ⟨_,_,_,_,HP.out,by rw[hPA],HRF.out,HPF.out,?_,?_⟩⟩
     ·exact ⟨fun b e=>by simp[Value.ownBlock] at e;omega,Nat.le_refl _⟩
     ·exact ⟨fun b e=>by simp[Value.ownBlock] at e;omega,Nat.le_refl _⟩
end Go.Proofs.YtanebhbfekcplaaGreat

namespace Go.Proofs.YtanebhbfekcplaaGreat
set_option linter.unusedVariables false
open Go.RowKit
theorem zL {P:Program} (g o:Nat) (t:TypeId):∀(vs:List Value) (i:Nat) (cur:Array Value) (w:World),w.heap[g]?=some (.cells cur t (0,0))→o+i+vs.length=cur.size→(∀v∈vs,v.oneCell'=true) →
  (storeCells ⟨g,o,none⟩ vs i).run P w=.ok () (w.setRow g (cur.toList.take (o+i)++vs).toArray)
 | [],i,cur,w,hg,hl,_=>by
  have h0:cur.toList.take (o+i)=cur.toList:=List.take_of_length_le (by simp at hl ⊢;omega)
  simp only[storeCells,List.append_nil,h0,Array.toArray_toList]
  show Result.ok () w=_
  congr 1
  have hv:w.heap[g]'((Array.getElem?_eq_some_iff.1 hg).1)=.cells cur t (0,0):=(Array.getElem?_eq_some_iff.1 hg).2
  unfold World.setRow
  cases w with
  | mk heap tape drawn os output =>
   congr 1
   apply Array.ext
   ·simp
   ·intro k h1 h2
    simp only[Array.getElem_modify]
    split
    ·rename_i hk;subst hk;simp at hv;simp[hv]
    ·rfl
 | v::rest,i,cur,w,hg,hl,h1=>by
  have hi:o+i<cur.size:=by simp at hl;omega
  have hadd:(⟨g,o,none⟩:Addr).add i=⟨g,o+i,none⟩:=Addr.add_lit ..
  have hcell:w.cell? ⟨g,o+i,none⟩=some cur[o+i]:=by simp[World.cell?,hg,hi]
  have hfro:w.frozen? ⟨g,o+i,none⟩=false:=by simp[World.frozen?,hg]
  have hst:(store ((⟨g,o,none⟩:Addr).add i) v).run P w=.ok () (w.setRow g (cur.setIfInBounds (o+i) v)):=by
   rw[hadd,run_store P w _ v _ (h1 v (by simp)),hcell]
   simp[hfro,setCell_eq_setRow w g (o+i) cur t (0,0) v hg]
  have ih:=zL (P:=P) g o t rest (i+1) (cur.setIfInBounds (o+i) v) (w.setRow g (cur.setIfInBounds (o+i) v)) (setRow_heap w g cur _ t _ hg) (by simp at hl ⊢;omega) (fun x hx=>h1 x (by simp[hx]))
  simp only[storeCells,Sem.run_bind,hst,Result.andThen_ok,ih,setRow_setRow]
  congr 3
  rw[Array.toList_setIfInBounds,←Nat.add_assoc,List.take_set,List.take_succ_eq_append_getElem (by simpa using hi)]
  rw[List.set_append_right _ _ (by rw[List.length_take];exact Nat.min_le_left _ _)]
  simp[Nat.min_eq_left (Nat.le_of_lt hi)]
theorem ZO {P:Program} {ops:Array Oper} {rest:List Oper} {o:Oper} {a:Act} {w:World} {Q:Exit→Act→World→Prop} (hgd:o.guard=none) (ty:TypeId) (x y:Operand) (ho:o.op=.store ty x y)
  (g of:Nat) (cells:Array Value) (hx:a.eval x=.pointer (some ⟨g,of,none⟩)) (hy:a.eval y=.agg cells) (t:TypeId) (old:Array Value) (hg:w.heap[g]?=some (.cells old t (0,0))) (hi:(P.info? ty).map (·.size)=some cells.size)
  (hold:of+cells.size=old.size) (h1:cells.all (·.oneCell')=true)
  (h:wpList P ops Q rest (a.put o.dst undef) (w.setRow g (old.toList.take of++cells.toList).toArray)):wpList P ops Q (o::rest) a w :=
 wpList_plain hgd fun _ hK=>by
  have hr:=zL (P:=P) g of t cells.toList 0 old w hg (by simp;omega) (fun v hv=>(Array.all_eq_true_iff_forall_mem.1 h1) v (by simpa using hv))
  have hs:(storeVar ty ⟨g,of,none⟩ (.agg cells)).run P w=.ok () (w.setRow g (old.toList.take of++cells.toList).toArray):=by
   cases hq:P.info? ty with
   | none=>simp[hq] at hi
   | some i =>
    have hs:cells.size=i.size:=by simp[hq] at hi;omega
    simpa [storeVar,sizeOf,typeInfo,hq,Value.cells,hs] using hr
  unfold Oper.wp execOp
  simp only[ho,hx,hy,Instr.storeAt,Instr.sureAddr,Sem.run_bind,Sem.run_pure,Result.andThen_ok,hs]
  exact hK _ _ h
abbrev qr:Array Value:=#[.int .i64 0,.int .i64 0,.int .i64 0,.int .i64 0,.int .i64 0,.slice none 0 0,.slice none 0 0,
 .int .i64 0,.int .i64 0,.int .i64 0,.int .i64 0,.int .i64 0,.int .i64 0,.slice none 0 0,.int .i64 0,.int .i64 0,.int .i64 0,.int .i64 0,.int .i64 0,.int .i64 0,.int .i64 0,.int .i64 0,.int .i64 0,.int .i64 0,.int .i64 0,.int .i64 0,.slice none 0 0,.int .i64 0]
set_option maxRecDepth 100000 in
set_option maxHeartbeats 1600000 in
theorem q1T (R K:Nat) (old:Array Value) (c:Value) (w:World) (hR:w.heap[R]?=some (.cells old 32 (0,0))) (ho:old.size=28) (hK:w.heap[K]?=some (.cells #[c] 4 (0,0))) (hne:R≠K) :
  CallsD Tryz.prog 79 #[.pointer (some ⟨R,0,none⟩),.pointer (some ⟨K,0,none⟩)] (.panicking [{ v:=panV,recovered:=false }]) w fun e u' w' =>
   e=.returned (.tuple #[])∧u'=.panicking [{ v:=panV,recovered:=true }]∧w'=(w.setRow R qr).setCell ⟨K,0,none⟩ (.bool false):=by
 refine callsD_of_wpS Tryz.func79 rfl fun c₀ cs hu=>?_
 apply wpS_seq
 apply wpS_region
 simp[wpOpsS,go_sem,recoverD,hu,Tryz.ntmps79,Exit.thenS]
 refine wpS_cond (t:=true) (by simp[Act.eval,Array.replicate]) ?_
 simp only[if_true]
 rw[show (#[Value.pointer (some ⟨R,0,none⟩),.pointer (some ⟨K,0,none⟩)]++((Array.replicate 3 undef).setIfInBounds 0 panV).setIfInBounds 1 (.bool true))=#[.pointer (some ⟨R,0,none⟩),.pointer (some ⟨K,0,none⟩),panV,.bool true,undef] from rfl]
 refine wpS_of_wp ?_
 have hK2:(w.setRow R qr).heap[K]?=some (.cells #[c] 4 (0,0)):=(setRow_other _ _ _ _ (fun e=>hne e.symm)).trans hK
 have c1:(w.setRow R qr).cell? ⟨K,0,none⟩=some c:=by rw[Lib.cell_of_heap hK2];rfl
 have f1:(w.setRow R qr).frozen? ⟨K,0,none⟩=false:=Lib.frozen_of_heap hK2 0
 have i1:(Tryz.prog.info? 32).map (·.size)=some (qr:Array Value).size:=by kernel_rfl
 have i2:old.size=(qr:Array Value).size:=by rw[ho];rfl
 have i3:(qr:Array Value).all (·.oneCell')=true:=by simp[Value.oneCell']
 go_wp2_with (refine wpList_store_row rfl 32 _ _ rfl R qr rfl rfl _ old hR i1 i2 i3 ?_)
 cases c₀
 simp_all[bodyPostS,results,Tryz.results79]
set_option maxRecDepth 100000 in
theorem q1u (R K:Nat) (w:World) :
  CallsD Tryz.prog 79 #[.pointer (some ⟨R,0,none⟩),.pointer (some ⟨K,0,none⟩)] .returning w fun e u' w'=>e=.returned (.tuple #[])∧u'=.returning∧w'=w:=by
 refine callsD_of_wpS Tryz.func79 rfl fun c₀ cs hu=>?_
 apply wpS_seq
 apply wpS_region
 simp[wpOpsS,go_sem,recoverD,hu,Tryz.ntmps79,Exit.thenS]
 refine wpS_cond (t:=false) (by simp[Act.eval,Array.replicate]) ?_
 simp only[Bool.false_eq_true,if_false]
 refine wpS_of_wp (wp_skip ?_)
 cases c₀
 simp_all[bodyPostS,results,Tryz.results79]
end Go.Proofs.YtanebhbfekcplaaGreat

namespace Go.Proofs.YtanebhbfekcplaaGreat
set_option linter.unusedVariables false
open Go.RowKit
theorem XW (W:World) (K:Nat) (c:Bool) (h:W.cell? ⟨K,0,none⟩=some (.bool c)):(loadVar 4 ⟨K,0,none⟩).run Tryz.prog W=.ok (.bool c) W:=by
 have ha:=Tryz.isAgg4 W
 simp[loadVar,Sem.run_bind,ha,go_sem,h]
theorem Z0 (tmps:Array Value) (R K:Nat) (cs:Array Value) (c:Bool) (W:World) (h2:tmps.getD 2 undef=.pointer (some ⟨R,0,none⟩)) (h3:tmps.getD 3 undef=.pointer (some ⟨K,0,none⟩))
  (hR:W.heap[R]?=some (.cells cs 32 (0,0))) (hs:(Tryz.prog.info? 32).map (·.size)=some cs.size) (hK:W.heap[K]?=some (.cells #[.bool c] 4 (0,0))) :
  (results Tryz.f45 tmps).run Tryz.prog W=.ok (.tuple #[.agg cs,.bool c]) W:=by
 have hl:=run_loadVar_row (P:=Tryz.prog) W R 32 32 cs (0,0) _ hR Tryz.underlying32 rfl hs
 have hk:=XW W K c (by rw[Lib.cell_of_heap hK];rfl)
 have h2':tmps[2]?.getD undef=.pointer (some ⟨R,0,none⟩):=by simpa using h2
 have h3':tmps[3]?.getD undef=.pointer (some ⟨K,0,none⟩):=by simpa using h3
 simp[results,Tryz.results45,h2',h3',asAddr,hl,hk]
set_option maxRecDepth 100000 in
set_option maxHeartbeats 1600000 in
theorem jg {w V:World} {cs:List Value} {Post:Ending→World→Prop} {tmps:Array Value} (hb:Below w.heap.size w V) (hR:j9 w.heap.size 32 cs V) (hn:cs.length=28) (hK:j9 (w.heap.size+1) 4 [.bool false] V)
  (h2:tmps.getD 2 undef=.pointer (some ⟨w.heap.size,0,none⟩)) (h3:tmps.getD 3 undef=.pointer (some ⟨w.heap.size+1,0,none⟩))
  (hP:∀W,Below w.heap.size w W→Post (.returned (.tuple #[.agg qr,.bool false])) W) :
  bodyPostD Tryz.prog Tryz.f45 Post (Exit.panic [{ v:=panV,recovered:=false }]) { tmps:=tmps,defers:=[{ target:=Target.fn (Fn.func 79) #[.pointer (some ⟨w.heap.size,0,none⟩),.pointer (some ⟨w.heap.size+1,0,none⟩)],args:=#[] }] } V:=by
 refine leaves_cons (f:=79) (args:=#[.pointer (some ⟨w.heap.size,0,none⟩),.pointer (some ⟨w.heap.size+1,0,none⟩)]) (by simp) (by simp[go_sem]) ?_
 refine (q1T w.heap.size (w.heap.size+1) cs.toArray (.bool false) V hR (by simpa using hn) hK (by omega)).mono ?_
 rintro e u' w'' ⟨rfl,rfl,rfl⟩
 have g1:((V.setRow w.heap.size qr).setCell ⟨w.heap.size+1,0,none⟩ (.bool false)).heap[w.heap.size]?=some (.cells qr 32 (0,0)):=(Below.heap_setCell _ _ _ _ (show w.heap.size≠w.heap.size+1 by omega)).trans (setRow_heap _ _ _ _ _ _ hR)
 have k0:(V.setRow w.heap.size qr).heap[w.heap.size+1]?=some (.cells #[.bool false] 4 (0,0)):=(setRow_other _ _ _ _ (by omega)).trans hK
 have g2:((V.setRow w.heap.size qr).setCell ⟨w.heap.size+1,0,none⟩ (.bool false)).heap[w.heap.size+1]?=some (.cells #[.bool false] 4 (0,0)):=by
  simp[World.setCell,Array.getElem?_modify,k0]
 have hr:=Z0 tmps w.heap.size (w.heap.size+1) qr false _ h2 h3 g1 (by kernel_rfl) g2
 have hbb:Below w.heap.size w ((V.setRow w.heap.size qr).setCell ⟨w.heap.size+1,0,none⟩ (.bool false)):=(below_setRow hb (Nat.le_refl _) _).setCell (p:=⟨w.heap.size+1,0,none⟩) (Nat.le_succ _) _
 exact ⟨_,hr,hP _ hbb⟩
set_option maxRecDepth 100000 in
theorem q3Z {R K:Nat} {V:World} {cs:Array Value} {Post:Ending→World→Prop} {tmps:Array Value} (hR:V.heap[R]?=some (.cells cs 32 (0,0))) (hs:(Tryz.prog.info? 32).map (·.size)=some cs.size) (hK:V.heap[K]?=some (.cells #[.bool true] 4 (0,0)))
  (h2:tmps.getD 2 undef=.pointer (some ⟨R,0,none⟩)) (h3:tmps.getD 3 undef=.pointer (some ⟨K,0,none⟩)) (hP:Post (.returned (.tuple #[.agg cs,.bool true])) V) :
  bodyPostD Tryz.prog Tryz.f45 Post Exit.ret { tmps:=tmps,defers:=[{ target:=Target.fn (Fn.func 79) #[.pointer (some ⟨R,0,none⟩),.pointer (some ⟨K,0,none⟩)],args:=#[] }] } V:=by
 refine leaves_cons (f:=79) (args:=#[.pointer (some ⟨R,0,none⟩),.pointer (some ⟨K,0,none⟩)]) (by simp) (by simp[go_sem]) ?_
 refine (q1u R K V).mono ?_
 rintro e u' w'' ⟨rfl,rfl,rfl⟩
 exact ⟨_,Z0 tmps R K cs true w'' h2 h3 hR hs hK,hP⟩
theorem Ki {P:Program} {fn:Func} {t1 t2:Array Value} {R:Ending→World→Prop} (h:∀w,(results fn t1).run P w=(results fn t2).run P w) (ds:List Deferred):∀(u:FrameMode) (w:World),Leaves P fn t1 R ds u w→Leaves P fn t2 R ds u w:=by
 induction ds with
 | nil =>
  intro u w hl
  cases u with
  | returning=>obtain ⟨v,hv,hr⟩:=hl;exact ⟨v,(h w).symm.trans hv,hr⟩
  | panicking chain=>exact hl
  | run=>exact hl
 | cons d ds ih =>
  intro u w hl
  obtain ⟨hu,fv,cap,f,args,ht,hi,hc⟩:=hl
  refine ⟨hu,fv,cap,f,args,ht,hi,hc.mono ?_⟩
  intro e u' w' he
  cases e with
  | returned v=>exact ih _ _ he
  | panicked chain=>exact ih _ _ he
  | outgrown=>exact he
theorem Zb {Post:Ending→World→Prop} {a:Act} {c:List PanicEntry} {w:World} {d:Nat} {v:Value} (hd:3<d) (h:bodyPostD Tryz.prog Tryz.f45 Post (Exit.panic c) (a.put (some d) v) w):bodyPostD Tryz.prog Tryz.f45 Post (Exit.panic c) a w:=by
 refine Ki (fun w=>?_) _ _ _ h
 have e2:(a.tmps.setIfInBounds d v)[2]?=a.tmps[2]?:=Array.getElem?_setIfInBounds_ne (by omega)
 have e3:(a.tmps.setIfInBounds d v)[3]?=a.tmps[3]?:=Array.getElem?_setIfInBounds_ne (by omega)
 simp[results,Tryz.results45,Act.put,e2,e3]
end Go.Proofs.YtanebhbfekcplaaGreat

namespace Go.Proofs.YtanebhbfekcplaaGreat
set_option linter.unusedVariables false
open Go.RowKit
abbrev Jj (B b:Nat) (l:List UInt8) (w:World):Prop:=Lib.IsBuilder 111 5 B b (byt l) w
def Y0 (w:World) (k:Nat):Prop:=∀cs fr,w.heap[k]?≠some (.cells cs 5 fr)
structure qY (B b:Nat) (w w':World):Prop where
 bel:Below B w w'
 keep:∀k,k<w.heap.size→k≠b→Y0 w k→w'.heap[k]?=w.heap[k]?
theorem qY.refl (B b:Nat) (w:World):qY B b w w:=⟨Below.refl _ _,fun _ _ _ _=>rfl⟩
theorem qY.trans {B b:Nat} {w w' w'':World} (h:qY B b w w') (k:qY B b w' w''):qY B b w w'' where
 bel:=h.bel.trans k.bel
 keep:=fun j h1 h2 h3=>by
  have e:=h.keep j h1 h2 h3
  exact (k.keep j (Nat.lt_of_lt_of_le h1 h.bel.size) h2 (fun cs fr=>by rw[e];exact h3 cs fr)).trans e
theorem qY.alloc {B b:Nat} {w:World} (hB:B≤w.heap.size) (o:Obj):qY B b w (w.alloc o) :=
 ⟨(qa w o).mono hB,fun k h1 _ _=>(qa w o).block k h1⟩
theorem Jj.alloc {B b:Nat} {l:List UInt8} {w:World} (h:Jj B b l w) (o:Obj):Jj B b l (w.alloc o):=by
 rcases h with ⟨h2,v,h3,h4,h5⟩|⟨h2,v,h3,h4,h5⟩
 ·exact .inl ⟨h2,v,((qa w o).block _ (Array.getElem?_eq_some_iff.1 h3).1).trans h3,qy h4 (qa w o),h5⟩
 ·exact .inr ⟨h2,v,((qa w o).block _ (Array.getElem?_eq_some_iff.1 h3).1).trans h3,qy h4 (qa w o),h5⟩
def ZX (B b:Nat) (u:Value) (w:World):Prop:=∀k,u.ownBlock=some k→k<w.heap.size→k<B∨(k≠b∧Y0 w k)
theorem qY.block {B b:Nat} {w w':World} (hs:qY B b w w') {k:Nat} (hk:k<w.heap.size) (ha:k<B∨(k≠b∧Y0 w k)):w'.heap[k]?=w.heap[k]?:=by
 rcases ha with h|⟨h,h'⟩
 ·exact hs.bel.block k h
 ·exact hs.keep k hk h h'
theorem qd.step {B b:Nat} {u:Value} {xs:List Int} {w w':World} (h:qd w u xs) (hs:qY B b w w') (ha:ZX B b u w):qd w' u xs:=by
 obtain ⟨ao,cap,rfl,hl,h⟩:=h
 refine ⟨ao,cap,rfl,hl,?_⟩
 rcases h with h|⟨c,off,rfl,hlt,hc⟩
 ·exact .inl h
 ·refine .inr ⟨c,off,rfl,Nat.lt_of_lt_of_le hlt hs.bel.size,fun j hj=>?_⟩
  rw[World.cell?_of_block (a:=⟨c,off+j,none⟩) (hs.block hlt (ha c rfl hlt))]
  exact hc j hj
theorem JN {w:World} {k:Nat} {cs:Array Value} {t:TypeId} {fr:Nat×Nat} (h:w.heap[k]?=some (.cells cs t fr)) (ht:t≠5):Y0 w k:=fun cs' fr' e=>by
 rw[h] at e
 simp only[Option.some.injEq,Obj.cells.injEq] at e
 exact ht e.2.1
theorem Tryz.sizeBuilder:(Tryz.prog.info? 109).map (·.size)=some 2:=by kernel_rfl
theorem Tryz.liesWriter:liesAt Tryz.prog Tryz.prog.depth 111 (2 / Tryz.prog.cellsOf 111) 0 109 1=true:=by kernel_rfl
theorem Tryz.infoByteW:(Tryz.prog.info? 5).map (fun i=>(i.zero,i.size,i.bytes))=some (some (.int .u8 0),1,1):=by kernel_rfl
set_option maxHeartbeats 1000000 in
set_option maxRecDepth 100000 in
theorem Kj (B b:Nat) (l:List UInt8) (w:World) (h:Jj B b l w) :
  Calls Tryz.prog 141 #[.pointer (some ⟨b,0,none⟩)] w fun e w'=>e=.returned (.tuple #[])∧(Lib.BuilderAt 111 5 B b (.pointer (some ⟨b,0,none⟩)) (byt l) w'∧qY B b w w'∧w'.heap.size=w.heap.size∧∀k,k≠b→w'.heap[k]?=w.heap[k]?):=by
 obtain ⟨j,hj,hjs⟩:=Option.map_eq_some_iff.1 Tryz.sizeBuilder
 rcases h with hA|hA
 ·have c0:=hA.cell0
  have hsh:=hA.shape
  have hfz:=hA.frozen0
  have HU:=q7 (hA.used (.pointer (some ⟨b,0,none⟩)))
  have HF:=q7 (show qY B b w (w.setCell ⟨b,0,none⟩ (.pointer (some ⟨b,0,none⟩))) from ⟨Below.setCell (p:=⟨b,0,none⟩) (Below.refl B w) hA.1 _,fun k _ hk _=>Below.heap_setCell _ _ _ _ (fun e=>hk e)⟩)
  clear hA
  go_enter Tryz.func141,Tryz.ntmps141
  go_wp2
  rw[Lib.run_to_unsafe w ⟨b,0,none⟩ Tryz.underlying107 Tryz.underlying169 hj (by rw[hjs];decide) hsh (Nat.zero_lt_succ 1)]
  simp only[Result.andThen]
  rw[Oper.upon_value]
  go_wp2
  rw[run_callFunc_extern Tryz.func144 (by kernel_rfl) (by kernel_rfl) (by kernel_rfl) (e:=Extern.AbiNoEscape.same) (by kernel_rfl)]
  rw[Lib.run_noEscape]
  simp only[Result.andThen]
  rw[Oper.upon_value]
  go_wp2
  rw[Lib.run_from_unsafe w ⟨b,0,none⟩ Tryz.underlying169 Tryz.underlying107 hj hsh Tryz.liesWriter]
  simp only[Result.andThen]
  rw[Oper.upon_value]
  go_wp2
  go_end0
  exact ⟨rfl,HU.out,HF.out,by simp[World.setCell],fun k hk=>Below.heap_setCell _ _ _ _ (fun e=>hk e)⟩
 ·have c0:=hA.cell0
  have HW:=q7 hA
  clear hA
  go_enter Tryz.func141,Tryz.ntmps141
  go_wp2
  rw[Lib.run_neq_ptr_same w _ Tryz.underlying107 hj]
  go_wp2
  go_end0
  exact ⟨rfl,HW.out,qY.refl _ _ _,rfl,fun _ _=>rfl⟩
theorem wput {B b:Nat} {v v':Value} {l m:List UInt8} {w w1 w2:World} (hB:B≤b) (hBw:B≤w.heap.size)
  (h1:w1.heap[b]?=some (.cells #[.pointer (some ⟨b,0,none⟩),v] 111 (0,0))) (hown:w1.ownsRow B 5 1 v l.length (byt l)) (hne:v.ownBlock≠some b) (hst:qY B b w w1)
  (hg:w1.grownBy w2 v.ownBlock) (ho:w2.ownsRow B 5 1 v' (l++m).length (byt (l++m))) :
  w2.heap[b]?=some (.cells #[.pointer (some ⟨b,0,none⟩),v] 111 (0,0))∧Jj B b (l++m) (w2.setCell ⟨b,1,none⟩ v')∧qY B b w (w2.setCell ⟨b,1,none⟩ v'):=by
 have hlt:b<w1.heap.size:=(Array.getElem?_eq_some_iff.1 h1).1
 have h2:w2.heap[b]?=some (.cells #[.pointer (some ⟨b,0,none⟩),v] 111 (0,0)):=(hg.block b hlt (fun e=>hne e.symm)).trans h1
 have hP:=Lib.BuilderAt.put (T:=111) (e:=5) hB h2 (bs':=byt (l++m)) (by rw[jK];exact ho) (by decide)
 refine ⟨h2,.inr hP,hst.trans ⟨((Below.refl B w1).grown hg (Nat.le_trans hBw hst.bel.size) (fun k hk=>(hown.lt k hk).1)).setCell (p:=⟨b,1,none⟩) hB _,fun k h3 h4 h5=>?_⟩⟩
 rw[Below.heap_setCell _ _ _ _ (fun e=>h4 e)]
 refine hg.block k h3 (fun e=>?_)
 rcases hown.2 with ⟨rfl,_⟩|⟨g,cap,cur,rfl,_,hgg,_⟩
 ·cases e
 ·simp only[Value.ownBlock,Option.some.injEq] at e
  subst e
  exact h5 _ _ hgg
set_option maxHeartbeats 2000000 in
set_option maxRecDepth 100000 in
theorem q1b (B b:Nat) (l m:List UInt8) (M c g off:Nat) (w:World) (h:Jj B b l w) (hM:m.length=M) (hm:∀j x,m[j]?=some x→w.cell? ⟨g,off+j,none⟩=some (.int .u8 x.toNat)) (hgb:g≠b) (hlen:l.length+M≤140737488355328) (hBw:B≤w.heap.size) :
  Calls Tryz.prog 126 #[.pointer (some ⟨b,0,none⟩),.slice (some ⟨g,off,none⟩) M c] w fun e w'=>e=.returned (.tuple #[.int .i64 M,.nilIface])∧Jj B b (l++m) w'∧qY B b w w':=by
 obtain ⟨i0,hi,hz0,hz1,hz2⟩:=info_parts Tryz.infoByteW
 have HC:=q7 (Kj B b l w h)
 have HM:=q7 hm
 clear hm
 go_enter Tryz.func126,Tryz.ntmps126
 go_wp2_with fail
 refine (HC.out).mono ?_
 rintro e w1 ⟨rfl,h1,hst,hsz,hke⟩
 obtain ⟨hB,v,hbk,hown,hne⟩:=h1
 rw[jK] at hown
 have c0:w1.cell? ⟨b,0,none⟩=some (.pointer (some ⟨b,0,none⟩)):=by rw[Lib.cell_of_heap hbk];rfl
 have c1:w1.cell? ⟨b,1,none⟩=some v:=by rw[Lib.cell_of_heap hbk];rfl
 have HN:=q7 (show ∀j u,(byt m)[j]?=some u→w1.cell? ((⟨g,off,none⟩:Addr).add j)=some u from fun j u hj=>by
  rw[byt_get?] at hj
  obtain ⟨x,hx,rfl⟩:=Option.map_eq_some_iff.1 hj
  rw[Addr.add_lit,World.cell?_of_block (a:=⟨g,off+j,none⟩) (hke g hgb)]
  exact HM.out j x hx)
 clear hke
 have HWN:=q7 hown
 go_wp2_with (at_builtin;refine wpList_append_own _ rfl _ _ 71 rfl B 5 i0 (.int .u8 0) 1 1 Tryz.underlying71 hi hz0 hz1 hz2 rfl (by decide) _ _ _ rfl HWN.out ⟨g,off,none⟩ M c (byt m) rfl ?qc1 ?qc2 ?qc3 ?qc4 ?qc5 ?qc6 ?_)
 case qc1=>rw[jK,hM,Nat.mul_one]
 case qc2=>exact HN.out
 case qc3=>exact KW m
 case qc4=>unfold maxLen;omega
 case qc5=>omega
 case qc6=>omega
 intro v' w2 hown' hgrow _
 have ho:w2.ownsRow B 5 1 v' (l++m).length (byt (l++m)):=by rw[List.length_append,hM,jx];exact hown'
 obtain ⟨hb2,hW,hS⟩:=wput hB hBw hbk hown hne hst hgrow ho
 have HW:=q7 hW
 have HS:=q7 hS
 have d0:w2.cell? ⟨b,0,none⟩=some (.pointer (some ⟨b,0,none⟩)):=by rw[Lib.cell_of_heap hb2];rfl
 have d1:w2.cell? ⟨b,1,none⟩=some v:=by rw[Lib.cell_of_heap hb2];rfl
 have f1:w2.frozen? ⟨b,1,none⟩=false:=Lib.frozen_of_heap hb2 1
 obtain ⟨ao,n',cap,rfl⟩:∃ao n' cap,v'=.slice ao n' cap:=by
  rcases hown'.2 with ⟨hv,_⟩|⟨g,cap,cur,hv,_⟩
  ·exact ⟨_,_,_,hv⟩
  ·exact ⟨_,_,_,hv⟩
 clear hW hS ho hown' hgrow
 go_wp2
 go_ret2
 exact ⟨rfl,HW.out,HS.out⟩
set_option maxHeartbeats 2000000 in
set_option maxRecDepth 100000 in
theorem q3z (B b:Nat) (l m:List UInt8) (w:World) (h:Jj B b l w) (hlen:l.length+m.length≤140737488355328) (hBw:B≤w.heap.size) :
  Calls Tryz.prog 118 #[.pointer (some ⟨b,0,none⟩),.string (str m)] w fun e w'=>e=.returned (.tuple #[.int .i64 m.length,.nilIface])∧Jj B b (l++m) w'∧qY B b w w':=by
 obtain ⟨i0,hi,hz0,hz1,hz2⟩:=info_parts Tryz.infoByteW
 have HC:=q7 (Kj B b l w h)
 have hsm:(str m).size=m.length:=qu m
 have hcm:Lib.strCells (str m)=byt m:=by simp[Lib.strCells,byt,str]
 go_enter Tryz.func118,Tryz.ntmps118
 go_wp2_with fail
 refine (HC.out).mono ?_
 rintro e w1 ⟨rfl,h1,hst,hsz,hke⟩
 obtain ⟨hB,v,hbk,hown,hne⟩:=h1
 rw[jK] at hown
 have c0:w1.cell? ⟨b,0,none⟩=some (.pointer (some ⟨b,0,none⟩)):=by rw[Lib.cell_of_heap hbk];rfl
 have c1:w1.cell? ⟨b,1,none⟩=some v:=by rw[Lib.cell_of_heap hbk];rfl
 clear hke
 have HWN:=q7 hown
 go_wp2_with (at_builtin;refine Lib.wpList_append_own_string _ rfl _ _ 71 9 rfl B 5 i0 Tryz.underlying71 Tryz.underlying9 hi hz0 hz1 hz2 _ _ _ rfl HWN.out (str m) rfl ?c3 ?c4 ?c5 ?_)
 case c3=>unfold maxLen;omega
 case c4=>omega
 case c5=>omega
 intro v' w2 hown' hgrow _
 have ho:w2.ownsRow B 5 1 v' (l++m).length (byt (l++m)):=by rw[List.length_append,jx,←hcm,←hsm];exact hown'
 obtain ⟨hb2,hW,hS⟩:=wput hB hBw hbk hown hne hst hgrow ho
 have HW:=q7 hW
 have HS:=q7 hS
 have d0:w2.cell? ⟨b,0,none⟩=some (.pointer (some ⟨b,0,none⟩)):=by rw[Lib.cell_of_heap hb2];rfl
 have d1:w2.cell? ⟨b,1,none⟩=some v:=by rw[Lib.cell_of_heap hb2];rfl
 have f1:w2.frozen? ⟨b,1,none⟩=false:=Lib.frozen_of_heap hb2 1
 obtain ⟨ao,n',cap,rfl⟩:∃ao n' cap,v'=.slice ao n' cap:=by
  rcases hown'.2 with ⟨hv,_⟩|⟨g,cap,cur,hv,_⟩
  ·exact ⟨_,_,_,hv⟩
  ·exact ⟨_,_,_,hv⟩
 clear hW hS ho hown' hgrow
 go_wp2
 go_ret2
 exact ⟨rfl,HW.out,HS.out⟩
end Go.Proofs.YtanebhbfekcplaaGreat

namespace Go.Proofs.YtanebhbfekcplaaGreat
set_option linter.unusedVariables false
open Go.RowKit
theorem q0J {w:World} {g:Nat} {X:Int} (hg:w.heap[g]?=some (.cells #[.int .u8 (X % 4294967296 / 16777216),.int .u8 (X % 4294967296 / 65536 % 256),.int .u8 (X % 4294967296 / 256 % 256),.int .u8 (X % 256)] 5 (0,0))) :
  ∀j x,(zE X)[j]?=some x→w.cell? ⟨g,0+j,none⟩=some (.int .u8 x.toNat):=by
 intro j x hj
 have hl:j<4:=(List.getElem?_eq_some_iff.1 hj).1
 rw[Lib.cell_of_heap hg,Nat.zero_add]
 have e:∀n:Nat,n<256→((UInt8.ofNat n).toNat:Int)=n:=fun n hn=>by simp[UInt8.toNat_ofNat'];omega
 rcases (show j=0∨j=1∨j=2∨j=3 by omega) with rfl|rfl|rfl|rfl
 all_goals
  simp only[zE,List.getElem?_cons_zero,List.getElem?_cons_succ,Option.some.injEq] at hj
  subst hj
  rw[e _ (by omega)]
  simp
  try omega
theorem qL (xs:List Int):(xs.flatMap zE).length=xs.length*4:=by
 induction xs with
 | nil=>rfl
 | cons x xs ih=>rw[List.flatMap_cons,List.length_append,ih,zu,List.length_cons];omega
theorem q1Z (xs:List Int) (k:Nat) (hk:k<xs.length):(xs.take (k+1)).flatMap zE=(xs.take k).flatMap zE++zE xs[k]:=by
 rw[List.take_succ_eq_append_getElem hk,List.flatMap_append];simp
theorem Zu {B b:Nat} {xs:List Int} {w:World} {c g:Nat} {t:TypeId} {cs:Array Value} {ca:Nat} (hg:w.heap[g]?=some (.cells cs t (0,0))) (hb:g≠b) (ht:t≠5):ZX B b (.slice (some ⟨g,0,none⟩) c ca) w:=by
 intro k hk _
 simp only[Value.ownBlock,Option.some.injEq] at hk
 subst hk
 exact .inr ⟨hb,JN hg ht⟩
set_option maxHeartbeats 3200000 in
set_option maxRecDepth 100000 in
theorem Xf (B b:Nat) (l:List UInt8) (v:Value) (xs:List Int) (w:World) (h:Jj B b l w) (hv:qd w v xs) (hap:xs=[]∨ZX B b v w) (hlen:l.length+xs.length*4≤140737488355328) (hBw:B≤w.heap.size) (hbw:b<w.heap.size) :
  Calls Tryz.prog 76 #[.pointer (some ⟨b,0,none⟩),v] w fun e w'=>e=.returned (.tuple #[])∧Jj B b (l++xs.flatMap zE) w'∧qY B b w w':=by
 have HV:=q7 hv
 have HA:=q7 hap
 obtain ⟨ao,ca,rfl,hxl,hc⟩:=hv
 have HW:=q7 h
 clear h hap
 go_enter Tryz.func76,Tryz.ntmps76
 go_wp2_with fail
 go_loopw [9] (fun i wr=>∃k:Nat,k≤xs.length∧i=.int .i64 k∧Jj B b (l++(xs.take k).flatMap zE) wr∧qY B b w wr) (fun i _=>xs.length-(intOf i).toNat)
 case atStart=>exact ⟨0,Nat.zero_le _,rfl,by simpa using HW.out,qY.refl _ _ _⟩
 case round =>
  clear HW
  obtain ⟨k,hk,rfl,hW,hS⟩:=hrel
  have HW:=q7 hW
  have HS:=q7 hS
  clear hW hS
  by_cases hlt:k<xs.length
  ·have hd:decide ((k:Int)<(xs.length:Int))=true:=by simp;omega
   obtain ⟨cb,off,rfl,hcb,hcell⟩:∃b off,ao=some ⟨b,off,none⟩∧b<wr.heap.size∧wr.cell? ⟨b,off+k,none⟩=some (.int .i64 xs[k]):=by
    obtain ⟨ao',ca',hv',_,h'⟩:=HV.out.step HS.out (HA.out.resolve_left (fun e=>by rw[e] at hlt;simp at hlt))
    cases hv'
    rcases h' with h'|⟨b,off,h1,h2,h3⟩
    ·rw[h'] at hlt;simp at hlt
    ·exact ⟨b,off,h1,h2,h3 k hlt⟩
   obtain ⟨X,hX⟩:∃X,xs[k]=X:=⟨_,rfl⟩
   rw[hX] at hcell
   clear hc
   go_wp2_with fail
   have HW1:=q7 (HW.out.alloc (Obj.cells #[.int .u8 (X % 4294967296 / 16777216),.int .u8 (X % 4294967296 / 65536 % 256),.int .u8 (X % 4294967296 / 256 % 256),.int .u8 (X % 256)] 5))
   have HS1:=q7 (HS.out.trans (qY.alloc (b:=b) (Nat.le_trans hBw HS.out.bel.size) (Obj.cells #[.int .u8 (X % 4294967296 / 16777216),.int .u8 (X % 4294967296 / 65536 % 256),.int .u8 (X % 4294967296 / 256 % 256),.int .u8 (X % 256)] 5)))
   have hsz:=HS.out.bel.size
   have hg:=al1 wr (Obj.cells #[.int .u8 (X % 4294967296 / 16777216),.int .u8 (X % 4294967296 / 65536 % 256),.int .u8 (X % 4294967296 / 256 % 256),.int .u8 (X % 256)] 5)
   have hll:(l++(xs.take k).flatMap zE).length=l.length+k*4:=by rw[List.length_append,qL,List.length_take];omega
   refine (q1b B b (l++(xs.take k).flatMap zE) (zE X) 4 4 wr.heap.size 0 _ HW1.out rfl (q0J hg) (by omega) (by rw[hll];omega) (Nat.le_trans hBw HS1.out.bel.size)).mono ?_
   rintro e w2 ⟨rfl,hW2,hS2⟩
   have HW2:=q7 (show Jj B b (l++(xs.take (k+1)).flatMap zE) w2 by rw[q1Z xs k hlt,hX,←List.append_assoc];exact hW2)
   have HS2:=q7 (HS1.out.trans hS2)
   clear hW2 hS2 hg hll hcell hX hsz
   go_wp2
   go_roundw
   case rel=>exact ⟨k+1,hlt,by go_num,HW2.out,HS2.out⟩
   case measure=>simp[intOf];omega
  ·have hd:decide ((k:Int)<(xs.length:Int))=false:=by simp;omega
   obtain rfl:k=xs.length:=by omega
   go_wp2
   go_end0
   exact ⟨rfl,by have:=HW.out;rwa [List.take_length] at this,HS.out⟩
theorem jd (B b:Nat) (l:List UInt8) (v:Value) (xs:List Int) (w:World) (h:Jj B b l w) (hv:qd w v xs) (hap:ZX B b v w) (hlen:l.length+xs.length*4≤140737488355328) (hBw:B≤w.heap.size) (hbw:b<w.heap.size) :
  Calls Tryz.prog 76 #[.pointer (some ⟨b,0,none⟩),v] w fun e w'=>e=.returned (.tuple #[])∧Jj B b (l++xs.flatMap zE) w'∧qY B b w w' :=
 Xf B b l v xs w h hv (.inr hap) hlen hBw hbw
end Go.Proofs.YtanebhbfekcplaaGreat

namespace Go.Proofs.YtanebhbfekcplaaGreat
set_option linter.unusedVariables false
open Go.RowKit
def Qj (n:zw):List Int:=[n.black 0,n.black 1,n.black 2,n.black 3]
def Qb (n:zw):List Int:=[n.gains 0,n.gains 1,n.gains 2]
def q2d (n:zw):List Int:=[n.matrix 0,n.matrix 1,n.matrix 2,n.matrix 3,n.matrix 4,n.matrix 5,n.matrix 6,n.matrix 7,n.matrix 8]
def K9 (n:zw):List UInt8 :=
 zE n.phase++((Qj n).flatMap zE++(zE n.white++(YM zP n.spots++((Qb n).flatMap zE++((q2d n).flatMap zE++(YM zP n.curve++zE n.amount))))))
theorem q1q {w:World} {b:Nat} {t:TypeId} {fr:Nat×Nat} {n:zw} {sv cv:Value} (h:w.heap[b]?=some (.cells (qZ n sv cv) t fr)):qd w (.slice (some ⟨b,1,none⟩) 4 4) (Qj n):=by
 refine ⟨_,_,rfl,by simp[Qj],.inr ⟨b,1,rfl,(Array.getElem?_eq_some_iff.1 h).1,fun j hj=>?_⟩⟩
 rw[Lib.cell_of_heap h]
 rcases (show j=0∨j=1∨j=2∨j=3 by have:j<4:=hj;omega) with rfl|rfl|rfl|rfl<;>rfl
theorem q1g {w:World} {b:Nat} {t:TypeId} {fr:Nat×Nat} {n:zw} {sv cv:Value} (h:w.heap[b]?=some (.cells (qZ n sv cv) t fr)):qd w (.slice (some ⟨b,7,none⟩) 3 3) (Qb n):=by
 refine ⟨_,_,rfl,by simp[Qb],.inr ⟨b,7,rfl,(Array.getElem?_eq_some_iff.1 h).1,fun j hj=>?_⟩⟩
 rw[Lib.cell_of_heap h]
 rcases (show j=0∨j=1∨j=2 by have:j<3:=hj;omega) with rfl|rfl|rfl<;>rfl
theorem q3N {w:World} {b:Nat} {t:TypeId} {fr:Nat×Nat} {n:zw} {sv cv:Value} (h:w.heap[b]?=some (.cells (qZ n sv cv) t fr)):qd w (.slice (some ⟨b,10,none⟩) 9 9) (q2d n):=by
 refine ⟨_,_,rfl,by simp[q2d],.inr ⟨b,10,rfl,(Array.getElem?_eq_some_iff.1 h).1,fun j hj=>?_⟩⟩
 rw[Lib.cell_of_heap h]
 rcases (show j=0∨j=1∨j=2∨j=3∨j=4∨j=5∨j=6∨j=7∨j=8 by have:j<9:=hj;omega) with rfl|rfl|rfl|rfl|rfl|rfl|rfl|rfl|rfl<;>rfl
theorem YF {B b:Nat} {w:World} {c g off ca:Nat} {t:TypeId} {cs:Array Value} {fr:Nat×Nat} (hg:w.heap[g]?=some (.cells cs t fr)) (hb:g≠b) (ht:t≠5):ZX B b (.slice (some ⟨g,off,none⟩) c ca) w:=by
 intro k hk _
 simp only[Value.ownBlock,Option.some.injEq] at hk
 subst hk
 exact .inr ⟨hb,JN hg ht⟩
theorem qX.step {B b:Nat} {u:Value} {ls:List Pt} {w w':World} (h:qX w u ls) (hs:qY B b w w') (ha:ZX B b u w):qX w' u ls:=by
 obtain ⟨ao,cap,rfl,hl,h⟩:=h
 refine ⟨ao,cap,rfl,hl,?_⟩
 rcases h with h|⟨c,off,rfl,hlt,hc⟩
 ·exact .inl h
 ·have e:=hs.block hlt (ha c rfl hlt)
  refine .inr ⟨c,off,rfl,Nat.lt_of_lt_of_le hlt hs.bel.size,fun j hj=>?_⟩
  rw[World.cell?_of_block (a:=⟨c,off+j*2,none⟩) e,World.cell?_of_block (a:=⟨c,off+j*2+1,none⟩) e]
  exact hc j hj
theorem zF (ls:List Pt):(ls.flatMap zP).length=ls.length*8:=by
 induction ls with
 | nil=>rfl
 | cons x xs ih=>rw[List.flatMap_cons,List.length_append,ih,List.length_cons,zP,List.length_append,zu,zu];omega
theorem XA (ls:List Pt) (k:Nat) (hk:k<ls.length):(ls.take (k+1)).flatMap zP=(ls.take k).flatMap zP++zP (qk ls k):=by
 rw[List.take_succ_eq_append_getElem hk,List.flatMap_append,Q5];simp
set_option maxHeartbeats 800000 in
set_option maxRecDepth 100000 in
theorem YW (B b:Nat) (l m:List UInt8) (w:World) (h:Jj B b l w) (hlen:l.length+m.length+4≤140737488355328) (hBw:B≤w.heap.size) (hbw:b<w.heap.size) :
  Calls Tryz.prog 75 #[.pointer (some ⟨b,0,none⟩),.string (str m)] w fun e w'=>e=.returned (.tuple #[])∧Jj B b (l++zI m) w'∧qY B b w w':=by
 have hsm:(str m).size=m.length:=qu m
 have HW:=q7 (h.alloc (Obj.cells #[.int .i64 m.length] 3))
 have HS:=q7 (qY.alloc (b:=b) hBw (Obj.cells #[.int .i64 m.length] 3))
 have hg:=al1 w (Obj.cells #[.int .i64 m.length] 3)
 have HI:=q7 (zo w m.length)
 have HA:=q7 (Zu (B:=B) (b:=b) (c:=1) (ca:=1) (xs:=[]) hg (by omega) (by decide))
 have hsz:B≤(w.alloc (Obj.cells #[.int .i64 m.length] 3)).heap.size:=Nat.le_trans hBw HS.out.bel.size
 have hsb:b<(w.alloc (Obj.cells #[.int .i64 m.length] 3)).heap.size:=Nat.lt_of_lt_of_le hbw HS.out.bel.size
 clear h hg
 go_enter Tryz.func75,Tryz.ntmps75
 go_wp2_with fail
 refine (jd B b l _ [(m.length:Int)] _ HW.out HI.out HA.out (by simp;omega) hsz hsb).mono ?_
 rintro e w1 ⟨rfl,hW1,hS1⟩
 have HW1:=q7 hW1
 have HS1:=q7 (HS.out.trans hS1)
 clear hW1 hS1 HW HI HA HS
 go_wp2_with fail
 refine (q3z B b _ m _ HW1.out (by rw[List.length_append,qL];simp;omega) (Nat.le_trans hBw HS1.out.bel.size)).mono ?_
 rintro e w2 ⟨rfl,hW2,hS2⟩
 have HW2:=q7 (show Jj B b (l++zI m) w2 by have:=hW2;simpa [zI,List.append_assoc] using this)
 have HS2:=q7 (HS1.out.trans hS2)
 go_wp2
 go_end0
 exact ⟨rfl,HW2.out,HS2.out⟩
set_option maxHeartbeats 6400000 in
set_option maxRecDepth 100000 in
theorem q27 (B b:Nat) (l:List UInt8) (n:zw) (sv cv:Value) (w:World) (h:Jj B b l w) (hp:jY w n sv cv) (hs:n.spots=[]∨ZX B b sv w) (hc:n.curve=[]∨ZX B b cv w) (hl:l.length≤1099511627776) (h1:n.spots.length≤1048576) (h2:n.curve.length≤1048576) (hBw:B≤w.heap.size) (hbw:b<w.heap.size) :
  Calls Tryz.prog 77 #[.pointer (some ⟨b,0,none⟩),.agg (qZ n sv cv)] w fun e w'=>e=.returned (.tuple #[])∧Jj B b (l++K9 n) w'∧qY B b w w':=by
 have HP:=q7 hp
 have HAS:=q7 hs
 have HAC:=q7 hc
 obtain ⟨⟨lo,lc,rfl,hll,_⟩,⟨ko,kc,rfl,hkl,_⟩⟩:=hp
 have a1:=al1 w (Obj.cells (qZ n (.slice lo n.spots.length lc) (.slice ko n.curve.length kc)) 30)
 have hkb:w.heap.size≠b:=by omega
 have HS0:=q7 (qY.alloc (b:=b) hBw (Obj.cells (qZ n (.slice lo n.spots.length lc) (.slice ko n.curve.length kc)) 30))
 have HW0:=q7 (h.alloc (Obj.cells (qZ n (.slice lo n.spots.length lc) (.slice ko n.curve.length kc)) 30))
 have HNB:=q7 (JN a1 (by decide))
 have hlt:=(Array.getElem?_eq_some_iff.1 a1).1
 clear h hs hc
 go_enter Tryz.func77,Tryz.ntmps77
 obtain ⟨c0,c1,c2,c3,c4,c5,c6,c7,c8,c9,c10,c11,c12,c13,c14,c15,c16,c17,c18,c19,c20⟩:=qN a1
 go_wp2_with fail
 clear c0 c1 c2 c3 c4 c5 c6 c7 c8 c9 c10 c11 c12 c13 c14 c15 c16 c17 c18 c19 c20
 have hB0:=HS0.out.bel.size
 have hB0:B≤(w.alloc (Obj.cells (qZ n (.slice lo n.spots.length lc) (.slice ko n.curve.length kc)) 30)).heap.size:=Nat.le_trans hBw HS0.out.bel.size
 have hb0:b<(w.alloc (Obj.cells (qZ n (.slice lo n.spots.length lc) (.slice ko n.curve.length kc)) 30)).heap.size:=Nat.lt_of_lt_of_le hbw HS0.out.bel.size
 have HSZ:=q7 (show (w.alloc (Obj.cells (qZ n (.slice lo n.spots.length lc) (.slice ko n.curve.length kc)) 30)).heap.size=w.heap.size+1 from World.size_alloc _ _)
 generalize w.alloc (Obj.cells (qZ n (.slice lo n.spots.length lc) (.slice ko n.curve.length kc)) 30)=U at *
 have HBK:=q7 (show ∀V,qY B b U V→V.heap[w.heap.size]?=some (.cells (qZ n (.slice lo n.spots.length lc) (.slice ko n.curve.length kc)) 30 (0,0)) from fun V hV=>(hV.block hlt (.inr ⟨hkb,HNB.out⟩)).trans a1)
 have HST:=q7 (qY.refl B b U)
 have HW:=HW0
 have HL:=q7 hl
 clear a1 HW0 hl
 have hBV:B≤U.heap.size:=Nat.le_trans hB0 HST.out.bel.size
 have hbV:b<U.heap.size:=Nat.lt_of_lt_of_le hb0 HST.out.bel.size
 have HG:=q7 (qY.alloc (b:=b) hBV (Obj.cells #[.int .i64 n.phase] 3))
 have HWA:=q7 (HW.out.alloc (Obj.cells #[.int .i64 n.phase] 3))
 have HIA:=q7 (zo U n.phase)
 have hga:=al1 U (Obj.cells #[.int .i64 n.phase] 3)
 have HAA:=q7 (Zu (B:=B) (b:=b) (c:=1) (ca:=1) (xs:=[]) hga (by omega) (by decide))
 have HLA:=q7 (show l.length+[(n.phase:Int)].length*4≤140737488355328 by have:=HL.out;simp;omega)
 have hBA:=Nat.le_trans hBV HG.out.bel.size
 have hbA:=Nat.lt_of_lt_of_le hbV HG.out.bel.size
 clear hga
 rw[HSZ.out] at HIA HAA
 generalize U.alloc (Obj.cells #[.int .i64 n.phase] 3)=VA at *
 refine (jd B b l _ [(n.phase:Int)] _ HWA.out HIA.out HAA.out HLA.out hBA hbA).mono ?_
 rintro e V1 ⟨rfl,hW',hS'⟩
 replace HST:=q7 (HST.out.trans (HG.out.trans hS'))
 obtain ⟨L1,HQ1⟩:∃L1,Hid (l++[(n.phase:Int)].flatMap zE=L1):=⟨_,rfl⟩
 rw[HQ1.out] at hW'
 replace HW:=q7 hW'
 replace HL:=q7 (show L1.length≤1099511627776+4 by rw[←HQ1.out,List.length_append,qL];have:=HL.out;simp;omega)
 clear hW' hS' HG hBV hbV HWA HIA HAA HLA hBA hbA
 obtain ⟨c0,c1,c2,c3,c4,c5,c6,c7,c8,c9,c10,c11,c12,c13,c14,c15,c16,c17,c18,c19,c20⟩:=qN (HBK.out V1 HST.out)
 go_wp2_with fail
 clear c0 c1 c2 c3 c4 c5 c6 c7 c8 c9 c10 c11 c12 c13 c14 c15 c16 c17 c18 c19 c20
 have hBV:B≤V1.heap.size:=Nat.le_trans hB0 HST.out.bel.size
 have hbV:b<V1.heap.size:=Nat.lt_of_lt_of_le hb0 HST.out.bel.size
 refine (jd B b L1 _ (Qj n) _ HW.out (q1q (HBK.out _ HST.out)) (YF (HBK.out _ HST.out) hkb (by decide)) (by have:=HL.out;simp[Qj];omega) hBV hbV).mono ?_
 rintro e V2 ⟨rfl,hW',hS'⟩
 replace HST:=q7 (HST.out.trans hS')
 obtain ⟨L2,HQ2⟩:∃L2,Hid (L1++(Qj n).flatMap zE=L2):=⟨_,rfl⟩
 rw[HQ2.out] at hW'
 replace HW:=q7 hW'
 replace HL:=q7 (show L2.length≤1099511627776+20 by rw[←HQ2.out,List.length_append,qL];have:=HL.out;simp[Qj];omega)
 clear hW' hS' hBV hbV
 obtain ⟨c0,c1,c2,c3,c4,c5,c6,c7,c8,c9,c10,c11,c12,c13,c14,c15,c16,c17,c18,c19,c20⟩:=qN (HBK.out V2 HST.out)
 go_wp2_with fail
 clear c0 c1 c2 c3 c4 c5 c6 c7 c8 c9 c10 c11 c12 c13 c14 c15 c16 c17 c18 c19 c20
 have hBV:B≤V2.heap.size:=Nat.le_trans hB0 HST.out.bel.size
 have hbV:b<V2.heap.size:=Nat.lt_of_lt_of_le hb0 HST.out.bel.size
 have HG:=q7 (qY.alloc (b:=b) hBV (Obj.cells #[.int .i64 n.white] 3))
 have HWA:=q7 (HW.out.alloc (Obj.cells #[.int .i64 n.white] 3))
 have HIA:=q7 (zo V2 n.white)
 have hga:=al1 V2 (Obj.cells #[.int .i64 n.white] 3)
 have HAA:=q7 (Zu (B:=B) (b:=b) (c:=1) (ca:=1) (xs:=[]) hga (by omega) (by decide))
 have HLA:=q7 (show L2.length+[(n.white:Int)].length*4≤140737488355328 by have:=HL.out;simp;omega)
 have hBA:=Nat.le_trans hBV HG.out.bel.size
 have hbA:=Nat.lt_of_lt_of_le hbV HG.out.bel.size
 clear hga
 generalize V2.alloc (Obj.cells #[.int .i64 n.white] 3)=VA at *
 refine (jd B b L2 _ [(n.white:Int)] _ HWA.out HIA.out HAA.out HLA.out hBA hbA).mono ?_
 rintro e V3 ⟨rfl,hW',hS'⟩
 replace HST:=q7 (HST.out.trans (HG.out.trans hS'))
 obtain ⟨L3,HQ3⟩:∃L3,Hid (L2++[(n.white:Int)].flatMap zE=L3):=⟨_,rfl⟩
 rw[HQ3.out] at hW'
 replace HW:=q7 hW'
 replace HL:=q7 (show L3.length≤1099511627776+24 by rw[←HQ3.out,List.length_append,qL];have:=HL.out;simp;omega)
 clear hW' hS' HG hBV hbV HWA HIA HAA HLA hBA hbA
 obtain ⟨c0,c1,c2,c3,c4,c5,c6,c7,c8,c9,c10,c11,c12,c13,c14,c15,c16,c17,c18,c19,c20⟩:=qN (HBK.out V3 HST.out)
 go_wp2_with fail
 clear c0 c1 c2 c3 c4 c5 c6 c7 c8 c9 c10 c11 c12 c13 c14 c15 c16 c17 c18 c19 c20
 have hBV:B≤V3.heap.size:=Nat.le_trans hB0 HST.out.bel.size
 have hbV:b<V3.heap.size:=Nat.lt_of_lt_of_le hb0 HST.out.bel.size
 have HG:=q7 (qY.alloc (b:=b) hBV (Obj.cells #[.int .i64 n.spots.length] 3))
 have HWA:=q7 (HW.out.alloc (Obj.cells #[.int .i64 n.spots.length] 3))
 have HIA:=q7 (zo V3 n.spots.length)
 have hga:=al1 V3 (Obj.cells #[.int .i64 n.spots.length] 3)
 have HAA:=q7 (Zu (B:=B) (b:=b) (c:=1) (ca:=1) (xs:=[]) hga (by omega) (by decide))
 have HLA:=q7 (show L3.length+[(n.spots.length:Int)].length*4≤140737488355328 by have:=HL.out;simp;omega)
 have hBA:=Nat.le_trans hBV HG.out.bel.size
 have hbA:=Nat.lt_of_lt_of_le hbV HG.out.bel.size
 clear hga
 generalize V3.alloc (Obj.cells #[.int .i64 n.spots.length] 3)=VA at *
 refine (jd B b L3 _ [(n.spots.length:Int)] _ HWA.out HIA.out HAA.out HLA.out hBA hbA).mono ?_
 rintro e V4 ⟨rfl,hW',hS'⟩
 replace HST:=q7 (HST.out.trans (HG.out.trans hS'))
 obtain ⟨L4,HQ4⟩:∃L4,Hid (L3++[(n.spots.length:Int)].flatMap zE=L4):=⟨_,rfl⟩
 rw[HQ4.out] at hW'
 replace HW:=q7 hW'
 replace HL:=q7 (show L4.length≤1099511627776+28 by rw[←HQ4.out,List.length_append,qL];have:=HL.out;simp;omega)
 clear hW' hS' HG hBV hbV HWA HIA HAA HLA hBA hbA
 obtain ⟨c0,c1,c2,c3,c4,c5,c6,c7,c8,c9,c10,c11,c12,c13,c14,c15,c16,c17,c18,c19,c20⟩:=qN (HBK.out V4 HST.out)
 go_wp2_with fail
 clear c0 c1 c2 c3 c4 c5 c6 c7 c8 c9 c10 c11 c12 c13 c14 c15 c16 c17 c18 c19 c20
 go_loopw [31] (fun i wr=>∃k:Nat,k≤n.spots.length∧i=.int .i64 k∧Jj B b (L4++(n.spots.take k).flatMap zP) wr∧qY B b U wr) (fun i _=>n.spots.length-(intOf i).toNat)
 case atStart=>exact ⟨0,Nat.zero_le _,rfl,by simpa using HW.out,HST.out⟩
 case round =>
  obtain ⟨k,hk,rfl,hW,hS⟩:=hrel
  have HLL:=HL
  clear HST HW
  have HST:=q7 hS
  have HW:=q7 hW
  clear hW hS
  by_cases hlt:k<n.spots.length
  ·have hd:decide ((k:Int)<(n.spots.length:Int))=true:=by simp;omega
   obtain ⟨bq,oq,rfl,hbq,d0,d1⟩:=(HP.out.spots.step (HS0.out.trans HST.out) (HAS.out.resolve_left (fun e=>by rw[e] at hlt;simp at hlt))).at k hlt
   obtain ⟨⟨x,y⟩,hxy⟩:∃t,qk n.spots k=t:=⟨_,rfl⟩
   rw[hxy] at d0 d1
   have g1:=al1 wr (Obj.cells #[.int .i64 x,.int .i64 y] 77)
   obtain ⟨e0,e1⟩:=bx2 g1
   have hBV:B≤wr.heap.size:=Nat.le_trans hB0 HST.out.bel.size
   have hbV:b<wr.heap.size:=Nat.lt_of_lt_of_le hb0 HST.out.bel.size
   have HG:=q7 (qY.alloc (b:=b) hBV (Obj.cells #[.int .i64 x,.int .i64 y] 77))
   have HWA:=q7 (HW.out.alloc (Obj.cells #[.int .i64 x,.int .i64 y] 77))
   go_wp2_with fail
   clear d0 d1 e0 e1 g1
   have hBX:B≤(wr.alloc (Obj.cells #[.int .i64 x,.int .i64 y] 77)).heap.size:=Nat.le_trans hBV HG.out.bel.size
   have hbX:b<(wr.alloc (Obj.cells #[.int .i64 x,.int .i64 y] 77)).heap.size:=Nat.lt_of_lt_of_le hbV HG.out.bel.size
   have HI:=q7 (q1P (wr.alloc (Obj.cells #[.int .i64 x,.int .i64 y] 77)) x y)
   have HK:=q7 (Zu (B:=B) (b:=b) (c:=2) (ca:=2) (xs:=[]) (al1 (wr.alloc (Obj.cells #[.int .i64 x,.int .i64 y] 77)) (Obj.cells #[.int .i64 x,.int .i64 y] 3)) (by omega) (by decide))
   rw[World.size_alloc] at HI HK
   generalize wr.alloc (Obj.cells #[.int .i64 x,.int .i64 y] 77)=X at *
   have HG2:=q7 (qY.alloc (b:=b) hBX (Obj.cells #[.int .i64 x,.int .i64 y] 3))
   refine (jd B b _ _ [x,y] _ (HWA.out.alloc (Obj.cells #[.int .i64 x,.int .i64 y] 3)) HI.out HK.out (by have:=HLL.out;rw[List.length_append,zF,List.length_take];simp;omega) (Nat.le_trans hBX HG2.out.bel.size) (Nat.lt_of_lt_of_le hbX HG2.out.bel.size)).mono ?_
   rintro e X2 ⟨rfl,hW',hS'⟩
   have HST2:=q7 (HST.out.trans (HG.out.trans (HG2.out.trans hS')))
   have HW2:=q7 (show Jj B b (L4++(n.spots.take (k+1)).flatMap zP) X2 by rw[XA _ k hlt,hxy,←List.append_assoc];exact hW')
   clear hW' hS' HG HG2 HWA HI HK hBV hbV hBX hbX
   go_wp2
   go_roundw
   case rel=>exact ⟨k+1,hlt,by go_num,HW2.out,HST2.out⟩
   case measure=>simp[intOf];omega
  ·have hd:decide ((k:Int)<(n.spots.length:Int))=false:=by simp;omega
   obtain rfl:k=n.spots.length:=by omega
   rw[List.take_length] at HW
   obtain ⟨L5,HQ5⟩:∃L5,Hid (L4++n.spots.flatMap zP=L5):=⟨_,rfl⟩
   rw[HQ5.out] at HW
   clear HL
   have HL:=q7 (show L5.length≤1099511627776+8388636 by rw[←HQ5.out,List.length_append,zF];have:=HLL.out;omega)
   clear HLL
   generalize wr=VS at *
   obtain ⟨c0,c1,c2,c3,c4,c5,c6,c7,c8,c9,c10,c11,c12,c13,c14,c15,c16,c17,c18,c19,c20⟩:=qN (HBK.out VS HST.out)
   go_wp2_with fail
   clear c0 c1 c2 c3 c4 c5 c6 c7 c8 c9 c10 c11 c12 c13 c14 c15 c16 c17 c18 c19 c20
   have hBV:B≤VS.heap.size:=Nat.le_trans hB0 HST.out.bel.size
   have hbV:b<VS.heap.size:=Nat.lt_of_lt_of_le hb0 HST.out.bel.size
   refine (jd B b L5 _ (Qb n) _ HW.out (q1g (HBK.out _ HST.out)) (YF (HBK.out _ HST.out) hkb (by decide)) (by have:=HL.out;simp[Qb];omega) hBV hbV).mono ?_
   rintro e V6 ⟨rfl,hW',hS'⟩
   replace HST:=q7 (HST.out.trans hS')
   obtain ⟨L6,HQ6⟩:∃L6,Hid (L5++(Qb n).flatMap zE=L6):=⟨_,rfl⟩
   rw[HQ6.out] at hW'
   replace HW:=q7 hW'
   replace HL:=q7 (show L6.length≤1099511627776+8388648 by rw[←HQ6.out,List.length_append,qL];have:=HL.out;simp[Qb];omega)
   clear hW' hS' hBV hbV
   obtain ⟨c0,c1,c2,c3,c4,c5,c6,c7,c8,c9,c10,c11,c12,c13,c14,c15,c16,c17,c18,c19,c20⟩:=qN (HBK.out V6 HST.out)
   go_wp2_with fail
   clear c0 c1 c2 c3 c4 c5 c6 c7 c8 c9 c10 c11 c12 c13 c14 c15 c16 c17 c18 c19 c20
   have hBV:B≤V6.heap.size:=Nat.le_trans hB0 HST.out.bel.size
   have hbV:b<V6.heap.size:=Nat.lt_of_lt_of_le hb0 HST.out.bel.size
   refine (jd B b L6 _ (q2d n) _ HW.out (q3N (HBK.out _ HST.out)) (YF (HBK.out _ HST.out) hkb (by decide)) (by have:=HL.out;simp[q2d];omega) hBV hbV).mono ?_
   rintro e V7 ⟨rfl,hW',hS'⟩
   replace HST:=q7 (HST.out.trans hS')
   obtain ⟨L7,HQ7⟩:∃L7,Hid (L6++(q2d n).flatMap zE=L7):=⟨_,rfl⟩
   rw[HQ7.out] at hW'
   replace HW:=q7 hW'
   replace HL:=q7 (show L7.length≤1099511627776+8388684 by rw[←HQ7.out,List.length_append,qL];have:=HL.out;simp[q2d];omega)
   clear hW' hS' hBV hbV
   obtain ⟨c0,c1,c2,c3,c4,c5,c6,c7,c8,c9,c10,c11,c12,c13,c14,c15,c16,c17,c18,c19,c20⟩:=qN (HBK.out V7 HST.out)
   go_wp2_with fail
   clear c0 c1 c2 c3 c4 c5 c6 c7 c8 c9 c10 c11 c12 c13 c14 c15 c16 c17 c18 c19 c20
   have hBV:B≤V7.heap.size:=Nat.le_trans hB0 HST.out.bel.size
   have hbV:b<V7.heap.size:=Nat.lt_of_lt_of_le hb0 HST.out.bel.size
   have HG:=q7 (qY.alloc (b:=b) hBV (Obj.cells #[.int .i64 n.curve.length] 3))
   have HWA:=q7 (HW.out.alloc (Obj.cells #[.int .i64 n.curve.length] 3))
   have HIA:=q7 (zo V7 n.curve.length)
   have hga:=al1 V7 (Obj.cells #[.int .i64 n.curve.length] 3)
   have HAA:=q7 (Zu (B:=B) (b:=b) (c:=1) (ca:=1) (xs:=[]) hga (by omega) (by decide))
   have HLA:=q7 (show L7.length+[(n.curve.length:Int)].length*4≤140737488355328 by have:=HL.out;simp;omega)
   have hBA:=Nat.le_trans hBV HG.out.bel.size
   have hbA:=Nat.lt_of_lt_of_le hbV HG.out.bel.size
   clear hga
   generalize V7.alloc (Obj.cells #[.int .i64 n.curve.length] 3)=VA at *
   refine (jd B b L7 _ [(n.curve.length:Int)] _ HWA.out HIA.out HAA.out HLA.out hBA hbA).mono ?_
   rintro e V8 ⟨rfl,hW',hS'⟩
   replace HST:=q7 (HST.out.trans (HG.out.trans hS'))
   obtain ⟨L8,HQ8⟩:∃L8,Hid (L7++[(n.curve.length:Int)].flatMap zE=L8):=⟨_,rfl⟩
   rw[HQ8.out] at hW'
   replace HW:=q7 hW'
   replace HL:=q7 (show L8.length≤1099511627776+8388688 by rw[←HQ8.out,List.length_append,qL];have:=HL.out;simp;omega)
   clear hW' hS' HG hBV hbV HWA HIA HAA HLA hBA hbA
   obtain ⟨c0,c1,c2,c3,c4,c5,c6,c7,c8,c9,c10,c11,c12,c13,c14,c15,c16,c17,c18,c19,c20⟩:=qN (HBK.out V8 HST.out)
   go_wp2_with fail
   clear c0 c1 c2 c3 c4 c5 c6 c7 c8 c9 c10 c11 c12 c13 c14 c15 c16 c17 c18 c19 c20
   go_loopw [60] (fun i wr=>∃k:Nat,k≤n.curve.length∧i=.int .i64 k∧Jj B b (L8++(n.curve.take k).flatMap zP) wr∧qY B b U wr) (fun i _=>n.curve.length-(intOf i).toNat)
   case atStart=>exact ⟨0,Nat.zero_le _,rfl,by simpa using HW.out,HST.out⟩
   case round =>
    obtain ⟨k,hk,rfl,hW,hS⟩:=hrel
    have HLL:=HL
    clear HST HW
    have HST:=q7 hS
    have HW:=q7 hW
    clear hW hS
    by_cases hlt:k<n.curve.length
    ·have hd:decide ((k:Int)<(n.curve.length:Int))=true:=by simp;omega
     obtain ⟨bq,oq,rfl,hbq,d0,d1⟩:=(HP.out.curve.step (HS0.out.trans HST.out) (HAC.out.resolve_left (fun e=>by rw[e] at hlt;simp at hlt))).at k hlt
     obtain ⟨⟨x,y⟩,hxy⟩:∃t,qk n.curve k=t:=⟨_,rfl⟩
     rw[hxy] at d0 d1
     have g1:=al1 wr (Obj.cells #[.int .i64 x,.int .i64 y] 78)
     obtain ⟨e0,e1⟩:=bx2 g1
     have hBV:B≤wr.heap.size:=Nat.le_trans hB0 HST.out.bel.size
     have hbV:b<wr.heap.size:=Nat.lt_of_lt_of_le hb0 HST.out.bel.size
     have HG:=q7 (qY.alloc (b:=b) hBV (Obj.cells #[.int .i64 x,.int .i64 y] 78))
     have HWA:=q7 (HW.out.alloc (Obj.cells #[.int .i64 x,.int .i64 y] 78))
     go_wp2_with fail
     clear d0 d1 e0 e1 g1
     have hBX:B≤(wr.alloc (Obj.cells #[.int .i64 x,.int .i64 y] 78)).heap.size:=Nat.le_trans hBV HG.out.bel.size
     have hbX:b<(wr.alloc (Obj.cells #[.int .i64 x,.int .i64 y] 78)).heap.size:=Nat.lt_of_lt_of_le hbV HG.out.bel.size
     have HI:=q7 (q1P (wr.alloc (Obj.cells #[.int .i64 x,.int .i64 y] 78)) x y)
     have HK:=q7 (Zu (B:=B) (b:=b) (c:=2) (ca:=2) (xs:=[]) (al1 (wr.alloc (Obj.cells #[.int .i64 x,.int .i64 y] 78)) (Obj.cells #[.int .i64 x,.int .i64 y] 3)) (by omega) (by decide))
     rw[World.size_alloc] at HI HK
     generalize wr.alloc (Obj.cells #[.int .i64 x,.int .i64 y] 78)=X at *
     have HG2:=q7 (qY.alloc (b:=b) hBX (Obj.cells #[.int .i64 x,.int .i64 y] 3))
     refine (jd B b _ _ [x,y] _ (HWA.out.alloc (Obj.cells #[.int .i64 x,.int .i64 y] 3)) HI.out HK.out (by have:=HLL.out;rw[List.length_append,zF,List.length_take];simp;omega) (Nat.le_trans hBX HG2.out.bel.size) (Nat.lt_of_lt_of_le hbX HG2.out.bel.size)).mono ?_
     rintro e X2 ⟨rfl,hW',hS'⟩
     have HST2:=q7 (HST.out.trans (HG.out.trans (HG2.out.trans hS')))
     have HW2:=q7 (show Jj B b (L8++(n.curve.take (k+1)).flatMap zP) X2 by rw[XA _ k hlt,hxy,←List.append_assoc];exact hW')
     clear hW' hS' HG HG2 HWA HI HK hBV hbV hBX hbX
     go_wp2
     go_roundw
     case rel=>exact ⟨k+1,hlt,by go_num,HW2.out,HST2.out⟩
     case measure=>simp[intOf];omega
    ·have hd:decide ((k:Int)<(n.curve.length:Int))=false:=by simp;omega
     obtain rfl:k=n.curve.length:=by omega
     rw[List.take_length] at HW
     obtain ⟨L9,HQ9⟩:∃L9,Hid (L8++n.curve.flatMap zP=L9):=⟨_,rfl⟩
     rw[HQ9.out] at HW
     clear HL
     have HL:=q7 (show L9.length≤1099511627776+16777296 by rw[←HQ9.out,List.length_append,zF];have:=HLL.out;omega)
     clear HLL
     generalize wr=VC at *
     obtain ⟨c0,c1,c2,c3,c4,c5,c6,c7,c8,c9,c10,c11,c12,c13,c14,c15,c16,c17,c18,c19,c20⟩:=qN (HBK.out VC HST.out)
     go_wp2_with fail
     clear c0 c1 c2 c3 c4 c5 c6 c7 c8 c9 c10 c11 c12 c13 c14 c15 c16 c17 c18 c19 c20
     have hBV:B≤VC.heap.size:=Nat.le_trans hB0 HST.out.bel.size
     have hbV:b<VC.heap.size:=Nat.lt_of_lt_of_le hb0 HST.out.bel.size
     have HG:=q7 (qY.alloc (b:=b) hBV (Obj.cells #[.int .i64 n.amount] 3))
     have HWA:=q7 (HW.out.alloc (Obj.cells #[.int .i64 n.amount] 3))
     have HIA:=q7 (zo VC n.amount)
     have hga:=al1 VC (Obj.cells #[.int .i64 n.amount] 3)
     have HAA:=q7 (Zu (B:=B) (b:=b) (c:=1) (ca:=1) (xs:=[]) hga (by omega) (by decide))
     have HLA:=q7 (show L9.length+[(n.amount:Int)].length*4≤140737488355328 by have:=HL.out;simp;omega)
     have hBA:=Nat.le_trans hBV HG.out.bel.size
     have hbA:=Nat.lt_of_lt_of_le hbV HG.out.bel.size
     clear hga
     generalize VC.alloc (Obj.cells #[.int .i64 n.amount] 3)=VA at *
     refine (jd B b L9 _ [(n.amount:Int)] _ HWA.out HIA.out HAA.out HLA.out hBA hbA).mono ?_
     rintro e V10 ⟨rfl,hW',hS'⟩
     replace HST:=q7 (HST.out.trans (HG.out.trans hS'))
     obtain ⟨L10,HQ10⟩:∃L10,Hid (L9++[(n.amount:Int)].flatMap zE=L10):=⟨_,rfl⟩
     rw[HQ10.out] at hW'
     replace HW:=q7 hW'
     replace HL:=q7 (show L10.length≤1099511627776+16777300 by rw[←HQ10.out,List.length_append,qL];have:=HL.out;simp;omega)
     clear hW' hS' HG hBV hbV HWA HIA HAA HLA hBA hbA
     have HF:=q7 (show Jj B b (l++K9 n) V10 by
      have e:l++K9 n=L10:=by
       rw[←HQ10.out,←HQ9.out,←HQ8.out,←HQ7.out,←HQ6.out,←HQ5.out,←HQ4.out,←HQ3.out,←HQ2.out,←HQ1.out]
       simp[K9,YM,List.append_assoc]
      rw[e];exact HW.out)
     have HSF:=q7 (HS0.out.trans HST.out)
     go_wp2
     go_end0
     exact ⟨rfl,HF.out,HSF.out⟩
end Go.Proofs.YtanebhbfekcplaaGreat

namespace Go.Proofs.YtanebhbfekcplaaGreat
set_option linter.unusedVariables false
open Go.RowKit
theorem q3j {w:World} {base:Nat} {e:TypeId} {sz:Nat} {v:Value} {n:Nat} {xs:List Value} {k:Nat} (h:w.ownsRow base e sz v n xs) (hne:v.ownBlock≠some k) (x y z:Value):(((w.setCell ⟨k,0,none⟩ x).setCell ⟨k,1,none⟩ y).setCell ⟨k,2,none⟩ z).ownsRow base e sz v n xs:=by
 refine ⟨h.1,?_⟩
 rcases h.2 with h|⟨g,cap,cur,hv,hg,hh,r⟩
 ·exact .inl h
 ·refine .inr ⟨g,cap,cur,hv,hg,?_,r⟩
  rw[YL _ _ _ _ _ g (fun e=>hne (by rw[hv,e];rfl))]
  exact hh
theorem YA {s:List UInt8} {W H kind:Int} {xs:List Int} (h:qP s W H kind xs=0):(jO s W H kind xs).length=W.toNat*H.toNat∧1≤W∧1≤H:=by
 rw[jO,if_pos h]
 unfold qP at h
 split at h
 ·rename_i h0
  split at h
  ·split at h
   ·split at h
    ·rename_i h3
     obtain ⟨zs,hz⟩:=Option.isSome_iff_exists.1 h3
     rw[hz]
     have h1:=h0.1
     have h2:=h0.2
     simp only[qz,decide_eq_true_eq] at h1 h2
     refine ⟨?_,h1.1,h2.1⟩
     rw[Qs] at hz
     split at hz
     ·split at hz
      ·rename_i hq
       split at hz
       ·cases hz
        exact (q2t hq).1
       ·cases hz
      ·cases hz
     ·cases hz
    ·cases h
   ·rename_i hc;exact absurd h hc
  ·cases h
 ·cases h
theorem JU {r:qH} (h:zy r) {i:Nat} (hi:i<jG r) {s:List UInt8} (h0:stE r s (jj r i)=0):((stZ r s (jj r i)).length:Int)=jj r i*r.w:=by
 obtain ⟨h3,h4⟩:=h.size hi
 obtain ⟨h5,h6⟩:=h.row hi
 have hw:=h.w
 by_cases hk:r.kind=0
 ·obtain ⟨e1,e2⟩:=Jo hk s (jj r i)
  rw[e1] at h0
  rw[e2,Kx,if_pos (YK h0),jI]
  omega
 ·have hE:qP s r.w (jj r i) r.kind r.lens=0:=by
   rw[stE,if_neg hk] at h0
   split at h0
   ·assumption
   ·exact h0
  obtain ⟨e1,_,_⟩:=YA hE
  rw[stZ,if_pos h0,if_neg hk,e1]
  obtain ⟨A,hA⟩:=Int.eq_ofNat_of_zero_le (show 0≤r.w by omega)
  obtain ⟨B,hB⟩:=Int.eq_ofNat_of_zero_le (show 0≤jj r i by omega)
  rw[hA,hB,Int.toNat_natCast,Int.toNat_natCast,Int.natCast_mul,Int.mul_comm]
theorem q0n {r:qH} (h:zy r) (k:Nat) (hk:k≤jG r) (hs:q0g r k=true):(ZY r k).length≤k*4096:=by
 induction k with
 | zero=>simp[ZY]
 | succ k ih =>
  rw[Kp,Bool.and_eq_true] at hs
  have h1:=ih (by omega) hs.1
  have h2:=JU h (show k<jG r by omega) (of_decide_eq_true hs.2)
  have h3:=h.size (show k<jG r by omega)
  rw[YP,List.length_append]
  omega
def PlJ (w:World) (r:qH) (RA:Array Value) (QX k:Nat) (wr:World):Prop :=
 ∃(so:Option Addr) (cap:Nat),q0g r k=true∧wr.heap[QX]?=some (.cells #[.int .i64 r.w,.int .i64 r.h,.slice so (ZY r k).length cap] 34 (0,0))∧wr.ownsRow w.heap.size 3 1 (.slice so (ZY r k).length cap) (ZY r k).length ((ZY r k).map (Value.int .i64)) ∧
  wr.heap[w.heap.size]?=some (.cells RA 32 (0,0))∧wr.heap[w.heap.size+1]?=some (.cells #[.int .i64 0,.int .i64 0,.slice none 0 0] 34 (0,0))∧Below w.heap.size w wr
theorem PlJ.below {w:World} {r:qH} {RA:Array Value} {QX k:Nat} {wr V:World} (h:PlJ w r RA QX k wr) (hV:Below wr.heap.size wr V):PlJ w r RA QX k V:=by
 obtain ⟨so,cap,h1,h3,h4,h5,h6,h8⟩:=h
 exact ⟨so,cap,h1,(hV.block _ (Array.getElem?_eq_some_iff.1 h3).1).trans h3,qy h4 hV,(hV.block _ (Array.getElem?_eq_some_iff.1 h5).1).trans h5,(hV.block _ (Array.getElem?_eq_some_iff.1 h6).1).trans h6,h8.trans (hV.mono h8.size)⟩
set_option maxRecDepth 100000 in
set_option maxHeartbeats 3200000 in
theorem JZ (r:qH) (lv tv sv cv:Value) (w:World) (hr:jl w r lv tv sv cv) :
  Calls Tryz.prog 7 #[.agg (qs r lv tv sv cv)] w fun e w'=>∃v,e=.returned (.tuple #[.agg #[.int .i64 (ZJ r),.int .i64 (Zl r),v],.int .i64 (jb r)])∧qd w' v (Xo r)∧Below w.heap.size w w'∧qn w.heap.size v:=by
 have HR:=q7 hr
 have HCH:=q7 (fun (u:World) (hu:Below w.heap.size w u)=>Js r lv tv sv cv u (HR.out.lens.below hu (Nat.le_refl _)))
 have HCP:=q7 (fun (u:World) (hu:Below w.heap.size w u)=>ZW r lv tv sv cv u (HR.out.plan.below hu (Nat.le_refl _)))
 have HST:=q7 hr.strips
 obtain ⟨tp,tc,rfl,htl,_⟩:=hr.strips
 have HE:=q7 (show jb r=if jA r=0 then (if r.strips.length=jG r then (if Qv r=0 then (if q0g r r.strips.length=true then 0 else 1) else Qv r) else 2) else jA r from rfl)
 have HZ:=q7 (show Xo r=if jb r=0 then ZY r r.strips.length else [] from rfl)
 have HW:=q7 (show ZJ r=if jb r=0 then r.w else 0 from rfl)
 have HH:=q7 (show Zl r=if jb r=0 then r.h else 0 from rfl)
 generalize jb r=E at *
 generalize Xo r=Z at *
 generalize ZJ r=PW at *
 generalize Zl r=PH at *
 clear hr
 obtain ⟨a1,a2⟩:=al2 w (Obj.cells (qs r lv (.slice tp r.strips.length tc) sv cv) 32) (Obj.cells #[.int .i64 0,.int .i64 0,.slice none 0 0] 34)
 have HB:=q7 (be2 w (Obj.cells (qs r lv (.slice tp r.strips.length tc) sv cv) 32) (Obj.cells #[.int .i64 0,.int .i64 0,.slice none 0 0] 34))
 have hl1:=(Array.getElem?_eq_some_iff.1 a1).1
 have hl2:=(Array.getElem?_eq_some_iff.1 a2).1
 go_enter Tryz.func7,Tryz.ntmps7
 go_wp2_with (refine wpList_load_row rfl 32 _ rfl _ rfl _ _ _ _ a1 Tryz.underlying32 rfl (by kernel_rfl) ?_)
 generalize (w.alloc (Obj.cells (qs r lv (.slice tp r.strips.length tc) sv cv) 32)).alloc (Obj.cells #[.int .i64 0,.int .i64 0,.slice none 0 0] 34)=U at *
 have HSR0:=q7 (fun (k:Nat) (u:World) (h:zy r) (hk:k<jG r)=>Jk r lv (.slice tp r.strips.length tc) sv cv k u h hk)
 have HRS0:=q7 (fun (k:Nat) (u:World) (h:zy r) (hk:k<jG r) (hu:Below w.heap.size w u)=>Yc r lv (.slice tp r.strips.length tc) sv cv (Kw r k) (jj r k) u h (h.row hk) (HR.out.lens.below hu (Nat.le_refl _)))
 have HSC0:=q7 (fun (u:World) (h:zy r)=>QK r lv (.slice tp r.strips.length tc) sv cv u h)
 have HRC:=q7 (fun (v:World) (h:v.heap[w.heap.size]?=some (.cells (qs r lv (.slice tp r.strips.length tc) sv cv) 32 (0,0)))=>qv h)
 have hi28:(Tryz.prog.info? 32).map (·.size)=some ((qs r lv (.slice tp r.strips.length tc) sv cv):Array Value).size:=by kernel_rfl
 generalize (qs r lv (.slice tp r.strips.length tc) sv cv)=RQ at *
 have HZZ:=q7 (fun (V:World) (hb:Below U.heap.size U V)=>jJ ((hb.block _ hl2).trans a2))
 have HFZ:=q7 (fun (V:World) (hb:Below U.heap.size U V) (j:Nat)=>Lib.frozen_of_heap ((hb.block _ hl2).trans a2) j)
 have HBZ:=q7 (fun (V:World) (hb:Below U.heap.size U V)=>zq (q8 HB.out hb) (show w.heap.size≤w.heap.size+1 by omega) (.int .i64 0) (.int .i64 0) (.slice none 0 0))
 refine (HCH.out _ HB.out).mono ?_
 rintro e V1 ⟨rfl,hb1⟩
 by_cases hF:jA r=0
 ·rw[if_pos hF] at HE
  rw[hF]
  have hH:=zQ hF
  have HHD:=q7 hH
  have HSC:=q7 (fun (u:World)=>HSC0.out u hH)
  have HS:=q7 (show ∀v,Below U.heap.size U v→v.heap[w.heap.size]?=some (.cells RQ 32 (0,0))∧v.cell? ⟨w.heap.size,6,none⟩=some (.slice tp r.strips.length tc) from fun v h=>⟨(h.block _ hl1).trans a1,(HRC.out v ((h.block _ hl1).trans a1)).2.2.2.2.2.2.1⟩)
  clear hF HCH hH
  go_upto_region 4 with fail
  have hWd:Below U.heap.size U V1.drew:=hb1.drew
  have hSd:=HS.out _ hWd
  have hmx:Tryz.prog.follows .mixedOrders=true:=by kernel_rfl
  refine qK (S:=(fun v:World=>v.heap[w.heap.size]?=some (.cells RQ 32 (0,0))∧v.cell? ⟨w.heap.size,6,none⟩=some (.slice tp r.strips.length tc))) (f:=5) hmx ?_
  show j7 _ _ _ _ _ _ 6 _ _ V1.drew
  refine q9 (i:=0) (oi:=_) (v:=?vv1) (some 17) [2,1] rfl rfl (by kernel_rfl) (by kernel_rfl) (by kernel_rfl) (by kernel_rfl) (by kernel_rfl) (fun _ _ _ h=>h) (Or.inl ⟨by rfl,?yy1⟩) hSd ?rr1
  case yy1=>(intro wq hSq;obtain ⟨hq1,hq2⟩:=hSq;go_simp<;>with_reducible rfl)
  simp only[Act.put,List.setIfInBounds_toArray,List.set_cons_succ,List.set_cons_zero]
  refine q9 (i:=3) (oi:=_) (v:=.agg RQ) (some 20) [4] rfl rfl (by kernel_rfl) (by kernel_rfl) (by kernel_rfl) (by kernel_rfl) (by kernel_rfl) (fun _ _ _ h=>h) (Or.inl ⟨by rfl,?yy2⟩) hSd ?rr2
  case yy2=>(intro wq hSq;obtain ⟨hq1,hq2⟩:=hSq;exact zY 32 _ rfl _ rfl _ _ _ _ hq1 Tryz.underlying32 rfl hi28)
  simp only[Act.put,List.setIfInBounds_toArray,List.set_cons_succ,List.set_cons_zero]
  refine q9 (i:=1) (oi:=_) (v:=?vv3) (some 18) [2] rfl rfl (by kernel_rfl) (by kernel_rfl) (by kernel_rfl) (by kernel_rfl) (by kernel_rfl) (fun _ _ _ h=>h) (Or.inl ⟨by rfl,?yy3⟩) hSd ?rr3
  case yy3=>(intro wq hSq;obtain ⟨hq1,hq2⟩:=hSq;go_simp<;>with_reducible rfl)
  simp only[Act.put,List.setIfInBounds_toArray,List.set_cons_succ,List.set_cons_zero]
  refine q9 (i:=2) (oi:=_) (v:=?vv4) (some 19) [] rfl rfl (by kernel_rfl) (by kernel_rfl) (by kernel_rfl) (by kernel_rfl) (by kernel_rfl) (fun _ _ _ h=>h) (Or.inl ⟨by rfl,?yy4⟩) hSd ?rr4
  case yy4=>(intro wq hSq;obtain ⟨hq1,hq2⟩:=hSq;go_simp<;>with_reducible rfl)
  simp only[Act.put,List.setIfInBounds_toArray,List.set_cons_succ,List.set_cons_zero]
  refine qm (i:=4) (o:=_) (by kernel_rfl) rfl (fun K' hK=>?_)
  rw[if_pos (by rfl)]
  go_simp
  refine (HSC.out _).mono ?_
  rintro e V2 ⟨rfl,hb2⟩
  have hB2:Below U.heap.size U V2:=hWd.trans (hb2.mono hWd.size)
  have hSd:=HS.out _ hB2
  refine hK.out _ _ hSd ?_
  clear hK
  try simp only[Act.put]
  refine qV (o:=_) (by kernel_rfl) rfl (fun K' hK=>?_)
  rw[if_pos (by rfl)]
  go_simp
  refine hK.out _ _ ?_
  clear hK
  refine qU (by kernel_rfl) ?_ _
  try simp only[Act.put]
  clear hSd hWd hb2
  by_cases hN:r.strips.length=jG r
  ·rw[if_pos hN] at HE
   have hn:((r.strips.length:Int) != (jG r:Int))=false:=by simp[hN]
   have g1:=(hB2.block _ hl1).trans a1
   have hcl:=HHD.out.cnt_le
   have hsl:r.strips.length≤64:=by omega
   have HNC:=q7 hN
   clear hcl hN
   go_wp2_with (refine wpList_load_row rfl 32 _ rfl _ rfl _ _ _ _ g1 Tryz.underlying32 rfl hi28 ?_)
   clear hn g1
   refine (HCP.out _ (q8 HB.out hB2)).mono ?_
   rintro e V3 ⟨rfl,hb3⟩
   replace hb3:=q8 hB2 hb3
   by_cases hP:Qv r=0
   ·rw[if_pos hP] at HE
    rw[hP]
    clear HCP HSC hB2 hP
    have hW:=HHD.out.w
    have hHh:=HHD.out.h
    obtain ⟨i0,hi,hz0,hz1,hz2⟩:=info_parts Tryz.infoInt
    obtain ⟨M,hM⟩:∃M:Nat,r.w*r.h=M:=⟨(r.w*r.h).toNat,by have:=XT ⟨show 0≤r.w by omega,hW.2⟩ ⟨show 0≤r.h by omega,hHh.2⟩;omega⟩
    have hM4:M≤4096:=by have:=XT ⟨show 0≤r.w by omega,hW.2⟩ ⟨show 0≤r.h by omega,hHh.2⟩;omega
    have hmk:∀V:World,(Instr.makeSlice 22 (.int .i64 0) (.int .i64 M)).run Tryz.prog V=.ok (.slice (some ⟨V.heap.size,0,none⟩) 0 M) (V.alloc (.cells (madeCells #[.int .i64 0] M) 3)):=fun V=>by
     have h:=run_make (P:=Tryz.prog) V 22 3 i0 (.int .i64 0) Tryz.underlying22 hi hz0 .i64 .i64 0 M (Int.le_refl _) (by omega) (by rw[hz2];omega) (by omega)
     rw[hz1] at h
     simpa [Value.cells] using h
    have hwm:IntKind.i64.wrap (M:Int)=M:=IntWalk.i64_in _ (by omega)
    have HS9:=q7 (show ∀v,Below U.heap.size U v→v.cell? ⟨w.heap.size,0,none⟩=some (.int .i64 r.w)∧v.cell? ⟨w.heap.size,1,none⟩=some (.int .i64 r.h) from fun v h=>⟨(HRC.out v ((h.block _ hl1).trans a1)).1,(HRC.out v ((h.block _ hl1).trans a1)).2.1⟩)
    clear hW hHh
    go_upto_region 9 with fail
    have hs1:=hb3.size
    go_cut [6] from 11 (fun q v=>∃QX so cap,q=.pointer (some ⟨QX,0,none⟩)∧v.heap[QX]?=some (.cells #[.int .i64 r.w,.int .i64 r.h,.slice so 0 cap] 34 (0,0))∧v.ownsRow w.heap.size 3 1 (.slice so 0 cap) 0 []∧U.heap.size≤QX∧Below U.heap.size U v)
    case first =>
     have hWd:Below U.heap.size U V3.drew:=hb3.drew
     have hSd:=HS9.out _ hWd
     have hmx:Tryz.prog.follows .mixedOrders=true:=by kernel_rfl
     refine qK (S:=(fun v:World=>v.cell? ⟨w.heap.size,0,none⟩=some (.int .i64 r.w)∧v.cell? ⟨w.heap.size,1,none⟩=some (.int .i64 r.h))) (f:=12) hmx ?_
     show j7 _ _ _ _ _ _ 13 _ _ V3.drew
     refine q9 (i:=0) (oi:=_) (v:=?vv5) (some 30) [] rfl rfl (by kernel_rfl) (by kernel_rfl) (by kernel_rfl) (by kernel_rfl) (by kernel_rfl) (fun _ _ _ h=>h) (Or.inl ⟨by rfl,?yy5⟩) hSd ?rr5
     case yy5=>(intro wq hSq;obtain ⟨_,_⟩:=hSq;go_simp<;>with_reducible rfl)
     simp only[Act.put,List.setIfInBounds_toArray,List.set_cons_succ,List.set_cons_zero]
     refine q9 (i:=2) (oi:=_) (v:=?vv6) (some 32) [] rfl rfl (by kernel_rfl) (by kernel_rfl) (by kernel_rfl) (by kernel_rfl) (by kernel_rfl) (fun _ _ _ h=>h) (Or.inl ⟨by rfl,?yy6⟩) hSd ?rr6
     case yy6=>(intro wq hSq;obtain ⟨_,_⟩:=hSq;go_simp<;>with_reducible rfl)
     simp only[Act.put,List.setIfInBounds_toArray,List.set_cons_succ,List.set_cons_zero]
     refine q9 (i:=4) (oi:=_) (v:=?vv7) (some 34) [] rfl rfl (by kernel_rfl) (by kernel_rfl) (by kernel_rfl) (by kernel_rfl) (by kernel_rfl) (fun _ _ _ h=>h) (Or.inl ⟨by rfl,?yy7⟩) hSd ?rr7
     case yy7=>(intro wq hSq;obtain ⟨_,_⟩:=hSq;go_simp<;>with_reducible rfl)
     simp only[Act.put,List.setIfInBounds_toArray,List.set_cons_succ,List.set_cons_zero]
     refine q9 (i:=6) (oi:=_) (v:=?vv8) (some 36) [] rfl rfl (by kernel_rfl) (by kernel_rfl) (by kernel_rfl) (by kernel_rfl) (by kernel_rfl) (fun _ _ _ h=>h) (Or.inl ⟨by rfl,?yy8⟩) hSd ?rr8
     case yy8=>(intro wq hSq;obtain ⟨_,_⟩:=hSq;go_simp<;>with_reducible rfl)
     simp only[Act.put,List.setIfInBounds_toArray,List.set_cons_succ,List.set_cons_zero]
     refine q9 (i:=1) (oi:=_) (v:=?vv9) (some 31) [] rfl rfl (by kernel_rfl) (by kernel_rfl) (by kernel_rfl) (by kernel_rfl) (by kernel_rfl) (fun _ _ _ h=>h) (Or.inl ⟨by rfl,?yy9⟩) hSd ?rr9
     case yy9=>(intro wq hSq;obtain ⟨_,_⟩:=hSq;go_simp<;>with_reducible rfl)
     simp only[Act.put,List.setIfInBounds_toArray,List.set_cons_succ,List.set_cons_zero]
     refine q9 (i:=3) (oi:=_) (v:=?vv10) (some 33) [] rfl rfl (by kernel_rfl) (by kernel_rfl) (by kernel_rfl) (by kernel_rfl) (by kernel_rfl) (fun _ _ _ h=>h) (Or.inl ⟨by rfl,?yy10⟩) hSd ?rr10
     case yy10=>(intro wq hSq;obtain ⟨_,_⟩:=hSq;go_simp<;>with_reducible rfl)
     simp only[Act.put,List.setIfInBounds_toArray,List.set_cons_succ,List.set_cons_zero]
     refine q9 (i:=5) (oi:=_) (v:=?vv11) (some 35) [] rfl rfl (by kernel_rfl) (by kernel_rfl) (by kernel_rfl) (by kernel_rfl) (by kernel_rfl) (fun _ _ _ h=>h) (Or.inl ⟨by rfl,?yy11⟩) hSd ?rr11
     case yy11=>(intro wq hSq;obtain ⟨_,_⟩:=hSq;go_simp<;>with_reducible rfl)
     simp only[Act.put,List.setIfInBounds_toArray,List.set_cons_succ,List.set_cons_zero]
     refine q9 (i:=7) (oi:=_) (v:=?vv12) (some 37) [] rfl rfl (by kernel_rfl) (by kernel_rfl) (by kernel_rfl) (by kernel_rfl) (by kernel_rfl) (fun _ _ _ h=>h) (Or.inl ⟨by rfl,?yy12⟩) hSd ?rr12
     case yy12=>(intro wq hSq;obtain ⟨_,_⟩:=hSq;go_simp<;>with_reducible rfl)
     simp only[Act.put,List.setIfInBounds_toArray,List.set_cons_succ,List.set_cons_zero]
     refine q9 (i:=8) (oi:=_) (v:=.int .i64 M) (some 38) [] rfl rfl (by kernel_rfl) (by kernel_rfl) (by kernel_rfl) (by kernel_rfl) (by kernel_rfl) (fun _ _ _ h=>h) (Or.inl ⟨by rfl,?yy13⟩) hSd ?rr13
     case yy13=>(intro wq hSq;obtain ⟨_,_⟩:=hSq;first|(go_simp;done)|(go_simp;rw[hM];try (go_simp<;>with_reducible rfl)))
     simp only[Act.put,List.setIfInBounds_toArray,List.set_cons_succ,List.set_cons_zero]
     refine JC (i:=9) (j:=11) (oi:=_) (oj:=_) (by kernel_rfl) rfl rfl (fun K' hK=>?brA) (fun K' hK=>?brB)
     case brA =>
      rw[if_pos (by rfl)]
      go_simp
      have hB1:Below U.heap.size U (V3.alloc (Obj.cells (madeCells #[.int .i64 0] M) 3)).drew:=(hb3.alloc hb3.size _).drew
      have hSd:=HS9.out _ hB1
      refine hK.out _ _ hSd ?_
      clear hK
      try simp only[Act.put]
      refine q9 (i:=10) (oi:=_) (v:=?vv14) (some 40) [] rfl rfl (by kernel_rfl) (by kernel_rfl) (by kernel_rfl) (by kernel_rfl) (by kernel_rfl) (fun _ _ _ h=>h) (Or.inl ⟨by rfl,?yy14⟩) hSd ?rr14
      case yy14=>(intro wq hSq;obtain ⟨_,_⟩:=hSq;go_simp<;>with_reducible rfl)
      simp only[Act.put,List.setIfInBounds_toArray,List.set_cons_succ,List.set_cons_zero]
      refine qm (i:=11) (o:=_) (by kernel_rfl) rfl (fun K' hK=>?_)
      rw[if_pos (by rfl)]
      go_simp
      have hB2:Below U.heap.size U ((V3.alloc (Obj.cells (madeCells #[.int .i64 0] M) 3)).alloc (Obj.cells #[.int .i64 0,.int .i64 0,.slice none 0 0] 34)).drew:=((hb3.alloc hb3.size _).alloc (by simp;omega) _).drew
      have hSd:=HS9.out _ hB2
      refine hK.out _ _ hSd ?_
      clear hK
      try simp only[Act.put]
      refine qV (o:=_) (by kernel_rfl) rfl (fun K' hK=>?_)
      rw[if_pos (by rfl)]
      go_simp
      refine hK.out _ _ ?_
      clear hK
      refine qU (by kernel_rfl) ?_ _
      try simp only[Act.put]
      clear hSd
      go_wp2
      go_meet
      case rel=>exact ⟨V3.heap.size+1,some ⟨V3.heap.size,0,none⟩,M,rfl,(al2 V3 (Obj.cells (madeCells #[.int .i64 0] M) 3) (Obj.cells #[.int .i64 r.w,.int .i64 r.h,.slice (some ⟨V3.heap.size,0,none⟩) 0 M] 34)).2,(World.ownsRow_made (base:=w.heap.size) (e:=3) (size:=1) V3 (madeCells #[.int .i64 0] M) M (Nat.le_trans HB.out.size hs1) (by unfold maxLen;omega) (by simp[madeCells])).alloc _,by omega,((hb3.alloc hb3.size _).alloc (by simp;omega) _).drew⟩
     case brB =>
      rw[if_pos (by rfl)]
      go_simp
      have hBz:Below U.heap.size U (V3.alloc (Obj.cells #[.int .i64 0,.int .i64 0,.slice none 0 0] 34)).drew:=(hb3.alloc hb3.size _).drew
      have hSd:=HS9.out _ hBz
      refine hK.out _ _ hSd ?_
      clear hK
      try simp only[Act.put]
      have gz0:(V3.alloc (Obj.cells #[.int .i64 0,.int .i64 0,.slice none 0 0] 34)).drew.heap[V3.heap.size]?=_:=al1 V3 (Obj.cells #[.int .i64 0,.int .i64 0,.slice none 0 0] 34)
      have hlz:=(Array.getElem?_eq_some_iff.1 gz0).1
      generalize (V3.alloc (Obj.cells #[.int .i64 0,.int .i64 0,.slice none 0 0] 34)).drew=Vz at *
      have hq:U.heap.size≤V3.heap.size:=hs1
      generalize V3.heap.size=QX at *
      refine qm (i:=9) (o:=_) (by kernel_rfl) rfl (fun K' hK=>?_)
      rw[if_pos (by rfl)]
      go_simp
      have hB1:Below U.heap.size U (Vz.alloc (Obj.cells (madeCells #[.int .i64 0] M) 3)):=hBz.alloc hBz.size _
      have hSd:=HS9.out _ hB1
      refine hK.out _ _ hSd ?_
      clear hK
      try simp only[Act.put]
      refine q9 (i:=10) (oi:=_) (v:=?vv15) (some 40) [] rfl rfl (by kernel_rfl) (by kernel_rfl) (by kernel_rfl) (by kernel_rfl) (by kernel_rfl) (fun _ _ _ h=>h) (Or.inl ⟨by rfl,?yy15⟩) hSd ?rr15
      case yy15=>(intro wq hSq;obtain ⟨_,_⟩:=hSq;go_simp<;>with_reducible rfl)
      simp only[Act.put,List.setIfInBounds_toArray,List.set_cons_succ,List.set_cons_zero]
      have gz:=((qa Vz (Obj.cells (madeCells #[.int .i64 0] M) 3)).block QX hlz).trans gz0
      have ho:=World.ownsRow_made (base:=w.heap.size) (e:=3) (size:=1) Vz (madeCells #[.int .i64 0] M) M (Nat.le_trans HB.out.size hBz.size) (by unfold maxLen;omega) (by simp[madeCells])
      generalize Vz.alloc (Obj.cells (madeCells #[.int .i64 0] M) 3)=Vy at *
      generalize Vz.heap.size=MX at *
      obtain ⟨z0,z1,z2⟩:=jJ gz
      have f0:=Lib.frozen_of_heap gz 0
      have f1:=Lib.frozen_of_heap gz 1
      have f2:=Lib.frozen_of_heap gz 2
      obtain ⟨vS,_,_,_⟩:=Yv gz (.int .i64 r.w) (.int .i64 r.h) (.slice (some ⟨MX,0,none⟩) 0 M) w (Nat.le_trans HB.out.size hq) (HB.out.trans (hB1.mono HB.out.size))
      have hB4:=zq hB1 hq (.int .i64 r.w) (.int .i64 r.h) (.slice (some ⟨MX,0,none⟩) 0 M)
      have hne:(Value.slice (some ⟨MX,0,none⟩) 0 M).ownBlock≠some QX:=fun e=>J4 ho gz (by decide) e.symm
      have HO:=q7 (q3j ho hne (.int .i64 r.w) (.int .i64 r.h) (.slice (some ⟨MX,0,none⟩) 0 M))
      refine qV (o:=_) (by kernel_rfl) rfl (fun K' hK=>?_)
      rw[if_pos (by rfl)]
      go_simp
      refine hK.out _ _ ?_
      clear hK
      refine qU (by kernel_rfl) ?_ _
      try simp only[Act.put]
      clear hSd
      go_wp2
      go_meet
      case rel=>exact ⟨QX,some ⟨MX,0,none⟩,M,rfl,vS,HO.out,hq,hB4⟩
    case rest =>
     obtain ⟨QX,so0,cap0,rfl,vS0,vO0,hQX,vB0⟩:=hcut
     have HJ0:=q7 (show PlJ w r RQ QX 0 wc from ⟨so0,cap0,rfl,vS0,vO0,(vB0.block _ hl1).trans a1,(vB0.block _ hl2).trans a2,q8 HB.out vB0⟩)
     have hQw:w.heap.size+1<QX:=by omega
     obtain ⟨s0,s1,s2,s3,s4,s5,s6,s13,s26⟩:=HRC.out _ ((vB0.block _ hl1).trans a1)
     clear vS0 vO0 vB0 hs1 HS9 HS hmk hM hwm hM4 hb3
     have HUW:=q7 HB.out.size
     clear HZZ HFZ HBZ a1 a2 hl1 hl2 HB hQX
     go_wp2_with fail
     clear s0 s1 s2 s3 s4 s5 s6 s13 s26
     go_loopw [44] (fun i wr=>∃k:Nat,k≤r.strips.length∧i=.int .i64 k∧PlJ w r RQ QX k wr) (fun i _=>r.strips.length-(intOf i).toNat)
     case atStart=>exact ⟨0,Nat.zero_le _,rfl,HJ0.out⟩
     case round =>
      clear HJ0
      obtain ⟨k,hk,rfl,hJ⟩:=hrel
      have HJ:=q7 hJ
      obtain ⟨so,cap,j1,j3,j4,j5,j6,j8⟩:=hJ
      by_cases hlt:k<r.strips.length
      ·have hd:decide ((k:Int)<(r.strips.length:Int))=true:=by simp;omega
       obtain ⟨sb,soff,rfl,hsb,hsc0⟩:=(HST.out.below j8 (Nat.le_refl _)).at k hlt
       have hlc:k<jG r:=by have:=HNC.out;omega
       have HSR:=q7 (fun (u:World)=>HSR0.out k u HHD.out hlc)
       have HRS:=q7 (fun (u:World) (hu:Below w.heap.size w u)=>HRS0.out k u HHD.out hlc hu)
       have HEI:=q7 (HHD.out.stE hlc (Kw r k))
       have HLN:=q7 (fun h0=>JU HHD.out hlc (s:=Kw r k) h0)
       have HSZ:=q7 (HHD.out.size hlc)
       have hsc:wr.cell? ⟨sb,soff+k,none⟩=some (.string (str (Kw r k))):=hsc0
       clear hsc0
       have HZF:=q7 (fun hk0=>q1p (r:=r) hlt hk0)
       have HPL:=q7 (q0n HHD.out k (by omega) j1)
       have HSU:=q7 (YP r k)
       have HOK:=q7 (show stE r (Kw r k) (jj r k)=0→q0g r (k+1)=true from fun h0=>by rw[Kp,j1,h0];rfl)
       generalize Kw r k=SS at *
       generalize jj r k=RN at *
       have hl1:=(Array.getElem?_eq_some_iff.1 j5).1
       have HS:=q7 (show ∀v,Below wr.heap.size wr v→v.heap[w.heap.size]?=some (.cells RQ 32 (0,0))∧True from fun v h=>⟨(h.block _ hl1).trans j5,trivial⟩)
       clear j1 j3 j4 j5 j6 HSR0 HRS0
       go_upto_region 13 with fail
       have hWd:Below wr.heap.size wr wr.drew:=(Below.refl _ _).drew
       have hSd:=HS.out _ hWd
       have hmx:Tryz.prog.follows .mixedOrders=true:=by kernel_rfl
       refine qK (S:=(fun v:World=>v.heap[w.heap.size]?=some (.cells RQ 32 (0,0))∧True)) (f:=10) hmx ?_
       show j7 _ _ _ _ _ _ 11 _ _ wr.drew
       refine q9 (i:=0) (oi:=_) (v:=.agg RQ) (some 50) [] rfl rfl (by kernel_rfl) (by kernel_rfl) (by kernel_rfl) (by kernel_rfl) (by kernel_rfl) (fun _ _ _ h=>h) (Or.inl ⟨by rfl,?yy16⟩) hSd ?rr16
       case yy16=>(intro wq hSq;obtain ⟨hq1,hq2⟩:=hSq;exact zY 32 _ rfl _ rfl _ _ _ _ hq1 Tryz.underlying32 rfl hi28)
       simp only[Act.put,List.setIfInBounds_toArray,List.set_cons_succ,List.set_cons_zero]
       refine q9 (i:=1) (oi:=_) (v:=?vv17) (some 51) [] rfl rfl (by kernel_rfl) (by kernel_rfl) (by kernel_rfl) (by kernel_rfl) (by kernel_rfl) (fun _ _ _ h=>h) (Or.inl ⟨by rfl,?yy17⟩) hSd ?rr17
       case yy17=>(intro wq hSq;obtain ⟨hq1,hq2⟩:=hSq;go_simp<;>with_reducible rfl)
       simp only[Act.put,List.setIfInBounds_toArray,List.set_cons_succ,List.set_cons_zero]
       refine q9 (i:=2) (oi:=_) (v:=.agg RQ) (some 52) [] rfl rfl (by kernel_rfl) (by kernel_rfl) (by kernel_rfl) (by kernel_rfl) (by kernel_rfl) (fun _ _ _ h=>h) (Or.inl ⟨by rfl,?yy18⟩) hSd ?rr18
       case yy18=>(intro wq hSq;obtain ⟨hq1,hq2⟩:=hSq;exact zY 32 _ rfl _ rfl _ _ _ _ hq1 Tryz.underlying32 rfl hi28)
       simp only[Act.put,List.setIfInBounds_toArray,List.set_cons_succ,List.set_cons_zero]
       refine q9 (i:=3) (oi:=_) (v:=?vv19) (some 53) [] rfl rfl (by kernel_rfl) (by kernel_rfl) (by kernel_rfl) (by kernel_rfl) (by kernel_rfl) (fun _ _ _ h=>h) (Or.inl ⟨by rfl,?yy19⟩) hSd ?rr19
       case yy19=>(intro wq hSq;obtain ⟨hq1,hq2⟩:=hSq;go_simp<;>with_reducible rfl)
       simp only[Act.put,List.setIfInBounds_toArray,List.set_cons_succ,List.set_cons_zero]
       refine qm (i:=4) (o:=_) (by kernel_rfl) rfl (fun K' hK=>?_)
       rw[if_pos (by rfl)]
       go_simp
       refine (HSR.out _).mono ?_
       rintro e X1 ⟨rfl,hx1⟩
       have hX1:Below wr.heap.size wr X1:=hWd.trans (hx1.mono hWd.size)
       have hSd:=HS.out _ hX1
       refine hK.out _ _ hSd ?_
       clear hK
       try simp only[Act.put]
       refine qm (i:=5) (o:=_) (by kernel_rfl) rfl (fun K' hK=>?_)
       rw[if_pos (by rfl)]
       go_simp
       refine (HRS.out _ (q8 j8 hX1)).mono ?_
       rintro e X2 ⟨v,rfl,hv,hx2⟩
       have hX2:Below wr.heap.size wr X2:=q8 hX1 hx2
       have HV:=q7 hv
       obtain ⟨vo,vc,rfl,y1,y2⟩:=hv
       clear y1 y2
       have hSd:=HS.out _ hX2
       refine hK.out _ _ hSd ?_
       clear hK
       try simp only[Act.put]
       refine q9 (i:=6) (oi:=_) (v:=?vv20) (some 49) [] rfl rfl (by kernel_rfl) (by kernel_rfl) (by kernel_rfl) (by kernel_rfl) (by kernel_rfl) (fun _ _ _ h=>h) (Or.inl ⟨by rfl,?yy20⟩) hSd ?rr20
       case yy20=>(intro wq hSq;obtain ⟨hq1,hq2⟩:=hSq;go_simp<;>with_reducible rfl)
       simp only[Act.put,List.setIfInBounds_toArray,List.set_cons_succ,List.set_cons_zero]
       refine q9 (i:=7) (oi:=_) (v:=?vv21) (some 56) [] rfl rfl (by kernel_rfl) (by kernel_rfl) (by kernel_rfl) (by kernel_rfl) (by kernel_rfl) (fun _ _ _ h=>h) (Or.inl ⟨by rfl,?yy21⟩) hSd ?rr21
       case yy21=>(intro wq hSq;obtain ⟨hq1,hq2⟩:=hSq;go_simp<;>with_reducible rfl)
       simp only[Act.put,List.setIfInBounds_toArray,List.set_cons_succ,List.set_cons_zero]
       refine q9 (i:=8) (oi:=_) (v:=?vv22) (some 57) [] rfl rfl (by kernel_rfl) (by kernel_rfl) (by kernel_rfl) (by kernel_rfl) (by kernel_rfl) (fun _ _ _ h=>h) (Or.inl ⟨by rfl,?yy22⟩) hSd ?rr22
       case yy22=>(intro wq hSq;obtain ⟨hq1,hq2⟩:=hSq;go_simp<;>with_reducible rfl)
       simp only[Act.put,List.setIfInBounds_toArray,List.set_cons_succ,List.set_cons_zero]
       refine qm (i:=9) (o:=_) (by kernel_rfl) rfl (fun K' hK=>?_)
       rw[if_pos (by rfl)]
       go_simp
       have hSd:=hSd
       refine hK.out _ _ hSd ?_
       clear hK
       try simp only[Act.put]
       refine qV (o:=_) (by kernel_rfl) rfl (fun K' hK=>?_)
       rw[if_pos (by rfl)]
       go_simp
       refine hK.out _ _ ?_
       clear hK
       refine qU (by kernel_rfl) ?_ _
       try simp only[Act.put]
       clear hSd hWd hx1 hx2 hX1
       have HJ2:=q7 (HJ.out.below hX2)
       clear HJ j8 HS HRS HSR
       obtain ⟨so,cap,k1,k3,k4,k5,k6,k8⟩:=HJ2.out
       by_cases h0:stE r SS RN=0
       ·rw[h0]
        have hln:=HLN.out h0
        have hsz:=HSZ.out
        have HOW:=q7 k4
        have HK3:=q7 k3
        obtain ⟨q0,q1,q2⟩:=jJ k3
        have hpl:=HPL.out
        generalize stZ r SS RN=Y at *
        have HVP:=q7 (HV.out)
        obtain ⟨vo',vc',hve,_,hvo⟩:=HVP.out
        cases hve
        rcases hvo with hvo|⟨pb,po,rfl,hpb,hpc⟩
        ·exfalso
         rw[hvo] at hln
         simp at hln
         omega
        have HFC:=q7 (show ∀j u,(Y.map (Value.int .i64))[j]?=some u→X2.cell? ((⟨pb,po,none⟩:Addr).add j)=some u from fun j u hj=>by
         rw[List.getElem?_map] at hj
         obtain ⟨z,hz,rfl⟩:=Option.map_eq_some_iff.1 hj
         obtain ⟨hl,rfl⟩:=List.getElem?_eq_some_iff.1 hz
         rw[Addr.add_lit]
         exact hpc j hl)
        obtain ⟨P,hPU⟩:∃P,ZY r k=P:=⟨_,rfl⟩
        rw[hPU] at HOW HK3 HSU hpl q2
        have hyl:Y.length≤4096:=by omega
        have hy1:1≤Y.length:=by omega
        have hk8s:=k8.size
        clear hpc hln hsz
        go_wp2_with (at_builtin;refine wpList_append_own _ rfl _ _ 22 rfl w.heap.size 3 i0 (.int .i64 0) 1 8 Tryz.underlying22 hi hz0 hz1 hz2 rfl (by decide) _ P.length (P.map (Value.int .i64)) rfl HOW.out ⟨pb,po,none⟩ Y.length vc (Y.map (Value.int .i64)) rfl ?qc1 ?qc2 ?qc3 ?qc4 ?qc5 ?qc6 ?_)
        case qc1=>rw[List.length_map,Nat.mul_one]
        case qc2=>exact HFC.out
        case qc3=>intro u hu;obtain ⟨z,_,rfl⟩:=List.mem_map.1 hu;rfl
        case qc4=>unfold maxLen;omega
        case qc5=>omega
        case qc6=>exact hk8s
        intro v' w1 hown hgrow hnil
        rcases id hown.2 with ⟨_,hn0⟩|⟨g,cp,cur,rfl,_⟩
        ·exfalso;omega
        obtain ⟨_,c2,fz,g1,g2,g3,g4⟩:=q4b (by decide) HK3.out HOW.out k8 (Nat.le_refl _) (show w.heap.size≤QX by omega) (Below.refl _ _) hgrow hown
        have hpe:(ZY r (k+1)).length=P.length+Y.length:=by rw[HSU.out,List.length_append]
        have hpm:(ZY r (k+1)).map (Value.int .i64)=P.map (Value.int .i64)++Y.map (Value.int .i64):=by rw[HSU.out,List.map_append]
        have HJ3:=q7 (show PlJ w r RQ QX (k+1) _ from ⟨some ⟨g,0,none⟩,cp,HOK.out h0,by rw[hpe];exact g1,by rw[hpe,hpm];exact g2,
         (g4 _ (Array.getElem?_eq_some_iff.1 k5).1 (J4 (by rw[hPU] at k4;exact k4) k5 (by decide)) (by omega)).trans k5,(g4 _ (Array.getElem?_eq_some_iff.1 k6).1 (J4 (by rw[hPU] at k4;exact k4) k6 (by decide)) (by omega)).trans k6,g3⟩)
        clear g1 g2 g3 g4 k1 k3 k4 k5 k6 k8 hown hgrow hnil q0 q1 q2 hpe hpm
        go_wp2
        go_roundw
        case rel=>exact ⟨k+1,hlt,by go_num,HJ3.out⟩
        case measure=>simp[intOf];omega
       ·rcases HEI.out with he|he
        ·exact absurd he h0
        rw[he]
        have hzf:=HZF.out h0
        have hee:E=1:=by rw[HE.out,hzf];rfl
        subst hee
        have hz:Z=[]:=by rw[HZ.out];rfl
        have hpw:PW=0:=by rw[HW.out];rfl
        have hph:PH=0:=by rw[HH.out];rfl
        subst hz hpw hph
        obtain ⟨z0,z1,z2⟩:=jJ k6
        have f0:=Lib.frozen_of_heap k6 0
        have f1:=Lib.frozen_of_heap k6 1
        have f2:=Lib.frozen_of_heap k6 2
        have HBZ:=q7 (zq k8 (show w.heap.size≤w.heap.size+1 by omega) (.int .i64 0) (.int .i64 0) (.slice none 0 0))
        clear k1 k3 k4 k5 k6 k8
        go_wp2
        refine bodyPost_ret (v:=.tuple #[.agg #[.int .i64 0,.int .i64 0,.slice none 0 0],.int .i64 1]) (by simp[results,Tryz.results7,go_sem,z0,z1,z2]) rfl ⟨_,rfl,qd.nil _,HBZ.out,qn.nil _⟩
      ·have hd:decide ((k:Int)<(r.strips.length:Int))=false:=by simp;omega
       obtain rfl:k=r.strips.length:=by omega
       have he:E=0:=by rw[HE.out,if_pos j1]
       subst he
       rw[if_pos rfl] at HZ HW HH
       obtain ⟨y0,y1,y2⟩:=jJ j3
       obtain ⟨z0,z1,z2⟩:=jJ j6
       have f0:=Lib.frozen_of_heap j6 0
       have f1:=Lib.frozen_of_heap j6 1
       have f2:=Lib.frozen_of_heap j6 2
       have hpl:=q0n HHD.out r.strips.length (by have:=HNC.out;omega) j1
       have hne:(Value.slice so (ZY r r.strips.length).length cap).ownBlock≠some (w.heap.size+1):=fun e=>J4 j4 j6 (by decide) e.symm
       have hpx:qd wr (.slice so (ZY r r.strips.length).length cap) (ZY r r.strips.length):=qd.own j4 (by omega)
       have HX:=q7 (hpx.other (q1V wr (w.heap.size+1) (.int .i64 r.w) (.int .i64 r.h) (.slice so (ZY r r.strips.length).length cap)) (fun b hb=>YL _ _ _ _ _ b hb) hne)
       have HF:=q7 (zq j8 (show w.heap.size≤w.heap.size+1 by omega) (.int .i64 r.w) (.int .i64 r.h) (.slice so (ZY r r.strips.length).length cap))
       have HFR:=q7 (qn.own j4)
       have hpw:=HW.out
       have hph:=HH.out
       have hzz:=HZ.out
       obtain ⟨N,hN⟩:∃N,(ZY r r.strips.length).length=N:=⟨_,rfl⟩
       rw[hN] at HX HF HFR y2
       rw[←hzz] at HX
       clear j1 j3 j4 j5 j6 j8 hpx hne hN hpl hzz HZ HW HH
       subst hpw hph
       go_wp2
       refine bodyPost_ret (v:=.tuple #[.agg #[.int .i64 r.w,.int .i64 r.h,.slice so N cap],.int .i64 0]) (by simp[results,Tryz.results7,go_sem,z0,z1,z2]) rfl ⟨_,rfl,HX.out,HF.out,HFR.out⟩
   ·rw[if_neg hP] at HE
    have hn:(Qv r != 0)=true:=by simpa using hP
    have he:E=Qv r:=HE.out
    subst he
    have HEN:=q7 hP
    have hz:Z=[]:=by rw[HZ.out,if_neg HEN.out]
    have hpw:PW=0:=by rw[HW.out,if_neg HEN.out]
    have hph:PH=0:=by rw[HH.out,if_neg HEN.out]
    subst hz hpw hph
    obtain ⟨z0,z1,z2⟩:=HZZ.out V3 hb3
    have f0:=HFZ.out V3 hb3 0
    have f1:=HFZ.out V3 hb3 1
    have f2:=HFZ.out V3 hb3 2
    go_wp2
    refine bodyPost_ret (v:=.tuple #[.agg #[.int .i64 0,.int .i64 0,.slice none 0 0],.int .i64 (Qv r)]) (by simp[results,Tryz.results7,go_sem,z0,z1,z2]) rfl ⟨_,rfl,qd.nil _,HBZ.out V3 hb3,qn.nil _⟩
  ·rw[if_neg hN] at HE
   have hn:((r.strips.length:Int) != (jG r:Int))=true:=bne_iff_ne.2 (by omega)
   have he:E=2:=HE.out
   subst he
   have HEN:=q7 (show ¬(2:Int)=0 by decide)
   clear hN
   generalize jG r=C at *
   have hz:Z=[]:=by rw[HZ.out,if_neg HEN.out]
   have hpw:PW=0:=by rw[HW.out,if_neg HEN.out]
   have hph:PH=0:=by rw[HH.out,if_neg HEN.out]
   subst hz hpw hph
   obtain ⟨z0,z1,z2⟩:=HZZ.out V2 hB2
   have f0:=HFZ.out V2 hB2 0
   have f1:=HFZ.out V2 hB2 1
   have f2:=HFZ.out V2 hB2 2
   go_wp2
   refine bodyPost_ret (v:=.tuple #[.agg #[.int .i64 0,.int .i64 0,.slice none 0 0],.int .i64 2]) (by simp[results,Tryz.results7,go_sem,z0,z1,z2]) rfl ⟨_,rfl,qd.nil _,HBZ.out V2 hB2,qn.nil _⟩
 ·rw[if_neg hF] at HE
  have hn:(jA r != 0)=true:=by simpa using hF
  have he:E=jA r:=HE.out
  subst he
  have HEN:=q7 hF
  have hz:Z=[]:=by rw[HZ.out,if_neg HEN.out]
  have hpw:PW=0:=by rw[HW.out,if_neg HEN.out]
  have hph:PH=0:=by rw[HH.out,if_neg HEN.out]
  subst hz hpw hph
  obtain ⟨z0,z1,z2⟩:=HZZ.out V1 hb1
  have f0:=HFZ.out V1 hb1 0
  have f1:=HFZ.out V1 hb1 1
  have f2:=HFZ.out V1 hb1 2
  go_wp2
  refine bodyPost_ret (v:=.tuple #[.agg #[.int .i64 0,.int .i64 0,.slice none 0 0],.int .i64 (jA r)]) (by simp[results,Tryz.results7,go_sem,z0,z1,z2]) rfl ⟨_,rfl,qd.nil _,HBZ.out V1 hb1,qn.nil _⟩
set_option maxRecDepth 100000 in
set_option maxHeartbeats 800000 in
theorem Qa (r:qH) (lv tv sv cv:Value) (w:World) (hr:jl w r lv tv sv cv) :
  Calls Tryz.prog 10 #[.agg (qs r lv tv sv cv)] w fun e w'=>e=.returned (.int .i64 (jb r))∧Below w.heap.size w w':=by
 have HB:=q7 (qa w (Obj.cells (qs r lv tv sv cv) 32))
 have a1:=al1 w (Obj.cells (qs r lv tv sv cv) 32)
 have HC:=q7 (fun (u:World) (hu:Below w.heap.size w u)=>JZ r lv tv sv cv u (hr.below hu (Nat.le_refl _)))
 generalize jb r=E at *
 generalize ZJ r=PW at *
 generalize Zl r=PH at *
 go_enter Tryz.func10,Tryz.ntmps10
 go_wp2_with (refine wpList_load_row rfl 32 _ rfl _ rfl _ _ _ _ a1 Tryz.underlying32 rfl (by kernel_rfl) ?_)
 refine (HC.out _ HB.out).mono ?_
 rintro e V1 ⟨v,rfl,hv,hb1,_⟩
 obtain ⟨vo,vc,rfl,_,_⟩:=hv
 go_wp2
 go_ret
 exact ⟨rfl,q8 (q8 HB.out hb1) (qa _ _)⟩
end Go.Proofs.YtanebhbfekcplaaGreat

namespace Go.Proofs.YtanebhbfekcplaaGreat
set_option linter.unusedVariables false
open Go.RowKit
def XN:List UInt8:=[100,97,114,107]
def q42 (r:qH):List Int:=[r.w,r.h,r.depth,r.kind,r.rows]
def KS (r:qH):List UInt8:=zI XN++((q42 r).flatMap zE++(YM zE r.lens++(YM zI r.strips++K9 r.plan)))
set_option maxHeartbeats 1000000 in
set_option maxRecDepth 100000 in
theorem q38 (B b:Nat) (l:List UInt8) (w:World) (h:Jj B b l w) (h0:l≠[]) :
  Calls Tryz.prog 78 #[.pointer (some ⟨b,0,none⟩)] w fun e w'=>e=.returned (.string (str l))∧Below B w w':=by
 obtain ⟨p,hB,v,hbk,hown,hne⟩:∃p,Lib.BuilderAt 111 5 B b p (byt l) w:=by
  rcases h with h|h
  ·exact ⟨_,h⟩
  ·exact ⟨_,h⟩
 have hl0:l.length≠0:=by simpa using h0
 rw[jK] at hown
 obtain ⟨g,cap,cur,rfl,hbg,hg,hnc,hcm,hcs,htake⟩:∃g cap cur,v=.slice (some ⟨g,0,none⟩) l.length cap∧B≤g∧w.heap[g]?=some (.cells cur 5 (0,0))∧l.length≤cap∧cap≤maxLen∧cur.size=cap*1∧cur.toList.take (l.length*1)=byt l:=by
  rcases hown.2 with ⟨_,hz⟩|⟨g,cap,cur,hv,r⟩
  ·exact absurd hz hl0
  ·exact ⟨g,cap,cur,hv,r⟩
 have c1:w.drew.cell? ⟨b,1,none⟩=some (.slice (some ⟨g,0,none⟩) l.length cap):=by
  have:w.drew.heap[b]?=some (.cells #[p,.slice (some ⟨g,0,none⟩) l.length cap] 111 (0,0)):=hbk
  rw[Lib.cell_of_heap this];rfl
 have hSD:(Builtin.unsafeSliceData_ #[71] 156 #[.slice (some ⟨g,0,none⟩) l.length cap]).run Tryz.prog w.drew=.ok (.pointer (some ⟨g,0,none⟩)) w.drew :=
  Lib.run_unsafeSliceData_row _ _ _ _ _ _ (by omega)
 have hUS:(Builtin.unsafeString_ #[156,3] 9 #[.pointer (some ⟨g,0,none⟩),.int .i64 l.length]).run Tryz.prog w.drew=.ok (.string (str l)) (w.drew.freeze ⟨g,0,none⟩ l.length):=by
  refine Lib.run_unsafeString_row w.drew 156 3 9 5 Tryz.underlying156 (by kernel_rfl) g cur.size (by have hg':w.drew.heap[g]?=some (.cells cur 5 (0,0)):=hg;simp[World.shape?,hg']) l h0 (by omega) (by unfold maxLen at hcm;omega) ?_
  intro j x hx
  have:=hown.cells (g:=g) rfl j (.int .u8 x.toNat) (by rw[byt_get?,hx];rfl)
  exact this
 clear hown htake hnc hcm hcs
 have mixed:Tryz.prog.follows .mixedOrders=true:=by kernel_rfl
 go_enter Tryz.func78,Tryz.ntmps78
 go_wp2
 go_region_o
 all_goals (go_wp2;go_ret;exact ⟨rfl,Lib.below_freeze (Below.drew (Below.refl B w)) (p:=⟨g,0,none⟩) hbg _⟩)
theorem ints5b (w:World) (a b c d e:Int):qd (w.alloc (.cells #[.int .i64 a,.int .i64 b,.int .i64 c,.int .i64 d,.int .i64 e] 3)) (.slice (some ⟨w.heap.size,0,none⟩) 5 5) [a,b,c,d,e] :=
 qd.own (base:=w.heap.size) (World.ownsRow_lit w #[.int .i64 a,.int .i64 b,.int .i64 c,.int .i64 d,.int .i64 e] 5 (Nat.le_refl _) (by decide) (by simp)) (by simp)
theorem jk.step {B b:Nat} {u:Value} {ts:List (List UInt8)} {w w':World} (h:jk w u ts) (hs:qY B b w w') (ha:ZX B b u w):jk w' u ts:=by
 obtain ⟨ao,cap,rfl,hl,h⟩:=h
 refine ⟨ao,cap,rfl,hl,?_⟩
 rcases h with h|⟨c,off,rfl,hlt,hc⟩
 ·exact .inl h
 ·refine .inr ⟨c,off,rfl,Nat.lt_of_lt_of_le hlt hs.bel.size,fun j hj=>?_⟩
  rw[World.cell?_of_block (a:=⟨c,off+j,none⟩) (hs.block hlt (ha c rfl hlt))]
  exact hc j hj
theorem q3P {B b:Nat} {u:Value} {xs:List Int} {w V:World} (h:qd w u xs) (hB:w.heap.size≤B):xs=[]∨ZX B b u V:=by
 obtain ⟨ao,cap,rfl,_,h⟩:=h
 rcases h with h|⟨c,off,rfl,hlt,_⟩
 ·exact .inl h
 ·exact .inr fun k hk _=>by simp only[Value.ownBlock,Option.some.injEq] at hk;exact .inl (by omega)
theorem q2F {B b:Nat} {u:Value} {xs:List Pt} {w V:World} (h:qX w u xs) (hB:w.heap.size≤B):xs=[]∨ZX B b u V:=by
 obtain ⟨ao,cap,rfl,_,h⟩:=h
 rcases h with h|⟨c,off,rfl,hlt,_⟩
 ·exact .inl h
 ·exact .inr fun k hk _=>by simp only[Value.ownBlock,Option.some.injEq] at hk;exact .inl (by omega)
theorem Yh {ts:List (List UInt8)} {k:Nat} (hk:k<ts.length):ts.getD k []=ts[k]:=by simp[hk]
theorem q1t (ts:List (List UInt8)) (k:Nat) (hk:k<ts.length):(ts.take (k+1)).flatMap zI=(ts.take k).flatMap zI++zI (ts.getD k []):=by
 rw[List.take_succ_eq_append_getElem hk,List.flatMap_append,Yh hk];simp
theorem K6 {ts:List (List UInt8)} {M:Nat} (h:∀s∈ts,s.length≤M) (k:Nat):((ts.take k).flatMap zI).length≤k*(M+4):=by
 induction k generalizing ts with
 | zero=>simp
 | succ k ih =>
  cases ts with
  | nil=>simp
  | cons s ts =>
   have h1:=ih (ts:=ts) (fun x hx=>h x (by simp[hx]))
   have h2:=h s (by simp)
   rw[List.take_succ_cons,List.flatMap_cons,List.length_append,zI,List.length_append,zu,Nat.add_mul]
   omega
set_option maxHeartbeats 3200000 in
set_option maxRecDepth 100000 in
theorem KM (r:qH) (lv tv sv cv:Value) (w:World) (hr:jl w r lv tv sv cv) (g1:r.lens.length≤1048576) (g2:r.strips.length≤64) (g3:∀s∈r.strips,s.length≤1048576) (g4:r.plan.spots.length≤1048576) (g5:r.plan.curve.length≤1048576) :
  Calls Tryz.prog 42 #[.agg (qs r lv tv sv cv)] w fun e w'=>e=.returned (.string (str (KS r)))∧Below w.heap.size w w':=by
 have HR:=q7 hr
 obtain ⟨lp,lc,rfl,hll,hlr⟩:=hr.lens
 obtain ⟨tp,tc,rfl,htl,htr⟩:=hr.strips
 have HT:=q7 (K6 g3)
 have HGS:=q7 (show ∀k,k<r.strips.length→(r.strips.getD k []).length≤1048576 from fun k hk=>g3 _ (by rw[Yh hk];exact List.getElem_mem hk))
 clear hr g3 hlr htr
 obtain ⟨a1,a2⟩:=al2 w (Obj.cells (qs r (.slice lp r.lens.length lc) (.slice tp r.strips.length tc) sv cv) 32) (Obj.cells #[.pointer none,.slice none 0 0] 111)
 have HB:=q7 (be2 w (Obj.cells (qs r (.slice lp r.lens.length lc) (.slice tp r.strips.length tc) sv cv) 32) (Obj.cells #[.pointer none,.slice none 0 0] 111))
 have hl1:=(Array.getElem?_eq_some_iff.1 a1).1
 have hl2:=(Array.getElem?_eq_some_iff.1 a2).1
 have HT0:=q7 (Ju a1)
 have HWS:=q7 (show Jj (w.heap.size+1) (w.heap.size+1) [] ((w.alloc (Obj.cells (qs r (.slice lp r.lens.length lc) (.slice tp r.strips.length tc) sv cv) 32)).alloc (Obj.cells #[.pointer none,.slice none 0 0] 111)) from .inl ⟨Nat.le_refl _,_,a2,⟨rfl,.inl ⟨rfl,rfl⟩⟩,by simp[Value.ownBlock]⟩)
 have HRC:=q7 (fun (v:World) (h:v.heap[w.heap.size]?=some (.cells (qs r (.slice lp r.lens.length lc) (.slice tp r.strips.length tc) sv cv) 32 (0,0)))=>qv h)
 have HPA:=q7 (fun (v:World) (h:v.heap[w.heap.size]?=some (.cells (qs r (.slice lp r.lens.length lc) (.slice tp r.strips.length tc) sv cv) 32 (0,0)))=>Ju h)
 obtain ⟨s0,s1,s2,s3,s4,s5,s6,s13,s26⟩:=qv a1
 go_enter Tryz.func42,Tryz.ntmps42
 go_wp2_with fail
 clear s0 s1 s2 s3 s4 s5 s6 s13 s26 HT0
 generalize (w.alloc (Obj.cells (qs r (.slice lp r.lens.length lc) (.slice tp r.strips.length tc) sv cv) 32)).alloc (Obj.cells #[.pointer none,.slice none 0 0] 111)=U at *
 generalize (qs r (.slice lp r.lens.length lc) (.slice tp r.strips.length tc) sv cv)=RQ at *
 have hB0:w.heap.size+1≤U.heap.size:=by omega
 have hb0:w.heap.size+1<U.heap.size:=hl2
 have HBV:=q7 (show ∀V,qY (w.heap.size+1) (w.heap.size+1) U V→Below w.heap.size w V from fun V hV=>HB.out.trans (hV.bel.mono (by omega)))
 have HBK:=q7 (show ∀V,qY (w.heap.size+1) (w.heap.size+1) U V→V.heap[w.heap.size]?=some (.cells RQ 32 (0,0)) from fun V hV=>(hV.bel.block _ (by omega)).trans a1)
 have HST:=q7 (qY.refl (w.heap.size+1) (w.heap.size+1) U)
 clear a1 a2 hl1 hl2
 have HW:=HWS
 have HL:=q7 (show ([]:List UInt8).length≤0 from Nat.le_refl _)
 clear HWS
 have hBV:w.heap.size+1≤U.heap.size:=Nat.le_trans hB0 HST.out.bel.size
 have hbV:w.heap.size+1<U.heap.size:=Nat.lt_of_lt_of_le hb0 HST.out.bel.size
 refine (YW (w.heap.size+1) (w.heap.size+1) [] XN _ HW.out (by decide) hBV hbV).mono ?_
 rintro e V1 ⟨rfl,hW',hS'⟩
 replace HST:=q7 (HST.out.trans hS')
 obtain ⟨L1,HQ1⟩:∃L1,Hid (([]:List UInt8)++zI XN=L1):=⟨_,rfl⟩
 rw[HQ1.out] at hW'
 replace HW:=q7 hW'
 replace HL:=q7 (show L1.length≤8 by rw[←HQ1.out,List.length_append,show (zI XN).length=8 from rfl];have:=HL.out;(try simp);(try omega))
 clear hW' hS' hBV hbV
 obtain ⟨s0,s1,s2,s3,s4,s5,s6,s13,s26⟩:=HRC.out _ (HBK.out V1 HST.out)
 go_wp2_with fail
 clear s0 s1 s2 s3 s4 s5 s6 s13 s26
 have hBV:w.heap.size+1≤V1.heap.size:=Nat.le_trans hB0 HST.out.bel.size
 have hbV:w.heap.size+1<V1.heap.size:=Nat.lt_of_lt_of_le hb0 HST.out.bel.size
 have HG:=q7 (qY.alloc (B:=(w.heap.size+1)) (b:=(w.heap.size+1)) hBV (Obj.cells #[.int .i64 r.w,.int .i64 r.h,.int .i64 r.depth,.int .i64 r.kind,.int .i64 r.rows] 3))
 have HWA:=q7 (HW.out.alloc (Obj.cells #[.int .i64 r.w,.int .i64 r.h,.int .i64 r.depth,.int .i64 r.kind,.int .i64 r.rows] 3))
 have HIA:=q7 (ints5b V1 r.w r.h r.depth r.kind r.rows)
 have hga:=al1 V1 (Obj.cells #[.int .i64 r.w,.int .i64 r.h,.int .i64 r.depth,.int .i64 r.kind,.int .i64 r.rows] 3)
 have HAA:=q7 (Zu (B:=(w.heap.size+1)) (b:=(w.heap.size+1)) (c:=5) (ca:=5) (xs:=[]) hga (by omega) (by decide))
 have HLA:=q7 (show L1.length+([r.w,r.h,r.depth,r.kind,r.rows]:List Int).length*4≤140737488355328 by have:=HL.out;simp;omega)
 have hBA:=Nat.le_trans hBV HG.out.bel.size
 have hbA:=Nat.lt_of_lt_of_le hbV HG.out.bel.size
 clear hga
 generalize V1.alloc (Obj.cells #[.int .i64 r.w,.int .i64 r.h,.int .i64 r.depth,.int .i64 r.kind,.int .i64 r.rows] 3)=VA at *
 replace HST:=q7 (HST.out.trans HG.out)
 refine (jd (w.heap.size+1) (w.heap.size+1) L1 _ [r.w,r.h,r.depth,r.kind,r.rows] _ HWA.out HIA.out HAA.out HLA.out hBA hbA).mono ?_
 rintro e V2 ⟨rfl,hW',hS'⟩
 replace HST:=q7 (HST.out.trans hS')
 obtain ⟨L2,HQ2⟩:∃L2,Hid (L1++([r.w,r.h,r.depth,r.kind,r.rows]:List Int).flatMap zE=L2):=⟨_,rfl⟩
 rw[HQ2.out] at hW'
 replace HW:=q7 hW'
 replace HL:=q7 (show L2.length≤28 by rw[←HQ2.out,List.length_append,qL];have:=HL.out;(try simp);(try omega))
 clear hW' hS' hBV hbV
 clear HG HWA HIA HAA HLA hBA hbA
 obtain ⟨s0,s1,s2,s3,s4,s5,s6,s13,s26⟩:=HRC.out _ (HBK.out V2 HST.out)
 go_wp2_with fail
 clear s0 s1 s2 s3 s4 s5 s6 s13 s26
 have hBV:w.heap.size+1≤V2.heap.size:=Nat.le_trans hB0 HST.out.bel.size
 have hbV:w.heap.size+1<V2.heap.size:=Nat.lt_of_lt_of_le hb0 HST.out.bel.size
 have HG:=q7 (qY.alloc (B:=(w.heap.size+1)) (b:=(w.heap.size+1)) hBV (Obj.cells #[.int .i64 r.lens.length] 3))
 have HWA:=q7 (HW.out.alloc (Obj.cells #[.int .i64 r.lens.length] 3))
 have HIA:=q7 (zo V2 r.lens.length)
 have hga:=al1 V2 (Obj.cells #[.int .i64 r.lens.length] 3)
 have HAA:=q7 (Zu (B:=(w.heap.size+1)) (b:=(w.heap.size+1)) (c:=1) (ca:=1) (xs:=[]) hga (by omega) (by decide))
 have HLA:=q7 (show L2.length+([(r.lens.length:Int)]:List Int).length*4≤140737488355328 by have:=HL.out;simp;omega)
 have hBA:=Nat.le_trans hBV HG.out.bel.size
 have hbA:=Nat.lt_of_lt_of_le hbV HG.out.bel.size
 clear hga
 generalize V2.alloc (Obj.cells #[.int .i64 r.lens.length] 3)=VA at *
 replace HST:=q7 (HST.out.trans HG.out)
 refine (jd (w.heap.size+1) (w.heap.size+1) L2 _ [(r.lens.length:Int)] _ HWA.out HIA.out HAA.out HLA.out hBA hbA).mono ?_
 rintro e V3 ⟨rfl,hW',hS'⟩
 replace HST:=q7 (HST.out.trans hS')
 obtain ⟨L3,HQ3⟩:∃L3,Hid (L2++([(r.lens.length:Int)]:List Int).flatMap zE=L3):=⟨_,rfl⟩
 rw[HQ3.out] at hW'
 replace HW:=q7 hW'
 replace HL:=q7 (show L3.length≤32 by rw[←HQ3.out,List.length_append,qL];have:=HL.out;(try simp);(try omega))
 clear hW' hS' hBV hbV
 clear HG HWA HIA HAA HLA hBA hbA
 obtain ⟨s0,s1,s2,s3,s4,s5,s6,s13,s26⟩:=HRC.out _ (HBK.out V3 HST.out)
 go_wp2_with fail
 clear s0 s1 s2 s3 s4 s5 s6 s13 s26
 have hBV:w.heap.size+1≤V3.heap.size:=Nat.le_trans hB0 HST.out.bel.size
 have hbV:w.heap.size+1<V3.heap.size:=Nat.lt_of_lt_of_le hb0 HST.out.bel.size
 have HI4:=HR.out.lens.below (HBV.out _ HST.out) (Nat.le_refl _)
 have HA4:=q3P (B:=w.heap.size+1) (b:=w.heap.size+1) (V:=V3) HR.out.lens (by omega)
 refine (Xf (w.heap.size+1) (w.heap.size+1) L3 _ r.lens _ HW.out HI4 HA4 (by have:=HL.out;omega) hBV hbV).mono ?_
 rintro e V4 ⟨rfl,hW',hS'⟩
 replace HST:=q7 (HST.out.trans hS')
 obtain ⟨L4,HQ4⟩:∃L4,Hid (L3++r.lens.flatMap zE=L4):=⟨_,rfl⟩
 rw[HQ4.out] at hW'
 replace HW:=q7 hW'
 replace HL:=q7 (show L4.length≤4194336 by rw[←HQ4.out,List.length_append,qL];have:=HL.out;(try simp);(try omega))
 clear hW' hS' hBV hbV
 clear HI4 HA4
 obtain ⟨s0,s1,s2,s3,s4,s5,s6,s13,s26⟩:=HRC.out _ (HBK.out V4 HST.out)
 go_wp2_with fail
 clear s0 s1 s2 s3 s4 s5 s6 s13 s26
 have hBV:w.heap.size+1≤V4.heap.size:=Nat.le_trans hB0 HST.out.bel.size
 have hbV:w.heap.size+1<V4.heap.size:=Nat.lt_of_lt_of_le hb0 HST.out.bel.size
 have HG:=q7 (qY.alloc (B:=(w.heap.size+1)) (b:=(w.heap.size+1)) hBV (Obj.cells #[.int .i64 r.strips.length] 3))
 have HWA:=q7 (HW.out.alloc (Obj.cells #[.int .i64 r.strips.length] 3))
 have HIA:=q7 (zo V4 r.strips.length)
 have hga:=al1 V4 (Obj.cells #[.int .i64 r.strips.length] 3)
 have HAA:=q7 (Zu (B:=(w.heap.size+1)) (b:=(w.heap.size+1)) (c:=1) (ca:=1) (xs:=[]) hga (by omega) (by decide))
 have HLA:=q7 (show L4.length+([(r.strips.length:Int)]:List Int).length*4≤140737488355328 by have:=HL.out;simp;omega)
 have hBA:=Nat.le_trans hBV HG.out.bel.size
 have hbA:=Nat.lt_of_lt_of_le hbV HG.out.bel.size
 clear hga
 generalize V4.alloc (Obj.cells #[.int .i64 r.strips.length] 3)=VA at *
 replace HST:=q7 (HST.out.trans HG.out)
 refine (jd (w.heap.size+1) (w.heap.size+1) L4 _ [(r.strips.length:Int)] _ HWA.out HIA.out HAA.out HLA.out hBA hbA).mono ?_
 rintro e V5 ⟨rfl,hW',hS'⟩
 replace HST:=q7 (HST.out.trans hS')
 obtain ⟨L5,HQ5⟩:∃L5,Hid (L4++([(r.strips.length:Int)]:List Int).flatMap zE=L5):=⟨_,rfl⟩
 rw[HQ5.out] at hW'
 replace HW:=q7 hW'
 replace HL:=q7 (show L5.length≤4194340 by rw[←HQ5.out,List.length_append,qL];have:=HL.out;(try simp);(try omega))
 clear hW' hS' hBV hbV
 clear HG HWA HIA HAA HLA hBA hbA
 obtain ⟨s0,s1,s2,s3,s4,s5,s6,s13,s26⟩:=HRC.out _ (HBK.out V5 HST.out)
 go_wp2_with fail
 clear s0 s1 s2 s3 s4 s5 s6 s13 s26
 go_loopw [35] (fun i wr=>∃k:Nat,k≤r.strips.length∧i=.int .i64 k∧Jj (w.heap.size+1) (w.heap.size+1) (L5++(r.strips.take k).flatMap zI) wr∧qY (w.heap.size+1) (w.heap.size+1) U wr) (fun i _=>r.strips.length-(intOf i).toNat)
 case atStart=>exact ⟨0,Nat.zero_le _,rfl,by simpa using HW.out,HST.out⟩
 case round =>
  obtain ⟨k,hk,rfl,hW,hS⟩:=hrel
  have HLL:=HL
  clear HST HW
  have HST:=q7 hS
  have HW:=q7 hW
  clear hW hS
  have hBV:w.heap.size+1≤wr.heap.size:=Nat.le_trans hB0 HST.out.bel.size
  have hbV:w.heap.size+1<wr.heap.size:=Nat.lt_of_lt_of_le hb0 HST.out.bel.size
  have htk:=HT.out k
  by_cases hlt:k<r.strips.length
  ·have hd:decide ((k:Int)<(r.strips.length:Int))=true:=by simp;omega
   obtain ⟨bq,oq,rfl,hbq,d0⟩:=(HR.out.strips.below (HBV.out _ HST.out) (Nat.le_refl _)).at k hlt
   have hgs:=HGS.out k hlt
   obtain ⟨T,hTT⟩:∃T,r.strips.getD k []=T:=⟨_,rfl⟩
   rw[hTT] at d0 hgs
   have HTT:=q7 hTT
   clear hTT
   go_wp2_with fail
   clear d0
   refine (YW (w.heap.size+1) (w.heap.size+1) _ T _ HW.out (by have:=HLL.out;rw[List.length_append];omega) hBV hbV).mono ?_
   rintro e X2 ⟨rfl,hW',hS'⟩
   have HST2:=q7 (HST.out.trans hS')
   have HW2:=q7 (show Jj (w.heap.size+1) (w.heap.size+1) (L5++(r.strips.take (k+1)).flatMap zI) X2 by rw[q1t _ k hlt,HTT.out,←List.append_assoc];exact hW')
   clear hW' hS' hBV hbV htk
   go_wp2
   go_roundw
   case rel=>exact ⟨k+1,hlt,by go_num,HW2.out,HST2.out⟩
   case measure=>simp[intOf];omega
  ·have hd:decide ((k:Int)<(r.strips.length:Int))=false:=by simp;omega
   obtain rfl:k=r.strips.length:=by omega
   rw[List.take_length] at HW htk
   obtain ⟨L6,HQ6⟩:∃L6,Hid (L5++r.strips.flatMap zI=L6):=⟨_,rfl⟩
   rw[HQ6.out] at HW
   have HL6:=q7 (show L6.length≤1099511627776 by rw[←HQ6.out,List.length_append];have:=HLL.out;omega)
   have HPP:=q7 (HR.out.plan.below (HBV.out _ HST.out) (Nat.le_refl _))
   have HP0:=q7 (HPA.out _ (HBK.out _ HST.out))
   clear HLL HL htk HT HGS
   go_wp2_with (refine zJ rfl 30 _ rfl _ 7 rfl (qZ r.plan sv cv) _ HP0.out Tryz.underlying30 rfl (by kernel_rfl) ?_)
   refine (q27 (w.heap.size+1) (w.heap.size+1) L6 r.plan sv cv _ HW.out HPP.out (q2F HR.out.plan.spots (by omega)) (q2F HR.out.plan.curve (by omega)) HL6.out g4 g5 hBV hbV).mono ?_
   rintro e X3 ⟨rfl,hW',hS'⟩
   have HST3:=q7 (HST.out.trans hS')
   have HE:=q7 (show L6++K9 r.plan=KS r by
    rw[←HQ6.out,←HQ5.out,←HQ4.out,←HQ3.out,←HQ2.out,←HQ1.out]
    simp[KS,q42,YM,List.append_assoc])
   rw[HE.out] at hW'
   have HW3:=q7 hW'
   clear hW' hS'
   go_wp2_with fail
   refine (q38 (w.heap.size+1) (w.heap.size+1) (KS r) _ HW3.out (by simp[KS,zI,zE])).mono ?_
   rintro e X4 ⟨rfl,hb4⟩
   have HF:=q7 ((HBV.out _ HST3.out).trans (hb4.mono (by omega)))
   go_wp2
   go_ret
   exact ⟨rfl,HF.out⟩
theorem Zf {ls:List Pt} (h:qQ ls=true):ls.length≤16:=by
 simp only[qQ,Qq,Bool.and_eq_true,decide_eq_true_eq] at h
 omega
theorem st_len {r:qH} (h:zy r) {i:Nat} (hi:i<jG r) {s:List UInt8} (h0:stE r s (jj r i)=0):s.length≤15360:=by
 obtain ⟨h3,h4⟩:=h.size hi
 obtain ⟨h5,h6⟩:=h.row hi
 have hw:=h.w
 have hd:=h.depth
 by_cases hk:r.kind=0
 ·obtain ⟨e1,e2⟩:=Jo hk s (jj r i)
  rw[e1] at h0
  have hf:=YK h0
  simp only[ja,decide_eq_true_eq] at hf
  rw[hf.2.2.2.1]
  have:(jj r i*r.w).toNat*r.depth.toNat≤4096*16:=Nat.mul_le_mul (by omega) (by omega)
  omega
 ·have hE:qP s r.w (jj r i) r.kind r.lens=0:=by
   rw[stE,if_neg hk] at h0
   split at h0
   ·assumption
   ·exact h0
  have hS:(Qs s r.w (jj r i) r.kind r.lens).isSome=true:=by
   unfold qP at hE
   split at hE
   ·split at hE
    ·split at hE
     ·split at hE
      ·assumption
      ·cases hE
     ·rename_i hc;exact absurd hE hc
    ·cases hE
   ·cases hE
  obtain ⟨zs,hz⟩:=Option.isSome_iff_exists.1 hS
  rw[Qs] at hz
  split at hz
  ·rename_i hl
   have:r.w.toNat*(jj r i).toNat≤64*64:=Nat.mul_le_mul (by omega) (by omega)
   have:r.w.toNat*(jj r i).toNat*30≤4096*30:=Nat.mul_le_mul_right _ this
   omega
  ·cases hz
structure Z7 (r:qH):Prop where
 head:zy r
 many:r.strips.length=jG r
 plan:jW r.plan=0
 spots:jM r.w r.h r.plan.spots=true
 strips:q0g r r.strips.length=true
theorem zc {r:qH} (h:jb r=0):Z7 r:=by
 unfold jb at h
 split at h
 ·rename_i h1
  split at h
  ·rename_i h2
   split at h
   ·rename_i h3
    split at h
    ·rename_i h4
     unfold Qv at h3
     split at h3
     ·rename_i h5
      split at h3
      ·rename_i h6
       exact ⟨zQ h1,h2,h5,h6,h4⟩
      ·cases h3
     ·rename_i h5;exact absurd h3 h5
    ·cases h
   ·rename_i h3;exact absurd h h3
  ·cases h
 ·rename_i h1;exact absurd h h1
theorem Z7.zero {r:qH} (h:Z7 r):jb r=0:=by
 rw[jb,if_pos h.head.zero,if_pos h.many,if_pos (by rw[Qv,if_pos h.plan,if_pos h.spots]),if_pos h.strips]
theorem Z7.lens_le {r:qH} (h:Z7 r):r.lens.length≤17:=by
 have:=h.head.lens
 unfold JA at this
 split at this
 ·split at this
  ·omega
  ·cases this
 ·exact (qT this).2.1
theorem Z7.strip_le {r:qH} (h:Z7 r):∀s∈r.strips,s.length≤15360:=by
 intro s hs
 obtain ⟨i,hi,rfl⟩:=List.getElem_of_mem hs
 have h0:=q3p h.strips hi
 rw[Kw,Yh hi] at h0
 exact st_len h.head (by have:=h.many;omega) h0
def rawS (r:qH):List UInt8:=if jb r=0 then KS r else []
set_option maxRecDepth 100000 in
set_option maxHeartbeats 1600000 in
theorem Ks (r:qH) (lv tv sv cv:Value) (w:World) (hr:jl w r lv tv sv cv) :
  Calls Tryz.prog 15 #[.agg (qs r lv tv sv cv)] w fun e w'=>e=.returned (.tuple #[.string (str (rawS r)),.int .i64 (jb r)])∧Below w.heap.size w w':=by
 have HB:=q7 (qa w (Obj.cells (qs r lv tv sv cv) 32))
 have a1:=al1 w (Obj.cells (qs r lv tv sv cv) 32)
 have hl1:=(Array.getElem?_eq_some_iff.1 a1).1
 have HC:=q7 (fun (u:World) (hu:Below w.heap.size w u)=>Qa r lv tv sv cv u (hr.below hu (Nat.le_refl _)))
 have HBO:=q7 (fun (h0:jb r=0) (u:World) (hu:Below w.heap.size w u)=>KM r lv tv sv cv u (hr.below hu (Nat.le_refl _)) (by have:=(zc h0).lens_le;omega) (by have:=(zc h0).many;have:=(zc h0).head.cnt_le;omega) (fun s hs=>by have:=(zc h0).strip_le s hs;omega) (by have:=(zf (zc h0).plan).2.2.2.2.2.1;omega) (by have:=Zf (zf (zc h0).plan).2.2.2.2.2.2.2;omega))
 have HS:=q7 (show rawS r=if jb r=0 then KS r else [] from rfl)
 generalize rawS r=S at *
 generalize KS r=RW at *
 clear hr
 go_enter Tryz.func15,Tryz.ntmps15
 go_wp2_with (refine wpList_load_row rfl 32 _ rfl _ rfl _ _ _ _ a1 Tryz.underlying32 rfl (by kernel_rfl) ?_)
 generalize w.alloc (Obj.cells (qs r lv tv sv cv) 32)=U at *
 refine (HC.out _ HB.out).mono ?_
 rintro e V1 ⟨rfl,hb1⟩
 have HB1:=q7 (q8 HB.out hb1)
 by_cases hE:jb r=0
 ·rw[hE]
  rw[if_pos hE] at HS
  have hs:=HS.out
  subst hs
  have HBB:=q7 (HBO.out hE)
  have b1:=(hb1.block _ hl1).trans a1
  go_wp2_with (refine wpList_load_row rfl 32 _ rfl _ rfl _ _ _ _ b1 Tryz.underlying32 rfl (by kernel_rfl) ?_)
  refine (HBB.out _ HB1.out).mono ?_
  rintro e V2 ⟨rfl,hb2⟩
  go_wp2
  go_ret2
  exact ⟨Zc rfl (congrArg (Value.int .i64) hE.symm),q8 HB1.out hb2⟩
 ·have hn:(jb r != 0)=true:=by simpa using hE
  rw[if_neg hE] at HS
  have hs:=HS.out
  subst hs
  clear HBO
  go_wp2
  go_ret2
  exact ⟨rfl,HB1.out⟩
end Go.Proofs.YtanebhbfekcplaaGreat
