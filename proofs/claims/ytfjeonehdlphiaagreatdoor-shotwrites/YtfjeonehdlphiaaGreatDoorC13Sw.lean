/- Sw: part 13 of what the proofs need. -/
import Derived.Test.YtfjeonehdlphiaaGreatDoorC1Sw
import Derived.Test.YtfjeonehdlphiaaGreatDoorC3Sw
import Derived.Test.YtfjeonehdlphiaaGreatDoorC12Sw
set_option linter.unusedVariables false
set_option maxHeartbeats 800000
set_option maxRecDepth 100000
namespace Go.Proofs.YtfjeonehdlphiaaGreatDoor
open Go.RowKit
theorem jqoD (l:List UInt8):decide (0≤Lib.indexByte l 49)=qMvX l:=by
 have key:∀l:List UInt8,-1≤Lib.indexByte l 49∧(0≤Lib.indexByte l 49↔qMvX l=true):=by
  intro l
  induction l with
  | nil=>exact ⟨by decide,by decide⟩
  | cons b l ih =>
   obtain ⟨ih1,ih2⟩:=ih
   simp only[Lib.indexByte,qMvX,List.any_cons] at *
   by_cases hb:(b == 49)=true
   ·rw[if_pos hb,hb];simp
   ·rw[if_neg hb]
    by_cases hi:(Lib.indexByte l 49 == -1)=true
    ·rw[if_pos hi]
     have hi:Lib.indexByte l 49=-1:=by simpa using hi
     rw[hi] at ih2
     refine ⟨by decide,?_⟩
     have hb':(b == 49)=false:=by simpa using hb
     rw[hb',Bool.false_or,←ih2]
    ·rw[if_neg hi]
     have hi:Lib.indexByte l 49≠-1:=by simpa using hi
     have hb':(b == 49)=false:=by simpa using hb
     refine ⟨by omega,?_⟩
     rw[hb',Bool.false_or,←ih2]
     omega
 rw[Bool.eq_iff_iff,decide_eq_true_eq]
 exact (key l).2
theorem XxUc (l:List UInt8) (w:World) :
  Calls Tryz.prog 200 #[.string (str l),.string ⟨#[49]⟩] w fun e w'=>e=.returned (.bool (qMvX l))∧w=w':=by
 refine (Tryz.strings_Contains_one (str l) 49 w).mono ?_
 rintro e w' ⟨rfl,rfl⟩
 rw[jrcE,jqoD]
 exact ⟨rfl,rfl⟩
theorem q0cd (L:List UInt8) (D:Nat) (hD:D≤L.length) (_hL:L.length≤140737488355328) (bl:Nat) (w:World) (hbk:w.heap[bl]?=some (.cells #[.string (str L)] 9 (0,0))) :
  Calls Tryz.prog 198 #[.int .i64 D,.pointer (some ⟨bl,0,none⟩)] w fun e w'=>e=.returned (.string (str (L.take D)))∧w.setCell ⟨bl,0,none⟩ (.string (str (L.drop D)))=w':=by
 have c0:w.cell? ⟨bl,0,none⟩=some (.string (str L)):=by rw[Lib.cell_of_heap hbk];rfl
 have f0:w.frozen? ⟨bl,0,none⟩=false:=Lib.frozen_of_heap hbk 0
 have hs:(str L).size=L.length:=qzX5 L
 have HX1:=hide (show (str L).extract 0 D=str (L.take D) by rw[Lib.extract_eq];simp[str])
 have HX2:=hide (show (str L).extract D L.length=str (L.drop D) by rw[Lib.extract_eq,jrcE,List.take_of_length_le (by rw[List.length_drop];exact Nat.le_refl _)];rfl)
 generalize str L=S at *
 clear hbk
 go_enter Tryz.func198,Tryz.ntmps198
 go_wp2
 go_ret
 exact ⟨congrArg (fun x=>Ending.returned (.string x)) HX1.out,by rw[←HX2.out]⟩
def qkdA (b:List UInt8) (D n k:Nat):List Value:=(vals b D k).map (Value.int .i64)++List.replicate (n-k) (.int .i64 0)
theorem Xdbw (b:List UInt8) (D n:Nat):qkdA b D n 0=(madeCells (Value.int .i64 0).cells (n*1)).toList:=by
 rw[show (Value.int .i64 0).cells=#[Value.int .i64 0] from rfl,toList_madeCells_one];simp[qkdA,vals]
theorem qHxz (b:List UInt8) (D n k:Nat) (h:k<n):(qkdA b D n k)[k]?=some (.int .i64 0):=by
 rw[qkdA,List.getElem?_append_right (by simp[z3uI]),List.length_map,z3uI,Nat.sub_self,List.getElem?_replicate,if_pos (by omega)]
theorem qorx (b:List UInt8) (D n k:Nat) (h:k<n):(qkdA b D n k).set k (.int .i64 (valOf ((b.drop (k*D)).take D):Int))=qkdA b D n (k+1):=by
 rw[qkdA,qkdA,X9H3,List.set_append_right _ _ (by simp[z3uI]),List.length_map,z3uI,Nat.sub_self,show n-k=(n-(k+1))+1 by omega,List.replicate_succ,List.set_cons_zero]
 simp
theorem jjDS (b:List UInt8) (D n:Nat):qkdA b D n n=(vals b D n).map (Value.int .i64):=by simp[qkdA]
theorem qL6X (s:ByteArray) (D n:Nat) (hD1:1≤D) (hD:D≤16) (hn:n≤4096) (hl:s.size=(n*D+7) / 8) (w:World) :
  Calls Tryz.prog 166 #[.string s,.int .i64 D,.int .i64 n] w fun e w'=>∃v,e=.returned (.tuple #[v,.int .i64 (if qMvX ((rowOf s.data.toList).drop (n*D))=true then 1 else 0)]) ∧
   jCvT w' v (if qMvX ((rowOf s.data.toList).drop (n*D))=true then [] else vals (rowOf s.data.toList) D n)∧Below w.heap.size w w':=by
 obtain ⟨i0,hi,hz0,hz1,hz2⟩:=info_parts Tryz.infoInt
 have hd:XSys D=true:=by simp[XSys];omega
 have hm:(n*D:Nat)≤65536:=Nat.le_trans (Nat.mul_le_mul hn hD) (by decide)
 obtain ⟨m,hm0⟩:∃m:Nat,m=n*D:=⟨_,rfl⟩
 have hmi:(n:Int)*(D:Int)=(m:Int):=by rw[hm0];simp
 have HM:=hide hm0
 rw[←hm0] at hm hl ⊢
 clear hm0
 have hn0:decide ((n:Int)<0)=false:=by simp
 have hn1:decide (4096<(n:Int))=false:=by simp;omega
 have hne:((s.size:Int) != ((m:Int)+7) / 8)=false:=by simp;omega
 have hsz:s.size≤17592186044416:=by omega
 have HR:=hide (XJss s.data.toList)
 have HRL:=hide (show m≤(rowOf s.data.toList).length by rw[zLs8,qAMg];omega)
 have HRU:=hide (show (rowOf s.data.toList).length≤140737488355328 by rw[zLs8,qAMg];omega)
 generalize hR:rowOf s.data.toList=R at *
 have HRR:=hide hR;clear hR
 go_enter Tryz.func166,Tryz.ntmps166
 go_wp2_with (first|(go_at_call 172;refine (qfml _ _).mono ?_;rintro e w1 ⟨rfl,rfl⟩)|(go_at_call 196;refine (jszi _ (by omega) (by omega) _).mono ?_;rintro e w1 ⟨rfl,rfl⟩)|(go_at_call 197;refine (XISk _ hsz _).mono ?_;rintro e w1 ⟨rfl,hb1⟩;rw[HRR.out])|(at_make;refine wpList_make_full _ rfl _ _ 52 rfl (w1.heap.size+1) 3 i0 (.int .i64 0) 1 Tryz.underlying52 hi hz0 hz1 .i64 .i64 _ _ n rfl rfl rfl rfl (by rw[hz2];omega) (by unfold maxLen;omega) (by simp) ?_;intro w2 hown hgr))
 have hb2:Below w.heap.size w w2:=((hb1.alloc hb1.size _).grown hgr (by have:=hb1.size;simp;omega) (by simp))
 have hk2:w2.heap[w1.heap.size]?=some (.cells #[.string (str R)] 9 (0,0)):=by
  rw[hgr.block w1.heap.size (by simp) (by simp)];exact heap_alloc_new w1 _
 have hs2:w1.heap.size+1≤w2.heap.size:=by have:=hgr.size;simpa using this
 have hs1:=hb1.size
 clear hgr
 go_loopw [35] (fun i wr=>∃k:Nat,k≤n∧i=.int .i64 k∧wr.heap[w1.heap.size]?=some (.cells #[.string (str (R.drop (k*D)))] 9 (0,0)) ∧
   wr.ownsRow (w1.heap.size+1) 3 1 (.slice (some ⟨w1.heap.size+1,0,none⟩) n n) n (qkdA R D n k)∧Below w.heap.size w wr)
  (fun i _=>n-(intOf i).toNat)
 case atStart=>exact ⟨0,Nat.zero_le _,rfl,by simpa using hk2,by rw[Xdbw];rw[show (w1.alloc (Obj.cells #[Value.string (str R)] 9)).heap.size=w1.heap.size+1 by simp] at hown;exact hown,hb2⟩
 case round =>
  obtain ⟨k,hk,rfl,hbk,ho,hb⟩:=hrel
  clear hown hk2 hb2
  by_cases hlt:k<n
  ·have hkm:(k+1)*D≤m:=by rw[HM.out];exact Nat.mul_le_mul_right _ hlt
   rw[Nat.succ_mul] at hkm
   have hL1:D≤(R.drop (k*D)).length:=by have:=HRL.out;rw[List.length_drop];omega
   have hL2:(R.drop (k*D)).length≤140737488355328:=by have:=HRU.out;rw[List.length_drop];omega
   have HB:=hide (show allB ((R.drop (k*D)).take D)=true from zTn5 (Xvwf HR.out _) _)
   have hcl:((R.drop (k*D)).take D).length=D:=by rw[List.length_take];omega
   have hV:XJ2V (str ((R.drop (k*D)).take D))=valOf ((R.drop (k*D)).take D):=if_pos ⟨HB.out,by rw[qzX5,hcl];exact hD⟩
   have hVs:(str ((R.drop (k*D)).take D)).size≤maxLen:=by rw[qzX5,hcl];unfold maxLen;omega
   have c1:=ho.cellAt k (by omega)
   rw[qHxz R D n k hlt] at c1
   have f1:=ho.frozenAt k
   have HS:=hide (qorx R D n k hlt)
   have HD:=hide (show (R.drop (k*D)).drop D=R.drop ((k+1)*D) by rw[List.drop_drop,Nat.succ_mul])
   clear hkm hcl
   generalize R.drop (k*D)=L at *
   generalize valOf (L.take D)=V at *
   go_wp2_with (first|(go_at_call 198;refine (q0cd L D hL1 hL2 w1.heap.size _ hbk).mono ?_;rintro e w3 ⟨rfl,rfl⟩)|(go_at_call 199;refine (quOn _ _ hVs).mono ?_;rintro e w3 ⟨rfl,rfl⟩))
   have ho3:=((ownsRow_setCell_below ho (a:=⟨w1.heap.size,0,none⟩) (Nat.lt_succ_self _) (.string (str (L.drop D)))).stored k (.int .i64 (V:Int))).1
   rw[HS.out] at ho3
   have hk3:((wr.setCell ⟨w1.heap.size,0,none⟩ (.string (str (L.drop D)))).setCell ⟨w1.heap.size+1,k,none⟩ (.int .i64 (V:Int))).heap[w1.heap.size]?=some (.cells #[.string (str (L.drop D))] 9 (0,0)):=by
    rw[Below.heap_setCell _ _ _ _ (by simp)]
    exact heap_setCell_same wr w1.heap.size 0 _ _ _ hbk
   rw[HD.out] at hk3 ho3
   go_roundw
   case rel =>
    rw[HD.out]
    exact ⟨k+1,by omega,by go_num,hk3,ho3,(hb.setCell (p:=⟨w1.heap.size,0,none⟩) hs1 _).setCell (p:=⟨w1.heap.size+1,k,none⟩) (Nat.le_succ_of_le hs1) _⟩
   case measure=>simp[intOf];omega
  ·obtain rfl:k=n:=by omega
   rw[jjDS] at ho
   rw[←HM.out] at hbk
   have c0:wr.cell? ⟨w1.heap.size,0,none⟩=some (.string (str (R.drop m))):=by rw[Lib.cell_of_heap hbk];rfl
   have hints:jCvT wr (.slice (some ⟨w1.heap.size+1,0,none⟩) k k) (vals R D k):=jCvT.own (by rw[z3uI];exact ho) (by rw[z3uI];omega)
   clear ho hbk
   by_cases hone:qMvX (R.drop m)=true
   ·go_wp2_with (go_at_call 200;refine (XxUc _ _).mono ?_;rintro e w3 ⟨rfl,rfl⟩)
    go_ret2
    exact ⟨_,rfl,jCvT.nil _,hb⟩
   ·have hone:qMvX (R.drop m)=false:=by simpa using hone
    go_wp2_with (go_at_call 200;refine (XxUc _ _).mono ?_;rintro e w3 ⟨rfl,rfl⟩)
    go_ret2
    exact ⟨_,rfl,hints,hb⟩
theorem qy7u {d n:Int} (h1:1≤d) (h2:d≤16) (h3:0≤n) (h4:n≤4096):0≤n*d∧n*d≤65536:=by
 obtain ⟨a,rfl⟩:=Int.eq_ofNat_of_zero_le h3
 obtain ⟨b,rfl⟩:=Int.eq_ofNat_of_zero_le (show 0≤d by omega)
 have h:a*b≤4096*16:=Nat.mul_le_mul (by omega) (by omega)
 rw[←Int.natCast_mul]
 omega
theorem jRYs (s:List UInt8) (d n:Int) :
  (unpE s d n=3∧unpV s d n=[]∧(XSys d=false∨(XSys d=true∧n<0))) ∨
  (unpE s d n=2∧unpV s d n=[]∧XSys d=true∧4096<n) ∨
  (unpE s d n=1∧unpV s d n=[]∧XSys d=true∧0≤n∧n≤4096∧s.length≠(n.toNat*d.toNat+7) / 8) ∨
  (∃D N:Nat,d=D∧n=N∧1≤D∧D≤16∧N≤4096∧s.length=(N*D+7) / 8 ∧
   unpE s d n=(if qMvX ((rowOf s).drop (N*D))=true then 1 else 0)∧unpV s d n=if qMvX ((rowOf s).drop (N*D))=true then [] else vals (rowOf s) D N):=by
 by_cases hd:XSys d=true
 ·have hd16:1≤d∧d≤16:=by simpa [XSys] using hd
  by_cases h0:0≤n
  ·by_cases h1:n≤4096
   ·by_cases hl:s.length=(n.toNat*d.toNat+7) / 8
    ·right;right;right
     refine ⟨d.toNat,n.toNat,by omega,by omega,by omega,by omega,by omega,hl,?_,?_⟩
     ·rw[unpE,if_pos ⟨hd,h0⟩,if_pos h1]
      by_cases ho:qMvX ((rowOf s).drop (n.toNat*d.toNat))=true
      ·rw[if_pos ho,if_neg (by simp[Xpy1,ho])]
      ·have ho:qMvX ((rowOf s).drop (n.toNat*d.toNat))=false:=by simpa using ho
       have hf:Xpy1 s d n=true:=by simp only[Xpy1,decide_eq_true_eq];exact ⟨hd,h0,h1,hl,ho⟩
       rw[if_pos hf,if_neg (by simp[ho])]
     ·rw[unpV]
      by_cases ho:qMvX ((rowOf s).drop (n.toNat*d.toNat))=true
      ·rw[if_pos ho,if_neg (by simp[Xpy1,ho])]
      ·have ho:qMvX ((rowOf s).drop (n.toNat*d.toNat))=false:=by simpa using ho
       have hf:Xpy1 s d n=true:=by simp only[Xpy1,decide_eq_true_eq];exact ⟨hd,h0,h1,hl,ho⟩
       rw[if_pos hf,if_neg (by simp[ho])]
    ·have hf:¬Xpy1 s d n=true:=by simp only[Xpy1,decide_eq_true_eq];exact fun h=>hl h.2.2.2.1
     exact .inr (.inr (.inl ⟨by rw[unpE,if_pos ⟨hd,h0⟩,if_pos h1,if_neg hf],by rw[unpV,if_neg hf],hd,h0,h1,hl⟩))
   ·have hf:¬Xpy1 s d n=true:=by simp only[Xpy1,decide_eq_true_eq];exact fun h=>h1 h.2.2.1
    exact .inr (.inl ⟨by rw[unpE,if_pos ⟨hd,h0⟩,if_neg h1],by rw[unpV,if_neg hf],hd,by omega⟩)
  ·have hf:¬Xpy1 s d n=true:=by simp only[Xpy1,decide_eq_true_eq];exact fun h=>h0 h.2.1
   exact .inl ⟨by rw[unpE,if_neg (fun h=>h0 h.2)],by rw[unpV,if_neg hf],.inr ⟨hd,by omega⟩⟩
 ·have hf:¬Xpy1 s d n=true:=by simp only[Xpy1,decide_eq_true_eq];exact fun h=>hd h.1
  exact .inl ⟨by rw[unpE,if_neg (fun h=>hd h.1)],by rw[unpV,if_neg hf],.inl (by simpa using hd)⟩
theorem qNqX (s:ByteArray) (d n:Int) (w:World) :
  Calls Tryz.prog 166 #[.string s,.int .i64 d,.int .i64 n] w fun e w'=>∃v,e=.returned (.tuple #[v,.int .i64 (unpE s.data.toList d n)])∧jCvT w' v (unpV s.data.toList d n)∧Below w.heap.size w w':=by
 rcases jRYs s.data.toList d n with ⟨hE,hV,h|⟨h1,h2⟩⟩|⟨hE,hV,h1,h2⟩|⟨hE,hV,h1,h2,h3,h4⟩|⟨D,N,rfl,rfl,h1,h2,h3,h4,hE,hV⟩
 ·have HE:=hide hE;have HV:=hide hV;clear hE hV
  go_enter Tryz.func166,Tryz.ntmps166
  go_wp2_with (go_at_call 172;refine (qfml _ _).mono ?_;rintro e w1 ⟨rfl,rfl⟩)
  go_ret2
  rw[HE.out,HV.out]
  exact ⟨_,rfl,jCvT.nil _,Below.refl _ _⟩
 ·have HE:=hide hE;have HV:=hide hV;clear hE hV
  go_enter Tryz.func166,Tryz.ntmps166
  go_wp2_with (go_at_call 172;refine (qfml _ _).mono ?_;rintro e w1 ⟨rfl,rfl⟩)
  go_ret2
  rw[HE.out,HV.out]
  exact ⟨_,rfl,jCvT.nil _,Below.refl _ _⟩
 ·have HE:=hide hE;have HV:=hide hV;clear hE hV
  go_enter Tryz.func166,Tryz.ntmps166
  go_wp2_with (go_at_call 172;refine (qfml _ _).mono ?_;rintro e w1 ⟨rfl,rfl⟩)
  go_ret2
  rw[HE.out,HV.out]
  exact ⟨_,rfl,jCvT.nil _,Below.refl _ _⟩
 ·have HE:=hide hE;have HV:=hide hV;clear hE hV
  have hd16:1≤d∧d≤16:=by simpa [XSys] using h1
  obtain ⟨hm0,hm1⟩:=qy7u hd16.1 hd16.2 h2 h3
  have hmm:n*d=((n.toNat*d.toNat:Nat):Int):=by
   rw[Int.natCast_mul,Int.toNat_of_nonneg h2,Int.toNat_of_nonneg (by omega)]
  have hne:((s.size:Int) != (n*d+7) / 8)=true:=by
   rw[qAMg] at h4
   rw[hmm]
   generalize n.toNat*d.toNat=z at *
   simp
   omega
  clear hmm h4 hd16
  go_enter Tryz.func166,Tryz.ntmps166
  go_wp2_with (first|(go_at_call 172;refine (qfml _ _).mono ?_;rintro e w1 ⟨rfl,rfl⟩)|(go_at_call 196;refine (jszi _ (by omega) (by omega) _).mono ?_;rintro e w1 ⟨rfl,rfl⟩))
  go_ret2
  rw[HE.out,HV.out]
  exact ⟨_,rfl,jCvT.nil _,Below.refl _ _⟩
 ·rw[hE,hV]
  exact qL6X s D N h1 h2 h3 (by rw[←qAMg];exact h4) w
theorem zEmR (l:List UInt8) (s:ByteArray):((str l).toList == s.toList)=decide (l=s.data.toList):=by
 rw[Lib.toList_data,Lib.toList_data,jrcE,Bool.eq_iff_iff,decide_eq_true_eq,beq_iff_eq]
end Go.Proofs.YtfjeonehdlphiaaGreatDoor
