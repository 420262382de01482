/- Re: part 4 of what the proofs need. -/
import Derived.Test.YtfjeonehdlphiaaGreatDoorC2Re
import Derived.RangeFuncNested
import Derived.RangeFuncBound
import Derived.Shelf.RegionOpen
import Derived.OwnWalkIn
import Derived.LoopNIn
import Derived.LoopIn
set_option linter.unusedVariables false
set_option maxHeartbeats 1000000
set_option maxRecDepth 100000
namespace Go.Proofs.YtfjeonehdlphiaaGreatDoor
open Go.RowKit Go.Shelf
attribute [local go_sem] Oper.semAt_some
def idx (N k:Nat):List (Fin N):=(List.finRange N).take k
theorem zbJt (N k:Nat) (h:k<N):idx N (k+1)=idx N k++[⟨k,h⟩]:=by
 unfold idx;rw[List.take_succ_eq_append_getElem (by simpa using h)];simp
theorem zBZc (N k:Nat) (h:k≤N):(idx N k).length=k:=by unfold idx;simp;omega
theorem zq3o (N k:Nat):idx N k <+: List.finRange N:=List.take_prefix _ _
theorem jEoj (N:Nat):idx N N=List.finRange N:=List.take_of_length_le (by simp)
theorem zhtE {α:Type} (N:Nat) (f:Nat→α):(List.finRange N).map (fun j=>f j.1)=(List.range N).map f:=by
 apply List.ext_getElem
 ·simp
 ·intro i h1 h2;simp
def KeepB (Bg:Nat) (A B:World):Prop:=B.heap[Bg]?=A.heap[Bg]?
theorem j95T (F:Fence) (n:Nat) (hf:F.fn 154) (hro:F.round=none) (hn:1≤n) (l Bg W H N:Nat) (hW:W≤64) (hH:H≤64) (hN:N=H*W) (J Jx:List (Fin N)→World→Prop)
  (hY:∀pre (x:Fin N) V,J pre V→pre.length<N→YieldAt F (n-1) Tryz.prog l #[.agg #[.int .i64 (x.1 % W:Nat),.int .i64 (x.1 / W:Nat)]] V fun e V' =>
   (e=.returned (.bool true)∧J (pre++[x]) V'∧KeepB Bg V V')∨(e=.returned (.bool false)∧Jx (pre++[x]) V'))
  (V:World) (hc0:V.cell? ⟨Bg,0,none⟩=some (.int .i64 W)) (hc1:V.cell? ⟨Bg,1,none⟩=some (.int .i64 H)) (h0:J [] V) :
  CallsIn F n Tryz.prog 154 #[.func (.yield l) #[] #[],.pointer (some ⟨Bg,0,none⟩)] V fun e V'=>(∃v,e=.returned v) ∧
   ((∃ys,ys=List.finRange N∧J ys V')∨(∃pre,pre <+: List.finRange N∧Jx pre V')):=by
 have HN:=hide hN
 clear hN
 refine callsIn_of_wp Tryz.func154 rfl hf ?_ hro
 simp only[Tryz.ntmps154,List.size_toArray,List.length_cons,List.length_nil,Nat.reduceAdd,Nat.reduceSub,Array.replicate_succ,Array.replicate_zero,List.push_toArray,List.append_toArray,List.nil_append,List.cons_append]
 gi_wp2
 gi_loopw [7] (fun i wr=>∃y:Nat,y≤H∧i=.int .i64 y∧J (idx N (y*W)) wr∧wr.cell? ⟨Bg,0,none⟩=some (.int .i64 W)) (fun i _=>H-(intOf i).toNat)
 case atStart=>exact ⟨0,Nat.zero_le _,rfl,by rw[Nat.zero_mul];exact h0,hc0⟩
 case round =>
  obtain ⟨y,hy,rfl,hJ,c0⟩:=hrel
  clear hc0 hc1 h0
  by_cases hlt:y<H
  ·have hd:decide ((y:Int)<(H:Int))=true:=by simp;omega
   obtain ⟨M,hM⟩:∃M,M=y*W:=⟨_,rfl⟩
   rw[←hM] at hJ
   have hmul:M+W≤N:=by
    rw[HN.out,hM,←Nat.succ_mul];exact Nat.mul_le_mul_right W hlt
   have HMUL:=hide hmul
   have HPL:=hide (fun x (hx:x<W)=>show (M+x) % W=x∧(M+x) / W=y by rw[hM];exact X4G3 hx)
   have HNX:=hide (show idx N ((y+1)*W)=idx N (M+W) by rw[Nat.succ_mul,hM])
   clear hM hmul
   gi_wp2
   gi_loopw [12] (fun i wr=>∃x:Nat,x≤W∧i=.int .i64 x∧J (idx N (M+x)) wr∧wr.cell? ⟨Bg,0,none⟩=some (.int .i64 W)) (fun i _=>W-(intOf i).toNat)
   case atStart=>exact ⟨0,Nat.zero_le _,rfl,hJ,c0⟩
   case round =>
    clear hJ c0
    obtain ⟨x,hx,rfl,hJ,c0⟩:=hrel
    by_cases hxl:x<W
    ·have hd2:decide ((x:Int)<(W:Int))=true:=by simp;omega
     have hxN:M+x<N:=by have:=HMUL.out;omega
     have HSP:=hide (zbJt N (M+x) hxN)
     have HPR:=hide (show idx N (M+x)++[⟨M+x,hxN⟩] <+: List.finRange N by
      rw[←HSP.out];exact zq3o N _)
     have hYx:=hY (idx N (M+x)) ⟨M+x,hxN⟩ _ hJ (by rw[zBZc _ _ (by omega)];exact hxN)
     simp only[(HPL.out x hxl).1,(HPL.out x hxl).2] at hYx
     obtain ⟨fn,tmps,assign,body,hy',hR⟩:=hYx
     gi_wp2
     refine hR.mono ?_
     rintro e V3 (⟨rfl,hJ3,hk3⟩|⟨rfl,hJx3⟩)
     ·have c3:=(World.cell?_of_block (a:=⟨Bg,0,none⟩) hk3).trans c0
      rw[←HSP.out] at hJ3
      gi_wp2
      go_roundw
      case rel=>exact ⟨x+1,by omega,by go_num,hJ3,c3⟩
      case measure=>simp[intOf];omega
     ·gi_wp2
      refine bodyPost_ret (results_none rfl _ _ _) rfl ?_
      exact ⟨⟨_,rfl⟩,.inr ⟨_,HPR.out,hJx3⟩⟩
    ·have hd2:decide ((x:Int)<(W:Int))=false:=by simp;omega
     obtain rfl:x=W:=by omega
     gi_wp2
     go_roundw
     case rel=>exact ⟨y+1,by omega,by go_num,by rw[HNX.out];exact hJ,c0⟩
     case measure=>simp[intOf];omega
  ·obtain rfl:y=H:=by omega
   have hd:decide ((y:Int)<(y:Int))=false:=by simp
   gi_wp2
   go_end0
   exact ⟨⟨_,rfl⟩,.inl ⟨_,by rw[←HN.out,jEoj],hJ⟩⟩
end Go.Proofs.YtfjeonehdlphiaaGreatDoor
