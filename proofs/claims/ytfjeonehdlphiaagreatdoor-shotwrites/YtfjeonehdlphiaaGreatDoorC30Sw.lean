/- Sw: part 30 of what the proofs need. -/
import Derived.Test.YtfjeonehdlphiaaGreatDoorC3Sw
import Derived.Test.YtfjeonehdlphiaaGreatDoorC5Sw
import Derived.Test.YtfjeonehdlphiaaGreatDoorC6Sw
import Derived.Test.YtfjeonehdlphiaaGreatDoorC12Sw
import Derived.Test.YtfjeonehdlphiaaGreatDoorC16Sw
import Derived.Test.YtfjeonehdlphiaaGreatDoorC28Sw
import Derived.Deep.CutBlock
import Derived.Lib.AppendIntMem
set_option linter.unusedVariables false
set_option maxHeartbeats 6400000
set_option maxRecDepth 100000
namespace Go.Proofs.YtfjeonehdlphiaaGreatDoor
open Go.RowKit
theorem jEJa (a b:List UInt8):str a++str b=str (a++b):=by
 apply ByteArray.ext
 simp[str]
def PowAt (w:World):Prop:=1<w.heap.size∧Lib.TabIs Tryz.prog w "internal/strconv.uint64pow10" .u64 Lib.pow10Tab
theorem gPow:Tryz.prog.globalNamed "internal/strconv.uint64pow10" = some 1:=by kernel_rfl
theorem PowAt.below {w w':World} {B:Nat} (h:PowAt w) (hb:Below B w w') (hB:w.heap.size≤B):PowAt w':=by
 refine ⟨Nat.lt_of_lt_of_le h.1 hb.size,?_⟩
 have h2:=h.2
 unfold Lib.TabIs World.var? at *
 rw[gPow] at *
 simp only[Option.bind_some] at *
 rw[hb.block 1 (Nat.lt_of_lt_of_le h.1 hB)]
 exact h2
theorem jk83 (n:Nat) (hn:n≤9223372036854775807) (w:World) (hp:PowAt w):Calls Tryz.prog 97 #[.int .i64 n] w fun e w'=>e=.returned (.string (str (dig n)))∧Below w.heap.size w w':=by
 refine (Tryz.strconv_Itoa n (by omega) (by omega) w hp.2).mono ?_
 rintro e w' ⟨rfl,k,os,rfl⟩
 exact ⟨by rw[Lib.itoa_nonneg];rfl,Lib.below_grow _ _ (Nat.le_refl _) _ _⟩
theorem qQCu (a b:Int) (deep:Bool) (w:World):Calls Tryz.prog 29 #[.int .i64 a,.int .i64 b,.bool deep] w fun e w'=>e=.returned (.agg #[.int .i64 a,.int .i64 b,.int .i64 (hdM deep:Nat)])∧Below w.heap.size w w':=by
 cases deep
 ·go_enter Tryz.func29,Tryz.ntmps29
  go_wp2
  refine bodyPost_ret (v:=.agg #[.int .i64 a,.int .i64 b,.int .i64 255]) (by simp[results,Tryz.results29,go_sem]) rfl ⟨rfl,qUNz _ _⟩
 ·go_enter Tryz.func29,Tryz.ntmps29
  go_wp2
  refine bodyPost_ret (v:=.agg #[.int .i64 a,.int .i64 b,.int .i64 65535]) (by simp[results,Tryz.results29,go_sem]) rfl ⟨rfl,qUNz _ _⟩
theorem qulr (a b c:Int) (w:World):Calls Tryz.prog 39 #[.agg #[.int .i64 a,.int .i64 b,.int .i64 c]] w fun e w'=>e=.returned (.bool (c == 65535))∧Below w.heap.size w w':=by
 go_enter Tryz.func39,Tryz.ntmps39
 go_wp2
 go_ret
 exact ⟨rfl,qUNz _ _⟩
def jaI1 (a b c:Int):Bool:=allIn 1 64 [a,b] && (c == 65535 || c == 255)
theorem j8Wp (a b c:Int) (w:World):Calls Tryz.prog 100 #[.agg #[.int .i64 a,.int .i64 b,.int .i64 c]] w fun e w'=>e=.returned (.bool (jaI1 a b c))∧Below w.heap.size w w':=by
 have HW:=hide (qFis 1 64 _ [a,b] _ (zYDK (w.alloc (Obj.cells #[.int .i64 a,.int .i64 b,.int .i64 c] 82)) a b))
 have HB:=hide (be2 w (Obj.cells #[.int .i64 a,.int .i64 b,.int .i64 c] 82) (.cells #[.int .i64 a,.int .i64 b] 3))
 have HR:=hide (show jaI1 a b c=(allIn 1 64 [a,b] && (c == 65535 || c == 255)) from rfl)
 obtain ⟨a1,a2⟩:=al2 w (Obj.cells #[.int .i64 a,.int .i64 b,.int .i64 c] 82) (.cells #[.int .i64 a,.int .i64 b] 3)
 rw[World.size_alloc] at HW
 obtain ⟨c0,c1,c2⟩:=z5EY a1
 go_enter Tryz.func100,Tryz.ntmps100
 go_wp2_with fail
 refine (HW.out).mono ?_
 rintro e V1 ⟨rfl,rfl⟩
 generalize allIn 1 64 [a,b]=R at *
 generalize (w.alloc (Obj.cells #[.int .i64 a,.int .i64 b,.int .i64 c] 82)).alloc (.cells #[.int .i64 a,.int .i64 b] 3)=U at *
 cases R
 ·go_wp2
  go_ret
  exact ⟨by rw[HR.out];rfl,HB.out⟩
 ·by_cases h1:c=65535
  ·subst h1
   go_wp2
   go_ret
   exact ⟨by rw[HR.out];rfl,HB.out⟩
  ·have e1:(c == 65535)=false:=by simpa using h1
   go_wp2
   go_ret
   exact ⟨by rw[HR.out,e1];simp,HB.out⟩
theorem XNJM {a b c:Int} (h:jaI1 a b c=true):∃(x y:Nat) (d:Bool),a=x∧b=y∧c=(hdM d:Nat)∧1≤x∧x≤64∧1≤y∧y≤64:=by
 unfold jaI1 allIn at h
 simp only[List.all_cons,List.all_nil,Bool.and_true,Bool.and_eq_true,Bool.or_eq_true,decide_eq_true_eq,beq_iff_eq] at h
 obtain ⟨⟨⟨h1,h2⟩,h3,h4⟩,h5⟩:=h
 obtain ⟨x,rfl⟩:=Int.eq_ofNat_of_zero_le (show 0≤a by omega)
 obtain ⟨y,rfl⟩:=Int.eq_ofNat_of_zero_le (show 0≤b by omega)
 rcases h5 with rfl|rfl
 ·exact ⟨x,y,true,rfl,rfl,rfl,by omega,by omega,by omega,by omega⟩
 ·exact ⟨x,y,false,rfl,rfl,rfl,by omega,by omega,by omega,by omega⟩
theorem jwGN {x y:Nat} (d:Bool) (h1:1≤x) (h2:x≤64) (h3:1≤y) (h4:y≤64):jaI1 x y (hdM d:Nat)=true:=by
 unfold jaI1 allIn
 cases d
 ·simp[hdM];omega
 ·simp[hdM];omega
theorem qgJE (a b:Nat) (d:Bool) (ha:a≤64) (hb:b≤64) (w:World):Calls Tryz.prog 37 #[.agg #[.int .i64 a,.int .i64 b,.int .i64 (hdM d:Nat)]] w fun e w'=>e=.returned (.int .i64 ((szP d*(3*a*b):Nat):Int))∧Below w.heap.size w w':=by
 have hab:a*b≤64*64:=Nat.mul_le_mul ha hb
 have HM:=hide (show (3:Int)*a*b=((3*a*b:Nat):Int) by simp)
 have hm3:3*a*b≤12288:=by rw[Nat.mul_assoc];omega
 have e1:IntKind.i64.wrap (3*(a:Int))=3*a:=IntWalk.i64_in _ (by omega)
 have HD:=hide (fun u=>qulr a b (hdM d:Nat) u)
 have a1:=al1 w (Obj.cells #[.int .i64 a,.int .i64 b,.int .i64 (hdM d:Nat)] 82)
 have HB:=hide (qUNz w (Obj.cells #[.int .i64 a,.int .i64 b,.int .i64 (hdM d:Nat)] 82))
 obtain ⟨c0,c1,c2⟩:=z5EY a1
 obtain ⟨M,hM⟩:∃M:Nat,3*a*b=M:=⟨_,rfl⟩
 rw[hM] at HM hm3
 have e2:IntKind.i64.wrap (3*(a:Int)*b)=(M:Int):=by rw[HM.out];exact IntWalk.i64_in _ (by omega)
 have e3:IntKind.i64.wrap (2*(M:Int))=((2*M:Nat):Int):=by rw[IntWalk.i64_in _ (by omega)];simp
 have HS:=hide (show szP d*(3*a*b)=if d then 2*M else M by rw[hM];unfold szP;cases d<;>simp)
 generalize szP d*(3*a*b)=Z at *
 have HE:=hide (q517 d)
 generalize ((hdM d:Nat):Int)=C at *
 clear hM HM hab ha hb
 go_enter Tryz.func37,Tryz.ntmps37
 go_wp2_with fail
 generalize w.alloc (Obj.cells #[.int .i64 a,.int .i64 b,.int .i64 C] 82)=U at *
 refine (HD.out U).mono ?_
 rintro e V ⟨rfl,hb1⟩
 rw[HE.out]
 have HBF:=hide (quJN HB.out hb1)
 clear hb1 c0 c1 c2 a1
 cases d
 ·go_wp2
  go_ret
  exact ⟨by rw[HS.out];rfl,HBF.out⟩
 ·go_wp2
  go_ret
  exact ⟨by rw[HS.out];rfl,HBF.out⟩
theorem zwtP:∀(k n:Nat),n<10 ^ (k+1)→(dig n).length≤k+1
 | 0,n,h=>by rw[dig,Lib.decDigits_one (by simpa using h)];simp
 | k+1,n,h=>by
  rw[dig,Lib.decDigits]
  split
  ·simp
  ·have:=zwtP k (n / 10) (by rw[Nat.pow_succ] at h;omega)
   simp only[List.length_append,List.length_cons,List.length_nil]
   have h2:(Lib.decDigits (n / 10)).length≤k+1:=this
   omega
theorem dig5 {n:Nat} (h:n≤65535):(dig n).length≤5:=zwtP 4 n (by omega)
def hT (a b c:Nat):Nat→List UInt8
 | 0=>[80,54,10]
 | 1=>[80,54,10]++(dig a++[32])
 | 2=>([80,54,10]++(dig a++[32]))++(dig b++[10])
 | _=>headT a b c
theorem zAed {a b c:Nat} (ha:a≤65535) (hb:b≤65535) (hc:c≤65535) (k:Nat) (hk:k≤3):(hT a b c k).length≤40:=by
 have h1:=dig5 ha
 have h2:=dig5 hb
 have h3:=dig5 hc
 rcases (show k=0∨k=1∨k=2∨k=3 by omega) with rfl|rfl|rfl|rfl<;>simp[hT,headT]<;>omega
theorem ends0:(⟨#[32,10,10]⟩:ByteArray).extract 0 1=str [32]:=by rfl
theorem ends1:(⟨#[32,10,10]⟩:ByteArray).extract 1 2=str [10]:=by rfl
theorem ends2:(⟨#[32,10,10]⟩:ByteArray).extract 2 3=str [10]:=by rfl
theorem qihl (a b c:Nat) (ha:a≤65535) (hb:b≤65535) (hc:c≤65535) (w:World) (hp:PowAt w):Calls Tryz.prog 30 #[.agg #[.int .i64 a,.int .i64 b,.int .i64 c]] w fun e w'=>e=.returned (.string (str (headT a b c)))∧Below w.heap.size w w':=by
 have ix0:∀V:World,(Instr.index 47 (.agg #[.int .i64 a,.int .i64 b,.int .i64 c]) (.int .i64 0)).run Tryz.prog V=.ok (.int .i64 a) V:=fun V=>by kernel_rfl
 have ix1:∀V:World,(Instr.index 47 (.agg #[.int .i64 a,.int .i64 b,.int .i64 c]) (.int .i64 1)).run Tryz.prog V=.ok (.int .i64 b) V:=fun V=>by kernel_rfl
 have ix2:∀V:World,(Instr.index 47 (.agg #[.int .i64 a,.int .i64 b,.int .i64 c]) (.int .i64 2)).run Tryz.prog V=.ok (.int .i64 c) V:=fun V=>by kernel_rfl
 have hw1:IntKind.i64.wrap 1=1:=by decide
 have hw2:IntKind.i64.wrap 2=2:=by decide
 have hw3:IntKind.i64.wrap 3=3:=by decide
 have HI:=hide (fun (n:Nat) (h:n≤65535) (u:World) (hu:PowAt u)=>jk83 n (by omega) u hu)
 have a1:=al1 w (Obj.cells #[.int .i64 a,.int .i64 b,.int .i64 c] 82)
 have HB:=hide (qUNz w (Obj.cells #[.int .i64 a,.int .i64 b,.int .i64 c] 82))
 have HP:=hide (fun (u:World) (hu:Below w.heap.size w u)=>hp.below hu (Nat.le_refl _))
 obtain ⟨c0,c1,c2⟩:=z5EY a1
 go_enter Tryz.func30,Tryz.ntmps30
 go_wp2_with fail
 clear c0 c1 c2 a1
 generalize w.alloc (Obj.cells #[.int .i64 a,.int .i64 b,.int .i64 c] 82)=U at *
 go_loopw [3,13] (fun t i wr=>∃k:Nat,k≤3∧i=.int .i64 k∧t=.string (str (hT a b c k))∧Below w.heap.size w wr) (fun _ i _=>3-(intOf i).toNat)
 case atStart=>exact ⟨0,by omega,rfl,rfl,HB.out⟩
 case round =>
  obtain ⟨k,hk,rfl,rfl,hbr⟩:=hrel
  obtain ⟨TT,hTT⟩:∃TT,str (hT a b c k)=TT:=⟨_,rfl⟩
  have HT:=hide hTT
  have hTs:TT.size≤40:=by rw[←hTT,qzX5];exact zAed ha hb hc k hk
  rw[hTT]
  have HBR:=hide hbr
  clear hTT hbr
  rcases (show k=0∨k=1∨k=2∨k=3 by omega) with rfl|rfl|rfl|rfl
  ·have hDs:(str (dig a)).size≤5:=by rw[qzX5];exact dig5 ha
   go_upto_region 5 with fail
   have hSd:(fun v=>PowAt v∧Below w.heap.size w v) wr.drew:=⟨(HP.out _ HBR.out).below (jom3 wr) (Nat.le_refl _),quJN HBR.out (jom3 wr)⟩
   have hmx:Tryz.prog.follows .mixedOrders=true:=by kernel_rfl
   refine qYgd (S:=(fun v=>PowAt v∧Below w.heap.size w v)) (f:=9) hmx ?_
   show jZdv _ _ _ _ _ _ 10 _ _ wr.drew
   refine takeQ 0 ?vv21 (some 17) [] ?yy21 hSd ?rr21
   case yy21=>(intro wq hSq;obtain ⟨_,_⟩:=hSq;go_simp<;>with_reducible rfl)
   simp only[Act.put,List.setIfInBounds_toArray,List.set_cons_succ,List.set_cons_zero]
   refine takeQ 1 ?vv22 (some 18) [] ?yy22 hSd ?rr22
   case yy22=>(intro wq hSq;obtain ⟨_,_⟩:=hSq;go_simp<;>with_reducible rfl)
   simp only[Act.put,List.setIfInBounds_toArray,List.set_cons_succ,List.set_cons_zero]
   refine takeQ 3 ?vv23 (some 20) [] ?yy23 hSd ?rr23
   case yy23=>(intro wq hSq;obtain ⟨_,_⟩:=hSq;go_simp<;>with_reducible rfl)
   simp only[Act.put,List.setIfInBounds_toArray,List.set_cons_succ,List.set_cons_zero]
   refine takeQ 4 ?vv24 (some 21) [] ?yy24 hSd ?rr24
   case yy24=>(intro wq hSq;obtain ⟨_,_⟩:=hSq;go_simp<;>with_reducible rfl)
   simp only[Act.put,List.setIfInBounds_toArray,List.set_cons_succ,List.set_cons_zero]
   refine takeQ 5 ?vv25 (some 22) [] ?yy25 hSd ?rr25
   case yy25=>(intro wq hSq;obtain ⟨_,_⟩:=hSq;go_simp<;>with_reducible rfl)
   simp only[Act.put,List.setIfInBounds_toArray,List.set_cons_succ,List.set_cons_zero]
   refine takeQ 6 ?vv26 (some 23) [] ?yy26 hSd ?rr26
   case yy26=>(intro wq hSq;obtain ⟨_,_⟩:=hSq;go_simp<;>with_reducible rfl)
   simp only[Act.put,List.setIfInBounds_toArray,List.set_cons_succ,List.set_cons_zero]
   refine znWj (i:=2) (o:=_) (by kernel_rfl) rfl (fun K' hK=>?_)
   rw[if_pos (by rfl)]
   go_simp
   refine (HI.out a ha _ hSd.1).mono ?_
   rintro e V1 ⟨rfl,hb1⟩
   have hSd:=(show (fun v=>PowAt v∧Below w.heap.size w v) _ from ⟨hSd.1.below hb1 (Nat.le_refl _),quJN hSd.2 hb1⟩)
   refine hK.out _ _ hSd ?_
   clear hK
   try simp only[Act.put]
   refine takeQ 7 ?vv27 (some 24) [] ?yy27 hSd ?rr27
   case yy27=>(intro wq hSq;obtain ⟨_,_⟩:=hSq;go_simp;rw[if_neg (by first|omega|(simp;omega))])
   simp only[Act.put,List.setIfInBounds_toArray,List.set_cons_succ,List.set_cons_zero]
   refine takeQ 8 ?vv28 (some 25) [] ?yy28 hSd ?rr28
   case yy28=>(intro wq hSq;obtain ⟨_,_⟩:=hSq;go_simp;rw[if_neg (by first|omega|(simp;omega))])
   simp only[Act.put,List.setIfInBounds_toArray,List.set_cons_succ,List.set_cons_zero]
   refine z9gO (o:=_) (by kernel_rfl) rfl (fun K' hK=>?_)
   rw[if_pos (by rfl)]
   go_simp
   refine hK.out _ _ ?_
   clear hK
   refine jFdp (by kernel_rfl) ?_ _
   try simp only[Act.put]
   have HB1:=hide hSd.2
   clear hSd
   go_wp2
   go_roundw
   case rel=>exact ⟨1,by omega,by go_num,by rw[←HT.out,ends0,jEJa,jEJa];rfl,HB1.out⟩
   case measure=>simp[intOf]
  ·have hDs:(str (dig b)).size≤5:=by rw[qzX5];exact dig5 hb
   go_upto_region 5 with fail
   have hSd:(fun v=>PowAt v∧Below w.heap.size w v) wr.drew:=⟨(HP.out _ HBR.out).below (jom3 wr) (Nat.le_refl _),quJN HBR.out (jom3 wr)⟩
   have hmx:Tryz.prog.follows .mixedOrders=true:=by kernel_rfl
   refine qYgd (S:=(fun v=>PowAt v∧Below w.heap.size w v)) (f:=9) hmx ?_
   show jZdv _ _ _ _ _ _ 10 _ _ wr.drew
   refine takeQ 0 ?vv41 (some 17) [] ?yy41 hSd ?rr41
   case yy41=>(intro wq hSq;obtain ⟨_,_⟩:=hSq;go_simp<;>with_reducible rfl)
   simp only[Act.put,List.setIfInBounds_toArray,List.set_cons_succ,List.set_cons_zero]
   refine takeQ 1 ?vv42 (some 18) [] ?yy42 hSd ?rr42
   case yy42=>(intro wq hSq;obtain ⟨_,_⟩:=hSq;go_simp<;>with_reducible rfl)
   simp only[Act.put,List.setIfInBounds_toArray,List.set_cons_succ,List.set_cons_zero]
   refine takeQ 3 ?vv43 (some 20) [] ?yy43 hSd ?rr43
   case yy43=>(intro wq hSq;obtain ⟨_,_⟩:=hSq;go_simp<;>with_reducible rfl)
   simp only[Act.put,List.setIfInBounds_toArray,List.set_cons_succ,List.set_cons_zero]
   refine takeQ 4 ?vv44 (some 21) [] ?yy44 hSd ?rr44
   case yy44=>(intro wq hSq;obtain ⟨_,_⟩:=hSq;go_simp<;>with_reducible rfl)
   simp only[Act.put,List.setIfInBounds_toArray,List.set_cons_succ,List.set_cons_zero]
   refine takeQ 5 ?vv45 (some 22) [] ?yy45 hSd ?rr45
   case yy45=>(intro wq hSq;obtain ⟨_,_⟩:=hSq;go_simp<;>with_reducible rfl)
   simp only[Act.put,List.setIfInBounds_toArray,List.set_cons_succ,List.set_cons_zero]
   refine takeQ 6 ?vv46 (some 23) [] ?yy46 hSd ?rr46
   case yy46=>(intro wq hSq;obtain ⟨_,_⟩:=hSq;go_simp<;>with_reducible rfl)
   simp only[Act.put,List.setIfInBounds_toArray,List.set_cons_succ,List.set_cons_zero]
   refine znWj (i:=2) (o:=_) (by kernel_rfl) rfl (fun K' hK=>?_)
   rw[if_pos (by rfl)]
   go_simp
   refine (HI.out b hb _ hSd.1).mono ?_
   rintro e V1 ⟨rfl,hb1⟩
   have hSd:=(show (fun v=>PowAt v∧Below w.heap.size w v) _ from ⟨hSd.1.below hb1 (Nat.le_refl _),quJN hSd.2 hb1⟩)
   refine hK.out _ _ hSd ?_
   clear hK
   try simp only[Act.put]
   refine takeQ 7 ?vv47 (some 24) [] ?yy47 hSd ?rr47
   case yy47=>(intro wq hSq;obtain ⟨_,_⟩:=hSq;go_simp;rw[if_neg (by first|omega|(simp;omega))])
   simp only[Act.put,List.setIfInBounds_toArray,List.set_cons_succ,List.set_cons_zero]
   refine takeQ 8 ?vv48 (some 25) [] ?yy48 hSd ?rr48
   case yy48=>(intro wq hSq;obtain ⟨_,_⟩:=hSq;go_simp;rw[if_neg (by first|omega|(simp;omega))])
   simp only[Act.put,List.setIfInBounds_toArray,List.set_cons_succ,List.set_cons_zero]
   refine z9gO (o:=_) (by kernel_rfl) rfl (fun K' hK=>?_)
   rw[if_pos (by rfl)]
   go_simp
   refine hK.out _ _ ?_
   clear hK
   refine jFdp (by kernel_rfl) ?_ _
   try simp only[Act.put]
   have HB1:=hide hSd.2
   clear hSd
   go_wp2
   go_roundw
   case rel=>exact ⟨2,by omega,by go_num,by rw[←HT.out,ends1,jEJa,jEJa];rfl,HB1.out⟩
   case measure=>simp[intOf]
  ·have hDs:(str (dig c)).size≤5:=by rw[qzX5];exact dig5 hc
   go_upto_region 5 with fail
   have hSd:(fun v=>PowAt v∧Below w.heap.size w v) wr.drew:=⟨(HP.out _ HBR.out).below (jom3 wr) (Nat.le_refl _),quJN HBR.out (jom3 wr)⟩
   have hmx:Tryz.prog.follows .mixedOrders=true:=by kernel_rfl
   refine qYgd (S:=(fun v=>PowAt v∧Below w.heap.size w v)) (f:=9) hmx ?_
   show jZdv _ _ _ _ _ _ 10 _ _ wr.drew
   refine takeQ 0 ?vv61 (some 17) [] ?yy61 hSd ?rr61
   case yy61=>(intro wq hSq;obtain ⟨_,_⟩:=hSq;go_simp<;>with_reducible rfl)
   simp only[Act.put,List.setIfInBounds_toArray,List.set_cons_succ,List.set_cons_zero]
   refine takeQ 1 ?vv62 (some 18) [] ?yy62 hSd ?rr62
   case yy62=>(intro wq hSq;obtain ⟨_,_⟩:=hSq;go_simp<;>with_reducible rfl)
   simp only[Act.put,List.setIfInBounds_toArray,List.set_cons_succ,List.set_cons_zero]
   refine takeQ 3 ?vv63 (some 20) [] ?yy63 hSd ?rr63
   case yy63=>(intro wq hSq;obtain ⟨_,_⟩:=hSq;go_simp<;>with_reducible rfl)
   simp only[Act.put,List.setIfInBounds_toArray,List.set_cons_succ,List.set_cons_zero]
   refine takeQ 4 ?vv64 (some 21) [] ?yy64 hSd ?rr64
   case yy64=>(intro wq hSq;obtain ⟨_,_⟩:=hSq;go_simp<;>with_reducible rfl)
   simp only[Act.put,List.setIfInBounds_toArray,List.set_cons_succ,List.set_cons_zero]
   refine takeQ 5 ?vv65 (some 22) [] ?yy65 hSd ?rr65
   case yy65=>(intro wq hSq;obtain ⟨_,_⟩:=hSq;go_simp<;>with_reducible rfl)
   simp only[Act.put,List.setIfInBounds_toArray,List.set_cons_succ,List.set_cons_zero]
   refine takeQ 6 ?vv66 (some 23) [] ?yy66 hSd ?rr66
   case yy66=>(intro wq hSq;obtain ⟨_,_⟩:=hSq;go_simp<;>with_reducible rfl)
   simp only[Act.put,List.setIfInBounds_toArray,List.set_cons_succ,List.set_cons_zero]
   refine znWj (i:=2) (o:=_) (by kernel_rfl) rfl (fun K' hK=>?_)
   rw[if_pos (by rfl)]
   go_simp
   refine (HI.out c hc _ hSd.1).mono ?_
   rintro e V1 ⟨rfl,hb1⟩
   have hSd:=(show (fun v=>PowAt v∧Below w.heap.size w v) _ from ⟨hSd.1.below hb1 (Nat.le_refl _),quJN hSd.2 hb1⟩)
   refine hK.out _ _ hSd ?_
   clear hK
   try simp only[Act.put]
   refine takeQ 7 ?vv67 (some 24) [] ?yy67 hSd ?rr67
   case yy67=>(intro wq hSq;obtain ⟨_,_⟩:=hSq;go_simp;rw[if_neg (by first|omega|(simp;omega))])
   simp only[Act.put,List.setIfInBounds_toArray,List.set_cons_succ,List.set_cons_zero]
   refine takeQ 8 ?vv68 (some 25) [] ?yy68 hSd ?rr68
   case yy68=>(intro wq hSq;obtain ⟨_,_⟩:=hSq;go_simp;rw[if_neg (by first|omega|(simp;omega))])
   simp only[Act.put,List.setIfInBounds_toArray,List.set_cons_succ,List.set_cons_zero]
   refine z9gO (o:=_) (by kernel_rfl) rfl (fun K' hK=>?_)
   rw[if_pos (by rfl)]
   go_simp
   refine hK.out _ _ ?_
   clear hK
   refine jFdp (by kernel_rfl) ?_ _
   try simp only[Act.put]
   have HB1:=hide hSd.2
   clear hSd
   go_wp2
   go_roundw
   case rel=>exact ⟨3,by omega,by go_num,by rw[←HT.out,ends2,jEJa,jEJa];rfl,HB1.out⟩
   case measure=>simp[intOf]
  ·go_wp2
   go_ret
   exact ⟨by rw[←HT.out];rfl,HBR.out⟩
def wrE (W H:Int) (ps:List Px):Int:=if picOk W H ps=true then 0 else 1
def wrS (W H:Int) (ps:List Px) (deep:Bool):List UInt8:=if picOk W H ps=true then shotB W H ps deep else []
def ptK (p:Px) (k:Nat):Int:=if k=0 then p.1 else if k=1 then p.2.1 else p.2.2
def prK (deep:Bool) (p:Px):Nat→List UInt8
 | 0=>[]
 | 1=>prB deep p.1
 | 2=>prB deep p.1++prB deep p.2.1
 | _=>pxB deep p
theorem jSPI (deep:Bool) (p:Px) (k:Nat) (hk:k<3):prK deep p (k+1)=prK deep p k++prB deep (ptK p k):=by
 rcases (show k=0∨k=1∨k=2 by omega) with rfl|rfl|rfl
 ·rfl
 ·rfl
 ·show pxB deep p=(prB deep p.1++prB deep p.2.1)++prB deep p.2.2
  rw[pxB,List.append_assoc]
theorem prK_le (deep:Bool) (p:Px) (k:Nat) (hk:k≤3):(prK deep p k).length≤6:=by
 have hs:szP deep≤2:=by unfold szP;cases deep<;>decide
 rcases (show k=0∨k=1∨k=2∨k=3 by omega) with rfl|rfl|rfl|rfl
 ·show 0≤6;omega
 ·show (prB deep p.1).length≤6;rw[zssP];omega
 ·show (prB deep p.1++prB deep p.2.1).length≤6;rw[List.length_append,zssP,zssP];omega
 ·show (pxB deep p).length≤6;rw[qFjj];omega
theorem Xb2u {p:Px} (h:pxOk p=true):inP p.1∧inP p.2.1∧inP p.2.2:=by
 unfold pxOk allIn at h
 simp only[List.all_cons,List.all_nil,Bool.and_true,Bool.and_eq_true,decide_eq_true_eq] at h
 unfold inP
 omega
theorem ptK_in {p:Px} (h:pxOk p=true) (k:Nat):0≤ptK p k∧ptK p k≤65535:=by
 obtain ⟨h1,h2,h3⟩:=Xb2u h
 unfold ptK
 split
 ·exact h1
 ·split
  ·exact h2
  ·exact h3
theorem jkjJ {x:Int} (h:0≤x):UInt8.ofNat (x % 256).toNat=u8 x:=by
 apply UInt8.toNat_inj.1
 unfold u8
 simp
 omega
theorem qG8s (deep:Bool) (ps:List Px) (p:Px):pixB deep (ps++[p])=pixB deep ps++pxB deep p:=by simp[pixB]
theorem idx3 (p:Px) (k:Nat) (hk:k<3) (V:World):(Instr.index 47 (.agg #[.int .i64 p.1,.int .i64 p.2.1,.int .i64 p.2.2]) (.int .i64 k)).run Tryz.prog V=.ok (.int .i64 (ptK p k)) V:=by
 rcases (show k=0∨k=1∨k=2 by omega) with rfl|rfl|rfl
 ·exact (show (Instr.index 47 (.agg #[.int .i64 p.1,.int .i64 p.2.1,.int .i64 p.2.2]) (.int .i64 0)).run Tryz.prog V=.ok (.int .i64 p.1) V by kernel_rfl)
 ·exact (show (Instr.index 47 (.agg #[.int .i64 p.1,.int .i64 p.2.1,.int .i64 p.2.2]) (.int .i64 1)).run Tryz.prog V=.ok (.int .i64 p.2.1) V by kernel_rfl)
 ·exact (show (Instr.index 47 (.agg #[.int .i64 p.1,.int .i64 p.2.1,.int .i64 p.2.2]) (.int .i64 2)).run Tryz.prog V=.ok (.int .i64 p.2.2) V by kernel_rfl)
theorem zPEb (W H:Int) (v:Value) (ps:List Px) (deep:Bool) (w:World) (hp:PowAt w) (hv:IsPix w v ps) :
  Calls Tryz.prog 8 #[.agg #[.int .i64 W,.int .i64 H,v],.bool deep] w fun e w'=>e=.returned (.tuple #[.string (str (wrS W H ps deep)),.int .i64 (wrE W H ps)])∧Below w.heap.size w w':=by
 have HC:=hide (fun (u:World) (hu:Below w.heap.size w u)=>XDTU W H v ps u (hv.below hu (Nat.le_refl _)))
 have HP:=hide (fun (u:World) (hu:Below w.heap.size w u)=>hp.below hu (Nat.le_refl _))
 have HV:=hide hv
 obtain ⟨ao,ca,rfl,hla,hx⟩:=hv
 clear hx
 have a1:=al1 w (Obj.cells #[.int .i64 W,.int .i64 H,.slice ao ps.length ca] 24)
 have HB:=hide (qUNz w (Obj.cells #[.int .i64 W,.int .i64 H,.slice ao ps.length ca] 24))
 have hl1:=(Array.getElem?_eq_some_iff.1 a1).1
 obtain ⟨p0,p1,p2⟩:=z5EY a1
 by_cases hok:picOk W H ps=true
 rotate_left
 ·have HS:=hide (show wrS W H ps deep=[] from if_neg hok)
  have HE:=hide (show wrE W H ps=1 from if_neg hok)
  replace hok:picOk W H ps=false:=by simpa using hok
  rw[hok] at HC
  clear hok
  go_enter Tryz.func8,Tryz.ntmps8
  go_wp2_with fail
  clear p0 p1 p2
  generalize w.alloc (Obj.cells #[.int .i64 W,.int .i64 H,.slice ao ps.length ca] 24)=U at *
  refine (HC.out U HB.out).mono ?_
  rintro e V1 ⟨rfl,hb1⟩
  have HBF:=hide (quJN HB.out hb1)
  clear hb1
  go_wp2
  go_ret2
  exact ⟨by rw[HS.out,HE.out];rfl,HBF.out⟩
 have HS:=hide (show wrS W H ps deep=shotB W H ps deep from if_pos hok)
 have HE:=hide (show wrE W H ps=0 from if_pos hok)
 obtain ⟨⟨hW1,hW2⟩,⟨hH1,hH2⟩,hL,hpx⟩:=XMjn hok
 obtain ⟨WN,rfl⟩:=Int.eq_ofNat_of_zero_le (show 0≤W by omega)
 obtain ⟨HN,rfl⟩:=Int.eq_ofNat_of_zero_le (show 0≤H by omega)
 have hlen:ps.length≤4096:=by
  have:WN*HN≤64*64:=Nat.mul_le_mul (by omega) (by omega)
  have h2:(ps.length:Int)=((WN*HN:Nat):Int):=by rw[hL];simp
  omega
 rw[hok] at HC
 have HNW:=hide (fun u=>qQCu (WN:Int) (HN:Int) deep u)
 have hm65:hdM deep≤65535:=by cases deep<;>decide
 have HTX:=hide (fun (u:World) (hu:PowAt u)=>qihl WN HN (hdM deep) (by omega) (by omega) hm65 u hu)
 have HPX:=hide (fun (k:Nat) (hk:k<ps.length)=>ptK_in (List.all_eq_true.1 hpx _ (List.getElem_mem hk)))
 have hTl:(str (headT WN HN (hdM deep))).size≤40:=by rw[qzX5];exact zAed (a:=WN) (b:=HN) (c:=hdM deep) (by omega) (by omega) hm65 3 (by omega)
 have HSB:=hide (show shotB WN HN ps deep=headT WN HN (hdM deep)++pixB deep ps by rw[shotB];rfl)
 have HPL:=hide (fun k=>XF45 deep (ps.take k))
 have hsz2:szP deep≤2:=by unfold szP;cases deep<;>decide
 clear hok hL hpx hW1 hW2 hH1 hH2 hm65
 generalize headT WN HN (hdM deep)=HD at *
 have hDl:HD.length≤40:=by rw[←qzX5];exact hTl
 generalize ((hdM deep:Nat):Int)=HM at *
 go_enter Tryz.func8,Tryz.ntmps8
 go_wp2_with fail
 clear p0 p1 p2
 generalize w.alloc (Obj.cells #[.int .i64 (WN:Int),.int .i64 (HN:Int),.slice ao ps.length ca] 24)=U at *
 refine (HC.out U HB.out).mono ?_
 rintro e V1 ⟨rfl,hb1⟩
 have HBV:=hide (quJN HB.out hb1)
 have HST:=hide (Lib.fresh_isBuilder 76 5 V1)
 have g1:=(hb1.block _ hl1).trans a1
 have hl2:=(Array.getElem?_eq_some_iff.1 g1).1
 have HVV:=hide (HV.out.below HBV.out (Nat.le_refl _))
 have hbA:=qUNz V1 (Obj.cells #[.pointer none,.slice none 0 0] 76)
 have g2:=(hbA.block _ hl2).trans g1
 obtain ⟨p0,p1,p2⟩:=z5EY g2
 clear hb1 a1 HC
 go_wp2_with fail
 generalize hUB:V1.alloc (Obj.cells #[.pointer none,.slice none 0 0] 76)=UB at *
 clear hUB
 refine (HNW.out UB).mono ?_
 rintro e V2 ⟨rfl,hb2⟩
 have hpw:=HP.out _ (quJN (quJN HBV.out hbA) hb2)
 clear p0 p1 p2
 go_wp2_with fail
 refine (HTX.out V2 hpw).mono ?_
 rintro e V3 ⟨rfl,hb3⟩
 have hb23:=quJN hb2 hb3
 have hbd:=z2IW HST.out hb23 hbA.size
 have hsz3:=Nat.le_trans hbA.size hb23.size
 clear hpw hb2 hb3
 go_wp2_with fail
 refine (zeBQ V1.heap.size V1.heap.size [] _ _ hbd (by simp;omega) hsz3).mono ?_
 rintro e V4 ⟨rfl,hbd4,hb4⟩
 rw[List.nil_append,jrcE] at hbd4
 have hbW:=(hbA.trans (hb23.mono hbA.size)).trans hb4
 have g3:=(hbW.block _ hl2).trans g1
 obtain ⟨p0,p1,p2⟩:=z5EY g3
 have HBD:=hide hbd4
 have HBW:=hide hbW
 clear hbd4 hbW hb4 hbd hb23 g2 g1 hbA
 go_wp2_with fail
 clear p0 p1 p2 g3
 go_loopw [25] (fun i wr=>∃k:Nat,k≤ps.length∧i=.int .i64 k∧Lib.IsBuilder 76 5 V1.heap.size V1.heap.size (byt (HD++pixB deep (ps.take k))) wr∧Below V1.heap.size V1 wr) (fun i _=>ps.length-(intOf i).toNat)
 case atStart=>exact ⟨0,Nat.zero_le _,rfl,by rw[show pixB deep (ps.take 0)=[] from rfl,List.append_nil];exact HBD.out,HBW.out⟩
 case round =>
  clear HBD HBW
  obtain ⟨k,hk,rfl,hbd,hb⟩:=hrel
  have hsz:=hb.size
  have hpl:(pixB deep (ps.take k)).length≤24576:=by
   rw[HPL.out k,List.length_take,Nat.min_eq_left hk]
   have:szP deep*(3*k)≤2*(3*4096):=Nat.mul_le_mul hsz2 (by omega)
   omega
  by_cases hlt:k<ps.length
  rotate_left
  ·have hd:decide ((k:Int)<(ps.length:Int))=false:=by simp;omega
   have HX:=hide (show ps.take k=ps from List.take_of_length_le (by omega))
   rw[HX.out] at hbd
   go_wp2_with (go_at_call 32;refine (zCCW V1.heap.size V1.heap.size _ _ hbd hsz).mono ?_;rintro e w3 ⟨rfl,hb3⟩)
   go_ret2
   exact ⟨by rw[HS.out,HE.out,HSB.out];rfl,HBV.out.trans ((hb.trans hb3).mono HBV.out.size)⟩
  have hd:decide ((k:Int)<(ps.length:Int))=true:=by simp;omega
  obtain ⟨b,off,hao,hbl,hcell⟩:∃b off,ao=some ⟨b,off,none⟩∧b<V1.heap.size∧∀j (h:j<ps.length),V1.cell? ⟨b,off+j*3,none⟩=some (.int .i64 ps[j].1)∧V1.cell? ⟨b,off+j*3+1,none⟩=some (.int .i64 ps[j].2.1)∧V1.cell? ⟨b,off+j*3+2,none⟩=some (.int .i64 ps[j].2.2):=by
   obtain ⟨ao',cap',hv',_,hc⟩:=HVV.out
   simp only[Value.slice.injEq] at hv'
   obtain ⟨rfl,_,_⟩:=hv'
   rcases hc with h|h
   ·subst h;exact absurd hlt (by simp)
   ·exact h
  subst hao
  obtain ⟨d0,d1,d2⟩:=hcell k hlt
  have c0:=(hb.cell (p:=⟨b,off+k*3,none⟩) hbl).trans d0
  have c1:=(hb.cell (p:=⟨b,off+k*3+1,none⟩) hbl).trans d1
  have c2:=(hb.cell (p:=⟨b,off+k*3+2,none⟩) hbl).trans d2
  have HT:=hide (show pixB deep (ps.take (k+1))=pixB deep (ps.take k)++pxB deep ps[k] by rw[List.take_succ_eq_append_getElem hlt,qG8s])
  have HPK:=hide (HPX.out k hlt)
  clear hcell d0 d1 d2
  obtain ⟨pp,hpp⟩:∃pp,ps[k]=pp:=⟨_,rfl⟩
  rw[hpp] at c0 c1 c2 HT HPK
  clear hpp
  have t1:=al1 wr (Obj.cells #[.int .i64 pp.1,.int .i64 pp.2.1,.int .i64 pp.2.2] 61)
  obtain ⟨q0,q1,q2⟩:=z5EY t1
  have hbx:=qUNz wr (Obj.cells #[.int .i64 pp.1,.int .i64 pp.2.1,.int .i64 pp.2.2] 61)
  have HBD:=hide (z2IW hbd hbx hsz)
  have HBX:=hide (hb.trans (hbx.mono hsz))
  have HSK:=hide (fun (j:Nat) (hj:j<3)=>jSPI deep pp j hj)
  have HLK:=hide (fun (j:Nat) (hj:j≤3)=>prK_le deep pp j hj)
  have HIX:=hide (fun (j:Nat) (hj:j<3)=>idx3 pp j hj)
  go_wp2_with fail
  clear q0 q1 q2 t1 hbd hbx c0 c1 c2
  generalize wr.alloc (Obj.cells #[.int .i64 pp.1,.int .i64 pp.2.1,.int .i64 pp.2.2] 61)=wx at *
  generalize pixB deep (ps.take k)=PB at *
  go_loopw [36] (fun i wq=>∃j:Nat,j≤3∧i=.int .i64 j∧Lib.IsBuilder 76 5 V1.heap.size V1.heap.size (byt (HD++(PB++prK deep pp j))) wq∧Below V1.heap.size V1 wq) (fun i _=>3-(intOf i).toNat)
  case atStart=>exact ⟨0,Nat.zero_le _,rfl,by rw[show prK deep pp 0=[] from rfl,List.append_nil];exact HBD.out,HBX.out⟩
  case round =>
   clear HBD HBX
   obtain ⟨j,hj,rfl,hbd,hbq⟩:=hrel
   have hsq:=hbq.size
   have hlk:=HLK.out j hj
   by_cases hj3:j<3
   rotate_left
   ·obtain rfl:j=3:=by omega
    have hd3:decide ((3:Int)<3)=false:=rfl
    go_wp2
    go_roundw
    case rel=>exact ⟨k+1,by omega,by go_num,by rw[HT.out];exact hbd,hbq⟩
    case measure=>simp[intOf];omega
   have hd3:decide ((j:Int)<3)=true:=by simp;omega
   have hix:=HIX.out j hj3
   have hpk:=HPK.out j
   have HS2:=hide (HSK.out j hj3)
   generalize ptK pp j=x at *
   go_wp2_with fail
   refine (juDF V1.heap.size V1.heap.size _ (x / 256) (x / 256).toNat (by omega) (by omega) _ hbd (by simp only[List.length_append];omega) hsq).mono ?_
   rintro e Va ⟨rfl,hbda,hba⟩
   have hqa:=hbq.trans hba
   have HAS:=hide (show ∀l:List UInt8,HD++(PB++prK deep pp j)++l=HD++(PB++(prK deep pp j++l)) from fun l=>by simp)
   rw[HAS.out] at hbda
   cases deep
   ·go_wp2
    go_roundw
    case rel=>exact ⟨j+1,by omega,by go_num,by rw[HS2.out];exact hbda,hqa⟩
    case measure=>simp[intOf];omega
   ·go_wp2_with fail
    refine (juDF V1.heap.size V1.heap.size _ _ (x % 256).toNat (by omega) (by omega) _ hbda (by simp only[List.length_append,List.length_cons,List.length_nil];omega) hqa.size).mono ?_
    rintro e Vb ⟨rfl,hbdb,hbb⟩
    have HPR:=hide (show prB true x=[UInt8.ofNat (x / 256).toNat]++[UInt8.ofNat (x % 256).toNat] by rw[jkjJ hpk.1];rfl)
    go_wp2
    go_roundw
    case rel=>exact ⟨j+1,by omega,by go_num,by rw[HS2.out,HPR.out];simpa using hbdb,hqa.trans hbb⟩
    case measure=>simp[intOf];omega
theorem XF2K (x y:Nat) (hx:x<256) (hy:y<256):bits BinOp.or IntKind.i64 ((x:Int)*256) (y:Int)=256*(x:Int)+y:=by
 unfold bits
 simp only[BitVec.toNat_or,BitVec.toNat_ofInt]
 have h64:((2 ^ IntKind.i64.bits:Nat):Int)=18446744073709551616:=rfl
 have e1:((x:Int)*256 % ((2 ^ IntKind.i64.bits:Nat):Int)).toNat=2 ^ 8*x:=by rw[h64];omega
 have e2:((y:Int) % ((2 ^ IntKind.i64.bits:Nat):Int)).toNat=y:=by rw[h64];omega
 rw[e1,e2,←Nat.two_pow_add_eq_or_of_lt (by omega) x,IntWalk.i64_in _ (by omega)]
 omega
theorem idxS (L:List UInt8) (i:Nat) (h:i<L.length) (V:World):(Instr.index 9 (.string (str L)) (.int .i64 i)).run Tryz.prog V=.ok (.int .u8 ((L.getD i 0).toNat:Nat)) V:=by
 rw[run_index_string V 9 _ .i64 i Tryz.underlying9,dif_pos ⟨by omega,by rw[qzX5];omega⟩,List.getD_eq_getElem?_getD,List.getElem?_eq_getElem h]
 rfl
theorem zKrN (a b:Int) (d:Bool) (L:List UInt8) (Bh Bl k:Nat) (w:World) (hh:w.heap[Bh]?=some (.cells #[.int .i64 a,.int .i64 b,.int .i64 (hdM d:Nat)] 82 (0,0))) (hl:w.heap[Bl]?=some (.cells #[.string (str L)] 9 (0,0)))
  (hk:szP d*k+szP d≤L.length) (hL:L.length≤100000):Calls Tryz.prog 38 #[.int .i64 k,.pointer (some ⟨Bh,0,none⟩),.pointer (some ⟨Bl,0,none⟩)] w fun e w'=>e=.returned (.int .i64 (ptB d L k))∧Below w.heap.size w w':=by
 have HD:=hide (fun u=>qulr a b (hdM d:Nat) u)
 have HE:=hide (q517 d)
 obtain ⟨c0,c1,c2⟩:=z5EY hh
 have hl2:=(Array.getElem?_eq_some_iff.1 hl).1
 have HPT:=hide (show ptB d L k=if d then 256*((L.getD (2*k) 0).toNat:Int)+((L.getD (2*k+1) 0).toNat:Int) else 257*((L.getD k 0).toNat:Int) from rfl)
 have HI:=hide (fun i h=>idxS L i h)
 have HX:=hide (fun i=>UInt8.toNat_lt (L.getD i 0))
 have HZ:=hide (show szP d=if d then 2 else 1 from rfl)
 rw[HZ.out] at hk
 generalize ((hdM d:Nat):Int)=C at *
 go_enter Tryz.func38,Tryz.ntmps38
 go_wp2_with fail
 refine (HD.out w).mono ?_
 rintro e V ⟨rfl,hb1⟩
 rw[HE.out]
 have g1:=(hb1.block _ hl2).trans hl
 have s0:V.cell? ⟨Bl,0,none⟩=some (.string (str L)):=by rw[Lib.cell_of_heap g1];rfl
 have HBF:=hide hb1
 clear hb1 c0 c1 c2 hh hl g1
 cases d
 ·replace hk:k<L.length:=by simp only[Bool.false_eq_true,if_false] at hk;omega
  have hi:=HI.out k hk
  have hx:=HX.out k
  rw[if_neg (by decide)] at HPT
  generalize (L.getD k 0).toNat=x at *
  go_wp2
  go_ret
  exact ⟨by rw[HPT.out];rfl,HBF.out⟩
 ·replace hk:2*k+1<L.length:=by simp only[if_true] at hk;omega
  have hi:=HI.out (2*k) (by omega)
  have hj:=HI.out (2*k+1) hk
  have hx:=HX.out (2*k)
  have hy:=HX.out (2*k+1)
  rw[if_pos rfl] at HPT
  generalize (L.getD (2*k) 0).toNat=x at *
  generalize (L.getD (2*k+1) 0).toNat=y at *
  rw[show ((2*k:Nat):Int)=2*(k:Int) by simp] at hi
  rw[show ((2*k+1:Nat):Int)=2*(k:Int)+1 by simp] at hj
  have HOR:=hide (XF2K x y hx hy)
  go_wp2_with fail
  go_quiet (fail)
  have HBQ:=hide (show Below w.heap.size w (V.drewN nq) from below_drewN HBF.out nq)
  rw[HOR.out]
  generalize V.drewN nq=VQ at *
  go_wp2
  go_ret
  exact ⟨by rw[HPT.out];rfl,HBQ.out⟩
theorem XI6E (a b X Y j:Nat) (d:Bool) (L:List UInt8) (Bh Bl Bg Bf:Nat) (w:World) (hh:w.heap[Bh]?=some (.cells #[.int .i64 a,.int .i64 b,.int .i64 (hdM d:Nat)] 82 (0,0))) (hl:w.heap[Bl]?=some (.cells #[.string (str L)] 9 (0,0)))
  (hg:w.heap[Bg]?=some (.cells #[.int .i64 a,.int .i64 b] 95 (0,0))) (hf:w.heap[Bf]?=some (.cells #[.func (.func 38) #[] #[.pointer (some ⟨Bh,0,none⟩),.pointer (some ⟨Bl,0,none⟩)]] 93 (0,0)))
  (hj:Y*a+X=j) (hk:szP d*(3*j+2)+szP d≤L.length) (hL:L.length≤100000) (hj4:j≤4096) :
  Calls Tryz.prog 41 #[.agg #[.int .i64 X,.int .i64 Y],.pointer (some ⟨Bg,0,none⟩),.pointer (some ⟨Bf,0,none⟩)] w fun e w'=>e=.returned (pixV (pxOf d L j))∧Below w.heap.size w w':=by
 have hk0:szP d*(3*j)+szP d≤L.length:=Nat.le_trans (Nat.add_le_add_right (Nat.mul_le_mul_left _ (by omega)) _) hk
 have hk1:szP d*(3*j+1)+szP d≤L.length:=Nat.le_trans (Nat.add_le_add_right (Nat.mul_le_mul_left _ (by omega)) _) hk
 have lh:=(Array.getElem?_eq_some_iff.1 hh).1
 have ll:=(Array.getElem?_eq_some_iff.1 hl).1
 have HPA:∀(t:Nat),szP d*t+szP d≤L.length→∀u:World,Below w.heap.size w u→Calls Tryz.prog 38 #[.int .i64 (t:Int),.pointer (some ⟨Bh,0,none⟩),.pointer (some ⟨Bl,0,none⟩)] u fun e w'=>e=.returned (.int .i64 (ptB d L t))∧Below u.heap.size u w':=by
  intro t ht u hu
  have q1:=(hu.block _ lh).trans hh
  have q2:=(hu.block _ ll).trans hl
  exact zKrN (a:Int) (b:Int) d L Bh Bl t u q1 q2 ht hL
 have HP0:=hide (fun u hu=>HPA (3*j) hk0 u hu)
 have HP1:=hide (fun u hu=>HPA (3*j+1) hk1 u hu)
 have HP2:=hide (fun u hu=>HPA (3*j+2) hk u hu)
 rw[show ((3*j:Nat):Int)=3*(j:Int) by simp] at HP0
 rw[show ((3*j+1:Nat):Int)=3*(j:Int)+1 by simp] at HP1
 rw[show ((3*j+2:Nat):Int)=3*(j:Int)+2 by simp] at HP2
 have HPX:=hide (show pxOf d L j=(ptB d L (3*j),ptB d L (3*j+1),ptB d L (3*j+2)) from rfl)
 generalize ptB d L (3*j)=x0 at *
 generalize ptB d L (3*j+1)=x1 at *
 generalize ptB d L (3*j+2)=x2 at *
 have HIX:=hide (fun u=>XSSj (a:Int) (b:Int) X Y a j rfl hj hj4 u)
 obtain ⟨a1,a2⟩:=al2 w (Obj.cells #[.int .i64 X,.int .i64 Y] 97) (Obj.cells #[.int .i64 0,.int .i64 0,.int .i64 0] 61)
 have HB:=hide (be2 w (Obj.cells #[.int .i64 X,.int .i64 Y] 97) (Obj.cells #[.int .i64 0,.int .i64 0,.int .i64 0] 61))
 have hl2:=(Array.getElem?_eq_some_iff.1 a2).1
 have g1:=(HB.out.block _ (Array.getElem?_eq_some_iff.1 hg).1).trans hg
 have g2:=(HB.out.block _ (Array.getElem?_eq_some_iff.1 hf).1).trans hf
 have lf:=(Array.getElem?_eq_some_iff.1 g2).1
 obtain ⟨s0,s1⟩:=bx2 a1
 obtain ⟨r0,r1⟩:=bx2 g1
 have hw1:IntKind.i64.wrap (3*(j:Int)+1)=3*(j:Int)+1:=IntWalk.i64_in _ (by omega)
 have hw2:IntKind.i64.wrap (3*(j:Int)+2)=3*(j:Int)+2:=IntWalk.i64_in _ (by omega)
 clear HPA lh ll hh hl hg hf hk hk0 hk1 hL hj
 go_enter Tryz.func41,Tryz.ntmps41
 go_wp2_with fail
 clear s0 s1 r0 r1 a1 g1
 generalize (w.alloc (Obj.cells #[.int .i64 (X:Int),.int .i64 (Y:Int)] 97)).alloc (Obj.cells #[.int .i64 0,.int .i64 0,.int .i64 0] 61)=U at *
 refine (HIX.out U).mono ?_
 rintro e V0 ⟨rfl,hb0⟩
 have HS:=hide (show ∀v,Below U.heap.size U v→(fun v=>Below U.heap.size U v∧v.cell? ⟨Bf,0,none⟩=some (.func (.func 38) #[] #[.pointer (some ⟨Bh,0,none⟩),.pointer (some ⟨Bl,0,none⟩)])) v from fun v hv=>⟨hv,by rw[Lib.cell_of_heap ((hv.block _ lf).trans g2)];rfl⟩)
 clear g2 lf
 go_upto_region 2 with fail
 have hSd:(fun v=>Below U.heap.size U v∧v.cell? ⟨Bf,0,none⟩=some (.func (.func 38) #[] #[.pointer (some ⟨Bh,0,none⟩),.pointer (some ⟨Bl,0,none⟩)])) V0.drew:=HS.out _ (quJN hb0 (jom3 V0))
 clear hb0
 have hmx:Tryz.prog.follows .mixedOrders=true:=by kernel_rfl
 refine qYgd (S:=(fun v=>Below U.heap.size U v∧v.cell? ⟨Bf,0,none⟩=some (.func (.func 38) #[] #[.pointer (some ⟨Bh,0,none⟩),.pointer (some ⟨Bl,0,none⟩)]))) (f:=12) hmx ?_
 show jZdv _ _ _ _ _ _ 13 _ _ V0.drew
 refine takeQ 0 ?vv1 (some 10) [] ?yy1 hSd ?rr1
 case yy1=>(intro wq hSq;obtain ⟨_,_⟩:=hSq;go_simp<;>with_reducible rfl)
 simp only[Act.put,List.setIfInBounds_toArray,List.set_cons_succ,List.set_cons_zero]
 refine takeQ 1 ?vv2 (some 11) [] ?yy2 hSd ?rr2
 case yy2=>(intro wq hSq;obtain ⟨_,_⟩:=hSq;go_simp<;>with_reducible rfl)
 simp only[Act.put,List.setIfInBounds_toArray,List.set_cons_succ,List.set_cons_zero]
 refine takeQ 3 ?vv3 (some 13) [] ?yy3 hSd ?rr3
 case yy3=>(intro wq hSq;obtain ⟨_,_⟩:=hSq;go_simp<;>with_reducible rfl)
 simp only[Act.put,List.setIfInBounds_toArray,List.set_cons_succ,List.set_cons_zero]
 refine takeQ 4 ?vv4 (some 14) [] ?yy4 hSd ?rr4
 case yy4=>(intro wq hSq;obtain ⟨_,_⟩:=hSq;go_simp<;>with_reducible rfl)
 simp only[Act.put,List.setIfInBounds_toArray,List.set_cons_succ,List.set_cons_zero]
 refine takeQ 7 ?vv5 (some 17) [] ?yy5 hSd ?rr5
 case yy5=>(intro wq hSq;obtain ⟨_,_⟩:=hSq;go_simp<;>with_reducible rfl)
 simp only[Act.put,List.setIfInBounds_toArray,List.set_cons_succ,List.set_cons_zero]
 refine takeQ 8 ?vv6 (some 18) [] ?yy6 hSd ?rr6
 case yy6=>(intro wq hSq;obtain ⟨_,_⟩:=hSq;go_simp<;>with_reducible rfl)
 simp only[Act.put,List.setIfInBounds_toArray,List.set_cons_succ,List.set_cons_zero]
 refine takeQ 5 ?vv7 (some 15) [] ?yy7 hSd ?rr7
 case yy7=>(intro wq hSq;obtain ⟨_,_⟩:=hSq;go_simp<;>with_reducible rfl)
 simp only[Act.put,List.setIfInBounds_toArray,List.set_cons_succ,List.set_cons_zero]
 refine takeQ 9 ?vv8 (some 19) [] ?yy8 hSd ?rr8
 case yy8=>(intro wq hSq;obtain ⟨_,_⟩:=hSq;go_simp<;>with_reducible rfl)
 simp only[Act.put,List.setIfInBounds_toArray,List.set_cons_succ,List.set_cons_zero]
 refine znWj (i:=2) (o:=_) (by kernel_rfl) rfl (fun K' hK=>?_)
 rw[if_pos (by rfl)]
 go_simp
 refine (HP0.out _ (quJN HB.out hSd.1)).mono ?_
 rintro e V1 ⟨rfl,hb1⟩
 have hSd:=HS.out _ (quJN hSd.1 hb1)
 refine hK.out _ _ hSd ?_
 clear hK
 try simp only[Act.put]
 refine znWj (i:=6) (o:=_) (by kernel_rfl) rfl (fun K' hK=>?_)
 rw[if_pos (by rfl)]
 go_simp
 refine (HP1.out _ (quJN HB.out hSd.1)).mono ?_
 rintro e V2 ⟨rfl,hb2⟩
 have hSd:=HS.out _ (quJN hSd.1 hb2)
 refine hK.out _ _ hSd ?_
 clear hK
 try simp only[Act.put]
 refine znWj (i:=10) (o:=_) (by kernel_rfl) rfl (fun K' hK=>?_)
 rw[if_pos (by rfl)]
 go_simp
 refine (HP2.out _ (quJN HB.out hSd.1)).mono ?_
 rintro e V3 ⟨rfl,hb3⟩
 have hSd:=HS.out _ (quJN hSd.1 hb3)
 refine hK.out _ _ hSd ?_
 clear hK
 try simp only[Act.put]
 refine takeQ 11 ?vv9 (some 21) [] ?yy9 hSd ?rr9
 case yy9=>(intro wq hSq;obtain ⟨_,_⟩:=hSq;go_simp<;>with_reducible rfl)
 simp only[Act.put,List.setIfInBounds_toArray,List.set_cons_succ,List.set_cons_zero]
 refine z9gO (o:=_) (by kernel_rfl) rfl (fun K' hK=>?_)
 have hz:=(hSd.1.block _ hl2).trans a2
 obtain ⟨z0,z1,z2⟩:=z5EY hz
 have f0:=Lib.frozen_of_heap hz 0
 have f1:=Lib.frozen_of_heap hz 1
 have f2:=Lib.frozen_of_heap hz 2
 have HF:=hide (zHqh (quJN HB.out hSd.1) (show w.heap.size≤w.heap.size+1 by omega) (.int .i64 x0) (.int .i64 x1) (.int .i64 x2))
 rw[if_pos (by rfl)]
 go_simp
 refine hK.out _ _ ?_
 clear hK
 refine jFdp (by kernel_rfl) ?_ _
 try simp only[Act.put]
 clear hSd
 go_wp2
 refine bodyPost_ret (v:=.agg #[.int .i64 x0,.int .i64 x1,.int .i64 x2]) (by simp[results,Tryz.results41,go_sem,z0,z1,z2]) rfl ⟨by rw[HPX.out],HF.out⟩
theorem X8dS {x:UInt8} {r:List UInt8} {f:Nat} {a b c:Int}:gRun (x::r) f a b c=if x=gEnd f then (if f=2 then (a,b,c) else gRun r (f+1) a b c)
  else if gDig x f a b c=true then (if f=0 then gRun r f (10*a+(x.toNat-48:Nat)) b c else if f=1 then gRun r f a (10*b+(x.toNat-48:Nat)) c else gRun r f a b (10*c+(x.toNat-48:Nat))) else (a,b,c):=rfl
structure GJ (s:List UInt8) (w:World) (f k:Nat) (a b c:Int) (V:World):Prop where
 f2:f≤2
 ka:0≤a∧a≤655360
 kb:0≤b∧b≤655360
 kc:0≤c∧c≤655360
 eq:guess s=gRun (s.drop k) f a b c
 res:V.heap[w.heap.size]?=some (.cells #[.int .i64 0,.int .i64 0,.int .i64 0] 82 (0,0))
 box:V.heap[w.heap.size+1]?=some (.cells #[.int .i64 a,.int .i64 b,.int .i64 c] 47 (0,0))
 bel:Below w.heap.size w V
theorem z5QA {V:World} {B i:Nat} {cs:Array Value} {t:TypeId} (h:V.heap[B]?=some (.cells cs t (0,0))) (x:Value):(V.setCell ⟨B,i,none⟩ x).heap[B]?=some (.cells (cs.setIfInBounds i x) t (0,0)):=heap_setCell_same V B i _ _ x h
theorem Xowz (s:List UInt8) (hs:s.length≤140737488355328) (w:World):Calls Tryz.prog 99 #[.string (str s)] w fun e w'=>e=.returned (.agg #[.int .i64 (guess s).1,.int .i64 (guess s).2.1,.int .i64 (guess s).2.2])∧Below w.heap.size w w':=by
 have hsz:(str s).size=s.length:=qzX5 s
 have hI:∀(i:Nat) (x:UInt8),s[i]?=some x→∀V:World,(Instr.index 9 (.string (str s)) (.int .i64 i)).run Tryz.prog V=.ok (.int .u8 x.toNat) V:=by
  intro i x hx V
  obtain ⟨hi,hx⟩:=List.getElem?_eq_some_iff.1 hx
  rw[run_index_string V 9 _ .i64 i Tryz.underlying9,dif_pos ⟨by omega,by rw[qzX5];omega⟩]
  subst hx
  rfl
 have HI:=hide hI
 clear hI
 have n0:∀V:World,(Instr.index 9 (.string ⟨#[32,10,10]⟩) (.int .i64 0)).run Tryz.prog V=.ok (.int .u8 32) V:=fun V=>by kernel_rfl
 have n1:∀V:World,(Instr.index 9 (.string ⟨#[32,10,10]⟩) (.int .i64 1)).run Tryz.prog V=.ok (.int .u8 10) V:=fun V=>by kernel_rfl
 have n2:∀V:World,(Instr.index 9 (.string ⟨#[32,10,10]⟩) (.int .i64 2)).run Tryz.prog V=.ok (.int .u8 10) V:=fun V=>by kernel_rfl
 obtain ⟨a1,a2⟩:=al2 w (Obj.cells #[.int .i64 0,.int .i64 0,.int .i64 0] 82) (Obj.cells #[.int .i64 0,.int .i64 0,.int .i64 0] 47)
 have HJ:=hide (show GJ s w 0 3 0 0 0 ((w.alloc (Obj.cells #[.int .i64 0,.int .i64 0,.int .i64 0] 82)).alloc (Obj.cells #[.int .i64 0,.int .i64 0,.int .i64 0] 47)) from ⟨by omega,by omega,by omega,by omega,rfl,a1,a2,be2 w _ _⟩)
 clear a1 a2
 obtain ⟨SS,hSS⟩:∃SS,str s=SS:=⟨_,rfl⟩
 rw[hSS] at hsz HI ⊢
 clear hSS
 go_enter Tryz.func99,Tryz.ntmps99
 go_wp2_with fail
 go_step3
 go_wp2_with fail
 go_step3
 go_wp2_with fail
 generalize (w.alloc (Obj.cells #[.int .i64 0,.int .i64 0,.int .i64 0] 82)).alloc (Obj.cells #[.int .i64 0,.int .i64 0,.int .i64 0] 47)=U at *
 ·go_loopw [4,5,6] (fun x1 x2 x3 wr=>∃f k:Nat,x1=.int .i64 f∧x2=.int .i64 k∧k≤max 3 s.length∧∃a b c:Int,GJ s w f k a b c wr) (fun _ i _ _=>max 3 s.length-(intOf i).toNat)
  case atStart=>exact ⟨0,3,rfl,rfl,by omega,0,0,0,HJ.out⟩
  case round =>
   clear HJ
   obtain ⟨f,k,rfl,rfl,hk,a,b,c,hJ⟩:=hrel
   have HJ:=hide hJ
   have hf:=hJ.f2
   have q:=hJ.box
   obtain ⟨q0,q1,q2⟩:=z5EY q
   have f0:=Lib.frozen_of_heap q 0
   have f1:=Lib.frozen_of_heap q 1
   have f2:=Lib.frozen_of_heap q 2
   have r0:=hJ.res
   obtain ⟨z0,z1,z2⟩:=z5EY r0
   have y0:=Lib.frozen_of_heap r0 0
   have y1:=Lib.frozen_of_heap r0 1
   have y2:=Lib.frozen_of_heap r0 2
   have HF:=hide (zHqh hJ.bel (Nat.le_refl _) (.int .i64 a) (.int .i64 b) (.int .i64 c))
   clear hJ r0
   by_cases hlt:k<s.length
   rotate_left
   ·have hd:decide ((k:Int)<(SS.size:Int))=false:=by rw[hsz];simp;omega
    have hdn:decide (k<SS.size)=false:=by rw[hsz];simp;omega
    go_wp2
    try rw[Exit.noGoto_ret]
    refine bodyPost_ret (v:=.agg #[.int .i64 a,.int .i64 b,.int .i64 c]) (by simp[results,Tryz.results99,go_sem,z0,z1,z2]) rfl ⟨by rw[show guess s=(a,b,c) from by rw[HJ.out.eq,List.drop_eq_nil_of_le (by omega)];rfl],HF.out⟩
   have hd:decide ((k:Int)<(SS.size:Int))=true:=by rw[hsz];simp;omega
   have hdn:decide (k<SS.size)=true:=by rw[hsz];simp;omega
   obtain ⟨x,hx⟩:∃x,s[k]?=some x:=⟨_,List.getElem?_eq_getElem hlt⟩
   have hix:=HI.out k x hx
   have HD:=hide (show s.drop k=x::s.drop (k+1) by rw[List.drop_eq_getElem_cons hlt];rw[List.getElem?_eq_getElem hlt] at hx;cases hx;rfl)
   have hx8:x.toNat<256:=UInt8.toNat_lt x
   have hwk:IntKind.i64.wrap ((k:Int)+1)=((k+1:Nat):Int):=IntWalk.i64_in _ (by omega)
   have HX8:=hide hx8
   have HLT:=hide hlt
   have HK:=hide hk
   have HSZ:=hide hsz
   clear hx hx8 hlt hk hsz
   have HG:=hide (show guess s=gRun (x::s.drop (k+1)) f a b c by rw[HJ.out.eq,HD.out])
   rcases (show f=0∨f=1∨f=2 by omega) with rfl|rfl|rfl
   ·by_cases hE:x=32
    ·have hq:((x.toNat:Int) == 32)=true:=by rw[hE];rfl
     have HE2:=hide (show x=gEnd 0 from hE)
     clear hE
     go_wp2
     go_roundw
     case rel=>exact ⟨1,k+1,rfl,by go_num,by have:=HLT.out;omega,a,b,c,⟨by omega,HJ.out.ka,HJ.out.kb,HJ.out.kc,by rw[HG.out,X8dS,if_pos HE2.out,if_neg (by decide)],HJ.out.res,HJ.out.box,HJ.out.bel⟩⟩
     case measure=>have:=HLT.out;simp[intOf];omega
    have hne:((x.toNat:Int) == 32)=false:=by
     simp only[beq_eq_false_iff_ne,ne_eq]
     exact fun h=>hE (UInt8.toNat_inj.1 (show x.toNat=(32:UInt8).toNat by have:(32:UInt8).toNat=32:=rfl;omega))
    have HNE:=hide (show ¬x=gEnd 0 from hE)
    have HDG:=hide (show gDig x 0 a b c=(decide (48≤x.toNat) && decide (x.toNat≤57) && decide (a≤65535)) from rfl)
    clear hE
    by_cases h1:48≤x.toNat
    rotate_left
    ·have hd1:decide ((48:Int)≤(x.toNat:Int))=false:=by simp;omega
     have hd1':decide ((x.toNat:Int) ≥ (48:Int))=false:=hd1
     have HGF:=hide (show gDig x 0 a b c=false by rw[HDG.out,decide_eq_false h1];rfl)
     go_wp2
     try rw[Exit.noGoto_ret]
     refine bodyPost_ret (v:=.agg #[.int .i64 a,.int .i64 b,.int .i64 c]) (by simp[results,Tryz.results99,go_sem,z0,z1,z2]) rfl ⟨by rw[show guess s=(a,b,c) from by rw[HG.out,X8dS,if_neg HNE.out,HGF.out,if_neg (by decide)]],HF.out⟩
    have hd1:decide ((48:Int)≤(x.toNat:Int))=true:=by simp;omega
    have hd1':decide ((x.toNat:Int) ≥ (48:Int))=true:=hd1
    by_cases h2:x.toNat≤57
    rotate_left
    ·have hd2:decide ((x.toNat:Int)≤57)=false:=by simp;omega
     have HGF:=hide (show gDig x 0 a b c=false by rw[HDG.out,decide_eq_false h2];simp)
     go_wp2
     try rw[Exit.noGoto_ret]
     refine bodyPost_ret (v:=.agg #[.int .i64 a,.int .i64 b,.int .i64 c]) (by simp[results,Tryz.results99,go_sem,z0,z1,z2]) rfl ⟨by rw[show guess s=(a,b,c) from by rw[HG.out,X8dS,if_neg HNE.out,HGF.out,if_neg (by decide)]],HF.out⟩
    have hd2:decide ((x.toNat:Int)≤57)=true:=by simp;omega
    by_cases h3:a≤65535
    rotate_left
    ·have hd3:decide (a≤65535)=false:=decide_eq_false h3
     have HGF:=hide (show gDig x 0 a b c=false by rw[HDG.out,hd3];simp)
     go_wp2
     try rw[Exit.noGoto_ret]
     refine bodyPost_ret (v:=.agg #[.int .i64 a,.int .i64 b,.int .i64 c]) (by simp[results,Tryz.results99,go_sem,z0,z1,z2]) rfl ⟨by rw[show guess s=(a,b,c) from by rw[HG.out,X8dS,if_neg HNE.out,HGF.out,if_neg (by decide)]],HF.out⟩
    have hd3:decide (a≤65535)=true:=decide_eq_true h3
    have HT:=hide (show gDig x 0 a b c=true by rw[HDG.out,hd3,decide_eq_true h1,decide_eq_true h2];rfl)
    have hka:=HJ.out.ka
    obtain ⟨D,hD⟩:∃D:Nat,x.toNat-48=D:=⟨_,rfl⟩
    have w1:IntKind.u8.wrap ((x.toNat:Int)-48)=(D:Int):=by rw[IntWalk.u8_in _ (by have:=HX8.out;omega)];omega
    have w2:IntKind.i64.wrap (D:Int)=(D:Int):=IntWalk.i64_in _ (by omega)
    have w3:IntKind.i64.wrap (10*a)=10*a:=IntWalk.i64_in _ (by omega)
    have w4:IntKind.i64.wrap (10*a+(D:Int))=10*a+D:=IntWalk.i64_in _ (by omega)
    have HJ2:=hide (show GJ s w 0 (k+1) (10*a+D) b c (wr.setCell ⟨w.heap.size+1,0,none⟩ (.int .i64 (10*a+D))) from ⟨by omega,by omega,HJ.out.kb,HJ.out.kc,by
      rw[HG.out,X8dS,if_neg HNE.out,if_pos HT.out,hD];rfl,(Below.heap_setCell _ _ _ _ (by show w.heap.size≠w.heap.size+1;omega)).trans HJ.out.res,z5QA q _,HJ.out.bel.setCell (p:=⟨w.heap.size+1,0,none⟩) (by show w.heap.size≤w.heap.size+1;omega) _⟩)
    clear hD h1 h2 h3 q z0 z1 z2 y0 y1 y2
    go_wp2
    go_roundw
    case rel=>exact ⟨0,k+1,rfl,by go_num,by have:=HLT.out;omega,_,_,_,HJ2.out⟩
    case measure=>have:=HLT.out;simp[intOf];omega
   ·by_cases hE:x=10
    ·have hq:((x.toNat:Int) == 10)=true:=by rw[hE];rfl
     have HE2:=hide (show x=gEnd 1 from hE)
     clear hE
     go_wp2
     go_roundw
     case rel=>exact ⟨2,k+1,rfl,by go_num,by have:=HLT.out;omega,a,b,c,⟨by omega,HJ.out.ka,HJ.out.kb,HJ.out.kc,by rw[HG.out,X8dS,if_pos HE2.out,if_neg (by decide)],HJ.out.res,HJ.out.box,HJ.out.bel⟩⟩
     case measure=>have:=HLT.out;simp[intOf];omega
    have hne:((x.toNat:Int) == 10)=false:=by
     simp only[beq_eq_false_iff_ne,ne_eq]
     exact fun h=>hE (UInt8.toNat_inj.1 (show x.toNat=(10:UInt8).toNat by have:(10:UInt8).toNat=10:=rfl;omega))
    have HNE:=hide (show ¬x=gEnd 1 from hE)
    have HDG:=hide (show gDig x 1 a b c=(decide (48≤x.toNat) && decide (x.toNat≤57) && decide (b≤65535)) from rfl)
    clear hE
    by_cases h1:48≤x.toNat
    rotate_left
    ·have hd1:decide ((48:Int)≤(x.toNat:Int))=false:=by simp;omega
     have hd1':decide ((x.toNat:Int) ≥ (48:Int))=false:=hd1
     have HGF:=hide (show gDig x 1 a b c=false by rw[HDG.out,decide_eq_false h1];rfl)
     go_wp2
     try rw[Exit.noGoto_ret]
     refine bodyPost_ret (v:=.agg #[.int .i64 a,.int .i64 b,.int .i64 c]) (by simp[results,Tryz.results99,go_sem,z0,z1,z2]) rfl ⟨by rw[show guess s=(a,b,c) from by rw[HG.out,X8dS,if_neg HNE.out,HGF.out,if_neg (by decide)]],HF.out⟩
    have hd1:decide ((48:Int)≤(x.toNat:Int))=true:=by simp;omega
    have hd1':decide ((x.toNat:Int) ≥ (48:Int))=true:=hd1
    by_cases h2:x.toNat≤57
    rotate_left
    ·have hd2:decide ((x.toNat:Int)≤57)=false:=by simp;omega
     have HGF:=hide (show gDig x 1 a b c=false by rw[HDG.out,decide_eq_false h2];simp)
     go_wp2
     try rw[Exit.noGoto_ret]
     refine bodyPost_ret (v:=.agg #[.int .i64 a,.int .i64 b,.int .i64 c]) (by simp[results,Tryz.results99,go_sem,z0,z1,z2]) rfl ⟨by rw[show guess s=(a,b,c) from by rw[HG.out,X8dS,if_neg HNE.out,HGF.out,if_neg (by decide)]],HF.out⟩
    have hd2:decide ((x.toNat:Int)≤57)=true:=by simp;omega
    by_cases h3:b≤65535
    rotate_left
    ·have hd3:decide (b≤65535)=false:=decide_eq_false h3
     have HGF:=hide (show gDig x 1 a b c=false by rw[HDG.out,hd3];simp)
     go_wp2
     try rw[Exit.noGoto_ret]
     refine bodyPost_ret (v:=.agg #[.int .i64 a,.int .i64 b,.int .i64 c]) (by simp[results,Tryz.results99,go_sem,z0,z1,z2]) rfl ⟨by rw[show guess s=(a,b,c) from by rw[HG.out,X8dS,if_neg HNE.out,HGF.out,if_neg (by decide)]],HF.out⟩
    have hd3:decide (b≤65535)=true:=decide_eq_true h3
    have HT:=hide (show gDig x 1 a b c=true by rw[HDG.out,hd3,decide_eq_true h1,decide_eq_true h2];rfl)
    have hkb:=HJ.out.kb
    obtain ⟨D,hD⟩:∃D:Nat,x.toNat-48=D:=⟨_,rfl⟩
    have w1:IntKind.u8.wrap ((x.toNat:Int)-48)=(D:Int):=by rw[IntWalk.u8_in _ (by have:=HX8.out;omega)];omega
    have w2:IntKind.i64.wrap (D:Int)=(D:Int):=IntWalk.i64_in _ (by omega)
    have w3:IntKind.i64.wrap (10*b)=10*b:=IntWalk.i64_in _ (by omega)
    have w4:IntKind.i64.wrap (10*b+(D:Int))=10*b+D:=IntWalk.i64_in _ (by omega)
    have HJ2:=hide (show GJ s w 1 (k+1) a (10*b+D) c (wr.setCell ⟨w.heap.size+1,1,none⟩ (.int .i64 (10*b+D))) from ⟨by omega,HJ.out.ka,by omega,HJ.out.kc,by
      rw[HG.out,X8dS,if_neg HNE.out,if_pos HT.out,hD];rfl,(Below.heap_setCell _ _ _ _ (by show w.heap.size≠w.heap.size+1;omega)).trans HJ.out.res,z5QA q _,HJ.out.bel.setCell (p:=⟨w.heap.size+1,1,none⟩) (by show w.heap.size≤w.heap.size+1;omega) _⟩)
    clear hD h1 h2 h3 q z0 z1 z2 y0 y1 y2
    go_wp2
    go_roundw
    case rel=>exact ⟨1,k+1,rfl,by go_num,by have:=HLT.out;omega,_,_,_,HJ2.out⟩
    case measure=>have:=HLT.out;simp[intOf];omega
   ·by_cases hE:x=10
    ·have hq:((x.toNat:Int) == 10)=true:=by rw[hE];rfl
     have HE2:=hide (show x=gEnd 2 from hE)
     clear hE
     go_wp2
     try rw[Exit.noGoto_ret]
     refine bodyPost_ret (v:=.agg #[.int .i64 a,.int .i64 b,.int .i64 c]) (by simp[results,Tryz.results99,go_sem,z0,z1,z2]) rfl ⟨by rw[show guess s=(a,b,c) from by rw[HG.out,X8dS,if_pos HE2.out,if_pos rfl]],HF.out⟩
    have hne:((x.toNat:Int) == 10)=false:=by
     simp only[beq_eq_false_iff_ne,ne_eq]
     exact fun h=>hE (UInt8.toNat_inj.1 (show x.toNat=(10:UInt8).toNat by have:(10:UInt8).toNat=10:=rfl;omega))
    have HNE:=hide (show ¬x=gEnd 2 from hE)
    have HDG:=hide (show gDig x 2 a b c=(decide (48≤x.toNat) && decide (x.toNat≤57) && decide (c≤65535)) from rfl)
    clear hE
    by_cases h1:48≤x.toNat
    rotate_left
    ·have hd1:decide ((48:Int)≤(x.toNat:Int))=false:=by simp;omega
     have hd1':decide ((x.toNat:Int) ≥ (48:Int))=false:=hd1
     have HGF:=hide (show gDig x 2 a b c=false by rw[HDG.out,decide_eq_false h1];rfl)
     go_wp2
     try rw[Exit.noGoto_ret]
     refine bodyPost_ret (v:=.agg #[.int .i64 a,.int .i64 b,.int .i64 c]) (by simp[results,Tryz.results99,go_sem,z0,z1,z2]) rfl ⟨by rw[show guess s=(a,b,c) from by rw[HG.out,X8dS,if_neg HNE.out,HGF.out,if_neg (by decide)]],HF.out⟩
    have hd1:decide ((48:Int)≤(x.toNat:Int))=true:=by simp;omega
    have hd1':decide ((x.toNat:Int) ≥ (48:Int))=true:=hd1
    by_cases h2:x.toNat≤57
    rotate_left
    ·have hd2:decide ((x.toNat:Int)≤57)=false:=by simp;omega
     have HGF:=hide (show gDig x 2 a b c=false by rw[HDG.out,decide_eq_false h2];simp)
     go_wp2
     try rw[Exit.noGoto_ret]
     refine bodyPost_ret (v:=.agg #[.int .i64 a,.int .i64 b,.int .i64 c]) (by simp[results,Tryz.results99,go_sem,z0,z1,z2]) rfl ⟨by rw[show guess s=(a,b,c) from by rw[HG.out,X8dS,if_neg HNE.out,HGF.out,if_neg (by decide)]],HF.out⟩
    have hd2:decide ((x.toNat:Int)≤57)=true:=by simp;omega
    by_cases h3:c≤65535
    rotate_left
    ·have hd3:decide (c≤65535)=false:=decide_eq_false h3
     have HGF:=hide (show gDig x 2 a b c=false by rw[HDG.out,hd3];simp)
     go_wp2
     try rw[Exit.noGoto_ret]
     refine bodyPost_ret (v:=.agg #[.int .i64 a,.int .i64 b,.int .i64 c]) (by simp[results,Tryz.results99,go_sem,z0,z1,z2]) rfl ⟨by rw[show guess s=(a,b,c) from by rw[HG.out,X8dS,if_neg HNE.out,HGF.out,if_neg (by decide)]],HF.out⟩
    have hd3:decide (c≤65535)=true:=decide_eq_true h3
    have HT:=hide (show gDig x 2 a b c=true by rw[HDG.out,hd3,decide_eq_true h1,decide_eq_true h2];rfl)
    have hkc:=HJ.out.kc
    obtain ⟨D,hD⟩:∃D:Nat,x.toNat-48=D:=⟨_,rfl⟩
    have w1:IntKind.u8.wrap ((x.toNat:Int)-48)=(D:Int):=by rw[IntWalk.u8_in _ (by have:=HX8.out;omega)];omega
    have w2:IntKind.i64.wrap (D:Int)=(D:Int):=IntWalk.i64_in _ (by omega)
    have w3:IntKind.i64.wrap (10*c)=10*c:=IntWalk.i64_in _ (by omega)
    have w4:IntKind.i64.wrap (10*c+(D:Int))=10*c+D:=IntWalk.i64_in _ (by omega)
    have HJ2:=hide (show GJ s w 2 (k+1) a b (10*c+D) (wr.setCell ⟨w.heap.size+1,2,none⟩ (.int .i64 (10*c+D))) from ⟨by omega,HJ.out.ka,HJ.out.kb,by omega,by
      rw[HG.out,X8dS,if_neg HNE.out,if_pos HT.out,hD];rfl,(Below.heap_setCell _ _ _ _ (by show w.heap.size≠w.heap.size+1;omega)).trans HJ.out.res,z5QA q _,HJ.out.bel.setCell (p:=⟨w.heap.size+1,2,none⟩) (by show w.heap.size≤w.heap.size+1;omega) _⟩)
    clear hD h1 h2 h3 q z0 z1 z2 y0 y1 y2
    go_wp2
    go_roundw
    case rel=>exact ⟨2,k+1,rfl,by go_num,by have:=HLT.out;omega,_,_,_,HJ2.out⟩
    case measure=>have:=HLT.out;simp[intOf];omega
end Go.Proofs.YtfjeonehdlphiaaGreatDoor
