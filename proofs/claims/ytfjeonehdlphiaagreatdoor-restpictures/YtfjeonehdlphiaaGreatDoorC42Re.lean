/- Re: part 42 of what the proofs need. -/
import Derived.Test.YtfjeonehdlphiaaGreatDoorC35Re
import Derived.Test.YtfjeonehdlphiaaGreatDoorC41Re
open Go.Obj renaming cells → ka
open Array renaming getElem?_eq_some_iff → kb
open Nat renaming le_refl → kd, zero_le → kf
open Go.IntWalk renaming i64_in → ke
set_option linter.unusedVariables false
set_option maxHeartbeats 3200000
set_option maxRecDepth 100000
namespace Go.Proofs.YtfjeonehdlphiaaGreatDoor
open Go.RowKit
theorem zJkH (r:RawF):qx8k r=(decide (1≤r.w∧r.w≤64) && decide (1≤r.h∧r.h≤64) && decide (1≤r.depth∧r.depth≤16) && decide (1≤r.rows∧r.rows≤r.h)):=rfl
theorem zx9X (r:RawF) (lv tv sv cv:Value) (w:World) (hl:jCvT w lv r.lens) :
  Calls Tryz.prog 74 #[.agg (rawA r lv tv sv cv)] w fun e w'=>e=.returned (.int .i64 (headE r))∧Below w.heap.size w w':=by
 have HL:=hide hl
 obtain ⟨ao,ca,rfl,_,_⟩:=hl
 have a1:=al1 w (ka (rawA r (.slice ao r.lens.length ca) tv sv cv) 57)
 have HB:=hide (qUNz w (ka (rawA r (.slice ao r.lens.length ca) tv sv cv) 57))
 have HE:=hide (show headE r=if qx8k r=true then (if 0≤r.kind∧r.kind≤7 then kindE r else 6) else 3 from rfl)
 have HG:=hide (zJkH r)
 have HK:=hide (show kindE r=if r.kind=0 then (if r.lens.length=0 then 0 else 1) else qO3F r.lens from rfl)
 generalize headE r=E at *
 obtain ⟨s0,s1,s2,s3,s4,s5,s6,s13,s26⟩:=zUTj a1
 have HW1:=hide (fun u=>qVbC r.w 1 64 u)
 have HW2:=hide (fun u=>qVbC r.h 1 64 u)
 have HW3:=hide (fun u=>qVbC r.depth 1 16 u)
 have HW4:=hide (fun u=>qVbC r.rows 1 r.h u)
 have HW5:=hide (fun u=>qVbC r.kind 0 7 u)
 have HL4:=hide (HL.out.below HB.out (kd _))
 go_enter Tryz.func74,Tryz.ntmps74
 go_wp2_with fail
 clear a1
 generalize w.alloc (ka (rawA r (.slice ao r.lens.length ca) tv sv cv) 57)=U at *
 refine (HW1.out _).mono ?_
 rintro e w1 ⟨rfl,rfl⟩
 by_cases q1:1≤r.w∧r.w≤64
 rotate_left
 ·have he:E=3:=by rw[HE.out,HG.out,decide_eq_false q1];rfl
  rw[decide_eq_false q1]
  subst he
  go_wp2
  go_ret
  exact ⟨rfl,HB.out⟩
 rw[decide_eq_true q1]
 go_wp2_with fail
 refine (HW2.out _).mono ?_
 rintro e w1 ⟨rfl,rfl⟩
 by_cases q2:1≤r.h∧r.h≤64
 rotate_left
 ·have he:E=3:=by rw[HE.out,HG.out,decide_eq_true q1,decide_eq_false q2];rfl
  rw[decide_eq_false q2]
  subst he
  go_wp2
  go_ret
  exact ⟨rfl,HB.out⟩
 rw[decide_eq_true q2]
 go_wp2_with fail
 refine (HW3.out _).mono ?_
 rintro e w1 ⟨rfl,rfl⟩
 by_cases q3:1≤r.depth∧r.depth≤16
 rotate_left
 ·have he:E=3:=by rw[HE.out,HG.out,decide_eq_true q1,decide_eq_true q2,decide_eq_false q3];rfl
  rw[decide_eq_false q3]
  subst he
  go_wp2
  go_ret
  exact ⟨rfl,HB.out⟩
 rw[decide_eq_true q3]
 go_wp2_with fail
 refine (HW4.out _).mono ?_
 rintro e w1 ⟨rfl,rfl⟩
 by_cases q4:1≤r.rows∧r.rows≤r.h
 rotate_left
 ·have he:E=3:=by rw[HE.out,HG.out,decide_eq_true q1,decide_eq_true q2,decide_eq_true q3,decide_eq_false q4];rfl
  rw[decide_eq_false q4]
  subst he
  go_wp2
  go_ret
  exact ⟨rfl,HB.out⟩
 rw[decide_eq_true q4]
 have HE':=hide (show E=if 0≤r.kind∧r.kind≤7 then kindE r else 6 by rw[HE.out,HG.out,decide_eq_true q1,decide_eq_true q2,decide_eq_true q3,decide_eq_true q4];rfl)
 clear HE HG q1 q2 q3 q4 HW1 HW2 HW3 HW4
 go_wp2_with fail
 refine (HW5.out _).mono ?_
 rintro e w1 ⟨rfl,rfl⟩
 by_cases q5:0≤r.kind∧r.kind≤7
 rotate_left
 ·have he:E=6:=by rw[HE'.out,if_neg q5]
  rw[decide_eq_false q5]
  subst he
  go_wp2
  go_ret
  exact ⟨rfl,HB.out⟩
 rw[decide_eq_true q5]
 have HE2:=hide (show E=if r.kind=0 then (if r.lens.length=0 then 0 else 1) else qO3F r.lens by rw[HE'.out,if_pos q5];exact HK.out)
 clear HE' HK HW5
 by_cases hk:r.kind=0
 ·have hk':(r.kind == 0)=true:=by simpa using hk
  have hk2:decide (0<r.kind)=false:=decide_eq_false (by omega)
  rw[if_pos hk] at HE2
  by_cases hn:r.lens.length=0
  ·have he:E=0:=by rw[HE2.out,if_pos hn]
   have hn':decide (0<(r.lens.length:Int))=false:=decide_eq_false (by omega)
   subst he
   go_wp2
   go_ret
   exact ⟨rfl,HB.out⟩
  ·have he:E=1:=by rw[HE2.out,if_neg hn]
   have hn':decide (0<(r.lens.length:Int))=true:=decide_eq_true (by omega)
   subst he
   go_wp2
   go_ret
   exact ⟨rfl,HB.out⟩
 ·have hk':(r.kind == 0)=false:=by simpa using hk
  have hk2:decide (0<r.kind)=true:=decide_eq_true (by omega)
  rw[if_neg hk] at HE2
  go_wp2_with fail
  refine (jVE5 _ r.lens _ HL4.out).mono ?_
  rintro e w1 ⟨rfl,rfl⟩
  go_wp2
  go_ret
  exact ⟨jx9N HE2.out.symm,HB.out⟩
theorem jImi (r:RawF) (lv tv sv cv:Value) (w:World) (hh:Head r) (hp:X1uD w r.plan sv cv) :
  Calls Tryz.prog 75 #[.agg (rawA r lv tv sv cv)] w fun e w'=>e=.returned (.int .i64 (pErr r))∧Below w.heap.size w w':=by
 have HP:=hide hp
 obtain ⟨⟨lo,lc,rfl,hll,_⟩,⟨ko,kc,rfl,hkl,_⟩⟩:=hp
 have a1:=al1 w (ka (rawA r lv tv (.slice lo r.plan.spots.length lc) (.slice ko r.plan.curve.length kc)) 57)
 have HB:=hide (qUNz w (ka (rawA r lv tv (.slice lo r.plan.spots.length lc) (.slice ko r.plan.curve.length kc)) 57))
 have hlt:=(kb.1 a1).1
 have HE:=hide (show pErr r=if planE r.plan=0 then (if XepW r.w r.h r.plan.spots=true then 0 else 3) else planE r.plan from rfl)
 generalize pErr r=E at *
 have HT:=hide (Xzfy a1)
 have HHD:=hide hh
 have HCK:=hide (fun (u:World) (hu:Below w.heap.size w u)=>zkWW r.plan _ _ u (HP.out.below hu (kd _)))
 clear hh
 go_enter Tryz.func75,Tryz.ntmps75
 go_wp2_with (refine XiYX rfl 51 _ rfl _ 7 rfl (planA r.plan (.slice lo r.plan.spots.length lc) (.slice ko r.plan.curve.length kc)) _ HT.out Tryz.underlying51 rfl (by kernel_rfl) ?_)
 generalize w.alloc (ka (rawA r lv tv (.slice lo r.plan.spots.length lc) (.slice ko r.plan.curve.length kc)) 57)=U at *
 refine (HCK.out _ HB.out).mono ?_
 rintro e V1 ⟨rfl,hb1⟩
 have HB1:=hide (quJN HB.out hb1)
 by_cases hF:planE r.plan=0
 ·rw[if_pos hF] at HE
  rw[hF]
  obtain ⟨s0,s1,s2,s3,s4,s5,s6,s13,s26⟩:=zUTj ((hb1.block _ hlt).trans a1)
  go_wp2_with fail
  clear s0 s1 s2 s3 s4 s5 s6 s13 s26
  refine (jbdn _ r.plan.spots r.w r.h HHD.out.w HHD.out.h _ (HP.out.spots.below HB1.out (kd _))).mono ?_
  rintro e V3 ⟨rfl,rfl⟩
  cases hs:XepW r.w r.h r.plan.spots
  ·have he:E=3:=by rw[HE.out,hs];rfl
   subst he
   go_wp2
   go_ret
   exact ⟨rfl,HB1.out⟩
  ·have he:E=0:=by rw[HE.out,hs];rfl
   subst he
   go_wp2
   go_ret
   exact ⟨rfl,HB1.out⟩
 ·rw[if_neg hF] at HE
  have hn:(planE r.plan != 0)=true:=by simpa using hF
  have he:E=planE r.plan:=HE.out
  subst he
  go_wp2
  go_ret
  exact ⟨rfl,HB1.out⟩
theorem XhYN (r:RawF) (lv tv sv cv:Value) (w:World) (h:Head r) :
  Calls Tryz.prog 78 #[.agg (rawA r lv tv sv cv)] w fun e w'=>e=.returned (.int .i64 (cntN r))∧Below w.heap.size w w':=by
 have hb:=h.rows
 have hc:=h.h
 obtain ⟨X,hX⟩:∃X:Int,r.h+r.rows-1=X:=⟨_,rfl⟩
 have hp:=h.cnt_int
 rw[hX] at hp
 have hx:0≤X:=by omega
 have hn:¬r.rows=0:=by omega
 have a1:=al1 w (ka (rawA r lv tv sv cv) 57)
 have HB:=hide (qUNz w (ka (rawA r lv tv sv cv) 57))
 have t1:IntKind.i64.wrap (r.h+r.rows)=r.h+r.rows:=ke _ (by omega)
 have t2:IntKind.i64.wrap (r.h+r.rows-1)=X:=by rw[←hX];exact ke _ (by omega)
 have hq:X.tdiv r.rows=(cntN r:Int):=by rw[hp];exact Int.tdiv_eq_ediv_of_nonneg hx
 have hle:=h.cnt_le
 have t3:IntKind.i64.wrap (X.tdiv r.rows)=(cntN r:Int):=by rw[hq];exact ke _ (by omega)
 have HC:=hide hp.symm
 clear hp
 generalize cntN r=C at *
 obtain ⟨s0,s1,s2,s3,s4,s5,s6,s13,s26⟩:=zUTj a1
 go_enter Tryz.func78,Tryz.ntmps78
 go_wp2
 go_ret
 exact ⟨jx9N (by first|rfl|exact HC.out),HB.out⟩
theorem XZvH (r:RawF) (lv tv sv cv:Value) (i:Nat) (w:World) (h:Head r) (hi:i<cntN r) :
  Calls Tryz.prog 79 #[.agg (rawA r lv tv sv cv),.int .i64 i] w fun e w'=>e=.returned (.int .i64 (rowN r i))∧Below w.heap.size w w':=by
 have hb:=h.rows
 have hc:=h.h
 have hlt:=(h.cnt_pos i).1 hi
 have hle:=h.cnt_le
 have a1:=al1 w (ka (rawA r lv tv sv cv) 57)
 have HB:=hide (qUNz w (ka (rawA r lv tv sv cv) 57))
 have h0:0≤(i:Int)*r.rows:=Int.mul_nonneg (by omega) (by omega)
 have t1:wrap64 ((i:Int)*r.rows)=i*r.rows:=IntWalk.wrap64_in _ (by omega)
 have t2:wrap64 (r.h-(i:Int)*r.rows)=r.h-i*r.rows:=IntWalk.wrap64_in _ (by omega)
 have HR:=hide (show min r.rows (wrap64 (r.h-wrap64 ((i:Int)*r.rows)))=rowN r i by rw[t1,t2];rfl)
 have HR2:=hide (show min r.rows (r.h-(i:Int)*r.rows)=rowN r i from rfl)
 clear t1 t2
 generalize rowN r i=R at *
 obtain ⟨s0,s1,s2,s3,s4,s5,s6,s13,s26⟩:=zUTj a1
 go_enter Tryz.func79,Tryz.ntmps79
 go_wp2
 go_ret
 exact ⟨jx9N (by first|exact HR.out|exact HR2.out),HB.out⟩
def shalB (d:Int) (xs:List Int):Bool:=xs.all fun n=>decide (n≤2 ^ d.toNat-1)
theorem qyUf {d:Int} {xs:List Int} (h:∀x∈xs,0≤x):shalB d xs=jgbG d xs:=by
 unfold shalB jgbG allIn
 induction xs with
 | nil=>rfl
 | cons x xs ih =>
  have h0:=h x (by simp)
  rw[List.all_cons,List.all_cons,ih (fun y hy=>h y (by simp[hy]))]
  congr 1
  exact decide_eq_decide.2 ⟨fun h=>⟨h0,h⟩,fun h=>h.2⟩
theorem zzrY {d:Int} {xs:List Int} {k:Nat} (hk:k<xs.length) (h:¬xs[k]≤2 ^ d.toNat-1):shalB d xs=false:=by
 rw[Bool.eq_false_iff];intro he
 exact h (of_decide_eq_true (List.all_eq_true.1 he _ (List.getElem_mem hk)))
theorem XFbH {d:Int} {xs:List Int} {k:Nat} (hk:k<xs.length) (h:shalB d (xs.take k)=true) (h2:xs[k]≤2 ^ d.toNat-1):shalB d (xs.take (k+1))=true:=by
 unfold shalB at h ⊢
 rw[List.take_succ_eq_append_getElem hk,List.all_append,h]
 simp[h2]
theorem zm8k (v:Value) (xs:List Int) (d:Int) (w:World) (hd:1≤d∧d≤16) (hv:jCvT w v xs) :
  Calls Tryz.prog 76 #[v,.int .i64 d] w fun e w'=>e=.returned (.bool (shalB d xs))∧Below w.heap.size w w':=by
 obtain ⟨q1,q2,q3⟩:=qc2G hd
 obtain ⟨ao,ca,rfl,hxl,hc⟩:=hv
 have HSF:=hide (fun k (hk:k<xs.length) (h:¬xs[k]≤2 ^ d.toNat-1)=>zzrY (d:=d) hk h)
 have HST:=hide (fun k (hk:k<xs.length) (h:shalB d (xs.take k)=true) (h2:xs[k]≤2 ^ d.toNat-1)=>XFbH (d:=d) hk h h2)
 have HS0:=hide (show shalB d (xs.take 0)=true from rfl)
 have HSL:=hide (show shalB d xs=shalB d (xs.take xs.length) by rw[List.take_length])
 obtain ⟨D,rfl⟩:∃D:Nat,d=D:=⟨d.toNat,by omega⟩
 rw[Int.toNat_natCast] at HSF HST q1 q2 q3
 generalize shalB (D:Int)=SB at *
 obtain ⟨X,hX⟩:∃X:Int,(2:Int) ^ D=X:=⟨_,rfl⟩
 rw[hX] at HSF HST q1 q2 q3
 have hx2:(1:Int)*2 ^ D=X:=by rw[hX,Int.one_mul]
 have t1:IntKind.i64.wrap X=X:=ke _ (by omega)
 have hsh:((1:Int) <<< D)=X:=by rw[Int.shiftLeft_eq,hX,Int.one_mul]
 go_enter Tryz.func76,Tryz.ntmps76
 go_wp2_with fail
 go_loopw [5] (fun i wr=>∃k:Nat,k≤xs.length∧i=.int .i64 k∧Hid (SB (xs.take k)=true)∧Below w.heap.size w wr) (fun i _=>xs.length-(intOf i).toNat)
 case atStart=>exact ⟨0,kf _,rfl,HS0.out,Below.refl _ _⟩
 case round =>
  obtain ⟨k,hk,rfl,HJ,hbel⟩:=hrel
  by_cases hlt:k<xs.length
  ·have hd:decide ((k:Int)<(xs.length:Int))=true:=by simp;omega
   obtain ⟨b,off,rfl,hb,hcell⟩:∃b off,ao=some ⟨b,off,none⟩∧b<w.heap.size∧wr.cell? ⟨b,off+k,none⟩=some (.int .i64 xs[k]):=by
    rcases hc with h|⟨b,off,h1,h2,h3⟩
    ·rw[h] at hlt;simp at hlt
    ·exact ⟨b,off,h1,h2,(hbel.cell (p:=⟨b,off+k,none⟩) h2).trans (h3 k hlt)⟩
   have HF:=hide (HSF.out k hlt)
   have HT:=hide (HST.out k hlt HJ.out)
   obtain ⟨z,hz⟩:∃z,xs[k]=z:=⟨_,rfl⟩
   rw[hz] at hcell HF HT
   by_cases hle:z≤X-1
   ·have hdz:decide (X-1<z)=false:=decide_eq_false (by omega)
    have HT2:=hide (HT.out hle)
    go_upto_region 4 with fail
    go_quiet (fail)
    go_wp2
    go_roundw
    case rel=>exact ⟨k+1,hlt,by go_num,HT2.out,below_drewN hbel _⟩
    case measure=>simp[intOf];omega
   ·have hdz:decide (X-1<z)=true:=decide_eq_true (by omega)
    have HF2:=hide (HF.out (by first|exact hle|omega))
    go_upto_region 4 with fail
    go_quiet (fail)
    go_wp2
    go_ret
    exact ⟨j3Zs HF2.out.symm,below_drewN hbel _⟩
  ·have hd:decide ((k:Int)<(xs.length:Int))=false:=by simp;omega
   obtain rfl:xs.length=k:=by omega
   have HF:=hide (HSL.out.trans HJ.out)
   go_wp2
   go_ret
   exact ⟨j3Zs HF.out.symm,hbel⟩
theorem zcyA (W:World) (xs:Array Value) (i:Nat) (z:Int) (h:xs[i]?=some (.int .i64 z)):(part 3 xs i).run Tryz.prog W=.ok (.int .i64 z) W:=by
 have ha:=Tryz.isAgg3 W
 simp[part,Sem.run_bind,ha,h,go_sem]
theorem zRYN {N:Nat} {t:TypeId} (ht:Tryz.prog.underlying t=some (.array N 3)) (xs:Array Value) (f:Nat→Int) (hx:∀i,i<N→xs[i]?=some (.int .i64 (f i))) (d:Nat) (W:World) :
  (Op.equalIn (d+2) t (.agg xs) (.agg xs)).run Tryz.prog W=.ok true W:=by
 have hs:=Tryz.sizeOf3
 unfold Op.equalIn
 simp only[Sem.run_bind,run_underlying ht,Result.andThen_ok,hs]
 have hm:∀i∈List.range' 0 N,i<N:=fun i hi=>by simp at hi;exact hi
 simp only[Std.Legacy.Range.forIn_eq_forIn_range',Std.Legacy.Range.size,Nat.sub_zero,Nat.add_one_sub_one,Nat.div_one]
 generalize List.range' 0 N=is at hm ⊢
 induction is with
 | nil=>rfl
 | cons i is ih =>
  have hp:=zcyA W xs (i*1) (f i) (by rw[Nat.mul_one];exact hx i (hm i (by simp)))
  have he:=run_equalIn_int (P:=Tryz.prog) W d 3 .i64 .i64 (f i) (f i) Tryz.underlying3
  simp only[List.forIn_cons,Sem.run_bind,hp,he,Result.andThen_ok]
  simpa using ih (fun j hj=>hm j (by simp[hj]))
theorem zzJt (n:Plan) (sv cv su cu:Value) (w:World) (h1:X1uD w n sv cv) (h2:X1uD w n su cu) :
  Calls Tryz.prog 82 #[.agg (planA n sv cv),.agg (planA n su cu)] w fun e w'=>e=.returned (.bool true)∧Below w.heap.size w w':=by
 have H1:=hide h1
 have H2:=hide h2
 obtain ⟨⟨lo,lc,rfl,hll,_⟩,⟨ko,kc,rfl,hkl,_⟩⟩:=h1
 obtain ⟨⟨mo,mc,rfl,_,_⟩,⟨po,pc,rfl,_,_⟩⟩:=h2
 obtain ⟨a1,a2⟩:=al2 w (ka (planA n (.slice lo n.spots.length lc) (.slice ko n.curve.length kc)) 51) (ka (planA n (.slice mo n.spots.length mc) (.slice po n.curve.length pc)) 51)
 have HB:=hide (be2 w (ka (planA n (.slice lo n.spots.length lc) (.slice ko n.curve.length kc)) 51) (ka (planA n (.slice mo n.spots.length mc) (.slice po n.curve.length pc)) 51))
 obtain ⟨c0,c1,c2,c3,c4,c5,c6,c7,c8,c9,c10,c11,c12,c13,c14,c15,c16,c17,c18,c19,c20⟩:=qH9I a1
 obtain ⟨d0,d1,d2,d3,d4,d5,d6,d7,d8,d9,d10,d11,d12,d13,d14,d15,d16,d17,d18,d19,d20⟩:=qH9I a2
 have e4:∀W,(Op.equalIn 10000 45 (.agg #[.int .i64 (n.black 0),.int .i64 (n.black 1),.int .i64 (n.black 2),.int .i64 (n.black 3)]) (.agg #[.int .i64 (n.black 0),.int .i64 (n.black 1),.int .i64 (n.black 2),.int .i64 (n.black 3)])).run Tryz.prog W=.ok true W:=fun W=>zRYN (N:=4) Tryz.underlying45 _ n.black (fun i hi=>by rcases (show i=0∨i=1∨i=2∨i=3 by omega) with rfl|rfl|rfl|rfl<;>rfl) 9998 W
 have e3:∀W,(Op.equalIn 10000 47 (.agg #[.int .i64 (n.gains 0),.int .i64 (n.gains 1),.int .i64 (n.gains 2)]) (.agg #[.int .i64 (n.gains 0),.int .i64 (n.gains 1),.int .i64 (n.gains 2)])).run Tryz.prog W=.ok true W:=fun W=>zRYN (N:=3) Tryz.underlying47 _ n.gains (fun i hi=>by rcases (show i=0∨i=1∨i=2 by omega) with rfl|rfl|rfl<;>rfl) 9998 W
 have e9:∀W,(Op.equalIn 10000 48 (.agg #[.int .i64 (n.matrix 0),.int .i64 (n.matrix 1),.int .i64 (n.matrix 2),.int .i64 (n.matrix 3),.int .i64 (n.matrix 4),.int .i64 (n.matrix 5),.int .i64 (n.matrix 6),.int .i64 (n.matrix 7),.int .i64 (n.matrix 8)]) (.agg #[.int .i64 (n.matrix 0),.int .i64 (n.matrix 1),.int .i64 (n.matrix 2),.int .i64 (n.matrix 3),.int .i64 (n.matrix 4),.int .i64 (n.matrix 5),.int .i64 (n.matrix 6),.int .i64 (n.matrix 7),.int .i64 (n.matrix 8)])).run Tryz.prog W=.ok true W:=fun W=>zRYN (N:=9) Tryz.underlying48 _ n.matrix (fun i hi=>by rcases (show i=0∨i=1∨i=2∨i=3∨i=4∨i=5∨i=6∨i=7∨i=8 by omega) with rfl|rfl|rfl|rfl|rfl|rfl|rfl|rfl|rfl<;>rfl) 9998 W
 have hl1:=(kb.1 a1).1
 have hl2:=(kb.1 a2).1
 go_enter Tryz.func82,Tryz.ntmps82
 go_upto_region 3 with fail
 clear c0 c1 c2 c3 c4 c5 c6 c7 c8 c9 c10 c11 c12 c13 c14 c15 c16 c17 c18 c19 c20 d0 d1 d2 d3 d4 d5 d6 d7 d8 d9 d10 d11 d12 d13 d14 d15 d16 d17 d18 d19 d20 e4 e3 e9
 generalize (w.alloc (ka (planA n (.slice lo n.spots.length lc) (.slice ko n.curve.length kc)) 51)).alloc (ka (planA n (.slice mo n.spots.length mc) (.slice po n.curve.length pc)) 51)=U at *
 have HP1:=hide (fun (V:World) (hV:Below U.heap.size U V)=>qH9I ((hV.block _ hl1).trans a1))
 have HP2:=hide (fun (V:World) (hV:Below U.heap.size U V)=>qH9I ((hV.block _ hl2).trans a2))
 clear a1 a2 hl1 hl2
 go_wp2_with fail
 go_loopw [5] (fun i wr=>∃k:Nat,k≤n.spots.length∧i=.int .i64 k∧Below U.heap.size U wr) (fun i _=>n.spots.length-(intOf i).toNat)
 case atStart=>exact ⟨0,kf _,rfl,Below.refl _ _⟩
 case round =>
  obtain ⟨k,hk,rfl,hbel⟩:=hrel
  obtain ⟨c0,c1,c2,c3,c4,c5,c6,c7,c8,c9,c10,c11,c12,c13,c14,c15,c16,c17,c18,c19,c20⟩:=HP1.out wr hbel
  obtain ⟨d0,d1,d2,d3,d4,d5,d6,d7,d8,d9,d10,d11,d12,d13,d14,d15,d16,d17,d18,d19,d20⟩:=HP2.out wr hbel
  by_cases hlt:k<n.spots.length
  ·have hd:decide ((k:Int)<(n.spots.length:Int))=true:=by simp;omega
   obtain ⟨bq,oq,rfl,hbq,x0,x1⟩:=(H1.out.spots.below (quJN HB.out hbel) (kd _)).at k hlt
   obtain ⟨br,or',rfl,hbr,y0,y1⟩:=(H2.out.spots.below (quJN HB.out hbel) (kd _)).at k hlt
   obtain ⟨⟨x,y⟩,hxy⟩:∃t,ptAt n.spots k=t:=⟨_,rfl⟩
   rw[hxy] at x0 x1 y0 y1
   go_upto_region 6 with fail
   go_quiet (fail)
   go_wp2
   go_roundw
   case rel=>exact ⟨k+1,hlt,by go_num,below_drewN hbel _⟩
   case measure=>simp[intOf];omega
  ·have hd:decide ((k:Int)<(n.spots.length:Int))=false:=by simp;omega
   obtain rfl:k=n.spots.length:=by omega
   go_wp2_with fail
   go_loopw [6] (fun i wr=>∃k:Nat,k≤n.curve.length∧i=.int .i64 k∧Below U.heap.size U wr) (fun i _=>n.curve.length-(intOf i).toNat)
   case atStart=>exact ⟨0,kf _,rfl,hbel⟩
   case round =>
    obtain ⟨k,hk,rfl,hbel⟩:=hrel
    obtain ⟨c0,c1,c2,c3,c4,c5,c6,c7,c8,c9,c10,c11,c12,c13,c14,c15,c16,c17,c18,c19,c20⟩:=HP1.out wr hbel
    obtain ⟨d0,d1,d2,d3,d4,d5,d6,d7,d8,d9,d10,d11,d12,d13,d14,d15,d16,d17,d18,d19,d20⟩:=HP2.out wr hbel
    by_cases hlt:k<n.curve.length
    ·have hd:decide ((k:Int)<(n.curve.length:Int))=true:=by simp;omega
     obtain ⟨bq,oq,rfl,hbq,x0,x1⟩:=(H1.out.curve.below (quJN HB.out hbel) (kd _)).at k hlt
     obtain ⟨br,or',rfl,hbr,y0,y1⟩:=(H2.out.curve.below (quJN HB.out hbel) (kd _)).at k hlt
     obtain ⟨⟨x,y⟩,hxy⟩:∃t,ptAt n.curve k=t:=⟨_,rfl⟩
     rw[hxy] at x0 x1 y0 y1
     go_upto_region 11 with fail
     go_quiet (fail)
     go_wp2
     go_roundw
     case rel=>exact ⟨k+1,hlt,by go_num,below_drewN hbel _⟩
     case measure=>simp[intOf];omega
    ·have hd:decide ((k:Int)<(n.curve.length:Int))=false:=by simp;omega
     obtain rfl:k=n.curve.length:=by omega
     go_wp2
     go_ret
     exact ⟨rfl,quJN HB.out hbel⟩
theorem jafH {P:Program} {ops:Array Oper} {rest:List Oper} {o:Oper} {a:Act} {w:World} {Q:Exit→Act→World→Prop} (hw:Region.wanted o (yielded ops a.tmps)=true) (ty:TypeId) (x:Operand) (ho:o.op=.load ty x)
  (g of:Nat) (hx:a.eval x=.pointer (some ⟨g,of,none⟩)) (cs:Array Value) (d:TypeDesc) (hc:∀j v,cs.toList[j]?=some v→w.cell? ⟨g,of+j,none⟩=some v)
  (hu:P.underlying ty=some d) (hd:(match d with | .struct _ | .array _ _=>true|_=>false)=true) (hi:(P.info? ty).map (·.size)=some cs.size)
  (h:wpList P ops Q rest (a.put o.dst (.agg cs)) w):wpList P ops Q (o::rest) a w:=by
 unfold wpList
 rw[if_pos hw]
 refine .inl ?_
 unfold Oper.wp execOp
 simp only[ho,hx,Instr.loadAt,Instr.sureAddr,Sem.run_bind,Sem.run_pure,Result.andThen_ok,zoPR w g of ty cs d hc hu hd hi]
 exact h
theorem j0zH (r:RawF) (lv tv sv cv lu tu su cu:Value) (w:World) (h1:IsRaw w r lv tv sv cv) (h2:IsRaw w r lu tu su cu) :
  Calls Tryz.prog 23 #[.agg (rawA r lv tv sv cv),.agg (rawA r lu tu su cu)] w fun e w'=>e=.returned (.bool true)∧Below w.heap.size w w':=by
 have H1:=hide h1
 have H2:=hide h2
 obtain ⟨lo,lc,rfl,_,_⟩:=h1.lens
 obtain ⟨tp,tc,rfl,_,_⟩:=h1.strips
 obtain ⟨mo,mc,rfl,_,_⟩:=h2.lens
 obtain ⟨up,uc,rfl,_,_⟩:=h2.strips
 clear h1 h2
 obtain ⟨a1,a2⟩:=al2 w (ka (rawA r (.slice lo r.lens.length lc) (.slice tp r.strips.length tc) sv cv) 57) (ka (rawA r (.slice mo r.lens.length mc) (.slice up r.strips.length uc) su cu) 57)
 have HB:=hide (be2 w (ka (rawA r (.slice lo r.lens.length lc) (.slice tp r.strips.length tc) sv cv) 57) (ka (rawA r (.slice mo r.lens.length mc) (.slice up r.strips.length uc) su cu) 57))
 have hl1:=(kb.1 a1).1
 have hl2:=(kb.1 a2).1
 obtain ⟨s0,s1,s2,s3,s4,s5,s6,s13,s26⟩:=zUTj a1
 obtain ⟨t0,t1,t2,t3,t4,t5,t6,t13,t26⟩:=zUTj a2
 go_enter Tryz.func23,Tryz.ntmps23
 go_wp2_with fail
 clear s0 s1 s2 s3 s4 s5 s6 s13 s26 t0 t1 t2 t3 t4 t5 t6 t13 t26
 generalize (w.alloc (ka (rawA r (.slice lo r.lens.length lc) (.slice tp r.strips.length tc) sv cv) 57)).alloc (ka (rawA r (.slice mo r.lens.length mc) (.slice up r.strips.length uc) su cu) 57)=U at *
 have HC1:=hide (fun (V:World) (hV:Below U.heap.size U V)=>zUTj ((hV.block _ hl1).trans a1))
 have HC2:=hide (fun (V:World) (hV:Below U.heap.size U V)=>zUTj ((hV.block _ hl2).trans a2))
 have HT1:=hide (fun (V:World) (hV:Below U.heap.size U V)=>Xzfy ((hV.block _ hl1).trans a1))
 have HT2:=hide (fun (V:World) (hV:Below U.heap.size U V)=>Xzfy ((hV.block _ hl2).trans a2))
 clear a1 a2 hl1 hl2
 refine (qvSR _ _ r.lens r.lens _ (H1.out.lens.below HB.out (kd _)) (H2.out.lens.below HB.out (kd _))).mono ?_
 rintro e V1 ⟨rfl,hb1⟩
 rw[decide_eq_true rfl]
 obtain ⟨s0,s1,s2,s3,s4,s5,s6,s13,s26⟩:=HC1.out V1 hb1
 obtain ⟨t0,t1,t2,t3,t4,t5,t6,t13,t26⟩:=HC2.out V1 hb1
 have p1:=HT1.out V1 hb1
 have p2:=HT2.out V1 hb1
 have HP1:=hide p1
 have HP2:=hide p2
 clear p1 p2
 go_wp2_with (first|refine jafH (by rfl) 51 _ rfl w.heap.size 7 rfl (planA r.plan sv cv) _ HP1.out Tryz.underlying51 rfl (by kernel_rfl) ?_|refine jafH (by rfl) 51 _ rfl (w.heap.size+1) 7 rfl (planA r.plan su cu) _ HP2.out Tryz.underlying51 rfl (by kernel_rfl) ?_)
 clear s0 s1 s2 s3 s4 s5 s6 s13 s26 t0 t1 t2 t3 t4 t5 t6 t13 t26
 refine (zzJt r.plan _ _ _ _ _ (H1.out.plan.below (quJN HB.out hb1) (kd _)) (H2.out.plan.below (quJN HB.out hb1) (kd _))).mono ?_
 rintro e V2 ⟨rfl,hb2⟩
 replace hb2:=quJN hb1 hb2
 go_wp2_with fail
 go_loopw [5] (fun i wr=>∃k:Nat,k≤r.strips.length∧i=.int .i64 k∧Below U.heap.size U wr) (fun i _=>r.strips.length-(intOf i).toNat)
 case atStart=>exact ⟨0,kf _,rfl,hb2⟩
 case round =>
  obtain ⟨k,hk,rfl,hbel⟩:=hrel
  obtain ⟨s0,s1,s2,s3,s4,s5,s6,s13,s26⟩:=HC1.out wr hbel
  obtain ⟨t0,t1,t2,t3,t4,t5,t6,t13,t26⟩:=HC2.out wr hbel
  by_cases hlt:k<r.strips.length
  ·have hd:decide ((k:Int)<(r.strips.length:Int))=true:=by simp;omega
   obtain ⟨bq,oq,rfl,hbq,x0⟩:=(H1.out.strips.below (quJN HB.out hbel) (kd _)).at k hlt
   obtain ⟨br,or',rfl,hbr,y0⟩:=(H2.out.strips.below (quJN HB.out hbel) (kd _)).at k hlt
   obtain ⟨T,hT⟩:∃t,str (r.strips.getD k [])=t:=⟨_,rfl⟩
   rw[hT] at x0 y0
   clear hT
   go_upto_region 6 with fail
   go_quiet (fail)
   go_wp2
   go_roundw
   case rel=>exact ⟨k+1,hlt,by go_num,below_drewN hbel _⟩
   case measure=>simp[intOf];omega
  ·have hd:decide ((k:Int)<(r.strips.length:Int))=false:=by simp;omega
   obtain rfl:k=r.strips.length:=by omega
   go_wp2
   go_ret
   exact ⟨rfl,quJN HB.out hbel⟩
end Go.Proofs.YtfjeonehdlphiaaGreatDoor
