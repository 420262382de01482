/- Re: part 35 of what the proofs need. -/
import Derived.Test.YtfjeonehdlphiaaGreatDoorC1Re
import Derived.Test.YtfjeonehdlphiaaGreatDoorC2Re
import Derived.Test.YtfjeonehdlphiaaGreatDoorC3Re
import Derived.Test.YtfjeonehdlphiaaGreatDoorC12Re
import Derived.Test.YtfjeonehdlphiaaGreatDoorC13Re
import Derived.Test.YtfjeonehdlphiaaGreatDoorC26Re
open Go.Obj renaming cells → ka
open Array renaming getElem?_eq_some_iff → kb
open Nat renaming le_refl → kd, lt_of_lt_of_le → kf
open Go.IntWalk renaming i64_in → ke
open Bool renaming and_eq_true → kg
set_option linter.unusedVariables false
set_option maxHeartbeats 1600000
set_option maxRecDepth 100000
namespace Go.Proofs.YtfjeonehdlphiaaGreatDoor
open Go.RowKit
structure RawF where
 w:Int
 h:Int
 depth:Int
 kind:Int
 rows:Int
 lens:List Int
 strips:List (List UInt8)
 plan:Plan
abbrev rawA (r:RawF) (lv tv sv cv:Value):Array Value:=#[.int .i64 r.w,.int .i64 r.h,.int .i64 r.depth,.int .i64 r.kind,.int .i64 r.rows,lv,tv,
 .int .i64 r.plan.phase,.int .i64 (r.plan.black 0),.int .i64 (r.plan.black 1),.int .i64 (r.plan.black 2),.int .i64 (r.plan.black 3),.int .i64 r.plan.white,sv,.int .i64 (r.plan.gains 0),.int .i64 (r.plan.gains 1),.int .i64 (r.plan.gains 2),
 .int .i64 (r.plan.matrix 0),.int .i64 (r.plan.matrix 1),.int .i64 (r.plan.matrix 2),.int .i64 (r.plan.matrix 3),.int .i64 (r.plan.matrix 4),.int .i64 (r.plan.matrix 5),.int .i64 (r.plan.matrix 6),.int .i64 (r.plan.matrix 7),.int .i64 (r.plan.matrix 8),cv,.int .i64 r.plan.amount]
def qx8k (r:RawF):Bool:=jbTy r.w && jbTy r.h && XSys r.depth && decide (1≤r.rows∧r.rows≤r.h)
def kindE (r:RawF):Int:=if r.kind=0 then (if r.lens.length=0 then 0 else 1) else qO3F r.lens
def headE (r:RawF):Int:=if qx8k r=true then (if 0≤r.kind∧r.kind≤7 then kindE r else 6) else 3
def pErr (r:RawF):Int:=if planE r.plan=0 then (if XepW r.w r.h r.plan.spots=true then 0 else 3) else planE r.plan
def cntN (r:RawF):Nat:=((r.h+r.rows-1) / r.rows).toNat
def rowN (r:RawF) (i:Nat):Int:=min r.rows (r.h-i*r.rows)
def jgbG (d:Int) (l:List Int):Bool:=allIn 0 (2 ^ d.toNat-1) l
def stE (r:RawF) (s:List UInt8) (n:Int):Int :=
 if r.kind=0 then unpE s r.depth (n*r.w) else (if qaPw s r.w n r.kind r.lens=0 then (if jgbG r.depth (jNAw s r.w n r.kind r.lens)=true then 0 else 1) else qaPw s r.w n r.kind r.lens)
def stZ (r:RawF) (s:List UInt8) (n:Int):List Int:=if stE r s n=0 then (if r.kind=0 then unpV s r.depth (n*r.w) else jNAw s r.w n r.kind r.lens) else []
def stAt (r:RawF) (i:Nat):List UInt8:=r.strips.getD i []
def plUp (r:RawF) (k:Nat):List Int:=(List.range k).flatMap fun i=>stZ r (stAt r i) (rowN r i)
def stOk (r:RawF) (k:Nat):Bool:=(List.range k).all fun i=>decide (stE r (stAt r i) (rowN r i)=0)
def XDWf (r:RawF):Int:=if headE r=0 then (if r.strips.length=cntN r then (if pErr r=0 then (if stOk r r.strips.length=true then 0 else 1) else pErr r) else 2) else headE r
structure Head (r:RawF):Prop where
 w:1≤r.w∧r.w≤64
 h:1≤r.h∧r.h≤64
 depth:1≤r.depth∧r.depth≤16
 rows:1≤r.rows∧r.rows≤r.h
 kind:0≤r.kind∧r.kind≤7
 lens:kindE r=0
theorem jWRa {r:RawF} (h:headE r=0):Head r:=by
 unfold headE at h
 split at h
 ·rename_i h1
  split at h
  ·rename_i h2
   simp only[qx8k,jbTy,XSys,kg,decide_eq_true_eq] at h1
   exact ⟨h1.1.1.1,h1.1.1.2,h1.1.2,h1.2,h2,h⟩
  ·exact absurd h (by decide)
 ·exact absurd h (by decide)
theorem Head.zero {r:RawF} (h:Head r):headE r=0:=by
 rw[headE,if_pos,if_pos h.kind,h.lens]
 simp only[qx8k,jbTy,XSys,kg,decide_eq_true_eq]
 exact ⟨⟨⟨h.w,h.h⟩,h.depth⟩,h.rows⟩
theorem Head.code {r:RawF} (h:Head r) (hk:r.kind≠0):qO3F r.lens=0:=by
 have:=h.lens
 rwa [kindE,if_neg hk] at this
theorem Head.cnt_pos {r:RawF} (h:Head r) (i:Nat):i<cntN r↔(i:Int)*r.rows<r.h:=by
 obtain ⟨h1,h2⟩:=h.rows
 obtain ⟨h3,_⟩:=h.h
 unfold cntN
 have hp:0<r.rows:=by omega
 have hq:0≤(r.h+r.rows-1) / r.rows:=Int.ediv_nonneg (by omega) (by omega)
 constructor
 ·intro hi
  have hi':(i:Int)+1≤(r.h+r.rows-1) / r.rows:=by omega
  have:=(Int.le_ediv_iff_mul_le hp).1 hi'
  have e:((i:Int)+1)*r.rows=i*r.rows+r.rows:=by rw[Int.add_mul,Int.one_mul]
  omega
 ·intro hi
  have e:((i:Int)+1)*r.rows=i*r.rows+r.rows:=by rw[Int.add_mul,Int.one_mul]
  have:(i:Int)+1≤(r.h+r.rows-1) / r.rows:=(Int.le_ediv_iff_mul_le hp).2 (by omega)
  omega
theorem Head.cnt_int {r:RawF} (h:Head r):((cntN r:Nat):Int)=(r.h+r.rows-1) / r.rows:=by
 obtain ⟨h1,h2⟩:=h.rows
 have hq:0≤(r.h+r.rows-1) / r.rows:=Int.ediv_nonneg (by omega) (by omega)
 unfold cntN;omega
theorem Head.cnt_le {r:RawF} (h:Head r):cntN r≤64:=by
 obtain ⟨h1,h2⟩:=h.rows
 obtain ⟨_,h4⟩:=h.h
 by_cases hh:64<cntN r
 ·have:=(h.cnt_pos 64).1 hh
  have:(64:Int)*1≤64*r.rows:=Int.mul_le_mul_of_nonneg_left h1 (by decide)
  omega
 ·omega
theorem Head.row {r:RawF} (h:Head r) {i:Nat} (hi:i<cntN r):1≤rowN r i∧rowN r i≤64:=by
 have:=(h.cnt_pos i).1 hi
 obtain ⟨h1,h2⟩:=h.rows
 obtain ⟨_,h4⟩:=h.h
 unfold rowN;omega
theorem XBWT {a b:Int} {A B:Int} (h1:0≤a∧a≤A) (h2:0≤b∧b≤B):0≤a*b∧a*b≤A*B :=
 ⟨Int.mul_nonneg h1.1 h2.1,Int.mul_le_mul h1.2 h2.2 h2.1 (by omega)⟩
theorem Head.size {r:RawF} (h:Head r) {i:Nat} (hi:i<cntN r):1≤rowN r i*r.w∧rowN r i*r.w≤4096:=by
 obtain ⟨h1,h2⟩:=h.row hi
 obtain ⟨h3,h4⟩:=h.w
 have:=XBWT ⟨by omega,h2⟩ ⟨by omega,h4⟩
 have:1*1≤rowN r i*r.w:=Int.mul_le_mul h1 h3 (by decide) (by omega)
 omega
theorem Head.stE {r:RawF} (h:Head r) {i:Nat} (hi:i<cntN r) (s:List UInt8):stE r s (rowN r i)=0∨stE r s (rowN r i)=1:=by
 obtain ⟨h1,h2⟩:=h.row hi
 obtain ⟨h3,h4⟩:=h.size hi
 have hw:=h.w
 have hd:=h.depth
 unfold Go.Proofs.YtfjeonehdlphiaaGreatDoor.stE
 by_cases hk:r.kind=0
 ·rw[if_pos hk,unpE,if_pos ⟨by rw[XSys,decide_eq_true_eq];exact hd,by omega⟩,if_pos h4]
  split
  ·exact .inl rfl
  ·exact .inr rfl
 ·rw[if_neg hk]
  have hE:=h.code hk
  have hk':=h.kind
  have e:qaPw s r.w (rowN r i) r.kind r.lens=0∨qaPw s r.w (rowN r i) r.kind r.lens=1:=by
   rw[qaPw,if_pos ⟨by rw[jbTy,decide_eq_true_eq];exact hw,by rw[jbTy,decide_eq_true_eq];exact ⟨h1,h2⟩⟩,if_pos (by rw[qkcw,decide_eq_true_eq];omega),if_pos hE]
   split
   ·exact .inl rfl
   ·exact .inr rfl
  rcases e with e|e
  ·rw[if_pos e]
   split
   ·exact .inl rfl
   ·exact .inr rfl
  ·rw[if_neg (by rw[e];decide)]
   exact .inr e
def zGcC (w:World) (v:Value) (ts:List (List UInt8)):Prop :=
 ∃ao cap,v=.slice ao ts.length cap∧ts.length≤9223372036854775807∧(ts=[]∨∃b off,ao=some ⟨b,off,none⟩∧b<w.heap.size∧∀j,j<ts.length→w.cell? ⟨b,off+j,none⟩=some (.string (str (ts.getD j []))))
theorem zGcC.below {w w':World} {v:Value} {ts:List (List UInt8)} {B:Nat} (h:zGcC w v ts) (hb:Below B w w') (hB:w.heap.size≤B):zGcC w' v ts:=by
 obtain ⟨ao,cap,hv,hl,h⟩:=h
 refine ⟨ao,cap,hv,hl,?_⟩
 rcases h with h|⟨b,off,ha,hlt,hc⟩
 ·exact .inl h
 ·exact .inr ⟨b,off,ha,kf hlt hb.size,fun j hj=>by rw[hb.cell (p:=⟨b,off+j,none⟩) (by exact kf hlt hB)];exact hc j hj⟩
theorem zGcC.nil (w:World):zGcC w (.slice none 0 0) []:=⟨none,0,rfl,by simp,.inl rfl⟩
theorem zGcC.at {w:World} {ao:Option Addr} {ca n:Nat} {ts:List (List UInt8)} (h:zGcC w (.slice ao n ca) ts) (j:Nat) (hj:j<ts.length):∃b off,ao=some ⟨b,off,none⟩∧b<w.heap.size∧w.cell? ⟨b,off+j,none⟩=some (.string (str (ts.getD j []))):=by
 obtain ⟨ao',cap,hv,hl,h⟩:=h
 cases hv
 rcases h with h|⟨b,off,ha,hlt,hc⟩
 ·rw[h] at hj;simp at hj
 ·exact ⟨b,off,ha,hlt,hc j hj⟩
theorem zUTj {w:World} {b:Nat} {t:TypeId} {fr:Nat×Nat} {r:RawF} {lv tv sv cv:Value} (h:w.heap[b]?=some (.cells (rawA r lv tv sv cv) t fr)) :
  w.cell? ⟨b,0,none⟩=some (.int .i64 r.w)∧w.cell? ⟨b,1,none⟩=some (.int .i64 r.h)∧w.cell? ⟨b,2,none⟩=some (.int .i64 r.depth)∧w.cell? ⟨b,3,none⟩=some (.int .i64 r.kind)∧w.cell? ⟨b,4,none⟩=some (.int .i64 r.rows) ∧
  w.cell? ⟨b,5,none⟩=some lv∧w.cell? ⟨b,6,none⟩=some tv∧w.cell? ⟨b,13,none⟩=some sv∧w.cell? ⟨b,26,none⟩=some cv:=by
 refine ⟨?_,?_,?_,?_,?_,?_,?_,?_,?_⟩<;>(rw[Lib.cell_of_heap h];rfl)
structure IsRaw (w:World) (r:RawF) (lv tv sv cv:Value):Prop where
 lens:jCvT w lv r.lens
 strips:zGcC w tv r.strips
 plan:X1uD w r.plan sv cv
theorem IsRaw.below {w w':World} {r:RawF} {lv tv sv cv:Value} {B:Nat} (h:IsRaw w r lv tv sv cv) (hb:Below B w w') (hB:w.heap.size≤B):IsRaw w' r lv tv sv cv :=
 ⟨h.lens.below hb hB,h.strips.below hb hB,h.plan.below hb hB⟩
theorem X0bE (r:RawF) (lv tv sv cv:Value) (w:World) (h:Head r) :
  Calls Tryz.prog 68 #[.agg (rawA r lv tv sv cv)] w fun e w'=>e=.returned (.int .i64 (cntN r))∧Below w.heap.size w w':=by
 have hb:=h.rows
 have hc:=h.h
 obtain ⟨X,hX⟩:∃X:Int,r.h+r.rows-1=X:=⟨_,rfl⟩
 have hp:=h.cnt_int
 rw[hX] at hp
 have hx:0≤X:=by omega
 have hn:¬r.rows=0:=by omega
 have a1:=al1 w (ka (rawA r lv tv sv cv) 57)
 have HB:=hide (qUNz w (ka (rawA r lv tv sv cv) 57))
 have t1:IntKind.i64.wrap (r.h+r.rows)=r.h+r.rows:=ke _ (by omega)
 have t2:IntKind.i64.wrap (r.h+r.rows-1)=X:=by rw[←hX];exact ke _ (by omega)
 have hq:X.tdiv r.rows=(cntN r:Int):=by rw[hp];exact Int.tdiv_eq_ediv_of_nonneg hx
 have hle:=h.cnt_le
 have t3:IntKind.i64.wrap (X.tdiv r.rows)=(cntN r:Int):=by rw[hq];exact ke _ (by omega)
 have HC:=hide hp.symm
 clear hp
 generalize cntN r=C at *
 obtain ⟨s0,s1,s2,s3,s4,s5,s6,s13,s26⟩:=zUTj a1
 go_enter Tryz.func68,Tryz.ntmps68
 go_wp2
 go_ret
 exact ⟨jx9N (by first|rfl|exact HC.out),HB.out⟩
theorem jN9a (r:RawF) (lv tv sv cv:Value) (i:Nat) (w:World) (h:Head r) (hi:i<cntN r) :
  Calls Tryz.prog 69 #[.agg (rawA r lv tv sv cv),.int .i64 i] w fun e w'=>e=.returned (.int .i64 (rowN r i))∧Below w.heap.size w w':=by
 have hb:=h.rows
 have hc:=h.h
 have hlt:=(h.cnt_pos i).1 hi
 have hle:=h.cnt_le
 have a1:=al1 w (ka (rawA r lv tv sv cv) 57)
 have HB:=hide (qUNz w (ka (rawA r lv tv sv cv) 57))
 have h0:0≤(i:Int)*r.rows:=Int.mul_nonneg (by omega) (by omega)
 have t1:wrap64 ((i:Int)*r.rows)=i*r.rows:=IntWalk.wrap64_in _ (by omega)
 have t2:wrap64 (r.h-(i:Int)*r.rows)=r.h-i*r.rows:=IntWalk.wrap64_in _ (by omega)
 have HR:=hide (show min r.rows (wrap64 (r.h-wrap64 ((i:Int)*r.rows)))=rowN r i by rw[t1,t2];rfl)
 have HR2:=hide (show min r.rows (r.h-(i:Int)*r.rows)=rowN r i from rfl)
 clear t1 t2
 generalize rowN r i=R at *
 obtain ⟨s0,s1,s2,s3,s4,s5,s6,s13,s26⟩:=zUTj a1
 go_enter Tryz.func69,Tryz.ntmps69
 go_wp2
 go_ret
 exact ⟨jx9N (by first|exact HR.out|exact HR2.out),HB.out⟩
theorem qc2G {d:Int} (h:1≤d∧d≤16):(1:Int)*2 ^ d.toNat-1=2 ^ d.toNat-1∧2 ^ d.toNat≤(65536:Int)∧(2:Int)≤2 ^ d.toNat:=by
 obtain ⟨D,rfl⟩:∃D:Nat,d=D:=⟨d.toNat,by omega⟩
 have h1:1≤D∧D≤16:=by omega
 rw[Int.toNat_natCast]
 have:∀D:Nat,1≤D∧D≤16→(2:Int) ^ D≤65536∧(2:Int)≤2 ^ D:=by
  intro D hD
  rcases (show D=1∨D=2∨D=3∨D=4∨D=5∨D=6∨D=7∨D=8∨D=9∨D=10∨D=11∨D=12∨D=13∨D=14∨D=15∨D=16 by omega) with rfl|rfl|rfl|rfl|rfl|rfl|rfl|rfl|rfl|rfl|rfl|rfl|rfl|rfl|rfl|rfl<;>decide
 exact ⟨by omega,this D h1⟩
theorem qr0y (v:Value) (xs:List Int) (d:Int) (w:World) (hd:1≤d∧d≤16) (hv:jCvT w v xs) :
  Calls Tryz.prog 66 #[v,.int .i64 d] w fun e w'=>e=.returned (.bool (jgbG d xs))∧w=w':=by
 have HV:=hide hv
 obtain ⟨ao,ca,rfl,_,_⟩:=hv
 obtain ⟨q1,q2,q3⟩:=qc2G hd
 have HD:=hide (show jgbG d xs=allIn 0 (2 ^ d.toNat-1) xs from rfl)
 generalize jgbG d xs=R at *
 obtain ⟨D,rfl⟩:∃D:Nat,d=D:=⟨d.toNat,by omega⟩
 rw[Int.toNat_natCast] at HD q1 q2 q3
 obtain ⟨X,hX⟩:∃X:Int,(2:Int) ^ D=X:=⟨_,rfl⟩
 rw[hX] at HD q1 q2 q3
 have hx2:(1:Int)*2 ^ D=X:=by rw[hX,Int.one_mul]
 have t1:IntKind.i64.wrap X=X:=ke _ (by omega)
 have hsh:((1:Int) <<< D)=X:=by rw[Int.shiftLeft_eq,hX,Int.one_mul]
 go_enter Tryz.func66,Tryz.ntmps66
 go_wp2_with fail
 refine (qFis 0 (X-1) _ xs _ HV.out).mono ?_
 rintro e w1 ⟨rfl,rfl⟩
 go_wp2
 go_ret
 exact ⟨j3Zs HD.out.symm,rfl⟩
theorem ints2b (w:World) (a b:Int):jCvT (w.alloc (.cells #[.int .i64 a,.int .i64 b] 3)) (.slice (some ⟨w.heap.size,0,none⟩) 2 2) [a,b] :=
 jCvT.own (base:=w.heap.size) (World.ownsRow_lit w #[.int .i64 a,.int .i64 b] 2 (kd _) (by decide) (by simp)) (by simp)
theorem qmJX (r:RawF):qx8k r=(allIn 1 64 [r.w,r.h] && allIn 1 16 [r.depth] && allIn 1 r.h [r.rows]):=by
 simp[qx8k,jbTy,XSys,allIn]
theorem zjUe (r:RawF) (lv tv sv cv:Value) (w:World) (hl:jCvT w lv r.lens) :
  Calls Tryz.prog 63 #[.agg (rawA r lv tv sv cv)] w fun e w'=>e=.returned (.int .i64 (headE r))∧Below w.heap.size w w':=by
 have HL:=hide hl
 obtain ⟨ao,ca,rfl,_,_⟩:=hl
 have a1:=al1 w (ka (rawA r (.slice ao r.lens.length ca) tv sv cv) 57)
 have HB:=hide (qUNz w (ka (rawA r (.slice ao r.lens.length ca) tv sv cv) 57))
 have hlt:=(kb.1 a1).1
 have HE:=hide (show headE r=if qx8k r=true then (if 0≤r.kind∧r.kind≤7 then kindE r else 6) else 3 from rfl)
 have HG:=hide (qmJX r)
 have HK:=hide (show kindE r=if r.kind=0 then (if r.lens.length=0 then 0 else 1) else qO3F r.lens from rfl)
 generalize headE r=E at *
 obtain ⟨s0,s1,s2,s3,s4,s5,s6,s13,s26⟩:=zUTj a1
 go_enter Tryz.func63,Tryz.ntmps63
 go_wp2_with fail
 clear s0 s1 s2 s3 s4 s5 s6 s13 s26
 have H1:=hide (ints2b (w.alloc (ka (rawA r (.slice ao r.lens.length ca) tv sv cv) 57)) r.w r.h)
 have B1:=hide (qUNz (w.alloc (ka (rawA r (.slice ao r.lens.length ca) tv sv cv) 57)) (ka #[.int .i64 r.w,.int .i64 r.h] 3))
 rw[World.size_alloc] at H1
 generalize w.alloc (ka (rawA r (.slice ao r.lens.length ca) tv sv cv) 57)=U at *
 have HF:=hide (fun (u:World) (hu:Below U.heap.size U u)=>zUTj ((hu.block _ hlt).trans a1))
 have HA:=hide a1
 clear a1
 generalize U.alloc (ka #[.int .i64 r.w,.int .i64 r.h] 3)=U1 at *
 refine (qFis 1 64 _ [r.w,r.h] _ H1.out).mono ?_
 rintro e w1 ⟨rfl,rfl⟩
 cases q1:allIn 1 64 [r.w,r.h]
 ·have he:E=3:=by rw[HE.out,HG.out,q1];rfl
  subst he
  go_wp2
  go_ret
  exact ⟨rfl,quJN HB.out B1.out⟩
 ·obtain ⟨s0,s1,s2,s3,s4,s5,s6,s13,s26⟩:=HF.out U1 B1.out
  go_wp2_with fail
  clear s0 s1 s2 s3 s4 s5 s6 s13 s26
  have B2:=hide (quJN B1.out (qUNz U1 (ka #[.int .i64 r.depth] 3)))
  refine (qFis 1 16 _ [r.depth] _ (ints1 U1 r.depth)).mono ?_
  rintro e w1 ⟨rfl,rfl⟩
  generalize U1.alloc (ka #[.int .i64 r.depth] 3)=U2 at *
  cases q2:allIn 1 16 [r.depth]
  ·have he:E=3:=by rw[HE.out,HG.out,q1,q2];rfl
   subst he
   go_wp2
   go_ret
   exact ⟨rfl,quJN HB.out B2.out⟩
  ·obtain ⟨s0,s1,s2,s3,s4,s5,s6,s13,s26⟩:=HF.out U2 B2.out
   go_wp2_with fail
   clear s0 s1 s2 s3 s4 s5 s6 s13 s26
   have B3:=hide (quJN B2.out (qUNz U2 (ka #[.int .i64 r.rows] 3)))
   refine (qFis 1 r.h _ [r.rows] _ (ints1 U2 r.rows)).mono ?_
   rintro e w1 ⟨rfl,rfl⟩
   generalize U2.alloc (ka #[.int .i64 r.rows] 3)=U3 at *
   cases q3:allIn 1 r.h [r.rows]
   ·have he:E=3:=by rw[HE.out,HG.out,q1,q2,q3];rfl
    subst he
    go_wp2
    go_ret
    exact ⟨rfl,quJN HB.out B3.out⟩
   ·have HE':=hide (show E=if 0≤r.kind∧r.kind≤7 then kindE r else 6 by rw[HE.out,HG.out,q1,q2,q3];rfl)
    clear HE HG q1 q2 q3
    obtain ⟨s0,s1,s2,s3,s4,s5,s6,s13,s26⟩:=HF.out U3 B3.out
    go_wp2_with fail
    clear s0 s1 s2 s3 s4 s5 s6 s13 s26
    have B4:=hide (quJN B3.out (qUNz U3 (ka #[.int .i64 r.kind] 3)))
    refine (qFis 0 7 _ [r.kind] _ (ints1 U3 r.kind)).mono ?_
    rintro e w1 ⟨rfl,rfl⟩
    generalize U3.alloc (ka #[.int .i64 r.kind] 3)=U4 at *
    cases q4:allIn 0 7 [r.kind]
    ·have he:E=6:=by
      rw[HE'.out,if_neg]
      intro hk
      simp[allIn,hk] at q4
     subst he
     go_wp2
     go_ret
     exact ⟨rfl,quJN HB.out B4.out⟩
    ·have hk4:0≤r.kind∧r.kind≤7:=by simpa [allIn] using q4
     have HE2:=hide (show E=if r.kind=0 then (if r.lens.length=0 then 0 else 1) else qO3F r.lens by rw[HE'.out,if_pos hk4];exact HK.out)
     clear HE' q4 hk4
     have HL4:=hide (HL.out.below (quJN HB.out B4.out) (kd _))
     obtain ⟨s0,s1,s2,s3,s4,s5,s6,s13,s26⟩:=HF.out U4 B4.out
     by_cases hk:r.kind=0
     ·have hk':(r.kind != 0)=false:=by simpa using hk
      rw[if_pos hk] at HE2
      by_cases hn:r.lens.length=0
      ·have he:E=0:=by rw[HE2.out,if_pos hn]
       have hn':decide (0<(r.lens.length:Int))=false:=decide_eq_false (by omega)
       subst he
       go_wp2
       go_ret
       exact ⟨rfl,quJN HB.out B4.out⟩
      ·have he:E=1:=by rw[HE2.out,if_neg hn]
       have hn':decide (0<(r.lens.length:Int))=true:=decide_eq_true (by omega)
       subst he
       go_wp2
       go_ret
       exact ⟨rfl,quJN HB.out B4.out⟩
     ·have hk':(r.kind != 0)=true:=by simpa using hk
      rw[if_neg hk] at HE2
      go_wp2_with fail
      refine (jIcm _ r.lens _ HL4.out).mono ?_
      rintro e w1 ⟨rfl,rfl⟩
      go_wp2
      go_ret
      exact ⟨jx9N HE2.out.symm,quJN HB.out B4.out⟩
theorem Xzfy {w:World} {b:Nat} {t:TypeId} {fr:Nat×Nat} {r:RawF} {lv tv sv cv:Value} (h:w.heap[b]?=some (.cells (rawA r lv tv sv cv) t fr)) :
  ∀j v,(planA r.plan sv cv).toList[j]?=some v→w.cell? ⟨b,7+j,none⟩=some v:=by
 intro j v hj
 rw[Lib.cell_of_heap h,←hj,←Array.getElem?_toList,show (rawA r lv tv sv cv).toList=[.int .i64 r.w,.int .i64 r.h,.int .i64 r.depth,.int .i64 r.kind,.int .i64 r.rows,lv,tv]++(planA r.plan sv cv).toList from rfl,List.getElem?_append_right (by simp)]
 simp
theorem z6ad (r:RawF) (lv tv sv cv:Value) (w:World) (hp:X1uD w r.plan sv cv) :
  Calls Tryz.prog 64 #[.agg (rawA r lv tv sv cv)] w fun e w'=>e=.returned (.int .i64 (pErr r))∧Below w.heap.size w w':=by
 have HP:=hide hp
 obtain ⟨⟨lo,lc,rfl,hll,_⟩,⟨ko,kc,rfl,hkl,_⟩⟩:=hp
 have a1:=al1 w (ka (rawA r lv tv (.slice lo r.plan.spots.length lc) (.slice ko r.plan.curve.length kc)) 57)
 have HB:=hide (qUNz w (ka (rawA r lv tv (.slice lo r.plan.spots.length lc) (.slice ko r.plan.curve.length kc)) 57))
 have hlt:=(kb.1 a1).1
 have HE:=hide (show pErr r=if planE r.plan=0 then (if XepW r.w r.h r.plan.spots=true then 0 else 3) else planE r.plan from rfl)
 generalize pErr r=E at *
 have HT:=hide (Xzfy a1)
 have HCK:=hide (fun (u:World) (hu:Below w.heap.size w u)=>jkni r.plan _ _ u (HP.out.below hu (kd _)))
 go_enter Tryz.func64,Tryz.ntmps64
 go_wp2_with (refine XiYX rfl 51 _ rfl _ 7 rfl (planA r.plan (.slice lo r.plan.spots.length lc) (.slice ko r.plan.curve.length kc)) _ HT.out Tryz.underlying51 rfl (by kernel_rfl) ?_)
 generalize w.alloc (ka (rawA r lv tv (.slice lo r.plan.spots.length lc) (.slice ko r.plan.curve.length kc)) 57)=U at *
 refine (HCK.out _ HB.out).mono ?_
 rintro e V1 ⟨rfl,hb1⟩
 have HB1:=hide (quJN HB.out hb1)
 by_cases hF:planE r.plan=0
 ·rw[if_pos hF] at HE
  rw[hF]
  obtain ⟨s0,s1,s2,s3,s4,s5,s6,s13,s26⟩:=zUTj ((hb1.block _ hlt).trans a1)
  have g1:=al1 V1 (ka #[.int .i64 r.w,.int .i64 r.h] 95)
  have hb3:=quJN hb1 (qUNz V1 (ka #[.int .i64 r.w,.int .i64 r.h] 95))
  obtain ⟨q0,q1⟩:=bx2 g1
  obtain ⟨_,_,_,_,_,_,_,u13,_⟩:=zUTj ((hb3.block _ hlt).trans a1)
  go_wp2_with fail
  clear s0 s1 s2 s3 s4 s5 s6 s13 s26 u13 q0 q1
  generalize V1.alloc (ka #[.int .i64 r.w,.int .i64 r.h] 95)=G at *
  have HB3:=hide (quJN HB.out hb3)
  refine (qdq5 r.w r.h _ r.plan.spots _ (HP.out.spots.below HB3.out (kd _))).mono ?_
  rintro e V3 ⟨rfl,hb4⟩
  have HB4:=hide (quJN HB3.out hb4)
  cases hs:XepW r.w r.h r.plan.spots
  ·have he:E=3:=by rw[HE.out,hs];rfl
   subst he
   go_wp2
   go_ret
   exact ⟨rfl,HB4.out⟩
  ·have he:E=0:=by rw[HE.out,hs];rfl
   subst he
   go_wp2
   go_ret
   exact ⟨rfl,HB4.out⟩
 ·rw[if_neg hF] at HE
  have hn:(planE r.plan != 0)=true:=by simpa using hF
  have he:E=planE r.plan:=HE.out
  subst he
  go_wp2
  go_ret
  exact ⟨rfl,HB1.out⟩
def wsE (r:RawF) (l:List Int) (n:Int):Int:=if r.kind=0 then packE l r.depth else X2rK r.w n l r.kind r.lens
def wsS (r:RawF) (l:List Int) (n:Int):List UInt8:=if r.kind=0 then packS l r.depth else zivd r.w n l r.kind r.lens
theorem jhSJ (r:RawF) (lv tv sv cv:Value) (v:Value) (l:List Int) (n:Int) (w:World) (hl:jCvT w lv r.lens) (hv:jCvT w v l) :
  Calls Tryz.prog 70 #[.agg (rawA r lv tv sv cv),v,.int .i64 n] w fun e w'=>e=.returned (.tuple #[.string (str (wsS r l n)),.int .i64 (wsE r l n)])∧Below w.heap.size w w':=by
 have HL:=hide hl
 have HV:=hide hv
 obtain ⟨ao,ca,rfl,_,_⟩:=hl
 obtain ⟨vo,vc,rfl,_,_⟩:=hv
 have a1:=al1 w (ka (rawA r (.slice ao r.lens.length ca) tv sv cv) 57)
 have HB:=hide (qUNz w (ka (rawA r (.slice ao r.lens.length ca) tv sv cv) 57))
 obtain ⟨s0,s1,s2,s3,s4,s5,s6,s13,s26⟩:=zUTj a1
 by_cases hk:r.kind=0
 ·have hk':(r.kind == 0)=true:=by simpa using hk
  rw[wsS,wsE,if_pos hk,if_pos hk]
  go_enter Tryz.func70,Tryz.ntmps70
  go_wp2_with fail
  clear s0 s1 s2 s3 s4 s5 s6 s13 s26
  refine (zCp8 _ l r.depth _ (HV.out.below HB.out (kd _))).mono ?_
  rintro e w1 ⟨rfl,hb1⟩
  go_wp2
  go_ret2
  exact ⟨rfl,quJN HB.out hb1⟩
 ·have hk':(r.kind == 0)=false:=by simpa using hk
  rw[wsS,wsE,if_neg hk,if_neg hk]
  go_enter Tryz.func70,Tryz.ntmps70
  go_wp2_with fail
  clear s0 s1 s2 s3 s4 s5 s6 s13 s26
  refine (zbmk r.w n _ _ l r.kind r.lens _ (HV.out.below HB.out (kd _)) (HL.out.below HB.out (kd _))).mono ?_
  rintro e w1 ⟨rfl,hb1⟩
  go_wp2
  go_ret2
  exact ⟨rfl,quJN HB.out hb1⟩
def in32 (n:Int):Prop:=-2147483648≤n∧n≤2147483647
instance (n:Int):Decidable (in32 n):=inferInstanceAs (Decidable (_∧_))
def u32 (a b c d:UInt8):Nat:=a.toNat*16777216+b.toNat*65536+c.toNat*256+d.toNat
def sgn32 (u:Nat):Int:=if u<2147483648 then u else u-4294967296
def numP:List UInt8→Option (Int×List UInt8)
 | a::b::c::d::t=>some (sgn32 (u32 a b c d),t)
 | _=>none
def manyP {α:Type} (p:List UInt8→Option (α×List UInt8)):Nat→List UInt8→Option (List α×List UInt8)
 | 0,l=>some ([],l)
 | k+1,l=>match manyP p k l with
  | none=>none
  | some (ys,t)=>match p t with
   | none=>none
   | some (a,t')=>some (ys++[a],t')
def listP {α:Type} (p:List UInt8→Option (α×List UInt8)) (b:List UInt8→Nat) (l:List UInt8):Option (List α×List UInt8) :=
 match numP l with
 | none=>none
 | some (n,t)=>if 0≤n∧n≤(b t:Int) then manyP p n.toNat t else none
def textP (l:List UInt8):Option (List UInt8×List UInt8) :=
 match numP l with
 | none=>none
 | some (n,t)=>if 0≤n∧n≤(t.length:Int) then some (t.take n.toNat,t.drop n.toNat) else none
def pairP (l:List UInt8):Option (Pt×List UInt8) :=
 match numP l with
 | none=>none
 | some (x,t)=>match numP t with
  | none=>none
  | some (y,u)=>some ((x,y),u)
structure RSt (B b:Nat) (w w':World):Prop where
 bel:Below B w w'
 keep:∀k,k<w.heap.size→k≠b→w'.heap[k]?=w.heap[k]?
theorem RSt.refl (B b:Nat) (w:World):RSt B b w w:=⟨Below.refl _ _,fun _ _ _=>rfl⟩
theorem RSt.trans {B b:Nat} {w w' w'':World} (h:RSt B b w w') (k:RSt B b w' w''):RSt B b w w'' :=
 ⟨h.bel.trans k.bel,fun j h1 h2=>(k.keep j (kf h1 h.bel.size) h2).trans (h.keep j h1 h2)⟩
theorem RSt.alloc {B b:Nat} {w:World} (hB:B≤w.heap.size) (o:Obj):RSt B b w (w.alloc o):=⟨(qUNz w o).mono hB,fun k h1 _=>(qUNz w o).block k h1⟩
theorem RSt.drew {B b:Nat} {w:World}:RSt B b w w.drew:=⟨(Below.refl _ _).drew,fun _ _ _=>rfl⟩
def IsRd (b:Nat) (l:List UInt8) (w:World):Prop:=w.heap[b]?=some (.cells #[.string (str l)] 200 (0,0))
theorem qgz9 {b:Nat} {l:List UInt8} {w:World} (h:IsRd b l w) (o:Obj):IsRd b l (w.alloc o):=((qUNz w o).block _ (kb.1 h).1).trans h
structure RSt2 (B b g:Nat) (w w':World):Prop where
 bel:Below B w w'
 keep:∀k,k<w.heap.size→k≠b→k≠g→w'.heap[k]?=w.heap[k]?
theorem RSt.two {B b g:Nat} {w w':World} (h:RSt B b w w'):RSt2 B b g w w':=⟨h.bel,fun k h1 h2 _=>h.keep k h1 h2⟩
theorem RSt2.refl (B b g:Nat) (w:World):RSt2 B b g w w:=⟨Below.refl _ _,fun _ _ _ _=>rfl⟩
theorem RSt2.trans {B b g:Nat} {w w' w'':World} (h:RSt2 B b g w w') (k:RSt2 B b g w' w''):RSt2 B b g w w'' :=
 ⟨h.bel.trans k.bel,fun j h1 h2 h3=>(k.keep j (kf h1 h.bel.size) h2 h3).trans (h.keep j h1 h2 h3)⟩
def Holds (g:Nat) (t:TypeId) (cs:List Value) (w:World):Prop:=w.heap[g]?=some (.cells cs.toArray t (0,0))
theorem Holds.set {B b g:Nat} {t:TypeId} {cs:List Value} {w:World} (h:Holds g t cs w) (hB:B≤g) (i:Nat) (v:Value) (h1:v.oneCell'=true):Holds g t (cs.set i v) (w.setCell ⟨g,i,none⟩ v)∧RSt2 B b g w (w.setCell ⟨g,i,none⟩ v):=by
 refine ⟨?_,(Below.refl B w).setCell (p:=⟨g,i,none⟩) hB _,fun k _ _ hk=>Below.heap_setCell _ _ _ _ (fun e=>hk e)⟩
 unfold Holds at h ⊢
 simp[World.setCell,Array.getElem?_modify,h]
abbrev IsWr (B b:Nat) (l:List UInt8) (w:World):Prop:=Lib.IsBuilder 195 5 B b (byt l) w
def zMqr (w:World) (k:Nat):Prop:=∀cs fr,w.heap[k]?≠some (.cells cs 5 fr)
structure WStep (B b:Nat) (w w':World):Prop where
 bel:Below B w w'
 keep:∀k,k<w.heap.size→k≠b→zMqr w k→w'.heap[k]?=w.heap[k]?
theorem WStep.refl (B b:Nat) (w:World):WStep B b w w:=⟨Below.refl _ _,fun _ _ _ _=>rfl⟩
theorem WStep.trans {B b:Nat} {w w' w'':World} (h:WStep B b w w') (k:WStep B b w' w''):WStep B b w w'' where
 bel:=h.bel.trans k.bel
 keep:=fun j h1 h2 h3=>by
  have e:=h.keep j h1 h2 h3
  exact (k.keep j (kf h1 h.bel.size) h2 (fun cs fr=>by rw[e];exact h3 cs fr)).trans e
theorem WStep.alloc {B b:Nat} {w:World} (hB:B≤w.heap.size) (o:Obj):WStep B b w (w.alloc o) :=
 ⟨(qUNz w o).mono hB,fun k h1 _ _=>(qUNz w o).block k h1⟩
theorem IsWr.alloc {B b:Nat} {l:List UInt8} {w:World} (h:IsWr B b l w) (o:Obj):IsWr B b l (w.alloc o):=by
 rcases h with ⟨h2,v,h3,h4,h5⟩|⟨h2,v,h3,h4,h5⟩
 ·exact .inl ⟨h2,v,((qUNz w o).block _ (kb.1 h3).1).trans h3,qw14 h4 (qUNz w o),h5⟩
 ·exact .inr ⟨h2,v,((qUNz w o).block _ (kb.1 h3).1).trans h3,qw14 h4 (qUNz w o),h5⟩
def Apart (B b:Nat) (u:Value) (w:World):Prop:=∀k,u.ownBlock=some k→k<w.heap.size→k<B∨(k≠b∧zMqr w k)
theorem WStep.block {B b:Nat} {w w':World} (hs:WStep B b w w') {k:Nat} (hk:k<w.heap.size) (ha:k<B∨(k≠b∧zMqr w k)):w'.heap[k]?=w.heap[k]?:=by
 rcases ha with h|⟨h,h'⟩
 ·exact hs.bel.block k h
 ·exact hs.keep k hk h h'
theorem jCvT.step {B b:Nat} {u:Value} {xs:List Int} {w w':World} (h:jCvT w u xs) (hs:WStep B b w w') (ha:Apart B b u w):jCvT w' u xs:=by
 obtain ⟨ao,cap,rfl,hl,h⟩:=h
 refine ⟨ao,cap,rfl,hl,?_⟩
 rcases h with h|⟨c,off,rfl,hlt,hc⟩
 ·exact .inl h
 ·refine .inr ⟨c,off,rfl,kf hlt hs.bel.size,fun j hj=>?_⟩
  rw[World.cell?_of_block (a:=⟨c,off+j,none⟩) (hs.block hlt (ha c rfl hlt))]
  exact hc j hj
theorem Tryz.sizeBuilder:(Tryz.prog.info? 76).map (·.size)=some 2:=by kernel_rfl
theorem IsPts.step {B b:Nat} {u:Value} {ls:List Pt} {w w':World} (h:IsPts w u ls) (hs:WStep B b w w') (ha:Apart B b u w):IsPts w' u ls:=by
 obtain ⟨ao,cap,rfl,hl,h⟩:=h
 refine ⟨ao,cap,rfl,hl,?_⟩
 rcases h with h|⟨c,off,rfl,hlt,hc⟩
 ·exact .inl h
 ·have e:=hs.block hlt (ha c rfl hlt)
  refine .inr ⟨c,off,rfl,kf hlt hs.bel.size,fun j hj=>?_⟩
  rw[World.cell?_of_block (a:=⟨c,off+j*2,none⟩) e,World.cell?_of_block (a:=⟨c,off+j*2+1,none⟩) e]
  exact hc j hj
def parN (r:RawF) (k:Nat):Nat:=k*r.rows.toNat*r.w.toNat
def parL (r:RawF) (zs:List Int) (k:Nat):List Int:=(zs.drop (parN r k)).take (rowN r k*r.w).toNat
def fiOk (r:RawF) (zs:List Int) (k:Nat):Bool:=(List.range k).all fun i=>decide (wsE r (parL r zs i) (rowN r i)=0)
def fiS (r:RawF) (zs:List Int) (k:Nat):List (List UInt8):=(List.range k).map fun i=>wsS r (parL r zs i) (rowN r i)
theorem qTWu (r:RawF) (zs:List Int) (k:Nat):fiOk r zs (k+1)=(fiOk r zs k && decide (wsE r (parL r zs k) (rowN r k)=0)):=by simp[fiOk,List.range_succ]
theorem XZj5 (r:RawF) (zs:List Int) (k:Nat):fiS r zs (k+1)=fiS r zs k++[wsS r (parL r zs k) (rowN r k)]:=by simp[fiS,List.range_succ]
theorem X9zO {r:RawF} {zs:List Int} {k n:Nat} (h:k<n) (hk:wsE r (parL r zs k) (rowN r k)≠0):fiOk r zs n=false:=by
 rw[Bool.eq_false_iff];intro he
 have:=List.all_eq_true.1 he k (List.mem_range.2 h)
 exact hk (by simpa using this)
def fitP (r:RawF) (PW PH:Int) (zs:List Int):Bool:=q0fM PW PH zs && decide (PW=r.w) && decide (PH=r.h) && jgbG r.depth zs
def XQ5R (r:RawF) (PW PH:Int) (zs:List Int):Int:=if headE r=0 then (if pErr r=0 then (if fitP r PW PH zs=true then (if fiOk r zs (cntN r)=true then 0 else 4) else 1) else pErr r) else headE r
def qtvI (r:RawF) (zs:List Int):RawF:={ r with strips:=fiS r zs (cntN r) }
theorem jXie {r:RawF} (h:Head r) (k:Nat):(parN r k:Int)=k*r.rows*r.w:=by
 have h1:=h.rows
 have h2:=h.w
 unfold parN
 rw[Int.natCast_mul,Int.natCast_mul,Int.toNat_of_nonneg (by omega),Int.toNat_of_nonneg (by omega)]
theorem juYi {r:RawF} (h:Head r) {k:Nat} (hk:k<cntN r):(parN r k:Int)+rowN r k*r.w≤r.h*r.w:=by
 have h2:=h.w
 rw[jXie h,←Int.add_mul]
 exact Int.mul_le_mul_of_nonneg_right (by unfold rowN;omega) (by omega)
theorem XH7K {r:RawF} (h:Head r) {k:Nat} (hk:k+1<cntN r):rowN r k=r.rows:=by
 have h1:=(h.cnt_pos (k+1)).1 hk
 have e:((k+1:Nat):Int)*r.rows=k*r.rows+r.rows:=by rw[Int.natCast_add,Int.add_mul];simp
 unfold rowN
 omega
theorem q4pj {r:RawF} (h:Head r) {k:Nat} (hk:k+1<cntN r):(parN r (k+1):Int)=parN r k+rowN r k*r.w:=by
 rw[jXie h,jXie h,XH7K h hk,←Int.add_mul,Int.natCast_add,Int.add_mul]
 simp
theorem XBlq {r:RawF} (h:Head r) {k:Nat} (hk:k<cntN r) {zs:List Int} (hz:(zs.length:Int)=r.w*r.h):((parL r zs k).length:Int)=rowN r k*r.w:=by
 have h1:=juYi h hk
 have h2:=h.size hk
 rw[Int.mul_comm r.w] at hz
 unfold parL
 rw[List.length_take,List.length_drop]
 omega
theorem Xeu9 {r:RawF} {zs:List Int} {k:Nat} {z:Int} (h:z∈parL r zs k):z∈zs:=List.mem_of_mem_drop (List.mem_of_mem_take h)
theorem zLqz {r:RawF} (h:Head r) {k:Nat} (hk:k<cntN r) {PW PH:Int} {zs:List Int} (hf:fitP r PW PH zs=true):wsE r (parL r zs k) (rowN r k)=0∨wsE r (parL r zs k) (rowN r k)=4:=by
 simp only[fitP,kg,decide_eq_true_eq] at hf
 obtain ⟨⟨⟨hp,rfl⟩,rfl⟩,hd⟩:=hf
 simp only[q0fM,kg,decide_eq_true_eq] at hp
 have hl:=XBlq h hk hp.1.2
 obtain ⟨s1,s2⟩:=h.size hk
 obtain ⟨r1,r2⟩:=h.row hk
 have hw:=h.w
 have hdp:=h.depth
 unfold wsE
 by_cases hz:r.kind=0
 ·rw[if_pos hz,packE,if_pos (by rw[XSys,decide_eq_true_eq];exact hdp),if_pos (by omega),if_pos]
  ·exact .inl rfl
  ·refine List.all_eq_true.2 fun z hm=>?_
   have:=List.all_eq_true.1 hd z (Xeu9 hm)
   simp only[decide_eq_true_eq] at this
   simp only[numOk,decide_eq_true_eq]
   omega
 ·rw[if_neg hz,X2rK,if_pos,if_pos (by have:=h.kind;rw[qkcw,decide_eq_true_eq];omega),if_pos (h.code hz)]
  ·split
   ·exact .inl rfl
   ·exact .inr rfl
  ·simp only[q0fM,kg,decide_eq_true_eq,jbTy]
   refine ⟨⟨⟨hw,r1,r2⟩,by rw[hl,Int.mul_comm]⟩,List.all_eq_true.2 fun z hm=>List.all_eq_true.1 hp.2 z (Xeu9 hm)⟩
end Go.Proofs.YtfjeonehdlphiaaGreatDoor
