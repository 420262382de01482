/- Sw: part 28 of what the proofs need. -/
import Derived.Test.YtfjeonehdlphiaaGreatDoorC1Sw
import Derived.Test.YtfjeonehdlphiaaGreatDoorC3Sw
import Derived.Test.YtfjeonehdlphiaaGreatDoorC4Sw
import Derived.Test.YtfjeonehdlphiaaGreatDoorC12Sw
import Derived.Test.YtfjeonehdlphiaaGreatDoorC13Sw
import Derived.Test.YtfjeonehdlphiaaGreatDoorC14Sw
import Derived.Test.YtfjeonehdlphiaaGreatDoorC15Sw
import Derived.Test.YtfjeonehdlphiaaGreatDoorC27Sw
set_option linter.unusedVariables false
set_option maxHeartbeats 1600000
set_option maxRecDepth 100000
namespace Go.Proofs.YtfjeonehdlphiaaGreatDoor
open Go.RowKit
structure RawF where
 w:Int
 h:Int
 depth:Int
 kind:Int
 rows:Int
 lens:List Int
 strips:List (List UInt8)
 plan:Plan
abbrev rawA (r:RawF) (lv tv sv cv:Value):Array Value:=#[.int .i64 r.w,.int .i64 r.h,.int .i64 r.depth,.int .i64 r.kind,.int .i64 r.rows,lv,tv,
 .int .i64 r.plan.phase,.int .i64 (r.plan.black 0),.int .i64 (r.plan.black 1),.int .i64 (r.plan.black 2),.int .i64 (r.plan.black 3),.int .i64 r.plan.white,sv,.int .i64 (r.plan.gains 0),.int .i64 (r.plan.gains 1),.int .i64 (r.plan.gains 2),
 .int .i64 (r.plan.matrix 0),.int .i64 (r.plan.matrix 1),.int .i64 (r.plan.matrix 2),.int .i64 (r.plan.matrix 3),.int .i64 (r.plan.matrix 4),.int .i64 (r.plan.matrix 5),.int .i64 (r.plan.matrix 6),.int .i64 (r.plan.matrix 7),.int .i64 (r.plan.matrix 8),cv,.int .i64 r.plan.amount]
def qx8k (r:RawF):Bool:=jbTy r.w && jbTy r.h && XSys r.depth && decide (1≤r.rows∧r.rows≤r.h)
def kindE (r:RawF):Int:=if r.kind=0 then (if r.lens.length=0 then 0 else 1) else qO3F r.lens
def headE (r:RawF):Int:=if qx8k r=true then (if 0≤r.kind∧r.kind≤7 then kindE r else 6) else 3
def pErr (r:RawF):Int:=if planE r.plan=0 then (if XepW r.w r.h r.plan.spots=true then 0 else 3) else planE r.plan
def cntN (r:RawF):Nat:=((r.h+r.rows-1) / r.rows).toNat
def rowN (r:RawF) (i:Nat):Int:=min r.rows (r.h-i*r.rows)
def jgbG (d:Int) (l:List Int):Bool:=allIn 0 (2 ^ d.toNat-1) l
def stE (r:RawF) (s:List UInt8) (n:Int):Int :=
 if r.kind=0 then unpE s r.depth (n*r.w) else (if qaPw s r.w n r.kind r.lens=0 then (if jgbG r.depth (jNAw s r.w n r.kind r.lens)=true then 0 else 1) else qaPw s r.w n r.kind r.lens)
def stZ (r:RawF) (s:List UInt8) (n:Int):List Int:=if stE r s n=0 then (if r.kind=0 then unpV s r.depth (n*r.w) else jNAw s r.w n r.kind r.lens) else []
def stAt (r:RawF) (i:Nat):List UInt8:=r.strips.getD i []
def plUp (r:RawF) (k:Nat):List Int:=(List.range k).flatMap fun i=>stZ r (stAt r i) (rowN r i)
def stOk (r:RawF) (k:Nat):Bool:=(List.range k).all fun i=>decide (stE r (stAt r i) (rowN r i)=0)
theorem XcbT (r:RawF) (k:Nat):plUp r (k+1)=plUp r k++stZ r (stAt r k) (rowN r k):=by simp[plUp,List.range_succ]
theorem qGwq (r:RawF) (k:Nat):stOk r (k+1)=(stOk r k && decide (stE r (stAt r k) (rowN r k)=0)):=by simp[stOk,List.range_succ]
theorem jvNx {r:RawF} {k n:Nat} (h:k<n) (hk:stE r (stAt r k) (rowN r k)≠0):stOk r n=false:=by
 rw[Bool.eq_false_iff];intro he
 have:=List.all_eq_true.1 he k (List.mem_range.2 h)
 exact hk (by simpa using this)
theorem jWDk {r:RawF} {k n:Nat} (he:stOk r n=true) (h:k<n):stE r (stAt r k) (rowN r k)=0:=by
 have:=List.all_eq_true.1 he k (List.mem_range.2 h)
 simpa using this
def XDWf (r:RawF):Int:=if headE r=0 then (if r.strips.length=cntN r then (if pErr r=0 then (if stOk r r.strips.length=true then 0 else 1) else pErr r) else 2) else headE r
def zcNm (r:RawF):List Int:=if XDWf r=0 then plUp r r.strips.length else []
def XH9X (r:RawF):Int:=if XDWf r=0 then r.w else 0
def zq73 (r:RawF):Int:=if XDWf r=0 then r.h else 0
structure Head (r:RawF):Prop where
 w:1≤r.w∧r.w≤64
 h:1≤r.h∧r.h≤64
 depth:1≤r.depth∧r.depth≤16
 rows:1≤r.rows∧r.rows≤r.h
 kind:0≤r.kind∧r.kind≤7
 lens:kindE r=0
theorem jWRa {r:RawF} (h:headE r=0):Head r:=by
 unfold headE at h
 split at h
 ·rename_i h1
  split at h
  ·rename_i h2
   simp only[qx8k,jbTy,XSys,Bool.and_eq_true,decide_eq_true_eq] at h1
   exact ⟨h1.1.1.1,h1.1.1.2,h1.1.2,h1.2,h2,h⟩
  ·exact absurd h (by decide)
 ·exact absurd h (by decide)
theorem Head.zero {r:RawF} (h:Head r):headE r=0:=by
 rw[headE,if_pos,if_pos h.kind,h.lens]
 simp only[qx8k,jbTy,XSys,Bool.and_eq_true,decide_eq_true_eq]
 exact ⟨⟨⟨h.w,h.h⟩,h.depth⟩,h.rows⟩
theorem Head.code {r:RawF} (h:Head r) (hk:r.kind≠0):qO3F r.lens=0:=by
 have:=h.lens
 rwa [kindE,if_neg hk] at this
theorem Head.cnt_pos {r:RawF} (h:Head r) (i:Nat):i<cntN r↔(i:Int)*r.rows<r.h:=by
 obtain ⟨h1,h2⟩:=h.rows
 obtain ⟨h3,_⟩:=h.h
 unfold cntN
 have hp:0<r.rows:=by omega
 have hq:0≤(r.h+r.rows-1) / r.rows:=Int.ediv_nonneg (by omega) (by omega)
 constructor
 ·intro hi
  have hi':(i:Int)+1≤(r.h+r.rows-1) / r.rows:=by omega
  have:=(Int.le_ediv_iff_mul_le hp).1 hi'
  have e:((i:Int)+1)*r.rows=i*r.rows+r.rows:=by rw[Int.add_mul,Int.one_mul]
  omega
 ·intro hi
  have e:((i:Int)+1)*r.rows=i*r.rows+r.rows:=by rw[Int.add_mul,Int.one_mul]
  have:(i:Int)+1≤(r.h+r.rows-1) / r.rows:=(Int.le_ediv_iff_mul_le hp).2 (by omega)
  omega
theorem Head.cnt_int {r:RawF} (h:Head r):((cntN r:Nat):Int)=(r.h+r.rows-1) / r.rows:=by
 obtain ⟨h1,h2⟩:=h.rows
 have hq:0≤(r.h+r.rows-1) / r.rows:=Int.ediv_nonneg (by omega) (by omega)
 unfold cntN;omega
theorem Head.cnt_le {r:RawF} (h:Head r):cntN r≤64:=by
 obtain ⟨h1,h2⟩:=h.rows
 obtain ⟨_,h4⟩:=h.h
 by_cases hh:64<cntN r
 ·have:=(h.cnt_pos 64).1 hh
  have:(64:Int)*1≤64*r.rows:=Int.mul_le_mul_of_nonneg_left h1 (by decide)
  omega
 ·omega
theorem Head.row {r:RawF} (h:Head r) {i:Nat} (hi:i<cntN r):1≤rowN r i∧rowN r i≤64:=by
 have:=(h.cnt_pos i).1 hi
 obtain ⟨h1,h2⟩:=h.rows
 obtain ⟨_,h4⟩:=h.h
 unfold rowN;omega
theorem XBWT {a b:Int} {A B:Int} (h1:0≤a∧a≤A) (h2:0≤b∧b≤B):0≤a*b∧a*b≤A*B :=
 ⟨Int.mul_nonneg h1.1 h2.1,Int.mul_le_mul h1.2 h2.2 h2.1 (by omega)⟩
theorem Head.size {r:RawF} (h:Head r) {i:Nat} (hi:i<cntN r):1≤rowN r i*r.w∧rowN r i*r.w≤4096:=by
 obtain ⟨h1,h2⟩:=h.row hi
 obtain ⟨h3,h4⟩:=h.w
 have:=XBWT ⟨by omega,h2⟩ ⟨by omega,h4⟩
 have:1*1≤rowN r i*r.w:=Int.mul_le_mul h1 h3 (by decide) (by omega)
 omega
theorem Head.stE {r:RawF} (h:Head r) {i:Nat} (hi:i<cntN r) (s:List UInt8):stE r s (rowN r i)=0∨stE r s (rowN r i)=1:=by
 obtain ⟨h1,h2⟩:=h.row hi
 obtain ⟨h3,h4⟩:=h.size hi
 have hw:=h.w
 have hd:=h.depth
 unfold Go.Proofs.YtfjeonehdlphiaaGreatDoor.stE
 by_cases hk:r.kind=0
 ·rw[if_pos hk,unpE,if_pos ⟨by rw[XSys,decide_eq_true_eq];exact hd,by omega⟩,if_pos h4]
  split
  ·exact .inl rfl
  ·exact .inr rfl
 ·rw[if_neg hk]
  have hE:=h.code hk
  have hk':=h.kind
  have e:qaPw s r.w (rowN r i) r.kind r.lens=0∨qaPw s r.w (rowN r i) r.kind r.lens=1:=by
   rw[qaPw,if_pos ⟨by rw[jbTy,decide_eq_true_eq];exact hw,by rw[jbTy,decide_eq_true_eq];exact ⟨h1,h2⟩⟩,if_pos (by rw[qkcw,decide_eq_true_eq];omega),if_pos hE]
   split
   ·exact .inl rfl
   ·exact .inr rfl
  rcases e with e|e
  ·rw[if_pos e]
   split
   ·exact .inl rfl
   ·exact .inr rfl
  ·rw[if_neg (by rw[e];decide)]
   exact .inr e
def zGcC (w:World) (v:Value) (ts:List (List UInt8)):Prop :=
 ∃ao cap,v=.slice ao ts.length cap∧ts.length≤9223372036854775807∧(ts=[]∨∃b off,ao=some ⟨b,off,none⟩∧b<w.heap.size∧∀j,j<ts.length→w.cell? ⟨b,off+j,none⟩=some (.string (str (ts.getD j []))))
theorem zGcC.below {w w':World} {v:Value} {ts:List (List UInt8)} {B:Nat} (h:zGcC w v ts) (hb:Below B w w') (hB:w.heap.size≤B):zGcC w' v ts:=by
 obtain ⟨ao,cap,hv,hl,h⟩:=h
 refine ⟨ao,cap,hv,hl,?_⟩
 rcases h with h|⟨b,off,ha,hlt,hc⟩
 ·exact .inl h
 ·exact .inr ⟨b,off,ha,Nat.lt_of_lt_of_le hlt hb.size,fun j hj=>by rw[hb.cell (p:=⟨b,off+j,none⟩) (by exact Nat.lt_of_lt_of_le hlt hB)];exact hc j hj⟩
theorem zGcC.nil (w:World):zGcC w (.slice none 0 0) []:=⟨none,0,rfl,by simp,.inl rfl⟩
theorem zGcC.at {w:World} {ao:Option Addr} {ca n:Nat} {ts:List (List UInt8)} (h:zGcC w (.slice ao n ca) ts) (j:Nat) (hj:j<ts.length):∃b off,ao=some ⟨b,off,none⟩∧b<w.heap.size∧w.cell? ⟨b,off+j,none⟩=some (.string (str (ts.getD j []))):=by
 obtain ⟨ao',cap,hv,hl,h⟩:=h
 cases hv
 rcases h with h|⟨b,off,ha,hlt,hc⟩
 ·rw[h] at hj;simp at hj
 ·exact ⟨b,off,ha,hlt,hc j hj⟩
theorem zUTj {w:World} {b:Nat} {t:TypeId} {fr:Nat×Nat} {r:RawF} {lv tv sv cv:Value} (h:w.heap[b]?=some (.cells (rawA r lv tv sv cv) t fr)) :
  w.cell? ⟨b,0,none⟩=some (.int .i64 r.w)∧w.cell? ⟨b,1,none⟩=some (.int .i64 r.h)∧w.cell? ⟨b,2,none⟩=some (.int .i64 r.depth)∧w.cell? ⟨b,3,none⟩=some (.int .i64 r.kind)∧w.cell? ⟨b,4,none⟩=some (.int .i64 r.rows) ∧
  w.cell? ⟨b,5,none⟩=some lv∧w.cell? ⟨b,6,none⟩=some tv∧w.cell? ⟨b,13,none⟩=some sv∧w.cell? ⟨b,26,none⟩=some cv:=by
 refine ⟨?_,?_,?_,?_,?_,?_,?_,?_,?_⟩<;>(rw[Lib.cell_of_heap h];rfl)
structure IsRaw (w:World) (r:RawF) (lv tv sv cv:Value):Prop where
 lens:jCvT w lv r.lens
 strips:zGcC w tv r.strips
 plan:X1uD w r.plan sv cv
theorem IsRaw.below {w w':World} {r:RawF} {lv tv sv cv:Value} {B:Nat} (h:IsRaw w r lv tv sv cv) (hb:Below B w w') (hB:w.heap.size≤B):IsRaw w' r lv tv sv cv :=
 ⟨h.lens.below hb hB,h.strips.below hb hB,h.plan.below hb hB⟩
theorem X0bE (r:RawF) (lv tv sv cv:Value) (w:World) (h:Head r) :
  Calls Tryz.prog 68 #[.agg (rawA r lv tv sv cv)] w fun e w'=>e=.returned (.int .i64 (cntN r))∧Below w.heap.size w w':=by
 have hb:=h.rows
 have hc:=h.h
 obtain ⟨X,hX⟩:∃X:Int,r.h+r.rows-1=X:=⟨_,rfl⟩
 have hp:=h.cnt_int
 rw[hX] at hp
 have hx:0≤X:=by omega
 have hn:¬r.rows=0:=by omega
 have a1:=al1 w (Obj.cells (rawA r lv tv sv cv) 57)
 have HB:=hide (qUNz w (Obj.cells (rawA r lv tv sv cv) 57))
 have t1:IntKind.i64.wrap (r.h+r.rows)=r.h+r.rows:=IntWalk.i64_in _ (by omega)
 have t2:IntKind.i64.wrap (r.h+r.rows-1)=X:=by rw[←hX];exact IntWalk.i64_in _ (by omega)
 have hq:X.tdiv r.rows=(cntN r:Int):=by rw[hp];exact Int.tdiv_eq_ediv_of_nonneg hx
 have hle:=h.cnt_le
 have t3:IntKind.i64.wrap (X.tdiv r.rows)=(cntN r:Int):=by rw[hq];exact IntWalk.i64_in _ (by omega)
 have HC:=hide hp.symm
 clear hp
 generalize cntN r=C at *
 obtain ⟨s0,s1,s2,s3,s4,s5,s6,s13,s26⟩:=zUTj a1
 go_enter Tryz.func68,Tryz.ntmps68
 go_wp2
 go_ret
 exact ⟨jx9N (by first|rfl|exact HC.out),HB.out⟩
theorem jN9a (r:RawF) (lv tv sv cv:Value) (i:Nat) (w:World) (h:Head r) (hi:i<cntN r) :
  Calls Tryz.prog 69 #[.agg (rawA r lv tv sv cv),.int .i64 i] w fun e w'=>e=.returned (.int .i64 (rowN r i))∧Below w.heap.size w w':=by
 have hb:=h.rows
 have hc:=h.h
 have hlt:=(h.cnt_pos i).1 hi
 have hle:=h.cnt_le
 have a1:=al1 w (Obj.cells (rawA r lv tv sv cv) 57)
 have HB:=hide (qUNz w (Obj.cells (rawA r lv tv sv cv) 57))
 have h0:0≤(i:Int)*r.rows:=Int.mul_nonneg (by omega) (by omega)
 have t1:wrap64 ((i:Int)*r.rows)=i*r.rows:=IntWalk.wrap64_in _ (by omega)
 have t2:wrap64 (r.h-(i:Int)*r.rows)=r.h-i*r.rows:=IntWalk.wrap64_in _ (by omega)
 have HR:=hide (show min r.rows (wrap64 (r.h-wrap64 ((i:Int)*r.rows)))=rowN r i by rw[t1,t2];rfl)
 have HR2:=hide (show min r.rows (r.h-(i:Int)*r.rows)=rowN r i from rfl)
 clear t1 t2
 generalize rowN r i=R at *
 obtain ⟨s0,s1,s2,s3,s4,s5,s6,s13,s26⟩:=zUTj a1
 go_enter Tryz.func69,Tryz.ntmps69
 go_wp2
 go_ret
 exact ⟨jx9N (by first|exact HR.out|exact HR2.out),HB.out⟩
theorem qc2G {d:Int} (h:1≤d∧d≤16):(1:Int)*2 ^ d.toNat-1=2 ^ d.toNat-1∧2 ^ d.toNat≤(65536:Int)∧(2:Int)≤2 ^ d.toNat:=by
 obtain ⟨D,rfl⟩:∃D:Nat,d=D:=⟨d.toNat,by omega⟩
 have h1:1≤D∧D≤16:=by omega
 rw[Int.toNat_natCast]
 have:∀D:Nat,1≤D∧D≤16→(2:Int) ^ D≤65536∧(2:Int)≤2 ^ D:=by
  intro D hD
  rcases (show D=1∨D=2∨D=3∨D=4∨D=5∨D=6∨D=7∨D=8∨D=9∨D=10∨D=11∨D=12∨D=13∨D=14∨D=15∨D=16 by omega) with rfl|rfl|rfl|rfl|rfl|rfl|rfl|rfl|rfl|rfl|rfl|rfl|rfl|rfl|rfl|rfl<;>decide
 exact ⟨by omega,this D h1⟩
theorem qr0y (v:Value) (xs:List Int) (d:Int) (w:World) (hd:1≤d∧d≤16) (hv:jCvT w v xs) :
  Calls Tryz.prog 66 #[v,.int .i64 d] w fun e w'=>e=.returned (.bool (jgbG d xs))∧w=w':=by
 have HV:=hide hv
 obtain ⟨ao,ca,rfl,_,_⟩:=hv
 obtain ⟨q1,q2,q3⟩:=qc2G hd
 have HD:=hide (show jgbG d xs=allIn 0 (2 ^ d.toNat-1) xs from rfl)
 generalize jgbG d xs=R at *
 obtain ⟨D,rfl⟩:∃D:Nat,d=D:=⟨d.toNat,by omega⟩
 rw[Int.toNat_natCast] at HD q1 q2 q3
 obtain ⟨X,hX⟩:∃X:Int,(2:Int) ^ D=X:=⟨_,rfl⟩
 rw[hX] at HD q1 q2 q3
 have hx2:(1:Int)*2 ^ D=X:=by rw[hX,Int.one_mul]
 have t1:IntKind.i64.wrap X=X:=IntWalk.i64_in _ (by omega)
 have hsh:((1:Int) <<< D)=X:=by rw[Int.shiftLeft_eq,hX,Int.one_mul]
 go_enter Tryz.func66,Tryz.ntmps66
 go_wp2_with fail
 refine (qFis 0 (X-1) _ xs _ HV.out).mono ?_
 rintro e w1 ⟨rfl,rfl⟩
 go_wp2
 go_ret
 exact ⟨j3Zs HD.out.symm,rfl⟩
theorem zYDK (w:World) (a b:Int):jCvT (w.alloc (.cells #[.int .i64 a,.int .i64 b] 3)) (.slice (some ⟨w.heap.size,0,none⟩) 2 2) [a,b] :=
 jCvT.own (base:=w.heap.size) (World.ownsRow_lit w #[.int .i64 a,.int .i64 b] 2 (Nat.le_refl _) (by decide) (by simp)) (by simp)
theorem qmJX (r:RawF):qx8k r=(allIn 1 64 [r.w,r.h] && allIn 1 16 [r.depth] && allIn 1 r.h [r.rows]):=by
 simp[qx8k,jbTy,XSys,allIn]
theorem zjUe (r:RawF) (lv tv sv cv:Value) (w:World) (hl:jCvT w lv r.lens) :
  Calls Tryz.prog 63 #[.agg (rawA r lv tv sv cv)] w fun e w'=>e=.returned (.int .i64 (headE r))∧Below w.heap.size w w':=by
 have HL:=hide hl
 obtain ⟨ao,ca,rfl,_,_⟩:=hl
 have a1:=al1 w (Obj.cells (rawA r (.slice ao r.lens.length ca) tv sv cv) 57)
 have HB:=hide (qUNz w (Obj.cells (rawA r (.slice ao r.lens.length ca) tv sv cv) 57))
 have hlt:=(Array.getElem?_eq_some_iff.1 a1).1
 have HE:=hide (show headE r=if qx8k r=true then (if 0≤r.kind∧r.kind≤7 then kindE r else 6) else 3 from rfl)
 have HG:=hide (qmJX r)
 have HK:=hide (show kindE r=if r.kind=0 then (if r.lens.length=0 then 0 else 1) else qO3F r.lens from rfl)
 generalize headE r=E at *
 obtain ⟨s0,s1,s2,s3,s4,s5,s6,s13,s26⟩:=zUTj a1
 go_enter Tryz.func63,Tryz.ntmps63
 go_wp2_with fail
 clear s0 s1 s2 s3 s4 s5 s6 s13 s26
 have H1:=hide (zYDK (w.alloc (Obj.cells (rawA r (.slice ao r.lens.length ca) tv sv cv) 57)) r.w r.h)
 have B1:=hide (qUNz (w.alloc (Obj.cells (rawA r (.slice ao r.lens.length ca) tv sv cv) 57)) (Obj.cells #[.int .i64 r.w,.int .i64 r.h] 3))
 rw[World.size_alloc] at H1
 generalize w.alloc (Obj.cells (rawA r (.slice ao r.lens.length ca) tv sv cv) 57)=U at *
 have HF:=hide (fun (u:World) (hu:Below U.heap.size U u)=>zUTj ((hu.block _ hlt).trans a1))
 have HA:=hide a1
 clear a1
 generalize U.alloc (Obj.cells #[.int .i64 r.w,.int .i64 r.h] 3)=U1 at *
 refine (qFis 1 64 _ [r.w,r.h] _ H1.out).mono ?_
 rintro e w1 ⟨rfl,rfl⟩
 cases q1:allIn 1 64 [r.w,r.h]
 ·have he:E=3:=by rw[HE.out,HG.out,q1];rfl
  subst he
  go_wp2
  go_ret
  exact ⟨rfl,quJN HB.out B1.out⟩
 ·obtain ⟨s0,s1,s2,s3,s4,s5,s6,s13,s26⟩:=HF.out U1 B1.out
  go_wp2_with fail
  clear s0 s1 s2 s3 s4 s5 s6 s13 s26
  have B2:=hide (quJN B1.out (qUNz U1 (Obj.cells #[.int .i64 r.depth] 3)))
  refine (qFis 1 16 _ [r.depth] _ (ints1 U1 r.depth)).mono ?_
  rintro e w1 ⟨rfl,rfl⟩
  generalize U1.alloc (Obj.cells #[.int .i64 r.depth] 3)=U2 at *
  cases q2:allIn 1 16 [r.depth]
  ·have he:E=3:=by rw[HE.out,HG.out,q1,q2];rfl
   subst he
   go_wp2
   go_ret
   exact ⟨rfl,quJN HB.out B2.out⟩
  ·obtain ⟨s0,s1,s2,s3,s4,s5,s6,s13,s26⟩:=HF.out U2 B2.out
   go_wp2_with fail
   clear s0 s1 s2 s3 s4 s5 s6 s13 s26
   have B3:=hide (quJN B2.out (qUNz U2 (Obj.cells #[.int .i64 r.rows] 3)))
   refine (qFis 1 r.h _ [r.rows] _ (ints1 U2 r.rows)).mono ?_
   rintro e w1 ⟨rfl,rfl⟩
   generalize U2.alloc (Obj.cells #[.int .i64 r.rows] 3)=U3 at *
   cases q3:allIn 1 r.h [r.rows]
   ·have he:E=3:=by rw[HE.out,HG.out,q1,q2,q3];rfl
    subst he
    go_wp2
    go_ret
    exact ⟨rfl,quJN HB.out B3.out⟩
   ·have HE':=hide (show E=if 0≤r.kind∧r.kind≤7 then kindE r else 6 by rw[HE.out,HG.out,q1,q2,q3];rfl)
    clear HE HG q1 q2 q3
    obtain ⟨s0,s1,s2,s3,s4,s5,s6,s13,s26⟩:=HF.out U3 B3.out
    go_wp2_with fail
    clear s0 s1 s2 s3 s4 s5 s6 s13 s26
    have B4:=hide (quJN B3.out (qUNz U3 (Obj.cells #[.int .i64 r.kind] 3)))
    refine (qFis 0 7 _ [r.kind] _ (ints1 U3 r.kind)).mono ?_
    rintro e w1 ⟨rfl,rfl⟩
    generalize U3.alloc (Obj.cells #[.int .i64 r.kind] 3)=U4 at *
    cases q4:allIn 0 7 [r.kind]
    ·have he:E=6:=by
      rw[HE'.out,if_neg]
      intro hk
      simp[allIn,hk] at q4
     subst he
     go_wp2
     go_ret
     exact ⟨rfl,quJN HB.out B4.out⟩
    ·have hk4:0≤r.kind∧r.kind≤7:=by simpa [allIn] using q4
     have HE2:=hide (show E=if r.kind=0 then (if r.lens.length=0 then 0 else 1) else qO3F r.lens by rw[HE'.out,if_pos hk4];exact HK.out)
     clear HE' q4 hk4
     have HL4:=hide (HL.out.below (quJN HB.out B4.out) (Nat.le_refl _))
     obtain ⟨s0,s1,s2,s3,s4,s5,s6,s13,s26⟩:=HF.out U4 B4.out
     by_cases hk:r.kind=0
     ·have hk':(r.kind != 0)=false:=by simpa using hk
      rw[if_pos hk] at HE2
      by_cases hn:r.lens.length=0
      ·have he:E=0:=by rw[HE2.out,if_pos hn]
       have hn':decide (0<(r.lens.length:Int))=false:=decide_eq_false (by omega)
       subst he
       go_wp2
       go_ret
       exact ⟨rfl,quJN HB.out B4.out⟩
      ·have he:E=1:=by rw[HE2.out,if_neg hn]
       have hn':decide (0<(r.lens.length:Int))=true:=decide_eq_true (by omega)
       subst he
       go_wp2
       go_ret
       exact ⟨rfl,quJN HB.out B4.out⟩
     ·have hk':(r.kind != 0)=true:=by simpa using hk
      rw[if_neg hk] at HE2
      go_wp2_with fail
      refine (jIcm _ r.lens _ HL4.out).mono ?_
      rintro e w1 ⟨rfl,rfl⟩
      go_wp2
      go_ret
      exact ⟨jx9N HE2.out.symm,quJN HB.out B4.out⟩
theorem Xzfy {w:World} {b:Nat} {t:TypeId} {fr:Nat×Nat} {r:RawF} {lv tv sv cv:Value} (h:w.heap[b]?=some (.cells (rawA r lv tv sv cv) t fr)) :
  ∀j v,(planA r.plan sv cv).toList[j]?=some v→w.cell? ⟨b,7+j,none⟩=some v:=by
 intro j v hj
 rw[Lib.cell_of_heap h,←hj,←Array.getElem?_toList,show (rawA r lv tv sv cv).toList=[.int .i64 r.w,.int .i64 r.h,.int .i64 r.depth,.int .i64 r.kind,.int .i64 r.rows,lv,tv]++(planA r.plan sv cv).toList from rfl,List.getElem?_append_right (by simp)]
 simp
theorem z6ad (r:RawF) (lv tv sv cv:Value) (w:World) (hp:X1uD w r.plan sv cv) :
  Calls Tryz.prog 64 #[.agg (rawA r lv tv sv cv)] w fun e w'=>e=.returned (.int .i64 (pErr r))∧Below w.heap.size w w':=by
 have HP:=hide hp
 obtain ⟨⟨lo,lc,rfl,hll,_⟩,⟨ko,kc,rfl,hkl,_⟩⟩:=hp
 have a1:=al1 w (Obj.cells (rawA r lv tv (.slice lo r.plan.spots.length lc) (.slice ko r.plan.curve.length kc)) 57)
 have HB:=hide (qUNz w (Obj.cells (rawA r lv tv (.slice lo r.plan.spots.length lc) (.slice ko r.plan.curve.length kc)) 57))
 have hlt:=(Array.getElem?_eq_some_iff.1 a1).1
 have HE:=hide (show pErr r=if planE r.plan=0 then (if XepW r.w r.h r.plan.spots=true then 0 else 3) else planE r.plan from rfl)
 generalize pErr r=E at *
 have HT:=hide (Xzfy a1)
 have HCK:=hide (fun (u:World) (hu:Below w.heap.size w u)=>jkni r.plan _ _ u (HP.out.below hu (Nat.le_refl _)))
 go_enter Tryz.func64,Tryz.ntmps64
 go_wp2_with (refine XiYX rfl 51 _ rfl _ 7 rfl (planA r.plan (.slice lo r.plan.spots.length lc) (.slice ko r.plan.curve.length kc)) _ HT.out Tryz.underlying51 rfl (by kernel_rfl) ?_)
 generalize w.alloc (Obj.cells (rawA r lv tv (.slice lo r.plan.spots.length lc) (.slice ko r.plan.curve.length kc)) 57)=U at *
 refine (HCK.out _ HB.out).mono ?_
 rintro e V1 ⟨rfl,hb1⟩
 have HB1:=hide (quJN HB.out hb1)
 by_cases hF:planE r.plan=0
 ·rw[if_pos hF] at HE
  rw[hF]
  obtain ⟨s0,s1,s2,s3,s4,s5,s6,s13,s26⟩:=zUTj ((hb1.block _ hlt).trans a1)
  have g1:=al1 V1 (Obj.cells #[.int .i64 r.w,.int .i64 r.h] 95)
  have hb3:=quJN hb1 (qUNz V1 (Obj.cells #[.int .i64 r.w,.int .i64 r.h] 95))
  obtain ⟨q0,q1⟩:=bx2 g1
  obtain ⟨_,_,_,_,_,_,_,u13,_⟩:=zUTj ((hb3.block _ hlt).trans a1)
  go_wp2_with fail
  clear s0 s1 s2 s3 s4 s5 s6 s13 s26 u13 q0 q1
  generalize V1.alloc (Obj.cells #[.int .i64 r.w,.int .i64 r.h] 95)=G at *
  have HB3:=hide (quJN HB.out hb3)
  refine (qdq5 r.w r.h _ r.plan.spots _ (HP.out.spots.below HB3.out (Nat.le_refl _))).mono ?_
  rintro e V3 ⟨rfl,hb4⟩
  have HB4:=hide (quJN HB3.out hb4)
  cases hs:XepW r.w r.h r.plan.spots
  ·have he:E=3:=by rw[HE.out,hs];rfl
   subst he
   go_wp2
   go_ret
   exact ⟨rfl,HB4.out⟩
  ·have he:E=0:=by rw[HE.out,hs];rfl
   subst he
   go_wp2
   go_ret
   exact ⟨rfl,HB4.out⟩
 ·rw[if_neg hF] at HE
  have hn:(planE r.plan != 0)=true:=by simpa using hF
  have he:E=planE r.plan:=HE.out
  subst he
  go_wp2
  go_ret
  exact ⟨rfl,HB1.out⟩
theorem XX6a {r:RawF} (hk:r.kind=0) (s:List UInt8) (n:Int):stE r s n=unpE s r.depth (n*r.w)∧stZ r s n=unpV s r.depth (n*r.w):=by
 have h1:stE r s n=unpE s r.depth (n*r.w):=by rw[stE,if_pos hk]
 refine ⟨h1,?_⟩
 rw[stZ,h1,if_pos hk]
 split
 ·rfl
 ·rename_i hn
  rw[unpV,if_neg]
  intro hf
  have hf':=hf
  simp only[Xpy1,decide_eq_true_eq] at hf'
  exact hn (by rw[unpE,if_pos ⟨hf'.1,hf'.2.1⟩,if_pos hf'.2.2.1,if_pos hf])
theorem XWh7 (r:RawF) (lv tv sv cv:Value) (s:List UInt8) (n:Int) (w:World) (h:Head r) (hn:1≤n∧n≤64) (hl:jCvT w lv r.lens) :
  Calls Tryz.prog 108 #[.agg (rawA r lv tv sv cv),.string (str s),.int .i64 n] w fun e w'=>∃v,e=.returned (.tuple #[v,.int .i64 (stE r s n)])∧jCvT w' v (stZ r s n)∧Below w.heap.size w w':=by
 have HL:=hide hl
 obtain ⟨ao,ca,rfl,_,_⟩:=hl
 have a1:=al1 w (Obj.cells (rawA r (.slice ao r.lens.length ca) tv sv cv) 57)
 have HB:=hide (qUNz w (Obj.cells (rawA r (.slice ao r.lens.length ca) tv sv cv) 57))
 have hlt:=(Array.getElem?_eq_some_iff.1 a1).1
 have hd:=h.depth
 have hw:=h.w
 have hm:=XBWT ⟨by omega,hn.2⟩ ⟨by omega,hw.2⟩
 obtain ⟨s0,s1,s2,s3,s4,s5,s6,s13,s26⟩:=zUTj a1
 by_cases hk:r.kind=0
 ·obtain ⟨e1,e2⟩:=XX6a hk s n
  have hk':(r.kind == 0)=true:=by simpa using hk
  obtain ⟨M,hM⟩:∃M,n*r.w=M:=⟨_,rfl⟩
  rw[hM] at hm e1 e2
  rw[e1,e2]
  have t1:IntKind.i64.wrap M=M:=IntWalk.i64_in _ (by omega)
  clear hd hw e1 e2 h
  go_enter Tryz.func108,Tryz.ntmps108
  go_wp2_with fail
  refine (qNqX (str s) r.depth M _).mono ?_
  rintro e w1 ⟨v,rfl,hv,hb1⟩
  rw[jrcE] at hv ⊢
  go_wp2
  go_ret2
  exact ⟨_,rfl,hv,quJN HB.out hb1⟩
 ·have hk':(r.kind == 0)=false:=by simpa using hk
  have HE:=hide (show stE r s n=if qaPw s r.w n r.kind r.lens=0 then (if jgbG r.depth (jNAw s r.w n r.kind r.lens)=true then 0 else 1) else qaPw s r.w n r.kind r.lens by rw[stE,if_neg hk])
  have HZ:=hide (show stZ r s n=if stE r s n=0 then jNAw s r.w n r.kind r.lens else [] by rw[stZ,if_neg hk])
  generalize stE r s n=E at *
  generalize stZ r s n=Z at *
  have HR:=hide (fun (u:World) (hu:Below w.heap.size w u)=>qvVl (str s) r.w n r.kind _ r.lens u (HL.out.below hu (Nat.le_refl _)))
  rw[jrcE] at HR
  generalize qaPw s r.w n r.kind r.lens=F at *
  generalize jNAw s r.w n r.kind r.lens=Y at *
  generalize qYDS s r.w n r.kind r.lens=W' at *
  generalize jHG5 s r.w n r.kind r.lens=H' at *
  clear h hm
  go_enter Tryz.func108,Tryz.ntmps108
  go_wp2_with fail
  clear s0 s1 s2 s3 s4 s5 s6 s13 s26
  generalize w.alloc (Obj.cells (rawA r (.slice ao r.lens.length ca) tv sv cv) 57)=U at *
  refine (HR.out _ HB.out).mono ?_
  rintro e V1 ⟨v,rfl,hv,hb1⟩
  have HV:=hide hv
  obtain ⟨vo,vc,rfl,_,_⟩:=hv
  have g1:=al1 V1 (Obj.cells #[.int .i64 W',.int .i64 H',.slice vo Y.length vc] 54)
  have hb3:=quJN hb1 (qUNz V1 (Obj.cells #[.int .i64 W',.int .i64 H',.slice vo Y.length vc] 54))
  have HV1:=hide (HV.out.alloc (Obj.cells #[.int .i64 W',.int .i64 H',.slice vo Y.length vc] 54))
  have HB3:=hide (quJN HB.out hb3)
  obtain ⟨p0,p1,p2⟩:=z5EY g1
  obtain ⟨s0,s1,s2,s3,s4,s5,s6,s13,s26⟩:=zUTj ((hb3.block _ hlt).trans a1)
  by_cases hF:F=0
  ·subst hF
   rw[if_pos rfl] at HE
   go_wp2_with fail
   refine (qr0y _ Y r.depth _ hd HV1.out).mono ?_
   rintro e V2 ⟨rfl,rfl⟩
   cases hq:jgbG r.depth Y
   ·have he:E=1:=by rw[HE.out,hq];rfl
    have hz:Z=[]:=by rw[HZ.out,he];rfl
    subst he hz
    go_wp2
    go_ret2
    exact ⟨_,rfl,jCvT.nil _,HB3.out⟩
   ·have he:E=0:=by rw[HE.out,hq];rfl
    have hz:Z=Y:=by rw[HZ.out,he];rfl
    subst he hz
    go_wp2
    go_ret2
    exact ⟨_,rfl,HV1.out,HB3.out⟩
  ·have hn':(F != 0)=true:=by simpa using hF
   rw[if_neg hF] at HE
   have he:E=F:=HE.out
   have hz:Z=[]:=by rw[HZ.out,he,if_neg hF]
   subst he hz
   go_wp2
   go_ret2
   exact ⟨_,rfl,jCvT.nil _,HB3.out⟩
def wsE (r:RawF) (l:List Int) (n:Int):Int:=if r.kind=0 then packE l r.depth else X2rK r.w n l r.kind r.lens
def wsS (r:RawF) (l:List Int) (n:Int):List UInt8:=if r.kind=0 then packS l r.depth else zivd r.w n l r.kind r.lens
theorem jhSJ (r:RawF) (lv tv sv cv:Value) (v:Value) (l:List Int) (n:Int) (w:World) (hl:jCvT w lv r.lens) (hv:jCvT w v l) :
  Calls Tryz.prog 70 #[.agg (rawA r lv tv sv cv),v,.int .i64 n] w fun e w'=>e=.returned (.tuple #[.string (str (wsS r l n)),.int .i64 (wsE r l n)])∧Below w.heap.size w w':=by
 have HL:=hide hl
 have HV:=hide hv
 obtain ⟨ao,ca,rfl,_,_⟩:=hl
 obtain ⟨vo,vc,rfl,_,_⟩:=hv
 have a1:=al1 w (Obj.cells (rawA r (.slice ao r.lens.length ca) tv sv cv) 57)
 have HB:=hide (qUNz w (Obj.cells (rawA r (.slice ao r.lens.length ca) tv sv cv) 57))
 obtain ⟨s0,s1,s2,s3,s4,s5,s6,s13,s26⟩:=zUTj a1
 by_cases hk:r.kind=0
 ·have hk':(r.kind == 0)=true:=by simpa using hk
  rw[wsS,wsE,if_pos hk,if_pos hk]
  go_enter Tryz.func70,Tryz.ntmps70
  go_wp2_with fail
  clear s0 s1 s2 s3 s4 s5 s6 s13 s26
  refine (zCp8 _ l r.depth _ (HV.out.below HB.out (Nat.le_refl _))).mono ?_
  rintro e w1 ⟨rfl,hb1⟩
  go_wp2
  go_ret2
  exact ⟨rfl,quJN HB.out hb1⟩
 ·have hk':(r.kind == 0)=false:=by simpa using hk
  rw[wsS,wsE,if_neg hk,if_neg hk]
  go_enter Tryz.func70,Tryz.ntmps70
  go_wp2_with fail
  clear s0 s1 s2 s3 s4 s5 s6 s13 s26
  refine (zbmk r.w n _ _ l r.kind r.lens _ (HV.out.below HB.out (Nat.le_refl _)) (HL.out.below HB.out (Nat.le_refl _))).mono ?_
  rintro e w1 ⟨rfl,hb1⟩
  go_wp2
  go_ret2
  exact ⟨rfl,quJN HB.out hb1⟩
def in32 (n:Int):Prop:=-2147483648≤n∧n≤2147483647
instance (n:Int):Decidable (in32 n):=inferInstanceAs (Decidable (_∧_))
def num4 (n:Int):List UInt8 :=
 [UInt8.ofNat ((n % 4294967296).toNat / 16777216 % 256),UInt8.ofNat ((n % 4294967296).toNat / 65536 % 256),UInt8.ofNat ((n % 4294967296).toNat / 256 % 256),UInt8.ofNat ((n % 4294967296).toNat % 256)]
def u32 (a b c d:UInt8):Nat:=a.toNat*16777216+b.toNat*65536+c.toNat*256+d.toNat
def sgn32 (u:Nat):Int:=if u<2147483648 then u else u-4294967296
def numP:List UInt8→Option (Int×List UInt8)
 | a::b::c::d::t=>some (sgn32 (u32 a b c d),t)
 | _=>none
theorem jp6u (n:Int):(num4 n).length=4:=rfl
theorem jsg6 (a b c d:UInt8):num4 (sgn32 (u32 a b c d))=[a,b,c,d]:=by
 have ha:=a.toNat_lt
 have hb:=b.toNat_lt
 have hc:=c.toNat_lt
 have hd:=d.toNat_lt
 have e:(sgn32 (u32 a b c d) % 4294967296).toNat=u32 a b c d:=by
  unfold sgn32 u32
  split<;>omega
 unfold num4
 rw[e]
 unfold u32
 have e1:(a.toNat*16777216+b.toNat*65536+c.toNat*256+d.toNat) / 16777216 % 256=a.toNat:=by omega
 have e2:(a.toNat*16777216+b.toNat*65536+c.toNat*256+d.toNat) / 65536 % 256=b.toNat:=by omega
 have e3:(a.toNat*16777216+b.toNat*65536+c.toNat*256+d.toNat) / 256 % 256=c.toNat:=by omega
 have e4:(a.toNat*16777216+b.toNat*65536+c.toNat*256+d.toNat) % 256=d.toNat:=by omega
 rw[e1,e2,e3,e4]
 simp
theorem XWC0 (a b c d:UInt8):in32 (sgn32 (u32 a b c d)):=by
 have ha:=a.toNat_lt
 have hb:=b.toNat_lt
 have hc:=c.toNat_lt
 have hd:=d.toNat_lt
 unfold in32 sgn32 u32
 split<;>omega
theorem qqDw {n:Int} (h:in32 n) (t:List UInt8):numP (num4 n++t)=some (n,t):=by
 show some (sgn32 (u32 _ _ _ _),t)=_
 congr 2
 unfold in32 at h
 obtain ⟨N,hN⟩:∃N,(n % 4294967296).toNat=N:=⟨_,rfl⟩
 have hlt:N<4294967296:=by omega
 rw[hN]
 unfold u32
 simp only[UInt8.toNat_ofNat']
 unfold sgn32
 split<;>omega
structure Cod {α:Type} (p:List UInt8→Option (α×List UInt8)) (wr:α→List UInt8) (ok:α→Prop):Prop where
 sound:∀l a t,p l=some (a,t)→l=wr a++t∧ok a
 full:∀a t,ok a→p (wr a++t)=some (a,t)
theorem qAdV:Cod numP num4 in32 where
 sound:=by
  intro l n t h
  match l,h with
  | a::b::c::d::t',h =>
   simp only[numP,Option.some.injEq,Prod.mk.injEq] at h
   obtain ⟨rfl,rfl⟩:=h
   exact ⟨by rw[jsg6];rfl,XWC0 a b c d⟩
 full:=fun n t h=>qqDw h t
def manyP {α:Type} (p:List UInt8→Option (α×List UInt8)):Nat→List UInt8→Option (List α×List UInt8)
 | 0,l=>some ([],l)
 | k+1,l=>match manyP p k l with
  | none=>none
  | some (ys,t)=>match p t with
   | none=>none
   | some (a,t')=>some (ys++[a],t')
theorem zRvC {α:Type} {p:List UInt8→Option (α×List UInt8)} {k n:Nat} {l:List UInt8} (h:manyP p k l=none) (hn:k≤n):manyP p n l=none:=by
 induction n with
 | zero=>rw[Nat.le_zero.1 hn] at h;exact h
 | succ n ih =>
  by_cases e:k=n+1
  ·rw[←e];exact h
  ·rw[manyP,ih (by omega)]
theorem XLXy {α:Type} {p:List UInt8→Option (α×List UInt8)} {k n:Nat} {l t:List UInt8} {ys:List α} (h:manyP p k l=some (ys,t)) (hp:p t=none) (hn:k<n):manyP p n l=none :=
 zRvC (k:=k+1) (by rw[manyP,h];simp only[hp]) hn
theorem jvSA {α:Type} {p:List UInt8→Option (α×List UInt8)} {k:Nat} {l t t':List UInt8} {ys:List α} {a:α} (h:manyP p k l=some (ys,t)) (hp:p t=some (a,t')):manyP p (k+1) l=some (ys++[a],t'):=by
 rw[manyP,h];simp only[hp]
theorem jPlP {α:Type} {p:List UInt8→Option (α×List UInt8)} {n:Nat} {l t:List UInt8} {ys:List α} (h:manyP p n l=some (ys,t)):ys.length=n:=by
 induction n generalizing ys t with
 | zero=>simp only[manyP,Option.some.injEq,Prod.mk.injEq] at h;rw[←h.1];rfl
 | succ n ih =>
  rw[manyP] at h
  split at h
  ·exact absurd h (by simp)
  ·rename_i ys' t' h1
   split at h
   ·exact absurd h (by simp)
   ·simp only[Option.some.injEq,Prod.mk.injEq] at h
    rw[←h.1,List.length_append,ih h1];rfl
theorem zfCg {α:Type} {p:List UInt8→Option (α×List UInt8)} {wr:α→List UInt8} {ok:α→Prop} (c:Cod p wr ok) (n:Nat):Cod (manyP p n) (fun ys=>ys.flatMap wr) (fun ys=>ys.length=n∧∀a∈ys,ok a) where
 sound:=by
  intro l ys t h
  refine ⟨?_,jPlP h,?_⟩
  ·induction n generalizing ys t with
   | zero=>simp only[manyP,Option.some.injEq,Prod.mk.injEq] at h;rw[←h.1,←h.2];rfl
   | succ n ih =>
    rw[manyP] at h
    split at h
    ·exact absurd h (by simp)
    ·rename_i ys' t' h1
     split at h
     ·exact absurd h (by simp)
     ·rename_i a t'' h2
      simp only[Option.some.injEq,Prod.mk.injEq] at h
      rw[ih ys' t' h1,(c.sound _ _ _ h2).1,←h.1,←h.2]
      simp
  ·induction n generalizing ys t with
   | zero=>simp only[manyP,Option.some.injEq,Prod.mk.injEq] at h;rw[←h.1];simp
   | succ n ih =>
    rw[manyP] at h
    split at h
    ·exact absurd h (by simp)
    ·rename_i ys' t' h1
     split at h
     ·exact absurd h (by simp)
     ·rename_i a t'' h2
      simp only[Option.some.injEq,Prod.mk.injEq] at h
      intro b hb
      rw[←h.1,List.mem_append] at hb
      rcases hb with hb|hb
      ·exact ih ys' t' h1 b hb
      ·rw[List.mem_singleton.1 hb];exact (c.sound _ _ _ h2).2
 full:=by
  intro ys t h
  obtain ⟨h1,h2⟩:=h
  induction n generalizing ys t with
  | zero=>rw[List.eq_nil_of_length_eq_zero h1];rfl
  | succ n ih =>
   obtain ⟨bs,b,rfl⟩:∃bs b,ys=bs++[b]:=⟨ys.dropLast,ys.getLast (by intro e;rw[e] at h1;simp at h1),(List.dropLast_concat_getLast _).symm⟩
   have e1:bs.length=n:=by simpa using h1
   have:=ih bs (wr b++t) e1 (fun a ha=>h2 a (by simp[ha]))
   rw[manyP,show (fun ys=>List.flatMap wr ys) (bs++[b])++t=bs.flatMap wr++(wr b++t) by simp,this]
   simp only[c.full b t (h2 b (by simp))]
def listP {α:Type} (p:List UInt8→Option (α×List UInt8)) (b:List UInt8→Nat) (l:List UInt8):Option (List α×List UInt8) :=
 match numP l with
 | none=>none
 | some (n,t)=>if 0≤n∧n≤(b t:Int) then manyP p n.toNat t else none
def listW {α:Type} (wr:α→List UInt8) (ys:List α):List UInt8:=num4 ys.length++ys.flatMap wr
theorem jhfc {α:Type} {p:List UInt8→Option (α×List UInt8)} {wr:α→List UInt8} {ok:α→Prop} (c:Cod p wr ok) {b:List UInt8→Nat} {ys:List α} {t:List UInt8} (h1:∀a∈ys,ok a) (h2:in32 ys.length) (h3:ys.length≤b (ys.flatMap wr++t)) :
  listP p b (listW wr ys++t)=some (ys,t):=by
 rw[listP,listW,List.append_assoc,qqDw h2]
 simp only
 rw[if_pos ⟨by omega,by omega⟩,Int.toNat_natCast]
 exact (zfCg c ys.length).full ys t ⟨rfl,h1⟩
def textP (l:List UInt8):Option (List UInt8×List UInt8) :=
 match numP l with
 | none=>none
 | some (n,t)=>if 0≤n∧n≤(t.length:Int) then some (t.take n.toNat,t.drop n.toNat) else none
def textW (s:List UInt8):List UInt8:=num4 s.length++s
theorem zGqm:Cod textP textW (fun s=>in32 s.length) where
 sound:=by
  intro l s t h
  rw[textP] at h
  split at h
  ·exact absurd h (by simp)
  ·rename_i n u h1
   split at h
   ·rename_i h2
    obtain ⟨f1,f2⟩:=qAdV.sound _ _ _ h1
    simp only[Option.some.injEq,Prod.mk.injEq] at h
    obtain ⟨rfl,rfl⟩:=h
    have e:((u.take n.toNat).length:Int)=n:=by rw[List.length_take];omega
    exact ⟨by rw[textW,e,List.append_assoc,List.take_append_drop,f1],by rw[e];exact f2⟩
   ·exact absurd h (by simp)
 full:=by
  intro s t h
  rw[textP,textW,List.append_assoc,qqDw h]
  simp only
  rw[if_pos ⟨by omega,by rw[List.length_append];omega⟩,Int.toNat_natCast,List.take_left' rfl,List.drop_left' rfl]
def pairP (l:List UInt8):Option (Pt×List UInt8) :=
 match numP l with
 | none=>none
 | some (x,t)=>match numP t with
  | none=>none
  | some (y,u)=>some ((x,y),u)
def pairW (p:Pt):List UInt8:=num4 p.1++num4 p.2
theorem jYsO:Cod pairP pairW (fun p=>in32 p.1∧in32 p.2) where
 sound:=by
  intro l p t h
  rw[pairP] at h
  split at h
  ·exact absurd h (by simp)
  ·rename_i x u h1
   split at h
   ·exact absurd h (by simp)
   ·rename_i y v h2
    simp only[Option.some.injEq,Prod.mk.injEq] at h
    obtain ⟨rfl,rfl⟩:=h
    obtain ⟨f1,f2⟩:=qAdV.sound _ _ _ h1
    obtain ⟨g1,g2⟩:=qAdV.sound _ _ _ h2
    exact ⟨by rw[pairW,List.append_assoc,←g1,f1],f2,g2⟩
 full:=by
  intro p t h
  rw[pairP,pairW,List.append_assoc,qqDw h.1]
  simp only
  rw[qqDw h.2]
abbrev panV:Value:=.iface 25 (.int .i64 1)
abbrev panE:Ending:=.panicked [{ v:=panV,recovered:=false }]
structure RSt (B b:Nat) (w w':World):Prop where
 bel:Below B w w'
 keep:∀k,k<w.heap.size→k≠b→w'.heap[k]?=w.heap[k]?
theorem RSt.refl (B b:Nat) (w:World):RSt B b w w:=⟨Below.refl _ _,fun _ _ _=>rfl⟩
theorem RSt.trans {B b:Nat} {w w' w'':World} (h:RSt B b w w') (k:RSt B b w' w''):RSt B b w w'' :=
 ⟨h.bel.trans k.bel,fun j h1 h2=>(k.keep j (Nat.lt_of_lt_of_le h1 h.bel.size) h2).trans (h.keep j h1 h2)⟩
theorem RSt.alloc {B b:Nat} {w:World} (hB:B≤w.heap.size) (o:Obj):RSt B b w (w.alloc o):=⟨(qUNz w o).mono hB,fun k h1 _=>(qUNz w o).block k h1⟩
theorem RSt.drew {B b:Nat} {w:World}:RSt B b w w.drew:=⟨(Below.refl _ _).drew,fun _ _ _=>rfl⟩
theorem RSt.drews (B b n:Nat) (w:World):RSt B b w (w.drewN n):=⟨⟨rfl,rfl,rfl,Nat.le_refl _,fun _ _=>rfl⟩,fun _ _ _=>rfl⟩
def IsRd (b:Nat) (l:List UInt8) (w:World):Prop:=w.heap[b]?=some (.cells #[.string (str l)] 200 (0,0))
def RPost {α:Type} (B b:Nat) (l:List UInt8) (w:World) (p:List UInt8→Option (α×List UInt8)) (ret:α→Value) (e:Ending) (w':World):Prop :=
 RSt B b w w'∧((∃a t,p l=some (a,t)∧e=.returned (ret a)∧IsRd b t w')∨(p l=none∧e=panE))
theorem qEMU (w:World):Calls Tryz.prog 159 #[.bool true] w fun e w'=>e=.returned (.tuple #[])∧w'=w:=by
 go_enter Tryz.func159,Tryz.ntmps159
 go_wp2
 go_end0
 exact ⟨rfl,rfl⟩
theorem q2dr (w:World):Calls Tryz.prog 159 #[.bool false] w fun e w'=>e=panE∧w'=w:=by
 go_enter Tryz.func159,Tryz.ntmps159
 go_wp2
 exact ⟨rfl,rfl,rfl⟩
def takeP (n:Int) (l:List UInt8):Option (List UInt8×List UInt8):=if 0≤n∧n≤(l.length:Int) then some (l.take n.toNat,l.drop n.toNat) else none
theorem rd_set {B b:Nat} {l t:List UInt8} {w:World} (hB:B≤b) (h:IsRd b l w):IsRd b t (w.setCell ⟨b,0,none⟩ (.string (str t)))∧RSt B b w (w.setCell ⟨b,0,none⟩ (.string (str t))):=by
 refine ⟨?_,(Below.refl B w).setCell (p:=⟨b,0,none⟩) hB _,fun k _ hk=>Below.heap_setCell _ _ _ _ (fun e=>hk e)⟩
 unfold IsRd at h ⊢
 simp[World.setCell,Array.getElem?_modify,h]
theorem qgz9 {b:Nat} {l:List UInt8} {w:World} (h:IsRd b l w) (o:Obj):IsRd b l (w.alloc o):=((qUNz w o).block _ (Array.getElem?_eq_some_iff.1 h).1).trans h
theorem q8Qn (B b:Nat) (l:List UInt8) (n:Int) (w:World) (hB:B≤b) (hBw:B≤w.heap.size) (h:IsRd b l w) (hl:l.length≤140737488355328) :
  Calls Tryz.prog 194 #[.pointer (some ⟨b,0,none⟩),.int .i64 n] w (RPost B b l w (takeP n) (fun s=>.string (str s))):=by
 have c0:w.cell? ⟨b,0,none⟩=some (.string (str l)):=by rw[Lib.cell_of_heap h];rfl
 have ha:=qgz9 h (Obj.cells #[.int .i64 n] 3)
 have d0:(w.alloc (Obj.cells #[.int .i64 n] 3)).cell? ⟨b,0,none⟩=some (.string (str l)):=by rw[Lib.cell_of_heap ha];rfl
 have f0:(w.alloc (Obj.cells #[.int .i64 n] 3)).frozen? ⟨b,0,none⟩=false:=Lib.frozen_of_heap ha 0
 have HS:=hide (RSt.alloc (b:=b) hBw (Obj.cells #[.int .i64 n] 3))
 have HP:=hide (show takeP n l=if 0≤n∧n≤(l.length:Int) then some (l.take n.toNat,l.drop n.toNat) else none from rfl)
 have HI:=hide (ints1 w n)
 have hs:(str l).size=l.length:=qzX5 l
 by_cases hn:0≤n∧n≤(l.length:Int)
 ·obtain ⟨N,rfl⟩:=Int.eq_ofNat_of_zero_le hn.1
  have hN:N≤l.length:=by omega
  rw[if_pos hn,Int.toNat_natCast] at HP
  have HX1:=hide (show (str l).extract 0 N=str (l.take N) by rw[Lib.extract_eq];simp[str])
  have HX2:=hide (show (str l).extract N l.length=str (l.drop N) by rw[Lib.extract_eq,jrcE,List.take_of_length_le (by rw[List.length_drop];exact Nat.le_refl _)];rfl)
  have HA:=hide (show allIn 0 l.length [(N:Int)]=true by simp[allIn];omega)
  obtain ⟨R1,R2⟩:=rd_set (B:=B) (t:=l.drop N) hB ha
  have HR1:=hide R1
  have HR2:=hide (HS.out.trans R2)
  clear R1 R2 h ha
  generalize str l=S at *
  go_enter Tryz.func194,Tryz.ntmps194
  go_wp2_with fail
  refine (qFis 0 l.length _ [(N:Int)] _ HI.out).mono ?_
  rintro e w1 ⟨rfl,rfl⟩
  rw[HA.out]
  go_wp2_with fail
  refine (qEMU _).mono ?_
  rintro e w1 ⟨rfl,rfl⟩
  go_wp2
  go_ret
  have e2:=HX2.out
  rw[e2]
  exact ⟨HR2.out,.inl ⟨_,_,HP.out,congrArg (fun x=>Ending.returned (.string x)) HX1.out,HR1.out⟩⟩
 ·rw[if_neg hn] at HP
  have HA:=hide (show allIn 0 l.length [n]=false by simp only[allIn,List.all_cons,List.all_nil,Bool.and_true];exact decide_eq_false hn)
  clear h ha
  generalize str l=S at *
  go_enter Tryz.func194,Tryz.ntmps194
  go_wp2_with fail
  refine (qFis 0 l.length _ [n] _ HI.out).mono ?_
  rintro e w1 ⟨rfl,rfl⟩
  rw[HA.out]
  go_wp2_with fail
  refine (q2dr _).mono ?_
  rintro e w1 ⟨rfl,rfl⟩
  exact ⟨rfl,HS.out,.inr ⟨HP.out,rfl⟩⟩
theorem j2SD {x y:Int} (i:Nat) (hx₀:0≤x) (hx:x % 2 ^ i=0) (hx₁:x<2 ^ 32) (h₀:0≤y) (h₁:y<2 ^ i) (h₂:y<2 ^ 32):bits .or .u32 x y=x+y :=
 bits_join .u32 32 (by decide) (fun n h0 h1=>by rw[IntKind.wrap_u32];omega) i x y hx₀ hx hx₁ h₀ h₁ h₂
theorem q6p4 (U:Nat) (h:U<4294967296):wrap64 (wrap32 (U:Int))=sgn32 U:=by
 unfold sgn32 wrap64 wrap32
 split<;>omega
theorem zmOK (c0 c1 c2 c3:UInt8):wrap64 (wrap32 (bits .or .u32 (bits .or .u32 (bits .or .u32 (((c0.toNat:Int)) % 4294967296*16777216 % 4294967296) ((c1.toNat:Int) % 4294967296*65536 % 4294967296)) ((c2.toNat:Int) % 4294967296*256 % 4294967296)) ((c3.toNat:Int) % 4294967296)))=sgn32 (u32 c0 c1 c2 c3):=by
 have h0:=c0.toNat_lt
 have h1:=c1.toNat_lt
 have h2:=c2.toNat_lt
 have h3:=c3.toNat_lt
 have hU:u32 c0 c1 c2 c3<4294967296:=by unfold u32;omega
 rw[←q6p4 _ hU]
 congr 2
 have e0:(c0.toNat:Int) % 4294967296*16777216 % 4294967296=c0.toNat*16777216:=by omega
 have e1:(c1.toNat:Int) % 4294967296*65536 % 4294967296=c1.toNat*65536:=by omega
 have e2:(c2.toNat:Int) % 4294967296*256 % 4294967296=c2.toNat*256:=by omega
 have e3:(c3.toNat:Int) % 4294967296=c3.toNat:=by omega
 rw[e0,e1,e2,e3]
 have f1:bits .or .u32 ((c0.toNat:Int)*16777216) ((c1.toNat:Int)*65536)=(c0.toNat:Int)*16777216+(c1.toNat:Int)*65536:=j2SD 24 (by omega) (by omega) (by omega) (by omega) (by omega) (by omega)
 have f2:bits .or .u32 ((c0.toNat:Int)*16777216+(c1.toNat:Int)*65536) ((c2.toNat:Int)*256)=(c0.toNat:Int)*16777216+(c1.toNat:Int)*65536+(c2.toNat:Int)*256:=j2SD 16 (by omega) (by omega) (by omega) (by omega) (by omega) (by omega)
 have f3:bits .or .u32 ((c0.toNat:Int)*16777216+(c1.toNat:Int)*65536+(c2.toNat:Int)*256) (c3.toNat:Int)=(c0.toNat:Int)*16777216+(c1.toNat:Int)*65536+(c2.toNat:Int)*256+c3.toNat:=j2SD 8 (by omega) (by omega) (by omega) (by omega) (by omega) (by omega)
 rw[f1,f2,f3,u32]
 omega
theorem qI49 (B b:Nat) (l:List UInt8) (w:World) (hB:B≤b) (hBw:B≤w.heap.size) (h:IsRd b l w) (hl:l.length≤140737488355328) :
  Calls Tryz.prog 161 #[.pointer (some ⟨b,0,none⟩)] w (RPost B b l w numP (fun n=>.int .i64 n)):=by
 have HT:=hide (q8Qn B b l 4 w hB hBw h hl)
 match l,HT with
 | c0::c1::c2::c3::t,HT =>
  have HP:=hide (show takeP 4 (c0::c1::c2::c3::t)=some ([c0,c1,c2,c3],t) by rw[takeP,if_pos ⟨by decide,by simp;omega⟩];rfl)
  have q0:(str [c0,c1,c2,c3]).size=4:=rfl
  go_enter Tryz.func161,Tryz.ntmps161
  go_wp2_with fail
  refine (HT.out).mono ?_
  rintro e w1 ⟨hS,hc⟩
  rw[HP.out] at hc
  obtain ⟨a,u,he,rfl,hR⟩:∃a u,some ([c0,c1,c2,c3],t)=some (a,u)∧e=.returned (.string (str a))∧IsRd b u w1:=by
   rcases hc with hc|⟨hc,_⟩
   ·exact hc
   ·cases hc
  cases he
  have HR:=hide hR
  have HS:=hide hS
  clear hR hS HT h
  go_upto_region 2 with fail
  go_quiet (fail)
  go_wp2
  go_ret
  exact ⟨HS.out.trans (RSt.drews _ _ _ _),.inl ⟨_,_,rfl,jx9N (zmOK c0 c1 c2 c3),HR.out⟩⟩
 | [],HT =>
  have HP:=hide (show takeP 4 []=none from rfl)
  go_enter Tryz.func161,Tryz.ntmps161
  go_wp2_with fail
  refine (HT.out).mono ?_
  rintro e w1 ⟨hS,hc⟩
  rw[HP.out] at hc
  rcases hc with ⟨_,_,hc,_⟩|⟨_,rfl⟩
  ·cases hc
  ·exact ⟨rfl,hS,.inr ⟨rfl,rfl⟩⟩
 | [x0],HT =>
  have HP:=hide (show takeP 4 [x0]=none from rfl)
  go_enter Tryz.func161,Tryz.ntmps161
  go_wp2_with fail
  refine (HT.out).mono ?_
  rintro e w1 ⟨hS,hc⟩
  rw[HP.out] at hc
  rcases hc with ⟨_,_,hc,_⟩|⟨_,rfl⟩
  ·cases hc
  ·exact ⟨rfl,hS,.inr ⟨rfl,rfl⟩⟩
 | [x0,x1],HT =>
  have HP:=hide (show takeP 4 [x0,x1]=none from rfl)
  go_enter Tryz.func161,Tryz.ntmps161
  go_wp2_with fail
  refine (HT.out).mono ?_
  rintro e w1 ⟨hS,hc⟩
  rw[HP.out] at hc
  rcases hc with ⟨_,_,hc,_⟩|⟨_,rfl⟩
  ·cases hc
  ·exact ⟨rfl,hS,.inr ⟨rfl,rfl⟩⟩
 | [x0,x1,x2],HT =>
  have HP:=hide (show takeP 4 [x0,x1,x2]=none from rfl)
  go_enter Tryz.func161,Tryz.ntmps161
  go_wp2_with fail
  refine (HT.out).mono ?_
  rintro e w1 ⟨hS,hc⟩
  rw[HP.out] at hc
  rcases hc with ⟨_,_,hc,_⟩|⟨_,rfl⟩
  ·cases hc
  ·exact ⟨rfl,hS,.inr ⟨rfl,rfl⟩⟩
theorem jl0R {l t:List UInt8} {n:Int} (h:numP l=some (n,t)):textP l=takeP n t:=by rw[textP,h];rfl
theorem zNNZ {l t:List UInt8} {n:Int} (h:numP l=some (n,t)):t.length+4=l.length:=by
 rw[(qAdV.sound _ _ _ h).1,List.length_append,jp6u];omega
def cntP (m:Nat) (l:List UInt8):Option (Int×List UInt8):=match numP l with
 | none=>none
 | some (n,t)=>if 0≤n∧n≤(m:Int) then some (n,t) else none
theorem q940 (B b:Nat) (l:List UInt8) (w:World) (hB:B≤b) (hBw:B≤w.heap.size) (h:IsRd b l w) (hl:l.length≤140737488355328) :
  Calls Tryz.prog 160 #[.pointer (some ⟨b,0,none⟩)] w (RPost B b l w textP (fun s=>.string (str s))):=by
 have HN:=hide (qI49 B b l w hB hBw h hl)
 clear h
 go_enter Tryz.func160,Tryz.ntmps160
 go_wp2_with fail
 refine (HN.out).mono ?_
 rintro e w1 ⟨hS,hc⟩
 rcases hc with ⟨n,t,hp,rfl,hR⟩|⟨hp,rfl⟩
 ·have HE:=hide (jl0R hp)
  have hlt:=zNNZ hp
  have HS:=hide hS
  go_wp2_with fail
  refine (q8Qn B b t n w1 hB (Nat.le_trans hBw HS.out.bel.size) hR (by omega)).mono ?_
  rintro e w2 ⟨hS2,hc2⟩
  rcases hc2 with ⟨a,u,hp2,rfl,hR2⟩|⟨hp2,rfl⟩
  ·have HR2:=hide hR2
   have HS2:=hide (HS.out.trans hS2)
   have HP:=hide (HE.out.trans hp2)
   clear hp hp2 hR hS hS2 hR2
   go_wp2
   go_ret
   exact ⟨HS2.out,.inl ⟨_,_,HP.out,rfl,HR2.out⟩⟩
  ·exact ⟨rfl,HS.out.trans hS2,.inr ⟨HE.out.trans hp2,rfl⟩⟩
 ·exact ⟨rfl,hS,.inr ⟨by rw[textP,hp],rfl⟩⟩
theorem zbMh (B b m:Nat) (l:List UInt8) (w:World) (hB:B≤b) (hBw:B≤w.heap.size) (h:IsRd b l w) (hl:l.length≤140737488355328) :
  Calls Tryz.prog 162 #[.pointer (some ⟨b,0,none⟩),.int .i64 m] w (RPost B b l w (cntP m) (fun n=>.int .i64 n)):=by
 have HN:=hide (qI49 B b l w hB hBw h hl)
 clear h
 go_enter Tryz.func162,Tryz.ntmps162
 go_wp2_with fail
 refine (HN.out).mono ?_
 rintro e w1 ⟨hS,hc⟩
 rcases hc with ⟨n,t,hp,rfl,hR⟩|⟨hp,rfl⟩
 ·have HE:=hide (show cntP m l=if 0≤n∧n≤(m:Int) then some (n,t) else none by rw[cntP,hp])
  have HR:=hide (qgz9 hR (Obj.cells #[.int .i64 n] 3))
  have HS:=hide (hS.trans (RSt.alloc (b:=b) (Nat.le_trans hBw hS.bel.size) (Obj.cells #[.int .i64 n] 3)))
  have HA:=hide (show allIn 0 m [n]=decide (0≤n∧n≤(m:Int)) by simp[allIn])
  clear hp hR hS
  go_wp2_with fail
  refine (qFis 0 m _ [n] _ (ints1 w1 n)).mono ?_
  rintro e w2 ⟨rfl,rfl⟩
  rw[HA.out]
  by_cases hn:0≤n∧n≤(m:Int)
  ·rw[if_pos hn] at HE
   rw[decide_eq_true hn]
   clear hn HA
   go_wp2_with fail
   refine (qEMU _).mono ?_
   rintro e w3 ⟨rfl,rfl⟩
   go_wp2
   go_ret
   exact ⟨HS.out,.inl ⟨_,_,HE.out,rfl,HR.out⟩⟩
  ·rw[if_neg hn] at HE
   rw[decide_eq_false hn]
   clear hn HA
   go_wp2_with fail
   refine (q2dr _).mono ?_
   rintro e w3 ⟨rfl,rfl⟩
   exact ⟨rfl,HS.out,.inr ⟨HE.out,rfl⟩⟩
 ·exact ⟨rfl,hS,.inr ⟨by rw[cntP,hp],rfl⟩⟩
structure RSt2 (B b g:Nat) (w w':World):Prop where
 bel:Below B w w'
 keep:∀k,k<w.heap.size→k≠b→k≠g→w'.heap[k]?=w.heap[k]?
theorem RSt.two {B b g:Nat} {w w':World} (h:RSt B b w w'):RSt2 B b g w w':=⟨h.bel,fun k h1 h2 _=>h.keep k h1 h2⟩
theorem RSt2.refl (B b g:Nat) (w:World):RSt2 B b g w w:=⟨Below.refl _ _,fun _ _ _ _=>rfl⟩
theorem RSt2.trans {B b g:Nat} {w w' w'':World} (h:RSt2 B b g w w') (k:RSt2 B b g w' w''):RSt2 B b g w w'' :=
 ⟨h.bel.trans k.bel,fun j h1 h2 h3=>(k.keep j (Nat.lt_of_lt_of_le h1 h.bel.size) h2 h3).trans (h.keep j h1 h2 h3)⟩
def Holds (g:Nat) (t:TypeId) (cs:List Value) (w:World):Prop:=w.heap[g]?=some (.cells cs.toArray t (0,0))
theorem Holds.set {B b g:Nat} {t:TypeId} {cs:List Value} {w:World} (h:Holds g t cs w) (hB:B≤g) (i:Nat) (v:Value) (h1:v.oneCell'=true):Holds g t (cs.set i v) (w.setCell ⟨g,i,none⟩ v)∧RSt2 B b g w (w.setCell ⟨g,i,none⟩ v):=by
 refine ⟨?_,(Below.refl B w).setCell (p:=⟨g,i,none⟩) hB _,fun k _ _ hk=>Below.heap_setCell _ _ _ _ (fun e=>hk e)⟩
 unfold Holds at h ⊢
 simp[World.setCell,Array.getElem?_modify,h]
def patch (cs:List Value) (o:Nat) (xs:List Value):List Value:=cs.take o++xs++cs.drop (o+xs.length)
theorem jvmF (cs:List Value) (o:Nat):patch cs o []=cs:=by simp[patch]
theorem qvf2 (cs:List Value) (o:Nat) (xs:List Value) (v:Value) (h:o+xs.length<cs.length):(patch cs o xs).set (o+xs.length) v=patch cs o (xs++[v]):=by
 have e1:(cs.take o++xs).length=o+xs.length:=by simp;omega
 unfold patch
 rw[List.set_append_right _ _ (by omega),e1,Nat.sub_self,List.drop_eq_getElem_cons h,List.set_cons_zero]
 simp[Nat.add_assoc]
theorem q0Bp (cs:List Value) (o:Nat) (xs:List Value) (h:o+xs.length<cs.length):(patch cs o xs)[o+xs.length]?=cs[o+xs.length]?:=by
 unfold patch
 rw[List.getElem?_append_right (by simp;omega)]
 simp
 congr 1
 omega
theorem qKIr (B b g off N c:Nat) (t:TypeId) (cs:List Value) (l:List UInt8) (w:World) (hB:B≤b) (hBg:B≤g) (hgb:g≠b) (hBw:B≤w.heap.size) (h:IsRd b l w) (hl:l.length≤140737488355328) (hg:Holds g t cs w) (hN:off+N≤cs.length) (hN2:N≤1048576) (hz:∀i,i<N→∃z:Int,cs[off+i]?=some (.int .i64 z)) :
  Calls Tryz.prog 163 #[.pointer (some ⟨b,0,none⟩),.slice (some ⟨g,off,none⟩) N c] w fun e w'=>RSt2 B b g w w'∧((∃ns u,manyP numP N l=some (ns,u)∧e=.returned (.tuple #[])∧IsRd b u w'∧Holds g t (patch cs off (ns.map (Value.int .i64))) w')∨(manyP numP N l=none∧e=panE)):=by
 have HI:=hide h
 have HG:=hide hg
 clear h hg
 go_enter Tryz.func163,Tryz.ntmps163
 go_wp2_with fail
 go_loopw [7] (fun i wr=>∃k:Nat,k≤N∧i=.int .i64 k∧∃ns u,manyP numP k l=some (ns,u)∧IsRd b u wr∧Holds g t (patch cs off (ns.map (Value.int .i64))) wr∧RSt2 B b g w wr) (fun i _=>N-(intOf i).toNat)
 case atStart=>exact ⟨0,Nat.zero_le _,rfl,[],l,rfl,HI.out,by rw[List.map_nil,jvmF];exact HG.out,RSt2.refl _ _ _ _⟩
 case round =>
  clear HI HG
  obtain ⟨k,hk,rfl,ns,u,hm,hR,hH,hS⟩:=hrel
  have hnl:=jPlP hm
  have hul:u.length≤l.length:=by rw[((zfCg qAdV k).sound _ _ _ hm).1];simp
  by_cases hlt:k<N
  ·have hd:decide ((k:Int)<(N:Int))=true:=by simp;omega
   have HM:=hide hm
   have HR:=hide hR
   have HH:=hide hH
   have HS:=hide hS
   clear hm hR hH hS
   go_wp2_with fail
   refine (qI49 B b u wr hB (Nat.le_trans hBw HS.out.bel.size) HR.out (by omega)).mono ?_
   rintro e w1 ⟨hS1,hc1⟩
   rcases hc1 with ⟨n,t1,hp,rfl,hR1⟩|⟨hp,rfl⟩
   ·have hH1:Holds g t (patch cs off (ns.map (Value.int .i64))) w1:=(hS1.keep g (Array.getElem?_eq_some_iff.1 HH.out).1 hgb).trans HH.out
    obtain ⟨z,hz'⟩:=hz k hlt
    have hpl:(ns.map (Value.int .i64)).length=k:=by rw[List.length_map,hnl]
    have c1:w1.cell? ⟨g,off+k,none⟩=some (.int .i64 z):=by
     rw[Lib.cell_of_heap hH1]
     have:=q0Bp cs off (ns.map (Value.int .i64)) (by rw[hpl];omega)
     rw[hpl] at this
     simp[this,hz']
    have f1:w1.frozen? ⟨g,off+k,none⟩=false:=Lib.frozen_of_heap hH1 _
    obtain ⟨hH2,hS2⟩:=hH1.set (B:=B) (b:=b) hBg (off+k) (.int .i64 n) rfl
    have hR2:IsRd b t1 (w1.setCell ⟨g,off+k,none⟩ (.int .i64 n)):=(Below.heap_setCell _ _ _ _ (fun e=>hgb e.symm)).trans hR1
    have hps:=qvf2 cs off (ns.map (Value.int .i64)) (.int .i64 n) (by rw[hpl];omega)
    rw[hpl] at hps
    rw[hps,←List.map_singleton (f:=Value.int .i64),←List.map_append] at hH2
    have HF:=hide (show ∃ns u,manyP numP (k+1) l=some (ns,u)∧IsRd b u (w1.setCell ⟨g,off+k,none⟩ (.int .i64 n))∧Holds g t (patch cs off (ns.map (Value.int .i64))) (w1.setCell ⟨g,off+k,none⟩ (.int .i64 n))∧RSt2 B b g w (w1.setCell ⟨g,off+k,none⟩ (.int .i64 n)) from ⟨_,_,jvSA HM.out hp,hR2,hH2,HS.out.trans (hS1.two.trans hS2)⟩)
    clear hH1 hH2 hS2 hR2 hps hp hS1 hR1 hz'
    go_wp2
    go_roundw
    case rel=>exact ⟨k+1,hlt,by go_num,HF.out⟩
    case measure=>simp[intOf];omega
   ·exact ⟨rfl,HS.out.trans hS1.two,.inr ⟨XLXy HM.out hp hlt,rfl⟩⟩
  ·have hd:decide ((k:Int)<(N:Int))=false:=by simp;omega
   obtain rfl:k=N:=by omega
   go_wp2
   go_end0
   exact ⟨hS,.inl ⟨ns,u,hm,rfl,hR,hH⟩⟩
end Go.Proofs.YtfjeonehdlphiaaGreatDoor
