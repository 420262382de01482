/- Re: part 50 of what the proofs need. -/
import Derived.Test.YtfjeonehdlphiaaGreatDoorC33Re
import Derived.Test.YtfjeonehdlphiaaGreatDoorC34Re
import Derived.Test.YtfjeonehdlphiaaGreatDoorC42Re
import Derived.Test.YtfjeonehdlphiaaGreatDoorC49Re
open Go.Obj renaming cells → ke
open List renaming setIfInBounds_toArray → kf, set_cons_zero → kh, set_cons_succ → ki
open Array renaming getElem?_eq_some_iff → kg
open Go.Act renaming put → kj
open Nat renaming le_refl → kk, le_trans → km, zero_le → kn
set_option linter.unusedVariables false
set_option maxHeartbeats 25600000
set_option maxRecDepth 100000
namespace Go.Proofs.YtfjeonehdlphiaaGreatDoor
open Go.RowKit
def noneQ:RawF:=⟨0,0,0,0,0,[],[],zeroN⟩
theorem zQam {r:RawF} {zs:List Int} {FE:Int} {B:Nat} {w':World} {e:Ending} (h:(FE=0∧∃lv' tv' sv' cv',e=.returned (.tuple #[.agg (rawA (qtvI r zs) lv' tv' sv' cv'),.int .i64 0])∧IsRaw w' (qtvI r zs) lv' tv' sv' cv'∧Fresh B lv'∧Fresh B tv'∧Fresh B sv'∧Fresh B cv'∧Free w' lv'∧Free w' cv') ∨
   (FE≠0∧e=.returned (.tuple #[.agg rawZ,.int .i64 FE]))):∃lv' tv' sv' cv',e=.returned (.tuple #[.agg (rawA (if FE=0 then qtvI r zs else noneQ) lv' tv' sv' cv'),.int .i64 FE])∧IsRaw w' (if FE=0 then qtvI r zs else noneQ) lv' tv' sv' cv'∧Fresh B lv'∧Fresh B cv'∧Free w' lv'∧Free w' cv':=by
 rcases h with ⟨h0,a,b,c,d,he,hI,f1,_,_,f4,e1,e4⟩|⟨hn,he⟩
 ·subst h0
  exact ⟨a,b,c,d,he,hI,f1,f4,e1,e4⟩
 ·rw[if_neg hn]
  exact ⟨_,_,_,_,he,⟨jCvT.nil _,zGcC.nil _,IsPts.nil _,IsPts.nil _⟩,Fresh.nil _,Fresh.nil _,Free.nil _,Free.nil _⟩
theorem XjSk {r:RawF} {zs:List Int} {FE:Int} {B:Nat} {w':World} {e:Ending} (h:(FE=0∧∃lv' tv' sv' cv',e=.returned (.tuple #[.agg (rawA (qtvI r zs) lv' tv' sv' cv'),.int .i64 0])∧IsRaw w' (qtvI r zs) lv' tv' sv' cv'∧Fresh B lv'∧Fresh B tv'∧Fresh B sv'∧Fresh B cv') ∨
   (FE≠0∧e=.returned (.tuple #[.agg rawZ,.int .i64 FE]))):∃lv' tv' sv' cv',e=.returned (.tuple #[.agg (rawA (if FE=0 then qtvI r zs else noneQ) lv' tv' sv' cv'),.int .i64 FE])∧IsRaw w' (if FE=0 then qtvI r zs else noneQ) lv' tv' sv' cv':=by
 rcases h with ⟨h0,a,b,c,d,he,hI,_⟩|⟨hn,he⟩
 ·subst h0
  exact ⟨a,b,c,d,he,hI⟩
 ·rw[if_neg hn]
  exact ⟨_,_,_,_,he,⟨jCvT.nil _,zGcC.nil _,IsPts.nil _,IsPts.nil _⟩⟩
theorem qSHZ (W H:Int) (zs:List Int):(fillE W H zs 0 == 0)=q0fM W H zs:=by
 unfold fillE
 cases q0fM W H zs
 ·rfl
 ·rfl
theorem XJXv {n:Plan} {W H:Int} {zs:List Int} {rows:Int} (h:XSDS n W H zs rows=0):DevOk n W H zs∧X1qP n W H zs rows=dev7 n W H zs:=by
 have hE:fitsE n W H zs H=0:=by
  rw[XSDS] at h
  split at h
  ·assumption
  ·exact h
 have hr:1≤rows:=by
  rw[XSDS,if_pos hE] at h
  split at h
  ·assumption
  ·cases h
 exact ⟨qDvO (jsZS hE).1 (jsZS hE).2.1 (jsZS hE).2.2,zVy2 hE hr⟩
theorem RowAt.setRow {w:World} {g g' n:Nat} {cs:Array Value} (h:RowAt w g' n) (hcs:∀c t,w.heap[g]?=some (.cells c t (0,0))→cs.size=c.size):RowAt (w.setRow g cs) g' n:=by
 obtain ⟨c,t,h1,h2⟩:=h
 by_cases e:g'=g
 ·subst e
  exact ⟨cs,t,setRow_heap _ _ _ _ _ _ h1,by rw[hcs c t h1];exact h2⟩
 ·exact ⟨c,t,(setRow_other _ _ _ _ e).trans h1,h2⟩
def LP (U:World) (AB:Nat) (X Y:Value) (so:Option Addr) (N cap:Nat) (wr:World):Prop :=
 wr.heap[AB]?=some (.cells #[X,Y,.slice so N cap] 24 (0,0))∧(N=0∨∃g off,so=some ⟨g,off,none⟩∧g≠AB∧U.heap.size≤g∧RowAt wr g (off+N*3))∧Below U.heap.size U wr
theorem LP.start {U V V3:World} {X Y:Value} {so:Option Addr} {N cap:Nat} {ps:List Px} (hV:Below U.heap.size U V) (hb:Below V.heap.size V V3) (hI:IsPix V3 (.slice so N cap) ps) (hf:Fresh V.heap.size (.slice so N cap)) (he:Free V3 (.slice so N cap)) :
  LP U V3.heap.size X Y so N cap (V3.alloc (ke #[X,Y,.slice so N cap] 24)):=by
 refine ⟨al1 V3 _,?_,quJN (quJN hV hb) (qUNz V3 _)⟩
 rcases (hI.rowAt he).2 with h|⟨g,off,rfl,hr⟩
 ·exact .inl h
 ·have hg:g<V3.heap.size:=by obtain ⟨c,t,h,_⟩:=hr;exact (kg.1 h).1
  exact .inr ⟨g,off,rfl,by omega,km hV.size (hf.1 g rfl),hr.below (qUNz V3 _) (kk _)⟩
theorem LP.set {U:World} {AB:Nat} {X Y:Value} {g off N cap:Nat} {wr:World} (h:LP U AB X Y (some ⟨g,off,none⟩) N cap wr) (hN:N≠0) {cs:Array Value} (hcs:∀c t,wr.heap[g]?=some (.cells c t (0,0))→cs.size=c.size):LP U AB X Y (some ⟨g,off,none⟩) N cap (wr.setRow g cs):=by
 obtain ⟨h1,h2,h3⟩:=h
 obtain ⟨g',off',he,hg1,hg2,hr⟩:=h2.resolve_left hN
 cases he
 obtain ⟨r1,r2,r3⟩:=XokB hr h3 hg2 cs hcs
 exact ⟨(r3 AB (Ne.symm hg1)).trans h1,.inr ⟨g,off,rfl,hg1,hg2,r1⟩,r2⟩
def LR (U:World) (AB:Nat) (RX:Array Value) (lo:Option Addr) (N:Nat) (ko:Option Addr) (M:Nat) (wr:World):Prop :=
 wr.heap[AB]?=some (.cells RX 57 (0,0))∧(N=0∨∃g off,lo=some ⟨g,off,none⟩∧g≠AB∧U.heap.size≤g∧RowAt wr g (off+N))∧(M=0∨∃g off,ko=some ⟨g,off,none⟩∧g≠AB∧U.heap.size≤g∧RowAt wr g (off+M*2))∧Below U.heap.size U wr
theorem LR.start {U V V3:World} {RX:Array Value} {lo ko:Option Addr} {n m lc kc:Nat} {xs:List Int} {pt:List Pt} (hV:Below U.heap.size U V) (hb:Below V.heap.size V V3) (hI:jCvT V3 (.slice lo n lc) xs) (hJ:IsPts V3 (.slice ko m kc) pt) (f1:Fresh V.heap.size (.slice lo n lc)) (f4:Fresh V.heap.size (.slice ko m kc)) (e1:Free V3 (.slice lo n lc)) (e4:Free V3 (.slice ko m kc)) :
  LR U V3.heap.size RX lo n ko m ((V3.alloc (ke rawZ 57)).setRow V3.heap.size RX):=by
 have hx:=below_setRow (g:=V3.heap.size) (qUNz V3 (ke rawZ 57)) (kk _) RX
 refine ⟨setRow_heap _ _ _ RX _ _ (al1 V3 (ke rawZ 57)),?_,?_,quJN (quJN hV hb) hx⟩
 ·rcases (hI.rowAt e1).2 with h|⟨g,off,rfl,hr⟩
  ·exact .inl h
  ·have hg:g<V3.heap.size:=by obtain ⟨c,t,h,_⟩:=hr;exact (kg.1 h).1
   exact .inr ⟨g,off,rfl,by omega,km hV.size (f1.1 g rfl),hr.below hx (kk _)⟩
 ·rcases (hJ.rowAt e4).2 with h|⟨g,off,rfl,hr⟩
  ·exact .inl h
  ·have hg:g<V3.heap.size:=by obtain ⟨c,t,h,_⟩:=hr;exact (kg.1 h).1
   exact .inr ⟨g,off,rfl,by omega,km hV.size (f4.1 g rfl),hr.below hx (kk _)⟩
theorem RowAt.get {w:World} {g n j:Nat} (h:RowAt w g n) (hj:j<n):∃x,w.cell? ⟨g,j,none⟩=some x∧w.frozen? ⟨g,j,none⟩=false:=by
 obtain ⟨c,t,h1,h2⟩:=h
 refine ⟨c[j]'(by omega),?_,Lib.frozen_of_heap h1 j⟩
 rw[Lib.cell_of_heap h1]
 exact Array.getElem?_eq_getElem (by omega)
theorem LR.set {U:World} {AB:Nat} {RX:Array Value} {lo:Option Addr} {N:Nat} {ko:Option Addr} {M:Nat} {wr:World} (h:LR U AB RX lo N ko M wr) {g:Nat} (hg:U.heap.size≤g) (hn:g≠AB) {cs:Array Value} (hcs:∀c t,wr.heap[g]?=some (.cells c t (0,0))→cs.size=c.size):LR U AB RX lo N ko M (wr.setRow g cs):=by
 obtain ⟨h1,h2,h3,h4⟩:=h
 refine ⟨(setRow_other _ _ _ _ (Ne.symm hn)).trans h1,h2.imp id ?_,h3.imp id ?_,h4.trans ⟨rfl,rfl,rfl,by simp[World.setRow],fun b hb'=>setRow_other _ _ _ _ (by omega)⟩⟩
 ·rintro ⟨a,b,e1,e2,e3,e4⟩
  exact ⟨a,b,e1,e2,e3,e4.setRow hcs⟩
 ·rintro ⟨a,b,e1,e2,e3,e4⟩
  exact ⟨a,b,e1,e2,e3,e4.setRow hcs⟩
theorem LR.put {U:World} {AB:Nat} {RX:Array Value} {lo:Option Addr} {N:Nat} {ko:Option Addr} {M:Nat} {wr:World} (h:LR U AB RX lo N ko M wr) {g n:Nat} (hg:U.heap.size≤g) (hn:g≠AB) (j:Nat) (x:Value) (hr:RowAt wr g n):LR U AB RX lo N ko M (wr.setCell ⟨g,j,none⟩ x):=by
 obtain ⟨c,t,h1,_⟩:=hr
 rw[setCell_eq_setRow wr g j c t _ x h1]
 exact h.set hg hn (fun c' t' h'=>by rw[h1] at h';cases h';simp)
theorem j85V (n:Plan) (sv cv:Value) (W H:Int) (v:Value) (zs:List Int) (rows:Int) (QW QH:Int) (qv:Value) (ps:List Px) (r:RawF) (lv tv su cu:Value) (hroom:roomy v) (nv:NilZ v) (nq:NilZ qv) (lz:NilZ lv) (tz:NilZ tv) (sz:NilZ su) (cz:NilZ cu) (htl:r.strips.length≤8796093022208) (hzl:zs.length*8≤140737488355328) (hpl:ps.length*24≤140737488355328)
  (w:World) (hm:zR7W w) (hp:X1uD w n sv cv) (hv:jCvT w v zs) (hq:IsPix w qv ps) (hr:IsRaw w r lv tv su cu) :
  Calls Tryz.prog 7 #[.agg (planA n sv cv),.agg #[.int .i64 W,.int .i64 H,v],.int .i64 rows,.agg #[.int .i64 QW,.int .i64 QH,qv],.agg (rawA r lv tv su cu)] w fun e w'=>e=.returned (.bool true)∧Below w.heap.size w w':=by
 have HST:=hide (fun (u:World) (hu:Below w.heap.size w u)=>qAuu n sv cv W H v zs rows u (hp.below hu (kk _)) (hv.below hu (kk _)) hroom)
 have HTU:=hide (fun (u:World) (hu:Below w.heap.size w u)=>qgS2 QW QH qv ps 1 u (hm.below hu (kk _)) (hq.below hu (kk _)))
 have HFI:=hide (fun (u:World) (hu:Below w.heap.size w u)=>XY7N r lv tv su cu W H v zs u (hr.below hu (kk _)) (hv.below hu (kk _)) hroom)
 have HMO:=hide (fun (u:World) (hu:Below w.heap.size w u)=>XiEN W H v zs 0 u (hv.below hu (kk _)))
 have HRF:=hide (fun (u:World) (hu:Below w.heap.size w u)=>XNww r lv tv su cu W H v zs u (hr.below hu (kk _)) (hv.below hu (kk _)) hroom lz tz sz cz htl)
 have HSI:=hide (fun (x:Value) (u:World) (hu:Below w.heap.size w u) (hx:jCvT u x zs)=>qvSR v x zs zs u (hv.below hu (kk _)) hx)
 have HSP:=hide (fun (x:Value) (u:World) (hu:Below w.heap.size w u) (hx:IsPix u x ps)=>XIqO 0 0 qv ps 0 0 x ps u (hq.below hu (kk _)) hx)
 have HSQ:=hide (fun (x:Value) (u:World) (hu:Below w.heap.size w u) (hx:IsPix u x ps)=>XIqO QW QH x ps QW QH qv ps u hx (hq.below hu (kk _)))
 have HWH:=hide (fun (u:World) (hu:Below w.heap.size w u) (hd:DevOk n W H zs)=>j19c n sv cv W H v zs u (hp.below hu (kk _)) (hv.below hu (kk _)) hd)
 have HPF:=hide (fun (u:World) (hu:Below w.heap.size w u)=>zpml W H v zs u (hv.below hu (kk _)))
 have HIV:=hide (fun (u:World) (hu:Below w.heap.size w u)=>hv.below hu (kk _))
 have HIQ:=hide (fun (u:World) (hu:Below w.heap.size w u)=>hq.below hu (kk _))
 obtain ⟨a0,a1,a2,a3⟩:=al4 w (ke (planA n sv cv) 51) (ke #[.int .i64 W,.int .i64 H,v] 54) (ke #[.int .i64 QW,.int .i64 QH,qv] 24) (ke (rawA r lv tv su cu) 57)
 have HB:=hide (be4 w (ke (planA n sv cv) 51) (ke #[.int .i64 W,.int .i64 H,v] 54) (ke #[.int .i64 QW,.int .i64 QH,qv] 24) (ke (rawA r lv tv su cu) 57))
 have hi21:(Tryz.prog.info? 51).map (·.size)=some ((planA n sv cv):Array Value).size:=by kernel_rfl
 have hi28:(Tryz.prog.info? 57).map (·.size)=some ((rawA r lv tv su cu):Array Value).size:=by kernel_rfl
 obtain ⟨vo,vc,rfl,_,_⟩:=hv
 obtain ⟨qo,qc,rfl,_,_⟩:=hq
 clear hp hr hm hroom lz tz sz cz htl
 go_enter Tryz.func7,Tryz.ntmps7
 go_upto_region 1 with fail
 have l0:=(kg.1 a0).1
 have l1:=(kg.1 a1).1
 have l2:=(kg.1 a2).1
 have l3:=(kg.1 a3).1
 generalize (((w.alloc (ke (planA n sv cv) 51)).alloc (ke #[.int .i64 W,.int .i64 H,.slice vo zs.length vc] 54)).alloc (ke #[.int .i64 QW,.int .i64 QH,.slice qo ps.length qc] 24)).alloc (ke (rawA r lv tv su cu) 57)=U at *
 have HWU:=hide (fun (V:World) (h:Below U.heap.size U V)=>HB.out.trans (h.mono HB.out.size))
 have B0:=hide (fun (V:World) (h:Below U.heap.size U V)=>(h.block _ l0).trans a0)
 have B1:=hide (fun (V:World) (h:Below U.heap.size U V)=>z5EY (b:=w.heap.size+1) ((h.block _ l1).trans a1))
 have B2:=hide (fun (V:World) (h:Below U.heap.size U V)=>z5EY (b:=w.heap.size+1+1) ((h.block _ l2).trans a2))
 have B3:=hide (fun (V:World) (h:Below U.heap.size U V)=>(h.block _ l3).trans a3)
 generalize planA n sv cv=PA at *
 generalize rawA r lv tv su cu=RQ at *
 clear a0 a1 a2 a3 l0 l1 l2 l3
 obtain ⟨p0,p1,p2⟩:=B1.out (U.alloc (ke #[] 3)) (qUNz U _)
 go_wp2_with (first
  | (at_builtin;refine XRL6 rfl _ _ rfl U (.slice vo zs.length vc) zs rfl rfl (HIV.out U HB.out) nv hzl ?_;intro was V1 hi1 hb1;obtain ⟨q0,q1,q2⟩:=B2.out (V1.alloc (ke #[] 61)) (quJN hb1 (qUNz V1 _)))
  | (at_builtin;refine XFzh rfl _ _ rfl V1 (.slice qo ps.length qc) ps rfl rfl (HIQ.out V1 (HWU.out V1 hb1)) nq hpl ?_;intro pxs V2 hi2 hb2;have hbb:=quJN hb1 hb2;have g0:=B0.out V2 hbb;obtain ⟨t0,t1,t2⟩:=B1.out V2 hbb)
  | refine wpList_load_row rfl 51 _ rfl _ rfl _ _ _ _ g0 Tryz.underlying51 rfl hi21 ?_)
 have HWAS:=hide (hi1.below hb2 (kk _))
 have HPXS:=hide hi2
 obtain ⟨po,pc,rfl,_,_⟩:=hi2
 have HBB:=hide hbb
 clear hi1 hb1 hb2 hbb p0 p1 p2 q0 q1 q2 t0 t1 t2 g0 nv nq hzl hpl HIV HIQ
 generalize V2=K at *
 have HWK:=hide (fun (V:World) (h:Below K.heap.size K V)=>HWU.out V (quJN HBB.out h))
 have K0:=hide (fun (V:World) (h:Below K.heap.size K V)=>B0.out V (quJN HBB.out h))
 have K1:=hide (fun (V:World) (h:Below K.heap.size K V)=>B1.out V (quJN HBB.out h))
 have K2:=hide (fun (V:World) (h:Below K.heap.size K V)=>B2.out V (quJN HBB.out h))
 have K3:=hide (fun (V:World) (h:Below K.heap.size K V)=>B3.out V (quJN HBB.out h))
 clear B0 B1 B2 B3 HWU HB HBB
 refine (HST.out K (HWK.out K (Below.refl _ _))).mono ?_
 rintro e Va ⟨raa,rfl,hra,hb,hfa,hea⟩
 generalize hEE:XSDS n W H zs rows=SE at *
 obtain ⟨roa,rca,rfl,hxxa,_⟩:=id hra
 have HLP:=hide (LP.start (X:=.int .i64 (okW SE W)) (Y:=.int .i64 (okW SE H)) (Below.refl _ _) hb hra hfa hea)
 obtain ⟨Na,hN⟩:∃N,(okL SE (X1qP n W H zs rows)).length=N:=⟨_,rfl⟩
 rw[hN] at HLP hxxa ⊢
 have HSE:=hide hEE
 clear hEE hN hra hfa hea hb
 go_wp2_with fail
 generalize Va.alloc (ke #[.int .i64 (okW SE W),.int .i64 (okW SE H),.slice roa Na rca] 24)=Ua at *
 obtain ⟨ABa,hAB⟩:∃AB,Va.heap.size=AB:=⟨_,rfl⟩
 rw[hAB] at HLP ⊢
 clear hAB
 go_loopw [15] (fun i wr=>∃k:Nat,k≤Na∧i=.int .i64 k∧LP K ABa (.int .i64 (okW SE W)) (.int .i64 (okW SE H)) roa Na rca wr) (fun i _=>Na-(intOf i).toNat)
 case atStart=>exact ⟨0,kn _,rfl,HLP.out⟩
 case round =>
  clear HLP
  obtain ⟨ka,hk,rfl,hL⟩:=hrel
  obtain ⟨c0,c1,c2⟩:=z5EY hL.1
  by_cases hlt:ka<Na
  ·have hd:decide ((ka:Int)<(Na:Int))=true:=decide_eq_true (by omega)
   obtain ⟨g,off,rfl,hg1,hg2,hrow⟩:=hL.2.1.resolve_left (by omega)
   have HL:=hide hL
   clear hL
   go_wp2_with (refine zlQb rfl 61 _ _ rfl g (off+ka*3) (off+Na*3) #[.int .i64 (-1),.int .i64 0,.int .i64 0] rfl rfl hrow (by kernel_rfl) (by simp;omega) (by kernel_rfl) ?_;intro cs hcs)
   go_roundw
   case rel=>exact ⟨ka+1,by omega,by go_num,HL.out.set (by omega) hcs⟩
   case measure=>simp[intOf];omega
  have hd:decide ((ka:Int)<(Na:Int))=false:=decide_eq_false (by omega)
  obtain rfl:ka=Na:=by omega
  have HKa:=hide hL.2.2
  have hc2:=c2
  clear hL c0 c1 hk hlt
  obtain ⟨q0,q1,q2⟩:=K2.out wr HKa.out
  go_wp2_with fail
  clear q0 q1 q2 hc2 c2
  generalize wr=Wa at *
  refine (HTU.out Wa (HWK.out Wa HKa.out)).mono ?_
  rintro e Vb ⟨rab,rfl,hra,hb,hfa,hea⟩
  generalize hEE:turnE QW QH ps 1=TE at *
  obtain ⟨rob,rcb,rfl,hxxb,_⟩:=id hra
  have HLP:=hide (LP.start (X:=.int .i64 (okW TE (qPp5 (mvOf 1) QW QH))) (Y:=.int .i64 (okW TE (qPp5 (mvOf 1) QH QW))) HKa.out hb hra hfa hea)
  obtain ⟨Nb,hN⟩:∃N,(okL TE (turnL QW.toNat QH.toNat ps (mvOf 1))).length=N:=⟨_,rfl⟩
  rw[hN] at HLP hxxb ⊢
  have HTE:=hide hEE
  clear hEE hN hra hfa hea hb
  go_wp2_with fail
  generalize Vb.alloc (ke #[.int .i64 (okW TE (qPp5 (mvOf 1) QW QH)),.int .i64 (okW TE (qPp5 (mvOf 1) QH QW)),.slice rob Nb rcb] 24)=Ub at *
  obtain ⟨ABb,hAB⟩:∃AB,Vb.heap.size=AB:=⟨_,rfl⟩
  rw[hAB] at HLP ⊢
  clear hAB
  go_loopw [18] (fun i wr=>∃k:Nat,k≤Nb∧i=.int .i64 k∧LP K ABb (.int .i64 (okW TE (qPp5 (mvOf 1) QW QH))) (.int .i64 (okW TE (qPp5 (mvOf 1) QH QW))) rob Nb rcb wr) (fun i _=>Nb-(intOf i).toNat)
  case atStart=>exact ⟨0,kn _,rfl,HLP.out⟩
  case round =>
   clear HLP
   obtain ⟨kb,hk,rfl,hL⟩:=hrel
   obtain ⟨c0,c1,c2⟩:=z5EY hL.1
   by_cases hlt:kb<Nb
   ·have hd:decide ((kb:Int)<(Nb:Int))=true:=decide_eq_true (by omega)
    obtain ⟨g,off,rfl,hg1,hg2,hrow⟩:=hL.2.1.resolve_left (by omega)
    have HL:=hide hL
    clear hL
    go_wp2_with (refine zlQb rfl 61 _ _ rfl g (off+kb*3) (off+Nb*3) #[.int .i64 0,.int .i64 (-1),.int .i64 0] rfl rfl hrow (by kernel_rfl) (by simp;omega) (by kernel_rfl) ?_;intro cs hcs)
    go_roundw
    case rel=>exact ⟨kb+1,by omega,by go_num,HL.out.set (by omega) hcs⟩
    case measure=>simp[intOf];omega
   have hd:decide ((kb:Int)<(Nb:Int))=false:=decide_eq_false (by omega)
   obtain rfl:kb=Nb:=by omega
   have HKb:=hide hL.2.2
   have hc2:=c2
   clear hL c0 c1 hk hlt
   have g3:=K3.out wr HKb.out
   obtain ⟨t0,t1,t2⟩:=K1.out wr HKb.out
   go_wp2_with (refine wpList_load_row rfl 57 _ rfl _ rfl _ _ _ _ g3 Tryz.underlying57 rfl hi28 ?_)
   clear t0 t1 t2 g3 hc2 c2
   generalize wr=Wb at *
   refine (HFI.out Wb (HWK.out Wb HKb.out)).mono ?_
   rintro e V5 ⟨hb1,hc⟩
   replace hc:=zQam hc
   generalize XQ5R r W H zs=FE at *
   obtain ⟨FQ,hFQ⟩:∃FQ,(if FE=0 then qtvI r zs else noneQ)=FQ:=⟨_,rfl⟩
   have HFQ:=hide hFQ
   rw[hFQ] at hc
   clear hFQ
   obtain ⟨lu,tu,suu,cuu,rfl,hI,f1,f4,e1,e4⟩:=hc
   obtain ⟨lo,lc,rfl,hxl,_⟩:=id hI.lens
   obtain ⟨ko,kc,rfl,hxk,_⟩:=id hI.plan.curve
   obtain ⟨RX,hRX⟩:∃RX,rawA FQ (.slice lo FQ.lens.length lc) tu suu (.slice ko FQ.plan.curve.length kc)=RX:=⟨_,rfl⟩
   have iRX:(Tryz.prog.info? 57).map (·.size)=some RX.size:=by rw[←hRX];kernel_rfl
   have jRX:(rawZ:Array Value).size=RX.size:=by rw[←hRX];rfl
   have oRX:RX.all (·.oneCell')=true:=by rw[←hRX];exact XIRQ hI
   have zRX:=al1 V5 (ke rawZ 57)
   have HCC:=hide (show ∀(V:World) (b:Nat),V.heap[b]?=some (.cells RX 57 (0,0))→V.cell? ⟨b,5,none⟩=some (.slice lo FQ.lens.length lc)∧V.cell? ⟨b,26,none⟩=some (.slice ko FQ.plan.curve.length kc) from fun V b h=>by
    rw[←hRX] at h
    obtain ⟨_,_,_,_,_,s5,_,_,s26⟩:=zUTj h
    exact ⟨s5,s26⟩)
   have HLR:=hide (LR.start (RX:=RX) HKb.out hb1 hI.lens hI.plan.curve f1 f4 e1 e4)
   rw[hRX]
   obtain ⟨NL,hNL⟩:∃NL,FQ.lens.length=NL:=⟨_,rfl⟩
   obtain ⟨NC,hNC⟩:∃NC,FQ.plan.curve.length=NC:=⟨_,rfl⟩
   rw[hNL] at HLR HCC hxl
   rw[hNC] at HLR HCC hxk
   clear hRX hI f1 f4 e1 e4 hb1 hNL hNC
   go_upto_region 14 with (refine wpList_store_row rfl 57 _ _ rfl V5.heap.size RX rfl rfl _ _ zRX iRX jRX oRX ?_)
   clear zRX iRX jRX oRX
   generalize (V5.alloc (ke rawZ 57)).setRow V5.heap.size RX=U5 at *
   obtain ⟨CB,hCB⟩:∃CB,V5.heap.size=CB:=⟨_,rfl⟩
   rw[hCB] at HLR ⊢
   clear hCB
   go_wp2_with fail
   go_loopw [21] (fun i wr=>∃k:Nat,k≤NL∧i=.int .i64 k∧LR K CB RX lo NL ko NC wr) (fun i _=>NL-(intOf i).toNat)
   case atStart=>exact ⟨0,kn _,rfl,HLR.out⟩
   case round =>
    clear HLR
    obtain ⟨kl,hk,rfl,hL⟩:=hrel
    obtain ⟨c5,c26⟩:=HCC.out _ _ hL.1
    by_cases hlt:kl<NL
    ·have hd:decide ((kl:Int)<(NL:Int))=true:=decide_eq_true (by omega)
     obtain ⟨g,off,rfl,hg1,hg2,hrow⟩:=hL.2.1.resolve_left (by omega)
     obtain ⟨xx,hxx,hff⟩:=hrow.get (j:=off+kl) (by omega)
     have HL:=hide (hL.put hg2 hg1 (off+kl) (.int .i64 (-1)) hrow)
     clear hL
     go_wp2
     go_roundw
     case rel=>exact ⟨kl+1,by omega,by go_num,HL.out⟩
     case measure=>simp[intOf];omega
    have hd:decide ((kl:Int)<(NL:Int))=false:=decide_eq_false (by omega)
    obtain rfl:kl=NL:=by omega
    have HLR:=hide hL
    clear hL hk hlt
    go_wp2_with fail
    clear c5 c26
    go_loopw [22] (fun i wr=>∃k:Nat,k≤NC∧i=.int .i64 k∧LR K CB RX lo kl ko NC wr) (fun i _=>NC-(intOf i).toNat)
    case atStart=>exact ⟨0,kn _,rfl,HLR.out⟩
    case round =>
     clear HLR hd
     obtain ⟨kc',hk,rfl,hL⟩:=hrel
     obtain ⟨c5,c26⟩:=HCC.out _ _ hL.1
     by_cases hlt:kc'<NC
     ·have hd:decide ((kc':Int)<(NC:Int))=true:=decide_eq_true (by omega)
      obtain ⟨g,off,rfl,hg1,hg2,hrow⟩:=hL.2.2.1.resolve_left (by omega)
      have HL:=hide hL
      clear hL
      go_wp2_with (refine zlQb rfl 66 _ _ rfl g (off+kc'*2) (off+NC*2) #[.int .i64 (-1),.int .i64 0] rfl rfl hrow (by kernel_rfl) (by simp;omega) (by kernel_rfl) ?_;intro cs hcs)
      go_roundw
      case rel=>exact ⟨kc'+1,by omega,by go_num,HL.out.set hg2 hg1 hcs⟩
      case measure=>simp[intOf];omega
     have hd:decide ((kc':Int)<(NC:Int))=false:=decide_eq_false (by omega)
     obtain rfl:kc'=NC:=by omega
     have HKc:=hide hL.2.2.2
     clear hL hk hlt HCC
     obtain ⟨t0,t1,t2⟩:=K1.out wr HKc.out
     go_wp2_with fail
     clear t0 t1 t2 c5 c26
     generalize wr=Wc at *
     refine (HMO.out Wc (HWK.out Wc HKc.out)).mono ?_
     rintro e Vd ⟨rad,rfl,hra,hb,hfa,hea⟩
     generalize hEE:fillE W H zs 0=ME at *
     obtain ⟨rod,rcd,rfl,hxxd,_⟩:=id hra
     have HLP:=hide (LP.start (X:=.int .i64 (okW ME W)) (Y:=.int .i64 (okW ME H)) HKc.out hb hra hfa hea)
     obtain ⟨Nd,hN⟩:∃N,(okL ME (fillL W H zs 0)).length=N:=⟨_,rfl⟩
     rw[hN] at HLP hxxd ⊢
     have HME:=hide hEE
     clear hEE hN hra hfa hea hb
     go_wp2_with fail
     generalize Vd.alloc (ke #[.int .i64 (okW ME W),.int .i64 (okW ME H),.slice rod Nd rcd] 24)=Ud at *
     obtain ⟨ABd,hAB⟩:∃AB,Vd.heap.size=AB:=⟨_,rfl⟩
     rw[hAB] at HLP ⊢
     clear hAB
     go_loopw [25] (fun i wr=>∃k:Nat,k≤Nd∧i=.int .i64 k∧LP K ABd (.int .i64 (okW ME W)) (.int .i64 (okW ME H)) rod Nd rcd wr) (fun i _=>Nd-(intOf i).toNat)
     case atStart=>exact ⟨0,kn _,rfl,HLP.out⟩
     case round =>
      clear HLP
      obtain ⟨kd,hk,rfl,hL⟩:=hrel
      obtain ⟨c0,c1,c2⟩:=z5EY hL.1
      by_cases hlt:kd<Nd
      ·have hd:decide ((kd:Int)<(Nd:Int))=true:=decide_eq_true (by omega)
       obtain ⟨g,off,rfl,hg1,hg2,hrow⟩:=hL.2.1.resolve_left (by omega)
       have HL:=hide hL
       clear hL
       go_wp2_with (refine zlQb rfl 61 _ _ rfl g (off+kd*3) (off+Nd*3) #[.int .i64 0,.int .i64 0,.int .i64 (-1)] rfl rfl hrow (by kernel_rfl) (by simp;omega) (by kernel_rfl) ?_;intro cs hcs)
       go_roundw
       case rel=>exact ⟨kd+1,by omega,by go_num,HL.out.set (by omega) hcs⟩
       case measure=>simp[intOf];omega
      have hd:decide ((kd:Int)<(Nd:Int))=false:=decide_eq_false (by omega)
      obtain rfl:kd=Nd:=by omega
      have HKd:=hide hL.2.2
      have hc2:=c2
      clear hL c0 c1 hk hlt
      have g0:=K0.out wr HKd.out
      obtain ⟨t0,t1,t2⟩:=K1.out wr HKd.out
      go_wp2_with (refine wpList_load_row rfl 51 _ rfl _ rfl _ _ _ _ g0 Tryz.underlying51 rfl hi21 ?_)
      clear t0 t1 t2 g0 hc2 c2
      generalize wr=Wd at *
      refine (HST.out Wd (HWK.out Wd HKd.out)).mono ?_
      rintro e V6 ⟨rx,rfl,hrx,hb6,_,_⟩
      have HX:=hide hrx
      obtain ⟨xo,xc,rfl,_,_⟩:=hrx
      obtain ⟨NX,hNX⟩:∃NX,(okL SE (X1qP n W H zs rows)).length=NX:=⟨_,rfl⟩
      rw[hNX] at HX ⊢
      clear hNX
      have x1:=al1 V6 (ke #[.int .i64 (okW SE W),.int .i64 (okW SE H),.slice xo NX xc] 24)
      have HX7:=hide (HX.out.alloc (ke #[.int .i64 (okW SE W),.int .i64 (okW SE H),.slice xo NX xc] 24))
      have HK7:=hide (quJN (quJN HKd.out hb6) (qUNz V6 (ke #[.int .i64 (okW SE W),.int .i64 (okW SE H),.slice xo NX xc] 24)))
      have lx:=(kg.1 x1).1
      clear hb6 HX
      obtain ⟨q0,q1,q2⟩:=K2.out _ HK7.out
      go_wp2_with fail
      clear q0 q1 q2
      generalize V6.alloc (ke #[.int .i64 (okW SE W),.int .i64 (okW SE H),.slice xo NX xc] 24)=U7 at *
      generalize V6.heap.size=XB at *
      refine (HTU.out U7 (HWK.out U7 HK7.out)).mono ?_
      rintro e V7 ⟨ry,rfl,hry,hb7,_,_⟩
      have HY:=hide hry
      obtain ⟨yo,yc,rfl,_,_⟩:=hry
      obtain ⟨NY,hNY⟩:∃NY,(okL TE (turnL QW.toNat QH.toNat ps (mvOf 1))).length=NY:=⟨_,rfl⟩
      rw[hNY] at HY ⊢
      clear hNY
      have y1:=al1 V7 (ke #[.int .i64 (okW TE (qPp5 (mvOf 1) QW QH)),.int .i64 (okW TE (qPp5 (mvOf 1) QH QW)),.slice yo NY yc] 24)
      have hb8:=quJN hb7 (qUNz V7 (ke #[.int .i64 (okW TE (qPp5 (mvOf 1) QW QH)),.int .i64 (okW TE (qPp5 (mvOf 1) QH QW)),.slice yo NY yc] 24))
      have HY8:=hide (HY.out.alloc (ke #[.int .i64 (okW TE (qPp5 (mvOf 1) QW QH)),.int .i64 (okW TE (qPp5 (mvOf 1) QH QW)),.slice yo NY yc] 24))
      have HX8:=hide (HX7.out.below hb8 (kk _))
      have HK8:=hide (quJN HK7.out hb8)
      have x8:=(hb8.block _ lx).trans x1
      have ly:=(kg.1 y1).1
      have lx8:=(kg.1 x8).1
      clear hb7 hb8 HY HX7 x1 lx HK7
      have g3:=K3.out _ HK8.out
      obtain ⟨t0,t1,t2⟩:=K1.out _ HK8.out
      go_wp2_with (refine wpList_load_row rfl 57 _ rfl _ rfl _ _ _ _ g3 Tryz.underlying57 rfl hi28 ?_)
      clear t0 t1 t2 g3
      generalize V7.alloc (ke #[.int .i64 (okW TE (qPp5 (mvOf 1) QW QH)),.int .i64 (okW TE (qPp5 (mvOf 1) QH QW)),.slice yo NY yc] 24)=U8 at *
      generalize V7.heap.size=YB at *
      refine (HFI.out U8 (HWK.out U8 HK8.out)).mono ?_
      rintro e V9 ⟨hb9,hc⟩
      replace hc:=zQam hc
      rw[HFQ.out] at hc
      obtain ⟨lz',tz',sz',cz',rfl,hIz,_⟩:=hc
      obtain ⟨RZ,hRZ⟩:∃RZ,rawA FQ lz' tz' sz' cz'=RZ:=⟨_,rfl⟩
      have iRZ:(Tryz.prog.info? 57).map (·.size)=some RZ.size:=by rw[←hRZ];kernel_rfl
      have jRZ:(rawZ:Array Value).size=RZ.size:=by rw[←hRZ];rfl
      have oRZ:RZ.all (·.oneCell')=true:=by rw[←hRZ];exact XIRQ hIz
      have zRZ:=al1 V9 (ke rawZ 57)
      have cRZ:=setRow_heap _ _ _ RZ _ _ zRZ
      have XRZ:=below_setRow (g:=V9.heap.size) (qUNz V9 (ke rawZ 57)) (kk _) RZ
      have hb10:=quJN hb9 XRZ
      have HZ10:=hide (hIz.below XRZ (kk _))
      have HX10:=hide (HX8.out.below hb10 (kk _))
      have HY10:=hide (HY8.out.below hb10 (kk _))
      have HK10:=hide (quJN HK8.out hb10)
      have x10:=(hb10.block _ lx8).trans x8
      have y10:=(hb10.block _ ly).trans y1
      have HRZ:=hide hRZ
      rw[hRZ]
      clear hRZ hIz hb9 hb10 XRZ HX8 HY8 x8 y1 lx8 ly HK8
      go_upto_region 30 with (refine wpList_store_row rfl 57 _ _ rfl V9.heap.size RZ rfl rfl _ _ zRZ iRZ jRZ oRZ ?_)
      clear zRZ jRZ oRZ
      generalize (V9.alloc (ke rawZ 57)).setRow V9.heap.size RZ=U10 at *
      generalize V9.heap.size=ZB at *
      have lx:=(kg.1 x10).1
      have ly:=(kg.1 y10).1
      have lz:=(kg.1 cRZ).1
      have g3:=K3.out _ HK10.out
      obtain ⟨t0,t1,t2⟩:=K1.out _ HK10.out
      go_wp2_with (refine wpList_load_row rfl 57 _ rfl _ rfl _ _ _ _ g3 Tryz.underlying57 rfl hi28 ?_)
      clear t0 t1 t2 g3
      refine (HRF.out U10 (HWK.out U10 HK10.out)).mono ?_
      rintro e V11 ⟨hb11,hc⟩
      replace hc:=XjSk hc
      rw[HFQ.out] at hc
      obtain ⟨lw',tw',sw',cw',rfl,hIw⟩:=hc
      obtain ⟨RW,hRW⟩:∃RW,rawA FQ lw' tw' sw' cw'=RW:=⟨_,rfl⟩
      have iRW:(Tryz.prog.info? 57).map (·.size)=some RW.size:=by rw[←hRW];kernel_rfl
      have jRW:(rawZ:Array Value).size=RW.size:=by rw[←hRW];rfl
      have oRW:RW.all (·.oneCell')=true:=by rw[←hRW];exact XIRQ hIw
      have zRW:=al1 V11 (ke rawZ 57)
      have cRW:=setRow_heap _ _ _ RW _ _ zRW
      have XRW:=below_setRow (g:=V11.heap.size) (qUNz V11 (ke rawZ 57)) (kk _) RW
      have hb12:=quJN hb11 XRW
      have HW12:=hide (hIw.below XRW (kk _))
      have HZ12:=hide (HZ10.out.below hb12 (kk _))
      have HX12:=hide (HX10.out.below hb12 (kk _))
      have HY12:=hide (HY10.out.below hb12 (kk _))
      have HK12:=hide (quJN HK10.out hb12)
      have x12:=(hb12.block _ lx).trans x10
      have y12:=(hb12.block _ ly).trans y10
      have z12:=(hb12.block _ lz).trans cRZ
      have HRW:=hide hRW
      rw[hRW]
      clear hRW hIw hb11 hb12 XRW HX10 HY10 HZ10 x10 y10 cRZ lx ly lz HK10
      go_upto_region 31 with (refine wpList_store_row rfl 57 _ _ rfl V11.heap.size RW rfl rfl _ _ zRW iRW jRW oRW ?_)
      clear zRW jRW oRW
      generalize (V11.alloc (ke rawZ 57)).setRow V11.heap.size RW=U12 at *
      generalize V11.heap.size=WB at *
      have lx:=(kg.1 x12).1
      have ly:=(kg.1 y12).1
      have lz:=(kg.1 z12).1
      have lw:=(kg.1 cRW).1
      have n1:(SE != SE)=false:=by simp
      have n2:(TE != TE)=false:=by simp
      have n3:(FE != FE)=false:=by simp
      obtain ⟨t0,t1,t2⟩:=K1.out _ HK12.out
      go_wp2_with fail
      clear t0 t1 t2
      refine (HSI.out was U12 (HWK.out U12 HK12.out) (HWAS.out.below HK12.out (kk _))).mono ?_
      rintro e V13 ⟨rfl,hb13⟩
      first|rw[show decide (zs=zs)=true by simp]|rw[show decide True=true by simp]
      have HK13:=hide (quJN HK12.out hb13)
      obtain ⟨q0,q1,q2⟩:=K2.out _ HK13.out
      go_wp2_with fail
      clear q0 q1 q2
      refine (HSP.out _ V13 (HWK.out V13 HK13.out) (HPXS.out.below HK13.out (kk _))).mono ?_
      rintro e V14 ⟨rfl,hb14⟩
      rw[show sameB 0 0 ps 0 0 ps=true by simp[sameB]]
      have hbE:=quJN hb13 hb14
      have HK14:=hide (quJN HK12.out hbE)
      have d1:=(hbE.block _ lz).trans z12
      have d2:=(hbE.block _ lw).trans cRW
      have HSR:=hide (j0zH FQ lz' tz' sz' cz' lw' tw' sw' cw' V14 (HZ12.out.below hbE (kk _)) (HW12.out.below hbE (kk _)))
      rw[HRZ.out,HRW.out] at HSR
      go_wp2_with (first|refine ztDq (by rfl) 57 _ rfl _ rfl _ _ _ _ d1 Tryz.underlying57 rfl iRZ ?_|refine ztDq (by rfl) 57 _ rfl _ rfl _ _ _ _ d2 Tryz.underlying57 rfl iRW ?_)
      refine (HSR.out).mono ?_
      rintro e V15 ⟨rfl,hb15⟩
      have hbF:=quJN hbE hb15
      have HK15:=hide (quJN HK12.out hbF)
      have x15:=(hbF.block _ lx).trans x12
      have y15:=(hbF.block _ ly).trans y12
      have HX15:=hide (HX12.out.below hbF (kk _))
      have HY15:=hide (HY12.out.below hbF (kk _))
      have mx:=(kg.1 x15).1
      have my:=(kg.1 y15).1
      have HMP:=hide (show (ME == 0)=q0fM W H zs by rw[←HME.out];exact qSHZ W H zs)
      clear hb13 hb14 hb15 hbE hbF HK12 HK13 HK14 d1 d2 HSR HX12 HY12 HZ12 HW12 x12 y12 z12 cRW lx ly lz lw iRZ iRW HRZ HRW HSI HSP HST HTU HFI HMO HRF HWAS HPXS K3 HME
      go_upto_region 33 with fail
      have hWd:Below V15.heap.size V15 V15.drew:=(Below.refl _ _).drew
      by_cases hS0:SE=0
      ·obtain ⟨hdv,hsl⟩:=XJXv (HSE.out.trans hS0)
       subst hS0
       rw[show okL 0 (X1qP n W H zs rows)=X1qP n W H zs rows from rfl,hsl] at HX15
       rw[show okW 0 W=W from rfl,show okW 0 H=H from rfl] at x15
       have HWX:=hide (fun (u:World) (hu:Below w.heap.size w u)=>HWH.out u hu hdv)
       generalize dev7 n W H zs=DD at *
       clear hdv hsl HWH
       by_cases hT0:TE=0
       ·obtain ⟨tw1,tw2,tl⟩:=jO2R (HTE.out.trans hT0)
        subst hT0
        rw[show okL 0 (turnL QW.toNat QH.toNat ps (mvOf 1))=turnL QW.toNat QH.toNat ps (mvOf 1) from rfl,tl] at HY15
        rw[tw1,tw2,show okW 0 QW=QW from rfl,show okW 0 QH=QH from rfl] at y15
        clear tw1 tw2 tl
        have HS:=hide (show ∀v,Below V15.heap.size V15 v→v.heap[w.heap.size]?=some (.cells PA 51 (0,0))∧v.cell? ⟨XB,0,none⟩=some (.int .i64 W)∧v.cell? ⟨XB,1,none⟩=some (.int .i64 H)∧v.cell? ⟨XB,2,none⟩=some (.slice xo NX xc)∧v.cell? ⟨w.heap.size+1,0,none⟩=some (.int .i64 W)∧v.cell? ⟨w.heap.size+1,1,none⟩=some (.int .i64 H)∧v.cell? ⟨w.heap.size+1,2,none⟩=some (.slice vo zs.length vc)∧v.cell? ⟨YB,0,none⟩=some (.int .i64 QW)∧v.cell? ⟨YB,1,none⟩=some (.int .i64 QH)∧v.cell? ⟨YB,2,none⟩=some (.slice yo NY yc)∧v.cell? ⟨w.heap.size+1+1,0,none⟩=some (.int .i64 QW)∧v.cell? ⟨w.heap.size+1+1,1,none⟩=some (.int .i64 QH)∧v.cell? ⟨w.heap.size+1+1,2,none⟩=some (.slice qo ps.length qc) from fun v h=>by
         have hK:=quJN HK15.out h
         obtain ⟨c0,c1,c2⟩:=z5EY ((h.block _ mx).trans x15)
         obtain ⟨d0,d1,d2⟩:=z5EY ((h.block _ my).trans y15)
         obtain ⟨t0,t1,t2⟩:=K1.out v hK
         obtain ⟨q0,q1,q2⟩:=K2.out v hK
         exact ⟨K0.out v hK,c0,c1,c2,t0,t1,t2,d0,d1,d2,q0,q1,q2⟩)
        have hSd:=HS.out _ hWd
        have hmx:Tryz.prog.follows .mixedOrders=true:=by kernel_rfl
        refine qYgd (S:=fun v:World=>v.heap[w.heap.size]?=some (.cells PA 51 (0,0))∧v.cell? ⟨XB,0,none⟩=some (.int .i64 W)∧v.cell? ⟨XB,1,none⟩=some (.int .i64 H)∧v.cell? ⟨XB,2,none⟩=some (.slice xo NX xc)∧v.cell? ⟨w.heap.size+1,0,none⟩=some (.int .i64 W)∧v.cell? ⟨w.heap.size+1,1,none⟩=some (.int .i64 H)∧v.cell? ⟨w.heap.size+1,2,none⟩=some (.slice vo zs.length vc)∧v.cell? ⟨YB,0,none⟩=some (.int .i64 QW)∧v.cell? ⟨YB,1,none⟩=some (.int .i64 QH)∧v.cell? ⟨YB,2,none⟩=some (.slice yo NY yc)∧v.cell? ⟨w.heap.size+1+1,0,none⟩=some (.int .i64 QW)∧v.cell? ⟨w.heap.size+1+1,1,none⟩=some (.int .i64 QH)∧v.cell? ⟨w.heap.size+1+1,2,none⟩=some (.slice qo ps.length qc)) (f:=19) hmx ?_
        show jZdv _ _ _ _ _ _ 20 _ _ V15.drew
        refine takeQ 0 ?vv1 (some 190) [10,9,2,1] ?yy1 hSd ?rr1
        case yy1=>(intro wq hSq;obtain ⟨hq1,_,_,_,_,_,_,_,_,_,_,_,_⟩:=hSq;go_simp<;>with_reducible rfl)
        simp only[kj,kf,ki,kh]
        refine takeQ 1 ?vv2 (some 191) [10,9,2] ?yy2 hSd ?rr2
        case yy2=>(intro wq hSq;obtain ⟨hq1,_,_,_,_,_,_,_,_,_,_,_,_⟩:=hSq;go_simp<;>with_reducible rfl)
        simp only[kj,kf,ki,kh]
        refine takeQ 2 ?vv3 (some 192) [10,9] ?yy3 hSd ?rr3
        case yy3=>(intro wq hSq;obtain ⟨hq1,_,_,_,_,_,_,_,_,_,_,_,_⟩:=hSq;go_simp<;>with_reducible rfl)
        simp only[kj,kf,ki,kh]
        refine takeQ 3 ?vv4 (some 193) [10,7] ?yy4 hSd ?rr4
        case yy4=>(intro wq hSq;obtain ⟨hq1,_,_,_,_,_,_,_,_,_,_,_,_⟩:=hSq;go_simp<;>with_reducible rfl)
        simp only[kj,kf,ki,kh]
        refine XmaW (i:=4) (oi:=_) (v:=.agg PA) (some 194) [10,7,6] rfl rfl (by kernel_rfl) (by kernel_rfl) (by kernel_rfl) (by kernel_rfl) (by kernel_rfl) (fun _ _ _ h=>h) (Or.inl ⟨by rfl,?yy5⟩) hSd ?rr5
        case yy5=>(intro wq hSq;obtain ⟨hq1,_,_,_,_,_,_,_,_,_,_,_,_⟩:=hSq;exact qLIM 51 _ rfl _ rfl _ _ _ _ hq1 Tryz.underlying51 rfl hi21)
        simp only[kj,kf,ki,kh]
        refine takeQ 5 ?vv6 (some 195) [10,7,6] ?yy6 hSd ?rr6
        case yy6=>(intro wq hSq;obtain ⟨hq1,_,_,_,_,_,_,_,_,_,_,_,_⟩:=hSq;go_simp<;>with_reducible rfl)
        simp only[kj,kf,ki,kh]
        refine znWj (i:=6) (o:=_) (by kernel_rfl) rfl (fun K' hK=>?_)
        rw[if_pos (by rfl)]
        go_simp
        refine (HWX.out _ (HWK.out _ (quJN HK15.out hWd))).mono ?_
        rintro e VA ⟨wv,rfl,hwv,hbA,_⟩
        have hBA:Below V15.heap.size V15 VA:=hWd.trans (hbA.mono hWd.size)
        have HWV:=hide hwv
        obtain ⟨wo,wc,rfl,_,_⟩:=hwv
        have hSd:=HS.out _ hBA
        refine hK.out _ _ hSd ?_
        clear hK
        try simp only[kj]
        refine znWj (i:=7) (o:=_) (by kernel_rfl) rfl (fun K' hK=>?_)
        rw[if_pos (by rfl)]
        go_simp
        refine (XIqO W H _ DD W H _ DD _ (HX15.out.below hBA (kk _)) HWV.out).mono ?_
        rintro e VB ⟨rfl,hbB⟩
        rw[show sameB W H DD W H DD=true by simp[sameB]]
        have hBB:Below V15.heap.size V15 VB:=hBA.trans (hbB.mono hBA.size)
        have hSd:=HS.out _ hBB
        refine hK.out _ _ hSd ?_
        clear hK
        try simp only[kj]
        refine takeQ 8 ?vv7 (some 198) [10,9] ?yy7 hSd ?rr7
        case yy7=>(intro wq hSq;obtain ⟨hq1,_,_,_,_,_,_,_,_,_,_,_,_⟩:=hSq;go_simp<;>with_reducible rfl)
        simp only[kj,kf,ki,kh]
        refine takeQ 9 ?vv8 (some 199) [10] ?yy8 hSd ?rr8
        case yy8=>(intro wq hSq;obtain ⟨hq1,_,_,_,_,_,_,_,_,_,_,_,_⟩:=hSq;go_simp<;>with_reducible rfl)
        simp only[kj,kf,ki,kh]
        refine takeQ 10 ?vv9 (some 200) [] ?yy9 hSd ?rr9
        case yy9=>(intro wq hSq;obtain ⟨hq1,_,_,_,_,_,_,_,_,_,_,_,_⟩:=hSq;go_simp<;>with_reducible rfl)
        simp only[kj,kf,ki,kh]
        refine takeQ 11 ?vv10 (some 201) [18,13,12] ?yy10 hSd ?rr10
        case yy10=>(intro wq hSq;obtain ⟨hq1,_,_,_,_,_,_,_,_,_,_,_,_⟩:=hSq;go_simp<;>with_reducible rfl)
        simp only[kj,kf,ki,kh]
        refine takeQ 12 ?vv11 (some 202) [18,13] ?yy11 hSd ?rr11
        case yy11=>(intro wq hSq;obtain ⟨hq1,_,_,_,_,_,_,_,_,_,_,_,_⟩:=hSq;go_simp<;>with_reducible rfl)
        simp only[kj,kf,ki,kh]
        refine takeQ 13 ?vv12 (some 203) [18] ?yy12 hSd ?rr12
        case yy12=>(intro wq hSq;obtain ⟨hq1,_,_,_,_,_,_,_,_,_,_,_,_⟩:=hSq;go_simp<;>with_reducible rfl)
        simp only[kj,kf,ki,kh]
        refine takeQ 14 ?vv13 (some 204) [18,17,16] ?yy13 hSd ?rr13
        case yy13=>(intro wq hSq;obtain ⟨hq1,_,_,_,_,_,_,_,_,_,_,_,_⟩:=hSq;go_simp<;>with_reducible rfl)
        simp only[kj,kf,ki,kh]
        refine takeQ 15 ?vv14 (some 205) [18,17,16] ?yy14 hSd ?rr14
        case yy14=>(intro wq hSq;obtain ⟨hq1,_,_,_,_,_,_,_,_,_,_,_,_⟩:=hSq;go_simp<;>with_reducible rfl)
        simp only[kj,kf,ki,kh]
        refine znWj (i:=16) (o:=_) (by kernel_rfl) rfl (fun K' hK=>?_)
        rw[if_pos (by rfl)]
        go_simp
        refine (HSQ.out _ _ (HWK.out _ (quJN HK15.out hBB)) (HY15.out.below hBB (kk _))).mono ?_
        rintro e VC ⟨rfl,hbC⟩
        rw[show sameB QW QH ps QW QH ps=true by simp[sameB]]
        have hBC:Below V15.heap.size V15 VC:=hBB.trans (hbC.mono hBB.size)
        have hSd:=HS.out _ hBC
        refine hK.out _ _ hSd ?_
        clear hK
        try simp only[kj]
        refine takeQ 17 ?vv15 (some 207) [18] ?yy15 hSd ?rr15
        case yy15=>(intro wq hSq;obtain ⟨hq1,_,_,_,_,_,_,_,_,_,_,_,_⟩:=hSq;go_simp<;>with_reducible rfl)
        simp only[kj,kf,ki,kh]
        refine takeQ 18 ?vv16 (some 208) [] ?yy16 hSd ?rr16
        case yy16=>(intro wq hSq;obtain ⟨hq1,_,_,_,_,_,_,_,_,_,_,_,_⟩:=hSq;go_simp<;>with_reducible rfl)
        simp only[kj,kf,ki,kh]
        refine z9gO (o:=_) (by kernel_rfl) rfl (fun K' hK=>?_)
        rw[if_pos (by rfl)]
        go_simp
        refine hK.out _ _ ?_
        clear hK
        refine jFdp (by kernel_rfl) ?_ _
        try simp only[kj]
        have HKE:=hide (quJN HK15.out hBC)
        clear hSd HS
        go_wp2_with fail
        refine (j1RT _).mono ?_
        rintro e VE ⟨rfl,hbE⟩
        replace HKE:=hide (quJN HKE.out hbE)
        obtain ⟨t0,t1,t2⟩:=K1.out _ HKE.out
        have hmp:=HMP.out
        go_wp2_with fail
        refine (HPF.out _ (HWK.out _ HKE.out)).mono ?_
        rintro e VF ⟨rfl,hbF⟩
        have HBF:=hide (quJN (HWK.out _ HKE.out) hbF)
        clear hbF hbE HKE t0 t1 t2
        generalize q0fM W H zs=PO at *
        go_wp2
        go_ret
        exact ⟨rfl,HBF.out⟩
       ·skip
        have hte:(TE == 0)=false:=by simpa using hT0
        have HS:=hide (show ∀v,Below V15.heap.size V15 v→v.heap[w.heap.size]?=some (.cells PA 51 (0,0))∧v.cell? ⟨XB,0,none⟩=some (.int .i64 W)∧v.cell? ⟨XB,1,none⟩=some (.int .i64 H)∧v.cell? ⟨XB,2,none⟩=some (.slice xo NX xc)∧v.cell? ⟨w.heap.size+1,0,none⟩=some (.int .i64 W)∧v.cell? ⟨w.heap.size+1,1,none⟩=some (.int .i64 H)∧v.cell? ⟨w.heap.size+1,2,none⟩=some (.slice vo zs.length vc)∧v.cell? ⟨YB,0,none⟩=some (.int .i64 (okW TE (qPp5 (mvOf 1) QW QH)))∧v.cell? ⟨YB,1,none⟩=some (.int .i64 (okW TE (qPp5 (mvOf 1) QH QW)))∧v.cell? ⟨YB,2,none⟩=some (.slice yo NY yc)∧v.cell? ⟨w.heap.size+1+1,0,none⟩=some (.int .i64 QW)∧v.cell? ⟨w.heap.size+1+1,1,none⟩=some (.int .i64 QH)∧v.cell? ⟨w.heap.size+1+1,2,none⟩=some (.slice qo ps.length qc) from fun v h=>by
         have hK:=quJN HK15.out h
         obtain ⟨c0,c1,c2⟩:=z5EY ((h.block _ mx).trans x15)
         obtain ⟨d0,d1,d2⟩:=z5EY ((h.block _ my).trans y15)
         obtain ⟨t0,t1,t2⟩:=K1.out v hK
         obtain ⟨q0,q1,q2⟩:=K2.out v hK
         exact ⟨K0.out v hK,c0,c1,c2,t0,t1,t2,d0,d1,d2,q0,q1,q2⟩)
        have hSd:=HS.out _ hWd
        have hmx:Tryz.prog.follows .mixedOrders=true:=by kernel_rfl
        refine qYgd (S:=fun v:World=>v.heap[w.heap.size]?=some (.cells PA 51 (0,0))∧v.cell? ⟨XB,0,none⟩=some (.int .i64 W)∧v.cell? ⟨XB,1,none⟩=some (.int .i64 H)∧v.cell? ⟨XB,2,none⟩=some (.slice xo NX xc)∧v.cell? ⟨w.heap.size+1,0,none⟩=some (.int .i64 W)∧v.cell? ⟨w.heap.size+1,1,none⟩=some (.int .i64 H)∧v.cell? ⟨w.heap.size+1,2,none⟩=some (.slice vo zs.length vc)∧v.cell? ⟨YB,0,none⟩=some (.int .i64 (okW TE (qPp5 (mvOf 1) QW QH)))∧v.cell? ⟨YB,1,none⟩=some (.int .i64 (okW TE (qPp5 (mvOf 1) QH QW)))∧v.cell? ⟨YB,2,none⟩=some (.slice yo NY yc)∧v.cell? ⟨w.heap.size+1+1,0,none⟩=some (.int .i64 QW)∧v.cell? ⟨w.heap.size+1+1,1,none⟩=some (.int .i64 QH)∧v.cell? ⟨w.heap.size+1+1,2,none⟩=some (.slice qo ps.length qc)) (f:=19) hmx ?_
        show jZdv _ _ _ _ _ _ 20 _ _ V15.drew
        refine takeQ 0 ?vv17 (some 190) [10,9,2,1] ?yy17 hSd ?rr17
        case yy17=>(intro wq hSq;obtain ⟨hq1,_,_,_,_,_,_,_,_,_,_,_,_⟩:=hSq;go_simp<;>with_reducible rfl)
        simp only[kj,kf,ki,kh]
        refine takeQ 1 ?vv18 (some 191) [10,9,2] ?yy18 hSd ?rr18
        case yy18=>(intro wq hSq;obtain ⟨hq1,_,_,_,_,_,_,_,_,_,_,_,_⟩:=hSq;go_simp<;>with_reducible rfl)
        simp only[kj,kf,ki,kh]
        refine takeQ 2 ?vv19 (some 192) [10,9] ?yy19 hSd ?rr19
        case yy19=>(intro wq hSq;obtain ⟨hq1,_,_,_,_,_,_,_,_,_,_,_,_⟩:=hSq;go_simp<;>with_reducible rfl)
        simp only[kj,kf,ki,kh]
        refine takeQ 3 ?vv20 (some 193) [10,7] ?yy20 hSd ?rr20
        case yy20=>(intro wq hSq;obtain ⟨hq1,_,_,_,_,_,_,_,_,_,_,_,_⟩:=hSq;go_simp<;>with_reducible rfl)
        simp only[kj,kf,ki,kh]
        refine XmaW (i:=4) (oi:=_) (v:=.agg PA) (some 194) [10,7,6] rfl rfl (by kernel_rfl) (by kernel_rfl) (by kernel_rfl) (by kernel_rfl) (by kernel_rfl) (fun _ _ _ h=>h) (Or.inl ⟨by rfl,?yy21⟩) hSd ?rr21
        case yy21=>(intro wq hSq;obtain ⟨hq1,_,_,_,_,_,_,_,_,_,_,_,_⟩:=hSq;exact qLIM 51 _ rfl _ rfl _ _ _ _ hq1 Tryz.underlying51 rfl hi21)
        simp only[kj,kf,ki,kh]
        refine takeQ 5 ?vv22 (some 195) [10,7,6] ?yy22 hSd ?rr22
        case yy22=>(intro wq hSq;obtain ⟨hq1,_,_,_,_,_,_,_,_,_,_,_,_⟩:=hSq;go_simp<;>with_reducible rfl)
        simp only[kj,kf,ki,kh]
        refine znWj (i:=6) (o:=_) (by kernel_rfl) rfl (fun K' hK=>?_)
        rw[if_pos (by rfl)]
        go_simp
        refine (HWX.out _ (HWK.out _ (quJN HK15.out hWd))).mono ?_
        rintro e VA ⟨wv,rfl,hwv,hbA,_⟩
        have hBA:Below V15.heap.size V15 VA:=hWd.trans (hbA.mono hWd.size)
        have HWV:=hide hwv
        obtain ⟨wo,wc,rfl,_,_⟩:=hwv
        have hSd:=HS.out _ hBA
        refine hK.out _ _ hSd ?_
        clear hK
        try simp only[kj]
        refine znWj (i:=7) (o:=_) (by kernel_rfl) rfl (fun K' hK=>?_)
        rw[if_pos (by rfl)]
        go_simp
        refine (XIqO W H _ DD W H _ DD _ (HX15.out.below hBA (kk _)) HWV.out).mono ?_
        rintro e VB ⟨rfl,hbB⟩
        rw[show sameB W H DD W H DD=true by simp[sameB]]
        have hBB:Below V15.heap.size V15 VB:=hBA.trans (hbB.mono hBA.size)
        have hSd:=HS.out _ hBB
        refine hK.out _ _ hSd ?_
        clear hK
        try simp only[kj]
        refine takeQ 8 ?vv23 (some 198) [10,9] ?yy23 hSd ?rr23
        case yy23=>(intro wq hSq;obtain ⟨hq1,_,_,_,_,_,_,_,_,_,_,_,_⟩:=hSq;go_simp<;>with_reducible rfl)
        simp only[kj,kf,ki,kh]
        refine takeQ 9 ?vv24 (some 199) [10] ?yy24 hSd ?rr24
        case yy24=>(intro wq hSq;obtain ⟨hq1,_,_,_,_,_,_,_,_,_,_,_,_⟩:=hSq;go_simp<;>with_reducible rfl)
        simp only[kj,kf,ki,kh]
        refine takeQ 10 ?vv25 (some 200) [] ?yy25 hSd ?rr25
        case yy25=>(intro wq hSq;obtain ⟨hq1,_,_,_,_,_,_,_,_,_,_,_,_⟩:=hSq;go_simp<;>with_reducible rfl)
        simp only[kj,kf,ki,kh]
        refine takeQ 11 ?vv26 (some 201) [18,13,12] ?yy26 hSd ?rr26
        case yy26=>(intro wq hSq;obtain ⟨hq1,_,_,_,_,_,_,_,_,_,_,_,_⟩:=hSq;go_simp<;>with_reducible rfl)
        simp only[kj,kf,ki,kh]
        refine takeQ 12 ?vv27 (some 202) [18,13] ?yy27 hSd ?rr27
        case yy27=>(intro wq hSq;obtain ⟨hq1,_,_,_,_,_,_,_,_,_,_,_,_⟩:=hSq;go_simp<;>with_reducible rfl)
        simp only[kj,kf,ki,kh]
        refine takeQ 13 ?vv28 (some 203) [18] ?yy28 hSd ?rr28
        case yy28=>(intro wq hSq;obtain ⟨hq1,_,_,_,_,_,_,_,_,_,_,_,_⟩:=hSq;go_simp<;>with_reducible rfl)
        simp only[kj,kf,ki,kh]
        refine XmaW (i:=14) (oi:=_) (v:=undef) (some 204) [18,17,16] rfl rfl (by kernel_rfl) (by kernel_rfl) (by kernel_rfl) (by kernel_rfl) (by kernel_rfl) (fun _ _ _ h=>h) (Or.inr ⟨by rfl,rfl⟩) hSd ?rr29
        simp only[kj,kf,ki,kh]
        refine XmaW (i:=15) (oi:=_) (v:=undef) (some 205) [18,17,16] rfl rfl (by kernel_rfl) (by kernel_rfl) (by kernel_rfl) (by kernel_rfl) (by kernel_rfl) (fun _ _ _ h=>h) (Or.inr ⟨by rfl,rfl⟩) hSd ?rr30
        simp only[kj,kf,ki,kh]
        refine XmaW (i:=16) (oi:=_) (v:=undef) (some 206) [18,17] rfl rfl (by kernel_rfl) (by kernel_rfl) (by kernel_rfl) (by kernel_rfl) (by kernel_rfl) (fun _ _ _ h=>h) (Or.inr ⟨by rfl,rfl⟩) hSd ?rr31
        simp only[kj,kf,ki,kh]
        refine XmaW (i:=17) (oi:=_) (v:=undef) (some 207) [18] rfl rfl (by kernel_rfl) (by kernel_rfl) (by kernel_rfl) (by kernel_rfl) (by kernel_rfl) (fun _ _ _ h=>h) (Or.inr ⟨by rfl,rfl⟩) hSd ?rr32
        simp only[kj,kf,ki,kh]
        refine takeQ 18 ?vv33 (some 208) [] ?yy33 hSd ?rr33
        case yy33=>(intro wq hSq;obtain ⟨hq1,_,_,_,_,_,_,_,_,_,_,_,_⟩:=hSq;go_simp<;>with_reducible rfl)
        simp only[kj,kf,ki,kh]
        refine z9gO (o:=_) (by kernel_rfl) rfl (fun K' hK=>?_)
        rw[if_pos (by rfl)]
        go_simp
        refine hK.out _ _ ?_
        clear hK
        refine jFdp (by kernel_rfl) ?_ _
        try simp only[kj]
        have HKE:=hide (quJN HK15.out hBB)
        clear hSd HS
        go_wp2_with fail
        refine (j1RT _).mono ?_
        rintro e VE ⟨rfl,hbE⟩
        replace HKE:=hide (quJN HKE.out hbE)
        obtain ⟨t0,t1,t2⟩:=K1.out _ HKE.out
        have hmp:=HMP.out
        go_wp2_with fail
        refine (HPF.out _ (HWK.out _ HKE.out)).mono ?_
        rintro e VF ⟨rfl,hbF⟩
        have HBF:=hide (quJN (HWK.out _ HKE.out) hbF)
        clear hbF hbE HKE t0 t1 t2
        generalize q0fM W H zs=PO at *
        go_wp2
        go_ret
        exact ⟨rfl,HBF.out⟩
      ·clear HWH
       by_cases hT0:TE=0
       ·obtain ⟨tw1,tw2,tl⟩:=jO2R (HTE.out.trans hT0)
        subst hT0
        rw[show okL 0 (turnL QW.toNat QH.toNat ps (mvOf 1))=turnL QW.toNat QH.toNat ps (mvOf 1) from rfl,tl] at HY15
        rw[tw1,tw2,show okW 0 QW=QW from rfl,show okW 0 QH=QH from rfl] at y15
        clear tw1 tw2 tl
        have hse:(SE == 0)=false:=by simpa using hS0
        have HS:=hide (show ∀v,Below V15.heap.size V15 v→v.heap[w.heap.size]?=some (.cells PA 51 (0,0))∧v.cell? ⟨XB,0,none⟩=some (.int .i64 (okW SE W))∧v.cell? ⟨XB,1,none⟩=some (.int .i64 (okW SE H))∧v.cell? ⟨XB,2,none⟩=some (.slice xo NX xc)∧v.cell? ⟨w.heap.size+1,0,none⟩=some (.int .i64 W)∧v.cell? ⟨w.heap.size+1,1,none⟩=some (.int .i64 H)∧v.cell? ⟨w.heap.size+1,2,none⟩=some (.slice vo zs.length vc)∧v.cell? ⟨YB,0,none⟩=some (.int .i64 QW)∧v.cell? ⟨YB,1,none⟩=some (.int .i64 QH)∧v.cell? ⟨YB,2,none⟩=some (.slice yo NY yc)∧v.cell? ⟨w.heap.size+1+1,0,none⟩=some (.int .i64 QW)∧v.cell? ⟨w.heap.size+1+1,1,none⟩=some (.int .i64 QH)∧v.cell? ⟨w.heap.size+1+1,2,none⟩=some (.slice qo ps.length qc) from fun v h=>by
         have hK:=quJN HK15.out h
         obtain ⟨c0,c1,c2⟩:=z5EY ((h.block _ mx).trans x15)
         obtain ⟨d0,d1,d2⟩:=z5EY ((h.block _ my).trans y15)
         obtain ⟨t0,t1,t2⟩:=K1.out v hK
         obtain ⟨q0,q1,q2⟩:=K2.out v hK
         exact ⟨K0.out v hK,c0,c1,c2,t0,t1,t2,d0,d1,d2,q0,q1,q2⟩)
        have hSd:=HS.out _ hWd
        have hmx:Tryz.prog.follows .mixedOrders=true:=by kernel_rfl
        refine qYgd (S:=fun v:World=>v.heap[w.heap.size]?=some (.cells PA 51 (0,0))∧v.cell? ⟨XB,0,none⟩=some (.int .i64 (okW SE W))∧v.cell? ⟨XB,1,none⟩=some (.int .i64 (okW SE H))∧v.cell? ⟨XB,2,none⟩=some (.slice xo NX xc)∧v.cell? ⟨w.heap.size+1,0,none⟩=some (.int .i64 W)∧v.cell? ⟨w.heap.size+1,1,none⟩=some (.int .i64 H)∧v.cell? ⟨w.heap.size+1,2,none⟩=some (.slice vo zs.length vc)∧v.cell? ⟨YB,0,none⟩=some (.int .i64 QW)∧v.cell? ⟨YB,1,none⟩=some (.int .i64 QH)∧v.cell? ⟨YB,2,none⟩=some (.slice yo NY yc)∧v.cell? ⟨w.heap.size+1+1,0,none⟩=some (.int .i64 QW)∧v.cell? ⟨w.heap.size+1+1,1,none⟩=some (.int .i64 QH)∧v.cell? ⟨w.heap.size+1+1,2,none⟩=some (.slice qo ps.length qc)) (f:=19) hmx ?_
        show jZdv _ _ _ _ _ _ 20 _ _ V15.drew
        refine takeQ 0 ?vv34 (some 190) [10,9,2,1] ?yy34 hSd ?rr34
        case yy34=>(intro wq hSq;obtain ⟨hq1,_,_,_,_,_,_,_,_,_,_,_,_⟩:=hSq;go_simp<;>with_reducible rfl)
        simp only[kj,kf,ki,kh]
        refine takeQ 1 ?vv35 (some 191) [10,9,2] ?yy35 hSd ?rr35
        case yy35=>(intro wq hSq;obtain ⟨hq1,_,_,_,_,_,_,_,_,_,_,_,_⟩:=hSq;go_simp<;>with_reducible rfl)
        simp only[kj,kf,ki,kh]
        refine takeQ 2 ?vv36 (some 192) [10,9] ?yy36 hSd ?rr36
        case yy36=>(intro wq hSq;obtain ⟨hq1,_,_,_,_,_,_,_,_,_,_,_,_⟩:=hSq;go_simp<;>with_reducible rfl)
        simp only[kj,kf,ki,kh]
        refine XmaW (i:=3) (oi:=_) (v:=undef) (some 193) [10,7] rfl rfl (by kernel_rfl) (by kernel_rfl) (by kernel_rfl) (by kernel_rfl) (by kernel_rfl) (fun _ _ _ h=>h) (Or.inr ⟨by rfl,rfl⟩) hSd ?rr37
        simp only[kj,kf,ki,kh]
        refine XmaW (i:=4) (oi:=_) (v:=undef) (some 194) [10,7,6] rfl rfl (by kernel_rfl) (by kernel_rfl) (by kernel_rfl) (by kernel_rfl) (by kernel_rfl) (fun _ _ _ h=>h) (Or.inr ⟨by rfl,rfl⟩) hSd ?rr38
        simp only[kj,kf,ki,kh]
        refine XmaW (i:=5) (oi:=_) (v:=undef) (some 195) [10,7,6] rfl rfl (by kernel_rfl) (by kernel_rfl) (by kernel_rfl) (by kernel_rfl) (by kernel_rfl) (fun _ _ _ h=>h) (Or.inr ⟨by rfl,rfl⟩) hSd ?rr39
        simp only[kj,kf,ki,kh]
        refine XmaW (i:=6) (oi:=_) (v:=undef) (some 196) [10,7] rfl rfl (by kernel_rfl) (by kernel_rfl) (by kernel_rfl) (by kernel_rfl) (by kernel_rfl) (fun _ _ _ h=>h) (Or.inr ⟨by rfl,rfl⟩) hSd ?rr40
        simp only[kj,kf,ki,kh]
        refine XmaW (i:=7) (oi:=_) (v:=undef) (some 197) [10] rfl rfl (by kernel_rfl) (by kernel_rfl) (by kernel_rfl) (by kernel_rfl) (by kernel_rfl) (fun _ _ _ h=>h) (Or.inr ⟨by rfl,rfl⟩) hSd ?rr41
        simp only[kj,kf,ki,kh]
        refine XmaW (i:=8) (oi:=_) (v:=undef) (some 198) [10,9] rfl rfl (by kernel_rfl) (by kernel_rfl) (by kernel_rfl) (by kernel_rfl) (by kernel_rfl) (fun _ _ _ h=>h) (Or.inr ⟨by rfl,rfl⟩) hSd ?rr42
        simp only[kj,kf,ki,kh]
        refine takeQ 9 ?vv43 (some 199) [10] ?yy43 hSd ?rr43
        case yy43=>(intro wq hSq;obtain ⟨hq1,_,_,_,_,_,_,_,_,_,_,_,_⟩:=hSq;go_simp<;>with_reducible rfl)
        simp only[kj,kf,ki,kh]
        refine takeQ 10 ?vv44 (some 200) [] ?yy44 hSd ?rr44
        case yy44=>(intro wq hSq;obtain ⟨hq1,_,_,_,_,_,_,_,_,_,_,_,_⟩:=hSq;go_simp<;>with_reducible rfl)
        simp only[kj,kf,ki,kh]
        refine takeQ 11 ?vv45 (some 201) [18,13,12] ?yy45 hSd ?rr45
        case yy45=>(intro wq hSq;obtain ⟨hq1,_,_,_,_,_,_,_,_,_,_,_,_⟩:=hSq;go_simp<;>with_reducible rfl)
        simp only[kj,kf,ki,kh]
        refine takeQ 12 ?vv46 (some 202) [18,13] ?yy46 hSd ?rr46
        case yy46=>(intro wq hSq;obtain ⟨hq1,_,_,_,_,_,_,_,_,_,_,_,_⟩:=hSq;go_simp<;>with_reducible rfl)
        simp only[kj,kf,ki,kh]
        refine takeQ 13 ?vv47 (some 203) [18] ?yy47 hSd ?rr47
        case yy47=>(intro wq hSq;obtain ⟨hq1,_,_,_,_,_,_,_,_,_,_,_,_⟩:=hSq;go_simp<;>with_reducible rfl)
        simp only[kj,kf,ki,kh]
        refine takeQ 14 ?vv48 (some 204) [18,17,16] ?yy48 hSd ?rr48
        case yy48=>(intro wq hSq;obtain ⟨hq1,_,_,_,_,_,_,_,_,_,_,_,_⟩:=hSq;go_simp<;>with_reducible rfl)
        simp only[kj,kf,ki,kh]
        refine takeQ 15 ?vv49 (some 205) [18,17,16] ?yy49 hSd ?rr49
        case yy49=>(intro wq hSq;obtain ⟨hq1,_,_,_,_,_,_,_,_,_,_,_,_⟩:=hSq;go_simp<;>with_reducible rfl)
        simp only[kj,kf,ki,kh]
        refine znWj (i:=16) (o:=_) (by kernel_rfl) rfl (fun K' hK=>?_)
        rw[if_pos (by rfl)]
        go_simp
        refine (HSQ.out _ _ (HWK.out _ (quJN HK15.out hWd)) (HY15.out.below hWd (kk _))).mono ?_
        rintro e VC ⟨rfl,hbC⟩
        rw[show sameB QW QH ps QW QH ps=true by simp[sameB]]
        have hBC:Below V15.heap.size V15 VC:=hWd.trans (hbC.mono hWd.size)
        have hSd:=HS.out _ hBC
        refine hK.out _ _ hSd ?_
        clear hK
        try simp only[kj]
        refine takeQ 17 ?vv50 (some 207) [18] ?yy50 hSd ?rr50
        case yy50=>(intro wq hSq;obtain ⟨hq1,_,_,_,_,_,_,_,_,_,_,_,_⟩:=hSq;go_simp<;>with_reducible rfl)
        simp only[kj,kf,ki,kh]
        refine takeQ 18 ?vv51 (some 208) [] ?yy51 hSd ?rr51
        case yy51=>(intro wq hSq;obtain ⟨hq1,_,_,_,_,_,_,_,_,_,_,_,_⟩:=hSq;go_simp<;>with_reducible rfl)
        simp only[kj,kf,ki,kh]
        refine z9gO (o:=_) (by kernel_rfl) rfl (fun K' hK=>?_)
        rw[if_pos (by rfl)]
        go_simp
        refine hK.out _ _ ?_
        clear hK
        refine jFdp (by kernel_rfl) ?_ _
        try simp only[kj]
        have HKE:=hide (quJN HK15.out hBC)
        clear hSd HS
        go_wp2_with fail
        refine (j1RT _).mono ?_
        rintro e VE ⟨rfl,hbE⟩
        replace HKE:=hide (quJN HKE.out hbE)
        obtain ⟨t0,t1,t2⟩:=K1.out _ HKE.out
        have hmp:=HMP.out
        go_wp2_with fail
        refine (HPF.out _ (HWK.out _ HKE.out)).mono ?_
        rintro e VF ⟨rfl,hbF⟩
        have HBF:=hide (quJN (HWK.out _ HKE.out) hbF)
        clear hbF hbE HKE t0 t1 t2
        generalize q0fM W H zs=PO at *
        go_wp2
        go_ret
        exact ⟨rfl,HBF.out⟩
       ·skip
        have hse:(SE == 0)=false:=by simpa using hS0
        have hte:(TE == 0)=false:=by simpa using hT0
        have HS:=hide (show ∀v,Below V15.heap.size V15 v→v.heap[w.heap.size]?=some (.cells PA 51 (0,0))∧v.cell? ⟨XB,0,none⟩=some (.int .i64 (okW SE W))∧v.cell? ⟨XB,1,none⟩=some (.int .i64 (okW SE H))∧v.cell? ⟨XB,2,none⟩=some (.slice xo NX xc)∧v.cell? ⟨w.heap.size+1,0,none⟩=some (.int .i64 W)∧v.cell? ⟨w.heap.size+1,1,none⟩=some (.int .i64 H)∧v.cell? ⟨w.heap.size+1,2,none⟩=some (.slice vo zs.length vc)∧v.cell? ⟨YB,0,none⟩=some (.int .i64 (okW TE (qPp5 (mvOf 1) QW QH)))∧v.cell? ⟨YB,1,none⟩=some (.int .i64 (okW TE (qPp5 (mvOf 1) QH QW)))∧v.cell? ⟨YB,2,none⟩=some (.slice yo NY yc)∧v.cell? ⟨w.heap.size+1+1,0,none⟩=some (.int .i64 QW)∧v.cell? ⟨w.heap.size+1+1,1,none⟩=some (.int .i64 QH)∧v.cell? ⟨w.heap.size+1+1,2,none⟩=some (.slice qo ps.length qc) from fun v h=>by
         have hK:=quJN HK15.out h
         obtain ⟨c0,c1,c2⟩:=z5EY ((h.block _ mx).trans x15)
         obtain ⟨d0,d1,d2⟩:=z5EY ((h.block _ my).trans y15)
         obtain ⟨t0,t1,t2⟩:=K1.out v hK
         obtain ⟨q0,q1,q2⟩:=K2.out v hK
         exact ⟨K0.out v hK,c0,c1,c2,t0,t1,t2,d0,d1,d2,q0,q1,q2⟩)
        have hSd:=HS.out _ hWd
        have hmx:Tryz.prog.follows .mixedOrders=true:=by kernel_rfl
        refine qYgd (S:=fun v:World=>v.heap[w.heap.size]?=some (.cells PA 51 (0,0))∧v.cell? ⟨XB,0,none⟩=some (.int .i64 (okW SE W))∧v.cell? ⟨XB,1,none⟩=some (.int .i64 (okW SE H))∧v.cell? ⟨XB,2,none⟩=some (.slice xo NX xc)∧v.cell? ⟨w.heap.size+1,0,none⟩=some (.int .i64 W)∧v.cell? ⟨w.heap.size+1,1,none⟩=some (.int .i64 H)∧v.cell? ⟨w.heap.size+1,2,none⟩=some (.slice vo zs.length vc)∧v.cell? ⟨YB,0,none⟩=some (.int .i64 (okW TE (qPp5 (mvOf 1) QW QH)))∧v.cell? ⟨YB,1,none⟩=some (.int .i64 (okW TE (qPp5 (mvOf 1) QH QW)))∧v.cell? ⟨YB,2,none⟩=some (.slice yo NY yc)∧v.cell? ⟨w.heap.size+1+1,0,none⟩=some (.int .i64 QW)∧v.cell? ⟨w.heap.size+1+1,1,none⟩=some (.int .i64 QH)∧v.cell? ⟨w.heap.size+1+1,2,none⟩=some (.slice qo ps.length qc)) (f:=19) hmx ?_
        show jZdv _ _ _ _ _ _ 20 _ _ V15.drew
        refine takeQ 0 ?vv52 (some 190) [10,9,2,1] ?yy52 hSd ?rr52
        case yy52=>(intro wq hSq;obtain ⟨hq1,_,_,_,_,_,_,_,_,_,_,_,_⟩:=hSq;go_simp<;>with_reducible rfl)
        simp only[kj,kf,ki,kh]
        refine takeQ 1 ?vv53 (some 191) [10,9,2] ?yy53 hSd ?rr53
        case yy53=>(intro wq hSq;obtain ⟨hq1,_,_,_,_,_,_,_,_,_,_,_,_⟩:=hSq;go_simp<;>with_reducible rfl)
        simp only[kj,kf,ki,kh]
        refine takeQ 2 ?vv54 (some 192) [10,9] ?yy54 hSd ?rr54
        case yy54=>(intro wq hSq;obtain ⟨hq1,_,_,_,_,_,_,_,_,_,_,_,_⟩:=hSq;go_simp<;>with_reducible rfl)
        simp only[kj,kf,ki,kh]
        refine XmaW (i:=3) (oi:=_) (v:=undef) (some 193) [10,7] rfl rfl (by kernel_rfl) (by kernel_rfl) (by kernel_rfl) (by kernel_rfl) (by kernel_rfl) (fun _ _ _ h=>h) (Or.inr ⟨by rfl,rfl⟩) hSd ?rr55
        simp only[kj,kf,ki,kh]
        refine XmaW (i:=4) (oi:=_) (v:=undef) (some 194) [10,7,6] rfl rfl (by kernel_rfl) (by kernel_rfl) (by kernel_rfl) (by kernel_rfl) (by kernel_rfl) (fun _ _ _ h=>h) (Or.inr ⟨by rfl,rfl⟩) hSd ?rr56
        simp only[kj,kf,ki,kh]
        refine XmaW (i:=5) (oi:=_) (v:=undef) (some 195) [10,7,6] rfl rfl (by kernel_rfl) (by kernel_rfl) (by kernel_rfl) (by kernel_rfl) (by kernel_rfl) (fun _ _ _ h=>h) (Or.inr ⟨by rfl,rfl⟩) hSd ?rr57
        simp only[kj,kf,ki,kh]
        refine XmaW (i:=6) (oi:=_) (v:=undef) (some 196) [10,7] rfl rfl (by kernel_rfl) (by kernel_rfl) (by kernel_rfl) (by kernel_rfl) (by kernel_rfl) (fun _ _ _ h=>h) (Or.inr ⟨by rfl,rfl⟩) hSd ?rr58
        simp only[kj,kf,ki,kh]
        refine XmaW (i:=7) (oi:=_) (v:=undef) (some 197) [10] rfl rfl (by kernel_rfl) (by kernel_rfl) (by kernel_rfl) (by kernel_rfl) (by kernel_rfl) (fun _ _ _ h=>h) (Or.inr ⟨by rfl,rfl⟩) hSd ?rr59
        simp only[kj,kf,ki,kh]
        refine XmaW (i:=8) (oi:=_) (v:=undef) (some 198) [10,9] rfl rfl (by kernel_rfl) (by kernel_rfl) (by kernel_rfl) (by kernel_rfl) (by kernel_rfl) (fun _ _ _ h=>h) (Or.inr ⟨by rfl,rfl⟩) hSd ?rr60
        simp only[kj,kf,ki,kh]
        refine takeQ 9 ?vv61 (some 199) [10] ?yy61 hSd ?rr61
        case yy61=>(intro wq hSq;obtain ⟨hq1,_,_,_,_,_,_,_,_,_,_,_,_⟩:=hSq;go_simp<;>with_reducible rfl)
        simp only[kj,kf,ki,kh]
        refine takeQ 10 ?vv62 (some 200) [] ?yy62 hSd ?rr62
        case yy62=>(intro wq hSq;obtain ⟨hq1,_,_,_,_,_,_,_,_,_,_,_,_⟩:=hSq;go_simp<;>with_reducible rfl)
        simp only[kj,kf,ki,kh]
        refine takeQ 11 ?vv63 (some 201) [18,13,12] ?yy63 hSd ?rr63
        case yy63=>(intro wq hSq;obtain ⟨hq1,_,_,_,_,_,_,_,_,_,_,_,_⟩:=hSq;go_simp<;>with_reducible rfl)
        simp only[kj,kf,ki,kh]
        refine takeQ 12 ?vv64 (some 202) [18,13] ?yy64 hSd ?rr64
        case yy64=>(intro wq hSq;obtain ⟨hq1,_,_,_,_,_,_,_,_,_,_,_,_⟩:=hSq;go_simp<;>with_reducible rfl)
        simp only[kj,kf,ki,kh]
        refine takeQ 13 ?vv65 (some 203) [18] ?yy65 hSd ?rr65
        case yy65=>(intro wq hSq;obtain ⟨hq1,_,_,_,_,_,_,_,_,_,_,_,_⟩:=hSq;go_simp<;>with_reducible rfl)
        simp only[kj,kf,ki,kh]
        refine XmaW (i:=14) (oi:=_) (v:=undef) (some 204) [18,17,16] rfl rfl (by kernel_rfl) (by kernel_rfl) (by kernel_rfl) (by kernel_rfl) (by kernel_rfl) (fun _ _ _ h=>h) (Or.inr ⟨by rfl,rfl⟩) hSd ?rr66
        simp only[kj,kf,ki,kh]
        refine XmaW (i:=15) (oi:=_) (v:=undef) (some 205) [18,17,16] rfl rfl (by kernel_rfl) (by kernel_rfl) (by kernel_rfl) (by kernel_rfl) (by kernel_rfl) (fun _ _ _ h=>h) (Or.inr ⟨by rfl,rfl⟩) hSd ?rr67
        simp only[kj,kf,ki,kh]
        refine XmaW (i:=16) (oi:=_) (v:=undef) (some 206) [18,17] rfl rfl (by kernel_rfl) (by kernel_rfl) (by kernel_rfl) (by kernel_rfl) (by kernel_rfl) (fun _ _ _ h=>h) (Or.inr ⟨by rfl,rfl⟩) hSd ?rr68
        simp only[kj,kf,ki,kh]
        refine XmaW (i:=17) (oi:=_) (v:=undef) (some 207) [18] rfl rfl (by kernel_rfl) (by kernel_rfl) (by kernel_rfl) (by kernel_rfl) (by kernel_rfl) (fun _ _ _ h=>h) (Or.inr ⟨by rfl,rfl⟩) hSd ?rr69
        simp only[kj,kf,ki,kh]
        refine takeQ 18 ?vv70 (some 208) [] ?yy70 hSd ?rr70
        case yy70=>(intro wq hSq;obtain ⟨hq1,_,_,_,_,_,_,_,_,_,_,_,_⟩:=hSq;go_simp<;>with_reducible rfl)
        simp only[kj,kf,ki,kh]
        refine z9gO (o:=_) (by kernel_rfl) rfl (fun K' hK=>?_)
        rw[if_pos (by rfl)]
        go_simp
        refine hK.out _ _ ?_
        clear hK
        refine jFdp (by kernel_rfl) ?_ _
        try simp only[kj]
        have HKE:=hide (quJN HK15.out hWd)
        clear hSd HS
        go_wp2_with fail
        refine (j1RT _).mono ?_
        rintro e VE ⟨rfl,hbE⟩
        replace HKE:=hide (quJN HKE.out hbE)
        obtain ⟨t0,t1,t2⟩:=K1.out _ HKE.out
        have hmp:=HMP.out
        go_wp2_with fail
        refine (HPF.out _ (HWK.out _ HKE.out)).mono ?_
        rintro e VF ⟨rfl,hbF⟩
        have HBF:=hide (quJN (HWK.out _ HKE.out) hbF)
        clear hbF hbE HKE t0 t1 t2
        generalize q0fM W H zs=PO at *
        go_wp2
        go_ret
        exact ⟨rfl,HBF.out⟩
end Go.Proofs.YtfjeonehdlphiaaGreatDoor
