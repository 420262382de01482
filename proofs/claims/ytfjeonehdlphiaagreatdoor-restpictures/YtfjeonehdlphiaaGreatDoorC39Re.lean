/- Re: part 39 of what the proofs need. -/
import Derived.Test.YtfjeonehdlphiaaGreatDoorC6Re
import Derived.Test.YtfjeonehdlphiaaGreatDoorC11Re
import Derived.Test.YtfjeonehdlphiaaGreatDoorC35Re
import Derived.Test.YtfjeonehdlphiaaGreatDoorC37Re
import Derived.Test.YtfjeonehdlphiaaGreatDoorC38Re
open Go.Obj renaming cells → ka
open List renaming setIfInBounds_toArray → kb, set_cons_zero → kd, set_cons_succ → ke
open Array renaming getElem?_eq_some_iff → kc
open Go.Lib renaming frozen_of_heap → kf, cell_of_heap → kg
open Go.Act renaming put → kh
open Nat renaming le_refl → ki, lt_of_lt_of_le → kj
open Go.RowKit.Below renaming heap_setCell → kk
open Int renaming toNat_natCast → kl
set_option linter.unusedVariables false
set_option maxHeartbeats 6400000
set_option maxRecDepth 100000
namespace Go.Proofs.YtfjeonehdlphiaaGreatDoor
set_option linter.unusedSimpArgs false
open Go.RowKit
def kq9 (w h d k r:Int) (le:List Int) (st:List (List UInt8)) (n:Plan) (l:List UInt8):Option RawF:=if l=[] then some ⟨w,h,d,k,r,le,st,n⟩ else none
def kq8 (b3 b4:List UInt8→Nat) (w h d k r:Int) (le:List Int) (st:List (List UInt8)) (l:List UInt8):Option RawF:=match planP b3 b4 l with
 | none=>none
 | some (n,u)=>kq9 w h d k r le st n u
def kq7 (b2 b3 b4:List UInt8→Nat) (w h d k r:Int) (le:List Int) (l:List UInt8):Option RawF:=match listP textP b2 l with
 | none=>none
 | some (st,u)=>kq8 b3 b4 w h d k r le st u
def kq6 (b1 b2 b3 b4:List UInt8→Nat) (w h d k r:Int) (l:List UInt8):Option RawF:=match listP numP b1 l with
 | none=>none
 | some (le,u)=>kq7 b2 b3 b4 w h d k r le u
def kq5 (b1 b2 b3 b4:List UInt8→Nat) (w h d k:Int) (l:List UInt8):Option RawF:=match numP l with
 | none=>none
 | some (r,u)=>kq6 b1 b2 b3 b4 w h d k r u
def kq4 (b1 b2 b3 b4:List UInt8→Nat) (w h d:Int) (l:List UInt8):Option RawF:=match numP l with
 | none=>none
 | some (k,u)=>kq5 b1 b2 b3 b4 w h d k u
def kq3 (b1 b2 b3 b4:List UInt8→Nat) (w h:Int) (l:List UInt8):Option RawF:=match numP l with
 | none=>none
 | some (d,u)=>kq4 b1 b2 b3 b4 w h d u
def kq2 (b1 b2 b3 b4:List UInt8→Nat) (w:Int) (l:List UInt8):Option RawF:=match numP l with
 | none=>none
 | some (h,u)=>kq3 b1 b2 b3 b4 w h u
def kq1 (b1 b2 b3 b4:List UInt8→Nat) (l:List UInt8):Option RawF:=match numP l with
 | none=>none
 | some (w,u)=>kq2 b1 b2 b3 b4 w u
def strV (s:List UInt8):Value:=.string (str s)
theorem Tryz.infoStrF:(Tryz.prog.info? 9).map (fun i=>(i.zero,i.size,i.bytes))=some (some (.string ⟨#[]⟩),1,16):=by kernel_rfl
structure FJ (w:World) (X:List (Nat×TypeId×List Value)) (l:List UInt8) (cs:List Value) (V:World):Prop where
 sep:∀x∈X,w.heap.size+2<x.1
 bel:Below w.heap.size w V
 rd:IsRd (w.heap.size+2) l V
 box:Holds w.heap.size 57 cs V
 okb:Holds (w.heap.size+1) 4 [.bool false] V
 ex:∀x∈X,Holds x.1 x.2.1 x.2.2 V
theorem FJ.put {w:World} {X:List (Nat×TypeId×List Value)} {l:List UInt8} {cs:List Value} {V:World} (h:FJ w X l cs V) (i:Nat) (v:Value) (h1:v.oneCell'=true):FJ w X l (cs.set i v) (V.setCell ⟨w.heap.size,i,none⟩ v):=by
 obtain ⟨hh,hs⟩:=h.box.set (B:=w.heap.size) (b:=w.heap.size+2) (ki _) i v h1
 have hk:∀k,k≠w.heap.size→(V.setCell ⟨w.heap.size,i,none⟩ v).heap[k]?=V.heap[k]?:=fun k hk=>kk _ _ _ _ (fun e=>hk e)
 exact ⟨h.sep,h.bel.trans hs.bel,(hk _ (by omega)).trans h.rd,hh,(hk _ (by omega)).trans h.okb,fun x hx=>(hk _ (by have:=h.sep x hx;omega)).trans (h.ex x hx)⟩
theorem FJ.alloc {w:World} {X:List (Nat×TypeId×List Value)} {l:List UInt8} {cs:List Value} {V:World} (h:FJ w X l cs V) (ds:List Value) (t:TypeId):FJ w ((V.heap.size,t,ds)::X) l cs (V.alloc (.cells ds.toArray t)) where
 sep:=fun x hx=>by
  rcases List.mem_cons.1 hx with rfl|hx
  ·exact (kc.1 h.rd).1
  ·exact h.sep x hx
 bel:=h.bel.trans ((qUNz V _).mono h.bel.size)
 rd:=qgz9 h.rd _
 box:=((qUNz V _).block _ h.box.lt).trans h.box
 okb:=((qUNz V _).block _ h.okb.lt).trans h.okb
 ex:=fun x hx=>by
  rcases List.mem_cons.1 hx with rfl|hx
  ·exact al1 V _
  ·exact ((qUNz V _).block _ (h.ex x hx).lt).trans (h.ex x hx)
theorem FJ.drew {w:World} {X:List (Nat×TypeId×List Value)} {l:List UInt8} {cs:List Value} {V:World} (h:FJ w X l cs V):FJ w X l cs V.drew :=
 ⟨h.sep,h.bel.drew,h.rd,h.box,h.okb,h.ex⟩
theorem FJ.plan {w:World} {X:List (Nat×TypeId×List Value)} {l:List UInt8} {cs cs':List Value} {V:World} (h:FJ w X l cs V):FJ w X l cs' (V.setRow w.heap.size cs'.toArray):=by
 have hk:∀k,k≠w.heap.size→(V.setRow w.heap.size cs'.toArray).heap[k]?=V.heap[k]?:=fun k hk=>setRow_other _ _ _ _ hk
 exact ⟨h.sep,below_setRow h.bel (ki _) _,(hk _ (by omega)).trans h.rd,setRow_heap _ _ _ _ _ _ h.box,(hk _ (by omega)).trans h.okb,fun x hx=>(hk _ (by have:=h.sep x hx;omega)).trans (h.ex x hx)⟩
end Go.Proofs.YtfjeonehdlphiaaGreatDoor
namespace Go.Proofs.YtfjeonehdlphiaaGreatDoor
open Go.RowKit
theorem zGcC.other {w w':World} {v:Value} {ts:List (List UInt8)} {k:Nat} (h:zGcC w v ts) (hs:w.heap.size≤w'.heap.size) (hk:∀b,b≠k→w'.heap[b]?=w.heap[b]?) (hne:v.ownBlock≠some k):zGcC w' v ts:=by
 obtain ⟨ao,cap,rfl,hl,h⟩:=h
 refine ⟨ao,cap,rfl,hl,?_⟩
 rcases h with h|⟨b,off,rfl,hlt,hc⟩
 ·exact .inl h
 ·have hb:b≠k:=fun e=>hne (by rw[e];rfl)
  refine .inr ⟨b,off,rfl,kj hlt hs,fun j hj=>?_⟩
  rw[World.cell?_of_block (a:=⟨b,off+j,none⟩) (hk b hb)]
  exact hc j hj
theorem IsRaw.other {w w':World} {r:RawF} {lv tv sv cv:Value} {B k:Nat} (h:IsRaw w r lv tv sv cv) (hs:w.heap.size≤w'.heap.size) (hk:∀b,b≠k→w'.heap[b]?=w.heap[b]?) (hB:k<B) (f1:Fresh B lv) (f2:Fresh B tv) (f3:Fresh B sv) (f4:Fresh B cv):IsRaw w' r lv tv sv cv :=
 ⟨h.lens.other hs hk (f1.ne hB),h.strips.other hs hk (f2.ne hB),h.plan.spots.other hs hk (f3.ne hB),h.plan.curve.other hs hk (f4.ne hB)⟩
theorem XIRQ {w:World} {r:RawF} {lv tv sv cv:Value} (h:IsRaw w r lv tv sv cv):(rawA r lv tv sv cv).all (·.oneCell')=true:=by
 obtain ⟨_,_,e1,_⟩:=h.lens
 obtain ⟨_,_,e2,_⟩:=h.strips
 obtain ⟨_,_,e3,_⟩:=h.plan.spots
 obtain ⟨_,_,e4,_⟩:=h.plan.curve
 rw[e1,e2,e3,e4]
 simp[Value.oneCell']
theorem ztDq {P:Program} {ops:Array Oper} {rest:List Oper} {o:Oper} {a:Act} {w:World} {Q:Exit→Act→World→Prop} (hw:Region.wanted o (yielded ops a.tmps)=true) (ty:TypeId) (x:Operand) (ho:o.op=.load ty x)
  (g:Nat) (hx:a.eval x=.pointer (some ⟨g,0,none⟩)) (t:TypeId) (cs:Array Value) (fr:Nat×Nat) (d:TypeDesc) (hg:w.heap[g]?=some (.cells cs t fr))
  (hu:P.underlying ty=some d) (hd:(match d with | .struct _ | .array _ _=>true|_=>false)=true) (hi:(P.info? ty).map (·.size)=some cs.size)
  (h:wpList P ops Q rest (a.put o.dst (.agg cs)) w):wpList P ops Q (o::rest) a w:=by
 unfold wpList
 rw[if_pos hw]
 exact .inl (wp_load_row ty x ho g hx t cs fr d hg hu hd hi h)
def bareR (r:RawF):RawF:={ r with strips:=[] }
theorem jCvT.cell {w:World} {v:Value} {xs:List Int} {B k i:Nat} {u:Value} (h:jCvT w v xs) (hf:Fresh B v) (hk:k<B):jCvT (w.setCell ⟨k,i,none⟩ u) v xs:=h.other (by simp[World.setCell]) (fun b hb=>kk _ _ _ _ (fun e=>hb e)) (hf.ne hk)
theorem IsPts.cell {w:World} {v:Value} {xs:List Pt} {B k i:Nat} {u:Value} (h:IsPts w v xs) (hf:Fresh B v) (hk:k<B):IsPts (w.setCell ⟨k,i,none⟩ u) v xs:=h.other (by simp[World.setCell]) (fun b hb=>kk _ _ _ _ (fun e=>hb e)) (hf.ne hk)
theorem zBn3 {g:Nat} {t:TypeId} {cs:List Value} {w:World} (h:Holds g t cs w) (i:Nat) (v:Value):Holds g t (cs.set i v) (w.setCell ⟨g,i,none⟩ v):=by
 unfold Holds at h ⊢
 simp[World.setCell,Array.getElem?_modify,h]
theorem XQPO (r:RawF) (lv tv sv cv:Value) (w:World) (hr:IsRaw w r lv tv sv cv) (g1:r.lens.length≤1000000) (g2:r.plan.spots.length≤1000000) (g3:r.plan.curve.length≤1000000) :
  Calls Tryz.prog 67 #[.agg (rawA r lv tv sv cv)] w fun e w'=>∃lv' sv' cv',e=.returned (.agg (rawA (bareR r) lv' (.slice none 0 0) sv' cv'))∧IsRaw w' (bareR r) lv' (.slice none 0 0) sv' cv'∧Below w.heap.size w w'∧Fresh w.heap.size lv'∧Fresh w.heap.size sv'∧Fresh w.heap.size cv'∧Free w' lv'∧Free w' cv':=by
 have HL:=hide hr.lens
 have HS:=hide hr.plan.spots
 have HC:=hide hr.plan.curve
 obtain ⟨lo,lc,rfl,_,_⟩:=hr.lens
 obtain ⟨tp,tc,rfl,_,_⟩:=hr.strips
 obtain ⟨so,sc,rfl,_,_⟩:=hr.plan.spots
 obtain ⟨co,cc,rfl,_,_⟩:=hr.plan.curve
 obtain ⟨a1,a2⟩:=al2 w (ka (rawA r (.slice lo r.lens.length lc) (.slice tp r.strips.length tc) (.slice so r.plan.spots.length sc) (.slice co r.plan.curve.length cc)) 57) (ka rawZ 57)
 have HB:=hide (be2 w (ka (rawA r (.slice lo r.lens.length lc) (.slice tp r.strips.length tc) (.slice so r.plan.spots.length sc) (.slice co r.plan.curve.length cc)) 57) (ka rawZ 57))
 have hl1:=(kc.1 a1).1
 have hl2:=(kc.1 a2).1
 obtain ⟨s0,s1,s2,s3,s4,s5,s6,s13,s26⟩:=zUTj a1
 clear hr
 go_enter Tryz.func67,Tryz.ntmps67
 go_wp2_with fail
 clear s0 s1 s2 s3 s4 s5 s6 s13 s26
 generalize (w.alloc (ka (rawA r (.slice lo r.lens.length lc) (.slice tp r.strips.length tc) (.slice so r.plan.spots.length sc) (.slice co r.plan.curve.length cc)) 57)).alloc (ka rawZ 57)=U at *
 refine (zy2s _ r.lens U (HL.out.below HB.out (ki _)) g1).mono ?_
 rintro e V1 ⟨lv',rfl,hI1,hb1,hf1,hE1⟩
 have b1:Holds w.heap.size 57 (rawA r (.slice lo r.lens.length lc) (.slice tp r.strips.length tc) (.slice so r.plan.spots.length sc) (.slice co r.plan.curve.length cc)).toList V1:=(hb1.block _ hl1).trans a1
 have z1:V1.heap[w.heap.size+1]?=some (.cells rawZ 57 (0,0)):=(hb1.block _ hl2).trans a2
 have c5:V1.cell? ⟨w.heap.size,5,none⟩=some (.slice lo r.lens.length lc):=by rw[kg b1];rfl
 have f5:V1.frozen? ⟨w.heap.size,5,none⟩=false:=kf b1 _
 have HI1:=hide hI1
 obtain ⟨lo',lc',rfl,_,_⟩:=hI1
 have b2:=zBn3 b1 5 (.slice lo' r.lens.length lc')
 have c6:(V1.setCell ⟨w.heap.size,5,none⟩ (.slice lo' r.lens.length lc')).cell? ⟨w.heap.size,6,none⟩=some (.slice tp r.strips.length tc):=by rw[kg b2];rfl
 have f6:(V1.setCell ⟨w.heap.size,5,none⟩ (.slice lo' r.lens.length lc')).frozen? ⟨w.heap.size,6,none⟩=false:=kf b2 _
 have b3:=zBn3 b2 6 (.slice none 0 0)
 have b3:Holds w.heap.size 57 (rawA (bareR r) (.slice lo' r.lens.length lc') (.slice none 0 0) (.slice so r.plan.spots.length sc) (.slice co r.plan.curve.length cc)).toList ((V1.setCell ⟨w.heap.size,5,none⟩ (.slice lo' r.lens.length lc')).setCell ⟨w.heap.size,6,none⟩ (.slice none 0 0)):=b3
 have hkk:∀k,k≠w.heap.size→((V1.setCell ⟨w.heap.size,5,none⟩ (.slice lo' r.lens.length lc')).setCell ⟨w.heap.size,6,none⟩ (.slice none 0 0)).heap[k]?=V1.heap[k]?:=fun k hk=>(kk _ _ _ _ (fun e=>hk e)).trans (kk _ _ _ _ (fun e=>hk e))
 have z2:=(hkk (w.heap.size+1) (by omega)).trans z1
 have c13:((V1.setCell ⟨w.heap.size,5,none⟩ (.slice lo' r.lens.length lc')).setCell ⟨w.heap.size,6,none⟩ (.slice none 0 0)).cell? ⟨w.heap.size,13,none⟩=some (.slice so r.plan.spots.length sc):=by rw[kg b3];rfl
 have HI2:=hide ((HI1.out.cell (k:=w.heap.size) (i:=5) (u:=.slice lo' r.lens.length lc') hf1 hl1).cell (k:=w.heap.size) (i:=6) (u:=.slice none 0 0) hf1 hl1)
 have HE2:=hide ((hE1.cell (k:=w.heap.size) (i:=5) (u:=.slice lo' r.lens.length lc') hf1 hl1).cell (k:=w.heap.size) (i:=6) (u:=.slice none 0 0) hf1 hl1)
 have HB2:=hide (((quJN HB.out hb1).setCell (p:=⟨w.heap.size,5,none⟩) (ki _) (.slice lo' r.lens.length lc')).setCell (p:=⟨w.heap.size,6,none⟩) (ki _) (.slice none 0 0))
 have hsz:=hb1.size
 have HSZ:=hide (show U.heap.size≤((V1.setCell ⟨w.heap.size,5,none⟩ (.slice lo' r.lens.length lc')).setCell ⟨w.heap.size,6,none⟩ (.slice none 0 0)).heap.size by simp[World.setCell];exact hsz)
 clear b1 b2 z1 hkk
 go_wp2_with fail
 clear c5 f5 c6 f6 c13
 generalize (V1.setCell ⟨w.heap.size,5,none⟩ (.slice lo' r.lens.length lc')).setCell ⟨w.heap.size,6,none⟩ (.slice none 0 0)=W2 at *
 refine (zb1r _ r.plan.spots W2 (HS.out.below HB2.out (ki _)) g2).mono ?_
 rintro e V3 ⟨sv',rfl,hI3,hb3,hf3⟩
 have HI3:=hide hI3
 obtain ⟨so',sc',rfl,_,_⟩:=hI3
 have hl3:w.heap.size<W2.heap.size:=kj hl1 HSZ.out
 have b4:Holds w.heap.size 57 _ V3:=(hb3.block _ hl3).trans b3
 have z4:V3.heap[w.heap.size+1]?=some (.cells rawZ 57 (0,0)):=(hb3.block _ (kc.1 z2).1).trans z2
 have HL4:=hide (HI2.out.below hb3 (ki _))
 have HE4:=hide (HE2.out.below hb3 (ki _))
 have c13:V3.cell? ⟨w.heap.size,13,none⟩=some (.slice so r.plan.spots.length sc):=by rw[kg b4];rfl
 have f13:V3.frozen? ⟨w.heap.size,13,none⟩=false:=kf b4 _
 have b5:=zBn3 b4 13 (.slice so' r.plan.spots.length sc')
 have b5:Holds w.heap.size 57 (rawA (bareR r) (.slice lo' r.lens.length lc') (.slice none 0 0) (.slice so' r.plan.spots.length sc') (.slice co r.plan.curve.length cc)).toList (V3.setCell ⟨w.heap.size,13,none⟩ (.slice so' r.plan.spots.length sc')):=b5
 have z5:=(kk V3 ⟨w.heap.size,13,none⟩ (.slice so' r.plan.spots.length sc') (w.heap.size+1) (show w.heap.size+1≠w.heap.size by omega)).trans z4
 have c26:(V3.setCell ⟨w.heap.size,13,none⟩ (.slice so' r.plan.spots.length sc')).cell? ⟨w.heap.size,26,none⟩=some (.slice co r.plan.curve.length cc):=by rw[kg b5];rfl
 have HL5:=hide (HL4.out.cell (k:=w.heap.size) (i:=13) (u:=.slice so' r.plan.spots.length sc') hf1 hl1)
 have HE5:=hide (HE4.out.cell (k:=w.heap.size) (i:=13) (u:=.slice so' r.plan.spots.length sc') hf1 hl1)
 have HS5:=hide (HI3.out.cell (k:=w.heap.size) (i:=13) (u:=.slice so' r.plan.spots.length sc') hf3 hl3)
 have HB5:=hide ((quJN HB2.out hb3).setCell (p:=⟨w.heap.size,13,none⟩) (ki _) (.slice so' r.plan.spots.length sc'))
 have HSZ5:=hide (show W2.heap.size≤(V3.setCell ⟨w.heap.size,13,none⟩ (.slice so' r.plan.spots.length sc')).heap.size by simp[World.setCell];exact hb3.size)
 clear b4 z4 b3 z2
 go_wp2_with fail
 clear c13 f13 c26
 generalize V3.setCell ⟨w.heap.size,13,none⟩ (.slice so' r.plan.spots.length sc')=W4 at *
 refine (XzvJ _ r.plan.curve W4 (HC.out.below HB5.out (ki _)) g3).mono ?_
 rintro e V5 ⟨cv',rfl,hI5,hb5,hf5,hE5⟩
 have HI5:=hide hI5
 obtain ⟨co',cc',rfl,_,_⟩:=hI5
 have hl5:w.heap.size<W4.heap.size:=kj hl3 HSZ5.out
 have b6:Holds w.heap.size 57 _ V5:=(hb5.block _ hl5).trans b5
 have z6:V5.heap[w.heap.size+1]?=some (.cells rawZ 57 (0,0)):=(hb5.block _ (kc.1 z5).1).trans z5
 have c26:V5.cell? ⟨w.heap.size,26,none⟩=some (.slice co r.plan.curve.length cc):=by rw[kg b6];rfl
 have f26:V5.frozen? ⟨w.heap.size,26,none⟩=false:=kf b6 _
 have b7:=zBn3 b6 26 (.slice co' r.plan.curve.length cc')
 obtain ⟨RA,hRA⟩:∃RA,rawA (bareR r) (.slice lo' r.lens.length lc') (.slice none 0 0) (.slice so' r.plan.spots.length sc') (.slice co' r.plan.curve.length cc')=RA:=⟨_,rfl⟩
 have b7:(V5.setCell ⟨w.heap.size,26,none⟩ (.slice co' r.plan.curve.length cc')).heap[w.heap.size]?=some (.cells RA 57 (0,0)):=by rw[←hRA];exact b7
 have z7:=(kk V5 ⟨w.heap.size,26,none⟩ (.slice co' r.plan.curve.length cc') (w.heap.size+1) (show w.heap.size+1≠w.heap.size by omega)).trans z6
 have HL7:=hide ((HL5.out.below hb5 (ki _)).cell (k:=w.heap.size) (i:=26) (u:=.slice co' r.plan.curve.length cc') hf1 hl1)
 have HE7:=hide ((HE5.out.below hb5 (ki _)).cell (k:=w.heap.size) (i:=26) (u:=.slice co' r.plan.curve.length cc') hf1 hl1)
 have HS7:=hide ((HS5.out.below hb5 (ki _)).cell (k:=w.heap.size) (i:=26) (u:=.slice co' r.plan.curve.length cc') hf3 hl3)
 have HC7:=hide (HI5.out.cell (k:=w.heap.size) (i:=26) (u:=.slice co' r.plan.curve.length cc') hf5 hl5)
 have HG7:=hide (hE5.cell (k:=w.heap.size) (i:=26) (u:=.slice co' r.plan.curve.length cc') hf5 hl5)
 have HB7:=hide ((quJN HB5.out hb5).setCell (p:=⟨w.heap.size,26,none⟩) (ki _) (.slice co' r.plan.curve.length cc'))
 have i1:(Tryz.prog.info? 57).map (·.size)=some RA.size:=by rw[←hRA];kernel_rfl
 have i2:(rawZ:Array Value).size=RA.size:=by rw[←hRA];rfl
 have i3:RA.all (·.oneCell')=true:=by rw[←hRA];simp[Value.oneCell']
 have HRA:=hide hRA
 clear hRA b6 z6 b5 z5
 go_upto_region 5 with fail
 clear c26 f26
 generalize V5.setCell ⟨w.heap.size,26,none⟩ (.slice co' r.plan.curve.length cc')=W6 at *
 have HG:=hide (setRow_heap _ _ _ RA _ _ z7)
 have hk:∀k,k≠w.heap.size+1→(W6.setRow (w.heap.size+1) RA).heap[k]?=W6.heap[k]?:=fun k hk=>setRow_other _ _ _ _ hk
 have HBF:=hide (below_setRow (g:=w.heap.size+1) HB7.out (Nat.le_succ _) RA)
 have hu2:w.heap.size+1<U.heap.size:=hl2
 have HIF:=hide (show IsRaw (W6.setRow (w.heap.size+1) RA) (bareR r) (.slice lo' r.lens.length lc') (.slice none 0 0) (.slice so' r.plan.spots.length sc') (.slice co' r.plan.curve.length cc') from
  ⟨HL7.out.other (k:=w.heap.size+1) (by simp) hk (hf1.ne hl2),zGcC.nil _,HS7.out.other (k:=w.heap.size+1) (by simp) hk (hf3.ne (by have:=HSZ.out;omega)),HC7.out.other (k:=w.heap.size+1) (by simp) hk (hf5.ne (by have:=HSZ.out;have:=HSZ5.out;omega))⟩)
 have HFE:=hide (show Free (W6.setRow (w.heap.size+1) RA) (.slice lo' r.lens.length lc')∧Free (W6.setRow (w.heap.size+1) RA) (.slice co' r.plan.curve.length cc') from ⟨HE7.out.other hk (hf1.ne hl2),HG7.out.other hk (hf5.ne (by have:=HSZ.out;have:=HSZ5.out;omega))⟩)
 have HFR:=hide (show Fresh w.heap.size (.slice lo' r.lens.length lc')∧Fresh w.heap.size (.slice so' r.plan.spots.length sc')∧Fresh w.heap.size (.slice co' r.plan.curve.length cc') from ⟨hf1.mono (by omega),hf3.mono (by omega),hf5.mono (by omega)⟩)
 clear HL7 HS7 HC7 hf1 hf3 hf5 hk
 go_wp2_with (first|refine wpList_load_row rfl 57 _ rfl _ rfl _ _ _ _ b7 Tryz.underlying57 rfl i1 ?_|refine wpList_store_row rfl 57 _ _ rfl (w.heap.size+1) RA rfl rfl _ _ z7 i1 i2 i3 ?_)
 refine bodyPost_ret (v:=.agg RA) (results_cell_row Tryz.results67 _ _ _ _ _ _ _ rfl HG.out Tryz.underlying57 rfl i1) rfl ⟨_,_,_,by rw[HRA.out],HIF.out,HBF.out,HFR.out.1,HFR.out.2.1,HFR.out.2.2,HFE.out⟩
theorem zX1t {w w':World} {base:Nat} {e:TypeId} {sz:Nat} {v:Value} {n:Nat} {xs:List Value} (h:w.ownsRow base e sz v n xs) (hk:∀g,v.ownBlock=some g→w'.heap[g]?=w.heap[g]?):w'.ownsRow base e sz v n xs:=by
 refine ⟨h.1,?_⟩
 rcases h.2 with h|⟨g,cap,cur,hv,hg,hh,r⟩
 ·exact .inl h
 ·exact .inr ⟨g,cap,cur,hv,hg,(hk g (by rw[hv];rfl)).trans hh,r⟩
abbrev RowX:=TypeId×Nat×Value×Nat×List Value
def NilZ (v:Value):Prop:=∀n c,v=.slice none n c→n=0∧c=0
theorem j5zS {et ct:TypeId} {sz:Nat} (ce:ct≠et) {V w1 w:World} {B base PB i:Nat} {cs:List Value} {so:Option Addr} {scap k m:Nat} {v':Value} {xs ys:List Value}
  (i1:Holds PB ct cs V) (hi:cs[i]?=some (.slice so k scap)) (i2:V.ownsRow base et sz (.slice so k scap) k xs) (i5:Below B w V) (hB:B≤base) (hPB:B≤PB) (hw:B≤V.heap.size)
  (hg:V.grownBy w1 (Value.slice so k scap).ownBlock) (ho:w1.ownsRow base et sz v' m ys) :
  w1.cell? ⟨PB,i,none⟩=some (.slice so k scap)∧w1.frozen? ⟨PB,i,none⟩=false∧Holds PB ct (cs.set i v') (w1.setCell ⟨PB,i,none⟩ v')∧(w1.setCell ⟨PB,i,none⟩ v').ownsRow base et sz v' m ys ∧
   Below B w (w1.setCell ⟨PB,i,none⟩ v')∧(∀b,b<V.heap.size→some b≠(Value.slice so k scap).ownBlock→b≠PB→(w1.setCell ⟨PB,i,none⟩ v').heap[b]?=V.heap[b]?):=by
 have keep:∀b,b<V.heap.size→some b≠(Value.slice so k scap).ownBlock→w1.heap[b]?=V.heap[b]?:=fun b hb hne=>hg.block b hb hne
 have kP:Holds PB ct cs w1:=(keep PB i1.lt (qYYy i2 i1 ce)).trans i1
 refine ⟨by rw[kg kP];simpa using hi,kf kP i,zBn3 kP i v',ownsRow_setCell_other ho (fun e=>qYYy ho kP ce e.symm) _,?_,fun b hb hne hn=>(kk _ _ _ _ hn).trans (keep b hb hne)⟩
 exact (i5.grown hg hw (fun j hj=>Nat.le_trans hB (i2.lt j hj).1)).setCell (p:=⟨PB,i,none⟩) hPB _
theorem zGcC.own {w:World} {base:Nat} {v:Value} {ts:List (List UInt8)} (h:w.ownsRow base 9 1 v ts.length (ts.map strV)) (hl:ts.length≤9223372036854775807):zGcC w v ts:=by
 rcases h.2 with ⟨hv,hn⟩|⟨g,cap,cur,hv,_,hg,_⟩
 ·exact ⟨none,0,by rw[hv,hn],hl,.inl (List.eq_nil_of_length_eq_zero hn)⟩
 ·refine ⟨_,cap,hv,hl,.inr ⟨g,0,rfl,(kc.1 hg).1,fun j hj=>?_⟩⟩
  subst hv
  rw[Nat.zero_add,h.cellAt j (by omega)]
  simp[hj,strV]
theorem zu5m {fn:Func} (hfn:fn.results=#[.cell 4 57,.tmp 5]) (tmps:Array Value) (R:Nat) (cs:Array Value) (z:Value) (W:World) (h2:tmps.getD 4 undef=.pointer (some ⟨R,0,none⟩)) (h3:tmps.getD 5 undef=z)
  (hR:W.heap[R]?=some (.cells cs 57 (0,0))) (hs:(Tryz.prog.info? 57).map (·.size)=some cs.size) :
  (results fn tmps).run Tryz.prog W=.ok (.tuple #[.agg cs,z]) W:=by
 have hl:=run_loadVar_row (P:=Tryz.prog) W R 57 57 cs (0,0) _ hR Tryz.underlying57 rfl hs
 have h2':tmps[4]?.getD undef=.pointer (some ⟨R,0,none⟩):=by simpa using h2
 have h3':tmps[5]?.getD undef=z:=by simpa using h3
 simp[results,hfn,h2',h3',asAddr,hl]
theorem qLPT (P:Program) (t e:TypeId) (ht:P.underlying t=some (.slice (P.elem t))) (hs:∀w,(sizeOf (P.elem t)).run P w=.ok 1 w) (a:Addr) (n c M:Nat) (h:M≤n) (w:World) :
  (Instr.slice t (.slice (some a) n c) (some (.int .i64 M)) none none).run P w=.ok (.slice (some (if c=M then a else a.add M)) (n-M) (c-M)) w:=by
 rw[run_slice_l w t (some a) n c ht .i64 M (by omega) (by omega),hs]
 simp only[Result.andThen,sliced,kl,Nat.mul_one,Option.map_some]
 split<;>simp_all
theorem j7yL (P:Program) (t e:TypeId) (ht:P.underlying t=some (.slice (P.elem t))) (hs:∀w,(sizeOf (P.elem t)).run P w=.ok 1 w) (b o n c M:Nat) (h:M≤c) (w:World) :
  (Instr.slice t (.slice (some ⟨b,o,none⟩) n c) none (some (.int .i64 M)) none).run P w=.ok (.slice (some ⟨b,o,none⟩) M c) w:=by
 rw[run_slice_h w t (some ⟨b,o,none⟩) n c ht .i64 M (by omega) (by omega),hs]
 simp only[Result.andThen,sliced,kl,Nat.zero_mul,Nat.sub_zero,Option.map_some]
 split<;>simp_all[Addr.add_lit]
theorem zrZW {w:World} {zs:List Int} {bk off ca P M:Nat} (hc:∀j,j<zs.length→w.cell? ⟨bk,off+j,none⟩=some (.int .i64 (zAt zs j))) (hb:bk<w.heap.size) (h:P+M≤zs.length) (hz:zs.length≤4096):jCvT w (.slice (some ⟨bk,off+P,none⟩) M (ca-P)) ((zs.drop P).take M):=by
 have hl:((zs.drop P).take M).length=M:=by rw[List.length_take,List.length_drop];omega
 refine ⟨_,_,by rw[hl],by omega,.inr ⟨bk,_,rfl,hb,fun j hj=>?_⟩⟩
 rw[Nat.add_assoc,hc (P+j) (by omega)]
 simp[zAt,List.getD_eq_getElem?_getD,show P+j<zs.length by omega]
def FiJ (r:RawF) (zs:List Int) (lv sv cv:Value) (QX k:Nat) (U wr:World):Prop :=
 ∃(so:Option Addr) (cap:Nat),fiOk r zs k=true∧Holds QX 57 (rawA r lv (.slice so k cap) sv cv).toList wr∧wr.ownsRow QX 9 1 (.slice so k cap) k ((fiS r zs k).map strV)∧Below QX U wr
theorem FiJ.below {r:RawF} {zs:List Int} {lv sv cv:Value} {QX k:Nat} {U wr V:World} (h:FiJ r zs lv sv cv QX k U wr) (hV:Below wr.heap.size wr V):FiJ r zs lv sv cv QX k U V:=by
 obtain ⟨so,cap,h1,h2,h3,h4⟩:=h
 exact ⟨so,cap,h1,(hV.block _ h2.lt).trans h2,qw14 h3 hV,h4.trans (hV.mono (Nat.le_of_lt h2.lt))⟩
theorem XY7N (r:RawF) (lv tv sv cv:Value) (PW PH:Int) (v:Value) (zs:List Int) (w:World) (hr:IsRaw w r lv tv sv cv) (hv:jCvT w v zs) (hroom:roomy v) :
  Calls Tryz.prog 19 #[.agg (rawA r lv tv sv cv),.agg #[.int .i64 PW,.int .i64 PH,v]] w fun e w'=>Below w.heap.size w w'∧((XQ5R r PW PH zs=0∧∃lv' tv' sv' cv',e=.returned (.tuple #[.agg (rawA (qtvI r zs) lv' tv' sv' cv'),.int .i64 0])∧IsRaw w' (qtvI r zs) lv' tv' sv' cv'∧Fresh w.heap.size lv'∧Fresh w.heap.size tv'∧Fresh w.heap.size sv'∧Fresh w.heap.size cv'∧Free w' lv'∧Free w' cv') ∨
   (XQ5R r PW PH zs≠0∧e=.returned (.tuple #[.agg rawZ,.int .i64 (XQ5R r PW PH zs)]))):=by
 have HR:=hide hr
 have HV:=hide hv
 have HCH:=hide (fun (u:World) (hu:Below w.heap.size w u)=>zjUe r lv tv sv cv u (HR.out.lens.below hu (ki _)))
 have HCP:=hide (fun (u:World) (hu:Below w.heap.size w u)=>z6ad r lv tv sv cv u (HR.out.plan.below hu (ki _)))
 have HPL:=hide (fun (u:World) (hu:Below w.heap.size w u)=>XeC7 PW PH v zs u (HV.out.below hu (ki _)))
 have HDP:=hide (fun (hd:1≤r.depth∧r.depth≤16) (u:World) (hu:Below w.heap.size w u)=>qr0y v zs r.depth u hd (HV.out.below hu (ki _)))
 have HBA:=hide (fun (u:World) (hu:Below w.heap.size w u) g1 g2 g3=>XQPO r lv tv sv cv u (HR.out.below hu (ki _)) g1 g2 g3)
 have HSC0:=hide (fun (u:World) (h:Head r)=>X0bE r lv tv sv cv u h)
 have HSR0:=hide (fun (k:Nat) (u:World) (h:Head r) (hk:k<cntN r)=>jN9a r lv tv sv cv k u h hk)
 have HWS0:=hide (fun (v':Value) (l:List Int) (n:Int) (u:World) (hu:Below w.heap.size w u) (hv':jCvT u v' l)=>jhSJ r lv tv sv cv v' l n u (HR.out.lens.below hu (ki _)) hv')
 have HE:=hide (show XQ5R r PW PH zs=if headE r=0 then (if pErr r=0 then (if fitP r PW PH zs=true then (if fiOk r zs (cntN r)=true then 0 else 4) else 1) else pErr r) else headE r from rfl)
 have HFP:=hide (show fitP r PW PH zs=(q0fM PW PH zs && decide (PW=r.w) && decide (PH=r.h) && jgbG r.depth zs) from rfl)
 generalize XQ5R r PW PH zs=E at *
 obtain ⟨vo,vc,rfl,hvl,_⟩:=hv
 have hvc:zs.length≤vc:=hroom
 obtain ⟨a1,a2,a3⟩:=al3 w (ka (rawA r lv tv sv cv) 57) (ka #[.int .i64 PW,.int .i64 PH,.slice vo zs.length vc] 54) (ka rawZ 57)
 have HB:=hide (be3 w (ka (rawA r lv tv sv cv) 57) (ka #[.int .i64 PW,.int .i64 PH,.slice vo zs.length vc] 54) (ka rawZ 57))
 have hl1:=(kc.1 a1).1
 have hl2:=(kc.1 a2).1
 have hl3:=(kc.1 a3).1
 have iz:(Tryz.prog.info? 57).map (·.size)=some (rawZ:Array Value).size:=by kernel_rfl
 have oz:(rawZ:Array Value).all (·.oneCell')=true:=by simp[Value.oneCell']
 clear hr hroom
 go_enter Tryz.func19,Tryz.ntmps19
 go_wp2_with (refine wpList_load_row rfl 57 _ rfl _ rfl _ _ _ _ a1 Tryz.underlying57 rfl (by kernel_rfl) ?_)
 generalize ((w.alloc (ka (rawA r lv tv sv cv) 57)).alloc (ka #[.int .i64 PW,.int .i64 PH,.slice vo zs.length vc] 54)).alloc (ka rawZ 57)=U at *
 have HRC:=hide (fun (v:World) (h:v.heap[w.heap.size]?=some (.cells (rawA r lv tv sv cv) 57 (0,0)))=>zUTj h)
 have hi28:(Tryz.prog.info? 57).map (·.size)=some ((rawA r lv tv sv cv):Array Value).size:=by kernel_rfl
 generalize (rawA r lv tv sv cv)=RQ at *
 refine (HCH.out _ HB.out).mono ?_
 rintro e V1 ⟨rfl,hb1⟩
 by_cases hF:headE r=0
 rotate_left
 ·rw[if_neg hF] at HE
  have he:=HE.out
  subst he
  have hn:(headE r != 0)=true:=by simpa using hF
  have g3:=(hb1.block _ hl3).trans a3
  have HG:=hide (setRow_heap _ _ _ rawZ _ _ g3)
  have HBF:=hide (below_setRow (g:=w.heap.size+2) (quJN HB.out hb1) (by omega) rawZ)
  go_wp2_with (refine wpList_store_row rfl 57 _ _ rfl (w.heap.size+2) rawZ rfl rfl _ _ g3 iz rfl oz ?_)
  refine bodyPost_ret (v:=.tuple #[.agg rawZ,.int .i64 (headE r)]) (zu5m Tryz.results19 _ _ _ _ _ rfl rfl HG.out iz) rfl ⟨HBF.out,.inr ⟨hF,rfl⟩⟩
 rw[if_pos hF] at HE
 rw[hF]
 have hH:=jWRa hF
 have HHD:=hide hH
 have g1:=(hb1.block _ hl1).trans a1
 clear HCH hF
 go_wp2_with (refine wpList_load_row rfl 57 _ rfl _ rfl _ _ _ _ g1 Tryz.underlying57 rfl hi28 ?_)
 refine (HCP.out _ (quJN HB.out hb1)).mono ?_
 rintro e V2 ⟨rfl,hb2⟩
 replace hb2:=quJN hb1 hb2
 clear g1 hb1
 by_cases hP:pErr r=0
 rotate_left
 ·rw[if_neg hP] at HE
  have he:=HE.out
  subst he
  have hn:(pErr r != 0)=true:=by simpa using hP
  have g3:=(hb2.block _ hl3).trans a3
  have HG:=hide (setRow_heap _ _ _ rawZ _ _ g3)
  have HBF:=hide (below_setRow (g:=w.heap.size+2) (quJN HB.out hb2) (by omega) rawZ)
  go_wp2_with (refine wpList_store_row rfl 57 _ _ rfl (w.heap.size+2) rawZ rfl rfl _ _ g3 iz rfl oz ?_)
  refine bodyPost_ret (v:=.tuple #[.agg rawZ,.int .i64 (pErr r)]) (zu5m Tryz.results19 _ _ _ _ _ rfl rfl HG.out iz) rfl ⟨HBF.out,.inr ⟨hP,rfl⟩⟩
 rw[if_pos hP] at HE
 rw[hP]
 have HPZ:=hide hP
 clear HCP hP
 have g2:=(hb2.block _ hl2).trans a2
 obtain ⟨p0,p1,p2⟩:=z5EY g2
 go_wp2_with fail
 clear p0 p1 p2
 refine (HPL.out _ (quJN HB.out hb2)).mono ?_
 rintro e V3 ⟨rfl,hb3⟩
 replace hb3:=quJN hb2 hb3
 clear g2 hb2 HPL
 have g2:=(hb3.block _ hl2).trans a2
 have g1:=(hb3.block _ hl1).trans a1
 obtain ⟨p0,p1,p2⟩:=z5EY g2
 obtain ⟨s0,s1,s2,s3,s4,s5,s6,s13,s26⟩:=HRC.out _ g1
 clear g1 g2
 cases hpo:q0fM PW PH zs
 ·have he:E=1:=by rw[HE.out,HFP.out,hpo];rfl
  subst he
  clear HFP
  have g3:=(hb3.block _ hl3).trans a3
  have HG:=hide (setRow_heap _ _ _ rawZ _ _ g3)
  have HBF:=hide (below_setRow (g:=w.heap.size+2) (quJN HB.out hb3) (by omega) rawZ)
  go_wp2_with (refine wpList_store_row rfl 57 _ _ rfl (w.heap.size+2) rawZ rfl rfl _ _ g3 iz rfl oz ?_)
  refine bodyPost_ret (v:=.tuple #[.agg rawZ,.int .i64 1]) (zu5m Tryz.results19 _ _ _ _ _ rfl rfl HG.out iz) rfl ⟨HBF.out,.inr ⟨by decide,rfl⟩⟩
 by_cases hpw:PW=r.w
 rotate_left
 ·have hn1:(PW != r.w)=true:=by simpa using hpw
  have he:E=1:=by rw[HE.out,HFP.out,decide_eq_false hpw];simp
  subst he
  clear HFP
  have g3:=(hb3.block _ hl3).trans a3
  have HG:=hide (setRow_heap _ _ _ rawZ _ _ g3)
  have HBF:=hide (below_setRow (g:=w.heap.size+2) (quJN HB.out hb3) (by omega) rawZ)
  go_wp2_with (refine wpList_store_row rfl 57 _ _ rfl (w.heap.size+2) rawZ rfl rfl _ _ g3 iz rfl oz ?_)
  refine bodyPost_ret (v:=.tuple #[.agg rawZ,.int .i64 1]) (zu5m Tryz.results19 _ _ _ _ _ rfl rfl HG.out iz) rfl ⟨HBF.out,.inr ⟨by decide,rfl⟩⟩
 have hn1:(PW != r.w)=false:=by simpa using hpw
 by_cases hph:PH=r.h
 rotate_left
 ·have hn2:(PH != r.h)=true:=by simpa using hph
  have he:E=1:=by rw[HE.out,HFP.out,decide_eq_false hph];simp
  subst he
  clear HFP
  have g3:=(hb3.block _ hl3).trans a3
  have HG:=hide (setRow_heap _ _ _ rawZ _ _ g3)
  have HBF:=hide (below_setRow (g:=w.heap.size+2) (quJN HB.out hb3) (by omega) rawZ)
  go_wp2_with (refine wpList_store_row rfl 57 _ _ rfl (w.heap.size+2) rawZ rfl rfl _ _ g3 iz rfl oz ?_)
  refine bodyPost_ret (v:=.tuple #[.agg rawZ,.int .i64 1]) (zu5m Tryz.results19 _ _ _ _ _ rfl rfl HG.out iz) rfl ⟨HBF.out,.inr ⟨by decide,rfl⟩⟩
 have hn2:(PH != r.h)=false:=by simpa using hph
 go_wp2_with fail
 refine (HDP.out HHD.out.depth _ (quJN HB.out hb3)).mono ?_
 rintro e V4 ⟨rfl,rfl⟩
 cases hdo:jgbG r.depth zs
 ·have he:E=1:=by rw[HE.out,HFP.out,hdo];simp
  subst he
  clear HFP p0 p1 p2 s0 s1 s2 s3 s4 s5 s6 s13 s26
  have g3:=(hb3.block _ hl3).trans a3
  have HG:=hide (setRow_heap _ _ _ rawZ _ _ g3)
  have HBF:=hide (below_setRow (g:=w.heap.size+2) (quJN HB.out hb3) (by omega) rawZ)
  go_wp2_with (refine wpList_store_row rfl 57 _ _ rfl (w.heap.size+2) rawZ rfl rfl _ _ g3 iz rfl oz ?_)
  refine bodyPost_ret (v:=.tuple #[.agg rawZ,.int .i64 1]) (zu5m Tryz.results19 _ _ _ _ _ rfl rfl HG.out iz) rfl ⟨HBF.out,.inr ⟨by decide,rfl⟩⟩
 have hfit:fitP r PW PH zs=true:=by rw[HFP.out,hpo,hdo,decide_eq_true hpw,decide_eq_true hph];rfl
 rw[if_pos hfit] at HE
 have HFT:=hide hfit
 obtain ⟨hW,hHh,hlen,_⟩:=qwcI hpo
 have hsm:=zAFj hW hHh
 have hn1':1≤zs.length:=by omega
 have hz4:zs.length≤4096:=by omega
 have HLEN:=hide (show (zs.length:Int)=r.w*r.h by rw[hlen,hpw,hph])
 obtain ⟨bk,off,ca,hve,hbk,hcell⟩:=HV.out.cells hn1'
 cases hve
 have HC:=hide hcell
 clear HFP HDP hfit hpo hdo hpw hph hn1 hn2 p0 p1 p2 s0 s1 s2 s3 s4 s5 s6 s13 s26 hlen hsm hcell hW hHh hH
 have g1:=(hb3.block _ hl1).trans a1
 have hle17:r.lens.length≤1000000:=by
  have:=HHD.out.lens
  unfold kindE at this
  split at this
  ·split at this
   ·omega
   ·cases this
  ·have:=(zF8D this).2.1;omega
 have hplz:planE r.plan=0:=by
  have:=HPZ.out
  unfold pErr at this
  split at this
  ·assumption
  ·exact this
 have hsp:r.plan.spots.length≤1000000:=by have:=(qwVl hplz).2.2.2.2.2.1;omega
 have hcu:r.plan.curve.length≤1000000:=by have:=qcx1 (qwVl hplz).2.2.2.2.2.2.2;omega
 go_wp2_with (refine wpList_load_row rfl 57 _ rfl _ rfl _ _ _ _ g1 Tryz.underlying57 rfl hi28 ?_)
 clear g1
 refine (HBA.out _ (quJN HB.out hb3) hle17 hsp hcu).mono ?_
 rintro e VB ⟨lv',sv',cv',rfl,hIB,hbB,f1,f3,f4,hE1,hE4⟩
 clear HBA hle17 hplz hsp hcu
 have HFR:=hide (show Fresh U.heap.size lv'∧Fresh U.heap.size sv'∧Fresh U.heap.size cv' from ⟨f1.mono hb3.size,f3.mono hb3.size,f4.mono hb3.size⟩)
 replace hbB:=quJN hb3 hbB
 clear hb3 f1 f3 f4
 have HIB:=hide hIB
 have HEB:=hide (And.intro hE1 hE4)
 clear hE1 hE4
 have HO:=hide (XIRQ hIB)
 have HRAW:=hide (show rawA (bareR r) lv' (.slice none 0 0) sv' cv'=rawA r lv' (.slice none 0 0) sv' cv' from rfl)
 obtain ⟨RA,hRA⟩:∃RA,rawA (bareR r) lv' (.slice none 0 0) sv' cv'=RA:=⟨_,rfl⟩
 have i1:(Tryz.prog.info? 57).map (·.size)=some RA.size:=by rw[←hRA];kernel_rfl
 have i2:(rawZ:Array Value).size=RA.size:=by rw[←hRA];rfl
 rw[hRA] at HO HRAW ⊢
 have HRA:=hide hRA
 have hos:=HO.out
 clear hRA hIB
 have z1:=al1 VB (ka rawZ 57)
 have c1:=setRow_heap _ _ _ RA _ _ z1
 have HBX:=hide (below_setRow (g:=VB.heap.size) (qUNz VB (ka rawZ 57)) (ki _) RA)
 go_upto_region 10 with (refine wpList_store_row rfl 57 _ _ rfl VB.heap.size RA rfl rfl _ _ z1 i1 i2 hos ?_)
 clear z1
 obtain ⟨QX,hQX⟩:∃QX,VB.heap.size=QX:=⟨_,rfl⟩
 rw[hQX] at c1 HBX ⊢
 have HJ0:=hide (show FiJ r zs lv' sv' cv' QX 0 VB ((VB.alloc (ka rawZ 57)).setRow QX RA) from ⟨none,0,rfl,c1.trans (by rw[HRAW.out]),⟨by simp[fiS],.inl ⟨rfl,rfl⟩⟩,HBX.out⟩)
 have hUQ:U.heap.size≤QX:=by rw[←hQX];exact hbB.size
 generalize (VB.alloc (ka rawZ 57)).setRow QX RA=V5 at *
 have hb5:Below U.heap.size U V5:=hbB.trans (HBX.out.mono hUQ)
 have HSC:=hide (fun (u:World)=>HSC0.out u HHD.out)
 have g1:=(hb5.block _ hl1).trans a1
 have g2:=(hb5.block _ hl2).trans a2
 obtain ⟨p0,p1,p2⟩:=z5EY g2
 have hcp:=HHD.out.cnt_le
 have HPA:=hide (jXie HHD.out)
 clear HBX c1 HO HRAW hos i1 i2 HRA
 clear g2 HSC0
 generalize hC:cntN r=C at *
 have HCN:=hide hC
 clear hC
 go_wp2_with (refine wpList_load_row rfl 57 _ rfl _ rfl _ _ _ _ g1 Tryz.underlying57 rfl hi28 ?_)
 refine (HSC.out _).mono ?_
 rintro e V6 ⟨rfl,hb6⟩
 have HJ6:=hide (HJ0.out.below hb6)
 clear HJ0 g1 p0 p1 p2 HSC hb5
 have HBU:=hide (show Below U.heap.size U VB from hbB)
 go_wp2_with fail
 go_loopw [9,58] (fun lf i wr=>∃k:Nat,k≤C∧i=.int .i64 k∧(∃ao m c,lf=.slice (some ao) m c∧(k<C→ao=⟨bk,off+parN r k,none⟩∧m=zs.length-parN r k∧c=vc-parN r k))∧FiJ r zs lv' sv' cv' QX k VB wr) (fun _ i _=>C-(intOf i).toNat)
 case atStart=>exact ⟨0,Nat.zero_le _,rfl,⟨_,_,_,rfl,fun _=>by simp[parN]⟩,HJ6.out⟩
 case round =>
  clear HJ6
  obtain ⟨k,hk,rfl,⟨ao,m,c,rfl,hao⟩,hJ⟩:=hrel
  have HJ:=hide hJ
  obtain ⟨so,cap,j1,j2,j3,j4⟩:=hJ
  have hUQ2:Below U.heap.size U wr:=hbB.trans (j4.mono hUQ)
  by_cases hlt:k<C
  ·have hd:decide ((k:Int)<(C:Int))=true:=by simp;omega
   obtain ⟨rfl,rfl,rfl⟩:=hao hlt
   have hlc:k<cntN r:=by have:=HCN.out;omega
   have HSR:=hide (fun (u:World)=>HSR0.out k u HHD.out hlt)
   have hple:=juYi HHD.out hlc
   have hsz:=HHD.out.size hlc
   have hL:=HLEN.out
   rw[Int.mul_comm] at hL
   rw[←hL] at hple
   obtain ⟨M,hM⟩:∃M:Nat,rowN r k*r.w=M:=⟨(rowN r k*r.w).toNat,by omega⟩
   have HPR:=hide (show parL r zs k=(zs.drop (parN r k)).take M by rw[parL,hM,kl])
   have HNX:=hide (show k+1<C→parN r (k+1)=parN r k+M∧parN r k+M<zs.length from fun h=>by
    have hc2:k+1<cntN r:=by have:=HCN.out;omega
    have e1:=q4pj HHD.out hc2
    have e2:=juYi HHD.out hc2
    have e3:=HHD.out.size hc2
    rw[hM] at e1
    rw[←hL] at e2
    omega)
   have HEI:=hide (zLqz HHD.out hlc HFT.out)
   have HFF:=hide (fun hk0=>X9zO (r:=r) (zs:=zs) hlc hk0)
   have HFS:=hide (XZj5 r zs k)
   have HOK:=hide (show wsE r (parL r zs k) (rowN r k)=0→fiOk r zs (k+1)=true from fun h0=>by rw[qTWu,j1,h0];rfl)
   rw[hM] at hple hsz
   generalize rowN r k=RN at *
   generalize hPP:parN r k=PP at *
   clear hPP
   have hwm:IntKind.i64.wrap (M:Int)=M:=IntWalk.i64_in _ (by omega)
   have hpm:PP+M≤zs.length:=by omega
   have hM1:1≤M:=by omega
   have HII:=hide (fun (u:World) (hu:Below w.heap.size w u)=>zrZW (ca:=vc) (fun j hj=>(hu.cell (p:=⟨bk,off+j,none⟩) hbk).trans (HC.out j hj)) (kj hbk hu.size) hpm hz4)
   rw[←HPR.out] at HII
   generalize parL r zs k=PT at *
   have HWS:=hide (fun (u:World) (hu:Below w.heap.size w u)=>HWS0.out _ PT RN u hu (HII.out u hu))
   obtain ⟨NP,hNP⟩:∃NP,zs.length-PP=NP:=⟨_,rfl⟩
   obtain ⟨CP,hCP⟩:∃CP,vc-PP=CP:=⟨_,rfl⟩
   obtain ⟨OP,hOP⟩:∃OP,off+PP=OP:=⟨_,rfl⟩
   rw[hCP,hOP] at HWS
   rw[hNP,hCP,hOP]
   have hMC:M≤CP:=by omega
   have hMN:M≤NP:=by omega
   have HOP:=hide hOP
   have HNP:=hide hNP
   have HCP2:=hide hCP
   clear hOP hNP hCP hL hple hsz hao
   have hsl1:∀V:World,(Instr.slice 52 (.slice (some ⟨bk,OP,none⟩) NP CP) none (some (.int .i64 M)) none).run Tryz.prog V=.ok (.slice (some ⟨bk,OP,none⟩) M CP) V:=fun V=>j7yL Tryz.prog 52 3 Tryz.underlying52 (fun _=>by kernel_rfl) bk OP NP CP M hMC V
   obtain ⟨AD,hAD⟩:∃AD:Addr,(if CP=M then (⟨bk,OP,none⟩:Addr) else (⟨bk,OP,none⟩:Addr).add M)=AD:=⟨_,rfl⟩
   have hsl2:∀V:World,(Instr.slice 52 (.slice (some ⟨bk,OP,none⟩) NP CP) (some (.int .i64 M)) none none).run Tryz.prog V=.ok (.slice (some AD) (NP-M) (CP-M)) V:=fun V=>by rw[←hAD];exact qLPT Tryz.prog 52 3 Tryz.underlying52 (fun _=>by kernel_rfl) ⟨bk,OP,none⟩ NP CP M hMN V
   have HAD:=hide hAD
   have HM:=hide hM
   clear hAD hpm HII HPR
   have hkQ:=j2.lt
   have hlw:w.heap.size<wr.heap.size:=kj hl1 hUQ2.size
   have g1:=(hUQ2.block _ hl1).trans a1
   have HS:=hide (show ∀v,Below wr.heap.size wr v→v.heap[w.heap.size]?=some (.cells RQ 57 (0,0))∧v.cell? ⟨w.heap.size,0,none⟩=some (.int .i64 r.w) from fun v h=>⟨(h.block _ hlw).trans g1,(HRC.out v ((h.block _ hlw).trans g1)).1⟩)
   clear j1 j2 j3 HSR0 HWS0
   go_wp2_with (refine wpList_load_row rfl 57 _ rfl _ rfl _ _ _ _ g1 Tryz.underlying57 rfl hi28 ?_)
   clear g1
   refine (HSR.out _).mono ?_
   rintro e X1 ⟨rfl,hx1⟩
   go_upto_region 15 with fail
   have hWd:Below wr.heap.size wr X1.drew:=hx1.drew
   have hSd:=HS.out _ hWd
   have hmx:Tryz.prog.follows .mixedOrders=true:=by kernel_rfl
   refine qYgd (S:=(fun v:World=>v.heap[w.heap.size]?=some (.cells RQ 57 (0,0))∧v.cell? ⟨w.heap.size,0,none⟩=some (.int .i64 r.w))) (f:=13) hmx ?_
   show jZdv _ _ _ _ _ _ 14 _ _ X1.drew
   refine XmaW (i:=0) (oi:=_) (v:=.agg RQ) (some 65) [] rfl rfl (by kernel_rfl) (by kernel_rfl) (by kernel_rfl) (by kernel_rfl) (by kernel_rfl) (fun _ _ _ h=>h) (Or.inl ⟨by rfl,?yy1⟩) hSd ?rr1
   case yy1=>(intro wq hSq;obtain ⟨hq1,hq2⟩:=hSq;exact XMYj 57 _ rfl _ rfl _ _ _ _ hq1 Tryz.underlying57 rfl hi28)
   simp only[kh,kb,ke,kd]
   refine takeQ 1 ?vv2 (some 66) [] ?yy2 hSd ?rr2
   case yy2=>(intro wq hSq;obtain ⟨hq1,hq2⟩:=hSq;go_simp<;>with_reducible rfl)
   simp only[kh,kb,ke,kd]
   refine takeQ 2 ?vv3 (some 67) [] ?yy3 hSd ?rr3
   case yy3=>(intro wq hSq;obtain ⟨hq1,hq2⟩:=hSq;go_simp<;>with_reducible rfl)
   simp only[kh,kb,ke,kd]
   refine takeQ 3 ?vv4 (some 68) [] ?yy4 hSd ?rr4
   case yy4=>(intro wq hSq;obtain ⟨hq1,hq2⟩:=hSq;go_simp<;>with_reducible rfl)
   simp only[kh,kb,ke,kd]
   refine takeQ 7 ?vv5 (some 72) [] ?yy5 hSd ?rr5
   case yy5=>(intro wq hSq;obtain ⟨hq1,hq2⟩:=hSq;go_simp<;>with_reducible rfl)
   simp only[kh,kb,ke,kd]
   refine takeQ 4 ?vv6 (some 69) [] ?yy6 hSd ?rr6
   case yy6=>(intro wq hSq;obtain ⟨hq1,hq2⟩:=hSq;go_simp<;>with_reducible rfl)
   simp only[kh,kb,ke,kd]
   refine XmaW (i:=5) (oi:=_) (v:=.int .i64 M) (some 70) [] rfl rfl (by kernel_rfl) (by kernel_rfl) (by kernel_rfl) (by kernel_rfl) (by kernel_rfl) (fun _ _ _ h=>h) (Or.inl ⟨by rfl,?yy7⟩) hSd ?rr7
   case yy7=>(intro wq hSq;obtain ⟨hq1,hq2⟩:=hSq;first|(go_simp;done)|(go_simp;rw[hM];try (go_simp<;>with_reducible rfl)))
   simp only[kh,kb,ke,kd]
   refine takeQ 6 ?vv8 (some 71) [] ?yy8 hSd ?rr8
   case yy8=>(intro wq hSq;obtain ⟨hq1,hq2⟩:=hSq;go_simp<;>with_reducible rfl)
   simp only[kh,kb,ke,kd]
   refine znWj (i:=8) (o:=_) (by kernel_rfl) rfl (fun K' hK=>?_)
   rw[if_pos (by rfl)]
   go_simp
   refine (HWS.out _ (quJN HB.out (quJN hUQ2 hWd))).mono ?_
   rintro e X2 ⟨rfl,hx2⟩
   have hX2:Below wr.heap.size wr X2:=quJN hWd hx2
   have hSd:=HS.out _ hX2
   refine hK.out _ _ hSd ?_
   clear hK
   try simp only[kh]
   refine takeQ 9 ?vv9 (some 64) [] ?yy9 hSd ?rr9
   case yy9=>(intro wq hSq;obtain ⟨hq1,hq2⟩:=hSq;go_simp<;>with_reducible rfl)
   simp only[kh,kb,ke,kd]
   refine takeQ 10 ?vv10 (some 74) [] ?yy10 hSd ?rr10
   case yy10=>(intro wq hSq;obtain ⟨hq1,hq2⟩:=hSq;go_simp<;>with_reducible rfl)
   simp only[kh,kb,ke,kd]
   refine takeQ 11 ?vv11 (some 75) [] ?yy11 hSd ?rr11
   case yy11=>(intro wq hSq;obtain ⟨hq1,hq2⟩:=hSq;go_simp<;>with_reducible rfl)
   simp only[kh,kb,ke,kd]
   refine znWj (i:=12) (o:=_) (by kernel_rfl) rfl (fun K' hK=>?_)
   rw[if_pos (by rfl)]
   go_simp
   have hSd:=hSd
   refine hK.out _ _ hSd ?_
   clear hK
   try simp only[kh]
   refine z9gO (o:=_) (by kernel_rfl) rfl (fun K' hK=>?_)
   rw[if_pos (by rfl)]
   go_simp
   refine hK.out _ _ ?_
   clear hK
   refine jFdp (by kernel_rfl) ?_ _
   try simp only[kh]
   clear hSd hWd hx1 hx2
   have HJ2:=hide (HJ.out.below hX2)
   clear HJ HWS HSR
   obtain ⟨so,cap,k1,k2,k3,k4⟩:=HJ2.out
   have hUX:Below U.heap.size U X2:=hbB.trans (k4.mono hUQ)
   by_cases h0:wsE r PT RN=0
   ·rw[h0]
    obtain ⟨T,hT⟩:∃T,wsS r PT RN=T:=⟨_,rfl⟩
    rw[hT] at HFS ⊢
    clear hT
    obtain ⟨i0,hi,hz0,hz1,hz2⟩:=info_parts Tryz.infoStrF
    obtain ⟨s0,s1,s2,s3,s4,s5,s6,s13,s26⟩:=zUTj k2
    have hlw2:w.heap.size<X2.heap.size:=kj hl1 hUX.size
    have hXQ:QX<X2.heap.size:=k2.lt
    have b2:Holds QX 57 (rawA r lv' (.slice so k cap) sv' cv').toList (X2.alloc (ka #[.string (str T)] 9)):=((qUNz X2 _).block _ hXQ).trans k2
    have o2:=qw14 k3 (qUNz X2 (ka #[.string (str T)] 9))
    have c2:=al1 X2 (ka #[.string (str T)] 9)
    have b4:Below QX VB (X2.alloc (ka #[.string (str T)] 9)):=k4.trans ((qUNz X2 _).mono (Nat.le_of_lt hXQ))
    have hkl:k≤64:=by omega
    have gz:=((qUNz X2 (ka #[.string (str T)] 9)).block _ hlw2).trans ((hUX.block _ hl1).trans a1)
    have s6':(X2.alloc (ka #[.string (str T)] 9)).cell? ⟨QX,6,none⟩=some (.slice so k cap):=by rw[kg b2];rfl
    have q2:∀j u,[Value.string (str T)][j]?=some u→(X2.alloc (ka #[.string (str T)] 9)).cell? ((⟨X2.heap.size,0,none⟩:Addr).add j)=some u:=by
     intro j u hj
     rcases j with _|j
     ·simp only[List.getElem?_cons_zero,Option.some.injEq] at hj
      rw[Addr.add_lit,kg c2,←hj];rfl
     ·simp at hj
    have q3:∀u∈[Value.string (str T)],u.oneCell'=true:=by intro u hu;rw[List.mem_singleton.1 hu];rfl
    have q4:k+1≤maxLen:=by unfold maxLen;omega
    have q5:(k+1)*16≤140737488355328:=by omega
    have q6:QX≤(X2.alloc (ka #[.string (str T)] 9)).heap.size:=by simp;omega
    clear s0 s1 s2 s3 s4 s5 s13 s26 k1 k2 k3 HJ2
    go_wp2_with (at_builtin;refine wpList_append_own _ rfl _ _ 55 rfl QX 9 i0 (.string ⟨#[]⟩) 1 16 Tryz.underlying55 hi hz0 hz1 hz2 rfl (by decide) _ k ((fiS r zs k).map strV) rfl o2 ⟨X2.heap.size,0,none⟩ 1 1 [.string (str T)] rfl rfl q2 q3 q4 q5 q6 ?_)
    intro v' w1 hown hgrow hnil
    obtain ⟨x1,x2,x3,x4,x5,x6⟩:=j5zS (i:=6) (by decide) b2 rfl o2 b4 (ki _) (ki _) (by simp;omega) hgrow hown
    rcases id hown.2 with ⟨_,hn0⟩|⟨g,cp,cur,rfl,_⟩
    ·exfalso;omega
    have HJ3:=hide (show FiJ r zs lv' sv' cv' QX (k+1) VB (w1.setCell ⟨QX,6,none⟩ (.slice (some ⟨g,0,none⟩) (k+1) cp)) from ⟨some ⟨g,0,none⟩,cp,HOK.out h0,x3,by rw[HFS.out,List.map_append];exact x4,x5⟩)
    have gw:(w1.setCell ⟨QX,6,none⟩ (.slice (some ⟨g,0,none⟩) (k+1) cp)).heap[w.heap.size]?=some (.cells RQ 57 (0,0)):=(x6 _ (by simp;omega) (qYYy o2 gz (by decide)) (by omega)).trans gz
    obtain ⟨r0,_⟩:=HRC.out _ gw
    clear x3 x4 x5 x6 gw gz b2 o2 c2 b4 hown hgrow hnil
    have hwm2:IntKind.i64.wrap (RN*r.w)=(M:Int):=by rw[hM];exact hwm
    go_wp2
    go_roundw
    case rel =>
     refine ⟨k+1,hlt,by go_num,⟨_,_,_,rfl,fun h=>?_⟩,HJ3.out⟩
     obtain ⟨e,e'⟩:=HNX.out h
     have:=HNP.out
     have:=HCP2.out
     have:=HOP.out
     rw[←HAD.out,if_neg,Addr.add_lit,e]
     ·refine ⟨by rw[←HOP.out,Nat.add_assoc],by omega,by omega⟩
     ·omega
    case measure=>simp[intOf];omega
   ·rcases HEI.out with he|he
    ·exact absurd he h0
    rw[he]
    have hzf:=HFF.out h0
    rw[HCN.out] at hzf
    have hee:E=4:=by rw[HE.out,hzf];rfl
    subst hee
    clear k1 k2 k3 k4
    have g3:=(hUX.block _ hl3).trans a3
    have HG:=hide (setRow_heap _ _ _ rawZ _ _ g3)
    have HBF:=hide (below_setRow (g:=w.heap.size+2) (quJN HB.out hUX) (by omega) rawZ)
    go_wp2_with (refine wpList_store_row rfl 57 _ _ rfl (w.heap.size+2) rawZ rfl rfl _ _ g3 iz rfl oz ?_)
    refine bodyPost_ret (v:=.tuple #[.agg rawZ,.int .i64 4]) (zu5m Tryz.results19 _ _ _ _ _ rfl rfl HG.out iz) rfl ⟨HBF.out,.inr ⟨by decide,rfl⟩⟩
  ·have hd:decide ((k:Int)<(C:Int))=false:=by simp;omega
   obtain rfl:k=C:=by omega
   have he:E=0:=by rw[HE.out,if_pos j1]
   subst he
   have g3:=(hUQ2.block _ hl3).trans a3
   obtain ⟨RA,hRA⟩:∃RA,rawA r lv' (.slice so k cap) sv' cv'=RA:=⟨_,rfl⟩
   have i1:(Tryz.prog.info? 57).map (·.size)=some RA.size:=by rw[←hRA];kernel_rfl
   have i2:(rawZ:Array Value).size=RA.size:=by rw[←hRA];rfl
   have hIF:IsRaw wr (qtvI r zs) lv' (.slice so k cap) sv' cv':=⟨HIB.out.lens.below j4 (by omega),zGcC.own (base:=QX) (by rw[show (qtvI r zs).strips=fiS r zs k by rw[qtvI,HCN.out]];simpa [fiS] using j3) (by rw[show (qtvI r zs).strips=fiS r zs k by rw[qtvI,HCN.out]];simp[fiS];omega),HIB.out.plan.spots.below j4 (by omega),HIB.out.plan.curve.below j4 (by omega)⟩
   have hos:RA.all (·.oneCell')=true:=by rw[←hRA];exact (XIRQ hIF:(rawA (qtvI r zs) lv' (.slice so k cap) sv' cv').all (·.oneCell')=true)
   have HRA:=hide hRA
   have d1:wr.heap[QX]?=some (.cells RA 57 (0,0)):=by rw[←hRA];exact j2
   have HG:=hide (setRow_heap _ _ _ RA _ _ g3)
   have HBF:=hide (below_setRow (g:=w.heap.size+2) (quJN HB.out hUQ2) (by omega) RA)
   have hfo:=Fresh.own j3
   obtain ⟨f1,f3,f4⟩:=HFR.out
   have HIF:=hide (hIF.other (k:=w.heap.size+2) (w':=wr.setRow (w.heap.size+2) RA) (B:=U.heap.size) (by simp) (fun b hb=>setRow_other _ _ _ _ hb) hl3 f1 (hfo.mono hUQ) f3 f4)
   have hw:w.heap.size≤U.heap.size:=by omega
   have HFZ:=hide (show Fresh w.heap.size lv'∧Fresh w.heap.size (.slice so k cap)∧Fresh w.heap.size sv'∧Fresh w.heap.size cv' from ⟨f1.mono hw,hfo.mono (by omega),f3.mono hw,f4.mono hw⟩)
   have HFE:=hide (show Free (wr.setRow (w.heap.size+2) RA) lv'∧Free (wr.setRow (w.heap.size+2) RA) cv' from ⟨(HEB.out.1.below j4 (by omega)).setRow f1 hl3 RA,(HEB.out.2.below j4 (by omega)).setRow f4 hl3 RA⟩)
   clear hRA f1 f3 f4 hfo hIF j1 j2 j3 j4 HJ hao
   go_wp2_with (first|refine wpList_load_row rfl 57 _ rfl _ rfl _ _ _ _ d1 Tryz.underlying57 rfl i1 ?_|refine wpList_store_row rfl 57 _ _ rfl (w.heap.size+2) RA rfl rfl _ _ g3 i1 i2 hos ?_)
   have HRF:=hide (show rawA (qtvI r zs) lv' (.slice so k cap) sv' cv'=RA from HRA.out)
   first
   | refine bodyPost_ret (v:=.tuple #[.agg RA,.int .i64 0]) (zu5m Tryz.results19 _ _ _ _ _ rfl rfl HG.out i1) rfl ⟨HBF.out,_,_,_,_,by rw[HRF.out],HIF.out,HFZ.out.1,HFZ.out.2.1,HFZ.out.2.2.1,HFZ.out.2.2.2,HFE.out⟩
   | refine bodyPost_ret (v:=.tuple #[.agg RA,.int .i64 0]) (zu5m Tryz.results19 _ _ _ _ _ rfl rfl HG.out i1) rfl ⟨HBF.out,.inl ⟨rfl,_,_,_,_,by rw[HRF.out],HIF.out,HFZ.out.1,HFZ.out.2.1,HFZ.out.2.2.1,HFZ.out.2.2.2,HFE.out⟩⟩
end Go.Proofs.YtfjeonehdlphiaaGreatDoor
