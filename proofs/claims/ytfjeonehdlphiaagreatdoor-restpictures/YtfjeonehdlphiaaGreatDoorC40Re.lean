/- Re: part 40 of what the proofs need. -/
import Derived.Test.YtfjeonehdlphiaaGreatDoorC36Re
import Derived.Test.YtfjeonehdlphiaaGreatDoorC39Re
import Derived.Laws.AppendOwnNone
open Go.Obj renaming cells → ka
open Go.Lib renaming frozen_of_heap → kb, cell_of_heap → kd
open Nat renaming le_refl → ke, zero_le → kf
open List renaming eq_nil_of_length_eq_zero → kg
set_option linter.unusedVariables false
set_option maxHeartbeats 6400000
set_option maxRecDepth 100000
namespace Go.Proofs.YtfjeonehdlphiaaGreatDoor
open Go.RowKit
theorem XP4S {w:World} {a:Addr} {ts:List (List UInt8)} (o:Obj) (hc:ts=[]∨∃b off,some a=some ⟨b,off,none⟩∧b<w.heap.size∧∀j,j<ts.length→w.cell? ⟨b,off+j,none⟩=some (.string (str (ts.getD j [])))) :
  ∀j u,(ts.map strV)[j]?=some u→(w.alloc o).cell? (a.add j)=some u:=by
 intro j u hj
 rcases hc with h|⟨b,off,h,hb,h2⟩
 ·subst h;simp at hj
 ·cases h
  rw[List.getElem?_map] at hj
  obtain ⟨z,hz,rfl⟩:=Option.map_eq_some_iff.1 hj
  obtain ⟨hl,rfl⟩:=List.getElem?_eq_some_iff.1 hz
  rw[Addr.add_lit]
  refine Lib.cell?_alloc_some _ ?_
  rw[h2 j hl,XNGw hl];rfl
structure OJ (w:World) (cs:List Value) (X:List RowX) (V:World):Prop where
 bel:Below w.heap.size w V
 box:Holds w.heap.size 57 cs V
 res:Holds (w.heap.size+1) 57 rawZ.toList V
 rows:∀x∈X,V.ownsRow (w.heap.size+2) x.1 x.2.1 x.2.2.1 x.2.2.2.1 x.2.2.2.2
theorem OJ.sz {w:World} {cs:List Value} {X:List RowX} {V:World} (h:OJ w cs X V):w.heap.size+1<V.heap.size:=h.res.lt
theorem OJ.low {w:World} {cs:List Value} {X:List RowX} {V V':World} (h:OJ w cs X V) (hb:Below V.heap.size V V'):OJ w cs X V' :=
 ⟨h.bel.trans (hb.mono h.bel.size),(hb.block _ h.box.lt).trans h.box,(hb.block _ h.res.lt).trans h.res,fun x hx=>qw14 (h.rows x hx) hb⟩
theorem OJ.put {w:World} {cs:List Value} {X:List RowX} {V:World} (h:OJ w cs X V) (i:Nat) (v:Value):OJ w (cs.set i v) X (V.setCell ⟨w.heap.size,i,none⟩ v) where
 bel:=h.bel.setCell (p:=⟨w.heap.size,i,none⟩) (ke _) _
 box:=zBn3 h.box i v
 res:=(Below.heap_setCell _ _ _ _ (by show w.heap.size+1≠w.heap.size;omega)).trans h.res
 rows:=fun x hx=>ownsRow_setCell_other (h.rows x hx) (fun e=>absurd ((h.rows x hx).lt _ e).1 (by show ¬(w.heap.size+2≤w.heap.size);omega)) _
theorem OJ.grow {w:World} {cs:List Value} {X:List RowX} {V w1:World} {g:Nat} {e:TypeId} {sz m:Nat} {v':Value} {ys:List Value} (h:OJ w cs X (V.alloc (.cells #[] e))) (hg:(V.alloc (.cells #[] e)).grownBy w1 (some g)) (hgV:g=V.heap.size) (hV:OJ w cs X V) (ho:w1.ownsRow (w.heap.size+2) e sz v' m ys):OJ w cs ((e,sz,v',m,ys)::X) w1 where
 bel:=h.bel.grown hg h.bel.size (fun k hk=>by cases hk;have:=hV.sz;omega)
 box:=(hg.block _ h.box.lt (by have:=hV.sz;simp;omega)).trans h.box
 res:=(hg.block _ h.res.lt (by have:=hV.sz;simp;omega)).trans h.res
 rows:=fun x hx=>by
  rcases List.mem_cons.1 hx with rfl|hx
  ·exact ho
  ·exact zX1t (h.rows x hx) (fun k hk=>hg.block k ((h.rows x hx).lt k hk).2 (fun e'=>by have:=((hV.rows x hx).lt k hk).2;cases e';omega))
theorem OJ.row {w:World} {cs:List Value} {X:List RowX} {V:World} (h:OJ w cs X V) (e:TypeId) (sz:Nat) (v:Value) (n:Nat) (xs:List Value) (ho:V.ownsRow (w.heap.size+2) e sz v n xs):OJ w cs ((e,sz,v,n,xs)::X) V :=
 ⟨h.bel,h.box,h.res,fun x hx=>by
  rcases List.mem_cons.1 hx with rfl|hx
  ·exact ho
  ·exact h.rows x hx⟩
theorem z402 (r:RawF) (lv tv sv cv:Value) (w:World) (hr:IsRaw w r lv tv sv cv) (g1:r.lens.length≤1000000) (g0:r.strips.length≤8796093022208) (g2:r.plan.spots.length≤1000000) (g3:r.plan.curve.length≤1000000) (lz:NilZ lv) (tz:NilZ tv) (sz:NilZ sv) (cz:NilZ cv) :
  Calls Tryz.prog 77 #[.agg (rawA r lv tv sv cv)] w fun e w'=>∃lv' tv' sv' cv',e=.returned (.agg (rawA r lv' tv' sv' cv'))∧IsRaw w' r lv' tv' sv' cv'∧Below w.heap.size w w'∧Fresh w.heap.size lv'∧Fresh w.heap.size tv'∧Fresh w.heap.size sv'∧Fresh w.heap.size cv':=by
 have HLI:=hide hr.lens
 have HTI:=hide hr.strips
 have HSI:=hide hr.plan.spots
 have HCI:=hide hr.plan.curve
 obtain ⟨lo,lc,rfl,hx1,hx2⟩:=hr.lens
 obtain ⟨tn,tc,rfl,hx3,hx4⟩:=hr.strips
 obtain ⟨so,sc,rfl,hx5,hx6⟩:=hr.plan.spots
 obtain ⟨ko,kc,rfl,hx7,hx8⟩:=hr.plan.curve
 clear hx2 hx4 hx6 hx8 hr
 obtain ⟨a1,a2⟩:=al2 w (ka (rawA r (.slice lo r.lens.length lc) (.slice tn r.strips.length tc) (.slice so r.plan.spots.length sc) (.slice ko r.plan.curve.length kc)) 57) (ka rawZ 57)
 have HJ:=hide (show OJ w (rawA r (.slice lo r.lens.length lc) (.slice tn r.strips.length tc) (.slice so r.plan.spots.length sc) (.slice ko r.plan.curve.length kc)).toList [] ((w.alloc (ka (rawA r (.slice lo r.lens.length lc) (.slice tn r.strips.length tc) (.slice so r.plan.spots.length sc) (.slice ko r.plan.curve.length kc)) 57)).alloc (ka rawZ 57)) from ⟨be2 w _ _,a1,a2,by simp⟩)
 have iz:(Tryz.prog.info? 57).map (·.size)=some (rawZ:Array Value).size:=by kernel_rfl
 clear a1 a2
 go_enter Tryz.func77,Tryz.ntmps77
 go_upto_region 1 with fail
 generalize (w.alloc (ka (rawA r (.slice lo r.lens.length lc) (.slice tn r.strips.length tc) (.slice so r.plan.spots.length sc) (.slice ko r.plan.curve.length kc)) 57)).alloc (ka rawZ 57)=V0 at *
 go_cut [1] from 3 (fun x v=>x=.pointer (some ⟨w.heap.size,0,none⟩)∧∃(ao':Option Addr) (ca':Nat),OJ w (rawA r (.slice ao' r.lens.length ca') (.slice tn r.strips.length tc) (.slice so r.plan.spots.length sc) (.slice ko r.plan.curve.length kc)).toList [(3,1,(.slice ao' r.lens.length ca'),r.lens.length,r.lens.map (Value.int .i64))] v)
 case first =>
  obtain ⟨i0,hi,hz0,hz1,hz2⟩:=info_parts Tryz.infoInt
  have HJA:=hide (HJ.out.low (qUNz V0 (ka #[] 3)))
  have ci:(V0.alloc (ka #[] 3)).cell? ⟨w.heap.size,5,none⟩=some (.slice lo r.lens.length lc):=by rw[kd HJA.out.box];rfl
  have fi:(V0.alloc (ka #[] 3)).frozen? ⟨w.heap.size,5,none⟩=false:=kb HJA.out.box _
  have HOW:=hide (World.ownsRow_made (base:=w.heap.size+2) (e:=3) (size:=1) V0 #[] 0 (by have:=HJ.out.sz;omega) (kf _) (by simp))
  have HIV:=hide (HLI.out.below HJ.out.bel (ke _))
  cases lo with
  | none =>
   obtain ⟨hl0,hc0⟩:=lz _ _ rfl
   have hnl:r.lens=[]:=kg hl0
   have HXX:=hide (show Value.slice none r.lens.length lc=.slice none 0 0 by rw[hl0,hc0])
   have HF:=hide (show OJ w (rawA r (.slice (some ⟨V0.heap.size,0,none⟩) r.lens.length 0) (.slice tn r.strips.length tc) (.slice so r.plan.spots.length sc) (.slice ko r.plan.curve.length kc)).toList [(3,1,(.slice (some ⟨V0.heap.size,0,none⟩) r.lens.length 0),r.lens.length,r.lens.map (Value.int .i64))] ((V0.alloc (ka #[] 3)).setCell ⟨w.heap.size,5,none⟩ (.slice (some ⟨V0.heap.size,0,none⟩) 0 0)) from by
    rw[hnl]
    exact ((HJA.out.row 3 1 _ 0 [] HOW.out).put 5 (.slice (some ⟨V0.heap.size,0,none⟩) 0 0)))
   clear hl0 hc0 hnl
   go_wp2_with (at_builtin;refine wpList_append_own_none rfl _ _ 52 rfl (w.heap.size+2) 3 i0 1 Tryz.underlying52 hi _ 0 [] rfl HOW.out HXX.out ?_)
   clear ci fi
   go_meet
   case rel=>exact ⟨rfl,_,_,HF.out⟩
  | some ad =>
   have HN:=hide (show ∀j u,(r.lens.map (Value.int .i64))[j]?=some u→(V0.alloc (ka #[] 3)).cell? (ad.add j)=some u from jych _ (by
    obtain ⟨ao',cap',hv',_,h'⟩:=HIV.out
    cases hv'
    exact h'))
   have q1:(r.lens.map (Value.int .i64)).length=r.lens.length*1:=by simp
   have q3:∀u∈r.lens.map (Value.int .i64),u.oneCell'=true:=fun u hu=>by obtain ⟨z,_,rfl⟩:=List.mem_map.1 hu;rfl
   have q4:0+r.lens.length≤maxLen:=by unfold maxLen;omega
   have q5:(0+r.lens.length)*8≤140737488355328:=by omega
   have q6:w.heap.size+2≤(V0.alloc (ka #[] 3)).heap.size:=by have:=HJ.out.sz;simp;omega
   go_wp2_with (at_builtin;refine wpList_append_own _ rfl _ _ 52 rfl (w.heap.size+2) 3 i0 (.int .i64 0) 1 8 Tryz.underlying52 hi hz0 hz1 hz2 rfl (by decide) _ 0 [] rfl HOW.out ad r.lens.length lc (r.lens.map (Value.int .i64)) rfl q1 HN.out q3 q4 q5 q6 ?_)
   clear ci fi
   intro v' w1 hown hgrow hnil
   try rw[Nat.zero_add] at hown
   try rw[List.nil_append] at hown
   rcases id hown.2 with ⟨hv,_⟩|⟨g,cp,cur,rfl,_⟩
   ·exact (hnil hv).elim
   have HG:=hide (HJA.out.grow hgrow rfl HJ.out hown)
   have ci:w1.cell? ⟨w.heap.size,5,none⟩=some (.slice (some ad) r.lens.length lc):=by rw[kd HG.out.box];rfl
   have fi:w1.frozen? ⟨w.heap.size,5,none⟩=false:=kb HG.out.box _
   have HF:=hide (HG.out.put 5 (.slice (some ⟨g,0,none⟩) r.lens.length cp))
   clear hown hgrow hnil
   go_wp2
   go_meet
   case rel=>exact ⟨rfl,_,_,HF.out⟩
 case rest =>
  obtain ⟨rfl,ao0,ca0,hJ⟩:=hcut
  replace HJ:=hide hJ
  clear hJ
  generalize wc=V1 at *
  go_upto_region 2 with fail
  go_cut [1] from 8 (fun x v=>x=.pointer (some ⟨w.heap.size,0,none⟩)∧∃(ao':Option Addr) (ca':Nat),OJ w (rawA r (.slice ao0 r.lens.length ca0) (.slice ao' r.strips.length ca') (.slice so r.plan.spots.length sc) (.slice ko r.plan.curve.length kc)).toList [(9,1,(.slice ao' r.strips.length ca'),r.strips.length,r.strips.map strV),(3,1,.slice ao0 r.lens.length ca0,r.lens.length,r.lens.map (Value.int .i64))] v)
  case first =>
   obtain ⟨i0,hi,hz0,hz1,hz2⟩:=info_parts Tryz.infoStrF
   have HJA:=hide (HJ.out.low (qUNz V1 (ka #[] 9)))
   have ci:(V1.alloc (ka #[] 9)).cell? ⟨w.heap.size,6,none⟩=some (.slice tn r.strips.length tc):=by rw[kd HJA.out.box];rfl
   have fi:(V1.alloc (ka #[] 9)).frozen? ⟨w.heap.size,6,none⟩=false:=kb HJA.out.box _
   have HOW:=hide (World.ownsRow_made (base:=w.heap.size+2) (e:=9) (size:=1) V1 #[] 0 (by have:=HJ.out.sz;omega) (kf _) (by simp))
   have HIV:=hide (HTI.out.below HJ.out.bel (ke _))
   cases tn with
   | none =>
    obtain ⟨hl0,hc0⟩:=tz _ _ rfl
    have hnl:r.strips=[]:=kg hl0
    have HXX:=hide (show Value.slice none r.strips.length tc=.slice none 0 0 by rw[hl0,hc0])
    have HF:=hide (show OJ w (rawA r (.slice ao0 r.lens.length ca0) (.slice (some ⟨V1.heap.size,0,none⟩) r.strips.length 0) (.slice so r.plan.spots.length sc) (.slice ko r.plan.curve.length kc)).toList [(9,1,(.slice (some ⟨V1.heap.size,0,none⟩) r.strips.length 0),r.strips.length,r.strips.map strV),(3,1,.slice ao0 r.lens.length ca0,r.lens.length,r.lens.map (Value.int .i64))] ((V1.alloc (ka #[] 9)).setCell ⟨w.heap.size,6,none⟩ (.slice (some ⟨V1.heap.size,0,none⟩) 0 0)) from by
     rw[hnl]
     exact ((HJA.out.row 9 1 _ 0 [] HOW.out).put 6 (.slice (some ⟨V1.heap.size,0,none⟩) 0 0)))
    clear hl0 hc0 hnl
    go_wp2_with (at_builtin;refine wpList_append_own_none rfl _ _ 55 rfl (w.heap.size+2) 9 i0 1 Tryz.underlying55 hi _ 0 [] rfl HOW.out HXX.out ?_)
    clear ci fi
    go_meet
    case rel=>exact ⟨rfl,_,_,HF.out⟩
   | some ad =>
    have HN:=hide (show ∀j u,(r.strips.map strV)[j]?=some u→(V1.alloc (ka #[] 9)).cell? (ad.add j)=some u from XP4S _ (by
     obtain ⟨ao',cap',hv',_,h'⟩:=HIV.out
     cases hv'
     exact h'))
    have q1:(r.strips.map strV).length=r.strips.length*1:=by simp
    have q3:∀u∈r.strips.map strV,u.oneCell'=true:=fun u hu=>by obtain ⟨z,_,rfl⟩:=List.mem_map.1 hu;rfl
    have q4:0+r.strips.length≤maxLen:=by unfold maxLen;omega
    have q5:(0+r.strips.length)*16≤140737488355328:=by omega
    have q6:w.heap.size+2≤(V1.alloc (ka #[] 9)).heap.size:=by have:=HJ.out.sz;simp;omega
    go_wp2_with (at_builtin;refine wpList_append_own _ rfl _ _ 55 rfl (w.heap.size+2) 9 i0 (.string ⟨#[]⟩) 1 16 Tryz.underlying55 hi hz0 hz1 hz2 rfl (by decide) _ 0 [] rfl HOW.out ad r.strips.length tc (r.strips.map strV) rfl q1 HN.out q3 q4 q5 q6 ?_)
    clear ci fi
    intro v' w1 hown hgrow hnil
    try rw[Nat.zero_add] at hown
    try rw[List.nil_append] at hown
    rcases id hown.2 with ⟨hv,_⟩|⟨g,cp,cur,rfl,_⟩
    ·exact (hnil hv).elim
    have HG:=hide (HJA.out.grow hgrow rfl HJ.out hown)
    have ci:w1.cell? ⟨w.heap.size,6,none⟩=some (.slice (some ad) r.strips.length tc):=by rw[kd HG.out.box];rfl
    have fi:w1.frozen? ⟨w.heap.size,6,none⟩=false:=kb HG.out.box _
    have HF:=hide (HG.out.put 6 (.slice (some ⟨g,0,none⟩) r.strips.length cp))
    clear hown hgrow hnil
    go_wp2
    go_meet
    case rel=>exact ⟨rfl,_,_,HF.out⟩
  case rest =>
   obtain ⟨rfl,ao1,ca1,hJ⟩:=hcut
   replace HJ:=hide hJ
   clear hJ
   generalize wc=V2 at *
   go_upto_region 3 with fail
   go_cut [1] from 13 (fun x v=>x=.pointer (some ⟨w.heap.size,0,none⟩)∧∃(ao':Option Addr) (ca':Nat),OJ w (rawA r (.slice ao0 r.lens.length ca0) (.slice ao1 r.strips.length ca1) (.slice ao' r.plan.spots.length ca') (.slice ko r.plan.curve.length kc)).toList [(97,2,(.slice ao' r.plan.spots.length ca'),r.plan.spots.length,r.plan.spots.flatMap ptL),(9,1,.slice ao1 r.strips.length ca1,r.strips.length,r.strips.map strV),(3,1,.slice ao0 r.lens.length ca0,r.lens.length,r.lens.map (Value.int .i64))] v)
   case first =>
    obtain ⟨i0,hi,hz0,hz1,hz2⟩:=info_parts Tryz.infoSpot
    have HJA:=hide (HJ.out.low (qUNz V2 (ka #[] 97)))
    have ci:(V2.alloc (ka #[] 97)).cell? ⟨w.heap.size,13,none⟩=some (.slice so r.plan.spots.length sc):=by rw[kd HJA.out.box];rfl
    have fi:(V2.alloc (ka #[] 97)).frozen? ⟨w.heap.size,13,none⟩=false:=kb HJA.out.box _
    have HOW:=hide (World.ownsRow_made (base:=w.heap.size+2) (e:=97) (size:=2) V2 #[] 0 (by have:=HJ.out.sz;omega) (kf _) (by simp))
    have HIV:=hide (HSI.out.below HJ.out.bel (ke _))
    cases so with
    | none =>
     obtain ⟨hl0,hc0⟩:=sz _ _ rfl
     have hnl:r.plan.spots=[]:=kg hl0
     have HXX:=hide (show Value.slice none r.plan.spots.length sc=.slice none 0 0 by rw[hl0,hc0])
     have HF:=hide (show OJ w (rawA r (.slice ao0 r.lens.length ca0) (.slice ao1 r.strips.length ca1) (.slice (some ⟨V2.heap.size,0,none⟩) r.plan.spots.length 0) (.slice ko r.plan.curve.length kc)).toList [(97,2,(.slice (some ⟨V2.heap.size,0,none⟩) r.plan.spots.length 0),r.plan.spots.length,r.plan.spots.flatMap ptL),(9,1,.slice ao1 r.strips.length ca1,r.strips.length,r.strips.map strV),(3,1,.slice ao0 r.lens.length ca0,r.lens.length,r.lens.map (Value.int .i64))] ((V2.alloc (ka #[] 97)).setCell ⟨w.heap.size,13,none⟩ (.slice (some ⟨V2.heap.size,0,none⟩) 0 0)) from by
      rw[hnl]
      exact ((HJA.out.row 97 2 _ 0 [] HOW.out).put 13 (.slice (some ⟨V2.heap.size,0,none⟩) 0 0)))
     clear hl0 hc0 hnl
     go_wp2_with (at_builtin;refine wpList_append_own_none rfl _ _ 46 rfl (w.heap.size+2) 97 i0 2 Tryz.underlying46 hi _ 0 [] rfl HOW.out HXX.out ?_)
     clear ci fi
     go_meet
     case rel=>exact ⟨rfl,_,_,HF.out⟩
    | some ad =>
     have HN:=hide (show ∀j u,(r.plan.spots.flatMap ptL)[j]?=some u→(V2.alloc (ka #[] 97)).cell? (ad.add j)=some u from qkro _ (by
      obtain ⟨ao',cap',hv',_,h'⟩:=HIV.out
      cases hv'
      exact h'))
     have q1:(r.plan.spots.flatMap ptL).length=r.plan.spots.length*2:=by rw[jn2Z]
     have q3:∀u∈r.plan.spots.flatMap ptL,u.oneCell'=true:=fun u hu=>by exact XWez _ u hu
     have q4:0+r.plan.spots.length≤maxLen:=by unfold maxLen;omega
     have q5:(0+r.plan.spots.length)*16≤140737488355328:=by omega
     have q6:w.heap.size+2≤(V2.alloc (ka #[] 97)).heap.size:=by have:=HJ.out.sz;simp;omega
     go_wp2_with (at_builtin;refine wpList_append_own _ rfl _ _ 46 rfl (w.heap.size+2) 97 i0 spZ 2 16 Tryz.underlying46 hi hz0 hz1 hz2 rfl (by decide) _ 0 [] rfl HOW.out ad r.plan.spots.length sc (r.plan.spots.flatMap ptL) rfl q1 HN.out q3 q4 q5 q6 ?_)
     clear ci fi
     intro v' w1 hown hgrow hnil
     try rw[Nat.zero_add] at hown
     try rw[List.nil_append] at hown
     rcases id hown.2 with ⟨hv,_⟩|⟨g,cp,cur,rfl,_⟩
     ·exact (hnil hv).elim
     have HG:=hide (HJA.out.grow hgrow rfl HJ.out hown)
     have ci:w1.cell? ⟨w.heap.size,13,none⟩=some (.slice (some ad) r.plan.spots.length sc):=by rw[kd HG.out.box];rfl
     have fi:w1.frozen? ⟨w.heap.size,13,none⟩=false:=kb HG.out.box _
     have HF:=hide (HG.out.put 13 (.slice (some ⟨g,0,none⟩) r.plan.spots.length cp))
     clear hown hgrow hnil
     go_wp2
     go_meet
     case rel=>exact ⟨rfl,_,_,HF.out⟩
   case rest =>
    obtain ⟨rfl,ao2,ca2,hJ⟩:=hcut
    replace HJ:=hide hJ
    clear hJ
    generalize wc=V3 at *
    go_upto_region 4 with fail
    go_cut [1] from 20 (fun x v=>x=.pointer (some ⟨w.heap.size,0,none⟩)∧∃(ao':Option Addr) (ca':Nat),OJ w (rawA r (.slice ao0 r.lens.length ca0) (.slice ao1 r.strips.length ca1) (.slice ao2 r.plan.spots.length ca2) (.slice ao' r.plan.curve.length ca')).toList [(66,2,(.slice ao' r.plan.curve.length ca'),r.plan.curve.length,r.plan.curve.flatMap ptL),(97,2,.slice ao2 r.plan.spots.length ca2,r.plan.spots.length,r.plan.spots.flatMap ptL),(9,1,.slice ao1 r.strips.length ca1,r.strips.length,r.strips.map strV),(3,1,.slice ao0 r.lens.length ca0,r.lens.length,r.lens.map (Value.int .i64))] v)
    case first =>
     obtain ⟨i0,hi,hz0,hz1,hz2⟩:=info_parts Tryz.infoPoint
     have HJA:=hide (HJ.out.low (qUNz V3 (ka #[] 66)))
     have ci:(V3.alloc (ka #[] 66)).cell? ⟨w.heap.size,26,none⟩=some (.slice ko r.plan.curve.length kc):=by rw[kd HJA.out.box];rfl
     have fi:(V3.alloc (ka #[] 66)).frozen? ⟨w.heap.size,26,none⟩=false:=kb HJA.out.box _
     have HOW:=hide (World.ownsRow_made (base:=w.heap.size+2) (e:=66) (size:=2) V3 #[] 0 (by have:=HJ.out.sz;omega) (kf _) (by simp))
     have HIV:=hide (HCI.out.below HJ.out.bel (ke _))
     cases ko with
     | none =>
      obtain ⟨hl0,hc0⟩:=cz _ _ rfl
      have hnl:r.plan.curve=[]:=kg hl0
      have HXX:=hide (show Value.slice none r.plan.curve.length kc=.slice none 0 0 by rw[hl0,hc0])
      have HF:=hide (show OJ w (rawA r (.slice ao0 r.lens.length ca0) (.slice ao1 r.strips.length ca1) (.slice ao2 r.plan.spots.length ca2) (.slice (some ⟨V3.heap.size,0,none⟩) r.plan.curve.length 0)).toList [(66,2,(.slice (some ⟨V3.heap.size,0,none⟩) r.plan.curve.length 0),r.plan.curve.length,r.plan.curve.flatMap ptL),(97,2,.slice ao2 r.plan.spots.length ca2,r.plan.spots.length,r.plan.spots.flatMap ptL),(9,1,.slice ao1 r.strips.length ca1,r.strips.length,r.strips.map strV),(3,1,.slice ao0 r.lens.length ca0,r.lens.length,r.lens.map (Value.int .i64))] ((V3.alloc (ka #[] 66)).setCell ⟨w.heap.size,26,none⟩ (.slice (some ⟨V3.heap.size,0,none⟩) 0 0)) from by
       rw[hnl]
       exact ((HJA.out.row 66 2 _ 0 [] HOW.out).put 26 (.slice (some ⟨V3.heap.size,0,none⟩) 0 0)))
      clear hl0 hc0 hnl
      go_wp2_with (at_builtin;refine wpList_append_own_none rfl _ _ 49 rfl (w.heap.size+2) 66 i0 2 Tryz.underlying49 hi _ 0 [] rfl HOW.out HXX.out ?_)
      clear ci fi
      go_meet
      case rel=>exact ⟨rfl,_,_,HF.out⟩
     | some ad =>
      have HN:=hide (show ∀j u,(r.plan.curve.flatMap ptL)[j]?=some u→(V3.alloc (ka #[] 66)).cell? (ad.add j)=some u from qkro _ (by
       obtain ⟨ao',cap',hv',_,h'⟩:=HIV.out
       cases hv'
       exact h'))
      have q1:(r.plan.curve.flatMap ptL).length=r.plan.curve.length*2:=by rw[jn2Z]
      have q3:∀u∈r.plan.curve.flatMap ptL,u.oneCell'=true:=fun u hu=>by exact XWez _ u hu
      have q4:0+r.plan.curve.length≤maxLen:=by unfold maxLen;omega
      have q5:(0+r.plan.curve.length)*16≤140737488355328:=by omega
      have q6:w.heap.size+2≤(V3.alloc (ka #[] 66)).heap.size:=by have:=HJ.out.sz;simp;omega
      go_wp2_with (at_builtin;refine wpList_append_own _ rfl _ _ 49 rfl (w.heap.size+2) 66 i0 spZ 2 16 Tryz.underlying49 hi hz0 hz1 hz2 rfl (by decide) _ 0 [] rfl HOW.out ad r.plan.curve.length kc (r.plan.curve.flatMap ptL) rfl q1 HN.out q3 q4 q5 q6 ?_)
      clear ci fi
      intro v' w1 hown hgrow hnil
      try rw[Nat.zero_add] at hown
      try rw[List.nil_append] at hown
      rcases id hown.2 with ⟨hv,_⟩|⟨g,cp,cur,rfl,_⟩
      ·exact (hnil hv).elim
      have HG:=hide (HJA.out.grow hgrow rfl HJ.out hown)
      have ci:w1.cell? ⟨w.heap.size,26,none⟩=some (.slice (some ad) r.plan.curve.length kc):=by rw[kd HG.out.box];rfl
      have fi:w1.frozen? ⟨w.heap.size,26,none⟩=false:=kb HG.out.box _
      have HF:=hide (HG.out.put 26 (.slice (some ⟨g,0,none⟩) r.plan.curve.length cp))
      clear hown hgrow hnil
      go_wp2
      go_meet
      case rel=>exact ⟨rfl,_,_,HF.out⟩
    case rest =>
     obtain ⟨rfl,ao3,ca3,hJ⟩:=hcut
     replace HJ:=hide hJ
     clear hJ
     generalize wc=V4 at *
     have f5:=HJ.out.rows (3,1,.slice ao0 r.lens.length ca0,r.lens.length,r.lens.map (Value.int .i64)) (by simp)
     have f6:=HJ.out.rows (9,1,.slice ao1 r.strips.length ca1,r.strips.length,r.strips.map strV) (by simp)
     have f13:=HJ.out.rows (97,2,.slice ao2 r.plan.spots.length ca2,r.plan.spots.length,r.plan.spots.flatMap ptL) (by simp)
     have f26:=HJ.out.rows (66,2,.slice ao3 r.plan.curve.length ca3,r.plan.curve.length,r.plan.curve.flatMap ptL) (by simp)
     simp only at f5 f6 f13 f26
     have hIR:IsRaw V4 r (.slice ao0 r.lens.length ca0) (.slice ao1 r.strips.length ca1) (.slice ao2 r.plan.spots.length ca2) (.slice ao3 r.plan.curve.length ca3):=⟨jCvT.own (base:=w.heap.size+2) f5 hx1,zGcC.own (base:=w.heap.size+2) f6 hx3,IsPts.own (base:=w.heap.size+2) f13 hx5,IsPts.own (base:=w.heap.size+2) f26 hx7⟩
     obtain ⟨RB,hRB⟩:∃RB,(rawA r (.slice ao0 r.lens.length ca0) (.slice ao1 r.strips.length ca1) (.slice ao2 r.plan.spots.length ca2) (.slice ao3 r.plan.curve.length ca3))=RB:=⟨_,rfl⟩
     have d1:V4.heap[w.heap.size]?=some (.cells RB 57 (0,0)):=by rw[←hRB];exact HJ.out.box
     have g3:=HJ.out.res
     have i1:(Tryz.prog.info? 57).map (·.size)=some RB.size:=by rw[←hRB];kernel_rfl
     have i2:(rawZ:Array Value).size=RB.size:=by rw[←hRB];rfl
     have hos:RB.all (·.oneCell')=true:=by rw[←hRB];exact XIRQ hIR
     have HG:=hide (setRow_heap _ _ _ RB _ _ g3)
     have HBF:=hide (below_setRow (g:=w.heap.size+1) HJ.out.bel (by omega) RB)
     have z1:=Fresh.own f5
     have z2:=Fresh.own f6
     have z3:=Fresh.own f13
     have z4:=Fresh.own f26
     have HIF:=hide (hIR.other (k:=w.heap.size+1) (w':=V4.setRow (w.heap.size+1) RB) (B:=w.heap.size+2) (by simp) (fun b hb=>setRow_other _ _ _ _ hb) (by omega) z1 z2 z3 z4)
     have HFZ:=hide (show Fresh w.heap.size (.slice ao0 r.lens.length ca0)∧Fresh w.heap.size (.slice ao1 r.strips.length ca1)∧Fresh w.heap.size (.slice ao2 r.plan.spots.length ca2)∧Fresh w.heap.size (.slice ao3 r.plan.curve.length ca3) from ⟨z1.mono (by omega),z2.mono (by omega),z3.mono (by omega),z4.mono (by omega)⟩)
     have HRB:=hide hRB
     clear hRB hIR f5 f6 f13 f26 z1 z2 z3 z4 HJ
     go_wp2_with (first|refine wpList_load_row rfl 57 _ rfl _ rfl _ _ _ _ d1 Tryz.underlying57 rfl i1 ?_|refine wpList_store_row rfl 57 _ _ rfl (w.heap.size+1) RB rfl rfl _ _ g3 i1 i2 hos ?_)
     refine bodyPost_ret (v:=.agg RB) (results_cell_row Tryz.results77 _ _ _ _ _ _ _ rfl HG.out Tryz.underlying57 rfl i1) rfl ⟨_,_,_,_,by rw[HRB.out],HIF.out,HBF.out,HFZ.out⟩
end Go.Proofs.YtfjeonehdlphiaaGreatDoor
