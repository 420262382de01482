/- Re: part 24 of what the proofs need. -/
import Derived.Test.YtfjeonehdlphiaaGreatDoorC19Re
import Derived.Test.YtfjeonehdlphiaaGreatDoorC23Re
open Go.Obj renaming cells → ka
open Array renaming getElem?_eq_some_iff → kb
open Go.Lib renaming frozen_of_heap → kc, cell_of_heap → kd
open Go.Act renaming put → ke
open Nat renaming le_refl → kf, le_trans → kl, zero_le → ko
open Go.AllReadyH renaming cons → kg, nil → kh
open Go.IntWalk renaming i64_in → ki
open Go.RowKit.Below renaming refl → kj, heap_setCell → kn
open List renaming take_succ_eq_append_getElem → km, take_of_length_le → kp
set_option linter.unusedVariables false
set_option maxHeartbeats 3200000
set_option maxRecDepth 100000
namespace Go.Proofs.YtfjeonehdlphiaaGreatDoor
open Go.RowKit
theorem jsL9 (v:Value) (ls:List Pt) (w:World) (hv:IsPts w v ls) :
  Calls Tryz.prog 186 #[v] w fun e w'=>e=.returned (.bool (zamz ls))∧Below w.heap.size w w':=by
 obtain ⟨ao,ca,rfl,hla,hc⟩:=hv
 obtain ⟨R,hR⟩:∃R,zamz ls=R:=⟨_,rfl⟩
 rw[hR]
 by_cases hn:2≤(ls.length:Int)∧(ls.length:Int)≤16
 ·have hdn:decide (2≤(ls.length:Int)∧(ls.length:Int)≤16)=true:=by simpa using hn
  obtain ⟨bk,off,hao,hbl,hcell⟩:∃b off,ao=some ⟨b,off,none⟩∧b<w.heap.size∧∀j,j<ls.length →
    w.cell? ⟨b,off+j*2,none⟩=some (.int .i64 (ptAt ls j).1)∧w.cell? ⟨b,off+j*2+1,none⟩=some (.int .i64 (ptAt ls j).2):=by
   rcases hc with h|h
   ·subst h;simp at hn
   ·exact h
  subst hao
  have HCELL:=hide hcell;clear hcell hc
  obtain ⟨n0,n1⟩:=hn
  have p0:=(HCELL.out 0 (by omega)).1
  have p1:=(HCELL.out (ls.length-1) (by omega)).1
  rw[Nat.zero_mul,Nat.add_zero] at p0
  by_cases hf:(ptAt ls 0).1=0
  ·by_cases ht:(ptAt ls (ls.length-1)).1=65535
   ·have HR:=hide (show R=ptsOk ls ls.length by rw[←hR,zamz,jMWf,hdn,hf,ht];rfl)
    rw[hf] at p0
    rw[ht] at p1
    clear hR hf ht
    go_enter Tryz.func186,Tryz.ntmps186
    go_wp2_with (go_at_call 33;refine (qVbC _ _ _ _).mono ?_;rintro e wx ⟨rfl,rfl⟩;rw[hdn])
    clear p0 p1 hdn
    go_loopw [3] (fun i wr=>∃k:Nat,k≤ls.length∧i=.int .i64 k∧Hid (ptsOk ls k=true)∧∃n,wr=w.drewN n) (fun i _=>ls.length-(intOf i).toNat)
    case atStart=>exact ⟨0,ko _,rfl,rfl,0,rfl⟩
    case round =>
     obtain ⟨k,hk,rfl,HA,nn,rfl⟩:=hrel
     by_cases hlt:k<ls.length
     ·have hlt2:(k:Int)<(ls.length:Int):=by omega
      obtain ⟨c0,c1⟩:=HCELL.out k hlt
      have HS:=hide (qYjQ ls k)
      have HF:=hide (fun h=>qhxg ls k ls.length hlt h)
      by_cases hy:ptY ls k=true
      ·have hyd:decide (0≤(ptAt ls k).2∧(ptAt ls k).2≤65535)=true:=hy
       have HWI:=hide (show ∀w',Calls Tryz.prog 33 #[.int .i64 (ptAt ls k).2,.int .i64 0,.int .i64 65535] w' fun e w''=>e=.returned (.bool true)∧w''=w' from fun w'=>by
        have h:=ztp0 (ptAt ls k).2 0 65535 w'
        rw[hyd] at h;exact h)
       clear hyd
       have hpr:∀i,k=i+1→w.cell? ⟨bk,off+i*2,none⟩=some (.int .i64 (ptAt ls i).1)∧w.cell? ⟨bk,off+i*2+1,none⟩=some (.int .i64 (ptAt ls i).2):=fun i e=>HCELL.out i (by omega)
       cases k with
       | zero =>
        have HT:=hide (show ptsOk ls (0+1)=true by rw[HS.out,HA.out,hy];simp[Xqx5])
        clear hy HS HF hpr
        simp only[Nat.zero_mul,Nat.add_zero] at c0 c1
        go_wp2_with fail
        go_quiet ((go_at_call 33;exact (HWI.out _).mono (fun _ _ h=>⟨h.1,_,h.2⟩)))
        go_wp2
        go_roundw
        case rel=>exact ⟨0+1,by omega,by go_num,HT,_,rfl⟩
        case measure=>simp[intOf];omega
       | succ i =>
        obtain ⟨d0,d1⟩:=hpr i rfl
        clear hpr
        have hwi:IntKind.i64.wrap (i:Int)=(i:Int):=ki _ (by omega)
        have hil:i<ls.length:=by omega
        have hil2:(i:Int)<(ls.length:Int):=by omega
        have hil3:0≤(i:Int):=by omega
        have hil4:(i:Int)+1<(ls.length:Int):=by omega
        by_cases hs:(ptAt ls i).1<(ptAt ls (i+1)).1
        ·have hsb:decide ((ptAt ls (i+1)).1≤(ptAt ls i).1)=false:=by simp;omega
         by_cases hs2:(ptAt ls i).2≤(ptAt ls (i+1)).2
         ·have hsb2:decide ((ptAt ls (i+1)).2<(ptAt ls i).2)=false:=by simp;omega
          have HT:=hide (show ptsOk ls (i+1+1)=true by rw[HS.out,HA.out,hy];simp[Xqx5,hs,hs2])
          clear hy HS HF hs hs2
          go_wp2_with fail
          go_quiet ((go_at_call 33;exact (HWI.out _).mono (fun _ _ h=>⟨h.1,_,h.2⟩)))
          go_wp2
          go_roundw
          case rel=>exact ⟨i+1+1,by omega,by go_num,HT,_,rfl⟩
          case measure=>simp[intOf];omega
         ·have hsb2:decide ((ptAt ls (i+1)).2<(ptAt ls i).2)=true:=by simp;omega
          have HX:=hide (show false=R by rw[HR.out,HF.out (by rw[hy];simp[Xqx5];omega)])
          clear hy HS HF hs hs2
          go_wp2_with fail
          go_quiet ((go_at_call 33;exact (HWI.out _).mono (fun _ _ h=>⟨h.1,_,h.2⟩)))
          go_wp2
          go_ret
          exact ⟨j3Zs HX.out,by first|exact below_drewN (kj _ _) _|exact below_drewN (below_drewN (kj _ _) _) _⟩
        ·have hsb:decide ((ptAt ls (i+1)).1≤(ptAt ls i).1)=true:=by simp;omega
         have HX:=hide (show false=R by rw[HR.out,HF.out (by rw[hy];simp[Xqx5];omega)])
         clear hy HS HF hs
         go_wp2_with fail
         go_quiet ((go_at_call 33;exact (HWI.out _).mono (fun _ _ h=>⟨h.1,_,h.2⟩)))
         go_wp2
         go_ret
         exact ⟨j3Zs HX.out,by first|exact below_drewN (kj _ _) _|exact below_drewN (below_drewN (kj _ _) _) _⟩
      ·have hy:ptY ls k=false:=by simpa using hy
       have hyd:decide (0≤(ptAt ls k).2∧(ptAt ls k).2≤65535)=false:=hy
       have HWI:=hide (show ∀w',Calls Tryz.prog 33 #[.int .i64 (ptAt ls k).2,.int .i64 0,.int .i64 65535] w' fun e w''=>e=.returned (.bool false)∧w''=w' from fun w'=>by
        have h:=ztp0 (ptAt ls k).2 0 65535 w'
        rw[hyd] at h;exact h)
       clear hyd
       have HX:=hide (show false=R by rw[HR.out,HF.out (by rw[hy];rfl)])
       clear hy HS HF
       go_wp2_with fail
       go_quiet ((go_at_call 33;exact (HWI.out _).mono (fun _ _ h=>⟨h.1,_,h.2⟩)))
       go_wp2
       go_ret
       exact ⟨j3Zs HX.out,by first|exact below_drewN (kj _ _) _|exact below_drewN (below_drewN (kj _ _) _) _⟩
     ·have HX:=hide (show true=R by rw[HR.out,←HA.out,show k=ls.length by omega])
      have hd:decide ((k:Int)<(ls.length:Int))=false:=by simp;omega
      go_wp2
      go_ret
      exact ⟨j3Zs HX.out,by first|exact below_drewN (kj _ _) _|exact below_drewN (below_drewN (kj _ _) _) _⟩
   ·have HX:=hide (show false=R by rw[←hR,zamz,jMWf];simp[ht])
    have hb:((ptAt ls (ls.length-1)).1 != 65535)=true:=by simpa using ht
    rw[hf] at p0
    clear hR hf ht
    go_enter Tryz.func186,Tryz.ntmps186
    go_wp2_with (go_at_call 33;refine (qVbC _ _ _ _).mono ?_;rintro e wx ⟨rfl,rfl⟩;rw[hdn])
    go_ret
    exact ⟨j3Zs HX.out,kj _ _⟩
  ·have HX:=hide (show false=R by rw[←hR,zamz,jMWf];simp[hf])
   have hb:((ptAt ls 0).1 != 0)=true:=by simpa using hf
   clear hR hf
   go_enter Tryz.func186,Tryz.ntmps186
   go_wp2_with (go_at_call 33;refine (qVbC _ _ _ _).mono ?_;rintro e wx ⟨rfl,rfl⟩;rw[hdn])
   go_ret
   exact ⟨j3Zs HX.out,kj _ _⟩
 ·have hdn:decide (2≤(ls.length:Int)∧(ls.length:Int)≤16)=false:=by simpa using hn
  have HX:=hide (show false=R by rw[←hR,zamz,jMWf,hdn];rfl)
  clear hR hn
  go_enter Tryz.func186,Tryz.ntmps186
  go_wp2_with (go_at_call 33;refine (qVbC _ _ _ _).mono ?_;rintro e wx ⟨rfl,rfl⟩;rw[hdn])
  go_ret
  exact ⟨j3Zs HX.out,kj _ _⟩
theorem jXId {W' V1 w1 w:World} {base PB:Nat} {W H:Int} {so:Option Addr} {scap k g cap:Nat} {q:Px} {xs:List Value}
  (i1:W'.heap[PB]?=some (.cells #[.int .i64 W,.int .i64 H,.slice so k scap] 24 (0,0))) (i2:W'.ownsRow base 61 3 (.slice so k scap) k xs)
  (i5:Below w.heap.size w W') (hb:w.heap.size≤base) (hPB:w.heap.size≤PB) (hV1:Below W'.heap.size W' V1) (hg:(V1.alloc (ka (pixA q) 61)).grownBy w1 (Value.slice so k scap).ownBlock)
  (ho:w1.ownsRow base 61 3 (.slice (some ⟨g,0,none⟩) (k+1) cap) (k+1) (xs++pixL q)) :
  (∀b,b<W'.heap.size→some b≠(Value.slice so k scap).ownBlock→w1.heap[b]?=W'.heap[b]?)∧w1.cell? ⟨PB,2,none⟩=some (.slice so k scap)∧w1.frozen? ⟨PB,2,none⟩=false ∧
   (w1.setCell ⟨PB,2,none⟩ (.slice (some ⟨g,0,none⟩) (k+1) cap)).heap[PB]?=some (.cells #[.int .i64 W,.int .i64 H,.slice (some ⟨g,0,none⟩) (k+1) cap] 24 (0,0)) ∧
   (w1.setCell ⟨PB,2,none⟩ (.slice (some ⟨g,0,none⟩) (k+1) cap)).ownsRow base 61 3 (.slice (some ⟨g,0,none⟩) (k+1) cap) (k+1) (xs++pixL q)∧Below w.heap.size w (w1.setCell ⟨PB,2,none⟩ (.slice (some ⟨g,0,none⟩) (k+1) cap)) ∧
   (∀b,b<W'.heap.size→some b≠(Value.slice so k scap).ownBlock→b≠PB→(w1.setCell ⟨PB,2,none⟩ (.slice (some ⟨g,0,none⟩) (k+1) cap)).heap[b]?=W'.heap[b]?):=by
 have hs:=hV1.size
 have keep:∀b,b<W'.heap.size→some b≠(Value.slice so k scap).ownBlock→w1.heap[b]?=W'.heap[b]?:=fun b hb hne=>by
  rw[hg.block b (by simp;omega) hne,Below.heap_alloc _ _ _ (by omega),hV1.block b hb]
 have l1:=(kb.1 i1).1
 have kP:=(keep PB l1 (qYYy i2 i1 (by decide))).trans i1
 have hc:=heap_setCell_same w1 PB 2 _ _ (.slice (some ⟨g,0,none⟩) (k+1) cap) kP
 refine ⟨keep,by rw[kd kP];rfl,kc kP 2,by rw[hc];rfl,ownsRow_setCell_other ho (fun e=>qYYy ho kP (by decide) e.symm) _,?_,fun b hb hne hn=>(kn _ _ _ _ hn).trans (keep b hb hne)⟩
 exact ((((i5.trans (hV1.mono i5.size)).alloc (by have:=i5.size;omega) _).grown hg (by have:=i5.size;simp;omega) (fun j hj=>kl hb (i2.lt j hj).1))).setCell (p:=⟨PB,2,none⟩) hPB _
theorem zSSB (W H:Int) (v:Value) (ps:List Px) (vl:Value) (ls:List Pt) (hcv:jhAl ls) (hps:pxsOk ps=true) (h4:ps.length≤4096) (w:World) (hv:IsPix w v ps) (hvl:IsPts w vl ls) :
  Calls Tryz.prog 87 #[.agg #[.int .i64 W,.int .i64 H,v],vl] w fun e w'=>∃r,e=.returned (.agg #[.int .i64 W,.int .i64 H,r])∧IsPix w' r (ps.map (bendP ls))∧Below w.heap.size w w'∧Fresh w.heap.size r:=by
 have HL:=hide hvl
 have HCV:=hide hcv
 have HPS:=hide hps
 clear hcv hps
 obtain ⟨ao,ca,rfl,hla,hc⟩:=hv
 obtain ⟨lo,lc,rfl,_,_⟩:=hvl
 obtain ⟨i0,hi,hz0,hz1,hz2⟩:=info_parts Tryz.infoPixel
 have HC:=hide (show ∀j,j<ps.length→∃bk off,ao=some ⟨bk,off,none⟩∧bk<w.heap.size∧w.cell? ⟨bk,off+j*3,none⟩=some (.int .i64 (pxAt ps j).1)∧w.cell? ⟨bk,off+j*3+1,none⟩=some (.int .i64 (pxAt ps j).2.1)∧w.cell? ⟨bk,off+j*3+2,none⟩=some (.int .i64 (pxAt ps j).2.2) from fun j hj=>by
  rcases hc with h|⟨b,off,h1,h2,h3⟩
  ·subst h;simp at hj
  ·have:=h3 j hj
   rw[jD3W ps j hj] at this
   exact ⟨b,off,h1,h2,this⟩)
 clear hc
 go_enter Tryz.func87,Tryz.ntmps87
 go_wp2_with fail
 obtain ⟨a1,a2,a3⟩:=al3 w (ka #[.int .i64 W,.int .i64 H,.slice ao ps.length ca] 24) (ka #[.int .i64 0,.int .i64 0,.slice none 0 0] 24) (ka #[.int .i64 W,.int .i64 H,.slice none 0 0] 24)
 have hB:=be3 w (ka #[.int .i64 W,.int .i64 H,.slice ao ps.length ca] 24) (ka #[.int .i64 0,.int .i64 0,.slice none 0 0] 24) (ka #[.int .i64 W,.int .i64 H,.slice none 0 0] 24)
 generalize ((w.alloc (ka #[.int .i64 W,.int .i64 H,.slice ao ps.length ca] 24)).alloc (ka #[.int .i64 0,.int .i64 0,.slice none 0 0] 24)).alloc (ka #[.int .i64 W,.int .i64 H,.slice none 0 0] 24)=U at *
 go_loopw [6] (fun i wr=>∃k:Nat,k≤ps.length∧i=.int .i64 k∧∃so scap,wr.heap[w.heap.size+2]?=some (.cells #[.int .i64 W,.int .i64 H,.slice so k scap] 24 (0,0))∧wr.ownsRow w.heap.size 61 3 (.slice so k scap) k (((ps.take k).map (bendP ls)).flatMap pixL)∧wr.heap[w.heap.size]?=some (.cells #[.int .i64 W,.int .i64 H,.slice ao ps.length ca] 24 (0,0))∧wr.heap[w.heap.size+1]?=some (.cells #[.int .i64 0,.int .i64 0,.slice none 0 0] 24 (0,0))∧Below w.heap.size w wr) (fun i _=>ps.length-(intOf i).toNat)
 case atStart=>exact ⟨0,ko _,rfl,none,0,a3,World.ownsRow_nil _ _ _ _,a1,a2,hB⟩
 case round =>
  clear a1 a2 a3 hB
  obtain ⟨k,hk,rfl,so,scap,j1,j2,j3,j4,j5⟩:=hrel
  obtain ⟨_,_,q2⟩:=z5EY j3
  have hlq:=(kb.1 j3).1
  by_cases hlt:k<ps.length
  ·have hd:decide ((k:Int)<(ps.length:Int))=true:=by simp;omega
   obtain ⟨bk,off,rfl,hbl,c0,c1,c2⟩:=HC.out k hlt
   have d0:=(j5.cell (p:=⟨bk,off+k*3,none⟩) hbl).trans c0
   have d1:=(j5.cell (p:=⟨bk,off+k*3+1,none⟩) hbl).trans c1
   have d2:=(j5.cell (p:=⟨bk,off+k*3+2,none⟩) hbl).trans c2
   obtain ⟨⟨r1,r2⟩,⟨g1,g2⟩,u1,u2⟩:=(X1aR _).1 (z1DB HPS.out k)
   have HST:=hide (show ((ps.take (k+1)).map (bendP ls)).flatMap pixL=((ps.take k).map (bendP ls)).flatMap pixL++pixL (bendP ls (pxAt ps k)) by
    rw[km hlt,jD3W ps k hlt,List.map_append,List.flatMap_append];simp)
   obtain ⟨⟨r,g,u⟩,hp⟩:∃p,pxAt ps k=p:=⟨_,rfl⟩
   rw[hp] at d0 d1 d2 r1 r2 g1 g2 u1 u2 HST
   have HQ:=hide (show bendP ls (r,g,u)=(qy0p ls r,qy0p ls g,qy0p ls u) from rfl)
   obtain ⟨q,hq⟩:∃q,bendP ls (r,g,u)=q:=⟨_,rfl⟩
   rw[hq] at HST HQ
   clear c0 c1 c2 hp hq
   obtain ⟨XS,hXS⟩:∃XS,((ps.take k).map (bendP ls)).flatMap pixL=XS:=⟨_,rfl⟩
   rw[hXS] at j2 HST
   clear hXS
   obtain ⟨W',hW'⟩:∃W',wr.alloc (ka #[.int .i64 r,.int .i64 g,.int .i64 u] 61)=W':=⟨_,rfl⟩
   have i1:W'.heap[w.heap.size+2]?=some (.cells #[.int .i64 W,.int .i64 H,.slice so k scap] 24 (0,0)):=by rw[←hW'];exact (Below.heap_alloc _ _ _ (kb.1 j1).1).trans j1
   have i2:W'.ownsRow w.heap.size 61 3 (.slice so k scap) k XS:=by rw[←hW'];exact j2.alloc _
   have i3:W'.heap[w.heap.size]?=some (.cells #[.int .i64 W,.int .i64 H,.slice (some ⟨bk,off,none⟩) ps.length ca] 24 (0,0)):=by rw[←hW'];exact (Below.heap_alloc _ _ _ hlq).trans j3
   have i4:W'.heap[w.heap.size+1]?=some (.cells #[.int .i64 0,.int .i64 0,.slice none 0 0] 24 (0,0)):=by rw[←hW'];exact (Below.heap_alloc _ _ _ (kb.1 j4).1).trans j4
   have i5:Below w.heap.size w W':=by rw[←hW'];exact j5.alloc j5.size _
   have iT:W'.heap[wr.heap.size]?=some (.cells #[.int .i64 r,.int .i64 g,.int .i64 u] 61 (0,0)):=by rw[←hW'];exact al1 wr _
   have nT:some wr.heap.size≠(Value.slice so k scap).ownBlock:=fun e=>by have:=(j2.lt _ e.symm).2;omega
   have n0:w.heap.size+2<wr.heap.size:=(kb.1 j1).1
   have HW':=hide hW'
   clear hW'
   go_wp2_with fail
   rw[HW'.out]
   clear j1 j2 j3 j4 j5 q2 d0 d1 d2
   obtain ⟨TB,hTB⟩:∃TB,wr.heap.size=TB:=⟨_,rfl⟩
   rw[hTB] at iT nT n0 ⊢
   rw[HQ.out] at HST
   have hlT:=(kb.1 iT).1
   have hlP:=(kb.1 i1).1
   have hbW:w.heap.size≤W'.heap.size:=i5.size
   have HL1:=hide (show k+1≤maxLen by unfold maxLen;omega)
   have HL2:=hide (show (k+1)*24≤140737488355328 by omega)
   have HS:=hide (show ∀v,Below W'.heap.size W' v→v.cell? ⟨TB,0,none⟩=some (.int .i64 r)∧v.cell? ⟨TB,1,none⟩=some (.int .i64 g)∧v.cell? ⟨TB,2,none⟩=some (.int .i64 u) from fun v h=>z5EY ((h.block TB hlT).trans iT))
   have HP2:=hide (show ∀v,Below W'.heap.size W' v→v.cell? ⟨w.heap.size+1+1,2,none⟩=some (.slice so k scap) from fun v h=>(z5EY ((h.block (w.heap.size+2) hlP).trans i1)).2.2)
   have HON:=hide (show ∀(x:Int) (v:World),0≤x→x≤65535→Below W'.heap.size W' v→Calls Tryz.prog 144 #[.slice lo ls.length lc,.int .i64 x] v fun e v'=>e=.returned (.int .i64 (qy0p ls x))∧Below v.heap.size v v' from fun x v x0 x1 h=>zTTp _ ls x x0 x1 HCV.out v (HL.out.below (i5.trans (h.mono i5.size)) (kf _)))
   have HTL:=hide (show ∀(V1:World) (gg cap:Nat) (w1:World),Below W'.heap.size W' V1→(V1.alloc (ka #[.int .i64 (qy0p ls r),.int .i64 (qy0p ls g),.int .i64 (qy0p ls u)] 61)).grownBy w1 (Value.slice so k scap).ownBlock→w1.ownsRow w.heap.size 61 3 (.slice (some ⟨gg,0,none⟩) (k+1) cap) (k+1) (XS++pixL (qy0p ls r,qy0p ls g,qy0p ls u)) →
     (w1.cell? ⟨TB,0,none⟩=some (.int .i64 r)∧w1.cell? ⟨TB,1,none⟩=some (.int .i64 g)∧w1.cell? ⟨TB,2,none⟩=some (.int .i64 u))∧w1.cell? ⟨w.heap.size+1+1,2,none⟩=some (.slice so k scap)∧w1.frozen? ⟨w.heap.size+1+1,2,none⟩=false∧(((w1.setCell ⟨w.heap.size+1+1,2,none⟩ (.slice (some ⟨gg,0,none⟩) (k+1) cap)).cell? ⟨TB,0,none⟩=some (.int .i64 r)∧(w1.setCell ⟨w.heap.size+1+1,2,none⟩ (.slice (some ⟨gg,0,none⟩) (k+1) cap)).cell? ⟨TB,1,none⟩=some (.int .i64 g)∧(w1.setCell ⟨w.heap.size+1+1,2,none⟩ (.slice (some ⟨gg,0,none⟩) (k+1) cap)).cell? ⟨TB,2,none⟩=some (.int .i64 u)) ∧
      (w1.setCell ⟨w.heap.size+1+1,2,none⟩ (.slice (some ⟨gg,0,none⟩) (k+1) cap)).heap[w.heap.size+2]?=some (.cells #[.int .i64 W,.int .i64 H,.slice (some ⟨gg,0,none⟩) (k+1) cap] 24 (0,0))∧(w1.setCell ⟨w.heap.size+1+1,2,none⟩ (.slice (some ⟨gg,0,none⟩) (k+1) cap)).ownsRow w.heap.size 61 3 (.slice (some ⟨gg,0,none⟩) (k+1) cap) (k+1) (XS++pixL (qy0p ls r,qy0p ls g,qy0p ls u)) ∧
      (w1.setCell ⟨w.heap.size+1+1,2,none⟩ (.slice (some ⟨gg,0,none⟩) (k+1) cap)).heap[w.heap.size]?=some (.cells #[.int .i64 W,.int .i64 H,.slice (some ⟨bk,off,none⟩) ps.length ca] 24 (0,0))∧(w1.setCell ⟨w.heap.size+1+1,2,none⟩ (.slice (some ⟨gg,0,none⟩) (k+1) cap)).heap[w.heap.size+1]?=some (.cells #[.int .i64 0,.int .i64 0,.slice none 0 0] 24 (0,0))∧Below w.heap.size w (w1.setCell ⟨w.heap.size+1+1,2,none⟩ (.slice (some ⟨gg,0,none⟩) (k+1) cap))) from fun V1 gg cap w1 h1 h2 h3=>by
    obtain ⟨t1,t2,t3,t4,t5,t6,t7⟩:=jXId (q:=(qy0p ls r,qy0p ls g,qy0p ls u)) i1 i2 i5 (kf _) (by omega) h1 h2 h3
    have kT:=(t1 TB hlT nT).trans iT
    have xT:=(t7 TB hlT nT (by omega)).trans iT
    exact ⟨z5EY kT,t2,t3,z5EY xT,t4,t5,(t7 _ (kb.1 i3).1 (qYYy i2 i3 (by decide)) (by omega)).trans i3,(t7 _ (kb.1 i4).1 (qYYy i2 i4 (by decide)) (by omega)).trans i4,t6⟩)
   have hmx:Tryz.prog.follows .mixedOrders=true:=by kernel_rfl
   have hWd:Below W'.heap.size W' W'.drew:=(kj _ _).drew
   have hSd:=HS.out _ hWd
   have p2:=HP2.out _ hWd
   clear hTB HW' HQ iT i1
   refine wp_region_held (S:=fun v:World=>v.cell? ⟨TB,0,none⟩=some (.int .i64 r)∧v.cell? ⟨TB,1,none⟩=some (.int .i64 g)∧v.cell? ⟨TB,2,none⟩=some (.int .i64 u)) hmx ?_
   show wpAnyH _ _ _ _ _ 19 _ _ W'.drew
   refine wpAnyH_take (i:=0) (oi:=_) (v:=.pointer (some ⟨w.heap.size+1+1,2,none⟩)) rfl (by kernel_rfl) (by kernel_rfl) (by kernel_rfl) (fun _ _ _ h=>h) (Or.inl ⟨by rfl,fun v hSv=>by obtain ⟨t0,t1,t2⟩:=hSv;go_simp⟩) hSd ?_
   simp only[ke]
   refine wpAnyH_take (i:=2) (oi:=_) (v:=.slice lo ls.length lc) rfl (by kernel_rfl) (by kernel_rfl) (by kernel_rfl) (fun _ _ _ h=>h) (Or.inl ⟨by rfl,fun v hSv=>by obtain ⟨t0,t1,t2⟩:=hSv;go_simp⟩) hSd ?_
   simp only[ke]
   refine wpAnyH_take (i:=3) (oi:=_) (v:=.pointer (some ⟨TB,0,none⟩)) rfl (by kernel_rfl) (by kernel_rfl) (by kernel_rfl) (fun _ _ _ h=>h) (Or.inl ⟨by rfl,fun v hSv=>by obtain ⟨t0,t1,t2⟩:=hSv;go_simp⟩) hSd ?_
   simp only[ke]
   refine wpAnyH_take (i:=4) (oi:=_) (v:=.int .i64 r) rfl (by kernel_rfl) (by kernel_rfl) (by kernel_rfl) (fun _ _ _ h=>h) (Or.inl ⟨by rfl,fun v hSv=>by obtain ⟨t0,t1,t2⟩:=hSv;go_simp⟩) hSd ?_
   simp only[ke]
   refine wpAnyH_take (i:=6) (oi:=_) (v:=.slice lo ls.length lc) rfl (by kernel_rfl) (by kernel_rfl) (by kernel_rfl) (fun _ _ _ h=>h) (Or.inl ⟨by rfl,fun v hSv=>by obtain ⟨t0,t1,t2⟩:=hSv;go_simp⟩) hSd ?_
   simp only[ke]
   refine wpAnyH_take (i:=7) (oi:=_) (v:=.pointer (some ⟨TB,1,none⟩)) rfl (by kernel_rfl) (by kernel_rfl) (by kernel_rfl) (fun _ _ _ h=>h) (Or.inl ⟨by rfl,fun v hSv=>by obtain ⟨t0,t1,t2⟩:=hSv;go_simp⟩) hSd ?_
   simp only[ke]
   refine wpAnyH_take (i:=8) (oi:=_) (v:=.int .i64 g) rfl (by kernel_rfl) (by kernel_rfl) (by kernel_rfl) (fun _ _ _ h=>h) (Or.inl ⟨by rfl,fun v hSv=>by obtain ⟨t0,t1,t2⟩:=hSv;go_simp⟩) hSd ?_
   simp only[ke]
   refine wpAnyH_take (i:=10) (oi:=_) (v:=.slice lo ls.length lc) rfl (by kernel_rfl) (by kernel_rfl) (by kernel_rfl) (fun _ _ _ h=>h) (Or.inl ⟨by rfl,fun v hSv=>by obtain ⟨t0,t1,t2⟩:=hSv;go_simp⟩) hSd ?_
   simp only[ke]
   refine wpAnyH_take (i:=11) (oi:=_) (v:=.pointer (some ⟨TB,2,none⟩)) rfl (by kernel_rfl) (by kernel_rfl) (by kernel_rfl) (fun _ _ _ h=>h) (Or.inl ⟨by rfl,fun v hSv=>by obtain ⟨t0,t1,t2⟩:=hSv;go_simp⟩) hSd ?_
   simp only[ke]
   refine wpAnyH_take (i:=12) (oi:=_) (v:=.int .i64 u) rfl (by kernel_rfl) (by kernel_rfl) (by kernel_rfl) (fun _ _ _ h=>h) (Or.inl ⟨by rfl,fun v hSv=>by obtain ⟨t0,t1,t2⟩:=hSv;go_simp⟩) hSd ?_
   simp only[ke]
   refine wpAnyH_ready (rs:=[1,5]) (by kernel_rfl) (by simp) ?_
   refine kg (o:=_) rfl (fun K' hK=>?w1A) (kg (o:=_) rfl (fun K' hK=>?w1B) kh)
   case w1A =>
    rw[if_pos (by rfl)]
    go_simp
    refine hK.out _ _ hSd (fun _=>?_)
    clear hK
    refine wpAnyH_ready (rs:=[5]) (by kernel_rfl) (by simp) ?_
    refine kg (o:=_) rfl (fun K' hK=>?_) kh
    rw[if_pos (by rfl)]
    go_simp
    refine (HON.out r _ r1 r2 (by assumption)).mono ?_
    rintro e V1 ⟨rfl,hb1⟩
    have hB1:Below W'.heap.size W' V1:=hWd.trans (hb1.mono hWd.size)
    have hSd:=HS.out _ hB1
    have p2:=HP2.out _ hB1
    refine hK.out _ _ hSd (fun _=>?_)
    clear hK
    refine wpAnyH_ready (rs:=[9]) (by kernel_rfl) (by simp) ?_
    refine kg (o:=_) rfl (fun K' hK=>?_) kh
    rw[if_pos (by rfl)]
    go_simp
    refine (HON.out g _ g1 g2 (by assumption)).mono ?_
    rintro e V2 ⟨rfl,hb2⟩
    have hB2:Below W'.heap.size W' V2:=hB1.trans (hb2.mono hB1.size)
    have hSd:=HS.out _ hB2
    have p2:=HP2.out _ hB2
    refine hK.out _ _ hSd (fun _=>?_)
    clear hK
    refine wpAnyH_ready (rs:=[13]) (by kernel_rfl) (by simp) ?_
    refine kg (o:=_) rfl (fun K' hK=>?_) kh
    rw[if_pos (by rfl)]
    go_simp
    refine (HON.out u _ u1 u2 (by assumption)).mono ?_
    rintro e V3 ⟨rfl,hb3⟩
    have hB3:Below W'.heap.size W' V3:=hB2.trans (hb3.mono hB2.size)
    have hSd:=HS.out _ hB3
    have p2:=HP2.out _ hB3
    refine hK.out _ _ hSd (fun _=>?_)
    clear hK
    refine wpAnyH_take (i:=14) (oi:=_) (v:=.agg #[.int .i64 (qy0p ls r),.int .i64 (qy0p ls g),.int .i64 (qy0p ls u)]) rfl (by kernel_rfl) (by kernel_rfl) (by kernel_rfl) (fun _ _ _ h=>h) (Or.inl ⟨by rfl,fun v hSv=>by obtain ⟨t0,t1,t2⟩:=hSv;go_simp⟩) hSd ?_
    simp only[ke]
    refine wpAnyH_ready (rs:=[15]) (by kernel_rfl) (by simp) ?_
    refine kg (o:=_) rfl (fun K' hK=>?_) kh
    rw[if_pos (by rfl)]
    go_simp
    have hBs:Below W'.heap.size W' (V3.alloc (ka #[.int .i64 (qy0p ls r),.int .i64 (qy0p ls g),.int .i64 (qy0p ls u)] 61)):=hB3.alloc hB3.size _
    have hSd:=HS.out _ hBs
    have p2:=HP2.out _ hBs
    refine hK.out _ _ hSd (fun _=>?_)
    clear hK
    refine wpAnyH_ready (rs:=[16]) (by kernel_rfl) (by simp) ?_
    refine kg (o:=_) rfl (fun K' hK=>?_) kh
    refine step_append_lies _ rfl _ _ 22 rfl w.heap.size 61 i0 pixZ 3 24 Tryz.underlying22 hi hz0 hz1 hz2 rfl (by decide) (.slice so k scap) k XS rfl ((qw14 i2 hB3).alloc _) ⟨V3.heap.size,0,none⟩ 1 1 (pixL (qy0p ls r,qy0p ls g,qy0p ls u)) rfl rfl (World.news_of_block (al1 V3 _)) (fun u hu=>by simp[pixL] at hu;rcases hu with rfl|rfl|rfl<;>rfl) Nat.one_pos HL1.out HL2.out (kl hbW hBs.size) _ rfl ?_
    intro gg cap w1 hown hgrow hat hltg
    obtain ⟨hSd,p2,p2f,HFIN⟩:=HTL.out V3 gg cap w1 hB3 hgrow hown
    refine hK.out _ _ hSd (fun _=>?_)
    clear hK
    refine wpAnyH_ready (rs:=[17]) (by kernel_rfl) (by simp) ?_
    refine kg (o:=_) rfl (fun K' hK=>?_) kh
    rw[if_pos (by rfl)]
    go_simp
    refine hK.out _ _ hSd (fun _=>?_)
    clear hK
    refine wpAnyH_ready (rs:=[18]) (by kernel_rfl) (by simp) ?_
    refine kg (o:=_) rfl (fun K' hK=>?_) kh
    rw[if_pos (by rfl)]
    go_simp
    refine hK.out _ _ HFIN.1 (fun _=>?_)
    clear hK
    refine wpAnyH_done (by kernel_rfl) ?_ _
    obtain ⟨f0,f1,f2,f3,f4,f5⟩:=HFIN
    go_wp2
    go_roundw
    case rel=>exact ⟨k+1,by omega,by go_num,some ⟨gg,0,none⟩,cap,f1,by rw[HST.out];exact f2,f3,f4,f5⟩
    case measure=>simp[intOf];omega
   case w1B =>
    rw[if_pos (by rfl)]
    go_simp
    refine (HON.out r _ r1 r2 (by assumption)).mono ?_
    rintro e V1 ⟨rfl,hb1⟩
    have hB1:Below W'.heap.size W' V1:=hWd.trans (hb1.mono hWd.size)
    have hSd:=HS.out _ hB1
    have p2:=HP2.out _ hB1
    refine hK.out _ _ hSd (fun _=>?_)
    clear hK
    refine wpAnyH_ready (rs:=[1,9]) (by kernel_rfl) (by simp) ?_
    refine kg (o:=_) rfl (fun K' hK=>?w2A) (kg (o:=_) rfl (fun K' hK=>?w2B) kh)
    case w2A =>
     rw[if_pos (by rfl)]
     go_simp
     refine hK.out _ _ hSd (fun _=>?_)
     clear hK
     refine wpAnyH_ready (rs:=[9]) (by kernel_rfl) (by simp) ?_
     refine kg (o:=_) rfl (fun K' hK=>?_) kh
     rw[if_pos (by rfl)]
     go_simp
     refine (HON.out g _ g1 g2 (by assumption)).mono ?_
     rintro e V2 ⟨rfl,hb2⟩
     have hB2:Below W'.heap.size W' V2:=hB1.trans (hb2.mono hB1.size)
     have hSd:=HS.out _ hB2
     have p2:=HP2.out _ hB2
     refine hK.out _ _ hSd (fun _=>?_)
     clear hK
     refine wpAnyH_ready (rs:=[13]) (by kernel_rfl) (by simp) ?_
     refine kg (o:=_) rfl (fun K' hK=>?_) kh
     rw[if_pos (by rfl)]
     go_simp
     refine (HON.out u _ u1 u2 (by assumption)).mono ?_
     rintro e V3 ⟨rfl,hb3⟩
     have hB3:Below W'.heap.size W' V3:=hB2.trans (hb3.mono hB2.size)
     have hSd:=HS.out _ hB3
     have p2:=HP2.out _ hB3
     refine hK.out _ _ hSd (fun _=>?_)
     clear hK
     refine wpAnyH_take (i:=14) (oi:=_) (v:=.agg #[.int .i64 (qy0p ls r),.int .i64 (qy0p ls g),.int .i64 (qy0p ls u)]) rfl (by kernel_rfl) (by kernel_rfl) (by kernel_rfl) (fun _ _ _ h=>h) (Or.inl ⟨by rfl,fun v hSv=>by obtain ⟨t0,t1,t2⟩:=hSv;go_simp⟩) hSd ?_
     simp only[ke]
     refine wpAnyH_ready (rs:=[15]) (by kernel_rfl) (by simp) ?_
     refine kg (o:=_) rfl (fun K' hK=>?_) kh
     rw[if_pos (by rfl)]
     go_simp
     have hBs:Below W'.heap.size W' (V3.alloc (ka #[.int .i64 (qy0p ls r),.int .i64 (qy0p ls g),.int .i64 (qy0p ls u)] 61)):=hB3.alloc hB3.size _
     have hSd:=HS.out _ hBs
     have p2:=HP2.out _ hBs
     refine hK.out _ _ hSd (fun _=>?_)
     clear hK
     refine wpAnyH_ready (rs:=[16]) (by kernel_rfl) (by simp) ?_
     refine kg (o:=_) rfl (fun K' hK=>?_) kh
     refine step_append_lies _ rfl _ _ 22 rfl w.heap.size 61 i0 pixZ 3 24 Tryz.underlying22 hi hz0 hz1 hz2 rfl (by decide) (.slice so k scap) k XS rfl ((qw14 i2 hB3).alloc _) ⟨V3.heap.size,0,none⟩ 1 1 (pixL (qy0p ls r,qy0p ls g,qy0p ls u)) rfl rfl (World.news_of_block (al1 V3 _)) (fun u hu=>by simp[pixL] at hu;rcases hu with rfl|rfl|rfl<;>rfl) Nat.one_pos HL1.out HL2.out (kl hbW hBs.size) _ rfl ?_
     intro gg cap w1 hown hgrow hat hltg
     obtain ⟨hSd,p2,p2f,HFIN⟩:=HTL.out V3 gg cap w1 hB3 hgrow hown
     refine hK.out _ _ hSd (fun _=>?_)
     clear hK
     refine wpAnyH_ready (rs:=[17]) (by kernel_rfl) (by simp) ?_
     refine kg (o:=_) rfl (fun K' hK=>?_) kh
     rw[if_pos (by rfl)]
     go_simp
     refine hK.out _ _ hSd (fun _=>?_)
     clear hK
     refine wpAnyH_ready (rs:=[18]) (by kernel_rfl) (by simp) ?_
     refine kg (o:=_) rfl (fun K' hK=>?_) kh
     rw[if_pos (by rfl)]
     go_simp
     refine hK.out _ _ HFIN.1 (fun _=>?_)
     clear hK
     refine wpAnyH_done (by kernel_rfl) ?_ _
     obtain ⟨f0,f1,f2,f3,f4,f5⟩:=HFIN
     go_wp2
     go_roundw
     case rel=>exact ⟨k+1,by omega,by go_num,some ⟨gg,0,none⟩,cap,f1,by rw[HST.out];exact f2,f3,f4,f5⟩
     case measure=>simp[intOf];omega
    case w2B =>
     rw[if_pos (by rfl)]
     go_simp
     refine (HON.out g _ g1 g2 (by assumption)).mono ?_
     rintro e V2 ⟨rfl,hb2⟩
     have hB2:Below W'.heap.size W' V2:=hB1.trans (hb2.mono hB1.size)
     have hSd:=HS.out _ hB2
     have p2:=HP2.out _ hB2
     refine hK.out _ _ hSd (fun _=>?_)
     clear hK
     refine wpAnyH_ready (rs:=[1,13]) (by kernel_rfl) (by simp) ?_
     refine kg (o:=_) rfl (fun K' hK=>?w3A) (kg (o:=_) rfl (fun K' hK=>?w3B) kh)
     case w3A =>
      rw[if_pos (by rfl)]
      go_simp
      refine hK.out _ _ hSd (fun _=>?_)
      clear hK
      refine wpAnyH_ready (rs:=[13]) (by kernel_rfl) (by simp) ?_
      refine kg (o:=_) rfl (fun K' hK=>?_) kh
      rw[if_pos (by rfl)]
      go_simp
      refine (HON.out u _ u1 u2 (by assumption)).mono ?_
      rintro e V3 ⟨rfl,hb3⟩
      have hB3:Below W'.heap.size W' V3:=hB2.trans (hb3.mono hB2.size)
      have hSd:=HS.out _ hB3
      have p2:=HP2.out _ hB3
      refine hK.out _ _ hSd (fun _=>?_)
      clear hK
      refine wpAnyH_take (i:=14) (oi:=_) (v:=.agg #[.int .i64 (qy0p ls r),.int .i64 (qy0p ls g),.int .i64 (qy0p ls u)]) rfl (by kernel_rfl) (by kernel_rfl) (by kernel_rfl) (fun _ _ _ h=>h) (Or.inl ⟨by rfl,fun v hSv=>by obtain ⟨t0,t1,t2⟩:=hSv;go_simp⟩) hSd ?_
      simp only[ke]
      refine wpAnyH_ready (rs:=[15]) (by kernel_rfl) (by simp) ?_
      refine kg (o:=_) rfl (fun K' hK=>?_) kh
      rw[if_pos (by rfl)]
      go_simp
      have hBs:Below W'.heap.size W' (V3.alloc (ka #[.int .i64 (qy0p ls r),.int .i64 (qy0p ls g),.int .i64 (qy0p ls u)] 61)):=hB3.alloc hB3.size _
      have hSd:=HS.out _ hBs
      have p2:=HP2.out _ hBs
      refine hK.out _ _ hSd (fun _=>?_)
      clear hK
      refine wpAnyH_ready (rs:=[16]) (by kernel_rfl) (by simp) ?_
      refine kg (o:=_) rfl (fun K' hK=>?_) kh
      refine step_append_lies _ rfl _ _ 22 rfl w.heap.size 61 i0 pixZ 3 24 Tryz.underlying22 hi hz0 hz1 hz2 rfl (by decide) (.slice so k scap) k XS rfl ((qw14 i2 hB3).alloc _) ⟨V3.heap.size,0,none⟩ 1 1 (pixL (qy0p ls r,qy0p ls g,qy0p ls u)) rfl rfl (World.news_of_block (al1 V3 _)) (fun u hu=>by simp[pixL] at hu;rcases hu with rfl|rfl|rfl<;>rfl) Nat.one_pos HL1.out HL2.out (kl hbW hBs.size) _ rfl ?_
      intro gg cap w1 hown hgrow hat hltg
      obtain ⟨hSd,p2,p2f,HFIN⟩:=HTL.out V3 gg cap w1 hB3 hgrow hown
      refine hK.out _ _ hSd (fun _=>?_)
      clear hK
      refine wpAnyH_ready (rs:=[17]) (by kernel_rfl) (by simp) ?_
      refine kg (o:=_) rfl (fun K' hK=>?_) kh
      rw[if_pos (by rfl)]
      go_simp
      refine hK.out _ _ hSd (fun _=>?_)
      clear hK
      refine wpAnyH_ready (rs:=[18]) (by kernel_rfl) (by simp) ?_
      refine kg (o:=_) rfl (fun K' hK=>?_) kh
      rw[if_pos (by rfl)]
      go_simp
      refine hK.out _ _ HFIN.1 (fun _=>?_)
      clear hK
      refine wpAnyH_done (by kernel_rfl) ?_ _
      obtain ⟨f0,f1,f2,f3,f4,f5⟩:=HFIN
      go_wp2
      go_roundw
      case rel=>exact ⟨k+1,by omega,by go_num,some ⟨gg,0,none⟩,cap,f1,by rw[HST.out];exact f2,f3,f4,f5⟩
      case measure=>simp[intOf];omega
     case w3B =>
      rw[if_pos (by rfl)]
      go_simp
      refine (HON.out u _ u1 u2 (by assumption)).mono ?_
      rintro e V3 ⟨rfl,hb3⟩
      have hB3:Below W'.heap.size W' V3:=hB2.trans (hb3.mono hB2.size)
      have hSd:=HS.out _ hB3
      have p2:=HP2.out _ hB3
      refine hK.out _ _ hSd (fun _=>?_)
      clear hK
      refine wpAnyH_take (i:=14) (oi:=_) (v:=.agg #[.int .i64 (qy0p ls r),.int .i64 (qy0p ls g),.int .i64 (qy0p ls u)]) rfl (by kernel_rfl) (by kernel_rfl) (by kernel_rfl) (fun _ _ _ h=>h) (Or.inl ⟨by rfl,fun v hSv=>by obtain ⟨t0,t1,t2⟩:=hSv;go_simp⟩) hSd ?_
      simp only[ke]
      refine wpAnyH_ready (rs:=[1,15]) (by kernel_rfl) (by simp) ?_
      refine kg (o:=_) rfl (fun K' hK=>?w4A) (kg (o:=_) rfl (fun K' hK=>?w4B) kh)
      case w4A =>
       rw[if_pos (by rfl)]
       go_simp
       refine hK.out _ _ hSd (fun _=>?_)
       clear hK
       refine wpAnyH_ready (rs:=[15]) (by kernel_rfl) (by simp) ?_
       refine kg (o:=_) rfl (fun K' hK=>?_) kh
       rw[if_pos (by rfl)]
       go_simp
       have hBs:Below W'.heap.size W' (V3.alloc (ka #[.int .i64 (qy0p ls r),.int .i64 (qy0p ls g),.int .i64 (qy0p ls u)] 61)):=hB3.alloc hB3.size _
       have hSd:=HS.out _ hBs
       have p2:=HP2.out _ hBs
       refine hK.out _ _ hSd (fun _=>?_)
       clear hK
       refine wpAnyH_ready (rs:=[16]) (by kernel_rfl) (by simp) ?_
       refine kg (o:=_) rfl (fun K' hK=>?_) kh
       refine step_append_lies _ rfl _ _ 22 rfl w.heap.size 61 i0 pixZ 3 24 Tryz.underlying22 hi hz0 hz1 hz2 rfl (by decide) (.slice so k scap) k XS rfl ((qw14 i2 hB3).alloc _) ⟨V3.heap.size,0,none⟩ 1 1 (pixL (qy0p ls r,qy0p ls g,qy0p ls u)) rfl rfl (World.news_of_block (al1 V3 _)) (fun u hu=>by simp[pixL] at hu;rcases hu with rfl|rfl|rfl<;>rfl) Nat.one_pos HL1.out HL2.out (kl hbW hBs.size) _ rfl ?_
       intro gg cap w1 hown hgrow hat hltg
       obtain ⟨hSd,p2,p2f,HFIN⟩:=HTL.out V3 gg cap w1 hB3 hgrow hown
       refine hK.out _ _ hSd (fun _=>?_)
       clear hK
       refine wpAnyH_ready (rs:=[17]) (by kernel_rfl) (by simp) ?_
       refine kg (o:=_) rfl (fun K' hK=>?_) kh
       rw[if_pos (by rfl)]
       go_simp
       refine hK.out _ _ hSd (fun _=>?_)
       clear hK
       refine wpAnyH_ready (rs:=[18]) (by kernel_rfl) (by simp) ?_
       refine kg (o:=_) rfl (fun K' hK=>?_) kh
       rw[if_pos (by rfl)]
       go_simp
       refine hK.out _ _ HFIN.1 (fun _=>?_)
       clear hK
       refine wpAnyH_done (by kernel_rfl) ?_ _
       obtain ⟨f0,f1,f2,f3,f4,f5⟩:=HFIN
       go_wp2
       go_roundw
       case rel=>exact ⟨k+1,by omega,by go_num,some ⟨gg,0,none⟩,cap,f1,by rw[HST.out];exact f2,f3,f4,f5⟩
       case measure=>simp[intOf];omega
      case w4B =>
       rw[if_pos (by rfl)]
       go_simp
       have hBs:Below W'.heap.size W' (V3.alloc (ka #[.int .i64 (qy0p ls r),.int .i64 (qy0p ls g),.int .i64 (qy0p ls u)] 61)):=hB3.alloc hB3.size _
       have hSd:=HS.out _ hBs
       have p2:=HP2.out _ hBs
       refine hK.out _ _ hSd (fun _=>?_)
       clear hK
       refine wpAnyH_ready (rs:=[1]) (by kernel_rfl) (by simp) ?_
       refine kg (o:=_) rfl (fun K' hK=>?_) kh
       rw[if_pos (by rfl)]
       go_simp
       refine hK.out _ _ hSd (fun _=>?_)
       clear hK
       refine wpAnyH_ready (rs:=[16]) (by kernel_rfl) (by simp) ?_
       refine kg (o:=_) rfl (fun K' hK=>?_) kh
       refine step_append_lies _ rfl _ _ 22 rfl w.heap.size 61 i0 pixZ 3 24 Tryz.underlying22 hi hz0 hz1 hz2 rfl (by decide) (.slice so k scap) k XS rfl ((qw14 i2 hB3).alloc _) ⟨V3.heap.size,0,none⟩ 1 1 (pixL (qy0p ls r,qy0p ls g,qy0p ls u)) rfl rfl (World.news_of_block (al1 V3 _)) (fun u hu=>by simp[pixL] at hu;rcases hu with rfl|rfl|rfl<;>rfl) Nat.one_pos HL1.out HL2.out (kl hbW hBs.size) _ rfl ?_
       intro gg cap w1 hown hgrow hat hltg
       obtain ⟨hSd,p2,p2f,HFIN⟩:=HTL.out V3 gg cap w1 hB3 hgrow hown
       refine hK.out _ _ hSd (fun _=>?_)
       clear hK
       refine wpAnyH_ready (rs:=[17]) (by kernel_rfl) (by simp) ?_
       refine kg (o:=_) rfl (fun K' hK=>?_) kh
       rw[if_pos (by rfl)]
       go_simp
       refine hK.out _ _ hSd (fun _=>?_)
       clear hK
       refine wpAnyH_ready (rs:=[18]) (by kernel_rfl) (by simp) ?_
       refine kg (o:=_) rfl (fun K' hK=>?_) kh
       rw[if_pos (by rfl)]
       go_simp
       refine hK.out _ _ HFIN.1 (fun _=>?_)
       clear hK
       refine wpAnyH_done (by kernel_rfl) ?_ _
       obtain ⟨f0,f1,f2,f3,f4,f5⟩:=HFIN
       go_wp2
       go_roundw
       case rel=>exact ⟨k+1,by omega,by go_num,some ⟨gg,0,none⟩,cap,f1,by rw[HST.out];exact f2,f3,f4,f5⟩
       case measure=>simp[intOf];omega
  ·have hd:decide ((k:Int)<(ps.length:Int))=false:=by simp;omega
   obtain rfl:k=ps.length:=by omega
   rw[kp (kf _)] at j2
   obtain ⟨p0,p1,p2⟩:=z5EY j1
   obtain ⟨z0,z1,z2⟩:=z5EY j4
   have f0:=kc j4 0
   have f1:=kc j4 1
   have f2:=kc j4 2
   have hfin:=zHqh j5 (show w.heap.size≤w.heap.size+1 by omega) (.int .i64 W) (.int .i64 H) (.slice so ps.length scap)
   have hpx:IsPix wr (.slice so ps.length scap) (ps.map (bendP ls)):=by
    have h:=IsPix.own (base:=w.heap.size) (ps:=ps.map (bendP ls)) (v:=.slice so ps.length scap) (by rw[List.length_map];exact j2) (by rw[List.length_map];omega)
    exact h
   have hne:(Value.slice so ps.length scap).ownBlock≠some (w.heap.size+1):=fun e=>qYYy j2 j4 (by decide) e.symm
   have hpx2:=hpx.other (zv5i wr (w.heap.size+1) (.int .i64 W) (.int .i64 H) (.slice so ps.length scap)) (fun b hb=>jZhz _ _ _ _ _ b hb) hne
   have HF:=hide (Fresh.own j2)
   have HX:=hide hpx2
   have HFI:=hide hfin
   clear hpx hpx2 hfin hne
   go_wp2
   exact bodyPost_ret (v:=.agg #[.int .i64 W,.int .i64 H,.slice so ps.length scap]) (by simp[results,Tryz.results87,go_sem,z0,z1,z2]) rfl ⟨_,rfl,HX.out,HFI.out,HF.out⟩
theorem downQ (n:Int) (h0:-8000000000≤n) (h1:n≤8000000000) (w:World):Calls Tryz.prog 143 #[.int .i64 n,.int .i64 4096] w fun e w'=>e=.returned (.int .i64 (n / 4096))∧w=w':=by
 have hf:=qFLz n 4096 (by omega)
 have hr:n / 4096=n / 4096:=rfl
 obtain ⟨q,hq⟩:∃q,n.tdiv 4096=q:=⟨_,rfl⟩
 rw[hq] at hf
 have hqb:-2000000≤q∧q≤2000000:=by omega
 obtain ⟨hq1,hq2⟩:=hqb
 rcases hf with ⟨ht,he⟩|⟨ht,he⟩
 ·have hd:decide (n<q*4096)=true:=by simpa using ht
  have HE:=hide he
  clear ht he hr
  go_enter Tryz.func143,Tryz.ntmps143
  go_wp2
  go_ret
  exact ⟨jx9N HE.out,rfl⟩
 ·have hd:decide (n<q*4096)=false:=by simpa using ht
  have HE:=hide he
  clear ht he hr
  go_enter Tryz.func143,Tryz.ntmps143
  go_wp2
  go_ret
  exact ⟨jx9N HE.out,rfl⟩
def Xm6f (v:Px) (kk:Nat):Array Value:=#[.int .i64 (if 1≤kk then v.1 else 0),.int .i64 (if 2≤kk then v.2.1 else 0),.int .i64 (if 3≤kk then v.2.2 else 0)]
theorem z7Es (x y z:Int):(Xm6f (x,y,z) 0).setIfInBounds 0 (.int .i64 x)=Xm6f (x,y,z) 1:=by simp[Xm6f]
theorem qSkb (x y z:Int):(Xm6f (x,y,z) 1).setIfInBounds 1 (.int .i64 y)=Xm6f (x,y,z) 2:=by simp[Xm6f]
theorem zUEL (x y z:Int):(Xm6f (x,y,z) 2).setIfInBounds 2 (.int .i64 z)=Xm6f (x,y,z) 3:=by simp[Xm6f]
theorem XBkg (W H:Int) (v:Value) (ps:List Px) (m:Nat→Int) (hm:matOk m=true) (hps:pxsOk ps=true) (h4:ps.length≤4096) (w:World) (hv:IsPix w v ps) :
  Calls Tryz.prog 88 #[.agg #[.int .i64 W,.int .i64 H,v],.agg (nine m)] w fun e w'=>∃r,e=.returned (.agg #[.int .i64 W,.int .i64 H,r])∧IsPix w' r (ps.map (mixP m))∧Below w.heap.size w w'∧Fresh w.heap.size r:=by
 have HPS:=hide hps
 have HM:=hide (fun k (hk:k<9)=>XiDe hm k hk)
 clear hps hm
 obtain ⟨ao,ca,rfl,hla,hc⟩:=hv
 obtain ⟨i0,hi,hz0,hz1,hz2⟩:=info_parts Tryz.infoPixel
 have HC:=hide (show ∀j,j<ps.length→∃bk off,ao=some ⟨bk,off,none⟩∧bk<w.heap.size∧w.cell? ⟨bk,off+j*3,none⟩=some (.int .i64 (pxAt ps j).1)∧w.cell? ⟨bk,off+j*3+1,none⟩=some (.int .i64 (pxAt ps j).2.1)∧w.cell? ⟨bk,off+j*3+2,none⟩=some (.int .i64 (pxAt ps j).2.2) from fun j hj=>by
  rcases hc with h|⟨b,off,h1,h2,h3⟩
  ·subst h;simp at hj
  ·have:=h3 j hj
   rw[jD3W ps j hj] at this
   exact ⟨b,off,h1,h2,this⟩)
 clear hc
 go_enter Tryz.func88,Tryz.ntmps88
 go_wp2_with fail
 obtain ⟨a1,a2,a3,a4⟩:=al4 w (ka #[.int .i64 W,.int .i64 H,.slice ao ps.length ca] 24) (ka (nine m) 48) (ka #[.int .i64 0,.int .i64 0,.slice none 0 0] 24) (ka #[.int .i64 W,.int .i64 H,.slice none 0 0] 24)
 have hB:=be4 w (ka #[.int .i64 W,.int .i64 H,.slice ao ps.length ca] 24) (ka (nine m) 48) (ka #[.int .i64 0,.int .i64 0,.slice none 0 0] 24) (ka #[.int .i64 W,.int .i64 H,.slice none 0 0] 24)
 generalize (((w.alloc (ka #[.int .i64 W,.int .i64 H,.slice ao ps.length ca] 24)).alloc (ka (nine m) 48)).alloc (ka #[.int .i64 0,.int .i64 0,.slice none 0 0] 24)).alloc (ka #[.int .i64 W,.int .i64 H,.slice none 0 0] 24)=U at *
 go_loopw [6] (fun i wr=>∃k:Nat,k≤ps.length∧i=.int .i64 k∧∃so scap,wr.heap[w.heap.size+3]?=some (.cells #[.int .i64 W,.int .i64 H,.slice so k scap] 24 (0,0))∧wr.ownsRow w.heap.size 61 3 (.slice so k scap) k (((ps.take k).map (mixP m)).flatMap pixL)∧wr.heap[w.heap.size]?=some (.cells #[.int .i64 W,.int .i64 H,.slice ao ps.length ca] 24 (0,0))∧wr.heap[w.heap.size+1]?=some (.cells (nine m) 48 (0,0))∧wr.heap[w.heap.size+2]?=some (.cells #[.int .i64 0,.int .i64 0,.slice none 0 0] 24 (0,0))∧Below w.heap.size w wr) (fun i _=>ps.length-(intOf i).toNat)
 case atStart=>exact ⟨0,ko _,rfl,none,0,a4,World.ownsRow_nil _ _ _ _,a1,a2,a3,hB⟩
 case round =>
  clear a1 a2 a3 a4 hB
  obtain ⟨k,hk,rfl,so,scap,j1,j2,j3,jm,j4,j5⟩:=hrel
  obtain ⟨_,_,q2⟩:=z5EY j3
  have hlq:=(kb.1 j3).1
  by_cases hlt:k<ps.length
  ·have hd:decide ((k:Int)<(ps.length:Int))=true:=by simp;omega
   obtain ⟨bk,off,rfl,hbl,c0,c1,c2⟩:=HC.out k hlt
   have d0:=(j5.cell (p:=⟨bk,off+k*3,none⟩) hbl).trans c0
   have d1:=(j5.cell (p:=⟨bk,off+k*3+1,none⟩) hbl).trans c1
   have d2:=(j5.cell (p:=⟨bk,off+k*3+2,none⟩) hbl).trans c2
   obtain ⟨⟨r1,r2⟩,⟨g1,g2⟩,u1,u2⟩:=(X1aR _).1 (z1DB HPS.out k)
   have HST:=hide (show ((ps.take (k+1)).map (mixP m)).flatMap pixL=((ps.take k).map (mixP m)).flatMap pixL++pixL (mixP m (pxAt ps k)) by
    rw[km hlt,jD3W ps k hlt,List.map_append,List.flatMap_append];simp)
   obtain ⟨⟨r,g,u⟩,hp⟩:∃p,pxAt ps k=p:=⟨_,rfl⟩
   rw[hp] at d0 d1 d2 r1 r2 g1 g2 u1 u2 HST
   clear c0 c1 c2 hp
   go_wp2_with fail
   refine (zjXb (r,g,u) _).mono ?_
   rintro e w1 ⟨rfl,hb1⟩
   go_wp2_with fail
   have hZ:=be2 w1 (ka #[.int .i64 r,.int .i64 g,.int .i64 u] 47) (ka #[.int .i64 0,.int .i64 0,.int .i64 0] 47)
   obtain ⟨zc0,zl0⟩:=al2 w1 (ka #[.int .i64 r,.int .i64 g,.int .i64 u] 47) (ka #[.int .i64 0,.int .i64 0,.int .i64 0] 47)
   have hW1:=hb1
   have hs1:=hb1.size
   have lm:=(kb.1 jm).1
   have lP:=(kb.1 j1).1
   have lR:=(kb.1 j4).1
   have hZ0:=quJN hb1 hZ
   have zm0:=(hZ0.block _ lm).trans jm
   have hsZ:((w1.alloc (ka #[.int .i64 r,.int .i64 g,.int .i64 u] 47)).alloc (ka #[.int .i64 0,.int .i64 0,.int .i64 0] 47)).heap.size=w1.heap.size+2:=by simp
   have hlw:w.heap.size+1<w1.heap.size:=by omega
   have HZ:=hide (show ((w1.alloc (ka #[.int .i64 r,.int .i64 g,.int .i64 u] 47)).alloc (ka #[.int .i64 0,.int .i64 0,.int .i64 0] 47)).heap.size=w1.heap.size+2 from hsZ)
   clear hsZ
   generalize (w1.alloc (ka #[.int .i64 r,.int .i64 g,.int .i64 u] 47)).alloc (ka #[.int .i64 0,.int .i64 0,.int .i64 0] 47)=Z0 at *
   go_loopw [9] (fun i wz=>∃kk:Nat,kk≤3∧i=.int .i64 kk∧wz.heap[w1.heap.size+1]?=some (.cells (Xm6f (mixP m (r,g,u)) kk) 47 (0,0))∧(∀b,b≠w1.heap.size+1→wz.heap[b]?=Z0.heap[b]?)∧wz.heap.size=Z0.heap.size∧Below w1.heap.size w1 wz) (fun i _=>3-(intOf i).toNat)
   case atStart=>exact ⟨0,by omega,rfl,zl0,fun _ _=>rfl,rfl,hZ⟩
   case round =>
    obtain ⟨kk,hkk,rfl,zL,zO,zS,zB⟩:=hrel
    have zm:=(zO (w.heap.size+1) (by omega)).trans zm0
    obtain ⟨y0,y1,y2⟩:=z5EY ((zO w1.heap.size (by omega)).trans zc0)
    clear d0 d1 d2 q2
    by_cases hk3:kk<3
    ·rcases (show kk=0∨kk=1∨kk=2 by omega) with rfl|rfl|rfl
     ·have e0:wr.cell? ⟨w.heap.size+1,0,none⟩=some (.int .i64 (m 0)):=by rw[kd zm,X1Cm m 0 (by omega)]
      have e1:wr.cell? ⟨w.heap.size+1,1,none⟩=some (.int .i64 (m 1)):=by rw[kd zm,X1Cm m 1 (by omega)]
      have e2:wr.cell? ⟨w.heap.size+1,2,none⟩=some (.int .i64 (m 2)):=by rw[kd zm,X1Cm m 2 (by omega)]
      have oL:wr.cell? ⟨w1.heap.size+1,0,none⟩=some (.int .i64 0):=by rw[kd zL];rfl
      have oF:wr.frozen? ⟨w1.heap.size+1,0,none⟩=false:=kc zL 0
      obtain ⟨ma1,ma2⟩:=z2et (HM.out 0 (by omega)).1 (HM.out 0 (by omega)).2 r1 r2 (by omega)
      obtain ⟨mb1,mb2⟩:=z2et (HM.out 1 (by omega)).1 (HM.out 1 (by omega)).2 g1 g2 (by omega)
      obtain ⟨mc1,mc2⟩:=z2et (HM.out 2 (by omega)).1 (HM.out 2 (by omega)).2 u1 u2 (by omega)
      have HV:=hide (show (mixP m (r,g,u)).1=jeC7 ((m 0*r+m 1*g+m 2*u) / 4096) from rfl)
      obtain ⟨A,hA'⟩:∃A,m 0*r=A:=⟨_,rfl⟩
      rw[hA'] at ma1 ma2 HV
      obtain ⟨B,hB'⟩:∃B,m 1*g=B:=⟨_,rfl⟩
      rw[hB'] at mb1 mb2 HV
      obtain ⟨C,hC'⟩:∃C,m 2*u=C:=⟨_,rfl⟩
      rw[hC'] at mc1 mc2 HV
      have hwA:IntKind.i64.wrap A=A:=ki _ (by omega)
      have hwB:IntKind.i64.wrap B=B:=ki _ (by omega)
      have hwC:IntKind.i64.wrap C=C:=ki _ (by omega)
      have hwAB:IntKind.i64.wrap (A+B)=A+B:=ki _ (by omega)
      have hwABC:IntKind.i64.wrap (A+B+C)=A+B+C:=ki _ (by omega)
      have HDN:=hide (downQ (A+B+C) (by omega) (by omega))
      have HST2:=hide (show (wr.setCell ⟨w1.heap.size+1,0,none⟩ (.int .i64 (jeC7 ((A+B+C) / 4096)))).heap[w1.heap.size+1]?=some (.cells (Xm6f (mixP m (r,g,u)) 1) 47 (0,0)) from by
       rw[heap_setCell_same wr (w1.heap.size+1) 0 _ _ _ zL,←HV.out]
       exact congrArg (fun t=>some (ka t 47 (0,0))) (z7Es _ _ _))
      have hdr:Below wr.heap.size wr wr.drew:=(kj _ _).drew
      have n1:w.heap.size+1≠w1.heap.size+1:=by omega
      have n2:¬(w.heap.size=w1.heap.size):=by omega
      have n3:¬(w1.heap.size=w.heap.size):=by omega
      have ec:((0:Nat):Int)=0:=rfl
      rw[ec]
      have f0:IntKind.i64.wrap (3*0)=0:=by decide
      have f1:IntKind.i64.wrap 0=0:=by decide
      have f2:IntKind.i64.wrap (0+1)=1:=by decide
      have f3:IntKind.i64.wrap (0+2)=2:=by decide
      have f4:IntKind.i64.wrap 1=1:=by decide
      have f5:IntKind.i64.wrap 2=2:=by decide
      go_wp2_with fail
      go_region_held3 (fun v=>v.cell? ⟨w.heap.size+1,0,none⟩=some (.int .i64 (m 0))∧v.cell? ⟨w.heap.size+1,1,none⟩=some (.int .i64 (m 1))∧v.cell? ⟨w.heap.size+1,2,none⟩=some (.int .i64 (m 2))∧v.cell? ⟨w1.heap.size,0,none⟩=some (.int .i64 r)∧v.cell? ⟨w1.heap.size,1,none⟩=some (.int .i64 g)∧v.cell? ⟨w1.heap.size,2,none⟩=some (.int .i64 u))
       (go_keep)
       (first
        | (go_at_call 143;refine (HDN.out _).mono ?_;rintro e wq ⟨rfl,rfl⟩)
        | (go_at_call 139;refine (XO78 _ _).mono ?_;rintro e wq ⟨rfl,rfl⟩))
      go_wp2
      go_roundw
      case rel=>exact ⟨1,by omega,rfl,HST2.out,fun b hb=>(kn _ _ _ _ hb).trans (zO b hb),(show (wr.setCell ⟨w1.heap.size+1,0,none⟩ (.int .i64 (jeC7 ((A+B+C) / 4096)))).heap.size=Z0.heap.size by simpa [World.setCell] using zS),(zB.setCell (p:=⟨w1.heap.size+1,0,none⟩) (Nat.le_succ _) _).drew⟩
      case measure=>simp[intOf]
     ·have e0:wr.cell? ⟨w.heap.size+1,3,none⟩=some (.int .i64 (m 3)):=by rw[kd zm,X1Cm m 3 (by omega)]
      have e1:wr.cell? ⟨w.heap.size+1,4,none⟩=some (.int .i64 (m 4)):=by rw[kd zm,X1Cm m 4 (by omega)]
      have e2:wr.cell? ⟨w.heap.size+1,5,none⟩=some (.int .i64 (m 5)):=by rw[kd zm,X1Cm m 5 (by omega)]
      have oL:wr.cell? ⟨w1.heap.size+1,1,none⟩=some (.int .i64 0):=by rw[kd zL];rfl
      have oF:wr.frozen? ⟨w1.heap.size+1,1,none⟩=false:=kc zL 1
      obtain ⟨ma1,ma2⟩:=z2et (HM.out 3 (by omega)).1 (HM.out 3 (by omega)).2 r1 r2 (by omega)
      obtain ⟨mb1,mb2⟩:=z2et (HM.out 4 (by omega)).1 (HM.out 4 (by omega)).2 g1 g2 (by omega)
      obtain ⟨mc1,mc2⟩:=z2et (HM.out 5 (by omega)).1 (HM.out 5 (by omega)).2 u1 u2 (by omega)
      have HV:=hide (show (mixP m (r,g,u)).2.1=jeC7 ((m 3*r+m 4*g+m 5*u) / 4096) from rfl)
      obtain ⟨A,hA'⟩:∃A,m 3*r=A:=⟨_,rfl⟩
      rw[hA'] at ma1 ma2 HV
      obtain ⟨B,hB'⟩:∃B,m 4*g=B:=⟨_,rfl⟩
      rw[hB'] at mb1 mb2 HV
      obtain ⟨C,hC'⟩:∃C,m 5*u=C:=⟨_,rfl⟩
      rw[hC'] at mc1 mc2 HV
      have hwA:IntKind.i64.wrap A=A:=ki _ (by omega)
      have hwB:IntKind.i64.wrap B=B:=ki _ (by omega)
      have hwC:IntKind.i64.wrap C=C:=ki _ (by omega)
      have hwAB:IntKind.i64.wrap (A+B)=A+B:=ki _ (by omega)
      have hwABC:IntKind.i64.wrap (A+B+C)=A+B+C:=ki _ (by omega)
      have HDN:=hide (downQ (A+B+C) (by omega) (by omega))
      have HST2:=hide (show (wr.setCell ⟨w1.heap.size+1,1,none⟩ (.int .i64 (jeC7 ((A+B+C) / 4096)))).heap[w1.heap.size+1]?=some (.cells (Xm6f (mixP m (r,g,u)) 2) 47 (0,0)) from by
       rw[heap_setCell_same wr (w1.heap.size+1) 1 _ _ _ zL,←HV.out]
       exact congrArg (fun t=>some (ka t 47 (0,0))) (qSkb _ _ _))
      have hdr:Below wr.heap.size wr wr.drew:=(kj _ _).drew
      have n1:w.heap.size+1≠w1.heap.size+1:=by omega
      have n2:¬(w.heap.size=w1.heap.size):=by omega
      have n3:¬(w1.heap.size=w.heap.size):=by omega
      have ec:((1:Nat):Int)=1:=rfl
      rw[ec]
      have f0:IntKind.i64.wrap (3*1)=3:=by decide
      have f1:IntKind.i64.wrap 3=3:=by decide
      have f2:IntKind.i64.wrap (3+1)=4:=by decide
      have f3:IntKind.i64.wrap (3+2)=5:=by decide
      have f4:IntKind.i64.wrap 4=4:=by decide
      have f5:IntKind.i64.wrap 5=5:=by decide
      go_wp2_with fail
      go_region_held3 (fun v=>v.cell? ⟨w.heap.size+1,3,none⟩=some (.int .i64 (m 3))∧v.cell? ⟨w.heap.size+1,4,none⟩=some (.int .i64 (m 4))∧v.cell? ⟨w.heap.size+1,5,none⟩=some (.int .i64 (m 5))∧v.cell? ⟨w1.heap.size,0,none⟩=some (.int .i64 r)∧v.cell? ⟨w1.heap.size,1,none⟩=some (.int .i64 g)∧v.cell? ⟨w1.heap.size,2,none⟩=some (.int .i64 u))
       (go_keep)
       (first
        | (go_at_call 143;refine (HDN.out _).mono ?_;rintro e wq ⟨rfl,rfl⟩)
        | (go_at_call 139;refine (XO78 _ _).mono ?_;rintro e wq ⟨rfl,rfl⟩))
      go_wp2
      go_roundw
      case rel=>exact ⟨2,by omega,rfl,HST2.out,fun b hb=>(kn _ _ _ _ hb).trans (zO b hb),(show (wr.setCell ⟨w1.heap.size+1,1,none⟩ (.int .i64 (jeC7 ((A+B+C) / 4096)))).heap.size=Z0.heap.size by simpa [World.setCell] using zS),(zB.setCell (p:=⟨w1.heap.size+1,1,none⟩) (Nat.le_succ _) _).drew⟩
      case measure=>simp[intOf]
     ·have e0:wr.cell? ⟨w.heap.size+1,6,none⟩=some (.int .i64 (m 6)):=by rw[kd zm,X1Cm m 6 (by omega)]
      have e1:wr.cell? ⟨w.heap.size+1,7,none⟩=some (.int .i64 (m 7)):=by rw[kd zm,X1Cm m 7 (by omega)]
      have e2:wr.cell? ⟨w.heap.size+1,8,none⟩=some (.int .i64 (m 8)):=by rw[kd zm,X1Cm m 8 (by omega)]
      have oL:wr.cell? ⟨w1.heap.size+1,2,none⟩=some (.int .i64 0):=by rw[kd zL];rfl
      have oF:wr.frozen? ⟨w1.heap.size+1,2,none⟩=false:=kc zL 2
      obtain ⟨ma1,ma2⟩:=z2et (HM.out 6 (by omega)).1 (HM.out 6 (by omega)).2 r1 r2 (by omega)
      obtain ⟨mb1,mb2⟩:=z2et (HM.out 7 (by omega)).1 (HM.out 7 (by omega)).2 g1 g2 (by omega)
      obtain ⟨mc1,mc2⟩:=z2et (HM.out 8 (by omega)).1 (HM.out 8 (by omega)).2 u1 u2 (by omega)
      have HV:=hide (show (mixP m (r,g,u)).2.2=jeC7 ((m 6*r+m 7*g+m 8*u) / 4096) from rfl)
      obtain ⟨A,hA'⟩:∃A,m 6*r=A:=⟨_,rfl⟩
      rw[hA'] at ma1 ma2 HV
      obtain ⟨B,hB'⟩:∃B,m 7*g=B:=⟨_,rfl⟩
      rw[hB'] at mb1 mb2 HV
      obtain ⟨C,hC'⟩:∃C,m 8*u=C:=⟨_,rfl⟩
      rw[hC'] at mc1 mc2 HV
      have hwA:IntKind.i64.wrap A=A:=ki _ (by omega)
      have hwB:IntKind.i64.wrap B=B:=ki _ (by omega)
      have hwC:IntKind.i64.wrap C=C:=ki _ (by omega)
      have hwAB:IntKind.i64.wrap (A+B)=A+B:=ki _ (by omega)
      have hwABC:IntKind.i64.wrap (A+B+C)=A+B+C:=ki _ (by omega)
      have HDN:=hide (downQ (A+B+C) (by omega) (by omega))
      have HST2:=hide (show (wr.setCell ⟨w1.heap.size+1,2,none⟩ (.int .i64 (jeC7 ((A+B+C) / 4096)))).heap[w1.heap.size+1]?=some (.cells (Xm6f (mixP m (r,g,u)) 3) 47 (0,0)) from by
       rw[heap_setCell_same wr (w1.heap.size+1) 2 _ _ _ zL,←HV.out]
       exact congrArg (fun t=>some (ka t 47 (0,0))) (zUEL _ _ _))
      have hdr:Below wr.heap.size wr wr.drew:=(kj _ _).drew
      have n1:w.heap.size+1≠w1.heap.size+1:=by omega
      have n2:¬(w.heap.size=w1.heap.size):=by omega
      have n3:¬(w1.heap.size=w.heap.size):=by omega
      have ec:((2:Nat):Int)=2:=rfl
      rw[ec]
      have f0:IntKind.i64.wrap (3*2)=6:=by decide
      have f1:IntKind.i64.wrap 6=6:=by decide
      have f2:IntKind.i64.wrap (6+1)=7:=by decide
      have f3:IntKind.i64.wrap (6+2)=8:=by decide
      have f4:IntKind.i64.wrap 7=7:=by decide
      have f5:IntKind.i64.wrap 8=8:=by decide
      go_wp2_with fail
      go_region_held3 (fun v=>v.cell? ⟨w.heap.size+1,6,none⟩=some (.int .i64 (m 6))∧v.cell? ⟨w.heap.size+1,7,none⟩=some (.int .i64 (m 7))∧v.cell? ⟨w.heap.size+1,8,none⟩=some (.int .i64 (m 8))∧v.cell? ⟨w1.heap.size,0,none⟩=some (.int .i64 r)∧v.cell? ⟨w1.heap.size,1,none⟩=some (.int .i64 g)∧v.cell? ⟨w1.heap.size,2,none⟩=some (.int .i64 u))
       (go_keep)
       (first
        | (go_at_call 143;refine (HDN.out _).mono ?_;rintro e wq ⟨rfl,rfl⟩)
        | (go_at_call 139;refine (XO78 _ _).mono ?_;rintro e wq ⟨rfl,rfl⟩))
      go_wp2
      go_roundw
      case rel=>exact ⟨3,by omega,rfl,HST2.out,fun b hb=>(kn _ _ _ _ hb).trans (zO b hb),(show (wr.setCell ⟨w1.heap.size+1,2,none⟩ (.int .i64 (jeC7 ((A+B+C) / 4096)))).heap.size=Z0.heap.size by simpa [World.setCell] using zS),(zB.setCell (p:=⟨w1.heap.size+1,2,none⟩) (Nat.le_succ _) _).drew⟩
      case measure=>simp[intOf]
    ·obtain rfl:kk=3:=by omega
     have ec:((3:Nat):Int)=3:=rfl
     rw[ec]
     have hT:=quJN hb1 zB
     have i1:=(hT.block _ lP).trans j1
     have i2:=qw14 j2 hT
     have i3:=(hT.block _ hlq).trans j3
     have i4:=(hT.block _ lR).trans j4
     have i5:=j5.trans (hT.mono j5.size)
     obtain ⟨⟨x,y,z⟩,hq⟩:∃q,mixP m (r,g,u)=q:=⟨_,rfl⟩
     rw[hq] at HST zL
     clear hq
     have iT:wr.heap[w1.heap.size+1]?=some (.cells #[.int .i64 x,.int .i64 y,.int .i64 z] 47 (0,0)):=zL
     have nT:some (w1.heap.size+1)≠(Value.slice so k scap).ownBlock:=fun e=>by have:=(j2.lt _ e.symm).2;omega
     have hlT:=(kb.1 iT).1
     have hlP:=(kb.1 i1).1
     have hbW:w.heap.size≤wr.heap.size:=i5.size
     obtain ⟨XS,hXS⟩:∃XS,((ps.take k).map (mixP m)).flatMap pixL=XS:=⟨_,rfl⟩
     rw[hXS] at i2 HST
     clear hXS j1 j2 j3 jm j4 j5 y0 y1 y2 zm0 zc0 zl0
     have HL1:=hide (show k+1≤maxLen by unfold maxLen;omega)
     have HL2:=hide (show (k+1)*24≤140737488355328 by omega)
     have HS:=hide (show ∀v,Below wr.heap.size wr v→v.cell? ⟨w1.heap.size+1,0,none⟩=some (.int .i64 x)∧v.cell? ⟨w1.heap.size+1,1,none⟩=some (.int .i64 y)∧v.cell? ⟨w1.heap.size+1,2,none⟩=some (.int .i64 z) from fun v h=>z5EY ((h.block _ hlT).trans iT))
     have HP2:=hide (show ∀v,Below wr.heap.size wr v→v.cell? ⟨w.heap.size+1+1+1,2,none⟩=some (.slice so k scap) from fun v h=>(z5EY ((h.block (w.heap.size+3) hlP).trans i1)).2.2)
     have HON:=hide (show ∀v:World,Calls Tryz.prog 44 #[.agg #[.int .i64 x,.int .i64 y,.int .i64 z]] v fun e v'=>e=.returned (.agg #[.int .i64 x,.int .i64 y,.int .i64 z])∧Below v.heap.size v v' from fun v=>qif0 (x,y,z) v)
     have HTL:=hide (show ∀(V1:World) (gg cap:Nat) (w2:World),Below wr.heap.size wr V1→(V1.alloc (ka #[.int .i64 x,.int .i64 y,.int .i64 z] 61)).grownBy w2 (Value.slice so k scap).ownBlock→w2.ownsRow w.heap.size 61 3 (.slice (some ⟨gg,0,none⟩) (k+1) cap) (k+1) (XS++pixL (x,y,z)) →
       (w2.cell? ⟨w1.heap.size+1,0,none⟩=some (.int .i64 x)∧w2.cell? ⟨w1.heap.size+1,1,none⟩=some (.int .i64 y)∧w2.cell? ⟨w1.heap.size+1,2,none⟩=some (.int .i64 z))∧w2.cell? ⟨w.heap.size+1+1+1,2,none⟩=some (.slice so k scap)∧w2.frozen? ⟨w.heap.size+1+1+1,2,none⟩=false∧(((w2.setCell ⟨w.heap.size+1+1+1,2,none⟩ (.slice (some ⟨gg,0,none⟩) (k+1) cap)).cell? ⟨w1.heap.size+1,0,none⟩=some (.int .i64 x)∧(w2.setCell ⟨w.heap.size+1+1+1,2,none⟩ (.slice (some ⟨gg,0,none⟩) (k+1) cap)).cell? ⟨w1.heap.size+1,1,none⟩=some (.int .i64 y)∧(w2.setCell ⟨w.heap.size+1+1+1,2,none⟩ (.slice (some ⟨gg,0,none⟩) (k+1) cap)).cell? ⟨w1.heap.size+1,2,none⟩=some (.int .i64 z)) ∧
        (w2.setCell ⟨w.heap.size+1+1+1,2,none⟩ (.slice (some ⟨gg,0,none⟩) (k+1) cap)).heap[w.heap.size+3]?=some (.cells #[.int .i64 W,.int .i64 H,(.slice (some ⟨gg,0,none⟩) (k+1) cap)] 24 (0,0))∧(w2.setCell ⟨w.heap.size+1+1+1,2,none⟩ (.slice (some ⟨gg,0,none⟩) (k+1) cap)).ownsRow w.heap.size 61 3 (.slice (some ⟨gg,0,none⟩) (k+1) cap) (k+1) (XS++pixL (x,y,z)) ∧
        (w2.setCell ⟨w.heap.size+1+1+1,2,none⟩ (.slice (some ⟨gg,0,none⟩) (k+1) cap)).heap[w.heap.size]?=some (.cells #[.int .i64 W,.int .i64 H,.slice (some ⟨bk,off,none⟩) ps.length ca] 24 (0,0))∧(w2.setCell ⟨w.heap.size+1+1+1,2,none⟩ (.slice (some ⟨gg,0,none⟩) (k+1) cap)).heap[w.heap.size+1]?=some (.cells (nine m) 48 (0,0))∧(w2.setCell ⟨w.heap.size+1+1+1,2,none⟩ (.slice (some ⟨gg,0,none⟩) (k+1) cap)).heap[w.heap.size+2]?=some (.cells #[.int .i64 0,.int .i64 0,.slice none 0 0] 24 (0,0))∧Below w.heap.size w (w2.setCell ⟨w.heap.size+1+1+1,2,none⟩ (.slice (some ⟨gg,0,none⟩) (k+1) cap))) from fun V1 gg cap w2 h1 h2 h3=>by
      obtain ⟨t1,t2,t3,t4,t5,t6,t7⟩:=jXId (q:=(x,y,z)) i1 i2 i5 (kf _) (by omega) h1 h2 h3
      have kT:=(t1 _ hlT nT).trans iT
      have xT:=(t7 _ hlT nT (by omega)).trans iT
      exact ⟨z5EY kT,t2,t3,z5EY xT,t4,t5,(t7 _ (kb.1 i3).1 (qYYy i2 i3 (by decide)) (by omega)).trans i3,(t7 _ (kb.1 zm).1 (qYYy i2 zm (by decide)) (by omega)).trans zm,(t7 _ (kb.1 i4).1 (qYYy i2 i4 (by decide)) (by omega)).trans i4,t6⟩)
     have hmx:Tryz.prog.follows .mixedOrders=true:=by kernel_rfl
     have hWd:Below wr.heap.size wr wr.drew:=(kj _ _).drew
     have hSd:=HS.out _ hWd
     have p2:=HP2.out _ hWd
     clear iT i1 zL
     go_wp2_with fail
     refine wp_region_held (S:=fun v:World=>v.cell? ⟨w1.heap.size+1,0,none⟩=some (.int .i64 x)∧v.cell? ⟨w1.heap.size+1,1,none⟩=some (.int .i64 y)∧v.cell? ⟨w1.heap.size+1,2,none⟩=some (.int .i64 z)) hmx ?_
     show wpAnyH _ _ _ _ _ 8 _ _ wr.drew
     refine wpAnyH_take (i:=0) (oi:=_) (v:=.pointer (some ⟨w.heap.size+1+1+1,2,none⟩)) rfl (by kernel_rfl) (by kernel_rfl) (by kernel_rfl) (fun _ _ _ h=>h) (Or.inl ⟨by rfl,fun v hSv=>by obtain ⟨t0,t1,t2⟩:=hSv;go_simp⟩) hSd ?_
     simp only[ke]
     refine wpAnyH_take (i:=2) (oi:=_) (v:=.agg #[.int .i64 x,.int .i64 y,.int .i64 z]) rfl (by kernel_rfl) (by kernel_rfl) (by kernel_rfl) (fun _ _ _ h=>h) (Or.inl ⟨by rfl,fun v hSv=>by obtain ⟨t0,t1,t2⟩:=hSv;go_simp⟩) hSd ?_
     simp only[ke]
     refine wpAnyH_ready (rs:=[1,3]) (by kernel_rfl) (by simp) ?_
     refine kg (o:=_) rfl (fun K' hK=>?w1A) (kg (o:=_) rfl (fun K' hK=>?w1B) kh)
     case w1A =>
      rw[if_pos (by rfl)]
      go_simp
      refine hK.out _ _ hSd (fun _=>?_)
      clear hK
      refine wpAnyH_ready (rs:=[3]) (by kernel_rfl) (by simp) ?_
      refine kg (o:=_) rfl (fun K' hK=>?_) kh
      rw[if_pos (by rfl)]
      go_simp
      refine (HON.out _).mono ?_
      rintro e V1 ⟨rfl,hbv⟩
      have hB1:Below wr.heap.size wr V1:=hWd.trans (hbv.mono hWd.size)
      have hSd:=HS.out _ hB1
      have p2:=HP2.out _ hB1
      refine hK.out _ _ hSd (fun _=>?_)
      clear hK
      refine wpAnyH_ready (rs:=[4]) (by kernel_rfl) (by simp) ?_
      refine kg (o:=_) rfl (fun K' hK=>?_) kh
      rw[if_pos (by rfl)]
      go_simp
      have hBs:Below wr.heap.size wr (V1.alloc (ka #[.int .i64 x,.int .i64 y,.int .i64 z] 61)):=hB1.alloc hB1.size _
      have hSd:=HS.out _ hBs
      have p2:=HP2.out _ hBs
      refine hK.out _ _ hSd (fun _=>?_)
      clear hK
      refine wpAnyH_ready (rs:=[5]) (by kernel_rfl) (by simp) ?_
      refine kg (o:=_) rfl (fun K' hK=>?_) kh
      refine step_append_lies _ rfl _ _ 22 rfl w.heap.size 61 i0 pixZ 3 24 Tryz.underlying22 hi hz0 hz1 hz2 rfl (by decide) (.slice so k scap) k XS rfl ((qw14 i2 hB1).alloc _) ⟨V1.heap.size,0,none⟩ 1 1 (pixL (x,y,z)) rfl rfl (World.news_of_block (al1 V1 _)) (fun u hu=>by simp[pixL] at hu;rcases hu with rfl|rfl|rfl<;>rfl) Nat.one_pos HL1.out HL2.out (kl hbW hBs.size) _ rfl ?_
      intro gg cap w2 hown hgrow hat hltg
      obtain ⟨hSd,p2,p2f,HFIN⟩:=HTL.out V1 gg cap w2 hB1 hgrow hown
      refine hK.out _ _ hSd (fun _=>?_)
      clear hK
      refine wpAnyH_ready (rs:=[6]) (by kernel_rfl) (by simp) ?_
      refine kg (o:=_) rfl (fun K' hK=>?_) kh
      rw[if_pos (by rfl)]
      go_simp
      refine hK.out _ _ hSd (fun _=>?_)
      clear hK
      refine wpAnyH_ready (rs:=[7]) (by kernel_rfl) (by simp) ?_
      refine kg (o:=_) rfl (fun K' hK=>?_) kh
      rw[if_pos (by rfl)]
      go_simp
      refine hK.out _ _ HFIN.1 (fun _=>?_)
      clear hK
      refine wpAnyH_done (by kernel_rfl) ?_ _
      obtain ⟨f0,f1,f2,f3,f4,f5,f6⟩:=HFIN
      go_wp2
      go_roundw
      case rel=>exact ⟨k+1,by omega,by go_num,some ⟨gg,0,none⟩,cap,f1,by rw[HST.out];exact f2,f3,f4,f5,f6⟩
      case measure=>simp[intOf];omega
     case w1B =>
      rw[if_pos (by rfl)]
      go_simp
      refine (HON.out _).mono ?_
      rintro e V1 ⟨rfl,hbv⟩
      have hB1:Below wr.heap.size wr V1:=hWd.trans (hbv.mono hWd.size)
      have hSd:=HS.out _ hB1
      have p2:=HP2.out _ hB1
      refine hK.out _ _ hSd (fun _=>?_)
      clear hK
      refine wpAnyH_ready (rs:=[1,4]) (by kernel_rfl) (by simp) ?_
      refine kg (o:=_) rfl (fun K' hK=>?w2A) (kg (o:=_) rfl (fun K' hK=>?w2B) kh)
      case w2A =>
       rw[if_pos (by rfl)]
       go_simp
       refine hK.out _ _ hSd (fun _=>?_)
       clear hK
       refine wpAnyH_ready (rs:=[4]) (by kernel_rfl) (by simp) ?_
       refine kg (o:=_) rfl (fun K' hK=>?_) kh
       rw[if_pos (by rfl)]
       go_simp
       have hBs:Below wr.heap.size wr (V1.alloc (ka #[.int .i64 x,.int .i64 y,.int .i64 z] 61)):=hB1.alloc hB1.size _
       have hSd:=HS.out _ hBs
       have p2:=HP2.out _ hBs
       refine hK.out _ _ hSd (fun _=>?_)
       clear hK
       refine wpAnyH_ready (rs:=[5]) (by kernel_rfl) (by simp) ?_
       refine kg (o:=_) rfl (fun K' hK=>?_) kh
       refine step_append_lies _ rfl _ _ 22 rfl w.heap.size 61 i0 pixZ 3 24 Tryz.underlying22 hi hz0 hz1 hz2 rfl (by decide) (.slice so k scap) k XS rfl ((qw14 i2 hB1).alloc _) ⟨V1.heap.size,0,none⟩ 1 1 (pixL (x,y,z)) rfl rfl (World.news_of_block (al1 V1 _)) (fun u hu=>by simp[pixL] at hu;rcases hu with rfl|rfl|rfl<;>rfl) Nat.one_pos HL1.out HL2.out (kl hbW hBs.size) _ rfl ?_
       intro gg cap w2 hown hgrow hat hltg
       obtain ⟨hSd,p2,p2f,HFIN⟩:=HTL.out V1 gg cap w2 hB1 hgrow hown
       refine hK.out _ _ hSd (fun _=>?_)
       clear hK
       refine wpAnyH_ready (rs:=[6]) (by kernel_rfl) (by simp) ?_
       refine kg (o:=_) rfl (fun K' hK=>?_) kh
       rw[if_pos (by rfl)]
       go_simp
       refine hK.out _ _ hSd (fun _=>?_)
       clear hK
       refine wpAnyH_ready (rs:=[7]) (by kernel_rfl) (by simp) ?_
       refine kg (o:=_) rfl (fun K' hK=>?_) kh
       rw[if_pos (by rfl)]
       go_simp
       refine hK.out _ _ HFIN.1 (fun _=>?_)
       clear hK
       refine wpAnyH_done (by kernel_rfl) ?_ _
       obtain ⟨f0,f1,f2,f3,f4,f5,f6⟩:=HFIN
       go_wp2
       go_roundw
       case rel=>exact ⟨k+1,by omega,by go_num,some ⟨gg,0,none⟩,cap,f1,by rw[HST.out];exact f2,f3,f4,f5,f6⟩
       case measure=>simp[intOf];omega
      case w2B =>
       rw[if_pos (by rfl)]
       go_simp
       have hBs:Below wr.heap.size wr (V1.alloc (ka #[.int .i64 x,.int .i64 y,.int .i64 z] 61)):=hB1.alloc hB1.size _
       have hSd:=HS.out _ hBs
       have p2:=HP2.out _ hBs
       refine hK.out _ _ hSd (fun _=>?_)
       clear hK
       refine wpAnyH_ready (rs:=[1]) (by kernel_rfl) (by simp) ?_
       refine kg (o:=_) rfl (fun K' hK=>?_) kh
       rw[if_pos (by rfl)]
       go_simp
       refine hK.out _ _ hSd (fun _=>?_)
       clear hK
       refine wpAnyH_ready (rs:=[5]) (by kernel_rfl) (by simp) ?_
       refine kg (o:=_) rfl (fun K' hK=>?_) kh
       refine step_append_lies _ rfl _ _ 22 rfl w.heap.size 61 i0 pixZ 3 24 Tryz.underlying22 hi hz0 hz1 hz2 rfl (by decide) (.slice so k scap) k XS rfl ((qw14 i2 hB1).alloc _) ⟨V1.heap.size,0,none⟩ 1 1 (pixL (x,y,z)) rfl rfl (World.news_of_block (al1 V1 _)) (fun u hu=>by simp[pixL] at hu;rcases hu with rfl|rfl|rfl<;>rfl) Nat.one_pos HL1.out HL2.out (kl hbW hBs.size) _ rfl ?_
       intro gg cap w2 hown hgrow hat hltg
       obtain ⟨hSd,p2,p2f,HFIN⟩:=HTL.out V1 gg cap w2 hB1 hgrow hown
       refine hK.out _ _ hSd (fun _=>?_)
       clear hK
       refine wpAnyH_ready (rs:=[6]) (by kernel_rfl) (by simp) ?_
       refine kg (o:=_) rfl (fun K' hK=>?_) kh
       rw[if_pos (by rfl)]
       go_simp
       refine hK.out _ _ hSd (fun _=>?_)
       clear hK
       refine wpAnyH_ready (rs:=[7]) (by kernel_rfl) (by simp) ?_
       refine kg (o:=_) rfl (fun K' hK=>?_) kh
       rw[if_pos (by rfl)]
       go_simp
       refine hK.out _ _ HFIN.1 (fun _=>?_)
       clear hK
       refine wpAnyH_done (by kernel_rfl) ?_ _
       obtain ⟨f0,f1,f2,f3,f4,f5,f6⟩:=HFIN
       go_wp2
       go_roundw
       case rel=>exact ⟨k+1,by omega,by go_num,some ⟨gg,0,none⟩,cap,f1,by rw[HST.out];exact f2,f3,f4,f5,f6⟩
       case measure=>simp[intOf];omega
  ·have hd:decide ((k:Int)<(ps.length:Int))=false:=by simp;omega
   obtain rfl:k=ps.length:=by omega
   rw[kp (kf _)] at j2
   obtain ⟨p0,p1,p2⟩:=z5EY j1
   obtain ⟨z0,z1,z2⟩:=z5EY j4
   have f0:=kc j4 0
   have f1:=kc j4 1
   have f2:=kc j4 2
   have hfin:=zHqh j5 (show w.heap.size≤w.heap.size+2 by omega) (.int .i64 W) (.int .i64 H) (.slice so ps.length scap)
   have hpx:IsPix wr (.slice so ps.length scap) (ps.map (mixP m)):=by
    have h:=IsPix.own (base:=w.heap.size) (ps:=ps.map (mixP m)) (v:=.slice so ps.length scap) (by rw[List.length_map];exact j2) (by rw[List.length_map];omega)
    exact h
   have hne:(Value.slice so ps.length scap).ownBlock≠some (w.heap.size+2):=fun e=>qYYy j2 j4 (by decide) e.symm
   have hpx2:=hpx.other (zv5i wr (w.heap.size+2) (.int .i64 W) (.int .i64 H) (.slice so ps.length scap)) (fun b hb=>jZhz _ _ _ _ _ b hb) hne
   have HF:=hide (Fresh.own j2)
   have HX:=hide hpx2
   have HFI:=hide hfin
   clear hpx hpx2 hfin hne
   go_wp2
   exact bodyPost_ret (v:=.agg #[.int .i64 W,.int .i64 H,.slice so ps.length scap]) (by simp[results,Tryz.results88,go_sem,z0,z1,z2]) rfl ⟨_,rfl,HX.out,HFI.out,HF.out⟩
end Go.Proofs.YtfjeonehdlphiaaGreatDoor
