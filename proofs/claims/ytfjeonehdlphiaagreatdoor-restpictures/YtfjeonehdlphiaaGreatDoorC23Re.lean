/- Re: part 23 of what the proofs need. -/
import Derived.Test.YtfjeonehdlphiaaGreatDoorC20Re
import Derived.Test.YtfjeonehdlphiaaGreatDoorC21Re
import Derived.Test.YtfjeonehdlphiaaGreatDoorC22Re
open Go.Obj renaming cells → ka
open List renaming setIfInBounds_toArray → kc, set_cons_zero → ke, set_cons_succ → kf, getElem?_eq_getElem → km, take_succ_eq_append_getElem → kp, take_of_length_le → ku
open Array renaming getElem?_eq_some_iff → kd
open Go.Lib renaming frozen_of_heap → kh, cell_of_heap → ki
open Go.Act renaming put → kj
open Nat renaming le_refl → kl, le_trans → ko, zero_le → kr, mul_le_mul_right → kt, succ_mul → kv
open Go.IntWalk renaming i64_in → kn
open Go.RowKit.Below renaming heap_setCell → kq
open Int renaming toNat_natCast → ks
set_option linter.unusedVariables false
set_option maxHeartbeats 16000000
set_option maxRecDepth 100000
namespace Go.Proofs.YtfjeonehdlphiaaGreatDoor
open Go.RowKit
theorem qkAR (p X Y:Nat) (hp:p≤3) (hX:X≤4096) (hY:Y≤4096) (w:World) :
  Calls Tryz.prog 140 #[.int .i64 p,.int .i64 X,.int .i64 Y] w fun e w'=>e=.returned (.int .i64 (colV p X Y:Nat))∧w=w':=by
 obtain ⟨C,hC⟩:∃C,colV p X Y=C:=⟨_,rfl⟩
 rw[hC]
 have hx:X % 2=0∨X % 2=1:=by omega
 have hy:Y % 2=0∨Y % 2=1:=by omega
 rcases (show p=0∨p=1∨p=2∨p=3 by omega) with rfl|rfl|rfl|rfl<;>rcases hx with hx|hx<;>rcases hy with hy|hy
 all_goals
  rw[colV,colB,hx,hy] at hC
  simp at hC
  have HC:=hide hC.symm
  have hxi:(X:Int) % 2=((X % 2:Nat):Int):=rfl
  have hyi:(Y:Int) % 2=((Y % 2:Nat):Int):=rfl
  rw[hx] at hxi
  rw[hy] at hyi
  have hx1:((X:Int)+1) % 2=1-(X:Int) % 2:=by omega
  have hy1:((Y:Int)+1) % 2=1-(Y:Int) % 2:=by omega
  rw[hxi] at hx1
  rw[hyi] at hy1
  clear hC hx hy
  go_enter Tryz.func140,Tryz.ntmps140
  go_wp2
  go_ret
  rw[HC.out]
  exact ⟨rfl,rfl⟩
theorem qcYz (W H X Y k:Nat) (v:Value) (zs:List Int) (w:World) (hv:jCvT w v zs) (hm:Y*W+X=k) (hk:k<zs.length) (hk2:zs.length≤4096) :
  Calls Tryz.prog 142 #[.agg #[.int .i64 W,.int .i64 H,v],.int .i64 X,.int .i64 Y] w fun e w'=>e=.returned (.int .i64 (zAt zs k))∧Below w.heap.size w w':=by
 obtain ⟨bk,off,ca,rfl,hbk,hcell⟩:=hv.cells (by omega)
 have hc1:∀o,(w.alloc o).cell? ⟨bk,off+k,none⟩=some (.int .i64 (zAt zs k)):=fun o=>by
  rw[World.cell?_of_block (w:=w) (Below.heap_alloc w o bk hbk),hcell k hk]
 clear hcell
 obtain ⟨M,hM⟩:∃M:Nat,M=Y*W:=⟨_,rfl⟩
 have hmm:(Y:Int)*(W:Int)=(M:Int):=by rw[hM];simp
 rw[←hM] at hm
 have hat:(M:Int)+(X:Int)=(k:Int):=by omega
 clear hM
 generalize zAt zs k=Z at *
 go_enter Tryz.func142,Tryz.ntmps142
 go_wp2
 go_ret
 exact ⟨rfl,qUNz _ _⟩
def GaJ (w:World) (W H:Nat) (qv:Value) (m:Nat→Int) (L:List Int) (k:Nat) (wr:World):Prop :=
 ∃so scap,wr.heap[w.heap.size+3]?=some (.cells #[.int .i64 W,.int .i64 H,.slice so k scap] 54 (0,0))∧wr.ownsRow w.heap.size 3 1 (.slice so k scap) k ((L.take k).map (Value.int .i64))∧wr.heap[w.heap.size]?=some (.cells #[.int .i64 W,.int .i64 H,qv] 54 (0,0))∧wr.heap[w.heap.size+2]?=some (.cells #[.int .i64 0,.int .i64 0,.slice none 0 0] 54 (0,0))∧wr.heap[w.heap.size+1]?=some (.cells (qilW m) 47 (0,0))∧Below w.heap.size w wr
theorem z3TH (W H p:Nat) (hW1:1≤W) (hW:W≤64) (hH:H≤64) (hp:p≤3) (v:Value) (zs:List Int) (m:Nat→Int) (hm:∀k,k<3→0≤m k∧m k≤65535) (hlen:zs.length=H*W) (hzs:allIn 0 65535 zs=true) (w:World) (hv:jCvT w v zs) :
  Calls Tryz.prog 83 #[.agg #[.int .i64 W,.int .i64 H,v],.int .i64 p,.agg (qilW m)] w fun e w'=>∃r,e=.returned (.agg #[.int .i64 W,.int .i64 H,r])∧jCvT w' r ((List.range zs.length).map (gainV zs W p m))∧Below w.heap.size w w'∧Fresh w.heap.size r:=by
 have HZS:=hide hzs
 have HMM:=hide hm
 have hlb:zs.length≤4096:=by rw[hlen];exact ko (Nat.mul_le_mul hH hW) (by decide)
 have hLL:((List.range zs.length).map (gainV zs W p m)).length=zs.length:=by simp
 have HLG:=hide (show ∀j,j<zs.length→((List.range zs.length).map (gainV zs W p m))[j]?=some (gainV zs W p m j) from fun j hj=>by simp[hj])
 obtain ⟨L,hL⟩:∃L,(List.range zs.length).map (gainV zs W p m)=L:=⟨_,rfl⟩
 rw[hL] at hLL HLG ⊢
 have HLL:=hide hLL
 clear hL hLL hzs hlen hm
 obtain ⟨ao,ca,rfl,hla,hc⟩:=hv
 have HC:=hide (show ∀j,j<zs.length→∃bk off,ao=some ⟨bk,off,none⟩∧bk<w.heap.size∧w.cell? ⟨bk,off+j,none⟩=some (.int .i64 (zAt zs j)) from fun j hj=>by
  rcases hc with h|⟨b,off,h1,h2,h3⟩
  ·subst h;simp at hj
  ·have:=h3 j hj
   rw[Xw1z zs j hj] at this
   exact ⟨b,off,h1,h2,this⟩)
 clear hc
 obtain ⟨i0,hi,hz0,hz1,hz2⟩:=info_parts Tryz.infoInt
 go_enter Tryz.func83,Tryz.ntmps83
 go_wp2_with fail
 obtain ⟨a1,a2,a3,a4⟩:=al4 w (ka #[.int .i64 W,.int .i64 H,.slice ao zs.length ca] 54) (ka (qilW m) 47) (ka #[.int .i64 0,.int .i64 0,.slice none 0 0] 54) (ka #[.int .i64 W,.int .i64 H,.slice none 0 0] 54)
 have hB:=be4 w (ka #[.int .i64 W,.int .i64 H,.slice ao zs.length ca] 54) (ka (qilW m) 47) (ka #[.int .i64 0,.int .i64 0,.slice none 0 0] 54) (ka #[.int .i64 W,.int .i64 H,.slice none 0 0] 54)
 generalize (((w.alloc (ka #[.int .i64 W,.int .i64 H,.slice ao zs.length ca] 54)).alloc (ka (qilW m) 47)).alloc (ka #[.int .i64 0,.int .i64 0,.slice none 0 0] 54)).alloc (ka #[.int .i64 W,.int .i64 H,.slice none 0 0] 54)=U at *
 go_loopw [8] (fun i wr=>∃k:Nat,k≤zs.length∧i=.int .i64 k∧GaJ w W H (.slice ao zs.length ca) m L k wr) (fun i _=>zs.length-(intOf i).toNat)
 case atStart=>exact ⟨0,kr _,rfl,none,0,a4,World.ownsRow_nil _ _ _ _,a1,a3,a2,hB⟩
 case round =>
  clear a1 a2 a3 a4 hB
  obtain ⟨k,hk,rfl,so,scap,j1,j2,j3,j4,j6,j5⟩:=hrel
  obtain ⟨q0,q1,q2⟩:=z5EY j3
  by_cases hlt:k<zs.length
  ·have hd:decide ((k:Int)<(zs.length:Int))=true:=by simp;omega
   have hlI:(k:Int)<(zs.length:Int):=by omega
   obtain ⟨bk,off,rfl,hbl,c0⟩:=HC.out k hlt
   have HTV:=hide (show gainV zs W p m k=jeC7 (zAt zs k*m (colV p (k % W) (k / W)) / 256) from rfl)
   have hXW:k % W<W:=Nat.mod_lt _ (by omega)
   have hYl:k / W≤4096:=ko (Nat.div_le_self _ _) (by omega)
   have hm1:(k:Int).tmod (W:Int)=((k % W:Nat):Int):=rfl
   have hm2:(k:Int) % (W:Int)=((k % W:Nat):Int):=rfl
   have hd1:(k:Int).tdiv (W:Int)=((k / W:Nat):Int):=rfl
   have hd2:(k:Int) / (W:Int)=((k / W:Nat):Int):=rfl
   obtain ⟨X,hX⟩:∃X,k % W=X:=⟨_,rfl⟩
   obtain ⟨Y,hY⟩:∃Y,k / W=Y:=⟨_,rfl⟩
   rw[hX] at hm1 hm2 hXW HTV
   rw[hY] at hd1 hd2 hYl HTV
   have hW0:¬(W=0):=by omega
   have hwz:((W:Int) == 0)=false:=by rw[beq_eq_false_iff_ne];omega
   have hwX:IntKind.i64.wrap (X:Int)=(X:Int):=kn _ (by omega)
   have hwY:IntKind.i64.wrap (Y:Int)=(Y:Int):=kn _ (by omega)
   have HCO:=hide (fun u=>qkAR p X Y hp (by omega) hYl u)
   have hq3:=Xmh1 p X Y
   obtain ⟨c,hc⟩:∃c,colV p X Y=c:=⟨_,rfl⟩
   rw[hc] at HCO HTV hq3
   have hcI:(c:Int)<3:=by omega
   obtain ⟨hg0,hg1⟩:=HMM.out c hq3
   have kg:∀u:World,u.heap[w.heap.size+1]?=some (.cells (qilW m) 47 (0,0))→u.cell? ⟨w.heap.size+1,c,none⟩=some (.int .i64 (m c)):=fun u h=>by rw[ki h,jscf m c hq3]
   obtain ⟨gn,hgn⟩:∃gn,m c=gn:=⟨_,rfl⟩
   rw[hgn] at HTV hg0 hg1 kg
   have hzr:=XWrv HZS.out k
   obtain ⟨z,hz⟩:∃z,zAt zs k=z:=⟨_,rfl⟩
   rw[hz] at HTV hzr c0
   obtain ⟨hzr1,hzr2⟩:=hzr
   have hn0:0≤z*gn:=Int.mul_nonneg hzr1 hg0
   have hn1:z*gn≤65535*65535:=Int.mul_le_mul hzr2 hg1 hg0 (by omega)
   obtain ⟨n,hn⟩:∃n,z*gn=n:=⟨_,rfl⟩
   rw[hn] at HTV hn0 hn1
   have hq0:=Int.tdiv_eq_ediv_of_nonneg (b:=256) hn0
   obtain ⟨q,hq⟩:∃q,n / 256=q:=⟨_,rfl⟩
   rw[hq] at HTV hq0
   have hwn:IntKind.i64.wrap n=n:=kn _ (by omega)
   have hwq:IntKind.i64.wrap q=q:=kn _ (by omega)
   obtain ⟨y,hy⟩:∃y,jeC7 q=y:=⟨_,rfl⟩
   rw[hy] at HTV
   have HCL:=hide (fun u=>XO78 q u)
   rw[hy] at HCL
   have HST:=hide (show (L.take (k+1)).map (Value.int .i64)=(L.take k).map (Value.int .i64)++[.int .i64 y] by
    have hk2:k<L.length:=by rw[HLL.out];exact hlt
    have hg:=HLG.out k hlt
    rw[km hk2] at hg
    rw[kp hk2,Option.some.inj hg,List.map_append,HTV.out];rfl)
   obtain ⟨XS,hXS⟩:∃XS,(L.take k).map (Value.int .i64)=XS:=⟨_,rfl⟩
   rw[hXS] at j2 HST
   have hbW:=j5.size
   have HL1:=hide (show k+1≤maxLen by unfold maxLen;omega)
   have HL2:=hide (show (k+1)*8≤140737488355328 by omega)
   clear hX hY hc hz hgn hy hXS
   have HS:=hide (show ∀v,Below wr.heap.size wr v→v.cell? ⟨w.heap.size+1+1+1,2,none⟩=some (.slice so k scap)∧v.cell? ⟨w.heap.size,0,none⟩=some (.int .i64 W)∧v.cell? ⟨w.heap.size,2,none⟩=some (.slice (some ⟨bk,off,none⟩) zs.length ca)∧v.cell? ⟨bk,off+k,none⟩=some (.int .i64 z)∧v.cell? ⟨w.heap.size+1,c,none⟩=some (.int .i64 gn) from fun v h=>by
    obtain ⟨_,_,t2⟩:=z5EY ((h.block (w.heap.size+3) (kd.1 j1).1).trans j1)
    obtain ⟨y0,_,y2⟩:=z5EY ((h.block _ (kd.1 j3).1).trans j3)
    exact ⟨t2,y0,y2,((j5.trans (h.mono j5.size)).cell (p:=⟨bk,off+k,none⟩) hbl).trans c0,kg _ ((h.block _ (kd.1 j6).1).trans j6)⟩)
   have nq:=qYYy j2 j3 (by decide)
   have nb:some bk≠(Value.slice so k scap).ownBlock:=fun e=>by have:=(j2.lt bk e.symm).1;omega
   have HTL:=hide (show ∀(V1:World) (gg cap:Nat) (w3:World),Below wr.heap.size wr V1→V1.grownBy w3 (Value.slice so k scap).ownBlock→w3.ownsRow w.heap.size 3 1 (.slice (some ⟨gg,0,none⟩) (k+1) cap) (k+1) (XS++[.int .i64 y])→(w3.cell? ⟨w.heap.size+1+1+1,2,none⟩=some (.slice so k scap)∧w3.cell? ⟨w.heap.size,0,none⟩=some (.int .i64 W)∧w3.cell? ⟨w.heap.size,2,none⟩=some (.slice (some ⟨bk,off,none⟩) zs.length ca)∧w3.cell? ⟨bk,off+k,none⟩=some (.int .i64 z)∧w3.cell? ⟨w.heap.size+1,c,none⟩=some (.int .i64 gn))∧w3.frozen? ⟨w.heap.size+1+1+1,2,none⟩=false∧GaJ w W H (.slice (some ⟨bk,off,none⟩) zs.length ca) m L (k+1) (w3.setCell ⟨w.heap.size+1+1+1,2,none⟩ (.slice (some ⟨gg,0,none⟩) (k+1) cap)) from fun V1 gg cap w3 h1 h2 h3=>by
    obtain ⟨t1,t2,t3,t4,t5,t6,t7⟩:=j7Ww (by decide) j1 j2 j5 (kl _) (by omega) h1 h2 h3
    obtain ⟨y0,_,y2⟩:=z5EY ((t1 _ (kd.1 j3).1 nq).trans j3)
    have kb:=t1 bk (by omega) nb
    have n6:=qYYy j2 j6 (by decide)
    exact ⟨⟨t2,y0,y2,(World.cell?_of_block (a:=⟨bk,off+k,none⟩) kb).trans ((j5.cell (p:=⟨bk,off+k,none⟩) hbl).trans c0),kg _ ((t1 _ (kd.1 j6).1 n6).trans j6)⟩,t3,some ⟨gg,0,none⟩,cap,t4,by rw[HST.out];exact t5,(t7 _ (kd.1 j3).1 nq (by omega)).trans j3,(t7 _ (kd.1 j4).1 (qYYy j2 j4 (by decide)) (by omega)).trans j4,(t7 _ (kd.1 j6).1 n6 (by omega)).trans j6,t6⟩)
   have hWd:Below wr.heap.size wr wr.drew:=(Below.refl _ _).drew
   clear kg
   go_wp2_with fail
   have hSd:=HS.out _ hWd
   clear c0 q0 q1 q2 hd j1 j3 j4 j6
   have hmx:Tryz.prog.follows .mixedOrders=true:=by kernel_rfl
   refine qYgd (S:=fun v:World=>v.cell? ⟨w.heap.size+1+1+1,2,none⟩=some (.slice so k scap)∧v.cell? ⟨w.heap.size,0,none⟩=some (.int .i64 W)∧v.cell? ⟨w.heap.size,2,none⟩=some (.slice (some ⟨bk,off,none⟩) zs.length ca)∧v.cell? ⟨bk,off+k,none⟩=some (.int .i64 z)∧v.cell? ⟨w.heap.size+1,c,none⟩=some (.int .i64 gn)) (f:=25) hmx ?_
   show jZdv _ _ _ _ _ _ 26 _ _ wr.drew
   refine zB2j (i:=0) (oi:=_) (v:=?vv1) (some 21) rfl rfl (by kernel_rfl) (by kernel_rfl) (by kernel_rfl) (by kernel_rfl) (by kernel_rfl) (fun _ _ _ h=>h) (Or.inl ⟨by rfl,?yy1⟩) hSd ?rr1
   case yy1=>(intro wq hSq;obtain ⟨_,_,_,_,_⟩:=hSq;go_simp<;>with_reducible rfl)
   simp only[kj,kc,kf,ke]
   refine zB2j (i:=2) (oi:=_) (v:=?vv2) (some 23) rfl rfl (by kernel_rfl) (by kernel_rfl) (by kernel_rfl) (by kernel_rfl) (by kernel_rfl) (fun _ _ _ h=>h) (Or.inl ⟨by rfl,?yy2⟩) hSd ?rr2
   case yy2=>(intro wq hSq;obtain ⟨_,_,_,_,_⟩:=hSq;go_simp<;>with_reducible rfl)
   simp only[kj,kc,kf,ke]
   refine zB2j (i:=4) (oi:=_) (v:=?vv3) (some 25) rfl rfl (by kernel_rfl) (by kernel_rfl) (by kernel_rfl) (by kernel_rfl) (by kernel_rfl) (fun _ _ _ h=>h) (Or.inl ⟨by rfl,?yy3⟩) hSd ?rr3
   case yy3=>(intro wq hSq;obtain ⟨_,_,_,_,_⟩:=hSq;go_simp<;>with_reducible rfl)
   simp only[kj,kc,kf,ke]
   refine zB2j (i:=7) (oi:=_) (v:=?vv4) (some 28) rfl rfl (by kernel_rfl) (by kernel_rfl) (by kernel_rfl) (by kernel_rfl) (by kernel_rfl) (fun _ _ _ h=>h) (Or.inl ⟨by rfl,?yy4⟩) hSd ?rr4
   case yy4=>(intro wq hSq;obtain ⟨_,_,_,_,_⟩:=hSq;go_simp<;>with_reducible rfl)
   simp only[kj,kc,kf,ke]
   refine zB2j (i:=8) (oi:=_) (v:=?vv5) (some 29) rfl rfl (by kernel_rfl) (by kernel_rfl) (by kernel_rfl) (by kernel_rfl) (by kernel_rfl) (fun _ _ _ h=>h) (Or.inl ⟨by rfl,?yy5⟩) hSd ?rr5
   case yy5=>(intro wq hSq;obtain ⟨_,_,_,_,_⟩:=hSq;go_simp<;>with_reducible rfl)
   simp only[kj,kc,kf,ke]
   refine zB2j (i:=9) (oi:=_) (v:=?vv6) (some 30) rfl rfl (by kernel_rfl) (by kernel_rfl) (by kernel_rfl) (by kernel_rfl) (by kernel_rfl) (fun _ _ _ h=>h) (Or.inl ⟨by rfl,?yy6⟩) hSd ?rr6
   case yy6=>(intro wq hSq;obtain ⟨_,_,_,_,_⟩:=hSq;go_simp<;>with_reducible rfl)
   simp only[kj,kc,kf,ke]
   refine zB2j (i:=12) (oi:=_) (v:=?vv7) (some 33) rfl rfl (by kernel_rfl) (by kernel_rfl) (by kernel_rfl) (by kernel_rfl) (by kernel_rfl) (fun _ _ _ h=>h) (Or.inl ⟨by rfl,?yy7⟩) hSd ?rr7
   case yy7=>(intro wq hSq;obtain ⟨_,_,_,_,_⟩:=hSq;go_simp<;>with_reducible rfl)
   simp only[kj,kc,kf,ke]
   refine zB2j (i:=13) (oi:=_) (v:=?vv8) (some 34) rfl rfl (by kernel_rfl) (by kernel_rfl) (by kernel_rfl) (by kernel_rfl) (by kernel_rfl) (fun _ _ _ h=>h) (Or.inl ⟨by rfl,?yy8⟩) hSd ?rr8
   case yy8=>(intro wq hSq;obtain ⟨_,_,_,_,_⟩:=hSq;go_simp<;>with_reducible rfl)
   simp only[kj,kc,kf,ke]
   refine zB2j (i:=1) (oi:=_) (v:=?vv9) (some 22) rfl rfl (by kernel_rfl) (by kernel_rfl) (by kernel_rfl) (by kernel_rfl) (by kernel_rfl) (fun _ _ _ h=>h) (Or.inl ⟨by rfl,?yy9⟩) hSd ?rr9
   case yy9=>(intro wq hSq;obtain ⟨_,_,_,_,_⟩:=hSq;go_simp<;>with_reducible rfl)
   simp only[kj,kc,kf,ke]
   refine zB2j (i:=3) (oi:=_) (v:=?vv10) (some 24) rfl rfl (by kernel_rfl) (by kernel_rfl) (by kernel_rfl) (by kernel_rfl) (by kernel_rfl) (fun _ _ _ h=>h) (Or.inl ⟨by rfl,?yy10⟩) hSd ?rr10
   case yy10=>(intro wq hSq;obtain ⟨_,_,_,_,_⟩:=hSq;go_simp<;>with_reducible rfl)
   simp only[kj,kc,kf,ke]
   refine zB2j (i:=10) (oi:=_) (v:=?vv11) (some 31) rfl rfl (by kernel_rfl) (by kernel_rfl) (by kernel_rfl) (by kernel_rfl) (by kernel_rfl) (fun _ _ _ h=>h) (Or.inl ⟨by rfl,?yy11⟩) hSd ?rr11
   case yy11=>(intro wq hSq;obtain ⟨_,_,_,_,_⟩:=hSq;go_simp<;>with_reducible rfl)
   simp only[kj,kc,kf,ke]
   refine zB2j (i:=14) (oi:=_) (v:=?vv12) (some 35) rfl rfl (by kernel_rfl) (by kernel_rfl) (by kernel_rfl) (by kernel_rfl) (by kernel_rfl) (fun _ _ _ h=>h) (Or.inl ⟨by rfl,?yy12⟩) hSd ?rr12
   case yy12=>(intro wq hSq;obtain ⟨_,_,_,_,_⟩:=hSq;go_simp<;>with_reducible rfl)
   simp only[kj,kc,kf,ke]
   refine zB2j (i:=5) (oi:=_) (v:=?vv13) (some 26) rfl rfl (by kernel_rfl) (by kernel_rfl) (by kernel_rfl) (by kernel_rfl) (by kernel_rfl) (fun _ _ _ h=>h) (Or.inl ⟨by rfl,?yy13⟩) hSd ?rr13
   case yy13=>(intro wq hSq;obtain ⟨_,_,_,_,_⟩:=hSq;go_simp<;>with_reducible rfl)
   simp only[kj,kc,kf,ke]
   refine zB2j (i:=11) (oi:=_) (v:=?vv14) (some 32) rfl rfl (by kernel_rfl) (by kernel_rfl) (by kernel_rfl) (by kernel_rfl) (by kernel_rfl) (fun _ _ _ h=>h) (Or.inl ⟨by rfl,?yy14⟩) hSd ?rr14
   case yy14=>(intro wq hSq;obtain ⟨_,_,_,_,_⟩:=hSq;go_simp<;>with_reducible rfl)
   simp only[kj,kc,kf,ke]
   refine zB2j (i:=15) (oi:=_) (v:=?vv15) (some 36) rfl rfl (by kernel_rfl) (by kernel_rfl) (by kernel_rfl) (by kernel_rfl) (by kernel_rfl) (fun _ _ _ h=>h) (Or.inl ⟨by rfl,?yy15⟩) hSd ?rr15
   case yy15=>(intro wq hSq;obtain ⟨_,_,_,_,_⟩:=hSq;go_simp<;>with_reducible rfl)
   simp only[kj,kc,kf,ke]
   refine zB2j (i:=6) (oi:=_) (v:=?vv16) (some 27) rfl rfl (by kernel_rfl) (by kernel_rfl) (by kernel_rfl) (by kernel_rfl) (by kernel_rfl) (fun _ _ _ h=>h) (Or.inl ⟨by rfl,?yy16⟩) hSd ?rr16
   case yy16=>(intro wq hSq;obtain ⟨_,_,_,_,_⟩:=hSq;go_simp<;>with_reducible rfl)
   simp only[kj,kc,kf,ke]
   refine znWj (i:=16) (o:=_) (by kernel_rfl) rfl (fun K' hK=>?_)
   rw[if_pos (by rfl)]
   go_simp
   refine (HCO.out _).mono ?_
   rintro e Vx ⟨rfl,rfl⟩
   have hSd:=hSd
   refine hK.out _ _ hSd ?_
   clear hK
   try simp only[kj]
   refine zB2j (i:=17) (oi:=_) (v:=?vv17) (some 38) rfl rfl (by kernel_rfl) (by kernel_rfl) (by kernel_rfl) (by kernel_rfl) (by kernel_rfl) (fun _ _ _ h=>h) (Or.inl ⟨by rfl,?yy17⟩) hSd ?rr17
   case yy17=>(intro wq hSq;obtain ⟨_,_,_,_,_⟩:=hSq;go_simp<;>with_reducible rfl)
   simp only[kj,kc,kf,ke]
   refine zB2j (i:=18) (oi:=_) (v:=?vv18) (some 39) rfl rfl (by kernel_rfl) (by kernel_rfl) (by kernel_rfl) (by kernel_rfl) (by kernel_rfl) (fun _ _ _ h=>h) (Or.inl ⟨by rfl,?yy18⟩) hSd ?rr18
   case yy18=>(intro wq hSq;obtain ⟨_,_,_,_,_⟩:=hSq;go_simp<;>with_reducible rfl)
   simp only[kj,kc,kf,ke]
   refine zB2j (i:=19) (oi:=_) (v:=?vv19) (some 40) rfl rfl (by kernel_rfl) (by kernel_rfl) (by kernel_rfl) (by kernel_rfl) (by kernel_rfl) (fun _ _ _ h=>h) (Or.inl ⟨by rfl,?yy19⟩) hSd ?rr19
   case yy19=>(intro wq hSq;obtain ⟨_,_,_,_,_⟩:=hSq;go_simp<;>with_reducible rfl)
   simp only[kj,kc,kf,ke]
   refine zB2j (i:=20) (oi:=_) (v:=?vv20) (some 41) rfl rfl (by kernel_rfl) (by kernel_rfl) (by kernel_rfl) (by kernel_rfl) (by kernel_rfl) (fun _ _ _ h=>h) (Or.inl ⟨by rfl,?yy20⟩) hSd ?rr20
   case yy20=>(intro wq hSq;obtain ⟨_,_,_,_,_⟩:=hSq;go_simp<;>with_reducible rfl)
   simp only[kj,kc,kf,ke]
   refine znWj (i:=21) (o:=_) (by kernel_rfl) rfl (fun K' hK=>?_)
   rw[if_pos (by rfl)]
   go_simp
   refine (HCL.out _).mono ?_
   rintro e Vy ⟨rfl,rfl⟩
   have hSd:=hSd
   refine hK.out _ _ hSd ?_
   clear hK
   try simp only[kj]
   refine znWj (i:=22) (o:=_) (by kernel_rfl) rfl (fun K' hK=>?_)
   rw[if_pos (by rfl)]
   go_simp
   have hBs:Below wr.heap.size wr (wr.drew.alloc (ka #[.int .i64 y] 3)):=hWd.alloc hWd.size _
   have hSd:=HS.out _ hBs
   refine hK.out _ _ hSd ?_
   clear hK
   try simp only[kj]
   refine znWj (i:=23) (o:=_) (by kernel_rfl) rfl (fun K' hK=>?_)
   refine step_append_lies _ rfl _ _ 52 rfl w.heap.size 3 i0 (.int .i64 0) 1 8 Tryz.underlying52 hi hz0 hz1 hz2 rfl (by decide) (.slice so k scap) k XS rfl ((qw14 j2 hWd).alloc _) ⟨wr.drew.heap.size,0,none⟩ 1 1 [.int .i64 y] rfl rfl (World.news_of_block (al1 wr.drew _)) (fun u hu=>by simp at hu;subst hu;rfl) Nat.one_pos HL1.out HL2.out (ko hbW hBs.size) _ rfl ?_
   intro gg cap w3 hown hgrow hat hltg
   obtain ⟨hSx,p2f,HFIN⟩:=HTL.out _ gg cap w3 hBs hgrow hown
   have hSd:=hSx
   refine hK.out _ _ hSd ?_
   clear hK
   try simp only[kj]
   refine j7aj (i:=24) (oi:=_) (v:=?vv21) rfl (by kernel_rfl) (by kernel_rfl) (by kernel_rfl) (by kernel_rfl) (by kernel_rfl) (fun _ _ _ h=>h) (Or.inl ⟨by rfl,?yy21⟩) hSd ?rr21
   case yy21=>(intro wq hSq;obtain ⟨_,_,_,_,_⟩:=hSq;go_simp<;>with_reducible rfl)
   try simp only[kj]
   refine z9gO (o:=_) (by kernel_rfl) rfl (fun K' hK=>?_)
   rw[if_pos (by rfl)]
   go_simp
   refine hK.out _ _ ?_
   clear hK
   refine jFdp (by kernel_rfl) ?_ _
   try simp only[kj]
   go_wp2
   go_roundw
   case rel=>exact ⟨k+1,by omega,by go_num,HFIN⟩
   case measure=>simp[intOf];omega
  ·have hd:decide ((k:Int)<(zs.length:Int))=false:=by simp;omega
   obtain rfl:k=zs.length:=by omega
   rw[ku (by rw[HLL.out];exact kl _)] at j2
   obtain ⟨p0,p1,p2⟩:=z5EY (b:=w.heap.size+1+1+1) j1
   obtain ⟨z0,z1,z2⟩:=z5EY (b:=w.heap.size+1+1) j4
   have f0:=kh (b:=w.heap.size+1+1) j4 0
   have f1:=kh (b:=w.heap.size+1+1) j4 1
   have f2:=kh (b:=w.heap.size+1+1) j4 2
   have HFI:=hide (zHqh j5 (show w.heap.size≤w.heap.size+1+1 by omega) (.int .i64 (W:Nat)) (.int .i64 (H:Nat)) (.slice so zs.length scap))
   have hpx:jCvT wr (.slice so zs.length scap) L:=jCvT.own (base:=w.heap.size) (xs:=L) (v:=.slice so zs.length scap) (by rw[HLL.out];exact j2) (by rw[HLL.out];omega)
   have hne:(Value.slice so zs.length scap).ownBlock≠some (w.heap.size+1+1):=fun e=>qYYy j2 j4 (by decide) e.symm
   have HX:=hide (hpx.other (zv5i wr (w.heap.size+1+1) (.int .i64 (W:Nat)) (.int .i64 (H:Nat)) (.slice so zs.length scap)) (fun b hb=>jZhz _ _ _ _ _ b hb) hne)
   have HF:=hide (Fresh.own j2)
   clear hpx hne
   go_wp2
   exact bodyPost_ret (v:=.agg #[.int .i64 (W:Nat),.int .i64 (H:Nat),.slice so zs.length scap]) (by simp[results,Tryz.results83,go_sem,z0,z1,z2]) rfl ⟨_,rfl,HX.out,HFI.out,HF.out⟩
end Go.Proofs.YtfjeonehdlphiaaGreatDoor
namespace Go.Proofs.YtfjeonehdlphiaaGreatDoor
def fX (X i:Nat):Int:=(X:Int)-1+(i % 3:Nat)
def fY (Y i:Nat):Int:=(Y:Int)-1+(i / 3:Nat)
def fOk (W H p X Y c i:Nat):Prop:=hasB W H (fX X i) (fY Y i)=true∧colV p (fX X i).toNat (fY Y i).toNat=c
instance (W H p X Y c i:Nat):Decidable (fOk W H p X Y c i):=by unfold fOk;infer_instance
def fS (zs:List Int) (W H p X Y c i:Nat):Int:=if fOk W H p X Y c i then zAt zs ((fY Y i).toNat*W+(fX X i).toNat) else 0
def fN (W H p X Y c i:Nat):Int:=if fOk W H p X Y c i then 1 else 0
def fQ (zs:List Int) (W H p X Y c:Nat):Int:=sumN (fS zs W H p X Y c) 9 / max (sumN (fN W H p X Y c) 9) 1
theorem qU3Y (g:Nat→Int) (m n:Nat) (h:m≤n) (hz:∀i,m≤i→i<n→g i=0):sumN g n=sumN g m:=by
 induction n with
 | zero=>rw[show m=0 by omega]
 | succ n ih =>
  by_cases hm:m=n+1
  ·rw[hm]
  ·simp only[sumN]
   rw[hz n (by omega) (by omega),ih (by omega) (fun i h1 h2=>hz i h1 (by omega)),Int.add_zero]
theorem qmzI (zs:List Int) {W H p X Y c i:Nat} (h:¬(0≤fX X i∧fX X i<W∧0≤fY Y i∧fY Y i<H)):fS zs W H p X Y c i=0:=by
 rw[fS,if_neg];rintro ⟨h1,_⟩;exact h (by simpa [hasB] using h1)
theorem XODU {W H p X Y c i:Nat} (h:¬(0≤fX X i∧fX X i<W∧0≤fY Y i∧fY Y i<H)):fN W H p X Y c i=0:=by
 rw[fN,if_neg];rintro ⟨h1,_⟩;exact h (by simpa [hasB] using h1)
theorem j4Td {zs:List Int} (h:allIn 0 65535 zs=true) (W H p X Y c i:Nat):0≤fS zs W H p X Y c i∧fS zs W H p X Y c i≤262140:=by
 have:=XWrv h ((fY Y i).toNat*W+(fX X i).toNat)
 unfold fS;split<;>omega
theorem XDrq (W H p X Y c i:Nat):0≤fN W H p X Y c i∧fN W H p X Y c i≤1:=by unfold fN;split<;>omega
theorem zok7 {g:Nat→Int} (h:∀n,0≤g n∧g n≤1) (n:Nat):0≤sumN g n∧sumN g n≤n:=by
 induction n with
 | zero=>simp[sumN]
 | succ n ih =>
  obtain ⟨a,b⟩:=h n
  obtain ⟨c,d⟩:=ih
  refine ⟨?_,?_⟩<;>(simp only[sumN];omega)
theorem zUFO (zs:List Int) (W H p X Y c:Nat) (s:Int×Nat) (x:Fin 8) :
  (mStep zs W H (parX X) (parY Y) (parC p X Y c) s x).1=s.1+fS zs W H p X Y c (nOf x.1)∧((mStep zs W H (parX X) (parY Y) (parC p X Y c) s x).2:Int)=(s.2:Int)+fN W H p X Y c (nOf x.1):=by
 have hiff:(hasB W H (parX X x) (parY Y x)=true∧parC p X Y c x=true)↔fOk W H p X Y c (nOf x.1):=by
  unfold fOk parC;rw[decide_eq_true_iff];exact Iff.rfl
 unfold mStep fS fN
 by_cases h:fOk W H p X Y c (nOf x.1)
 ·rw[if_pos (hiff.2 h),if_pos h,if_pos h]
  exact ⟨rfl,by simp⟩
 ·rw[if_neg (fun e=>h (hiff.1 e)),if_neg h,if_neg h]
  exact ⟨by simp,by simp⟩
theorem zrei {N:Nat} (zs:List Int) (W H:Nat) (px py:Fin N→Int) (cnt:Fin N→Bool) (pre:List (Fin N)) (s:Int×Nat) (h:s.2=0→s.1=0) :
  (pre.foldl (mStep zs W H px py cnt) s).2=0→(pre.foldl (mStep zs W H px py cnt) s).1=0:=by
 induction pre generalizing s with
 | nil=>exact h
 | cons x pre ih =>
  simp only[List.foldl_cons]
  refine ih _ ?_
  unfold mStep
  split
  ·intro e;simp at e
  ·exact h
theorem jgEh {zs:List Int} {W H p X Y c:Nat} (hne:colV p X Y≠c) :
  (mF zs W H (parX X) (parY Y) (parC p X Y c) (List.finRange 8)).1=sumN (fS zs W H p X Y c) 9∧((mF zs W H (parX X) (parY Y) (parC p X Y c) (List.finRange 8)).2:Int)=sumN (fN W H p X Y c) 9:=by
 have h4:¬fOk W H p X Y c 4:=by
  rintro ⟨_,h⟩
  rw[show fX X 4=(X:Int) by unfold fX;omega,show fY Y 4=(Y:Int) by unfold fY;omega,ks,ks] at h
  exact hne h
 have e4:fS zs W H p X Y c 4=0:=by rw[fS,if_neg h4]
 have e5:fN W H p X Y c 4=0:=by rw[fN,if_neg h4]
 have hl:List.finRange 8=[0,1,2,3,4,5,6,7]:=by decide
 have st:=zUFO zs W H p X Y c
 rw[mF,hl]
 simp only[List.foldl_cons,List.foldl_nil]
 constructor
 ·rw[(st _ _).1,(st _ _).1,(st _ _).1,(st _ _).1,(st _ _).1,(st _ _).1,(st _ _).1,(st _ _).1]
  simp only[sumN,e4]
  simp only[show nOf ((0:Fin 8):Nat)=0 from rfl,show nOf ((1:Fin 8):Nat)=1 from rfl,show nOf ((2:Fin 8):Nat)=2 from rfl,show nOf ((3:Fin 8):Nat)=3 from rfl,show nOf ((4:Fin 8):Nat)=5 from rfl,show nOf ((5:Fin 8):Nat)=6 from rfl,show nOf ((6:Fin 8):Nat)=7 from rfl,show nOf ((7:Fin 8):Nat)=8 from rfl]
  omega
 ·rw[(st _ _).2,(st _ _).2,(st _ _).2,(st _ _).2,(st _ _).2,(st _ _).2,(st _ _).2,(st _ _).2]
  simp only[sumN,e5]
  simp only[show nOf ((0:Fin 8):Nat)=0 from rfl,show nOf ((1:Fin 8):Nat)=1 from rfl,show nOf ((2:Fin 8):Nat)=2 from rfl,show nOf ((3:Fin 8):Nat)=3 from rfl,show nOf ((4:Fin 8):Nat)=5 from rfl,show nOf ((5:Fin 8):Nat)=6 from rfl,show nOf ((6:Fin 8):Nat)=7 from rfl,show nOf ((7:Fin 8):Nat)=8 from rfl]
  simp
theorem zaHo {zs:List Int} {W H p X Y c:Nat}:partV zs W H p X Y c=if c=colV p X Y then zAt zs (Y*W+X) else fQ zs W H p X Y c:=by
 unfold partV
 by_cases h:colV p X Y=c
 ·rw[if_pos h,if_pos h.symm]
 ·rw[if_neg h,if_neg (fun e=>h e.symm)]
  obtain ⟨h1,h2⟩:=jgEh (zs:=zs) (W:=W) (H:=H) h
  have h0:=zrei zs W H (parX X) (parY Y) (parC p X Y c) (List.finRange 8) (0,0) (fun _=>rfl)
  unfold meanV fQ
  rw[←h1,←h2]
  unfold mF
  unfold mF at h1 h2
  generalize (List.finRange 8).foldl (mStep zs W H (parX X) (parY Y) (parC p X Y c)) (0,0)=s at *
  split
  ·rename_i hn
   rw[h0 hn,Int.zero_ediv]
  ·rw[show max (s.2:Int) 1=s.2 by omega]
end Go.Proofs.YtfjeonehdlphiaaGreatDoor
namespace Go.Proofs.YtfjeonehdlphiaaGreatDoor
open Go.RowKit
def FlJ (w:World) (W H:Nat) (qv:Value) (L:List Px) (k:Nat) (wr:World):Prop :=
 ∃so scap,wr.heap[w.heap.size+2]?=some (.cells #[.int .i64 W,.int .i64 H,.slice so k scap] 24 (0,0))∧wr.ownsRow w.heap.size 61 3 (.slice so k scap) k ((L.take k).flatMap pixL)∧wr.heap[w.heap.size]?=some (.cells #[.int .i64 W,.int .i64 H,qv] 54 (0,0))∧wr.heap[w.heap.size+1]?=some (.cells #[.int .i64 0,.int .i64 0,.slice none 0 0] 24 (0,0))∧Below w.heap.size w wr
theorem FlJ.below {w:World} {W H:Nat} {qv:Value} {L:List Px} {k:Nat} {wr wv:World} (h:FlJ w W H qv L k wr) (hb:Below wr.heap.size wr wv):FlJ w W H qv L k wv:=by
 obtain ⟨so,scap,j1,j2,j3,j4,j5⟩:=h
 exact ⟨so,scap,(hb.block _ (kd.1 j1).1).trans j1,qw14 j2 hb,(hb.block _ (kd.1 j3).1).trans j3,(hb.block _ (kd.1 j4).1).trans j4,j5.trans (hb.mono j5.size)⟩
def FiK (wr:World) (s t:Nat→Int) (wv:World):Prop :=
 wv.heap[wr.heap.size]?=some (.cells (tri s) 47 (0,0))∧wv.heap[wr.heap.size+1]?=some (.cells (tri t) 47 (0,0))∧Below wr.heap.size wr wv
theorem FiK.below {wr:World} {s t:Nat→Int} {wv wx:World} (h:FiK wr s t wv) (hb:Below wv.heap.size wv wx):FiK wr s t wx:=by
 obtain ⟨k1,k2,k3⟩:=h
 exact ⟨(hb.block _ (kd.1 k1).1).trans k1,(hb.block _ (kd.1 k2).1).trans k2,k3.trans (hb.mono k3.size)⟩
theorem FiK.congr {wr:World} {s t s' t':Nat→Int} {wv:World} (h:FiK wr s t wv) (hs:∀j,j<3→s j=s' j) (ht:∀j,j<3→t j=t' j):FiK wr s' t' wv:=by
 obtain ⟨k1,k2,k3⟩:=h
 exact ⟨by rw[←q3Qb s s' hs];exact k1,by rw[←q3Qb t t' ht];exact k2,k3⟩
theorem FiK.set {wr:World} {s t s' t':Nat→Int} {V:World} (h:FiK wr s t V) (k:Nat) (x y:Int) (hk:k<3) (hx:x=s' k) (hy:y=t' k) (hs:∀j,j<3→j≠k→s j=s' j) (ht:∀j,j<3→j≠k→t j=t' j):FiK wr s' t' ((V.setCell ⟨wr.heap.size,k,none⟩ (.int .i64 x)).setCell ⟨wr.heap.size+1,k,none⟩ (.int .i64 y)):=by
 obtain ⟨k1,k2,k3⟩:=h
 have o1:(V.setCell ⟨wr.heap.size,k,none⟩ (.int .i64 x)).heap[wr.heap.size]?=some (.cells (tri s') 47 (0,0)):=by
  rw[heap_setCell_same V wr.heap.size k _ _ _ k1,zWS1 s s' k x hk hx hs]
 have o2:(V.setCell ⟨wr.heap.size,k,none⟩ (.int .i64 x)).heap[wr.heap.size+1]?=some (.cells (tri t) 47 (0,0)):=(kq _ _ _ _ (show wr.heap.size+1≠wr.heap.size by omega)).trans k2
 refine ⟨(kq _ _ _ _ (show wr.heap.size≠wr.heap.size+1 by omega)).trans o1,?_,(k3.setCell (p:=⟨wr.heap.size,k,none⟩) (kl _) _).setCell (p:=⟨wr.heap.size+1,k,none⟩) (Nat.le_succ _) _⟩
 rw[heap_setCell_same _ (wr.heap.size+1) k _ _ _ o2,zWS1 t t' k y hk hy ht]
def FiL (wr:World) (LB:Nat) (s t l:Nat→Int) (wv:World):Prop:=FiK wr s t wv∧wv.heap[LB]?=some (.cells (tri l) 47 (0,0))
theorem FiL.below {wr:World} {LB:Nat} {s t l:Nat→Int} {wv wx:World} (h:FiL wr LB s t l wv) (hb:Below wv.heap.size wv wx):FiL wr LB s t l wx :=
 ⟨h.1.below hb,(hb.block _ (kd.1 h.2).1).trans h.2⟩
theorem FiL.set {wr:World} {LB:Nat} {s t l l':Nat→Int} {V:World} (h:FiL wr LB s t l V) (hLB:wr.heap.size+2≤LB) (k:Nat) (x:Int) (hk:k<3) (hx:x=l' k) (hl:∀j,j<3→j≠k→l j=l' j):FiL wr LB s t l' (V.setCell ⟨LB,k,none⟩ (.int .i64 x)):=by
 obtain ⟨⟨k1,k2,k3⟩,k4⟩:=h
 refine ⟨⟨(kq _ _ _ _ (show wr.heap.size≠LB by omega)).trans k1,(kq _ _ _ _ (show wr.heap.size+1≠LB by omega)).trans k2,k3.setCell (p:=⟨LB,k,none⟩) (show wr.heap.size≤LB by omega) _⟩,?_⟩
 rw[heap_setCell_same V LB k _ _ _ k4,zWS1 l l' k x hk hx hl]
theorem bnd (Y H:Nat) (h:Y<H):∃a0 a1:Nat,a0≤1∧1≤a1∧a1≤2∧(if (0:Int)<(Y:Int)-1 then (Y:Int)-1 else 0)=(Y:Int)-1+a0∧(if (Y:Int)+1<(H:Int)-1 then (Y:Int)+1 else (H:Int)-1)=(Y:Int)-1+a1∧(∀a:Nat,a<a0→(Y:Int)-1+a<0)∧(∀a:Nat,a1<a→a<3→(H:Int)≤(Y:Int)-1+a)∧0≤(Y:Int)-1+a0∧(Y:Int)-1+a1<H:=by
 refine ⟨if Y=0 then 1 else 0,if Y+1<H then 2 else 1,?_⟩
 split<;>split<;>(refine ⟨by omega,by omega,by omega,?_,?_,fun a ha=>by omega,fun a ha hb=>by omega,by omega,by omega⟩<;>(split<;>omega))
theorem jVj6 (W H p:Nat) (hW1:1≤W) (hW:W≤64) (hH1:1≤H) (hH:H≤64) (hp:p≤3) (v:Value) (zs:List Int) (hlen:zs.length=H*W) (hzs:allIn 0 65535 zs=true) (w:World) (hv:jCvT w v zs) :
  Calls Tryz.prog 89 #[.agg #[.int .i64 W,.int .i64 H,v],.int .i64 p] w fun e w'=>∃r,e=.returned (.agg #[.int .i64 W,.int .i64 H,r])∧IsPix w' r ((List.range zs.length).map (fillP zs W H p))∧Below w.heap.size w w'∧Fresh w.heap.size r:=by
 have HZS:=hide hzs
 have HV:=hide hv
 have HLEN:=hide hlen
 have hlb:zs.length≤4096:=by rw[hlen];exact ko (Nat.mul_le_mul hH hW) (by decide)
 have hLL:((List.range zs.length).map (fillP zs W H p)).length=zs.length:=by simp
 have HLG:=hide (show ∀j,j<zs.length→((List.range zs.length).map (fillP zs W H p))[j]?=some (fillP zs W H p j) from fun j hj=>by simp[hj])
 obtain ⟨L,hL⟩:∃L,(List.range zs.length).map (fillP zs W H p)=L:=⟨_,rfl⟩
 rw[hL] at hLL HLG ⊢
 have HLL:=hide hLL
 clear hL hLL hzs hlen
 obtain ⟨ao,ca,rfl,hla,hc⟩:=hv
 clear hc
 obtain ⟨i0,hi,hz0,hz1,hz2⟩:=info_parts Tryz.infoPixel
 go_enter Tryz.func89,Tryz.ntmps89
 go_wp2_with fail
 obtain ⟨a1,a2,a3⟩:=al3 w (ka #[.int .i64 W,.int .i64 H,.slice ao zs.length ca] 54) (ka #[.int .i64 0,.int .i64 0,.slice none 0 0] 24) (ka #[.int .i64 W,.int .i64 H,.slice none 0 0] 24)
 have hB:=be3 w (ka #[.int .i64 W,.int .i64 H,.slice ao zs.length ca] 54) (ka #[.int .i64 0,.int .i64 0,.slice none 0 0] 24) (ka #[.int .i64 W,.int .i64 H,.slice none 0 0] 24)
 generalize ((w.alloc (ka #[.int .i64 W,.int .i64 H,.slice ao zs.length ca] 54)).alloc (ka #[.int .i64 0,.int .i64 0,.slice none 0 0] 24)).alloc (ka #[.int .i64 W,.int .i64 H,.slice none 0 0] 24)=U at *
 go_loopw [6] (fun i wr=>∃Y:Nat,Y≤H∧i=.int .i64 Y∧FlJ w W H (.slice ao zs.length ca) L (Y*W) wr) (fun i _=>H-(intOf i).toNat)
 case atStart=>exact ⟨0,kr _,rfl,none,0,by rw[Nat.zero_mul];exact a3,by rw[Nat.zero_mul];exact World.ownsRow_nil _ _ _ _,a1,a2,hB⟩
 case round =>
  clear a1 a2 a3 hB
  obtain ⟨Y,hY,rfl,hJ⟩:=hrel
  have HJ:=hide hJ
  obtain ⟨so,scap,j1,j2,j3,j4,j5⟩:=hJ
  obtain ⟨q0,q1,q2⟩:=z5EY j3
  by_cases hlt:Y<H
  ·have hd:decide ((Y:Int)<(H:Int))=true:=by simp;omega
   obtain ⟨M,hM⟩:∃M,M=Y*W:=⟨_,rfl⟩
   rw[←hM] at HJ j1 j2
   have hMM:M+W≤zs.length:=by rw[HLEN.out,hM,←kv];exact kt _ hlt
   have HM:=hide hM
   clear hM
   go_wp2_with fail
   go_loopw [7] (fun i wr=>∃X:Nat,X≤W∧i=.int .i64 X∧FlJ w W H (.slice ao zs.length ca) L (M+X) wr) (fun i _=>W-(intOf i).toNat)
   case atStart=>exact ⟨0,kr _,rfl,HJ.out⟩
   case round =>
    clear j1 j2 j3 j4 j5 q0 q1 q2 HJ hd
    obtain ⟨X,hX,rfl,hJ⟩:=hrel
    have HJ0:=hide hJ
    obtain ⟨so,scap,j1,j2,j3,j4,j5⟩:=hJ
    obtain ⟨q0,q1,q2⟩:=z5EY j3
    by_cases hlx:X<W
    ·have hdx:decide ((X:Int)<(W:Int))=true:=by simp;omega
     have hk:M+X<zs.length:=by omega
     obtain ⟨k,hkk⟩:∃k,M+X=k:=⟨_,rfl⟩
     rw[hkk] at HJ0 hk
     have HK:=hide hkk
     clear hkk
     have HB0:=hide j5
     have hlj:=(kd.1 j1).1
     generalize wr=R at *
     obtain ⟨a0,a1,ha0,ha1,ha2,hs,he,hlo,hhi,hg0,hg1⟩:=bnd Y H hlt
     obtain ⟨b0,b1,hb0,hb1,hb2,hsx,hex,hlox,hhix,hgx0,hgx1⟩:=bnd X W hlx
     have HLO:=hide hlo
     have HHI:=hide hhi
     have HLOX:=hide hlox
     have HHIX:=hide hhix
     clear hlo hhi hlox hhix
     obtain ⟨v0,hv0⟩:∃v0,(Y:Int)-1+a0=v0:=⟨_,rfl⟩
     obtain ⟨vm,hvm⟩:∃vm,(Y:Int)-1+a1=vm:=⟨_,rfl⟩
     obtain ⟨u0,hu0⟩:∃u0,(X:Int)-1+b0=u0:=⟨_,rfl⟩
     obtain ⟨um,hum⟩:∃um,(X:Int)-1+b1=um:=⟨_,rfl⟩
     rw[hv0] at hs hg0
     rw[hvm] at he hg1
     rw[hu0] at hsx hgx0
     rw[hum] at hex hgx1
     have hs2:(if (1:Int)<(Y:Int) then (Y:Int)-1 else 0)=v0:=by rw[←hs];split<;>split<;>omega
     have hsx2:(if (1:Int)<(X:Int) then (X:Int)-1 else 0)=u0:=by rw[←hsx];split<;>split<;>omega
     have HV0:=hide hv0
     have HVM:=hide hvm
     have HU0:=hide hu0
     have HUM:=hide hum
     clear hv0 hvm hu0 hum
     obtain ⟨zs0,zn0⟩:=al2 R (ka #[.int .i64 0,.int .i64 0,.int .i64 0] 47) (ka #[.int .i64 0,.int .i64 0,.int .i64 0] 47)
     have hZ:=be2 R (ka #[.int .i64 0,.int .i64 0,.int .i64 0] 47) (ka #[.int .i64 0,.int .i64 0,.int .i64 0] 47)
     clear j1 j2 j3 j4 j5
     go_wp2_with fail
     generalize (R.alloc (ka #[.int .i64 0,.int .i64 0,.int .i64 0] 47)).alloc (ka #[.int .i64 0,.int .i64 0,.int .i64 0] 47)=Z0 at *
     clear q0 q1 q2 hdx
     go_loopw [10] (fun i wv=>∃a:Nat,a0≤a∧a≤a1+1∧i=.int .i64 ((Y:Int)-1+a)∧FiK R (fun c=>sumN (fS zs W H p X Y c) (3*a)) (fun c=>sumN (fN W H p X Y c) (3*a)) wv) (fun i _=>((Y:Int)+2-intOf i).toNat)
     case atStart =>
      refine ⟨a0,kl _,by omega,by rw[HV0.out],?_⟩
      have h0:∀c,sumN (fS zs W H p X Y c) (3*a0)=0:=fun c=>qU3Y _ 0 _ (kr _) (fun i _ hi=>qmzI zs (fun h=>by have:=HLO.out (i / 3) (by omega);unfold fY at h;omega))
      have h1:∀c,sumN (fN W H p X Y c) (3*a0)=0:=fun c=>qU3Y _ 0 _ (kr _) (fun i _ hi=>XODU (fun h=>by have:=HLO.out (i / 3) (by omega);unfold fY at h;omega))
      exact ⟨by rw[q3Qb _ (fun _=>0) (fun j _=>h0 j)];exact zs0,by rw[q3Qb _ (fun _=>0) (fun j _=>h1 j)];exact zn0,hZ⟩
     case round =>
      clear zs0 zn0 hZ
      obtain ⟨a,haa,hab,rfl,hK⟩:=hrel
      obtain ⟨so,scap,j1,j2,j3,j4,j5⟩:=HJ0.out.below hK.2.2
      obtain ⟨q0,q1,q2⟩:=z5EY j3
      clear j1 j2 j3 j4 j5 so scap
      obtain ⟨vv,hvv⟩:∃vv:Int,(Y:Int)-1+a=vv:=⟨_,rfl⟩
      rw[hvv]
      by_cases hla:a≤a1
      ·have hdv:decide (vv≤vm)=true:=by have:=HVM.out;simp;omega
       have hvn:0≤vv∧vv<H:=by have:=HV0.out;have:=HVM.out;omega
       obtain ⟨VN,hVN⟩:=Int.eq_ofNat_of_zero_le hvn.1
       rw[hVN] at hdv ⊢
       go_wp2_with fail
       go_loopw [11] (fun i wv=>∃b:Nat,b0≤b∧b≤b1+1∧i=.int .i64 ((X:Int)-1+b)∧FiK R (fun c=>sumN (fS zs W H p X Y c) (3*a+b)) (fun c=>sumN (fN W H p X Y c) (3*a+b)) wv) (fun i _=>((X:Int)+2-intOf i).toNat)
       case atStart =>
        refine ⟨b0,kl _,by omega,by rw[HU0.out],hK.congr (fun c _=>?_) (fun c _=>?_)⟩
        ·exact (qU3Y _ (3*a) _ (by omega) (fun i h1 h2=>qmzI zs (fun h=>by have:=HLOX.out (i % 3) (by omega);unfold fX at h;omega))).symm
        ·exact (qU3Y _ (3*a) _ (by omega) (fun i h1 h2=>XODU (fun h=>by have:=HLOX.out (i % 3) (by omega);unfold fX at h;omega))).symm
       case round =>
        clear hK q0 q1 q2
        obtain ⟨b,hba,hbb,rfl,hK⟩:=hrel
        obtain ⟨so,scap,j1,j2,j3,j4,j5⟩:=HJ0.out.below hK.2.2
        obtain ⟨q0,q1,q2⟩:=z5EY j3
        have hlq:=(kd.1 j3).1
        clear j1 j2 j4 so scap
        obtain ⟨uu,huu⟩:∃uu:Int,(X:Int)-1+b=uu:=⟨_,rfl⟩
        rw[huu]
        by_cases hlb2:b≤b1
        ·have hdu:decide (uu≤um)=true:=by have:=HUM.out;simp;omega
         have hun:0≤uu∧uu<W:=by have:=HU0.out;have:=HUM.out;omega
         obtain ⟨UN,hUN⟩:=Int.eq_ofNat_of_zero_le hun.1
         obtain ⟨n,hn⟩:∃n,3*a+b=n:=⟨_,rfl⟩
         rw[hn] at hK
         have HN:=hide hn
         have hfx:fX X n=uu:=by unfold fX;rw[←hn,show (3*a+b) % 3=b by omega];exact huu
         have hfy:fY Y n=vv:=by unfold fY;rw[←hn,show (3*a+b) / 3=a by omega];exact hvv
         have hUNW:UN<W:=by omega
         have hVNH:VN<H:=by omega
         have hkl:VN*W+UN<zs.length:=by
          have h1:(VN+1)*W≤H*W:=kt _ hVNH
          rw[kv] at h1
          rw[HLEN.out];omega
         obtain ⟨K1,hK1⟩:∃K1,VN*W+UN=K1:=⟨_,rfl⟩
         rw[hK1] at hkl
         obtain ⟨c,hc⟩:∃c,colV p UN VN=c:=⟨_,rfl⟩
         have hc3:c<3:=by rw[←hc];exact qwt0 p UN VN
         have HOK:=hide (show ∀j,fOk W H p X Y j n↔c=j from fun j=>by
          unfold fOk;rw[hfx,hfy,hVN,hUN,ks,ks,hc]
          exact ⟨fun h=>h.2,fun h=>⟨by simp[hasB];omega,h⟩⟩)
         obtain ⟨z,hz⟩:∃z,zAt zs K1=z:=⟨_,rfl⟩
         have hzr:=XWrv HZS.out K1
         rw[hz] at hzr
         obtain ⟨hzr1,hzr2⟩:=hzr
         have HFS:=hide (show ∀j,fS zs W H p X Y j n=if c=j then z else 0 from fun j=>by
          unfold fS;rw[hfx,hfy,hVN,hUN,ks,ks,hK1,hz]
          by_cases h:c=j
          ·rw[if_pos ((HOK.out j).2 h),if_pos h]
          ·rw[if_neg (fun e=>h ((HOK.out j).1 e)),if_neg h])
         have HFN:=hide (show ∀j,fN W H p X Y j n=if c=j then 1 else 0 from fun j=>by
          unfold fN
          by_cases h:c=j
          ·rw[if_pos ((HOK.out j).2 h),if_pos h]
          ·rw[if_neg (fun e=>h ((HOK.out j).1 e)),if_neg h])
         have HCO:=hide (fun u=>qkAR p UN VN hp (by omega) (by omega) u)
         rw[hc] at HCO
         have hvw:Below w.heap.size w wr:=j5
         have HAT:=hide (fun (u:World) (hu:Below wr.heap.size wr u)=>qcYz W H UN VN K1 (.slice ao zs.length ca) zs u (HV.out.below (hvw.trans (hu.mono hvw.size)) (kl _)) hK1 hkl hlb)
         rw[hz] at HAT
         obtain ⟨sr1,sr2⟩:=Xrmj (fun m=>j4Td HZS.out W H p X Y c m) n
         obtain ⟨nr1,nr2⟩:=zok7 (fun m=>XDrq W H p X Y c m) n
         obtain ⟨sm,hsm⟩:∃sm,sumN (fS zs W H p X Y c) n=sm:=⟨_,rfl⟩
         obtain ⟨nn,hnn⟩:∃nn,sumN (fN W H p X Y c) n=nn:=⟨_,rfl⟩
         have hn8:n≤8:=by omega
         have HSET:=hide (fun (V:World) (hV:Below wr.heap.size wr V)=>(hK.below hV).set (s':=fun j=>sumN (fS zs W H p X Y j) (n+1)) (t':=fun j=>sumN (fN W H p X Y j) (n+1)) c (sm+z) (nn+1) hc3 (by simp only[sumN];rw[HFS.out,if_pos rfl,hsm]) (by simp only[sumN];rw[HFN.out,if_pos rfl,hnn]) (fun j _ hne=>by simp only[sumN];rw[HFS.out,if_neg (Ne.symm hne),Int.add_zero]) (fun j _ hne=>by simp only[sumN];rw[HFN.out,if_neg (Ne.symm hne),Int.add_zero]))
         rw[hsm] at sr1 sr2
         rw[hnn] at nr1 nr2
         have hl0:=(kd.1 hK.1).1
         have HF:=hide (show ∀v,Below wr.heap.size wr v→v.cell? ⟨R.heap.size,c,none⟩=some (.int .i64 sm)∧v.frozen? ⟨R.heap.size,c,none⟩=false∧v.cell? ⟨R.heap.size+1,c,none⟩=some (.int .i64 nn)∧v.frozen? ⟨R.heap.size+1,c,none⟩=false from fun v h=>by
          obtain ⟨k1,k2,_⟩:=hK.below h
          exact ⟨by rw[ki k1,zPnZ _ c hc3,hsm],kh k1 c,by rw[ki k2,zPnZ _ c hc3,hnn],kh k2 c⟩)
         have HS:=hide (show ∀v,Below wr.heap.size wr v→v.cell? ⟨R.heap.size,c,none⟩=some (.int .i64 sm)∧v.cell? ⟨w.heap.size,0,none⟩=some (.int .i64 W)∧v.cell? ⟨w.heap.size,1,none⟩=some (.int .i64 H)∧v.cell? ⟨w.heap.size,2,none⟩=some (.slice ao zs.length ca) from fun v h=>⟨(HF.out v h).1,z5EY ((h.block _ hlq).trans j3)⟩)
         have hws:IntKind.i64.wrap (sm+z)=sm+z:=kn _ (by omega)
         have hwn:IntKind.i64.wrap (nn+1)=nn+1:=kn _ (by omega)
         have hcI:(c:Int)<3:=by omega
         rw[hUN]
         rw[hUN] at hdu
         have HUU:=hide (show (UN:Int)=(X:Int)-1+b by rw[huu,hUN])
         clear hz hK1 hc hsm hnn hfx hfy hn hVN hUN huu hvv j3 j5
         go_wp2_with fail
         refine (HCO.out _).mono ?_
         rintro e wq ⟨rfl,rfl⟩
         have hWd:Below wr.heap.size wr wr.drew:=(Below.refl _ _).drew
         clear q0 q1 q2
         go_wp2_with fail
         have hSd:=HS.out _ hWd
         have hmx:Tryz.prog.follows .mixedOrders=true:=by kernel_rfl
         refine qYgd (S:=fun v:World=>v.cell? ⟨R.heap.size,c,none⟩=some (.int .i64 sm)∧v.cell? ⟨w.heap.size,0,none⟩=some (.int .i64 W)∧v.cell? ⟨w.heap.size,1,none⟩=some (.int .i64 H)∧v.cell? ⟨w.heap.size,2,none⟩=some (.slice ao zs.length ca)) (f:=10) hmx ?_
         show jZdv _ _ _ _ _ _ 11 _ _ wr.drew
         refine zB2j (i:=0) (oi:=_) (v:=?vv1) (some 62) rfl rfl (by kernel_rfl) (by kernel_rfl) (by kernel_rfl) (by kernel_rfl) (by kernel_rfl) (fun _ _ _ h=>h) (Or.inl ⟨by rfl,?yy1⟩) hSd ?rr1
         case yy1=>(intro wq hSq;obtain ⟨_,_,_,_⟩:=hSq;go_simp<;>with_reducible rfl)
         simp only[kj,kc,kf,ke]
         refine zB2j (i:=1) (oi:=_) (v:=?vv2) (some 63) rfl rfl (by kernel_rfl) (by kernel_rfl) (by kernel_rfl) (by kernel_rfl) (by kernel_rfl) (fun _ _ _ h=>h) (Or.inl ⟨by rfl,?yy2⟩) hSd ?rr2
         case yy2=>(intro wq hSq;obtain ⟨_,_,_,_⟩:=hSq;go_simp<;>with_reducible rfl)
         simp only[kj,kc,kf,ke]
         refine zB2j (i:=4) (oi:=_) (v:=?vv3) (some 66) rfl rfl (by kernel_rfl) (by kernel_rfl) (by kernel_rfl) (by kernel_rfl) (by kernel_rfl) (fun _ _ _ h=>h) (Or.inl ⟨by rfl,?yy3⟩) hSd ?rr3
         case yy3=>(intro wq hSq;obtain ⟨_,_,_,_⟩:=hSq;go_simp<;>with_reducible rfl)
         simp only[kj,kc,kf,ke]
         refine zB2j (i:=5) (oi:=_) (v:=?vv4) (some 67) rfl rfl (by kernel_rfl) (by kernel_rfl) (by kernel_rfl) (by kernel_rfl) (by kernel_rfl) (fun _ _ _ h=>h) (Or.inl ⟨by rfl,?yy4⟩) hSd ?rr4
         case yy4=>(intro wq hSq;obtain ⟨_,_,_,_⟩:=hSq;go_simp<;>with_reducible rfl)
         simp only[kj,kc,kf,ke]
         refine zB2j (i:=6) (oi:=_) (v:=?vv5) (some 68) rfl rfl (by kernel_rfl) (by kernel_rfl) (by kernel_rfl) (by kernel_rfl) (by kernel_rfl) (fun _ _ _ h=>h) (Or.inl ⟨by rfl,?yy5⟩) hSd ?rr5
         case yy5=>(intro wq hSq;obtain ⟨_,_,_,_⟩:=hSq;go_simp<;>with_reducible rfl)
         simp only[kj,kc,kf,ke]
         refine zB2j (i:=2) (oi:=_) (v:=?vv6) (some 64) rfl rfl (by kernel_rfl) (by kernel_rfl) (by kernel_rfl) (by kernel_rfl) (by kernel_rfl) (fun _ _ _ h=>h) (Or.inl ⟨by rfl,?yy6⟩) hSd ?rr6
         case yy6=>(intro wq hSq;obtain ⟨_,_,_,_⟩:=hSq;go_simp<;>with_reducible rfl)
         simp only[kj,kc,kf,ke]
         refine zB2j (i:=3) (oi:=_) (v:=?vv7) (some 65) rfl rfl (by kernel_rfl) (by kernel_rfl) (by kernel_rfl) (by kernel_rfl) (by kernel_rfl) (fun _ _ _ h=>h) (Or.inl ⟨by rfl,?yy7⟩) hSd ?rr7
         case yy7=>(intro wq hSq;obtain ⟨_,_,_,_⟩:=hSq;go_simp<;>with_reducible rfl)
         simp only[kj,kc,kf,ke]
         refine znWj (i:=7) (o:=_) (by kernel_rfl) rfl (fun K' hK=>?_)
         rw[if_pos (by rfl)]
         go_simp
         refine (HAT.out _ hWd).mono ?_
         rintro e V1 ⟨rfl,hbv⟩
         have hB1:Below wr.heap.size wr V1:=hWd.trans (hbv.mono hWd.size)
         have hSd:=HS.out _ hB1
         refine hK.out _ _ hSd ?_
         clear hK
         try simp only[kj]
         refine zB2j (i:=8) (oi:=_) (v:=?vv8) (some 70) rfl rfl (by kernel_rfl) (by kernel_rfl) (by kernel_rfl) (by kernel_rfl) (by kernel_rfl) (fun _ _ _ h=>h) (Or.inl ⟨by rfl,?yy8⟩) hSd ?rr8
         case yy8=>(intro wq hSq;obtain ⟨_,_,_,_⟩:=hSq;go_simp<;>with_reducible rfl)
         simp only[kj,kc,kf,ke]
         refine zB2j (i:=9) (oi:=_) (v:=?vv9) (some 71) rfl rfl (by kernel_rfl) (by kernel_rfl) (by kernel_rfl) (by kernel_rfl) (by kernel_rfl) (fun _ _ _ h=>h) (Or.inl ⟨by rfl,?yy9⟩) hSd ?rr9
         case yy9=>(intro wq hSq;obtain ⟨_,_,_,_⟩:=hSq;go_simp<;>with_reducible rfl)
         simp only[kj,kc,kf,ke]
         refine z9gO (o:=_) (by kernel_rfl) rfl (fun K' hK=>?_)
         obtain ⟨f1,f2,f3,f4⟩:=HF.out _ hB1
         rw[if_pos (by rfl)]
         go_simp
         refine hK.out _ _ ?_
         clear hK
         refine jFdp (by kernel_rfl) ?_ _
         try simp only[kj]
         have g3:(V1.setCell ⟨R.heap.size,c,none⟩ (.int .i64 (sm+z))).cell? ⟨R.heap.size+1,c,none⟩=some (.int .i64 nn):=(World.cell?_setCell_far _ _ _ _ (by show R.heap.size≠R.heap.size+1;omega)).trans f3
         have HST:=hide (HSET.out _ hB1)
         clear f1 f2 f3 hSd
         go_wp2
         go_roundw
         case rel=>exact ⟨b+1,by omega,by omega,congrArg (Value.int .i64) (by have:=HUU.out;omega),by rw[show 3*a+(b+1)=n+1 by have:=HN.out;omega];exact HST.out⟩
         case measure=>have:=HUU.out;simp[intOf];omega
        ·have hdu:decide (uu≤um)=false:=by have:=HUM.out;simp;omega
         have hb3:b=b1+1:=by omega
         have HK1:=hide (show FiK R (fun c=>sumN (fS zs W H p X Y c) (3*(a+1))) (fun c=>sumN (fN W H p X Y c) (3*(a+1))) wr from hK.congr
          (fun c _=>(qU3Y _ (3*a+b) _ (by omega) (fun i h1 h2=>qmzI zs (fun h=>by have:=HHIX.out (i % 3) (by omega) (by omega);unfold fX at h;omega))).symm)
          (fun c _=>(qU3Y _ (3*a+b) _ (by omega) (fun i h1 h2=>XODU (fun h=>by have:=HHIX.out (i % 3) (by omega) (by omega);unfold fX at h;omega))).symm))
         clear hK j3 j5
         go_wp2
         go_roundw
         case rel=>exact ⟨a+1,by omega,by omega,congrArg (Value.int .i64) (by omega),HK1.out⟩
         case measure=>simp[intOf];omega
      ·have hdv:decide (vv≤vm)=false:=by have:=HVM.out;simp;omega
       have ha3:a=a1+1:=by omega
       have HK9:=hide (show FiK R (fun c=>sumN (fS zs W H p X Y c) (9)) (fun c=>sumN (fN W H p X Y c) (9)) wr from hK.congr
        (fun c _=>(qU3Y _ (3*a) 9 (by omega) (fun i h1 h2=>qmzI zs (fun h=>by have:=HHI.out (i / 3) (by omega) (by omega);unfold fY at h;omega))).symm)
        (fun c _=>(qU3Y _ (3*a) 9 (by omega) (fun i h1 h2=>XODU (fun h=>by have:=HHI.out (i / 3) (by omega) (by omega);unfold fY at h;omega))).symm))
       have hs9:=(kd.1 HK9.out.2.1).1
       have zl:=al1 wr (ka #[.int .i64 0,.int .i64 0,.int .i64 0] 47)
       have HKL:=hide (HK9.out.below (qUNz wr (ka #[.int .i64 0,.int .i64 0,.int .i64 0] 47)))
       clear hK
       go_wp2_with fail
       have hLB:R.heap.size+2≤wr.heap.size:=by omega
       generalize wr.alloc (ka #[.int .i64 0,.int .i64 0,.int .i64 0] 47)=Z9 at *
       generalize wr.heap.size=LB at *
       clear q0 q1 q2 HK9 hs9 hdv
       go_loopw [14] (fun i wl=>∃kk:Nat,kk≤3∧i=.int .i64 kk∧FiL R LB (fun c=>sumN (fS zs W H p X Y c) 9) (fun c=>sumN (fN W H p X Y c) 9) (fun c=>if c<kk then fQ zs W H p X Y c else 0) wl) (fun i _=>3-(intOf i).toNat)
       case atStart=>exact ⟨0,by omega,rfl,HKL.out,zl⟩
       case round =>
        obtain ⟨kk,hkk,rfl,hK⟩:=hrel
        clear zl HKL
        by_cases hlk3:kk<3
        ·have hdk:decide ((kk:Int)<3)=true:=by simp;omega
         have hcs:wr.cell? ⟨R.heap.size,kk,none⟩=some (.int .i64 (sumN (fS zs W H p X Y kk) 9)):=by rw[ki hK.1.1,zPnZ _ kk hlk3]
         have hcn:wr.cell? ⟨R.heap.size+1,kk,none⟩=some (.int .i64 (sumN (fN W H p X Y kk) 9)):=by rw[ki hK.1.2.1,zPnZ _ kk hlk3]
         have hcl:wr.cell? ⟨LB,kk,none⟩=some (.int .i64 0):=by rw[ki hK.2,zPnZ _ kk hlk3,if_neg (Nat.lt_irrefl _)]
         have hcf:wr.frozen? ⟨LB,kk,none⟩=false:=kh hK.2 kk
         have HQ:=hide (show fQ zs W H p X Y kk=sumN (fS zs W H p X Y kk) 9 / max (sumN (fN W H p X Y kk) 9) 1 from rfl)
         obtain ⟨s1,s2⟩:=Xrmj (fun m=>j4Td HZS.out W H p X Y kk m) 9
         obtain ⟨n1,n2⟩:=zok7 (fun m=>XDrq W H p X Y kk m) 9
         obtain ⟨sm,hsm⟩:∃sm,sumN (fS zs W H p X Y kk) 9=sm:=⟨_,rfl⟩
         obtain ⟨nn,hnn⟩:∃nn,sumN (fN W H p X Y kk) 9=nn:=⟨_,rfl⟩
         rw[hsm] at hcs HQ s1 s2
         rw[hnn] at hcn HQ n1 n2
         obtain ⟨mm,hmm⟩:∃mm,(if nn<1 then 1 else nn)=mm:=⟨_,rfl⟩
         have hmx:max nn 1=mm:=by rw[←hmm];split<;>omega
         rw[hmx] at HQ
         have hm1:1≤mm:=by omega
         have hm0:¬(mm=0):=by omega
         have hmz:(mm == 0)=false:=by rw[beq_eq_false_iff_ne];omega
         have hq:=Int.tdiv_eq_ediv_of_nonneg (b:=mm) s1
         have hq0:0≤sm.tdiv mm:=by rw[hq];exact Int.ediv_nonneg s1 (by omega)
         have hq1:sm.tdiv mm≤sm:=by rw[hq];exact Int.ediv_le_self _ s1
         rw[←hq] at HQ
         obtain ⟨q,hqq⟩:∃q,sm.tdiv mm=q:=⟨_,rfl⟩
         rw[hqq] at HQ hq0 hq1
         have hwq:IntKind.i64.wrap q=q:=kn _ (by omega)
         have HSET:=hide (FiL.below (hK.set (V:=wr) (l':=fun j=>if j<kk+1 then fQ zs W H p X Y j else 0) hLB kk q hlk3 (by rw[if_pos (Nat.lt_succ_self kk),HQ.out]) (fun j _ hne=>by
          show (if j<kk then fQ zs W H p X Y j else 0)=(if j<kk+1 then fQ zs W H p X Y j else 0)
          by_cases h:j<kk
          ·rw[if_pos h,if_pos (by omega)]
          ·rw[if_neg h,if_neg (by omega)])) ((Below.refl _ _).drew))
         have hlkI:(kk:Int)<3:=by omega
         clear hK hq hmx hsm hnn
         have hSd:wr.drew.cell? ⟨R.heap.size,kk,none⟩=some (.int .i64 sm)∧wr.drew.cell? ⟨R.heap.size+1,kk,none⟩=some (.int .i64 nn):=⟨hcs,hcn⟩
         go_wp2_with fail
         have hmx:Tryz.prog.follows .mixedOrders=true:=by kernel_rfl
         refine qYgd (S:=fun v:World=>v.cell? ⟨R.heap.size,kk,none⟩=some (.int .i64 sm)∧v.cell? ⟨R.heap.size+1,kk,none⟩=some (.int .i64 nn)) (f:=10) hmx ?_
         show jZdv _ _ _ _ _ _ 11 _ _ wr.drew
         refine zB2j (i:=0) (oi:=_) (v:=?vv10) (some 81) rfl rfl (by kernel_rfl) (by kernel_rfl) (by kernel_rfl) (by kernel_rfl) (by kernel_rfl) (fun _ _ _ h=>h) (Or.inl ⟨by rfl,?yy10⟩) hSd ?rr10
         case yy10=>(intro wq hSq;obtain ⟨_,_⟩:=hSq;go_simp<;>with_reducible rfl)
         simp only[kj,kc,kf,ke]
         refine zB2j (i:=1) (oi:=_) (v:=?vv11) (some 82) rfl rfl (by kernel_rfl) (by kernel_rfl) (by kernel_rfl) (by kernel_rfl) (by kernel_rfl) (fun _ _ _ h=>h) (Or.inl ⟨by rfl,?yy11⟩) hSd ?rr11
         case yy11=>(intro wq hSq;obtain ⟨_,_⟩:=hSq;go_simp<;>with_reducible rfl)
         simp only[kj,kc,kf,ke]
         refine zB2j (i:=4) (oi:=_) (v:=?vv12) (some 85) rfl rfl (by kernel_rfl) (by kernel_rfl) (by kernel_rfl) (by kernel_rfl) (by kernel_rfl) (fun _ _ _ h=>h) (Or.inl ⟨by rfl,?yy12⟩) hSd ?rr12
         case yy12=>(intro wq hSq;obtain ⟨_,_⟩:=hSq;go_simp<;>with_reducible rfl)
         simp only[kj,kc,kf,ke]
         refine zB2j (i:=2) (oi:=_) (v:=?vv13) (some 83) rfl rfl (by kernel_rfl) (by kernel_rfl) (by kernel_rfl) (by kernel_rfl) (by kernel_rfl) (fun _ _ _ h=>h) (Or.inl ⟨by rfl,?yy13⟩) hSd ?rr13
         case yy13=>(intro wq hSq;obtain ⟨_,_⟩:=hSq;go_simp<;>with_reducible rfl)
         simp only[kj,kc,kf,ke]
         refine zB2j (i:=5) (oi:=_) (v:=?vv14) (some 86) rfl rfl (by kernel_rfl) (by kernel_rfl) (by kernel_rfl) (by kernel_rfl) (by kernel_rfl) (fun _ _ _ h=>h) (Or.inl ⟨by rfl,?yy14⟩) hSd ?rr14
         case yy14=>(intro wq hSq;obtain ⟨_,_⟩:=hSq;go_simp<;>with_reducible rfl)
         simp only[kj,kc,kf,ke]
         refine zB2j (i:=3) (oi:=_) (v:=?vv15) (some 84) rfl rfl (by kernel_rfl) (by kernel_rfl) (by kernel_rfl) (by kernel_rfl) (by kernel_rfl) (fun _ _ _ h=>h) (Or.inl ⟨by rfl,?yy15⟩) hSd ?rr15
         case yy15=>(intro wq hSq;obtain ⟨_,_⟩:=hSq;go_simp<;>with_reducible rfl)
         simp only[kj,kc,kf,ke]
         refine zB2j (i:=6) (oi:=_) (v:=?vv16) (some 87) rfl rfl (by kernel_rfl) (by kernel_rfl) (by kernel_rfl) (by kernel_rfl) (by kernel_rfl) (fun _ _ _ h=>h) (Or.inl ⟨by rfl,?yy16⟩) hSd ?rr16
         case yy16=>(intro wq hSq;obtain ⟨_,_⟩:=hSq;go_simp<;>with_reducible rfl)
         simp only[kj,kc,kf,ke]
         refine zB2j (i:=7) (oi:=_) (v:=?vv17) (some 88) rfl rfl (by kernel_rfl) (by kernel_rfl) (by kernel_rfl) (by kernel_rfl) (by kernel_rfl) (fun _ _ _ h=>h) (Or.inl ⟨by rfl,?yy17⟩) hSd ?rr17
         case yy17=>(intro wq hSq;obtain ⟨_,_⟩:=hSq;go_simp<;>with_reducible rfl)
         simp only[kj,kc,kf,ke]
         refine zB2j (i:=8) (oi:=_) (v:=?vv18) (some 89) rfl rfl (by kernel_rfl) (by kernel_rfl) (by kernel_rfl) (by kernel_rfl) (by kernel_rfl) (fun _ _ _ h=>h) (Or.inl ⟨by rfl,?yy18⟩) hSd ?rr18
         case yy18=>(intro wq hSq;obtain ⟨_,_⟩:=hSq;go_simp<;>with_reducible rfl)
         simp only[kj,kc,kf,ke]
         refine zB2j (i:=9) (oi:=_) (v:=?vv19) (some 90) rfl rfl (by kernel_rfl) (by kernel_rfl) (by kernel_rfl) (by kernel_rfl) (by kernel_rfl) (fun _ _ _ h=>h) (Or.inl ⟨by rfl,?yy19⟩) hSd ?rr19
         case yy19=>(intro wq hSq;obtain ⟨_,_⟩:=hSq;go_simp<;>with_reducible rfl)
         simp only[kj,kc,kf,ke]
         refine z9gO (o:=_) (by kernel_rfl) rfl (fun K' hK=>?_)
         rw[if_pos (by rfl)]
         go_simp
         refine hK.out _ _ ?_
         clear hK
         refine jFdp (by kernel_rfl) ?_ _
         try simp only[kj]
         go_wp2
         go_roundw
         case rel=>exact ⟨kk+1,by omega,by go_num,HSET.out⟩
         case measure=>simp[intOf];omega
        ·have hdk:decide ((kk:Int)<3)=false:=by simp;omega
         have h3:kk=3:=by omega
         subst h3
         have hown3:=qwt0 p X Y
         obtain ⟨ow,how⟩:∃c,colV p X Y=c:=⟨_,rfl⟩
         rw[how] at hown3
         have HCO:=hide (fun u=>qkAR p X Y hp (by omega) (by omega) u)
         rw[how] at HCO
         have hkY:Y*W+X=k:=by rw[←HM.out];exact HK.out
         obtain ⟨so,scap,j1,j2,j3,j4,j5⟩:=HJ0.out.below hK.1.2.2
         have hlq:=(kd.1 j3).1
         have hvw:Below w.heap.size w wr:=j5
         have HAT:=hide (fun (u:World) (hu:Below wr.heap.size wr u)=>qcYz W H X Y k (.slice ao zs.length ca) zs u (HV.out.below (hvw.trans (hu.mono hvw.size)) (kl _)) hkY hk hlb)
         obtain ⟨z,hz⟩:∃z,zAt zs k=z:=⟨_,rfl⟩
         rw[hz] at HAT
         obtain ⟨l1,hl1⟩:∃l1:Nat→Int,l1=fun j=>partV zs W H p X Y j:=⟨_,rfl⟩
         have HSET:=hide (fun (V:World) (hV:Below wr.heap.size wr V)=>(hK.below hV).set (l':=l1) hLB ow z hown3 (by rw[hl1];show z=partV zs W H p X Y ow;rw[zaHo,if_pos how.symm,hkY,hz]) (fun j hj hne=>by
          rw[if_pos hj,hl1];show _=partV zs W H p X Y j;rw[zaHo,if_neg (fun e=>hne (by rw[e,how]))]))
         have HFP:=hide (show fillP zs W H p k=(l1 0,l1 1,l1 2) by
          have hm:(Y*W+X) % W=X∧(Y*W+X) / W=Y:=X4G3 hlx
          rw[hl1,fillP,←hkY,hm.1,hm.2])
         have HF:=hide (show ∀v,Below wr.heap.size wr v→(∃x,v.cell? ⟨LB,ow,none⟩=some (.int .i64 x))∧v.frozen? ⟨LB,ow,none⟩=false from fun v h=>by
          have h2:=(hK.below h).2
          exact ⟨⟨_,by rw[ki h2,zPnZ _ ow hown3]⟩,kh h2 ow⟩)
         have HS:=hide (show ∀v,Below wr.heap.size wr v→v.cell? ⟨w.heap.size,0,none⟩=some (.int .i64 W)∧v.cell? ⟨w.heap.size,1,none⟩=some (.int .i64 H)∧v.cell? ⟨w.heap.size,2,none⟩=some (.slice ao zs.length ca) from fun v h=>z5EY ((h.block _ hlq).trans j3))
         have howI:(ow:Int)<3:=by omega
         have hWd:Below wr.heap.size wr wr.drew:=(Below.refl _ _).drew
         clear j1 j2 j3 j4 j5 so scap hz hl1 how
         go_wp2_with fail
         have hSd:=HS.out _ hWd
         have hmx:Tryz.prog.follows .mixedOrders=true:=by kernel_rfl
         refine qYgd (S:=fun v:World=>v.cell? ⟨w.heap.size,0,none⟩=some (.int .i64 W)∧v.cell? ⟨w.heap.size,1,none⟩=some (.int .i64 H)∧v.cell? ⟨w.heap.size,2,none⟩=some (.slice ao zs.length ca)) (f:=9) hmx ?_
         show jZdv _ _ _ _ _ _ 10 _ _ wr.drew
         refine zB2j (i:=0) (oi:=_) (v:=?vv20) (some 91) rfl rfl (by kernel_rfl) (by kernel_rfl) (by kernel_rfl) (by kernel_rfl) (by kernel_rfl) (fun _ _ _ h=>h) (Or.inl ⟨by rfl,?yy20⟩) hSd ?rr20
         case yy20=>(intro wq hSq;obtain ⟨_,_,_⟩:=hSq;go_simp<;>with_reducible rfl)
         simp only[kj,kc,kf,ke]
         refine zB2j (i:=1) (oi:=_) (v:=?vv21) (some 92) rfl rfl (by kernel_rfl) (by kernel_rfl) (by kernel_rfl) (by kernel_rfl) (by kernel_rfl) (fun _ _ _ h=>h) (Or.inl ⟨by rfl,?yy21⟩) hSd ?rr21
         case yy21=>(intro wq hSq;obtain ⟨_,_,_⟩:=hSq;go_simp<;>with_reducible rfl)
         simp only[kj,kc,kf,ke]
         refine zB2j (i:=2) (oi:=_) (v:=?vv22) (some 93) rfl rfl (by kernel_rfl) (by kernel_rfl) (by kernel_rfl) (by kernel_rfl) (by kernel_rfl) (fun _ _ _ h=>h) (Or.inl ⟨by rfl,?yy22⟩) hSd ?rr22
         case yy22=>(intro wq hSq;obtain ⟨_,_,_⟩:=hSq;go_simp<;>with_reducible rfl)
         simp only[kj,kc,kf,ke]
         refine zB2j (i:=4) (oi:=_) (v:=?vv23) (some 95) rfl rfl (by kernel_rfl) (by kernel_rfl) (by kernel_rfl) (by kernel_rfl) (by kernel_rfl) (fun _ _ _ h=>h) (Or.inl ⟨by rfl,?yy23⟩) hSd ?rr23
         case yy23=>(intro wq hSq;obtain ⟨_,_,_⟩:=hSq;go_simp<;>with_reducible rfl)
         simp only[kj,kc,kf,ke]
         refine zB2j (i:=5) (oi:=_) (v:=?vv24) (some 96) rfl rfl (by kernel_rfl) (by kernel_rfl) (by kernel_rfl) (by kernel_rfl) (by kernel_rfl) (fun _ _ _ h=>h) (Or.inl ⟨by rfl,?yy24⟩) hSd ?rr24
         case yy24=>(intro wq hSq;obtain ⟨_,_,_⟩:=hSq;go_simp<;>with_reducible rfl)
         simp only[kj,kc,kf,ke]
         refine zB2j (i:=6) (oi:=_) (v:=?vv25) (some 97) rfl rfl (by kernel_rfl) (by kernel_rfl) (by kernel_rfl) (by kernel_rfl) (by kernel_rfl) (fun _ _ _ h=>h) (Or.inl ⟨by rfl,?yy25⟩) hSd ?rr25
         case yy25=>(intro wq hSq;obtain ⟨_,_,_⟩:=hSq;go_simp<;>with_reducible rfl)
         simp only[kj,kc,kf,ke]
         refine znWj (i:=3) (o:=_) (by kernel_rfl) rfl (fun K' hK=>?_)
         rw[if_pos (by rfl)]
         go_simp
         refine (HCO.out _).mono ?_
         rintro e wq ⟨rfl,rfl⟩
         have hSd:=hSd
         refine hK.out _ _ hSd ?_
         clear hK
         try simp only[kj]
         refine znWj (i:=7) (o:=_) (by kernel_rfl) rfl (fun K' hK=>?_)
         rw[if_pos (by rfl)]
         go_simp
         refine (HAT.out _ hWd).mono ?_
         rintro e V1 ⟨rfl,hbv⟩
         have hB1:Below wr.heap.size wr V1:=hWd.trans (hbv.mono hWd.size)
         have hSd:=HS.out _ hB1
         refine hK.out _ _ hSd ?_
         clear hK
         try simp only[kj]
         refine zB2j (i:=8) (oi:=_) (v:=?vv26) (some 99) rfl rfl (by kernel_rfl) (by kernel_rfl) (by kernel_rfl) (by kernel_rfl) (by kernel_rfl) (fun _ _ _ h=>h) (Or.inl ⟨by rfl,?yy26⟩) hSd ?rr26
         case yy26=>(intro wq hSq;obtain ⟨_,_,_⟩:=hSq;go_simp<;>with_reducible rfl)
         simp only[kj,kc,kf,ke]
         refine z9gO (o:=_) (by kernel_rfl) rfl (fun K' hK=>?_)
         obtain ⟨⟨x0,f1⟩,f2⟩:=HF.out _ hB1
         rw[if_pos (by rfl)]
         go_simp
         refine hK.out _ _ ?_
         clear hK
         refine jFdp (by kernel_rfl) ?_ _
         try simp only[kj]
         have hK2:=HSET.out _ hB1
         clear hSd f1 f2 HSET HAT HCO HS HF
         have iT:(V1.setCell ⟨LB,ow,none⟩ (.int .i64 z)).heap[LB]?=some (.cells #[.int .i64 (l1 0),.int .i64 (l1 1),.int .i64 (l1 2)] 47 (0,0)):=hK2.2
         obtain ⟨so,scap,j1,j2,j3,j4,j5⟩:=HJ0.out.below hK2.1.2.2
         generalize V1.setCell ⟨LB,ow,none⟩ (.int .i64 z)=E at *
         generalize l1 0=x at *
         generalize l1 1=y at *
         generalize l1 2=t at *
         have HST:=hide (show (L.take (k+1)).flatMap pixL=(L.take k).flatMap pixL++pixL (x,y,t) by
          have hk2:k<L.length:=by rw[HLL.out];exact hk
          have hg:=HLG.out k hk
          rw[km hk2] at hg
          rw[kp hk2,Option.some.inj hg,List.flatMap_append,HFP.out];simp)
         obtain ⟨XS,hXS⟩:∃XS,(L.take k).flatMap pixL=XS:=⟨_,rfl⟩
         rw[hXS] at j2 HST
         have hbW:=j5.size
         have hlT:=(kd.1 iT).1
         have nT:=qYYy j2 iT (by decide)
         have HL1:=hide (show k+1≤maxLen by unfold maxLen;omega)
         have HL2:=hide (show (k+1)*24≤140737488355328 by omega)
         have HS:=hide (show ∀v,Below E.heap.size E v→v.cell? ⟨LB,0,none⟩=some (.int .i64 x)∧v.cell? ⟨LB,1,none⟩=some (.int .i64 y)∧v.cell? ⟨LB,2,none⟩=some (.int .i64 t)∧v.cell? ⟨w.heap.size+1+1,2,none⟩=some (.slice so k scap) from fun v h=>by
          obtain ⟨t0,t1,t2⟩:=z5EY ((h.block _ hlT).trans iT)
          obtain ⟨_,_,t3⟩:=z5EY ((h.block (w.heap.size+2) (kd.1 j1).1).trans j1)
          exact ⟨t0,t1,t2,t3⟩)
         have HTL:=hide (show ∀(V2:World) (gg cap:Nat) (w3:World),Below E.heap.size E V2→V2.grownBy w3 (Value.slice so k scap).ownBlock→w3.ownsRow w.heap.size 61 3 (.slice (some ⟨gg,0,none⟩) (k+1) cap) (k+1) (XS++pixL (x,y,t))→(w3.cell? ⟨LB,0,none⟩=some (.int .i64 x)∧w3.cell? ⟨LB,1,none⟩=some (.int .i64 y)∧w3.cell? ⟨LB,2,none⟩=some (.int .i64 t)∧w3.cell? ⟨w.heap.size+1+1,2,none⟩=some (.slice so k scap))∧w3.frozen? ⟨w.heap.size+1+1,2,none⟩=false∧FlJ w W H (.slice ao zs.length ca) L (k+1) (w3.setCell ⟨w.heap.size+1+1,2,none⟩ (.slice (some ⟨gg,0,none⟩) (k+1) cap)) from fun V2 gg cap w3 h1 h2 h3=>by
          obtain ⟨t1,t2,t3,t4,t5,t6,t7⟩:=j7Ww (by decide) j1 j2 j5 (kl _) (by omega) h1 h2 h3
          obtain ⟨y0,y1,y2⟩:=z5EY ((t1 _ hlT nT).trans iT)
          exact ⟨⟨y0,y1,y2,t2⟩,t3,some ⟨gg,0,none⟩,cap,t4,by rw[HST.out];exact t5,(t7 _ (kd.1 j3).1 (qYYy j2 j3 (by decide)) (by omega)).trans j3,(t7 _ (kd.1 j4).1 (qYYy j2 j4 (by decide)) (by omega)).trans j4,t6⟩)
         have HON:=hide (show ∀v:World,Calls Tryz.prog 44 #[.agg #[.int .i64 x,.int .i64 y,.int .i64 t]] v fun e v'=>e=.returned (.agg #[.int .i64 x,.int .i64 y,.int .i64 t])∧Below v.heap.size v v' from fun v=>qif0 (x,y,t) v)
         have hWe:Below E.heap.size E E.drew:=(Below.refl _ _).drew
         clear iT j1 j3 j4 hXS hK2
         go_wp2_with fail
         have hSd:=HS.out _ hWe
         have hmx:Tryz.prog.follows .mixedOrders=true:=by kernel_rfl
         refine qYgd (S:=fun v:World=>v.cell? ⟨LB,0,none⟩=some (.int .i64 x)∧v.cell? ⟨LB,1,none⟩=some (.int .i64 y)∧v.cell? ⟨LB,2,none⟩=some (.int .i64 t)∧v.cell? ⟨w.heap.size+1+1,2,none⟩=some (.slice so k scap)) (f:=7) hmx ?_
         show jZdv _ _ _ _ _ _ 8 _ _ E.drew
         refine zB2j (i:=0) (oi:=_) (v:=?vv27) (some 100) rfl rfl (by kernel_rfl) (by kernel_rfl) (by kernel_rfl) (by kernel_rfl) (by kernel_rfl) (fun _ _ _ h=>h) (Or.inl ⟨by rfl,?yy27⟩) hSd ?rr27
         case yy27=>(intro wq hSq;obtain ⟨_,_,_,_⟩:=hSq;go_simp<;>with_reducible rfl)
         simp only[kj,kc,kf,ke]
         refine zB2j (i:=2) (oi:=_) (v:=?vv28) (some 102) rfl rfl (by kernel_rfl) (by kernel_rfl) (by kernel_rfl) (by kernel_rfl) (by kernel_rfl) (fun _ _ _ h=>h) (Or.inl ⟨by rfl,?yy28⟩) hSd ?rr28
         case yy28=>(intro wq hSq;obtain ⟨_,_,_,_⟩:=hSq;go_simp<;>with_reducible rfl)
         simp only[kj,kc,kf,ke]
         refine zB2j (i:=1) (oi:=_) (v:=?vv29) (some 101) rfl rfl (by kernel_rfl) (by kernel_rfl) (by kernel_rfl) (by kernel_rfl) (by kernel_rfl) (fun _ _ _ h=>h) (Or.inl ⟨by rfl,?yy29⟩) hSd ?rr29
         case yy29=>(intro wq hSq;obtain ⟨_,_,_,_⟩:=hSq;go_simp<;>with_reducible rfl)
         simp only[kj,kc,kf,ke]
         refine znWj (i:=3) (o:=_) (by kernel_rfl) rfl (fun K' hK=>?_)
         rw[if_pos (by rfl)]
         go_simp
         refine (HON.out _).mono ?_
         rintro e V2 ⟨rfl,hbv2⟩
         have hB2:Below E.heap.size E V2:=hWe.trans (hbv2.mono hWe.size)
         have hSd:=HS.out _ hB2
         refine hK.out _ _ hSd ?_
         clear hK
         try simp only[kj]
         refine znWj (i:=4) (o:=_) (by kernel_rfl) rfl (fun K' hK=>?_)
         rw[if_pos (by rfl)]
         go_simp
         have hBs:Below E.heap.size E (V2.alloc (ka #[.int .i64 x,.int .i64 y,.int .i64 t] 61)):=hB2.alloc hB2.size _
         have hSd:=HS.out _ hBs
         refine hK.out _ _ hSd ?_
         clear hK
         try simp only[kj]
         refine znWj (i:=5) (o:=_) (by kernel_rfl) rfl (fun K' hK=>?_)
         refine step_append_lies _ rfl _ _ 22 rfl w.heap.size 61 i0 pixZ 3 24 Tryz.underlying22 hi hz0 hz1 hz2 rfl (by decide) (.slice so k scap) k XS rfl ((qw14 j2 hB2).alloc _) ⟨V2.heap.size,0,none⟩ 1 1 (pixL (x,y,t)) rfl rfl (World.news_of_block (al1 V2 _)) (fun u hu=>by simp[pixL] at hu;rcases hu with rfl|rfl|rfl<;>rfl) Nat.one_pos HL1.out HL2.out (ko hbW hBs.size) _ rfl ?_
         intro gg cap w3 hown hgrow hat hltg
         obtain ⟨hSx,p2f,HFIN⟩:=HTL.out _ gg cap w3 hBs hgrow hown
         have hSd:=hSx
         refine hK.out _ _ hSd ?_
         clear hK
         try simp only[kj]
         refine j7aj (i:=6) (oi:=_) (v:=?vv30) rfl (by kernel_rfl) (by kernel_rfl) (by kernel_rfl) (by kernel_rfl) (by kernel_rfl) (fun _ _ _ h=>h) (Or.inl ⟨by rfl,?yy30⟩) hSd ?rr30
         case yy30=>(intro wq hSq;obtain ⟨_,_,_,_⟩:=hSq;go_simp<;>with_reducible rfl)
         try simp only[kj]
         refine z9gO (o:=_) (by kernel_rfl) rfl (fun K' hK=>?_)
         rw[if_pos (by rfl)]
         go_simp
         refine hK.out _ _ ?_
         clear hK
         refine jFdp (by kernel_rfl) ?_ _
         try simp only[kj]
         go_wp2
         go_roundw
         case rel=>exact ⟨X+1,by omega,by go_num,by rw[show M+(X+1)=k+1 by have:=HK.out;omega];exact HFIN⟩
         case measure=>simp[intOf];omega
    ·have hdx:decide ((X:Int)<(W:Int))=false:=by simp;omega
     have h3:X=W:=by omega
     subst h3
     have HJ1:=hide (show FlJ w X H (.slice ao zs.length ca) L ((Y+1)*X) wr from ⟨so,scap,by rw[kv,←HM.out];exact j1,by rw[kv,←HM.out];exact j2,j3,j4,j5⟩)
     go_wp2
     go_roundw
     case rel=>exact ⟨Y+1,by omega,by go_num,HJ1.out⟩
     case measure=>simp[intOf];omega
  ·have hd:decide ((Y:Int)<(H:Int))=false:=by simp;omega
   obtain rfl:Y=H:=by omega
   rw[←HLEN.out] at j1 j2
   rw[ku (by rw[HLL.out];exact kl _)] at j2
   obtain ⟨p0,p1,p2⟩:=z5EY j1
   obtain ⟨z0,z1,z2⟩:=z5EY j4
   have f0:=kh j4 0
   have f1:=kh j4 1
   have f2:=kh j4 2
   have HFI:=hide (zHqh j5 (show w.heap.size≤w.heap.size+1 by omega) (.int .i64 (W:Nat)) (.int .i64 (Y:Nat)) (.slice so zs.length scap))
   have hpx:IsPix wr (.slice so zs.length scap) L:=IsPix.own (base:=w.heap.size) (ps:=L) (v:=.slice so zs.length scap) (by rw[HLL.out];exact j2) (by rw[HLL.out];omega)
   have hne:(Value.slice so zs.length scap).ownBlock≠some (w.heap.size+1):=fun e=>qYYy j2 j4 (by decide) e.symm
   have HX:=hide (hpx.other (zv5i wr (w.heap.size+1) (.int .i64 (W:Nat)) (.int .i64 (Y:Nat)) (.slice so zs.length scap)) (fun b hb=>jZhz _ _ _ _ _ b hb) hne)
   have HF:=hide (Fresh.own j2)
   clear hpx hne
   go_wp2
   exact bodyPost_ret (v:=.agg #[.int .i64 (W:Nat),.int .i64 (Y:Nat),.slice so zs.length scap]) (by simp[results,Tryz.results89,go_sem,z0,z1,z2]) rfl ⟨_,rfl,HX.out,HFI.out,HF.out⟩
theorem XVmH (m:Nat→Int) (k:Nat) (h:k<(nineL m).length):(nineL m)[k]=m k:=by simp[nineL]
theorem jVlW (m:Nat→Int) (w:World):Calls Tryz.prog 185 #[.agg (nine m)] w fun e w'=>e=.returned (.bool (matOk m))∧Below w.heap.size w w':=by
 obtain ⟨R,hR⟩:∃R,matOk m=R:=⟨_,rfl⟩
 rw[hR]
 have HR:=hide (show R=allIn (-32768) 32768 (nineL m) by rw[←hR];rfl)
 clear hR
 have g:=al1 w (ka (nine m) 48)
 have HC:=hide (fun k (hk:k<9)=>show (w.alloc (ka (nine m) 48)).cell? ⟨w.heap.size,k,none⟩=some (.int .i64 (m k)) by rw[ki g,X1Cm m k hk])
 have hB:=qUNz w (ka (nine m) 48)
 have h9:(nineL m).length=9:=by simp[nineL]
 have HL9:=hide h9
 clear g h9
 go_enter Tryz.func185,Tryz.ntmps185
 go_wp2
 generalize w.alloc (ka (nine m) 48)=U at *
 go_loop [3] (fun i=>∃k:Nat,k≤9∧i=.int .i64 k∧Hid (allIn (-32768) 32768 ((nineL m).take k)=true)) (fun i=>9-(intOf i).toNat)
 case atStart=>exact ⟨0,by omega,rfl,rfl⟩
 case round =>
  obtain ⟨k,hk,rfl,HA⟩:=hrel
  by_cases hlt:k<9
  ·have c1:=HC.out k hlt
   have hlt':k<(nineL m).length:=by rw[HL9.out];exact hlt
   by_cases hx:-32768≤m k∧m k≤32768
   ·have hsx:decide (-32768≤m k∧m k≤32768)=true:=by simpa using hx
    have HT:=hide (show allIn (-32768) 32768 ((nineL m).take (k+1))=true by rw[kp hlt',q5EE,HA.out,XVmH];exact hsx)
    clear hx
    go_wp2_with (go_at_call 33;refine (qVbC _ _ _ _).mono ?_;rintro e wx ⟨rfl,rfl⟩;rw[hsx])
    go_round
    case rel=>exact ⟨k+1,by omega,by go_num,HT⟩
    case measure=>simp[intOf];omega
   ·have hsx:decide (-32768≤m k∧m k≤32768)=false:=by simpa using hx
    have HX:=hide (show false=R by rw[HR.out,XQ5U (-32768) 32768 (nineL m) k hlt' (by rw[XVmH];exact hx)])
    clear hx
    go_wp2_with (go_at_call 33;refine (qVbC _ _ _ _).mono ?_;rintro e wx ⟨rfl,rfl⟩;rw[hsx])
    go_ret
    exact ⟨j3Zs HX.out,hB⟩
  ·have HX:=hide (show true=R by rw[HR.out,←HA.out,ku (by rw[HL9.out];omega)])
   go_wp2
   go_ret
   exact ⟨j3Zs HX.out,hB⟩
theorem zTTp (v:Value) (ls:List Pt) (x:Int) (h0:0≤x) (h1:x≤65535) (hcv:jhAl ls) (w:World) (hv:IsPts w v ls) :
  Calls Tryz.prog 144 #[v,.int .i64 x] w fun e w'=>e=.returned (.int .i64 (qy0p ls x))∧Below w.heap.size w w':=by
 obtain ⟨ao,ca,rfl,hla,hc⟩:=hv
 have hl2:=hcv.two
 have hl16:=hcv.most
 obtain ⟨bk,off,hao,hbl,hcell⟩:∃b off,ao=some ⟨b,off,none⟩∧b<w.heap.size∧∀j,j<ls.length →
   w.cell? ⟨b,off+j*2,none⟩=some (.int .i64 (ptAt ls j).1)∧w.cell? ⟨b,off+j*2+1,none⟩=some (.int .i64 (ptAt ls j).2):=by
  rcases hc with h|h
  ·subst h;simp at hl2
  ·exact h
 subst hao
 have HCELL:=hide hcell;clear hcell hc
 have HCV:=hide hcv;clear hcv
 go_enter Tryz.func144,Tryz.ntmps144
 go_wp2
 go_loop [5] (fun i=>∃k:Nat,1≤k∧k<ls.length∧i=.int .i64 k∧Hid (∀j,1≤j→j<k→(ptAt ls j).1<x)) (fun i=>ls.length-(intOf i).toNat)
 case atStart=>exact ⟨1,by omega,by omega,rfl,fun j hj hj2=>by omega⟩
 case round =>
  obtain ⟨k,hk1,hk,rfl,HJ⟩:=hrel
  obtain ⟨c0,c1⟩:=HCELL.out k hk
  by_cases hx:(ptAt ls k).1<x
  ·have hd:decide ((ptAt ls k).1<x)=true:=by simpa using hx
   have hk2:k+1<ls.length:=by
    rcases Nat.eq_or_lt_of_le (show k≤ls.length-1 by omega) with e|hlt
    ·have:=HCV.out.last;rw[←e] at this;omega
    ·omega
   go_wp2
   go_round
   case rel=>exact ⟨k+1,by omega,hk2,by go_num,fun j hj1 hj=>by
    rcases Nat.eq_or_lt_of_le (show j≤k by omega) with e|hlt
    ·rw[e];exact hx
    ·exact HJ.out j hj1 hlt⟩
   case measure=>simp[intOf];omega
  ·have hd:decide ((ptAt ls k).1<x)=false:=by simpa using hx
   have HE2:=hide (X4yG HCV.out h0 hk1 hk (by omega) HJ.out)
   obtain ⟨i,rfl⟩:∃i,k=i+1:=⟨k-1,by omega⟩
   have hle:(ptAt ls i).1≤x:=by
    rcases Nat.eq_zero_or_pos i with e|hp
    ·rw[e,HCV.out.first];exact h0
    ·exact Int.le_of_lt (HJ.out i hp (by omega))
   obtain ⟨d0,d1⟩:=HCELL.out i (by omega)
   obtain ⟨m0,m1,m2,m3⟩:=jwsP HCV.out i hk x hle (by omega)
   obtain ⟨y0,y1⟩:=HCV.out.y i (by omega)
   obtain ⟨y2,y3⟩:=HCV.out.y (i+1) hk
   obtain ⟨x0,x1⟩:=HCV.out.x i (by omega)
   obtain ⟨x2,x3⟩:=HCV.out.x (i+1) hk
   obtain ⟨s0,s1⟩:=HCV.out.step i hk
   rw[Xp0K,Nat.add_sub_cancel] at m2 m3 HE2
   have hne:¬(ptAt ls (i+1)).1-(ptAt ls i).1=0:=by omega
   clear hx
   generalize (ptAt ls (i+1)).1=X2 at *
   generalize (ptAt ls i).1=X1 at *
   generalize (ptAt ls (i+1)).2=Y2 at *
   generalize (ptAt ls i).2=Y1 at *
   obtain ⟨M,hM⟩:∃M,(Y2-Y1)*(x-X1)=M:=⟨_,rfl⟩
   rw[hM] at m0 m1 m2 m3 HE2
   obtain ⟨D,hD⟩:∃D,X2-X1=D:=⟨_,rfl⟩
   rw[hD] at m2 m3 HE2 hne
   have hD0:0<D:=by omega
   have hq0:0≤M / D:=Int.ediv_nonneg m0 (by omega)
   have hDz:(D == 0)=false:=by simpa using hne
   have hwi:IntKind.i64.wrap (i:Int)=(i:Int):=kn _ (by omega)
   have hil:i<ls.length:=by omega
   have hil2:(i:Int)<(ls.length:Int):=by omega
   have hil3:(0:Int)≤(i:Int):=by omega
   have hil4:(i:Int)+1<(ls.length:Int):=by omega
   have hil5:(0:Int)≤(i:Int)+1:=by omega
   have hwi2:IntKind.i64.wrap ((i:Int)+1)=(i:Int)+1:=kn _ (by omega)
   go_wp2_with fail
   go_region_held3 (fun w'=>w'.cell? ⟨bk,off+(i+1)*2,none⟩=some (.int .i64 X2)∧w'.cell? ⟨bk,off+(i+1)*2+1,none⟩=some (.int .i64 Y2)∧w'.cell? ⟨bk,off+i*2,none⟩=some (.int .i64 X1)∧w'.cell? ⟨bk,off+i*2+1,none⟩=some (.int .i64 Y1)) (go_keep) (fail)
   all_goals
    go_wp2
    go_region
    go_wp2
    go_ret
    exact ⟨jx9N HE2.out.symm,(be2 _ _ _).drew.drew⟩
end Go.Proofs.YtfjeonehdlphiaaGreatDoor
