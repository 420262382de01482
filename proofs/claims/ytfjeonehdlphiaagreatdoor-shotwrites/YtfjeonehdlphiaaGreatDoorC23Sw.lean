/- Sw: part 23 of what the proofs need. -/
import Derived.Test.YtfjeonehdlphiaaGreatDoorC3Sw
import Derived.Test.YtfjeonehdlphiaaGreatDoorC4Sw
import Derived.Test.YtfjeonehdlphiaaGreatDoorC9Sw
import Derived.Test.YtfjeonehdlphiaaGreatDoorC16Sw
import Derived.Test.YtfjeonehdlphiaaGreatDoorC22Sw
set_option linter.unusedVariables false
set_option maxHeartbeats 1600000
set_option maxRecDepth 100000
namespace Go.Proofs.YtfjeonehdlphiaaGreatDoor
open Go.RowKit
def zBza (zs:List Int) (W:Nat) (m:Nat→Int) (white:Int) (j:Nat):Int:=jeC7 ((zAt zs j-m (j / W % 2*2+j % W % 2))*65535 / (white-m (j / W % 2*2+j % W % 2)))
def gainV (zs:List Int) (W p:Nat) (m:Nat→Int) (j:Nat):Int:=jeC7 (zAt zs j*m (colV p (j % W) (j / W)) / 256)
theorem Xmh1 (p X Y:Nat):colV p X Y<3:=by unfold colV;split<;>omega
theorem Xq1h (W H j bk off ca:Nat) (hW1:1≤W) (hW:W≤64) (hH:H≤64) (zs:List Int) (hlen:zs.length=H*W) (hzs:allIn 0 65535 zs=true) (hj:j<zs.length) (m:Nat→Int) (white:Int) (hw0:white≤65535) (hm:∀k,k<4→0≤m k∧m k≤white-1) (Bb Bp Bg Bw:Nat) (w:World) (hBp:Bp<w.heap.size) (hBg:Bg<w.heap.size) (hbk:bk<w.heap.size)
  (k2:w.cell? ⟨Bp,2,none⟩=some (.slice (some ⟨bk,off,none⟩) zs.length ca)) (g0:w.cell? ⟨Bg,0,none⟩=some (.int .i64 W)) (g1:w.cell? ⟨Bg,1,none⟩=some (.int .i64 H)) (hBb:Bb<w.heap.size) (hBw:Bw<w.heap.size) (kb:∀k,k<4→w.cell? ⟨Bb,k,none⟩=some (.int .i64 (m k))) (kw:w.cell? ⟨Bw,0,none⟩=some (.int .i64 white))
  (hcell:∀j,j<zs.length→w.cell? ⟨bk,off+j,none⟩=some (.int .i64 (zAt zs j))) :
  Calls Tryz.prog 256 #[.agg #[.int .i64 (j % W:Nat),.int .i64 (j / W:Nat)],.pointer (some ⟨Bb,0,none⟩),.pointer (some ⟨Bp,0,none⟩),.pointer (some ⟨Bg,0,none⟩),.pointer (some ⟨Bw,0,none⟩)] w fun e w'=>e=.returned (.int .i64 (zBza zs W m white j))∧Below w.heap.size w w':=by
 have HT:=hide (show zBza zs W m white j=jeC7 ((zAt zs j-m (j / W % 2*2+j % W % 2))*65535 / (white-m (j / W % 2*2+j % W % 2))) from rfl)
 generalize zBza zs W m white j=RES at *
 have hl4:zs.length≤4096:=by rw[hlen];exact Nat.le_trans (Nat.mul_le_mul hH hW) (by decide)
 obtain ⟨X,hX⟩:∃X,j % W=X:=⟨_,rfl⟩
 obtain ⟨Y,hY⟩:∃Y,j / W=Y:=⟨_,rfl⟩
 have hk:Y*W+X=j:=by rw[←hX,←hY,Nat.mul_comm];exact Nat.div_add_mod j W
 have HIX:=hide (fun v=>XSSj W H X Y W j rfl hk (by omega) v)
 have hzr:=XWrv hzs j
 have hcz:=hcell j hj
 have hjI:(j:Int)<(zs.length:Int):=by omega
 rw[hX,hY] at HT
 rw[hX,hY]
 obtain ⟨a,ha⟩:∃a,Y % 2=a:=⟨_,rfl⟩
 obtain ⟨b,hb⟩:∃b,X % 2=b:=⟨_,rfl⟩
 have hya:(Y:Int) % 2=(a:Int):=by rw[←ha];rfl
 have hxb:(X:Int) % 2=(b:Int):=by rw[←hb];rfl
 obtain ⟨A2,hA2⟩:∃A2,a*2=A2:=⟨_,rfl⟩
 have hi1:(a:Int)*2=(A2:Int):=by omega
 obtain ⟨ix,hix⟩:∃ix,A2+b=ix:=⟨_,rfl⟩
 have hi2:(A2:Int)+(b:Int)=(ix:Int):=by omega
 have hix4:ix<4:=by omega
 have hixI:(ix:Int)<4:=by omega
 rw[ha,hb,hA2,hix] at HT
 obtain ⟨hm0,hm1⟩:=hm ix hix4
 have kb0:=kb ix hix4
 obtain ⟨bl,hbl⟩:∃bl,m ix=bl:=⟨_,rfl⟩
 rw[hbl] at HT hm0 hm1 kb0
 obtain ⟨z,hz⟩:∃z,zAt zs j=z:=⟨_,rfl⟩
 rw[hz] at HT hzr hcz
 obtain ⟨hz1,hz2⟩:=hzr
 obtain ⟨d,hd⟩:∃d,white-bl=d:=⟨_,rfl⟩
 rw[hd] at HT
 have hd1:1≤d:=by omega
 have hd0:¬(d=0):=by omega
 obtain ⟨n,hn⟩:∃n,(z-bl)*65535=n:=⟨_,rfl⟩
 rw[hn,←zj0b n d (by omega)] at HT
 have hn1:-4294967296≤n∧n≤4294967296:=by omega
 have hf:=qFLz n d (by omega)
 have hr1:-4294967296≤n / d:=Int.le_ediv_of_mul_le (by omega) (by omega)
 have hr2:n / d≤4294967296:=Int.ediv_le_of_le_mul (by omega) (by omega)
 obtain ⟨q,hq⟩:∃q,n.tdiv d=q:=⟨_,rfl⟩
 rw[hq] at HT hf
 have hqr:-4294967297≤q∧q≤4294967298:=by omega
 obtain ⟨hq1,hq2⟩:=hqr
 have hwd:IntKind.i64.wrap (white-bl)=d:=by rw[hd];exact IntWalk.i64_in _ (by omega)
 have hwd2:IntKind.i64.wrap d=d:=IntWalk.i64_in _ (by omega)
 have hwe:IntKind.i64.wrap (z-bl)=z-bl:=IntWalk.i64_in _ (by omega)
 have hwn:IntKind.i64.wrap n=n:=IntWalk.i64_in _ (by omega)
 have hwq:IntKind.i64.wrap q=q:=IntWalk.i64_in _ (by omega)
 clear hf hr1 hr2 hX hY ha hb hA2 hix hbl hz hk hlen hcell hm kb hzs
 have HB:=hide (qUNz w (Obj.cells #[.int .i64 X,.int .i64 Y] 97))
 have a1:=al1 w (Obj.cells #[.int .i64 X,.int .i64 Y] 97)
 have kb1:=(HB.out.cell (p:=⟨Bb,ix,none⟩) hBb).trans kb0
 obtain ⟨s0,s1⟩:=bx2 a1
 go_enter Tryz.func256,Tryz.ntmps256
 go_wp2_with fail
 have hl1:=(Array.getElem?_eq_some_iff.1 a1).1
 generalize w.alloc (Obj.cells #[.int .i64 X,.int .i64 Y] 97)=U at *
 have HS:=hide (show ∀v,Below U.heap.size U v→v.cell? ⟨Bp,2,none⟩=some (.slice (some ⟨bk,off,none⟩) zs.length ca)∧v.cell? ⟨Bg,0,none⟩=some (.int .i64 W)∧v.cell? ⟨Bg,1,none⟩=some (.int .i64 H)∧v.cell? ⟨w.heap.size,0,none⟩=some (.int .i64 X)∧v.cell? ⟨w.heap.size,1,none⟩=some (.int .i64 Y)∧v.cell? ⟨bk,off+j,none⟩=some (.int .i64 z)∧v.cell? ⟨Bw,0,none⟩=some (.int .i64 white) from fun v h=>by
  have hw:=HB.out.trans (h.mono HB.out.size)
  obtain ⟨y0,y1⟩:=bx2 ((h.block _ hl1).trans a1)
  exact ⟨(hw.cell (p:=⟨Bp,2,none⟩) hBp).trans k2,(hw.cell (p:=⟨Bg,0,none⟩) hBg).trans g0,(hw.cell (p:=⟨Bg,1,none⟩) hBg).trans g1,y0,y1,(hw.cell (p:=⟨bk,off+j,none⟩) hbk).trans hcz,(hw.cell (p:=⟨Bw,0,none⟩) hBw).trans kw⟩)
 have hWd:Below U.heap.size U U.drew:=(Below.refl _ _).drew
 have hSd:=HS.out _ hWd
 clear s0 s1
 have hmx:Tryz.prog.follows .mixedOrders=true:=by kernel_rfl
 refine qYgd (S:=fun v:World=>v.cell? ⟨Bp,2,none⟩=some (.slice (some ⟨bk,off,none⟩) zs.length ca)∧v.cell? ⟨Bg,0,none⟩=some (.int .i64 W)∧v.cell? ⟨Bg,1,none⟩=some (.int .i64 H)∧v.cell? ⟨w.heap.size,0,none⟩=some (.int .i64 X)∧v.cell? ⟨w.heap.size,1,none⟩=some (.int .i64 Y)∧v.cell? ⟨bk,off+j,none⟩=some (.int .i64 z)∧v.cell? ⟨Bw,0,none⟩=some (.int .i64 white)) (f:=15) hmx ?_
 show jZdv _ _ _ _ _ _ 16 _ _ U.drew
 refine zB2j (i:=0) (oi:=_) (v:=?vv1) (some 18) rfl rfl (by kernel_rfl) (by kernel_rfl) (by kernel_rfl) (by kernel_rfl) (by kernel_rfl) (fun _ _ _ h=>h) (Or.inl ⟨by rfl,?yy1⟩) hSd ?rr1
 case yy1=>(intro wq hSq;obtain ⟨_,_,_,_,_,_,_⟩:=hSq;go_simp<;>with_reducible rfl)
 simp only[Act.put,List.setIfInBounds_toArray,List.set_cons_succ,List.set_cons_zero]
 refine zB2j (i:=2) (oi:=_) (v:=?vv2) (some 20) rfl rfl (by kernel_rfl) (by kernel_rfl) (by kernel_rfl) (by kernel_rfl) (by kernel_rfl) (fun _ _ _ h=>h) (Or.inl ⟨by rfl,?yy2⟩) hSd ?rr2
 case yy2=>(intro wq hSq;obtain ⟨_,_,_,_,_,_,_⟩:=hSq;go_simp<;>with_reducible rfl)
 simp only[Act.put,List.setIfInBounds_toArray,List.set_cons_succ,List.set_cons_zero]
 refine zB2j (i:=3) (oi:=_) (v:=?vv3) (some 21) rfl rfl (by kernel_rfl) (by kernel_rfl) (by kernel_rfl) (by kernel_rfl) (by kernel_rfl) (fun _ _ _ h=>h) (Or.inl ⟨by rfl,?yy3⟩) hSd ?rr3
 case yy3=>(intro wq hSq;obtain ⟨_,_,_,_,_,_,_⟩:=hSq;go_simp<;>with_reducible rfl)
 simp only[Act.put,List.setIfInBounds_toArray,List.set_cons_succ,List.set_cons_zero]
 refine zB2j (i:=7) (oi:=_) (v:=?vv4) (some 25) rfl rfl (by kernel_rfl) (by kernel_rfl) (by kernel_rfl) (by kernel_rfl) (by kernel_rfl) (fun _ _ _ h=>h) (Or.inl ⟨by rfl,?yy4⟩) hSd ?rr4
 case yy4=>(intro wq hSq;obtain ⟨_,_,_,_,_,_,_⟩:=hSq;go_simp<;>with_reducible rfl)
 simp only[Act.put,List.setIfInBounds_toArray,List.set_cons_succ,List.set_cons_zero]
 refine zB2j (i:=10) (oi:=_) (v:=?vv5) (some 28) rfl rfl (by kernel_rfl) (by kernel_rfl) (by kernel_rfl) (by kernel_rfl) (by kernel_rfl) (fun _ _ _ h=>h) (Or.inl ⟨by rfl,?yy5⟩) hSd ?rr5
 case yy5=>(intro wq hSq;obtain ⟨_,_,_,_,_,_,_⟩:=hSq;go_simp<;>with_reducible rfl)
 simp only[Act.put,List.setIfInBounds_toArray,List.set_cons_succ,List.set_cons_zero]
 refine zB2j (i:=11) (oi:=_) (v:=?vv6) (some 29) rfl rfl (by kernel_rfl) (by kernel_rfl) (by kernel_rfl) (by kernel_rfl) (by kernel_rfl) (fun _ _ _ h=>h) (Or.inl ⟨by rfl,?yy6⟩) hSd ?rr6
 case yy6=>(intro wq hSq;obtain ⟨_,_,_,_,_,_,_⟩:=hSq;go_simp<;>with_reducible rfl)
 simp only[Act.put,List.setIfInBounds_toArray,List.set_cons_succ,List.set_cons_zero]
 refine zB2j (i:=1) (oi:=_) (v:=?vv7) (some 19) rfl rfl (by kernel_rfl) (by kernel_rfl) (by kernel_rfl) (by kernel_rfl) (by kernel_rfl) (fun _ _ _ h=>h) (Or.inl ⟨by rfl,?yy7⟩) hSd ?rr7
 case yy7=>(intro wq hSq;obtain ⟨_,_,_,_,_,_,_⟩:=hSq;go_simp<;>with_reducible rfl)
 simp only[Act.put,List.setIfInBounds_toArray,List.set_cons_succ,List.set_cons_zero]
 refine zB2j (i:=12) (oi:=_) (v:=?vv8) (some 30) rfl rfl (by kernel_rfl) (by kernel_rfl) (by kernel_rfl) (by kernel_rfl) (by kernel_rfl) (fun _ _ _ h=>h) (Or.inl ⟨by rfl,?yy8⟩) hSd ?rr8
 case yy8=>(intro wq hSq;obtain ⟨_,_,_,_,_,_,_⟩:=hSq;go_simp<;>with_reducible rfl)
 simp only[Act.put,List.setIfInBounds_toArray,List.set_cons_succ,List.set_cons_zero]
 refine znWj (i:=4) (o:=_) (by kernel_rfl) rfl (fun K' hK=>?_)
 rw[if_pos (by rfl)]
 go_simp
 refine (HIX.out _).mono ?_
 rintro e V1 ⟨rfl,hbv⟩
 have hB1:Below U.heap.size U V1:=hWd.trans (hbv.mono hWd.size)
 have hSd:=HS.out _ hB1
 refine hK.out _ _ hSd ?_
 clear hK
 try simp only[Act.put]
 refine zB2j (i:=5) (oi:=_) (v:=?vv9) (some 23) rfl rfl (by kernel_rfl) (by kernel_rfl) (by kernel_rfl) (by kernel_rfl) (by kernel_rfl) (fun _ _ _ h=>h) (Or.inl ⟨by rfl,?yy9⟩) hSd ?rr9
 case yy9=>(intro wq hSq;obtain ⟨_,_,_,_,_,_,_⟩:=hSq;go_simp<;>with_reducible rfl)
 simp only[Act.put,List.setIfInBounds_toArray,List.set_cons_succ,List.set_cons_zero]
 refine zB2j (i:=6) (oi:=_) (v:=?vv10) (some 24) rfl rfl (by kernel_rfl) (by kernel_rfl) (by kernel_rfl) (by kernel_rfl) (by kernel_rfl) (fun _ _ _ h=>h) (Or.inl ⟨by rfl,?yy10⟩) hSd ?rr10
 case yy10=>(intro wq hSq;obtain ⟨_,_,_,_,_,_,_⟩:=hSq;go_simp<;>with_reducible rfl)
 simp only[Act.put,List.setIfInBounds_toArray,List.set_cons_succ,List.set_cons_zero]
 refine zB2j (i:=8) (oi:=_) (v:=?vv11) (some 26) rfl rfl (by kernel_rfl) (by kernel_rfl) (by kernel_rfl) (by kernel_rfl) (by kernel_rfl) (fun _ _ _ h=>h) (Or.inl ⟨by rfl,?yy11⟩) hSd ?rr11
 case yy11=>(intro wq hSq;obtain ⟨_,_,_,_,_,_,_⟩:=hSq;go_simp<;>with_reducible rfl)
 simp only[Act.put,List.setIfInBounds_toArray,List.set_cons_succ,List.set_cons_zero]
 refine zB2j (i:=9) (oi:=_) (v:=?vv12) (some 27) rfl rfl (by kernel_rfl) (by kernel_rfl) (by kernel_rfl) (by kernel_rfl) (by kernel_rfl) (fun _ _ _ h=>h) (Or.inl ⟨by rfl,?yy12⟩) hSd ?rr12
 case yy12=>(intro wq hSq;obtain ⟨_,_,_,_,_,_,_⟩:=hSq;go_simp<;>with_reducible rfl)
 simp only[Act.put,List.setIfInBounds_toArray,List.set_cons_succ,List.set_cons_zero]
 refine zB2j (i:=13) (oi:=_) (v:=?vv13) (some 31) rfl rfl (by kernel_rfl) (by kernel_rfl) (by kernel_rfl) (by kernel_rfl) (by kernel_rfl) (fun _ _ _ h=>h) (Or.inl ⟨by rfl,?yy13⟩) hSd ?rr13
 case yy13=>(intro wq hSq;obtain ⟨_,_,_,_,_,_,_⟩:=hSq;go_simp<;>with_reducible rfl)
 simp only[Act.put,List.setIfInBounds_toArray,List.set_cons_succ,List.set_cons_zero]
 refine znWj (i:=14) (o:=_) (by kernel_rfl) rfl (fun K' hK=>?_)
 rw[if_pos (by rfl)]
 go_simp
 refine (Xgzp _ _).mono ?_
 rintro e Vx ⟨rfl,rfl⟩
 have hSd:=hSd
 refine hK.out _ _ hSd ?_
 clear hK
 try simp only[Act.put]
 refine z9gO (o:=_) (by kernel_rfl) rfl (fun K' hK=>?_)
 rw[if_pos (by rfl)]
 go_simp
 refine hK.out _ _ ?_
 clear hK
 refine jFdp (by kernel_rfl) ?_ _
 try simp only[Act.put]
 go_wp2
 go_ret
 exact ⟨jx9N HT.out.symm,HB.out.trans (hB1.mono HB.out.size)⟩
theorem zrmA (W H j bk off ca:Nat) (hW1:1≤W) (hW:W≤64) (hH:H≤64) (zs:List Int) (hlen:zs.length=H*W) (hzs:allIn 0 65535 zs=true) (hj:j<zs.length) (p:Nat) (hp:p≤3) (m:Nat→Int) (hm:∀k,k<3→0≤m k∧m k≤65535) (Bh Bp Bg Bm:Nat) (w:World) (hBp:Bp<w.heap.size) (hBg:Bg<w.heap.size) (hbk:bk<w.heap.size)
  (k2:w.cell? ⟨Bp,2,none⟩=some (.slice (some ⟨bk,off,none⟩) zs.length ca)) (g0:w.cell? ⟨Bg,0,none⟩=some (.int .i64 W)) (g1:w.cell? ⟨Bg,1,none⟩=some (.int .i64 H)) (hBh:Bh<w.heap.size) (hBm:Bm<w.heap.size) (kh:w.cell? ⟨Bh,0,none⟩=some (.int .i64 p)) (km:∀k,k<3→w.cell? ⟨Bm,k,none⟩=some (.int .i64 (m k)))
  (hcell:∀j,j<zs.length→w.cell? ⟨bk,off+j,none⟩=some (.int .i64 (zAt zs j))) :
  Calls Tryz.prog 266 #[.agg #[.int .i64 (j % W:Nat),.int .i64 (j / W:Nat)],.pointer (some ⟨Bh,0,none⟩),.pointer (some ⟨Bp,0,none⟩),.pointer (some ⟨Bg,0,none⟩),.pointer (some ⟨Bm,0,none⟩)] w fun e w'=>e=.returned (.int .i64 (gainV zs W p m j))∧Below w.heap.size w w':=by
 have HT:=hide (show gainV zs W p m j=jeC7 (zAt zs j*m (colV p (j % W) (j / W)) / 256) from rfl)
 generalize gainV zs W p m j=RES at *
 have hl4:zs.length≤4096:=by rw[hlen];exact Nat.le_trans (Nat.mul_le_mul hH hW) (by decide)
 obtain ⟨X,hX⟩:∃X,j % W=X:=⟨_,rfl⟩
 obtain ⟨Y,hY⟩:∃Y,j / W=Y:=⟨_,rfl⟩
 have hk:Y*W+X=j:=by rw[←hX,←hY,Nat.mul_comm];exact Nat.div_add_mod j W
 have HIX:=hide (fun v=>XSSj W H X Y W j rfl hk (by omega) v)
 have hzr:=XWrv hzs j
 have hcz:=hcell j hj
 have hjI:(j:Int)<(zs.length:Int):=by omega
 rw[hX,hY] at HT
 rw[hX,hY]
 have HCO:=hide (fun v=>XW0z p X Y hp v)
 have hc3:=Xmh1 p X Y
 obtain ⟨c,hc⟩:∃c,colV p X Y=c:=⟨_,rfl⟩
 rw[hc] at HCO HT hc3
 have hcI:(c:Int)<3:=by omega
 obtain ⟨hm0,hm1⟩:=hm c hc3
 have km0:=km c hc3
 obtain ⟨gn,hgn⟩:∃gn,m c=gn:=⟨_,rfl⟩
 rw[hgn] at HT hm0 hm1 km0
 obtain ⟨z,hz⟩:∃z,zAt zs j=z:=⟨_,rfl⟩
 rw[hz] at HT hzr hcz
 obtain ⟨hz1,hz2⟩:=hzr
 have hn0:0≤z*gn:=Int.mul_nonneg hz1 hm0
 have hn1:z*gn≤65535*65535:=Int.mul_le_mul hz2 hm1 hm0 (by omega)
 obtain ⟨n,hn⟩:∃n,z*gn=n:=⟨_,rfl⟩
 rw[hn] at HT hn0 hn1
 have hq0:=Int.tdiv_eq_ediv_of_nonneg (b:=256) hn0
 rw[←hq0] at HT
 have hqr:0≤n.tdiv 256∧n.tdiv 256≤4294967296:=by rw[hq0];omega
 obtain ⟨q,hq⟩:∃q,n.tdiv 256=q:=⟨_,rfl⟩
 rw[hq] at HT hqr
 obtain ⟨hq1,hq2⟩:=hqr
 have hq3:n / 256=q:=by rw[←hq0];exact hq
 have hwn:IntKind.i64.wrap n=n:=IntWalk.i64_in _ (by omega)
 have hwq:IntKind.i64.wrap q=q:=IntWalk.i64_in _ (by omega)
 clear hq0 hX hY hc hgn hz hk hlen hcell hm km hzs
 have HB:=hide (qUNz w (Obj.cells #[.int .i64 X,.int .i64 Y] 97))
 have a1:=al1 w (Obj.cells #[.int .i64 X,.int .i64 Y] 97)
 have kh1:=(HB.out.cell (p:=⟨Bh,0,none⟩) hBh).trans kh
 obtain ⟨s0,s1⟩:=bx2 a1
 go_enter Tryz.func266,Tryz.ntmps266
 go_wp2_with fail
 have hl1:=(Array.getElem?_eq_some_iff.1 a1).1
 have hB0:=HB
 generalize w.alloc (Obj.cells #[.int .i64 X,.int .i64 Y] 97)=U0 at *
 refine (HCO.out _).mono ?_
 rintro e U ⟨rfl,hbU⟩
 replace HB:=hide (HB.out.trans (hbU.mono HB.out.size))
 replace a1:=(hbU.block _ hl1).trans a1
 replace hl1:=(Array.getElem?_eq_some_iff.1 a1).1
 go_wp2_with fail
 clear kh1 hbU hB0
 have HS:=hide (show ∀v,Below U.heap.size U v→v.cell? ⟨Bp,2,none⟩=some (.slice (some ⟨bk,off,none⟩) zs.length ca)∧v.cell? ⟨Bg,0,none⟩=some (.int .i64 W)∧v.cell? ⟨Bg,1,none⟩=some (.int .i64 H)∧v.cell? ⟨w.heap.size,0,none⟩=some (.int .i64 X)∧v.cell? ⟨w.heap.size,1,none⟩=some (.int .i64 Y)∧v.cell? ⟨bk,off+j,none⟩=some (.int .i64 z)∧v.cell? ⟨Bm,c,none⟩=some (.int .i64 gn) from fun v h=>by
  have hw:=HB.out.trans (h.mono HB.out.size)
  obtain ⟨y0,y1⟩:=bx2 ((h.block _ hl1).trans a1)
  exact ⟨(hw.cell (p:=⟨Bp,2,none⟩) hBp).trans k2,(hw.cell (p:=⟨Bg,0,none⟩) hBg).trans g0,(hw.cell (p:=⟨Bg,1,none⟩) hBg).trans g1,y0,y1,(hw.cell (p:=⟨bk,off+j,none⟩) hbk).trans hcz,(hw.cell (p:=⟨Bm,c,none⟩) hBm).trans km0⟩)
 have hWd:Below U.heap.size U U.drew:=(Below.refl _ _).drew
 have hSd:=HS.out _ hWd
 clear s0 s1
 have hmx:Tryz.prog.follows .mixedOrders=true:=by kernel_rfl
 refine qYgd (S:=fun v:World=>v.cell? ⟨Bp,2,none⟩=some (.slice (some ⟨bk,off,none⟩) zs.length ca)∧v.cell? ⟨Bg,0,none⟩=some (.int .i64 W)∧v.cell? ⟨Bg,1,none⟩=some (.int .i64 H)∧v.cell? ⟨w.heap.size,0,none⟩=some (.int .i64 X)∧v.cell? ⟨w.heap.size,1,none⟩=some (.int .i64 Y)∧v.cell? ⟨bk,off+j,none⟩=some (.int .i64 z)∧v.cell? ⟨Bm,c,none⟩=some (.int .i64 gn)) (f:=13) hmx ?_
 show jZdv _ _ _ _ _ _ 14 _ _ U.drew
 refine zB2j (i:=0) (oi:=_) (v:=?vv14) (some 18) rfl rfl (by kernel_rfl) (by kernel_rfl) (by kernel_rfl) (by kernel_rfl) (by kernel_rfl) (fun _ _ _ h=>h) (Or.inl ⟨by rfl,?yy14⟩) hSd ?rr14
 case yy14=>(intro wq hSq;obtain ⟨_,_,_,_,_,_,_⟩:=hSq;go_simp<;>with_reducible rfl)
 simp only[Act.put,List.setIfInBounds_toArray,List.set_cons_succ,List.set_cons_zero]
 refine zB2j (i:=2) (oi:=_) (v:=?vv15) (some 20) rfl rfl (by kernel_rfl) (by kernel_rfl) (by kernel_rfl) (by kernel_rfl) (by kernel_rfl) (fun _ _ _ h=>h) (Or.inl ⟨by rfl,?yy15⟩) hSd ?rr15
 case yy15=>(intro wq hSq;obtain ⟨_,_,_,_,_,_,_⟩:=hSq;go_simp<;>with_reducible rfl)
 simp only[Act.put,List.setIfInBounds_toArray,List.set_cons_succ,List.set_cons_zero]
 refine zB2j (i:=3) (oi:=_) (v:=?vv16) (some 21) rfl rfl (by kernel_rfl) (by kernel_rfl) (by kernel_rfl) (by kernel_rfl) (by kernel_rfl) (fun _ _ _ h=>h) (Or.inl ⟨by rfl,?yy16⟩) hSd ?rr16
 case yy16=>(intro wq hSq;obtain ⟨_,_,_,_,_,_,_⟩:=hSq;go_simp<;>with_reducible rfl)
 simp only[Act.put,List.setIfInBounds_toArray,List.set_cons_succ,List.set_cons_zero]
 refine zB2j (i:=7) (oi:=_) (v:=?vv17) (some 25) rfl rfl (by kernel_rfl) (by kernel_rfl) (by kernel_rfl) (by kernel_rfl) (by kernel_rfl) (fun _ _ _ h=>h) (Or.inl ⟨by rfl,?yy17⟩) hSd ?rr17
 case yy17=>(intro wq hSq;obtain ⟨_,_,_,_,_,_,_⟩:=hSq;go_simp<;>with_reducible rfl)
 simp only[Act.put,List.setIfInBounds_toArray,List.set_cons_succ,List.set_cons_zero]
 refine zB2j (i:=1) (oi:=_) (v:=?vv18) (some 19) rfl rfl (by kernel_rfl) (by kernel_rfl) (by kernel_rfl) (by kernel_rfl) (by kernel_rfl) (fun _ _ _ h=>h) (Or.inl ⟨by rfl,?yy18⟩) hSd ?rr18
 case yy18=>(intro wq hSq;obtain ⟨_,_,_,_,_,_,_⟩:=hSq;go_simp<;>with_reducible rfl)
 simp only[Act.put,List.setIfInBounds_toArray,List.set_cons_succ,List.set_cons_zero]
 refine zB2j (i:=8) (oi:=_) (v:=?vv19) (some 26) rfl rfl (by kernel_rfl) (by kernel_rfl) (by kernel_rfl) (by kernel_rfl) (by kernel_rfl) (fun _ _ _ h=>h) (Or.inl ⟨by rfl,?yy19⟩) hSd ?rr19
 case yy19=>(intro wq hSq;obtain ⟨_,_,_,_,_,_,_⟩:=hSq;go_simp<;>with_reducible rfl)
 simp only[Act.put,List.setIfInBounds_toArray,List.set_cons_succ,List.set_cons_zero]
 refine zB2j (i:=9) (oi:=_) (v:=?vv20) (some 27) rfl rfl (by kernel_rfl) (by kernel_rfl) (by kernel_rfl) (by kernel_rfl) (by kernel_rfl) (fun _ _ _ h=>h) (Or.inl ⟨by rfl,?yy20⟩) hSd ?rr20
 case yy20=>(intro wq hSq;obtain ⟨_,_,_,_,_,_,_⟩:=hSq;go_simp<;>with_reducible rfl)
 simp only[Act.put,List.setIfInBounds_toArray,List.set_cons_succ,List.set_cons_zero]
 refine znWj (i:=4) (o:=_) (by kernel_rfl) rfl (fun K' hK=>?_)
 rw[if_pos (by rfl)]
 go_simp
 refine (HIX.out _).mono ?_
 rintro e V1 ⟨rfl,hbv⟩
 have hB1:Below U.heap.size U V1:=hWd.trans (hbv.mono hWd.size)
 have hSd:=HS.out _ hB1
 refine hK.out _ _ hSd ?_
 clear hK
 try simp only[Act.put]
 refine zB2j (i:=5) (oi:=_) (v:=?vv21) (some 23) rfl rfl (by kernel_rfl) (by kernel_rfl) (by kernel_rfl) (by kernel_rfl) (by kernel_rfl) (fun _ _ _ h=>h) (Or.inl ⟨by rfl,?yy21⟩) hSd ?rr21
 case yy21=>(intro wq hSq;obtain ⟨_,_,_,_,_,_,_⟩:=hSq;go_simp<;>with_reducible rfl)
 simp only[Act.put,List.setIfInBounds_toArray,List.set_cons_succ,List.set_cons_zero]
 refine zB2j (i:=6) (oi:=_) (v:=?vv22) (some 24) rfl rfl (by kernel_rfl) (by kernel_rfl) (by kernel_rfl) (by kernel_rfl) (by kernel_rfl) (fun _ _ _ h=>h) (Or.inl ⟨by rfl,?yy22⟩) hSd ?rr22
 case yy22=>(intro wq hSq;obtain ⟨_,_,_,_,_,_,_⟩:=hSq;go_simp<;>with_reducible rfl)
 simp only[Act.put,List.setIfInBounds_toArray,List.set_cons_succ,List.set_cons_zero]
 refine zB2j (i:=10) (oi:=_) (v:=?vv23) (some 28) rfl rfl (by kernel_rfl) (by kernel_rfl) (by kernel_rfl) (by kernel_rfl) (by kernel_rfl) (fun _ _ _ h=>h) (Or.inl ⟨by rfl,?yy23⟩) hSd ?rr23
 case yy23=>(intro wq hSq;obtain ⟨_,_,_,_,_,_,_⟩:=hSq;go_simp<;>with_reducible rfl)
 simp only[Act.put,List.setIfInBounds_toArray,List.set_cons_succ,List.set_cons_zero]
 refine zB2j (i:=11) (oi:=_) (v:=?vv24) (some 29) rfl rfl (by kernel_rfl) (by kernel_rfl) (by kernel_rfl) (by kernel_rfl) (by kernel_rfl) (fun _ _ _ h=>h) (Or.inl ⟨by rfl,?yy24⟩) hSd ?rr24
 case yy24=>(intro wq hSq;obtain ⟨_,_,_,_,_,_,_⟩:=hSq;go_simp<;>with_reducible rfl)
 simp only[Act.put,List.setIfInBounds_toArray,List.set_cons_succ,List.set_cons_zero]
 refine znWj (i:=12) (o:=_) (by kernel_rfl) rfl (fun K' hK=>?_)
 rw[if_pos (by rfl)]
 go_simp
 refine (Xgzp _ _).mono ?_
 rintro e Vx ⟨rfl,rfl⟩
 have hSd:=hSd
 refine hK.out _ _ hSd ?_
 clear hK
 try simp only[Act.put]
 refine z9gO (o:=_) (by kernel_rfl) rfl (fun K' hK=>?_)
 rw[if_pos (by rfl)]
 go_simp
 refine hK.out _ _ ?_
 clear hK
 refine jFdp (by kernel_rfl) ?_ _
 try simp only[Act.put]
 go_wp2
 go_ret
 exact ⟨jx9N HT.out.symm,HB.out.trans (hB1.mono HB.out.size)⟩
theorem XZeB {w:World} {b:Nat} {t:TypeId} {fr:Nat×Nat} {m:Nat→Int} (h:w.heap[b]?=some (.cells (fourA m) t fr)) :
  w.cell? ⟨b,0,none⟩=some (.int .i64 (m 0))∧w.cell? ⟨b,1,none⟩=some (.int .i64 (m 1))∧w.cell? ⟨b,2,none⟩=some (.int .i64 (m 2))∧w.cell? ⟨b,3,none⟩=some (.int .i64 (m 3)) :=
 ⟨by rw[Lib.cell_of_heap h];rfl,by rw[Lib.cell_of_heap h];rfl,by rw[Lib.cell_of_heap h];rfl,by rw[Lib.cell_of_heap h];rfl⟩
def levE (W H:Int) (zs:List Int) (m:Nat→Int) (white:Int):Int:=if q0fM W H zs=true then (if zN6Q m white=true then 0 else 3) else 1
def levL (W:Int) (zs:List Int) (m:Nat→Int) (white:Int):List Int:=(List.range zs.length).map (zBza zs W.toNat m white)
theorem XDBp (W H:Int) (v:Value) (zs:List Int) (m:Nat→Int) (white:Int) (w:World) (hv:jCvT w v zs) :
  Calls Tryz.prog 254 #[.agg #[.int .i64 W,.int .i64 H,v],.agg (fourA m),.int .i64 white] w fun e w'=>∃r,e=.returned (.tuple #[.agg #[.int .i64 (okW (levE W H zs m white) W),.int .i64 (okW (levE W H zs m white) H),r],.int .i64 (levE W H zs m white)])∧jCvT w' r (okL (levE W H zs m white) (levL W zs m white))∧Below w.heap.size w w'∧Fresh w.heap.size r:=by
 have HV:=hide hv
 obtain ⟨E,hE⟩:∃E,levE W H zs m white=E:=⟨_,rfl⟩
 rw[hE]
 by_cases hp:q0fM W H zs=true
 ·by_cases hph:zN6Q m white=true
  ·have he:E=0:=by rw[←hE,levE,if_pos hp,if_pos hph]
   subst he
   clear hE
   obtain ⟨⟨w1,w2⟩,⟨h1,h2⟩,hl,_⟩:=qwcI hp
   have hz:=XAOl hp
   have hph3:=hph
   rw[zN6Q,Bool.and_eq_true] at hph3
   have hph2:1≤white∧white≤65535:=by simpa using hph3.1
   have HMM:=hide (fun k (hk:k<4)=>XL98 hph3.2 k hk)
   have hsm:=zAFj ⟨w1,w2⟩ ⟨h1,h2⟩
   have hn1:1≤zs.length:=by omega
   obtain ⟨bk,off,ca,rfl,hbk,hcell⟩:=hv.cells hn1
   obtain ⟨WN,rfl⟩:=Int.eq_ofNat_of_zero_le (show 0≤W by omega)
   obtain ⟨HN,rfl⟩:=Int.eq_ofNat_of_zero_le (show 0≤H by omega)
   have HLEN:=hide (show zs.length=HN*WN by rw[Nat.mul_comm];exact_mod_cast hl)
   have HZ:=hide hz
   have HC:=hide hcell
   rw[show okW 0 (WN:Int)=WN from rfl,show okW 0 (HN:Int)=HN from rfl,show okL 0 (levL (WN:Int) zs m white)=(List.range zs.length).map (zBza zs WN m white) from rfl]
   clear hl hz hcell hsm hv hph3
   go_enter Tryz.func254,Tryz.ntmps254
   go_wp2_with fail
   obtain ⟨a1,a2,a3,a4⟩:=al4 w (Obj.cells #[.int .i64 (WN:Nat),.int .i64 (HN:Nat),.slice (some ⟨bk,off,none⟩) zs.length ca] 54) (Obj.cells (fourA m) 45) (Obj.cells #[.int .i64 white] 3) (Obj.cells #[.int .i64 0,.int .i64 0,.slice none 0 0] 54)
   have hB:=be4 w (Obj.cells #[.int .i64 (WN:Nat),.int .i64 (HN:Nat),.slice (some ⟨bk,off,none⟩) zs.length ca] 54) (Obj.cells (fourA m) 45) (Obj.cells #[.int .i64 white] 3) (Obj.cells #[.int .i64 0,.int .i64 0,.slice none 0 0] 54)
   have hs3:((((w.alloc (Obj.cells #[.int .i64 (WN:Nat),.int .i64 (HN:Nat),.slice (some ⟨bk,off,none⟩) zs.length ca] 54)).alloc (Obj.cells (fourA m) 45)).alloc (Obj.cells #[.int .i64 white] 3)).alloc (Obj.cells #[.int .i64 0,.int .i64 0,.slice none 0 0] 54)).heap.size=w.heap.size+4:=by simp
   generalize (((w.alloc (Obj.cells #[.int .i64 (WN:Nat),.int .i64 (HN:Nat),.slice (some ⟨bk,off,none⟩) zs.length ca] 54)).alloc (Obj.cells (fourA m) 45)).alloc (Obj.cells #[.int .i64 white] 3)).alloc (Obj.cells #[.int .i64 0,.int .i64 0,.slice none 0 0] 54)=U at *
   refine (XeC7 WN HN _ zs _ (HV.out.below hB (Nat.le_refl _))).mono ?_
   rintro e w1 ⟨rfl,hb1⟩
   rw[hp]
   have g4:=(hb1.block (w.heap.size+3) (by omega)).trans a4
   obtain ⟨n0,n1,n2,n3⟩:=XZeB ((hb1.block (w.heap.size+1) (by omega)).trans a2)
   have g3:=bx1 ((hb1.block (w.heap.size+1+1) (by omega)).trans a3)
   go_wp2_with fail
   refine (zO8p m white _).mono ?_
   rintro e w2 ⟨rfl,hb2⟩
   rw[hph]
   clear n0 n1 n2 n3 g3
   replace hb2:=quJN hb1 hb2
   replace g4:=(hb2.block (w.heap.size+3) (by omega)).trans a4
   obtain ⟨p0,p1,p2⟩:=z5EY ((hb2.block (w.heap.size) (by omega)).trans a1)
   go_wp2_with fail
   have hbG:=quJN hb2 (qUNz w2 (Obj.cells #[.int .i64 (WN:Nat),.int .i64 (HN:Nat)] 95))
   have aG:=al1 w2 (Obj.cells #[.int .i64 (WN:Nat),.int .i64 (HN:Nat)] 95)
   have hlG:=(Array.getElem?_eq_some_iff.1 aG).1
   have hs2:=hb2.size
   clear p0 p1 p2
   generalize w2.alloc (Obj.cells #[.int .i64 (WN:Nat),.int .i64 (HN:Nat)] 95)=w2g at *
   refine (zPMW WN HN zs.length (by omega) (by omega) HLEN.out 256 #[.pointer (some ⟨w.heap.size+1,0,none⟩),.pointer (some ⟨w.heap.size,0,none⟩),.pointer (some ⟨w2.heap.size,0,none⟩),.pointer (some ⟨w.heap.size+1+1,0,none⟩)] (zBza zs WN m white) _ (enters_of Tryz.func256 (by kernel_rfl) rfl) ?_).mono ?_
   ·intro j V hj hV
    have hb3:=quJN hbG hV
    have hbw:=hB.trans (hb3.mono hB.size)
    obtain ⟨e0,e1,e2⟩:=z5EY ((hb3.block (w.heap.size) (by omega)).trans a1)
    have e3:=bx1 ((hb3.block (w.heap.size+2) (by omega)).trans a3)
    have e6:=(hb3.block (w.heap.size+1) (by omega)).trans a2
    obtain ⟨e4,e5⟩:=bx2 ((hV.block w2.heap.size hlG).trans aG)
    have hs:=hb3.size
    have hsV:=hV.size
    exact Xq1h WN HN j bk off ca (by omega) (by omega) (by omega) zs HLEN.out HZ.out hj m white (by omega) (fun k hk=>HMM.out k hk) (w.heap.size+1) w.heap.size w2.heap.size (w.heap.size+2) V (by omega) (by omega) (Nat.lt_of_lt_of_le hbk hbw.size) e2 e4 e5 (by omega) (by omega) (fun k hk=>by rw[Lib.cell_of_heap e6,zh9q m k hk]) e3 (fun i hi=>(hbw.cell (p:=⟨bk,off+i,none⟩) hbk).trans (HC.out i hi))
   ·rintro e w3 ⟨r,rfl,hr,hb3,hfr⟩
    replace hb3:=quJN hbG hb3
    replace g4:=(hb3.block (w.heap.size+3) (by omega)).trans a4
    obtain ⟨z0,z1,z2⟩:=z5EY (b:=w.heap.size+1+1+1) g4
    have f0:=Lib.frozen_of_heap (b:=w.heap.size+1+1+1) g4 0
    have f1:=Lib.frozen_of_heap (b:=w.heap.size+1+1+1) g4 1
    have f2:=Lib.frozen_of_heap (b:=w.heap.size+1+1+1) g4 2
    have HR:=hide hr
    obtain ⟨ro,rc,rfl,_,_⟩:=hr
    have HFIN:=hide (zHqh (hB.trans (hb3.mono hB.size)) (show w.heap.size≤w.heap.size+1+1+1 by omega) (.int .i64 (WN:Nat)) (.int .i64 (HN:Nat)) (.slice ro ((List.range zs.length).map (zBza zs WN m white)).length rc))
    have hsG:=hbG.size
    have HPX2:=hide (HR.out.set3 hfr (show w.heap.size+1+1+1<w2g.heap.size by omega) (.int .i64 (WN:Nat)) (.int .i64 (HN:Nat)) (.slice ro ((List.range zs.length).map (zBza zs WN m white)).length rc))
    rw[List.length_map,List.length_range] at HPX2 HFIN hfr
    rw[List.length_map,List.length_range]
    go_wp2
    exact bodyPost_ret (v:=.tuple #[.agg #[.int .i64 (WN:Nat),.int .i64 (HN:Nat),.slice ro zs.length rc],.int .i64 0]) (by simp[results,Tryz.results254,go_sem,z0,z1,z2]) rfl ⟨_,rfl,HPX2.out,HFIN.out,hfr.mono (by omega)⟩
  ·have he:E=3:=by rw[←hE,levE,if_pos hp,if_neg hph]
   have hph:zN6Q m white=false:=by simpa using hph
   subst he
   clear hE
   obtain ⟨ao,ca,rfl,_,_⟩:=hv
   go_enter Tryz.func254,Tryz.ntmps254
   go_wp2_with fail
   obtain ⟨a1,a2,a3,a4⟩:=al4 w (Obj.cells #[.int .i64 W,.int .i64 H,.slice ao zs.length ca] 54) (Obj.cells (fourA m) 45) (Obj.cells #[.int .i64 white] 3) (Obj.cells #[.int .i64 0,.int .i64 0,.slice none 0 0] 54)
   have hB:=be4 w (Obj.cells #[.int .i64 W,.int .i64 H,.slice ao zs.length ca] 54) (Obj.cells (fourA m) 45) (Obj.cells #[.int .i64 white] 3) (Obj.cells #[.int .i64 0,.int .i64 0,.slice none 0 0] 54)
   have hs3:((((w.alloc (Obj.cells #[.int .i64 W,.int .i64 H,.slice ao zs.length ca] 54)).alloc (Obj.cells (fourA m) 45)).alloc (Obj.cells #[.int .i64 white] 3)).alloc (Obj.cells #[.int .i64 0,.int .i64 0,.slice none 0 0] 54)).heap.size=w.heap.size+4:=by simp
   generalize (((w.alloc (Obj.cells #[.int .i64 W,.int .i64 H,.slice ao zs.length ca] 54)).alloc (Obj.cells (fourA m) 45)).alloc (Obj.cells #[.int .i64 white] 3)).alloc (Obj.cells #[.int .i64 0,.int .i64 0,.slice none 0 0] 54)=U at *
   refine (XeC7 W H _ zs _ (HV.out.below hB (Nat.le_refl _))).mono ?_
   rintro e w1 ⟨rfl,hb1⟩
   rw[hp]
   have g4:=(hb1.block (w.heap.size+3) (by omega)).trans a4
   obtain ⟨n0,n1,n2,n3⟩:=XZeB ((hb1.block (w.heap.size+1) (by omega)).trans a2)
   have g3:=bx1 ((hb1.block (w.heap.size+1+1) (by omega)).trans a3)
   go_wp2_with fail
   refine (zO8p m white _).mono ?_
   rintro e w2 ⟨rfl,hb2⟩
   rw[hph]
   clear n0 n1 n2 n3 g3
   replace hb2:=quJN hb1 hb2
   replace g4:=(hb2.block (w.heap.size+3) (by omega)).trans a4
   obtain ⟨z0,z1,z2⟩:=z5EY (b:=w.heap.size+1+1+1) g4
   have f0:=Lib.frozen_of_heap (b:=w.heap.size+1+1+1) g4 0
   have f1:=Lib.frozen_of_heap (b:=w.heap.size+1+1+1) g4 1
   have f2:=Lib.frozen_of_heap (b:=w.heap.size+1+1+1) g4 2
   have HFIN:=hide (zHqh (hB.trans (hb2.mono hB.size)) (show w.heap.size≤w.heap.size+1+1+1 by omega) (.int .i64 0) (.int .i64 0) (.slice none 0 0))
   go_wp2
   exact bodyPost_ret (v:=.tuple #[.agg #[.int .i64 0,.int .i64 0,.slice none 0 0],.int .i64 3]) (by simp[results,Tryz.results254,go_sem,z0,z1,z2]) rfl ⟨.slice none 0 0,rfl,jCvT.nil _,HFIN.out,Fresh.nil _⟩
 ·have he:E=1:=by rw[←hE,levE,if_neg hp]
  have hp:q0fM W H zs=false:=by simpa using hp
  subst he
  clear hE
  obtain ⟨ao,ca,rfl,_,_⟩:=hv
  go_enter Tryz.func254,Tryz.ntmps254
  go_wp2_with fail
  obtain ⟨a1,a2,a3,a4⟩:=al4 w (Obj.cells #[.int .i64 W,.int .i64 H,.slice ao zs.length ca] 54) (Obj.cells (fourA m) 45) (Obj.cells #[.int .i64 white] 3) (Obj.cells #[.int .i64 0,.int .i64 0,.slice none 0 0] 54)
  have hB:=be4 w (Obj.cells #[.int .i64 W,.int .i64 H,.slice ao zs.length ca] 54) (Obj.cells (fourA m) 45) (Obj.cells #[.int .i64 white] 3) (Obj.cells #[.int .i64 0,.int .i64 0,.slice none 0 0] 54)
  have hs3:((((w.alloc (Obj.cells #[.int .i64 W,.int .i64 H,.slice ao zs.length ca] 54)).alloc (Obj.cells (fourA m) 45)).alloc (Obj.cells #[.int .i64 white] 3)).alloc (Obj.cells #[.int .i64 0,.int .i64 0,.slice none 0 0] 54)).heap.size=w.heap.size+4:=by simp
  generalize (((w.alloc (Obj.cells #[.int .i64 W,.int .i64 H,.slice ao zs.length ca] 54)).alloc (Obj.cells (fourA m) 45)).alloc (Obj.cells #[.int .i64 white] 3)).alloc (Obj.cells #[.int .i64 0,.int .i64 0,.slice none 0 0] 54)=U at *
  refine (XeC7 W H _ zs _ (HV.out.below hB (Nat.le_refl _))).mono ?_
  rintro e w1 ⟨rfl,hb1⟩
  rw[hp]
  have g4:=(hb1.block (w.heap.size+3) (by omega)).trans a4
  generalize w1=w2 at *
  have hb2:=hb1
  obtain ⟨z0,z1,z2⟩:=z5EY (b:=w.heap.size+1+1+1) g4
  have f0:=Lib.frozen_of_heap (b:=w.heap.size+1+1+1) g4 0
  have f1:=Lib.frozen_of_heap (b:=w.heap.size+1+1+1) g4 1
  have f2:=Lib.frozen_of_heap (b:=w.heap.size+1+1+1) g4 2
  have HFIN:=hide (zHqh (hB.trans (hb2.mono hB.size)) (show w.heap.size≤w.heap.size+1+1+1 by omega) (.int .i64 0) (.int .i64 0) (.slice none 0 0))
  go_wp2
  exact bodyPost_ret (v:=.tuple #[.agg #[.int .i64 0,.int .i64 0,.slice none 0 0],.int .i64 1]) (by simp[results,Tryz.results254,go_sem,z0,z1,z2]) rfl ⟨.slice none 0 0,rfl,jCvT.nil _,HFIN.out,Fresh.nil _⟩
def gaiE (W H:Int) (zs:List Int) (phase:Int) (m:Nat→Int):Int:=if q0fM W H zs=true then (if qdne phase=true∧j1E7 m=true then 0 else 3) else 1
def gaiL (W:Int) (zs:List Int) (phase:Int) (m:Nat→Int):List Int:=(List.range zs.length).map (gainV zs W.toNat phase.toNat m)
theorem zHt1 (W H:Int) (v:Value) (zs:List Int) (phase:Int) (m:Nat→Int) (w:World) (hv:jCvT w v zs) :
  Calls Tryz.prog 265 #[.agg #[.int .i64 W,.int .i64 H,v],.int .i64 phase,.agg (qilW m)] w fun e w'=>∃r,e=.returned (.tuple #[.agg #[.int .i64 (okW (gaiE W H zs phase m) W),.int .i64 (okW (gaiE W H zs phase m) H),r],.int .i64 (gaiE W H zs phase m)])∧jCvT w' r (okL (gaiE W H zs phase m) (gaiL W zs phase m))∧Below w.heap.size w w'∧Fresh w.heap.size r:=by
 have HV:=hide hv
 obtain ⟨E,hE⟩:∃E,gaiE W H zs phase m=E:=⟨_,rfl⟩
 rw[hE]
 by_cases hp:q0fM W H zs=true
 ·by_cases hph:qdne phase=true
  ·by_cases hgn:j1E7 m=true
   ·have he:E=0:=by rw[←hE,gaiE,if_pos hp,if_pos ⟨hph,hgn⟩]
    subst he
    clear hE
    obtain ⟨⟨w1,w2⟩,⟨h1,h2⟩,hl,_⟩:=qwcI hp
    have hz:=XAOl hp
    have hph2:0≤phase∧phase≤3:=by simpa [qdne] using hph
    have HMM:=hide (fun k (hk:k<3)=>XL98 hgn k hk)
    have hsm:=zAFj ⟨w1,w2⟩ ⟨h1,h2⟩
    have hn1:1≤zs.length:=by omega
    obtain ⟨bk,off,ca,rfl,hbk,hcell⟩:=hv.cells hn1
    obtain ⟨WN,rfl⟩:=Int.eq_ofNat_of_zero_le (show 0≤W by omega)
    obtain ⟨HN,rfl⟩:=Int.eq_ofNat_of_zero_le (show 0≤H by omega)
    obtain ⟨PN,rfl⟩:=Int.eq_ofNat_of_zero_le hph2.1
    have HLEN:=hide (show zs.length=HN*WN by rw[Nat.mul_comm];exact_mod_cast hl)
    have HZ:=hide hz
    have HC:=hide hcell
    rw[show okW 0 (WN:Int)=WN from rfl,show okW 0 (HN:Int)=HN from rfl,show okL 0 (gaiL (WN:Int) zs (PN:Int) m)=(List.range zs.length).map (gainV zs WN PN m) from rfl]
    clear hl hz hcell hsm hv
    go_enter Tryz.func265,Tryz.ntmps265
    go_wp2_with fail
    obtain ⟨a1,a2,a3,a4⟩:=al4 w (Obj.cells #[.int .i64 (WN:Nat),.int .i64 (HN:Nat),.slice (some ⟨bk,off,none⟩) zs.length ca] 54) (Obj.cells #[.int .i64 (PN:Nat)] 3) (Obj.cells (qilW m) 47) (Obj.cells #[.int .i64 0,.int .i64 0,.slice none 0 0] 54)
    have hB:=be4 w (Obj.cells #[.int .i64 (WN:Nat),.int .i64 (HN:Nat),.slice (some ⟨bk,off,none⟩) zs.length ca] 54) (Obj.cells #[.int .i64 (PN:Nat)] 3) (Obj.cells (qilW m) 47) (Obj.cells #[.int .i64 0,.int .i64 0,.slice none 0 0] 54)
    have hs3:((((w.alloc (Obj.cells #[.int .i64 (WN:Nat),.int .i64 (HN:Nat),.slice (some ⟨bk,off,none⟩) zs.length ca] 54)).alloc (Obj.cells #[.int .i64 (PN:Nat)] 3)).alloc (Obj.cells (qilW m) 47)).alloc (Obj.cells #[.int .i64 0,.int .i64 0,.slice none 0 0] 54)).heap.size=w.heap.size+4:=by simp
    generalize (((w.alloc (Obj.cells #[.int .i64 (WN:Nat),.int .i64 (HN:Nat),.slice (some ⟨bk,off,none⟩) zs.length ca] 54)).alloc (Obj.cells #[.int .i64 (PN:Nat)] 3)).alloc (Obj.cells (qilW m) 47)).alloc (Obj.cells #[.int .i64 0,.int .i64 0,.slice none 0 0] 54)=U at *
    refine (XeC7 WN HN _ zs _ (HV.out.below hB (Nat.le_refl _))).mono ?_
    rintro e w1 ⟨rfl,hb1⟩
    rw[hp]
    have g4:=(hb1.block (w.heap.size+3) (by omega)).trans a4
    have g2:=bx1 ((hb1.block (w.heap.size+1) (by omega)).trans a2)
    go_wp2_with fail
    refine (qtgz _ _).mono ?_
    rintro e w2 ⟨rfl,hb2⟩
    rw[hph]
    clear g2
    replace hb2:=quJN hb1 hb2
    replace g4:=(hb2.block (w.heap.size+3) (by omega)).trans a4
    obtain ⟨n0,n1,n2⟩:=z5EY (b:=w.heap.size+1+1) ((hb2.block (w.heap.size+2) (by omega)).trans a3)
    go_wp2_with fail
    refine (XByj m _).mono ?_
    rintro e w2b ⟨rfl,hb2b⟩
    rw[hgn]
    clear n0 n1 n2
    replace hb2:=quJN hb2 hb2b
    clear hb2b
    generalize w2b=w2 at *
    replace g4:=(hb2.block (w.heap.size+3) (by omega)).trans a4
    obtain ⟨p0,p1,p2⟩:=z5EY ((hb2.block (w.heap.size) (by omega)).trans a1)
    go_wp2_with fail
    have hbG:=quJN hb2 (qUNz w2 (Obj.cells #[.int .i64 (WN:Nat),.int .i64 (HN:Nat)] 95))
    have aG:=al1 w2 (Obj.cells #[.int .i64 (WN:Nat),.int .i64 (HN:Nat)] 95)
    have hlG:=(Array.getElem?_eq_some_iff.1 aG).1
    have hs2:=hb2.size
    clear p0 p1 p2
    generalize w2.alloc (Obj.cells #[.int .i64 (WN:Nat),.int .i64 (HN:Nat)] 95)=w2g at *
    refine (zPMW WN HN zs.length (by omega) (by omega) HLEN.out 266 #[.pointer (some ⟨w.heap.size+1,0,none⟩),.pointer (some ⟨w.heap.size,0,none⟩),.pointer (some ⟨w2.heap.size,0,none⟩),.pointer (some ⟨w.heap.size+1+1,0,none⟩)] (gainV zs WN PN m) _ (enters_of Tryz.func266 (by kernel_rfl) rfl) ?_).mono ?_
    ·intro j V hj hV
     have hb3:=quJN hbG hV
     have hbw:=hB.trans (hb3.mono hB.size)
     obtain ⟨e0,e1,e2⟩:=z5EY ((hb3.block (w.heap.size) (by omega)).trans a1)
     have e3:=bx1 ((hb3.block (w.heap.size+1) (by omega)).trans a2)
     have e6:=(hb3.block (w.heap.size+2) (by omega)).trans a3
     obtain ⟨e4,e5⟩:=bx2 ((hV.block w2.heap.size hlG).trans aG)
     have hs:=hb3.size
     have hsV:=hV.size
     exact zrmA WN HN j bk off ca (by omega) (by omega) (by omega) zs HLEN.out HZ.out hj PN (by omega) m (fun k hk=>HMM.out k hk) (w.heap.size+1) w.heap.size w2.heap.size (w.heap.size+2) V (by omega) (by omega) (Nat.lt_of_lt_of_le hbk hbw.size) e2 e4 e5 (by omega) (by omega) e3 (fun k hk=>by rw[Lib.cell_of_heap e6,jscf m k hk]) (fun i hi=>(hbw.cell (p:=⟨bk,off+i,none⟩) hbk).trans (HC.out i hi))
    ·rintro e w3 ⟨r,rfl,hr,hb3,hfr⟩
     replace hb3:=quJN hbG hb3
     replace g4:=(hb3.block (w.heap.size+3) (by omega)).trans a4
     obtain ⟨z0,z1,z2⟩:=z5EY (b:=w.heap.size+1+1+1) g4
     have f0:=Lib.frozen_of_heap (b:=w.heap.size+1+1+1) g4 0
     have f1:=Lib.frozen_of_heap (b:=w.heap.size+1+1+1) g4 1
     have f2:=Lib.frozen_of_heap (b:=w.heap.size+1+1+1) g4 2
     have HR:=hide hr
     obtain ⟨ro,rc,rfl,_,_⟩:=hr
     have HFIN:=hide (zHqh (hB.trans (hb3.mono hB.size)) (show w.heap.size≤w.heap.size+1+1+1 by omega) (.int .i64 (WN:Nat)) (.int .i64 (HN:Nat)) (.slice ro ((List.range zs.length).map (gainV zs WN PN m)).length rc))
     have hsG:=hbG.size
     have HPX2:=hide (HR.out.set3 hfr (show w.heap.size+1+1+1<w2g.heap.size by omega) (.int .i64 (WN:Nat)) (.int .i64 (HN:Nat)) (.slice ro ((List.range zs.length).map (gainV zs WN PN m)).length rc))
     rw[List.length_map,List.length_range] at HPX2 HFIN hfr
     rw[List.length_map,List.length_range]
     go_wp2
     exact bodyPost_ret (v:=.tuple #[.agg #[.int .i64 (WN:Nat),.int .i64 (HN:Nat),.slice ro zs.length rc],.int .i64 0]) (by simp[results,Tryz.results265,go_sem,z0,z1,z2]) rfl ⟨_,rfl,HPX2.out,HFIN.out,hfr.mono (by omega)⟩
   ·have he:E=3:=by rw[←hE,gaiE,if_pos hp,if_neg (fun h=>hgn h.2)]
    have hgn:j1E7 m=false:=by simpa using hgn
    subst he
    clear hE
    obtain ⟨ao,ca,rfl,_,_⟩:=hv
    go_enter Tryz.func265,Tryz.ntmps265
    go_wp2_with fail
    obtain ⟨a1,a2,a3,a4⟩:=al4 w (Obj.cells #[.int .i64 W,.int .i64 H,.slice ao zs.length ca] 54) (Obj.cells #[.int .i64 phase] 3) (Obj.cells (qilW m) 47) (Obj.cells #[.int .i64 0,.int .i64 0,.slice none 0 0] 54)
    have hB:=be4 w (Obj.cells #[.int .i64 W,.int .i64 H,.slice ao zs.length ca] 54) (Obj.cells #[.int .i64 phase] 3) (Obj.cells (qilW m) 47) (Obj.cells #[.int .i64 0,.int .i64 0,.slice none 0 0] 54)
    have hs3:((((w.alloc (Obj.cells #[.int .i64 W,.int .i64 H,.slice ao zs.length ca] 54)).alloc (Obj.cells #[.int .i64 phase] 3)).alloc (Obj.cells (qilW m) 47)).alloc (Obj.cells #[.int .i64 0,.int .i64 0,.slice none 0 0] 54)).heap.size=w.heap.size+4:=by simp
    generalize (((w.alloc (Obj.cells #[.int .i64 W,.int .i64 H,.slice ao zs.length ca] 54)).alloc (Obj.cells #[.int .i64 phase] 3)).alloc (Obj.cells (qilW m) 47)).alloc (Obj.cells #[.int .i64 0,.int .i64 0,.slice none 0 0] 54)=U at *
    refine (XeC7 W H _ zs _ (HV.out.below hB (Nat.le_refl _))).mono ?_
    rintro e w1 ⟨rfl,hb1⟩
    rw[hp]
    have g4:=(hb1.block (w.heap.size+3) (by omega)).trans a4
    have g2:=bx1 ((hb1.block (w.heap.size+1) (by omega)).trans a2)
    go_wp2_with fail
    refine (qtgz _ _).mono ?_
    rintro e w2 ⟨rfl,hb2⟩
    rw[hph]
    clear g2
    replace hb2:=quJN hb1 hb2
    replace g4:=(hb2.block (w.heap.size+3) (by omega)).trans a4
    obtain ⟨n0,n1,n2⟩:=z5EY (b:=w.heap.size+1+1) ((hb2.block (w.heap.size+2) (by omega)).trans a3)
    go_wp2_with fail
    refine (XByj m _).mono ?_
    rintro e w2b ⟨rfl,hb2b⟩
    rw[hgn]
    clear n0 n1 n2
    replace hb2:=quJN hb2 hb2b
    clear hb2b
    generalize w2b=w2 at *
    replace g4:=(hb2.block (w.heap.size+3) (by omega)).trans a4
    obtain ⟨z0,z1,z2⟩:=z5EY (b:=w.heap.size+1+1+1) g4
    have f0:=Lib.frozen_of_heap (b:=w.heap.size+1+1+1) g4 0
    have f1:=Lib.frozen_of_heap (b:=w.heap.size+1+1+1) g4 1
    have f2:=Lib.frozen_of_heap (b:=w.heap.size+1+1+1) g4 2
    have HFIN:=hide (zHqh (hB.trans (hb2.mono hB.size)) (show w.heap.size≤w.heap.size+1+1+1 by omega) (.int .i64 0) (.int .i64 0) (.slice none 0 0))
    go_wp2
    exact bodyPost_ret (v:=.tuple #[.agg #[.int .i64 0,.int .i64 0,.slice none 0 0],.int .i64 3]) (by simp[results,Tryz.results265,go_sem,z0,z1,z2]) rfl ⟨.slice none 0 0,rfl,jCvT.nil _,HFIN.out,Fresh.nil _⟩
  ·have he:E=3:=by rw[←hE,gaiE,if_pos hp,if_neg (fun h=>hph h.1)]
   have hph:qdne phase=false:=by simpa using hph
   subst he
   clear hE
   obtain ⟨ao,ca,rfl,_,_⟩:=hv
   go_enter Tryz.func265,Tryz.ntmps265
   go_wp2_with fail
   obtain ⟨a1,a2,a3,a4⟩:=al4 w (Obj.cells #[.int .i64 W,.int .i64 H,.slice ao zs.length ca] 54) (Obj.cells #[.int .i64 phase] 3) (Obj.cells (qilW m) 47) (Obj.cells #[.int .i64 0,.int .i64 0,.slice none 0 0] 54)
   have hB:=be4 w (Obj.cells #[.int .i64 W,.int .i64 H,.slice ao zs.length ca] 54) (Obj.cells #[.int .i64 phase] 3) (Obj.cells (qilW m) 47) (Obj.cells #[.int .i64 0,.int .i64 0,.slice none 0 0] 54)
   have hs3:((((w.alloc (Obj.cells #[.int .i64 W,.int .i64 H,.slice ao zs.length ca] 54)).alloc (Obj.cells #[.int .i64 phase] 3)).alloc (Obj.cells (qilW m) 47)).alloc (Obj.cells #[.int .i64 0,.int .i64 0,.slice none 0 0] 54)).heap.size=w.heap.size+4:=by simp
   generalize (((w.alloc (Obj.cells #[.int .i64 W,.int .i64 H,.slice ao zs.length ca] 54)).alloc (Obj.cells #[.int .i64 phase] 3)).alloc (Obj.cells (qilW m) 47)).alloc (Obj.cells #[.int .i64 0,.int .i64 0,.slice none 0 0] 54)=U at *
   refine (XeC7 W H _ zs _ (HV.out.below hB (Nat.le_refl _))).mono ?_
   rintro e w1 ⟨rfl,hb1⟩
   rw[hp]
   have g4:=(hb1.block (w.heap.size+3) (by omega)).trans a4
   have g2:=bx1 ((hb1.block (w.heap.size+1) (by omega)).trans a2)
   go_wp2_with fail
   refine (qtgz _ _).mono ?_
   rintro e w2 ⟨rfl,hb2⟩
   rw[hph]
   clear g2
   replace hb2:=quJN hb1 hb2
   replace g4:=(hb2.block (w.heap.size+3) (by omega)).trans a4
   obtain ⟨z0,z1,z2⟩:=z5EY (b:=w.heap.size+1+1+1) g4
   have f0:=Lib.frozen_of_heap (b:=w.heap.size+1+1+1) g4 0
   have f1:=Lib.frozen_of_heap (b:=w.heap.size+1+1+1) g4 1
   have f2:=Lib.frozen_of_heap (b:=w.heap.size+1+1+1) g4 2
   have HFIN:=hide (zHqh (hB.trans (hb2.mono hB.size)) (show w.heap.size≤w.heap.size+1+1+1 by omega) (.int .i64 0) (.int .i64 0) (.slice none 0 0))
   go_wp2
   exact bodyPost_ret (v:=.tuple #[.agg #[.int .i64 0,.int .i64 0,.slice none 0 0],.int .i64 3]) (by simp[results,Tryz.results265,go_sem,z0,z1,z2]) rfl ⟨.slice none 0 0,rfl,jCvT.nil _,HFIN.out,Fresh.nil _⟩
 ·have he:E=1:=by rw[←hE,gaiE,if_neg hp]
  have hp:q0fM W H zs=false:=by simpa using hp
  subst he
  clear hE
  obtain ⟨ao,ca,rfl,_,_⟩:=hv
  go_enter Tryz.func265,Tryz.ntmps265
  go_wp2_with fail
  obtain ⟨a1,a2,a3,a4⟩:=al4 w (Obj.cells #[.int .i64 W,.int .i64 H,.slice ao zs.length ca] 54) (Obj.cells #[.int .i64 phase] 3) (Obj.cells (qilW m) 47) (Obj.cells #[.int .i64 0,.int .i64 0,.slice none 0 0] 54)
  have hB:=be4 w (Obj.cells #[.int .i64 W,.int .i64 H,.slice ao zs.length ca] 54) (Obj.cells #[.int .i64 phase] 3) (Obj.cells (qilW m) 47) (Obj.cells #[.int .i64 0,.int .i64 0,.slice none 0 0] 54)
  have hs3:((((w.alloc (Obj.cells #[.int .i64 W,.int .i64 H,.slice ao zs.length ca] 54)).alloc (Obj.cells #[.int .i64 phase] 3)).alloc (Obj.cells (qilW m) 47)).alloc (Obj.cells #[.int .i64 0,.int .i64 0,.slice none 0 0] 54)).heap.size=w.heap.size+4:=by simp
  generalize (((w.alloc (Obj.cells #[.int .i64 W,.int .i64 H,.slice ao zs.length ca] 54)).alloc (Obj.cells #[.int .i64 phase] 3)).alloc (Obj.cells (qilW m) 47)).alloc (Obj.cells #[.int .i64 0,.int .i64 0,.slice none 0 0] 54)=U at *
  refine (XeC7 W H _ zs _ (HV.out.below hB (Nat.le_refl _))).mono ?_
  rintro e w1 ⟨rfl,hb1⟩
  rw[hp]
  have g4:=(hb1.block (w.heap.size+3) (by omega)).trans a4
  generalize w1=w2 at *
  have hb2:=hb1
  obtain ⟨z0,z1,z2⟩:=z5EY (b:=w.heap.size+1+1+1) g4
  have f0:=Lib.frozen_of_heap (b:=w.heap.size+1+1+1) g4 0
  have f1:=Lib.frozen_of_heap (b:=w.heap.size+1+1+1) g4 1
  have f2:=Lib.frozen_of_heap (b:=w.heap.size+1+1+1) g4 2
  have HFIN:=hide (zHqh (hB.trans (hb2.mono hB.size)) (show w.heap.size≤w.heap.size+1+1+1 by omega) (.int .i64 0) (.int .i64 0) (.slice none 0 0))
  go_wp2
  exact bodyPost_ret (v:=.tuple #[.agg #[.int .i64 0,.int .i64 0,.slice none 0 0],.int .i64 1]) (by simp[results,Tryz.results265,go_sem,z0,z1,z2]) rfl ⟨.slice none 0 0,rfl,jCvT.nil _,HFIN.out,Fresh.nil _⟩
end Go.Proofs.YtfjeonehdlphiaaGreatDoor
namespace Go.Proofs.YtfjeonehdlphiaaGreatDoor
open Go.RowKit Go.Shelf
attribute [local go_sem] Oper.semAt_some
def crDx (k:Nat):Int:=if k=1 then -2 else if k=2 then 2 else 0
def crDy (k:Nat):Int:=if k=0 then -2 else if k=3 then 2 else 0
def crX (X:Nat) (x:Fin 4):Int:=(X:Int)+crDx x.1
def crY (Y:Nat) (x:Fin 4):Int:=(Y:Int)+crDy x.1
theorem cr0 (w:World):(Instr.index 296 (.agg #[.int .i64 0,.int .i64 (-2),.int .i64 (-2),.int .i64 0,.int .i64 2,.int .i64 0,.int .i64 0,.int .i64 2]) (.int .i64 0)).run Tryz.prog w=.ok (.agg #[.int .i64 0,.int .i64 (-2)]) w:=by kernel_rfl
theorem cr1 (w:World):(Instr.index 296 (.agg #[.int .i64 0,.int .i64 (-2),.int .i64 (-2),.int .i64 0,.int .i64 2,.int .i64 0,.int .i64 0,.int .i64 2]) (.int .i64 1)).run Tryz.prog w=.ok (.agg #[.int .i64 (-2),.int .i64 0]) w:=by kernel_rfl
theorem cr2 (w:World):(Instr.index 296 (.agg #[.int .i64 0,.int .i64 (-2),.int .i64 (-2),.int .i64 0,.int .i64 2,.int .i64 0,.int .i64 0,.int .i64 2]) (.int .i64 2)).run Tryz.prog w=.ok (.agg #[.int .i64 2,.int .i64 0]) w:=by kernel_rfl
theorem cr3 (w:World):(Instr.index 296 (.agg #[.int .i64 0,.int .i64 (-2),.int .i64 (-2),.int .i64 0,.int .i64 2,.int .i64 0,.int .i64 0,.int .i64 2]) (.int .i64 3)).run Tryz.prog w=.ok (.agg #[.int .i64 0,.int .i64 2]) w:=by kernel_rfl
theorem crAt (k:Nat) (hk:k<4) (w:World):(Instr.index 296 (.agg #[.int .i64 0,.int .i64 (-2),.int .i64 (-2),.int .i64 0,.int .i64 2,.int .i64 0,.int .i64 0,.int .i64 2]) (.int .i64 k)).run Tryz.prog w=.ok (.agg #[.int .i64 (crDx k),.int .i64 (crDy k)]) w:=by
 rcases (show k=0∨k=1∨k=2∨k=3 by omega) with rfl|rfl|rfl|rfl
 ·exact cr0 w
 ·exact cr1 w
 ·exact cr2 w
 ·exact cr3 w
theorem XGF8 (k:Nat):-2≤crDx k∧crDx k≤2:=by unfold crDx;split<;>(try split)<;>omega
theorem zVs0 (k:Nat):-2≤crDy k∧crDy k≤2:=by unfold crDy;split<;>(try split)<;>omega
theorem jDQt (F:Fence) (n:Nat) (hf:F.fn 262) (hro:F.round=none) (X Y far:Int) (w:World) :
  CallsIn F n Tryz.prog 262 #[.agg #[.int .i64 X,.int .i64 Y],.int .i64 far] w fun e w'=>e=.returned (.func (.func 263) #[] #[.pointer (some ⟨w.heap.size+1,0,none⟩),.pointer (some ⟨w.heap.size,0,none⟩)])∧w'=(w.alloc (.cells #[.int .i64 X,.int .i64 Y] 97)).alloc (.cells #[.int .i64 far] 3):=by
 refine callsIn_of_wp Tryz.func262 rfl hf ?_ hro
 simp only[Tryz.ntmps262,List.size_toArray,List.length_cons,List.length_nil,Nat.reduceAdd,Nat.reduceSub,Array.replicate_succ,Array.replicate_zero,List.push_toArray,List.append_toArray,List.nil_append,List.cons_append]
 gi_wp2
 go_ret
 exact ⟨rfl,rfl⟩
theorem zJ2U (F:Fence) (n:Nat) (hf:F.fn 263) (hro:F.round=none) (hn:1≤n) (l Bs Bf X Y:Nat) (hX:X≤64) (hY0:Y≤64) (J Jx:List (Fin 4)→World→Prop) (hJa:∀s W o,J s W→J s (W.alloc o))
  (hY:∀pre (x:Fin 4) V,J pre V→pre.length<4→YieldAt F (n-1) Tryz.prog l #[.agg #[.int .i64 (crX X x),.int .i64 (crY Y x)]] V fun e V' =>
   (e=.returned (.bool true)∧J (pre++[x]) V'∧KeepB Bs V V')∨(e=.returned (.bool false)∧Jx (pre++[x]) V'))
  (V:World) (hcf:V.cell? ⟨Bf,0,none⟩=some (.int .i64 2)) (hc0:V.cell? ⟨Bs,0,none⟩=some (.int .i64 X)) (hc1:V.cell? ⟨Bs,1,none⟩=some (.int .i64 Y)) (h0:J [] V) :
  CallsIn F n Tryz.prog 263 #[.func (.yield l) #[] #[],.pointer (some ⟨Bf,0,none⟩),.pointer (some ⟨Bs,0,none⟩)] V fun e V'=>(∃v,e=.returned v) ∧
   ((∃ys,ys=List.finRange 4∧J ys V')∨(∃pre,pre <+: List.finRange 4∧Jx pre V')):=by
 refine callsIn_of_wp Tryz.func263 rfl hf ?_ hro
 simp only[Tryz.ntmps263,List.size_toArray,List.length_cons,List.length_nil,Nat.reduceAdd,Nat.reduceSub,Array.replicate_succ,Array.replicate_zero,List.push_toArray,List.append_toArray,List.nil_append,List.cons_append]
 gi_wp2
 gi_loopw [17] (fun i wr=>∃(b:Nat),b≤4∧i=.int .i64 b∧J (idx 4 b) wr∧wr.cell? ⟨Bs,0,none⟩=some (.int .i64 X)∧wr.cell? ⟨Bs,1,none⟩=some (.int .i64 Y)) (fun i _=>4-(intOf i).toNat)
 case atStart=>exact ⟨0,by omega,rfl,h0,hc0,hc1⟩
 case round =>
  obtain ⟨b,hb,rfl,hJ,c0,c1⟩:=hrel
  clear hc0 hc1 h0 hcf
  have hbs:Bs<wr.heap.size:=World.block_lt_of_cell? wr _ c0
  by_cases hlt:b<4
  ·have hd:decide ((b:Int)<4)=true:=by simp;omega
   have hix:=crAt b hlt
   have hdx:=XGF8 b
   have hdy:=zVs0 b
   have hYx:=hY (idx 4 b) ⟨b,hlt⟩ (wr.alloc (Obj.cells #[.int .i64 (crDx b),.int .i64 (crDy b)] 97)) (hJa _ _ _ hJ) (by rw[zBZc _ _ (Nat.le_of_lt hlt)];exact hlt)
   simp only[crX,crY] at hYx
   have k0:=(World.cell?_of_block (a:=⟨Bs,0,none⟩) (Below.heap_alloc wr (Obj.cells #[.int .i64 (crDx b),.int .i64 (crDy b)] 97) Bs hbs)).trans c0
   have k1:=(World.cell?_of_block (a:=⟨Bs,1,none⟩) (Below.heap_alloc wr (Obj.cells #[.int .i64 (crDx b),.int .i64 (crDy b)] 97) Bs hbs)).trans c1
   have HSP:=hide (show idx 4 (b+1)=idx 4 b++[⟨b,hlt⟩] from zbJt 4 b hlt)
   have HPR:=hide (show idx 4 b++[⟨b,hlt⟩] <+: List.finRange 4 by rw[←zbJt 4 _ hlt];exact zq3o 4 _)
   obtain ⟨dx,hdxe⟩:∃dx,crDx b=dx:=⟨_,rfl⟩
   obtain ⟨dy,hdye⟩:∃dy,crDy b=dy:=⟨_,rfl⟩
   rw[hdxe] at hix hdx hYx k0 k1
   rw[hdye] at hix hdy hYx k0 k1
   obtain ⟨hdx1,hdx2⟩:=hdx
   obtain ⟨hdy1,hdy2⟩:=hdy
   obtain ⟨fn,tmps,assign,body,hy',hR⟩:=hYx
   clear hdxe hdye
   gi_wp2
   refine hR.mono ?_
   rintro e V3 (⟨rfl,hJ3,hk3⟩|⟨rfl,hJx3⟩)
   ·have c3:=(World.cell?_of_block (a:=⟨Bs,0,none⟩) hk3).trans k0
    have c4:=(World.cell?_of_block (a:=⟨Bs,1,none⟩) hk3).trans k1
    rw[←HSP.out] at hJ3
    gi_wp2
    go_roundw
    case rel=>exact ⟨b+1,by omega,by go_num,hJ3,c3,c4⟩
    case measure=>simp[intOf];omega
   ·gi_wp2
    refine bodyPost_ret (results_none rfl _ _ _) rfl ?_
    exact ⟨⟨_,rfl⟩,.inr ⟨_,HPR.out,hJx3⟩⟩
  ·obtain rfl:b=4:=by omega
   have hd:decide (((4:Nat):Int)<4)=false:=by simp
   gi_wp2
   go_end0
   exact ⟨⟨_,rfl⟩,.inl ⟨_,by rw[←jEoj],hJ⟩⟩
theorem X0rh (F:Fence) (n:Nat) (hf:F.fn 263) (hro:F.round=none) (hn:1≤n) (Bs Bf X Y:Nat) (hX:X≤64) (hY0:Y≤64) (w:World) (hBw:Bs<w.heap.size) (hBf:Bf<w.heap.size) (hcf:w.cell? ⟨Bf,0,none⟩=some (.int .i64 2))
  (hc0:w.cell? ⟨Bs,0,none⟩=some (.int .i64 X)) (hc1:w.cell? ⟨Bs,1,none⟩=some (.int .i64 Y)) :
  SeqStopsK F n Tryz.prog 263 #[.pointer (some ⟨Bf,0,none⟩),.pointer (some ⟨Bs,0,none⟩)] (fun x:Fin 4=>#[Value.agg #[.int .i64 (crX X x),.int .i64 (crY Y x)]]) (KeepB Bs) (fun ys=>ys=List.finRange 4) (fun pre=>pre <+: List.finRange 4) 4 w:=fun l J Jx V hV hJ _ hY h0 =>
 zJ2U F n hf hro hn l Bs Bf X Y hX hY0 J Jx (fun s W o h=>hJ s W (W.alloc o) none h (World.grownBy_alloc W o none) (fun r e=>by cases e)) hY V ((hV.cell (p:=⟨Bf,0,none⟩) hBf).trans hcf) ((hV.cell (p:=⟨Bs,0,none⟩) hBw).trans hc0) ((hV.cell (p:=⟨Bs,1,none⟩) hBw).trans hc1) h0
end Go.Proofs.YtfjeonehdlphiaaGreatDoor
