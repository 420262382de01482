/- Re: part 25 of what the proofs need. -/
import Derived.Test.YtfjeonehdlphiaaGreatDoorC2Re
import Derived.Test.YtfjeonehdlphiaaGreatDoorC6Re
import Derived.Test.YtfjeonehdlphiaaGreatDoorC19Re
import Derived.Deep.CutRange
open Go.Obj renaming cells → ka
open List renaming setIfInBounds_toArray → kb, set_cons_zero → kd, set_cons_succ → ke
open Array renaming getElem?_eq_some_iff → kc
open Go.Lib renaming frozen_of_heap → kf, cell_of_heap → kg
open Go.Act renaming put → kh
open Int renaming eq_ofNat_of_zero_le → ki
set_option linter.unusedVariables false
set_option maxHeartbeats 3200000
set_option maxRecDepth 100000
namespace Go.Proofs.YtfjeonehdlphiaaGreatDoor
open Go.RowKit
def qpi8 (m:Mv) (W H:Nat):Nat:=if m.1=true then H else W
theorem zk50 (m:Mv) (W H:Nat):qPp5 m W H=((qpi8 m W H:Nat):Int):=by unfold qPp5 qpi8;split<;>rfl
def srcN (m:Mv) (W H x y:Nat):Nat:=(srcY m H x y).toNat*W+(srcX m W x y).toNat
def turnP (ps:List Px) (W H:Nat) (m:Mv) (j:Nat):Px:=pxAt ps (srcN m W H (j % qpi8 m W H) (j / qpi8 m W H))
def turnL (W H:Nat) (ps:List Px) (m:Mv):List Px:=(List.range (qpi8 m H W*qpi8 m W H)).map (turnP ps W H m)
theorem src_in (m:Mv) (W H x y:Nat) (hx:x<qpi8 m W H) (hy:y<qpi8 m H W):(0≤srcX m W x y∧srcX m W x y<W)∧(0≤srcY m H x y∧srcY m H x y<H):=by
 obtain ⟨a,b,c⟩:=m
 unfold qpi8 at hx hy
 unfold srcX srcY
 cases a<;>cases b<;>cases c<;>simp at hx hy ⊢<;>omega
theorem XbU0 (W H X Y:Nat) (hW:W≤64) (hH:H≤64) (m:Mv) (hX:X<qpi8 m W H) (hY:Y<qpi8 m H W) (ps:List Px) (hlen:ps.length=H*W) (bk off ca Bq Bo Bm:Nat) (V:World) (hBq:Bq<V.heap.size) (hBo:Bo<V.heap.size) (hBm:Bm<V.heap.size) (hbk:bk<V.heap.size)
  (k2:V.cell? ⟨Bq,2,none⟩=some (.slice (some ⟨bk,off,none⟩) ps.length ca)) (o0:V.cell? ⟨Bo,0,none⟩=some (.int .i64 W)) (o1:V.cell? ⟨Bo,1,none⟩=some (.int .i64 H))
  (m0:V.cell? ⟨Bm,0,none⟩=some (.bool m.1)) (m1:V.cell? ⟨Bm,1,none⟩=some (.bool m.2.1)) (m2:V.cell? ⟨Bm,2,none⟩=some (.bool m.2.2))
  (hcell:∀j,j<ps.length→V.cell? ⟨bk,off+j*3,none⟩=some (.int .i64 (pxAt ps j).1)∧V.cell? ⟨bk,off+j*3+1,none⟩=some (.int .i64 (pxAt ps j).2.1)∧V.cell? ⟨bk,off+j*3+2,none⟩=some (.int .i64 (pxAt ps j).2.2)) :
  Calls Tryz.prog 61 #[.agg #[.int .i64 (X:Nat),.int .i64 (Y:Nat)],.pointer (some ⟨Bq,0,none⟩),.pointer (some ⟨Bo,0,none⟩),.pointer (some ⟨Bm,0,none⟩)] V fun e V'=>e=.returned (pixV (pxAt ps (srcN m W H X Y)))∧Below V.heap.size V V':=by
 obtain ⟨⟨s1,s2⟩,s3,s4⟩:=src_in m W H X Y hX hY
 have hx64:X≤64:=by unfold qpi8 at hX;split at hX<;>omega
 have hy64:Y≤64:=by unfold qpi8 at hY;split at hY<;>omega
 have HSO:=hide (fun (u:World)=>j1Mh m W H X Y ⟨by omega,by omega⟩ ⟨by omega,by omega⟩ ⟨by omega,by omega⟩ ⟨by omega,by omega⟩ u)
 have hK:srcN m W H X Y=(srcY m H X Y).toNat*W+(srcX m W X Y).toNat:=rfl
 obtain ⟨SX,hSX⟩:=ki s1
 obtain ⟨SY,hSY⟩:=ki s3
 rw[hSX,hSY] at HSO hK
 rw[hSX] at s2
 rw[hSY] at s4
 simp only[Int.toNat_natCast] at hK
 obtain ⟨k,hk⟩:∃k,srcN m W H X Y=k:=⟨_,rfl⟩
 rw[hk] at hK ⊢
 have hkl:k<ps.length:=by
  have h1:=Nat.mul_le_mul_right W (show SY+1≤H by omega)
  rw[Nat.add_mul,Nat.one_mul] at h1
  rw[hlen];omega
 have hl4:ps.length≤4096:=by rw[hlen];exact Nat.le_trans (Nat.mul_le_mul hH hW) (by decide)
 have HIX:=hide (fun (u:World)=>XSSj W H SX SY W k rfl hK.symm (by omega) u)
 obtain ⟨c0,c1,c2⟩:=hcell k hkl
 have hkI:(k:Int)<(ps.length:Int):=by omega
 generalize pxAt ps k=P at *
 obtain ⟨a,b,c⟩:=m
 simp only at m0 m1 m2
 clear hcell hk hK s1 s2 s3 s4 hSX hSY hX hY hlen
 obtain ⟨n1,n2⟩:=al2 V (ka #[.int .i64 (X:Nat),.int .i64 (Y:Nat)] 97) (ka #[.int .i64 0,.int .i64 0,.int .i64 0] 61)
 have HB:=hide (be2 V (ka #[.int .i64 (X:Nat),.int .i64 (Y:Nat)] 97) (ka #[.int .i64 0,.int .i64 0,.int .i64 0] 61))
 go_enter Tryz.func61,Tryz.ntmps61
 go_upto_region 1 with fail
 have hl1:=(kc.1 n1).1
 have hl2:=(kc.1 n2).1
 generalize (V.alloc (ka #[.int .i64 (X:Nat),.int .i64 (Y:Nat)] 97)).alloc (ka #[.int .i64 0,.int .i64 0,.int .i64 0] 61)=U at *
 have HS:=hide (show ∀v,Below U.heap.size U v→v.cell? ⟨Bq,2,none⟩=some (.slice (some ⟨bk,off,none⟩) ps.length ca)∧v.cell? ⟨Bo,0,none⟩=some (.int .i64 W)∧v.cell? ⟨Bo,1,none⟩=some (.int .i64 H)∧v.cell? ⟨Bm,0,none⟩=some (.bool a)∧v.cell? ⟨Bm,1,none⟩=some (.bool b)∧v.cell? ⟨Bm,2,none⟩=some (.bool c)∧v.cell? ⟨bk,off+k*3,none⟩=some (.int .i64 P.1)∧v.cell? ⟨bk,off+k*3+1,none⟩=some (.int .i64 P.2.1)∧v.cell? ⟨bk,off+k*3+2,none⟩=some (.int .i64 P.2.2)∧v.cell? ⟨V.heap.size,0,none⟩=some (.int .i64 (X:Nat))∧v.cell? ⟨V.heap.size,1,none⟩=some (.int .i64 (Y:Nat)) from fun v h=>by
  have hV:=HB.out.trans (h.mono HB.out.size)
  have hn:=(h.block _ hl1).trans n1
  exact ⟨(hV.cell (p:=⟨Bq,2,none⟩) hBq).trans k2,(hV.cell (p:=⟨Bo,0,none⟩) hBo).trans o0,(hV.cell (p:=⟨Bo,1,none⟩) hBo).trans o1,(hV.cell (p:=⟨Bm,0,none⟩) hBm).trans m0,(hV.cell (p:=⟨Bm,1,none⟩) hBm).trans m1,(hV.cell (p:=⟨Bm,2,none⟩) hBm).trans m2,(hV.cell (p:=⟨bk,off+k*3,none⟩) hbk).trans c0,(hV.cell (p:=⟨bk,off+k*3+1,none⟩) hbk).trans c1,(hV.cell (p:=⟨bk,off+k*3+2,none⟩) hbk).trans c2,by rw[kg hn];rfl,by rw[kg hn];rfl⟩)
 have hWd:Below U.heap.size U U.drew:=(Below.refl _ _).drew
 have hSd:=HS.out _ hWd
 clear k2 o0 o1 m0 m1 m2 c0 c1 c2
 have hmx:Tryz.prog.follows .mixedOrders=true:=by kernel_rfl
 refine qYgd (S:=fun v:World=>v.cell? ⟨Bq,2,none⟩=some (.slice (some ⟨bk,off,none⟩) ps.length ca)∧v.cell? ⟨Bo,0,none⟩=some (.int .i64 W)∧v.cell? ⟨Bo,1,none⟩=some (.int .i64 H)∧v.cell? ⟨Bm,0,none⟩=some (.bool a)∧v.cell? ⟨Bm,1,none⟩=some (.bool b)∧v.cell? ⟨Bm,2,none⟩=some (.bool c)∧v.cell? ⟨bk,off+k*3,none⟩=some (.int .i64 P.1)∧v.cell? ⟨bk,off+k*3+1,none⟩=some (.int .i64 P.2.1)∧v.cell? ⟨bk,off+k*3+2,none⟩=some (.int .i64 P.2.2)∧v.cell? ⟨V.heap.size,0,none⟩=some (.int .i64 (X:Nat))∧v.cell? ⟨V.heap.size,1,none⟩=some (.int .i64 (Y:Nat))) (f:=10) hmx ?_
 show jZdv _ _ _ _ _ _ 11 _ _ U.drew
 refine takeQ 0 ?vv1 (some 6) [] ?yy1 hSd ?rr1
 case yy1=>(intro wq hSq;obtain ⟨_,_,_,_,_,_,_,_,_,_,_⟩:=hSq;go_simp<;>with_reducible rfl)
 simp only[kh,kb,ke,kd]
 refine takeQ 2 ?vv2 (some 8) [] ?yy2 hSd ?rr2
 case yy2=>(intro wq hSq;obtain ⟨_,_,_,_,_,_,_,_,_,_,_⟩:=hSq;go_simp<;>with_reducible rfl)
 simp only[kh,kb,ke,kd]
 refine takeQ 3 ?vv3 (some 9) [] ?yy3 hSd ?rr3
 case yy3=>(intro wq hSq;obtain ⟨_,_,_,_,_,_,_,_,_,_,_⟩:=hSq;go_simp<;>with_reducible rfl)
 simp only[kh,kb,ke,kd]
 refine takeQ 4 ?vv4 (some 10) [] ?yy4 hSd ?rr4
 case yy4=>(intro wq hSq;obtain ⟨_,_,_,_,_,_,_,_,_,_,_⟩:=hSq;go_simp<;>with_reducible rfl)
 simp only[kh,kb,ke,kd]
 refine takeQ 5 ?vv5 (some 11) [] ?yy5 hSd ?rr5
 case yy5=>(intro wq hSq;obtain ⟨_,_,_,_,_,_,_,_,_,_,_⟩:=hSq;go_simp<;>with_reducible rfl)
 simp only[kh,kb,ke,kd]
 refine takeQ 1 ?vv6 (some 7) [] ?yy6 hSd ?rr6
 case yy6=>(intro wq hSq;obtain ⟨_,_,_,_,_,_,_,_,_,_,_⟩:=hSq;go_simp<;>with_reducible rfl)
 simp only[kh,kb,ke,kd]
 refine znWj (i:=6) (o:=_) (by kernel_rfl) rfl (fun K' hK=>?_)
 rw[if_pos (by rfl)]
 go_simp
 refine (HSO.out _).mono ?_
 rintro e V1 ⟨rfl,hbvV1⟩
 have hBV1:Below U.heap.size U V1:=hWd.trans (hbvV1.mono hWd.size)
 have hSd:=HS.out _ hBV1
 refine hK.out _ _ hSd ?_
 clear hK
 try simp only[kh]
 refine znWj (i:=7) (o:=_) (by kernel_rfl) rfl (fun K' hK=>?_)
 rw[if_pos (by rfl)]
 go_simp
 refine (HIX.out _).mono ?_
 rintro e V2 ⟨rfl,hbvV2⟩
 have hBV2:Below U.heap.size U V2:=hBV1.trans (hbvV2.mono hBV1.size)
 have hSd:=HS.out _ hBV2
 refine hK.out _ _ hSd ?_
 clear hK
 try simp only[kh]
 refine takeQ 8 ?vv7 (some 14) [] ?yy7 hSd ?rr7
 case yy7=>(intro wq hSq;obtain ⟨_,_,_,_,_,_,_,_,_,_,_⟩:=hSq;go_simp<;>with_reducible rfl)
 simp only[kh,kb,ke,kd]
 refine takeQ 9 ?vv8 (some 15) [] ?yy8 hSd ?rr8
 case yy8=>(intro wq hSq;obtain ⟨_,_,_,_,_,_,_,_,_,_,_⟩:=hSq;go_simp<;>with_reducible rfl)
 simp only[kh,kb,ke,kd]
 refine z9gO (o:=_) (by kernel_rfl) rfl (fun K' hK=>?_)
 have g:=(hBV2.block _ hl2).trans n2
 obtain ⟨z0,z1,z2⟩:=z5EY (b:=V.heap.size+1) g
 have f0:=kf (b:=V.heap.size+1) g 0
 have f1:=kf (b:=V.heap.size+1) g 1
 have f2:=kf (b:=V.heap.size+1) g 2
 rw[if_pos (by rfl)]
 go_simp
 refine hK.out _ _ ?_
 clear hK
 refine jFdp (by kernel_rfl) ?_ _
 try simp only[kh]
 clear hSd
 have HF:=hide (zHqh (HB.out.trans (hBV2.mono HB.out.size)) (show V.heap.size≤V.heap.size+1 by omega) (.int .i64 P.1) (.int .i64 P.2.1) (.int .i64 P.2.2))
 go_wp2
 exact bodyPost_ret (v:=.agg #[.int .i64 P.1,.int .i64 P.2.1,.int .i64 P.2.2]) (by simp[results,Tryz.results61,go_sem,z0,z1,z2]) rfl ⟨rfl,HF.out⟩
def turnE (W H:Int) (ps:List Px) (how:Int):Int:=if picOk W H ps=true then howE how else 1
theorem jxQZ {how:Int} (h:howOk how=true):∃k:Nat,k<8∧how=(k:Int)+1∧mvOf how=mvAt k:=by
 have hh:1≤how∧how≤8:=by simpa [howOk] using h
 refine ⟨how.toNat-1,by omega,by omega,by rw[mvOf,if_pos h]⟩
theorem qkkF {m:Mv} {W H:Nat} (hW:W≤64) (hH:H≤64):qpi8 m W H≤64:=by unfold qpi8;split<;>assumption
theorem qgS2 (W H:Int) (v:Value) (ps:List Px) (how:Int) (w:World) (hm:zR7W w) (hv:IsPix w v ps) :
  Calls Tryz.prog 18 #[.agg #[.int .i64 W,.int .i64 H,v],.int .i64 how] w fun e w'=>∃r,e=.returned (.tuple #[.agg #[.int .i64 (okW (turnE W H ps how) (qPp5 (mvOf how) W H)),.int .i64 (okW (turnE W H ps how) (qPp5 (mvOf how) H W)),r],.int .i64 (turnE W H ps how)])∧IsPix w' r (okL (turnE W H ps how) (turnL W.toNat H.toNat ps (mvOf how)))∧Below w.heap.size w w'∧Fresh w.heap.size r∧Free w' r:=by
 have HM:=hide hm
 have HV:=hide hv
 obtain ⟨ao,ca,rfl,hla,hc⟩:=hv
 clear hm
 obtain ⟨a1,a2⟩:=al2 w (ka #[.int .i64 W,.int .i64 H,.slice ao ps.length ca] 24) (ka #[.int .i64 0,.int .i64 0,.slice none 0 0] 24)
 have HB:=hide (be2 w (ka #[.int .i64 W,.int .i64 H,.slice ao ps.length ca] 24) (ka #[.int .i64 0,.int .i64 0,.slice none 0 0] 24))
 have HTE:=hide (show turnE W H ps how=if picOk W H ps=true then howE how else 1 from rfl)
 obtain ⟨E,hE⟩:∃E,turnE W H ps how=E:=⟨_,rfl⟩
 rw[hE] at HTE ⊢
 clear hE
 obtain ⟨M,hMV⟩:∃M,mvOf how=M:=⟨_,rfl⟩
 rw[hMV]
 have HMV:=hide hMV
 clear hMV
 have hl1:=(kc.1 a1).1
 have hl2:=(kc.1 a2).1
 have ERR:∀(V:World) (E:Int),E≠0→Below w.heap.size w V→∃r,(Ending.returned (.tuple #[.agg #[.int .i64 0,.int .i64 0,.slice none 0 0],.int .i64 E])=.returned (.tuple #[.agg #[.int .i64 (okW E (qPp5 (M) W H)),.int .i64 (okW E (qPp5 (M) H W)),r],.int .i64 E]))∧IsPix V r (okL E (turnL W.toNat H.toNat ps (M)))∧Below w.heap.size w V∧Fresh w.heap.size r∧Free V r:=fun V E hE hB=>by
  refine ⟨.slice none 0 0,?_,?_,hB,Fresh.nil _,Free.nil _⟩
  ·rw[okW,if_neg hE,okW,if_neg hE]
  ·rw[okL,if_neg hE];exact IsPix.nil _
 have HERR:=hide ERR
 clear ERR
 go_enter Tryz.func18,Tryz.ntmps18
 obtain ⟨p0,p1,p2⟩:=z5EY a1
 go_wp2_with fail
 clear p0 p1 p2
 generalize (w.alloc (ka #[.int .i64 W,.int .i64 H,.slice ao ps.length ca] 24)).alloc (ka #[.int .i64 0,.int .i64 0,.slice none 0 0] 24)=U at *
 refine (XDTU W H _ ps _ (HV.out.below HB.out (Nat.le_refl _))).mono ?_
 rintro e V1 ⟨rfl,hb1⟩
 have HB1:=hide (HB.out.trans (hb1.mono HB.out.size))
 by_cases hp:picOk W H ps=true
 case neg =>
  rw[if_neg hp] at HTE
  have hp2:picOk W H ps=false:=by simpa using hp
  obtain rfl:E=1:=HTE.out
  rw[hp2]
  have g:=(hb1.block _ hl2).trans a2
  obtain ⟨z0,z1,z2⟩:=z5EY g
  have f0:=kf g 0
  have f1:=kf g 1
  have f2:=kf g 2
  have HF:=hide (zHqh HB1.out (show w.heap.size≤w.heap.size+1 by omega) (.int .i64 0) (.int .i64 0) (.slice none 0 0))
  go_wp2
  exact bodyPost_ret (v:=.tuple #[.agg #[.int .i64 0,.int .i64 0,.slice none 0 0],.int .i64 1]) (by simp[results,Tryz.results18,go_sem,z0,z1,z2]) rfl (HERR.out _ 1 (by decide) HF.out)
 rw[if_pos hp] at HTE
 rw[hp]
 obtain ⟨hg1,hg2,hg3,hg4⟩:=XMjn hp
 go_wp2_with fail
 by_cases hk:howOk how=true
 case neg =>
  have hk2:howOk how=false:=by simpa using hk
  obtain rfl:E=3:=by rw[HTE.out,howE,if_neg hk]
  refine (qUbR how hk2 V1).mono ?_
  rintro e V2 ⟨rfl,hb2⟩
  have hb2':=quJN (quJN hb1 hb2) (qUNz V2 (ka #[.bool false,.bool false,.bool false] 119))
  have g:=(hb2'.block _ hl2).trans a2
  obtain ⟨z0,z1,z2⟩:=z5EY g
  have f0:=kf g 0
  have f1:=kf g 1
  have f2:=kf g 2
  have HF:=hide (zHqh (HB.out.trans (hb2'.mono HB.out.size)) (show w.heap.size≤w.heap.size+1 by omega) (.int .i64 0) (.int .i64 0) (.slice none 0 0))
  go_wp2
  exact bodyPost_ret (v:=.tuple #[.agg #[.int .i64 0,.int .i64 0,.slice none 0 0],.int .i64 3]) (by simp[results,Tryz.results18,go_sem,z0,z1,z2]) rfl (HERR.out _ 3 (by decide) HF.out)
 obtain rfl:E=0:=by rw[HTE.out,howE,if_pos hk]
 obtain ⟨k,hk8,rfl,hmv⟩:=jxQZ hk
 have hMk:=hmv.symm.trans HMV.out
 obtain ⟨WN,rfl⟩:=ki (show 0≤W by omega)
 obtain ⟨HN,rfl⟩:=ki (show 0≤H by omega)
 have hlen:ps.length=HN*WN:=by rw[Nat.mul_comm];exact_mod_cast hg3
 have hW64:WN≤64:=by omega
 have hH64:HN≤64:=by omega
 have hpos:1≤ps.length:=by rw[hlen];exact Nat.mul_le_mul (show 1≤HN by omega) (show 1≤WN by omega)
 have HLEN:=hide hlen
 clear hg1 hg2 hg3 hg4 hlen HERR HTE hk hp hmv
 refine (qq5i k hk8 V1 (HM.out.below HB1.out (Nat.le_refl _))).mono ?_
 rintro e V2 ⟨rfl,hb2⟩
 rw[hMk]
 clear hMk HMV
 obtain ⟨x,y,z⟩:=M
 have b1:=al2 V2 (ka #[.bool x,.bool y,.bool z] 119) (ka #[.int .i64 (WN:Int),.int .i64 (HN:Int)] 95)
 have HB2:=quJN (quJN hb1 hb2) (be2 V2 (ka #[.bool x,.bool y,.bool z] 119) (ka #[.int .i64 (WN:Int),.int .i64 (HN:Int)] 95))
 obtain ⟨p0,p1,p2⟩:=z5EY (((quJN (quJN hb1 hb2) (qUNz V2 (ka #[.bool x,.bool y,.bool z] 119))).block _ hl1).trans a1)
 go_wp2_with fail
 clear p0 p1 p2
 obtain ⟨c1,c2⟩:=b1
 have hlc1:=(kc.1 c1).1
 have hlc2:=(kc.1 c2).1
 have hV2:=(quJN hb1 hb2).size
 generalize (V2.alloc (ka #[.bool x,.bool y,.bool z] 119)).alloc (ka #[.int .i64 (WN:Int),.int .i64 (HN:Int)] 95)=X at *
 generalize V2.heap.size=MB at *
 have HBX:=hide (HB.out.trans (HB2.mono HB.out.size))
 refine (zPoh (x,y,z) WN HN X).mono ?_
 rintro e V3 ⟨rfl,hb3⟩
 rw[zk50,zk50]
 go_wp2_with fail
 have hVX:=quJN HB2 hb3
 refine (qNgU (qpi8 (x,y,z) WN HN) (qpi8 (x,y,z) HN WN) (qpi8 (x,y,z) HN WN*qpi8 (x,y,z) WN HN) (qkkF hW64 hH64) (qkkF hH64 hW64) rfl 61 _ (turnP ps WN HN (x,y,z)) V3 (enters_of Tryz.func61 (by kernel_rfl) rfl) ?_).mono ?_
 ·intro j V hj hV
  have hT:0<qpi8 (x,y,z) WN HN:=by
   rcases Nat.eq_zero_or_pos (qpi8 (x,y,z) WN HN) with h0|h0
   ·rw[h0] at hj;simp at hj
   ·exact h0
  have hXV:=quJN hb3 hV
  have hUV:=quJN HB2 hXV
  have hwV:=HB.out.trans (hUV.mono HB.out.size)
  have g1:=(hUV.block _ hl1).trans a1
  have g2:=(hXV.block _ hlc1).trans c1
  have g3:=(hXV.block _ hlc2).trans c2
  have hs:=hXV.size
  have hs2:=hwV.size
  obtain ⟨bk,off,hao,hbl,hcell⟩:∃b off,ao=some ⟨b,off,none⟩∧b<w.heap.size∧∀j (h:j<ps.length),w.cell? ⟨b,off+j*3,none⟩=some (.int .i64 ps[j].1)∧w.cell? ⟨b,off+j*3+1,none⟩=some (.int .i64 ps[j].2.1)∧w.cell? ⟨b,off+j*3+2,none⟩=some (.int .i64 ps[j].2.2):=by
   rcases hc with h|h
   ·rw[h] at hpos;simp at hpos
   ·exact h
  subst hao
  obtain ⟨q0,q1,q2⟩:=z5EY g1
  obtain ⟨r0,r1,r2⟩:=z5EY g2
  refine XbU0 WN HN (j % qpi8 (x,y,z) WN HN) (j / qpi8 (x,y,z) WN HN) hW64 hH64 (x,y,z) (Nat.mod_lt _ hT) (Nat.div_lt_of_lt_mul (by rw[Nat.mul_comm];exact hj)) ps HLEN.out bk off ca w.heap.size (MB+1) MB V (by omega) (by omega) (by omega) (by omega) q2 (by rw[kg g3];rfl) (by rw[kg g3];rfl) r0 r1 r2 (fun i hi=>?_)
  obtain ⟨e0,e1,e2⟩:=hcell i hi
  rw[jD3W ps i hi] at e0 e1 e2
  exact ⟨(hwV.cell (p:=⟨bk,off+i*3,none⟩) hbl).trans e0,(hwV.cell (p:=⟨bk,off+i*3+1,none⟩) hbl).trans e1,(hwV.cell (p:=⟨bk,off+i*3+2,none⟩) hbl).trans e2⟩
 ·rintro e V4 ⟨r,rfl,hr,hb4,hfr,hfe⟩
  have HR:=hide hr
  obtain ⟨ro,rc,rfl,x1,x2⟩:=hr
  clear x1 x2
  rw[List.length_map,List.length_range] at HR hfr hfe ⊢
  have hB4:=quJN hVX hb4
  have g:=(hB4.block _ hl2).trans a2
  obtain ⟨z0,z1,z2⟩:=z5EY g
  have f0:=kf g 0
  have f1:=kf g 1
  have f2:=kf g 2
  have hs3:=hVX.size
  have HX:=hide (HR.out.set3 hfr (show w.heap.size+1<V3.heap.size by omega) (.int .i64 ((qpi8 (x,y,z) WN HN:Nat):Int)) (.int .i64 ((qpi8 (x,y,z) HN WN:Nat):Int)) (.slice ro (qpi8 (x,y,z) HN WN*qpi8 (x,y,z) WN HN) rc))
  have HFE:=hide (hfe.set3 hfr (show w.heap.size+1<V3.heap.size by omega) (.int .i64 ((qpi8 (x,y,z) WN HN:Nat):Int)) (.int .i64 ((qpi8 (x,y,z) HN WN:Nat):Int)) (.slice ro (qpi8 (x,y,z) HN WN*qpi8 (x,y,z) WN HN) rc))
  have HF:=hide (zHqh (HB.out.trans (hB4.mono HB.out.size)) (show w.heap.size≤w.heap.size+1 by omega) (.int .i64 ((qpi8 (x,y,z) WN HN:Nat):Int)) (.int .i64 ((qpi8 (x,y,z) HN WN:Nat):Int)) (.slice ro (qpi8 (x,y,z) HN WN*qpi8 (x,y,z) WN HN) rc))
  have HFR:=hide (hfr.mono (show w.heap.size≤V3.heap.size by have:=HB.out.size;omega))
  go_wp2
  refine bodyPost_ret (v:=.tuple #[.agg #[.int .i64 ((qpi8 (x,y,z) WN HN:Nat):Int),.int .i64 ((qpi8 (x,y,z) HN WN:Nat):Int),(.slice ro (qpi8 (x,y,z) HN WN*qpi8 (x,y,z) WN HN) rc)],.int .i64 0]) (by simp[results,Tryz.results18,go_sem,z0,z1,z2]) rfl ⟨_,?_,HX.out,HF.out,HFR.out,HFE.out⟩
  rw[zk50,zk50]
  rfl
theorem j7xa {w:World} {b off:Nat} {ps:List Px} (hc:∀j,j<ps.length→w.cell? ⟨b,off+j*3,none⟩=some (.int .i64 (pxAt ps j).1)∧w.cell? ⟨b,off+j*3+1,none⟩=some (.int .i64 (pxAt ps j).2.1)∧w.cell? ⟨b,off+j*3+2,none⟩=some (.int .i64 (pxAt ps j).2.2)) :
  ∀j u,(ps.flatMap pixL)[j]?=some u→w.cell? ((⟨b,off,none⟩:Addr).add j)=some u:=by
 intro j u hj
 rw[Addr.add_lit]
 have hj3:j<ps.length*3:=by rw[←Xqg0];exact (List.getElem?_eq_some_iff.1 hj).1
 obtain ⟨g0,g1,g2⟩:=zgQy ps (j / 3) (by omega)
 obtain ⟨d0,d1,d2⟩:=hc (j / 3) (by omega)
 rw[←jD3W ps (j / 3) (by omega)] at d0 d1 d2
 rcases (show j % 3=0∨j % 3=1∨j % 3=2 by omega) with h|h|h
 ·have e:j=j / 3*3:=by omega
  rw[e] at hj ⊢
  rw[←Option.some.inj (g0.symm.trans hj)];exact d0
 ·have e:j=j / 3*3+1:=by omega
  rw[e] at hj ⊢
  rw[←Option.some.inj (g1.symm.trans hj),←Nat.add_assoc];exact d1
 ·have e:j=j / 3*3+2:=by omega
  rw[e] at hj ⊢
  rw[←Option.some.inj (g2.symm.trans hj),←Nat.add_assoc];exact d2
theorem zAqK (ps:List Px):∀u∈ps.flatMap pixL,u.oneCell'=true:=by
 intro u hu
 obtain ⟨p,_,hu⟩:=List.mem_flatMap.1 hu
 simp only[pixL,List.mem_cons,List.not_mem_nil,or_false] at hu
 rcases hu with rfl|rfl|rfl<;>rfl
end Go.Proofs.YtfjeonehdlphiaaGreatDoor
