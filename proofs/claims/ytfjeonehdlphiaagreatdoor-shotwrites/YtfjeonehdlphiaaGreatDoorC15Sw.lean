/- Sw: part 15 of what the proofs need. -/
import Derived.Test.YtfjeonehdlphiaaGreatDoorC4Sw
import Derived.Test.YtfjeonehdlphiaaGreatDoorC13Sw
import Derived.Test.YtfjeonehdlphiaaGreatDoorC14Sw
set_option linter.unusedVariables false
set_option maxHeartbeats 1600000
set_option maxRecDepth 100000
namespace Go.Proofs.YtfjeonehdlphiaaGreatDoor
open Go.RowKit
def zRow (zs:List Int) (n:Nat):List Value:=zs.map (Value.int .i64)++List.replicate (n-zs.length) (.int .i64 0)
theorem jzzU (n:Nat):zRow [] n=(madeCells (Value.int .i64 0).cells (n*1)).toList:=by
 rw[show (Value.int .i64 0).cells=#[Value.int .i64 0] from rfl,toList_madeCells_one];simp[zRow]
theorem jAtW (zs:List Int) (n:Nat) (h:zs.length<n):(zRow zs n)[zs.length]?=some (.int .i64 0):=by
 rw[zRow,List.getElem?_append_right (by simp),List.length_map,Nat.sub_self,List.getElem?_replicate,if_pos (by omega)]
theorem zcMl (zs:List Int) (n k:Nat) (hk:zs.length=k) (h:k<n):(zRow zs n)[k]?=some (.int .i64 0):=by subst hk;exact jAtW zs n h
theorem zCOE (zs:List Int) (n k:Nat) (x:Int) (hk:zs.length=k) (h:k<n):(zRow zs n).set k (.int .i64 x)=zRow (zs++[x]) n:=by
 subst hk
 rw[zRow,zRow,List.set_append_right _ _ (by simp),List.length_map,Nat.sub_self,show n-zs.length=(n-(zs.length+1))+1 by omega,List.replicate_succ,List.set_cons_zero]
 simp
theorem qOss (zs:List Int):zRow zs zs.length=zs.map (Value.int .i64):=by simp[zRow]
theorem zFUk (zs:List Int) (n:Nat):zRow zs n=(zs++List.replicate (n-zs.length) 0).map (Value.int .i64):=by simp[zRow]
theorem pad_ok (zs:List Int) (m:Nat) (h:qLlL zs=true):qLlL (zs++List.replicate m 0)=true:=by
 rw[qLlL,List.all_append,Bool.and_eq_true]
 refine ⟨h,?_⟩
 rw[List.all_eq_true]
 intro x hx
 rw[List.eq_of_mem_replicate hx];rfl
theorem zqPj (s:ByteArray) (W H:Nat) (kind:Int) (v:Value) (xs:List Int) (w:World) (hv:jCvT w v xs) (hW:jbTy W=true) (hH:jbTy H=true) (hk:qkcw kind=true) (hE:qO3F xs=0) (hlen:s.size≤(W*H*30+7) / 8) :
  Calls Tryz.prog 167 #[.string s,.int .i64 W,.int .i64 H,.int .i64 kind,v] w fun e w'=>∃r,e=.returned (.tuple #[.agg #[.int .i64 (qYDS s.data.toList W H kind xs),.int .i64 (jHG5 s.data.toList W H kind xs),r],.int .i64 (qaPw s.data.toList W H kind xs)])∧jCvT w' r (jNAw s.data.toList W H kind xs)∧Below w.heap.size w w':=by
 obtain ⟨hl1,hl2,hok,_,_⟩:=zF8D hE
 obtain ⟨i0,hi,hz0,hz1,hz2⟩:=info_parts Tryz.infoInt
 have b1:1≤(W:Int)∧(W:Int)≤64:=by simpa [jbTy] using hW
 have b2:1≤(H:Int)∧(H:Int)≤64:=by simpa [jbTy] using hH
 have b3:=zAFj b1 b2
 obtain ⟨b1,b1'⟩:=b1
 obtain ⟨b2,b2'⟩:=b2
 obtain ⟨N,hN⟩:∃N,W*H=N:=⟨_,rfl⟩
 have hNi:(W:Int)*(H:Int)=(N:Int):=by rw[←hN];simp
 rw[hNi] at b3
 rw[hN] at hlen
 have HRN:=hide (qgx6 (s:=s.data.toList) (kind:=kind) (xs:=xs) hN)
 have HRS:=hide (fun pos zs=>j6Nr (s:=s.data.toList) (kind:=kind) (xs:=xs) (zs:=zs) (pos:=pos) hN (by rw[qAMg];exact hlen))
 have HRE:=hide (show qaPw s.data.toList W H kind xs=if (readD s.data.toList W H kind xs).isSome=true then 0 else 1 by rw[qaPw,if_pos ⟨hW,hH⟩,if_pos hk,if_pos hE])
 have HN:=hide hN
 clear hN
 have hle2:s.size≤15361:=by omega
 have HV:=hide hv;clear hv
 have HE:=hide hE
 have HOK:=hide hok
 have hmb:decide (((N:Int)*30+7) / 8<(s.size:Int))=false:=by simp;omega
 clear hok
 go_enter Tryz.func167,Tryz.ntmps167
 go_wp2_with fail
 have R0:=heap_alloc_new w (Obj.cells #[.int .i64 0,.int .i64 0,.slice none 0 0] 54)
 have HB0:=hide (qUNz w (Obj.cells #[.int .i64 0,.int .i64 0,.slice none 0 0] 54))
 have hlt0:w.heap.size<(w.alloc (Obj.cells #[.int .i64 0,.int .i64 0,.slice none 0 0] 54)).heap.size:=by simp
 generalize w.alloc (Obj.cells #[.int .i64 0,.int .i64 0,.slice none 0 0] 54)=w0 at *
 refine (XlDJ _ _).mono ?_
 rintro e w1 ⟨rfl,hb1⟩
 rw[hW]
 go_wp2_with fail
 refine (XlDJ _ _).mono ?_
 rintro e w2 ⟨rfl,hb2⟩
 rw[hH]
 go_wp2_with (go_at_call 175;refine (qJyw _ _).mono ?_;rintro e wx ⟨rfl,rfl⟩;rw[hk])
 have HB2:=hide (quJN hb1 hb2)
 refine (jlcJ _ _ _ ((HV.out.below HB0.out (Nat.le_refl _)).below HB2.out (Nat.le_refl _)) HE.out).mono ?_
 rintro e w3 ⟨r,rfl,hr,hb3⟩
 have HR:=hide hr
 have HB3:=hide (quJN HB2.out hb3)
 clear hr hb1 hb2 hb3 HB2
 go_wp2_with (go_at_call 201;refine (jfSQ _ (by omega) (by omega) _).mono ?_;rintro e wx ⟨rfl,rfl⟩)
 refine (z4Cm _ _ _ HR.out (by rw[zFud];exact hl1) (by rw[zFud];exact hl2) (Xlmz xs HOK.out)).mono ?_
 rintro e w4 ⟨cv,bm,nn,rfl,hcv,hbm,hb4⟩
 have HBM:=hide hbm
 obtain ⟨co,cc,rfl,hx1,hx2⟩:=hcv
 have HB4:=hide (quJN HB3.out hb4)
 clear hbm hx1 hx2 hb4 HB3 HR
 go_wp2_with fail
 have hKb:=qUNz w4 (Obj.cells #[.slice co (j6d1 xs).length cc,.map (some bm)] 219)
 have hK:=heap_alloc_new w4 (Obj.cells #[.slice co (j6d1 xs).length cc,.map (some bm)] 219)
 have hKs:(w4.alloc (Obj.cells #[.slice co (j6d1 xs).length cc,.map (some bm)] 219)).heap.size=w4.heap.size+1:=by simp
 generalize w4.alloc (Obj.cells #[.slice co (j6d1 xs).length cc,.map (some bm)] 219)=V0 at *
 refine (XISk s (by omega) _).mono ?_
 rintro e w5 ⟨rfl,hb5⟩
 have hbl:(rowOf s.data.toList).length≤122888:=by rw[zLs8,qAMg];omega
 have hbm:allB (rowOf s.data.toList)=true:=XJss _
 have HDL:=hide (rfl:s.data.toList=s.data.toList)
 have hs5:=hb5.size
 have h45:w4.heap.size<w5.heap.size:=by omega
 have h05:w.heap.size<w5.heap.size:=by have:=HB4.out.size;omega
 have HB5:=hide (quJN (quJN HB4.out hKb) hb5)
 have HBK:=hide ((HBM.out.below hKb (Nat.le_refl _)).below hb5 (Nat.le_refl _))
 have hK5:w5.heap[w4.heap.size]?=some (.cells #[.slice co (j6d1 xs).length cc,.map (some bm)] 219 (0,0)):=by rw[hb5.block _ (by omega)];exact hK
 have HK0:=hide (show w5.cell? ⟨w4.heap.size,0,none⟩=some (.slice co (j6d1 xs).length cc) by rw[Lib.cell_of_heap hK5];rfl)
 have HK1:=hide (show w5.cell? ⟨w4.heap.size,1,none⟩=some (.map (some bm)) by rw[Lib.cell_of_heap hK5];rfl)
 have HR5:=hide (show w5.heap[w.heap.size]?=some (.cells #[.int .i64 0,.int .i64 0,.slice none 0 0] 54 (0,0)) by rw[HB5.out.block _ hlt0];exact R0)
 have HBK:Hid (z395 w5 bm nn (jLGz xs)):=HBK
 have HFL:=hide (jWbb xs HOK.out)
 have HCL:=hide (nx_cls xs HE.out)
 have HDR:=hide (show ∀p d n,nxD (jLGz xs) ((rowOf s.data.toList).drop p)=some (d,n)→-32768<d∧d≤32768 from fun p d n h=>by
  have:=z5zM (j6d1 xs) (by rw[zFud];exact hl2) _ (Xvwf (XJss s.data.toList) p) (jlwZ xs HE.out _) d n h
  exact ⟨this.2.2.1,this.2.2.2.1⟩)
 clear hKb hK hKs hb5 hK5 HBM R0 HB4 hs5
 generalize hbf:jLGz xs=f at *
 have HBF:=hide hbf;clear hbf
 generalize hbb:rowOf s.data.toList=b at *
 have HBB:=hide hbb;clear hbb
 go_wp2_with fail
 refine (j4jg b (by omega) w5).mono ?_
 rintro e w6 ⟨ba,bb,rfl,ht6,hwa,hwb,hb6⟩
 have HT6:=hide ht6
 have hla:=HT6.out.lt
 have h56:=hb6.size
 clear ht6
 go_wp2_with (at_make;refine wpList_make_full _ rfl _ _ 52 rfl w6.heap.size 3 i0 (.int .i64 0) 1 Tryz.underlying52 hi hz0 hz1 .i64 .i64 _ _ N rfl rfl rfl rfl (by rw[hz2];omega) (by unfold maxLen;omega) (Nat.le_refl _) ?_;intro w7 hown hgr)
 have h67:w6.heap.size<w7.heap.size:=(hown.lt w6.heap.size rfl).2
 have HI:=hide (show XHvY (w7.alloc (Obj.cells #[.int .i64 W,.int .i64 H,.slice (some ⟨w6.heap.size,0,none⟩) N N] 54)) ba bb b 0∧Below w5.heap.size w5 (w7.alloc (Obj.cells #[.int .i64 W,.int .i64 H,.slice (some ⟨w6.heap.size,0,none⟩) N N] 54)) from
  ⟨XHvY.below (⟨by rw[hgr.block ba hla.1 (by simp)];exact HT6.out.1,by rw[hgr.block bb hla.2 (by simp)];exact HT6.out.2.1,HT6.out.2.2⟩:XHvY w7 ba bb b 0) (qUNz _ _),(hb6.grown hgr hb6.size (by simp)).alloc (by omega) _⟩)
 have HP0:=hide (heap_alloc_new w7 (Obj.cells #[.int .i64 W,.int .i64 H,.slice (some ⟨w6.heap.size,0,none⟩) N N] 54))
 have hown2:=hown.alloc (Obj.cells #[.int .i64 W,.int .i64 H,.slice (some ⟨w6.heap.size,0,none⟩) N N] 54)
 rw[←jzzU] at hown2
 have hPs:w7.heap.size<(w7.alloc (Obj.cells #[.int .i64 W,.int .i64 H,.slice (some ⟨w6.heap.size,0,none⟩) N N] 54)).heap.size:=by simp
 generalize w7.alloc (Obj.cells #[.int .i64 W,.int .i64 H,.slice (some ⟨w6.heap.size,0,none⟩) N N] 54)=W8 at *
 clear hown hgr HT6
 generalize w7.heap.size=PB at *
 go_loopw [69] (fun i wr=>∃(k pos:Nat) (zs:List Int),k≤N∧i=.int .i64 k∧zs.length=k∧Hid (rdD f b W kind k=some (pos,zs))∧Hid (XHvY wr ba bb b pos)∧wr.ownsRow w6.heap.size 3 1 (.slice (some ⟨w6.heap.size,0,none⟩) N N) N (zRow zs N)∧Hid (wr.heap[PB]?=some (.cells #[.int .i64 W,.int .i64 H,.slice (some ⟨w6.heap.size,0,none⟩) N N] 54 (0,0)))∧Hid (Below w5.heap.size w5 wr)∧PB<wr.heap.size)
  (fun i _=>N-(intOf i).toNat)
 case atStart=>exact ⟨0,0,[],Nat.zero_le _,rfl,rfl,rfl,HI.out.1,hown2,HP0,HI.out.2,hPs⟩
 case round =>
  obtain ⟨k,pos,zs,hk,rfl,hzl,HRK,HTK,ho,HPB,HBL,hPl⟩:=hrel
  clear hown2 HI HP0 hPs
  have hsz:=HBL.out.size
  by_cases hlt:k<N
  ·have hd:decide ((k:Int)<(N:Int))=true:=by simp;omega
   have c2:=(HBL.out.cell (p:=⟨w4.heap.size,0,none⟩) h45).trans HK0.out
   have c3:=(HBL.out.cell (p:=⟨w4.heap.size,1,none⟩) h45).trans HK1.out
   have HBW:=hide (HBK.out.below HBL.out (Nat.le_refl _))
   go_wp2_with fail
   refine (XFUU co _ cc bm nn f ba bb b pos _ HBW.out HFL.out HTK.out hbm (HCL.out _)).mono ?_
   rintro e w9 ⟨hsome,hnone,hg9⟩
   have HB9:=hide (HBL.out.grown hg9 hsz (fun j hj=>by cases hj;exact hwa))
   cases hnx:nxD f (b.drop pos) with
   | none =>
    obtain rfl:=hnone hnx
    have HRDN:=hide (show readD s.data.toList W H kind xs=none from HRN.out (by
     refine jU4C (k:=k+1) hlt ?_
     rw[rdD,HRK.out];simp only[hnx]))
    have HNE:=hide (show qaPw s.data.toList W H kind xs=1 by rw[HRE.out,HRDN.out];rfl)
    have hR9:w9.heap[w.heap.size]?=some (.cells #[.int .i64 0,.int .i64 0,.slice none 0 0] 54 (0,0)):=by rw[HB9.out.block _ h05];exact HR5.out
    have q0:w9.cell? ⟨w.heap.size,0,none⟩=some (.int .i64 0):=by rw[Lib.cell_of_heap hR9];rfl
    have q1:w9.cell? ⟨w.heap.size,1,none⟩=some (.int .i64 0):=by rw[Lib.cell_of_heap hR9];rfl
    have q2:w9.cell? ⟨w.heap.size,2,none⟩=some (.slice none 0 0):=by rw[Lib.cell_of_heap hR9];rfl
    have f0:=Lib.frozen_of_heap hR9 0
    have f1:=Lib.frozen_of_heap hR9 1
    have f2:=Lib.frozen_of_heap hR9 2
    clear hsome hnone hg9 hnx
    go_wp2
    refine bodyPost_ret (v:=.tuple #[.agg #[.int .i64 0,.int .i64 0,.slice none 0 0],.int .i64 1]) (by simp[results,Tryz.results167,go_sem,q0,q1,q2]) rfl ⟨.slice none 0 0,?_,?_,?_⟩
    ·rw[qYDS,jHG5,HNE.out];rfl
    ·rw[jNAw,HNE.out];exact jCvT.nil _
    ·exact (((HB0.out.trans ((HB5.out.trans (HB9.out.mono HB5.out.size)).mono HB0.out.size)).setCell (p:=⟨w.heap.size,0,none⟩) (Nat.le_refl _) _).setCell (p:=⟨w.heap.size,1,none⟩) (Nat.le_refl _) _).setCell (p:=⟨w.heap.size,2,none⟩) (Nat.le_refl _) _
   | some q =>
    obtain ⟨D,m⟩:=q
    obtain ⟨rfl,ht9⟩:=hsome D m hnx
    have HT9:=hide ht9
    obtain ⟨hzs1,hzs2⟩:=qbXa HRK.out
    have HRK2:=hide (show rdD f b W kind (k+1)=some (pos+m,zs++[(gAt zs W kind k+D) % 65536]) by rw[rdD,HRK.out];simp only[hnx])
    have ho9:w9.ownsRow w6.heap.size 3 1 (.slice (some ⟨w6.heap.size,0,none⟩) N N) N (zRow zs N):=ho.kept hg9 (.inr (by simp only[Value.ownBlock];intro h;simp only[Option.some.injEq] at h;omega))
    have hs9:=hg9.size
    have hP9:w9.heap[PB]?=some (.cells #[.int .i64 W,.int .i64 H,.slice (some ⟨w6.heap.size,0,none⟩) N N] 54 (0,0)):=by rw[hg9.block PB hPl (by simp;omega)];exact HPB.out
    clear hsome hnone ht9 HTK ho HPB HBL hg9 HBW c2 c3
    have hDr:=HDR.out pos D m hnx
    clear hnx
    have HIN9:=hide (show jCvT w9 (.slice (some ⟨w6.heap.size,0,none⟩) N N) (zs++List.replicate (N-zs.length) 0) by
     have hlp:(zs++List.replicate (N-zs.length) 0).length=N:=by rw[List.length_append,List.length_replicate];omega
     refine jCvT.own (base:=w6.heap.size) ?_ (by rw[hlp];omega)
     rw[hlp,←zFUk];exact ho9)
    have hgp:gAt (zs++List.replicate (N-zs.length) 0) W kind k=gAt zs W kind k:=qJEU (by omega) fun j hj=>by simp[List.getD,List.getElem?_append_left (show j<zs.length by omega)]
    have hgr:=zjsj zs W kind k hzs2
    have hw1:¬(W=0):=by omega
    have hw2:¬((W:Int)=0):=by omega
    have hqb:k / W≤4096:=Nat.le_trans (Nat.div_le_self k W) (by omega)
    have HREM:=hide (show (k:Int) % (W:Int)=((k % W:Nat):Int) from rfl)
    have HQUO:=hide (show IntKind.i64.wrap ((k:Int) / (W:Int))=((k / W:Nat):Int) by rw[show (k:Int) / (W:Int)=((k / W:Nat):Int) from rfl];generalize k / W=q at hqb ⊢;exact IntWalk.i64_in _ (by omega))
    have HGU:=hide (show ∀w',Below w9.heap.size w9 w'→Calls Tryz.prog 179 #[.agg #[.int .i64 W,.int .i64 H,.slice (some ⟨w6.heap.size,0,none⟩) N N],.int .i64 kind,.int .i64 ((k % W:Nat):Int),.int .i64 ((k / W:Nat):Int)] w' fun e w''=>e=.returned (.int .i64 (gAt zs W kind k))∧Below w9.heap.size w9 w'' from fun w' h=>by
     have hlp:(zs++List.replicate (N-zs.length) 0).length=N:=by rw[List.length_append,List.length_replicate];omega
     refine (XBmv _ (zs++List.replicate (N-zs.length) 0) W _ _ H kind k w' (HIN9.out.below h (Nat.le_refl _)) (by omega) (by omega) (by rw[hlp];exact hlt) (by rw[hlp];omega) (pad_ok _ _ hzs2) rfl rfl).mono fun e w'' h2=>⟨?_,h.trans (h2.2.mono h.size)⟩
     rw[←hgp];exact h2.1)
    clear hgp hqb
    generalize gAt zs W kind k=G at *
    have hgd:IntKind.i64.wrap (G+D)=G+D:=IntWalk.i64_in _ (by omega)
    have hand:=qL6h (G+D)
    have p0:w9.cell? ⟨PB,0,none⟩=some (.int .i64 W):=by rw[Lib.cell_of_heap hP9];rfl
    have p1:w9.cell? ⟨PB,1,none⟩=some (.int .i64 H):=by rw[Lib.cell_of_heap hP9];rfl
    have p2:w9.cell? ⟨PB,2,none⟩=some (.slice (some ⟨w6.heap.size,0,none⟩) N N):=by rw[Lib.cell_of_heap hP9];rfl
    have hPl9:PB<w9.heap.size:=by omega
    have hne6:PB≠w6.heap.size:=by omega
    have c9:=ho9.cellAt k (by omega)
    rw[zcMl zs N k hzl hlt] at c9
    have f9:=ho9.frozenAt k
    have HCX:=hide (show ∀w',Below w9.heap.size w9 w'→w'.cell? ⟨w6.heap.size,k,none⟩=some (.int .i64 0)∧w'.frozen? ⟨w6.heap.size,k,none⟩=false from fun w' h =>
     ⟨(h.cell (p:=⟨w6.heap.size,k,none⟩) (by show w6.heap.size<_;omega)).trans c9,(World.frozen?_of_block (h.block w6.heap.size (by omega))).trans f9⟩)
    have HS:=hide (show ∀w',Below w9.heap.size w9 w'→w'.cell? ⟨PB,0,none⟩=some (.int .i64 W)∧w'.cell? ⟨PB,1,none⟩=some (.int .i64 H)∧w'.cell? ⟨PB,2,none⟩=some (.slice (some ⟨w6.heap.size,0,none⟩) N N) from fun w' h =>
     ⟨(h.cell (p:=⟨PB,0,none⟩) hPl9).trans p0,(h.cell (p:=⟨PB,1,none⟩) hPl9).trans p1,(h.cell (p:=⟨PB,2,none⟩) hPl9).trans p2⟩)
    have HS2:=hide (show ∀w' u,Below w9.heap.size w9 w'→(w'.setCell ⟨w6.heap.size,k,none⟩ u).cell? ⟨PB,0,none⟩=some (.int .i64 W)∧(w'.setCell ⟨w6.heap.size,k,none⟩ u).cell? ⟨PB,1,none⟩=some (.int .i64 H)∧(w'.setCell ⟨w6.heap.size,k,none⟩ u).cell? ⟨PB,2,none⟩=some (.slice (some ⟨w6.heap.size,0,none⟩) N N) from fun w' u h=>by
     obtain ⟨t0,t1,t2⟩:=HS.out w' h
     have hbk:=Below.heap_setCell w' ⟨w6.heap.size,k,none⟩ u PB hne6
     exact ⟨(World.cell?_of_block (a:=⟨PB,0,none⟩) hbk).trans t0,(World.cell?_of_block (a:=⟨PB,1,none⟩) hbk).trans t1,(World.cell?_of_block (a:=⟨PB,2,none⟩) hbk).trans t2⟩)
    have hk0:(0:Int)≤(k:Int):=by omega
    have hkN:(k:Int)<(N:Int):=by omega
    have hrefl:=Below.refl w9.heap.size w9
    have hdrew:Below w9.heap.size w9 w9.drew:=(Below.refl _ _).drew
    go_wp2_with fail
    go_region_held3 (fun w'=>w'.cell? ⟨PB,0,none⟩=some (.int .i64 W)∧w'.cell? ⟨PB,1,none⟩=some (.int .i64 H)∧w'.cell? ⟨PB,2,none⟩=some (.slice (some ⟨w6.heap.size,0,none⟩) N N))
     (first|(refine HS.out _ ?_;assumption)|(refine HS2.out _ _ ?_;assumption)|go_keep)
     (first|(go_at_call 179;(try rw[HREM.out]);(try rw[HQUO.out]);refine (HGU.out _ ?_).mono ?_;assumption;rintro e wx ⟨rfl,hNB⟩;obtain ⟨cx,fx⟩:=HCX.out _ hNB))
    have hox:=((qw14 ho9 hNB).stored k (.int .i64 ((G+D) % 65536))).1
    rw[zCOE zs N k _ hzl hlt] at hox
    have HTX:=hide (show XHvY (wx.setCell ⟨w6.heap.size,k,none⟩ (.int .i64 ((G+D) % 65536))) ba bb b (pos+m) by
     have h:=HT9.out.below hNB
     exact ⟨by rw[Below.heap_setCell _ _ _ _ (by show ba≠w6.heap.size;omega)];exact h.1,by rw[Below.heap_setCell _ _ _ _ (by show bb≠w6.heap.size;omega)];exact h.2.1,h.2.2⟩)
    have HPX:=hide (show (wx.setCell ⟨w6.heap.size,k,none⟩ (.int .i64 ((G+D) % 65536))).heap[PB]?=some (.cells #[.int .i64 W,.int .i64 H,.slice (some ⟨w6.heap.size,0,none⟩) N N] 54 (0,0)) by
     rw[Below.heap_setCell _ _ _ _ hne6,hNB.block PB hPl9];exact hP9)
    have HBX:=hide (show Below w5.heap.size w5 (wx.setCell ⟨w6.heap.size,k,none⟩ (.int .i64 ((G+D) % 65536))) from (HB9.out.trans (hNB.mono HB9.out.size)).setCell (p:=⟨w6.heap.size,k,none⟩) (by show w5.heap.size≤w6.heap.size;omega) _)
    have hszx:PB<(wx.setCell ⟨w6.heap.size,k,none⟩ (.int .i64 ((G+D) % 65536))).heap.size:=by have:=hNB.size;simp[World.setCell];omega
    have hzl2:(zs++[(G+D) % 65536]).length=k+1:=by simp[hzl]
    generalize wx.setCell ⟨w6.heap.size,k,none⟩ (.int .i64 ((G+D) % 65536))=WX at *
    clear hrefl hdrew cx fx hNB HS HS2 HCX HGU c9 f9 p0 p1 p2 hand hgd ho9
    go_wp2
    go_roundw
    case rel=>exact ⟨k+1,pos+m,zs++[(G+D) % 65536],by omega,by go_num,hzl2,HRK2,HTX,hox,HPX,HBX,hszx⟩
    case measure=>simp[intOf];omega
  ·obtain rfl:k=N:=by omega
   have hd:decide ((k:Int)<(k:Int))=false:=by simp
   have HRSZ:=hide (HRS.out pos zs HRK.out)
   have hRr:wr.heap[w.heap.size]?=some (.cells #[.int .i64 0,.int .i64 0,.slice none 0 0] 54 (0,0)):=by rw[HBL.out.block _ h05];exact HR5.out
   have q0:wr.cell? ⟨w.heap.size,0,none⟩=some (.int .i64 0):=by rw[Lib.cell_of_heap hRr];rfl
   have q1:wr.cell? ⟨w.heap.size,1,none⟩=some (.int .i64 0):=by rw[Lib.cell_of_heap hRr];rfl
   have q2:wr.cell? ⟨w.heap.size,2,none⟩=some (.slice none 0 0):=by rw[Lib.cell_of_heap hRr];rfl
   have f0:=Lib.frozen_of_heap hRr 0
   have f1:=Lib.frozen_of_heap hRr 1
   have f2:=Lib.frozen_of_heap hRr 2
   have p0:wr.cell? ⟨PB,0,none⟩=some (.int .i64 W):=by rw[Lib.cell_of_heap HPB.out];rfl
   have p1:wr.cell? ⟨PB,1,none⟩=some (.int .i64 H):=by rw[Lib.cell_of_heap HPB.out];rfl
   have p2:wr.cell? ⟨PB,2,none⟩=some (.slice (some ⟨w6.heap.size,0,none⟩) k k):=by rw[Lib.cell_of_heap HPB.out];rfl
   have HWR:=hide (HB0.out.trans ((HB5.out.trans (HBL.out.mono HB5.out.size)).mono HB0.out.size))
   have hdl:(b.drop pos).length≤281474976710656:=by rw[List.length_drop];omega
   have hR6:w.heap.size<w6.heap.size:=by omega
   have hRP:w.heap.size≠PB:=by omega
   cases hf:jvOH (b.drop pos) with
   | false =>
    have HNE:=hide (show qaPw s.data.toList W H kind xs=1 by rw[HRE.out,HRSZ.out,hf];rfl)
    clear ho
    go_wp2_with (first|(go_at_call 218;refine (jpWJ ba bb b _ _ HTK.out).mono ?_;rintro e wx ⟨rfl,rfl⟩)|(go_at_call 204;refine (XNJu _ hdl _).mono ?_;rintro e wx ⟨rfl,rfl⟩;rw[hf]))
    refine bodyPost_ret (v:=.tuple #[.agg #[.int .i64 0,.int .i64 0,.slice none 0 0],.int .i64 1]) (by simp[results,Tryz.results167,go_sem,q0,q1,q2]) rfl ⟨.slice none 0 0,?_,?_,?_⟩
    ·rw[qYDS,jHG5,HNE.out];rfl
    ·rw[jNAw,HNE.out];exact jCvT.nil _
    ·exact ((HWR.out.setCell (p:=⟨w.heap.size,0,none⟩) (Nat.le_refl _) _).setCell (p:=⟨w.heap.size,1,none⟩) (Nat.le_refl _) _).setCell (p:=⟨w.heap.size,2,none⟩) (Nat.le_refl _) _
   | true =>
    have HNS:=hide (show readD s.data.toList W H kind xs=some zs by rw[HRSZ.out,hf];rfl)
    have HNE:=hide (show qaPw s.data.toList W H kind xs=0 by rw[HRE.out,HNS.out];rfl)
    have HOW:=hide (((ownsRow_setCell_below (ownsRow_setCell_below (ownsRow_setCell_below ho (a:=⟨w.heap.size,0,none⟩) hR6 (.int .i64 W)) (a:=⟨w.heap.size,1,none⟩) hR6 (.int .i64 H)) (a:=⟨w.heap.size,2,none⟩) hR6 (.slice (some ⟨w6.heap.size,0,none⟩) k k))))
    clear ho
    go_wp2_with (first|(go_at_call 218;refine (jpWJ ba bb b _ _ HTK.out).mono ?_;rintro e wx ⟨rfl,rfl⟩)|(go_at_call 204;refine (XNJu _ hdl _).mono ?_;rintro e wx ⟨rfl,rfl⟩;rw[hf]))
    refine bodyPost_ret (v:=.tuple #[.agg #[.int .i64 W,.int .i64 H,.slice (some ⟨w6.heap.size,0,none⟩) k k],.int .i64 0]) (by simp[results,Tryz.results167,go_sem,q0,q1,q2]) rfl ⟨.slice (some ⟨w6.heap.size,0,none⟩) k k,?_,?_,?_⟩
    ·rw[qYDS,jHG5,HNE.out];rfl
    ·rw[jNAw,HNE.out,if_pos rfl,HNS.out]
     have h:=HOW.out
     rw[←hzl,qOss] at h
     rw[←hzl]
     show jCvT _ _ zs
     exact jCvT.own h (by omega)
    ·exact ((HWR.out.setCell (p:=⟨w.heap.size,0,none⟩) (Nat.le_refl _) _).setCell (p:=⟨w.heap.size,1,none⟩) (Nat.le_refl _) _).setCell (p:=⟨w.heap.size,2,none⟩) (Nat.le_refl _) _
theorem qvVl (s:ByteArray) (W H kind:Int) (v:Value) (xs:List Int) (w:World) (hv:jCvT w v xs) :
  Calls Tryz.prog 167 #[.string s,.int .i64 W,.int .i64 H,.int .i64 kind,v] w fun e w'=>∃r,e=.returned (.tuple #[.agg #[.int .i64 (qYDS s.data.toList W H kind xs),.int .i64 (jHG5 s.data.toList W H kind xs),r],.int .i64 (qaPw s.data.toList W H kind xs)])∧jCvT w' r (jNAw s.data.toList W H kind xs)∧Below w.heap.size w w':=by
 by_cases hW:jbTy W=true
 ·by_cases hH:jbTy H=true
  ·by_cases hk:qkcw kind=true
   ·by_cases hE:qO3F xs=0
    ·have b1:1≤W∧W≤64:=by simpa [jbTy] using hW
     have b2:1≤H∧H≤64:=by simpa [jbTy] using hH
     obtain ⟨WN,rfl⟩:=Int.eq_ofNat_of_zero_le (show 0≤W by omega)
     obtain ⟨HN,rfl⟩:=Int.eq_ofNat_of_zero_le (show 0≤H by omega)
     by_cases hl:s.size≤(WN*HN*30+7) / 8
     ·exact zqPj s WN HN kind v xs w hv hW hH hk hE hl
     ·have HNE:=hide (show qaPw s.data.toList WN HN kind xs=1 by
       have hn:readD s.data.toList WN HN kind xs=none:=by rw[readD,Int.toNat_natCast,Int.toNat_natCast];exact if_neg (by rw[qAMg];exact hl)
       rw[qaPw,if_pos ⟨hW,hH⟩,if_pos hk,if_pos hE,hn];rfl)
      have b3:=zAFj b1 b2
      obtain ⟨N,hN⟩:∃N,WN*HN=N:=⟨_,rfl⟩
      have hNi:(WN:Int)*(HN:Int)=(N:Int):=by rw[←hN];simp
      rw[hNi] at b3
      rw[hN] at hl
      clear hN
      have hmb:decide (((N:Int)*30+7) / 8<(s.size:Int))=true:=by simp;omega
      have HV:=hide hv
      have HE:=hide hE
      clear hl hv hE
      go_enter Tryz.func167,Tryz.ntmps167
      go_wp2_with fail
      have R0:=heap_alloc_new w (Obj.cells #[.int .i64 0,.int .i64 0,.slice none 0 0] 54)
      have HB0:=hide (qUNz w (Obj.cells #[.int .i64 0,.int .i64 0,.slice none 0 0] 54))
      have hlt0:w.heap.size<(w.alloc (Obj.cells #[.int .i64 0,.int .i64 0,.slice none 0 0] 54)).heap.size:=by simp
      generalize w.alloc (Obj.cells #[.int .i64 0,.int .i64 0,.slice none 0 0] 54)=w0 at *
      refine (XlDJ _ _).mono ?_
      rintro e w1 ⟨rfl,hb1⟩
      rw[hW]
      go_wp2_with fail
      refine (XlDJ _ _).mono ?_
      rintro e w2 ⟨rfl,hb2⟩
      rw[hH]
      go_wp2_with (go_at_call 175;refine (qJyw _ _).mono ?_;rintro e wx ⟨rfl,rfl⟩;rw[hk])
      have HB2:=hide (quJN hb1 hb2)
      refine (jlcJ _ _ _ ((HV.out.below HB0.out (Nat.le_refl _)).below HB2.out (Nat.le_refl _)) HE.out).mono ?_
      rintro e WE ⟨r,rfl,hr,hb3⟩
      have HBE:=hide (quJN HB2.out hb3)
      clear hr hb1 hb2 hb3 HB2
      have HWR:=hide (quJN HB0.out HBE.out)
      have hRr:WE.heap[w.heap.size]?=some (.cells #[.int .i64 0,.int .i64 0,.slice none 0 0] 54 (0,0)):=by rw[HBE.out.block _ hlt0];exact R0
      have q0:WE.cell? ⟨w.heap.size,0,none⟩=some (.int .i64 0):=by rw[Lib.cell_of_heap hRr];rfl
      have q1:WE.cell? ⟨w.heap.size,1,none⟩=some (.int .i64 0):=by rw[Lib.cell_of_heap hRr];rfl
      have q2:WE.cell? ⟨w.heap.size,2,none⟩=some (.slice none 0 0):=by rw[Lib.cell_of_heap hRr];rfl
      have f0:=Lib.frozen_of_heap hRr 0
      have f1:=Lib.frozen_of_heap hRr 1
      have f2:=Lib.frozen_of_heap hRr 2
      go_wp2_with (go_at_call 201;refine (jfSQ _ (by omega) (by omega) _).mono ?_;rintro e wx ⟨rfl,rfl⟩)
      refine bodyPost_ret (v:=.tuple #[.agg #[.int .i64 0,.int .i64 0,.slice none 0 0],.int .i64 1]) (by simp[results,Tryz.results167,go_sem,q0,q1,q2]) rfl ⟨.slice none 0 0,?_,?_,?_⟩
      ·rw[qYDS,jHG5,HNE.out];simp
      ·rw[jNAw,HNE.out];exact jCvT.nil _
      ·exact ((HWR.out.setCell (p:=⟨w.heap.size,0,none⟩) (Nat.le_refl _) _).setCell (p:=⟨w.heap.size,1,none⟩) (Nat.le_refl _) _).setCell (p:=⟨w.heap.size,2,none⟩) (Nat.le_refl _) _
    ·have HNE:=hide (show qaPw s.data.toList W H kind xs=qO3F xs by rw[qaPw,if_pos ⟨hW,hH⟩,if_pos hk,if_neg hE])
     have hne:(qO3F xs != 0)=true:=by simpa using hE
     have HNZ:=hide hE
     have HV:=hide hv
     clear hE hv
     go_enter Tryz.func167,Tryz.ntmps167
     go_wp2_with fail
     have R0:=heap_alloc_new w (Obj.cells #[.int .i64 0,.int .i64 0,.slice none 0 0] 54)
     have HB0:=hide (qUNz w (Obj.cells #[.int .i64 0,.int .i64 0,.slice none 0 0] 54))
     have hlt0:w.heap.size<(w.alloc (Obj.cells #[.int .i64 0,.int .i64 0,.slice none 0 0] 54)).heap.size:=by simp
     generalize w.alloc (Obj.cells #[.int .i64 0,.int .i64 0,.slice none 0 0] 54)=w0 at *
     refine (XlDJ _ _).mono ?_
     rintro e w1 ⟨rfl,hb1⟩
     rw[hW]
     go_wp2_with fail
     refine (XlDJ _ _).mono ?_
     rintro e w2 ⟨rfl,hb2⟩
     rw[hH]
     go_wp2_with (go_at_call 175;refine (qJyw _ _).mono ?_;rintro e wx ⟨rfl,rfl⟩;rw[hk])
     have HB2:=hide (quJN hb1 hb2)
     refine (z3li _ _ _ ((HV.out.below HB0.out (Nat.le_refl _)).below HB2.out (Nat.le_refl _))).mono ?_
     rintro e WE ⟨r,rfl,hr,hb3⟩
     have HBE:=hide (quJN HB2.out hb3)
     clear hr hb1 hb2 hb3 HB2
     have HWR:=hide (quJN HB0.out HBE.out)
     have hRr:WE.heap[w.heap.size]?=some (.cells #[.int .i64 0,.int .i64 0,.slice none 0 0] 54 (0,0)):=by rw[HBE.out.block _ hlt0];exact R0
     have q0:WE.cell? ⟨w.heap.size,0,none⟩=some (.int .i64 0):=by rw[Lib.cell_of_heap hRr];rfl
     have q1:WE.cell? ⟨w.heap.size,1,none⟩=some (.int .i64 0):=by rw[Lib.cell_of_heap hRr];rfl
     have q2:WE.cell? ⟨w.heap.size,2,none⟩=some (.slice none 0 0):=by rw[Lib.cell_of_heap hRr];rfl
     have f0:=Lib.frozen_of_heap hRr 0
     have f1:=Lib.frozen_of_heap hRr 1
     have f2:=Lib.frozen_of_heap hRr 2
     go_wp2
     refine bodyPost_ret (v:=.tuple #[.agg #[.int .i64 0,.int .i64 0,.slice none 0 0],.int .i64 (qO3F xs)]) (by simp[results,Tryz.results167,go_sem,q0,q1,q2]) rfl ⟨.slice none 0 0,?_,?_,?_⟩
     ·rw[qYDS,jHG5,HNE.out,if_neg HNZ.out,if_neg HNZ.out]
     ·rw[jNAw,HNE.out,if_neg HNZ.out];exact jCvT.nil _
     ·exact ((HWR.out.setCell (p:=⟨w.heap.size,0,none⟩) (Nat.le_refl _) _).setCell (p:=⟨w.heap.size,1,none⟩) (Nat.le_refl _) _).setCell (p:=⟨w.heap.size,2,none⟩) (Nat.le_refl _) _
   ·have HNE:=hide (show qaPw s.data.toList W H kind xs=6 by rw[qaPw,if_pos ⟨hW,hH⟩,if_neg hk])
    have hk:qkcw kind=false:=by simpa using hk
    clear hv
    go_enter Tryz.func167,Tryz.ntmps167
    go_wp2_with fail
    have R0:=heap_alloc_new w (Obj.cells #[.int .i64 0,.int .i64 0,.slice none 0 0] 54)
    have HB0:=hide (qUNz w (Obj.cells #[.int .i64 0,.int .i64 0,.slice none 0 0] 54))
    have hlt0:w.heap.size<(w.alloc (Obj.cells #[.int .i64 0,.int .i64 0,.slice none 0 0] 54)).heap.size:=by simp
    generalize w.alloc (Obj.cells #[.int .i64 0,.int .i64 0,.slice none 0 0] 54)=w0 at *
    refine (XlDJ _ _).mono ?_
    rintro e w1 ⟨rfl,hb1⟩
    rw[hW]
    go_wp2_with fail
    refine (XlDJ _ _).mono ?_
    rintro e WE ⟨rfl,hb2⟩
    rw[hH]
    have HBE:=hide (quJN hb1 hb2)
    clear hb1 hb2
    have HWR:=hide (quJN HB0.out HBE.out)
    have hRr:WE.heap[w.heap.size]?=some (.cells #[.int .i64 0,.int .i64 0,.slice none 0 0] 54 (0,0)):=by rw[HBE.out.block _ hlt0];exact R0
    have q0:WE.cell? ⟨w.heap.size,0,none⟩=some (.int .i64 0):=by rw[Lib.cell_of_heap hRr];rfl
    have q1:WE.cell? ⟨w.heap.size,1,none⟩=some (.int .i64 0):=by rw[Lib.cell_of_heap hRr];rfl
    have q2:WE.cell? ⟨w.heap.size,2,none⟩=some (.slice none 0 0):=by rw[Lib.cell_of_heap hRr];rfl
    have f0:=Lib.frozen_of_heap hRr 0
    have f1:=Lib.frozen_of_heap hRr 1
    have f2:=Lib.frozen_of_heap hRr 2
    go_wp2_with (go_at_call 175;refine (qJyw _ _).mono ?_;rintro e wx ⟨rfl,rfl⟩;rw[hk])
    refine bodyPost_ret (v:=.tuple #[.agg #[.int .i64 0,.int .i64 0,.slice none 0 0],.int .i64 6]) (by simp[results,Tryz.results167,go_sem,q0,q1,q2]) rfl ⟨.slice none 0 0,?_,?_,?_⟩
    ·rw[qYDS,jHG5,HNE.out];simp
    ·rw[jNAw,HNE.out];exact jCvT.nil _
    ·exact ((HWR.out.setCell (p:=⟨w.heap.size,0,none⟩) (Nat.le_refl _) _).setCell (p:=⟨w.heap.size,1,none⟩) (Nat.le_refl _) _).setCell (p:=⟨w.heap.size,2,none⟩) (Nat.le_refl _) _
  ·have HNE:=hide (show qaPw s.data.toList W H kind xs=3 by rw[qaPw,if_neg (fun h=>hH h.2)])
   have hH:jbTy H=false:=by simpa using hH
   clear hv
   go_enter Tryz.func167,Tryz.ntmps167
   go_wp2_with fail
   have R0:=heap_alloc_new w (Obj.cells #[.int .i64 0,.int .i64 0,.slice none 0 0] 54)
   have HB0:=hide (qUNz w (Obj.cells #[.int .i64 0,.int .i64 0,.slice none 0 0] 54))
   have hlt0:w.heap.size<(w.alloc (Obj.cells #[.int .i64 0,.int .i64 0,.slice none 0 0] 54)).heap.size:=by simp
   generalize w.alloc (Obj.cells #[.int .i64 0,.int .i64 0,.slice none 0 0] 54)=w0 at *
   refine (XlDJ _ _).mono ?_
   rintro e w1 ⟨rfl,hb1⟩
   rw[hW]
   go_wp2_with fail
   refine (XlDJ _ _).mono ?_
   rintro e WE ⟨rfl,hb2⟩
   rw[hH]
   have HBE:=hide (quJN hb1 hb2)
   clear hb1 hb2
   have HWR:=hide (quJN HB0.out HBE.out)
   have hRr:WE.heap[w.heap.size]?=some (.cells #[.int .i64 0,.int .i64 0,.slice none 0 0] 54 (0,0)):=by rw[HBE.out.block _ hlt0];exact R0
   have q0:WE.cell? ⟨w.heap.size,0,none⟩=some (.int .i64 0):=by rw[Lib.cell_of_heap hRr];rfl
   have q1:WE.cell? ⟨w.heap.size,1,none⟩=some (.int .i64 0):=by rw[Lib.cell_of_heap hRr];rfl
   have q2:WE.cell? ⟨w.heap.size,2,none⟩=some (.slice none 0 0):=by rw[Lib.cell_of_heap hRr];rfl
   have f0:=Lib.frozen_of_heap hRr 0
   have f1:=Lib.frozen_of_heap hRr 1
   have f2:=Lib.frozen_of_heap hRr 2
   go_wp2
   refine bodyPost_ret (v:=.tuple #[.agg #[.int .i64 0,.int .i64 0,.slice none 0 0],.int .i64 3]) (by simp[results,Tryz.results167,go_sem,q0,q1,q2]) rfl ⟨.slice none 0 0,?_,?_,?_⟩
   ·rw[qYDS,jHG5,HNE.out];simp
   ·rw[jNAw,HNE.out];exact jCvT.nil _
   ·exact ((HWR.out.setCell (p:=⟨w.heap.size,0,none⟩) (Nat.le_refl _) _).setCell (p:=⟨w.heap.size,1,none⟩) (Nat.le_refl _) _).setCell (p:=⟨w.heap.size,2,none⟩) (Nat.le_refl _) _
 ·have HNE:=hide (show qaPw s.data.toList W H kind xs=3 by rw[qaPw,if_neg (fun h=>hW h.1)])
  have hW:jbTy W=false:=by simpa using hW
  clear hv
  go_enter Tryz.func167,Tryz.ntmps167
  go_wp2_with fail
  have R0:=heap_alloc_new w (Obj.cells #[.int .i64 0,.int .i64 0,.slice none 0 0] 54)
  have HB0:=hide (qUNz w (Obj.cells #[.int .i64 0,.int .i64 0,.slice none 0 0] 54))
  have hlt0:w.heap.size<(w.alloc (Obj.cells #[.int .i64 0,.int .i64 0,.slice none 0 0] 54)).heap.size:=by simp
  generalize w.alloc (Obj.cells #[.int .i64 0,.int .i64 0,.slice none 0 0] 54)=w0 at *
  refine (XlDJ _ _).mono ?_
  rintro e WE ⟨rfl,hb1⟩
  rw[hW]
  have HBE:=hide hb1
  clear hb1
  have HWR:=hide (quJN HB0.out HBE.out)
  have hRr:WE.heap[w.heap.size]?=some (.cells #[.int .i64 0,.int .i64 0,.slice none 0 0] 54 (0,0)):=by rw[HBE.out.block _ hlt0];exact R0
  have q0:WE.cell? ⟨w.heap.size,0,none⟩=some (.int .i64 0):=by rw[Lib.cell_of_heap hRr];rfl
  have q1:WE.cell? ⟨w.heap.size,1,none⟩=some (.int .i64 0):=by rw[Lib.cell_of_heap hRr];rfl
  have q2:WE.cell? ⟨w.heap.size,2,none⟩=some (.slice none 0 0):=by rw[Lib.cell_of_heap hRr];rfl
  have f0:=Lib.frozen_of_heap hRr 0
  have f1:=Lib.frozen_of_heap hRr 1
  have f2:=Lib.frozen_of_heap hRr 2
  go_wp2
  refine bodyPost_ret (v:=.tuple #[.agg #[.int .i64 0,.int .i64 0,.slice none 0 0],.int .i64 3]) (by simp[results,Tryz.results167,go_sem,q0,q1,q2]) rfl ⟨.slice none 0 0,?_,?_,?_⟩
  ·rw[qYDS,jHG5,HNE.out];simp
  ·rw[jNAw,HNE.out];exact jCvT.nil _
  ·exact ((HWR.out.setCell (p:=⟨w.heap.size,0,none⟩) (Nat.le_refl _) _).setCell (p:=⟨w.heap.size,1,none⟩) (Nat.le_refl _) _).setCell (p:=⟨w.heap.size,2,none⟩) (Nat.le_refl _) _
theorem qwe2 (w:World):Calls Tryz.prog 105 #[] w fun e w'=>∃r,e=.returned r∧jCvT w' r [2,3,3,4,4,4,5,5,5,6,6,6,7,7,7,8,8]∧Below w.heap.size w w':=by
 go_enter Tryz.func105,Tryz.ntmps105
 go_wp2
 go_ret
 exact ⟨_,rfl,jCvT.own (base:=w.heap.size) (World.ownsRow_lit w #[.int .i64 2,.int .i64 3,.int .i64 3,.int .i64 4,.int .i64 4,.int .i64 4,.int .i64 5,.int .i64 5,.int .i64 5,.int .i64 6,.int .i64 6,.int .i64 6,.int .i64 7,.int .i64 7,.int .i64 7,.int .i64 8,.int .i64 8] 17 (Nat.le_refl _) (by decide) (by decide)) (by decide),qUNz _ _⟩
end Go.Proofs.YtfjeonehdlphiaaGreatDoor
