/- Rf: part 4 of what the proofs need. -/
import Derived.Test.YtanebhbfekcplaaGreatC1Rf
import Derived.Test.YtanebhbfekcplaaGreatC2Rf
import Derived.Test.YtanebhbfekcplaaGreatC3Rf
import Derived.ProofKit
import Derived.OpenShut
import Derived.ChangeSame
import Derived.ChangeArms
import Derived.DataReads
import Derived.SizedLaws
namespace Go.Proofs.YtanebhbfekcplaaGreat
set_option linter.unusedVariables false
open Go.RowKit
theorem q3I (P:Program) (t:TypeId) (ht:P.underlying t=some (.slice (P.elem t))) (hs:∀w,(sizeOf (P.elem t)).run P w=.ok 1 w) (b o n c A E:Nat) (h:A≤E) (h2:E≤c) (h3:c≠A) (w:World) :
  (Instr.slice t (.slice (some ⟨b,o,none⟩) n c) (some (.int .i64 A)) (some (.int .i64 E)) none).run P w=.ok (.slice (some ⟨b,o+A,none⟩) (E-A) (c-A)) w:=by
 rw[run_slice_lh w t (some ⟨b,o,none⟩) n c ht .i64 .i64 A E (by omega) (by omega) (by omega),hs]
 simp only[Result.andThen,sliced,Int.toNat_natCast,Nat.mul_one,Option.map_some]
 rw[if_neg h3,Addr.add_lit]
set_option maxRecDepth 100000 in
set_option maxHeartbeats 12800000 in
theorem KH (r:qH) (lv tv sv cv:Value) (PW PH:Int) (v:Value) (zs:List Int) (w:World) (hr:jl w r lv tv sv cv) (hv:qd w v zs) (hroom:XQ v) (lz:Kk lv) (tz:Kk tv) (sz:Kk sv) (cz:Kk cv) (htl:r.strips.length≤8796093022208) :
  Calls Tryz.prog 13 #[.agg (qs r lv tv sv cv),.agg #[.int .i64 PW,.int .i64 PH,v]] w fun e w'=>Below w.heap.size w w'∧((zB r PW PH zs=0∧∃lv' tv' sv' cv',e=.returned (.tuple #[.agg (qs (qG r zs) lv' tv' sv' cv'),.int .i64 0])∧jl w' (qG r zs) lv' tv' sv' cv'∧qn w.heap.size lv'∧qn w.heap.size tv'∧qn w.heap.size sv'∧qn w.heap.size cv') ∨
   (zB r PW PH zs≠0∧e=.returned (.tuple #[.agg qr,.int .i64 (zB r PW PH zs)]))):=by
 have HR:=q7 hr
 have HV:=q7 hv
 have HCH:=q7 (fun (u:World) (hu:Below w.heap.size w u)=>Y9 r lv tv sv cv u (HR.out.lens.below hu (Nat.le_refl _)))
 have HCP:=q7 (fun (hh:zy r) (u:World) (hu:Below w.heap.size w u)=>Yk r lv tv sv cv u hh (HR.out.plan.below hu (Nat.le_refl _)))
 have HPL:=q7 (fun (u:World) (hu:Below w.heap.size w u)=>jT PW PH v zs u (HV.out.below hu (Nat.le_refl _)))
 have HDP:=q7 (fun (hd:1≤r.depth∧r.depth≤16) (u:World) (hu:Below w.heap.size w u)=>q05 v zs r.depth u hd (HV.out.below hu (Nat.le_refl _)))
 have HBA:=q7 (fun (u:World) (hu:Below w.heap.size w u) g1 g2 g3=>q15 r lv tv sv cv u (HR.out.below hu (Nat.le_refl _)) g1 htl g2 g3 lz tz sz cz)
 have HSC0:=q7 (fun (u:World) (h:zy r)=>q04 r lv tv sv cv u h)
 have HSR0:=q7 (fun (k:Nat) (u:World) (h:zy r) (hk:k<jG r)=>KZ r lv tv sv cv k u h hk)
 have HWD0:=q7 (fun (v':Value) (l:List Int) (n:Int) (u:World) (hu:Below w.heap.size w u) (hv':qd u v' l)=>Yy r.w n v' lv l r.kind r.lens u hv' (HR.out.lens.below hu (Nat.le_refl _)))
 have HE:=q7 (show zB r PW PH zs=if jA r=0 then (if Qv r=0 then (if q1C r PW PH zs=true then (if q2H r zs (jG r)=true then 0 else 4) else 1) else Qv r) else jA r from rfl)
 have HFP:=q7 (show q1C r PW PH zs=(qB PW PH zs && decide (PW=r.w) && decide (PH=r.h) && zm r.depth zs) from rfl)
 generalize zB r PW PH zs=E at *
 obtain ⟨vo,vc,rfl,hvl,_⟩:=hv
 have hvc:zs.length≤vc:=hroom
 obtain ⟨a1,a2,a3⟩:=al3 w (Obj.cells (qs r lv tv sv cv) 32) (Obj.cells #[.int .i64 PW,.int .i64 PH,.slice vo zs.length vc] 34) (Obj.cells qr 32)
 have HB:=q7 (be3 w (Obj.cells (qs r lv tv sv cv) 32) (Obj.cells #[.int .i64 PW,.int .i64 PH,.slice vo zs.length vc] 34) (Obj.cells qr 32))
 have hl1:=(Array.getElem?_eq_some_iff.1 a1).1
 have hl2:=(Array.getElem?_eq_some_iff.1 a2).1
 have hl3:=(Array.getElem?_eq_some_iff.1 a3).1
 have iz:(Tryz.prog.info? 32).map (·.size)=some (qr:Array Value).size:=by kernel_rfl
 have oz:(qr:Array Value).all (·.oneCell')=true:=by simp[Value.oneCell']
 clear hr hroom lz tz sz cz
 go_enter Tryz.func13,Tryz.ntmps13
 go_wp2_with (refine wpList_load_row rfl 32 _ rfl _ rfl _ _ _ _ a1 Tryz.underlying32 rfl (by kernel_rfl) ?_)
 generalize ((w.alloc (Obj.cells (qs r lv tv sv cv) 32)).alloc (Obj.cells #[.int .i64 PW,.int .i64 PH,.slice vo zs.length vc] 34)).alloc (Obj.cells qr 32)=U at *
 have HRC:=q7 (fun (v:World) (h:v.heap[w.heap.size]?=some (.cells (qs r lv tv sv cv) 32 (0,0)))=>qv h)
 have hi28:(Tryz.prog.info? 32).map (·.size)=some ((qs r lv tv sv cv):Array Value).size:=by kernel_rfl
 generalize (qs r lv tv sv cv)=RQ at *
 refine (HCH.out _ HB.out).mono ?_
 rintro e V1 ⟨rfl,hb1⟩
 by_cases hF:jA r=0
 rotate_left
 ·rw[if_neg hF] at HE
  have he:=HE.out
  subst he
  have hn:(jA r != 0)=true:=by simpa using hF
  have g3:=(hb1.block _ hl3).trans a3
  have HG:=q7 (setRow_heap _ _ _ qr _ _ g3)
  have HBF:=q7 (below_setRow (g:=w.heap.size+2) (q8 HB.out hb1) (by omega) qr)
  go_wp2_with (refine wpList_store_row rfl 32 _ _ rfl (w.heap.size+2) qr rfl rfl _ _ g3 iz rfl oz ?_)
  refine bodyPost_ret (v:=.tuple #[.agg qr,.int .i64 (jA r)]) (qq Tryz.results13 _ _ _ _ _ rfl rfl HG.out iz) rfl ⟨HBF.out,.inr ⟨hF,rfl⟩⟩
 rw[if_pos hF] at HE
 rw[hF]
 have hH:=zQ hF
 have HHD:=q7 hH
 have g1:=(hb1.block _ hl1).trans a1
 clear HCH hF
 go_wp2_with (refine wpList_load_row rfl 32 _ rfl _ rfl _ _ _ _ g1 Tryz.underlying32 rfl hi28 ?_)
 refine (HCP.out HHD.out _ (q8 HB.out hb1)).mono ?_
 rintro e V2 ⟨rfl,hb2⟩
 replace hb2:=q8 hb1 hb2
 clear g1 hb1
 by_cases hP:Qv r=0
 rotate_left
 ·rw[if_neg hP] at HE
  have he:=HE.out
  subst he
  have hn:(Qv r != 0)=true:=by simpa using hP
  have g3:=(hb2.block _ hl3).trans a3
  have HG:=q7 (setRow_heap _ _ _ qr _ _ g3)
  have HBF:=q7 (below_setRow (g:=w.heap.size+2) (q8 HB.out hb2) (by omega) qr)
  go_wp2_with (refine wpList_store_row rfl 32 _ _ rfl (w.heap.size+2) qr rfl rfl _ _ g3 iz rfl oz ?_)
  refine bodyPost_ret (v:=.tuple #[.agg qr,.int .i64 (Qv r)]) (qq Tryz.results13 _ _ _ _ _ rfl rfl HG.out iz) rfl ⟨HBF.out,.inr ⟨hP,rfl⟩⟩
 rw[if_pos hP] at HE
 rw[hP]
 have HPZ:=q7 hP
 clear HCP hP
 have g2:=(hb2.block _ hl2).trans a2
 obtain ⟨p0,p1,p2⟩:=jJ g2
 go_wp2_with fail
 clear p0 p1 p2
 refine (HPL.out _ (q8 HB.out hb2)).mono ?_
 rintro e V3 ⟨rfl,hb3⟩
 replace hb3:=q8 hb2 hb3
 clear g2 hb2 HPL
 have g2:=(hb3.block _ hl2).trans a2
 have g1:=(hb3.block _ hl1).trans a1
 obtain ⟨p0,p1,p2⟩:=jJ g2
 obtain ⟨s0,s1,s2,s3,s4,s5,s6,s13,s26⟩:=HRC.out _ g1
 clear g1 g2
 cases hpo:qB PW PH zs
 ·have he:E=1:=by rw[HE.out,HFP.out,hpo];rfl
  subst he
  clear HFP
  have g3:=(hb3.block _ hl3).trans a3
  have HG:=q7 (setRow_heap _ _ _ qr _ _ g3)
  have HBF:=q7 (below_setRow (g:=w.heap.size+2) (q8 HB.out hb3) (by omega) qr)
  go_wp2_with (refine wpList_store_row rfl 32 _ _ rfl (w.heap.size+2) qr rfl rfl _ _ g3 iz rfl oz ?_)
  refine bodyPost_ret (v:=.tuple #[.agg qr,.int .i64 1]) (qq Tryz.results13 _ _ _ _ _ rfl rfl HG.out iz) rfl ⟨HBF.out,.inr ⟨by decide,rfl⟩⟩
 by_cases hpw:PW=r.w
 rotate_left
 ·have hn1:(PW != r.w)=true:=by simpa using hpw
  have he:E=1:=by rw[HE.out,HFP.out,decide_eq_false hpw];simp
  subst he
  clear HFP
  have g3:=(hb3.block _ hl3).trans a3
  have HG:=q7 (setRow_heap _ _ _ qr _ _ g3)
  have HBF:=q7 (below_setRow (g:=w.heap.size+2) (q8 HB.out hb3) (by omega) qr)
  go_wp2_with (refine wpList_store_row rfl 32 _ _ rfl (w.heap.size+2) qr rfl rfl _ _ g3 iz rfl oz ?_)
  refine bodyPost_ret (v:=.tuple #[.agg qr,.int .i64 1]) (qq Tryz.results13 _ _ _ _ _ rfl rfl HG.out iz) rfl ⟨HBF.out,.inr ⟨by decide,rfl⟩⟩
 have hn1:(PW != r.w)=false:=by simpa using hpw
 by_cases hph:PH=r.h
 rotate_left
 ·have hn2:(PH != r.h)=true:=by simpa using hph
  have he:E=1:=by rw[HE.out,HFP.out,decide_eq_false hph];simp
  subst he
  clear HFP
  have g3:=(hb3.block _ hl3).trans a3
  have HG:=q7 (setRow_heap _ _ _ qr _ _ g3)
  have HBF:=q7 (below_setRow (g:=w.heap.size+2) (q8 HB.out hb3) (by omega) qr)
  go_wp2_with (refine wpList_store_row rfl 32 _ _ rfl (w.heap.size+2) qr rfl rfl _ _ g3 iz rfl oz ?_)
  refine bodyPost_ret (v:=.tuple #[.agg qr,.int .i64 1]) (qq Tryz.results13 _ _ _ _ _ rfl rfl HG.out iz) rfl ⟨HBF.out,.inr ⟨by decide,rfl⟩⟩
 have hn2:(PH != r.h)=false:=by simpa using hph
 have hsh:Jy r.depth zs=zm r.depth zs:=q3l (fun x hx=>by
  have h4:=(qM hpo).2.2.2
  have:=List.all_eq_true.1 h4 x hx
  simp only[Xw,decide_eq_true_eq] at this
  exact this.1)
 rw[hsh] at HDP
 clear hsh
 go_wp2_with fail
 refine (HDP.out HHD.out.depth _ (q8 HB.out hb3)).mono ?_
 rintro e V4 ⟨rfl,hb4⟩
 replace hb3:=q8 hb3 hb4
 clear hb4 p0 p1 p2 s0 s1 s2 s3 s4 s5 s6 s13 s26
 cases hdo:zm r.depth zs
 ·have he:E=1:=by rw[HE.out,HFP.out,hdo];simp
  subst he
  clear HFP
  have g3:=(hb3.block _ hl3).trans a3
  have HG:=q7 (setRow_heap _ _ _ qr _ _ g3)
  have HBF:=q7 (below_setRow (g:=w.heap.size+2) (q8 HB.out hb3) (by omega) qr)
  go_wp2_with (refine wpList_store_row rfl 32 _ _ rfl (w.heap.size+2) qr rfl rfl _ _ g3 iz rfl oz ?_)
  refine bodyPost_ret (v:=.tuple #[.agg qr,.int .i64 1]) (qq Tryz.results13 _ _ _ _ _ rfl rfl HG.out iz) rfl ⟨HBF.out,.inr ⟨by decide,rfl⟩⟩
 have hfit:q1C r PW PH zs=true:=by rw[HFP.out,hpo,hdo,decide_eq_true hpw,decide_eq_true hph];rfl
 rw[if_pos hfit] at HE
 have HFT:=q7 hfit
 obtain ⟨hW,hHh,hlen,_⟩:=qM hpo
 have hsm:=jV hW hHh
 have hn1':1≤zs.length:=by omega
 have hz4:zs.length≤4096:=by omega
 have HLEN:=q7 (show (zs.length:Int)=r.w*r.h by rw[hlen,hpw,hph])
 have HDO:=q7 hdo
 obtain ⟨bk,off,ca,hve,hbk,hcell⟩:=HV.out.cells hn1'
 cases hve
 have HC:=q7 hcell
 clear HFP HDP hfit hpo hdo hpw hph hn1 hn2 hlen hsm hcell hW hHh hH
 have g1:=(hb3.block _ hl1).trans a1
 have hle17:r.lens.length≤1000000:=by
  have:=HHD.out.lens
  unfold JA at this
  split at this
  ·split at this
   ·omega
   ·cases this
  ·have:=(qT this).2.1;omega
 have hplz:jW r.plan=0:=by
  have:=HPZ.out
  unfold Qv at this
  split at this
  ·assumption
  ·exact this
 have hsp:r.plan.spots.length≤1000000:=by have:=(zf hplz).2.2.2.2.2.1;omega
 have hcu:r.plan.curve.length≤1000000:=by have:=Zf (zf hplz).2.2.2.2.2.2.2;omega
 go_wp2_with (refine wpList_load_row rfl 32 _ rfl _ rfl _ _ _ _ g1 Tryz.underlying32 rfl hi28 ?_)
 clear g1
 refine (HBA.out _ (q8 HB.out hb3) hle17 hsp hcu).mono ?_
 rintro e VB ⟨lv',tv',sv',cv',rfl,hIB,hbB,f1,f2,f3,f4⟩
 clear HBA hle17 hplz hsp hcu
 have HFR:=q7 (show qn U.heap.size lv'∧qn U.heap.size sv'∧qn U.heap.size cv' from ⟨f1.mono hb3.size,f3.mono hb3.size,f4.mono hb3.size⟩)
 replace hbB:=q8 hb3 hbB
 clear hb3 f1 f2 f3 f4
 have HIB:=q7 hIB
 have HO:=q7 (zH hIB)
 obtain ⟨RA,hRA⟩:∃RA,qs r lv' tv' sv' cv'=RA:=⟨_,rfl⟩
 have i1:(Tryz.prog.info? 32).map (·.size)=some RA.size:=by rw[←hRA];kernel_rfl
 have i2:(qr:Array Value).size=RA.size:=by rw[←hRA];rfl
 rw[hRA] at HO ⊢
 have HRA:=q7 hRA
 have hos:=HO.out
 clear hRA hIB
 have z1:=al1 VB (Obj.cells qr 32)
 have c1:=setRow_heap _ _ _ RA _ _ z1
 have HBX:=q7 (below_setRow (g:=VB.heap.size) (qa VB (Obj.cells qr 32)) (Nat.le_refl _) RA)
 go_upto_region 10 with (refine wpList_store_row rfl 32 _ _ rfl VB.heap.size RA rfl rfl _ _ z1 i1 i2 hos ?_)
 clear z1
 obtain ⟨QX,hQX⟩:∃QX,VB.heap.size=QX:=⟨_,rfl⟩
 rw[hQX] at c1 HBX ⊢
 have hH0:j9 QX 32 (qs r lv' tv' sv' cv').toList ((VB.alloc (Obj.cells qr 32)).setRow QX RA):=c1.trans (by rw[←HRA.out])
 have c6:((VB.alloc (Obj.cells qr 32)).setRow QX RA).cell? ⟨QX,6,none⟩=some tv':=by rw[Lib.cell_of_heap hH0];rfl
 have f6:((VB.alloc (Obj.cells qr 32)).setRow QX RA).frozen? ⟨QX,6,none⟩=false:=Lib.frozen_of_heap hH0 _
 have HJ0:=q7 (show FiJ r zs lv' sv' cv' QX 0 VB (((VB.alloc (Obj.cells qr 32)).setRow QX RA).setCell ⟨QX,6,none⟩ (.slice none 0 0)) from ⟨none,0,rfl,zd hH0 6 (.slice none 0 0),⟨by simp[fiS],.inl ⟨rfl,rfl⟩⟩,HBX.out.setCell (p:=⟨QX,6,none⟩) (Nat.le_refl _) _⟩)
 have hUQ:U.heap.size≤QX:=by rw[←hQX];exact hbB.size
 have hVQ:VB.heap.size≤QX:=Nat.le_of_eq hQX
 have HSC:=q7 (fun (u:World)=>HSC0.out u HHD.out)
 have hcp:=HHD.out.cnt_le
 obtain ⟨tn,tl,tc,rfl⟩:∃tn tl tc,tv'=.slice tn tl tc:=by obtain ⟨a,c,h,_⟩:=HIB.out.strips;exact ⟨a,_,c,h⟩
 clear c1 HBX HO hos i1 i2 HRA hQX HSC0 hH0
 generalize hC:jG r=C at *
 have HCN:=q7 hC
 clear hC
 go_upto_region 11 with fail
 clear c6 f6
 generalize ((VB.alloc (Obj.cells qr 32)).setRow QX RA).setCell ⟨QX,6,none⟩ (.slice none 0 0)=V5 at *
 go_wp2_with fail
 go_loopw [9] (fun i wr=>∃k:Nat,k≤C∧i=.int .i64 k∧FiJ r zs lv' sv' cv' QX k VB wr) (fun i _=>C-(intOf i).toNat)
 case atStart=>exact ⟨0,Nat.zero_le _,rfl,HJ0.out⟩
 case round =>
  clear HJ0
  obtain ⟨k,hk,rfl,hJ⟩:=hrel
  have HJ:=q7 hJ
  obtain ⟨so,cap,j1,j2,j3,j4⟩:=hJ
  have hUQ2:Below U.heap.size U wr:=hbB.trans (j4.mono hUQ)
  have g1:=(hUQ2.block _ hl1).trans a1
  go_wp2_with (refine wpList_load_row rfl 32 _ rfl _ rfl _ _ _ _ g1 Tryz.underlying32 rfl hi28 ?_)
  clear g1 j1 j2 j3
  refine (HSC.out _).mono ?_
  rintro e wq ⟨rfl,hq1⟩
  replace HJ:=q7 (HJ.out.below hq1)
  replace hUQ2:=q8 hUQ2 hq1
  clear hq1 j4
  generalize hwq:wq=wr' at *
  clear hwq
  obtain ⟨so,cap,j1,j2,j3,j4⟩:=HJ.out
  by_cases hlt:k<C
  ·have hd:decide ((k:Int)<(C:Int))=true:=by simp;omega
   have hlc:k<jG r:=by have:=HCN.out;omega
   have HSR:=q7 (fun (u:World)=>HSR0.out k u HHD.out hlt)
   have hple:=K4 HHD.out hlc
   have hszz:=HHD.out.size hlc
   have hL:=HLEN.out
   rw[Int.mul_comm] at hL
   rw[←hL] at hple
   obtain ⟨M,hM⟩:∃M:Nat,jj r k*r.w=M:=⟨(jj r k*r.w).toNat,by omega⟩
   have HPR:=q7 (show zK r zs k=(zs.drop (Zo r k)).take M by rw[zK,hM,Int.toNat_natCast])
   have HEI:=q7 (q3V HHD.out hlc HFT.out)
   have HFF:=q7 (fun hk0=>XF (r:=r) (zs:=zs) hlc hk0)
   have HFS:=q7 (q0q r zs k)
   have HOK:=q7 (show wsE r (zK r zs k) (jj r k)=0→q2H r zs (k+1)=true from fun h0=>by rw[YQ,j1,h0];rfl)
   have hpi:=QC HHD.out k
   have hrw:=HHD.out.rows
   have hrh:=HHD.out.h
   have hrn:=HHD.out.row hlc
   have hww:=HHD.out.w
   have hdd:=HHD.out.depth
   have hkind:=HHD.out.kind
   have HAO:=q7 (show J0 (zK r zs k) r.depth=true from List.all_eq_true.2 fun z hm=>by
    have:=List.all_eq_true.1 HDO.out z (Zg hm)
    simp only[decide_eq_true_eq] at this
    simp only[QU,decide_eq_true_eq]
    omega)
   have HPKE:=q7 (fun (h:J0 (zK r zs k) r.depth=true) (hl:(zK r zs k).length≤4096)=>q32 (xs:=zK r zs k) (d:=r.depth) (by rw[qA,decide_eq_true_eq];exact hdd) hl h)
   have hPL:=QV HHD.out hlc HLEN.out
   rw[hM] at hple hszz hPL
   obtain ⟨KR,hKR⟩:∃KR:Int,(k:Int)*r.rows=KR:=⟨_,rfl⟩
   have hKR0:0≤KR∧KR≤64:=by
    have:=(HHD.out.cnt_pos k).1 hlc
    have h0:0≤(k:Int)*r.rows:=Int.mul_nonneg (by omega) (by omega)
    omega
   rw[hKR] at hpi
   generalize hRN:jj r k=RN at *
   clear hRN
   generalize hPP:Zo r k=PP at *
   clear hPP
   have hwm:IntKind.i64.wrap (M:Int)=M:=IntWalk.i64_in _ (by omega)
   have hpm:PP+M≤zs.length:=by omega
   have hKE:(KR+RN)*r.w=((PP+M:Nat):Int):=by rw[Int.add_mul,hM,←hpi];omega
   obtain ⟨EM,hEM⟩:∃EM:Nat,PP+M=EM:=⟨_,rfl⟩
   rw[hEM] at hKE hpm
   have hw1:IntKind.i64.wrap KR=KR:=IntWalk.i64_in _ (by omega)
   have hw2:IntKind.i64.wrap (PP:Int)=PP:=IntWalk.i64_in _ (by omega)
   have hw3:IntKind.i64.wrap (KR+RN)=KR+RN:=IntWalk.i64_in _ (by omega)
   have hw4:IntKind.i64.wrap (EM:Int)=EM:=IntWalk.i64_in _ (by omega)
   have HII:=q7 (fun (u:World) (hu:Below w.heap.size w u)=>Kh (ca:=vc) (P:=PP) (M:=M) (fun j hj=>(hu.cell (p:=⟨bk,off+j,none⟩) hbk).trans (HC.out j hj)) (Nat.lt_of_lt_of_le hbk hu.size) (by omega) hz4)
   rw[←HPR.out] at HII
   have HWSS:=q7 (show wsS r (zK r zs k) RN=if r.kind=0 then zO (zK r zs k) r.depth else qx r.w RN (zK r zs k) r.kind r.lens from rfl)
   have HWSE:=q7 (show wsE r (zK r zs k) RN=if r.kind=0 then Q9 (zK r zs k) r.depth else qD r.w RN (zK r zs k) r.kind r.lens from rfl)
   generalize zK r zs k=PT at *
   have hPT4:PT.length≤4096:=by omega
   have HPK0:=q7 (HPKE.out HAO.out hPT4)
   obtain ⟨D,hD⟩:=Int.eq_ofNat_of_zero_le (show 0≤r.depth by omega)
   have HPKD:=q7 (fun (v':Value) (u:World) (hv':qd u v' PT)=>q0H v' PT D (by omega) hPT4 (by rw[←hD];exact HAO.out) u hv')
   rw[←hD] at HPKD
   have HPS:=q7 (show bytesOf (qw PT r.depth)=zO PT r.depth by rw[zO,if_pos HPK0.out])
   rw[HPS.out] at HPKD
   obtain ⟨NP,hNP⟩:∃NP,EM-PP=NP:=⟨_,rfl⟩
   have hNM:NP=M:=by omega
   subst hNM
   have hslE:∀V:World,(Instr.slice 22 (.slice (some ⟨bk,off,none⟩) zs.length vc) (some (.int .i64 PP)) (some (.int .i64 EM)) none).run Tryz.prog V=.ok (.slice (some ⟨bk,off+PP,none⟩) NP (vc-PP)) V:=fun V=>by
    rw[←hNP];exact q3I Tryz.prog 22 Tryz.underlying22 (fun _=>by kernel_rfl) bk off zs.length vc PP EM (by omega) (by omega) (by omega) V
   have hpr:KR*r.w=(PP:Int):=hpi.symm
   clear hpi
   obtain ⟨OP,hOP⟩:∃OP,off+PP=OP:=⟨_,rfl⟩
   obtain ⟨CP,hCP⟩:∃CP,vc-PP=CP:=⟨_,rfl⟩
   rw[hOP,hCP] at hslE HII
   clear hOP hCP hNP hEM hL hple hszz HPR HPKE hPL hD
   have hlw:w.heap.size<wr'.heap.size:=Nat.lt_of_lt_of_le hl1 hUQ2.size
   have hlw2:w.heap.size+1<wr'.heap.size:=Nat.lt_of_lt_of_le hl2 hUQ2.size
   have g1:=(hUQ2.block _ hl1).trans a1
   have g2:=(hUQ2.block _ hl2).trans a2
   have HS:=q7 (show ∀v,Below wr'.heap.size wr' v→v.heap[w.heap.size]?=some (.cells RQ 32 (0,0))∧v.cell? ⟨w.heap.size,0,none⟩=some (.int .i64 r.w)∧v.cell? ⟨w.heap.size,4,none⟩=some (.int .i64 r.rows)∧v.cell? ⟨w.heap.size+1,2,none⟩=some (.slice (some ⟨bk,off,none⟩) zs.length vc) from fun v h=>by
    have e1:=HRC.out v ((h.block _ hlw).trans g1)
    exact ⟨(h.block _ hlw).trans g1,e1.1,e1.2.2.2.2.1,(jJ ((h.block _ hlw2).trans g2)).2.2⟩)
   clear j1 j2 j3 j4 g1 g2
   go_upto_region 14 with fail
   go_cut [10] from 60 to 86 (fun q v=>∃PX,q=.pointer (some ⟨PX,0,none⟩)∧v.heap[PX]?=some (.cells #[.int .i64 r.w,.int .i64 RN,.slice (some ⟨bk,OP,none⟩) NP CP] 34 (0,0))∧wr'.heap.size≤PX∧Below wr'.heap.size wr' v)
   case first =>
    have hWd:Below wr'.heap.size wr' wr'.drew:=(Below.refl _ _).drew
    have hSd:=HS.out _ hWd
    have hmx:Tryz.prog.follows .mixedOrders=true:=by kernel_rfl
    refine qK (S:=(fun v:World=>v.heap[w.heap.size]?=some (.cells RQ 32 (0,0))∧v.cell? ⟨w.heap.size,0,none⟩=some (.int .i64 r.w)∧v.cell? ⟨w.heap.size,4,none⟩=some (.int .i64 r.rows)∧v.cell? ⟨w.heap.size+1,2,none⟩=some (.slice (some ⟨bk,off,none⟩) zs.length vc))) (f:=28) hmx ?_
    show j7 _ _ _ _ _ _ 29 _ _ wr'.drew
    refine q9 (i:=0) (oi:=_) (v:=?vv1) (some 60) [] rfl rfl (by kernel_rfl) (by kernel_rfl) (by kernel_rfl) (by kernel_rfl) (by kernel_rfl) (fun _ _ _ h=>h) (Or.inl ⟨by rfl,?yy1⟩) hSd ?rr1
    case yy1=>(intro wq hSq;obtain ⟨hq1,_,_,_⟩:=hSq;go_simp<;>with_reducible rfl)
    simp only[Act.put,List.setIfInBounds_toArray,List.set_cons_succ,List.set_cons_zero]
    refine q9 (i:=2) (oi:=_) (v:=.agg RQ) (some 62) [] rfl rfl (by kernel_rfl) (by kernel_rfl) (by kernel_rfl) (by kernel_rfl) (by kernel_rfl) (fun _ _ _ h=>h) (Or.inl ⟨by rfl,?yy2⟩) hSd ?rr2
    case yy2=>(intro wq hSq;obtain ⟨hq1,_,_,_⟩:=hSq;exact zY 32 _ rfl _ rfl _ _ _ _ hq1 Tryz.underlying32 rfl hi28)
    simp only[Act.put,List.setIfInBounds_toArray,List.set_cons_succ,List.set_cons_zero]
    refine q9 (i:=3) (oi:=_) (v:=?vv3) (some 63) [] rfl rfl (by kernel_rfl) (by kernel_rfl) (by kernel_rfl) (by kernel_rfl) (by kernel_rfl) (fun _ _ _ h=>h) (Or.inl ⟨by rfl,?yy3⟩) hSd ?rr3
    case yy3=>(intro wq hSq;obtain ⟨hq1,_,_,_⟩:=hSq;go_simp<;>with_reducible rfl)
    simp only[Act.put,List.setIfInBounds_toArray,List.set_cons_succ,List.set_cons_zero]
    refine q9 (i:=5) (oi:=_) (v:=?vv4) (some 65) [] rfl rfl (by kernel_rfl) (by kernel_rfl) (by kernel_rfl) (by kernel_rfl) (by kernel_rfl) (fun _ _ _ h=>h) (Or.inl ⟨by rfl,?yy4⟩) hSd ?rr4
    case yy4=>(intro wq hSq;obtain ⟨hq1,_,_,_⟩:=hSq;go_simp<;>with_reducible rfl)
    simp only[Act.put,List.setIfInBounds_toArray,List.set_cons_succ,List.set_cons_zero]
    refine q9 (i:=7) (oi:=_) (v:=?vv5) (some 67) [] rfl rfl (by kernel_rfl) (by kernel_rfl) (by kernel_rfl) (by kernel_rfl) (by kernel_rfl) (fun _ _ _ h=>h) (Or.inl ⟨by rfl,?yy5⟩) hSd ?rr5
    case yy5=>(intro wq hSq;obtain ⟨hq1,_,_,_⟩:=hSq;go_simp<;>with_reducible rfl)
    simp only[Act.put,List.setIfInBounds_toArray,List.set_cons_succ,List.set_cons_zero]
    refine q9 (i:=8) (oi:=_) (v:=?vv6) (some 68) [] rfl rfl (by kernel_rfl) (by kernel_rfl) (by kernel_rfl) (by kernel_rfl) (by kernel_rfl) (fun _ _ _ h=>h) (Or.inl ⟨by rfl,?yy6⟩) hSd ?rr6
    case yy6=>(intro wq hSq;obtain ⟨hq1,_,_,_⟩:=hSq;go_simp<;>with_reducible rfl)
    simp only[Act.put,List.setIfInBounds_toArray,List.set_cons_succ,List.set_cons_zero]
    refine q9 (i:=11) (oi:=_) (v:=?vv7) (some 71) [] rfl rfl (by kernel_rfl) (by kernel_rfl) (by kernel_rfl) (by kernel_rfl) (by kernel_rfl) (fun _ _ _ h=>h) (Or.inl ⟨by rfl,?yy7⟩) hSd ?rr7
    case yy7=>(intro wq hSq;obtain ⟨hq1,_,_,_⟩:=hSq;go_simp<;>with_reducible rfl)
    simp only[Act.put,List.setIfInBounds_toArray,List.set_cons_succ,List.set_cons_zero]
    refine q9 (i:=14) (oi:=_) (v:=?vv8) (some 74) [] rfl rfl (by kernel_rfl) (by kernel_rfl) (by kernel_rfl) (by kernel_rfl) (by kernel_rfl) (fun _ _ _ h=>h) (Or.inl ⟨by rfl,?yy8⟩) hSd ?rr8
    case yy8=>(intro wq hSq;obtain ⟨hq1,_,_,_⟩:=hSq;go_simp<;>with_reducible rfl)
    simp only[Act.put,List.setIfInBounds_toArray,List.set_cons_succ,List.set_cons_zero]
    refine q9 (i:=15) (oi:=_) (v:=?vv9) (some 75) [] rfl rfl (by kernel_rfl) (by kernel_rfl) (by kernel_rfl) (by kernel_rfl) (by kernel_rfl) (fun _ _ _ h=>h) (Or.inl ⟨by rfl,?yy9⟩) hSd ?rr9
    case yy9=>(intro wq hSq;obtain ⟨hq1,_,_,_⟩:=hSq;go_simp<;>with_reducible rfl)
    simp only[Act.put,List.setIfInBounds_toArray,List.set_cons_succ,List.set_cons_zero]
    refine q9 (i:=18) (oi:=_) (v:=.agg RQ) (some 78) [] rfl rfl (by kernel_rfl) (by kernel_rfl) (by kernel_rfl) (by kernel_rfl) (by kernel_rfl) (fun _ _ _ h=>h) (Or.inl ⟨by rfl,?yy10⟩) hSd ?rr10
    case yy10=>(intro wq hSq;obtain ⟨hq1,_,_,_⟩:=hSq;exact zY 32 _ rfl _ rfl _ _ _ _ hq1 Tryz.underlying32 rfl hi28)
    simp only[Act.put,List.setIfInBounds_toArray,List.set_cons_succ,List.set_cons_zero]
    refine q9 (i:=19) (oi:=_) (v:=?vv11) (some 79) [] rfl rfl (by kernel_rfl) (by kernel_rfl) (by kernel_rfl) (by kernel_rfl) (by kernel_rfl) (fun _ _ _ h=>h) (Or.inl ⟨by rfl,?yy11⟩) hSd ?rr11
    case yy11=>(intro wq hSq;obtain ⟨hq1,_,_,_⟩:=hSq;go_simp<;>with_reducible rfl)
    simp only[Act.put,List.setIfInBounds_toArray,List.set_cons_succ,List.set_cons_zero]
    refine q9 (i:=22) (oi:=_) (v:=?vv12) (some 82) [] rfl rfl (by kernel_rfl) (by kernel_rfl) (by kernel_rfl) (by kernel_rfl) (by kernel_rfl) (fun _ _ _ h=>h) (Or.inl ⟨by rfl,?yy12⟩) hSd ?rr12
    case yy12=>(intro wq hSq;obtain ⟨hq1,_,_,_⟩:=hSq;go_simp<;>with_reducible rfl)
    simp only[Act.put,List.setIfInBounds_toArray,List.set_cons_succ,List.set_cons_zero]
    refine q9 (i:=1) (oi:=_) (v:=?vv13) (some 61) [] rfl rfl (by kernel_rfl) (by kernel_rfl) (by kernel_rfl) (by kernel_rfl) (by kernel_rfl) (fun _ _ _ h=>h) (Or.inl ⟨by rfl,?yy13⟩) hSd ?rr13
    case yy13=>(intro wq hSq;obtain ⟨hq1,_,_,_⟩:=hSq;go_simp<;>with_reducible rfl)
    simp only[Act.put,List.setIfInBounds_toArray,List.set_cons_succ,List.set_cons_zero]
    refine q9 (i:=6) (oi:=_) (v:=?vv14) (some 66) [] rfl rfl (by kernel_rfl) (by kernel_rfl) (by kernel_rfl) (by kernel_rfl) (by kernel_rfl) (fun _ _ _ h=>h) (Or.inl ⟨by rfl,?yy14⟩) hSd ?rr14
    case yy14=>(intro wq hSq;obtain ⟨hq1,_,_,_⟩:=hSq;go_simp<;>with_reducible rfl)
    simp only[Act.put,List.setIfInBounds_toArray,List.set_cons_succ,List.set_cons_zero]
    refine q9 (i:=9) (oi:=_) (v:=?vv15) (some 69) [] rfl rfl (by kernel_rfl) (by kernel_rfl) (by kernel_rfl) (by kernel_rfl) (by kernel_rfl) (fun _ _ _ h=>h) (Or.inl ⟨by rfl,?yy15⟩) hSd ?rr15
    case yy15=>(intro wq hSq;obtain ⟨hq1,_,_,_⟩:=hSq;go_simp<;>with_reducible rfl)
    simp only[Act.put,List.setIfInBounds_toArray,List.set_cons_succ,List.set_cons_zero]
    refine q9 (i:=12) (oi:=_) (v:=?vv16) (some 72) [] rfl rfl (by kernel_rfl) (by kernel_rfl) (by kernel_rfl) (by kernel_rfl) (by kernel_rfl) (fun _ _ _ h=>h) (Or.inl ⟨by rfl,?yy16⟩) hSd ?rr16
    case yy16=>(intro wq hSq;obtain ⟨hq1,_,_,_⟩:=hSq;go_simp<;>with_reducible rfl)
    simp only[Act.put,List.setIfInBounds_toArray,List.set_cons_succ,List.set_cons_zero]
    refine q9 (i:=16) (oi:=_) (v:=?vv17) (some 76) [] rfl rfl (by kernel_rfl) (by kernel_rfl) (by kernel_rfl) (by kernel_rfl) (by kernel_rfl) (fun _ _ _ h=>h) (Or.inl ⟨by rfl,?yy17⟩) hSd ?rr17
    case yy17=>(intro wq hSq;obtain ⟨hq1,_,_,_⟩:=hSq;go_simp<;>with_reducible rfl)
    simp only[Act.put,List.setIfInBounds_toArray,List.set_cons_succ,List.set_cons_zero]
    refine q9 (i:=23) (oi:=_) (v:=?vv18) (some 83) [] rfl rfl (by kernel_rfl) (by kernel_rfl) (by kernel_rfl) (by kernel_rfl) (by kernel_rfl) (fun _ _ _ h=>h) (Or.inl ⟨by rfl,?yy18⟩) hSd ?rr18
    case yy18=>(intro wq hSq;obtain ⟨hq1,_,_,_⟩:=hSq;go_simp<;>with_reducible rfl)
    simp only[Act.put,List.setIfInBounds_toArray,List.set_cons_succ,List.set_cons_zero]
    refine q9 (i:=10) (oi:=_) (v:=.int .i64 KR) (some 70) [] rfl rfl (by kernel_rfl) (by kernel_rfl) (by kernel_rfl) (by kernel_rfl) (by kernel_rfl) (fun _ _ _ h=>h) (Or.inl ⟨by rfl,?yy19⟩) hSd ?rr19
    case yy19=>(intro wq hSq;obtain ⟨hq1,_,_,_⟩:=hSq;first|(go_simp;done)|(go_simp;rw[hKR];try (go_simp<;>with_reducible rfl)))
    simp only[Act.put,List.setIfInBounds_toArray,List.set_cons_succ,List.set_cons_zero]
    refine q9 (i:=17) (oi:=_) (v:=.int .i64 KR) (some 77) [] rfl rfl (by kernel_rfl) (by kernel_rfl) (by kernel_rfl) (by kernel_rfl) (by kernel_rfl) (fun _ _ _ h=>h) (Or.inl ⟨by rfl,?yy20⟩) hSd ?rr20
    case yy20=>(intro wq hSq;obtain ⟨hq1,_,_,_⟩:=hSq;first|(go_simp;done)|(go_simp;rw[hKR];try (go_simp<;>with_reducible rfl)))
    simp only[Act.put,List.setIfInBounds_toArray,List.set_cons_succ,List.set_cons_zero]
    refine q9 (i:=13) (oi:=_) (v:=.int .i64 PP) (some 73) [] rfl rfl (by kernel_rfl) (by kernel_rfl) (by kernel_rfl) (by kernel_rfl) (by kernel_rfl) (fun _ _ _ h=>h) (Or.inl ⟨by rfl,?yy21⟩) hSd ?rr21
    case yy21=>(intro wq hSq;obtain ⟨hq1,_,_,_⟩:=hSq;first|(go_simp;done)|(go_simp;rw[hpr];try (go_simp<;>with_reducible rfl)))
    simp only[Act.put,List.setIfInBounds_toArray,List.set_cons_succ,List.set_cons_zero]
    refine JC (i:=4) (j:=27) (oi:=_) (oj:=_) (by kernel_rfl) rfl rfl (fun K' hK=>?brA) (fun K' hK=>?brB)
    case brA =>
     rw[if_pos (by rfl)]
     go_simp
     refine (HSR.out _).mono ?_
     rintro e X1 ⟨rfl,hbx⟩
     have hX1:Below wr'.heap.size wr' X1:=q8 hWd hbx
     clear hbx
     have hSd:=HS.out _ hX1
     refine hK.out _ _ hSd ?_
     clear hK
     try simp only[Act.put]
     refine JC (i:=20) (j:=27) (oi:=_) (oj:=_) (by kernel_rfl) rfl rfl (fun K' hK=>?brC) (fun K' hK=>?brD)
     case brC =>
      rw[if_pos (by rfl)]
      go_simp
      refine (HSR.out _).mono ?_
      rintro e X2 ⟨rfl,hbx⟩
      have hX2:Below wr'.heap.size wr' X2:=q8 hX1 hbx
      clear hbx
      have hSd:=HS.out _ hX2
      refine hK.out _ _ hSd ?_
      clear hK
      try simp only[Act.put]
      refine q9 (i:=21) (oi:=_) (v:=?vv22) (some 81) [] rfl rfl (by kernel_rfl) (by kernel_rfl) (by kernel_rfl) (by kernel_rfl) (by kernel_rfl) (fun _ _ _ h=>h) (Or.inl ⟨by rfl,?yy22⟩) hSd ?rr22
      case yy22=>(intro wq hSq;obtain ⟨hq1,_,_,_⟩:=hSq;go_simp<;>with_reducible rfl)
      simp only[Act.put,List.setIfInBounds_toArray,List.set_cons_succ,List.set_cons_zero]
      refine q9 (i:=24) (oi:=_) (v:=.int .i64 EM) (some 84) [] rfl rfl (by kernel_rfl) (by kernel_rfl) (by kernel_rfl) (by kernel_rfl) (by kernel_rfl) (fun _ _ _ h=>h) (Or.inl ⟨by rfl,?yy23⟩) hSd ?rr23
      case yy23=>(intro wq hSq;obtain ⟨hq1,_,_,_⟩:=hSq;first|(go_simp;done)|(go_simp;rw[hKE];try (go_simp<;>with_reducible rfl)))
      simp only[Act.put,List.setIfInBounds_toArray,List.set_cons_succ,List.set_cons_zero]
      refine q9 (i:=25) (oi:=_) (v:=?vv24) (some 85) [] rfl rfl (by kernel_rfl) (by kernel_rfl) (by kernel_rfl) (by kernel_rfl) (by kernel_rfl) (fun _ _ _ h=>h) (Or.inl ⟨by rfl,?yy24⟩) hSd ?rr24
      case yy24=>(intro wq hSq;obtain ⟨hq1,_,_,_⟩:=hSq;go_simp<;>with_reducible rfl)
      simp only[Act.put,List.setIfInBounds_toArray,List.set_cons_succ,List.set_cons_zero]
      refine q9 (i:=26) (oi:=_) (v:=?vv25) (some 86) [] rfl rfl (by kernel_rfl) (by kernel_rfl) (by kernel_rfl) (by kernel_rfl) (by kernel_rfl) (fun _ _ _ h=>h) (Or.inl ⟨by rfl,?yy25⟩) hSd ?rr25
      case yy25=>(intro wq hSq;obtain ⟨hq1,_,_,_⟩:=hSq;go_simp<;>with_reducible rfl)
      simp only[Act.put,List.setIfInBounds_toArray,List.set_cons_succ,List.set_cons_zero]
      refine qm (i:=27) (o:=_) (by kernel_rfl) rfl (fun K' hK=>?_)
      rw[if_pos (by rfl)]
      go_simp
      have hX3:Below wr'.heap.size wr' (X2.alloc (Obj.cells #[.int .i64 0,.int .i64 0,.slice none 0 0] 34)):=hX2.alloc hX2.size _
      have hSd:=HS.out _ hX3
      refine hK.out _ _ hSd ?_
      clear hK
      try simp only[Act.put]
      refine qV (o:=_) (by kernel_rfl) rfl (fun K' hK=>?_)
      rw[if_pos (by rfl)]
      go_simp
      refine hK.out _ _ ?_
      clear hK
      refine qU (by kernel_rfl) ?_ _
      try simp only[Act.put]
      clear hSd
      go_wp2
      go_meet
      case rel=>exact ⟨X2.heap.size,rfl,al1 X2 (Obj.cells #[.int .i64 r.w,.int .i64 RN,.slice (some ⟨bk,OP,none⟩) NP CP] 34),hX2.size,hX2.alloc hX2.size _⟩
     case brD =>
      rw[if_pos (by rfl)]
      go_simp
      have hZ1:Below wr'.heap.size wr' (X1.alloc (Obj.cells #[.int .i64 0,.int .i64 0,.slice none 0 0] 34)):=(hX1.alloc hX1.size _)
      have gz:(X1.alloc (Obj.cells #[.int .i64 0,.int .i64 0,.slice none 0 0] 34)).heap[X1.heap.size]?=_:=al1 X1 (Obj.cells #[.int .i64 0,.int .i64 0,.slice none 0 0] 34)
      have hpx:wr'.heap.size≤X1.heap.size:=hX1.size
      have hSd:=HS.out _ hZ1
      refine hK.out _ _ hSd ?_
      clear hK
      try simp only[Act.put]
      generalize (X1.alloc (Obj.cells #[.int .i64 0,.int .i64 0,.slice none 0 0] 34))=Z1 at *
      generalize X1.heap.size=PX at *
      have lz:=(Array.getElem?_eq_some_iff.1 gz).1
      refine qm (i:=20) (o:=_) (by kernel_rfl) rfl (fun K' hK=>?_)
      rw[if_pos (by rfl)]
      go_simp
      refine (HSR.out _).mono ?_
      rintro e X2 ⟨rfl,hbx⟩
      have hX2:Below wr'.heap.size wr' X2:=q8 hZ1 hbx
      have gx:=(hbx.block _ lz).trans gz
      clear hbx
      have hSd:=HS.out _ hX2
      refine hK.out _ _ hSd ?_
      clear hK
      try simp only[Act.put]
      refine q9 (i:=21) (oi:=_) (v:=?vv26) (some 81) [] rfl rfl (by kernel_rfl) (by kernel_rfl) (by kernel_rfl) (by kernel_rfl) (by kernel_rfl) (fun _ _ _ h=>h) (Or.inl ⟨by rfl,?yy26⟩) hSd ?rr26
      case yy26=>(intro wq hSq;obtain ⟨hq1,_,_,_⟩:=hSq;go_simp<;>with_reducible rfl)
      simp only[Act.put,List.setIfInBounds_toArray,List.set_cons_succ,List.set_cons_zero]
      refine q9 (i:=24) (oi:=_) (v:=.int .i64 EM) (some 84) [] rfl rfl (by kernel_rfl) (by kernel_rfl) (by kernel_rfl) (by kernel_rfl) (by kernel_rfl) (fun _ _ _ h=>h) (Or.inl ⟨by rfl,?yy27⟩) hSd ?rr27
      case yy27=>(intro wq hSq;obtain ⟨hq1,_,_,_⟩:=hSq;first|(go_simp;done)|(go_simp;rw[hKE];try (go_simp<;>with_reducible rfl)))
      simp only[Act.put,List.setIfInBounds_toArray,List.set_cons_succ,List.set_cons_zero]
      refine q9 (i:=25) (oi:=_) (v:=?vv28) (some 85) [] rfl rfl (by kernel_rfl) (by kernel_rfl) (by kernel_rfl) (by kernel_rfl) (by kernel_rfl) (fun _ _ _ h=>h) (Or.inl ⟨by rfl,?yy28⟩) hSd ?rr28
      case yy28=>(intro wq hSq;obtain ⟨hq1,_,_,_⟩:=hSq;go_simp<;>with_reducible rfl)
      simp only[Act.put,List.setIfInBounds_toArray,List.set_cons_succ,List.set_cons_zero]
      refine q9 (i:=26) (oi:=_) (v:=?vv29) (some 86) [] rfl rfl (by kernel_rfl) (by kernel_rfl) (by kernel_rfl) (by kernel_rfl) (by kernel_rfl) (fun _ _ _ h=>h) (Or.inl ⟨by rfl,?yy29⟩) hSd ?rr29
      case yy29=>(intro wq hSq;obtain ⟨hq1,_,_,_⟩:=hSq;go_simp<;>with_reducible rfl)
      simp only[Act.put,List.setIfInBounds_toArray,List.set_cons_succ,List.set_cons_zero]
      obtain ⟨z0,z1,z2⟩:=jJ gx
      have f0:=Lib.frozen_of_heap gx 0
      have f1:=Lib.frozen_of_heap gx 1
      have f2:=Lib.frozen_of_heap gx 2
      obtain ⟨vS,_,_,_⟩:=Yv gx (.int .i64 r.w) (.int .i64 RN) (.slice (some ⟨bk,OP,none⟩) NP CP) w (Nat.le_trans (q8 HB.out hUQ2).size hpx) ((q8 HB.out hUQ2).trans (hX2.mono (q8 HB.out hUQ2).size))
      have hB4:=zq hX2 hpx (.int .i64 r.w) (.int .i64 RN) (.slice (some ⟨bk,OP,none⟩) NP CP)
      refine qV (o:=_) (by kernel_rfl) rfl (fun K' hK=>?_)
      rw[if_pos (by rfl)]
      go_simp
      refine hK.out _ _ ?_
      clear hK
      refine qU (by kernel_rfl) ?_ _
      try simp only[Act.put]
      clear hSd
      go_wp2
      go_meet
      case rel=>exact ⟨PX,rfl,vS,hpx,hB4⟩
    case brB =>
     rw[if_pos (by rfl)]
     go_simp
     have hZ1:Below wr'.heap.size wr' (wr'.alloc (Obj.cells #[.int .i64 0,.int .i64 0,.slice none 0 0] 34)).drew:=(((Below.refl wr'.heap.size wr').alloc (Nat.le_refl _) _).drew)
     have gz:(wr'.alloc (Obj.cells #[.int .i64 0,.int .i64 0,.slice none 0 0] 34)).drew.heap[wr'.heap.size]?=_:=al1 wr' (Obj.cells #[.int .i64 0,.int .i64 0,.slice none 0 0] 34)
     have hpx:wr'.heap.size≤wr'.heap.size:=Nat.le_refl _
     have hSd:=HS.out _ hZ1
     refine hK.out _ _ hSd ?_
     clear hK
     try simp only[Act.put]
     generalize (wr'.alloc (Obj.cells #[.int .i64 0,.int .i64 0,.slice none 0 0] 34)).drew=Z1 at *
     have lz:=(Array.getElem?_eq_some_iff.1 gz).1
     refine qm (i:=4) (o:=_) (by kernel_rfl) rfl (fun K' hK=>?_)
     rw[if_pos (by rfl)]
     go_simp
     refine (HSR.out _).mono ?_
     rintro e X1 ⟨rfl,hbx⟩
     have hX1:Below wr'.heap.size wr' X1:=q8 hZ1 hbx
     have gy:=(hbx.block _ lz).trans gz
     have ly:=(Array.getElem?_eq_some_iff.1 gy).1
     clear hbx
     have hSd:=HS.out _ hX1
     refine hK.out _ _ hSd ?_
     clear hK
     try simp only[Act.put]
     refine qm (i:=20) (o:=_) (by kernel_rfl) rfl (fun K' hK=>?_)
     rw[if_pos (by rfl)]
     go_simp
     refine (HSR.out _).mono ?_
     rintro e X2 ⟨rfl,hbx⟩
     have hX2:Below wr'.heap.size wr' X2:=q8 hX1 hbx
     have gx:=(hbx.block _ ly).trans gy
     clear hbx
     have hSd:=HS.out _ hX2
     refine hK.out _ _ hSd ?_
     clear hK
     try simp only[Act.put]
     refine q9 (i:=21) (oi:=_) (v:=?vv30) (some 81) [] rfl rfl (by kernel_rfl) (by kernel_rfl) (by kernel_rfl) (by kernel_rfl) (by kernel_rfl) (fun _ _ _ h=>h) (Or.inl ⟨by rfl,?yy30⟩) hSd ?rr30
     case yy30=>(intro wq hSq;obtain ⟨hq1,_,_,_⟩:=hSq;go_simp<;>with_reducible rfl)
     simp only[Act.put,List.setIfInBounds_toArray,List.set_cons_succ,List.set_cons_zero]
     refine q9 (i:=24) (oi:=_) (v:=.int .i64 EM) (some 84) [] rfl rfl (by kernel_rfl) (by kernel_rfl) (by kernel_rfl) (by kernel_rfl) (by kernel_rfl) (fun _ _ _ h=>h) (Or.inl ⟨by rfl,?yy31⟩) hSd ?rr31
     case yy31=>(intro wq hSq;obtain ⟨hq1,_,_,_⟩:=hSq;first|(go_simp;done)|(go_simp;rw[hKE];try (go_simp<;>with_reducible rfl)))
     simp only[Act.put,List.setIfInBounds_toArray,List.set_cons_succ,List.set_cons_zero]
     refine q9 (i:=25) (oi:=_) (v:=?vv32) (some 85) [] rfl rfl (by kernel_rfl) (by kernel_rfl) (by kernel_rfl) (by kernel_rfl) (by kernel_rfl) (fun _ _ _ h=>h) (Or.inl ⟨by rfl,?yy32⟩) hSd ?rr32
     case yy32=>(intro wq hSq;obtain ⟨hq1,_,_,_⟩:=hSq;go_simp<;>with_reducible rfl)
     simp only[Act.put,List.setIfInBounds_toArray,List.set_cons_succ,List.set_cons_zero]
     refine q9 (i:=26) (oi:=_) (v:=?vv33) (some 86) [] rfl rfl (by kernel_rfl) (by kernel_rfl) (by kernel_rfl) (by kernel_rfl) (by kernel_rfl) (fun _ _ _ h=>h) (Or.inl ⟨by rfl,?yy33⟩) hSd ?rr33
     case yy33=>(intro wq hSq;obtain ⟨hq1,_,_,_⟩:=hSq;go_simp<;>with_reducible rfl)
     simp only[Act.put,List.setIfInBounds_toArray,List.set_cons_succ,List.set_cons_zero]
     obtain ⟨z0,z1,z2⟩:=jJ gx
     have f0:=Lib.frozen_of_heap gx 0
     have f1:=Lib.frozen_of_heap gx 1
     have f2:=Lib.frozen_of_heap gx 2
     obtain ⟨vS,_,_,_⟩:=Yv gx (.int .i64 r.w) (.int .i64 RN) (.slice (some ⟨bk,OP,none⟩) NP CP) w (Nat.le_trans (q8 HB.out hUQ2).size hpx) ((q8 HB.out hUQ2).trans (hX2.mono (q8 HB.out hUQ2).size))
     have hB4:=zq hX2 hpx (.int .i64 r.w) (.int .i64 RN) (.slice (some ⟨bk,OP,none⟩) NP CP)
     refine qV (o:=_) (by kernel_rfl) rfl (fun K' hK=>?_)
     rw[if_pos (by rfl)]
     go_simp
     refine hK.out _ _ ?_
     clear hK
     refine qU (by kernel_rfl) ?_ _
     try simp only[Act.put]
     clear hSd
     go_wp2
     go_meet
     case rel=>exact ⟨wr'.heap.size,rfl,vS,hpx,hB4⟩
   case rest =>
    obtain ⟨PX,rfl,gp,hpx,hbp⟩:=hcut
    replace HJ:=q7 (HJ.out.below hbp)
    replace hUQ2:=q8 hUQ2 hbp
    generalize hwc:wc=W1 at *
    clear hwc
    obtain ⟨p0,p1,p2⟩:=jJ gp
    have lp:=(Array.getElem?_eq_some_iff.1 gp).1
    have g1:=(hUQ2.block _ hl1).trans a1
    obtain ⟨s0,s1,s2,s3,s4,s5,s6,s13,s26⟩:=HRC.out _ g1
    have HWI:=q7 (q8 HB.out hUQ2)
    go_wp2_with fail
    clear p0 p1 p2 s0 s1 s2 s3 s4 s5 s6 s13 s26
    refine (HPKD.out _ W1 (HII.out _ HWI.out)).mono ?_
    rintro e W2 ⟨rfl,hb6⟩
    replace HJ:=q7 (HJ.out.below hb6)
    replace hUQ2:=q8 hUQ2 hb6
    replace HWI:=q7 (q8 HB.out hUQ2)
    replace gp:=(hb6.block _ lp).trans gp
    clear hb6 g1 lp
    have lp:=(Array.getElem?_eq_some_iff.1 gp).1
    have g1:=(hUQ2.block _ hl1).trans a1
    obtain ⟨s0,s1,s2,s3,s4,s5,s6,s13,s26⟩:=HRC.out _ g1
    obtain ⟨p0,p1,p2⟩:=jJ gp
    go_upto_if 94 with fail
    go_cut [11] from 87 to 107 (fun q v=>wsE r PT RN=0∧q=.string (str (wsS r PT RN))∧FiJ r zs lv' sv' cv' QX k VB v∧Below U.heap.size U v)
    case first =>
     by_cases hk0:r.kind=0
     ·have hkd:decide ((0:Int)<r.kind)=false:=decide_eq_false (by omega)
      have HW0:=q7 (show wsE r PT RN=0 by rw[HWSE.out,if_pos hk0];exact HPK0.out)
      have HW1:=q7 (show zO PT r.depth=wsS r PT RN by rw[HWSS.out,if_pos hk0])
      clear hkd
      go_wp2_with fail
      go_meet
      case rel=>exact ⟨HW0.out,by rw[HW1.out],HJ.out,hUQ2⟩
     ·have hkp:0<r.kind:=by omega
      have hkd:decide ((0:Int)<r.kind)=true:=decide_eq_true hkp
      have HW0:=q7 (show wsE r PT RN=qD r.w RN PT r.kind r.lens by rw[HWSE.out,if_neg hk0])
      have HW1:=q7 (show wsS r PT RN=qx r.w RN PT r.kind r.lens by rw[HWSS.out,if_neg hk0])
      have HWC:=q7 (HWD0.out _ PT RN W2 HWI.out (HII.out _ HWI.out))
      rw[←HW0.out,←HW1.out] at HWC
      clear hk0
      go_wp2_with fail
      clear p0 p1 p2 s0 s1 s2 s3 s4 s5 s6 s13 s26
      refine (HWC.out).mono ?_
      rintro e W3 ⟨rfl,hb7⟩
      by_cases h0:wsE r PT RN=0
      ·have HJ3:=q7 (HJ.out.below hb7)
       have hUQ3:=q8 hUQ2 hb7
       have hwe:(wsE r PT RN != 0)=false:=by simpa using h0
       have HH0:=q7 h0
       clear h0 hb7
       go_wp2
       go_meet
       case rel=>exact ⟨HH0.out,rfl,HJ3.out,hUQ3⟩
      ·rcases HEI.out with he|he
       ·exact absurd he h0
       rw[he]
       have hzf:=HFF.out h0
       rw[HCN.out] at hzf
       have hee:E=4:=by rw[HE.out,hzf];rfl
       subst hee
       have hUQ3:=q8 hUQ2 hb7
       clear h0 hb7
       have g3:=(hUQ3.block _ hl3).trans a3
       have HG:=q7 (setRow_heap _ _ _ qr _ _ g3)
       have HBF:=q7 (below_setRow (g:=w.heap.size+2) (q8 HB.out hUQ3) (by omega) qr)
       go_wp2_with (refine wpList_store_row rfl 32 _ _ rfl (w.heap.size+2) qr rfl rfl _ _ g3 iz rfl oz ?_)
       refine bodyPost_ret (v:=.tuple #[.agg qr,.int .i64 4]) (qq Tryz.results13 _ _ _ _ _ rfl rfl HG.out iz) rfl ⟨HBF.out,.inr ⟨by decide,rfl⟩⟩
    case rest =>
     obtain ⟨h0,rfl,hJ,hUX⟩:=hcut
     have HJ2:=q7 hJ
     obtain ⟨so,cap,k1,k2,k3,k4⟩:=hJ
     generalize hwc:wc=X2 at *
     clear hwc
     obtain ⟨T,hT⟩:∃T,wsS r PT RN=T:=⟨_,rfl⟩
     rw[hT] at HFS ⊢
     clear hT
     obtain ⟨i0,hi,hz0,hz1,hz2⟩:=info_parts Tryz.infoStrF
     obtain ⟨s0,s1,s2,s3,s4,s5,s6,s13,s26⟩:=qv k2
     have hXQ:QX<X2.heap.size:=k2.lt
     have b2:j9 QX 32 (qs r lv' (.slice so k cap) sv' cv').toList (X2.alloc (Obj.cells #[.string (str T)] 9)):=((qa X2 _).block _ hXQ).trans k2
     have o2:=qy k3 (qa X2 (Obj.cells #[.string (str T)] 9))
     have c2:=al1 X2 (Obj.cells #[.string (str T)] 9)
     have b4:Below QX VB (X2.alloc (Obj.cells #[.string (str T)] 9)):=k4.trans ((qa X2 _).mono (Nat.le_of_lt hXQ))
     have hkl:k≤64:=by omega
     have s6':(X2.alloc (Obj.cells #[.string (str T)] 9)).cell? ⟨QX,6,none⟩=some (.slice so k cap):=by rw[Lib.cell_of_heap b2];rfl
     have q2:∀j u,[Value.string (str T)][j]?=some u→(X2.alloc (Obj.cells #[.string (str T)] 9)).cell? ((⟨X2.heap.size,0,none⟩:Addr).add j)=some u:=by
      intro j u hj
      rcases j with _|j
      ·simp only[List.getElem?_cons_zero,Option.some.injEq] at hj
       rw[Addr.add_lit,Lib.cell_of_heap c2,←hj];rfl
      ·simp at hj
     have q3:∀u∈[Value.string (str T)],u.oneCell'=true:=by intro u hu;rw[List.mem_singleton.1 hu];rfl
     have q4:k+1≤maxLen:=by unfold maxLen;omega
     have q5:(k+1)*16≤140737488355328:=by omega
     have q6:QX≤(X2.alloc (Obj.cells #[.string (str T)] 9)).heap.size:=by simp;omega
     clear s0 s1 s2 s3 s4 s5 s13 s26 k1 k2 k3 HJ2
     go_wp2_with (at_builtin;refine wpList_append_own _ rfl _ _ 23 rfl QX 9 i0 (.string ⟨#[]⟩) 1 16 Tryz.underlying23 hi hz0 hz1 hz2 rfl (by decide) _ k ((fiS r zs k).map QS) rfl o2 ⟨X2.heap.size,0,none⟩ 1 1 [.string (str T)] rfl rfl q2 q3 q4 q5 q6 ?_)
     intro v' w1 hown hgrow hnil
     obtain ⟨x1,x2,x3,x4,x5,x6⟩:=q2b (i:=6) (by decide) b2 rfl o2 b4 (Nat.le_refl _) (Nat.le_refl _) (by simp;omega) hgrow hown
     rcases id hown.2 with ⟨_,hn0⟩|⟨g,cp,cur,rfl,_⟩
     ·exfalso;omega
     have HJ3:=q7 (show FiJ r zs lv' sv' cv' QX (k+1) VB (w1.setCell ⟨QX,6,none⟩ (.slice (some ⟨g,0,none⟩) (k+1) cp)) from ⟨some ⟨g,0,none⟩,cp,HOK.out h0,x3,by rw[HFS.out,List.map_append];exact x4,x5⟩)
     clear x3 x4 x5 x6 b2 o2 c2 b4 hown hgrow hnil
     go_wp2
     go_roundw
     case rel=>exact ⟨k+1,hlt,by go_num,HJ3.out⟩
     case measure=>simp[intOf];omega
  ·have hd:decide ((k:Int)<(C:Int))=false:=by simp;omega
   obtain rfl:k=C:=by omega
   have he:E=0:=by rw[HE.out,if_pos j1]
   subst he
   have g3:=(hUQ2.block _ hl3).trans a3
   obtain ⟨RA,hRA⟩:∃RA,qs r lv' (.slice so k cap) sv' cv'=RA:=⟨_,rfl⟩
   have i1:(Tryz.prog.info? 32).map (·.size)=some RA.size:=by rw[←hRA];kernel_rfl
   have i2:(qr:Array Value).size=RA.size:=by rw[←hRA];rfl
   have hIF:jl wr' (qG r zs) lv' (.slice so k cap) sv' cv':=⟨HIB.out.lens.below j4 hVQ,jk.own (base:=QX) (by rw[show (qG r zs).strips=fiS r zs k by rw[qG,HCN.out]];simpa [fiS] using j3) (by rw[show (qG r zs).strips=fiS r zs k by rw[qG,HCN.out]];simp[fiS];omega),HIB.out.plan.spots.below j4 hVQ,HIB.out.plan.curve.below j4 hVQ⟩
   have hos:RA.all (·.oneCell')=true:=by rw[←hRA];exact (zH hIF:(qs (qG r zs) lv' (.slice so k cap) sv' cv').all (·.oneCell')=true)
   have HRA:=q7 hRA
   have d1:wr'.heap[QX]?=some (.cells RA 32 (0,0)):=by rw[←hRA];exact j2
   have HG:=q7 (setRow_heap _ _ _ RA _ _ g3)
   have HBF:=q7 (below_setRow (g:=w.heap.size+2) (q8 HB.out hUQ2) (by omega) RA)
   have hfo:=qn.own j3
   obtain ⟨f1,f3,f4⟩:=HFR.out
   have HIF:=q7 (hIF.other (k:=w.heap.size+2) (w':=wr'.setRow (w.heap.size+2) RA) (B:=U.heap.size) (by simp) (fun b hb=>setRow_other _ _ _ _ hb) hl3 f1 (hfo.mono hUQ) f3 f4)
   have hw:w.heap.size≤U.heap.size:=by omega
   have HFZ:=q7 (show qn w.heap.size lv'∧qn w.heap.size (.slice so k cap)∧qn w.heap.size sv'∧qn w.heap.size cv' from ⟨f1.mono hw,hfo.mono (by omega),f3.mono hw,f4.mono hw⟩)
   clear hRA f1 f3 f4 hfo hIF j1 j2 j3 j4 HJ
   go_wp2_with (first|refine wpList_load_row rfl 32 _ rfl _ rfl _ _ _ _ d1 Tryz.underlying32 rfl i1 ?_|refine wpList_store_row rfl 32 _ _ rfl (w.heap.size+2) RA rfl rfl _ _ g3 i1 i2 hos ?_)
   have HRF:=q7 (show qs (qG r zs) lv' (.slice so k cap) sv' cv'=RA from HRA.out)
   first
   | refine bodyPost_ret (v:=.tuple #[.agg RA,.int .i64 0]) (qq Tryz.results13 _ _ _ _ _ rfl rfl HG.out i1) rfl ⟨HBF.out,_,_,_,_,by rw[HRF.out],HIF.out,HFZ.out⟩
   | refine bodyPost_ret (v:=.tuple #[.agg RA,.int .i64 0]) (qq Tryz.results13 _ _ _ _ _ rfl rfl HG.out i1) rfl ⟨HBF.out,.inl ⟨rfl,_,_,_,_,by rw[HRF.out],HIF.out,HFZ.out⟩⟩
end Go.Proofs.YtanebhbfekcplaaGreat

namespace Go.Proofs.YtanebhbfekcplaaGreat
set_option linter.unusedVariables false
open Go.RowKit
def q3a:qH:=⟨0,0,0,0,0,[],[],zeroN⟩
theorem q3x (w:World):jl w q3a (.slice none 0 0) (.slice none 0 0) (.slice none 0 0) (.slice none 0 0):=⟨qd.nil _,jk.nil _,qX.nil _,qX.nil _⟩
theorem q0t {r:qH} {zs:List Int} {FE:Int} {B:Nat} {w':World} {e:Ending} (h:(FE=0∧∃lv' tv' sv' cv',e=.returned (.tuple #[.agg (qs (qG r zs) lv' tv' sv' cv'),.int .i64 0])∧jl w' (qG r zs) lv' tv' sv' cv'∧qn B lv'∧qn B tv'∧qn B sv'∧qn B cv') ∨
   (FE≠0∧e=.returned (.tuple #[.agg qr,.int .i64 FE]))):∃lv' tv' sv' cv',e=.returned (.tuple #[.agg (qs (if FE=0 then qG r zs else q3a) lv' tv' sv' cv'),.int .i64 FE])∧jl w' (if FE=0 then qG r zs else q3a) lv' tv' sv' cv':=by
 rcases h with ⟨h0,a,b,c,d,he,hI,_⟩|⟨hn,he⟩
 ·subst h0
  exact ⟨a,b,c,d,he,hI⟩
 ·rw[if_neg hn]
  exact ⟨_,_,_,_,he,q3x _⟩
set_option maxRecDepth 100000 in
set_option maxHeartbeats 6400000 in
theorem XY (r:qH) (lv tv sv cv:Value) (PW PH:Int) (v:Value) (zs:List Int) (lz:Kk lv) (tz:Kk tv) (sz:Kk sv) (cz:Kk cv) (htl:r.strips.length≤8796093022208) (hroom:XQ v) (w:World) (hr:jl w r lv tv sv cv) (hv:qd w v zs) :
  Calls Tryz.prog 4 #[.agg (qs r lv tv sv cv),.agg #[.int .i64 PW,.int .i64 PH,v]] w fun e w'=>e=.returned (.bool true)∧Below w.heap.size w w':=by
 have HF:=q7 (fun (u:World) (hu:Below w.heap.size w u)=>ZG r lv tv sv cv PW PH v zs u (hr.below hu (Nat.le_refl _)) (hv.below hu (Nat.le_refl _)) hroom)
 have HG:=q7 (fun (u:World) (hu:Below w.heap.size w u)=>KH r lv tv sv cv PW PH v zs u (hr.below hu (Nat.le_refl _)) (hv.below hu (Nat.le_refl _)) hroom lz tz sz cz htl)
 obtain ⟨vo,vc,rfl,hx1,hx2⟩:=hv
 clear hx1 hx2 hr hroom lz tz sz cz htl
 obtain ⟨a1,a2⟩:=al2 w (Obj.cells (qs r lv tv sv cv) 32) (Obj.cells #[.int .i64 PW,.int .i64 PH,.slice vo zs.length vc] 34)
 have HB:=q7 (be2 w (Obj.cells (qs r lv tv sv cv) 32) (Obj.cells #[.int .i64 PW,.int .i64 PH,.slice vo zs.length vc] 34))
 have hl1:=(Array.getElem?_eq_some_iff.1 a1).1
 have hl2:=(Array.getElem?_eq_some_iff.1 a2).1
 have hi28:(Tryz.prog.info? 32).map (·.size)=some ((qs r lv tv sv cv):Array Value).size:=by kernel_rfl
 obtain ⟨p0,p1,p2⟩:=jJ a2
 go_enter Tryz.func4,Tryz.ntmps4
 go_wp2_with (refine wpList_load_row rfl 32 _ rfl _ rfl _ _ _ _ a1 Tryz.underlying32 rfl hi28 ?_)
 clear p0 p1 p2
 generalize (w.alloc (Obj.cells (qs r lv tv sv cv) 32)).alloc (Obj.cells #[.int .i64 PW,.int .i64 PH,.slice vo zs.length vc] 34)=U at *
 generalize (qs r lv tv sv cv)=RQ at *
 refine (HF.out _ HB.out).mono ?_
 clear HF
 rintro e V1 ⟨hb1,hc⟩
 replace hc:=q0t hc
 generalize zB r PW PH zs=FE at *
 obtain ⟨FQ,hFQ⟩:∃FQ,(if FE=0 then qG r zs else q3a)=FQ:=⟨_,rfl⟩
 have HFQ:=q7 hFQ
 rw[hFQ] at hc
 clear hFQ
 obtain ⟨lu,tu,su,cu,rfl,hI⟩:=hc
 obtain ⟨RX,hRX⟩:∃RX,qs FQ lu tu su cu=RX:=⟨_,rfl⟩
 have iRX:(Tryz.prog.info? 32).map (·.size)=some RX.size:=by rw[←hRX];kernel_rfl
 have jRX:(qr:Array Value).size=RX.size:=by rw[←hRX];rfl
 have oRX:RX.all (·.oneCell')=true:=by rw[←hRX];exact zH hI
 have zRX:=al1 V1 (Obj.cells qr 32)
 have cRX:=setRow_heap _ _ _ RX _ _ zRX
 have XRX:=q7 (below_setRow (g:=V1.heap.size) (qa V1 (Obj.cells qr 32)) (Nat.le_refl _) RX)
 have HRX:=q7 hRX
 have hb2:=q8 hb1 XRX.out
 have HIX:=q7 (hI.below XRX.out (Nat.le_refl _))
 have g1:=(hb2.block _ hl1).trans a1
 have g2:=(hb2.block _ hl2).trans a2
 obtain ⟨p0,p1,p2⟩:=jJ g2
 rw[hRX]
 clear hRX hI hb1 g2 XRX a1 a2 hl1 hl2
 have hbb:=q8 HB.out hb2
 go_upto_region 2 with (refine wpList_store_row rfl 32 _ _ rfl V1.heap.size RX rfl rfl _ _ zRX iRX jRX oRX ?_)
 clear zRX
 generalize (V1.alloc (Obj.cells qr 32)).setRow V1.heap.size RX=U1 at *
 generalize V1.heap.size=XB at *
 have lx:=(Array.getElem?_eq_some_iff.1 cRX).1
 go_wp2_with (refine wpList_load_row rfl 32 _ rfl _ rfl _ _ _ _ g1 Tryz.underlying32 rfl hi28 ?_)
 refine (HG.out _ hbb).mono ?_
 clear HG p0 p1 p2 g1
 rintro e V2 ⟨hb3,hc⟩
 replace hc:=q0t hc
 rw[HFQ.out] at hc
 clear HFQ
 obtain ⟨la,ta,sa,ca,rfl,hI⟩:=hc
 obtain ⟨RY,hRY⟩:∃RY,qs FQ la ta sa ca=RY:=⟨_,rfl⟩
 have iRY:(Tryz.prog.info? 32).map (·.size)=some RY.size:=by rw[←hRY];kernel_rfl
 have jRY:(qr:Array Value).size=RY.size:=by rw[←hRY];rfl
 have oRY:RY.all (·.oneCell')=true:=by rw[←hRY];exact zH hI
 have zRY:=al1 V2 (Obj.cells qr 32)
 have cRY:=setRow_heap _ _ _ RY _ _ zRY
 have XRY:=q7 (below_setRow (g:=V2.heap.size) (qa V2 (Obj.cells qr 32)) (Nat.le_refl _) RY)
 have HRY:=q7 hRY
 have hb6:=q8 hb3 XRY.out
 replace hbb:=q8 hbb hb6
 have HIY:=q7 (hI.below XRY.out (Nat.le_refl _))
 replace HIX:=q7 (HIX.out.below hb6 (Nat.le_refl _))
 have d1:=(hb6.block _ lx).trans cRX
 rw[hRY]
 clear hRY hI hb3 hb6 XRY cRX hb2 HB lx
 go_upto_region 3 with (refine wpList_store_row rfl 32 _ _ rfl V2.heap.size RY rfl rfl _ _ zRY iRY jRY oRY ?_)
 clear zRY
 generalize (V2.alloc (Obj.cells qr 32)).setRow V2.heap.size RY=U4 at *
 generalize V2.heap.size=YB at *
 have l1:=(Array.getElem?_eq_some_iff.1 d1).1
 have l2:=(Array.getElem?_eq_some_iff.1 cRY).1
 go_wp2_with fail
 refine (YO _).mono ?_
 rintro e V5 ⟨rfl,hb7⟩
 replace d1:=(hb7.block _ l1).trans d1
 have d2:=(hb7.block _ l2).trans cRY
 have HSR:=q7 (J5 FQ lu tu su cu la ta sa ca V5 (HIX.out.below hb7 (Nat.le_refl _)) (HIY.out.below hb7 (Nat.le_refl _)))
 rw[HRX.out,HRY.out] at HSR
 replace hbb:=q8 hbb hb7
 have hpe:(FE == FE)=true:=by simp
 clear hb7
 go_wp2_with (first|refine zg (by rfl) 32 _ rfl _ rfl _ _ _ _ d1 Tryz.underlying32 rfl iRX ?_|refine zg (by rfl) 32 _ rfl _ rfl _ _ _ _ d2 Tryz.underlying32 rfl iRY ?_)
 refine (HSR.out).mono ?_
 rintro e V6 ⟨rfl,hb8⟩
 have HBF:=q7 (q8 hbb hb8)
 clear hbb hb8 d1 d2
 go_wp2
 go_ret
 exact ⟨rfl,HBF.out⟩
end Go.Proofs.YtanebhbfekcplaaGreat

namespace Go.Proofs.YtanebhbfekcplaaGreat
open Go.RowKit
theorem ZP {W:World} {x:Addr} {len cap:Nat} {zs:List Int} (hl:len≤cap) (hm:cap≤maxLen) (hz:zs.length=cap)
  (hcell:∀i,i<zs.length→W.cell? (x.add i)=some (.int .i64 (zs.getD i 0))):qd W (.slice (some x) len cap) (zs.take len):=by
 have hlen:(zs.take len).length=len:=by rw[List.length_take];omega
 unfold maxLen at hm
 refine ⟨some x,cap,by rw[hlen],by rw[hlen];omega,?_⟩
 by_cases h0:len=0
 ·left;subst h0;rfl
 ·right
  obtain ⟨b,off,rfl,hc⟩:=ints_at hcell (by omega)
  refine ⟨b,off,rfl,World.block_lt_of_cell? W _ (hc 0 (by omega)),fun j hj=>?_⟩
  rw[hlen] at hj
  rw[hc j (by omega)]
  simp[List.getD,List.getElem?_eq_getElem (show j<zs.length by omega)]
end Go.Proofs.YtanebhbfekcplaaGreat

namespace Go.Proofs.YtanebhbfekcplaaGreat
open Go.RowKit Go.ChangeShapes
theorem cells2 {W:World} {base:Nat} {a:Addr} {cs:List Value} (h:W.cells? base a 2=some cs):∃x y,cs=[x,y]∧W.cell? (a.add 0)=some x∧W.cell? (a.add 1)=some y:=by
 obtain ⟨_,hl,hc⟩:=World.cells?_some h
 match cs,hl with
 | [x,y],_=>exact ⟨x,y,rfl,hc 0 (by omega),hc 1 (by omega)⟩
theorem Zq {α:Type} (P:Nat→α→Prop) (n:Nat) (h:∀i,i<n→∃p,P i p) (d:α):∃ls:List α,ls.length=n∧∀i,i<n→P i (ls.getD i d):=by
 induction n with
 | zero=>exact ⟨[],rfl,fun i hi=>by omega⟩
 | succ n ih =>
  obtain ⟨ls,hl,hp⟩:=ih (fun i hi=>h i (by omega))
  obtain ⟨p,hp'⟩:=h n (by omega)
  refine ⟨ls++[p],by simp[hl],fun i hi=>?_⟩
  rcases Nat.eq_or_lt_of_le (show i≤n by omega) with e|hlt
  ·subst e
   rw[List.getD_eq_getElem?_getD,List.getElem?_append_right (by omega),hl]
   simpa using hp'
  ·rw[List.getD_eq_getElem?_getD,List.getElem?_append_left (by omega),←List.getD_eq_getElem?_getD]
   exact hp i hlt
theorem q2z {P:Program} {H:Type} {enc:TypeId×Value→H} {W:World} {base:Nat} {spare:Nat→Bool} {held:Bool} {fuel:Nat} {t e:TypeId} {f0 f1:Field} {v:Value} {x:DataW H×List MemPlace}
  (ht:P.underlying t=some (.slice e)) (he:P.underlying e=some (.struct #[f0,f1])) (h0:P.underlying f0.type=some (.int .i64)) (h1:P.underlying f1.type=some (.int .i64)) (o0:f0.offset=0) (o1:f1.offset=1)
  (ce:P.cellsOf e=2) (c0:P.cellsOf f0.type=1) (c1:P.cellsOf f1.type=1) (h:DataW.trod enc P W base spare held fuel t [v]=some x):∃ls,qX W v ls∧∀j,j<ls.length→(Lit.int .i64 (qk ls j).1).wf=true∧(Lit.int .i64 (qk ls j).2).wf=true:=by
 rcases DataW.trod_slice ht h with ⟨hcs,_⟩|⟨a,len,cap,elems,rest,n,_,hcs,_,hb,hl,hm,hlen,hel,_,_⟩
 ·simp at hcs
  subst hcs
  exact ⟨[],qX.nil _,fun j hj=>by simp at hj⟩
 ·simp at hcs
  subst hcs
  have each:∀i,i<len→∃p:Pt,(W.cell? ((a.add (i*2)).add 0)=some (.int .i64 p.1)∧W.cell? ((a.add (i*2)).add 1)=some (.int .i64 p.2))∧(Lit.int .i64 p.1).wf=true∧(Lit.int .i64 p.2).wf=true:=by
   intro i hi
   have h2:=hel i hi
   rw[List.getElem?_eq_getElem (by omega),ce,Option.bind_eq_some_iff] at h2
   obtain ⟨cs,hc,hy⟩:=h2
   obtain ⟨p,q,rfl,hp,hq⟩:=cells2 hc
   obtain ⟨y0,y1,m,_,_,g0,g1⟩:=Go.ChangeShapes.trod_struct2 he hy
   rw[o0,c0] at g0
   rw[o1,c1] at g1
   obtain ⟨z0,e0,_,wf0⟩:=DataW.trod_int h0 g0
   obtain ⟨z1,e1,_,wf1⟩:=DataW.trod_int h1 g1
   simp at e0 e1
   subst e0 e1
   exact ⟨(z0,z1),⟨hp,hq⟩,wf0,wf1⟩
  obtain ⟨ls,hll,hls⟩:=Zq _ len each (0,0)
  unfold maxLen at hm
  refine ⟨ls,⟨some a,cap,by rw[hll],by omega,?_⟩,fun j hj=>(hls j (by omega)).2⟩
  by_cases hz:len=0
  ·exact .inl (List.eq_nil_of_length_eq_zero (by omega))
  ·right
   obtain ⟨b,off,spot⟩:=a
   have hspot:spot=none:=by simpa [Addr.add] using World.cell?_spot (hls 0 (by omega)).1.1
   subst hspot
   have hk:∀j,j<ls.length→W.cell? ⟨b,off+j*2,none⟩=some (.int .i64 (qk ls j).1)∧W.cell? ⟨b,off+j*2+1,none⟩=some (.int .i64 (qk ls j).2):=by
    intro j hj
    have h2:=(hls j (by omega)).1
    rw[Go.WideShapes.add_plain,Go.WideShapes.add_plain,Go.WideShapes.add_plain] at h2
    exact h2
   exact ⟨b,off,rfl,World.block_lt_of_cell? W _ (hk 0 (by omega)).1,hk⟩
end Go.Proofs.YtanebhbfekcplaaGreat

namespace Go.Proofs.YtanebhbfekcplaaGreat
open Go.RowKit Go.ChangeShapes
set_option linter.unusedVariables false
theorem Jt {P:Program} {H:Type} {enc:TypeId×Value→H} {W:World} {base:Nat} {spare:Nat→Bool} {held:Bool} {fuel:Nat} {t e:TypeId} {n:Nat} {cs:List Value} {x:DataW H×List MemPlace}
  (ht:P.underlying t=some (.array n e)) (he:P.underlying e=some (.int .i64)) (ce:P.cellsOf e=1) (hf:DataW.trod enc P W base spare held fuel t cs=some x) (i:Nat) (hi:i<n):∃z:Int,cs[i]?=some (.int .i64 z)∧(Lit.int .i64 z).wf=true:=by
 obtain ⟨xs,m,_,_,_,hl,hel⟩:=DataW.trod_array ht hf
 have hE:=hel i hi
 rw[ce,Nat.mul_one,List.getElem?_eq_getElem (by omega)] at hE
 obtain ⟨z,e1,_,wf⟩:=DataW.trod_int he hE
 refine ⟨z,?_,wf⟩
 have h0:((cs.drop i).take 1)[0]?=some (.int .i64 z):=by rw[e1];rfl
 simpa using h0
theorem zU {cs:List Value} {a n i:Nat} {v:Value} (hi:i<n) (h:((cs.drop a).take n)[i]?=some v):cs[a+i]?=some v:=by
 rw[List.getElem?_take_of_lt hi,List.getElem?_drop] at h
 exact h
theorem jE {cs:List Value} {a:Nat} {v:Value} (h:(cs.drop a).take 1=[v]):cs[a]?=some v:=by
 have h0:((cs.drop a).take 1)[0]?=some v:=by rw[h];rfl
 simpa using h0
theorem Kd {P:Program} {H:Type} {enc:TypeId×Value→H} {W:World} {base:Nat} {spare:Nat→Bool} {held:Bool} {fuel:Nat} {t e:TypeId} {f0 f1:Field} {cs:List Value} {x:DataW H×List MemPlace}
  (ht:P.underlying t=some (.slice e)) (he:P.underlying e=some (.struct #[f0,f1])) (h0:P.underlying f0.type=some (.int .i64)) (h1:P.underlying f1.type=some (.int .i64)) (o0:f0.offset=0) (o1:f1.offset=1)
  (ce:P.cellsOf e=2) (c0:P.cellsOf f0.type=1) (c1:P.cellsOf f1.type=1) (h:DataW.trod enc P W base spare held fuel t cs=some x):∃v ls,cs=[v]∧qX W v ls∧XQ v∧∀j,j<ls.length→ptWf (qk ls j):=by
 have hone:∃v,cs=[v]∧XQ v:=by
  rcases DataW.trod_slice ht h with ⟨hcs,_⟩|⟨a,len,cap,elems,rest,n,_,hcs,_,_,hl,_,_,_,_,_⟩
  ·exact ⟨_,hcs,Nat.le_refl _⟩
  ·exact ⟨_,hcs,hl⟩
 obtain ⟨v,rfl,hr⟩:=hone
 obtain ⟨ls,h2,h3⟩:=q2z ht he h0 h1 o0 o1 ce c0 c1 h
 exact ⟨v,ls,rfl,h2,hr,h3⟩
set_option maxHeartbeats 1600000 in
theorem q2R {P:Program} {H:Type} {enc:TypeId×Value→H} {W:World} {base:Nat} {spare:Nat→Bool} {held:Bool} {fuel:Nat} {t ti t4 t3 t9 ts tc es ec:TypeId} {g0 g1 g2 g3 g4 g5 g6 g7 s0 s1 q0 q1:Field} {cs:List Value} {x:DataW H×List MemPlace}
  (ht:P.underlying t=some (.struct #[g0,g1,g2,g3,g4,g5,g6,g7])) (hi:P.underlying ti=some (.int .i64)) (ci:P.cellsOf ti=1)
  (y0:g0.type=ti) (y1:g1.type=t4) (y2:g2.type=ti) (y3:g3.type=ts) (y4:g4.type=t3) (y5:g5.type=t9) (y6:g6.type=tc) (y7:g7.type=ti)
  (o0:g0.offset=0) (o1:g1.offset=1) (o2:g2.offset=5) (o3:g3.offset=6) (o4:g4.offset=7) (o5:g5.offset=10) (o6:g6.offset=19) (o7:g7.offset=20)
  (h4:P.underlying t4=some (.array 4 ti)) (c4:P.cellsOf t4=4) (h3:P.underlying t3=some (.array 3 ti)) (c3:P.cellsOf t3=3) (h9:P.underlying t9=some (.array 9 ti)) (c9:P.cellsOf t9=9)
  (hs:P.underlying ts=some (.slice es)) (cs1:P.cellsOf ts=1) (hes:P.underlying es=some (.struct #[s0,s1])) (ces:P.cellsOf es=2) (sy0:s0.type=ti) (sy1:s1.type=ti) (so0:s0.offset=0) (so1:s1.offset=1)
  (hc:P.underlying tc=some (.slice ec)) (cc1:P.cellsOf tc=1) (hec:P.underlying ec=some (.struct #[q0,q1])) (cec:P.cellsOf ec=2) (qy0:q0.type=ti) (qy1:q1.type=ti) (qo0:q0.offset=0) (qo1:q1.offset=1)
  (ct:P.cellsOf t=21) (h:DataW.trod enc P W base spare held fuel t cs=some x) :
  ∃n sv cv,cs=(qZ n sv cv).toList∧jY W n sv cv∧(XQ sv∧XQ cv)∧(∀j,j<n.spots.length→ptWf (qk n.spots j))∧(∀j,j<n.curve.length→ptWf (qk n.curve j)):=by
 obtain ⟨xs,m,_,_,hl,hxl,hx⟩:=DataW.trod_struct ht h
 rw[ct] at hl
 have e0:=hx 0 g0 rfl
 have e1:=hx 1 g1 rfl
 have e2:=hx 2 g2 rfl
 have e3:=hx 3 g3 rfl
 have e4:=hx 4 g4 rfl
 have e5:=hx 5 g5 rfl
 have e6:=hx 6 g6 rfl
 have e7:=hx 7 g7 rfl
 have hxl':xs.length=8:=by rw[hxl];rfl
 rw[o0,y0,ci,List.getElem?_eq_getElem (by omega)] at e0
 rw[o1,y1,c4,List.getElem?_eq_getElem (by omega)] at e1
 rw[o2,y2,ci,List.getElem?_eq_getElem (by omega)] at e2
 rw[o3,y3,cs1,List.getElem?_eq_getElem (by omega)] at e3
 rw[o4,y4,c3,List.getElem?_eq_getElem (by omega)] at e4
 rw[o5,y5,c9,List.getElem?_eq_getElem (by omega)] at e5
 rw[o6,y6,cc1,List.getElem?_eq_getElem (by omega)] at e6
 rw[o7,y7,ci,List.getElem?_eq_getElem (by omega)] at e7
 obtain ⟨ph,p0,_,_⟩:=DataW.trod_int hi e0
 obtain ⟨wh,p2,_,_⟩:=DataW.trod_int hi e2
 obtain ⟨am,p7,_,_⟩:=DataW.trod_int hi e7
 obtain ⟨sv,ls,p3,i3,r3,w3⟩:=Kd hs hes (by rw[sy0];exact hi) (by rw[sy1];exact hi) so0 so1 ces (by rw[sy0];exact ci) (by rw[sy1];exact ci) e3
 obtain ⟨cv,lc,p6,i6,r6,w6⟩:=Kd hc hec (by rw[qy0];exact hi) (by rw[qy1];exact hi) qo0 qo1 cec (by rw[qy0];exact ci) (by rw[qy1];exact ci) e6
 obtain ⟨lb,lbl,hb⟩:=Zq _ 4 (Jt h4 hi ci e1) 0
 obtain ⟨lg,lgl,hg⟩:=Zq _ 3 (Jt h3 hi ci e4) 0
 obtain ⟨lm,lml,hm⟩:=Zq _ 9 (Jt h9 hi ci e5) 0
 refine ⟨⟨ph,fun k=>lb.getD k 0,wh,ls,fun k=>lg.getD k 0,fun k=>lm.getD k 0,lc,am⟩,sv,cv,?_,⟨i3,i6⟩,⟨r3,r6⟩,w3,w6⟩
 have q0:=jE p0
 have q5:=jE p2
 have q6:=jE p3
 have q19:=jE p6
 have q20:=jE p7
 have b:=fun i hi=>zU hi (hb i hi).1
 have g:=fun i hi=>zU hi (hg i hi).1
 have mm:=fun i hi=>zU hi (hm i hi).1
 refine List.ext_getElem? fun i=>?_
 by_cases hlt:i<21
 ·have h21:i=0∨i=1∨i=2∨i=3∨i=4∨i=5∨i=6∨i=7∨i=8∨i=9∨i=10∨i=11∨i=12∨i=13∨i=14∨i=15∨i=16∨i=17∨i=18∨i=19∨i=20:=by omega
  rcases h21 with rfl|rfl|rfl|rfl|rfl|rfl|rfl|rfl|rfl|rfl|rfl|rfl|rfl|rfl|rfl|rfl|rfl|rfl|rfl|rfl|rfl
  ·exact q0
  ·exact b 0 (by omega)
  ·exact b 1 (by omega)
  ·exact b 2 (by omega)
  ·exact b 3 (by omega)
  ·exact q5
  ·exact q6
  ·exact g 0 (by omega)
  ·exact g 1 (by omega)
  ·exact g 2 (by omega)
  ·exact mm 0 (by omega)
  ·exact mm 1 (by omega)
  ·exact mm 2 (by omega)
  ·exact mm 3 (by omega)
  ·exact mm 4 (by omega)
  ·exact mm 5 (by omega)
  ·exact mm 6 (by omega)
  ·exact mm 7 (by omega)
  ·exact mm 8 (by omega)
  ·exact q19
  ·exact q20
 ·rw[List.getElem?_eq_none (by omega),List.getElem?_eq_none (by simp;omega)]
theorem q2l {P:Program} {H:Type} {enc:TypeId×Value→H} {W:World} {base b0:Nat} {spare:Nat→Bool} {held:Bool} {r:Reach} {t:TypeId} {fs:Array Field} {v:Value} {d:DataW H} {p:List MemPlace}
  (ht:P.underlying t=some (.struct fs)) (hv:Value.okWide P W r b0 t v) (h:DataW.Trod enc P W base spare held t v d p):∃cs fuel,v=.agg cs∧DataW.trod enc P W base spare held fuel t cs.toList=some (d,p):=by
 obtain ⟨cs,rfl,_,_⟩:∃cs,v=.agg cs∧cs.size=P.cellsOf t∧Row.okWide P W r b0 t cs:=by
  simpa [Value.okWide,ht] using hv
 obtain ⟨fuel,hf⟩:=h
 exact ⟨cs,fuel,rfl,hf⟩
end Go.Proofs.YtanebhbfekcplaaGreat

namespace Go.Proofs.YtanebhbfekcplaaGreat
open Go.RowKit Go.ChangeShapes
set_option linter.unusedVariables false
theorem cells1 {W:World} {base:Nat} {a:Addr} {x:Value} (h:W.cells? base a 1=some [x]):W.cell? a=some x:=by
 obtain ⟨_,_,hc⟩:=World.cells?_some h
 have:=hc 0 (by omega)
 simpa [Addr.add] using this
theorem q2p {P:Program} {H:Type} {enc:TypeId×Value→H} {W:World} {base:Nat} {spare:Nat→Bool} {held:Bool} {fuel:Nat} {t e:TypeId} {v:Value} {x:DataW H×List MemPlace}
  (ht:P.underlying t=some (.slice e)) (he:P.underlying e=some .string) (ce:P.cellsOf e=1) (h:DataW.trod enc P W base spare held fuel t [v]=some x):∃ts,jk W v ts:=by
 rcases DataW.trod_slice ht h with ⟨hcs,_⟩|⟨a,len,cap,elems,rest,n,_,hcs,_,hb,hl,hm,hlen,hel,_,_⟩
 ·simp at hcs
  subst hcs
  exact ⟨[],jk.nil _⟩
 ·simp at hcs
  subst hcs
  have each:∀i,i<len→∃s:List UInt8,W.cell? (a.add i)=some (.string (str s)):=by
   intro i hi
   have h2:=hel i hi
   rw[List.getElem?_eq_getElem (by omega),ce,Nat.mul_one,Option.bind_eq_some_iff] at h2
   obtain ⟨cs,hc,hy⟩:=h2
   obtain ⟨s,rfl,_,_⟩:=DataW.trod_string he hy
   have hc1:=cells1 hc
   exact ⟨s.data.toList,by rw[str_of];exact hc1⟩
  obtain ⟨ts,hll,hls⟩:=Zq _ len each []
  unfold maxLen at hm
  refine ⟨ts,⟨some a,cap,by rw[hll],by omega,?_⟩⟩
  by_cases hz:len=0
  ·exact .inl (List.eq_nil_of_length_eq_zero (by omega))
  ·right
   obtain ⟨b,off,spot⟩:=a
   have hspot:spot=none:=by simpa [Addr.add] using World.cell?_spot (hls 0 (by omega))
   subst hspot
   have hk:∀j,j<ts.length→W.cell? ⟨b,off+j,none⟩=some (.string (str (ts.getD j []))):=by
    intro j hj
    have h2:=hls j (by omega)
    rw[Go.WideShapes.add_plain] at h2
    exact h2
   exact ⟨b,off,rfl,World.block_lt_of_cell? W _ (hk 0 (by omega)),hk⟩
theorem q0x {cs:List Value} {a:Nat} {n:Nat} (hl:a<cs.length):∃v,(cs.drop a).take 1=[v]:=by
 refine ⟨cs[a],?_⟩
 rw[List.drop_eq_getElem_cons hl];rfl
set_option maxHeartbeats 1600000 in
theorem q3w {P:Program} {H:Type} {enc:TypeId×Value→H} {W:World} {base:Nat} {held:Bool} {fuel:Nat} {t ti tl tt tst tp:TypeId} {f0 f1 f2 f3 f4 f5 f6 f7:Field} {cs:List Value} {x:DataW H×List MemPlace}
  (ht:P.underlying t=some (.struct #[f0,f1,f2,f3,f4,f5,f6,f7])) (hi:P.underlying ti=some (.int .i64)) (ci:P.cellsOf ti=1)
  (y0:f0.type=ti) (y1:f1.type=ti) (y2:f2.type=ti) (y3:f3.type=ti) (y4:f4.type=ti) (y5:f5.type=tl) (y6:f6.type=tt) (y7:f7.type=tp)
  (o0:f0.offset=0) (o1:f1.offset=1) (o2:f2.offset=2) (o3:f3.offset=3) (o4:f4.offset=4) (o5:f5.offset=5) (o6:f6.offset=6) (o7:f7.offset=7)
  (hl5:P.underlying tl=some (.slice ti)) (cl5:P.cellsOf tl=1) (ht6:P.underlying tt=some (.slice tst)) (ct6:P.cellsOf tt=1) (hst:P.underlying tst=some .string) (cst:P.cellsOf tst=1)
  (cp:P.cellsOf tp=21) (ct:P.cellsOf t=28) (h:DataW.trod enc P W base (fun _=>true) held fuel t cs=some x)
  (hplan:∀(fuel:Nat) (ps:List Value) (y:DataW H×List MemPlace),DataW.trod enc P W base (fun _=>true) held fuel tp ps=some y→∃n sv cv,ps=(qZ n sv cv).toList∧jY W n sv cv) :
  ∃r lv tv sv cv,cs=(qs r lv tv sv cv).toList∧jl W r lv tv sv cv:=by
 obtain ⟨xs,m,_,_,hl,hxl,hx⟩:=DataW.trod_struct ht h
 rw[ct] at hl
 have e0:=hx 0 f0 rfl
 have e1:=hx 1 f1 rfl
 have e2:=hx 2 f2 rfl
 have e3:=hx 3 f3 rfl
 have e4:=hx 4 f4 rfl
 have e5:=hx 5 f5 rfl
 have e6:=hx 6 f6 rfl
 have e7:=hx 7 f7 rfl
 have hxl':xs.length=8:=by rw[hxl];rfl
 rw[o0,y0,ci,List.getElem?_eq_getElem (by omega)] at e0
 rw[o1,y1,ci,List.getElem?_eq_getElem (by omega)] at e1
 rw[o2,y2,ci,List.getElem?_eq_getElem (by omega)] at e2
 rw[o3,y3,ci,List.getElem?_eq_getElem (by omega)] at e3
 rw[o4,y4,ci,List.getElem?_eq_getElem (by omega)] at e4
 rw[o5,y5,cl5,List.getElem?_eq_getElem (by omega)] at e5
 rw[o6,y6,ct6,List.getElem?_eq_getElem (by omega)] at e6
 rw[o7,y7,cp,List.getElem?_eq_getElem (by omega)] at e7
 obtain ⟨a0,p0,_,_⟩:=DataW.trod_int hi e0
 obtain ⟨a1,p1,_,_⟩:=DataW.trod_int hi e1
 obtain ⟨a2,p2,_,_⟩:=DataW.trod_int hi e2
 obtain ⟨a3,p3,_,_⟩:=DataW.trod_int hi e3
 obtain ⟨a4,p4,_,_⟩:=DataW.trod_int hi e4
 obtain ⟨lv,p5⟩:=q0x (cs:=cs) (a:=5) (n:=0) (by omega)
 obtain ⟨tv,p6⟩:=q0x (cs:=cs) (a:=6) (n:=0) (by omega)
 rw[p5] at e5
 rw[p6] at e6
 obtain ⟨zs,i5⟩:∃zs,qd W lv zs:=by
  rcases open_ints hl5 hi ci e5 with ⟨hcs,_⟩|⟨x,l,c,zs,hcs,_,hl,hm,hz,_,hcell,hwz⟩
  ·simp at hcs
   subst hcs
   exact ⟨[],qd.nil _⟩
  ·simp at hcs
   subst hcs
   exact ⟨_,ZP hl hm (by simpa using hz) hcell⟩
 obtain ⟨ts,i6⟩:=q2p ht6 hst cst e6
 obtain ⟨n,sv,cv,p7,i7⟩:=hplan _ _ _ e7
 refine ⟨⟨a0,a1,a2,a3,a4,zs,ts,n⟩,lv,tv,sv,cv,?_,⟨i5,i6,i7⟩⟩
 have q0:=jE p0
 have q1:=jE p1
 have q2:=jE p2
 have q3:=jE p3
 have q4:=jE p4
 have q5:=jE p5
 have q6:=jE p6
 show cs=[.int .i64 a0,.int .i64 a1,.int .i64 a2,.int .i64 a3,.int .i64 a4,lv,tv]++(qZ n sv cv).toList
 rw[←p7,List.take_of_length_le (by rw[List.length_drop];omega)]
 refine List.ext_getElem? fun i=>?_
 by_cases hlt:i<7
 ·rcases (show i=0∨i=1∨i=2∨i=3∨i=4∨i=5∨i=6 by omega) with rfl|rfl|rfl|rfl|rfl|rfl|rfl
  ·exact q0
  ·exact q1
  ·exact q2
  ·exact q3
  ·exact q4
  ·exact q5
  ·exact q6
 ·rw[List.getElem?_append_right (by simp;omega),List.getElem?_drop]
  congr 1
  simp;omega
theorem Zd {P:Program} {H:Type} {enc:TypeId×Value→H} {W:World} {base:Nat} {spare:Nat→Bool} {held:Bool} {fuel:Nat} {t e:TypeId} {v:Value} {x:DataW H×List MemPlace}
  (ht:P.underlying t=some (.slice e)) (h:DataW.trod enc P W base spare held fuel t [v]=some x):Kk v:=by
 intro n c hv
 subst hv
 rcases DataW.trod_slice ht h with ⟨hcs,_⟩|⟨a,len,cap,elems,rest,m,_,hcs,_⟩
 ·simp at hcs;exact hcs
 ·simp at hcs
theorem q2Q {P:Program} {H:Type} {enc:TypeId×Value→H} {W:World} {base:Nat} {spare:Nat→Bool} {held:Bool} {fuel:Nat} {t e:TypeId} {v:Value} {x:DataW H×List MemPlace} {ts:List (List UInt8)}
  (ht:P.underlying t=some (.slice e)) (hb:P.bytesOf e=16) (h:DataW.trod enc P W base spare held fuel t [v]=some x) (hv:jk W v ts) (hw:∀n∈x.1.weights P t,n≤reachBytes):ts.length≤8796093022208:=by
 obtain ⟨so,sc,rfl,_⟩:=hv
 rcases DataW.trod_slice ht h with ⟨hcs,_⟩|⟨a,len,cap,elems,rest,m,_,hcs,rfl,_,_,_,hlen,_⟩
 ·simp at hcs
  obtain ⟨_,h2,_⟩:=hcs
  simp[h2]
 ·simp at hcs
  obtain ⟨_,h2,_⟩:=hcs
  have h3:=hw _ (by simp only[DataW.weights,ht];exact List.mem_cons_self ..)
  have:=reachBytes_lt
  rw[hb] at h3
  simp only[List.length_map] at h3
  omega
set_option maxHeartbeats 1600000 in
theorem q3t {P:Program} {H:Type} {enc:TypeId×Value→H} {W:World} {base:Nat} {spare:Nat→Bool} {held:Bool} {fuel:Nat} {t ti tl tt tst tp ts tc es ec:TypeId} {f0 f1 f2 f3 f4 f5 f6 f7 g0 g1 g2 g3 g4 g5 g6 g7:Field} {r:qH} {lv tv sv cv:Value} {x:DataW H×List MemPlace}
  (ht:P.underlying t=some (.struct #[f0,f1,f2,f3,f4,f5,f6,f7]))
  (y5:f5.type=tl) (y6:f6.type=tt) (y7:f7.type=tp) (o5:f5.offset=5) (o6:f6.offset=6) (o7:f7.offset=7)
  (hl5:P.underlying tl=some (.slice ti)) (cl5:P.cellsOf tl=1) (ht6:P.underlying tt=some (.slice tst)) (ct6:P.cellsOf tt=1) (hb:P.bytesOf tst=16) (cp:P.cellsOf tp=21)
  (htp:P.underlying tp=some (.struct #[g0,g1,g2,g3,g4,g5,g6,g7])) (z3:g3.type=ts) (z6:g6.type=tc) (n3:g3.offset=6) (n6:g6.offset=19)
  (hs:P.underlying ts=some (.slice es)) (cs1:P.cellsOf ts=1) (hc:P.underlying tc=some (.slice ec)) (cc1:P.cellsOf tc=1)
  (h:DataW.trod enc P W base spare held fuel t (qs r lv tv sv cv).toList=some x) (hr:jl W r lv tv sv cv) (hw:∀n∈x.1.weights P t,n≤reachBytes) :
  Kk lv∧Kk tv∧Kk sv∧Kk cv∧r.strips.length≤8796093022208:=by
 obtain ⟨xs,m,_,rfl,_,hxl,hx⟩:=DataW.trod_struct ht h
 have hxl':xs.length=8:=by rw[hxl];rfl
 have e5:=hx 5 f5 rfl
 have e6:=hx 6 f6 rfl
 have e7:=hx 7 f7 rfl
 rw[o5,y5,cl5,List.getElem?_eq_getElem (by omega)] at e5
 rw[o6,y6,ct6,List.getElem?_eq_getElem (by omega)] at e6
 rw[o7,y7,cp,List.getElem?_eq_getElem (by omega)] at e7
 have e5':DataW.trod enc P W base spare held m tl [lv]=some xs[5]:=e5
 have e6':DataW.trod enc P W base spare held m tt [tv]=some xs[6]:=e6
 have e7':DataW.trod enc P W base spare held m tp (qZ r.plan sv cv).toList=some xs[7]:=e7
 obtain ⟨ys,k,_,_,_,hyl,hy⟩:=DataW.trod_struct htp e7'
 have hyl':ys.length=8:=by rw[hyl];rfl
 have d3:=hy 3 g3 rfl
 have d6:=hy 6 g6 rfl
 rw[n3,z3,cs1,List.getElem?_eq_getElem (by omega)] at d3
 rw[n6,z6,cc1,List.getElem?_eq_getElem (by omega)] at d6
 have d3':DataW.trod enc P W base spare held k ts [sv]=some ys[3]:=d3
 have d6':DataW.trod enc P W base spare held k tc [cv]=some ys[6]:=d6
 refine ⟨Zd hl5 e5',Zd ht6 e6',Zd hs d3',Zd hc d6',q2Q ht6 hb e6' hr.strips fun n hn=>hw n ?_⟩
 simp only[DataW.weights,ht]
 exact DataW.weights_mem_each (j:=6) (t:=tt) (d:=xs[6].1) (by rw[←y6];rfl) (by rw[List.getElem?_map,List.getElem?_eq_getElem (by omega)];rfl) n hn
end Go.Proofs.YtanebhbfekcplaaGreat
