/- Sw: part 48 of what the proofs need. -/
import Derived.Test.YtfjeonehdlphiaaGreatDoorC3Sw
import Derived.Test.YtfjeonehdlphiaaGreatDoorC4Sw
import Derived.Test.YtfjeonehdlphiaaGreatDoorC30Sw
import Derived.Test.YtfjeonehdlphiaaGreatDoorC35Sw
import Derived.Test.YtfjeonehdlphiaaGreatDoorC36Sw
import Derived.Test.YtfjeonehdlphiaaGreatDoorC38Sw
import Derived.Test.YtfjeonehdlphiaaGreatDoorC43Sw
import Derived.Test.YtfjeonehdlphiaaGreatDoorC44Sw
import Derived.Test.YtfjeonehdlphiaaGreatDoorC45Sw
set_option linter.unusedVariables false
set_option maxHeartbeats 6400000
set_option maxRecDepth 100000
namespace Go.Proofs.YtfjeonehdlphiaaGreatDoor
open Go.RowKit
theorem jRbr (s:List UInt8) (hs:s.length≤140737488355328) (r:RawF) (hrd:rawRd s=some r) (hpe:XDWf r=0) (rows how W H:Int) (zs:List Int) (deep:Bool) (L:List Px) (TW TH:Int) (TL:List Px) (hW:XH9X r=W) (hH:zq73 r=H) (hZ:zcNm r=zs)
  (hS:XSDS r.plan W H zs rows=0) (hL:X1qP r.plan W H zs rows=L) (hT:turnE W H L how=0) (hTW:qPp5 (mvOf how) W H=TW) (hTH:qPp5 (mvOf how) H W=TH) (hTL:turnL W.toNat H.toNat L (mvOf how)=TL) (hK:picOk TW TH TL=true) (w:World) (hm:zR7W w) (hp:PowAt w) :
  Calls Tryz.prog 15 #[.string (str s),.agg #[.int .i64 rows,.int .i64 0,.int .i64 0,.int .i64 0,.int .i64 0,.int .i64 how,.bool deep]] w fun e w'=>e=.returned (.tuple #[.string (str (shotB TW TH TL deep)),.int .i64 0])∧Below w.heap.size w w':=by
 have HRD:=hide (fun (u:World)=>jR6l s u hs)
 rw[hrd] at HRD
 have HPL:=hide (fun (lv tv sv cv:Value) (u:World) (hu:IsRaw u r lv tv sv cv)=>XAFS r lv tv sv cv u hu)
 rw[hW,hH,hZ,hpe] at HPL
 have HST:=hide (fun (sv cv v:Value) (u:World) (h1:X1uD u r.plan sv cv) (h2:jCvT u v zs) (h3:roomy v)=>Xmrs r.plan sv cv W H v zs rows u h1 h2 h3)
 rw[hS,hL] at HST
 have HTU:=hide (fun (v:Value) (u:World) (hu:Below w.heap.size w u) (hv:IsPix u v L)=>Xycd W H v L how u (hm.below hu (Nat.le_refl _)) hv)
 rw[hT,hTW,hTH,hTL] at HTU
 have HWR:=hide (fun (v:Value) (u:World) (hu:Below w.heap.size w u) (hv:IsPix u v TL)=>zPEb TW TH v TL deep u (hp.below hu (Nat.le_refl _)) hv)
 rw[show wrE TW TH TL=0 from if_pos hK,show wrS TW TH TL deep=shotB TW TH TL deep from if_pos hK] at HWR
 clear hrd hpe hW hH hZ hS hL hT hTW hTH hTL hK hm hp
 have a1:=al1 w (Obj.cells #[.int .i64 rows,.int .i64 0,.int .i64 0,.int .i64 0,.int .i64 0,.int .i64 how,.bool deep] 40)
 have HB:=hide (qUNz w (Obj.cells #[.int .i64 rows,.int .i64 0,.int .i64 0,.int .i64 0,.int .i64 0,.int .i64 how,.bool deep] 40))
 have hl1:=(Array.getElem?_eq_some_iff.1 a1).1
 have HCE:=hide (fun (v:World) (hv:Below w.heap.size w v→True) (h:v.heap[w.heap.size]?=some (.cells #[.int .i64 rows,.int .i64 0,.int .i64 0,.int .i64 0,.int .i64 0,.int .i64 how,.bool deep] 40 (0,0)))=>(show v.cell? ⟨w.heap.size,0,none⟩=some (.int .i64 rows)∧v.cell? ⟨w.heap.size,1,none⟩=some (.int .i64 0)∧v.cell? ⟨w.heap.size,2,none⟩=some (.int .i64 0)∧v.cell? ⟨w.heap.size,3,none⟩=some (.int .i64 0)∧v.cell? ⟨w.heap.size,4,none⟩=some (.int .i64 0)∧v.cell? ⟨w.heap.size,5,none⟩=some (.int .i64 how)∧v.cell? ⟨w.heap.size,6,none⟩=some (.bool deep) from ⟨by rw[Lib.cell_of_heap h];rfl,by rw[Lib.cell_of_heap h];rfl,by rw[Lib.cell_of_heap h];rfl,by rw[Lib.cell_of_heap h];rfl,by rw[Lib.cell_of_heap h];rfl,by rw[Lib.cell_of_heap h];rfl,by rw[Lib.cell_of_heap h];rfl⟩))
 go_enter Tryz.func15,Tryz.ntmps15
 go_wp2_with fail
 generalize w.alloc (Obj.cells #[.int .i64 rows,.int .i64 0,.int .i64 0,.int .i64 0,.int .i64 0,.int .i64 how,.bool deep] 40)=U at *
 refine (HRD.out U).mono ?_
 clear HRD
 rintro e V1 ⟨hb1,hc⟩
 rcases hc with ⟨r',lv,tv,sv,cv,hrd,rfl,hI,hx1,hx2,hx3,hx4⟩|⟨hrd,_⟩
 rotate_left
 ·cases hrd
 cases hrd
 clear hx1 hx2 hx3 hx4
 have HPC:=hide (show ∀j u,(planA r.plan sv cv).toList[j]?=some u→(rawA r lv tv sv cv).toList[7+j]?=some u from fun j u h=>by rw[Nat.add_comm];exact h)
 obtain ⟨RX,hRX⟩:∃RX,rawA r lv tv sv cv=RX:=⟨_,rfl⟩
 have iRX:(Tryz.prog.info? 57).map (·.size)=some RX.size:=by rw[←hRX];kernel_rfl
 have jRX:(rawZ:Array Value).size=RX.size:=by rw[←hRX];rfl
 have oRX:RX.all (·.oneCell')=true:=by rw[←hRX];exact XIRQ hI
 have zRX:=al1 V1 (Obj.cells rawZ 57)
 have cRX:=setRow_heap _ _ _ RX _ _ zRX
 have XRX:=hide (below_setRow (g:=V1.heap.size) (qUNz V1 (Obj.cells rawZ 57)) (Nat.le_refl _) RX)
 have HRX:=hide hRX
 have hb2:=quJN hb1 XRX.out
 have HIX:=hide (hI.below XRX.out (Nat.le_refl _))
 have HPQ:=hide (HPL.out lv tv sv cv)
 rw[hRX] at HPQ HPC ⊢
 clear hRX hI hb1 XRX HPL
 go_upto_region 4 with (refine wpList_store_row rfl 57 _ _ rfl V1.heap.size RX rfl rfl _ _ zRX iRX jRX oRX ?_)
 clear zRX
 generalize (V1.alloc (Obj.cells rawZ 57)).setRow V1.heap.size RX=U1 at *
 generalize V1.heap.size=XB at *
 have lx:=(Array.getElem?_eq_some_iff.1 cRX).1
 go_wp2_with (refine wpList_load_row rfl 57 _ rfl _ rfl _ _ _ _ cRX Tryz.underlying57 rfl iRX ?_)
 refine (HPQ.out U1 HIX.out).mono ?_
 clear HPQ
 rintro e V2 ⟨pv,rfl,hpi,hb3,hfp⟩
 have HRM:=hide hfp.2
 have HPI:=hide hpi
 obtain ⟨po,pc,rfl,hx1,hx2⟩:=hpi
 clear hx1 hx2 hfp
 have p1:=al1 V2 (Obj.cells #[.int .i64 W,.int .i64 H,.slice po zs.length pc] 54)
 have hb4:=quJN hb3 (qUNz V2 (Obj.cells #[.int .i64 W,.int .i64 H,.slice po zs.length pc] 54))
 have HPI2:=hide (HPI.out.alloc (Obj.cells #[.int .i64 W,.int .i64 H,.slice po zs.length pc] 54))
 have HPN:=hide ((HIX.out.below hb4 (Nat.le_refl _)).plan)
 have hbb:=quJN hb2 hb4
 have g1:=(hbb.block _ hl1).trans a1
 obtain ⟨c0,c1,c2,c3,c4,c5,c6⟩:=HCE.out _ (fun _=>trivial) g1
 have d1:=(hb4.block _ lx).trans cRX
 have HTT:=hide (show ∀j u,(planA r.plan sv cv).toList[j]?=some u→(V2.alloc (Obj.cells #[.int .i64 W,.int .i64 H,.slice po zs.length pc] 54)).cell? ⟨XB,7+j,none⟩=some u from fun j u h=>by
  rw[Lib.cell_of_heap d1]
  have:=HPC.out j u h
  simpa using this)
 obtain ⟨p0',p1',p2'⟩:=z5EY p1
 clear hb3 HPI cRX d1 HPC
 go_wp2_with (refine XiYX rfl 51 _ rfl _ 7 rfl (planA r.plan sv cv) _ HTT.out Tryz.underlying51 rfl (by kernel_rfl) ?_)
 clear p0' p1' p2' c0 c1 c2 c3 c4 c5 c6 HTT
 generalize V2.alloc (Obj.cells #[.int .i64 W,.int .i64 H,.slice po zs.length pc] 54)=U2 at *
 refine (HST.out sv cv _ U2 HPN.out HPI2.out HRM.out).mono ?_
 clear HST
 rintro e V3 ⟨qv,rfl,hq,hb5,hfq⟩
 rw[show okW 0 W=W from rfl,show okW 0 H=H from rfl]
 rw[show okL 0 L=L from rfl] at hq
 have HQ:=hide hq
 obtain ⟨qo,qc,rfl,hx1,hx2⟩:=hq
 clear hx1 hx2
 obtain ⟨N1,hN1⟩:∃N,L.length=N:=⟨_,rfl⟩
 rw[hN1] at HQ hfq ⊢
 clear hN1
 have t1:=al1 V3 (Obj.cells #[.int .i64 W,.int .i64 H,.slice qo N1 qc] 24)
 have hb6:=quJN hb5 (qUNz V3 (Obj.cells #[.int .i64 W,.int .i64 H,.slice qo N1 qc] 24))
 have HQ2:=hide (HQ.out.alloc (Obj.cells #[.int .i64 W,.int .i64 H,.slice qo N1 qc] 24))
 replace hbb:=quJN hbb hb6
 replace g1:=(hbb.block _ hl1).trans a1
 obtain ⟨c0,c1,c2,c3,c4,c5,c6⟩:=HCE.out _ (fun _=>trivial) g1
 obtain ⟨q0,q1,q2⟩:=z5EY t1
 have l3:=(Array.getElem?_eq_some_iff.1 t1).1
 have HBX:=hide (quJN HB.out hbb)
 have HV3:=hide (show w.heap.size<V3.heap.size from Nat.lt_of_lt_of_le hl1 (Nat.le_trans (quJN hb2 hb4).size hb5.size))
 clear hb5 HQ
 go_wp2_with fail
 clear c0 c1 c2 c3 c4 c5 c6 q0 q1 q2
 generalize V3.alloc (Obj.cells #[.int .i64 W,.int .i64 H,.slice qo N1 qc] 24)=U3 at *
 refine (HTU.out _ U3 HBX.out HQ2.out).mono ?_
 clear HTU
 rintro e V4 ⟨tq,rfl,ht,hb7,hft⟩
 rw[show okW 0 TW=TW from rfl,show okW 0 TH=TH from rfl]
 rw[show okL 0 TL=TL from rfl] at ht
 have HT:=hide ht
 obtain ⟨uo,uc,rfl,hx1,hx2⟩:=ht
 clear hx1 hx2
 obtain ⟨N2,hN2⟩:∃N,TL.length=N:=⟨_,rfl⟩
 rw[hN2] at HT hft ⊢
 clear hN2
 have k1:=(hb7.block _ l3).trans t1
 obtain ⟨z0,z1,z2⟩:=z5EY k1
 have f0:=Lib.frozen_of_heap k1 0
 have f1:=Lib.frozen_of_heap k1 1
 have f2:=Lib.frozen_of_heap k1 2
 have HTS:=hide (HT.out.set3 hft l3 (.int .i64 TW) (.int .i64 TH) (.slice uo N2 uc))
 obtain ⟨y1,y2,y3,y4⟩:=X0Wz k1 (.int .i64 TW) (.int .i64 TH) (.slice uo N2 uc) w (Nat.le_of_lt HV3.out) (quJN HBX.out hb7)
 have lg1:=(Array.getElem?_eq_some_iff.1 g1).1
 have hne:w.heap.size≠V3.heap.size:=by have:=HV3.out;omega
 have g2:=(y2 w.heap.size hne).trans ((hb7.block _ lg1).trans g1)
 go_upto_region 17 with fail
 clear z0 z1 z2 f0 f1 f2 y2 y3
 generalize ((V4.setCell ⟨V3.heap.size,0,none⟩ (.int .i64 TW)).setCell ⟨V3.heap.size,1,none⟩ (.int .i64 TH)).setCell ⟨V3.heap.size,2,none⟩ (.slice uo N2 uc)=X9 at *
 obtain ⟨c0,c1,c2,c3,c4,c5,c6⟩:=HCE.out _ (fun _=>trivial) g2
 obtain ⟨q0,q1,q2⟩:=z5EY y1
 go_wp2_with fail
 refine (HWR.out _ X9 y4 HTS.out).mono ?_
 rintro e V5 ⟨rfl,hb8⟩
 have HBF:=hide (quJN y4 hb8)
 clear c0 c1 c2 c3 c4 c5 c6 q0 q1 q2 y4 hb8
 go_wp2
 go_ret2
 exact ⟨rfl,HBF.out⟩
def onePx:List Px:=[(258,1,65535)]
theorem zA0f:picOk 1 1 onePx=true:=by decide
theorem zk2x (w:World) (o:Obj):IsPix ((w.alloc (.cells #[.int .i64 258,.int .i64 1,.int .i64 65535] 61)).alloc o) (.slice (some ⟨w.heap.size,0,none⟩) 1 1) onePx:=by
 obtain ⟨a1,a2⟩:=al2 w (.cells #[.int .i64 258,.int .i64 1,.int .i64 65535] 61) o
 obtain ⟨c0,c1,c2⟩:=z5EY a1
 refine ⟨some ⟨w.heap.size,0,none⟩,1,rfl,by decide,.inr ⟨w.heap.size,0,rfl,by simp;omega,fun j hj=>?_⟩⟩
 obtain rfl:j=0:=by have:onePx.length=1:=rfl;omega
 exact ⟨c0,c1,c2⟩
theorem dig1:dig 1=[49]:=Lib.decDigits_one (by decide)
theorem dig2:dig 2=[50]:=Lib.decDigits_one (by decide)
theorem q9gr:shotB 1 1 onePx true=[80,54,10,49,32,49,10,54,53,53,51,53,10,1,2,0,1,255,255]:=by
 show headT 1 1 65535++pixB true onePx=_
 rw[headT,dig1,ja9Q]
 rfl
theorem jfqc:shotB 1 1 onePx false=[80,54,10,49,32,49,10,50,53,53,10,1,0,255]:=by
 show headT 1 1 255++pixB false onePx=_
 rw[headT,dig1,z4Wu]
 rfl
theorem fileP (r:RawF):XH9X (nrm r)=XH9X r∧zq73 (nrm r)=zq73 r∧zcNm (nrm r)=zcNm r:=by
 refine ⟨?_,?_,?_⟩
 ·unfold XH9X;rw[q7oc];rfl
 ·unfold zq73;rw[q7oc];rfl
 ·unfold zcNm;rw[q7oc];rfl
theorem fileS:XSDS (nrmP jkrq) 2 2 [10,65535,0,7] 1=0:=by decide +kernel
theorem fileT:picOk 2 2 (X1qP (nrmP jkrq) 2 2 [10,65535,0,7] 1)=true:=by decide +kernel
theorem fileU:picOk 2 2 (turnL 2 2 (X1qP (nrmP jkrq) 2 2 [10,65535,0,7] 1) (mvOf 1))=true:=by decide +kernel
theorem fileL:(turnL 2 2 (X1qP (nrmP jkrq) 2 2 [10,65535,0,7] 1) (mvOf 1)).length=4:=by decide +kernel
theorem fileB (TL:List Px) (h:TL.length=4):(shotB 2 2 TL false).length=23:=by
 rw[shotB,List.length_append,XF45,h]
 show (headT 2 2 255).length+1*(3*4)=23
 rw[headT,dig2,z4Wu]
 rfl
theorem XGSo (w:World) (hm:zR7W w) (hp:PowAt w):Calls Tryz.prog 13 #[] w fun e w'=>e=.returned (.bool true)∧Below w.heap.size w w':=by
 have HWR:=hide (fun (d:Bool) (v:Value) (u:World) (hu:Below w.heap.size w u) (hv:IsPix u v onePx)=>zPEb 1 1 v onePx d u (hp.below hu (Nat.le_refl _)) hv)
 rw[show wrE 1 1 onePx=0 from if_pos zA0f] at HWR
 have HWS:=hide (show ∀d,wrS 1 1 onePx d=shotB 1 1 onePx d from fun d=>if_pos zA0f)
 simp only[HWS.out] at HWR
 have HRD:=hide (fun (u:World) (hu:Below w.heap.size w u)=>XcLf (shotB 1 1 onePx true) (XB1u true zA0f) u (hp.below hu (Nat.le_refl _)))
 have HRW:=hide (fun (a b:Nat) (d:Bool) (L:List UInt8) (q:Shot (shotB 1 1 onePx true) a b d L)=>X0Ld zA0f q)
 have HNS:=hide (show ¬q74T (shotB 1 1 onePx true) from fun h=>h _ _ _ _ (zbk9 true zA0f))
 obtain ⟨hR,hZ,hW,hH,hx0⟩:=Xgk2
 clear hx0
 have HFA:=hide (fun u=>jlV2 u)
 have HRS:=hide (show rawS fileF=rawW fileF by rw[rawS,if_pos hR.zero])
 have HPE:=hide hR.zero
 have hpl:fileF.plan=jkrq:=rfl
 obtain ⟨fw,fh,fz⟩:=fileP fileF
 have HBL:=hide (show (rawW fileF).length≤140737488355328 by decide +kernel)
 have HDV:=hide (fun (u:World) (hu:Below w.heap.size w u)=>jRbr (rawW fileF) HBL.out (nrm fileF) (qOXu hR) (by rw[q7oc];exact hR.zero) 1 1 2 2 [10,65535,0,7] false (X1qP (nrmP jkrq) 2 2 [10,65535,0,7] 1) 2 2 (turnL 2 2 (X1qP (nrmP jkrq) 2 2 [10,65535,0,7] 1) (mvOf 1)) (by rw[fw];exact hW) (by rw[fh];exact hH) (by rw[fz];exact hZ) fileS rfl (by rw[turnE,if_pos fileT];decide) (by decide) (by decide) rfl fileU u (hm.below hu (Nat.le_refl _)) (hp.below hu (Nat.le_refl _)))
 have HLB:=hide (fileB _ fileL)
 generalize shotB 2 2 (turnL 2 2 (X1qP (nrmP jkrq) 2 2 [10,65535,0,7] 1) (mvOf 1)) false=BB at *
 have HWF:=hide (fun (lv tv sv cv:Value) (u:World) (hu:IsRaw u fileF lv tv sv cv)=>jk43 fileF lv tv sv cv u hu)
 rw[HRS.out,HPE.out] at HWF
 clear hR hZ hW hH fw fh fz hpl hm hp
 generalize fileF=FF at *
 generalize rawW FF=RW at *
 obtain ⟨S1,hS1⟩:∃S1,shotB 1 1 onePx true=S1:=⟨_,rfl⟩
 obtain ⟨S2,hS2⟩:∃S2,shotB 1 1 onePx false=S2:=⟨_,rfl⟩
 have hs1:((str S1).toList == (⟨#[80,54,10,49,32,49,10,54,53,53,51,53,10,1,2,0,1,255,255]⟩:ByteArray).toList)=true:=by rw[←hS1,q9gr];exact zEmR _ _ |>.trans (by decide)
 have hs2:((str S2).toList == (⟨#[80,54,10,49,32,49,10,50,53,53,10,1,0,255]⟩:ByteArray).toList)=true:=by rw[←hS2,jfqc];exact zEmR _ _ |>.trans (by decide)
 have ht1:(str S1).toList=[80,54,10,49,32,49,10,54,53,53,51,53,10,1,2,0,1,255,255]:=by simpa using hs1
 have ht2:(str S2).toList=[80,54,10,49,32,49,10,50,53,53,10,1,0,255]:=by simpa using hs2
 have HW1:=hide (fun v u hu hv=>HWR.out true v u hu hv)
 have HW2:=hide (fun v u hu hv=>HWR.out false v u hu hv)
 rw[hS1] at HW1 HRD HRW HNS
 rw[hS2] at HW2
 have hB23:(str BB).size=23:=by rw[qzX5];exact HLB.out
 clear HWR HWS HRS HPE hS1 hS2 HLB HBL
 obtain ⟨a1,a2⟩:=al2 w (.cells #[.int .i64 258,.int .i64 1,.int .i64 65535] 61) (Obj.cells #[.int .i64 1,.int .i64 1,.slice (some ⟨w.heap.size,0,none⟩) 1 1] 24)
 have HQ:=hide (zk2x w (Obj.cells #[.int .i64 1,.int .i64 1,.slice (some ⟨w.heap.size,0,none⟩) 1 1] 24))
 have HB:=hide (be2 w (.cells #[.int .i64 258,.int .i64 1,.int .i64 65535] 61) (Obj.cells #[.int .i64 1,.int .i64 1,.slice (some ⟨w.heap.size,0,none⟩) 1 1] 24))
 have hl2:=(Array.getElem?_eq_some_iff.1 a2).1
 obtain ⟨p0,p1,p2⟩:=z5EY a2
 go_enter Tryz.func13,Tryz.ntmps13
 go_wp2_with fail
 clear p0 p1 p2 a1
 generalize (w.alloc (.cells #[.int .i64 258,.int .i64 1,.int .i64 65535] 61)).alloc (Obj.cells #[.int .i64 1,.int .i64 1,.slice (some ⟨w.heap.size,0,none⟩) 1 1] 24)=U at *
 refine (HW1.out _ U HB.out HQ.out).mono ?_
 rintro e V1 ⟨rfl,hb1⟩
 obtain ⟨p0,p1,p2⟩:=z5EY ((hb1.block _ hl2).trans a2)
 go_wp2_with fail
 clear p0 p1 p2
 refine (HW2.out _ V1 (quJN HB.out hb1) (HQ.out.below hb1 (Nat.le_refl _))).mono ?_
 rintro e V2 ⟨rfl,hb2⟩
 replace hb2:=quJN hb1 hb2
 clear hb1 HW1 HW2
 go_wp2_with fail
 refine (HRD.out V2 (quJN HB.out hb2)).mono ?_
 clear HRD
 rintro e V3 ⟨hb3,hc⟩
 rcases hc with hc|⟨hno,_⟩
 rotate_left
 ·exact absurd hno HNS.out
 obtain ⟨a,b,d,L,rv,hsh,rfl,hr,hfr⟩:=hc
 obtain ⟨ea,eb,rfl,epx⟩:=HRW.out _ _ _ _ hsh
 rw[epx] at hr
 rw[ea,eb]
 clear epx ea eb hsh HRW HNS hfr
 have HR:=hide hr
 obtain ⟨ro,rc,rfl,hx1,hx2⟩:=hr
 clear hx1 hx2
 rw[show onePx.length=1 from rfl] at HR ⊢
 have t1:=al1 V3 (Obj.cells #[.int .i64 1,.int .i64 1,.slice ro 1 rc] 24)
 have HR2:=hide (HR.out.alloc (Obj.cells #[.int .i64 1,.int .i64 1,.slice ro 1 rc] 24))
 have hb4:=quJN (quJN hb2 hb3) (qUNz V3 (Obj.cells #[.int .i64 1,.int .i64 1,.slice ro 1 rc] 24))
 have lt1:=(Array.getElem?_eq_some_iff.1 t1).1
 clear hb2 hb3 HR
 go_wp2_with fail
 generalize V3.alloc (Obj.cells #[.int .i64 1,.int .i64 1,.slice ro 1 rc] 24)=U4 at *
 generalize V3.heap.size=QB at *
 refine (HFA.out U4).mono ?_
 rintro e V5 ⟨lv,tv,sv,cv,rfl,hI,hb5⟩
 have HWQ:=hide (HWF.out lv tv sv cv V5 hI)
 obtain ⟨RA,hRA⟩:∃RA,rawA FF lv tv sv cv=RA:=⟨_,rfl⟩
 rw[hRA] at HWQ ⊢
 clear hRA hI HFA HWF
 go_wp2_with fail
 refine (HWQ.out).mono ?_
 rintro e V6 ⟨rfl,hb6⟩
 have hb56:=quJN hb5 hb6
 have hbU:=quJN hb4 hb56
 clear hb5 hb6 HWQ
 go_wp2_with fail
 refine (HDV.out V6 (quJN HB.out hbU)).mono ?_
 rintro e V7 ⟨rfl,hb7⟩
 have hb57:=quJN hb56 hb7
 have hbV:=quJN hbU hb7
 clear HDV hb56 hbU hb7
 obtain ⟨p0,p1,p2⟩:=z5EY ((hbV.block _ hl2).trans a2)
 obtain ⟨q0,q1,q2⟩:=z5EY ((hb57.block _ lt1).trans t1)
 have HSM:=hide (XIqO 1 1 _ onePx 1 1 _ onePx V7 (HR2.out.below hb57 (Nat.le_refl _)) (HQ.out.below hbV (Nat.le_refl _)))
 rw[show sameB 1 1 onePx 1 1 onePx=true by simp[sameB]] at HSM
 have HBV:=hide (quJN HB.out hbV)
 clear hb57 hbV hb4 a2 t1 hl2 lt1
 go_wp2_with fail
 refine (HSM.out).mono ?_
 rintro e V8 ⟨rfl,hb8⟩
 have HBF:=hide (quJN HBV.out hb8)
 clear hb8 p0 p1 p2 q0 q1 q2
 go_wp2
 go_ret
 exact ⟨rfl,HBF.out⟩
theorem qVsU (W H:Int) (v:Value) (ps:List Px) (deep:Bool) (a1:ByteArray) (hs:a1.size≤140737488355328) (w:World) (hm:zR7W w) (hp:PowAt w) (hv:IsPix w v ps) :
  Calls Tryz.prog 3 #[.agg #[.int .i64 W,.int .i64 H,v],.bool deep,.string a1] w fun e w'=>e=.returned (.bool true)∧Below w.heap.size w w':=by
 obtain ⟨s,rfl⟩:∃s,a1=str s:=⟨a1.data.toList,rfl⟩
 rw[qzX5] at hs
 have HWR:=hide (fun (u:World) (hu:Below w.heap.size w u)=>zPEb W H v ps deep u (hp.below hu (Nat.le_refl _)) (hv.below hu (Nat.le_refl _)))
 have HPF:=hide (fun (u:World) (hu:Below w.heap.size w u)=>XZBt W H v ps u (hv.below hu (Nat.le_refl _)))
 have HSB:=hide (show picOk W H ps=true→∀(u:World),Below w.heap.size w u→Calls Tryz.prog 10 #[.agg #[.int .i64 W,.int .i64 H,v],.bool deep] u fun e w'=>e=.returned (.string (str (shotB W H ps deep)))∧Below u.heap.size u w' from fun h u hu=>by
  obtain ⟨h1,h2,h3,h4⟩:=XMjn h
  have hin:=qrgi h
  obtain ⟨WN,rfl⟩:=Int.eq_ofNat_of_zero_le (show 0≤W by omega)
  obtain ⟨HN,rfl⟩:=Int.eq_ofNat_of_zero_le (show 0≤H by omega)
  exact qbNo WN HN (by omega) (by omega) v ps (by rw[Nat.mul_comm];exact_mod_cast h3) hin deep u (hv.below hu (Nat.le_refl _)))
 have HRD:=hide (fun (u:World) (hu:Below w.heap.size w u)=>XcLf s hs u (hp.below hu (Nat.le_refl _)))
 have HFR:=hide (fun (u:World)=>X2wl s hs u)
 have HBG:=hide (fun (u:World) (hu:Below w.heap.size w u)=>XGSo u (hm.below hu (Nat.le_refl _)) (hp.below hu (Nat.le_refl _)))
 obtain ⟨vo,vc,rfl,hx1,hx2⟩:=hv
 clear hx1 hx2 hm hp hs
 have a1:=al1 w (Obj.cells #[.int .i64 W,.int .i64 H,.slice vo ps.length vc] 24)
 have HB:=hide (qUNz w (Obj.cells #[.int .i64 W,.int .i64 H,.slice vo ps.length vc] 24))
 have hl1:=(Array.getElem?_eq_some_iff.1 a1).1
 obtain ⟨p0,p1,p2⟩:=z5EY a1
 have HWE:=hide (show wrE W H ps=if picOk W H ps=true then 0 else 1 from rfl)
 have HWS:=hide (show wrS W H ps deep=if picOk W H ps=true then shotB W H ps deep else [] from rfl)
 generalize wrE W H ps=WE at *
 generalize wrS W H ps deep=WS at *
 generalize shotB W H ps deep=SB at *
 go_enter Tryz.func3,Tryz.ntmps3
 go_wp2_with fail
 clear p0 p1 p2
 generalize w.alloc (Obj.cells #[.int .i64 W,.int .i64 H,.slice vo ps.length vc] 24)=U at *
 refine (HWR.out U HB.out).mono ?_
 clear HWR
 rintro e V1 ⟨rfl,hb1⟩
 have HB1:=hide (quJN HB.out hb1)
 have g1:=(hb1.block _ hl1).trans a1
 have hl2:=(Array.getElem?_eq_some_iff.1 g1).1
 obtain ⟨p0,p1,p2⟩:=z5EY g1
 clear hb1 a1 HB hl1
 go_wp2_with fail
 clear p0 p1 p2
 refine (HPF.out V1 HB1.out).mono ?_
 rintro e V2 ⟨rfl,hb2⟩
 have HB2:=hide (quJN HB1.out hb2)
 have g2:=(hb2.block _ hl2).trans g1
 obtain ⟨p0,p1,p2⟩:=z5EY g2
 clear hb2 g1 HB1 hl2
 go_upto_if 25 with fail
 go_cut [9,10] from 18 (fun x y v=>x=.string (str WS)∧y=.int .i64 WE∧Below w.heap.size w v)
 case first =>
  by_cases hok:picOk W H ps=true
  rotate_left
  ·obtain rfl:WE=1:=by rw[HWE.out,if_neg hok]
   obtain rfl:WS=[]:=by rw[HWS.out,if_neg hok]
   rw[show picOk W H ps=false by simpa using hok]
   go_wp2
   go_meet
   case rel=>exact ⟨rfl,rfl,HB2.out⟩
  obtain rfl:WE=0:=by rw[HWE.out,if_pos hok]
  obtain rfl:WS=SB:=by rw[HWS.out,if_pos hok]
  have HS2:=hide (HSB.out hok V2 HB2.out)
  rw[hok]
  clear hok
  go_wp2_with fail
  refine (HS2.out).mono ?_
  rintro e V3 ⟨rfl,hb3⟩
  have HB3:=hide (quJN HB2.out hb3)
  clear hb3
  go_wp2
  go_meet
  case rel=>exact ⟨rfl,rfl,HB3.out⟩
 case rest =>
  obtain ⟨rfl,rfl,hc⟩:=hcut
  have HC:=hide hc
  clear hc HB2 g2 HWE HWS HSB HPF p0 p1 p2
  have hst:((str WS).toList == (str WS).toList)=true:=by simp
  go_wp2_with fail
  refine (HRD.out wc HC.out).mono ?_
  rintro e V3 ⟨hb3,hc⟩
  have HB3:=hide (quJN HC.out hb3)
  clear hb3 HRD
  rcases hc with ⟨a,b,d,L,rv,hsh,rfl,hr,hfr⟩|⟨hno,rfl⟩
  ·have HR:=hide hr
   obtain ⟨ro,rc,rfl,hx1,hx2⟩:=hr
   clear hx1 hx2 hfr
   obtain ⟨PX,hPX⟩:∃PX,pixOf d L (b*a)=PX:=⟨_,rfl⟩
   rw[hPX] at HR ⊢
   have HPX:=hide hPX
   have HSH:=hide hsh
   clear hPX hsh
   obtain ⟨N,hN⟩:∃N,PX.length=N:=⟨_,rfl⟩
   rw[hN] at HR ⊢
   clear hN
   have t1:=al1 V3 (Obj.cells #[.int .i64 a,.int .i64 b,.slice ro N rc] 24)
   have HR4:=hide (HR.out.alloc (Obj.cells #[.int .i64 a,.int .i64 b,.slice ro N rc] 24))
   have HB4:=hide (quJN HB3.out (qUNz V3 (Obj.cells #[.int .i64 a,.int .i64 b,.slice ro N rc] 24)))
   have hl4:=(Array.getElem?_eq_some_iff.1 t1).1
   clear HR HB3
   go_wp2_with fail
   generalize V3.alloc (Obj.cells #[.int .i64 (a:Int),.int .i64 (b:Int),.slice ro N rc] 24)=U4 at *
   refine (HFR.out U4).mono ?_
   rintro e V5 ⟨hb5,hc⟩
   rcases hc with ⟨a',b',d',L',rv',hsh',rfl,hr',hfr'⟩|⟨hno,_⟩
   rotate_left
   ·exact absurd HSH.out (hno _ _ _ _)
   obtain ⟨rfl,rfl,rfl,rfl⟩:=HSH.out.one hsh'
   rw[HPX.out] at hr'
   clear hsh' hfr' HSH HPX
   have HRr:=hide hr'
   obtain ⟨so,sc,rfl,hx1,hx2⟩:=hr'
   clear hx1 hx2
   obtain ⟨N2,hN2⟩:∃N2,PX.length=N2:=⟨_,rfl⟩
   rw[hN2] at HRr ⊢
   clear hN2
   have q1:=al1 V5 (Obj.cells #[.int .i64 a,.int .i64 b,.slice so N2 sc] 24)
   have hb6:=quJN hb5 (qUNz V5 (Obj.cells #[.int .i64 a,.int .i64 b,.slice so N2 sc] 24))
   have t2:=(hb6.block _ hl4).trans t1
   have HR6:=hide (HR4.out.below hb6 (Nat.le_refl _))
   have HQ6:=hide (HRr.out.alloc (Obj.cells #[.int .i64 a,.int .i64 b,.slice so N2 sc] 24))
   have HB6:=hide (quJN HB4.out hb6)
   have hl5:=(Array.getElem?_eq_some_iff.1 q1).1
   have hl6:=(Array.getElem?_eq_some_iff.1 t2).1
   clear hb5 hb6 t1 HR4 HRr HB4 hl4 HFR
   go_wp2_with fail
   generalize V5.alloc (Obj.cells #[.int .i64 (a:Int),.int .i64 (b:Int),.slice so N2 sc] 24)=U6 at *
   refine (HBG.out U6 HB6.out).mono ?_
   rintro e V7 ⟨rfl,hb7⟩
   have HBF:=hide (quJN HB6.out hb7)
   have HSM:=hide (XIqO a b _ PX a b _ PX V7 (HR6.out.below hb7 (Nat.le_refl _)) (HQ6.out.below hb7 (Nat.le_refl _)))
   rw[show sameB a b PX a b PX=true by simp[sameB]] at HSM
   obtain ⟨p0,p1,p2⟩:=z5EY ((hb7.block _ hl6).trans t2)
   obtain ⟨q0,q1',q2⟩:=z5EY ((hb7.block _ hl5).trans q1)
   clear hb7 t2 q1 HR6 HQ6 HB6 HBG
   go_wp2_with fail
   refine (HSM.out).mono ?_
   rintro e V8 ⟨rfl,hb8⟩
   have HBL:=hide (quJN HBF.out hb8)
   clear hb8
   go_wp2
   go_ret
   exact ⟨rfl,HBL.out⟩
  ·have t1:=al1 V3 (Obj.cells #[.int .i64 0,.int .i64 0,.slice none 0 0] 24)
   have HB4:=hide (quJN HB3.out (qUNz V3 (Obj.cells #[.int .i64 0,.int .i64 0,.slice none 0 0] 24)))
   have hl4:=(Array.getElem?_eq_some_iff.1 t1).1
   have HNO:=hide hno
   clear hno HB3
   go_wp2_with fail
   generalize V3.alloc (Obj.cells #[.int .i64 0,.int .i64 0,.slice none 0 0] 24)=U4 at *
   refine (HFR.out U4).mono ?_
   rintro e V5 ⟨hb5,hc⟩
   rcases hc with ⟨a',b',d',L',rv',hsh',_⟩|⟨_,rfl⟩
   ·exact absurd hsh' (HNO.out _ _ _ _)
   have q1:=al1 V5 (Obj.cells #[.int .i64 0,.int .i64 0,.slice none 0 0] 24)
   have hb6:=quJN hb5 (qUNz V5 (Obj.cells #[.int .i64 0,.int .i64 0,.slice none 0 0] 24))
   have t2:=(hb6.block _ hl4).trans t1
   have HB6:=hide (quJN HB4.out hb6)
   have hl5:=(Array.getElem?_eq_some_iff.1 q1).1
   have hl6:=(Array.getElem?_eq_some_iff.1 t2).1
   clear hb5 hb6 t1 HB4 hl4 HFR
   go_wp2_with fail
   generalize V5.alloc (Obj.cells #[.int .i64 0,.int .i64 0,.slice none 0 0] 24)=U6 at *
   refine (HBG.out U6 HB6.out).mono ?_
   rintro e V7 ⟨rfl,hb7⟩
   have HBF:=hide (quJN HB6.out hb7)
   have HSM:=hide (XIqO 0 0 _ [] 0 0 _ [] V7 (IsPix.nil _) (IsPix.nil _))
   rw[show sameB 0 0 [] 0 0 []=true by simp[sameB]] at HSM
   obtain ⟨p0,p1,p2⟩:=z5EY ((hb7.block _ hl6).trans t2)
   obtain ⟨q0,q1',q2⟩:=z5EY ((hb7.block _ hl5).trans q1)
   clear hb7 t2 q1 HB6 HBG
   go_wp2_with fail
   refine (HSM.out).mono ?_
   rintro e V8 ⟨rfl,hb8⟩
   have HBL:=hide (quJN HBF.out hb8)
   clear hb8
   go_wp2
   go_ret
   exact ⟨rfl,HBL.out⟩
end Go.Proofs.YtfjeonehdlphiaaGreatDoor
