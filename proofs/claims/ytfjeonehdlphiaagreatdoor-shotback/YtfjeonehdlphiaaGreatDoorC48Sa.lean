/- Sa: part 48 of what the proofs need. -/
import Derived.Test.YtfjeonehdlphiaaGreatDoorC3Sa
import Derived.Test.YtfjeonehdlphiaaGreatDoorC4Sa
import Derived.Test.YtfjeonehdlphiaaGreatDoorC29Sa
import Derived.Test.YtfjeonehdlphiaaGreatDoorC34Sa
import Derived.Test.YtfjeonehdlphiaaGreatDoorC35Sa
import Derived.Test.YtfjeonehdlphiaaGreatDoorC37Sa
import Derived.Test.YtfjeonehdlphiaaGreatDoorC42Sa
import Derived.Test.YtfjeonehdlphiaaGreatDoorC43Sa
import Derived.Test.YtfjeonehdlphiaaGreatDoorC44Sa
import Derived.Test.YtfjeonehdlphiaaGreatDoorC45Sa
set_option linter.unusedVariables false
set_option maxHeartbeats 6400000
set_option maxRecDepth 100000
namespace Go.Proofs.YtfjeonehdlphiaaGreatDoor
open Go.RowKit
theorem jRbr (s:List UInt8) (hs:s.length≤140737488355328) (r:RawF) (hrd:rawRd s=some r) (hpe:XDWf r=0) (rows how W H:Int) (zs:List Int) (deep:Bool) (L:List Px) (TW TH:Int) (TL:List Px) (hW:XH9X r=W) (hH:zq73 r=H) (hZ:zcNm r=zs)
  (hS:XSDS r.plan W H zs rows=0) (hL:X1qP r.plan W H zs rows=L) (hT:turnE W H L how=0) (hTW:qPp5 (mvOf how) W H=TW) (hTH:qPp5 (mvOf how) H W=TH) (hTL:turnL W.toNat H.toNat L (mvOf how)=TL) (hK:picOk TW TH TL=true) (w:World) (hm:zR7W w) (hp:PowAt w) :
  Calls Tryz.prog 15 #[.string (str s),.agg #[.int .i64 rows,.int .i64 0,.int .i64 0,.int .i64 0,.int .i64 0,.int .i64 how,.bool deep]] w fun e w'=>e=.returned (.tuple #[.string (str (shotB TW TH TL deep)),.int .i64 0])∧Below w.heap.size w w':=by
 have HRD:=hide (fun (u:World)=>jR6l s u hs)
 rw[hrd] at HRD
 have HPL:=hide (fun (lv tv sv cv:Value) (u:World) (hu:IsRaw u r lv tv sv cv)=>XAFS r lv tv sv cv u hu)
 rw[hW,hH,hZ,hpe] at HPL
 have HST:=hide (fun (sv cv v:Value) (u:World) (h1:X1uD u r.plan sv cv) (h2:jCvT u v zs) (h3:roomy v)=>Xmrs r.plan sv cv W H v zs rows u h1 h2 h3)
 rw[hS,hL] at HST
 have HTU:=hide (fun (v:Value) (u:World) (hu:Below w.heap.size w u) (hv:IsPix u v L)=>Xycd W H v L how u (hm.below hu (Nat.le_refl _)) hv)
 rw[hT,hTW,hTH,hTL] at HTU
 have HWR:=hide (fun (v:Value) (u:World) (hu:Below w.heap.size w u) (hv:IsPix u v TL)=>zPEb TW TH v TL deep u (hp.below hu (Nat.le_refl _)) hv)
 rw[show wrE TW TH TL=0 from if_pos hK,show wrS TW TH TL deep=shotB TW TH TL deep from if_pos hK] at HWR
 clear hrd hpe hW hH hZ hS hL hT hTW hTH hTL hK hm hp
 have a1:=al1 w (Obj.cells #[.int .i64 rows,.int .i64 0,.int .i64 0,.int .i64 0,.int .i64 0,.int .i64 how,.bool deep] 40)
 have HB:=hide (qUNz w (Obj.cells #[.int .i64 rows,.int .i64 0,.int .i64 0,.int .i64 0,.int .i64 0,.int .i64 how,.bool deep] 40))
 have hl1:=(Array.getElem?_eq_some_iff.1 a1).1
 have HCE:=hide (fun (v:World) (hv:Below w.heap.size w v→True) (h:v.heap[w.heap.size]?=some (.cells #[.int .i64 rows,.int .i64 0,.int .i64 0,.int .i64 0,.int .i64 0,.int .i64 how,.bool deep] 40 (0,0)))=>(show v.cell? ⟨w.heap.size,0,none⟩=some (.int .i64 rows)∧v.cell? ⟨w.heap.size,1,none⟩=some (.int .i64 0)∧v.cell? ⟨w.heap.size,2,none⟩=some (.int .i64 0)∧v.cell? ⟨w.heap.size,3,none⟩=some (.int .i64 0)∧v.cell? ⟨w.heap.size,4,none⟩=some (.int .i64 0)∧v.cell? ⟨w.heap.size,5,none⟩=some (.int .i64 how)∧v.cell? ⟨w.heap.size,6,none⟩=some (.bool deep) from ⟨by rw[Lib.cell_of_heap h];rfl,by rw[Lib.cell_of_heap h];rfl,by rw[Lib.cell_of_heap h];rfl,by rw[Lib.cell_of_heap h];rfl,by rw[Lib.cell_of_heap h];rfl,by rw[Lib.cell_of_heap h];rfl,by rw[Lib.cell_of_heap h];rfl⟩))
 go_enter Tryz.func15,Tryz.ntmps15
 go_wp2_with fail
 generalize w.alloc (Obj.cells #[.int .i64 rows,.int .i64 0,.int .i64 0,.int .i64 0,.int .i64 0,.int .i64 how,.bool deep] 40)=U at *
 refine (HRD.out U).mono ?_
 clear HRD
 rintro e V1 ⟨hb1,hc⟩
 rcases hc with ⟨r',lv,tv,sv,cv,hrd,rfl,hI,hx1,hx2,hx3,hx4⟩|⟨hrd,_⟩
 rotate_left
 ·cases hrd
 cases hrd
 clear hx1 hx2 hx3 hx4
 have HPC:=hide (show ∀j u,(planA r.plan sv cv).toList[j]?=some u→(rawA r lv tv sv cv).toList[7+j]?=some u from fun j u h=>by rw[Nat.add_comm];exact h)
 obtain ⟨RX,hRX⟩:∃RX,rawA r lv tv sv cv=RX:=⟨_,rfl⟩
 have iRX:(Tryz.prog.info? 57).map (·.size)=some RX.size:=by rw[←hRX];kernel_rfl
 have jRX:(rawZ:Array Value).size=RX.size:=by rw[←hRX];rfl
 have oRX:RX.all (·.oneCell')=true:=by rw[←hRX];exact XIRQ hI
 have zRX:=al1 V1 (Obj.cells rawZ 57)
 have cRX:=setRow_heap _ _ _ RX _ _ zRX
 have XRX:=hide (below_setRow (g:=V1.heap.size) (qUNz V1 (Obj.cells rawZ 57)) (Nat.le_refl _) RX)
 have HRX:=hide hRX
 have hb2:=quJN hb1 XRX.out
 have HIX:=hide (hI.below XRX.out (Nat.le_refl _))
 have HPQ:=hide (HPL.out lv tv sv cv)
 rw[hRX] at HPQ HPC ⊢
 clear hRX hI hb1 XRX HPL
 go_upto_region 4 with (refine wpList_store_row rfl 57 _ _ rfl V1.heap.size RX rfl rfl _ _ zRX iRX jRX oRX ?_)
 clear zRX
 generalize (V1.alloc (Obj.cells rawZ 57)).setRow V1.heap.size RX=U1 at *
 generalize V1.heap.size=XB at *
 have lx:=(Array.getElem?_eq_some_iff.1 cRX).1
 go_wp2_with (refine wpList_load_row rfl 57 _ rfl _ rfl _ _ _ _ cRX Tryz.underlying57 rfl iRX ?_)
 refine (HPQ.out U1 HIX.out).mono ?_
 clear HPQ
 rintro e V2 ⟨pv,rfl,hpi,hb3,hfp⟩
 have HRM:=hide hfp.2
 have HPI:=hide hpi
 obtain ⟨po,pc,rfl,hx1,hx2⟩:=hpi
 clear hx1 hx2 hfp
 have p1:=al1 V2 (Obj.cells #[.int .i64 W,.int .i64 H,.slice po zs.length pc] 54)
 have hb4:=quJN hb3 (qUNz V2 (Obj.cells #[.int .i64 W,.int .i64 H,.slice po zs.length pc] 54))
 have HPI2:=hide (HPI.out.alloc (Obj.cells #[.int .i64 W,.int .i64 H,.slice po zs.length pc] 54))
 have HPN:=hide ((HIX.out.below hb4 (Nat.le_refl _)).plan)
 have hbb:=quJN hb2 hb4
 have g1:=(hbb.block _ hl1).trans a1
 obtain ⟨c0,c1,c2,c3,c4,c5,c6⟩:=HCE.out _ (fun _=>trivial) g1
 have d1:=(hb4.block _ lx).trans cRX
 have HTT:=hide (show ∀j u,(planA r.plan sv cv).toList[j]?=some u→(V2.alloc (Obj.cells #[.int .i64 W,.int .i64 H,.slice po zs.length pc] 54)).cell? ⟨XB,7+j,none⟩=some u from fun j u h=>by
  rw[Lib.cell_of_heap d1]
  have:=HPC.out j u h
  simpa using this)
 obtain ⟨p0',p1',p2'⟩:=z5EY p1
 clear hb3 HPI cRX d1 HPC
 go_wp2_with (refine XiYX rfl 51 _ rfl _ 7 rfl (planA r.plan sv cv) _ HTT.out Tryz.underlying51 rfl (by kernel_rfl) ?_)
 clear p0' p1' p2' c0 c1 c2 c3 c4 c5 c6 HTT
 generalize V2.alloc (Obj.cells #[.int .i64 W,.int .i64 H,.slice po zs.length pc] 54)=U2 at *
 refine (HST.out sv cv _ U2 HPN.out HPI2.out HRM.out).mono ?_
 clear HST
 rintro e V3 ⟨qv,rfl,hq,hb5,hfq⟩
 rw[show okW 0 W=W from rfl,show okW 0 H=H from rfl]
 rw[show okL 0 L=L from rfl] at hq
 have HQ:=hide hq
 obtain ⟨qo,qc,rfl,hx1,hx2⟩:=hq
 clear hx1 hx2
 obtain ⟨N1,hN1⟩:∃N,L.length=N:=⟨_,rfl⟩
 rw[hN1] at HQ hfq ⊢
 clear hN1
 have t1:=al1 V3 (Obj.cells #[.int .i64 W,.int .i64 H,.slice qo N1 qc] 24)
 have hb6:=quJN hb5 (qUNz V3 (Obj.cells #[.int .i64 W,.int .i64 H,.slice qo N1 qc] 24))
 have HQ2:=hide (HQ.out.alloc (Obj.cells #[.int .i64 W,.int .i64 H,.slice qo N1 qc] 24))
 replace hbb:=quJN hbb hb6
 replace g1:=(hbb.block _ hl1).trans a1
 obtain ⟨c0,c1,c2,c3,c4,c5,c6⟩:=HCE.out _ (fun _=>trivial) g1
 obtain ⟨q0,q1,q2⟩:=z5EY t1
 have l3:=(Array.getElem?_eq_some_iff.1 t1).1
 have HBX:=hide (quJN HB.out hbb)
 have HV3:=hide (show w.heap.size<V3.heap.size from Nat.lt_of_lt_of_le hl1 (Nat.le_trans (quJN hb2 hb4).size hb5.size))
 clear hb5 HQ
 go_wp2_with fail
 clear c0 c1 c2 c3 c4 c5 c6 q0 q1 q2
 generalize V3.alloc (Obj.cells #[.int .i64 W,.int .i64 H,.slice qo N1 qc] 24)=U3 at *
 refine (HTU.out _ U3 HBX.out HQ2.out).mono ?_
 clear HTU
 rintro e V4 ⟨tq,rfl,ht,hb7,hft⟩
 rw[show okW 0 TW=TW from rfl,show okW 0 TH=TH from rfl]
 rw[show okL 0 TL=TL from rfl] at ht
 have HT:=hide ht
 obtain ⟨uo,uc,rfl,hx1,hx2⟩:=ht
 clear hx1 hx2
 obtain ⟨N2,hN2⟩:∃N,TL.length=N:=⟨_,rfl⟩
 rw[hN2] at HT hft ⊢
 clear hN2
 have k1:=(hb7.block _ l3).trans t1
 obtain ⟨z0,z1,z2⟩:=z5EY k1
 have f0:=Lib.frozen_of_heap k1 0
 have f1:=Lib.frozen_of_heap k1 1
 have f2:=Lib.frozen_of_heap k1 2
 have HTS:=hide (HT.out.set3 hft l3 (.int .i64 TW) (.int .i64 TH) (.slice uo N2 uc))
 obtain ⟨y1,y2,y3,y4⟩:=X0Wz k1 (.int .i64 TW) (.int .i64 TH) (.slice uo N2 uc) w (Nat.le_of_lt HV3.out) (quJN HBX.out hb7)
 have lg1:=(Array.getElem?_eq_some_iff.1 g1).1
 have hne:w.heap.size≠V3.heap.size:=by have:=HV3.out;omega
 have g2:=(y2 w.heap.size hne).trans ((hb7.block _ lg1).trans g1)
 go_upto_region 17 with fail
 clear z0 z1 z2 f0 f1 f2 y2 y3
 generalize ((V4.setCell ⟨V3.heap.size,0,none⟩ (.int .i64 TW)).setCell ⟨V3.heap.size,1,none⟩ (.int .i64 TH)).setCell ⟨V3.heap.size,2,none⟩ (.slice uo N2 uc)=X9 at *
 obtain ⟨c0,c1,c2,c3,c4,c5,c6⟩:=HCE.out _ (fun _=>trivial) g2
 obtain ⟨q0,q1,q2⟩:=z5EY y1
 go_wp2_with fail
 refine (HWR.out _ X9 y4 HTS.out).mono ?_
 rintro e V5 ⟨rfl,hb8⟩
 have HBF:=hide (quJN y4 hb8)
 clear c0 c1 c2 c3 c4 c5 c6 q0 q1 q2 y4 hb8
 go_wp2
 go_ret2
 exact ⟨rfl,HBF.out⟩
def onePx:List Px:=[(258,1,65535)]
theorem zA0f:picOk 1 1 onePx=true:=by decide
theorem zk2x (w:World) (o:Obj):IsPix ((w.alloc (.cells #[.int .i64 258,.int .i64 1,.int .i64 65535] 61)).alloc o) (.slice (some ⟨w.heap.size,0,none⟩) 1 1) onePx:=by
 obtain ⟨a1,a2⟩:=al2 w (.cells #[.int .i64 258,.int .i64 1,.int .i64 65535] 61) o
 obtain ⟨c0,c1,c2⟩:=z5EY a1
 refine ⟨some ⟨w.heap.size,0,none⟩,1,rfl,by decide,.inr ⟨w.heap.size,0,rfl,by simp;omega,fun j hj=>?_⟩⟩
 obtain rfl:j=0:=by have:onePx.length=1:=rfl;omega
 exact ⟨c0,c1,c2⟩
theorem dig1:dig 1=[49]:=Lib.decDigits_one (by decide)
theorem dig2:dig 2=[50]:=Lib.decDigits_one (by decide)
theorem q9gr:shotB 1 1 onePx true=[80,54,10,49,32,49,10,54,53,53,51,53,10,1,2,0,1,255,255]:=by
 show headT 1 1 65535++pixB true onePx=_
 rw[headT,dig1,ja9Q]
 rfl
theorem jfqc:shotB 1 1 onePx false=[80,54,10,49,32,49,10,50,53,53,10,1,0,255]:=by
 show headT 1 1 255++pixB false onePx=_
 rw[headT,dig1,z4Wu]
 rfl
theorem fileP (r:RawF):XH9X (nrm r)=XH9X r∧zq73 (nrm r)=zq73 r∧zcNm (nrm r)=zcNm r:=by
 refine ⟨?_,?_,?_⟩
 ·unfold XH9X;rw[q7oc];rfl
 ·unfold zq73;rw[q7oc];rfl
 ·unfold zcNm;rw[q7oc];rfl
theorem fileS:XSDS (nrmP jkrq) 2 2 [10,65535,0,7] 1=0:=by decide +kernel
theorem fileT:picOk 2 2 (X1qP (nrmP jkrq) 2 2 [10,65535,0,7] 1)=true:=by decide +kernel
theorem fileU:picOk 2 2 (turnL 2 2 (X1qP (nrmP jkrq) 2 2 [10,65535,0,7] 1) (mvOf 1))=true:=by decide +kernel
theorem fileL:(turnL 2 2 (X1qP (nrmP jkrq) 2 2 [10,65535,0,7] 1) (mvOf 1)).length=4:=by decide +kernel
theorem fileB (TL:List Px) (h:TL.length=4):(shotB 2 2 TL false).length=23:=by
 rw[shotB,List.length_append,XF45,h]
 show (headT 2 2 255).length+1*(3*4)=23
 rw[headT,dig2,z4Wu]
 rfl
theorem XGSo (w:World) (hm:zR7W w) (hp:PowAt w):Calls Tryz.prog 13 #[] w fun e w'=>e=.returned (.bool true)∧Below w.heap.size w w':=by
 have HWR:=hide (fun (d:Bool) (v:Value) (u:World) (hu:Below w.heap.size w u) (hv:IsPix u v onePx)=>zPEb 1 1 v onePx d u (hp.below hu (Nat.le_refl _)) hv)
 rw[show wrE 1 1 onePx=0 from if_pos zA0f] at HWR
 have HWS:=hide (show ∀d,wrS 1 1 onePx d=shotB 1 1 onePx d from fun d=>if_pos zA0f)
 simp only[HWS.out] at HWR
 have HRD:=hide (fun (u:World) (hu:Below w.heap.size w u)=>XcLf (shotB 1 1 onePx true) (XB1u true zA0f) u (hp.below hu (Nat.le_refl _)))
 have HRW:=hide (fun (a b:Nat) (d:Bool) (L:List UInt8) (q:Shot (shotB 1 1 onePx true) a b d L)=>X0Ld zA0f q)
 have HNS:=hide (show ¬q74T (shotB 1 1 onePx true) from fun h=>h _ _ _ _ (zbk9 true zA0f))
 obtain ⟨hR,hZ,hW,hH,hx0⟩:=Xgk2
 clear hx0
 have HFA:=hide (fun u=>jlV2 u)
 have HRS:=hide (show rawS fileF=rawW fileF by rw[rawS,if_pos hR.zero])
 have HPE:=hide hR.zero
 have hpl:fileF.plan=jkrq:=rfl
 obtain ⟨fw,fh,fz⟩:=fileP fileF
 have HBL:=hide (show (rawW fileF).length≤140737488355328 by decide +kernel)
 have HDV:=hide (fun (u:World) (hu:Below w.heap.size w u)=>jRbr (rawW fileF) HBL.out (nrm fileF) (qOXu hR) (by rw[q7oc];exact hR.zero) 1 1 2 2 [10,65535,0,7] false (X1qP (nrmP jkrq) 2 2 [10,65535,0,7] 1) 2 2 (turnL 2 2 (X1qP (nrmP jkrq) 2 2 [10,65535,0,7] 1) (mvOf 1)) (by rw[fw];exact hW) (by rw[fh];exact hH) (by rw[fz];exact hZ) fileS rfl (by rw[turnE,if_pos fileT];decide) (by decide) (by decide) rfl fileU u (hm.below hu (Nat.le_refl _)) (hp.below hu (Nat.le_refl _)))
 have HLB:=hide (fileB _ fileL)
 generalize shotB 2 2 (turnL 2 2 (X1qP (nrmP jkrq) 2 2 [10,65535,0,7] 1) (mvOf 1)) false=BB at *
 have HWF:=hide (fun (lv tv sv cv:Value) (u:World) (hu:IsRaw u fileF lv tv sv cv)=>jk43 fileF lv tv sv cv u hu)
 rw[HRS.out,HPE.out] at HWF
 clear hR hZ hW hH fw fh fz hpl hm hp
 generalize fileF=FF at *
 generalize rawW FF=RW at *
 obtain ⟨S1,hS1⟩:∃S1,shotB 1 1 onePx true=S1:=⟨_,rfl⟩
 obtain ⟨S2,hS2⟩:∃S2,shotB 1 1 onePx false=S2:=⟨_,rfl⟩
 have hs1:((str S1).toList == (⟨#[80,54,10,49,32,49,10,54,53,53,51,53,10,1,2,0,1,255,255]⟩:ByteArray).toList)=true:=by rw[←hS1,q9gr];exact zEmR _ _ |>.trans (by decide)
 have hs2:((str S2).toList == (⟨#[80,54,10,49,32,49,10,50,53,53,10,1,0,255]⟩:ByteArray).toList)=true:=by rw[←hS2,jfqc];exact zEmR _ _ |>.trans (by decide)
 have ht1:(str S1).toList=[80,54,10,49,32,49,10,54,53,53,51,53,10,1,2,0,1,255,255]:=by simpa using hs1
 have ht2:(str S2).toList=[80,54,10,49,32,49,10,50,53,53,10,1,0,255]:=by simpa using hs2
 have HW1:=hide (fun v u hu hv=>HWR.out true v u hu hv)
 have HW2:=hide (fun v u hu hv=>HWR.out false v u hu hv)
 rw[hS1] at HW1 HRD HRW HNS
 rw[hS2] at HW2
 have hB23:(str BB).size=23:=by rw[qzX5];exact HLB.out
 clear HWR HWS HRS HPE hS1 hS2 HLB HBL
 obtain ⟨a1,a2⟩:=al2 w (.cells #[.int .i64 258,.int .i64 1,.int .i64 65535] 61) (Obj.cells #[.int .i64 1,.int .i64 1,.slice (some ⟨w.heap.size,0,none⟩) 1 1] 24)
 have HQ:=hide (zk2x w (Obj.cells #[.int .i64 1,.int .i64 1,.slice (some ⟨w.heap.size,0,none⟩) 1 1] 24))
 have HB:=hide (be2 w (.cells #[.int .i64 258,.int .i64 1,.int .i64 65535] 61) (Obj.cells #[.int .i64 1,.int .i64 1,.slice (some ⟨w.heap.size,0,none⟩) 1 1] 24))
 have hl2:=(Array.getElem?_eq_some_iff.1 a2).1
 obtain ⟨p0,p1,p2⟩:=z5EY a2
 go_enter Tryz.func13,Tryz.ntmps13
 go_wp2_with fail
 clear p0 p1 p2 a1
 generalize (w.alloc (.cells #[.int .i64 258,.int .i64 1,.int .i64 65535] 61)).alloc (Obj.cells #[.int .i64 1,.int .i64 1,.slice (some ⟨w.heap.size,0,none⟩) 1 1] 24)=U at *
 refine (HW1.out _ U HB.out HQ.out).mono ?_
 rintro e V1 ⟨rfl,hb1⟩
 obtain ⟨p0,p1,p2⟩:=z5EY ((hb1.block _ hl2).trans a2)
 go_wp2_with fail
 clear p0 p1 p2
 refine (HW2.out _ V1 (quJN HB.out hb1) (HQ.out.below hb1 (Nat.le_refl _))).mono ?_
 rintro e V2 ⟨rfl,hb2⟩
 replace hb2:=quJN hb1 hb2
 clear hb1 HW1 HW2
 go_wp2_with fail
 refine (HRD.out V2 (quJN HB.out hb2)).mono ?_
 clear HRD
 rintro e V3 ⟨hb3,hc⟩
 rcases hc with hc|⟨hno,_⟩
 rotate_left
 ·exact absurd hno HNS.out
 obtain ⟨a,b,d,L,rv,hsh,rfl,hr,hfr⟩:=hc
 obtain ⟨ea,eb,rfl,epx⟩:=HRW.out _ _ _ _ hsh
 rw[epx] at hr
 rw[ea,eb]
 clear epx ea eb hsh HRW HNS hfr
 have HR:=hide hr
 obtain ⟨ro,rc,rfl,hx1,hx2⟩:=hr
 clear hx1 hx2
 rw[show onePx.length=1 from rfl] at HR ⊢
 have t1:=al1 V3 (Obj.cells #[.int .i64 1,.int .i64 1,.slice ro 1 rc] 24)
 have HR2:=hide (HR.out.alloc (Obj.cells #[.int .i64 1,.int .i64 1,.slice ro 1 rc] 24))
 have hb4:=quJN (quJN hb2 hb3) (qUNz V3 (Obj.cells #[.int .i64 1,.int .i64 1,.slice ro 1 rc] 24))
 have lt1:=(Array.getElem?_eq_some_iff.1 t1).1
 clear hb2 hb3 HR
 go_wp2_with fail
 generalize V3.alloc (Obj.cells #[.int .i64 1,.int .i64 1,.slice ro 1 rc] 24)=U4 at *
 generalize V3.heap.size=QB at *
 refine (HFA.out U4).mono ?_
 rintro e V5 ⟨lv,tv,sv,cv,rfl,hI,hb5⟩
 have HWQ:=hide (HWF.out lv tv sv cv V5 hI)
 obtain ⟨RA,hRA⟩:∃RA,rawA FF lv tv sv cv=RA:=⟨_,rfl⟩
 rw[hRA] at HWQ ⊢
 clear hRA hI HFA HWF
 go_wp2_with fail
 refine (HWQ.out).mono ?_
 rintro e V6 ⟨rfl,hb6⟩
 have hb56:=quJN hb5 hb6
 have hbU:=quJN hb4 hb56
 clear hb5 hb6 HWQ
 go_wp2_with fail
 refine (HDV.out V6 (quJN HB.out hbU)).mono ?_
 rintro e V7 ⟨rfl,hb7⟩
 have hb57:=quJN hb56 hb7
 have hbV:=quJN hbU hb7
 clear HDV hb56 hbU hb7
 obtain ⟨p0,p1,p2⟩:=z5EY ((hbV.block _ hl2).trans a2)
 obtain ⟨q0,q1,q2⟩:=z5EY ((hb57.block _ lt1).trans t1)
 have HSM:=hide (XIqO 1 1 _ onePx 1 1 _ onePx V7 (HR2.out.below hb57 (Nat.le_refl _)) (HQ.out.below hbV (Nat.le_refl _)))
 rw[show sameB 1 1 onePx 1 1 onePx=true by simp[sameB]] at HSM
 have HBV:=hide (quJN HB.out hbV)
 clear hb57 hbV hb4 a2 t1 hl2 lt1
 go_wp2_with fail
 refine (HSM.out).mono ?_
 rintro e V8 ⟨rfl,hb8⟩
 have HBF:=hide (quJN HBV.out hb8)
 clear hb8 p0 p1 p2 q0 q1 q2
 go_wp2
 go_ret
 exact ⟨rfl,HBF.out⟩
theorem qdEg (W H:Int) (v:Value) (ps:List Px) (a1:ByteArray) (hs:a1.size≤140737488355328) (w:World) (hm:zR7W w) (hp:PowAt w) (hv:IsPix w v ps) :
  Calls Tryz.prog 5 #[.agg #[.int .i64 W,.int .i64 H,v],.string a1] w fun e w'=>e=.returned (.bool true)∧Below w.heap.size w w':=by
 obtain ⟨s,rfl⟩:∃s,a1=str s:=⟨a1.data.toList,rfl⟩
 rw[qzX5] at hs
 have HWR:=hide (fun (u:World) (hu:Below w.heap.size w u)=>zPEb W H v ps true u (hp.below hu (Nat.le_refl _)) (hv.below hu (Nat.le_refl _)))
 have HRD:=hide (fun (t:List UInt8) (ht:t.length≤140737488355328) (u:World) (hu:Below w.heap.size w u)=>XcLf t ht u (hp.below hu (Nat.le_refl _)))
 have HW2:=hide (fun (a b:Nat) (d:Bool) (qv:Value) (qs:List Px) (u:World) (hu:Below w.heap.size w u) (hq:IsPix u qv qs)=>zPEb a b qv qs d u (hp.below hu (Nat.le_refl _)) hq)
 have HBG:=hide (fun (u:World) (hu:Below w.heap.size w u)=>XGSo u (hm.below hu (Nat.le_refl _)) (hp.below hu (Nat.le_refl _)))
 have HV:=hide hv
 obtain ⟨vo,vc,rfl,hx1,hx2⟩:=hv
 clear hx1 hx2 hm hp
 have a1:=al1 w (Obj.cells #[.int .i64 W,.int .i64 H,.slice vo ps.length vc] 24)
 have HB:=hide (qUNz w (Obj.cells #[.int .i64 W,.int .i64 H,.slice vo ps.length vc] 24))
 have hl1:=(Array.getElem?_eq_some_iff.1 a1).1
 obtain ⟨p0,p1,p2⟩:=z5EY a1
 have HRW:=hide (fun (h:picOk W H ps=true) (a b:Nat) (d:Bool) (L:List UInt8) (q:Shot (shotB W H ps true) a b d L)=>X0Ld h q)
 have HNS:=hide (fun (h:picOk W H ps=true) (q:q74T (shotB W H ps true))=>q _ _ _ _ (zbk9 true h))
 have HLN:=hide (fun (h:picOk W H ps=true)=>XB1u true h)
 have HWE:=hide (show wrE W H ps=if picOk W H ps=true then 0 else 1 from rfl)
 have HWS:=hide (show wrS W H ps true=if picOk W H ps=true then shotB W H ps true else [] from rfl)
 generalize wrE W H ps=WE at *
 generalize wrS W H ps true=WS at *
 generalize shotB W H ps true=SB at *
 go_enter Tryz.func5,Tryz.ntmps5
 go_wp2_with fail
 clear p0 p1 p2
 generalize w.alloc (Obj.cells #[.int .i64 W,.int .i64 H,.slice vo ps.length vc] 24)=U at *
 refine (HWR.out U HB.out).mono ?_
 clear HWR
 rintro e V1 ⟨rfl,hb1⟩
 have HB1:=hide (quJN HB.out hb1)
 have g1:=(hb1.block _ hl1).trans a1
 have hl2:=(Array.getElem?_eq_some_iff.1 g1).1
 clear hb1 a1 HB
 go_upto_if 21 with fail
 go_cut [7,8,9] from 15 (fun x1 x2 x3 v=>Below w.heap.size w v)
 case first =>
  by_cases hok:picOk W H ps=true
  rotate_left
  ·obtain rfl:WE=1:=by rw[HWE.out,if_neg hok]
   go_wp2
   go_meet
   case rel=>exact HB1.out
  obtain rfl:WE=0:=by rw[HWE.out,if_pos hok]
  obtain rfl:WS=SB:=by rw[HWS.out,if_pos hok]
  go_wp2_with fail
  refine (HRD.out _ (HLN.out hok) V1 HB1.out).mono ?_
  rintro e V2 ⟨hb2,hc⟩
  rcases hc with hc|⟨hno,_⟩
  rotate_left
  ·exact absurd hno (HNS.out hok)
  obtain ⟨a,b,d,L,rv,hsh,rfl,hr,hfr⟩:=hc
  obtain ⟨ea,eb,rfl,epx⟩:=HRW.out hok _ _ _ _ hsh
  rw[epx] at hr
  rw[ea,eb]
  clear epx ea eb hsh hfr
  have HR:=hide hr
  obtain ⟨ro,rc,rfl,hx1,hx2⟩:=hr
  clear hx1 hx2
  have t1:=al1 V2 (Obj.cells #[.int .i64 W,.int .i64 H,.slice ro ps.length rc] 24)
  have hb3:=quJN hb2 (qUNz V2 (Obj.cells #[.int .i64 W,.int .i64 H,.slice ro ps.length rc] 24))
  have g2:=(hb3.block _ hl2).trans g1
  obtain ⟨p0,p1,p2⟩:=z5EY g2
  obtain ⟨q0,q1,q2⟩:=z5EY t1
  have HSM:=hide (XIqO W H _ ps W H _ ps _ (HR.out.alloc (Obj.cells #[.int .i64 W,.int .i64 H,.slice ro ps.length rc] 24)) (HV.out.below (quJN HB1.out hb3) (Nat.le_refl _)))
  rw[show sameB W H ps W H ps=true by simp[sameB]] at HSM
  have HB3:=hide (quJN HB1.out hb3)
  clear hb2 hb3 g1 g2 t1 HR
  go_wp2_with fail
  clear p0 p1 p2 q0 q1 q2
  generalize V2.alloc (Obj.cells #[.int .i64 W,.int .i64 H,.slice ro ps.length rc] 24)=U2 at *
  refine (HSM.out).mono ?_
  rintro e V3 ⟨rfl,hb4⟩
  have HBF:=hide (quJN HB3.out hb4)
  clear hb4 HSM
  go_wp2
  go_meet
  case rel=>exact HBF.out
 case rest =>
  have HC:=hide hcut
  clear hcut HB1 g1 hl2 HWE HWS HRW HNS HLN
  go_wp2_with fail
  refine (HRD.out s hs wc HC.out).mono ?_
  rintro e V2 ⟨hb2,hc⟩
  rcases hc with hc|⟨hno,rfl⟩
  rotate_left
  ·have HB3:=hide (quJN (quJN HC.out hb2) (qUNz V2 (Obj.cells #[.int .i64 0,.int .i64 0,.slice none 0 0] 24)))
   clear hb2
   go_wp2_with fail
   refine (HBG.out _ HB3.out).mono ?_
   rintro e V3 ⟨rfl,hb3⟩
   have HBF:=hide (quJN HB3.out hb3)
   clear hb3
   go_wp2
   go_ret
   exact ⟨rfl,HBF.out⟩
  obtain ⟨a,b,d,L,rv,hsh,rfl,hr,hfr⟩:=hc
  have HE:=hide (show wrE a b (pixOf d L (b*a))=0 from if_pos (jgeb hsh))
  have HS:=hide (show wrS a b (pixOf d L (b*a)) d=s by rw[wrS,if_pos (jgeb hsh),hsh.bytes])
  clear hsh hfr
  have HR:=hide hr
  obtain ⟨ro,rc,rfl,hx1,hx2⟩:=hr
  clear hx1 hx2
  generalize pixOf d L (b*a)=PX at *
  obtain ⟨N,hN⟩:∃N,PX.length=N:=⟨_,rfl⟩
  rw[hN] at HR ⊢
  clear hN
  have t1:=al1 V2 (Obj.cells #[.int .i64 a,.int .i64 b,.slice ro N rc] 24)
  have HB3:=hide (quJN (quJN HC.out hb2) (qUNz V2 (Obj.cells #[.int .i64 a,.int .i64 b,.slice ro N rc] 24)))
  have HWQ:=hide (HW2.out a b d _ PX _ HB3.out (HR.out.alloc (Obj.cells #[.int .i64 a,.int .i64 b,.slice ro N rc] 24)))
  rw[HE.out,HS.out] at HWQ
  obtain ⟨q0,q1,q2⟩:=z5EY t1
  clear hb2 HR t1 HW2
  go_wp2_with fail
  clear q0 q1 q2
  generalize V2.alloc (Obj.cells #[.int .i64 (a:Int),.int .i64 (b:Int),.slice ro N rc] 24)=U2 at *
  refine (HWQ.out).mono ?_
  rintro e V3 ⟨rfl,hb4⟩
  have HB4:=hide (quJN HB3.out hb4)
  clear hb4 HWQ HRD
  have hst:((str s).toList == (str s).toList)=true:=by simp
  go_wp2_with fail
  refine (HBG.out _ HB4.out).mono ?_
  rintro e V5 ⟨rfl,hb5⟩
  have HBF:=hide (quJN HB4.out hb5)
  clear hb5
  go_wp2
  go_ret
  exact ⟨rfl,HBF.out⟩
def cutZ (rx ry rw rh:Int):Bool:=rx == 0 && (ry == 0 && (rw == 0 && rh == 0))
def dvCE (W H:Int) (L:List Px) (rx ry rw rh:Int):Int:=if cutZ rx ry rw rh=true then 0 else cutE W H L rx ry rw rh
def dvCW (W:Int) (rx ry rw rh x:Int):Int:=if cutZ rx ry rw rh=true then W else x
def dvCL (W:Int) (L:List Px) (rx ry rw rh:Int):List Px:=if cutZ rx ry rw rh=true then L else cutL W.toNat L rx.toNat ry.toNat rw.toNat rh.toNat
def dvE2 (W H:Int) (L:List Px) (rx ry rw rh how:Int):Int :=
 if dvCE W H L rx ry rw rh=0 then (if turnE (dvCW W rx ry rw rh rw) (dvCW H rx ry rw rh rh) (dvCL W L rx ry rw rh) how=0 then wrE (qPp5 (mvOf how) (dvCW W rx ry rw rh rw) (dvCW H rx ry rw rh rh)) (qPp5 (mvOf how) (dvCW H rx ry rw rh rh) (dvCW W rx ry rw rh rw)) (turnL (dvCW W rx ry rw rh rw).toNat (dvCW H rx ry rw rh rh).toNat (dvCL W L rx ry rw rh) (mvOf how)) else turnE (dvCW W rx ry rw rh rw) (dvCW H rx ry rw rh rh) (dvCL W L rx ry rw rh) how) else dvCE W H L rx ry rw rh
def dvS2 (W H:Int) (L:List Px) (rx ry rw rh how:Int) (deep:Bool):List UInt8 :=
 if dvE2 W H L rx ry rw rh how=0 then shotB (qPp5 (mvOf how) (dvCW W rx ry rw rh rw) (dvCW H rx ry rw rh rh)) (qPp5 (mvOf how) (dvCW H rx ry rw rh rh) (dvCW W rx ry rw rh rw)) (turnL (dvCW W rx ry rw rh rw).toNat (dvCW H rx ry rw rh rh).toNat (dvCL W L rx ry rw rh) (mvOf how)) deep else []
theorem XHJr (s:List UInt8) (hs:s.length≤140737488355328) (r:RawF) (hrd:rawRd s=some r) (hpe:XDWf r=0) (rows rx ry rw rh how W H:Int) (zs:List Int) (deep:Bool) (L:List Px) (E1:Int) (hW:XH9X r=W) (hH:zq73 r=H) (hZ:zcNm r=zs)
  (hS:XSDS r.plan W H zs rows=E1) (hL:X1qP r.plan W H zs rows=L) (DS:List UInt8) (DE:Int) (hDS:(if E1=0 then dvS2 W H L rx ry rw rh how deep else [])=DS) (hDE:(if E1=0 then dvE2 W H L rx ry rw rh how else E1)=DE) (w:World) (hm:zR7W w) (hp:PowAt w) :
  Calls Tryz.prog 15 #[.string (str s),.agg #[.int .i64 rows,.int .i64 rx,.int .i64 ry,.int .i64 rw,.int .i64 rh,.int .i64 how,.bool deep]] w fun e w'=>e=.returned (.tuple #[.string (str DS),.int .i64 DE])∧Below w.heap.size w w':=by
 have HRD:=hide (fun (u:World)=>jR6l s u hs)
 rw[hrd] at HRD
 have HPL:=hide (fun (lv tv sv cv:Value) (u:World) (hu:IsRaw u r lv tv sv cv)=>XAFS r lv tv sv cv u hu)
 rw[hW,hH,hZ,hpe] at HPL
 have HST:=hide (fun (sv cv v:Value) (u:World) (h1:X1uD u r.plan sv cv) (h2:jCvT u v zs) (h3:roomy v)=>Xmrs r.plan sv cv W H v zs rows u h1 h2 h3)
 rw[hS,hL] at HST
 have HCU:=hide (fun (v:Value) (u:World) (hv:IsPix u v L)=>ju0B W H v L rx ry rw rh u hv)
 obtain ⟨CW,hCW⟩:∃CW,dvCW W rx ry rw rh rw=CW:=⟨_,rfl⟩
 obtain ⟨CH,hCH⟩:∃CH,dvCW H rx ry rw rh rh=CH:=⟨_,rfl⟩
 obtain ⟨CL,hCL⟩:∃CL,dvCL W L rx ry rw rh=CL:=⟨_,rfl⟩
 obtain ⟨CE,hCE⟩:∃CE,dvCE W H L rx ry rw rh=CE:=⟨_,rfl⟩
 have HTU:=hide (fun (v:Value) (u:World) (hu:Below w.heap.size w u) (hv:IsPix u v CL)=>Xycd CW CH v CL how u (hm.below hu (Nat.le_refl _)) hv)
 have HD2:=hide (show dvE2 W H L rx ry rw rh how=if CE=0 then (if turnE CW CH CL how=0 then wrE (qPp5 (mvOf how) CW CH) (qPp5 (mvOf how) CH CW) (turnL CW.toNat CH.toNat CL (mvOf how)) else turnE CW CH CL how) else CE by rw[←hCW,←hCH,←hCL,←hCE];rfl)
 have HS2:=hide (show dvS2 W H L rx ry rw rh how deep=if dvE2 W H L rx ry rw rh how=0 then shotB (qPp5 (mvOf how) CW CH) (qPp5 (mvOf how) CH CW) (turnL CW.toNat CH.toNat CL (mvOf how)) deep else [] by rw[←hCW,←hCH,←hCL];rfl)
 generalize qPp5 (mvOf how) CW CH=TW at *
 generalize qPp5 (mvOf how) CH CW=TH at *
 generalize turnL CW.toNat CH.toNat CL (mvOf how)=TL at *
 generalize turnE CW CH CL how=TE at *
 have HWR:=hide (fun (v:Value) (u:World) (hu:Below w.heap.size w u) (hv:IsPix u v TL)=>zPEb TW TH v TL deep u (hp.below hu (Nat.le_refl _)) hv)
 have HDS:=hide hDS
 have HDE:=hide hDE
 clear hDS hDE
 have HCW:=hide hCW
 have HCH:=hide hCH
 have HCL:=hide hCL
 have HCE:=hide hCE
 clear hrd hpe hW hH hZ hS hL hCW hCH hCL hCE hm hp
 have a1:=al1 w (Obj.cells #[.int .i64 rows,.int .i64 rx,.int .i64 ry,.int .i64 rw,.int .i64 rh,.int .i64 how,.bool deep] 40)
 have HB:=hide (qUNz w (Obj.cells #[.int .i64 rows,.int .i64 rx,.int .i64 ry,.int .i64 rw,.int .i64 rh,.int .i64 how,.bool deep] 40))
 have hl1:=(Array.getElem?_eq_some_iff.1 a1).1
 have HCC:=hide (fun (v:World) (h:v.heap[w.heap.size]?=some (.cells #[.int .i64 rows,.int .i64 rx,.int .i64 ry,.int .i64 rw,.int .i64 rh,.int .i64 how,.bool deep] 40 (0,0)))=>(show v.cell? ⟨w.heap.size,0,none⟩=some (.int .i64 rows)∧v.cell? ⟨w.heap.size,1,none⟩=some (.int .i64 rx)∧v.cell? ⟨w.heap.size,2,none⟩=some (.int .i64 ry)∧v.cell? ⟨w.heap.size,3,none⟩=some (.int .i64 rw)∧v.cell? ⟨w.heap.size,4,none⟩=some (.int .i64 rh)∧v.cell? ⟨w.heap.size,5,none⟩=some (.int .i64 how)∧v.cell? ⟨w.heap.size,6,none⟩=some (.bool deep) from ⟨by rw[Lib.cell_of_heap h];rfl,by rw[Lib.cell_of_heap h];rfl,by rw[Lib.cell_of_heap h];rfl,by rw[Lib.cell_of_heap h];rfl,by rw[Lib.cell_of_heap h];rfl,by rw[Lib.cell_of_heap h];rfl,by rw[Lib.cell_of_heap h];rfl⟩))
 go_enter Tryz.func15,Tryz.ntmps15
 go_wp2_with fail
 generalize w.alloc (Obj.cells #[.int .i64 rows,.int .i64 rx,.int .i64 ry,.int .i64 rw,.int .i64 rh,.int .i64 how,.bool deep] 40)=U at *
 refine (HRD.out U).mono ?_
 clear HRD
 rintro e V1 ⟨hb1,hc⟩
 rcases hc with ⟨r',lv,tv,sv,cv,hrd,rfl,hI,hx1,hx2,hx3,hx4⟩|⟨hrd,_⟩
 rotate_left
 ·cases hrd
 cases hrd
 clear hx1 hx2 hx3 hx4
 have HPC:=hide (show ∀j u,(planA r.plan sv cv).toList[j]?=some u→(rawA r lv tv sv cv).toList[7+j]?=some u from fun j u h=>by rw[Nat.add_comm];exact h)
 obtain ⟨RX,hRX⟩:∃RX,rawA r lv tv sv cv=RX:=⟨_,rfl⟩
 have iRX:(Tryz.prog.info? 57).map (·.size)=some RX.size:=by rw[←hRX];kernel_rfl
 have jRX:(rawZ:Array Value).size=RX.size:=by rw[←hRX];rfl
 have oRX:RX.all (·.oneCell')=true:=by rw[←hRX];exact XIRQ hI
 have zRX:=al1 V1 (Obj.cells rawZ 57)
 have cRX:=setRow_heap _ _ _ RX _ _ zRX
 have XRX:=hide (below_setRow (g:=V1.heap.size) (qUNz V1 (Obj.cells rawZ 57)) (Nat.le_refl _) RX)
 have HRX:=hide hRX
 have hb2:=quJN hb1 XRX.out
 have HIX:=hide (hI.below XRX.out (Nat.le_refl _))
 have HPQ:=hide (HPL.out lv tv sv cv)
 rw[hRX] at HPQ HPC ⊢
 clear hRX hI hb1 XRX HPL
 go_upto_region 4 with (refine wpList_store_row rfl 57 _ _ rfl V1.heap.size RX rfl rfl _ _ zRX iRX jRX oRX ?_)
 clear zRX
 generalize (V1.alloc (Obj.cells rawZ 57)).setRow V1.heap.size RX=U1 at *
 generalize V1.heap.size=XB at *
 have lx:=(Array.getElem?_eq_some_iff.1 cRX).1
 go_wp2_with (refine wpList_load_row rfl 57 _ rfl _ rfl _ _ _ _ cRX Tryz.underlying57 rfl iRX ?_)
 refine (HPQ.out U1 HIX.out).mono ?_
 clear HPQ
 rintro e V2 ⟨pv,rfl,hpi,hb3,hfp⟩
 have HRM:=hide hfp.2
 have HPI:=hide hpi
 obtain ⟨po,pc,rfl,hx1,hx2⟩:=hpi
 clear hx1 hx2 hfp
 have p1:=al1 V2 (Obj.cells #[.int .i64 W,.int .i64 H,.slice po zs.length pc] 54)
 have hb4:=quJN hb3 (qUNz V2 (Obj.cells #[.int .i64 W,.int .i64 H,.slice po zs.length pc] 54))
 have HPI2:=hide (HPI.out.alloc (Obj.cells #[.int .i64 W,.int .i64 H,.slice po zs.length pc] 54))
 have HPN:=hide ((HIX.out.below hb4 (Nat.le_refl _)).plan)
 have hbb:=quJN hb2 hb4
 have g1:=(hbb.block _ hl1).trans a1
 obtain ⟨c0,c1,c2,c3,c4,c5,c6⟩:=HCC.out _ g1
 have d1:=(hb4.block _ lx).trans cRX
 have HTT:=hide (show ∀j u,(planA r.plan sv cv).toList[j]?=some u→(V2.alloc (Obj.cells #[.int .i64 W,.int .i64 H,.slice po zs.length pc] 54)).cell? ⟨XB,7+j,none⟩=some u from fun j u h=>by
  rw[Lib.cell_of_heap d1]
  have:=HPC.out j u h
  simpa using this)
 obtain ⟨p0',p1',p2'⟩:=z5EY p1
 clear hb3 HPI cRX d1 HPC
 go_wp2_with (refine XiYX rfl 51 _ rfl _ 7 rfl (planA r.plan sv cv) _ HTT.out Tryz.underlying51 rfl (by kernel_rfl) ?_)
 clear p0' p1' p2' c0 c1 c2 c3 c4 c5 c6 HTT
 generalize V2.alloc (Obj.cells #[.int .i64 W,.int .i64 H,.slice po zs.length pc] 54)=U2 at *
 refine (HST.out sv cv _ U2 HPN.out HPI2.out HRM.out).mono ?_
 clear HST
 rintro e V3 ⟨qv,rfl,hq,hb5,hfq⟩
 by_cases hE:E1=0
 rotate_left
 ·have hEb:(E1 != 0)=true:=by simpa using hE
  rw[show okW E1 W=0 from if_neg hE,show okW E1 H=0 from if_neg hE]
  obtain ⟨qo,qn,qc,rfl⟩:∃zo ZN zc,qv=.slice zo ZN zc:=by
   obtain ⟨a,c,h,_⟩:=hq
   exact ⟨a,_,c,h⟩
  have HBF:=hide (quJN (quJN HB.out (quJN hbb hb5)) (qUNz V3 (Obj.cells #[.int .i64 0,.int .i64 0,.slice qo qn qc] 24)))
  have HX1:=hide (show DS=[] by rw[←HDS.out,if_neg hE])
  have HX2:=hide (show DE=E1 by rw[←HDE.out,if_neg hE])
  clear hq hfq hb5 hE
  go_wp2
  go_ret2
  exact ⟨by rw[HX1.out,HX2.out];rfl,HBF.out⟩
 subst hE
 have HX1:=hide (show DS=dvS2 W H L rx ry rw rh how deep by rw[←HDS.out,if_pos rfl])
 have HX2:=hide (show DE=dvE2 W H L rx ry rw rh how by rw[←HDE.out,if_pos rfl])
 rw[show okW 0 W=W from rfl,show okW 0 H=H from rfl]
 rw[show okL 0 L=L from rfl] at hq
 have HQ:=hide hq
 obtain ⟨qo,qc,rfl,hx1,hx2⟩:=hq
 clear hx1 hx2
 obtain ⟨N1,hN1⟩:∃N,L.length=N:=⟨_,rfl⟩
 rw[hN1] at HQ hfq ⊢
 clear hN1
 have t1:=al1 V3 (Obj.cells #[.int .i64 W,.int .i64 H,.slice qo N1 qc] 24)
 have hb6:=quJN hb5 (qUNz V3 (Obj.cells #[.int .i64 W,.int .i64 H,.slice qo N1 qc] 24))
 have HQ2:=hide (HQ.out.alloc (Obj.cells #[.int .i64 W,.int .i64 H,.slice qo N1 qc] 24))
 replace hbb:=quJN hbb hb6
 replace g1:=(hbb.block _ hl1).trans a1
 obtain ⟨c0,c1,c2,c3,c4,c5,c6⟩:=HCC.out _ g1
 obtain ⟨q0,q1,q2⟩:=z5EY t1
 have l3:=(Array.getElem?_eq_some_iff.1 t1).1
 have HBX:=hide (quJN HB.out hbb)
 have HV3:=hide (show w.heap.size<V3.heap.size from Nat.lt_of_lt_of_le hl1 (Nat.le_trans (quJN hb2 hb4).size hb5.size))
 clear hb5 HQ
 go_upto_region 10 with fail
 generalize V3.alloc (Obj.cells #[.int .i64 W,.int .i64 H,.slice qo N1 qc] 24)=U3 at *
 go_cut [41] from 38 (fun x v=>x=.bool (!cutZ rx ry rw rh)∧v=U3)
 case first =>
  by_cases h1:rx=0
  rotate_left
  ·have hb1:(rx == 0)=false:=by simpa using h1
   go_wp2
   go_meet
   case rel=>exact ⟨by simp[cutZ,h1],rfl⟩
  by_cases h2:ry=0
  rotate_left
  ·have hb2:(ry == 0)=false:=by simpa using h2
   have hb1:(rx == 0)=true:=by simpa using h1
   go_wp2
   go_meet
   case rel=>exact ⟨by simp[cutZ,h1,h2],rfl⟩
  by_cases h3:rw=0
  rotate_left
  ·have hb3:(rw == 0)=false:=by simpa using h3
   have hb2:(ry == 0)=true:=by simpa using h2
   have hb1:(rx == 0)=true:=by simpa using h1
   go_wp2
   go_meet
   case rel=>exact ⟨by simp[cutZ,h1,h2,h3],rfl⟩
  have hb3:(rw == 0)=true:=by simpa using h3
  have hb2:(ry == 0)=true:=by simpa using h2
  have hb1:(rx == 0)=true:=by simpa using h1
  by_cases h4:rh=0
  rotate_left
  ·have hb4:(rh == 0)=false:=by simpa using h4
   go_wp2
   go_meet
   case rel=>exact ⟨by simp[cutZ,h1,h2,h3,h4],rfl⟩
  have hb4:(rh == 0)=true:=by simpa using h4
  go_wp2
  go_meet
  case rel=>exact ⟨by simp[cutZ,h1,h2,h3,h4],rfl⟩
 case rest =>
  obtain ⟨rfl,rfl⟩:=hcut
  go_upto_if 41 with fail
  go_cut [7] from 38 (fun x v=>CE=0∧x=.int .i64 0∧∃(co:Option Addr) (cn cc:Nat),v.heap[V3.heap.size]?=some (.cells #[.int .i64 CW,.int .i64 CH,.slice co cn cc] 24 (0,0))∧v.heap[w.heap.size]?=some (.cells #[.int .i64 rows,.int .i64 rx,.int .i64 ry,.int .i64 rw,.int .i64 rh,.int .i64 how,.bool deep] 40 (0,0))∧IsPix v (.slice co cn cc) CL∧Below w.heap.size w v)
  case first =>
   cases hz:cutZ rx ry rw rh
   rotate_left
   ·have hx1:CE=0:=by rw[←HCE.out,dvCE,if_pos hz]
    have hx2:W=CW:=by rw[←HCW.out,dvCW,if_pos hz]
    have hx3:H=CH:=by rw[←HCH.out,dvCW,if_pos hz]
    have hx4:L=CL:=by rw[←HCL.out,dvCL,if_pos hz]
    have HFN:=hide (show CE=0∧∃(co:Option Addr) (cn cc:Nat),wc.heap[V3.heap.size]?=some (.cells #[.int .i64 CW,.int .i64 CH,.slice co cn cc] 24 (0,0))∧wc.heap[w.heap.size]?=some (.cells #[.int .i64 rows,.int .i64 rx,.int .i64 ry,.int .i64 rw,.int .i64 rh,.int .i64 how,.bool deep] 40 (0,0))∧IsPix wc (.slice co cn cc) CL∧Below w.heap.size w wc from ⟨hx1,qo,N1,qc,by rw[←hx2,←hx3];exact t1,g1,by rw[←hx4];exact HQ2.out,HBX.out⟩)
    clear hx1 hx2 hx3 hx4
    go_wp2
    go_meet
    case rel=>exact ⟨HFN.out.1,rfl,HFN.out.2⟩
   have hx1:cutE W H L rx ry rw rh=CE:=by rw[←HCE.out,dvCE,if_neg (by rw[hz];decide)]
   have hx2:rw=CW:=by rw[←HCW.out,dvCW,if_neg (by rw[hz];decide)]
   have hx3:rh=CH:=by rw[←HCH.out,dvCW,if_neg (by rw[hz];decide)]
   have hx4:cutL W.toNat L rx.toNat ry.toNat rw.toNat rh.toNat=CL:=by rw[←HCL.out,dvCL,if_neg (by rw[hz];decide)]
   have HCQ:=hide (HCU.out _ wc HQ2.out)
   rw[hx1,hx4] at HCQ
   have HX23:=hide (And.intro hx2 hx3)
   clear hx1 hx2 hx3 hx4
   go_wp2_with fail
   refine (HCQ.out).mono ?_
   clear HCQ HCU
   rintro e V4 ⟨cq,rfl,hcq,hb7,hfc⟩
   have HQ4:=hide hcq
   obtain ⟨uo,uc,rfl,hx1,hx2⟩:=hcq
   clear hx1 hx2
   obtain ⟨N2,hN2⟩:∃N,(okL CE CL).length=N:=⟨_,rfl⟩
   rw[hN2] at HQ4 hfc ⊢
   clear hN2
   have k1:=(hb7.block _ l3).trans t1
   obtain ⟨z0,z1,z2⟩:=z5EY k1
   have f0:=Lib.frozen_of_heap k1 0
   have f1:=Lib.frozen_of_heap k1 1
   have f2:=Lib.frozen_of_heap k1 2
   obtain ⟨KW,hKW⟩:∃KW,okW CE rw=KW:=⟨_,rfl⟩
   obtain ⟨KH,hKH⟩:∃KH,okW CE rh=KH:=⟨_,rfl⟩
   rw[hKW,hKH]
   have HKW:=hide hKW
   have HKH:=hide hKH
   clear hKW hKH
   have HTS:=hide (HQ4.out.set3 hfc l3 (.int .i64 KW) (.int .i64 KH) (.slice uo N2 uc))
   obtain ⟨y1,y2,y3,y4⟩:=X0Wz k1 (.int .i64 KW) (.int .i64 KH) (.slice uo N2 uc) w (Nat.le_of_lt HV3.out) (quJN HBX.out hb7)
   have lg1:=(Array.getElem?_eq_some_iff.1 g1).1
   have hne:w.heap.size≠V3.heap.size:=by have:=HV3.out;omega
   have g2:=(y2 w.heap.size hne).trans ((hb7.block _ lg1).trans g1)
   go_upto_region 12 with fail
   clear z0 z1 z2 f0 f1 f2 y2 y3
   generalize ((V4.setCell ⟨V3.heap.size,0,none⟩ (.int .i64 KW)).setCell ⟨V3.heap.size,1,none⟩ (.int .i64 KH)).setCell ⟨V3.heap.size,2,none⟩ (.slice uo N2 uc)=X9 at *
   by_cases hce:CE=0
   rotate_left
   ·have hcb:(CE != 0)=true:=by simpa using hce
    have HE2:=hide (show dvE2 W H L rx ry rw rh how=CE by rw[HD2.out,if_neg hce])
    have HXS:=hide (show DS=[] by rw[HX1.out,HS2.out,if_neg (by rw[HE2.out];exact hce)])
    have HXE:=hide (show DE=CE by rw[HX2.out,HE2.out])
    have HBF:=hide y4
    clear hce y4
    go_wp2
    go_ret2
    exact ⟨by rw[HXS.out,HXE.out];rfl,HBF.out⟩
   have hcb:(CE != 0)=false:=by simpa using hce
   have HFN:=hide (show CE=0∧∃(co:Option Addr) (cn cc:Nat),X9.heap[V3.heap.size]?=some (.cells #[.int .i64 CW,.int .i64 CH,.slice co cn cc] 24 (0,0))∧X9.heap[w.heap.size]?=some (.cells #[.int .i64 rows,.int .i64 rx,.int .i64 ry,.int .i64 rw,.int .i64 rh,.int .i64 how,.bool deep] 40 (0,0))∧IsPix X9 (.slice co cn cc) CL∧Below w.heap.size w X9 from ⟨hce,uo,N2,uc,by rw[←HX23.out.1,←HX23.out.2,show rw=KW from HKW.out ▸ (if_pos hce).symm,show rh=KH from HKH.out ▸ (if_pos hce).symm];exact y1,g2,(show okL CE CL=CL from if_pos hce) ▸ HTS.out,y4⟩)
   have HCE0:=hide hce
   clear hce y4 y1 g2
   go_wp2
   go_meet
   case rel=>exact ⟨HFN.out.1,by rw[HCE0.out],HFN.out.2⟩
  case rest =>
   obtain ⟨hce,rfl,co,cn,cc,t4,g4,hq4,hbl⟩:=hcut
   have HQ5:=hide hq4
   have HBL:=hide hbl
   have HCE0:=hide hce
   obtain ⟨c0,c1,c2,c3,c4,c5,c6⟩:=HCC.out _ g4
   obtain ⟨q0,q1,q2⟩:=z5EY t4
   have l4:=(Array.getElem?_eq_some_iff.1 t4).1
   clear hq4 hbl hce HQ2 HBX t1 g1 l3 hbb HCU
   go_wp2_with fail
   clear c0 c1 c2 c3 c4 c5 c6 q0 q1 q2
   refine (HTU.out _ _ HBL.out HQ5.out).mono ?_
   clear HTU
   rintro e V5 ⟨tq,rfl,ht,hb8,hft⟩
   have HT:=hide ht
   obtain ⟨uo,uc,rfl,hx1,hx2⟩:=ht
   clear hx1 hx2
   obtain ⟨N2,hN2⟩:∃N,(okL TE TL).length=N:=⟨_,rfl⟩
   rw[hN2] at HT hft ⊢
   clear hN2
   have k1:=(hb8.block _ l4).trans t4
   obtain ⟨z0,z1,z2⟩:=z5EY k1
   have f0:=Lib.frozen_of_heap k1 0
   have f1:=Lib.frozen_of_heap k1 1
   have f2:=Lib.frozen_of_heap k1 2
   obtain ⟨KW,hKW⟩:∃KW,okW TE TW=KW:=⟨_,rfl⟩
   obtain ⟨KH,hKH⟩:∃KH,okW TE TH=KH:=⟨_,rfl⟩
   rw[hKW,hKH]
   have HKW:=hide hKW
   have HKH:=hide hKH
   clear hKW hKH
   have HTS:=hide (HT.out.set3 hft l4 (.int .i64 KW) (.int .i64 KH) (.slice uo N2 uc))
   obtain ⟨y1,y2,y3,y4⟩:=X0Wz k1 (.int .i64 KW) (.int .i64 KH) (.slice uo N2 uc) w (Nat.le_of_lt HV3.out) (quJN HBL.out hb8)
   have lg1:=(Array.getElem?_eq_some_iff.1 g4).1
   have hne:w.heap.size≠V3.heap.size:=by have:=HV3.out;omega
   have g2:=(y2 w.heap.size hne).trans ((hb8.block _ lg1).trans g4)
   go_upto_region 15 with fail
   clear z0 z1 z2 f0 f1 f2 y2 y3
   generalize ((V5.setCell ⟨V3.heap.size,0,none⟩ (.int .i64 KW)).setCell ⟨V3.heap.size,1,none⟩ (.int .i64 KH)).setCell ⟨V3.heap.size,2,none⟩ (.slice uo N2 uc)=X9 at *
   by_cases hte:TE=0
   rotate_left
   ·have hcb:(TE != 0)=true:=by simpa using hte
    have HE2:=hide (show dvE2 W H L rx ry rw rh how=TE by rw[HD2.out,if_pos HCE0.out,if_neg hte])
    have HXS:=hide (show DS=[] by rw[HX1.out,HS2.out,if_neg (by rw[HE2.out];exact hte)])
    have HXE:=hide (show DE=TE by rw[HX2.out,HE2.out])
    have HBF:=hide y4
    clear hte y4
    go_wp2
    go_ret2
    exact ⟨by rw[HXS.out,HXE.out];rfl,HBF.out⟩
   have hcb:(TE != 0)=false:=by simpa using hte
   have HE2:=hide (show DE=wrE TW TH TL by rw[HX2.out,HD2.out,if_pos HCE0.out,if_pos hte])
   have HXS:=hide (show DS=wrS TW TH TL deep by
    rw[HX1.out,HS2.out,HD2.out,if_pos HCE0.out,if_pos hte,wrS,wrE]
    by_cases hk:picOk TW TH TL=true
    ·rw[if_pos hk,if_pos rfl,if_pos hk]
    ·rw[if_neg hk,if_neg (by decide),if_neg hk])
   obtain rfl:TW=KW:=by rw[←HKW.out,okW,if_pos hte]
   obtain rfl:TH=KH:=by rw[←HKH.out,okW,if_pos hte]
   rw[show okL TE TL=TL from if_pos hte] at HTS
   have HWQ:=hide (HWR.out _ X9 y4 HTS.out)
   rw[←HE2.out,←HXS.out] at HWQ
   obtain ⟨c0,c1,c2,c3,c4,c5,c6⟩:=HCC.out _ g2
   obtain ⟨q0,q1,q2⟩:=z5EY y1
   clear hte
   go_wp2_with fail
   refine (HWQ.out).mono ?_
   rintro e V6 ⟨rfl,hb9⟩
   have HBF:=hide (quJN y4 hb9)
   clear c0 c1 c2 c3 c4 c5 c6 q0 q1 q2 y4 hb9
   go_wp2
   go_ret2
   exact ⟨rfl,HBF.out⟩
theorem qNUk (s:List UInt8) (hs:s.length≤140737488355328) (hrd:rawRd s=none) (rows rx ry rw rh how:Int) (deep:Bool) (w:World) :
  Calls Tryz.prog 15 #[.string (str s),.agg #[.int .i64 rows,.int .i64 rx,.int .i64 ry,.int .i64 rw,.int .i64 rh,.int .i64 how,.bool deep]] w fun e w'=>e=.returned (.tuple #[.string (str []),.int .i64 1])∧Below w.heap.size w w':=by
 have HRD:=hide (fun (u:World)=>jR6l s u hs)
 rw[hrd] at HRD
 have HB:=hide (qUNz w (Obj.cells #[.int .i64 rows,.int .i64 rx,.int .i64 ry,.int .i64 rw,.int .i64 rh,.int .i64 how,.bool deep] 40))
 have iz:(Tryz.prog.info? 57).map (·.size)=some (rawZ:Array Value).size:=by kernel_rfl
 go_enter Tryz.func15,Tryz.ntmps15
 go_wp2_with fail
 generalize w.alloc (Obj.cells #[.int .i64 rows,.int .i64 rx,.int .i64 ry,.int .i64 rw,.int .i64 rh,.int .i64 how,.bool deep] 40)=U at *
 refine (HRD.out U).mono ?_
 clear HRD
 rintro e V1 ⟨hb1,hc⟩
 rcases hc with ⟨r',lv,tv,sv,cv,hx,_⟩|⟨_,rfl⟩
 ·cases hx
 obtain ⟨ZR,hZR⟩:∃ZR:Array Value,rawZ=ZR:=⟨_,rfl⟩
 rw[show Ending.returned (.tuple #[.agg rawZ,.int .i64 1])=Ending.returned (.tuple #[.agg ZR,.int .i64 1]) by rw[hZR]]
 have i1:(Tryz.prog.info? 57).map (·.size)=some ZR.size:=by rw[←hZR];exact iz
 have i2:(rawZ:Array Value).size=ZR.size:=by rw[←hZR]
 have hos:ZR.all (·.oneCell')=true:=by rw[←hZR];simp[Value.oneCell']
 have z1:=al1 V1 (Obj.cells rawZ 57)
 have HBF:=hide (quJN (quJN HB.out hb1) (below_setRow (g:=V1.heap.size) (qUNz V1 (Obj.cells rawZ 57)) (Nat.le_refl _) ZR))
 clear hZR hb1 iz
 go_upto_region 2 with (refine wpList_store_row rfl 57 _ _ rfl V1.heap.size ZR rfl rfl _ _ z1 i1 i2 hos ?_)
 clear z1
 generalize (V1.alloc (Obj.cells rawZ 57)).setRow V1.heap.size ZR=U3 at *
 go_wp2
 go_ret2
 exact ⟨rfl,HBF.out⟩
def dvR (r:RawF) (rows rx ry rw rh how:Int) (deep:Bool):List UInt8×Int :=
  (if XSDS r.plan (XH9X r) (zq73 r) (zcNm r) rows=0 then dvS2 (XH9X r) (zq73 r) (X1qP r.plan (XH9X r) (zq73 r) (zcNm r) rows) rx ry rw rh how deep else [],
   if XSDS r.plan (XH9X r) (zq73 r) (zcNm r) rows=0 then dvE2 (XH9X r) (zq73 r) (X1qP r.plan (XH9X r) (zq73 r) (zcNm r) rows) rx ry rw rh how else XSDS r.plan (XH9X r) (zq73 r) (zcNm r) rows)
def dvD (s:List UInt8) (rows rx ry rw rh how:Int) (deep:Bool):List UInt8×Int:=match rawRd s with
 | none=>([],1)
 | some r=>dvR r rows rx ry rw rh how deep
theorem X4pF (s:List UInt8) (hs:s.length≤140737488355328) (rows rx ry rw rh how:Int) (deep:Bool) (w:World) (hm:zR7W w) (hp:PowAt w) :
  Calls Tryz.prog 15 #[.string (str s),.agg #[.int .i64 rows,.int .i64 rx,.int .i64 ry,.int .i64 rw,.int .i64 rh,.int .i64 how,.bool deep]] w fun e w'=>e=.returned (.tuple #[.string (str (dvD s rows rx ry rw rh how deep).1),.int .i64 (dvD s rows rx ry rw rh how deep).2])∧Below w.heap.size w w':=by
 cases h:rawRd s with
 | none =>
  have e:dvD s rows rx ry rw rh how deep=([],1):=by unfold dvD;rw[h]
  rw[e]
  exact qNUk s hs h rows rx ry rw rh how deep w
 | some r =>
  have e:dvD s rows rx ry rw rh how deep=dvR r rows rx ry rw rh how deep:=by unfold dvD;rw[h]
  rw[e]
  exact XHJr s hs r h (quG9 h).1.zero rows rx ry rw rh how _ _ _ deep _ _ rfl rfl rfl rfl rfl _ _ rfl rfl w hm hp
theorem jN57 {n:Plan} {W H:Int} {zs:List Int} {rows:Int} (h:XSDS n W H zs rows=0):fitsE n W H zs H=0∧1≤rows:=by
 unfold XSDS at h
 by_cases h1:fitsE n W H zs H=0
 ·rw[if_pos h1] at h
  by_cases h2:1≤rows
  ·exact ⟨h1,h2⟩
  ·rw[if_neg h2] at h;cases h
 ·rw[if_neg h1] at h;exact absurd h h1
theorem jVVI {W H:Int} {L:List Px} {rx ry rw rh how:Int} {deep:Bool} (h:dvE2 W H L rx ry rw rh how=0):∃(TW TH:Int) (TL:List Px),picOk TW TH TL=true∧dvS2 W H L rx ry rw rh how deep=shotB TW TH TL deep:=by
 refine ⟨_,_,_,?_,if_pos h⟩
 unfold dvE2 at h
 by_cases h1:dvCE W H L rx ry rw rh=0
 ·rw[if_pos h1] at h
  by_cases h2:turnE (dvCW W rx ry rw rh rw) (dvCW H rx ry rw rh rh) (dvCL W L rx ry rw rh) how=0
  ·rw[if_pos h2,wrE] at h
   by_cases h3:picOk (qPp5 (mvOf how) (dvCW W rx ry rw rh rw) (dvCW H rx ry rw rh rh)) (qPp5 (mvOf how) (dvCW H rx ry rw rh rh) (dvCW W rx ry rw rh rw)) (turnL (dvCW W rx ry rw rh rw).toNat (dvCW H rx ry rw rh rh).toNat (dvCL W L rx ry rw rh) (mvOf how))=true
   ·exact h3
   ·rw[if_neg h3] at h;cases h
  ·rw[if_neg h2] at h;exact absurd h h2
 ·rw[if_neg h1] at h;exact absurd h h1
theorem alikeA {s:List UInt8} {ra rb rx ry rw rh how:Int} {deep:Bool} (ha:(dvD s ra rx ry rw rh how deep).2=0) (hb:(dvD s rb rx ry rw rh how deep).2=0) :
  (dvD s ra rx ry rw rh how deep).1=(dvD s rb rx ry rw rh how deep).1∧∃(TW TH:Int) (TL:List Px),picOk TW TH TL=true∧(dvD s ra rx ry rw rh how deep).1=shotB TW TH TL deep:=by
 unfold dvD at *
 cases h:rawRd s with
 | none=>rw[h] at ha;cases ha
 | some r =>
  rw[h] at ha hb
  simp only[dvR] at ha hb ⊢
  have ea:XSDS r.plan (XH9X r) (zq73 r) (zcNm r) ra=0:=by
   by_cases e:XSDS r.plan (XH9X r) (zq73 r) (zcNm r) ra=0
   ·exact e
   ·rw[if_neg e] at ha;exact ha
  have eb:XSDS r.plan (XH9X r) (zq73 r) (zcNm r) rb=0:=by
   by_cases e:XSDS r.plan (XH9X r) (zq73 r) (zcNm r) rb=0
   ·exact e
   ·rw[if_neg e] at hb;exact hb
  rw[if_pos ea] at ha ⊢
  rw[if_pos eb]
  obtain ⟨f1,f2⟩:=jN57 ea
  obtain ⟨_,f3⟩:=jN57 eb
  rw[zVy2 f1 f2] at ha ⊢
  rw[zVy2 f1 f3]
  exact ⟨rfl,jVVI ha⟩
theorem alikeB (s:List UInt8) (ra rb rx ry rw rh how:Int) (deep:Bool):(dvD s ra rx ry rw rh how deep).2=(dvD s rb rx ry rw rh how deep).2∨ra<1∨rb<1:=by
 by_cases h1:ra<1
 ·exact .inr (.inl h1)
 by_cases h2:rb<1
 ·exact .inr (.inr h2)
 left
 unfold dvD
 cases h:rawRd s with
 | none=>rfl
 | some r =>
  simp only[dvR]
  have e:∀x:Int,¬x<1→XSDS r.plan (XH9X r) (zq73 r) (zcNm r) x=fitsE r.plan (XH9X r) (zq73 r) (zcNm r) (zq73 r):=fun x hx=>by
   unfold XSDS
   by_cases hf:fitsE r.plan (XH9X r) (zq73 r) (zcNm r) (zq73 r)=0
   ·rw[if_pos hf,if_pos (by omega),hf]
   ·rw[if_neg hf]
  rw[e ra h1,e rb h2]
  by_cases hf:fitsE r.plan (XH9X r) (zq73 r) (zcNm r) (zq73 r)=0
  ·rw[if_pos hf,if_pos hf,zVy2 hf (by omega),zVy2 hf (by omega)]
  ·rw[if_neg hf,if_neg hf]
theorem jQxJ (a0:ByteArray) (rows rx ry rw rh how:Int) (deep:Bool) (rb:Int) (hs:a0.size≤140737488355328) (w:World) (hm:zR7W w) (hp:PowAt w) :
  Calls Tryz.prog 6 #[.string a0,.agg #[.int .i64 rows,.int .i64 rx,.int .i64 ry,.int .i64 rw,.int .i64 rh,.int .i64 how,.bool deep],.int .i64 rb] w fun e w'=>e=.returned (.bool true)∧Below w.heap.size w w':=by
 obtain ⟨s,rfl⟩:∃s,a0=str s:=⟨a0.data.toList,rfl⟩
 rw[qzX5] at hs
 have HDA:=hide (fun (u:World) (hu:Below w.heap.size w u)=>X4pF s hs rows rx ry rw rh how deep u (hm.below hu (Nat.le_refl _)) (hp.below hu (Nat.le_refl _)))
 have HDB:=hide (fun (u:World) (hu:Below w.heap.size w u)=>X4pF s hs rb rx ry rw rh how deep u (hm.below hu (Nat.le_refl _)) (hp.below hu (Nat.le_refl _)))
 have HAA:=hide (fun ha hb=>alikeA (s:=s) (ra:=rows) (rb:=rb) (rx:=rx) (ry:=ry) (rw:=rw) (rh:=rh) (how:=how) (deep:=deep) ha hb)
 have HAB:=hide (alikeB s rows rb rx ry rw rh how deep)
 have HRD:=hide (fun (t:List UInt8) (ht:t.length≤140737488355328) (u:World) (hu:Below w.heap.size w u)=>XcLf t ht u (hp.below hu (Nat.le_refl _)))
 have HBG:=hide (fun (u:World) (hu:Below w.heap.size w u)=>XGSo u (hm.below hu (Nat.le_refl _)) (hp.below hu (Nat.le_refl _)))
 generalize dvD s rows rx ry rw rh how deep=DA at *
 generalize dvD s rb rx ry rw rh how deep=DB at *
 obtain ⟨DS,DE⟩:=DA
 obtain ⟨FS,FE⟩:=DB
 simp only at HDA HDB HAA HAB
 clear hm hp hs
 have a1:=al1 w (Obj.cells #[.int .i64 rows,.int .i64 rx,.int .i64 ry,.int .i64 rw,.int .i64 rh,.int .i64 how,.bool deep] 40)
 have HB:=hide (qUNz w (Obj.cells #[.int .i64 rows,.int .i64 rx,.int .i64 ry,.int .i64 rw,.int .i64 rh,.int .i64 how,.bool deep] 40))
 have hl1:=(Array.getElem?_eq_some_iff.1 a1).1
 have hi7:(Tryz.prog.info? 40).map (·.size)=some (#[.int .i64 rows,.int .i64 rx,.int .i64 ry,.int .i64 rw,.int .i64 rh,.int .i64 how,.bool deep]:Array Value).size:=by kernel_rfl
 have hi7b:(Tryz.prog.info? 40).map (·.size)=some (#[.int .i64 rb,.int .i64 rx,.int .i64 ry,.int .i64 rw,.int .i64 rh,.int .i64 how,.bool deep]:Array Value).size:=by kernel_rfl
 go_enter Tryz.func6,Tryz.ntmps6
 go_wp2_with (refine wpList_load_row rfl 40 _ rfl _ rfl _ _ _ _ a1 Tryz.underlying40 rfl hi7 ?_)
 generalize w.alloc (Obj.cells #[.int .i64 rows,.int .i64 rx,.int .i64 ry,.int .i64 rw,.int .i64 rh,.int .i64 how,.bool deep] 40)=U at *
 refine (HDA.out U HB.out).mono ?_
 clear HDA
 rintro e V1 ⟨rfl,hb1⟩
 have g1:=(hb1.block _ hl1).trans a1
 have c0:V1.cell? ⟨w.heap.size,0,none⟩=some (.int .i64 rows):=by rw[Lib.cell_of_heap g1];rfl
 have b1:=al1 V1 (Obj.cells #[.int .i64 rb,.int .i64 rx,.int .i64 ry,.int .i64 rw,.int .i64 rh,.int .i64 how,.bool deep] 40)
 have hb2:=quJN hb1 (qUNz V1 (Obj.cells #[.int .i64 rb,.int .i64 rx,.int .i64 ry,.int .i64 rw,.int .i64 rh,.int .i64 how,.bool deep] 40))
 have g2:=(hb2.block _ hl1).trans a1
 go_upto_region 4 with (refine wpList_load_row rfl 40 _ rfl _ rfl _ _ _ _ g1 Tryz.underlying40 rfl hi7 ?_)
 clear c0
 generalize V1.alloc (Obj.cells #[.int .i64 rb,.int .i64 rx,.int .i64 ry,.int .i64 rw,.int .i64 rh,.int .i64 how,.bool deep] 40)=U1 at *
 go_wp2_with (refine wpList_load_row rfl 40 _ rfl _ rfl _ _ _ _ b1 Tryz.underlying40 rfl hi7b ?_)
 refine (HDB.out U1 (quJN HB.out hb2)).mono ?_
 clear HDB
 rintro e V2 ⟨rfl,hb3⟩
 have lg2:=(Array.getElem?_eq_some_iff.1 g2).1
 have HBV:=hide (quJN (quJN HB.out hb2) hb3)
 have g3:=(hb3.block _ lg2).trans g2
 have lg3:=(Array.getElem?_eq_some_iff.1 g3).1
 clear hb1 hb2 hb3 b1 g1 g2 lg2 a1 HB
 by_cases hD:DE=0∧FE=0
 rotate_left
 ·have HOR:=hide HAB.out
  have HND:=hide hD
  clear hD HAA HAB
  by_cases hde:DE=0
  rotate_left
  ·have hdb:(DE != 0)=true:=by simpa using hde
   clear hde
   go_wp2_with fail
   refine (HBG.out V2 HBV.out).mono ?_
   rintro e V3 ⟨rfl,hb4⟩
   have c0:V3.cell? ⟨w.heap.size,0,none⟩=some (.int .i64 rows):=by rw[Lib.cell_of_heap ((hb4.block _ lg3).trans g3)];rfl
   have HBF:=hide (quJN HBV.out hb4)
   clear hb4
   by_cases hef:DE=FE
   ·have he:(DE == FE)=true:=by simpa using hef
    clear hef
    go_wp2
    go_ret
    exact ⟨rfl,HBF.out⟩
   have he:(DE == FE)=false:=by simpa using hef
   by_cases hr:rows<1
   ·have hrd:decide (rows<1)=true:=decide_eq_true hr
    clear hef
    go_wp2
    go_ret
    exact ⟨rfl,HBF.out⟩
   have hrd:decide (rows<1)=false:=decide_eq_false hr
   have hrb:decide (rb<1)=true:=decide_eq_true (by
    rcases HOR.out with h|h|h
    ·exact absurd h hef
    ·exact absurd h hr
    ·exact h)
   clear hef hr
   go_wp2
   go_ret
   exact ⟨rfl,HBF.out⟩
  subst hde
  have hfb:(FE != 0)=true:=by
   have:=HND.out
   simpa using this
  go_wp2_with fail
  refine (HBG.out V2 HBV.out).mono ?_
  rintro e V3 ⟨rfl,hb4⟩
  have c0:V3.cell? ⟨w.heap.size,0,none⟩=some (.int .i64 rows):=by rw[Lib.cell_of_heap ((hb4.block _ lg3).trans g3)];rfl
  have HBF:=hide (quJN HBV.out hb4)
  clear hb4
  by_cases hef:0=FE
  ·have he:(0 == FE)=true:=by simpa using hef
   clear hef
   go_wp2
   go_ret
   exact ⟨rfl,HBF.out⟩
  have he:(0 == FE)=false:=by simpa using hef
  by_cases hr:rows<1
  ·have hrd:decide (rows<1)=true:=decide_eq_true hr
   clear hef
   go_wp2
   go_ret
   exact ⟨rfl,HBF.out⟩
  have hrd:decide (rows<1)=false:=decide_eq_false hr
  have hrb:decide (rb<1)=true:=decide_eq_true (by
   rcases HOR.out with h|h|h
   ·exact absurd h hef
   ·exact absurd h hr
   ·exact h)
  clear hef hr
  go_wp2
  go_ret
  exact ⟨rfl,HBF.out⟩
 obtain ⟨rfl,rfl⟩:=hD
 obtain ⟨rfl,TW,TH,TL,hpk,rfl⟩:=HAA.out rfl rfl
 have HLN:=hide (XB1u deep hpk)
 have HNS:=hide (show ¬q74T (shotB TW TH TL deep) from fun q=>q _ _ _ _ (zbk9 deep hpk))
 have HDP:=hide (fun (a b:Nat) (d:Bool) (L:List UInt8) (q:Shot (shotB TW TH TL deep) a b d L)=>qjoj hpk q)
 clear hpk HAA HAB
 generalize shotB TW TH TL deep=SB at *
 go_wp2_with fail
 refine (HRD.out SB HLN.out V2 HBV.out).mono ?_
 rintro e V3 ⟨hb4,hc⟩
 rcases hc with hc|⟨hno,_⟩
 rotate_left
 ·exact absurd hno HNS.out
 obtain ⟨a,b,d,L,rv,hsh,rfl,hr,hfr⟩:=hc
 obtain rfl:=HDP.out _ _ _ _ hsh
 obtain ⟨ro,rn,rc,rfl⟩:∃zo ZN zc,rv=.slice zo ZN zc:=by
  obtain ⟨x,c,h,_⟩:=hr
  exact ⟨x,_,c,h⟩
 clear hsh hr hfr HDP HNS HLN HRD
 have HB4:=hide (quJN HBV.out (quJN hb4 (qUNz V3 (Obj.cells #[.int .i64 a,.int .i64 b,.slice ro rn rc] 24))))
 have g4:=((quJN hb4 (qUNz V3 (Obj.cells #[.int .i64 a,.int .i64 b,.slice ro rn rc] 24))).block _ lg3).trans g3
 have lg4:=(Array.getElem?_eq_some_iff.1 g4).1
 clear hb4 g3 lg3
 go_wp2_with fail
 generalize V3.alloc (Obj.cells #[.int .i64 (a:Int),.int .i64 (b:Int),.slice ro rn rc] 24)=U5 at *
 refine (HBG.out U5 HB4.out).mono ?_
 rintro e V6 ⟨rfl,hb6⟩
 have c6:V6.cell? ⟨w.heap.size,6,none⟩=some (.bool d):=by rw[Lib.cell_of_heap ((hb6.block _ lg4).trans g4)];rfl
 have HBF:=hide (quJN HB4.out hb6)
 have hst:((str SB).toList == (str SB).toList)=true:=by simp
 have hdd:(d == d)=true:=by simp
 clear hb6
 go_wp2
 go_ret
 exact ⟨rfl,HBF.out⟩
end Go.Proofs.YtfjeonehdlphiaaGreatDoor
