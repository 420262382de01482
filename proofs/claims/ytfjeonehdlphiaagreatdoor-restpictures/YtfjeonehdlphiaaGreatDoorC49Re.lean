/- Re: part 49 of what the proofs need. -/
import Derived.Test.YtfjeonehdlphiaaGreatDoorC2Re
import Derived.Test.YtfjeonehdlphiaaGreatDoorC6Re
import Derived.Test.YtfjeonehdlphiaaGreatDoorC12Re
import Derived.Test.YtfjeonehdlphiaaGreatDoorC15Re
import Derived.Test.YtfjeonehdlphiaaGreatDoorC20Re
import Derived.Test.YtfjeonehdlphiaaGreatDoorC25Re
import Derived.Test.YtfjeonehdlphiaaGreatDoorC32Re
import Derived.Test.YtfjeonehdlphiaaGreatDoorC33Re
import Derived.Test.YtfjeonehdlphiaaGreatDoorC39Re
import Derived.Test.YtfjeonehdlphiaaGreatDoorC40Re
import Derived.Test.YtfjeonehdlphiaaGreatDoorC42Re
open Go.Obj renaming cells → ka
open List renaming setIfInBounds_toArray → kb, set_cons_zero → kd, set_cons_succ → ke
open Array renaming getElem?_eq_some_iff → kc
open Go.Lib renaming frozen_of_heap → kf, cell_of_heap → kg
open Go.Act renaming put → kh
open Nat renaming le_refl → ki, lt_of_lt_of_le → kl, le_trans → km, zero_le → kn
open Int renaming eq_ofNat_of_zero_le → kj, toNat_natCast → ko
open Go.IntWalk renaming i64_in → kk
set_option linter.unusedVariables false
set_option maxHeartbeats 12800000
set_option maxRecDepth 100000
namespace Go.Proofs.YtfjeonehdlphiaaGreatDoor
open Go.RowKit
theorem XRL6 {ops:Array Oper} {rest:List Oper} {o:Oper} {a:Act} {Q:Exit→Act→World→Prop} (hgd:o.guard=none) (s x:Operand)
  (ho:o.op=.call { callee:=.builtin .append,args:=#[s,x],argTypes:=#[52,52] }) (V:World) (v:Value) (xs:List Int)
  (hs:a.eval s=.slice (some ⟨V.heap.size,0,none⟩) 0 0) (hx:a.eval x=v) (hv:jCvT V v xs) (nz:NilZ v) (hl:xs.length*8≤140737488355328)
  (h:∀v' w',jCvT w' v' xs→Below V.heap.size V w'→wpList Tryz.prog ops Q rest (a.put o.dst v') w'):wpList Tryz.prog ops Q (o::rest) a (V.alloc (.cells #[] 3)):=by
 obtain ⟨i0,hi,hz0,hz1,hz2⟩:=info_parts Tryz.infoInt
 have hown:=World.ownsRow_made (base:=V.heap.size) (e:=3) (size:=1) V #[] 0 (ki _) (kn _) (by simp)
 obtain ⟨ao,ca,rfl,hla,hc⟩:=hv
 cases ao with
 | none =>
  obtain ⟨h0,hc0⟩:=nz _ _ rfl
  have hnl:xs=[]:=List.eq_nil_of_length_eq_zero h0
  refine wpList_append_own_none hgd s x 52 ho V.heap.size 3 i0 1 Tryz.underlying52 hi _ 0 [] hs hown (by rw[hx,h0,hc0]) ?_
  subst hnl
  exact h _ _ ⟨some ⟨V.heap.size,0,none⟩,0,rfl,by simp,.inl rfl⟩ (qUNz V _)
 | some ad =>
  have HA:=jych (w:=V) (.cells #[] 3) hc
  refine wpList_append_own _ hgd s x 52 ho V.heap.size 3 i0 (.int .i64 0) 1 8 Tryz.underlying52 hi hz0 hz1 hz2 rfl (by decide) _ 0 [] hs hown ad xs.length ca (xs.map (Value.int .i64)) hx (by rw[List.length_map,Nat.mul_one]) HA (fun u hu=>by obtain ⟨z,_,rfl⟩:=List.mem_map.1 hu;rfl) (by unfold maxLen;omega) (by omega) (by simp) ?_
  intro v' w1 hown2 hgrow hnil
  have hown':w1.ownsRow V.heap.size 3 1 v' xs.length (xs.map (Value.int .i64)):=by simpa using hown2
  exact h v' w1 (jCvT.own hown' hla) (((Below.refl _ V).alloc (ki _) _).grown hgrow (by simp) (by intro k hk;simp[Value.ownBlock] at hk;omega))
theorem XFzh {ops:Array Oper} {rest:List Oper} {o:Oper} {a:Act} {Q:Exit→Act→World→Prop} (hgd:o.guard=none) (s x:Operand)
  (ho:o.op=.call { callee:=.builtin .append,args:=#[s,x],argTypes:=#[22,22] }) (V:World) (v:Value) (xs:List Px)
  (hs:a.eval s=.slice (some ⟨V.heap.size,0,none⟩) 0 0) (hx:a.eval x=v) (hv:IsPix V v xs) (nz:NilZ v) (hl:xs.length*24≤140737488355328)
  (h:∀v' w',IsPix w' v' xs→Below V.heap.size V w'→wpList Tryz.prog ops Q rest (a.put o.dst v') w'):wpList Tryz.prog ops Q (o::rest) a (V.alloc (.cells #[] 61)):=by
 obtain ⟨i0,hi,hz0,hz1,hz2⟩:=info_parts Tryz.infoPixel
 have hown:=World.ownsRow_made (base:=V.heap.size) (e:=61) (size:=3) V #[] 0 (ki _) (kn _) (by simp)
 obtain ⟨ao,ca,rfl,hla,hc⟩:=hv
 rcases hc with hnl|⟨b,off,rfl,hb,hc⟩
 ·subst hnl
  cases ao with
  | none =>
   obtain ⟨h0,hc0⟩:=nz _ _ rfl
   refine wpList_append_own_none hgd s x 22 ho V.heap.size 61 i0 3 Tryz.underlying22 hi _ 0 [] hs hown (by rw[hx,h0,hc0]) ?_
   exact h _ _ ⟨some ⟨V.heap.size,0,none⟩,0,rfl,by simp,.inl rfl⟩ (qUNz V _)
  | some ad =>
   refine wpList_append_own _ hgd s x 22 ho V.heap.size 61 i0 pixZ 3 24 Tryz.underlying22 hi hz0 hz1 hz2 rfl (by decide) _ 0 [] hs hown ad 0 ca [] hx rfl (fun j u hu=>by cases hu) (fun u hu=>by cases hu) (by unfold maxLen;omega) (by omega) (by simp) ?_
   intro v' w1 hown2 hgrow hnil
   have hown':w1.ownsRow V.heap.size 61 3 v' ([]:List Px).length (([]:List Px).flatMap pixL):=by simpa using hown2
   exact h v' w1 (IsPix.own hown' (by simp)) (((Below.refl _ V).alloc (ki _) _).grown hgrow (by simp) (by intro k hk;simp[Value.ownBlock] at hk;omega))
 ·have HA:=j7xa (w:=V.alloc (.cells #[] 61)) (b:=b) (off:=off) (ps:=xs) (fun j hj=>by
   obtain ⟨c0,c1,c2⟩:=hc j hj
   have e:pxAt xs j=xs[j]:=(jD3W xs j hj).symm
   rw[e]
   exact ⟨Lib.cell?_alloc_some _ c0,Lib.cell?_alloc_some _ c1,Lib.cell?_alloc_some _ c2⟩)
  refine wpList_append_own _ hgd s x 22 ho V.heap.size 61 i0 pixZ 3 24 Tryz.underlying22 hi hz0 hz1 hz2 rfl (by decide) _ 0 [] hs hown ⟨b,off,none⟩ xs.length ca (xs.flatMap pixL) hx (Xqg0 xs) HA (zAqK xs) (by unfold maxLen;omega) (by omega) (by simp) ?_
  intro v' w1 hown2 hgrow hnil
  have hown':w1.ownsRow V.heap.size 61 3 v' xs.length (xs.flatMap pixL):=by simpa using hown2
  exact h v' w1 (IsPix.own hown' hla) (((Below.refl _ V).alloc (ki _) _).grown hgrow (by simp) (by intro k hk;simp[Value.ownBlock] at hk;omega))
theorem jO2R {W H:Int} {ps:List Px} (h:turnE W H ps 1=0):qPp5 (mvOf 1) W H=W∧qPp5 (mvOf 1) H W=H∧turnL W.toNat H.toNat ps (mvOf 1)=ps:=by
 have hok:picOk W H ps=true:=by
  cases hp:picOk W H ps
  ·rw[turnE,hp] at h;simp at h
  ·rfl
 obtain ⟨h1,h2,h3,_⟩:=XMjn hok
 have hm:mvOf 1=(false,false,false):=rfl
 rw[hm]
 refine ⟨rfl,rfl,?_⟩
 obtain ⟨WN,rfl⟩:=kj (show 0≤W by omega)
 obtain ⟨HN,rfl⟩:=kj (show 0≤H by omega)
 have hl:ps.length=HN*WN:=by rw[Nat.mul_comm];exact_mod_cast h3
 simp only[ko]
 refine List.ext_getElem (by simp[turnL,qpi8,hl]) fun i g1 g2=>?_
 have hW:0<WN:=by omega
 simp only[turnL,qpi8,List.getElem_map,List.getElem_range,turnP,srcN,srcX,srcY,Bool.false_eq_true,if_false,ko]
 rw[Nat.div_add_mod' i WN]
 exact (jD3W ps i g2).symm
theorem zmH8 (P:Program) (t:TypeId) (ht:P.underlying t=some (.slice (P.elem t))) (hs:∀w,(sizeOf (P.elem t)).run P w=.ok 1 w) (b o n c A E:Nat) (h:A≤E) (h2:E≤c) (h3:c≠A) (w:World) :
  (Instr.slice t (.slice (some ⟨b,o,none⟩) n c) (some (.int .i64 A)) (some (.int .i64 E)) none).run P w=.ok (.slice (some ⟨b,o+A,none⟩) (E-A) (c-A)) w:=by
 rw[run_slice_lh w t (some ⟨b,o,none⟩) n c ht .i64 .i64 A E (by omega) (by omega) (by omega),hs]
 simp only[Result.andThen,sliced,ko,Nat.mul_one,Option.map_some]
 rw[if_neg h3,Addr.add_lit]
theorem XNww (r:RawF) (lv tv sv cv:Value) (PW PH:Int) (v:Value) (zs:List Int) (w:World) (hr:IsRaw w r lv tv sv cv) (hv:jCvT w v zs) (hroom:roomy v) (lz:NilZ lv) (tz:NilZ tv) (sz:NilZ sv) (cz:NilZ cv) (htl:r.strips.length≤8796093022208) :
  Calls Tryz.prog 21 #[.agg (rawA r lv tv sv cv),.agg #[.int .i64 PW,.int .i64 PH,v]] w fun e w'=>Below w.heap.size w w'∧((XQ5R r PW PH zs=0∧∃lv' tv' sv' cv',e=.returned (.tuple #[.agg (rawA (qtvI r zs) lv' tv' sv' cv'),.int .i64 0])∧IsRaw w' (qtvI r zs) lv' tv' sv' cv'∧Fresh w.heap.size lv'∧Fresh w.heap.size tv'∧Fresh w.heap.size sv'∧Fresh w.heap.size cv') ∨
   (XQ5R r PW PH zs≠0∧e=.returned (.tuple #[.agg rawZ,.int .i64 (XQ5R r PW PH zs)]))):=by
 have HR:=hide hr
 have HV:=hide hv
 have HCH:=hide (fun (u:World) (hu:Below w.heap.size w u)=>zx9X r lv tv sv cv u (HR.out.lens.below hu (ki _)))
 have HCP:=hide (fun (hh:Head r) (u:World) (hu:Below w.heap.size w u)=>jImi r lv tv sv cv u hh (HR.out.plan.below hu (ki _)))
 have HPL:=hide (fun (u:World) (hu:Below w.heap.size w u)=>zpml PW PH v zs u (HV.out.below hu (ki _)))
 have HDP:=hide (fun (hd:1≤r.depth∧r.depth≤16) (u:World) (hu:Below w.heap.size w u)=>zm8k v zs r.depth u hd (HV.out.below hu (ki _)))
 have HBA:=hide (fun (u:World) (hu:Below w.heap.size w u) g1 g2 g3=>z402 r lv tv sv cv u (HR.out.below hu (ki _)) g1 htl g2 g3 lz tz sz cz)
 have HSC0:=hide (fun (u:World) (h:Head r)=>XhYN r lv tv sv cv u h)
 have HSR0:=hide (fun (k:Nat) (u:World) (h:Head r) (hk:k<cntN r)=>XZvH r lv tv sv cv k u h hk)
 have HWD0:=hide (fun (v':Value) (l:List Int) (n:Int) (u:World) (hu:Below w.heap.size w u) (hv':jCvT u v' l)=>qK0E r.w n v' lv l r.kind r.lens u hv' (HR.out.lens.below hu (ki _)))
 have HE:=hide (show XQ5R r PW PH zs=if headE r=0 then (if pErr r=0 then (if fitP r PW PH zs=true then (if fiOk r zs (cntN r)=true then 0 else 4) else 1) else pErr r) else headE r from rfl)
 have HFP:=hide (show fitP r PW PH zs=(q0fM PW PH zs && decide (PW=r.w) && decide (PH=r.h) && jgbG r.depth zs) from rfl)
 generalize XQ5R r PW PH zs=E at *
 obtain ⟨vo,vc,rfl,hvl,_⟩:=hv
 have hvc:zs.length≤vc:=hroom
 obtain ⟨a1,a2,a3⟩:=al3 w (ka (rawA r lv tv sv cv) 57) (ka #[.int .i64 PW,.int .i64 PH,.slice vo zs.length vc] 54) (ka rawZ 57)
 have HB:=hide (be3 w (ka (rawA r lv tv sv cv) 57) (ka #[.int .i64 PW,.int .i64 PH,.slice vo zs.length vc] 54) (ka rawZ 57))
 have hl1:=(kc.1 a1).1
 have hl2:=(kc.1 a2).1
 have hl3:=(kc.1 a3).1
 have iz:(Tryz.prog.info? 57).map (·.size)=some (rawZ:Array Value).size:=by kernel_rfl
 have oz:(rawZ:Array Value).all (·.oneCell')=true:=by simp[Value.oneCell']
 clear hr hroom lz tz sz cz
 go_enter Tryz.func21,Tryz.ntmps21
 go_wp2_with (refine wpList_load_row rfl 57 _ rfl _ rfl _ _ _ _ a1 Tryz.underlying57 rfl (by kernel_rfl) ?_)
 generalize ((w.alloc (ka (rawA r lv tv sv cv) 57)).alloc (ka #[.int .i64 PW,.int .i64 PH,.slice vo zs.length vc] 54)).alloc (ka rawZ 57)=U at *
 have HRC:=hide (fun (v:World) (h:v.heap[w.heap.size]?=some (.cells (rawA r lv tv sv cv) 57 (0,0)))=>zUTj h)
 have hi28:(Tryz.prog.info? 57).map (·.size)=some ((rawA r lv tv sv cv):Array Value).size:=by kernel_rfl
 generalize (rawA r lv tv sv cv)=RQ at *
 refine (HCH.out _ HB.out).mono ?_
 rintro e V1 ⟨rfl,hb1⟩
 by_cases hF:headE r=0
 rotate_left
 ·rw[if_neg hF] at HE
  have he:=HE.out
  subst he
  have hn:(headE r != 0)=true:=by simpa using hF
  have g3:=(hb1.block _ hl3).trans a3
  have HG:=hide (setRow_heap _ _ _ rawZ _ _ g3)
  have HBF:=hide (below_setRow (g:=w.heap.size+2) (quJN HB.out hb1) (by omega) rawZ)
  go_wp2_with (refine wpList_store_row rfl 57 _ _ rfl (w.heap.size+2) rawZ rfl rfl _ _ g3 iz rfl oz ?_)
  refine bodyPost_ret (v:=.tuple #[.agg rawZ,.int .i64 (headE r)]) (zu5m Tryz.results21 _ _ _ _ _ rfl rfl HG.out iz) rfl ⟨HBF.out,.inr ⟨hF,rfl⟩⟩
 rw[if_pos hF] at HE
 rw[hF]
 have hH:=jWRa hF
 have HHD:=hide hH
 have g1:=(hb1.block _ hl1).trans a1
 clear HCH hF
 go_wp2_with (refine wpList_load_row rfl 57 _ rfl _ rfl _ _ _ _ g1 Tryz.underlying57 rfl hi28 ?_)
 refine (HCP.out HHD.out _ (quJN HB.out hb1)).mono ?_
 rintro e V2 ⟨rfl,hb2⟩
 replace hb2:=quJN hb1 hb2
 clear g1 hb1
 by_cases hP:pErr r=0
 rotate_left
 ·rw[if_neg hP] at HE
  have he:=HE.out
  subst he
  have hn:(pErr r != 0)=true:=by simpa using hP
  have g3:=(hb2.block _ hl3).trans a3
  have HG:=hide (setRow_heap _ _ _ rawZ _ _ g3)
  have HBF:=hide (below_setRow (g:=w.heap.size+2) (quJN HB.out hb2) (by omega) rawZ)
  go_wp2_with (refine wpList_store_row rfl 57 _ _ rfl (w.heap.size+2) rawZ rfl rfl _ _ g3 iz rfl oz ?_)
  refine bodyPost_ret (v:=.tuple #[.agg rawZ,.int .i64 (pErr r)]) (zu5m Tryz.results21 _ _ _ _ _ rfl rfl HG.out iz) rfl ⟨HBF.out,.inr ⟨hP,rfl⟩⟩
 rw[if_pos hP] at HE
 rw[hP]
 have HPZ:=hide hP
 clear HCP hP
 have g2:=(hb2.block _ hl2).trans a2
 obtain ⟨p0,p1,p2⟩:=z5EY g2
 go_wp2_with fail
 clear p0 p1 p2
 refine (HPL.out _ (quJN HB.out hb2)).mono ?_
 rintro e V3 ⟨rfl,hb3⟩
 replace hb3:=quJN hb2 hb3
 clear g2 hb2 HPL
 have g2:=(hb3.block _ hl2).trans a2
 have g1:=(hb3.block _ hl1).trans a1
 obtain ⟨p0,p1,p2⟩:=z5EY g2
 obtain ⟨s0,s1,s2,s3,s4,s5,s6,s13,s26⟩:=HRC.out _ g1
 clear g1 g2
 cases hpo:q0fM PW PH zs
 ·have he:E=1:=by rw[HE.out,HFP.out,hpo];rfl
  subst he
  clear HFP
  have g3:=(hb3.block _ hl3).trans a3
  have HG:=hide (setRow_heap _ _ _ rawZ _ _ g3)
  have HBF:=hide (below_setRow (g:=w.heap.size+2) (quJN HB.out hb3) (by omega) rawZ)
  go_wp2_with (refine wpList_store_row rfl 57 _ _ rfl (w.heap.size+2) rawZ rfl rfl _ _ g3 iz rfl oz ?_)
  refine bodyPost_ret (v:=.tuple #[.agg rawZ,.int .i64 1]) (zu5m Tryz.results21 _ _ _ _ _ rfl rfl HG.out iz) rfl ⟨HBF.out,.inr ⟨by decide,rfl⟩⟩
 by_cases hpw:PW=r.w
 rotate_left
 ·have hn1:(PW != r.w)=true:=by simpa using hpw
  have he:E=1:=by rw[HE.out,HFP.out,decide_eq_false hpw];simp
  subst he
  clear HFP
  have g3:=(hb3.block _ hl3).trans a3
  have HG:=hide (setRow_heap _ _ _ rawZ _ _ g3)
  have HBF:=hide (below_setRow (g:=w.heap.size+2) (quJN HB.out hb3) (by omega) rawZ)
  go_wp2_with (refine wpList_store_row rfl 57 _ _ rfl (w.heap.size+2) rawZ rfl rfl _ _ g3 iz rfl oz ?_)
  refine bodyPost_ret (v:=.tuple #[.agg rawZ,.int .i64 1]) (zu5m Tryz.results21 _ _ _ _ _ rfl rfl HG.out iz) rfl ⟨HBF.out,.inr ⟨by decide,rfl⟩⟩
 have hn1:(PW != r.w)=false:=by simpa using hpw
 by_cases hph:PH=r.h
 rotate_left
 ·have hn2:(PH != r.h)=true:=by simpa using hph
  have he:E=1:=by rw[HE.out,HFP.out,decide_eq_false hph];simp
  subst he
  clear HFP
  have g3:=(hb3.block _ hl3).trans a3
  have HG:=hide (setRow_heap _ _ _ rawZ _ _ g3)
  have HBF:=hide (below_setRow (g:=w.heap.size+2) (quJN HB.out hb3) (by omega) rawZ)
  go_wp2_with (refine wpList_store_row rfl 57 _ _ rfl (w.heap.size+2) rawZ rfl rfl _ _ g3 iz rfl oz ?_)
  refine bodyPost_ret (v:=.tuple #[.agg rawZ,.int .i64 1]) (zu5m Tryz.results21 _ _ _ _ _ rfl rfl HG.out iz) rfl ⟨HBF.out,.inr ⟨by decide,rfl⟩⟩
 have hn2:(PH != r.h)=false:=by simpa using hph
 have hsh:shalB r.depth zs=jgbG r.depth zs:=qyUf (fun x hx=>by
  have h4:=(qwcI hpo).2.2.2
  have:=List.all_eq_true.1 h4 x hx
  simp only[jDpp,decide_eq_true_eq] at this
  exact this.1)
 rw[hsh] at HDP
 clear hsh
 go_wp2_with fail
 refine (HDP.out HHD.out.depth _ (quJN HB.out hb3)).mono ?_
 rintro e V4 ⟨rfl,hb4⟩
 replace hb3:=quJN hb3 hb4
 clear hb4 p0 p1 p2 s0 s1 s2 s3 s4 s5 s6 s13 s26
 cases hdo:jgbG r.depth zs
 ·have he:E=1:=by rw[HE.out,HFP.out,hdo];simp
  subst he
  clear HFP
  have g3:=(hb3.block _ hl3).trans a3
  have HG:=hide (setRow_heap _ _ _ rawZ _ _ g3)
  have HBF:=hide (below_setRow (g:=w.heap.size+2) (quJN HB.out hb3) (by omega) rawZ)
  go_wp2_with (refine wpList_store_row rfl 57 _ _ rfl (w.heap.size+2) rawZ rfl rfl _ _ g3 iz rfl oz ?_)
  refine bodyPost_ret (v:=.tuple #[.agg rawZ,.int .i64 1]) (zu5m Tryz.results21 _ _ _ _ _ rfl rfl HG.out iz) rfl ⟨HBF.out,.inr ⟨by decide,rfl⟩⟩
 have hfit:fitP r PW PH zs=true:=by rw[HFP.out,hpo,hdo,decide_eq_true hpw,decide_eq_true hph];rfl
 rw[if_pos hfit] at HE
 have HFT:=hide hfit
 obtain ⟨hW,hHh,hlen,_⟩:=qwcI hpo
 have hsm:=zAFj hW hHh
 have hn1':1≤zs.length:=by omega
 have hz4:zs.length≤4096:=by omega
 have HLEN:=hide (show (zs.length:Int)=r.w*r.h by rw[hlen,hpw,hph])
 have HDO:=hide hdo
 obtain ⟨bk,off,ca,hve,hbk,hcell⟩:=HV.out.cells hn1'
 cases hve
 have HC:=hide hcell
 clear HFP HDP hfit hpo hdo hpw hph hn1 hn2 hlen hsm hcell hW hHh hH
 have g1:=(hb3.block _ hl1).trans a1
 have hle17:r.lens.length≤1000000:=by
  have:=HHD.out.lens
  unfold kindE at this
  split at this
  ·split at this
   ·omega
   ·cases this
  ·have:=(zF8D this).2.1;omega
 have hplz:planE r.plan=0:=by
  have:=HPZ.out
  unfold pErr at this
  split at this
  ·assumption
  ·exact this
 have hsp:r.plan.spots.length≤1000000:=by have:=(qwVl hplz).2.2.2.2.2.1;omega
 have hcu:r.plan.curve.length≤1000000:=by have:=qcx1 (qwVl hplz).2.2.2.2.2.2.2;omega
 go_wp2_with (refine wpList_load_row rfl 57 _ rfl _ rfl _ _ _ _ g1 Tryz.underlying57 rfl hi28 ?_)
 clear g1
 refine (HBA.out _ (quJN HB.out hb3) hle17 hsp hcu).mono ?_
 rintro e VB ⟨lv',tv',sv',cv',rfl,hIB,hbB,f1,f2,f3,f4⟩
 clear HBA hle17 hplz hsp hcu
 have HFR:=hide (show Fresh U.heap.size lv'∧Fresh U.heap.size sv'∧Fresh U.heap.size cv' from ⟨f1.mono hb3.size,f3.mono hb3.size,f4.mono hb3.size⟩)
 replace hbB:=quJN hb3 hbB
 clear hb3 f1 f2 f3 f4
 have HIB:=hide hIB
 have HO:=hide (XIRQ hIB)
 obtain ⟨RA,hRA⟩:∃RA,rawA r lv' tv' sv' cv'=RA:=⟨_,rfl⟩
 have i1:(Tryz.prog.info? 57).map (·.size)=some RA.size:=by rw[←hRA];kernel_rfl
 have i2:(rawZ:Array Value).size=RA.size:=by rw[←hRA];rfl
 rw[hRA] at HO ⊢
 have HRA:=hide hRA
 have hos:=HO.out
 clear hRA hIB
 have z1:=al1 VB (ka rawZ 57)
 have c1:=setRow_heap _ _ _ RA _ _ z1
 have HBX:=hide (below_setRow (g:=VB.heap.size) (qUNz VB (ka rawZ 57)) (ki _) RA)
 go_upto_region 10 with (refine wpList_store_row rfl 57 _ _ rfl VB.heap.size RA rfl rfl _ _ z1 i1 i2 hos ?_)
 clear z1
 obtain ⟨QX,hQX⟩:∃QX,VB.heap.size=QX:=⟨_,rfl⟩
 rw[hQX] at c1 HBX ⊢
 have hH0:Holds QX 57 (rawA r lv' tv' sv' cv').toList ((VB.alloc (ka rawZ 57)).setRow QX RA):=c1.trans (by rw[←HRA.out])
 have c6:((VB.alloc (ka rawZ 57)).setRow QX RA).cell? ⟨QX,6,none⟩=some tv':=by rw[kg hH0];rfl
 have f6:((VB.alloc (ka rawZ 57)).setRow QX RA).frozen? ⟨QX,6,none⟩=false:=kf hH0 _
 have HJ0:=hide (show FiJ r zs lv' sv' cv' QX 0 VB (((VB.alloc (ka rawZ 57)).setRow QX RA).setCell ⟨QX,6,none⟩ (.slice none 0 0)) from ⟨none,0,rfl,zBn3 hH0 6 (.slice none 0 0),⟨by simp[fiS],.inl ⟨rfl,rfl⟩⟩,HBX.out.setCell (p:=⟨QX,6,none⟩) (ki _) _⟩)
 have hUQ:U.heap.size≤QX:=by rw[←hQX];exact hbB.size
 have hVQ:VB.heap.size≤QX:=Nat.le_of_eq hQX
 have HSC:=hide (fun (u:World)=>HSC0.out u HHD.out)
 have hcp:=HHD.out.cnt_le
 obtain ⟨tn,tl,tc,rfl⟩:∃tn tl tc,tv'=.slice tn tl tc:=by obtain ⟨a,c,h,_⟩:=HIB.out.strips;exact ⟨a,_,c,h⟩
 clear c1 HBX HO hos i1 i2 HRA hQX HSC0 hH0
 generalize hC:cntN r=C at *
 have HCN:=hide hC
 clear hC
 go_upto_region 11 with fail
 clear c6 f6
 generalize ((VB.alloc (ka rawZ 57)).setRow QX RA).setCell ⟨QX,6,none⟩ (.slice none 0 0)=V5 at *
 go_wp2_with fail
 go_loopw [9] (fun i wr=>∃k:Nat,k≤C∧i=.int .i64 k∧FiJ r zs lv' sv' cv' QX k VB wr) (fun i _=>C-(intOf i).toNat)
 case atStart=>exact ⟨0,kn _,rfl,HJ0.out⟩
 case round =>
  clear HJ0
  obtain ⟨k,hk,rfl,hJ⟩:=hrel
  have HJ:=hide hJ
  obtain ⟨so,cap,j1,j2,j3,j4⟩:=hJ
  have hUQ2:Below U.heap.size U wr:=hbB.trans (j4.mono hUQ)
  have g1:=(hUQ2.block _ hl1).trans a1
  go_wp2_with (refine wpList_load_row rfl 57 _ rfl _ rfl _ _ _ _ g1 Tryz.underlying57 rfl hi28 ?_)
  clear g1 j1 j2 j3
  refine (HSC.out _).mono ?_
  rintro e wq ⟨rfl,hq1⟩
  replace HJ:=hide (HJ.out.below hq1)
  replace hUQ2:=quJN hUQ2 hq1
  clear hq1 j4
  generalize hwq:wq=wr' at *
  clear hwq
  obtain ⟨so,cap,j1,j2,j3,j4⟩:=HJ.out
  by_cases hlt:k<C
  ·have hd:decide ((k:Int)<(C:Int))=true:=by simp;omega
   have hlc:k<cntN r:=by have:=HCN.out;omega
   have HSR:=hide (fun (u:World)=>HSR0.out k u HHD.out hlt)
   have hple:=juYi HHD.out hlc
   have hszz:=HHD.out.size hlc
   have hL:=HLEN.out
   rw[Int.mul_comm] at hL
   rw[←hL] at hple
   obtain ⟨M,hM⟩:∃M:Nat,rowN r k*r.w=M:=⟨(rowN r k*r.w).toNat,by omega⟩
   have HPR:=hide (show parL r zs k=(zs.drop (parN r k)).take M by rw[parL,hM,ko])
   have HEI:=hide (zLqz HHD.out hlc HFT.out)
   have HFF:=hide (fun hk0=>X9zO (r:=r) (zs:=zs) hlc hk0)
   have HFS:=hide (XZj5 r zs k)
   have HOK:=hide (show wsE r (parL r zs k) (rowN r k)=0→fiOk r zs (k+1)=true from fun h0=>by rw[qTWu,j1,h0];rfl)
   have hpi:=jXie HHD.out k
   have hrw:=HHD.out.rows
   have hrh:=HHD.out.h
   have hrn:=HHD.out.row hlc
   have hww:=HHD.out.w
   have hdd:=HHD.out.depth
   have hkind:=HHD.out.kind
   have HAO:=hide (show allOk (parL r zs k) r.depth=true from List.all_eq_true.2 fun z hm=>by
    have:=List.all_eq_true.1 HDO.out z (Xeu9 hm)
    simp only[decide_eq_true_eq] at this
    simp only[numOk,decide_eq_true_eq]
    omega)
   have HPKE:=hide (fun (h:allOk (parL r zs k) r.depth=true) (hl:(parL r zs k).length≤4096)=>Xl8r (xs:=parL r zs k) (d:=r.depth) (by rw[XSys,decide_eq_true_eq];exact hdd) hl h)
   have hPL:=XBlq HHD.out hlc HLEN.out
   rw[hM] at hple hszz hPL
   obtain ⟨KR,hKR⟩:∃KR:Int,(k:Int)*r.rows=KR:=⟨_,rfl⟩
   have hKR0:0≤KR∧KR≤64:=by
    have:=(HHD.out.cnt_pos k).1 hlc
    have h0:0≤(k:Int)*r.rows:=Int.mul_nonneg (by omega) (by omega)
    omega
   rw[hKR] at hpi
   generalize hRN:rowN r k=RN at *
   clear hRN
   generalize hPP:parN r k=PP at *
   clear hPP
   have hwm:IntKind.i64.wrap (M:Int)=M:=kk _ (by omega)
   have hpm:PP+M≤zs.length:=by omega
   have hKE:(KR+RN)*r.w=((PP+M:Nat):Int):=by rw[Int.add_mul,hM,←hpi];omega
   obtain ⟨EM,hEM⟩:∃EM:Nat,PP+M=EM:=⟨_,rfl⟩
   rw[hEM] at hKE hpm
   have hw1:IntKind.i64.wrap KR=KR:=kk _ (by omega)
   have hw2:IntKind.i64.wrap (PP:Int)=PP:=kk _ (by omega)
   have hw3:IntKind.i64.wrap (KR+RN)=KR+RN:=kk _ (by omega)
   have hw4:IntKind.i64.wrap (EM:Int)=EM:=kk _ (by omega)
   have HII:=hide (fun (u:World) (hu:Below w.heap.size w u)=>zrZW (ca:=vc) (P:=PP) (M:=M) (fun j hj=>(hu.cell (p:=⟨bk,off+j,none⟩) hbk).trans (HC.out j hj)) (kl hbk hu.size) (by omega) hz4)
   rw[←HPR.out] at HII
   have HWSS:=hide (show wsS r (parL r zs k) RN=if r.kind=0 then packS (parL r zs k) r.depth else zivd r.w RN (parL r zs k) r.kind r.lens from rfl)
   have HWSE:=hide (show wsE r (parL r zs k) RN=if r.kind=0 then packE (parL r zs k) r.depth else X2rK r.w RN (parL r zs k) r.kind r.lens from rfl)
   generalize parL r zs k=PT at *
   have hPT4:PT.length≤4096:=by omega
   have HPK0:=hide (HPKE.out HAO.out hPT4)
   obtain ⟨D,hD⟩:=kj (show 0≤r.depth by omega)
   have HPKD:=hide (fun (v':Value) (u:World) (hv':jCvT u v' PT)=>q6Yy v' PT D (by omega) hPT4 (by rw[←hD];exact HAO.out) u hv')
   rw[←hD] at HPKD
   have HPS:=hide (show bytesOf (jvGa PT r.depth)=packS PT r.depth by rw[packS,if_pos HPK0.out])
   rw[HPS.out] at HPKD
   obtain ⟨NP,hNP⟩:∃NP,EM-PP=NP:=⟨_,rfl⟩
   have hNM:NP=M:=by omega
   subst hNM
   have hslE:∀V:World,(Instr.slice 52 (.slice (some ⟨bk,off,none⟩) zs.length vc) (some (.int .i64 PP)) (some (.int .i64 EM)) none).run Tryz.prog V=.ok (.slice (some ⟨bk,off+PP,none⟩) NP (vc-PP)) V:=fun V=>by
    rw[←hNP];exact zmH8 Tryz.prog 52 Tryz.underlying52 (fun _=>by kernel_rfl) bk off zs.length vc PP EM (by omega) (by omega) (by omega) V
   have hpr:KR*r.w=(PP:Int):=hpi.symm
   clear hpi
   obtain ⟨OP,hOP⟩:∃OP,off+PP=OP:=⟨_,rfl⟩
   obtain ⟨CP,hCP⟩:∃CP,vc-PP=CP:=⟨_,rfl⟩
   rw[hOP,hCP] at hslE HII
   clear hOP hCP hNP hEM hL hple hszz HPR HPKE hPL hD
   have hlw:w.heap.size<wr'.heap.size:=kl hl1 hUQ2.size
   have hlw2:w.heap.size+1<wr'.heap.size:=kl hl2 hUQ2.size
   have g1:=(hUQ2.block _ hl1).trans a1
   have g2:=(hUQ2.block _ hl2).trans a2
   have HS:=hide (show ∀v,Below wr'.heap.size wr' v→v.heap[w.heap.size]?=some (.cells RQ 57 (0,0))∧v.cell? ⟨w.heap.size,0,none⟩=some (.int .i64 r.w)∧v.cell? ⟨w.heap.size,4,none⟩=some (.int .i64 r.rows)∧v.cell? ⟨w.heap.size+1,2,none⟩=some (.slice (some ⟨bk,off,none⟩) zs.length vc) from fun v h=>by
    have e1:=HRC.out v ((h.block _ hlw).trans g1)
    exact ⟨(h.block _ hlw).trans g1,e1.1,e1.2.2.2.2.1,(z5EY ((h.block _ hlw2).trans g2)).2.2⟩)
   clear j1 j2 j3 j4 g1 g2
   go_upto_region 14 with fail
   go_cut [10] from 60 to 86 (fun q v=>∃PX,q=.pointer (some ⟨PX,0,none⟩)∧v.heap[PX]?=some (.cells #[.int .i64 r.w,.int .i64 RN,.slice (some ⟨bk,OP,none⟩) NP CP] 54 (0,0))∧wr'.heap.size≤PX∧Below wr'.heap.size wr' v)
   case first =>
    have hWd:Below wr'.heap.size wr' wr'.drew:=(Below.refl _ _).drew
    have hSd:=HS.out _ hWd
    have hmx:Tryz.prog.follows .mixedOrders=true:=by kernel_rfl
    refine qYgd (S:=(fun v:World=>v.heap[w.heap.size]?=some (.cells RQ 57 (0,0))∧v.cell? ⟨w.heap.size,0,none⟩=some (.int .i64 r.w)∧v.cell? ⟨w.heap.size,4,none⟩=some (.int .i64 r.rows)∧v.cell? ⟨w.heap.size+1,2,none⟩=some (.slice (some ⟨bk,off,none⟩) zs.length vc))) (f:=28) hmx ?_
    show jZdv _ _ _ _ _ _ 29 _ _ wr'.drew
    refine takeQ 0 ?vv1 (some 60) [] ?yy1 hSd ?rr1
    case yy1=>(intro wq hSq;obtain ⟨hq1,_,_,_⟩:=hSq;go_simp<;>with_reducible rfl)
    simp only[kh,kb,ke,kd]
    refine XmaW (i:=2) (oi:=_) (v:=.agg RQ) (some 62) [] rfl rfl (by kernel_rfl) (by kernel_rfl) (by kernel_rfl) (by kernel_rfl) (by kernel_rfl) (fun _ _ _ h=>h) (Or.inl ⟨by rfl,?yy2⟩) hSd ?rr2
    case yy2=>(intro wq hSq;obtain ⟨hq1,_,_,_⟩:=hSq;exact XMYj 57 _ rfl _ rfl _ _ _ _ hq1 Tryz.underlying57 rfl hi28)
    simp only[kh,kb,ke,kd]
    refine takeQ 3 ?vv3 (some 63) [] ?yy3 hSd ?rr3
    case yy3=>(intro wq hSq;obtain ⟨hq1,_,_,_⟩:=hSq;go_simp<;>with_reducible rfl)
    simp only[kh,kb,ke,kd]
    refine takeQ 5 ?vv4 (some 65) [] ?yy4 hSd ?rr4
    case yy4=>(intro wq hSq;obtain ⟨hq1,_,_,_⟩:=hSq;go_simp<;>with_reducible rfl)
    simp only[kh,kb,ke,kd]
    refine takeQ 7 ?vv5 (some 67) [] ?yy5 hSd ?rr5
    case yy5=>(intro wq hSq;obtain ⟨hq1,_,_,_⟩:=hSq;go_simp<;>with_reducible rfl)
    simp only[kh,kb,ke,kd]
    refine takeQ 8 ?vv6 (some 68) [] ?yy6 hSd ?rr6
    case yy6=>(intro wq hSq;obtain ⟨hq1,_,_,_⟩:=hSq;go_simp<;>with_reducible rfl)
    simp only[kh,kb,ke,kd]
    refine takeQ 11 ?vv7 (some 71) [] ?yy7 hSd ?rr7
    case yy7=>(intro wq hSq;obtain ⟨hq1,_,_,_⟩:=hSq;go_simp<;>with_reducible rfl)
    simp only[kh,kb,ke,kd]
    refine takeQ 14 ?vv8 (some 74) [] ?yy8 hSd ?rr8
    case yy8=>(intro wq hSq;obtain ⟨hq1,_,_,_⟩:=hSq;go_simp<;>with_reducible rfl)
    simp only[kh,kb,ke,kd]
    refine takeQ 15 ?vv9 (some 75) [] ?yy9 hSd ?rr9
    case yy9=>(intro wq hSq;obtain ⟨hq1,_,_,_⟩:=hSq;go_simp<;>with_reducible rfl)
    simp only[kh,kb,ke,kd]
    refine XmaW (i:=18) (oi:=_) (v:=.agg RQ) (some 78) [] rfl rfl (by kernel_rfl) (by kernel_rfl) (by kernel_rfl) (by kernel_rfl) (by kernel_rfl) (fun _ _ _ h=>h) (Or.inl ⟨by rfl,?yy10⟩) hSd ?rr10
    case yy10=>(intro wq hSq;obtain ⟨hq1,_,_,_⟩:=hSq;exact XMYj 57 _ rfl _ rfl _ _ _ _ hq1 Tryz.underlying57 rfl hi28)
    simp only[kh,kb,ke,kd]
    refine takeQ 19 ?vv11 (some 79) [] ?yy11 hSd ?rr11
    case yy11=>(intro wq hSq;obtain ⟨hq1,_,_,_⟩:=hSq;go_simp<;>with_reducible rfl)
    simp only[kh,kb,ke,kd]
    refine takeQ 22 ?vv12 (some 82) [] ?yy12 hSd ?rr12
    case yy12=>(intro wq hSq;obtain ⟨hq1,_,_,_⟩:=hSq;go_simp<;>with_reducible rfl)
    simp only[kh,kb,ke,kd]
    refine takeQ 1 ?vv13 (some 61) [] ?yy13 hSd ?rr13
    case yy13=>(intro wq hSq;obtain ⟨hq1,_,_,_⟩:=hSq;go_simp<;>with_reducible rfl)
    simp only[kh,kb,ke,kd]
    refine takeQ 6 ?vv14 (some 66) [] ?yy14 hSd ?rr14
    case yy14=>(intro wq hSq;obtain ⟨hq1,_,_,_⟩:=hSq;go_simp<;>with_reducible rfl)
    simp only[kh,kb,ke,kd]
    refine takeQ 9 ?vv15 (some 69) [] ?yy15 hSd ?rr15
    case yy15=>(intro wq hSq;obtain ⟨hq1,_,_,_⟩:=hSq;go_simp<;>with_reducible rfl)
    simp only[kh,kb,ke,kd]
    refine takeQ 12 ?vv16 (some 72) [] ?yy16 hSd ?rr16
    case yy16=>(intro wq hSq;obtain ⟨hq1,_,_,_⟩:=hSq;go_simp<;>with_reducible rfl)
    simp only[kh,kb,ke,kd]
    refine takeQ 16 ?vv17 (some 76) [] ?yy17 hSd ?rr17
    case yy17=>(intro wq hSq;obtain ⟨hq1,_,_,_⟩:=hSq;go_simp<;>with_reducible rfl)
    simp only[kh,kb,ke,kd]
    refine takeQ 23 ?vv18 (some 83) [] ?yy18 hSd ?rr18
    case yy18=>(intro wq hSq;obtain ⟨hq1,_,_,_⟩:=hSq;go_simp<;>with_reducible rfl)
    simp only[kh,kb,ke,kd]
    refine XmaW (i:=10) (oi:=_) (v:=.int .i64 KR) (some 70) [] rfl rfl (by kernel_rfl) (by kernel_rfl) (by kernel_rfl) (by kernel_rfl) (by kernel_rfl) (fun _ _ _ h=>h) (Or.inl ⟨by rfl,?yy19⟩) hSd ?rr19
    case yy19=>(intro wq hSq;obtain ⟨hq1,_,_,_⟩:=hSq;first|(go_simp;done)|(go_simp;rw[hKR];try (go_simp<;>with_reducible rfl)))
    simp only[kh,kb,ke,kd]
    refine XmaW (i:=17) (oi:=_) (v:=.int .i64 KR) (some 77) [] rfl rfl (by kernel_rfl) (by kernel_rfl) (by kernel_rfl) (by kernel_rfl) (by kernel_rfl) (fun _ _ _ h=>h) (Or.inl ⟨by rfl,?yy20⟩) hSd ?rr20
    case yy20=>(intro wq hSq;obtain ⟨hq1,_,_,_⟩:=hSq;first|(go_simp;done)|(go_simp;rw[hKR];try (go_simp<;>with_reducible rfl)))
    simp only[kh,kb,ke,kd]
    refine XmaW (i:=13) (oi:=_) (v:=.int .i64 PP) (some 73) [] rfl rfl (by kernel_rfl) (by kernel_rfl) (by kernel_rfl) (by kernel_rfl) (by kernel_rfl) (fun _ _ _ h=>h) (Or.inl ⟨by rfl,?yy21⟩) hSd ?rr21
    case yy21=>(intro wq hSq;obtain ⟨hq1,_,_,_⟩:=hSq;first|(go_simp;done)|(go_simp;rw[hpr];try (go_simp<;>with_reducible rfl)))
    simp only[kh,kb,ke,kd]
    refine jwFJ (i:=4) (j:=27) (oi:=_) (oj:=_) (by kernel_rfl) rfl rfl (fun K' hK=>?brA) (fun K' hK=>?brB)
    case brA =>
     rw[if_pos (by rfl)]
     go_simp
     refine (HSR.out _).mono ?_
     rintro e X1 ⟨rfl,hbx⟩
     have hX1:Below wr'.heap.size wr' X1:=quJN hWd hbx
     clear hbx
     have hSd:=HS.out _ hX1
     refine hK.out _ _ hSd ?_
     clear hK
     try simp only[kh]
     refine jwFJ (i:=20) (j:=27) (oi:=_) (oj:=_) (by kernel_rfl) rfl rfl (fun K' hK=>?brC) (fun K' hK=>?brD)
     case brC =>
      rw[if_pos (by rfl)]
      go_simp
      refine (HSR.out _).mono ?_
      rintro e X2 ⟨rfl,hbx⟩
      have hX2:Below wr'.heap.size wr' X2:=quJN hX1 hbx
      clear hbx
      have hSd:=HS.out _ hX2
      refine hK.out _ _ hSd ?_
      clear hK
      try simp only[kh]
      refine takeQ 21 ?vv22 (some 81) [] ?yy22 hSd ?rr22
      case yy22=>(intro wq hSq;obtain ⟨hq1,_,_,_⟩:=hSq;go_simp<;>with_reducible rfl)
      simp only[kh,kb,ke,kd]
      refine XmaW (i:=24) (oi:=_) (v:=.int .i64 EM) (some 84) [] rfl rfl (by kernel_rfl) (by kernel_rfl) (by kernel_rfl) (by kernel_rfl) (by kernel_rfl) (fun _ _ _ h=>h) (Or.inl ⟨by rfl,?yy23⟩) hSd ?rr23
      case yy23=>(intro wq hSq;obtain ⟨hq1,_,_,_⟩:=hSq;first|(go_simp;done)|(go_simp;rw[hKE];try (go_simp<;>with_reducible rfl)))
      simp only[kh,kb,ke,kd]
      refine takeQ 25 ?vv24 (some 85) [] ?yy24 hSd ?rr24
      case yy24=>(intro wq hSq;obtain ⟨hq1,_,_,_⟩:=hSq;go_simp<;>with_reducible rfl)
      simp only[kh,kb,ke,kd]
      refine takeQ 26 ?vv25 (some 86) [] ?yy25 hSd ?rr25
      case yy25=>(intro wq hSq;obtain ⟨hq1,_,_,_⟩:=hSq;go_simp<;>with_reducible rfl)
      simp only[kh,kb,ke,kd]
      refine znWj (i:=27) (o:=_) (by kernel_rfl) rfl (fun K' hK=>?_)
      rw[if_pos (by rfl)]
      go_simp
      have hX3:Below wr'.heap.size wr' (X2.alloc (ka #[.int .i64 0,.int .i64 0,.slice none 0 0] 54)):=hX2.alloc hX2.size _
      have hSd:=HS.out _ hX3
      refine hK.out _ _ hSd ?_
      clear hK
      try simp only[kh]
      refine z9gO (o:=_) (by kernel_rfl) rfl (fun K' hK=>?_)
      rw[if_pos (by rfl)]
      go_simp
      refine hK.out _ _ ?_
      clear hK
      refine jFdp (by kernel_rfl) ?_ _
      try simp only[kh]
      clear hSd
      go_wp2
      go_meet
      case rel=>exact ⟨X2.heap.size,rfl,al1 X2 (ka #[.int .i64 r.w,.int .i64 RN,.slice (some ⟨bk,OP,none⟩) NP CP] 54),hX2.size,hX2.alloc hX2.size _⟩
     case brD =>
      rw[if_pos (by rfl)]
      go_simp
      have hZ1:Below wr'.heap.size wr' (X1.alloc (ka #[.int .i64 0,.int .i64 0,.slice none 0 0] 54)):=(hX1.alloc hX1.size _)
      have gz:(X1.alloc (ka #[.int .i64 0,.int .i64 0,.slice none 0 0] 54)).heap[X1.heap.size]?=_:=al1 X1 (ka #[.int .i64 0,.int .i64 0,.slice none 0 0] 54)
      have hpx:wr'.heap.size≤X1.heap.size:=hX1.size
      have hSd:=HS.out _ hZ1
      refine hK.out _ _ hSd ?_
      clear hK
      try simp only[kh]
      generalize (X1.alloc (ka #[.int .i64 0,.int .i64 0,.slice none 0 0] 54))=Z1 at *
      generalize X1.heap.size=PX at *
      have lz:=(kc.1 gz).1
      refine znWj (i:=20) (o:=_) (by kernel_rfl) rfl (fun K' hK=>?_)
      rw[if_pos (by rfl)]
      go_simp
      refine (HSR.out _).mono ?_
      rintro e X2 ⟨rfl,hbx⟩
      have hX2:Below wr'.heap.size wr' X2:=quJN hZ1 hbx
      have gx:=(hbx.block _ lz).trans gz
      clear hbx
      have hSd:=HS.out _ hX2
      refine hK.out _ _ hSd ?_
      clear hK
      try simp only[kh]
      refine takeQ 21 ?vv26 (some 81) [] ?yy26 hSd ?rr26
      case yy26=>(intro wq hSq;obtain ⟨hq1,_,_,_⟩:=hSq;go_simp<;>with_reducible rfl)
      simp only[kh,kb,ke,kd]
      refine XmaW (i:=24) (oi:=_) (v:=.int .i64 EM) (some 84) [] rfl rfl (by kernel_rfl) (by kernel_rfl) (by kernel_rfl) (by kernel_rfl) (by kernel_rfl) (fun _ _ _ h=>h) (Or.inl ⟨by rfl,?yy27⟩) hSd ?rr27
      case yy27=>(intro wq hSq;obtain ⟨hq1,_,_,_⟩:=hSq;first|(go_simp;done)|(go_simp;rw[hKE];try (go_simp<;>with_reducible rfl)))
      simp only[kh,kb,ke,kd]
      refine takeQ 25 ?vv28 (some 85) [] ?yy28 hSd ?rr28
      case yy28=>(intro wq hSq;obtain ⟨hq1,_,_,_⟩:=hSq;go_simp<;>with_reducible rfl)
      simp only[kh,kb,ke,kd]
      refine takeQ 26 ?vv29 (some 86) [] ?yy29 hSd ?rr29
      case yy29=>(intro wq hSq;obtain ⟨hq1,_,_,_⟩:=hSq;go_simp<;>with_reducible rfl)
      simp only[kh,kb,ke,kd]
      obtain ⟨z0,z1,z2⟩:=z5EY gx
      have f0:=kf gx 0
      have f1:=kf gx 1
      have f2:=kf gx 2
      obtain ⟨vS,_,_,_⟩:=X0Wz gx (.int .i64 r.w) (.int .i64 RN) (.slice (some ⟨bk,OP,none⟩) NP CP) w (km (quJN HB.out hUQ2).size hpx) ((quJN HB.out hUQ2).trans (hX2.mono (quJN HB.out hUQ2).size))
      have hB4:=zHqh hX2 hpx (.int .i64 r.w) (.int .i64 RN) (.slice (some ⟨bk,OP,none⟩) NP CP)
      refine z9gO (o:=_) (by kernel_rfl) rfl (fun K' hK=>?_)
      rw[if_pos (by rfl)]
      go_simp
      refine hK.out _ _ ?_
      clear hK
      refine jFdp (by kernel_rfl) ?_ _
      try simp only[kh]
      clear hSd
      go_wp2
      go_meet
      case rel=>exact ⟨PX,rfl,vS,hpx,hB4⟩
    case brB =>
     rw[if_pos (by rfl)]
     go_simp
     have hZ1:Below wr'.heap.size wr' (wr'.alloc (ka #[.int .i64 0,.int .i64 0,.slice none 0 0] 54)).drew:=(((Below.refl wr'.heap.size wr').alloc (ki _) _).drew)
     have gz:(wr'.alloc (ka #[.int .i64 0,.int .i64 0,.slice none 0 0] 54)).drew.heap[wr'.heap.size]?=_:=al1 wr' (ka #[.int .i64 0,.int .i64 0,.slice none 0 0] 54)
     have hpx:wr'.heap.size≤wr'.heap.size:=ki _
     have hSd:=HS.out _ hZ1
     refine hK.out _ _ hSd ?_
     clear hK
     try simp only[kh]
     generalize (wr'.alloc (ka #[.int .i64 0,.int .i64 0,.slice none 0 0] 54)).drew=Z1 at *
     have lz:=(kc.1 gz).1
     refine znWj (i:=4) (o:=_) (by kernel_rfl) rfl (fun K' hK=>?_)
     rw[if_pos (by rfl)]
     go_simp
     refine (HSR.out _).mono ?_
     rintro e X1 ⟨rfl,hbx⟩
     have hX1:Below wr'.heap.size wr' X1:=quJN hZ1 hbx
     have gy:=(hbx.block _ lz).trans gz
     have ly:=(kc.1 gy).1
     clear hbx
     have hSd:=HS.out _ hX1
     refine hK.out _ _ hSd ?_
     clear hK
     try simp only[kh]
     refine znWj (i:=20) (o:=_) (by kernel_rfl) rfl (fun K' hK=>?_)
     rw[if_pos (by rfl)]
     go_simp
     refine (HSR.out _).mono ?_
     rintro e X2 ⟨rfl,hbx⟩
     have hX2:Below wr'.heap.size wr' X2:=quJN hX1 hbx
     have gx:=(hbx.block _ ly).trans gy
     clear hbx
     have hSd:=HS.out _ hX2
     refine hK.out _ _ hSd ?_
     clear hK
     try simp only[kh]
     refine takeQ 21 ?vv30 (some 81) [] ?yy30 hSd ?rr30
     case yy30=>(intro wq hSq;obtain ⟨hq1,_,_,_⟩:=hSq;go_simp<;>with_reducible rfl)
     simp only[kh,kb,ke,kd]
     refine XmaW (i:=24) (oi:=_) (v:=.int .i64 EM) (some 84) [] rfl rfl (by kernel_rfl) (by kernel_rfl) (by kernel_rfl) (by kernel_rfl) (by kernel_rfl) (fun _ _ _ h=>h) (Or.inl ⟨by rfl,?yy31⟩) hSd ?rr31
     case yy31=>(intro wq hSq;obtain ⟨hq1,_,_,_⟩:=hSq;first|(go_simp;done)|(go_simp;rw[hKE];try (go_simp<;>with_reducible rfl)))
     simp only[kh,kb,ke,kd]
     refine takeQ 25 ?vv32 (some 85) [] ?yy32 hSd ?rr32
     case yy32=>(intro wq hSq;obtain ⟨hq1,_,_,_⟩:=hSq;go_simp<;>with_reducible rfl)
     simp only[kh,kb,ke,kd]
     refine takeQ 26 ?vv33 (some 86) [] ?yy33 hSd ?rr33
     case yy33=>(intro wq hSq;obtain ⟨hq1,_,_,_⟩:=hSq;go_simp<;>with_reducible rfl)
     simp only[kh,kb,ke,kd]
     obtain ⟨z0,z1,z2⟩:=z5EY gx
     have f0:=kf gx 0
     have f1:=kf gx 1
     have f2:=kf gx 2
     obtain ⟨vS,_,_,_⟩:=X0Wz gx (.int .i64 r.w) (.int .i64 RN) (.slice (some ⟨bk,OP,none⟩) NP CP) w (km (quJN HB.out hUQ2).size hpx) ((quJN HB.out hUQ2).trans (hX2.mono (quJN HB.out hUQ2).size))
     have hB4:=zHqh hX2 hpx (.int .i64 r.w) (.int .i64 RN) (.slice (some ⟨bk,OP,none⟩) NP CP)
     refine z9gO (o:=_) (by kernel_rfl) rfl (fun K' hK=>?_)
     rw[if_pos (by rfl)]
     go_simp
     refine hK.out _ _ ?_
     clear hK
     refine jFdp (by kernel_rfl) ?_ _
     try simp only[kh]
     clear hSd
     go_wp2
     go_meet
     case rel=>exact ⟨wr'.heap.size,rfl,vS,hpx,hB4⟩
   case rest =>
    obtain ⟨PX,rfl,gp,hpx,hbp⟩:=hcut
    replace HJ:=hide (HJ.out.below hbp)
    replace hUQ2:=quJN hUQ2 hbp
    generalize hwc:wc=W1 at *
    clear hwc
    obtain ⟨p0,p1,p2⟩:=z5EY gp
    have lp:=(kc.1 gp).1
    have g1:=(hUQ2.block _ hl1).trans a1
    obtain ⟨s0,s1,s2,s3,s4,s5,s6,s13,s26⟩:=HRC.out _ g1
    have HWI:=hide (quJN HB.out hUQ2)
    go_wp2_with fail
    clear p0 p1 p2 s0 s1 s2 s3 s4 s5 s6 s13 s26
    refine (HPKD.out _ W1 (HII.out _ HWI.out)).mono ?_
    rintro e W2 ⟨rfl,hb6⟩
    replace HJ:=hide (HJ.out.below hb6)
    replace hUQ2:=quJN hUQ2 hb6
    replace HWI:=hide (quJN HB.out hUQ2)
    replace gp:=(hb6.block _ lp).trans gp
    clear hb6 g1 lp
    have lp:=(kc.1 gp).1
    have g1:=(hUQ2.block _ hl1).trans a1
    obtain ⟨s0,s1,s2,s3,s4,s5,s6,s13,s26⟩:=HRC.out _ g1
    obtain ⟨p0,p1,p2⟩:=z5EY gp
    go_upto_if 94 with fail
    go_cut [11] from 87 to 107 (fun q v=>wsE r PT RN=0∧q=.string (str (wsS r PT RN))∧FiJ r zs lv' sv' cv' QX k VB v∧Below U.heap.size U v)
    case first =>
     by_cases hk0:r.kind=0
     ·have hkd:decide ((0:Int)<r.kind)=false:=decide_eq_false (by omega)
      have HW0:=hide (show wsE r PT RN=0 by rw[HWSE.out,if_pos hk0];exact HPK0.out)
      have HW1:=hide (show packS PT r.depth=wsS r PT RN by rw[HWSS.out,if_pos hk0])
      clear hkd
      go_wp2_with fail
      go_meet
      case rel=>exact ⟨HW0.out,by rw[HW1.out],HJ.out,hUQ2⟩
     ·have hkp:0<r.kind:=by omega
      have hkd:decide ((0:Int)<r.kind)=true:=decide_eq_true hkp
      have HW0:=hide (show wsE r PT RN=X2rK r.w RN PT r.kind r.lens by rw[HWSE.out,if_neg hk0])
      have HW1:=hide (show wsS r PT RN=zivd r.w RN PT r.kind r.lens by rw[HWSS.out,if_neg hk0])
      have HWC:=hide (HWD0.out _ PT RN W2 HWI.out (HII.out _ HWI.out))
      rw[←HW0.out,←HW1.out] at HWC
      clear hk0
      go_wp2_with fail
      clear p0 p1 p2 s0 s1 s2 s3 s4 s5 s6 s13 s26
      refine (HWC.out).mono ?_
      rintro e W3 ⟨rfl,hb7⟩
      by_cases h0:wsE r PT RN=0
      ·have HJ3:=hide (HJ.out.below hb7)
       have hUQ3:=quJN hUQ2 hb7
       have hwe:(wsE r PT RN != 0)=false:=by simpa using h0
       have HH0:=hide h0
       clear h0 hb7
       go_wp2
       go_meet
       case rel=>exact ⟨HH0.out,rfl,HJ3.out,hUQ3⟩
      ·rcases HEI.out with he|he
       ·exact absurd he h0
       rw[he]
       have hzf:=HFF.out h0
       rw[HCN.out] at hzf
       have hee:E=4:=by rw[HE.out,hzf];rfl
       subst hee
       have hUQ3:=quJN hUQ2 hb7
       clear h0 hb7
       have g3:=(hUQ3.block _ hl3).trans a3
       have HG:=hide (setRow_heap _ _ _ rawZ _ _ g3)
       have HBF:=hide (below_setRow (g:=w.heap.size+2) (quJN HB.out hUQ3) (by omega) rawZ)
       go_wp2_with (refine wpList_store_row rfl 57 _ _ rfl (w.heap.size+2) rawZ rfl rfl _ _ g3 iz rfl oz ?_)
       refine bodyPost_ret (v:=.tuple #[.agg rawZ,.int .i64 4]) (zu5m Tryz.results21 _ _ _ _ _ rfl rfl HG.out iz) rfl ⟨HBF.out,.inr ⟨by decide,rfl⟩⟩
    case rest =>
     obtain ⟨h0,rfl,hJ,hUX⟩:=hcut
     have HJ2:=hide hJ
     obtain ⟨so,cap,k1,k2,k3,k4⟩:=hJ
     generalize hwc:wc=X2 at *
     clear hwc
     obtain ⟨T,hT⟩:∃T,wsS r PT RN=T:=⟨_,rfl⟩
     rw[hT] at HFS ⊢
     clear hT
     obtain ⟨i0,hi,hz0,hz1,hz2⟩:=info_parts Tryz.infoStrF
     obtain ⟨s0,s1,s2,s3,s4,s5,s6,s13,s26⟩:=zUTj k2
     have hXQ:QX<X2.heap.size:=k2.lt
     have b2:Holds QX 57 (rawA r lv' (.slice so k cap) sv' cv').toList (X2.alloc (ka #[.string (str T)] 9)):=((qUNz X2 _).block _ hXQ).trans k2
     have o2:=qw14 k3 (qUNz X2 (ka #[.string (str T)] 9))
     have c2:=al1 X2 (ka #[.string (str T)] 9)
     have b4:Below QX VB (X2.alloc (ka #[.string (str T)] 9)):=k4.trans ((qUNz X2 _).mono (Nat.le_of_lt hXQ))
     have hkl:k≤64:=by omega
     have s6':(X2.alloc (ka #[.string (str T)] 9)).cell? ⟨QX,6,none⟩=some (.slice so k cap):=by rw[kg b2];rfl
     have q2:∀j u,[Value.string (str T)][j]?=some u→(X2.alloc (ka #[.string (str T)] 9)).cell? ((⟨X2.heap.size,0,none⟩:Addr).add j)=some u:=by
      intro j u hj
      rcases j with _|j
      ·simp only[List.getElem?_cons_zero,Option.some.injEq] at hj
       rw[Addr.add_lit,kg c2,←hj];rfl
      ·simp at hj
     have q3:∀u∈[Value.string (str T)],u.oneCell'=true:=by intro u hu;rw[List.mem_singleton.1 hu];rfl
     have q4:k+1≤maxLen:=by unfold maxLen;omega
     have q5:(k+1)*16≤140737488355328:=by omega
     have q6:QX≤(X2.alloc (ka #[.string (str T)] 9)).heap.size:=by simp;omega
     clear s0 s1 s2 s3 s4 s5 s13 s26 k1 k2 k3 HJ2
     go_wp2_with (at_builtin;refine wpList_append_own _ rfl _ _ 55 rfl QX 9 i0 (.string ⟨#[]⟩) 1 16 Tryz.underlying55 hi hz0 hz1 hz2 rfl (by decide) _ k ((fiS r zs k).map strV) rfl o2 ⟨X2.heap.size,0,none⟩ 1 1 [.string (str T)] rfl rfl q2 q3 q4 q5 q6 ?_)
     intro v' w1 hown hgrow hnil
     obtain ⟨x1,x2,x3,x4,x5,x6⟩:=j5zS (i:=6) (by decide) b2 rfl o2 b4 (ki _) (ki _) (by simp;omega) hgrow hown
     rcases id hown.2 with ⟨_,hn0⟩|⟨g,cp,cur,rfl,_⟩
     ·exfalso;omega
     have HJ3:=hide (show FiJ r zs lv' sv' cv' QX (k+1) VB (w1.setCell ⟨QX,6,none⟩ (.slice (some ⟨g,0,none⟩) (k+1) cp)) from ⟨some ⟨g,0,none⟩,cp,HOK.out h0,x3,by rw[HFS.out,List.map_append];exact x4,x5⟩)
     clear x3 x4 x5 x6 b2 o2 c2 b4 hown hgrow hnil
     go_wp2
     go_roundw
     case rel=>exact ⟨k+1,hlt,by go_num,HJ3.out⟩
     case measure=>simp[intOf];omega
  ·have hd:decide ((k:Int)<(C:Int))=false:=by simp;omega
   obtain rfl:k=C:=by omega
   have he:E=0:=by rw[HE.out,if_pos j1]
   subst he
   have g3:=(hUQ2.block _ hl3).trans a3
   obtain ⟨RA,hRA⟩:∃RA,rawA r lv' (.slice so k cap) sv' cv'=RA:=⟨_,rfl⟩
   have i1:(Tryz.prog.info? 57).map (·.size)=some RA.size:=by rw[←hRA];kernel_rfl
   have i2:(rawZ:Array Value).size=RA.size:=by rw[←hRA];rfl
   have hIF:IsRaw wr' (qtvI r zs) lv' (.slice so k cap) sv' cv':=⟨HIB.out.lens.below j4 hVQ,zGcC.own (base:=QX) (by rw[show (qtvI r zs).strips=fiS r zs k by rw[qtvI,HCN.out]];simpa [fiS] using j3) (by rw[show (qtvI r zs).strips=fiS r zs k by rw[qtvI,HCN.out]];simp[fiS];omega),HIB.out.plan.spots.below j4 hVQ,HIB.out.plan.curve.below j4 hVQ⟩
   have hos:RA.all (·.oneCell')=true:=by rw[←hRA];exact (XIRQ hIF:(rawA (qtvI r zs) lv' (.slice so k cap) sv' cv').all (·.oneCell')=true)
   have HRA:=hide hRA
   have d1:wr'.heap[QX]?=some (.cells RA 57 (0,0)):=by rw[←hRA];exact j2
   have HG:=hide (setRow_heap _ _ _ RA _ _ g3)
   have HBF:=hide (below_setRow (g:=w.heap.size+2) (quJN HB.out hUQ2) (by omega) RA)
   have hfo:=Fresh.own j3
   obtain ⟨f1,f3,f4⟩:=HFR.out
   have HIF:=hide (hIF.other (k:=w.heap.size+2) (w':=wr'.setRow (w.heap.size+2) RA) (B:=U.heap.size) (by simp) (fun b hb=>setRow_other _ _ _ _ hb) hl3 f1 (hfo.mono hUQ) f3 f4)
   have hw:w.heap.size≤U.heap.size:=by omega
   have HFZ:=hide (show Fresh w.heap.size lv'∧Fresh w.heap.size (.slice so k cap)∧Fresh w.heap.size sv'∧Fresh w.heap.size cv' from ⟨f1.mono hw,hfo.mono (by omega),f3.mono hw,f4.mono hw⟩)
   clear hRA f1 f3 f4 hfo hIF j1 j2 j3 j4 HJ
   go_wp2_with (first|refine wpList_load_row rfl 57 _ rfl _ rfl _ _ _ _ d1 Tryz.underlying57 rfl i1 ?_|refine wpList_store_row rfl 57 _ _ rfl (w.heap.size+2) RA rfl rfl _ _ g3 i1 i2 hos ?_)
   have HRF:=hide (show rawA (qtvI r zs) lv' (.slice so k cap) sv' cv'=RA from HRA.out)
   first
   | refine bodyPost_ret (v:=.tuple #[.agg RA,.int .i64 0]) (zu5m Tryz.results21 _ _ _ _ _ rfl rfl HG.out i1) rfl ⟨HBF.out,_,_,_,_,by rw[HRF.out],HIF.out,HFZ.out⟩
   | refine bodyPost_ret (v:=.tuple #[.agg RA,.int .i64 0]) (zu5m Tryz.results21 _ _ _ _ _ rfl rfl HG.out i1) rfl ⟨HBF.out,.inl ⟨rfl,_,_,_,_,by rw[HRF.out],HIF.out,HFZ.out⟩⟩
end Go.Proofs.YtfjeonehdlphiaaGreatDoor
