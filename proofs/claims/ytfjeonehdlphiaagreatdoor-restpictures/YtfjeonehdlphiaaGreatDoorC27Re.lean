/- Re: part 27 of what the proofs need. -/
import Derived.Test.YtfjeonehdlphiaaGreatDoorC2Re
import Derived.Test.YtfjeonehdlphiaaGreatDoorC3Re
import Derived.Test.YtfjeonehdlphiaaGreatDoorC6Re
import Derived.Test.YtfjeonehdlphiaaGreatDoorC19Re
import Derived.Test.YtfjeonehdlphiaaGreatDoorC26Re
import Derived.Laws.CopyOwn
open Go.Obj renaming cells → ka
open List renaming setIfInBounds_toArray → kb, set_cons_zero → ke, set_cons_succ → kf
open Array renaming getElem?_eq_some_iff → kd
open Go.Lib renaming frozen_of_heap → kg
open Go.Act renaming put → kh
open Nat renaming le_refl → ki, zero_le → kl, mul_le_mul_right → km
open Go.IntWalk renaming i64_in → kj
open Go.RowKit.Below renaming heap_setCell → kk
set_option linter.unusedVariables false
set_option maxHeartbeats 3200000
set_option maxRecDepth 100000
namespace Go.Proofs.YtfjeonehdlphiaaGreatDoor
open Go.RowKit
def rowsL {α:Type} (xs:List α) (W top many:Nat):List α:=(xs.drop (top*W)).take (many*W)
theorem j9sy (b off n c:Nat) (ps:List Px) (w:World) (hn:ps.length=n) (hb:b<w.heap.size) (h4:n≤4096) (h1:1≤n)
  (hc:∀j,j<n→w.cell? ⟨b,off+j*3,none⟩=some (.int .i64 (pxAt ps j).1)∧w.cell? ⟨b,off+j*3+1,none⟩=some (.int .i64 (pxAt ps j).2.1)∧w.cell? ⟨b,off+j*3+2,none⟩=some (.int .i64 (pxAt ps j).2.2)) :
  Calls Tryz.prog 119 #[.slice (some ⟨b,off,none⟩) n c] w fun e w'=>∃r,e=.returned r∧IsPix w' r ps∧Below w.heap.size w w'∧Fresh w.heap.size r:=by
 obtain ⟨i0,hi,hz0,hz1,hz2⟩:=info_parts Tryz.infoPixel
 have q22:∀(w:World) (a:Option Addr) (n c n' c':Nat),(binOp .eql 22 (.slice a n c) (.slice none n' c')).run Tryz.prog w=.ok (.bool a.isNone) w:=fun w a n c n' c'=>Lib.run_eql_slice_nil w _ _ a n c n' c' Tryz.underlying22
 have HC:=hide hc
 have hl:(ps.flatMap pixL).length=n*3:=by rw[Xqg0,hn]
 have HL:=hide hl
 clear hc
 go_enter Tryz.func119,Tryz.ntmps119
 go_wp2_with (at_builtin;refine wpList_append_own _ rfl _ _ 22 rfl w.heap.size 61 i0 pixZ 3 24 Tryz.underlying22 hi hz0 hz1 hz2 rfl (by omega) _ _ _ rfl (World.ownsRow_made w #[] 0 (ki _) (kl _) (by simp)) ⟨b,off,none⟩ n c (ps.flatMap pixL) rfl ?qc1 ?qc2 ?qc3 ?qc4 ?qc5 ?qc6 ?_)
 case qc1=>exact HL.out
 case qc2 =>
  intro j u hj
  rw[Addr.add_lit]
  refine Lib.cell?_alloc_some _ ?_
  have hj3:j<n*3:=by rw[←HL.out];exact (List.getElem?_eq_some_iff.1 hj).1
  have hq:j / 3<n:=by omega
  obtain ⟨g0,g1,g2⟩:=zgQy ps (j / 3) (by omega)
  obtain ⟨d0,d1,d2⟩:=HC.out (j / 3) hq
  rw[jD3W ps (j / 3) (by omega)] at g0 g1 g2
  rcases (show j % 3=0∨j % 3=1∨j % 3=2 by omega) with h|h|h
  ·have e:j=j / 3*3:=by omega
   rw[e] at hj ⊢
   rw[←Option.some.inj (g0.symm.trans hj)];exact d0
  ·have e:j=j / 3*3+1:=by omega
   rw[e] at hj ⊢
   rw[←Option.some.inj (g1.symm.trans hj),←Nat.add_assoc];exact d1
  ·have e:j=j / 3*3+2:=by omega
   rw[e] at hj ⊢
   rw[←Option.some.inj (g2.symm.trans hj),←Nat.add_assoc];exact d2
 case qc3 =>
  intro u hu
  obtain ⟨p,_,hu⟩:=List.mem_flatMap.1 hu
  simp only[pixL,List.mem_cons,List.not_mem_nil,or_false] at hu
  rcases hu with rfl|rfl|rfl<;>rfl
 case qc4=>rw[Nat.zero_add];unfold maxLen;omega
 case qc5=>rw[Nat.zero_add];omega
 case qc6=>simp
 intro v' w1 hown hgrow hnil
 go_wp2
 go_ret
 exact ⟨v',rfl,IsPix.own (by rw[hn];exact hown) (by omega),(qUNz w _).grown hgrow (by simp) (fun k hk=>by simp[Value.ownBlock] at hk;omega),Fresh.own hown⟩
theorem Xxdw (W H TP EN bk off ca:Nat) (hW1:1≤W) (hW:W≤64) (hH:H≤64) (zs:List Int) (hlen:zs.length=H*W) (hTE:TP<EN) (hEH:EN≤H) (hca:zs.length≤ca) (w:World) :
  Calls Tryz.prog 58 #[.agg #[.int .i64 W,.int .i64 H,.slice (some ⟨bk,off,none⟩) zs.length ca],.int .i64 TP,.int .i64 EN] w fun e w'=>e=.returned (.agg #[.int .i64 W,.int .i64 (EN-TP:Nat),.slice (some ⟨bk,off+TP*W,none⟩) ((EN-TP)*W) (ca-TP*W)])∧Below w.heap.size w w':=by
 have h1:(TP+1)*W≤EN*W:=km _ hTE
 have h2:EN*W≤H*W:=km _ hEH
 have h3:(EN-TP)*W=EN*W-TP*W:=Nat.sub_mul _ _ _
 have h4:H*W≤64*64:=Nat.mul_le_mul hH hW
 rw[Nat.succ_mul] at h1
 rw[h3]
 obtain ⟨A,hA⟩:∃A,TP*W=A:=⟨_,rfl⟩
 obtain ⟨B,hB⟩:∃B,EN*W=B:=⟨_,rfl⟩
 rw[hA] at h1 ⊢
 rw[hB] at h1 h2 ⊢
 rw[←hlen] at h2 h4
 have hAI:(TP:Int)*(W:Int)=(A:Int):=by rw[←hA];simp
 have hBI:(EN:Int)*(W:Int)=(B:Int):=by rw[←hB];simp
 have hwA:IntKind.i64.wrap (A:Int)=(A:Int):=kj _ (by omega)
 have hwB:IntKind.i64.wrap (B:Int)=(B:Int):=kj _ (by omega)
 have hDI:IntKind.i64.wrap ((EN:Int)-(TP:Int))=((EN-TP:Nat):Int):=(kj _ (by omega)).trans (by omega)
 have hs1:(A:Int)≤(B:Int):=by omega
 have hs2:(B:Int)≤(ca:Int):=by omega
 have hs3:¬(ca=A):=by omega
 obtain ⟨D,hD⟩:∃D,EN-TP=D:=⟨_,rfl⟩
 rw[hD] at hDI ⊢
 clear hA hB hD h3 hlen
 obtain ⟨a1,a2⟩:=al2 w (ka #[.int .i64 W,.int .i64 H,.slice (some ⟨bk,off,none⟩) zs.length ca] 54) (ka #[.int .i64 0,.int .i64 0,.slice none 0 0] 54)
 have HB:=hide (be2 w (ka #[.int .i64 W,.int .i64 H,.slice (some ⟨bk,off,none⟩) zs.length ca] 54) (ka #[.int .i64 0,.int .i64 0,.slice none 0 0] 54))
 go_enter Tryz.func58,Tryz.ntmps58
 go_wp2_with fail
 have hl1:=(kd.1 a1).1
 have hl2:=(kd.1 a2).1
 generalize (w.alloc (ka #[.int .i64 W,.int .i64 H,.slice (some ⟨bk,off,none⟩) zs.length ca] 54)).alloc (ka #[.int .i64 0,.int .i64 0,.slice none 0 0] 54)=U at *
 have hSd:U.drew.cell? ⟨w.heap.size,0,none⟩=some (.int .i64 W)∧U.drew.cell? ⟨w.heap.size,1,none⟩=some (.int .i64 H)∧U.drew.cell? ⟨w.heap.size,2,none⟩=some (.slice (some ⟨bk,off,none⟩) zs.length ca):=z5EY (w:=U.drew) a1
 obtain ⟨z0,z1,z2⟩:=z5EY a2
 have f0:=kg a2 0
 have f1:=kg a2 1
 have f2:=kg a2 2
 have hmx:Tryz.prog.follows .mixedOrders=true:=by kernel_rfl
 refine qYgd (S:=fun v:World=>v.cell? ⟨w.heap.size,0,none⟩=some (.int .i64 W)∧v.cell? ⟨w.heap.size,1,none⟩=some (.int .i64 H)∧v.cell? ⟨w.heap.size,2,none⟩=some (.slice (some ⟨bk,off,none⟩) zs.length ca)) (f:=17) hmx ?_
 show jZdv _ _ _ _ _ _ 18 _ _ U.drew
 refine zB2j (i:=0) (oi:=_) (v:=?vv1) (some 7) rfl rfl (by kernel_rfl) (by kernel_rfl) (by kernel_rfl) (by kernel_rfl) (by kernel_rfl) (fun _ _ _ h=>h) (Or.inl ⟨by rfl,?yy1⟩) hSd ?rr1
 case yy1=>(intro wq hSq;obtain ⟨_,_,_⟩:=hSq;go_simp<;>with_reducible rfl)
 simp only[kh,kb,kf,ke]
 refine zB2j (i:=2) (oi:=_) (v:=?vv2) (some 9) rfl rfl (by kernel_rfl) (by kernel_rfl) (by kernel_rfl) (by kernel_rfl) (by kernel_rfl) (fun _ _ _ h=>h) (Or.inl ⟨by rfl,?yy2⟩) hSd ?rr2
 case yy2=>(intro wq hSq;obtain ⟨_,_,_⟩:=hSq;go_simp<;>with_reducible rfl)
 simp only[kh,kb,kf,ke]
 refine zB2j (i:=3) (oi:=_) (v:=?vv3) (some 10) rfl rfl (by kernel_rfl) (by kernel_rfl) (by kernel_rfl) (by kernel_rfl) (by kernel_rfl) (fun _ _ _ h=>h) (Or.inl ⟨by rfl,?yy3⟩) hSd ?rr3
 case yy3=>(intro wq hSq;obtain ⟨_,_,_⟩:=hSq;go_simp<;>with_reducible rfl)
 simp only[kh,kb,kf,ke]
 refine zB2j (i:=5) (oi:=_) (v:=?vv4) (some 12) rfl rfl (by kernel_rfl) (by kernel_rfl) (by kernel_rfl) (by kernel_rfl) (by kernel_rfl) (fun _ _ _ h=>h) (Or.inl ⟨by rfl,?yy4⟩) hSd ?rr4
 case yy4=>(intro wq hSq;obtain ⟨_,_,_⟩:=hSq;go_simp<;>with_reducible rfl)
 simp only[kh,kb,kf,ke]
 refine zB2j (i:=7) (oi:=_) (v:=?vv5) (some 14) rfl rfl (by kernel_rfl) (by kernel_rfl) (by kernel_rfl) (by kernel_rfl) (by kernel_rfl) (fun _ _ _ h=>h) (Or.inl ⟨by rfl,?yy5⟩) hSd ?rr5
 case yy5=>(intro wq hSq;obtain ⟨_,_,_⟩:=hSq;go_simp<;>with_reducible rfl)
 simp only[kh,kb,kf,ke]
 refine zB2j (i:=8) (oi:=_) (v:=?vv6) (some 15) rfl rfl (by kernel_rfl) (by kernel_rfl) (by kernel_rfl) (by kernel_rfl) (by kernel_rfl) (fun _ _ _ h=>h) (Or.inl ⟨by rfl,?yy6⟩) hSd ?rr6
 case yy6=>(intro wq hSq;obtain ⟨_,_,_⟩:=hSq;go_simp<;>with_reducible rfl)
 simp only[kh,kb,kf,ke]
 refine zB2j (i:=11) (oi:=_) (v:=?vv7) (some 18) rfl rfl (by kernel_rfl) (by kernel_rfl) (by kernel_rfl) (by kernel_rfl) (by kernel_rfl) (fun _ _ _ h=>h) (Or.inl ⟨by rfl,?yy7⟩) hSd ?rr7
 case yy7=>(intro wq hSq;obtain ⟨_,_,_⟩:=hSq;go_simp<;>with_reducible rfl)
 simp only[kh,kb,kf,ke]
 refine zB2j (i:=12) (oi:=_) (v:=?vv8) (some 19) rfl rfl (by kernel_rfl) (by kernel_rfl) (by kernel_rfl) (by kernel_rfl) (by kernel_rfl) (fun _ _ _ h=>h) (Or.inl ⟨by rfl,?yy8⟩) hSd ?rr8
 case yy8=>(intro wq hSq;obtain ⟨_,_,_⟩:=hSq;go_simp<;>with_reducible rfl)
 simp only[kh,kb,kf,ke]
 refine zB2j (i:=1) (oi:=_) (v:=?vv9) (some 8) rfl rfl (by kernel_rfl) (by kernel_rfl) (by kernel_rfl) (by kernel_rfl) (by kernel_rfl) (fun _ _ _ h=>h) (Or.inl ⟨by rfl,?yy9⟩) hSd ?rr9
 case yy9=>(intro wq hSq;obtain ⟨_,_,_⟩:=hSq;go_simp<;>with_reducible rfl)
 simp only[kh,kb,kf,ke]
 refine zB2j (i:=4) (oi:=_) (v:=?vv10) (some 11) rfl rfl (by kernel_rfl) (by kernel_rfl) (by kernel_rfl) (by kernel_rfl) (by kernel_rfl) (fun _ _ _ h=>h) (Or.inl ⟨by rfl,?yy10⟩) hSd ?rr10
 case yy10=>(intro wq hSq;obtain ⟨_,_,_⟩:=hSq;go_simp<;>with_reducible rfl)
 simp only[kh,kb,kf,ke]
 refine zB2j (i:=6) (oi:=_) (v:=?vv11) (some 13) rfl rfl (by kernel_rfl) (by kernel_rfl) (by kernel_rfl) (by kernel_rfl) (by kernel_rfl) (fun _ _ _ h=>h) (Or.inl ⟨by rfl,?yy11⟩) hSd ?rr11
 case yy11=>(intro wq hSq;obtain ⟨_,_,_⟩:=hSq;go_simp<;>with_reducible rfl)
 simp only[kh,kb,kf,ke]
 refine zB2j (i:=9) (oi:=_) (v:=?vv12) (some 16) rfl rfl (by kernel_rfl) (by kernel_rfl) (by kernel_rfl) (by kernel_rfl) (by kernel_rfl) (fun _ _ _ h=>h) (Or.inl ⟨by rfl,?yy12⟩) hSd ?rr12
 case yy12=>(intro wq hSq;obtain ⟨_,_,_⟩:=hSq;go_simp<;>with_reducible rfl)
 simp only[kh,kb,kf,ke]
 refine zB2j (i:=13) (oi:=_) (v:=?vv13) (some 20) rfl rfl (by kernel_rfl) (by kernel_rfl) (by kernel_rfl) (by kernel_rfl) (by kernel_rfl) (fun _ _ _ h=>h) (Or.inl ⟨by rfl,?yy13⟩) hSd ?rr13
 case yy13=>(intro wq hSq;obtain ⟨_,_,_⟩:=hSq;go_simp<;>with_reducible rfl)
 simp only[kh,kb,kf,ke]
 refine zB2j (i:=10) (oi:=_) (v:=?vv14) (some 17) rfl rfl (by kernel_rfl) (by kernel_rfl) (by kernel_rfl) (by kernel_rfl) (by kernel_rfl) (fun _ _ _ h=>h) (Or.inl ⟨by rfl,?yy14⟩) hSd ?rr14
 case yy14=>(intro wq hSq;obtain ⟨_,_,_⟩:=hSq;go_simp<;>with_reducible rfl)
 simp only[kh,kb,kf,ke]
 refine zB2j (i:=14) (oi:=_) (v:=?vv15) (some 21) rfl rfl (by kernel_rfl) (by kernel_rfl) (by kernel_rfl) (by kernel_rfl) (by kernel_rfl) (fun _ _ _ h=>h) (Or.inl ⟨by rfl,?yy15⟩) hSd ?rr15
 case yy15=>(intro wq hSq;obtain ⟨_,_,_⟩:=hSq;go_simp<;>with_reducible rfl)
 simp only[kh,kb,kf,ke]
 refine zB2j (i:=15) (oi:=_) (v:=?vv16) (some 22) rfl rfl (by kernel_rfl) (by kernel_rfl) (by kernel_rfl) (by kernel_rfl) (by kernel_rfl) (fun _ _ _ h=>h) (Or.inl ⟨by rfl,?yy16⟩) hSd ?rr16
 case yy16=>(intro wq hSq;obtain ⟨_,_,_⟩:=hSq;go_simp<;>with_reducible rfl)
 simp only[kh,kb,kf,ke]
 refine zB2j (i:=16) (oi:=_) (v:=?vv17) (some 23) rfl rfl (by kernel_rfl) (by kernel_rfl) (by kernel_rfl) (by kernel_rfl) (by kernel_rfl) (fun _ _ _ h=>h) (Or.inl ⟨by rfl,?yy17⟩) hSd ?rr17
 case yy17=>(intro wq hSq;obtain ⟨_,_,_⟩:=hSq;go_simp<;>with_reducible rfl)
 simp only[kh,kb,kf,ke]
 refine z9gO (o:=_) (by kernel_rfl) rfl (fun K' hK=>?_)
 rw[if_pos (by rfl)]
 go_simp
 refine hK.out _ _ ?_
 clear hK
 refine jFdp (by kernel_rfl) ?_ _
 try simp only[kh]
 have HF:=hide (zHqh HB.out (show w.heap.size≤w.heap.size+1 by omega) (.int .i64 W) (.int .i64 D) (.slice (some ⟨bk,off+A,none⟩) (B-A) (ca-A)))
 go_wp2
 exact bodyPost_ret (v:=.agg #[.int .i64 W,.int .i64 D,.slice (some ⟨bk,off+A,none⟩) (B-A) (ca-A)]) (by simp[results,Tryz.results58,go_sem,z0,z1,z2]) rfl ⟨rfl,HF.out.drew⟩
def zLwc (top rows:Nat) (s:Pt):Bool:=decide ((top:Int)≤s.2∧s.2<(top:Int)+rows)
def qj7y (ls:List Pt) (top rows:Nat):List Pt:=(ls.filter (zLwc top rows)).map fun s=>(s.1,s.2-top)
def zVsj (p:Int):Int:=if p<2 then p+2 else p-2
def j9wH (m:Nat→Int) (k:Nat):Int:=m ((k+2) % 4)
def XXhF (n:Plan) (top:Nat):Plan:={ n with phase:=if top % 2=1 then zVsj n.phase else n.phase,black:=if top % 2=1 then j9wH n.black else n.black }
def XzXJ (n:Plan) (top rows:Nat):Plan:={ XXhF n top with spots:=qj7y n.spots top rows }
theorem xorP (p:Int) (h:0≤p∧p≤3):bits BinOp.xor IntKind.i64 p 2=zVsj p:=by
 rcases (show p=0∨p=1∨p=2∨p=3 by omega) with rfl|rfl|rfl|rfl<;>decide +kernel
abbrev planZ:Array Value:=#[.int .i64 0,.int .i64 0,.int .i64 0,.int .i64 0,.int .i64 0,.int .i64 0,.slice none 0 0,.int .i64 0,.int .i64 0,.int .i64 0,.int .i64 0,.int .i64 0,.int .i64 0,.int .i64 0,.int .i64 0,.int .i64 0,.int .i64 0,.int .i64 0,.int .i64 0,.slice none 0 0,.int .i64 0]
def ptL (t:Pt):List Value:=[.int .i64 t.1,.int .i64 t.2]
def spZ:Value:=.agg #[.int .i64 0,.int .i64 0]
theorem Tryz.infoSpot:(Tryz.prog.info? 97).map (fun i=>(i.zero,i.size,i.bytes))=some (some spZ,2,16):=by kernel_rfl
theorem jn2Z (ls:List Pt):(ls.flatMap ptL).length=ls.length*2:=by
 induction ls with
 | nil=>rfl
 | cons p ls ih=>rw[List.flatMap_cons,List.length_append,ih];simp[ptL];omega
theorem zWQA (ls:List Pt) (j:Nat) (h:j<ls.length):(ls.flatMap ptL)[j*2]?=some (.int .i64 (ptAt ls j).1)∧(ls.flatMap ptL)[j*2+1]?=some (.int .i64 (ptAt ls j).2):=by
 rw[←jU85 ls j h]
 induction ls generalizing j with
 | nil=>simp at h
 | cons p ls ih =>
  cases j with
  | zero=>simp[ptL,List.flatMap_cons]
  | succ j =>
   have h':j<ls.length:=by simpa using h
   have:=ih j h'
   rw[List.flatMap_cons,show (j+1)*2=j*2+2 by omega]
   simp only[ptL,List.cons_append,List.nil_append,List.getElem?_cons_succ,List.getElem_cons_succ]
   exact this
theorem IsPts.own {w:World} {base:Nat} {e:TypeId} {v:Value} {ls:List Pt} (h:w.ownsRow base e 2 v ls.length (ls.flatMap ptL)) (hl:ls.length≤9223372036854775807):IsPts w v ls:=by
 rcases h.2 with ⟨hv,hn⟩|⟨g,cap,cur,hv,_,hg,h1,h2,h3,h4⟩
 ·exact ⟨none,0,by rw[hv,hn],hl,.inl (List.eq_nil_of_length_eq_zero hn)⟩
 ·refine ⟨_,cap,hv,hl,.inr ⟨g,0,rfl,(kd.1 hg).1,fun j hj=>?_⟩⟩
  have key:∀i u,i<ls.length*2→(ls.flatMap ptL)[i]?=some u→w.cell? ⟨g,0+i,none⟩=some u:=fun i u hi hu=>by
   rw[Nat.zero_add,cell_of_row w g i cur _ _ hg]
   rw[←h4,List.getElem?_take_of_lt hi] at hu
   simpa using hu
  obtain ⟨a,b⟩:=zWQA ls j hj
  exact ⟨key _ _ (by omega) a,key _ _ (by omega) b⟩
theorem IsPts.other {w w':World} {v:Value} {ls:List Pt} {k:Nat} (h:IsPts w v ls) (hs:w.heap.size≤w'.heap.size) (hk:∀b,b≠k→w'.heap[b]?=w.heap[b]?) (hne:v.ownBlock≠some k):IsPts w' v ls:=by
 obtain ⟨ao,cap,rfl,hl,h⟩:=h
 refine ⟨ao,cap,rfl,hl,?_⟩
 rcases h with h|⟨b,off,rfl,hlt,hc⟩
 ·exact .inl h
 ·have hb:b≠k:=fun e=>hne (by rw[e];rfl)
  refine .inr ⟨b,off,rfl,Nat.lt_of_lt_of_le hlt hs,fun j hj=>?_⟩
  rw[World.cell?_of_block (a:=⟨b,off+j*2,none⟩) (hk b hb),World.cell?_of_block (a:=⟨b,off+j*2+1,none⟩) (hk b hb)]
  exact hc j hj
theorem zYlv (ls:List Pt) (k:Nat) (hk:k<ls.length) (top rows:Nat):qj7y (ls.take (k+1)) top rows=qj7y (ls.take k) top rows++(if zLwc top rows (ptAt ls k)=true then [((ptAt ls k).1,(ptAt ls k).2-top)] else []):=by
 rw[List.take_succ_eq_append_getElem hk,jU85]
 unfold qj7y
 rw[List.filter_append,List.map_append]
 congr 1
 by_cases h:zLwc top rows (ptAt ls k)=true
 ·rw[if_pos h,List.filter_cons_of_pos h];rfl
 ·rw[if_neg h,List.filter_cons_of_neg h];rfl
theorem zk7I (ls:List Pt) (top rows:Nat):(qj7y ls top rows).length≤ls.length:=by
 unfold qj7y;rw[List.length_map];exact List.length_filter_le _ _
def MvJ (w:World) (n:Plan) (TP R:Nat) (sv cv s:Value) (k:Nat) (wr:World):Prop :=
 wr.ownsRow w.heap.size 97 2 s (qj7y (n.spots.take k) TP R).length ((qj7y (n.spots.take k) TP R).flatMap ptL)∧wr.heap[w.heap.size]?=some (.cells (planA (XXhF n TP) sv cv) 51 (0,0))∧wr.heap[w.heap.size+1]?=some (.cells planZ 51 (0,0))∧Below w.heap.size w wr
theorem MvJ.below {w:World} {n:Plan} {TP R:Nat} {sv cv s:Value} {k:Nat} {wr V:World} (h:MvJ w n TP R sv cv s k wr) (hV:Below wr.heap.size wr V):MvJ w n TP R sv cv s k V :=
 ⟨qw14 h.1 hV,(hV.block _ (kd.1 h.2.1).1).trans h.2.1,(hV.block _ (kd.1 h.2.2.1).1).trans h.2.2.1,h.2.2.2.trans (hV.mono h.2.2.2.size)⟩
theorem jb8q (n:Plan) (sv cv:Value) (TP R:Nat) (hT:TP≤64) (hR:R≤64) (hph:0≤n.phase∧n.phase≤3) (hln:n.spots.length≤64) (hsp:XepW 64 64 n.spots=true) (w:World) (hp:X1uD w n sv cv) :
  Calls Tryz.prog 118 #[.agg (planA n sv cv),.int .i64 TP,.int .i64 R] w fun e w'=>∃rv,e=.returned (.agg (planA (XzXJ n TP R) rv cv))∧X1uD w' (XzXJ n TP R) rv cv∧Below w.heap.size w w':=by
 have HP:=hide hp
 have HSP:=hide hsp
 obtain ⟨⟨lo,lc,rfl,hll,hlc⟩,⟨ko,kc,rfl,hkl,_⟩⟩:=hp
 have HC:=hide (fun j hj=>IsPts.at ⟨lo,lc,rfl,hll,hlc⟩ j hj)
 clear hlc hsp
 obtain ⟨a1,a2⟩:=al2 w (ka (planA n (.slice lo n.spots.length lc) (.slice ko n.curve.length kc)) 51) (ka planZ 51)
 have HB:=hide (be2 w (ka (planA n (.slice lo n.spots.length lc) (.slice ko n.curve.length kc)) 51) (ka planZ 51))
 obtain ⟨r,hr⟩:∃r,TP % 2=r:=⟨_,rfl⟩
 have hrm:(TP:Int) % 2=(r:Int):=by rw[←hr];rfl
 have HRR:=hide hr
 have hr2:r<2:=by omega
 clear hr
 have hx:=xorP n.phase hph
 go_enter Tryz.func118,Tryz.ntmps118
 go_upto_if 12 with fail
 have hl1:=(kd.1 a1).1
 have hl2:=(kd.1 a2).1
 generalize (w.alloc (ka (planA n (.slice lo n.spots.length lc) (.slice ko n.curve.length kc)) 51)).alloc (ka planZ 51)=U at *
 go_cut [3] from 10 (fun s v=>s=.pointer (some ⟨w.heap.size,0,none⟩)∧v.heap[w.heap.size]?=some (.cells (planA (XXhF n TP) (.slice lo n.spots.length lc) (.slice ko n.curve.length kc)) 51 (0,0))∧v.heap[w.heap.size+1]?=some (.cells planZ 51 (0,0))∧Below w.heap.size w v)
 case first =>
  rcases (show r=0∨r=1 by omega) with rfl|rfl
  ·go_wp2
   go_meet
   case rel =>
    refine ⟨rfl,?_,a2,HB.out⟩
    rw[show planA (XXhF n TP) (.slice lo n.spots.length lc) (.slice ko n.curve.length kc)=planA n (.slice lo n.spots.length lc) (.slice ko n.curve.length kc) by simp[XXhF,HRR.out]]
    exact a1
  ·obtain ⟨c0,c1,c2,c3,c4,c5,c6,c7,c8,c9,c10,c11,c12,c13,c14,c15,c16,c17,c18,c19,c20⟩:=qH9I a1
   have e1:=heap_setCell_same U w.heap.size 0 _ _ (.int .i64 (zVsj n.phase)) a1
   have f0:=kg a1 0
   have f1:=kg a1 1
   have f2:=kg a1 2
   have f3:=kg a1 3
   have f4:=kg a1 4
   go_wp2
   go_meet
   case rel =>
    refine ⟨rfl,?_,?_,?_⟩
    ·have e2:=heap_setCell_same _ w.heap.size 1 _ _ (.int .i64 (n.black 2)) e1
     have e3:=heap_setCell_same _ w.heap.size 2 _ _ (.int .i64 (n.black 3)) e2
     have e4:=heap_setCell_same _ w.heap.size 3 _ _ (.int .i64 (n.black 0)) e3
     have e5:=heap_setCell_same _ w.heap.size 4 _ _ (.int .i64 (n.black 1)) e4
     rw[e5]
     simp[XXhF,HRR.out,j9wH]
    ·rw[kk _ _ _ _ (show w.heap.size+1≠w.heap.size by omega),kk _ _ _ _ (show w.heap.size+1≠w.heap.size by omega),kk _ _ _ _ (show w.heap.size+1≠w.heap.size by omega),kk _ _ _ _ (show w.heap.size+1≠w.heap.size by omega),kk _ _ _ _ (show w.heap.size+1≠w.heap.size by omega)]
     exact a2
    ·exact ((((HB.out.setCell (p:=⟨w.heap.size,0,none⟩) (ki _) _).setCell (p:=⟨w.heap.size,1,none⟩) (ki _) _).setCell (p:=⟨w.heap.size,2,none⟩) (ki _) _).setCell (p:=⟨w.heap.size,3,none⟩) (ki _) _).setCell (p:=⟨w.heap.size,4,none⟩) (ki _) _
 case rest =>
  obtain ⟨rfl,b1,b2,hbc⟩:=hcut
  obtain ⟨i0,hi,hz0,hz1,hz2⟩:=info_parts Tryz.infoSpot
  obtain ⟨_,_,_,_,_,_,c6,_⟩:=qH9I b1
  have HM0:=hide (show MvJ w n TP R (.slice lo n.spots.length lc) (.slice ko n.curve.length kc) (.slice none 0 0) 0 wc from ⟨World.ownsRow_nil _ _ _ _,b1,b2,hbc⟩)
  clear b1 b2 hbc hx
  go_wp2_with fail
  clear c6
  go_loopw [7,34] (fun s i wr=>∃k:Nat,k≤n.spots.length∧i=.int .i64 k∧MvJ w n TP R (.slice lo n.spots.length lc) (.slice ko n.curve.length kc) s k wr) (fun _ i _=>n.spots.length-(intOf i).toNat)
  case atStart=>exact ⟨0,kl _,rfl,HM0.out⟩
  case round =>
   clear HM0
   obtain ⟨k,hk,rfl,hJ⟩:=hrel
   by_cases hlt:k<n.spots.length
   ·have hd:decide ((k:Int)<(n.spots.length:Int))=true:=by simp;omega
    obtain ⟨bq,oq,rfl,hbq,e0,e1⟩:=HC.out k hlt
    have d0:=(hJ.2.2.2.cell (p:=⟨bq,oq+k*2,none⟩) hbq).trans e0
    have d1:=(hJ.2.2.2.cell (p:=⟨bq,oq+k*2+1,none⟩) hbq).trans e1
    have HSN:=hide (zYlv n.spots k hlt TP R)
    have hsb:=zKbH HSP.out k hlt
    obtain ⟨⟨x,y⟩,hxy⟩:∃p,ptAt n.spots k=p:=⟨_,rfl⟩
    rw[hxy] at d0 d1 HSN hsb
    simp only at d0 d1 HSN hsb
    have hxr:0≤x∧x<64∧0≤y∧y<64:=by simpa [hasB] using hsb
    obtain ⟨hx0,hx1,hy0,hy1⟩:=hxr
    clear hxy e0 e1 hsb
    have a5:=al1 wr (ka #[.int .i64 x,.int .i64 y] 97)
    obtain ⟨s0,s1⟩:=bx2 a5
    have HJ1:=hide (hJ.below (qUNz wr (ka #[.int .i64 x,.int .i64 y] 97)))
    by_cases hin:(TP:Int)≤y∧y<(TP:Int)+R
    ·have hin1:zLwc TP R (x,y)=true:=decide_eq_true hin
     rw[if_pos hin1] at HSN
     have hg1:decide ((TP:Int)≤y)=true:=by simpa using hin.1
     have hg2:decide (y<(TP:Int)+(R:Int))=true:=by simpa using hin.2
     have hwy:IntKind.i64.wrap (y-(TP:Int))=y-(TP:Int):=kj _ (by omega)
     have HJ2:=hide (HJ1.out.below (qUNz _ (ka #[.int .i64 x,.int .i64 (y-TP)] 97)))
     have hml:=zk7I (n.spots.take k) TP R
     have htl:=List.length_take_le k n.spots
     obtain ⟨XS,hXS⟩:∃XS,qj7y (n.spots.take k) TP R=XS:=⟨_,rfl⟩
     have HXS:=hide hXS
     have HOW:=hide HJ2.out.1
     rw[hXS] at hml HOW
     clear hXS hJ HJ1
     have hnb:=(al2 wr (ka #[.int .i64 x,.int .i64 y] 97) (ka #[.int .i64 x,.int .i64 (y-TP)] 97)).2
     go_wp2_with (at_builtin;refine wpList_append_own _ rfl _ _ 46 rfl w.heap.size 97 i0 spZ 2 16 Tryz.underlying46 hi hz0 hz1 hz2 rfl (by omega) _ XS.length (XS.flatMap ptL) rfl HOW.out ⟨wr.heap.size+1,0,none⟩ 1 1 [.int .i64 x,.int .i64 (y-TP)] rfl ?qc1 ?qc2 ?qc3 ?qc4 ?qc5 ?qc6 ?_)
     case qc1=>rfl
     case qc2=>exact World.news_of_block hnb
     case qc3=>exact fun u hu=>by simp at hu;rcases hu with rfl|rfl<;>rfl
     case qc4=>unfold maxLen;omega
     case qc5=>omega
     case qc6=>have:=HJ2.out.2.2.2.size;exact this
     intro v' w1 hown hgrow hnil
     have HJ3:=hide (show MvJ w n TP R (.slice (some ⟨bq,oq,none⟩) n.spots.length lc) (.slice ko n.curve.length kc) v' (k+1) w1 from by
      obtain ⟨o1,o2,o3,o4⟩:=HJ2.out
      rw[HXS.out] at o1
      refine ⟨?_,?_,?_,?_⟩
      ·rw[HSN.out,HXS.out,List.length_append,List.flatMap_append]
       exact hown
      ·exact (hgrow.block _ (kd.1 o2).1 (qYYy o1 o2 (by decide))).trans o2
      ·exact (hgrow.block _ (kd.1 o3).1 (qYYy o1 o3 (by decide))).trans o3
      ·exact o4.grown hgrow o4.size (fun j hj=>(o1.lt j hj).1))
     go_wp2
     go_roundw
     case rel=>exact ⟨k+1,by omega,by go_num,HJ3.out⟩
     case measure=>simp[intOf];omega
    ·have hin1:¬zLwc TP R (x,y)=true:=fun h=>hin (of_decide_eq_true h)
     rw[if_neg hin1,List.append_nil] at HSN
     have HJ3:=hide (show MvJ w n TP R (.slice (some ⟨bq,oq,none⟩) n.spots.length lc) (.slice ko n.curve.length kc) u7 (k+1) (wr.alloc (ka #[.int .i64 x,.int .i64 y] 97)) from by
      obtain ⟨o1,o2,o3,o4⟩:=HJ1.out
      exact ⟨by rw[HSN.out];exact o1,o2,o3,o4⟩)
     clear hJ HJ1
     rcases (show ¬(TP:Int)≤y∨((TP:Int)≤y∧¬y<(TP:Int)+R) by omega) with hc|hc
     ·have hg1:decide ((TP:Int)≤y)=false:=by simpa using hc
      go_wp2
      go_roundw
      case rel=>exact ⟨k+1,by omega,by go_num,HJ3.out⟩
      case measure=>simp[intOf];omega
     ·have hg1:decide ((TP:Int)≤y)=true:=by simpa using hc.1
      have hg2:decide (y<(TP:Int)+(R:Int))=false:=by simpa using hc.2
      go_wp2
      go_roundw
      case rel=>exact ⟨k+1,by omega,by go_num,HJ3.out⟩
      case measure=>simp[intOf];omega
   ·have hd:decide ((k:Int)<(n.spots.length:Int))=false:=by simp;omega
    have hkl:k=n.spots.length:=by omega
    subst hkl
    obtain ⟨o1,o2,o3,o4⟩:=hJ
    rw[List.take_length] at o1
    have hml:=zk7I n.spots TP R
    have hpts:IsPts wr u7 (qj7y n.spots TP R):=IsPts.own o1 (by omega)
    have HPT:=hide hpts
    obtain ⟨so,sc,rfl,x1,x2⟩:=hpts
    clear x1 x2
    obtain ⟨N,hN⟩:∃N,(qj7y n.spots TP R).length=N:=⟨_,rfl⟩
    rw[hN] at o1 HPT ⊢
    clear hN
    obtain ⟨_,_,_,_,_,_,c6,_⟩:=qH9I o2
    have f6:=kg o2 6
    have e6:(wr.setCell ⟨w.heap.size,6,none⟩ (.slice so N sc)).heap[w.heap.size]?=some (.cells (planA (XzXJ n TP R) (.slice so N sc) (.slice ko n.curve.length kc)) 51 (0,0)):=(heap_setCell_same wr w.heap.size 6 _ _ (.slice so N sc) o2).trans rfl
    have g1:(wr.setCell ⟨w.heap.size,6,none⟩ (.slice so N sc)).heap[w.heap.size+1]?=some (.cells planZ 51 (0,0)):=(kk _ _ _ _ (show w.heap.size+1≠w.heap.size by omega)).trans o3
    have i1:(Tryz.prog.info? 51).map (·.size)=some (planA (XzXJ n TP R) (.slice so N sc) (.slice ko n.curve.length kc)).size:=by kernel_rfl
    have i3:(planA (XzXJ n TP R) (.slice so N sc) (.slice ko n.curve.length kc)).all (·.oneCell')=true:=by simp[Value.oneCell']
    have hne1:(Value.slice so N sc).ownBlock≠some w.heap.size:=fun e=>qYYy o1 o2 (by decide) e.symm
    have hne2:(Value.slice so N sc).ownBlock≠some (w.heap.size+1):=fun e=>qYYy o1 o3 (by decide) e.symm
    have HX:=hide ((HPT.out.other (k:=w.heap.size) (w':=wr.setCell ⟨w.heap.size,6,none⟩ (.slice so N sc)) (by simp[World.setCell]) (fun b hb=>kk _ _ _ _ hb) hne1).other (k:=w.heap.size+1) (w':=(wr.setCell ⟨w.heap.size,6,none⟩ (.slice so N sc)).setRow (w.heap.size+1) (planA (XzXJ n TP R) (.slice so N sc) (.slice ko n.curve.length kc))) (by simp) (fun b hb=>setRow_other _ _ _ _ hb) hne2)
    have HF:=hide (below_setRow (g:=w.heap.size+1) (o4.setCell (p:=⟨w.heap.size,6,none⟩) (ki _) (.slice so N sc)) (by omega) (planA (XzXJ n TP R) (.slice so N sc) (.slice ko n.curve.length kc)))
    have HG:=hide (setRow_heap _ _ _ (planA (XzXJ n TP R) (.slice so N sc) (.slice ko n.curve.length kc)) _ _ g1)
    clear o1 o3 hne1 hne2
    go_wp2_with (first|refine wpList_load_row rfl 51 _ rfl _ rfl _ _ _ _ e6 Tryz.underlying51 rfl (by kernel_rfl) ?_|refine wpList_store_row rfl 51 _ _ rfl (w.heap.size+1) (planA (XzXJ n TP R) (.slice so N sc) (.slice ko n.curve.length kc)) rfl rfl _ _ g1 i1 rfl i3 ?_)
    refine bodyPost_ret (v:=.agg (planA (XzXJ n TP R) (.slice so N sc) (.slice ko n.curve.length kc))) (results_cell_row Tryz.results118 _ _ _ _ _ _ _ rfl HG.out Tryz.underlying51 rfl (by kernel_rfl)) rfl ⟨_,rfl,⟨HX.out,HP.out.curve.below HF.out (ki _)⟩,HF.out⟩
abbrev qQNe (cv:Value):Array Value:=#[.int .i64 0,.int .i64 0,.int .i64 0,.int .i64 0,.int .i64 0,.int .i64 65535,.slice none 0 0,.int .i64 256,.int .i64 256,.int .i64 256,.int .i64 4096,.int .i64 0,.int .i64 0,.int .i64 0,.int .i64 4096,.int .i64 0,.int .i64 0,.int .i64 0,.int .i64 4096,cv,.int .i64 64]
theorem XZoI (w:World):Calls Tryz.prog 145 #[] w fun e w'=>∃v,e=.returned v∧IsPts w' v [(0,0),(65535,65535)]∧Below w.heap.size w w'∧Fresh w.heap.size v:=by
 go_enter Tryz.func145,Tryz.ntmps145
 go_wp2
 go_ret
 refine ⟨_,rfl,znBh w [(0,0),(65535,65535)] _ _ 2 rfl (fun j hj=>?_) (by omega),qUNz _ _,fun b e=>?_,ki _⟩
 ·rcases (show j=0∨j=1 by omega) with rfl|rfl<;>exact ⟨rfl,rfl⟩
 ·cases e
  exact ki _
theorem zcoU (w:World):Calls Tryz.prog 91 #[] w fun e w'=>∃cv,e=.returned (.agg (qQNe cv))∧X1uD w' jkrq (.slice none 0 0) cv∧Below w.heap.size w w':=by
 have a1:=al1 w (ka planZ 51)
 have hl:=(kd.1 a1).1
 have HB:=hide (qUNz w (ka planZ 51))
 go_enter Tryz.func91,Tryz.ntmps91
 go_wp2_with fail
 refine (XZoI _).mono ?_
 rintro e w1 ⟨v,rfl,hv,hb,hfr⟩
 have g1:=(hb.block _ hl).trans a1
 have hB:=quJN HB.out hb
 have HV:=hide hv
 obtain ⟨co,cc,rfl,x1,x2⟩:=hv
 clear x1 x2
 have i1:(Tryz.prog.info? 51).map (·.size)=some (qQNe (.slice co 2 cc)).size:=by kernel_rfl
 have i3:(qQNe (.slice co 2 cc)).all (·.oneCell')=true:=by simp[Value.oneCell']
 have HX:=hide (HV.out.other (k:=w.heap.size) (w':=w1.setRow w.heap.size (qQNe (.slice co 2 cc))) (by simp) (fun b hb=>setRow_other _ _ _ _ hb) (hfr.ne hl))
 have HF:=hide (below_setRow (g:=w.heap.size) hB (ki _) (qQNe (.slice co 2 cc)))
 have HG:=hide (setRow_heap _ _ _ (qQNe (.slice co 2 cc)) _ _ g1)
 go_wp2_with (refine wpList_store_row rfl 51 _ _ rfl w.heap.size (qQNe (.slice co 2 cc)) rfl rfl _ _ g1 i1 rfl i3 ?_)
 refine bodyPost_ret (v:=.agg (qQNe (.slice co 2 cc))) (results_cell_row Tryz.results91 _ _ _ _ _ _ _ rfl HG.out Tryz.underlying51 rfl (by kernel_rfl)) rfl ⟨_,rfl,⟨⟨none,0,rfl,by decide,.inl rfl⟩,HX.out⟩,HF.out⟩
end Go.Proofs.YtfjeonehdlphiaaGreatDoor
