/- Sh: part 3 of what the proofs need. -/
import Derived.Test.YtfjeonehdlphiaaGreatDoorC1Sh
import Derived.Test.YtfjeonehdlphiaaGreatDoorC2Sh
import Derived.Deep.Cut
import Derived.Laws.CopyOwn
import Derived.Lib.SliceRun
import Derived.Lib.Walk
import Derived.Defers
import Derived.Recover
import Derived.Laws.Pointers
import Derived.Lib.Builder
import Derived.Deep.CutRange
import Derived.Lib.UnsafeStr
namespace Go.Proofs.YtfjeonehdlphiaaGreatDoor
open Go.RowKit Go.Shelf
attribute [local go_sem] Oper.semAt_some
def nOf (k:Nat):Nat:=if k<4 then k else k+1
def posOf (n:Nat):Nat:=if n≤4 then n else n-1
theorem zMht (n:Nat) (h:n≠4):posOf (n+1)=posOf n+1:=by unfold posOf;split<;>split<;>omega
theorem qYaj (n:Nat) (h:n≠4):nOf (posOf n)=n:=by unfold nOf posOf;split<;>split<;>omega
theorem z1dO (n:Nat) (h:n<9):posOf n<8:=by unfold posOf;split<;>omega
theorem zJHU (F:Fence) (n:Nat) (hf:F.fn 128) (hro:F.round=none) (X Y:Int) (w:World) :
  CallsIn F n Tryz.prog 128 #[.agg #[.int .i64 X,.int .i64 Y]] w fun e w'=>e=.returned (.func (.func 184) #[] #[.pointer (some ⟨w.heap.size,0,none⟩)])∧w'=w.alloc (.cells #[.int .i64 X,.int .i64 Y] 97):=by
 refine callsIn_of_wp Tryz.func128 rfl hf ?_ hro
 simp only[Tryz.ntmps128,List.size_toArray,List.length_cons,List.length_nil,Nat.reduceAdd,Nat.reduceSub,Array.replicate_succ,Array.replicate_zero,List.push_toArray,List.append_toArray,List.nil_append,List.cons_append]
 gi_wp2
 go_ret
 exact ⟨rfl,rfl⟩
set_option maxRecDepth 100000 in
set_option maxHeartbeats 1600000 in
theorem XdxO (F:Fence) (n:Nat) (hf:F.fn 184) (hro:F.round=none) (hn:1≤n) (l Bs X Y:Nat) (hX:X≤64) (hY0:Y≤64) (J Jx:List (Fin 8)→World→Prop) (hJa:∀s W o,J s W→J s (W.alloc o))
  (hY:∀pre (x:Fin 8) V,J pre V→pre.length<8→YieldAt F (n-1) Tryz.prog l #[.agg #[.int .i64 ((X:Int)-1+(nOf x.1 % 3:Nat)),.int .i64 ((Y:Int)-1+(nOf x.1 / 3:Nat))]] V fun e V' =>
   (e=.returned (.bool true)∧J (pre++[x]) V'∧KeepB Bs V V')∨(e=.returned (.bool false)∧Jx (pre++[x]) V'))
  (V:World) (hc0:V.cell? ⟨Bs,0,none⟩=some (.int .i64 X)) (hc1:V.cell? ⟨Bs,1,none⟩=some (.int .i64 Y)) (h0:J [] V) :
  CallsIn F n Tryz.prog 184 #[.func (.yield l) #[] #[],.pointer (some ⟨Bs,0,none⟩)] V fun e V'=>(∃v,e=.returned v) ∧
   ((∃ys,ys=List.finRange 8∧J ys V')∨(∃pre,pre <+: List.finRange 8∧Jx pre V')):=by
 refine callsIn_of_wp Tryz.func184 rfl hf ?_ hro
 simp only[Tryz.ntmps184,List.size_toArray,List.length_cons,List.length_nil,Nat.reduceAdd,Nat.reduceSub,Array.replicate_succ,Array.replicate_zero,List.push_toArray,List.append_toArray,List.nil_append,List.cons_append]
 gi_wp2
 gi_loopw [3] (fun i wr=>∃(b:Nat) (yb:Int),b≤3∧Hid (yb=(Y:Int)-1+(b:Nat))∧i=.int .i64 yb∧J (idx 8 (posOf (3*b))) wr∧wr.cell? ⟨Bs,0,none⟩=some (.int .i64 X)∧wr.cell? ⟨Bs,1,none⟩=some (.int .i64 Y)) (fun i _=>((Y:Int)+2-intOf i).toNat)
 case atStart=>exact ⟨0,(Y:Int)-1,by omega,hide (by simp),rfl,h0,hc0,hc1⟩
 case round =>
  obtain ⟨b,yb,hb,HYB,rfl,hJ,c0,c1⟩:=hrel
  clear hc0 hc1 h0
  by_cases hlt:b<3
  ·have hd:decide (yb≤(Y:Int)+1)=true:=by have:=HYB.out;simp;omega
   have hyb0:-1≤yb∧yb≤66:=by have:=HYB.out;omega
   obtain ⟨hyb0,hyb1⟩:=hyb0
   gi_wp2
   gi_loopw [4] (fun i wr=>∃(a:Nat) (xa:Int),a≤3∧Hid (xa=(X:Int)-1+(a:Nat))∧i=.int .i64 xa∧J (idx 8 (posOf (3*b+a))) wr∧wr.cell? ⟨Bs,0,none⟩=some (.int .i64 X)∧wr.cell? ⟨Bs,1,none⟩=some (.int .i64 Y)) (fun i _=>((X:Int)+2-intOf i).toNat)
   case atStart=>exact ⟨0,(X:Int)-1,by omega,hide (by simp),rfl,hJ,c0,c1⟩
   case round =>
    clear hJ c0 c1
    obtain ⟨a,xa,ha,HXA,rfl,hJ,c0,c1⟩:=hrel
    have hbs:Bs<wr.heap.size:=World.block_lt_of_cell? wr _ c0
    have hxa0:-1≤xa∧xa≤66:=by have:=HXA.out;omega
    obtain ⟨hxa0,hxa1⟩:=hxa0
    by_cases hal:a<3
    ·have hd2:decide (xa≤(X:Int)+1)=true:=by have:=HXA.out;simp;omega
     have k0:=(World.cell?_of_block (a:=⟨Bs,0,none⟩) (Below.heap_alloc wr (Obj.cells #[.int .i64 xa,.int .i64 yb] 97) Bs hbs)).trans c0
     have k1:=(World.cell?_of_block (a:=⟨Bs,1,none⟩) (Below.heap_alloc wr (Obj.cells #[.int .i64 xa,.int .i64 yb] 97) Bs hbs)).trans c1
     have HNX:=hide (show xa+1=(X:Int)-1+((a+1:Nat):Int) by have:=HXA.out;omega)
     have hms:((X:Int)+2-(xa+1)).toNat<((X:Int)+2-xa).toNat:=by have:=HXA.out;omega
     by_cases hcen:a=1∧b=1
     ·obtain rfl:xa=(X:Int):=by have:=HXA.out;omega
      obtain rfl:yb=(Y:Int):=by have:=HYB.out;omega
      have HP:=hide (show posOf (3*b+(a+1))=posOf (3*b+a) by rw[hcen.1,hcen.2];rfl)
      clear hcen
      gi_wp2
      refine ⟨fun _ h=>(by cases h),?_⟩
      gi_wp2
      go_roundw
      case rel=>exact ⟨a+1,_,by omega,HNX,rfl,by rw[HP.out];exact hJa _ _ _ hJ,k0,k1⟩
      case measure=>simpa [intOf] using hms
     ·have hn4:3*b+a≠4:=by omega
      have hplt:=z1dO (3*b+a) (by omega)
      have hYx:=hY (idx 8 (posOf (3*b+a))) ⟨posOf (3*b+a),hplt⟩ (wr.alloc (Obj.cells #[.int .i64 xa,.int .i64 yb] 97)) (hJa _ _ _ hJ) (by rw[zBZc _ _ (Nat.le_of_lt hplt)];exact hplt)
      simp only[qYaj (3*b+a) hn4,show (3*b+a) % 3=a by omega,show (3*b+a) / 3=b by omega] at hYx
      rw[←HXA.out,←HYB.out] at hYx
      obtain ⟨fn,tmps,assign,body,hy',hR⟩:=hYx
      have HSP:=hide (show idx 8 (posOf (3*b+(a+1)))=idx 8 (posOf (3*b+a))++[⟨posOf (3*b+a),hplt⟩] by
       rw[←zbJt 8 _ hplt,←zMht _ hn4];rfl)
      have HPR:=hide (show idx 8 (posOf (3*b+a))++[⟨posOf (3*b+a),hplt⟩] <+: List.finRange 8 by
       rw[←zbJt 8 _ hplt];exact zq3o 8 _)
      have hor:(¬xa=(X:Int))∨(xa=(X:Int)∧¬yb=(Y:Int)):=by have:=HXA.out;have:=HYB.out;omega
      clear hn4
      rcases hor with hxa|⟨hxa,hyb⟩
      ·gi_wp2
       refine hR.mono ?_
       rintro e V3 (⟨rfl,hJ3,hk3⟩|⟨rfl,hJx3⟩)
       ·have c3:=(World.cell?_of_block (a:=⟨Bs,0,none⟩) hk3).trans k0
        have c4:=(World.cell?_of_block (a:=⟨Bs,1,none⟩) hk3).trans k1
        rw[←HSP.out] at hJ3
        gi_wp2
        go_roundw
        case rel=>exact ⟨a+1,_,by omega,HNX,rfl,hJ3,c3,c4⟩
        case measure=>simpa [intOf] using hms
       ·gi_wp2
        refine bodyPost_ret (results_none rfl _ _ _) rfl ?_
        exact ⟨⟨_,rfl⟩,.inr ⟨_,HPR.out,hJx3⟩⟩
      ·subst hxa
       gi_wp2
       refine hR.mono ?_
       rintro e V3 (⟨rfl,hJ3,hk3⟩|⟨rfl,hJx3⟩)
       ·have c3:=(World.cell?_of_block (a:=⟨Bs,0,none⟩) hk3).trans k0
        have c4:=(World.cell?_of_block (a:=⟨Bs,1,none⟩) hk3).trans k1
        rw[←HSP.out] at hJ3
        gi_wp2
        go_roundw
        case rel=>exact ⟨a+1,_,by omega,HNX,rfl,hJ3,c3,c4⟩
        case measure=>simpa [intOf] using hms
       ·gi_wp2
        refine bodyPost_ret (results_none rfl _ _ _) rfl ?_
        exact ⟨⟨_,rfl⟩,.inr ⟨_,HPR.out,hJx3⟩⟩
    ·have hd2:decide (xa≤(X:Int)+1)=false:=by have:=HXA.out;simp;omega
     obtain rfl:a=3:=by omega
     have HNY:=hide (show yb+1=(Y:Int)-1+((b+1:Nat):Int) by have:=HYB.out;omega)
     have hms:((Y:Int)+2-(yb+1)).toNat<((Y:Int)+2-yb).toNat:=by have:=HYB.out;omega
     gi_wp2
     go_roundw
     case rel=>exact ⟨b+1,_,by omega,HNY,rfl,hJ,c0,c1⟩
     case measure=>simpa [intOf] using hms
  ·obtain rfl:b=3:=by omega
   have hd:decide (yb≤(Y:Int)+1)=false:=by have:=HYB.out;simp;omega
   gi_wp2
   go_end0
   exact ⟨⟨_,rfl⟩,.inl ⟨_,by rw[←jEoj];rfl,hJ⟩⟩
theorem jMfn (F:Fence) (n:Nat) (hf:F.fn 184) (hro:F.round=none) (hn:1≤n) (Bs X Y:Nat) (hX:X≤64) (hY0:Y≤64) (w:World) (hBw:Bs<w.heap.size)
  (hc0:w.cell? ⟨Bs,0,none⟩=some (.int .i64 X)) (hc1:w.cell? ⟨Bs,1,none⟩=some (.int .i64 Y)) :
  SeqStopsK F n Tryz.prog 184 #[.pointer (some ⟨Bs,0,none⟩)] (fun x:Fin 8=>#[Value.agg #[.int .i64 ((X:Int)-1+(nOf x.1 % 3:Nat)),.int .i64 ((Y:Int)-1+(nOf x.1 / 3:Nat))]]) (KeepB Bs) (fun ys=>ys=List.finRange 8) (fun pre=>pre <+: List.finRange 8) 8 w:=fun l J Jx V hV hJ _ hY h0 =>
 XdxO F n hf hro hn l Bs X Y hX hY0 J Jx (fun s W o h=>hJ s W (W.alloc o) none h (World.grownBy_alloc W o none) (fun r e=>by cases e)) hY V ((hV.cell (p:=⟨Bs,0,none⟩) hBw).trans hc0) ((hV.cell (p:=⟨Bs,1,none⟩) hBw).trans hc1) h0
end Go.Proofs.YtfjeonehdlphiaaGreatDoor

namespace Go.Proofs.YtfjeonehdlphiaaGreatDoor
open Go.RowKit
def pxAt (ps:List Px) (j:Nat):Px:=ps.getD j (0,0,0)
theorem jD3W (ps:List Px) (i:Nat) (h:i<ps.length):ps[i]=pxAt ps i:=by simp[pxAt,List.getD_eq_getElem?_getD,List.getElem?_eq_getElem h]
theorem z1DB {ps:List Px} (h:pxsOk ps=true) (j:Nat):pxOk (pxAt ps j)=true:=by
 by_cases hj:j<ps.length
 ·rw[←jD3W ps j hj];exact List.all_eq_true.1 h _ (List.getElem_mem hj)
 ·rw[pxAt,List.getD_eq_getElem?_getD,List.getElem?_eq_none (by omega)];rfl
def wIx (W H X Y:Nat) (k:Nat):Nat:=(near H ((Y:Int)-1+(nOf k / 3:Nat))).toNat*W+(near W ((X:Int)-1+(nOf k % 3:Nat))).toNat
def wWt (k:Nat):Int:=if nOf k % 3=1∨nOf k / 3=1 then 2 else 1
def wF (ps:List Px) (W H X Y:Nat) (pre:List (Fin 8)):Px:=pre.foldl (fun s x=>addP s (wWt x.1) (pxAt ps (wIx W H X Y x.1))) (addP (0,0,0) 4 (pxAt ps (Y*W+X)))
theorem zYcT (ps:List Px) (W H X Y:Nat) (pre:List (Fin 8)) (x:Fin 8):wF ps W H X Y (pre++[x])=addP (wF ps W H X Y pre) (wWt x.1) (pxAt ps (wIx W H X Y x.1)):=by simp[wF]
theorem XW1U (k:Nat):0≤wWt k∧wWt k≤2:=by unfold wWt;split<;>omega
theorem zVA9 {m n:Int} {s p:Px} {k:Int} (hs:X9Co m s) (hp:pxOk p=true) (h0:0≤k) (h1:k≤n):X9Co (m+n) (addP s k p):=by
 obtain ⟨⟨r1,r2⟩,⟨g1,g2⟩,u1,u2⟩:=(X1aR p).1 hp
 obtain ⟨⟨s1,s2⟩,⟨s3,s4⟩,s5,s6⟩:=hs
 obtain ⟨m1,m2⟩:=qpn3 h0 h1 r1 r2
 obtain ⟨m3,m4⟩:=qpn3 h0 h1 g1 g2
 obtain ⟨m5,m6⟩:=qpn3 h0 h1 u1 u2
 have e:(m+n)*65535=m*65535+n*65535:=Int.add_mul _ _ _
 refine ⟨⟨?_,?_⟩,⟨?_,?_⟩,?_,?_⟩<;>(simp only[addP];omega)
theorem qa6R {ps:List Px} (h:pxsOk ps=true) (W H X Y:Nat) (pre:List (Fin 8)) (m:Int) (s:Px) (hs:X9Co m s):X9Co (m+2*(pre.length:Int)) (pre.foldl (fun s x=>addP s (wWt x.1) (pxAt ps (wIx W H X Y x.1))) s):=by
 induction pre generalizing m s with
 | nil=>simpa using hs
 | cons x pre ih =>
  have:=ih (m+2) _ (zVA9 hs (z1DB h (wIx W H X Y x.1)) (XW1U x.1).1 (XW1U x.1).2)
  rw[show (m+2)+2*(pre.length:Int)=m+2*((x::pre).length:Int) by simp;omega] at this
  exact this
theorem jdoM {ps:List Px} (h:pxsOk ps=true) (W H X Y:Nat) (pre:List (Fin 8)):X9Co (4+2*(pre.length:Int)) (wF ps W H X Y pre) :=
 qa6R h W H X Y pre 4 _ (zVA9 (m:=0) (n:=4) (s:=(0,0,0)) (k:=4) ⟨⟨by decide,by decide⟩,⟨by decide,by decide⟩,by decide,by decide⟩ (z1DB h (Y*W+X)) (by omega) (by omega))
theorem qf9w {m n:Int} {p:Px} (h:X9Co m p) (hm:m≤n):X9Co n p:=by
 obtain ⟨⟨s1,s2⟩,⟨s3,s4⟩,s5,s6⟩:=h
 refine ⟨⟨s1,?_⟩,⟨s3,?_⟩,s5,?_⟩<;>omega
theorem wIx_lt {W H:Nat} (hW:1≤W) (hH:1≤H) (X Y k:Nat):wIx W H X Y k<H*W:=by
 obtain ⟨a1,a2⟩:=Xxtr H ((Y:Int)-1+(nOf k / 3:Nat)) (by omega)
 obtain ⟨b1,b2⟩:=Xxtr W ((X:Int)-1+(nOf k % 3:Nat)) (by omega)
 unfold wIx
 generalize near H ((Y:Int)-1+(nOf k / 3:Nat))=a at *
 generalize near W ((X:Int)-1+(nOf k % 3:Nat))=b at *
 obtain ⟨A,rfl⟩:=Int.eq_ofNat_of_zero_le a1
 obtain ⟨B,rfl⟩:=Int.eq_ofNat_of_zero_le b1
 simp only[Int.toNat_natCast]
 have h1:(A+1)*W≤H*W:=Nat.mul_le_mul_right _ (by omega)
 rw[Nat.succ_mul] at h1
 omega
end Go.Proofs.YtfjeonehdlphiaaGreatDoor

namespace Go.Proofs.YtfjeonehdlphiaaGreatDoor
set_option linter.unusedVariables false
open Go.RowKit
def rowsL {α:Type} (xs:List α) (W top many:Nat):List α:=(xs.drop (top*W)).take (many*W)
set_option maxRecDepth 100000 in
theorem j9sy (b off n c:Nat) (ps:List Px) (w:World) (hn:ps.length=n) (hb:b<w.heap.size) (h4:n≤4096) (h1:1≤n)
  (hc:∀j,j<n→w.cell? ⟨b,off+j*3,none⟩=some (.int .i64 (pxAt ps j).1)∧w.cell? ⟨b,off+j*3+1,none⟩=some (.int .i64 (pxAt ps j).2.1)∧w.cell? ⟨b,off+j*3+2,none⟩=some (.int .i64 (pxAt ps j).2.2)) :
  Calls Tryz.prog 119 #[.slice (some ⟨b,off,none⟩) n c] w fun e w'=>∃r,e=.returned r∧IsPix w' r ps∧Below w.heap.size w w'∧Fresh w.heap.size r:=by
 obtain ⟨i0,hi,hz0,hz1,hz2⟩:=info_parts Tryz.infoPixel
 have q22:∀(w:World) (a:Option Addr) (n c n' c':Nat),(binOp .eql 22 (.slice a n c) (.slice none n' c')).run Tryz.prog w=.ok (.bool a.isNone) w:=fun w a n c n' c'=>Lib.run_eql_slice_nil w _ _ a n c n' c' Tryz.underlying22
 have HC:=hide hc
 have hl:(ps.flatMap pixL).length=n*3:=by rw[Xqg0,hn]
 have HL:=hide hl
 clear hc
 go_enter Tryz.func119,Tryz.ntmps119
 go_wp2_with (at_builtin;refine wpList_append_own _ rfl _ _ 22 rfl w.heap.size 61 i0 pixZ 3 24 Tryz.underlying22 hi hz0 hz1 hz2 rfl (by omega) _ _ _ rfl (World.ownsRow_made w #[] 0 (Nat.le_refl _) (Nat.zero_le _) (by simp)) ⟨b,off,none⟩ n c (ps.flatMap pixL) rfl ?qc1 ?qc2 ?qc3 ?qc4 ?qc5 ?qc6 ?_)
 case qc1=>exact HL.out
 case qc2 =>
  intro j u hj
  rw[Addr.add_lit]
  refine Lib.cell?_alloc_some _ ?_
  have hj3:j<n*3:=by rw[←HL.out];exact (List.getElem?_eq_some_iff.1 hj).1
  have hq:j / 3<n:=by omega
  obtain ⟨g0,g1,g2⟩:=zgQy ps (j / 3) (by omega)
  obtain ⟨d0,d1,d2⟩:=HC.out (j / 3) hq
  rw[jD3W ps (j / 3) (by omega)] at g0 g1 g2
  rcases (show j % 3=0∨j % 3=1∨j % 3=2 by omega) with h|h|h
  ·have e:j=j / 3*3:=by omega
   rw[e] at hj ⊢
   rw[←Option.some.inj (g0.symm.trans hj)];exact d0
  ·have e:j=j / 3*3+1:=by omega
   rw[e] at hj ⊢
   rw[←Option.some.inj (g1.symm.trans hj),←Nat.add_assoc];exact d1
  ·have e:j=j / 3*3+2:=by omega
   rw[e] at hj ⊢
   rw[←Option.some.inj (g2.symm.trans hj),←Nat.add_assoc];exact d2
 case qc3 =>
  intro u hu
  obtain ⟨p,_,hu⟩:=List.mem_flatMap.1 hu
  simp only[pixL,List.mem_cons,List.not_mem_nil,or_false] at hu
  rcases hu with rfl|rfl|rfl<;>rfl
 case qc4=>rw[Nat.zero_add];unfold maxLen;omega
 case qc5=>rw[Nat.zero_add];omega
 case qc6=>simp
 intro v' w1 hown hgrow hnil
 go_wp2
 go_ret
 exact ⟨v',rfl,IsPix.own (by rw[hn];exact hown) (by omega),(qUNz w _).grown hgrow (by simp) (fun k hk=>by simp[Value.ownBlock] at hk;omega),Fresh.own hown⟩
set_option maxRecDepth 100000 in
set_option maxHeartbeats 1600000 in
theorem Xxdw (W H TP EN bk off ca:Nat) (hW1:1≤W) (hW:W≤64) (hH:H≤64) (zs:List Int) (hlen:zs.length=H*W) (hTE:TP<EN) (hEH:EN≤H) (hca:zs.length≤ca) (w:World) :
  Calls Tryz.prog 58 #[.agg #[.int .i64 W,.int .i64 H,.slice (some ⟨bk,off,none⟩) zs.length ca],.int .i64 TP,.int .i64 EN] w fun e w'=>e=.returned (.agg #[.int .i64 W,.int .i64 (EN-TP:Nat),.slice (some ⟨bk,off+TP*W,none⟩) ((EN-TP)*W) (ca-TP*W)])∧Below w.heap.size w w':=by
 have h1:(TP+1)*W≤EN*W:=Nat.mul_le_mul_right _ hTE
 have h2:EN*W≤H*W:=Nat.mul_le_mul_right _ hEH
 have h3:(EN-TP)*W=EN*W-TP*W:=Nat.sub_mul _ _ _
 have h4:H*W≤64*64:=Nat.mul_le_mul hH hW
 rw[Nat.succ_mul] at h1
 rw[h3]
 obtain ⟨A,hA⟩:∃A,TP*W=A:=⟨_,rfl⟩
 obtain ⟨B,hB⟩:∃B,EN*W=B:=⟨_,rfl⟩
 rw[hA] at h1 ⊢
 rw[hB] at h1 h2 ⊢
 rw[←hlen] at h2 h4
 have hAI:(TP:Int)*(W:Int)=(A:Int):=by rw[←hA];simp
 have hBI:(EN:Int)*(W:Int)=(B:Int):=by rw[←hB];simp
 have hwA:IntKind.i64.wrap (A:Int)=(A:Int):=IntWalk.i64_in _ (by omega)
 have hwB:IntKind.i64.wrap (B:Int)=(B:Int):=IntWalk.i64_in _ (by omega)
 have hDI:IntKind.i64.wrap ((EN:Int)-(TP:Int))=((EN-TP:Nat):Int):=(IntWalk.i64_in _ (by omega)).trans (by omega)
 have hs1:(A:Int)≤(B:Int):=by omega
 have hs2:(B:Int)≤(ca:Int):=by omega
 have hs3:¬(ca=A):=by omega
 obtain ⟨D,hD⟩:∃D,EN-TP=D:=⟨_,rfl⟩
 rw[hD] at hDI ⊢
 clear hA hB hD h3 hlen
 obtain ⟨a1,a2⟩:=al2 w (Obj.cells #[.int .i64 W,.int .i64 H,.slice (some ⟨bk,off,none⟩) zs.length ca] 54) (Obj.cells #[.int .i64 0,.int .i64 0,.slice none 0 0] 54)
 have HB:=hide (be2 w (Obj.cells #[.int .i64 W,.int .i64 H,.slice (some ⟨bk,off,none⟩) zs.length ca] 54) (Obj.cells #[.int .i64 0,.int .i64 0,.slice none 0 0] 54))
 go_enter Tryz.func58,Tryz.ntmps58
 go_wp2_with fail
 have hl1:=(Array.getElem?_eq_some_iff.1 a1).1
 have hl2:=(Array.getElem?_eq_some_iff.1 a2).1
 generalize (w.alloc (Obj.cells #[.int .i64 W,.int .i64 H,.slice (some ⟨bk,off,none⟩) zs.length ca] 54)).alloc (Obj.cells #[.int .i64 0,.int .i64 0,.slice none 0 0] 54)=U at *
 have hSd:U.drew.cell? ⟨w.heap.size,0,none⟩=some (.int .i64 W)∧U.drew.cell? ⟨w.heap.size,1,none⟩=some (.int .i64 H)∧U.drew.cell? ⟨w.heap.size,2,none⟩=some (.slice (some ⟨bk,off,none⟩) zs.length ca):=z5EY (w:=U.drew) a1
 obtain ⟨z0,z1,z2⟩:=z5EY a2
 have f0:=Lib.frozen_of_heap a2 0
 have f1:=Lib.frozen_of_heap a2 1
 have f2:=Lib.frozen_of_heap a2 2
 have hmx:Tryz.prog.follows .mixedOrders=true:=by kernel_rfl
 refine qYgd (S:=fun v:World=>v.cell? ⟨w.heap.size,0,none⟩=some (.int .i64 W)∧v.cell? ⟨w.heap.size,1,none⟩=some (.int .i64 H)∧v.cell? ⟨w.heap.size,2,none⟩=some (.slice (some ⟨bk,off,none⟩) zs.length ca)) (f:=17) hmx ?_
 show jZdv _ _ _ _ _ _ 18 _ _ U.drew
 refine zB2j (i:=0) (oi:=_) (v:=?vv1) (some 7) rfl rfl (by kernel_rfl) (by kernel_rfl) (by kernel_rfl) (by kernel_rfl) (by kernel_rfl) (fun _ _ _ h=>h) (Or.inl ⟨by rfl,?yy1⟩) hSd ?rr1
 case yy1=>(intro wq hSq;obtain ⟨_,_,_⟩:=hSq;go_simp<;>with_reducible rfl)
 simp only[Act.put,List.setIfInBounds_toArray,List.set_cons_succ,List.set_cons_zero]
 refine zB2j (i:=2) (oi:=_) (v:=?vv2) (some 9) rfl rfl (by kernel_rfl) (by kernel_rfl) (by kernel_rfl) (by kernel_rfl) (by kernel_rfl) (fun _ _ _ h=>h) (Or.inl ⟨by rfl,?yy2⟩) hSd ?rr2
 case yy2=>(intro wq hSq;obtain ⟨_,_,_⟩:=hSq;go_simp<;>with_reducible rfl)
 simp only[Act.put,List.setIfInBounds_toArray,List.set_cons_succ,List.set_cons_zero]
 refine zB2j (i:=3) (oi:=_) (v:=?vv3) (some 10) rfl rfl (by kernel_rfl) (by kernel_rfl) (by kernel_rfl) (by kernel_rfl) (by kernel_rfl) (fun _ _ _ h=>h) (Or.inl ⟨by rfl,?yy3⟩) hSd ?rr3
 case yy3=>(intro wq hSq;obtain ⟨_,_,_⟩:=hSq;go_simp<;>with_reducible rfl)
 simp only[Act.put,List.setIfInBounds_toArray,List.set_cons_succ,List.set_cons_zero]
 refine zB2j (i:=5) (oi:=_) (v:=?vv4) (some 12) rfl rfl (by kernel_rfl) (by kernel_rfl) (by kernel_rfl) (by kernel_rfl) (by kernel_rfl) (fun _ _ _ h=>h) (Or.inl ⟨by rfl,?yy4⟩) hSd ?rr4
 case yy4=>(intro wq hSq;obtain ⟨_,_,_⟩:=hSq;go_simp<;>with_reducible rfl)
 simp only[Act.put,List.setIfInBounds_toArray,List.set_cons_succ,List.set_cons_zero]
 refine zB2j (i:=7) (oi:=_) (v:=?vv5) (some 14) rfl rfl (by kernel_rfl) (by kernel_rfl) (by kernel_rfl) (by kernel_rfl) (by kernel_rfl) (fun _ _ _ h=>h) (Or.inl ⟨by rfl,?yy5⟩) hSd ?rr5
 case yy5=>(intro wq hSq;obtain ⟨_,_,_⟩:=hSq;go_simp<;>with_reducible rfl)
 simp only[Act.put,List.setIfInBounds_toArray,List.set_cons_succ,List.set_cons_zero]
 refine zB2j (i:=8) (oi:=_) (v:=?vv6) (some 15) rfl rfl (by kernel_rfl) (by kernel_rfl) (by kernel_rfl) (by kernel_rfl) (by kernel_rfl) (fun _ _ _ h=>h) (Or.inl ⟨by rfl,?yy6⟩) hSd ?rr6
 case yy6=>(intro wq hSq;obtain ⟨_,_,_⟩:=hSq;go_simp<;>with_reducible rfl)
 simp only[Act.put,List.setIfInBounds_toArray,List.set_cons_succ,List.set_cons_zero]
 refine zB2j (i:=11) (oi:=_) (v:=?vv7) (some 18) rfl rfl (by kernel_rfl) (by kernel_rfl) (by kernel_rfl) (by kernel_rfl) (by kernel_rfl) (fun _ _ _ h=>h) (Or.inl ⟨by rfl,?yy7⟩) hSd ?rr7
 case yy7=>(intro wq hSq;obtain ⟨_,_,_⟩:=hSq;go_simp<;>with_reducible rfl)
 simp only[Act.put,List.setIfInBounds_toArray,List.set_cons_succ,List.set_cons_zero]
 refine zB2j (i:=12) (oi:=_) (v:=?vv8) (some 19) rfl rfl (by kernel_rfl) (by kernel_rfl) (by kernel_rfl) (by kernel_rfl) (by kernel_rfl) (fun _ _ _ h=>h) (Or.inl ⟨by rfl,?yy8⟩) hSd ?rr8
 case yy8=>(intro wq hSq;obtain ⟨_,_,_⟩:=hSq;go_simp<;>with_reducible rfl)
 simp only[Act.put,List.setIfInBounds_toArray,List.set_cons_succ,List.set_cons_zero]
 refine zB2j (i:=1) (oi:=_) (v:=?vv9) (some 8) rfl rfl (by kernel_rfl) (by kernel_rfl) (by kernel_rfl) (by kernel_rfl) (by kernel_rfl) (fun _ _ _ h=>h) (Or.inl ⟨by rfl,?yy9⟩) hSd ?rr9
 case yy9=>(intro wq hSq;obtain ⟨_,_,_⟩:=hSq;go_simp<;>with_reducible rfl)
 simp only[Act.put,List.setIfInBounds_toArray,List.set_cons_succ,List.set_cons_zero]
 refine zB2j (i:=4) (oi:=_) (v:=?vv10) (some 11) rfl rfl (by kernel_rfl) (by kernel_rfl) (by kernel_rfl) (by kernel_rfl) (by kernel_rfl) (fun _ _ _ h=>h) (Or.inl ⟨by rfl,?yy10⟩) hSd ?rr10
 case yy10=>(intro wq hSq;obtain ⟨_,_,_⟩:=hSq;go_simp<;>with_reducible rfl)
 simp only[Act.put,List.setIfInBounds_toArray,List.set_cons_succ,List.set_cons_zero]
 refine zB2j (i:=6) (oi:=_) (v:=?vv11) (some 13) rfl rfl (by kernel_rfl) (by kernel_rfl) (by kernel_rfl) (by kernel_rfl) (by kernel_rfl) (fun _ _ _ h=>h) (Or.inl ⟨by rfl,?yy11⟩) hSd ?rr11
 case yy11=>(intro wq hSq;obtain ⟨_,_,_⟩:=hSq;go_simp<;>with_reducible rfl)
 simp only[Act.put,List.setIfInBounds_toArray,List.set_cons_succ,List.set_cons_zero]
 refine zB2j (i:=9) (oi:=_) (v:=?vv12) (some 16) rfl rfl (by kernel_rfl) (by kernel_rfl) (by kernel_rfl) (by kernel_rfl) (by kernel_rfl) (fun _ _ _ h=>h) (Or.inl ⟨by rfl,?yy12⟩) hSd ?rr12
 case yy12=>(intro wq hSq;obtain ⟨_,_,_⟩:=hSq;go_simp<;>with_reducible rfl)
 simp only[Act.put,List.setIfInBounds_toArray,List.set_cons_succ,List.set_cons_zero]
 refine zB2j (i:=13) (oi:=_) (v:=?vv13) (some 20) rfl rfl (by kernel_rfl) (by kernel_rfl) (by kernel_rfl) (by kernel_rfl) (by kernel_rfl) (fun _ _ _ h=>h) (Or.inl ⟨by rfl,?yy13⟩) hSd ?rr13
 case yy13=>(intro wq hSq;obtain ⟨_,_,_⟩:=hSq;go_simp<;>with_reducible rfl)
 simp only[Act.put,List.setIfInBounds_toArray,List.set_cons_succ,List.set_cons_zero]
 refine zB2j (i:=10) (oi:=_) (v:=?vv14) (some 17) rfl rfl (by kernel_rfl) (by kernel_rfl) (by kernel_rfl) (by kernel_rfl) (by kernel_rfl) (fun _ _ _ h=>h) (Or.inl ⟨by rfl,?yy14⟩) hSd ?rr14
 case yy14=>(intro wq hSq;obtain ⟨_,_,_⟩:=hSq;go_simp<;>with_reducible rfl)
 simp only[Act.put,List.setIfInBounds_toArray,List.set_cons_succ,List.set_cons_zero]
 refine zB2j (i:=14) (oi:=_) (v:=?vv15) (some 21) rfl rfl (by kernel_rfl) (by kernel_rfl) (by kernel_rfl) (by kernel_rfl) (by kernel_rfl) (fun _ _ _ h=>h) (Or.inl ⟨by rfl,?yy15⟩) hSd ?rr15
 case yy15=>(intro wq hSq;obtain ⟨_,_,_⟩:=hSq;go_simp<;>with_reducible rfl)
 simp only[Act.put,List.setIfInBounds_toArray,List.set_cons_succ,List.set_cons_zero]
 refine zB2j (i:=15) (oi:=_) (v:=?vv16) (some 22) rfl rfl (by kernel_rfl) (by kernel_rfl) (by kernel_rfl) (by kernel_rfl) (by kernel_rfl) (fun _ _ _ h=>h) (Or.inl ⟨by rfl,?yy16⟩) hSd ?rr16
 case yy16=>(intro wq hSq;obtain ⟨_,_,_⟩:=hSq;go_simp<;>with_reducible rfl)
 simp only[Act.put,List.setIfInBounds_toArray,List.set_cons_succ,List.set_cons_zero]
 refine zB2j (i:=16) (oi:=_) (v:=?vv17) (some 23) rfl rfl (by kernel_rfl) (by kernel_rfl) (by kernel_rfl) (by kernel_rfl) (by kernel_rfl) (fun _ _ _ h=>h) (Or.inl ⟨by rfl,?yy17⟩) hSd ?rr17
 case yy17=>(intro wq hSq;obtain ⟨_,_,_⟩:=hSq;go_simp<;>with_reducible rfl)
 simp only[Act.put,List.setIfInBounds_toArray,List.set_cons_succ,List.set_cons_zero]
 refine z9gO (o:=_) (by kernel_rfl) rfl (fun K' hK=>?_)
 rw[if_pos (by rfl)]
 go_simp
 refine hK.out _ _ ?_
 clear hK
 refine jFdp (by kernel_rfl) ?_ _
 try simp only[Act.put]
 have HF:=hide (zHqh HB.out (show w.heap.size≤w.heap.size+1 by omega) (.int .i64 W) (.int .i64 D) (.slice (some ⟨bk,off+A,none⟩) (B-A) (ca-A)))
 go_wp2
 exact bodyPost_ret (v:=.agg #[.int .i64 W,.int .i64 D,.slice (some ⟨bk,off+A,none⟩) (B-A) (ca-A)]) (by simp[results,Tryz.results58,go_sem,z0,z1,z2]) rfl ⟨rfl,HF.out.drew⟩
end Go.Proofs.YtfjeonehdlphiaaGreatDoor

namespace Go.Proofs.YtfjeonehdlphiaaGreatDoor
set_option linter.unusedVariables false
open Go.RowKit
def zLwc (top rows:Nat) (s:Pt):Bool:=decide ((top:Int)≤s.2∧s.2<(top:Int)+rows)
def qj7y (ls:List Pt) (top rows:Nat):List Pt:=(ls.filter (zLwc top rows)).map fun s=>(s.1,s.2-top)
def zVsj (p:Int):Int:=if p<2 then p+2 else p-2
def j9wH (m:Nat→Int) (k:Nat):Int:=m ((k+2) % 4)
def XXhF (n:Plan) (top:Nat):Plan:={ n with phase:=if top % 2=1 then zVsj n.phase else n.phase,black:=if top % 2=1 then j9wH n.black else n.black }
def XzXJ (n:Plan) (top rows:Nat):Plan:={ XXhF n top with spots:=qj7y n.spots top rows }
theorem xorP (p:Int) (h:0≤p∧p≤3):bits BinOp.xor IntKind.i64 p 2=zVsj p:=by
 rcases (show p=0∨p=1∨p=2∨p=3 by omega) with rfl|rfl|rfl|rfl<;>decide +kernel
abbrev planZ:Array Value:=#[.int .i64 0,.int .i64 0,.int .i64 0,.int .i64 0,.int .i64 0,.int .i64 0,.slice none 0 0,.int .i64 0,.int .i64 0,.int .i64 0,.int .i64 0,.int .i64 0,.int .i64 0,.int .i64 0,.int .i64 0,.int .i64 0,.int .i64 0,.int .i64 0,.int .i64 0,.slice none 0 0,.int .i64 0]
def ptL (t:Pt):List Value:=[.int .i64 t.1,.int .i64 t.2]
def spZ:Value:=.agg #[.int .i64 0,.int .i64 0]
theorem Tryz.infoSpot:(Tryz.prog.info? 97).map (fun i=>(i.zero,i.size,i.bytes))=some (some spZ,2,16):=by kernel_rfl
theorem jn2Z (ls:List Pt):(ls.flatMap ptL).length=ls.length*2:=by
 induction ls with
 | nil=>rfl
 | cons p ls ih=>rw[List.flatMap_cons,List.length_append,ih];simp[ptL];omega
theorem zWQA (ls:List Pt) (j:Nat) (h:j<ls.length):(ls.flatMap ptL)[j*2]?=some (.int .i64 (ptAt ls j).1)∧(ls.flatMap ptL)[j*2+1]?=some (.int .i64 (ptAt ls j).2):=by
 rw[←jU85 ls j h]
 induction ls generalizing j with
 | nil=>simp at h
 | cons p ls ih =>
  cases j with
  | zero=>simp[ptL,List.flatMap_cons]
  | succ j =>
   have h':j<ls.length:=by simpa using h
   have:=ih j h'
   rw[List.flatMap_cons,show (j+1)*2=j*2+2 by omega]
   simp only[ptL,List.cons_append,List.nil_append,List.getElem?_cons_succ,List.getElem_cons_succ]
   exact this
theorem IsPts.own {w:World} {base:Nat} {e:TypeId} {v:Value} {ls:List Pt} (h:w.ownsRow base e 2 v ls.length (ls.flatMap ptL)) (hl:ls.length≤9223372036854775807):IsPts w v ls:=by
 rcases h.2 with ⟨hv,hn⟩|⟨g,cap,cur,hv,_,hg,h1,h2,h3,h4⟩
 ·exact ⟨none,0,by rw[hv,hn],hl,.inl (List.eq_nil_of_length_eq_zero hn)⟩
 ·refine ⟨_,cap,hv,hl,.inr ⟨g,0,rfl,(Array.getElem?_eq_some_iff.1 hg).1,fun j hj=>?_⟩⟩
  have key:∀i u,i<ls.length*2→(ls.flatMap ptL)[i]?=some u→w.cell? ⟨g,0+i,none⟩=some u:=fun i u hi hu=>by
   rw[Nat.zero_add,cell_of_row w g i cur _ _ hg]
   rw[←h4,List.getElem?_take_of_lt hi] at hu
   simpa using hu
  obtain ⟨a,b⟩:=zWQA ls j hj
  exact ⟨key _ _ (by omega) a,key _ _ (by omega) b⟩
theorem IsPts.other {w w':World} {v:Value} {ls:List Pt} {k:Nat} (h:IsPts w v ls) (hs:w.heap.size≤w'.heap.size) (hk:∀b,b≠k→w'.heap[b]?=w.heap[b]?) (hne:v.ownBlock≠some k):IsPts w' v ls:=by
 obtain ⟨ao,cap,rfl,hl,h⟩:=h
 refine ⟨ao,cap,rfl,hl,?_⟩
 rcases h with h|⟨b,off,rfl,hlt,hc⟩
 ·exact .inl h
 ·have hb:b≠k:=fun e=>hne (by rw[e];rfl)
  refine .inr ⟨b,off,rfl,Nat.lt_of_lt_of_le hlt hs,fun j hj=>?_⟩
  rw[World.cell?_of_block (a:=⟨b,off+j*2,none⟩) (hk b hb),World.cell?_of_block (a:=⟨b,off+j*2+1,none⟩) (hk b hb)]
  exact hc j hj
theorem zYlv (ls:List Pt) (k:Nat) (hk:k<ls.length) (top rows:Nat):qj7y (ls.take (k+1)) top rows=qj7y (ls.take k) top rows++(if zLwc top rows (ptAt ls k)=true then [((ptAt ls k).1,(ptAt ls k).2-top)] else []):=by
 rw[List.take_succ_eq_append_getElem hk,jU85]
 unfold qj7y
 rw[List.filter_append,List.map_append]
 congr 1
 by_cases h:zLwc top rows (ptAt ls k)=true
 ·rw[if_pos h,List.filter_cons_of_pos h];rfl
 ·rw[if_neg h,List.filter_cons_of_neg h];rfl
theorem zk7I (ls:List Pt) (top rows:Nat):(qj7y ls top rows).length≤ls.length:=by
 unfold qj7y;rw[List.length_map];exact List.length_filter_le _ _
def MvJ (w:World) (n:Plan) (TP R:Nat) (sv cv s:Value) (k:Nat) (wr:World):Prop :=
 wr.ownsRow w.heap.size 97 2 s (qj7y (n.spots.take k) TP R).length ((qj7y (n.spots.take k) TP R).flatMap ptL)∧wr.heap[w.heap.size]?=some (.cells (planA (XXhF n TP) sv cv) 51 (0,0))∧wr.heap[w.heap.size+1]?=some (.cells planZ 51 (0,0))∧Below w.heap.size w wr
theorem MvJ.below {w:World} {n:Plan} {TP R:Nat} {sv cv s:Value} {k:Nat} {wr V:World} (h:MvJ w n TP R sv cv s k wr) (hV:Below wr.heap.size wr V):MvJ w n TP R sv cv s k V :=
 ⟨qw14 h.1 hV,(hV.block _ (Array.getElem?_eq_some_iff.1 h.2.1).1).trans h.2.1,(hV.block _ (Array.getElem?_eq_some_iff.1 h.2.2.1).1).trans h.2.2.1,h.2.2.2.trans (hV.mono h.2.2.2.size)⟩
set_option maxRecDepth 100000 in
set_option maxHeartbeats 3200000 in
theorem jb8q (n:Plan) (sv cv:Value) (TP R:Nat) (hT:TP≤64) (hR:R≤64) (hph:0≤n.phase∧n.phase≤3) (hln:n.spots.length≤64) (hsp:XepW 64 64 n.spots=true) (w:World) (hp:X1uD w n sv cv) :
  Calls Tryz.prog 118 #[.agg (planA n sv cv),.int .i64 TP,.int .i64 R] w fun e w'=>∃rv,e=.returned (.agg (planA (XzXJ n TP R) rv cv))∧X1uD w' (XzXJ n TP R) rv cv∧Below w.heap.size w w':=by
 have HP:=hide hp
 have HSP:=hide hsp
 obtain ⟨⟨lo,lc,rfl,hll,hlc⟩,⟨ko,kc,rfl,hkl,_⟩⟩:=hp
 have HC:=hide (fun j hj=>IsPts.at ⟨lo,lc,rfl,hll,hlc⟩ j hj)
 clear hlc hsp
 obtain ⟨a1,a2⟩:=al2 w (Obj.cells (planA n (.slice lo n.spots.length lc) (.slice ko n.curve.length kc)) 51) (Obj.cells planZ 51)
 have HB:=hide (be2 w (Obj.cells (planA n (.slice lo n.spots.length lc) (.slice ko n.curve.length kc)) 51) (Obj.cells planZ 51))
 obtain ⟨r,hr⟩:∃r,TP % 2=r:=⟨_,rfl⟩
 have hrm:(TP:Int) % 2=(r:Int):=by rw[←hr];rfl
 have HRR:=hide hr
 have hr2:r<2:=by omega
 clear hr
 have hx:=xorP n.phase hph
 go_enter Tryz.func118,Tryz.ntmps118
 go_upto_if 12 with fail
 have hl1:=(Array.getElem?_eq_some_iff.1 a1).1
 have hl2:=(Array.getElem?_eq_some_iff.1 a2).1
 generalize (w.alloc (Obj.cells (planA n (.slice lo n.spots.length lc) (.slice ko n.curve.length kc)) 51)).alloc (Obj.cells planZ 51)=U at *
 go_cut [3] from 10 (fun s v=>s=.pointer (some ⟨w.heap.size,0,none⟩)∧v.heap[w.heap.size]?=some (.cells (planA (XXhF n TP) (.slice lo n.spots.length lc) (.slice ko n.curve.length kc)) 51 (0,0))∧v.heap[w.heap.size+1]?=some (.cells planZ 51 (0,0))∧Below w.heap.size w v)
 case first =>
  rcases (show r=0∨r=1 by omega) with rfl|rfl
  ·go_wp2
   go_meet
   case rel =>
    refine ⟨rfl,?_,a2,HB.out⟩
    rw[show planA (XXhF n TP) (.slice lo n.spots.length lc) (.slice ko n.curve.length kc)=planA n (.slice lo n.spots.length lc) (.slice ko n.curve.length kc) by simp[XXhF,HRR.out]]
    exact a1
  ·obtain ⟨c0,c1,c2,c3,c4,c5,c6,c7,c8,c9,c10,c11,c12,c13,c14,c15,c16,c17,c18,c19,c20⟩:=qH9I a1
   have e1:=heap_setCell_same U w.heap.size 0 _ _ (.int .i64 (zVsj n.phase)) a1
   have f0:=Lib.frozen_of_heap a1 0
   have f1:=Lib.frozen_of_heap a1 1
   have f2:=Lib.frozen_of_heap a1 2
   have f3:=Lib.frozen_of_heap a1 3
   have f4:=Lib.frozen_of_heap a1 4
   go_wp2
   go_meet
   case rel =>
    refine ⟨rfl,?_,?_,?_⟩
    ·have e2:=heap_setCell_same _ w.heap.size 1 _ _ (.int .i64 (n.black 2)) e1
     have e3:=heap_setCell_same _ w.heap.size 2 _ _ (.int .i64 (n.black 3)) e2
     have e4:=heap_setCell_same _ w.heap.size 3 _ _ (.int .i64 (n.black 0)) e3
     have e5:=heap_setCell_same _ w.heap.size 4 _ _ (.int .i64 (n.black 1)) e4
     rw[e5]
     simp[XXhF,HRR.out,j9wH]
    ·rw[Below.heap_setCell _ _ _ _ (show w.heap.size+1≠w.heap.size by omega),Below.heap_setCell _ _ _ _ (show w.heap.size+1≠w.heap.size by omega),Below.heap_setCell _ _ _ _ (show w.heap.size+1≠w.heap.size by omega),Below.heap_setCell _ _ _ _ (show w.heap.size+1≠w.heap.size by omega),Below.heap_setCell _ _ _ _ (show w.heap.size+1≠w.heap.size by omega)]
     exact a2
    ·exact ((((HB.out.setCell (p:=⟨w.heap.size,0,none⟩) (Nat.le_refl _) _).setCell (p:=⟨w.heap.size,1,none⟩) (Nat.le_refl _) _).setCell (p:=⟨w.heap.size,2,none⟩) (Nat.le_refl _) _).setCell (p:=⟨w.heap.size,3,none⟩) (Nat.le_refl _) _).setCell (p:=⟨w.heap.size,4,none⟩) (Nat.le_refl _) _
 case rest =>
  obtain ⟨rfl,b1,b2,hbc⟩:=hcut
  obtain ⟨i0,hi,hz0,hz1,hz2⟩:=info_parts Tryz.infoSpot
  obtain ⟨_,_,_,_,_,_,c6,_⟩:=qH9I b1
  have HM0:=hide (show MvJ w n TP R (.slice lo n.spots.length lc) (.slice ko n.curve.length kc) (.slice none 0 0) 0 wc from ⟨World.ownsRow_nil _ _ _ _,b1,b2,hbc⟩)
  clear b1 b2 hbc hx
  go_wp2_with fail
  clear c6
  go_loopw [7,34] (fun s i wr=>∃k:Nat,k≤n.spots.length∧i=.int .i64 k∧MvJ w n TP R (.slice lo n.spots.length lc) (.slice ko n.curve.length kc) s k wr) (fun _ i _=>n.spots.length-(intOf i).toNat)
  case atStart=>exact ⟨0,Nat.zero_le _,rfl,HM0.out⟩
  case round =>
   clear HM0
   obtain ⟨k,hk,rfl,hJ⟩:=hrel
   by_cases hlt:k<n.spots.length
   ·have hd:decide ((k:Int)<(n.spots.length:Int))=true:=by simp;omega
    obtain ⟨bq,oq,rfl,hbq,e0,e1⟩:=HC.out k hlt
    have d0:=(hJ.2.2.2.cell (p:=⟨bq,oq+k*2,none⟩) hbq).trans e0
    have d1:=(hJ.2.2.2.cell (p:=⟨bq,oq+k*2+1,none⟩) hbq).trans e1
    have HSN:=hide (zYlv n.spots k hlt TP R)
    have hsb:=zKbH HSP.out k hlt
    obtain ⟨⟨x,y⟩,hxy⟩:∃p,ptAt n.spots k=p:=⟨_,rfl⟩
    rw[hxy] at d0 d1 HSN hsb
    simp only at d0 d1 HSN hsb
    have hxr:0≤x∧x<64∧0≤y∧y<64:=by simpa [hasB] using hsb
    obtain ⟨hx0,hx1,hy0,hy1⟩:=hxr
    clear hxy e0 e1 hsb
    have a5:=al1 wr (Obj.cells #[.int .i64 x,.int .i64 y] 97)
    obtain ⟨s0,s1⟩:=bx2 a5
    have HJ1:=hide (hJ.below (qUNz wr (Obj.cells #[.int .i64 x,.int .i64 y] 97)))
    by_cases hin:(TP:Int)≤y∧y<(TP:Int)+R
    ·have hin1:zLwc TP R (x,y)=true:=decide_eq_true hin
     rw[if_pos hin1] at HSN
     have hg1:decide ((TP:Int)≤y)=true:=by simpa using hin.1
     have hg2:decide (y<(TP:Int)+(R:Int))=true:=by simpa using hin.2
     have hwy:IntKind.i64.wrap (y-(TP:Int))=y-(TP:Int):=IntWalk.i64_in _ (by omega)
     have HJ2:=hide (HJ1.out.below (qUNz _ (Obj.cells #[.int .i64 x,.int .i64 (y-TP)] 97)))
     have hml:=zk7I (n.spots.take k) TP R
     have htl:=List.length_take_le k n.spots
     obtain ⟨XS,hXS⟩:∃XS,qj7y (n.spots.take k) TP R=XS:=⟨_,rfl⟩
     have HXS:=hide hXS
     have HOW:=hide HJ2.out.1
     rw[hXS] at hml HOW
     clear hXS hJ HJ1
     have hnb:=(al2 wr (Obj.cells #[.int .i64 x,.int .i64 y] 97) (Obj.cells #[.int .i64 x,.int .i64 (y-TP)] 97)).2
     go_wp2_with (at_builtin;refine wpList_append_own _ rfl _ _ 46 rfl w.heap.size 97 i0 spZ 2 16 Tryz.underlying46 hi hz0 hz1 hz2 rfl (by omega) _ XS.length (XS.flatMap ptL) rfl HOW.out ⟨wr.heap.size+1,0,none⟩ 1 1 [.int .i64 x,.int .i64 (y-TP)] rfl ?qc1 ?qc2 ?qc3 ?qc4 ?qc5 ?qc6 ?_)
     case qc1=>rfl
     case qc2=>exact World.news_of_block hnb
     case qc3=>exact fun u hu=>by simp at hu;rcases hu with rfl|rfl<;>rfl
     case qc4=>unfold maxLen;omega
     case qc5=>omega
     case qc6=>have:=HJ2.out.2.2.2.size;exact this
     intro v' w1 hown hgrow hnil
     have HJ3:=hide (show MvJ w n TP R (.slice (some ⟨bq,oq,none⟩) n.spots.length lc) (.slice ko n.curve.length kc) v' (k+1) w1 from by
      obtain ⟨o1,o2,o3,o4⟩:=HJ2.out
      rw[HXS.out] at o1
      refine ⟨?_,?_,?_,?_⟩
      ·rw[HSN.out,HXS.out,List.length_append,List.flatMap_append]
       exact hown
      ·exact (hgrow.block _ (Array.getElem?_eq_some_iff.1 o2).1 (qYYy o1 o2 (by decide))).trans o2
      ·exact (hgrow.block _ (Array.getElem?_eq_some_iff.1 o3).1 (qYYy o1 o3 (by decide))).trans o3
      ·exact o4.grown hgrow o4.size (fun j hj=>(o1.lt j hj).1))
     go_wp2
     go_roundw
     case rel=>exact ⟨k+1,by omega,by go_num,HJ3.out⟩
     case measure=>simp[intOf];omega
    ·have hin1:¬zLwc TP R (x,y)=true:=fun h=>hin (of_decide_eq_true h)
     rw[if_neg hin1,List.append_nil] at HSN
     have HJ3:=hide (show MvJ w n TP R (.slice (some ⟨bq,oq,none⟩) n.spots.length lc) (.slice ko n.curve.length kc) u7 (k+1) (wr.alloc (Obj.cells #[.int .i64 x,.int .i64 y] 97)) from by
      obtain ⟨o1,o2,o3,o4⟩:=HJ1.out
      exact ⟨by rw[HSN.out];exact o1,o2,o3,o4⟩)
     clear hJ HJ1
     rcases (show ¬(TP:Int)≤y∨((TP:Int)≤y∧¬y<(TP:Int)+R) by omega) with hc|hc
     ·have hg1:decide ((TP:Int)≤y)=false:=by simpa using hc
      go_wp2
      go_roundw
      case rel=>exact ⟨k+1,by omega,by go_num,HJ3.out⟩
      case measure=>simp[intOf];omega
     ·have hg1:decide ((TP:Int)≤y)=true:=by simpa using hc.1
      have hg2:decide (y<(TP:Int)+(R:Int))=false:=by simpa using hc.2
      go_wp2
      go_roundw
      case rel=>exact ⟨k+1,by omega,by go_num,HJ3.out⟩
      case measure=>simp[intOf];omega
   ·have hd:decide ((k:Int)<(n.spots.length:Int))=false:=by simp;omega
    have hkl:k=n.spots.length:=by omega
    subst hkl
    obtain ⟨o1,o2,o3,o4⟩:=hJ
    rw[List.take_length] at o1
    have hml:=zk7I n.spots TP R
    have hpts:IsPts wr u7 (qj7y n.spots TP R):=IsPts.own o1 (by omega)
    have HPT:=hide hpts
    obtain ⟨so,sc,rfl,x1,x2⟩:=hpts
    clear x1 x2
    obtain ⟨N,hN⟩:∃N,(qj7y n.spots TP R).length=N:=⟨_,rfl⟩
    rw[hN] at o1 HPT ⊢
    clear hN
    obtain ⟨_,_,_,_,_,_,c6,_⟩:=qH9I o2
    have f6:=Lib.frozen_of_heap o2 6
    have e6:(wr.setCell ⟨w.heap.size,6,none⟩ (.slice so N sc)).heap[w.heap.size]?=some (.cells (planA (XzXJ n TP R) (.slice so N sc) (.slice ko n.curve.length kc)) 51 (0,0)):=(heap_setCell_same wr w.heap.size 6 _ _ (.slice so N sc) o2).trans rfl
    have g1:(wr.setCell ⟨w.heap.size,6,none⟩ (.slice so N sc)).heap[w.heap.size+1]?=some (.cells planZ 51 (0,0)):=(Below.heap_setCell _ _ _ _ (show w.heap.size+1≠w.heap.size by omega)).trans o3
    have i1:(Tryz.prog.info? 51).map (·.size)=some (planA (XzXJ n TP R) (.slice so N sc) (.slice ko n.curve.length kc)).size:=by kernel_rfl
    have i3:(planA (XzXJ n TP R) (.slice so N sc) (.slice ko n.curve.length kc)).all (·.oneCell')=true:=by simp[Value.oneCell']
    have hne1:(Value.slice so N sc).ownBlock≠some w.heap.size:=fun e=>qYYy o1 o2 (by decide) e.symm
    have hne2:(Value.slice so N sc).ownBlock≠some (w.heap.size+1):=fun e=>qYYy o1 o3 (by decide) e.symm
    have HX:=hide ((HPT.out.other (k:=w.heap.size) (w':=wr.setCell ⟨w.heap.size,6,none⟩ (.slice so N sc)) (by simp[World.setCell]) (fun b hb=>Below.heap_setCell _ _ _ _ hb) hne1).other (k:=w.heap.size+1) (w':=(wr.setCell ⟨w.heap.size,6,none⟩ (.slice so N sc)).setRow (w.heap.size+1) (planA (XzXJ n TP R) (.slice so N sc) (.slice ko n.curve.length kc))) (by simp) (fun b hb=>setRow_other _ _ _ _ hb) hne2)
    have HF:=hide (below_setRow (g:=w.heap.size+1) (o4.setCell (p:=⟨w.heap.size,6,none⟩) (Nat.le_refl _) (.slice so N sc)) (by omega) (planA (XzXJ n TP R) (.slice so N sc) (.slice ko n.curve.length kc)))
    have HG:=hide (setRow_heap _ _ _ (planA (XzXJ n TP R) (.slice so N sc) (.slice ko n.curve.length kc)) _ _ g1)
    clear o1 o3 hne1 hne2
    go_wp2_with (first|refine wpList_load_row rfl 51 _ rfl _ rfl _ _ _ _ e6 Tryz.underlying51 rfl (by kernel_rfl) ?_|refine wpList_store_row rfl 51 _ _ rfl (w.heap.size+1) (planA (XzXJ n TP R) (.slice so N sc) (.slice ko n.curve.length kc)) rfl rfl _ _ g1 i1 rfl i3 ?_)
    refine bodyPost_ret (v:=.agg (planA (XzXJ n TP R) (.slice so N sc) (.slice ko n.curve.length kc))) (results_cell_row Tryz.results118 _ _ _ _ _ _ _ rfl HG.out Tryz.underlying51 rfl (by kernel_rfl)) rfl ⟨_,rfl,⟨HX.out,HP.out.curve.below HF.out (Nat.le_refl _)⟩,HF.out⟩
end Go.Proofs.YtfjeonehdlphiaaGreatDoor

namespace Go.Proofs.YtfjeonehdlphiaaGreatDoor
set_option linter.unusedVariables false
open Go.RowKit
theorem Tryz.infoPoint:(Tryz.prog.info? 66).map (fun i=>(i.zero,i.size,i.bytes))=some (some spZ,2,16):=by kernel_rfl
theorem XWez (ls:List Pt):∀u∈ls.flatMap ptL,u.oneCell'=true:=by
 intro u hu
 obtain ⟨t,_,ht⟩:=List.mem_flatMap.1 hu
 simp only[ptL,List.mem_cons,List.not_mem_nil,or_false] at ht
 rcases ht with rfl|rfl<;>rfl
theorem jych {w:World} {a:Addr} {xs:List Int} (o:Obj) (hc:xs=[]∨∃b off,some a=some ⟨b,off,none⟩∧b<w.heap.size∧∀j (h:j<xs.length),w.cell? ⟨b,off+j,none⟩=some (.int .i64 xs[j])) :
  ∀j u,(xs.map (Value.int .i64))[j]?=some u→(w.alloc o).cell? (a.add j)=some u:=by
 intro j u hj
 rcases hc with h|⟨b,off,h,hb,h2⟩
 ·subst h;simp at hj
 ·cases h
  rw[List.getElem?_map] at hj
  obtain ⟨z,hz,rfl⟩:=Option.map_eq_some_iff.1 hj
  obtain ⟨hl,rfl⟩:=List.getElem?_eq_some_iff.1 hz
  rw[Addr.add_lit]
  exact Lib.cell?_alloc_some _ (h2 j hl)
theorem qkro {w:World} {a:Addr} {ls:List Pt} (o:Obj) (hc:ls=[]∨∃b off,some a=some ⟨b,off,none⟩∧b<w.heap.size∧∀j,j<ls.length→w.cell? ⟨b,off+j*2,none⟩=some (.int .i64 (ptAt ls j).1)∧w.cell? ⟨b,off+j*2+1,none⟩=some (.int .i64 (ptAt ls j).2)) :
  ∀j u,(ls.flatMap ptL)[j]?=some u→(w.alloc o).cell? (a.add j)=some u:=by
 intro j u hj
 rcases hc with h|⟨b,off,h,hb,h2⟩
 ·subst h;simp at hj
 ·cases h
  have hl:j<ls.length*2:=by rw[←jn2Z];exact (List.getElem?_eq_some_iff.1 hj).1
  rw[Addr.add_lit]
  refine Lib.cell?_alloc_some _ ?_
  obtain ⟨e1,e2⟩:=zWQA ls (j / 2) (by omega)
  obtain ⟨c1,c2⟩:=h2 (j / 2) (by omega)
  rcases Nat.mod_two_eq_zero_or_one j with hm|hm
  ·have hq:j / 2*2=j:=by omega
   rw[hq] at e1 c1
   rw[c1,←hj,e1]
  ·have hq:j / 2*2+1=j:=by omega
   rw[hq] at e2
   rw[Nat.add_assoc,hq] at c2
   rw[c2,←hj,e2]
set_option maxHeartbeats 800000 in
set_option maxRecDepth 100000 in
theorem jKOG (v:Value) (xs:List Int) (w:World) (hv:jCvT w v xs) (hl:xs.length≤1000000) :
  Calls Tryz.prog 121 #[v] w fun e w'=>∃r,e=.returned r∧jCvT w' r xs∧Below w.heap.size w w'∧Fresh w.heap.size r:=by
 obtain ⟨ao,ca,rfl,hx,hc⟩:=hv
 have q22:∀(w:World) (a:Option Addr) (n c n' c':Nat),(binOp .eql 52 (.slice a n c) (.slice none n' c')).run Tryz.prog w=.ok (.bool a.isNone) w:=fun w a n c n' c'=>Lib.run_eql_slice_nil w _ _ a n c n' c' Tryz.underlying52
 cases ao with
 | none =>
  have hn:xs=[]:=by
   rcases hc with h|⟨b,off,h,_⟩
   ·exact h
   ·cases h
  subst hn
  go_enter Tryz.func121,Tryz.ntmps121
  go_wp2
  go_ret
  exact ⟨_,rfl,jCvT.nil _,Below.refl _ _,Fresh.nil _⟩
 | some a =>
  obtain ⟨i0,hi,hz0,hz1,hz2⟩:=info_parts Tryz.infoInt
  have HA:=hide (show ∀j u,(xs.map (Value.int .i64))[j]?=some u→(w.alloc (.cells #[] 3)).cell? (a.add j)=some u from jych _ hc)
  clear hc
  go_enter Tryz.func121,Tryz.ntmps121
  go_wp2_with (at_builtin;refine wpList_append_own _ rfl _ _ 52 rfl w.heap.size 3 i0 (.int .i64 0) 1 8 Tryz.underlying52 hi hz0 hz1 hz2 rfl (by decide) _ _ _ rfl (World.ownsRow_made w #[] 0 (Nat.le_refl _) (Nat.zero_le _) (by simp)) a xs.length ca (xs.map (Value.int .i64)) rfl ?qc1 ?qc2 ?qc3 ?qc4 ?qc5 ?qc6 ?_)
  case qc1=>rw[List.length_map,Nat.mul_one]
  case qc2=>exact HA.out
  case qc3=>intro u hu;obtain ⟨z,_,rfl⟩:=List.mem_map.1 hu;rfl
  case qc4=>unfold maxLen;omega
  case qc5=>omega
  case qc6=>simp
  intro v' w1 hown hgrow hnil
  go_wp2
  go_ret
  have hown':w1.ownsRow w.heap.size 3 1 v' xs.length (xs.map (Value.int .i64)):=by simpa using hown
  exact ⟨v',rfl,jCvT.own hown' hx,((Below.refl _ w).alloc (Nat.le_refl _) _).grown hgrow (by simp) (by intro k hk;simp[Value.ownBlock] at hk;omega),Fresh.own hown'⟩
set_option maxHeartbeats 800000 in
set_option maxRecDepth 100000 in
theorem zb1r (v:Value) (xs:List Pt) (w:World) (hv:IsPts w v xs) (hl:xs.length≤1000000) :
  Calls Tryz.prog 122 #[v] w fun e w'=>∃r,e=.returned r∧IsPts w' r xs∧Below w.heap.size w w'∧Fresh w.heap.size r:=by
 obtain ⟨ao,ca,rfl,hx,hc⟩:=hv
 have q22:∀(w:World) (a:Option Addr) (n c n' c':Nat),(binOp .eql 46 (.slice a n c) (.slice none n' c')).run Tryz.prog w=.ok (.bool a.isNone) w:=fun w a n c n' c'=>Lib.run_eql_slice_nil w _ _ a n c n' c' Tryz.underlying46
 cases ao with
 | none =>
  have hn:xs=[]:=by
   rcases hc with h|⟨b,off,h,_⟩
   ·exact h
   ·cases h
  subst hn
  go_enter Tryz.func122,Tryz.ntmps122
  go_wp2
  go_ret
  exact ⟨_,rfl,IsPts.nil _,Below.refl _ _,Fresh.nil _⟩
 | some a =>
  obtain ⟨i0,hi,hz0,hz1,hz2⟩:=info_parts Tryz.infoSpot
  have HA:=hide (show ∀j u,(xs.flatMap ptL)[j]?=some u→(w.alloc (.cells #[] 97)).cell? (a.add j)=some u from qkro _ hc)
  clear hc
  go_enter Tryz.func122,Tryz.ntmps122
  go_wp2_with (at_builtin;refine wpList_append_own _ rfl _ _ 46 rfl w.heap.size 97 i0 spZ 2 16 Tryz.underlying46 hi hz0 hz1 hz2 rfl (by decide) _ _ _ rfl (World.ownsRow_made w #[] 0 (Nat.le_refl _) (Nat.zero_le _) (by simp)) a xs.length ca (xs.flatMap ptL) rfl ?qc1 ?qc2 ?qc3 ?qc4 ?qc5 ?qc6 ?_)
  case qc1=>exact jn2Z xs
  case qc2=>exact HA.out
  case qc3=>exact XWez xs
  case qc4=>unfold maxLen;omega
  case qc5=>omega
  case qc6=>simp
  intro v' w1 hown hgrow hnil
  go_wp2
  go_ret
  have hown':w1.ownsRow w.heap.size 97 2 v' xs.length (xs.flatMap ptL):=by simpa using hown
  exact ⟨v',rfl,IsPts.own hown' hx,((Below.refl _ w).alloc (Nat.le_refl _) _).grown hgrow (by simp) (by intro k hk;simp[Value.ownBlock] at hk;omega),Fresh.own hown'⟩
set_option maxHeartbeats 800000 in
set_option maxRecDepth 100000 in
theorem jWhh (v:Value) (xs:List Pt) (w:World) (hv:IsPts w v xs) (hl:xs.length≤1000000) :
  Calls Tryz.prog 123 #[v] w fun e w'=>∃r,e=.returned r∧IsPts w' r xs∧Below w.heap.size w w'∧Fresh w.heap.size r:=by
 obtain ⟨ao,ca,rfl,hx,hc⟩:=hv
 have q22:∀(w:World) (a:Option Addr) (n c n' c':Nat),(binOp .eql 49 (.slice a n c) (.slice none n' c')).run Tryz.prog w=.ok (.bool a.isNone) w:=fun w a n c n' c'=>Lib.run_eql_slice_nil w _ _ a n c n' c' Tryz.underlying49
 cases ao with
 | none =>
  have hn:xs=[]:=by
   rcases hc with h|⟨b,off,h,_⟩
   ·exact h
   ·cases h
  subst hn
  go_enter Tryz.func123,Tryz.ntmps123
  go_wp2
  go_ret
  exact ⟨_,rfl,IsPts.nil _,Below.refl _ _,Fresh.nil _⟩
 | some a =>
  obtain ⟨i0,hi,hz0,hz1,hz2⟩:=info_parts Tryz.infoPoint
  have HA:=hide (show ∀j u,(xs.flatMap ptL)[j]?=some u→(w.alloc (.cells #[] 66)).cell? (a.add j)=some u from qkro _ hc)
  clear hc
  go_enter Tryz.func123,Tryz.ntmps123
  go_wp2_with (at_builtin;refine wpList_append_own _ rfl _ _ 49 rfl w.heap.size 66 i0 spZ 2 16 Tryz.underlying49 hi hz0 hz1 hz2 rfl (by decide) _ _ _ rfl (World.ownsRow_made w #[] 0 (Nat.le_refl _) (Nat.zero_le _) (by simp)) a xs.length ca (xs.flatMap ptL) rfl ?qc1 ?qc2 ?qc3 ?qc4 ?qc5 ?qc6 ?_)
  case qc1=>exact jn2Z xs
  case qc2=>exact HA.out
  case qc3=>exact XWez xs
  case qc4=>unfold maxLen;omega
  case qc5=>omega
  case qc6=>simp
  intro v' w1 hown hgrow hnil
  go_wp2
  go_ret
  have hown':w1.ownsRow w.heap.size 66 2 v' xs.length (xs.flatMap ptL):=by simpa using hown
  exact ⟨v',rfl,IsPts.own hown' hx,((Below.refl _ w).alloc (Nat.le_refl _) _).grown hgrow (by simp) (by intro k hk;simp[Value.ownBlock] at hk;omega),Fresh.own hown'⟩
end Go.Proofs.YtfjeonehdlphiaaGreatDoor

namespace Go.Proofs.YtfjeonehdlphiaaGreatDoor
set_option linter.unusedVariables false
set_option linter.unusedSimpArgs false
open Go.RowKit
def ix (l:List Int) (k:Nat):Int:=l.getD k 0
def pq8 (mk:Int→Plan) (l:List UInt8):Option (Plan×List UInt8):=match numP l with
 | none=>none
 | some (am,u)=>some (mk am,u)
def pq7 (b4:List UInt8→Nat) (ph:Int) (bl:List Int) (wh:Int) (sp:List Pt) (ga ma:List Int) (l:List UInt8):Option (Plan×List UInt8):=match listP pairP b4 l with
 | none=>none
 | some (cu,u)=>pq8 (fun am=>⟨ph,ix bl,wh,sp,ix ga,ix ma,cu,am⟩) u
def pq6 (b4:List UInt8→Nat) (ph:Int) (bl:List Int) (wh:Int) (sp:List Pt) (ga:List Int) (l:List UInt8):Option (Plan×List UInt8):=match manyP numP 9 l with
 | none=>none
 | some (ma,u)=>pq7 b4 ph bl wh sp ga ma u
def pq5 (b4:List UInt8→Nat) (ph:Int) (bl:List Int) (wh:Int) (sp:List Pt) (l:List UInt8):Option (Plan×List UInt8):=match manyP numP 3 l with
 | none=>none
 | some (ga,u)=>pq6 b4 ph bl wh sp ga u
def pq4 (b3 b4:List UInt8→Nat) (ph:Int) (bl:List Int) (wh:Int) (l:List UInt8):Option (Plan×List UInt8):=match listP pairP b3 l with
 | none=>none
 | some (sp,u)=>pq5 b4 ph bl wh sp u
def pq3 (b3 b4:List UInt8→Nat) (ph:Int) (bl:List Int) (l:List UInt8):Option (Plan×List UInt8):=match numP l with
 | none=>none
 | some (wh,u)=>pq4 b3 b4 ph bl wh u
def pq2 (b3 b4:List UInt8→Nat) (ph:Int) (l:List UInt8):Option (Plan×List UInt8):=match manyP numP 4 l with
 | none=>none
 | some (bl,u)=>pq3 b3 b4 ph bl u
def planP (b3 b4:List UInt8→Nat) (l:List UInt8):Option (Plan×List UInt8):=match numP l with
 | none=>none
 | some (ph,u)=>pq2 b3 b4 ph u
theorem qbhm {α:Type} {p:List UInt8→Option (α×List UInt8)} {m:Nat} {l:List UInt8} (h:cntP m l=none):listP p (fun _=>m) l=none:=by
 unfold cntP at h
 unfold listP
 cases h1:numP l with
 | none=>rfl
 | some x =>
  obtain ⟨n,t⟩:=x
  rw[h1] at h
  simp only at h ⊢
  split at h
  ·cases h
  ·rename_i h2;rw[if_neg h2]
theorem qf3O {α:Type} {p:List UInt8→Option (α×List UInt8)} {m:Nat} {l t:List UInt8} {n:Int} (h:cntP m l=some (n,t)):∃N:Nat,n=N∧N≤m∧listP p (fun _=>m) l=manyP p N t∧t.length+4=l.length:=by
 rw[cntP] at h
 split at h
 ·cases h
 ·rename_i n' t' h1
  split at h
  ·rename_i h2
   cases h
   refine ⟨n.toNat,by omega,by omega,?_,zNNZ h1⟩
   rw[listP]
   simp only[h1]
   rw[if_pos h2]
  ·cases h
theorem X8f4 {α:Type} {p:List UInt8→Option (α×List UInt8)} (hp:∀l a t,p l=some (a,t)→t.length≤l.length) {n:Nat} {l t:List UInt8} {ys:List α} (h:manyP p n l=some (ys,t)):t.length≤l.length:=by
 induction n generalizing ys t with
 | zero=>simp only[manyP,Option.some.injEq,Prod.mk.injEq] at h;rw[h.2];exact Nat.le_refl _
 | succ n ih =>
  rw[manyP] at h
  split at h
  ·cases h
  ·rename_i ys' t' h1
   split at h
   ·cases h
   ·rename_i a t'' h2
    cases h
    exact Nat.le_trans (hp _ _ _ h2) (ih h1)
theorem jN2l {l t:List UInt8} {n:Int} (h:numP l=some (n,t)):t.length≤l.length:=by have:=zNNZ h;omega
theorem qgnh {l t:List UInt8} {p:Pt} (h:pairP l=some (p,t)):t.length≤l.length:=by
 rw[(jYsO.sound _ _ _ h).1,List.length_append];omega
structure PJ (B b:Nat) (w:World) (X:List (Nat×TypeId×List Value)) (l:List UInt8) (cs:List Value) (V:World):Prop where
 bw:b<w.heap.size
 Bw:B≤b
 sep:∀x∈X,w.heap.size+1<x.1
 st:RSt B b w V
 rd:IsRd b l V
 res:Holds w.heap.size 51 planZ.toList V
 box:Holds (w.heap.size+1) 51 cs V
 ex:∀x∈X,Holds x.1 x.2.1 x.2.2 V
theorem Holds.lt {g:Nat} {t:TypeId} {cs:List Value} {V:World} (h:Holds g t cs V):g<V.heap.size:=(Array.getElem?_eq_some_iff.1 h).1
theorem PJ.num {B b:Nat} {w:World} {X:List (Nat×TypeId×List Value)} {l t:List UInt8} {cs:List Value} {V V':World} (h:PJ B b w X l cs V) (hs:RSt B b V V') (hr:IsRd b t V'):PJ B b w X t cs V' where
 bw:=h.bw
 Bw:=h.Bw
 sep:=h.sep
 st:=h.st.trans hs
 rd:=hr
 res:=(hs.keep _ h.res.lt (by have:=h.bw;omega)).trans h.res
 box:=(hs.keep _ h.box.lt (by have:=h.bw;omega)).trans h.box
 ex:=fun x hx=>(hs.keep _ (h.ex x hx).lt (by have:=h.bw;have:=h.sep x hx;omega)).trans (h.ex x hx)
theorem PJ.fill {B b:Nat} {w:World} {X:List (Nat×TypeId×List Value)} {l t:List UInt8} {cs cs':List Value} {V V':World} (h:PJ B b w X l cs V) (hs:RSt2 B b (w.heap.size+1) V V') (hr:IsRd b t V') (hh:Holds (w.heap.size+1) 51 cs' V'):PJ B b w X t cs' V' where
 bw:=h.bw
 Bw:=h.Bw
 sep:=h.sep
 st:=⟨h.st.bel.trans hs.bel,fun k h1 h2=>(hs.keep k (Nat.lt_of_lt_of_le h1 h.st.bel.size) h2 (by omega)).trans (h.st.keep k h1 h2)⟩
 rd:=hr
 res:=(hs.keep _ h.res.lt (by have:=h.bw;omega) (by omega)).trans h.res
 box:=hh
 ex:=fun x hx=>(hs.keep _ (h.ex x hx).lt (by have:=h.bw;have:=h.sep x hx;omega) (by have:=h.sep x hx;omega)).trans (h.ex x hx)
theorem PJ.put {B b:Nat} {w:World} {X:List (Nat×TypeId×List Value)} {l:List UInt8} {cs:List Value} {V:World} (h:PJ B b w X l cs V) (i:Nat) (v:Value) (h1:v.oneCell'=true):PJ B b w X l (cs.set i v) (V.setCell ⟨w.heap.size+1,i,none⟩ v):=by
 obtain ⟨hh,hs⟩:=h.box.set (B:=B) (b:=b) (by have:=h.bw;have:=h.Bw;omega) i v h1
 exact h.fill hs ((Below.heap_setCell _ _ _ _ (by have:=h.bw;show b≠w.heap.size+1;omega)).trans h.rd) hh
theorem PJ.alloc {B b:Nat} {w:World} {X:List (Nat×TypeId×List Value)} {l:List UInt8} {cs:List Value} {V:World} (h:PJ B b w X l cs V) (ds:List Value) (t:TypeId):PJ B b w ((V.heap.size,t,ds)::X) l cs (V.alloc (.cells ds.toArray t)) where
 bw:=h.bw
 Bw:=h.Bw
 sep:=fun x hx=>by
  rcases List.mem_cons.1 hx with rfl|hx
  ·exact h.box.lt
  ·exact h.sep x hx
 st:=h.st.trans (RSt.alloc (by have:=h.st.bel.size;have:=h.bw;have:=h.Bw;omega) _)
 rd:=qgz9 h.rd _
 res:=((qUNz V _).block _ h.res.lt).trans h.res
 box:=((qUNz V _).block _ h.box.lt).trans h.box
 ex:=fun x hx=>by
  rcases List.mem_cons.1 hx with rfl|hx
  ·exact al1 V _
  ·exact ((qUNz V _).block _ (h.ex x hx).lt).trans (h.ex x hx)
theorem PJ.drew {B b:Nat} {w:World} {X:List (Nat×TypeId×List Value)} {l:List UInt8} {cs:List Value} {V:World} (h:PJ B b w X l cs V):PJ B b w X l cs V.drew :=
 ⟨h.bw,h.Bw,h.sep,h.st.trans RSt.drew,h.rd,h.res,h.box,h.ex⟩
theorem PJ.two {B b:Nat} {w:World} {X:List (Nat×TypeId×List Value)} {g:Nat} {t:TypeId} {ds:List Value} {l:List UInt8} {cs:List Value} {V:World} (h:PJ B b w ((g,t,ds)::X) l cs V) (hX:∀x∈X,x.1≠g) (i:Nat) (v u:Value) :
  PJ B b w ((g,t,(ds.set i v).set (i+1) u)::X) l cs ((V.setCell ⟨g,i,none⟩ v).setCell ⟨g,i+1,none⟩ u):=by
 have hg:=h.sep (g,t,ds) (by simp)
 have hb:=h.bw
 have hk:∀k,k≠g→((V.setCell ⟨g,i,none⟩ v).setCell ⟨g,i+1,none⟩ u).heap[k]?=V.heap[k]?:=fun k hk=>(Below.heap_setCell _ _ _ _ (fun e=>hk e)).trans (Below.heap_setCell _ _ _ _ (fun e=>hk e))
 have hB:B≤g:=by have:=h.Bw;simp only at hg;omega
 refine ⟨h.bw,h.Bw,?_,?_,(hk b (by simp only at hg;omega)).trans h.rd,(hk _ (by simp only at hg;omega)).trans h.res,(hk _ (by simp only at hg;omega)).trans h.box,?_⟩
 ·intro x hx
  rcases List.mem_cons.1 hx with rfl|hx
  ·exact hg
  ·exact h.sep x (by simp[hx])
 ·refine ⟨(h.st.bel.setCell (p:=⟨g,i,none⟩) hB v).setCell (p:=⟨g,i+1,none⟩) hB u,fun k h1 h2=>(hk k (by simp only at hg;omega)).trans (h.st.keep k h1 h2)⟩
 ·intro x hx
  rcases List.mem_cons.1 hx with rfl|hx
  ·have h0:=h.ex (g,t,ds) (by simp)
   unfold Holds at h0 ⊢
   simp[World.setCell,Array.getElem?_modify,h0]
  ·exact (hk _ (hX x hx)).trans (h.ex x (by simp[hx]))
theorem Xe7R (ns:List Pt) (M:Nat) (x y:Int):((ns.flatMap ptL++List.replicate (2*(M+1)) (Value.int .i64 0)).set (ns.length*2) (.int .i64 x)).set (ns.length*2+1) (.int .i64 y)=(ns++[(x,y)]).flatMap ptL++List.replicate (2*M) (Value.int .i64 0):=by
 have hl:=jn2Z ns
 rw[List.set_append_right _ _ (by omega),hl,Nat.sub_self,show 2*(M+1)=2*M+1+1 by omega,List.replicate_succ,List.replicate_succ,List.set_cons_zero,List.set_append_right _ _ (by omega),hl,show ns.length*2+1-ns.length*2=1 by omega]
 simp[ptL,List.flatMap_append]
theorem jBLQ {g:Nat} {t:TypeId} {ns:List Pt} {V:World} (h:Holds g t (ns.flatMap ptL) V) (hn:ns.length≤1048576):IsPts V (.slice (some ⟨g,0,none⟩) ns.length ns.length) ns:=by
 refine ⟨_,_,rfl,by omega,.inr ⟨g,0,rfl,h.lt,fun j hj=>?_⟩⟩
 obtain ⟨e1,e2⟩:=zWQA ns j hj
 rw[Nat.zero_add,Lib.cell_of_heap h,Lib.cell_of_heap h]
 simp only[List.getElem?_toArray]
 exact ⟨e1,e2⟩
theorem XG5t (N:Nat):(madeCells #[Value.int .i64 0,.int .i64 0] (N*2))=(List.replicate (2*N) (Value.int .i64 0)).toArray:=by
 refine Array.ext (by simp[madeCells];omega) fun i h1 h2=>?_
 simp only[madeCells,Array.getElem_ofFn,List.getElem_toArray,List.getElem_replicate]
 have:i % (#[Value.int .i64 0,.int .i64 0]:Array Value).size<2:=Nat.mod_lt _ (by decide)
 rcases (show i % 2=0∨i % 2=1 by omega) with e|e<;>simp[e]
set_option maxRecDepth 100000 in
set_option maxHeartbeats 6400000 in
theorem jh1c (B b:Nat) (l:List UInt8) (w:World) (hB:B≤b) (h:IsRd b l w) (hl:l.length≤140737488355328) :
  Calls Tryz.prog 165 #[.pointer (some ⟨b,0,none⟩)] w fun e w'=>RSt B b w w'∧((∃n sv cv u,planP (fun _=>64) (fun _=>16) l=some (n,u)∧e=.returned (.agg (planA n sv cv))∧IsRd b u w'∧X1uD w' n sv cv∧Fresh w.heap.size sv∧Fresh w.heap.size cv)∨(planP (fun _=>64) (fun _=>16) l=none∧e=panE)):=by
 have hbw:b<w.heap.size:=(Array.getElem?_eq_some_iff.1 h).1
 have hBw:B≤w.heap.size:=by omega
 have HJ0:PJ B b w [] l planZ.toList ((w.alloc (.cells planZ 51)).alloc (.cells planZ 51)):=by
  obtain ⟨a1,a2⟩:=al2 w (Obj.cells planZ 51) (Obj.cells planZ 51)
  exact ⟨hbw,hB,by simp,(RSt.alloc hBw _).trans (RSt.alloc (by simp;omega) _),qgz9 (qgz9 h _) _,a1,a2,by simp⟩
 have HJ:=hide HJ0
 clear HJ0 h
 obtain ⟨R,HP⟩:∃R,Hid (R=planP (fun _=>64) (fun _=>16) l):=⟨_,rfl⟩
 rw[←HP.out]
 go_enter Tryz.func165,Tryz.ntmps165
 go_wp2_with fail
 generalize (w.alloc (.cells planZ 51)).alloc (.cells planZ 51)=V0 at *
 refine (qI49 B b l V0 hB (Nat.le_trans hBw HJ.out.st.bel.size) HJ.out.rd (by omega)).mono ?_
 rintro e V1 ⟨hS,hc⟩
 rcases hc with ⟨ph,l1,hp,rfl,hR⟩|⟨hp,rfl⟩
 rotate_left
 ·exact ⟨rfl,HJ.out.st.trans hS,.inr ⟨by rw[HP.out,planP,hp],rfl⟩⟩
 replace HP:=hide (show R=pq2 (fun _=>64) (fun _=>16) ph l1 by rw[HP.out,planP,hp])
 have hl1:l1.length≤140737488355328:=by have:=jN2l hp;omega
 replace HJ:=hide (HJ.out.num hS hR)
 have ci:V1.cell? ⟨w.heap.size+1,0,none⟩=some (.int .i64 0):=by rw[Lib.cell_of_heap HJ.out.box];rfl
 have fi:V1.frozen? ⟨w.heap.size+1,0,none⟩=false:=Lib.frozen_of_heap HJ.out.box _
 replace HJ:=hide (HJ.out.put 0 (.int .i64 ph) rfl)
 clear hp hS hR
 replace HJ:=hide (show PJ B b w [] l1 [.int .i64 ph,.int .i64 0,.int .i64 0,.int .i64 0,.int .i64 0,.int .i64 0,.slice none 0 0,.int .i64 0,.int .i64 0,.int .i64 0,.int .i64 0,.int .i64 0,.int .i64 0,.int .i64 0,.int .i64 0,.int .i64 0,.int .i64 0,.int .i64 0,.int .i64 0,.slice none 0 0,.int .i64 0] (V1.setCell ⟨w.heap.size+1,0,none⟩ (.int .i64 ph)) from HJ.out)
 go_wp2_with fail
 clear ci fi
 generalize V1.setCell ⟨w.heap.size+1,0,none⟩ (.int .i64 ph)=V1' at *
 have hz:∀i,i<4→∃z:Int,([.int .i64 ph,.int .i64 0,.int .i64 0,.int .i64 0,.int .i64 0,.int .i64 0,.slice none 0 0,.int .i64 0,.int .i64 0,.int .i64 0,.int .i64 0,.int .i64 0,.int .i64 0,.int .i64 0,.int .i64 0,.int .i64 0,.int .i64 0,.int .i64 0,.int .i64 0,.slice none 0 0,.int .i64 0]:List Value)[1+i]?=some (.int .i64 z):=fun i hi=>by
  rcases (show i=0∨i=1∨i=2∨i=3 by omega) with rfl|rfl|rfl|rfl<;>exact ⟨_,rfl⟩
 refine (qKIr B b (w.heap.size+1) 1 4 4 51 [.int .i64 ph,.int .i64 0,.int .i64 0,.int .i64 0,.int .i64 0,.int .i64 0,.slice none 0 0,.int .i64 0,.int .i64 0,.int .i64 0,.int .i64 0,.int .i64 0,.int .i64 0,.int .i64 0,.int .i64 0,.int .i64 0,.int .i64 0,.int .i64 0,.int .i64 0,.slice none 0 0,.int .i64 0] l1 V1' hB (by omega) (by omega) (Nat.le_trans hBw HJ.out.st.bel.size) HJ.out.rd (by omega) HJ.out.box (by simp) (by omega) hz).mono ?_
 rintro e V2 ⟨hS,hc⟩
 rcases hc with ⟨ns,l2,hp,rfl,hR,hH⟩|⟨hp,rfl⟩
 rotate_left
 ·exact ⟨rfl,⟨HJ.out.st.bel.trans hS.bel,fun k h1 h2=>(hS.keep k (Nat.lt_of_lt_of_le h1 HJ.out.st.bel.size) h2 (by omega)).trans (HJ.out.st.keep k h1 h2)⟩,.inr ⟨by rw[HP.out,pq2,hp],rfl⟩⟩
 obtain ⟨a0,a1,a2,a3,rfl⟩:∃a0 a1 a2 a3,ns=[a0,a1,a2,a3]:=by
  have hlen:=jPlP hp
  match ns,hlen with
  | [a0,a1,a2,a3],_=>exact ⟨a0,a1,a2,a3,rfl⟩
 replace HP:=hide (show R=pq3 (fun _=>64) (fun _=>16) ph [a0,a1,a2,a3] l2 by rw[HP.out,pq2,hp])
 have hl2:l2.length≤140737488355328:=by have:=X8f4 (fun _ _ _=>jN2l) hp;omega
 replace HJ:=hide (HJ.out.fill hS hR hH)
 clear hp hS hR hH hz
 replace HJ:=hide (show PJ B b w [] l2 [.int .i64 ph,.int .i64 a0,.int .i64 a1,.int .i64 a2,.int .i64 a3,.int .i64 0,.slice none 0 0,.int .i64 0,.int .i64 0,.int .i64 0,.int .i64 0,.int .i64 0,.int .i64 0,.int .i64 0,.int .i64 0,.int .i64 0,.int .i64 0,.int .i64 0,.int .i64 0,.slice none 0 0,.int .i64 0] V2 from HJ.out)
 go_wp2_with fail
 refine (qI49 B b l2 V2 hB (Nat.le_trans hBw HJ.out.st.bel.size) HJ.out.rd (by omega)).mono ?_
 rintro e V3 ⟨hS,hc⟩
 rcases hc with ⟨wh,l3,hp,rfl,hR⟩|⟨hp,rfl⟩
 rotate_left
 ·exact ⟨rfl,HJ.out.st.trans hS,.inr ⟨by rw[HP.out,pq3,hp],rfl⟩⟩
 replace HP:=hide (show R=pq4 (fun _=>64) (fun _=>16) ph [a0,a1,a2,a3] wh l3 by rw[HP.out,pq3,hp])
 have hl3:l3.length≤140737488355328:=by have:=jN2l hp;omega
 replace HJ:=hide (HJ.out.num hS hR)
 have ci:V3.cell? ⟨w.heap.size+1,5,none⟩=some (.int .i64 0):=by rw[Lib.cell_of_heap HJ.out.box];rfl
 have fi:V3.frozen? ⟨w.heap.size+1,5,none⟩=false:=Lib.frozen_of_heap HJ.out.box _
 replace HJ:=hide (HJ.out.put 5 (.int .i64 wh) rfl)
 clear hp hS hR
 replace HJ:=hide (show PJ B b w [] l3 [.int .i64 ph,.int .i64 a0,.int .i64 a1,.int .i64 a2,.int .i64 a3,.int .i64 wh,.slice none 0 0,.int .i64 0,.int .i64 0,.int .i64 0,.int .i64 0,.int .i64 0,.int .i64 0,.int .i64 0,.int .i64 0,.int .i64 0,.int .i64 0,.int .i64 0,.int .i64 0,.slice none 0 0,.int .i64 0] (V3.setCell ⟨w.heap.size+1,5,none⟩ (.int .i64 wh)) from HJ.out)
 go_wp2_with fail
 clear ci fi
 generalize V3.setCell ⟨w.heap.size+1,5,none⟩ (.int .i64 wh)=V3' at *
 refine (zbMh B b 64 l3 V3' hB (Nat.le_trans hBw HJ.out.st.bel.size) HJ.out.rd (by omega)).mono ?_
 rintro e V4 ⟨hS,hc⟩
 rcases hc with ⟨n,l4,hp,rfl,hR⟩|⟨hp,rfl⟩
 rotate_left
 ·exact ⟨rfl,HJ.out.st.trans hS,.inr ⟨by rw[HP.out,pq4,qbhm hp],rfl⟩⟩
 obtain ⟨N4,rfl,hN4,hlp,hlen⟩:=qf3O (p:=pairP) hp
 have HLP:=hide hlp
 have hl4:l4.length≤140737488355328:=by omega
 replace HJ:=hide (HJ.out.num hS hR)
 clear hp hS hR hlp hlen
 obtain ⟨i0,hi,hz0,hz1,hz2⟩:=info_parts Tryz.infoSpot
 obtain ⟨ZA,hZA⟩:∃ZA:Array Value,(List.replicate (2*N4) (Value.int .i64 0)).toArray=ZA:=⟨_,rfl⟩
 have hmk:∀V:World,(Instr.makeSlice 46 (.int .i64 N4) (.int .i64 N4)).run Tryz.prog V=.ok (.slice (some ⟨V.heap.size,0,none⟩) N4 N4) (V.alloc (.cells ZA 97)):=fun V=>by
  have h:=run_make (P:=Tryz.prog) V 46 97 i0 spZ Tryz.underlying46 hi hz0 .i64 .i64 N4 N4 (by omega) (Int.le_refl _) (by rw[hz2];omega) (by omega)
  rw[hz1,Int.toNat_natCast] at h
  rw[←hZA,←XG5t]
  simpa [spZ,Value.cells] using h
 clear hi hz0 hz1 hz2
 have hxs4:∀x∈([]:List (Nat×TypeId×List Value)),x.1≠V4.heap.size:=fun x hx=>by have:=(HJ.out.ex x hx).lt;omega
 have ci:V4.cell? ⟨w.heap.size+1,6,none⟩=some (.slice none 0 0):=by rw[Lib.cell_of_heap HJ.out.box];rfl
 have fi:V4.frozen? ⟨w.heap.size+1,6,none⟩=false:=Lib.frozen_of_heap HJ.out.box _
 have hbl:w.heap.size+1<V4.heap.size:=HJ.out.box.lt
 have ci':(V4.alloc (.cells ZA 97)).cell? ⟨w.heap.size+1,6,none⟩=some (.slice none 0 0):=by rw[Lib.cell_of_heap (((qUNz V4 _).block _ HJ.out.box.lt).trans HJ.out.box)];rfl
 have fi':(V4.alloc (.cells ZA 97)).frozen? ⟨w.heap.size+1,6,none⟩=false:=Lib.frozen_of_heap (((qUNz V4 _).block _ HJ.out.box.lt).trans HJ.out.box) _
 replace HJ:=hide ((HJ.out.put 6 (.slice (some ⟨V4.heap.size,0,none⟩) N4 N4) rfl).alloc (List.replicate (2*N4) (Value.int .i64 0)) 97)
 rw[hZA,show (V4.setCell ⟨w.heap.size+1,6,none⟩ (.slice (some ⟨V4.heap.size,0,none⟩) N4 N4)).heap.size=V4.heap.size by simp[World.setCell]] at HJ
 clear hZA
 have hsep4:w.heap.size+1<V4.heap.size:=HJ.out.sep _ List.mem_cons_self
 go_upto_region 6 with fail
 clear ci fi ci' fi' hmk hbl
 generalize V4.heap.size=S4 at *
 generalize (V4.setCell ⟨w.heap.size+1,6,none⟩ (.slice (some ⟨S4,0,none⟩) N4 N4)).alloc (.cells ZA 97)=VA at *
 have cj:VA.cell? ⟨w.heap.size+1,6,none⟩=some (.slice (some ⟨S4,0,none⟩) N4 N4):=by rw[Lib.cell_of_heap HJ.out.box];rfl
 go_wp2_with fail
 clear cj
 replace HJ:=hide (show PJ B b w [(S4,97,[].flatMap ptL++List.replicate (2*(N4-0)) (Value.int .i64 0))] l4 [.int .i64 ph,.int .i64 a0,.int .i64 a1,.int .i64 a2,.int .i64 a3,.int .i64 wh,.slice (some ⟨S4,0,none⟩) N4 N4,.int .i64 0,.int .i64 0,.int .i64 0,.int .i64 0,.int .i64 0,.int .i64 0,.int .i64 0,.int .i64 0,.int .i64 0,.int .i64 0,.int .i64 0,.int .i64 0,.slice none 0 0,.int .i64 0] VA from HJ.out)
 go_loopw [23] (fun i wr=>∃k:Nat,k≤N4∧i=.int .i64 k∧∃ns u,manyP pairP k l4=some (ns,u)∧PJ B b w [(S4,97,ns.flatMap ptL++List.replicate (2*(N4-k)) (Value.int .i64 0))] u [.int .i64 ph,.int .i64 a0,.int .i64 a1,.int .i64 a2,.int .i64 a3,.int .i64 wh,.slice (some ⟨S4,0,none⟩) N4 N4,.int .i64 0,.int .i64 0,.int .i64 0,.int .i64 0,.int .i64 0,.int .i64 0,.int .i64 0,.int .i64 0,.int .i64 0,.int .i64 0,.int .i64 0,.int .i64 0,.slice none 0 0,.int .i64 0] wr) (fun i _=>N4-(intOf i).toNat)
 case atStart=>exact ⟨0,Nat.zero_le _,rfl,[],l4,rfl,HJ.out⟩
 case round =>
  clear HJ
  obtain ⟨k,hk,rfl,ns,u,hm,hJ⟩:=hrel
  have HJ:=hide hJ
  clear hJ
  have hnl:=jPlP hm
  have hul:=X8f4 (fun _ _ _=>qgnh) hm
  by_cases hlt:k<N4
  ·have hd:decide ((k:Int)<(N4:Int))=true:=by simp;omega
   have HM:=hide hm
   have HSQ:=hide (fun (v:World) (cs':List UInt8) (hv:PJ B b w [(S4,97,ns.flatMap ptL++List.replicate (2*(N4-k)) (Value.int .i64 0))] cs' [.int .i64 ph,.int .i64 a0,.int .i64 a1,.int .i64 a2,.int .i64 a3,.int .i64 wh,.slice (some ⟨S4,0,none⟩) N4 N4,.int .i64 0,.int .i64 0,.int .i64 0,.int .i64 0,.int .i64 0,.int .i64 0,.int .i64 0,.int .i64 0,.int .i64 0,.int .i64 0,.int .i64 0,.int .i64 0,.slice none 0 0,.int .i64 0] v)=>show v.cell? ⟨w.heap.size+1,6,none⟩=some (.slice (some ⟨S4,0,none⟩) N4 N4)∧True from ⟨by rw[Lib.cell_of_heap hv.box];rfl,trivial⟩)
   clear hm
   go_upto_region 9 with fail
   have HJd:=hide HJ.out.drew
   have hSd:=HSQ.out _ _ HJd.out
   have hmx:Tryz.prog.follows .mixedOrders=true:=by kernel_rfl
   refine qYgd (S:=(fun v:World=>v.cell? ⟨w.heap.size+1,6,none⟩=some (.slice (some ⟨S4,0,none⟩) N4 N4)∧True)) (f:=9) hmx ?_
   show jZdv _ _ _ _ _ _ 10 _ _ wr.drew
   refine takeQ 0 ?vv1 (some 26) [] ?yy1 hSd ?rr1
   case yy1=>(intro wq hSq;obtain ⟨_,_⟩:=hSq;go_simp<;>with_reducible rfl)
   simp only[Act.put,List.setIfInBounds_toArray,List.set_cons_succ,List.set_cons_zero]
   refine takeQ 2 ?vv2 (some 28) [] ?yy2 hSd ?rr2
   case yy2=>(intro wq hSq;obtain ⟨_,_⟩:=hSq;go_simp<;>with_reducible rfl)
   simp only[Act.put,List.setIfInBounds_toArray,List.set_cons_succ,List.set_cons_zero]
   refine takeQ 3 ?vv3 (some 29) [] ?yy3 hSd ?rr3
   case yy3=>(intro wq hSq;obtain ⟨_,_⟩:=hSq;go_simp<;>with_reducible rfl)
   simp only[Act.put,List.setIfInBounds_toArray,List.set_cons_succ,List.set_cons_zero]
   refine takeQ 5 ?vv4 (some 31) [] ?yy4 hSd ?rr4
   case yy4=>(intro wq hSq;obtain ⟨_,_⟩:=hSq;go_simp<;>with_reducible rfl)
   simp only[Act.put,List.setIfInBounds_toArray,List.set_cons_succ,List.set_cons_zero]
   refine takeQ 1 ?vv5 (some 27) [] ?yy5 hSd ?rr5
   case yy5=>(intro wq hSq;obtain ⟨_,_⟩:=hSq;go_simp<;>with_reducible rfl)
   simp only[Act.put,List.setIfInBounds_toArray,List.set_cons_succ,List.set_cons_zero]
   refine znWj (i:=4) (o:=_) (by kernel_rfl) rfl (fun K' hK=>?_)
   rw[if_pos (by rfl)]
   go_simp
   refine (qI49 B b u wr.drew hB (Nat.le_trans hBw HJd.out.st.bel.size) HJd.out.rd (by omega)).mono ?_
   rintro e X1 ⟨hS,hc⟩
   rcases hc with ⟨x,u1,hp,rfl,hR⟩|⟨hp,rfl⟩
   rotate_left
   ·exact ⟨rfl,HJd.out.st.trans hS,.inr ⟨by rw[HP.out,pq4,HLP.out,XLXy HM.out (by rw[pairP,hp]) hlt],rfl⟩⟩
   have HP1:=hide hp
   have hu1:=jN2l hp
   have HJ1:=hide (HJd.out.num hS hR)
   clear hp hS hR
   have hSd:=HSQ.out _ _ HJ1.out
   refine hK.out _ _ hSd ?_
   clear hK
   try simp only[Act.put]
   refine znWj (i:=6) (o:=_) (by kernel_rfl) rfl (fun K' hK=>?_)
   rw[if_pos (by rfl)]
   go_simp
   refine (qI49 B b u1 X1 hB (Nat.le_trans hBw HJ1.out.st.bel.size) HJ1.out.rd (by omega)).mono ?_
   rintro e X2 ⟨hS,hc⟩
   rcases hc with ⟨y,u2,hp,rfl,hR⟩|⟨hp,rfl⟩
   rotate_left
   ·exact ⟨rfl,HJ1.out.st.trans hS,.inr ⟨by rw[HP.out,pq4,HLP.out,XLXy HM.out (by rw[pairP,HP1.out];simp only[hp]) hlt],rfl⟩⟩
   have HP2:=hide (show pairP u=some ((x,y),u2) by rw[pairP,HP1.out];simp only[hp])
   have HJ2:=hide (HJ1.out.num hS hR)
   clear hp hS hR
   have hcl:(ns.flatMap ptL++List.replicate (2*(N4-k)) (Value.int .i64 0)).length=N4*2:=by rw[List.length_append,jn2Z,List.length_replicate,hnl];omega
   have hH:=HJ2.out.ex (S4,97,ns.flatMap ptL++List.replicate (2*(N4-k)) (Value.int .i64 0)) (by simp)
   have g0:∃z,X2.cell? ⟨S4,k*2,none⟩=some z:=⟨_,by rw[Lib.cell_of_heap hH,List.getElem?_toArray];exact List.getElem?_eq_getElem (by rw[hcl];omega)⟩
   have g1:∃z,X2.cell? ⟨S4,k*2+1,none⟩=some z:=⟨_,by rw[Lib.cell_of_heap hH,List.getElem?_toArray];exact List.getElem?_eq_getElem (by rw[hcl];omega)⟩
   obtain ⟨z0,c0⟩:=g0
   obtain ⟨z1,c1⟩:=g1
   have f0:X2.frozen? ⟨S4,k*2,none⟩=false:=Lib.frozen_of_heap hH _
   have f1:X2.frozen? ⟨S4,k*2+1,none⟩=false:=Lib.frozen_of_heap hH _
   have HJ3:=hide (HJ2.out.two hxs4 (k*2) (.int .i64 x) (.int .i64 y))
   clear hcl hH
   have hSd:=HSQ.out _ _ HJ2.out
   refine hK.out _ _ hSd ?_
   clear hK
   try simp only[Act.put]
   refine takeQ 7 ?vv6 (some 33) [] ?yy6 hSd ?rr6
   case yy6=>(intro wq hSq;obtain ⟨_,_⟩:=hSq;go_simp<;>with_reducible rfl)
   simp only[Act.put,List.setIfInBounds_toArray,List.set_cons_succ,List.set_cons_zero]
   refine takeQ 8 ?vv7 (some 34) [] ?yy7 hSd ?rr7
   case yy7=>(intro wq hSq;obtain ⟨_,_⟩:=hSq;go_simp<;>with_reducible rfl)
   simp only[Act.put,List.setIfInBounds_toArray,List.set_cons_succ,List.set_cons_zero]
   refine z9gO (o:=_) (by kernel_rfl) rfl (fun K' hK=>?_)
   rw[if_pos (by rfl)]
   go_simp
   refine hK.out _ _ ?_
   clear hK
   refine jFdp (by kernel_rfl) ?_ _
   try simp only[Act.put]
   have HJ4:=hide (show PJ B b w [(S4,97,(ns++[(x,y)]).flatMap ptL++List.replicate (2*(N4-(k+1))) (Value.int .i64 0))] u2 [.int .i64 ph,.int .i64 a0,.int .i64 a1,.int .i64 a2,.int .i64 a3,.int .i64 wh,.slice (some ⟨S4,0,none⟩) N4 N4,.int .i64 0,.int .i64 0,.int .i64 0,.int .i64 0,.int .i64 0,.int .i64 0,.int .i64 0,.int .i64 0,.int .i64 0,.int .i64 0,.int .i64 0,.int .i64 0,.slice none 0 0,.int .i64 0] _ from by
    have h:=HJ3.out
    rw[show N4-k=N4-(k+1)+1 by omega,←hnl,Xe7R,hnl] at h
    exact h)
   have HM2:=hide (jvSA HM.out HP2.out)
   clear HJ3 HJ2 HJ1 HJd HJ hSd c0 c1 f0 f1 HSQ
   go_wp2
   go_roundw
   case rel=>exact ⟨k+1,hlt,by go_num,_,_,HM2.out,HJ4.out⟩
   case measure=>simp[intOf];omega
  ·have hd:decide ((k:Int)<(N4:Int))=false:=by simp;omega
   obtain rfl:N4=k:=by omega
   replace HP:=hide (show R=pq5 (fun _=>16) ph [a0,a1,a2,a3] wh ns u by rw[HP.out,pq4,HLP.out,hm])
   replace HJ:=hide (show PJ B b w [(S4,97,ns.flatMap ptL)] u [.int .i64 ph,.int .i64 a0,.int .i64 a1,.int .i64 a2,.int .i64 a3,.int .i64 wh,.slice (some ⟨S4,0,none⟩) N4 N4,.int .i64 0,.int .i64 0,.int .i64 0,.int .i64 0,.int .i64 0,.int .i64 0,.int .i64 0,.int .i64 0,.int .i64 0,.int .i64 0,.int .i64 0,.int .i64 0,.slice none 0 0,.int .i64 0] wr by have h:=HJ.out;rwa [Nat.sub_self,Nat.mul_zero,List.replicate_zero,List.append_nil] at h)
   have hn4:=hnl
   clear hm HLP hnl
   generalize ns=sp at *
   generalize u=l4u at *
   generalize wr=W4 at *
   have hl4u:l4u.length≤140737488355328:=by omega
   clear hul
   go_wp2_with fail
   have hz:∀i,i<3→∃z:Int,([.int .i64 ph,.int .i64 a0,.int .i64 a1,.int .i64 a2,.int .i64 a3,.int .i64 wh,.slice (some ⟨S4,0,none⟩) N4 N4,.int .i64 0,.int .i64 0,.int .i64 0,.int .i64 0,.int .i64 0,.int .i64 0,.int .i64 0,.int .i64 0,.int .i64 0,.int .i64 0,.int .i64 0,.int .i64 0,.slice none 0 0,.int .i64 0]:List Value)[7+i]?=some (.int .i64 z):=fun i hi=>by
    rcases (show i=0∨i=1∨i=2 by omega) with rfl|rfl|rfl<;>exact ⟨_,rfl⟩
   refine (qKIr B b (w.heap.size+1) 7 3 3 51 [.int .i64 ph,.int .i64 a0,.int .i64 a1,.int .i64 a2,.int .i64 a3,.int .i64 wh,.slice (some ⟨S4,0,none⟩) N4 N4,.int .i64 0,.int .i64 0,.int .i64 0,.int .i64 0,.int .i64 0,.int .i64 0,.int .i64 0,.int .i64 0,.int .i64 0,.int .i64 0,.int .i64 0,.int .i64 0,.slice none 0 0,.int .i64 0] l4u W4 hB (by omega) (by omega) (Nat.le_trans hBw HJ.out.st.bel.size) HJ.out.rd (by omega) HJ.out.box (by simp) (by omega) hz).mono ?_
   rintro e V5 ⟨hS,hc⟩
   rcases hc with ⟨ns,l5,hp,rfl,hR,hH⟩|⟨hp,rfl⟩
   rotate_left
   ·exact ⟨rfl,⟨HJ.out.st.bel.trans hS.bel,fun k h1 h2=>(hS.keep k (Nat.lt_of_lt_of_le h1 HJ.out.st.bel.size) h2 (by omega)).trans (HJ.out.st.keep k h1 h2)⟩,.inr ⟨by rw[HP.out,pq5,hp],rfl⟩⟩
   obtain ⟨g0,g1,g2,rfl⟩:∃g0 g1 g2,ns=[g0,g1,g2]:=by
    have hlen:=jPlP hp
    match ns,hlen with
    | [g0,g1,g2],_=>exact ⟨g0,g1,g2,rfl⟩
   replace HP:=hide (show R=pq6 (fun _=>16) ph [a0,a1,a2,a3] wh sp [g0,g1,g2] l5 by rw[HP.out,pq5,hp])
   have hl5:l5.length≤140737488355328:=by have:=X8f4 (fun _ _ _=>jN2l) hp;omega
   replace HJ:=hide (HJ.out.fill hS hR hH)
   clear hp hS hR hH hz
   replace HJ:=hide (show PJ B b w [(S4,97,sp.flatMap ptL)] l5 [.int .i64 ph,.int .i64 a0,.int .i64 a1,.int .i64 a2,.int .i64 a3,.int .i64 wh,.slice (some ⟨S4,0,none⟩) N4 N4,.int .i64 g0,.int .i64 g1,.int .i64 g2,.int .i64 0,.int .i64 0,.int .i64 0,.int .i64 0,.int .i64 0,.int .i64 0,.int .i64 0,.int .i64 0,.int .i64 0,.slice none 0 0,.int .i64 0] V5 from HJ.out)
   go_wp2_with fail
   have hz:∀i,i<9→∃z:Int,([.int .i64 ph,.int .i64 a0,.int .i64 a1,.int .i64 a2,.int .i64 a3,.int .i64 wh,.slice (some ⟨S4,0,none⟩) N4 N4,.int .i64 g0,.int .i64 g1,.int .i64 g2,.int .i64 0,.int .i64 0,.int .i64 0,.int .i64 0,.int .i64 0,.int .i64 0,.int .i64 0,.int .i64 0,.int .i64 0,.slice none 0 0,.int .i64 0]:List Value)[10+i]?=some (.int .i64 z):=fun i hi=>by
    rcases (show i=0∨i=1∨i=2∨i=3∨i=4∨i=5∨i=6∨i=7∨i=8 by omega) with rfl|rfl|rfl|rfl|rfl|rfl|rfl|rfl|rfl<;>exact ⟨_,rfl⟩
   refine (qKIr B b (w.heap.size+1) 10 9 9 51 [.int .i64 ph,.int .i64 a0,.int .i64 a1,.int .i64 a2,.int .i64 a3,.int .i64 wh,.slice (some ⟨S4,0,none⟩) N4 N4,.int .i64 g0,.int .i64 g1,.int .i64 g2,.int .i64 0,.int .i64 0,.int .i64 0,.int .i64 0,.int .i64 0,.int .i64 0,.int .i64 0,.int .i64 0,.int .i64 0,.slice none 0 0,.int .i64 0] l5 V5 hB (by omega) (by omega) (Nat.le_trans hBw HJ.out.st.bel.size) HJ.out.rd (by omega) HJ.out.box (by simp) (by omega) hz).mono ?_
   rintro e V6 ⟨hS,hc⟩
   rcases hc with ⟨ns,l6,hp,rfl,hR,hH⟩|⟨hp,rfl⟩
   rotate_left
   ·exact ⟨rfl,⟨HJ.out.st.bel.trans hS.bel,fun k h1 h2=>(hS.keep k (Nat.lt_of_lt_of_le h1 HJ.out.st.bel.size) h2 (by omega)).trans (HJ.out.st.keep k h1 h2)⟩,.inr ⟨by rw[HP.out,pq6,hp],rfl⟩⟩
   obtain ⟨m0,m1,m2,m3,m4,m5,m6,m7,m8,rfl⟩:∃m0 m1 m2 m3 m4 m5 m6 m7 m8,ns=[m0,m1,m2,m3,m4,m5,m6,m7,m8]:=by
    have hlen:=jPlP hp
    match ns,hlen with
    | [m0,m1,m2,m3,m4,m5,m6,m7,m8],_=>exact ⟨m0,m1,m2,m3,m4,m5,m6,m7,m8,rfl⟩
   replace HP:=hide (show R=pq7 (fun _=>16) ph [a0,a1,a2,a3] wh sp [g0,g1,g2] [m0,m1,m2,m3,m4,m5,m6,m7,m8] l6 by rw[HP.out,pq6,hp])
   have hl6:l6.length≤140737488355328:=by have:=X8f4 (fun _ _ _=>jN2l) hp;omega
   replace HJ:=hide (HJ.out.fill hS hR hH)
   clear hp hS hR hH hz
   replace HJ:=hide (show PJ B b w [(S4,97,sp.flatMap ptL)] l6 [.int .i64 ph,.int .i64 a0,.int .i64 a1,.int .i64 a2,.int .i64 a3,.int .i64 wh,.slice (some ⟨S4,0,none⟩) N4 N4,.int .i64 g0,.int .i64 g1,.int .i64 g2,.int .i64 m0,.int .i64 m1,.int .i64 m2,.int .i64 m3,.int .i64 m4,.int .i64 m5,.int .i64 m6,.int .i64 m7,.int .i64 m8,.slice none 0 0,.int .i64 0] V6 from HJ.out)
   go_wp2_with fail
   refine (zbMh B b 16 l6 V6 hB (Nat.le_trans hBw HJ.out.st.bel.size) HJ.out.rd (by omega)).mono ?_
   rintro e V7 ⟨hS,hc⟩
   rcases hc with ⟨n,l7,hp,rfl,hR⟩|⟨hp,rfl⟩
   rotate_left
   ·exact ⟨rfl,HJ.out.st.trans hS,.inr ⟨by rw[HP.out,pq7,qbhm hp],rfl⟩⟩
   obtain ⟨N7,rfl,hN7,hlp,hlen⟩:=qf3O (p:=pairP) hp
   have HLP:=hide hlp
   have hl7:l7.length≤140737488355328:=by omega
   replace HJ:=hide (HJ.out.num hS hR)
   clear hp hS hR hlp hlen
   obtain ⟨i0,hi,hz0,hz1,hz2⟩:=info_parts Tryz.infoPoint
   obtain ⟨ZA,hZA⟩:∃ZA:Array Value,(List.replicate (2*N7) (Value.int .i64 0)).toArray=ZA:=⟨_,rfl⟩
   have hmk:∀V:World,(Instr.makeSlice 49 (.int .i64 N7) (.int .i64 N7)).run Tryz.prog V=.ok (.slice (some ⟨V.heap.size,0,none⟩) N7 N7) (V.alloc (.cells ZA 66)):=fun V=>by
    have h:=run_make (P:=Tryz.prog) V 49 66 i0 spZ Tryz.underlying49 hi hz0 .i64 .i64 N7 N7 (by omega) (Int.le_refl _) (by rw[hz2];omega) (by omega)
    rw[hz1,Int.toNat_natCast] at h
    rw[←hZA,←XG5t]
    simpa [spZ,Value.cells] using h
   clear hi hz0 hz1 hz2
   have hxs7:∀x∈([(S4,97,sp.flatMap ptL)]:List (Nat×TypeId×List Value)),x.1≠V7.heap.size:=fun x hx=>by have:=(HJ.out.ex x hx).lt;omega
   have ci:V7.cell? ⟨w.heap.size+1,19,none⟩=some (.slice none 0 0):=by rw[Lib.cell_of_heap HJ.out.box];rfl
   have fi:V7.frozen? ⟨w.heap.size+1,19,none⟩=false:=Lib.frozen_of_heap HJ.out.box _
   have hbl:w.heap.size+1<V7.heap.size:=HJ.out.box.lt
   have ci':(V7.alloc (.cells ZA 66)).cell? ⟨w.heap.size+1,19,none⟩=some (.slice none 0 0):=by rw[Lib.cell_of_heap (((qUNz V7 _).block _ HJ.out.box.lt).trans HJ.out.box)];rfl
   have fi':(V7.alloc (.cells ZA 66)).frozen? ⟨w.heap.size+1,19,none⟩=false:=Lib.frozen_of_heap (((qUNz V7 _).block _ HJ.out.box.lt).trans HJ.out.box) _
   replace HJ:=hide ((HJ.out.put 19 (.slice (some ⟨V7.heap.size,0,none⟩) N7 N7) rfl).alloc (List.replicate (2*N7) (Value.int .i64 0)) 66)
   rw[hZA,show (V7.setCell ⟨w.heap.size+1,19,none⟩ (.slice (some ⟨V7.heap.size,0,none⟩) N7 N7)).heap.size=V7.heap.size by simp[World.setCell]] at HJ
   clear hZA
   have hsep7:w.heap.size+1<V7.heap.size:=HJ.out.sep _ List.mem_cons_self
   go_upto_region 14 with fail
   clear ci fi ci' fi' hmk hbl
   generalize V7.heap.size=S7 at *
   generalize (V7.setCell ⟨w.heap.size+1,19,none⟩ (.slice (some ⟨S7,0,none⟩) N7 N7)).alloc (.cells ZA 66)=VA at *
   have cj:VA.cell? ⟨w.heap.size+1,19,none⟩=some (.slice (some ⟨S7,0,none⟩) N7 N7):=by rw[Lib.cell_of_heap HJ.out.box];rfl
   go_wp2_with fail
   clear cj
   replace HJ:=hide (show PJ B b w [(S7,66,[].flatMap ptL++List.replicate (2*(N7-0)) (Value.int .i64 0)),(S4,97,sp.flatMap ptL)] l7 [.int .i64 ph,.int .i64 a0,.int .i64 a1,.int .i64 a2,.int .i64 a3,.int .i64 wh,.slice (some ⟨S4,0,none⟩) N4 N4,.int .i64 g0,.int .i64 g1,.int .i64 g2,.int .i64 m0,.int .i64 m1,.int .i64 m2,.int .i64 m3,.int .i64 m4,.int .i64 m5,.int .i64 m6,.int .i64 m7,.int .i64 m8,.slice (some ⟨S7,0,none⟩) N7 N7,.int .i64 0] VA from HJ.out)
   go_loopw [51] (fun i wr=>∃k:Nat,k≤N7∧i=.int .i64 k∧∃ns u,manyP pairP k l7=some (ns,u)∧PJ B b w [(S7,66,ns.flatMap ptL++List.replicate (2*(N7-k)) (Value.int .i64 0)),(S4,97,sp.flatMap ptL)] u [.int .i64 ph,.int .i64 a0,.int .i64 a1,.int .i64 a2,.int .i64 a3,.int .i64 wh,.slice (some ⟨S4,0,none⟩) N4 N4,.int .i64 g0,.int .i64 g1,.int .i64 g2,.int .i64 m0,.int .i64 m1,.int .i64 m2,.int .i64 m3,.int .i64 m4,.int .i64 m5,.int .i64 m6,.int .i64 m7,.int .i64 m8,.slice (some ⟨S7,0,none⟩) N7 N7,.int .i64 0] wr) (fun i _=>N7-(intOf i).toNat)
   case atStart=>exact ⟨0,Nat.zero_le _,rfl,[],l7,rfl,HJ.out⟩
   case round =>
    clear HJ
    obtain ⟨k,hk,rfl,ns,u,hm,hJ⟩:=hrel
    have HJ:=hide hJ
    clear hJ
    have hnl:=jPlP hm
    have hul:=X8f4 (fun _ _ _=>qgnh) hm
    by_cases hlt:k<N7
    ·have hd:decide ((k:Int)<(N7:Int))=true:=by simp;omega
     have HM:=hide hm
     have HSQ:=hide (fun (v:World) (cs':List UInt8) (hv:PJ B b w [(S7,66,ns.flatMap ptL++List.replicate (2*(N7-k)) (Value.int .i64 0)),(S4,97,sp.flatMap ptL)] cs' [.int .i64 ph,.int .i64 a0,.int .i64 a1,.int .i64 a2,.int .i64 a3,.int .i64 wh,.slice (some ⟨S4,0,none⟩) N4 N4,.int .i64 g0,.int .i64 g1,.int .i64 g2,.int .i64 m0,.int .i64 m1,.int .i64 m2,.int .i64 m3,.int .i64 m4,.int .i64 m5,.int .i64 m6,.int .i64 m7,.int .i64 m8,.slice (some ⟨S7,0,none⟩) N7 N7,.int .i64 0] v)=>show v.cell? ⟨w.heap.size+1,19,none⟩=some (.slice (some ⟨S7,0,none⟩) N7 N7)∧True from ⟨by rw[Lib.cell_of_heap hv.box];rfl,trivial⟩)
     clear hm
     go_upto_region 17 with fail
     have HJd:=hide HJ.out.drew
     have hSd:=HSQ.out _ _ HJd.out
     have hmx:Tryz.prog.follows .mixedOrders=true:=by kernel_rfl
     refine qYgd (S:=(fun v:World=>v.cell? ⟨w.heap.size+1,19,none⟩=some (.slice (some ⟨S7,0,none⟩) N7 N7)∧True)) (f:=9) hmx ?_
     show jZdv _ _ _ _ _ _ 10 _ _ wr.drew
     refine takeQ 0 ?vv8 (some 54) [] ?yy8 hSd ?rr8
     case yy8=>(intro wq hSq;obtain ⟨_,_⟩:=hSq;go_simp<;>with_reducible rfl)
     simp only[Act.put,List.setIfInBounds_toArray,List.set_cons_succ,List.set_cons_zero]
     refine takeQ 2 ?vv9 (some 56) [] ?yy9 hSd ?rr9
     case yy9=>(intro wq hSq;obtain ⟨_,_⟩:=hSq;go_simp<;>with_reducible rfl)
     simp only[Act.put,List.setIfInBounds_toArray,List.set_cons_succ,List.set_cons_zero]
     refine takeQ 3 ?vv10 (some 57) [] ?yy10 hSd ?rr10
     case yy10=>(intro wq hSq;obtain ⟨_,_⟩:=hSq;go_simp<;>with_reducible rfl)
     simp only[Act.put,List.setIfInBounds_toArray,List.set_cons_succ,List.set_cons_zero]
     refine takeQ 5 ?vv11 (some 59) [] ?yy11 hSd ?rr11
     case yy11=>(intro wq hSq;obtain ⟨_,_⟩:=hSq;go_simp<;>with_reducible rfl)
     simp only[Act.put,List.setIfInBounds_toArray,List.set_cons_succ,List.set_cons_zero]
     refine takeQ 1 ?vv12 (some 55) [] ?yy12 hSd ?rr12
     case yy12=>(intro wq hSq;obtain ⟨_,_⟩:=hSq;go_simp<;>with_reducible rfl)
     simp only[Act.put,List.setIfInBounds_toArray,List.set_cons_succ,List.set_cons_zero]
     refine znWj (i:=4) (o:=_) (by kernel_rfl) rfl (fun K' hK=>?_)
     rw[if_pos (by rfl)]
     go_simp
     refine (qI49 B b u wr.drew hB (Nat.le_trans hBw HJd.out.st.bel.size) HJd.out.rd (by omega)).mono ?_
     rintro e X1 ⟨hS,hc⟩
     rcases hc with ⟨x,u1,hp,rfl,hR⟩|⟨hp,rfl⟩
     rotate_left
     ·exact ⟨rfl,HJd.out.st.trans hS,.inr ⟨by rw[HP.out,pq7,HLP.out,XLXy HM.out (by rw[pairP,hp]) hlt],rfl⟩⟩
     have HP1:=hide hp
     have hu1:=jN2l hp
     have HJ1:=hide (HJd.out.num hS hR)
     clear hp hS hR
     have hSd:=HSQ.out _ _ HJ1.out
     refine hK.out _ _ hSd ?_
     clear hK
     try simp only[Act.put]
     refine znWj (i:=6) (o:=_) (by kernel_rfl) rfl (fun K' hK=>?_)
     rw[if_pos (by rfl)]
     go_simp
     refine (qI49 B b u1 X1 hB (Nat.le_trans hBw HJ1.out.st.bel.size) HJ1.out.rd (by omega)).mono ?_
     rintro e X2 ⟨hS,hc⟩
     rcases hc with ⟨y,u2,hp,rfl,hR⟩|⟨hp,rfl⟩
     rotate_left
     ·exact ⟨rfl,HJ1.out.st.trans hS,.inr ⟨by rw[HP.out,pq7,HLP.out,XLXy HM.out (by rw[pairP,HP1.out];simp only[hp]) hlt],rfl⟩⟩
     have HP2:=hide (show pairP u=some ((x,y),u2) by rw[pairP,HP1.out];simp only[hp])
     have HJ2:=hide (HJ1.out.num hS hR)
     clear hp hS hR
     have hcl:(ns.flatMap ptL++List.replicate (2*(N7-k)) (Value.int .i64 0)).length=N7*2:=by rw[List.length_append,jn2Z,List.length_replicate,hnl];omega
     have hH:=HJ2.out.ex (S7,66,ns.flatMap ptL++List.replicate (2*(N7-k)) (Value.int .i64 0)) (by simp)
     have g0:∃z,X2.cell? ⟨S7,k*2,none⟩=some z:=⟨_,by rw[Lib.cell_of_heap hH,List.getElem?_toArray];exact List.getElem?_eq_getElem (by rw[hcl];omega)⟩
     have g1:∃z,X2.cell? ⟨S7,k*2+1,none⟩=some z:=⟨_,by rw[Lib.cell_of_heap hH,List.getElem?_toArray];exact List.getElem?_eq_getElem (by rw[hcl];omega)⟩
     obtain ⟨z0,c0⟩:=g0
     obtain ⟨z1,c1⟩:=g1
     have f0:X2.frozen? ⟨S7,k*2,none⟩=false:=Lib.frozen_of_heap hH _
     have f1:X2.frozen? ⟨S7,k*2+1,none⟩=false:=Lib.frozen_of_heap hH _
     have HJ3:=hide (HJ2.out.two hxs7 (k*2) (.int .i64 x) (.int .i64 y))
     clear hcl hH
     have hSd:=HSQ.out _ _ HJ2.out
     refine hK.out _ _ hSd ?_
     clear hK
     try simp only[Act.put]
     refine takeQ 7 ?vv13 (some 61) [] ?yy13 hSd ?rr13
     case yy13=>(intro wq hSq;obtain ⟨_,_⟩:=hSq;go_simp<;>with_reducible rfl)
     simp only[Act.put,List.setIfInBounds_toArray,List.set_cons_succ,List.set_cons_zero]
     refine takeQ 8 ?vv14 (some 62) [] ?yy14 hSd ?rr14
     case yy14=>(intro wq hSq;obtain ⟨_,_⟩:=hSq;go_simp<;>with_reducible rfl)
     simp only[Act.put,List.setIfInBounds_toArray,List.set_cons_succ,List.set_cons_zero]
     refine z9gO (o:=_) (by kernel_rfl) rfl (fun K' hK=>?_)
     rw[if_pos (by rfl)]
     go_simp
     refine hK.out _ _ ?_
     clear hK
     refine jFdp (by kernel_rfl) ?_ _
     try simp only[Act.put]
     have HJ4:=hide (show PJ B b w [(S7,66,(ns++[(x,y)]).flatMap ptL++List.replicate (2*(N7-(k+1))) (Value.int .i64 0)),(S4,97,sp.flatMap ptL)] u2 [.int .i64 ph,.int .i64 a0,.int .i64 a1,.int .i64 a2,.int .i64 a3,.int .i64 wh,.slice (some ⟨S4,0,none⟩) N4 N4,.int .i64 g0,.int .i64 g1,.int .i64 g2,.int .i64 m0,.int .i64 m1,.int .i64 m2,.int .i64 m3,.int .i64 m4,.int .i64 m5,.int .i64 m6,.int .i64 m7,.int .i64 m8,.slice (some ⟨S7,0,none⟩) N7 N7,.int .i64 0] _ from by
      have h:=HJ3.out
      rw[show N7-k=N7-(k+1)+1 by omega,←hnl,Xe7R,hnl] at h
      exact h)
     have HM2:=hide (jvSA HM.out HP2.out)
     clear HJ3 HJ2 HJ1 HJd HJ hSd c0 c1 f0 f1 HSQ
     go_wp2
     go_roundw
     case rel=>exact ⟨k+1,hlt,by go_num,_,_,HM2.out,HJ4.out⟩
     case measure=>simp[intOf];omega
    ·have hd:decide ((k:Int)<(N7:Int))=false:=by simp;omega
     obtain rfl:N7=k:=by omega
     replace HP:=hide (show R=pq8 (fun am=>⟨ph,ix [a0,a1,a2,a3],wh,sp,ix [g0,g1,g2],ix [m0,m1,m2,m3,m4,m5,m6,m7,m8],ns,am⟩) u by rw[HP.out,pq7,HLP.out,hm])
     replace HJ:=hide (show PJ B b w [(S7,66,ns.flatMap ptL),(S4,97,sp.flatMap ptL)] u [.int .i64 ph,.int .i64 a0,.int .i64 a1,.int .i64 a2,.int .i64 a3,.int .i64 wh,.slice (some ⟨S4,0,none⟩) N4 N4,.int .i64 g0,.int .i64 g1,.int .i64 g2,.int .i64 m0,.int .i64 m1,.int .i64 m2,.int .i64 m3,.int .i64 m4,.int .i64 m5,.int .i64 m6,.int .i64 m7,.int .i64 m8,.slice (some ⟨S7,0,none⟩) N7 N7,.int .i64 0] wr by have h:=HJ.out;rwa [Nat.sub_self,Nat.mul_zero,List.replicate_zero,List.append_nil] at h)
     have hn7:=hnl
     clear hm HLP hnl
     generalize ns=cu at *
     generalize u=l7u at *
     generalize wr=W7 at *
     have hl7u:l7u.length≤140737488355328:=by omega
     clear hul
     go_wp2_with fail
     refine (qI49 B b l7u W7 hB (Nat.le_trans hBw HJ.out.st.bel.size) HJ.out.rd (by omega)).mono ?_
     rintro e V8 ⟨hS,hc⟩
     rcases hc with ⟨am,l8,hp,rfl,hR⟩|⟨hp,rfl⟩
     rotate_left
     ·exact ⟨rfl,HJ.out.st.trans hS,.inr ⟨by rw[HP.out,pq8,hp],rfl⟩⟩
     replace HP:=hide (show R=some (⟨ph,ix [a0,a1,a2,a3],wh,sp,ix [g0,g1,g2],ix [m0,m1,m2,m3,m4,m5,m6,m7,m8],cu,am⟩,l8) by rw[HP.out,pq8,hp])
     replace HJ:=hide (HJ.out.num hS hR)
     have ci:V8.cell? ⟨w.heap.size+1,20,none⟩=some (.int .i64 0):=by rw[Lib.cell_of_heap HJ.out.box];rfl
     have fi:V8.frozen? ⟨w.heap.size+1,20,none⟩=false:=Lib.frozen_of_heap HJ.out.box _
     replace HJ:=hide (HJ.out.put 20 (.int .i64 am) rfl)
     clear hp hS hR
     obtain ⟨PA,hPA⟩:∃PA,PA=planA (⟨ph,ix [a0,a1,a2,a3],wh,sp,ix [g0,g1,g2],ix [m0,m1,m2,m3,m4,m5,m6,m7,m8],cu,am⟩:Plan) (.slice (some ⟨S4,0,none⟩) N4 N4) (.slice (some ⟨S7,0,none⟩) N7 N7):=⟨_,rfl⟩
     have hbx:(V8.setCell ⟨w.heap.size+1,20,none⟩ (.int .i64 am)).heap[w.heap.size+1]?=some (.cells PA 51 (0,0)):=by rw[hPA];exact HJ.out.box
     have hrs:(V8.setCell ⟨w.heap.size+1,20,none⟩ (.int .i64 am)).heap[w.heap.size]?=some (.cells planZ 51 (0,0)):=HJ.out.res
     have i1:(Tryz.prog.info? 51).map (·.size)=some PA.size:=by rw[hPA];kernel_rfl
     have i2:(planZ:Array Value).size=PA.size:=by rw[hPA];rfl
     have i3:PA.all (·.oneCell')=true:=by rw[hPA];simp[Value.oneCell']
     have hx4:=HJ.out.ex (S4,97,sp.flatMap ptL) (by simp)
     have hx7:=HJ.out.ex (S7,66,cu.flatMap ptL) (by simp)
     have hs4:=HJ.out.sep (S4,97,sp.flatMap ptL) (by simp)
     have hs7:=HJ.out.sep (S7,66,cu.flatMap ptL) (by simp)
     simp only at hs4 hs7 hx4 hx7
     have HI4:=hide (jBLQ hx4 (by omega))
     have HI7:=hide (jBLQ hx7 (by omega))
     have HST:=hide HJ.out.st
     have HRD:=hide HJ.out.rd
     clear HJ hx4 hx7
     go_upto_region 20 with fail
     clear ci fi
     generalize V8.setCell ⟨w.heap.size+1,20,none⟩ (.int .i64 am)=VF at *
     have HG:=hide (setRow_heap _ _ _ PA _ _ hrs)
     have HF:=hide (show RSt B b w (VF.setRow w.heap.size PA) from ⟨HST.out.bel.trans (below_setRow (Below.refl _ _) (by omega) PA),fun k h1 h2=>(setRow_other _ _ _ _ (by omega)).trans (HST.out.keep k h1 h2)⟩)
     have HRF:=hide (show IsRd b l8 (VF.setRow w.heap.size PA) from (setRow_other _ _ _ _ (by omega)).trans HRD.out)
     have HPF:=hide (show X1uD (VF.setRow w.heap.size PA) ⟨ph,ix [a0,a1,a2,a3],wh,sp,ix [g0,g1,g2],ix [m0,m1,m2,m3,m4,m5,m6,m7,m8],cu,am⟩ (.slice (some ⟨S4,0,none⟩) N4 N4) (.slice (some ⟨S7,0,none⟩) N7 N7) from ⟨hn4 ▸ HI4.out.other (k:=w.heap.size) (by simp) (fun b hb=>setRow_other _ _ _ _ hb) (by simp[Value.ownBlock];omega),hn7 ▸ HI7.out.other (k:=w.heap.size) (by simp) (fun b hb=>setRow_other _ _ _ _ hb) (by simp[Value.ownBlock];omega)⟩)
     clear HST HRD HI4 HI7
     go_wp2_with (first|refine wpList_load_row rfl 51 _ rfl _ rfl _ _ _ _ hbx Tryz.underlying51 rfl i1 ?_|refine wpList_store_row rfl 51 _ _ rfl w.heap.size PA rfl rfl _ _ hrs i1 i2 i3 ?_)
     refine bodyPost_ret (v:=.agg PA) (results_cell_row Tryz.results165 _ _ _ _ _ _ _ rfl HG.out Tryz.underlying51 rfl i1) rfl ⟨HF.out,.inl ⟨_,_,_,_,HP.out,by rw[hPA],HRF.out,HPF.out,?_,?_⟩⟩
     ·exact ⟨fun b e=>by simp[Value.ownBlock] at e;omega,Nat.le_refl _⟩
     ·exact ⟨fun b e=>by simp[Value.ownBlock] at e;omega,Nat.le_refl _⟩
end Go.Proofs.YtfjeonehdlphiaaGreatDoor

namespace Go.Proofs.YtfjeonehdlphiaaGreatDoor
set_option linter.unusedVariables false
open Go.RowKit
theorem XXzq {P:Program} (g o:Nat) (t:TypeId):∀(vs:List Value) (i:Nat) (cur:Array Value) (w:World),w.heap[g]?=some (.cells cur t (0,0))→o+i+vs.length=cur.size→(∀v∈vs,v.oneCell'=true) →
  (storeCells ⟨g,o,none⟩ vs i).run P w=.ok () (w.setRow g (cur.toList.take (o+i)++vs).toArray)
 | [],i,cur,w,hg,hl,_=>by
  have h0:cur.toList.take (o+i)=cur.toList:=List.take_of_length_le (by simp at hl ⊢;omega)
  simp only[storeCells,List.append_nil,h0,Array.toArray_toList]
  show Result.ok () w=_
  congr 1
  have hv:w.heap[g]'((Array.getElem?_eq_some_iff.1 hg).1)=.cells cur t (0,0):=(Array.getElem?_eq_some_iff.1 hg).2
  unfold World.setRow
  cases w with
  | mk heap tape drawn os output =>
   congr 1
   apply Array.ext
   ·simp
   ·intro k h1 h2
    simp only[Array.getElem_modify]
    split
    ·rename_i hk;subst hk;simp at hv;simp[hv]
    ·rfl
 | v::rest,i,cur,w,hg,hl,h1=>by
  have hi:o+i<cur.size:=by simp at hl;omega
  have hadd:(⟨g,o,none⟩:Addr).add i=⟨g,o+i,none⟩:=Addr.add_lit ..
  have hcell:w.cell? ⟨g,o+i,none⟩=some cur[o+i]:=by simp[World.cell?,hg,hi]
  have hfro:w.frozen? ⟨g,o+i,none⟩=false:=by simp[World.frozen?,hg]
  have hst:(store ((⟨g,o,none⟩:Addr).add i) v).run P w=.ok () (w.setRow g (cur.setIfInBounds (o+i) v)):=by
   rw[hadd,run_store P w _ v _ (h1 v (by simp)),hcell]
   simp[hfro,setCell_eq_setRow w g (o+i) cur t (0,0) v hg]
  have ih:=XXzq (P:=P) g o t rest (i+1) (cur.setIfInBounds (o+i) v) (w.setRow g (cur.setIfInBounds (o+i) v)) (setRow_heap w g cur _ t _ hg) (by simp at hl ⊢;omega) (fun x hx=>h1 x (by simp[hx]))
  simp only[storeCells,Sem.run_bind,hst,Result.andThen_ok,ih,setRow_setRow]
  congr 3
  rw[Array.toList_setIfInBounds,←Nat.add_assoc,List.take_set,List.take_succ_eq_append_getElem (by simpa using hi)]
  rw[List.set_append_right _ _ (by rw[List.length_take];exact Nat.min_le_left _ _)]
  simp[Nat.min_eq_left (Nat.le_of_lt hi)]
theorem zPEB {P:Program} {ops:Array Oper} {rest:List Oper} {o:Oper} {a:Act} {w:World} {Q:Exit→Act→World→Prop} (hgd:o.guard=none) (ty:TypeId) (x y:Operand) (ho:o.op=.store ty x y)
  (g of:Nat) (cells:Array Value) (hx:a.eval x=.pointer (some ⟨g,of,none⟩)) (hy:a.eval y=.agg cells) (t:TypeId) (old:Array Value) (hg:w.heap[g]?=some (.cells old t (0,0))) (hi:(P.info? ty).map (·.size)=some cells.size)
  (hold:of+cells.size=old.size) (h1:cells.all (·.oneCell')=true)
  (h:wpList P ops Q rest (a.put o.dst undef) (w.setRow g (old.toList.take of++cells.toList).toArray)):wpList P ops Q (o::rest) a w :=
 wpList_plain hgd fun _ hK=>by
  have hr:=XXzq (P:=P) g of t cells.toList 0 old w hg (by simp;omega) (fun v hv=>(Array.all_eq_true_iff_forall_mem.1 h1) v (by simpa using hv))
  have hs:(storeVar ty ⟨g,of,none⟩ (.agg cells)).run P w=.ok () (w.setRow g (old.toList.take of++cells.toList).toArray):=by
   cases hq:P.info? ty with
   | none=>simp[hq] at hi
   | some i =>
    have hs:cells.size=i.size:=by simp[hq] at hi;omega
    simpa [storeVar,sizeOf,typeInfo,hq,Value.cells,hs] using hr
  unfold Oper.wp execOp
  simp only[ho,hx,hy,Instr.storeAt,Instr.sureAddr,Sem.run_bind,Sem.run_pure,Result.andThen_ok,hs]
  exact hK _ _ h
abbrev rawZ:Array Value:=#[.int .i64 0,.int .i64 0,.int .i64 0,.int .i64 0,.int .i64 0,.slice none 0 0,.slice none 0 0,
 .int .i64 0,.int .i64 0,.int .i64 0,.int .i64 0,.int .i64 0,.int .i64 0,.slice none 0 0,.int .i64 0,.int .i64 0,.int .i64 0,.int .i64 0,.int .i64 0,.int .i64 0,.int .i64 0,.int .i64 0,.int .i64 0,.int .i64 0,.int .i64 0,.int .i64 0,.slice none 0 0,.int .i64 0]
set_option maxRecDepth 100000 in
set_option maxHeartbeats 1600000 in
theorem XXfm (R K:Nat) (old:Array Value) (c:Value) (w:World) (hR:w.heap[R]?=some (.cells old 57 (0,0))) (ho:old.size=28) (hK:w.heap[K]?=some (.cells #[c] 4 (0,0))) (hne:R≠K) :
  CallsD Tryz.prog 158 #[.pointer (some ⟨R,0,none⟩),.pointer (some ⟨K,0,none⟩)] (.panicking [{ v:=panV,recovered:=false }]) w fun e u' w' =>
   e=.returned (.tuple #[])∧u'=.panicking [{ v:=panV,recovered:=true }]∧w'=(w.setRow R rawZ).setCell ⟨K,0,none⟩ (.bool false):=by
 refine callsD_of_wpS Tryz.func158 rfl fun c₀ cs hu=>?_
 apply wpS_seq
 apply wpS_region
 simp[wpOpsS,go_sem,recoverD,hu,Tryz.ntmps158,Exit.thenS]
 refine wpS_cond (t:=true) (by simp[Act.eval,Array.replicate]) ?_
 simp only[if_true]
 rw[show (#[Value.pointer (some ⟨R,0,none⟩),.pointer (some ⟨K,0,none⟩)]++((Array.replicate 3 undef).setIfInBounds 0 panV).setIfInBounds 1 (.bool true))=#[.pointer (some ⟨R,0,none⟩),.pointer (some ⟨K,0,none⟩),panV,.bool true,undef] from rfl]
 refine wpS_of_wp ?_
 have hK2:(w.setRow R rawZ).heap[K]?=some (.cells #[c] 4 (0,0)):=(setRow_other _ _ _ _ (fun e=>hne e.symm)).trans hK
 have c1:(w.setRow R rawZ).cell? ⟨K,0,none⟩=some c:=by rw[Lib.cell_of_heap hK2];rfl
 have f1:(w.setRow R rawZ).frozen? ⟨K,0,none⟩=false:=Lib.frozen_of_heap hK2 0
 have i1:(Tryz.prog.info? 57).map (·.size)=some (rawZ:Array Value).size:=by kernel_rfl
 have i2:old.size=(rawZ:Array Value).size:=by rw[ho];rfl
 have i3:(rawZ:Array Value).all (·.oneCell')=true:=by simp[Value.oneCell']
 go_wp2_with (refine wpList_store_row rfl 57 _ _ rfl R rawZ rfl rfl _ old hR i1 i2 i3 ?_)
 cases c₀
 simp_all[bodyPostS,results,Tryz.results158]
set_option maxRecDepth 100000 in
theorem qBaz (R K:Nat) (w:World) :
  CallsD Tryz.prog 158 #[.pointer (some ⟨R,0,none⟩),.pointer (some ⟨K,0,none⟩)] .returning w fun e u' w'=>e=.returned (.tuple #[])∧u'=.returning∧w'=w:=by
 refine callsD_of_wpS Tryz.func158 rfl fun c₀ cs hu=>?_
 apply wpS_seq
 apply wpS_region
 simp[wpOpsS,go_sem,recoverD,hu,Tryz.ntmps158,Exit.thenS]
 refine wpS_cond (t:=false) (by simp[Act.eval,Array.replicate]) ?_
 simp only[Bool.false_eq_true,if_false]
 refine wpS_of_wp (wp_skip ?_)
 cases c₀
 simp_all[bodyPostS,results,Tryz.results158]
end Go.Proofs.YtfjeonehdlphiaaGreatDoor

namespace Go.Proofs.YtfjeonehdlphiaaGreatDoor
set_option linter.unusedVariables false
open Go.RowKit
theorem zTKU (W:World) (K:Nat) (c:Bool) (h:W.cell? ⟨K,0,none⟩=some (.bool c)):(loadVar 4 ⟨K,0,none⟩).run Tryz.prog W=.ok (.bool c) W:=by
 have ha:=Tryz.isAgg4 W
 simp[loadVar,Sem.run_bind,ha,go_sem,h]
theorem XFHW (tmps:Array Value) (R K:Nat) (cs:Array Value) (c:Bool) (W:World) (h2:tmps.getD 2 undef=.pointer (some ⟨R,0,none⟩)) (h3:tmps.getD 3 undef=.pointer (some ⟨K,0,none⟩))
  (hR:W.heap[R]?=some (.cells cs 57 (0,0))) (hs:(Tryz.prog.info? 57).map (·.size)=some cs.size) (hK:W.heap[K]?=some (.cells #[.bool c] 4 (0,0))) :
  (results Tryz.f107 tmps).run Tryz.prog W=.ok (.tuple #[.agg cs,.bool c]) W:=by
 have hl:=run_loadVar_row (P:=Tryz.prog) W R 57 57 cs (0,0) _ hR Tryz.underlying57 rfl hs
 have hk:=zTKU W K c (by rw[Lib.cell_of_heap hK];rfl)
 have h2':tmps[2]?.getD undef=.pointer (some ⟨R,0,none⟩):=by simpa using h2
 have h3':tmps[3]?.getD undef=.pointer (some ⟨K,0,none⟩):=by simpa using h3
 simp[results,Tryz.results107,h2',h3',asAddr,hl,hk]
set_option maxRecDepth 100000 in
set_option maxHeartbeats 1600000 in
theorem XQWw {w V:World} {cs:List Value} {Post:Ending→World→Prop} {tmps:Array Value} (hb:Below w.heap.size w V) (hR:Holds w.heap.size 57 cs V) (hn:cs.length=28) (hK:Holds (w.heap.size+1) 4 [.bool false] V)
  (h2:tmps.getD 2 undef=.pointer (some ⟨w.heap.size,0,none⟩)) (h3:tmps.getD 3 undef=.pointer (some ⟨w.heap.size+1,0,none⟩))
  (hP:∀W,Below w.heap.size w W→Post (.returned (.tuple #[.agg rawZ,.bool false])) W) :
  bodyPostD Tryz.prog Tryz.f107 Post (Exit.panic [{ v:=panV,recovered:=false }]) { tmps:=tmps,defers:=[{ target:=Target.fn (Fn.func 158) #[.pointer (some ⟨w.heap.size,0,none⟩),.pointer (some ⟨w.heap.size+1,0,none⟩)],args:=#[] }] } V:=by
 refine leaves_cons (f:=158) (args:=#[.pointer (some ⟨w.heap.size,0,none⟩),.pointer (some ⟨w.heap.size+1,0,none⟩)]) (by simp) (by simp[go_sem]) ?_
 refine (XXfm w.heap.size (w.heap.size+1) cs.toArray (.bool false) V hR (by simpa using hn) hK (by omega)).mono ?_
 rintro e u' w'' ⟨rfl,rfl,rfl⟩
 have g1:((V.setRow w.heap.size rawZ).setCell ⟨w.heap.size+1,0,none⟩ (.bool false)).heap[w.heap.size]?=some (.cells rawZ 57 (0,0)):=(Below.heap_setCell _ _ _ _ (show w.heap.size≠w.heap.size+1 by omega)).trans (setRow_heap _ _ _ _ _ _ hR)
 have k0:(V.setRow w.heap.size rawZ).heap[w.heap.size+1]?=some (.cells #[.bool false] 4 (0,0)):=(setRow_other _ _ _ _ (by omega)).trans hK
 have g2:((V.setRow w.heap.size rawZ).setCell ⟨w.heap.size+1,0,none⟩ (.bool false)).heap[w.heap.size+1]?=some (.cells #[.bool false] 4 (0,0)):=by
  simp[World.setCell,Array.getElem?_modify,k0]
 have hr:=XFHW tmps w.heap.size (w.heap.size+1) rawZ false _ h2 h3 g1 (by kernel_rfl) g2
 have hbb:Below w.heap.size w ((V.setRow w.heap.size rawZ).setCell ⟨w.heap.size+1,0,none⟩ (.bool false)):=(below_setRow hb (Nat.le_refl _) _).setCell (p:=⟨w.heap.size+1,0,none⟩) (Nat.le_succ _) _
 exact ⟨_,hr,hP _ hbb⟩
set_option maxRecDepth 100000 in
theorem X8n7 {R K:Nat} {V:World} {cs:Array Value} {Post:Ending→World→Prop} {tmps:Array Value} (hR:V.heap[R]?=some (.cells cs 57 (0,0))) (hs:(Tryz.prog.info? 57).map (·.size)=some cs.size) (hK:V.heap[K]?=some (.cells #[.bool true] 4 (0,0)))
  (h2:tmps.getD 2 undef=.pointer (some ⟨R,0,none⟩)) (h3:tmps.getD 3 undef=.pointer (some ⟨K,0,none⟩)) (hP:Post (.returned (.tuple #[.agg cs,.bool true])) V) :
  bodyPostD Tryz.prog Tryz.f107 Post Exit.ret { tmps:=tmps,defers:=[{ target:=Target.fn (Fn.func 158) #[.pointer (some ⟨R,0,none⟩),.pointer (some ⟨K,0,none⟩)],args:=#[] }] } V:=by
 refine leaves_cons (f:=158) (args:=#[.pointer (some ⟨R,0,none⟩),.pointer (some ⟨K,0,none⟩)]) (by simp) (by simp[go_sem]) ?_
 refine (qBaz R K V).mono ?_
 rintro e u' w'' ⟨rfl,rfl,rfl⟩
 exact ⟨_,XFHW tmps R K cs true w'' h2 h3 hR hs hK,hP⟩
theorem qB0W {P:Program} {fn:Func} {t1 t2:Array Value} {R:Ending→World→Prop} (h:∀w,(results fn t1).run P w=(results fn t2).run P w) (ds:List Deferred):∀(u:FrameMode) (w:World),Leaves P fn t1 R ds u w→Leaves P fn t2 R ds u w:=by
 induction ds with
 | nil =>
  intro u w hl
  cases u with
  | returning=>obtain ⟨v,hv,hr⟩:=hl;exact ⟨v,(h w).symm.trans hv,hr⟩
  | panicking chain=>exact hl
  | run=>exact hl
 | cons d ds ih =>
  intro u w hl
  obtain ⟨hu,fv,cap,f,args,ht,hi,hc⟩:=hl
  refine ⟨hu,fv,cap,f,args,ht,hi,hc.mono ?_⟩
  intro e u' w' he
  cases e with
  | returned v=>exact ih _ _ he
  | panicked chain=>exact ih _ _ he
  | outgrown=>exact he
theorem jjeL {Post:Ending→World→Prop} {a:Act} {c:List PanicEntry} {w:World} {d:Nat} {v:Value} (hd:3<d) (h:bodyPostD Tryz.prog Tryz.f107 Post (Exit.panic c) (a.put (some d) v) w):bodyPostD Tryz.prog Tryz.f107 Post (Exit.panic c) a w:=by
 refine qB0W (fun w=>?_) _ _ _ h
 have e2:(a.tmps.setIfInBounds d v)[2]?=a.tmps[2]?:=Array.getElem?_setIfInBounds_ne (by omega)
 have e3:(a.tmps.setIfInBounds d v)[3]?=a.tmps[3]?:=Array.getElem?_setIfInBounds_ne (by omega)
 simp[results,Tryz.results107,Act.put,e2,e3]
end Go.Proofs.YtfjeonehdlphiaaGreatDoor

namespace Go.Proofs.YtfjeonehdlphiaaGreatDoor
set_option linter.unusedVariables false
open Go.RowKit
abbrev IsWr (B b:Nat) (l:List UInt8) (w:World):Prop:=Lib.IsBuilder 195 5 B b (byt l) w
def zMqr (w:World) (k:Nat):Prop:=∀cs fr,w.heap[k]?≠some (.cells cs 5 fr)
structure WStep (B b:Nat) (w w':World):Prop where
 bel:Below B w w'
 keep:∀k,k<w.heap.size→k≠b→zMqr w k→w'.heap[k]?=w.heap[k]?
theorem WStep.refl (B b:Nat) (w:World):WStep B b w w:=⟨Below.refl _ _,fun _ _ _ _=>rfl⟩
theorem WStep.trans {B b:Nat} {w w' w'':World} (h:WStep B b w w') (k:WStep B b w' w''):WStep B b w w'' where
 bel:=h.bel.trans k.bel
 keep:=fun j h1 h2 h3=>by
  have e:=h.keep j h1 h2 h3
  exact (k.keep j (Nat.lt_of_lt_of_le h1 h.bel.size) h2 (fun cs fr=>by rw[e];exact h3 cs fr)).trans e
theorem WStep.alloc {B b:Nat} {w:World} (hB:B≤w.heap.size) (o:Obj):WStep B b w (w.alloc o) :=
 ⟨(qUNz w o).mono hB,fun k h1 _ _=>(qUNz w o).block k h1⟩
theorem IsWr.alloc {B b:Nat} {l:List UInt8} {w:World} (h:IsWr B b l w) (o:Obj):IsWr B b l (w.alloc o):=by
 rcases h with ⟨h2,v,h3,h4,h5⟩|⟨h2,v,h3,h4,h5⟩
 ·exact .inl ⟨h2,v,((qUNz w o).block _ (Array.getElem?_eq_some_iff.1 h3).1).trans h3,qw14 h4 (qUNz w o),h5⟩
 ·exact .inr ⟨h2,v,((qUNz w o).block _ (Array.getElem?_eq_some_iff.1 h3).1).trans h3,qw14 h4 (qUNz w o),h5⟩
def Apart (B b:Nat) (u:Value) (w:World):Prop:=∀k,u.ownBlock=some k→k<w.heap.size→k<B∨(k≠b∧zMqr w k)
theorem WStep.block {B b:Nat} {w w':World} (hs:WStep B b w w') {k:Nat} (hk:k<w.heap.size) (ha:k<B∨(k≠b∧zMqr w k)):w'.heap[k]?=w.heap[k]?:=by
 rcases ha with h|⟨h,h'⟩
 ·exact hs.bel.block k h
 ·exact hs.keep k hk h h'
theorem jCvT.step {B b:Nat} {u:Value} {xs:List Int} {w w':World} (h:jCvT w u xs) (hs:WStep B b w w') (ha:Apart B b u w):jCvT w' u xs:=by
 obtain ⟨ao,cap,rfl,hl,h⟩:=h
 refine ⟨ao,cap,rfl,hl,?_⟩
 rcases h with h|⟨c,off,rfl,hlt,hc⟩
 ·exact .inl h
 ·refine .inr ⟨c,off,rfl,Nat.lt_of_lt_of_le hlt hs.bel.size,fun j hj=>?_⟩
  rw[World.cell?_of_block (a:=⟨c,off+j,none⟩) (hs.block hlt (ha c rfl hlt))]
  exact hc j hj
theorem qs9Z {w:World} {k:Nat} {cs:Array Value} {t:TypeId} {fr:Nat×Nat} (h:w.heap[k]?=some (.cells cs t fr)) (ht:t≠5):zMqr w k:=fun cs' fr' e=>by
 rw[h] at e
 simp only[Option.some.injEq,Obj.cells.injEq] at e
 exact ht e.2.1
theorem Tryz.sizeBuilder:(Tryz.prog.info? 76).map (·.size)=some 2:=by kernel_rfl
theorem Tryz.liesWriter:liesAt Tryz.prog Tryz.prog.depth 195 (2 / Tryz.prog.cellsOf 195) 0 76 1=true:=by kernel_rfl
theorem Tryz.infoByteW:(Tryz.prog.info? 5).map (fun i=>(i.zero,i.size,i.bytes))=some (some (.int .u8 0),1,1):=by kernel_rfl
set_option maxHeartbeats 1000000 in
set_option maxRecDepth 100000 in
theorem XMPW (B b:Nat) (l:List UInt8) (w:World) (h:IsWr B b l w) :
  Calls Tryz.prog 96 #[.pointer (some ⟨b,0,none⟩)] w fun e w'=>e=.returned (.tuple #[])∧(Lib.BuilderAt 195 5 B b (.pointer (some ⟨b,0,none⟩)) (byt l) w'∧WStep B b w w'∧w'.heap.size=w.heap.size∧∀k,k≠b→w'.heap[k]?=w.heap[k]?):=by
 obtain ⟨j,hj,hjs⟩:=Option.map_eq_some_iff.1 Tryz.sizeBuilder
 rcases h with hA|hA
 ·have c0:=hA.cell0
  have hsh:=hA.shape
  have hfz:=hA.frozen0
  have HU:=hide (hA.used (.pointer (some ⟨b,0,none⟩)))
  have HF:=hide (show WStep B b w (w.setCell ⟨b,0,none⟩ (.pointer (some ⟨b,0,none⟩))) from ⟨Below.setCell (p:=⟨b,0,none⟩) (Below.refl B w) hA.1 _,fun k _ hk _=>Below.heap_setCell _ _ _ _ (fun e=>hk e)⟩)
  clear hA
  go_enter Tryz.func96,Tryz.ntmps96
  go_wp2
  rw[Lib.run_to_unsafe w ⟨b,0,none⟩ Tryz.underlying73 Tryz.underlying192 hj (by rw[hjs];decide) hsh (Nat.zero_lt_succ 1)]
  simp only[Result.andThen]
  rw[Oper.upon_value]
  go_wp2
  rw[run_callFunc_extern Tryz.func151 (by kernel_rfl) (by kernel_rfl) (by kernel_rfl) (e:=Extern.AbiNoEscape.same) (by kernel_rfl)]
  rw[Lib.run_noEscape]
  simp only[Result.andThen]
  rw[Oper.upon_value]
  go_wp2
  rw[Lib.run_from_unsafe w ⟨b,0,none⟩ Tryz.underlying192 Tryz.underlying73 hj hsh Tryz.liesWriter]
  simp only[Result.andThen]
  rw[Oper.upon_value]
  go_wp2
  go_end0
  exact ⟨rfl,HU.out,HF.out,by simp[World.setCell],fun k hk=>Below.heap_setCell _ _ _ _ (fun e=>hk e)⟩
 ·have c0:=hA.cell0
  have HW:=hide hA
  clear hA
  go_enter Tryz.func96,Tryz.ntmps96
  go_wp2
  rw[Lib.run_neq_ptr_same w _ Tryz.underlying73 hj]
  go_wp2
  go_end0
  exact ⟨rfl,HW.out,WStep.refl _ _ _,rfl,fun _ _=>rfl⟩
theorem wput {B b:Nat} {v v':Value} {l m:List UInt8} {w w1 w2:World} (hB:B≤b) (hBw:B≤w.heap.size)
  (h1:w1.heap[b]?=some (.cells #[.pointer (some ⟨b,0,none⟩),v] 195 (0,0))) (hown:w1.ownsRow B 5 1 v l.length (byt l)) (hne:v.ownBlock≠some b) (hst:WStep B b w w1)
  (hg:w1.grownBy w2 v.ownBlock) (ho:w2.ownsRow B 5 1 v' (l++m).length (byt (l++m))) :
  w2.heap[b]?=some (.cells #[.pointer (some ⟨b,0,none⟩),v] 195 (0,0))∧IsWr B b (l++m) (w2.setCell ⟨b,1,none⟩ v')∧WStep B b w (w2.setCell ⟨b,1,none⟩ v'):=by
 have hlt:b<w1.heap.size:=(Array.getElem?_eq_some_iff.1 h1).1
 have h2:w2.heap[b]?=some (.cells #[.pointer (some ⟨b,0,none⟩),v] 195 (0,0)):=(hg.block b hlt (fun e=>hne e.symm)).trans h1
 have hP:=Lib.BuilderAt.put (T:=195) (e:=5) hB h2 (bs':=byt (l++m)) (by rw[q82q];exact ho) (by decide)
 refine ⟨h2,.inr hP,hst.trans ⟨((Below.refl B w1).grown hg (Nat.le_trans hBw hst.bel.size) (fun k hk=>(hown.lt k hk).1)).setCell (p:=⟨b,1,none⟩) hB _,fun k h3 h4 h5=>?_⟩⟩
 rw[Below.heap_setCell _ _ _ _ (fun e=>h4 e)]
 refine hg.block k h3 (fun e=>?_)
 rcases hown.2 with ⟨rfl,_⟩|⟨g,cap,cur,rfl,_,hgg,_⟩
 ·cases e
 ·simp only[Value.ownBlock,Option.some.injEq] at e
  subst e
  exact h5 _ _ hgg
set_option maxHeartbeats 2000000 in
set_option maxRecDepth 100000 in
theorem za1x (B b:Nat) (l m:List UInt8) (M c g off:Nat) (w:World) (h:IsWr B b l w) (hM:m.length=M) (hm:∀j x,m[j]?=some x→w.cell? ⟨g,off+j,none⟩=some (.int .u8 x.toNat)) (hgb:g≠b) (hlen:l.length+M≤140737488355328) (hBw:B≤w.heap.size) :
  Calls Tryz.prog 193 #[.pointer (some ⟨b,0,none⟩),.slice (some ⟨g,off,none⟩) M c] w fun e w'=>e=.returned (.tuple #[.int .i64 M,.nilIface])∧IsWr B b (l++m) w'∧WStep B b w w':=by
 obtain ⟨i0,hi,hz0,hz1,hz2⟩:=info_parts Tryz.infoByteW
 have HC:=hide (XMPW B b l w h)
 have HM:=hide hm
 clear hm
 go_enter Tryz.func193,Tryz.ntmps193
 go_wp2_with fail
 refine (HC.out).mono ?_
 rintro e w1 ⟨rfl,h1,hst,hsz,hke⟩
 obtain ⟨hB,v,hbk,hown,hne⟩:=h1
 rw[q82q] at hown
 have c0:w1.cell? ⟨b,0,none⟩=some (.pointer (some ⟨b,0,none⟩)):=by rw[Lib.cell_of_heap hbk];rfl
 have c1:w1.cell? ⟨b,1,none⟩=some v:=by rw[Lib.cell_of_heap hbk];rfl
 have HN:=hide (show ∀j u,(byt m)[j]?=some u→w1.cell? ((⟨g,off,none⟩:Addr).add j)=some u from fun j u hj=>by
  rw[byt_get?] at hj
  obtain ⟨x,hx,rfl⟩:=Option.map_eq_some_iff.1 hj
  rw[Addr.add_lit,World.cell?_of_block (a:=⟨g,off+j,none⟩) (hke g hgb)]
  exact HM.out j x hx)
 clear hke
 have HWN:=hide hown
 go_wp2_with (at_builtin;refine wpList_append_own _ rfl _ _ 74 rfl B 5 i0 (.int .u8 0) 1 1 Tryz.underlying74 hi hz0 hz1 hz2 rfl (by decide) _ _ _ rfl HWN.out ⟨g,off,none⟩ M c (byt m) rfl ?qc1 ?qc2 ?qc3 ?qc4 ?qc5 ?qc6 ?_)
 case qc1=>rw[q82q,hM,Nat.mul_one]
 case qc2=>exact HN.out
 case qc3=>exact Xhvo m
 case qc4=>unfold maxLen;omega
 case qc5=>omega
 case qc6=>omega
 intro v' w2 hown' hgrow _
 have ho:w2.ownsRow B 5 1 v' (l++m).length (byt (l++m)):=by rw[List.length_append,hM,zP44];exact hown'
 obtain ⟨hb2,hW,hS⟩:=wput hB hBw hbk hown hne hst hgrow ho
 have HW:=hide hW
 have HS:=hide hS
 have d0:w2.cell? ⟨b,0,none⟩=some (.pointer (some ⟨b,0,none⟩)):=by rw[Lib.cell_of_heap hb2];rfl
 have d1:w2.cell? ⟨b,1,none⟩=some v:=by rw[Lib.cell_of_heap hb2];rfl
 have f1:w2.frozen? ⟨b,1,none⟩=false:=Lib.frozen_of_heap hb2 1
 obtain ⟨ao,n',cap,rfl⟩:∃ao n' cap,v'=.slice ao n' cap:=by
  rcases hown'.2 with ⟨hv,_⟩|⟨g,cap,cur,hv,_⟩
  ·exact ⟨_,_,_,hv⟩
  ·exact ⟨_,_,_,hv⟩
 clear hW hS ho hown' hgrow
 go_wp2
 go_ret2
 exact ⟨rfl,HW.out,HS.out⟩
set_option maxHeartbeats 2000000 in
set_option maxRecDepth 100000 in
theorem qZ76 (B b:Nat) (l m:List UInt8) (w:World) (h:IsWr B b l w) (hlen:l.length+m.length≤140737488355328) (hBw:B≤w.heap.size) :
  Calls Tryz.prog 28 #[.pointer (some ⟨b,0,none⟩),.string (str m)] w fun e w'=>e=.returned (.tuple #[.int .i64 m.length,.nilIface])∧IsWr B b (l++m) w'∧WStep B b w w':=by
 obtain ⟨i0,hi,hz0,hz1,hz2⟩:=info_parts Tryz.infoByteW
 have HC:=hide (XMPW B b l w h)
 have hsm:(str m).size=m.length:=qzX5 m
 have hcm:Lib.strCells (str m)=byt m:=by simp[Lib.strCells,byt,str]
 go_enter Tryz.func28,Tryz.ntmps28
 go_wp2_with fail
 refine (HC.out).mono ?_
 rintro e w1 ⟨rfl,h1,hst,hsz,hke⟩
 obtain ⟨hB,v,hbk,hown,hne⟩:=h1
 rw[q82q] at hown
 have c0:w1.cell? ⟨b,0,none⟩=some (.pointer (some ⟨b,0,none⟩)):=by rw[Lib.cell_of_heap hbk];rfl
 have c1:w1.cell? ⟨b,1,none⟩=some v:=by rw[Lib.cell_of_heap hbk];rfl
 clear hke
 have HWN:=hide hown
 go_wp2_with (at_builtin;refine Lib.wpList_append_own_string _ rfl _ _ 74 9 rfl B 5 i0 Tryz.underlying74 Tryz.underlying9 hi hz0 hz1 hz2 _ _ _ rfl HWN.out (str m) rfl ?c3 ?c4 ?c5 ?_)
 case c3=>unfold maxLen;omega
 case c4=>omega
 case c5=>omega
 intro v' w2 hown' hgrow _
 have ho:w2.ownsRow B 5 1 v' (l++m).length (byt (l++m)):=by rw[List.length_append,zP44,←hcm,←hsm];exact hown'
 obtain ⟨hb2,hW,hS⟩:=wput hB hBw hbk hown hne hst hgrow ho
 have HW:=hide hW
 have HS:=hide hS
 have d0:w2.cell? ⟨b,0,none⟩=some (.pointer (some ⟨b,0,none⟩)):=by rw[Lib.cell_of_heap hb2];rfl
 have d1:w2.cell? ⟨b,1,none⟩=some v:=by rw[Lib.cell_of_heap hb2];rfl
 have f1:w2.frozen? ⟨b,1,none⟩=false:=Lib.frozen_of_heap hb2 1
 obtain ⟨ao,n',cap,rfl⟩:∃ao n' cap,v'=.slice ao n' cap:=by
  rcases hown'.2 with ⟨hv,_⟩|⟨g,cap,cur,hv,_⟩
  ·exact ⟨_,_,_,hv⟩
  ·exact ⟨_,_,_,hv⟩
 clear hW hS ho hown' hgrow
 go_wp2
 go_ret2
 exact ⟨rfl,HW.out,HS.out⟩
end Go.Proofs.YtfjeonehdlphiaaGreatDoor

namespace Go.Proofs.YtfjeonehdlphiaaGreatDoor
set_option linter.unusedVariables false
open Go.RowKit
theorem XMmn {w:World} {g:Nat} {X:Int} (hg:w.heap[g]?=some (.cells #[.int .u8 (X % 4294967296 / 16777216),.int .u8 (X % 4294967296 / 65536 % 256),.int .u8 (X % 4294967296 / 256 % 256),.int .u8 (X % 256)] 5 (0,0))) :
  ∀j x,(num4 X)[j]?=some x→w.cell? ⟨g,0+j,none⟩=some (.int .u8 x.toNat):=by
 intro j x hj
 have hl:j<4:=(List.getElem?_eq_some_iff.1 hj).1
 rw[Lib.cell_of_heap hg,Nat.zero_add]
 have e:∀n:Nat,n<256→((UInt8.ofNat n).toNat:Int)=n:=fun n hn=>by simp[UInt8.toNat_ofNat'];omega
 rcases (show j=0∨j=1∨j=2∨j=3 by omega) with rfl|rfl|rfl|rfl
 all_goals
  simp only[num4,List.getElem?_cons_zero,List.getElem?_cons_succ,Option.some.injEq] at hj
  subst hj
  rw[e _ (by omega)]
  simp
  try omega
theorem j6hd (xs:List Int):(xs.flatMap num4).length=xs.length*4:=by
 induction xs with
 | nil=>rfl
 | cons x xs ih=>rw[List.flatMap_cons,List.length_append,ih,jp6u,List.length_cons];omega
theorem jycz (xs:List Int) (k:Nat) (hk:k<xs.length):(xs.take (k+1)).flatMap num4=(xs.take k).flatMap num4++num4 xs[k]:=by
 rw[List.take_succ_eq_append_getElem hk,List.flatMap_append];simp
theorem wints {B b:Nat} {xs:List Int} {w:World} {c g:Nat} {t:TypeId} {cs:Array Value} {ca:Nat} (hg:w.heap[g]?=some (.cells cs t (0,0))) (hb:g≠b) (ht:t≠5):Apart B b (.slice (some ⟨g,0,none⟩) c ca) w:=by
 intro k hk _
 simp only[Value.ownBlock,Option.some.injEq] at hk
 subst hk
 exact .inr ⟨hb,qs9Z hg ht⟩
set_option maxHeartbeats 3200000 in
set_option maxRecDepth 100000 in
theorem qfDp (B b:Nat) (l:List UInt8) (v:Value) (xs:List Int) (w:World) (h:IsWr B b l w) (hv:jCvT w v xs) (hap:xs=[]∨Apart B b v w) (hlen:l.length+xs.length*4≤140737488355328) (hBw:B≤w.heap.size) (hbw:b<w.heap.size) :
  Calls Tryz.prog 156 #[.pointer (some ⟨b,0,none⟩),v] w fun e w'=>e=.returned (.tuple #[])∧IsWr B b (l++xs.flatMap num4) w'∧WStep B b w w':=by
 have HV:=hide hv
 have HA:=hide hap
 obtain ⟨ao,ca,rfl,hxl,hc⟩:=hv
 have HW:=hide h
 clear h hap
 go_enter Tryz.func156,Tryz.ntmps156
 go_wp2_with fail
 go_loopw [9] (fun i wr=>∃k:Nat,k≤xs.length∧i=.int .i64 k∧IsWr B b (l++(xs.take k).flatMap num4) wr∧WStep B b w wr) (fun i _=>xs.length-(intOf i).toNat)
 case atStart=>exact ⟨0,Nat.zero_le _,rfl,by simpa using HW.out,WStep.refl _ _ _⟩
 case round =>
  clear HW
  obtain ⟨k,hk,rfl,hW,hS⟩:=hrel
  have HW:=hide hW
  have HS:=hide hS
  clear hW hS
  by_cases hlt:k<xs.length
  ·have hd:decide ((k:Int)<(xs.length:Int))=true:=by simp;omega
   obtain ⟨cb,off,rfl,hcb,hcell⟩:∃b off,ao=some ⟨b,off,none⟩∧b<wr.heap.size∧wr.cell? ⟨b,off+k,none⟩=some (.int .i64 xs[k]):=by
    obtain ⟨ao',ca',hv',_,h'⟩:=HV.out.step HS.out (HA.out.resolve_left (fun e=>by rw[e] at hlt;simp at hlt))
    cases hv'
    rcases h' with h'|⟨b,off,h1,h2,h3⟩
    ·rw[h'] at hlt;simp at hlt
    ·exact ⟨b,off,h1,h2,h3 k hlt⟩
   obtain ⟨X,hX⟩:∃X,xs[k]=X:=⟨_,rfl⟩
   rw[hX] at hcell
   clear hc
   go_wp2_with fail
   have HW1:=hide (HW.out.alloc (Obj.cells #[.int .u8 (X % 4294967296 / 16777216),.int .u8 (X % 4294967296 / 65536 % 256),.int .u8 (X % 4294967296 / 256 % 256),.int .u8 (X % 256)] 5))
   have HS1:=hide (HS.out.trans (WStep.alloc (b:=b) (Nat.le_trans hBw HS.out.bel.size) (Obj.cells #[.int .u8 (X % 4294967296 / 16777216),.int .u8 (X % 4294967296 / 65536 % 256),.int .u8 (X % 4294967296 / 256 % 256),.int .u8 (X % 256)] 5)))
   have hsz:=HS.out.bel.size
   have hg:=al1 wr (Obj.cells #[.int .u8 (X % 4294967296 / 16777216),.int .u8 (X % 4294967296 / 65536 % 256),.int .u8 (X % 4294967296 / 256 % 256),.int .u8 (X % 256)] 5)
   have hll:(l++(xs.take k).flatMap num4).length=l.length+k*4:=by rw[List.length_append,j6hd,List.length_take];omega
   refine (za1x B b (l++(xs.take k).flatMap num4) (num4 X) 4 4 wr.heap.size 0 _ HW1.out rfl (XMmn hg) (by omega) (by rw[hll];omega) (Nat.le_trans hBw HS1.out.bel.size)).mono ?_
   rintro e w2 ⟨rfl,hW2,hS2⟩
   have HW2:=hide (show IsWr B b (l++(xs.take (k+1)).flatMap num4) w2 by rw[jycz xs k hlt,hX,←List.append_assoc];exact hW2)
   have HS2:=hide (HS1.out.trans hS2)
   clear hW2 hS2 hg hll hcell hX hsz
   go_wp2
   go_roundw
   case rel=>exact ⟨k+1,hlt,by go_num,HW2.out,HS2.out⟩
   case measure=>simp[intOf];omega
  ·have hd:decide ((k:Int)<(xs.length:Int))=false:=by simp;omega
   obtain rfl:k=xs.length:=by omega
   go_wp2
   go_end0
   exact ⟨rfl,by have:=HW.out;rwa [List.take_length] at this,HS.out⟩
theorem zhLR (B b:Nat) (l:List UInt8) (v:Value) (xs:List Int) (w:World) (h:IsWr B b l w) (hv:jCvT w v xs) (hap:Apart B b v w) (hlen:l.length+xs.length*4≤140737488355328) (hBw:B≤w.heap.size) (hbw:b<w.heap.size) :
  Calls Tryz.prog 156 #[.pointer (some ⟨b,0,none⟩),v] w fun e w'=>e=.returned (.tuple #[])∧IsWr B b (l++xs.flatMap num4) w'∧WStep B b w w' :=
 qfDp B b l v xs w h hv (.inr hap) hlen hBw hbw
end Go.Proofs.YtfjeonehdlphiaaGreatDoor

namespace Go.Proofs.YtfjeonehdlphiaaGreatDoor
set_option linter.unusedVariables false
open Go.RowKit
def zDfR (n:Plan):List Int:=[n.black 0,n.black 1,n.black 2,n.black 3]
def jgEL (n:Plan):List Int:=[n.gains 0,n.gains 1,n.gains 2]
def matL (n:Plan):List Int:=[n.matrix 0,n.matrix 1,n.matrix 2,n.matrix 3,n.matrix 4,n.matrix 5,n.matrix 6,n.matrix 7,n.matrix 8]
def planW (n:Plan):List UInt8 :=
 num4 n.phase++((zDfR n).flatMap num4++(num4 n.white++(listW pairW n.spots++((jgEL n).flatMap num4++((matL n).flatMap num4++(listW pairW n.curve++num4 n.amount))))))
theorem qbN1 {w:World} {b:Nat} {t:TypeId} {fr:Nat×Nat} {n:Plan} {sv cv:Value} (h:w.heap[b]?=some (.cells (planA n sv cv) t fr)):jCvT w (.slice (some ⟨b,1,none⟩) 4 4) (zDfR n):=by
 refine ⟨_,_,rfl,by simp[zDfR],.inr ⟨b,1,rfl,(Array.getElem?_eq_some_iff.1 h).1,fun j hj=>?_⟩⟩
 rw[Lib.cell_of_heap h]
 rcases (show j=0∨j=1∨j=2∨j=3 by have:j<4:=hj;omega) with rfl|rfl|rfl|rfl<;>rfl
theorem zumn {w:World} {b:Nat} {t:TypeId} {fr:Nat×Nat} {n:Plan} {sv cv:Value} (h:w.heap[b]?=some (.cells (planA n sv cv) t fr)):jCvT w (.slice (some ⟨b,7,none⟩) 3 3) (jgEL n):=by
 refine ⟨_,_,rfl,by simp[jgEL],.inr ⟨b,7,rfl,(Array.getElem?_eq_some_iff.1 h).1,fun j hj=>?_⟩⟩
 rw[Lib.cell_of_heap h]
 rcases (show j=0∨j=1∨j=2 by have:j<3:=hj;omega) with rfl|rfl|rfl<;>rfl
theorem XdZl {w:World} {b:Nat} {t:TypeId} {fr:Nat×Nat} {n:Plan} {sv cv:Value} (h:w.heap[b]?=some (.cells (planA n sv cv) t fr)):jCvT w (.slice (some ⟨b,10,none⟩) 9 9) (matL n):=by
 refine ⟨_,_,rfl,by simp[matL],.inr ⟨b,10,rfl,(Array.getElem?_eq_some_iff.1 h).1,fun j hj=>?_⟩⟩
 rw[Lib.cell_of_heap h]
 rcases (show j=0∨j=1∨j=2∨j=3∨j=4∨j=5∨j=6∨j=7∨j=8 by have:j<9:=hj;omega) with rfl|rfl|rfl|rfl|rfl|rfl|rfl|rfl|rfl<;>rfl
theorem zYeP {B b:Nat} {w:World} {c g off ca:Nat} {t:TypeId} {cs:Array Value} {fr:Nat×Nat} (hg:w.heap[g]?=some (.cells cs t fr)) (hb:g≠b) (ht:t≠5):Apart B b (.slice (some ⟨g,off,none⟩) c ca) w:=by
 intro k hk _
 simp only[Value.ownBlock,Option.some.injEq] at hk
 subst hk
 exact .inr ⟨hb,qs9Z hg ht⟩
theorem IsPts.step {B b:Nat} {u:Value} {ls:List Pt} {w w':World} (h:IsPts w u ls) (hs:WStep B b w w') (ha:Apart B b u w):IsPts w' u ls:=by
 obtain ⟨ao,cap,rfl,hl,h⟩:=h
 refine ⟨ao,cap,rfl,hl,?_⟩
 rcases h with h|⟨c,off,rfl,hlt,hc⟩
 ·exact .inl h
 ·have e:=hs.block hlt (ha c rfl hlt)
  refine .inr ⟨c,off,rfl,Nat.lt_of_lt_of_le hlt hs.bel.size,fun j hj=>?_⟩
  rw[World.cell?_of_block (a:=⟨c,off+j*2,none⟩) e,World.cell?_of_block (a:=⟨c,off+j*2+1,none⟩) e]
  exact hc j hj
theorem zHJ3 (ls:List Pt):(ls.flatMap pairW).length=ls.length*8:=by
 induction ls with
 | nil=>rfl
 | cons x xs ih=>rw[List.flatMap_cons,List.length_append,ih,List.length_cons,pairW,List.length_append,jp6u,jp6u];omega
theorem z6cB (ls:List Pt) (k:Nat) (hk:k<ls.length):(ls.take (k+1)).flatMap pairW=(ls.take k).flatMap pairW++pairW (ptAt ls k):=by
 rw[List.take_succ_eq_append_getElem hk,List.flatMap_append,jU85];simp
set_option maxHeartbeats 800000 in
set_option maxRecDepth 100000 in
theorem X2Cx (B b:Nat) (l m:List UInt8) (w:World) (h:IsWr B b l w) (hlen:l.length+m.length+4≤140737488355328) (hBw:B≤w.heap.size) (hbw:b<w.heap.size) :
  Calls Tryz.prog 155 #[.pointer (some ⟨b,0,none⟩),.string (str m)] w fun e w'=>e=.returned (.tuple #[])∧IsWr B b (l++textW m) w'∧WStep B b w w':=by
 have hsm:(str m).size=m.length:=qzX5 m
 have HW:=hide (h.alloc (Obj.cells #[.int .i64 m.length] 3))
 have HS:=hide (WStep.alloc (b:=b) hBw (Obj.cells #[.int .i64 m.length] 3))
 have hg:=al1 w (Obj.cells #[.int .i64 m.length] 3)
 have HI:=hide (ints1 w m.length)
 have HA:=hide (wints (B:=B) (b:=b) (c:=1) (ca:=1) (xs:=[]) hg (by omega) (by decide))
 have hsz:B≤(w.alloc (Obj.cells #[.int .i64 m.length] 3)).heap.size:=Nat.le_trans hBw HS.out.bel.size
 have hsb:b<(w.alloc (Obj.cells #[.int .i64 m.length] 3)).heap.size:=Nat.lt_of_lt_of_le hbw HS.out.bel.size
 clear h hg
 go_enter Tryz.func155,Tryz.ntmps155
 go_wp2_with fail
 refine (zhLR B b l _ [(m.length:Int)] _ HW.out HI.out HA.out (by simp;omega) hsz hsb).mono ?_
 rintro e w1 ⟨rfl,hW1,hS1⟩
 have HW1:=hide hW1
 have HS1:=hide (HS.out.trans hS1)
 clear hW1 hS1 HW HI HA HS
 go_wp2_with fail
 refine (qZ76 B b _ m _ HW1.out (by rw[List.length_append,j6hd];simp;omega) (Nat.le_trans hBw HS1.out.bel.size)).mono ?_
 rintro e w2 ⟨rfl,hW2,hS2⟩
 have HW2:=hide (show IsWr B b (l++textW m) w2 by have:=hW2;simpa [textW,List.append_assoc] using this)
 have HS2:=hide (HS1.out.trans hS2)
 go_wp2
 go_end0
 exact ⟨rfl,HW2.out,HS2.out⟩
set_option maxHeartbeats 6400000 in
set_option maxRecDepth 100000 in
theorem zu1k (B b:Nat) (l:List UInt8) (n:Plan) (sv cv:Value) (w:World) (h:IsWr B b l w) (hp:X1uD w n sv cv) (hs:n.spots=[]∨Apart B b sv w) (hc:n.curve=[]∨Apart B b cv w) (hl:l.length≤1099511627776) (h1:n.spots.length≤1048576) (h2:n.curve.length≤1048576) (hBw:B≤w.heap.size) (hbw:b<w.heap.size) :
  Calls Tryz.prog 157 #[.pointer (some ⟨b,0,none⟩),.agg (planA n sv cv)] w fun e w'=>e=.returned (.tuple #[])∧IsWr B b (l++planW n) w'∧WStep B b w w':=by
 have HP:=hide hp
 have HAS:=hide hs
 have HAC:=hide hc
 obtain ⟨⟨lo,lc,rfl,hll,_⟩,⟨ko,kc,rfl,hkl,_⟩⟩:=hp
 have a1:=al1 w (Obj.cells (planA n (.slice lo n.spots.length lc) (.slice ko n.curve.length kc)) 51)
 have hkb:w.heap.size≠b:=by omega
 have HS0:=hide (WStep.alloc (b:=b) hBw (Obj.cells (planA n (.slice lo n.spots.length lc) (.slice ko n.curve.length kc)) 51))
 have HW0:=hide (h.alloc (Obj.cells (planA n (.slice lo n.spots.length lc) (.slice ko n.curve.length kc)) 51))
 have HNB:=hide (qs9Z a1 (by decide))
 have hlt:=(Array.getElem?_eq_some_iff.1 a1).1
 clear h hs hc
 go_enter Tryz.func157,Tryz.ntmps157
 obtain ⟨c0,c1,c2,c3,c4,c5,c6,c7,c8,c9,c10,c11,c12,c13,c14,c15,c16,c17,c18,c19,c20⟩:=qH9I a1
 go_wp2_with fail
 clear c0 c1 c2 c3 c4 c5 c6 c7 c8 c9 c10 c11 c12 c13 c14 c15 c16 c17 c18 c19 c20
 have hB0:=HS0.out.bel.size
 have hB0:B≤(w.alloc (Obj.cells (planA n (.slice lo n.spots.length lc) (.slice ko n.curve.length kc)) 51)).heap.size:=Nat.le_trans hBw HS0.out.bel.size
 have hb0:b<(w.alloc (Obj.cells (planA n (.slice lo n.spots.length lc) (.slice ko n.curve.length kc)) 51)).heap.size:=Nat.lt_of_lt_of_le hbw HS0.out.bel.size
 have HSZ:=hide (show (w.alloc (Obj.cells (planA n (.slice lo n.spots.length lc) (.slice ko n.curve.length kc)) 51)).heap.size=w.heap.size+1 from World.size_alloc _ _)
 generalize w.alloc (Obj.cells (planA n (.slice lo n.spots.length lc) (.slice ko n.curve.length kc)) 51)=U at *
 have HBK:=hide (show ∀V,WStep B b U V→V.heap[w.heap.size]?=some (.cells (planA n (.slice lo n.spots.length lc) (.slice ko n.curve.length kc)) 51 (0,0)) from fun V hV=>(hV.block hlt (.inr ⟨hkb,HNB.out⟩)).trans a1)
 have HST:=hide (WStep.refl B b U)
 have HW:=HW0
 have HL:=hide hl
 clear a1 HW0 hl
 have hBV:B≤U.heap.size:=Nat.le_trans hB0 HST.out.bel.size
 have hbV:b<U.heap.size:=Nat.lt_of_lt_of_le hb0 HST.out.bel.size
 have HG:=hide (WStep.alloc (b:=b) hBV (Obj.cells #[.int .i64 n.phase] 3))
 have HWA:=hide (HW.out.alloc (Obj.cells #[.int .i64 n.phase] 3))
 have HIA:=hide (ints1 U n.phase)
 have hga:=al1 U (Obj.cells #[.int .i64 n.phase] 3)
 have HAA:=hide (wints (B:=B) (b:=b) (c:=1) (ca:=1) (xs:=[]) hga (by omega) (by decide))
 have HLA:=hide (show l.length+[(n.phase:Int)].length*4≤140737488355328 by have:=HL.out;simp;omega)
 have hBA:=Nat.le_trans hBV HG.out.bel.size
 have hbA:=Nat.lt_of_lt_of_le hbV HG.out.bel.size
 clear hga
 rw[HSZ.out] at HIA HAA
 generalize U.alloc (Obj.cells #[.int .i64 n.phase] 3)=VA at *
 refine (zhLR B b l _ [(n.phase:Int)] _ HWA.out HIA.out HAA.out HLA.out hBA hbA).mono ?_
 rintro e V1 ⟨rfl,hW',hS'⟩
 replace HST:=hide (HST.out.trans (HG.out.trans hS'))
 obtain ⟨L1,HQ1⟩:∃L1,Hid (l++[(n.phase:Int)].flatMap num4=L1):=⟨_,rfl⟩
 rw[HQ1.out] at hW'
 replace HW:=hide hW'
 replace HL:=hide (show L1.length≤1099511627776+4 by rw[←HQ1.out,List.length_append,j6hd];have:=HL.out;simp;omega)
 clear hW' hS' HG hBV hbV HWA HIA HAA HLA hBA hbA
 obtain ⟨c0,c1,c2,c3,c4,c5,c6,c7,c8,c9,c10,c11,c12,c13,c14,c15,c16,c17,c18,c19,c20⟩:=qH9I (HBK.out V1 HST.out)
 go_wp2_with fail
 clear c0 c1 c2 c3 c4 c5 c6 c7 c8 c9 c10 c11 c12 c13 c14 c15 c16 c17 c18 c19 c20
 have hBV:B≤V1.heap.size:=Nat.le_trans hB0 HST.out.bel.size
 have hbV:b<V1.heap.size:=Nat.lt_of_lt_of_le hb0 HST.out.bel.size
 refine (zhLR B b L1 _ (zDfR n) _ HW.out (qbN1 (HBK.out _ HST.out)) (zYeP (HBK.out _ HST.out) hkb (by decide)) (by have:=HL.out;simp[zDfR];omega) hBV hbV).mono ?_
 rintro e V2 ⟨rfl,hW',hS'⟩
 replace HST:=hide (HST.out.trans hS')
 obtain ⟨L2,HQ2⟩:∃L2,Hid (L1++(zDfR n).flatMap num4=L2):=⟨_,rfl⟩
 rw[HQ2.out] at hW'
 replace HW:=hide hW'
 replace HL:=hide (show L2.length≤1099511627776+20 by rw[←HQ2.out,List.length_append,j6hd];have:=HL.out;simp[zDfR];omega)
 clear hW' hS' hBV hbV
 obtain ⟨c0,c1,c2,c3,c4,c5,c6,c7,c8,c9,c10,c11,c12,c13,c14,c15,c16,c17,c18,c19,c20⟩:=qH9I (HBK.out V2 HST.out)
 go_wp2_with fail
 clear c0 c1 c2 c3 c4 c5 c6 c7 c8 c9 c10 c11 c12 c13 c14 c15 c16 c17 c18 c19 c20
 have hBV:B≤V2.heap.size:=Nat.le_trans hB0 HST.out.bel.size
 have hbV:b<V2.heap.size:=Nat.lt_of_lt_of_le hb0 HST.out.bel.size
 have HG:=hide (WStep.alloc (b:=b) hBV (Obj.cells #[.int .i64 n.white] 3))
 have HWA:=hide (HW.out.alloc (Obj.cells #[.int .i64 n.white] 3))
 have HIA:=hide (ints1 V2 n.white)
 have hga:=al1 V2 (Obj.cells #[.int .i64 n.white] 3)
 have HAA:=hide (wints (B:=B) (b:=b) (c:=1) (ca:=1) (xs:=[]) hga (by omega) (by decide))
 have HLA:=hide (show L2.length+[(n.white:Int)].length*4≤140737488355328 by have:=HL.out;simp;omega)
 have hBA:=Nat.le_trans hBV HG.out.bel.size
 have hbA:=Nat.lt_of_lt_of_le hbV HG.out.bel.size
 clear hga
 generalize V2.alloc (Obj.cells #[.int .i64 n.white] 3)=VA at *
 refine (zhLR B b L2 _ [(n.white:Int)] _ HWA.out HIA.out HAA.out HLA.out hBA hbA).mono ?_
 rintro e V3 ⟨rfl,hW',hS'⟩
 replace HST:=hide (HST.out.trans (HG.out.trans hS'))
 obtain ⟨L3,HQ3⟩:∃L3,Hid (L2++[(n.white:Int)].flatMap num4=L3):=⟨_,rfl⟩
 rw[HQ3.out] at hW'
 replace HW:=hide hW'
 replace HL:=hide (show L3.length≤1099511627776+24 by rw[←HQ3.out,List.length_append,j6hd];have:=HL.out;simp;omega)
 clear hW' hS' HG hBV hbV HWA HIA HAA HLA hBA hbA
 obtain ⟨c0,c1,c2,c3,c4,c5,c6,c7,c8,c9,c10,c11,c12,c13,c14,c15,c16,c17,c18,c19,c20⟩:=qH9I (HBK.out V3 HST.out)
 go_wp2_with fail
 clear c0 c1 c2 c3 c4 c5 c6 c7 c8 c9 c10 c11 c12 c13 c14 c15 c16 c17 c18 c19 c20
 have hBV:B≤V3.heap.size:=Nat.le_trans hB0 HST.out.bel.size
 have hbV:b<V3.heap.size:=Nat.lt_of_lt_of_le hb0 HST.out.bel.size
 have HG:=hide (WStep.alloc (b:=b) hBV (Obj.cells #[.int .i64 n.spots.length] 3))
 have HWA:=hide (HW.out.alloc (Obj.cells #[.int .i64 n.spots.length] 3))
 have HIA:=hide (ints1 V3 n.spots.length)
 have hga:=al1 V3 (Obj.cells #[.int .i64 n.spots.length] 3)
 have HAA:=hide (wints (B:=B) (b:=b) (c:=1) (ca:=1) (xs:=[]) hga (by omega) (by decide))
 have HLA:=hide (show L3.length+[(n.spots.length:Int)].length*4≤140737488355328 by have:=HL.out;simp;omega)
 have hBA:=Nat.le_trans hBV HG.out.bel.size
 have hbA:=Nat.lt_of_lt_of_le hbV HG.out.bel.size
 clear hga
 generalize V3.alloc (Obj.cells #[.int .i64 n.spots.length] 3)=VA at *
 refine (zhLR B b L3 _ [(n.spots.length:Int)] _ HWA.out HIA.out HAA.out HLA.out hBA hbA).mono ?_
 rintro e V4 ⟨rfl,hW',hS'⟩
 replace HST:=hide (HST.out.trans (HG.out.trans hS'))
 obtain ⟨L4,HQ4⟩:∃L4,Hid (L3++[(n.spots.length:Int)].flatMap num4=L4):=⟨_,rfl⟩
 rw[HQ4.out] at hW'
 replace HW:=hide hW'
 replace HL:=hide (show L4.length≤1099511627776+28 by rw[←HQ4.out,List.length_append,j6hd];have:=HL.out;simp;omega)
 clear hW' hS' HG hBV hbV HWA HIA HAA HLA hBA hbA
 obtain ⟨c0,c1,c2,c3,c4,c5,c6,c7,c8,c9,c10,c11,c12,c13,c14,c15,c16,c17,c18,c19,c20⟩:=qH9I (HBK.out V4 HST.out)
 go_wp2_with fail
 clear c0 c1 c2 c3 c4 c5 c6 c7 c8 c9 c10 c11 c12 c13 c14 c15 c16 c17 c18 c19 c20
 go_loopw [31] (fun i wr=>∃k:Nat,k≤n.spots.length∧i=.int .i64 k∧IsWr B b (L4++(n.spots.take k).flatMap pairW) wr∧WStep B b U wr) (fun i _=>n.spots.length-(intOf i).toNat)
 case atStart=>exact ⟨0,Nat.zero_le _,rfl,by simpa using HW.out,HST.out⟩
 case round =>
  obtain ⟨k,hk,rfl,hW,hS⟩:=hrel
  have HLL:=HL
  clear HST HW
  have HST:=hide hS
  have HW:=hide hW
  clear hW hS
  by_cases hlt:k<n.spots.length
  ·have hd:decide ((k:Int)<(n.spots.length:Int))=true:=by simp;omega
   obtain ⟨bq,oq,rfl,hbq,d0,d1⟩:=(HP.out.spots.step (HS0.out.trans HST.out) (HAS.out.resolve_left (fun e=>by rw[e] at hlt;simp at hlt))).at k hlt
   obtain ⟨⟨x,y⟩,hxy⟩:∃t,ptAt n.spots k=t:=⟨_,rfl⟩
   rw[hxy] at d0 d1
   have g1:=al1 wr (Obj.cells #[.int .i64 x,.int .i64 y] 97)
   obtain ⟨e0,e1⟩:=bx2 g1
   have hBV:B≤wr.heap.size:=Nat.le_trans hB0 HST.out.bel.size
   have hbV:b<wr.heap.size:=Nat.lt_of_lt_of_le hb0 HST.out.bel.size
   have HG:=hide (WStep.alloc (b:=b) hBV (Obj.cells #[.int .i64 x,.int .i64 y] 97))
   have HWA:=hide (HW.out.alloc (Obj.cells #[.int .i64 x,.int .i64 y] 97))
   go_wp2_with fail
   clear d0 d1 e0 e1 g1
   have hBX:B≤(wr.alloc (Obj.cells #[.int .i64 x,.int .i64 y] 97)).heap.size:=Nat.le_trans hBV HG.out.bel.size
   have hbX:b<(wr.alloc (Obj.cells #[.int .i64 x,.int .i64 y] 97)).heap.size:=Nat.lt_of_lt_of_le hbV HG.out.bel.size
   have HI:=hide (zYDK (wr.alloc (Obj.cells #[.int .i64 x,.int .i64 y] 97)) x y)
   have HK:=hide (wints (B:=B) (b:=b) (c:=2) (ca:=2) (xs:=[]) (al1 (wr.alloc (Obj.cells #[.int .i64 x,.int .i64 y] 97)) (Obj.cells #[.int .i64 x,.int .i64 y] 3)) (by omega) (by decide))
   rw[World.size_alloc] at HI HK
   generalize wr.alloc (Obj.cells #[.int .i64 x,.int .i64 y] 97)=X at *
   have HG2:=hide (WStep.alloc (b:=b) hBX (Obj.cells #[.int .i64 x,.int .i64 y] 3))
   refine (zhLR B b _ _ [x,y] _ (HWA.out.alloc (Obj.cells #[.int .i64 x,.int .i64 y] 3)) HI.out HK.out (by have:=HLL.out;rw[List.length_append,zHJ3,List.length_take];simp;omega) (Nat.le_trans hBX HG2.out.bel.size) (Nat.lt_of_lt_of_le hbX HG2.out.bel.size)).mono ?_
   rintro e X2 ⟨rfl,hW',hS'⟩
   have HST2:=hide (HST.out.trans (HG.out.trans (HG2.out.trans hS')))
   have HW2:=hide (show IsWr B b (L4++(n.spots.take (k+1)).flatMap pairW) X2 by rw[z6cB _ k hlt,hxy,←List.append_assoc];exact hW')
   clear hW' hS' HG HG2 HWA HI HK hBV hbV hBX hbX
   go_wp2
   go_roundw
   case rel=>exact ⟨k+1,hlt,by go_num,HW2.out,HST2.out⟩
   case measure=>simp[intOf];omega
  ·have hd:decide ((k:Int)<(n.spots.length:Int))=false:=by simp;omega
   obtain rfl:k=n.spots.length:=by omega
   rw[List.take_length] at HW
   obtain ⟨L5,HQ5⟩:∃L5,Hid (L4++n.spots.flatMap pairW=L5):=⟨_,rfl⟩
   rw[HQ5.out] at HW
   clear HL
   have HL:=hide (show L5.length≤1099511627776+8388636 by rw[←HQ5.out,List.length_append,zHJ3];have:=HLL.out;omega)
   clear HLL
   generalize wr=VS at *
   obtain ⟨c0,c1,c2,c3,c4,c5,c6,c7,c8,c9,c10,c11,c12,c13,c14,c15,c16,c17,c18,c19,c20⟩:=qH9I (HBK.out VS HST.out)
   go_wp2_with fail
   clear c0 c1 c2 c3 c4 c5 c6 c7 c8 c9 c10 c11 c12 c13 c14 c15 c16 c17 c18 c19 c20
   have hBV:B≤VS.heap.size:=Nat.le_trans hB0 HST.out.bel.size
   have hbV:b<VS.heap.size:=Nat.lt_of_lt_of_le hb0 HST.out.bel.size
   refine (zhLR B b L5 _ (jgEL n) _ HW.out (zumn (HBK.out _ HST.out)) (zYeP (HBK.out _ HST.out) hkb (by decide)) (by have:=HL.out;simp[jgEL];omega) hBV hbV).mono ?_
   rintro e V6 ⟨rfl,hW',hS'⟩
   replace HST:=hide (HST.out.trans hS')
   obtain ⟨L6,HQ6⟩:∃L6,Hid (L5++(jgEL n).flatMap num4=L6):=⟨_,rfl⟩
   rw[HQ6.out] at hW'
   replace HW:=hide hW'
   replace HL:=hide (show L6.length≤1099511627776+8388648 by rw[←HQ6.out,List.length_append,j6hd];have:=HL.out;simp[jgEL];omega)
   clear hW' hS' hBV hbV
   obtain ⟨c0,c1,c2,c3,c4,c5,c6,c7,c8,c9,c10,c11,c12,c13,c14,c15,c16,c17,c18,c19,c20⟩:=qH9I (HBK.out V6 HST.out)
   go_wp2_with fail
   clear c0 c1 c2 c3 c4 c5 c6 c7 c8 c9 c10 c11 c12 c13 c14 c15 c16 c17 c18 c19 c20
   have hBV:B≤V6.heap.size:=Nat.le_trans hB0 HST.out.bel.size
   have hbV:b<V6.heap.size:=Nat.lt_of_lt_of_le hb0 HST.out.bel.size
   refine (zhLR B b L6 _ (matL n) _ HW.out (XdZl (HBK.out _ HST.out)) (zYeP (HBK.out _ HST.out) hkb (by decide)) (by have:=HL.out;simp[matL];omega) hBV hbV).mono ?_
   rintro e V7 ⟨rfl,hW',hS'⟩
   replace HST:=hide (HST.out.trans hS')
   obtain ⟨L7,HQ7⟩:∃L7,Hid (L6++(matL n).flatMap num4=L7):=⟨_,rfl⟩
   rw[HQ7.out] at hW'
   replace HW:=hide hW'
   replace HL:=hide (show L7.length≤1099511627776+8388684 by rw[←HQ7.out,List.length_append,j6hd];have:=HL.out;simp[matL];omega)
   clear hW' hS' hBV hbV
   obtain ⟨c0,c1,c2,c3,c4,c5,c6,c7,c8,c9,c10,c11,c12,c13,c14,c15,c16,c17,c18,c19,c20⟩:=qH9I (HBK.out V7 HST.out)
   go_wp2_with fail
   clear c0 c1 c2 c3 c4 c5 c6 c7 c8 c9 c10 c11 c12 c13 c14 c15 c16 c17 c18 c19 c20
   have hBV:B≤V7.heap.size:=Nat.le_trans hB0 HST.out.bel.size
   have hbV:b<V7.heap.size:=Nat.lt_of_lt_of_le hb0 HST.out.bel.size
   have HG:=hide (WStep.alloc (b:=b) hBV (Obj.cells #[.int .i64 n.curve.length] 3))
   have HWA:=hide (HW.out.alloc (Obj.cells #[.int .i64 n.curve.length] 3))
   have HIA:=hide (ints1 V7 n.curve.length)
   have hga:=al1 V7 (Obj.cells #[.int .i64 n.curve.length] 3)
   have HAA:=hide (wints (B:=B) (b:=b) (c:=1) (ca:=1) (xs:=[]) hga (by omega) (by decide))
   have HLA:=hide (show L7.length+[(n.curve.length:Int)].length*4≤140737488355328 by have:=HL.out;simp;omega)
   have hBA:=Nat.le_trans hBV HG.out.bel.size
   have hbA:=Nat.lt_of_lt_of_le hbV HG.out.bel.size
   clear hga
   generalize V7.alloc (Obj.cells #[.int .i64 n.curve.length] 3)=VA at *
   refine (zhLR B b L7 _ [(n.curve.length:Int)] _ HWA.out HIA.out HAA.out HLA.out hBA hbA).mono ?_
   rintro e V8 ⟨rfl,hW',hS'⟩
   replace HST:=hide (HST.out.trans (HG.out.trans hS'))
   obtain ⟨L8,HQ8⟩:∃L8,Hid (L7++[(n.curve.length:Int)].flatMap num4=L8):=⟨_,rfl⟩
   rw[HQ8.out] at hW'
   replace HW:=hide hW'
   replace HL:=hide (show L8.length≤1099511627776+8388688 by rw[←HQ8.out,List.length_append,j6hd];have:=HL.out;simp;omega)
   clear hW' hS' HG hBV hbV HWA HIA HAA HLA hBA hbA
   obtain ⟨c0,c1,c2,c3,c4,c5,c6,c7,c8,c9,c10,c11,c12,c13,c14,c15,c16,c17,c18,c19,c20⟩:=qH9I (HBK.out V8 HST.out)
   go_wp2_with fail
   clear c0 c1 c2 c3 c4 c5 c6 c7 c8 c9 c10 c11 c12 c13 c14 c15 c16 c17 c18 c19 c20
   go_loopw [60] (fun i wr=>∃k:Nat,k≤n.curve.length∧i=.int .i64 k∧IsWr B b (L8++(n.curve.take k).flatMap pairW) wr∧WStep B b U wr) (fun i _=>n.curve.length-(intOf i).toNat)
   case atStart=>exact ⟨0,Nat.zero_le _,rfl,by simpa using HW.out,HST.out⟩
   case round =>
    obtain ⟨k,hk,rfl,hW,hS⟩:=hrel
    have HLL:=HL
    clear HST HW
    have HST:=hide hS
    have HW:=hide hW
    clear hW hS
    by_cases hlt:k<n.curve.length
    ·have hd:decide ((k:Int)<(n.curve.length:Int))=true:=by simp;omega
     obtain ⟨bq,oq,rfl,hbq,d0,d1⟩:=(HP.out.curve.step (HS0.out.trans HST.out) (HAC.out.resolve_left (fun e=>by rw[e] at hlt;simp at hlt))).at k hlt
     obtain ⟨⟨x,y⟩,hxy⟩:∃t,ptAt n.curve k=t:=⟨_,rfl⟩
     rw[hxy] at d0 d1
     have g1:=al1 wr (Obj.cells #[.int .i64 x,.int .i64 y] 66)
     obtain ⟨e0,e1⟩:=bx2 g1
     have hBV:B≤wr.heap.size:=Nat.le_trans hB0 HST.out.bel.size
     have hbV:b<wr.heap.size:=Nat.lt_of_lt_of_le hb0 HST.out.bel.size
     have HG:=hide (WStep.alloc (b:=b) hBV (Obj.cells #[.int .i64 x,.int .i64 y] 66))
     have HWA:=hide (HW.out.alloc (Obj.cells #[.int .i64 x,.int .i64 y] 66))
     go_wp2_with fail
     clear d0 d1 e0 e1 g1
     have hBX:B≤(wr.alloc (Obj.cells #[.int .i64 x,.int .i64 y] 66)).heap.size:=Nat.le_trans hBV HG.out.bel.size
     have hbX:b<(wr.alloc (Obj.cells #[.int .i64 x,.int .i64 y] 66)).heap.size:=Nat.lt_of_lt_of_le hbV HG.out.bel.size
     have HI:=hide (zYDK (wr.alloc (Obj.cells #[.int .i64 x,.int .i64 y] 66)) x y)
     have HK:=hide (wints (B:=B) (b:=b) (c:=2) (ca:=2) (xs:=[]) (al1 (wr.alloc (Obj.cells #[.int .i64 x,.int .i64 y] 66)) (Obj.cells #[.int .i64 x,.int .i64 y] 3)) (by omega) (by decide))
     rw[World.size_alloc] at HI HK
     generalize wr.alloc (Obj.cells #[.int .i64 x,.int .i64 y] 66)=X at *
     have HG2:=hide (WStep.alloc (b:=b) hBX (Obj.cells #[.int .i64 x,.int .i64 y] 3))
     refine (zhLR B b _ _ [x,y] _ (HWA.out.alloc (Obj.cells #[.int .i64 x,.int .i64 y] 3)) HI.out HK.out (by have:=HLL.out;rw[List.length_append,zHJ3,List.length_take];simp;omega) (Nat.le_trans hBX HG2.out.bel.size) (Nat.lt_of_lt_of_le hbX HG2.out.bel.size)).mono ?_
     rintro e X2 ⟨rfl,hW',hS'⟩
     have HST2:=hide (HST.out.trans (HG.out.trans (HG2.out.trans hS')))
     have HW2:=hide (show IsWr B b (L8++(n.curve.take (k+1)).flatMap pairW) X2 by rw[z6cB _ k hlt,hxy,←List.append_assoc];exact hW')
     clear hW' hS' HG HG2 HWA HI HK hBV hbV hBX hbX
     go_wp2
     go_roundw
     case rel=>exact ⟨k+1,hlt,by go_num,HW2.out,HST2.out⟩
     case measure=>simp[intOf];omega
    ·have hd:decide ((k:Int)<(n.curve.length:Int))=false:=by simp;omega
     obtain rfl:k=n.curve.length:=by omega
     rw[List.take_length] at HW
     obtain ⟨L9,HQ9⟩:∃L9,Hid (L8++n.curve.flatMap pairW=L9):=⟨_,rfl⟩
     rw[HQ9.out] at HW
     clear HL
     have HL:=hide (show L9.length≤1099511627776+16777296 by rw[←HQ9.out,List.length_append,zHJ3];have:=HLL.out;omega)
     clear HLL
     generalize wr=VC at *
     obtain ⟨c0,c1,c2,c3,c4,c5,c6,c7,c8,c9,c10,c11,c12,c13,c14,c15,c16,c17,c18,c19,c20⟩:=qH9I (HBK.out VC HST.out)
     go_wp2_with fail
     clear c0 c1 c2 c3 c4 c5 c6 c7 c8 c9 c10 c11 c12 c13 c14 c15 c16 c17 c18 c19 c20
     have hBV:B≤VC.heap.size:=Nat.le_trans hB0 HST.out.bel.size
     have hbV:b<VC.heap.size:=Nat.lt_of_lt_of_le hb0 HST.out.bel.size
     have HG:=hide (WStep.alloc (b:=b) hBV (Obj.cells #[.int .i64 n.amount] 3))
     have HWA:=hide (HW.out.alloc (Obj.cells #[.int .i64 n.amount] 3))
     have HIA:=hide (ints1 VC n.amount)
     have hga:=al1 VC (Obj.cells #[.int .i64 n.amount] 3)
     have HAA:=hide (wints (B:=B) (b:=b) (c:=1) (ca:=1) (xs:=[]) hga (by omega) (by decide))
     have HLA:=hide (show L9.length+[(n.amount:Int)].length*4≤140737488355328 by have:=HL.out;simp;omega)
     have hBA:=Nat.le_trans hBV HG.out.bel.size
     have hbA:=Nat.lt_of_lt_of_le hbV HG.out.bel.size
     clear hga
     generalize VC.alloc (Obj.cells #[.int .i64 n.amount] 3)=VA at *
     refine (zhLR B b L9 _ [(n.amount:Int)] _ HWA.out HIA.out HAA.out HLA.out hBA hbA).mono ?_
     rintro e V10 ⟨rfl,hW',hS'⟩
     replace HST:=hide (HST.out.trans (HG.out.trans hS'))
     obtain ⟨L10,HQ10⟩:∃L10,Hid (L9++[(n.amount:Int)].flatMap num4=L10):=⟨_,rfl⟩
     rw[HQ10.out] at hW'
     replace HW:=hide hW'
     replace HL:=hide (show L10.length≤1099511627776+16777300 by rw[←HQ10.out,List.length_append,j6hd];have:=HL.out;simp;omega)
     clear hW' hS' HG hBV hbV HWA HIA HAA HLA hBA hbA
     have HF:=hide (show IsWr B b (l++planW n) V10 by
      have e:l++planW n=L10:=by
       rw[←HQ10.out,←HQ9.out,←HQ8.out,←HQ7.out,←HQ6.out,←HQ5.out,←HQ4.out,←HQ3.out,←HQ2.out,←HQ1.out]
       simp[planW,listW,List.append_assoc]
      rw[e];exact HW.out)
     have HSF:=hide (HS0.out.trans HST.out)
     go_wp2
     go_end0
     exact ⟨rfl,HF.out,HSF.out⟩
end Go.Proofs.YtfjeonehdlphiaaGreatDoor

namespace Go.Proofs.YtfjeonehdlphiaaGreatDoor
set_option linter.unusedVariables false
open Go.RowKit
theorem zh4b {w:World} {base:Nat} {e:TypeId} {sz:Nat} {v:Value} {n:Nat} {xs:List Value} {k:Nat} (h:w.ownsRow base e sz v n xs) (hne:v.ownBlock≠some k) (x y z:Value):(((w.setCell ⟨k,0,none⟩ x).setCell ⟨k,1,none⟩ y).setCell ⟨k,2,none⟩ z).ownsRow base e sz v n xs:=by
 refine ⟨h.1,?_⟩
 rcases h.2 with h|⟨g,cap,cur,hv,hg,hh,r⟩
 ·exact .inl h
 ·refine .inr ⟨g,cap,cur,hv,hg,?_,r⟩
  rw[jZhz _ _ _ _ _ g (fun e=>hne (by rw[hv,e];rfl))]
  exact hh
theorem jP4G {s:List UInt8} {W H kind:Int} {xs:List Int} (h:qaPw s W H kind xs=0):(jNAw s W H kind xs).length=W.toNat*H.toNat∧1≤W∧1≤H:=by
 rw[jNAw,if_pos h]
 unfold qaPw at h
 split at h
 ·rename_i h0
  split at h
  ·split at h
   ·split at h
    ·rename_i h3
     obtain ⟨zs,hz⟩:=Option.isSome_iff_exists.1 h3
     rw[hz]
     have h1:=h0.1
     have h2:=h0.2
     simp only[jbTy,decide_eq_true_eq] at h1 h2
     refine ⟨?_,h1.1,h2.1⟩
     rw[readD] at hz
     split at hz
     ·split at hz
      ·rename_i hq
       split at hz
       ·cases hz
        exact (qbXa hq).1
       ·cases hz
      ·cases hz
     ·cases hz
    ·cases h
   ·rename_i hc;exact absurd h hc
  ·cases h
 ·cases h
theorem jO8C {r:RawF} (h:Head r) {i:Nat} (hi:i<cntN r) {s:List UInt8} (h0:stE r s (rowN r i)=0):((stZ r s (rowN r i)).length:Int)=rowN r i*r.w:=by
 obtain ⟨h3,h4⟩:=h.size hi
 obtain ⟨h5,h6⟩:=h.row hi
 have hw:=h.w
 by_cases hk:r.kind=0
 ·obtain ⟨e1,e2⟩:=XX6a hk s (rowN r i)
  rw[e1] at h0
  rw[e2,unpV,if_pos (jtlP h0),z3uI]
  omega
 ·have hE:qaPw s r.w (rowN r i) r.kind r.lens=0:=by
   rw[stE,if_neg hk] at h0
   split at h0
   ·assumption
   ·exact h0
  obtain ⟨e1,_,_⟩:=jP4G hE
  rw[stZ,if_pos h0,if_neg hk,e1]
  obtain ⟨A,hA⟩:=Int.eq_ofNat_of_zero_le (show 0≤r.w by omega)
  obtain ⟨B,hB⟩:=Int.eq_ofNat_of_zero_le (show 0≤rowN r i by omega)
  rw[hA,hB,Int.toNat_natCast,Int.toNat_natCast,Int.natCast_mul,Int.mul_comm]
theorem z1r6 {r:RawF} (h:Head r) (k:Nat) (hk:k≤cntN r) (hs:stOk r k=true):(plUp r k).length≤k*4096:=by
 induction k with
 | zero=>simp[plUp]
 | succ k ih =>
  rw[qGwq,Bool.and_eq_true] at hs
  have h1:=ih (by omega) hs.1
  have h2:=jO8C h (show k<cntN r by omega) (of_decide_eq_true hs.2)
  have h3:=h.size (show k<cntN r by omega)
  rw[XcbT,List.length_append]
  omega
def PlJ (w:World) (r:RawF) (RA:Array Value) (QX k:Nat) (wr:World):Prop :=
 ∃(so:Option Addr) (cap:Nat),stOk r k=true∧wr.heap[QX]?=some (.cells #[.int .i64 r.w,.int .i64 r.h,.slice so (plUp r k).length cap] 54 (0,0))∧wr.ownsRow w.heap.size 3 1 (.slice so (plUp r k).length cap) (plUp r k).length ((plUp r k).map (Value.int .i64)) ∧
  wr.heap[w.heap.size]?=some (.cells RA 57 (0,0))∧wr.heap[w.heap.size+1]?=some (.cells #[.int .i64 0,.int .i64 0,.slice none 0 0] 54 (0,0))∧Below w.heap.size w wr
theorem PlJ.below {w:World} {r:RawF} {RA:Array Value} {QX k:Nat} {wr V:World} (h:PlJ w r RA QX k wr) (hV:Below wr.heap.size wr V):PlJ w r RA QX k V:=by
 obtain ⟨so,cap,h1,h3,h4,h5,h6,h8⟩:=h
 exact ⟨so,cap,h1,(hV.block _ (Array.getElem?_eq_some_iff.1 h3).1).trans h3,qw14 h4 hV,(hV.block _ (Array.getElem?_eq_some_iff.1 h5).1).trans h5,(hV.block _ (Array.getElem?_eq_some_iff.1 h6).1).trans h6,h8.trans (hV.mono h8.size)⟩
set_option maxRecDepth 100000 in
set_option maxHeartbeats 3200000 in
theorem XAFS (r:RawF) (lv tv sv cv:Value) (w:World) (hr:IsRaw w r lv tv sv cv) :
  Calls Tryz.prog 48 #[.agg (rawA r lv tv sv cv)] w fun e w'=>∃v,e=.returned (.tuple #[.agg #[.int .i64 (XH9X r),.int .i64 (zq73 r),v],.int .i64 (XDWf r)])∧jCvT w' v (zcNm r)∧Below w.heap.size w w'∧Fresh w.heap.size v:=by
 have HR:=hide hr
 have HCH:=hide (fun (u:World) (hu:Below w.heap.size w u)=>zjUe r lv tv sv cv u (HR.out.lens.below hu (Nat.le_refl _)))
 have HCP:=hide (fun (u:World) (hu:Below w.heap.size w u)=>z6ad r lv tv sv cv u (HR.out.plan.below hu (Nat.le_refl _)))
 have HST:=hide hr.strips
 obtain ⟨tp,tc,rfl,htl,_⟩:=hr.strips
 have HE:=hide (show XDWf r=if headE r=0 then (if r.strips.length=cntN r then (if pErr r=0 then (if stOk r r.strips.length=true then 0 else 1) else pErr r) else 2) else headE r from rfl)
 have HZ:=hide (show zcNm r=if XDWf r=0 then plUp r r.strips.length else [] from rfl)
 have HW:=hide (show XH9X r=if XDWf r=0 then r.w else 0 from rfl)
 have HH:=hide (show zq73 r=if XDWf r=0 then r.h else 0 from rfl)
 generalize XDWf r=E at *
 generalize zcNm r=Z at *
 generalize XH9X r=PW at *
 generalize zq73 r=PH at *
 clear hr
 obtain ⟨a1,a2⟩:=al2 w (Obj.cells (rawA r lv (.slice tp r.strips.length tc) sv cv) 57) (Obj.cells #[.int .i64 0,.int .i64 0,.slice none 0 0] 54)
 have HB:=hide (be2 w (Obj.cells (rawA r lv (.slice tp r.strips.length tc) sv cv) 57) (Obj.cells #[.int .i64 0,.int .i64 0,.slice none 0 0] 54))
 have hl1:=(Array.getElem?_eq_some_iff.1 a1).1
 have hl2:=(Array.getElem?_eq_some_iff.1 a2).1
 go_enter Tryz.func48,Tryz.ntmps48
 go_wp2_with (refine wpList_load_row rfl 57 _ rfl _ rfl _ _ _ _ a1 Tryz.underlying57 rfl (by kernel_rfl) ?_)
 generalize (w.alloc (Obj.cells (rawA r lv (.slice tp r.strips.length tc) sv cv) 57)).alloc (Obj.cells #[.int .i64 0,.int .i64 0,.slice none 0 0] 54)=U at *
 have HSR0:=hide (fun (k:Nat) (u:World) (h:Head r) (hk:k<cntN r)=>jN9a r lv (.slice tp r.strips.length tc) sv cv k u h hk)
 have HRS0:=hide (fun (k:Nat) (u:World) (h:Head r) (hk:k<cntN r) (hu:Below w.heap.size w u)=>XWh7 r lv (.slice tp r.strips.length tc) sv cv (stAt r k) (rowN r k) u h (h.row hk) (HR.out.lens.below hu (Nat.le_refl _)))
 have HSC0:=hide (fun (u:World) (h:Head r)=>X0bE r lv (.slice tp r.strips.length tc) sv cv u h)
 have HRC:=hide (fun (v:World) (h:v.heap[w.heap.size]?=some (.cells (rawA r lv (.slice tp r.strips.length tc) sv cv) 57 (0,0)))=>zUTj h)
 have hi28:(Tryz.prog.info? 57).map (·.size)=some ((rawA r lv (.slice tp r.strips.length tc) sv cv):Array Value).size:=by kernel_rfl
 generalize (rawA r lv (.slice tp r.strips.length tc) sv cv)=RQ at *
 have HZZ:=hide (fun (V:World) (hb:Below U.heap.size U V)=>z5EY ((hb.block _ hl2).trans a2))
 have HFZ:=hide (fun (V:World) (hb:Below U.heap.size U V) (j:Nat)=>Lib.frozen_of_heap ((hb.block _ hl2).trans a2) j)
 have HBZ:=hide (fun (V:World) (hb:Below U.heap.size U V)=>zHqh (quJN HB.out hb) (show w.heap.size≤w.heap.size+1 by omega) (.int .i64 0) (.int .i64 0) (.slice none 0 0))
 refine (HCH.out _ HB.out).mono ?_
 rintro e V1 ⟨rfl,hb1⟩
 by_cases hF:headE r=0
 ·rw[if_pos hF] at HE
  rw[hF]
  have hH:=jWRa hF
  have HHD:=hide hH
  have HSC:=hide (fun (u:World)=>HSC0.out u hH)
  have HS:=hide (show ∀v,Below U.heap.size U v→v.heap[w.heap.size]?=some (.cells RQ 57 (0,0))∧v.cell? ⟨w.heap.size,6,none⟩=some (.slice tp r.strips.length tc) from fun v h=>⟨(h.block _ hl1).trans a1,(HRC.out v ((h.block _ hl1).trans a1)).2.2.2.2.2.2.1⟩)
  clear hF HCH hH
  go_upto_region 4 with fail
  have hWd:Below U.heap.size U V1.drew:=hb1.drew
  have hSd:=HS.out _ hWd
  have hmx:Tryz.prog.follows .mixedOrders=true:=by kernel_rfl
  refine qYgd (S:=(fun v:World=>v.heap[w.heap.size]?=some (.cells RQ 57 (0,0))∧v.cell? ⟨w.heap.size,6,none⟩=some (.slice tp r.strips.length tc))) (f:=5) hmx ?_
  show jZdv _ _ _ _ _ _ 6 _ _ V1.drew
  refine takeQ 0 ?vv1 (some 17) [2,1] ?yy1 hSd ?rr1
  case yy1=>(intro wq hSq;obtain ⟨hq1,hq2⟩:=hSq;go_simp<;>with_reducible rfl)
  simp only[Act.put,List.setIfInBounds_toArray,List.set_cons_succ,List.set_cons_zero]
  refine XmaW (i:=3) (oi:=_) (v:=.agg RQ) (some 20) [4] rfl rfl (by kernel_rfl) (by kernel_rfl) (by kernel_rfl) (by kernel_rfl) (by kernel_rfl) (fun _ _ _ h=>h) (Or.inl ⟨by rfl,?yy2⟩) hSd ?rr2
  case yy2=>(intro wq hSq;obtain ⟨hq1,hq2⟩:=hSq;exact XMYj 57 _ rfl _ rfl _ _ _ _ hq1 Tryz.underlying57 rfl hi28)
  simp only[Act.put,List.setIfInBounds_toArray,List.set_cons_succ,List.set_cons_zero]
  refine takeQ 1 ?vv3 (some 18) [2] ?yy3 hSd ?rr3
  case yy3=>(intro wq hSq;obtain ⟨hq1,hq2⟩:=hSq;go_simp<;>with_reducible rfl)
  simp only[Act.put,List.setIfInBounds_toArray,List.set_cons_succ,List.set_cons_zero]
  refine takeQ 2 ?vv4 (some 19) [] ?yy4 hSd ?rr4
  case yy4=>(intro wq hSq;obtain ⟨hq1,hq2⟩:=hSq;go_simp<;>with_reducible rfl)
  simp only[Act.put,List.setIfInBounds_toArray,List.set_cons_succ,List.set_cons_zero]
  refine znWj (i:=4) (o:=_) (by kernel_rfl) rfl (fun K' hK=>?_)
  rw[if_pos (by rfl)]
  go_simp
  refine (HSC.out _).mono ?_
  rintro e V2 ⟨rfl,hb2⟩
  have hB2:Below U.heap.size U V2:=hWd.trans (hb2.mono hWd.size)
  have hSd:=HS.out _ hB2
  refine hK.out _ _ hSd ?_
  clear hK
  try simp only[Act.put]
  refine z9gO (o:=_) (by kernel_rfl) rfl (fun K' hK=>?_)
  rw[if_pos (by rfl)]
  go_simp
  refine hK.out _ _ ?_
  clear hK
  refine jFdp (by kernel_rfl) ?_ _
  try simp only[Act.put]
  clear hSd hWd hb2
  by_cases hN:r.strips.length=cntN r
  ·rw[if_pos hN] at HE
   have hn:((r.strips.length:Int) != (cntN r:Int))=false:=by simp[hN]
   have g1:=(hB2.block _ hl1).trans a1
   have hcl:=HHD.out.cnt_le
   have hsl:r.strips.length≤64:=by omega
   have HNC:=hide hN
   clear hcl hN
   go_wp2_with (refine wpList_load_row rfl 57 _ rfl _ rfl _ _ _ _ g1 Tryz.underlying57 rfl hi28 ?_)
   clear hn g1
   refine (HCP.out _ (quJN HB.out hB2)).mono ?_
   rintro e V3 ⟨rfl,hb3⟩
   replace hb3:=quJN hB2 hb3
   by_cases hP:pErr r=0
   ·rw[if_pos hP] at HE
    rw[hP]
    clear HCP HSC hB2 hP
    have hW:=HHD.out.w
    have hHh:=HHD.out.h
    obtain ⟨i0,hi,hz0,hz1,hz2⟩:=info_parts Tryz.infoInt
    obtain ⟨M,hM⟩:∃M:Nat,r.w*r.h=M:=⟨(r.w*r.h).toNat,by have:=XBWT ⟨show 0≤r.w by omega,hW.2⟩ ⟨show 0≤r.h by omega,hHh.2⟩;omega⟩
    have hM4:M≤4096:=by have:=XBWT ⟨show 0≤r.w by omega,hW.2⟩ ⟨show 0≤r.h by omega,hHh.2⟩;omega
    have hmk:∀V:World,(Instr.makeSlice 52 (.int .i64 0) (.int .i64 M)).run Tryz.prog V=.ok (.slice (some ⟨V.heap.size,0,none⟩) 0 M) (V.alloc (.cells (madeCells #[.int .i64 0] M) 3)):=fun V=>by
     have h:=run_make (P:=Tryz.prog) V 52 3 i0 (.int .i64 0) Tryz.underlying52 hi hz0 .i64 .i64 0 M (Int.le_refl _) (by omega) (by rw[hz2];omega) (by omega)
     rw[hz1] at h
     simpa [Value.cells] using h
    have hwm:IntKind.i64.wrap (M:Int)=M:=IntWalk.i64_in _ (by omega)
    have HS9:=hide (show ∀v,Below U.heap.size U v→v.cell? ⟨w.heap.size,0,none⟩=some (.int .i64 r.w)∧v.cell? ⟨w.heap.size,1,none⟩=some (.int .i64 r.h) from fun v h=>⟨(HRC.out v ((h.block _ hl1).trans a1)).1,(HRC.out v ((h.block _ hl1).trans a1)).2.1⟩)
    clear hW hHh
    go_upto_region 9 with fail
    have hs1:=hb3.size
    go_cut [6] from 11 (fun q v=>∃QX so cap,q=.pointer (some ⟨QX,0,none⟩)∧v.heap[QX]?=some (.cells #[.int .i64 r.w,.int .i64 r.h,.slice so 0 cap] 54 (0,0))∧v.ownsRow w.heap.size 3 1 (.slice so 0 cap) 0 []∧U.heap.size≤QX∧Below U.heap.size U v)
    case first =>
     have hWd:Below U.heap.size U V3.drew:=hb3.drew
     have hSd:=HS9.out _ hWd
     have hmx:Tryz.prog.follows .mixedOrders=true:=by kernel_rfl
     refine qYgd (S:=(fun v:World=>v.cell? ⟨w.heap.size,0,none⟩=some (.int .i64 r.w)∧v.cell? ⟨w.heap.size,1,none⟩=some (.int .i64 r.h))) (f:=12) hmx ?_
     show jZdv _ _ _ _ _ _ 13 _ _ V3.drew
     refine takeQ 0 ?vv5 (some 30) [] ?yy5 hSd ?rr5
     case yy5=>(intro wq hSq;obtain ⟨_,_⟩:=hSq;go_simp<;>with_reducible rfl)
     simp only[Act.put,List.setIfInBounds_toArray,List.set_cons_succ,List.set_cons_zero]
     refine takeQ 2 ?vv6 (some 32) [] ?yy6 hSd ?rr6
     case yy6=>(intro wq hSq;obtain ⟨_,_⟩:=hSq;go_simp<;>with_reducible rfl)
     simp only[Act.put,List.setIfInBounds_toArray,List.set_cons_succ,List.set_cons_zero]
     refine takeQ 4 ?vv7 (some 34) [] ?yy7 hSd ?rr7
     case yy7=>(intro wq hSq;obtain ⟨_,_⟩:=hSq;go_simp<;>with_reducible rfl)
     simp only[Act.put,List.setIfInBounds_toArray,List.set_cons_succ,List.set_cons_zero]
     refine takeQ 6 ?vv8 (some 36) [] ?yy8 hSd ?rr8
     case yy8=>(intro wq hSq;obtain ⟨_,_⟩:=hSq;go_simp<;>with_reducible rfl)
     simp only[Act.put,List.setIfInBounds_toArray,List.set_cons_succ,List.set_cons_zero]
     refine takeQ 1 ?vv9 (some 31) [] ?yy9 hSd ?rr9
     case yy9=>(intro wq hSq;obtain ⟨_,_⟩:=hSq;go_simp<;>with_reducible rfl)
     simp only[Act.put,List.setIfInBounds_toArray,List.set_cons_succ,List.set_cons_zero]
     refine takeQ 3 ?vv10 (some 33) [] ?yy10 hSd ?rr10
     case yy10=>(intro wq hSq;obtain ⟨_,_⟩:=hSq;go_simp<;>with_reducible rfl)
     simp only[Act.put,List.setIfInBounds_toArray,List.set_cons_succ,List.set_cons_zero]
     refine takeQ 5 ?vv11 (some 35) [] ?yy11 hSd ?rr11
     case yy11=>(intro wq hSq;obtain ⟨_,_⟩:=hSq;go_simp<;>with_reducible rfl)
     simp only[Act.put,List.setIfInBounds_toArray,List.set_cons_succ,List.set_cons_zero]
     refine takeQ 7 ?vv12 (some 37) [] ?yy12 hSd ?rr12
     case yy12=>(intro wq hSq;obtain ⟨_,_⟩:=hSq;go_simp<;>with_reducible rfl)
     simp only[Act.put,List.setIfInBounds_toArray,List.set_cons_succ,List.set_cons_zero]
     refine XmaW (i:=8) (oi:=_) (v:=.int .i64 M) (some 38) [] rfl rfl (by kernel_rfl) (by kernel_rfl) (by kernel_rfl) (by kernel_rfl) (by kernel_rfl) (fun _ _ _ h=>h) (Or.inl ⟨by rfl,?yy13⟩) hSd ?rr13
     case yy13=>(intro wq hSq;obtain ⟨_,_⟩:=hSq;first|(go_simp;done)|(go_simp;rw[hM];try (go_simp<;>with_reducible rfl)))
     simp only[Act.put,List.setIfInBounds_toArray,List.set_cons_succ,List.set_cons_zero]
     refine jwFJ (i:=9) (j:=11) (oi:=_) (oj:=_) (by kernel_rfl) rfl rfl (fun K' hK=>?brA) (fun K' hK=>?brB)
     case brA =>
      rw[if_pos (by rfl)]
      go_simp
      have hB1:Below U.heap.size U (V3.alloc (Obj.cells (madeCells #[.int .i64 0] M) 3)).drew:=(hb3.alloc hb3.size _).drew
      have hSd:=HS9.out _ hB1
      refine hK.out _ _ hSd ?_
      clear hK
      try simp only[Act.put]
      refine takeQ 10 ?vv14 (some 40) [] ?yy14 hSd ?rr14
      case yy14=>(intro wq hSq;obtain ⟨_,_⟩:=hSq;go_simp<;>with_reducible rfl)
      simp only[Act.put,List.setIfInBounds_toArray,List.set_cons_succ,List.set_cons_zero]
      refine znWj (i:=11) (o:=_) (by kernel_rfl) rfl (fun K' hK=>?_)
      rw[if_pos (by rfl)]
      go_simp
      have hB2:Below U.heap.size U ((V3.alloc (Obj.cells (madeCells #[.int .i64 0] M) 3)).alloc (Obj.cells #[.int .i64 0,.int .i64 0,.slice none 0 0] 54)).drew:=((hb3.alloc hb3.size _).alloc (by simp;omega) _).drew
      have hSd:=HS9.out _ hB2
      refine hK.out _ _ hSd ?_
      clear hK
      try simp only[Act.put]
      refine z9gO (o:=_) (by kernel_rfl) rfl (fun K' hK=>?_)
      rw[if_pos (by rfl)]
      go_simp
      refine hK.out _ _ ?_
      clear hK
      refine jFdp (by kernel_rfl) ?_ _
      try simp only[Act.put]
      clear hSd
      go_wp2
      go_meet
      case rel=>exact ⟨V3.heap.size+1,some ⟨V3.heap.size,0,none⟩,M,rfl,(al2 V3 (Obj.cells (madeCells #[.int .i64 0] M) 3) (Obj.cells #[.int .i64 r.w,.int .i64 r.h,.slice (some ⟨V3.heap.size,0,none⟩) 0 M] 54)).2,(World.ownsRow_made (base:=w.heap.size) (e:=3) (size:=1) V3 (madeCells #[.int .i64 0] M) M (Nat.le_trans HB.out.size hs1) (by unfold maxLen;omega) (by simp[madeCells])).alloc _,by omega,((hb3.alloc hb3.size _).alloc (by simp;omega) _).drew⟩
     case brB =>
      rw[if_pos (by rfl)]
      go_simp
      have hBz:Below U.heap.size U (V3.alloc (Obj.cells #[.int .i64 0,.int .i64 0,.slice none 0 0] 54)).drew:=(hb3.alloc hb3.size _).drew
      have hSd:=HS9.out _ hBz
      refine hK.out _ _ hSd ?_
      clear hK
      try simp only[Act.put]
      have gz0:(V3.alloc (Obj.cells #[.int .i64 0,.int .i64 0,.slice none 0 0] 54)).drew.heap[V3.heap.size]?=_:=al1 V3 (Obj.cells #[.int .i64 0,.int .i64 0,.slice none 0 0] 54)
      have hlz:=(Array.getElem?_eq_some_iff.1 gz0).1
      generalize (V3.alloc (Obj.cells #[.int .i64 0,.int .i64 0,.slice none 0 0] 54)).drew=Vz at *
      have hq:U.heap.size≤V3.heap.size:=hs1
      generalize V3.heap.size=QX at *
      refine znWj (i:=9) (o:=_) (by kernel_rfl) rfl (fun K' hK=>?_)
      rw[if_pos (by rfl)]
      go_simp
      have hB1:Below U.heap.size U (Vz.alloc (Obj.cells (madeCells #[.int .i64 0] M) 3)):=hBz.alloc hBz.size _
      have hSd:=HS9.out _ hB1
      refine hK.out _ _ hSd ?_
      clear hK
      try simp only[Act.put]
      refine takeQ 10 ?vv15 (some 40) [] ?yy15 hSd ?rr15
      case yy15=>(intro wq hSq;obtain ⟨_,_⟩:=hSq;go_simp<;>with_reducible rfl)
      simp only[Act.put,List.setIfInBounds_toArray,List.set_cons_succ,List.set_cons_zero]
      have gz:=((qUNz Vz (Obj.cells (madeCells #[.int .i64 0] M) 3)).block QX hlz).trans gz0
      have ho:=World.ownsRow_made (base:=w.heap.size) (e:=3) (size:=1) Vz (madeCells #[.int .i64 0] M) M (Nat.le_trans HB.out.size hBz.size) (by unfold maxLen;omega) (by simp[madeCells])
      generalize Vz.alloc (Obj.cells (madeCells #[.int .i64 0] M) 3)=Vy at *
      generalize Vz.heap.size=MX at *
      obtain ⟨z0,z1,z2⟩:=z5EY gz
      have f0:=Lib.frozen_of_heap gz 0
      have f1:=Lib.frozen_of_heap gz 1
      have f2:=Lib.frozen_of_heap gz 2
      obtain ⟨vS,_,_,_⟩:=X0Wz gz (.int .i64 r.w) (.int .i64 r.h) (.slice (some ⟨MX,0,none⟩) 0 M) w (Nat.le_trans HB.out.size hq) (HB.out.trans (hB1.mono HB.out.size))
      have hB4:=zHqh hB1 hq (.int .i64 r.w) (.int .i64 r.h) (.slice (some ⟨MX,0,none⟩) 0 M)
      have hne:(Value.slice (some ⟨MX,0,none⟩) 0 M).ownBlock≠some QX:=fun e=>qYYy ho gz (by decide) e.symm
      have HO:=hide (zh4b ho hne (.int .i64 r.w) (.int .i64 r.h) (.slice (some ⟨MX,0,none⟩) 0 M))
      refine z9gO (o:=_) (by kernel_rfl) rfl (fun K' hK=>?_)
      rw[if_pos (by rfl)]
      go_simp
      refine hK.out _ _ ?_
      clear hK
      refine jFdp (by kernel_rfl) ?_ _
      try simp only[Act.put]
      clear hSd
      go_wp2
      go_meet
      case rel=>exact ⟨QX,some ⟨MX,0,none⟩,M,rfl,vS,HO.out,hq,hB4⟩
    case rest =>
     obtain ⟨QX,so0,cap0,rfl,vS0,vO0,hQX,vB0⟩:=hcut
     have HJ0:=hide (show PlJ w r RQ QX 0 wc from ⟨so0,cap0,rfl,vS0,vO0,(vB0.block _ hl1).trans a1,(vB0.block _ hl2).trans a2,quJN HB.out vB0⟩)
     have hQw:w.heap.size+1<QX:=by omega
     obtain ⟨s0,s1,s2,s3,s4,s5,s6,s13,s26⟩:=HRC.out _ ((vB0.block _ hl1).trans a1)
     clear vS0 vO0 vB0 hs1 HS9 HS hmk hM hwm hM4 hb3
     have HUW:=hide HB.out.size
     clear HZZ HFZ HBZ a1 a2 hl1 hl2 HB hQX
     go_wp2_with fail
     clear s0 s1 s2 s3 s4 s5 s6 s13 s26
     go_loopw [44] (fun i wr=>∃k:Nat,k≤r.strips.length∧i=.int .i64 k∧PlJ w r RQ QX k wr) (fun i _=>r.strips.length-(intOf i).toNat)
     case atStart=>exact ⟨0,Nat.zero_le _,rfl,HJ0.out⟩
     case round =>
      clear HJ0
      obtain ⟨k,hk,rfl,hJ⟩:=hrel
      have HJ:=hide hJ
      obtain ⟨so,cap,j1,j3,j4,j5,j6,j8⟩:=hJ
      by_cases hlt:k<r.strips.length
      ·have hd:decide ((k:Int)<(r.strips.length:Int))=true:=by simp;omega
       obtain ⟨sb,soff,rfl,hsb,hsc0⟩:=(HST.out.below j8 (Nat.le_refl _)).at k hlt
       have hlc:k<cntN r:=by have:=HNC.out;omega
       have HSR:=hide (fun (u:World)=>HSR0.out k u HHD.out hlc)
       have HRS:=hide (fun (u:World) (hu:Below w.heap.size w u)=>HRS0.out k u HHD.out hlc hu)
       have HEI:=hide (HHD.out.stE hlc (stAt r k))
       have HLN:=hide (fun h0=>jO8C HHD.out hlc (s:=stAt r k) h0)
       have HSZ:=hide (HHD.out.size hlc)
       have hsc:wr.cell? ⟨sb,soff+k,none⟩=some (.string (str (stAt r k))):=hsc0
       clear hsc0
       have HZF:=hide (fun hk0=>jvNx (r:=r) hlt hk0)
       have HPL:=hide (z1r6 HHD.out k (by omega) j1)
       have HSU:=hide (XcbT r k)
       have HOK:=hide (show stE r (stAt r k) (rowN r k)=0→stOk r (k+1)=true from fun h0=>by rw[qGwq,j1,h0];rfl)
       generalize stAt r k=SS at *
       generalize rowN r k=RN at *
       have hl1:=(Array.getElem?_eq_some_iff.1 j5).1
       have HS:=hide (show ∀v,Below wr.heap.size wr v→v.heap[w.heap.size]?=some (.cells RQ 57 (0,0))∧True from fun v h=>⟨(h.block _ hl1).trans j5,trivial⟩)
       clear j1 j3 j4 j5 j6 HSR0 HRS0
       go_upto_region 13 with fail
       have hWd:Below wr.heap.size wr wr.drew:=(Below.refl _ _).drew
       have hSd:=HS.out _ hWd
       have hmx:Tryz.prog.follows .mixedOrders=true:=by kernel_rfl
       refine qYgd (S:=(fun v:World=>v.heap[w.heap.size]?=some (.cells RQ 57 (0,0))∧True)) (f:=10) hmx ?_
       show jZdv _ _ _ _ _ _ 11 _ _ wr.drew
       refine XmaW (i:=0) (oi:=_) (v:=.agg RQ) (some 50) [] rfl rfl (by kernel_rfl) (by kernel_rfl) (by kernel_rfl) (by kernel_rfl) (by kernel_rfl) (fun _ _ _ h=>h) (Or.inl ⟨by rfl,?yy16⟩) hSd ?rr16
       case yy16=>(intro wq hSq;obtain ⟨hq1,hq2⟩:=hSq;exact XMYj 57 _ rfl _ rfl _ _ _ _ hq1 Tryz.underlying57 rfl hi28)
       simp only[Act.put,List.setIfInBounds_toArray,List.set_cons_succ,List.set_cons_zero]
       refine takeQ 1 ?vv17 (some 51) [] ?yy17 hSd ?rr17
       case yy17=>(intro wq hSq;obtain ⟨hq1,hq2⟩:=hSq;go_simp<;>with_reducible rfl)
       simp only[Act.put,List.setIfInBounds_toArray,List.set_cons_succ,List.set_cons_zero]
       refine XmaW (i:=2) (oi:=_) (v:=.agg RQ) (some 52) [] rfl rfl (by kernel_rfl) (by kernel_rfl) (by kernel_rfl) (by kernel_rfl) (by kernel_rfl) (fun _ _ _ h=>h) (Or.inl ⟨by rfl,?yy18⟩) hSd ?rr18
       case yy18=>(intro wq hSq;obtain ⟨hq1,hq2⟩:=hSq;exact XMYj 57 _ rfl _ rfl _ _ _ _ hq1 Tryz.underlying57 rfl hi28)
       simp only[Act.put,List.setIfInBounds_toArray,List.set_cons_succ,List.set_cons_zero]
       refine takeQ 3 ?vv19 (some 53) [] ?yy19 hSd ?rr19
       case yy19=>(intro wq hSq;obtain ⟨hq1,hq2⟩:=hSq;go_simp<;>with_reducible rfl)
       simp only[Act.put,List.setIfInBounds_toArray,List.set_cons_succ,List.set_cons_zero]
       refine znWj (i:=4) (o:=_) (by kernel_rfl) rfl (fun K' hK=>?_)
       rw[if_pos (by rfl)]
       go_simp
       refine (HSR.out _).mono ?_
       rintro e X1 ⟨rfl,hx1⟩
       have hX1:Below wr.heap.size wr X1:=hWd.trans (hx1.mono hWd.size)
       have hSd:=HS.out _ hX1
       refine hK.out _ _ hSd ?_
       clear hK
       try simp only[Act.put]
       refine znWj (i:=5) (o:=_) (by kernel_rfl) rfl (fun K' hK=>?_)
       rw[if_pos (by rfl)]
       go_simp
       refine (HRS.out _ (quJN j8 hX1)).mono ?_
       rintro e X2 ⟨v,rfl,hv,hx2⟩
       have hX2:Below wr.heap.size wr X2:=quJN hX1 hx2
       have HV:=hide hv
       obtain ⟨vo,vc,rfl,y1,y2⟩:=hv
       clear y1 y2
       have hSd:=HS.out _ hX2
       refine hK.out _ _ hSd ?_
       clear hK
       try simp only[Act.put]
       refine takeQ 6 ?vv20 (some 49) [] ?yy20 hSd ?rr20
       case yy20=>(intro wq hSq;obtain ⟨hq1,hq2⟩:=hSq;go_simp<;>with_reducible rfl)
       simp only[Act.put,List.setIfInBounds_toArray,List.set_cons_succ,List.set_cons_zero]
       refine takeQ 7 ?vv21 (some 56) [] ?yy21 hSd ?rr21
       case yy21=>(intro wq hSq;obtain ⟨hq1,hq2⟩:=hSq;go_simp<;>with_reducible rfl)
       simp only[Act.put,List.setIfInBounds_toArray,List.set_cons_succ,List.set_cons_zero]
       refine takeQ 8 ?vv22 (some 57) [] ?yy22 hSd ?rr22
       case yy22=>(intro wq hSq;obtain ⟨hq1,hq2⟩:=hSq;go_simp<;>with_reducible rfl)
       simp only[Act.put,List.setIfInBounds_toArray,List.set_cons_succ,List.set_cons_zero]
       refine znWj (i:=9) (o:=_) (by kernel_rfl) rfl (fun K' hK=>?_)
       rw[if_pos (by rfl)]
       go_simp
       have hSd:=hSd
       refine hK.out _ _ hSd ?_
       clear hK
       try simp only[Act.put]
       refine z9gO (o:=_) (by kernel_rfl) rfl (fun K' hK=>?_)
       rw[if_pos (by rfl)]
       go_simp
       refine hK.out _ _ ?_
       clear hK
       refine jFdp (by kernel_rfl) ?_ _
       try simp only[Act.put]
       clear hSd hWd hx1 hx2 hX1
       have HJ2:=hide (HJ.out.below hX2)
       clear HJ j8 HS HRS HSR
       obtain ⟨so,cap,k1,k3,k4,k5,k6,k8⟩:=HJ2.out
       by_cases h0:stE r SS RN=0
       ·rw[h0]
        have hln:=HLN.out h0
        have hsz:=HSZ.out
        have HOW:=hide k4
        have HK3:=hide k3
        obtain ⟨q0,q1,q2⟩:=z5EY k3
        have hpl:=HPL.out
        generalize stZ r SS RN=Y at *
        have HVP:=hide (HV.out)
        obtain ⟨vo',vc',hve,_,hvo⟩:=HVP.out
        cases hve
        rcases hvo with hvo|⟨pb,po,rfl,hpb,hpc⟩
        ·exfalso
         rw[hvo] at hln
         simp at hln
         omega
        have HFC:=hide (show ∀j u,(Y.map (Value.int .i64))[j]?=some u→X2.cell? ((⟨pb,po,none⟩:Addr).add j)=some u from fun j u hj=>by
         rw[List.getElem?_map] at hj
         obtain ⟨z,hz,rfl⟩:=Option.map_eq_some_iff.1 hj
         obtain ⟨hl,rfl⟩:=List.getElem?_eq_some_iff.1 hz
         rw[Addr.add_lit]
         exact hpc j hl)
        obtain ⟨P,hPU⟩:∃P,plUp r k=P:=⟨_,rfl⟩
        rw[hPU] at HOW HK3 HSU hpl q2
        have hyl:Y.length≤4096:=by omega
        have hy1:1≤Y.length:=by omega
        have hk8s:=k8.size
        clear hpc hln hsz
        go_wp2_with (at_builtin;refine wpList_append_own _ rfl _ _ 52 rfl w.heap.size 3 i0 (.int .i64 0) 1 8 Tryz.underlying52 hi hz0 hz1 hz2 rfl (by decide) _ P.length (P.map (Value.int .i64)) rfl HOW.out ⟨pb,po,none⟩ Y.length vc (Y.map (Value.int .i64)) rfl ?qc1 ?qc2 ?qc3 ?qc4 ?qc5 ?qc6 ?_)
        case qc1=>rw[List.length_map,Nat.mul_one]
        case qc2=>exact HFC.out
        case qc3=>intro u hu;obtain ⟨z,_,rfl⟩:=List.mem_map.1 hu;rfl
        case qc4=>unfold maxLen;omega
        case qc5=>omega
        case qc6=>exact hk8s
        intro v' w1 hown hgrow hnil
        rcases id hown.2 with ⟨_,hn0⟩|⟨g,cp,cur,rfl,_⟩
        ·exfalso;omega
        obtain ⟨_,c2,fz,g1,g2,g3,g4⟩:=j7Ww (by decide) HK3.out HOW.out k8 (Nat.le_refl _) (show w.heap.size≤QX by omega) (Below.refl _ _) hgrow hown
        have hpe:(plUp r (k+1)).length=P.length+Y.length:=by rw[HSU.out,List.length_append]
        have hpm:(plUp r (k+1)).map (Value.int .i64)=P.map (Value.int .i64)++Y.map (Value.int .i64):=by rw[HSU.out,List.map_append]
        have HJ3:=hide (show PlJ w r RQ QX (k+1) _ from ⟨some ⟨g,0,none⟩,cp,HOK.out h0,by rw[hpe];exact g1,by rw[hpe,hpm];exact g2,
         (g4 _ (Array.getElem?_eq_some_iff.1 k5).1 (qYYy (by rw[hPU] at k4;exact k4) k5 (by decide)) (by omega)).trans k5,(g4 _ (Array.getElem?_eq_some_iff.1 k6).1 (qYYy (by rw[hPU] at k4;exact k4) k6 (by decide)) (by omega)).trans k6,g3⟩)
        clear g1 g2 g3 g4 k1 k3 k4 k5 k6 k8 hown hgrow hnil q0 q1 q2 hpe hpm
        go_wp2
        go_roundw
        case rel=>exact ⟨k+1,hlt,by go_num,HJ3.out⟩
        case measure=>simp[intOf];omega
       ·rcases HEI.out with he|he
        ·exact absurd he h0
        rw[he]
        have hzf:=HZF.out h0
        have hee:E=1:=by rw[HE.out,hzf];rfl
        subst hee
        have hz:Z=[]:=by rw[HZ.out];rfl
        have hpw:PW=0:=by rw[HW.out];rfl
        have hph:PH=0:=by rw[HH.out];rfl
        subst hz hpw hph
        obtain ⟨z0,z1,z2⟩:=z5EY k6
        have f0:=Lib.frozen_of_heap k6 0
        have f1:=Lib.frozen_of_heap k6 1
        have f2:=Lib.frozen_of_heap k6 2
        have HBZ:=hide (zHqh k8 (show w.heap.size≤w.heap.size+1 by omega) (.int .i64 0) (.int .i64 0) (.slice none 0 0))
        clear k1 k3 k4 k5 k6 k8
        go_wp2
        refine bodyPost_ret (v:=.tuple #[.agg #[.int .i64 0,.int .i64 0,.slice none 0 0],.int .i64 1]) (by simp[results,Tryz.results48,go_sem,z0,z1,z2]) rfl ⟨_,rfl,jCvT.nil _,HBZ.out,Fresh.nil _⟩
      ·have hd:decide ((k:Int)<(r.strips.length:Int))=false:=by simp;omega
       obtain rfl:k=r.strips.length:=by omega
       have he:E=0:=by rw[HE.out,if_pos j1]
       subst he
       rw[if_pos rfl] at HZ HW HH
       obtain ⟨y0,y1,y2⟩:=z5EY j3
       obtain ⟨z0,z1,z2⟩:=z5EY j6
       have f0:=Lib.frozen_of_heap j6 0
       have f1:=Lib.frozen_of_heap j6 1
       have f2:=Lib.frozen_of_heap j6 2
       have hpl:=z1r6 HHD.out r.strips.length (by have:=HNC.out;omega) j1
       have hne:(Value.slice so (plUp r r.strips.length).length cap).ownBlock≠some (w.heap.size+1):=fun e=>qYYy j4 j6 (by decide) e.symm
       have hpx:jCvT wr (.slice so (plUp r r.strips.length).length cap) (plUp r r.strips.length):=jCvT.own j4 (by omega)
       have HX:=hide (hpx.other (zv5i wr (w.heap.size+1) (.int .i64 r.w) (.int .i64 r.h) (.slice so (plUp r r.strips.length).length cap)) (fun b hb=>jZhz _ _ _ _ _ b hb) hne)
       have HF:=hide (zHqh j8 (show w.heap.size≤w.heap.size+1 by omega) (.int .i64 r.w) (.int .i64 r.h) (.slice so (plUp r r.strips.length).length cap))
       have HFR:=hide (Fresh.own j4)
       have hpw:=HW.out
       have hph:=HH.out
       have hzz:=HZ.out
       obtain ⟨N,hN⟩:∃N,(plUp r r.strips.length).length=N:=⟨_,rfl⟩
       rw[hN] at HX HF HFR y2
       rw[←hzz] at HX
       clear j1 j3 j4 j5 j6 j8 hpx hne hN hpl hzz HZ HW HH
       subst hpw hph
       go_wp2
       refine bodyPost_ret (v:=.tuple #[.agg #[.int .i64 r.w,.int .i64 r.h,.slice so N cap],.int .i64 0]) (by simp[results,Tryz.results48,go_sem,z0,z1,z2]) rfl ⟨_,rfl,HX.out,HF.out,HFR.out⟩
   ·rw[if_neg hP] at HE
    have hn:(pErr r != 0)=true:=by simpa using hP
    have he:E=pErr r:=HE.out
    subst he
    have HEN:=hide hP
    have hz:Z=[]:=by rw[HZ.out,if_neg HEN.out]
    have hpw:PW=0:=by rw[HW.out,if_neg HEN.out]
    have hph:PH=0:=by rw[HH.out,if_neg HEN.out]
    subst hz hpw hph
    obtain ⟨z0,z1,z2⟩:=HZZ.out V3 hb3
    have f0:=HFZ.out V3 hb3 0
    have f1:=HFZ.out V3 hb3 1
    have f2:=HFZ.out V3 hb3 2
    go_wp2
    refine bodyPost_ret (v:=.tuple #[.agg #[.int .i64 0,.int .i64 0,.slice none 0 0],.int .i64 (pErr r)]) (by simp[results,Tryz.results48,go_sem,z0,z1,z2]) rfl ⟨_,rfl,jCvT.nil _,HBZ.out V3 hb3,Fresh.nil _⟩
  ·rw[if_neg hN] at HE
   have hn:((r.strips.length:Int) != (cntN r:Int))=true:=bne_iff_ne.2 (by omega)
   have he:E=2:=HE.out
   subst he
   have HEN:=hide (show ¬(2:Int)=0 by decide)
   clear hN
   generalize cntN r=C at *
   have hz:Z=[]:=by rw[HZ.out,if_neg HEN.out]
   have hpw:PW=0:=by rw[HW.out,if_neg HEN.out]
   have hph:PH=0:=by rw[HH.out,if_neg HEN.out]
   subst hz hpw hph
   obtain ⟨z0,z1,z2⟩:=HZZ.out V2 hB2
   have f0:=HFZ.out V2 hB2 0
   have f1:=HFZ.out V2 hB2 1
   have f2:=HFZ.out V2 hB2 2
   go_wp2
   refine bodyPost_ret (v:=.tuple #[.agg #[.int .i64 0,.int .i64 0,.slice none 0 0],.int .i64 2]) (by simp[results,Tryz.results48,go_sem,z0,z1,z2]) rfl ⟨_,rfl,jCvT.nil _,HBZ.out V2 hB2,Fresh.nil _⟩
 ·rw[if_neg hF] at HE
  have hn:(headE r != 0)=true:=by simpa using hF
  have he:E=headE r:=HE.out
  subst he
  have HEN:=hide hF
  have hz:Z=[]:=by rw[HZ.out,if_neg HEN.out]
  have hpw:PW=0:=by rw[HW.out,if_neg HEN.out]
  have hph:PH=0:=by rw[HH.out,if_neg HEN.out]
  subst hz hpw hph
  obtain ⟨z0,z1,z2⟩:=HZZ.out V1 hb1
  have f0:=HFZ.out V1 hb1 0
  have f1:=HFZ.out V1 hb1 1
  have f2:=HFZ.out V1 hb1 2
  go_wp2
  refine bodyPost_ret (v:=.tuple #[.agg #[.int .i64 0,.int .i64 0,.slice none 0 0],.int .i64 (headE r)]) (by simp[results,Tryz.results48,go_sem,z0,z1,z2]) rfl ⟨_,rfl,jCvT.nil _,HBZ.out V1 hb1,Fresh.nil _⟩
set_option maxRecDepth 100000 in
set_option maxHeartbeats 800000 in
theorem j0f2 (r:RawF) (lv tv sv cv:Value) (w:World) (hr:IsRaw w r lv tv sv cv) :
  Calls Tryz.prog 103 #[.agg (rawA r lv tv sv cv)] w fun e w'=>e=.returned (.int .i64 (XDWf r))∧Below w.heap.size w w':=by
 have HB:=hide (qUNz w (Obj.cells (rawA r lv tv sv cv) 57))
 have a1:=al1 w (Obj.cells (rawA r lv tv sv cv) 57)
 have HC:=hide (fun (u:World) (hu:Below w.heap.size w u)=>XAFS r lv tv sv cv u (hr.below hu (Nat.le_refl _)))
 generalize XDWf r=E at *
 generalize XH9X r=PW at *
 generalize zq73 r=PH at *
 go_enter Tryz.func103,Tryz.ntmps103
 go_wp2_with (refine wpList_load_row rfl 57 _ rfl _ rfl _ _ _ _ a1 Tryz.underlying57 rfl (by kernel_rfl) ?_)
 refine (HC.out _ HB.out).mono ?_
 rintro e V1 ⟨v,rfl,hv,hb1,_⟩
 obtain ⟨vo,vc,rfl,_,_⟩:=hv
 go_wp2
 go_ret
 exact ⟨rfl,quJN (quJN HB.out hb1) (qUNz _ _)⟩
end Go.Proofs.YtfjeonehdlphiaaGreatDoor

namespace Go.Proofs.YtfjeonehdlphiaaGreatDoor
set_option linter.unusedVariables false
open Go.RowKit
def darkL:List UInt8:=[100,97,114,107]
def headL (r:RawF):List Int:=[r.w,r.h,r.depth,r.kind,r.rows]
def rawW (r:RawF):List UInt8:=textW darkL++((headL r).flatMap num4++(listW num4 r.lens++(listW textW r.strips++planW r.plan)))
set_option maxHeartbeats 1000000 in
set_option maxRecDepth 100000 in
theorem Xgax (B b:Nat) (l:List UInt8) (w:World) (h:IsWr B b l w) (h0:l≠[]) :
  Calls Tryz.prog 32 #[.pointer (some ⟨b,0,none⟩)] w fun e w'=>e=.returned (.string (str l))∧Below B w w':=by
 obtain ⟨p,hB,v,hbk,hown,hne⟩:∃p,Lib.BuilderAt 195 5 B b p (byt l) w:=by
  rcases h with h|h
  ·exact ⟨_,h⟩
  ·exact ⟨_,h⟩
 have hl0:l.length≠0:=by simpa using h0
 rw[q82q] at hown
 obtain ⟨g,cap,cur,rfl,hbg,hg,hnc,hcm,hcs,htake⟩:∃g cap cur,v=.slice (some ⟨g,0,none⟩) l.length cap∧B≤g∧w.heap[g]?=some (.cells cur 5 (0,0))∧l.length≤cap∧cap≤maxLen∧cur.size=cap*1∧cur.toList.take (l.length*1)=byt l:=by
  rcases hown.2 with ⟨_,hz⟩|⟨g,cap,cur,hv,r⟩
  ·exact absurd hz hl0
  ·exact ⟨g,cap,cur,hv,r⟩
 have c1:w.drew.cell? ⟨b,1,none⟩=some (.slice (some ⟨g,0,none⟩) l.length cap):=by
  have:w.drew.heap[b]?=some (.cells #[p,.slice (some ⟨g,0,none⟩) l.length cap] 195 (0,0)):=hbk
  rw[Lib.cell_of_heap this];rfl
 have hSD:(Builtin.unsafeSliceData_ #[74] 147 #[.slice (some ⟨g,0,none⟩) l.length cap]).run Tryz.prog w.drew=.ok (.pointer (some ⟨g,0,none⟩)) w.drew :=
  Lib.run_unsafeSliceData_row _ _ _ _ _ _ (by omega)
 have hUS:(Builtin.unsafeString_ #[147,3] 9 #[.pointer (some ⟨g,0,none⟩),.int .i64 l.length]).run Tryz.prog w.drew=.ok (.string (str l)) (w.drew.freeze ⟨g,0,none⟩ l.length):=by
  refine Lib.run_unsafeString_row w.drew 147 3 9 5 Tryz.underlying147 (by kernel_rfl) g cur.size (by have hg':w.drew.heap[g]?=some (.cells cur 5 (0,0)):=hg;simp[World.shape?,hg']) l h0 (by omega) (by unfold maxLen at hcm;omega) ?_
  intro j x hx
  have:=hown.cells (g:=g) rfl j (.int .u8 x.toNat) (by rw[byt_get?,hx];rfl)
  exact this
 clear hown htake hnc hcm hcs
 have mixed:Tryz.prog.follows .mixedOrders=true:=by kernel_rfl
 go_enter Tryz.func32,Tryz.ntmps32
 go_wp2
 go_region_o
 all_goals (go_wp2;go_ret;exact ⟨rfl,Lib.below_freeze (Below.drew (Below.refl B w)) (p:=⟨g,0,none⟩) hbg _⟩)
theorem ints5b (w:World) (a b c d e:Int):jCvT (w.alloc (.cells #[.int .i64 a,.int .i64 b,.int .i64 c,.int .i64 d,.int .i64 e] 3)) (.slice (some ⟨w.heap.size,0,none⟩) 5 5) [a,b,c,d,e] :=
 jCvT.own (base:=w.heap.size) (World.ownsRow_lit w #[.int .i64 a,.int .i64 b,.int .i64 c,.int .i64 d,.int .i64 e] 5 (Nat.le_refl _) (by decide) (by simp)) (by simp)
theorem zGcC.step {B b:Nat} {u:Value} {ts:List (List UInt8)} {w w':World} (h:zGcC w u ts) (hs:WStep B b w w') (ha:Apart B b u w):zGcC w' u ts:=by
 obtain ⟨ao,cap,rfl,hl,h⟩:=h
 refine ⟨ao,cap,rfl,hl,?_⟩
 rcases h with h|⟨c,off,rfl,hlt,hc⟩
 ·exact .inl h
 ·refine .inr ⟨c,off,rfl,Nat.lt_of_lt_of_le hlt hs.bel.size,fun j hj=>?_⟩
  rw[World.cell?_of_block (a:=⟨c,off+j,none⟩) (hs.block hlt (ha c rfl hlt))]
  exact hc j hj
theorem zLc9 {B b:Nat} {u:Value} {xs:List Int} {w V:World} (h:jCvT w u xs) (hB:w.heap.size≤B):xs=[]∨Apart B b u V:=by
 obtain ⟨ao,cap,rfl,_,h⟩:=h
 rcases h with h|⟨c,off,rfl,hlt,_⟩
 ·exact .inl h
 ·exact .inr fun k hk _=>by simp only[Value.ownBlock,Option.some.injEq] at hk;exact .inl (by omega)
theorem zJ9I {B b:Nat} {u:Value} {xs:List Pt} {w V:World} (h:IsPts w u xs) (hB:w.heap.size≤B):xs=[]∨Apart B b u V:=by
 obtain ⟨ao,cap,rfl,_,h⟩:=h
 rcases h with h|⟨c,off,rfl,hlt,_⟩
 ·exact .inl h
 ·exact .inr fun k hk _=>by simp only[Value.ownBlock,Option.some.injEq] at hk;exact .inl (by omega)
theorem XNGw {ts:List (List UInt8)} {k:Nat} (hk:k<ts.length):ts.getD k []=ts[k]:=by simp[hk]
theorem qDmh (ts:List (List UInt8)) (k:Nat) (hk:k<ts.length):(ts.take (k+1)).flatMap textW=(ts.take k).flatMap textW++textW (ts.getD k []):=by
 rw[List.take_succ_eq_append_getElem hk,List.flatMap_append,XNGw hk];simp
theorem XrxZ {ts:List (List UInt8)} {M:Nat} (h:∀s∈ts,s.length≤M) (k:Nat):((ts.take k).flatMap textW).length≤k*(M+4):=by
 induction k generalizing ts with
 | zero=>simp
 | succ k ih =>
  cases ts with
  | nil=>simp
  | cons s ts =>
   have h1:=ih (ts:=ts) (fun x hx=>h x (by simp[hx]))
   have h2:=h s (by simp)
   rw[List.take_succ_cons,List.flatMap_cons,List.length_append,textW,List.length_append,jp6u,Nat.add_mul]
   omega
set_option maxHeartbeats 3200000 in
set_option maxRecDepth 100000 in
theorem jESC (r:RawF) (lv tv sv cv:Value) (w:World) (hr:IsRaw w r lv tv sv cv) (g1:r.lens.length≤1048576) (g2:r.strips.length≤64) (g3:∀s∈r.strips,s.length≤1048576) (g4:r.plan.spots.length≤1048576) (g5:r.plan.curve.length≤1048576) :
  Calls Tryz.prog 104 #[.agg (rawA r lv tv sv cv)] w fun e w'=>e=.returned (.string (str (rawW r)))∧Below w.heap.size w w':=by
 have HR:=hide hr
 obtain ⟨lp,lc,rfl,hll,hlr⟩:=hr.lens
 obtain ⟨tp,tc,rfl,htl,htr⟩:=hr.strips
 have HT:=hide (XrxZ g3)
 have HGS:=hide (show ∀k,k<r.strips.length→(r.strips.getD k []).length≤1048576 from fun k hk=>g3 _ (by rw[XNGw hk];exact List.getElem_mem hk))
 clear hr g3 hlr htr
 obtain ⟨a1,a2⟩:=al2 w (Obj.cells (rawA r (.slice lp r.lens.length lc) (.slice tp r.strips.length tc) sv cv) 57) (Obj.cells #[.pointer none,.slice none 0 0] 195)
 have HB:=hide (be2 w (Obj.cells (rawA r (.slice lp r.lens.length lc) (.slice tp r.strips.length tc) sv cv) 57) (Obj.cells #[.pointer none,.slice none 0 0] 195))
 have hl1:=(Array.getElem?_eq_some_iff.1 a1).1
 have hl2:=(Array.getElem?_eq_some_iff.1 a2).1
 have HT0:=hide (Xzfy a1)
 have HWS:=hide (show IsWr (w.heap.size+1) (w.heap.size+1) [] ((w.alloc (Obj.cells (rawA r (.slice lp r.lens.length lc) (.slice tp r.strips.length tc) sv cv) 57)).alloc (Obj.cells #[.pointer none,.slice none 0 0] 195)) from .inl ⟨Nat.le_refl _,_,a2,⟨rfl,.inl ⟨rfl,rfl⟩⟩,by simp[Value.ownBlock]⟩)
 have HRC:=hide (fun (v:World) (h:v.heap[w.heap.size]?=some (.cells (rawA r (.slice lp r.lens.length lc) (.slice tp r.strips.length tc) sv cv) 57 (0,0)))=>zUTj h)
 have HPA:=hide (fun (v:World) (h:v.heap[w.heap.size]?=some (.cells (rawA r (.slice lp r.lens.length lc) (.slice tp r.strips.length tc) sv cv) 57 (0,0)))=>Xzfy h)
 obtain ⟨s0,s1,s2,s3,s4,s5,s6,s13,s26⟩:=zUTj a1
 go_enter Tryz.func104,Tryz.ntmps104
 go_wp2_with fail
 clear s0 s1 s2 s3 s4 s5 s6 s13 s26 HT0
 generalize (w.alloc (Obj.cells (rawA r (.slice lp r.lens.length lc) (.slice tp r.strips.length tc) sv cv) 57)).alloc (Obj.cells #[.pointer none,.slice none 0 0] 195)=U at *
 generalize (rawA r (.slice lp r.lens.length lc) (.slice tp r.strips.length tc) sv cv)=RQ at *
 have hB0:w.heap.size+1≤U.heap.size:=by omega
 have hb0:w.heap.size+1<U.heap.size:=hl2
 have HBV:=hide (show ∀V,WStep (w.heap.size+1) (w.heap.size+1) U V→Below w.heap.size w V from fun V hV=>HB.out.trans (hV.bel.mono (by omega)))
 have HBK:=hide (show ∀V,WStep (w.heap.size+1) (w.heap.size+1) U V→V.heap[w.heap.size]?=some (.cells RQ 57 (0,0)) from fun V hV=>(hV.bel.block _ (by omega)).trans a1)
 have HST:=hide (WStep.refl (w.heap.size+1) (w.heap.size+1) U)
 clear a1 a2 hl1 hl2
 have HW:=HWS
 have HL:=hide (show ([]:List UInt8).length≤0 from Nat.le_refl _)
 clear HWS
 have hBV:w.heap.size+1≤U.heap.size:=Nat.le_trans hB0 HST.out.bel.size
 have hbV:w.heap.size+1<U.heap.size:=Nat.lt_of_lt_of_le hb0 HST.out.bel.size
 refine (X2Cx (w.heap.size+1) (w.heap.size+1) [] darkL _ HW.out (by decide) hBV hbV).mono ?_
 rintro e V1 ⟨rfl,hW',hS'⟩
 replace HST:=hide (HST.out.trans hS')
 obtain ⟨L1,HQ1⟩:∃L1,Hid (([]:List UInt8)++textW darkL=L1):=⟨_,rfl⟩
 rw[HQ1.out] at hW'
 replace HW:=hide hW'
 replace HL:=hide (show L1.length≤8 by rw[←HQ1.out,List.length_append,show (textW darkL).length=8 from rfl];have:=HL.out;(try simp);(try omega))
 clear hW' hS' hBV hbV
 obtain ⟨s0,s1,s2,s3,s4,s5,s6,s13,s26⟩:=HRC.out _ (HBK.out V1 HST.out)
 go_wp2_with fail
 clear s0 s1 s2 s3 s4 s5 s6 s13 s26
 have hBV:w.heap.size+1≤V1.heap.size:=Nat.le_trans hB0 HST.out.bel.size
 have hbV:w.heap.size+1<V1.heap.size:=Nat.lt_of_lt_of_le hb0 HST.out.bel.size
 have HG:=hide (WStep.alloc (B:=(w.heap.size+1)) (b:=(w.heap.size+1)) hBV (Obj.cells #[.int .i64 r.w,.int .i64 r.h,.int .i64 r.depth,.int .i64 r.kind,.int .i64 r.rows] 3))
 have HWA:=hide (HW.out.alloc (Obj.cells #[.int .i64 r.w,.int .i64 r.h,.int .i64 r.depth,.int .i64 r.kind,.int .i64 r.rows] 3))
 have HIA:=hide (ints5b V1 r.w r.h r.depth r.kind r.rows)
 have hga:=al1 V1 (Obj.cells #[.int .i64 r.w,.int .i64 r.h,.int .i64 r.depth,.int .i64 r.kind,.int .i64 r.rows] 3)
 have HAA:=hide (wints (B:=(w.heap.size+1)) (b:=(w.heap.size+1)) (c:=5) (ca:=5) (xs:=[]) hga (by omega) (by decide))
 have HLA:=hide (show L1.length+([r.w,r.h,r.depth,r.kind,r.rows]:List Int).length*4≤140737488355328 by have:=HL.out;simp;omega)
 have hBA:=Nat.le_trans hBV HG.out.bel.size
 have hbA:=Nat.lt_of_lt_of_le hbV HG.out.bel.size
 clear hga
 generalize V1.alloc (Obj.cells #[.int .i64 r.w,.int .i64 r.h,.int .i64 r.depth,.int .i64 r.kind,.int .i64 r.rows] 3)=VA at *
 replace HST:=hide (HST.out.trans HG.out)
 refine (zhLR (w.heap.size+1) (w.heap.size+1) L1 _ [r.w,r.h,r.depth,r.kind,r.rows] _ HWA.out HIA.out HAA.out HLA.out hBA hbA).mono ?_
 rintro e V2 ⟨rfl,hW',hS'⟩
 replace HST:=hide (HST.out.trans hS')
 obtain ⟨L2,HQ2⟩:∃L2,Hid (L1++([r.w,r.h,r.depth,r.kind,r.rows]:List Int).flatMap num4=L2):=⟨_,rfl⟩
 rw[HQ2.out] at hW'
 replace HW:=hide hW'
 replace HL:=hide (show L2.length≤28 by rw[←HQ2.out,List.length_append,j6hd];have:=HL.out;(try simp);(try omega))
 clear hW' hS' hBV hbV
 clear HG HWA HIA HAA HLA hBA hbA
 obtain ⟨s0,s1,s2,s3,s4,s5,s6,s13,s26⟩:=HRC.out _ (HBK.out V2 HST.out)
 go_wp2_with fail
 clear s0 s1 s2 s3 s4 s5 s6 s13 s26
 have hBV:w.heap.size+1≤V2.heap.size:=Nat.le_trans hB0 HST.out.bel.size
 have hbV:w.heap.size+1<V2.heap.size:=Nat.lt_of_lt_of_le hb0 HST.out.bel.size
 have HG:=hide (WStep.alloc (B:=(w.heap.size+1)) (b:=(w.heap.size+1)) hBV (Obj.cells #[.int .i64 r.lens.length] 3))
 have HWA:=hide (HW.out.alloc (Obj.cells #[.int .i64 r.lens.length] 3))
 have HIA:=hide (ints1 V2 r.lens.length)
 have hga:=al1 V2 (Obj.cells #[.int .i64 r.lens.length] 3)
 have HAA:=hide (wints (B:=(w.heap.size+1)) (b:=(w.heap.size+1)) (c:=1) (ca:=1) (xs:=[]) hga (by omega) (by decide))
 have HLA:=hide (show L2.length+([(r.lens.length:Int)]:List Int).length*4≤140737488355328 by have:=HL.out;simp;omega)
 have hBA:=Nat.le_trans hBV HG.out.bel.size
 have hbA:=Nat.lt_of_lt_of_le hbV HG.out.bel.size
 clear hga
 generalize V2.alloc (Obj.cells #[.int .i64 r.lens.length] 3)=VA at *
 replace HST:=hide (HST.out.trans HG.out)
 refine (zhLR (w.heap.size+1) (w.heap.size+1) L2 _ [(r.lens.length:Int)] _ HWA.out HIA.out HAA.out HLA.out hBA hbA).mono ?_
 rintro e V3 ⟨rfl,hW',hS'⟩
 replace HST:=hide (HST.out.trans hS')
 obtain ⟨L3,HQ3⟩:∃L3,Hid (L2++([(r.lens.length:Int)]:List Int).flatMap num4=L3):=⟨_,rfl⟩
 rw[HQ3.out] at hW'
 replace HW:=hide hW'
 replace HL:=hide (show L3.length≤32 by rw[←HQ3.out,List.length_append,j6hd];have:=HL.out;(try simp);(try omega))
 clear hW' hS' hBV hbV
 clear HG HWA HIA HAA HLA hBA hbA
 obtain ⟨s0,s1,s2,s3,s4,s5,s6,s13,s26⟩:=HRC.out _ (HBK.out V3 HST.out)
 go_wp2_with fail
 clear s0 s1 s2 s3 s4 s5 s6 s13 s26
 have hBV:w.heap.size+1≤V3.heap.size:=Nat.le_trans hB0 HST.out.bel.size
 have hbV:w.heap.size+1<V3.heap.size:=Nat.lt_of_lt_of_le hb0 HST.out.bel.size
 have HI4:=HR.out.lens.below (HBV.out _ HST.out) (Nat.le_refl _)
 have HA4:=zLc9 (B:=w.heap.size+1) (b:=w.heap.size+1) (V:=V3) HR.out.lens (by omega)
 refine (qfDp (w.heap.size+1) (w.heap.size+1) L3 _ r.lens _ HW.out HI4 HA4 (by have:=HL.out;omega) hBV hbV).mono ?_
 rintro e V4 ⟨rfl,hW',hS'⟩
 replace HST:=hide (HST.out.trans hS')
 obtain ⟨L4,HQ4⟩:∃L4,Hid (L3++r.lens.flatMap num4=L4):=⟨_,rfl⟩
 rw[HQ4.out] at hW'
 replace HW:=hide hW'
 replace HL:=hide (show L4.length≤4194336 by rw[←HQ4.out,List.length_append,j6hd];have:=HL.out;(try simp);(try omega))
 clear hW' hS' hBV hbV
 clear HI4 HA4
 obtain ⟨s0,s1,s2,s3,s4,s5,s6,s13,s26⟩:=HRC.out _ (HBK.out V4 HST.out)
 go_wp2_with fail
 clear s0 s1 s2 s3 s4 s5 s6 s13 s26
 have hBV:w.heap.size+1≤V4.heap.size:=Nat.le_trans hB0 HST.out.bel.size
 have hbV:w.heap.size+1<V4.heap.size:=Nat.lt_of_lt_of_le hb0 HST.out.bel.size
 have HG:=hide (WStep.alloc (B:=(w.heap.size+1)) (b:=(w.heap.size+1)) hBV (Obj.cells #[.int .i64 r.strips.length] 3))
 have HWA:=hide (HW.out.alloc (Obj.cells #[.int .i64 r.strips.length] 3))
 have HIA:=hide (ints1 V4 r.strips.length)
 have hga:=al1 V4 (Obj.cells #[.int .i64 r.strips.length] 3)
 have HAA:=hide (wints (B:=(w.heap.size+1)) (b:=(w.heap.size+1)) (c:=1) (ca:=1) (xs:=[]) hga (by omega) (by decide))
 have HLA:=hide (show L4.length+([(r.strips.length:Int)]:List Int).length*4≤140737488355328 by have:=HL.out;simp;omega)
 have hBA:=Nat.le_trans hBV HG.out.bel.size
 have hbA:=Nat.lt_of_lt_of_le hbV HG.out.bel.size
 clear hga
 generalize V4.alloc (Obj.cells #[.int .i64 r.strips.length] 3)=VA at *
 replace HST:=hide (HST.out.trans HG.out)
 refine (zhLR (w.heap.size+1) (w.heap.size+1) L4 _ [(r.strips.length:Int)] _ HWA.out HIA.out HAA.out HLA.out hBA hbA).mono ?_
 rintro e V5 ⟨rfl,hW',hS'⟩
 replace HST:=hide (HST.out.trans hS')
 obtain ⟨L5,HQ5⟩:∃L5,Hid (L4++([(r.strips.length:Int)]:List Int).flatMap num4=L5):=⟨_,rfl⟩
 rw[HQ5.out] at hW'
 replace HW:=hide hW'
 replace HL:=hide (show L5.length≤4194340 by rw[←HQ5.out,List.length_append,j6hd];have:=HL.out;(try simp);(try omega))
 clear hW' hS' hBV hbV
 clear HG HWA HIA HAA HLA hBA hbA
 obtain ⟨s0,s1,s2,s3,s4,s5,s6,s13,s26⟩:=HRC.out _ (HBK.out V5 HST.out)
 go_wp2_with fail
 clear s0 s1 s2 s3 s4 s5 s6 s13 s26
 go_loopw [35] (fun i wr=>∃k:Nat,k≤r.strips.length∧i=.int .i64 k∧IsWr (w.heap.size+1) (w.heap.size+1) (L5++(r.strips.take k).flatMap textW) wr∧WStep (w.heap.size+1) (w.heap.size+1) U wr) (fun i _=>r.strips.length-(intOf i).toNat)
 case atStart=>exact ⟨0,Nat.zero_le _,rfl,by simpa using HW.out,HST.out⟩
 case round =>
  obtain ⟨k,hk,rfl,hW,hS⟩:=hrel
  have HLL:=HL
  clear HST HW
  have HST:=hide hS
  have HW:=hide hW
  clear hW hS
  have hBV:w.heap.size+1≤wr.heap.size:=Nat.le_trans hB0 HST.out.bel.size
  have hbV:w.heap.size+1<wr.heap.size:=Nat.lt_of_lt_of_le hb0 HST.out.bel.size
  have htk:=HT.out k
  by_cases hlt:k<r.strips.length
  ·have hd:decide ((k:Int)<(r.strips.length:Int))=true:=by simp;omega
   obtain ⟨bq,oq,rfl,hbq,d0⟩:=(HR.out.strips.below (HBV.out _ HST.out) (Nat.le_refl _)).at k hlt
   have hgs:=HGS.out k hlt
   obtain ⟨T,hTT⟩:∃T,r.strips.getD k []=T:=⟨_,rfl⟩
   rw[hTT] at d0 hgs
   have HTT:=hide hTT
   clear hTT
   go_wp2_with fail
   clear d0
   refine (X2Cx (w.heap.size+1) (w.heap.size+1) _ T _ HW.out (by have:=HLL.out;rw[List.length_append];omega) hBV hbV).mono ?_
   rintro e X2 ⟨rfl,hW',hS'⟩
   have HST2:=hide (HST.out.trans hS')
   have HW2:=hide (show IsWr (w.heap.size+1) (w.heap.size+1) (L5++(r.strips.take (k+1)).flatMap textW) X2 by rw[qDmh _ k hlt,HTT.out,←List.append_assoc];exact hW')
   clear hW' hS' hBV hbV htk
   go_wp2
   go_roundw
   case rel=>exact ⟨k+1,hlt,by go_num,HW2.out,HST2.out⟩
   case measure=>simp[intOf];omega
  ·have hd:decide ((k:Int)<(r.strips.length:Int))=false:=by simp;omega
   obtain rfl:k=r.strips.length:=by omega
   rw[List.take_length] at HW htk
   obtain ⟨L6,HQ6⟩:∃L6,Hid (L5++r.strips.flatMap textW=L6):=⟨_,rfl⟩
   rw[HQ6.out] at HW
   have HL6:=hide (show L6.length≤1099511627776 by rw[←HQ6.out,List.length_append];have:=HLL.out;omega)
   have HPP:=hide (HR.out.plan.below (HBV.out _ HST.out) (Nat.le_refl _))
   have HP0:=hide (HPA.out _ (HBK.out _ HST.out))
   clear HLL HL htk HT HGS
   go_wp2_with (refine XiYX rfl 51 _ rfl _ 7 rfl (planA r.plan sv cv) _ HP0.out Tryz.underlying51 rfl (by kernel_rfl) ?_)
   refine (zu1k (w.heap.size+1) (w.heap.size+1) L6 r.plan sv cv _ HW.out HPP.out (zJ9I HR.out.plan.spots (by omega)) (zJ9I HR.out.plan.curve (by omega)) HL6.out g4 g5 hBV hbV).mono ?_
   rintro e X3 ⟨rfl,hW',hS'⟩
   have HST3:=hide (HST.out.trans hS')
   have HE:=hide (show L6++planW r.plan=rawW r by
    rw[←HQ6.out,←HQ5.out,←HQ4.out,←HQ3.out,←HQ2.out,←HQ1.out]
    simp[rawW,headL,listW,List.append_assoc])
   rw[HE.out] at hW'
   have HW3:=hide hW'
   clear hW' hS'
   go_wp2_with fail
   refine (Xgax (w.heap.size+1) (w.heap.size+1) (rawW r) _ HW3.out (by simp[rawW,textW,num4])).mono ?_
   rintro e X4 ⟨rfl,hb4⟩
   have HF:=hide ((HBV.out _ HST3.out).trans (hb4.mono (by omega)))
   go_wp2
   go_ret
   exact ⟨rfl,HF.out⟩
theorem qcx1 {ls:List Pt} (h:zamz ls=true):ls.length≤16:=by
 simp only[zamz,jMWf,Bool.and_eq_true,decide_eq_true_eq] at h
 omega
theorem st_len {r:RawF} (h:Head r) {i:Nat} (hi:i<cntN r) {s:List UInt8} (h0:stE r s (rowN r i)=0):s.length≤15360:=by
 obtain ⟨h3,h4⟩:=h.size hi
 obtain ⟨h5,h6⟩:=h.row hi
 have hw:=h.w
 have hd:=h.depth
 by_cases hk:r.kind=0
 ·obtain ⟨e1,e2⟩:=XX6a hk s (rowN r i)
  rw[e1] at h0
  have hf:=jtlP h0
  simp only[Xpy1,decide_eq_true_eq] at hf
  rw[hf.2.2.2.1]
  have:(rowN r i*r.w).toNat*r.depth.toNat≤4096*16:=Nat.mul_le_mul (by omega) (by omega)
  omega
 ·have hE:qaPw s r.w (rowN r i) r.kind r.lens=0:=by
   rw[stE,if_neg hk] at h0
   split at h0
   ·assumption
   ·exact h0
  have hS:(readD s r.w (rowN r i) r.kind r.lens).isSome=true:=by
   unfold qaPw at hE
   split at hE
   ·split at hE
    ·split at hE
     ·split at hE
      ·assumption
      ·cases hE
     ·rename_i hc;exact absurd hE hc
    ·cases hE
   ·cases hE
  obtain ⟨zs,hz⟩:=Option.isSome_iff_exists.1 hS
  rw[readD] at hz
  split at hz
  ·rename_i hl
   have:r.w.toNat*(rowN r i).toNat≤64*64:=Nat.mul_le_mul (by omega) (by omega)
   have:r.w.toNat*(rowN r i).toNat*30≤4096*30:=Nat.mul_le_mul_right _ this
   omega
  ·cases hz
structure Right (r:RawF):Prop where
 head:Head r
 many:r.strips.length=cntN r
 plan:planE r.plan=0
 spots:XepW r.w r.h r.plan.spots=true
 strips:stOk r r.strips.length=true
theorem zzPF {r:RawF} (h:XDWf r=0):Right r:=by
 unfold XDWf at h
 split at h
 ·rename_i h1
  split at h
  ·rename_i h2
   split at h
   ·rename_i h3
    split at h
    ·rename_i h4
     unfold pErr at h3
     split at h3
     ·rename_i h5
      split at h3
      ·rename_i h6
       exact ⟨jWRa h1,h2,h5,h6,h4⟩
      ·cases h3
     ·rename_i h5;exact absurd h3 h5
    ·cases h
   ·rename_i h3;exact absurd h h3
  ·cases h
 ·rename_i h1;exact absurd h h1
theorem Right.zero {r:RawF} (h:Right r):XDWf r=0:=by
 rw[XDWf,if_pos h.head.zero,if_pos h.many,if_pos (by rw[pErr,if_pos h.plan,if_pos h.spots]),if_pos h.strips]
theorem Right.lens_le {r:RawF} (h:Right r):r.lens.length≤17:=by
 have:=h.head.lens
 unfold kindE at this
 split at this
 ·split at this
  ·omega
  ·cases this
 ·exact (zF8D this).2.1
theorem Right.strip_le {r:RawF} (h:Right r):∀s∈r.strips,s.length≤15360:=by
 intro s hs
 obtain ⟨i,hi,rfl⟩:=List.getElem_of_mem hs
 have h0:=jWDk h.strips hi
 rw[stAt,XNGw hi] at h0
 exact st_len h.head (by have:=h.many;omega) h0
def rawS (r:RawF):List UInt8:=if XDWf r=0 then rawW r else []
set_option maxRecDepth 100000 in
set_option maxHeartbeats 1600000 in
theorem jk43 (r:RawF) (lv tv sv cv:Value) (w:World) (hr:IsRaw w r lv tv sv cv) :
  Calls Tryz.prog 45 #[.agg (rawA r lv tv sv cv)] w fun e w'=>e=.returned (.tuple #[.string (str (rawS r)),.int .i64 (XDWf r)])∧Below w.heap.size w w':=by
 have HB:=hide (qUNz w (Obj.cells (rawA r lv tv sv cv) 57))
 have a1:=al1 w (Obj.cells (rawA r lv tv sv cv) 57)
 have hl1:=(Array.getElem?_eq_some_iff.1 a1).1
 have HC:=hide (fun (u:World) (hu:Below w.heap.size w u)=>j0f2 r lv tv sv cv u (hr.below hu (Nat.le_refl _)))
 have HBO:=hide (fun (h0:XDWf r=0) (u:World) (hu:Below w.heap.size w u)=>jESC r lv tv sv cv u (hr.below hu (Nat.le_refl _)) (by have:=(zzPF h0).lens_le;omega) (by have:=(zzPF h0).many;have:=(zzPF h0).head.cnt_le;omega) (fun s hs=>by have:=(zzPF h0).strip_le s hs;omega) (by have:=(qwVl (zzPF h0).plan).2.2.2.2.2.1;omega) (by have:=qcx1 (qwVl (zzPF h0).plan).2.2.2.2.2.2.2;omega))
 have HS:=hide (show rawS r=if XDWf r=0 then rawW r else [] from rfl)
 generalize rawS r=S at *
 generalize rawW r=RW at *
 clear hr
 go_enter Tryz.func45,Tryz.ntmps45
 go_wp2_with (refine wpList_load_row rfl 57 _ rfl _ rfl _ _ _ _ a1 Tryz.underlying57 rfl (by kernel_rfl) ?_)
 generalize w.alloc (Obj.cells (rawA r lv tv sv cv) 57)=U at *
 refine (HC.out _ HB.out).mono ?_
 rintro e V1 ⟨rfl,hb1⟩
 have HB1:=hide (quJN HB.out hb1)
 by_cases hE:XDWf r=0
 ·rw[hE]
  rw[if_pos hE] at HS
  have hs:=HS.out
  subst hs
  have HBB:=hide (HBO.out hE)
  have b1:=(hb1.block _ hl1).trans a1
  go_wp2_with (refine wpList_load_row rfl 57 _ rfl _ rfl _ _ _ _ b1 Tryz.underlying57 rfl (by kernel_rfl) ?_)
  refine (HBB.out _ HB1.out).mono ?_
  rintro e V2 ⟨rfl,hb2⟩
  go_wp2
  go_ret2
  exact ⟨jV70 rfl (congrArg (Value.int .i64) hE.symm),quJN HB1.out hb2⟩
 ·have hn:(XDWf r != 0)=true:=by simpa using hE
  rw[if_neg hE] at HS
  have hs:=HS.out
  subst hs
  clear HBO
  go_wp2
  go_ret2
  exact ⟨rfl,HB1.out⟩
end Go.Proofs.YtfjeonehdlphiaaGreatDoor

namespace Go.Proofs.YtfjeonehdlphiaaGreatDoor
set_option linter.unusedVariables false
set_option linter.unusedSimpArgs false
open Go.RowKit
def kq9 (w h d k r:Int) (le:List Int) (st:List (List UInt8)) (n:Plan) (l:List UInt8):Option RawF:=if l=[] then some ⟨w,h,d,k,r,le,st,n⟩ else none
def kq8 (b3 b4:List UInt8→Nat) (w h d k r:Int) (le:List Int) (st:List (List UInt8)) (l:List UInt8):Option RawF:=match planP b3 b4 l with
 | none=>none
 | some (n,u)=>kq9 w h d k r le st n u
def kq7 (b2 b3 b4:List UInt8→Nat) (w h d k r:Int) (le:List Int) (l:List UInt8):Option RawF:=match listP textP b2 l with
 | none=>none
 | some (st,u)=>kq8 b3 b4 w h d k r le st u
def kq6 (b1 b2 b3 b4:List UInt8→Nat) (w h d k r:Int) (l:List UInt8):Option RawF:=match listP numP b1 l with
 | none=>none
 | some (le,u)=>kq7 b2 b3 b4 w h d k r le u
def kq5 (b1 b2 b3 b4:List UInt8→Nat) (w h d k:Int) (l:List UInt8):Option RawF:=match numP l with
 | none=>none
 | some (r,u)=>kq6 b1 b2 b3 b4 w h d k r u
def kq4 (b1 b2 b3 b4:List UInt8→Nat) (w h d:Int) (l:List UInt8):Option RawF:=match numP l with
 | none=>none
 | some (k,u)=>kq5 b1 b2 b3 b4 w h d k u
def kq3 (b1 b2 b3 b4:List UInt8→Nat) (w h:Int) (l:List UInt8):Option RawF:=match numP l with
 | none=>none
 | some (d,u)=>kq4 b1 b2 b3 b4 w h d u
def kq2 (b1 b2 b3 b4:List UInt8→Nat) (w:Int) (l:List UInt8):Option RawF:=match numP l with
 | none=>none
 | some (h,u)=>kq3 b1 b2 b3 b4 w h u
def kq1 (b1 b2 b3 b4:List UInt8→Nat) (l:List UInt8):Option RawF:=match numP l with
 | none=>none
 | some (w,u)=>kq2 b1 b2 b3 b4 w u
def rawP (b1 b2 b3 b4:List UInt8→Nat) (s:List UInt8):Option RawF:=match textP s with
 | none=>none
 | some (m,l)=>if m=darkL then kq1 b1 b2 b3 b4 l else none
def strV (s:List UInt8):Value:=.string (str s)
theorem qjcf {g:Nat} {t:TypeId} {xs:List Int} {V:World} (h:Holds g t (xs.map (Value.int .i64)) V) (hn:xs.length≤1048576):jCvT V (.slice (some ⟨g,0,none⟩) xs.length xs.length) xs:=by
 refine ⟨_,_,rfl,by omega,.inr ⟨g,0,rfl,h.lt,fun j hj=>?_⟩⟩
 rw[Nat.zero_add,Lib.cell_of_heap h]
 simp[hj]
theorem jlEe {g:Nat} {t:TypeId} {ts:List (List UInt8)} {V:World} (h:Holds g t (ts.map strV) V) (hn:ts.length≤1048576):zGcC V (.slice (some ⟨g,0,none⟩) ts.length ts.length) ts:=by
 refine ⟨_,_,rfl,by omega,.inr ⟨g,0,rfl,h.lt,fun j hj=>?_⟩⟩
 rw[Nat.zero_add,Lib.cell_of_heap h]
 simp[hj,strV]
theorem Tryz.infoStrF:(Tryz.prog.info? 9).map (fun i=>(i.zero,i.size,i.bytes))=some (some (.string ⟨#[]⟩),1,16):=by kernel_rfl
theorem qjRV (z:Value) (N:Nat):madeCells #[z] N=(List.replicate N z).toArray:=by
 refine Array.ext (by simp[madeCells]) fun i h1 h2=>?_
 simp[madeCells,Nat.mod_one]
theorem qrn3 (ns:List (List UInt8)) (M:Nat) (x:List UInt8):(ns.map strV++List.replicate (M+1) (Value.string ⟨#[]⟩)).set ns.length (.string (str x))=(ns++[x]).map strV++List.replicate M (Value.string ⟨#[]⟩):=by
 rw[List.set_append_right _ _ (by simp),List.length_map,Nat.sub_self,List.replicate_succ,List.set_cons_zero]
 simp[strV]
theorem jQyx (s:List UInt8) (w:World) (hl:s.length≤281474976710656) :
  Calls Tryz.prog 164 #[.string (str s)] w fun e w'=>e=.returned (.string (str s))∧Below w.heap.size w w':=by
 have HC:=hide (Tryz.stringslite_Clone (str s) w (by rw[qzX5];exact hl))
 go_enter Tryz.func164,Tryz.ntmps164
 go_wp2_with fail
 refine (HC.out).mono ?_
 rintro e w1 ⟨rfl,hb⟩
 go_wp2
 go_ret
 exact ⟨rfl,hb⟩
theorem Xz65 {l t s:List UInt8} (h:textP l=some (s,t)):t.length≤l.length:=by
 rw[(zGqm.sound _ _ _ h).1,List.length_append];omega
theorem jt6w {l t s:List UInt8} (h:textP l=some (s,t)):s.length≤l.length:=by
 rw[(zGqm.sound _ _ _ h).1,List.length_append,textW,List.length_append];omega
structure FJ (w:World) (X:List (Nat×TypeId×List Value)) (l:List UInt8) (cs:List Value) (V:World):Prop where
 sep:∀x∈X,w.heap.size+2<x.1
 bel:Below w.heap.size w V
 rd:IsRd (w.heap.size+2) l V
 box:Holds w.heap.size 57 cs V
 okb:Holds (w.heap.size+1) 4 [.bool false] V
 ex:∀x∈X,Holds x.1 x.2.1 x.2.2 V
theorem FJ.num {w:World} {X:List (Nat×TypeId×List Value)} {l t:List UInt8} {cs:List Value} {V V':World} (h:FJ w X l cs V) (hs:RSt w.heap.size (w.heap.size+2) V V') (hr:IsRd (w.heap.size+2) t V'):FJ w X t cs V' where
 sep:=h.sep
 bel:=h.bel.trans hs.bel
 rd:=hr
 box:=(hs.keep _ h.box.lt (by omega)).trans h.box
 okb:=(hs.keep _ h.okb.lt (by omega)).trans h.okb
 ex:=fun x hx=>(hs.keep _ (h.ex x hx).lt (by have:=h.sep x hx;omega)).trans (h.ex x hx)
theorem FJ.pan {w:World} {X:List (Nat×TypeId×List Value)} {l:List UInt8} {cs:List Value} {V V':World} (h:FJ w X l cs V) (hs:RSt w.heap.size (w.heap.size+2) V V'):Below w.heap.size w V'∧Holds w.heap.size 57 cs V'∧Holds (w.heap.size+1) 4 [.bool false] V' :=
 ⟨h.bel.trans hs.bel,(hs.keep _ h.box.lt (by omega)).trans h.box,(hs.keep _ h.okb.lt (by omega)).trans h.okb⟩
theorem FJ.pan2 {w:World} {X:List (Nat×TypeId×List Value)} {l:List UInt8} {cs:List Value} {V V':World} {g:Nat} (h:FJ w X l cs V) (hg:w.heap.size+2<g) (hs:RSt2 w.heap.size (w.heap.size+2) g V V'):Below w.heap.size w V'∧Holds w.heap.size 57 cs V'∧Holds (w.heap.size+1) 4 [.bool false] V' :=
 ⟨h.bel.trans hs.bel,(hs.keep _ h.box.lt (by omega) (by omega)).trans h.box,(hs.keep _ h.okb.lt (by omega) (by omega)).trans h.okb⟩
theorem FJ.put {w:World} {X:List (Nat×TypeId×List Value)} {l:List UInt8} {cs:List Value} {V:World} (h:FJ w X l cs V) (i:Nat) (v:Value) (h1:v.oneCell'=true):FJ w X l (cs.set i v) (V.setCell ⟨w.heap.size,i,none⟩ v):=by
 obtain ⟨hh,hs⟩:=h.box.set (B:=w.heap.size) (b:=w.heap.size+2) (Nat.le_refl _) i v h1
 have hk:∀k,k≠w.heap.size→(V.setCell ⟨w.heap.size,i,none⟩ v).heap[k]?=V.heap[k]?:=fun k hk=>Below.heap_setCell _ _ _ _ (fun e=>hk e)
 exact ⟨h.sep,h.bel.trans hs.bel,(hk _ (by omega)).trans h.rd,hh,(hk _ (by omega)).trans h.okb,fun x hx=>(hk _ (by have:=h.sep x hx;omega)).trans (h.ex x hx)⟩
theorem FJ.alloc {w:World} {X:List (Nat×TypeId×List Value)} {l:List UInt8} {cs:List Value} {V:World} (h:FJ w X l cs V) (ds:List Value) (t:TypeId):FJ w ((V.heap.size,t,ds)::X) l cs (V.alloc (.cells ds.toArray t)) where
 sep:=fun x hx=>by
  rcases List.mem_cons.1 hx with rfl|hx
  ·exact (Array.getElem?_eq_some_iff.1 h.rd).1
  ·exact h.sep x hx
 bel:=h.bel.trans ((qUNz V _).mono h.bel.size)
 rd:=qgz9 h.rd _
 box:=((qUNz V _).block _ h.box.lt).trans h.box
 okb:=((qUNz V _).block _ h.okb.lt).trans h.okb
 ex:=fun x hx=>by
  rcases List.mem_cons.1 hx with rfl|hx
  ·exact al1 V _
  ·exact ((qUNz V _).block _ (h.ex x hx).lt).trans (h.ex x hx)
theorem FJ.bel2 {w:World} {X:List (Nat×TypeId×List Value)} {l:List UInt8} {cs:List Value} {V V':World} (h:FJ w X l cs V) (hb:Below V.heap.size V V'):FJ w X l cs V' :=
 ⟨h.sep,h.bel.trans (hb.mono h.bel.size),(hb.block _ (Array.getElem?_eq_some_iff.1 h.rd).1).trans h.rd,(hb.block _ h.box.lt).trans h.box,(hb.block _ h.okb.lt).trans h.okb,fun x hx=>(hb.block _ (h.ex x hx).lt).trans (h.ex x hx)⟩
theorem FJ.drew {w:World} {X:List (Nat×TypeId×List Value)} {l:List UInt8} {cs:List Value} {V:World} (h:FJ w X l cs V):FJ w X l cs V.drew :=
 ⟨h.sep,h.bel.drew,h.rd,h.box,h.okb,h.ex⟩
theorem FJ.fillX {w:World} {X:List (Nat×TypeId×List Value)} {g:Nat} {t:TypeId} {ds ds':List Value} {l u:List UInt8} {cs:List Value} {V V':World} (h:FJ w ((g,t,ds)::X) l cs V) (hX:∀x∈X,x.1≠g) (hs:RSt2 w.heap.size (w.heap.size+2) g V V') (hr:IsRd (w.heap.size+2) u V') (hh:Holds g t ds' V'):FJ w ((g,t,ds')::X) u cs V':=by
 have hg:w.heap.size+2<g:=h.sep (g,t,ds) List.mem_cons_self
 refine ⟨?_,h.bel.trans hs.bel,hr,(hs.keep _ h.box.lt (by omega) (by omega)).trans h.box,(hs.keep _ h.okb.lt (by omega) (by omega)).trans h.okb,?_⟩
 ·intro x hx
  rcases List.mem_cons.1 hx with rfl|hx
  ·exact hg
  ·exact h.sep x (by simp[hx])
 ·intro x hx
  rcases List.mem_cons.1 hx with rfl|hx
  ·exact hh
  ·exact (hs.keep _ (h.ex x (by simp[hx])).lt (by have:=h.sep x (by simp[hx]);omega) (hX x hx)).trans (h.ex x (by simp[hx]))
theorem FJ.plan {w:World} {X:List (Nat×TypeId×List Value)} {l:List UInt8} {cs cs':List Value} {V:World} (h:FJ w X l cs V):FJ w X l cs' (V.setRow w.heap.size cs'.toArray):=by
 have hk:∀k,k≠w.heap.size→(V.setRow w.heap.size cs'.toArray).heap[k]?=V.heap[k]?:=fun k hk=>setRow_other _ _ _ _ hk
 exact ⟨h.sep,below_setRow h.bel (Nat.le_refl _) _,(hk _ (by omega)).trans h.rd,setRow_heap _ _ _ _ _ _ h.box,(hk _ (by omega)).trans h.okb,fun x hx=>(hk _ (by have:=h.sep x hx;omega)).trans (h.ex x hx)⟩
set_option maxRecDepth 100000 in
set_option maxHeartbeats 3200000 in
theorem zhHE (s:List UInt8) (w:World) (hs:s.length≤140737488355328) :
    Calls Tryz.prog 107 #[.string (str s)] w fun e w'=>Below w.heap.size w w'∧((∃r lv tv sv cv,rawP (fun _=>17) (fun _=>64) (fun _=>64) (fun _=>16) s=some r∧e=.returned (.tuple #[.agg (rawA r lv tv sv cv),.bool true])∧IsRaw w' r lv tv sv cv∧Fresh w.heap.size lv∧Fresh w.heap.size tv∧Fresh w.heap.size sv∧Fresh w.heap.size cv)∨(rawP (fun _=>17) (fun _=>64) (fun _=>64) (fun _=>16) s=none∧e=.returned (.tuple #[.agg rawZ,.bool false]))):=by
  have HJ0:FJ w [] s rawZ.toList (((w.alloc (.cells rawZ 57)).alloc (.cells #[.bool false] 4)).alloc (.cells #[.string (str s)] 200)):=by
    obtain ⟨a1,a2,a3⟩:=al3 w (Obj.cells rawZ 57) (Obj.cells #[.bool false] 4) (Obj.cells #[.string (str s)] 200)
    exact ⟨by simp,be3 w _ _ _,a3,a1,a2,by simp⟩
  have HJ:=hide HJ0
  clear HJ0
  have hmf:∀(fn:Fn) (first cap:Array Value) (w:World),(Instr.makeFunc fn first cap).run Tryz.prog w=.ok (.func fn first cap) w:=fun _ _ _ _=>rfl
  obtain ⟨R,HP⟩:∃R,Hid (R=rawP (fun _=>17) (fun _=>64) (fun _=>64) (fun _=>16) s):=⟨_,rfl⟩
  rw[←HP.out]
  go_enter_defers Tryz.func107,Tryz.ntmps107
  go_wp2_with fail
  generalize ((w.alloc (.cells rawZ 57)).alloc (.cells #[.bool false] 4)).alloc (.cells #[.string (str s)] 200)=V0 at *
  refine (q940 w.heap.size (w.heap.size+2) s V0 (by omega) HJ.out.bel.size HJ.out.rd (by omega)).mono ?_
  rintro e V1 ⟨hS,hc⟩
  rcases hc with ⟨m,l1,hp,rfl,hR⟩|⟨hp,rfl⟩
  rotate_left
  · exact (fun q => XQWw q.1 q.2.1 rfl q.2.2 rfl rfl (fun W hW => ⟨hW, .inr ⟨by rw [HP.out, rawP, hp], rfl⟩⟩)) (HJ.out.pan hS)
  have hl1:l1.length≤140737488355328:=by have:=Xz65 hp;omega
  replace HP:=hide (show R=if m=darkL then kq1 (fun _=>17) (fun _=>64) (fun _=>64) (fun _=>16) l1 else none by rw[HP.out,rawP,hp])
  replace HJ:=hide (HJ.out.num hS hR)
  have hml:=jt6w hp
  clear hp hS hR
  by_cases hm:m=darkL
  rotate_left
  · rw [if_neg hm] at HP
    have hq:((str m).toList == [100,97,114,107])=false:=by rw[Lib.toList_data,jrcE];exact beq_false_of_ne hm
    go_wp2_with fail
    refine (q2dr _).mono ?_
    rintro e V' ⟨rfl,rfl⟩
    exact XQWw HJ.out.bel HJ.out.box rfl HJ.out.okb rfl rfl (fun W hW=>⟨hW,.inr ⟨HP.out,rfl⟩⟩)
  subst hm
  rw[if_pos rfl] at HP
  have hq:((str darkL).toList == [100,97,114,107])=true:=by rw[Lib.toList_data,jrcE];rfl
  go_wp2_with fail
  refine (qEMU _).mono ?_
  rintro e VQ ⟨rfl,rfl⟩
  go_wp2_with fail
  refine (qI49 w.heap.size (w.heap.size+2) l1 VQ (by omega) HJ.out.bel.size HJ.out.rd (by omega)).mono ?_
  rintro e V2 ⟨hS,hc⟩
  rcases hc with ⟨rw,l2,hp,rfl,hR⟩|⟨hp,rfl⟩
  rotate_left
  · exact (fun q => XQWw q.1 q.2.1 rfl q.2.2 rfl rfl (fun W hW => ⟨hW, .inr ⟨by rw [HP.out, kq1, hp], rfl⟩⟩)) (HJ.out.pan hS)
  have hl2:l2.length≤140737488355328:=by have:=jN2l hp;omega
  replace HP:=hide (show R=kq2 (fun _=>17) (fun _=>64) (fun _=>64) (fun _=>16) rw l2 by rw[HP.out,kq1,hp])
  replace HJ:=hide (HJ.out.num hS hR)
  clear hp hS hR
  go_wp2_with fail
  refine (qI49 w.heap.size (w.heap.size+2) l2 V2 (by omega) HJ.out.bel.size HJ.out.rd (by omega)).mono ?_
  rintro e V3 ⟨hS,hc⟩
  rcases hc with ⟨rh,l3,hp,rfl,hR⟩|⟨hp,rfl⟩
  rotate_left
  · exact (fun q => XQWw q.1 q.2.1 rfl q.2.2 rfl rfl (fun W hW => ⟨hW, .inr ⟨by rw [HP.out, kq2, hp], rfl⟩⟩)) (HJ.out.pan hS)
  have hl3:l3.length≤140737488355328:=by have:=jN2l hp;omega
  replace HP:=hide (show R=kq3 (fun _=>17) (fun _=>64) (fun _=>64) (fun _=>16) rw rh l3 by rw[HP.out,kq2,hp])
  replace HJ:=hide (HJ.out.num hS hR)
  clear hp hS hR
  have c0:V3.cell? ⟨w.heap.size,0,none⟩=some (.int .i64 0):=by rw[Lib.cell_of_heap HJ.out.box];rfl
  have f0:V3.frozen? ⟨w.heap.size,0,none⟩=false:=Lib.frozen_of_heap HJ.out.box _
  replace HJ:=hide (HJ.out.put 0 (.int .i64 rw) rfl)
  replace HJ:=hide (show FJ w [] l3 [.int .i64 rw,.int .i64 0,.int .i64 0,.int .i64 0,.int .i64 0,.slice none 0 0,.slice none 0 0,.int .i64 0,.int .i64 0,.int .i64 0,.int .i64 0,.int .i64 0,.int .i64 0,.slice none 0 0,.int .i64 0,.int .i64 0,.int .i64 0,.int .i64 0,.int .i64 0,.int .i64 0,.int .i64 0,.int .i64 0,.int .i64 0,.int .i64 0,.int .i64 0,.int .i64 0,.slice none 0 0,.int .i64 0] (V3.setCell ⟨w.heap.size,0,none⟩ (.int .i64 rw)) from HJ.out)
  have c1:(V3.setCell ⟨w.heap.size,0,none⟩ (.int .i64 rw)).cell? ⟨w.heap.size,1,none⟩=some (.int .i64 0):=by rw[Lib.cell_of_heap HJ.out.box];rfl
  have f1:(V3.setCell ⟨w.heap.size,0,none⟩ (.int .i64 rw)).frozen? ⟨w.heap.size,1,none⟩=false:=Lib.frozen_of_heap HJ.out.box _
  replace HJ:=hide (HJ.out.put 1 (.int .i64 rh) rfl)
  replace HJ:=hide (show FJ w [] l3 [.int .i64 rw,.int .i64 rh,.int .i64 0,.int .i64 0,.int .i64 0,.slice none 0 0,.slice none 0 0,.int .i64 0,.int .i64 0,.int .i64 0,.int .i64 0,.int .i64 0,.int .i64 0,.slice none 0 0,.int .i64 0,.int .i64 0,.int .i64 0,.int .i64 0,.int .i64 0,.int .i64 0,.int .i64 0,.int .i64 0,.int .i64 0,.int .i64 0,.int .i64 0,.int .i64 0,.slice none 0 0,.int .i64 0] ((V3.setCell ⟨w.heap.size,0,none⟩ (.int .i64 rw)).setCell ⟨w.heap.size,1,none⟩ (.int .i64 rh)) from HJ.out)
  go_wp2_with fail
  clear c0 f0 c1 f1
  generalize ((V3.setCell ⟨w.heap.size,0,none⟩ (.int .i64 rw)).setCell ⟨w.heap.size,1,none⟩ (.int .i64 rh))=VB at *
  refine (qI49 w.heap.size (w.heap.size+2) l3 VB (by omega) HJ.out.bel.size HJ.out.rd (by omega)).mono ?_
  rintro e V4 ⟨hS,hc⟩
  rcases hc with ⟨rd,l4,hp,rfl,hR⟩|⟨hp,rfl⟩
  rotate_left
  · exact (fun q => XQWw q.1 q.2.1 rfl q.2.2 rfl rfl (fun W hW => ⟨hW, .inr ⟨by rw [HP.out, kq3, hp], rfl⟩⟩)) (HJ.out.pan hS)
  have hl4:l4.length≤140737488355328:=by have:=jN2l hp;omega
  replace HP:=hide (show R=kq4 (fun _=>17) (fun _=>64) (fun _=>64) (fun _=>16) rw rh rd l4 by rw[HP.out,kq3,hp])
  replace HJ:=hide (HJ.out.num hS hR)
  clear hp hS hR
  go_wp2_with fail
  refine (qI49 w.heap.size (w.heap.size+2) l4 V4 (by omega) HJ.out.bel.size HJ.out.rd (by omega)).mono ?_
  rintro e V5 ⟨hS,hc⟩
  rcases hc with ⟨rk,l5,hp,rfl,hR⟩|⟨hp,rfl⟩
  rotate_left
  · exact (fun q => XQWw q.1 q.2.1 rfl q.2.2 rfl rfl (fun W hW => ⟨hW, .inr ⟨by rw [HP.out, kq4, hp], rfl⟩⟩)) (HJ.out.pan hS)
  have hl5:l5.length≤140737488355328:=by have:=jN2l hp;omega
  replace HP:=hide (show R=kq5 (fun _=>17) (fun _=>64) (fun _=>64) (fun _=>16) rw rh rd rk l5 by rw[HP.out,kq4,hp])
  replace HJ:=hide (HJ.out.num hS hR)
  clear hp hS hR
  go_wp2_with fail
  refine (qI49 w.heap.size (w.heap.size+2) l5 V5 (by omega) HJ.out.bel.size HJ.out.rd (by omega)).mono ?_
  rintro e V6 ⟨hS,hc⟩
  rcases hc with ⟨rr,l6,hp,rfl,hR⟩|⟨hp,rfl⟩
  rotate_left
  · exact (fun q => XQWw q.1 q.2.1 rfl q.2.2 rfl rfl (fun W hW => ⟨hW, .inr ⟨by rw [HP.out, kq5, hp], rfl⟩⟩)) (HJ.out.pan hS)
  have hl6:l6.length≤140737488355328:=by have:=jN2l hp;omega
  replace HP:=hide (show R=kq6 (fun _=>17) (fun _=>64) (fun _=>64) (fun _=>16) rw rh rd rk rr l6 by rw[HP.out,kq5,hp])
  replace HJ:=hide (HJ.out.num hS hR)
  clear hp hS hR
  have c0:V6.cell? ⟨w.heap.size,2,none⟩=some (.int .i64 0):=by rw[Lib.cell_of_heap HJ.out.box];rfl
  have f0:V6.frozen? ⟨w.heap.size,2,none⟩=false:=Lib.frozen_of_heap HJ.out.box _
  replace HJ:=hide (HJ.out.put 2 (.int .i64 rd) rfl)
  replace HJ:=hide (show FJ w [] l6 [.int .i64 rw,.int .i64 rh,.int .i64 rd,.int .i64 0,.int .i64 0,.slice none 0 0,.slice none 0 0,.int .i64 0,.int .i64 0,.int .i64 0,.int .i64 0,.int .i64 0,.int .i64 0,.slice none 0 0,.int .i64 0,.int .i64 0,.int .i64 0,.int .i64 0,.int .i64 0,.int .i64 0,.int .i64 0,.int .i64 0,.int .i64 0,.int .i64 0,.int .i64 0,.int .i64 0,.slice none 0 0,.int .i64 0] (V6.setCell ⟨w.heap.size,2,none⟩ (.int .i64 rd)) from HJ.out)
  have c1:(V6.setCell ⟨w.heap.size,2,none⟩ (.int .i64 rd)).cell? ⟨w.heap.size,3,none⟩=some (.int .i64 0):=by rw[Lib.cell_of_heap HJ.out.box];rfl
  have f1:(V6.setCell ⟨w.heap.size,2,none⟩ (.int .i64 rd)).frozen? ⟨w.heap.size,3,none⟩=false:=Lib.frozen_of_heap HJ.out.box _
  replace HJ:=hide (HJ.out.put 3 (.int .i64 rk) rfl)
  replace HJ:=hide (show FJ w [] l6 [.int .i64 rw,.int .i64 rh,.int .i64 rd,.int .i64 rk,.int .i64 0,.slice none 0 0,.slice none 0 0,.int .i64 0,.int .i64 0,.int .i64 0,.int .i64 0,.int .i64 0,.int .i64 0,.slice none 0 0,.int .i64 0,.int .i64 0,.int .i64 0,.int .i64 0,.int .i64 0,.int .i64 0,.int .i64 0,.int .i64 0,.int .i64 0,.int .i64 0,.int .i64 0,.int .i64 0,.slice none 0 0,.int .i64 0] ((V6.setCell ⟨w.heap.size,2,none⟩ (.int .i64 rd)).setCell ⟨w.heap.size,3,none⟩ (.int .i64 rk)) from HJ.out)
  have c2:((V6.setCell ⟨w.heap.size,2,none⟩ (.int .i64 rd)).setCell ⟨w.heap.size,3,none⟩ (.int .i64 rk)).cell? ⟨w.heap.size,4,none⟩=some (.int .i64 0):=by rw[Lib.cell_of_heap HJ.out.box];rfl
  have f2:((V6.setCell ⟨w.heap.size,2,none⟩ (.int .i64 rd)).setCell ⟨w.heap.size,3,none⟩ (.int .i64 rk)).frozen? ⟨w.heap.size,4,none⟩=false:=Lib.frozen_of_heap HJ.out.box _
  replace HJ:=hide (HJ.out.put 4 (.int .i64 rr) rfl)
  replace HJ:=hide (show FJ w [] l6 [.int .i64 rw,.int .i64 rh,.int .i64 rd,.int .i64 rk,.int .i64 rr,.slice none 0 0,.slice none 0 0,.int .i64 0,.int .i64 0,.int .i64 0,.int .i64 0,.int .i64 0,.int .i64 0,.slice none 0 0,.int .i64 0,.int .i64 0,.int .i64 0,.int .i64 0,.int .i64 0,.int .i64 0,.int .i64 0,.int .i64 0,.int .i64 0,.int .i64 0,.int .i64 0,.int .i64 0,.slice none 0 0,.int .i64 0] (((V6.setCell ⟨w.heap.size,2,none⟩ (.int .i64 rd)).setCell ⟨w.heap.size,3,none⟩ (.int .i64 rk)).setCell ⟨w.heap.size,4,none⟩ (.int .i64 rr)) from HJ.out)
  go_wp2_with fail
  clear c0 f0 c1 f1 c2 f2
  generalize (((V6.setCell ⟨w.heap.size,2,none⟩ (.int .i64 rd)).setCell ⟨w.heap.size,3,none⟩ (.int .i64 rk)).setCell ⟨w.heap.size,4,none⟩ (.int .i64 rr))=VC at *
  refine (zbMh w.heap.size (w.heap.size+2) 17 l6 VC (by omega) HJ.out.bel.size HJ.out.rd (by omega)).mono ?_
  rintro e V7 ⟨hS,hc⟩
  rcases hc with ⟨n,l7,hp,rfl,hR⟩|⟨hp,rfl⟩
  rotate_left
  · exact (fun q => XQWw q.1 q.2.1 rfl q.2.2 rfl rfl (fun W hW => ⟨hW, .inr ⟨by rw [HP.out, kq6, qbhm hp], rfl⟩⟩)) (HJ.out.pan hS)
  obtain ⟨N7,rfl,hN7,hlp,hlen⟩:=qf3O (p:=numP) hp
  have HLP:=hide hlp
  have hl7:l7.length≤140737488355328:=by omega
  replace HJ:=hide (HJ.out.num hS hR)
  clear hp hS hR hlp hlen
  obtain ⟨i0,hi,hz0,hz1,hz2⟩:=info_parts Tryz.infoInt
  obtain ⟨ZA,hZA⟩:∃ZA:Array Value,(List.replicate N7 (Value.int .i64 0)).toArray=ZA:=⟨_,rfl⟩
  have hmk:∀V:World,(Instr.makeSlice 52 (.int .i64 N7) (.int .i64 N7)).run Tryz.prog V=.ok (.slice (some ⟨V.heap.size,0,none⟩) N7 N7) (V.alloc (.cells ZA 3)):=fun V=>by
    have h:=run_make (P:=Tryz.prog) V 52 3 i0 (Value.int .i64 0) Tryz.underlying52 hi hz0 .i64 .i64 N7 N7 (by omega) (Int.le_refl _) (by rw[hz2];omega) (by omega)
    rw[hz1,Int.toNat_natCast,Nat.mul_one] at h
    rw[←hZA,←qjRV]
    simpa [Value.cells] using h
  clear hi hz0 hz1 hz2
  have hxs7:∀x∈([]:List (Nat×TypeId×List Value)),x.1≠V7.heap.size:=fun x hx=>by have:=(HJ.out.ex x hx).lt;omega
  have ci:V7.cell? ⟨w.heap.size,5,none⟩=some (.slice none 0 0):=by rw[Lib.cell_of_heap HJ.out.box];rfl
  have fi:V7.frozen? ⟨w.heap.size,5,none⟩=false:=Lib.frozen_of_heap HJ.out.box _
  have hbl:w.heap.size<V7.heap.size:=HJ.out.box.lt
  have ci':(V7.alloc (.cells ZA 3)).cell? ⟨w.heap.size,5,none⟩=some (.slice none 0 0):=by rw[Lib.cell_of_heap (((qUNz V7 _).block _ HJ.out.box.lt).trans HJ.out.box)];rfl
  have fi':(V7.alloc (.cells ZA 3)).frozen? ⟨w.heap.size,5,none⟩=false:=Lib.frozen_of_heap (((qUNz V7 _).block _ HJ.out.box.lt).trans HJ.out.box) _
  replace HJ:=hide ((HJ.out.put 5 (.slice (some ⟨V7.heap.size,0,none⟩) N7 N7) rfl).alloc (List.replicate N7 (Value.int .i64 0)) 3)
  rw[hZA,show (V7.setCell ⟨w.heap.size,5,none⟩ (.slice (some ⟨V7.heap.size,0,none⟩) N7 N7)).heap.size=V7.heap.size by simp[World.setCell]] at HJ
  clear hZA
  have hsep7:w.heap.size+2<V7.heap.size:=HJ.out.sep _ List.mem_cons_self
  go_upto_region 7 with fail
  clear ci fi ci' fi' hmk hbl
  generalize V7.heap.size=S7 at *
  generalize (V7.setCell ⟨w.heap.size,5,none⟩ (.slice (some ⟨S7,0,none⟩) N7 N7)).alloc (.cells ZA 3)=VD at *
  replace HJ:=hide (show FJ w [(S7,3,List.replicate N7 (Value.int .i64 0))] l7 [.int .i64 rw,.int .i64 rh,.int .i64 rd,.int .i64 rk,.int .i64 rr,.slice (some ⟨S7,0,none⟩) N7 N7,.slice none 0 0,.int .i64 0,.int .i64 0,.int .i64 0,.int .i64 0,.int .i64 0,.int .i64 0,.slice none 0 0,.int .i64 0,.int .i64 0,.int .i64 0,.int .i64 0,.int .i64 0,.int .i64 0,.int .i64 0,.int .i64 0,.int .i64 0,.int .i64 0,.int .i64 0,.int .i64 0,.slice none 0 0,.int .i64 0] VD from HJ.out)
  have cj:VD.cell? ⟨w.heap.size,5,none⟩=some (.slice (some ⟨S7,0,none⟩) N7 N7):=by rw[Lib.cell_of_heap HJ.out.box];rfl
  go_wp2_with fail
  clear cj
  have hHL:=HJ.out.ex (S7,3,List.replicate N7 (Value.int .i64 0)) (by simp)
  refine (qKIr w.heap.size (w.heap.size+2) S7 0 N7 N7 3 (List.replicate N7 (Value.int .i64 0)) l7 VD (by omega) (by omega) (by omega) HJ.out.bel.size HJ.out.rd (by omega) hHL (by simp) (by omega) (fun i hi=>⟨0,by rw[Nat.zero_add,List.getElem?_replicate,if_pos hi]⟩)).mono ?_
  rintro e VE ⟨hS,hc⟩
  rcases hc with ⟨le,lE,hp,rfl,hR,hH⟩|⟨hp,rfl⟩
  rotate_left
  · exact (fun q => XQWw q.1 q.2.1 rfl q.2.2 rfl rfl (fun W hW => ⟨hW, .inr ⟨by rw [HP.out, kq6, HLP.out, hp], rfl⟩⟩)) (HJ.out.pan2 hsep7 hS)
  have hnl:=jPlP hp
  have hlE:lE.length≤140737488355328:=by have:=X8f4 (fun _ _ _=>jN2l) hp;omega
  replace HP:=hide (show R=kq7 (fun _=>64) (fun _=>64) (fun _=>16) rw rh rd rk rr le lE by rw[HP.out,kq6,HLP.out,hp])
  have hpe:patch (List.replicate N7 (Value.int .i64 0)) 0 (le.map (Value.int .i64))=le.map (Value.int .i64):=by
    unfold patch
    rw[List.take_zero,List.nil_append,List.drop_of_length_le (by simp;omega),List.append_nil]
  rw[hpe] at hH
  replace HJ:=hide (HJ.out.fillX (by simp) hS hR hH)
  clear hp hS hR hH HLP hHL hpe
  go_wp2_with fail
  refine (zbMh w.heap.size (w.heap.size+2) 64 lE VE (by omega) HJ.out.bel.size HJ.out.rd (by omega)).mono ?_
  rintro e V8 ⟨hS,hc⟩
  rcases hc with ⟨n,l8,hp,rfl,hR⟩|⟨hp,rfl⟩
  rotate_left
  · exact (fun q => XQWw q.1 q.2.1 rfl q.2.2 rfl rfl (fun W hW => ⟨hW, .inr ⟨by rw [HP.out, kq7, qbhm hp], rfl⟩⟩)) (HJ.out.pan hS)
  obtain ⟨N8,rfl,hN8,hlp,hlen⟩:=qf3O (p:=textP) hp
  have HLP:=hide hlp
  have hl8:l8.length≤140737488355328:=by omega
  replace HJ:=hide (HJ.out.num hS hR)
  clear hp hS hR hlp hlen
  obtain ⟨i0,hi,hz0,hz1,hz2⟩:=info_parts Tryz.infoStrF
  obtain ⟨ZA,hZA⟩:∃ZA:Array Value,(List.replicate N8 (Value.string ⟨#[]⟩)).toArray=ZA:=⟨_,rfl⟩
  have hmk:∀V:World,(Instr.makeSlice 55 (.int .i64 N8) (.int .i64 N8)).run Tryz.prog V=.ok (.slice (some ⟨V.heap.size,0,none⟩) N8 N8) (V.alloc (.cells ZA 9)):=fun V=>by
    have h:=run_make (P:=Tryz.prog) V 55 9 i0 (Value.string ⟨#[]⟩) Tryz.underlying55 hi hz0 .i64 .i64 N8 N8 (by omega) (Int.le_refl _) (by rw[hz2];omega) (by omega)
    rw[hz1,Int.toNat_natCast,Nat.mul_one] at h
    rw[←hZA,←qjRV]
    simpa [Value.cells] using h
  clear hi hz0 hz1 hz2
  have hxs8:∀x∈([(S7,3,le.map (Value.int .i64))]:List (Nat×TypeId×List Value)),x.1≠V8.heap.size:=fun x hx=>by have:=(HJ.out.ex x hx).lt;omega
  have ci:V8.cell? ⟨w.heap.size,6,none⟩=some (.slice none 0 0):=by rw[Lib.cell_of_heap HJ.out.box];rfl
  have fi:V8.frozen? ⟨w.heap.size,6,none⟩=false:=Lib.frozen_of_heap HJ.out.box _
  have hbl:w.heap.size<V8.heap.size:=HJ.out.box.lt
  have ci':(V8.alloc (.cells ZA 9)).cell? ⟨w.heap.size,6,none⟩=some (.slice none 0 0):=by rw[Lib.cell_of_heap (((qUNz V8 _).block _ HJ.out.box.lt).trans HJ.out.box)];rfl
  have fi':(V8.alloc (.cells ZA 9)).frozen? ⟨w.heap.size,6,none⟩=false:=Lib.frozen_of_heap (((qUNz V8 _).block _ HJ.out.box.lt).trans HJ.out.box) _
  replace HJ:=hide ((HJ.out.put 6 (.slice (some ⟨V8.heap.size,0,none⟩) N8 N8) rfl).alloc (List.replicate N8 (Value.string ⟨#[]⟩)) 9)
  rw[hZA,show (V8.setCell ⟨w.heap.size,6,none⟩ (.slice (some ⟨V8.heap.size,0,none⟩) N8 N8)).heap.size=V8.heap.size by simp[World.setCell]] at HJ
  clear hZA
  have hsep8:w.heap.size+2<V8.heap.size:=HJ.out.sep _ List.mem_cons_self
  go_upto_region 9 with fail
  clear ci fi ci' fi' hmk hbl
  generalize V8.heap.size=S8 at *
  generalize (V8.setCell ⟨w.heap.size,6,none⟩ (.slice (some ⟨S8,0,none⟩) N8 N8)).alloc (.cells ZA 9)=VF at *
  replace HJ:=hide (show FJ w [(S8,9,[].map strV++List.replicate (N8-0) (Value.string ⟨#[]⟩)),(S7,3,le.map (Value.int .i64))] l8 [.int .i64 rw,.int .i64 rh,.int .i64 rd,.int .i64 rk,.int .i64 rr,.slice (some ⟨S7,0,none⟩) N7 N7,.slice (some ⟨S8,0,none⟩) N8 N8,.int .i64 0,.int .i64 0,.int .i64 0,.int .i64 0,.int .i64 0,.int .i64 0,.slice none 0 0,.int .i64 0,.int .i64 0,.int .i64 0,.int .i64 0,.int .i64 0,.int .i64 0,.int .i64 0,.int .i64 0,.int .i64 0,.int .i64 0,.int .i64 0,.int .i64 0,.slice none 0 0,.int .i64 0] VF from HJ.out)
  have cj:VF.cell? ⟨w.heap.size,6,none⟩=some (.slice (some ⟨S8,0,none⟩) N8 N8):=by rw[Lib.cell_of_heap HJ.out.box];rfl
  go_wp2_with fail
  clear cj
  go_loopw [34] (fun i wr=>∃k:Nat,k≤N8∧i=.int .i64 k∧∃ns u,manyP textP k l8=some (ns,u)∧FJ w [(S8,9,ns.map strV++List.replicate (N8-k) (Value.string ⟨#[]⟩)),(S7,3,le.map (Value.int .i64))] u [.int .i64 rw,.int .i64 rh,.int .i64 rd,.int .i64 rk,.int .i64 rr,.slice (some ⟨S7,0,none⟩) N7 N7,.slice (some ⟨S8,0,none⟩) N8 N8,.int .i64 0,.int .i64 0,.int .i64 0,.int .i64 0,.int .i64 0,.int .i64 0,.slice none 0 0,.int .i64 0,.int .i64 0,.int .i64 0,.int .i64 0,.int .i64 0,.int .i64 0,.int .i64 0,.int .i64 0,.int .i64 0,.int .i64 0,.int .i64 0,.int .i64 0,.slice none 0 0,.int .i64 0] wr) (fun i _=>N8-(intOf i).toNat)
  case atStart=>exact ⟨0,Nat.zero_le _,rfl,[],l8,rfl,HJ.out⟩
  case round =>
    clear HJ
    obtain ⟨k,hk,rfl,ns,u,hm,hJ⟩:=hrel
    have HJ:=hide hJ
    clear hJ
    have hnl2:=jPlP hm
    have hul:=X8f4 (fun _ _ _=>Xz65) hm
    by_cases hlt:k<N8
    · have hd : decide ((k : Int) < (N8 : Int)) = true := by simp; omega
      have HM:=hide hm
      have HSQ:=hide (fun (v:World) (cs':List UInt8) (hv:FJ w [(S8,9,ns.map strV++List.replicate (N8-k) (Value.string ⟨#[]⟩)),(S7,3,le.map (Value.int .i64))] cs' [.int .i64 rw,.int .i64 rh,.int .i64 rd,.int .i64 rk,.int .i64 rr,.slice (some ⟨S7,0,none⟩) N7 N7,.slice (some ⟨S8,0,none⟩) N8 N8,.int .i64 0,.int .i64 0,.int .i64 0,.int .i64 0,.int .i64 0,.int .i64 0,.slice none 0 0,.int .i64 0,.int .i64 0,.int .i64 0,.int .i64 0,.int .i64 0,.int .i64 0,.int .i64 0,.int .i64 0,.int .i64 0,.int .i64 0,.int .i64 0,.int .i64 0,.slice none 0 0,.int .i64 0] v)=>show v.cell? ⟨w.heap.size,6,none⟩=some (.slice (some ⟨S8,0,none⟩) N8 N8)∧True from ⟨by rw[Lib.cell_of_heap hv.box];rfl,trivial⟩)
      clear hm
      go_upto_region 12 with fail
      have HJd:=hide HJ.out.drew
      have hSd:=HSQ.out _ _ HJd.out
      have hmx:Tryz.prog.follows .mixedOrders=true:=by kernel_rfl
      refine qYgd (S:=(fun v:World=>v.cell? ⟨w.heap.size,6,none⟩=some (.slice (some ⟨S8,0,none⟩) N8 N8)∧True)) (f:=6) hmx ?_
      show jZdv _ _ _ _ _ _ 7 _ _ wr.drew
      refine XmaW (i:=0) (oi:=_) (v:=?vv1) (some 37) [] rfl rfl (by kernel_rfl) (by kernel_rfl) (by kernel_rfl) (by kernel_rfl) (by kernel_rfl) (fun _ _ _ h=>jjeL (d:=37) (by decide) h) (Or.inl ⟨by rfl,?yy1⟩) hSd ?rr1
      case yy1=>(intro wq hSq;obtain ⟨_,_⟩:=hSq;go_simp<;>with_reducible rfl)
      simp only[Act.put,List.setIfInBounds_toArray,List.set_cons_succ,List.set_cons_zero]
      refine XmaW (i:=2) (oi:=_) (v:=?vv2) (some 39) [] rfl rfl (by kernel_rfl) (by kernel_rfl) (by kernel_rfl) (by kernel_rfl) (by kernel_rfl) (fun _ _ _ h=>jjeL (d:=39) (by decide) h) (Or.inl ⟨by rfl,?yy2⟩) hSd ?rr2
      case yy2=>(intro wq hSq;obtain ⟨_,_⟩:=hSq;go_simp<;>with_reducible rfl)
      simp only[Act.put,List.setIfInBounds_toArray,List.set_cons_succ,List.set_cons_zero]
      refine XmaW (i:=1) (oi:=_) (v:=?vv3) (some 38) [] rfl rfl (by kernel_rfl) (by kernel_rfl) (by kernel_rfl) (by kernel_rfl) (by kernel_rfl) (fun _ _ _ h=>jjeL (d:=38) (by decide) h) (Or.inl ⟨by rfl,?yy3⟩) hSd ?rr3
      case yy3=>(intro wq hSq;obtain ⟨_,_⟩:=hSq;go_simp<;>with_reducible rfl)
      simp only[Act.put,List.setIfInBounds_toArray,List.set_cons_succ,List.set_cons_zero]
      refine znWj (i:=3) (o:=_) (by kernel_rfl) rfl (fun K' hK=>?_)
      rw[if_pos (by rfl)]
      go_simp
      refine (q940 w.heap.size (w.heap.size+2) u wr.drew (by omega) HJd.out.bel.size HJd.out.rd (by omega)).mono ?_
      rintro e X1 ⟨hS,hc⟩
      rcases hc with ⟨tx,u1,hp,rfl,hR⟩|⟨hp,rfl⟩
      rotate_left
      · exact (fun q => XQWw q.1 q.2.1 rfl q.2.2 rfl rfl (fun W hW => ⟨hW, .inr ⟨by rw [HP.out, kq7, HLP.out, XLXy HM.out hp hlt], rfl⟩⟩)) (HJd.out.pan hS)
      have HP1:=hide hp
      have hu1:=Xz65 hp
      have htx:=jt6w hp
      have HJ1:=hide (HJd.out.num hS hR)
      clear hp hS hR
      have hSd:=HSQ.out _ _ HJ1.out
      refine hK.out _ _ hSd ?_
      clear hK
      try simp only[Act.put]
      refine znWj (i:=4) (o:=_) (by kernel_rfl) rfl (fun K' hK=>?_)
      rw[if_pos (by rfl)]
      go_simp
      refine (jQyx tx X1 (by omega)).mono ?_
      rintro e X2 ⟨rfl,hb2⟩
      have HJ2:=hide (HJ1.out.bel2 hb2)
      clear hb2
      have hcl:(ns.map strV++List.replicate (N8-k) (Value.string ⟨#[]⟩)).length=N8:=by rw[List.length_append,List.length_map,List.length_replicate,hnl2];omega
      have hH:=HJ2.out.ex (S8,9,ns.map strV++List.replicate (N8-k) (Value.string ⟨#[]⟩)) (by simp)
      obtain ⟨z0,c0⟩:∃z,X2.cell? ⟨S8,k,none⟩=some z:=⟨_,by rw[Lib.cell_of_heap hH,List.getElem?_toArray];exact List.getElem?_eq_getElem (by rw[hcl];omega)⟩
      have f0:X2.frozen? ⟨S8,k,none⟩=false:=Lib.frozen_of_heap hH _
      obtain ⟨hH3,hS3⟩:=hH.set (B:=w.heap.size) (b:=w.heap.size+2) (by omega) k (.string (str tx)) rfl
      have HJ3:=hide (HJ2.out.fillX hxs8 hS3 ((Below.heap_setCell _ _ _ _ (show w.heap.size+2≠S8 by omega)).trans HJ2.out.rd) hH3)
      clear hcl hH hH3 hS3
      have hSd:=HSQ.out _ _ HJ2.out
      refine hK.out _ _ hSd ?_
      clear hK
      try simp only[Act.put]
      refine XmaW (i:=5) (oi:=_) (v:=?vv4) (some 42) [] rfl rfl (by kernel_rfl) (by kernel_rfl) (by kernel_rfl) (by kernel_rfl) (by kernel_rfl) (fun _ _ _ h=>jjeL (d:=42) (by decide) h) (Or.inl ⟨by rfl,?yy4⟩) hSd ?rr4
      case yy4=>(intro wq hSq;obtain ⟨_,_⟩:=hSq;go_simp<;>with_reducible rfl)
      simp only[Act.put,List.setIfInBounds_toArray,List.set_cons_succ,List.set_cons_zero]
      refine z9gO (o:=_) (by kernel_rfl) rfl (fun K' hK=>?_)
      rw[if_pos (by rfl)]
      go_simp
      refine hK.out _ _ ?_
      clear hK
      refine jFdp (by kernel_rfl) ?_ _
      try simp only[Act.put]
      have HJ4:=hide (show FJ w [(S8,9,(ns++[tx]).map strV++List.replicate (N8-(k+1)) (Value.string ⟨#[]⟩)),(S7,3,le.map (Value.int .i64))] u1 [.int .i64 rw,.int .i64 rh,.int .i64 rd,.int .i64 rk,.int .i64 rr,.slice (some ⟨S7,0,none⟩) N7 N7,.slice (some ⟨S8,0,none⟩) N8 N8,.int .i64 0,.int .i64 0,.int .i64 0,.int .i64 0,.int .i64 0,.int .i64 0,.slice none 0 0,.int .i64 0,.int .i64 0,.int .i64 0,.int .i64 0,.int .i64 0,.int .i64 0,.int .i64 0,.int .i64 0,.int .i64 0,.int .i64 0,.int .i64 0,.int .i64 0,.slice none 0 0,.int .i64 0] _ from by
        have h:=HJ3.out
        rw[show N8-k=N8-(k+1)+1 by omega,←hnl2,qrn3,hnl2] at h
        exact h)
      have HM2:=hide (jvSA HM.out HP1.out)
      clear HJ3 HJ2 HJ1 HJd HJ hSd c0 f0 HSQ
      go_wp2
      go_roundw
      case rel=>exact ⟨k+1,hlt,by go_num,_,_,HM2.out,HJ4.out⟩
      case measure=>simp[intOf];omega
    · have hd : decide ((k : Int) < (N8 : Int)) = false := by simp; omega
      obtain rfl:N8=k:=by omega
      replace HP:=hide (show R=kq8 (fun _=>64) (fun _=>16) rw rh rd rk rr le ns u by rw[HP.out,kq7,HLP.out,hm])
      replace HJ:=hide (show FJ w [(S8,9,ns.map strV),(S7,3,le.map (Value.int .i64))] u [.int .i64 rw,.int .i64 rh,.int .i64 rd,.int .i64 rk,.int .i64 rr,.slice (some ⟨S7,0,none⟩) N7 N7,.slice (some ⟨S8,0,none⟩) N8 N8,.int .i64 0,.int .i64 0,.int .i64 0,.int .i64 0,.int .i64 0,.int .i64 0,.slice none 0 0,.int .i64 0,.int .i64 0,.int .i64 0,.int .i64 0,.int .i64 0,.int .i64 0,.int .i64 0,.int .i64 0,.int .i64 0,.int .i64 0,.int .i64 0,.int .i64 0,.slice none 0 0,.int .i64 0] wr by have h:=HJ.out;rwa [Nat.sub_self,List.replicate_zero,List.append_nil] at h)
      clear hm HLP
      go_wp2_with fail
      refine (jh1c w.heap.size (w.heap.size+2) u wr (by omega) HJ.out.rd (by omega)).mono ?_
      rintro e VG ⟨hS,hc⟩
      rcases hc with ⟨n,sv,cv,lG,hp,rfl,hR,hIP,hfs,hfc⟩|⟨hp,rfl⟩
      rotate_left
      · exact (fun q => XQWw q.1 q.2.1 rfl q.2.2 rfl rfl (fun W hW => ⟨hW, .inr ⟨by rw [HP.out, kq8, hp], rfl⟩⟩)) (HJ.out.pan hS)
      have hwz:w.heap.size+2<wr.heap.size:=(Array.getElem?_eq_some_iff.1 HJ.out.rd).1
      replace HP:=hide (show R=kq9 rw rh rd rk rr le ns n lG by rw[HP.out,kq8,hp])
      replace HJ:=hide (HJ.out.num hS hR)
      obtain ⟨CA,hCA⟩:∃CA:List Value,CA=[.int .i64 rw,.int .i64 rh,.int .i64 rd,.int .i64 rk,.int .i64 rr,.slice (some ⟨S7,0,none⟩) N7 N7,.slice (some ⟨S8,0,none⟩) N8 N8,.int .i64 0,.int .i64 0,.int .i64 0,.int .i64 0,.int .i64 0,.int .i64 0,.slice none 0 0,.int .i64 0,.int .i64 0,.int .i64 0,.int .i64 0,.int .i64 0,.int .i64 0,.int .i64 0,.int .i64 0,.int .i64 0,.int .i64 0,.int .i64 0,.int .i64 0,.slice none 0 0,.int .i64 0]:=⟨_,rfl⟩
      rw[←hCA] at HJ
      have hbx:=HJ.out.box
      have hca:7+(planA n sv cv).size=CA.toArray.size:=by rw[hCA];rfl
      have hct:(CA.toArray.toList.take 7++(planA n sv cv).toList).toArray=rawA (⟨rw,rh,rd,rk,rr,le,ns,n⟩:RawF) (.slice (some ⟨S7,0,none⟩) N7 N7) (.slice (some ⟨S8,0,none⟩) N8 N8) sv cv:=by rw[hCA];rfl
      obtain ⟨so,sc,hsv,_,_⟩:=hIP.spots
      obtain ⟨co,cc,hcv,_,_⟩:=hIP.curve
      have hpa:(planA n sv cv).all (·.oneCell')=true:=by rw[hsv,hcv];simp[Value.oneCell']
      have hpi:(Tryz.prog.info? 51).map (·.size)=some (planA n sv cv).size:=by kernel_rfl
      have HRO:=hide (show (rawA (⟨rw,rh,rd,rk,rr,le,ns,n⟩:RawF) (.slice (some ⟨S7,0,none⟩) N7 N7) (.slice (some ⟨S8,0,none⟩) N8 N8) sv cv).all (·.oneCell')=true by rw[hsv,hcv];simp[Value.oneCell'])
      have HIP:=hide hIP
      clear hp hS hR hCA hIP hsv hcv
      go_upto_region 15 with (refine zPEB rfl 51 _ _ rfl w.heap.size 7 (planA n sv cv) rfl rfl _ _ hbx hpi hca hpa ?_)
      rw[hct]
      replace HJ:=hide (HJ.out.plan (cs':=(rawA (⟨rw,rh,rd,rk,rr,le,ns,n⟩:RawF) (.slice (some ⟨S7,0,none⟩) N7 N7) (.slice (some ⟨S8,0,none⟩) N8 N8) sv cv).toList))
      rw[Array.toArray_toList] at HJ
      obtain ⟨RA,hRA⟩:∃RA,RA=rawA (⟨rw,rh,rd,rk,rr,le,ns,n⟩:RawF) (.slice (some ⟨S7,0,none⟩) N7 N7) (.slice (some ⟨S8,0,none⟩) N8 N8) sv cv:=⟨_,rfl⟩
      rw[←hRA] at HJ ⊢
      have HRA:=hide hRA
      clear hRA
      replace HIP:=hide (show X1uD (VG.setRow w.heap.size RA) n sv cv from ⟨HIP.out.spots.other (k:=w.heap.size) (by simp) (fun b hb=>setRow_other _ _ _ _ hb) (hfs.ne (by omega)),HIP.out.curve.other (k:=w.heap.size) (by simp) (fun b hb=>setRow_other _ _ _ _ hb) (hfc.ne (by omega))⟩)
      clear hct hbx hca hpa hpi
      generalize VG.setRow w.heap.size RA=VH at *
      have crd:VH.cell? ⟨w.heap.size+2,0,none⟩=some (.string (str lG)):=by rw[Lib.cell_of_heap HJ.out.rd];rfl
      by_cases hlg:lG=[]
      rotate_left
      · replace HP := hide (show R = none by rw [HP.out, kq9, if_neg hlg])
        have hq:((str lG).toList == [])=false:=by rw[Lib.toList_data,jrcE];exact beq_false_of_ne hlg
        have hq2:(str lG).toList.isEmpty=false:=by rw[Lib.toList_data,jrcE];simpa using hlg
        go_wp2_with fail
        refine (q2dr _).mono ?_
        rintro e V' ⟨rfl,rfl⟩
        exact XQWw HJ.out.bel HJ.out.box (by rw[HRA.out];rfl) HJ.out.okb rfl rfl (fun W hW=>⟨hW,.inr ⟨HP.out,rfl⟩⟩)
      replace HP:=hide (show R=some ⟨rw,rh,rd,rk,rr,le,ns,n⟩ by rw[HP.out,kq9,if_pos hlg])
      subst hlg
      have hq2:(str []).toList.isEmpty=true:=by rw[Lib.toList_data,jrcE];rfl
      go_wp2_with fail
      refine (qEMU _).mono ?_
      rintro e VI ⟨rfl,rfl⟩
      clear crd hq2
      subst hnl hnl2
      have hbx:VI.heap[w.heap.size]?=some (.cells RA 57 (0,0)):=by have:=HJ.out.box;unfold Holds at this;rwa [Array.toArray_toList] at this
      have hsz:(Tryz.prog.info? 57).map (·.size)=some RA.size:=by rw[HRA.out];kernel_rfl
      have hro:RA.all (·.oneCell')=true:=by rw[HRA.out];exact HRO.out
      have hx6:=HJ.out.ex (S7,3,le.map (Value.int .i64)) (by simp)
      have hx7:=HJ.out.ex (S8,9,ns.map strV) (by simp)
      have hs6:=HJ.out.sep (S7,3,le.map (Value.int .i64)) (by simp)
      have hs7:=HJ.out.sep (S8,9,ns.map strV) (by simp)
      simp only at hx6 hx7 hs6 hs7
      have hk0:(VI.setRow w.heap.size RA).heap[w.heap.size+1]?=some (.cells #[.bool false] 4 (0,0)):=(setRow_other _ _ _ _ (by omega)).trans HJ.out.okb
      have ck:(VI.setRow w.heap.size RA).cell? ⟨w.heap.size+1,0,none⟩=some (.bool false):=by rw[Lib.cell_of_heap hk0];rfl
      have fk:(VI.setRow w.heap.size RA).frozen? ⟨w.heap.size+1,0,none⟩=false:=Lib.frozen_of_heap hk0 0
      have HKK:=hide (show ((VI.setRow w.heap.size RA).setCell ⟨w.heap.size+1,0,none⟩ (.bool true)).heap[w.heap.size+1]?=some (.cells #[.bool true] 4 (0,0)) by simp[World.setCell,Array.getElem?_modify,hk0])
      have HRR:=hide (show ((VI.setRow w.heap.size RA).setCell ⟨w.heap.size+1,0,none⟩ (.bool true)).heap[w.heap.size]?=some (.cells RA 57 (0,0)) from (Below.heap_setCell _ _ _ _ (show w.heap.size≠w.heap.size+1 by omega)).trans (setRow_heap _ _ _ _ _ _ hbx))
      have HK:=hide (show ∀k,k≠w.heap.size→k≠w.heap.size+1→((VI.setRow w.heap.size RA).setCell ⟨w.heap.size+1,0,none⟩ (.bool true)).heap[k]?=VI.heap[k]? from fun k h1 h2=>(Below.heap_setCell _ _ _ _ (fun e=>h2 e)).trans (setRow_other _ _ _ _ h1))
      have HBF:=hide (show Below w.heap.size w ((VI.setRow w.heap.size RA).setCell ⟨w.heap.size+1,0,none⟩ (.bool true)) from (below_setRow HJ.out.bel (Nat.le_refl _) _).setCell (p:=⟨w.heap.size+1,0,none⟩) (Nat.le_succ _) _)
      have HSS:=hide (show VI.heap.size≤((VI.setRow w.heap.size RA).setCell ⟨w.heap.size+1,0,none⟩ (.bool true)).heap.size by simp[World.setCell])
      have HI6:=hide (qjcf (V:=(VI.setRow w.heap.size RA).setCell ⟨w.heap.size+1,0,none⟩ (.bool true)) (g:=S7) (t:=3) (xs:=le) ((HK.out S7 (by omega) (by omega)).trans hx6) (by omega))
      have HI7:=hide (jlEe (V:=(VI.setRow w.heap.size RA).setCell ⟨w.heap.size+1,0,none⟩ (.bool true)) (g:=S8) (t:=9) (ts:=ns) ((HK.out S8 (by omega) (by omega)).trans hx7) (by omega))
      have HIF:=hide (show X1uD ((VI.setRow w.heap.size RA).setCell ⟨w.heap.size+1,0,none⟩ (.bool true)) n sv cv from
        ⟨(HIP.out.spots.other (k:=w.heap.size) (w':=VI.setRow w.heap.size RA) (by simp) (fun b hb=>setRow_other _ _ _ _ hb) (hfs.ne (by omega))).other (k:=w.heap.size+1) (by simp[World.setCell]) (fun b hb=>Below.heap_setCell _ _ _ _ (fun e=>hb e)) (hfs.ne (by omega)),
         (HIP.out.curve.other (k:=w.heap.size) (w':=VI.setRow w.heap.size RA) (by simp) (fun b hb=>setRow_other _ _ _ _ hb) (hfc.ne (by omega))).other (k:=w.heap.size+1) (by simp[World.setCell]) (fun b hb=>Below.heap_setCell _ _ _ _ (fun e=>hb e)) (hfc.ne (by omega))⟩)
      have HFS:=hide (hfs.mono (show w.heap.size≤wr.heap.size by omega))
      have HFC:=hide (hfc.mono (show w.heap.size≤wr.heap.size by omega))
      clear hk0 hx6 hx7 HIP HJ hfs hfc HRO
      go_wp2_with (first|refine wpList_load_row rfl 57 _ rfl _ rfl _ _ _ _ hbx Tryz.underlying57 rfl hsz ?_|refine wpList_store_row rfl 57 _ _ rfl w.heap.size RA rfl rfl _ _ hbx hsz rfl hro ?_)
      refine X8n7 HRR.out hsz HKK.out rfl rfl ⟨HBF.out,.inl ⟨_,_,_,_,_,HP.out,by rw[HRA.out],⟨HI6.out,HI7.out,HIF.out⟩,⟨fun b e=>?_,Nat.le_refl _⟩,⟨fun b e=>?_,Nat.le_refl _⟩,HFS.out,HFC.out⟩⟩
      · simp [Value.ownBlock] at e; omega
      · simp [Value.ownBlock] at e; omega
end Go.Proofs.YtfjeonehdlphiaaGreatDoor

namespace Go.Proofs.YtfjeonehdlphiaaGreatDoor
set_option linter.unusedVariables false
open Go.RowKit
def rawRd (s:List UInt8):Option RawF:=match rawP (fun _=>17) (fun _=>64) (fun _=>64) (fun _=>16) s with
 | none=>none
 | some r=>if XDWf r=0 then some r else none
theorem zGcC.other {w w':World} {v:Value} {ts:List (List UInt8)} {k:Nat} (h:zGcC w v ts) (hs:w.heap.size≤w'.heap.size) (hk:∀b,b≠k→w'.heap[b]?=w.heap[b]?) (hne:v.ownBlock≠some k):zGcC w' v ts:=by
 obtain ⟨ao,cap,rfl,hl,h⟩:=h
 refine ⟨ao,cap,rfl,hl,?_⟩
 rcases h with h|⟨b,off,rfl,hlt,hc⟩
 ·exact .inl h
 ·have hb:b≠k:=fun e=>hne (by rw[e];rfl)
  refine .inr ⟨b,off,rfl,Nat.lt_of_lt_of_le hlt hs,fun j hj=>?_⟩
  rw[World.cell?_of_block (a:=⟨b,off+j,none⟩) (hk b hb)]
  exact hc j hj
theorem IsRaw.other {w w':World} {r:RawF} {lv tv sv cv:Value} {B k:Nat} (h:IsRaw w r lv tv sv cv) (hs:w.heap.size≤w'.heap.size) (hk:∀b,b≠k→w'.heap[b]?=w.heap[b]?) (hB:k<B) (f1:Fresh B lv) (f2:Fresh B tv) (f3:Fresh B sv) (f4:Fresh B cv):IsRaw w' r lv tv sv cv :=
 ⟨h.lens.other hs hk (f1.ne hB),h.strips.other hs hk (f2.ne hB),h.plan.spots.other hs hk (f3.ne hB),h.plan.curve.other hs hk (f4.ne hB)⟩
theorem XIRQ {w:World} {r:RawF} {lv tv sv cv:Value} (h:IsRaw w r lv tv sv cv):(rawA r lv tv sv cv).all (·.oneCell')=true:=by
 obtain ⟨_,_,e1,_⟩:=h.lens
 obtain ⟨_,_,e2,_⟩:=h.strips
 obtain ⟨_,_,e3,_⟩:=h.plan.spots
 obtain ⟨_,_,e4,_⟩:=h.plan.curve
 rw[e1,e2,e3,e4]
 simp[Value.oneCell']
theorem qjYq {fn:Func} (hfn:fn.results=#[.cell 2 57,.tmp 3]) (tmps:Array Value) (R:Nat) (cs:Array Value) (z:Value) (W:World) (h2:tmps.getD 2 undef=.pointer (some ⟨R,0,none⟩)) (h3:tmps.getD 3 undef=z)
  (hR:W.heap[R]?=some (.cells cs 57 (0,0))) (hs:(Tryz.prog.info? 57).map (·.size)=some cs.size) :
  (results fn tmps).run Tryz.prog W=.ok (.tuple #[.agg cs,z]) W:=by
 have hl:=run_loadVar_row (P:=Tryz.prog) W R 57 57 cs (0,0) _ hR Tryz.underlying57 rfl hs
 have h2':tmps[2]?.getD undef=.pointer (some ⟨R,0,none⟩):=by simpa using h2
 have h3':tmps[3]?.getD undef=z:=by simpa using h3
 simp[results,hfn,h2',h3',asAddr,hl]
theorem ztDq {P:Program} {ops:Array Oper} {rest:List Oper} {o:Oper} {a:Act} {w:World} {Q:Exit→Act→World→Prop} (hw:Region.wanted o (yielded ops a.tmps)=true) (ty:TypeId) (x:Operand) (ho:o.op=.load ty x)
  (g:Nat) (hx:a.eval x=.pointer (some ⟨g,0,none⟩)) (t:TypeId) (cs:Array Value) (fr:Nat×Nat) (d:TypeDesc) (hg:w.heap[g]?=some (.cells cs t fr))
  (hu:P.underlying ty=some d) (hd:(match d with | .struct _ | .array _ _=>true|_=>false)=true) (hi:(P.info? ty).map (·.size)=some cs.size)
  (h:wpList P ops Q rest (a.put o.dst (.agg cs)) w):wpList P ops Q (o::rest) a w:=by
 unfold wpList
 rw[if_pos hw]
 exact .inl (wp_load_row ty x ho g hx t cs fr d hg hu hd hi h)
set_option maxRecDepth 100000 in
set_option maxHeartbeats 3200000 in
theorem jR6l (s:List UInt8) (w:World) (hs:s.length≤140737488355328) :
  Calls Tryz.prog 47 #[.string (str s)] w fun e w'=>Below w.heap.size w w'∧((∃r lv tv sv cv,rawRd s=some r∧e=.returned (.tuple #[.agg (rawA r lv tv sv cv),.int .i64 0])∧IsRaw w' r lv tv sv cv∧Fresh w.heap.size lv∧Fresh w.heap.size tv∧Fresh w.heap.size sv∧Fresh w.heap.size cv)∨(rawRd s=none∧e=.returned (.tuple #[.agg rawZ,.int .i64 1]))):=by
 have HF:=hide (zhHE s (w.alloc (.cells rawZ 57)) hs)
 have a1:=al1 w (Obj.cells rawZ 57)
 have HB:=hide (qUNz w (Obj.cells rawZ 57))
 have hl1:=(Array.getElem?_eq_some_iff.1 a1).1
 have HR:=hide (show rawRd s=match rawP (fun _=>17) (fun _=>64) (fun _=>64) (fun _=>16) s with|none=>none|some r=>if XDWf r=0 then some r else none from rfl)
 generalize rawRd s=RR at *
 have iz:(Tryz.prog.info? 57).map (·.size)=some (rawZ:Array Value).size:=by kernel_rfl
 have oz:(rawZ:Array Value).all (·.oneCell')=true:=by simp[Value.oneCell']
 go_enter Tryz.func47,Tryz.ntmps47
 go_wp2_with fail
 generalize w.alloc (Obj.cells rawZ 57)=U at *
 refine (HF.out).mono ?_
 rintro e V1 ⟨hb1,hc⟩
 have HB1:=hide (quJN HB.out hb1)
 rcases hc with ⟨r,lv,tv,sv,cv,hp,rfl,hI,f1,f2,f3,f4⟩|⟨hp,rfl⟩
 ·have HO:=hide (XIRQ hI)
  have i1:(Tryz.prog.info? 57).map (·.size)=some (rawA r lv tv sv cv).size:=by kernel_rfl
  have HC:=hide (fun (u:World) (hu:Below V1.heap.size V1 u)=>j0f2 r lv tv sv cv u (hI.below hu (Nat.le_refl _)))
  replace HR:=hide (show RR=if XDWf r=0 then some r else none by rw[HR.out,hp])
  obtain ⟨RA,hRA⟩:∃RA,rawA r lv tv sv cv=RA:=⟨_,rfl⟩
  rw[hRA] at HC i1 HO ⊢
  have HRA:=hide hRA
  have z1:=al1 V1 (Obj.cells rawZ 57)
  have i2:(rawZ:Array Value).size=RA.size:=by rw[←hRA];rfl
  have c1:=setRow_heap _ _ _ RA _ _ z1
  have HBX:=hide (below_setRow (g:=V1.heap.size) (qUNz V1 (Obj.cells rawZ 57)) (Nat.le_refl _) RA)
  have hlx:=(Array.getElem?_eq_some_iff.1 c1).1
  have hos:=HO.out
  clear hRA hp
  go_upto_region 2 with (refine wpList_store_row rfl 57 _ _ rfl V1.heap.size RA rfl rfl _ _ z1 i1 i2 hos ?_)
  clear z1
  generalize (V1.alloc (Obj.cells rawZ 57)).setRow V1.heap.size RA=V2 at *
  go_wp2_with (refine ztDq (by rfl) 57 _ rfl _ rfl _ _ _ _ c1 Tryz.underlying57 rfl i1 ?_)
  refine (HC.out _ HBX.out).mono ?_
  rintro e V3 ⟨rfl,hb3⟩
  have g1:V3.heap[w.heap.size]?=some (.cells rawZ 57 (0,0)):=(((hb1.trans (HBX.out.mono hb1.size)).trans (hb3.mono (Nat.le_trans hb1.size HBX.out.size))).block _ hl1).trans a1
  have d1:=(hb3.block _ hlx).trans c1
  have HB3:=hide (quJN (quJN HB1.out HBX.out) hb3)
  have HI3:=hide (hI.below (quJN HBX.out hb3) (Nat.le_refl _))
  clear HC c1 hb3 hI
  by_cases hE:XDWf r=0
  ·rw[hE]
   rw[if_pos hE] at HR
   have HG:=hide (setRow_heap _ _ _ RA _ _ g1)
   have HBF:=hide (below_setRow (g:=w.heap.size) HB3.out (Nat.le_refl _) RA)
   have HIF:=hide (HI3.out.other (k:=w.heap.size) (w':=V3.setRow w.heap.size RA) (B:=U.heap.size) (by simp) (fun b hb=>setRow_other _ _ _ _ hb) hl1 f1 f2 f3 f4)
   have hw:w.heap.size≤U.heap.size:=by omega
   have HFR:=hide (show Fresh w.heap.size lv∧Fresh w.heap.size tv∧Fresh w.heap.size sv∧Fresh w.heap.size cv from ⟨f1.mono hw,f2.mono hw,f3.mono hw,f4.mono hw⟩)
   clear f1 f2 f3 f4
   go_wp2_with (first|refine wpList_load_row rfl 57 _ rfl _ rfl _ _ _ _ d1 Tryz.underlying57 rfl i1 ?_|refine wpList_store_row rfl 57 _ _ rfl w.heap.size RA rfl rfl _ _ g1 i1 i2 hos ?_)
   refine bodyPost_ret (v:=.tuple #[.agg RA,.int .i64 0]) (qjYq Tryz.results47 _ _ _ _ _ rfl rfl HG.out i1) rfl ⟨HBF.out,.inl ⟨r,lv,tv,sv,cv,HR.out,by rw[HRA.out],HIF.out,HFR.out⟩⟩
  ·have hn:(XDWf r != 0)=true:=by simpa using hE
   rw[if_neg hE] at HR
   have HG:=hide (setRow_heap _ _ _ rawZ _ _ g1)
   have HBF:=hide (below_setRow (g:=w.heap.size) HB3.out (Nat.le_refl _) rawZ)
   clear HI3 f1 f2 f3 f4
   go_wp2_with (refine wpList_store_row rfl 57 _ _ rfl w.heap.size rawZ rfl rfl _ _ g1 iz rfl oz ?_)
   refine bodyPost_ret (v:=.tuple #[.agg rawZ,.int .i64 1]) (qjYq Tryz.results47 _ _ _ _ _ rfl rfl HG.out iz) rfl ⟨HBF.out,.inr ⟨HR.out,rfl⟩⟩
 ·replace HR:=hide (show RR=none by rw[HR.out,hp])
  obtain ⟨ZR,hZR⟩:∃ZR:Array Value,rawZ=ZR:=⟨_,rfl⟩
  rw[show Ending.returned (.tuple #[.agg rawZ,.bool false])=Ending.returned (.tuple #[.agg ZR,.bool false]) by rw[hZR]]
  have z1:=al1 V1 (Obj.cells rawZ 57)
  have i1:(Tryz.prog.info? 57).map (·.size)=some ZR.size:=by rw[←hZR];exact iz
  have i2:(rawZ:Array Value).size=ZR.size:=by rw[←hZR]
  have hos:ZR.all (·.oneCell')=true:=by rw[←hZR];exact oz
  have HBX:=hide (below_setRow (g:=V1.heap.size) (qUNz V1 (Obj.cells rawZ 57)) (Nat.le_refl _) ZR)
  have g1:((V1.alloc (Obj.cells rawZ 57)).setRow V1.heap.size ZR).heap[w.heap.size]?=some (.cells rawZ 57 (0,0)):=((hb1.trans (HBX.out.mono hb1.size)).block _ hl1).trans a1
  have HB3:=hide (quJN HB1.out HBX.out)
  have HG:=hide (setRow_heap _ _ _ rawZ _ _ g1)
  have HBF:=hide (below_setRow (g:=w.heap.size) HB3.out (Nat.le_refl _) rawZ)
  clear hp hZR
  go_upto_region 3 with (refine wpList_store_row rfl 57 _ _ rfl V1.heap.size ZR rfl rfl _ _ z1 i1 i2 hos ?_)
  clear z1
  generalize (V1.alloc (Obj.cells rawZ 57)).setRow V1.heap.size ZR=V2 at *
  go_wp2_with (refine wpList_store_row rfl 57 _ _ rfl w.heap.size rawZ rfl rfl _ _ g1 iz rfl oz ?_)
  refine bodyPost_ret (v:=.tuple #[.agg rawZ,.int .i64 1]) (qjYq Tryz.results47 _ _ _ _ _ rfl rfl HG.out iz) rfl ⟨HBF.out,.inr ⟨HR.out,rfl⟩⟩
end Go.Proofs.YtfjeonehdlphiaaGreatDoor

namespace Go.Proofs.YtfjeonehdlphiaaGreatDoor
set_option linter.unusedVariables false
open Go.RowKit
def q74T (s:List UInt8):Prop:=∀(a b:Nat) (d:Bool) (L:List UInt8),¬Shot s a b d L
def RdOk (s:List UInt8) (B:Nat) (e:Ending) (w':World):Prop :=
 ∃(a b:Nat) (d:Bool) (L:List UInt8) (r:Value),Shot s a b d L∧e=.returned (.tuple #[.agg #[.int .i64 a,.int .i64 b,r],.bool d,.int .i64 0])∧IsPix w' r (pixOf d L (b*a))∧Fresh B r
theorem RdOk.mk {s:List UInt8} {B a b:Nat} {d:Bool} {L:List UInt8} {r:Value} {w':World} (h:Shot s a b d L) (hr:IsPix w' r (pixOf d L (b*a))) (hf:Fresh B r):RdOk s B (.returned (.tuple #[.agg #[.int .i64 a,.int .i64 b,r],.bool d,.int .i64 0])) w' :=
 ⟨a,b,d,L,r,h,rfl,hr,hf⟩
theorem qc07 (V:World) (t:TypeId) (f z:Value) (h1:f.oneCell'=true):(store ⟨V.heap.size,0,none⟩ f).run Tryz.prog (V.alloc (Obj.cells #[z] t))=.ok () ((V.alloc (Obj.cells #[z] t)).setRow V.heap.size #[f]):=by
 have hg:=al1 V (Obj.cells #[z] t)
 have hcell:(V.alloc (Obj.cells #[z] t)).cell? ⟨V.heap.size,0,none⟩=some z:=by rw[Lib.cell_of_heap hg];rfl
 have hfro:=Lib.frozen_of_heap hg 0
 rw[run_store Tryz.prog _ _ f _ h1,hcell]
 simp[hfro,setCell_eq_setRow _ V.heap.size 0 _ t (0,0) f hg]
theorem XGNF {s:List UInt8} (h:XUXS s):q74T s:=fun a b d L q=>h a b d L q.a1 q.a2 q.b1 q.b2 q.eq
theorem zWIK {s:List UInt8} {x y:Nat} {d:Bool} {L:List UInt8} (h2:x≤64) (h4:y≤64) (e:s=headT x y (hdM d)++L) (hne:L.length≠szP d*(3*x*y)):q74T s:=fun a b d' L' q=>by
 have e1:=ji4T (a:=a) (b:=b) (by have:=q.a2;omega) (by have:=q.b2;omega) d' L'
 have e2:=ji4T (a:=x) (b:=y) (by omega) (by omega) d L
 rw[←q.eq] at e1
 rw[←e,e1] at e2
 simp only[Prod.mk.injEq] at e2
 obtain ⟨x1,x2,x3⟩:=e2
 have ea:a=x:=by omega
 have eb:b=y:=by omega
 have ed:d'=d:=qxjb (by omega)
 subst ea eb ed
 have:=List.append_cancel_left (e.symm.trans q.eq)
 subst this
 exact hne q.len
set_option maxRecDepth 100000 in
set_option maxHeartbeats 6400000 in
theorem XcLf (s:List UInt8) (hs:s.length≤140737488355328) (w:World) (hp:PowAt w):Calls Tryz.prog 11 #[.string (str s)] w fun e w'=>Below w.heap.size w w' ∧
    (RdOk s w.heap.size e w' ∨
     (q74T s∧e=.returned (.tuple #[.agg #[.int .i64 0,.int .i64 0,.slice none 0 0],.bool false,.int .i64 1]))):=by
  have HH:=hide (fun (u:World) (hu:Below w.heap.size w u)=>q1HI s hs u (hp.below hu (Nat.le_refl _)))
  have a1:=al1 w (Obj.cells #[.int .i64 0,.int .i64 0,.slice none 0 0] 24)
  have HB:=hide (qUNz w (Obj.cells #[.int .i64 0,.int .i64 0,.slice none 0 0] 24))
  have hl1:=(Array.getElem?_eq_some_iff.1 a1).1
  clear hp
  go_enter Tryz.func11,Tryz.ntmps11
  go_wp2_with fail
  generalize w.alloc (Obj.cells #[.int .i64 0,.int .i64 0,.slice none 0 0] 24)=U at *
  refine (HH.out U HB.out).mono ?_
  clear HH
  rintro e V1 ⟨hb1,hc⟩
  have g1:=(hb1.block _ hl1).trans a1
  have HB1:=hide (quJN HB.out hb1)
  have HSZ:=hide (show w.heap.size<V1.heap.size from Nat.lt_of_lt_of_le hl1 hb1.size)
  clear hb1 a1 HB hl1
  rcases hc with ⟨x,y,d,L,rfl,h1,h2,h3,h4,heq⟩|⟨a,b,c,L,rfl,hno⟩
  rotate_left
  · obtain ⟨b1, b2⟩ := al2 V1 (Obj.cells #[.int .i64 a, .int .i64 b, .int .i64 c] 82) (Obj.cells #[.string (str L)] 9)
    have HB2:=hide (quJN HB1.out (be2 V1 (Obj.cells #[.int .i64 a,.int .i64 b,.int .i64 c] 82) (Obj.cells #[.string (str L)] 9)))
    have g2:=((be2 V1 (Obj.cells #[.int .i64 a,.int .i64 b,.int .i64 c] 82) (Obj.cells #[.string (str L)] 9)).block _ HSZ.out).trans g1
    have HNO:=hide (XGNF hno)
    clear hno b1 b2 g1
    go_wp2_with fail
    generalize (V1.alloc (Obj.cells #[.int .i64 a,.int .i64 b,.int .i64 c] 82)).alloc (Obj.cells #[.string (str L)] 9)=X at *
    go_quiet (fail)
    have HBQ:=hide (show Below w.heap.size w (X.drewN nq) from below_drewN HB2.out nq)
    have g3:(X.drewN nq).heap[w.heap.size]?=some (Obj.cells #[.int .i64 0,.int .i64 0,.slice none 0 0] 24 (0,0)):=g2
    generalize X.drewN nq=XQ at *
    obtain ⟨z0,z1,z2⟩:=z5EY g3
    have f0:=Lib.frozen_of_heap g3 0
    have f1:=Lib.frozen_of_heap g3 1
    have f2:=Lib.frozen_of_heap g3 2
    have HF:=hide (zHqh HBQ.out (Nat.le_refl _) (.int .i64 0) (.int .i64 0) (.slice none 0 0))
    go_wp2
    refine bodyPost_ret (v:=.tuple #[.agg #[.int .i64 0,.int .i64 0,.slice none 0 0],.bool false,.int .i64 1]) (by simp[results,Tryz.results11,go_sem,z0,z1,z2]) rfl ⟨HF.out,.inr ⟨HNO.out,rfl⟩⟩
  have hxy:x*y≤64*64:=Nat.mul_le_mul h2 h4
  have hN3:3*x*y≤12288:=by rw[Nat.mul_assoc];omega
  have hZ2:szP d≤2:=by unfold szP;cases d<;>decide
  have HNL:=hide (fun (hne:L.length≠szP d*(3*x*y))=>zWIK h2 h4 heq hne)
  have HYES:=hide (fun (hl:L.length=szP d*(3*x*y))=>(⟨h1,h2,h3,h4,heq,hl⟩:Shot s x y d L))
  have hZM:szP d*(3*x*y)≤24576:=Nat.le_trans (Nat.mul_le_mul hZ2 hN3) (by omega)
  have HSI:=hide (fun u=>qgJE x y d h2 h4 u)
  have HDP:=hide (fun u=>qulr x y (hdM d:Nat) u)
  have HDE:=hide (q517 d)
  have hLs:(str L).size=L.length:=qzX5 L
  have HPX:=hide (fun (j X Y Bh Bl Bg Bf:Nat) (u:World) hh hl hg hf (hj:Y*x+X=j) (hk:szP d*(3*j+2)+szP d≤L.length) (hL:L.length≤100000) (hj4:j≤4096)=>XI6E x y X Y j d L Bh Bl Bg Bf u hh hl hg hf hj hk hL hj4)
  have HPI:=hide (show ∀N,pixOf d L N=(List.range N).map (pxOf d L) from fun _=>rfl)
  clear heq
  generalize hC:((hdM d:Nat):Int)=C at *
  clear hC
  obtain ⟨b1,b2⟩:=al2 V1 (Obj.cells #[.int .i64 x,.int .i64 y,.int .i64 C] 82) (Obj.cells #[.string (str L)] 9)
  have HB2:=hide (be2 V1 (Obj.cells #[.int .i64 x,.int .i64 y,.int .i64 C] 82) (Obj.cells #[.string (str L)] 9))
  go_upto_region 2 with fail
  generalize (V1.alloc (Obj.cells #[.int .i64 x,.int .i64 y,.int .i64 C] 82)).alloc (Obj.cells #[.string (str L)] 9)=X at *
  have l1:=(Array.getElem?_eq_some_iff.1 b1).1
  have l2:=(Array.getElem?_eq_some_iff.1 b2).1
  have HS:=hide (show ∀v,Below X.heap.size X v→(fun v=>Below X.heap.size X v∧v.cell? ⟨V1.heap.size+1,0,none⟩=some (.string (str L))∧v.cell? ⟨V1.heap.size,0,none⟩=some (.int .i64 x)∧v.cell? ⟨V1.heap.size,1,none⟩=some (.int .i64 y)∧v.cell? ⟨V1.heap.size,2,none⟩=some (.int .i64 C)) v from fun v hv=>by
    obtain ⟨q0,q1,q2⟩:=z5EY ((hv.block _ l1).trans b1)
    exact ⟨hv,by rw[Lib.cell_of_heap ((hv.block _ l2).trans b2)];rfl,q0,q1,q2⟩)
  have hSd:(fun v=>Below X.heap.size X v∧v.cell? ⟨V1.heap.size+1,0,none⟩=some (.string (str L))∧v.cell? ⟨V1.heap.size,0,none⟩=some (.int .i64 x)∧v.cell? ⟨V1.heap.size,1,none⟩=some (.int .i64 y)∧v.cell? ⟨V1.heap.size,2,none⟩=some (.int .i64 C)) X.drew:=HS.out _ (jom3 X)
  obtain ⟨Z,hZ⟩:∃Z:Nat,szP d*(3*x*y)=Z:=⟨_,rfl⟩
  rw[hZ] at HNL HYES hZM HSI
  have HZ:=hide hZ
  clear hZ
  obtain ⟨SL,hSL⟩:∃SL,str L=SL:=⟨_,rfl⟩
  have HSL:=hide hSL
  by_cases hne:L.length=Z
  rotate_left
  · have hnb : ((SL.size : Int) != (Z : Int)) = true := by rw [← hSL, hLs]; simp; omega
    have hnb2:(SL.size != Z)=true:=by rw[←hSL,hLs];simpa using hne
    have HNO:=hide (HNL.out hne)
    rw[hSL] at hSd HS ⊢
    clear hSL hne hLs
    have hmx:Tryz.prog.follows .mixedOrders=true:=by kernel_rfl
    refine qYgd (S:=(fun v=>Below X.heap.size X v∧v.cell? ⟨V1.heap.size+1,0,none⟩=some (.string SL)∧v.cell? ⟨V1.heap.size,0,none⟩=some (.int .i64 x)∧v.cell? ⟨V1.heap.size,1,none⟩=some (.int .i64 y)∧v.cell? ⟨V1.heap.size,2,none⟩=some (.int .i64 C))) (f:=8) hmx ?_
    show jZdv _ _ _ _ _ _ 9 _ _ X.drew
    refine takeQ 0 ?vv31 (some 16) [2,1] ?yy31 hSd ?rr31
    case yy31=>(intro wq hSq;obtain ⟨_,_,_,_,_⟩:=hSq;go_simp<;>with_reducible rfl)
    simp only[Act.put,List.setIfInBounds_toArray,List.set_cons_succ,List.set_cons_zero]
    refine takeQ 1 ?vv32 (some 17) [2] ?yy32 hSd ?rr32
    case yy32=>(intro wq hSq;obtain ⟨_,_,_,_,_⟩:=hSq;go_simp<;>with_reducible rfl)
    simp only[Act.put,List.setIfInBounds_toArray,List.set_cons_succ,List.set_cons_zero]
    refine takeQ 2 ?vv33 (some 18) [] ?yy33 hSd ?rr33
    case yy33=>(intro wq hSq;obtain ⟨_,_,_,_,_⟩:=hSq;go_simp<;>with_reducible rfl)
    simp only[Act.put,List.setIfInBounds_toArray,List.set_cons_succ,List.set_cons_zero]
    refine takeQ 3 ?vv34 (some 19) [7,4] ?yy34 hSd ?rr34
    case yy34=>(intro wq hSq;obtain ⟨_,_,_,_,_⟩:=hSq;go_simp<;>with_reducible rfl)
    simp only[Act.put,List.setIfInBounds_toArray,List.set_cons_succ,List.set_cons_zero]
    refine takeQ 5 ?vv35 (some 21) [7,6] ?yy35 hSd ?rr35
    case yy35=>(intro wq hSq;obtain ⟨_,_,_,_,_⟩:=hSq;go_simp<;>with_reducible rfl)
    simp only[Act.put,List.setIfInBounds_toArray,List.set_cons_succ,List.set_cons_zero]
    refine takeQ 4 ?vv36 (some 20) [7] ?yy36 hSd ?rr36
    case yy36=>(intro wq hSq;obtain ⟨_,_,_,_,_⟩:=hSq;go_simp<;>with_reducible rfl)
    simp only[Act.put,List.setIfInBounds_toArray,List.set_cons_succ,List.set_cons_zero]
    refine znWj (i:=6) (o:=_) (by kernel_rfl) rfl (fun K' hK=>?_)
    rw[if_pos (by rfl)]
    go_simp
    refine (HSI.out _).mono ?_
    rintro e V2 ⟨rfl,hb2⟩
    have hSd:=HS.out _ (quJN hSd.1 hb2)
    refine hK.out _ _ hSd ?_
    clear hK
    try simp only[Act.put]
    refine takeQ 7 ?vv37 (some 23) [] ?yy37 hSd ?rr37
    case yy37=>(intro wq hSq;obtain ⟨_,_,_,_,_⟩:=hSq;go_simp<;>with_reducible rfl)
    simp only[Act.put,List.setIfInBounds_toArray,List.set_cons_succ,List.set_cons_zero]
    refine z9gO (o:=_) (by kernel_rfl) rfl (fun K' hK=>?_)
    rw[if_pos (by rfl)]
    go_simp
    refine hK.out _ _ ?_
    clear hK
    refine jFdp (by kernel_rfl) ?_ _
    try simp only[Act.put]
    have hB3:=hSd.1
    have g3:=(hB3.block _ (Nat.lt_of_lt_of_le HSZ.out (HB2.out.size))).trans ((HB2.out.block _ HSZ.out).trans g1)
    have HBW:=hide (quJN (quJN HB1.out HB2.out) hB3)
    clear hSd hB3 hb2
    obtain ⟨z0,z1,z2⟩:=z5EY g3
    have f0:=Lib.frozen_of_heap g3 0
    have f1:=Lib.frozen_of_heap g3 1
    have f2:=Lib.frozen_of_heap g3 2
    have HF:=hide (zHqh HBW.out (Nat.le_refl _) (.int .i64 0) (.int .i64 0) (.slice none 0 0))
    go_wp2
    refine bodyPost_ret (v:=.tuple #[.agg #[.int .i64 0,.int .i64 0,.slice none 0 0],.bool false,.int .i64 1]) (by simp[results,Tryz.results11,go_sem,z0,z1,z2]) rfl ⟨HF.out,.inr ⟨HNO.out,rfl⟩⟩
  have hnb:((SL.size:Int) != (Z:Int))=false:=by rw[←hSL,hLs];simp;omega
  have hnb2:(SL.size != Z)=false:=by rw[←hSL,hLs];simpa using hne
  have HLZ:=hide hne
  rw[hSL] at hSd HS ⊢
  clear hSL hne hLs
  have hmx:Tryz.prog.follows .mixedOrders=true:=by kernel_rfl
  refine qYgd (S:=(fun v=>Below X.heap.size X v∧v.cell? ⟨V1.heap.size+1,0,none⟩=some (.string SL)∧v.cell? ⟨V1.heap.size,0,none⟩=some (.int .i64 x)∧v.cell? ⟨V1.heap.size,1,none⟩=some (.int .i64 y)∧v.cell? ⟨V1.heap.size,2,none⟩=some (.int .i64 C))) (f:=8) hmx ?_
  show jZdv _ _ _ _ _ _ 9 _ _ X.drew
  refine takeQ 0 ?vv68 (some 16) [2,1] ?yy68 hSd ?rr68
  case yy68=>(intro wq hSq;obtain ⟨_,_,_,_,_⟩:=hSq;go_simp<;>with_reducible rfl)
  simp only[Act.put,List.setIfInBounds_toArray,List.set_cons_succ,List.set_cons_zero]
  refine takeQ 1 ?vv69 (some 17) [2] ?yy69 hSd ?rr69
  case yy69=>(intro wq hSq;obtain ⟨_,_,_,_,_⟩:=hSq;go_simp<;>with_reducible rfl)
  simp only[Act.put,List.setIfInBounds_toArray,List.set_cons_succ,List.set_cons_zero]
  refine takeQ 2 ?vv70 (some 18) [] ?yy70 hSd ?rr70
  case yy70=>(intro wq hSq;obtain ⟨_,_,_,_,_⟩:=hSq;go_simp<;>with_reducible rfl)
  simp only[Act.put,List.setIfInBounds_toArray,List.set_cons_succ,List.set_cons_zero]
  refine takeQ 3 ?vv71 (some 19) [7,4] ?yy71 hSd ?rr71
  case yy71=>(intro wq hSq;obtain ⟨_,_,_,_,_⟩:=hSq;go_simp<;>with_reducible rfl)
  simp only[Act.put,List.setIfInBounds_toArray,List.set_cons_succ,List.set_cons_zero]
  refine takeQ 5 ?vv72 (some 21) [7,6] ?yy72 hSd ?rr72
  case yy72=>(intro wq hSq;obtain ⟨_,_,_,_,_⟩:=hSq;go_simp<;>with_reducible rfl)
  simp only[Act.put,List.setIfInBounds_toArray,List.set_cons_succ,List.set_cons_zero]
  refine takeQ 4 ?vv73 (some 20) [7] ?yy73 hSd ?rr73
  case yy73=>(intro wq hSq;obtain ⟨_,_,_,_,_⟩:=hSq;go_simp<;>with_reducible rfl)
  simp only[Act.put,List.setIfInBounds_toArray,List.set_cons_succ,List.set_cons_zero]
  refine znWj (i:=6) (o:=_) (by kernel_rfl) rfl (fun K' hK=>?_)
  rw[if_pos (by rfl)]
  go_simp
  refine (HSI.out _).mono ?_
  rintro e V2 ⟨rfl,hb2⟩
  have hSd:=HS.out _ (quJN hSd.1 hb2)
  refine hK.out _ _ hSd ?_
  clear hK
  try simp only[Act.put]
  refine takeQ 7 ?vv74 (some 23) [] ?yy74 hSd ?rr74
  case yy74=>(intro wq hSq;obtain ⟨_,_,_,_,_⟩:=hSq;go_simp<;>with_reducible rfl)
  simp only[Act.put,List.setIfInBounds_toArray,List.set_cons_succ,List.set_cons_zero]
  refine z9gO (o:=_) (by kernel_rfl) rfl (fun K' hK=>?_)
  rw[if_pos (by rfl)]
  go_simp
  refine hK.out _ _ ?_
  clear hK
  refine jFdp (by kernel_rfl) ?_ _
  try simp only[Act.put]
  have hB3:=hSd.1
  obtain ⟨_,_,q0,q1,q2⟩:=hSd
  have lB2:=HB2.out.size
  have g3:=(hB3.block _ (Nat.lt_of_lt_of_le HSZ.out lB2)).trans ((HB2.out.block _ HSZ.out).trans g1)
  have k1:=(hB3.block _ l1).trans b1
  have k2:=(hB3.block _ l2).trans b2
  have HBW:=hide (quJN (quJN HB1.out HB2.out) hB3)
  have hsz2:=hB3.size
  clear hB3 hb2 HS b1 b2 g1
  have hst:=qc07 V2 93 (.func (.func 38) #[] #[.pointer (some ⟨V1.heap.size,0,none⟩),.pointer (some ⟨V1.heap.size+1,0,none⟩)]) .nilFunc rfl
  have e1:=setRow_heap _ _ _ #[(.func (.func 38) #[] #[.pointer (some ⟨V1.heap.size,0,none⟩),.pointer (some ⟨V1.heap.size+1,0,none⟩)])] _ _ (al1 V2 (Obj.cells #[.nilFunc] 93))
  have hbf:=below_setRow (g:=V2.heap.size) (qUNz V2 (Obj.cells #[.nilFunc] 93)) (Nat.le_refl _) #[(.func (.func 38) #[] #[.pointer (some ⟨V1.heap.size,0,none⟩),.pointer (some ⟨V1.heap.size+1,0,none⟩)])]
  have lk1:=(Array.getElem?_eq_some_iff.1 k1).1
  have lk2:=(Array.getElem?_eq_some_iff.1 k2).1
  have lg3:=(Array.getElem?_eq_some_iff.1 g3).1
  replace k1:=(hbf.block _ lk1).trans k1
  replace k2:=(hbf.block _ lk2).trans k2
  replace g3:=(hbf.block _ lg3).trans g3
  replace HBW:=hide (quJN HBW.out hbf)
  go_upto_region 5 with fail
  clear hst
  generalize (V2.alloc (Obj.cells #[.nilFunc] 93)).setRow V2.heap.size #[(.func (.func 38) #[] #[.pointer (some ⟨V1.heap.size,0,none⟩),.pointer (some ⟨V1.heap.size+1,0,none⟩)])]=XF at *
  generalize V2.heap.size=FB at *
  have le1:=(Array.getElem?_eq_some_iff.1 e1).1
  obtain ⟨n0,n1,n2⟩:=z5EY k1
  have y1:=al1 XF (Obj.cells #[.int .i64 x,.int .i64 y] 95)
  have hbg:=qUNz XF (Obj.cells #[.int .i64 x,.int .i64 y] 95)
  replace lk1:=(Array.getElem?_eq_some_iff.1 k1).1
  replace lk2:=(Array.getElem?_eq_some_iff.1 k2).1
  replace lg3:=(Array.getElem?_eq_some_iff.1 g3).1
  have hn1:XF.heap.size≠w.heap.size:=by omega
  replace k1:=(hbg.block _ lk1).trans k1
  replace k2:=(hbg.block _ lk2).trans k2
  replace g3:=(hbg.block _ lg3).trans g3
  replace e1:=(hbg.block _ le1).trans e1
  replace HBW:=hide (quJN HBW.out hbg)
  clear hbf q0 q1 q2 hbg
  go_upto_region 6 with fail
  clear n0 n1 n2
  generalize XF.alloc (Obj.cells #[.int .i64 x,.int .i64 y] 95)=Y at *
  replace lk1:=(Array.getElem?_eq_some_iff.1 k1).1
  replace lk2:=(Array.getElem?_eq_some_iff.1 k2).1
  replace lg3:=(Array.getElem?_eq_some_iff.1 g3).1
  replace le1:=(Array.getElem?_eq_some_iff.1 e1).1
  have ly1:=(Array.getElem?_eq_some_iff.1 y1).1
  have HS:=hide (show ∀v,Below Y.heap.size Y v→(fun v=>v.heap[XF.heap.size]?=some (.cells #[.int .i64 x,.int .i64 y] 95 (0,0))∧v.heap[V1.heap.size]?=some (.cells #[.int .i64 x,.int .i64 y,.int .i64 C] 82 (0,0))) v from fun v hv=>⟨(hv.block _ ly1).trans y1,(hv.block _ lk1).trans k1⟩)
  have hSd:(fun v=>v.heap[XF.heap.size]?=some (.cells #[.int .i64 x,.int .i64 y] 95 (0,0))∧v.heap[V1.heap.size]?=some (.cells #[.int .i64 x,.int .i64 y,.int .i64 C] 82 (0,0))) Y.drew:=HS.out _ (jom3 Y)
  have hn2:V1.heap.size≠w.heap.size:=by have:=HSZ.out;omega
  have HGP:=hide (fun (V:World) (hV:Below Y.heap.size Y V)=>XMhx x y (y*x) h2 h4 rfl 41 #[.pointer (some ⟨XF.heap.size,0,none⟩),.pointer (some ⟨FB,0,none⟩)] (pxOf d L) V (enters_of Tryz.func41 (by kernel_rfl) rfl) (fun j V' hj hV'=>by
    have hv:=quJN hV hV'
    have r1:=(hv.block _ lk1).trans k1
    have r2:=(hv.block _ lk2).trans k2
    have r3:=(hv.block _ ly1).trans y1
    have r4:=(hv.block _ le1).trans e1
    have hjx:j / x*x+j % x=j:=by rw[Nat.mul_comm];exact Nat.div_add_mod j x
    have hj4:j<4096:=by have:=Nat.mul_comm y x;omega
    have hlen:szP d*(3*j+2)+szP d≤L.length:=by
      rw[HLZ.out,←HZ.out,show 3*x*y=3*(y*x) by rw[Nat.mul_assoc,Nat.mul_comm x y]]
      have:szP d*(3*j+2)+szP d=szP d*(3*j+3):=by rw[←Nat.mul_succ]
      rw[this]
      exact Nat.mul_le_mul_left _ (by omega)
    exact HPX.out j (j % x) (j / x) V1.heap.size (V1.heap.size+1) XF.heap.size FB V' r1 r2 r3 r4 hjx hlen (by rw[HLZ.out];omega) (by omega)))
  rw[←HPI.out] at HGP
  have hmx:Tryz.prog.follows .mixedOrders=true:=by kernel_rfl
  refine qYgd (S:=(fun v=>v.heap[XF.heap.size]?=some (.cells #[.int .i64 x,.int .i64 y] 95 (0,0))∧v.heap[V1.heap.size]?=some (.cells #[.int .i64 x,.int .i64 y,.int .i64 C] 82 (0,0)))) (f:=7) hmx ?_
  show jZdv _ _ _ _ _ _ 8 _ _ Y.drew
  refine takeQ 0 ?vv75 (some 32) [] ?yy75 hSd ?rr75
  case yy75=>(intro wq hSq;obtain ⟨hq1,hq2⟩:=hSq;obtain ⟨q0,q1⟩:=bx2 hq1;obtain ⟨r0,r1,r2⟩:=z5EY hq2;go_simp<;>with_reducible rfl)
  simp only[Act.put,List.setIfInBounds_toArray,List.set_cons_succ,List.set_cons_zero]
  refine takeQ 1 ?vv76 (some 33) [] ?yy76 hSd ?rr76
  case yy76=>(intro wq hSq;obtain ⟨hq1,hq2⟩:=hSq;obtain ⟨q0,q1⟩:=bx2 hq1;obtain ⟨r0,r1,r2⟩:=z5EY hq2;go_simp<;>with_reducible rfl)
  simp only[Act.put,List.setIfInBounds_toArray,List.set_cons_succ,List.set_cons_zero]
  refine takeQ 3 ?vv77 (some 35) [] ?yy77 hSd ?rr77
  case yy77=>(intro wq hSq;obtain ⟨hq1,hq2⟩:=hSq;obtain ⟨q0,q1⟩:=bx2 hq1;obtain ⟨r0,r1,r2⟩:=z5EY hq2;go_simp<;>with_reducible rfl)
  simp only[Act.put,List.setIfInBounds_toArray,List.set_cons_succ,List.set_cons_zero]
  refine znWj (i:=2) (o:=_) (by kernel_rfl) rfl (fun K' hK=>?_)
  rw[if_pos (by rfl)]
  go_simp
  refine (HGP.out _ (jom3 Y)).mono ?_
  rintro e W1 ⟨r,rfl,hr,hbv,hfr⟩
  have HR:=hide hr
  obtain ⟨ro,rc,rfl,x1,x2⟩:=hr
  clear x1 x2
  rw[XxVr] at HR hfr ⊢
  have hW1:=quJN (jom3 Y) hbv
  have hSd:=HS.out _ hW1
  refine hK.out _ _ hSd ?_
  clear hK
  try simp only[Act.put]
  refine znWj (i:=4) (o:=_) (by kernel_rfl) rfl (fun K' hK=>?_)
  rw[if_pos (by rfl)]
  go_simp
  refine (HDP.out _).mono ?_
  rintro e W2 ⟨rfl,hb9⟩
  have hW2:=quJN hW1 hb9
  have HR2:=hide (HR.out.below hb9 (Nat.le_refl _))
  have hSd:=HS.out _ hW2
  refine hK.out _ _ hSd ?_
  clear hK
  try simp only[Act.put]
  refine znWj (i:=5) (o:=_) (by kernel_rfl) rfl (fun K' hK=>?_)
  have hz:=(hW2.block _ lg3).trans g3
  obtain ⟨z0,z1,z2⟩:=z5EY hz
  have f0:=Lib.frozen_of_heap hz 0
  have f1:=Lib.frozen_of_heap hz 1
  have f2:=Lib.frozen_of_heap hz 2
  have HF:=hide (zHqh (quJN HBW.out hW2) (Nat.le_refl _) (.int .i64 x) (.int .i64 y) (.slice ro (y*x) rc))
  have HRF:=hide (HR2.out.set3 hfr (show w.heap.size<Y.drew.heap.size from lg3) (.int .i64 x) (.int .i64 y) (.slice ro (y*x) rc))
  rw[if_pos (by rfl)]
  go_simp
  have hSd:=(show (fun (v:World)=>v.heap[XF.heap.size]?=some (.cells #[.int .i64 x,.int .i64 y] 95 (0,0))∧v.heap[V1.heap.size]?=some (.cells #[.int .i64 x,.int .i64 y,.int .i64 C] 82 (0,0))) (((W2.setCell ⟨w.heap.size,0,none⟩ (.int .i64 x)).setCell ⟨w.heap.size,1,none⟩ (.int .i64 y)).setCell ⟨w.heap.size,2,none⟩ (.slice ro (y*x) rc)) from ⟨(jZhz _ _ _ _ _ _ hn1).trans hSd.1,(jZhz _ _ _ _ _ _ hn2).trans hSd.2⟩)
  refine hK.out _ _ hSd ?_
  clear hK
  try simp only[Act.put]
  refine znWj (i:=6) (o:=_) (by kernel_rfl) rfl (fun K' hK=>?_)
  rw[if_pos (by rfl)]
  go_simp
  have hSd:=hSd
  refine hK.out _ _ hSd ?_
  clear hK
  try simp only[Act.put]
  refine z9gO (o:=_) (by kernel_rfl) rfl (fun K' hK=>?_)
  rw[if_pos (by rfl)]
  go_simp
  refine hK.out _ _ ?_
  clear hK
  refine jFdp (by kernel_rfl) ?_ _
  try simp only[Act.put]
  go_wp2
  refine bodyPost_ret (v:=.tuple #[.agg #[.int .i64 x,.int .i64 y,.slice ro (y*x) rc],.bool d,.int .i64 0]) (by simp[results,Tryz.results11,go_sem,z0,z1,z2,HDE.out]) rfl ⟨HF.out,.inl (RdOk.mk (HYES.out HLZ.out) HRF.out (hfr.mono (Nat.le_of_lt lg3)))⟩
end Go.Proofs.YtfjeonehdlphiaaGreatDoor

namespace Go.Proofs.YtfjeonehdlphiaaGreatDoor
set_option linter.unusedVariables false
theorem X9iy {W H:Int} {ps:List Px} (h:picOk W H ps=true):ps.length=W.toNat*H.toNat∧1≤W.toNat∧W.toNat≤64∧1≤H.toNat∧H.toNat≤64∧0≤W∧0≤H:=by
 obtain ⟨⟨a1,a2⟩,⟨b1,b2⟩,hl,_⟩:=XMjn h
 obtain ⟨WN,rfl⟩:=Int.eq_ofNat_of_zero_le (show 0≤W by omega)
 obtain ⟨HN,rfl⟩:=Int.eq_ofNat_of_zero_le (show 0≤H by omega)
 have h2:(ps.length:Int)=((WN*HN:Nat):Int):=by rw[hl];simp
 exact ⟨by simp only[Int.toNat_natCast];omega,by omega,by omega,by omega,by omega,by omega,by omega⟩
theorem zbk9 {W H:Int} {ps:List Px} (d:Bool) (h:picOk W H ps=true):Shot (shotB W H ps d) W.toNat H.toNat d (pixB d ps):=by
 obtain ⟨hl,h1,h2,h3,h4,_⟩:=X9iy h
 exact ⟨h1,h2,h3,h4,rfl,by rw[XF45,hl,Nat.mul_assoc]⟩
theorem XB1u {W H:Int} {ps:List Px} (d:Bool) (h:picOk W H ps=true):(shotB W H ps d).length≤140737488355328:=by
 obtain ⟨hl,h1,h2,h3,h4,_⟩:=X9iy h
 have e1:(headT W.toNat H.toNat (hdM d)).length≤40:=zAed (a:=W.toNat) (b:=H.toNat) (c:=hdM d) (by omega) (by omega) (by cases d<;>decide) 3 (by omega)
 have e2:W.toNat*H.toNat≤64*64:=Nat.mul_le_mul h2 h4
 have e3:szP d≤2:=by unfold szP;cases d<;>decide
 have e4:szP d*(3*ps.length)≤2*12288:=Nat.mul_le_mul e3 (by omega)
 rw[shotB,List.length_append,XF45]
 omega
theorem qrgi {W H:Int} {ps:List Px} (h:picOk W H ps=true):∀p∈ps,inP p.1∧inP p.2.1∧inP p.2.2:=by
 obtain ⟨_,_,_,hp⟩:=XMjn h
 exact fun p hq=>Xb2u (List.all_eq_true.1 hp p hq)
theorem X0Ld {W H:Int} {ps:List Px} (h:picOk W H ps=true) {a b:Nat} {d:Bool} {L:List UInt8} (q:Shot (shotB W H ps true) a b d L):(a:Int)=W∧(b:Int)=H∧d=true∧pixOf d L (b*a)=ps:=by
 obtain ⟨rfl,rfl,rfl,rfl⟩:=q.one (zbk9 true h)
 obtain ⟨hl,h1,h2,h3,h4,h5,h6⟩:=X9iy h
 refine ⟨by omega,by omega,rfl,?_⟩
 rw[Nat.mul_comm,←hl]
 exact zwUh ps (qrgi h)
theorem jgeb {s:List UInt8} {a b:Nat} {d:Bool} {L:List UInt8} (q:Shot s a b d L):picOk a b (pixOf d L (b*a))=true:=by
 have h1:=q.a1;have h2:=q.a2;have h3:=q.b1;have h4:=q.b2
 unfold picOk jcbm jbTy pxsOk
 rw[XxVr]
 simp only[Bool.and_eq_true,decide_eq_true_eq,List.all_eq_true]
 refine ⟨⟨⟨?_,?_⟩,?_⟩,fun p hp=>?_⟩
 ·omega
 ·omega
 ·rw[Nat.mul_comm];simp
 ·obtain ⟨k1,k2,k3⟩:=qMBY d L (b*a) p hp
  unfold inP at k1 k2 k3
  unfold pxOk allIn
  simp only[List.all_cons,List.all_nil,Bool.and_true,Bool.and_eq_true,decide_eq_true_eq]
  omega
end Go.Proofs.YtfjeonehdlphiaaGreatDoor

namespace Go.Proofs.YtfjeonehdlphiaaGreatDoor
open Go.RowKit
theorem qXaV {P:Program} {id l n f:Nat} {ops:Array Oper} {S:World→Prop} {Q:Exit→Act→World→Prop} {a:Act} {w:World} (hm:P.follows .mixedOrders=true) (hd:jj84 ops) (hno:¬LetsOut Q)
  (h:jZdv P .any ops Q S f ops.size (Array.replicate ops.size false) a { w with drawn:=w.drawn+1 }):(Code.region id ops true).wpIn (Fence.wide.inRound l) n P Q a w :=
 wpIn_region_any hm (qklz hd hno _ _ _ _ (XQUN _ _ _ _ h))
end Go.Proofs.YtfjeonehdlphiaaGreatDoor
