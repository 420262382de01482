/- Re: part 2 of what the proofs need. -/
import Derived.Test.YtfjeonehdlphiaaGreatDoorC1Re
import Derived.Test.YtfjeonehdlphiaaGreatDoorProg
import Derived.WalkSpells
import Derived.WalkLawsBesides
import Derived.BigQuiet
open Go.Obj renaming cells → ka
open Array renaming getElem?_eq_some_iff → kb
open Go.Lib renaming frozen_of_heap → kc, cell_of_heap → kd
open Nat renaming le_refl → ke, lt_of_lt_of_le → kg, zero_le → kj, mul_comm → kn
open Go.RowKit.Below renaming refl → kf, heap_setCell → ki
open List renaming take_succ_eq_append_getElem → kh, getD_eq_getElem?_getD → kk, take_of_length_le → kl, eq_nil_of_length_eq_zero → km
open Bool renaming and_eq_true → ko
set_option linter.unusedVariables false
set_option maxHeartbeats 1600000
set_option maxRecDepth 100000
namespace Go.Proofs.YtfjeonehdlphiaaGreatDoor
open Go.RowKit
theorem Tryz.infoInt:(Tryz.prog.info? 3).map (fun i=>(i.zero,i.size,i.bytes))=some (some (.int .i64 0),1,8):=by kernel_rfl
theorem quJN {a b c:World} (h:Below a.heap.size a b) (k:Below b.heap.size b c):Below a.heap.size a c:=h.trans (k.mono h.size)
theorem qUNz (w:World) (o:Obj):Below w.heap.size w (w.alloc o):=(kf _ _).alloc (ke _) o
def jCvT (w:World) (v:Value) (xs:List Int):Prop :=
 ∃ao cap,v=.slice ao xs.length cap∧xs.length≤9223372036854775807∧(xs=[]∨∃b off,ao=some ⟨b,off,none⟩∧b<w.heap.size∧∀j (h:j<xs.length),w.cell? ⟨b,off+j,none⟩=some (.int .i64 xs[j]))
theorem jCvT.len {w:World} {v:Value} {xs:List Int} (h:jCvT w v xs):xs.length≤9223372036854775807:=by
 obtain ⟨_,_,_,h,_⟩:=h;exact h
theorem jCvT.below {w w':World} {v:Value} {xs:List Int} {B:Nat} (h:jCvT w v xs) (hb:Below B w w') (hB:w.heap.size≤B):jCvT w' v xs:=by
 obtain ⟨ao,cap,hv,hl,h⟩:=h
 refine ⟨ao,cap,hv,hl,?_⟩
 rcases h with h|⟨b,off,ha,hlt,hc⟩
 ·exact .inl h
 ·exact .inr ⟨b,off,ha,kg hlt hb.size,fun j hj=>by rw[hb.cell (p:=⟨b,off+j,none⟩) (by exact kg hlt hB)];exact hc j hj⟩
theorem jCvT.alloc {w:World} {v:Value} {xs:List Int} (h:jCvT w v xs) (o:Obj):jCvT (w.alloc o) v xs :=
 h.below ((kf _ _).alloc (ke _) o) (ke _)
theorem jCvT.drew {w:World} {v:Value} {xs:List Int} (h:jCvT w v xs):jCvT w.drew v xs:=h
theorem jCvT.nil (w:World):jCvT w (.slice none 0 0) []:=⟨none,0,rfl,by simp,.inl rfl⟩
theorem jCvT.own {w:World} {base:Nat} {v:Value} {xs:List Int} (h:w.ownsRow base 3 1 v xs.length (xs.map (Value.int .i64))) (hl:xs.length≤9223372036854775807):jCvT w v xs:=by
 rcases h.2 with ⟨hv,hn⟩|⟨g,cap,cur,hv,_,hg,_⟩
 ·exact ⟨none,0,by rw[hv,hn],hl,.inl (km hn)⟩
 ·refine ⟨_,cap,hv,hl,.inr ⟨g,0,rfl,(kb.1 hg).1,fun j hj=>?_⟩⟩
  subst hv
  rw[Nat.zero_add,h.cellAt j (by omega)]
  simp[hj]
def roomy:Value→Prop
 | .slice _ n c=>n≤c
 | _=>True
def Fresh (B:Nat) (v:Value):Prop:=(∀b,v.ownBlock=some b→B≤b)∧roomy v
theorem Fresh.mono {B B':Nat} {v:Value} (h:Fresh B v) (hb:B'≤B):Fresh B' v:=⟨fun b e=>Nat.le_trans hb (h.1 b e),h.2⟩
theorem Fresh.nil (B:Nat):Fresh B (.slice none 0 0):=⟨fun b e=>(by cases e),ke _⟩
theorem Fresh.own {w:World} {base:Nat} {e:TypeId} {sz:Nat} {v:Value} {n:Nat} {xs:List Value} (h:w.ownsRow base e sz v n xs):Fresh base v:=by
 refine ⟨fun b hb=>(h.lt b hb).1,?_⟩
 rcases h.2 with ⟨rfl,_⟩|⟨g,cap,cur,rfl,_,_,hn,_⟩
 ·exact ke _
 ·exact hn
theorem jCvT.other {w w':World} {v:Value} {xs:List Int} {k:Nat} (h:jCvT w v xs) (hs:w.heap.size≤w'.heap.size) (hk:∀b,b≠k→w'.heap[b]?=w.heap[b]?) (hne:v.ownBlock≠some k):jCvT w' v xs:=by
 obtain ⟨ao,cap,rfl,hl,h⟩:=h
 refine ⟨ao,cap,rfl,hl,?_⟩
 rcases h with h|⟨b,off,rfl,hlt,hc⟩
 ·exact .inl h
 ·have hb:b≠k:=fun e=>hne (by rw[e];rfl)
  exact .inr ⟨b,off,rfl,kg hlt hs,fun j hj=>(World.cell?_of_block (a:=⟨b,off+j,none⟩) (hk b hb)).trans (hc j hj)⟩
theorem qw14 {w w':World} {base:Nat} {e:TypeId} {size:Nat} {v:Value} {n:Nat} {xs:List Value} (h:w.ownsRow base e size v n xs) (hb:Below w.heap.size w w'):w'.ownsRow base e size v n xs:=by
 refine ⟨h.1,?_⟩
 rcases h.2 with h|⟨g,cap,cur,hv,hg,hh,r⟩
 ·exact .inl h
 ·exact .inr ⟨g,cap,cur,hv,hg,by rw[hb.block g (kb.1 hh).1];exact hh,r⟩
theorem qvSR (va vb:Value) (xs ys:List Int) (w:World) (ha:jCvT w va xs) (hb:jCvT w vb ys) :
  Calls Tryz.prog 22 #[va,vb] w fun e w'=>e=.returned (.bool (decide (xs=ys)))∧Below w.heap.size w w':=by
 obtain ⟨ao,ca,rfl,hla,ha⟩:=ha
 obtain ⟨bo,cb,rfl,hlb,hb⟩:=hb
 by_cases hl:xs.length=ys.length
 ·have hl2:((xs.length:Int) != (ys.length:Int))=false:=by simp[hl]
  by_cases h0:xs.length=0
  ·have e:xs=ys:=(km h0).trans (km (hl.symm.trans h0)).symm
   have HE:=hide e;clear e
   have HL:=hide hl;clear hl
   clear ha hb
   go_enter Tryz.func22,Tryz.ntmps22
   go_wp2
   go_loop [5] (fun i=>i=.int .i64 0) (fun _=>0)
   case atStart=>rfl
   case round =>
    subst hrel
    go_wp2
    go_ret
    exact ⟨j3Zs (by simp[HE.out]),kf _ _⟩
  ·have ha:∃b off,ao=some ⟨b,off,none⟩∧b<w.heap.size∧∀j (h:j<xs.length),w.cell? ⟨b,off+j,none⟩=some (.int .i64 xs[j]):=by
    rcases ha with rfl|ha
    ·exact absurd rfl h0
    ·exact ha
   have hb:∃b off,bo=some ⟨b,off,none⟩∧b<w.heap.size∧∀j (h:j<ys.length),w.cell? ⟨b,off+j,none⟩=some (.int .i64 ys[j]):=by
    rcases hb with rfl|hb
    ·exact absurd hl h0
    ·exact hb
   obtain ⟨ba,oa,rfl,hba,hca⟩:=ha
   obtain ⟨bb,ob,rfl,hbb,hcb⟩:=hb
   have HCA:=hide hca;clear hca
   have HCB:=hide hcb;clear hcb
   have HL:=hide hl
   clear hl
   go_enter Tryz.func22,Tryz.ntmps22
   go_wp2
   go_loopw [5] (fun i wr=>∃k:Nat,k≤xs.length∧i=.int .i64 k∧Hid (xs.take k=ys.take k)∧Below w.heap.size w wr) (fun i _=>xs.length-(intOf i).toNat)
   case atStart=>exact ⟨0,kj _,rfl,rfl,kf _ _⟩
   case round =>
    obtain ⟨k,hk,rfl,HT,hbel⟩:=hrel
    by_cases hlt:k<xs.length
    ·have hlt2:k<ys.length:=by have:=HL.out;omega
     have c1:=(hbel.cell (p:=⟨ba,oa+k,none⟩) hba).trans (HCA.out k hlt)
     have c2:=(hbel.cell (p:=⟨bb,ob+k,none⟩) hbb).trans (HCB.out k hlt2)
     by_cases he:xs[k]=ys[k]
     ·have he2:(xs[k] != ys[k])=false:=by simp[he]
      have HT2:Hid (xs.take (k+1)=ys.take (k+1)):=by
       show _=_
       rw[kh hlt,kh hlt2,HT.out,he]
      clear he
      go_wp2
      go_region
      go_wp2
      go_roundw
      case rel=>exact ⟨k+1,by omega,by go_num,HT2,hbel.drew⟩
      case measure=>simp[intOf];omega
     ·have he2:(xs[k] != ys[k])=true:=by simp[he]
      have HNE:=hide (show ¬xs=ys from fun h=>he (by subst h;rfl))
      clear he
      go_wp2
      go_region
      go_wp2
      go_ret
      exact ⟨j3Zs (by simp[HNE.out]),hbel.drew⟩
    ·have HE:=hide (show xs=ys by
      have h:=HT.out
      rwa [kl (by omega),kl (by have:=HL.out;omega)] at h)
     go_wp2
     go_ret
     exact ⟨j3Zs (by simp[HE.out]),hbel⟩
 ·have hl2:((xs.length:Int) != (ys.length:Int))=true:=by simp;omega
  have HNE:=hide (show ¬xs=ys from fun h=>hl (by rw[h]))
  clear hl
  go_enter Tryz.func22,Tryz.ntmps22
  go_wp2
  go_ret
  exact ⟨j3Zs (by simp[HNE.out]),kf _ _⟩
theorem qVbC (n a b:Int) (w:World) :
  Calls Tryz.prog 33 #[.int .i64 n,.int .i64 a,.int .i64 b] w fun e w'=>e=.returned (.bool (decide (a≤n∧n≤b)))∧w=w':=by
 by_cases h1:a≤n
 all_goals by_cases h2:n≤b
 all_goals
  go_enter Tryz.func33,Tryz.ntmps33
  go_wp2
  go_ret
  exact ⟨j3Zs (by simp[h1,h2]),rfl⟩
theorem X4G3 {W X Y:Nat} (h:X<W):(Y*W+X) % W=X∧(Y*W+X) / W=Y:=by
 constructor
 ·rw[kn,Nat.mul_add_mod,Nat.mod_eq_of_lt h]
 ·rw[kn,Nat.mul_add_div (by omega),Nat.div_eq_of_lt h,Nat.add_zero]
def allIn (a b:Int) (xs:List Int):Bool:=xs.all fun n=>decide (a≤n∧n≤b)
theorem q5EE (a b:Int) (xs:List Int) (x:Int):allIn a b (xs++[x])=(allIn a b xs && decide (a≤x∧x≤b)):=by simp[allIn]
theorem XQ5U (a b:Int) (xs:List Int) (k:Nat) (hk:k<xs.length) (h:¬(a≤xs[k]∧xs[k]≤b)):allIn a b xs=false:=by
 rw[Bool.eq_false_iff];intro he
 have:=List.all_eq_true.1 he _ (List.getElem_mem hk)
 exact h (by simpa using this)
theorem qFis (a b:Int) (v:Value) (xs:List Int) (w:World) (hv:jCvT w v xs) :
  Calls Tryz.prog 95 #[.int .i64 a,.int .i64 b,v] w fun e w'=>e=.returned (.bool (allIn a b xs))∧w=w':=by
 obtain ⟨ao,ca,rfl,hla,hc⟩:=hv
 by_cases h0:xs=[]
 ·subst h0
  clear hc
  go_enter Tryz.func95,Tryz.ntmps95
  go_wp2
  go_loop [11] (fun i=>i=.int .i64 0) (fun _=>0)
  case atStart=>rfl
  case round =>
   subst hrel
   go_wp2
   go_ret
   exact ⟨rfl,rfl⟩
 ·obtain ⟨bk,off,hao,hbl,hcell⟩:∃b off,ao=some ⟨b,off,none⟩∧b<w.heap.size∧∀j (h:j<xs.length),w.cell? ⟨b,off+j,none⟩=some (.int .i64 xs[j]):=by
   rcases hc with h|h
   ·exact absurd h h0
   ·exact h
  subst hao
  have HCELL:=hide hcell;clear hcell hc h0
  go_enter Tryz.func95,Tryz.ntmps95
  go_wp2
  go_loop [11] (fun i=>∃k:Nat,k≤xs.length∧i=.int .i64 k∧Hid (allIn a b (xs.take k)=true)) (fun i=>xs.length-(intOf i).toNat)
  case atStart=>exact ⟨0,kj _,rfl,rfl⟩
  case round =>
   obtain ⟨k,hk,rfl,HA⟩:=hrel
   by_cases hlt:k<xs.length
   ·have c1:=HCELL.out k hlt
    by_cases hx0:a≤xs[k]
    ·by_cases hx1:xs[k]≤b
     ·have HT:=hide (show allIn a b (xs.take (k+1))=true by rw[kh hlt,q5EE,HA.out];simp[hx0,hx1])
      go_wp2
      go_round
      case rel=>exact ⟨k+1,by omega,by go_num,HT⟩
      case measure=>simp[intOf];omega
     ·have HE:=hide (XQ5U a b xs k hlt (fun h=>hx1 h.2))
      go_wp2
      go_ret
      exact ⟨j3Zs HE.out.symm,rfl⟩
    ·have HE:=hide (XQ5U a b xs k hlt (fun h=>hx0 h.1))
     go_wp2
     go_ret
     exact ⟨j3Zs HE.out.symm,rfl⟩
   ·have HE:=hide (show true=allIn a b xs by rw[←HA.out,kl (by omega)])
    go_wp2
    go_ret
    exact ⟨j3Zs HE.out,rfl⟩
theorem ints1 (w:World) (n:Int):jCvT (w.alloc (.cells #[.int .i64 n] 3)) (.slice (some ⟨w.heap.size,0,none⟩) 1 1) [n] :=
 jCvT.own (base:=w.heap.size) (World.ownsRow_lit w #[.int .i64 n] 1 (ke _) (by decide) (by simp)) (by simp)
theorem XlDJ (n:Int) (w:World):Calls Tryz.prog 116 #[.int .i64 n] w fun e w'=>e=.returned (.bool (jbTy n))∧Below w.heap.size w w':=by
 have HS:=hide (show allIn 1 64 [n]=jbTy n by simp[allIn,jbTy])
 go_enter Tryz.func116,Tryz.ntmps116
 go_wp2_with fail
 refine (qFis 1 64 _ [n] _ (ints1 w n)).mono ?_
 rintro e w1 ⟨rfl,rfl⟩
 rw[HS.out]
 go_wp2
 go_ret
 exact ⟨rfl,qUNz _ _⟩
def jcbm (W H m:Int):Bool:=jbTy W && jbTy H && decide (m=W*H)
theorem q58J (W H m:Int) (w:World):Calls Tryz.prog 94 #[.int .i64 W,.int .i64 H,.int .i64 m] w fun e w'=>e=.returned (.bool (jcbm W H m))∧Below w.heap.size w w':=by
 by_cases h1:jbTy W=true
 ·by_cases h2:jbTy H=true
  ·have HE:=hide (show decide (m=W*H)=jcbm W H m by rw[jcbm,h1,h2];rfl)
   have b1:1≤W∧W≤64:=by simpa [jbTy] using h1
   have b2:1≤H∧H≤64:=by simpa [jbTy] using h2
   obtain ⟨b3,b4⟩:=zAFj b1 b2
   obtain ⟨M,hM⟩:∃M,W*H=M:=⟨_,rfl⟩
   have HEM:=hide (show (m == M)=decide (m=W*H) by rw[hM];rfl)
   rw[hM] at b3 b4
   go_enter Tryz.func94,Tryz.ntmps94
   go_wp2_with fail
   refine (XlDJ _ _).mono ?_
   rintro e w1 ⟨rfl,hb1⟩
   rw[h1]
   go_wp2_with fail
   refine (XlDJ _ _).mono ?_
   rintro e w2 ⟨rfl,hb2⟩
   rw[h2]
   go_wp2
   go_ret
   exact ⟨j3Zs (HEM.out.trans HE.out),quJN hb1 hb2⟩
  ·have h2:jbTy H=false:=by simpa using h2
   have HE:=hide (show false=jcbm W H m by rw[jcbm,h1,h2];rfl)
   go_enter Tryz.func94,Tryz.ntmps94
   go_wp2_with fail
   refine (XlDJ _ _).mono ?_
   rintro e w1 ⟨rfl,hb1⟩
   rw[h1]
   go_wp2_with fail
   refine (XlDJ _ _).mono ?_
   rintro e w2 ⟨rfl,hb2⟩
   rw[h2]
   go_wp2
   go_ret
   exact ⟨j3Zs HE.out,quJN hb1 hb2⟩
 ·have h1:jbTy W=false:=by simpa using h1
  have HE:=hide (show false=jcbm W H m by rw[jcbm,h1];rfl)
  go_enter Tryz.func94,Tryz.ntmps94
  go_wp2_with fail
  refine (XlDJ _ _).mono ?_
  rintro e w1 ⟨rfl,hb1⟩
  rw[h1]
  go_wp2
  go_ret
  exact ⟨j3Zs HE.out,hb1⟩
theorem jZMK (W H:Int) (zs:List Int):q0fM W H zs=(jcbm W H zs.length && allIn 0 65535 zs):=by
 rw[q0fM,jcbm];rfl
theorem pl3 {w w':World} {a b c:Value} {t:TypeId} (hb:Below (w.alloc (.cells #[a,b,c] t)).heap.size (w.alloc (.cells #[a,b,c] t)) w') :
  w'.cell? ⟨w.heap.size,0,none⟩=some a∧w'.cell? ⟨w.heap.size,1,none⟩=some b∧w'.cell? ⟨w.heap.size,2,none⟩=some c:=by
 refine ⟨?_,?_,?_⟩
 ·rw[hb.cell (p:=⟨w.heap.size,0,none⟩) (by simp),kd (heap_alloc_new w _)];rfl
 ·rw[hb.cell (p:=⟨w.heap.size,1,none⟩) (by simp),kd (heap_alloc_new w _)];rfl
 ·rw[hb.cell (p:=⟨w.heap.size,2,none⟩) (by simp),kd (heap_alloc_new w _)];rfl
theorem XeC7 (W H:Int) (v:Value) (zs:List Int) (w:World) (hv:jCvT w v zs) :
  Calls Tryz.prog 65 #[.agg #[.int .i64 W,.int .i64 H,v]] w fun e w'=>e=.returned (.bool (q0fM W H zs))∧Below w.heap.size w w':=by
 have HV:=hide hv
 obtain ⟨ao,ca,rfl,hla,_⟩:=hv
 by_cases h1:jcbm W H zs.length=true
 ·have HE:=hide (show allIn 0 65535 zs=q0fM W H zs by rw[jZMK,h1];rfl)
  go_enter Tryz.func65,Tryz.ntmps65
  go_wp2_with fail
  refine (q58J _ _ _ _).mono ?_
  rintro e w1 ⟨rfl,hb1⟩
  rw[h1]
  have c2:=(pl3 hb1).2.2
  go_wp2_with fail
  refine (qFis _ _ _ zs _ ((HV.out.alloc _).below hb1 (ke _))).mono ?_
  rintro e w2 ⟨rfl,rfl⟩
  rw[HE.out]
  go_wp2
  go_ret
  exact ⟨rfl,quJN (qUNz _ _) hb1⟩
 ·have h1:jcbm W H zs.length=false:=by simpa using h1
  have HE:=hide (show false=q0fM W H zs by rw[jZMK,h1];rfl)
  go_enter Tryz.func65,Tryz.ntmps65
  go_wp2_with fail
  refine (q58J _ _ _ _).mono ?_
  rintro e w1 ⟨rfl,hb1⟩
  rw[h1]
  go_wp2
  go_ret
  exact ⟨j3Zs HE.out,quJN (qUNz _ _) hb1⟩
theorem ztp0 (n a b:Int) (w:World) :
  Calls Tryz.prog 33 #[.int .i64 n,.int .i64 a,.int .i64 b] w fun e w'=>e=.returned (.bool (decide (a≤n∧n≤b)))∧w'=w :=
 (qVbC n a b w).mono fun _ _ h=>⟨h.1,h.2.symm⟩
theorem zpml (W H:Int) (v:Value) (zs:List Int) (w:World) (hv:jCvT w v zs) :
  Calls Tryz.prog 26 #[.agg #[.int .i64 W,.int .i64 H,v]] w fun e w'=>e=.returned (.bool (q0fM W H zs))∧Below w.heap.size w w':=by
 obtain ⟨ao,ca,rfl,hla,hc⟩:=hv
 have hwi:∀n:Int,decide (1≤n∧n≤64)=jbTy n:=fun n=>rfl
 have HWI:=hide hwi
 clear hwi
 by_cases h1:jbTy W=true
 ·by_cases h2:jbTy H=true
  ·have b1:1≤W∧W≤64:=by simpa [jbTy] using h1
   have b2:1≤H∧H≤64:=by simpa [jbTy] using h2
   obtain ⟨b3,b4⟩:=zAFj b1 b2
   obtain ⟨M,hM⟩:∃M,W*H=M:=⟨_,rfl⟩
   rw[hM] at b3 b4
   by_cases hl:(zs.length:Int)=M
   ·have HP:=hide (show q0fM W H zs=qLlL zs by rw[q0fM,h1,h2,hM,hl];simp)
    have hlb:((zs.length:Int) != M)=false:=by simpa using hl
    obtain ⟨bk,off,hao,hbl,hcell⟩:∃b off,ao=some ⟨b,off,none⟩∧b<w.heap.size∧∀j (h:j<zs.length),w.cell? ⟨b,off+j,none⟩=some (.int .i64 zs[j]):=by
     rcases hc with h|h
     ·subst h;simp at hl;omega
     ·exact h
    subst hao
    have HCELL:=hide (show ∀j (h:j<zs.length),(w.alloc (ka #[.int .i64 W,.int .i64 H,.slice (some ⟨bk,off,none⟩) zs.length ca] 54)).cell? ⟨bk,off+j,none⟩=some (.int .i64 zs[j]) from fun j h=>by
     rw[World.cell?_of_block (w:=w) (Below.heap_alloc w _ bk hbl)];exact hcell j h)
    clear hcell hc
    have HB:=hide (qUNz w (ka #[.int .i64 W,.int .i64 H,.slice (some ⟨bk,off,none⟩) zs.length ca] 54))
    obtain ⟨e0,e1,e2⟩:=pl3 (kf (w.alloc (ka #[.int .i64 W,.int .i64 H,.slice (some ⟨bk,off,none⟩) zs.length ca] 54)).heap.size _)
    go_enter Tryz.func26,Tryz.ntmps26
    go_wp2_with fail
    generalize w.alloc (ka #[.int .i64 W,.int .i64 H,.slice (some ⟨bk,off,none⟩) zs.length ca] 54)=W0 at *
    refine (qVbC _ _ _ _).mono ?_
    rintro e w1 ⟨rfl,rfl⟩
    rw[HWI.out,h1]
    go_wp2_with fail
    refine (qVbC _ _ _ _).mono ?_
    rintro e w1 ⟨rfl,rfl⟩
    rw[HWI.out,h2]
    go_wp2
    clear h1 h2 b1 b2
    go_loopw [3] (fun i wr=>∃k:Nat,k≤zs.length∧i=.int .i64 k∧Hid (qLlL (zs.take k)=true)∧(∃n,wr=W0.drewN n)) (fun i _=>zs.length-(intOf i).toNat)
    case atStart=>exact ⟨0,kj _,rfl,rfl,0,rfl⟩
    case round =>
     obtain ⟨k,hk,rfl,HS,nn,rfl⟩:=hrel
     by_cases hlt:k<zs.length
     ·have c1:=HCELL.out k hlt
      by_cases hx0:0≤zs[k]∧zs[k]≤65535
      ·have hd:decide (0≤zs[k]∧zs[k]≤65535)=true:=by simpa using hx0
       have HT:=hide (show qLlL (zs.take (k+1))=true by rw[kh hlt,qfz3,HS.out];exact hd)
       go_wp2_with (go_at_call 33;refine (qVbC _ _ _ _).mono ?_;rintro e w1 ⟨rfl,rfl⟩;rw[hd])
       go_roundw
       case rel=>exact ⟨k+1,by omega,by go_num,HT,nn,rfl⟩
       case measure=>simp[intOf];omega
      ·have hd:decide (0≤zs[k]∧zs[k]≤65535)=false:=by simpa using hx0
       have HE:=hide (show false=q0fM W H zs by rw[HP.out,jkxK zs k hlt hd])
       go_wp2_with (go_at_call 33;refine (qVbC _ _ _ _).mono ?_;rintro e w1 ⟨rfl,rfl⟩;rw[hd])
       go_ret
       exact ⟨j3Zs HE.out,below_drewN HB.out _⟩
     ·have HE:=hide (show true=q0fM W H zs by rw[HP.out,←HS.out,kl (by omega)])
      go_wp2
      go_ret
      exact ⟨j3Zs HE.out,below_drewN HB.out _⟩
   ·have HE:=hide (show false=q0fM W H zs by rw[q0fM,h1,h2,hM];simp[hl])
    have hlb:((zs.length:Int) != M)=true:=by simpa using hl
    clear hc
    go_enter Tryz.func26,Tryz.ntmps26
    go_wp2_with fail
    refine (qVbC _ _ _ _).mono ?_
    rintro e w1 ⟨rfl,rfl⟩
    rw[HWI.out,h1]
    go_wp2_with fail
    refine (qVbC _ _ _ _).mono ?_
    rintro e w1 ⟨rfl,rfl⟩
    rw[HWI.out,h2]
    go_wp2
    go_ret
    exact ⟨j3Zs HE.out,qUNz _ _⟩
  ·have h2:jbTy H=false:=by simpa using h2
   have HE:=hide (show false=q0fM W H zs by rw[q0fM,h1,h2];rfl)
   clear hc
   go_enter Tryz.func26,Tryz.ntmps26
   go_wp2_with fail
   refine (qVbC _ _ _ _).mono ?_
   rintro e w1 ⟨rfl,rfl⟩
   rw[HWI.out,h1]
   go_wp2_with fail
   refine (qVbC _ _ _ _).mono ?_
   rintro e w1 ⟨rfl,rfl⟩
   rw[HWI.out,h2]
   go_wp2
   go_ret
   exact ⟨j3Zs HE.out,qUNz _ _⟩
 ·have h1:jbTy W=false:=by simpa using h1
  have HE:=hide (show false=q0fM W H zs by rw[q0fM,h1];rfl)
  clear hc
  go_enter Tryz.func26,Tryz.ntmps26
  go_wp2_with fail
  refine (qVbC _ _ _ _).mono ?_
  rintro e w1 ⟨rfl,rfl⟩
  rw[HWI.out,h1]
  go_wp2
  go_ret
  exact ⟨j3Zs HE.out,qUNz _ _⟩
theorem al1 (w:World) (a:Obj):(w.alloc a).heap[w.heap.size]?=some a:=heap_alloc_new w a
theorem al2 (w:World) (a b:Obj):((w.alloc a).alloc b).heap[w.heap.size]?=some a∧((w.alloc a).alloc b).heap[w.heap.size+1]?=some b:=by
 refine ⟨(Below.heap_alloc _ _ _ (by simp only[World.size_alloc];omega)).trans (al1 w a),?_⟩
 have h:=al1 (w.alloc a) b
 rw[World.size_alloc] at h;exact h
theorem al3 (w:World) (a b c:Obj):(((w.alloc a).alloc b).alloc c).heap[w.heap.size]?=some a∧(((w.alloc a).alloc b).alloc c).heap[w.heap.size+1]?=some b∧(((w.alloc a).alloc b).alloc c).heap[w.heap.size+2]?=some c:=by
 obtain ⟨h1,h2⟩:=al2 w a b
 refine ⟨(Below.heap_alloc _ _ _ (by simp only[World.size_alloc];omega)).trans h1,(Below.heap_alloc _ _ _ (by simp only[World.size_alloc];omega)).trans h2,?_⟩
 have h:=al1 ((w.alloc a).alloc b) c
 rw[World.size_alloc,World.size_alloc] at h;exact h
theorem al4 (w:World) (a b c d:Obj):((((w.alloc a).alloc b).alloc c).alloc d).heap[w.heap.size]?=some a∧((((w.alloc a).alloc b).alloc c).alloc d).heap[w.heap.size+1]?=some b∧((((w.alloc a).alloc b).alloc c).alloc d).heap[w.heap.size+2]?=some c∧((((w.alloc a).alloc b).alloc c).alloc d).heap[w.heap.size+3]?=some d:=by
 obtain ⟨h1,h2,h3⟩:=al3 w a b c
 refine ⟨(Below.heap_alloc _ _ _ (by simp only[World.size_alloc];omega)).trans h1,(Below.heap_alloc _ _ _ (by simp only[World.size_alloc];omega)).trans h2,(Below.heap_alloc _ _ _ (by simp only[World.size_alloc];omega)).trans h3,?_⟩
 have h:=al1 (((w.alloc a).alloc b).alloc c) d
 rw[World.size_alloc,World.size_alloc,World.size_alloc] at h;exact h
theorem be2 (w:World) (a b:Obj):Below w.heap.size w ((w.alloc a).alloc b):=quJN (qUNz _ _) (qUNz _ _)
theorem be3 (w:World) (a b c:Obj):Below w.heap.size w (((w.alloc a).alloc b).alloc c):=quJN (be2 _ _ _) (qUNz _ _)
theorem be4 (w:World) (a b c d:Obj):Below w.heap.size w ((((w.alloc a).alloc b).alloc c).alloc d):=quJN (be3 _ _ _ _) (qUNz _ _)
theorem zv5i (w:World) (b:Nat) (x y z:Value):w.heap.size≤(((w.setCell ⟨b,0,none⟩ x).setCell ⟨b,1,none⟩ y).setCell ⟨b,2,none⟩ z).heap.size:=by simp[World.setCell]
theorem jZhz (w:World) (b:Nat) (x y z:Value) (k:Nat) (h:k≠b):(((w.setCell ⟨b,0,none⟩ x).setCell ⟨b,1,none⟩ y).setCell ⟨b,2,none⟩ z).heap[k]?=w.heap[k]?:=by
 rw[ki _ _ _ _ h,ki _ _ _ _ h,ki _ _ _ _ h]
theorem Fresh.ne {B k:Nat} {v:Value} (h:Fresh B v) (hk:k<B):v.ownBlock≠some k:=fun e=>by have:=h.1 k e;omega
theorem jCvT.set3 {w:World} {v:Value} {xs:List Int} {B k:Nat} (h:jCvT w v xs) (hf:Fresh B v) (hk:k<B) (x y z:Value):jCvT (((w.setCell ⟨k,0,none⟩ x).setCell ⟨k,1,none⟩ y).setCell ⟨k,2,none⟩ z) v xs :=
 h.other (zv5i _ _ _ _ _) (fun b hb=>jZhz _ _ _ _ _ b hb) (hf.ne hk)
theorem zHqh {B b:Nat} {w U:World} (h:Below B w U) (hb:B≤b) (x y z:Value):Below B w (((U.setCell ⟨b,0,none⟩ x).setCell ⟨b,1,none⟩ y).setCell ⟨b,2,none⟩ z) :=
 ((h.setCell (p:=⟨b,0,none⟩) hb _).setCell (p:=⟨b,1,none⟩) hb _).setCell (p:=⟨b,2,none⟩) hb _
theorem zd1R {w:World} {b:Nat} (x y z:Value) {a:Addr} (h:a.block≠b):(((w.setCell ⟨b,0,none⟩ x).setCell ⟨b,1,none⟩ y).setCell ⟨b,2,none⟩ z).cell? a=w.cell? a:=by
 refine World.cell?_of_block ?_
 rw[ki _ _ _ _ h,ki _ _ _ _ h,ki _ _ _ _ h]
theorem z5EY {w:World} {b:Nat} {x y z:Value} {t:TypeId} {fr:Nat×Nat} (h:w.heap[b]?=some (.cells #[x,y,z] t fr)) :
  w.cell? ⟨b,0,none⟩=some x∧w.cell? ⟨b,1,none⟩=some y∧w.cell? ⟨b,2,none⟩=some z :=
 ⟨by rw[kd h];rfl,by rw[kd h];rfl,by rw[kd h];rfl⟩
def okW (e W:Int):Int:=if e=0 then W else 0
def okL {α:Type} (e:Int) (l:List α):List α:=if e=0 then l else []
def zAt (zs:List Int) (j:Nat):Int:=zs.getD j 0
theorem Xw1z (zs:List Int) (i:Nat) (h:i<zs.length):zs[i]=zAt zs i:=by simp[zAt,kk,List.getElem?_eq_getElem h]
theorem XWrv {zs:List Int} (h:allIn 0 65535 zs=true) (j:Nat):0≤zAt zs j∧zAt zs j≤65535:=by
 by_cases hj:j<zs.length
 ·rw[←Xw1z zs j hj];simpa using List.all_eq_true.1 h _ (List.getElem_mem hj)
 ·rw[zAt,kk,List.getElem?_eq_none (by omega)];decide
theorem XAOl {W H:Int} {zs:List Int} (h:q0fM W H zs=true):allIn 0 65535 zs=true:=by
 rw[jZMK,ko] at h
 exact h.2
theorem jCvT.cells {w:World} {v:Value} {zs:List Int} (h:jCvT w v zs) (hn:1≤zs.length):∃bk off ca,v=.slice (some ⟨bk,off,none⟩) zs.length ca∧bk<w.heap.size∧∀j,j<zs.length→w.cell? ⟨bk,off+j,none⟩=some (.int .i64 (zAt zs j)):=by
 obtain ⟨ao,ca,rfl,_,h⟩:=h
 rcases h with h|⟨b,off,rfl,hlt,hc⟩
 ·subst h;simp at hn
 ·exact ⟨b,off,ca,rfl,hlt,fun j hj=>by rw[hc j hj,Xw1z zs j hj]⟩
theorem bx1 {w:World} {b:Nat} {x:Value} {t:TypeId} {fr:Nat×Nat} (h:w.heap[b]?=some (.cells #[x] t fr)):w.cell? ⟨b,0,none⟩=some x:=by rw[kd h];rfl
theorem bx2 {w:World} {b:Nat} {x y:Value} {t:TypeId} {fr:Nat×Nat} (h:w.heap[b]?=some (.cells #[x,y] t fr)):w.cell? ⟨b,0,none⟩=some x∧w.cell? ⟨b,1,none⟩=some y:=⟨by rw[kd h];rfl,by rw[kd h];rfl⟩
def Free (w:World) (v:Value):Prop:=∀g,v.ownBlock=some g→∃c t,w.heap[g]?=some (.cells c t (0,0))
theorem Free.nil (w:World):Free w (.slice none 0 0):=fun g h=>by cases h
theorem Free.own {w:World} {base:Nat} {e:TypeId} {sz:Nat} {v:Value} {n:Nat} {xs:List Value} (h:w.ownsRow base e sz v n xs):Free w v:=fun g hg=>by
 rcases h.2 with ⟨rfl,_⟩|⟨g',cap,cur,rfl,_,hgg,_⟩
 ·cases hg
 ·simp only[Value.ownBlock,Option.some.injEq] at hg
  subst hg
  exact ⟨_,_,hgg⟩
theorem Free.below {w w':World} {v:Value} {B:Nat} (h:Free w v) (hb:Below B w w') (hB:w.heap.size≤B):Free w' v:=fun g hg=>by
 obtain ⟨c,t,hc⟩:=h g hg
 exact ⟨c,t,(hb.block g (kg (kb.1 hc).1 hB)).trans hc⟩
theorem Free.other {w w':World} {v:Value} {k:Nat} (h:Free w v) (hk:∀b,b≠k→w'.heap[b]?=w.heap[b]?) (hne:v.ownBlock≠some k):Free w' v:=fun g hg=>by
 obtain ⟨c,t,hc⟩:=h g hg
 exact ⟨c,t,(hk g (fun e=>hne (by rw[hg,e]))).trans hc⟩
theorem Free.set3 {w:World} {v:Value} {B k:Nat} (h:Free w v) (hf:Fresh B v) (hk:k<B) (x y z:Value):Free (((w.setCell ⟨k,0,none⟩ x).setCell ⟨k,1,none⟩ y).setCell ⟨k,2,none⟩ z) v :=
 h.other (fun b hb=>jZhz _ _ _ _ _ b hb) (hf.ne hk)
theorem Free.set3n {w:World} {v:Value} {k:Nat} (h:Free w v) (hne:v.ownBlock≠some k) (x y z:Value):Free (((w.setCell ⟨k,0,none⟩ x).setCell ⟨k,1,none⟩ y).setCell ⟨k,2,none⟩ z) v :=
 h.other (fun b hb=>jZhz _ _ _ _ _ b hb) hne
theorem Free.cell {w:World} {v:Value} {B k i:Nat} {u:Value} (h:Free w v) (hf:Fresh B v) (hk:k<B):Free (w.setCell ⟨k,i,none⟩ u) v :=
 h.other (fun b hb=>ki _ _ _ _ (fun e=>hb e)) (hf.ne hk)
theorem Free.setRow {w:World} {v:Value} {B k:Nat} (h:Free w v) (hf:Fresh B v) (hk:k<B) (cs:Array Value):Free (w.setRow k cs) v :=
 h.other (fun b hb=>setRow_other _ _ _ _ hb) (hf.ne hk)
theorem Free.frozen {w:World} {g n cap off:Nat} (h:Free w (.slice (some ⟨g,off,none⟩) n cap)) (j:Nat):w.frozen? ⟨g,j,none⟩=false:=by
 obtain ⟨c,t,hc⟩:=h g rfl
 exact kc hc j
abbrev Px:=Int×Int×Int
def pixZ:Value:=.agg #[.int .i64 0,.int .i64 0,.int .i64 0]
abbrev pixV (t:Px):Value:=.agg #[.int .i64 t.1,.int .i64 t.2.1,.int .i64 t.2.2]
abbrev pixA (t:Px):Array Value:=#[.int .i64 t.1,.int .i64 t.2.1,.int .i64 t.2.2]
def pixL (t:Px):List Value:=[.int .i64 t.1,.int .i64 t.2.1,.int .i64 t.2.2]
theorem Tryz.infoPixel:(Tryz.prog.info? 61).map (fun i=>(i.zero,i.size,i.bytes))=some (some pixZ,3,24):=by kernel_rfl
def IsPix (w:World) (v:Value) (ps:List Px):Prop :=
 ∃ao cap,v=.slice ao ps.length cap∧ps.length≤9223372036854775807∧(ps=[]∨∃b off,ao=some ⟨b,off,none⟩∧b<w.heap.size∧∀j (h:j<ps.length),
  w.cell? ⟨b,off+j*3,none⟩=some (.int .i64 ps[j].1)∧w.cell? ⟨b,off+j*3+1,none⟩=some (.int .i64 ps[j].2.1)∧w.cell? ⟨b,off+j*3+2,none⟩=some (.int .i64 ps[j].2.2))
theorem IsPix.len {w:World} {v:Value} {ps:List Px} (h:IsPix w v ps):ps.length≤9223372036854775807:=by
 obtain ⟨_,_,_,h,_⟩:=h;exact h
theorem IsPix.below {w w':World} {v:Value} {ps:List Px} {B:Nat} (h:IsPix w v ps) (hb:Below B w w') (hB:w.heap.size≤B):IsPix w' v ps:=by
 obtain ⟨ao,cap,hv,hl,h⟩:=h
 refine ⟨ao,cap,hv,hl,?_⟩
 rcases h with h|⟨b,off,ha,hlt,hc⟩
 ·exact .inl h
 ·refine .inr ⟨b,off,ha,kg hlt hb.size,fun j hj=>?_⟩
  rw[hb.cell (p:=⟨b,off+j*3,none⟩) (by exact kg hlt hB),hb.cell (p:=⟨b,off+j*3+1,none⟩) (by exact kg hlt hB),hb.cell (p:=⟨b,off+j*3+2,none⟩) (by exact kg hlt hB)]
  exact hc j hj
theorem IsPix.alloc {w:World} {v:Value} {ps:List Px} (h:IsPix w v ps) (o:Obj):IsPix (w.alloc o) v ps :=
 h.below ((kf _ _).alloc (ke _) o) (ke _)
theorem IsPix.drew {w:World} {v:Value} {ps:List Px} (h:IsPix w v ps):IsPix w.drew v ps:=h
theorem IsPix.nil (w:World):IsPix w (.slice none 0 0) []:=⟨none,0,rfl,by simp,.inl rfl⟩
theorem Xqg0 (ps:List Px):(ps.flatMap pixL).length=ps.length*3:=by
 induction ps with
 | nil=>rfl
 | cons p ps ih=>rw[List.flatMap_cons,List.length_append,ih,List.length_cons];simp[pixL];omega
theorem zgQy (ps:List Px) (j:Nat) (h:j<ps.length) :
  (ps.flatMap pixL)[j*3]?=some (.int .i64 ps[j].1)∧(ps.flatMap pixL)[j*3+1]?=some (.int .i64 ps[j].2.1)∧(ps.flatMap pixL)[j*3+2]?=some (.int .i64 ps[j].2.2):=by
 induction ps generalizing j with
 | nil=>simp at h
 | cons p ps ih =>
  cases j with
  | zero=>simp[pixL,List.flatMap_cons]
  | succ j =>
   have h':j<ps.length:=by simpa using h
   have:=ih j h'
   rw[List.flatMap_cons,show (j+1)*3=j*3+3 by omega]
   simp only[pixL,List.cons_append,List.nil_append,List.getElem?_cons_succ,List.getElem_cons_succ]
   exact this
theorem IsPix.own {w:World} {base:Nat} {v:Value} {ps:List Px} (h:w.ownsRow base 61 3 v ps.length (ps.flatMap pixL)) (hl:ps.length≤9223372036854775807):IsPix w v ps:=by
 rcases h.2 with ⟨hv,hn⟩|⟨g,cap,cur,hv,_,hg,h1,h2,h3,h4⟩
 ·exact ⟨none,0,by rw[hv,hn],hl,.inl (km hn)⟩
 ·refine ⟨_,cap,hv,hl,.inr ⟨g,0,rfl,(kb.1 hg).1,fun j hj=>?_⟩⟩
  have key:∀i u,i<ps.length*3→(ps.flatMap pixL)[i]?=some u→w.cell? ⟨g,0+i,none⟩=some u:=fun i u hi hu=>by
   rw[Nat.zero_add,cell_of_row w g i cur _ _ hg]
   rw[←h4,List.getElem?_take_of_lt hi] at hu
   simpa using hu
  obtain ⟨a,b,c⟩:=zgQy ps j hj
  exact ⟨key _ _ (by omega) a,key _ _ (by omega) b,key _ _ (by omega) c⟩
theorem IsPix.other {w w':World} {v:Value} {ps:List Px} {k:Nat} (h:IsPix w v ps) (hs:w.heap.size≤w'.heap.size) (hk:∀b,b≠k→w'.heap[b]?=w.heap[b]?) (hne:v.ownBlock≠some k):IsPix w' v ps:=by
 obtain ⟨ao,cap,rfl,hl,h⟩:=h
 refine ⟨ao,cap,rfl,hl,?_⟩
 rcases h with h|⟨b,off,rfl,hlt,hc⟩
 ·exact .inl h
 ·have hb:b≠k:=fun e=>hne (by rw[e];rfl)
  refine .inr ⟨b,off,rfl,kg hlt hs,fun j hj=>?_⟩
  rw[World.cell?_of_block (a:=⟨b,off+j*3,none⟩) (hk b hb),World.cell?_of_block (a:=⟨b,off+j*3+1,none⟩) (hk b hb),World.cell?_of_block (a:=⟨b,off+j*3+2,none⟩) (hk b hb)]
  exact hc j hj
theorem IsPix.set3 {w:World} {v:Value} {ps:List Px} {B k:Nat} (h:IsPix w v ps) (hf:Fresh B v) (hk:k<B) (x y z:Value):IsPix (((w.setCell ⟨k,0,none⟩ x).setCell ⟨k,1,none⟩ y).setCell ⟨k,2,none⟩ z) v ps :=
 h.other (zv5i _ _ _ _ _) (fun b hb=>jZhz _ _ _ _ _ b hb) (hf.ne hk)
def IsPts (w:World) (v:Value) (ls:List Pt):Prop :=
 ∃ao cap,v=.slice ao ls.length cap∧ls.length≤9223372036854775807∧(ls=[]∨∃b off,ao=some ⟨b,off,none⟩∧b<w.heap.size∧∀j,j<ls.length →
  w.cell? ⟨b,off+j*2,none⟩=some (.int .i64 (ptAt ls j).1)∧w.cell? ⟨b,off+j*2+1,none⟩=some (.int .i64 (ptAt ls j).2))
theorem IsPts.below {w w':World} {v:Value} {ls:List Pt} {B:Nat} (h:IsPts w v ls) (hb:Below B w w') (hB:w.heap.size≤B):IsPts w' v ls:=by
 obtain ⟨ao,cap,hv,hl,h⟩:=h
 refine ⟨ao,cap,hv,hl,?_⟩
 rcases h with h|⟨b,off,ha,hlt,hc⟩
 ·exact .inl h
 ·refine .inr ⟨b,off,ha,kg hlt hb.size,fun j hj=>?_⟩
  rw[hb.cell (p:=⟨b,off+j*2,none⟩) (by exact kg hlt hB),hb.cell (p:=⟨b,off+j*2+1,none⟩) (by exact kg hlt hB)]
  exact hc j hj
theorem IsPts.alloc {w:World} {v:Value} {ls:List Pt} (h:IsPts w v ls) (o:Obj):IsPts (w.alloc o) v ls :=
 h.below ((kf _ _).alloc (ke _) o) (ke _)
theorem IsPts.nil (w:World):IsPts w (.slice none 0 0) []:=⟨none,0,rfl,by simp,.inl rfl⟩
def RowAt (w:World) (g n:Nat):Prop:=∃c t,w.heap[g]?=some (.cells c t (0,0))∧n≤c.size
theorem RowAt.below {w w':World} {g n B:Nat} (h:RowAt w g n) (hb:Below B w w') (hB:w.heap.size≤B):RowAt w' g n:=by
 obtain ⟨c,t,hc,hn⟩:=h
 exact ⟨c,t,(hb.block g (kg (kb.1 hc).1 hB)).trans hc,hn⟩
theorem Xq6L {w:World} {g off n cap N:Nat} {x:Value} (hf:Free w (.slice (some ⟨g,off,none⟩) n cap)) (hc:w.cell? ⟨g,N,none⟩=some x):RowAt w g (N+1):=by
 obtain ⟨c,t,h⟩:=hf g rfl
 refine ⟨c,t,h,?_⟩
 rw[kd h] at hc
 exact (kb.1 hc).1
theorem IsPix.rowAt {w:World} {ao:Option Addr} {n cap:Nat} {ps:List Px} (h:IsPix w (.slice ao n cap) ps) (hf:Free w (.slice ao n cap)):n=ps.length∧(n=0∨∃g off,ao=some ⟨g,off,none⟩∧RowAt w g (off+n*3)):=by
 obtain ⟨ao',cap',hv,_,hc⟩:=h
 cases hv
 refine ⟨rfl,?_⟩
 rcases hc with h|⟨b,off,rfl,_,hc⟩
 ·exact .inl (by rw[h];rfl)
 ·rcases Nat.eq_zero_or_pos ps.length with h|h
  ·exact .inl h
  ·have:=Xq6L hf (hc (ps.length-1) (by omega)).2.2
   exact .inr ⟨b,off,rfl,by rw[show off+(ps.length-1)*3+2+1=off+ps.length*3 by omega] at this;exact this⟩
theorem IsPts.rowAt {w:World} {ao:Option Addr} {n cap:Nat} {ps:List Pt} (h:IsPts w (.slice ao n cap) ps) (hf:Free w (.slice ao n cap)):n=ps.length∧(n=0∨∃g off,ao=some ⟨g,off,none⟩∧RowAt w g (off+n*2)):=by
 obtain ⟨ao',cap',hv,_,hc⟩:=h
 cases hv
 refine ⟨rfl,?_⟩
 rcases hc with h|⟨b,off,rfl,_,hc⟩
 ·exact .inl (by rw[h];rfl)
 ·rcases Nat.eq_zero_or_pos ps.length with h|h
  ·exact .inl h
  ·have:=Xq6L hf (hc (ps.length-1) (by omega)).2
   exact .inr ⟨b,off,rfl,by rw[show off+(ps.length-1)*2+1+1=off+ps.length*2 by omega] at this;exact this⟩
theorem jCvT.rowAt {w:World} {ao:Option Addr} {n cap:Nat} {xs:List Int} (h:jCvT w (.slice ao n cap) xs) (hf:Free w (.slice ao n cap)):n=xs.length∧(n=0∨∃g off,ao=some ⟨g,off,none⟩∧RowAt w g (off+n)):=by
 obtain ⟨ao',cap',hv,_,hc⟩:=h
 cases hv
 refine ⟨rfl,?_⟩
 rcases hc with h|⟨b,off,rfl,_,hc⟩
 ·exact .inl (by rw[h];rfl)
 ·rcases Nat.eq_zero_or_pos xs.length with h|h
  ·exact .inl h
  ·have:=Xq6L hf (hc (xs.length-1) (by omega))
   exact .inr ⟨b,off,rfl,by rw[show off+(xs.length-1)+1=off+xs.length by omega] at this;exact this⟩
theorem XokB {w w0:World} {g n B:Nat} (h:RowAt w g n) (hb:Below B w0 w) (hg:B≤g) (cs:Array Value) (hc:∀c t,w.heap[g]?=some (.cells c t (0,0))→cs.size=c.size):RowAt (w.setRow g cs) g n∧Below B w0 (w.setRow g cs)∧∀k,k≠g→(w.setRow g cs).heap[k]?=w.heap[k]?:=by
 obtain ⟨c,t,h1,h2⟩:=h
 exact ⟨⟨cs,t,setRow_heap _ _ _ _ _ _ h1,by rw[hc c t h1];exact h2⟩,hb.trans ⟨rfl,rfl,rfl,by simp[World.setRow],fun b hb'=>setRow_other _ _ _ _ (by omega)⟩,fun k hk=>setRow_other _ _ _ _ hk⟩
theorem qrXw {P:Program} (w:World) (g off:Nat) (t ty:TypeId) (old cells:Array Value) (hg:w.heap[g]?=some (.cells old t (0,0))) (hi:(P.info? ty).map (·.size)=some cells.size)
  (hfit:off+cells.size≤old.size) (h1:cells.all (·.oneCell')=true) :
  ∃cs,(storeVar ty ⟨g,off,none⟩ (.agg cells)).run P w=.ok () (w.setRow g cs)∧cs.size=old.size:=by
 have:=Go.run_storeCells_at (P:=P) g off t cells.toList 0 old w hg (by simpa using hfit) (fun v hv=>(Array.all_eq_true_iff_forall_mem.1 h1) v (by simpa using hv))
 refine ⟨(old.toList.take off++cells.toList++old.toList.drop (off+cells.size)).toArray,?_,?_⟩
 ·cases hq:P.info? ty with
  | none=>simp[hq] at hi
  | some i =>
   have hs:cells.size=i.size:=by simp[hq] at hi;omega
   simp only[Nat.add_zero,Array.length_toList] at this
   simp[storeVar,sizeOf,typeInfo,hq,Value.cells,←hs,this]
 ·simp
  omega
theorem zlQb {P:Program} {ops:Array Oper} {rest:List Oper} {o:Oper} {a:Act} {w:World} {Q:Exit→Act→World→Prop} (hgd:o.guard=none) (ty:TypeId) (x y:Operand) (ho:o.op=.store ty x y)
  (g off n:Nat) (cells:Array Value) (hx:a.eval x=.pointer (some ⟨g,off,none⟩)) (hy:a.eval y=.agg cells)
  (hr:RowAt w g n) (hi:(P.info? ty).map (·.size)=some cells.size) (hfit:off+cells.size≤n) (h1:cells.all (·.oneCell')=true)
  (h:∀cs:Array Value,(∀c t,w.heap[g]?=some (.cells c t (0,0))→cs.size=c.size)→wpList P ops Q rest (a.put o.dst undef) (w.setRow g cs)):wpList P ops Q (o::rest) a w:=by
 obtain ⟨c,t,hg,hn⟩:=hr
 obtain ⟨cs,hs,hz⟩:=qrXw (P:=P) w g off t ty c cells hg hi (by omega) h1
 refine wpList_plain hgd fun K hK=>?_
 unfold Oper.wp execOp
 simp only[ho,hx,hy,Instr.storeAt,Instr.sureAddr,Sem.run_bind,Sem.run_pure,Result.andThen_ok,hs]
 exact hK _ _ (h cs (fun c' t' h'=>by rw[hg] at h';cases h';exact hz))
def jeC7 (n:Int):Int:=if n<0 then 0 else if 65535<n then 65535 else n
theorem zFh8 (n:Int):0≤jeC7 n∧jeC7 n≤65535:=by unfold jeC7;split<;>(try split)<;>omega
theorem Xgzp (n:Int) (w:World):Calls Tryz.prog 257 #[.int .i64 n] w fun e w'=>e=.returned (.int .i64 (jeC7 n))∧w=w':=by
 have hor:n<0∨(0≤n∧65535<n)∨(0≤n∧n≤65535):=by omega
 rcases hor with h|⟨h,h2⟩|⟨h,h2⟩
 ·have HE:=hide (show 0=jeC7 n by rw[jeC7,if_pos h])
  have hd:decide (n<0)=true:=by simpa using h
  go_enter Tryz.func257,Tryz.ntmps257
  go_wp2
  all_goals (go_ret;exact ⟨jx9N (by have:=HE.out;omega),rfl⟩)
 ·have HE:=hide (show 65535=jeC7 n by rw[jeC7,if_neg (by omega),if_pos h2])
  go_enter Tryz.func257,Tryz.ntmps257
  go_wp2
  all_goals (go_ret;exact ⟨jx9N (by have:=HE.out;omega),rfl⟩)
 ·have HE:=hide (show n=jeC7 n by rw[jeC7,if_neg (by omega),if_neg (by omega)])
  go_enter Tryz.func257,Tryz.ntmps257
  go_wp2
  all_goals (go_ret;exact ⟨jx9N (by have:=HE.out;omega),rfl⟩)
theorem XO78 (n:Int) (w:World):Calls Tryz.prog 139 #[.int .i64 n] w fun e w'=>e=.returned (.int .i64 (jeC7 n))∧w=w':=by
 have hor:n<0∨(0≤n∧65535<n)∨(0≤n∧n≤65535):=by omega
 rcases hor with h|⟨h,h2⟩|⟨h,h2⟩
 ·have HE:=hide (show 0=jeC7 n by rw[jeC7,if_pos h])
  go_enter Tryz.func139,Tryz.ntmps139
  go_wp2
  all_goals (go_ret;exact ⟨jx9N (by have:=HE.out;omega),rfl⟩)
 ·have HE:=hide (show 65535=jeC7 n by rw[jeC7,if_neg (by omega),if_pos h2])
  go_enter Tryz.func139,Tryz.ntmps139
  go_wp2
  all_goals (go_ret;exact ⟨jx9N (by have:=HE.out;omega),rfl⟩)
 ·have HE:=hide (show n=jeC7 n by rw[jeC7,if_neg (by omega),if_neg (by omega)])
  go_enter Tryz.func139,Tryz.ntmps139
  go_wp2
  all_goals (go_ret;exact ⟨jx9N (by have:=HE.out;omega),rfl⟩)
def qdne (n:Int):Bool:=decide (0≤n∧n≤3)
theorem qtgz (n:Int) (w:World):Calls Tryz.prog 71 #[.int .i64 n] w fun e w'=>e=.returned (.bool (qdne n))∧Below w.heap.size w w':=by
 have HS:=hide (show allIn 0 3 [n]=qdne n by simp[allIn,qdne])
 go_enter Tryz.func71,Tryz.ntmps71
 go_wp2_with fail
 refine (qFis 0 3 _ [n] _ (ints1 w n)).mono ?_
 rintro e w1 ⟨rfl,rfl⟩
 rw[HS.out]
 go_wp2
 go_ret
 exact ⟨rfl,qUNz _ _⟩
theorem XSSj (W H:Int) (X Y WN k:Nat) (hW:W=WN) (hk:Y*WN+X=k) (hb:k≤4096) (w:World) :
  Calls Tryz.prog 42 #[.agg #[.int .i64 W,.int .i64 H],.agg #[.int .i64 X,.int .i64 Y]] w fun e w'=>e=.returned (.int .i64 k)∧Below w.heap.size w w':=by
 subst hW
 obtain ⟨M,hM⟩:∃M:Nat,M=Y*WN:=⟨_,rfl⟩
 have hmm:(Y:Int)*(WN:Int)=(M:Int):=by rw[hM];simp
 rw[←hM] at hk
 have hat:(M:Int)+(X:Int)=(k:Int):=by omega
 clear hM
 go_enter Tryz.func42,Tryz.ntmps42
 go_wp2
 go_ret
 exact ⟨rfl,quJN (qUNz _ _) (qUNz _ _)⟩
def hasB (W H x y:Int):Bool:=decide (0≤x∧x<W∧0≤y∧y<H)
theorem z7Cs (W H x y:Int) (w:World) :
  Calls Tryz.prog 170 #[.agg #[.int .i64 W,.int .i64 H],.agg #[.int .i64 x,.int .i64 y]] w fun e w'=>e=.returned (.bool (hasB W H x y))∧Below w.heap.size w w':=by
 have hor:(0≤x∧x<W∧0≤y∧y<H)∨(0≤x∧x<W∧0≤y∧¬y<H)∨(0≤x∧x<W∧¬0≤y)∨(0≤x∧¬x<W)∨¬0≤x:=by omega
 obtain ⟨R,hR⟩:∃R,hasB W H x y=R:=⟨_,rfl⟩
 rw[hR]
 rcases hor with ⟨a,b,c,d⟩|⟨a,b,c,d⟩|⟨a,b,c⟩|⟨a,b⟩|a
 ·have HE:=hide (show true=R by rw[←hR,hasB];symm;simp;omega)
  clear hR
  go_enter Tryz.func170,Tryz.ntmps170
  go_wp2
  go_ret
  exact ⟨j3Zs HE.out,quJN (qUNz _ _) (qUNz _ _)⟩
 all_goals
  have HE:=hide (show false=R by rw[←hR,hasB];symm;simp;omega)
  clear hR
  go_enter Tryz.func170,Tryz.ntmps170
  go_wp2
  go_ret
  exact ⟨j3Zs HE.out,quJN (qUNz _ _) (qUNz _ _)⟩
theorem qFLz (n b:Int) (hb:0<b):(n<n.tdiv b*b∧n.tdiv b-1=n / b)∨(¬n<n.tdiv b*b∧n.tdiv b=n / b):=by
 have h1:=Int.emod_add_mul_ediv n b
 have h2:=Int.emod_nonneg n (show b≠0 by omega)
 have h3:=Int.emod_lt_of_pos n hb
 rw[Int.mul_comm] at h1
 have h4:=Int.tdiv_eq_ediv (a:=n) (b:=b)
 split at h4
 ·rename_i hor
  right
  rw[h4,Int.add_zero]
  exact ⟨by omega,rfl⟩
 ·rename_i hno
  left
  rw[Int.sign_eq_one_of_pos hb] at h4
  rw[h4,Int.add_mul,Int.one_mul]
  exact ⟨by omega,by omega⟩
theorem jPXH (n b:Int) (hb:1≤b) (hb2:b≤65536) (h0:-5000000000≤n) (h1:n≤5000000000) (w:World) :
  Calls Tryz.prog 143 #[.int .i64 n,.int .i64 b] w fun e w'=>e=.returned (.int .i64 (n / b))∧w=w':=by
 have hf:=qFLz n b (by omega)
 have hr1:-5000000001≤n / b:=Int.le_ediv_of_mul_le (by omega) (by omega)
 have hr2:n / b≤5000000001:=Int.ediv_le_of_le_mul (by omega) (by omega)
 have e1:=Int.emod_add_mul_ediv n b
 have e2:=Int.emod_nonneg n (show b≠0 by omega)
 have e3:=Int.emod_lt_of_pos n (show 0<b by omega)
 obtain ⟨q,hq⟩:∃q,n.tdiv b=q:=⟨_,rfl⟩
 obtain ⟨P,hP⟩:∃P,q*b=P:=⟨_,rfl⟩
 have hqb:(-5000000001≤q∧q≤5000000002)∧(-5000065537≤P∧P≤5000065537):=by
  rw[Int.mul_comm] at e1
  rcases hf with ⟨_,he⟩|⟨_,he⟩
  ·rw[hq] at he
   have:P=n / b*b+b:=by rw[←hP,show q=n / b+1 by omega,Int.add_mul,Int.one_mul]
   omega
  ·rw[hq] at he
   have:P=n / b*b:=by rw[←hP,he]
   omega
 obtain ⟨⟨hq1,hq2⟩,hP1,hP2⟩:=hqb
 rw[hq,hP] at hf
 clear e1 e2 e3
 have hbz:(b == 0)=false:=by simp;omega
 rcases hf with ⟨ht,he⟩|⟨ht,he⟩
 ·have hd:decide (n<P)=true:=by simpa using ht
  have HE:=hide he
  clear ht he hr1 hr2
  go_enter Tryz.func143,Tryz.ntmps143
  go_wp2
  go_ret
  exact ⟨jx9N HE.out,rfl⟩
 ·have hd:decide (n<P)=false:=by simpa using ht
  have HE:=hide he
  clear ht he hr1 hr2
  go_enter Tryz.func143,Tryz.ntmps143
  go_wp2
  go_ret
  exact ⟨jx9N HE.out,rfl⟩
abbrev Mv:=Bool×Bool×Bool
def mvL:List Mv:=[(false,false,false),(false,true,false),(false,true,true),(false,false,true),(true,false,false),(true,false,true),(true,true,true),(true,true,false)]
def mvAt (k:Nat):Mv:=mvL.getD k (false,false,false)
abbrev mvA (m:Mv):Array Value:=#[.bool m.1,.bool m.2.1,.bool m.2.2]
def zR7W (w:World):Prop:=0<w.heap.size∧∀k,k<8→w.cell? ⟨0,k*3,none⟩=some (.bool (mvAt k).1)∧w.cell? ⟨0,k*3+1,none⟩=some (.bool (mvAt k).2.1)∧w.cell? ⟨0,k*3+2,none⟩=some (.bool (mvAt k).2.2)
theorem zR7W.below {w w':World} {B:Nat} (h:zR7W w) (hb:Below B w w') (hB:w.heap.size≤B):zR7W w':=by
 have h0:=h.1
 refine ⟨kg h.1 hb.size,fun k hk=>?_⟩
 obtain ⟨c0,c1,c2⟩:=h.2 k hk
 exact ⟨(hb.cell (p:=⟨0,k*3,none⟩) (show 0<B by omega)).trans c0,(hb.cell (p:=⟨0,k*3+1,none⟩) (show 0<B by omega)).trans c1,(hb.cell (p:=⟨0,k*3+2,none⟩) (show 0<B by omega)).trans c2⟩
theorem zR7W.alloc {w:World} (h:zR7W w) (o:Obj):zR7W (w.alloc o):=h.below (qUNz w o) (ke _)
def howOk (how:Int):Bool:=decide (1≤how∧how≤8)
def howE (how:Int):Int:=if howOk how=true then 0 else 3
def mvOf (how:Int):Mv:=if howOk how=true then mvAt (how.toNat-1) else (false,false,false)
theorem jmuP (w:World) (o:Obj) (n:Int):jCvT ((w.alloc o).alloc (.cells #[.int .i64 n] 3)) (.slice (some ⟨w.heap.size+1,0,none⟩) 1 1) [n]:=by
 have h:=ints1 (w.alloc o) n
 rw[World.size_alloc] at h
 exact h
abbrev mvZ:Obj:=ka #[.bool false,.bool false,.bool false] 119
theorem qq5i (k:Nat) (hk:k<8) (w:World) (hm:zR7W w) :
  Calls Tryz.prog 59 #[.int .i64 ((k:Int)+1)] w fun e w'=>e=.returned (.tuple #[.agg (mvA (mvAt k)),.int .i64 0])∧Below w.heap.size w w':=by
 have HS:=hide (show allIn 1 8 [(k:Int)+1]=true by simp[allIn];omega)
 have HB:=hide (be2 w mvZ (ka #[.int .i64 ((k:Int)+1)] 3))
 obtain ⟨z,_⟩:=al2 w mvZ (ka #[.int .i64 ((k:Int)+1)] 3)
 obtain ⟨a0,b0,c0⟩:=(hm.below HB.out (ke _)).2 k hk
 obtain ⟨⟨x0,x1,x2⟩,hM⟩:∃M,mvAt k=M:=⟨_,rfl⟩
 rw[hM] at a0 b0 c0 ⊢
 obtain ⟨z0,z1,z2⟩:=z5EY z
 have f0:=kc z 0
 have f1:=kc z 1
 have f2:=kc z 2
 have HF:=hide (fun x y t=>zHqh HB.out (ke _) x y t)
 clear hM hm z
 go_enter Tryz.func59,Tryz.ntmps59
 go_wp2_with fail
 refine (qFis 1 8 _ [(k:Int)+1] _ (jmuP w mvZ _)).mono ?_
 rintro e w1 ⟨rfl,rfl⟩
 rw[HS.out]
 generalize (w.alloc mvZ).alloc (ka #[.int .i64 ((k:Int)+1)] 3)=U at *
 have hix:IntKind.i64.wrap ((k:Int)+1-1)=k:=by rw[Int.add_sub_cancel];exact IntWalk.i64_in _ (by omega)
 go_wp2
 exact bodyPost_ret (v:=.tuple #[.agg #[.bool x0,.bool x1,.bool x2],.int .i64 0]) (by simp[results,Tryz.results59,go_sem,z0,z1,z2]) rfl ⟨rfl,HF.out _ _ _⟩
theorem qUbR (how:Int) (hh:howOk how=false) (w:World) :
  Calls Tryz.prog 59 #[.int .i64 how] w fun e w'=>e=.returned (.tuple #[.agg (mvA (false,false,false)),.int .i64 3])∧Below w.heap.size w w':=by
 have HS:=hide (show allIn 1 8 [how]=false by simpa [allIn,howOk] using hh)
 have HB:=hide (be2 w mvZ (ka #[.int .i64 how] 3))
 obtain ⟨z,_⟩:=al2 w mvZ (ka #[.int .i64 how] 3)
 obtain ⟨z0,z1,z2⟩:=z5EY z
 have f0:=kc z 0
 have f1:=kc z 1
 have f2:=kc z 2
 have HF:=hide (fun x y t=>zHqh HB.out (ke _) x y t)
 clear z hh
 go_enter Tryz.func59,Tryz.ntmps59
 go_wp2_with fail
 refine (qFis 1 8 _ [how] _ (jmuP w mvZ how)).mono ?_
 rintro e w1 ⟨rfl,rfl⟩
 rw[HS.out]
 generalize (w.alloc mvZ).alloc (ka #[.int .i64 how] 3)=U at *
 go_wp2
 exact bodyPost_ret (v:=.tuple #[.agg #[.bool false,.bool false,.bool false],.int .i64 3]) (by simp[results,Tryz.results59,go_sem,z0,z1,z2]) rfl ⟨rfl,HF.out _ _ _⟩
abbrev tabA:Array Value:=#[.bool false,.bool false,.bool false,.bool false,.bool true,.bool false,.bool false,.bool true,.bool true,.bool false,.bool false,.bool true,.bool true,.bool false,.bool false,.bool true,.bool false,.bool true,.bool true,.bool true,.bool true,.bool true,.bool true,.bool false]
def qPp5 (m:Mv) (W H:Int):Int:=if m.1=true then H else W
def srcX (m:Mv) (W x y:Int):Int:=if m.2.1=true then W-1-(if m.1=true then y else x) else if m.1=true then y else x
def srcY (m:Mv) (H x y:Int):Int:=if m.2.2=true then H-1-(if m.1=true then x else y) else if m.1=true then x else y
theorem zPoh (m:Mv) (W H:Int) (w:World):Calls Tryz.prog 60 #[.agg (mvA m),.agg #[.int .i64 W,.int .i64 H]] w fun e w'=>e=.returned (.agg #[.int .i64 (qPp5 m W H),.int .i64 (qPp5 m H W)])∧Below w.heap.size w w':=by
 obtain ⟨x,y,z⟩:=m
 cases x
 all_goals
  go_enter Tryz.func60,Tryz.ntmps60
  go_wp2
  refine bodyPost_ret (by simp[results,Tryz.results60,go_sem];rfl) rfl ⟨?_,be3 w _ _ _⟩
  rfl
theorem j1Mh (m:Mv) (W H x y:Int) (hW:0≤W∧W≤64) (hH:0≤H∧H≤64) (hx:0≤x∧x≤64) (hy:0≤y∧y≤64) (w:World):Calls Tryz.prog 62 #[.agg (mvA m),.agg #[.int .i64 W,.int .i64 H],.agg #[.int .i64 x,.int .i64 y]] w fun e w'=>e=.returned (.agg #[.int .i64 (srcX m W x y),.int .i64 (srcY m H x y)])∧Below w.heap.size w w':=by
 obtain ⟨a,b,c⟩:=m
 cases a<;>cases b<;>cases c
 all_goals
  go_enter Tryz.func62,Tryz.ntmps62
  go_wp2
  refine bodyPost_ret (by simp[results,Tryz.results62,go_sem];rfl) rfl ⟨?_,be4 w _ _ _ _⟩
  rfl
def pxOk (p:Px):Bool:=allIn 0 65535 [p.1,p.2.1,p.2.2]
def pxsOk (ps:List Px):Bool:=ps.all pxOk
def picOk (W H:Int) (ps:List Px):Bool:=jcbm W H ps.length && pxsOk ps
theorem jS1c (ps:List Px) (p:Px):pxsOk (ps++[p])=(pxsOk ps && pxOk p):=by simp[pxsOk]
theorem zaZJ (ps:List Px) (k:Nat) (hk:k<ps.length) (h:pxOk ps[k]=false):pxsOk ps=false:=by
 rw[Bool.eq_false_iff];intro he
 have:=List.all_eq_true.1 he _ (List.getElem_mem hk)
 rw[h] at this;cases this
theorem X1aR (p:Px):pxOk p=true↔(0≤p.1∧p.1≤65535)∧(0≤p.2.1∧p.2.1≤65535)∧(0≤p.2.2∧p.2.2≤65535):=by simp[pxOk,allIn]
theorem XMjn {W H:Int} {ps:List Px} (h:picOk W H ps=true):(1≤W∧W≤64)∧(1≤H∧H≤64)∧(ps.length:Int)=W*H∧pxsOk ps=true:=by
 simp only[picOk,jcbm,jbTy,ko,decide_eq_true_eq] at h
 exact ⟨h.1.1.1,h.1.1.2,h.1.2,h.2⟩
theorem ints3 (w:World) (a b c:Int):jCvT (w.alloc (.cells #[.int .i64 a,.int .i64 b,.int .i64 c] 3)) (.slice (some ⟨w.heap.size,0,none⟩) 3 3) [a,b,c] :=
 jCvT.own (base:=w.heap.size) (World.ownsRow_lit w #[.int .i64 a,.int .i64 b,.int .i64 c] 3 (ke _) (by decide) (by simp)) (by simp)
theorem XDTU (W H:Int) (v:Value) (ps:List Px) (w:World) (hv:IsPix w v ps) :
  Calls Tryz.prog 27 #[.agg #[.int .i64 W,.int .i64 H,v]] w fun e w'=>e=.returned (.bool (picOk W H ps))∧Below w.heap.size w w':=by
 have HV:=hide hv
 obtain ⟨ao,ca,rfl,hla,hc⟩:=hv
 by_cases h1:jcbm W H ps.length=true
 ·have HE:=hide (show pxsOk ps=picOk W H ps by rw[picOk,h1];rfl)
  have hpos:1≤ps.length:=by
   simp only[jcbm,jbTy,ko,decide_eq_true_eq] at h1
   have:=zAFj h1.1.1 h1.1.2
   omega
  obtain ⟨bk,off,hao,hbl,hcell⟩:∃b off,ao=some ⟨b,off,none⟩∧b<w.heap.size∧∀j (h:j<ps.length),
   w.cell? ⟨b,off+j*3,none⟩=some (.int .i64 ps[j].1)∧w.cell? ⟨b,off+j*3+1,none⟩=some (.int .i64 ps[j].2.1)∧w.cell? ⟨b,off+j*3+2,none⟩=some (.int .i64 ps[j].2.2):=by
   rcases hc with h|h
   ·subst h;simp at hpos
   ·exact h
  subst hao
  have HCELL:=hide hcell;clear hcell hc
  go_enter Tryz.func27,Tryz.ntmps27
  go_wp2_with fail
  refine (q58J _ _ _ _).mono ?_
  rintro e w1 ⟨rfl,hb1⟩
  rw[h1]
  have c2:=(pl3 hb1).2.2
  have hW:=quJN (qUNz w _) hb1
  clear hb1
  go_wp2_with fail
  go_loopw [17] (fun i wr=>∃k:Nat,k≤ps.length∧i=.int .i64 k∧Hid (pxsOk (ps.take k)=true)∧Below w.heap.size w wr) (fun i _=>ps.length-(intOf i).toNat)
  case atStart=>exact ⟨0,kj _,rfl,rfl,hW⟩
  case round =>
   clear c2 hW
   obtain ⟨k,hk,rfl,HA,hbel⟩:=hrel
   by_cases hlt:k<ps.length
   ·have hd:decide ((k:Int)<(ps.length:Int))=true:=by simp;omega
    have c0:=(hbel.cell (p:=⟨bk,off+k*3,none⟩) hbl).trans (HCELL.out k hlt).1
    have c1:=(hbel.cell (p:=⟨bk,off+k*3+1,none⟩) hbl).trans (HCELL.out k hlt).2.1
    have c2:=(hbel.cell (p:=⟨bk,off+k*3+2,none⟩) hbl).trans (HCELL.out k hlt).2.2
    go_wp2_with fail
    refine (qFis 0 65535 _ [ps[k].1,ps[k].2.1,ps[k].2.2] _ (by have:=ints3 (wr.alloc (ka #[.int .i64 ps[k].1,.int .i64 ps[k].2.1,.int .i64 ps[k].2.2] 61)) ps[k].1 ps[k].2.1 ps[k].2.2;rw[World.size_alloc] at this;exact this)).mono ?_
    rintro e w2 ⟨rfl,rfl⟩
    have hbel2:=(hbel.alloc hbel.size (ka #[.int .i64 ps[k].1,.int .i64 ps[k].2.1,.int .i64 ps[k].2.2] 61)).alloc (by have:=hbel.size;simp;omega) (ka #[.int .i64 ps[k].1,.int .i64 ps[k].2.1,.int .i64 ps[k].2.2] 3)
    change Hid _ at HA
    by_cases hx:pxOk ps[k]=true
    ·have HT:=hide (show pxsOk (ps.take (k+1))=true by rw[kh hlt,jS1c,HA.out,hx];rfl)
     rw[show allIn 0 65535 [ps[k].1,ps[k].2.1,ps[k].2.2]=true from hx]
     clear hx
     go_wp2
     go_roundw
     case rel=>exact ⟨k+1,by omega,by go_num,HT,hbel2⟩
     case measure=>simp[intOf];omega
    ·have hx:pxOk ps[k]=false:=by simpa using hx
     have HX:=hide (show false=picOk W H ps by rw[←HE.out,zaZJ ps k hlt hx])
     rw[show allIn 0 65535 [ps[k].1,ps[k].2.1,ps[k].2.2]=false from hx]
     clear hx
     go_wp2
     go_ret
     exact ⟨j3Zs HX.out,hbel2⟩
   ·have hd:decide ((k:Int)<(ps.length:Int))=false:=by simp;omega
    have HX:=hide (show true=picOk W H ps by rw[←HE.out,←HA.out,kl (by omega)])
    go_wp2
    go_ret
    exact ⟨j3Zs HX.out,hbel⟩
 ·have h1:jcbm W H ps.length=false:=by simpa using h1
  have HE:=hide (show false=picOk W H ps by rw[picOk,h1];rfl)
  go_enter Tryz.func27,Tryz.ntmps27
  go_wp2_with fail
  refine (q58J _ _ _ _).mono ?_
  rintro e w1 ⟨rfl,hb1⟩
  rw[h1]
  go_wp2
  go_ret
  exact ⟨j3Zs HE.out,quJN (qUNz _ _) hb1⟩
theorem zjXb (p:Px) (w:World):Calls Tryz.prog 35 #[pixV p] w fun e w'=>e=.returned (pixV p)∧Below w.heap.size w w':=by
 go_enter Tryz.func35,Tryz.ntmps35
 go_wp2
 exact bodyPost_ret (v:=pixV p) (by simp[results,Tryz.results35,go_sem]) rfl ⟨rfl,quJN (qUNz _ _) (qUNz _ _)⟩
theorem qif0 (p:Px) (w:World):Calls Tryz.prog 44 #[pixV p] w fun e w'=>e=.returned (pixV p)∧Below w.heap.size w w':=by
 go_enter Tryz.func44,Tryz.ntmps44
 go_wp2
 exact bodyPost_ret (v:=pixV p) (by simp[results,Tryz.results44,go_sem]) rfl ⟨rfl,quJN (qUNz _ _) (qUNz _ _)⟩
def XbQH (n:Int):Bool:=decide (0≤n∧n≤1024)
theorem Xfvu (n:Int) (w:World):Calls Tryz.prog 149 #[.int .i64 n] w fun e w'=>e=.returned (.bool (XbQH n))∧Below w.heap.size w w':=by
 have HS:=hide (show allIn 0 1024 [n]=XbQH n by simp[allIn,XbQH])
 go_enter Tryz.func149,Tryz.ntmps149
 go_wp2_with fail
 refine (qFis 0 1024 _ [n] _ (ints1 w n)).mono ?_
 rintro e w1 ⟨rfl,rfl⟩
 rw[HS.out]
 go_wp2
 go_ret
 exact ⟨rfl,qUNz _ _⟩
def sameB (W1 H1:Int) (ps:List Px) (W2 H2:Int) (qs:List Px):Bool:=decide (W1=W2∧H1=H2∧ps=qs)
theorem box2 {w:World} {x y:Array Value} {t:TypeId} {w':World} (hb:Below ((w.alloc (.cells x t)).alloc (.cells y t)).heap.size ((w.alloc (.cells x t)).alloc (.cells y t)) w') :
  w'.heap[w.heap.size]?=some (.cells x t (0,0))∧w'.heap[w.heap.size+1]?=some (.cells y t (0,0)):=by
 constructor
 ·rw[hb.block _ (by simp;omega),Below.heap_alloc _ _ _ (by simp)];exact heap_alloc_new w _
 ·rw[hb.block _ (by simp)]
  have h:=heap_alloc_new (w.alloc (.cells x t)) (.cells y t)
  rw[World.size_alloc] at h;exact h
theorem XIqO (W1 H1:Int) (va:Value) (ps:List Px) (W2 H2:Int) (vb:Value) (qs:List Px) (w:World) (ha:IsPix w va ps) (hb:IsPix w vb qs) :
  Calls Tryz.prog 14 #[.agg #[.int .i64 W1,.int .i64 H1,va],.agg #[.int .i64 W2,.int .i64 H2,vb]] w fun e w'=>e=.returned (.bool (sameB W1 H1 ps W2 H2 qs))∧Below w.heap.size w w':=by
 obtain ⟨ao,ca,rfl,hla,ha⟩:=ha
 obtain ⟨bo,cb,rfl,hlb,hb⟩:=hb
 obtain ⟨R,hR⟩:∃R,sameB W1 H1 ps W2 H2 qs=R:=⟨_,rfl⟩
 rw[hR]
 have HR:=hide hR
 clear hR
 have HB:=hide (quJN (qUNz w (.cells #[.int .i64 W1,.int .i64 H1,.slice ao ps.length ca] 24)) (qUNz _ (.cells #[.int .i64 W2,.int .i64 H2,.slice bo qs.length cb] 24)))
 obtain ⟨k1,k2⟩:=box2 (w:=w) (x:=#[.int .i64 W1,.int .i64 H1,.slice ao ps.length ca]) (y:=#[.int .i64 W2,.int .i64 H2,.slice bo qs.length cb]) (t:=24) (kf _ _)
 obtain ⟨e0,e1,e2⟩:=z5EY k1
 obtain ⟨f0,f1,f2⟩:=z5EY k2
 clear k1 k2
 by_cases hW:W1=W2
 ·subst hW
  have hWb:(W1 != W1)=false:=by simp
  by_cases hH:H1=H2
  ·subst hH
   have hHb:(H1 != H1)=false:=by simp
   have HR2:=hide (show R=decide (ps=qs) by rw[←HR.out,sameB];simp)
   clear HR
   by_cases hl:ps.length=qs.length
   ·have hlb2:((ps.length:Int) != (qs.length:Int))=false:=by simp[hl]
    by_cases h0:ps.length=0
    ·obtain rfl:=km h0
     obtain rfl:=km (hl.symm.trans h0)
     have HX:=hide (show true=R by rw[HR2.out];rfl)
     clear ha hb h0 hl hlb2
     go_enter Tryz.func14,Tryz.ntmps14
     go_wp2
     go_loop [5] (fun i=>i=.int .i64 0) (fun _=>0)
     case atStart=>rfl
     case round =>
      subst hrel
      go_wp2
      go_ret
      exact ⟨j3Zs HX.out,HB.out⟩
    ·obtain ⟨ba,oa,hao,hba,hca⟩:∃b off,ao=some ⟨b,off,none⟩∧b<w.heap.size∧∀j (h:j<ps.length),
       w.cell? ⟨b,off+j*3,none⟩=some (.int .i64 ps[j].1)∧w.cell? ⟨b,off+j*3+1,none⟩=some (.int .i64 ps[j].2.1)∧w.cell? ⟨b,off+j*3+2,none⟩=some (.int .i64 ps[j].2.2):=by
      rcases ha with h|h
      ·subst h;exact absurd rfl h0
      ·exact h
     obtain ⟨bb,ob,hbo,hbb,hcb⟩:∃b off,bo=some ⟨b,off,none⟩∧b<w.heap.size∧∀j (h:j<qs.length),
       w.cell? ⟨b,off+j*3,none⟩=some (.int .i64 qs[j].1)∧w.cell? ⟨b,off+j*3+1,none⟩=some (.int .i64 qs[j].2.1)∧w.cell? ⟨b,off+j*3+2,none⟩=some (.int .i64 qs[j].2.2):=by
      rcases hb with h|h
      ·subst h;exact absurd hl h0
      ·exact h
     subst hao
     subst hbo
     have HCA:=hide hca;clear hca ha
     have HCB:=hide hcb;clear hcb hb
     have HL:=hide hl;clear hl
     go_enter Tryz.func14,Tryz.ntmps14
     go_wp2_with fail
     generalize (w.alloc (.cells #[.int .i64 W1,.int .i64 H1,.slice (some ⟨ba,oa,none⟩) ps.length ca] 24)).alloc (.cells #[.int .i64 W1,.int .i64 H1,.slice (some ⟨bb,ob,none⟩) qs.length cb] 24)=W0 at *
     go_loopw [5] (fun i wr=>∃k:Nat,k≤ps.length∧i=.int .i64 k∧Hid (ps.take k=qs.take k)∧(∃n,wr=W0.drewN n)) (fun i _=>ps.length-(intOf i).toNat)
     case atStart=>exact ⟨0,kj _,rfl,rfl,0,rfl⟩
     case round =>
      obtain ⟨k,hk,rfl,HT,nn,rfl⟩:=hrel
      by_cases hlt:k<ps.length
      ·have hlt2:k<qs.length:=by have:=HL.out;omega
       have a0:=(HB.out.cell (p:=⟨ba,oa+k*3,none⟩) hba).trans (HCA.out k hlt).1
       have a1:=(HB.out.cell (p:=⟨ba,oa+k*3+1,none⟩) hba).trans (HCA.out k hlt).2.1
       have a2:=(HB.out.cell (p:=⟨ba,oa+k*3+2,none⟩) hba).trans (HCA.out k hlt).2.2
       have b0:=(HB.out.cell (p:=⟨bb,ob+k*3,none⟩) hbb).trans (HCB.out k hlt2).1
       have b1:=(HB.out.cell (p:=⟨bb,ob+k*3+1,none⟩) hbb).trans (HCB.out k hlt2).2.1
       have b2:=(HB.out.cell (p:=⟨bb,ob+k*3+2,none⟩) hbb).trans (HCB.out k hlt2).2.2
       have HTK:=hide (show ps[k]=qs[k]→ps.take (k+1)=qs.take (k+1) from fun he=>by
        rw[kh hlt,kh hlt2,HT.out,he])
       have HNE:=hide (show ¬ps[k]=qs[k]→false=R from fun he=>by
        rw[HR2.out];symm;simp only[decide_eq_false_iff_not];exact fun h=>he (by subst h;rfl))
       obtain ⟨⟨p1,p2,p3⟩,hp⟩:∃p,ps[k]=p:=⟨_,rfl⟩
       obtain ⟨⟨q1,q2,q3⟩,hq⟩:∃q,qs[k]=q:=⟨_,rfl⟩
       rw[hp] at a0 a1 a2
       rw[hq] at b0 b1 b2
       rw[hp,hq] at HTK HNE
       clear hp hq
       simp only at a0 a1 a2 b0 b1 b2
       by_cases h1:p1=q1
       ·by_cases h2:p2=q2
        ·by_cases h3:p3=q3
         ·subst h1;subst h2;subst h3
          have HT2:=hide (HTK.out rfl)
          clear HTK HNE
          go_wp2
          go_region
          go_wp2
          go_roundw
          case rel=>exact ⟨k+1,by omega,by go_num,HT2,nn+1,rfl⟩
          case measure=>simp[intOf];omega
         ·have HX:=hide (HNE.out (fun h=>h3 (by cases h;rfl)))
          subst h1;subst h2
          clear HTK HNE
          go_wp2
          go_region
          go_wp2
          go_ret
          exact ⟨j3Zs HX.out,below_drewN HB.out _⟩
        ·have HX:=hide (HNE.out (fun h=>h2 (by cases h;rfl)))
         subst h1
         clear HTK HNE
         go_wp2
         go_region
         go_wp2
         go_ret
         exact ⟨j3Zs HX.out,below_drewN HB.out _⟩
       ·have HX:=hide (HNE.out (fun h=>h1 (by cases h;rfl)))
        clear HTK HNE
        go_wp2
        go_region
        go_wp2
        go_ret
        exact ⟨j3Zs HX.out,below_drewN HB.out _⟩
      ·have HX:=hide (show true=R by
        have h:=HT.out
        rw[kl (by omega),kl (by have:=HL.out;omega)] at h
        rw[HR2.out];symm;simp[h])
       go_wp2
       go_ret
       exact ⟨j3Zs HX.out,below_drewN HB.out _⟩
   ·have HX:=hide (show false=R by rw[HR2.out];symm;simp only[decide_eq_false_iff_not];exact fun h=>hl (by rw[h]))
    have hlb2:((ps.length:Int) != (qs.length:Int))=true:=by simp;omega
    clear hl
    go_enter Tryz.func14,Tryz.ntmps14
    go_wp2
    go_ret
    exact ⟨j3Zs HX.out,HB.out⟩
  ·have HX:=hide (show false=R by rw[←HR.out,sameB];symm;simp[hH])
   have hHb:(H1 != H2)=true:=by simpa using hH
   clear hH
   go_enter Tryz.func14,Tryz.ntmps14
   go_wp2
   go_ret
   exact ⟨j3Zs HX.out,HB.out⟩
 ·have HX:=hide (show false=R by rw[←HR.out,sameB];symm;simp[hW])
  have hWb:(W1 != W2)=true:=by simpa using hW
  clear hW
  go_enter Tryz.func14,Tryz.ntmps14
  go_wp2
  go_ret
  exact ⟨j3Zs HX.out,HB.out⟩
theorem heldQ (n:Int) (w:World):Calls Tryz.prog 257 #[.int .i64 n] w fun e w'=>e=.returned (.int .i64 (jeC7 n))∧w'=w :=
 (Xgzp n w).mono fun _ _ h=>⟨h.1,h.2.symm⟩
theorem z2et {a r A R:Int} (h1:-A≤a) (h2:a≤A) (h3:0≤r) (h4:r≤R) (hA:0≤A):-(A*R)≤a*r∧a*r≤A*R:=by
 have q1:=Int.mul_le_mul_of_nonneg_right h2 h3
 have q2:=Int.mul_le_mul_of_nonneg_right h1 h3
 have q3:=Int.mul_le_mul_of_nonneg_left h4 hA
 rw[Int.neg_mul] at q2
 omega
def mixV (a b c r g u:Int):Int:=jeC7 ((a*r+b*g+c*u) / 4096)
theorem qkO7 (i:Nat) (hi:i≤6) (Bm Bv:Nat) (a b c r g u:Int) (ha1:-32768≤a) (ha2:a≤32768) (hb1:-32768≤b) (hb2:b≤32768) (hc1:-32768≤c) (hc2:c≤32768)
  (hr1:0≤r) (hr2:r≤65535) (hg1:0≤g) (hg2:g≤65535) (hu1:0≤u) (hu2:u≤65535) (V:World)
  (m0:V.cell? ⟨Bm,i,none⟩=some (.int .i64 a)) (m1:V.cell? ⟨Bm,i+1,none⟩=some (.int .i64 b)) (m2:V.cell? ⟨Bm,i+2,none⟩=some (.int .i64 c))
  (v0:V.cell? ⟨Bv,0,none⟩=some (.int .i64 r)) (v1:V.cell? ⟨Bv,1,none⟩=some (.int .i64 g)) (v2:V.cell? ⟨Bv,2,none⟩=some (.int .i64 u)) :
  Calls Tryz.prog 272 #[.int .i64 i,.pointer (some ⟨Bm,0,none⟩),.pointer (some ⟨Bv,0,none⟩)] V fun e w'=>e=.returned (.int .i64 (mixV a b c r g u))∧∃n,w'=V.drewN n:=by
 have HE:=hide (show mixV a b c r g u=jeC7 ((a*r+b*g+c*u) / 4096) from rfl)
 generalize mixV a b c r g u=M at *
 have p1:=z2et ha1 ha2 hr1 hr2 (by omega)
 have p2:=z2et hb1 hb2 hg1 hg2 (by omega)
 have p3:=z2et hc1 hc2 hu1 hu2 (by omega)
 obtain ⟨A,hA⟩:∃A,a*r=A:=⟨_,rfl⟩
 obtain ⟨B,hB⟩:∃B,b*g=B:=⟨_,rfl⟩
 obtain ⟨C,hC⟩:∃C,c*u=C:=⟨_,rfl⟩
 rw[hA] at p1
 rw[hB] at p2
 rw[hC] at p3
 rw[hA,hB,hC] at HE
 clear ha1 ha2 hb1 hb2 hc1 hc2 hr1 hr2 hg1 hg2 hu1 hu2
 obtain ⟨p1a,p1b⟩:=p1
 obtain ⟨p2a,p2b⟩:=p2
 obtain ⟨p3a,p3b⟩:=p3
 go_enter Tryz.func272,Tryz.ntmps272
 go_wp2
 go_quiet ((go_at_call 257;exact Calls.quiet_of_same (heldQ _ _)))
 go_wp2
 go_ret
 exact ⟨jx9N HE.out.symm,nq,rfl⟩
def mixP (m:Nat→Int) (p:Px):Px:=(mixV (m 0) (m 1) (m 2) p.1 p.2.1 p.2.2,mixV (m 3) (m 4) (m 5) p.1 p.2.1 p.2.2,mixV (m 6) (m 7) (m 8) p.1 p.2.1 p.2.2)
theorem jpF6 (Bm:Nat) (m:Nat→Int) (hm:∀k,k<9→-32768≤m k∧m k≤32768) (p:Px) (hp:pxOk p=true) (V:World) (hB:Bm<V.heap.size)
  (hc:∀k,k<9→V.cell? ⟨Bm,k,none⟩=some (.int .i64 (m k))) :
  Calls Tryz.prog 271 #[pixV p,.pointer (some ⟨Bm,0,none⟩)] V fun e w'=>e=.returned (pixV (mixP m p))∧Below V.heap.size V w':=by
 obtain ⟨⟨r1,r2⟩,⟨g1,g2⟩,u1,u2⟩:=(X1aR p).1 hp
 obtain ⟨r,g,u⟩:=p
 simp only at r1 r2 g1 g2 u1 u2
 have HB1:=hide (quJN (qUNz V (ka #[.int .i64 r,.int .i64 g,.int .i64 u] 61)) (qUNz _ (ka #[.int .i64 0,.int .i64 0,.int .i64 0] 61)))
 have hcc:∀k,k<9→((V.alloc (ka #[.int .i64 r,.int .i64 g,.int .i64 u] 61)).alloc (ka #[.int .i64 0,.int .i64 0,.int .i64 0] 61)).cell? ⟨Bm,k,none⟩=some (.int .i64 (m k)):=fun k hk =>
  (HB1.out.cell (p:=⟨Bm,k,none⟩) hB).trans (hc k hk)
 obtain ⟨k1,k2⟩:=box2 (w:=V) (x:=#[.int .i64 r,.int .i64 g,.int .i64 u]) (y:=#[.int .i64 0,.int .i64 0,.int .i64 0]) (t:=61) (kf _ _)
 obtain ⟨v0,v1,v2⟩:=z5EY k1
 obtain ⟨z0,z1,z2⟩:=z5EY k2
 have f0:=kc k2 0
 have f1:=kc k2 1
 have f2:=kc k2 2
 clear k1 k2 hc
 have HC:=hide hcc
 have HM:=hide hm
 have HR:=hide (fun (i:Nat) (hi:i≤6) (n:Nat)=>qkO7 i hi Bm V.heap.size (m i) (m (i+1)) (m (i+2)) r g u (hm i (by omega)).1 (hm i (by omega)).2 (hm (i+1) (by omega)).1 (hm (i+1) (by omega)).2 (hm (i+2) (by omega)).1 (hm (i+2) (by omega)).2 r1 r2 g1 g2 u1 u2
  (((V.alloc (ka #[.int .i64 r,.int .i64 g,.int .i64 u] 61)).alloc (ka #[.int .i64 0,.int .i64 0,.int .i64 0] 61)).drewN n) (hcc i (by omega)) (hcc (i+1) (by omega)) (hcc (i+2) (by omega)) v0 v1 v2)
 clear hcc hm
 go_enter Tryz.func271,Tryz.ntmps271
 go_wp2_with fail
 refine (HR.out 0 (by omega) 0).mono ?_
 rintro e w1 ⟨rfl,n1,rfl⟩
 go_wp2_with fail
 refine (HR.out 3 (by omega) _).mono ?_
 rintro e w2 ⟨rfl,n2,rfl⟩
 go_wp2_with fail
 refine (HR.out 6 (by omega) _).mono ?_
 rintro e w3 ⟨rfl,n3,rfl⟩
 go_wp2
 refine bodyPost_ret (v:=pixV (mixP m (r,g,u))) (by simp[results,Tryz.results271,go_sem,mixP]) rfl ⟨rfl,?_⟩
 exact zHqh (below_drewN HB1.out _) (by omega) _ _ _
def colB (phase x y:Nat):Bool×Bool:=(decide (x % 2≠phase % 2),decide (y % 2≠phase / 2))
def colV (phase x y:Nat):Nat:=match colB phase x y with
 | (true,true)=>2
 | (true,false)=>1
 | (false,true)=>1
 | (false,false)=>0
theorem XW0z (p X Y:Nat) (hp:p≤3) (w:World) :
  Calls Tryz.prog 183 #[.int .i64 p,.int .i64 X,.int .i64 Y] w fun e w'=>e=.returned (.tuple #[.int .i64 (colV p X Y:Nat),.int .i64 0])∧Below w.heap.size w w':=by
 have hpo:qdne (p:Int)=true:=by simp[qdne];omega
 obtain ⟨C,hC⟩:∃C,colV p X Y=C:=⟨_,rfl⟩
 rw[hC]
 have hx:X % 2=0∨X % 2=1:=by omega
 have hy:Y % 2=0∨Y % 2=1:=by omega
 have hm:p % 2=0∨p % 2=1:=by omega
 have hv:p / 2=0∨p / 2=1:=by omega
 rcases hm with hm|hm<;>rcases hv with hv|hv<;>rcases hx with hx|hx<;>rcases hy with hy|hy
 all_goals
  rw[colV,colB,hx,hy,hm,hv] at hC
  simp at hC
  have HC:=hide hC.symm
  have hxi:(X:Int) % 2=((X % 2:Nat):Int):=rfl
  have hyi:(Y:Int) % 2=((Y % 2:Nat):Int):=rfl
  have hmi:(p:Int) % 2=((p % 2:Nat):Int):=rfl
  have hvi:(p:Int) / 2=((p / 2:Nat):Int):=rfl
  rw[hx] at hxi
  rw[hy] at hyi
  rw[hm] at hmi
  rw[hv] at hvi
  clear hC hx hy hm hv
  go_enter Tryz.func183,Tryz.ntmps183
  go_wp2_with fail
  refine (qtgz _ _).mono ?_
  rintro e w1 ⟨rfl,hb1⟩
  rw[hpo]
  go_wp2
  go_ret2
  rw[HC.out]
  exact ⟨rfl,hb1⟩
def XepW (W H:Int) (ls:List Pt):Bool:=ls.all fun p=>hasB W H p.1 p.2
theorem XjDF {W H:Int} {ls:List Pt} (h:∀i,i<ls.length→hasB W H (ptAt ls i).1 (ptAt ls i).2=true):XepW W H ls=true:=by
 refine List.all_eq_true.2 fun p hp=>?_
 obtain ⟨i,hi,rfl⟩:=List.getElem_of_mem hp
 rw[jU85];exact h i hi
theorem zEqn {W H:Int} {ls:List Pt} (i:Nat) (hi:i<ls.length) (h:hasB W H (ptAt ls i).1 (ptAt ls i).2=false):XepW W H ls=false:=by
 rw[Bool.eq_false_iff];intro he
 have:=List.all_eq_true.1 he ls[i] (List.getElem_mem hi)
 rw[jU85,h] at this;cases this
theorem zKbH {W H:Int} {ls:List Pt} (h:XepW W H ls=true) (i:Nat) (hi:i<ls.length):hasB W H (ptAt ls i).1 (ptAt ls i).2=true:=by
 have:=List.all_eq_true.1 h ls[i] (List.getElem_mem hi)
 rw[jU85] at this;exact this
theorem IsPts.at {w:World} {ao:Option Addr} {ca n:Nat} {ls:List Pt} (h:IsPts w (.slice ao n ca) ls) (j:Nat) (hj:j<ls.length):∃bq oq,ao=some ⟨bq,oq,none⟩∧bq<w.heap.size∧w.cell? ⟨bq,oq+j*2,none⟩=some (.int .i64 (ptAt ls j).1)∧w.cell? ⟨bq,oq+j*2+1,none⟩=some (.int .i64 (ptAt ls j).2):=by
 obtain ⟨ao',ca',e,_,hc⟩:=h
 cases e
 rcases hc with h|⟨b,off,h1,h2,h3⟩
 ·subst h;simp at hj
 ·exact ⟨b,off,h1,h2,h3 j hj⟩
theorem qdq5 (W H:Int) (v:Value) (ls:List Pt) (w:World) (hv:IsPts w v ls) :
  Calls Tryz.prog 115 #[.agg #[.int .i64 W,.int .i64 H],v] w fun e w'=>e=.returned (.bool (XepW W H ls))∧Below w.heap.size w w':=by
 obtain ⟨lo,lc,rfl,hll,hc0⟩:=hv
 have HC:=hide (fun j hj=>IsPts.at ⟨lo,lc,rfl,hll,hc0⟩ j hj)
 clear hc0
 obtain ⟨R,hR⟩:∃R,XepW W H ls=R:=⟨_,rfl⟩
 rw[hR]
 have HR:=hide hR
 clear hR
 have a1:=al1 w (ka #[.int .i64 W,.int .i64 H] 95)
 have hB:=qUNz w (ka #[.int .i64 W,.int .i64 H] 95)
 go_enter Tryz.func115,Tryz.ntmps115
 go_wp2_with fail
 have hl1:=(kb.1 a1).1
 generalize w.alloc (ka #[.int .i64 W,.int .i64 H] 95)=U at *
 go_loopw [9] (fun i wr=>∃k:Nat,k≤ls.length∧i=.int .i64 k∧Below U.heap.size U wr∧Hid (∀i,i<k→hasB W H (ptAt ls i).1 (ptAt ls i).2=true)) (fun i _=>ls.length-(intOf i).toNat)
 case atStart=>exact ⟨0,kj _,rfl,kf _ _,hide (fun i hi=>by omega)⟩
 case round =>
  obtain ⟨k,hk,rfl,hbr,HA⟩:=hrel
  have hbw:=hB.trans (hbr.mono hB.size)
  have b1:=(hbr.block _ hl1).trans a1
  by_cases hlt:k<ls.length
  ·have hd:decide ((k:Int)<(ls.length:Int))=true:=by simp;omega
   obtain ⟨bq,oq,rfl,hbq,e0,e1⟩:=HC.out k hlt
   have d0:=(hbw.cell (p:=⟨bq,oq+k*2,none⟩) hbq).trans e0
   have d1:=(hbw.cell (p:=⟨bq,oq+k*2+1,none⟩) hbq).trans e1
   have HF:=hide (fun h=>zEqn (W:=W) (H:=H) k hlt h)
   have HT:=hide (show hasB W H (ptAt ls k).1 (ptAt ls k).2=true→∀i,i<k+1→hasB W H (ptAt ls i).1 (ptAt ls i).2=true from fun hn i hi=>by
    rcases Nat.lt_succ_iff_lt_or_eq.1 hi with h|rfl
    ·exact HA.out i h
    ·exact hn)
   obtain ⟨⟨x,y⟩,hab⟩:∃p,ptAt ls k=p:=⟨_,rfl⟩
   rw[hab] at d0 d1 HF HT
   simp only at d0 d1 HF HT
   clear hab e0 e1
   have a5:=al1 wr (ka #[.int .i64 x,.int .i64 y] 97)
   have hB5:=qUNz wr (ka #[.int .i64 x,.int .i64 y] 97)
   obtain ⟨s0,s1⟩:=bx2 a5
   obtain ⟨g0,g1⟩:=bx2 ((hB5.block w.heap.size (kb.1 b1).1).trans b1)
   go_wp2_with fail
   clear s0 s1 g0 g1
   generalize wr.alloc (ka #[.int .i64 x,.int .i64 y] 97)=V5 at *
   refine (z7Cs W H x y _).mono ?_
   rintro e V6 ⟨rfl,hb6⟩
   have HB6:=hide (quJN hbr (quJN hB5 hb6))
   by_cases hh:hasB W H x y=true
   ·rw[hh]
    have HN:=hide (HT.out hh)
    go_wp2
    go_roundw
    case rel=>exact ⟨k+1,by omega,by go_num,HB6.out,HN⟩
    case measure=>simp[intOf];omega
   ·have hh:hasB W H x y=false:=by simpa using hh
    rw[hh]
    have hr:R=false:=HR.out.symm.trans (HF.out hh)
    subst hr
    go_wp2
    go_ret
    exact ⟨rfl,hB.trans (HB6.out.mono hB.size)⟩
  ·have hd:decide ((k:Int)<(ls.length:Int))=false:=by simp;omega
   have hkl:k=ls.length:=by omega
   have hr:R=true:=HR.out.symm.trans (XjDF (fun i hi=>HA.out i (by omega)))
   subst hr
   go_wp2
   go_ret
   exact ⟨rfl,hbw⟩
abbrev fourA (m:Nat→Int):Array Value:=#[.int .i64 (m 0),.int .i64 (m 1),.int .i64 (m 2),.int .i64 (m 3)]
abbrev qilW (m:Nat→Int):Array Value:=#[.int .i64 (m 0),.int .i64 (m 1),.int .i64 (m 2)]
def arrL (m:Nat→Int) (n:Nat):List Int:=(List.range n).map m
theorem zh9q (m:Nat→Int) (k:Nat) (h:k<4):(fourA m)[k]?=some (.int .i64 (m k)):=by
 rcases (show k=0∨k=1∨k=2∨k=3 by omega) with rfl|rfl|rfl|rfl<;>rfl
theorem jscf (m:Nat→Int) (k:Nat) (h:k<3):(qilW m)[k]?=some (.int .i64 (m k)):=by
 rcases (show k=0∨k=1∨k=2 by omega) with rfl|rfl|rfl<;>rfl
theorem XL98 {m:Nat→Int} {n:Nat} {a b:Int} (h:allIn a b (arrL m n)=true) (k:Nat) (hk:k<n):a≤m k∧m k≤b:=by
 have:=List.all_eq_true.1 h (m k) (List.mem_map.2 ⟨k,List.mem_range.2 hk,rfl⟩)
 simpa using this
theorem qJ1P {w w':World} {t:TypeId} (m:Nat→Int) (hb:Below (w.alloc (.cells (fourA m) t)).heap.size (w.alloc (.cells (fourA m) t)) w'):jCvT w' (.slice (some ⟨w.heap.size,0,none⟩) 4 4) (arrL m 4):=by
 refine ⟨_,_,rfl,by simp[arrL],.inr ⟨w.heap.size,0,rfl,by have:=hb.size;simp at this;omega,fun j hj=>?_⟩⟩
 have hj4:j<4:=by simpa [arrL] using hj
 rw[hb.cell (p:=⟨w.heap.size,0+j,none⟩) (by simp),kd (heap_alloc_new w _),Nat.zero_add,zh9q m j hj4]
 simp[arrL]
theorem Xswx {w w':World} {t:TypeId} (m:Nat→Int) (hb:Below (w.alloc (.cells (qilW m) t)).heap.size (w.alloc (.cells (qilW m) t)) w'):jCvT w' (.slice (some ⟨w.heap.size,0,none⟩) 3 3) (arrL m 3):=by
 refine ⟨_,_,rfl,by simp[arrL],.inr ⟨w.heap.size,0,rfl,by have:=hb.size;simp at this;omega,fun j hj=>?_⟩⟩
 have hj3:j<3:=by simpa [arrL] using hj
 rw[hb.cell (p:=⟨w.heap.size,0+j,none⟩) (by simp),kd (heap_alloc_new w _),Nat.zero_add,jscf m j hj3]
 simp[arrL]
def j1E7 (m:Nat→Int):Bool:=allIn 0 65535 (arrL m 3)
theorem XByj (m:Nat→Int) (w:World):Calls Tryz.prog 147 #[.agg (qilW m)] w fun e w'=>e=.returned (.bool (j1E7 m))∧Below w.heap.size w w':=by
 go_enter Tryz.func147,Tryz.ntmps147
 go_wp2_with fail
 refine (qFis 0 65535 _ (arrL m 3) _ (Xswx m (kf _ _))).mono ?_
 rintro e w1 ⟨rfl,rfl⟩
 rw[show allIn 0 65535 (arrL m 3)=j1E7 m from rfl]
 go_wp2
 go_ret
 exact ⟨rfl,qUNz _ _⟩
def zN6Q (m:Nat→Int) (white:Int):Bool:=decide (1≤white∧white≤65535) && allIn 0 (white-1) (arrL m 4)
theorem zO8p (m:Nat→Int) (white:Int) (w:World):Calls Tryz.prog 146 #[.agg (fourA m),.int .i64 white] w fun e w'=>e=.returned (.bool (zN6Q m white))∧Below w.heap.size w w':=by
 have HB:=hide (be2 w (ka (fourA m) 45) (ka #[.int .i64 white] 3))
 have H1:=hide (ints1 (w.alloc (ka (fourA m) 45)) white)
 rw[World.size_alloc] at H1
 have H4:=hide (qJ1P (w:=w) (t:=45) m (qUNz _ (ka #[.int .i64 white] 3)))
 by_cases hw:1≤white∧white≤65535
 ·have hd:allIn 1 65535 [white]=true:=by simpa [allIn] using hw
  have HE:=hide (show allIn 0 (white-1) (arrL m 4)=zN6Q m white by rw[zN6Q,decide_eq_true hw,Bool.true_and])
  obtain ⟨hw1,hw2⟩:=hw
  go_enter Tryz.func146,Tryz.ntmps146
  go_wp2_with fail
  refine (qFis 1 65535 _ [white] _ H1.out).mono ?_
  rintro e w1 ⟨rfl,rfl⟩
  rw[hd]
  go_wp2_with fail
  refine (qFis 0 (white-1) _ (arrL m 4) _ H4.out).mono ?_
  rintro e w1 ⟨rfl,rfl⟩
  rw[HE.out]
  go_wp2
  go_ret
  exact ⟨rfl,HB.out⟩
 ·have hd:allIn 1 65535 [white]=false:=by simpa [allIn] using hw
  have HE:=hide (show false=zN6Q m white by rw[zN6Q,decide_eq_false hw,Bool.false_and])
  go_enter Tryz.func146,Tryz.ntmps146
  go_wp2_with fail
  refine (qFis 1 65535 _ [white] _ H1.out).mono ?_
  rintro e w1 ⟨rfl,rfl⟩
  rw[hd]
  go_wp2
  go_ret
  exact ⟨j3Zs HE.out,HB.out⟩
theorem zj0b (n d:Int) (hd:0<d):jeC7 (n.tdiv d)=jeC7 (n / d):=by
 rcases qFLz n d hd with ⟨h1,h2⟩|⟨_,h2⟩
 ·have hn:n<0:=by
   rcases Int.lt_or_le n 0 with h|h
   ·exact h
   ·have:=Int.tdiv_eq_ediv_of_nonneg (b:=d) h;omega
  have h3:n / d<0:=Int.ediv_neg_of_neg_of_pos hn hd
  have h4:n.tdiv d≤0:=by omega
  unfold jeC7
  rw[if_pos h3]
  split
  ·rfl
  ·rw[if_neg (by omega)];omega
 ·rw[h2]
end Go.Proofs.YtfjeonehdlphiaaGreatDoor
