/- Re: part 12 of what the proofs need. -/
import Derived.Test.YtfjeonehdlphiaaGreatDoorC1Re
import Derived.Test.YtfjeonehdlphiaaGreatDoorC2Re
import Derived.Test.YtfjeonehdlphiaaGreatDoorC3Re
import Derived.Test.YtfjeonehdlphiaaGreatDoorC9Re
import Derived.Test.YtfjeonehdlphiaaGreatDoorC10Re
import Derived.Test.YtfjeonehdlphiaaGreatDoorC11Re
open Array renaming getElem?_eq_some_iff → ka
open Go.Lib renaming cell_of_heap → kb
open Nat renaming le_refl → kc, lt_of_lt_of_le → kd, le_trans → ke, zero_le → kg
open List renaming take_succ_eq_append_getElem → kf, take_of_length_le → kh, eq_nil_of_length_eq_zero → ki
set_option linter.unusedVariables false
set_option maxHeartbeats 800000
set_option maxRecDepth 100000
namespace Go.Proofs.YtfjeonehdlphiaaGreatDoor
open Go.RowKit
theorem zeBQ (B b:Nat) (l:List UInt8) (s:ByteArray) (w:World) (h:Lib.IsBuilder 76 5 B b (byt l) w) (hlen:l.length+s.size≤140737488355328) (hBw:B≤w.heap.size) :
  Calls Tryz.prog 28 #[.pointer (some ⟨b,0,none⟩),.string s] w fun e w'=>e=.returned (.tuple #[.int .i64 s.size,.nilIface])∧Lib.IsBuilder 76 5 B b (byt (l++s.data.toList)) w'∧Below B w w':=by
 refine (Tryz.Builder_WriteString B b (byt l) s w h (by rw[q82q];exact hlen) hBw).mono ?_
 rintro e w' ⟨rfl,h,hb⟩
 refine ⟨rfl,.inr ?_,hb⟩
 rw[zP44];exact h
theorem zCCW (B b:Nat) (l:List UInt8) (w:World) (h:Lib.IsBuilder 76 5 B b (byt l) w) (hBw:B≤w.heap.size) :
  Calls Tryz.prog 32 #[.pointer (some ⟨b,0,none⟩)] w fun e w'=>e=.returned (.string (str l))∧Below B w w' :=
 Tryz.Builder_String_any B b l w h hBw
theorem z2IW {T e:TypeId} {B b:Nat} {bs:List Value} {w w':World} (h:Lib.IsBuilder T e B b bs w) (hb:Below w.heap.size w w') (_:B≤w.heap.size):Lib.IsBuilder T e B b bs w':=by
 have key:∀p,Lib.BuilderAt T e B b p bs w→Lib.BuilderAt T e B b p bs w':=by
  intro p h
  have hlt:=h.lt
  obtain ⟨hB,v,hbk,hown,hne⟩:=h
  refine ⟨hB,v,by rw[hb.block b hlt];exact hbk,?_,hne⟩
  refine ⟨hown.1,?_⟩
  rcases hown.2 with h|⟨g,cap,cur,hv,hg,hh,r⟩
  ·exact .inl h
  ·exact .inr ⟨g,cap,cur,hv,hg,by rw[hb.block g (ka.1 hh).1];exact hh,r⟩
 rcases h with h|h
 ·exact .inl (key _ h)
 ·exact .inr (key _ h)
theorem zCp8 (v:Value) (xs:List Int) (d:Int) (w:World) (hv:jCvT w v xs) :
  Calls Tryz.prog 124 #[v,.int .i64 d] w fun e w'=>e=.returned (.tuple #[.string (str (packS xs d)),.int .i64 (packE xs d)])∧Below w.heap.size w w':=by
 obtain ⟨ao,ca,rfl,hla,hc⟩:=hv
 by_cases hd:XSys d=true
 ·by_cases hl:xs.length≤4096
  ·have hd16:1≤d∧d≤16:=by simpa [XSys] using hd
   obtain ⟨hd1,hd2⟩:=hd16
   have HC:=hide hc;clear hc
   have hl2:decide (4096<(xs.length:Int))=false:=by simp;omega
   have HD:=hide hd
   go_enter Tryz.func124,Tryz.ntmps124
   go_wp2_with (go_at_call 172;refine (qfml _ _).mono ?_;rintro e w1 ⟨rfl,rfl⟩)
   clear hd
   go_loopw [19] (fun i wr=>∃k:Nat,k≤xs.length∧i=.int .i64 k∧Hid (allOk (xs.take k) d=true)∧Lib.IsBuilder 76 5 w.heap.size w.heap.size (byt (jvGa (xs.take k) d)) wr∧Below w.heap.size w wr)
    (fun i _=>xs.length-(intOf i).toNat)
   case atStart=>exact ⟨0,kg _,rfl,rfl,Lib.fresh_isBuilder _ _ w,(Below.refl _ _).alloc (kc _) _⟩
   case round =>
    obtain ⟨k,hk,rfl,HA,hbd,hb⟩:=hrel
    have hpl:(jvGa (xs.take k) d).length≤65536:=by
     rw[Xg2y]
     have h1:(xs.take k).length≤4096:=by simp;omega
     have h2:d.toNat≤16:=by omega
     exact ke (Nat.mul_le_mul h1 h2) (by decide)
    have hsz:=hb.size
    by_cases hlt:k<xs.length
    ·obtain ⟨b,off,hao,hbl,hcell⟩:∃b off,ao=some ⟨b,off,none⟩∧b<w.heap.size∧∀j (h:j<xs.length),w.cell? ⟨b,off+j,none⟩=some (.int .i64 xs[j]):=by
      rcases HC.out with h|h
      ·subst h;exact absurd hlt (by simp)
      ·exact h
     subst hao
     have c1:=(hb.cell (p:=⟨b,off+k,none⟩) hbl).trans (hcell k hlt)
     clear hcell
     have HT:=hide (show xs.take (k+1)=xs.take k++[xs[k]] from kf hlt)
     by_cases hok:numOk xs[k] d=true
     ·have hE:numE xs[k] d=0:=if_pos hok
      have HS:=hide (show (numS xs[k] d).data.toList=jJyG xs[k].toNat d.toNat by rw[numS,if_pos hok,jrcE])
      have hS2:(numS xs[k] d).size≤16:=by rw[numS,if_pos hok,qzX5,zrCv];omega
      have HO:=hide (show allOk (xs.take (k+1)) d=true by rw[HT.out,jJfW,HA.out,hok];rfl)
      have HP:=hide (show jvGa (xs.take (k+1)) d=jvGa (xs.take k) d++jJyG xs[k].toNat d.toNat by rw[HT.out,jmVo])
      clear hok
      go_wp2_with (first|(go_at_call 173;refine (jz4N _ _ _).mono ?_;rintro e w2 ⟨rfl,hb2⟩;have hbd2:=z2IW hbd hb2 hsz;have hsz2:=hb2.size)|(go_at_call 28;refine (zeBQ w.heap.size w.heap.size _ _ _ hbd2 (by omega) (by omega)).mono ?_;rintro e w3 ⟨rfl,hbd3,hb3⟩))
      go_roundw
      case rel=>exact ⟨k+1,by omega,by go_num,HO,by rw[HP.out,←HS.out];exact hbd3,(hb.trans (hb2.mono hsz)).trans hb3⟩
      case measure=>simp[intOf];omega
     ·have hok:numOk xs[k] d=false:=by simpa using hok
      have hE:numE xs[k] d=3:=if_neg (by simp[hok])
      have HE:Hid (packE xs d=3):=by show _=_;rw[packE,if_pos HD.out,if_pos hl,XcnF xs d k hlt hok];rfl
      have HS:Hid (packS xs d=[]):=by show _=_;rw[packS,HE.out,if_neg (by decide)]
      clear hok
      go_wp2_with (go_at_call 173;refine (jz4N _ _ _).mono ?_;rintro e w2 ⟨rfl,hb2⟩)
      go_ret2
      rw[HE.out,HS.out]
      exact ⟨rfl,hb.trans (hb2.mono hsz)⟩
    ·have hkl:k=xs.length:=by omega
     have HX:=hide (show xs.take k=xs from kh (by omega))
     have HE:Hid (packE xs d=0):=by show _=_;rw[packE,if_pos HD.out,if_pos hl,←HX.out,HA.out];rfl
     have HS:Hid (packS xs d=bytesOf (jvGa xs d)):=by show _=_;rw[packS,HE.out,if_pos rfl]
     rw[HX.out] at hbd hpl
     clear hkl
     go_wp2_with (first|(go_at_call 32;refine (zCCW w.heap.size w.heap.size _ _ hbd hsz).mono ?_;rintro e w2 ⟨rfl,hb2⟩;have hsz2:=hb2.size)|(go_at_call 174;refine (zgrb _ (by rw[qzX5];omega) (ztg4 xs d) _).mono ?_;rintro e w3 ⟨rfl,hb3⟩))
     go_ret2
     rw[HE.out,HS.out]
     exact ⟨rfl,(hb.trans hb2).trans (hb3.mono (by omega))⟩
  ·have HE:Hid (packE xs d=2):=by show _=_;rw[packE,if_pos hd,if_neg hl]
   have HS:Hid (packS xs d=[]):=by show _=_;rw[packS,HE.out,if_neg (by decide)]
   clear hc
   go_enter Tryz.func124,Tryz.ntmps124
   go_wp2_with (go_at_call 172;refine (qfml _ _).mono ?_;rintro e w1 ⟨rfl,rfl⟩)
   go_ret2
   rw[HE.out,HS.out]
   exact ⟨rfl,Below.refl _ _⟩
 ·have HE:Hid (packE xs d=3):=by show _=_;rw[packE,if_neg hd]
  have HS:Hid (packS xs d=[]):=by show _=_;rw[packS,HE.out,if_neg (by decide)]
  have hd:XSys d=false:=by simpa using hd
  clear hc
  go_enter Tryz.func124,Tryz.ntmps124
  go_wp2_with (go_at_call 172;refine (qfml _ _).mono ?_;rintro e w1 ⟨rfl,rfl⟩)
  go_ret2
  rw[HE.out,HS.out]
  exact ⟨rfl,Below.refl _ _⟩
theorem qK3H {P:Program} {w:World} {base src e dst:TypeId} {v:Value} {l:List UInt8} (hs:P.underlying src=some (.slice e)) (he:P.underlying e=some (.int .u8)) (hd:P.underlying dst=some .string)
  (h:w.ownsRow base e 1 v l.length (byt l)):(convert src dst v).run P w=.ok (.string (str l)) w:=by
 rcases h.2 with ⟨hv,hn⟩|⟨g,cap,cur,hv,_⟩
 ·rw[hv,run_convert_bytes_nil w src e hs he 0 0 dst hd,ki hn];rfl
 ·subst hv;exact jxMI hs he hd h
theorem q6Yy (v:Value) (xs:List Int) (D:Nat) (hD:D≤16) (hl:xs.length≤4096) (hok:allOk xs D=true) (w:World) (hv:jCvT w v xs) :
  Calls Tryz.prog 80 #[v,.int .i64 D] w fun e w'=>e=.returned (.string (str (bytesOf (jvGa xs D))))∧Below w.heap.size w w':=by
 obtain ⟨ao,ca,rfl,hla,hc⟩:=hv
 obtain ⟨i0,hi,hz0,hz1,hz2⟩:=info_parts Tryz.infoU8
 have HC:=hide hc;clear hc
 have HOK:=hide hok;clear hok
 go_enter Tryz.func80,Tryz.ntmps80
 go_wp2
 go_loopw [5,6] (fun t i wr=>∃k:Nat,k≤xs.length∧i=.int .i64 k∧wr.ownsRow w.heap.size 5 1 t (jvGa (xs.take k) D).length (byt (jvGa (xs.take k) D))∧Below w.heap.size w wr)
  (fun _ i _=>xs.length-(intOf i).toNat)
 case atStart=>exact ⟨0,kg _,rfl,World.ownsRow_nil _ _ _ _,Below.refl _ _⟩
 case round =>
  obtain ⟨k,hk,rfl,ho,hb⟩:=hrel
  have hpl:(jvGa (xs.take k) D).length≤65536:=by
   rw[Xg2y]
   have h1:(xs.take k).length≤4096:=by simp;omega
   exact ke (Nat.mul_le_mul h1 (show ((D:Int)).toNat≤16 by omega)) (by decide)
  have hsz:=hb.size
  by_cases hlt:k<xs.length
  ·obtain ⟨b,off,hao,hbl,hcell⟩:∃b off,ao=some ⟨b,off,none⟩∧b<w.heap.size∧∀j (h:j<xs.length),w.cell? ⟨b,off+j,none⟩=some (.int .i64 xs[j]):=by
    rcases HC.out with h|h
    ·subst h;exact absurd hlt (by simp)
    ·exact h
   subst hao
   obtain ⟨m,hm,hm2⟩:∃m:Nat,xs[k]=m∧m<65536:=by
    have h:=List.all_eq_true.1 HOK.out xs[k] (List.getElem_mem hlt)
    rcases XhgL xs[k] D with ⟨m,j,h1,h2,h3,h4,_⟩|⟨h1,_⟩
    ·exact ⟨m,h1,kd h4 (pow16 h3)⟩
    ·rw[h1] at h;cases h
   have c1:=(hb.cell (p:=⟨b,off+k,none⟩) hbl).trans (hcell k hlt)
   clear hcell
   rw[hm] at c1
   have HP:=hide (show jvGa (xs.take (k+1)) D=jvGa (xs.take k) D++jJyG m D by
    rw[kf hlt,jmVo,hm];simp)
   clear hm
   generalize jvGa (xs.take k) D=L at *
   go_wp2_with (first|(go_at_call 133;refine (jfHn D m _ hD hm2).mono ?_;rintro e w2 ⟨rfl,hb2⟩;have ho2:=qw14 ho hb2;have hsz2:=hb2.size)|(at_builtin;refine Lib.wpList_append_own_string _ rfl _ _ 74 9 rfl w.heap.size 5 i0 Tryz.underlying74 Tryz.underlying9 hi hz0 hz1 hz2 _ _ _ rfl ho2 (str (jJyG m D)) rfl (by rw[qzX5,zrCv];unfold maxLen;omega) (by rw[qzX5,zrCv];omega) (by omega) ?_;intro v' w3 hown' hgrow _))
   have ho4:w3.ownsRow w.heap.size 5 1 v' (jvGa (xs.take (k+1)) D).length (byt (jvGa (xs.take (k+1)) D)):=by
    rw[HP.out,zP44,List.length_append,←jrcE (jJyG m D)]
    have hx:=hown'
    rw[qzX5] at hx
    exact hx
   have hb4:Below w.heap.size w w3:=(hb.trans (hb2.mono hsz)).grown hgrow (by omega) (fun j hj=>(ho2.lt j hj).1)
   clear hown' hgrow ho2 hb2
   go_roundw
   case rel=>exact ⟨k+1,by omega,by go_num,ho4,hb4⟩
   case measure=>simp[intOf];omega
  ·have HX:xs.take k=xs:=kh (by omega)
   rw[HX] at ho hpl
   clear HX
   have hcv:=qK3H (dst:=9) Tryz.underlying74 Tryz.underlying5 Tryz.underlying9 ho
   go_wp2_with (go_at_call 134;refine (XxhP _ (by rw[qzX5];omega) _).mono ?_;rintro e w3 ⟨rfl,hb3⟩)
   go_ret
   exact ⟨rfl,hb.trans (hb3.mono hsz)⟩
def jx8P:Value→Option (DataW Unit×List MemPlace)
 | .agg cs=>match cs.toList with
  | [.int .i64 a,.bool b]=>some (.agg [.lit (.int .i64 a),.lit (.bool b)],[])
  | _=>none
 | _=>none
def entD (p:Int×Bool):DataW Unit:=.agg [.lit (.int .i64 p.1),.lit (.bool p.2)]
def entV (p:Int×Bool):Value:=.agg #[.int .i64 p.1,.bool p.2]
theorem j3xL (p:Int×Bool):jx8P (entV p)=some (entD p,[]):=rfl
theorem zWGA {v:Value} {p:Int×Bool} {ps:List MemPlace} (h:jx8P v=some (entD p,ps)):v=entV p:=by
 unfold jx8P at h
 split at h
 ·rename_i cs
  split at h
  ·rename_i a b hcs
   simp only[Option.some.injEq,Prod.mk.injEq,entD,DataW.agg.injEq,List.cons.injEq,DataW.lit.injEq,Lit.int.injEq,Lit.bool.injEq] at h
   obtain ⟨⟨⟨_,h1⟩,h2,_⟩,_⟩:=h
   have:cs=#[.int .i64 a,.bool b]:=Array.ext' hcs
   rw[this,entV,←h1,←h2]
  ·cases h
 ·cases h
theorem isKey (l:List UInt8):WideAt.IsKeyLit (.string l):=by simp[WideAt.IsKeyLit]
theorem jAxk:Maps.Keyed Tryz.prog 9:=Maps.string_keyed Tryz.underlying9
theorem X9rg (s:ByteArray) (h:s.size≤maxLen):keyOf Tryz.prog 9 (.string s)=some (.string s.data.toList):=Go.WideMaps.keyOf_string_mk Tryz.underlying9 h
def z395 (w:World) (bm n:Nat) (f:List UInt8→Option (Int×Bool)):Prop :=
 ∃D:DataW Unit,w.ownsMap Tryz.prog 9 jx8P bm n D∧∀key,Maps.has D (.string key)=(f key).isSome∧∀p,f key=some p→∀z,D.atKey (.string key) z=entD p
theorem z395.drew {w:World} {bm n:Nat} {f:List UInt8→Option (Int×Bool)} (h:z395 w bm n f):z395 w.drew bm n f:=h
theorem z395.kept {w w':World} {bm n:Nat} {f:List UInt8→Option (Int×Bool)} {row:Option Nat} (h:z395 w bm n f) (hg:w.grownBy w' row) (hne:some bm≠row):z395 w' bm n f:=by
 obtain ⟨D,hD,hf⟩:=h
 exact ⟨D,hD.kept hg hne,hf⟩
theorem z395.below {w w':World} {bm n B:Nat} {f:List UInt8→Option (Int×Bool)} (h:z395 w bm n f) (hb:Below B w w') (hB:w.heap.size≤B):z395 w' bm n f:=by
 obtain ⟨D,⟨es,clock,hh,r⟩,hf⟩:=h
 have hlt:bm<w.heap.size:=(ka.1 hh).1
 exact ⟨D,⟨es,clock,by rw[hb.block bm (kd hlt hB)];exact hh,r⟩,hf⟩
theorem z395.mono {w:World} {bm n n':Nat} {f:List UInt8→Option (Int×Bool)} (h:z395 w bm n f) (hn:n≤n'):z395 w bm n' f:=by
 obtain ⟨D,hD,hf⟩:=h
 exact ⟨D,hD.mono hn,hf⟩
theorem z395.lt {w:World} {bm n:Nat} {f:List UInt8→Option (Int×Bool)} (h:z395 w bm n f):bm<w.heap.size:=by
 obtain ⟨D,hD,_⟩:=h
 exact hD.lt
theorem z395.made (w:World):z395 (w.alloc (.map #[] 0)) w.heap.size 0 (fun _=>none) :=
 ⟨.map [],World.ownsMap_made w _ _ _,fun key=>⟨rfl,fun p h=>by cases h⟩⟩
theorem z395.put {w:World} {bm n:Nat} {f:List UInt8→Option (Int×Bool)} (h:z395 w bm n f) (hn:n<1000) (s:ByteArray) (hs:s.size≤maxLen) (p:Int×Bool) :
  ∃w',(Instr.mapUpdate 217 (.map (some bm)) (.string s) (entV p)).run Tryz.prog w=.ok () w'∧z395 w' bm (n+1) (putF f s.data.toList p)∧w.grownBy w' (some bm):=by
 obtain ⟨D,hD,hf⟩:=h
 obtain ⟨w',hrun,hown,hgr⟩:=hD.update jAxk Tryz.underlying217 (by unfold maxLen;omega) (X9rg s hs) (j3xL p)
 refine ⟨w',hrun,⟨_,hown,fun key=>?_⟩,hgr⟩
 have hm:=hD.isMap
 by_cases e:key=s.data.toList
 ·subst e
  refine ⟨?_,?_⟩
  ·rw[Maps.has_put_same hm (isKey _)];simp[putF]
  ·intro q hq z
   simp only[putF,if_true,Option.some.injEq] at hq
   subst hq
   exact Maps.atKey_put_same hm (isKey _) _ z
 ·have hne:(Lit.string key)≠(Lit.string s.data.toList):=by intro h;cases h;exact e rfl
  refine ⟨?_,?_⟩
  ·rw[Maps.has_put_other hne];simp only[putF,if_neg e];exact (hf key).1
  ·intro q hq z
   simp only[putF,if_neg e] at hq
   rw[Maps.atKey_put_other hne]
   exact (hf key).2 q hq z
theorem XdPZ (w:World):(zeroValue 255).run Tryz.prog w=.ok (entV (0,false)) w:=by kernel_rfl
theorem z395.look {w:World} {bm n:Nat} {f:List UInt8→Option (Int×Bool)} (h:z395 w bm n f) (s:ByteArray) (hs:s.size≤maxLen) :
  (Instr.lookup 217 (.map (some bm)) (.string s) true).run Tryz.prog w=.ok (.tuple #[entV ((f s.data.toList).getD (0,false)),.bool (f s.data.toList).isSome]) w:=by
 obtain ⟨D,hD,hf⟩:=h
 obtain ⟨v,ps,hrun,hv⟩:=hD.look_ok jAxk Tryz.underlying217 (XdPZ w) (j3xL (0,false)) (X9rg s hs)
 have hvv:v=entV ((f s.data.toList).getD (0,false)):=by
  cases hq:f s.data.toList with
  | none =>
   have h1:=(hf s.data.toList).1
   rw[hq] at h1
   rw[Maps.atKey_of_not_has h1] at hv
   rw[zWGA hv];rfl
  | some p =>
   rw[(hf s.data.toList).2 p hq] at hv
   rw[zWGA hv];rfl
 rw[hrun,(hf s.data.toList).1,hvv]
theorem j1jj.same {w w':World} {v:Value} {ts:List (List UInt8)} (h:j1jj w v ts) (hb:∀j,j<w.heap.size→w'.heap[j]?=w.heap[j]?) (hs:w.heap.size≤w'.heap.size):j1jj w' v ts:=by
 obtain ⟨ao,cap,hv,hl,h⟩:=h
 refine ⟨ao,cap,hv,hl,?_⟩
 rcases h with h|⟨b,off,ha,hlt,hc⟩
 ·exact .inl h
 ·exact .inr ⟨b,off,ha,kd hlt hs,fun j hj=>by rw[World.cell?_of_block (w:=w) (hb b hlt)];exact hc j hj⟩
theorem j1jj.set {w:World} {v:Value} {ts:List (List UInt8)} (h:j1jj w v ts) {a:Addr} (u:Value) (hn:∀off s,w.cell? ⟨a.block,off,none⟩≠some (.string s)):j1jj (w.setCell a u) v ts:=by
 obtain ⟨ao,cap,hv,hl,h⟩:=h
 refine ⟨ao,cap,hv,hl,?_⟩
 rcases h with h|⟨b,off,ha,hlt,hc⟩
 ·exact .inl h
 ·refine .inr ⟨b,off,ha,by simpa [World.setCell] using hlt,fun j hj=>?_⟩
  have hne:b≠a.block:=fun e=>hn (off+j) _ (by rw[←e];exact hc j hj)
  rw[World.cell?_of_block (w:=w) (Below.heap_setCell _ _ _ _ hne)]
  exact hc j hj
theorem z395.setCell {w:World} {bm n:Nat} {f:List UInt8→Option (Int×Bool)} (h:z395 w bm n f) {a:Addr} (ha:bm≠a.block) (u:Value):z395 (w.setCell a u) bm n f:=by
 obtain ⟨D,hD,hf⟩:=h
 exact ⟨D,hD.setCell ha u,hf⟩
theorem qkyR (x y:Value) (o:Nat) (s:ByteArray) (hx:x≠.string s) (hy:y≠.string s):(#[x,y]:Array Value)[o]?≠some (.string s):=by
 match o with
 | 0=>simpa using hx
 | 1=>simpa using hy
 | o+2=>simp
theorem jGSk {w w':World} {row:Option Nat} (h:w.grownBy w' row):w.grownBy w'.drew row:=⟨h.os,h.tape,h.output,h.size,h.block⟩
theorem zCXH (v:Value) (ts:List (List UInt8)) (w:World) (hv:j1jj w v ts) (h1:1≤ts.length) :
  Calls Tryz.prog 209 #[v] w fun e w'=>∃co cc,e=.returned (.slice co ts.length cc)∧j1jj w' (.slice co ts.length cc) ts∧Below w.heap.size w w':=by
 obtain ⟨ao,cap,rfl,hl,hc⟩:=hv
 obtain ⟨b,off,rfl,hbl,hcell⟩:∃b off,ao=some ⟨b,off,none⟩∧b<w.heap.size∧∀j (h:j<ts.length),w.cell? ⟨b,off+j,none⟩=some (.string (str ts[j])):=by
  rcases hc with h|h
  ·subst h;exact absurd h1 (by simp)
  ·exact h
 refine (Tryz.slices_Clone_string b off ts.length cap (ts.map str) w (by simp) (by omega) (fun j hj=>?_)).mono ?_
 ·have hj':j<ts.length:=by simpa using hj
  rw[hcell j hj']
  simp[List.getD,List.getElem?_eq_getElem hj']
 ·rintro e w' ⟨cv,rfl,hown,_,hb⟩
  suffices h:j1jj w' cv ts by
   have h':=h
   obtain ⟨co,cc,rfl,_⟩:=h'
   exact ⟨co,cc,rfl,h,hb⟩
  have e1:((ts.map str).take ts.length).map Value.string=qwpy ts.length (fun i=>ts.getD i []):=by
   apply List.ext_getElem?
   intro j
   by_cases hj:j<ts.length
   ·rw[XOmP _ _ _ hj]
    simp[List.getD,hj]
   ·rw[List.getElem?_eq_none (by simp;omega),List.getElem?_eq_none (by rw[j7q8];omega)]
  rw[e1] at hown
  have:=j1jj.own hown (by omega)
  rw[show (List.range ts.length).map (fun i=>ts.getD i [])=ts by
   apply List.ext_getElem?
   intro j
   by_cases hj:j<ts.length
   ·simp[List.getD,hj]
   ·rw[List.getElem?_eq_none (by simp;omega),List.getElem?_eq_none (by omega)]] at this
  exact this
theorem z4Cm (v:Value) (ts:List (List UInt8)) (w:World) (hv:j1jj w v ts) (h1:1≤ts.length) (h17:ts.length≤17) (h15:∀i (h:i<ts.length),ts[i].length≤15) :
  Calls Tryz.prog 177 #[v] w fun e w'=>∃cv bm n,e=.returned (.agg #[cv,.map (some bm)])∧j1jj w' cv ts∧z395 w' bm n (bookF ts ts.length)∧Below w.heap.size w w':=by
 have HV:=hide hv
 obtain ⟨ao,ca,rfl,hla,hc⟩:=hv
 obtain ⟨b,off,hao,hbl,hcell⟩:∃b off,ao=some ⟨b,off,none⟩∧b<w.heap.size∧∀j (h:j<ts.length),w.cell? ⟨b,off+j,none⟩=some (.string (str ts[j])):=by
  rcases hc with h|h
  ·subst h;exact absurd h1 (by simp)
  ·exact h
 subst hao
 have HCELL:=hide hcell;clear hcell hc
 have H15:=hide h15;clear h15
 have hmm:=@run_makeMap Tryz.prog
 go_enter Tryz.func177,Tryz.ntmps177
 go_wp2_with (go_at_call 209;refine (zCXH _ ts _ (HV.out.below (qUNz _ _) (kc _)) h1).mono ?_;rintro e w1 ⟨co,cc,rfl,hcv,hb1⟩)
 have hsz1:w.heap.size+1≤w1.heap.size:=by have:=hb1.size;simpa using this
 have HCV:=hide hcv;clear hcv
 obtain ⟨W2,hW2⟩:∃W2,W2=(w1.alloc (.map #[] 0)).alloc (.cells #[.slice co ts.length cc,.map (some w1.heap.size)] 219):=⟨_,rfl⟩
 have HB2:=hide (show Below w1.heap.size w1 W2 by rw[hW2];exact ((Below.refl _ _).alloc (kc _) _).alloc (by simp) _)
 have HM2:=hide (show z395 W2 w1.heap.size 0 (fun _=>none) by
  rw[hW2]
  exact (z395.made w1).kept (World.grownBy_alloc _ _ none) (by simp))
 have HC2:=hide (show W2.heap[w1.heap.size+1]?=some (.cells #[.slice co ts.length cc,.map (some w1.heap.size)] 219 (0,0)) by
  rw[hW2]
  have h:=heap_alloc_new (w1.alloc (.map #[] 0)) (.cells #[.slice co ts.length cc,.map (some w1.heap.size)] 219)
  rw[World.size_alloc] at h
  exact h)
 have HR2:=hide (show W2.heap[w.heap.size]?=some (.cells #[.slice none 0 0,.map none] 219 (0,0)) by
  rw[HB2.out.block w.heap.size (by omega),hb1.block w.heap.size (by simp)]
  exact heap_alloc_new w _)
 have HS2:=hide (show W2.heap.size=w1.heap.size+2 by rw[hW2];simp)
 rw[←hW2]
 clear hW2 hmm
 go_loopw [13] (fun i wr=>∃k:Nat,k≤ts.length∧i=.int .i64 k∧z395 wr w1.heap.size (16*k) (bookF ts k)∧W2.grownBy wr (some w1.heap.size)) (fun i _=>ts.length-(intOf i).toNat)
 case atStart=>exact ⟨0,kg _,rfl,HM2.out,World.grownBy.refl _ _⟩
 case round =>
  obtain ⟨k,hk,rfl,hbm,hgr⟩:=hrel
  have hblk:∀j,j<w1.heap.size+2→j≠w1.heap.size→wr.heap[j]?=W2.heap[j]?:=fun j h1 h2=>hgr.block j (by rw[HS2.out];exact h1) (fun e=>h2 (by simpa using e))
  have HBLK:=hide hblk;clear hblk
  by_cases hlt:k<ts.length
  ·have c1:wr.cell? ⟨b,off+k,none⟩=some (.string (str ts[k])):=by
    rw[World.cell?_of_block (w:=W2) (HBLK.out b (by omega) (by omega)),HB2.out.cell (p:=⟨b,off+k,none⟩) (by show b<_;omega),hb1.cell (p:=⟨b,off+k,none⟩) (by simp;omega)]
    rw[World.cell?_of_block (w:=w) (Below.heap_alloc w _ b hbl)]
    exact HCELL.out k hlt
   have hd:decide ((k:Int)<(ts.length:Int))=true:=by simp;omega
   have HBF:=hide (show bookF ts (k+1)=addW (bookF ts k) k ts[k] by rw[bookF];simp[List.getD,hlt])
   have hl15:=H15.out k hlt
   generalize ts[k]=wd at *
   have hss:(str wd).size=wd.length:=qzX5 wd
   by_cases hw:wd=[]
   ·subst hw
    have he:(str ([]:List UInt8)).toList.isEmpty=true:=by rw[Lib.toList_data,jrcE];rfl
    have HADD:=hide (show addW (bookF ts k) k []=bookF ts k from if_pos rfl)
    go_wp2
    go_roundw
    case rel=>exact ⟨k+1,by omega,by go_num,by rw[HBF.out,HADD.out];exact hbm.mono (by omega),hgr⟩
    case measure=>simp[intOf];omega
   ·have hlen0:wd.length≠0:=fun h=>hw (ki h)
    have he:(str wd).toList.isEmpty=false:=by rw[Lib.toList_data,jrcE];simpa using hw
    have HADD:=hide (show addW (bookF ts k) k wd=putF (preF (bookF ts k) wd (wd.length-1)) wd (k,true) by rw[addW,if_neg hw])
    clear hw
    go_wp2
    go_loopw [6] (fun i wq=>∃j:Nat,j+1≤wd.length∧i=.int .i64 ((j:Int)+1)∧z395 wq w1.heap.size (16*k+j) (preF (bookF ts k) wd j)∧W2.grownBy wq (some w1.heap.size)) (fun i _=>wd.length+1-(intOf i).toNat)
    case atStart=>exact ⟨0,by omega,by go_num,hbm,hgr⟩
    case round =>
     obtain ⟨j,hj,rfl,hbm2,hgr2⟩:=hrel
     clear hbm hgr HBLK
     have hcb:∀u,(wr.drewN u).cell? ⟨w1.heap.size+1,1,none⟩=some (.map (some w1.heap.size)):=fun u=>by
      show wr.cell? _=_
      rw[World.cell?_of_block (w:=W2) (hgr2.block (w1.heap.size+1) (by rw[HS2.out];omega) (by simp)),kb HC2.out];rfl
     have hcb0:=hcb 0
     have hcb0':wr.cell? ⟨w1.heap.size+1,1,none⟩=some (.map (some w1.heap.size)):=hcb0
     clear hcb hcb0
     by_cases hjl:j+1<wd.length
     ·obtain ⟨w',hrun0,hbm3,hgr3⟩:=hbm2.drew.put (by omega) ((str wd).extract 0 (j+1)) (by rw[Lib.extract_eq,jrcE];unfold maxLen;simp[ByteArray.size];omega) (0,false)
      have hrun:(Instr.mapUpdate 217 (.map (some w1.heap.size)) (.string ((str wd).extract 0 (j+1))) (.agg #[.int .i64 0,.bool false])).run Tryz.prog wr.drew=.ok () w':=hrun0
      clear hrun0
      have HPRE:=hide (show preF (bookF ts k) wd (j+1)=putF (preF (bookF ts k) wd j) ((str wd).extract 0 (j+1)).data.toList (0,false) by
       rw[preF,Lib.extract_data,jrcE];simp)
      have HB3:=hide hbm3
      have HG3:=hide hgr3
      clear hbm3 hgr3
      go_wp2
      go_region
      go_wp2
      go_roundw
      case rel=>exact ⟨j+1,by omega,by go_num,by rw[HPRE.out];exact HB3.out,(jGSk hgr2).trans HG3.out⟩
      case measure=>simp[intOf];omega
     ·obtain ⟨w',hrun0,hbm3,hgr3⟩:=hbm2.put (by omega) (str wd) (by rw[hss];unfold maxLen;omega) ((k:Int),true)
      have hrun:(Instr.mapUpdate 217 (.map (some w1.heap.size)) (.string (str wd)) (.agg #[.int .i64 (k:Int),.bool true])).run Tryz.prog wr=.ok () w':=hrun0
      clear hrun0
      have HPRE:=hide (show bookF ts (k+1)=putF (preF (bookF ts k) wd j) (str wd).data.toList ((k:Int),true) by
       rw[HBF.out,HADD.out,jrcE,show wd.length-1=j by omega])
      have HB3:=hide hbm3
      have HG3:=hide hgr3
      clear hbm3 hgr3
      go_wp2
      go_roundw
      case rel=>exact ⟨k+1,by omega,by go_num,by rw[HPRE.out];exact HB3.out.mono (by omega),hgr2.trans HG3.out⟩
      case measure=>simp[intOf];omega
  ·obtain rfl:k=ts.length:=by omega
   have hbk:=HBLK.out (w1.heap.size+1) (by omega) (by omega)
   rw[HC2.out] at hbk
   have hbr:=HBLK.out w.heap.size (by omega) (by omega)
   rw[HR2.out] at hbr
   have c0:wr.cell? ⟨w1.heap.size+1,0,none⟩=some (.slice co ts.length cc):=by rw[kb hbk];rfl
   have c1:wr.cell? ⟨w1.heap.size+1,1,none⟩=some (.map (some w1.heap.size)):=by rw[kb hbk];rfl
   have d0:wr.cell? ⟨w.heap.size,0,none⟩=some (.slice none 0 0):=by rw[kb hbr];rfl
   have d1:wr.cell? ⟨w.heap.size,1,none⟩=some (.map none):=by rw[kb hbr];rfl
   have f0:wr.frozen? ⟨w.heap.size,0,none⟩=false:=Lib.frozen_of_heap hbr 0
   have f1:wr.frozen? ⟨w.heap.size,1,none⟩=false:=Lib.frozen_of_heap hbr 1
   have HIT:=hide (show j1jj wr (.slice co ts.length cc) ts from HCV.out.same (fun j hj=>(HBLK.out j (by omega) (by omega)).trans (HB2.out.block j hj)) (by have:=hgr.size;rw[HS2.out] at this;omega))
   have hbr2:=heap_setCell_same wr w.heap.size 0 _ _ (.slice co ts.length cc) hbr
   have HF:=hide (show Below w.heap.size w wr from (quJN (quJN (qUNz w _) hb1) HB2.out).grown hgr (by rw[HS2.out];omega) (fun j hj=>by cases hj;omega))
   go_wp2
   refine bodyPost_ret (v:=.agg #[.slice co ts.length cc,.map (some w1.heap.size)]) (by simp[results,Tryz.results177,go_sem,d0,d1]) rfl ⟨_,w1.heap.size,16*ts.length,rfl,?_,?_,?_⟩
   ·refine (HIT.out.set (a:=⟨w.heap.size,0,none⟩) _ (fun o x h=>?_)).set (a:=⟨w.heap.size,1,none⟩) _ (fun o x h=>?_)
    ·rw[kb hbr] at h
     exact absurd h (qkyR _ _ _ _ (by simp) (by simp))
    ·rw[kb hbr2] at h
     exact absurd h (qkyR _ _ _ _ (by simp) (by simp))
   ·exact (hbm.setCell (a:=⟨w.heap.size,0,none⟩) (by show w1.heap.size≠w.heap.size;omega) _).setCell (a:=⟨w.heap.size,1,none⟩) (by show w1.heap.size≠w.heap.size;omega) _
   ·exact (HF.out.setCell (p:=⟨w.heap.size,0,none⟩) (kc _) _).setCell (p:=⟨w.heap.size,1,none⟩) (kc _) _
theorem jKYw (cv:Value) (bm:Nat) (ts:List (List UInt8)) (n:Int) (w:World) (hv:j1jj w cv ts) :
  Calls Tryz.prog 181 #[.agg #[cv,.map (some bm)],.int .i64 n] w fun e w'=>e=.returned (.tuple #[.string (str (wordS ts n)),.int .i64 (wordE ts n)])∧Below w.heap.size w w':=by
 obtain ⟨ao,ca,rfl,hla,hc⟩:=hv
 have hnil:str []=⟨#[]⟩:=rfl
 by_cases h0:n<0
 ·have HS:=hide (show wordS ts n=[] from if_neg (by omega))
  have HE:=hide (show wordE ts n=4 by rw[wordE,HS.out];rfl)
  clear hc
  have hd:decide (n<0)=true:=by simpa using h0
  go_enter Tryz.func181,Tryz.ntmps181
  go_wp2
  go_ret2
  rw[HE.out,HS.out]
  exact ⟨rfl,qUNz _ _⟩
 ·have hd:decide (n<0)=false:=by simpa using h0
  by_cases h1:(ts.length:Int)≤n
  ·have HS:=hide (show wordS ts n=[] from if_neg (by omega))
   have HE:=hide (show wordE ts n=4 by rw[wordE,HS.out];rfl)
   clear hc
   have hd2:decide ((ts.length:Int)≤n)=true:=by simpa using h1
   go_enter Tryz.func181,Tryz.ntmps181
   go_wp2
   go_ret2
   rw[HE.out,HS.out]
   exact ⟨rfl,qUNz _ _⟩
  ·have hd2:decide ((ts.length:Int)≤n)=false:=by simpa using h1
   obtain ⟨k,rfl⟩:=Int.eq_ofNat_of_zero_le (show 0≤n by omega)
   have hk:k<ts.length:=by omega
   obtain ⟨b,off,rfl,hbl,hcell⟩:∃b off,ao=some ⟨b,off,none⟩∧b<w.heap.size∧∀j (h:j<ts.length),w.cell? ⟨b,off+j,none⟩=some (.string (str ts[j])):=by
    rcases hc with h|h
    ·subst h;simp at hk
    ·exact h
   have HS:=hide (show wordS ts k=ts[k] by rw[wordS,if_pos (by omega)];simp[List.getD,hk])
   have c1:∀o,(w.alloc o).cell? ⟨b,off+k,none⟩=some (.string (str ts[k])):=fun o=>by
    rw[World.cell?_of_block (w:=w) (Below.heap_alloc w o b hbl)];exact hcell k hk
   clear hcell hc
   by_cases he:ts[k]=[]
   ·have HE:=hide (show wordE ts k=4 by rw[wordE,HS.out,he];rfl)
    have hem:(str ts[k]).toList.isEmpty=true:=by rw[Lib.toList_data,jrcE,he];rfl
    have HEM:=hide he
    clear he
    go_enter Tryz.func181,Tryz.ntmps181
    go_wp2
    go_ret2
    rw[HE.out,HS.out,HEM.out]
    exact ⟨rfl,qUNz _ _⟩
   ·have HE:=hide (show wordE ts k=0 by rw[wordE,HS.out,if_neg he])
    have hem:(str ts[k]).toList.isEmpty=false:=by rw[Lib.toList_data,jrcE];simpa using he
    clear he
    go_enter Tryz.func181,Tryz.ntmps181
    go_wp2
    go_ret2
    rw[HE.out,HS.out]
    exact ⟨rfl,qUNz _ _⟩
def XHvY (w:World) (ba bb:Nat) (bits:List UInt8) (pos:Nat):Prop :=
 w.heap[ba]?=some (.cells #[.int .i64 pos] 3 (0,0))∧w.heap[bb]?=some (.cells #[.string (str bits)] 9 (0,0))∧pos≤bits.length∧bits.length≤281474976710656
theorem XHvY.ne {w:World} {ba bb:Nat} {bits:List UInt8} {pos:Nat} (h:XHvY w ba bb bits pos):ba≠bb:=by
 intro e
 subst e
 have:=h.1.symm.trans h.2.1
 simp at this
theorem XHvY.below {w w':World} {ba bb:Nat} {bits:List UInt8} {pos:Nat} (h:XHvY w ba bb bits pos) (hb:Below w.heap.size w w'):XHvY w' ba bb bits pos :=
 ⟨by rw[hb.block ba (ka.1 h.1).1];exact h.1,by rw[hb.block bb (ka.1 h.2.1).1];exact h.2.1,h.2.2⟩
theorem XHvY.lt {w:World} {ba bb:Nat} {bits:List UInt8} {pos:Nat} (h:XHvY w ba bb bits pos):ba<w.heap.size∧bb<w.heap.size :=
 ⟨(ka.1 h.1).1,(ka.1 h.2.1).1⟩
def jPOo (f:List UInt8→Option (Int×Bool)) (rest:List UInt8) (j:Nat):Prop :=
 nextF f [] rest=((nextF f (rest.take j) (rest.drop j)).1,(nextF f (rest.take j) (rest.drop j)).2.1,j+(nextF f (rest.take j) (rest.drop j)).2.2)
theorem jPOo.start (f:List UInt8→Option (Int×Bool)) (rest:List UInt8):jPOo f rest 0:=by simp[jPOo]
theorem Xuht (rest:List UInt8) (j:Nat) (h:j<rest.length):rest.drop j=rest[j]::rest.drop (j+1):=List.drop_eq_getElem_cons h
theorem jPOo.none {f:List UInt8→Option (Int×Bool)} {rest:List UInt8} {j:Nat} (h:jPOo f rest j) (hj:j<rest.length) (hf:f (rest.take (j+1))=.none):nextF f [] rest=(0,4,j+1):=by
 unfold jPOo at h
 rw[kf hj] at hf
 rw[h,Xuht rest j hj,nextF,hf]
structure jqYJ (w wr:World) (bm n:Nat) (f:List UInt8→Option (Int×Bool)) (ba bb:Nat) (bits:List UInt8) (p:Nat):Prop where
 cell:wr.cell? ⟨w.heap.size,1,none⟩=some (.map (some bm))
 book:z395 wr bm n f
 taker:XHvY wr ba bb bits p
 grown:w.grownBy wr (some ba)
 size:w.heap.size+1≤wr.heap.size
theorem jqYJ.other {w wr w3:World} {bm n:Nat} {f:List UInt8→Option (Int×Bool)} {ba bb:Nat} {bits:List UInt8} {p:Nat} (h:jqYJ w wr bm n f ba bb bits p) (hba:ba<w.heap.size) (hbb:bb<w.heap.size) (hbm:bm<w.heap.size)
  {row:Option Nat} (hg:wr.grownBy w3 row) (hr:∀k,row=some k→w.heap.size+1≤k):jqYJ w w3 bm n f ba bb bits p:=by
 have hs:=h.grown.size
 have hz:=h.size
 have blk:∀k,k<w.heap.size+1→w3.heap[k]?=wr.heap[k]?:=fun k hk=>hg.block k (by omega) (fun e=>by have:=hr k e.symm;omega)
 refine ⟨?_,?_,?_,?_,ke hz hg.size⟩
 ·rw[World.cell?_of_block (w:=wr) (blk w.heap.size (by omega))];exact h.cell
 ·exact h.book.kept hg (fun e=>by have:=hr bm e.symm;omega)
 ·exact ⟨by rw[blk ba (by omega)];exact h.taker.1,by rw[blk bb (by omega)];exact h.taker.2.1,h.taker.2.2⟩
 ·refine ⟨hg.os.trans h.grown.os,hg.tape.trans h.grown.tape,hg.output.trans h.grown.output,ke hs hg.size,fun k hk hne=>?_⟩
  rw[blk k (by omega)]
  exact h.grown.block k hk hne
theorem jqYJ.alloc {w wr:World} {bm n:Nat} {f:List UInt8→Option (Int×Bool)} {ba bb:Nat} {bits:List UInt8} {p:Nat} (h:jqYJ w wr bm n f ba bb bits p) (hba:ba<w.heap.size) (hbb:bb<w.heap.size) (hbm:bm<w.heap.size) (o:Obj):jqYJ w (wr.alloc o) bm n f ba bb bits p :=
 h.other hba hbb hbm (World.grownBy_alloc wr o none) (by simp)
theorem Xlmz (xs:List Int) (hok:qtFp xs=true):∀i (h:i<(j6d1 xs).length),(j6d1 xs)[i].length≤15:=by
 intro i h
 rw[zFud] at h
 rw[XL3e xs i h]
 exact qnca xs hok i
def bookOf (xs:List Int):List UInt8→Option (Int×Bool):=bookF (j6d1 xs) (j6d1 xs).length
end Go.Proofs.YtfjeonehdlphiaaGreatDoor
