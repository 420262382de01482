/- Sh: part 5 of what the proofs need. -/
import Derived.Test.YtfjeonehdlphiaaGreatDoorC1Sh
import Derived.Test.YtfjeonehdlphiaaGreatDoorC2Sh
import Derived.Test.YtfjeonehdlphiaaGreatDoorC3Sh
import Derived.Test.YtfjeonehdlphiaaGreatDoorC4Sh
import Derived.Deep.CutRange
import Derived.Deep.Cut
import Derived.BigQuiet
import Derived.Test.YtfjeonehdlphiaaGreatDoorRows
import Derived.Lib.LaidTab
import Derived.ChangeArms
import Derived.OpenShut
import Derived.LaidSub
import Derived.ProofKit
import Derived.ChangeSame
import Derived.DataReads
namespace Go.Proofs.YtfjeonehdlphiaaGreatDoor
theorem jblL {N:Nat} {zs:List Int} {B:Int} (h:∀j,0≤zAt zs j∧zAt zs j≤B) (W H:Nat) (px py:Fin N→Int) (cnt:Fin N→Bool) (pre:List (Fin N)) (s:Int×Nat) (h1:0≤s.1) (h2:s.1≤s.2*B) :
  0≤(pre.foldl (mStep zs W H px py cnt) s).1∧(pre.foldl (mStep zs W H px py cnt) s).1≤(pre.foldl (mStep zs W H px py cnt) s).2*B:=by
 induction pre generalizing s with
 | nil=>exact ⟨h1,h2⟩
 | cons x pre ih =>
  simp only[List.foldl_cons]
  have hz:=h ((py x).toNat*W+(px x).toNat)
  refine ih (mStep zs W H px py cnt s x) ?_ ?_
  ·unfold mStep
   split
   ·show 0≤s.1+zAt zs ((py x).toNat*W+(px x).toNat);omega
   ·exact h1
  ·unfold mStep
   split
   ·show s.1+zAt zs ((py x).toNat*W+(px x).toNat)≤((s.2+1:Nat):Int)*B
    have e:((s.2+1:Nat):Int)*B=s.2*B+B:=by rw[Int.natCast_add,Int.add_mul];simp
    omega
   ·exact h2
theorem jn73 {N:Nat} {zs:List Int} {B:Int} (h:∀j,0≤zAt zs j∧zAt zs j≤B) (W H:Nat) (px py:Fin N→Int) (cnt:Fin N→Bool):0≤meanV zs W H px py cnt∧meanV zs W H px py cnt≤B:=by
 have hB:0≤B:=by have:=h 0;omega
 obtain ⟨h1,h2⟩:=jblL h W H px py cnt (List.finRange N) (0,0) (Int.le_refl _) (by simp)
 unfold meanV mF
 generalize (List.finRange N).foldl (mStep zs W H px py cnt) (0,0)=s at *
 split
 ·exact ⟨Int.le_refl _,hB⟩
 ·rename_i hn
  refine ⟨Int.ediv_nonneg h1 (by omega),Int.ediv_le_of_le_mul (by omega) ?_⟩
  rw[Int.mul_comm];exact h2
theorem jwje {zs:List Int} {B:Int} (h:∀j,0≤zAt zs j∧zAt zs j≤B) (W H p X Y c:Nat):0≤partV zs W H p X Y c∧partV zs W H p X Y c≤B:=by
 unfold partV
 split
 ·exact h _
 ·exact jn73 h W H _ _ _
theorem ji4F (W H:Int) (zs:List Int) (phase:Int):(fillL W H zs phase).length=zs.length:=by simp[fillL]
theorem jSvB {W H:Int} {zs:List Int} (phase:Int) (h:q0fM W H zs=true):picOk W H (fillL W H zs phase)=true:=by
 obtain ⟨h1,h2,h3,_⟩:=qwcI h
 have hz:=XWrv (XAOl h)
 rw[jZMK,Bool.and_eq_true] at h
 rw[picOk,ji4F,h.1,Bool.true_and]
 refine List.all_eq_true.2 fun q hq=>?_
 obtain ⟨j,_,rfl⟩:=List.mem_map.1 hq
 exact (X1aR _).2 ⟨jwje hz _ _ _ _ _ 0,jwje hz _ _ _ _ _ 1,jwje hz _ _ _ _ _ 2⟩
end Go.Proofs.YtfjeonehdlphiaaGreatDoor

namespace Go.Proofs.YtfjeonehdlphiaaGreatDoor
theorem jIzf {ls:List Pt} (h:jhAl ls) {x:Int} (hx:x≤65535):∃i,isAt ls x i:=by
 have key:∀k,k≤ls.length→(∃i,isAt ls x i)∨∀j,j<k→(ptAt ls j).1<x:=by
  intro k
  induction k with
  | zero=>intro _;exact .inr fun j hj=>by omega
  | succ k ih =>
   intro hk
   rcases ih (by omega) with h1|h1
   ·exact .inl h1
   ·by_cases hc:(ptAt ls k).1<x
    ·refine .inr fun j hj=>?_
     rcases Nat.eq_or_lt_of_le (show j≤k by omega) with e|hlt
     ·rw[e];exact hc
     ·exact h1 j hlt
    ·exact .inl ⟨k,by omega,by omega,h1⟩
 rcases key ls.length (Nat.le_refl _) with h1|h1
 ·exact h1
 ·have:=h1 (ls.length-1) (by have:=h.two;omega)
  have:=h.last
  omega
theorem jhAl.le {ls:List Pt} (h:jhAl ls) (i j:Nat) (hij:i≤j) (hj:j<ls.length):(ptAt ls i).2≤(ptAt ls j).2:=by
 rcases Nat.eq_or_lt_of_le hij with e|hlt
 ·rw[e];exact Int.le_refl _
 ·have:=(h.lt i (j-i-1) (by omega)).2
  rw[show i+(j-i-1)+1=j by omega] at this
  exact this
end Go.Proofs.YtfjeonehdlphiaaGreatDoor

namespace Go.Proofs.YtfjeonehdlphiaaGreatDoor
set_option linter.unusedVariables false
theorem qzi6 {a b:Int} {xs:List Int} (h:∀x∈xs,a≤x∧x≤b):allIn a b xs=true:=List.all_eq_true.2 fun x hx=>decide_eq_true (h x hx)
theorem jFYF {W H:Int} {zs:List Int} (h:q0fM W H zs=true) (f:Nat→Int) (hf:∀j,0≤f j∧f j≤65535):q0fM W H ((List.range zs.length).map f)=true:=by
 rw[jZMK,Bool.and_eq_true] at h ⊢
 refine ⟨by simpa using h.1,qzi6 fun x hx=>?_⟩
 obtain ⟨j,_,rfl⟩:=List.mem_map.1 hx
 exact hf j
theorem XeSE {p:Px} (h1:0≤p.1∧p.1≤65535) (h2:0≤p.2.1∧p.2.1≤65535) (h3:0≤p.2.2∧p.2.2≤65535):pxOk p=true :=
 qzi6 fun x hx=>by
  simp only[List.mem_cons,List.not_mem_nil,or_false] at hx
  rcases hx with rfl|rfl|rfl
  ·exact h1
  ·exact h2
  ·exact h3
theorem jaCX {W H:Int} {ps qs:List Px} (h:picOk W H ps=true) (hl:qs.length=ps.length) (hq:∀q∈qs,pxOk q=true):picOk W H qs=true:=by
 rw[picOk,Bool.and_eq_true] at h ⊢
 exact ⟨by rw[hl];exact h.1,List.all_eq_true.2 hq⟩
def dev1 (n:Plan) (W:Int) (zs:List Int):List Int:=levL W zs n.black n.white
def dev2 (n:Plan) (W H:Int) (zs:List Int):List Int:=repL W H (dev1 n W zs) n.spots
def dev3 (n:Plan) (W H:Int) (zs:List Int):List Int:=gaiL W (dev2 n W H zs) n.phase n.gains
def dev4 (n:Plan) (W H:Int) (zs:List Int):List Px:=fillL W H (dev3 n W H zs) n.phase
def dev5 (n:Plan) (W H:Int) (zs:List Int):List Px:=(dev4 n W H zs).map (mixP n.matrix)
def dev6 (n:Plan) (W H:Int) (zs:List Int):List Px:=(dev5 n W H zs).map (bendP n.curve)
def dev7 (n:Plan) (W H:Int) (zs:List Int):List Px:=jz1R W H (dev6 n W H zs) n.amount
theorem j8g5 (n:Plan) (W:Int) (zs:List Int):(dev1 n W zs).length=zs.length:=by simp[dev1,levL]
theorem zAmR (n:Plan) (W H:Int) (zs:List Int):(dev2 n W H zs).length=zs.length:=by simp[dev2,repL,j8g5]
theorem qvem (n:Plan) (W H:Int) (zs:List Int):(dev3 n W H zs).length=zs.length:=by simp[dev3,gaiL,zAmR]
theorem jByB (n:Plan) (W H:Int) (zs:List Int):(dev4 n W H zs).length=zs.length:=by simp[dev4,ji4F,qvem]
theorem XEJ7 (n:Plan) (W H:Int) (zs:List Int):(dev5 n W H zs).length=zs.length:=by simp[dev5,jByB]
theorem qyIC (n:Plan) (W H:Int) (zs:List Int):(dev6 n W H zs).length=zs.length:=by simp[dev6,XEJ7]
theorem zrLo (n:Plan) (W H:Int) (zs:List Int):(dev7 n W H zs).length=zs.length:=by simp[dev7,jz1R,qyIC]
structure DevOk (n:Plan) (W H:Int) (zs:List Int):Prop where
 plane:q0fM W H zs=true
 phase:qdne n.phase=true
 levels:zN6Q n.black n.white=true
 gains:j1E7 n.gains=true
 matrix:matOk n.matrix=true
 amount:XbQH n.amount=true
 many:(n.spots.length:Int)≤64
 spots:XepW W H n.spots=true
 curve:zamz n.curve=true
section
variable {n:Plan} {W H:Int} {zs:List Int} (h:DevOk n W H zs)
include h
theorem DevOk.e1:levE W H zs n.black n.white=0:=by rw[levE,if_pos h.plane,if_pos h.levels]
theorem DevOk.p1:q0fM W H (dev1 n W zs)=true:=jFYF h.plane _ fun j=>zFh8 _
theorem DevOk.e2:repE W H (dev1 n W zs) n.spots=0:=by rw[repE,if_pos h.p1,if_pos h.many,if_pos h.spots]
theorem DevOk.p2:q0fM W H (dev2 n W H zs)=true:=jFYF h.p1 _ fun j=>by
 have hz:=fun j=>XWrv (XAOl h.p1) j
 unfold repV
 split
 ·exact hz j
 ·exact jn73 hz _ _ _ _ _
theorem DevOk.e3:gaiE W H (dev2 n W H zs) n.phase n.gains=0:=by rw[gaiE,if_pos h.p2,if_pos ⟨h.phase,h.gains⟩]
theorem DevOk.p3:q0fM W H (dev3 n W H zs)=true:=jFYF h.p2 _ fun j=>zFh8 _
theorem DevOk.e4:fillE W H (dev3 n W H zs) n.phase=0:=by rw[fillE,if_pos h.p3,if_pos h.phase]
theorem DevOk.p4:picOk W H (dev4 n W H zs)=true:=jSvB _ h.p3
theorem DevOk.e5:mixE W H (dev4 n W H zs) n.matrix=0:=by rw[mixE,if_pos h.p4,if_pos h.matrix]
theorem DevOk.p5:picOk W H (dev5 n W H zs)=true:=jaCX h.p4 (by simp[dev5]) fun q hq=>by
 obtain ⟨p,_,rfl⟩:=List.mem_map.1 hq
 exact XeSE (zFh8 _) (zFh8 _) (zFh8 _)
theorem DevOk.e6:bendE W H (dev5 n W H zs) n.curve=0:=by rw[bendE,if_pos ⟨h.p5,h.curve⟩]
theorem DevOk.p6:picOk W H (dev6 n W H zs)=true:=jaCX h.p5 (by simp[dev6]) fun q hq=>by
 obtain ⟨p,hp,rfl⟩:=List.mem_map.1 hq
 have hps:=(XMjn h.p5).2.2.2
 have hpo:pxOk p=true:=List.all_eq_true.1 hps p hp
 have hpp:(0≤p.1∧p.1≤65535)∧(0≤p.2.1∧p.2.1≤65535)∧(0≤p.2.2∧p.2.2≤65535):=by simpa [pxOk,allIn] using hpo
 have hc:=zqz3 h.curve
 have hr:∀x,0≤x∧x≤65535→0≤qy0p n.curve x∧qy0p n.curve x≤65535:=fun x hx=>by
  obtain ⟨i,hi⟩:=jIzf hc hx.2
  exact qgIX hc hi hx.1
 exact XeSE (hr _ hpp.1) (hr _ hpp.2.1) (hr _ hpp.2.2)
theorem DevOk.e7:joyM W H (dev6 n W H zs) n.amount=0:=by rw[joyM,if_pos h.p6,if_pos h.amount]
end
end Go.Proofs.YtfjeonehdlphiaaGreatDoor

namespace Go.Proofs.YtfjeonehdlphiaaGreatDoor
set_option linter.unusedVariables false
open Go.RowKit
abbrev stA (n:Plan) (sv cv:Value):Array Value:=#[.iface 240 (.agg #[.int .i64 (n.black 0),.int .i64 (n.black 1),.int .i64 (n.black 2),.int .i64 (n.black 3),.int .i64 n.white]),.iface 242 (.agg #[sv]),.iface 244 (.agg #[.int .i64 n.phase,.int .i64 (n.gains 0),.int .i64 (n.gains 1),.int .i64 (n.gains 2)]),.iface 246 (.agg #[.int .i64 n.phase]),.iface 248 (.agg #[.int .i64 (n.matrix 0),.int .i64 (n.matrix 1),.int .i64 (n.matrix 2),.int .i64 (n.matrix 3),.int .i64 (n.matrix 4),.int .i64 (n.matrix 5),.int .i64 (n.matrix 6),.int .i64 (n.matrix 7),.int .i64 (n.matrix 8)]),.iface 250 (.agg #[cv]),.iface 252 (.agg #[.int .i64 n.amount])]
set_option maxRecDepth 100000 in
set_option maxHeartbeats 1600000 in
theorem zrcF (n:Plan) (sv cv:Value) (w:World) (hp:X1uD w n sv cv) :
  Calls Tryz.prog 171 #[.agg (planA n sv cv)] w fun e w'=>∃b,e=.returned (.slice (some ⟨b,0,none⟩) 7 7)∧w.heap.size≤b∧w'.heap[b]?=some (.cells (stA n sv cv) 210 (0,0))∧Below w.heap.size w w':=by
 obtain ⟨⟨lo,lc,rfl,hll,_⟩,⟨ko,kc,rfl,hkl,_⟩⟩:=hp
 have a1:=al1 w (Obj.cells (planA n (.slice lo n.spots.length lc) (.slice ko n.curve.length kc)) 51)
 obtain ⟨c0,c1,c2,c3,c4,c5,c6,c7,c8,c9,c10,c11,c12,c13,c14,c15,c16,c17,c18,c19,c20⟩:=qH9I a1
 have HB:=hide (be2 w (Obj.cells (planA n (.slice lo n.spots.length lc) (.slice ko n.curve.length kc)) 51) (Obj.cells (stA n (.slice lo n.spots.length lc) (.slice ko n.curve.length kc)) 210))
 have HS:=hide (al2 w (Obj.cells (planA n (.slice lo n.spots.length lc) (.slice ko n.curve.length kc)) 51) (Obj.cells (stA n (.slice lo n.spots.length lc) (.slice ko n.curve.length kc)) 210)).2
 go_enter Tryz.func171,Tryz.ntmps171
 go_wp2
 go_ret
 exact ⟨w.heap.size+1,rfl,Nat.le_succ _,HS.out,HB.out⟩
def FrIs (n:Plan) (W H:Int) (zs:List Int) (B F:Nat) (wr:World):Nat→Prop
 | 0=>∃r,wr.heap[F]?=some (.cells (frP W H r) 206 (0,0))∧jCvT wr r zs
 | 1=>∃r,wr.heap[F]?=some (.cells (frP W H r) 206 (0,0))∧jCvT wr r (dev1 n W zs)
 | 2=>∃r,wr.heap[F]?=some (.cells (frP W H r) 206 (0,0))∧jCvT wr r (dev2 n W H zs)
 | 3=>∃r,wr.heap[F]?=some (.cells (frP W H r) 206 (0,0))∧jCvT wr r (dev3 n W H zs)
 | 4=>∃r,wr.heap[F]?=some (.cells (frQ W H r) 206 (0,0))∧IsPix wr r (dev4 n W H zs)
 | 5=>∃r,wr.heap[F]?=some (.cells (frQ W H r) 206 (0,0))∧IsPix wr r (dev5 n W H zs)
 | 6=>∃r,wr.heap[F]?=some (.cells (frQ W H r) 206 (0,0))∧IsPix wr r (dev6 n W H zs)
 | _=>∃r,wr.heap[F]?=some (.cells (frQ W H r) 206 (0,0))∧IsPix wr r (dev7 n W H zs)∧Fresh B r
def DvK (w W1:World) (F:Nat) (wr:World):Prop:=(∀b,b<W1.heap.size→b≠F→wr.heap[b]?=W1.heap[b]?)∧W1.heap.size≤wr.heap.size∧Below w.heap.size w wr
theorem DvK.next {w W1:World} {F:Nat} {wr V:World} (h:DvK w W1 F wr) (hF:w.heap.size≤F) (hV:Below wr.heap.size wr V) (cs:Array Value):DvK w W1 F (V.setRow F cs) :=
 ⟨fun b hb hne=>(setRow_other V F b cs hne).trans ((hV.block b (Nat.lt_of_lt_of_le hb h.2.1)).trans (h.1 b hb hne)),by rw[setRow_size];exact Nat.le_trans h.2.1 hV.size,below_setRow (h.2.2.trans (hV.mono h.2.2.size)) hF cs⟩
theorem meth0 (n:Plan) (w:World):(method 405 240 (.agg #[.int .i64 (n.black 0),.int .i64 (n.black 1),.int .i64 (n.black 2),.int .i64 (n.black 3),.int .i64 n.white]) "darkslide/line.run").run Tryz.prog w=.ok (253,.agg #[.int .i64 (n.black 0),.int .i64 (n.black 1),.int .i64 (n.black 2),.int .i64 (n.black 3),.int .i64 n.white]) w:=by kernel_rfl
theorem meth1 (lo:Option Addr) (ll lc:Nat) (w:World):(method 405 242 (.agg #[.slice lo ll lc]) "darkslide/line.run").run Tryz.prog w=.ok (258,.agg #[.slice lo ll lc]) w:=by kernel_rfl
theorem meth2 (n:Plan) (w:World):(method 405 244 (.agg #[.int .i64 n.phase,.int .i64 (n.gains 0),.int .i64 (n.gains 1),.int .i64 (n.gains 2)]) "darkslide/line.run").run Tryz.prog w=.ok (264,.agg #[.int .i64 n.phase,.int .i64 (n.gains 0),.int .i64 (n.gains 1),.int .i64 (n.gains 2)]) w:=by kernel_rfl
theorem meth3 (n:Plan) (w:World):(method 405 246 (.agg #[.int .i64 n.phase]) "darkslide/line.run").run Tryz.prog w=.ok (267,.agg #[.int .i64 n.phase]) w:=by kernel_rfl
theorem meth4 (n:Plan) (w:World):(method 405 248 (.agg #[.int .i64 (n.matrix 0),.int .i64 (n.matrix 1),.int .i64 (n.matrix 2),.int .i64 (n.matrix 3),.int .i64 (n.matrix 4),.int .i64 (n.matrix 5),.int .i64 (n.matrix 6),.int .i64 (n.matrix 7),.int .i64 (n.matrix 8)]) "darkslide/line.run").run Tryz.prog w=.ok (268,.agg #[.int .i64 (n.matrix 0),.int .i64 (n.matrix 1),.int .i64 (n.matrix 2),.int .i64 (n.matrix 3),.int .i64 (n.matrix 4),.int .i64 (n.matrix 5),.int .i64 (n.matrix 6),.int .i64 (n.matrix 7),.int .i64 (n.matrix 8)]) w:=by kernel_rfl
theorem meth5 (lo:Option Addr) (ll lc:Nat) (w:World):(method 405 250 (.agg #[.slice lo ll lc]) "darkslide/line.run").run Tryz.prog w=.ok (274,.agg #[.slice lo ll lc]) w:=by kernel_rfl
theorem meth6 (n:Plan) (w:World):(method 405 252 (.agg #[.int .i64 n.amount]) "darkslide/line.run").run Tryz.prog w=.ok (277,.agg #[.int .i64 n.amount]) w:=by kernel_rfl
set_option maxRecDepth 100000 in
set_option maxHeartbeats 6400000 in
theorem j0Kd (n:Plan) (sv cv:Value) (W H:Int) (v:Value) (zs:List Int) (w:World) (hp:X1uD w n sv cv) (hls:∀j,j<n.spots.length→ptWf (ptAt n.spots j)) (hv:jCvT w v zs) (hD:DevOk n W H zs) :
  Calls Tryz.prog 117 #[.agg (planA n sv cv),.agg #[.int .i64 W,.int .i64 H,v]] w fun e w'=>∃r,e=.returned (.tuple #[.agg #[.int .i64 W,.int .i64 H,r],.int .i64 0])∧IsPix w' r (dev7 n W H zs)∧Below w.heap.size w w'∧Fresh w.heap.size r:=by
 have HP:=hide hp
 have HV:=hide hv
 have HD:=hide hD
 clear hD
 obtain ⟨⟨lo,lc,rfl,hll,_⟩,⟨ko,kc,rfl,hkl,_⟩⟩:=hp
 obtain ⟨ao,ca,rfl,_,_⟩:=hv
 obtain ⟨a1,a2,a3,a4⟩:=al4 w (Obj.cells (planA n (.slice lo n.spots.length lc) (.slice ko n.curve.length kc)) 51) (Obj.cells #[.int .i64 W,.int .i64 H,.slice ao zs.length ca] 54) (Obj.cells #[.int .i64 0,.int .i64 0,.slice none 0 0] 24) (Obj.cells (frP W H (.slice ao zs.length ca)) 206)
 have HB:=hide (be4 w (Obj.cells (planA n (.slice lo n.spots.length lc) (.slice ko n.curve.length kc)) 51) (Obj.cells #[.int .i64 W,.int .i64 H,.slice ao zs.length ca] 54) (Obj.cells #[.int .i64 0,.int .i64 0,.slice none 0 0] 24) (Obj.cells (frP W H (.slice ao zs.length ca)) 206))
 have HST:=hide (fun (u:World) (hu:Below w.heap.size w u)=>zrcF n _ _ u (HP.out.below hu (Nat.le_refl _)))
 obtain ⟨p0,p1,p2⟩:=z5EY (al3 w (Obj.cells (planA n (.slice lo n.spots.length lc) (.slice ko n.curve.length kc)) 51) (Obj.cells #[.int .i64 W,.int .i64 H,.slice ao zs.length ca] 54) (Obj.cells #[.int .i64 0,.int .i64 0,.slice none 0 0] 24)).2.1
 go_enter Tryz.func117,Tryz.ntmps117
 go_wp2_with (refine wpList_load_row rfl 51 _ rfl _ rfl _ _ _ _ a1 Tryz.underlying51 rfl (by kernel_rfl) ?_)
 have hl1:=(Array.getElem?_eq_some_iff.1 a1).1
 have hl3:=(Array.getElem?_eq_some_iff.1 a3).1
 have hl4:=(Array.getElem?_eq_some_iff.1 a4).1
 clear p0 p1 p2
 generalize (((w.alloc (Obj.cells (planA n (.slice lo n.spots.length lc) (.slice ko n.curve.length kc)) 51)).alloc (Obj.cells #[.int .i64 W,.int .i64 H,.slice ao zs.length ca] 54)).alloc (Obj.cells #[.int .i64 0,.int .i64 0,.slice none 0 0] 24)).alloc (Obj.cells (frP W H (.slice ao zs.length ca)) 206)=U at *
 refine (HST.out _ HB.out).mono ?_
 rintro e w1 ⟨sb,rfl,hsb,hst,hb1⟩
 have hls1:=(Array.getElem?_eq_some_iff.1 hst).1
 have hsz1:=hb1.size
 have f4:=(hb1.block _ hl4).trans a4
 have g3:=(hb1.block _ hl3).trans a3
 have HBW:=hide (HB.out.trans (hb1.mono HB.out.size))
 have HI0:=hide (HV.out.below HBW.out (Nat.le_refl _))
 go_wp2_with fail
 go_loopw [16] (fun i wr=>∃k:Nat,k≤7∧i=.int .i64 k∧FrIs n W H zs (w.heap.size+4) (w.heap.size+3) wr k∧DvK w w1 (w.heap.size+3) wr) (fun i _=>7-(intOf i).toNat)
 case atStart=>exact ⟨0,by omega,rfl,⟨_,f4,HI0.out⟩,fun _ _ _=>rfl,Nat.le_refl _,HBW.out⟩
 case round =>
  clear f4 HI0
  obtain ⟨k,hk,rfl,hF,hK⟩:=hrel
  have hst1:=(hK.1 sb hls1 (by omega)).trans hst
  have g3r:=(hK.1 (w.heap.size+2) (by omega) (by omega)).trans g3
  have HBr:=hide hK.2.2
  have HSPr:=hide (HP.out.spots.below HBr.out (Nat.le_refl _))
  have HCVr:=hide (HP.out.curve.below HBr.out (Nat.le_refl _))
  have HNX:=hide (fun (V:World) (hV:Below wr.heap.size wr V) (cs:Array Value)=>hK.next (show w.heap.size≤w.heap.size+3 by omega) hV cs)
  have hszr:=hK.2.1
  clear hK
  rcases (show k=0∨k=1∨k=2∨k=3∨k=4∨k=5∨k=6∨k=7 by omega) with rfl|rfl|rfl|rfl|rfl|rfl|rfl|rfl
  ·obtain ⟨r,f4,hr⟩:=hF
   have HR:=hide hr
   obtain ⟨ro,rc,rfl,x1,x2⟩:=hr
   clear x1 x2
   have HRUN:=hide (jrQv W H _ zs n.black n.white _ HR.out HD.out.e1)
   obtain ⟨N,hN⟩:∃N,(zs).length=N:=⟨_,rfl⟩
   rw[hN] at f4 HRUN
   clear hN
   have ck:wr.cell? ⟨sb,0,none⟩=some (.iface 240 (.agg #[.int .i64 (n.black 0),.int .i64 (n.black 1),.int .i64 (n.black 2),.int .i64 (n.black 3),.int .i64 n.white])):=by rw[Lib.cell_of_heap hst1];rfl
   have hm:=meth0 n
   have hna:=enters_of Tryz.func253 (by kernel_rfl) rfl
   obtain ⟨q0,q1,q2,q3,q4,q5⟩:=jcb2 (b:=w.heap.size+1+1+1) f4
   go_wp2_with fail
   refine HRUN.out.mono ?_
   rintro e V1 ⟨r2,rfl,hr2,hb1,hfr2⟩
   have HR2:=hide hr2
   obtain ⟨so,sc,rfl,x1,x2⟩:=hr2
   clear x1 x2
   obtain ⟨N2,hN2⟩:∃N2,(dev1 n W zs).length=N2:=⟨_,rfl⟩
   first|rw[show _=N2 from hN2] at HR2 hfr2 ⊢ | (change (levL W zs n.black n.white).length=N2 at hN2;rw[hN2] at HR2 hfr2 ⊢)
   clear hN2
   have t9:=al1 V1 (Obj.cells (frP W H (.slice so N2 sc)) 206)
   have hb2:=quJN hb1 (qUNz V1 (Obj.cells (frP W H (.slice so N2 sc)) 206))
   have HR3:=hide (HR2.out.alloc (Obj.cells (frP W H (.slice so N2 sc)) 206))
   have i1:(Tryz.prog.info? 206).map (·.size)=some (frP W H (.slice so N2 sc)).size:=by kernel_rfl
   have i3:(frP W H (.slice so N2 sc)).all (·.oneCell')=true:=by simp[Value.oneCell']
   have hl4r:=(Array.getElem?_eq_some_iff.1 f4).1
   have i4:(V1.alloc (Obj.cells (frP W H (.slice so N2 sc)) 206)).heap[w.heap.size+1+1+1]?=some (.cells (frP W H (.slice ro N rc)) 206 (0,0)):=(hb2.block _ hl4r).trans f4
   have HX:=hide (HR3.out.setRow hfr2 (show w.heap.size+1+1+1<wr.heap.size from hl4r) (frP W H (.slice so N2 sc)))
   have HN:=hide (HNX.out _ hb2 (frP W H (.slice so N2 sc)))
   have HBX:=hide (setRow_heap _ _ _ (frP W H (.slice so N2 sc)) _ _ i4)
   have hwr:=HBr.out.size
   have HFR:=hide (hfr2.mono (show w.heap.size+4≤wr.heap.size by omega))
   clear q0 q1 q2 q3 q4 q5 ck hm hna
   go_wp2_with (first|refine wpList_load_row rfl 206 _ rfl _ rfl _ _ _ _ t9 Tryz.underlying206 rfl (by kernel_rfl) ?_|refine wpList_store_row rfl 206 _ _ rfl (w.heap.size+1+1+1) (frP W H (.slice so N2 sc)) rfl rfl _ _ i4 i1 rfl i3 ?_)
   go_roundw
   case rel=>exact ⟨1,by omega,rfl,⟨_,HBX.out,HX.out⟩,HN.out⟩
   case measure=>simp[intOf]
  ·obtain ⟨r,f4,hr⟩:=hF
   have HR:=hide hr
   obtain ⟨ro,rc,rfl,x1,x2⟩:=hr
   clear x1 x2
   have HRUN:=hide (qxTT W H _ (dev1 n W zs) _ n.spots hls _ HR.out HSPr.out HD.out.e2)
   obtain ⟨N,hN⟩:∃N,(dev1 n W zs).length=N:=⟨_,rfl⟩
   rw[hN] at f4 HRUN
   clear hN
   have ck:wr.cell? ⟨sb,1,none⟩=some (.iface 242 (.agg #[.slice lo n.spots.length lc])):=by rw[Lib.cell_of_heap hst1];rfl
   have hm:=meth1 lo n.spots.length lc
   have hna:=enters_of Tryz.func258 (by kernel_rfl) rfl
   obtain ⟨q0,q1,q2,q3,q4,q5⟩:=jcb2 (b:=w.heap.size+1+1+1) f4
   go_wp2_with fail
   refine HRUN.out.mono ?_
   rintro e V1 ⟨r2,rfl,hr2,hb1,hfr2⟩
   have HR2:=hide hr2
   obtain ⟨so,sc,rfl,x1,x2⟩:=hr2
   clear x1 x2
   obtain ⟨N2,hN2⟩:∃N2,(dev2 n W H zs).length=N2:=⟨_,rfl⟩
   first|rw[show _=N2 from hN2] at HR2 hfr2 ⊢ | (change (repL W H (dev1 n W zs) n.spots).length=N2 at hN2;rw[hN2] at HR2 hfr2 ⊢)
   clear hN2
   have t9:=al1 V1 (Obj.cells (frP W H (.slice so N2 sc)) 206)
   have hb2:=quJN hb1 (qUNz V1 (Obj.cells (frP W H (.slice so N2 sc)) 206))
   have HR3:=hide (HR2.out.alloc (Obj.cells (frP W H (.slice so N2 sc)) 206))
   have i1:(Tryz.prog.info? 206).map (·.size)=some (frP W H (.slice so N2 sc)).size:=by kernel_rfl
   have i3:(frP W H (.slice so N2 sc)).all (·.oneCell')=true:=by simp[Value.oneCell']
   have hl4r:=(Array.getElem?_eq_some_iff.1 f4).1
   have i4:(V1.alloc (Obj.cells (frP W H (.slice so N2 sc)) 206)).heap[w.heap.size+1+1+1]?=some (.cells (frP W H (.slice ro N rc)) 206 (0,0)):=(hb2.block _ hl4r).trans f4
   have HX:=hide (HR3.out.setRow hfr2 (show w.heap.size+1+1+1<wr.heap.size from hl4r) (frP W H (.slice so N2 sc)))
   have HN:=hide (HNX.out _ hb2 (frP W H (.slice so N2 sc)))
   have HBX:=hide (setRow_heap _ _ _ (frP W H (.slice so N2 sc)) _ _ i4)
   have hwr:=HBr.out.size
   have HFR:=hide (hfr2.mono (show w.heap.size+4≤wr.heap.size by omega))
   clear q0 q1 q2 q3 q4 q5 ck hm hna
   go_wp2_with (first|refine wpList_load_row rfl 206 _ rfl _ rfl _ _ _ _ t9 Tryz.underlying206 rfl (by kernel_rfl) ?_|refine wpList_store_row rfl 206 _ _ rfl (w.heap.size+1+1+1) (frP W H (.slice so N2 sc)) rfl rfl _ _ i4 i1 rfl i3 ?_)
   go_roundw
   case rel=>exact ⟨2,by omega,rfl,⟨_,HBX.out,HX.out⟩,HN.out⟩
   case measure=>simp[intOf]
  ·obtain ⟨r,f4,hr⟩:=hF
   have HR:=hide hr
   obtain ⟨ro,rc,rfl,x1,x2⟩:=hr
   clear x1 x2
   have HRUN:=hide (qlQT W H _ (dev2 n W H zs) n.phase n.gains _ HR.out HD.out.e3)
   obtain ⟨N,hN⟩:∃N,(dev2 n W H zs).length=N:=⟨_,rfl⟩
   rw[hN] at f4 HRUN
   clear hN
   have ck:wr.cell? ⟨sb,2,none⟩=some (.iface 244 (.agg #[.int .i64 n.phase,.int .i64 (n.gains 0),.int .i64 (n.gains 1),.int .i64 (n.gains 2)])):=by rw[Lib.cell_of_heap hst1];rfl
   have hm:=meth2 n
   have hna:=enters_of Tryz.func264 (by kernel_rfl) rfl
   obtain ⟨q0,q1,q2,q3,q4,q5⟩:=jcb2 (b:=w.heap.size+1+1+1) f4
   go_wp2_with fail
   refine HRUN.out.mono ?_
   rintro e V1 ⟨r2,rfl,hr2,hb1,hfr2⟩
   have HR2:=hide hr2
   obtain ⟨so,sc,rfl,x1,x2⟩:=hr2
   clear x1 x2
   obtain ⟨N2,hN2⟩:∃N2,(dev3 n W H zs).length=N2:=⟨_,rfl⟩
   first|rw[show _=N2 from hN2] at HR2 hfr2 ⊢ | (change (gaiL W (dev2 n W H zs) n.phase n.gains).length=N2 at hN2;rw[hN2] at HR2 hfr2 ⊢)
   clear hN2
   have t9:=al1 V1 (Obj.cells (frP W H (.slice so N2 sc)) 206)
   have hb2:=quJN hb1 (qUNz V1 (Obj.cells (frP W H (.slice so N2 sc)) 206))
   have HR3:=hide (HR2.out.alloc (Obj.cells (frP W H (.slice so N2 sc)) 206))
   have i1:(Tryz.prog.info? 206).map (·.size)=some (frP W H (.slice so N2 sc)).size:=by kernel_rfl
   have i3:(frP W H (.slice so N2 sc)).all (·.oneCell')=true:=by simp[Value.oneCell']
   have hl4r:=(Array.getElem?_eq_some_iff.1 f4).1
   have i4:(V1.alloc (Obj.cells (frP W H (.slice so N2 sc)) 206)).heap[w.heap.size+1+1+1]?=some (.cells (frP W H (.slice ro N rc)) 206 (0,0)):=(hb2.block _ hl4r).trans f4
   have HX:=hide (HR3.out.setRow hfr2 (show w.heap.size+1+1+1<wr.heap.size from hl4r) (frP W H (.slice so N2 sc)))
   have HN:=hide (HNX.out _ hb2 (frP W H (.slice so N2 sc)))
   have HBX:=hide (setRow_heap _ _ _ (frP W H (.slice so N2 sc)) _ _ i4)
   have hwr:=HBr.out.size
   have HFR:=hide (hfr2.mono (show w.heap.size+4≤wr.heap.size by omega))
   clear q0 q1 q2 q3 q4 q5 ck hm hna
   go_wp2_with (first|refine wpList_load_row rfl 206 _ rfl _ rfl _ _ _ _ t9 Tryz.underlying206 rfl (by kernel_rfl) ?_|refine wpList_store_row rfl 206 _ _ rfl (w.heap.size+1+1+1) (frP W H (.slice so N2 sc)) rfl rfl _ _ i4 i1 rfl i3 ?_)
   go_roundw
   case rel=>exact ⟨3,by omega,rfl,⟨_,HBX.out,HX.out⟩,HN.out⟩
   case measure=>simp[intOf]
  ·obtain ⟨r,f4,hr⟩:=hF
   have HR:=hide hr
   obtain ⟨ro,rc,rfl,x1,x2⟩:=hr
   clear x1 x2
   have HRUN:=hide (qSHV W H _ (dev3 n W H zs) n.phase _ HR.out HD.out.e4)
   obtain ⟨N,hN⟩:∃N,(dev3 n W H zs).length=N:=⟨_,rfl⟩
   rw[hN] at f4 HRUN
   clear hN
   have ck:wr.cell? ⟨sb,3,none⟩=some (.iface 246 (.agg #[.int .i64 n.phase])):=by rw[Lib.cell_of_heap hst1];rfl
   have hm:=meth3 n
   have hna:=enters_of Tryz.func267 (by kernel_rfl) rfl
   obtain ⟨q0,q1,q2,q3,q4,q5⟩:=jcb2 (b:=w.heap.size+1+1+1) f4
   go_wp2_with fail
   refine HRUN.out.mono ?_
   rintro e V1 ⟨r2,rfl,hr2,hb1,hfr2⟩
   have HR2:=hide hr2
   obtain ⟨so,sc,rfl,x1,x2⟩:=hr2
   clear x1 x2
   obtain ⟨N2,hN2⟩:∃N2,(dev4 n W H zs).length=N2:=⟨_,rfl⟩
   first|rw[show _=N2 from hN2] at HR2 hfr2 ⊢ | (change (fillL W H (dev3 n W H zs) n.phase).length=N2 at hN2;rw[hN2] at HR2 hfr2 ⊢)
   clear hN2
   have t9:=al1 V1 (Obj.cells (frQ W H (.slice so N2 sc)) 206)
   have hb2:=quJN hb1 (qUNz V1 (Obj.cells (frQ W H (.slice so N2 sc)) 206))
   have HR3:=hide (HR2.out.alloc (Obj.cells (frQ W H (.slice so N2 sc)) 206))
   have i1:(Tryz.prog.info? 206).map (·.size)=some (frQ W H (.slice so N2 sc)).size:=by kernel_rfl
   have i3:(frQ W H (.slice so N2 sc)).all (·.oneCell')=true:=by simp[Value.oneCell']
   have hl4r:=(Array.getElem?_eq_some_iff.1 f4).1
   have i4:(V1.alloc (Obj.cells (frQ W H (.slice so N2 sc)) 206)).heap[w.heap.size+1+1+1]?=some (.cells (frP W H (.slice ro N rc)) 206 (0,0)):=(hb2.block _ hl4r).trans f4
   have HX:=hide (HR3.out.setRow hfr2 (show w.heap.size+1+1+1<wr.heap.size from hl4r) (frQ W H (.slice so N2 sc)))
   have HN:=hide (HNX.out _ hb2 (frQ W H (.slice so N2 sc)))
   have HBX:=hide (setRow_heap _ _ _ (frQ W H (.slice so N2 sc)) _ _ i4)
   have hwr:=HBr.out.size
   have HFR:=hide (hfr2.mono (show w.heap.size+4≤wr.heap.size by omega))
   clear q0 q1 q2 q3 q4 q5 ck hm hna
   go_wp2_with (first|refine wpList_load_row rfl 206 _ rfl _ rfl _ _ _ _ t9 Tryz.underlying206 rfl (by kernel_rfl) ?_|refine wpList_store_row rfl 206 _ _ rfl (w.heap.size+1+1+1) (frQ W H (.slice so N2 sc)) rfl rfl _ _ i4 i1 rfl i3 ?_)
   go_roundw
   case rel=>exact ⟨4,by omega,rfl,⟨_,HBX.out,HX.out⟩,HN.out⟩
   case measure=>simp[intOf]
  ·obtain ⟨r,f4,hr⟩:=hF
   have HR:=hide hr
   obtain ⟨ro,rc,rfl,x1,x2⟩:=hr
   clear x1 x2
   have HRUN:=hide (jpcW W H _ (dev4 n W H zs) n.matrix _ HR.out HD.out.e5)
   obtain ⟨N,hN⟩:∃N,(dev4 n W H zs).length=N:=⟨_,rfl⟩
   rw[hN] at f4 HRUN
   clear hN
   have ck:wr.cell? ⟨sb,4,none⟩=some (.iface 248 (.agg #[.int .i64 (n.matrix 0),.int .i64 (n.matrix 1),.int .i64 (n.matrix 2),.int .i64 (n.matrix 3),.int .i64 (n.matrix 4),.int .i64 (n.matrix 5),.int .i64 (n.matrix 6),.int .i64 (n.matrix 7),.int .i64 (n.matrix 8)])):=by rw[Lib.cell_of_heap hst1];rfl
   have hm:=meth4 n
   have hna:=enters_of Tryz.func268 (by kernel_rfl) rfl
   obtain ⟨q0,q1,q2,q3,q4,q5⟩:=jcb2 (b:=w.heap.size+1+1+1) f4
   go_wp2_with fail
   refine HRUN.out.mono ?_
   rintro e V1 ⟨r2,rfl,hr2,hb1,hfr2⟩
   have HR2:=hide hr2
   obtain ⟨so,sc,rfl,x1,x2⟩:=hr2
   clear x1 x2
   obtain ⟨N2,hN2⟩:∃N2,(dev5 n W H zs).length=N2:=⟨_,rfl⟩
   first|rw[show _=N2 from hN2] at HR2 hfr2 ⊢ | (change ((dev4 n W H zs).map (mixP n.matrix)).length=N2 at hN2;rw[hN2] at HR2 hfr2 ⊢)
   clear hN2
   have t9:=al1 V1 (Obj.cells (frQ W H (.slice so N2 sc)) 206)
   have hb2:=quJN hb1 (qUNz V1 (Obj.cells (frQ W H (.slice so N2 sc)) 206))
   have HR3:=hide (HR2.out.alloc (Obj.cells (frQ W H (.slice so N2 sc)) 206))
   have i1:(Tryz.prog.info? 206).map (·.size)=some (frQ W H (.slice so N2 sc)).size:=by kernel_rfl
   have i3:(frQ W H (.slice so N2 sc)).all (·.oneCell')=true:=by simp[Value.oneCell']
   have hl4r:=(Array.getElem?_eq_some_iff.1 f4).1
   have i4:(V1.alloc (Obj.cells (frQ W H (.slice so N2 sc)) 206)).heap[w.heap.size+1+1+1]?=some (.cells (frQ W H (.slice ro N rc)) 206 (0,0)):=(hb2.block _ hl4r).trans f4
   have HX:=hide (HR3.out.setRow hfr2 (show w.heap.size+1+1+1<wr.heap.size from hl4r) (frQ W H (.slice so N2 sc)))
   have HN:=hide (HNX.out _ hb2 (frQ W H (.slice so N2 sc)))
   have HBX:=hide (setRow_heap _ _ _ (frQ W H (.slice so N2 sc)) _ _ i4)
   have hwr:=HBr.out.size
   have HFR:=hide (hfr2.mono (show w.heap.size+4≤wr.heap.size by omega))
   clear q0 q1 q2 q3 q4 q5 ck hm hna
   go_wp2_with (first|refine wpList_load_row rfl 206 _ rfl _ rfl _ _ _ _ t9 Tryz.underlying206 rfl (by kernel_rfl) ?_|refine wpList_store_row rfl 206 _ _ rfl (w.heap.size+1+1+1) (frQ W H (.slice so N2 sc)) rfl rfl _ _ i4 i1 rfl i3 ?_)
   go_roundw
   case rel=>exact ⟨5,by omega,rfl,⟨_,HBX.out,HX.out⟩,HN.out⟩
   case measure=>simp[intOf]
  ·obtain ⟨r,f4,hr⟩:=hF
   have HR:=hide hr
   obtain ⟨ro,rc,rfl,x1,x2⟩:=hr
   clear x1 x2
   have HRUN:=hide (XKl8 W H _ (dev5 n W H zs) _ n.curve _ HR.out HCVr.out HD.out.e6)
   obtain ⟨N,hN⟩:∃N,(dev5 n W H zs).length=N:=⟨_,rfl⟩
   rw[hN] at f4 HRUN
   clear hN
   have ck:wr.cell? ⟨sb,5,none⟩=some (.iface 250 (.agg #[.slice ko n.curve.length kc])):=by rw[Lib.cell_of_heap hst1];rfl
   have hm:=meth5 ko n.curve.length kc
   have hna:=enters_of Tryz.func274 (by kernel_rfl) rfl
   obtain ⟨q0,q1,q2,q3,q4,q5⟩:=jcb2 (b:=w.heap.size+1+1+1) f4
   go_wp2_with fail
   refine HRUN.out.mono ?_
   rintro e V1 ⟨r2,rfl,hr2,hb1,hfr2⟩
   have HR2:=hide hr2
   obtain ⟨so,sc,rfl,x1,x2⟩:=hr2
   clear x1 x2
   obtain ⟨N2,hN2⟩:∃N2,(dev6 n W H zs).length=N2:=⟨_,rfl⟩
   first|rw[show _=N2 from hN2] at HR2 hfr2 ⊢ | (change ((dev5 n W H zs).map (bendP n.curve)).length=N2 at hN2;rw[hN2] at HR2 hfr2 ⊢)
   clear hN2
   have t9:=al1 V1 (Obj.cells (frQ W H (.slice so N2 sc)) 206)
   have hb2:=quJN hb1 (qUNz V1 (Obj.cells (frQ W H (.slice so N2 sc)) 206))
   have HR3:=hide (HR2.out.alloc (Obj.cells (frQ W H (.slice so N2 sc)) 206))
   have i1:(Tryz.prog.info? 206).map (·.size)=some (frQ W H (.slice so N2 sc)).size:=by kernel_rfl
   have i3:(frQ W H (.slice so N2 sc)).all (·.oneCell')=true:=by simp[Value.oneCell']
   have hl4r:=(Array.getElem?_eq_some_iff.1 f4).1
   have i4:(V1.alloc (Obj.cells (frQ W H (.slice so N2 sc)) 206)).heap[w.heap.size+1+1+1]?=some (.cells (frQ W H (.slice ro N rc)) 206 (0,0)):=(hb2.block _ hl4r).trans f4
   have HX:=hide (HR3.out.setRow hfr2 (show w.heap.size+1+1+1<wr.heap.size from hl4r) (frQ W H (.slice so N2 sc)))
   have HN:=hide (HNX.out _ hb2 (frQ W H (.slice so N2 sc)))
   have HBX:=hide (setRow_heap _ _ _ (frQ W H (.slice so N2 sc)) _ _ i4)
   have hwr:=HBr.out.size
   have HFR:=hide (hfr2.mono (show w.heap.size+4≤wr.heap.size by omega))
   clear q0 q1 q2 q3 q4 q5 ck hm hna
   go_wp2_with (first|refine wpList_load_row rfl 206 _ rfl _ rfl _ _ _ _ t9 Tryz.underlying206 rfl (by kernel_rfl) ?_|refine wpList_store_row rfl 206 _ _ rfl (w.heap.size+1+1+1) (frQ W H (.slice so N2 sc)) rfl rfl _ _ i4 i1 rfl i3 ?_)
   go_roundw
   case rel=>exact ⟨6,by omega,rfl,⟨_,HBX.out,HX.out⟩,HN.out⟩
   case measure=>simp[intOf]
  ·obtain ⟨r,f4,hr⟩:=hF
   have HR:=hide hr
   obtain ⟨ro,rc,rfl,x1,x2⟩:=hr
   clear x1 x2
   have HRUN:=hide (qOWc W H _ (dev6 n W H zs) n.amount _ HR.out HD.out.e7)
   obtain ⟨N,hN⟩:∃N,(dev6 n W H zs).length=N:=⟨_,rfl⟩
   rw[hN] at f4 HRUN
   clear hN
   have ck:wr.cell? ⟨sb,6,none⟩=some (.iface 252 (.agg #[.int .i64 n.amount])):=by rw[Lib.cell_of_heap hst1];rfl
   have hm:=meth6 n
   have hna:=enters_of Tryz.func277 (by kernel_rfl) rfl
   obtain ⟨q0,q1,q2,q3,q4,q5⟩:=jcb2 (b:=w.heap.size+1+1+1) f4
   go_wp2_with fail
   refine HRUN.out.mono ?_
   rintro e V1 ⟨r2,rfl,hr2,hb1,hfr2⟩
   have HR2:=hide hr2
   obtain ⟨so,sc,rfl,x1,x2⟩:=hr2
   clear x1 x2
   obtain ⟨N2,hN2⟩:∃N2,(dev7 n W H zs).length=N2:=⟨_,rfl⟩
   first|rw[show _=N2 from hN2] at HR2 hfr2 ⊢ | (change (jz1R W H (dev6 n W H zs) n.amount).length=N2 at hN2;rw[hN2] at HR2 hfr2 ⊢)
   clear hN2
   have t9:=al1 V1 (Obj.cells (frQ W H (.slice so N2 sc)) 206)
   have hb2:=quJN hb1 (qUNz V1 (Obj.cells (frQ W H (.slice so N2 sc)) 206))
   have HR3:=hide (HR2.out.alloc (Obj.cells (frQ W H (.slice so N2 sc)) 206))
   have i1:(Tryz.prog.info? 206).map (·.size)=some (frQ W H (.slice so N2 sc)).size:=by kernel_rfl
   have i3:(frQ W H (.slice so N2 sc)).all (·.oneCell')=true:=by simp[Value.oneCell']
   have hl4r:=(Array.getElem?_eq_some_iff.1 f4).1
   have i4:(V1.alloc (Obj.cells (frQ W H (.slice so N2 sc)) 206)).heap[w.heap.size+1+1+1]?=some (.cells (frQ W H (.slice ro N rc)) 206 (0,0)):=(hb2.block _ hl4r).trans f4
   have HX:=hide (HR3.out.setRow hfr2 (show w.heap.size+1+1+1<wr.heap.size from hl4r) (frQ W H (.slice so N2 sc)))
   have HN:=hide (HNX.out _ hb2 (frQ W H (.slice so N2 sc)))
   have HBX:=hide (setRow_heap _ _ _ (frQ W H (.slice so N2 sc)) _ _ i4)
   have hwr:=HBr.out.size
   have HFR:=hide (hfr2.mono (show w.heap.size+4≤wr.heap.size by omega))
   clear q0 q1 q2 q3 q4 q5 ck hm hna
   go_wp2_with (first|refine wpList_load_row rfl 206 _ rfl _ rfl _ _ _ _ t9 Tryz.underlying206 rfl (by kernel_rfl) ?_|refine wpList_store_row rfl 206 _ _ rfl (w.heap.size+1+1+1) (frQ W H (.slice so N2 sc)) rfl rfl _ _ i4 i1 rfl i3 ?_)
   go_roundw
   case rel=>exact ⟨7,by omega,rfl,⟨_,HBX.out,HX.out,HFR.out⟩,HN.out⟩
   case measure=>simp[intOf]
  ·obtain ⟨r,f4,hr,hfr⟩:=hF
   have HR:=hide hr
   obtain ⟨ro,rc,rfl,x1,x2⟩:=hr
   clear x1 x2
   obtain ⟨N,hN⟩:∃N,(dev7 n W H zs).length=N:=⟨_,rfl⟩
   rw[hN] at f4 HR hfr
   clear hN
   obtain ⟨q0,q1,q2,q3,q4,q5⟩:=jcb2 (b:=w.heap.size+1+1+1) f4
   obtain ⟨z0,z1,z2⟩:=z5EY (b:=w.heap.size+1+1) g3r
   have y0:=Lib.frozen_of_heap (b:=w.heap.size+1+1) g3r 0
   have y1:=Lib.frozen_of_heap (b:=w.heap.size+1+1) g3r 1
   have y2:=Lib.frozen_of_heap (b:=w.heap.size+1+1) g3r 2
   have HFI:=hide (zHqh HBr.out (show w.heap.size≤w.heap.size+1+1 by omega) (.int .i64 W) (.int .i64 H) (.slice ro N rc))
   have hne:(Value.slice ro N rc).ownBlock≠some (w.heap.size+1+1):=hfr.ne (by omega)
   have HX:=hide (HR.out.other (zv5i wr (w.heap.size+1+1) (.int .i64 W) (.int .i64 H) (.slice ro N rc)) (fun b hb=>jZhz _ _ _ _ _ b hb) hne)
   go_wp2
   exact bodyPost_ret (v:=.tuple #[.agg #[.int .i64 W,.int .i64 H,.slice ro N rc],.int .i64 0]) (by simp[results,Tryz.results117,go_sem,z0,z1,z2]) rfl ⟨_,rfl,HX.out,HFI.out,hfr.mono (by omega)⟩
end Go.Proofs.YtfjeonehdlphiaaGreatDoor

namespace Go.Proofs.YtfjeonehdlphiaaGreatDoor
set_option linter.unusedVariables false
open Go.RowKit
theorem jsZS {n:Plan} {W H:Int} {zs:List Int} {height:Int} (h:fitsE n W H zs height=0):planE n=0∧q0fM W H zs=true∧XepW W height n.spots=true:=by
 unfold fitsE at h
 split at h
 ·rename_i h1
  split at h
  ·rename_i h2
   split at h
   ·rename_i h3;exact ⟨h1,h2,h3⟩
   ·cases h
  ·cases h
 ·rename_i h1;exact absurd h h1
end Go.Proofs.YtfjeonehdlphiaaGreatDoor

namespace Go.Proofs.YtfjeonehdlphiaaGreatDoor
set_option linter.unusedVariables false
theorem qqRx {p:Int} (h:qdne p=true):qdne (zVsj p)=true:=by
 have h2:0≤p∧p≤3:=by simpa [qdne] using h
 unfold zVsj
 simp only[qdne,decide_eq_true_eq]
 split<;>omega
theorem qBqc {m:Nat→Int} {white:Int} (h:zN6Q m white=true):zN6Q (j9wH m) white=true:=by
 rw[zN6Q,Bool.and_eq_true] at h ⊢
 refine ⟨h.1,List.all_eq_true.2 fun x hx=>?_⟩
 obtain ⟨k,hk,rfl⟩:=List.mem_map.1 hx
 exact decide_eq_true (XL98 h.2 ((k+2) % 4) (Nat.mod_lt _ (by omega)))
theorem X9MN {W H height:Int} {ls:List Pt} {top rows:Nat} (h:XepW W height ls=true) (hH:(rows:Int)=H):XepW W H (qj7y ls top rows)=true:=by
 refine List.all_eq_true.2 fun p hp=>?_
 obtain ⟨s,hs,rfl⟩:=List.mem_map.1 hp
 obtain ⟨hm,hr⟩:=List.mem_filter.1 hs
 have h1:=List.all_eq_true.1 h s hm
 simp only[hasB,zLwc,decide_eq_true_eq] at h1 hr ⊢
 omega
theorem jGAS {n:Plan} {W H:Int} {zs:List Int} {height:Int} {TP HN:Nat} (h:planE n=0) (hp:q0fM W H zs=true) (hs:XepW W height n.spots=true) (hH:(HN:Int)=H):DevOk (XzXJ n TP HN) W H zs:=by
 obtain ⟨h1,h2,h3,h4,h5,h6,_,h8⟩:=qwVl h
 refine ⟨hp,?_,?_,h3,h4,h5,?_,X9MN hs hH,h8⟩
 ·show qdne (if TP % 2=1 then zVsj n.phase else n.phase)=true
  split
  ·exact qqRx h1
  ·exact h1
 ·show zN6Q (if TP % 2=1 then j9wH n.black else n.black) n.white=true
  split
  ·exact qBqc h2
  ·exact h2
 ·have:=zk7I n.spots TP HN
  show ((qj7y n.spots TP HN).length:Int)≤64
  omega
theorem jDuk {W H:Int} {ls:List Pt} (h:XepW W H ls=true) (hW:W≤64) (hH:H≤64) (j:Nat) (hj:j<ls.length):ptWf (ptAt ls j):=by
 have h1:=zKbH h j hj
 simp only[hasB,decide_eq_true_eq] at h1
 exact ⟨WalkArith.wf_i64 (by omega),WalkArith.wf_i64 (by omega)⟩
def zfAc (H top height fm tm:Int):Bool:=decide ((1≤height∧height≤64)∧(0≤top∧top≤height)∧(0≤fm∧fm≤height)∧(0≤tm∧tm≤height)∧fm<tm∧top+H≤height∧top≤max 0 (fm-4)∧min height (tm+4)≤top+H)
def partE (n:Plan) (W H:Int) (zs:List Int) (top height fm tm:Int):Int:=if fitsE n W H zs height=0 then (if zfAc H top height fm tm=true then 0 else 3) else fitsE n W H zs height
def partL (n:Plan) (W H:Int) (zs:List Int) (top fm tm:Int):List Px:=rowsL (dev7 (XzXJ n top.toNat H.toNat) W H zs) W.toNat (fm-top).toNat (tm-fm).toNat
theorem qLIM {P:Program} {o:Oper} {a:Act} {w:World} (ty:TypeId) (x:Operand) (ho:o.op=.load ty x) (g:Nat) (hx:a.eval x=.pointer (some ⟨g,0,none⟩)) (t:TypeId) (cs:Array Value) (fr:Nat×Nat) (d:TypeDesc) (hg:w.heap[g]?=some (.cells cs t fr))
  (hu:P.underlying ty=some d) (hd:(match d with | .struct _ | .array _ _=>true|_=>false)=true) (hi:(P.info? ty).map (·.size)=some cs.size):(execOp a.eval o).run P w=.ok (.value (.agg cs)) w:=by
 unfold execOp
 simp only[ho,hx,Instr.loadAt,Instr.sureAddr,Sem.run_bind,Sem.run_pure,Result.andThen_ok,run_loadVar_row w g t ty cs fr d hg hu hd hi]
end Go.Proofs.YtfjeonehdlphiaaGreatDoor

namespace Go.Proofs.YtfjeonehdlphiaaGreatDoor
set_option linter.unusedVariables false
open Go.RowKit
theorem j9kk (ps:List Px) (W top many j:Nat) (hj:j<many*W) (hl:(top+many)*W≤ps.length):pxAt (rowsL ps W top many) j=pxAt ps (top*W+j):=by
 unfold rowsL pxAt
 rw[List.getD_eq_getElem?_getD,List.getD_eq_getElem?_getD,List.getElem?_take_of_lt hj,List.getElem?_drop]
theorem zdIr {α:Type} (ps:List α) (W top many:Nat) (hl:(top+many)*W≤ps.length):(rowsL ps W top many).length=many*W:=by
 unfold rowsL
 rw[List.length_take,List.length_drop]
 rw[Nat.add_mul] at hl
 omega
theorem jiRY {w:World} {b off:Nat} {ps:List Px} {W top many:Nat} (hc:∀j (h:j<ps.length),w.cell? ⟨b,off+j*3,none⟩=some (.int .i64 ps[j].1)∧w.cell? ⟨b,off+j*3+1,none⟩=some (.int .i64 ps[j].2.1)∧w.cell? ⟨b,off+j*3+2,none⟩=some (.int .i64 ps[j].2.2)) (hl:(top+many)*W≤ps.length) :
  ∀j,j<many*W→w.cell? ⟨b,off+top*W*3+j*3,none⟩=some (.int .i64 (pxAt (rowsL ps W top many) j).1)∧w.cell? ⟨b,off+top*W*3+j*3+1,none⟩=some (.int .i64 (pxAt (rowsL ps W top many) j).2.1)∧w.cell? ⟨b,off+top*W*3+j*3+2,none⟩=some (.int .i64 (pxAt (rowsL ps W top many) j).2.2):=by
 intro j hj
 rw[j9kk ps W top many j hj hl]
 have hlt:top*W+j<ps.length:=by rw[Nat.add_mul] at hl;omega
 have h:=hc (top*W+j) hlt
 rw[jD3W ps _ hlt] at h
 rw[show off+top*W*3+j*3=off+(top*W+j)*3 by omega]
 exact h
theorem XEYn (w:World) (a b c:Int):jCvT (w.alloc (.cells #[.int .i64 a,.int .i64 b,.int .i64 c] 3)) (.slice (some ⟨w.heap.size,0,none⟩) 3 3) [a,b,c] :=
 jCvT.own (base:=w.heap.size) (World.ownsRow_lit w #[.int .i64 a,.int .i64 b,.int .i64 c] 3 (Nat.le_refl _) (by decide) (by simp)) (by simp)
set_option maxRecDepth 100000 in
set_option maxHeartbeats 6400000 in
theorem XedY (n:Plan) (sv cv:Value) (W H:Int) (v:Value) (zs:List Int) (top height fm tm:Int) (w:World) (hp:X1uD w n sv cv) (hv:jCvT w v zs) :
  Calls Tryz.prog 57 #[.agg (planA n sv cv),.agg #[.int .i64 W,.int .i64 H,v],.int .i64 top,.int .i64 height,.int .i64 fm,.int .i64 tm] w fun e w'=>∃r,e=.returned (.tuple #[.agg #[.int .i64 (okW (partE n W H zs top height fm tm) W),.int .i64 (okW (partE n W H zs top height fm tm) (tm-fm)),r],.int .i64 (partE n W H zs top height fm tm)])∧IsPix w' r (okL (partE n W H zs top height fm tm) (partL n W H zs top fm tm))∧Below w.heap.size w w'∧Fresh w.heap.size r:=by
 have HP:=hide hp
 have HV:=hide hv
 have HFI:=hide (fun (u:World) (hu:Below w.heap.size w u)=>jiqc n sv cv W H v zs height u (HP.out.below hu (Nat.le_refl _)) (HV.out.below hu (Nat.le_refl _)))
 obtain ⟨⟨lo,lc,rfl,hll,_⟩,⟨ko,kc,rfl,hkl,_⟩⟩:=hp
 obtain ⟨ao,ca,rfl,_,_⟩:=hv
 obtain ⟨a1,a2,a3⟩:=al3 w (Obj.cells (planA n (.slice lo n.spots.length lc) (.slice ko n.curve.length kc)) 51) (Obj.cells #[.int .i64 W,.int .i64 H,.slice ao zs.length ca] 54) (Obj.cells #[.int .i64 0,.int .i64 0,.slice none 0 0] 24)
 have HB:=hide (be3 w (Obj.cells (planA n (.slice lo n.spots.length lc) (.slice ko n.curve.length kc)) 51) (Obj.cells #[.int .i64 W,.int .i64 H,.slice ao zs.length ca] 54) (Obj.cells #[.int .i64 0,.int .i64 0,.slice none 0 0] 24))
 have HPE:=hide (show partE n W H zs top height fm tm=if fitsE n W H zs height=0 then (if zfAc H top height fm tm=true then 0 else 3) else fitsE n W H zs height from rfl)
 obtain ⟨E,hE⟩:∃E,partE n W H zs top height fm tm=E:=⟨_,rfl⟩
 rw[hE] at HPE ⊢
 clear hE
 obtain ⟨F,hF0⟩:∃F,fitsE n W H zs height=F:=⟨_,rfl⟩
 have HF0:=hide hF0
 rw[hF0] at HFI HPE
 clear hF0
 obtain ⟨p0,p1,p2⟩:=z5EY a2
 go_enter Tryz.func57,Tryz.ntmps57
 go_wp2_with (refine wpList_load_row rfl 51 _ rfl _ rfl _ _ _ _ a1 Tryz.underlying51 rfl (by kernel_rfl) ?_)
 clear p0 p1 p2
 have hl1:=(Array.getElem?_eq_some_iff.1 a1).1
 have hl2:=(Array.getElem?_eq_some_iff.1 a2).1
 have hl3:=(Array.getElem?_eq_some_iff.1 a3).1
 generalize ((w.alloc (Obj.cells (planA n (.slice lo n.spots.length lc) (.slice ko n.curve.length kc)) 51)).alloc (Obj.cells #[.int .i64 W,.int .i64 H,.slice ao zs.length ca] 54)).alloc (Obj.cells #[.int .i64 0,.int .i64 0,.slice none 0 0] 24)=U at *
 refine (HFI.out _ HB.out).mono ?_
 rintro e w1 ⟨rfl,hb1⟩
 have HB1:=hide (HB.out.trans (hb1.mono HB.out.size))
 have HERR:=hide (show ∀(V:World),Below U.heap.size U V→V.cell? ⟨w.heap.size+1+1,0,none⟩=some (.int .i64 0)∧V.cell? ⟨w.heap.size+1+1,1,none⟩=some (.int .i64 0)∧V.cell? ⟨w.heap.size+1+1,2,none⟩=some (.slice none 0 0)∧V.frozen? ⟨w.heap.size+1+1,0,none⟩=false∧V.frozen? ⟨w.heap.size+1+1,1,none⟩=false∧V.frozen? ⟨w.heap.size+1+1,2,none⟩=false∧Below w.heap.size w (((V.setCell ⟨w.heap.size+1+1,0,none⟩ (.int .i64 0)).setCell ⟨w.heap.size+1+1,1,none⟩ (.int .i64 0)).setCell ⟨w.heap.size+1+1,2,none⟩ (.slice none 0 0)) from fun V hV=>by
  have g3:=(hV.block _ hl3).trans a3
  obtain ⟨z0,z1,z2⟩:=z5EY (b:=w.heap.size+1+1) g3
  exact ⟨z0,z1,z2,Lib.frozen_of_heap (b:=w.heap.size+1+1) g3 0,Lib.frozen_of_heap (b:=w.heap.size+1+1) g3 1,Lib.frozen_of_heap (b:=w.heap.size+1+1) g3 2,zHqh (HB.out.trans (hV.mono HB.out.size)) (show w.heap.size≤w.heap.size+1+1 by omega) _ _ _⟩)
 by_cases hF:F=0
 ·have HF1:=hide (HF0.out.trans hF)
  subst hF
  rw[if_pos rfl] at HPE
  obtain ⟨hpl0,hpok,hspt⟩:=jsZS HF1.out
  obtain ⟨hW,hH,hlen0,_⟩:=qwcI hpok
  have hsm:=zAFj hW hH
  obtain ⟨p0,p1,p2⟩:=z5EY ((hb1.block _ hl2).trans a2)
  have h3of:¬(zfAc H top height fm tm=true)→E=3:=fun h=>by rw[HPE.out,if_neg h]
  have H3:=hide h3of
  clear h3of
  by_cases hs1:1≤height∧height≤64
  ·have hsd:jbTy height=true:=by simpa [jbTy] using hs1
   by_cases hs2:(0≤top∧top≤height)∧(0≤fm∧fm≤height)∧(0≤tm∧tm≤height)
   ·have hin:allIn 0 height [top,fm,tm]=true:=by simpa [allIn] using hs2
    by_cases hs3:fm<tm
    ·have hd3:decide (tm≤fm)=false:=by simp;omega
     by_cases hs4:top+H≤height
     ·have hd4:decide (height<top+H)=false:=by simp;omega
      have hw4:IntKind.i64.wrap (top+H)=top+H:=IntWalk.i64_in _ (by omega)
      obtain ⟨TN,hTN⟩:=Int.eq_ofNat_of_zero_le hs2.1.1
      obtain ⟨FN,hFN⟩:=Int.eq_ofNat_of_zero_le hs2.2.1.1
      obtain ⟨TO,hTO⟩:=Int.eq_ofNat_of_zero_le hs2.2.2.1
      obtain ⟨GN,hGN⟩:=Int.eq_ofNat_of_zero_le (show 0≤height by omega)
      have HTN:=hide hTN
      have HFN:=hide hFN
      have HTO:=hide hTO
      have HGN:=hide hGN
      have HNE:=hide (fun u=>j23B FN TO GN (by omega) (by omega) (by omega) u)
      rw[←hFN,←hTO,←hGN] at HNE
      have hnA:((needA FN:Nat):Int)=max 0 (fm-4):=by unfold needA;omega
      have hnB:((needB TO GN:Nat):Int)=min height (tm+4):=by unfold needB;omega
      obtain ⟨NA,hNA⟩:∃NA,needA FN=NA:=⟨_,rfl⟩
      obtain ⟨NB,hNB⟩:∃NB,needB TO GN=NB:=⟨_,rfl⟩
      rw[hNA] at HNE hnA
      rw[hNB] at HNE hnB
      have HnA:=hide hnA
      have HnB:=hide hnB
      clear hNA hNB hTN hFN hTO hGN hnA hnB
      go_wp2_with fail
      refine (XlDJ height _).mono ?_
      rintro e w2 ⟨rfl,hb2⟩
      rw[hsd]
      have hb3:=quJN hb1 hb2
      obtain ⟨x0,x1,x2⟩:=z5EY (((quJN hb3 (qUNz w2 (Obj.cells #[.int .i64 top,.int .i64 fm,.int .i64 tm] 3))).block _ hl2).trans a2)
      have hbV:=quJN hb3 (qUNz w2 (Obj.cells #[.int .i64 top,.int .i64 fm,.int .i64 tm] 3))
      have hI3:=XEYn w2 top fm tm
      clear p0 p1 p2
      go_wp2_with fail
      refine (qFis 0 height _ [top,fm,tm] _ hI3).mono ?_
      rintro e w3 ⟨rfl,rfl⟩
      rw[hin]
      generalize w2.alloc (Obj.cells #[.int .i64 top,.int .i64 fm,.int .i64 tm] 3)=w3 at *
      go_wp2_with fail
      refine (HNE.out _).mono ?_
      rintro e w4 ⟨rfl,rfl⟩
      by_cases hs5:top≤(NA:Int)
      ·have hd5:decide ((NA:Int)<top)=false:=by simp;omega
       by_cases hs6:(NB:Int)≤top+H
       ·have hd6:decide (top+H<(NB:Int))=false:=by simp;omega
        have hok:zfAc H top height fm tm=true:=decide_eq_true ⟨hs1,hs2.1,hs2.2.1,hs2.2.2,hs3,hs4,by rw[←HnA.out];exact hs5,by rw[←HnB.out];exact hs6⟩
        have he:E=0:=by rw[HPE.out,if_pos hok]
        subst he
        obtain ⟨HN,hHN⟩:=Int.eq_ofNat_of_zero_le (show 0≤H by omega)
        obtain ⟨WN,hWN⟩:=Int.eq_ofNat_of_zero_le (show 0≤W by omega)
        have HHN:=hide hHN
        have HWN:=hide hWN
        have HLEN:=hide (show zs.length=HN*WN by rw[Nat.mul_comm];rw[hWN,hHN] at hlen0;exact_mod_cast hlen0)
        have HDK:=hide (jGAS (TP:=TN) (HN:=HN) hpl0 hpok hspt hHN.symm)
        obtain ⟨hph,_,_,_,_,hmany,hs64,_⟩:=qwVl hpl0
        have hph2:0≤n.phase∧n.phase≤3:=by simpa [qdne] using hph
        have HMV:=hide (fun (u:World) (hu:Below w.heap.size w u)=>jb8q n _ _ TN HN (by have:=HTN.out;omega) (by omega) hph2 (by omega) hs64 u (HP.out.below hu (Nat.le_refl _)))
        rw[←HTN.out,←hHN] at HMV
        have HDV:=hide (fun (rv:Value) (u:World) (hu:Below w.heap.size w u) (hpl:X1uD u (XzXJ n TN HN) rv (.slice ko n.curve.length kc))=>j0Kd (XzXJ n TN HN) rv _ W H _ zs u hpl (jDuk HDK.out.spots hW.2 hH.2) (HV.out.below hu (Nat.le_refl _)) HDK.out)
        have HPT:=hide (show partL n W H zs top fm tm=rowsL (dev7 (XzXJ n TN HN) W H zs) WN (FN-TN) (TO-FN) by
         unfold partL
         rw[HTN.out,HFN.out,HTO.out,hHN,hWN]
         simp only[Int.toNat_natCast]
         rw[show ((FN:Int)-(TN:Int)).toNat=FN-TN by omega,show ((TO:Int)-(FN:Int)).toNat=TO-FN by omega])
        have HDL:=hide (zrLo (XzXJ n TN HN) W H zs)
        obtain ⟨D,hD⟩:∃D,dev7 (XzXJ n TN HN) W H zs=D:=⟨_,rfl⟩
        rw[hD] at HDV HPT HDL
        clear hD hHN hWN hph hph2 hmany hs64 hpl0 hpok hspt hlen0
        have HS:=hide (show ∀v,Below U.heap.size U v→v.cell? ⟨w.heap.size+1,0,none⟩=some (.int .i64 W)∧v.cell? ⟨w.heap.size+1,1,none⟩=some (.int .i64 H)∧v.cell? ⟨w.heap.size+1,2,none⟩=some (.slice ao zs.length ca)∧v.heap[w.heap.size]?=some (.cells (planA n (.slice lo n.spots.length lc) (.slice ko n.curve.length kc)) 51 (0,0)) from fun v h=>by
         obtain ⟨y0,y1,y2⟩:=z5EY ((h.block _ hl2).trans a2)
         exact ⟨y0,y1,y2,(h.block _ hl1).trans a1⟩)
        have hsU3:=hbV.size
        go_upto_region 9 with fail
        clear x0 x1 x2
        go_cut [17,18] from 73 (fun q e v=>∃QX ro rc,q=.pointer (some ⟨QX,0,none⟩)∧e=.int .i64 0∧v.heap[QX]?=some (.cells #[.int .i64 W,.int .i64 H,.slice ro D.length rc] 24 (0,0))∧IsPix v (.slice ro D.length rc) D∧D.length≤rc∧U.heap.size≤QX∧Below U.heap.size U v)
        case first =>
         have hWd:Below U.heap.size U w3.drew:=hbV.drew
         have hSd:=HS.out _ hWd
         have hmx:Tryz.prog.follows .mixedOrders=true:=by kernel_rfl
         refine qYgd (S:=fun v:World=>v.cell? ⟨w.heap.size+1,0,none⟩=some (.int .i64 W)∧v.cell? ⟨w.heap.size+1,1,none⟩=some (.int .i64 H)∧v.cell? ⟨w.heap.size+1,2,none⟩=some (.slice ao zs.length ca)∧v.heap[w.heap.size]?=some (.cells (planA n (.slice lo n.spots.length lc) (.slice ko n.curve.length kc)) 51 (0,0))) (f:=12) hmx ?_
         show jZdv _ _ _ _ _ _ 13 _ _ w3.drew
         refine zB2j (i:=0) (oi:=_) (v:=.agg (planA n (.slice lo n.spots.length lc) (.slice ko n.curve.length kc))) (some 74) rfl rfl (by kernel_rfl) (by kernel_rfl) (by kernel_rfl) (by kernel_rfl) (by kernel_rfl) (fun _ _ _ h=>h) (Or.inl ⟨by rfl,?yy1⟩) hSd ?rr1
         case yy1=>(intro wq hSq;exact qLIM 51 _ rfl _ rfl _ _ _ _ hSq.2.2.2 Tryz.underlying51 rfl (by kernel_rfl))
         simp only[Act.put,List.setIfInBounds_toArray,List.set_cons_succ,List.set_cons_zero]
         refine zB2j (i:=1) (oi:=_) (v:=?vv2) (some 75) rfl rfl (by kernel_rfl) (by kernel_rfl) (by kernel_rfl) (by kernel_rfl) (by kernel_rfl) (fun _ _ _ h=>h) (Or.inl ⟨by rfl,?yy2⟩) hSd ?rr2
         case yy2=>(intro wq hSq;obtain ⟨_,_,_,_⟩:=hSq;go_simp<;>with_reducible rfl)
         simp only[Act.put,List.setIfInBounds_toArray,List.set_cons_succ,List.set_cons_zero]
         refine zB2j (i:=2) (oi:=_) (v:=?vv3) (some 76) rfl rfl (by kernel_rfl) (by kernel_rfl) (by kernel_rfl) (by kernel_rfl) (by kernel_rfl) (fun _ _ _ h=>h) (Or.inl ⟨by rfl,?yy3⟩) hSd ?rr3
         case yy3=>(intro wq hSq;obtain ⟨_,_,_,_⟩:=hSq;go_simp<;>with_reducible rfl)
         simp only[Act.put,List.setIfInBounds_toArray,List.set_cons_succ,List.set_cons_zero]
         refine zB2j (i:=5) (oi:=_) (v:=?vv4) (some 79) rfl rfl (by kernel_rfl) (by kernel_rfl) (by kernel_rfl) (by kernel_rfl) (by kernel_rfl) (fun _ _ _ h=>h) (Or.inl ⟨by rfl,?yy4⟩) hSd ?rr4
         case yy4=>(intro wq hSq;obtain ⟨_,_,_,_⟩:=hSq;go_simp<;>with_reducible rfl)
         simp only[Act.put,List.setIfInBounds_toArray,List.set_cons_succ,List.set_cons_zero]
         refine zB2j (i:=3) (oi:=_) (v:=?vv5) (some 77) rfl rfl (by kernel_rfl) (by kernel_rfl) (by kernel_rfl) (by kernel_rfl) (by kernel_rfl) (fun _ _ _ h=>h) (Or.inl ⟨by rfl,?yy5⟩) hSd ?rr5
         case yy5=>(intro wq hSq;obtain ⟨_,_,_,_⟩:=hSq;go_simp<;>with_reducible rfl)
         simp only[Act.put,List.setIfInBounds_toArray,List.set_cons_succ,List.set_cons_zero]
         refine jwFJ (i:=4) (j:=10) (oi:=_) (oj:=_) (by kernel_rfl) rfl rfl (fun K' hK=>?brA) (fun K' hK=>?brB)
         case brA =>
          rw[if_pos (by rfl)]
          go_simp
          refine (HMV.out _ (HB.out.trans (hWd.mono HB.out.size))).mono ?_
          rintro e V1 ⟨rv,rfl,hpl,hbm⟩
          have hB1:Below U.heap.size U V1:=hWd.trans (hbm.mono hWd.size)
          have hSd:=HS.out _ hB1
          refine hK.out _ _ hSd ?_
          clear hK
          try simp only[Act.put]
          refine jwFJ (i:=6) (j:=10) (oi:=_) (oj:=_) (by kernel_rfl) rfl rfl (fun K' hK=>?brC) (fun K' hK=>?brD)
          case brC =>
           rw[if_pos (by rfl)]
           go_simp
           refine (HDV.out rv _ (HB.out.trans (hB1.mono HB.out.size)) hpl).mono ?_
           rintro e V2 ⟨r,rfl,hr,hbd,hfr⟩
           have hB2:Below U.heap.size U V2:=hB1.trans (hbd.mono hB1.size)
           have hSd:=HS.out _ hB2
           refine hK.out _ _ hSd ?_
           clear hK
           try simp only[Act.put]
           have HR:=hide hr
           have hrm:=hfr.2
           obtain ⟨ro,rc,rfl,x1,x2⟩:=hr
           clear x1 x2
           refine zB2j (i:=7) (oi:=_) (v:=?vv6) (some 73) rfl rfl (by kernel_rfl) (by kernel_rfl) (by kernel_rfl) (by kernel_rfl) (by kernel_rfl) (fun _ _ _ h=>h) (Or.inl ⟨by rfl,?yy6⟩) hSd ?rr6
           case yy6=>(intro wq hSq;obtain ⟨_,_,_,_⟩:=hSq;go_simp<;>with_reducible rfl)
           simp only[Act.put,List.setIfInBounds_toArray,List.set_cons_succ,List.set_cons_zero]
           refine zB2j (i:=8) (oi:=_) (v:=?vv7) (some 81) rfl rfl (by kernel_rfl) (by kernel_rfl) (by kernel_rfl) (by kernel_rfl) (by kernel_rfl) (fun _ _ _ h=>h) (Or.inl ⟨by rfl,?yy7⟩) hSd ?rr7
           case yy7=>(intro wq hSq;obtain ⟨_,_,_,_⟩:=hSq;go_simp<;>with_reducible rfl)
           simp only[Act.put,List.setIfInBounds_toArray,List.set_cons_succ,List.set_cons_zero]
           refine zB2j (i:=9) (oi:=_) (v:=?vv8) (some 82) rfl rfl (by kernel_rfl) (by kernel_rfl) (by kernel_rfl) (by kernel_rfl) (by kernel_rfl) (fun _ _ _ h=>h) (Or.inl ⟨by rfl,?yy8⟩) hSd ?rr8
           case yy8=>(intro wq hSq;obtain ⟨_,_,_,_⟩:=hSq;go_simp<;>with_reducible rfl)
           simp only[Act.put,List.setIfInBounds_toArray,List.set_cons_succ,List.set_cons_zero]
           refine znWj (i:=10) (o:=_) (by kernel_rfl) rfl (fun K' hK=>?_)
           rw[if_pos (by rfl)]
           go_simp
           have hB3:Below U.heap.size U (V2.alloc (Obj.cells #[.int .i64 0,.int .i64 0,.slice none 0 0] 24)):=hB2.alloc hB2.size _
           have hSd:=HS.out _ hB3
           refine hK.out _ _ hSd ?_
           clear hK
           try simp only[Act.put]
           refine znWj (i:=11) (o:=_) (by kernel_rfl) rfl (fun K' hK=>?_)
           rw[if_pos (by rfl)]
           go_simp
           have hB4:Below U.heap.size U (V2.alloc (Obj.cells #[.int .i64 W,.int .i64 H,.slice ro D.length rc] 24)):=hB2.alloc hB2.size _
           have hSd:=HS.out _ hB4
           refine hK.out _ _ hSd ?_
           clear hK
           try simp only[Act.put]
           refine z9gO (o:=_) (by kernel_rfl) rfl (fun K' hK=>?_)
           rw[if_pos (by rfl)]
           go_simp
           refine hK.out _ _ ?_
           clear hK
           refine jFdp (by kernel_rfl) ?_ _
           try simp only[Act.put]
           clear hSd
           go_wp2
           go_meet
           case rel=>exact ⟨V2.heap.size,ro,rc,rfl,rfl,al1 V2 _,HR.out.alloc _,hrm,hB2.size,hB4⟩
          case brD =>
           rw[if_pos (by rfl)]
           go_simp
           have hBz:Below U.heap.size U (V1.alloc (Obj.cells #[.int .i64 0,.int .i64 0,.slice none 0 0] 24)):=hB1.alloc hB1.size _
           have hSd:=HS.out _ hBz
           refine hK.out _ _ hSd ?_
           clear hK
           try simp only[Act.put]
           have gz0:=al1 V1 (Obj.cells #[.int .i64 0,.int .i64 0,.slice none 0 0] 24)
           have hpl2:=hpl.below (qUNz V1 (Obj.cells #[.int .i64 0,.int .i64 0,.slice none 0 0] 24)) (Nat.le_refl _)
           have hlz:=(Array.getElem?_eq_some_iff.1 gz0).1
           have hq:=hB1.size
           generalize V1.alloc (Obj.cells #[.int .i64 0,.int .i64 0,.slice none 0 0] 24)=Vz at *
           generalize V1.heap.size=QX at *
           refine znWj (i:=6) (o:=_) (by kernel_rfl) rfl (fun K' hK=>?_)
           rw[if_pos (by rfl)]
           go_simp
           refine (HDV.out rv _ (HB.out.trans (hBz.mono HB.out.size)) hpl2).mono ?_
           rintro e V2 ⟨r,rfl,hr,hbd,hfr⟩
           have hB2:Below U.heap.size U V2:=hBz.trans (hbd.mono hBz.size)
           have hSd:=HS.out _ hB2
           refine hK.out _ _ hSd ?_
           clear hK
           try simp only[Act.put]
           have HR:=hide hr
           have hrm:=hfr.2
           obtain ⟨ro,rc,rfl,x1,x2⟩:=hr
           clear x1 x2
           refine zB2j (i:=7) (oi:=_) (v:=?vv9) (some 73) rfl rfl (by kernel_rfl) (by kernel_rfl) (by kernel_rfl) (by kernel_rfl) (by kernel_rfl) (fun _ _ _ h=>h) (Or.inl ⟨by rfl,?yy9⟩) hSd ?rr9
           case yy9=>(intro wq hSq;obtain ⟨_,_,_,_⟩:=hSq;go_simp<;>with_reducible rfl)
           simp only[Act.put,List.setIfInBounds_toArray,List.set_cons_succ,List.set_cons_zero]
           refine zB2j (i:=8) (oi:=_) (v:=?vv10) (some 81) rfl rfl (by kernel_rfl) (by kernel_rfl) (by kernel_rfl) (by kernel_rfl) (by kernel_rfl) (fun _ _ _ h=>h) (Or.inl ⟨by rfl,?yy10⟩) hSd ?rr10
           case yy10=>(intro wq hSq;obtain ⟨_,_,_,_⟩:=hSq;go_simp<;>with_reducible rfl)
           simp only[Act.put,List.setIfInBounds_toArray,List.set_cons_succ,List.set_cons_zero]
           refine zB2j (i:=9) (oi:=_) (v:=?vv11) (some 82) rfl rfl (by kernel_rfl) (by kernel_rfl) (by kernel_rfl) (by kernel_rfl) (by kernel_rfl) (fun _ _ _ h=>h) (Or.inl ⟨by rfl,?yy11⟩) hSd ?rr11
           case yy11=>(intro wq hSq;obtain ⟨_,_,_,_⟩:=hSq;go_simp<;>with_reducible rfl)
           simp only[Act.put,List.setIfInBounds_toArray,List.set_cons_succ,List.set_cons_zero]
           have gz:=(hbd.block QX hlz).trans gz0
           obtain ⟨z0,z1,z2⟩:=z5EY gz
           have f0:=Lib.frozen_of_heap gz 0
           have f1:=Lib.frozen_of_heap gz 1
           have f2:=Lib.frozen_of_heap gz 2
           obtain ⟨vS,_,_,_⟩:=X0Wz gz (.int .i64 W) (.int .i64 H) (.slice ro D.length rc) w (Nat.le_trans HB.out.size hq) (HB.out.trans (hB2.mono HB.out.size))
           have hB4:=zHqh hB2 hq (.int .i64 W) (.int .i64 H) (.slice ro D.length rc)
           have HX:=hide (HR.out.set3 hfr hlz (.int .i64 W) (.int .i64 H) (.slice ro D.length rc))
           refine znWj (i:=11) (o:=_) (by kernel_rfl) rfl (fun K' hK=>?_)
           rw[if_pos (by rfl)]
           go_simp
           have hSd:=HS.out _ hB4
           refine hK.out _ _ hSd ?_
           clear hK
           try simp only[Act.put]
           clear z0 z1 z2 f0 f1 f2
           refine z9gO (o:=_) (by kernel_rfl) rfl (fun K' hK=>?_)
           rw[if_pos (by rfl)]
           go_simp
           refine hK.out _ _ ?_
           clear hK
           refine jFdp (by kernel_rfl) ?_ _
           try simp only[Act.put]
           clear hSd
           go_wp2
           go_meet
           case rel=>exact ⟨QX,ro,rc,rfl,rfl,vS,HX.out,hrm,hq,hB4⟩
         case brB =>
          rw[if_pos (by rfl)]
          go_simp
          have hBz:Below U.heap.size U (w3.alloc (Obj.cells #[.int .i64 0,.int .i64 0,.slice none 0 0] 24)).drew:=(hbV.alloc hbV.size _).drew
          have hSd:=HS.out _ hBz
          refine hK.out _ _ hSd ?_
          clear hK
          try simp only[Act.put]
          have gz0:(w3.alloc (Obj.cells #[.int .i64 0,.int .i64 0,.slice none 0 0] 24)).drew.heap[w3.heap.size]?=_:=al1 w3 (Obj.cells #[.int .i64 0,.int .i64 0,.slice none 0 0] 24)
          have hlz:=(Array.getElem?_eq_some_iff.1 gz0).1
          have hq:=hbV.size
          generalize (w3.alloc (Obj.cells #[.int .i64 0,.int .i64 0,.slice none 0 0] 24)).drew=Vz at *
          generalize w3.heap.size=QX at *
          refine znWj (i:=4) (o:=_) (by kernel_rfl) rfl (fun K' hK=>?_)
          rw[if_pos (by rfl)]
          go_simp
          refine (HMV.out _ (HB.out.trans (hBz.mono HB.out.size))).mono ?_
          rintro e V1 ⟨rv,rfl,hpl,hbm⟩
          have hB1:Below U.heap.size U V1:=hBz.trans (hbm.mono hBz.size)
          have hSd:=HS.out _ hB1
          refine hK.out _ _ hSd ?_
          clear hK
          try simp only[Act.put]
          replace gz0:=(hbm.block QX hlz).trans gz0
          replace hlz:=(Array.getElem?_eq_some_iff.1 gz0).1
          refine znWj (i:=6) (o:=_) (by kernel_rfl) rfl (fun K' hK=>?_)
          rw[if_pos (by rfl)]
          go_simp
          refine (HDV.out rv _ (HB.out.trans (hB1.mono HB.out.size)) hpl).mono ?_
          rintro e V2 ⟨r,rfl,hr,hbd,hfr⟩
          have hB2:Below U.heap.size U V2:=hB1.trans (hbd.mono hB1.size)
          have hSd:=HS.out _ hB2
          refine hK.out _ _ hSd ?_
          clear hK
          try simp only[Act.put]
          have HR:=hide hr
          have hrm:=hfr.2
          obtain ⟨ro,rc,rfl,x1,x2⟩:=hr
          clear x1 x2
          refine zB2j (i:=7) (oi:=_) (v:=?vv12) (some 73) rfl rfl (by kernel_rfl) (by kernel_rfl) (by kernel_rfl) (by kernel_rfl) (by kernel_rfl) (fun _ _ _ h=>h) (Or.inl ⟨by rfl,?yy12⟩) hSd ?rr12
          case yy12=>(intro wq hSq;obtain ⟨_,_,_,_⟩:=hSq;go_simp<;>with_reducible rfl)
          simp only[Act.put,List.setIfInBounds_toArray,List.set_cons_succ,List.set_cons_zero]
          refine zB2j (i:=8) (oi:=_) (v:=?vv13) (some 81) rfl rfl (by kernel_rfl) (by kernel_rfl) (by kernel_rfl) (by kernel_rfl) (by kernel_rfl) (fun _ _ _ h=>h) (Or.inl ⟨by rfl,?yy13⟩) hSd ?rr13
          case yy13=>(intro wq hSq;obtain ⟨_,_,_,_⟩:=hSq;go_simp<;>with_reducible rfl)
          simp only[Act.put,List.setIfInBounds_toArray,List.set_cons_succ,List.set_cons_zero]
          refine zB2j (i:=9) (oi:=_) (v:=?vv14) (some 82) rfl rfl (by kernel_rfl) (by kernel_rfl) (by kernel_rfl) (by kernel_rfl) (by kernel_rfl) (fun _ _ _ h=>h) (Or.inl ⟨by rfl,?yy14⟩) hSd ?rr14
          case yy14=>(intro wq hSq;obtain ⟨_,_,_,_⟩:=hSq;go_simp<;>with_reducible rfl)
          simp only[Act.put,List.setIfInBounds_toArray,List.set_cons_succ,List.set_cons_zero]
          have gz:=(hbd.block QX hlz).trans gz0
          obtain ⟨z0,z1,z2⟩:=z5EY gz
          have f0:=Lib.frozen_of_heap gz 0
          have f1:=Lib.frozen_of_heap gz 1
          have f2:=Lib.frozen_of_heap gz 2
          obtain ⟨vS,_,_,_⟩:=X0Wz gz (.int .i64 W) (.int .i64 H) (.slice ro D.length rc) w (Nat.le_trans HB.out.size hq) (HB.out.trans (hB2.mono HB.out.size))
          have hB4:=zHqh hB2 hq (.int .i64 W) (.int .i64 H) (.slice ro D.length rc)
          have HX:=hide (HR.out.set3 hfr hlz (.int .i64 W) (.int .i64 H) (.slice ro D.length rc))
          refine znWj (i:=11) (o:=_) (by kernel_rfl) rfl (fun K' hK=>?_)
          rw[if_pos (by rfl)]
          go_simp
          have hSd:=HS.out _ hB4
          refine hK.out _ _ hSd ?_
          clear hK
          try simp only[Act.put]
          clear z0 z1 z2 f0 f1 f2
          refine z9gO (o:=_) (by kernel_rfl) rfl (fun K' hK=>?_)
          rw[if_pos (by rfl)]
          go_simp
          refine hK.out _ _ ?_
          clear hK
          refine jFdp (by kernel_rfl) ?_ _
          try simp only[Act.put]
          clear hSd
          go_wp2
          go_meet
          case rel=>exact ⟨QX,ro,rc,rfl,rfl,vS,HX.out,hrm,hq,hB4⟩
        case rest =>
         obtain ⟨QX,ro,rc,rfl,rfl,vS,hpx,hroom,hQX,vB⟩:=hcut
         have hsVQ:=vB.size
         have hlQ:=(Array.getElem?_eq_some_iff.1 vS).1
         have HPX:=hide hpx
         have hD1:1≤D.length:=by
          rw[HDL.out,HLEN.out]
          exact Nat.mul_le_mul (show 1≤HN by have:=HHN.out;omega) (show 1≤WN by have:=HWN.out;omega)
         obtain ⟨ro2,rc2,hpe,_,hpor⟩:=hpx
         cases hpe
         rcases hpor with hpor|⟨pb,po,rfl,hpb,hpc⟩
         ·rw[hpor] at hD1;simp at hD1
         have HPC:=hide hpc
         clear hpc
         obtain ⟨q0,q1,q2⟩:=z5EY vS
         have hTF:TN≤FN:=by have:=HnA.out;have:=HTN.out;have:=HFN.out;omega
         have hFT:FN<TO:=by have:=HFN.out;have:=HTO.out;omega
         have hTH:TO≤TN+HN:=by have:=HnB.out;have:=HTN.out;have:=HTO.out;have:=HHN.out;have:=HGN.out;omega
         have hWN1:1≤WN:=by have:=HWN.out;omega
         have hWN2:WN≤64:=by have:=HWN.out;omega
         have hHN2:HN≤64:=by have:=HHN.out;omega
         have hDl:D.length=HN*WN:=by rw[HDL.out,HLEN.out]
         have hm1:(FN-TN+(TO-FN))*WN≤D.length:=by rw[hDl];exact Nat.mul_le_mul_right _ (by omega)
         have hm2:HN*WN≤64*64:=Nat.mul_le_mul hHN2 hWN2
         have hm3:1*WN≤(TO-FN)*WN:=Nat.mul_le_mul_right _ (by omega)
         have HSC:=hide (fun (V:World) (hV:Below wc.heap.size wc V)=>jiRY (w:=V) (b:=pb) (off:=po) (ps:=D) (W:=WN) (top:=FN-TN) (many:=TO-FN) (fun j hj=>by
          obtain ⟨e0,e1,e2⟩:=HPC.out j hj
          exact ⟨(hV.cell (p:=⟨pb,po+j*3,none⟩) hpb).trans e0,(hV.cell (p:=⟨pb,po+j*3+1,none⟩) hpb).trans e1,(hV.cell (p:=⟨pb,po+j*3+2,none⟩) hpb).trans e2⟩) hm1)
         have HRL:=hide (zdIr D WN (FN-TN) (TO-FN) hm1)
         have hmA:(fm-top)*W=((FN-TN)*WN:Nat):=by rw[HFN.out,HTN.out,HWN.out,Int.natCast_mul,Int.natCast_sub hTF]
         have hmB:(tm-top)*W=((TO-TN)*WN:Nat):=by rw[HTO.out,HTN.out,HWN.out,Int.natCast_mul,Int.natCast_sub (by omega)]
         have hmC:(TO-TN)*WN=(FN-TN)*WN+(TO-FN)*WN:=by rw[←Nat.add_mul];congr 1;omega
         obtain ⟨A,hA⟩:∃A,(FN-TN)*WN=A:=⟨_,rfl⟩
         obtain ⟨M,hM⟩:∃M,(TO-FN)*WN=M:=⟨_,rfl⟩
         rw[hmC] at hmB
         rw[Nat.add_mul] at hm1
         rw[hA] at hmA hmB hm1 HSC
         rw[hM] at hmB hm1 hm3 HSC HRL
         obtain ⟨N,hN⟩:∃N,D.length=N:=⟨_,rfl⟩
         rw[hN] at hm1 hD1 hroom HPX q2 vS
         rw[hDl] at hN
         have hN4:N≤4096:=by omega
         clear hmC hA hM hN hDl HPC
         have hwA:IntKind.i64.wrap (fm-top)=fm-top:=IntWalk.i64_in _ (by omega)
         have hwB:IntKind.i64.wrap (tm-top)=tm-top:=IntWalk.i64_in _ (by omega)
         have hwAm:IntKind.i64.wrap (A:Int)=(A:Int):=IntWalk.i64_in _ (by omega)
         have hwBm:IntKind.i64.wrap ((A+M:Nat):Int)=((A+M:Nat):Int):=IntWalk.i64_in _ (by omega)
         have hg1:(A:Int)≤((A+M:Nat):Int):=by omega
         have hg2:((A+M:Nat):Int)≤(rc:Int):=by omega
         have hg3:¬(rc=A):=by omega
         go_wp2_with fail
         rw[Nat.add_sub_cancel_left]
         have hwD:IntKind.i64.wrap (tm-fm)=tm-fm:=IntWalk.i64_in _ (by omega)
         have hWd2:Below U.heap.size U wc.drew:=vB.drew
         have HS2:=hide (show ∀v,Below wc.heap.size wc v→v.cell? ⟨QX,0,none⟩=some (.int .i64 W) from fun v h=>(z5EY ((h.block _ hlQ).trans vS)).1)
         have hWc:Below wc.heap.size wc wc.drew:=(Below.refl _ _).drew
         have hSd:=HS2.out _ hWc
         clear q0 q1 q2
         have hmx:Tryz.prog.follows .mixedOrders=true:=by kernel_rfl
         refine qYgd (S:=fun v:World=>v.cell? ⟨QX,0,none⟩=some (.int .i64 W)) (f:=9) hmx ?_
         show jZdv _ _ _ _ _ _ 10 _ _ wc.drew
         refine zB2j (i:=0) (oi:=_) (v:=?vv15) (some 102) rfl rfl (by kernel_rfl) (by kernel_rfl) (by kernel_rfl) (by kernel_rfl) (by kernel_rfl) (fun _ _ _ h=>h) (Or.inl ⟨by rfl,?yy15⟩) hSd ?rr15
         case yy15=>(intro wq hSq;obtain _:=hSq;go_simp<;>with_reducible rfl)
         simp only[Act.put,List.setIfInBounds_toArray,List.set_cons_succ,List.set_cons_zero]
         refine zB2j (i:=2) (oi:=_) (v:=?vv16) (some 104) rfl rfl (by kernel_rfl) (by kernel_rfl) (by kernel_rfl) (by kernel_rfl) (by kernel_rfl) (fun _ _ _ h=>h) (Or.inl ⟨by rfl,?yy16⟩) hSd ?rr16
         case yy16=>(intro wq hSq;obtain _:=hSq;go_simp<;>with_reducible rfl)
         simp only[Act.put,List.setIfInBounds_toArray,List.set_cons_succ,List.set_cons_zero]
         refine zB2j (i:=3) (oi:=_) (v:=?vv17) (some 105) rfl rfl (by kernel_rfl) (by kernel_rfl) (by kernel_rfl) (by kernel_rfl) (by kernel_rfl) (fun _ _ _ h=>h) (Or.inl ⟨by rfl,?yy17⟩) hSd ?rr17
         case yy17=>(intro wq hSq;obtain _:=hSq;go_simp<;>with_reducible rfl)
         simp only[Act.put,List.setIfInBounds_toArray,List.set_cons_succ,List.set_cons_zero]
         refine zB2j (i:=5) (oi:=_) (v:=?vv18) (some 107) rfl rfl (by kernel_rfl) (by kernel_rfl) (by kernel_rfl) (by kernel_rfl) (by kernel_rfl) (fun _ _ _ h=>h) (Or.inl ⟨by rfl,?yy18⟩) hSd ?rr18
         case yy18=>(intro wq hSq;obtain _:=hSq;go_simp<;>with_reducible rfl)
         simp only[Act.put,List.setIfInBounds_toArray,List.set_cons_succ,List.set_cons_zero]
         refine zB2j (i:=1) (oi:=_) (v:=?vv19) (some 103) rfl rfl (by kernel_rfl) (by kernel_rfl) (by kernel_rfl) (by kernel_rfl) (by kernel_rfl) (fun _ _ _ h=>h) (Or.inl ⟨by rfl,?yy19⟩) hSd ?rr19
         case yy19=>(intro wq hSq;obtain _:=hSq;go_simp<;>with_reducible rfl)
         simp only[Act.put,List.setIfInBounds_toArray,List.set_cons_succ,List.set_cons_zero]
         refine zB2j (i:=4) (oi:=_) (v:=?vv20) (some 106) rfl rfl (by kernel_rfl) (by kernel_rfl) (by kernel_rfl) (by kernel_rfl) (by kernel_rfl) (fun _ _ _ h=>h) (Or.inl ⟨by rfl,?yy20⟩) hSd ?rr20
         case yy20=>(intro wq hSq;obtain _:=hSq;go_simp<;>with_reducible rfl)
         simp only[Act.put,List.setIfInBounds_toArray,List.set_cons_succ,List.set_cons_zero]
         refine znWj (i:=6) (o:=_) (by kernel_rfl) rfl (fun K' hK=>?_)
         rw[if_pos (by rfl)]
         go_simp
         refine (j9sy pb (po+A*3) M (rc-A) (rowsL D WN (FN-TN) (TO-FN)) _ HRL.out (Nat.lt_of_lt_of_le hpb hWc.size) (by omega) (by omega) (fun j hj=>by have:=HSC.out _ hWc j hj;exact this)).mono ?_
         rintro e V1 ⟨r,rfl,hr,hbv,hfr⟩
         have hB1:Below wc.heap.size wc V1:=hWc.trans (hbv.mono hWc.size)
         have HR:=hide hr
         obtain ⟨co,cc,rfl,x1,x2⟩:=hr
         clear x1 x2
         rw[HRL.out] at HR hfr ⊢
         have hSd:=HS2.out _ hB1
         refine hK.out _ _ hSd ?_
         clear hK
         try simp only[Act.put]
         refine zB2j (i:=7) (oi:=_) (v:=?vv21) (some 109) rfl rfl (by kernel_rfl) (by kernel_rfl) (by kernel_rfl) (by kernel_rfl) (by kernel_rfl) (fun _ _ _ h=>h) (Or.inl ⟨by rfl,?yy21⟩) hSd ?rr21
         case yy21=>(intro wq hSq;obtain _:=hSq;go_simp<;>with_reducible rfl)
         simp only[Act.put,List.setIfInBounds_toArray,List.set_cons_succ,List.set_cons_zero]
         refine znWj (i:=8) (o:=_) (by kernel_rfl) rfl (fun K' hK=>?_)
         have hBU:=quJN vB hB1
         obtain ⟨z0,z1,z2,f0,f1,f2,_⟩:=HERR.out _ hBU
         rw[if_pos (by rfl)]
         go_simp
         clear f0 f1 f2
         have hSd:=(zd1R (w:=V1) (b:=w.heap.size+1+1) (.int .i64 W) (.int .i64 (tm-fm)) (.slice co M cc) (a:=⟨QX,0,none⟩) (show QX≠w.heap.size+1+1 by omega)).trans (HS2.out _ hB1)
         refine hK.out _ _ hSd ?_
         clear hK
         try simp only[Act.put]
         refine z9gO (o:=_) (by kernel_rfl) rfl (fun K' hK=>?_)
         rw[if_pos (by rfl)]
         go_simp
         refine hK.out _ _ ?_
         clear hK
         refine jFdp (by kernel_rfl) ?_ _
         try simp only[Act.put]
         have HX:=hide (HR.out.set3 hfr (show w.heap.size+1+1<wc.drew.heap.size from (by show w.heap.size+1+1<wc.heap.size;omega)) (.int .i64 W) (.int .i64 (tm-fm)) (.slice co M cc))
         have HF:=hide (zHqh (HB.out.trans (hBU.mono HB.out.size)) (show w.heap.size≤w.heap.size+1+1 by omega) (.int .i64 W) (.int .i64 (tm-fm)) (.slice co M cc))
         have hwf:=Nat.le_trans HB.out.size vB.size
         have HFR:=hide (hfr.mono (show w.heap.size≤wc.drew.heap.size from hwf))
         clear hSd
         go_wp2
         refine bodyPost_ret (v:=.tuple #[.agg #[.int .i64 W,.int .i64 (tm-fm),.slice co M cc],.int .i64 0]) (by simp[results,Tryz.results57,go_sem,z0,z1,z2]) rfl ⟨_,rfl,?_,HF.out,HFR.out⟩
         show IsPix _ _ (partL n W H zs top fm tm)
         rw[HPT.out]
         exact HX.out
       ·have hd6:decide (top+H<(NB:Int))=true:=by simp;omega
        have he:E=3:=H3.out (fun h=>hs6 (by rw[HnB.out];exact (of_decide_eq_true h).2.2.2.2.2.2.2))
        subst he
        obtain ⟨z0,z1,z2,f0,f1,f2,hBf⟩:=HERR.out _ hbV
        have HBF:=hide hBf
        clear hBf
        go_wp2
        refine bodyPost_ret (v:=.tuple #[.agg #[.int .i64 0,.int .i64 0,.slice none 0 0],.int .i64 3]) (by simp[results,Tryz.results57,go_sem,z0,z1,z2]) rfl ⟨.slice none 0 0,?_,?_,HBF.out,Fresh.nil _⟩
        ·first|rfl|rw[okW,if_neg HEN.out,okW,if_neg HEN.out]
        ·first|exact IsPix.nil _|(rw[okL,if_neg HEN.out];exact IsPix.nil _)
      ·have hd5:decide ((NA:Int)<top)=true:=by simp;omega
       have he:E=3:=H3.out (fun h=>hs5 (by rw[HnA.out];exact (of_decide_eq_true h).2.2.2.2.2.2.1))
       subst he
       obtain ⟨z0,z1,z2,f0,f1,f2,hBf⟩:=HERR.out _ hbV
       have HBF:=hide hBf
       clear hBf
       go_wp2
       refine bodyPost_ret (v:=.tuple #[.agg #[.int .i64 0,.int .i64 0,.slice none 0 0],.int .i64 3]) (by simp[results,Tryz.results57,go_sem,z0,z1,z2]) rfl ⟨.slice none 0 0,?_,?_,HBF.out,Fresh.nil _⟩
       ·first|rfl|rw[okW,if_neg HEN.out,okW,if_neg HEN.out]
       ·first|exact IsPix.nil _|(rw[okL,if_neg HEN.out];exact IsPix.nil _)
     ·have hd4:decide (height<top+H)=true:=by simp;omega
      have hw4:IntKind.i64.wrap (top+H)=top+H:=IntWalk.i64_in _ (by omega)
      have he:E=3:=H3.out (fun h=>hs4 (by have:=of_decide_eq_true h;omega))
      subst he
      go_wp2_with fail
      refine (XlDJ height _).mono ?_
      rintro e w2 ⟨rfl,hb2⟩
      rw[hsd]
      have hb3:=quJN hb1 hb2
      have hbV:=quJN hb3 (qUNz w2 (Obj.cells #[.int .i64 top,.int .i64 fm,.int .i64 tm] 3))
      have hI3:=XEYn w2 top fm tm
      obtain ⟨x0,x1,x2⟩:=z5EY ((hbV.block _ hl2).trans a2)
      clear p0 p1 p2
      go_wp2_with fail
      refine (qFis 0 height _ [top,fm,tm] _ hI3).mono ?_
      rintro e w3 ⟨rfl,rfl⟩
      rw[hin]
      generalize w2.alloc (Obj.cells #[.int .i64 top,.int .i64 fm,.int .i64 tm] 3)=w3 at *
      obtain ⟨z0,z1,z2,f0,f1,f2,hBf⟩:=HERR.out _ hbV
      have HBF:=hide hBf
      clear hBf
      go_wp2
      refine bodyPost_ret (v:=.tuple #[.agg #[.int .i64 0,.int .i64 0,.slice none 0 0],.int .i64 3]) (by simp[results,Tryz.results57,go_sem,z0,z1,z2]) rfl ⟨.slice none 0 0,?_,?_,HBF.out,Fresh.nil _⟩
      ·first|rfl|rw[okW,if_neg HEN.out,okW,if_neg HEN.out]
      ·first|exact IsPix.nil _|(rw[okL,if_neg HEN.out];exact IsPix.nil _)
    ·have hd3:decide (tm≤fm)=true:=by simp;omega
     have he:E=3:=H3.out (fun h=>hs3 (by have:=of_decide_eq_true h;omega))
     subst he
     go_wp2_with fail
     refine (XlDJ height _).mono ?_
     rintro e w2 ⟨rfl,hb2⟩
     rw[hsd]
     have hb3:=quJN hb1 hb2
     have hbV:=quJN hb3 (qUNz w2 (Obj.cells #[.int .i64 top,.int .i64 fm,.int .i64 tm] 3))
     have hI3:=XEYn w2 top fm tm
     obtain ⟨x0,x1,x2⟩:=z5EY ((hbV.block _ hl2).trans a2)
     clear p0 p1 p2
     go_wp2_with fail
     refine (qFis 0 height _ [top,fm,tm] _ hI3).mono ?_
     rintro e w3 ⟨rfl,rfl⟩
     rw[hin]
     generalize w2.alloc (Obj.cells #[.int .i64 top,.int .i64 fm,.int .i64 tm] 3)=w3 at *
     obtain ⟨z0,z1,z2,f0,f1,f2,hBf⟩:=HERR.out _ hbV
     have HBF:=hide hBf
     clear hBf
     go_wp2
     refine bodyPost_ret (v:=.tuple #[.agg #[.int .i64 0,.int .i64 0,.slice none 0 0],.int .i64 3]) (by simp[results,Tryz.results57,go_sem,z0,z1,z2]) rfl ⟨.slice none 0 0,?_,?_,HBF.out,Fresh.nil _⟩
     ·first|rfl|rw[okW,if_neg HEN.out,okW,if_neg HEN.out]
     ·first|exact IsPix.nil _|(rw[okL,if_neg HEN.out];exact IsPix.nil _)
   ·have hin:allIn 0 height [top,fm,tm]=false:=by simpa [allIn] using hs2
    have he:E=3:=H3.out (fun h=>hs2 (by have:=of_decide_eq_true h;omega))
    subst he
    go_wp2_with fail
    refine (XlDJ height _).mono ?_
    rintro e w2 ⟨rfl,hb2⟩
    rw[hsd]
    have hb3:=quJN hb1 hb2
    have hbV:=quJN hb3 (qUNz w2 (Obj.cells #[.int .i64 top,.int .i64 fm,.int .i64 tm] 3))
    have hI3:=XEYn w2 top fm tm
    obtain ⟨x0,x1,x2⟩:=z5EY ((hbV.block _ hl2).trans a2)
    clear p0 p1 p2
    go_wp2_with fail
    refine (qFis 0 height _ [top,fm,tm] _ hI3).mono ?_
    rintro e w3 ⟨rfl,rfl⟩
    rw[hin]
    generalize w2.alloc (Obj.cells #[.int .i64 top,.int .i64 fm,.int .i64 tm] 3)=w3 at *
    obtain ⟨z0,z1,z2,f0,f1,f2,hBf⟩:=HERR.out _ hbV
    have HBF:=hide hBf
    clear hBf
    go_wp2
    refine bodyPost_ret (v:=.tuple #[.agg #[.int .i64 0,.int .i64 0,.slice none 0 0],.int .i64 3]) (by simp[results,Tryz.results57,go_sem,z0,z1,z2]) rfl ⟨.slice none 0 0,?_,?_,HBF.out,Fresh.nil _⟩
    ·first|rfl|rw[okW,if_neg HEN.out,okW,if_neg HEN.out]
    ·first|exact IsPix.nil _|(rw[okL,if_neg HEN.out];exact IsPix.nil _)
  ·have hsd:jbTy height=false:=by simpa [jbTy] using hs1
   have he:E=3:=H3.out (fun h=>hs1 (of_decide_eq_true h).1)
   subst he
   go_wp2_with fail
   refine (XlDJ height _).mono ?_
   rintro e w2 ⟨rfl,hb2⟩
   rw[hsd]
   have hbV:=quJN hb1 hb2
   clear p0 p1 p2
   obtain ⟨z0,z1,z2,f0,f1,f2,hBf⟩:=HERR.out _ hbV
   have HBF:=hide hBf
   clear hBf
   go_wp2
   refine bodyPost_ret (v:=.tuple #[.agg #[.int .i64 0,.int .i64 0,.slice none 0 0],.int .i64 3]) (by simp[results,Tryz.results57,go_sem,z0,z1,z2]) rfl ⟨.slice none 0 0,?_,?_,HBF.out,Fresh.nil _⟩
   ·first|rfl|rw[okW,if_neg HEN.out,okW,if_neg HEN.out]
   ·first|exact IsPix.nil _|(rw[okL,if_neg HEN.out];exact IsPix.nil _)
 ·have hn:(F != 0)=true:=by simpa using hF
  rw[if_neg hF] at HPE
  have he:E=F:=HPE.out
  subst he
  have HEN:=hide hF
  have hbV:=hb1
  obtain ⟨z0,z1,z2,f0,f1,f2,hBf⟩:=HERR.out _ hbV
  have HBF:=hide hBf
  clear hBf
  go_wp2
  refine bodyPost_ret (v:=.tuple #[.agg #[.int .i64 0,.int .i64 0,.slice none 0 0],.int .i64 E]) (by simp[results,Tryz.results57,go_sem,z0,z1,z2]) rfl ⟨.slice none 0 0,?_,?_,HBF.out,Fresh.nil _⟩
  ·first|rfl|rw[okW,if_neg HEN.out,okW,if_neg HEN.out]
  ·first|exact IsPix.nil _|(rw[okL,if_neg HEN.out];exact IsPix.nil _)
end Go.Proofs.YtfjeonehdlphiaaGreatDoor

namespace Go.Proofs.YtfjeonehdlphiaaGreatDoor
set_option linter.unusedVariables false
def qW9x (H rows f:Nat):Nat:=f+min rows (H-f)
def jqst (n:Plan) (W H:Nat) (zs:List Int) (rows f:Nat):List Px :=
 partL n W ((needB (qW9x H rows f) H-needA f:Nat):Int) (rowsL zs W (needA f) (needB (qW9x H rows f) H-needA f)) (needA f:Nat) f (qW9x H rows f:Nat)
def ji0X (n:Plan) (W H:Nat) (zs:List Int) (rows:Nat):Nat→Nat→List Px
 | 0,_=>[]
 | fuel+1,f=>if f<H then jqst n W H zs rows f++ji0X n W H zs rows fuel (qW9x H rows f) else []
theorem jvZd (n:Plan) (W H:Nat) (zs:List Int) (rows fuel:Nat):ji0X n W H zs rows fuel H=[]:=by
 cases fuel with
 | zero=>rfl
 | succ k=>rw[ji0X,if_neg (by omega)]
theorem qQb2 {H rows f:Nat} (hr:1≤rows) (hf:f<H):f<qW9x H rows f:=by unfold qW9x;omega
theorem jWB6 {H rows f:Nat} (hf:f<H):qW9x H rows f≤H:=by unfold qW9x;omega
theorem qgLp (n:Plan) (W H:Nat) (zs:List Int) (rows:Nat) (hr:1≤rows):∀a b f,H-f≤a→H-f≤b→ji0X n W H zs rows a f=ji0X n W H zs rows b f:=by
 intro a
 induction a with
 | zero =>
  intro b f h1 h2
  cases b with
  | zero=>rfl
  | succ b=>rw[ji0X,ji0X,if_neg (by omega)]
 | succ a ih =>
  intro b f h1 h2
  cases b with
  | zero=>rw[ji0X,ji0X,if_neg (by omega)]
  | succ b =>
   rw[ji0X,ji0X]
   by_cases hf:f<H
   ·rw[if_pos hf,if_pos hf,ih b _ (by have:=qQb2 hr hf;omega) (by have:=qQb2 hr hf;omega)]
   ·rw[if_neg hf,if_neg hf]
def XSDS (n:Plan) (W H:Int) (zs:List Int) (rows:Int):Int:=if fitsE n W H zs H=0 then (if 1≤rows then 0 else 3) else fitsE n W H zs H
def X1qP (n:Plan) (W H:Int) (zs:List Int) (rows:Int):List Px:=ji0X n W.toNat H.toNat zs rows.toNat H.toNat 0
theorem zMGY {a b:Int} {zs:List Int} (h:allIn a b zs=true) (W t m:Nat):allIn a b (rowsL zs W t m)=true:=by
 refine List.all_eq_true.2 fun x hx=>List.all_eq_true.1 h x ?_
 exact List.mem_of_mem_drop (List.mem_of_mem_take hx)
theorem j7yx {n:Plan} {W H:Nat} {zs:List Int} {rows f:Nat} (hE:fitsE n W H zs H=0) (hr:1≤rows) (hf:f<H) :
  partE n W ((needB (qW9x H rows f) H-needA f:Nat):Int) (rowsL zs W (needA f) (needB (qW9x H rows f) H-needA f)) (needA f:Nat) H f (qW9x H rows f:Nat)=0:=by
 obtain ⟨h1,h2,h3⟩:=jsZS hE
 obtain ⟨hW,hH,hl,_⟩:=qwcI h2
 have hgt:=qQb2 (H:=H) hr hf
 have hle:=jWB6 (rows:=rows) hf
 generalize qW9x H rows f=t at *
 have hA:needA f≤f:=by unfold needA;omega
 have hB1:t≤needB t H:=by unfold needB;omega
 have hB2:needB t H≤H:=by unfold needB;omega
 have hlz:zs.length=H*W:=by rw[Nat.mul_comm];exact_mod_cast hl
 have hm:(needB t H-needA f)*W≤H*W:=Nat.mul_le_mul_right _ (by omega)
 have hm2:(needA f+(needB t H-needA f))*W≤zs.length:=by rw[hlz];exact Nat.mul_le_mul_right _ (by omega)
 have hfit:fitsE n W ((needB t H-needA f:Nat):Int) (rowsL zs W (needA f) (needB t H-needA f)) H=0:=by
  have hpl:q0fM W ((needB t H-needA f:Nat):Int) (rowsL zs W (needA f) (needB t H-needA f))=true:=by
   rw[jZMK,Bool.and_eq_true]
   refine ⟨?_,zMGY (XAOl h2) _ _ _⟩
   rw[zdIr zs W _ _ hm2]
   simp only[jcbm,jbTy,Bool.and_eq_true,decide_eq_true_eq]
   refine ⟨⟨hW,by omega⟩,?_⟩
   rw[Int.natCast_mul,Int.mul_comm]
  rw[fitsE,if_pos h1,if_pos hpl,if_pos h3]
 rw[partE,if_pos hfit,if_pos]
 refine decide_eq_true ⟨hH,⟨by omega,by omega⟩,⟨by omega,by omega⟩,⟨by omega,by omega⟩,by omega,by omega,?_,?_⟩
 ·unfold needA;omega
 ·unfold needB at hB1 hB2 ⊢;unfold needA at hA ⊢;omega
end Go.Proofs.YtfjeonehdlphiaaGreatDoor

namespace Go.Proofs.YtfjeonehdlphiaaGreatDoor
set_option linter.unusedVariables false
open Go.RowKit
theorem Xgc9 {n:Plan} {W H:Nat} {zs:List Int} {rows f:Nat} (hl:zs.length=H*W) (hr:1≤rows) (hf:f<H) :
  (needA f+(needB (qW9x H rows f) H-needA f))*W≤zs.length:=by
 have hgt:=qQb2 (H:=H) hr hf
 have hle:=jWB6 (rows:=rows) hf
 generalize qW9x H rows f=t at *
 rw[hl]
 refine Nat.mul_le_mul_right _ ?_
 unfold needA needB
 omega
theorem XFMV (n:Plan) {W H:Nat} {zs:List Int} {rows f:Nat} (hl:zs.length=H*W) (hr:1≤rows) (hf:f<H):(jqst n W H zs rows f).length=(qW9x H rows f-f)*W:=by
 have h2:=Xgc9 (n:=n) hl hr hf
 have hgt:=qQb2 (H:=H) hr hf
 have hle:=jWB6 (rows:=rows) hf
 unfold jqst partL
 generalize qW9x H rows f=t at *
 simp only[Int.toNat_natCast]
 rw[show ((f:Int)-(needA f:Nat)).toNat=f-needA f by unfold needA;omega,show ((t:Int)-(f:Nat)).toNat=t-f by omega]
 refine zdIr _ _ _ _ ?_
 rw[zrLo,zdIr zs W _ _ h2]
 refine Nat.mul_le_mul_right _ ?_
 unfold needA needB
 omega
theorem jxb0 (n:Plan) {W H:Nat} {zs:List Int} {rows f:Nat} (hr:1≤rows) (hf:f<H):ji0X n W H zs rows (H-f) f=jqst n W H zs rows f++ji0X n W H zs rows (H-qW9x H rows f) (qW9x H rows f):=by
 have hgt:=qQb2 (H:=H) hr hf
 obtain ⟨k,hk⟩:∃k,H-f=k+1:=⟨H-f-1,by omega⟩
 rw[hk,ji0X,if_pos hf,qgLp n W H zs rows hr k (H-qW9x H rows f) _ (by omega) (Nat.le_refl _)]
theorem zjmM (zs:List Int) (W top many j:Nat) (hj:j<many*W):zAt (rowsL zs W top many) j=zAt zs (top*W+j):=by
 unfold rowsL zAt
 rw[List.getD_eq_getElem?_getD,List.getD_eq_getElem?_getD,List.getElem?_take_of_lt hj,List.getElem?_drop]
theorem z54W {n:Plan} {W H:Nat} {zs:List Int} {rows f:Nat} (hE:fitsE n W H zs H=0) (hlz:zs.length=H*W) (hr:1≤rows) (hf:f<H) (sv cv:Value) (bk off ca:Nat) (u:World) (hp:X1uD u n sv cv) (hbk:bk<u.heap.size) (h4:zs.length≤4096)
  (hc:∀j,j<zs.length→u.cell? ⟨bk,off+j,none⟩=some (.int .i64 (zAt zs j))) :
  Calls Tryz.prog 57 #[.agg (planA n sv cv),.agg #[.int .i64 (W:Nat),.int .i64 (needB (qW9x H rows f) H-needA f:Nat),.slice (some ⟨bk,off+needA f*W,none⟩) ((needB (qW9x H rows f) H-needA f)*W) (ca-needA f*W)],.int .i64 (needA f:Nat),.int .i64 (H:Nat),.int .i64 (f:Nat),.int .i64 (qW9x H rows f:Nat)] u
   fun e w'=>∃r,e=.returned (.tuple #[.agg #[.int .i64 (W:Nat),.int .i64 ((qW9x H rows f:Nat)-(f:Nat):Int),r],.int .i64 0])∧IsPix w' r (jqst n W H zs rows f)∧Below u.heap.size u w'∧Fresh u.heap.size r:=by
 have h2:=Xgc9 (n:=n) hlz hr hf
 have hln:=zdIr zs W _ _ h2
 have hv:jCvT u (.slice (some ⟨bk,off+needA f*W,none⟩) ((needB (qW9x H rows f) H-needA f)*W) (ca-needA f*W)) (rowsL zs W (needA f) (needB (qW9x H rows f) H-needA f)):=by
  rw[Nat.add_mul] at h2
  refine ⟨_,_,by rw[hln],by omega,.inr ⟨bk,_,rfl,hbk,fun j hj=>?_⟩⟩
  have e:=hc (needA f*W+j) (by rw[←hln] at h2;omega)
  rw[←zjmM zs W (needA f) (needB (qW9x H rows f) H-needA f) j (by rw[←hln];exact hj)] at e
  rw[Nat.add_assoc,e]
  unfold zAt
  rw[List.getD_eq_getElem?_getD,List.getElem?_eq_getElem hj,Option.getD_some]
 have h:=XedY n sv cv W ((needB (qW9x H rows f) H-needA f:Nat):Int) _ _ (needA f:Nat) H f (qW9x H rows f:Nat) u hp hv
 rw[j7yx hE hr hf] at h
 exact h
end Go.Proofs.YtfjeonehdlphiaaGreatDoor

namespace Go.Proofs.YtfjeonehdlphiaaGreatDoor
set_option linter.unusedVariables false
open Go.RowKit
def StJ (w:World) (n:Plan) (W H:Nat) (zs:List Int) (rows:Nat) (PV:Array Value) (pv:Value) (QX f:Nat) (wr:World):Prop :=
 ∃(l:List Px) (so:Option Addr) (cap:Nat),l++ji0X n W H zs rows (H-f) f=ji0X n W H zs rows H 0∧l.length≤f*W∧wr.heap[QX]?=some (.cells #[.int .i64 W,.int .i64 H,.slice so l.length cap] 24 (0,0))∧wr.ownsRow w.heap.size 61 3 (.slice so l.length cap) l.length (l.flatMap pixL) ∧
  wr.heap[w.heap.size]?=some (.cells PV 51 (0,0))∧wr.heap[w.heap.size+1]?=some (.cells #[.int .i64 W,.int .i64 H,pv] 54 (0,0))∧wr.heap[w.heap.size+2]?=some (.cells #[.int .i64 0,.int .i64 0,.slice none 0 0] 24 (0,0))∧Below w.heap.size w wr
theorem StJ.below {w:World} {n:Plan} {W H:Nat} {zs:List Int} {rows:Nat} {PV:Array Value} {pv:Value} {QX f:Nat} {wr V:World} (h:StJ w n W H zs rows PV pv QX f wr) (hV:Below wr.heap.size wr V):StJ w n W H zs rows PV pv QX f V:=by
 obtain ⟨l,so,cap,h1,h2,h3,h4,h5,h6,h7,h8⟩:=h
 exact ⟨l,so,cap,h1,h2,(hV.block _ (Array.getElem?_eq_some_iff.1 h3).1).trans h3,qw14 h4 hV,(hV.block _ (Array.getElem?_eq_some_iff.1 h5).1).trans h5,(hV.block _ (Array.getElem?_eq_some_iff.1 h6).1).trans h6,(hV.block _ (Array.getElem?_eq_some_iff.1 h7).1).trans h7,h8.trans (hV.mono h8.size)⟩
theorem XKWu {w:World} {b off:Nat} {ps:List Px} (hc:∀j (h:j<ps.length),w.cell? ⟨b,off+j*3,none⟩=some (.int .i64 ps[j].1)∧w.cell? ⟨b,off+j*3+1,none⟩=some (.int .i64 ps[j].2.1)∧w.cell? ⟨b,off+j*3+2,none⟩=some (.int .i64 ps[j].2.2)) :
  ∀j u,(ps.flatMap pixL)[j]?=some u→w.cell? ((⟨b,off,none⟩:Addr).add j)=some u:=by
 intro j u hj
 rw[Addr.add_lit]
 have hj3:j<ps.length*3:=by rw[←Xqg0];exact (List.getElem?_eq_some_iff.1 hj).1
 obtain ⟨g0,g1,g2⟩:=zgQy ps (j / 3) (by omega)
 obtain ⟨d0,d1,d2⟩:=hc (j / 3) (by omega)
 rcases (show j % 3=0∨j % 3=1∨j % 3=2 by omega) with h|h|h
 ·have e:j=j / 3*3:=by omega
  rw[e] at hj ⊢
  rw[←Option.some.inj (g0.symm.trans hj)];exact d0
 ·have e:j=j / 3*3+1:=by omega
  rw[e] at hj ⊢
  rw[←Option.some.inj (g1.symm.trans hj),←Nat.add_assoc];exact d1
 ·have e:j=j / 3*3+2:=by omega
  rw[e] at hj ⊢
  rw[←Option.some.inj (g2.symm.trans hj),←Nat.add_assoc];exact d2
theorem XKzo (ps:List Px):∀u∈ps.flatMap pixL,u.oneCell'=true:=by
 intro u hu
 obtain ⟨p,_,hu⟩:=List.mem_flatMap.1 hu
 simp only[pixL,List.mem_cons,List.not_mem_nil,or_false] at hu
 rcases hu with rfl|rfl|rfl<;>rfl
theorem zPTa {w:World} {base:Nat} {e:TypeId} {sz:Nat} {v:Value} {n:Nat} {xs:List Value} {k:Nat} (h:w.ownsRow base e sz v n xs) (hne:v.ownBlock≠some k) (x y z:Value):(((w.setCell ⟨k,0,none⟩ x).setCell ⟨k,1,none⟩ y).setCell ⟨k,2,none⟩ z).ownsRow base e sz v n xs:=by
 refine ⟨h.1,?_⟩
 rcases h.2 with h|⟨g,cap,cur,hv,hg,hh,r⟩
 ·exact .inl h
 ·refine .inr ⟨g,cap,cur,hv,hg,?_,r⟩
  rw[jZhz _ _ _ _ _ g (fun e=>hne (by rw[hv,e];rfl))]
  exact hh
set_option maxRecDepth 100000 in
set_option maxHeartbeats 6400000 in
theorem Xmrs (n:Plan) (sv cv:Value) (W H:Int) (v:Value) (zs:List Int) (rows:Int) (w:World) (hp:X1uD w n sv cv) (hv:jCvT w v zs) (hroom:roomy v) :
  Calls Tryz.prog 17 #[.agg (planA n sv cv),.agg #[.int .i64 W,.int .i64 H,v],.int .i64 rows] w fun e w'=>∃r,e=.returned (.tuple #[.agg #[.int .i64 (okW (XSDS n W H zs rows) W),.int .i64 (okW (XSDS n W H zs rows) H),r],.int .i64 (XSDS n W H zs rows)])∧IsPix w' r (okL (XSDS n W H zs rows) (X1qP n W H zs rows))∧Below w.heap.size w w'∧Fresh w.heap.size r:=by
 have HP:=hide hp
 have HV:=hide hv
 have HFI:=hide (fun (u:World) (hu:Below w.heap.size w u)=>jiqc n sv cv W H v zs H u (HP.out.below hu (Nat.le_refl _)) (HV.out.below hu (Nat.le_refl _)))
 obtain ⟨⟨lo,lc,rfl,hll,_⟩,⟨ko,kc,rfl,hkl,_⟩⟩:=hp
 have HPE:=hide (show XSDS n W H zs rows=if fitsE n W H zs H=0 then (if 1≤rows then 0 else 3) else fitsE n W H zs H from rfl)
 obtain ⟨E,hE⟩:∃E,XSDS n W H zs rows=E:=⟨_,rfl⟩
 rw[hE] at HPE ⊢
 clear hE
 by_cases hF:fitsE n W H zs H=0
 ·rw[if_pos hF] at HPE
  have HF0:=hide hF
  obtain ⟨hpl0,hpok,hspt⟩:=jsZS hF
  rw[hF] at HFI
  clear hF
  by_cases hr1:1≤rows
  ·have hd1:decide (rows<1)=false:=by simp;omega
   have he:E=0:=by rw[HPE.out,if_pos hr1]
   subst he
   obtain ⟨hW,hH,hlen0,_⟩:=qwcI hpok
   have hsm:=zAFj hW hH
   have hn1:1≤zs.length:=by omega
   obtain ⟨bk,off,ca,rfl,hbk,hcell⟩:=hv.cells hn1
   have hca:zs.length≤ca:=hroom
   obtain ⟨WN,rfl⟩:=Int.eq_ofNat_of_zero_le (show 0≤W by omega)
   obtain ⟨HN,rfl⟩:=Int.eq_ofNat_of_zero_le (show 0≤H by omega)
   obtain ⟨RN,rfl⟩:=Int.eq_ofNat_of_zero_le (show 0≤rows by omega)
   have HLEN:=hide (show zs.length=HN*WN by rw[Nat.mul_comm];exact_mod_cast hlen0)
   have hzl:zs.length≤4096:=by omega
   have HC:=hide hcell
   obtain ⟨i0,hi,hz0,hz1,hz2⟩:=info_parts Tryz.infoPixel
   have hmk:∀V:World,(Instr.makeSlice 22 (.int .i64 0) (.int .i64 zs.length)).run Tryz.prog V=.ok (.slice (some ⟨V.heap.size,0,none⟩) 0 zs.length) (V.alloc (.cells (madeCells #[.int .i64 0,.int .i64 0,.int .i64 0] (zs.length*3)) 61)):=fun V=>by
    have h:=run_make (P:=Tryz.prog) V 22 61 i0 pixZ Tryz.underlying22 hi hz0 .i64 .i64 0 zs.length (Int.le_refl _) (by omega) (by rw[hz2];omega) (by omega)
    rw[hz1] at h
    simpa [pixZ,Value.cells] using h
   clear hlen0 hcell hpl0 hpok hspt hv hroom
   obtain ⟨a1,a2,a3⟩:=al3 w (Obj.cells (planA n (.slice lo n.spots.length lc) (.slice ko n.curve.length kc)) 51) (Obj.cells #[.int .i64 (WN:Nat),.int .i64 (HN:Nat),.slice (some ⟨bk,off,none⟩) zs.length ca] 54) (Obj.cells #[.int .i64 0,.int .i64 0,.slice none 0 0] 24)
   have HB:=hide (be3 w (Obj.cells (planA n (.slice lo n.spots.length lc) (.slice ko n.curve.length kc)) 51) (Obj.cells #[.int .i64 (WN:Nat),.int .i64 (HN:Nat),.slice (some ⟨bk,off,none⟩) zs.length ca] 54) (Obj.cells #[.int .i64 0,.int .i64 0,.slice none 0 0] 24))
   obtain ⟨p0,p1,p2⟩:=z5EY a2
   go_enter Tryz.func17,Tryz.ntmps17
   go_wp2_with (refine wpList_load_row rfl 51 _ rfl _ rfl _ _ _ _ a1 Tryz.underlying51 rfl (by kernel_rfl) ?_)
   clear p0 p1 p2
   have hl1:=(Array.getElem?_eq_some_iff.1 a1).1
   have hl2:=(Array.getElem?_eq_some_iff.1 a2).1
   have hl3:=(Array.getElem?_eq_some_iff.1 a3).1
   generalize ((w.alloc (Obj.cells (planA n (.slice lo n.spots.length lc) (.slice ko n.curve.length kc)) 51)).alloc (Obj.cells #[.int .i64 (WN:Nat),.int .i64 (HN:Nat),.slice (some ⟨bk,off,none⟩) zs.length ca] 54)).alloc (Obj.cells #[.int .i64 0,.int .i64 0,.slice none 0 0] 24)=U at *
   refine (HFI.out _ HB.out).mono ?_
   rintro e w1 ⟨rfl,hb1⟩
   have HS:=hide (show ∀v,Below U.heap.size U v→v.cell? ⟨w.heap.size+1,0,none⟩=some (.int .i64 (WN:Nat))∧v.cell? ⟨w.heap.size+1,1,none⟩=some (.int .i64 (HN:Nat))∧v.cell? ⟨w.heap.size+1,2,none⟩=some (.slice (some ⟨bk,off,none⟩) zs.length ca) from fun v h=>z5EY ((h.block _ hl2).trans a2))
   go_upto_region 6 with fail
   have hs1:=hb1.size
   go_cut [9] from 16 (fun q v=>∃QX so cap,q=.pointer (some ⟨QX,0,none⟩)∧v.heap[QX]?=some (.cells #[.int .i64 (WN:Nat),.int .i64 (HN:Nat),.slice so 0 cap] 24 (0,0))∧v.ownsRow w.heap.size 61 3 (.slice so 0 cap) 0 []∧U.heap.size≤QX∧Below U.heap.size U v)
   case first =>
    have hWd:Below U.heap.size U w1.drew:=hb1.drew
    have hSd:=HS.out _ hWd
    have hmx:Tryz.prog.follows .mixedOrders=true:=by kernel_rfl
    refine qYgd (S:=fun v:World=>v.cell? ⟨w.heap.size+1,0,none⟩=some (.int .i64 (WN:Nat))∧v.cell? ⟨w.heap.size+1,1,none⟩=some (.int .i64 (HN:Nat))∧v.cell? ⟨w.heap.size+1,2,none⟩=some (.slice (some ⟨bk,off,none⟩) zs.length ca)) (f:=10) hmx ?_
    show jZdv _ _ _ _ _ _ 11 _ _ w1.drew
    refine zB2j (i:=0) (oi:=_) (v:=?vv1) (some 28) rfl rfl (by kernel_rfl) (by kernel_rfl) (by kernel_rfl) (by kernel_rfl) (by kernel_rfl) (fun _ _ _ h=>h) (Or.inl ⟨by rfl,?yy1⟩) hSd ?rr1
    case yy1=>(intro wq hSq;obtain ⟨_,_,_⟩:=hSq;go_simp<;>with_reducible rfl)
    simp only[Act.put,List.setIfInBounds_toArray,List.set_cons_succ,List.set_cons_zero]
    refine zB2j (i:=2) (oi:=_) (v:=?vv2) (some 30) rfl rfl (by kernel_rfl) (by kernel_rfl) (by kernel_rfl) (by kernel_rfl) (by kernel_rfl) (fun _ _ _ h=>h) (Or.inl ⟨by rfl,?yy2⟩) hSd ?rr2
    case yy2=>(intro wq hSq;obtain ⟨_,_,_⟩:=hSq;go_simp<;>with_reducible rfl)
    simp only[Act.put,List.setIfInBounds_toArray,List.set_cons_succ,List.set_cons_zero]
    refine zB2j (i:=4) (oi:=_) (v:=?vv3) (some 32) rfl rfl (by kernel_rfl) (by kernel_rfl) (by kernel_rfl) (by kernel_rfl) (by kernel_rfl) (fun _ _ _ h=>h) (Or.inl ⟨by rfl,?yy3⟩) hSd ?rr3
    case yy3=>(intro wq hSq;obtain ⟨_,_,_⟩:=hSq;go_simp<;>with_reducible rfl)
    simp only[Act.put,List.setIfInBounds_toArray,List.set_cons_succ,List.set_cons_zero]
    refine zB2j (i:=1) (oi:=_) (v:=?vv4) (some 29) rfl rfl (by kernel_rfl) (by kernel_rfl) (by kernel_rfl) (by kernel_rfl) (by kernel_rfl) (fun _ _ _ h=>h) (Or.inl ⟨by rfl,?yy4⟩) hSd ?rr4
    case yy4=>(intro wq hSq;obtain ⟨_,_,_⟩:=hSq;go_simp<;>with_reducible rfl)
    simp only[Act.put,List.setIfInBounds_toArray,List.set_cons_succ,List.set_cons_zero]
    refine zB2j (i:=3) (oi:=_) (v:=?vv5) (some 31) rfl rfl (by kernel_rfl) (by kernel_rfl) (by kernel_rfl) (by kernel_rfl) (by kernel_rfl) (fun _ _ _ h=>h) (Or.inl ⟨by rfl,?yy5⟩) hSd ?rr5
    case yy5=>(intro wq hSq;obtain ⟨_,_,_⟩:=hSq;go_simp<;>with_reducible rfl)
    simp only[Act.put,List.setIfInBounds_toArray,List.set_cons_succ,List.set_cons_zero]
    refine zB2j (i:=5) (oi:=_) (v:=?vv6) (some 33) rfl rfl (by kernel_rfl) (by kernel_rfl) (by kernel_rfl) (by kernel_rfl) (by kernel_rfl) (fun _ _ _ h=>h) (Or.inl ⟨by rfl,?yy6⟩) hSd ?rr6
    case yy6=>(intro wq hSq;obtain ⟨_,_,_⟩:=hSq;go_simp<;>with_reducible rfl)
    simp only[Act.put,List.setIfInBounds_toArray,List.set_cons_succ,List.set_cons_zero]
    refine zB2j (i:=6) (oi:=_) (v:=?vv7) (some 34) rfl rfl (by kernel_rfl) (by kernel_rfl) (by kernel_rfl) (by kernel_rfl) (by kernel_rfl) (fun _ _ _ h=>h) (Or.inl ⟨by rfl,?yy7⟩) hSd ?rr7
    case yy7=>(intro wq hSq;obtain ⟨_,_,_⟩:=hSq;go_simp<;>with_reducible rfl)
    simp only[Act.put,List.setIfInBounds_toArray,List.set_cons_succ,List.set_cons_zero]
    refine jwFJ (i:=7) (j:=9) (oi:=_) (oj:=_) (by kernel_rfl) rfl rfl (fun K' hK=>?brA) (fun K' hK=>?brB)
    case brA =>
     rw[if_pos (by rfl)]
     go_simp
     have hB1:Below U.heap.size U (w1.alloc (Obj.cells (madeCells #[.int .i64 0,.int .i64 0,.int .i64 0] (zs.length*3)) 61)).drew:=(hb1.alloc hb1.size _).drew
     have hSd:=HS.out _ hB1
     refine hK.out _ _ hSd ?_
     clear hK
     try simp only[Act.put]
     refine zB2j (i:=8) (oi:=_) (v:=?vv8) (some 36) rfl rfl (by kernel_rfl) (by kernel_rfl) (by kernel_rfl) (by kernel_rfl) (by kernel_rfl) (fun _ _ _ h=>h) (Or.inl ⟨by rfl,?yy8⟩) hSd ?rr8
     case yy8=>(intro wq hSq;obtain ⟨_,_,_⟩:=hSq;go_simp<;>with_reducible rfl)
     simp only[Act.put,List.setIfInBounds_toArray,List.set_cons_succ,List.set_cons_zero]
     refine znWj (i:=9) (o:=_) (by kernel_rfl) rfl (fun K' hK=>?_)
     rw[if_pos (by rfl)]
     go_simp
     have hB2:Below U.heap.size U ((w1.alloc (Obj.cells (madeCells #[.int .i64 0,.int .i64 0,.int .i64 0] (zs.length*3)) 61)).alloc (Obj.cells #[.int .i64 0,.int .i64 0,.slice none 0 0] 24)).drew:=((hb1.alloc hb1.size _).alloc (by simp;omega) _).drew
     have hSd:=HS.out _ hB2
     refine hK.out _ _ hSd ?_
     clear hK
     try simp only[Act.put]
     refine z9gO (o:=_) (by kernel_rfl) rfl (fun K' hK=>?_)
     rw[if_pos (by rfl)]
     go_simp
     refine hK.out _ _ ?_
     clear hK
     refine jFdp (by kernel_rfl) ?_ _
     try simp only[Act.put]
     clear hSd
     go_wp2
     go_meet
     case rel=>exact ⟨w1.heap.size+1,some ⟨w1.heap.size,0,none⟩,zs.length,rfl,(al2 w1 (Obj.cells (madeCells #[.int .i64 0,.int .i64 0,.int .i64 0] (zs.length*3)) 61) (Obj.cells #[.int .i64 (WN:Nat),.int .i64 (HN:Nat),.slice (some ⟨w1.heap.size,0,none⟩) 0 zs.length] 24)).2,(World.ownsRow_made (base:=w.heap.size) (e:=61) (size:=3) w1 (madeCells #[.int .i64 0,.int .i64 0,.int .i64 0] (zs.length*3)) zs.length (Nat.le_trans HB.out.size hs1) (by unfold maxLen;omega) (by simp[madeCells])).alloc (Obj.cells #[.int .i64 (WN:Nat),.int .i64 (HN:Nat),.slice (some ⟨w1.heap.size,0,none⟩) 0 zs.length] 24),by omega,((hb1.alloc hb1.size (Obj.cells (madeCells #[.int .i64 0,.int .i64 0,.int .i64 0] (zs.length*3)) 61)).alloc (by simp;omega) (Obj.cells #[.int .i64 (WN:Nat),.int .i64 (HN:Nat),.slice (some ⟨w1.heap.size,0,none⟩) 0 zs.length] 24)).drew⟩
    case brB =>
     rw[if_pos (by rfl)]
     go_simp
     have hBz:Below U.heap.size U (w1.alloc (Obj.cells #[.int .i64 0,.int .i64 0,.slice none 0 0] 24)).drew:=(hb1.alloc hb1.size _).drew
     have hSd:=HS.out _ hBz
     refine hK.out _ _ hSd ?_
     clear hK
     try simp only[Act.put]
     have gz0:(w1.alloc (Obj.cells #[.int .i64 0,.int .i64 0,.slice none 0 0] 24)).drew.heap[w1.heap.size]?=_:=al1 w1 (Obj.cells #[.int .i64 0,.int .i64 0,.slice none 0 0] 24)
     have hlz:=(Array.getElem?_eq_some_iff.1 gz0).1
     generalize (w1.alloc (Obj.cells #[.int .i64 0,.int .i64 0,.slice none 0 0] 24)).drew=Vz at *
     have hq:U.heap.size≤w1.heap.size:=hs1
     generalize w1.heap.size=QX at *
     refine znWj (i:=7) (o:=_) (by kernel_rfl) rfl (fun K' hK=>?_)
     rw[if_pos (by rfl)]
     go_simp
     have hB1:Below U.heap.size U (Vz.alloc (Obj.cells (madeCells #[.int .i64 0,.int .i64 0,.int .i64 0] (zs.length*3)) 61)):=hBz.alloc hBz.size _
     have hSd:=HS.out _ hB1
     refine hK.out _ _ hSd ?_
     clear hK
     try simp only[Act.put]
     refine zB2j (i:=8) (oi:=_) (v:=?vv9) (some 36) rfl rfl (by kernel_rfl) (by kernel_rfl) (by kernel_rfl) (by kernel_rfl) (by kernel_rfl) (fun _ _ _ h=>h) (Or.inl ⟨by rfl,?yy9⟩) hSd ?rr9
     case yy9=>(intro wq hSq;obtain ⟨_,_,_⟩:=hSq;go_simp<;>with_reducible rfl)
     simp only[Act.put,List.setIfInBounds_toArray,List.set_cons_succ,List.set_cons_zero]
     have gz:=((qUNz Vz (Obj.cells (madeCells #[.int .i64 0,.int .i64 0,.int .i64 0] (zs.length*3)) 61)).block QX hlz).trans gz0
     have ho:=World.ownsRow_made (base:=w.heap.size) (e:=61) (size:=3) Vz (madeCells #[.int .i64 0,.int .i64 0,.int .i64 0] (zs.length*3)) zs.length (Nat.le_trans HB.out.size hBz.size) (by unfold maxLen;omega) (by simp[madeCells])
     have hsz:(Vz.alloc (Obj.cells (madeCells #[.int .i64 0,.int .i64 0,.int .i64 0] (zs.length*3)) 61)).heap.size=Vz.heap.size+1:=by simp
     generalize Vz.alloc (Obj.cells (madeCells #[.int .i64 0,.int .i64 0,.int .i64 0] (zs.length*3)) 61)=Vy at *
     generalize Vz.heap.size=MX at *
     obtain ⟨z0,z1,z2⟩:=z5EY gz
     have f0:=Lib.frozen_of_heap gz 0
     have f1:=Lib.frozen_of_heap gz 1
     have f2:=Lib.frozen_of_heap gz 2
     obtain ⟨vS,_,_,_⟩:=X0Wz gz (.int .i64 (WN:Nat)) (.int .i64 (HN:Nat)) (.slice (some ⟨MX,0,none⟩) 0 zs.length) w (Nat.le_trans HB.out.size hq) (HB.out.trans (hB1.mono HB.out.size))
     have hB4:=zHqh hB1 hq (.int .i64 (WN:Nat)) (.int .i64 (HN:Nat)) (.slice (some ⟨MX,0,none⟩) 0 zs.length)
     have hne:(Value.slice (some ⟨MX,0,none⟩) 0 zs.length).ownBlock≠some QX:=fun e=>qYYy ho gz (by decide) e.symm
     have HO:=hide (zPTa ho hne (.int .i64 (WN:Nat)) (.int .i64 (HN:Nat)) (.slice (some ⟨MX,0,none⟩) 0 zs.length))
     refine z9gO (o:=_) (by kernel_rfl) rfl (fun K' hK=>?_)
     rw[if_pos (by rfl)]
     go_simp
     refine hK.out _ _ ?_
     clear hK
     refine jFdp (by kernel_rfl) ?_ _
     try simp only[Act.put]
     clear hSd
     go_wp2
     go_meet
     case rel=>exact ⟨QX,some ⟨MX,0,none⟩,zs.length,rfl,vS,HO.out,hq,hB4⟩
   case rest =>
    obtain ⟨QX,so0,cap0,rfl,vS0,vO0,hQX,vB0⟩:=hcut
    have HJ0:=hide (show StJ w n WN HN zs RN (planA n (.slice lo n.spots.length lc) (.slice ko n.curve.length kc)) (.slice (some ⟨bk,off,none⟩) zs.length ca) QX 0 wc from ⟨[],so0,cap0,rfl,by simp,vS0,vO0,(vB0.block _ hl1).trans a1,(vB0.block _ hl2).trans a2,(vB0.block _ hl3).trans a3,HB.out.trans (vB0.mono HB.out.size)⟩)
    have hQw:w.heap.size+2<QX:=by omega
    clear vS0 vO0 vB0 a1 a2 a3 hb1 HS hl1 hl2 hl3 hs1
    go_wp2_with fail
    go_loopw [10] (fun i wr=>∃f:Nat,f≤HN∧i=.int .i64 f∧StJ w n WN HN zs RN (planA n (.slice lo n.spots.length lc) (.slice ko n.curve.length kc)) (.slice (some ⟨bk,off,none⟩) zs.length ca) QX f wr) (fun i _=>HN-(intOf i).toNat)
    case atStart=>exact ⟨0,Nat.zero_le _,rfl,HJ0.out⟩
    case round =>
     clear HJ0
     obtain ⟨f,hf,rfl,hJ⟩:=hrel
     have HJ:=hide hJ
     obtain ⟨l,so,cap,j1,j2,j3,j4,j5,j6,j7,j8⟩:=hJ
     obtain ⟨q0,q1,q2⟩:=z5EY j6
     by_cases hlt:f<HN
     ·have hd:decide ((f:Int)<(HN:Int))=true:=by simp;omega
      have hr2:1≤RN:=by omega
      have hgt:=qQb2 (H:=HN) hr2 hlt
      have hle:=jWB6 (rows:=RN) hlt
      have HST:=hide (jxb0 n (W:=WN) (zs:=zs) hr2 hlt)
      have HPL:=hide (XFMV n HLEN.out hr2 hlt)
      have HCA:=hide (fun (u:World) (hu:Below w.heap.size w u)=>z54W HF0.out HLEN.out hr2 hlt (.slice lo n.spots.length lc) (.slice ko n.curve.length kc) bk off ca u (HP.out.below hu (Nat.le_refl _)) (Nat.lt_of_lt_of_le hbk hu.size) hzl (fun j hj=>(hu.cell (p:=⟨bk,off+j,none⟩) hbk).trans (HC.out j hj)))
      have hmin:(if (HN:Int)-(f:Int)<(RN:Int) then (HN:Int)-(f:Int) else (RN:Int))=((qW9x HN RN f-f:Nat):Int):=by unfold qW9x;split<;>omega
      have HRO:=hide (fun u:World=>Xxdw WN HN (needA f) (needB (qW9x HN RN f) HN) bk off ca (by omega) (by omega) (by omega) zs HLEN.out (by unfold needA needB;omega) (by unfold needB;omega) hca u)
      have HNE:=hide (fun u:World=>j23B f (qW9x HN RN f) HN (by omega) (by omega) (by omega) u)
      obtain ⟨P,hP⟩:∃P,jqst n WN HN zs RN f=P:=⟨_,rfl⟩
      rw[hP] at HST HPL HCA
      clear hP
      obtain ⟨t,ht⟩:∃t,qW9x HN RN f=t:=⟨_,rfl⟩
      rw[ht] at HST HPL HCA hgt hle hmin HRO HNE
      clear ht
      obtain ⟨NA,hNA⟩:∃NA,needA f=NA:=⟨_,rfl⟩
      rw[hNA] at HCA HRO HNE
      clear hNA
      obtain ⟨NB,hNB⟩:∃NB,needB t HN=NB:=⟨_,rfl⟩
      rw[hNB] at HCA HRO HNE
      clear hNB
      obtain ⟨m,hm⟩:∃m,t-f=m:=⟨_,rfl⟩
      rw[hm] at hmin HPL
      have hwt:IntKind.i64.wrap ((f:Int)+(m:Int))=(t:Int):=by rw[IntWalk.i64_in _ (by omega)];omega
      have hwh:IntKind.i64.wrap ((HN:Int)-(f:Int))=(HN:Int)-(f:Int):=IntWalk.i64_in _ (by omega)
      have HMM:=hide hm
      clear hm
      have hl1:=(Array.getElem?_eq_some_iff.1 j5).1
      have hl2:=(Array.getElem?_eq_some_iff.1 j6).1
      have HS:=hide (show ∀v,Below wr.heap.size wr v→v.cell? ⟨w.heap.size+1,0,none⟩=some (.int .i64 (WN:Nat))∧v.cell? ⟨w.heap.size+1,1,none⟩=some (.int .i64 (HN:Nat))∧v.cell? ⟨w.heap.size+1,2,none⟩=some (.slice (some ⟨bk,off,none⟩) zs.length ca)∧v.heap[w.heap.size]?=some (.cells (planA n (.slice lo n.spots.length lc) (.slice ko n.curve.length kc)) 51 (0,0)) from fun v h=>by
       obtain ⟨y0,y1,y2⟩:=z5EY ((h.block _ hl2).trans j6)
       exact ⟨y0,y1,y2,(h.block _ hl1).trans j5⟩)
      clear j1 j2 j3 j4 j5 j6 j7
      go_wp2_with fail
      refine (HNE.out _).mono ?_
      rintro e w4 ⟨rfl,rfl⟩
      go_upto_region 11 with fail
      clear q0 q1 q2
      go_cut [14,15] from 37 to 81 (fun q e v=>∃PX ro rc,q=.pointer (some ⟨PX,0,none⟩)∧e=.int .i64 0∧v.heap[PX]?=some (.cells #[.int .i64 (WN:Nat),.int .i64 ((t:Int)-(f:Int)),.slice ro P.length rc] 24 (0,0))∧IsPix v (.slice ro P.length rc) P∧wr.heap.size≤PX∧Below wr.heap.size wr v)
      case first =>
       have hWd:Below wr.heap.size wr wr.drew:=(Below.refl _ _).drew
       have hSd:=HS.out _ hWd
       have hmx:Tryz.prog.follows .mixedOrders=true:=by kernel_rfl
       refine qYgd (S:=fun v:World=>v.cell? ⟨w.heap.size+1,0,none⟩=some (.int .i64 (WN:Nat))∧v.cell? ⟨w.heap.size+1,1,none⟩=some (.int .i64 (HN:Nat))∧v.cell? ⟨w.heap.size+1,2,none⟩=some (.slice (some ⟨bk,off,none⟩) zs.length ca)∧v.heap[w.heap.size]?=some (.cells (planA n (.slice lo n.spots.length lc) (.slice ko n.curve.length kc)) 51 (0,0))) (f:=16) hmx ?_
       show jZdv _ _ _ _ _ _ 17 _ _ wr.drew
       refine zB2j (i:=0) (oi:=_) (v:=.agg (planA n (.slice lo n.spots.length lc) (.slice ko n.curve.length kc))) (some 58) rfl rfl (by kernel_rfl) (by kernel_rfl) (by kernel_rfl) (by kernel_rfl) (by kernel_rfl) (fun _ _ _ h=>h) (Or.inl ⟨by rfl,?yy10⟩) hSd ?rr10
       case yy10=>(intro wq hSq;exact qLIM 51 _ rfl _ rfl _ _ _ _ hSq.2.2.2 Tryz.underlying51 rfl (by kernel_rfl))
       simp only[Act.put,List.setIfInBounds_toArray,List.set_cons_succ,List.set_cons_zero]
       refine zB2j (i:=1) (oi:=_) (v:=?vv11) (some 59) rfl rfl (by kernel_rfl) (by kernel_rfl) (by kernel_rfl) (by kernel_rfl) (by kernel_rfl) (fun _ _ _ h=>h) (Or.inl ⟨by rfl,?yy11⟩) hSd ?rr11
       case yy11=>(intro wq hSq;obtain ⟨_,_,_,_⟩:=hSq;go_simp<;>with_reducible rfl)
       simp only[Act.put,List.setIfInBounds_toArray,List.set_cons_succ,List.set_cons_zero]
       refine zB2j (i:=2) (oi:=_) (v:=?vv12) (some 60) rfl rfl (by kernel_rfl) (by kernel_rfl) (by kernel_rfl) (by kernel_rfl) (by kernel_rfl) (fun _ _ _ h=>h) (Or.inl ⟨by rfl,?yy12⟩) hSd ?rr12
       case yy12=>(intro wq hSq;obtain ⟨_,_,_,_⟩:=hSq;go_simp<;>with_reducible rfl)
       simp only[Act.put,List.setIfInBounds_toArray,List.set_cons_succ,List.set_cons_zero]
       refine zB2j (i:=3) (oi:=_) (v:=?vv13) (some 61) rfl rfl (by kernel_rfl) (by kernel_rfl) (by kernel_rfl) (by kernel_rfl) (by kernel_rfl) (fun _ _ _ h=>h) (Or.inl ⟨by rfl,?yy13⟩) hSd ?rr13
       case yy13=>(intro wq hSq;obtain ⟨_,_,_,_⟩:=hSq;go_simp<;>with_reducible rfl)
       simp only[Act.put,List.setIfInBounds_toArray,List.set_cons_succ,List.set_cons_zero]
       refine zB2j (i:=5) (oi:=_) (v:=?vv14) (some 63) rfl rfl (by kernel_rfl) (by kernel_rfl) (by kernel_rfl) (by kernel_rfl) (by kernel_rfl) (fun _ _ _ h=>h) (Or.inl ⟨by rfl,?yy14⟩) hSd ?rr14
       case yy14=>(intro wq hSq;obtain ⟨_,_,_,_⟩:=hSq;go_simp<;>with_reducible rfl)
       simp only[Act.put,List.setIfInBounds_toArray,List.set_cons_succ,List.set_cons_zero]
       refine zB2j (i:=6) (oi:=_) (v:=?vv15) (some 64) rfl rfl (by kernel_rfl) (by kernel_rfl) (by kernel_rfl) (by kernel_rfl) (by kernel_rfl) (fun _ _ _ h=>h) (Or.inl ⟨by rfl,?yy15⟩) hSd ?rr15
       case yy15=>(intro wq hSq;obtain ⟨_,_,_,_⟩:=hSq;go_simp<;>with_reducible rfl)
       simp only[Act.put,List.setIfInBounds_toArray,List.set_cons_succ,List.set_cons_zero]
       refine zB2j (i:=7) (oi:=_) (v:=?vv16) (some 65) rfl rfl (by kernel_rfl) (by kernel_rfl) (by kernel_rfl) (by kernel_rfl) (by kernel_rfl) (fun _ _ _ h=>h) (Or.inl ⟨by rfl,?yy16⟩) hSd ?rr16
       case yy16=>(intro wq hSq;obtain ⟨_,_,_,_⟩:=hSq;go_simp<;>with_reducible rfl)
       simp only[Act.put,List.setIfInBounds_toArray,List.set_cons_succ,List.set_cons_zero]
       refine zB2j (i:=8) (oi:=_) (v:=?vv17) (some 66) rfl rfl (by kernel_rfl) (by kernel_rfl) (by kernel_rfl) (by kernel_rfl) (by kernel_rfl) (fun _ _ _ h=>h) (Or.inl ⟨by rfl,?yy17⟩) hSd ?rr17
       case yy17=>(intro wq hSq;obtain ⟨_,_,_,_⟩:=hSq;go_simp<;>with_reducible rfl)
       simp only[Act.put,List.setIfInBounds_toArray,List.set_cons_succ,List.set_cons_zero]
       refine zB2j (i:=9) (oi:=_) (v:=?vv18) (some 67) rfl rfl (by kernel_rfl) (by kernel_rfl) (by kernel_rfl) (by kernel_rfl) (by kernel_rfl) (fun _ _ _ h=>h) (Or.inl ⟨by rfl,?yy18⟩) hSd ?rr18
       case yy18=>(intro wq hSq;obtain ⟨_,_,_,_⟩:=hSq;go_simp<;>with_reducible rfl)
       simp only[Act.put,List.setIfInBounds_toArray,List.set_cons_succ,List.set_cons_zero]
       refine jwFJ (i:=4) (j:=14) (oi:=_) (oj:=_) (by kernel_rfl) rfl rfl (fun K' hK=>?brA) (fun K' hK=>?brB)
       case brA =>
        rw[if_pos (by rfl)]
        go_simp
        refine (HRO.out _).mono ?_
        rintro e V1 ⟨rfl,hbm⟩
        have hB1:Below wr.heap.size wr V1:=hWd.trans (hbm.mono hWd.size)
        have hSd:=HS.out _ hB1
        refine hK.out _ _ hSd ?_
        clear hK
        try simp only[Act.put]
        refine jwFJ (i:=10) (j:=14) (oi:=_) (oj:=_) (by kernel_rfl) rfl rfl (fun K' hK=>?brC) (fun K' hK=>?brD)
        case brC =>
         rw[if_pos (by rfl)]
         go_simp
         refine (HCA.out _ (j8.trans (hB1.mono j8.size))).mono ?_
         rintro e V2 ⟨r,rfl,hr,hbd,hfr⟩
         have hB2:Below wr.heap.size wr V2:=hB1.trans (hbd.mono hB1.size)
         have hSd:=HS.out _ hB2
         refine hK.out _ _ hSd ?_
         clear hK
         try simp only[Act.put]
         have HR:=hide hr
         obtain ⟨ro,rc,rfl,x1,x2⟩:=hr
         clear x1 x2
         refine zB2j (i:=11) (oi:=_) (v:=?vv19) (some 57) rfl rfl (by kernel_rfl) (by kernel_rfl) (by kernel_rfl) (by kernel_rfl) (by kernel_rfl) (fun _ _ _ h=>h) (Or.inl ⟨by rfl,?yy19⟩) hSd ?rr19
         case yy19=>(intro wq hSq;obtain ⟨_,_,_,_⟩:=hSq;go_simp<;>with_reducible rfl)
         simp only[Act.put,List.setIfInBounds_toArray,List.set_cons_succ,List.set_cons_zero]
         refine zB2j (i:=12) (oi:=_) (v:=?vv20) (some 69) rfl rfl (by kernel_rfl) (by kernel_rfl) (by kernel_rfl) (by kernel_rfl) (by kernel_rfl) (fun _ _ _ h=>h) (Or.inl ⟨by rfl,?yy20⟩) hSd ?rr20
         case yy20=>(intro wq hSq;obtain ⟨_,_,_,_⟩:=hSq;go_simp<;>with_reducible rfl)
         simp only[Act.put,List.setIfInBounds_toArray,List.set_cons_succ,List.set_cons_zero]
         refine zB2j (i:=13) (oi:=_) (v:=?vv21) (some 70) rfl rfl (by kernel_rfl) (by kernel_rfl) (by kernel_rfl) (by kernel_rfl) (by kernel_rfl) (fun _ _ _ h=>h) (Or.inl ⟨by rfl,?yy21⟩) hSd ?rr21
         case yy21=>(intro wq hSq;obtain ⟨_,_,_,_⟩:=hSq;go_simp<;>with_reducible rfl)
         simp only[Act.put,List.setIfInBounds_toArray,List.set_cons_succ,List.set_cons_zero]
         refine znWj (i:=14) (o:=_) (by kernel_rfl) rfl (fun K' hK=>?_)
         rw[if_pos (by rfl)]
         go_simp
         have hB3:Below wr.heap.size wr (V2.alloc (Obj.cells #[.int .i64 0,.int .i64 0,.slice none 0 0] 24)):=hB2.alloc hB2.size _
         have hSd:=HS.out _ hB3
         refine hK.out _ _ hSd ?_
         clear hK
         try simp only[Act.put]
         refine znWj (i:=15) (o:=_) (by kernel_rfl) rfl (fun K' hK=>?_)
         rw[if_pos (by rfl)]
         go_simp
         have hB4:Below wr.heap.size wr (V2.alloc (Obj.cells #[.int .i64 (WN:Nat),.int .i64 ((t:Int)-(f:Int)),.slice ro P.length rc] 24)):=hB2.alloc hB2.size _
         have hSd:=HS.out _ hB4
         refine hK.out _ _ hSd ?_
         clear hK
         try simp only[Act.put]
         refine z9gO (o:=_) (by kernel_rfl) rfl (fun K' hK=>?_)
         rw[if_pos (by rfl)]
         go_simp
         refine hK.out _ _ ?_
         clear hK
         refine jFdp (by kernel_rfl) ?_ _
         try simp only[Act.put]
         clear hSd
         go_wp2
         go_meet
         case rel=>exact ⟨V2.heap.size,ro,rc,rfl,rfl,al1 V2 _,HR.out.alloc _,hB2.size,hB4⟩
        case brD =>
         rw[if_pos (by rfl)]
         go_simp
         have hBz:Below wr.heap.size wr (V1.alloc (Obj.cells #[.int .i64 0,.int .i64 0,.slice none 0 0] 24)):=hB1.alloc hB1.size _
         have hSd:=HS.out _ hBz
         refine hK.out _ _ hSd ?_
         clear hK
         try simp only[Act.put]
         have gz0:=al1 V1 (Obj.cells #[.int .i64 0,.int .i64 0,.slice none 0 0] 24)
         have hlz:=(Array.getElem?_eq_some_iff.1 gz0).1
         have hq:=hB1.size
         generalize V1.alloc (Obj.cells #[.int .i64 0,.int .i64 0,.slice none 0 0] 24)=Vz at *
         generalize V1.heap.size=PX at *
         refine znWj (i:=10) (o:=_) (by kernel_rfl) rfl (fun K' hK=>?_)
         rw[if_pos (by rfl)]
         go_simp
         refine (HCA.out _ (j8.trans (hBz.mono j8.size))).mono ?_
         rintro e V2 ⟨r,rfl,hr,hbd,hfr⟩
         have hB2:Below wr.heap.size wr V2:=hBz.trans (hbd.mono hBz.size)
         have hSd:=HS.out _ hB2
         refine hK.out _ _ hSd ?_
         clear hK
         try simp only[Act.put]
         have HR:=hide hr
         obtain ⟨ro,rc,rfl,x1,x2⟩:=hr
         clear x1 x2
         refine zB2j (i:=11) (oi:=_) (v:=?vv22) (some 57) rfl rfl (by kernel_rfl) (by kernel_rfl) (by kernel_rfl) (by kernel_rfl) (by kernel_rfl) (fun _ _ _ h=>h) (Or.inl ⟨by rfl,?yy22⟩) hSd ?rr22
         case yy22=>(intro wq hSq;obtain ⟨_,_,_,_⟩:=hSq;go_simp<;>with_reducible rfl)
         simp only[Act.put,List.setIfInBounds_toArray,List.set_cons_succ,List.set_cons_zero]
         refine zB2j (i:=12) (oi:=_) (v:=?vv23) (some 69) rfl rfl (by kernel_rfl) (by kernel_rfl) (by kernel_rfl) (by kernel_rfl) (by kernel_rfl) (fun _ _ _ h=>h) (Or.inl ⟨by rfl,?yy23⟩) hSd ?rr23
         case yy23=>(intro wq hSq;obtain ⟨_,_,_,_⟩:=hSq;go_simp<;>with_reducible rfl)
         simp only[Act.put,List.setIfInBounds_toArray,List.set_cons_succ,List.set_cons_zero]
         refine zB2j (i:=13) (oi:=_) (v:=?vv24) (some 70) rfl rfl (by kernel_rfl) (by kernel_rfl) (by kernel_rfl) (by kernel_rfl) (by kernel_rfl) (fun _ _ _ h=>h) (Or.inl ⟨by rfl,?yy24⟩) hSd ?rr24
         case yy24=>(intro wq hSq;obtain ⟨_,_,_,_⟩:=hSq;go_simp<;>with_reducible rfl)
         simp only[Act.put,List.setIfInBounds_toArray,List.set_cons_succ,List.set_cons_zero]
         have gz:=(hbd.block PX hlz).trans gz0
         obtain ⟨z0,z1,z2⟩:=z5EY gz
         have f0:=Lib.frozen_of_heap gz 0
         have f1:=Lib.frozen_of_heap gz 1
         have f2:=Lib.frozen_of_heap gz 2
         obtain ⟨vS,_,_,_⟩:=X0Wz gz (.int .i64 (WN:Nat)) (.int .i64 ((t:Int)-(f:Int))) (.slice ro P.length rc) w (Nat.le_trans j8.size hq) (j8.trans (hB2.mono j8.size))
         have hB4:=zHqh hB2 hq (.int .i64 (WN:Nat)) (.int .i64 ((t:Int)-(f:Int))) (.slice ro P.length rc)
         have HX:=hide (HR.out.set3 hfr hlz (.int .i64 (WN:Nat)) (.int .i64 ((t:Int)-(f:Int))) (.slice ro P.length rc))
         refine znWj (i:=15) (o:=_) (by kernel_rfl) rfl (fun K' hK=>?_)
         rw[if_pos (by rfl)]
         go_simp
         have hSd:=HS.out _ hB4
         refine hK.out _ _ hSd ?_
         clear hK
         try simp only[Act.put]
         clear z0 z1 z2 f0 f1 f2
         refine z9gO (o:=_) (by kernel_rfl) rfl (fun K' hK=>?_)
         rw[if_pos (by rfl)]
         go_simp
         refine hK.out _ _ ?_
         clear hK
         refine jFdp (by kernel_rfl) ?_ _
         try simp only[Act.put]
         clear hSd
         go_wp2
         go_meet
         case rel=>exact ⟨PX,ro,rc,rfl,rfl,vS,HX.out,hq,hB4⟩
       case brB =>
        rw[if_pos (by rfl)]
        go_simp
        have hBz:Below wr.heap.size wr (wr.alloc (Obj.cells #[.int .i64 0,.int .i64 0,.slice none 0 0] 24)).drew:=((Below.refl _ _).alloc (Nat.le_refl _) _).drew
        have hSd:=HS.out _ hBz
        refine hK.out _ _ hSd ?_
        clear hK
        try simp only[Act.put]
        have gz0:(wr.alloc (Obj.cells #[.int .i64 0,.int .i64 0,.slice none 0 0] 24)).drew.heap[wr.heap.size]?=_:=al1 wr (Obj.cells #[.int .i64 0,.int .i64 0,.slice none 0 0] 24)
        have hlz:=(Array.getElem?_eq_some_iff.1 gz0).1
        obtain ⟨PX,hPX⟩:∃PX,wr.heap.size=PX:=⟨_,rfl⟩
        have hq:wr.heap.size≤PX:=by omega
        generalize (wr.alloc (Obj.cells #[.int .i64 0,.int .i64 0,.slice none 0 0] 24)).drew=Vz at *
        have HPX:=hide hPX
        rw[hPX] at gz0 hlz ⊢
        clear hPX
        refine znWj (i:=4) (o:=_) (by kernel_rfl) rfl (fun K' hK=>?_)
        rw[if_pos (by rfl)]
        go_simp
        refine (HRO.out _).mono ?_
        rintro e V1 ⟨rfl,hbm⟩
        have hB1:Below wr.heap.size wr V1:=hBz.trans (hbm.mono hBz.size)
        have hSd:=HS.out _ hB1
        refine hK.out _ _ hSd ?_
        clear hK
        try simp only[Act.put]
        replace gz0:=(hbm.block PX hlz).trans gz0
        replace hlz:=(Array.getElem?_eq_some_iff.1 gz0).1
        refine znWj (i:=10) (o:=_) (by kernel_rfl) rfl (fun K' hK=>?_)
        rw[if_pos (by rfl)]
        go_simp
        refine (HCA.out _ (j8.trans (hB1.mono j8.size))).mono ?_
        rintro e V2 ⟨r,rfl,hr,hbd,hfr⟩
        have hB2:Below wr.heap.size wr V2:=hB1.trans (hbd.mono hB1.size)
        have hSd:=HS.out _ hB2
        refine hK.out _ _ hSd ?_
        clear hK
        try simp only[Act.put]
        have HR:=hide hr
        obtain ⟨ro,rc,rfl,x1,x2⟩:=hr
        clear x1 x2
        refine zB2j (i:=11) (oi:=_) (v:=?vv25) (some 57) rfl rfl (by kernel_rfl) (by kernel_rfl) (by kernel_rfl) (by kernel_rfl) (by kernel_rfl) (fun _ _ _ h=>h) (Or.inl ⟨by rfl,?yy25⟩) hSd ?rr25
        case yy25=>(intro wq hSq;obtain ⟨_,_,_,_⟩:=hSq;go_simp<;>with_reducible rfl)
        simp only[Act.put,List.setIfInBounds_toArray,List.set_cons_succ,List.set_cons_zero]
        refine zB2j (i:=12) (oi:=_) (v:=?vv26) (some 69) rfl rfl (by kernel_rfl) (by kernel_rfl) (by kernel_rfl) (by kernel_rfl) (by kernel_rfl) (fun _ _ _ h=>h) (Or.inl ⟨by rfl,?yy26⟩) hSd ?rr26
        case yy26=>(intro wq hSq;obtain ⟨_,_,_,_⟩:=hSq;go_simp<;>with_reducible rfl)
        simp only[Act.put,List.setIfInBounds_toArray,List.set_cons_succ,List.set_cons_zero]
        refine zB2j (i:=13) (oi:=_) (v:=?vv27) (some 70) rfl rfl (by kernel_rfl) (by kernel_rfl) (by kernel_rfl) (by kernel_rfl) (by kernel_rfl) (fun _ _ _ h=>h) (Or.inl ⟨by rfl,?yy27⟩) hSd ?rr27
        case yy27=>(intro wq hSq;obtain ⟨_,_,_,_⟩:=hSq;go_simp<;>with_reducible rfl)
        simp only[Act.put,List.setIfInBounds_toArray,List.set_cons_succ,List.set_cons_zero]
        have gz:=(hbd.block PX hlz).trans gz0
        obtain ⟨z0,z1,z2⟩:=z5EY gz
        have f0:=Lib.frozen_of_heap gz 0
        have f1:=Lib.frozen_of_heap gz 1
        have f2:=Lib.frozen_of_heap gz 2
        obtain ⟨vS,_,_,_⟩:=X0Wz gz (.int .i64 (WN:Nat)) (.int .i64 ((t:Int)-(f:Int))) (.slice ro P.length rc) w (Nat.le_trans j8.size hq) (j8.trans (hB2.mono j8.size))
        have hB4:=zHqh hB2 hq (.int .i64 (WN:Nat)) (.int .i64 ((t:Int)-(f:Int))) (.slice ro P.length rc)
        have HX:=hide (HR.out.set3 hfr hlz (.int .i64 (WN:Nat)) (.int .i64 ((t:Int)-(f:Int))) (.slice ro P.length rc))
        refine znWj (i:=15) (o:=_) (by kernel_rfl) rfl (fun K' hK=>?_)
        rw[if_pos (by rfl)]
        go_simp
        have hSd:=HS.out _ hB4
        refine hK.out _ _ hSd ?_
        clear hK
        try simp only[Act.put]
        clear z0 z1 z2 f0 f1 f2
        refine z9gO (o:=_) (by kernel_rfl) rfl (fun K' hK=>?_)
        rw[if_pos (by rfl)]
        go_simp
        refine hK.out _ _ ?_
        clear hK
        refine jFdp (by kernel_rfl) ?_ _
        try simp only[Act.put]
        clear hSd
        go_wp2
        go_meet
        case rel=>exact ⟨PX,ro,rc,rfl,rfl,vS,HX.out,hq,hB4⟩
      case rest =>
       obtain ⟨PX,ro,rc,rfl,rfl,vS,hpx,hPX,vB⟩:=hcut
       have HJ2:=hide (HJ.out.below vB)
       clear HJ j8 HS
       obtain ⟨l,so,cap,k1,k2,k3,k4,k5,k6,k7,k8⟩:=HJ2.out
       have hP1:1*1≤m*WN:=Nat.mul_le_mul (by have:=HMM.out;omega) (by omega)
       obtain ⟨ro2,rc2,hpe,_,hpor⟩:=hpx
       cases hpe
       rcases hpor with hpor|⟨pb,po,rfl,hpb,hpc⟩
       ·exfalso
        rw[←HPL.out,hpor] at hP1
        simp at hP1
       have hlen:l.length+P.length≤t*WN:=by
        rw[HPL.out,show t=f+m from by have:=HMM.out;omega,Nat.add_mul]
        omega
       have HLN:=hide hlen
       have hl4:t*WN≤HN*WN:=Nat.mul_le_mul_right _ hle
       rw[←HLEN.out] at hl4
       have hl5:l.length+P.length≤4096:=by omega
       have hP2:1≤P.length:=by rw[HPL.out];omega
       obtain ⟨q0,q1,q2⟩:=z5EY k3
       obtain ⟨p0,p1,p2⟩:=z5EY vS
       have HFC:=hide (XKWu hpc)
       have HK:=hide k4
       have HK3:=hide k3
       clear hlen hl4 hpc
       go_wp2_with (at_builtin;refine wpList_append_own _ rfl _ _ 22 rfl w.heap.size 61 i0 pixZ 3 24 Tryz.underlying22 hi hz0 hz1 hz2 rfl (by omega) _ l.length (l.flatMap pixL) rfl HK.out ⟨pb,po,none⟩ P.length rc (P.flatMap pixL) rfl ?qc1 ?qc2 ?qc3 ?qc4 ?qc5 ?qc6 ?_)
       case qc1=>rw[Xqg0]
       case qc2=>exact HFC.out
       case qc3=>exact XKzo P
       case qc4=>unfold maxLen;omega
       case qc5=>omega
       case qc6=>exact k8.size
       intro v' w1 hown hgrow hnil
       rcases id hown.2 with ⟨_,hn0⟩|⟨g,cp,cur,rfl,_⟩
       ·exfalso;omega
       obtain ⟨_,c2,fz,g1,g2,g3,g4⟩:=j7Ww (by decide) HK3.out HK.out k8 (Nat.le_refl _) (show w.heap.size≤QX by omega) (Below.refl _ _) hgrow hown
       have HJ3:=hide (show StJ w n WN HN zs RN (planA n (.slice lo n.spots.length lc) (.slice ko n.curve.length kc)) (.slice (some ⟨bk,off,none⟩) zs.length ca) QX t _ from ⟨l++P,some ⟨g,0,none⟩,cp,by rw[List.append_assoc,←HST.out];exact k1,by rw[List.length_append];exact HLN.out,by rw[List.length_append];exact g1,by rw[List.length_append,List.flatMap_append];exact g2,
        (g4 _ (Array.getElem?_eq_some_iff.1 k5).1 (qYYy HK.out k5 (by decide)) (by omega)).trans k5,(g4 _ (Array.getElem?_eq_some_iff.1 k6).1 (qYYy HK.out k6 (by decide)) (by omega)).trans k6,(g4 _ (Array.getElem?_eq_some_iff.1 k7).1 (qYYy HK.out k7 (by decide)) (by omega)).trans k7,g3⟩)
       clear g1 g2 g3 g4 k1 k2 k3 k4 k5 k6 k7 k8 hown hgrow hnil q0 q1 q2 p0 p1 p2
       go_wp2
       go_roundw
       case rel=>exact ⟨t,hle,by go_num,HJ3.out⟩
       case measure=>simp[intOf];omega
     ·have hd:decide ((f:Int)<(HN:Int))=false:=by simp;omega
      obtain rfl:f=HN:=by omega
      rw[jvZd,List.append_nil] at j1
      obtain ⟨y0,y1,y2⟩:=z5EY j3
      obtain ⟨z0,z1,z2⟩:=z5EY (b:=w.heap.size+1+1) j7
      have f0:=Lib.frozen_of_heap (b:=w.heap.size+1+1) j7 0
      have f1:=Lib.frozen_of_heap (b:=w.heap.size+1+1) j7 1
      have f2:=Lib.frozen_of_heap (b:=w.heap.size+1+1) j7 2
      have hll2:l.length≤4096:=by rw[←HLEN.out] at j2;omega
      have hpx:IsPix wr (.slice so l.length cap) l:=IsPix.own j4 (by omega)
      have hne:(Value.slice so l.length cap).ownBlock≠some (w.heap.size+1+1):=fun e=>qYYy j4 j7 (by decide) e.symm
      have HX:=hide (hpx.other (zv5i wr (w.heap.size+1+1) (.int .i64 (WN:Nat)) (.int .i64 (f:Nat)) (.slice so l.length cap)) (fun b hb=>jZhz _ _ _ _ _ b hb) hne)
      have HF:=hide (zHqh j8 (show w.heap.size≤w.heap.size+1+1 by omega) (.int .i64 (WN:Nat)) (.int .i64 (f:Nat)) (.slice so l.length cap))
      have HFR:=hide (Fresh.own j4)
      have HSL:=hide (show X1qP n WN f zs RN=l from j1.symm)
      obtain ⟨N,hN⟩:∃N,l.length=N:=⟨_,rfl⟩
      rw[hN] at HX HF HFR y2
      clear j4 hpx hne hN
      go_wp2
      refine bodyPost_ret (v:=.tuple #[.agg #[.int .i64 (WN:Nat),.int .i64 (f:Nat),.slice so N cap],.int .i64 0]) (by simp[results,Tryz.results17,go_sem,z0,z1,z2]) rfl ⟨_,rfl,?_,HF.out,HFR.out⟩
      show IsPix _ _ (X1qP n WN f zs RN)
      rw[HSL.out]
      exact HX.out
  ·have hd1:decide (rows<1)=true:=by simp;omega
   have he:E=3:=by rw[HPE.out,if_neg hr1]
   subst he
   obtain ⟨ao,ca,rfl,_,_⟩:=hv
   obtain ⟨a1,a2,a3⟩:=al3 w (Obj.cells (planA n (.slice lo n.spots.length lc) (.slice ko n.curve.length kc)) 51) (Obj.cells #[.int .i64 W,.int .i64 H,.slice ao zs.length ca] 54) (Obj.cells #[.int .i64 0,.int .i64 0,.slice none 0 0] 24)
   have HB:=hide (be3 w (Obj.cells (planA n (.slice lo n.spots.length lc) (.slice ko n.curve.length kc)) 51) (Obj.cells #[.int .i64 W,.int .i64 H,.slice ao zs.length ca] 54) (Obj.cells #[.int .i64 0,.int .i64 0,.slice none 0 0] 24))
   obtain ⟨p0,p1,p2⟩:=z5EY a2
   go_enter Tryz.func17,Tryz.ntmps17
   go_wp2_with (refine wpList_load_row rfl 51 _ rfl _ rfl _ _ _ _ a1 Tryz.underlying51 rfl (by kernel_rfl) ?_)
   clear p0 p1 p2
   have hl1:=(Array.getElem?_eq_some_iff.1 a1).1
   have hl2:=(Array.getElem?_eq_some_iff.1 a2).1
   have hl3:=(Array.getElem?_eq_some_iff.1 a3).1
   generalize ((w.alloc (Obj.cells (planA n (.slice lo n.spots.length lc) (.slice ko n.curve.length kc)) 51)).alloc (Obj.cells #[.int .i64 W,.int .i64 H,.slice ao zs.length ca] 54)).alloc (Obj.cells #[.int .i64 0,.int .i64 0,.slice none 0 0] 24)=U at *
   refine (HFI.out _ HB.out).mono ?_
   rintro e w1 ⟨rfl,hb1⟩
   have g3:=(hb1.block _ hl3).trans a3
   obtain ⟨z0,z1,z2⟩:=z5EY (b:=w.heap.size+1+1) g3
   have f0:=Lib.frozen_of_heap (b:=w.heap.size+1+1) g3 0
   have f1:=Lib.frozen_of_heap (b:=w.heap.size+1+1) g3 1
   have f2:=Lib.frozen_of_heap (b:=w.heap.size+1+1) g3 2
   have HBF:=hide (zHqh (HB.out.trans (hb1.mono HB.out.size)) (show w.heap.size≤w.heap.size+1+1 by omega) (.int .i64 0) (.int .i64 0) (.slice none 0 0))
   go_wp2
   refine bodyPost_ret (v:=.tuple #[.agg #[.int .i64 0,.int .i64 0,.slice none 0 0],.int .i64 3]) (by simp[results,Tryz.results17,go_sem,z0,z1,z2]) rfl ⟨.slice none 0 0,?_,?_,HBF.out,Fresh.nil _⟩
   ·first|rfl|rw[okW,if_neg HEN.out,okW,if_neg HEN.out]
   ·first|exact IsPix.nil _|(rw[okL,if_neg HEN.out];exact IsPix.nil _)
 ·rw[if_neg hF] at HPE
  have HEN0:=hide hF
  obtain ⟨F,hFF⟩:∃F,fitsE n W H zs H=F:=⟨_,rfl⟩
  rw[hFF] at HFI HPE HEN0 hF
  have hn:(F != 0)=true:=by simpa using hF
  have he:E=F:=HPE.out
  subst he
  have HEN:=hide hF
  clear hFF hF
  obtain ⟨ao,ca,rfl,_,_⟩:=hv
  obtain ⟨a1,a2,a3⟩:=al3 w (Obj.cells (planA n (.slice lo n.spots.length lc) (.slice ko n.curve.length kc)) 51) (Obj.cells #[.int .i64 W,.int .i64 H,.slice ao zs.length ca] 54) (Obj.cells #[.int .i64 0,.int .i64 0,.slice none 0 0] 24)
  have HB:=hide (be3 w (Obj.cells (planA n (.slice lo n.spots.length lc) (.slice ko n.curve.length kc)) 51) (Obj.cells #[.int .i64 W,.int .i64 H,.slice ao zs.length ca] 54) (Obj.cells #[.int .i64 0,.int .i64 0,.slice none 0 0] 24))
  obtain ⟨p0,p1,p2⟩:=z5EY a2
  go_enter Tryz.func17,Tryz.ntmps17
  go_wp2_with (refine wpList_load_row rfl 51 _ rfl _ rfl _ _ _ _ a1 Tryz.underlying51 rfl (by kernel_rfl) ?_)
  clear p0 p1 p2
  have hl1:=(Array.getElem?_eq_some_iff.1 a1).1
  have hl2:=(Array.getElem?_eq_some_iff.1 a2).1
  have hl3:=(Array.getElem?_eq_some_iff.1 a3).1
  generalize ((w.alloc (Obj.cells (planA n (.slice lo n.spots.length lc) (.slice ko n.curve.length kc)) 51)).alloc (Obj.cells #[.int .i64 W,.int .i64 H,.slice ao zs.length ca] 54)).alloc (Obj.cells #[.int .i64 0,.int .i64 0,.slice none 0 0] 24)=U at *
  refine (HFI.out _ HB.out).mono ?_
  rintro e w1 ⟨rfl,hb1⟩
  have g3:=(hb1.block _ hl3).trans a3
  obtain ⟨z0,z1,z2⟩:=z5EY (b:=w.heap.size+1+1) g3
  have f0:=Lib.frozen_of_heap (b:=w.heap.size+1+1) g3 0
  have f1:=Lib.frozen_of_heap (b:=w.heap.size+1+1) g3 1
  have f2:=Lib.frozen_of_heap (b:=w.heap.size+1+1) g3 2
  have HBF:=hide (zHqh (HB.out.trans (hb1.mono HB.out.size)) (show w.heap.size≤w.heap.size+1+1 by omega) (.int .i64 0) (.int .i64 0) (.slice none 0 0))
  go_wp2
  refine bodyPost_ret (v:=.tuple #[.agg #[.int .i64 0,.int .i64 0,.slice none 0 0],.int .i64 E]) (by simp[results,Tryz.results17,go_sem,z0,z1,z2]) rfl ⟨.slice none 0 0,?_,?_,HBF.out,Fresh.nil _⟩
  ·first|rfl|rw[okW,if_neg HEN.out,okW,if_neg HEN.out]
  ·first|exact IsPix.nil _|(rw[okL,if_neg HEN.out];exact IsPix.nil _)
end Go.Proofs.YtfjeonehdlphiaaGreatDoor

namespace Go.Proofs.YtfjeonehdlphiaaGreatDoor
set_option linter.unusedVariables false
open Go.RowKit
abbrev Mv:=Bool×Bool×Bool
def mvL:List Mv:=[(false,false,false),(false,true,false),(false,true,true),(false,false,true),(true,false,false),(true,false,true),(true,true,true),(true,true,false)]
def mvAt (k:Nat):Mv:=mvL.getD k (false,false,false)
abbrev mvA (m:Mv):Array Value:=#[.bool m.1,.bool m.2.1,.bool m.2.2]
def zR7W (w:World):Prop:=0<w.heap.size∧∀k,k<8→w.cell? ⟨0,k*3,none⟩=some (.bool (mvAt k).1)∧w.cell? ⟨0,k*3+1,none⟩=some (.bool (mvAt k).2.1)∧w.cell? ⟨0,k*3+2,none⟩=some (.bool (mvAt k).2.2)
theorem zR7W.below {w w':World} {B:Nat} (h:zR7W w) (hb:Below B w w') (hB:w.heap.size≤B):zR7W w':=by
 have h0:=h.1
 refine ⟨Nat.lt_of_lt_of_le h.1 hb.size,fun k hk=>?_⟩
 obtain ⟨c0,c1,c2⟩:=h.2 k hk
 exact ⟨(hb.cell (p:=⟨0,k*3,none⟩) (show 0<B by omega)).trans c0,(hb.cell (p:=⟨0,k*3+1,none⟩) (show 0<B by omega)).trans c1,(hb.cell (p:=⟨0,k*3+2,none⟩) (show 0<B by omega)).trans c2⟩
theorem zR7W.alloc {w:World} (h:zR7W w) (o:Obj):zR7W (w.alloc o):=h.below (qUNz w o) (Nat.le_refl _)
def howOk (how:Int):Bool:=decide (1≤how∧how≤8)
def howE (how:Int):Int:=if howOk how=true then 0 else 3
def mvOf (how:Int):Mv:=if howOk how=true then mvAt (how.toNat-1) else (false,false,false)
theorem jmuP (w:World) (o:Obj) (n:Int):jCvT ((w.alloc o).alloc (.cells #[.int .i64 n] 3)) (.slice (some ⟨w.heap.size+1,0,none⟩) 1 1) [n]:=by
 have h:=ints1 (w.alloc o) n
 rw[World.size_alloc] at h
 exact h
abbrev mvZ:Obj:=Obj.cells #[.bool false,.bool false,.bool false] 119
set_option maxRecDepth 100000 in
theorem qq5i (k:Nat) (hk:k<8) (w:World) (hm:zR7W w) :
  Calls Tryz.prog 59 #[.int .i64 ((k:Int)+1)] w fun e w'=>e=.returned (.tuple #[.agg (mvA (mvAt k)),.int .i64 0])∧Below w.heap.size w w':=by
 have HS:=hide (show allIn 1 8 [(k:Int)+1]=true by simp[allIn];omega)
 have HB:=hide (be2 w mvZ (Obj.cells #[.int .i64 ((k:Int)+1)] 3))
 obtain ⟨z,_⟩:=al2 w mvZ (Obj.cells #[.int .i64 ((k:Int)+1)] 3)
 obtain ⟨a0,b0,c0⟩:=(hm.below HB.out (Nat.le_refl _)).2 k hk
 obtain ⟨⟨x0,x1,x2⟩,hM⟩:∃M,mvAt k=M:=⟨_,rfl⟩
 rw[hM] at a0 b0 c0 ⊢
 obtain ⟨z0,z1,z2⟩:=z5EY z
 have f0:=Lib.frozen_of_heap z 0
 have f1:=Lib.frozen_of_heap z 1
 have f2:=Lib.frozen_of_heap z 2
 have HF:=hide (fun x y t=>zHqh HB.out (Nat.le_refl _) x y t)
 clear hM hm z
 go_enter Tryz.func59,Tryz.ntmps59
 go_wp2_with fail
 refine (qFis 1 8 _ [(k:Int)+1] _ (jmuP w mvZ _)).mono ?_
 rintro e w1 ⟨rfl,rfl⟩
 rw[HS.out]
 generalize (w.alloc mvZ).alloc (Obj.cells #[.int .i64 ((k:Int)+1)] 3)=U at *
 have hix:IntKind.i64.wrap ((k:Int)+1-1)=k:=by rw[Int.add_sub_cancel];exact IntWalk.i64_in _ (by omega)
 go_wp2
 exact bodyPost_ret (v:=.tuple #[.agg #[.bool x0,.bool x1,.bool x2],.int .i64 0]) (by simp[results,Tryz.results59,go_sem,z0,z1,z2]) rfl ⟨rfl,HF.out _ _ _⟩
set_option maxRecDepth 100000 in
theorem qUbR (how:Int) (hh:howOk how=false) (w:World) :
  Calls Tryz.prog 59 #[.int .i64 how] w fun e w'=>e=.returned (.tuple #[.agg (mvA (false,false,false)),.int .i64 3])∧Below w.heap.size w w':=by
 have HS:=hide (show allIn 1 8 [how]=false by simpa [allIn,howOk] using hh)
 have HB:=hide (be2 w mvZ (Obj.cells #[.int .i64 how] 3))
 obtain ⟨z,_⟩:=al2 w mvZ (Obj.cells #[.int .i64 how] 3)
 obtain ⟨z0,z1,z2⟩:=z5EY z
 have f0:=Lib.frozen_of_heap z 0
 have f1:=Lib.frozen_of_heap z 1
 have f2:=Lib.frozen_of_heap z 2
 have HF:=hide (fun x y t=>zHqh HB.out (Nat.le_refl _) x y t)
 clear z hh
 go_enter Tryz.func59,Tryz.ntmps59
 go_wp2_with fail
 refine (qFis 1 8 _ [how] _ (jmuP w mvZ how)).mono ?_
 rintro e w1 ⟨rfl,rfl⟩
 rw[HS.out]
 generalize (w.alloc mvZ).alloc (Obj.cells #[.int .i64 how] 3)=U at *
 go_wp2
 exact bodyPost_ret (v:=.tuple #[.agg #[.bool false,.bool false,.bool false],.int .i64 3]) (by simp[results,Tryz.results59,go_sem,z0,z1,z2]) rfl ⟨rfl,HF.out _ _ _⟩
abbrev tabA:Array Value:=#[.bool false,.bool false,.bool false,.bool false,.bool true,.bool false,.bool false,.bool true,.bool true,.bool false,.bool false,.bool true,.bool true,.bool false,.bool false,.bool true,.bool false,.bool true,.bool true,.bool true,.bool true,.bool true,.bool true,.bool false]
def qPp5 (m:Mv) (W H:Int):Int:=if m.1=true then H else W
def srcX (m:Mv) (W x y:Int):Int:=if m.2.1=true then W-1-(if m.1=true then y else x) else if m.1=true then y else x
def srcY (m:Mv) (H x y:Int):Int:=if m.2.2=true then H-1-(if m.1=true then x else y) else if m.1=true then x else y
set_option maxRecDepth 100000 in
theorem zPoh (m:Mv) (W H:Int) (w:World):Calls Tryz.prog 60 #[.agg (mvA m),.agg #[.int .i64 W,.int .i64 H]] w fun e w'=>e=.returned (.agg #[.int .i64 (qPp5 m W H),.int .i64 (qPp5 m H W)])∧Below w.heap.size w w':=by
 obtain ⟨x,y,z⟩:=m
 cases x
 all_goals
  go_enter Tryz.func60,Tryz.ntmps60
  go_wp2
  refine bodyPost_ret (by simp[results,Tryz.results60,go_sem];rfl) rfl ⟨?_,be3 w _ _ _⟩
  rfl
set_option maxRecDepth 100000 in
theorem j1Mh (m:Mv) (W H x y:Int) (hW:0≤W∧W≤64) (hH:0≤H∧H≤64) (hx:0≤x∧x≤64) (hy:0≤y∧y≤64) (w:World):Calls Tryz.prog 62 #[.agg (mvA m),.agg #[.int .i64 W,.int .i64 H],.agg #[.int .i64 x,.int .i64 y]] w fun e w'=>e=.returned (.agg #[.int .i64 (srcX m W x y),.int .i64 (srcY m H x y)])∧Below w.heap.size w w':=by
 obtain ⟨a,b,c⟩:=m
 cases a<;>cases b<;>cases c
 all_goals
  go_enter Tryz.func62,Tryz.ntmps62
  go_wp2
  refine bodyPost_ret (by simp[results,Tryz.results62,go_sem];rfl) rfl ⟨?_,be4 w _ _ _ _⟩
  rfl
end Go.Proofs.YtfjeonehdlphiaaGreatDoor

namespace Go.Proofs.YtfjeonehdlphiaaGreatDoor
set_option linter.unusedVariables false
open Go.RowKit
def qpi8 (m:Mv) (W H:Nat):Nat:=if m.1=true then H else W
theorem zk50 (m:Mv) (W H:Nat):qPp5 m W H=((qpi8 m W H:Nat):Int):=by unfold qPp5 qpi8;split<;>rfl
def srcN (m:Mv) (W H x y:Nat):Nat:=(srcY m H x y).toNat*W+(srcX m W x y).toNat
def turnP (ps:List Px) (W H:Nat) (m:Mv) (j:Nat):Px:=pxAt ps (srcN m W H (j % qpi8 m W H) (j / qpi8 m W H))
def turnL (W H:Nat) (ps:List Px) (m:Mv):List Px:=(List.range (qpi8 m H W*qpi8 m W H)).map (turnP ps W H m)
theorem src_in (m:Mv) (W H x y:Nat) (hx:x<qpi8 m W H) (hy:y<qpi8 m H W):(0≤srcX m W x y∧srcX m W x y<W)∧(0≤srcY m H x y∧srcY m H x y<H):=by
 obtain ⟨a,b,c⟩:=m
 unfold qpi8 at hx hy
 unfold srcX srcY
 cases a<;>cases b<;>cases c<;>simp at hx hy ⊢<;>omega
set_option maxRecDepth 100000 in
set_option maxHeartbeats 3200000 in
theorem XbU0 (W H X Y:Nat) (hW:W≤64) (hH:H≤64) (m:Mv) (hX:X<qpi8 m W H) (hY:Y<qpi8 m H W) (ps:List Px) (hlen:ps.length=H*W) (bk off ca Bq Bo Bm:Nat) (V:World) (hBq:Bq<V.heap.size) (hBo:Bo<V.heap.size) (hBm:Bm<V.heap.size) (hbk:bk<V.heap.size)
  (k2:V.cell? ⟨Bq,2,none⟩=some (.slice (some ⟨bk,off,none⟩) ps.length ca)) (o0:V.cell? ⟨Bo,0,none⟩=some (.int .i64 W)) (o1:V.cell? ⟨Bo,1,none⟩=some (.int .i64 H))
  (m0:V.cell? ⟨Bm,0,none⟩=some (.bool m.1)) (m1:V.cell? ⟨Bm,1,none⟩=some (.bool m.2.1)) (m2:V.cell? ⟨Bm,2,none⟩=some (.bool m.2.2))
  (hcell:∀j,j<ps.length→V.cell? ⟨bk,off+j*3,none⟩=some (.int .i64 (pxAt ps j).1)∧V.cell? ⟨bk,off+j*3+1,none⟩=some (.int .i64 (pxAt ps j).2.1)∧V.cell? ⟨bk,off+j*3+2,none⟩=some (.int .i64 (pxAt ps j).2.2)) :
  Calls Tryz.prog 61 #[.agg #[.int .i64 (X:Nat),.int .i64 (Y:Nat)],.pointer (some ⟨Bq,0,none⟩),.pointer (some ⟨Bo,0,none⟩),.pointer (some ⟨Bm,0,none⟩)] V fun e V'=>e=.returned (pixV (pxAt ps (srcN m W H X Y)))∧Below V.heap.size V V':=by
 obtain ⟨⟨s1,s2⟩,s3,s4⟩:=src_in m W H X Y hX hY
 have hx64:X≤64:=by unfold qpi8 at hX;split at hX<;>omega
 have hy64:Y≤64:=by unfold qpi8 at hY;split at hY<;>omega
 have HSO:=hide (fun (u:World)=>j1Mh m W H X Y ⟨by omega,by omega⟩ ⟨by omega,by omega⟩ ⟨by omega,by omega⟩ ⟨by omega,by omega⟩ u)
 have hK:srcN m W H X Y=(srcY m H X Y).toNat*W+(srcX m W X Y).toNat:=rfl
 obtain ⟨SX,hSX⟩:=Int.eq_ofNat_of_zero_le s1
 obtain ⟨SY,hSY⟩:=Int.eq_ofNat_of_zero_le s3
 rw[hSX,hSY] at HSO hK
 rw[hSX] at s2
 rw[hSY] at s4
 simp only[Int.toNat_natCast] at hK
 obtain ⟨k,hk⟩:∃k,srcN m W H X Y=k:=⟨_,rfl⟩
 rw[hk] at hK ⊢
 have hkl:k<ps.length:=by
  have h1:=Nat.mul_le_mul_right W (show SY+1≤H by omega)
  rw[Nat.add_mul,Nat.one_mul] at h1
  rw[hlen];omega
 have hl4:ps.length≤4096:=by rw[hlen];exact Nat.le_trans (Nat.mul_le_mul hH hW) (by decide)
 have HIX:=hide (fun (u:World)=>XSSj W H SX SY W k rfl hK.symm (by omega) u)
 obtain ⟨c0,c1,c2⟩:=hcell k hkl
 have hkI:(k:Int)<(ps.length:Int):=by omega
 generalize pxAt ps k=P at *
 obtain ⟨a,b,c⟩:=m
 simp only at m0 m1 m2
 clear hcell hk hK s1 s2 s3 s4 hSX hSY hX hY hlen
 obtain ⟨n1,n2⟩:=al2 V (Obj.cells #[.int .i64 (X:Nat),.int .i64 (Y:Nat)] 97) (Obj.cells #[.int .i64 0,.int .i64 0,.int .i64 0] 61)
 have HB:=hide (be2 V (Obj.cells #[.int .i64 (X:Nat),.int .i64 (Y:Nat)] 97) (Obj.cells #[.int .i64 0,.int .i64 0,.int .i64 0] 61))
 go_enter Tryz.func61,Tryz.ntmps61
 go_upto_region 1 with fail
 have hl1:=(Array.getElem?_eq_some_iff.1 n1).1
 have hl2:=(Array.getElem?_eq_some_iff.1 n2).1
 generalize (V.alloc (Obj.cells #[.int .i64 (X:Nat),.int .i64 (Y:Nat)] 97)).alloc (Obj.cells #[.int .i64 0,.int .i64 0,.int .i64 0] 61)=U at *
 have HS:=hide (show ∀v,Below U.heap.size U v→v.cell? ⟨Bq,2,none⟩=some (.slice (some ⟨bk,off,none⟩) ps.length ca)∧v.cell? ⟨Bo,0,none⟩=some (.int .i64 W)∧v.cell? ⟨Bo,1,none⟩=some (.int .i64 H)∧v.cell? ⟨Bm,0,none⟩=some (.bool a)∧v.cell? ⟨Bm,1,none⟩=some (.bool b)∧v.cell? ⟨Bm,2,none⟩=some (.bool c)∧v.cell? ⟨bk,off+k*3,none⟩=some (.int .i64 P.1)∧v.cell? ⟨bk,off+k*3+1,none⟩=some (.int .i64 P.2.1)∧v.cell? ⟨bk,off+k*3+2,none⟩=some (.int .i64 P.2.2)∧v.cell? ⟨V.heap.size,0,none⟩=some (.int .i64 (X:Nat))∧v.cell? ⟨V.heap.size,1,none⟩=some (.int .i64 (Y:Nat)) from fun v h=>by
  have hV:=HB.out.trans (h.mono HB.out.size)
  have hn:=(h.block _ hl1).trans n1
  exact ⟨(hV.cell (p:=⟨Bq,2,none⟩) hBq).trans k2,(hV.cell (p:=⟨Bo,0,none⟩) hBo).trans o0,(hV.cell (p:=⟨Bo,1,none⟩) hBo).trans o1,(hV.cell (p:=⟨Bm,0,none⟩) hBm).trans m0,(hV.cell (p:=⟨Bm,1,none⟩) hBm).trans m1,(hV.cell (p:=⟨Bm,2,none⟩) hBm).trans m2,(hV.cell (p:=⟨bk,off+k*3,none⟩) hbk).trans c0,(hV.cell (p:=⟨bk,off+k*3+1,none⟩) hbk).trans c1,(hV.cell (p:=⟨bk,off+k*3+2,none⟩) hbk).trans c2,by rw[Lib.cell_of_heap hn];rfl,by rw[Lib.cell_of_heap hn];rfl⟩)
 have hWd:Below U.heap.size U U.drew:=(Below.refl _ _).drew
 have hSd:=HS.out _ hWd
 clear k2 o0 o1 m0 m1 m2 c0 c1 c2
 have hmx:Tryz.prog.follows .mixedOrders=true:=by kernel_rfl
 refine qYgd (S:=fun v:World=>v.cell? ⟨Bq,2,none⟩=some (.slice (some ⟨bk,off,none⟩) ps.length ca)∧v.cell? ⟨Bo,0,none⟩=some (.int .i64 W)∧v.cell? ⟨Bo,1,none⟩=some (.int .i64 H)∧v.cell? ⟨Bm,0,none⟩=some (.bool a)∧v.cell? ⟨Bm,1,none⟩=some (.bool b)∧v.cell? ⟨Bm,2,none⟩=some (.bool c)∧v.cell? ⟨bk,off+k*3,none⟩=some (.int .i64 P.1)∧v.cell? ⟨bk,off+k*3+1,none⟩=some (.int .i64 P.2.1)∧v.cell? ⟨bk,off+k*3+2,none⟩=some (.int .i64 P.2.2)∧v.cell? ⟨V.heap.size,0,none⟩=some (.int .i64 (X:Nat))∧v.cell? ⟨V.heap.size,1,none⟩=some (.int .i64 (Y:Nat))) (f:=10) hmx ?_
 show jZdv _ _ _ _ _ _ 11 _ _ U.drew
 refine takeQ 0 ?vv1 (some 6) [] ?yy1 hSd ?rr1
 case yy1=>(intro wq hSq;obtain ⟨_,_,_,_,_,_,_,_,_,_,_⟩:=hSq;go_simp<;>with_reducible rfl)
 simp only[Act.put,List.setIfInBounds_toArray,List.set_cons_succ,List.set_cons_zero]
 refine takeQ 2 ?vv2 (some 8) [] ?yy2 hSd ?rr2
 case yy2=>(intro wq hSq;obtain ⟨_,_,_,_,_,_,_,_,_,_,_⟩:=hSq;go_simp<;>with_reducible rfl)
 simp only[Act.put,List.setIfInBounds_toArray,List.set_cons_succ,List.set_cons_zero]
 refine takeQ 3 ?vv3 (some 9) [] ?yy3 hSd ?rr3
 case yy3=>(intro wq hSq;obtain ⟨_,_,_,_,_,_,_,_,_,_,_⟩:=hSq;go_simp<;>with_reducible rfl)
 simp only[Act.put,List.setIfInBounds_toArray,List.set_cons_succ,List.set_cons_zero]
 refine takeQ 4 ?vv4 (some 10) [] ?yy4 hSd ?rr4
 case yy4=>(intro wq hSq;obtain ⟨_,_,_,_,_,_,_,_,_,_,_⟩:=hSq;go_simp<;>with_reducible rfl)
 simp only[Act.put,List.setIfInBounds_toArray,List.set_cons_succ,List.set_cons_zero]
 refine takeQ 5 ?vv5 (some 11) [] ?yy5 hSd ?rr5
 case yy5=>(intro wq hSq;obtain ⟨_,_,_,_,_,_,_,_,_,_,_⟩:=hSq;go_simp<;>with_reducible rfl)
 simp only[Act.put,List.setIfInBounds_toArray,List.set_cons_succ,List.set_cons_zero]
 refine takeQ 1 ?vv6 (some 7) [] ?yy6 hSd ?rr6
 case yy6=>(intro wq hSq;obtain ⟨_,_,_,_,_,_,_,_,_,_,_⟩:=hSq;go_simp<;>with_reducible rfl)
 simp only[Act.put,List.setIfInBounds_toArray,List.set_cons_succ,List.set_cons_zero]
 refine znWj (i:=6) (o:=_) (by kernel_rfl) rfl (fun K' hK=>?_)
 rw[if_pos (by rfl)]
 go_simp
 refine (HSO.out _).mono ?_
 rintro e V1 ⟨rfl,hbvV1⟩
 have hBV1:Below U.heap.size U V1:=hWd.trans (hbvV1.mono hWd.size)
 have hSd:=HS.out _ hBV1
 refine hK.out _ _ hSd ?_
 clear hK
 try simp only[Act.put]
 refine znWj (i:=7) (o:=_) (by kernel_rfl) rfl (fun K' hK=>?_)
 rw[if_pos (by rfl)]
 go_simp
 refine (HIX.out _).mono ?_
 rintro e V2 ⟨rfl,hbvV2⟩
 have hBV2:Below U.heap.size U V2:=hBV1.trans (hbvV2.mono hBV1.size)
 have hSd:=HS.out _ hBV2
 refine hK.out _ _ hSd ?_
 clear hK
 try simp only[Act.put]
 refine takeQ 8 ?vv7 (some 14) [] ?yy7 hSd ?rr7
 case yy7=>(intro wq hSq;obtain ⟨_,_,_,_,_,_,_,_,_,_,_⟩:=hSq;go_simp<;>with_reducible rfl)
 simp only[Act.put,List.setIfInBounds_toArray,List.set_cons_succ,List.set_cons_zero]
 refine takeQ 9 ?vv8 (some 15) [] ?yy8 hSd ?rr8
 case yy8=>(intro wq hSq;obtain ⟨_,_,_,_,_,_,_,_,_,_,_⟩:=hSq;go_simp<;>with_reducible rfl)
 simp only[Act.put,List.setIfInBounds_toArray,List.set_cons_succ,List.set_cons_zero]
 refine z9gO (o:=_) (by kernel_rfl) rfl (fun K' hK=>?_)
 have g:=(hBV2.block _ hl2).trans n2
 obtain ⟨z0,z1,z2⟩:=z5EY (b:=V.heap.size+1) g
 have f0:=Lib.frozen_of_heap (b:=V.heap.size+1) g 0
 have f1:=Lib.frozen_of_heap (b:=V.heap.size+1) g 1
 have f2:=Lib.frozen_of_heap (b:=V.heap.size+1) g 2
 rw[if_pos (by rfl)]
 go_simp
 refine hK.out _ _ ?_
 clear hK
 refine jFdp (by kernel_rfl) ?_ _
 try simp only[Act.put]
 clear hSd
 have HF:=hide (zHqh (HB.out.trans (hBV2.mono HB.out.size)) (show V.heap.size≤V.heap.size+1 by omega) (.int .i64 P.1) (.int .i64 P.2.1) (.int .i64 P.2.2))
 go_wp2
 exact bodyPost_ret (v:=.agg #[.int .i64 P.1,.int .i64 P.2.1,.int .i64 P.2.2]) (by simp[results,Tryz.results61,go_sem,z0,z1,z2]) rfl ⟨rfl,HF.out⟩
end Go.Proofs.YtfjeonehdlphiaaGreatDoor

namespace Go.Proofs.YtfjeonehdlphiaaGreatDoor
set_option linter.unusedVariables false
open Go.RowKit
def turnE (W H:Int) (ps:List Px) (how:Int):Int:=if picOk W H ps=true then howE how else 1
theorem jxQZ {how:Int} (h:howOk how=true):∃k:Nat,k<8∧how=(k:Int)+1∧mvOf how=mvAt k:=by
 have hh:1≤how∧how≤8:=by simpa [howOk] using h
 refine ⟨how.toNat-1,by omega,by omega,by rw[mvOf,if_pos h]⟩
theorem qkkF {m:Mv} {W H:Nat} (hW:W≤64) (hH:H≤64):qpi8 m W H≤64:=by unfold qpi8;split<;>assumption
set_option maxRecDepth 100000 in
set_option maxHeartbeats 3200000 in
theorem Xycd (W H:Int) (v:Value) (ps:List Px) (how:Int) (w:World) (hm:zR7W w) (hv:IsPix w v ps) :
  Calls Tryz.prog 18 #[.agg #[.int .i64 W,.int .i64 H,v],.int .i64 how] w fun e w'=>∃r,e=.returned (.tuple #[.agg #[.int .i64 (okW (turnE W H ps how) (qPp5 (mvOf how) W H)),.int .i64 (okW (turnE W H ps how) (qPp5 (mvOf how) H W)),r],.int .i64 (turnE W H ps how)])∧IsPix w' r (okL (turnE W H ps how) (turnL W.toNat H.toNat ps (mvOf how)))∧Below w.heap.size w w'∧Fresh w.heap.size r:=by
 have HM:=hide hm
 have HV:=hide hv
 obtain ⟨ao,ca,rfl,hla,hc⟩:=hv
 clear hm
 obtain ⟨a1,a2⟩:=al2 w (Obj.cells #[.int .i64 W,.int .i64 H,.slice ao ps.length ca] 24) (Obj.cells #[.int .i64 0,.int .i64 0,.slice none 0 0] 24)
 have HB:=hide (be2 w (Obj.cells #[.int .i64 W,.int .i64 H,.slice ao ps.length ca] 24) (Obj.cells #[.int .i64 0,.int .i64 0,.slice none 0 0] 24))
 have HTE:=hide (show turnE W H ps how=if picOk W H ps=true then howE how else 1 from rfl)
 obtain ⟨E,hE⟩:∃E,turnE W H ps how=E:=⟨_,rfl⟩
 rw[hE] at HTE ⊢
 clear hE
 obtain ⟨M,hMV⟩:∃M,mvOf how=M:=⟨_,rfl⟩
 rw[hMV]
 have HMV:=hide hMV
 clear hMV
 have hl1:=(Array.getElem?_eq_some_iff.1 a1).1
 have hl2:=(Array.getElem?_eq_some_iff.1 a2).1
 have ERR:∀(V:World) (E:Int),E≠0→Below w.heap.size w V→∃r,(Ending.returned (.tuple #[.agg #[.int .i64 0,.int .i64 0,.slice none 0 0],.int .i64 E])=.returned (.tuple #[.agg #[.int .i64 (okW E (qPp5 (M) W H)),.int .i64 (okW E (qPp5 (M) H W)),r],.int .i64 E]))∧IsPix V r (okL E (turnL W.toNat H.toNat ps (M)))∧Below w.heap.size w V∧Fresh w.heap.size r:=fun V E hE hB=>by
  refine ⟨.slice none 0 0,?_,?_,hB,Fresh.nil _⟩
  ·rw[okW,if_neg hE,okW,if_neg hE]
  ·rw[okL,if_neg hE];exact IsPix.nil _
 have HERR:=hide ERR
 clear ERR
 go_enter Tryz.func18,Tryz.ntmps18
 obtain ⟨p0,p1,p2⟩:=z5EY a1
 go_wp2_with fail
 clear p0 p1 p2
 generalize (w.alloc (Obj.cells #[.int .i64 W,.int .i64 H,.slice ao ps.length ca] 24)).alloc (Obj.cells #[.int .i64 0,.int .i64 0,.slice none 0 0] 24)=U at *
 refine (XDTU W H _ ps _ (HV.out.below HB.out (Nat.le_refl _))).mono ?_
 rintro e V1 ⟨rfl,hb1⟩
 have HB1:=hide (HB.out.trans (hb1.mono HB.out.size))
 by_cases hp:picOk W H ps=true
 case neg =>
  rw[if_neg hp] at HTE
  have hp2:picOk W H ps=false:=by simpa using hp
  obtain rfl:E=1:=HTE.out
  rw[hp2]
  have g:=(hb1.block _ hl2).trans a2
  obtain ⟨z0,z1,z2⟩:=z5EY g
  have f0:=Lib.frozen_of_heap g 0
  have f1:=Lib.frozen_of_heap g 1
  have f2:=Lib.frozen_of_heap g 2
  have HF:=hide (zHqh HB1.out (show w.heap.size≤w.heap.size+1 by omega) (.int .i64 0) (.int .i64 0) (.slice none 0 0))
  go_wp2
  exact bodyPost_ret (v:=.tuple #[.agg #[.int .i64 0,.int .i64 0,.slice none 0 0],.int .i64 1]) (by simp[results,Tryz.results18,go_sem,z0,z1,z2]) rfl (HERR.out _ 1 (by decide) HF.out)
 rw[if_pos hp] at HTE
 rw[hp]
 obtain ⟨hg1,hg2,hg3,hg4⟩:=XMjn hp
 go_wp2_with fail
 by_cases hk:howOk how=true
 case neg =>
  have hk2:howOk how=false:=by simpa using hk
  obtain rfl:E=3:=by rw[HTE.out,howE,if_neg hk]
  refine (qUbR how hk2 V1).mono ?_
  rintro e V2 ⟨rfl,hb2⟩
  have hb2':=quJN (quJN hb1 hb2) (qUNz V2 (Obj.cells #[.bool false,.bool false,.bool false] 119))
  have g:=(hb2'.block _ hl2).trans a2
  obtain ⟨z0,z1,z2⟩:=z5EY g
  have f0:=Lib.frozen_of_heap g 0
  have f1:=Lib.frozen_of_heap g 1
  have f2:=Lib.frozen_of_heap g 2
  have HF:=hide (zHqh (HB.out.trans (hb2'.mono HB.out.size)) (show w.heap.size≤w.heap.size+1 by omega) (.int .i64 0) (.int .i64 0) (.slice none 0 0))
  go_wp2
  exact bodyPost_ret (v:=.tuple #[.agg #[.int .i64 0,.int .i64 0,.slice none 0 0],.int .i64 3]) (by simp[results,Tryz.results18,go_sem,z0,z1,z2]) rfl (HERR.out _ 3 (by decide) HF.out)
 obtain rfl:E=0:=by rw[HTE.out,howE,if_pos hk]
 obtain ⟨k,hk8,rfl,hmv⟩:=jxQZ hk
 have hMk:=hmv.symm.trans HMV.out
 obtain ⟨WN,rfl⟩:=Int.eq_ofNat_of_zero_le (show 0≤W by omega)
 obtain ⟨HN,rfl⟩:=Int.eq_ofNat_of_zero_le (show 0≤H by omega)
 have hlen:ps.length=HN*WN:=by rw[Nat.mul_comm];exact_mod_cast hg3
 have hW64:WN≤64:=by omega
 have hH64:HN≤64:=by omega
 have hpos:1≤ps.length:=by rw[hlen];exact Nat.mul_le_mul (show 1≤HN by omega) (show 1≤WN by omega)
 have HLEN:=hide hlen
 clear hg1 hg2 hg3 hg4 hlen HERR HTE hk hp hmv
 refine (qq5i k hk8 V1 (HM.out.below HB1.out (Nat.le_refl _))).mono ?_
 rintro e V2 ⟨rfl,hb2⟩
 rw[hMk]
 clear hMk HMV
 obtain ⟨x,y,z⟩:=M
 have b1:=al2 V2 (Obj.cells #[.bool x,.bool y,.bool z] 119) (Obj.cells #[.int .i64 (WN:Int),.int .i64 (HN:Int)] 95)
 have HB2:=quJN (quJN hb1 hb2) (be2 V2 (Obj.cells #[.bool x,.bool y,.bool z] 119) (Obj.cells #[.int .i64 (WN:Int),.int .i64 (HN:Int)] 95))
 obtain ⟨p0,p1,p2⟩:=z5EY (((quJN (quJN hb1 hb2) (qUNz V2 (Obj.cells #[.bool x,.bool y,.bool z] 119))).block _ hl1).trans a1)
 go_wp2_with fail
 clear p0 p1 p2
 obtain ⟨c1,c2⟩:=b1
 have hlc1:=(Array.getElem?_eq_some_iff.1 c1).1
 have hlc2:=(Array.getElem?_eq_some_iff.1 c2).1
 have hV2:=(quJN hb1 hb2).size
 generalize (V2.alloc (Obj.cells #[.bool x,.bool y,.bool z] 119)).alloc (Obj.cells #[.int .i64 (WN:Int),.int .i64 (HN:Int)] 95)=X at *
 generalize V2.heap.size=MB at *
 have HBX:=hide (HB.out.trans (HB2.mono HB.out.size))
 refine (zPoh (x,y,z) WN HN X).mono ?_
 rintro e V3 ⟨rfl,hb3⟩
 rw[zk50,zk50]
 go_wp2_with fail
 have hVX:=quJN HB2 hb3
 refine (XMhx (qpi8 (x,y,z) WN HN) (qpi8 (x,y,z) HN WN) (qpi8 (x,y,z) HN WN*qpi8 (x,y,z) WN HN) (qkkF hW64 hH64) (qkkF hH64 hW64) rfl 61 _ (turnP ps WN HN (x,y,z)) V3 (enters_of Tryz.func61 (by kernel_rfl) rfl) ?_).mono ?_
 ·intro j V hj hV
  have hT:0<qpi8 (x,y,z) WN HN:=by
   rcases Nat.eq_zero_or_pos (qpi8 (x,y,z) WN HN) with h0|h0
   ·rw[h0] at hj;simp at hj
   ·exact h0
  have hXV:=quJN hb3 hV
  have hUV:=quJN HB2 hXV
  have hwV:=HB.out.trans (hUV.mono HB.out.size)
  have g1:=(hUV.block _ hl1).trans a1
  have g2:=(hXV.block _ hlc1).trans c1
  have g3:=(hXV.block _ hlc2).trans c2
  have hs:=hXV.size
  have hs2:=hwV.size
  obtain ⟨bk,off,hao,hbl,hcell⟩:∃b off,ao=some ⟨b,off,none⟩∧b<w.heap.size∧∀j (h:j<ps.length),w.cell? ⟨b,off+j*3,none⟩=some (.int .i64 ps[j].1)∧w.cell? ⟨b,off+j*3+1,none⟩=some (.int .i64 ps[j].2.1)∧w.cell? ⟨b,off+j*3+2,none⟩=some (.int .i64 ps[j].2.2):=by
   rcases hc with h|h
   ·rw[h] at hpos;simp at hpos
   ·exact h
  subst hao
  obtain ⟨q0,q1,q2⟩:=z5EY g1
  obtain ⟨r0,r1,r2⟩:=z5EY g2
  refine XbU0 WN HN (j % qpi8 (x,y,z) WN HN) (j / qpi8 (x,y,z) WN HN) hW64 hH64 (x,y,z) (Nat.mod_lt _ hT) (Nat.div_lt_of_lt_mul (by rw[Nat.mul_comm];exact hj)) ps HLEN.out bk off ca w.heap.size (MB+1) MB V (by omega) (by omega) (by omega) (by omega) q2 (by rw[Lib.cell_of_heap g3];rfl) (by rw[Lib.cell_of_heap g3];rfl) r0 r1 r2 (fun i hi=>?_)
  obtain ⟨e0,e1,e2⟩:=hcell i hi
  rw[jD3W ps i hi] at e0 e1 e2
  exact ⟨(hwV.cell (p:=⟨bk,off+i*3,none⟩) hbl).trans e0,(hwV.cell (p:=⟨bk,off+i*3+1,none⟩) hbl).trans e1,(hwV.cell (p:=⟨bk,off+i*3+2,none⟩) hbl).trans e2⟩
 ·rintro e V4 ⟨r,rfl,hr,hb4,hfr⟩
  have HR:=hide hr
  obtain ⟨ro,rc,rfl,x1,x2⟩:=hr
  clear x1 x2
  rw[List.length_map,List.length_range] at HR hfr ⊢
  have hB4:=quJN hVX hb4
  have g:=(hB4.block _ hl2).trans a2
  obtain ⟨z0,z1,z2⟩:=z5EY g
  have f0:=Lib.frozen_of_heap g 0
  have f1:=Lib.frozen_of_heap g 1
  have f2:=Lib.frozen_of_heap g 2
  have hs3:=hVX.size
  have HX:=hide (HR.out.set3 hfr (show w.heap.size+1<V3.heap.size by omega) (.int .i64 ((qpi8 (x,y,z) WN HN:Nat):Int)) (.int .i64 ((qpi8 (x,y,z) HN WN:Nat):Int)) (.slice ro (qpi8 (x,y,z) HN WN*qpi8 (x,y,z) WN HN) rc))
  have HF:=hide (zHqh (HB.out.trans (hB4.mono HB.out.size)) (show w.heap.size≤w.heap.size+1 by omega) (.int .i64 ((qpi8 (x,y,z) WN HN:Nat):Int)) (.int .i64 ((qpi8 (x,y,z) HN WN:Nat):Int)) (.slice ro (qpi8 (x,y,z) HN WN*qpi8 (x,y,z) WN HN) rc))
  have HFR:=hide (hfr.mono (show w.heap.size≤V3.heap.size by have:=HB.out.size;omega))
  go_wp2
  refine bodyPost_ret (v:=.tuple #[.agg #[.int .i64 ((qpi8 (x,y,z) WN HN:Nat):Int),.int .i64 ((qpi8 (x,y,z) HN WN:Nat):Int),(.slice ro (qpi8 (x,y,z) HN WN*qpi8 (x,y,z) WN HN) rc)],.int .i64 0]) (by simp[results,Tryz.results18,go_sem,z0,z1,z2]) rfl ⟨_,?_,HX.out,HF.out,HFR.out⟩
  rw[zk50,zk50]
  rfl
end Go.Proofs.YtfjeonehdlphiaaGreatDoor

namespace Go.Proofs.YtfjeonehdlphiaaGreatDoor
set_option linter.unusedVariables false
open Go.RowKit
set_option maxRecDepth 100000 in
set_option maxHeartbeats 6400000 in
theorem jRbr (s:List UInt8) (hs:s.length≤140737488355328) (r:RawF) (hrd:rawRd s=some r) (hpe:XDWf r=0) (rows how W H:Int) (zs:List Int) (deep:Bool) (L:List Px) (TW TH:Int) (TL:List Px) (hW:XH9X r=W) (hH:zq73 r=H) (hZ:zcNm r=zs)
  (hS:XSDS r.plan W H zs rows=0) (hL:X1qP r.plan W H zs rows=L) (hT:turnE W H L how=0) (hTW:qPp5 (mvOf how) W H=TW) (hTH:qPp5 (mvOf how) H W=TH) (hTL:turnL W.toNat H.toNat L (mvOf how)=TL) (hK:picOk TW TH TL=true) (w:World) (hm:zR7W w) (hp:PowAt w) :
  Calls Tryz.prog 15 #[.string (str s),.agg #[.int .i64 rows,.int .i64 0,.int .i64 0,.int .i64 0,.int .i64 0,.int .i64 how,.bool deep]] w fun e w'=>e=.returned (.tuple #[.string (str (shotB TW TH TL deep)),.int .i64 0])∧Below w.heap.size w w':=by
 have HRD:=hide (fun (u:World)=>jR6l s u hs)
 rw[hrd] at HRD
 have HPL:=hide (fun (lv tv sv cv:Value) (u:World) (hu:IsRaw u r lv tv sv cv)=>XAFS r lv tv sv cv u hu)
 rw[hW,hH,hZ,hpe] at HPL
 have HST:=hide (fun (sv cv v:Value) (u:World) (h1:X1uD u r.plan sv cv) (h2:jCvT u v zs) (h3:roomy v)=>Xmrs r.plan sv cv W H v zs rows u h1 h2 h3)
 rw[hS,hL] at HST
 have HTU:=hide (fun (v:Value) (u:World) (hu:Below w.heap.size w u) (hv:IsPix u v L)=>Xycd W H v L how u (hm.below hu (Nat.le_refl _)) hv)
 rw[hT,hTW,hTH,hTL] at HTU
 have HWR:=hide (fun (v:Value) (u:World) (hu:Below w.heap.size w u) (hv:IsPix u v TL)=>zPEb TW TH v TL deep u (hp.below hu (Nat.le_refl _)) hv)
 rw[show wrE TW TH TL=0 from if_pos hK,show wrS TW TH TL deep=shotB TW TH TL deep from if_pos hK] at HWR
 clear hrd hpe hW hH hZ hS hL hT hTW hTH hTL hK hm hp
 have a1:=al1 w (Obj.cells #[.int .i64 rows,.int .i64 0,.int .i64 0,.int .i64 0,.int .i64 0,.int .i64 how,.bool deep] 40)
 have HB:=hide (qUNz w (Obj.cells #[.int .i64 rows,.int .i64 0,.int .i64 0,.int .i64 0,.int .i64 0,.int .i64 how,.bool deep] 40))
 have hl1:=(Array.getElem?_eq_some_iff.1 a1).1
 have HCE:=hide (fun (v:World) (hv:Below w.heap.size w v→True) (h:v.heap[w.heap.size]?=some (.cells #[.int .i64 rows,.int .i64 0,.int .i64 0,.int .i64 0,.int .i64 0,.int .i64 how,.bool deep] 40 (0,0)))=>(show v.cell? ⟨w.heap.size,0,none⟩=some (.int .i64 rows)∧v.cell? ⟨w.heap.size,1,none⟩=some (.int .i64 0)∧v.cell? ⟨w.heap.size,2,none⟩=some (.int .i64 0)∧v.cell? ⟨w.heap.size,3,none⟩=some (.int .i64 0)∧v.cell? ⟨w.heap.size,4,none⟩=some (.int .i64 0)∧v.cell? ⟨w.heap.size,5,none⟩=some (.int .i64 how)∧v.cell? ⟨w.heap.size,6,none⟩=some (.bool deep) from ⟨by rw[Lib.cell_of_heap h];rfl,by rw[Lib.cell_of_heap h];rfl,by rw[Lib.cell_of_heap h];rfl,by rw[Lib.cell_of_heap h];rfl,by rw[Lib.cell_of_heap h];rfl,by rw[Lib.cell_of_heap h];rfl,by rw[Lib.cell_of_heap h];rfl⟩))
 go_enter Tryz.func15,Tryz.ntmps15
 go_wp2_with fail
 generalize w.alloc (Obj.cells #[.int .i64 rows,.int .i64 0,.int .i64 0,.int .i64 0,.int .i64 0,.int .i64 how,.bool deep] 40)=U at *
 refine (HRD.out U).mono ?_
 clear HRD
 rintro e V1 ⟨hb1,hc⟩
 rcases hc with ⟨r',lv,tv,sv,cv,hrd,rfl,hI,hx1,hx2,hx3,hx4⟩|⟨hrd,_⟩
 rotate_left
 ·cases hrd
 cases hrd
 clear hx1 hx2 hx3 hx4
 have HPC:=hide (show ∀j u,(planA r.plan sv cv).toList[j]?=some u→(rawA r lv tv sv cv).toList[7+j]?=some u from fun j u h=>by rw[Nat.add_comm];exact h)
 obtain ⟨RX,hRX⟩:∃RX,rawA r lv tv sv cv=RX:=⟨_,rfl⟩
 have iRX:(Tryz.prog.info? 57).map (·.size)=some RX.size:=by rw[←hRX];kernel_rfl
 have jRX:(rawZ:Array Value).size=RX.size:=by rw[←hRX];rfl
 have oRX:RX.all (·.oneCell')=true:=by rw[←hRX];exact XIRQ hI
 have zRX:=al1 V1 (Obj.cells rawZ 57)
 have cRX:=setRow_heap _ _ _ RX _ _ zRX
 have XRX:=hide (below_setRow (g:=V1.heap.size) (qUNz V1 (Obj.cells rawZ 57)) (Nat.le_refl _) RX)
 have HRX:=hide hRX
 have hb2:=quJN hb1 XRX.out
 have HIX:=hide (hI.below XRX.out (Nat.le_refl _))
 have HPQ:=hide (HPL.out lv tv sv cv)
 rw[hRX] at HPQ HPC ⊢
 clear hRX hI hb1 XRX HPL
 go_upto_region 4 with (refine wpList_store_row rfl 57 _ _ rfl V1.heap.size RX rfl rfl _ _ zRX iRX jRX oRX ?_)
 clear zRX
 generalize (V1.alloc (Obj.cells rawZ 57)).setRow V1.heap.size RX=U1 at *
 generalize V1.heap.size=XB at *
 have lx:=(Array.getElem?_eq_some_iff.1 cRX).1
 go_wp2_with (refine wpList_load_row rfl 57 _ rfl _ rfl _ _ _ _ cRX Tryz.underlying57 rfl iRX ?_)
 refine (HPQ.out U1 HIX.out).mono ?_
 clear HPQ
 rintro e V2 ⟨pv,rfl,hpi,hb3,hfp⟩
 have HRM:=hide hfp.2
 have HPI:=hide hpi
 obtain ⟨po,pc,rfl,hx1,hx2⟩:=hpi
 clear hx1 hx2 hfp
 have p1:=al1 V2 (Obj.cells #[.int .i64 W,.int .i64 H,.slice po zs.length pc] 54)
 have hb4:=quJN hb3 (qUNz V2 (Obj.cells #[.int .i64 W,.int .i64 H,.slice po zs.length pc] 54))
 have HPI2:=hide (HPI.out.alloc (Obj.cells #[.int .i64 W,.int .i64 H,.slice po zs.length pc] 54))
 have HPN:=hide ((HIX.out.below hb4 (Nat.le_refl _)).plan)
 have hbb:=quJN hb2 hb4
 have g1:=(hbb.block _ hl1).trans a1
 obtain ⟨c0,c1,c2,c3,c4,c5,c6⟩:=HCE.out _ (fun _=>trivial) g1
 have d1:=(hb4.block _ lx).trans cRX
 have HTT:=hide (show ∀j u,(planA r.plan sv cv).toList[j]?=some u→(V2.alloc (Obj.cells #[.int .i64 W,.int .i64 H,.slice po zs.length pc] 54)).cell? ⟨XB,7+j,none⟩=some u from fun j u h=>by
  rw[Lib.cell_of_heap d1]
  have:=HPC.out j u h
  simpa using this)
 obtain ⟨p0',p1',p2'⟩:=z5EY p1
 clear hb3 HPI cRX d1 HPC
 go_wp2_with (refine XiYX rfl 51 _ rfl _ 7 rfl (planA r.plan sv cv) _ HTT.out Tryz.underlying51 rfl (by kernel_rfl) ?_)
 clear p0' p1' p2' c0 c1 c2 c3 c4 c5 c6 HTT
 generalize V2.alloc (Obj.cells #[.int .i64 W,.int .i64 H,.slice po zs.length pc] 54)=U2 at *
 refine (HST.out sv cv _ U2 HPN.out HPI2.out HRM.out).mono ?_
 clear HST
 rintro e V3 ⟨qv,rfl,hq,hb5,hfq⟩
 rw[show okW 0 W=W from rfl,show okW 0 H=H from rfl]
 rw[show okL 0 L=L from rfl] at hq
 have HQ:=hide hq
 obtain ⟨qo,qc,rfl,hx1,hx2⟩:=hq
 clear hx1 hx2
 obtain ⟨N1,hN1⟩:∃N,L.length=N:=⟨_,rfl⟩
 rw[hN1] at HQ hfq ⊢
 clear hN1
 have t1:=al1 V3 (Obj.cells #[.int .i64 W,.int .i64 H,.slice qo N1 qc] 24)
 have hb6:=quJN hb5 (qUNz V3 (Obj.cells #[.int .i64 W,.int .i64 H,.slice qo N1 qc] 24))
 have HQ2:=hide (HQ.out.alloc (Obj.cells #[.int .i64 W,.int .i64 H,.slice qo N1 qc] 24))
 replace hbb:=quJN hbb hb6
 replace g1:=(hbb.block _ hl1).trans a1
 obtain ⟨c0,c1,c2,c3,c4,c5,c6⟩:=HCE.out _ (fun _=>trivial) g1
 obtain ⟨q0,q1,q2⟩:=z5EY t1
 have l3:=(Array.getElem?_eq_some_iff.1 t1).1
 have HBX:=hide (quJN HB.out hbb)
 have HV3:=hide (show w.heap.size<V3.heap.size from Nat.lt_of_lt_of_le hl1 (Nat.le_trans (quJN hb2 hb4).size hb5.size))
 clear hb5 HQ
 go_wp2_with fail
 clear c0 c1 c2 c3 c4 c5 c6 q0 q1 q2
 generalize V3.alloc (Obj.cells #[.int .i64 W,.int .i64 H,.slice qo N1 qc] 24)=U3 at *
 refine (HTU.out _ U3 HBX.out HQ2.out).mono ?_
 clear HTU
 rintro e V4 ⟨tq,rfl,ht,hb7,hft⟩
 rw[show okW 0 TW=TW from rfl,show okW 0 TH=TH from rfl]
 rw[show okL 0 TL=TL from rfl] at ht
 have HT:=hide ht
 obtain ⟨uo,uc,rfl,hx1,hx2⟩:=ht
 clear hx1 hx2
 obtain ⟨N2,hN2⟩:∃N,TL.length=N:=⟨_,rfl⟩
 rw[hN2] at HT hft ⊢
 clear hN2
 have k1:=(hb7.block _ l3).trans t1
 obtain ⟨z0,z1,z2⟩:=z5EY k1
 have f0:=Lib.frozen_of_heap k1 0
 have f1:=Lib.frozen_of_heap k1 1
 have f2:=Lib.frozen_of_heap k1 2
 have HTS:=hide (HT.out.set3 hft l3 (.int .i64 TW) (.int .i64 TH) (.slice uo N2 uc))
 obtain ⟨y1,y2,y3,y4⟩:=X0Wz k1 (.int .i64 TW) (.int .i64 TH) (.slice uo N2 uc) w (Nat.le_of_lt HV3.out) (quJN HBX.out hb7)
 have lg1:=(Array.getElem?_eq_some_iff.1 g1).1
 have hne:w.heap.size≠V3.heap.size:=by have:=HV3.out;omega
 have g2:=(y2 w.heap.size hne).trans ((hb7.block _ lg1).trans g1)
 go_upto_region 17 with fail
 clear z0 z1 z2 f0 f1 f2 y2 y3
 generalize ((V4.setCell ⟨V3.heap.size,0,none⟩ (.int .i64 TW)).setCell ⟨V3.heap.size,1,none⟩ (.int .i64 TH)).setCell ⟨V3.heap.size,2,none⟩ (.slice uo N2 uc)=X9 at *
 obtain ⟨c0,c1,c2,c3,c4,c5,c6⟩:=HCE.out _ (fun _=>trivial) g2
 obtain ⟨q0,q1,q2⟩:=z5EY y1
 go_wp2_with fail
 refine (HWR.out _ X9 y4 HTS.out).mono ?_
 rintro e V5 ⟨rfl,hb8⟩
 have HBF:=hide (quJN y4 hb8)
 clear c0 c1 c2 c3 c4 c5 c6 q0 q1 q2 y4 hb8
 go_wp2
 go_ret2
 exact ⟨rfl,HBF.out⟩
end Go.Proofs.YtfjeonehdlphiaaGreatDoor

namespace Go.Proofs.YtfjeonehdlphiaaGreatDoor
set_option linter.unusedVariables false
open Go.RowKit
def parN (r:RawF) (k:Nat):Nat:=k*r.rows.toNat*r.w.toNat
def parL (r:RawF) (zs:List Int) (k:Nat):List Int:=(zs.drop (parN r k)).take (rowN r k*r.w).toNat
def fiOk (r:RawF) (zs:List Int) (k:Nat):Bool:=(List.range k).all fun i=>decide (wsE r (parL r zs i) (rowN r i)=0)
def fiS (r:RawF) (zs:List Int) (k:Nat):List (List UInt8):=(List.range k).map fun i=>wsS r (parL r zs i) (rowN r i)
theorem qTWu (r:RawF) (zs:List Int) (k:Nat):fiOk r zs (k+1)=(fiOk r zs k && decide (wsE r (parL r zs k) (rowN r k)=0)):=by simp[fiOk,List.range_succ]
theorem XZj5 (r:RawF) (zs:List Int) (k:Nat):fiS r zs (k+1)=fiS r zs k++[wsS r (parL r zs k) (rowN r k)]:=by simp[fiS,List.range_succ]
theorem X9zO {r:RawF} {zs:List Int} {k n:Nat} (h:k<n) (hk:wsE r (parL r zs k) (rowN r k)≠0):fiOk r zs n=false:=by
 rw[Bool.eq_false_iff];intro he
 have:=List.all_eq_true.1 he k (List.mem_range.2 h)
 exact hk (by simpa using this)
def fitP (r:RawF) (PW PH:Int) (zs:List Int):Bool:=q0fM PW PH zs && decide (PW=r.w) && decide (PH=r.h) && jgbG r.depth zs
def XQ5R (r:RawF) (PW PH:Int) (zs:List Int):Int:=if headE r=0 then (if pErr r=0 then (if fitP r PW PH zs=true then (if fiOk r zs (cntN r)=true then 0 else 4) else 1) else pErr r) else headE r
def qtvI (r:RawF) (zs:List Int):RawF:={ r with strips:=fiS r zs (cntN r) }
theorem jXie {r:RawF} (h:Head r) (k:Nat):(parN r k:Int)=k*r.rows*r.w:=by
 have h1:=h.rows
 have h2:=h.w
 unfold parN
 rw[Int.natCast_mul,Int.natCast_mul,Int.toNat_of_nonneg (by omega),Int.toNat_of_nonneg (by omega)]
theorem juYi {r:RawF} (h:Head r) {k:Nat} (hk:k<cntN r):(parN r k:Int)+rowN r k*r.w≤r.h*r.w:=by
 have h2:=h.w
 rw[jXie h,←Int.add_mul]
 exact Int.mul_le_mul_of_nonneg_right (by unfold rowN;omega) (by omega)
theorem XH7K {r:RawF} (h:Head r) {k:Nat} (hk:k+1<cntN r):rowN r k=r.rows:=by
 have h1:=(h.cnt_pos (k+1)).1 hk
 have e:((k+1:Nat):Int)*r.rows=k*r.rows+r.rows:=by rw[Int.natCast_add,Int.add_mul];simp
 unfold rowN
 omega
theorem q4pj {r:RawF} (h:Head r) {k:Nat} (hk:k+1<cntN r):(parN r (k+1):Int)=parN r k+rowN r k*r.w:=by
 rw[jXie h,jXie h,XH7K h hk,←Int.add_mul,Int.natCast_add,Int.add_mul]
 simp
theorem XBlq {r:RawF} (h:Head r) {k:Nat} (hk:k<cntN r) {zs:List Int} (hz:(zs.length:Int)=r.w*r.h):((parL r zs k).length:Int)=rowN r k*r.w:=by
 have h1:=juYi h hk
 have h2:=h.size hk
 rw[Int.mul_comm r.w] at hz
 unfold parL
 rw[List.length_take,List.length_drop]
 omega
theorem Xeu9 {r:RawF} {zs:List Int} {k:Nat} {z:Int} (h:z∈parL r zs k):z∈zs:=List.mem_of_mem_drop (List.mem_of_mem_take h)
theorem ws_err {r:RawF} (h:Head r) {k:Nat} (hk:k<cntN r) {PW PH:Int} {zs:List Int} (hf:fitP r PW PH zs=true):wsE r (parL r zs k) (rowN r k)=0∨wsE r (parL r zs k) (rowN r k)=4:=by
 simp only[fitP,Bool.and_eq_true,decide_eq_true_eq] at hf
 obtain ⟨⟨⟨hp,rfl⟩,rfl⟩,hd⟩:=hf
 simp only[q0fM,Bool.and_eq_true,decide_eq_true_eq] at hp
 have hl:=XBlq h hk hp.1.2
 obtain ⟨s1,s2⟩:=h.size hk
 obtain ⟨r1,r2⟩:=h.row hk
 have hw:=h.w
 have hdp:=h.depth
 unfold wsE
 by_cases hz:r.kind=0
 ·rw[if_pos hz,packE,if_pos (by rw[XSys,decide_eq_true_eq];exact hdp),if_pos (by omega),if_pos]
  ·exact .inl rfl
  ·refine List.all_eq_true.2 fun z hm=>?_
   have:=List.all_eq_true.1 hd z (Xeu9 hm)
   simp only[decide_eq_true_eq] at this
   simp only[numOk,decide_eq_true_eq]
   omega
 ·rw[if_neg hz,X2rK,if_pos,if_pos (by have:=h.kind;rw[qkcw,decide_eq_true_eq];omega),if_pos (h.code hz)]
  ·split
   ·exact .inl rfl
   ·exact .inr rfl
  ·simp only[q0fM,Bool.and_eq_true,decide_eq_true_eq,jbTy]
   refine ⟨⟨⟨hw,r1,r2⟩,by rw[hl,Int.mul_comm]⟩,List.all_eq_true.2 fun z hm=>List.all_eq_true.1 hp.2 z (Xeu9 hm)⟩
end Go.Proofs.YtfjeonehdlphiaaGreatDoor

namespace Go.Proofs.YtfjeonehdlphiaaGreatDoor
set_option linter.unusedVariables false
open Go.RowKit
def nrmP (n:Plan):Plan:=⟨n.phase,ix (zDfR n),n.white,n.spots,ix (jgEL n),ix (matL n),n.curve,n.amount⟩
def nrm (r:RawF):RawF:={ r with plan:=nrmP r.plan }
theorem zUAc (n:Plan):planE (nrmP n)=planE n:=by
 have e1:arrL (nrmP n).black 4=arrL n.black 4:=rfl
 have e2:arrL (nrmP n).gains 3=arrL n.gains 3:=rfl
 have e3:nineL (nrmP n).matrix=nineL n.matrix:=rfl
 simp only[planE,zU8n,jmgp,q0Sl,zN6Q,j1E7,matOk,e1,e2,e3]
 rfl
theorem q7oc (r:RawF):XDWf (nrm r)=XDWf r:=by
 have e1:headE (nrm r)=headE r:=rfl
 have e2:pErr (nrm r)=pErr r:=by
  unfold pErr
  rw[show (nrm r).plan=nrmP r.plan from rfl,zUAc]
  rfl
 have e3:stOk (nrm r) (nrm r).strips.length=stOk r r.strips.length:=rfl
 unfold XDWf
 rw[e1,e2,e3]
 rfl
structure Fits (n:Plan):Prop where
 phase:in32 n.phase
 black:∀x∈zDfR n,in32 x
 white:in32 n.white
 spots:∀p∈n.spots,in32 p.1∧in32 p.2
 gains:∀x∈jgEL n,in32 x
 matrix:∀x∈matL n,in32 x
 curve:∀p∈n.curve,in32 p.1∧in32 p.2
 amount:in32 n.amount
 many:n.spots.length≤64
 points:n.curve.length≤16
theorem zpo0 {n:Plan} (h:planE n=0):Fits n:=by
 obtain ⟨h1,h2,h3,h4,h5,h6,h7,h8⟩:=qwVl h
 have hc:=zqz3 h8
 have hl:=qcx1 h8
 simp only[zN6Q,Bool.and_eq_true,decide_eq_true_eq] at h2
 have hb:=fun k hk=>XL98 h2.2 k hk
 have hg:=fun k hk=>XL98 h3 k hk
 have hm:=fun k hk=>XiDe h4 k hk
 simp only[qdne,decide_eq_true_eq] at h1
 simp only[XbQH,decide_eq_true_eq] at h5
 refine ⟨?_,?_,?_,?_,?_,?_,?_,?_,by omega,by omega⟩
 ·unfold in32;omega
 ·intro x hx
  have b0:=hb 0 (by omega)
  have b1:=hb 1 (by omega)
  have b2:=hb 2 (by omega)
  have b3:=hb 3 (by omega)
  simp only[zDfR,List.mem_cons,List.not_mem_nil,or_false] at hx
  unfold in32
  rcases hx with rfl|rfl|rfl|rfl<;>omega
 ·unfold in32;omega
 ·intro p hp
  have:=List.all_eq_true.1 h7 p hp
  simp only[hasB,decide_eq_true_eq] at this
  unfold in32
  omega
 ·intro x hx
  have b0:=hg 0 (by omega)
  have b1:=hg 1 (by omega)
  have b2:=hg 2 (by omega)
  simp only[jgEL,List.mem_cons,List.not_mem_nil,or_false] at hx
  unfold in32
  rcases hx with rfl|rfl|rfl<;>omega
 ·intro x hx
  have b0:=hm 0 (by omega)
  have b1:=hm 1 (by omega)
  have b2:=hm 2 (by omega)
  have b3:=hm 3 (by omega)
  have b4:=hm 4 (by omega)
  have b5:=hm 5 (by omega)
  have b6:=hm 6 (by omega)
  have b7:=hm 7 (by omega)
  have b8:=hm 8 (by omega)
  simp only[matL,List.mem_cons,List.not_mem_nil,or_false] at hx
  unfold in32
  rcases hx with rfl|rfl|rfl|rfl|rfl|rfl|rfl|rfl|rfl<;>omega
 ·intro p hp
  obtain ⟨i,hi,rfl⟩:=List.getElem_of_mem hp
  rw[jU85 _ _ hi]
  have:=hc.x i hi
  simp only[zamz,Bool.and_eq_true] at h8
  have:=(qzFt h8.2 i hi).1
  unfold in32
  omega
 ·unfold in32;omega
theorem z80h {b3 b4:List UInt8→Nat} {n:Plan} (h:Fits n) (h3:∀t,n.spots.length≤b3 (n.spots.flatMap pairW++t)) (h4:∀t,n.curve.length≤b4 (n.curve.flatMap pairW++t)) (t:List UInt8):planP b3 b4 (planW n++t)=some (nrmP n,t):=by
 have hm:=h.many
 have hp:=h.points
 simp only[planW,List.append_assoc]
 rw[planP,qqDw h.phase]
 simp only
 rw[pq2,(zfCg qAdV 4).full (zDfR n) _ ⟨rfl,h.black⟩]
 simp only
 rw[pq3,qqDw h.white]
 simp only
 rw[pq4,jhfc jYsO h.spots (by unfold in32;omega) (h3 _)]
 simp only
 rw[pq5,(zfCg qAdV 3).full (jgEL n) _ ⟨rfl,h.gains⟩]
 simp only
 rw[pq6,(zfCg qAdV 9).full (matL n) _ ⟨rfl,h.matrix⟩]
 simp only
 rw[pq7,jhfc jYsO h.curve (by unfold in32;omega) (h4 _)]
 simp only
 rw[pq8,qqDw h.amount]
 rfl
theorem qTcB {b1 b2 b3 b4:List UInt8→Nat} {r:RawF} (h:Right r) (h1:∀t,r.lens.length≤b1 (r.lens.flatMap num4++t)) (h2:∀t,r.strips.length≤b2 (r.strips.flatMap textW++t)) (h3:∀t,r.plan.spots.length≤b3 (r.plan.spots.flatMap pairW++t)) (h4:∀t,r.plan.curve.length≤b4 (r.plan.curve.flatMap pairW++t)) :
  rawP b1 b2 b3 b4 (rawW r)=some (nrm r):=by
 have hw:=h.head.w
 have hh:=h.head.h
 have hd:=h.head.depth
 have hk:=h.head.kind
 have hr:=h.head.rows
 have hl:=h.lens_le
 have hst:r.strips.length≤64:=by have:=h.many;have:=h.head.cnt_le;omega
 have hsl:=h.strip_le
 have hle:∀x∈r.lens,in32 x:=by
  intro x hx
  have:=h.head.lens
  unfold kindE at this
  split at this
  ·split at this
   ·rename_i h0
    rw[List.eq_nil_of_length_eq_zero h0] at hx
    cases hx
   ·cases this
  ·obtain ⟨_,_,h3,_⟩:=zF8D this
   have:=List.all_eq_true.1 h3 x hx
   simp only[lenOk,decide_eq_true_eq] at this
   unfold in32
   omega
 rw[rawP,rawW,zGqm.full darkL _ (by decide)]
 simp only[headL,List.flatMap_cons,List.flatMap_nil,List.append_nil,List.append_assoc,if_true]
 rw[kq1,qqDw (by unfold in32;omega)]
 simp only
 rw[kq2,qqDw (by unfold in32;omega)]
 simp only
 rw[kq3,qqDw (by unfold in32;omega)]
 simp only
 rw[kq4,qqDw (by unfold in32;omega)]
 simp only
 rw[kq5,qqDw (by unfold in32;omega)]
 simp only
 rw[kq6,jhfc qAdV hle (by unfold in32;omega) (h1 _)]
 simp only
 rw[kq7,jhfc zGqm (fun s hs=>by have:=hsl s hs;unfold in32;omega) (by unfold in32;omega) (h2 _)]
 simp only
 have:=z80h (zpo0 h.plan) h3 h4 []
 rw[List.append_nil] at this
 rw[kq8,this]
 simp only
 rw[kq9,if_pos rfl]
 rfl
theorem qOXu {r:RawF} (h:Right r):rawRd (rawW r)=some (nrm r):=by
 rw[rawRd,qTcB h (fun _=>h.lens_le) (fun _=>by have:=h.many;have:=h.head.cnt_le;omega) (fun _=>(zpo0 h.plan).many) (fun _=>(zpo0 h.plan).points)]
 simp only
 rw[if_pos (by rw[q7oc];exact h.zero)]
end Go.Proofs.YtfjeonehdlphiaaGreatDoor

namespace Go.Proofs.YtfjeonehdlphiaaGreatDoor
set_option linter.unusedVariables false
open Go.RowKit
theorem zkuu {r:RawF} {PW PH:Int} {zs:List Int} (h:fitP r PW PH zs=true):q0fM PW PH zs=true∧PW=r.w∧PH=r.h∧jgbG r.depth zs=true:=by
 simp only[fitP,Bool.and_eq_true,decide_eq_true_eq] at h
 exact ⟨h.1.1.1,h.1.1.2,h.1.2,h.2⟩
theorem qvpy (r:RawF) (zs:List Int) (k:Nat):(fiS r zs k).length=k:=by simp[fiS]
theorem fiS_at (r:RawF) (zs:List Int) {k i:Nat} (h:i<k):(fiS r zs k).getD i []=wsS r (parL r zs i) (rowN r i):=by
 simp[fiS,h]
theorem qAO3 {r:RawF} {zs:List Int} {k n:Nat} (he:fiOk r zs n=true) (h:k<n):wsE r (parL r zs k) (rowN r k)=0:=by
 have:=List.all_eq_true.1 he k (List.mem_range.2 h)
 simpa using this
theorem j4D4 {r:RawF} (h:Head r) {k:Nat} (hk:k<cntN r) {PW PH:Int} {zs:List Int} (hf:fitP r PW PH zs=true) (h0:wsE r (parL r zs k) (rowN r k)=0) :
  stE r (wsS r (parL r zs k) (rowN r k)) (rowN r k)=0∧stZ r (wsS r (parL r zs k) (rowN r k)) (rowN r k)=parL r zs k:=by
 obtain ⟨hp,rfl,rfl,hd⟩:=zkuu hf
 have hl:=XBlq h hk (qwcI hp).2.2.1
 unfold wsE at h0
 unfold wsS
 by_cases hz:r.kind=0
 ·rw[if_pos hz] at h0 ⊢
  obtain ⟨e1,e2⟩:=XGJQ h0
  rw[hl] at e1 e2
  obtain ⟨f1,f2⟩:=XX6a hz (packS (parL r zs k) r.depth) (rowN r k)
  exact ⟨f1.trans e1,f2.trans e2⟩
 ·rw[if_neg hz] at h0 ⊢
  obtain ⟨e1,e2,_,_⟩:=qSeA h0
  have hdp:jgbG r.depth (parL r zs k)=true:=List.all_eq_true.2 fun z hm=>List.all_eq_true.1 hd z (Xeu9 hm)
  have hs:stE r (zivd r.w (rowN r k) (parL r zs k) r.kind r.lens) (rowN r k)=0:=by
   rw[stE,if_neg hz,if_pos e1,e2,if_pos hdp]
  exact ⟨hs,by rw[stZ,if_pos hs,if_neg hz,e2]⟩
theorem zhdP {r:RawF} (h:Head r) {zs:List Int} (hz:(zs.length:Int)=r.w*r.h) (k:Nat) (hk:k≤cntN r):(List.range k).flatMap (fun i=>parL r zs i)=zs.take (if k=cntN r then zs.length else parN r k):=by
 induction k with
 | zero =>
  have:cntN r≠0:=by
   have:=(h.cnt_pos 0).2 (by have:=h.h;simp;omega)
   omega
  rw[if_neg (fun e=>this e.symm)]
  simp[parN]
 | succ k ih =>
  have hk':k<cntN r:=hk
  have ih':=ih (by omega)
  rw[if_neg (by omega)] at ih'
  rw[List.range_succ,List.flatMap_append,ih',List.flatMap_singleton,parL]
  have hle:=juYi h hk'
  have hsz:=h.size hk'
  rw[Int.mul_comm r.w] at hz
  have e:zs.take (parN r k)++(zs.drop (parN r k)).take (rowN r k*r.w).toNat=zs.take (parN r k+(rowN r k*r.w).toNat):=by
   rw[List.take_add]
  rw[e]
  by_cases hc:k+1=cntN r
  ·rw[if_pos hc,List.take_length,List.take_of_length_le]
   have hend:rowN r k=r.h-k*r.rows:=by
    have h1:=(not_congr (h.cnt_pos (k+1))).1 (by omega)
    have e:((k+1:Nat):Int)*r.rows=k*r.rows+r.rows:=by rw[Int.natCast_add,Int.add_mul];simp
    unfold rowN
    omega
   have e2:(parN r k:Int)+rowN r k*r.w=r.h*r.w:=by
    rw[jXie h,hend,←Int.add_mul]
    congr 1
    omega
   omega
  ·rw[if_neg hc]
   have:=q4pj h (show k+1<cntN r by omega)
   congr 1
   omega
theorem z2pS {r:RawF} (h:Head r) (zs:List Int):Head (qtvI r zs):=⟨h.w,h.h,h.depth,h.rows,h.kind,h.lens⟩
theorem q02E {r:RawF} {PW PH:Int} {zs:List Int} (h:XQ5R r PW PH zs=0):Right (qtvI r zs)∧zcNm (qtvI r zs)=zs∧PW=r.w∧PH=r.h∧XH9X (qtvI r zs)=PW∧zq73 (qtvI r zs)=PH:=by
 unfold XQ5R at h
 split at h
 ·rename_i h1
  split at h
  ·rename_i h2
   split at h
   ·rename_i h3
    split at h
    ·rename_i h4
     have hH:=jWRa h1
     obtain ⟨hp,rfl,rfl,hd⟩:=zkuu h3
     have hst:∀k,k<cntN r→stE (qtvI r zs) (stAt (qtvI r zs) k) (rowN (qtvI r zs) k)=0∧stZ (qtvI r zs) (stAt (qtvI r zs) k) (rowN (qtvI r zs) k)=parL r zs k:=by
      intro k hk
      have e:stAt (qtvI r zs) k=wsS r (parL r zs k) (rowN r k):=fiS_at r zs hk
      rw[e]
      exact j4D4 hH hk h3 (qAO3 h4 hk)
     have hok:stOk (qtvI r zs) (cntN r)=true:=List.all_eq_true.2 fun k hk=>by
      rw[decide_eq_true_eq]
      exact (hst k (List.mem_range.1 hk)).1
     have hP:planE r.plan=0∧XepW r.w r.h r.plan.spots=true:=by
      unfold pErr at h2
      split at h2
      ·rename_i h5
       split at h2
       ·rename_i h6;exact ⟨h5,h6⟩
       ·cases h2
      ·rename_i h5;exact absurd h2 h5
     have hl:(qtvI r zs).strips.length=cntN r:=qvpy r zs (cntN r)
     have hR:Right (qtvI r zs):=⟨z2pS hH zs,hl,hP.1,hP.2,by rw[hl];exact hok⟩
     refine ⟨hR,?_,rfl,rfl,by rw[XH9X,if_pos hR.zero];rfl,by rw[zq73,if_pos hR.zero];rfl⟩
     rw[zcNm,if_pos hR.zero,hl]
     have:plUp (qtvI r zs) (cntN r)=(List.range (cntN r)).flatMap fun i=>parL r zs i:=by
      unfold plUp
      rw[List.flatMap_def,List.flatMap_def]
      congr 1
      exact List.map_congr_left fun k hk=>(hst k (List.mem_range.1 hk)).2
     rw[this,zhdP hH (qwcI hp).2.2.1 _ (Nat.le_refl _),if_pos rfl,List.take_length]
    ·cases h
   ·cases h
  ·rename_i h2;exact absurd h h2
 ·rename_i h1;exact absurd h h1
end Go.Proofs.YtfjeonehdlphiaaGreatDoor

namespace Go.Proofs.YtfjeonehdlphiaaGreatDoor
set_option linter.unusedVariables false
open Go.RowKit
def bareR (r:RawF):RawF:={ r with strips:=[] }
theorem jCvT.cell {w:World} {v:Value} {xs:List Int} {B k i:Nat} {u:Value} (h:jCvT w v xs) (hf:Fresh B v) (hk:k<B):jCvT (w.setCell ⟨k,i,none⟩ u) v xs:=h.other (by simp[World.setCell]) (fun b hb=>Below.heap_setCell _ _ _ _ (fun e=>hb e)) (hf.ne hk)
theorem IsPts.cell {w:World} {v:Value} {xs:List Pt} {B k i:Nat} {u:Value} (h:IsPts w v xs) (hf:Fresh B v) (hk:k<B):IsPts (w.setCell ⟨k,i,none⟩ u) v xs:=h.other (by simp[World.setCell]) (fun b hb=>Below.heap_setCell _ _ _ _ (fun e=>hb e)) (hf.ne hk)
theorem zBn3 {g:Nat} {t:TypeId} {cs:List Value} {w:World} (h:Holds g t cs w) (i:Nat) (v:Value):Holds g t (cs.set i v) (w.setCell ⟨g,i,none⟩ v):=by
 unfold Holds at h ⊢
 simp[World.setCell,Array.getElem?_modify,h]
set_option maxRecDepth 100000 in
set_option maxHeartbeats 3200000 in
theorem XQPO (r:RawF) (lv tv sv cv:Value) (w:World) (hr:IsRaw w r lv tv sv cv) (g1:r.lens.length≤1000000) (g2:r.plan.spots.length≤1000000) (g3:r.plan.curve.length≤1000000) :
  Calls Tryz.prog 67 #[.agg (rawA r lv tv sv cv)] w fun e w'=>∃lv' sv' cv',e=.returned (.agg (rawA (bareR r) lv' (.slice none 0 0) sv' cv'))∧IsRaw w' (bareR r) lv' (.slice none 0 0) sv' cv'∧Below w.heap.size w w'∧Fresh w.heap.size lv'∧Fresh w.heap.size sv'∧Fresh w.heap.size cv':=by
 have HL:=hide hr.lens
 have HS:=hide hr.plan.spots
 have HC:=hide hr.plan.curve
 obtain ⟨lo,lc,rfl,_,_⟩:=hr.lens
 obtain ⟨tp,tc,rfl,_,_⟩:=hr.strips
 obtain ⟨so,sc,rfl,_,_⟩:=hr.plan.spots
 obtain ⟨co,cc,rfl,_,_⟩:=hr.plan.curve
 obtain ⟨a1,a2⟩:=al2 w (Obj.cells (rawA r (.slice lo r.lens.length lc) (.slice tp r.strips.length tc) (.slice so r.plan.spots.length sc) (.slice co r.plan.curve.length cc)) 57) (Obj.cells rawZ 57)
 have HB:=hide (be2 w (Obj.cells (rawA r (.slice lo r.lens.length lc) (.slice tp r.strips.length tc) (.slice so r.plan.spots.length sc) (.slice co r.plan.curve.length cc)) 57) (Obj.cells rawZ 57))
 have hl1:=(Array.getElem?_eq_some_iff.1 a1).1
 have hl2:=(Array.getElem?_eq_some_iff.1 a2).1
 obtain ⟨s0,s1,s2,s3,s4,s5,s6,s13,s26⟩:=zUTj a1
 clear hr
 go_enter Tryz.func67,Tryz.ntmps67
 go_wp2_with fail
 clear s0 s1 s2 s3 s4 s5 s6 s13 s26
 generalize (w.alloc (Obj.cells (rawA r (.slice lo r.lens.length lc) (.slice tp r.strips.length tc) (.slice so r.plan.spots.length sc) (.slice co r.plan.curve.length cc)) 57)).alloc (Obj.cells rawZ 57)=U at *
 refine (jKOG _ r.lens U (HL.out.below HB.out (Nat.le_refl _)) g1).mono ?_
 rintro e V1 ⟨lv',rfl,hI1,hb1,hf1⟩
 have b1:Holds w.heap.size 57 (rawA r (.slice lo r.lens.length lc) (.slice tp r.strips.length tc) (.slice so r.plan.spots.length sc) (.slice co r.plan.curve.length cc)).toList V1:=(hb1.block _ hl1).trans a1
 have z1:V1.heap[w.heap.size+1]?=some (.cells rawZ 57 (0,0)):=(hb1.block _ hl2).trans a2
 have c5:V1.cell? ⟨w.heap.size,5,none⟩=some (.slice lo r.lens.length lc):=by rw[Lib.cell_of_heap b1];rfl
 have f5:V1.frozen? ⟨w.heap.size,5,none⟩=false:=Lib.frozen_of_heap b1 _
 have HI1:=hide hI1
 obtain ⟨lo',lc',rfl,_,_⟩:=hI1
 have b2:=zBn3 b1 5 (.slice lo' r.lens.length lc')
 have c6:(V1.setCell ⟨w.heap.size,5,none⟩ (.slice lo' r.lens.length lc')).cell? ⟨w.heap.size,6,none⟩=some (.slice tp r.strips.length tc):=by rw[Lib.cell_of_heap b2];rfl
 have f6:(V1.setCell ⟨w.heap.size,5,none⟩ (.slice lo' r.lens.length lc')).frozen? ⟨w.heap.size,6,none⟩=false:=Lib.frozen_of_heap b2 _
 have b3:=zBn3 b2 6 (.slice none 0 0)
 have b3:Holds w.heap.size 57 (rawA (bareR r) (.slice lo' r.lens.length lc') (.slice none 0 0) (.slice so r.plan.spots.length sc) (.slice co r.plan.curve.length cc)).toList ((V1.setCell ⟨w.heap.size,5,none⟩ (.slice lo' r.lens.length lc')).setCell ⟨w.heap.size,6,none⟩ (.slice none 0 0)):=b3
 have hkk:∀k,k≠w.heap.size→((V1.setCell ⟨w.heap.size,5,none⟩ (.slice lo' r.lens.length lc')).setCell ⟨w.heap.size,6,none⟩ (.slice none 0 0)).heap[k]?=V1.heap[k]?:=fun k hk=>(Below.heap_setCell _ _ _ _ (fun e=>hk e)).trans (Below.heap_setCell _ _ _ _ (fun e=>hk e))
 have z2:=(hkk (w.heap.size+1) (by omega)).trans z1
 have c13:((V1.setCell ⟨w.heap.size,5,none⟩ (.slice lo' r.lens.length lc')).setCell ⟨w.heap.size,6,none⟩ (.slice none 0 0)).cell? ⟨w.heap.size,13,none⟩=some (.slice so r.plan.spots.length sc):=by rw[Lib.cell_of_heap b3];rfl
 have HI2:=hide ((HI1.out.cell (k:=w.heap.size) (i:=5) (u:=.slice lo' r.lens.length lc') hf1 hl1).cell (k:=w.heap.size) (i:=6) (u:=.slice none 0 0) hf1 hl1)
 have HB2:=hide (((quJN HB.out hb1).setCell (p:=⟨w.heap.size,5,none⟩) (Nat.le_refl _) (.slice lo' r.lens.length lc')).setCell (p:=⟨w.heap.size,6,none⟩) (Nat.le_refl _) (.slice none 0 0))
 have hsz:=hb1.size
 have HSZ:=hide (show U.heap.size≤((V1.setCell ⟨w.heap.size,5,none⟩ (.slice lo' r.lens.length lc')).setCell ⟨w.heap.size,6,none⟩ (.slice none 0 0)).heap.size by simp[World.setCell];exact hsz)
 clear b1 b2 z1 hkk
 go_wp2_with fail
 clear c5 f5 c6 f6 c13
 generalize (V1.setCell ⟨w.heap.size,5,none⟩ (.slice lo' r.lens.length lc')).setCell ⟨w.heap.size,6,none⟩ (.slice none 0 0)=W2 at *
 refine (zb1r _ r.plan.spots W2 (HS.out.below HB2.out (Nat.le_refl _)) g2).mono ?_
 rintro e V3 ⟨sv',rfl,hI3,hb3,hf3⟩
 have HI3:=hide hI3
 obtain ⟨so',sc',rfl,_,_⟩:=hI3
 have hl3:w.heap.size<W2.heap.size:=Nat.lt_of_lt_of_le hl1 HSZ.out
 have b4:Holds w.heap.size 57 _ V3:=(hb3.block _ hl3).trans b3
 have z4:V3.heap[w.heap.size+1]?=some (.cells rawZ 57 (0,0)):=(hb3.block _ (Array.getElem?_eq_some_iff.1 z2).1).trans z2
 have HL4:=hide (HI2.out.below hb3 (Nat.le_refl _))
 have c13:V3.cell? ⟨w.heap.size,13,none⟩=some (.slice so r.plan.spots.length sc):=by rw[Lib.cell_of_heap b4];rfl
 have f13:V3.frozen? ⟨w.heap.size,13,none⟩=false:=Lib.frozen_of_heap b4 _
 have b5:=zBn3 b4 13 (.slice so' r.plan.spots.length sc')
 have b5:Holds w.heap.size 57 (rawA (bareR r) (.slice lo' r.lens.length lc') (.slice none 0 0) (.slice so' r.plan.spots.length sc') (.slice co r.plan.curve.length cc)).toList (V3.setCell ⟨w.heap.size,13,none⟩ (.slice so' r.plan.spots.length sc')):=b5
 have z5:=(Below.heap_setCell V3 ⟨w.heap.size,13,none⟩ (.slice so' r.plan.spots.length sc') (w.heap.size+1) (show w.heap.size+1≠w.heap.size by omega)).trans z4
 have c26:(V3.setCell ⟨w.heap.size,13,none⟩ (.slice so' r.plan.spots.length sc')).cell? ⟨w.heap.size,26,none⟩=some (.slice co r.plan.curve.length cc):=by rw[Lib.cell_of_heap b5];rfl
 have HL5:=hide (HL4.out.cell (k:=w.heap.size) (i:=13) (u:=.slice so' r.plan.spots.length sc') hf1 hl1)
 have HS5:=hide (HI3.out.cell (k:=w.heap.size) (i:=13) (u:=.slice so' r.plan.spots.length sc') hf3 hl3)
 have HB5:=hide ((quJN HB2.out hb3).setCell (p:=⟨w.heap.size,13,none⟩) (Nat.le_refl _) (.slice so' r.plan.spots.length sc'))
 have HSZ5:=hide (show W2.heap.size≤(V3.setCell ⟨w.heap.size,13,none⟩ (.slice so' r.plan.spots.length sc')).heap.size by simp[World.setCell];exact hb3.size)
 clear b4 z4 b3 z2
 go_wp2_with fail
 clear c13 f13 c26
 generalize V3.setCell ⟨w.heap.size,13,none⟩ (.slice so' r.plan.spots.length sc')=W4 at *
 refine (jWhh _ r.plan.curve W4 (HC.out.below HB5.out (Nat.le_refl _)) g3).mono ?_
 rintro e V5 ⟨cv',rfl,hI5,hb5,hf5⟩
 have HI5:=hide hI5
 obtain ⟨co',cc',rfl,_,_⟩:=hI5
 have hl5:w.heap.size<W4.heap.size:=Nat.lt_of_lt_of_le hl3 HSZ5.out
 have b6:Holds w.heap.size 57 _ V5:=(hb5.block _ hl5).trans b5
 have z6:V5.heap[w.heap.size+1]?=some (.cells rawZ 57 (0,0)):=(hb5.block _ (Array.getElem?_eq_some_iff.1 z5).1).trans z5
 have c26:V5.cell? ⟨w.heap.size,26,none⟩=some (.slice co r.plan.curve.length cc):=by rw[Lib.cell_of_heap b6];rfl
 have f26:V5.frozen? ⟨w.heap.size,26,none⟩=false:=Lib.frozen_of_heap b6 _
 have b7:=zBn3 b6 26 (.slice co' r.plan.curve.length cc')
 obtain ⟨RA,hRA⟩:∃RA,rawA (bareR r) (.slice lo' r.lens.length lc') (.slice none 0 0) (.slice so' r.plan.spots.length sc') (.slice co' r.plan.curve.length cc')=RA:=⟨_,rfl⟩
 have b7:(V5.setCell ⟨w.heap.size,26,none⟩ (.slice co' r.plan.curve.length cc')).heap[w.heap.size]?=some (.cells RA 57 (0,0)):=by rw[←hRA];exact b7
 have z7:=(Below.heap_setCell V5 ⟨w.heap.size,26,none⟩ (.slice co' r.plan.curve.length cc') (w.heap.size+1) (show w.heap.size+1≠w.heap.size by omega)).trans z6
 have HL7:=hide ((HL5.out.below hb5 (Nat.le_refl _)).cell (k:=w.heap.size) (i:=26) (u:=.slice co' r.plan.curve.length cc') hf1 hl1)
 have HS7:=hide ((HS5.out.below hb5 (Nat.le_refl _)).cell (k:=w.heap.size) (i:=26) (u:=.slice co' r.plan.curve.length cc') hf3 hl3)
 have HC7:=hide (HI5.out.cell (k:=w.heap.size) (i:=26) (u:=.slice co' r.plan.curve.length cc') hf5 hl5)
 have HB7:=hide ((quJN HB5.out hb5).setCell (p:=⟨w.heap.size,26,none⟩) (Nat.le_refl _) (.slice co' r.plan.curve.length cc'))
 have i1:(Tryz.prog.info? 57).map (·.size)=some RA.size:=by rw[←hRA];kernel_rfl
 have i2:(rawZ:Array Value).size=RA.size:=by rw[←hRA];rfl
 have i3:RA.all (·.oneCell')=true:=by rw[←hRA];simp[Value.oneCell']
 have HRA:=hide hRA
 clear hRA b6 z6 b5 z5
 go_upto_region 5 with fail
 clear c26 f26
 generalize V5.setCell ⟨w.heap.size,26,none⟩ (.slice co' r.plan.curve.length cc')=W6 at *
 have HG:=hide (setRow_heap _ _ _ RA _ _ z7)
 have hk:∀k,k≠w.heap.size+1→(W6.setRow (w.heap.size+1) RA).heap[k]?=W6.heap[k]?:=fun k hk=>setRow_other _ _ _ _ hk
 have HBF:=hide (below_setRow (g:=w.heap.size+1) HB7.out (Nat.le_succ _) RA)
 have hu2:w.heap.size+1<U.heap.size:=hl2
 have HIF:=hide (show IsRaw (W6.setRow (w.heap.size+1) RA) (bareR r) (.slice lo' r.lens.length lc') (.slice none 0 0) (.slice so' r.plan.spots.length sc') (.slice co' r.plan.curve.length cc') from
  ⟨HL7.out.other (k:=w.heap.size+1) (by simp) hk (hf1.ne hl2),zGcC.nil _,HS7.out.other (k:=w.heap.size+1) (by simp) hk (hf3.ne (by have:=HSZ.out;omega)),HC7.out.other (k:=w.heap.size+1) (by simp) hk (hf5.ne (by have:=HSZ.out;have:=HSZ5.out;omega))⟩)
 have HFR:=hide (show Fresh w.heap.size (.slice lo' r.lens.length lc')∧Fresh w.heap.size (.slice so' r.plan.spots.length sc')∧Fresh w.heap.size (.slice co' r.plan.curve.length cc') from ⟨hf1.mono (by omega),hf3.mono (by omega),hf5.mono (by omega)⟩)
 clear HL7 HS7 HC7 hf1 hf3 hf5 hk
 go_wp2_with (first|refine wpList_load_row rfl 57 _ rfl _ rfl _ _ _ _ b7 Tryz.underlying57 rfl i1 ?_|refine wpList_store_row rfl 57 _ _ rfl (w.heap.size+1) RA rfl rfl _ _ z7 i1 i2 i3 ?_)
 refine bodyPost_ret (v:=.agg RA) (results_cell_row Tryz.results67 _ _ _ _ _ _ _ rfl HG.out Tryz.underlying57 rfl i1) rfl ⟨_,_,_,by rw[HRA.out],HIF.out,HBF.out,HFR.out⟩
end Go.Proofs.YtfjeonehdlphiaaGreatDoor

namespace Go.Proofs.YtfjeonehdlphiaaGreatDoor
set_option linter.unusedVariables false
open Go.RowKit
theorem j5zS {et ct:TypeId} {sz:Nat} (ce:ct≠et) {V w1 w:World} {B base PB i:Nat} {cs:List Value} {so:Option Addr} {scap k m:Nat} {v':Value} {xs ys:List Value}
  (i1:Holds PB ct cs V) (hi:cs[i]?=some (.slice so k scap)) (i2:V.ownsRow base et sz (.slice so k scap) k xs) (i5:Below B w V) (hB:B≤base) (hPB:B≤PB) (hw:B≤V.heap.size)
  (hg:V.grownBy w1 (Value.slice so k scap).ownBlock) (ho:w1.ownsRow base et sz v' m ys) :
  w1.cell? ⟨PB,i,none⟩=some (.slice so k scap)∧w1.frozen? ⟨PB,i,none⟩=false∧Holds PB ct (cs.set i v') (w1.setCell ⟨PB,i,none⟩ v')∧(w1.setCell ⟨PB,i,none⟩ v').ownsRow base et sz v' m ys ∧
   Below B w (w1.setCell ⟨PB,i,none⟩ v')∧(∀b,b<V.heap.size→some b≠(Value.slice so k scap).ownBlock→b≠PB→(w1.setCell ⟨PB,i,none⟩ v').heap[b]?=V.heap[b]?):=by
 have keep:∀b,b<V.heap.size→some b≠(Value.slice so k scap).ownBlock→w1.heap[b]?=V.heap[b]?:=fun b hb hne=>hg.block b hb hne
 have kP:Holds PB ct cs w1:=(keep PB i1.lt (qYYy i2 i1 ce)).trans i1
 refine ⟨by rw[Lib.cell_of_heap kP];simpa using hi,Lib.frozen_of_heap kP i,zBn3 kP i v',ownsRow_setCell_other ho (fun e=>qYYy ho kP ce e.symm) _,?_,fun b hb hne hn=>(Below.heap_setCell _ _ _ _ hn).trans (keep b hb hne)⟩
 exact (i5.grown hg hw (fun j hj=>Nat.le_trans hB (i2.lt j hj).1)).setCell (p:=⟨PB,i,none⟩) hPB _
theorem zGcC.own {w:World} {base:Nat} {v:Value} {ts:List (List UInt8)} (h:w.ownsRow base 9 1 v ts.length (ts.map strV)) (hl:ts.length≤9223372036854775807):zGcC w v ts:=by
 rcases h.2 with ⟨hv,hn⟩|⟨g,cap,cur,hv,_,hg,_⟩
 ·exact ⟨none,0,by rw[hv,hn],hl,.inl (List.eq_nil_of_length_eq_zero hn)⟩
 ·refine ⟨_,cap,hv,hl,.inr ⟨g,0,rfl,(Array.getElem?_eq_some_iff.1 hg).1,fun j hj=>?_⟩⟩
  subst hv
  rw[Nat.zero_add,h.cellAt j (by omega)]
  simp[hj,strV]
theorem zu5m {fn:Func} (hfn:fn.results=#[.cell 4 57,.tmp 5]) (tmps:Array Value) (R:Nat) (cs:Array Value) (z:Value) (W:World) (h2:tmps.getD 4 undef=.pointer (some ⟨R,0,none⟩)) (h3:tmps.getD 5 undef=z)
  (hR:W.heap[R]?=some (.cells cs 57 (0,0))) (hs:(Tryz.prog.info? 57).map (·.size)=some cs.size) :
  (results fn tmps).run Tryz.prog W=.ok (.tuple #[.agg cs,z]) W:=by
 have hl:=run_loadVar_row (P:=Tryz.prog) W R 57 57 cs (0,0) _ hR Tryz.underlying57 rfl hs
 have h2':tmps[4]?.getD undef=.pointer (some ⟨R,0,none⟩):=by simpa using h2
 have h3':tmps[5]?.getD undef=z:=by simpa using h3
 simp[results,hfn,h2',h3',asAddr,hl]
theorem qLPT (P:Program) (t e:TypeId) (ht:P.underlying t=some (.slice (P.elem t))) (hs:∀w,(sizeOf (P.elem t)).run P w=.ok 1 w) (a:Addr) (n c M:Nat) (h:M≤n) (w:World) :
  (Instr.slice t (.slice (some a) n c) (some (.int .i64 M)) none none).run P w=.ok (.slice (some (if c=M then a else a.add M)) (n-M) (c-M)) w:=by
 rw[run_slice_l w t (some a) n c ht .i64 M (by omega) (by omega),hs]
 simp only[Result.andThen,sliced,Int.toNat_natCast,Nat.mul_one,Option.map_some]
 split<;>simp_all
theorem j7yL (P:Program) (t e:TypeId) (ht:P.underlying t=some (.slice (P.elem t))) (hs:∀w,(sizeOf (P.elem t)).run P w=.ok 1 w) (b o n c M:Nat) (h:M≤c) (w:World) :
  (Instr.slice t (.slice (some ⟨b,o,none⟩) n c) none (some (.int .i64 M)) none).run P w=.ok (.slice (some ⟨b,o,none⟩) M c) w:=by
 rw[run_slice_h w t (some ⟨b,o,none⟩) n c ht .i64 M (by omega) (by omega),hs]
 simp only[Result.andThen,sliced,Int.toNat_natCast,Nat.zero_mul,Nat.sub_zero,Option.map_some]
 split<;>simp_all[Addr.add_lit]
theorem zrZW {w:World} {zs:List Int} {bk off ca P M:Nat} (hc:∀j,j<zs.length→w.cell? ⟨bk,off+j,none⟩=some (.int .i64 (zAt zs j))) (hb:bk<w.heap.size) (h:P+M≤zs.length) (hz:zs.length≤4096):jCvT w (.slice (some ⟨bk,off+P,none⟩) M (ca-P)) ((zs.drop P).take M):=by
 have hl:((zs.drop P).take M).length=M:=by rw[List.length_take,List.length_drop];omega
 refine ⟨_,_,by rw[hl],by omega,.inr ⟨bk,_,rfl,hb,fun j hj=>?_⟩⟩
 rw[Nat.add_assoc,hc (P+j) (by omega)]
 simp[zAt,List.getD_eq_getElem?_getD,show P+j<zs.length by omega]
def FiJ (r:RawF) (zs:List Int) (lv sv cv:Value) (QX k:Nat) (U wr:World):Prop :=
 ∃(so:Option Addr) (cap:Nat),fiOk r zs k=true∧Holds QX 57 (rawA r lv (.slice so k cap) sv cv).toList wr∧wr.ownsRow QX 9 1 (.slice so k cap) k ((fiS r zs k).map strV)∧Below QX U wr
theorem FiJ.below {r:RawF} {zs:List Int} {lv sv cv:Value} {QX k:Nat} {U wr V:World} (h:FiJ r zs lv sv cv QX k U wr) (hV:Below wr.heap.size wr V):FiJ r zs lv sv cv QX k U V:=by
 obtain ⟨so,cap,h1,h2,h3,h4⟩:=h
 exact ⟨so,cap,h1,(hV.block _ h2.lt).trans h2,qw14 h3 hV,h4.trans (hV.mono (Nat.le_of_lt h2.lt))⟩
set_option maxRecDepth 100000 in
set_option maxHeartbeats 6400000 in
theorem XnMb (r:RawF) (lv tv sv cv:Value) (PW PH:Int) (v:Value) (zs:List Int) (w:World) (hr:IsRaw w r lv tv sv cv) (hv:jCvT w v zs) (hroom:roomy v) :
  Calls Tryz.prog 19 #[.agg (rawA r lv tv sv cv),.agg #[.int .i64 PW,.int .i64 PH,v]] w fun e w'=>Below w.heap.size w w'∧((XQ5R r PW PH zs=0∧∃lv' tv' sv' cv',e=.returned (.tuple #[.agg (rawA (qtvI r zs) lv' tv' sv' cv'),.int .i64 0])∧IsRaw w' (qtvI r zs) lv' tv' sv' cv'∧Fresh w.heap.size lv'∧Fresh w.heap.size tv'∧Fresh w.heap.size sv'∧Fresh w.heap.size cv') ∨
   (XQ5R r PW PH zs≠0∧e=.returned (.tuple #[.agg rawZ,.int .i64 (XQ5R r PW PH zs)]))):=by
 have HR:=hide hr
 have HV:=hide hv
 have HCH:=hide (fun (u:World) (hu:Below w.heap.size w u)=>zjUe r lv tv sv cv u (HR.out.lens.below hu (Nat.le_refl _)))
 have HCP:=hide (fun (u:World) (hu:Below w.heap.size w u)=>z6ad r lv tv sv cv u (HR.out.plan.below hu (Nat.le_refl _)))
 have HPL:=hide (fun (u:World) (hu:Below w.heap.size w u)=>XeC7 PW PH v zs u (HV.out.below hu (Nat.le_refl _)))
 have HDP:=hide (fun (hd:1≤r.depth∧r.depth≤16) (u:World) (hu:Below w.heap.size w u)=>qr0y v zs r.depth u hd (HV.out.below hu (Nat.le_refl _)))
 have HBA:=hide (fun (u:World) (hu:Below w.heap.size w u) g1 g2 g3=>XQPO r lv tv sv cv u (HR.out.below hu (Nat.le_refl _)) g1 g2 g3)
 have HSC0:=hide (fun (u:World) (h:Head r)=>X0bE r lv tv sv cv u h)
 have HSR0:=hide (fun (k:Nat) (u:World) (h:Head r) (hk:k<cntN r)=>jN9a r lv tv sv cv k u h hk)
 have HWS0:=hide (fun (v':Value) (l:List Int) (n:Int) (u:World) (hu:Below w.heap.size w u) (hv':jCvT u v' l)=>jhSJ r lv tv sv cv v' l n u (HR.out.lens.below hu (Nat.le_refl _)) hv')
 have HE:=hide (show XQ5R r PW PH zs=if headE r=0 then (if pErr r=0 then (if fitP r PW PH zs=true then (if fiOk r zs (cntN r)=true then 0 else 4) else 1) else pErr r) else headE r from rfl)
 have HFP:=hide (show fitP r PW PH zs=(q0fM PW PH zs && decide (PW=r.w) && decide (PH=r.h) && jgbG r.depth zs) from rfl)
 generalize XQ5R r PW PH zs=E at *
 obtain ⟨vo,vc,rfl,hvl,_⟩:=hv
 have hvc:zs.length≤vc:=hroom
 obtain ⟨a1,a2,a3⟩:=al3 w (Obj.cells (rawA r lv tv sv cv) 57) (Obj.cells #[.int .i64 PW,.int .i64 PH,.slice vo zs.length vc] 54) (Obj.cells rawZ 57)
 have HB:=hide (be3 w (Obj.cells (rawA r lv tv sv cv) 57) (Obj.cells #[.int .i64 PW,.int .i64 PH,.slice vo zs.length vc] 54) (Obj.cells rawZ 57))
 have hl1:=(Array.getElem?_eq_some_iff.1 a1).1
 have hl2:=(Array.getElem?_eq_some_iff.1 a2).1
 have hl3:=(Array.getElem?_eq_some_iff.1 a3).1
 have iz:(Tryz.prog.info? 57).map (·.size)=some (rawZ:Array Value).size:=by kernel_rfl
 have oz:(rawZ:Array Value).all (·.oneCell')=true:=by simp[Value.oneCell']
 clear hr hroom
 go_enter Tryz.func19,Tryz.ntmps19
 go_wp2_with (refine wpList_load_row rfl 57 _ rfl _ rfl _ _ _ _ a1 Tryz.underlying57 rfl (by kernel_rfl) ?_)
 generalize ((w.alloc (Obj.cells (rawA r lv tv sv cv) 57)).alloc (Obj.cells #[.int .i64 PW,.int .i64 PH,.slice vo zs.length vc] 54)).alloc (Obj.cells rawZ 57)=U at *
 have HRC:=hide (fun (v:World) (h:v.heap[w.heap.size]?=some (.cells (rawA r lv tv sv cv) 57 (0,0)))=>zUTj h)
 have hi28:(Tryz.prog.info? 57).map (·.size)=some ((rawA r lv tv sv cv):Array Value).size:=by kernel_rfl
 generalize (rawA r lv tv sv cv)=RQ at *
 refine (HCH.out _ HB.out).mono ?_
 rintro e V1 ⟨rfl,hb1⟩
 by_cases hF:headE r=0
 rotate_left
 ·rw[if_neg hF] at HE
  have he:=HE.out
  subst he
  have hn:(headE r != 0)=true:=by simpa using hF
  have g3:=(hb1.block _ hl3).trans a3
  have HG:=hide (setRow_heap _ _ _ rawZ _ _ g3)
  have HBF:=hide (below_setRow (g:=w.heap.size+2) (quJN HB.out hb1) (by omega) rawZ)
  go_wp2_with (refine wpList_store_row rfl 57 _ _ rfl (w.heap.size+2) rawZ rfl rfl _ _ g3 iz rfl oz ?_)
  refine bodyPost_ret (v:=.tuple #[.agg rawZ,.int .i64 (headE r)]) (zu5m Tryz.results19 _ _ _ _ _ rfl rfl HG.out iz) rfl ⟨HBF.out,.inr ⟨hF,rfl⟩⟩
 rw[if_pos hF] at HE
 rw[hF]
 have hH:=jWRa hF
 have HHD:=hide hH
 have g1:=(hb1.block _ hl1).trans a1
 clear HCH hF
 go_wp2_with (refine wpList_load_row rfl 57 _ rfl _ rfl _ _ _ _ g1 Tryz.underlying57 rfl hi28 ?_)
 refine (HCP.out _ (quJN HB.out hb1)).mono ?_
 rintro e V2 ⟨rfl,hb2⟩
 replace hb2:=quJN hb1 hb2
 clear g1 hb1
 by_cases hP:pErr r=0
 rotate_left
 ·rw[if_neg hP] at HE
  have he:=HE.out
  subst he
  have hn:(pErr r != 0)=true:=by simpa using hP
  have g3:=(hb2.block _ hl3).trans a3
  have HG:=hide (setRow_heap _ _ _ rawZ _ _ g3)
  have HBF:=hide (below_setRow (g:=w.heap.size+2) (quJN HB.out hb2) (by omega) rawZ)
  go_wp2_with (refine wpList_store_row rfl 57 _ _ rfl (w.heap.size+2) rawZ rfl rfl _ _ g3 iz rfl oz ?_)
  refine bodyPost_ret (v:=.tuple #[.agg rawZ,.int .i64 (pErr r)]) (zu5m Tryz.results19 _ _ _ _ _ rfl rfl HG.out iz) rfl ⟨HBF.out,.inr ⟨hP,rfl⟩⟩
 rw[if_pos hP] at HE
 rw[hP]
 have HPZ:=hide hP
 clear HCP hP
 have g2:=(hb2.block _ hl2).trans a2
 obtain ⟨p0,p1,p2⟩:=z5EY g2
 go_wp2_with fail
 clear p0 p1 p2
 refine (HPL.out _ (quJN HB.out hb2)).mono ?_
 rintro e V3 ⟨rfl,hb3⟩
 replace hb3:=quJN hb2 hb3
 clear g2 hb2 HPL
 have g2:=(hb3.block _ hl2).trans a2
 have g1:=(hb3.block _ hl1).trans a1
 obtain ⟨p0,p1,p2⟩:=z5EY g2
 obtain ⟨s0,s1,s2,s3,s4,s5,s6,s13,s26⟩:=HRC.out _ g1
 clear g1 g2
 cases hpo:q0fM PW PH zs
 ·have he:E=1:=by rw[HE.out,HFP.out,hpo];rfl
  subst he
  clear HFP
  have g3:=(hb3.block _ hl3).trans a3
  have HG:=hide (setRow_heap _ _ _ rawZ _ _ g3)
  have HBF:=hide (below_setRow (g:=w.heap.size+2) (quJN HB.out hb3) (by omega) rawZ)
  go_wp2_with (refine wpList_store_row rfl 57 _ _ rfl (w.heap.size+2) rawZ rfl rfl _ _ g3 iz rfl oz ?_)
  refine bodyPost_ret (v:=.tuple #[.agg rawZ,.int .i64 1]) (zu5m Tryz.results19 _ _ _ _ _ rfl rfl HG.out iz) rfl ⟨HBF.out,.inr ⟨by decide,rfl⟩⟩
 by_cases hpw:PW=r.w
 rotate_left
 ·have hn1:(PW != r.w)=true:=by simpa using hpw
  have he:E=1:=by rw[HE.out,HFP.out,decide_eq_false hpw];simp
  subst he
  clear HFP
  have g3:=(hb3.block _ hl3).trans a3
  have HG:=hide (setRow_heap _ _ _ rawZ _ _ g3)
  have HBF:=hide (below_setRow (g:=w.heap.size+2) (quJN HB.out hb3) (by omega) rawZ)
  go_wp2_with (refine wpList_store_row rfl 57 _ _ rfl (w.heap.size+2) rawZ rfl rfl _ _ g3 iz rfl oz ?_)
  refine bodyPost_ret (v:=.tuple #[.agg rawZ,.int .i64 1]) (zu5m Tryz.results19 _ _ _ _ _ rfl rfl HG.out iz) rfl ⟨HBF.out,.inr ⟨by decide,rfl⟩⟩
 have hn1:(PW != r.w)=false:=by simpa using hpw
 by_cases hph:PH=r.h
 rotate_left
 ·have hn2:(PH != r.h)=true:=by simpa using hph
  have he:E=1:=by rw[HE.out,HFP.out,decide_eq_false hph];simp
  subst he
  clear HFP
  have g3:=(hb3.block _ hl3).trans a3
  have HG:=hide (setRow_heap _ _ _ rawZ _ _ g3)
  have HBF:=hide (below_setRow (g:=w.heap.size+2) (quJN HB.out hb3) (by omega) rawZ)
  go_wp2_with (refine wpList_store_row rfl 57 _ _ rfl (w.heap.size+2) rawZ rfl rfl _ _ g3 iz rfl oz ?_)
  refine bodyPost_ret (v:=.tuple #[.agg rawZ,.int .i64 1]) (zu5m Tryz.results19 _ _ _ _ _ rfl rfl HG.out iz) rfl ⟨HBF.out,.inr ⟨by decide,rfl⟩⟩
 have hn2:(PH != r.h)=false:=by simpa using hph
 go_wp2_with fail
 refine (HDP.out HHD.out.depth _ (quJN HB.out hb3)).mono ?_
 rintro e V4 ⟨rfl,rfl⟩
 cases hdo:jgbG r.depth zs
 ·have he:E=1:=by rw[HE.out,HFP.out,hdo];simp
  subst he
  clear HFP p0 p1 p2 s0 s1 s2 s3 s4 s5 s6 s13 s26
  have g3:=(hb3.block _ hl3).trans a3
  have HG:=hide (setRow_heap _ _ _ rawZ _ _ g3)
  have HBF:=hide (below_setRow (g:=w.heap.size+2) (quJN HB.out hb3) (by omega) rawZ)
  go_wp2_with (refine wpList_store_row rfl 57 _ _ rfl (w.heap.size+2) rawZ rfl rfl _ _ g3 iz rfl oz ?_)
  refine bodyPost_ret (v:=.tuple #[.agg rawZ,.int .i64 1]) (zu5m Tryz.results19 _ _ _ _ _ rfl rfl HG.out iz) rfl ⟨HBF.out,.inr ⟨by decide,rfl⟩⟩
 have hfit:fitP r PW PH zs=true:=by rw[HFP.out,hpo,hdo,decide_eq_true hpw,decide_eq_true hph];rfl
 rw[if_pos hfit] at HE
 have HFT:=hide hfit
 obtain ⟨hW,hHh,hlen,_⟩:=qwcI hpo
 have hsm:=zAFj hW hHh
 have hn1':1≤zs.length:=by omega
 have hz4:zs.length≤4096:=by omega
 have HLEN:=hide (show (zs.length:Int)=r.w*r.h by rw[hlen,hpw,hph])
 obtain ⟨bk,off,ca,hve,hbk,hcell⟩:=HV.out.cells hn1'
 cases hve
 have HC:=hide hcell
 clear HFP HDP hfit hpo hdo hpw hph hn1 hn2 p0 p1 p2 s0 s1 s2 s3 s4 s5 s6 s13 s26 hlen hsm hcell hW hHh hH
 have g1:=(hb3.block _ hl1).trans a1
 have hle17:r.lens.length≤1000000:=by
  have:=HHD.out.lens
  unfold kindE at this
  split at this
  ·split at this
   ·omega
   ·cases this
  ·have:=(zF8D this).2.1;omega
 have hplz:planE r.plan=0:=by
  have:=HPZ.out
  unfold pErr at this
  split at this
  ·assumption
  ·exact this
 have hsp:r.plan.spots.length≤1000000:=by have:=(qwVl hplz).2.2.2.2.2.1;omega
 have hcu:r.plan.curve.length≤1000000:=by have:=qcx1 (qwVl hplz).2.2.2.2.2.2.2;omega
 go_wp2_with (refine wpList_load_row rfl 57 _ rfl _ rfl _ _ _ _ g1 Tryz.underlying57 rfl hi28 ?_)
 clear g1
 refine (HBA.out _ (quJN HB.out hb3) hle17 hsp hcu).mono ?_
 rintro e VB ⟨lv',sv',cv',rfl,hIB,hbB,f1,f3,f4⟩
 clear HBA hle17 hplz hsp hcu
 have HFR:=hide (show Fresh U.heap.size lv'∧Fresh U.heap.size sv'∧Fresh U.heap.size cv' from ⟨f1.mono hb3.size,f3.mono hb3.size,f4.mono hb3.size⟩)
 replace hbB:=quJN hb3 hbB
 clear hb3 f1 f3 f4
 have HIB:=hide hIB
 have HO:=hide (XIRQ hIB)
 have HRAW:=hide (show rawA (bareR r) lv' (.slice none 0 0) sv' cv'=rawA r lv' (.slice none 0 0) sv' cv' from rfl)
 obtain ⟨RA,hRA⟩:∃RA,rawA (bareR r) lv' (.slice none 0 0) sv' cv'=RA:=⟨_,rfl⟩
 have i1:(Tryz.prog.info? 57).map (·.size)=some RA.size:=by rw[←hRA];kernel_rfl
 have i2:(rawZ:Array Value).size=RA.size:=by rw[←hRA];rfl
 rw[hRA] at HO HRAW ⊢
 have HRA:=hide hRA
 have hos:=HO.out
 clear hRA hIB
 have z1:=al1 VB (Obj.cells rawZ 57)
 have c1:=setRow_heap _ _ _ RA _ _ z1
 have HBX:=hide (below_setRow (g:=VB.heap.size) (qUNz VB (Obj.cells rawZ 57)) (Nat.le_refl _) RA)
 go_upto_region 10 with (refine wpList_store_row rfl 57 _ _ rfl VB.heap.size RA rfl rfl _ _ z1 i1 i2 hos ?_)
 clear z1
 obtain ⟨QX,hQX⟩:∃QX,VB.heap.size=QX:=⟨_,rfl⟩
 rw[hQX] at c1 HBX ⊢
 have HJ0:=hide (show FiJ r zs lv' sv' cv' QX 0 VB ((VB.alloc (Obj.cells rawZ 57)).setRow QX RA) from ⟨none,0,rfl,c1.trans (by rw[HRAW.out]),⟨by simp[fiS],.inl ⟨rfl,rfl⟩⟩,HBX.out⟩)
 have hUQ:U.heap.size≤QX:=by rw[←hQX];exact hbB.size
 generalize (VB.alloc (Obj.cells rawZ 57)).setRow QX RA=V5 at *
 have hb5:Below U.heap.size U V5:=hbB.trans (HBX.out.mono hUQ)
 have HSC:=hide (fun (u:World)=>HSC0.out u HHD.out)
 have g1:=(hb5.block _ hl1).trans a1
 have g2:=(hb5.block _ hl2).trans a2
 obtain ⟨p0,p1,p2⟩:=z5EY g2
 have hcp:=HHD.out.cnt_le
 have HPA:=hide (jXie HHD.out)
 clear HBX c1 HO HRAW hos i1 i2 HRA
 clear g2 HSC0
 generalize hC:cntN r=C at *
 have HCN:=hide hC
 clear hC
 go_wp2_with (refine wpList_load_row rfl 57 _ rfl _ rfl _ _ _ _ g1 Tryz.underlying57 rfl hi28 ?_)
 refine (HSC.out _).mono ?_
 rintro e V6 ⟨rfl,hb6⟩
 have HJ6:=hide (HJ0.out.below hb6)
 clear HJ0 g1 p0 p1 p2 HSC hb5
 have HBU:=hide (show Below U.heap.size U VB from hbB)
 go_wp2_with fail
 go_loopw [9,58] (fun lf i wr=>∃k:Nat,k≤C∧i=.int .i64 k∧(∃ao m c,lf=.slice (some ao) m c∧(k<C→ao=⟨bk,off+parN r k,none⟩∧m=zs.length-parN r k∧c=vc-parN r k))∧FiJ r zs lv' sv' cv' QX k VB wr) (fun _ i _=>C-(intOf i).toNat)
 case atStart=>exact ⟨0,Nat.zero_le _,rfl,⟨_,_,_,rfl,fun _=>by simp[parN]⟩,HJ6.out⟩
 case round =>
  clear HJ6
  obtain ⟨k,hk,rfl,⟨ao,m,c,rfl,hao⟩,hJ⟩:=hrel
  have HJ:=hide hJ
  obtain ⟨so,cap,j1,j2,j3,j4⟩:=hJ
  have hUQ2:Below U.heap.size U wr:=hbB.trans (j4.mono hUQ)
  by_cases hlt:k<C
  ·have hd:decide ((k:Int)<(C:Int))=true:=by simp;omega
   obtain ⟨rfl,rfl,rfl⟩:=hao hlt
   have hlc:k<cntN r:=by have:=HCN.out;omega
   have HSR:=hide (fun (u:World)=>HSR0.out k u HHD.out hlt)
   have hple:=juYi HHD.out hlc
   have hsz:=HHD.out.size hlc
   have hL:=HLEN.out
   rw[Int.mul_comm] at hL
   rw[←hL] at hple
   obtain ⟨M,hM⟩:∃M:Nat,rowN r k*r.w=M:=⟨(rowN r k*r.w).toNat,by omega⟩
   have HPR:=hide (show parL r zs k=(zs.drop (parN r k)).take M by rw[parL,hM,Int.toNat_natCast])
   have HNX:=hide (show k+1<C→parN r (k+1)=parN r k+M∧parN r k+M<zs.length from fun h=>by
    have hc2:k+1<cntN r:=by have:=HCN.out;omega
    have e1:=q4pj HHD.out hc2
    have e2:=juYi HHD.out hc2
    have e3:=HHD.out.size hc2
    rw[hM] at e1
    rw[←hL] at e2
    omega)
   have HEI:=hide (ws_err HHD.out hlc HFT.out)
   have HFF:=hide (fun hk0=>X9zO (r:=r) (zs:=zs) hlc hk0)
   have HFS:=hide (XZj5 r zs k)
   have HOK:=hide (show wsE r (parL r zs k) (rowN r k)=0→fiOk r zs (k+1)=true from fun h0=>by rw[qTWu,j1,h0];rfl)
   rw[hM] at hple hsz
   generalize rowN r k=RN at *
   generalize hPP:parN r k=PP at *
   clear hPP
   have hwm:IntKind.i64.wrap (M:Int)=M:=IntWalk.i64_in _ (by omega)
   have hpm:PP+M≤zs.length:=by omega
   have hM1:1≤M:=by omega
   have HII:=hide (fun (u:World) (hu:Below w.heap.size w u)=>zrZW (ca:=vc) (fun j hj=>(hu.cell (p:=⟨bk,off+j,none⟩) hbk).trans (HC.out j hj)) (Nat.lt_of_lt_of_le hbk hu.size) hpm hz4)
   rw[←HPR.out] at HII
   generalize parL r zs k=PT at *
   have HWS:=hide (fun (u:World) (hu:Below w.heap.size w u)=>HWS0.out _ PT RN u hu (HII.out u hu))
   obtain ⟨NP,hNP⟩:∃NP,zs.length-PP=NP:=⟨_,rfl⟩
   obtain ⟨CP,hCP⟩:∃CP,vc-PP=CP:=⟨_,rfl⟩
   obtain ⟨OP,hOP⟩:∃OP,off+PP=OP:=⟨_,rfl⟩
   rw[hCP,hOP] at HWS
   rw[hNP,hCP,hOP]
   have hMC:M≤CP:=by omega
   have hMN:M≤NP:=by omega
   have HOP:=hide hOP
   have HNP:=hide hNP
   have HCP2:=hide hCP
   clear hOP hNP hCP hL hple hsz hao
   have hsl1:∀V:World,(Instr.slice 52 (.slice (some ⟨bk,OP,none⟩) NP CP) none (some (.int .i64 M)) none).run Tryz.prog V=.ok (.slice (some ⟨bk,OP,none⟩) M CP) V:=fun V=>j7yL Tryz.prog 52 3 Tryz.underlying52 (fun _=>by kernel_rfl) bk OP NP CP M hMC V
   obtain ⟨AD,hAD⟩:∃AD:Addr,(if CP=M then (⟨bk,OP,none⟩:Addr) else (⟨bk,OP,none⟩:Addr).add M)=AD:=⟨_,rfl⟩
   have hsl2:∀V:World,(Instr.slice 52 (.slice (some ⟨bk,OP,none⟩) NP CP) (some (.int .i64 M)) none none).run Tryz.prog V=.ok (.slice (some AD) (NP-M) (CP-M)) V:=fun V=>by rw[←hAD];exact qLPT Tryz.prog 52 3 Tryz.underlying52 (fun _=>by kernel_rfl) ⟨bk,OP,none⟩ NP CP M hMN V
   have HAD:=hide hAD
   have HM:=hide hM
   clear hAD hpm HII HPR
   have hkQ:=j2.lt
   have hlw:w.heap.size<wr.heap.size:=Nat.lt_of_lt_of_le hl1 hUQ2.size
   have g1:=(hUQ2.block _ hl1).trans a1
   have HS:=hide (show ∀v,Below wr.heap.size wr v→v.heap[w.heap.size]?=some (.cells RQ 57 (0,0))∧v.cell? ⟨w.heap.size,0,none⟩=some (.int .i64 r.w) from fun v h=>⟨(h.block _ hlw).trans g1,(HRC.out v ((h.block _ hlw).trans g1)).1⟩)
   clear j1 j2 j3 HSR0 HWS0
   go_wp2_with (refine wpList_load_row rfl 57 _ rfl _ rfl _ _ _ _ g1 Tryz.underlying57 rfl hi28 ?_)
   clear g1
   refine (HSR.out _).mono ?_
   rintro e X1 ⟨rfl,hx1⟩
   go_upto_region 15 with fail
   have hWd:Below wr.heap.size wr X1.drew:=hx1.drew
   have hSd:=HS.out _ hWd
   have hmx:Tryz.prog.follows .mixedOrders=true:=by kernel_rfl
   refine qYgd (S:=(fun v:World=>v.heap[w.heap.size]?=some (.cells RQ 57 (0,0))∧v.cell? ⟨w.heap.size,0,none⟩=some (.int .i64 r.w))) (f:=13) hmx ?_
   show jZdv _ _ _ _ _ _ 14 _ _ X1.drew
   refine XmaW (i:=0) (oi:=_) (v:=.agg RQ) (some 65) [] rfl rfl (by kernel_rfl) (by kernel_rfl) (by kernel_rfl) (by kernel_rfl) (by kernel_rfl) (fun _ _ _ h=>h) (Or.inl ⟨by rfl,?yy1⟩) hSd ?rr1
   case yy1=>(intro wq hSq;obtain ⟨hq1,hq2⟩:=hSq;exact XMYj 57 _ rfl _ rfl _ _ _ _ hq1 Tryz.underlying57 rfl hi28)
   simp only[Act.put,List.setIfInBounds_toArray,List.set_cons_succ,List.set_cons_zero]
   refine takeQ 1 ?vv2 (some 66) [] ?yy2 hSd ?rr2
   case yy2=>(intro wq hSq;obtain ⟨hq1,hq2⟩:=hSq;go_simp<;>with_reducible rfl)
   simp only[Act.put,List.setIfInBounds_toArray,List.set_cons_succ,List.set_cons_zero]
   refine takeQ 2 ?vv3 (some 67) [] ?yy3 hSd ?rr3
   case yy3=>(intro wq hSq;obtain ⟨hq1,hq2⟩:=hSq;go_simp<;>with_reducible rfl)
   simp only[Act.put,List.setIfInBounds_toArray,List.set_cons_succ,List.set_cons_zero]
   refine takeQ 3 ?vv4 (some 68) [] ?yy4 hSd ?rr4
   case yy4=>(intro wq hSq;obtain ⟨hq1,hq2⟩:=hSq;go_simp<;>with_reducible rfl)
   simp only[Act.put,List.setIfInBounds_toArray,List.set_cons_succ,List.set_cons_zero]
   refine takeQ 7 ?vv5 (some 72) [] ?yy5 hSd ?rr5
   case yy5=>(intro wq hSq;obtain ⟨hq1,hq2⟩:=hSq;go_simp<;>with_reducible rfl)
   simp only[Act.put,List.setIfInBounds_toArray,List.set_cons_succ,List.set_cons_zero]
   refine takeQ 4 ?vv6 (some 69) [] ?yy6 hSd ?rr6
   case yy6=>(intro wq hSq;obtain ⟨hq1,hq2⟩:=hSq;go_simp<;>with_reducible rfl)
   simp only[Act.put,List.setIfInBounds_toArray,List.set_cons_succ,List.set_cons_zero]
   refine XmaW (i:=5) (oi:=_) (v:=.int .i64 M) (some 70) [] rfl rfl (by kernel_rfl) (by kernel_rfl) (by kernel_rfl) (by kernel_rfl) (by kernel_rfl) (fun _ _ _ h=>h) (Or.inl ⟨by rfl,?yy7⟩) hSd ?rr7
   case yy7=>(intro wq hSq;obtain ⟨hq1,hq2⟩:=hSq;first|(go_simp;done)|(go_simp;rw[hM];try (go_simp<;>with_reducible rfl)))
   simp only[Act.put,List.setIfInBounds_toArray,List.set_cons_succ,List.set_cons_zero]
   refine takeQ 6 ?vv8 (some 71) [] ?yy8 hSd ?rr8
   case yy8=>(intro wq hSq;obtain ⟨hq1,hq2⟩:=hSq;go_simp<;>with_reducible rfl)
   simp only[Act.put,List.setIfInBounds_toArray,List.set_cons_succ,List.set_cons_zero]
   refine znWj (i:=8) (o:=_) (by kernel_rfl) rfl (fun K' hK=>?_)
   rw[if_pos (by rfl)]
   go_simp
   refine (HWS.out _ (quJN HB.out (quJN hUQ2 hWd))).mono ?_
   rintro e X2 ⟨rfl,hx2⟩
   have hX2:Below wr.heap.size wr X2:=quJN hWd hx2
   have hSd:=HS.out _ hX2
   refine hK.out _ _ hSd ?_
   clear hK
   try simp only[Act.put]
   refine takeQ 9 ?vv9 (some 64) [] ?yy9 hSd ?rr9
   case yy9=>(intro wq hSq;obtain ⟨hq1,hq2⟩:=hSq;go_simp<;>with_reducible rfl)
   simp only[Act.put,List.setIfInBounds_toArray,List.set_cons_succ,List.set_cons_zero]
   refine takeQ 10 ?vv10 (some 74) [] ?yy10 hSd ?rr10
   case yy10=>(intro wq hSq;obtain ⟨hq1,hq2⟩:=hSq;go_simp<;>with_reducible rfl)
   simp only[Act.put,List.setIfInBounds_toArray,List.set_cons_succ,List.set_cons_zero]
   refine takeQ 11 ?vv11 (some 75) [] ?yy11 hSd ?rr11
   case yy11=>(intro wq hSq;obtain ⟨hq1,hq2⟩:=hSq;go_simp<;>with_reducible rfl)
   simp only[Act.put,List.setIfInBounds_toArray,List.set_cons_succ,List.set_cons_zero]
   refine znWj (i:=12) (o:=_) (by kernel_rfl) rfl (fun K' hK=>?_)
   rw[if_pos (by rfl)]
   go_simp
   have hSd:=hSd
   refine hK.out _ _ hSd ?_
   clear hK
   try simp only[Act.put]
   refine z9gO (o:=_) (by kernel_rfl) rfl (fun K' hK=>?_)
   rw[if_pos (by rfl)]
   go_simp
   refine hK.out _ _ ?_
   clear hK
   refine jFdp (by kernel_rfl) ?_ _
   try simp only[Act.put]
   clear hSd hWd hx1 hx2
   have HJ2:=hide (HJ.out.below hX2)
   clear HJ HWS HSR
   obtain ⟨so,cap,k1,k2,k3,k4⟩:=HJ2.out
   have hUX:Below U.heap.size U X2:=hbB.trans (k4.mono hUQ)
   by_cases h0:wsE r PT RN=0
   ·rw[h0]
    obtain ⟨T,hT⟩:∃T,wsS r PT RN=T:=⟨_,rfl⟩
    rw[hT] at HFS ⊢
    clear hT
    obtain ⟨i0,hi,hz0,hz1,hz2⟩:=info_parts Tryz.infoStrF
    obtain ⟨s0,s1,s2,s3,s4,s5,s6,s13,s26⟩:=zUTj k2
    have hlw2:w.heap.size<X2.heap.size:=Nat.lt_of_lt_of_le hl1 hUX.size
    have hXQ:QX<X2.heap.size:=k2.lt
    have b2:Holds QX 57 (rawA r lv' (.slice so k cap) sv' cv').toList (X2.alloc (Obj.cells #[.string (str T)] 9)):=((qUNz X2 _).block _ hXQ).trans k2
    have o2:=qw14 k3 (qUNz X2 (Obj.cells #[.string (str T)] 9))
    have c2:=al1 X2 (Obj.cells #[.string (str T)] 9)
    have b4:Below QX VB (X2.alloc (Obj.cells #[.string (str T)] 9)):=k4.trans ((qUNz X2 _).mono (Nat.le_of_lt hXQ))
    have hkl:k≤64:=by omega
    have gz:=((qUNz X2 (Obj.cells #[.string (str T)] 9)).block _ hlw2).trans ((hUX.block _ hl1).trans a1)
    have s6':(X2.alloc (Obj.cells #[.string (str T)] 9)).cell? ⟨QX,6,none⟩=some (.slice so k cap):=by rw[Lib.cell_of_heap b2];rfl
    have q2:∀j u,[Value.string (str T)][j]?=some u→(X2.alloc (Obj.cells #[.string (str T)] 9)).cell? ((⟨X2.heap.size,0,none⟩:Addr).add j)=some u:=by
     intro j u hj
     rcases j with _|j
     ·simp only[List.getElem?_cons_zero,Option.some.injEq] at hj
      rw[Addr.add_lit,Lib.cell_of_heap c2,←hj];rfl
     ·simp at hj
    have q3:∀u∈[Value.string (str T)],u.oneCell'=true:=by intro u hu;rw[List.mem_singleton.1 hu];rfl
    have q4:k+1≤maxLen:=by unfold maxLen;omega
    have q5:(k+1)*16≤140737488355328:=by omega
    have q6:QX≤(X2.alloc (Obj.cells #[.string (str T)] 9)).heap.size:=by simp;omega
    clear s0 s1 s2 s3 s4 s5 s13 s26 k1 k2 k3 HJ2
    go_wp2_with (at_builtin;refine wpList_append_own _ rfl _ _ 55 rfl QX 9 i0 (.string ⟨#[]⟩) 1 16 Tryz.underlying55 hi hz0 hz1 hz2 rfl (by decide) _ k ((fiS r zs k).map strV) rfl o2 ⟨X2.heap.size,0,none⟩ 1 1 [.string (str T)] rfl rfl q2 q3 q4 q5 q6 ?_)
    intro v' w1 hown hgrow hnil
    obtain ⟨x1,x2,x3,x4,x5,x6⟩:=j5zS (i:=6) (by decide) b2 rfl o2 b4 (Nat.le_refl _) (Nat.le_refl _) (by simp;omega) hgrow hown
    rcases id hown.2 with ⟨_,hn0⟩|⟨g,cp,cur,rfl,_⟩
    ·exfalso;omega
    have HJ3:=hide (show FiJ r zs lv' sv' cv' QX (k+1) VB (w1.setCell ⟨QX,6,none⟩ (.slice (some ⟨g,0,none⟩) (k+1) cp)) from ⟨some ⟨g,0,none⟩,cp,HOK.out h0,x3,by rw[HFS.out,List.map_append];exact x4,x5⟩)
    have gw:(w1.setCell ⟨QX,6,none⟩ (.slice (some ⟨g,0,none⟩) (k+1) cp)).heap[w.heap.size]?=some (.cells RQ 57 (0,0)):=(x6 _ (by simp;omega) (qYYy o2 gz (by decide)) (by omega)).trans gz
    obtain ⟨r0,_⟩:=HRC.out _ gw
    clear x3 x4 x5 x6 gw gz b2 o2 c2 b4 hown hgrow hnil
    have hwm2:IntKind.i64.wrap (RN*r.w)=(M:Int):=by rw[hM];exact hwm
    go_wp2
    go_roundw
    case rel =>
     refine ⟨k+1,hlt,by go_num,⟨_,_,_,rfl,fun h=>?_⟩,HJ3.out⟩
     obtain ⟨e,e'⟩:=HNX.out h
     have:=HNP.out
     have:=HCP2.out
     have:=HOP.out
     rw[←HAD.out,if_neg,Addr.add_lit,e]
     ·refine ⟨by rw[←HOP.out,Nat.add_assoc],by omega,by omega⟩
     ·omega
    case measure=>simp[intOf];omega
   ·rcases HEI.out with he|he
    ·exact absurd he h0
    rw[he]
    have hzf:=HFF.out h0
    rw[HCN.out] at hzf
    have hee:E=4:=by rw[HE.out,hzf];rfl
    subst hee
    clear k1 k2 k3 k4
    have g3:=(hUX.block _ hl3).trans a3
    have HG:=hide (setRow_heap _ _ _ rawZ _ _ g3)
    have HBF:=hide (below_setRow (g:=w.heap.size+2) (quJN HB.out hUX) (by omega) rawZ)
    go_wp2_with (refine wpList_store_row rfl 57 _ _ rfl (w.heap.size+2) rawZ rfl rfl _ _ g3 iz rfl oz ?_)
    refine bodyPost_ret (v:=.tuple #[.agg rawZ,.int .i64 4]) (zu5m Tryz.results19 _ _ _ _ _ rfl rfl HG.out iz) rfl ⟨HBF.out,.inr ⟨by decide,rfl⟩⟩
  ·have hd:decide ((k:Int)<(C:Int))=false:=by simp;omega
   obtain rfl:k=C:=by omega
   have he:E=0:=by rw[HE.out,if_pos j1]
   subst he
   have g3:=(hUQ2.block _ hl3).trans a3
   obtain ⟨RA,hRA⟩:∃RA,rawA r lv' (.slice so k cap) sv' cv'=RA:=⟨_,rfl⟩
   have i1:(Tryz.prog.info? 57).map (·.size)=some RA.size:=by rw[←hRA];kernel_rfl
   have i2:(rawZ:Array Value).size=RA.size:=by rw[←hRA];rfl
   have hIF:IsRaw wr (qtvI r zs) lv' (.slice so k cap) sv' cv':=⟨HIB.out.lens.below j4 (by omega),zGcC.own (base:=QX) (by rw[show (qtvI r zs).strips=fiS r zs k by rw[qtvI,HCN.out]];simpa [fiS] using j3) (by rw[show (qtvI r zs).strips=fiS r zs k by rw[qtvI,HCN.out]];simp[fiS];omega),HIB.out.plan.spots.below j4 (by omega),HIB.out.plan.curve.below j4 (by omega)⟩
   have hos:RA.all (·.oneCell')=true:=by rw[←hRA];exact (XIRQ hIF:(rawA (qtvI r zs) lv' (.slice so k cap) sv' cv').all (·.oneCell')=true)
   have HRA:=hide hRA
   have d1:wr.heap[QX]?=some (.cells RA 57 (0,0)):=by rw[←hRA];exact j2
   have HG:=hide (setRow_heap _ _ _ RA _ _ g3)
   have HBF:=hide (below_setRow (g:=w.heap.size+2) (quJN HB.out hUQ2) (by omega) RA)
   have hfo:=Fresh.own j3
   obtain ⟨f1,f3,f4⟩:=HFR.out
   have HIF:=hide (hIF.other (k:=w.heap.size+2) (w':=wr.setRow (w.heap.size+2) RA) (B:=U.heap.size) (by simp) (fun b hb=>setRow_other _ _ _ _ hb) hl3 f1 (hfo.mono hUQ) f3 f4)
   have hw:w.heap.size≤U.heap.size:=by omega
   have HFZ:=hide (show Fresh w.heap.size lv'∧Fresh w.heap.size (.slice so k cap)∧Fresh w.heap.size sv'∧Fresh w.heap.size cv' from ⟨f1.mono hw,hfo.mono (by omega),f3.mono hw,f4.mono hw⟩)
   clear hRA f1 f3 f4 hfo hIF j1 j2 j3 j4 HJ hao
   go_wp2_with (first|refine wpList_load_row rfl 57 _ rfl _ rfl _ _ _ _ d1 Tryz.underlying57 rfl i1 ?_|refine wpList_store_row rfl 57 _ _ rfl (w.heap.size+2) RA rfl rfl _ _ g3 i1 i2 hos ?_)
   have HRF:=hide (show rawA (qtvI r zs) lv' (.slice so k cap) sv' cv'=RA from HRA.out)
   first
   | refine bodyPost_ret (v:=.tuple #[.agg RA,.int .i64 0]) (zu5m Tryz.results19 _ _ _ _ _ rfl rfl HG.out i1) rfl ⟨HBF.out,_,_,_,_,by rw[HRF.out],HIF.out,HFZ.out⟩
   | refine bodyPost_ret (v:=.tuple #[.agg RA,.int .i64 0]) (zu5m Tryz.results19 _ _ _ _ _ rfl rfl HG.out i1) rfl ⟨HBF.out,.inl ⟨rfl,_,_,_,_,by rw[HRF.out],HIF.out,HFZ.out⟩⟩
end Go.Proofs.YtfjeonehdlphiaaGreatDoor

namespace Go.Proofs.YtfjeonehdlphiaaGreatDoor
open Go.RowKit
theorem zEmR (l:List UInt8) (s:ByteArray):((str l).toList == s.toList)=decide (l=s.data.toList):=by
 rw[Lib.toList_data,Lib.toList_data,jrcE,Bool.eq_iff_iff,decide_eq_true_eq,beq_iff_eq]
end Go.Proofs.YtfjeonehdlphiaaGreatDoor

namespace Go.Proofs.YtfjeonehdlphiaaGreatDoor
open Go.RowKit
theorem ints4 (w:World) (a b c d:Int):jCvT (w.alloc (.cells #[.int .i64 a,.int .i64 b,.int .i64 c,.int .i64 d] 3)) (.slice (some ⟨w.heap.size,0,none⟩) 4 4) [a,b,c,d] :=
 jCvT.own (base:=w.heap.size) (World.ownsRow_lit w #[.int .i64 a,.int .i64 b,.int .i64 c,.int .i64 d] 4 (Nat.le_refl _) (by decide) (by simp)) (by simp)
end Go.Proofs.YtfjeonehdlphiaaGreatDoor

namespace Go.Proofs.YtfjeonehdlphiaaGreatDoor
open Go.RowKit
theorem qwe2 (w:World):Calls Tryz.prog 105 #[] w fun e w'=>∃r,e=.returned r∧jCvT w' r [2,3,3,4,4,4,5,5,5,6,6,6,7,7,7,8,8]∧Below w.heap.size w w':=by
 go_enter Tryz.func105,Tryz.ntmps105
 go_wp2
 go_ret
 exact ⟨_,rfl,jCvT.own (base:=w.heap.size) (World.ownsRow_lit w #[.int .i64 2,.int .i64 3,.int .i64 3,.int .i64 4,.int .i64 4,.int .i64 4,.int .i64 5,.int .i64 5,.int .i64 5,.int .i64 6,.int .i64 6,.int .i64 6,.int .i64 7,.int .i64 7,.int .i64 7,.int .i64 8,.int .i64 8] 17 (Nat.le_refl _) (by decide) (by decide)) (by decide),qUNz _ _⟩
end Go.Proofs.YtfjeonehdlphiaaGreatDoor

namespace Go.Proofs.YtfjeonehdlphiaaGreatDoor
def idM (k:Nat):Int:=if k=0∨k=4∨k=8 then 4096 else 0
def jkrq:Plan:=⟨0,fun _=>0,65535,[],fun _=>256,idM,[(0,0),(65535,65535)],64⟩
end Go.Proofs.YtfjeonehdlphiaaGreatDoor

namespace Go.Proofs.YtfjeonehdlphiaaGreatDoor
open Go.RowKit
theorem znBh (w:World) (ls:List Pt) (cs:Array Value) (t:TypeId) (n:Nat) (hn:ls.length=n) (hc:∀j,j<n→cs[j*2]?=some (.int .i64 (ptAt ls j).1)∧cs[j*2+1]?=some (.int .i64 (ptAt ls j).2)) (hb:n≤4096):IsPts (w.alloc (.cells cs t)) (.slice (some ⟨w.heap.size,0,none⟩) n n) ls:=by
 subst hn
 refine ⟨_,_,rfl,by omega,.inr ⟨w.heap.size,0,rfl,by simp,fun j hj=>?_⟩⟩
 obtain ⟨h1,h2⟩:=hc j hj
 rw[Nat.zero_add]
 exact ⟨by rw[Lib.cell_of_heap (al1 w _)];exact h1,by rw[Lib.cell_of_heap (al1 w _)];exact h2⟩
end Go.Proofs.YtfjeonehdlphiaaGreatDoor

namespace Go.Proofs.YtfjeonehdlphiaaGreatDoor
set_option linter.unusedVariables false
open Go.RowKit
abbrev qQNe (cv:Value):Array Value:=#[.int .i64 0,.int .i64 0,.int .i64 0,.int .i64 0,.int .i64 0,.int .i64 65535,.slice none 0 0,.int .i64 256,.int .i64 256,.int .i64 256,.int .i64 4096,.int .i64 0,.int .i64 0,.int .i64 0,.int .i64 4096,.int .i64 0,.int .i64 0,.int .i64 0,.int .i64 4096,cv,.int .i64 64]
theorem XZoI (w:World):Calls Tryz.prog 145 #[] w fun e w'=>∃v,e=.returned v∧IsPts w' v [(0,0),(65535,65535)]∧Below w.heap.size w w'∧Fresh w.heap.size v:=by
 go_enter Tryz.func145,Tryz.ntmps145
 go_wp2
 go_ret
 refine ⟨_,rfl,znBh w [(0,0),(65535,65535)] _ _ 2 rfl (fun j hj=>?_) (by omega),qUNz _ _,fun b e=>?_,Nat.le_refl _⟩
 ·rcases (show j=0∨j=1 by omega) with rfl|rfl<;>exact ⟨rfl,rfl⟩
 ·cases e
  exact Nat.le_refl _
set_option maxRecDepth 100000 in
set_option maxHeartbeats 1600000 in
theorem zcoU (w:World):Calls Tryz.prog 91 #[] w fun e w'=>∃cv,e=.returned (.agg (qQNe cv))∧X1uD w' jkrq (.slice none 0 0) cv∧Below w.heap.size w w':=by
 have a1:=al1 w (Obj.cells planZ 51)
 have hl:=(Array.getElem?_eq_some_iff.1 a1).1
 have HB:=hide (qUNz w (Obj.cells planZ 51))
 go_enter Tryz.func91,Tryz.ntmps91
 go_wp2_with fail
 refine (XZoI _).mono ?_
 rintro e w1 ⟨v,rfl,hv,hb,hfr⟩
 have g1:=(hb.block _ hl).trans a1
 have hB:=quJN HB.out hb
 have HV:=hide hv
 obtain ⟨co,cc,rfl,x1,x2⟩:=hv
 clear x1 x2
 have i1:(Tryz.prog.info? 51).map (·.size)=some (qQNe (.slice co 2 cc)).size:=by kernel_rfl
 have i3:(qQNe (.slice co 2 cc)).all (·.oneCell')=true:=by simp[Value.oneCell']
 have HX:=hide (HV.out.other (k:=w.heap.size) (w':=w1.setRow w.heap.size (qQNe (.slice co 2 cc))) (by simp) (fun b hb=>setRow_other _ _ _ _ hb) (hfr.ne hl))
 have HF:=hide (below_setRow (g:=w.heap.size) hB (Nat.le_refl _) (qQNe (.slice co 2 cc)))
 have HG:=hide (setRow_heap _ _ _ (qQNe (.slice co 2 cc)) _ _ g1)
 go_wp2_with (refine wpList_store_row rfl 51 _ _ rfl w.heap.size (qQNe (.slice co 2 cc)) rfl rfl _ _ g1 i1 rfl i3 ?_)
 refine bodyPost_ret (v:=.agg (qQNe (.slice co 2 cc))) (results_cell_row Tryz.results91 _ _ _ _ _ _ _ rfl HG.out Tryz.underlying51 rfl (by kernel_rfl)) rfl ⟨_,rfl,⟨⟨none,0,rfl,by decide,.inl rfl⟩,HX.out⟩,HF.out⟩
end Go.Proofs.YtfjeonehdlphiaaGreatDoor

namespace Go.Proofs.YtfjeonehdlphiaaGreatDoor
set_option linter.unusedVariables false
open Go.RowKit
theorem qH5P {P:Program} {ops:Array Oper} {rest:List Oper} {o:Oper} {a:Act} {w:World} {Q:Exit→Act→World→Prop} (hg:o.guard=none) (t:TypeId) (parts:Array (Nat×Operand)) (ho:o.op=.build t parts) (cs:Array Value)
  (hf:P.built t (parts.map fun (i,x)=>(i,a.eval x)).toList=some cs)
  (h:wpList P ops Q rest (a.put o.dst (.agg cs)) w):wpList P ops Q (o::rest) a w :=
 wpList_build hg t parts ho (by rw[hf];rfl) (by rw[hf];exact h)
theorem zKhU (w:World):Calls Tryz.prog 106 #[] w fun e w'=>∃so sc,e=.returned (.agg #[.int .i64 2,.int .i64 2,.slice so 4 sc])∧jCvT w' (.slice so 4 sc) [10,65535,0,7]∧4≤sc∧Below w.heap.size w w':=by
 go_enter Tryz.func106,Tryz.ntmps106
 go_wp2
 have HI:=hide (ints4 (w.alloc (Obj.cells #[.int .i64 2,.int .i64 2,.slice (some ⟨w.heap.size+1,0,none⟩) 4 4] 54)) 10 65535 0 7)
 rw[World.size_alloc] at HI
 refine bodyPost_ret (v:=.agg #[.int .i64 2,.int .i64 2,.slice (some ⟨w.heap.size+1,0,none⟩) 4 4]) (by simp[results,Tryz.results106,go_sem]) rfl ⟨_,_,rfl,HI.out,Nat.le_refl _,quJN (qUNz _ _) (qUNz _ _)⟩
def fileR:RawF:=⟨2,2,16,7,1,[2,3,3,4,4,4,5,5,5,6,6,6,7,7,7,8,8],[],jkrq⟩
def fileF:RawF:=qtvI fileR [10,65535,0,7]
theorem qVTJ:XQ5R fileR 2 2 [10,65535,0,7]=0:=by decide +kernel
theorem Xgk2:Right fileF∧zcNm fileF=[10,65535,0,7]∧XH9X fileF=2∧zq73 fileF=2∧fileF.strips.length=2:=by
 obtain ⟨h1,h2,_,_,h3,h4⟩:=q02E qVTJ
 exact ⟨h1,h2,h3,h4,by rw[fileF,qtvI,qvpy];decide⟩
set_option maxRecDepth 100000 in
set_option maxHeartbeats 3200000 in
theorem jlV2 (w:World):Calls Tryz.prog 46 #[] w fun e w'=>∃lv tv sv cv,e=.returned (.agg (rawA fileF lv tv sv cv))∧IsRaw w' fileF lv tv sv cv∧Below w.heap.size w w':=by
 have a1:=al1 w (Obj.cells rawZ 57)
 have HB:=hide (qUNz w (Obj.cells rawZ 57))
 have hl1:=(Array.getElem?_eq_some_iff.1 a1).1
 have iz:(Tryz.prog.info? 57).map (·.size)=some (rawZ:Array Value).size:=by kernel_rfl
 go_enter Tryz.func46,Tryz.ntmps46
 go_wp2_with fail
 generalize w.alloc (Obj.cells rawZ 57)=U at *
 refine (qwe2 U).mono ?_
 rintro e V1 ⟨lv,rfl,hI1,hb1⟩
 have HI1:=hide hI1
 obtain ⟨lo,lc,rfl,hx3,hx4⟩:=hI1
 clear hx3 hx4
 go_wp2_with fail
 refine (zcoU V1).mono ?_
 rintro e V2 ⟨cv,rfl,hP,hb2⟩
 have HP:=hide hP
 obtain ⟨ko,kc,rfl,hx1,hx2⟩:=hP.curve
 clear hP hx1 hx2
 rw[show jkrq.curve.length=2 from rfl] at HP ⊢
 rw[show ([2,3,3,4,4,4,5,5,5,6,6,6,7,7,7,8,8]:List Int).length=17 from rfl] at HI1
 obtain ⟨RA,hRA⟩:∃RA:Array Value,#[.int .i64 2,.int .i64 2,.int .i64 16,.int .i64 7,.int .i64 1,.slice lo 17 lc,.slice none 0 0,.int .i64 0,.int .i64 0,.int .i64 0,.int .i64 0,.int .i64 0,.int .i64 65535,.slice none 0 0,.int .i64 256,.int .i64 256,.int .i64 256,.int .i64 4096,.int .i64 0,.int .i64 0,.int .i64 0,.int .i64 4096,.int .i64 0,.int .i64 0,.int .i64 0,.int .i64 4096,.slice ko 2 kc,.int .i64 64]=RA:=⟨_,rfl⟩
 have hbu:Tryz.prog.built 57 [(0,.int .i64 2),(1,.int .i64 2),(2,.int .i64 16),(3,.int .i64 7),(4,.int .i64 1),(5,.slice lo 17 lc),(7,.agg (qQNe (.slice ko 2 kc)))]=some RA:=by rw[←hRA];kernel_rfl
 have HRW:=hide (show rawA fileR (.slice lo 17 lc) (.slice none 0 0) (.slice none 0 0) (.slice ko 2 kc)=RA from hRA)
 have HIR:=hide (show IsRaw V2 fileR (.slice lo 17 lc) (.slice none 0 0) (.slice none 0 0) (.slice ko 2 kc) from ⟨HI1.out.below hb2 (Nat.le_refl _),zGcC.nil _,HP.out.spots,HP.out.curve⟩)
 clear hRA
 dsimp only
 rename_i hKK
 refine hKK _ _ ?_
 clear hKK
 refine qH5P rfl 57 _ rfl RA ?hf ?_
 case hf=>exact Eq.trans (congrArg (Tryz.prog.built 57) (by kernel_rfl)) hbu
 simp only[Act.put,List.setIfInBounds_toArray,List.set_cons_succ,List.set_cons_zero]
 clear hbu
 go_wp2_with fail
 refine (zKhU V2).mono ?_
 rintro e V3 ⟨so,sc,rfl,hI3,hr3,hb3⟩
 have HF:=hide (XnMb fileR _ _ _ _ 2 2 (.slice so 4 sc) [10,65535,0,7] V3 (HIR.out.below hb3 (Nat.le_refl _)) hI3 hr3)
 rw[HRW.out] at HF
 have hbU:=quJN (quJN hb1 hb2) hb3
 clear hI3 hr3 hb3 hb1 hb2
 go_wp2_with fail
 refine (HF.out).mono ?_
 rintro e V4 ⟨hb4,hc⟩
 rcases hc with ⟨_,lv',tv',sv',cv',rfl,hI,f1,f2,f3,f4⟩|⟨hn,_⟩
 rotate_left
 ·exact absurd qVTJ hn
 have HO:=hide (XIRQ hI)
 have i1:(Tryz.prog.info? 57).map (·.size)=some (rawA (qtvI fileR [10,65535,0,7]) lv' tv' sv' cv').size:=by kernel_rfl
 obtain ⟨RB,hRB⟩:∃RB,rawA (qtvI fileR [10,65535,0,7]) lv' tv' sv' cv'=RB:=⟨_,rfl⟩
 rw[hRB] at i1 HO ⊢
 have HRB:=hide hRB
 have z1:=al1 V4 (Obj.cells rawZ 57)
 have i2:(rawZ:Array Value).size=RB.size:=by rw[←hRB];rfl
 have c1:=setRow_heap _ _ _ RB _ _ z1
 have HBX:=hide (below_setRow (g:=V4.heap.size) (qUNz V4 (Obj.cells rawZ 57)) (Nat.le_refl _) RB)
 have hos:=HO.out
 have hbV:=quJN hbU hb4
 have hV3:=hbU.size
 clear hRB
 go_upto_region 2 with (refine wpList_store_row rfl 57 _ _ rfl V4.heap.size RB rfl rfl _ _ z1 i1 i2 hos ?_)
 clear z1
 have g1:((V4.alloc (Obj.cells rawZ 57)).setRow V4.heap.size RB).heap[w.heap.size]?=some (.cells rawZ 57 (0,0)):=((hbV.trans (HBX.out.mono hbV.size)).block _ hl1).trans a1
 have HBF0:=hide (quJN (quJN HB.out hbV) HBX.out)
 have HI4:=hide (hI.below HBX.out (Nat.le_refl _))
 generalize (V4.alloc (Obj.cells rawZ 57)).setRow V4.heap.size RB=V5 at *
 have HG:=hide (setRow_heap _ _ _ RB _ _ g1)
 have HBF:=hide (below_setRow (g:=w.heap.size) HBF0.out (Nat.le_refl _) RB)
 have hw3:w.heap.size<V3.heap.size:=Nat.lt_of_lt_of_le hl1 hV3
 have HIF:=hide (HI4.out.other (k:=w.heap.size) (w':=V5.setRow w.heap.size RB) (B:=V3.heap.size) (by simp) (fun b hb=>setRow_other _ _ _ _ hb) hw3 f1 f2 f3 f4)
 clear f1 f2 f3 f4 hI
 go_wp2_with (first|refine wpList_load_row rfl 57 _ rfl _ rfl _ _ _ _ c1 Tryz.underlying57 rfl i1 ?_|refine wpList_store_row rfl 57 _ _ rfl w.heap.size RB rfl rfl _ _ g1 i1 i2 hos ?_)
 refine bodyPost_ret (v:=.agg RB) (results_cell_row Tryz.results46 _ _ _ _ _ _ _ rfl HG.out Tryz.underlying57 rfl i1) rfl ⟨_,_,_,_,by rw[←HRB.out];rfl,HIF.out,HBF.out⟩
end Go.Proofs.YtfjeonehdlphiaaGreatDoor

namespace Go.Proofs.YtfjeonehdlphiaaGreatDoor
set_option linter.unusedVariables false
open Go.RowKit
def onePx:List Px:=[(258,1,65535)]
theorem zA0f:picOk 1 1 onePx=true:=by decide
theorem zk2x (w:World) (o:Obj):IsPix ((w.alloc (.cells #[.int .i64 258,.int .i64 1,.int .i64 65535] 61)).alloc o) (.slice (some ⟨w.heap.size,0,none⟩) 1 1) onePx:=by
 obtain ⟨a1,a2⟩:=al2 w (.cells #[.int .i64 258,.int .i64 1,.int .i64 65535] 61) o
 obtain ⟨c0,c1,c2⟩:=z5EY a1
 refine ⟨some ⟨w.heap.size,0,none⟩,1,rfl,by decide,.inr ⟨w.heap.size,0,rfl,by simp;omega,fun j hj=>?_⟩⟩
 obtain rfl:j=0:=by have:onePx.length=1:=rfl;omega
 exact ⟨c0,c1,c2⟩
theorem dig1:dig 1=[49]:=Lib.decDigits_one (by decide)
theorem dig2:dig 2=[50]:=Lib.decDigits_one (by decide)
theorem q9gr:shotB 1 1 onePx true=[80,54,10,49,32,49,10,54,53,53,51,53,10,1,2,0,1,255,255]:=by
 show headT 1 1 65535++pixB true onePx=_
 rw[headT,dig1,ja9Q]
 rfl
theorem jfqc:shotB 1 1 onePx false=[80,54,10,49,32,49,10,50,53,53,10,1,0,255]:=by
 show headT 1 1 255++pixB false onePx=_
 rw[headT,dig1,z4Wu]
 rfl
theorem fileP (r:RawF):XH9X (nrm r)=XH9X r∧zq73 (nrm r)=zq73 r∧zcNm (nrm r)=zcNm r:=by
 refine ⟨?_,?_,?_⟩
 ·unfold XH9X;rw[q7oc];rfl
 ·unfold zq73;rw[q7oc];rfl
 ·unfold zcNm;rw[q7oc];rfl
theorem fileS:XSDS (nrmP jkrq) 2 2 [10,65535,0,7] 1=0:=by decide +kernel
theorem fileT:picOk 2 2 (X1qP (nrmP jkrq) 2 2 [10,65535,0,7] 1)=true:=by decide +kernel
theorem fileU:picOk 2 2 (turnL 2 2 (X1qP (nrmP jkrq) 2 2 [10,65535,0,7] 1) (mvOf 1))=true:=by decide +kernel
theorem fileL:(turnL 2 2 (X1qP (nrmP jkrq) 2 2 [10,65535,0,7] 1) (mvOf 1)).length=4:=by decide +kernel
theorem fileB (TL:List Px) (h:TL.length=4):(shotB 2 2 TL false).length=23:=by
 rw[shotB,List.length_append,XF45,h]
 show (headT 2 2 255).length+1*(3*4)=23
 rw[headT,dig2,z4Wu]
 rfl
set_option maxRecDepth 100000 in
set_option maxHeartbeats 6400000 in
theorem XGSo (w:World) (hm:zR7W w) (hp:PowAt w):Calls Tryz.prog 13 #[] w fun e w'=>e=.returned (.bool true)∧Below w.heap.size w w':=by
 have HWR:=hide (fun (d:Bool) (v:Value) (u:World) (hu:Below w.heap.size w u) (hv:IsPix u v onePx)=>zPEb 1 1 v onePx d u (hp.below hu (Nat.le_refl _)) hv)
 rw[show wrE 1 1 onePx=0 from if_pos zA0f] at HWR
 have HWS:=hide (show ∀d,wrS 1 1 onePx d=shotB 1 1 onePx d from fun d=>if_pos zA0f)
 simp only[HWS.out] at HWR
 have HRD:=hide (fun (u:World) (hu:Below w.heap.size w u)=>XcLf (shotB 1 1 onePx true) (XB1u true zA0f) u (hp.below hu (Nat.le_refl _)))
 have HRW:=hide (fun (a b:Nat) (d:Bool) (L:List UInt8) (q:Shot (shotB 1 1 onePx true) a b d L)=>X0Ld zA0f q)
 have HNS:=hide (show ¬q74T (shotB 1 1 onePx true) from fun h=>h _ _ _ _ (zbk9 true zA0f))
 obtain ⟨hR,hZ,hW,hH,hx0⟩:=Xgk2
 clear hx0
 have HFA:=hide (fun u=>jlV2 u)
 have HRS:=hide (show rawS fileF=rawW fileF by rw[rawS,if_pos hR.zero])
 have HPE:=hide hR.zero
 have hpl:fileF.plan=jkrq:=rfl
 obtain ⟨fw,fh,fz⟩:=fileP fileF
 have HBL:=hide (show (rawW fileF).length≤140737488355328 by decide +kernel)
 have HDV:=hide (fun (u:World) (hu:Below w.heap.size w u)=>jRbr (rawW fileF) HBL.out (nrm fileF) (qOXu hR) (by rw[q7oc];exact hR.zero) 1 1 2 2 [10,65535,0,7] false (X1qP (nrmP jkrq) 2 2 [10,65535,0,7] 1) 2 2 (turnL 2 2 (X1qP (nrmP jkrq) 2 2 [10,65535,0,7] 1) (mvOf 1)) (by rw[fw];exact hW) (by rw[fh];exact hH) (by rw[fz];exact hZ) fileS rfl (by rw[turnE,if_pos fileT];decide) (by decide) (by decide) rfl fileU u (hm.below hu (Nat.le_refl _)) (hp.below hu (Nat.le_refl _)))
 have HLB:=hide (fileB _ fileL)
 generalize shotB 2 2 (turnL 2 2 (X1qP (nrmP jkrq) 2 2 [10,65535,0,7] 1) (mvOf 1)) false=BB at *
 have HWF:=hide (fun (lv tv sv cv:Value) (u:World) (hu:IsRaw u fileF lv tv sv cv)=>jk43 fileF lv tv sv cv u hu)
 rw[HRS.out,HPE.out] at HWF
 clear hR hZ hW hH fw fh fz hpl hm hp
 generalize fileF=FF at *
 generalize rawW FF=RW at *
 obtain ⟨S1,hS1⟩:∃S1,shotB 1 1 onePx true=S1:=⟨_,rfl⟩
 obtain ⟨S2,hS2⟩:∃S2,shotB 1 1 onePx false=S2:=⟨_,rfl⟩
 have hs1:((str S1).toList == (⟨#[80,54,10,49,32,49,10,54,53,53,51,53,10,1,2,0,1,255,255]⟩:ByteArray).toList)=true:=by rw[←hS1,q9gr];exact zEmR _ _ |>.trans (by decide)
 have hs2:((str S2).toList == (⟨#[80,54,10,49,32,49,10,50,53,53,10,1,0,255]⟩:ByteArray).toList)=true:=by rw[←hS2,jfqc];exact zEmR _ _ |>.trans (by decide)
 have ht1:(str S1).toList=[80,54,10,49,32,49,10,54,53,53,51,53,10,1,2,0,1,255,255]:=by simpa using hs1
 have ht2:(str S2).toList=[80,54,10,49,32,49,10,50,53,53,10,1,0,255]:=by simpa using hs2
 have HW1:=hide (fun v u hu hv=>HWR.out true v u hu hv)
 have HW2:=hide (fun v u hu hv=>HWR.out false v u hu hv)
 rw[hS1] at HW1 HRD HRW HNS
 rw[hS2] at HW2
 have hB23:(str BB).size=23:=by rw[qzX5];exact HLB.out
 clear HWR HWS HRS HPE hS1 hS2 HLB HBL
 obtain ⟨a1,a2⟩:=al2 w (.cells #[.int .i64 258,.int .i64 1,.int .i64 65535] 61) (Obj.cells #[.int .i64 1,.int .i64 1,.slice (some ⟨w.heap.size,0,none⟩) 1 1] 24)
 have HQ:=hide (zk2x w (Obj.cells #[.int .i64 1,.int .i64 1,.slice (some ⟨w.heap.size,0,none⟩) 1 1] 24))
 have HB:=hide (be2 w (.cells #[.int .i64 258,.int .i64 1,.int .i64 65535] 61) (Obj.cells #[.int .i64 1,.int .i64 1,.slice (some ⟨w.heap.size,0,none⟩) 1 1] 24))
 have hl2:=(Array.getElem?_eq_some_iff.1 a2).1
 obtain ⟨p0,p1,p2⟩:=z5EY a2
 go_enter Tryz.func13,Tryz.ntmps13
 go_wp2_with fail
 clear p0 p1 p2 a1
 generalize (w.alloc (.cells #[.int .i64 258,.int .i64 1,.int .i64 65535] 61)).alloc (Obj.cells #[.int .i64 1,.int .i64 1,.slice (some ⟨w.heap.size,0,none⟩) 1 1] 24)=U at *
 refine (HW1.out _ U HB.out HQ.out).mono ?_
 rintro e V1 ⟨rfl,hb1⟩
 obtain ⟨p0,p1,p2⟩:=z5EY ((hb1.block _ hl2).trans a2)
 go_wp2_with fail
 clear p0 p1 p2
 refine (HW2.out _ V1 (quJN HB.out hb1) (HQ.out.below hb1 (Nat.le_refl _))).mono ?_
 rintro e V2 ⟨rfl,hb2⟩
 replace hb2:=quJN hb1 hb2
 clear hb1 HW1 HW2
 go_wp2_with fail
 refine (HRD.out V2 (quJN HB.out hb2)).mono ?_
 clear HRD
 rintro e V3 ⟨hb3,hc⟩
 rcases hc with hc|⟨hno,_⟩
 rotate_left
 ·exact absurd hno HNS.out
 obtain ⟨a,b,d,L,rv,hsh,rfl,hr,hfr⟩:=hc
 obtain ⟨ea,eb,rfl,epx⟩:=HRW.out _ _ _ _ hsh
 rw[epx] at hr
 rw[ea,eb]
 clear epx ea eb hsh HRW HNS hfr
 have HR:=hide hr
 obtain ⟨ro,rc,rfl,hx1,hx2⟩:=hr
 clear hx1 hx2
 rw[show onePx.length=1 from rfl] at HR ⊢
 have t1:=al1 V3 (Obj.cells #[.int .i64 1,.int .i64 1,.slice ro 1 rc] 24)
 have HR2:=hide (HR.out.alloc (Obj.cells #[.int .i64 1,.int .i64 1,.slice ro 1 rc] 24))
 have hb4:=quJN (quJN hb2 hb3) (qUNz V3 (Obj.cells #[.int .i64 1,.int .i64 1,.slice ro 1 rc] 24))
 have lt1:=(Array.getElem?_eq_some_iff.1 t1).1
 clear hb2 hb3 HR
 go_wp2_with fail
 generalize V3.alloc (Obj.cells #[.int .i64 1,.int .i64 1,.slice ro 1 rc] 24)=U4 at *
 generalize V3.heap.size=QB at *
 refine (HFA.out U4).mono ?_
 rintro e V5 ⟨lv,tv,sv,cv,rfl,hI,hb5⟩
 have HWQ:=hide (HWF.out lv tv sv cv V5 hI)
 obtain ⟨RA,hRA⟩:∃RA,rawA FF lv tv sv cv=RA:=⟨_,rfl⟩
 rw[hRA] at HWQ ⊢
 clear hRA hI HFA HWF
 go_wp2_with fail
 refine (HWQ.out).mono ?_
 rintro e V6 ⟨rfl,hb6⟩
 have hb56:=quJN hb5 hb6
 have hbU:=quJN hb4 hb56
 clear hb5 hb6 HWQ
 go_wp2_with fail
 refine (HDV.out V6 (quJN HB.out hbU)).mono ?_
 rintro e V7 ⟨rfl,hb7⟩
 have hb57:=quJN hb56 hb7
 have hbV:=quJN hbU hb7
 clear HDV hb56 hbU hb7
 obtain ⟨p0,p1,p2⟩:=z5EY ((hbV.block _ hl2).trans a2)
 obtain ⟨q0,q1,q2⟩:=z5EY ((hb57.block _ lt1).trans t1)
 have HSM:=hide (XIqO 1 1 _ onePx 1 1 _ onePx V7 (HR2.out.below hb57 (Nat.le_refl _)) (HQ.out.below hbV (Nat.le_refl _)))
 rw[show sameB 1 1 onePx 1 1 onePx=true by simp[sameB]] at HSM
 have HBV:=hide (quJN HB.out hbV)
 clear hb57 hbV hb4 a2 t1 hl2 lt1
 go_wp2_with fail
 refine (HSM.out).mono ?_
 rintro e V8 ⟨rfl,hb8⟩
 have HBF:=hide (quJN HBV.out hb8)
 clear hb8 p0 p1 p2 q0 q1 q2
 go_wp2
 go_ret
 exact ⟨rfl,HBF.out⟩
end Go.Proofs.YtfjeonehdlphiaaGreatDoor

namespace Go.Proofs.YtfjeonehdlphiaaGreatDoor
set_option linter.unusedVariables false
open Go.RowKit
set_option maxRecDepth 100000 in
set_option maxHeartbeats 6400000 in
theorem qdEg (W H:Int) (v:Value) (ps:List Px) (a1:ByteArray) (hs:a1.size≤140737488355328) (w:World) (hm:zR7W w) (hp:PowAt w) (hv:IsPix w v ps) :
  Calls Tryz.prog 5 #[.agg #[.int .i64 W,.int .i64 H,v],.string a1] w fun e w'=>e=.returned (.bool true)∧Below w.heap.size w w':=by
 obtain ⟨s,rfl⟩:∃s,a1=str s:=⟨a1.data.toList,rfl⟩
 rw[qzX5] at hs
 have HWR:=hide (fun (u:World) (hu:Below w.heap.size w u)=>zPEb W H v ps true u (hp.below hu (Nat.le_refl _)) (hv.below hu (Nat.le_refl _)))
 have HRD:=hide (fun (t:List UInt8) (ht:t.length≤140737488355328) (u:World) (hu:Below w.heap.size w u)=>XcLf t ht u (hp.below hu (Nat.le_refl _)))
 have HW2:=hide (fun (a b:Nat) (d:Bool) (qv:Value) (qs:List Px) (u:World) (hu:Below w.heap.size w u) (hq:IsPix u qv qs)=>zPEb a b qv qs d u (hp.below hu (Nat.le_refl _)) hq)
 have HBG:=hide (fun (u:World) (hu:Below w.heap.size w u)=>XGSo u (hm.below hu (Nat.le_refl _)) (hp.below hu (Nat.le_refl _)))
 have HV:=hide hv
 obtain ⟨vo,vc,rfl,hx1,hx2⟩:=hv
 clear hx1 hx2 hm hp
 have a1:=al1 w (Obj.cells #[.int .i64 W,.int .i64 H,.slice vo ps.length vc] 24)
 have HB:=hide (qUNz w (Obj.cells #[.int .i64 W,.int .i64 H,.slice vo ps.length vc] 24))
 have hl1:=(Array.getElem?_eq_some_iff.1 a1).1
 obtain ⟨p0,p1,p2⟩:=z5EY a1
 have HRW:=hide (fun (h:picOk W H ps=true) (a b:Nat) (d:Bool) (L:List UInt8) (q:Shot (shotB W H ps true) a b d L)=>X0Ld h q)
 have HNS:=hide (fun (h:picOk W H ps=true) (q:q74T (shotB W H ps true))=>q _ _ _ _ (zbk9 true h))
 have HLN:=hide (fun (h:picOk W H ps=true)=>XB1u true h)
 have HWE:=hide (show wrE W H ps=if picOk W H ps=true then 0 else 1 from rfl)
 have HWS:=hide (show wrS W H ps true=if picOk W H ps=true then shotB W H ps true else [] from rfl)
 generalize wrE W H ps=WE at *
 generalize wrS W H ps true=WS at *
 generalize shotB W H ps true=SB at *
 go_enter Tryz.func5,Tryz.ntmps5
 go_wp2_with fail
 clear p0 p1 p2
 generalize w.alloc (Obj.cells #[.int .i64 W,.int .i64 H,.slice vo ps.length vc] 24)=U at *
 refine (HWR.out U HB.out).mono ?_
 clear HWR
 rintro e V1 ⟨rfl,hb1⟩
 have HB1:=hide (quJN HB.out hb1)
 have g1:=(hb1.block _ hl1).trans a1
 have hl2:=(Array.getElem?_eq_some_iff.1 g1).1
 clear hb1 a1 HB
 go_upto_if 21 with fail
 go_cut [7,8,9] from 15 (fun x1 x2 x3 v=>Below w.heap.size w v)
 case first =>
  by_cases hok:picOk W H ps=true
  rotate_left
  ·obtain rfl:WE=1:=by rw[HWE.out,if_neg hok]
   go_wp2
   go_meet
   case rel=>exact HB1.out
  obtain rfl:WE=0:=by rw[HWE.out,if_pos hok]
  obtain rfl:WS=SB:=by rw[HWS.out,if_pos hok]
  go_wp2_with fail
  refine (HRD.out _ (HLN.out hok) V1 HB1.out).mono ?_
  rintro e V2 ⟨hb2,hc⟩
  rcases hc with hc|⟨hno,_⟩
  rotate_left
  ·exact absurd hno (HNS.out hok)
  obtain ⟨a,b,d,L,rv,hsh,rfl,hr,hfr⟩:=hc
  obtain ⟨ea,eb,rfl,epx⟩:=HRW.out hok _ _ _ _ hsh
  rw[epx] at hr
  rw[ea,eb]
  clear epx ea eb hsh hfr
  have HR:=hide hr
  obtain ⟨ro,rc,rfl,hx1,hx2⟩:=hr
  clear hx1 hx2
  have t1:=al1 V2 (Obj.cells #[.int .i64 W,.int .i64 H,.slice ro ps.length rc] 24)
  have hb3:=quJN hb2 (qUNz V2 (Obj.cells #[.int .i64 W,.int .i64 H,.slice ro ps.length rc] 24))
  have g2:=(hb3.block _ hl2).trans g1
  obtain ⟨p0,p1,p2⟩:=z5EY g2
  obtain ⟨q0,q1,q2⟩:=z5EY t1
  have HSM:=hide (XIqO W H _ ps W H _ ps _ (HR.out.alloc (Obj.cells #[.int .i64 W,.int .i64 H,.slice ro ps.length rc] 24)) (HV.out.below (quJN HB1.out hb3) (Nat.le_refl _)))
  rw[show sameB W H ps W H ps=true by simp[sameB]] at HSM
  have HB3:=hide (quJN HB1.out hb3)
  clear hb2 hb3 g1 g2 t1 HR
  go_wp2_with fail
  clear p0 p1 p2 q0 q1 q2
  generalize V2.alloc (Obj.cells #[.int .i64 W,.int .i64 H,.slice ro ps.length rc] 24)=U2 at *
  refine (HSM.out).mono ?_
  rintro e V3 ⟨rfl,hb4⟩
  have HBF:=hide (quJN HB3.out hb4)
  clear hb4 HSM
  go_wp2
  go_meet
  case rel=>exact HBF.out
 case rest =>
  have HC:=hide hcut
  clear hcut HB1 g1 hl2 HWE HWS HRW HNS HLN
  go_wp2_with fail
  refine (HRD.out s hs wc HC.out).mono ?_
  rintro e V2 ⟨hb2,hc⟩
  rcases hc with hc|⟨hno,rfl⟩
  rotate_left
  ·have HB3:=hide (quJN (quJN HC.out hb2) (qUNz V2 (Obj.cells #[.int .i64 0,.int .i64 0,.slice none 0 0] 24)))
   clear hb2
   go_wp2_with fail
   refine (HBG.out _ HB3.out).mono ?_
   rintro e V3 ⟨rfl,hb3⟩
   have HBF:=hide (quJN HB3.out hb3)
   clear hb3
   go_wp2
   go_ret
   exact ⟨rfl,HBF.out⟩
  obtain ⟨a,b,d,L,rv,hsh,rfl,hr,hfr⟩:=hc
  have HE:=hide (show wrE a b (pixOf d L (b*a))=0 from if_pos (jgeb hsh))
  have HS:=hide (show wrS a b (pixOf d L (b*a)) d=s by rw[wrS,if_pos (jgeb hsh),hsh.bytes])
  clear hsh hfr
  have HR:=hide hr
  obtain ⟨ro,rc,rfl,hx1,hx2⟩:=hr
  clear hx1 hx2
  generalize pixOf d L (b*a)=PX at *
  obtain ⟨N,hN⟩:∃N,PX.length=N:=⟨_,rfl⟩
  rw[hN] at HR ⊢
  clear hN
  have t1:=al1 V2 (Obj.cells #[.int .i64 a,.int .i64 b,.slice ro N rc] 24)
  have HB3:=hide (quJN (quJN HC.out hb2) (qUNz V2 (Obj.cells #[.int .i64 a,.int .i64 b,.slice ro N rc] 24)))
  have HWQ:=hide (HW2.out a b d _ PX _ HB3.out (HR.out.alloc (Obj.cells #[.int .i64 a,.int .i64 b,.slice ro N rc] 24)))
  rw[HE.out,HS.out] at HWQ
  obtain ⟨q0,q1,q2⟩:=z5EY t1
  clear hb2 HR t1 HW2
  go_wp2_with fail
  clear q0 q1 q2
  generalize V2.alloc (Obj.cells #[.int .i64 (a:Int),.int .i64 (b:Int),.slice ro N rc] 24)=U2 at *
  refine (HWQ.out).mono ?_
  rintro e V3 ⟨rfl,hb4⟩
  have HB4:=hide (quJN HB3.out hb4)
  clear hb4 HWQ HRD
  have hst:((str s).toList == (str s).toList)=true:=by simp
  go_wp2_with fail
  refine (HBG.out _ HB4.out).mono ?_
  rintro e V5 ⟨rfl,hb5⟩
  have HBF:=hide (quJN HB4.out hb5)
  clear hb5
  go_wp2
  go_ret
  exact ⟨rfl,HBF.out⟩
end Go.Proofs.YtfjeonehdlphiaaGreatDoor

namespace Go.Proofs.YtfjeonehdlphiaaGreatDoor
open Go.RowKit Go.ChangeShapes
set_option linter.unusedVariables false
theorem qebV {H:Type} {enc:TypeId×Value→H} {P:Program} {w:World} {base:Nat} {sp:Nat→Bool} {held:Bool} {fuel:Nat} {t e tb:TypeId} {f0 f1 f2:Field} {cs:List Value} {p:List MemPlace} {ms:List Mv}
  (ht:P.underlying t=some (.array 8 e)) (he:P.underlying e=some (.struct #[f0,f1,f2])) (h0:f0.type=tb) (h1:f1.type=tb) (h2:f2.type=tb) (o0:f0.offset=0) (o1:f1.offset=1) (o2:f2.offset=2) (hb:P.underlying tb=some .bool) (cb:P.cellsOf tb=1) (ce:P.cellsOf e=3)
  (h:DataW.trod enc P w base sp held fuel t cs=some (.agg (ms.map fun m=>.agg [.lit (.bool m.1),.lit (.bool m.2.1),.lit (.bool m.2.2)]),p)) (i:Nat) (hi:i<8) (m:Mv) (hm:ms[i]?=some m) :
  cs[i*3]?=some (.bool m.1)∧cs[i*3+1]?=some (.bool m.2.1)∧cs[i*3+2]?=some (.bool m.2.2):=by
 obtain ⟨xs,n,_,hx,_,hl,hel⟩:=DataW.trod_array ht h
 have hE:=hel i hi
 rw[ce,List.getElem?_eq_getElem (by omega)] at hE
 obtain ⟨ys,n2,_,hy,_,hyl,hye⟩:=DataW.trod_struct he hE
 have hyl':ys.length=3:=hyl
 have e0:=hye 0 f0 rfl
 have e1:=hye 1 f1 rfl
 have e2:=hye 2 f2 rfl
 rw[h0,o0,cb,List.getElem?_eq_getElem (by omega)] at e0
 rw[h1,o1,cb,List.getElem?_eq_getElem (by omega)] at e1
 rw[h2,o2,cb,List.getElem?_eq_getElem (by omega)] at e2
 obtain ⟨b0,c0,y0⟩:=DataW.trod_bool hb e0
 obtain ⟨b1,c1,y1⟩:=DataW.trod_bool hb e1
 obtain ⟨b2,c2,y2⟩:=DataW.trod_bool hb e2
 have hxi:(xs.map (·.1))[i]?=some (.agg [.lit (.bool m.1),.lit (.bool m.2.1),.lit (.bool m.2.2)]):=by
  have:=congrArg Prod.fst hx
  simp only at this
  have h3:ms.map (fun m=>(DataW.agg [.lit (.bool m.1),.lit (.bool m.2.1),.lit (.bool m.2.2)]:DataW H))=xs.map (·.1):=by
   have h4:=this
   simp only[DataW.agg.injEq] at h4
   exact h4
  rw[←h3,List.getElem?_map,hm]
  rfl
 rw[List.getElem?_map,List.getElem?_eq_getElem (by omega),hy] at hxi
 have hyy:ys.map (·.1)=[.lit (.bool m.1),.lit (.bool m.2.1),.lit (.bool m.2.2)]:=by
  simpa using hxi
 have z0:(ys.map (·.1))[0]?=some (DataW.lit (.bool b0):DataW H):=by rw[List.getElem?_map,List.getElem?_eq_getElem (by omega),y0];rfl
 have z1:(ys.map (·.1))[1]?=some (DataW.lit (.bool b1):DataW H):=by rw[List.getElem?_map,List.getElem?_eq_getElem (by omega),y1];rfl
 have z2:(ys.map (·.1))[2]?=some (DataW.lit (.bool b2):DataW H):=by rw[List.getElem?_map,List.getElem?_eq_getElem (by omega),y2];rfl
 rw[hyy] at z0 z1 z2
 simp at z0 z1 z2
 subst z0 z1 z2
 have g:∀(k:Nat) (v:Value),((((cs.drop (i*3)).take 3).drop k).take 1)=[v]→k<3→cs[i*3+k]?=some v:=fun k v hk hk3=>by
  have h0:((((cs.drop (i*3)).take 3).drop k).take 1)[0]?=some v:=by rw[hk];rfl
  rw[List.getElem?_take_of_lt (by omega),List.getElem?_drop,List.getElem?_take_of_lt (by omega),List.getElem?_drop] at h0
  exact h0
 exact ⟨g 0 _ c0 (by omega),g 1 _ c1 (by omega),g 2 _ c2 (by omega)⟩
theorem zsTb:Tryz.prog.globalNamed "darkslide/turn.moves" = some 0:=by kernel_rfl
theorem qLVO:(Tryz.prog.globals[0]?).map (·.type)=some 167:=by kernel_rfl
theorem j3Dr:Tryz.prog.cellsOf 119=3:=by kernel_rfl
theorem XLyy:Tryz.prog.cellsOf 4=1:=by kernel_rfl
theorem qSLc {W:World} {rest:List (String×DataW Unit)} (h:laidMet Tryz.prog (("darkslide/turn.moves",Rows.laid_darkslide_turn_moves)::rest) W):zR7W W:=by
 obtain ⟨ps,⟨g',t',cs,fuel,p,q,hg',ht',hvar,hd,_,_⟩,_⟩:=h
 obtain rfl:=Option.some.inj (zsTb.symm.trans hg')
 obtain rfl:=Option.some.inj (qLVO.symm.trans ht')
 have hrow:=fun i hi m hm=>qebV (ms:=mvL) Tryz.underlying167 Tryz.underlying119 rfl rfl rfl rfl rfl rfl Tryz.underlying4 XLyy j3Dr hd i hi m hm
 have hcell:=fun i=>World.var?_cell zsTb hvar i
 have key:∀k,k<8→W.cell? ⟨0,k*3,none⟩=some (.bool (mvAt k).1)∧W.cell? ⟨0,k*3+1,none⟩=some (.bool (mvAt k).2.1)∧W.cell? ⟨0,k*3+2,none⟩=some (.bool (mvAt k).2.2):=fun k hk=>by
  have hmk:mvL[k]?=some (mvAt k):=by
   unfold mvAt
   rw[List.getD_eq_getElem?_getD,List.getElem?_eq_getElem (show k<mvL.length from hk)]
   rfl
  obtain ⟨c0,c1,c2⟩:=hrow k hk _ hmk
  refine ⟨?_,?_,?_⟩
  ·rw[hcell];simpa using c0
  ·rw[hcell];simpa using c1
  ·rw[hcell];simpa using c2
 exact ⟨World.block_lt_of_cell? W _ (key 0 (by omega)).1,key⟩
end Go.Proofs.YtfjeonehdlphiaaGreatDoor

namespace Go.Proofs.YtfjeonehdlphiaaGreatDoor
open Go.RowKit Go.ChangeShapes
set_option linter.unusedVariables false
theorem jzlh {W:World} (h:laidMet Tryz.prog [("internal/strconv.uint64pow10",Rows.laid_internal_strconv_uint64pow10)] W):PowAt W:=by
 have ht:=Lib.tabIs_of_head (P:=Tryz.prog) (W:=W) (k:=.u64) (zs:=Lib.pow10Tab) (rest:=[]) (g:=1) (t:=268) (e:=258) (n:=20) gPow (by kernel_rfl) Tryz.underlying268 Tryz.underlying258 (by kernel_rfl) (by kernel_rfl) h
 exact ⟨World.block_lt_of_cell? W _ (ht.cell gPow 0 (by decide)),ht⟩
abbrev powA:Array Value:=(Lib.pow10Tab.map fun z=>Value.int .u64 z).toArray
abbrev br32A:Array Value:=#[.int .u8 0,.int .u8 1,.int .u8 28,.int .u8 2,.int .u8 29,.int .u8 14,.int .u8 24,.int .u8 3,.int .u8 30,.int .u8 22,.int .u8 20,.int .u8 15,.int .u8 25,.int .u8 17,.int .u8 4,.int .u8 8,.int .u8 31,.int .u8 27,.int .u8 13,.int .u8 23,.int .u8 21,.int .u8 19,.int .u8 16,.int .u8 7,.int .u8 26,.int .u8 12,.int .u8 18,.int .u8 6,.int .u8 11,.int .u8 5,.int .u8 10,.int .u8 9]
abbrev br64A:Array Value:=#[.int .u8 0,.int .u8 1,.int .u8 56,.int .u8 2,.int .u8 57,.int .u8 49,.int .u8 28,.int .u8 3,.int .u8 61,.int .u8 58,.int .u8 42,.int .u8 50,.int .u8 38,.int .u8 29,.int .u8 17,.int .u8 4,.int .u8 62,.int .u8 47,.int .u8 59,.int .u8 36,.int .u8 45,.int .u8 43,.int .u8 51,.int .u8 22,.int .u8 53,.int .u8 39,.int .u8 33,.int .u8 30,.int .u8 24,.int .u8 18,.int .u8 12,.int .u8 5,.int .u8 63,.int .u8 55,.int .u8 48,.int .u8 27,.int .u8 60,.int .u8 41,.int .u8 37,.int .u8 16,.int .u8 46,.int .u8 35,.int .u8 44,.int .u8 21,.int .u8 52,.int .u8 32,.int .u8 23,.int .u8 11,.int .u8 54,.int .u8 26,.int .u8 40,.int .u8 15,.int .u8 34,.int .u8 20,.int .u8 31,.int .u8 10,.int .u8 25,.int .u8 14,.int .u8 19,.int .u8 9,.int .u8 13,.int .u8 8,.int .u8 7,.int .u8 6]
def relay (cs:Array Value):Obj→Obj
 | .cells _ t frozen=>.cells cs t frozen
 | o=>o
end Go.Proofs.YtfjeonehdlphiaaGreatDoor

namespace Go.Proofs.YtfjeonehdlphiaaGreatDoor
open Go.RowKit Go.ChangeShapes
theorem jWjT {α:Type} (P:Nat→α→Prop) (n:Nat) (h:∀i,i<n→∃p,P i p) (d:α):∃ls:List α,ls.length=n∧∀i,i<n→P i (ls.getD i d):=by
 induction n with
 | zero=>exact ⟨[],rfl,fun i hi=>by omega⟩
 | succ n ih =>
  obtain ⟨ls,hl,hp⟩:=ih (fun i hi=>h i (by omega))
  obtain ⟨p,hp'⟩:=h n (by omega)
  refine ⟨ls++[p],by simp[hl],fun i hi=>?_⟩
  rcases Nat.eq_or_lt_of_le (show i≤n by omega) with e|hlt
  ·subst e
   rw[List.getD_eq_getElem?_getD,List.getElem?_append_right (by omega),hl]
   simpa using hp'
  ·rw[List.getD_eq_getElem?_getD,List.getElem?_append_left (by omega),←List.getD_eq_getElem?_getD]
   exact hp i hlt
end Go.Proofs.YtfjeonehdlphiaaGreatDoor

namespace Go.Proofs.YtfjeonehdlphiaaGreatDoor
open Go.RowKit Go.ChangeShapes
theorem z8eQ {W:World} {base:Nat} {a:Addr} {cs:List Value} (h:W.cells? base a 3=some cs):∃x y z,cs=[x,y,z]∧W.cell? (a.add 0)=some x∧W.cell? (a.add 1)=some y∧W.cell? (a.add 2)=some z:=by
 obtain ⟨_,hl,hc⟩:=World.cells?_some h
 match cs,hl with
 | [x,y,z],_=>exact ⟨x,y,z,rfl,hc 0 (by omega),hc 1 (by omega),hc 2 (by omega)⟩
theorem jyXd {P:Program} {H:Type} {enc:TypeId×Value→H} {W:World} {base:Nat} {spare:Nat→Bool} {held:Bool} {fuel:Nat} {t e:TypeId} {f0 f1 f2:Field} {v:Value} {x:DataW H×List MemPlace}
  (ht:P.underlying t=some (.slice e)) (he:P.underlying e=some (.struct #[f0,f1,f2])) (h0:P.underlying f0.type=some (.int .i64)) (h1:P.underlying f1.type=some (.int .i64)) (h2:P.underlying f2.type=some (.int .i64)) (o0:f0.offset=0) (o1:f1.offset=1) (o2:f2.offset=2)
  (ce:P.cellsOf e=3) (c0:P.cellsOf f0.type=1) (c1:P.cellsOf f1.type=1) (c2:P.cellsOf f2.type=1) (h:DataW.trod enc P W base spare held fuel t [v]=some x):∃ps,IsPix W v ps:=by
 rcases DataW.trod_slice ht h with ⟨hcs,_⟩|⟨a,len,cap,elems,rest,n,_,hcs,_,hb,hl,hm,hlen,hel,_,_⟩
 ·simp at hcs
  subst hcs
  exact ⟨[],IsPix.nil _⟩
 ·simp at hcs
  subst hcs
  have each:∀i,i<len→∃p:Px,W.cell? ((a.add (i*3)).add 0)=some (.int .i64 p.1)∧W.cell? ((a.add (i*3)).add 1)=some (.int .i64 p.2.1)∧W.cell? ((a.add (i*3)).add 2)=some (.int .i64 p.2.2):=by
   intro i hi
   have h2':=hel i hi
   rw[List.getElem?_eq_getElem (by omega),ce,Option.bind_eq_some_iff] at h2'
   obtain ⟨cs,hc,hy⟩:=h2'
   obtain ⟨p,q,r,rfl,hp,hq,hr⟩:=z8eQ hc
   obtain ⟨xs,m,_,_,_,hxl,hx⟩:=DataW.trod_struct he hy
   have g0:=hx 0 f0 rfl
   have g1:=hx 1 f1 rfl
   have g2:=hx 2 f2 rfl
   rw[o0,c0,List.getElem?_eq_getElem (by rw[hxl];simp)] at g0
   rw[o1,c1,List.getElem?_eq_getElem (by rw[hxl];simp)] at g1
   rw[o2,c2,List.getElem?_eq_getElem (by rw[hxl];simp)] at g2
   obtain ⟨z0,e0,_,_⟩:=DataW.trod_int h0 g0
   obtain ⟨z1,e1,_,_⟩:=DataW.trod_int h1 g1
   obtain ⟨z2,e2,_,_⟩:=DataW.trod_int h2 g2
   simp at e0 e1 e2
   subst e0 e1 e2
   exact ⟨(z0,z1,z2),hp,hq,hr⟩
  obtain ⟨ls,hll,hls⟩:=jWjT _ len each (0,0,0)
  unfold maxLen at hm
  refine ⟨ls,some a,cap,by rw[hll],by omega,?_⟩
  by_cases hz:len=0
  ·exact .inl (List.eq_nil_of_length_eq_zero (by omega))
  ·right
   obtain ⟨b,off,spot⟩:=a
   have hspot:spot=none:=by simpa [Addr.add] using World.cell?_spot (hls 0 (by omega)).1
   subst hspot
   have hk:∀j (hj:j<ls.length),W.cell? ⟨b,off+j*3,none⟩=some (.int .i64 ls[j].1)∧W.cell? ⟨b,off+j*3+1,none⟩=some (.int .i64 ls[j].2.1)∧W.cell? ⟨b,off+j*3+2,none⟩=some (.int .i64 ls[j].2.2):=by
    intro j hj
    have h2':=hls j (by omega)
    rw[Go.WideShapes.add_plain,Go.WideShapes.add_plain,Go.WideShapes.add_plain,Go.WideShapes.add_plain] at h2'
    rw[jD3W ls j hj]
    exact h2'
   exact ⟨b,off,rfl,World.block_lt_of_cell? W _ (hk 0 (by omega)).1,hk⟩
end Go.Proofs.YtfjeonehdlphiaaGreatDoor
