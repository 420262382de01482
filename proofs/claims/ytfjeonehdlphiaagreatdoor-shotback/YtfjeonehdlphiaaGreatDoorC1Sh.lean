/- Sh: part 1 of what the proofs need. -/
import Derived.WalkKit
import Derived.Laws.BytesArg
import Derived.Test.YtfjeonehdlphiaaGreatDoorProg
import Derived.WalkSpells
import Derived.WalkLawsBesides
import Derived.Deep.QuietTactic
import Derived.BigQuiet
import Derived.Lib.ItoaMem
import Derived.Lib.Strings
import Derived.Shelf.LaysM
import Derived.Shelf.Strings.Builder1
import Derived.Shelf.Strings.Builder2
import Derived.Shelf.Small.Wraps
import Derived.Shelf.Strconv.Itoa0
import Derived.Shelf.Strconv.Itoa1
import Derived.Shelf.Strconv.Itoa2
import Derived.Shelf.Strconv.Itoa3
import Derived.Shelf.Strconv.Clone
import Derived.Shelf.Strings.Search3
import Derived.Shelf.Strings.Prefix
import Derived.Ground.Names2Prog
import Derived.Shelf.Slices.Clone
import Derived.Ground.SlgnProg
import Derived.Shelf.SlicesE.Clone
import Derived.RangeFuncNested
import Derived.RangeFuncBound
import Derived.RangeFuncCalls
import Derived.RangeFuncLeaves
import Derived.Shelf.Abstract
import Derived.Shelf.RegionOpen
import Derived.OwnWalkIn
import Derived.TacticsInMore
import Derived.LoopNIn
import Derived.LoopIn
import Derived.OrdersIn
import Derived.OrdersHeld
import Derived.RangeFuncBox
import Derived.Maps.AppendAt
import Derived.Deep.RegionHeld3
import Derived.Deep.AppendLies
import Derived.OneCell
import Derived.Deep.Cut
import Derived.Deep.RegionWith
import Derived.BigRegion
namespace Go.Proofs.YtfjeonehdlphiaaGreatDoor
open Go.RowKit
theorem Xu5H {α:Type} {P:List α→Prop} (h0:P []) (h1:∀l a,P l→P (l++[a])) (l:List α):P l:=by
 have h:∀m:List α,P m.reverse:=by
  intro m
  induction m with
  | nil=>exact h0
  | cons a m ih=>rw[List.reverse_cons];exact h1 _ _ ih
 have:=h l.reverse
 rwa [List.reverse_reverse] at this
def isBit (c:UInt8):Bool:=decide (c.toNat=48∨c.toNat=49)
def allB (l:List UInt8):Bool:=l.all isBit
theorem XWpK (l:List UInt8) (c:UInt8):allB (l++[c])=(allB l && isBit c):=by simp[allB]
theorem XW0t (l m:List UInt8):allB (l++m)=(allB l && allB m):=by simp[allB]
theorem zTn5 {l:List UInt8} (h:allB l=true) (k:Nat):allB (l.take k)=true:=by
 have:=List.take_append_drop k l
 rw[←this,XW0t,Bool.and_eq_true] at h;exact h.1
theorem Xvwf {l:List UInt8} (h:allB l=true) (k:Nat):allB (l.drop k)=true:=by
 have:=List.take_append_drop k l
 rw[←this,XW0t,Bool.and_eq_true] at h;exact h.2
theorem XUy1 {l:List UInt8} (h:allB l=true) (k:Nat) (hk:k<l.length):l[k].toNat=48∨l[k].toNat=49:=by
 have:=List.all_eq_true.1 h l[k] (List.getElem_mem hk)
 simpa [isBit] using this
theorem XzAH {l:List UInt8} (k:Nat) (hk:k<l.length) (h0:l[k].toNat≠48) (h1:l[k].toNat≠49):allB l=false:=by
 rw[Bool.eq_false_iff];intro h
 rcases XUy1 h k hk with h|h<;>omega
theorem qjCJ (s:ByteArray) (k:Nat) (h:k<s.size):s.data.toList.take (k+1)=s.data.toList.take k++[s[k]]:=by
 rw[List.take_succ_eq_append_getElem (by simpa using h)];rfl
theorem j7UF (s:ByteArray) (k:Nat) (h:s.size≤k):s.data.toList.take k=s.data.toList:=by
 apply List.take_of_length_le;simpa using h
theorem XWox (s:ByteArray) (k:Nat) (h:k<s.size):s.data.toList[k]'(by simpa using h)=s[k]:=rfl
theorem qAMg (s:ByteArray):s.data.toList.length=s.size:=by simp
theorem hide {p:Prop} (h:p):Hid p:=h
theorem zcHp {p:Prop} (h:Hid p):p:=h
def valOf (l:List UInt8):Nat:=l.foldl (fun n c=>2*n+(c.toNat-48)) 0
theorem jvvo (l:List UInt8) (c:UInt8):valOf (l++[c])=2*valOf l+(c.toNat-48):=by simp[valOf]
theorem zEdZ:∀(l:List UInt8),allB l=true→valOf l<2 ^ l.length:=by
 intro l
 refine Xu5H (P:=fun l=>allB l=true→valOf l<2 ^ l.length) ?_ ?_ l
 ·intro _;decide
 ·intro l c ih h
  rw[XWpK,Bool.and_eq_true] at h
  have:=ih h.1
  have hc:c.toNat=48∨c.toNat=49:=by simpa [isBit] using h.2
  rw[jvvo,List.length_append,List.length_singleton,Nat.pow_succ]
  omega
def jJyG:Nat→Nat→List UInt8
 | _,0=>[]
 | n,k+1=>jJyG (n / 2) k++[UInt8.ofNat (48+n % 2)]
theorem zrCv (n k:Nat):(jJyG n k).length=k:=by
 induction k generalizing n with
 | zero=>rfl
 | succ k ih=>simp[jJyG,ih]
theorem XCcv (n k:Nat):jJyG n (k+1)=UInt8.ofNat (48+n / 2 ^ k % 2)::jJyG n k:=by
 induction k generalizing n with
 | zero=>simp[jJyG]
 | succ k ih =>
  rw[jJyG,ih (n / 2)]
  simp only[List.cons_append,Nat.div_div_eq_div_mul,jJyG]
  rw[show 2*2 ^ k=2 ^ (k+1) by rw[Nat.pow_succ];omega]
def str (l:List UInt8):ByteArray:=⟨l.toArray⟩
theorem jrcE (l:List UInt8):(str l).data.toList=l:=rfl
theorem qzX5 (l:List UInt8):(str l).size=l.length:=by simp[str,ByteArray.size]
def byt (l:List UInt8):List Value:=l.map fun c=>Value.int .u8 c.toNat
theorem q82q (l:List UInt8):(byt l).length=l.length:=by simp[byt]
theorem zP44 (l m:List UInt8):byt (l++m)=byt l++byt m:=by simp[byt]
theorem byt_get? (l:List UInt8) (j:Nat):(byt l)[j]?=(l[j]?).map fun c=>Value.int .u8 c.toNat:=by simp[byt]
theorem Xhvo (l:List UInt8):∀u∈byt l,u.oneCell'=true:=by
 intro u hu
 simp only[byt,List.mem_map] at hu
 obtain ⟨c,_,rfl⟩:=hu
 rfl
theorem jxMI {P:Program} {w:World} {base src e dst:TypeId} {g n cap:Nat} {l:List UInt8} (hs:P.underlying src=some (.slice e)) (he:P.underlying e=some (.int .u8)) (hd:P.underlying dst=some .string)
  (h:w.ownsRow base e 1 (.slice (some ⟨g,0,none⟩) n cap) n (byt l)) :
  (convert src dst (.slice (some ⟨g,0,none⟩) n cap)).run P w=.ok (.string (str l)) w:=by
 have hl:l.length=n:=by have:=h.1;rw[q82q] at this;omega
 have:=run_convert_bytes_arg (P:=P) w src e hs he g 0 n cap (l.map fun c=>(c.toNat:Int)) (by simpa using hl) (fun i hi=>by
  rw[Nat.zero_add,h.cellAt i (by omega),byt_get?]
  simp[List.getElem?_eq_getElem (show i<l.length by omega)]) dst hd
 rw[this]
 congr 2
 simp only[strOfNums,str,List.map_map]
 congr 2
 exact (List.map_congr_left (fun c _=>by simp)).trans (List.map_id l)
theorem and1 (n:Int):bits .and .i64 n 1=n % 2:=by
 have h1:(BitVec.ofInt 64 1).toNat=2 ^ 1-1:=by decide
 have key:(BitVec.ofInt 64 n &&& BitVec.ofInt 64 1).toNat=(n % ((2 ^ 64:Nat):Int)).toNat % 2 ^ 1:=by
  rw[BitVec.toNat_and,BitVec.toNat_ofInt,h1,Nat.and_two_pow_sub_one_eq_mod]
 show IntKind.i64.wrap ((BitVec.ofInt 64 n &&& BitVec.ofInt 64 1).toNat:Nat)=n % 2
 rw[key,IntKind.wrap_i64]
 omega
theorem qL6h (n:Int):bits .and .i64 n 65535=n % 65536:=by
 have h1:(BitVec.ofInt 64 65535).toNat=2 ^ 16-1:=by decide
 have key:(BitVec.ofInt 64 n &&& BitVec.ofInt 64 65535).toNat=(n % ((2 ^ 64:Nat):Int)).toNat % 2 ^ 16:=by
  rw[BitVec.toNat_and,BitVec.toNat_ofInt,h1,Nat.and_two_pow_sub_one_eq_mod]
 show IntKind.i64.wrap ((BitVec.ofInt 64 n &&& BitVec.ofInt 64 65535).toNat:Nat)=n % 65536
 rw[key,IntKind.wrap_i64]
 omega
theorem q5J9 (k:Nat):((2:Int) ^ k)=((2 ^ k:Nat):Int):=(Int.natCast_pow 2 k).symm
theorem zwz8 (n k:Nat):(48+bits BinOp.and IntKind.i64 ((n:Int) / 2 ^ k) 1) % 256=(48+(n / 2 ^ k % 2:Nat):Int):=by
 rw[and1,q5J9,←Int.natCast_ediv]
 omega
theorem XE8Y (p:Nat) (h:p<256):byt [UInt8.ofNat p]=[Value.int .u8 (p:Nat)]:=by
 simp only[byt,List.map_cons,List.map_nil,UInt8.toNat_ofNat']
 congr 3
 omega
theorem X4yv {α:Type} {x u:α} {j:Nat} (h:[x][j]?=some u):j=0∧u=x:=by
 match j,h with
 | 0,h=>simp at h;exact ⟨rfl,h.symm⟩
theorem jV70 {a b c d:Value} (h1:a=c) (h2:b=d):Ending.returned (.tuple #[a,b])=.returned (.tuple #[c,d]):=by rw[h1,h2]
theorem jx9N {k:IntKind} {a b:Int} (h:a=b):Ending.returned (.int k a)=.returned (.int k b):=by rw[h]
theorem j3Zs {a b:Bool} (h:a=b):Ending.returned (.bool a)=.returned (.bool b):=by rw[h]
end Go.Proofs.YtfjeonehdlphiaaGreatDoor

namespace Go.Proofs.YtfjeonehdlphiaaGreatDoor
open Go.RowKit
theorem Tryz.infoInt:(Tryz.prog.info? 3).map (fun i=>(i.zero,i.size,i.bytes))=some (some (.int .i64 0),1,8):=by kernel_rfl
theorem quJN {a b c:World} (h:Below a.heap.size a b) (k:Below b.heap.size b c):Below a.heap.size a c:=h.trans (k.mono h.size)
theorem qUNz (w:World) (o:Obj):Below w.heap.size w (w.alloc o):=(Below.refl _ _).alloc (Nat.le_refl _) o
theorem jom3 (w:World):Below w.heap.size w w.drew:=(Below.refl _ _).drew
def jCvT (w:World) (v:Value) (xs:List Int):Prop :=
 ∃ao cap,v=.slice ao xs.length cap∧xs.length≤9223372036854775807∧(xs=[]∨∃b off,ao=some ⟨b,off,none⟩∧b<w.heap.size∧∀j (h:j<xs.length),w.cell? ⟨b,off+j,none⟩=some (.int .i64 xs[j]))
theorem jCvT.len {w:World} {v:Value} {xs:List Int} (h:jCvT w v xs):xs.length≤9223372036854775807:=by
 obtain ⟨_,_,_,h,_⟩:=h;exact h
theorem jCvT.below {w w':World} {v:Value} {xs:List Int} {B:Nat} (h:jCvT w v xs) (hb:Below B w w') (hB:w.heap.size≤B):jCvT w' v xs:=by
 obtain ⟨ao,cap,hv,hl,h⟩:=h
 refine ⟨ao,cap,hv,hl,?_⟩
 rcases h with h|⟨b,off,ha,hlt,hc⟩
 ·exact .inl h
 ·exact .inr ⟨b,off,ha,Nat.lt_of_lt_of_le hlt hb.size,fun j hj=>by rw[hb.cell (p:=⟨b,off+j,none⟩) (by exact Nat.lt_of_lt_of_le hlt hB)];exact hc j hj⟩
theorem jCvT.alloc {w:World} {v:Value} {xs:List Int} (h:jCvT w v xs) (o:Obj):jCvT (w.alloc o) v xs :=
 h.below ((Below.refl _ _).alloc (Nat.le_refl _) o) (Nat.le_refl _)
theorem jCvT.drew {w:World} {v:Value} {xs:List Int} (h:jCvT w v xs):jCvT w.drew v xs:=h
theorem jCvT.nil (w:World):jCvT w (.slice none 0 0) []:=⟨none,0,rfl,by simp,.inl rfl⟩
theorem jCvT.own {w:World} {base:Nat} {v:Value} {xs:List Int} (h:w.ownsRow base 3 1 v xs.length (xs.map (Value.int .i64))) (hl:xs.length≤9223372036854775807):jCvT w v xs:=by
 rcases h.2 with ⟨hv,hn⟩|⟨g,cap,cur,hv,_,hg,_⟩
 ·exact ⟨none,0,by rw[hv,hn],hl,.inl (List.eq_nil_of_length_eq_zero hn)⟩
 ·refine ⟨_,cap,hv,hl,.inr ⟨g,0,rfl,(Array.getElem?_eq_some_iff.1 hg).1,fun j hj=>?_⟩⟩
  subst hv
  rw[Nat.zero_add,h.cellAt j (by omega)]
  simp[hj]
def roomy:Value→Prop
 | .slice _ n c=>n≤c
 | _=>True
def Fresh (B:Nat) (v:Value):Prop:=(∀b,v.ownBlock=some b→B≤b)∧roomy v
theorem Fresh.mono {B B':Nat} {v:Value} (h:Fresh B v) (hb:B'≤B):Fresh B' v:=⟨fun b e=>Nat.le_trans hb (h.1 b e),h.2⟩
theorem Fresh.nil (B:Nat):Fresh B (.slice none 0 0):=⟨fun b e=>(by cases e),Nat.le_refl _⟩
theorem Fresh.own {w:World} {base:Nat} {e:TypeId} {sz:Nat} {v:Value} {n:Nat} {xs:List Value} (h:w.ownsRow base e sz v n xs):Fresh base v:=by
 refine ⟨fun b hb=>(h.lt b hb).1,?_⟩
 rcases h.2 with ⟨rfl,_⟩|⟨g,cap,cur,rfl,_,_,hn,_⟩
 ·exact Nat.le_refl _
 ·exact hn
theorem jCvT.other {w w':World} {v:Value} {xs:List Int} {k:Nat} (h:jCvT w v xs) (hs:w.heap.size≤w'.heap.size) (hk:∀b,b≠k→w'.heap[b]?=w.heap[b]?) (hne:v.ownBlock≠some k):jCvT w' v xs:=by
 obtain ⟨ao,cap,rfl,hl,h⟩:=h
 refine ⟨ao,cap,rfl,hl,?_⟩
 rcases h with h|⟨b,off,rfl,hlt,hc⟩
 ·exact .inl h
 ·have hb:b≠k:=fun e=>hne (by rw[e];rfl)
  exact .inr ⟨b,off,rfl,Nat.lt_of_lt_of_le hlt hs,fun j hj=>(World.cell?_of_block (a:=⟨b,off+j,none⟩) (hk b hb)).trans (hc j hj)⟩
theorem qw14 {w w':World} {base:Nat} {e:TypeId} {size:Nat} {v:Value} {n:Nat} {xs:List Value} (h:w.ownsRow base e size v n xs) (hb:Below w.heap.size w w'):w'.ownsRow base e size v n xs:=by
 refine ⟨h.1,?_⟩
 rcases h.2 with h|⟨g,cap,cur,hv,hg,hh,r⟩
 ·exact .inl h
 ·exact .inr ⟨g,cap,cur,hv,hg,by rw[hb.block g (Array.getElem?_eq_some_iff.1 hh).1];exact hh,r⟩
end Go.Proofs.YtfjeonehdlphiaaGreatDoor

namespace Go.Proofs.YtfjeonehdlphiaaGreatDoor
open Go.RowKit
def bitAt (l:List UInt8) (k:Nat):Nat:=if l[k]?=some 49 then 1 else 0
def j0NY (l:List UInt8) (i:Nat):Nat→Nat
 | 0=>0
 | j+1=>2*j0NY l i j+bitAt l (i+j)
def XIZK (l:List UInt8):List UInt8:=(List.range ((l.length+7) / 8)).map fun q=>UInt8.ofNat (j0NY l (8*q) 8)
theorem j3Sl (l:List UInt8) (k:Nat):bitAt l k≤1:=by unfold bitAt;split<;>omega
theorem jVw1 (l:List UInt8) (k:Nat) (h:l.length≤k):bitAt l k=0:=by
 unfold bitAt;rw[List.getElem?_eq_none h];rfl
theorem qRy9 (l:List UInt8) (k:Nat) (h:k<l.length) (hb:allB l=true):bitAt l k=l[k].toNat-48:=by
 unfold bitAt
 rw[List.getElem?_eq_getElem h]
 rcases XUy1 hb k h with e|e
 ·rw[if_neg (by intro hh;simp only[Option.some.injEq] at hh;rw[hh] at e;revert e;decide)];omega
 ·rw[if_pos (by rw[show l[k]=49 from UInt8.toNat_inj.1 e])];omega
theorem X0uq (l:List UInt8) (i j:Nat):j0NY l i j<2 ^ j:=by
 induction j with
 | zero=>exact Nat.one_pos
 | succ j ih=>have:=j3Sl l (i+j);rw[j0NY,Nat.pow_succ];omega
theorem XJTv (l:List UInt8) (i j d:Nat) (h:l.length≤i+j):j0NY l i (j+d)=j0NY l i j*2 ^ d:=by
 induction d with
 | zero=>simp
 | succ d ih =>
  rw[show j+(d+1)=(j+d)+1 by omega,j0NY,ih,jVw1 _ _ (by omega),Nat.pow_succ,Nat.add_zero,Nat.mul_comm 2,Nat.mul_assoc]
theorem qEqN (l:List UInt8):(XIZK l).length=(l.length+7) / 8:=by simp[XIZK]
def accAt (l:List UInt8) (k q:Nat):Nat:=j0NY l (8*q) (min 8 (k-8*q))*2 ^ (8-min 8 (k-8*q))
def jlEz (l:List UInt8) (n k:Nat):List Value:=(List.range n).map fun q=>Value.int .u8 (accAt l k q)
theorem zdzG (l:List UInt8) (n k:Nat):(jlEz l n k).length=n:=by simp[jlEz]
theorem jgjF (l:List UInt8) (n k q:Nat) (h:q<n):(jlEz l n k)[q]?=some (.int .u8 (accAt l k q)):=by
 simp[jlEz,h]
theorem z2r0 (l:List UInt8) (k q:Nat) (h:q≠k / 8):accAt l (k+1) q=accAt l k q:=by
 unfold accAt
 rw[show min 8 (k+1-8*q)=min 8 (k-8*q) by omega]
theorem XzdG (r:Nat) (h:r<8):2 ^ (8-r)=2*2 ^ (7-r):=by
 rw[show 8-r=(7-r)+1 by omega,Nat.pow_succ];omega
theorem zSOx (l:List UInt8) (k:Nat):accAt l (k+1) (k / 8)=accAt l k (k / 8)+bitAt l k*2 ^ (7-k % 8):=by
 unfold accAt
 rw[show min 8 (k-8*(k / 8))=k % 8 by omega,show min 8 (k+1-8*(k / 8))=k % 8+1 by omega,j0NY,show 8*(k / 8)+k % 8=k by omega,
  XzdG _ (Nat.mod_lt _ (by decide)),show 8-(k % 8+1)=7-k % 8 by omega]
 generalize 2 ^ (7-k % 8)=p
 generalize j0NY l (8*(k / 8)) (k % 8)=a
 generalize bitAt l k=b
 rw[Nat.add_mul,Nat.mul_comm 2 a,Nat.mul_assoc]
theorem jd6N (l:List UInt8) (n k:Nat) (u:Int) (hu:u=(accAt l (k+1) (k / 8):Nat)):(jlEz l n k).set (k / 8) (.int .u8 u)=jlEz l n (k+1):=by
 apply List.ext_getElem?
 intro j
 rw[List.getElem?_set]
 by_cases e:k / 8=j
 ·subst e
  rw[if_pos rfl]
  by_cases hn:k / 8<n
  ·rw[jgjF _ _ _ _ hn,zdzG,if_pos hn,hu]
  ·rw[zdzG,if_neg hn,List.getElem?_eq_none (by rw[zdzG];omega)]
 ·rw[if_neg e]
  by_cases hn:j<n
  ·rw[jgjF _ _ _ _ hn,jgjF _ _ _ _ hn,z2r0 _ _ _ (fun h=>e h.symm)]
  ·rw[List.getElem?_eq_none (by rw[zdzG];omega),List.getElem?_eq_none (by rw[zdzG];omega)]
theorem qejR (l:List UInt8) (n:Nat):jlEz l n 0=(madeCells (Value.int .u8 0).cells (n*1)).toList:=by
 rw[show (Value.int .u8 0).cells=#[Value.int .u8 0] from rfl,toList_madeCells_one]
 apply List.ext_getElem?
 intro j
 by_cases hn:j<n
 ·rw[jgjF _ _ _ _ hn,List.getElem?_replicate,if_pos (by omega)];simp[accAt,j0NY]
 ·rw[List.getElem?_eq_none (by rw[zdzG];omega),List.getElem?_eq_none (by simp;omega)]
theorem qew6 (l:List UInt8):jlEz l ((l.length+7) / 8) l.length=byt (XIZK l):=by
 simp only[jlEz,byt,XIZK,List.map_map]
 apply List.map_congr_left
 intro q hq
 have hq:q<(l.length+7) / 8:=by simpa using hq
 have h1:accAt l l.length q=j0NY l (8*q) 8:=by
  unfold accAt
  have hj:min 8 (l.length-8*q)≤8:=Nat.min_le_left _ _
  by_cases h:8≤l.length-8*q
  ·rw[Nat.min_eq_left h];simp
  ·rw[←XJTv _ _ _ _ (by omega),show min 8 (l.length-8*q)+(8-min 8 (l.length-8*q))=8 by omega]
 have h2:=X0uq l (8*q) 8
 simp only[Function.comp]
 rw[h1,UInt8.toNat_ofNat']
 congr 2
 omega
theorem XwGy (l:List UInt8) (k:Nat):accAt l k (k / 8) % 2 ^ (8-k % 8)=0∧accAt l k (k / 8)<256:=by
 unfold accAt
 rw[show min 8 (k-8*(k / 8))=k % 8 by omega]
 refine ⟨by simp,?_⟩
 have h:=X0uq l (8*(k / 8)) (k % 8)
 calc j0NY l (8*(k / 8)) (k % 8)*2 ^ (8-k % 8)<2 ^ (k % 8)*2 ^ (8-k % 8):=Nat.mul_lt_mul_of_pos_right h (Nat.pow_pos (by decide))
  _=256:=by rw[←Nat.pow_add,show k % 8+(8-k % 8)=8 by omega]
theorem qNlo (l:List UInt8) (k:Nat) (c:Int) (hc:c-48=bitAt l k) :
  bits .or .u8 (accAt l k (k / 8):Nat) ((c-48)*2 ^ (7-k % 8) % 256)=(accAt l (k+1) (k / 8):Nat):=by
 rw[hc,zSOx]
 obtain ⟨h1,h2⟩:=XwGy l k
 have h3:=j3Sl l k
 have hp:2 ^ (7-k % 8)≤2 ^ 7:=Nat.pow_le_pow_right (by decide) (by omega)
 have hq:=XzdG (k % 8) (Nat.mod_lt _ (by decide))
 rw[hq] at h1
 have hx:(bitAt l k:Int)*2 ^ (7-k % 8) % 256=((bitAt l k*2 ^ (7-k % 8):Nat):Int):=by
  rw[q5J9,←Int.natCast_mul]
  have:bitAt l k*2 ^ (7-k % 8)<256:=by
   have:bitAt l k*2 ^ (7-k % 8)≤1*2 ^ (7-k % 8):=Nat.mul_le_mul_right _ h3
   omega
  omega
 rw[hx]
 have hlt:bitAt l k*2 ^ (7-k % 8)<2 ^ (8-k % 8):=by
  have:bitAt l k*2 ^ (7-k % 8)≤1*2 ^ (7-k % 8):=Nat.mul_le_mul_right _ h3
  have:0<2 ^ (7-k % 8):=Nat.pow_pos (by decide)
  omega
 rw[bits_join .u8 8 (by decide) wraps_u8 (8-k % 8) _ _ (by omega) (by rw[q5J9,hq,←Int.natCast_emod,h1];rfl) (by omega) (by omega) (by rw[q5J9];exact Int.ofNat_lt.2 hlt) (by
  have:bitAt l k*2 ^ (7-k % 8)≤1*2 ^ (7-k % 8):=Nat.mul_le_mul_right _ h3
  generalize bitAt l k*2 ^ (7-k % 8)=z at *
  omega)]
 rw[Int.natCast_add]
end Go.Proofs.YtfjeonehdlphiaaGreatDoor

namespace Go.Proofs.YtfjeonehdlphiaaGreatDoor
open Go.RowKit
def rowOf (l:List UInt8):List UInt8:=l.flatMap fun c=>jJyG c.toNat 8
theorem qmR0 (l:List UInt8) (c:UInt8):rowOf (l++[c])=rowOf l++jJyG c.toNat 8:=by simp[rowOf]
theorem jhTv (l:List UInt8) (c:UInt8):rowOf (c::l)=jJyG c.toNat 8++rowOf l:=by simp[rowOf]
theorem zLs8 (l:List UInt8):(rowOf l).length=8*l.length:=by
 induction l with
 | nil=>rfl
 | cons c l ih=>rw[jhTv,List.length_append,zrCv,ih,List.length_cons];omega
theorem jFsU (n k j:Nat) (h:j<k):(jJyG n k)[j]?=some (UInt8.ofNat (48+n / 2 ^ (k-1-j) % 2)):=by
 induction k generalizing j with
 | zero=>omega
 | succ k ih =>
  rw[XCcv]
  cases j with
  | zero=>simp
  | succ j=>rw[List.getElem?_cons_succ,ih j (by omega),show k+1-1-(j+1)=k-1-j by omega]
theorem and1u8 (x:Nat) (h:x<256):bits .and .u8 (x:Int) 1=((x % 2:Nat):Int):=by
 have h1:(BitVec.ofInt 8 1).toNat=2 ^ 1-1:=by decide
 have key:(BitVec.ofInt 8 (x:Int) &&& BitVec.ofInt 8 1).toNat=((x:Int) % ((2 ^ 8:Nat):Int)).toNat % 2 ^ 1:=by
  rw[BitVec.toNat_and,BitVec.toNat_ofInt,h1,Nat.and_two_pow_sub_one_eq_mod]
 show IntKind.u8.wrap ((BitVec.ofInt 8 (x:Int) &&& BitVec.ofInt 8 1).toNat:Nat)=_
 rw[key,IntKind.wrap_u8]
 omega
theorem q0mR (c t:Nat) (hc:c<256):(48+bits BinOp.and IntKind.u8 ((c:Int) / 2 ^ t) 1) % 256=((48+c / 2 ^ t % 2:Nat):Int):=by
 rw[q5J9,←Int.natCast_ediv,and1u8 _ (Nat.lt_of_le_of_lt (Nat.div_le_self _ _) hc)]
 omega
theorem jba7 (c t:Nat) (h:t<8):(jJyG c 8).take (8-t)=(jJyG c 8).take (7-t)++[UInt8.ofNat (48+c / 2 ^ t % 2)]:=by
 have h1:7-t<(jJyG c 8).length:=by rw[zrCv];omega
 rw[show 8-t=(7-t)+1 by omega,List.take_succ_eq_append_getElem h1]
 congr 2
 have:=jFsU c 8 (7-t) (by omega)
 rw[List.getElem?_eq_getElem h1] at this
 simp only[Option.some.injEq] at this
 rw[this,show 8-1-(7-t)=t by omega]
theorem jKfQ (n k:Nat):allB (jJyG n k)=true:=by
 induction k generalizing n with
 | zero=>rfl
 | succ k ih =>
  rw[jJyG,XWpK,ih,Bool.true_and]
  have h2:n % 2<2:=Nat.mod_lt _ (by decide)
  simp only[isBit,UInt8.toNat_ofNat',decide_eq_true_eq]
  omega
theorem XJss (l:List UInt8):allB (rowOf l)=true:=by
 induction l with
 | nil=>rfl
 | cons c l ih=>rw[jhTv,XW0t,jKfQ,ih];rfl
end Go.Proofs.YtfjeonehdlphiaaGreatDoor

namespace Go.Proofs.YtfjeonehdlphiaaGreatDoor
open Go.RowKit
def numOk (n size:Int):Bool:=decide (0≤size∧size≤16∧0≤n∧n<2 ^ size.toNat)
def numS (n size:Int):ByteArray:=if numOk n size=true then str (jJyG n.toNat size.toNat) else str []
def numE (n size:Int):Int:=if numOk n size=true then 0 else 3
theorem pow16 {n:Nat} (h:n≤16):2 ^ n≤65536:=Nat.le_trans (Nat.pow_le_pow_right (by decide) h) (by decide)
theorem XhgL (n size:Int):(∃m k:Nat,n=m∧size=k∧k≤16∧m<2 ^ k∧numOk n size=true) ∨
  (numOk n size=false∧(size<0∨16<size∨(0≤size∧size≤16∧n<0)∨∃k p:Nat,size=k∧k≤16∧p=2 ^ k∧(p:Int)≤n)):=by
 by_cases h:numOk n size=true
 ·left
  have h':=h
  simp only[numOk,decide_eq_true_eq] at h'
  obtain ⟨h1,h2,h3,h4⟩:=h'
  refine ⟨n.toNat,size.toNat,by omega,by omega,by omega,?_,h⟩
  rw[q5J9] at h4
  generalize 2 ^ size.toNat=p at *
  omega
 ·right
  have h:numOk n size=false:=by simpa using h
  refine ⟨h,?_⟩
  simp only[numOk,decide_eq_false_iff_not] at h
  by_cases a:size<0
  ·exact .inl a
  by_cases b:16<size
  ·exact .inr (.inl b)
  by_cases c:n<0
  ·exact .inr (.inr (.inl ⟨by omega,by omega,c⟩))
  ·refine .inr (.inr (.inr ⟨size.toNat,2 ^ size.toNat,by omega,by omega,rfl,?_⟩))
   have:¬n<2 ^ size.toNat:=fun hh=>h ⟨by omega,by omega,by omega,hh⟩
   rw[q5J9] at this
   generalize 2 ^ size.toNat=p at *
   omega
def jvGa (xs:List Int) (d:Int):List UInt8:=xs.flatMap fun n=>jJyG n.toNat d.toNat
theorem jmVo (xs:List Int) (n d:Int):jvGa (xs++[n]) d=jvGa xs d++jJyG n.toNat d.toNat:=by simp[jvGa]
theorem qtHw (xs:List Int) (n d:Int):jvGa (n::xs) d=jJyG n.toNat d.toNat++jvGa xs d:=by simp[jvGa]
theorem Xg2y (xs:List Int) (d:Int):(jvGa xs d).length=xs.length*d.toNat:=by
 induction xs with
 | nil=>simp[jvGa]
 | cons n xs ih=>rw[qtHw,List.length_append,zrCv,ih,List.length_cons,Nat.succ_mul];omega
theorem ztg4 (xs:List Int) (d:Int):allB (jvGa xs d)=true:=by
 induction xs with
 | nil=>rfl
 | cons n xs ih=>rw[qtHw,XW0t,jKfQ,ih];rfl
def allOk (xs:List Int) (d:Int):Bool:=xs.all fun n=>numOk n d
theorem jJfW (xs:List Int) (n d:Int):allOk (xs++[n]) d=(allOk xs d && numOk n d):=by simp[allOk]
theorem XcnF (xs:List Int) (d:Int) (k:Nat) (h:k<xs.length) (hn:numOk xs[k] d=false):allOk xs d=false:=by
 rw[Bool.eq_false_iff];intro hh
 have:=List.all_eq_true.1 hh xs[k] (List.getElem_mem h)
 rw[hn] at this;cases this
def XSys (d:Int):Bool:=decide (1≤d∧d≤16)
def packE (xs:List Int) (d:Int):Int:=if XSys d=true then (if xs.length≤4096 then (if allOk xs d=true then 0 else 3) else 2) else 3
def packS (xs:List Int) (d:Int):List UInt8:=if packE xs d=0 then XIZK (jvGa xs d) else []
end Go.Proofs.YtfjeonehdlphiaaGreatDoor

namespace Go.Proofs.YtfjeonehdlphiaaGreatDoor
open Go.RowKit
def bitCh (l:List UInt8) (k:Nat):UInt8:=UInt8.ofNat (48+bitAt l k)
theorem qXrA (l:List UInt8) (i j:Nat):jJyG (j0NY l i j) j=(List.range j).map fun r=>bitCh l (i+r):=by
 induction j with
 | zero=>rfl
 | succ j ih =>
  have hb:=j3Sl l (i+j)
  rw[j0NY,jJyG,show (2*j0NY l i j+bitAt l (i+j)) / 2=j0NY l i j by omega,show (2*j0NY l i j+bitAt l (i+j)) % 2=bitAt l (i+j) by omega,ih,List.range_succ,List.map_append]
  rfl
theorem XjZH (l:List UInt8) (n:Nat):rowOf ((List.range n).map fun q=>UInt8.ofNat (j0NY l (8*q) 8))=(List.range (8*n)).map (bitCh l):=by
 induction n with
 | zero=>rfl
 | succ n ih =>
  rw[List.range_succ,List.map_append,List.map_singleton,qmR0,ih]
  have h:(UInt8.ofNat (j0NY l (8*n) 8)).toNat=j0NY l (8*n) 8:=by
   have:=X0uq l (8*n) 8
   rw[UInt8.toNat_ofNat'];omega
  rw[h,qXrA,show 8*(n+1)=8*n+8 by omega,List.range_add,List.map_append,List.map_map]
  rfl
theorem Xiht (l:List UInt8) (hb:allB l=true) (k:Nat) (h:k<l.length):bitCh l k=l[k]:=by
 have h1:=XUy1 hb k h
 rw[bitCh,qRy9 l k h hb,show 48+(l[k].toNat-48)=l[k].toNat by omega]
 simp
theorem zZlx (l:List UInt8) (hb:allB l=true):rowOf (XIZK l)=l++List.replicate (8*((l.length+7) / 8)-l.length) 48:=by
 rw[XIZK,XjZH]
 apply List.ext_getElem?
 intro j
 by_cases h1:j<l.length
 ·rw[List.getElem?_append_left h1,List.getElem?_map,List.getElem?_range (by omega),List.getElem?_eq_getElem h1]
  simp[Xiht l hb j h1]
 ·rw[List.getElem?_append_right (by omega),List.getElem?_map]
  by_cases h2:j<8*((l.length+7) / 8)
  ·rw[List.getElem?_range h2,List.getElem?_replicate,if_pos (by omega)]
   simp[bitCh,jVw1 l j (by omega)]
  ·rw[List.getElem?_replicate,if_neg (by omega),List.getElem?_eq_none (by simp;omega)]
   rfl
theorem jqBu (l:List UInt8) (hb:allB l=true):jJyG (valOf l) l.length=l:=by
 refine Xu5H (P:=fun l=>allB l=true→jJyG (valOf l) l.length=l) ?_ ?_ l hb
 ·intro _;rfl
 ·intro l c ih h
  rw[XWpK,Bool.and_eq_true] at h
  have hc:c.toNat=48∨c.toNat=49:=by simpa [isBit] using h.2
  rw[List.length_append,List.length_singleton,jJyG,jvvo,show (2*valOf l+(c.toNat-48)) / 2=valOf l by omega,ih h.1,
   show 48+(2*valOf l+(c.toNat-48)) % 2=c.toNat by omega]
  simp
def vals (b:List UInt8) (D n:Nat):List Int:=(List.range n).map fun i=>(valOf ((b.drop (i*D)).take D):Int)
theorem z3uI (b:List UInt8) (D n:Nat):(vals b D n).length=n:=by simp[vals]
theorem X9H3 (b:List UInt8) (D n:Nat):vals b D (n+1)=vals b D n++[(valOf ((b.drop (n*D)).take D):Int)]:=by simp[vals,List.range_succ]
def qMvX (l:List UInt8):Bool:=l.any fun c=>c == 49
theorem zSOm (n:Nat):qMvX (List.replicate n 48)=false:=by
 rw[Bool.eq_false_iff]
 intro h
 obtain ⟨c,hc,h1⟩:=List.any_eq_true.1 h
 rw[List.eq_of_mem_replicate hc] at h1
 cases h1
end Go.Proofs.YtfjeonehdlphiaaGreatDoor

namespace Go.Proofs.YtfjeonehdlphiaaGreatDoor
open Go.RowKit
theorem jA8q (n k:Nat) (h:n<2 ^ k):valOf (jJyG n k)=n:=by
 induction k generalizing n with
 | zero=>rw[jJyG];simp at h;rw[h];rfl
 | succ k ih =>
  rw[Nat.pow_succ] at h
  have h2:n % 2<2:=Nat.mod_lt _ (by decide)
  rw[jJyG,jvvo,ih (n / 2) (by omega),UInt8.toNat_ofNat']
  omega
theorem Xlrb (d:Int) (r:List UInt8) (xs:List Int) (hok:allOk xs d=true):vals (jvGa xs d++r) d.toNat xs.length=xs:=by
 refine Xu5H (P:=fun xs=>∀r,allOk xs d=true→vals (jvGa xs d++r) d.toNat xs.length=xs) ?_ ?_ xs r hok
 ·intro r _;rfl
 ·intro xs x ih r h
  rw[jJfW,Bool.and_eq_true] at h
  rw[jmVo,List.append_assoc,List.length_append,List.length_singleton,X9H3,ih _ h.1]
  have hl:(jvGa xs d).length=xs.length*d.toNat:=Xg2y xs d
  rw[List.drop_append_of_le_length (by omega),List.drop_of_length_le (by omega),List.nil_append,List.take_append_of_le_length (by rw[zrCv];exact Nat.le_refl _),List.take_of_length_le (by rw[zrCv];exact Nat.le_refl _)]
  rcases XhgL x d with ⟨m,k,rfl,rfl,h1,h2,_⟩|⟨h1,_⟩
  ·rw[Int.toNat_natCast,Int.toNat_natCast,jA8q m k h2]
  ·rw[h1] at h;cases h.2
theorem jfVh {xs:List Int} {d:Int} (h:packE xs d=0):XSys d=true∧xs.length≤4096∧allOk xs d=true:=by
 unfold packE at h
 by_cases h1:XSys d=true
 ·rw[if_pos h1] at h
  by_cases h2:xs.length≤4096
  ·rw[if_pos h2] at h
   by_cases h3:allOk xs d=true
   ·exact ⟨h1,h2,h3⟩
   ·rw[if_neg h3] at h;exact absurd h (by decide)
  ·rw[if_neg h2] at h;exact absurd h (by decide)
 ·rw[if_neg h1] at h;exact absurd h (by decide)
def Xpy1 (s:List UInt8) (d n:Int):Bool:=decide (XSys d=true∧0≤n∧n≤4096∧s.length=(n.toNat*d.toNat+7) / 8∧qMvX ((rowOf s).drop (n.toNat*d.toNat))=false)
def unpV (s:List UInt8) (d n:Int):List Int:=if Xpy1 s d n=true then vals (rowOf s) d.toNat n.toNat else []
def unpE (s:List UInt8) (d n:Int):Int :=
 if XSys d=true∧0≤n then (if n≤4096 then (if Xpy1 s d n=true then 0 else 1) else 2) else 3
theorem jtlP {s:List UInt8} {d n:Int} (h:unpE s d n=0):Xpy1 s d n=true:=by
 unfold unpE at h
 by_cases h1:XSys d=true∧0≤n
 ·rw[if_pos h1] at h
  by_cases h2:n≤4096
  ·rw[if_pos h2] at h
   by_cases h3:Xpy1 s d n=true
   ·exact h3
   ·rw[if_neg h3] at h;exact absurd h (by decide)
  ·rw[if_neg h2] at h;exact absurd h (by decide)
 ·rw[if_neg h1] at h;exact absurd h (by decide)
theorem XGJQ {xs:List Int} {d:Int} (h:packE xs d=0):unpE (packS xs d) d xs.length=0∧unpV (packS xs d) d xs.length=xs:=by
 obtain ⟨h1,h2,h3⟩:=jfVh h
 have hS:packS xs d=XIZK (jvGa xs d):=by rw[packS,if_pos h]
 have hb:=ztg4 xs d
 have hl:=Xg2y xs d
 have hr:=zZlx (jvGa xs d) hb
 have hf:Xpy1 (packS xs d) d xs.length=true:=by
  simp only[Xpy1,decide_eq_true_eq]
  refine ⟨h1,by omega,by omega,?_,?_⟩
  ·rw[hS,qEqN,hl,Int.toNat_natCast]
  ·rw[hS,hr,Int.toNat_natCast,List.drop_append_of_le_length (by omega),List.drop_of_length_le (by omega),List.nil_append]
   exact zSOm _
 refine ⟨?_,?_⟩
 ·rw[unpE,if_pos ⟨h1,by omega⟩,if_pos (by omega),if_pos hf]
 ·rw[unpV,if_pos hf,hS,hr,Int.toNat_natCast]
  exact Xlrb d _ xs h3
end Go.Proofs.YtfjeonehdlphiaaGreatDoor

namespace Go.Proofs.YtfjeonehdlphiaaGreatDoor
open Go.RowKit
def lenOk (x:Int):Bool:=decide (0≤x∧x≤15)
def qtFp (xs:List Int):Bool:=xs.all lenOk
def wt (x:Int):Nat:=if 0<x then 2 ^ (15-x.toNat) else 0
def ksum:List Int→Nat
 | []=>0
 | x::xs=>wt x+ksum xs
theorem qDB7 (xs:List Int) (x:Int):ksum (xs++[x])=ksum xs+wt x:=by
 induction xs with
 | nil=>simp[ksum]
 | cons y xs ih=>simp only[List.cons_append,ksum,ih];omega
theorem X0sA (xs:List Int) (x:Int):qtFp (xs++[x])=(qtFp xs && lenOk x):=by simp[qtFp]
theorem zrc5 (xs:List Int) (k:Nat) (h:k<xs.length) (hn:lenOk xs[k]=false):qtFp xs=false:=by
 rw[Bool.eq_false_iff];intro hh
 have:=List.all_eq_true.1 hh xs[k] (List.getElem_mem h)
 rw[hn] at this;cases this
theorem XHEW {xs:List Int} (h:qtFp xs=true) (k:Nat) (hk:k<xs.length):0≤xs[k]∧xs[k]≤15:=by
 have:=List.all_eq_true.1 h xs[k] (List.getElem_mem hk)
 simpa [lenOk] using this
theorem wt_le (x:Int):wt x≤32768:=by
 unfold wt
 split
 ·exact Nat.le_trans (Nat.pow_le_pow_right (by decide) (Nat.sub_le _ _)) (by decide)
 ·decide
theorem wt_pos (x:Int) (h:0<x):0<wt x:=by unfold wt;rw[if_pos h];exact Nat.pow_pos (by decide)
theorem zlvS (xs:List Int):ksum xs≤32768*xs.length:=by
 induction xs with
 | nil=>simp[ksum]
 | cons x xs ih=>have:=wt_le x;simp only[ksum,List.length_cons];omega
def ji94 (xs:List Int):Bool:=xs.any fun x=>decide (0<x)
theorem q4z2 (xs:List Int):ksum xs=0↔ji94 xs=false:=by
 induction xs with
 | nil=>simp[ksum,ji94]
 | cons x xs ih =>
  simp only[ksum,ji94,List.any_cons,Bool.or_eq_false_iff,decide_eq_false_iff_not] at *
  rw[←ih]
  by_cases h:0<x
  ·have:=wt_pos x h
   constructor
   ·intro h2;omega
   ·intro h2;exact absurd h h2.1
  ·have:wt x=0:=by unfold wt;rw[if_neg h]
   rw[this]
   constructor
   ·intro h2;exact ⟨h,by omega⟩
   ·intro h2;omega
def qO3F (xs:List Int):Int :=
 if 1≤xs.length∧xs.length≤17 then (if qtFp xs=true then (if ksum xs=0∨32768<ksum xs then 1 else 0) else 3) else 2
theorem zF8D {xs:List Int} (h:qO3F xs=0):1≤xs.length∧xs.length≤17∧qtFp xs=true∧0<ksum xs∧ksum xs≤32768:=by
 unfold qO3F at h
 by_cases h1:1≤xs.length∧xs.length≤17
 ·rw[if_pos h1] at h
  by_cases h2:qtFp xs=true
  ·rw[if_pos h2] at h
   by_cases h3:ksum xs=0∨32768<ksum xs
   ·rw[if_pos h3] at h;exact absurd h (by decide)
   ·exact ⟨h1.1,h1.2,h2,by omega,by omega⟩
  ·rw[if_neg h2] at h;exact absurd h (by decide)
 ·rw[if_neg h1] at h;exact absurd h (by decide)
def XpDF (xs:List Int) (s:Int):Nat:=(xs.filter fun x=>decide (x=s)).length
def cnt (xs:List Int) (s:Int) (k:Nat):Nat:=XpDF (xs.take k) s
theorem zkzH (xs:List Int) (s:Int):cnt xs s 0=0:=rfl
theorem XIRo (xs:List Int) (s:Int) (k:Nat) (h:k<xs.length):cnt xs s (k+1)=cnt xs s k+if xs[k]=s then 1 else 0:=by
 unfold cnt XpDF
 rw[List.take_succ_eq_append_getElem h,List.filter_append,List.length_append]
 by_cases e:xs[k]=s<;>simp[e]
theorem qsPk (xs:List Int) (s:Int):cnt xs s xs.length=XpDF xs s:=by unfold cnt;rw[List.take_length]
theorem cnt_le (xs:List Int) (s:Int) (k:Nat):cnt xs s k≤XpDF xs s:=by
 unfold cnt XpDF
 exact (List.Sublist.filter _ (List.take_sublist k xs)).length_le
def low:List Int→Nat→Nat
 | [],_=>0
 | x::xs,t=>(if x≤t then wt x else 0)+low xs t
theorem low_le (xs:List Int) (t:Nat):low xs t≤ksum xs:=by
 induction xs with
 | nil=>exact Nat.le_refl _
 | cons x xs ih=>simp only[low,ksum];split<;>omega
theorem qHiO (xs:List Int):low xs 0=0:=by
 induction xs with
 | nil=>rfl
 | cons x xs ih =>
  simp only[low,ih]
  split
  ·rename_i h
   have:wt x=0:=by unfold wt;rw[if_neg (by omega)]
   omega
  ·rfl
theorem jjMz (xs:List Int) (t:Nat) (_ht:t≤14):low xs (t+1)=low xs t+XpDF xs ((t:Int)+1)*2 ^ (14-t):=by
 induction xs with
 | nil=>simp[low,XpDF]
 | cons x xs ih =>
  simp only[low,XpDF,List.filter_cons] at *
  rw[ih]
  by_cases h:x=(t:Int)+1
  ·subst h
   have hw:wt ((t:Int)+1)=2 ^ (14-t):=by
    unfold wt
    rw[if_pos (by omega),show 15-((t:Int)+1).toNat=14-t by omega]
   rw[if_pos (by omega),if_neg (by omega),hw]
   simp only[decide_true,if_true,List.length_cons]
   rw[Nat.succ_mul]
   omega
  ·have e:(if x≤((t+1:Nat):Int) then wt x else 0)=(if x≤(t:Int) then wt x else 0):=by
    by_cases h2:x≤(t:Int)
    ·rw[if_pos h2,if_pos (by omega)]
    ·rw[if_neg h2,if_neg (by omega)]
   rw[e]
   simp only[h,decide_false]
   simp only[Bool.false_eq_true,if_false]
   omega
def base (xs:List Int):Nat→Nat
 | 0=>0
 | t+1=>2*(base xs t+XpDF xs ((t:Int)+1))
theorem XyMS (xs:List Int) (t:Nat) (ht:t≤14):base xs t*2 ^ (14-t)=low xs t:=by
 induction t with
 | zero=>rw[qHiO];simp[base]
 | succ t ih =>
  have ih:=ih (by omega)
  rw[base,jjMz xs t (by omega),←ih,show 14-t=(14-(t+1))+1 by omega,Nat.pow_succ]
  generalize 2 ^ (14-(t+1))=p
  generalize base xs t=a
  generalize XpDF xs ((t:Int)+1)=c
  rw[Nat.mul_comm 2,Nat.mul_assoc,Nat.mul_comm 2 p,Nat.add_mul]
def nxt (xs:List Int) (t k:Nat):Nat:=base xs t+cnt xs ((t:Int)+1) k
theorem XL0z (xs:List Int) (t:Nat):nxt xs t 0=base xs t:=by rw[nxt,zkzH,Nat.add_zero]
theorem zU85 (xs:List Int) (t:Nat):base xs (t+1)=2*nxt xs t xs.length:=by rw[nxt,qsPk];rfl
theorem jRof (xs:List Int) (t k:Nat) (ht:t≤14) (hs:ksum xs≤32768):nxt xs t k≤2 ^ (t+1):=by
 have h1:=XyMS xs t ht
 have h2:=jjMz xs t ht
 have h3:=low_le xs (t+1)
 have h4:=cnt_le xs ((t:Int)+1) k
 have h5:nxt xs t k*2 ^ (14-t)≤2 ^ (t+1)*2 ^ (14-t):=by
  rw[←Nat.pow_add,show t+1+(14-t)=15 by omega,nxt,Nat.add_mul,h1]
  have:=Nat.mul_le_mul_right (2 ^ (14-t)) h4
  omega
 exact Nat.le_of_mul_le_mul_right h5 (Nat.pow_pos (by decide))
theorem XdXl (xs:List Int) (t k:Nat) (ht:t≤14) (hs:ksum xs≤32768) (hk:k<xs.length) (he:xs[k]=(t:Int)+1):nxt xs t k<2 ^ (t+1):=by
 have h:=jRof xs t (k+1) ht hs
 rw[nxt,XIRo xs _ k hk,if_pos he] at h
 rw[nxt]
 omega
def word (xs:List Int) (i:Nat):List UInt8 :=
 if 1≤xs.getD i 0 then jJyG (nxt xs ((xs.getD i 0).toNat-1) i) (xs.getD i 0).toNat else []
def j6d1 (xs:List Int):List (List UInt8):=(List.range xs.length).map (word xs)
theorem zFud (xs:List Int):(j6d1 xs).length=xs.length:=by simp[j6d1]
theorem XL3e (xs:List Int) (i:Nat) (h:i<xs.length):(j6d1 xs)[i]'(by rw[zFud];exact h)=word xs i:=by simp[j6d1]
def doneB (xs:List Int) (t k i:Nat):Bool:=decide (1≤xs.getD i 0∧(xs.getD i 0≤t∨(xs.getD i 0=(t:Int)+1∧i<k)))
def qZPP (xs:List Int) (t k i:Nat):List UInt8:=if doneB xs t k i=true then word xs i else []
def qwpy (n:Nat) (f:Nat→List UInt8):List Value:=(List.range n).map fun i=>Value.string (str (f i))
theorem j7q8 (n:Nat) (f:Nat→List UInt8):(qwpy n f).length=n:=by simp[qwpy]
theorem XOmP (n:Nat) (f:Nat→List UInt8) (i:Nat) (h:i<n):(qwpy n f)[i]?=some (.string (str (f i))):=by simp[qwpy,h]
theorem zeln (n:Nat) (f g:Nat→List UInt8) (h:∀i,i<n→f i=g i):qwpy n f=qwpy n g:=by
 unfold qwpy
 apply List.map_congr_left
 intro i hi
 rw[h i (by simpa using hi)]
theorem XDzG (n:Nat) (f g:Nat→List UInt8) (k:Nat) (v:List UInt8) (hk:g k=v) (ho:∀i,i<n→i≠k→g i=f i):(qwpy n f).set k (.string (str v))=qwpy n g:=by
 apply List.ext_getElem?
 intro j
 rw[List.getElem?_set]
 by_cases hj:j<n
 ·rw[XOmP n g j hj]
  by_cases e:k=j
  ·subst e;rw[if_pos rfl,j7q8,if_pos hj,hk]
  ·rw[if_neg e,XOmP n f j hj,ho j hj (fun h=>e h.symm)]
 ·rw[List.getElem?_eq_none (by rw[j7q8];omega),List.getElem?_eq_none (by rw[j7q8];omega),j7q8]
  by_cases e:k=j
  ·subst e;rw[if_pos rfl,if_neg hj]
  ·rw[if_neg e]
theorem qzK6 (xs:List Int) (i:Nat):qZPP xs 0 0 i=[]:=by
 unfold qZPP
 rw[if_neg]
 simp only[doneB,decide_eq_true_eq]
 omega
theorem zsQ2 (xs:List Int) (t k i:Nat) (hk:k<xs.length) (h:xs[k]≠(t:Int)+1):qZPP xs t (k+1) i=qZPP xs t k i:=by
 unfold qZPP
 have hg:xs.getD k 0=xs[k]:=by simp[List.getD,List.getElem?_eq_getElem hk]
 have e:doneB xs t (k+1) i=doneB xs t k i:=by
  unfold doneB
  apply decide_eq_decide.2
  by_cases hi:i=k
  ·subst hi;omega
  ·omega
 rw[e]
theorem X4e5 (xs:List Int) (t k i:Nat) (hi:i≠k):qZPP xs t (k+1) i=qZPP xs t k i:=by
 unfold qZPP
 have e:doneB xs t (k+1) i=doneB xs t k i:=by
  unfold doneB
  apply decide_eq_decide.2
  omega
 rw[e]
theorem qCGE (xs:List Int) (t k:Nat) (hk:k<xs.length) (h:xs[k]=(t:Int)+1):qZPP xs t (k+1) k=jJyG (nxt xs t k) (t+1):=by
 have hg:xs.getD k 0=xs[k]:=by simp[List.getD,List.getElem?_eq_getElem hk]
 unfold qZPP
 rw[if_pos (by simp only[doneB,decide_eq_true_eq];omega),word,if_pos (by omega),hg,h]
 simp
theorem qua8 (xs:List Int) (t i:Nat) (hi:i<xs.length):qZPP xs (t+1) 0 i=qZPP xs t xs.length i:=by
 unfold qZPP
 have e:doneB xs (t+1) 0 i=doneB xs t xs.length i:=by
  unfold doneB
  apply decide_eq_decide.2
  omega
 rw[e]
theorem qGGX (xs:List Int) (i:Nat) (hi:i<xs.length) (hok:qtFp xs=true):qZPP xs 15 0 i=word xs i:=by
 have hg:xs.getD i 0=xs[i]:=by simp[List.getD,List.getElem?_eq_getElem hi]
 have h:=XHEW hok i hi
 unfold qZPP
 by_cases h1:1≤xs.getD i 0
 ·rw[if_pos (by simp only[doneB,decide_eq_true_eq];omega)]
 ·rw[if_neg (by simp only[doneB,decide_eq_true_eq];omega),word,if_neg h1]
end Go.Proofs.YtfjeonehdlphiaaGreatDoor

namespace Go.Proofs.YtfjeonehdlphiaaGreatDoor
open Go.RowKit
def wordS (ts:List (List UInt8)) (n:Int):List UInt8:=if 0≤n∧n<ts.length then ts.getD n.toNat [] else []
def wordE (ts:List (List UInt8)) (n:Int):Int:=if wordS ts n=[] then 4 else 0
theorem qnca (xs:List Int) (hok:qtFp xs=true) (i:Nat):(word xs i).length≤15:=by
 unfold word
 split
 ·rename_i h
  rw[zrCv]
  by_cases hi:i<xs.length
  ·have h2:=XHEW hok i hi
   have hg:xs.getD i 0=xs[i]:=by simp[List.getD,List.getElem?_eq_getElem hi]
   omega
  ·have hg:xs.getD i 0=0:=by simp[List.getD,List.getElem?_eq_none (show xs.length≤i by omega)]
   omega
 ·simp
theorem j1tV (xs:List Int) (hok:qtFp xs=true) (n:Int):(wordS (j6d1 xs) n).length≤15:=by
 unfold wordS
 split
 ·rename_i h
  have h2:n.toNat<xs.length:=by rw[zFud] at h;omega
  have:(j6d1 xs).getD n.toNat []=word xs n.toNat:=by simp[List.getD,j6d1,h2]
  rw[this]
  exact qnca xs hok _
 ·simp
end Go.Proofs.YtfjeonehdlphiaaGreatDoor

namespace Go.Proofs.YtfjeonehdlphiaaGreatDoor
open Go.RowKit
theorem XvVR (n a b:Nat):jJyG n (a+b)=jJyG (n / 2 ^ b) a++jJyG n b:=by
 induction b generalizing n with
 | zero=>simp[jJyG]
 | succ b ih =>
  rw[show a+(b+1)=(a+b)+1 by omega,jJyG,ih (n / 2),jJyG,List.append_assoc,Nat.div_div_eq_div_mul,Nat.pow_succ,Nat.mul_comm 2]
theorem XNSd {x y a:Nat} (hx:x<2 ^ a) (hy:y<2 ^ a) (h:jJyG x a=jJyG y a):x=y:=by
 have h1:=jA8q x a hx
 rw[h,jA8q y a hy] at h1
 exact h1.symm
theorem zCZ0 {x y a b:Nat} (hx:x<2 ^ a) (hy:y<2 ^ b) (h:jJyG x a <+: jJyG y b):a≤b∧y / 2 ^ (b-a)=x:=by
 have hl:=h.length_le
 rw[zrCv,zrCv] at hl
 refine ⟨hl,?_⟩
 have e:b=a+(b-a):=by omega
 have h2:jJyG y b=jJyG (y / 2 ^ (b-a)) a++jJyG y (b-a):=by
  have:=XvVR y a (b-a)
  rw[←e] at this
  exact this
 have h3:(jJyG y b).take a=jJyG x a:=by
  have h4:=List.prefix_iff_eq_take.1 h
  rw[zrCv] at h4
  exact h4.symm
 rw[h2,List.take_append_of_le_length (by rw[zrCv];exact Nat.le_refl _),List.take_of_length_le (by rw[zrCv];exact Nat.le_refl _)] at h3
 refine XNSd ?_ hx h3
 rw[Nat.div_lt_iff_lt_mul (Nat.pow_pos (by decide)),←Nat.pow_add,←e]
 exact hy
theorem japd (xs:List Int) (t d:Nat) (h:t+d≤15):low xs t≤low xs (t+d):=by
 induction d with
 | zero=>exact Nat.le_refl _
 | succ d ih =>
  have:=jjMz xs (t+d) (by omega)
  have:=ih (by omega)
  rw[show t+(d+1)=t+d+1 by omega]
  omega
theorem XK9E (xs:List Int) (s:Int) (i j:Nat) (hij:i<j) (hi:i<xs.length) (he:xs[i]=s):cnt xs s i+1≤cnt xs s j:=by
 have h1:cnt xs s (i+1)=cnt xs s i+1:=by rw[XIRo xs s i hi,if_pos he]
 have h2:cnt xs s (i+1)≤cnt xs s j:=by
  unfold cnt XpDF
  exact (List.Sublist.filter _ (List.take_sublist_take_left (by omega))).length_le
 omega
theorem XuU3 (xs:List Int) (hE:qO3F xs=0) (i j:Nat) (hi:i<xs.length) (hj:j<xs.length) (hne:i≠j) (hw:word xs i≠[]):¬word xs i <+: word xs j:=by
 obtain ⟨_,_,hok,_,hs⟩:=zF8D hE
 intro hp
 have gi:xs.getD i 0=xs[i]:=by simp[List.getD,List.getElem?_eq_getElem hi]
 have gj:xs.getD j 0=xs[j]:=by simp[List.getD,List.getElem?_eq_getElem hj]
 have oi:=XHEW hok i hi
 have oj:=XHEW hok j hj
 have h1:1≤xs[i]:=by
  rw[←gi]
  refine Decidable.byContradiction fun h=>hw ?_
  rw[word,if_neg h]
 have h2:1≤xs[j]:=by
  rw[←gj]
  refine Decidable.byContradiction fun h=>hw ?_
  have e:word xs j=[]:=by rw[word,if_neg h]
  rw[e] at hp
  exact List.prefix_nil.1 hp
 obtain ⟨a,ha⟩:∃a:Nat,xs[i]=(a:Int)+1:=⟨(xs[i]-1).toNat,by omega⟩
 obtain ⟨c,hc⟩:∃c:Nat,xs[j]=(c:Int)+1:=⟨(xs[j]-1).toNat,by omega⟩
 have e1:word xs i=jJyG (nxt xs a i) (a+1):=by
  rw[word,gi,if_pos h1,ha,show ((a:Int)+1).toNat=a+1 by omega,show a+1-1=a by omega]
 have e2:word xs j=jJyG (nxt xs c j) (c+1):=by
  rw[word,gj,if_pos h2,hc,show ((c:Int)+1).toNat=c+1 by omega,show c+1-1=c by omega]
 rw[e1,e2] at hp
 obtain ⟨hle,hdiv⟩:=zCZ0 (XdXl xs a i (by omega) hs hi ha) (XdXl xs c j (by omega) hs hj hc) hp
 by_cases hac:a=c
 ·subst hac
  rw[Nat.sub_self,Nat.pow_zero,Nat.div_one,nxt,nxt] at hdiv
  rcases Nat.lt_or_gt_of_ne hne with h|h
  ·have:=XK9E xs _ i j h hi ha;omega
  ·have:=XK9E xs _ j i h hj hc;omega
 ·have hlt:a<c:=by omega
  have b1:=XyMS xs a (by omega)
  have b2:=XyMS xs c (by omega)
  have l1:=jjMz xs a (by omega)
  have l2:=japd xs (a+1) (c-(a+1)) (by omega)
  rw[show a+1+(c-(a+1))=c by omega] at l2
  have k1:=XK9E xs _ i xs.length hi hi ha
  rw[qsPk] at k1
  have q1:(nxt xs a i+1)*2 ^ (14-a)≤low xs (a+1):=by
   rw[l1,nxt,←b1,←Nat.add_mul]
   exact Nat.mul_le_mul_right _ (by omega)
  have q2:low xs c≤nxt xs c j*2 ^ (14-c):=by
   rw[←b2,nxt]
   exact Nat.mul_le_mul_right _ (by omega)
  have q3:nxt xs c j<(nxt xs a i+1)*2 ^ (c-a):=by
   rw[show c+1-(a+1)=c-a by omega] at hdiv
   have:=Nat.lt_mul_div_succ (nxt xs c j) (show 0<2 ^ (c-a) from Nat.pow_pos (by decide))
   rw[hdiv,Nat.mul_comm] at this
   exact this
  have q4:nxt xs c j*2 ^ (14-c)<(nxt xs a i+1)*2 ^ (14-a):=by
   have:=Nat.mul_lt_mul_of_pos_right q3 (show 0<2 ^ (14-c) from Nat.pow_pos (by decide))
   rw[Nat.mul_assoc,←Nat.pow_add,show c-a+(14-c)=14-a by omega] at this
   exact this
  omega
def PF (ts:List (List UInt8)):Prop:=∀i j,i<ts.length→j<ts.length→i≠j→ts.getD i []≠[]→¬ts.getD i [] <+: ts.getD j []
theorem XtTT (xs:List Int) (hE:qO3F xs=0):PF (j6d1 xs):=by
 intro i j hi hj hne hw
 rw[zFud] at hi hj
 have e:∀k,k<xs.length→(j6d1 xs).getD k []=word xs k:=fun k hk=>by simp[List.getD,j6d1,hk]
 rw[e i hi] at hw ⊢
 rw[e j hj]
 exact XuU3 xs hE i j hi hj hne hw
def putF (f:List UInt8→Option (Int×Bool)) (k:List UInt8) (p:Int×Bool):List UInt8→Option (Int×Bool):=fun key=>if key=k then some p else f key
def preF (f:List UInt8→Option (Int×Bool)) (wd:List UInt8):Nat→List UInt8→Option (Int×Bool)
 | 0=>f
 | j+1=>putF (preF f wd j) (wd.take (j+1)) (0,false)
def addW (f:List UInt8→Option (Int×Bool)) (i:Nat) (wd:List UInt8):List UInt8→Option (Int×Bool):=if wd=[] then f else putF (preF f wd (wd.length-1)) wd (i,true)
def bookF (ts:List (List UInt8)):Nat→List UInt8→Option (Int×Bool)
 | 0=>fun _=>none
 | i+1=>addW (bookF ts i) i (ts.getD i [])
theorem X36M (f:List UInt8→Option (Int×Bool)) (wd key:List UInt8) (j:Nat) (h1:1≤key.length) (h2:key.length≤j) (h:key <+: wd):preF f wd j key=some (0,false):=by
 have hk:wd.take key.length=key:=(List.prefix_iff_eq_take.1 h).symm
 induction j with
 | zero=>omega
 | succ j ih =>
  rw[preF,putF]
  by_cases e:key=wd.take (j+1)
  ·rw[if_pos e]
  ·rw[if_neg e]
   refine ih ?_
   refine Decidable.byContradiction fun hn=>e ?_
   have:key.length=j+1:=by omega
   rw[←this,hk]
theorem qnxP (f:List UInt8→Option (Int×Bool)) (wd key:List UInt8) (j:Nat) (h:¬(1≤key.length∧key <+: wd)) (hw:wd≠[]):preF f wd j key=f key:=by
 induction j with
 | zero=>rfl
 | succ j ih =>
  rw[preF,putF,if_neg,ih]
  intro e
  refine h ⟨?_,by rw[e];exact List.take_prefix _ _⟩
  rw[e,List.length_take]
  have:wd.length≠0:=fun h=>hw (List.eq_nil_of_length_eq_zero h)
  omega
theorem zbVD (ts:List (List UInt8)) (hpf:PF ts) (m:Nat) (hm:m≤ts.length) (i:Nat) (hi:i<m) (hw:ts.getD i []≠[]):bookF ts m (ts.getD i [])=some ((i:Int),true):=by
 induction m with
 | zero=>omega
 | succ m ih =>
  rw[bookF,addW]
  by_cases e:i=m
  ·subst e;rw[if_neg hw,putF,if_pos rfl]
  ·split
   ·exact ih (by omega) (by omega)
   ·rename_i hmw
    have hnp:=hpf i m (by omega) (by omega) e hw
    rw[putF,if_neg (fun h=>hnp (by rw[h];exact List.prefix_rfl)),qnxP _ _ _ _ (fun h=>hnp h.2) hmw]
    exact ih (by omega) (by omega)
theorem zzGX (ts:List (List UInt8)) (m:Nat) (hm:m≤ts.length) (key:List UInt8) (hk:key≠[]) (hno:∀i,i<m→ts.getD i []≠key) (hyes:∃i,i<m∧key <+: ts.getD i []):bookF ts m key=some (0,false):=by
 have hk1:1≤key.length:=by
  have:key.length≠0:=fun h=>hk (List.eq_nil_of_length_eq_zero h)
  omega
 induction m with
 | zero=>obtain ⟨i,hi,_⟩:=hyes;omega
 | succ m ih =>
  obtain ⟨i,hi,hp⟩:=hyes
  rw[bookF,addW]
  by_cases hpm:key <+: ts.getD m []
  ·have hmw:ts.getD m []≠[]:=fun h=>hk (by rw[h] at hpm;exact List.prefix_nil.1 hpm)
   have hne:=hno m (by omega)
   rw[if_neg hmw,putF,if_neg (fun h=>hne h.symm)]
   refine X36M _ _ _ _ hk1 ?_ hpm
   have hl:=hpm.length_le
   have:key.length≠(ts.getD m []).length:=fun h=>hne (hpm.eq_of_length h).symm
   omega
  ·have him:i≠m:=fun h=>hpm (by rw[←h];exact hp)
   have ih':=ih (by omega) (fun k hk=>hno k (by omega)) ⟨i,by omega,hp⟩
   split
   ·exact ih'
   ·rename_i hmw
    rw[putF,if_neg (fun h=>hno m (by omega) h.symm),qnxP _ _ _ _ (fun h=>hpm h.2) hmw]
    exact ih'
theorem X9WZ (ts:List (List UInt8)) (m:Nat) (key:List UInt8) (hno:∀i,i<m→¬key <+: ts.getD i []):bookF ts m key=none:=by
 induction m with
 | zero=>rfl
 | succ m ih =>
  have ih':=ih (fun k hk=>hno k (by omega))
  rw[bookF,addW]
  split
  ·exact ih'
  ·rename_i hmw
   rw[putF,if_neg (fun h=>hno m (by omega) (by rw[h];exact List.prefix_rfl)),qnxP _ _ _ _ (fun h=>hno m (by omega) h.2) hmw]
   exact ih'
def nextF (f:List UInt8→Option (Int×Bool)):List UInt8→List UInt8→Int×Int×Nat
 | _,[]=>(0,5,0)
 | pre,c::rest =>
  match f (pre++[c]) with
  | none=>(0,4,1)
  | some (n,true)=>(n,0,1)
  | some (_,false)=>((nextF f (pre++[c]) rest).1,(nextF f (pre++[c]) rest).2.1,(nextF f (pre++[c]) rest).2.2+1)
theorem z6CS (ts:List (List UInt8)) (hpf:PF ts) (i:Nat) (hi:i<ts.length) (hw:ts.getD i []≠[]) (rest:List UInt8):∀pre,ts.getD i [] <+: pre++rest→pre.length<(ts.getD i []).length→nextF (bookF ts ts.length) pre rest=((i:Int),0,(ts.getD i []).length-pre.length):=by
 induction rest with
 | nil=>intro pre hp hl;have:=hp.length_le;rw[List.append_nil] at this;omega
 | cons c rest ih =>
  intro pre hp hl
  have hkp:pre++[c] <+: ts.getD i []:=by
   refine List.prefix_of_prefix_length_le (l₃:=pre++c::rest) ⟨rest,by simp⟩ hp ?_
   rw[List.length_append,List.length_singleton];omega
  rw[nextF]
  by_cases he:pre.length+1=(ts.getD i []).length
  ·have e:pre++[c]=ts.getD i []:=hkp.eq_of_length (by rw[List.length_append,List.length_singleton];exact he)
   rw[e,zbVD ts hpf ts.length (Nat.le_refl _) i hi hw]
   simp only[]
   congr 2
   omega
  ·have hno:∀k,k<ts.length→ts.getD k []≠pre++[c]:=by
    intro k hk e
    have hkw:ts.getD k []≠[]:=by rw[e];simp
    by_cases hki:k=i
    ·subst hki;rw[e,List.length_append,List.length_singleton] at he;exact he rfl
    ·exact hpf k i hk hi hki hkw (by rw[e];exact hkp)
   rw[zzGX ts ts.length (Nat.le_refl _) (pre++[c]) (by simp) hno ⟨i,hi,hkp⟩]
   have h:=ih (pre++[c]) (by rw[List.append_assoc];exact hp) (by rw[List.length_append,List.length_singleton];omega)
   simp only[h]
   congr 2
   rw[List.length_append,List.length_singleton]
   omega
theorem zXuE (ts:List (List UInt8)) (rest:List UInt8):∀pre,(∀i,i<ts.length→ts.getD i []≠[]→¬ts.getD i [] <+: pre++rest)→(∃i,i<ts.length∧pre++rest <+: ts.getD i [])→nextF (bookF ts ts.length) pre rest=(0,5,rest.length):=by
 induction rest with
 | nil=>intro pre _ _;rfl
 | cons c rest ih =>
  intro pre hno hyes
  obtain ⟨i,hi,hp⟩:=hyes
  have hkb:pre++[c] <+: pre++c::rest:=⟨rest,by simp⟩
  rw[nextF,zzGX ts ts.length (Nat.le_refl _) (pre++[c]) (by simp) (fun k hk e=>hno k hk (by rw[e];simp) (by rw[e];exact hkb)) ⟨i,hi,hkb.trans hp⟩]
  have h:=ih (pre++[c]) (by rw[List.append_assoc];exact hno) ⟨i,hi,by rw[List.append_assoc];exact hp⟩
  simp only[h]
  rfl
theorem j9uY (ts:List (List UInt8)) (rest:List UInt8):∀pre,(∀i,i<ts.length→ts.getD i []≠[]→¬ts.getD i [] <+: pre++rest)→(∀i,i<ts.length→ts.getD i []≠[]→¬pre++rest <+: ts.getD i [])→(∃i,i<ts.length∧ts.getD i []≠[]∧pre <+: ts.getD i []) →
  (nextF (bookF ts ts.length) pre rest).1=0∧(nextF (bookF ts ts.length) pre rest).2.1=4:=by
 induction rest with
 | nil =>
  intro pre _ hno hyes
  obtain ⟨i,hi,hw,hp⟩:=hyes
  exact absurd (by rw[List.append_nil];exact hp) (hno i hi hw)
 | cons c rest ih =>
  intro pre hno hno2 _
  have hkb:pre++[c] <+: pre++c::rest:=⟨rest,by simp⟩
  rw[nextF]
  by_cases hex:∃i,i<ts.length∧pre++[c] <+: ts.getD i []
  ·obtain ⟨i,hi,hp⟩:=hex
   rw[zzGX ts ts.length (Nat.le_refl _) (pre++[c]) (by simp) (fun k hk e=>hno k hk (by rw[e];simp) (by rw[e];exact hkb)) ⟨i,hi,hp⟩]
   exact ih (pre++[c]) (by rw[List.append_assoc];exact hno) (by rw[List.append_assoc];exact hno2) ⟨i,hi,fun h=>by rw[h] at hp;have:=List.prefix_nil.1 hp;simp at this,hp⟩
  ·rw[X9WZ ts ts.length (pre++[c]) (fun i hi h=>hex ⟨i,hi,h⟩)]
   exact ⟨rfl,rfl⟩
end Go.Proofs.YtfjeonehdlphiaaGreatDoor

namespace Go.Proofs.YtfjeonehdlphiaaGreatDoor
open Go.RowKit
def jbTy (n:Int):Bool:=decide (1≤n∧n≤64)
def jDpp (v:Int):Bool:=decide (0≤v∧v≤65535)
def qLlL (zs:List Int):Bool:=zs.all jDpp
def q0fM (W H:Int) (zs:List Int):Bool:=jbTy W && jbTy H && decide ((zs.length:Int)=W*H) && qLlL zs
def qkcw (k:Int):Bool:=decide (1≤k∧k≤7)
theorem zHpx {zs:List Int} (h:qLlL zs=true) (k:Nat) (hk:k<zs.length):0≤zs[k]∧zs[k]≤65535:=by
 have:=List.all_eq_true.1 h _ (List.getElem_mem hk)
 simpa [jDpp] using this
theorem qlb5 {zs:List Int} (h:qLlL zs=true) (k:Nat):0≤zs.getD k 0∧zs.getD k 0≤65535:=by
 by_cases hk:k<zs.length
 ·rw[show zs.getD k 0=zs[k] by simp[List.getD,hk]];exact zHpx h k hk
 ·rw[show zs.getD k 0=0 by simp[List.getD,hk]];omega
theorem qfz3 (zs:List Int) (x:Int):qLlL (zs++[x])=(qLlL zs && jDpp x):=by simp[qLlL]
theorem qwcI {W H:Int} {zs:List Int} (h:q0fM W H zs=true):(1≤W∧W≤64)∧(1≤H∧H≤64)∧(zs.length:Int)=W*H∧qLlL zs=true:=by
 simp only[q0fM,jbTy,Bool.and_eq_true,decide_eq_true_eq] at h
 exact ⟨h.1.1.1,h.1.1.2,h.1.2,h.2⟩
theorem zAFj {W H:Int} (h1:1≤W∧W≤64) (h2:1≤H∧H≤64):1≤W*H∧W*H≤4096:=by
 have a:=Int.mul_le_mul h1.2 h2.2 (by omega) (by omega)
 have b:=Int.mul_le_mul h1.1 h2.1 (by omega) (by omega)
 omega
def jA7c (kind a b c:Int):Int :=
 if kind=1 then a else if kind=2 then b else if kind=3 then c else if kind=4 then a+b-c else if kind=5 then a+(b-c) / 2 else if kind=6 then b+(a-c) / 2 else (a+b) / 2
def gAt (zs:List Int) (W:Nat) (kind:Int) (k:Nat):Int :=
 if k % W=0∧k / W=0 then 32768 else if k / W=0 then zs.getD (k-1) 0 else if k % W=0 then zs.getD (k-W) 0 else jA7c kind (zs.getD (k-1) 0) (zs.getD (k-W) 0) (zs.getD (k-W-1) 0)
theorem q1DH (kind a b c:Int) (ha:0≤a∧a≤65535) (hb:0≤b∧b≤65535) (hc:0≤c∧c≤65535):-65536≤jA7c kind a b c∧jA7c kind a b c≤131070:=by
 unfold jA7c
 repeat' split
 all_goals omega
theorem zjsj (zs:List Int) (W:Nat) (kind:Int) (k:Nat) (h:qLlL zs=true):-65536≤gAt zs W kind k∧gAt zs W kind k≤131070:=by
 have a:=qlb5 h (k-1)
 have b:=qlb5 h (k-W)
 have c:=qlb5 h (k-W-1)
 have d:=q1DH kind _ _ _ a b c
 unfold gAt
 repeat' split
 all_goals omega
theorem qJEU {zs ys:List Int} {W:Nat} {kind:Int} {k:Nat} (hW:1≤W) (h:∀j,j<k→zs.getD j 0=ys.getD j 0):gAt zs W kind k=gAt ys W kind k:=by
 unfold gAt
 by_cases hk:k=0
 ·subst hk;simp
 ·rw[h (k-1) (by omega),h (k-W) (by omega),h (k-W-1) (by omega)]
def dif (s g:Int):Int:=if 32768<(s-g) % 65536 then (s-g) % 65536-65536 else (s-g) % 65536
theorem XdLc (s g:Int):-32768<dif s g∧dif s g≤32768:=by unfold dif;split<;>omega
theorem qw74 (s g:Int) (h0:0≤s) (h1:s≤65535):(g+dif s g) % 65536=s:=by unfold dif;split<;>omega
def blen (n:Nat):Nat:=if n=0 then 0 else n.log2+1
theorem jzCW (n:Nat):n<2 ^ blen n:=by
 unfold blen
 split
 ·subst_vars;decide
 ·exact Nat.lt_log2_self
theorem qn5x (n:Nat) (h:n≠0):2 ^ (blen n-1)≤n:=by
 unfold blen
 rw[if_neg h,Nat.add_sub_cancel]
 exact Nat.log2_self_le h
theorem Xju9 {n k:Nat} (h:n<2 ^ k):blen n≤k:=by
 unfold blen
 split
 ·omega
 ·rename_i h0
  exact (Nat.log2_lt h0).2 h
theorem zXXi {n k:Nat} (h:2 ^ k≤n):k<blen n:=by
 refine Decidable.byContradiction fun hn=>?_
 have h1:=jzCW n
 have h2:=Nat.pow_le_pow_right (n:=2) (by decide) (show blen n≤k by omega)
 omega
theorem XMtG {n k:Nat} (h1:2 ^ k≤n) (h2:n<2 ^ (k+1)):blen n=k+1:=by
 have:=zXXi h1
 have:=Xju9 h2
 omega
def cls (d:Int):Nat:=blen d.natAbs
theorem qSCF {d:Int} (h0:-32768<d) (h1:d≤32768):cls d≤16:=Xju9 (by omega)
theorem qPTq {d:Int} (h0:-32768<d) (h1:d≤32768) (h:cls d=16):d=32768:=by
 have h2:d.natAbs≠0:=fun e=>by rw[cls,e] at h;simp[blen] at h
 have:=qn5x d.natAbs h2
 rw[show blen d.natAbs=16 from h] at this
 omega
theorem XEhw {d:Int} (h:cls d=0):d=0:=by
 have:=jzCW d.natAbs
 rw[show blen d.natAbs=0 from h] at this
 omega
theorem qAV8:cls 32768=16:=by decide
def tailN (d:Int):Nat:=(if d<0 then d+2 ^ cls d-1 else d).toNat
def tailB (d:Int):List UInt8:=if cls d=0∨cls d=16 then [] else jJyG (tailN d) (cls d)
def wrD (ts:List (List UInt8)) (d:Int):List UInt8:=wordS ts (cls d)++tailB d
def tailV (c v:Nat):Int:=if v<2 ^ c / 2 then (v:Int)-(2 ^ c-1) else v
theorem qbLi (d:Int) (h:cls d≠0):∃c,cls d=c+1∧2 ^ c≤d.natAbs∧d.natAbs<2*2 ^ c∧(2:Int) ^ cls d=((2*2 ^ c:Nat):Int):=by
 have h0:d.natAbs≠0:=fun e=>h (by rw[cls,e];rfl)
 have h1:=qn5x _ h0
 have h2:=jzCW d.natAbs
 obtain ⟨c,hc⟩:∃c,blen d.natAbs=c+1:=⟨blen d.natAbs-1,by unfold cls at h;omega⟩
 rw[hc,Nat.add_sub_cancel] at h1
 rw[hc,Nat.pow_succ] at h2
 refine ⟨c,hc,h1,by omega,?_⟩
 rw[show cls d=c+1 from hc,q5J9,Nat.pow_succ,Nat.mul_comm]
theorem jZV6 (c v:Nat):tailV (c+1) v=if v<2 ^ c then (v:Int)-(2*((2 ^ c:Nat):Int)-1) else v:=by
 have h1:(2:Nat) ^ (c+1) / 2=2 ^ c:=by rw[Nat.pow_succ];omega
 have h2:(2:Int) ^ (c+1)=2*((2 ^ c:Nat):Int):=by rw[q5J9,Nat.pow_succ,Nat.mul_comm,Int.natCast_mul];rfl
 unfold tailV
 rw[h1,h2]
theorem z0jg (d:Int) (c:Nat) (h:cls d=c+1):tailN d=(if d<0 then d+2*((2 ^ c:Nat):Int)-1 else d).toNat:=by
 have h2:(2:Int) ^ (c+1)=2*((2 ^ c:Nat):Int):=by rw[q5J9,Nat.pow_succ,Nat.mul_comm,Int.natCast_mul];rfl
 rw[tailN,h,h2]
theorem jUqN (d:Int) (h:cls d≠0):tailN d<2 ^ cls d∧((tailN d:Nat):Int)=if d<0 then d+2 ^ cls d-1 else d:=by
 obtain ⟨c,hc,h1,h2,h3⟩:=qbLi d h
 have h4:(2:Nat) ^ cls d=2*2 ^ c:=by rw[hc,Nat.pow_succ];omega
 rw[z0jg d c hc,h3,h4]
 generalize (2:Nat) ^ c=p at *
 split<;>omega
theorem jRFu (d:Int) (h:cls d≠0):tailV (cls d) (tailN d)=d:=by
 obtain ⟨c,hc,h1,h2,h3⟩:=qbLi d h
 have h5:=z0jg d c hc
 rw[hc,jZV6]
 generalize tailN d=t at *
 generalize (2:Nat) ^ c=p at *
 split<;>split at h5<;>omega
theorem zNdJ (c v:Nat) (hc:c≤15) (hv:v<2 ^ c):cls (tailV c v)=c∧-32768<tailV c v∧tailV c v≤32768∧(c≠0→tailN (tailV c v)=v):=by
 have hp:2 ^ c≤32768:=Nat.le_trans (Nat.pow_le_pow_right (by decide) hc) (by decide)
 cases c with
 | zero =>
  have:v=0:=by simpa using hv
  subst this
  exact ⟨by decide,by decide,by decide,fun h=>absurd rfl h⟩
 | succ c =>
  have hcl:cls (tailV (c+1) v)=c+1:=by
   refine XMtG ?_ ?_
   all_goals
    rw[jZV6]
    rw[Nat.pow_succ] at *
    generalize (2:Nat) ^ c=p at *
    split<;>omega
  rw[z0jg _ c hcl,hcl,jZV6]
  rw[Nat.pow_succ] at *
  clear hcl
  generalize (2:Nat) ^ c=p at *
  refine ⟨rfl,?_,?_,fun _=>?_⟩
  ·split<;>omega
  ·split<;>omega
  ·repeat' split
   all_goals omega
theorem jCcD {d:Int} (h0:-32768<d) (h1:d≤32768):(tailB d).length≤15:=by
 have:=qSCF h0 h1
 unfold tailB
 split
 ·simp
 ·rw[zrCv];omega
theorem qzEB (d:Int):allB (tailB d)=true:=by
 unfold tailB
 split
 ·rfl
 ·exact jKfQ _ _
theorem qmOh (f:List UInt8→Option (Int×Bool)) (pre b:List UInt8) (h:(nextF f pre b).2.1=0):1≤(nextF f pre b).2.2:=by
 cases b with
 | nil=>simp[nextF] at h
 | cons c b =>
  rw[nextF] at h ⊢
  split
  ·exact Nat.le_refl _
  ·exact Nat.le_refl _
  ·simp
def nxD (f:List UInt8→Option (Int×Bool)) (b:List UInt8):Option (Int×Nat) :=
  if (nextF f [] b).2.1=0 then
    (if (nextF f [] b).1=16 then some (32768,(nextF f [] b).2.2)
     else if b.length<(nextF f [] b).2.2+(nextF f [] b).1.toNat then none
     else some (tailV (nextF f [] b).1.toNat (valOf ((b.drop (nextF f [] b).2.2).take (nextF f [] b).1.toNat)),(nextF f [] b).2.2+(nextF f [] b).1.toNat))
  else none
theorem jJbx (ts:List (List UInt8)) (c:Nat) (h:wordS ts c≠[]):c<ts.length∧wordS ts c=ts.getD c []:=by
 unfold wordS at h ⊢
 split at h
 ·rename_i hc
  exact ⟨by omega,by rw[if_pos hc];simp⟩
 ·exact absurd rfl h
theorem nxD_wr (ts:List (List UInt8)) (hpf:PF ts) (d:Int) (h0:-32768<d) (h1:d≤32768) (hw:wordS ts (cls d)≠[]) (rest:List UInt8) :
  nxD (bookF ts ts.length) (wrD ts d++rest)=some (d,(wrD ts d).length):=by
 obtain ⟨hc,he⟩:=jJbx ts _ hw
 have hw2:ts.getD (cls d) []≠[]:=by rw[←he];exact hw
 have hl:0<(ts.getD (cls d) []).length:=List.length_pos_iff.2 hw2
 have hn:=z6CS ts hpf (cls d) hc hw2 (wrD ts d++rest) [] (by rw[List.nil_append,wrD,he,List.append_assoc];exact List.prefix_append _ _) (by simpa using hl)
 rw[nxD,hn]
 simp only[List.length_nil,Nat.sub_zero,Int.toNat_natCast,if_true]
 have hcl:=qSCF h0 h1
 by_cases h16:cls d=16
 ·rw[if_pos (by omega),qPTq h0 h1 h16]
  rw[wrD,qAV8,show tailB 32768=[] by rw[tailB,if_pos (.inr qAV8)],List.append_nil,←h16,he]
 ·rw[if_neg (by omega)]
  have htl:(tailB d).length=cls d:=by
   unfold tailB
   split
   ·rename_i h;simp;omega
   ·rw[zrCv]
  have hwl:(wrD ts d).length=(ts.getD (cls d) []).length+cls d:=by rw[wrD,List.length_append,he,htl]
  rw[if_neg (by rw[List.length_append,hwl];omega)]
  have hdrop:((wrD ts d++rest).drop (ts.getD (cls d) []).length).take (cls d)=tailB d:=by
   rw[wrD,he,List.append_assoc,List.drop_left,←htl,List.take_left]
  rw[hdrop,hwl]
  by_cases hz:cls d=0
  ·have hd:=XEhw hz
   subst hd
   rfl
  ·rw[tailB,if_neg (by omega),jA8q _ _ (jUqN d hz).1,jRFu d hz]
theorem z5zM (ts:List (List UInt8)) (hts:ts.length≤17) (b:List UInt8) (hb:allB b=true)
  (hnx:(nextF (bookF ts ts.length) [] b).2.1=0→∃i:Nat,i<ts.length∧(nextF (bookF ts ts.length) [] b).1=i∧(nextF (bookF ts ts.length) [] b).2.2=(ts.getD i []).length∧ts.getD i [] <+: b)
  (d:Int) (n:Nat) (h:nxD (bookF ts ts.length) b=some (d,n)) :
  n≤b.length∧b.take n=wrD ts d∧-32768<d∧d≤32768∧wordS ts (cls d)≠[]:=by
 rw[nxD] at h
 split at h
 ·rename_i he
  have hl1:=qmOh _ _ _ he
  obtain ⟨i,hi,h1,h2,hp⟩:=hnx he
  rw[h1,h2] at h
  rw[h2] at hl1
  have hw2:ts.getD i []≠[]:=fun e=>by rw[e] at hl1;simp at hl1
  have hws:wordS ts (i:Int)=ts.getD i []:=by rw[wordS,if_pos (by omega)];simp
  have hpl:=hp.length_le
  have htk:b.take (ts.getD i []).length=ts.getD i []:=(List.prefix_iff_eq_take.1 hp).symm
  split at h
  ·rename_i h16
   simp only[Option.some.injEq,Prod.mk.injEq] at h
   obtain ⟨rfl,rfl⟩:=h
   have hi16:i=16:=by omega
   subst hi16
   refine ⟨hpl,?_,by decide,by decide,?_⟩
   ·rw[htk,wrD,qAV8,show tailB 32768=[] by rw[tailB,if_pos (.inr qAV8)],List.append_nil];exact hws.symm
   ·rw[qAV8];show wordS ts ((16:Nat):Int)≠[];rw[hws];exact hw2
  ·rename_i h16
   split at h
   ·cases h
   ·rename_i hlen
    simp only[Option.some.injEq,Prod.mk.injEq,Int.toNat_natCast] at h hlen
    obtain ⟨rfl,rfl⟩:=h
    have hcl:((b.drop (ts.getD i []).length).take i).length=i:=by rw[List.length_take,List.length_drop];omega
    have hab:allB ((b.drop (ts.getD i []).length).take i)=true:=zTn5 (Xvwf hb _) _
    have hv:=zEdZ _ hab
    rw[hcl] at hv
    obtain ⟨k1,k2,k3,k4⟩:=zNdJ i _ (by omega) hv
    refine ⟨by omega,?_,k2,k3,by rw[k1,hws];exact hw2⟩
    rw[wrD,k1,hws,List.take_add,htk]
    congr 1
    rw[tailB,k1]
    by_cases hz:i=0
    ·subst hz;simp
    ·rw[if_neg (by omega),k4 hz]
     have:=jqBu _ hab
     rw[hcl] at this
     exact this.symm
 ·cases h
def dAt (zs:List Int) (W:Nat) (kind:Int) (i:Nat):Int:=dif (zs.getD i 0) (gAt zs W kind i)
def dBits (ts:List (List UInt8)) (zs:List Int) (W:Nat) (kind:Int) (n:Nat):List UInt8:=(List.range n).flatMap fun i=>wrD ts (dAt zs W kind i)
def dAll (ts:List (List UInt8)) (zs:List Int) (W:Nat) (kind:Int) (n:Nat):Bool:=(List.range n).all fun i=>decide (wordS ts (cls (dAt zs W kind i))≠[])
theorem XRjF (ts:List (List UInt8)) (zs:List Int) (W:Nat) (kind:Int) (n:Nat):dBits ts zs W kind (n+1)=dBits ts zs W kind n++wrD ts (dAt zs W kind n):=by simp[dBits,List.range_succ]
theorem qulm (ts:List (List UInt8)) (zs:List Int) (W:Nat) (kind:Int) (n:Nat):dAll ts zs W kind (n+1)=(dAll ts zs W kind n && decide (wordS ts (cls (dAt zs W kind n))≠[])):=by simp[dAll,List.range_succ]
theorem z4Mg (ts:List (List UInt8)) (zs:List Int) (W:Nat) (kind:Int) (n k:Nat) (hk:k<n) (h:wordS ts (cls (dAt zs W kind k))=[]):dAll ts zs W kind n=false:=by
 rw[Bool.eq_false_iff];intro he
 have:=List.all_eq_true.1 he k (List.mem_range.2 hk)
 simp[h] at this
theorem z7Ig {ts:List (List UInt8)} {zs:List Int} {W:Nat} {kind:Int} {n:Nat} (h:dAll ts zs W kind n=true) (k:Nat) (hk:k<n):wordS ts (cls (dAt zs W kind k))≠[]:=by
 have:=List.all_eq_true.1 h k (List.mem_range.2 hk)
 simpa using this
theorem qhlU (xs:List Int) (hok:qtFp xs=true) (d:Int) (h0:-32768<d) (h1:d≤32768):(wrD (j6d1 xs) d).length≤30:=by
 have:=j1tV xs hok (cls d)
 have:=jCcD h0 h1
 rw[wrD,List.length_append];omega
theorem jcrL (xs:List Int) (hok:qtFp xs=true) (zs:List Int) (W:Nat) (kind:Int) (n:Nat):(dBits (j6d1 xs) zs W kind n).length≤30*n:=by
 induction n with
 | zero=>simp[dBits]
 | succ n ih =>
  have:=XdLc (zs.getD n 0) (gAt zs W kind n)
  have:=qhlU xs hok (dAt zs W kind n) this.1 this.2
  rw[XRjF,List.length_append];omega
def rdD (f:List UInt8→Option (Int×Bool)) (b:List UInt8) (W:Nat) (kind:Int):Nat→Option (Nat×List Int)
 | 0=>some (0,[])
 | k+1=>match rdD f b W kind k with
  | none=>none
  | some (pos,zs)=>match nxD f (b.drop pos) with
   | none=>none
   | some (d,n)=>some (pos+n,zs++[(gAt zs W kind k+d) % 65536])
theorem jU4C {f : List UInt8 → Option (Int × Bool)} {b : List UInt8} {W : Nat} {kind : Int} {k n : Nat} (hk : k ≤ n) (h : rdD f b W kind k = none) : rdD f b W kind n = none := by
  induction n with
  | zero => obtain rfl : k = 0 := by omega
            exact h
  | succ n ih =>
    by_cases e : k = n + 1
    · subst e; exact h
    · rw [rdD, ih (by omega)]
theorem qbXa {f:List UInt8→Option (Int×Bool)} {b:List UInt8} {W:Nat} {kind:Int} {k pos:Nat} {zs:List Int} (h:rdD f b W kind k=some (pos,zs)):zs.length=k∧qLlL zs=true:=by
 induction k generalizing pos zs with
 | zero=>rw[rdD] at h;cases h;exact ⟨rfl,rfl⟩
 | succ k ih =>
  rw[rdD] at h
  split at h
  ·cases h
  ·rename_i p ys hy
   split at h
   ·cases h
   ·cases h
    obtain ⟨h1,h2⟩:=ih hy
    refine ⟨by simp[h1],?_⟩
    rw[qfz3,h2,jDpp]
    simp;omega
theorem rdD_of (ts:List (List UInt8)) (hpf:PF ts) (zs:List Int) (hz:qLlL zs=true) (W:Nat) (hW:1≤W) (kind:Int) (hall:dAll ts zs W kind zs.length=true) (rest:List UInt8) (k:Nat) (hk:k≤zs.length) :
  rdD (bookF ts ts.length) (dBits ts zs W kind zs.length++rest) W kind k=some ((dBits ts zs W kind k).length,zs.take k):=by
 have hsplit:∀k,k≤zs.length→∃r,dBits ts zs W kind zs.length=dBits ts zs W kind k++r:=by
  intro k hk
  obtain ⟨m,hm⟩:∃m,zs.length=k+m:=⟨zs.length-k,by omega⟩
  rw[hm]
  clear hm hk
  induction m with
  | zero=>exact ⟨[],by simp⟩
  | succ m ih=>obtain ⟨r,hr⟩:=ih;exact ⟨r++wrD ts (dAt zs W kind (k+m)),by rw[show k+(m+1)=(k+m)+1 by omega,XRjF,hr,List.append_assoc]⟩
 induction k with
 | zero=>simp[rdD,dBits]
 | succ k ih =>
  rw[rdD,ih (by omega)]
  obtain ⟨r,hr⟩:=hsplit (k+1) hk
  have hrange:=XdLc (zs.getD k 0) (gAt zs W kind k)
  have hdrop:(dBits ts zs W kind zs.length++rest).drop (dBits ts zs W kind k).length=wrD ts (dAt zs W kind k)++(r++rest):=by
   rw[hr,XRjF,List.append_assoc,List.append_assoc,List.drop_left]
  simp only[hdrop]
  rw[nxD_wr ts hpf (dAt zs W kind k) hrange.1 hrange.2 (z7Ig hall k (by omega))]
  have hg:gAt (zs.take k) W kind k=gAt zs W kind k:=qJEU hW fun j hj=>by simp[List.getD,List.getElem?_take_of_lt hj]
  have hs:=qlb5 hz k
  simp only[Option.some.injEq,Prod.mk.injEq]
  refine ⟨by rw[XRjF,List.length_append],?_⟩
  rw[hg,dAt,qw74 _ _ hs.1 hs.2,List.take_succ_eq_append_getElem (by omega)]
  simp[List.getD,show k<zs.length by omega]
def jvOH (l:List UInt8):Bool:=decide (l.length<8) && !qMvX l
def X2rK (W H:Int) (zs:List Int) (kind:Int) (xs:List Int):Int :=
 if q0fM W H zs=true then (if qkcw kind=true then (if qO3F xs=0 then (if dAll (j6d1 xs) zs W.toNat kind zs.length=true then 0 else 4) else qO3F xs) else 6) else 1
def zivd (W H:Int) (zs:List Int) (kind:Int) (xs:List Int):List UInt8:=if X2rK W H zs kind xs=0 then XIZK (dBits (j6d1 xs) zs W.toNat kind zs.length) else []
end Go.Proofs.YtfjeonehdlphiaaGreatDoor

namespace Go.Proofs.YtfjeonehdlphiaaGreatDoor
open Go.RowKit
theorem XBqW {w:World} {base:Nat} {e:TypeId} {v:Value} {n:Nat} {xs:List Value} (h:w.ownsRow base e 1 v n xs):∃ao cap,v=.slice ao n cap:=by
 rcases h.2 with ⟨hv,hn⟩|⟨g,cap,cur,hv,_⟩
 ·exact ⟨none,0,by rw[hv,hn]⟩
 ·exact ⟨_,cap,hv⟩
theorem X4G3 {W X Y:Nat} (h:X<W):(Y*W+X) % W=X∧(Y*W+X) / W=Y:=by
 constructor
 ·rw[Nat.mul_comm,Nat.mul_add_mod,Nat.mod_eq_of_lt h]
 ·rw[Nat.mul_comm,Nat.mul_add_div (by omega),Nat.div_eq_of_lt h,Nat.add_zero]
def allIn (a b:Int) (xs:List Int):Bool:=xs.all fun n=>decide (a≤n∧n≤b)
theorem q5EE (a b:Int) (xs:List Int) (x:Int):allIn a b (xs++[x])=(allIn a b xs && decide (a≤x∧x≤b)):=by simp[allIn]
theorem XQ5U (a b:Int) (xs:List Int) (k:Nat) (hk:k<xs.length) (h:¬(a≤xs[k]∧xs[k]≤b)):allIn a b xs=false:=by
 rw[Bool.eq_false_iff];intro he
 have:=List.all_eq_true.1 he _ (List.getElem_mem hk)
 exact h (by simpa using this)
theorem qFis (a b:Int) (v:Value) (xs:List Int) (w:World) (hv:jCvT w v xs) :
  Calls Tryz.prog 95 #[.int .i64 a,.int .i64 b,v] w fun e w'=>e=.returned (.bool (allIn a b xs))∧w=w':=by
 obtain ⟨ao,ca,rfl,hla,hc⟩:=hv
 by_cases h0:xs=[]
 ·subst h0
  clear hc
  go_enter Tryz.func95,Tryz.ntmps95
  go_wp2
  go_loop [11] (fun i=>i=.int .i64 0) (fun _=>0)
  case atStart=>rfl
  case round =>
   subst hrel
   go_wp2
   go_ret
   exact ⟨rfl,rfl⟩
 ·obtain ⟨bk,off,hao,hbl,hcell⟩:∃b off,ao=some ⟨b,off,none⟩∧b<w.heap.size∧∀j (h:j<xs.length),w.cell? ⟨b,off+j,none⟩=some (.int .i64 xs[j]):=by
   rcases hc with h|h
   ·exact absurd h h0
   ·exact h
  subst hao
  have HCELL:=hide hcell;clear hcell hc h0
  go_enter Tryz.func95,Tryz.ntmps95
  go_wp2
  go_loop [11] (fun i=>∃k:Nat,k≤xs.length∧i=.int .i64 k∧Hid (allIn a b (xs.take k)=true)) (fun i=>xs.length-(intOf i).toNat)
  case atStart=>exact ⟨0,Nat.zero_le _,rfl,rfl⟩
  case round =>
   obtain ⟨k,hk,rfl,HA⟩:=hrel
   by_cases hlt:k<xs.length
   ·have c1:=HCELL.out k hlt
    by_cases hx0:a≤xs[k]
    ·by_cases hx1:xs[k]≤b
     ·have HT:=hide (show allIn a b (xs.take (k+1))=true by rw[List.take_succ_eq_append_getElem hlt,q5EE,HA.out];simp[hx0,hx1])
      go_wp2
      go_round
      case rel=>exact ⟨k+1,by omega,by go_num,HT⟩
      case measure=>simp[intOf];omega
     ·have HE:=hide (XQ5U a b xs k hlt (fun h=>hx1 h.2))
      go_wp2
      go_ret
      exact ⟨j3Zs HE.out.symm,rfl⟩
    ·have HE:=hide (XQ5U a b xs k hlt (fun h=>hx0 h.1))
     go_wp2
     go_ret
     exact ⟨j3Zs HE.out.symm,rfl⟩
   ·have HE:=hide (show true=allIn a b xs by rw[←HA.out,List.take_of_length_le (by omega)])
    go_wp2
    go_ret
    exact ⟨j3Zs HE.out,rfl⟩
theorem ints1 (w:World) (n:Int):jCvT (w.alloc (.cells #[.int .i64 n] 3)) (.slice (some ⟨w.heap.size,0,none⟩) 1 1) [n] :=
 jCvT.own (base:=w.heap.size) (World.ownsRow_lit w #[.int .i64 n] 1 (Nat.le_refl _) (by decide) (by simp)) (by simp)
theorem XlDJ (n:Int) (w:World):Calls Tryz.prog 116 #[.int .i64 n] w fun e w'=>e=.returned (.bool (jbTy n))∧Below w.heap.size w w':=by
 have HS:=hide (show allIn 1 64 [n]=jbTy n by simp[allIn,jbTy])
 go_enter Tryz.func116,Tryz.ntmps116
 go_wp2_with fail
 refine (qFis 1 64 _ [n] _ (ints1 w n)).mono ?_
 rintro e w1 ⟨rfl,rfl⟩
 rw[HS.out]
 go_wp2
 go_ret
 exact ⟨rfl,qUNz _ _⟩
def jcbm (W H m:Int):Bool:=jbTy W && jbTy H && decide (m=W*H)
set_option maxHeartbeats 400000 in
theorem q58J (W H m:Int) (w:World):Calls Tryz.prog 94 #[.int .i64 W,.int .i64 H,.int .i64 m] w fun e w'=>e=.returned (.bool (jcbm W H m))∧Below w.heap.size w w':=by
 by_cases h1:jbTy W=true
 ·by_cases h2:jbTy H=true
  ·have HE:=hide (show decide (m=W*H)=jcbm W H m by rw[jcbm,h1,h2];rfl)
   have b1:1≤W∧W≤64:=by simpa [jbTy] using h1
   have b2:1≤H∧H≤64:=by simpa [jbTy] using h2
   obtain ⟨b3,b4⟩:=zAFj b1 b2
   obtain ⟨M,hM⟩:∃M,W*H=M:=⟨_,rfl⟩
   have HEM:=hide (show (m == M)=decide (m=W*H) by rw[hM];rfl)
   rw[hM] at b3 b4
   go_enter Tryz.func94,Tryz.ntmps94
   go_wp2_with fail
   refine (XlDJ _ _).mono ?_
   rintro e w1 ⟨rfl,hb1⟩
   rw[h1]
   go_wp2_with fail
   refine (XlDJ _ _).mono ?_
   rintro e w2 ⟨rfl,hb2⟩
   rw[h2]
   go_wp2
   go_ret
   exact ⟨j3Zs (HEM.out.trans HE.out),quJN hb1 hb2⟩
  ·have h2:jbTy H=false:=by simpa using h2
   have HE:=hide (show false=jcbm W H m by rw[jcbm,h1,h2];rfl)
   go_enter Tryz.func94,Tryz.ntmps94
   go_wp2_with fail
   refine (XlDJ _ _).mono ?_
   rintro e w1 ⟨rfl,hb1⟩
   rw[h1]
   go_wp2_with fail
   refine (XlDJ _ _).mono ?_
   rintro e w2 ⟨rfl,hb2⟩
   rw[h2]
   go_wp2
   go_ret
   exact ⟨j3Zs HE.out,quJN hb1 hb2⟩
 ·have h1:jbTy W=false:=by simpa using h1
  have HE:=hide (show false=jcbm W H m by rw[jcbm,h1];rfl)
  go_enter Tryz.func94,Tryz.ntmps94
  go_wp2_with fail
  refine (XlDJ _ _).mono ?_
  rintro e w1 ⟨rfl,hb1⟩
  rw[h1]
  go_wp2
  go_ret
  exact ⟨j3Zs HE.out,hb1⟩
theorem jZMK (W H:Int) (zs:List Int):q0fM W H zs=(jcbm W H zs.length && allIn 0 65535 zs):=by
 rw[q0fM,jcbm];rfl
theorem pl3 {w w':World} {a b c:Value} {t:TypeId} (hb:Below (w.alloc (.cells #[a,b,c] t)).heap.size (w.alloc (.cells #[a,b,c] t)) w') :
  w'.cell? ⟨w.heap.size,0,none⟩=some a∧w'.cell? ⟨w.heap.size,1,none⟩=some b∧w'.cell? ⟨w.heap.size,2,none⟩=some c:=by
 refine ⟨?_,?_,?_⟩
 ·rw[hb.cell (p:=⟨w.heap.size,0,none⟩) (by simp),Lib.cell_of_heap (heap_alloc_new w _)];rfl
 ·rw[hb.cell (p:=⟨w.heap.size,1,none⟩) (by simp),Lib.cell_of_heap (heap_alloc_new w _)];rfl
 ·rw[hb.cell (p:=⟨w.heap.size,2,none⟩) (by simp),Lib.cell_of_heap (heap_alloc_new w _)];rfl
theorem XeC7 (W H:Int) (v:Value) (zs:List Int) (w:World) (hv:jCvT w v zs) :
  Calls Tryz.prog 65 #[.agg #[.int .i64 W,.int .i64 H,v]] w fun e w'=>e=.returned (.bool (q0fM W H zs))∧Below w.heap.size w w':=by
 have HV:=hide hv
 obtain ⟨ao,ca,rfl,hla,_⟩:=hv
 by_cases h1:jcbm W H zs.length=true
 ·have HE:=hide (show allIn 0 65535 zs=q0fM W H zs by rw[jZMK,h1];rfl)
  go_enter Tryz.func65,Tryz.ntmps65
  go_wp2_with fail
  refine (q58J _ _ _ _).mono ?_
  rintro e w1 ⟨rfl,hb1⟩
  rw[h1]
  have c2:=(pl3 hb1).2.2
  go_wp2_with fail
  refine (qFis _ _ _ zs _ ((HV.out.alloc _).below hb1 (Nat.le_refl _))).mono ?_
  rintro e w2 ⟨rfl,rfl⟩
  rw[HE.out]
  go_wp2
  go_ret
  exact ⟨rfl,quJN (qUNz _ _) hb1⟩
 ·have h1:jcbm W H zs.length=false:=by simpa using h1
  have HE:=hide (show false=q0fM W H zs by rw[jZMK,h1];rfl)
  go_enter Tryz.func65,Tryz.ntmps65
  go_wp2_with fail
  refine (q58J _ _ _ _).mono ?_
  rintro e w1 ⟨rfl,hb1⟩
  rw[h1]
  go_wp2
  go_ret
  exact ⟨j3Zs HE.out,quJN (qUNz _ _) hb1⟩
end Go.Proofs.YtfjeonehdlphiaaGreatDoor

namespace Go.Proofs.YtfjeonehdlphiaaGreatDoor
set_option linter.unusedVariables false
open Go.RowKit
theorem al1 (w:World) (a:Obj):(w.alloc a).heap[w.heap.size]?=some a:=heap_alloc_new w a
theorem al2 (w:World) (a b:Obj):((w.alloc a).alloc b).heap[w.heap.size]?=some a∧((w.alloc a).alloc b).heap[w.heap.size+1]?=some b:=by
 refine ⟨(Below.heap_alloc _ _ _ (by simp only[World.size_alloc];omega)).trans (al1 w a),?_⟩
 have h:=al1 (w.alloc a) b
 rw[World.size_alloc] at h;exact h
theorem al3 (w:World) (a b c:Obj):(((w.alloc a).alloc b).alloc c).heap[w.heap.size]?=some a∧(((w.alloc a).alloc b).alloc c).heap[w.heap.size+1]?=some b∧(((w.alloc a).alloc b).alloc c).heap[w.heap.size+2]?=some c:=by
 obtain ⟨h1,h2⟩:=al2 w a b
 refine ⟨(Below.heap_alloc _ _ _ (by simp only[World.size_alloc];omega)).trans h1,(Below.heap_alloc _ _ _ (by simp only[World.size_alloc];omega)).trans h2,?_⟩
 have h:=al1 ((w.alloc a).alloc b) c
 rw[World.size_alloc,World.size_alloc] at h;exact h
theorem al4 (w:World) (a b c d:Obj):((((w.alloc a).alloc b).alloc c).alloc d).heap[w.heap.size]?=some a∧((((w.alloc a).alloc b).alloc c).alloc d).heap[w.heap.size+1]?=some b∧((((w.alloc a).alloc b).alloc c).alloc d).heap[w.heap.size+2]?=some c∧((((w.alloc a).alloc b).alloc c).alloc d).heap[w.heap.size+3]?=some d:=by
 obtain ⟨h1,h2,h3⟩:=al3 w a b c
 refine ⟨(Below.heap_alloc _ _ _ (by simp only[World.size_alloc];omega)).trans h1,(Below.heap_alloc _ _ _ (by simp only[World.size_alloc];omega)).trans h2,(Below.heap_alloc _ _ _ (by simp only[World.size_alloc];omega)).trans h3,?_⟩
 have h:=al1 (((w.alloc a).alloc b).alloc c) d
 rw[World.size_alloc,World.size_alloc,World.size_alloc] at h;exact h
theorem be2 (w:World) (a b:Obj):Below w.heap.size w ((w.alloc a).alloc b):=quJN (qUNz _ _) (qUNz _ _)
theorem be3 (w:World) (a b c:Obj):Below w.heap.size w (((w.alloc a).alloc b).alloc c):=quJN (be2 _ _ _) (qUNz _ _)
theorem be4 (w:World) (a b c d:Obj):Below w.heap.size w ((((w.alloc a).alloc b).alloc c).alloc d):=quJN (be3 _ _ _ _) (qUNz _ _)
theorem zv5i (w:World) (b:Nat) (x y z:Value):w.heap.size≤(((w.setCell ⟨b,0,none⟩ x).setCell ⟨b,1,none⟩ y).setCell ⟨b,2,none⟩ z).heap.size:=by simp[World.setCell]
theorem jZhz (w:World) (b:Nat) (x y z:Value) (k:Nat) (h:k≠b):(((w.setCell ⟨b,0,none⟩ x).setCell ⟨b,1,none⟩ y).setCell ⟨b,2,none⟩ z).heap[k]?=w.heap[k]?:=by
 rw[Below.heap_setCell _ _ _ _ h,Below.heap_setCell _ _ _ _ h,Below.heap_setCell _ _ _ _ h]
theorem Fresh.ne {B k:Nat} {v:Value} (h:Fresh B v) (hk:k<B):v.ownBlock≠some k:=fun e=>by have:=h.1 k e;omega
theorem jCvT.set3 {w:World} {v:Value} {xs:List Int} {B k:Nat} (h:jCvT w v xs) (hf:Fresh B v) (hk:k<B) (x y z:Value):jCvT (((w.setCell ⟨k,0,none⟩ x).setCell ⟨k,1,none⟩ y).setCell ⟨k,2,none⟩ z) v xs :=
 h.other (zv5i _ _ _ _ _) (fun b hb=>jZhz _ _ _ _ _ b hb) (hf.ne hk)
theorem zHqh {B b:Nat} {w U:World} (h:Below B w U) (hb:B≤b) (x y z:Value):Below B w (((U.setCell ⟨b,0,none⟩ x).setCell ⟨b,1,none⟩ y).setCell ⟨b,2,none⟩ z) :=
 ((h.setCell (p:=⟨b,0,none⟩) hb _).setCell (p:=⟨b,1,none⟩) hb _).setCell (p:=⟨b,2,none⟩) hb _
theorem zd1R {w:World} {b:Nat} (x y z:Value) {a:Addr} (h:a.block≠b):(((w.setCell ⟨b,0,none⟩ x).setCell ⟨b,1,none⟩ y).setCell ⟨b,2,none⟩ z).cell? a=w.cell? a:=by
 refine World.cell?_of_block ?_
 rw[Below.heap_setCell _ _ _ _ h,Below.heap_setCell _ _ _ _ h,Below.heap_setCell _ _ _ _ h]
theorem z5EY {w:World} {b:Nat} {x y z:Value} {t:TypeId} {fr:Nat×Nat} (h:w.heap[b]?=some (.cells #[x,y,z] t fr)) :
  w.cell? ⟨b,0,none⟩=some x∧w.cell? ⟨b,1,none⟩=some y∧w.cell? ⟨b,2,none⟩=some z :=
 ⟨by rw[Lib.cell_of_heap h];rfl,by rw[Lib.cell_of_heap h];rfl,by rw[Lib.cell_of_heap h];rfl⟩
def okW (e W:Int):Int:=if e=0 then W else 0
def okL {α:Type} (e:Int) (l:List α):List α:=if e=0 then l else []
def zAt (zs:List Int) (j:Nat):Int:=zs.getD j 0
theorem Xw1z (zs:List Int) (i:Nat) (h:i<zs.length):zs[i]=zAt zs i:=by simp[zAt,List.getD_eq_getElem?_getD,List.getElem?_eq_getElem h]
theorem XWrv {zs:List Int} (h:allIn 0 65535 zs=true) (j:Nat):0≤zAt zs j∧zAt zs j≤65535:=by
 by_cases hj:j<zs.length
 ·rw[←Xw1z zs j hj];simpa using List.all_eq_true.1 h _ (List.getElem_mem hj)
 ·rw[zAt,List.getD_eq_getElem?_getD,List.getElem?_eq_none (by omega)];decide
theorem XAOl {W H:Int} {zs:List Int} (h:q0fM W H zs=true):allIn 0 65535 zs=true:=by
 rw[jZMK,Bool.and_eq_true] at h
 exact h.2
theorem jCvT.cells {w:World} {v:Value} {zs:List Int} (h:jCvT w v zs) (hn:1≤zs.length):∃bk off ca,v=.slice (some ⟨bk,off,none⟩) zs.length ca∧bk<w.heap.size∧∀j,j<zs.length→w.cell? ⟨bk,off+j,none⟩=some (.int .i64 (zAt zs j)):=by
 obtain ⟨ao,ca,rfl,_,h⟩:=h
 rcases h with h|⟨b,off,rfl,hlt,hc⟩
 ·subst h;simp at hn
 ·exact ⟨b,off,ca,rfl,hlt,fun j hj=>by rw[hc j hj,Xw1z zs j hj]⟩
theorem bx1 {w:World} {b:Nat} {x:Value} {t:TypeId} {fr:Nat×Nat} (h:w.heap[b]?=some (.cells #[x] t fr)):w.cell? ⟨b,0,none⟩=some x:=by rw[Lib.cell_of_heap h];rfl
theorem bx2 {w:World} {b:Nat} {x y:Value} {t:TypeId} {fr:Nat×Nat} (h:w.heap[b]?=some (.cells #[x,y] t fr)):w.cell? ⟨b,0,none⟩=some x∧w.cell? ⟨b,1,none⟩=some y:=⟨by rw[Lib.cell_of_heap h];rfl,by rw[Lib.cell_of_heap h];rfl⟩
end Go.Proofs.YtfjeonehdlphiaaGreatDoor

namespace Go.Proofs.YtfjeonehdlphiaaGreatDoor
open Go.RowKit
abbrev Px:=Int×Int×Int
def pixZ:Value:=.agg #[.int .i64 0,.int .i64 0,.int .i64 0]
abbrev pixV (t:Px):Value:=.agg #[.int .i64 t.1,.int .i64 t.2.1,.int .i64 t.2.2]
abbrev pixA (t:Px):Array Value:=#[.int .i64 t.1,.int .i64 t.2.1,.int .i64 t.2.2]
def pixL (t:Px):List Value:=[.int .i64 t.1,.int .i64 t.2.1,.int .i64 t.2.2]
theorem Tryz.infoPixel:(Tryz.prog.info? 61).map (fun i=>(i.zero,i.size,i.bytes))=some (some pixZ,3,24):=by kernel_rfl
def IsPix (w:World) (v:Value) (ps:List Px):Prop :=
 ∃ao cap,v=.slice ao ps.length cap∧ps.length≤9223372036854775807∧(ps=[]∨∃b off,ao=some ⟨b,off,none⟩∧b<w.heap.size∧∀j (h:j<ps.length),
  w.cell? ⟨b,off+j*3,none⟩=some (.int .i64 ps[j].1)∧w.cell? ⟨b,off+j*3+1,none⟩=some (.int .i64 ps[j].2.1)∧w.cell? ⟨b,off+j*3+2,none⟩=some (.int .i64 ps[j].2.2))
theorem IsPix.len {w:World} {v:Value} {ps:List Px} (h:IsPix w v ps):ps.length≤9223372036854775807:=by
 obtain ⟨_,_,_,h,_⟩:=h;exact h
theorem IsPix.below {w w':World} {v:Value} {ps:List Px} {B:Nat} (h:IsPix w v ps) (hb:Below B w w') (hB:w.heap.size≤B):IsPix w' v ps:=by
 obtain ⟨ao,cap,hv,hl,h⟩:=h
 refine ⟨ao,cap,hv,hl,?_⟩
 rcases h with h|⟨b,off,ha,hlt,hc⟩
 ·exact .inl h
 ·refine .inr ⟨b,off,ha,Nat.lt_of_lt_of_le hlt hb.size,fun j hj=>?_⟩
  rw[hb.cell (p:=⟨b,off+j*3,none⟩) (by exact Nat.lt_of_lt_of_le hlt hB),hb.cell (p:=⟨b,off+j*3+1,none⟩) (by exact Nat.lt_of_lt_of_le hlt hB),hb.cell (p:=⟨b,off+j*3+2,none⟩) (by exact Nat.lt_of_lt_of_le hlt hB)]
  exact hc j hj
theorem IsPix.alloc {w:World} {v:Value} {ps:List Px} (h:IsPix w v ps) (o:Obj):IsPix (w.alloc o) v ps :=
 h.below ((Below.refl _ _).alloc (Nat.le_refl _) o) (Nat.le_refl _)
theorem IsPix.drew {w:World} {v:Value} {ps:List Px} (h:IsPix w v ps):IsPix w.drew v ps:=h
theorem IsPix.nil (w:World):IsPix w (.slice none 0 0) []:=⟨none,0,rfl,by simp,.inl rfl⟩
theorem Xqg0 (ps:List Px):(ps.flatMap pixL).length=ps.length*3:=by
 induction ps with
 | nil=>rfl
 | cons p ps ih=>rw[List.flatMap_cons,List.length_append,ih,List.length_cons];simp[pixL];omega
theorem zgQy (ps:List Px) (j:Nat) (h:j<ps.length) :
  (ps.flatMap pixL)[j*3]?=some (.int .i64 ps[j].1)∧(ps.flatMap pixL)[j*3+1]?=some (.int .i64 ps[j].2.1)∧(ps.flatMap pixL)[j*3+2]?=some (.int .i64 ps[j].2.2):=by
 induction ps generalizing j with
 | nil=>simp at h
 | cons p ps ih =>
  cases j with
  | zero=>simp[pixL,List.flatMap_cons]
  | succ j =>
   have h':j<ps.length:=by simpa using h
   have:=ih j h'
   rw[List.flatMap_cons,show (j+1)*3=j*3+3 by omega]
   simp only[pixL,List.cons_append,List.nil_append,List.getElem?_cons_succ,List.getElem_cons_succ]
   exact this
theorem IsPix.own {w:World} {base:Nat} {v:Value} {ps:List Px} (h:w.ownsRow base 61 3 v ps.length (ps.flatMap pixL)) (hl:ps.length≤9223372036854775807):IsPix w v ps:=by
 rcases h.2 with ⟨hv,hn⟩|⟨g,cap,cur,hv,_,hg,h1,h2,h3,h4⟩
 ·exact ⟨none,0,by rw[hv,hn],hl,.inl (List.eq_nil_of_length_eq_zero hn)⟩
 ·refine ⟨_,cap,hv,hl,.inr ⟨g,0,rfl,(Array.getElem?_eq_some_iff.1 hg).1,fun j hj=>?_⟩⟩
  have key:∀i u,i<ps.length*3→(ps.flatMap pixL)[i]?=some u→w.cell? ⟨g,0+i,none⟩=some u:=fun i u hi hu=>by
   rw[Nat.zero_add,cell_of_row w g i cur _ _ hg]
   rw[←h4,List.getElem?_take_of_lt hi] at hu
   simpa using hu
  obtain ⟨a,b,c⟩:=zgQy ps j hj
  exact ⟨key _ _ (by omega) a,key _ _ (by omega) b,key _ _ (by omega) c⟩
theorem IsPix.other {w w':World} {v:Value} {ps:List Px} {k:Nat} (h:IsPix w v ps) (hs:w.heap.size≤w'.heap.size) (hk:∀b,b≠k→w'.heap[b]?=w.heap[b]?) (hne:v.ownBlock≠some k):IsPix w' v ps:=by
 obtain ⟨ao,cap,rfl,hl,h⟩:=h
 refine ⟨ao,cap,rfl,hl,?_⟩
 rcases h with h|⟨b,off,rfl,hlt,hc⟩
 ·exact .inl h
 ·have hb:b≠k:=fun e=>hne (by rw[e];rfl)
  refine .inr ⟨b,off,rfl,Nat.lt_of_lt_of_le hlt hs,fun j hj=>?_⟩
  rw[World.cell?_of_block (a:=⟨b,off+j*3,none⟩) (hk b hb),World.cell?_of_block (a:=⟨b,off+j*3+1,none⟩) (hk b hb),World.cell?_of_block (a:=⟨b,off+j*3+2,none⟩) (hk b hb)]
  exact hc j hj
theorem IsPix.set3 {w:World} {v:Value} {ps:List Px} {B k:Nat} (h:IsPix w v ps) (hf:Fresh B v) (hk:k<B) (x y z:Value):IsPix (((w.setCell ⟨k,0,none⟩ x).setCell ⟨k,1,none⟩ y).setCell ⟨k,2,none⟩ z) v ps :=
 h.other (zv5i _ _ _ _ _) (fun b hb=>jZhz _ _ _ _ _ b hb) (hf.ne hk)
end Go.Proofs.YtfjeonehdlphiaaGreatDoor

namespace Go.Proofs.YtfjeonehdlphiaaGreatDoor
set_option linter.unusedVariables false
abbrev dig (n:Nat):List UInt8:=Lib.decDigits n
def hdM (deep:Bool):Nat:=if deep then 65535 else 255
def headT (a b c:Nat):List UInt8:=(([80,54,10]++(dig a++[32]))++(dig b++[10]))++(dig c++[10])
def gNum (f:Nat) (a b c:Int):Int:=if f=0 then a else if f=1 then b else c
def gEnd (f:Nat):UInt8:=if f=0 then 32 else 10
def gDig (x:UInt8) (f:Nat) (a b c:Int):Bool:=decide (48≤x.toNat) && decide (x.toNat≤57) && decide (gNum f a b c≤65535)
def gRun:List UInt8→Nat→Int→Int→Int→Int×Int×Int
 | [],_,a,b,c=>(a,b,c)
 | x::r,f,a,b,c=>if x=gEnd f then (if f=2 then (a,b,c) else gRun r (f+1) a b c)
  else if gDig x f a b c=true then (if f=0 then gRun r f (10*a+(x.toNat-48:Nat)) b c else if f=1 then gRun r f a (10*b+(x.toNat-48:Nat)) c else gRun r f a b (10*c+(x.toNat-48:Nat))) else (a,b,c)
def guess (s:List UInt8):Int×Int×Int:=gRun (s.drop 3) 0 0 0 0
theorem XWJI (f:Nat):(gEnd f).toNat≤32:=by unfold gEnd;split<;>decide
theorem digN {d:Nat} (h:d<10):(UInt8.ofNat (48+d)).toNat=48+d:=by simp;omega
theorem zWst {d:Nat} (h:d<10) (f:Nat):UInt8.ofNat (48+d)≠gEnd f:=fun e=>by
 have h1:=digN h
 rw[e] at h1
 have:=XWJI f
 omega
theorem q578 {d:Nat} (h:d<10) {f:Nat} {a b c:Int} (hn:gNum f a b c≤65535):gDig (UInt8.ofNat (48+d)) f a b c=true:=by
 unfold gDig
 rw[digN h]
 simp[hn]
 omega
theorem g0 {d:Nat} (h:d<10) (r:List UInt8) {a:Int} (b c:Int) (ha:a≤65535):gRun (UInt8.ofNat (48+d)::r) 0 a b c=gRun r 0 (10*a+d) b c:=by
 rw[gRun,if_neg (zWst h 0),if_pos (q578 h (f:=0) ha),if_pos rfl,digN h,Nat.add_sub_cancel_left]
theorem g1 {d:Nat} (h:d<10) (r:List UInt8) (a:Int) {b:Int} (c:Int) (hb:b≤65535):gRun (UInt8.ofNat (48+d)::r) 1 a b c=gRun r 1 a (10*b+d) c:=by
 rw[gRun,if_neg (zWst h 1),if_pos (q578 h (f:=1) hb),if_neg (by decide),if_pos rfl,digN h,Nat.add_sub_cancel_left]
theorem g2 {d:Nat} (h:d<10) (r:List UInt8) (a b:Int) {c:Int} (hc:c≤65535):gRun (UInt8.ofNat (48+d)::r) 2 a b c=gRun r 2 a b (10*c+d):=by
 rw[gRun,if_neg (zWst h 2),if_pos (q578 h (f:=2) hc),if_neg (by decide),if_neg (by decide),digN h,Nat.add_sub_cancel_left]
theorem gn0 {n:Nat} (h:n<100) (r:List UInt8) (b c:Int):gRun (dig n++(32::r)) 0 0 b c=gRun r 1 n b c:=by
 have he:∀a:Int,gRun (32::r) 0 a b c=gRun r 1 a b c:=fun a=>by rw[gRun,if_pos (show (32:UInt8)=gEnd 0 from rfl),if_neg (by decide)]
 by_cases h1:n<10
 ·rw[dig,Lib.decDigits_one h1,List.cons_append,List.nil_append,g0 h1 _ _ _ (by decide),he]
  congr 1;omega
 ·rw[dig,Lib.decDigits_two h1 h,List.cons_append,List.cons_append,List.nil_append,g0 (by omega) _ _ _ (by decide),g0 (by omega) _ _ _ (by omega),he]
  congr 1;omega
theorem gn1 {n:Nat} (h:n<100) (r:List UInt8) (a c:Int):gRun (dig n++(10::r)) 1 a 0 c=gRun r 2 a n c:=by
 have he:∀b:Int,gRun (10::r) 1 a b c=gRun r 2 a b c:=fun b=>by rw[gRun,if_pos (show (10:UInt8)=gEnd 1 from rfl),if_neg (by decide)]
 by_cases h1:n<10
 ·rw[dig,Lib.decDigits_one h1,List.cons_append,List.nil_append,g1 h1 _ _ _ (by decide),he]
  congr 1;omega
 ·rw[dig,Lib.decDigits_two h1 h,List.cons_append,List.cons_append,List.nil_append,g1 (by omega) _ _ _ (by decide),g1 (by omega) _ _ _ (by omega),he]
  congr 1;omega
theorem z4Wu:dig 255=[UInt8.ofNat (48+2),UInt8.ofNat (48+5),UInt8.ofNat (48+5)]:=by
 rw[dig,Lib.decDigits,dif_neg (by decide),show 255 / 10=25 from rfl,Lib.decDigits_two (by decide) (by decide)];rfl
theorem ja9Q:dig 65535=[UInt8.ofNat (48+6),UInt8.ofNat (48+5),UInt8.ofNat (48+5),UInt8.ofNat (48+3),UInt8.ofNat (48+5)]:=by
 rw[dig,Lib.decDigits,dif_neg (by decide),show 65535 / 10=6553 from rfl,Lib.decDigits,dif_neg (by decide),show 6553 / 10=655 from rfl,Lib.decDigits,dif_neg (by decide),show 655 / 10=65 from rfl,Lib.decDigits_two (by decide) (by decide)];rfl
theorem gn2 (deep:Bool) (r:List UInt8) (a b:Int):gRun (dig (hdM deep)++(10::r)) 2 a b 0=(a,b,(hdM deep:Int)):=by
 have he:∀c:Int,gRun (10::r) 2 a b c=(a,b,c):=fun c=>by rw[gRun,if_pos (show (10:UInt8)=gEnd 2 from rfl),if_pos rfl]
 cases deep
 ·rw[show hdM false=255 from rfl,z4Wu,List.cons_append,List.cons_append,List.cons_append,List.nil_append,g2 (by decide) _ _ _ (by decide),g2 (by decide) _ _ _ (by decide),g2 (by decide) _ _ _ (by decide),he]
  rfl
 ·rw[show hdM true=65535 from rfl,ja9Q,List.cons_append,List.cons_append,List.cons_append,List.cons_append,List.cons_append,List.nil_append,g2 (by decide) _ _ _ (by decide),g2 (by decide) _ _ _ (by decide),g2 (by decide) _ _ _ (by decide),g2 (by decide) _ _ _ (by decide),g2 (by decide) _ _ _ (by decide),he]
  rfl
theorem ji4T {a b:Nat} (ha:a<100) (hb:b<100) (deep:Bool) (r:List UInt8):guess (headT a b (hdM deep)++r)=((a:Int),(b:Int),(hdM deep:Int)):=by
 have h:(headT a b (hdM deep)++r).drop 3=dig a++(32::(dig b++(10::(dig (hdM deep)++(10::r))))):=by
  unfold headT
  simp[List.append_assoc]
 rw[guess,h,gn0 ha,gn1 hb,gn2]
theorem qxjb {x y:Bool} (h:hdM x=hdM y):x=y:=by
 cases x<;>cases y<;>first|rfl|cases h
theorem q517 (deep:Bool):(((hdM deep:Nat):Int) == 65535)=deep:=by cases deep<;>rfl
def szP (deep:Bool):Nat:=if deep then 2 else 1
structure Shot (s:List UInt8) (a b:Nat) (deep:Bool) (L:List UInt8):Prop where
 a1:1≤a
 a2:a≤64
 b1:1≤b
 b2:b≤64
 eq:s=headT a b (hdM deep)++L
 len:L.length=szP deep*(3*a*b)
theorem Shot.one {s:List UInt8} {a b a' b':Nat} {d d':Bool} {L L':List UInt8} (h:Shot s a b d L) (h':Shot s a' b' d' L'):a=a'∧b=b'∧d=d'∧L=L':=by
 have e1:=ji4T (a:=a) (b:=b) (by have:=h.a2;omega) (by have:=h.b2;omega) d L
 have e2:=ji4T (a:=a') (b:=b') (by have:=h'.a2;omega) (by have:=h'.b2;omega) d' L'
 rw[←h.eq] at e1
 rw[←h'.eq,e1] at e2
 simp only[Prod.mk.injEq] at e2
 obtain ⟨x1,x2,x3⟩:=e2
 have ea:a=a':=by omega
 have eb:b=b':=by omega
 have ed:d=d':=qxjb (by omega)
 subst ea eb ed
 refine ⟨rfl,rfl,rfl,?_⟩
 have:=h.eq.symm.trans h'.eq
 exact List.append_cancel_left this
def ptB (deep:Bool) (L:List UInt8) (k:Nat):Int:=if deep then 256*((L.getD (2*k) 0).toNat:Int)+((L.getD (2*k+1) 0).toNat:Int) else 257*((L.getD k 0).toNat:Int)
def pxOf (deep:Bool) (L:List UInt8) (i:Nat):Px:=(ptB deep L (3*i),ptB deep L (3*i+1),ptB deep L (3*i+2))
def pixOf (deep:Bool) (L:List UInt8) (n:Nat):List Px:=(List.range n).map (pxOf deep L)
def u8 (x:Int):UInt8:=UInt8.ofNat x.toNat
def prB (deep:Bool) (x:Int):List UInt8:=if deep then [u8 (x / 256),u8 x] else [u8 (x / 256)]
def pxB (deep:Bool) (p:Px):List UInt8:=prB deep p.1++(prB deep p.2.1++prB deep p.2.2)
def pixB (deep:Bool) (ps:List Px):List UInt8:=ps.flatMap (pxB deep)
def shotB (W H:Int) (ps:List Px) (deep:Bool):List UInt8:=headT W.toNat H.toNat (hdM deep)++pixB deep ps
theorem zssP (deep:Bool) (x:Int):(prB deep x).length=szP deep:=by unfold prB szP;cases deep<;>rfl
theorem qFjj (deep:Bool) (p:Px):(pxB deep p).length=szP deep*3:=by
 unfold pxB
 rw[List.length_append,List.length_append,zssP,zssP,zssP];omega
theorem XF45 (deep:Bool) (ps:List Px):(pixB deep ps).length=szP deep*(3*ps.length):=by
 induction ps with
 | nil=>rfl
 | cons p ps ih =>
  rw[pixB,List.flatMap_cons,List.length_append,qFjj,show (ps.flatMap (pxB deep)).length=_ from ih,List.length_cons,Nat.mul_add 3,Nat.mul_add]
  omega
theorem jAlh {x:Int} (h0:0≤x) (h1:x≤255):((u8 x).toNat:Int)=x:=by
 unfold u8
 simp
 omega
theorem qgjv {x:Int} (h0:0≤x):((u8 x).toNat:Int)=x % 256:=by
 unfold u8
 simp
 omega
def inP (x:Int):Prop:=0≤x∧x≤65535
theorem ptB_at (deep:Bool) (A B:List UInt8) (k:Nat) (hA:A.length=szP deep*k) (x:UInt8) (y:UInt8) :
  ptB deep (A++((if deep then [x,y] else [x])++B)) k=if deep then 256*(x.toNat:Int)+y.toNat else 257*(x.toNat:Int):=by
 unfold ptB szP at *
 cases deep
 ·simp only[Bool.false_eq_true,if_false] at *
  rw[List.getD_eq_getElem?_getD,List.getElem?_append_right (by omega),show k-A.length=0 by omega]
  rfl
 ·simp only[if_true] at *
  have e0:(A++([x,y]++B)).getD (2*k) 0=x:=by
   rw[List.getD_eq_getElem?_getD,List.getElem?_append_right (by omega),show 2*k-A.length=0 by omega];rfl
  have e1:(A++([x,y]++B)).getD (2*k+1) 0=y:=by
   rw[List.getD_eq_getElem?_getD,List.getElem?_append_right (by omega),show 2*k+1-A.length=1 by omega];rfl
  rw[e0,e1]
theorem qGZ9 (A B:List UInt8) (k:Nat) (hA:A.length=2*k) {x:Int} (hx:inP x):ptB true (A++(prB true x++B)) k=x:=by
 have:=ptB_at true A B k hA (u8 (x / 256)) (u8 x)
 simp only[if_true] at this
 rw[prB,if_pos rfl,this,jAlh (by have:=hx.1;omega) (by have:=hx.2;omega),qgjv hx.1]
 omega
theorem zwUh (ps:List Px) (hp:∀p∈ps,inP p.1∧inP p.2.1∧inP p.2.2):pixOf true (pixB true ps) ps.length=ps:=by
 unfold pixOf
 refine List.ext_getElem (by simp) fun i h1 h2=>?_
 rw[List.getElem_map,List.getElem_range]
 have hs:pixB true ps=pixB true (ps.take i)++(pxB true ps[i]++pixB true (ps.drop (i+1))):=by
  conv=>lhs;rw[←List.take_append_drop i ps,List.drop_eq_getElem_cons h2]
  unfold pixB
  rw[List.flatMap_append,List.flatMap_cons]
 have hl:(pixB true (ps.take i)).length=2*(3*i):=by rw[XF45,List.length_take,Nat.min_eq_left (by omega)];rfl
 obtain ⟨q0,q1,q2⟩:=hp ps[i] (List.getElem_mem h2)
 unfold pxOf
 have k0:=zssP true ps[i].1
 have k1:=zssP true ps[i].2.1
 rw[show szP true=2 from rfl] at k0 k1
 have e0:ptB true (pixB true ps) (3*i)=ps[i].1:=by
  rw[hs,pxB,List.append_assoc]
  exact qGZ9 _ _ _ hl q0
 have e1:ptB true (pixB true ps) (3*i+1)=ps[i].2.1:=by
  rw[hs,pxB,List.append_assoc,←List.append_assoc,List.append_assoc (prB true ps[i].2.1)]
  exact qGZ9 _ _ _ (by rw[List.length_append,hl,k0];omega) q1
 have e2:ptB true (pixB true ps) (3*i+2)=ps[i].2.2:=by
  rw[hs,pxB,List.append_assoc,←List.append_assoc,List.append_assoc (prB true ps[i].2.1),←List.append_assoc (pixB true (ps.take i)++prB true ps[i].1)]
  exact qGZ9 _ _ _ (by rw[List.length_append,List.length_append,hl,k0,k1];omega) q2
 rw[e0,e1,e2]
theorem pr_pt (deep:Bool) (L:List UInt8) (k:Nat) (h:szP deep*k+szP deep≤L.length):prB deep (ptB deep L k)=(L.drop (szP deep*k)).take (szP deep):=by
 unfold prB ptB szP at *
 cases deep
 ·simp only[Bool.false_eq_true,if_false] at *
  have hk:k<L.length:=by omega
  rw[Nat.one_mul,List.drop_eq_getElem_cons hk,List.getD_eq_getElem?_getD,List.getElem?_eq_getElem hk]
  have hx:(L[k]).toNat<256:=UInt8.toNat_lt _
  have:u8 (257*(L[k].toNat:Int) / 256)=L[k]:=by
   apply UInt8.toNat_inj.1
   have:=jAlh (x:=257*(L[k].toNat:Int) / 256) (by omega) (by omega)
   omega
  show [u8 (257*(L[k].toNat:Int) / 256)]=[L[k]]
  rw[this]
 ·simp only[if_true] at *
  have hk:2*k+1<L.length:=by omega
  rw[List.drop_eq_getElem_cons (show 2*k<L.length by omega),List.drop_eq_getElem_cons hk,List.getD_eq_getElem?_getD,List.getD_eq_getElem?_getD,List.getElem?_eq_getElem hk,List.getElem?_eq_getElem (show 2*k<L.length by omega)]
  have hx:(L[2*k]).toNat<256:=UInt8.toNat_lt _
  have hy:(L[2*k+1]).toNat<256:=UInt8.toNat_lt _
  have e1:u8 ((256*(L[2*k].toNat:Int)+L[2*k+1].toNat) / 256)=L[2*k]:=by
   apply UInt8.toNat_inj.1
   have:=jAlh (x:=(256*(L[2*k].toNat:Int)+L[2*k+1].toNat) / 256) (by omega) (by omega)
   omega
  have e2:u8 (256*(L[2*k].toNat:Int)+L[2*k+1].toNat)=L[2*k+1]:=by
   apply UInt8.toNat_inj.1
   have:=qgjv (x:=256*(L[2*k].toNat:Int)+L[2*k+1].toNat) (by omega)
   omega
  show [u8 ((256*(L[2*k].toNat:Int)+L[2*k+1].toNat) / 256),u8 (256*(L[2*k].toNat:Int)+L[2*k+1].toNat)]=[L[2*k],L[2*k+1]]
  rw[e1,e2]
theorem pt_in (deep:Bool) (L:List UInt8) (k:Nat):inP (ptB deep L k):=by
 unfold ptB inP
 have h1:=UInt8.toNat_lt (L.getD (2*k) 0)
 have h2:=UInt8.toNat_lt (L.getD (2*k+1) 0)
 have h3:=UInt8.toNat_lt (L.getD k 0)
 cases deep
 ·simp only[Bool.false_eq_true,if_false];omega
 ·simp only[if_true];omega
theorem jffP (L:List UInt8) (p q r:Nat) (hq:p+q=r) (n:Nat):(L.drop p).take q++(L.drop r).take n=(L.drop p).take (q+n):=by
 subst hq
 rw[←List.drop_drop,List.take_add]
theorem px_pt (deep:Bool) (L:List UInt8) (i:Nat) (h:szP deep*(3*(i+1))≤L.length):pxB deep (pxOf deep L i)=(L.drop (szP deep*(3*i))).take (szP deep*3):=by
 have hm:szP deep*(3*(i+1))=szP deep*(3*i)+szP deep+szP deep+szP deep:=by rw[show 3*(i+1)=3*i+1+1+1 by omega,Nat.mul_add,Nat.mul_add,Nat.mul_add,Nat.mul_one]
 have h1:szP deep*(3*i+1)=szP deep*(3*i)+szP deep:=by rw[Nat.mul_add,Nat.mul_one]
 have h2:szP deep*(3*i+2)=szP deep*(3*i)+szP deep+szP deep:=by rw[Nat.mul_add];omega
 unfold pxB pxOf
 simp only
 rw[pr_pt deep L (3*i) (by omega),pr_pt deep L (3*i+1) (by omega),pr_pt deep L (3*i+2) (by omega),jffP _ _ _ _ (by omega),jffP _ _ _ _ (by omega)]
 congr 1;omega
theorem Xiv3 (deep:Bool) (L:List UInt8):∀n,szP deep*(3*n)≤L.length→pixB deep (pixOf deep L n)=L.take (szP deep*(3*n))
 | 0,_=>by simp[pixOf,pixB]
 | n+1,h=>by
  have hm:szP deep*(3*(n+1))=szP deep*(3*n)+szP deep*3:=by rw[Nat.mul_add 3,Nat.mul_add]
  have ih:=Xiv3 deep L n (by omega)
  rw[pixOf,List.range_succ,List.map_append,pixB,List.flatMap_append,show ((List.range n).map (pxOf deep L)).flatMap (pxB deep)=_ from ih,hm,List.take_add]
  congr 1
  simp only[List.map_cons,List.map_nil,List.flatMap_cons,List.flatMap_nil,List.append_nil]
  exact px_pt deep L n h
theorem Shot.bytes {s:List UInt8} {a b:Nat} {d:Bool} {L:List UInt8} (h:Shot s a b d L):shotB a b (pixOf d L (b*a)) d=s:=by
 have hl:=h.len
 have e:3*a*b=3*(b*a):=by rw[Nat.mul_assoc,Nat.mul_comm a b]
 rw[e] at hl
 rw[shotB,Xiv3 d L _ (by omega),List.take_of_length_le (by omega),h.eq]
 simp
theorem XxVr (d:Bool) (L:List UInt8) (n:Nat):(pixOf d L n).length=n:=by simp[pixOf]
theorem qMBY (d:Bool) (L:List UInt8) (n:Nat):∀p∈pixOf d L n,inP p.1∧inP p.2.1∧inP p.2.2:=by
 intro p hp
 obtain ⟨i,_,rfl⟩:=List.mem_map.1 hp
 exact ⟨pt_in _ _ _,pt_in _ _ _,pt_in _ _ _⟩
end Go.Proofs.YtfjeonehdlphiaaGreatDoor

namespace Go.Proofs
open Go.Shelf
def Tryz.lays169_ren:Go.Shelf.Ren:=⟨fun|169=>32|n=>n,fun|70=>73|9=>9|0=>0|72=>76|37=>74|127=>147|3=>3|5=>5|n=>n,fun|n=>n⟩
theorem Tryz.lays169:Go.Proofs.Lays.n169 Tryz.prog Tryz.lays169_ren:={
 mixed:=by kernel_rfl
 f169:=Tryz.func32.trans (congrArg some (by kernel_rfl))
 t0:=Tryz.underlying0
 a0:=Tryz.isAgg0
 z0:=Tryz.sizeOf0
 v0:=Tryz.zeroValue0
 t3:=Tryz.underlying3
 a3:=Tryz.isAgg3
 z3:=Tryz.sizeOf3
 v3:=Tryz.zeroValue3
 t9:=Tryz.underlying9
 a9:=Tryz.isAgg9
 z9:=Tryz.sizeOf9
 v9:=Tryz.zeroValue9
 t37:=Tryz.underlying74
 a37:=Tryz.isAgg74
 z37:=Tryz.sizeOf74
 v37:=Tryz.zeroValue74
 t70:=Tryz.underlying73
 a70:=Tryz.isAgg73
 z70:=Tryz.sizeOf73
 v70:=Tryz.zeroValue73
 t72:=Tryz.underlying76
 a72:=Tryz.isAgg76
 z72:=Tryz.sizeOf76
 v72:=Tryz.zeroValue76
 t127:=Tryz.underlying147
 a127:=Tryz.isAgg147
 z127:=Tryz.sizeOf147
 v127:=Tryz.zeroValue147 }
theorem Tryz.Builder_Extra_169:Builder.Extra Tryz.prog Tryz.lays169_ren:={
 sizeBuilder:=by kernel_rfl
 liesBuilder:=by kernel_rfl
 t5:=Tryz.underlying5
 a5:=Tryz.isAgg5
 z5:=Tryz.sizeOf5
 v5:=Tryz.zeroValue5
 infoByte:=by kernel_rfl
 cellsByte:=by kernel_rfl
 sizeByte:=by kernel_rfl
 neB5:=by decide }
open Go.RowKit in
theorem Tryz.Builder_String_any (B b:Nat) (l:List UInt8) (w:World) (h:Lib.IsBuilder 76 5 B b (Lib.byteCells l) w) (hBw:B≤w.heap.size) :
  Calls Tryz.prog 32 #[.pointer (some ⟨b,0,none⟩)] w fun e w'=>e=.returned (.string ⟨l.toArray⟩)∧Below B w w':=Any.Builder_String_any Tryz.lays169 Tryz.Builder_Extra_169 B b l w h hBw
def Tryz.lays165_ren:Go.Shelf.Ren:=⟨fun|165=>215|240=>96|241=>225|276=>151|277=>229|n=>n,fun|70=>73|3=>3|0=>0|4=>4|9=>9|20=>20|72=>76|37=>74|164=>192|5=>5|n=>n,fun|n=>n⟩
theorem Tryz.lays165:Go.Proofs.Lays.n165 Tryz.prog Tryz.lays165_ren:={
 mixed:=by kernel_rfl
 f165:=Tryz.func215.trans (congrArg some (by kernel_rfl))
 f240:=Tryz.func96.trans (congrArg some (by kernel_rfl))
 f241:=Tryz.func225.trans (congrArg some (by kernel_rfl))
 f276:=Tryz.func151.trans (congrArg some (by kernel_rfl))
 f277:=Tryz.func229.trans (congrArg some (by kernel_rfl))
 t0:=Tryz.underlying0
 a0:=Tryz.isAgg0
 z0:=Tryz.sizeOf0
 v0:=Tryz.zeroValue0
 t3:=Tryz.underlying3
 a3:=Tryz.isAgg3
 z3:=Tryz.sizeOf3
 v3:=Tryz.zeroValue3
 t4:=Tryz.underlying4
 a4:=Tryz.isAgg4
 z4:=Tryz.sizeOf4
 v4:=Tryz.zeroValue4
 t9:=Tryz.underlying9
 a9:=Tryz.isAgg9
 z9:=Tryz.sizeOf9
 v9:=Tryz.zeroValue9
 t20:=Tryz.underlying20
 a20:=Tryz.isAgg20
 z20:=Tryz.sizeOf20
 v20:=Tryz.zeroValue20
 t37:=Tryz.underlying74
 a37:=Tryz.isAgg74
 z37:=Tryz.sizeOf74
 v37:=Tryz.zeroValue74
 t70:=Tryz.underlying73
 a70:=Tryz.isAgg73
 z70:=Tryz.sizeOf73
 v70:=Tryz.zeroValue73
 t72:=Tryz.underlying76
 a72:=Tryz.isAgg76
 z72:=Tryz.sizeOf76
 v72:=Tryz.zeroValue76
 t164:=Tryz.underlying192
 a164:=Tryz.isAgg192
 z164:=Tryz.sizeOf192
 v164:=Tryz.zeroValue192 }
theorem Tryz.Builder_Extra_165:Builder.Extra Tryz.prog Tryz.lays165_ren:={
 sizeBuilder:=by kernel_rfl
 liesBuilder:=by kernel_rfl
 t5:=Tryz.underlying5
 a5:=Tryz.isAgg5
 z5:=Tryz.sizeOf5
 v5:=Tryz.zeroValue5
 infoByte:=by kernel_rfl
 cellsByte:=by kernel_rfl
 sizeByte:=by kernel_rfl
 neB5:=by decide }
open Go.RowKit in
theorem Tryz.Builder_Grow_fresh (B b n:Nat) (w:World) (hB:B≤b) (hbk:w.heap[b]?=some (.cells #[.pointer none,.slice none 0 0] 76 (0,0))) (hBw:B≤w.heap.size) (hn:n≤281474976710656) :
  Calls Tryz.prog 215 #[.pointer (some ⟨b,0,none⟩),.int .i64 n] w fun e w'=>e=.returned (.tuple #[])∧(Lib.BuilderAt 76 5 B b (.pointer (some ⟨b,0,none⟩)) [] w'∧Below B w w'):=Any.Builder_Grow_fresh Tryz.lays165 Tryz.Builder_Extra_165 B b n w hB hbk hBw hn
def Tryz.lays103_ren:Go.Shelf.Ren:=⟨fun|103=>101|210=>153|206=>192|n=>n,fun|9=>9|4=>4|24=>149|3=>3|n=>n,fun|n=>n⟩
theorem Tryz.lays103:Go.Proofs.Lays.n103 Tryz.prog Tryz.lays103_ren:={
 mixed:=by kernel_rfl
 f103:=Tryz.func101.trans (congrArg some (by kernel_rfl))
 f206:=Tryz.func192.trans (congrArg some (by kernel_rfl))
 f210:=Tryz.func153.trans (congrArg some (by kernel_rfl))
 t3:=Tryz.underlying3
 a3:=Tryz.isAgg3
 z3:=Tryz.sizeOf3
 v3:=Tryz.zeroValue3
 t4:=Tryz.underlying4
 a4:=Tryz.isAgg4
 z4:=Tryz.sizeOf4
 v4:=Tryz.zeroValue4
 t9:=Tryz.underlying9
 a9:=Tryz.isAgg9
 z9:=Tryz.sizeOf9
 v9:=Tryz.zeroValue9
 t24:=Tryz.underlying149
 a24:=Tryz.isAgg149
 z24:=Tryz.sizeOf149
 v24:=Tryz.zeroValue149 }
open Go.RowKit in
theorem Tryz.strings_CutPrefix (s p:ByteArray) (w:World) :
  Calls Tryz.prog 101 #[.string s,.string p] w fun e w'=>e=.returned (.tuple #[.string ⟨(Lib.trimPrefix s.data.toList p.data.toList).toArray⟩,.bool (Lib.hasPrefix s.data.toList p.data.toList)])∧w'=w:=Any.strings_CutPrefix Tryz.lays103 s p w
def Tryz.laysM171_ren:Go.Shelf.Ren:=⟨fun|171=>97|243=>152|246=>191|283=>211|284=>212|285=>213|286=>214|129=>221|317=>220|318=>222|319=>223|320=>224|337=>227|338=>228|n=>n,fun|3=>3|9=>9|2=>2|4=>4|171=>257|0=>0|53=>258|37=>74|5=>5|173=>261|212=>268|51=>227|20=>20|213=>269|46=>86|232=>275|233=>276|n=>n,fun|17=>1|18=>3|19=>4|n=>n⟩
theorem Tryz.laysM171:Go.Proofs.LaysM.n171 Tryz.prog Tryz.laysM171_ren:={
 mixed:=by kernel_rfl
 f129:=Tryz.func221.trans (congrArg some (by kernel_rfl))
 f171:=Tryz.func97.trans (congrArg some (by kernel_rfl))
 f243:=Tryz.func152.trans (congrArg some (by kernel_rfl))
 f246:=Tryz.func191.trans (congrArg some (by kernel_rfl))
 f283:=Tryz.func211.trans (congrArg some (by kernel_rfl))
 f284:=Tryz.func212.trans (congrArg some (by kernel_rfl))
 f285:=Tryz.func213.trans (congrArg some (by kernel_rfl))
 f286:=Tryz.func214.trans (congrArg some (by kernel_rfl))
 f317:=Tryz.func220.trans (congrArg some (by kernel_rfl))
 f318:=Tryz.func222.trans (congrArg some (by kernel_rfl))
 f319:=Tryz.func223.trans (congrArg some (by kernel_rfl))
 f320:=Tryz.func224.trans (congrArg some (by kernel_rfl))
 f337:=Tryz.func227.trans (congrArg some (by kernel_rfl))
 f338:=Tryz.func228.trans (congrArg some (by kernel_rfl))
 t0:=Tryz.underlying0
 a0:=Tryz.isAgg0
 z0:=Tryz.sizeOf0
 v0:=Tryz.zeroValue0
 t2:=Tryz.underlying2
 a2:=Tryz.isAgg2
 z2:=Tryz.sizeOf2
 v2:=Tryz.zeroValue2
 t3:=Tryz.underlying3
 a3:=Tryz.isAgg3
 z3:=Tryz.sizeOf3
 v3:=Tryz.zeroValue3
 t4:=Tryz.underlying4
 a4:=Tryz.isAgg4
 z4:=Tryz.sizeOf4
 v4:=Tryz.zeroValue4
 t5:=Tryz.underlying5
 a5:=Tryz.isAgg5
 z5:=Tryz.sizeOf5
 v5:=Tryz.zeroValue5
 t9:=Tryz.underlying9
 a9:=Tryz.isAgg9
 z9:=Tryz.sizeOf9
 v9:=Tryz.zeroValue9
 t20:=Tryz.underlying20
 a20:=Tryz.isAgg20
 z20:=Tryz.sizeOf20
 v20:=Tryz.zeroValue20
 t37:=Tryz.underlying74
 a37:=Tryz.isAgg74
 z37:=Tryz.sizeOf74
 v37:=Tryz.zeroValue74
 t46:=Tryz.underlying86
 a46:=Tryz.isAgg86
 z46:=Tryz.sizeOf86
 v46:=Tryz.zeroValue86
 t51:=Tryz.underlying227
 a51:=Tryz.isAgg227
 z51:=Tryz.sizeOf227
 v51:=Tryz.zeroValue227
 t53:=Tryz.underlying258
 a53:=Tryz.isAgg258
 z53:=Tryz.sizeOf258
 v53:=Tryz.zeroValue258
 t171:=Tryz.underlying257
 a171:=Tryz.isAgg257
 z171:=Tryz.sizeOf257
 v171:=Tryz.zeroValue257
 t173:=Tryz.underlying261
 a173:=Tryz.isAgg261
 z173:=Tryz.sizeOf261
 v173:=Tryz.zeroValue261
 t212:=Tryz.underlying268
 a212:=Tryz.isAgg268
 z212:=Tryz.sizeOf268
 v212:=Tryz.zeroValue268
 t213:=Tryz.underlying269
 a213:=Tryz.isAgg269
 z213:=Tryz.sizeOf269
 t232:=Tryz.underlying275
 a232:=Tryz.isAgg275
 z232:=Tryz.sizeOf275
 v232:=Tryz.zeroValue275
 t233:=Tryz.underlying276
 a233:=Tryz.isAgg276
 z233:=Tryz.sizeOf276
 v233:=Tryz.zeroValue276
 g17:=by kernel_rfl
 g18:=by kernel_rfl
 g19:=by kernel_rfl
 i0:=by kernel_rfl
 i2:=by kernel_rfl
 i3:=by kernel_rfl
 i4:=by kernel_rfl
 i5:=by kernel_rfl
 i9:=by kernel_rfl
 i20:=by kernel_rfl
 i37:=by kernel_rfl
 i46:=by kernel_rfl
 i51:=by kernel_rfl
 i53:=by kernel_rfl
 i171:=by kernel_rfl
 i173:=by kernel_rfl
 i212:=by kernel_rfl
 i232:=by kernel_rfl
 i233:=by kernel_rfl
 m17:=by kernel_rfl
 m18:=by kernel_rfl
 m19:=by kernel_rfl }
open Go.RowKit Go.Sort Go.Lib in
theorem Tryz.strconv_Itoa (n:Int) (h0:-9223372036854775808≤n) (h1:n≤9223372036854775807) (w:World) (htab:Lib.TabIs Tryz.prog w "internal/strconv.uint64pow10" .u64 Lib.pow10Tab) :
  Calls Tryz.prog 97 #[.int .i64 n] w fun e w'=>e=.returned (.string ⟨(Lib.itoa n).toArray⟩)∧∃k os,w'=grow (w.drewN k) os:=Any.strconv_Itoa Tryz.laysM171 n h0 h1 w htab
def Tryz.laysM316_ren:Go.Shelf.Ren:=⟨fun|316=>195|n=>n,fun|9=>9|3=>3|4=>4|37=>74|0=>0|127=>147|5=>5|n=>n,fun|n=>n⟩
theorem Tryz.laysM316:Go.Proofs.LaysM.n316 Tryz.prog Tryz.laysM316_ren:={
 mixed:=by kernel_rfl
 f316:=Tryz.func195.trans (congrArg some (by kernel_rfl))
 t0:=Tryz.underlying0
 a0:=Tryz.isAgg0
 z0:=Tryz.sizeOf0
 v0:=Tryz.zeroValue0
 t3:=Tryz.underlying3
 a3:=Tryz.isAgg3
 z3:=Tryz.sizeOf3
 v3:=Tryz.zeroValue3
 t4:=Tryz.underlying4
 a4:=Tryz.isAgg4
 z4:=Tryz.sizeOf4
 v4:=Tryz.zeroValue4
 t9:=Tryz.underlying9
 a9:=Tryz.isAgg9
 z9:=Tryz.sizeOf9
 v9:=Tryz.zeroValue9
 t37:=Tryz.underlying74
 a37:=Tryz.isAgg74
 z37:=Tryz.sizeOf74
 v37:=Tryz.zeroValue74
 t127:=Tryz.underlying147
 a127:=Tryz.isAgg147
 z127:=Tryz.sizeOf147
 v127:=Tryz.zeroValue147
 t5:=Tryz.underlying5
 a5:=Tryz.isAgg5
 z5:=Tryz.sizeOf5
 v5:=Tryz.zeroValue5
 i0:=by kernel_rfl
 i3:=by kernel_rfl
 i4:=by kernel_rfl
 i5:=by kernel_rfl
 i9:=by kernel_rfl
 i37:=by kernel_rfl
 i127:=by kernel_rfl }
open Go.RowKit in
theorem Tryz.stringslite_Clone (s:ByteArray) (w:World) (hlim:s.size≤281474976710656) :
  Calls Tryz.prog 195 #[.string s] w fun e w'=>e=.returned (.string s)∧Below w.heap.size w w':=Any.stringslite_Clone Tryz.laysM316 s w hlim
def Tryz.lays144_ren:Go.Shelf.Ren:=⟨fun|144=>200|143=>216|219=>226|217=>230|225=>231|224=>232|267=>233|266=>234|314=>235|n=>n,fun|9=>9|4=>4|3=>3|5=>5|46=>86|146=>277|51=>227|n=>n,fun|1=>2|n=>n⟩
theorem Tryz.lays144:Go.Proofs.Lays.n144 Tryz.prog Tryz.lays144_ren:={
 mixed:=by kernel_rfl
 f143:=Tryz.func216.trans (congrArg some (by kernel_rfl))
 f144:=Tryz.func200.trans (congrArg some (by kernel_rfl))
 f217:=Tryz.func230.trans (congrArg some (by kernel_rfl))
 f219:=Tryz.func226.trans (congrArg some (by kernel_rfl))
 f224:=Tryz.func232.trans (congrArg some (by kernel_rfl))
 f225:=Tryz.func231.trans (congrArg some (by kernel_rfl))
 f266:=Tryz.func234.trans (congrArg some (by kernel_rfl))
 f267:=Tryz.func233.trans (congrArg some (by kernel_rfl))
 f314:=Tryz.func235.trans (congrArg some (by kernel_rfl))
 t3:=Tryz.underlying3
 a3:=Tryz.isAgg3
 z3:=Tryz.sizeOf3
 v3:=Tryz.zeroValue3
 t4:=Tryz.underlying4
 a4:=Tryz.isAgg4
 z4:=Tryz.sizeOf4
 v4:=Tryz.zeroValue4
 t5:=Tryz.underlying5
 a5:=Tryz.isAgg5
 z5:=Tryz.sizeOf5
 v5:=Tryz.zeroValue5
 t9:=Tryz.underlying9
 a9:=Tryz.isAgg9
 z9:=Tryz.sizeOf9
 v9:=Tryz.zeroValue9
 t46:=Tryz.underlying86
 a46:=Tryz.isAgg86
 z46:=Tryz.sizeOf86
 v46:=Tryz.zeroValue86
 t51:=Tryz.underlying227
 a51:=Tryz.isAgg227
 z51:=Tryz.sizeOf227
 v51:=Tryz.zeroValue227
 t146:=Tryz.underlying277
 a146:=Tryz.isAgg277
 z146:=Tryz.sizeOf277
 v146:=Tryz.zeroValue277
 g1:=by kernel_rfl }
open Go.RowKit Go.Lib in
theorem Tryz.strings_Contains_one (s:ByteArray) (c:UInt8) (w:World) :
  Calls Tryz.prog 200 #[.string s,.string ⟨#[c]⟩] w fun e w'=>e=.returned (.bool (decide (0≤Lib.indexByte s.data.toList c)))∧w'=w:=Any.strings_Contains_one Tryz.lays144 s c w
def Tryz.laysNm216_ren:Go.Shelf.Ren:=⟨fun|16=>209|n=>n,fun|24=>55|9=>9|4=>4|n=>n,fun|n=>n⟩
theorem Tryz.laysNm216:Go.Proofs.Lays2.n16 Tryz.prog Tryz.laysNm216_ren:={
 mixed:=by kernel_rfl
 f16:=Tryz.func209.trans (congrArg some (by kernel_rfl))
 t4:=Tryz.underlying4
 a4:=Tryz.isAgg4
 z4:=Tryz.sizeOf4
 v4:=Tryz.zeroValue4
 t9:=Tryz.underlying9
 a9:=Tryz.isAgg9
 z9:=Tryz.sizeOf9
 v9:=Tryz.zeroValue9
 t24:=Tryz.underlying55
 a24:=Tryz.isAgg55
 z24:=Tryz.sizeOf55
 v24:=Tryz.zeroValue55
 i9:=by kernel_rfl }
open Go.RowKit Go.Lib in
theorem Tryz.slices_Clone_string (b off n c:Nat) (zs:List ByteArray) (w:World) (hz:n≤zs.length) (hbig:n*16≤140737488355328) (hc:∀j,j<zs.length→w.cell? ⟨b,off+j,none⟩=some (.string (zs.getD j ByteArray.empty))) :
  Calls Tryz.prog 209 #[.slice (some ⟨b,off,none⟩) n c] w fun e w'=>∃v',e=.returned v'∧w'.ownsRow w.heap.size 9 1 v' n ((zs.take n).map (Value.string))∧v'≠.slice none 0 0∧Below w.heap.size w w':=Any.slices_Clone_string Tryz.laysNm216 b off n c zs w hz hbig hc
def Tryz.lays167_ren:Go.Shelf.Ren:=⟨fun|167=>31|240=>96|276=>151|n=>n,fun|0=>0|4=>4|5=>5|9=>9|20=>20|37=>74|70=>73|72=>76|75=>78|76=>79|80=>84|164=>192|n=>n,fun|n=>n⟩
theorem Tryz.lays167:Go.Proofs.Lays.n167 Tryz.prog Tryz.lays167_ren:={
 mixed:=by kernel_rfl
 f167:=Tryz.func31.trans (congrArg some (by kernel_rfl))
 f240:=Tryz.func96.trans (congrArg some (by kernel_rfl))
 f276:=Tryz.func151.trans (congrArg some (by kernel_rfl))
 t0:=Tryz.underlying0
 a0:=Tryz.isAgg0
 z0:=Tryz.sizeOf0
 v0:=Tryz.zeroValue0
 t4:=Tryz.underlying4
 a4:=Tryz.isAgg4
 z4:=Tryz.sizeOf4
 v4:=Tryz.zeroValue4
 t5:=Tryz.underlying5
 a5:=Tryz.isAgg5
 z5:=Tryz.sizeOf5
 v5:=Tryz.zeroValue5
 t9:=Tryz.underlying9
 a9:=Tryz.isAgg9
 z9:=Tryz.sizeOf9
 v9:=Tryz.zeroValue9
 t20:=Tryz.underlying20
 a20:=Tryz.isAgg20
 z20:=Tryz.sizeOf20
 v20:=Tryz.zeroValue20
 t37:=Tryz.underlying74
 a37:=Tryz.isAgg74
 z37:=Tryz.sizeOf74
 v37:=Tryz.zeroValue74
 t70:=Tryz.underlying73
 a70:=Tryz.isAgg73
 z70:=Tryz.sizeOf73
 v70:=Tryz.zeroValue73
 t72:=Tryz.underlying76
 a72:=Tryz.isAgg76
 z72:=Tryz.sizeOf76
 v72:=Tryz.zeroValue76
 t75:=Tryz.underlying78
 a75:=Tryz.isAgg78
 z75:=Tryz.sizeOf78
 v75:=Tryz.zeroValue78
 t164:=Tryz.underlying192
 a164:=Tryz.isAgg192
 z164:=Tryz.sizeOf192
 v164:=Tryz.zeroValue192 }
theorem Tryz.Builder_Extra_167:Builder.Extra Tryz.prog Tryz.lays167_ren:={
 sizeBuilder:=by kernel_rfl
 liesBuilder:=by kernel_rfl
 t5:=Tryz.underlying5
 a5:=Tryz.isAgg5
 z5:=Tryz.sizeOf5
 v5:=Tryz.zeroValue5
 infoByte:=by kernel_rfl
 cellsByte:=by kernel_rfl
 sizeByte:=by kernel_rfl
 neB5:=by decide }
open Go.RowKit in
theorem Tryz.Builder_WriteByte (B b:Nat) (bs:List Value) (c:Int) (w:World) (h:Lib.IsBuilder 76 5 B b bs w) (hlen:bs.length+1≤140737488355328) (hBw:B≤w.heap.size) :
  Calls Tryz.prog 31 #[.pointer (some ⟨b,0,none⟩),.int .u8 c] w fun e w'=>e=.returned .nilIface∧(Lib.BuilderAt 76 5 B b (.pointer (some ⟨b,0,none⟩)) (bs++[.int .u8 c]) w'∧Below B w w') :=
 Any.Builder_WriteByte Tryz.lays167 Tryz.Builder_Extra_167 B b bs c w h hlen hBw
def Tryz.lays166_ren:Go.Shelf.Ren:=⟨fun|166=>28|240=>96|276=>151|n=>n,fun|0=>0|3=>3|4=>4|5=>5|9=>9|20=>20|37=>74|70=>73|72=>76|75=>78|76=>79|80=>84|164=>192|n=>n,fun|n=>n⟩
theorem Tryz.lays166:Go.Proofs.Lays.n166 Tryz.prog Tryz.lays166_ren:={
 mixed:=by kernel_rfl
 f166:=Tryz.func28.trans (congrArg some (by kernel_rfl))
 f240:=Tryz.func96.trans (congrArg some (by kernel_rfl))
 f276:=Tryz.func151.trans (congrArg some (by kernel_rfl))
 t0:=Tryz.underlying0
 a0:=Tryz.isAgg0
 z0:=Tryz.sizeOf0
 v0:=Tryz.zeroValue0
 t3:=Tryz.underlying3
 a3:=Tryz.isAgg3
 z3:=Tryz.sizeOf3
 v3:=Tryz.zeroValue3
 t4:=Tryz.underlying4
 a4:=Tryz.isAgg4
 z4:=Tryz.sizeOf4
 v4:=Tryz.zeroValue4
 t9:=Tryz.underlying9
 a9:=Tryz.isAgg9
 z9:=Tryz.sizeOf9
 v9:=Tryz.zeroValue9
 t20:=Tryz.underlying20
 a20:=Tryz.isAgg20
 z20:=Tryz.sizeOf20
 v20:=Tryz.zeroValue20
 t37:=Tryz.underlying74
 a37:=Tryz.isAgg74
 z37:=Tryz.sizeOf74
 v37:=Tryz.zeroValue74
 t70:=Tryz.underlying73
 a70:=Tryz.isAgg73
 z70:=Tryz.sizeOf73
 v70:=Tryz.zeroValue73
 t72:=Tryz.underlying76
 a72:=Tryz.isAgg76
 z72:=Tryz.sizeOf76
 v72:=Tryz.zeroValue76
 t75:=Tryz.underlying78
 a75:=Tryz.isAgg78
 z75:=Tryz.sizeOf78
 v75:=Tryz.zeroValue78
 t164:=Tryz.underlying192
 a164:=Tryz.isAgg192
 z164:=Tryz.sizeOf192
 v164:=Tryz.zeroValue192 }
theorem Tryz.Builder_Extra_166:Builder.Extra Tryz.prog Tryz.lays166_ren:={
 sizeBuilder:=by kernel_rfl
 liesBuilder:=by kernel_rfl
 t5:=Tryz.underlying5
 a5:=Tryz.isAgg5
 z5:=Tryz.sizeOf5
 v5:=Tryz.zeroValue5
 infoByte:=by kernel_rfl
 cellsByte:=by kernel_rfl
 sizeByte:=by kernel_rfl
 neB5:=by decide }
open Go.RowKit in
theorem Tryz.Builder_WriteString (B b:Nat) (bs:List Value) (s:ByteArray) (w:World) (h:Lib.IsBuilder 76 5 B b bs w) (hlen:bs.length+s.size≤140737488355328) (hBw:B≤w.heap.size) :
  Calls Tryz.prog 28 #[.pointer (some ⟨b,0,none⟩),.string s] w fun e w'=>e=.returned (.tuple #[.int .i64 s.size,.nilIface])∧(Lib.BuilderAt 76 5 B b (.pointer (some ⟨b,0,none⟩)) (bs++Lib.strCells s) w'∧Below B w w') :=
 Any.Builder_WriteString Tryz.lays166 Tryz.Builder_Extra_166 B b bs s w h hlen hBw
end Go.Proofs

namespace Go.Proofs.YtfjeonehdlphiaaGreatDoor
abbrev Pt:=Int×Int
def ptAt (ls:List Pt) (i:Nat):Pt:=ls.getD i (0,0)
theorem jU85 (ls:List Pt) (i:Nat) (h:i<ls.length):ls[i]=ptAt ls i:=by simp[ptAt,List.getD_eq_getElem?_getD,List.getElem?_eq_getElem h]
def ptY (ls:List Pt) (i:Nat):Bool:=decide (0≤(ptAt ls i).2∧(ptAt ls i).2≤65535)
def Xqx5 (ls:List Pt) (i:Nat):Bool:=decide (0<i→(ptAt ls (i-1)).1<(ptAt ls i).1∧(ptAt ls (i-1)).2≤(ptAt ls i).2)
def ptsOk (ls:List Pt) (k:Nat):Bool:=(List.range k).all fun i=>ptY ls i && Xqx5 ls i
def jMWf (ls:List Pt):Bool:=decide (2≤(ls.length:Int)∧(ls.length:Int)≤16) && decide ((ptAt ls 0).1=0) && decide ((ptAt ls (ls.length-1)).1=65535)
def zamz (ls:List Pt):Bool:=jMWf ls && ptsOk ls ls.length
theorem qYjQ (ls:List Pt) (k:Nat):ptsOk ls (k+1)=(ptsOk ls k && (ptY ls k && Xqx5 ls k)):=by simp[ptsOk,List.range_succ]
theorem qhxg (ls:List Pt) (k n:Nat) (h:k<n) (hf:(ptY ls k && Xqx5 ls k)=false):ptsOk ls n=false:=by
 rw[Bool.eq_false_iff];intro he
 have:=List.all_eq_true.1 he k (List.mem_range.2 h)
 rw[hf] at this;cases this
theorem qzFt {ls:List Pt} {n:Nat} (h:ptsOk ls n=true) (k:Nat) (hk:k<n):(0≤(ptAt ls k).2∧(ptAt ls k).2≤65535)∧(0<k→(ptAt ls (k-1)).1<(ptAt ls k).1∧(ptAt ls (k-1)).2≤(ptAt ls k).2):=by
 have:=List.all_eq_true.1 h k (List.mem_range.2 hk)
 rw[Bool.and_eq_true] at this
 exact ⟨of_decide_eq_true this.1,of_decide_eq_true this.2⟩
structure jhAl (ls:List Pt):Prop where
 two:2≤ls.length
 most:ls.length≤16
 first:(ptAt ls 0).1=0
 last:(ptAt ls (ls.length-1)).1=65535
 y:∀k,k<ls.length→0≤(ptAt ls k).2∧(ptAt ls k).2≤65535
 step:∀k,k+1<ls.length→(ptAt ls k).1<(ptAt ls (k+1)).1∧(ptAt ls k).2≤(ptAt ls (k+1)).2
theorem zqz3 {ls:List Pt} (h:zamz ls=true):jhAl ls:=by
 rw[zamz,jMWf,Bool.and_eq_true,Bool.and_eq_true,Bool.and_eq_true] at h
 obtain ⟨⟨⟨h1,h2⟩,h3⟩,h4⟩:=h
 have h1:=of_decide_eq_true h1
 exact ⟨by omega,by omega,of_decide_eq_true h2,of_decide_eq_true h3,fun k hk=>(qzFt h4 k hk).1,fun k hk=>(qzFt h4 (k+1) hk).2 (by omega)⟩
theorem jhAl.lt {ls:List Pt} (h:jhAl ls) (i d:Nat) (hj:i+d+1<ls.length):(ptAt ls i).1<(ptAt ls (i+d+1)).1∧(ptAt ls i).2≤(ptAt ls (i+d+1)).2:=by
 induction d with
 | zero=>exact h.step i hj
 | succ d ih =>
  have h1:=ih (by omega)
  have h2:=h.step (i+d+1) (by omega)
  rw[show i+(d+1)+1=i+d+1+1 by omega]
  omega
theorem jhAl.x {ls:List Pt} (h:jhAl ls) (k:Nat) (hk:k<ls.length):0≤(ptAt ls k).1∧(ptAt ls k).1≤65535:=by
 have h1:=h.first
 have h2:=h.last
 have h3:=h.two
 constructor
 ·rcases Nat.eq_zero_or_pos k with rfl|hp
  ·omega
  ·have:=(h.lt 0 (k-1) (by omega)).1
   rw[show 0+(k-1)+1=k by omega] at this
   omega
 ·rcases Nat.eq_or_lt_of_le (show k≤ls.length-1 by omega) with e|hlt
  ·rw[e];omega
  ·have:=(h.lt k (ls.length-1-k-1) (by omega)).1
   rw[show k+(ls.length-1-k-1)+1=ls.length-1 by omega] at this
   omega
def Xp0K (ls:List Pt) (i:Nat) (x:Int):Int:=(ptAt ls (i-1)).2+((ptAt ls i).2-(ptAt ls (i-1)).2)*(x-(ptAt ls (i-1)).1) / ((ptAt ls i).1-(ptAt ls (i-1)).1)
def isAt (ls:List Pt) (x:Int) (i:Nat):Prop:=i<ls.length∧x≤(ptAt ls i).1∧∀j,j<i→(ptAt ls j).1<x
def XwYM (ls:List Pt) (x:Int):Nat:=ls.findIdx fun p=>decide (x≤p.1)
def qy0p (ls:List Pt) (x:Int):Int:=if (ptAt ls (XwYM ls x)).1=x then (ptAt ls (XwYM ls x)).2 else Xp0K ls (XwYM ls x) x
theorem XJjO {ls:List Pt} {x:Int} {i:Nat} (h:isAt ls x i):XwYM ls x=i:=by
 rw[XwYM,List.findIdx_eq h.1]
 refine ⟨by rw[jU85 ls i h.1];simpa using h.2.1,fun j hj=>?_⟩
 have:=h.2.2 j hj
 rw[jU85 ls j (by have:=h.1;omega)]
 simp;omega
theorem jMoW {ls:List Pt} {x:Int} {i:Nat} (h:isAt ls x i):qy0p ls x=if (ptAt ls i).1=x then (ptAt ls i).2 else Xp0K ls i x:=by
 rw[qy0p,XJjO h]
theorem jwsP {ls:List Pt} (h:jhAl ls) (i:Nat) (hi:i+1<ls.length) (x:Int) (h1:(ptAt ls i).1≤x) (h2:x≤(ptAt ls (i+1)).1) :
  0≤((ptAt ls (i+1)).2-(ptAt ls i).2)*(x-(ptAt ls i).1)∧((ptAt ls (i+1)).2-(ptAt ls i).2)*(x-(ptAt ls i).1)≤4294836225∧(ptAt ls i).2≤Xp0K ls (i+1) x∧Xp0K ls (i+1) x≤(ptAt ls (i+1)).2:=by
 have hs:=h.step i hi
 have y1:=h.y i (by omega)
 have y2:=h.y (i+1) hi
 have x1:=h.x i (by omega)
 have x2:=h.x (i+1) hi
 have a:0≤(ptAt ls (i+1)).2-(ptAt ls i).2:=by omega
 have b:0≤x-(ptAt ls i).1:=by omega
 have hnn:=Int.mul_nonneg a b
 have hle:=Int.mul_le_mul (show (ptAt ls (i+1)).2-(ptAt ls i).2≤65535 by omega) (show x-(ptAt ls i).1≤65535 by omega) b (by omega)
 have hd:0<(ptAt ls (i+1)).1-(ptAt ls i).1:=by omega
 have hq0:=Int.ediv_nonneg hnn (Int.le_of_lt hd)
 have hle2:=Int.mul_le_mul_of_nonneg_left (show x-(ptAt ls i).1≤(ptAt ls (i+1)).1-(ptAt ls i).1 by omega) a
 have hq1:=Int.ediv_le_of_le_mul hd hle2
 refine ⟨hnn,by omega,?_,?_⟩
 ·rw[Xp0K,Nat.add_sub_cancel];omega
 ·rw[Xp0K,Nat.add_sub_cancel];omega
theorem qgIX {ls:List Pt} (h:jhAl ls) {x:Int} {i:Nat} (hi:isAt ls x i) (h0:0≤x):0≤qy0p ls x∧qy0p ls x≤65535:=by
 rw[jMoW hi]
 split
 ·exact h.y i hi.1
 ·rename_i hne
  have hf:=h.first
  obtain ⟨k,rfl⟩:∃k,i=k+1:=by
   cases i with
   | zero=>exact absurd (by have:=hi.2.1;omega) hne
   | succ k=>exact ⟨k,rfl⟩
  have hb:=jwsP h k hi.1 x (Int.le_of_lt (hi.2.2 k (by omega))) hi.2.1
  have y1:=h.y k (by have:=hi.1;omega)
  have y2:=h.y (k+1) hi.1
  omega
end Go.Proofs.YtfjeonehdlphiaaGreatDoor

namespace Go.Proofs.YtfjeonehdlphiaaGreatDoor
open Go.RowKit
def IsPts (w:World) (v:Value) (ls:List Pt):Prop :=
 ∃ao cap,v=.slice ao ls.length cap∧ls.length≤9223372036854775807∧(ls=[]∨∃b off,ao=some ⟨b,off,none⟩∧b<w.heap.size∧∀j,j<ls.length →
  w.cell? ⟨b,off+j*2,none⟩=some (.int .i64 (ptAt ls j).1)∧w.cell? ⟨b,off+j*2+1,none⟩=some (.int .i64 (ptAt ls j).2))
theorem IsPts.below {w w':World} {v:Value} {ls:List Pt} {B:Nat} (h:IsPts w v ls) (hb:Below B w w') (hB:w.heap.size≤B):IsPts w' v ls:=by
 obtain ⟨ao,cap,hv,hl,h⟩:=h
 refine ⟨ao,cap,hv,hl,?_⟩
 rcases h with h|⟨b,off,ha,hlt,hc⟩
 ·exact .inl h
 ·refine .inr ⟨b,off,ha,Nat.lt_of_lt_of_le hlt hb.size,fun j hj=>?_⟩
  rw[hb.cell (p:=⟨b,off+j*2,none⟩) (by exact Nat.lt_of_lt_of_le hlt hB),hb.cell (p:=⟨b,off+j*2+1,none⟩) (by exact Nat.lt_of_lt_of_le hlt hB)]
  exact hc j hj
theorem IsPts.alloc {w:World} {v:Value} {ls:List Pt} (h:IsPts w v ls) (o:Obj):IsPts (w.alloc o) v ls :=
 h.below ((Below.refl _ _).alloc (Nat.le_refl _) o) (Nat.le_refl _)
theorem IsPts.nil (w:World):IsPts w (.slice none 0 0) []:=⟨none,0,rfl,by simp,.inl rfl⟩
end Go.Proofs.YtfjeonehdlphiaaGreatDoor

namespace Go.Proofs.YtfjeonehdlphiaaGreatDoor
open Go.RowKit
def jeC7 (n:Int):Int:=if n<0 then 0 else if 65535<n then 65535 else n
theorem zFh8 (n:Int):0≤jeC7 n∧jeC7 n≤65535:=by unfold jeC7;split<;>(try split)<;>omega
theorem Xgzp (n:Int) (w:World):Calls Tryz.prog 257 #[.int .i64 n] w fun e w'=>e=.returned (.int .i64 (jeC7 n))∧w=w':=by
 have hor:n<0∨(0≤n∧65535<n)∨(0≤n∧n≤65535):=by omega
 rcases hor with h|⟨h,h2⟩|⟨h,h2⟩
 ·have HE:=hide (show 0=jeC7 n by rw[jeC7,if_pos h])
  have hd:decide (n<0)=true:=by simpa using h
  go_enter Tryz.func257,Tryz.ntmps257
  go_wp2
  all_goals (go_ret;exact ⟨jx9N (by have:=HE.out;omega),rfl⟩)
 ·have HE:=hide (show 65535=jeC7 n by rw[jeC7,if_neg (by omega),if_pos h2])
  go_enter Tryz.func257,Tryz.ntmps257
  go_wp2
  all_goals (go_ret;exact ⟨jx9N (by have:=HE.out;omega),rfl⟩)
 ·have HE:=hide (show n=jeC7 n by rw[jeC7,if_neg (by omega),if_neg (by omega)])
  go_enter Tryz.func257,Tryz.ntmps257
  go_wp2
  all_goals (go_ret;exact ⟨jx9N (by have:=HE.out;omega),rfl⟩)
def qdne (n:Int):Bool:=decide (0≤n∧n≤3)
theorem qtgz (n:Int) (w:World):Calls Tryz.prog 71 #[.int .i64 n] w fun e w'=>e=.returned (.bool (qdne n))∧Below w.heap.size w w':=by
 have HS:=hide (show allIn 0 3 [n]=qdne n by simp[allIn,qdne])
 go_enter Tryz.func71,Tryz.ntmps71
 go_wp2_with fail
 refine (qFis 0 3 _ [n] _ (ints1 w n)).mono ?_
 rintro e w1 ⟨rfl,rfl⟩
 rw[HS.out]
 go_wp2
 go_ret
 exact ⟨rfl,qUNz _ _⟩
theorem XSSj (W H:Int) (X Y WN k:Nat) (hW:W=WN) (hk:Y*WN+X=k) (hb:k≤4096) (w:World) :
  Calls Tryz.prog 42 #[.agg #[.int .i64 W,.int .i64 H],.agg #[.int .i64 X,.int .i64 Y]] w fun e w'=>e=.returned (.int .i64 k)∧Below w.heap.size w w':=by
 subst hW
 obtain ⟨M,hM⟩:∃M:Nat,M=Y*WN:=⟨_,rfl⟩
 have hmm:(Y:Int)*(WN:Int)=(M:Int):=by rw[hM];simp
 rw[←hM] at hk
 have hat:(M:Int)+(X:Int)=(k:Int):=by omega
 clear hM
 go_enter Tryz.func42,Tryz.ntmps42
 go_wp2
 go_ret
 exact ⟨rfl,quJN (qUNz _ _) (qUNz _ _)⟩
def hasB (W H x y:Int):Bool:=decide (0≤x∧x<W∧0≤y∧y<H)
theorem z7Cs (W H x y:Int) (w:World) :
  Calls Tryz.prog 170 #[.agg #[.int .i64 W,.int .i64 H],.agg #[.int .i64 x,.int .i64 y]] w fun e w'=>e=.returned (.bool (hasB W H x y))∧Below w.heap.size w w':=by
 have hor:(0≤x∧x<W∧0≤y∧y<H)∨(0≤x∧x<W∧0≤y∧¬y<H)∨(0≤x∧x<W∧¬0≤y)∨(0≤x∧¬x<W)∨¬0≤x:=by omega
 obtain ⟨R,hR⟩:∃R,hasB W H x y=R:=⟨_,rfl⟩
 rw[hR]
 rcases hor with ⟨a,b,c,d⟩|⟨a,b,c,d⟩|⟨a,b,c⟩|⟨a,b⟩|a
 ·have HE:=hide (show true=R by rw[←hR,hasB];symm;simp;omega)
  clear hR
  go_enter Tryz.func170,Tryz.ntmps170
  go_wp2
  go_ret
  exact ⟨j3Zs HE.out,quJN (qUNz _ _) (qUNz _ _)⟩
 all_goals
  have HE:=hide (show false=R by rw[←hR,hasB];symm;simp;omega)
  clear hR
  go_enter Tryz.func170,Tryz.ntmps170
  go_wp2
  go_ret
  exact ⟨j3Zs HE.out,quJN (qUNz _ _) (qUNz _ _)⟩
theorem qFLz (n b:Int) (hb:0<b):(n<n.tdiv b*b∧n.tdiv b-1=n / b)∨(¬n<n.tdiv b*b∧n.tdiv b=n / b):=by
 have h1:=Int.emod_add_mul_ediv n b
 have h2:=Int.emod_nonneg n (show b≠0 by omega)
 have h3:=Int.emod_lt_of_pos n hb
 rw[Int.mul_comm] at h1
 have h4:=Int.tdiv_eq_ediv (a:=n) (b:=b)
 split at h4
 ·rename_i hor
  right
  rw[h4,Int.add_zero]
  exact ⟨by omega,rfl⟩
 ·rename_i hno
  left
  rw[Int.sign_eq_one_of_pos hb] at h4
  rw[h4,Int.add_mul,Int.one_mul]
  exact ⟨by omega,by omega⟩
end Go.Proofs.YtfjeonehdlphiaaGreatDoor

namespace Go.Proofs.YtfjeonehdlphiaaGreatDoor
open Go.RowKit
def XepW (W H:Int) (ls:List Pt):Bool:=ls.all fun p=>hasB W H p.1 p.2
theorem XjDF {W H:Int} {ls:List Pt} (h:∀i,i<ls.length→hasB W H (ptAt ls i).1 (ptAt ls i).2=true):XepW W H ls=true:=by
 refine List.all_eq_true.2 fun p hp=>?_
 obtain ⟨i,hi,rfl⟩:=List.getElem_of_mem hp
 rw[jU85];exact h i hi
theorem zEqn {W H:Int} {ls:List Pt} (i:Nat) (hi:i<ls.length) (h:hasB W H (ptAt ls i).1 (ptAt ls i).2=false):XepW W H ls=false:=by
 rw[Bool.eq_false_iff];intro he
 have:=List.all_eq_true.1 he ls[i] (List.getElem_mem hi)
 rw[jU85,h] at this;cases this
theorem zKbH {W H:Int} {ls:List Pt} (h:XepW W H ls=true) (i:Nat) (hi:i<ls.length):hasB W H (ptAt ls i).1 (ptAt ls i).2=true:=by
 have:=List.all_eq_true.1 h ls[i] (List.getElem_mem hi)
 rw[jU85] at this;exact this
theorem IsPts.at {w:World} {ao:Option Addr} {ca n:Nat} {ls:List Pt} (h:IsPts w (.slice ao n ca) ls) (j:Nat) (hj:j<ls.length):∃bq oq,ao=some ⟨bq,oq,none⟩∧bq<w.heap.size∧w.cell? ⟨bq,oq+j*2,none⟩=some (.int .i64 (ptAt ls j).1)∧w.cell? ⟨bq,oq+j*2+1,none⟩=some (.int .i64 (ptAt ls j).2):=by
 obtain ⟨ao',ca',e,_,hc⟩:=h
 cases e
 rcases hc with h|⟨b,off,h1,h2,h3⟩
 ·subst h;simp at hj
 ·exact ⟨b,off,h1,h2,h3 j hj⟩
end Go.Proofs.YtfjeonehdlphiaaGreatDoor

namespace Go.Proofs.YtfjeonehdlphiaaGreatDoor
set_option linter.unusedVariables false
open Go.RowKit
set_option maxRecDepth 100000 in
set_option maxHeartbeats 1600000 in
theorem qdq5 (W H:Int) (v:Value) (ls:List Pt) (w:World) (hv:IsPts w v ls) :
  Calls Tryz.prog 115 #[.agg #[.int .i64 W,.int .i64 H],v] w fun e w'=>e=.returned (.bool (XepW W H ls))∧Below w.heap.size w w':=by
 obtain ⟨lo,lc,rfl,hll,hc0⟩:=hv
 have HC:=hide (fun j hj=>IsPts.at ⟨lo,lc,rfl,hll,hc0⟩ j hj)
 clear hc0
 obtain ⟨R,hR⟩:∃R,XepW W H ls=R:=⟨_,rfl⟩
 rw[hR]
 have HR:=hide hR
 clear hR
 have a1:=al1 w (Obj.cells #[.int .i64 W,.int .i64 H] 95)
 have hB:=qUNz w (Obj.cells #[.int .i64 W,.int .i64 H] 95)
 go_enter Tryz.func115,Tryz.ntmps115
 go_wp2_with fail
 have hl1:=(Array.getElem?_eq_some_iff.1 a1).1
 generalize w.alloc (Obj.cells #[.int .i64 W,.int .i64 H] 95)=U at *
 go_loopw [9] (fun i wr=>∃k:Nat,k≤ls.length∧i=.int .i64 k∧Below U.heap.size U wr∧Hid (∀i,i<k→hasB W H (ptAt ls i).1 (ptAt ls i).2=true)) (fun i _=>ls.length-(intOf i).toNat)
 case atStart=>exact ⟨0,Nat.zero_le _,rfl,Below.refl _ _,hide (fun i hi=>by omega)⟩
 case round =>
  obtain ⟨k,hk,rfl,hbr,HA⟩:=hrel
  have hbw:=hB.trans (hbr.mono hB.size)
  have b1:=(hbr.block _ hl1).trans a1
  by_cases hlt:k<ls.length
  ·have hd:decide ((k:Int)<(ls.length:Int))=true:=by simp;omega
   obtain ⟨bq,oq,rfl,hbq,e0,e1⟩:=HC.out k hlt
   have d0:=(hbw.cell (p:=⟨bq,oq+k*2,none⟩) hbq).trans e0
   have d1:=(hbw.cell (p:=⟨bq,oq+k*2+1,none⟩) hbq).trans e1
   have HF:=hide (fun h=>zEqn (W:=W) (H:=H) k hlt h)
   have HT:=hide (show hasB W H (ptAt ls k).1 (ptAt ls k).2=true→∀i,i<k+1→hasB W H (ptAt ls i).1 (ptAt ls i).2=true from fun hn i hi=>by
    rcases Nat.lt_succ_iff_lt_or_eq.1 hi with h|rfl
    ·exact HA.out i h
    ·exact hn)
   obtain ⟨⟨x,y⟩,hab⟩:∃p,ptAt ls k=p:=⟨_,rfl⟩
   rw[hab] at d0 d1 HF HT
   simp only at d0 d1 HF HT
   clear hab e0 e1
   have a5:=al1 wr (Obj.cells #[.int .i64 x,.int .i64 y] 97)
   have hB5:=qUNz wr (Obj.cells #[.int .i64 x,.int .i64 y] 97)
   obtain ⟨s0,s1⟩:=bx2 a5
   obtain ⟨g0,g1⟩:=bx2 ((hB5.block w.heap.size (Array.getElem?_eq_some_iff.1 b1).1).trans b1)
   go_wp2_with fail
   clear s0 s1 g0 g1
   generalize wr.alloc (Obj.cells #[.int .i64 x,.int .i64 y] 97)=V5 at *
   refine (z7Cs W H x y _).mono ?_
   rintro e V6 ⟨rfl,hb6⟩
   have HB6:=hide (quJN hbr (quJN hB5 hb6))
   by_cases hh:hasB W H x y=true
   ·rw[hh]
    have HN:=hide (HT.out hh)
    go_wp2
    go_roundw
    case rel=>exact ⟨k+1,by omega,by go_num,HB6.out,HN⟩
    case measure=>simp[intOf];omega
   ·have hh:hasB W H x y=false:=by simpa using hh
    rw[hh]
    have hr:R=false:=HR.out.symm.trans (HF.out hh)
    subst hr
    go_wp2
    go_ret
    exact ⟨rfl,hB.trans (HB6.out.mono hB.size)⟩
  ·have hd:decide ((k:Int)<(ls.length:Int))=false:=by simp;omega
   have hkl:k=ls.length:=by omega
   have hr:R=true:=HR.out.symm.trans (XjDF (fun i hi=>HA.out i (by omega)))
   subst hr
   go_wp2
   go_ret
   exact ⟨rfl,hbw⟩
end Go.Proofs.YtfjeonehdlphiaaGreatDoor

namespace Go.Proofs.YtfjeonehdlphiaaGreatDoor
set_option linter.unusedVariables false
open Go.RowKit
abbrev fourA (m:Nat→Int):Array Value:=#[.int .i64 (m 0),.int .i64 (m 1),.int .i64 (m 2),.int .i64 (m 3)]
abbrev qilW (m:Nat→Int):Array Value:=#[.int .i64 (m 0),.int .i64 (m 1),.int .i64 (m 2)]
def arrL (m:Nat→Int) (n:Nat):List Int:=(List.range n).map m
theorem zh9q (m:Nat→Int) (k:Nat) (h:k<4):(fourA m)[k]?=some (.int .i64 (m k)):=by
 rcases (show k=0∨k=1∨k=2∨k=3 by omega) with rfl|rfl|rfl|rfl<;>rfl
theorem jscf (m:Nat→Int) (k:Nat) (h:k<3):(qilW m)[k]?=some (.int .i64 (m k)):=by
 rcases (show k=0∨k=1∨k=2 by omega) with rfl|rfl|rfl<;>rfl
theorem XL98 {m:Nat→Int} {n:Nat} {a b:Int} (h:allIn a b (arrL m n)=true) (k:Nat) (hk:k<n):a≤m k∧m k≤b:=by
 have:=List.all_eq_true.1 h (m k) (List.mem_map.2 ⟨k,List.mem_range.2 hk,rfl⟩)
 simpa using this
theorem qJ1P {w w':World} {t:TypeId} (m:Nat→Int) (hb:Below (w.alloc (.cells (fourA m) t)).heap.size (w.alloc (.cells (fourA m) t)) w'):jCvT w' (.slice (some ⟨w.heap.size,0,none⟩) 4 4) (arrL m 4):=by
 refine ⟨_,_,rfl,by simp[arrL],.inr ⟨w.heap.size,0,rfl,by have:=hb.size;simp at this;omega,fun j hj=>?_⟩⟩
 have hj4:j<4:=by simpa [arrL] using hj
 rw[hb.cell (p:=⟨w.heap.size,0+j,none⟩) (by simp),Lib.cell_of_heap (heap_alloc_new w _),Nat.zero_add,zh9q m j hj4]
 simp[arrL]
theorem Xswx {w w':World} {t:TypeId} (m:Nat→Int) (hb:Below (w.alloc (.cells (qilW m) t)).heap.size (w.alloc (.cells (qilW m) t)) w'):jCvT w' (.slice (some ⟨w.heap.size,0,none⟩) 3 3) (arrL m 3):=by
 refine ⟨_,_,rfl,by simp[arrL],.inr ⟨w.heap.size,0,rfl,by have:=hb.size;simp at this;omega,fun j hj=>?_⟩⟩
 have hj3:j<3:=by simpa [arrL] using hj
 rw[hb.cell (p:=⟨w.heap.size,0+j,none⟩) (by simp),Lib.cell_of_heap (heap_alloc_new w _),Nat.zero_add,jscf m j hj3]
 simp[arrL]
def j1E7 (m:Nat→Int):Bool:=allIn 0 65535 (arrL m 3)
set_option maxRecDepth 100000 in
theorem XByj (m:Nat→Int) (w:World):Calls Tryz.prog 147 #[.agg (qilW m)] w fun e w'=>e=.returned (.bool (j1E7 m))∧Below w.heap.size w w':=by
 go_enter Tryz.func147,Tryz.ntmps147
 go_wp2_with fail
 refine (qFis 0 65535 _ (arrL m 3) _ (Xswx m (Below.refl _ _))).mono ?_
 rintro e w1 ⟨rfl,rfl⟩
 rw[show allIn 0 65535 (arrL m 3)=j1E7 m from rfl]
 go_wp2
 go_ret
 exact ⟨rfl,qUNz _ _⟩
def zN6Q (m:Nat→Int) (white:Int):Bool:=decide (1≤white∧white≤65535) && allIn 0 (white-1) (arrL m 4)
set_option maxRecDepth 100000 in
set_option maxHeartbeats 800000 in
theorem zO8p (m:Nat→Int) (white:Int) (w:World):Calls Tryz.prog 146 #[.agg (fourA m),.int .i64 white] w fun e w'=>e=.returned (.bool (zN6Q m white))∧Below w.heap.size w w':=by
 have HB:=hide (be2 w (Obj.cells (fourA m) 45) (Obj.cells #[.int .i64 white] 3))
 have H1:=hide (ints1 (w.alloc (Obj.cells (fourA m) 45)) white)
 rw[World.size_alloc] at H1
 have H4:=hide (qJ1P (w:=w) (t:=45) m (qUNz _ (Obj.cells #[.int .i64 white] 3)))
 by_cases hw:1≤white∧white≤65535
 ·have hd:allIn 1 65535 [white]=true:=by simpa [allIn] using hw
  have HE:=hide (show allIn 0 (white-1) (arrL m 4)=zN6Q m white by rw[zN6Q,decide_eq_true hw,Bool.true_and])
  obtain ⟨hw1,hw2⟩:=hw
  go_enter Tryz.func146,Tryz.ntmps146
  go_wp2_with fail
  refine (qFis 1 65535 _ [white] _ H1.out).mono ?_
  rintro e w1 ⟨rfl,rfl⟩
  rw[hd]
  go_wp2_with fail
  refine (qFis 0 (white-1) _ (arrL m 4) _ H4.out).mono ?_
  rintro e w1 ⟨rfl,rfl⟩
  rw[HE.out]
  go_wp2
  go_ret
  exact ⟨rfl,HB.out⟩
 ·have hd:allIn 1 65535 [white]=false:=by simpa [allIn] using hw
  have HE:=hide (show false=zN6Q m white by rw[zN6Q,decide_eq_false hw,Bool.false_and])
  go_enter Tryz.func146,Tryz.ntmps146
  go_wp2_with fail
  refine (qFis 1 65535 _ [white] _ H1.out).mono ?_
  rintro e w1 ⟨rfl,rfl⟩
  rw[hd]
  go_wp2
  go_ret
  exact ⟨j3Zs HE.out,HB.out⟩
theorem zj0b (n d:Int) (hd:0<d):jeC7 (n.tdiv d)=jeC7 (n / d):=by
 rcases qFLz n d hd with ⟨h1,h2⟩|⟨_,h2⟩
 ·have hn:n<0:=by
   rcases Int.lt_or_le n 0 with h|h
   ·exact h
   ·have:=Int.tdiv_eq_ediv_of_nonneg (b:=d) h;omega
  have h3:n / d<0:=Int.ediv_neg_of_neg_of_pos hn hd
  have h4:n.tdiv d≤0:=by omega
  unfold jeC7
  rw[if_pos h3]
  split
  ·rfl
  ·rw[if_neg (by omega)];omega
 ·rw[h2]
end Go.Proofs.YtfjeonehdlphiaaGreatDoor

namespace Go.Proofs.YtfjeonehdlphiaaGreatDoor
open Go.RowKit Go.Shelf
attribute [local go_sem] Oper.semAt_some
def idx (N k:Nat):List (Fin N):=(List.finRange N).take k
theorem zbJt (N k:Nat) (h:k<N):idx N (k+1)=idx N k++[⟨k,h⟩]:=by
 unfold idx;rw[List.take_succ_eq_append_getElem (by simpa using h)];simp
theorem zBZc (N k:Nat) (h:k≤N):(idx N k).length=k:=by unfold idx;simp;omega
theorem zq3o (N k:Nat):idx N k <+: List.finRange N:=List.take_prefix _ _
theorem jEoj (N:Nat):idx N N=List.finRange N:=List.take_of_length_le (by simp)
theorem zhtE {α:Type} (N:Nat) (f:Nat→α):(List.finRange N).map (fun j=>f j.1)=(List.range N).map f:=by
 apply List.ext_getElem
 ·simp
 ·intro i h1 h2;simp
def KeepB (Bg:Nat) (A B:World):Prop:=B.heap[Bg]?=A.heap[Bg]?
set_option maxRecDepth 100000 in
set_option maxHeartbeats 1000000 in
theorem j95T (F:Fence) (n:Nat) (hf:F.fn 154) (hro:F.round=none) (hn:1≤n) (l Bg W H N:Nat) (hW:W≤64) (hH:H≤64) (hN:N=H*W) (J Jx:List (Fin N)→World→Prop)
  (hY:∀pre (x:Fin N) V,J pre V→pre.length<N→YieldAt F (n-1) Tryz.prog l #[.agg #[.int .i64 (x.1 % W:Nat),.int .i64 (x.1 / W:Nat)]] V fun e V' =>
   (e=.returned (.bool true)∧J (pre++[x]) V'∧KeepB Bg V V')∨(e=.returned (.bool false)∧Jx (pre++[x]) V'))
  (V:World) (hc0:V.cell? ⟨Bg,0,none⟩=some (.int .i64 W)) (hc1:V.cell? ⟨Bg,1,none⟩=some (.int .i64 H)) (h0:J [] V) :
  CallsIn F n Tryz.prog 154 #[.func (.yield l) #[] #[],.pointer (some ⟨Bg,0,none⟩)] V fun e V'=>(∃v,e=.returned v) ∧
   ((∃ys,ys=List.finRange N∧J ys V')∨(∃pre,pre <+: List.finRange N∧Jx pre V')):=by
 have HN:=hide hN
 clear hN
 refine callsIn_of_wp Tryz.func154 rfl hf ?_ hro
 simp only[Tryz.ntmps154,List.size_toArray,List.length_cons,List.length_nil,Nat.reduceAdd,Nat.reduceSub,Array.replicate_succ,Array.replicate_zero,List.push_toArray,List.append_toArray,List.nil_append,List.cons_append]
 gi_wp2
 gi_loopw [7] (fun i wr=>∃y:Nat,y≤H∧i=.int .i64 y∧J (idx N (y*W)) wr∧wr.cell? ⟨Bg,0,none⟩=some (.int .i64 W)) (fun i _=>H-(intOf i).toNat)
 case atStart=>exact ⟨0,Nat.zero_le _,rfl,by rw[Nat.zero_mul];exact h0,hc0⟩
 case round =>
  obtain ⟨y,hy,rfl,hJ,c0⟩:=hrel
  clear hc0 hc1 h0
  by_cases hlt:y<H
  ·have hd:decide ((y:Int)<(H:Int))=true:=by simp;omega
   obtain ⟨M,hM⟩:∃M,M=y*W:=⟨_,rfl⟩
   rw[←hM] at hJ
   have hmul:M+W≤N:=by
    rw[HN.out,hM,←Nat.succ_mul];exact Nat.mul_le_mul_right W hlt
   have HMUL:=hide hmul
   have HPL:=hide (fun x (hx:x<W)=>show (M+x) % W=x∧(M+x) / W=y by rw[hM];exact X4G3 hx)
   have HNX:=hide (show idx N ((y+1)*W)=idx N (M+W) by rw[Nat.succ_mul,hM])
   clear hM hmul
   gi_wp2
   gi_loopw [12] (fun i wr=>∃x:Nat,x≤W∧i=.int .i64 x∧J (idx N (M+x)) wr∧wr.cell? ⟨Bg,0,none⟩=some (.int .i64 W)) (fun i _=>W-(intOf i).toNat)
   case atStart=>exact ⟨0,Nat.zero_le _,rfl,hJ,c0⟩
   case round =>
    clear hJ c0
    obtain ⟨x,hx,rfl,hJ,c0⟩:=hrel
    by_cases hxl:x<W
    ·have hd2:decide ((x:Int)<(W:Int))=true:=by simp;omega
     have hxN:M+x<N:=by have:=HMUL.out;omega
     have HSP:=hide (zbJt N (M+x) hxN)
     have HPR:=hide (show idx N (M+x)++[⟨M+x,hxN⟩] <+: List.finRange N by
      rw[←HSP.out];exact zq3o N _)
     have hYx:=hY (idx N (M+x)) ⟨M+x,hxN⟩ _ hJ (by rw[zBZc _ _ (by omega)];exact hxN)
     simp only[(HPL.out x hxl).1,(HPL.out x hxl).2] at hYx
     obtain ⟨fn,tmps,assign,body,hy',hR⟩:=hYx
     gi_wp2
     refine hR.mono ?_
     rintro e V3 (⟨rfl,hJ3,hk3⟩|⟨rfl,hJx3⟩)
     ·have c3:=(World.cell?_of_block (a:=⟨Bg,0,none⟩) hk3).trans c0
      rw[←HSP.out] at hJ3
      gi_wp2
      go_roundw
      case rel=>exact ⟨x+1,by omega,by go_num,hJ3,c3⟩
      case measure=>simp[intOf];omega
     ·gi_wp2
      refine bodyPost_ret (results_none rfl _ _ _) rfl ?_
      exact ⟨⟨_,rfl⟩,.inr ⟨_,HPR.out,hJx3⟩⟩
    ·have hd2:decide ((x:Int)<(W:Int))=false:=by simp;omega
     obtain rfl:x=W:=by omega
     gi_wp2
     go_roundw
     case rel=>exact ⟨y+1,by omega,by go_num,by rw[HNX.out];exact hJ,c0⟩
     case measure=>simp[intOf];omega
  ·obtain rfl:y=H:=by omega
   have hd:decide ((y:Int)<(y:Int))=false:=by simp
   gi_wp2
   go_end0
   exact ⟨⟨_,rfl⟩,.inl ⟨_,by rw[←HN.out,jEoj],hJ⟩⟩
end Go.Proofs.YtfjeonehdlphiaaGreatDoor

namespace Go.Proofs.YtfjeonehdlphiaaGreatDoor
open Go.RowKit
def jj84 (ops:Array Oper):Prop:=∀(i:Nat) (o:Oper),ops[i]?=some o→∀c,o.op≠.defer c
theorem jn8W {P:Program} {o:Oper} {a:Act} {w:World} {K:Act→World→Prop} {Q:Exit→Act→World→Prop} {l n:Nat} (hd:∀c,o.op≠.defer c)
  (h:o.wp P a w K Q):o.wpIn (Fence.wide.inRound l) n P a w K Q:=by
 unfold Oper.wp at h
 unfold Oper.wpIn
 refine ⟨fun _ _=>trivial,?_⟩
 rw[Oper.semAt_eq _ _ _ hd]
 generalize (execOp a.eval o).run P w=r at *
 cases r with
 | ok x w' =>
  cases x<;>simp only[Oper.upon,Oper.uponIn] at h ⊢
  all_goals first
   | exact h
   | exact ⟨fun hh=>by simp[Fence.wide,Fence.inRound] at hh,CallsIn.inRound l (callsIn_wide.2 h)⟩
   | exact ⟨fun hh=>by simp[Fence.wide,Fence.inRound] at hh,fun c cs _=>let ⟨v,w',r,s⟩:=h c cs;⟨v,w',r,stepsIn_wide.2 s⟩⟩
   | exact h.elim
 | halt x w'=>cases x<;>simp only[Oper.upon,Oper.uponIn] at h ⊢<;>first|exact h|exact h.elim
theorem q8w1 {P:Program} {ops:Array Oper} {a:Act} {w:World} {K:Act→World→Prop} {Q:Exit→Act→World→Prop} {l n i:Nat} (hd:jj84 ops) (hno:¬LetsOut Q)
  (h:wpOp P ops Q i K a w):wpOpIn (Fence.wide.inRound l) n P ops Q i K a w:=by
 unfold wpOp at h
 unfold wpOpIn
 cases ho:ops[i]? with
 | none=>simp only[ho] at h ⊢;exact h
 | some o =>
  simp only[ho] at h ⊢
  split
  ·rename_i hw
   rw[if_pos hw] at h
   rcases h with h|h
   ·exact jn8W (hd i o ho) h
   ·exact absurd h.2 hno
  ·rename_i hw
   rw[if_neg hw] at h
   exact ⟨fun _ _=>trivial,h⟩
theorem qklz {P:Program} {md:Region.Mode} {ops:Array Oper} {Q:Exit→Act→World→Prop} {l n:Nat} (hd:jj84 ops) (hno:¬LetsOut Q) :
  ∀(fuel:Nat) (listed:Array Bool) (a:Act) (w:World),wpAny P md ops Q fuel listed a w→wpAnyIn (Fence.wide.inRound l) n P md ops Q fuel listed a w
 | 0,_,_,_,h=>h
 | fuel+1,_,_,_,h=>⟨h.1,fun i hi=>wpOpIn_mono (fun a' w' h'=>qklz hd hno fuel _ a' w' h') (q8w1 hd hno (h.2 i hi))⟩
theorem jNnL {P:Program} {id l n:Nat} {ops:Array Oper} {S:World→Prop} {Q:Exit→Act→World→Prop} {a:Act} {w:World} (hm:P.follows .mixedOrders=true) (hd:jj84 ops) (hno:¬LetsOut Q)
  (h:wpAnyH P .any ops Q S ops.size (Array.replicate ops.size false) a { w with drawn:=w.drawn+1 }):(Code.region id ops true).wpIn (Fence.wide.inRound l) n P Q a w :=
 wpIn_region_any hm (qklz hd hno _ _ _ _ (wpAny_of_held _ _ _ _ h))
end Go.Proofs.YtfjeonehdlphiaaGreatDoor

namespace Go.Proofs.YtfjeonehdlphiaaGreatDoor
open Go.RowKit Go.Shelf
attribute [local go_sem] Oper.semAt_some
theorem KeepB.trans' {Bg:Nat} {A B C:World} (h:KeepB Bg A B) (k:KeepB Bg B C):KeepB Bg A C:=Eq.trans k h
theorem qMCQ {Bg l:Nat} {X:World} {o:Obj} (h:Bg≠l):KeepB Bg X (X.putObj l o):=by
 show (X.putObj l o).heap[Bg]?=X.heap[Bg]?
 unfold World.putObj
 simp[Ne.symm h]
theorem XpIb {B:Nat} {a w:World} (h:Below B a w):Below B a w.drew:=h.drew
set_option maxHeartbeats 400000 in
theorem jIfE (F:Fence) (n:Nat) (hf:F.fn 102) (hro:F.round=none) (W H:Int) (w:World) :
  CallsIn F n Tryz.prog 102 #[.agg #[.int .i64 W,.int .i64 H]] w fun e w'=>e=.returned (.func (.func 154) #[] #[.pointer (some ⟨w.heap.size,0,none⟩)])∧w'=w.alloc (.cells #[.int .i64 W,.int .i64 H] 95):=by
 refine callsIn_of_wp Tryz.func102 rfl hf ?_ hro
 simp only[Tryz.ntmps102,List.size_toArray,List.length_cons,List.length_nil,Nat.reduceAdd,Nat.reduceSub,Array.replicate_succ,Array.replicate_zero,List.push_toArray,List.append_toArray,List.nil_append,List.cons_append]
 gi_wp2
 go_ret
 exact ⟨rfl,rfl⟩
theorem joPr (F:Fence) (n:Nat) (hf:F.fn 154) (hro:F.round=none) (hn:1≤n) (Bg W H N:Nat) (hW:W≤64) (hH:H≤64) (hN:N=H*W) (w:World) (hBw:Bg<w.heap.size)
  (hc0:w.cell? ⟨Bg,0,none⟩=some (.int .i64 W)) (hc1:w.cell? ⟨Bg,1,none⟩=some (.int .i64 H)) :
  SeqStopsK F n Tryz.prog 154 #[.pointer (some ⟨Bg,0,none⟩)] (fun x:Fin N=>#[Value.agg #[.int .i64 (x.1 % W:Nat),.int .i64 (x.1 / W:Nat)]]) (KeepB Bg) (fun ys=>ys=List.finRange N) (fun pre=>pre <+: List.finRange N) N w:=fun l J Jx V hV _ _ hY h0 =>
 j95T F n hf hro hn l Bg W H N hW hH hN J Jx hY V ((hV.cell (p:=⟨Bg,0,none⟩) hBw).trans hc0) ((hV.cell (p:=⟨Bg,1,none⟩) hBw).trans hc1) h0
end Go.Proofs.YtfjeonehdlphiaaGreatDoor

namespace Go.Proofs.YtfjeonehdlphiaaGreatDoor
open Go.RowKit
theorem qYYy {V:World} {base:Nat} {et:TypeId} {sz:Nat} {v:Value} {n:Nat} {xs:List Value} (h:V.ownsRow base et sz v n xs) {b:Nat} {cs:Array Value} {t:TypeId} {fr:Nat×Nat} (hb:V.heap[b]?=some (.cells cs t fr)) (ht:t≠et):some b≠v.ownBlock:=by
 rcases h.2 with ⟨hv,_⟩|⟨g,cap,cur,hv,_,hg,_⟩
 ·rw[hv];simp[Value.ownBlock]
 ·rw[hv]
  simp only[Value.ownBlock]
  intro e
  simp only[Option.some.injEq] at e
  subst e
  rw[hb] at hg
  simp only[Option.some.injEq,Obj.cells.injEq] at hg
  exact ht hg.2.1
theorem jlft {V:World} {base:Nat} {et:TypeId} {sz:Nat} {v:Value} {n:Nat} {xs:List Value} (h:V.ownsRow base et sz v n xs) {b:Nat} {o:Obj} (hb:V.heap[b]?=some o) (ho:o.isCells=false):some b≠v.ownBlock:=by
 rcases h.2 with ⟨hv,_⟩|⟨g,cap,cur,hv,_,hg,_⟩
 ·rw[hv];simp[Value.ownBlock]
 ·rw[hv]
  simp only[Value.ownBlock]
  intro e
  simp only[Option.some.injEq] at e
  subst e
  rw[hb] at hg
  cases hg
  simp[Obj.isCells] at ho
theorem XPKi {w:World} {base:Nat} {e:TypeId} {sz:Nat} {v:Value} {n:Nat} {xs:List Value} (h:w.ownsRow base e sz v n xs):∃ao cap,v=.slice ao n cap:=by
 rcases h.2 with ⟨hv,hn⟩|⟨g,cap,cur,hv,_⟩
 ·exact ⟨none,0,by rw[hv,hn]⟩
 ·exact ⟨_,_,hv⟩
theorem qU4N {ops:Array Oper} (h:(ops.toList.all fun o=>match o.op with | .defer _=>false|_=>true)=true):jj84 ops:=by
 intro i o ho c hc
 have hm:o∈ops.toList:=by
  rw[←Array.getElem?_toList] at ho
  exact List.mem_of_getElem? ho
 have:=List.all_eq_true.1 h o hm
 rw[hc] at this
 cases this
theorem qLYA {B:Nat} {X Y:World} {row:Option Nat} (hg:X.grownBy Y row) (hr:∀r,row=some r→B≤r∧∃o:Obj,X.heap[r]?=some o∧o.isCells=false) {b:Nat} {cs:Array Value} {t:TypeId} {fr:Nat×Nat} (h:X.heap[b]?=some (.cells cs t fr)):Y.heap[b]?=some (.cells cs t fr):=by
 refine (hg.block b (Array.getElem?_eq_some_iff.1 h).1 (fun e=>?_)).trans h
 obtain ⟨_,o,ho,hc⟩:=hr b e.symm
 rw[h] at ho;cases ho;cases hc
theorem jg0p {B:Nat} {X Y:World} {row:Option Nat} (hg:X.grownBy Y row) (hr:∀r,row=some r→B≤r∧∃o:Obj,X.heap[r]?=some o∧o.isCells=false) {base:Nat} {et:TypeId} {sz:Nat} {v:Value} {n:Nat} {xs:List Value} (h:X.ownsRow base et sz v n xs):Y.ownsRow base et sz v n xs:=by
 refine h.kept hg ?_
 by_cases hv:v.ownBlock=none
 ·exact .inl hv
 ·refine .inr fun e=>?_
  cases hrow:row with
  | none=>rw[hrow] at e;exact hv e
  | some r =>
   obtain ⟨_,o,ho,hc⟩:=hr r hrow
   exact jlft h ho hc (by rw[e,hrow])
theorem XXqf {et ct ft gt xt:TypeId} {sz:Nat} (ce:ct≠et) (fe:ft≠et) (ge:gt≠et) (xe:xt≠et) (cf:ct≠ft) (cg:ct≠gt) (cx:ct≠xt)
  {W' V1 w1 w:World} {base PB Bt Br Bx Bg B0:Nat} {W H:Int} {so:Option Addr} {scap n g cap:Nat} {fn x0 x1:Value} {es:Array Value} {xs:List Value}
  (i1:W'.heap[PB]?=some (.cells #[.int .i64 W,.int .i64 H,.slice so n scap] ct (0,0))) (i2:W'.ownsRow base et sz (.slice so n scap) n xs)
  (i3:W'.heap[Bt]?=some (.cells #[fn] ft (0,0))) (i4:W'.heap[Br]?=some (.cells #[.int .i64 0,.int .i64 0,.slice none 0 0] ct (0,0)))
  (i6:W'.heap[Bg]?=some (.cells #[.int .i64 W,.int .i64 H] gt (0,0))) (bX:W'.heap[Bx]?=some (.cells #[x0,x1] xt (0,0)))
  (i5:Below w.heap.size w W') (hbase:w.heap.size≤base) (hPw:w.heap.size≤PB) (hPR:PB≠Br)
  (hV1:Below W'.heap.size W' V1) (hg:(V1.alloc (Obj.cells es et)).grownBy w1 (Value.slice so n scap).ownBlock)
  (ho:w1.ownsRow base et sz (.slice (some ⟨g,0,none⟩) (n+1) cap) (n+1) (xs++es.toList)) :
  (w1.cell? ⟨Bt,0,none⟩=some fn∧w1.cell? ⟨Bx,0,none⟩=some x0∧w1.cell? ⟨Bx,1,none⟩=some x1)∧w1.cell? ⟨PB,2,none⟩=some (.slice so n scap)∧w1.frozen? ⟨PB,2,none⟩=false ∧
  (((w1.setCell ⟨PB,2,none⟩ (.slice (some ⟨g,0,none⟩) (n+1) cap)).cell? ⟨Bt,0,none⟩=some fn∧(w1.setCell ⟨PB,2,none⟩ (.slice (some ⟨g,0,none⟩) (n+1) cap)).cell? ⟨Bx,0,none⟩=some x0∧(w1.setCell ⟨PB,2,none⟩ (.slice (some ⟨g,0,none⟩) (n+1) cap)).cell? ⟨Bx,1,none⟩=some x1) ∧
   (KeepsFrom B0 W' (w1.setCell ⟨PB,2,none⟩ (.slice (some ⟨g,0,none⟩) (n+1) cap))∧KeepB Bg W' (w1.setCell ⟨PB,2,none⟩ (.slice (some ⟨g,0,none⟩) (n+1) cap)) ∧
    ((∃v,(w1.setCell ⟨PB,2,none⟩ (.slice (some ⟨g,0,none⟩) (n+1) cap)).heap[PB]?=some (.cells #[.int .i64 W,.int .i64 H,v] ct (0,0))∧(w1.setCell ⟨PB,2,none⟩ (.slice (some ⟨g,0,none⟩) (n+1) cap)).ownsRow base et sz v (n+1) (xs++es.toList)) ∧
     (w1.setCell ⟨PB,2,none⟩ (.slice (some ⟨g,0,none⟩) (n+1) cap)).heap[Bt]?=some (.cells #[fn] ft (0,0))∧(w1.setCell ⟨PB,2,none⟩ (.slice (some ⟨g,0,none⟩) (n+1) cap)).heap[Br]?=some (.cells #[.int .i64 0,.int .i64 0,.slice none 0 0] ct (0,0)) ∧
     (w1.setCell ⟨PB,2,none⟩ (.slice (some ⟨g,0,none⟩) (n+1) cap)).heap[Bg]?=some (.cells #[.int .i64 W,.int .i64 H] gt (0,0))∧Below w.heap.size w (w1.setCell ⟨PB,2,none⟩ (.slice (some ⟨g,0,none⟩) (n+1) cap))))):=by
 have keep:∀b o,W'.heap[b]?=some o→some b≠(Value.slice so n scap).ownBlock→w1.heap[b]?=some o:=fun b o hb hne=>by
  have hl:=(Array.getElem?_eq_some_iff.1 hb).1
  have hs:=hV1.size
  rw[hg.block b (by simp;omega) hne,Below.heap_alloc _ _ _ (by omega),hV1.block b hl];exact hb
 have kP:=keep PB _ i1 (qYYy i2 i1 ce)
 have kT:=keep Bt _ i3 (qYYy i2 i3 fe)
 have kR:=keep Br _ i4 (qYYy i2 i4 ce)
 have kG:=keep Bg _ i6 (qYYy i2 i6 ge)
 have kX:=keep Bx _ bX (qYYy i2 bX xe)
 have nT:PB≠Bt:=fun e=>by rw[e] at i1;rw[i1] at i3;simp only[Option.some.injEq,Obj.cells.injEq] at i3;exact cf i3.2.1
 have nG:PB≠Bg:=fun e=>by rw[e] at i1;rw[i1] at i6;simp only[Option.some.injEq,Obj.cells.injEq] at i6;exact cg i6.2.1
 have nX:PB≠Bx:=fun e=>by rw[e] at i1;rw[i1] at bX;simp only[Option.some.injEq,Obj.cells.injEq] at bX;exact cx bX.2.1
 have fT:=(Below.heap_setCell w1 ⟨PB,2,none⟩ (.slice (some ⟨g,0,none⟩) (n+1) cap) Bt (Ne.symm nT)).trans kT
 have fR:=(Below.heap_setCell w1 ⟨PB,2,none⟩ (.slice (some ⟨g,0,none⟩) (n+1) cap) Br (Ne.symm hPR)).trans kR
 have fG:=(Below.heap_setCell w1 ⟨PB,2,none⟩ (.slice (some ⟨g,0,none⟩) (n+1) cap) Bg (Ne.symm nG)).trans kG
 have fX:=(Below.heap_setCell w1 ⟨PB,2,none⟩ (.slice (some ⟨g,0,none⟩) (n+1) cap) Bx (Ne.symm nX)).trans kX
 refine ⟨⟨by rw[Lib.cell_of_heap kT];rfl,by rw[Lib.cell_of_heap kX];rfl,by rw[Lib.cell_of_heap kX];rfl⟩,by rw[Lib.cell_of_heap kP];rfl,Lib.frozen_of_heap kP 2,
  ⟨by rw[Lib.cell_of_heap fT];rfl,by rw[Lib.cell_of_heap fX];rfl,by rw[Lib.cell_of_heap fX];rfl⟩,?_,by rw[KeepB,fG,i6],⟨_,?_,ownsRow_setCell_other ho (fun e=>qYYy ho kP ce e.symm) _⟩,fT,fR,fG,?_⟩
 ·refine ⟨?_,fun k o _ hk hoc=>?_⟩
  ·have h1:=hV1.size
   have h2:=hg.size
   simp only[World.size_alloc] at h2
   simp only[World.setCell,Array.size_modify]
   omega
  ·rw[Below.heap_setCell _ _ _ _ (fun e=>by rw[show k=PB from e,i1] at hk;cases hk;simp[Obj.isCells] at hoc)]
   exact keep k o hk (jlft i2 hk hoc)
 ·have:=heap_setCell_same w1 PB 2 _ _ (.slice (some ⟨g,0,none⟩) (n+1) cap) kP
  rw[this];rfl
 ·have hs:=hV1.size
  exact ((((i5.trans (hV1.mono i5.size)).alloc (by have:=i5.size;omega) _).grown hg (by have:=i5.size;simp;omega) (fun j hj=>Nat.le_trans hbase (i2.lt j hj).1))).setCell (p:=⟨PB,2,none⟩) hPw _
theorem X0Wz {W':World} {Br:Nat} {ct:TypeId} {a b c:Value} (i4:W'.heap[Br]?=some (.cells #[a,b,c] ct (0,0))) (x y z:Value) (w:World) (hBr:w.heap.size≤Br) (i5:Below w.heap.size w W') :
  (((W'.setCell ⟨Br,0,none⟩ x).setCell ⟨Br,1,none⟩ y).setCell ⟨Br,2,none⟩ z).heap[Br]?=some (.cells #[x,y,z] ct (0,0))∧(∀k,k≠Br→(((W'.setCell ⟨Br,0,none⟩ x).setCell ⟨Br,1,none⟩ y).setCell ⟨Br,2,none⟩ z).heap[k]?=W'.heap[k]?) ∧
   (((W'.setCell ⟨Br,0,none⟩ x).setCell ⟨Br,1,none⟩ y).setCell ⟨Br,2,none⟩ z).heap.size=W'.heap.size∧Below w.heap.size w (((W'.setCell ⟨Br,0,none⟩ x).setCell ⟨Br,1,none⟩ y).setCell ⟨Br,2,none⟩ z):=by
 refine ⟨?_,fun k hk=>?_,by simp[World.setCell],((i5.setCell (p:=⟨Br,0,none⟩) hBr _).setCell (p:=⟨Br,1,none⟩) hBr _).setCell (p:=⟨Br,2,none⟩) hBr _⟩
 ·have h1:=heap_setCell_same W' Br 0 _ _ x i4
  have h2:=heap_setCell_same _ Br 1 _ _ y h1
  have h3:=heap_setCell_same _ Br 2 _ _ z h2
  rw[h3];rfl
 ·rw[Below.heap_setCell _ _ _ _ hk,Below.heap_setCell _ _ _ _ hk,Below.heap_setCell _ _ _ _ hk]
theorem jNsf {W' X:World} {Br:Nat} (h:∀k,k≠Br→X.heap[k]?=W'.heap[k]?) {base:Nat} {et:TypeId} {sz:Nat} {v:Value} {n:Nat} {xs:List Value} (hne:some Br≠v.ownBlock) (ho:W'.ownsRow base et sz v n xs):X.ownsRow base et sz v n xs:=by
 refine ⟨ho.1,?_⟩
 rcases ho.2 with ho|⟨g,cap,cur,hv,hg,hh,r⟩
 ·exact .inl ho
 ·refine .inr ⟨g,cap,cur,hv,hg,?_,r⟩
  rw[h g (fun e=>hne (by rw[hv,e];rfl))];exact hh
end Go.Proofs.YtfjeonehdlphiaaGreatDoor

namespace Go.Proofs.YtfjeonehdlphiaaGreatDoor
open Go.RowKit Go.Shelf
attribute [local go_sem] Oper.semAt_some
set_option maxRecDepth 100000 in
set_option maxHeartbeats 1000000 in
theorem XMhx (W H N:Nat) (hW:W≤64) (hH:H≤64) (hNHW:N=H*W) (tf:Nat) (caps:Array Value) (T:Nat→Int×Int×Int) (w:World) (eg:∀args w,(callFunc tf args).run Tryz.prog w=.ok (.enter tf args) w)
    (htell:∀(j:Nat) (V:World),j<N→Below w.heap.size w V→Calls Tryz.prog tf (#[.agg #[.int .i64 (j % W:Nat),.int .i64 (j / W:Nat)]]++caps) V fun e V'=>e=.returned (pixV (T j))∧Below V.heap.size V V') :
    Calls Tryz.prog 40 #[.agg #[.int .i64 W,.int .i64 H],.func (.func tf) #[] caps] w fun e w'=>∃r,e=.returned (.agg #[.int .i64 W,.int .i64 H,r])∧IsPix w' r ((List.range N).map T)∧Below w.heap.size w w'∧Fresh w.heap.size r:=by
  obtain ⟨i0,hi,hz0,hz1,hz2⟩:=info_parts Tryz.infoPixel
  refine (callsIn_wide (n:=3)).1 ?_
  refine callsIn_of_wp_marks Tryz.func40 rfl trivial ?_ rfl
  simp only[Tryz.ntmps40,List.size_toArray,List.length_cons,List.length_nil,Nat.reduceAdd,Nat.reduceSub,Array.replicate_succ,Array.replicate_zero,List.push_toArray,List.append_toArray,List.nil_append,List.cons_append]
  gi_wp2_with fail
  refine wpIn_wide.2 ?_
  have hN:N=W*H:=by rw[hNHW,Nat.mul_comm]
  have HNHW:=hide hNHW
  clear hNHW
  have hNi:(W:Int)*(H:Int)=(N:Int):=by rw[hN];simp
  have hNb:N≤4096:=by rw[hN];exact Nat.le_trans (Nat.mul_le_mul hW hH) (by decide)
  have hmk:∀V:World,(Instr.makeSlice 22 (.int .i64 0) (.int .i64 N)).run Tryz.prog V=.ok (.slice (some ⟨V.heap.size,0,none⟩) 0 N) (V.alloc (.cells (madeCells #[.int .i64 0,.int .i64 0,.int .i64 0] (N*3)) 61)):=fun V=>by
    have h:=run_make (P:=Tryz.prog) V 22 61 i0 pixZ Tryz.underlying22 hi hz0 .i64 .i64 0 N (Int.le_refl _) (by omega) (by rw[hz2];omega) (by omega)
    rw[hz1] at h
    simpa [pixZ,Value.cells] using h
  have hwN:IntKind.i64.wrap ((W:Int)*(H:Int))=(N:Int):=by rw[hNi];exact IntWalk.i64_in _ (by omega)
  have hwM:IntKind.i64.wrap (N:Int)=(N:Int):=IntWalk.i64_in _ (by omega)
  have HN:=hide hN
  clear hN
  have hB3:=quJN (quJN (qUNz w (Obj.cells #[.int .i64 W,.int .i64 H] 95)) (qUNz _ (Obj.cells #[.func (.func tf) #[] caps] 99))) (qUNz _ (Obj.cells #[.int .i64 0,.int .i64 0,.slice none 0 0] 24))
  have g0:(((w.alloc (Obj.cells #[.int .i64 W,.int .i64 H] 95)).alloc (Obj.cells #[.func (.func tf) #[] caps] 99)).alloc (Obj.cells #[.int .i64 0,.int .i64 0,.slice none 0 0] 24)).heap[w.heap.size]?=some (.cells #[.int .i64 W,.int .i64 H] 95 (0,0)):=by
    rw[Below.heap_alloc _ _ _ (by simp;omega),Below.heap_alloc _ _ _ (by simp)];exact heap_alloc_new w _
  have g1:(((w.alloc (Obj.cells #[.int .i64 W,.int .i64 H] 95)).alloc (Obj.cells #[.func (.func tf) #[] caps] 99)).alloc (Obj.cells #[.int .i64 0,.int .i64 0,.slice none 0 0] 24)).heap[w.heap.size+1]?=some (.cells #[.func (.func tf) #[] caps] 99 (0,0)):=by
    rw[Below.heap_alloc _ _ _ (by simp)]
    have h:=heap_alloc_new (w.alloc (Obj.cells #[.int .i64 W,.int .i64 H] 95)) (Obj.cells #[.func (.func tf) #[] caps] 99)
    rw[World.size_alloc] at h;exact h
  have g2:(((w.alloc (Obj.cells #[.int .i64 W,.int .i64 H] 95)).alloc (Obj.cells #[.func (.func tf) #[] caps] 99)).alloc (Obj.cells #[.int .i64 0,.int .i64 0,.slice none 0 0] 24)).heap[w.heap.size+2]?=some (.cells #[.int .i64 0,.int .i64 0,.slice none 0 0] 24 (0,0)):=by
    have h:=heap_alloc_new ((w.alloc (Obj.cells #[.int .i64 W,.int .i64 H] 95)).alloc (Obj.cells #[.func (.func tf) #[] caps] 99)) (Obj.cells #[.int .i64 0,.int .i64 0,.slice none 0 0] 24)
    rw[World.size_alloc,World.size_alloc] at h;exact h
  have hs3:(((w.alloc (Obj.cells #[.int .i64 W,.int .i64 H] 95)).alloc (Obj.cells #[.func (.func tf) #[] caps] 99)).alloc (Obj.cells #[.int .i64 0,.int .i64 0,.slice none 0 0] 24)).heap.size=w.heap.size+3:=by simp
  generalize ((w.alloc (Obj.cells #[.int .i64 W,.int .i64 H] 95)).alloc (Obj.cells #[.func (.func tf) #[] caps] 99)).alloc (Obj.cells #[.int .i64 0,.int .i64 0,.slice none 0 0] 24)=W3 at *
  have k0:W3.cell? ⟨w.heap.size,0,none⟩=some (.int .i64 W):=by rw[Lib.cell_of_heap g0];rfl
  have k1:W3.cell? ⟨w.heap.size,1,none⟩=some (.int .i64 H):=by rw[Lib.cell_of_heap g0];rfl
  have HS:=hide (show ∀w',Below W3.heap.size W3 w'→w'.cell? ⟨w.heap.size,0,none⟩=some (.int .i64 W)∧w'.cell? ⟨w.heap.size,1,none⟩=some (.int .i64 H) from fun w' h =>
    ⟨(h.cell (p:=⟨w.heap.size,0,none⟩) (by show w.heap.size<_;omega)).trans k0,(h.cell (p:=⟨w.heap.size,1,none⟩) (by show w.heap.size<_;omega)).trans k1⟩)
  have hdrew:Below W3.heap.size W3 W3.drew:=(Below.refl _ _).drew
  have HMK:=hide hmk
  go_region_held3 (fun w'=>w'.cell? ⟨w.heap.size,0,none⟩=some (.int .i64 W)∧w'.cell? ⟨w.heap.size,1,none⟩=some (.int .i64 H))
    (first|(refine HS.out _ ?_;assumption)|(refine HS.out _ ?_;exact quJN (by assumption) (qUNz _ _))|go_keep)
    (fail)
  all_goals first
    | (show Exit.then _ _ _ _ ((W3.alloc (Obj.cells (madeCells #[.int .i64 0,.int .i64 0,.int .i64 0] (N*3)) 61)).alloc (Obj.cells #[.int .i64 W,.int .i64 H,.slice (some ⟨w.heap.size+3,0,none⟩) 0 N] 24)).drew
       have hVb:Below W3.heap.size W3 ((W3.alloc (Obj.cells (madeCells #[.int .i64 0,.int .i64 0,.int .i64 0] (N*3)) 61)).alloc (Obj.cells #[.int .i64 W,.int .i64 H,.slice (some ⟨w.heap.size+3,0,none⟩) 0 N] 24)).drew:=XpIb (quJN (qUNz _ _) (qUNz _ _))
       have vP:((W3.alloc (Obj.cells (madeCells #[.int .i64 0,.int .i64 0,.int .i64 0] (N*3)) 61)).alloc (Obj.cells #[.int .i64 W,.int .i64 H,.slice (some ⟨w.heap.size+3,0,none⟩) 0 N] 24)).drew.heap[w.heap.size+3+1]?=some (.cells #[.int .i64 W,.int .i64 H,.slice (some ⟨w.heap.size+3,0,none⟩) 0 N] 24 (0,0)):=by
         have h:=heap_alloc_new (W3.alloc (Obj.cells (madeCells #[.int .i64 0,.int .i64 0,.int .i64 0] (N*3)) 61)) (Obj.cells #[.int .i64 W,.int .i64 H,.slice (some ⟨w.heap.size+3,0,none⟩) 0 N] 24)
         rw[World.size_alloc,hs3] at h;exact h
       have vS:((W3.alloc (Obj.cells (madeCells #[.int .i64 0,.int .i64 0,.int .i64 0] (N*3)) 61)).alloc (Obj.cells #[.int .i64 W,.int .i64 H,.slice (some ⟨w.heap.size+3,0,none⟩) 0 N] 24)).drew.ownsRow w.heap.size 61 3 (.slice (some ⟨w.heap.size+3,0,none⟩) 0 N) 0 []:=by
         have h:=(World.ownsRow_made (base:=w.heap.size) (e:=61) (size:=3) W3 (madeCells #[.int .i64 0,.int .i64 0,.int .i64 0] (N*3)) N (by omega) (by unfold maxLen;omega) (by simp[madeCells])).alloc (Obj.cells #[.int .i64 W,.int .i64 H,.slice (some ⟨w.heap.size+3,0,none⟩) 0 N] 24)
         rw[hs3] at h;exact h
       have hPB:w.heap.size+2<w.heap.size+3+1:=by omega
       generalize ((W3.alloc (Obj.cells (madeCells #[.int .i64 0,.int .i64 0,.int .i64 0] (N*3)) 61)).alloc (Obj.cells #[.int .i64 W,.int .i64 H,.slice (some ⟨w.heap.size+3,0,none⟩) 0 N] 24)).drew=V at *
       generalize w.heap.size+3+1=PB at hPB vP ⊢
       generalize hSB:Value.slice (some ⟨w.heap.size+3,0,none⟩) 0 N=SV at *
       clear hSB)
    | (have hVb:Below W3.heap.size W3 ((W3.alloc (Obj.cells #[.int .i64 W,.int .i64 H,.slice (some ⟨w.heap.size+3+1,0,none⟩) 0 N] 24)).alloc (Obj.cells (madeCells #[.int .i64 0,.int .i64 0,.int .i64 0] (N*3)) 61)).drew:=XpIb (quJN (qUNz _ _) (qUNz _ _))
       have vP:((W3.alloc (Obj.cells #[.int .i64 W,.int .i64 H,.slice (some ⟨w.heap.size+3+1,0,none⟩) 0 N] 24)).alloc (Obj.cells (madeCells #[.int .i64 0,.int .i64 0,.int .i64 0] (N*3)) 61)).drew.heap[w.heap.size+3]?=some (.cells #[.int .i64 W,.int .i64 H,.slice (some ⟨w.heap.size+3+1,0,none⟩) 0 N] 24 (0,0)):=by
         have h:=heap_alloc_new W3 (Obj.cells #[.int .i64 W,.int .i64 H,.slice (some ⟨w.heap.size+3+1,0,none⟩) 0 N] 24)
         rw[hs3] at h
         exact (Below.heap_alloc _ _ _ (by simp;omega)).trans h
       have vS:((W3.alloc (Obj.cells #[.int .i64 W,.int .i64 H,.slice (some ⟨w.heap.size+3+1,0,none⟩) 0 N] 24)).alloc (Obj.cells (madeCells #[.int .i64 0,.int .i64 0,.int .i64 0] (N*3)) 61)).drew.ownsRow w.heap.size 61 3 (.slice (some ⟨w.heap.size+3+1,0,none⟩) 0 N) 0 []:=by
         have h:=World.ownsRow_made (base:=w.heap.size) (e:=61) (size:=3) (W3.alloc (Obj.cells #[.int .i64 W,.int .i64 H,.slice (some ⟨w.heap.size+3+1,0,none⟩) 0 N] 24)) (madeCells #[.int .i64 0,.int .i64 0,.int .i64 0] (N*3)) N (by simp;omega) (by unfold maxLen;omega) (by simp[madeCells])
         rw[World.size_alloc,hs3] at h;exact h
       have hPB:w.heap.size+2<w.heap.size+3:=by omega
       generalize ((W3.alloc (Obj.cells #[.int .i64 W,.int .i64 H,.slice (some ⟨w.heap.size+3+1,0,none⟩) 0 N] 24)).alloc (Obj.cells (madeCells #[.int .i64 0,.int .i64 0,.int .i64 0] (N*3)) 61)).drew=V at *
       generalize hSB:Value.slice (some ⟨w.heap.size+3+1,0,none⟩) 0 N=SV at *
       clear hSB
       generalize w.heap.size+3=PB at hPB vP ⊢)
  all_goals
    have k0:=(hVb.cell (p:=⟨w.heap.size,0,none⟩) (by show w.heap.size<_;omega)).trans k0
    have k1:=(hVb.cell (p:=⟨w.heap.size,1,none⟩) (by show w.heap.size<_;omega)).trans k1
    gi_wp2_with fail
    refine ⟨trivial,?_⟩
    refine (jIfE Fence.wide _ trivial rfl _ _ _).mono ?_
    rintro e w' ⟨rfl,rfl⟩
    gi_wp2_with fail
    have hsV:=hVb.size
    have hlP:=(Array.getElem?_eq_some_iff.1 vP).1
    have n0:=heap_alloc_new V (Obj.cells #[.int .i64 W,.int .i64 H] 95)
    have hs0:(V.alloc (Obj.cells #[.int .i64 W,.int .i64 H] 95)).heap.size=V.heap.size+1:=by simp
    have hB0:Below w.heap.size w (V.alloc (Obj.cells #[.int .i64 W,.int .i64 H] 95)):=quJN (quJN hB3 hVb) (qUNz _ _)
    have j0:(V.alloc (Obj.cells #[.int .i64 W,.int .i64 H] 95)).heap[PB]?=some (.cells #[.int .i64 W,.int .i64 H,SV] 24 (0,0)):=(Below.heap_alloc _ _ _ hlP).trans vP
    have j1:=vS.alloc (Obj.cells #[.int .i64 W,.int .i64 H] 95)
    have j2:(V.alloc (Obj.cells #[.int .i64 W,.int .i64 H] 95)).heap[w.heap.size+1]?=some (.cells #[.func (.func tf) #[] caps] 99 (0,0)):=by
      rw[Below.heap_alloc _ _ _ (by omega),hVb.block _ (by omega)];exact g1
    have j3:(V.alloc (Obj.cells #[.int .i64 W,.int .i64 H] 95)).heap[w.heap.size+2]?=some (.cells #[.int .i64 0,.int .i64 0,.slice none 0 0] 24 (0,0)):=by
      rw[Below.heap_alloc _ _ _ (by omega),hVb.block _ (by omega)];exact g2
    generalize V.alloc (Obj.cells #[.int .i64 W,.int .i64 H] 95)=W0 at *
    refine wpIn_rangeFunc_ownH (α:=Fin N) rfl (show 1≤3 by omega) (gf:=154) (lb:=#[.pointer (some ⟨V.heap.size,0,none⟩)]) rfl trivial (enters_of Tryz.func154 (by kernel_rfl) rfl)
      (joPr Fence.wide (3-1) trivial rfl (by omega) V.heap.size W H N hW hH HNHW.out W0 (by omega) (by rw[Lib.cell_of_heap n0];rfl) (by rw[Lib.cell_of_heap n0];rfl)) (fun {A B C} h k=>h.trans' k) (fun X l o o' hl _ _ _=>qMCQ (by omega)) (Below.refl _ _) (fun _=>rfl)
      (fun pre W'=>(∃v,W'.heap[PB]?=some (.cells #[.int .i64 W,.int .i64 H,v] 24 (0,0))∧W'.ownsRow w.heap.size 61 3 v pre.length ((pre.map fun (j:Fin N)=>T j.1).flatMap pixL))∧W'.heap[w.heap.size+1]?=some (.cells #[.func (.func tf) #[] caps] 99 (0,0))∧W'.heap[w.heap.size+2]?=some (.cells #[.int .i64 0,.int .i64 0,.slice none 0 0] 24 (0,0))∧W'.heap[V.heap.size]?=some (.cells #[.int .i64 W,.int .i64 H] 95 (0,0))∧Below w.heap.size w W')
      (fun _ _ _=>False)
      (fun s X Y row ⟨⟨v,a1,a2⟩,a3,a4,a6,a5⟩ hg hr=>⟨⟨v,qLYA hg hr a1,jg0p hg hr a2⟩,qLYA hg hr a3,qLYA hg hr a4,qLYA hg hr a6,ownFrom_below (β:=Unit) (Nat.le_refl _) (by omega) () X Y row a5 hg hr⟩)
      (fun _ _ _ _ _ hs _ _=>hs)
      ⟨⟨_,j0,j1⟩,j2,j3,n0,hB0⟩
      (fun x a' W'=>∃Bx,W0.heap.size≤Bx∧W'.heap[Bx]?=some (.cells #[.int .i64 (x.1 % W:Nat),.int .i64 (x.1 / W:Nat)] 97 (0,0))∧a'={ tmps:=#[.agg #[.int .i64 W,.int .i64 H],.func (.func tf) #[] caps,.pointer (some ⟨w.heap.size,0,none⟩),.pointer (some ⟨w.heap.size+1,0,none⟩),.pointer (some ⟨w.heap.size+1+1,0,none⟩),.pointer (some ⟨PB,0,none⟩),.pointer (some ⟨Bx,0,none⟩),.pointer (some ⟨w.heap.size,0,none⟩),.int .i64 W,.pointer (some ⟨w.heap.size,1,none⟩),.int .i64 H,.pointer (some ⟨w.heap.size,0,none⟩),.int .i64 W,.pointer (some ⟨w.heap.size,1,none⟩),.int .i64 H,.int .i64 N,SV,.agg #[.int .i64 W,.int .i64 H,SV],.agg #[.int .i64 W,.int .i64 H],.func (.func 154) #[] #[.pointer (some ⟨V.heap.size,0,none⟩)],.agg #[.int .i64 (x.1 % W:Nat),.int .i64 (x.1 / W:Nat)],undef,undef,undef,undef,undef,undef,undef,undef,undef],defers:=[] })
      (fun x a' _ X Y row ⟨Bx,b1,b2,b3⟩ hg hr=>⟨Bx,b1,qLYA hg hr b2,b3⟩)
      ?assign ?body ?done ?stop
    case assign =>
      rintro l pre x W' K ⟨⟨v,i1,i2⟩,i3,i4,i6,i5⟩ hK
      have hl1:=(Array.getElem?_eq_some_iff.1 i1).1
      have hl3:=(Array.getElem?_eq_some_iff.1 i3).1
      have hl4:=(Array.getElem?_eq_some_iff.1 i4).1
      have hl6:=(Array.getElem?_eq_some_iff.1 i6).1
      gi_wp2
      exact hK _ _ ((KeepsOthers.alloc _ _).from _) (Below.heap_alloc _ _ _ hl6) ⟨⟨v,(Below.heap_alloc _ _ _ hl1).trans i1,i2.alloc _⟩,(Below.heap_alloc _ _ _ hl3).trans i3,(Below.heap_alloc _ _ _ hl4).trans i4,(Below.heap_alloc _ _ _ hl6).trans i6,i5.alloc i5.size _⟩ ⟨W'.heap.size,by omega,heap_alloc_new W' _,rfl⟩
    case body =>
      rintro l pre x a' W' hl ⟨r,hr⟩ ⟨⟨sv,i1,i2⟩,i3,i4,i6,i5⟩ ⟨Bx,hBx,bX,rfl⟩ hlt
      obtain ⟨so,scap,rfl⟩:=XPKi i2
      have p2:W'.cell? ⟨PB,2,none⟩=some (.slice so pre.length scap):=by rw[Lib.cell_of_heap i1];rfl
      have t0:W'.cell? ⟨w.heap.size+1,0,none⟩=some (.func (.func tf) #[] caps):=by rw[Lib.cell_of_heap i3];rfl
      have x0:W'.cell? ⟨Bx,0,none⟩=some (.int .i64 (x.1 % W:Nat)):=by rw[Lib.cell_of_heap bX];rfl
      have x1:W'.cell? ⟨Bx,1,none⟩=some (.int .i64 (x.1 / W:Nat)):=by rw[Lib.cell_of_heap bX];rfl
      have hmx:Tryz.prog.follows .mixedOrders=true:=by kernel_rfl
      have hlP:=(Array.getElem?_eq_some_iff.1 i1).1
      have hlT:=(Array.getElem?_eq_some_iff.1 i3).1
      have hlX:=(Array.getElem?_eq_some_iff.1 bX).1
      have hbW:w.heap.size≤W'.heap.size:=by omega
      have HL1:=hide (show pre.length+1≤maxLen by unfold maxLen;omega)
      have HL2:=hide (show (pre.length+1)*24≤140737488355328 by omega)
      have HS:=hide (show ∀v,Below W'.heap.size W' v→v.cell? ⟨w.heap.size+1,0,none⟩=some (.func (.func tf) #[] caps)∧v.cell? ⟨Bx,0,none⟩=some (.int .i64 (x.1 % W:Nat))∧v.cell? ⟨Bx,1,none⟩=some (.int .i64 (x.1 / W:Nat)) from fun v h =>
        ⟨(h.cell (p:=⟨w.heap.size+1,0,none⟩) hlT).trans t0,(h.cell (p:=⟨Bx,0,none⟩) hlX).trans x0,(h.cell (p:=⟨Bx,1,none⟩) hlX).trans x1⟩)
      have HP2:=hide (show ∀v,Below W'.heap.size W' v→v.cell? ⟨PB,2,none⟩=some (.slice so pre.length scap) from fun v h=>(h.cell (p:=⟨PB,2,none⟩) hlP).trans p2)
      have HTL:=hide (fun (V1:World) (g cap:Nat) (w1:World) (h1:Below W'.heap.size W' V1) (h2:(V1.alloc (Obj.cells (pixA (T x.1)) 61)).grownBy w1 (Value.slice so pre.length scap).ownBlock) (h3:w1.ownsRow (w.heap.size) 61 3 (.slice (some ⟨g,0,none⟩) (pre.length+1) cap) (pre.length+1) ((pre.map fun (j:Fin N)=>T j.1).flatMap pixL++pixL (T x.1)))=>XXqf (es:=(pixA (T x.1))) (by decide) (by decide) (by decide) (by decide) (by decide) (by decide) (by decide) (B0:=W0.heap.size) (PB:=PB) i1 i2 i3 i4 i6 bX i5 (by omega) (by omega) (by omega) h1 h2 h3)
      have hWd:Below W'.heap.size W' W'.drew:=(Below.refl _ _).drew
      have HT:=hide (htell x.1 W'.drew x.2 i5.drew)
      gi_wp2_with fail
      have hSd:=HS.out _ hWd
      have p2:=HP2.out _ hWd
      refine jNnL (S:=fun v:World=>v.cell? ⟨w.heap.size+1,0,none⟩=some (.func (.func tf) #[] caps)∧v.cell? ⟨Bx,0,none⟩=some (.int .i64 (x.1 % W:Nat))∧v.cell? ⟨Bx,1,none⟩=some (.int .i64 (x.1 / W:Nat))) hmx ?nd ?no ?_
      case nd=>exact qU4N (by kernel_rfl)
      case no=>rintro ⟨_,_,h⟩;exact h
      show wpAnyH _ _ _ _ _ 9 _ _ W'.drew
      refine wpAnyH_take (i:=0) (oi:=_) (v:=.pointer (some ⟨PB,2,none⟩)) rfl (by kernel_rfl) (by kernel_rfl) (by kernel_rfl) (fun _ _ _ h=>h) (Or.inl ⟨by rfl,fun v hSv=>by obtain ⟨s2,s3,s4⟩:=hSv;go_simp⟩) hSd ?_
      simp only[Act.put]
      refine wpAnyH_take (i:=2) (oi:=_) (v:=.func (.func tf) #[] caps) rfl (by kernel_rfl) (by kernel_rfl) (by kernel_rfl) (fun _ _ _ h=>h) (Or.inl ⟨by rfl,fun v hSv=>by obtain ⟨s2,s3,s4⟩:=hSv;go_simp⟩) hSd ?_
      simp only[Act.put]
      refine wpAnyH_take (i:=3) (oi:=_) (v:=.agg #[.int .i64 (x.1 % W:Nat),.int .i64 (x.1 / W:Nat)]) rfl (by kernel_rfl) (by kernel_rfl) (by kernel_rfl) (fun _ _ _ h=>h) (Or.inl ⟨by rfl,fun v hSv=>by obtain ⟨s2,s3,s4⟩:=hSv;go_simp⟩) hSd ?_
      simp only[Act.put]
      refine wpAnyH_ready (rs:=[1,4]) (by kernel_rfl) (by simp) ?_
      refine AllReadyH.cons (o:=_) rfl (fun K hK=>?wA) (AllReadyH.cons (o:=_) rfl (fun K hK=>?wB) AllReadyH.nil)
      case wA =>
        rw[if_pos (by rfl)]
        go_simp
        refine hK.out _ _ hSd (fun _=>?_)
        clear hK
        refine wpAnyH_ready (rs:=[4]) (by kernel_rfl) (by simp) ?_
        refine AllReadyH.cons (o:=_) rfl (fun K hK=>?_) AllReadyH.nil
        rw[if_pos (by rfl)]
        go_simp
        refine HT.out.mono ?_
        rintro e V1 ⟨rfl,hb1⟩
        have hV1:Below W'.heap.size W' V1:=hWd.trans hb1
        have hSd:=HS.out _ hV1
        have p2:=HP2.out _ hV1
        refine hK.out _ _ hSd (fun _=>?_)
        clear hK
        refine wpAnyH_ready (rs:=[5]) (by kernel_rfl) (by simp) ?_
        refine AllReadyH.cons (o:=_) rfl (fun K hK=>?_) AllReadyH.nil
        rw[if_pos (by rfl)]
        go_simp
        have hV2:Below W'.heap.size W' (V1.alloc (Obj.cells (pixA (T x.1)) 61)):=hV1.trans ((qUNz _ _).mono hV1.size)
        have hSd:=HS.out _ hV2
        have p2:=HP2.out _ hV2
        refine hK.out _ _ hSd (fun _=>?_)
        clear hK
        have ho2:=((qw14 i2 hV1).alloc (Obj.cells (pixA (T x.1)) 61))
        refine wpAnyH_ready (rs:=[6]) (by kernel_rfl) (by simp) ?_
        refine AllReadyH.cons (o:=_) rfl (fun K hK=>?_) AllReadyH.nil
        refine step_append_lies _ rfl _ _ 22 rfl (w.heap.size) 61 i0 pixZ 3 24 Tryz.underlying22 hi hz0 hz1 hz2 rfl (by decide) (.slice so pre.length scap) pre.length ((pre.map fun (j:Fin N)=>T j.1).flatMap pixL) rfl ho2 ⟨V1.heap.size,0,none⟩ 1 1 (pixL (T x.1)) rfl rfl (World.news_of_block (heap_alloc_new V1 _)) (fun u hu=>by simp[pixL] at hu;rcases hu with rfl|rfl|rfl<;>rfl) Nat.one_pos HL1.out HL2.out (Nat.le_trans hbW hV2.size) _ rfl ?_
        intro g cap w1 hown hgrow hat hltg
        obtain ⟨hSd,p2,p2f,HFIN⟩:=HTL.out V1 g cap w1 hV1 hgrow hown
        refine hK.out _ _ hSd (fun _=>?_)
        clear hK
        refine wpAnyH_ready (rs:=[7]) (by kernel_rfl) (by simp) ?_
        refine AllReadyH.cons (o:=_) rfl (fun K hK=>?_) AllReadyH.nil
        rw[if_pos (by rfl)]
        go_simp
        refine hK.out _ _ hSd (fun _=>?_)
        clear hK
        refine wpAnyH_ready (rs:=[8]) (by kernel_rfl) (by simp) ?_
        refine AllReadyH.cons (o:=_) rfl (fun K hK=>?_) AllReadyH.nil
        rw[if_pos (by rfl)]
        go_simp
        refine hK.out _ _ HFIN.1 (fun _=>?_)
        clear hK
        refine wpAnyH_done (by kernel_rfl) ?_ _
        obtain ⟨_,f1,f2,⟨v,f3,f4⟩,f5,f6,f7,f8⟩:=HFIN
        exact ⟨f1,f2,⟨v,f3,by rw[List.length_append,List.map_append,List.flatMap_append];exact f4⟩,f5,f6,f7,f8⟩
      case wB =>
        rw[if_pos (by rfl)]
        go_simp
        refine HT.out.mono ?_
        rintro e V1 ⟨rfl,hb1⟩
        have hV1:Below W'.heap.size W' V1:=hWd.trans hb1
        have hSd:=HS.out _ hV1
        have p2:=HP2.out _ hV1
        refine hK.out _ _ hSd (fun _=>?_)
        clear hK
        refine wpAnyH_ready (rs:=[1,5]) (by kernel_rfl) (by simp) ?_
        refine AllReadyH.cons (o:=_) rfl (fun K hK=>?wC) (AllReadyH.cons (o:=_) rfl (fun K hK=>?wD) AllReadyH.nil)
        case wC =>
          rw[if_pos (by rfl)]
          go_simp
          refine hK.out _ _ hSd (fun _=>?_)
          clear hK
          refine wpAnyH_ready (rs:=[5]) (by kernel_rfl) (by simp) ?_
          refine AllReadyH.cons (o:=_) rfl (fun K hK=>?_) AllReadyH.nil
          rw[if_pos (by rfl)]
          go_simp
          have hV2:Below W'.heap.size W' (V1.alloc (Obj.cells (pixA (T x.1)) 61)):=hV1.trans ((qUNz _ _).mono hV1.size)
          have hSd:=HS.out _ hV2
          have p2:=HP2.out _ hV2
          refine hK.out _ _ hSd (fun _=>?_)
          clear hK
          have ho2:=((qw14 i2 hV1).alloc (Obj.cells (pixA (T x.1)) 61))
          refine wpAnyH_ready (rs:=[6]) (by kernel_rfl) (by simp) ?_
          refine AllReadyH.cons (o:=_) rfl (fun K hK=>?_) AllReadyH.nil
          refine step_append_lies _ rfl _ _ 22 rfl (w.heap.size) 61 i0 pixZ 3 24 Tryz.underlying22 hi hz0 hz1 hz2 rfl (by decide) (.slice so pre.length scap) pre.length ((pre.map fun (j:Fin N)=>T j.1).flatMap pixL) rfl ho2 ⟨V1.heap.size,0,none⟩ 1 1 (pixL (T x.1)) rfl rfl (World.news_of_block (heap_alloc_new V1 _)) (fun u hu=>by simp[pixL] at hu;rcases hu with rfl|rfl|rfl<;>rfl) Nat.one_pos HL1.out HL2.out (Nat.le_trans hbW hV2.size) _ rfl ?_
          intro g cap w1 hown hgrow hat hltg
          obtain ⟨hSd,p2,p2f,HFIN⟩:=HTL.out V1 g cap w1 hV1 hgrow hown
          refine hK.out _ _ hSd (fun _=>?_)
          clear hK
          refine wpAnyH_ready (rs:=[7]) (by kernel_rfl) (by simp) ?_
          refine AllReadyH.cons (o:=_) rfl (fun K hK=>?_) AllReadyH.nil
          rw[if_pos (by rfl)]
          go_simp
          refine hK.out _ _ hSd (fun _=>?_)
          clear hK
          refine wpAnyH_ready (rs:=[8]) (by kernel_rfl) (by simp) ?_
          refine AllReadyH.cons (o:=_) rfl (fun K hK=>?_) AllReadyH.nil
          rw[if_pos (by rfl)]
          go_simp
          refine hK.out _ _ HFIN.1 (fun _=>?_)
          clear hK
          refine wpAnyH_done (by kernel_rfl) ?_ _
          obtain ⟨_,f1,f2,⟨v,f3,f4⟩,f5,f6,f7,f8⟩:=HFIN
          exact ⟨f1,f2,⟨v,f3,by rw[List.length_append,List.map_append,List.flatMap_append];exact f4⟩,f5,f6,f7,f8⟩
        case wD =>
          rw[if_pos (by rfl)]
          go_simp
          have hV2:Below W'.heap.size W' (V1.alloc (Obj.cells (pixA (T x.1)) 61)):=hV1.trans ((qUNz _ _).mono hV1.size)
          have hSd:=HS.out _ hV2
          have p2:=HP2.out _ hV2
          refine hK.out _ _ hSd (fun _=>?_)
          clear hK
          refine wpAnyH_ready (rs:=[1]) (by kernel_rfl) (by simp) ?_
          refine AllReadyH.cons (o:=_) rfl (fun K hK=>?_) AllReadyH.nil
          rw[if_pos (by rfl)]
          go_simp
          refine hK.out _ _ hSd (fun _=>?_)
          clear hK
          have ho2:=((qw14 i2 hV1).alloc (Obj.cells (pixA (T x.1)) 61))
          refine wpAnyH_ready (rs:=[6]) (by kernel_rfl) (by simp) ?_
          refine AllReadyH.cons (o:=_) rfl (fun K hK=>?_) AllReadyH.nil
          refine step_append_lies _ rfl _ _ 22 rfl (w.heap.size) 61 i0 pixZ 3 24 Tryz.underlying22 hi hz0 hz1 hz2 rfl (by decide) (.slice so pre.length scap) pre.length ((pre.map fun (j:Fin N)=>T j.1).flatMap pixL) rfl ho2 ⟨V1.heap.size,0,none⟩ 1 1 (pixL (T x.1)) rfl rfl (World.news_of_block (heap_alloc_new V1 _)) (fun u hu=>by simp[pixL] at hu;rcases hu with rfl|rfl|rfl<;>rfl) Nat.one_pos HL1.out HL2.out (Nat.le_trans hbW hV2.size) _ rfl ?_
          intro g cap w1 hown hgrow hat hltg
          obtain ⟨hSd,p2,p2f,HFIN⟩:=HTL.out V1 g cap w1 hV1 hgrow hown
          refine hK.out _ _ hSd (fun _=>?_)
          clear hK
          refine wpAnyH_ready (rs:=[7]) (by kernel_rfl) (by simp) ?_
          refine AllReadyH.cons (o:=_) rfl (fun K hK=>?_) AllReadyH.nil
          rw[if_pos (by rfl)]
          go_simp
          refine hK.out _ _ hSd (fun _=>?_)
          clear hK
          refine wpAnyH_ready (rs:=[8]) (by kernel_rfl) (by simp) ?_
          refine AllReadyH.cons (o:=_) rfl (fun K hK=>?_) AllReadyH.nil
          rw[if_pos (by rfl)]
          go_simp
          refine hK.out _ _ HFIN.1 (fun _=>?_)
          clear hK
          refine wpAnyH_done (by kernel_rfl) ?_ _
          obtain ⟨_,f1,f2,⟨v,f3,f4⟩,f5,f6,f7,f8⟩:=HFIN
          exact ⟨f1,f2,⟨v,f3,by rw[List.length_append,List.map_append,List.flatMap_append];exact f4⟩,f5,f6,f7,f8⟩
    case done =>
      rintro D ys W' hD rfl ⟨⟨v,i1,i2⟩,i3,i4,i6,i5⟩ hK
      have p0:W'.cell? ⟨PB,0,none⟩=some (.int .i64 W):=by rw[Lib.cell_of_heap i1];rfl
      have p1:W'.cell? ⟨PB,1,none⟩=some (.int .i64 H):=by rw[Lib.cell_of_heap i1];rfl
      have p2:W'.cell? ⟨PB,2,none⟩=some v:=by rw[Lib.cell_of_heap i1];rfl
      have r0:W'.cell? ⟨w.heap.size+1+1,0,none⟩=some (.int .i64 0):=by rw[Lib.cell_of_heap i4];rfl
      have r1:W'.cell? ⟨w.heap.size+1+1,1,none⟩=some (.int .i64 0):=by rw[Lib.cell_of_heap i4];rfl
      have r2:W'.cell? ⟨w.heap.size+1+1,2,none⟩=some (.slice none 0 0):=by rw[Lib.cell_of_heap i4];rfl
      have f0:W'.frozen? ⟨w.heap.size+1+1,0,none⟩=false:=Lib.frozen_of_heap i4 0
      have f1:W'.frozen? ⟨w.heap.size+1+1,1,none⟩=false:=Lib.frozen_of_heap i4 1
      have f2:W'.frozen? ⟨w.heap.size+1+1,2,none⟩=false:=Lib.frozen_of_heap i4 2
      obtain ⟨ao,cap,rfl⟩:=XPKi i2
      gi_wp2
      obtain ⟨x1,x2,x3,x4⟩:=X0Wz i4 (.int .i64 W) (.int .i64 H) (.slice ao (List.finRange N).length cap) w (by omega) i5
      have i2':=jNsf x2 (qYYy i2 i4 (by decide)) i2
      have hDr:D≠w.heap.size+2:=fun e=>by rw[e,i4] at hK;cases hK
      replace hK:=(x2 D hDr).trans hK
      simp only[List.length_finRange] at x1 x2 x3 x4 i2' hK
      generalize ((W'.setCell ⟨w.heap.size+1+1,0,none⟩ (.int .i64 W)).setCell ⟨w.heap.size+1+1,1,none⟩ (.int .i64 H)).setCell ⟨w.heap.size+1+1,2,none⟩ (.slice ao N cap)=X at *
      refine ⟨by simp,.inl ⟨_,_,rfl,run_takeDeferred hK,?_⟩⟩
      have y1:=(World.putObj_heap_other (w:=X) (o:=.deferred none) (Ne.symm hDr)).trans x1
      have y2:=ownsRow_putObj i2' (.deferred none) hK rfl
      have y3:Below w.heap.size w (X.putObj D (.deferred none)):=x4.trans (belowK_b (w:=w) (Nat.le_refl _) X D _ _ (by omega) hK rfl rfl)
      have c0:(X.putObj D (.deferred none)).cell? ⟨w.heap.size+1+1,0,none⟩=some (.int .i64 W):=by rw[Lib.cell_of_heap y1];rfl
      have c1:(X.putObj D (.deferred none)).cell? ⟨w.heap.size+1+1,1,none⟩=some (.int .i64 H):=by rw[Lib.cell_of_heap y1];rfl
      have c2:(X.putObj D (.deferred none)).cell? ⟨w.heap.size+1+1,2,none⟩=some (.slice ao N cap):=by rw[Lib.cell_of_heap y1];rfl
      generalize X.putObj D (.deferred none)=Z at *
      refine ⟨.agg #[.int .i64 W,.int .i64 H,.slice ao N cap],by simp[results,Tryz.results40,go_sem,c0,c1,c2],.slice ao N cap,rfl,?_,y3,Fresh.own (by simpa using y2)⟩
      rw[←zhtE N T]
      exact IsPix.own (base:=w.heap.size) (by simpa using y2) (by simp;omega)
    case stop=>rintro D c pre W' _ _ h _;exact h.elim
end Go.Proofs.YtfjeonehdlphiaaGreatDoor

namespace Go.Proofs.YtfjeonehdlphiaaGreatDoor
open Go.RowKit
def pxOk (p:Px):Bool:=allIn 0 65535 [p.1,p.2.1,p.2.2]
def pxsOk (ps:List Px):Bool:=ps.all pxOk
def picOk (W H:Int) (ps:List Px):Bool:=jcbm W H ps.length && pxsOk ps
theorem jS1c (ps:List Px) (p:Px):pxsOk (ps++[p])=(pxsOk ps && pxOk p):=by simp[pxsOk]
theorem zaZJ (ps:List Px) (k:Nat) (hk:k<ps.length) (h:pxOk ps[k]=false):pxsOk ps=false:=by
 rw[Bool.eq_false_iff];intro he
 have:=List.all_eq_true.1 he _ (List.getElem_mem hk)
 rw[h] at this;cases this
theorem X1aR (p:Px):pxOk p=true↔(0≤p.1∧p.1≤65535)∧(0≤p.2.1∧p.2.1≤65535)∧(0≤p.2.2∧p.2.2≤65535):=by simp[pxOk,allIn]
theorem XMjn {W H:Int} {ps:List Px} (h:picOk W H ps=true):(1≤W∧W≤64)∧(1≤H∧H≤64)∧(ps.length:Int)=W*H∧pxsOk ps=true:=by
 simp only[picOk,jcbm,jbTy,Bool.and_eq_true,decide_eq_true_eq] at h
 exact ⟨h.1.1.1,h.1.1.2,h.1.2,h.2⟩
theorem ints3 (w:World) (a b c:Int):jCvT (w.alloc (.cells #[.int .i64 a,.int .i64 b,.int .i64 c] 3)) (.slice (some ⟨w.heap.size,0,none⟩) 3 3) [a,b,c] :=
 jCvT.own (base:=w.heap.size) (World.ownsRow_lit w #[.int .i64 a,.int .i64 b,.int .i64 c] 3 (Nat.le_refl _) (by decide) (by simp)) (by simp)
set_option maxRecDepth 100000 in
set_option maxHeartbeats 800000 in
theorem XDTU (W H:Int) (v:Value) (ps:List Px) (w:World) (hv:IsPix w v ps) :
  Calls Tryz.prog 27 #[.agg #[.int .i64 W,.int .i64 H,v]] w fun e w'=>e=.returned (.bool (picOk W H ps))∧Below w.heap.size w w':=by
 have HV:=hide hv
 obtain ⟨ao,ca,rfl,hla,hc⟩:=hv
 by_cases h1:jcbm W H ps.length=true
 ·have HE:=hide (show pxsOk ps=picOk W H ps by rw[picOk,h1];rfl)
  have hpos:1≤ps.length:=by
   simp only[jcbm,jbTy,Bool.and_eq_true,decide_eq_true_eq] at h1
   have:=zAFj h1.1.1 h1.1.2
   omega
  obtain ⟨bk,off,hao,hbl,hcell⟩:∃b off,ao=some ⟨b,off,none⟩∧b<w.heap.size∧∀j (h:j<ps.length),
   w.cell? ⟨b,off+j*3,none⟩=some (.int .i64 ps[j].1)∧w.cell? ⟨b,off+j*3+1,none⟩=some (.int .i64 ps[j].2.1)∧w.cell? ⟨b,off+j*3+2,none⟩=some (.int .i64 ps[j].2.2):=by
   rcases hc with h|h
   ·subst h;simp at hpos
   ·exact h
  subst hao
  have HCELL:=hide hcell;clear hcell hc
  go_enter Tryz.func27,Tryz.ntmps27
  go_wp2_with fail
  refine (q58J _ _ _ _).mono ?_
  rintro e w1 ⟨rfl,hb1⟩
  rw[h1]
  have c2:=(pl3 hb1).2.2
  have hW:=quJN (qUNz w _) hb1
  clear hb1
  go_wp2_with fail
  go_loopw [17] (fun i wr=>∃k:Nat,k≤ps.length∧i=.int .i64 k∧Hid (pxsOk (ps.take k)=true)∧Below w.heap.size w wr) (fun i _=>ps.length-(intOf i).toNat)
  case atStart=>exact ⟨0,Nat.zero_le _,rfl,rfl,hW⟩
  case round =>
   clear c2 hW
   obtain ⟨k,hk,rfl,HA,hbel⟩:=hrel
   by_cases hlt:k<ps.length
   ·have hd:decide ((k:Int)<(ps.length:Int))=true:=by simp;omega
    have c0:=(hbel.cell (p:=⟨bk,off+k*3,none⟩) hbl).trans (HCELL.out k hlt).1
    have c1:=(hbel.cell (p:=⟨bk,off+k*3+1,none⟩) hbl).trans (HCELL.out k hlt).2.1
    have c2:=(hbel.cell (p:=⟨bk,off+k*3+2,none⟩) hbl).trans (HCELL.out k hlt).2.2
    go_wp2_with fail
    refine (qFis 0 65535 _ [ps[k].1,ps[k].2.1,ps[k].2.2] _ (by have:=ints3 (wr.alloc (Obj.cells #[.int .i64 ps[k].1,.int .i64 ps[k].2.1,.int .i64 ps[k].2.2] 61)) ps[k].1 ps[k].2.1 ps[k].2.2;rw[World.size_alloc] at this;exact this)).mono ?_
    rintro e w2 ⟨rfl,rfl⟩
    have hbel2:=(hbel.alloc hbel.size (Obj.cells #[.int .i64 ps[k].1,.int .i64 ps[k].2.1,.int .i64 ps[k].2.2] 61)).alloc (by have:=hbel.size;simp;omega) (Obj.cells #[.int .i64 ps[k].1,.int .i64 ps[k].2.1,.int .i64 ps[k].2.2] 3)
    change Hid _ at HA
    by_cases hx:pxOk ps[k]=true
    ·have HT:=hide (show pxsOk (ps.take (k+1))=true by rw[List.take_succ_eq_append_getElem hlt,jS1c,HA.out,hx];rfl)
     rw[show allIn 0 65535 [ps[k].1,ps[k].2.1,ps[k].2.2]=true from hx]
     clear hx
     go_wp2
     go_roundw
     case rel=>exact ⟨k+1,by omega,by go_num,HT,hbel2⟩
     case measure=>simp[intOf];omega
    ·have hx:pxOk ps[k]=false:=by simpa using hx
     have HX:=hide (show false=picOk W H ps by rw[←HE.out,zaZJ ps k hlt hx])
     rw[show allIn 0 65535 [ps[k].1,ps[k].2.1,ps[k].2.2]=false from hx]
     clear hx
     go_wp2
     go_ret
     exact ⟨j3Zs HX.out,hbel2⟩
   ·have hd:decide ((k:Int)<(ps.length:Int))=false:=by simp;omega
    have HX:=hide (show true=picOk W H ps by rw[←HE.out,←HA.out,List.take_of_length_le (by omega)])
    go_wp2
    go_ret
    exact ⟨j3Zs HX.out,hbel⟩
 ·have h1:jcbm W H ps.length=false:=by simpa using h1
  have HE:=hide (show false=picOk W H ps by rw[picOk,h1];rfl)
  go_enter Tryz.func27,Tryz.ntmps27
  go_wp2_with fail
  refine (q58J _ _ _ _).mono ?_
  rintro e w1 ⟨rfl,hb1⟩
  rw[h1]
  go_wp2
  go_ret
  exact ⟨j3Zs HE.out,quJN (qUNz _ _) hb1⟩
def XbQH (n:Int):Bool:=decide (0≤n∧n≤1024)
theorem Xfvu (n:Int) (w:World):Calls Tryz.prog 149 #[.int .i64 n] w fun e w'=>e=.returned (.bool (XbQH n))∧Below w.heap.size w w':=by
 have HS:=hide (show allIn 0 1024 [n]=XbQH n by simp[allIn,XbQH])
 go_enter Tryz.func149,Tryz.ntmps149
 go_wp2_with fail
 refine (qFis 0 1024 _ [n] _ (ints1 w n)).mono ?_
 rintro e w1 ⟨rfl,rfl⟩
 rw[HS.out]
 go_wp2
 go_ret
 exact ⟨rfl,qUNz _ _⟩
end Go.Proofs.YtfjeonehdlphiaaGreatDoor

namespace Go.Proofs.YtfjeonehdlphiaaGreatDoor
open Go.RowKit
def sameB (W1 H1:Int) (ps:List Px) (W2 H2:Int) (qs:List Px):Bool:=decide (W1=W2∧H1=H2∧ps=qs)
theorem box2 {w:World} {x y:Array Value} {t:TypeId} {w':World} (hb:Below ((w.alloc (.cells x t)).alloc (.cells y t)).heap.size ((w.alloc (.cells x t)).alloc (.cells y t)) w') :
  w'.heap[w.heap.size]?=some (.cells x t (0,0))∧w'.heap[w.heap.size+1]?=some (.cells y t (0,0)):=by
 constructor
 ·rw[hb.block _ (by simp;omega),Below.heap_alloc _ _ _ (by simp)];exact heap_alloc_new w _
 ·rw[hb.block _ (by simp)]
  have h:=heap_alloc_new (w.alloc (.cells x t)) (.cells y t)
  rw[World.size_alloc] at h;exact h
set_option maxRecDepth 100000 in
set_option maxHeartbeats 1600000 in
theorem XIqO (W1 H1:Int) (va:Value) (ps:List Px) (W2 H2:Int) (vb:Value) (qs:List Px) (w:World) (ha:IsPix w va ps) (hb:IsPix w vb qs) :
  Calls Tryz.prog 14 #[.agg #[.int .i64 W1,.int .i64 H1,va],.agg #[.int .i64 W2,.int .i64 H2,vb]] w fun e w'=>e=.returned (.bool (sameB W1 H1 ps W2 H2 qs))∧Below w.heap.size w w':=by
 obtain ⟨ao,ca,rfl,hla,ha⟩:=ha
 obtain ⟨bo,cb,rfl,hlb,hb⟩:=hb
 obtain ⟨R,hR⟩:∃R,sameB W1 H1 ps W2 H2 qs=R:=⟨_,rfl⟩
 rw[hR]
 have HR:=hide hR
 clear hR
 have HB:=hide (quJN (qUNz w (.cells #[.int .i64 W1,.int .i64 H1,.slice ao ps.length ca] 24)) (qUNz _ (.cells #[.int .i64 W2,.int .i64 H2,.slice bo qs.length cb] 24)))
 obtain ⟨k1,k2⟩:=box2 (w:=w) (x:=#[.int .i64 W1,.int .i64 H1,.slice ao ps.length ca]) (y:=#[.int .i64 W2,.int .i64 H2,.slice bo qs.length cb]) (t:=24) (Below.refl _ _)
 obtain ⟨e0,e1,e2⟩:=z5EY k1
 obtain ⟨f0,f1,f2⟩:=z5EY k2
 clear k1 k2
 by_cases hW:W1=W2
 ·subst hW
  have hWb:(W1 != W1)=false:=by simp
  by_cases hH:H1=H2
  ·subst hH
   have hHb:(H1 != H1)=false:=by simp
   have HR2:=hide (show R=decide (ps=qs) by rw[←HR.out,sameB];simp)
   clear HR
   by_cases hl:ps.length=qs.length
   ·have hlb2:((ps.length:Int) != (qs.length:Int))=false:=by simp[hl]
    by_cases h0:ps.length=0
    ·obtain rfl:=List.eq_nil_of_length_eq_zero h0
     obtain rfl:=List.eq_nil_of_length_eq_zero (hl.symm.trans h0)
     have HX:=hide (show true=R by rw[HR2.out];rfl)
     clear ha hb h0 hl hlb2
     go_enter Tryz.func14,Tryz.ntmps14
     go_wp2
     go_loop [5] (fun i=>i=.int .i64 0) (fun _=>0)
     case atStart=>rfl
     case round =>
      subst hrel
      go_wp2
      go_ret
      exact ⟨j3Zs HX.out,HB.out⟩
    ·obtain ⟨ba,oa,hao,hba,hca⟩:∃b off,ao=some ⟨b,off,none⟩∧b<w.heap.size∧∀j (h:j<ps.length),
       w.cell? ⟨b,off+j*3,none⟩=some (.int .i64 ps[j].1)∧w.cell? ⟨b,off+j*3+1,none⟩=some (.int .i64 ps[j].2.1)∧w.cell? ⟨b,off+j*3+2,none⟩=some (.int .i64 ps[j].2.2):=by
      rcases ha with h|h
      ·subst h;exact absurd rfl h0
      ·exact h
     obtain ⟨bb,ob,hbo,hbb,hcb⟩:∃b off,bo=some ⟨b,off,none⟩∧b<w.heap.size∧∀j (h:j<qs.length),
       w.cell? ⟨b,off+j*3,none⟩=some (.int .i64 qs[j].1)∧w.cell? ⟨b,off+j*3+1,none⟩=some (.int .i64 qs[j].2.1)∧w.cell? ⟨b,off+j*3+2,none⟩=some (.int .i64 qs[j].2.2):=by
      rcases hb with h|h
      ·subst h;exact absurd hl h0
      ·exact h
     subst hao
     subst hbo
     have HCA:=hide hca;clear hca ha
     have HCB:=hide hcb;clear hcb hb
     have HL:=hide hl;clear hl
     go_enter Tryz.func14,Tryz.ntmps14
     go_wp2_with fail
     generalize (w.alloc (.cells #[.int .i64 W1,.int .i64 H1,.slice (some ⟨ba,oa,none⟩) ps.length ca] 24)).alloc (.cells #[.int .i64 W1,.int .i64 H1,.slice (some ⟨bb,ob,none⟩) qs.length cb] 24)=W0 at *
     go_loopw [5] (fun i wr=>∃k:Nat,k≤ps.length∧i=.int .i64 k∧Hid (ps.take k=qs.take k)∧(∃n,wr=W0.drewN n)) (fun i _=>ps.length-(intOf i).toNat)
     case atStart=>exact ⟨0,Nat.zero_le _,rfl,rfl,0,rfl⟩
     case round =>
      obtain ⟨k,hk,rfl,HT,nn,rfl⟩:=hrel
      by_cases hlt:k<ps.length
      ·have hlt2:k<qs.length:=by have:=HL.out;omega
       have a0:=(HB.out.cell (p:=⟨ba,oa+k*3,none⟩) hba).trans (HCA.out k hlt).1
       have a1:=(HB.out.cell (p:=⟨ba,oa+k*3+1,none⟩) hba).trans (HCA.out k hlt).2.1
       have a2:=(HB.out.cell (p:=⟨ba,oa+k*3+2,none⟩) hba).trans (HCA.out k hlt).2.2
       have b0:=(HB.out.cell (p:=⟨bb,ob+k*3,none⟩) hbb).trans (HCB.out k hlt2).1
       have b1:=(HB.out.cell (p:=⟨bb,ob+k*3+1,none⟩) hbb).trans (HCB.out k hlt2).2.1
       have b2:=(HB.out.cell (p:=⟨bb,ob+k*3+2,none⟩) hbb).trans (HCB.out k hlt2).2.2
       have HTK:=hide (show ps[k]=qs[k]→ps.take (k+1)=qs.take (k+1) from fun he=>by
        rw[List.take_succ_eq_append_getElem hlt,List.take_succ_eq_append_getElem hlt2,HT.out,he])
       have HNE:=hide (show ¬ps[k]=qs[k]→false=R from fun he=>by
        rw[HR2.out];symm;simp only[decide_eq_false_iff_not];exact fun h=>he (by subst h;rfl))
       obtain ⟨⟨p1,p2,p3⟩,hp⟩:∃p,ps[k]=p:=⟨_,rfl⟩
       obtain ⟨⟨q1,q2,q3⟩,hq⟩:∃q,qs[k]=q:=⟨_,rfl⟩
       rw[hp] at a0 a1 a2
       rw[hq] at b0 b1 b2
       rw[hp,hq] at HTK HNE
       clear hp hq
       simp only at a0 a1 a2 b0 b1 b2
       by_cases h1:p1=q1
       ·by_cases h2:p2=q2
        ·by_cases h3:p3=q3
         ·subst h1;subst h2;subst h3
          have HT2:=hide (HTK.out rfl)
          clear HTK HNE
          go_wp2
          go_region
          go_wp2
          go_roundw
          case rel=>exact ⟨k+1,by omega,by go_num,HT2,nn+1,rfl⟩
          case measure=>simp[intOf];omega
         ·have HX:=hide (HNE.out (fun h=>h3 (by cases h;rfl)))
          subst h1;subst h2
          clear HTK HNE
          go_wp2
          go_region
          go_wp2
          go_ret
          exact ⟨j3Zs HX.out,below_drewN HB.out _⟩
        ·have HX:=hide (HNE.out (fun h=>h2 (by cases h;rfl)))
         subst h1
         clear HTK HNE
         go_wp2
         go_region
         go_wp2
         go_ret
         exact ⟨j3Zs HX.out,below_drewN HB.out _⟩
       ·have HX:=hide (HNE.out (fun h=>h1 (by cases h;rfl)))
        clear HTK HNE
        go_wp2
        go_region
        go_wp2
        go_ret
        exact ⟨j3Zs HX.out,below_drewN HB.out _⟩
      ·have HX:=hide (show true=R by
        have h:=HT.out
        rw[List.take_of_length_le (by omega),List.take_of_length_le (by have:=HL.out;omega)] at h
        rw[HR2.out];symm;simp[h])
       go_wp2
       go_ret
       exact ⟨j3Zs HX.out,below_drewN HB.out _⟩
   ·have HX:=hide (show false=R by rw[HR2.out];symm;simp only[decide_eq_false_iff_not];exact fun h=>hl (by rw[h]))
    have hlb2:((ps.length:Int) != (qs.length:Int))=true:=by simp;omega
    clear hl
    go_enter Tryz.func14,Tryz.ntmps14
    go_wp2
    go_ret
    exact ⟨j3Zs HX.out,HB.out⟩
  ·have HX:=hide (show false=R by rw[←HR.out,sameB];symm;simp[hH])
   have hHb:(H1 != H2)=true:=by simpa using hH
   clear hH
   go_enter Tryz.func14,Tryz.ntmps14
   go_wp2
   go_ret
   exact ⟨j3Zs HX.out,HB.out⟩
 ·have HX:=hide (show false=R by rw[←HR.out,sameB];symm;simp[hW])
  have hWb:(W1 != W2)=true:=by simpa using hW
  clear hW
  go_enter Tryz.func14,Tryz.ntmps14
  go_wp2
  go_ret
  exact ⟨j3Zs HX.out,HB.out⟩
end Go.Proofs.YtfjeonehdlphiaaGreatDoor

namespace Go.Proofs.YtfjeonehdlphiaaGreatDoor
open Go.RowKit
set_option maxRecDepth 100000 in
set_option maxHeartbeats 1600000 in
theorem XQLB (W H j bk off ca:Nat) (ps:List Px) (hj:j<ps.length) (h4096:ps.length≤4096) (tf:Nat) (caps:Array Value) (q:Px) (Bf Bq Bg:Nat) (V:World) (eg:∀args w,(callFunc tf args).run Tryz.prog w=.ok (.enter tf args) w)
  (hbk:bk<V.heap.size) (hBf:Bf<V.heap.size) (hBq:Bq<V.heap.size) (hBg:Bg<V.heap.size)
  (kf:V.cell? ⟨Bf,0,none⟩=some (.func (.func tf) #[] caps)) (kq:V.cell? ⟨Bq,2,none⟩=some (.slice (some ⟨bk,off,none⟩) ps.length ca)) (kg0:V.cell? ⟨Bg,0,none⟩=some (.int .i64 W)) (kg1:V.cell? ⟨Bg,1,none⟩=some (.int .i64 H))
  (c0:V.cell? ⟨bk,off+j*3,none⟩=some (.int .i64 ps[j].1)) (c1:V.cell? ⟨bk,off+j*3+1,none⟩=some (.int .i64 ps[j].2.1)) (c2:V.cell? ⟨bk,off+j*3+2,none⟩=some (.int .i64 ps[j].2.2))
  (hbe:∀U,Below V.heap.size V U→Calls Tryz.prog tf (#[pixV ps[j]]++caps) U fun e U'=>e=.returned (pixV q)∧Below U.heap.size U U') :
  Calls Tryz.prog 273 #[.agg #[.int .i64 (j % W:Nat),.int .i64 (j / W:Nat)],.pointer (some ⟨Bf,0,none⟩),.pointer (some ⟨Bq,0,none⟩),.pointer (some ⟨Bg,0,none⟩)] V fun e V'=>e=.returned (pixV q)∧Below V.heap.size V V':=by
 obtain ⟨X,hX⟩:∃X,j % W=X:=⟨_,rfl⟩
 obtain ⟨Y,hY⟩:∃Y,j / W=Y:=⟨_,rfl⟩
 have hk:Y*W+X=j:=by rw[←hX,←hY,Nat.mul_comm];exact Nat.div_add_mod j W
 rw[hX,hY]
 clear hX hY
 have HK:=hide hk
 clear hk
 obtain ⟨⟨r,g,u⟩,hp⟩:∃p,ps[j]=p:=⟨_,rfl⟩
 rw[hp] at c0 c1 c2 hbe
 simp only at c0 c1 c2
 clear hp
 obtain ⟨q0,q1,q2⟩:=q
 have HB1:=quJN (qUNz V (Obj.cells #[.int .i64 X,.int .i64 Y] 97)) (qUNz _ (Obj.cells #[.int .i64 0,.int .i64 0,.int .i64 0] 61))
 have n1:((V.alloc (Obj.cells #[.int .i64 X,.int .i64 Y] 97)).alloc (Obj.cells #[.int .i64 0,.int .i64 0,.int .i64 0] 61)).heap[V.heap.size]?=some (.cells #[.int .i64 X,.int .i64 Y] 97 (0,0)):=by
  rw[Below.heap_alloc _ _ _ (by simp)];exact heap_alloc_new V _
 have n2:((V.alloc (Obj.cells #[.int .i64 X,.int .i64 Y] 97)).alloc (Obj.cells #[.int .i64 0,.int .i64 0,.int .i64 0] 61)).heap[V.heap.size+1]?=some (.cells #[.int .i64 0,.int .i64 0,.int .i64 0] 61 (0,0)):=by
  have h:=heap_alloc_new (V.alloc (Obj.cells #[.int .i64 X,.int .i64 Y] 97)) (Obj.cells #[.int .i64 0,.int .i64 0,.int .i64 0] 61)
  rw[World.size_alloc] at h;exact h
 have hsU:((V.alloc (Obj.cells #[.int .i64 X,.int .i64 Y] 97)).alloc (Obj.cells #[.int .i64 0,.int .i64 0,.int .i64 0] 61)).heap.size=V.heap.size+2:=by simp
 go_enter Tryz.func273,Tryz.ntmps273
 go_wp2_with fail
 generalize (V.alloc (Obj.cells #[.int .i64 X,.int .i64 Y] 97)).alloc (Obj.cells #[.int .i64 0,.int .i64 0,.int .i64 0] 61)=U at *
 have HS:=hide (show ∀w',Below U.heap.size U w'→w'.cell? ⟨Bf,0,none⟩=some (.func (.func tf) #[] caps)∧w'.cell? ⟨Bq,2,none⟩=some (.slice (some ⟨bk,off,none⟩) ps.length ca)∧w'.cell? ⟨Bg,0,none⟩=some (.int .i64 W)∧w'.cell? ⟨Bg,1,none⟩=some (.int .i64 H) ∧
   w'.cell? ⟨bk,off+j*3,none⟩=some (.int .i64 r)∧w'.cell? ⟨bk,off+j*3+1,none⟩=some (.int .i64 g)∧w'.cell? ⟨bk,off+j*3+2,none⟩=some (.int .i64 u)∧w'.cell? ⟨V.heap.size,0,none⟩=some (.int .i64 X)∧w'.cell? ⟨V.heap.size,1,none⟩=some (.int .i64 Y) from fun w' h=>by
  have hV:=HB1.trans (h.mono HB1.size)
  have hn:=(h.block V.heap.size (by omega)).trans n1
  exact ⟨(hV.cell (p:=⟨Bf,0,none⟩) hBf).trans kf,(hV.cell (p:=⟨Bq,2,none⟩) hBq).trans kq,(hV.cell (p:=⟨Bg,0,none⟩) hBg).trans kg0,(hV.cell (p:=⟨Bg,1,none⟩) hBg).trans kg1,(hV.cell (p:=⟨bk,off+j*3,none⟩) hbk).trans c0,(hV.cell (p:=⟨bk,off+j*3+1,none⟩) hbk).trans c1,(hV.cell (p:=⟨bk,off+j*3+2,none⟩) hbk).trans c2,by rw[Lib.cell_of_heap hn];rfl,by rw[Lib.cell_of_heap hn];rfl⟩)
 have HS3:=hide (show ∀w' x y z,Below U.heap.size U w'→((((w'.setCell ⟨V.heap.size+1,0,none⟩ x).setCell ⟨V.heap.size+1,1,none⟩ y).setCell ⟨V.heap.size+1,2,none⟩ z).cell? ⟨Bf,0,none⟩=some (.func (.func tf) #[] caps)∧(((w'.setCell ⟨V.heap.size+1,0,none⟩ x).setCell ⟨V.heap.size+1,1,none⟩ y).setCell ⟨V.heap.size+1,2,none⟩ z).cell? ⟨Bq,2,none⟩=some (.slice (some ⟨bk,off,none⟩) ps.length ca)∧(((w'.setCell ⟨V.heap.size+1,0,none⟩ x).setCell ⟨V.heap.size+1,1,none⟩ y).setCell ⟨V.heap.size+1,2,none⟩ z).cell? ⟨Bg,0,none⟩=some (.int .i64 W)∧(((w'.setCell ⟨V.heap.size+1,0,none⟩ x).setCell ⟨V.heap.size+1,1,none⟩ y).setCell ⟨V.heap.size+1,2,none⟩ z).cell? ⟨Bg,1,none⟩=some (.int .i64 H) ∧
   (((w'.setCell ⟨V.heap.size+1,0,none⟩ x).setCell ⟨V.heap.size+1,1,none⟩ y).setCell ⟨V.heap.size+1,2,none⟩ z).cell? ⟨bk,off+j*3,none⟩=some (.int .i64 r)∧(((w'.setCell ⟨V.heap.size+1,0,none⟩ x).setCell ⟨V.heap.size+1,1,none⟩ y).setCell ⟨V.heap.size+1,2,none⟩ z).cell? ⟨bk,off+j*3+1,none⟩=some (.int .i64 g)∧(((w'.setCell ⟨V.heap.size+1,0,none⟩ x).setCell ⟨V.heap.size+1,1,none⟩ y).setCell ⟨V.heap.size+1,2,none⟩ z).cell? ⟨bk,off+j*3+2,none⟩=some (.int .i64 u)∧(((w'.setCell ⟨V.heap.size+1,0,none⟩ x).setCell ⟨V.heap.size+1,1,none⟩ y).setCell ⟨V.heap.size+1,2,none⟩ z).cell? ⟨V.heap.size,0,none⟩=some (.int .i64 X)∧(((w'.setCell ⟨V.heap.size+1,0,none⟩ x).setCell ⟨V.heap.size+1,1,none⟩ y).setCell ⟨V.heap.size+1,2,none⟩ z).cell? ⟨V.heap.size,1,none⟩=some (.int .i64 Y)) from fun w' x y z h=>by
  have hh:=HS.out w' h
  have e1:Bf≠V.heap.size+1:=by omega
  have e2:Bq≠V.heap.size+1:=by omega
  have e3:Bg≠V.heap.size+1:=by omega
  have e4:bk≠V.heap.size+1:=by omega
  have e5:V.heap.size≠V.heap.size+1:=by omega
  rw[zd1R _ _ _ e1,zd1R _ _ _ e2,zd1R _ _ _ e3,zd1R _ _ _ e3,zd1R _ _ _ e4,zd1R _ _ _ e4,zd1R _ _ _ e4,zd1R _ _ _ e5,zd1R _ _ _ e5]
  exact hh)
 have HIX:=hide (show ∀w',Below U.heap.size U w'→Calls Tryz.prog 42 #[.agg #[.int .i64 W,.int .i64 H],.agg #[.int .i64 X,.int .i64 Y]] w' fun e w''=>e=.returned (.int .i64 j)∧Below U.heap.size U w'' from fun w' h =>
  (XSSj W H X Y W j rfl HK.out (by omega) w').mono fun e w'' h2=>⟨h2.1,h.trans (h2.2.mono h.size)⟩)
 have HBE:=hide (show ∀w',Below U.heap.size U w'→Calls Tryz.prog tf (#[.agg #[.int .i64 r,.int .i64 g,.int .i64 u]]++caps) w' fun e w''=>e=.returned (.agg #[.int .i64 q0,.int .i64 q1,.int .i64 q2])∧Below U.heap.size U w''∧(w''.cell? ⟨V.heap.size+1,0,none⟩=some (.int .i64 0)∧w''.cell? ⟨V.heap.size+1,1,none⟩=some (.int .i64 0)∧w''.cell? ⟨V.heap.size+1,2,none⟩=some (.int .i64 0))∧w''.frozen? ⟨V.heap.size+1,0,none⟩=false∧w''.frozen? ⟨V.heap.size+1,1,none⟩=false∧w''.frozen? ⟨V.heap.size+1,2,none⟩=false from fun w' h =>
  (hbe w' (HB1.trans (h.mono HB1.size))).mono fun e w'' h2=>by
   have h3:=h.trans (h2.2.mono h.size)
   have hn:=(h3.block (V.heap.size+1) (by omega)).trans n2
   exact ⟨h2.1,h3,z5EY hn,Lib.frozen_of_heap hn 0,Lib.frozen_of_heap hn 1,Lib.frozen_of_heap hn 2⟩)
 have HFIN:=hide (show ∀w' x y z,Below U.heap.size U w'→Below V.heap.size V (((w'.setCell ⟨V.heap.size+1,0,none⟩ x).setCell ⟨V.heap.size+1,1,none⟩ y).setCell ⟨V.heap.size+1,2,none⟩ z) from fun w' x y z h=>zHqh (HB1.trans (h.mono HB1.size)) (by omega) x y z)
 have hdrew:Below U.heap.size U U.drew:=(Below.refl _ _).drew
 clear hbe n1 n2 kf kq kg0 kg1 c0 c1 c2
 go_region_held3 (fun w'=>w'.cell? ⟨Bf,0,none⟩=some (.func (.func tf) #[] caps)∧w'.cell? ⟨Bq,2,none⟩=some (.slice (some ⟨bk,off,none⟩) ps.length ca)∧w'.cell? ⟨Bg,0,none⟩=some (.int .i64 W)∧w'.cell? ⟨Bg,1,none⟩=some (.int .i64 H) ∧
   w'.cell? ⟨bk,off+j*3,none⟩=some (.int .i64 r)∧w'.cell? ⟨bk,off+j*3+1,none⟩=some (.int .i64 g)∧w'.cell? ⟨bk,off+j*3+2,none⟩=some (.int .i64 u)∧w'.cell? ⟨V.heap.size,0,none⟩=some (.int .i64 X)∧w'.cell? ⟨V.heap.size,1,none⟩=some (.int .i64 Y))
  (first|(refine HS.out _ ?_;assumption)|(refine HS3.out _ _ _ _ ?_;assumption))
  (first
   | (go_at_call 42;refine (HIX.out _ ?_).mono ?_;assumption;rintro e wx ⟨rfl,hN⟩)
   | (refine (HBE.out _ ?_).mono ?_;assumption;rintro e wy ⟨rfl,hN2,⟨z0,z1,z2⟩,f0,f1,f2⟩))
 have q0':=z0
 go_wp2
 exact bodyPost_ret (v:=.agg #[.int .i64 q0,.int .i64 q1,.int .i64 q2]) (by simp[results,Tryz.results273,go_sem,z0,z1,z2]) rfl ⟨rfl,HFIN.out _ _ _ _ hN2⟩
theorem zg0q {α:Type} [Inhabited α] {β:Type} (ps:List α) (f:α→β) (N:Nat) (h:ps.length=N):(List.range N).map (fun j=>f (ps.getD j default))=ps.map f:=by
 apply List.ext_getElem
 ·simp[h]
 ·intro i h1 h2
  simp at h1
  simp[List.getD_eq_getElem?_getD,List.getElem?_eq_getElem (show i<ps.length by omega)]
set_option maxRecDepth 100000 in
set_option maxHeartbeats 1600000 in
theorem jd7f (W H:Nat) (hW:W≤64) (hH:H≤64) (v:Value) (ps:List Px) (hlen:ps.length=H*W) (tf:Nat) (caps:Array Value) (f:Px→Px) (w:World) (hv:IsPix w v ps) (eg:∀args w,(callFunc tf args).run Tryz.prog w=.ok (.enter tf args) w)
  (hbe:∀(j:Nat) (h:j<ps.length) (U:World),Below w.heap.size w U→Calls Tryz.prog tf (#[pixV ps[j]]++caps) U fun e U'=>e=.returned (pixV (f ps[j]))∧Below U.heap.size U U') :
  Calls Tryz.prog 270 #[.agg #[.int .i64 W,.int .i64 H,v],.func (.func tf) #[] caps] w fun e w'=>∃r,e=.returned (.agg #[.int .i64 W,.int .i64 H,r])∧IsPix w' r (ps.map f)∧Below w.heap.size w w'∧Fresh w.heap.size r:=by
 have HV:=hide hv
 obtain ⟨ao,ca,rfl,hla,hc⟩:=hv
 have hl4:ps.length≤4096:=by rw[hlen];exact Nat.le_trans (Nat.mul_le_mul hH hW) (by decide)
 have HLEN:=hide hlen
 clear hlen
 go_enter Tryz.func270,Tryz.ntmps270
 go_wp2_with fail
 obtain ⟨a1,a2,a3,a4⟩:=al4 w (Obj.cells #[.int .i64 W,.int .i64 H,.slice ao ps.length ca] 24) (Obj.cells #[.func (.func tf) #[] caps] 300) (Obj.cells #[.int .i64 0,.int .i64 0,.slice none 0 0] 24) (Obj.cells #[.int .i64 W,.int .i64 H] 95)
 have hB4:=be4 w (Obj.cells #[.int .i64 W,.int .i64 H,.slice ao ps.length ca] 24) (Obj.cells #[.func (.func tf) #[] caps] 300) (Obj.cells #[.int .i64 0,.int .i64 0,.slice none 0 0] 24) (Obj.cells #[.int .i64 W,.int .i64 H] 95)
 have hs4:((((w.alloc (Obj.cells #[.int .i64 W,.int .i64 H,.slice ao ps.length ca] 24)).alloc (Obj.cells #[.func (.func tf) #[] caps] 300)).alloc (Obj.cells #[.int .i64 0,.int .i64 0,.slice none 0 0] 24)).alloc (Obj.cells #[.int .i64 W,.int .i64 H] 95)).heap.size=w.heap.size+4:=by simp
 generalize (((w.alloc (Obj.cells #[.int .i64 W,.int .i64 H,.slice ao ps.length ca] 24)).alloc (Obj.cells #[.func (.func tf) #[] caps] 300)).alloc (Obj.cells #[.int .i64 0,.int .i64 0,.slice none 0 0] 24)).alloc (Obj.cells #[.int .i64 W,.int .i64 H] 95)=U at *
 refine (XMhx W H (H*W) hW hH rfl 273 _ (fun j=>f (ps.getD j default)) U (enters_of Tryz.func273 (by kernel_rfl) rfl) ?_).mono ?_
 ·intro j V hj hV
  have hj':j<ps.length:=by rw[HLEN.out];exact hj
  have hVw:=hB4.trans (hV.mono hB4.size)
  obtain ⟨bk,off,hao,hbl,hcell⟩:∃b off,ao=some ⟨b,off,none⟩∧b<w.heap.size∧∀j (h:j<ps.length),
    w.cell? ⟨b,off+j*3,none⟩=some (.int .i64 ps[j].1)∧w.cell? ⟨b,off+j*3+1,none⟩=some (.int .i64 ps[j].2.1)∧w.cell? ⟨b,off+j*3+2,none⟩=some (.int .i64 ps[j].2.2):=by
   rcases hc with h|h
   ·subst h;simp at hj'
   ·exact h
  subst hao
  have g1:=(hV.block (w.heap.size) (by omega)).trans a1
  have g2:=(hV.block (w.heap.size+1) (by omega)).trans a2
  have g4:=(hV.block (w.heap.size+3) (by omega)).trans a4
  have hsV:=hV.size
  obtain ⟨c0,c1,c2⟩:=hcell j hj'
  have hD:ps.getD j default=ps[j]:=by simp[List.getD_eq_getElem?_getD,List.getElem?_eq_getElem hj']
  rw[hD]
  exact XQLB W H j bk off ca ps hj' hl4 tf caps (f ps[j]) (w.heap.size+1) w.heap.size (w.heap.size+3) V eg (by omega) (by omega) (by omega) (by omega)
   (by rw[Lib.cell_of_heap g2];rfl) (by rw[Lib.cell_of_heap g1];rfl) (by rw[Lib.cell_of_heap g4];rfl) (by rw[Lib.cell_of_heap g4];rfl)
   ((hVw.cell (p:=⟨bk,off+j*3,none⟩) hbl).trans c0) ((hVw.cell (p:=⟨bk,off+j*3+1,none⟩) hbl).trans c1) ((hVw.cell (p:=⟨bk,off+j*3+2,none⟩) hbl).trans c2)
   (fun U' hU'=>hbe j hj' U' (hVw.trans (hU'.mono hVw.size)))
 ·rintro e w1 ⟨r,rfl,hr,hb,hfr⟩
  rw[zg0q ps f (H*W) HLEN.out] at hr
  have g3:=(hb.block (w.heap.size+1+1) (by omega)).trans a3
  obtain ⟨z0,z1,z2⟩:=z5EY g3
  have f0:=Lib.frozen_of_heap g3 0
  have f1:=Lib.frozen_of_heap g3 1
  have f2:=Lib.frozen_of_heap g3 2
  have HR:=hide hr
  obtain ⟨ro,rc,rfl,_,_⟩:=hr
  have HFIN:=hide (zHqh (hB4.trans (hb.mono hB4.size)) (show w.heap.size≤w.heap.size+1+1 by omega) (.int .i64 W) (.int .i64 H) (.slice ro (ps.map f).length rc))
  have HPX:=hide (HR.out.set3 hfr (show w.heap.size+1+1<U.heap.size by omega) (.int .i64 W) (.int .i64 H) (.slice ro (ps.map f).length rc))
  rw[List.length_map] at HPX HFIN hfr
  go_wp2
  exact bodyPost_ret (v:=.agg #[.int .i64 W,.int .i64 H,.slice ro ps.length rc]) (by simp[results,Tryz.results270,go_sem,z0,z1,z2]) rfl ⟨_,rfl,HPX.out,HFIN.out,hfr.mono (by omega)⟩
end Go.Proofs.YtfjeonehdlphiaaGreatDoor

namespace Go.Proofs.YtfjeonehdlphiaaGreatDoor
open Go.RowKit
theorem heldQ (n:Int) (w:World):Calls Tryz.prog 257 #[.int .i64 n] w fun e w'=>e=.returned (.int .i64 (jeC7 n))∧w'=w :=
 (Xgzp n w).mono fun _ _ h=>⟨h.1,h.2.symm⟩
theorem z2et {a r A R:Int} (h1:-A≤a) (h2:a≤A) (h3:0≤r) (h4:r≤R) (hA:0≤A):-(A*R)≤a*r∧a*r≤A*R:=by
 have q1:=Int.mul_le_mul_of_nonneg_right h2 h3
 have q2:=Int.mul_le_mul_of_nonneg_right h1 h3
 have q3:=Int.mul_le_mul_of_nonneg_left h4 hA
 rw[Int.neg_mul] at q2
 omega
def mixV (a b c r g u:Int):Int:=jeC7 ((a*r+b*g+c*u) / 4096)
set_option maxRecDepth 100000 in
set_option maxHeartbeats 800000 in
theorem qkO7 (i:Nat) (hi:i≤6) (Bm Bv:Nat) (a b c r g u:Int) (ha1:-32768≤a) (ha2:a≤32768) (hb1:-32768≤b) (hb2:b≤32768) (hc1:-32768≤c) (hc2:c≤32768)
  (hr1:0≤r) (hr2:r≤65535) (hg1:0≤g) (hg2:g≤65535) (hu1:0≤u) (hu2:u≤65535) (V:World)
  (m0:V.cell? ⟨Bm,i,none⟩=some (.int .i64 a)) (m1:V.cell? ⟨Bm,i+1,none⟩=some (.int .i64 b)) (m2:V.cell? ⟨Bm,i+2,none⟩=some (.int .i64 c))
  (v0:V.cell? ⟨Bv,0,none⟩=some (.int .i64 r)) (v1:V.cell? ⟨Bv,1,none⟩=some (.int .i64 g)) (v2:V.cell? ⟨Bv,2,none⟩=some (.int .i64 u)) :
  Calls Tryz.prog 272 #[.int .i64 i,.pointer (some ⟨Bm,0,none⟩),.pointer (some ⟨Bv,0,none⟩)] V fun e w'=>e=.returned (.int .i64 (mixV a b c r g u))∧∃n,w'=V.drewN n:=by
 have HE:=hide (show mixV a b c r g u=jeC7 ((a*r+b*g+c*u) / 4096) from rfl)
 generalize mixV a b c r g u=M at *
 have p1:=z2et ha1 ha2 hr1 hr2 (by omega)
 have p2:=z2et hb1 hb2 hg1 hg2 (by omega)
 have p3:=z2et hc1 hc2 hu1 hu2 (by omega)
 obtain ⟨A,hA⟩:∃A,a*r=A:=⟨_,rfl⟩
 obtain ⟨B,hB⟩:∃B,b*g=B:=⟨_,rfl⟩
 obtain ⟨C,hC⟩:∃C,c*u=C:=⟨_,rfl⟩
 rw[hA] at p1
 rw[hB] at p2
 rw[hC] at p3
 rw[hA,hB,hC] at HE
 clear ha1 ha2 hb1 hb2 hc1 hc2 hr1 hr2 hg1 hg2 hu1 hu2
 obtain ⟨p1a,p1b⟩:=p1
 obtain ⟨p2a,p2b⟩:=p2
 obtain ⟨p3a,p3b⟩:=p3
 go_enter Tryz.func272,Tryz.ntmps272
 go_wp2
 go_quiet ((go_at_call 257;exact Calls.quiet_of_same (heldQ _ _)))
 go_wp2
 go_ret
 exact ⟨jx9N HE.out.symm,nq,rfl⟩
def mixP (m:Nat→Int) (p:Px):Px:=(mixV (m 0) (m 1) (m 2) p.1 p.2.1 p.2.2,mixV (m 3) (m 4) (m 5) p.1 p.2.1 p.2.2,mixV (m 6) (m 7) (m 8) p.1 p.2.1 p.2.2)
set_option maxRecDepth 100000 in
set_option maxHeartbeats 800000 in
theorem jpF6 (Bm:Nat) (m:Nat→Int) (hm:∀k,k<9→-32768≤m k∧m k≤32768) (p:Px) (hp:pxOk p=true) (V:World) (hB:Bm<V.heap.size)
  (hc:∀k,k<9→V.cell? ⟨Bm,k,none⟩=some (.int .i64 (m k))) :
  Calls Tryz.prog 271 #[pixV p,.pointer (some ⟨Bm,0,none⟩)] V fun e w'=>e=.returned (pixV (mixP m p))∧Below V.heap.size V w':=by
 obtain ⟨⟨r1,r2⟩,⟨g1,g2⟩,u1,u2⟩:=(X1aR p).1 hp
 obtain ⟨r,g,u⟩:=p
 simp only at r1 r2 g1 g2 u1 u2
 have HB1:=hide (quJN (qUNz V (Obj.cells #[.int .i64 r,.int .i64 g,.int .i64 u] 61)) (qUNz _ (Obj.cells #[.int .i64 0,.int .i64 0,.int .i64 0] 61)))
 have hcc:∀k,k<9→((V.alloc (Obj.cells #[.int .i64 r,.int .i64 g,.int .i64 u] 61)).alloc (Obj.cells #[.int .i64 0,.int .i64 0,.int .i64 0] 61)).cell? ⟨Bm,k,none⟩=some (.int .i64 (m k)):=fun k hk =>
  (HB1.out.cell (p:=⟨Bm,k,none⟩) hB).trans (hc k hk)
 obtain ⟨k1,k2⟩:=box2 (w:=V) (x:=#[.int .i64 r,.int .i64 g,.int .i64 u]) (y:=#[.int .i64 0,.int .i64 0,.int .i64 0]) (t:=61) (Below.refl _ _)
 obtain ⟨v0,v1,v2⟩:=z5EY k1
 obtain ⟨z0,z1,z2⟩:=z5EY k2
 have f0:=Lib.frozen_of_heap k2 0
 have f1:=Lib.frozen_of_heap k2 1
 have f2:=Lib.frozen_of_heap k2 2
 clear k1 k2 hc
 have HC:=hide hcc
 have HM:=hide hm
 have HR:=hide (fun (i:Nat) (hi:i≤6) (n:Nat)=>qkO7 i hi Bm V.heap.size (m i) (m (i+1)) (m (i+2)) r g u (hm i (by omega)).1 (hm i (by omega)).2 (hm (i+1) (by omega)).1 (hm (i+1) (by omega)).2 (hm (i+2) (by omega)).1 (hm (i+2) (by omega)).2 r1 r2 g1 g2 u1 u2
  (((V.alloc (Obj.cells #[.int .i64 r,.int .i64 g,.int .i64 u] 61)).alloc (Obj.cells #[.int .i64 0,.int .i64 0,.int .i64 0] 61)).drewN n) (hcc i (by omega)) (hcc (i+1) (by omega)) (hcc (i+2) (by omega)) v0 v1 v2)
 clear hcc hm
 go_enter Tryz.func271,Tryz.ntmps271
 go_wp2_with fail
 refine (HR.out 0 (by omega) 0).mono ?_
 rintro e w1 ⟨rfl,n1,rfl⟩
 go_wp2_with fail
 refine (HR.out 3 (by omega) _).mono ?_
 rintro e w2 ⟨rfl,n2,rfl⟩
 go_wp2_with fail
 refine (HR.out 6 (by omega) _).mono ?_
 rintro e w3 ⟨rfl,n3,rfl⟩
 go_wp2
 refine bodyPost_ret (v:=pixV (mixP m (r,g,u))) (by simp[results,Tryz.results271,go_sem,mixP]) rfl ⟨rfl,?_⟩
 exact zHqh (below_drewN HB1.out _) (by omega) _ _ _
end Go.Proofs.YtfjeonehdlphiaaGreatDoor

namespace Go.Proofs.YtfjeonehdlphiaaGreatDoor
open Go.RowKit
abbrev nine (m:Nat→Int):Array Value:=#[.int .i64 (m 0),.int .i64 (m 1),.int .i64 (m 2),.int .i64 (m 3),.int .i64 (m 4),.int .i64 (m 5),.int .i64 (m 6),.int .i64 (m 7),.int .i64 (m 8)]
def nineL (m:Nat→Int):List Int:=(List.range 9).map m
def matOk (m:Nat→Int):Bool:=allIn (-32768) 32768 (nineL m)
theorem X1Cm (m:Nat→Int) (k:Nat) (h:k<9):(nine m)[k]?=some (.int .i64 (m k)):=by
 rcases (show k=0∨k=1∨k=2∨k=3∨k=4∨k=5∨k=6∨k=7∨k=8 by omega) with rfl|rfl|rfl|rfl|rfl|rfl|rfl|rfl|rfl<;>rfl
theorem XiDe {m:Nat→Int} (h:matOk m=true) (k:Nat) (hk:k<9):-32768≤m k∧m k≤32768:=by
 have:=List.all_eq_true.1 h (m k) (List.mem_map.2 ⟨k,List.mem_range.2 hk,rfl⟩)
 simpa using this
theorem qtKV {w w':World} {t:TypeId} (m:Nat→Int) (hb:Below (w.alloc (.cells (nine m) t)).heap.size (w.alloc (.cells (nine m) t)) w'):jCvT w' (.slice (some ⟨w.heap.size,0,none⟩) 9 9) (nineL m):=by
 refine ⟨_,_,rfl,by simp[nineL],.inr ⟨w.heap.size,0,rfl,by have:=hb.size;simp at this;omega,fun j hj=>?_⟩⟩
 have hj9:j<9:=by simpa [nineL] using hj
 rw[hb.cell (p:=⟨w.heap.size,0+j,none⟩) (by simp),Lib.cell_of_heap (heap_alloc_new w _),Nat.zero_add,X1Cm m j hj9]
 simp[nineL]
set_option maxRecDepth 100000 in
theorem XdM0 (m:Nat→Int) (w:World):Calls Tryz.prog 148 #[.agg (nine m)] w fun e w'=>e=.returned (.bool (matOk m))∧Below w.heap.size w w':=by
 go_enter Tryz.func148,Tryz.ntmps148
 go_wp2_with fail
 refine (qFis (-32768) 32768 _ (nineL m) _ (qtKV m (Below.refl _ _))).mono ?_
 rintro e w1 ⟨rfl,rfl⟩
 rw[show allIn (-32768) 32768 (nineL m)=matOk m from rfl]
 go_wp2
 go_ret
 exact ⟨rfl,qUNz _ _⟩
theorem zZMj {w:World} {b:Nat} {t:TypeId} {fr:Nat×Nat} {m:Nat→Int} (h:w.heap[b]?=some (.cells (nine m) t fr)) :
  w.cell? ⟨b,0,none⟩=some (.int .i64 (m 0))∧w.cell? ⟨b,1,none⟩=some (.int .i64 (m 1))∧w.cell? ⟨b,2,none⟩=some (.int .i64 (m 2))∧w.cell? ⟨b,3,none⟩=some (.int .i64 (m 3))∧w.cell? ⟨b,4,none⟩=some (.int .i64 (m 4))∧w.cell? ⟨b,5,none⟩=some (.int .i64 (m 5))∧w.cell? ⟨b,6,none⟩=some (.int .i64 (m 6))∧w.cell? ⟨b,7,none⟩=some (.int .i64 (m 7))∧w.cell? ⟨b,8,none⟩=some (.int .i64 (m 8)) :=
 ⟨by rw[Lib.cell_of_heap h];rfl,by rw[Lib.cell_of_heap h];rfl,by rw[Lib.cell_of_heap h];rfl,by rw[Lib.cell_of_heap h];rfl,by rw[Lib.cell_of_heap h];rfl,by rw[Lib.cell_of_heap h];rfl,by rw[Lib.cell_of_heap h];rfl,by rw[Lib.cell_of_heap h];rfl,by rw[Lib.cell_of_heap h];rfl⟩
def mixE (W H:Int) (ps:List Px) (m:Nat→Int):Int:=if picOk W H ps=true then (if matOk m=true then 0 else 3) else 1
set_option maxRecDepth 100000 in
set_option maxHeartbeats 1600000 in
theorem jjtZ (W H:Int) (v:Value) (ps:List Px) (m:Nat→Int) (w:World) (hv:IsPix w v ps) :
  Calls Tryz.prog 269 #[.agg #[.int .i64 W,.int .i64 H,v],.agg (nine m)] w fun e w'=>∃r,e=.returned (.tuple #[.agg #[.int .i64 (okW (mixE W H ps m) W),.int .i64 (okW (mixE W H ps m) H),r],.int .i64 (mixE W H ps m)])∧IsPix w' r (okL (mixE W H ps m) (ps.map (mixP m)))∧Below w.heap.size w w'∧Fresh w.heap.size r:=by
 have HV:=hide hv
 obtain ⟨ao,ca,rfl,hla,hc⟩:=hv
 obtain ⟨E,hE⟩:∃E,mixE W H ps m=E:=⟨_,rfl⟩
 rw[hE]
 by_cases hp:picOk W H ps=true
 ·by_cases hm:matOk m=true
  ·have he:E=0:=by rw[←hE,mixE,if_pos hp,if_pos hm]
   subst he
   clear hE
   obtain ⟨⟨w1,w2⟩,⟨h1,h2⟩,hl,hpx⟩:=XMjn hp
   obtain ⟨WN,rfl⟩:=Int.eq_ofNat_of_zero_le (show 0≤W by omega)
   obtain ⟨HN,rfl⟩:=Int.eq_ofNat_of_zero_le (show 0≤H by omega)
   have HLEN:=hide (show ps.length=HN*WN by rw[Nat.mul_comm];exact_mod_cast hl)
   have HPX:=hide hpx
   clear hl hpx
   go_enter Tryz.func269,Tryz.ntmps269
   go_wp2_with fail
   obtain ⟨a1,a2,a3⟩:=al3 w (Obj.cells #[.int .i64 (WN:Nat),.int .i64 (HN:Nat),.slice ao ps.length ca] 24) (Obj.cells (nine m) 48) (Obj.cells #[.int .i64 0,.int .i64 0,.slice none 0 0] 24)
   have hB:=be3 w (Obj.cells #[.int .i64 (WN:Nat),.int .i64 (HN:Nat),.slice ao ps.length ca] 24) (Obj.cells (nine m) 48) (Obj.cells #[.int .i64 0,.int .i64 0,.slice none 0 0] 24)
   have hs3:(((w.alloc (Obj.cells #[.int .i64 (WN:Nat),.int .i64 (HN:Nat),.slice ao ps.length ca] 24)).alloc (Obj.cells (nine m) 48)).alloc (Obj.cells #[.int .i64 0,.int .i64 0,.slice none 0 0] 24)).heap.size=w.heap.size+3:=by simp
   generalize ((w.alloc (Obj.cells #[.int .i64 (WN:Nat),.int .i64 (HN:Nat),.slice ao ps.length ca] 24)).alloc (Obj.cells (nine m) 48)).alloc (Obj.cells #[.int .i64 0,.int .i64 0,.slice none 0 0] 24)=U at *
   refine (XDTU WN HN _ ps _ (HV.out.below hB (Nat.le_refl _))).mono ?_
   rintro e w1 ⟨rfl,hb1⟩
   rw[hp]
   have g1:=(hb1.block (w.heap.size) (by omega)).trans a1
   have g2:=(hb1.block (w.heap.size+1) (by omega)).trans a2
   have g3:=(hb1.block (w.heap.size+1+1) (by omega)).trans a3
   obtain ⟨n0,n1,n2,n3,n4,n5,n6,n7,n8⟩:=zZMj g2
   go_wp2_with fail
   refine (XdM0 m _).mono ?_
   rintro e w2 ⟨rfl,hb2⟩
   rw[hm]
   clear n0 n1 n2 n3 n4 n5 n6 n7 n8
   replace hb2:=quJN hb1 hb2
   replace g1:=(hb2.block (w.heap.size) (by omega)).trans a1
   replace g2:=(hb2.block (w.heap.size+1) (by omega)).trans a2
   replace g3:=(hb2.block (w.heap.size+1+1) (by omega)).trans a3
   obtain ⟨p0,p1,p2⟩:=z5EY g1
   go_wp2_with fail
   refine (jd7f WN HN (by omega) (by omega) _ ps HLEN.out 271 #[.pointer (some ⟨w.heap.size+1,0,none⟩)] (mixP m) _ (HV.out.below (hB.trans (hb2.mono hB.size)) (Nat.le_refl _)) (enters_of Tryz.func271 (by kernel_rfl) rfl) ?_).mono ?_
   ·intro j hj V hV
    have hb3:=quJN hb2 hV
    have g2':=(hb3.block (w.heap.size+1) (by omega)).trans a2
    exact jpF6 (w.heap.size+1) m (fun k hk=>XiDe hm k hk) ps[j] (List.all_eq_true.1 HPX.out _ (List.getElem_mem hj)) V (by have:=hb3.size;omega) (fun k hk=>by rw[Lib.cell_of_heap g2',X1Cm m k hk])
   ·rintro e w3 ⟨r,rfl,hr,hb3,hfr⟩
    clear p0 p1 p2
    replace hb3:=quJN hb2 hb3
    replace g3:=(hb3.block (w.heap.size+1+1) (by omega)).trans a3
    have hs2:=hb2.size
    obtain ⟨z0,z1,z2⟩:=z5EY g3
    have f0:=Lib.frozen_of_heap g3 0
    have f1:=Lib.frozen_of_heap g3 1
    have f2:=Lib.frozen_of_heap g3 2
    have HR:=hide hr
    obtain ⟨ro,rc,rfl,_,_⟩:=hr
    have HFIN:=hide (zHqh (hB.trans (hb3.mono hB.size)) (show w.heap.size≤w.heap.size+1+1 by omega) (.int .i64 (WN:Nat)) (.int .i64 (HN:Nat)) (.slice ro (ps.map (mixP m)).length rc))
    have HPX2:=hide (HR.out.set3 hfr (show w.heap.size+1+1<w2.heap.size by omega) (.int .i64 (WN:Nat)) (.int .i64 (HN:Nat)) (.slice ro (ps.map (mixP m)).length rc))
    rw[List.length_map] at HPX2 HFIN hfr
    go_wp2
    exact bodyPost_ret (v:=.tuple #[.agg #[.int .i64 (WN:Nat),.int .i64 (HN:Nat),.slice ro ps.length rc],.int .i64 0]) (by simp[results,Tryz.results269,go_sem,z0,z1,z2]) rfl ⟨_,rfl,HPX2.out,HFIN.out,hfr.mono (by omega)⟩
  ·have he:E=3:=by rw[←hE,mixE,if_pos hp,if_neg hm]
   have hm:matOk m=false:=by simpa using hm
   subst he
   clear hE
   go_enter Tryz.func269,Tryz.ntmps269
   go_wp2_with fail
   obtain ⟨a1,a2,a3⟩:=al3 w (Obj.cells #[.int .i64 W,.int .i64 H,.slice ao ps.length ca] 24) (Obj.cells (nine m) 48) (Obj.cells #[.int .i64 0,.int .i64 0,.slice none 0 0] 24)
   have hB:=be3 w (Obj.cells #[.int .i64 W,.int .i64 H,.slice ao ps.length ca] 24) (Obj.cells (nine m) 48) (Obj.cells #[.int .i64 0,.int .i64 0,.slice none 0 0] 24)
   have hs3:(((w.alloc (Obj.cells #[.int .i64 W,.int .i64 H,.slice ao ps.length ca] 24)).alloc (Obj.cells (nine m) 48)).alloc (Obj.cells #[.int .i64 0,.int .i64 0,.slice none 0 0] 24)).heap.size=w.heap.size+3:=by simp
   generalize ((w.alloc (Obj.cells #[.int .i64 W,.int .i64 H,.slice ao ps.length ca] 24)).alloc (Obj.cells (nine m) 48)).alloc (Obj.cells #[.int .i64 0,.int .i64 0,.slice none 0 0] 24)=U at *
   refine (XDTU W H _ ps _ (HV.out.below hB (Nat.le_refl _))).mono ?_
   rintro e w1 ⟨rfl,hb1⟩
   rw[hp]
   have g1:=(hb1.block (w.heap.size) (by omega)).trans a1
   have g2:=(hb1.block (w.heap.size+1) (by omega)).trans a2
   have g3:=(hb1.block (w.heap.size+1+1) (by omega)).trans a3
   obtain ⟨n0,n1,n2,n3,n4,n5,n6,n7,n8⟩:=zZMj g2
   go_wp2_with fail
   refine (XdM0 m _).mono ?_
   rintro e w2 ⟨rfl,hb2⟩
   rw[hm]
   clear n0 n1 n2 n3 n4 n5 n6 n7 n8
   replace hb2:=quJN hb1 hb2
   replace g1:=(hb2.block (w.heap.size) (by omega)).trans a1
   replace g2:=(hb2.block (w.heap.size+1) (by omega)).trans a2
   replace g3:=(hb2.block (w.heap.size+1+1) (by omega)).trans a3
   obtain ⟨z0,z1,z2⟩:=z5EY g3
   have f0:=Lib.frozen_of_heap g3 0
   have f1:=Lib.frozen_of_heap g3 1
   have f2:=Lib.frozen_of_heap g3 2
   have HBL:=hb2
   have HFIN:=hide (zHqh (hB.trans (HBL.mono hB.size)) (show w.heap.size≤w.heap.size+1+1 by omega) (.int .i64 0) (.int .i64 0) (.slice none 0 0))
   go_wp2
   exact bodyPost_ret (v:=.tuple #[.agg #[.int .i64 0,.int .i64 0,.slice none 0 0],.int .i64 3]) (by simp[results,Tryz.results269,go_sem,z0,z1,z2]) rfl ⟨.slice none 0 0,rfl,IsPix.nil _,HFIN.out,Fresh.nil _⟩
 ·have he:E=1:=by rw[←hE,mixE,if_neg hp]
  have hp:picOk W H ps=false:=by simpa using hp
  subst he
  clear hE
  go_enter Tryz.func269,Tryz.ntmps269
  go_wp2_with fail
  obtain ⟨a1,a2,a3⟩:=al3 w (Obj.cells #[.int .i64 W,.int .i64 H,.slice ao ps.length ca] 24) (Obj.cells (nine m) 48) (Obj.cells #[.int .i64 0,.int .i64 0,.slice none 0 0] 24)
  have hB:=be3 w (Obj.cells #[.int .i64 W,.int .i64 H,.slice ao ps.length ca] 24) (Obj.cells (nine m) 48) (Obj.cells #[.int .i64 0,.int .i64 0,.slice none 0 0] 24)
  have hs3:(((w.alloc (Obj.cells #[.int .i64 W,.int .i64 H,.slice ao ps.length ca] 24)).alloc (Obj.cells (nine m) 48)).alloc (Obj.cells #[.int .i64 0,.int .i64 0,.slice none 0 0] 24)).heap.size=w.heap.size+3:=by simp
  generalize ((w.alloc (Obj.cells #[.int .i64 W,.int .i64 H,.slice ao ps.length ca] 24)).alloc (Obj.cells (nine m) 48)).alloc (Obj.cells #[.int .i64 0,.int .i64 0,.slice none 0 0] 24)=U at *
  refine (XDTU W H _ ps _ (HV.out.below hB (Nat.le_refl _))).mono ?_
  rintro e w1 ⟨rfl,hb1⟩
  rw[hp]
  have g1:=(hb1.block (w.heap.size) (by omega)).trans a1
  have g2:=(hb1.block (w.heap.size+1) (by omega)).trans a2
  have g3:=(hb1.block (w.heap.size+1+1) (by omega)).trans a3
  obtain ⟨z0,z1,z2⟩:=z5EY g3
  have f0:=Lib.frozen_of_heap g3 0
  have f1:=Lib.frozen_of_heap g3 1
  have f2:=Lib.frozen_of_heap g3 2
  have HBL:=hb1
  have HFIN:=hide (zHqh (hB.trans (HBL.mono hB.size)) (show w.heap.size≤w.heap.size+1+1 by omega) (.int .i64 0) (.int .i64 0) (.slice none 0 0))
  go_wp2
  exact bodyPost_ret (v:=.tuple #[.agg #[.int .i64 0,.int .i64 0,.slice none 0 0],.int .i64 1]) (by simp[results,Tryz.results269,go_sem,z0,z1,z2]) rfl ⟨.slice none 0 0,rfl,IsPix.nil _,HFIN.out,Fresh.nil _⟩
end Go.Proofs.YtfjeonehdlphiaaGreatDoor

namespace Go.Proofs.YtfjeonehdlphiaaGreatDoor
open Go.RowKit
set_option maxRecDepth 100000 in
set_option maxHeartbeats 800000 in
theorem qmUZ (v:Value) (ls:List Pt) (x:Int) (h0:0≤x) (h1:x≤65535) (hcv:jhAl ls) (w:World) (hv:IsPts w v ls) :
  Calls Tryz.prog 190 #[v,.int .i64 x] w fun e w'=>e=.returned (.int .i64 (qy0p ls x))∧Below w.heap.size w w':=by
 obtain ⟨ao,ca,rfl,hla,hc⟩:=hv
 have hl2:=hcv.two
 have hl16:=hcv.most
 obtain ⟨bk,off,hao,hbl,hcell⟩:∃b off,ao=some ⟨b,off,none⟩∧b<w.heap.size∧∀j,j<ls.length →
   w.cell? ⟨b,off+j*2,none⟩=some (.int .i64 (ptAt ls j).1)∧w.cell? ⟨b,off+j*2+1,none⟩=some (.int .i64 (ptAt ls j).2):=by
  rcases hc with h|h
  ·subst h;simp at hl2
  ·exact h
 subst hao
 have HCELL:=hide hcell;clear hcell hc
 have HCV:=hide hcv;clear hcv
 go_enter Tryz.func190,Tryz.ntmps190
 go_wp2
 go_loop [5] (fun i=>∃k:Nat,k<ls.length∧i=.int .i64 k∧Hid (∀j,j<k→(ptAt ls j).1<x)) (fun i=>ls.length-(intOf i).toNat)
 case atStart=>exact ⟨0,by omega,rfl,fun j hj=>by omega⟩
 case round =>
  obtain ⟨k,hk,rfl,HJ⟩:=hrel
  obtain ⟨c0,c1⟩:=HCELL.out k hk
  by_cases hx:(ptAt ls k).1<x
  ·have hd:decide ((ptAt ls k).1<x)=true:=by simpa using hx
   have hk2:k+1<ls.length:=by
    rcases Nat.eq_or_lt_of_le (show k≤ls.length-1 by omega) with e|hlt
    ·have:=HCV.out.last;rw[←e] at this;omega
    ·omega
   go_wp2
   go_round
   case rel=>exact ⟨k+1,hk2,by go_num,fun j hj=>by
    rcases Nat.eq_or_lt_of_le (show j≤k by omega) with e|hlt
    ·rw[e];exact hx
    ·exact HJ.out j hlt⟩
   case measure=>simp[intOf];omega
  ·have hd:decide ((ptAt ls k).1<x)=false:=by simpa using hx
   have hat:isAt ls x k:=⟨hk,by omega,HJ.out⟩
   have HE:=hide (jMoW hat)
   by_cases he:(ptAt ls k).1=x
   ·have hb:((ptAt ls k).1 == x)=true:=by simpa using he
    have HE2:=hide (show (ptAt ls k).2=qy0p ls x by rw[HE.out,if_pos he])
    clear HE he
    go_wp2
    go_ret
    exact ⟨jx9N HE2.out,qUNz _ _⟩
   ·have hb:((ptAt ls k).1 == x)=false:=by simpa using he
    obtain ⟨i,rfl⟩:∃i,k=i+1:=by
     cases k with
     | zero=>exact absurd (by have:=HCV.out.first;omega) he
     | succ i=>exact ⟨i,rfl⟩
    have HE2:=hide (show qy0p ls x=Xp0K ls (i+1) x by rw[HE.out,if_neg he])
    obtain ⟨d0,d1⟩:=HCELL.out i (by omega)
    have hlt:=HJ.out i (by omega)
    obtain ⟨m0,m1,m2,m3⟩:=jwsP HCV.out i hk x (by omega) (by omega)
    obtain ⟨y0,y1⟩:=HCV.out.y i (by omega)
    obtain ⟨y2,y3⟩:=HCV.out.y (i+1) hk
    obtain ⟨x0,x1⟩:=HCV.out.x i (by omega)
    obtain ⟨x2,x3⟩:=HCV.out.x (i+1) hk
    obtain ⟨s0,s1⟩:=HCV.out.step i hk
    rw[Xp0K,Nat.add_sub_cancel] at m2 m3 HE2
    have hne:¬(ptAt ls (i+1)).1-(ptAt ls i).1=0:=by omega
    clear HE he hx hat
    generalize (ptAt ls (i+1)).1=X2 at *
    generalize (ptAt ls i).1=X1 at *
    generalize (ptAt ls (i+1)).2=Y2 at *
    generalize (ptAt ls i).2=Y1 at *
    obtain ⟨M,hM⟩:∃M,(Y2-Y1)*(x-X1)=M:=⟨_,rfl⟩
    rw[hM] at m0 m1 m2 m3 HE2
    obtain ⟨D,hD⟩:∃D,X2-X1=D:=⟨_,rfl⟩
    rw[hD] at m2 m3 HE2 hne
    have hD0:0<D:=by omega
    have hq0:0≤M / D:=Int.ediv_nonneg m0 (by omega)
    have hDz:(D == 0)=false:=by simpa using hne
    go_wp2
    go_region
    go_wp2
    go_ret
    exact ⟨jx9N HE2.out.symm,((be2 _ _ _).drew)⟩
set_option maxRecDepth 100000 in
set_option maxHeartbeats 1600000 in
theorem jHKJ (v:Value) (ls:List Pt) (w:World) (hv:IsPts w v ls) :
  Calls Tryz.prog 189 #[v] w fun e w'=>e=.returned (.bool (zamz ls))∧Below w.heap.size w w':=by
 obtain ⟨ao,ca,rfl,hla,hc⟩:=hv
 obtain ⟨R,hR⟩:∃R,zamz ls=R:=⟨_,rfl⟩
 rw[hR]
 have HB0:=hide (qUNz w (Obj.cells #[.int .i64 (ls.length:Int)] 3))
 by_cases hn:2≤(ls.length:Int)∧(ls.length:Int)≤16
 ·have hal:allIn 2 16 [(ls.length:Int)]=true:=by simp[allIn];omega
  have hdn:decide (2≤(ls.length:Int)∧(ls.length:Int)≤16)=true:=by simpa using hn
  obtain ⟨bk,off,hao,hbl,hcell⟩:∃b off,ao=some ⟨b,off,none⟩∧b<w.heap.size∧∀j,j<ls.length →
    w.cell? ⟨b,off+j*2,none⟩=some (.int .i64 (ptAt ls j).1)∧w.cell? ⟨b,off+j*2+1,none⟩=some (.int .i64 (ptAt ls j).2):=by
   rcases hc with h|h
   ·subst h;simp at hn
   ·exact h
  subst hao
  have HCELL:=hide hcell;clear hcell hc
  obtain ⟨n0,n1⟩:=hn
  have p0:=(HB0.out.cell (p:=⟨bk,off+0*2,none⟩) hbl).trans (HCELL.out 0 (by omega)).1
  have p1:=(HB0.out.cell (p:=⟨bk,off+(ls.length-1)*2,none⟩) hbl).trans (HCELL.out (ls.length-1) (by omega)).1
  rw[Nat.zero_mul,Nat.add_zero] at p0
  by_cases hf:(ptAt ls 0).1=0
  ·by_cases ht:(ptAt ls (ls.length-1)).1=65535
   ·have HR:=hide (show R=ptsOk ls ls.length by rw[←hR,zamz,jMWf,hdn,hf,ht];rfl)
    rw[hf] at p0
    rw[ht] at p1
    clear hR hdn hf ht
    go_enter Tryz.func189,Tryz.ntmps189
    go_wp2_with fail
    refine (qFis 2 16 _ [(ls.length:Int)] _ (ints1 w _)).mono ?_
    rintro e w1 ⟨rfl,rfl⟩
    rw[hal]
    go_wp2_with fail
    clear p0 p1 hal
    generalize w.alloc (Obj.cells #[.int .i64 (ls.length:Int)] 3)=U at *
    go_loopw [29] (fun i wr=>∃k:Nat,k≤ls.length∧i=.int .i64 k∧Hid (ptsOk ls k=true)∧Below w.heap.size w wr) (fun i _=>ls.length-(intOf i).toNat)
    case atStart=>exact ⟨0,Nat.zero_le _,rfl,rfl,HB0.out⟩
    case round =>
     obtain ⟨k,hk,rfl,HA,hbel⟩:=hrel
     by_cases hlt:k<ls.length
     ·have hd:decide ((k:Int)<(ls.length:Int))=true:=by simp;omega
      have c0:=(hbel.cell (p:=⟨bk,off+k*2,none⟩) hbl).trans (HCELL.out k hlt).1
      have c1:=(hbel.cell (p:=⟨bk,off+k*2+1,none⟩) hbl).trans (HCELL.out k hlt).2
      have HS:=hide (qYjQ ls k)
      have HF:=hide (fun h=>qhxg ls k ls.length hlt h)
      have hbel2:=(hbel.alloc hbel.size (Obj.cells #[.int .i64 (ptAt ls k).1,.int .i64 (ptAt ls k).2] 66)).alloc (by have:=hbel.size;simp;omega) (Obj.cells #[.int .i64 (ptAt ls k).2] 3)
      have hi1:jCvT ((wr.alloc (Obj.cells #[.int .i64 (ptAt ls k).1,.int .i64 (ptAt ls k).2] 66)).alloc (Obj.cells #[.int .i64 (ptAt ls k).2] 3)) (.slice (some ⟨wr.heap.size+1,0,none⟩) 1 1) [(ptAt ls k).2]:=by
       have:=ints1 (wr.alloc (Obj.cells #[.int .i64 (ptAt ls k).1,.int .i64 (ptAt ls k).2] 66)) (ptAt ls k).2
       rw[World.size_alloc] at this;exact this
      by_cases hy:ptY ls k=true
      ·have hal:allIn 0 65535 [(ptAt ls k).2]=true:=by
        have:=of_decide_eq_true hy
        simp[allIn];omega
       have hpr:∀i,k=i+1→wr.cell? ⟨bk,off+i*2,none⟩=some (.int .i64 (ptAt ls i).1)∧wr.cell? ⟨bk,off+i*2+1,none⟩=some (.int .i64 (ptAt ls i).2):=fun i e =>
        ⟨(hbel.cell (p:=⟨bk,off+i*2,none⟩) hbl).trans (HCELL.out i (by omega)).1,(hbel.cell (p:=⟨bk,off+i*2+1,none⟩) hbl).trans (HCELL.out i (by omega)).2⟩
       cases k with
       | zero =>
        have HT:=hide (show ptsOk ls (0+1)=true by rw[HS.out,HA.out,hy];simp[Xqx5])
        clear hy HS HF hpr
        simp only[Nat.zero_mul,Nat.add_zero] at c0 c1
        go_wp2_with fail
        refine (qFis 0 65535 _ [(ptAt ls 0).2] _ hi1).mono ?_
        rintro e w2 ⟨rfl,rfl⟩
        rw[hal]
        go_wp2_with fail
        go_quiet (fail)
        go_wp2
        go_roundw
        case rel=>exact ⟨0+1,by omega,by go_num,HT,below_drewN hbel2 _⟩
        case measure=>simp[intOf];omega
       | succ i =>
        obtain ⟨d0,d1⟩:=hpr i rfl
        clear hpr
        have hwi:IntKind.i64.wrap (i:Int)=(i:Int):=IntWalk.i64_in _ (by omega)
        have hil:i<ls.length:=by omega
        have hil2:(i:Int)<(ls.length:Int):=by omega
        have hil3:0≤(i:Int):=by omega
        have hbw:bk<wr.heap.size:=Nat.lt_of_lt_of_le hbl hbel.size
        have hb2:=be2 wr (Obj.cells #[.int .i64 (ptAt ls (i+1)).1,.int .i64 (ptAt ls (i+1)).2] 66) (Obj.cells #[.int .i64 (ptAt ls (i+1)).2] 3)
        have t0:=(hb2.cell (p:=⟨bk,off+i*2,none⟩) hbw).trans d0
        have t1:=(hb2.cell (p:=⟨bk,off+i*2+1,none⟩) hbw).trans d1
        have gg:=(al2 wr (Obj.cells #[.int .i64 (ptAt ls (i+1)).1,.int .i64 (ptAt ls (i+1)).2] 66) (Obj.cells #[.int .i64 (ptAt ls (i+1)).2] 3)).1
        have t2:((wr.alloc (Obj.cells #[.int .i64 (ptAt ls (i+1)).1,.int .i64 (ptAt ls (i+1)).2] 66)).alloc (Obj.cells #[.int .i64 (ptAt ls (i+1)).2] 3)).cell? ⟨wr.heap.size,0,none⟩=some (.int .i64 (ptAt ls (i+1)).1):=by rw[Lib.cell_of_heap gg];rfl
        have t3:((wr.alloc (Obj.cells #[.int .i64 (ptAt ls (i+1)).1,.int .i64 (ptAt ls (i+1)).2] 66)).alloc (Obj.cells #[.int .i64 (ptAt ls (i+1)).2] 3)).cell? ⟨wr.heap.size,1,none⟩=some (.int .i64 (ptAt ls (i+1)).2):=by rw[Lib.cell_of_heap gg];rfl
        clear gg hb2 d0 d1
        by_cases hs:(ptAt ls i).1<(ptAt ls (i+1)).1
        ·have hsb:decide ((ptAt ls (i+1)).1≤(ptAt ls i).1)=false:=by simp;omega
         by_cases hs2:(ptAt ls i).2≤(ptAt ls (i+1)).2
         ·have hsb2:decide ((ptAt ls (i+1)).2<(ptAt ls i).2)=false:=by simp;omega
          have HT:=hide (show ptsOk ls (i+1+1)=true by rw[HS.out,HA.out,hy];simp[Xqx5,hs,hs2])
          clear hy HS HF hs hs2
          go_wp2_with fail
          refine (qFis 0 65535 _ [(ptAt ls (i+1)).2] _ hi1).mono ?_
          rintro e w2 ⟨rfl,rfl⟩
          rw[hal]
          clear c0 c1 hi1
          generalize (wr.alloc (Obj.cells #[.int .i64 (ptAt ls (i+1)).1,.int .i64 (ptAt ls (i+1)).2] 66)).alloc (Obj.cells #[.int .i64 (ptAt ls (i+1)).2] 3)=U2 at *
          go_wp2_with fail
          go_quiet (fail)
          go_wp2
          go_roundw
          case rel=>exact ⟨i+1+1,by omega,by go_num,HT,below_drewN hbel2 _⟩
          case measure=>simp[intOf];omega
         ·have hsb2:decide ((ptAt ls (i+1)).2<(ptAt ls i).2)=true:=by simp;omega
          have HX:=hide (show false=R by rw[HR.out,HF.out (by rw[hy];simp[Xqx5];omega)])
          clear hy HS HF hs hs2
          go_wp2_with fail
          refine (qFis 0 65535 _ [(ptAt ls (i+1)).2] _ hi1).mono ?_
          rintro e w2 ⟨rfl,rfl⟩
          rw[hal]
          clear c0 c1 hi1
          generalize (wr.alloc (Obj.cells #[.int .i64 (ptAt ls (i+1)).1,.int .i64 (ptAt ls (i+1)).2] 66)).alloc (Obj.cells #[.int .i64 (ptAt ls (i+1)).2] 3)=U2 at *
          go_wp2_with fail
          go_quiet (fail)
          go_wp2
          go_ret
          exact ⟨j3Zs HX.out,below_drewN hbel2 _⟩
        ·have hsb:decide ((ptAt ls (i+1)).1≤(ptAt ls i).1)=true:=by simp;omega
         have HX:=hide (show false=R by rw[HR.out,HF.out (by rw[hy];simp[Xqx5];omega)])
         clear hy HS HF hs
         go_wp2_with fail
         refine (qFis 0 65535 _ [(ptAt ls (i+1)).2] _ hi1).mono ?_
         rintro e w2 ⟨rfl,rfl⟩
         rw[hal]
         clear c0 c1 hi1
         generalize (wr.alloc (Obj.cells #[.int .i64 (ptAt ls (i+1)).1,.int .i64 (ptAt ls (i+1)).2] 66)).alloc (Obj.cells #[.int .i64 (ptAt ls (i+1)).2] 3)=U2 at *
         go_wp2_with fail
         go_quiet (fail)
         go_wp2
         go_ret
         exact ⟨j3Zs HX.out,below_drewN hbel2 _⟩
      ·have hy:ptY ls k=false:=by simpa using hy
       have hal:allIn 0 65535 [(ptAt ls k).2]=false:=by
        have:=of_decide_eq_false hy
        rw[Bool.eq_false_iff];simp[allIn];omega
       have HX:=hide (show false=R by rw[HR.out,HF.out (by rw[hy];rfl)])
       clear hy HS HF
       go_wp2_with fail
       refine (qFis 0 65535 _ [(ptAt ls k).2] _ hi1).mono ?_
       rintro e w2 ⟨rfl,rfl⟩
       rw[hal]
       go_wp2
       go_ret
       exact ⟨j3Zs HX.out,hbel2⟩
     ·have hd:decide ((k:Int)<(ls.length:Int))=false:=by simp;omega
      have HX:=hide (show true=R by rw[HR.out,←HA.out,show k=ls.length by omega])
      go_wp2
      go_ret
      exact ⟨j3Zs HX.out,hbel⟩
   ·have HX:=hide (show false=R by rw[←hR,zamz,jMWf];simp[ht])
    have hb:((ptAt ls (ls.length-1)).1 != 65535)=true:=by simpa using ht
    rw[hf] at p0
    clear hR hdn hf ht
    go_enter Tryz.func189,Tryz.ntmps189
    go_wp2_with fail
    refine (qFis 2 16 _ [(ls.length:Int)] _ (ints1 w _)).mono ?_
    rintro e w1 ⟨rfl,rfl⟩
    rw[hal]
    go_wp2
    go_ret
    exact ⟨j3Zs HX.out,HB0.out⟩
  ·have HX:=hide (show false=R by rw[←hR,zamz,jMWf];simp[hf])
   have hb:((ptAt ls 0).1 != 0)=true:=by simpa using hf
   clear hR hdn hf
   go_enter Tryz.func189,Tryz.ntmps189
   go_wp2_with fail
   refine (qFis 2 16 _ [(ls.length:Int)] _ (ints1 w _)).mono ?_
   rintro e w1 ⟨rfl,rfl⟩
   rw[hal]
   go_wp2
   go_ret
   exact ⟨j3Zs HX.out,HB0.out⟩
 ·have hal:allIn 2 16 [(ls.length:Int)]=false:=by rw[Bool.eq_false_iff];simp[allIn];omega
  have hdn:decide (2≤(ls.length:Int)∧(ls.length:Int)≤16)=false:=by simpa using hn
  have HX:=hide (show false=R by rw[←hR,zamz,jMWf,hdn];rfl)
  clear hR hn hdn
  go_enter Tryz.func189,Tryz.ntmps189
  go_wp2_with fail
  refine (qFis 2 16 _ [(ls.length:Int)] _ (ints1 w _)).mono ?_
  rintro e w1 ⟨rfl,rfl⟩
  rw[hal]
  go_wp2
  go_ret
  exact ⟨j3Zs HX.out,HB0.out⟩
end Go.Proofs.YtfjeonehdlphiaaGreatDoor

namespace Go.Proofs.YtfjeonehdlphiaaGreatDoor
open Go.RowKit
def inTop (x:Int):Bool:=allIn 0 65535 [x]
theorem XUbU (x:Int):inTop x=true↔0≤x∧x≤65535:=by simp[inTop,allIn]
def qYU7 (ls:List Pt) (x:Int):Int:=if zamz ls=true then (if inTop x=true then 0 else 3) else 1
def zzs5 (ls:List Pt) (x:Int):Int:=if qYU7 ls x=0 then qy0p ls x else 0
set_option maxRecDepth 100000 in
theorem z26J (v:Value) (ls:List Pt) (x:Int) (w:World) (hv:IsPts w v ls) :
  Calls Tryz.prog 150 #[v,.int .i64 x] w fun e w'=>e=.returned (.tuple #[.int .i64 (zzs5 ls x),.int .i64 (qYU7 ls x)])∧Below w.heap.size w w':=by
 have HV:=hide hv
 clear hv
 obtain ⟨E,hE⟩:∃E,qYU7 ls x=E:=⟨_,rfl⟩
 obtain ⟨Z,hZ⟩:∃Z,zzs5 ls x=Z:=⟨_,rfl⟩
 rw[hE,hZ]
 rw[zzs5,hE] at hZ
 by_cases hc:zamz ls=true
 ·by_cases hx:inTop x=true
  ·have he:E=0:=by rw[←hE,qYU7,if_pos hc,if_pos hx]
   subst he
   rw[if_pos rfl] at hZ
   have HZ:=hide hZ
   obtain ⟨x0,x1⟩:=(XUbU x).1 hx
   have HC:=hide (zqz3 hc)
   clear hE hZ
   go_enter Tryz.func150,Tryz.ntmps150
   go_wp2_with fail
   refine (jHKJ _ ls _ HV.out).mono ?_
   rintro e w1 ⟨rfl,hb1⟩
   rw[hc]
   go_wp2_with fail
   refine (qFis 0 65535 _ [x] _ (ints1 w1 x)).mono ?_
   rintro e w2 ⟨rfl,rfl⟩
   rw[show allIn 0 65535 [x]=true from hx]
   have hb2:=quJN hb1 (qUNz w1 (Obj.cells #[.int .i64 x] 3))
   clear hc hx
   go_wp2_with fail
   refine (qmUZ _ ls x x0 x1 HC.out _ (HV.out.below hb2 (Nat.le_refl _))).mono ?_
   rintro e w3 ⟨rfl,hb3⟩
   go_wp2
   go_ret2
   rw[HZ.out]
   exact ⟨rfl,quJN hb2 hb3⟩
  ·have he:E=3:=by rw[←hE,qYU7,if_pos hc,if_neg hx]
   subst he
   rw[if_neg (by decide)] at hZ
   subst hZ
   have hx:allIn 0 65535 [x]=false:=by simpa [inTop] using hx
   clear hE
   go_enter Tryz.func150,Tryz.ntmps150
   go_wp2_with fail
   refine (jHKJ _ ls _ HV.out).mono ?_
   rintro e w1 ⟨rfl,hb1⟩
   rw[hc]
   go_wp2_with fail
   refine (qFis 0 65535 _ [x] _ (ints1 w1 x)).mono ?_
   rintro e w2 ⟨rfl,rfl⟩
   rw[hx]
   have hb2:=quJN hb1 (qUNz w1 (Obj.cells #[.int .i64 x] 3))
   go_wp2
   go_ret2
   exact ⟨rfl,hb2⟩
 ·have he:E=1:=by rw[←hE,qYU7,if_neg hc]
  subst he
  rw[if_neg (by decide)] at hZ
  subst hZ
  have hc:zamz ls=false:=by simpa using hc
  clear hE
  go_enter Tryz.func150,Tryz.ntmps150
  go_wp2_with fail
  refine (jHKJ _ ls _ HV.out).mono ?_
  rintro e w1 ⟨rfl,hb1⟩
  rw[hc]
  go_wp2
  go_ret2
  exact ⟨rfl,hb1⟩
def bendP (ls:List Pt) (p:Px):Px:=(qy0p ls p.1,qy0p ls p.2.1,qy0p ls p.2.2)
set_option maxRecDepth 100000 in
set_option maxHeartbeats 1600000 in
theorem X2Jq (Bl:Nat) (v:Value) (ls:List Pt) (hcv:jhAl ls) (p:Px) (hp:pxOk p=true) (V:World) (hB:Bl<V.heap.size) (hv:IsPts V v ls) (hc:V.cell? ⟨Bl,0,none⟩=some v) :
  Calls Tryz.prog 276 #[pixV p,.pointer (some ⟨Bl,0,none⟩)] V fun e w'=>e=.returned (pixV (bendP ls p))∧Below V.heap.size V w':=by
 obtain ⟨⟨r1,r2⟩,⟨g1,g2⟩,u1,u2⟩:=(X1aR p).1 hp
 obtain ⟨r,g,u⟩:=p
 simp only at r1 r2 g1 g2 u1 u2
 have HB1:=be2 V (Obj.cells #[.int .i64 r,.int .i64 g,.int .i64 u] 61) (Obj.cells #[.int .i64 0,.int .i64 0,.int .i64 0] 61)
 obtain ⟨k1,k2⟩:=al2 V (Obj.cells #[.int .i64 r,.int .i64 g,.int .i64 u] 61) (Obj.cells #[.int .i64 0,.int .i64 0,.int .i64 0] 61)
 have hsU:((V.alloc (Obj.cells #[.int .i64 r,.int .i64 g,.int .i64 u] 61)).alloc (Obj.cells #[.int .i64 0,.int .i64 0,.int .i64 0] 61)).heap.size=V.heap.size+2:=by simp
 have HV:=hide hv
 obtain ⟨ao,ca,rfl,_,_⟩:=hv
 go_enter Tryz.func276,Tryz.ntmps276
 go_wp2_with fail
 generalize (V.alloc (Obj.cells #[.int .i64 r,.int .i64 g,.int .i64 u] 61)).alloc (Obj.cells #[.int .i64 0,.int .i64 0,.int .i64 0] 61)=U at *
 have HS:=hide (show ∀w',Below U.heap.size U w'→(w'.cell? ⟨Bl,0,none⟩=some (.slice ao ls.length ca)∧w'.cell? ⟨V.heap.size,0,none⟩=some (.int .i64 r)∧w'.cell? ⟨V.heap.size,1,none⟩=some (.int .i64 g)∧w'.cell? ⟨V.heap.size,2,none⟩=some (.int .i64 u)) from fun w' h=>by
  have hV:=HB1.trans (h.mono HB1.size)
  obtain ⟨q0,q1,q2⟩:=z5EY ((h.block V.heap.size (by omega)).trans k1)
  exact ⟨(hV.cell (p:=⟨Bl,0,none⟩) hB).trans hc,q0,q1,q2⟩)
 have HS3:=hide (show ∀w' x y z,Below U.heap.size U w'→((((w'.setCell ⟨V.heap.size+1,0,none⟩ x).setCell ⟨V.heap.size+1,1,none⟩ y).setCell ⟨V.heap.size+1,2,none⟩ z).cell? ⟨Bl,0,none⟩=some (.slice ao ls.length ca)∧(((w'.setCell ⟨V.heap.size+1,0,none⟩ x).setCell ⟨V.heap.size+1,1,none⟩ y).setCell ⟨V.heap.size+1,2,none⟩ z).cell? ⟨V.heap.size,0,none⟩=some (.int .i64 r)∧(((w'.setCell ⟨V.heap.size+1,0,none⟩ x).setCell ⟨V.heap.size+1,1,none⟩ y).setCell ⟨V.heap.size+1,2,none⟩ z).cell? ⟨V.heap.size,1,none⟩=some (.int .i64 g)∧(((w'.setCell ⟨V.heap.size+1,0,none⟩ x).setCell ⟨V.heap.size+1,1,none⟩ y).setCell ⟨V.heap.size+1,2,none⟩ z).cell? ⟨V.heap.size,2,none⟩=some (.int .i64 u)) from fun w' x y z h=>by
  have hh:=HS.out w' h
  have e1:Bl≠V.heap.size+1:=by omega
  have e5:V.heap.size≠V.heap.size+1:=by omega
  rw[zd1R _ _ _ e1,zd1R _ _ _ e5,zd1R _ _ _ e5,zd1R _ _ _ e5]
  exact hh)
 have HH:=hide (show ∀w' x,Below U.heap.size U w'→0≤x→x≤65535→Calls Tryz.prog 190 #[.slice ao ls.length ca,.int .i64 x] w' fun e w''=>e=.returned (.int .i64 (qy0p ls x))∧Below U.heap.size U w''∧(w''.cell? ⟨V.heap.size+1,0,none⟩=some (.int .i64 0)∧w''.cell? ⟨V.heap.size+1,1,none⟩=some (.int .i64 0)∧w''.cell? ⟨V.heap.size+1,2,none⟩=some (.int .i64 0))∧w''.frozen? ⟨V.heap.size+1,0,none⟩=false∧w''.frozen? ⟨V.heap.size+1,1,none⟩=false∧w''.frozen? ⟨V.heap.size+1,2,none⟩=false from fun w' x h hx0 hx1 =>
  (qmUZ _ ls x hx0 hx1 hcv w' (HV.out.below (HB1.trans (h.mono HB1.size)) (Nat.le_refl _))).mono fun e w'' h2=>by
   have h3:=h.trans (h2.2.mono h.size)
   have hn:=(h3.block (V.heap.size+1) (by omega)).trans k2
   exact ⟨h2.1,h3,z5EY hn,Lib.frozen_of_heap hn 0,Lib.frozen_of_heap hn 1,Lib.frozen_of_heap hn 2⟩)
 have HFIN:=hide (show ∀w' x y z,Below U.heap.size U w'→Below V.heap.size V (((w'.setCell ⟨V.heap.size+1,0,none⟩ x).setCell ⟨V.heap.size+1,1,none⟩ y).setCell ⟨V.heap.size+1,2,none⟩ z) from fun w' x y z h=>zHqh (HB1.trans (h.mono HB1.size)) (by omega) x y z)
 have hdrew:Below U.heap.size U U.drew:=(Below.refl _ _).drew
 clear k1 k2 hc
 go_region_held3 (fun w'=>(w'.cell? ⟨Bl,0,none⟩=some (.slice ao ls.length ca)∧w'.cell? ⟨V.heap.size,0,none⟩=some (.int .i64 r)∧w'.cell? ⟨V.heap.size,1,none⟩=some (.int .i64 g)∧w'.cell? ⟨V.heap.size,2,none⟩=some (.int .i64 u)))
  (first|(refine HS.out _ ?_;assumption)|(refine HS3.out _ _ _ _ ?_;assumption))
  (first
   | (go_at_call 190;refine (HH.out _ _ ?_ ?_ ?_).mono ?_;assumption;assumption;assumption;rintro e wx ⟨rfl,hN,⟨z0,z1,z2⟩,f0,f1,f2⟩))
 all_goals
  go_wp2
  exact bodyPost_ret (v:=.agg #[.int .i64 (qy0p ls r),.int .i64 (qy0p ls g),.int .i64 (qy0p ls u)]) (by simp[results,Tryz.results276,go_sem,z0,z1,z2]) rfl ⟨rfl,HFIN.out _ _ _ _ (by assumption)⟩
def bendE (W H:Int) (ps:List Px) (ls:List Pt):Int:=if picOk W H ps=true∧zamz ls=true then 0 else 1
set_option maxRecDepth 100000 in
set_option maxHeartbeats 1600000 in
theorem q6yx (W H:Int) (v:Value) (ps:List Px) (vl:Value) (ls:List Pt) (w:World) (hv:IsPix w v ps) (hvl:IsPts w vl ls) :
  Calls Tryz.prog 275 #[.agg #[.int .i64 W,.int .i64 H,v],vl] w fun e w'=>∃r,e=.returned (.tuple #[.agg #[.int .i64 (okW (bendE W H ps ls) W),.int .i64 (okW (bendE W H ps ls) H),r],.int .i64 (bendE W H ps ls)])∧IsPix w' r (okL (bendE W H ps ls) (ps.map (bendP ls)))∧Below w.heap.size w w'∧Fresh w.heap.size r:=by
 have HV:=hide hv
 have HL:=hide hvl
 obtain ⟨ao,ca,rfl,hla,hc⟩:=hv
 obtain ⟨lo,lc,rfl,_,_⟩:=hvl
 obtain ⟨E,hE⟩:∃E,bendE W H ps ls=E:=⟨_,rfl⟩
 rw[hE]
 by_cases hp:picOk W H ps=true
 ·by_cases hm:zamz ls=true
  ·have he:E=0:=by rw[←hE,bendE,if_pos ⟨hp,hm⟩]
   subst he
   clear hE
   have HCV:=hide (zqz3 hm)
   obtain ⟨⟨w1,w2⟩,⟨h1,h2⟩,hl,hpx⟩:=XMjn hp
   obtain ⟨WN,rfl⟩:=Int.eq_ofNat_of_zero_le (show 0≤W by omega)
   obtain ⟨HN,rfl⟩:=Int.eq_ofNat_of_zero_le (show 0≤H by omega)
   have HLEN:=hide (show ps.length=HN*WN by rw[Nat.mul_comm];exact_mod_cast hl)
   have HPX:=hide hpx
   clear hl hpx
   go_enter Tryz.func275,Tryz.ntmps275
   go_wp2_with fail
   obtain ⟨a1,a2,a3⟩:=al3 w (Obj.cells #[.int .i64 (WN:Nat),.int .i64 (HN:Nat),.slice ao ps.length ca] 24) (Obj.cells #[.slice lo ls.length lc] 49) (Obj.cells #[.int .i64 0,.int .i64 0,.slice none 0 0] 24)
   have hB:=be3 w (Obj.cells #[.int .i64 (WN:Nat),.int .i64 (HN:Nat),.slice ao ps.length ca] 24) (Obj.cells #[.slice lo ls.length lc] 49) (Obj.cells #[.int .i64 0,.int .i64 0,.slice none 0 0] 24)
   have hs3:(((w.alloc (Obj.cells #[.int .i64 (WN:Nat),.int .i64 (HN:Nat),.slice ao ps.length ca] 24)).alloc (Obj.cells #[.slice lo ls.length lc] 49)).alloc (Obj.cells #[.int .i64 0,.int .i64 0,.slice none 0 0] 24)).heap.size=w.heap.size+3:=by simp
   generalize ((w.alloc (Obj.cells #[.int .i64 (WN:Nat),.int .i64 (HN:Nat),.slice ao ps.length ca] 24)).alloc (Obj.cells #[.slice lo ls.length lc] 49)).alloc (Obj.cells #[.int .i64 0,.int .i64 0,.slice none 0 0] 24)=U at *
   refine (XDTU WN HN _ ps _ (HV.out.below hB (Nat.le_refl _))).mono ?_
   rintro e w1 ⟨rfl,hb1⟩
   rw[hp]
   have g1:=(hb1.block (w.heap.size) (by omega)).trans a1
   have g2:=(hb1.block (w.heap.size+1) (by omega)).trans a2
   have g3:=(hb1.block (w.heap.size+1+1) (by omega)).trans a3
   have l0:w1.cell? ⟨w.heap.size+1,0,none⟩=some (.slice lo ls.length lc):=by rw[Lib.cell_of_heap g2];rfl
   go_wp2_with fail
   refine (jHKJ _ ls _ (HL.out.below (hB.trans (hb1.mono hB.size)) (Nat.le_refl _))).mono ?_
   rintro e w2 ⟨rfl,hb2⟩
   rw[hm]
   clear l0
   replace hb2:=quJN hb1 hb2
   replace g1:=(hb2.block (w.heap.size) (by omega)).trans a1
   replace g2:=(hb2.block (w.heap.size+1) (by omega)).trans a2
   replace g3:=(hb2.block (w.heap.size+1+1) (by omega)).trans a3
   obtain ⟨p0,p1,p2⟩:=z5EY g1
   go_wp2_with fail
   refine (jd7f WN HN (by omega) (by omega) _ ps HLEN.out 276 #[.pointer (some ⟨w.heap.size+1,0,none⟩)] (bendP ls) _ (HV.out.below (hB.trans (hb2.mono hB.size)) (Nat.le_refl _)) (enters_of Tryz.func276 (by kernel_rfl) rfl) ?_).mono ?_
   ·intro j hj V hV
    have hb3:=quJN hb2 hV
    have g2':=(hb3.block (w.heap.size+1) (by omega)).trans a2
    exact X2Jq (w.heap.size+1) _ ls HCV.out ps[j] (List.all_eq_true.1 HPX.out _ (List.getElem_mem hj)) V (by have:=hb3.size;omega) (HL.out.below (hB.trans (hb3.mono hB.size)) (Nat.le_refl _)) (by rw[Lib.cell_of_heap g2'];rfl)
   ·rintro e w3 ⟨r,rfl,hr,hb3,hfr⟩
    clear p0 p1 p2
    replace hb3:=quJN hb2 hb3
    replace g3:=(hb3.block (w.heap.size+1+1) (by omega)).trans a3
    have hs2:=hb2.size
    obtain ⟨z0,z1,z2⟩:=z5EY g3
    have f0:=Lib.frozen_of_heap g3 0
    have f1:=Lib.frozen_of_heap g3 1
    have f2:=Lib.frozen_of_heap g3 2
    have HR:=hide hr
    obtain ⟨ro,rc,rfl,_,_⟩:=hr
    have HFIN:=hide (zHqh (hB.trans (hb3.mono hB.size)) (show w.heap.size≤w.heap.size+1+1 by omega) (.int .i64 (WN:Nat)) (.int .i64 (HN:Nat)) (.slice ro (ps.map (bendP ls)).length rc))
    have HPX2:=hide (HR.out.set3 hfr (show w.heap.size+1+1<w2.heap.size by omega) (.int .i64 (WN:Nat)) (.int .i64 (HN:Nat)) (.slice ro (ps.map (bendP ls)).length rc))
    rw[List.length_map] at HPX2 HFIN hfr
    go_wp2
    exact bodyPost_ret (v:=.tuple #[.agg #[.int .i64 (WN:Nat),.int .i64 (HN:Nat),.slice ro ps.length rc],.int .i64 0]) (by simp[results,Tryz.results275,go_sem,z0,z1,z2]) rfl ⟨_,rfl,HPX2.out,HFIN.out,hfr.mono (by omega)⟩
  ·have he:E=1:=by rw[←hE,bendE,if_neg (fun h=>hm h.2)]
   have hm:zamz ls=false:=by simpa using hm
   subst he
   clear hE
   go_enter Tryz.func275,Tryz.ntmps275
   go_wp2_with fail
   obtain ⟨a1,a2,a3⟩:=al3 w (Obj.cells #[.int .i64 W,.int .i64 H,.slice ao ps.length ca] 24) (Obj.cells #[.slice lo ls.length lc] 49) (Obj.cells #[.int .i64 0,.int .i64 0,.slice none 0 0] 24)
   have hB:=be3 w (Obj.cells #[.int .i64 W,.int .i64 H,.slice ao ps.length ca] 24) (Obj.cells #[.slice lo ls.length lc] 49) (Obj.cells #[.int .i64 0,.int .i64 0,.slice none 0 0] 24)
   have hs3:(((w.alloc (Obj.cells #[.int .i64 W,.int .i64 H,.slice ao ps.length ca] 24)).alloc (Obj.cells #[.slice lo ls.length lc] 49)).alloc (Obj.cells #[.int .i64 0,.int .i64 0,.slice none 0 0] 24)).heap.size=w.heap.size+3:=by simp
   generalize ((w.alloc (Obj.cells #[.int .i64 W,.int .i64 H,.slice ao ps.length ca] 24)).alloc (Obj.cells #[.slice lo ls.length lc] 49)).alloc (Obj.cells #[.int .i64 0,.int .i64 0,.slice none 0 0] 24)=U at *
   refine (XDTU W H _ ps _ (HV.out.below hB (Nat.le_refl _))).mono ?_
   rintro e w1 ⟨rfl,hb1⟩
   rw[hp]
   have g1:=(hb1.block (w.heap.size) (by omega)).trans a1
   have g2:=(hb1.block (w.heap.size+1) (by omega)).trans a2
   have g3:=(hb1.block (w.heap.size+1+1) (by omega)).trans a3
   have l0:w1.cell? ⟨w.heap.size+1,0,none⟩=some (.slice lo ls.length lc):=by rw[Lib.cell_of_heap g2];rfl
   go_wp2_with fail
   refine (jHKJ _ ls _ (HL.out.below (hB.trans (hb1.mono hB.size)) (Nat.le_refl _))).mono ?_
   rintro e w2 ⟨rfl,hb2⟩
   rw[hm]
   clear l0
   replace hb2:=quJN hb1 hb2
   replace g1:=(hb2.block (w.heap.size) (by omega)).trans a1
   replace g2:=(hb2.block (w.heap.size+1) (by omega)).trans a2
   replace g3:=(hb2.block (w.heap.size+1+1) (by omega)).trans a3
   obtain ⟨z0,z1,z2⟩:=z5EY g3
   have f0:=Lib.frozen_of_heap g3 0
   have f1:=Lib.frozen_of_heap g3 1
   have f2:=Lib.frozen_of_heap g3 2
   have HBL:=hb2
   have HFIN:=hide (zHqh (hB.trans (HBL.mono hB.size)) (show w.heap.size≤w.heap.size+1+1 by omega) (.int .i64 0) (.int .i64 0) (.slice none 0 0))
   go_wp2
   exact bodyPost_ret (v:=.tuple #[.agg #[.int .i64 0,.int .i64 0,.slice none 0 0],.int .i64 1]) (by simp[results,Tryz.results275,go_sem,z0,z1,z2]) rfl ⟨.slice none 0 0,rfl,IsPix.nil _,HFIN.out,Fresh.nil _⟩
 ·have he:E=1:=by rw[←hE,bendE,if_neg (fun h=>hp h.1)]
  have hp:picOk W H ps=false:=by simpa using hp
  subst he
  clear hE
  go_enter Tryz.func275,Tryz.ntmps275
  go_wp2_with fail
  obtain ⟨a1,a2,a3⟩:=al3 w (Obj.cells #[.int .i64 W,.int .i64 H,.slice ao ps.length ca] 24) (Obj.cells #[.slice lo ls.length lc] 49) (Obj.cells #[.int .i64 0,.int .i64 0,.slice none 0 0] 24)
  have hB:=be3 w (Obj.cells #[.int .i64 W,.int .i64 H,.slice ao ps.length ca] 24) (Obj.cells #[.slice lo ls.length lc] 49) (Obj.cells #[.int .i64 0,.int .i64 0,.slice none 0 0] 24)
  have hs3:(((w.alloc (Obj.cells #[.int .i64 W,.int .i64 H,.slice ao ps.length ca] 24)).alloc (Obj.cells #[.slice lo ls.length lc] 49)).alloc (Obj.cells #[.int .i64 0,.int .i64 0,.slice none 0 0] 24)).heap.size=w.heap.size+3:=by simp
  generalize ((w.alloc (Obj.cells #[.int .i64 W,.int .i64 H,.slice ao ps.length ca] 24)).alloc (Obj.cells #[.slice lo ls.length lc] 49)).alloc (Obj.cells #[.int .i64 0,.int .i64 0,.slice none 0 0] 24)=U at *
  refine (XDTU W H _ ps _ (HV.out.below hB (Nat.le_refl _))).mono ?_
  rintro e w1 ⟨rfl,hb1⟩
  rw[hp]
  have g1:=(hb1.block (w.heap.size) (by omega)).trans a1
  have g2:=(hb1.block (w.heap.size+1) (by omega)).trans a2
  have g3:=(hb1.block (w.heap.size+1+1) (by omega)).trans a3
  obtain ⟨z0,z1,z2⟩:=z5EY g3
  have f0:=Lib.frozen_of_heap g3 0
  have f1:=Lib.frozen_of_heap g3 1
  have f2:=Lib.frozen_of_heap g3 2
  have HBL:=hb1
  have HFIN:=hide (zHqh (hB.trans (HBL.mono hB.size)) (show w.heap.size≤w.heap.size+1+1 by omega) (.int .i64 0) (.int .i64 0) (.slice none 0 0))
  go_wp2
  exact bodyPost_ret (v:=.tuple #[.agg #[.int .i64 0,.int .i64 0,.slice none 0 0],.int .i64 1]) (by simp[results,Tryz.results275,go_sem,z0,z1,z2]) rfl ⟨.slice none 0 0,rfl,IsPix.nil _,HFIN.out,Fresh.nil _⟩
end Go.Proofs.YtfjeonehdlphiaaGreatDoor

namespace Go.Proofs.YtfjeonehdlphiaaGreatDoor
set_option linter.unusedVariables false
open Go.RowKit
structure Plan where
 phase:Int
 black:Nat→Int
 white:Int
 spots:List Pt
 gains:Nat→Int
 matrix:Nat→Int
 curve:List Pt
 amount:Int
abbrev planA (n:Plan) (sv cv:Value):Array Value:=#[.int .i64 n.phase,.int .i64 (n.black 0),.int .i64 (n.black 1),.int .i64 (n.black 2),.int .i64 (n.black 3),.int .i64 n.white,sv,.int .i64 (n.gains 0),.int .i64 (n.gains 1),.int .i64 (n.gains 2),
 .int .i64 (n.matrix 0),.int .i64 (n.matrix 1),.int .i64 (n.matrix 2),.int .i64 (n.matrix 3),.int .i64 (n.matrix 4),.int .i64 (n.matrix 5),.int .i64 (n.matrix 6),.int .i64 (n.matrix 7),.int .i64 (n.matrix 8),cv,.int .i64 n.amount]
theorem qH9I {w:World} {b:Nat} {t:TypeId} {fr:Nat×Nat} {n:Plan} {sv cv:Value} (h:w.heap[b]?=some (.cells (planA n sv cv) t fr)) :
  w.cell? ⟨b,0,none⟩=some (.int .i64 n.phase)∧w.cell? ⟨b,1,none⟩=some (.int .i64 (n.black 0))∧w.cell? ⟨b,2,none⟩=some (.int .i64 (n.black 1))∧w.cell? ⟨b,3,none⟩=some (.int .i64 (n.black 2))∧w.cell? ⟨b,4,none⟩=some (.int .i64 (n.black 3))∧w.cell? ⟨b,5,none⟩=some (.int .i64 n.white)∧w.cell? ⟨b,6,none⟩=some sv ∧
  w.cell? ⟨b,7,none⟩=some (.int .i64 (n.gains 0))∧w.cell? ⟨b,8,none⟩=some (.int .i64 (n.gains 1))∧w.cell? ⟨b,9,none⟩=some (.int .i64 (n.gains 2))∧w.cell? ⟨b,10,none⟩=some (.int .i64 (n.matrix 0))∧w.cell? ⟨b,11,none⟩=some (.int .i64 (n.matrix 1))∧w.cell? ⟨b,12,none⟩=some (.int .i64 (n.matrix 2))∧w.cell? ⟨b,13,none⟩=some (.int .i64 (n.matrix 3)) ∧
  w.cell? ⟨b,14,none⟩=some (.int .i64 (n.matrix 4))∧w.cell? ⟨b,15,none⟩=some (.int .i64 (n.matrix 5))∧w.cell? ⟨b,16,none⟩=some (.int .i64 (n.matrix 6))∧w.cell? ⟨b,17,none⟩=some (.int .i64 (n.matrix 7))∧w.cell? ⟨b,18,none⟩=some (.int .i64 (n.matrix 8))∧w.cell? ⟨b,19,none⟩=some cv∧w.cell? ⟨b,20,none⟩=some (.int .i64 n.amount):=by
 refine ⟨?_,?_,?_,?_,?_,?_,?_,?_,?_,?_,?_,?_,?_,?_,?_,?_,?_,?_,?_,?_,?_⟩<;>(rw[Lib.cell_of_heap h];rfl)
structure X1uD (w:World) (n:Plan) (sv cv:Value):Prop where
 spots:IsPts w sv n.spots
 curve:IsPts w cv n.curve
theorem X1uD.below {w w':World} {n:Plan} {sv cv:Value} {B:Nat} (h:X1uD w n sv cv) (hb:Below B w w') (hB:w.heap.size≤B):X1uD w' n sv cv:=⟨h.spots.below hb hB,h.curve.below hb hB⟩
def zU8n (n:Plan):Bool:=qdne n.phase && zN6Q n.black n.white && j1E7 n.gains
def jmgp (n:Plan):Bool:=matOk n.matrix && XbQH n.amount
def q0Sl (n:Plan):Bool:=decide ((n.spots.length:Int)≤64) && XepW 64 64 n.spots
def planE (n:Plan):Int:=if (zU8n n && jmgp n && q0Sl n)=true then (if zamz n.curve=true then 0 else 1) else 3
set_option maxRecDepth 100000 in
set_option maxHeartbeats 3200000 in
theorem jkni (n:Plan) (sv cv:Value) (w:World) (hp:X1uD w n sv cv) :
  Calls Tryz.prog 93 #[.agg (planA n sv cv)] w fun e w'=>e=.returned (.int .i64 (planE n))∧Below w.heap.size w w':=by
 have HP:=hide hp
 obtain ⟨⟨lo,lc,rfl,hll,_⟩,⟨ko,kc,rfl,hkl,_⟩⟩:=hp
 have a1:=al1 w (Obj.cells (planA n (.slice lo n.spots.length lc) (.slice ko n.curve.length kc)) 51)
 have HB:=hide (qUNz w (Obj.cells (planA n (.slice lo n.spots.length lc) (.slice ko n.curve.length kc)) 51))
 obtain ⟨E,hE⟩:∃E,planE n=E:=⟨_,rfl⟩
 rw[hE]
 have HPH:=hide (fun u=>qtgz n.phase u)
 have HLV:=hide (fun u=>zO8p n.black n.white u)
 have HGA:=hide (fun u=>XByj n.gains u)
 have HMA:=hide (fun u=>XdM0 n.matrix u)
 have HAM:=hide (fun u=>Xfvu n.amount u)
 have HE:=hide (show E=if (zU8n n && jmgp n && q0Sl n)=true then (if zamz n.curve=true then 0 else 1) else 3 from hE.symm)
 have HSE:=hide (show zU8n n=(qdne n.phase && zN6Q n.black n.white && j1E7 n.gains) from rfl)
 have HTO:=hide (show jmgp n=(matOk n.matrix && XbQH n.amount) from rfl)
 have HSP:=hide (show q0Sl n=(decide ((n.spots.length:Int)≤64) && XepW 64 64 n.spots) from rfl)
 clear hE
 go_enter Tryz.func93,Tryz.ntmps93
 go_upto_region 1 with fail
 have hl1:=(Array.getElem?_eq_some_iff.1 a1).1
 generalize w.alloc (Obj.cells (planA n (.slice lo n.spots.length lc) (.slice ko n.curve.length kc)) 51)=U at *
 have HCL:=hide (fun (v:World) (h:Below U.heap.size U v)=>qH9I ((h.block _ hl1).trans a1))
 go_cut [3] from 9 (fun s v=>s=.bool (zU8n n)∧Below U.heap.size U v)
 case first =>
  obtain ⟨c0,c1,c2,c3,c4,c5,c6,c7,c8,c9,c10,c11,c12,c13,c14,c15,c16,c17,c18,c19,c20⟩:=HCL.out U (Below.refl _ _)
  go_wp2_with fail
  refine (HPH.out _).mono ?_
  rintro e V1 ⟨rfl,hb1⟩
  clear c0 c1 c2 c3 c4 c5 c6 c7 c8 c9 c10 c11 c12 c13 c14 c15 c16 c17 c18 c19 c20
  cases hp1:qdne n.phase
  ·have HS0:=hide (show false=zU8n n by rw[HSE.out,hp1];rfl)
   go_wp2
   go_meet
   case rel=>exact ⟨by rw[HS0.out],hb1⟩
  ·obtain ⟨c0,c1,c2,c3,c4,c5,c6,c7,c8,c9,c10,c11,c12,c13,c14,c15,c16,c17,c18,c19,c20⟩:=HCL.out V1 hb1
   go_wp2_with fail
   refine (HLV.out _).mono ?_
   rintro e V2 ⟨rfl,hb2⟩
   replace hb2:=quJN hb1 hb2
   clear c0 c1 c2 c3 c4 c5 c6 c7 c8 c9 c10 c11 c12 c13 c14 c15 c16 c17 c18 c19 c20
   cases hp2:zN6Q n.black n.white
   ·have HS0:=hide (show false=zU8n n by rw[HSE.out,hp1,hp2];rfl)
    go_wp2
    go_meet
    case rel=>exact ⟨by rw[HS0.out],hb2⟩
   ·obtain ⟨c0,c1,c2,c3,c4,c5,c6,c7,c8,c9,c10,c11,c12,c13,c14,c15,c16,c17,c18,c19,c20⟩:=HCL.out V2 hb2
    go_wp2_with fail
    refine (HGA.out _).mono ?_
    rintro e V3 ⟨rfl,hb3⟩
    replace hb3:=quJN hb2 hb3
    have HS0:=hide (show j1E7 n.gains=zU8n n by rw[HSE.out,hp1,hp2];rfl)
    rw[HS0.out]
    go_wp2
    go_meet
    case rel=>exact ⟨rfl,hb3⟩
 case rest =>
  obtain ⟨rfl,hbc⟩:=hcut
  go_upto_region 2 with fail
  go_cut [4] from 9 (fun s v=>s=.bool (jmgp n)∧Below U.heap.size U v)
  case first =>
   obtain ⟨c0,c1,c2,c3,c4,c5,c6,c7,c8,c9,c10,c11,c12,c13,c14,c15,c16,c17,c18,c19,c20⟩:=HCL.out _ hbc
   go_wp2_with fail
   refine (HMA.out _).mono ?_
   rintro e V1 ⟨rfl,hb1⟩
   replace hb1:=quJN hbc hb1
   clear c0 c1 c2 c3 c4 c5 c6 c7 c8 c9 c10 c11 c12 c13 c14 c15 c16 c17 c18 c19 c20
   cases hp1:matOk n.matrix
   ·have HS0:=hide (show false=jmgp n by rw[HTO.out,hp1];rfl)
    go_wp2
    go_meet
    case rel=>exact ⟨by rw[HS0.out],hb1⟩
   ·obtain ⟨c0,c1,c2,c3,c4,c5,c6,c7,c8,c9,c10,c11,c12,c13,c14,c15,c16,c17,c18,c19,c20⟩:=HCL.out V1 hb1
    go_wp2_with fail
    refine (HAM.out _).mono ?_
    rintro e V2 ⟨rfl,hb2⟩
    replace hb2:=quJN hb1 hb2
    have HS0:=hide (show XbQH n.amount=jmgp n by rw[HTO.out,hp1];rfl)
    rw[HS0.out]
    go_wp2
    go_meet
    case rel=>exact ⟨rfl,hb2⟩
  case rest =>
   obtain ⟨rfl,hbd⟩:=hcut
   have g1:=al1 wc (Obj.cells #[.int .i64 64,.int .i64 64] 95)
   have hbg:=quJN hbd (qUNz wc (Obj.cells #[.int .i64 64,.int .i64 64] 95))
   go_upto_region 4 with fail
   have hlg:=(Array.getElem?_eq_some_iff.1 g1).1
   generalize wc.alloc (Obj.cells #[.int .i64 64,.int .i64 64] 95)=G at *
   go_cut [6] from 9 (fun s v=>s=.bool (q0Sl n)∧Below U.heap.size U v)
   case first =>
    obtain ⟨c0,c1,c2,c3,c4,c5,c6,c7,c8,c9,c10,c11,c12,c13,c14,c15,c16,c17,c18,c19,c20⟩:=HCL.out _ hbg
    obtain ⟨q0,q1⟩:=bx2 g1
    by_cases hln:(n.spots.length:Int)≤64
    ·have hd:decide ((n.spots.length:Int)≤64)=true:=by simpa using hln
     go_wp2_with fail
     refine (qdq5 64 64 _ n.spots _ (HP.out.spots.below (HB.out.trans (hbg.mono HB.out.size)) (Nat.le_refl _))).mono ?_
     rintro e V2 ⟨rfl,hb2⟩
     replace hb2:=quJN hbg hb2
     have HS0:=hide (show XepW 64 64 n.spots=q0Sl n by rw[HSP.out,hd];rfl)
     rw[HS0.out]
     go_wp2
     go_meet
     case rel=>exact ⟨rfl,hb2⟩
    ·have hd:decide ((n.spots.length:Int)≤64)=false:=by simpa using hln
     have HS0:=hide (show false=q0Sl n by rw[HSP.out,hd];rfl)
     go_wp2
     go_meet
     case rel=>exact ⟨by rw[HS0.out],hbg⟩
   case rest =>
    obtain ⟨rfl,hbe⟩:=hcut
    have HBE:=hide (HB.out.trans (hbe.mono HB.out.size))
    cases hs1:zU8n n
    ·have he:E=3:=by rw[HE.out,hs1];rfl
     subst he
     go_wp2
     go_ret
     exact ⟨rfl,HBE.out⟩
    ·cases hs2:jmgp n
     ·have he:E=3:=by rw[HE.out,hs1,hs2];rfl
      subst he
      go_wp2
      go_ret
      exact ⟨rfl,HBE.out⟩
     ·cases hs3:q0Sl n
      ·have he:E=3:=by rw[HE.out,hs1,hs2,hs3];rfl
       subst he
       go_wp2
       go_ret
       exact ⟨rfl,HBE.out⟩
      ·have HE2:=hide (show E=qYU7 n.curve 0 by rw[HE.out,hs1,hs2,hs3];rfl)
       obtain ⟨c0,c1,c2,c3,c4,c5,c6,c7,c8,c9,c10,c11,c12,c13,c14,c15,c16,c17,c18,c19,c20⟩:=HCL.out _ hbe
       go_wp2_with fail
       refine (z26J _ n.curve 0 _ (HP.out.curve.below HBE.out (Nat.le_refl _))).mono ?_
       rintro e V2 ⟨rfl,hb2⟩
       rw[←HE2.out]
       go_wp2
       go_ret
       exact ⟨rfl,quJN HBE.out hb2⟩
theorem qwVl {n:Plan} (h:planE n=0):qdne n.phase=true∧zN6Q n.black n.white=true∧j1E7 n.gains=true∧matOk n.matrix=true∧XbQH n.amount=true∧(n.spots.length:Int)≤64∧XepW 64 64 n.spots=true∧zamz n.curve=true:=by
 unfold planE at h
 split at h
 ·rename_i h1
  split at h
  ·rename_i h2
   simp only[zU8n,jmgp,q0Sl,Bool.and_eq_true,decide_eq_true_eq] at h1
   exact ⟨h1.1.1.1.1,h1.1.1.1.2,h1.1.1.2,h1.1.2.1,h1.1.2.2,h1.2.1,h1.2.2,h2⟩
  ·cases h
 ·cases h
end Go.Proofs.YtfjeonehdlphiaaGreatDoor

namespace Go.Proofs.YtfjeonehdlphiaaGreatDoor
open Go.RowKit
theorem jszi (n:Int) (h0:0≤n) (h1:n≤1000000000000000) (w:World) :
  Calls Tryz.prog 196 #[.int .i64 n] w fun e w'=>e=.returned (.int .i64 ((n+7) / 8))∧w=w':=by
 go_enter Tryz.func196,Tryz.ntmps196
 go_wp2
 go_ret
 exact ⟨rfl,rfl⟩
set_option maxHeartbeats 400000 in
theorem zRqm (s:ByteArray) (w:World) (hs:s.size≤maxLen) :
  Calls Tryz.prog 208 #[.string s] w fun e w'=>e=.returned (.bool (allB s.data.toList))∧w=w':=by
 unfold maxLen at hs
 go_enter Tryz.func208,Tryz.ntmps208
 go_wp2
 go_loop [6] (fun i=>∃k:Nat,k≤s.size∧i=.int .i64 k∧Hid (allB (s.data.toList.take k)=true)) (fun i=>s.size-(intOf i).toNat)
 case atStart=>exact ⟨0,Nat.zero_le _,rfl,rfl⟩
 case round =>
  obtain ⟨k,hk,rfl,H⟩:=hrel
  by_cases hlt:k<s.size
  ·have step:(s[k].toNat:Int)=48∨(s[k].toNat:Int)=49→Hid (allB (s.data.toList.take (k+1))=true):=fun h=>by
    show allB _=true
    rw[qjCJ s k hlt,XWpK,H.out];simp[isBit];omega
   have stop:¬(s[k].toNat:Int)=48→¬(s[k].toNat:Int)=49→allB s.data.toList=false:=fun a b =>
    XzAH k (by simpa using hlt) (by rw[XWox s k hlt];omega) (by rw[XWox s k hlt];omega)
   have step:=hide step
   have stop:=hide stop
   go_wp2
   ·go_round
    case rel=>exact ⟨k+1,by omega,by go_num,(zcHp step) (.inl (by assumption))⟩
    case measure=>simp[intOf];omega
   ·rename_i h _
    simp only[bne_iff_ne,ne_eq] at h
    go_ret
    exact ⟨j3Zs (by rw[(zcHp stop) h.1 h.2]),rfl⟩
   ·rename_i h
    simp only[bne_eq_false_iff_eq] at h
    go_round
    case rel=>exact ⟨k+1,by omega,by go_num,(zcHp step) h⟩
    case measure=>simp[intOf];omega
  ·go_wp2
   go_ret
   exact ⟨j3Zs (by rw[←H.out,j7UF _ _ (by omega)]),rfl⟩
theorem qfml (n:Int) (w:World) :
  Calls Tryz.prog 172 #[.int .i64 n] w fun e w'=>e=.returned (.bool (XSys n))∧w=w':=by
 by_cases h1:1≤n
 all_goals by_cases h2:n≤16
 all_goals
  go_enter Tryz.func172,Tryz.ntmps172
  go_wp2
  go_ret
  exact ⟨j3Zs (by simp[XSys,h1,h2]),rfl⟩
theorem qlmt (s:ByteArray) (k:Nat) (hlt:k<s.size) (h16:s.size≤16) (hb:allB s.data.toList=true) :
  valOf (s.data.toList.take k)<65536∧48≤s[k].toNat∧s[k].toNat≤49 ∧
  (valOf (s.data.toList.take (k+1)):Int)=2*(valOf (s.data.toList.take k):Int)+((s[k].toNat:Int)-48):=by
 have h1:=zEdZ _ (zTn5 hb k)
 have hl:(s.data.toList.take k).length≤16:=by simp;omega
 have h2:=pow16 hl
 have h3:=XUy1 hb k (by simpa using hlt)
 rw[XWox s k hlt] at h3
 rw[qjCJ s k hlt,jvvo]
 omega
def XJ2V (s:ByteArray):Int:=if allB s.data.toList=true∧s.size≤16 then (valOf s.data.toList:Int) else 0
def XN5M (s:ByteArray):Int:=if allB s.data.toList=true then (if s.size≤16 then 0 else 3) else 1
set_option maxHeartbeats 400000 in
theorem quOn (s:ByteArray) (w:World) (hs:s.size≤maxLen) :
  Calls Tryz.prog 199 #[.string s] w fun e w'=>e=.returned (.tuple #[.int .i64 (XJ2V s),.int .i64 (XN5M s)])∧w=w':=by
 have hs0:=hs
 unfold maxLen at hs
 by_cases hb:allB s.data.toList=true
 ·by_cases h16:s.size≤16
  ·have hN:Hid (XJ2V s=valOf s.data.toList):=if_pos ⟨hb,h16⟩
   have hE:Hid (XN5M s=0):=(if_pos hb).trans (if_pos h16)
   have HB:=hide hb
   go_enter Tryz.func199,Tryz.ntmps199
   go_wp2_with (go_at_call 208;refine (zRqm _ _ hs0).mono ?_;rintro e w' ⟨rfl,rfl⟩)
   clear hb
   go_loop [4,14] (fun n i=>∃k:Nat,k≤s.size∧i=.int .i64 k∧n=.int .i64 (valOf (s.data.toList.take k))) (fun _ i=>s.size-(intOf i).toNat)
   case atStart=>exact ⟨0,Nat.zero_le _,rfl,rfl⟩
   case round =>
    obtain ⟨k,hk,rfl,rfl⟩:=hrel
    by_cases hlt:k<s.size
    ·obtain ⟨a,b,c,d⟩:=qlmt s k hlt h16 HB.out
     have D:=hide d;clear d
     go_wp2
     go_round
     case rel=>exact ⟨k+1,by omega,by go_num,congrArg (Value.int IntKind.i64) D.out.symm⟩
     case measure=>simp[intOf];omega
    ·go_wp2
     go_ret2
     rw[hN.out,hE.out]
     exact ⟨jV70 (congrArg (fun l=>Value.int IntKind.i64 (valOf l:Nat)) (j7UF s k (by omega))) rfl,rfl⟩
  ·have hN:Hid (XJ2V s=0):=if_neg (fun h=>h16 h.2)
   have hE:Hid (XN5M s=3):=(if_pos hb).trans (if_neg h16)
   go_enter Tryz.func199,Tryz.ntmps199
   go_wp2_with (go_at_call 208;refine (zRqm _ _ hs0).mono ?_;rintro e w' ⟨rfl,rfl⟩)
   go_ret2
   rw[hN.out,hE.out]
   exact ⟨rfl,rfl⟩
 ·have hN:Hid (XJ2V s=0):=if_neg (fun h=>hb h.1)
  have hE:Hid (XN5M s=1):=if_neg hb
  have hb:allB s.data.toList=false:=by simpa using hb
  go_enter Tryz.func199,Tryz.ntmps199
  go_wp2_with (go_at_call 208;refine (zRqm _ _ hs0).mono ?_;rintro e w' ⟨rfl,rfl⟩)
  go_ret2
  rw[hN.out,hE.out]
  exact ⟨rfl,rfl⟩
end Go.Proofs.YtfjeonehdlphiaaGreatDoor

namespace Go.Proofs.YtfjeonehdlphiaaGreatDoor
open Go.RowKit
theorem Tryz.infoU8:(Tryz.prog.info? 5).map (fun i=>(i.zero,i.size,i.bytes))=some (some (.int .u8 0),1,1):=by kernel_rfl
theorem jSrY {n:Nat} (h:n≤16):wrap64 ((2:Int) ^ n)=((2 ^ n:Nat):Int):=by
 have:=pow16 h
 rw[q5J9]
 generalize 2 ^ n=p at *
 exact IntWalk.wrap64_in _ (by omega)
def jkag (n size k:Nat):List Value:=List.replicate (size-k) (.int .u8 0)++byt (jJyG n k)
theorem jZd5 (n size k:Nat) (h:k<size):(jkag n size k)[size-1-k]?=some (.int .u8 0):=by
 rw[jkag,List.getElem?_append_left (by simp;omega),List.getElem?_replicate,if_pos (by omega)]
theorem jmx6 (n size k:Nat) (h:k<size):(jkag n size k).set (size-1-k) (.int .u8 (48+(n / 2 ^ k % 2:Nat):Int))=jkag n size (k+1):=by
 rw[jkag,jkag,XCcv,List.set_append_left _ _ (by simp;omega)]
 have:size-k=(size-1-k)+1:=by omega
 rw[this,List.replicate_succ',List.set_append_right _ _ (by simp)]
 simp only[List.length_replicate,Nat.sub_self,List.set_cons_zero]
 rw[show size-(k+1)=size-1-k by omega]
 simp only[byt,List.map_cons,List.append_assoc,List.cons_append,List.nil_append]
 congr 3
 have:n / 2 ^ k % 2<2:=Nat.mod_lt _ (by decide)
 simp[UInt8.toNat_ofNat']
 omega
theorem zq4v (n size:Nat):jkag n size 0=(madeCells (Value.int .u8 0).cells (size*1)).toList:=by
 rw[show (Value.int .u8 0).cells=#[Value.int .u8 0] from rfl,toList_madeCells_one];simp[jkag,jJyG,byt]
theorem qfAe (n size:Nat):jkag n size size=byt (jJyG n size):=by simp[jkag]
set_option maxRecDepth 100000 in
set_option maxHeartbeats 400000 in
theorem XFu1 (n size:Nat) (h16:size≤16) (hn:n<2 ^ size) (w:World) :
  Calls Tryz.prog 173 #[.int .i64 n,.int .i64 size] w fun e w'=>e=.returned (.tuple #[.string (str (jJyG n size)),.int .i64 0])∧Below w.heap.size w w':=by
 obtain ⟨p,hp⟩:∃p:Nat,p=2 ^ size:=⟨_,rfl⟩
 have hw:=jSrY h16
 have hp16:=pow16 h16
 rw[←hp] at hw hn hp16
 have HP:=hide hp;clear hp
 obtain ⟨i0,hi,hz0,hz1,hz2⟩:=info_parts Tryz.infoU8
 go_enter Tryz.func173,Tryz.ntmps173
 go_wp2_with (at_make;refine wpList_make_full _ rfl _ _ 74 rfl w.heap.size 5 i0 (.int .u8 0) 1 Tryz.underlying74 hi hz0 hz1 .i64 .i64 _ _ size rfl rfl rfl rfl (by rw[hz2];omega) (by unfold maxLen;omega) (Nat.le_refl _) ?_;intro w1 hown hgr)
 go_loopw [28] (fun i wr=>∃k:Nat,k≤size∧i=.int .i64 k∧wr.ownsRow w.heap.size 5 1 (.slice (some ⟨w.heap.size,0,none⟩) size size) size (jkag n size k)∧Below w.heap.size w wr)
  (fun i _=>size-(intOf i).toNat)
 case atStart=>exact ⟨0,Nat.zero_le _,rfl,by rw[zq4v];exact hown,(Below.refl _ _).grown hgr (Nat.le_refl _) (by simp)⟩
 case round =>
  obtain ⟨k,hk,rfl,ho,hb⟩:=hrel
  by_cases hlt:k<size
  ·have hc:=ho.cellAt (size-1-k) (by omega)
   rw[jZd5 n size k hlt] at hc
   have hf:=ho.frozenAt (size-1-k)
   have hs:=ho.stored (size-1-k) (.int .u8 (48+(n / 2 ^ k % 2:Nat):Int))
   rw[jmx6 n size k hlt] at hs
   have HS:=hide hs;clear hs
   go_wp2
   go_roundw
   case rel =>
    rw[zwz8]
    exact ⟨k+1,by omega,by go_num,HS.out.1,hb.setCell (Nat.le_refl _) _⟩
   case measure=>simp[intOf];omega
  ·obtain rfl:k=size:=by omega
   rw[qfAe] at ho
   have hcv:=jxMI (dst:=9) Tryz.underlying74 Tryz.underlying5 Tryz.underlying9 ho
   go_wp2
   go_ret2
   exact ⟨rfl,hb⟩
set_option maxRecDepth 100000 in
set_option maxHeartbeats 400000 in
theorem zMWq (n size:Int) (h:size<0∨16<size∨(0≤size∧size≤16∧n<0)∨∃k p:Nat,size=k∧k≤16∧p=2 ^ k∧(p:Int)≤n) (w:World) :
  Calls Tryz.prog 173 #[.int .i64 n,.int .i64 size] w fun e w'=>e=.returned (.tuple #[.string (str []),.int .i64 3])∧w=w':=by
 rcases h with h|h|⟨h1,h2,h3⟩|⟨k,p,rfl,hk,hp,hle⟩
 ·go_enter Tryz.func173,Tryz.ntmps173
  go_wp2
  go_ret2
  exact ⟨rfl,rfl⟩
 ·go_enter Tryz.func173,Tryz.ntmps173
  go_wp2
  go_ret2
  exact ⟨rfl,rfl⟩
 ·go_enter Tryz.func173,Tryz.ntmps173
  go_wp2
  go_ret2
  exact ⟨rfl,rfl⟩
 ·have hw:=jSrY hk
  rw[←hp] at hw
  have h0:0≤n:=by omega
  clear hp
  go_enter Tryz.func173,Tryz.ntmps173
  go_wp2
  go_ret2
  exact ⟨rfl,rfl⟩
theorem jz4N (n size:Int) (w:World) :
  Calls Tryz.prog 173 #[.int .i64 n,.int .i64 size] w fun e w'=>e=.returned (.tuple #[.string (numS n size),.int .i64 (numE n size)])∧Below w.heap.size w w':=by
 rcases XhgL n size with ⟨m,k,rfl,rfl,h1,h2,h3⟩|⟨h1,h2⟩
 ·refine (XFu1 m k h1 h2 w).mono fun e w' ⟨he,hb⟩=>⟨?_,hb⟩
  rw[he,numS,numE,if_pos h3,if_pos h3];simp
 ·refine (zMWq n size h2 w).mono fun e w' ⟨he,hb⟩=>⟨?_,hb ▸ Below.refl _ _⟩
  rw[he,numS,numE,if_neg (by simp[h1]),if_neg (by simp[h1])]
end Go.Proofs.YtfjeonehdlphiaaGreatDoor

namespace Go.Proofs.YtfjeonehdlphiaaGreatDoor
open Go.RowKit
set_option maxRecDepth 100000 in
set_option maxHeartbeats 400000 in
theorem jIcm (v:Value) (xs:List Int) (w:World) (hv:jCvT w v xs) :
  Calls Tryz.prog 120 #[v] w fun e w'=>e=.returned (.int .i64 (qO3F xs))∧w=w':=by
 obtain ⟨ao,ca,rfl,hla,hc⟩:=hv
 have HC:=hide hc;clear hc
 by_cases hl:1≤xs.length∧xs.length≤17
 ·obtain ⟨hl1,hl2⟩:=hl
  have hd1:decide ((xs.length:Int)<1)=false:=by simp;omega
  have hd2:decide (17<(xs.length:Int))=false:=by simp;omega
  obtain ⟨b,off,hao,hbl,hcell⟩:∃b off,ao=some ⟨b,off,none⟩∧b<w.heap.size∧∀j (h:j<xs.length),w.cell? ⟨b,off+j,none⟩=some (.int .i64 xs[j]):=by
   rcases HC.out with h|h
   ·subst h;exact absurd hl1 (by simp)
   ·exact h
  subst hao
  have HCELL:=hide hcell;clear hcell HC
  go_enter Tryz.func120,Tryz.ntmps120
  go_wp2
  go_loop [3,16] (fun t i=>∃k:Nat,k≤xs.length∧i=.int .i64 k∧t=.int .i64 (ksum (xs.take k):Nat)∧Hid (qtFp (xs.take k)=true)) (fun _ i=>xs.length-(intOf i).toNat)
  case atStart=>exact ⟨0,Nat.zero_le _,rfl,rfl,rfl⟩
  case round =>
   obtain ⟨k,hk,rfl,rfl,HA⟩:=hrel
   have hks:ksum (xs.take k)≤557056:=by
    have h1:=zlvS (xs.take k)
    have h2:(xs.take k).length≤17:=by simp;omega
    omega
   by_cases hlt:k<xs.length
   ·have c1:=HCELL.out k hlt
    have HT:=hide (show xs.take (k+1)=xs.take k++[xs[k]] from List.take_succ_eq_append_getElem hlt)
    by_cases hx0:0≤xs[k]
    ·by_cases hx1:xs[k]≤15
     ·have HO:=hide (show qtFp (xs.take (k+1))=true by rw[HT.out,X0sA,HA.out];simp[lenOk,hx0,hx1])
      by_cases hx2:0<xs[k]
      ·obtain ⟨m,hm⟩:=Int.eq_ofNat_of_zero_le hx0
       rw[hm] at c1 hx1 hx2
       have HK:=hide (show ksum (xs.take (k+1))=ksum (xs.take k)+2 ^ (15-m) by
        rw[HT.out,qDB7,hm,wt,if_pos hx2];simp)
       have hw:=jSrY (n:=15-m) (by omega)
       have hp:=pow16 (n:=15-m) (by omega)
       generalize 2 ^ (15-m)=p at *
       clear hm hx0
       generalize ksum (xs.take k)=S at *
       go_wp2
       go_round
       case rel=>exact ⟨k+1,by omega,by go_num,by rw[HK.out];go_num,HO⟩
       case measure=>simp[intOf];omega
      ·obtain hm:xs[k]=0:=by omega
       have HK:=hide (show ksum (xs.take (k+1))=ksum (xs.take k) by
        rw[HT.out,qDB7,wt,if_neg hx2];simp)
       rw[hm] at c1
       clear hx0 hx1 hx2 hm
       generalize ksum (xs.take k)=S at *
       go_wp2
       go_round
       case rel=>exact ⟨k+1,by omega,by go_num,by rw[HK.out],HO⟩
       case measure=>simp[intOf];omega
     ·have HE:Hid (qO3F xs=3):=by show _=_;rw[qO3F,if_pos ⟨hl1,hl2⟩,zrc5 xs k hlt (by simp[lenOk];omega)];rfl
      go_wp2
      go_ret
      rw[HE.out]
      exact ⟨rfl,rfl⟩
    ·have HE:Hid (qO3F xs=3):=by show _=_;rw[qO3F,if_pos ⟨hl1,hl2⟩,zrc5 xs k hlt (by simp[lenOk];omega)];rfl
     go_wp2
     go_ret
     rw[HE.out]
     exact ⟨rfl,rfl⟩
   ·have HX:xs.take k=xs:=List.take_of_length_le (by omega)
    rw[HX] at HA hks ⊢
    clear HX
    by_cases hz:ksum xs=0
    ·have HE:Hid (qO3F xs=1):=by show _=_;rw[qO3F,if_pos ⟨hl1,hl2⟩,if_pos HA.out,if_pos (.inl hz)]
     rw[hz]
     go_wp2
     go_ret
     rw[HE.out]
     exact ⟨rfl,rfl⟩
    ·by_cases hb:32768<ksum xs
     ·have HE:Hid (qO3F xs=1):=by show _=_;rw[qO3F,if_pos ⟨hl1,hl2⟩,if_pos HA.out,if_pos (.inr hb)]
      generalize ksum xs=S at *
      go_wp2
      go_ret
      rw[HE.out]
      exact ⟨rfl,rfl⟩
     ·have HE:Hid (qO3F xs=0):=by show _=_;rw[qO3F,if_pos ⟨hl1,hl2⟩,if_pos HA.out,if_neg (by omega)]
      generalize ksum xs=S at *
      have hz2:((S:Int) == 0)=false:=by simp;omega
      have hb2:decide (32768<(S:Int))=false:=by simp;omega
      go_wp2
      go_ret
      rw[HE.out]
      exact ⟨rfl,rfl⟩
 ·have HE:Hid (qO3F xs=2):=by show _=_;rw[qO3F,if_neg hl]
  by_cases h1:xs.length<1
  ·have hd1:decide ((xs.length:Int)<1)=true:=by simp;omega
   go_enter Tryz.func120,Tryz.ntmps120
   go_wp2
   go_ret
   rw[HE.out]
   exact ⟨rfl,rfl⟩
  ·have hd1:decide ((xs.length:Int)<1)=false:=by simp;omega
   have hd2:decide (17<(xs.length:Int))=true:=by simp;omega
   go_enter Tryz.func120,Tryz.ntmps120
   go_wp2
   go_ret
   rw[HE.out]
   exact ⟨rfl,rfl⟩
end Go.Proofs.YtfjeonehdlphiaaGreatDoor

namespace Go.Proofs.YtfjeonehdlphiaaGreatDoor
open Go.RowKit
theorem Tryz.infoStr:(Tryz.prog.info? 9).map (fun i=>(i.zero,i.size,i.bytes))=some (some (.string ⟨#[]⟩),1,16):=by kernel_rfl
def j1jj (w:World) (v:Value) (ts:List (List UInt8)):Prop :=
 ∃ao cap,v=.slice ao ts.length cap∧ts.length≤1000000∧(ts=[]∨∃b off,ao=some ⟨b,off,none⟩∧b<w.heap.size∧∀j (h:j<ts.length),w.cell? ⟨b,off+j,none⟩=some (.string (str ts[j])))
theorem j1jj.below {w w':World} {v:Value} {ts:List (List UInt8)} {B:Nat} (h:j1jj w v ts) (hb:Below B w w') (hB:w.heap.size≤B):j1jj w' v ts:=by
 obtain ⟨ao,cap,hv,hl,h⟩:=h
 refine ⟨ao,cap,hv,hl,?_⟩
 rcases h with h|⟨b,off,ha,hlt,hc⟩
 ·exact .inl h
 ·exact .inr ⟨b,off,ha,Nat.lt_of_lt_of_le hlt hb.size,fun j hj=>by rw[hb.cell (p:=⟨b,off+j,none⟩) (by exact Nat.lt_of_lt_of_le hlt hB)];exact hc j hj⟩
theorem j1jj.nil (w:World):j1jj w (.slice none 0 0) []:=⟨none,0,rfl,by simp,.inl rfl⟩
theorem j1jj.own {w:World} {base:Nat} {v:Value} {n:Nat} {f:Nat→List UInt8} (h:w.ownsRow base 9 1 v n (qwpy n f)) (hl:n≤1000000):j1jj w v ((List.range n).map f):=by
 have hlen:((List.range n).map f).length=n:=by simp
 rcases h.2 with ⟨hv,hn⟩|⟨g,cap,cur,hv,_,hg,_⟩
 ·exact ⟨none,0,by rw[hv,hlen,hn],by rw[hlen];exact hl,.inl (by subst hn;rfl)⟩
 ·refine ⟨_,cap,by rw[hlen];exact hv,by rw[hlen];exact hl,.inr ⟨g,0,rfl,(Array.getElem?_eq_some_iff.1 hg).1,fun j hj=>?_⟩⟩
  subst hv
  rw[hlen] at hj
  rw[Nat.zero_add,h.cellAt j (by omega),XOmP n f j hj]
  simp
theorem z0OT (xs:List Int):qwpy xs.length (qZPP xs 0 0)=(madeCells (Value.string ⟨#[]⟩).cells (xs.length*1)).toList:=by
 rw[show (Value.string ⟨#[]⟩).cells=#[Value.string ⟨#[]⟩] from rfl,toList_madeCells_one]
 apply List.ext_getElem?
 intro j
 by_cases h:j<xs.length
 ·rw[XOmP _ _ _ h,List.getElem?_replicate,if_pos (by omega),qzK6];rfl
 ·rw[List.getElem?_eq_none (by rw[j7q8];omega),List.getElem?_eq_none (by simp;omega)]
def nb (xs:List Int):Nat→Nat
 | 0=>0
 | t+1=>nxt xs t xs.length
theorem XuXL (xs:List Int) (t:Nat):base xs t=2*nb xs t:=by
 cases t with
 | zero=>rfl
 | succ t=>exact zU85 xs t
theorem jyCv (xs:List Int) (t:Nat) (ht:t≤15) (hs:ksum xs≤32768):nb xs t≤65536:=by
 cases t with
 | zero=>simp[nb]
 | succ t=>exact Nat.le_trans (jRof xs t _ (by omega) hs) (pow16 (by omega))
theorem qykP (n size:Int) (N S:Nat) (hn:n=N) (hS:size=S) (h16:S≤16) (hlt:N<2 ^ S) (w:World) :
  Calls Tryz.prog 173 #[.int .i64 n,.int .i64 size] w fun e w'=>e=.returned (.tuple #[.string (str (jJyG N S)),.int .i64 0])∧Below w.heap.size w w':=by
 subst hn hS
 exact XFu1 N S h16 hlt w
set_option maxRecDepth 100000 in
set_option maxHeartbeats 800000 in
theorem jlcJ (v:Value) (xs:List Int) (w:World) (hv:jCvT w v xs) (hE:qO3F xs=0) :
  Calls Tryz.prog 176 #[v] w fun e w'=>∃r,e=.returned (.tuple #[r,.int .i64 0])∧j1jj w' r (j6d1 xs)∧Below w.heap.size w w':=by
 obtain ⟨hl1,hl2,hok,hs1,hs2⟩:=zF8D hE
 obtain ⟨i0,hi,hz0,hz1,hz2⟩:=info_parts Tryz.infoStr
 have HV:=hide hv
 obtain ⟨ao,ca,rfl,hla,hc⟩:=hv
 obtain ⟨b,off,hao,hbl,hcell⟩:∃b off,ao=some ⟨b,off,none⟩∧b<w.heap.size∧∀j (h:j<xs.length),w.cell? ⟨b,off+j,none⟩=some (.int .i64 xs[j]):=by
  rcases hc with h|h
  ·subst h;exact absurd hl1 (by simp)
  ·exact h
 subst hao
 have HCELL:=hide hcell;clear hcell hc
 have HOK:=hide hok;clear hok
 have HK:=hide hs2;clear hs1 hs2
 go_enter Tryz.func176,Tryz.ntmps176
 go_wp2_with (first|(go_at_call 120;refine (jIcm _ _ _ HV.out).mono ?_;rintro e w1 ⟨rfl,rfl⟩)|(at_make;refine wpList_make_full _ rfl _ _ 55 rfl w.heap.size 9 i0 (.string ⟨#[]⟩) 1 Tryz.underlying55 hi hz0 hz1 .i64 .i64 _ _ xs.length rfl rfl rfl rfl (by rw[hz2];omega) (by unfold maxLen;omega) (Nat.le_refl _) ?_;intro w1 hown hgr))
 have hb1:Below w.heap.size w w1:=(Below.refl _ _).grown hgr (Nat.le_refl _) (by simp)
 have ho1:w1.ownsRow w.heap.size 9 1 (.slice (some ⟨w.heap.size,0,none⟩) xs.length xs.length) xs.length (qwpy xs.length (qZPP xs 0 0)):=by
  rw[show qwpy xs.length (qZPP xs 0 0)=(madeCells (Value.string ⟨#[]⟩).cells (xs.length*1)).toList from z0OT xs]
  exact hown
 clear hown hgr hE
 go_loopw [6,7] (fun nx sz wr=>∃t:Nat,t≤15∧sz=.int .i64 ((t:Int)+1)∧nx=.int .i64 (nb xs t:Nat) ∧
   wr.ownsRow w.heap.size 9 1 (.slice (some ⟨w.heap.size,0,none⟩) xs.length xs.length) xs.length (qwpy xs.length (qZPP xs t 0))∧Below w.heap.size w wr)
  (fun _ sz _=>16-(intOf sz).toNat)
 case atStart=>exact ⟨0,by omega,by go_num,rfl,ho1,hb1⟩
 case round =>
  obtain ⟨t,ht,rfl,rfl,ho,hb⟩:=hrel
  clear ho1 hb1
  by_cases hlt:t<15
  ·have hd:decide ((t:Int)+1≤15)=true:=by simp;omega
   have hnb:=jyCv xs t (by omega) HK.out
   have HB:=hide (XuXL xs t)
   have HZ:=hide (XL0z xs t)
   generalize hN:nb xs t=N at *
   clear hN
   go_wp2
   go_loopw [6,25] (fun nx i wq=>∃k:Nat,k≤xs.length∧i=.int .i64 k∧nx=.int .i64 (nxt xs t k:Nat) ∧
     wq.ownsRow w.heap.size 9 1 (.slice (some ⟨w.heap.size,0,none⟩) xs.length xs.length) xs.length (qwpy xs.length (qZPP xs t k))∧Below w.heap.size w wq)
    (fun _ i _=>xs.length-(intOf i).toNat)
   case atStart=>exact ⟨0,Nat.zero_le _,rfl,by rw[HZ.out,HB.out];go_num,ho,hb⟩
   case round =>
    obtain ⟨k,hk,rfl,rfl,ho2,hb2⟩:=hrel
    clear ho hb
    have hfit:=jRof xs t k (by omega) HK.out
    have hp16:=pow16 (n:=t+1) (by omega)
    by_cases hkl:k<xs.length
    ·have c1:=(hb2.cell (p:=⟨b,off+k,none⟩) hbl).trans (HCELL.out k hkl)
     by_cases he:xs[k]=(t:Int)+1
     ·have hnl:=XdXl xs t k (by omega) HK.out hkl he
      have HN1:=hide (show nxt xs t (k+1)=nxt xs t k+1 by rw[nxt,nxt,XIRo xs _ k hkl,if_pos he];omega)
      have HS:=hide (XDzG xs.length (qZPP xs t k) (qZPP xs t (k+1)) k (jJyG (nxt xs t k) (t+1)) (qCGE xs t k hkl he) (fun i _ hi=>X4e5 xs t k i hi))
      have c2:=ho2.cellAt k (by omega)
      rw[XOmP _ _ _ hkl] at c2
      have f2:=ho2.frozenAt k
      have heq:(xs[k] == (t:Int)+1)=true:=by simpa using he
      have HNL:=hide hnl
      have hsz:=hb2.size
      clear he
      have hM:nxt xs t k≤65536:=by omega
      clear hfit hp16 hnl
      generalize nxt xs t k=M at *
      go_wp2_with (go_at_call 173;refine (qykP _ _ M (t+1) rfl (by omega) (by omega) HNL.out _).mono ?_;rintro e w3 ⟨rfl,hb3⟩;have ho3:=qw14 ho2 hb3;have c3:=(ho3.cellAt k (by omega)).trans (ho2.cellAt k (by omega) ▸ c2);have f3:=ho3.frozenAt k)
      have ho4:=(ho3.stored k (.string (str (jJyG M (t+1))))).1
      rw[HS.out] at ho4
      go_roundw
      case rel=>exact ⟨k+1,by omega,by go_num,by rw[HN1.out];go_num,ho4,(hb2.trans (hb3.mono hsz)).setCell (Nat.le_refl _) _⟩
      case measure=>simp[intOf];omega
     ·have HN1:=hide (show nxt xs t (k+1)=nxt xs t k by rw[nxt,nxt,XIRo xs _ k hkl,if_neg he];omega)
      have HS:=hide (zeln xs.length (qZPP xs t (k+1)) (qZPP xs t k) (fun i _=>zsQ2 xs t k i hkl he))
      have heq:(xs[k] == (t:Int)+1)=false:=by simpa using he
      clear he
      go_wp2
      go_roundw
      case rel=>exact ⟨k+1,by omega,by go_num,by rw[HN1.out],by rw[HS.out];exact ho2,hb2⟩
      case measure=>simp[intOf];omega
    ·obtain rfl:k=xs.length:=by omega
     have HS:=hide (zeln xs.length (qZPP xs (t+1) 0) (qZPP xs t xs.length) (fun i hi=>qua8 xs t i hi))
     have HN1:=hide (show nb xs (t+1)=nxt xs t xs.length from rfl)
     go_wp2
     go_roundw
     case rel=>exact ⟨t+1,by omega,by go_num,by rw[HN1.out],by rw[HS.out];exact ho2,hb2⟩
     case measure=>simp[intOf];omega
  ·obtain rfl:t=15:=by omega
   have HS:=hide (zeln xs.length (qZPP xs 15 0) (word xs) (fun i hi=>qGGX xs i hi HOK.out))
   rw[HS.out] at ho
   have hT:=j1jj.own ho (by omega)
   go_wp2
   go_ret2
   exact ⟨_,rfl,hT,hb⟩
theorem z3li (v:Value) (xs:List Int) (w:World) (hv:jCvT w v xs) :
  Calls Tryz.prog 176 #[v] w fun e w'=>∃r,e=.returned (.tuple #[r,.int .i64 (qO3F xs)])∧j1jj w' r (if qO3F xs=0 then j6d1 xs else [])∧Below w.heap.size w w':=by
 by_cases hE:qO3F xs=0
 ·rw[if_pos hE,hE]
  exact jlcJ v xs w hv hE
 ·rw[if_neg hE]
  have hne:(qO3F xs != 0)=true:=by simpa using hE
  clear hE
  have HV:=hide hv;clear hv
  go_enter Tryz.func176,Tryz.ntmps176
  go_wp2_with (go_at_call 120;refine (jIcm _ _ _ HV.out).mono ?_;rintro e w1 ⟨rfl,rfl⟩)
  go_ret2
  exact ⟨_,rfl,j1jj.nil _,Below.refl _ _⟩
end Go.Proofs.YtfjeonehdlphiaaGreatDoor

namespace Go.Proofs.YtfjeonehdlphiaaGreatDoor
open Go.RowKit
set_option maxRecDepth 100000 in
set_option maxHeartbeats 400000 in
theorem zgrb (s:ByteArray) (hs:s.size≤140737488355328) (hb:allB s.data.toList=true) (w:World) :
  Calls Tryz.prog 174 #[.string s] w fun e w'=>e=.returned (.tuple #[.string (str (XIZK s.data.toList)),.int .i64 0])∧Below w.heap.size w w':=by
 have hs0:s.size≤maxLen:=by unfold maxLen;omega
 obtain ⟨i0,hi,hz0,hz1,hz2⟩:=info_parts Tryz.infoU8
 obtain ⟨n,hn⟩:∃n,n=(s.size+7) / 8:=⟨_,rfl⟩
 have HN:=hide hn;clear hn
 have HB:=hide hb
 go_enter Tryz.func174,Tryz.ntmps174
 go_wp2_with (first|(go_at_call 208;refine (zRqm _ _ hs0).mono ?_;rintro e w' ⟨rfl,rfl⟩)|(go_at_call 196;refine (jszi _ (by omega) (by omega) _).mono ?_;rintro e w' ⟨rfl,rfl⟩)|(at_make;refine wpList_make_full _ rfl _ _ 74 rfl w.heap.size 5 i0 (.int .u8 0) 1 Tryz.underlying74 hi hz0 hz1 .i64 .i64 _ _ n rfl rfl ?_ ?_ ?_ ?_ (Nat.le_refl _) ?_;(have:=HN.out;omega);(have:=HN.out;omega);(have:=HN.out;rw[hz2];omega);(have:=HN.out;unfold maxLen;omega);intro w1 hown hgr))
 clear hb
 go_loopw [15] (fun i wr=>∃k:Nat,k≤s.size∧i=.int .i64 k∧wr.ownsRow w.heap.size 5 1 (.slice (some ⟨w.heap.size,0,none⟩) n n) n (jlEz s.data.toList n k)∧Below w.heap.size w wr)
  (fun i _=>s.size-(intOf i).toNat)
 case atStart=>exact ⟨0,Nat.zero_le _,rfl,by rw[qejR];exact hown,(Below.refl _ _).grown hgr (Nat.le_refl _) (by simp)⟩
 case round =>
  obtain ⟨k,hk,rfl,ho,hb⟩:=hrel
  clear hown hgr
  by_cases hlt:k<s.size
  ·have hkn:k / 8<n:=by have:=HN.out;omega
   have hc:=ho.cellAt (k / 8) (by omega)
   rw[jgjF _ _ _ _ hkn] at hc
   have hf:=ho.frozenAt (k / 8)
   have hb2:=(XwGy s.data.toList k).2
   have h4:48≤(s[k].toNat:Int)∧(s[k].toNat:Int)≤49:=by
    have:=XUy1 HB.out k (by simpa using hlt)
    rw[XWox s k hlt] at this
    omega
   obtain ⟨h4,h5⟩:=h4
   have hst:=ho.stored (k / 8) (.int .u8 (accAt s.data.toList (k+1) (k / 8):Nat))
   rw[jd6N _ _ _ _ rfl,←qNlo s.data.toList k (s[k].toNat:Int) (by
    rw[qRy9 _ _ (by simpa using hlt) HB.out,XWox s k hlt];omega)] at hst
   have HS:=hide hst;clear hst
   generalize accAt s.data.toList k (k / 8)=a at *
   go_wp2
   go_region
   go_wp2
   go_roundw
   case rel =>
    exact ⟨k+1,by omega,by go_num,HS.out.1.drew,(hb.setCell (Nat.le_refl _) _).drew⟩
   case measure=>simp[intOf];omega
  ·obtain rfl:k=s.size:=by omega
   have hown2:wr.ownsRow w.heap.size 5 1 (.slice (some ⟨w.heap.size,0,none⟩) n n) n (byt (XIZK s.data.toList)):=by
    have:=qew6 s.data.toList
    rw[qAMg,←HN.out] at this
    rw[←this];exact ho
   clear ho
   have hcv:=jxMI (dst:=9) Tryz.underlying74 Tryz.underlying5 Tryz.underlying9 hown2
   go_wp2
   go_ret2
   exact ⟨rfl,hb⟩
end Go.Proofs.YtfjeonehdlphiaaGreatDoor
