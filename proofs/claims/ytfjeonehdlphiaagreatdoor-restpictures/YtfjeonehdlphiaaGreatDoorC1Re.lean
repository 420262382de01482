/- Re: part 1 of what the proofs need. -/
import Derived.WalkKit
open List renaming getElem?_eq_getElem → ka, take_succ_eq_append_getElem → kb
open Nat renaming mul_le_mul_right → kc, succ_mul → kd, mul_comm → ke
open Bool renaming and_eq_true → kf
set_option linter.unusedVariables false
namespace Go.Proofs.YtfjeonehdlphiaaGreatDoor
open Go.RowKit
def isBit (c:UInt8):Bool:=decide (c.toNat=48∨c.toNat=49)
def allB (l:List UInt8):Bool:=l.all isBit
theorem XWpK (l:List UInt8) (c:UInt8):allB (l++[c])=(allB l && isBit c):=by simp[allB]
theorem XW0t (l m:List UInt8):allB (l++m)=(allB l && allB m):=by simp[allB]
theorem XUy1 {l:List UInt8} (h:allB l=true) (k:Nat) (hk:k<l.length):l[k].toNat=48∨l[k].toNat=49:=by
 have:=List.all_eq_true.1 h l[k] (List.getElem_mem hk)
 simpa [isBit] using this
theorem XzAH {l:List UInt8} (k:Nat) (hk:k<l.length) (h0:l[k].toNat≠48) (h1:l[k].toNat≠49):allB l=false:=by
 rw[Bool.eq_false_iff];intro h
 rcases XUy1 h k hk with h|h<;>omega
theorem qjCJ (s:ByteArray) (k:Nat) (h:k<s.size):s.data.toList.take (k+1)=s.data.toList.take k++[s[k]]:=by
 rw[kb (by simpa using h)];rfl
theorem j7UF (s:ByteArray) (k:Nat) (h:s.size≤k):s.data.toList.take k=s.data.toList:=by
 apply List.take_of_length_le;simpa using h
theorem XWox (s:ByteArray) (k:Nat) (h:k<s.size):s.data.toList[k]'(by simpa using h)=s[k]:=rfl
theorem qAMg (s:ByteArray):s.data.toList.length=s.size:=by simp
theorem hide {p:Prop} (h:p):Hid p:=h
theorem zcHp {p:Prop} (h:Hid p):p:=h
def valOf (l:List UInt8):Nat:=l.foldl (fun n c=>2*n+(c.toNat-48)) 0
def jJyG:Nat→Nat→List UInt8
 | _,0=>[]
 | n,k+1=>jJyG (n / 2) k++[UInt8.ofNat (48+n % 2)]
theorem zrCv (n k:Nat):(jJyG n k).length=k:=by
 induction k generalizing n with
 | zero=>rfl
 | succ k ih=>simp[jJyG,ih]
theorem XCcv (n k:Nat):jJyG n (k+1)=UInt8.ofNat (48+n / 2 ^ k % 2)::jJyG n k:=by
 induction k generalizing n with
 | zero=>simp[jJyG]
 | succ k ih =>
  rw[jJyG,ih (n / 2)]
  simp only[List.cons_append,Nat.div_div_eq_div_mul,jJyG]
  rw[show 2*2 ^ k=2 ^ (k+1) by rw[Nat.pow_succ];omega]
def str (l:List UInt8):ByteArray:=⟨l.toArray⟩
theorem jrcE (l:List UInt8):(str l).data.toList=l:=rfl
theorem qzX5 (l:List UInt8):(str l).size=l.length:=by simp[str,ByteArray.size]
theorem str_of (s:ByteArray):str s.data.toList=s:=rfl
def byt (l:List UInt8):List Value:=l.map fun c=>Value.int .u8 c.toNat
theorem q82q (l:List UInt8):(byt l).length=l.length:=by simp[byt]
theorem zP44 (l m:List UInt8):byt (l++m)=byt l++byt m:=by simp[byt]
theorem byt_get? (l:List UInt8) (j:Nat):(byt l)[j]?=(l[j]?).map fun c=>Value.int .u8 c.toNat:=by simp[byt]
theorem jxMI {P:Program} {w:World} {base src e dst:TypeId} {g n cap:Nat} {l:List UInt8} (hs:P.underlying src=some (.slice e)) (he:P.underlying e=some (.int .u8)) (hd:P.underlying dst=some .string)
  (h:w.ownsRow base e 1 (.slice (some ⟨g,0,none⟩) n cap) n (byt l)) :
  (convert src dst (.slice (some ⟨g,0,none⟩) n cap)).run P w=.ok (.string (str l)) w:=by
 have hl:l.length=n:=by have:=h.1;rw[q82q] at this;omega
 have:=run_convert_bytes_arg (P:=P) w src e hs he g 0 n cap (l.map fun c=>(c.toNat:Int)) (by simpa using hl) (fun i hi=>by
  rw[Nat.zero_add,h.cellAt i (by omega),byt_get?]
  simp[ka (show i<l.length by omega)]) dst hd
 rw[this]
 congr 2
 simp only[strOfNums,str,List.map_map]
 congr 2
 exact (List.map_congr_left (fun c _=>by simp)).trans (List.map_id l)
theorem and1 (n:Int):bits .and .i64 n 1=n % 2:=by
 have h1:(BitVec.ofInt 64 1).toNat=2 ^ 1-1:=by decide
 have key:(BitVec.ofInt 64 n &&& BitVec.ofInt 64 1).toNat=(n % ((2 ^ 64:Nat):Int)).toNat % 2 ^ 1:=by
  rw[BitVec.toNat_and,BitVec.toNat_ofInt,h1,Nat.and_two_pow_sub_one_eq_mod]
 show IntKind.i64.wrap ((BitVec.ofInt 64 n &&& BitVec.ofInt 64 1).toNat:Nat)=n % 2
 rw[key,IntKind.wrap_i64]
 omega
theorem andTop (n:Int):bits .and .i64 n 65535=n % 65536:=by
 have h1:(BitVec.ofInt 64 65535).toNat=2 ^ 16-1:=by decide
 have key:(BitVec.ofInt 64 n &&& BitVec.ofInt 64 65535).toNat=(n % ((2 ^ 64:Nat):Int)).toNat % 2 ^ 16:=by
  rw[BitVec.toNat_and,BitVec.toNat_ofInt,h1,Nat.and_two_pow_sub_one_eq_mod]
 show IntKind.i64.wrap ((BitVec.ofInt 64 n &&& BitVec.ofInt 64 65535).toNat:Nat)=n % 65536
 rw[key,IntKind.wrap_i64]
 omega
theorem q5J9 (k:Nat):((2:Int) ^ k)=((2 ^ k:Nat):Int):=(Int.natCast_pow 2 k).symm
theorem zwz8 (n k:Nat):(48+bits BinOp.and IntKind.i64 ((n:Int) / 2 ^ k) 1) % 256=(48+(n / 2 ^ k % 2:Nat):Int):=by
 rw[and1,q5J9,←Int.natCast_ediv]
 omega
theorem XE8Y (p:Nat) (h:p<256):byt [UInt8.ofNat p]=[Value.int .u8 (p:Nat)]:=by
 simp only[byt,List.map_cons,List.map_nil,UInt8.toNat_ofNat']
 congr 3
 omega
theorem X4yv {α:Type} {x u:α} {j:Nat} (h:[x][j]?=some u):j=0∧u=x:=by
 match j,h with
 | 0,h=>simp at h;exact ⟨rfl,h.symm⟩
theorem jx9N {k:IntKind} {a b:Int} (h:a=b):Ending.returned (.int k a)=.returned (.int k b):=by rw[h]
theorem j3Zs {a b:Bool} (h:a=b):Ending.returned (.bool a)=.returned (.bool b):=by rw[h]
def bitAt (l:List UInt8) (k:Nat):Nat:=if l[k]?=some 49 then 1 else 0
def j0NY (l:List UInt8) (i:Nat):Nat→Nat
 | 0=>0
 | j+1=>2*j0NY l i j+bitAt l (i+j)
def bytesOf (l:List UInt8):List UInt8:=(List.range ((l.length+7) / 8)).map fun q=>UInt8.ofNat (j0NY l (8*q) 8)
theorem j3Sl (l:List UInt8) (k:Nat):bitAt l k≤1:=by unfold bitAt;split<;>omega
theorem jVw1 (l:List UInt8) (k:Nat) (h:l.length≤k):bitAt l k=0:=by
 unfold bitAt;rw[List.getElem?_eq_none h];rfl
theorem qRy9 (l:List UInt8) (k:Nat) (h:k<l.length) (hb:allB l=true):bitAt l k=l[k].toNat-48:=by
 unfold bitAt
 rw[ka h]
 rcases XUy1 hb k h with e|e
 ·rw[if_neg (by intro hh;simp only[Option.some.injEq] at hh;rw[hh] at e;revert e;decide)];omega
 ·rw[if_pos (by rw[show l[k]=49 from UInt8.toNat_inj.1 e])];omega
theorem j9OI (l:List UInt8) (k:Nat) (h:k<l.length) (e:l[k].toNat=49):bitAt l k=1:=by
 unfold bitAt;rw[ka h,if_pos (by rw[show l[k]=49 from UInt8.toNat_inj.1 e])]
theorem qAMN (l:List UInt8) (k:Nat) (h:k<l.length) (e:l[k].toNat≠49):bitAt l k=0:=by
 unfold bitAt;rw[ka h,if_neg (by intro hh;simp only[Option.some.injEq] at hh;rw[hh] at e;exact e rfl)]
theorem X0uq (l:List UInt8) (i j:Nat):j0NY l i j<2 ^ j:=by
 induction j with
 | zero=>exact Nat.one_pos
 | succ j ih=>have:=j3Sl l (i+j);rw[j0NY,Nat.pow_succ];omega
theorem XJTv (l:List UInt8) (i j d:Nat) (h:l.length≤i+j):j0NY l i (j+d)=j0NY l i j*2 ^ d:=by
 induction d with
 | zero=>simp
 | succ d ih =>
  rw[show j+(d+1)=(j+d)+1 by omega,j0NY,ih,jVw1 _ _ (by omega),Nat.pow_succ,Nat.add_zero,ke 2,Nat.mul_assoc]
def accAt (l:List UInt8) (k q:Nat):Nat:=j0NY l (8*q) (min 8 (k-8*q))*2 ^ (8-min 8 (k-8*q))
def jlEz (l:List UInt8) (n k:Nat):List Value:=(List.range n).map fun q=>Value.int .u8 (accAt l k q)
theorem zdzG (l:List UInt8) (n k:Nat):(jlEz l n k).length=n:=by simp[jlEz]
theorem jgjF (l:List UInt8) (n k q:Nat) (h:q<n):(jlEz l n k)[q]?=some (.int .u8 (accAt l k q)):=by
 simp[jlEz,h]
theorem z2r0 (l:List UInt8) (k q:Nat) (h:q≠k / 8):accAt l (k+1) q=accAt l k q:=by
 unfold accAt
 rw[show min 8 (k+1-8*q)=min 8 (k-8*q) by omega]
theorem XzdG (r:Nat) (h:r<8):2 ^ (8-r)=2*2 ^ (7-r):=by
 rw[show 8-r=(7-r)+1 by omega,Nat.pow_succ];omega
theorem zSOx (l:List UInt8) (k:Nat):accAt l (k+1) (k / 8)=accAt l k (k / 8)+bitAt l k*2 ^ (7-k % 8):=by
 unfold accAt
 rw[show min 8 (k-8*(k / 8))=k % 8 by omega,show min 8 (k+1-8*(k / 8))=k % 8+1 by omega,j0NY,show 8*(k / 8)+k % 8=k by omega,
  XzdG _ (Nat.mod_lt _ (by decide)),show 8-(k % 8+1)=7-k % 8 by omega]
 generalize 2 ^ (7-k % 8)=p
 generalize j0NY l (8*(k / 8)) (k % 8)=a
 generalize bitAt l k=b
 rw[Nat.add_mul,ke 2 a,Nat.mul_assoc]
theorem jd6N (l:List UInt8) (n k:Nat) (u:Int) (hu:u=(accAt l (k+1) (k / 8):Nat)):(jlEz l n k).set (k / 8) (.int .u8 u)=jlEz l n (k+1):=by
 apply List.ext_getElem?
 intro j
 rw[List.getElem?_set]
 by_cases e:k / 8=j
 ·subst e
  rw[if_pos rfl]
  by_cases hn:k / 8<n
  ·rw[jgjF _ _ _ _ hn,zdzG,if_pos hn,hu]
  ·rw[zdzG,if_neg hn,List.getElem?_eq_none (by rw[zdzG];omega)]
 ·rw[if_neg e]
  by_cases hn:j<n
  ·rw[jgjF _ _ _ _ hn,jgjF _ _ _ _ hn,z2r0 _ _ _ (fun h=>e h.symm)]
  ·rw[List.getElem?_eq_none (by rw[zdzG];omega),List.getElem?_eq_none (by rw[zdzG];omega)]
theorem qejR (l:List UInt8) (n:Nat):jlEz l n 0=(madeCells (Value.int .u8 0).cells (n*1)).toList:=by
 rw[show (Value.int .u8 0).cells=#[Value.int .u8 0] from rfl,toList_madeCells_one]
 apply List.ext_getElem?
 intro j
 by_cases hn:j<n
 ·rw[jgjF _ _ _ _ hn,List.getElem?_replicate,if_pos (by omega)];simp[accAt,j0NY]
 ·rw[List.getElem?_eq_none (by rw[zdzG];omega),List.getElem?_eq_none (by simp;omega)]
theorem qew6 (l:List UInt8):jlEz l ((l.length+7) / 8) l.length=byt (bytesOf l):=by
 simp only[jlEz,byt,bytesOf,List.map_map]
 apply List.map_congr_left
 intro q hq
 have hq:q<(l.length+7) / 8:=by simpa using hq
 have h1:accAt l l.length q=j0NY l (8*q) 8:=by
  unfold accAt
  have hj:min 8 (l.length-8*q)≤8:=Nat.min_le_left _ _
  by_cases h:8≤l.length-8*q
  ·rw[Nat.min_eq_left h];simp
  ·rw[←XJTv _ _ _ _ (by omega),show min 8 (l.length-8*q)+(8-min 8 (l.length-8*q))=8 by omega]
 have h2:=X0uq l (8*q) 8
 simp only[Function.comp]
 rw[h1,UInt8.toNat_ofNat']
 congr 2
 omega
theorem XwGy (l:List UInt8) (k:Nat):accAt l k (k / 8) % 2 ^ (8-k % 8)=0∧accAt l k (k / 8)<256:=by
 unfold accAt
 rw[show min 8 (k-8*(k / 8))=k % 8 by omega]
 refine ⟨by simp,?_⟩
 have h:=X0uq l (8*(k / 8)) (k % 8)
 calc j0NY l (8*(k / 8)) (k % 8)*2 ^ (8-k % 8)<2 ^ (k % 8)*2 ^ (8-k % 8):=Nat.mul_lt_mul_of_pos_right h (Nat.pow_pos (by decide))
  _=256:=by rw[←Nat.pow_add,show k % 8+(8-k % 8)=8 by omega]
theorem qNlo (l:List UInt8) (k:Nat) (c:Int) (hc:c-48=bitAt l k) :
  bits .or .u8 (accAt l k (k / 8):Nat) ((c-48)*2 ^ (7-k % 8) % 256)=(accAt l (k+1) (k / 8):Nat):=by
 rw[hc,zSOx]
 obtain ⟨h1,h2⟩:=XwGy l k
 have h3:=j3Sl l k
 have hp:2 ^ (7-k % 8)≤2 ^ 7:=Nat.pow_le_pow_right (by decide) (by omega)
 have hq:=XzdG (k % 8) (Nat.mod_lt _ (by decide))
 rw[hq] at h1
 have hx:(bitAt l k:Int)*2 ^ (7-k % 8) % 256=((bitAt l k*2 ^ (7-k % 8):Nat):Int):=by
  rw[q5J9,←Int.natCast_mul]
  have:bitAt l k*2 ^ (7-k % 8)<256:=by
   have:bitAt l k*2 ^ (7-k % 8)≤1*2 ^ (7-k % 8):=kc _ h3
   omega
  omega
 rw[hx]
 have hlt:bitAt l k*2 ^ (7-k % 8)<2 ^ (8-k % 8):=by
  have:bitAt l k*2 ^ (7-k % 8)≤1*2 ^ (7-k % 8):=kc _ h3
  have:0<2 ^ (7-k % 8):=Nat.pow_pos (by decide)
  omega
 rw[bits_join .u8 8 (by decide) wraps_u8 (8-k % 8) _ _ (by omega) (by rw[q5J9,hq,←Int.natCast_emod,h1];rfl) (by omega) (by omega) (by rw[q5J9];exact Int.ofNat_lt.2 hlt) (by
  have:bitAt l k*2 ^ (7-k % 8)≤1*2 ^ (7-k % 8):=kc _ h3
  generalize bitAt l k*2 ^ (7-k % 8)=z at *
  omega)]
 rw[Int.natCast_add]
def rowOf (l:List UInt8):List UInt8:=l.flatMap fun c=>jJyG c.toNat 8
theorem jKfQ (n k:Nat):allB (jJyG n k)=true:=by
 induction k generalizing n with
 | zero=>rfl
 | succ k ih =>
  rw[jJyG,XWpK,ih,Bool.true_and]
  have h2:n % 2<2:=Nat.mod_lt _ (by decide)
  simp only[isBit,UInt8.toNat_ofNat',decide_eq_true_eq]
  omega
def numOk (n size:Int):Bool:=decide (0≤size∧size≤16∧0≤n∧n<2 ^ size.toNat)
def numS (n size:Int):ByteArray:=if numOk n size=true then str (jJyG n.toNat size.toNat) else str []
def numE (n size:Int):Int:=if numOk n size=true then 0 else 3
theorem pow16 {n:Nat} (h:n≤16):2 ^ n≤65536:=Nat.le_trans (Nat.pow_le_pow_right (by decide) h) (by decide)
theorem XhgL (n size:Int):(∃m k:Nat,n=m∧size=k∧k≤16∧m<2 ^ k∧numOk n size=true) ∨
  (numOk n size=false∧(size<0∨16<size∨(0≤size∧size≤16∧n<0)∨∃k p:Nat,size=k∧k≤16∧p=2 ^ k∧(p:Int)≤n)):=by
 by_cases h:numOk n size=true
 ·left
  have h':=h
  simp only[numOk,decide_eq_true_eq] at h'
  obtain ⟨h1,h2,h3,h4⟩:=h'
  refine ⟨n.toNat,size.toNat,by omega,by omega,by omega,?_,h⟩
  rw[q5J9] at h4
  generalize 2 ^ size.toNat=p at *
  omega
 ·right
  have h:numOk n size=false:=by simpa using h
  refine ⟨h,?_⟩
  simp only[numOk,decide_eq_false_iff_not] at h
  by_cases a:size<0
  ·exact .inl a
  by_cases b:16<size
  ·exact .inr (.inl b)
  by_cases c:n<0
  ·exact .inr (.inr (.inl ⟨by omega,by omega,c⟩))
  ·refine .inr (.inr (.inr ⟨size.toNat,2 ^ size.toNat,by omega,by omega,rfl,?_⟩))
   have:¬n<2 ^ size.toNat:=fun hh=>h ⟨by omega,by omega,by omega,hh⟩
   rw[q5J9] at this
   generalize 2 ^ size.toNat=p at *
   omega
def jvGa (xs:List Int) (d:Int):List UInt8:=xs.flatMap fun n=>jJyG n.toNat d.toNat
theorem jmVo (xs:List Int) (n d:Int):jvGa (xs++[n]) d=jvGa xs d++jJyG n.toNat d.toNat:=by simp[jvGa]
theorem qtHw (xs:List Int) (n d:Int):jvGa (n::xs) d=jJyG n.toNat d.toNat++jvGa xs d:=by simp[jvGa]
theorem Xg2y (xs:List Int) (d:Int):(jvGa xs d).length=xs.length*d.toNat:=by
 induction xs with
 | nil=>simp[jvGa]
 | cons n xs ih=>rw[qtHw,List.length_append,zrCv,ih,List.length_cons,kd];omega
theorem ztg4 (xs:List Int) (d:Int):allB (jvGa xs d)=true:=by
 induction xs with
 | nil=>rfl
 | cons n xs ih=>rw[qtHw,XW0t,jKfQ,ih];rfl
def allOk (xs:List Int) (d:Int):Bool:=xs.all fun n=>numOk n d
theorem jJfW (xs:List Int) (n d:Int):allOk (xs++[n]) d=(allOk xs d && numOk n d):=by simp[allOk]
theorem XcnF (xs:List Int) (d:Int) (k:Nat) (h:k<xs.length) (hn:numOk xs[k] d=false):allOk xs d=false:=by
 rw[Bool.eq_false_iff];intro hh
 have:=List.all_eq_true.1 hh xs[k] (List.getElem_mem h)
 rw[hn] at this;cases this
def XSys (d:Int):Bool:=decide (1≤d∧d≤16)
def packE (xs:List Int) (d:Int):Int:=if XSys d=true then (if xs.length≤4096 then (if allOk xs d=true then 0 else 3) else 2) else 3
def packS (xs:List Int) (d:Int):List UInt8:=if packE xs d=0 then bytesOf (jvGa xs d) else []
def vals (b:List UInt8) (D n:Nat):List Int:=(List.range n).map fun i=>(valOf ((b.drop (i*D)).take D):Int)
def qMvX (l:List UInt8):Bool:=l.any fun c=>c == 49
theorem Xl8r {xs:List Int} {d:Int} (h1:XSys d=true) (h2:xs.length≤4096) (h3:allOk xs d=true):packE xs d=0:=by
 rw[packE,if_pos h1,if_pos h2,if_pos h3]
def Xpy1 (s:List UInt8) (d n:Int):Bool:=decide (XSys d=true∧0≤n∧n≤4096∧s.length=(n.toNat*d.toNat+7) / 8∧qMvX ((rowOf s).drop (n.toNat*d.toNat))=false)
def unpV (s:List UInt8) (d n:Int):List Int:=if Xpy1 s d n=true then vals (rowOf s) d.toNat n.toNat else []
def unpE (s:List UInt8) (d n:Int):Int :=
 if XSys d=true∧0≤n then (if n≤4096 then (if Xpy1 s d n=true then 0 else 1) else 2) else 3
def lenOk (x:Int):Bool:=decide (0≤x∧x≤15)
def qtFp (xs:List Int):Bool:=xs.all lenOk
def wt (x:Int):Nat:=if 0<x then 2 ^ (15-x.toNat) else 0
def ksum:List Int→Nat
 | []=>0
 | x::xs=>wt x+ksum xs
theorem qDB7 (xs:List Int) (x:Int):ksum (xs++[x])=ksum xs+wt x:=by
 induction xs with
 | nil=>simp[ksum]
 | cons y xs ih=>simp only[List.cons_append,ksum,ih];omega
theorem X0sA (xs:List Int) (x:Int):qtFp (xs++[x])=(qtFp xs && lenOk x):=by simp[qtFp]
theorem zrc5 (xs:List Int) (k:Nat) (h:k<xs.length) (hn:lenOk xs[k]=false):qtFp xs=false:=by
 rw[Bool.eq_false_iff];intro hh
 have:=List.all_eq_true.1 hh xs[k] (List.getElem_mem h)
 rw[hn] at this;cases this
theorem XHEW {xs:List Int} (h:qtFp xs=true) (k:Nat) (hk:k<xs.length):0≤xs[k]∧xs[k]≤15:=by
 have:=List.all_eq_true.1 h xs[k] (List.getElem_mem hk)
 simpa [lenOk] using this
theorem wt_le (x:Int):wt x≤32768:=by
 unfold wt
 split
 ·exact Nat.le_trans (Nat.pow_le_pow_right (by decide) (Nat.sub_le _ _)) (by decide)
 ·decide
theorem wt_pos (x:Int) (h:0<x):0<wt x:=by unfold wt;rw[if_pos h];exact Nat.pow_pos (by decide)
theorem zlvS (xs:List Int):ksum xs≤32768*xs.length:=by
 induction xs with
 | nil=>simp[ksum]
 | cons x xs ih=>have:=wt_le x;simp only[ksum,List.length_cons];omega
def ji94 (xs:List Int):Bool:=xs.any fun x=>decide (0<x)
theorem qiqj (xs:List Int) (x:Int):ji94 (xs++[x])=(ji94 xs || decide (0<x)):=by simp[ji94]
theorem q4z2 (xs:List Int):ksum xs=0↔ji94 xs=false:=by
 induction xs with
 | nil=>simp[ksum,ji94]
 | cons x xs ih =>
  simp only[ksum,ji94,List.any_cons,Bool.or_eq_false_iff,decide_eq_false_iff_not] at *
  rw[←ih]
  by_cases h:0<x
  ·have:=wt_pos x h
   constructor
   ·intro h2;omega
   ·intro h2;exact absurd h h2.1
  ·have:wt x=0:=by unfold wt;rw[if_neg h]
   rw[this]
   constructor
   ·intro h2;exact ⟨h,by omega⟩
   ·intro h2;omega
def qO3F (xs:List Int):Int :=
 if 1≤xs.length∧xs.length≤17 then (if qtFp xs=true then (if ksum xs=0∨32768<ksum xs then 1 else 0) else 3) else 2
theorem zF8D {xs:List Int} (h:qO3F xs=0):1≤xs.length∧xs.length≤17∧qtFp xs=true∧0<ksum xs∧ksum xs≤32768:=by
 unfold qO3F at h
 by_cases h1:1≤xs.length∧xs.length≤17
 ·rw[if_pos h1] at h
  by_cases h2:qtFp xs=true
  ·rw[if_pos h2] at h
   by_cases h3:ksum xs=0∨32768<ksum xs
   ·rw[if_pos h3] at h;exact absurd h (by decide)
   ·exact ⟨h1.1,h1.2,h2,by omega,by omega⟩
  ·rw[if_neg h2] at h;exact absurd h (by decide)
 ·rw[if_neg h1] at h;exact absurd h (by decide)
def XpDF (xs:List Int) (s:Int):Nat:=(xs.filter fun x=>decide (x=s)).length
def cnt (xs:List Int) (s:Int) (k:Nat):Nat:=XpDF (xs.take k) s
theorem zkzH (xs:List Int) (s:Int):cnt xs s 0=0:=rfl
theorem XIRo (xs:List Int) (s:Int) (k:Nat) (h:k<xs.length):cnt xs s (k+1)=cnt xs s k+if xs[k]=s then 1 else 0:=by
 unfold cnt XpDF
 rw[kb h,List.filter_append,List.length_append]
 by_cases e:xs[k]=s<;>simp[e]
theorem qsPk (xs:List Int) (s:Int):cnt xs s xs.length=XpDF xs s:=by unfold cnt;rw[List.take_length]
theorem cnt_le (xs:List Int) (s:Int) (k:Nat):cnt xs s k≤XpDF xs s:=by
 unfold cnt XpDF
 exact (List.Sublist.filter _ (List.take_sublist k xs)).length_le
def low:List Int→Nat→Nat
 | [],_=>0
 | x::xs,t=>(if x≤t then wt x else 0)+low xs t
theorem low_le (xs:List Int) (t:Nat):low xs t≤ksum xs:=by
 induction xs with
 | nil=>exact Nat.le_refl _
 | cons x xs ih=>simp only[low,ksum];split<;>omega
theorem qHiO (xs:List Int):low xs 0=0:=by
 induction xs with
 | nil=>rfl
 | cons x xs ih =>
  simp only[low,ih]
  split
  ·rename_i h
   have:wt x=0:=by unfold wt;rw[if_neg (by omega)]
   omega
  ·rfl
theorem jjMz (xs:List Int) (t:Nat) (_ht:t≤14):low xs (t+1)=low xs t+XpDF xs ((t:Int)+1)*2 ^ (14-t):=by
 induction xs with
 | nil=>simp[low,XpDF]
 | cons x xs ih =>
  simp only[low,XpDF,List.filter_cons] at *
  rw[ih]
  by_cases h:x=(t:Int)+1
  ·subst h
   have hw:wt ((t:Int)+1)=2 ^ (14-t):=by
    unfold wt
    rw[if_pos (by omega),show 15-((t:Int)+1).toNat=14-t by omega]
   rw[if_pos (by omega),if_neg (by omega),hw]
   simp only[decide_true,if_true,List.length_cons]
   rw[kd]
   omega
  ·have e:(if x≤((t+1:Nat):Int) then wt x else 0)=(if x≤(t:Int) then wt x else 0):=by
    by_cases h2:x≤(t:Int)
    ·rw[if_pos h2,if_pos (by omega)]
    ·rw[if_neg h2,if_neg (by omega)]
   rw[e]
   simp only[h,decide_false]
   simp only[Bool.false_eq_true,if_false]
   omega
def base (xs:List Int):Nat→Nat
 | 0=>0
 | t+1=>2*(base xs t+XpDF xs ((t:Int)+1))
theorem XyMS (xs:List Int) (t:Nat) (ht:t≤14):base xs t*2 ^ (14-t)=low xs t:=by
 induction t with
 | zero=>rw[qHiO];simp[base]
 | succ t ih =>
  have ih:=ih (by omega)
  rw[base,jjMz xs t (by omega),←ih,show 14-t=(14-(t+1))+1 by omega,Nat.pow_succ]
  generalize 2 ^ (14-(t+1))=p
  generalize base xs t=a
  generalize XpDF xs ((t:Int)+1)=c
  rw[ke 2,Nat.mul_assoc,ke 2 p,Nat.add_mul]
def nxt (xs:List Int) (t k:Nat):Nat:=base xs t+cnt xs ((t:Int)+1) k
theorem XL0z (xs:List Int) (t:Nat):nxt xs t 0=base xs t:=by rw[nxt,zkzH,Nat.add_zero]
theorem zU85 (xs:List Int) (t:Nat):base xs (t+1)=2*nxt xs t xs.length:=by rw[nxt,qsPk];rfl
theorem jRof (xs:List Int) (t k:Nat) (ht:t≤14) (hs:ksum xs≤32768):nxt xs t k≤2 ^ (t+1):=by
 have h1:=XyMS xs t ht
 have h2:=jjMz xs t ht
 have h3:=low_le xs (t+1)
 have h4:=cnt_le xs ((t:Int)+1) k
 have h5:nxt xs t k*2 ^ (14-t)≤2 ^ (t+1)*2 ^ (14-t):=by
  rw[←Nat.pow_add,show t+1+(14-t)=15 by omega,nxt,Nat.add_mul,h1]
  have:=kc (2 ^ (14-t)) h4
  omega
 exact Nat.le_of_mul_le_mul_right h5 (Nat.pow_pos (by decide))
theorem XdXl (xs:List Int) (t k:Nat) (ht:t≤14) (hs:ksum xs≤32768) (hk:k<xs.length) (he:xs[k]=(t:Int)+1):nxt xs t k<2 ^ (t+1):=by
 have h:=jRof xs t (k+1) ht hs
 rw[nxt,XIRo xs _ k hk,if_pos he] at h
 rw[nxt]
 omega
def word (xs:List Int) (i:Nat):List UInt8 :=
 if 1≤xs.getD i 0 then jJyG (nxt xs ((xs.getD i 0).toNat-1) i) (xs.getD i 0).toNat else []
def j6d1 (xs:List Int):List (List UInt8):=(List.range xs.length).map (word xs)
theorem zFud (xs:List Int):(j6d1 xs).length=xs.length:=by simp[j6d1]
theorem XL3e (xs:List Int) (i:Nat) (h:i<xs.length):(j6d1 xs)[i]'(by rw[zFud];exact h)=word xs i:=by simp[j6d1]
def doneB (xs:List Int) (t k i:Nat):Bool:=decide (1≤xs.getD i 0∧(xs.getD i 0≤t∨(xs.getD i 0=(t:Int)+1∧i<k)))
def qZPP (xs:List Int) (t k i:Nat):List UInt8:=if doneB xs t k i=true then word xs i else []
def qwpy (n:Nat) (f:Nat→List UInt8):List Value:=(List.range n).map fun i=>Value.string (str (f i))
theorem j7q8 (n:Nat) (f:Nat→List UInt8):(qwpy n f).length=n:=by simp[qwpy]
theorem XOmP (n:Nat) (f:Nat→List UInt8) (i:Nat) (h:i<n):(qwpy n f)[i]?=some (.string (str (f i))):=by simp[qwpy,h]
theorem zeln (n:Nat) (f g:Nat→List UInt8) (h:∀i,i<n→f i=g i):qwpy n f=qwpy n g:=by
 unfold qwpy
 apply List.map_congr_left
 intro i hi
 rw[h i (by simpa using hi)]
theorem XDzG (n:Nat) (f g:Nat→List UInt8) (k:Nat) (v:List UInt8) (hk:g k=v) (ho:∀i,i<n→i≠k→g i=f i):(qwpy n f).set k (.string (str v))=qwpy n g:=by
 apply List.ext_getElem?
 intro j
 rw[List.getElem?_set]
 by_cases hj:j<n
 ·rw[XOmP n g j hj]
  by_cases e:k=j
  ·subst e;rw[if_pos rfl,j7q8,if_pos hj,hk]
  ·rw[if_neg e,XOmP n f j hj,ho j hj (fun h=>e h.symm)]
 ·rw[List.getElem?_eq_none (by rw[j7q8];omega),List.getElem?_eq_none (by rw[j7q8];omega),j7q8]
  by_cases e:k=j
  ·subst e;rw[if_pos rfl,if_neg hj]
  ·rw[if_neg e]
theorem qzK6 (xs:List Int) (i:Nat):qZPP xs 0 0 i=[]:=by
 unfold qZPP
 rw[if_neg]
 simp only[doneB,decide_eq_true_eq]
 omega
theorem zsQ2 (xs:List Int) (t k i:Nat) (hk:k<xs.length) (h:xs[k]≠(t:Int)+1):qZPP xs t (k+1) i=qZPP xs t k i:=by
 unfold qZPP
 have hg:xs.getD k 0=xs[k]:=by simp[List.getD,ka hk]
 have e:doneB xs t (k+1) i=doneB xs t k i:=by
  unfold doneB
  apply decide_eq_decide.2
  by_cases hi:i=k
  ·subst hi;omega
  ·omega
 rw[e]
theorem X4e5 (xs:List Int) (t k i:Nat) (hi:i≠k):qZPP xs t (k+1) i=qZPP xs t k i:=by
 unfold qZPP
 have e:doneB xs t (k+1) i=doneB xs t k i:=by
  unfold doneB
  apply decide_eq_decide.2
  omega
 rw[e]
theorem qCGE (xs:List Int) (t k:Nat) (hk:k<xs.length) (h:xs[k]=(t:Int)+1):qZPP xs t (k+1) k=jJyG (nxt xs t k) (t+1):=by
 have hg:xs.getD k 0=xs[k]:=by simp[List.getD,ka hk]
 unfold qZPP
 rw[if_pos (by simp only[doneB,decide_eq_true_eq];omega),word,if_pos (by omega),hg,h]
 simp
theorem qua8 (xs:List Int) (t i:Nat) (hi:i<xs.length):qZPP xs (t+1) 0 i=qZPP xs t xs.length i:=by
 unfold qZPP
 have e:doneB xs (t+1) 0 i=doneB xs t xs.length i:=by
  unfold doneB
  apply decide_eq_decide.2
  omega
 rw[e]
theorem qGGX (xs:List Int) (i:Nat) (hi:i<xs.length) (hok:qtFp xs=true):qZPP xs 15 0 i=word xs i:=by
 have hg:xs.getD i 0=xs[i]:=by simp[List.getD,ka hi]
 have h:=XHEW hok i hi
 unfold qZPP
 by_cases h1:1≤xs.getD i 0
 ·rw[if_pos (by simp only[doneB,decide_eq_true_eq];omega)]
 ·rw[if_neg (by simp only[doneB,decide_eq_true_eq];omega),word,if_neg h1]
def wordS (ts:List (List UInt8)) (n:Int):List UInt8:=if 0≤n∧n<ts.length then ts.getD n.toNat [] else []
def wordE (ts:List (List UInt8)) (n:Int):Int:=if wordS ts n=[] then 4 else 0
theorem qnca (xs:List Int) (hok:qtFp xs=true) (i:Nat):(word xs i).length≤15:=by
 unfold word
 split
 ·rename_i h
  rw[zrCv]
  by_cases hi:i<xs.length
  ·have h2:=XHEW hok i hi
   have hg:xs.getD i 0=xs[i]:=by simp[List.getD,ka hi]
   omega
  ·have hg:xs.getD i 0=0:=by simp[List.getD,List.getElem?_eq_none (show xs.length≤i by omega)]
   omega
 ·simp
theorem j1tV (xs:List Int) (hok:qtFp xs=true) (n:Int):(wordS (j6d1 xs) n).length≤15:=by
 unfold wordS
 split
 ·rename_i h
  have h2:n.toNat<xs.length:=by rw[zFud] at h;omega
  have:(j6d1 xs).getD n.toNat []=word xs n.toNat:=by simp[List.getD,j6d1,h2]
  rw[this]
  exact qnca xs hok _
 ·simp
def putF (f:List UInt8→Option (Int×Bool)) (k:List UInt8) (p:Int×Bool):List UInt8→Option (Int×Bool):=fun key=>if key=k then some p else f key
def preF (f:List UInt8→Option (Int×Bool)) (wd:List UInt8):Nat→List UInt8→Option (Int×Bool)
 | 0=>f
 | j+1=>putF (preF f wd j) (wd.take (j+1)) (0,false)
def addW (f:List UInt8→Option (Int×Bool)) (i:Nat) (wd:List UInt8):List UInt8→Option (Int×Bool):=if wd=[] then f else putF (preF f wd (wd.length-1)) wd (i,true)
def bookF (ts:List (List UInt8)):Nat→List UInt8→Option (Int×Bool)
 | 0=>fun _=>none
 | i+1=>addW (bookF ts i) i (ts.getD i [])
def nextF (f:List UInt8→Option (Int×Bool)):List UInt8→List UInt8→Int×Int×Nat
 | _,[]=>(0,5,0)
 | pre,c::rest =>
  match f (pre++[c]) with
  | none=>(0,4,1)
  | some (n,true)=>(n,0,1)
  | some (_,false)=>((nextF f (pre++[c]) rest).1,(nextF f (pre++[c]) rest).2.1,(nextF f (pre++[c]) rest).2.2+1)
def jbTy (n:Int):Bool:=decide (1≤n∧n≤64)
def jDpp (v:Int):Bool:=decide (0≤v∧v≤65535)
def qLlL (zs:List Int):Bool:=zs.all jDpp
def q0fM (W H:Int) (zs:List Int):Bool:=jbTy W && jbTy H && decide ((zs.length:Int)=W*H) && qLlL zs
def qkcw (k:Int):Bool:=decide (1≤k∧k≤7)
theorem zHpx {zs:List Int} (h:qLlL zs=true) (k:Nat) (hk:k<zs.length):0≤zs[k]∧zs[k]≤65535:=by
 have:=List.all_eq_true.1 h _ (List.getElem_mem hk)
 simpa [jDpp] using this
theorem qlb5 {zs:List Int} (h:qLlL zs=true) (k:Nat):0≤zs.getD k 0∧zs.getD k 0≤65535:=by
 by_cases hk:k<zs.length
 ·rw[show zs.getD k 0=zs[k] by simp[List.getD,hk]];exact zHpx h k hk
 ·rw[show zs.getD k 0=0 by simp[List.getD,hk]];omega
theorem qfz3 (zs:List Int) (x:Int):qLlL (zs++[x])=(qLlL zs && jDpp x):=by simp[qLlL]
theorem jkxK (zs:List Int) (k:Nat) (hk:k<zs.length) (h:jDpp zs[k]=false):qLlL zs=false:=by
 rw[Bool.eq_false_iff];intro he
 have:=List.all_eq_true.1 he _ (List.getElem_mem hk)
 rw[h] at this;cases this
theorem qwcI {W H:Int} {zs:List Int} (h:q0fM W H zs=true):(1≤W∧W≤64)∧(1≤H∧H≤64)∧(zs.length:Int)=W*H∧qLlL zs=true:=by
 simp only[q0fM,jbTy,kf,decide_eq_true_eq] at h
 exact ⟨h.1.1.1,h.1.1.2,h.1.2,h.2⟩
theorem zAFj {W H:Int} (h1:1≤W∧W≤64) (h2:1≤H∧H≤64):1≤W*H∧W*H≤4096:=by
 have a:=Int.mul_le_mul h1.2 h2.2 (by omega) (by omega)
 have b:=Int.mul_le_mul h1.1 h2.1 (by omega) (by omega)
 omega
def jA7c (kind a b c:Int):Int :=
 if kind=1 then a else if kind=2 then b else if kind=3 then c else if kind=4 then a+b-c else if kind=5 then a+(b-c) / 2 else if kind=6 then b+(a-c) / 2 else (a+b) / 2
def gAt (zs:List Int) (W:Nat) (kind:Int) (k:Nat):Int :=
 if k % W=0∧k / W=0 then 32768 else if k / W=0 then zs.getD (k-1) 0 else if k % W=0 then zs.getD (k-W) 0 else jA7c kind (zs.getD (k-1) 0) (zs.getD (k-W) 0) (zs.getD (k-W-1) 0)
theorem q1DH (kind a b c:Int) (ha:0≤a∧a≤65535) (hb:0≤b∧b≤65535) (hc:0≤c∧c≤65535):-65536≤jA7c kind a b c∧jA7c kind a b c≤131070:=by
 unfold jA7c
 repeat' split
 all_goals omega
theorem zjsj (zs:List Int) (W:Nat) (kind:Int) (k:Nat) (h:qLlL zs=true):-65536≤gAt zs W kind k∧gAt zs W kind k≤131070:=by
 have a:=qlb5 h (k-1)
 have b:=qlb5 h (k-W)
 have c:=qlb5 h (k-W-1)
 have d:=q1DH kind _ _ _ a b c
 unfold gAt
 repeat' split
 all_goals omega
def dif (s g:Int):Int:=if 32768<(s-g) % 65536 then (s-g) % 65536-65536 else (s-g) % 65536
theorem XdLc (s g:Int):-32768<dif s g∧dif s g≤32768:=by unfold dif;split<;>omega
def blen (n:Nat):Nat:=if n=0 then 0 else n.log2+1
theorem jzCW (n:Nat):n<2 ^ blen n:=by
 unfold blen
 split
 ·subst_vars;decide
 ·exact Nat.lt_log2_self
theorem qn5x (n:Nat) (h:n≠0):2 ^ (blen n-1)≤n:=by
 unfold blen
 rw[if_neg h,Nat.add_sub_cancel]
 exact Nat.log2_self_le h
theorem Xju9 {n k:Nat} (h:n<2 ^ k):blen n≤k:=by
 unfold blen
 split
 ·omega
 ·rename_i h0
  exact (Nat.log2_lt h0).2 h
theorem zXXi {n k:Nat} (h:2 ^ k≤n):k<blen n:=by
 refine Decidable.byContradiction fun hn=>?_
 have h1:=jzCW n
 have h2:=Nat.pow_le_pow_right (n:=2) (by decide) (show blen n≤k by omega)
 omega
def cls (d:Int):Nat:=blen d.natAbs
theorem qSCF {d:Int} (h0:-32768<d) (h1:d≤32768):cls d≤16:=Xju9 (by omega)
def tailN (d:Int):Nat:=(if d<0 then d+2 ^ cls d-1 else d).toNat
def tailB (d:Int):List UInt8:=if cls d=0∨cls d=16 then [] else jJyG (tailN d) (cls d)
def wrD (ts:List (List UInt8)) (d:Int):List UInt8:=wordS ts (cls d)++tailB d
def tailV (c v:Nat):Int:=if v<2 ^ c / 2 then (v:Int)-(2 ^ c-1) else v
theorem qbLi (d:Int) (h:cls d≠0):∃c,cls d=c+1∧2 ^ c≤d.natAbs∧d.natAbs<2*2 ^ c∧(2:Int) ^ cls d=((2*2 ^ c:Nat):Int):=by
 have h0:d.natAbs≠0:=fun e=>h (by rw[cls,e];rfl)
 have h1:=qn5x _ h0
 have h2:=jzCW d.natAbs
 obtain ⟨c,hc⟩:∃c,blen d.natAbs=c+1:=⟨blen d.natAbs-1,by unfold cls at h;omega⟩
 rw[hc,Nat.add_sub_cancel] at h1
 rw[hc,Nat.pow_succ] at h2
 refine ⟨c,hc,h1,by omega,?_⟩
 rw[show cls d=c+1 from hc,q5J9,Nat.pow_succ,ke]
theorem z0jg (d:Int) (c:Nat) (h:cls d=c+1):tailN d=(if d<0 then d+2*((2 ^ c:Nat):Int)-1 else d).toNat:=by
 have h2:(2:Int) ^ (c+1)=2*((2 ^ c:Nat):Int):=by rw[q5J9,Nat.pow_succ,ke,Int.natCast_mul];rfl
 rw[tailN,h,h2]
theorem jUqN (d:Int) (h:cls d≠0):tailN d<2 ^ cls d∧((tailN d:Nat):Int)=if d<0 then d+2 ^ cls d-1 else d:=by
 obtain ⟨c,hc,h1,h2,h3⟩:=qbLi d h
 have h4:(2:Nat) ^ cls d=2*2 ^ c:=by rw[hc,Nat.pow_succ];omega
 rw[z0jg d c hc,h3,h4]
 generalize (2:Nat) ^ c=p at *
 split<;>omega
theorem jCcD {d:Int} (h0:-32768<d) (h1:d≤32768):(tailB d).length≤15:=by
 have:=qSCF h0 h1
 unfold tailB
 split
 ·simp
 ·rw[zrCv];omega
theorem qzEB (d:Int):allB (tailB d)=true:=by
 unfold tailB
 split
 ·rfl
 ·exact jKfQ _ _
def nxD (f:List UInt8→Option (Int×Bool)) (b:List UInt8):Option (Int×Nat) :=
  if (nextF f [] b).2.1=0 then
    (if (nextF f [] b).1=16 then some (32768,(nextF f [] b).2.2)
     else if b.length<(nextF f [] b).2.2+(nextF f [] b).1.toNat then none
     else some (tailV (nextF f [] b).1.toNat (valOf ((b.drop (nextF f [] b).2.2).take (nextF f [] b).1.toNat)),(nextF f [] b).2.2+(nextF f [] b).1.toNat))
  else none
def dAt (zs:List Int) (W:Nat) (kind:Int) (i:Nat):Int:=dif (zs.getD i 0) (gAt zs W kind i)
def dBits (ts:List (List UInt8)) (zs:List Int) (W:Nat) (kind:Int) (n:Nat):List UInt8:=(List.range n).flatMap fun i=>wrD ts (dAt zs W kind i)
def dAll (ts:List (List UInt8)) (zs:List Int) (W:Nat) (kind:Int) (n:Nat):Bool:=(List.range n).all fun i=>decide (wordS ts (cls (dAt zs W kind i))≠[])
theorem XRjF (ts:List (List UInt8)) (zs:List Int) (W:Nat) (kind:Int) (n:Nat):dBits ts zs W kind (n+1)=dBits ts zs W kind n++wrD ts (dAt zs W kind n):=by simp[dBits,List.range_succ]
theorem qulm (ts:List (List UInt8)) (zs:List Int) (W:Nat) (kind:Int) (n:Nat):dAll ts zs W kind (n+1)=(dAll ts zs W kind n && decide (wordS ts (cls (dAt zs W kind n))≠[])):=by simp[dAll,List.range_succ]
theorem z4Mg (ts:List (List UInt8)) (zs:List Int) (W:Nat) (kind:Int) (n k:Nat) (hk:k<n) (h:wordS ts (cls (dAt zs W kind k))=[]):dAll ts zs W kind n=false:=by
 rw[Bool.eq_false_iff];intro he
 have:=List.all_eq_true.1 he k (List.mem_range.2 hk)
 simp[h] at this
theorem qhlU (xs:List Int) (hok:qtFp xs=true) (d:Int) (h0:-32768<d) (h1:d≤32768):(wrD (j6d1 xs) d).length≤30:=by
 have:=j1tV xs hok (cls d)
 have:=jCcD h0 h1
 rw[wrD,List.length_append];omega
theorem jcrL (xs:List Int) (hok:qtFp xs=true) (zs:List Int) (W:Nat) (kind:Int) (n:Nat):(dBits (j6d1 xs) zs W kind n).length≤30*n:=by
 induction n with
 | zero=>simp[dBits]
 | succ n ih =>
  have:=XdLc (zs.getD n 0) (gAt zs W kind n)
  have:=qhlU xs hok (dAt zs W kind n) this.1 this.2
  rw[XRjF,List.length_append];omega
def rdD (f:List UInt8→Option (Int×Bool)) (b:List UInt8) (W:Nat) (kind:Int):Nat→Option (Nat×List Int)
 | 0=>some (0,[])
 | k+1=>match rdD f b W kind k with
  | none=>none
  | some (pos,zs)=>match nxD f (b.drop pos) with
   | none=>none
   | some (d,n)=>some (pos+n,zs++[(gAt zs W kind k+d) % 65536])
def fillOk (l:List UInt8):Bool:=decide (l.length<8) && !qMvX l
def X2rK (W H:Int) (zs:List Int) (kind:Int) (xs:List Int):Int :=
 if q0fM W H zs=true then (if qkcw kind=true then (if qO3F xs=0 then (if dAll (j6d1 xs) zs W.toNat kind zs.length=true then 0 else 4) else qO3F xs) else 6) else 1
def zivd (W H:Int) (zs:List Int) (kind:Int) (xs:List Int):List UInt8:=if X2rK W H zs kind xs=0 then bytesOf (dBits (j6d1 xs) zs W.toNat kind zs.length) else []
end Go.Proofs.YtfjeonehdlphiaaGreatDoor
namespace Go.Proofs.YtfjeonehdlphiaaGreatDoor
abbrev Pt:=Int×Int
def ptAt (ls:List Pt) (i:Nat):Pt:=ls.getD i (0,0)
theorem jU85 (ls:List Pt) (i:Nat) (h:i<ls.length):ls[i]=ptAt ls i:=by simp[ptAt,List.getD_eq_getElem?_getD,ka h]
def ptY (ls:List Pt) (i:Nat):Bool:=decide (0≤(ptAt ls i).2∧(ptAt ls i).2≤65535)
def Xqx5 (ls:List Pt) (i:Nat):Bool:=decide (0<i→(ptAt ls (i-1)).1<(ptAt ls i).1∧(ptAt ls (i-1)).2≤(ptAt ls i).2)
def ptsOk (ls:List Pt) (k:Nat):Bool:=(List.range k).all fun i=>ptY ls i && Xqx5 ls i
def jMWf (ls:List Pt):Bool:=decide (2≤(ls.length:Int)∧(ls.length:Int)≤16) && decide ((ptAt ls 0).1=0) && decide ((ptAt ls (ls.length-1)).1=65535)
def zamz (ls:List Pt):Bool:=jMWf ls && ptsOk ls ls.length
theorem qYjQ (ls:List Pt) (k:Nat):ptsOk ls (k+1)=(ptsOk ls k && (ptY ls k && Xqx5 ls k)):=by simp[ptsOk,List.range_succ]
theorem qhxg (ls:List Pt) (k n:Nat) (h:k<n) (hf:(ptY ls k && Xqx5 ls k)=false):ptsOk ls n=false:=by
 rw[Bool.eq_false_iff];intro he
 have:=List.all_eq_true.1 he k (List.mem_range.2 h)
 rw[hf] at this;cases this
theorem qzFt {ls:List Pt} {n:Nat} (h:ptsOk ls n=true) (k:Nat) (hk:k<n):(0≤(ptAt ls k).2∧(ptAt ls k).2≤65535)∧(0<k→(ptAt ls (k-1)).1<(ptAt ls k).1∧(ptAt ls (k-1)).2≤(ptAt ls k).2):=by
 have:=List.all_eq_true.1 h k (List.mem_range.2 hk)
 rw[kf] at this
 exact ⟨of_decide_eq_true this.1,of_decide_eq_true this.2⟩
structure jhAl (ls:List Pt):Prop where
 two:2≤ls.length
 most:ls.length≤16
 first:(ptAt ls 0).1=0
 last:(ptAt ls (ls.length-1)).1=65535
 y:∀k,k<ls.length→0≤(ptAt ls k).2∧(ptAt ls k).2≤65535
 step:∀k,k+1<ls.length→(ptAt ls k).1<(ptAt ls (k+1)).1∧(ptAt ls k).2≤(ptAt ls (k+1)).2
theorem zqz3 {ls:List Pt} (h:zamz ls=true):jhAl ls:=by
 rw[zamz,jMWf,kf,kf,kf] at h
 obtain ⟨⟨⟨h1,h2⟩,h3⟩,h4⟩:=h
 have h1:=of_decide_eq_true h1
 exact ⟨by omega,by omega,of_decide_eq_true h2,of_decide_eq_true h3,fun k hk=>(qzFt h4 k hk).1,fun k hk=>(qzFt h4 (k+1) hk).2 (by omega)⟩
theorem jhAl.lt {ls:List Pt} (h:jhAl ls) (i d:Nat) (hj:i+d+1<ls.length):(ptAt ls i).1<(ptAt ls (i+d+1)).1∧(ptAt ls i).2≤(ptAt ls (i+d+1)).2:=by
 induction d with
 | zero=>exact h.step i hj
 | succ d ih =>
  have h1:=ih (by omega)
  have h2:=h.step (i+d+1) (by omega)
  rw[show i+(d+1)+1=i+d+1+1 by omega]
  omega
theorem jhAl.x {ls:List Pt} (h:jhAl ls) (k:Nat) (hk:k<ls.length):0≤(ptAt ls k).1∧(ptAt ls k).1≤65535:=by
 have h1:=h.first
 have h2:=h.last
 have h3:=h.two
 constructor
 ·rcases Nat.eq_zero_or_pos k with rfl|hp
  ·omega
  ·have:=(h.lt 0 (k-1) (by omega)).1
   rw[show 0+(k-1)+1=k by omega] at this
   omega
 ·rcases Nat.eq_or_lt_of_le (show k≤ls.length-1 by omega) with e|hlt
  ·rw[e];omega
  ·have:=(h.lt k (ls.length-1-k-1) (by omega)).1
   rw[show k+(ls.length-1-k-1)+1=ls.length-1 by omega] at this
   omega
def Xp0K (ls:List Pt) (i:Nat) (x:Int):Int:=(ptAt ls (i-1)).2+((ptAt ls i).2-(ptAt ls (i-1)).2)*(x-(ptAt ls (i-1)).1) / ((ptAt ls i).1-(ptAt ls (i-1)).1)
def isAt (ls:List Pt) (x:Int) (i:Nat):Prop:=i<ls.length∧x≤(ptAt ls i).1∧∀j,j<i→(ptAt ls j).1<x
def XwYM (ls:List Pt) (x:Int):Nat:=ls.findIdx fun p=>decide (x≤p.1)
def qy0p (ls:List Pt) (x:Int):Int:=if (ptAt ls (XwYM ls x)).1=x then (ptAt ls (XwYM ls x)).2 else Xp0K ls (XwYM ls x) x
theorem XJjO {ls:List Pt} {x:Int} {i:Nat} (h:isAt ls x i):XwYM ls x=i:=by
 rw[XwYM,List.findIdx_eq h.1]
 refine ⟨by rw[jU85 ls i h.1];simpa using h.2.1,fun j hj=>?_⟩
 have:=h.2.2 j hj
 rw[jU85 ls j (by have:=h.1;omega)]
 simp;omega
theorem jMoW {ls:List Pt} {x:Int} {i:Nat} (h:isAt ls x i):qy0p ls x=if (ptAt ls i).1=x then (ptAt ls i).2 else Xp0K ls i x:=by
 rw[qy0p,XJjO h]
theorem j21Y {ls:List Pt} (h:jhAl ls) (i:Nat) (hi:i+1<ls.length):Xp0K ls (i+1) (ptAt ls (i+1)).1=(ptAt ls (i+1)).2∧Xp0K ls (i+1) (ptAt ls i).1=(ptAt ls i).2:=by
 have hs:=(h.step i hi).1
 have hd:(ptAt ls (i+1)).1-(ptAt ls i).1≠0:=by omega
 constructor
 ·rw[Xp0K,Nat.add_sub_cancel,Int.mul_ediv_cancel _ hd];omega
 ·rw[Xp0K,Nat.add_sub_cancel,Int.sub_self,Int.mul_zero,Int.zero_ediv];omega
theorem X4yG {ls:List Pt} (h:jhAl ls) {x:Int} (h0:0≤x) {i:Nat} (hi:1≤i) (hl:i<ls.length) (hx:x≤(ptAt ls i).1) (hj:∀j,1≤j→j<i→(ptAt ls j).1<x):qy0p ls x=Xp0K ls i x:=by
 by_cases hz:x=0
 ·subst hz
  have hf:=h.first
  have hi1:i=1:=by
   rcases Nat.eq_or_lt_of_le hi with e|hlt
   ·exact e.symm
   ·have:=hj 1 (by omega) hlt
    have:=h.x 1 (by omega)
    omega
  subst hi1
  rw[jMoW (i:=0) ⟨by omega,by omega,fun j hj=>by omega⟩,if_pos hf]
  have:=(j21Y h 0 hl).2
  rw[hf] at this
  exact this.symm
 ·have hf:=h.first
  rw[jMoW (i:=i) ⟨hl,hx,fun j hji=>by
   rcases Nat.eq_zero_or_pos j with rfl|hp
   ·omega
   ·exact hj j hp hji⟩]
  split
  ·rename_i e
   obtain ⟨k,rfl⟩:∃k,i=k+1:=⟨i-1,by omega⟩
   rw[←e,(j21Y h k hl).1]
  ·rfl
theorem jwsP {ls:List Pt} (h:jhAl ls) (i:Nat) (hi:i+1<ls.length) (x:Int) (h1:(ptAt ls i).1≤x) (h2:x≤(ptAt ls (i+1)).1) :
  0≤((ptAt ls (i+1)).2-(ptAt ls i).2)*(x-(ptAt ls i).1)∧((ptAt ls (i+1)).2-(ptAt ls i).2)*(x-(ptAt ls i).1)≤4294836225∧(ptAt ls i).2≤Xp0K ls (i+1) x∧Xp0K ls (i+1) x≤(ptAt ls (i+1)).2:=by
 have hs:=h.step i hi
 have y1:=h.y i (by omega)
 have y2:=h.y (i+1) hi
 have x1:=h.x i (by omega)
 have x2:=h.x (i+1) hi
 have a:0≤(ptAt ls (i+1)).2-(ptAt ls i).2:=by omega
 have b:0≤x-(ptAt ls i).1:=by omega
 have hnn:=Int.mul_nonneg a b
 have hle:=Int.mul_le_mul (show (ptAt ls (i+1)).2-(ptAt ls i).2≤65535 by omega) (show x-(ptAt ls i).1≤65535 by omega) b (by omega)
 have hd:0<(ptAt ls (i+1)).1-(ptAt ls i).1:=by omega
 have hq0:=Int.ediv_nonneg hnn (Int.le_of_lt hd)
 have hle2:=Int.mul_le_mul_of_nonneg_left (show x-(ptAt ls i).1≤(ptAt ls (i+1)).1-(ptAt ls i).1 by omega) a
 have hq1:=Int.ediv_le_of_le_mul hd hle2
 refine ⟨hnn,by omega,?_,?_⟩
 ·rw[Xp0K,Nat.add_sub_cancel];omega
 ·rw[Xp0K,Nat.add_sub_cancel];omega
theorem qgIX {ls:List Pt} (h:jhAl ls) {x:Int} {i:Nat} (hi:isAt ls x i) (h0:0≤x):0≤qy0p ls x∧qy0p ls x≤65535:=by
 rw[jMoW hi]
 split
 ·exact h.y i hi.1
 ·rename_i hne
  have hf:=h.first
  obtain ⟨k,rfl⟩:∃k,i=k+1:=by
   cases i with
   | zero=>exact absurd (by have:=hi.2.1;omega) hne
   | succ k=>exact ⟨k,rfl⟩
  have hb:=jwsP h k hi.1 x (Int.le_of_lt (hi.2.2 k (by omega))) hi.2.1
  have y1:=h.y k (by have:=hi.1;omega)
  have y2:=h.y (k+1) hi.1
  omega
theorem jIzf {ls:List Pt} (h:jhAl ls) {x:Int} (hx:x≤65535):∃i,isAt ls x i:=by
 have key:∀k,k≤ls.length→(∃i,isAt ls x i)∨∀j,j<k→(ptAt ls j).1<x:=by
  intro k
  induction k with
  | zero=>intro _;exact .inr fun j hj=>by omega
  | succ k ih =>
   intro hk
   rcases ih (by omega) with h1|h1
   ·exact .inl h1
   ·by_cases hc:(ptAt ls k).1<x
    ·refine .inr fun j hj=>?_
     rcases Nat.eq_or_lt_of_le (show j≤k by omega) with e|hlt
     ·rw[e];exact hc
     ·exact h1 j hlt
    ·exact .inl ⟨k,by omega,by omega,h1⟩
 rcases key ls.length (Nat.le_refl _) with h1|h1
 ·exact h1
 ·have:=h1 (ls.length-1) (by have:=h.two;omega)
  have:=h.last
  omega
theorem jhAl.le {ls:List Pt} (h:jhAl ls) (i j:Nat) (hij:i≤j) (hj:j<ls.length):(ptAt ls i).2≤(ptAt ls j).2:=by
 rcases Nat.eq_or_lt_of_le hij with e|hlt
 ·rw[e];exact Int.le_refl _
 ·have:=(h.lt i (j-i-1) (by omega)).2
  rw[show i+(j-i-1)+1=j by omega] at this
  exact this
end Go.Proofs.YtfjeonehdlphiaaGreatDoor
