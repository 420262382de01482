/- Sw: part 1 of what the proofs need. -/
import Derived.WalkKit
set_option linter.unusedVariables false
namespace Go.Proofs.YtfjeonehdlphiaaGreatDoor
open Go.RowKit
theorem Xu5H {α:Type} {P:List α→Prop} (h0:P []) (h1:∀l a,P l→P (l++[a])) (l:List α):P l:=by
 have h:∀m:List α,P m.reverse:=by
  intro m
  induction m with
  | nil=>exact h0
  | cons a m ih=>rw[List.reverse_cons];exact h1 _ _ ih
 have:=h l.reverse
 rwa [List.reverse_reverse] at this
def isBit (c:UInt8):Bool:=decide (c.toNat=48∨c.toNat=49)
def allB (l:List UInt8):Bool:=l.all isBit
theorem XWpK (l:List UInt8) (c:UInt8):allB (l++[c])=(allB l && isBit c):=by simp[allB]
theorem XW0t (l m:List UInt8):allB (l++m)=(allB l && allB m):=by simp[allB]
theorem zTn5 {l:List UInt8} (h:allB l=true) (k:Nat):allB (l.take k)=true:=by
 have:=List.take_append_drop k l
 rw[←this,XW0t,Bool.and_eq_true] at h;exact h.1
theorem Xvwf {l:List UInt8} (h:allB l=true) (k:Nat):allB (l.drop k)=true:=by
 have:=List.take_append_drop k l
 rw[←this,XW0t,Bool.and_eq_true] at h;exact h.2
theorem XUy1 {l:List UInt8} (h:allB l=true) (k:Nat) (hk:k<l.length):l[k].toNat=48∨l[k].toNat=49:=by
 have:=List.all_eq_true.1 h l[k] (List.getElem_mem hk)
 simpa [isBit] using this
theorem XzAH {l:List UInt8} (k:Nat) (hk:k<l.length) (h0:l[k].toNat≠48) (h1:l[k].toNat≠49):allB l=false:=by
 rw[Bool.eq_false_iff];intro h
 rcases XUy1 h k hk with h|h<;>omega
theorem qjCJ (s:ByteArray) (k:Nat) (h:k<s.size):s.data.toList.take (k+1)=s.data.toList.take k++[s[k]]:=by
 rw[List.take_succ_eq_append_getElem (by simpa using h)];rfl
theorem j7UF (s:ByteArray) (k:Nat) (h:s.size≤k):s.data.toList.take k=s.data.toList:=by
 apply List.take_of_length_le;simpa using h
theorem XWox (s:ByteArray) (k:Nat) (h:k<s.size):s.data.toList[k]'(by simpa using h)=s[k]:=rfl
theorem qAMg (s:ByteArray):s.data.toList.length=s.size:=by simp
theorem hide {p:Prop} (h:p):Hid p:=h
theorem zcHp {p:Prop} (h:Hid p):p:=h
def valOf (l:List UInt8):Nat:=l.foldl (fun n c=>2*n+(c.toNat-48)) 0
theorem jvvo (l:List UInt8) (c:UInt8):valOf (l++[c])=2*valOf l+(c.toNat-48):=by simp[valOf]
theorem zEdZ:∀(l:List UInt8),allB l=true→valOf l<2 ^ l.length:=by
 intro l
 refine Xu5H (P:=fun l=>allB l=true→valOf l<2 ^ l.length) ?_ ?_ l
 ·intro _;decide
 ·intro l c ih h
  rw[XWpK,Bool.and_eq_true] at h
  have:=ih h.1
  have hc:c.toNat=48∨c.toNat=49:=by simpa [isBit] using h.2
  rw[jvvo,List.length_append,List.length_singleton,Nat.pow_succ]
  omega
def jJyG:Nat→Nat→List UInt8
 | _,0=>[]
 | n,k+1=>jJyG (n / 2) k++[UInt8.ofNat (48+n % 2)]
theorem zrCv (n k:Nat):(jJyG n k).length=k:=by
 induction k generalizing n with
 | zero=>rfl
 | succ k ih=>simp[jJyG,ih]
theorem XCcv (n k:Nat):jJyG n (k+1)=UInt8.ofNat (48+n / 2 ^ k % 2)::jJyG n k:=by
 induction k generalizing n with
 | zero=>simp[jJyG]
 | succ k ih =>
  rw[jJyG,ih (n / 2)]
  simp only[List.cons_append,Nat.div_div_eq_div_mul,jJyG]
  rw[show 2*2 ^ k=2 ^ (k+1) by rw[Nat.pow_succ];omega]
def str (l:List UInt8):ByteArray:=⟨l.toArray⟩
theorem jrcE (l:List UInt8):(str l).data.toList=l:=rfl
theorem qzX5 (l:List UInt8):(str l).size=l.length:=by simp[str,ByteArray.size]
def byt (l:List UInt8):List Value:=l.map fun c=>Value.int .u8 c.toNat
theorem q82q (l:List UInt8):(byt l).length=l.length:=by simp[byt]
theorem zP44 (l m:List UInt8):byt (l++m)=byt l++byt m:=by simp[byt]
theorem byt_get? (l:List UInt8) (j:Nat):(byt l)[j]?=(l[j]?).map fun c=>Value.int .u8 c.toNat:=by simp[byt]
theorem Xhvo (l:List UInt8):∀u∈byt l,u.oneCell'=true:=by
 intro u hu
 simp only[byt,List.mem_map] at hu
 obtain ⟨c,_,rfl⟩:=hu
 rfl
theorem jxMI {P:Program} {w:World} {base src e dst:TypeId} {g n cap:Nat} {l:List UInt8} (hs:P.underlying src=some (.slice e)) (he:P.underlying e=some (.int .u8)) (hd:P.underlying dst=some .string)
  (h:w.ownsRow base e 1 (.slice (some ⟨g,0,none⟩) n cap) n (byt l)) :
  (convert src dst (.slice (some ⟨g,0,none⟩) n cap)).run P w=.ok (.string (str l)) w:=by
 have hl:l.length=n:=by have:=h.1;rw[q82q] at this;omega
 have:=run_convert_bytes_arg (P:=P) w src e hs he g 0 n cap (l.map fun c=>(c.toNat:Int)) (by simpa using hl) (fun i hi=>by
  rw[Nat.zero_add,h.cellAt i (by omega),byt_get?]
  simp[List.getElem?_eq_getElem (show i<l.length by omega)]) dst hd
 rw[this]
 congr 2
 simp only[strOfNums,str,List.map_map]
 congr 2
 exact (List.map_congr_left (fun c _=>by simp)).trans (List.map_id l)
theorem and1 (n:Int):bits .and .i64 n 1=n % 2:=by
 have h1:(BitVec.ofInt 64 1).toNat=2 ^ 1-1:=by decide
 have key:(BitVec.ofInt 64 n &&& BitVec.ofInt 64 1).toNat=(n % ((2 ^ 64:Nat):Int)).toNat % 2 ^ 1:=by
  rw[BitVec.toNat_and,BitVec.toNat_ofInt,h1,Nat.and_two_pow_sub_one_eq_mod]
 show IntKind.i64.wrap ((BitVec.ofInt 64 n &&& BitVec.ofInt 64 1).toNat:Nat)=n % 2
 rw[key,IntKind.wrap_i64]
 omega
theorem qL6h (n:Int):bits .and .i64 n 65535=n % 65536:=by
 have h1:(BitVec.ofInt 64 65535).toNat=2 ^ 16-1:=by decide
 have key:(BitVec.ofInt 64 n &&& BitVec.ofInt 64 65535).toNat=(n % ((2 ^ 64:Nat):Int)).toNat % 2 ^ 16:=by
  rw[BitVec.toNat_and,BitVec.toNat_ofInt,h1,Nat.and_two_pow_sub_one_eq_mod]
 show IntKind.i64.wrap ((BitVec.ofInt 64 n &&& BitVec.ofInt 64 65535).toNat:Nat)=n % 65536
 rw[key,IntKind.wrap_i64]
 omega
theorem q5J9 (k:Nat):((2:Int) ^ k)=((2 ^ k:Nat):Int):=(Int.natCast_pow 2 k).symm
theorem zwz8 (n k:Nat):(48+bits BinOp.and IntKind.i64 ((n:Int) / 2 ^ k) 1) % 256=(48+(n / 2 ^ k % 2:Nat):Int):=by
 rw[and1,q5J9,←Int.natCast_ediv]
 omega
theorem XE8Y (p:Nat) (h:p<256):byt [UInt8.ofNat p]=[Value.int .u8 (p:Nat)]:=by
 simp only[byt,List.map_cons,List.map_nil,UInt8.toNat_ofNat']
 congr 3
 omega
theorem X4yv {α:Type} {x u:α} {j:Nat} (h:[x][j]?=some u):j=0∧u=x:=by
 match j,h with
 | 0,h=>simp at h;exact ⟨rfl,h.symm⟩
theorem jV70 {a b c d:Value} (h1:a=c) (h2:b=d):Ending.returned (.tuple #[a,b])=.returned (.tuple #[c,d]):=by rw[h1,h2]
theorem jx9N {k:IntKind} {a b:Int} (h:a=b):Ending.returned (.int k a)=.returned (.int k b):=by rw[h]
theorem j3Zs {a b:Bool} (h:a=b):Ending.returned (.bool a)=.returned (.bool b):=by rw[h]
def bitAt (l:List UInt8) (k:Nat):Nat:=if l[k]?=some 49 then 1 else 0
def j0NY (l:List UInt8) (i:Nat):Nat→Nat
 | 0=>0
 | j+1=>2*j0NY l i j+bitAt l (i+j)
def XIZK (l:List UInt8):List UInt8:=(List.range ((l.length+7) / 8)).map fun q=>UInt8.ofNat (j0NY l (8*q) 8)
theorem j3Sl (l:List UInt8) (k:Nat):bitAt l k≤1:=by unfold bitAt;split<;>omega
theorem jVw1 (l:List UInt8) (k:Nat) (h:l.length≤k):bitAt l k=0:=by
 unfold bitAt;rw[List.getElem?_eq_none h];rfl
theorem qRy9 (l:List UInt8) (k:Nat) (h:k<l.length) (hb:allB l=true):bitAt l k=l[k].toNat-48:=by
 unfold bitAt
 rw[List.getElem?_eq_getElem h]
 rcases XUy1 hb k h with e|e
 ·rw[if_neg (by intro hh;simp only[Option.some.injEq] at hh;rw[hh] at e;revert e;decide)];omega
 ·rw[if_pos (by rw[show l[k]=49 from UInt8.toNat_inj.1 e])];omega
theorem X0uq (l:List UInt8) (i j:Nat):j0NY l i j<2 ^ j:=by
 induction j with
 | zero=>exact Nat.one_pos
 | succ j ih=>have:=j3Sl l (i+j);rw[j0NY,Nat.pow_succ];omega
theorem XJTv (l:List UInt8) (i j d:Nat) (h:l.length≤i+j):j0NY l i (j+d)=j0NY l i j*2 ^ d:=by
 induction d with
 | zero=>simp
 | succ d ih =>
  rw[show j+(d+1)=(j+d)+1 by omega,j0NY,ih,jVw1 _ _ (by omega),Nat.pow_succ,Nat.add_zero,Nat.mul_comm 2,Nat.mul_assoc]
theorem qEqN (l:List UInt8):(XIZK l).length=(l.length+7) / 8:=by simp[XIZK]
def accAt (l:List UInt8) (k q:Nat):Nat:=j0NY l (8*q) (min 8 (k-8*q))*2 ^ (8-min 8 (k-8*q))
def jlEz (l:List UInt8) (n k:Nat):List Value:=(List.range n).map fun q=>Value.int .u8 (accAt l k q)
theorem zdzG (l:List UInt8) (n k:Nat):(jlEz l n k).length=n:=by simp[jlEz]
theorem jgjF (l:List UInt8) (n k q:Nat) (h:q<n):(jlEz l n k)[q]?=some (.int .u8 (accAt l k q)):=by
 simp[jlEz,h]
theorem z2r0 (l:List UInt8) (k q:Nat) (h:q≠k / 8):accAt l (k+1) q=accAt l k q:=by
 unfold accAt
 rw[show min 8 (k+1-8*q)=min 8 (k-8*q) by omega]
theorem XzdG (r:Nat) (h:r<8):2 ^ (8-r)=2*2 ^ (7-r):=by
 rw[show 8-r=(7-r)+1 by omega,Nat.pow_succ];omega
theorem zSOx (l:List UInt8) (k:Nat):accAt l (k+1) (k / 8)=accAt l k (k / 8)+bitAt l k*2 ^ (7-k % 8):=by
 unfold accAt
 rw[show min 8 (k-8*(k / 8))=k % 8 by omega,show min 8 (k+1-8*(k / 8))=k % 8+1 by omega,j0NY,show 8*(k / 8)+k % 8=k by omega,
  XzdG _ (Nat.mod_lt _ (by decide)),show 8-(k % 8+1)=7-k % 8 by omega]
 generalize 2 ^ (7-k % 8)=p
 generalize j0NY l (8*(k / 8)) (k % 8)=a
 generalize bitAt l k=b
 rw[Nat.add_mul,Nat.mul_comm 2 a,Nat.mul_assoc]
theorem jd6N (l:List UInt8) (n k:Nat) (u:Int) (hu:u=(accAt l (k+1) (k / 8):Nat)):(jlEz l n k).set (k / 8) (.int .u8 u)=jlEz l n (k+1):=by
 apply List.ext_getElem?
 intro j
 rw[List.getElem?_set]
 by_cases e:k / 8=j
 ·subst e
  rw[if_pos rfl]
  by_cases hn:k / 8<n
  ·rw[jgjF _ _ _ _ hn,zdzG,if_pos hn,hu]
  ·rw[zdzG,if_neg hn,List.getElem?_eq_none (by rw[zdzG];omega)]
 ·rw[if_neg e]
  by_cases hn:j<n
  ·rw[jgjF _ _ _ _ hn,jgjF _ _ _ _ hn,z2r0 _ _ _ (fun h=>e h.symm)]
  ·rw[List.getElem?_eq_none (by rw[zdzG];omega),List.getElem?_eq_none (by rw[zdzG];omega)]
theorem qejR (l:List UInt8) (n:Nat):jlEz l n 0=(madeCells (Value.int .u8 0).cells (n*1)).toList:=by
 rw[show (Value.int .u8 0).cells=#[Value.int .u8 0] from rfl,toList_madeCells_one]
 apply List.ext_getElem?
 intro j
 by_cases hn:j<n
 ·rw[jgjF _ _ _ _ hn,List.getElem?_replicate,if_pos (by omega)];simp[accAt,j0NY]
 ·rw[List.getElem?_eq_none (by rw[zdzG];omega),List.getElem?_eq_none (by simp;omega)]
theorem qew6 (l:List UInt8):jlEz l ((l.length+7) / 8) l.length=byt (XIZK l):=by
 simp only[jlEz,byt,XIZK,List.map_map]
 apply List.map_congr_left
 intro q hq
 have hq:q<(l.length+7) / 8:=by simpa using hq
 have h1:accAt l l.length q=j0NY l (8*q) 8:=by
  unfold accAt
  have hj:min 8 (l.length-8*q)≤8:=Nat.min_le_left _ _
  by_cases h:8≤l.length-8*q
  ·rw[Nat.min_eq_left h];simp
  ·rw[←XJTv _ _ _ _ (by omega),show min 8 (l.length-8*q)+(8-min 8 (l.length-8*q))=8 by omega]
 have h2:=X0uq l (8*q) 8
 simp only[Function.comp]
 rw[h1,UInt8.toNat_ofNat']
 congr 2
 omega
theorem XwGy (l:List UInt8) (k:Nat):accAt l k (k / 8) % 2 ^ (8-k % 8)=0∧accAt l k (k / 8)<256:=by
 unfold accAt
 rw[show min 8 (k-8*(k / 8))=k % 8 by omega]
 refine ⟨by simp,?_⟩
 have h:=X0uq l (8*(k / 8)) (k % 8)
 calc j0NY l (8*(k / 8)) (k % 8)*2 ^ (8-k % 8)<2 ^ (k % 8)*2 ^ (8-k % 8):=Nat.mul_lt_mul_of_pos_right h (Nat.pow_pos (by decide))
  _=256:=by rw[←Nat.pow_add,show k % 8+(8-k % 8)=8 by omega]
theorem qNlo (l:List UInt8) (k:Nat) (c:Int) (hc:c-48=bitAt l k) :
  bits .or .u8 (accAt l k (k / 8):Nat) ((c-48)*2 ^ (7-k % 8) % 256)=(accAt l (k+1) (k / 8):Nat):=by
 rw[hc,zSOx]
 obtain ⟨h1,h2⟩:=XwGy l k
 have h3:=j3Sl l k
 have hp:2 ^ (7-k % 8)≤2 ^ 7:=Nat.pow_le_pow_right (by decide) (by omega)
 have hq:=XzdG (k % 8) (Nat.mod_lt _ (by decide))
 rw[hq] at h1
 have hx:(bitAt l k:Int)*2 ^ (7-k % 8) % 256=((bitAt l k*2 ^ (7-k % 8):Nat):Int):=by
  rw[q5J9,←Int.natCast_mul]
  have:bitAt l k*2 ^ (7-k % 8)<256:=by
   have:bitAt l k*2 ^ (7-k % 8)≤1*2 ^ (7-k % 8):=Nat.mul_le_mul_right _ h3
   omega
  omega
 rw[hx]
 have hlt:bitAt l k*2 ^ (7-k % 8)<2 ^ (8-k % 8):=by
  have:bitAt l k*2 ^ (7-k % 8)≤1*2 ^ (7-k % 8):=Nat.mul_le_mul_right _ h3
  have:0<2 ^ (7-k % 8):=Nat.pow_pos (by decide)
  omega
 rw[bits_join .u8 8 (by decide) wraps_u8 (8-k % 8) _ _ (by omega) (by rw[q5J9,hq,←Int.natCast_emod,h1];rfl) (by omega) (by omega) (by rw[q5J9];exact Int.ofNat_lt.2 hlt) (by
  have:bitAt l k*2 ^ (7-k % 8)≤1*2 ^ (7-k % 8):=Nat.mul_le_mul_right _ h3
  generalize bitAt l k*2 ^ (7-k % 8)=z at *
  omega)]
 rw[Int.natCast_add]
def rowOf (l:List UInt8):List UInt8:=l.flatMap fun c=>jJyG c.toNat 8
theorem qmR0 (l:List UInt8) (c:UInt8):rowOf (l++[c])=rowOf l++jJyG c.toNat 8:=by simp[rowOf]
theorem jhTv (l:List UInt8) (c:UInt8):rowOf (c::l)=jJyG c.toNat 8++rowOf l:=by simp[rowOf]
theorem zLs8 (l:List UInt8):(rowOf l).length=8*l.length:=by
 induction l with
 | nil=>rfl
 | cons c l ih=>rw[jhTv,List.length_append,zrCv,ih,List.length_cons];omega
theorem jFsU (n k j:Nat) (h:j<k):(jJyG n k)[j]?=some (UInt8.ofNat (48+n / 2 ^ (k-1-j) % 2)):=by
 induction k generalizing j with
 | zero=>omega
 | succ k ih =>
  rw[XCcv]
  cases j with
  | zero=>simp
  | succ j=>rw[List.getElem?_cons_succ,ih j (by omega),show k+1-1-(j+1)=k-1-j by omega]
theorem and1u8 (x:Nat) (h:x<256):bits .and .u8 (x:Int) 1=((x % 2:Nat):Int):=by
 have h1:(BitVec.ofInt 8 1).toNat=2 ^ 1-1:=by decide
 have key:(BitVec.ofInt 8 (x:Int) &&& BitVec.ofInt 8 1).toNat=((x:Int) % ((2 ^ 8:Nat):Int)).toNat % 2 ^ 1:=by
  rw[BitVec.toNat_and,BitVec.toNat_ofInt,h1,Nat.and_two_pow_sub_one_eq_mod]
 show IntKind.u8.wrap ((BitVec.ofInt 8 (x:Int) &&& BitVec.ofInt 8 1).toNat:Nat)=_
 rw[key,IntKind.wrap_u8]
 omega
theorem q0mR (c t:Nat) (hc:c<256):(48+bits BinOp.and IntKind.u8 ((c:Int) / 2 ^ t) 1) % 256=((48+c / 2 ^ t % 2:Nat):Int):=by
 rw[q5J9,←Int.natCast_ediv,and1u8 _ (Nat.lt_of_le_of_lt (Nat.div_le_self _ _) hc)]
 omega
theorem jba7 (c t:Nat) (h:t<8):(jJyG c 8).take (8-t)=(jJyG c 8).take (7-t)++[UInt8.ofNat (48+c / 2 ^ t % 2)]:=by
 have h1:7-t<(jJyG c 8).length:=by rw[zrCv];omega
 rw[show 8-t=(7-t)+1 by omega,List.take_succ_eq_append_getElem h1]
 congr 2
 have:=jFsU c 8 (7-t) (by omega)
 rw[List.getElem?_eq_getElem h1] at this
 simp only[Option.some.injEq] at this
 rw[this,show 8-1-(7-t)=t by omega]
theorem jKfQ (n k:Nat):allB (jJyG n k)=true:=by
 induction k generalizing n with
 | zero=>rfl
 | succ k ih =>
  rw[jJyG,XWpK,ih,Bool.true_and]
  have h2:n % 2<2:=Nat.mod_lt _ (by decide)
  simp only[isBit,UInt8.toNat_ofNat',decide_eq_true_eq]
  omega
theorem XJss (l:List UInt8):allB (rowOf l)=true:=by
 induction l with
 | nil=>rfl
 | cons c l ih=>rw[jhTv,XW0t,jKfQ,ih];rfl
def numOk (n size:Int):Bool:=decide (0≤size∧size≤16∧0≤n∧n<2 ^ size.toNat)
def numS (n size:Int):ByteArray:=if numOk n size=true then str (jJyG n.toNat size.toNat) else str []
def numE (n size:Int):Int:=if numOk n size=true then 0 else 3
theorem pow16 {n:Nat} (h:n≤16):2 ^ n≤65536:=Nat.le_trans (Nat.pow_le_pow_right (by decide) h) (by decide)
theorem XhgL (n size:Int):(∃m k:Nat,n=m∧size=k∧k≤16∧m<2 ^ k∧numOk n size=true) ∨
  (numOk n size=false∧(size<0∨16<size∨(0≤size∧size≤16∧n<0)∨∃k p:Nat,size=k∧k≤16∧p=2 ^ k∧(p:Int)≤n)):=by
 by_cases h:numOk n size=true
 ·left
  have h':=h
  simp only[numOk,decide_eq_true_eq] at h'
  obtain ⟨h1,h2,h3,h4⟩:=h'
  refine ⟨n.toNat,size.toNat,by omega,by omega,by omega,?_,h⟩
  rw[q5J9] at h4
  generalize 2 ^ size.toNat=p at *
  omega
 ·right
  have h:numOk n size=false:=by simpa using h
  refine ⟨h,?_⟩
  simp only[numOk,decide_eq_false_iff_not] at h
  by_cases a:size<0
  ·exact .inl a
  by_cases b:16<size
  ·exact .inr (.inl b)
  by_cases c:n<0
  ·exact .inr (.inr (.inl ⟨by omega,by omega,c⟩))
  ·refine .inr (.inr (.inr ⟨size.toNat,2 ^ size.toNat,by omega,by omega,rfl,?_⟩))
   have:¬n<2 ^ size.toNat:=fun hh=>h ⟨by omega,by omega,by omega,hh⟩
   rw[q5J9] at this
   generalize 2 ^ size.toNat=p at *
   omega
def jvGa (xs:List Int) (d:Int):List UInt8:=xs.flatMap fun n=>jJyG n.toNat d.toNat
theorem jmVo (xs:List Int) (n d:Int):jvGa (xs++[n]) d=jvGa xs d++jJyG n.toNat d.toNat:=by simp[jvGa]
theorem qtHw (xs:List Int) (n d:Int):jvGa (n::xs) d=jJyG n.toNat d.toNat++jvGa xs d:=by simp[jvGa]
theorem Xg2y (xs:List Int) (d:Int):(jvGa xs d).length=xs.length*d.toNat:=by
 induction xs with
 | nil=>simp[jvGa]
 | cons n xs ih=>rw[qtHw,List.length_append,zrCv,ih,List.length_cons,Nat.succ_mul];omega
theorem ztg4 (xs:List Int) (d:Int):allB (jvGa xs d)=true:=by
 induction xs with
 | nil=>rfl
 | cons n xs ih=>rw[qtHw,XW0t,jKfQ,ih];rfl
def allOk (xs:List Int) (d:Int):Bool:=xs.all fun n=>numOk n d
theorem jJfW (xs:List Int) (n d:Int):allOk (xs++[n]) d=(allOk xs d && numOk n d):=by simp[allOk]
theorem XcnF (xs:List Int) (d:Int) (k:Nat) (h:k<xs.length) (hn:numOk xs[k] d=false):allOk xs d=false:=by
 rw[Bool.eq_false_iff];intro hh
 have:=List.all_eq_true.1 hh xs[k] (List.getElem_mem h)
 rw[hn] at this;cases this
def XSys (d:Int):Bool:=decide (1≤d∧d≤16)
def packE (xs:List Int) (d:Int):Int:=if XSys d=true then (if xs.length≤4096 then (if allOk xs d=true then 0 else 3) else 2) else 3
def packS (xs:List Int) (d:Int):List UInt8:=if packE xs d=0 then XIZK (jvGa xs d) else []
def bitCh (l:List UInt8) (k:Nat):UInt8:=UInt8.ofNat (48+bitAt l k)
theorem qXrA (l:List UInt8) (i j:Nat):jJyG (j0NY l i j) j=(List.range j).map fun r=>bitCh l (i+r):=by
 induction j with
 | zero=>rfl
 | succ j ih =>
  have hb:=j3Sl l (i+j)
  rw[j0NY,jJyG,show (2*j0NY l i j+bitAt l (i+j)) / 2=j0NY l i j by omega,show (2*j0NY l i j+bitAt l (i+j)) % 2=bitAt l (i+j) by omega,ih,List.range_succ,List.map_append]
  rfl
theorem XjZH (l:List UInt8) (n:Nat):rowOf ((List.range n).map fun q=>UInt8.ofNat (j0NY l (8*q) 8))=(List.range (8*n)).map (bitCh l):=by
 induction n with
 | zero=>rfl
 | succ n ih =>
  rw[List.range_succ,List.map_append,List.map_singleton,qmR0,ih]
  have h:(UInt8.ofNat (j0NY l (8*n) 8)).toNat=j0NY l (8*n) 8:=by
   have:=X0uq l (8*n) 8
   rw[UInt8.toNat_ofNat'];omega
  rw[h,qXrA,show 8*(n+1)=8*n+8 by omega,List.range_add,List.map_append,List.map_map]
  rfl
theorem Xiht (l:List UInt8) (hb:allB l=true) (k:Nat) (h:k<l.length):bitCh l k=l[k]:=by
 have h1:=XUy1 hb k h
 rw[bitCh,qRy9 l k h hb,show 48+(l[k].toNat-48)=l[k].toNat by omega]
 simp
theorem zZlx (l:List UInt8) (hb:allB l=true):rowOf (XIZK l)=l++List.replicate (8*((l.length+7) / 8)-l.length) 48:=by
 rw[XIZK,XjZH]
 apply List.ext_getElem?
 intro j
 by_cases h1:j<l.length
 ·rw[List.getElem?_append_left h1,List.getElem?_map,List.getElem?_range (by omega),List.getElem?_eq_getElem h1]
  simp[Xiht l hb j h1]
 ·rw[List.getElem?_append_right (by omega),List.getElem?_map]
  by_cases h2:j<8*((l.length+7) / 8)
  ·rw[List.getElem?_range h2,List.getElem?_replicate,if_pos (by omega)]
   simp[bitCh,jVw1 l j (by omega)]
  ·rw[List.getElem?_replicate,if_neg (by omega),List.getElem?_eq_none (by simp;omega)]
   rfl
theorem jqBu (l:List UInt8) (hb:allB l=true):jJyG (valOf l) l.length=l:=by
 refine Xu5H (P:=fun l=>allB l=true→jJyG (valOf l) l.length=l) ?_ ?_ l hb
 ·intro _;rfl
 ·intro l c ih h
  rw[XWpK,Bool.and_eq_true] at h
  have hc:c.toNat=48∨c.toNat=49:=by simpa [isBit] using h.2
  rw[List.length_append,List.length_singleton,jJyG,jvvo,show (2*valOf l+(c.toNat-48)) / 2=valOf l by omega,ih h.1,
   show 48+(2*valOf l+(c.toNat-48)) % 2=c.toNat by omega]
  simp
def vals (b:List UInt8) (D n:Nat):List Int:=(List.range n).map fun i=>(valOf ((b.drop (i*D)).take D):Int)
theorem z3uI (b:List UInt8) (D n:Nat):(vals b D n).length=n:=by simp[vals]
theorem X9H3 (b:List UInt8) (D n:Nat):vals b D (n+1)=vals b D n++[(valOf ((b.drop (n*D)).take D):Int)]:=by simp[vals,List.range_succ]
def qMvX (l:List UInt8):Bool:=l.any fun c=>c == 49
theorem zSOm (n:Nat):qMvX (List.replicate n 48)=false:=by
 rw[Bool.eq_false_iff]
 intro h
 obtain ⟨c,hc,h1⟩:=List.any_eq_true.1 h
 rw[List.eq_of_mem_replicate hc] at h1
 cases h1
theorem jA8q (n k:Nat) (h:n<2 ^ k):valOf (jJyG n k)=n:=by
 induction k generalizing n with
 | zero=>rw[jJyG];simp at h;rw[h];rfl
 | succ k ih =>
  rw[Nat.pow_succ] at h
  have h2:n % 2<2:=Nat.mod_lt _ (by decide)
  rw[jJyG,jvvo,ih (n / 2) (by omega),UInt8.toNat_ofNat']
  omega
theorem Xlrb (d:Int) (r:List UInt8) (xs:List Int) (hok:allOk xs d=true):vals (jvGa xs d++r) d.toNat xs.length=xs:=by
 refine Xu5H (P:=fun xs=>∀r,allOk xs d=true→vals (jvGa xs d++r) d.toNat xs.length=xs) ?_ ?_ xs r hok
 ·intro r _;rfl
 ·intro xs x ih r h
  rw[jJfW,Bool.and_eq_true] at h
  rw[jmVo,List.append_assoc,List.length_append,List.length_singleton,X9H3,ih _ h.1]
  have hl:(jvGa xs d).length=xs.length*d.toNat:=Xg2y xs d
  rw[List.drop_append_of_le_length (by omega),List.drop_of_length_le (by omega),List.nil_append,List.take_append_of_le_length (by rw[zrCv];exact Nat.le_refl _),List.take_of_length_le (by rw[zrCv];exact Nat.le_refl _)]
  rcases XhgL x d with ⟨m,k,rfl,rfl,h1,h2,_⟩|⟨h1,_⟩
  ·rw[Int.toNat_natCast,Int.toNat_natCast,jA8q m k h2]
  ·rw[h1] at h;cases h.2
theorem jfVh {xs:List Int} {d:Int} (h:packE xs d=0):XSys d=true∧xs.length≤4096∧allOk xs d=true:=by
 unfold packE at h
 by_cases h1:XSys d=true
 ·rw[if_pos h1] at h
  by_cases h2:xs.length≤4096
  ·rw[if_pos h2] at h
   by_cases h3:allOk xs d=true
   ·exact ⟨h1,h2,h3⟩
   ·rw[if_neg h3] at h;exact absurd h (by decide)
  ·rw[if_neg h2] at h;exact absurd h (by decide)
 ·rw[if_neg h1] at h;exact absurd h (by decide)
def Xpy1 (s:List UInt8) (d n:Int):Bool:=decide (XSys d=true∧0≤n∧n≤4096∧s.length=(n.toNat*d.toNat+7) / 8∧qMvX ((rowOf s).drop (n.toNat*d.toNat))=false)
def unpV (s:List UInt8) (d n:Int):List Int:=if Xpy1 s d n=true then vals (rowOf s) d.toNat n.toNat else []
def unpE (s:List UInt8) (d n:Int):Int :=
 if XSys d=true∧0≤n then (if n≤4096 then (if Xpy1 s d n=true then 0 else 1) else 2) else 3
theorem jtlP {s:List UInt8} {d n:Int} (h:unpE s d n=0):Xpy1 s d n=true:=by
 unfold unpE at h
 by_cases h1:XSys d=true∧0≤n
 ·rw[if_pos h1] at h
  by_cases h2:n≤4096
  ·rw[if_pos h2] at h
   by_cases h3:Xpy1 s d n=true
   ·exact h3
   ·rw[if_neg h3] at h;exact absurd h (by decide)
  ·rw[if_neg h2] at h;exact absurd h (by decide)
 ·rw[if_neg h1] at h;exact absurd h (by decide)
theorem XGJQ {xs:List Int} {d:Int} (h:packE xs d=0):unpE (packS xs d) d xs.length=0∧unpV (packS xs d) d xs.length=xs:=by
 obtain ⟨h1,h2,h3⟩:=jfVh h
 have hS:packS xs d=XIZK (jvGa xs d):=by rw[packS,if_pos h]
 have hb:=ztg4 xs d
 have hl:=Xg2y xs d
 have hr:=zZlx (jvGa xs d) hb
 have hf:Xpy1 (packS xs d) d xs.length=true:=by
  simp only[Xpy1,decide_eq_true_eq]
  refine ⟨h1,by omega,by omega,?_,?_⟩
  ·rw[hS,qEqN,hl,Int.toNat_natCast]
  ·rw[hS,hr,Int.toNat_natCast,List.drop_append_of_le_length (by omega),List.drop_of_length_le (by omega),List.nil_append]
   exact zSOm _
 refine ⟨?_,?_⟩
 ·rw[unpE,if_pos ⟨h1,by omega⟩,if_pos (by omega),if_pos hf]
 ·rw[unpV,if_pos hf,hS,hr,Int.toNat_natCast]
  exact Xlrb d _ xs h3
def lenOk (x:Int):Bool:=decide (0≤x∧x≤15)
def qtFp (xs:List Int):Bool:=xs.all lenOk
def wt (x:Int):Nat:=if 0<x then 2 ^ (15-x.toNat) else 0
def ksum:List Int→Nat
 | []=>0
 | x::xs=>wt x+ksum xs
theorem qDB7 (xs:List Int) (x:Int):ksum (xs++[x])=ksum xs+wt x:=by
 induction xs with
 | nil=>simp[ksum]
 | cons y xs ih=>simp only[List.cons_append,ksum,ih];omega
theorem X0sA (xs:List Int) (x:Int):qtFp (xs++[x])=(qtFp xs && lenOk x):=by simp[qtFp]
theorem zrc5 (xs:List Int) (k:Nat) (h:k<xs.length) (hn:lenOk xs[k]=false):qtFp xs=false:=by
 rw[Bool.eq_false_iff];intro hh
 have:=List.all_eq_true.1 hh xs[k] (List.getElem_mem h)
 rw[hn] at this;cases this
theorem XHEW {xs:List Int} (h:qtFp xs=true) (k:Nat) (hk:k<xs.length):0≤xs[k]∧xs[k]≤15:=by
 have:=List.all_eq_true.1 h xs[k] (List.getElem_mem hk)
 simpa [lenOk] using this
theorem wt_le (x:Int):wt x≤32768:=by
 unfold wt
 split
 ·exact Nat.le_trans (Nat.pow_le_pow_right (by decide) (Nat.sub_le _ _)) (by decide)
 ·decide
theorem wt_pos (x:Int) (h:0<x):0<wt x:=by unfold wt;rw[if_pos h];exact Nat.pow_pos (by decide)
theorem zlvS (xs:List Int):ksum xs≤32768*xs.length:=by
 induction xs with
 | nil=>simp[ksum]
 | cons x xs ih=>have:=wt_le x;simp only[ksum,List.length_cons];omega
def ji94 (xs:List Int):Bool:=xs.any fun x=>decide (0<x)
theorem q4z2 (xs:List Int):ksum xs=0↔ji94 xs=false:=by
 induction xs with
 | nil=>simp[ksum,ji94]
 | cons x xs ih =>
  simp only[ksum,ji94,List.any_cons,Bool.or_eq_false_iff,decide_eq_false_iff_not] at *
  rw[←ih]
  by_cases h:0<x
  ·have:=wt_pos x h
   constructor
   ·intro h2;omega
   ·intro h2;exact absurd h h2.1
  ·have:wt x=0:=by unfold wt;rw[if_neg h]
   rw[this]
   constructor
   ·intro h2;exact ⟨h,by omega⟩
   ·intro h2;omega
def qO3F (xs:List Int):Int :=
 if 1≤xs.length∧xs.length≤17 then (if qtFp xs=true then (if ksum xs=0∨32768<ksum xs then 1 else 0) else 3) else 2
theorem zF8D {xs:List Int} (h:qO3F xs=0):1≤xs.length∧xs.length≤17∧qtFp xs=true∧0<ksum xs∧ksum xs≤32768:=by
 unfold qO3F at h
 by_cases h1:1≤xs.length∧xs.length≤17
 ·rw[if_pos h1] at h
  by_cases h2:qtFp xs=true
  ·rw[if_pos h2] at h
   by_cases h3:ksum xs=0∨32768<ksum xs
   ·rw[if_pos h3] at h;exact absurd h (by decide)
   ·exact ⟨h1.1,h1.2,h2,by omega,by omega⟩
  ·rw[if_neg h2] at h;exact absurd h (by decide)
 ·rw[if_neg h1] at h;exact absurd h (by decide)
def XpDF (xs:List Int) (s:Int):Nat:=(xs.filter fun x=>decide (x=s)).length
def cnt (xs:List Int) (s:Int) (k:Nat):Nat:=XpDF (xs.take k) s
theorem zkzH (xs:List Int) (s:Int):cnt xs s 0=0:=rfl
theorem XIRo (xs:List Int) (s:Int) (k:Nat) (h:k<xs.length):cnt xs s (k+1)=cnt xs s k+if xs[k]=s then 1 else 0:=by
 unfold cnt XpDF
 rw[List.take_succ_eq_append_getElem h,List.filter_append,List.length_append]
 by_cases e:xs[k]=s<;>simp[e]
theorem qsPk (xs:List Int) (s:Int):cnt xs s xs.length=XpDF xs s:=by unfold cnt;rw[List.take_length]
theorem cnt_le (xs:List Int) (s:Int) (k:Nat):cnt xs s k≤XpDF xs s:=by
 unfold cnt XpDF
 exact (List.Sublist.filter _ (List.take_sublist k xs)).length_le
def low:List Int→Nat→Nat
 | [],_=>0
 | x::xs,t=>(if x≤t then wt x else 0)+low xs t
theorem low_le (xs:List Int) (t:Nat):low xs t≤ksum xs:=by
 induction xs with
 | nil=>exact Nat.le_refl _
 | cons x xs ih=>simp only[low,ksum];split<;>omega
theorem qHiO (xs:List Int):low xs 0=0:=by
 induction xs with
 | nil=>rfl
 | cons x xs ih =>
  simp only[low,ih]
  split
  ·rename_i h
   have:wt x=0:=by unfold wt;rw[if_neg (by omega)]
   omega
  ·rfl
theorem jjMz (xs:List Int) (t:Nat) (_ht:t≤14):low xs (t+1)=low xs t+XpDF xs ((t:Int)+1)*2 ^ (14-t):=by
 induction xs with
 | nil=>simp[low,XpDF]
 | cons x xs ih =>
  simp only[low,XpDF,List.filter_cons] at *
  rw[ih]
  by_cases h:x=(t:Int)+1
  ·subst h
   have hw:wt ((t:Int)+1)=2 ^ (14-t):=by
    unfold wt
    rw[if_pos (by omega),show 15-((t:Int)+1).toNat=14-t by omega]
   rw[if_pos (by omega),if_neg (by omega),hw]
   simp only[decide_true,if_true,List.length_cons]
   rw[Nat.succ_mul]
   omega
  ·have e:(if x≤((t+1:Nat):Int) then wt x else 0)=(if x≤(t:Int) then wt x else 0):=by
    by_cases h2:x≤(t:Int)
    ·rw[if_pos h2,if_pos (by omega)]
    ·rw[if_neg h2,if_neg (by omega)]
   rw[e]
   simp only[h,decide_false]
   simp only[Bool.false_eq_true,if_false]
   omega
def base (xs:List Int):Nat→Nat
 | 0=>0
 | t+1=>2*(base xs t+XpDF xs ((t:Int)+1))
theorem XyMS (xs:List Int) (t:Nat) (ht:t≤14):base xs t*2 ^ (14-t)=low xs t:=by
 induction t with
 | zero=>rw[qHiO];simp[base]
 | succ t ih =>
  have ih:=ih (by omega)
  rw[base,jjMz xs t (by omega),←ih,show 14-t=(14-(t+1))+1 by omega,Nat.pow_succ]
  generalize 2 ^ (14-(t+1))=p
  generalize base xs t=a
  generalize XpDF xs ((t:Int)+1)=c
  rw[Nat.mul_comm 2,Nat.mul_assoc,Nat.mul_comm 2 p,Nat.add_mul]
def nxt (xs:List Int) (t k:Nat):Nat:=base xs t+cnt xs ((t:Int)+1) k
theorem XL0z (xs:List Int) (t:Nat):nxt xs t 0=base xs t:=by rw[nxt,zkzH,Nat.add_zero]
theorem zU85 (xs:List Int) (t:Nat):base xs (t+1)=2*nxt xs t xs.length:=by rw[nxt,qsPk];rfl
theorem jRof (xs:List Int) (t k:Nat) (ht:t≤14) (hs:ksum xs≤32768):nxt xs t k≤2 ^ (t+1):=by
 have h1:=XyMS xs t ht
 have h2:=jjMz xs t ht
 have h3:=low_le xs (t+1)
 have h4:=cnt_le xs ((t:Int)+1) k
 have h5:nxt xs t k*2 ^ (14-t)≤2 ^ (t+1)*2 ^ (14-t):=by
  rw[←Nat.pow_add,show t+1+(14-t)=15 by omega,nxt,Nat.add_mul,h1]
  have:=Nat.mul_le_mul_right (2 ^ (14-t)) h4
  omega
 exact Nat.le_of_mul_le_mul_right h5 (Nat.pow_pos (by decide))
theorem XdXl (xs:List Int) (t k:Nat) (ht:t≤14) (hs:ksum xs≤32768) (hk:k<xs.length) (he:xs[k]=(t:Int)+1):nxt xs t k<2 ^ (t+1):=by
 have h:=jRof xs t (k+1) ht hs
 rw[nxt,XIRo xs _ k hk,if_pos he] at h
 rw[nxt]
 omega
def word (xs:List Int) (i:Nat):List UInt8 :=
 if 1≤xs.getD i 0 then jJyG (nxt xs ((xs.getD i 0).toNat-1) i) (xs.getD i 0).toNat else []
def j6d1 (xs:List Int):List (List UInt8):=(List.range xs.length).map (word xs)
theorem zFud (xs:List Int):(j6d1 xs).length=xs.length:=by simp[j6d1]
theorem XL3e (xs:List Int) (i:Nat) (h:i<xs.length):(j6d1 xs)[i]'(by rw[zFud];exact h)=word xs i:=by simp[j6d1]
def doneB (xs:List Int) (t k i:Nat):Bool:=decide (1≤xs.getD i 0∧(xs.getD i 0≤t∨(xs.getD i 0=(t:Int)+1∧i<k)))
def qZPP (xs:List Int) (t k i:Nat):List UInt8:=if doneB xs t k i=true then word xs i else []
def qwpy (n:Nat) (f:Nat→List UInt8):List Value:=(List.range n).map fun i=>Value.string (str (f i))
theorem j7q8 (n:Nat) (f:Nat→List UInt8):(qwpy n f).length=n:=by simp[qwpy]
theorem XOmP (n:Nat) (f:Nat→List UInt8) (i:Nat) (h:i<n):(qwpy n f)[i]?=some (.string (str (f i))):=by simp[qwpy,h]
theorem zeln (n:Nat) (f g:Nat→List UInt8) (h:∀i,i<n→f i=g i):qwpy n f=qwpy n g:=by
 unfold qwpy
 apply List.map_congr_left
 intro i hi
 rw[h i (by simpa using hi)]
theorem XDzG (n:Nat) (f g:Nat→List UInt8) (k:Nat) (v:List UInt8) (hk:g k=v) (ho:∀i,i<n→i≠k→g i=f i):(qwpy n f).set k (.string (str v))=qwpy n g:=by
 apply List.ext_getElem?
 intro j
 rw[List.getElem?_set]
 by_cases hj:j<n
 ·rw[XOmP n g j hj]
  by_cases e:k=j
  ·subst e;rw[if_pos rfl,j7q8,if_pos hj,hk]
  ·rw[if_neg e,XOmP n f j hj,ho j hj (fun h=>e h.symm)]
 ·rw[List.getElem?_eq_none (by rw[j7q8];omega),List.getElem?_eq_none (by rw[j7q8];omega),j7q8]
  by_cases e:k=j
  ·subst e;rw[if_pos rfl,if_neg hj]
  ·rw[if_neg e]
theorem qzK6 (xs:List Int) (i:Nat):qZPP xs 0 0 i=[]:=by
 unfold qZPP
 rw[if_neg]
 simp only[doneB,decide_eq_true_eq]
 omega
theorem zsQ2 (xs:List Int) (t k i:Nat) (hk:k<xs.length) (h:xs[k]≠(t:Int)+1):qZPP xs t (k+1) i=qZPP xs t k i:=by
 unfold qZPP
 have hg:xs.getD k 0=xs[k]:=by simp[List.getD,List.getElem?_eq_getElem hk]
 have e:doneB xs t (k+1) i=doneB xs t k i:=by
  unfold doneB
  apply decide_eq_decide.2
  by_cases hi:i=k
  ·subst hi;omega
  ·omega
 rw[e]
theorem X4e5 (xs:List Int) (t k i:Nat) (hi:i≠k):qZPP xs t (k+1) i=qZPP xs t k i:=by
 unfold qZPP
 have e:doneB xs t (k+1) i=doneB xs t k i:=by
  unfold doneB
  apply decide_eq_decide.2
  omega
 rw[e]
theorem qCGE (xs:List Int) (t k:Nat) (hk:k<xs.length) (h:xs[k]=(t:Int)+1):qZPP xs t (k+1) k=jJyG (nxt xs t k) (t+1):=by
 have hg:xs.getD k 0=xs[k]:=by simp[List.getD,List.getElem?_eq_getElem hk]
 unfold qZPP
 rw[if_pos (by simp only[doneB,decide_eq_true_eq];omega),word,if_pos (by omega),hg,h]
 simp
theorem qua8 (xs:List Int) (t i:Nat) (hi:i<xs.length):qZPP xs (t+1) 0 i=qZPP xs t xs.length i:=by
 unfold qZPP
 have e:doneB xs (t+1) 0 i=doneB xs t xs.length i:=by
  unfold doneB
  apply decide_eq_decide.2
  omega
 rw[e]
theorem qGGX (xs:List Int) (i:Nat) (hi:i<xs.length) (hok:qtFp xs=true):qZPP xs 15 0 i=word xs i:=by
 have hg:xs.getD i 0=xs[i]:=by simp[List.getD,List.getElem?_eq_getElem hi]
 have h:=XHEW hok i hi
 unfold qZPP
 by_cases h1:1≤xs.getD i 0
 ·rw[if_pos (by simp only[doneB,decide_eq_true_eq];omega)]
 ·rw[if_neg (by simp only[doneB,decide_eq_true_eq];omega),word,if_neg h1]
def wordS (ts:List (List UInt8)) (n:Int):List UInt8:=if 0≤n∧n<ts.length then ts.getD n.toNat [] else []
def wordE (ts:List (List UInt8)) (n:Int):Int:=if wordS ts n=[] then 4 else 0
theorem qnca (xs:List Int) (hok:qtFp xs=true) (i:Nat):(word xs i).length≤15:=by
 unfold word
 split
 ·rename_i h
  rw[zrCv]
  by_cases hi:i<xs.length
  ·have h2:=XHEW hok i hi
   have hg:xs.getD i 0=xs[i]:=by simp[List.getD,List.getElem?_eq_getElem hi]
   omega
  ·have hg:xs.getD i 0=0:=by simp[List.getD,List.getElem?_eq_none (show xs.length≤i by omega)]
   omega
 ·simp
theorem j1tV (xs:List Int) (hok:qtFp xs=true) (n:Int):(wordS (j6d1 xs) n).length≤15:=by
 unfold wordS
 split
 ·rename_i h
  have h2:n.toNat<xs.length:=by rw[zFud] at h;omega
  have:(j6d1 xs).getD n.toNat []=word xs n.toNat:=by simp[List.getD,j6d1,h2]
  rw[this]
  exact qnca xs hok _
 ·simp
theorem XvVR (n a b:Nat):jJyG n (a+b)=jJyG (n / 2 ^ b) a++jJyG n b:=by
 induction b generalizing n with
 | zero=>simp[jJyG]
 | succ b ih =>
  rw[show a+(b+1)=(a+b)+1 by omega,jJyG,ih (n / 2),jJyG,List.append_assoc,Nat.div_div_eq_div_mul,Nat.pow_succ,Nat.mul_comm 2]
theorem XNSd {x y a:Nat} (hx:x<2 ^ a) (hy:y<2 ^ a) (h:jJyG x a=jJyG y a):x=y:=by
 have h1:=jA8q x a hx
 rw[h,jA8q y a hy] at h1
 exact h1.symm
theorem zCZ0 {x y a b:Nat} (hx:x<2 ^ a) (hy:y<2 ^ b) (h:jJyG x a <+: jJyG y b):a≤b∧y / 2 ^ (b-a)=x:=by
 have hl:=h.length_le
 rw[zrCv,zrCv] at hl
 refine ⟨hl,?_⟩
 have e:b=a+(b-a):=by omega
 have h2:jJyG y b=jJyG (y / 2 ^ (b-a)) a++jJyG y (b-a):=by
  have:=XvVR y a (b-a)
  rw[←e] at this
  exact this
 have h3:(jJyG y b).take a=jJyG x a:=by
  have h4:=List.prefix_iff_eq_take.1 h
  rw[zrCv] at h4
  exact h4.symm
 rw[h2,List.take_append_of_le_length (by rw[zrCv];exact Nat.le_refl _),List.take_of_length_le (by rw[zrCv];exact Nat.le_refl _)] at h3
 refine XNSd ?_ hx h3
 rw[Nat.div_lt_iff_lt_mul (Nat.pow_pos (by decide)),←Nat.pow_add,←e]
 exact hy
theorem japd (xs:List Int) (t d:Nat) (h:t+d≤15):low xs t≤low xs (t+d):=by
 induction d with
 | zero=>exact Nat.le_refl _
 | succ d ih =>
  have:=jjMz xs (t+d) (by omega)
  have:=ih (by omega)
  rw[show t+(d+1)=t+d+1 by omega]
  omega
theorem XK9E (xs:List Int) (s:Int) (i j:Nat) (hij:i<j) (hi:i<xs.length) (he:xs[i]=s):cnt xs s i+1≤cnt xs s j:=by
 have h1:cnt xs s (i+1)=cnt xs s i+1:=by rw[XIRo xs s i hi,if_pos he]
 have h2:cnt xs s (i+1)≤cnt xs s j:=by
  unfold cnt XpDF
  exact (List.Sublist.filter _ (List.take_sublist_take_left (by omega))).length_le
 omega
theorem XuU3 (xs:List Int) (hE:qO3F xs=0) (i j:Nat) (hi:i<xs.length) (hj:j<xs.length) (hne:i≠j) (hw:word xs i≠[]):¬word xs i <+: word xs j:=by
 obtain ⟨_,_,hok,_,hs⟩:=zF8D hE
 intro hp
 have gi:xs.getD i 0=xs[i]:=by simp[List.getD,List.getElem?_eq_getElem hi]
 have gj:xs.getD j 0=xs[j]:=by simp[List.getD,List.getElem?_eq_getElem hj]
 have oi:=XHEW hok i hi
 have oj:=XHEW hok j hj
 have h1:1≤xs[i]:=by
  rw[←gi]
  refine Decidable.byContradiction fun h=>hw ?_
  rw[word,if_neg h]
 have h2:1≤xs[j]:=by
  rw[←gj]
  refine Decidable.byContradiction fun h=>hw ?_
  have e:word xs j=[]:=by rw[word,if_neg h]
  rw[e] at hp
  exact List.prefix_nil.1 hp
 obtain ⟨a,ha⟩:∃a:Nat,xs[i]=(a:Int)+1:=⟨(xs[i]-1).toNat,by omega⟩
 obtain ⟨c,hc⟩:∃c:Nat,xs[j]=(c:Int)+1:=⟨(xs[j]-1).toNat,by omega⟩
 have e1:word xs i=jJyG (nxt xs a i) (a+1):=by
  rw[word,gi,if_pos h1,ha,show ((a:Int)+1).toNat=a+1 by omega,show a+1-1=a by omega]
 have e2:word xs j=jJyG (nxt xs c j) (c+1):=by
  rw[word,gj,if_pos h2,hc,show ((c:Int)+1).toNat=c+1 by omega,show c+1-1=c by omega]
 rw[e1,e2] at hp
 obtain ⟨hle,hdiv⟩:=zCZ0 (XdXl xs a i (by omega) hs hi ha) (XdXl xs c j (by omega) hs hj hc) hp
 by_cases hac:a=c
 ·subst hac
  rw[Nat.sub_self,Nat.pow_zero,Nat.div_one,nxt,nxt] at hdiv
  rcases Nat.lt_or_gt_of_ne hne with h|h
  ·have:=XK9E xs _ i j h hi ha;omega
  ·have:=XK9E xs _ j i h hj hc;omega
 ·have hlt:a<c:=by omega
  have b1:=XyMS xs a (by omega)
  have b2:=XyMS xs c (by omega)
  have l1:=jjMz xs a (by omega)
  have l2:=japd xs (a+1) (c-(a+1)) (by omega)
  rw[show a+1+(c-(a+1))=c by omega] at l2
  have k1:=XK9E xs _ i xs.length hi hi ha
  rw[qsPk] at k1
  have q1:(nxt xs a i+1)*2 ^ (14-a)≤low xs (a+1):=by
   rw[l1,nxt,←b1,←Nat.add_mul]
   exact Nat.mul_le_mul_right _ (by omega)
  have q2:low xs c≤nxt xs c j*2 ^ (14-c):=by
   rw[←b2,nxt]
   exact Nat.mul_le_mul_right _ (by omega)
  have q3:nxt xs c j<(nxt xs a i+1)*2 ^ (c-a):=by
   rw[show c+1-(a+1)=c-a by omega] at hdiv
   have:=Nat.lt_mul_div_succ (nxt xs c j) (show 0<2 ^ (c-a) from Nat.pow_pos (by decide))
   rw[hdiv,Nat.mul_comm] at this
   exact this
  have q4:nxt xs c j*2 ^ (14-c)<(nxt xs a i+1)*2 ^ (14-a):=by
   have:=Nat.mul_lt_mul_of_pos_right q3 (show 0<2 ^ (14-c) from Nat.pow_pos (by decide))
   rw[Nat.mul_assoc,←Nat.pow_add,show c-a+(14-c)=14-a by omega] at this
   exact this
  omega
def PF (ts:List (List UInt8)):Prop:=∀i j,i<ts.length→j<ts.length→i≠j→ts.getD i []≠[]→¬ts.getD i [] <+: ts.getD j []
theorem XtTT (xs:List Int) (hE:qO3F xs=0):PF (j6d1 xs):=by
 intro i j hi hj hne hw
 rw[zFud] at hi hj
 have e:∀k,k<xs.length→(j6d1 xs).getD k []=word xs k:=fun k hk=>by simp[List.getD,j6d1,hk]
 rw[e i hi] at hw ⊢
 rw[e j hj]
 exact XuU3 xs hE i j hi hj hne hw
def putF (f:List UInt8→Option (Int×Bool)) (k:List UInt8) (p:Int×Bool):List UInt8→Option (Int×Bool):=fun key=>if key=k then some p else f key
def preF (f:List UInt8→Option (Int×Bool)) (wd:List UInt8):Nat→List UInt8→Option (Int×Bool)
 | 0=>f
 | j+1=>putF (preF f wd j) (wd.take (j+1)) (0,false)
def addW (f:List UInt8→Option (Int×Bool)) (i:Nat) (wd:List UInt8):List UInt8→Option (Int×Bool):=if wd=[] then f else putF (preF f wd (wd.length-1)) wd (i,true)
def bookF (ts:List (List UInt8)):Nat→List UInt8→Option (Int×Bool)
 | 0=>fun _=>none
 | i+1=>addW (bookF ts i) i (ts.getD i [])
theorem X36M (f:List UInt8→Option (Int×Bool)) (wd key:List UInt8) (j:Nat) (h1:1≤key.length) (h2:key.length≤j) (h:key <+: wd):preF f wd j key=some (0,false):=by
 have hk:wd.take key.length=key:=(List.prefix_iff_eq_take.1 h).symm
 induction j with
 | zero=>omega
 | succ j ih =>
  rw[preF,putF]
  by_cases e:key=wd.take (j+1)
  ·rw[if_pos e]
  ·rw[if_neg e]
   refine ih ?_
   refine Decidable.byContradiction fun hn=>e ?_
   have:key.length=j+1:=by omega
   rw[←this,hk]
theorem qnxP (f:List UInt8→Option (Int×Bool)) (wd key:List UInt8) (j:Nat) (h:¬(1≤key.length∧key <+: wd)) (hw:wd≠[]):preF f wd j key=f key:=by
 induction j with
 | zero=>rfl
 | succ j ih =>
  rw[preF,putF,if_neg,ih]
  intro e
  refine h ⟨?_,by rw[e];exact List.take_prefix _ _⟩
  rw[e,List.length_take]
  have:wd.length≠0:=fun h=>hw (List.eq_nil_of_length_eq_zero h)
  omega
theorem zbVD (ts:List (List UInt8)) (hpf:PF ts) (m:Nat) (hm:m≤ts.length) (i:Nat) (hi:i<m) (hw:ts.getD i []≠[]):bookF ts m (ts.getD i [])=some ((i:Int),true):=by
 induction m with
 | zero=>omega
 | succ m ih =>
  rw[bookF,addW]
  by_cases e:i=m
  ·subst e;rw[if_neg hw,putF,if_pos rfl]
  ·split
   ·exact ih (by omega) (by omega)
   ·rename_i hmw
    have hnp:=hpf i m (by omega) (by omega) e hw
    rw[putF,if_neg (fun h=>hnp (by rw[h];exact List.prefix_rfl)),qnxP _ _ _ _ (fun h=>hnp h.2) hmw]
    exact ih (by omega) (by omega)
theorem zzGX (ts:List (List UInt8)) (m:Nat) (hm:m≤ts.length) (key:List UInt8) (hk:key≠[]) (hno:∀i,i<m→ts.getD i []≠key) (hyes:∃i,i<m∧key <+: ts.getD i []):bookF ts m key=some (0,false):=by
 have hk1:1≤key.length:=by
  have:key.length≠0:=fun h=>hk (List.eq_nil_of_length_eq_zero h)
  omega
 induction m with
 | zero=>obtain ⟨i,hi,_⟩:=hyes;omega
 | succ m ih =>
  obtain ⟨i,hi,hp⟩:=hyes
  rw[bookF,addW]
  by_cases hpm:key <+: ts.getD m []
  ·have hmw:ts.getD m []≠[]:=fun h=>hk (by rw[h] at hpm;exact List.prefix_nil.1 hpm)
   have hne:=hno m (by omega)
   rw[if_neg hmw,putF,if_neg (fun h=>hne h.symm)]
   refine X36M _ _ _ _ hk1 ?_ hpm
   have hl:=hpm.length_le
   have:key.length≠(ts.getD m []).length:=fun h=>hne (hpm.eq_of_length h).symm
   omega
  ·have him:i≠m:=fun h=>hpm (by rw[←h];exact hp)
   have ih':=ih (by omega) (fun k hk=>hno k (by omega)) ⟨i,by omega,hp⟩
   split
   ·exact ih'
   ·rename_i hmw
    rw[putF,if_neg (fun h=>hno m (by omega) h.symm),qnxP _ _ _ _ (fun h=>hpm h.2) hmw]
    exact ih'
theorem X9WZ (ts:List (List UInt8)) (m:Nat) (key:List UInt8) (hno:∀i,i<m→¬key <+: ts.getD i []):bookF ts m key=none:=by
 induction m with
 | zero=>rfl
 | succ m ih =>
  have ih':=ih (fun k hk=>hno k (by omega))
  rw[bookF,addW]
  split
  ·exact ih'
  ·rename_i hmw
   rw[putF,if_neg (fun h=>hno m (by omega) (by rw[h];exact List.prefix_rfl)),qnxP _ _ _ _ (fun h=>hno m (by omega) h.2) hmw]
   exact ih'
def nextF (f:List UInt8→Option (Int×Bool)):List UInt8→List UInt8→Int×Int×Nat
 | _,[]=>(0,5,0)
 | pre,c::rest =>
  match f (pre++[c]) with
  | none=>(0,4,1)
  | some (n,true)=>(n,0,1)
  | some (_,false)=>((nextF f (pre++[c]) rest).1,(nextF f (pre++[c]) rest).2.1,(nextF f (pre++[c]) rest).2.2+1)
theorem z6CS (ts:List (List UInt8)) (hpf:PF ts) (i:Nat) (hi:i<ts.length) (hw:ts.getD i []≠[]) (rest:List UInt8):∀pre,ts.getD i [] <+: pre++rest→pre.length<(ts.getD i []).length→nextF (bookF ts ts.length) pre rest=((i:Int),0,(ts.getD i []).length-pre.length):=by
 induction rest with
 | nil=>intro pre hp hl;have:=hp.length_le;rw[List.append_nil] at this;omega
 | cons c rest ih =>
  intro pre hp hl
  have hkp:pre++[c] <+: ts.getD i []:=by
   refine List.prefix_of_prefix_length_le (l₃:=pre++c::rest) ⟨rest,by simp⟩ hp ?_
   rw[List.length_append,List.length_singleton];omega
  rw[nextF]
  by_cases he:pre.length+1=(ts.getD i []).length
  ·have e:pre++[c]=ts.getD i []:=hkp.eq_of_length (by rw[List.length_append,List.length_singleton];exact he)
   rw[e,zbVD ts hpf ts.length (Nat.le_refl _) i hi hw]
   simp only[]
   congr 2
   omega
  ·have hno:∀k,k<ts.length→ts.getD k []≠pre++[c]:=by
    intro k hk e
    have hkw:ts.getD k []≠[]:=by rw[e];simp
    by_cases hki:k=i
    ·subst hki;rw[e,List.length_append,List.length_singleton] at he;exact he rfl
    ·exact hpf k i hk hi hki hkw (by rw[e];exact hkp)
   rw[zzGX ts ts.length (Nat.le_refl _) (pre++[c]) (by simp) hno ⟨i,hi,hkp⟩]
   have h:=ih (pre++[c]) (by rw[List.append_assoc];exact hp) (by rw[List.length_append,List.length_singleton];omega)
   simp only[h]
   congr 2
   rw[List.length_append,List.length_singleton]
   omega
theorem zXuE (ts:List (List UInt8)) (rest:List UInt8):∀pre,(∀i,i<ts.length→ts.getD i []≠[]→¬ts.getD i [] <+: pre++rest)→(∃i,i<ts.length∧pre++rest <+: ts.getD i [])→nextF (bookF ts ts.length) pre rest=(0,5,rest.length):=by
 induction rest with
 | nil=>intro pre _ _;rfl
 | cons c rest ih =>
  intro pre hno hyes
  obtain ⟨i,hi,hp⟩:=hyes
  have hkb:pre++[c] <+: pre++c::rest:=⟨rest,by simp⟩
  rw[nextF,zzGX ts ts.length (Nat.le_refl _) (pre++[c]) (by simp) (fun k hk e=>hno k hk (by rw[e];simp) (by rw[e];exact hkb)) ⟨i,hi,hkb.trans hp⟩]
  have h:=ih (pre++[c]) (by rw[List.append_assoc];exact hno) ⟨i,hi,by rw[List.append_assoc];exact hp⟩
  simp only[h]
  rfl
theorem j9uY (ts:List (List UInt8)) (rest:List UInt8):∀pre,(∀i,i<ts.length→ts.getD i []≠[]→¬ts.getD i [] <+: pre++rest)→(∀i,i<ts.length→ts.getD i []≠[]→¬pre++rest <+: ts.getD i [])→(∃i,i<ts.length∧ts.getD i []≠[]∧pre <+: ts.getD i []) →
  (nextF (bookF ts ts.length) pre rest).1=0∧(nextF (bookF ts ts.length) pre rest).2.1=4:=by
 induction rest with
 | nil =>
  intro pre _ hno hyes
  obtain ⟨i,hi,hw,hp⟩:=hyes
  exact absurd (by rw[List.append_nil];exact hp) (hno i hi hw)
 | cons c rest ih =>
  intro pre hno hno2 _
  have hkb:pre++[c] <+: pre++c::rest:=⟨rest,by simp⟩
  rw[nextF]
  by_cases hex:∃i,i<ts.length∧pre++[c] <+: ts.getD i []
  ·obtain ⟨i,hi,hp⟩:=hex
   rw[zzGX ts ts.length (Nat.le_refl _) (pre++[c]) (by simp) (fun k hk e=>hno k hk (by rw[e];simp) (by rw[e];exact hkb)) ⟨i,hi,hp⟩]
   exact ih (pre++[c]) (by rw[List.append_assoc];exact hno) (by rw[List.append_assoc];exact hno2) ⟨i,hi,fun h=>by rw[h] at hp;have:=List.prefix_nil.1 hp;simp at this,hp⟩
  ·rw[X9WZ ts ts.length (pre++[c]) (fun i hi h=>hex ⟨i,hi,h⟩)]
   exact ⟨rfl,rfl⟩
def jbTy (n:Int):Bool:=decide (1≤n∧n≤64)
def jDpp (v:Int):Bool:=decide (0≤v∧v≤65535)
def qLlL (zs:List Int):Bool:=zs.all jDpp
def q0fM (W H:Int) (zs:List Int):Bool:=jbTy W && jbTy H && decide ((zs.length:Int)=W*H) && qLlL zs
def qkcw (k:Int):Bool:=decide (1≤k∧k≤7)
theorem zHpx {zs:List Int} (h:qLlL zs=true) (k:Nat) (hk:k<zs.length):0≤zs[k]∧zs[k]≤65535:=by
 have:=List.all_eq_true.1 h _ (List.getElem_mem hk)
 simpa [jDpp] using this
theorem qlb5 {zs:List Int} (h:qLlL zs=true) (k:Nat):0≤zs.getD k 0∧zs.getD k 0≤65535:=by
 by_cases hk:k<zs.length
 ·rw[show zs.getD k 0=zs[k] by simp[List.getD,hk]];exact zHpx h k hk
 ·rw[show zs.getD k 0=0 by simp[List.getD,hk]];omega
theorem qfz3 (zs:List Int) (x:Int):qLlL (zs++[x])=(qLlL zs && jDpp x):=by simp[qLlL]
theorem qwcI {W H:Int} {zs:List Int} (h:q0fM W H zs=true):(1≤W∧W≤64)∧(1≤H∧H≤64)∧(zs.length:Int)=W*H∧qLlL zs=true:=by
 simp only[q0fM,jbTy,Bool.and_eq_true,decide_eq_true_eq] at h
 exact ⟨h.1.1.1,h.1.1.2,h.1.2,h.2⟩
theorem zAFj {W H:Int} (h1:1≤W∧W≤64) (h2:1≤H∧H≤64):1≤W*H∧W*H≤4096:=by
 have a:=Int.mul_le_mul h1.2 h2.2 (by omega) (by omega)
 have b:=Int.mul_le_mul h1.1 h2.1 (by omega) (by omega)
 omega
def jA7c (kind a b c:Int):Int :=
 if kind=1 then a else if kind=2 then b else if kind=3 then c else if kind=4 then a+b-c else if kind=5 then a+(b-c) / 2 else if kind=6 then b+(a-c) / 2 else (a+b) / 2
def gAt (zs:List Int) (W:Nat) (kind:Int) (k:Nat):Int :=
 if k % W=0∧k / W=0 then 32768 else if k / W=0 then zs.getD (k-1) 0 else if k % W=0 then zs.getD (k-W) 0 else jA7c kind (zs.getD (k-1) 0) (zs.getD (k-W) 0) (zs.getD (k-W-1) 0)
theorem q1DH (kind a b c:Int) (ha:0≤a∧a≤65535) (hb:0≤b∧b≤65535) (hc:0≤c∧c≤65535):-65536≤jA7c kind a b c∧jA7c kind a b c≤131070:=by
 unfold jA7c
 repeat' split
 all_goals omega
theorem zjsj (zs:List Int) (W:Nat) (kind:Int) (k:Nat) (h:qLlL zs=true):-65536≤gAt zs W kind k∧gAt zs W kind k≤131070:=by
 have a:=qlb5 h (k-1)
 have b:=qlb5 h (k-W)
 have c:=qlb5 h (k-W-1)
 have d:=q1DH kind _ _ _ a b c
 unfold gAt
 repeat' split
 all_goals omega
theorem qJEU {zs ys:List Int} {W:Nat} {kind:Int} {k:Nat} (hW:1≤W) (h:∀j,j<k→zs.getD j 0=ys.getD j 0):gAt zs W kind k=gAt ys W kind k:=by
 unfold gAt
 by_cases hk:k=0
 ·subst hk;simp
 ·rw[h (k-1) (by omega),h (k-W) (by omega),h (k-W-1) (by omega)]
def dif (s g:Int):Int:=if 32768<(s-g) % 65536 then (s-g) % 65536-65536 else (s-g) % 65536
theorem XdLc (s g:Int):-32768<dif s g∧dif s g≤32768:=by unfold dif;split<;>omega
theorem qw74 (s g:Int) (h0:0≤s) (h1:s≤65535):(g+dif s g) % 65536=s:=by unfold dif;split<;>omega
def blen (n:Nat):Nat:=if n=0 then 0 else n.log2+1
theorem jzCW (n:Nat):n<2 ^ blen n:=by
 unfold blen
 split
 ·subst_vars;decide
 ·exact Nat.lt_log2_self
theorem qn5x (n:Nat) (h:n≠0):2 ^ (blen n-1)≤n:=by
 unfold blen
 rw[if_neg h,Nat.add_sub_cancel]
 exact Nat.log2_self_le h
theorem Xju9 {n k:Nat} (h:n<2 ^ k):blen n≤k:=by
 unfold blen
 split
 ·omega
 ·rename_i h0
  exact (Nat.log2_lt h0).2 h
theorem zXXi {n k:Nat} (h:2 ^ k≤n):k<blen n:=by
 refine Decidable.byContradiction fun hn=>?_
 have h1:=jzCW n
 have h2:=Nat.pow_le_pow_right (n:=2) (by decide) (show blen n≤k by omega)
 omega
theorem XMtG {n k:Nat} (h1:2 ^ k≤n) (h2:n<2 ^ (k+1)):blen n=k+1:=by
 have:=zXXi h1
 have:=Xju9 h2
 omega
def cls (d:Int):Nat:=blen d.natAbs
theorem qSCF {d:Int} (h0:-32768<d) (h1:d≤32768):cls d≤16:=Xju9 (by omega)
theorem qPTq {d:Int} (h0:-32768<d) (h1:d≤32768) (h:cls d=16):d=32768:=by
 have h2:d.natAbs≠0:=fun e=>by rw[cls,e] at h;simp[blen] at h
 have:=qn5x d.natAbs h2
 rw[show blen d.natAbs=16 from h] at this
 omega
theorem XEhw {d:Int} (h:cls d=0):d=0:=by
 have:=jzCW d.natAbs
 rw[show blen d.natAbs=0 from h] at this
 omega
theorem qAV8:cls 32768=16:=by decide
def tailN (d:Int):Nat:=(if d<0 then d+2 ^ cls d-1 else d).toNat
def tailB (d:Int):List UInt8:=if cls d=0∨cls d=16 then [] else jJyG (tailN d) (cls d)
def wrD (ts:List (List UInt8)) (d:Int):List UInt8:=wordS ts (cls d)++tailB d
def tailV (c v:Nat):Int:=if v<2 ^ c / 2 then (v:Int)-(2 ^ c-1) else v
theorem qbLi (d:Int) (h:cls d≠0):∃c,cls d=c+1∧2 ^ c≤d.natAbs∧d.natAbs<2*2 ^ c∧(2:Int) ^ cls d=((2*2 ^ c:Nat):Int):=by
 have h0:d.natAbs≠0:=fun e=>h (by rw[cls,e];rfl)
 have h1:=qn5x _ h0
 have h2:=jzCW d.natAbs
 obtain ⟨c,hc⟩:∃c,blen d.natAbs=c+1:=⟨blen d.natAbs-1,by unfold cls at h;omega⟩
 rw[hc,Nat.add_sub_cancel] at h1
 rw[hc,Nat.pow_succ] at h2
 refine ⟨c,hc,h1,by omega,?_⟩
 rw[show cls d=c+1 from hc,q5J9,Nat.pow_succ,Nat.mul_comm]
theorem jZV6 (c v:Nat):tailV (c+1) v=if v<2 ^ c then (v:Int)-(2*((2 ^ c:Nat):Int)-1) else v:=by
 have h1:(2:Nat) ^ (c+1) / 2=2 ^ c:=by rw[Nat.pow_succ];omega
 have h2:(2:Int) ^ (c+1)=2*((2 ^ c:Nat):Int):=by rw[q5J9,Nat.pow_succ,Nat.mul_comm,Int.natCast_mul];rfl
 unfold tailV
 rw[h1,h2]
theorem z0jg (d:Int) (c:Nat) (h:cls d=c+1):tailN d=(if d<0 then d+2*((2 ^ c:Nat):Int)-1 else d).toNat:=by
 have h2:(2:Int) ^ (c+1)=2*((2 ^ c:Nat):Int):=by rw[q5J9,Nat.pow_succ,Nat.mul_comm,Int.natCast_mul];rfl
 rw[tailN,h,h2]
theorem jUqN (d:Int) (h:cls d≠0):tailN d<2 ^ cls d∧((tailN d:Nat):Int)=if d<0 then d+2 ^ cls d-1 else d:=by
 obtain ⟨c,hc,h1,h2,h3⟩:=qbLi d h
 have h4:(2:Nat) ^ cls d=2*2 ^ c:=by rw[hc,Nat.pow_succ];omega
 rw[z0jg d c hc,h3,h4]
 generalize (2:Nat) ^ c=p at *
 split<;>omega
theorem jRFu (d:Int) (h:cls d≠0):tailV (cls d) (tailN d)=d:=by
 obtain ⟨c,hc,h1,h2,h3⟩:=qbLi d h
 have h5:=z0jg d c hc
 rw[hc,jZV6]
 generalize tailN d=t at *
 generalize (2:Nat) ^ c=p at *
 split<;>split at h5<;>omega
theorem zNdJ (c v:Nat) (hc:c≤15) (hv:v<2 ^ c):cls (tailV c v)=c∧-32768<tailV c v∧tailV c v≤32768∧(c≠0→tailN (tailV c v)=v):=by
 have hp:2 ^ c≤32768:=Nat.le_trans (Nat.pow_le_pow_right (by decide) hc) (by decide)
 cases c with
 | zero =>
  have:v=0:=by simpa using hv
  subst this
  exact ⟨by decide,by decide,by decide,fun h=>absurd rfl h⟩
 | succ c =>
  have hcl:cls (tailV (c+1) v)=c+1:=by
   refine XMtG ?_ ?_
   all_goals
    rw[jZV6]
    rw[Nat.pow_succ] at *
    generalize (2:Nat) ^ c=p at *
    split<;>omega
  rw[z0jg _ c hcl,hcl,jZV6]
  rw[Nat.pow_succ] at *
  clear hcl
  generalize (2:Nat) ^ c=p at *
  refine ⟨rfl,?_,?_,fun _=>?_⟩
  ·split<;>omega
  ·split<;>omega
  ·repeat' split
   all_goals omega
theorem jCcD {d:Int} (h0:-32768<d) (h1:d≤32768):(tailB d).length≤15:=by
 have:=qSCF h0 h1
 unfold tailB
 split
 ·simp
 ·rw[zrCv];omega
theorem qzEB (d:Int):allB (tailB d)=true:=by
 unfold tailB
 split
 ·rfl
 ·exact jKfQ _ _
theorem qmOh (f:List UInt8→Option (Int×Bool)) (pre b:List UInt8) (h:(nextF f pre b).2.1=0):1≤(nextF f pre b).2.2:=by
 cases b with
 | nil=>simp[nextF] at h
 | cons c b =>
  rw[nextF] at h ⊢
  split
  ·exact Nat.le_refl _
  ·exact Nat.le_refl _
  ·simp
def nxD (f:List UInt8→Option (Int×Bool)) (b:List UInt8):Option (Int×Nat) :=
  if (nextF f [] b).2.1=0 then
    (if (nextF f [] b).1=16 then some (32768,(nextF f [] b).2.2)
     else if b.length<(nextF f [] b).2.2+(nextF f [] b).1.toNat then none
     else some (tailV (nextF f [] b).1.toNat (valOf ((b.drop (nextF f [] b).2.2).take (nextF f [] b).1.toNat)),(nextF f [] b).2.2+(nextF f [] b).1.toNat))
  else none
theorem jJbx (ts:List (List UInt8)) (c:Nat) (h:wordS ts c≠[]):c<ts.length∧wordS ts c=ts.getD c []:=by
 unfold wordS at h ⊢
 split at h
 ·rename_i hc
  exact ⟨by omega,by rw[if_pos hc];simp⟩
 ·exact absurd rfl h
theorem nxD_wr (ts:List (List UInt8)) (hpf:PF ts) (d:Int) (h0:-32768<d) (h1:d≤32768) (hw:wordS ts (cls d)≠[]) (rest:List UInt8) :
  nxD (bookF ts ts.length) (wrD ts d++rest)=some (d,(wrD ts d).length):=by
 obtain ⟨hc,he⟩:=jJbx ts _ hw
 have hw2:ts.getD (cls d) []≠[]:=by rw[←he];exact hw
 have hl:0<(ts.getD (cls d) []).length:=List.length_pos_iff.2 hw2
 have hn:=z6CS ts hpf (cls d) hc hw2 (wrD ts d++rest) [] (by rw[List.nil_append,wrD,he,List.append_assoc];exact List.prefix_append _ _) (by simpa using hl)
 rw[nxD,hn]
 simp only[List.length_nil,Nat.sub_zero,Int.toNat_natCast,if_true]
 have hcl:=qSCF h0 h1
 by_cases h16:cls d=16
 ·rw[if_pos (by omega),qPTq h0 h1 h16]
  rw[wrD,qAV8,show tailB 32768=[] by rw[tailB,if_pos (.inr qAV8)],List.append_nil,←h16,he]
 ·rw[if_neg (by omega)]
  have htl:(tailB d).length=cls d:=by
   unfold tailB
   split
   ·rename_i h;simp;omega
   ·rw[zrCv]
  have hwl:(wrD ts d).length=(ts.getD (cls d) []).length+cls d:=by rw[wrD,List.length_append,he,htl]
  rw[if_neg (by rw[List.length_append,hwl];omega)]
  have hdrop:((wrD ts d++rest).drop (ts.getD (cls d) []).length).take (cls d)=tailB d:=by
   rw[wrD,he,List.append_assoc,List.drop_left,←htl,List.take_left]
  rw[hdrop,hwl]
  by_cases hz:cls d=0
  ·have hd:=XEhw hz
   subst hd
   rfl
  ·rw[tailB,if_neg (by omega),jA8q _ _ (jUqN d hz).1,jRFu d hz]
theorem z5zM (ts:List (List UInt8)) (hts:ts.length≤17) (b:List UInt8) (hb:allB b=true)
  (hnx:(nextF (bookF ts ts.length) [] b).2.1=0→∃i:Nat,i<ts.length∧(nextF (bookF ts ts.length) [] b).1=i∧(nextF (bookF ts ts.length) [] b).2.2=(ts.getD i []).length∧ts.getD i [] <+: b)
  (d:Int) (n:Nat) (h:nxD (bookF ts ts.length) b=some (d,n)) :
  n≤b.length∧b.take n=wrD ts d∧-32768<d∧d≤32768∧wordS ts (cls d)≠[]:=by
 rw[nxD] at h
 split at h
 ·rename_i he
  have hl1:=qmOh _ _ _ he
  obtain ⟨i,hi,h1,h2,hp⟩:=hnx he
  rw[h1,h2] at h
  rw[h2] at hl1
  have hw2:ts.getD i []≠[]:=fun e=>by rw[e] at hl1;simp at hl1
  have hws:wordS ts (i:Int)=ts.getD i []:=by rw[wordS,if_pos (by omega)];simp
  have hpl:=hp.length_le
  have htk:b.take (ts.getD i []).length=ts.getD i []:=(List.prefix_iff_eq_take.1 hp).symm
  split at h
  ·rename_i h16
   simp only[Option.some.injEq,Prod.mk.injEq] at h
   obtain ⟨rfl,rfl⟩:=h
   have hi16:i=16:=by omega
   subst hi16
   refine ⟨hpl,?_,by decide,by decide,?_⟩
   ·rw[htk,wrD,qAV8,show tailB 32768=[] by rw[tailB,if_pos (.inr qAV8)],List.append_nil];exact hws.symm
   ·rw[qAV8];show wordS ts ((16:Nat):Int)≠[];rw[hws];exact hw2
  ·rename_i h16
   split at h
   ·cases h
   ·rename_i hlen
    simp only[Option.some.injEq,Prod.mk.injEq,Int.toNat_natCast] at h hlen
    obtain ⟨rfl,rfl⟩:=h
    have hcl:((b.drop (ts.getD i []).length).take i).length=i:=by rw[List.length_take,List.length_drop];omega
    have hab:allB ((b.drop (ts.getD i []).length).take i)=true:=zTn5 (Xvwf hb _) _
    have hv:=zEdZ _ hab
    rw[hcl] at hv
    obtain ⟨k1,k2,k3,k4⟩:=zNdJ i _ (by omega) hv
    refine ⟨by omega,?_,k2,k3,by rw[k1,hws];exact hw2⟩
    rw[wrD,k1,hws,List.take_add,htk]
    congr 1
    rw[tailB,k1]
    by_cases hz:i=0
    ·subst hz;simp
    ·rw[if_neg (by omega),k4 hz]
     have:=jqBu _ hab
     rw[hcl] at this
     exact this.symm
 ·cases h
def dAt (zs:List Int) (W:Nat) (kind:Int) (i:Nat):Int:=dif (zs.getD i 0) (gAt zs W kind i)
def dBits (ts:List (List UInt8)) (zs:List Int) (W:Nat) (kind:Int) (n:Nat):List UInt8:=(List.range n).flatMap fun i=>wrD ts (dAt zs W kind i)
def dAll (ts:List (List UInt8)) (zs:List Int) (W:Nat) (kind:Int) (n:Nat):Bool:=(List.range n).all fun i=>decide (wordS ts (cls (dAt zs W kind i))≠[])
theorem XRjF (ts:List (List UInt8)) (zs:List Int) (W:Nat) (kind:Int) (n:Nat):dBits ts zs W kind (n+1)=dBits ts zs W kind n++wrD ts (dAt zs W kind n):=by simp[dBits,List.range_succ]
theorem qulm (ts:List (List UInt8)) (zs:List Int) (W:Nat) (kind:Int) (n:Nat):dAll ts zs W kind (n+1)=(dAll ts zs W kind n && decide (wordS ts (cls (dAt zs W kind n))≠[])):=by simp[dAll,List.range_succ]
theorem z4Mg (ts:List (List UInt8)) (zs:List Int) (W:Nat) (kind:Int) (n k:Nat) (hk:k<n) (h:wordS ts (cls (dAt zs W kind k))=[]):dAll ts zs W kind n=false:=by
 rw[Bool.eq_false_iff];intro he
 have:=List.all_eq_true.1 he k (List.mem_range.2 hk)
 simp[h] at this
theorem z7Ig {ts:List (List UInt8)} {zs:List Int} {W:Nat} {kind:Int} {n:Nat} (h:dAll ts zs W kind n=true) (k:Nat) (hk:k<n):wordS ts (cls (dAt zs W kind k))≠[]:=by
 have:=List.all_eq_true.1 h k (List.mem_range.2 hk)
 simpa using this
theorem qhlU (xs:List Int) (hok:qtFp xs=true) (d:Int) (h0:-32768<d) (h1:d≤32768):(wrD (j6d1 xs) d).length≤30:=by
 have:=j1tV xs hok (cls d)
 have:=jCcD h0 h1
 rw[wrD,List.length_append];omega
theorem jcrL (xs:List Int) (hok:qtFp xs=true) (zs:List Int) (W:Nat) (kind:Int) (n:Nat):(dBits (j6d1 xs) zs W kind n).length≤30*n:=by
 induction n with
 | zero=>simp[dBits]
 | succ n ih =>
  have:=XdLc (zs.getD n 0) (gAt zs W kind n)
  have:=qhlU xs hok (dAt zs W kind n) this.1 this.2
  rw[XRjF,List.length_append];omega
def rdD (f:List UInt8→Option (Int×Bool)) (b:List UInt8) (W:Nat) (kind:Int):Nat→Option (Nat×List Int)
 | 0=>some (0,[])
 | k+1=>match rdD f b W kind k with
  | none=>none
  | some (pos,zs)=>match nxD f (b.drop pos) with
   | none=>none
   | some (d,n)=>some (pos+n,zs++[(gAt zs W kind k+d) % 65536])
theorem jU4C {f : List UInt8 → Option (Int × Bool)} {b : List UInt8} {W : Nat} {kind : Int} {k n : Nat} (hk : k ≤ n) (h : rdD f b W kind k = none) : rdD f b W kind n = none := by
  induction n with
  | zero => obtain rfl : k = 0 := by omega
            exact h
  | succ n ih =>
    by_cases e : k = n + 1
    · subst e; exact h
    · rw [rdD, ih (by omega)]
theorem qbXa {f:List UInt8→Option (Int×Bool)} {b:List UInt8} {W:Nat} {kind:Int} {k pos:Nat} {zs:List Int} (h:rdD f b W kind k=some (pos,zs)):zs.length=k∧qLlL zs=true:=by
 induction k generalizing pos zs with
 | zero=>rw[rdD] at h;cases h;exact ⟨rfl,rfl⟩
 | succ k ih =>
  rw[rdD] at h
  split at h
  ·cases h
  ·rename_i p ys hy
   split at h
   ·cases h
   ·cases h
    obtain ⟨h1,h2⟩:=ih hy
    refine ⟨by simp[h1],?_⟩
    rw[qfz3,h2,jDpp]
    simp;omega
theorem rdD_of (ts:List (List UInt8)) (hpf:PF ts) (zs:List Int) (hz:qLlL zs=true) (W:Nat) (hW:1≤W) (kind:Int) (hall:dAll ts zs W kind zs.length=true) (rest:List UInt8) (k:Nat) (hk:k≤zs.length) :
  rdD (bookF ts ts.length) (dBits ts zs W kind zs.length++rest) W kind k=some ((dBits ts zs W kind k).length,zs.take k):=by
 have hsplit:∀k,k≤zs.length→∃r,dBits ts zs W kind zs.length=dBits ts zs W kind k++r:=by
  intro k hk
  obtain ⟨m,hm⟩:∃m,zs.length=k+m:=⟨zs.length-k,by omega⟩
  rw[hm]
  clear hm hk
  induction m with
  | zero=>exact ⟨[],by simp⟩
  | succ m ih=>obtain ⟨r,hr⟩:=ih;exact ⟨r++wrD ts (dAt zs W kind (k+m)),by rw[show k+(m+1)=(k+m)+1 by omega,XRjF,hr,List.append_assoc]⟩
 induction k with
 | zero=>simp[rdD,dBits]
 | succ k ih =>
  rw[rdD,ih (by omega)]
  obtain ⟨r,hr⟩:=hsplit (k+1) hk
  have hrange:=XdLc (zs.getD k 0) (gAt zs W kind k)
  have hdrop:(dBits ts zs W kind zs.length++rest).drop (dBits ts zs W kind k).length=wrD ts (dAt zs W kind k)++(r++rest):=by
   rw[hr,XRjF,List.append_assoc,List.append_assoc,List.drop_left]
  simp only[hdrop]
  rw[nxD_wr ts hpf (dAt zs W kind k) hrange.1 hrange.2 (z7Ig hall k (by omega))]
  have hg:gAt (zs.take k) W kind k=gAt zs W kind k:=qJEU hW fun j hj=>by simp[List.getD,List.getElem?_take_of_lt hj]
  have hs:=qlb5 hz k
  simp only[Option.some.injEq,Prod.mk.injEq]
  refine ⟨by rw[XRjF,List.length_append],?_⟩
  rw[hg,dAt,qw74 _ _ hs.1 hs.2,List.take_succ_eq_append_getElem (by omega)]
  simp[List.getD,show k<zs.length by omega]
def jvOH (l:List UInt8):Bool:=decide (l.length<8) && !qMvX l
def X2rK (W H:Int) (zs:List Int) (kind:Int) (xs:List Int):Int :=
 if q0fM W H zs=true then (if qkcw kind=true then (if qO3F xs=0 then (if dAll (j6d1 xs) zs W.toNat kind zs.length=true then 0 else 4) else qO3F xs) else 6) else 1
def zivd (W H:Int) (zs:List Int) (kind:Int) (xs:List Int):List UInt8:=if X2rK W H zs kind xs=0 then XIZK (dBits (j6d1 xs) zs W.toNat kind zs.length) else []
end Go.Proofs.YtfjeonehdlphiaaGreatDoor
