/- Part 9. -/
import Derived.Test.YtfjeonehdlphiaaGreatDoorC1Sd
import Derived.WalkKit
open Nat renaming le_refl → ka, le_trans → kc, mul_le_mul_right → kh, succ_mul → kv, mul_comm → kw
open List renaming getElem?_eq_getElem → kb, take_succ_eq_append_getElem → kd, take_of_length_le → km, eq_nil_of_length_eq_zero → ko, length_append → xa, append_assoc → xc, length_take → xe, length_drop → yb, all_eq_true → zc, replicate → zl, range → zo, map_append → zv, getElem?_append_right → zB, getElem_mem → zO
open Int renaming toNat_natCast → kf
open Bool renaming and_eq_true → kG
set_option linter.unusedVariables false
namespace Go.Proofs.YtfjeonehdlphiaaGreatDoor
open Go.RowKit
theorem sM {α:Type} {P:List α->Prop} (b:P []) (c:∀l a,P l->P (l++[a])) (l:List α):P l:=by
 have h:∀m:List α,P m.reverse:=by
  intro m
  induction m with
  | nil=>exact b
  | cons a m ih=>rw[List.reverse_cons];exact c _ _ ih
 have:=h l.reverse
 rwa [List.reverse_reverse] at this
def lj (c:UInt8):Bool:=decide (c.toNat=48\/c.toNat=49)
def bz (l:List UInt8):Bool:=l.all lj
theorem oO (l:List UInt8) (c:UInt8):bz (l++[c])=(bz l && lj c):=by simp[bz]
theorem mH (l m:List UInt8):bz (l++m)=(bz l && bz m):=by simp[bz]
theorem jO {l:List UInt8} (h:bz l=true) (k:Nat):bz (l.take k)=true:=by
 have:=List.take_append_drop k l;rw[<-this,mH,kG] at h;exact h.1
theorem iH {l:List UInt8} (h:bz l=true) (k:Nat):bz (l.drop k)=true:=by
 have:=List.take_append_drop k l;rw[<-this,mH,kG] at h;exact h.2
theorem mI {l:List UInt8} (h:bz l=true) (k:Nat) (a:k<l.length):l[k].toNat=48\/l[k].toNat=49:=by
 have:=zc.1 h l[k] (zO a);simpa [lj] using this
theorem yR {l:List UInt8} (k:Nat) (a:k<l.length) (b:l[k].toNat≠48) (c:l[k].toNat≠49):bz l=false:=by
 rw[Bool.eq_false_iff];intro h;rcases mI h k a with h|h<;>omega
theorem qA (s:ByteArray) (k:Nat) (h:k<s.size):s.data.toList.take (k+1)=s.data.toList.take k++[s[k]]:=by
 rw[kd (by simpa using h)];rfl
theorem nu (s:ByteArray) (k:Nat) (h:s.size<=k):s.data.toList.take k=s.data.toList:=by
 apply km;simpa using h
theorem mc (s:ByteArray) (k:Nat) (h:k<s.size):s.data.toList[k]'(by simpa using h)=s[k]:=rfl
theorem gj (s:ByteArray):s.data.toList.length=s.size:=sS
theorem au {p:Prop} (h:p):Hid p:=h
theorem te {p:Prop} (h:Hid p):p:=h
def bS (l:List UInt8):Nat:=l.foldl (fun n c=>2*n+(c.toNat-48)) 0
theorem oD (l:List UInt8) (c:UInt8):bS (l++[c])=2*bS l+(c.toNat-48):=by simp[bS]
theorem nC:∀(l:List UInt8),bz l=true->bS l<2 ^ l.length:=by
 intro l;refine sM (P:=fun l=>bz l=true->bS l<2 ^ l.length) ?_ ?_ l
 ·intro _;decide
 ·intro l c a h;rw[oO,kG] at h;have:=a h.1;have b:c.toNat=48\/c.toNat=49:=by simpa [lj] using h.2
  rw[oD,xa,List.length_singleton,Nat.pow_succ];omega
def aL:Nat->Nat->List UInt8
 | _,0=>[]
 | n,k+1=>aL (n / 2) k++[UInt8.ofNat (48+n % 2)]
theorem dW (n k:Nat):(aL n k).length=k:=by
 induction k generalizing n with
 | zero=>rfl
 | succ k ih=>simp[aL,ih]
theorem vL (n k:Nat):aL n (k+1)=UInt8.ofNat (48+n / 2 ^ k % 2)::aL n k:=by
 induction k generalizing n with
 | zero=>simp[aL]
 | succ k ih =>
  rw[aL,ih (n / 2)];simp only[List.cons_append,Nat.div_div_eq_div_mul,aL];rw[show 2*2 ^ k=2 ^ (k+1) by rw[Nat.pow_succ];omega]
def lh (l:List UInt8):ByteArray:=⟨l.toArray⟩
theorem bP (l:List UInt8):(lh l).data.toList=l:=rfl
theorem bn (l:List UInt8):(lh l).size=l.length:=by simp[lh,ByteArray.size]
def aP (l:List UInt8):List Value:=l.map fun c=>Value.int .u8 c.toNat
theorem kY (l:List UInt8):(aP l).length=l.length:=by simp[aP]
theorem jl (l m:List UInt8):aP (l++m)=aP l++aP m:=by simp[aP]
theorem byt_get? (l:List UInt8) (j:Nat):(aP l)[j]?=(l[j]?).map fun c=>Value.int .u8 c.toNat:=by simp[aP]
theorem zp (l:List UInt8):∀u∈aP l,u.oneCell'=true:=by
 intro u a;simp only[aP,List.mem_map] at a;obtain ⟨c,_,rfl⟩:=a;rfl
theorem ou {P:Program} {w:World} {base a e dst:TypeId} {g n cap:Nat} {l:List UInt8} (j:P.underlying a=some (.slice e)) (d:P.underlying e=some (.int .u8)) (b:P.underlying dst=some .string)
  (h:w.ownsRow base e 1 (.slice (some ⟨g,0,none⟩) n cap) n (aP l)) :
  (convert a dst (.slice (some ⟨g,0,none⟩) n cap)).run P w=.ok (.string (lh l)) w:=by
 have f:l.length=n:=by have:=h.1;rw[kY] at this;omega
 have:=run_convert_bytes_arg (P:=P) w a e j d g 0 n cap (l.map fun c=>(c.toNat:Int)) (by simpa using f) (fun i k=>by
  rw[Nat.zero_add,h.cellAt i oM,byt_get?];simp[kb (show i<l.length from oM)]) dst b
 rw[this];congr 2;simp only[strOfNums,lh,List.map_map];congr 2;exact (List.map_congr_left (fun c _=>sS)).trans (List.map_id l)
theorem yU (n:Int):bits .and .i64 n 1=n % 2:=by
 have a:(BitVec.ofInt 64 1).toNat=2 ^ 1-1:=dD;have b:(BitVec.ofInt 64 n &&& BitVec.ofInt 64 1).toNat=(n % ((2 ^ 64:Nat):Int)).toNat % 2 ^ 1:=by
  rw[BitVec.toNat_and,BitVec.toNat_ofInt,a,Nat.and_two_pow_sub_one_eq_mod]
 show IntKind.i64.wrap ((BitVec.ofInt 64 n &&& BitVec.ofInt 64 1).toNat:Nat)=n % 2;rw[b,IntKind.wrap_i64];omega
theorem tM (n:Int):bits .and .i64 n 65535=n % 65536:=by
 have a:(BitVec.ofInt 64 65535).toNat=2 ^ 16-1:=dD;have b:(BitVec.ofInt 64 n &&& BitVec.ofInt 64 65535).toNat=(n % ((2 ^ 64:Nat):Int)).toNat % 2 ^ 16:=by
  rw[BitVec.toNat_and,BitVec.toNat_ofInt,a,Nat.and_two_pow_sub_one_eq_mod]
 show IntKind.i64.wrap ((BitVec.ofInt 64 n &&& BitVec.ofInt 64 65535).toNat:Nat)=n % 65536;rw[b,IntKind.wrap_i64];omega
theorem fL (k:Nat):((2:Int) ^ k)=((2 ^ k:Nat):Int):=(Int.natCast_pow 2 k).symm
theorem zg (n k:Nat):(48+bits BinOp.and IntKind.i64 ((n:Int) / 2 ^ k) 1) % 256=(48+(n / 2 ^ k % 2:Nat):Int):=by
 rw[yU,fL,<-Int.natCast_ediv];omega
theorem qU (p:Nat) (h:p<256):aP [UInt8.ofNat p]=[Value.int .u8 (p:Nat)]:=by
 simp only[aP,List.map_cons,List.map_nil,UInt8.toNat_ofNat'];congr 3;omega
theorem kE {α:Type} {x u:α} {j:Nat} (h:[x][j]?=some u):j=0/\u=x:=by
 match j,h with
 | 0,h=>simp at h;exact ⟨rfl,h.symm⟩
theorem mr {a b c d:Value} (e:a=c) (f:b=d):Ending.returned (.tuple #[a,b])=.returned (.tuple #[c,d]):=by rw[e,f]
theorem aY {k:IntKind} {a b:Int} (h:a=b):Ending.returned (.int k a)=.returned (.int k b):=by rw[h]
theorem be {a b:Bool} (h:a=b):Ending.returned (.bool a)=.returned (.bool b):=by rw[h]
def cS (l:List UInt8) (k:Nat):Nat:=if l[k]?=some 49 then 1 else 0
def cy (l:List UInt8) (i:Nat):Nat->Nat
 | 0=>0
 | j+1=>2*cy l i j+cS l (i+j)
def dg (l:List UInt8):List UInt8:=(zo ((l.length+7) / 8)).map fun q=>UInt8.ofNat (cy l (8*q) 8)
theorem qQ (l:List UInt8) (k:Nat):cS l k<=1:=by unfold cS;split<;>omega
theorem qR (l:List UInt8) (k:Nat) (h:l.length<=k):cS l k=0:=by
 unfold cS;rw[List.getElem?_eq_none h];rfl
theorem tV (l:List UInt8) (k:Nat) (h:k<l.length) (b:bz l=true):cS l k=l[k].toNat-48:=by
 unfold cS;rw[kb h];rcases mI b k h with e|e
 ·rw[if_neg (by intro a;simp only[Option.some.injEq] at a;rw[a] at e;revert e;decide)];omega
 ·rw[if_pos (by rw[show l[k]=49 from UInt8.toNat_inj.1 e])];omega
theorem zb (l:List UInt8) (k:Nat) (h:k<l.length) (e:l[k].toNat=49):cS l k=1:=by
 unfold cS;rw[kb h,if_pos (by rw[show l[k]=49 from UInt8.toNat_inj.1 e])]
theorem ze (l:List UInt8) (k:Nat) (h:k<l.length) (e:l[k].toNat≠49):cS l k=0:=by
 unfold cS;rw[kb h,if_neg (by intro a;simp only[Option.some.injEq] at a;rw[a] at e;exact e rfl)]
theorem qe (l:List UInt8) (i j:Nat):cy l i j<2 ^ j:=by
 induction j with
 | zero=>exact Nat.one_pos
 | succ j ih=>have:=qQ l (i+j);rw[cy,Nat.pow_succ];omega
theorem DC (l:List UInt8) (i j d:Nat) (h:l.length<=i+j):cy l i (j+d)=cy l i j*2 ^ d:=by
 induction d with
 | zero=>simp
 | succ d ih =>
  rw[show j+(d+1)=(j+d)+1 from oM,cy,ih,qR _ _ oM,Nat.pow_succ,Nat.add_zero,kw 2,Nat.mul_assoc]
theorem oU (l:List UInt8):(dg l).length=(l.length+7) / 8:=by simp[dg]
def fb (l:List UInt8) (k q:Nat):Nat:=cy l (8*q) (min 8 (k-8*q))*2 ^ (8-min 8 (k-8*q))
def jN (l:List UInt8) (n k:Nat):List Value:=(zo n).map fun q=>Value.int .u8 (fb l k q)
theorem mG (l:List UInt8) (n k:Nat):(jN l n k).length=n:=by simp[jN]
theorem nI (l:List UInt8) (n k q:Nat) (h:q<n):(jN l n k)[q]?=some (.int .u8 (fb l k q)):=by
 simp[jN,h]
theorem yK (l:List UInt8) (k q:Nat) (h:q≠k / 8):fb l (k+1) q=fb l k q:=by
 unfold fb;rw[show min 8 (k+1-8*q)=min 8 (k-8*q) from oM]
theorem wO (r:Nat) (h:r<8):2 ^ (8-r)=2*2 ^ (7-r):=by
 rw[show 8-r=(7-r)+1 from oM,Nat.pow_succ];omega
theorem yL (l:List UInt8) (k:Nat):fb l (k+1) (k / 8)=fb l k (k / 8)+cS l k*2 ^ (7-k % 8):=by
 unfold fb;rw[show min 8 (k-8*(k / 8))=k % 8 from oM,show min 8 (k+1-8*(k / 8))=k % 8+1 from oM,cy,show 8*(k / 8)+k % 8=k from oM,
  wO _ (Nat.mod_lt _ dD),show 8-(k % 8+1)=7-k % 8 from oM]
 generalize 2 ^ (7-k % 8)=p;generalize cy l (8*(k / 8)) (k % 8)=a;generalize cS l k=b;rw[Nat.add_mul,kw 2 a,Nat.mul_assoc]
theorem yN (l:List UInt8) (n k:Nat) (u:Int) (b:u=(fb l (k+1) (k / 8):Nat)):(jN l n k).set (k / 8) (.int .u8 u)=jN l n (k+1):=by
 apply List.ext_getElem?;intro j;rw[List.getElem?_set];by_cases e:k / 8=j
 ·subst e;rw[if_pos rfl];by_cases a:k / 8<n
  ·rw[nI _ _ _ _ a,mG,if_pos a,b]
  ·rw[mG,if_neg a,List.getElem?_eq_none (by rw[mG];omega)]
 ·rw[if_neg e];by_cases a:j<n
  ·rw[nI _ _ _ _ a,nI _ _ _ _ a,yK _ _ _ (fun h=>e h.symm)]
  ·rw[List.getElem?_eq_none (by rw[mG];omega),List.getElem?_eq_none (by rw[mG];omega)]
theorem yO (l:List UInt8) (n:Nat):jN l n 0=(madeCells (Value.int .u8 0).cells (n*1)).toList:=by
 rw[show (Value.int .u8 0).cells=#[Value.int .u8 0] from rfl,toList_madeCells_one];apply List.ext_getElem?;intro j;by_cases a:j<n
 ·rw[nI _ _ _ _ a,List.getElem?_replicate,if_pos oM];simp[fb,cy]
 ·rw[List.getElem?_eq_none (by rw[mG];omega),List.getElem?_eq_none sO]
theorem yM (l:List UInt8):jN l ((l.length+7) / 8) l.length=aP (dg l):=by
 simp only[jN,aP,dg,List.map_map];apply List.map_congr_left;intro q a;have a:q<(l.length+7) / 8:=by simpa using a
 have b:fb l l.length q=cy l (8*q) 8:=by
  unfold fb;have d:min 8 (l.length-8*q)<=8:=Nat.min_le_left _ _;by_cases h:8<=l.length-8*q
  ·rw[Nat.min_eq_left h];simp
  ·rw[<-DC _ _ _ _ oM,show min 8 (l.length-8*q)+(8-min 8 (l.length-8*q))=8 from oM]
 have c:=qe l (8*q) 8;simp only[Function.comp];rw[b,UInt8.toNat_ofNat'];congr 2;omega
theorem tH (l:List UInt8) (k:Nat):fb l k (k / 8) % 2 ^ (8-k % 8)=0/\fb l k (k / 8)<256:=by
 unfold fb;rw[show min 8 (k-8*(k / 8))=k % 8 from oM];refine ⟨sS,?_⟩;have h:=qe l (8*(k / 8)) (k % 8)
 calc cy l (8*(k / 8)) (k % 8)*2 ^ (8-k % 8)<2 ^ (k % 8)*2 ^ (8-k % 8):=Nat.mul_lt_mul_of_pos_right h (Nat.pow_pos dD)
  _=256:=by rw[<-Nat.pow_add,show k % 8+(8-k % 8)=8 from oM]
theorem Dt (l:List UInt8) (k:Nat) (c:Int) (e:c-48=cS l k) :
  bits .or .u8 (fb l k (k / 8):Nat) ((c-48)*2 ^ (7-k % 8) % 256)=(fb l (k+1) (k / 8):Nat):=by
 rw[e,yL];obtain ⟨b,h⟩:=tH l k;have a:=qQ l k;have i:2 ^ (7-k % 8)<=2 ^ 7:=Nat.pow_le_pow_right dD oM;have d:=wO (k % 8) (Nat.mod_lt _ dD);rw[d] at b;have g:(cS l k:Int)*2 ^ (7-k % 8) % 256=((cS l k*2 ^ (7-k % 8):Nat):Int):=by
  rw[fL,<-Int.natCast_mul];have:cS l k*2 ^ (7-k % 8)<256:=by
   have:cS l k*2 ^ (7-k % 8)<=1*2 ^ (7-k % 8):=kh _ a;omega
  omega
 rw[g];have f:cS l k*2 ^ (7-k % 8)<2 ^ (8-k % 8):=by
  have:cS l k*2 ^ (7-k % 8)<=1*2 ^ (7-k % 8):=kh _ a;have:0<2 ^ (7-k % 8):=Nat.pow_pos dD;omega
 rw[bits_join .u8 8 dD wraps_u8 (8-k % 8) _ _ oM (by rw[fL,d,<-Int.natCast_emod,b];rfl) oM oM (by rw[fL];exact Int.ofNat_lt.2 f) (by
  have:cS l k*2 ^ (7-k % 8)<=1*2 ^ (7-k % 8):=kh _ a;generalize cS l k*2 ^ (7-k % 8)=z at *;omega)]
 rw[Int.natCast_add]
def aF (l:List UInt8):List UInt8:=l.flatMap fun c=>aL c.toNat 8
theorem sF (l:List UInt8) (c:UInt8):aF (l++[c])=aF l++aL c.toNat 8:=by simp[aF]
theorem sE (l:List UInt8) (c:UInt8):aF (c::l)=aL c.toNat 8++aF l:=by simp[aF]
theorem ig (l:List UInt8):(aF l).length=8*l.length:=by
 induction l with
 | nil=>rfl
 | cons c l ih=>rw[sE,xa,dW,ih,List.length_cons];omega
theorem vM (n k j:Nat) (h:j<k):(aL n k)[j]?=some (UInt8.ofNat (48+n / 2 ^ (k-1-j) % 2)):=by
 induction k generalizing j with
 | zero=>omega
 | succ k ih =>
  rw[vL];cases j with
  | zero=>simp
  | succ j=>rw[List.getElem?_cons_succ,ih j oM,show k+1-1-(j+1)=k-1-j from oM]
theorem yV (x:Nat) (h:x<256):bits .and .u8 (x:Int) 1=((x % 2:Nat):Int):=by
 have a:(BitVec.ofInt 8 1).toNat=2 ^ 1-1:=dD;have b:(BitVec.ofInt 8 (x:Int) &&& BitVec.ofInt 8 1).toNat=((x:Int) % ((2 ^ 8:Nat):Int)).toNat % 2 ^ 1:=by
  rw[BitVec.toNat_and,BitVec.toNat_ofInt,a,Nat.and_two_pow_sub_one_eq_mod]
 show IntKind.u8.wrap ((BitVec.ofInt 8 (x:Int) &&& BitVec.ofInt 8 1).toNat:Nat)=_;rw[b,IntKind.wrap_u8];omega
theorem tU (c t:Nat) (a:c<256):(48+bits BinOp.and IntKind.u8 ((c:Int) / 2 ^ t) 1) % 256=((48+c / 2 ^ t % 2:Nat):Int):=by
 rw[fL,<-Int.natCast_ediv,yV _ (Nat.lt_of_le_of_lt (Nat.div_le_self _ _) a)];omega
theorem zn (n:Nat):aP [UInt8.ofNat (48+n % 2)]=[Value.int .u8 ((48+n % 2:Nat):Int)]:=qU _ oM
theorem xU (c t:Nat) (h:t<8):(aL c 8).take (8-t)=(aL c 8).take (7-t)++[UInt8.ofNat (48+c / 2 ^ t % 2)]:=by
 have a:7-t<(aL c 8).length:=by rw[dW];omega
 rw[show 8-t=(7-t)+1 from oM,kd a];congr 2;have:=vM c 8 (7-t) oM;rw[kb a] at this;simp only[Option.some.injEq] at this;rw[this,show 8-1-(7-t)=t from oM]
theorem pU (n k:Nat):bz (aL n k)=true:=by
 induction k generalizing n with
 | zero=>rfl
 | succ k ih =>
  rw[aL,oO,ih,Bool.true_and];have a:n % 2<2:=Nat.mod_lt _ dD;simp only[lj,UInt8.toNat_ofNat',decide_eq_true_eq];omega
theorem kp (l:List UInt8):bz (aF l)=true:=by
 induction l with
 | nil=>rfl
 | cons c l ih=>rw[sE,mH,pU,ih];rfl
def jZ (n size:Int):Bool:=decide (0<=size/\size<=16/\0<=n/\n<2 ^ size.toNat)
theorem ic {n:Nat} (h:n<=16):2 ^ n<=65536:=kc (Nat.pow_le_pow_right dD h) dD
theorem vO (n size:Int):(∃m k:Nat,n=m/\size=k/\k<=16/\m<2 ^ k/\jZ n size=true) \/
  (jZ n size=false/\(size<0\/16<size\/(0<=size/\size<=16/\n<0)\/∃k p:Nat,size=k/\k<=16/\p=2 ^ k/\(p:Int)<=n)):=by
 by_cases h:jZ n size=true
 ·left;have d:=h;simp only[jZ,decide_eq_true_eq] at d;obtain ⟨g,i,j,e⟩:=d;refine ⟨n.toNat,size.toNat,oM,oM,oM,?_,h⟩;rw[fL] at e;generalize 2 ^ size.toNat=p at *;omega
 ·right;have h:jZ n size=false:=by simpa using h
  refine ⟨h,?_⟩;simp only[jZ,decide_eq_false_iff_not] at h;by_cases a:size<0
  ·exact .inl a
  by_cases b:16<size
  ·exact .inr (.inl b)
  by_cases c:n<0
  ·exact .inr (.inr (.inl ⟨oM,oM,c⟩))
  ·refine .inr (.inr (.inr ⟨size.toNat,2 ^ size.toNat,oM,oM,rfl,?_⟩));have:¬n<2 ^ size.toNat:=fun f=>h ⟨oM,oM,oM,f⟩;rw[fL] at this;generalize 2 ^ size.toNat=p at *;omega
def dO (xs:List Int) (d:Int):List UInt8:=xs.flatMap fun n=>aL n.toNat d.toNat
theorem sg (xs:List Int) (n d:Int):dO (xs++[n]) d=dO xs d++aL n.toNat d.toNat:=by simp[dO]
theorem we (xs:List Int) (n d:Int):dO (n::xs) d=aL n.toNat d.toNat++dO xs d:=by simp[dO]
theorem sf (xs:List Int) (d:Int):(dO xs d).length=xs.length*d.toNat:=by
 induction xs with
 | nil=>simp[dO]
 | cons n xs ih=>rw[we,xa,dW,ih,List.length_cons,kv];omega
theorem Dx (xs:List Int) (d:Int):bz (dO xs d)=true:=by
 induction xs with
 | nil=>rfl
 | cons n xs ih=>rw[we,mH,pU,ih];rfl
def iI (xs:List Int) (d:Int):Bool:=xs.all fun n=>jZ n d
theorem yS (xs:List Int) (n d:Int):iI (xs++[n]) d=(iI xs d && jZ n d):=by simp[iI]
def dM (d:Int):Bool:=decide (1<=d/\d<=16)
def ke (xs:List Int) (d:Int):Int:=if dM d=true then (if xs.length<=4096 then (if iI xs d=true then 0 else 3) else 2) else 3
def kF (xs:List Int) (d:Int):List UInt8:=if ke xs d=0 then dg (dO xs d) else []
def nK (l:List UInt8) (k:Nat):UInt8:=UInt8.ofNat (48+cS l k)
theorem Dc (l:List UInt8) (i j:Nat):aL (cy l i j) j=(zo j).map fun r=>nK l (i+r):=by
 induction j with
 | zero=>rfl
 | succ j ih =>
  have a:=qQ l (i+j);rw[cy,aL,show (2*cy l i j+cS l (i+j)) / 2=cy l i j from oM,show (2*cy l i j+cS l (i+j)) % 2=cS l (i+j) from oM,ih,List.range_succ,zv];rfl
theorem zr (l:List UInt8) (n:Nat):aF ((zo n).map fun q=>UInt8.ofNat (cy l (8*q) 8))=(zo (8*n)).map (nK l):=by
 induction n with
 | zero=>rfl
 | succ n ih =>
  rw[List.range_succ,zv,List.map_singleton,sF,ih];have h:(UInt8.ofNat (cy l (8*n) 8)).toNat=cy l (8*n) 8:=by
   have:=qe l (8*n) 8;rw[UInt8.toNat_ofNat'];omega
  rw[h,Dc,show 8*(n+1)=8*n+8 from oM,List.range_add,zv,List.map_map];rfl
theorem zf (l:List UInt8) (a:bz l=true) (k:Nat) (h:k<l.length):nK l k=l[k]:=by
 have b:=mI a k h;rw[nK,tV l k h a,show 48+(l[k].toNat-48)=l[k].toNat from oM];simp
theorem sH (l:List UInt8) (c:bz l=true):aF (dg l)=l++zl (8*((l.length+7) / 8)-l.length) 48:=by
 rw[dg,zr];apply List.ext_getElem?;intro j;by_cases a:j<l.length
 ·rw[List.getElem?_append_left a,List.getElem?_map,List.getElem?_range oM,kb a];simp[zf l c j a]
 ·rw[zB oM,List.getElem?_map];by_cases b:j<8*((l.length+7) / 8)
  ·rw[List.getElem?_range b,List.getElem?_replicate,if_pos oM];simp[nK,qR l j oM]
  ·rw[List.getElem?_replicate,if_neg oM,List.getElem?_eq_none sO];rfl
theorem E8 (l:List UInt8) (q r:Nat) (a:q<l.length) (b:r<8):(aF l)[8*q+r]?=some (UInt8.ofNat (48+l[q].toNat / 2 ^ (7-r) % 2)):=by
 induction l generalizing q with
 | nil=>simp at a
 | cons c l ih =>
  rw[sE];cases q with
  | zero =>
   rw[List.getElem?_append_left (by rw[dW];omega)];have:=vM c.toNat 8 r b;simpa [show 8-1-r=7-r from oM] using this
  | succ q =>
   rw[zB (by rw[dW];omega),dW,show 8*(q+1)+r-8=8*q+r from oM,ih q (by simpa using a)];rfl
theorem zd (l:List UInt8) (q r:Nat) (a:q<l.length) (b:r<8):cS (aF l) (8*q+r)=l[q].toNat / 2 ^ (7-r) % 2:=by
 unfold cS;rw[E8 l q r a b];have c:l[q].toNat / 2 ^ (7-r) % 2<2:=Nat.mod_lt _ dD;generalize l[q].toNat / 2 ^ (7-r) % 2=z at *;rcases (show z=0\/z=1 from oM) with rfl|rfl<;>decide
theorem DD (l:List UInt8) (q:Nat) (a:q<l.length) (j:Nat) (b:j<=8):cy (aF l) (8*q) j=l[q].toNat / 2 ^ (8-j):=by
 induction j with
 | zero =>
  have:l[q].toNat<256:=l[q].toNat_lt;rw[cy,Nat.div_eq_of_lt (by simpa using this)]
 | succ j ih =>
  rw[cy,ih oM,zd l q j a oM,show 8-j=(7-j)+1 from oM,Nat.pow_succ,<-Nat.div_div_eq_div_mul,show 8-(j+1)=7-j from oM];omega
theorem zx (l:List UInt8):dg (aF l)=l:=by
 rw[dg,ig,show (8*l.length+7) / 8=l.length from oM];apply List.ext_getElem?;intro j;by_cases h:j<l.length
 ·rw[List.getElem?_map,List.getElem?_range h,kb h];simp[DD l j h 8 oM]
 ·rw[List.getElem?_eq_none sO,List.getElem?_eq_none oM]
theorem vN (l:List UInt8) (a:bz l=true):aL (bS l) l.length=l:=by
 refine sM (P:=fun l=>bz l=true->aL (bS l) l.length=l) ?_ ?_ l a
 ·intro _;rfl
 ·intro l c b h;rw[oO,kG] at h;have d:c.toNat=48\/c.toNat=49:=by simpa [lj] using h.2
  rw[xa,List.length_singleton,aL,oD,show (2*bS l+(c.toNat-48)) / 2=bS l from oM,b h.1,
   show 48+(2*bS l+(c.toNat-48)) % 2=c.toNat from oM]
  simp
def dG (b:List UInt8) (D n:Nat):List Int:=(zo n).map fun i=>(bS ((b.drop (i*D)).take D):Int)
theorem jg (b:List UInt8) (D n:Nat):(dG b D n).length=n:=by simp[dG]
theorem qD (b:List UInt8) (D n:Nat):dG b D (n+1)=dG b D n++[(bS ((b.drop (n*D)).take D):Int)]:=by simp[dG,List.range_succ]
theorem ug (b:List UInt8) (D n i:Nat) (h:n*D<=b.length) (a:i<n):((b.drop (i*D)).take D).length=D:=by
 rw[xe,yb];have:(i+1)*D<=n*D:=kh _ a;rw[kv] at this;omega
theorem wi (b:List UInt8) (D n:Nat) (c:bz b=true) (h:n*D<=b.length):dO (dG b D n) D=b.take (n*D):=by
 induction n with
 | zero=>simp[dG,dO]
 | succ n ih =>
  have a:n*D<=b.length:=by rw[kv] at h;omega
  rw[qD,sg,ih a,kf,kf];have d:=ug b D (n+1) n h oM;have:=vN ((b.drop (n*D)).take D) (jO (iH c _) _);rw[d] at this;rw[this,kv,List.take_add]
theorem yi (b:List UInt8) (D n:Nat) (f:D<=16) (d:bz b=true) (h:n*D<=b.length):iI (dG b D n) D=true:=by
 rw[iI,zc];intro x a;simp only[dG,List.mem_map,List.mem_range] at a;obtain ⟨i,e,rfl⟩:=a;have c:=nC ((b.drop (i*D)).take D) (jO (iH d _) _);rw[ug b D n i h e] at c;simp only[jZ,decide_eq_true_eq];rw[fL,kf];generalize 2 ^ D=p at *;omega
def dV (l:List UInt8):Bool:=l.any fun c=>c == 49
theorem H4 (l:List UInt8) (g:bz l=true) (h:dV l=false):l=zl l.length 48:=by
 apply List.eq_replicate_of_mem;intro c b;have d:=zc.1 g c b;have f:¬c=49:=by
  intro e;have:dV l=true:=List.any_eq_true.2 ⟨c,b,by simp[e]⟩;rw[h] at this;cases this
 have a:c.toNat=48\/c.toNat=49:=by simpa [lj] using d
 rcases a with a|a
 ·exact UInt8.toNat_inj.1 a
 ·exact absurd (UInt8.toNat_inj.1 a) f
theorem rJ (n:Nat):dV (zl n 48)=false:=by
 rw[Bool.eq_false_iff];intro h;obtain ⟨c,b,a⟩:=List.any_eq_true.1 h;rw[List.eq_of_mem_replicate b] at a;cases a
theorem pY (s:List UInt8) (n D:Nat) (l:s.length=(n*D+7) / 8):dg ((aF s).take (n*D))=s↔dV ((aF s).drop (n*D))=false:=by
 have f:=kp s;have d:=ig s;have m:n*D<=(aF s).length:=by rw[d];omega
 have b:((aF s).take (n*D)).length=n*D:=by rw[xe];omega
 constructor
 ·intro h;have a:=sH ((aF s).take (n*D)) (jO f _);rw[h,b] at a;have c:(aF s).drop (n*D)=zl (8*((n*D+7) / 8)-n*D) 48:=by
   rw[a,List.drop_append_of_le_length (by rw[b];exact ka _),List.drop_of_length_le (by rw[b];exact ka _),List.nil_append]
  rw[c];exact rJ _
 ·intro h;have a:=H4 _ (iH f (n*D)) h;have c:dg ((aF s).take (n*D))=dg (aF s):=by
   rw[dg,dg,b,d,show (8*s.length+7) / 8=(n*D+7) / 8 from oM];apply List.map_congr_left;intro q o;congr 1;have i:∀k,cS ((aF s).take (n*D)) k=cS (aF s) k:=by
    intro k;unfold cS;by_cases g:k<n*D
    ·rw[List.getElem?_take,if_pos g]
    ·rw[List.getElem?_take,if_neg g];have:(aF s)[k]?≠some 49:=by
      have e:(aF s)[k]?=((aF s).drop (n*D))[k-n*D]?:=(by rw[List.getElem?_drop];congr 1;omega);rw[e,a,List.getElem?_replicate];split
      ·decide
      ·simp
     simp[this]
   have:∀j,cy ((aF s).take (n*D)) (8*q) j=cy (aF s) (8*q) j:=by
    intro j
    induction j with
    | zero=>rfl
    | succ j ih=>rw[cy,cy,ih,i]
   exact this 8
  rw[c,zx]
theorem qC (n k:Nat) (h:n<2 ^ k):bS (aL n k)=n:=by
 induction k generalizing n with
 | zero=>rw[aL];simp at h;rw[h];rfl
 | succ k ih =>
  rw[Nat.pow_succ] at h;have a:n % 2<2:=Nat.mod_lt _ dD;rw[aL,oD,ih (n / 2) oM,UInt8.toNat_ofNat'];omega
theorem G0 (d:Int) (r:List UInt8) (xs:List Int) (c:iI xs d=true):dG (dO xs d++r) d.toNat xs.length=xs:=by
 refine sM (P:=fun xs=>∀r,iI xs d=true->dG (dO xs d++r) d.toNat xs.length=xs) ?_ ?_ xs r c
 ·intro r _;rfl
 ·intro xs x e r h;rw[yS,kG] at h;rw[sg,xc,xa,List.length_singleton,qD,e _ h.1];have f:(dO xs d).length=xs.length*d.toNat:=sf xs d;rw[List.drop_append_of_le_length oM,List.drop_of_length_le oM,List.nil_append,List.take_append_of_le_length (by rw[dW];exact ka _),km (by rw[dW];exact ka _)];rcases vO x d with ⟨m,k,rfl,rfl,a,b,_⟩|⟨a,_⟩
  ·rw[kf,kf,qC m k b]
  ·rw[a] at h;cases h.2
theorem wg {xs:List Int} {d:Int} (h:ke xs d=0):dM d=true/\xs.length<=4096/\iI xs d=true:=by
 unfold ke at h;by_cases a:dM d=true
 ·rw[if_pos a] at h;by_cases b:xs.length<=4096
  ·rw[if_pos b] at h;by_cases c:iI xs d=true
   ·exact ⟨a,b,c⟩
   ·rw[if_neg c] at h;exact absurd h dD
  ·rw[if_neg b] at h;exact absurd h dD
 ·rw[if_neg a] at h;exact absurd h dD
theorem Dy {xs:List Int} {d:Int} (a:dM d=true) (b:xs.length<=4096) (c:iI xs d=true):ke xs d=0:=by
 rw[ke,if_pos a,if_pos b,if_pos c]
def em (s:List UInt8) (d n:Int):Bool:=decide (dM d=true/\0<=n/\n<=4096/\s.length=(n.toNat*d.toNat+7) / 8/\dV ((aF s).drop (n.toNat*d.toNat))=false)
def en (s:List UInt8) (d n:Int):List Int:=if em s d n=true then dG (aF s) d.toNat n.toNat else []
def eM (s:List UInt8) (d n:Int):Int :=
 if dM d=true/\0<=n then (if n<=4096 then (if em s d n=true then 0 else 1) else 2) else 3
theorem tf {s:List UInt8} {d n:Int} (h:eM s d n=0):em s d n=true:=by
 unfold eM at h;by_cases a:dM d=true/\0<=n
 ·rw[if_pos a] at h;by_cases b:n<=4096
  ·rw[if_pos b] at h;by_cases c:em s d n=true
   ·exact c
   ·rw[if_neg c] at h;exact absurd h dD
  ·rw[if_neg b] at h;exact absurd h dD
 ·rw[if_neg a] at h;exact absurd h dD
theorem GV {xs:List Int} {d:Int} (h:ke xs d=0):eM (kF xs d) d xs.length=0/\en (kF xs d) d xs.length=xs:=by
 obtain ⟨b,j,f⟩:=wg h;have a:kF xs d=dg (dO xs d):=by rw[kF,if_pos h]
 have g:=Dx xs d;have i:=sf xs d;have e:=sH (dO xs d) g;have c:em (kF xs d) d xs.length=true:=by
  simp only[em,decide_eq_true_eq];refine ⟨b,oM,oM,?_,?_⟩
  ·rw[a,oU,i,kf]
  ·rw[a,e,kf,List.drop_append_of_le_length oM,List.drop_of_length_le oM,List.nil_append];exact rJ _
 refine ⟨?_,?_⟩
 ·rw[eM,if_pos ⟨b,oM⟩,if_pos oM,if_pos c]
 ·rw[en,if_pos c,a,e,kf];exact G0 d _ xs f
theorem Dz {s:List UInt8} {d n:Int} (h:eM s d n=0):ke (en s d n) d=0/\kF (en s d n) d=s/\(((en s d n).length:Nat):Int)=n:=by
 have f:=tf h;have g:=f;simp only[em,decide_eq_true_eq] at g;obtain ⟨b,m,o,k,l⟩:=g;have p:1<=d/\d<=16:=by simpa [dM] using b
 have a:en s d n=dG (aF s) d.toNat n.toNat:=by rw[en,if_pos f]
 have i:n.toNat*d.toNat<=(aF s).length:=by rw[ig];omega
 have j:=yi (aF s) d.toNat n.toNat oM (kp s) i;have e:((d.toNat:Nat):Int)=d:=oM;rw[e] at j;have c:ke (en s d n) d=0:=by
  rw[a];exact Dy b (by rw[jg];omega) j
 refine ⟨c,?_,?_⟩
 ·rw[kF,if_pos c,a];have:=wi (aF s) d.toNat n.toNat (kp s) i;rw[e] at this;rw[this];exact (pY s n.toNat d.toNat k).2 l
 ·rw[a,jg];omega
def jw (x:Int):Bool:=decide (0<=x/\x<=15)
def fd (xs:List Int):Bool:=xs.all jw
def wt (x:Int):Nat:=if 0<x then 2 ^ (15-x.toNat) else 0
def bN:List Int->Nat
 | []=>0
 | x::xs=>wt x+bN xs
theorem pD (xs:List Int) (x:Int):bN (xs++[x])=bN xs+wt x:=by
 induction xs with
 | nil=>simp[bN]
 | cons y xs ih=>simp only[List.cons_append,bN,ih];omega
theorem vf (xs:List Int) (x:Int):fd (xs++[x])=(fd xs && jw x):=by simp[fd]
theorem pF (xs:List Int) (k:Nat) (h:k<xs.length) (b:jw xs[k]=false):fd xs=false:=by
 rw[Bool.eq_false_iff];intro a;have:=zc.1 a xs[k] (zO h);rw[b] at this;cases this
theorem pG {xs:List Int} (h:fd xs=true) (k:Nat) (a:k<xs.length):0<=xs[k]/\xs[k]<=15:=by
 have:=zc.1 h xs[k] (zO a);simpa [jw] using this
theorem Hy (x:Int):wt x<=32768:=by
 unfold wt;split
 ·exact kc (Nat.pow_le_pow_right dD (Nat.sub_le _ _)) dD
 ·decide
theorem Hz (x:Int) (h:0<x):0<wt x:=by unfold wt;rw[if_pos h];exact Nat.pow_pos dD
theorem vd (xs:List Int):bN xs<=32768*xs.length:=by
 induction xs with
 | nil=>simp[bN]
 | cons x xs ih=>have:=Hy x;simp only[bN,List.length_cons];omega
def gt (xs:List Int):Bool:=xs.any fun x=>decide (0<x)
theorem tN (xs:List Int) (x:Int):gt (xs++[x])=(gt xs || decide (0<x)):=by simp[gt]
theorem yg (xs:List Int):bN xs=0↔gt xs=false:=by
 induction xs with
 | nil=>simp[bN,gt]
 | cons x xs ih =>
  simp only[bN,gt,List.any_cons,Bool.or_eq_false_iff,decide_eq_false_iff_not] at *;rw[<-ih];by_cases h:0<x
  ·have:=Hz x h;constructor
   ·intro a;omega
   ·intro a;exact absurd h a.1
  ·have:wt x=0:=(by unfold wt;rw[if_neg h]);rw[this];constructor
   ·intro a;exact ⟨h,oM⟩
   ·intro a;omega
def aU (xs:List Int):Int :=
 if 1<=xs.length/\xs.length<=17 then (if fd xs=true then (if bN xs=0\/32768<bN xs then 1 else 0) else 3) else 2
theorem fW {xs:List Int} (h:aU xs=0):1<=xs.length/\xs.length<=17/\fd xs=true/\0<bN xs/\bN xs<=32768:=by
 unfold aU at h;by_cases a:1<=xs.length/\xs.length<=17
 ·rw[if_pos a] at h;by_cases b:fd xs=true
  ·rw[if_pos b] at h;by_cases c:bN xs=0\/32768<bN xs
   ·rw[if_pos c] at h;exact absurd h dD
   ·exact ⟨a.1,a.2,b,oM,oM⟩
  ·rw[if_neg b] at h;exact absurd h dD
 ·rw[if_neg a] at h;exact absurd h dD
def jn (xs:List Int) (s:Int):Nat:=(xs.filter fun x=>decide (x=s)).length
def aj (xs:List Int) (s:Int) (k:Nat):Nat:=jn (xs.take k) s
theorem zQ (xs:List Int) (s:Int):aj xs s 0=0:=rfl
theorem mM (xs:List Int) (s:Int) (k:Nat) (h:k<xs.length):aj xs s (k+1)=aj xs s k+if xs[k]=s then 1 else 0:=by
 unfold aj jn;rw[kd h,List.filter_append,xa];by_cases e:xs[k]=s<;>simp[e]
theorem uk (xs:List Int) (s:Int):aj xs s xs.length=jn xs s:=by unfold aj;rw[List.take_length]
theorem cnt_le (xs:List Int) (s:Int) (k:Nat):aj xs s k<=jn xs s:=by
 unfold aj jn;exact (List.Sublist.filter _ (List.take_sublist k xs)).length_le
def low:List Int->Nat->Nat
 | [],_=>0
 | x::xs,t=>(if x<=t then wt x else 0)+low xs t
theorem Cl (xs:List Int) (t:Nat):low xs t<=bN xs:=by
 induction xs with
 | nil=>exact ka _
 | cons x xs ih=>simp only[low,bN];split<;>omega
theorem Cn (xs:List Int):low xs 0=0:=by
 induction xs with
 | nil=>rfl
 | cons x xs ih =>
  simp only[low,ih];split
  ·rename_i h;have:wt x=0:=(by unfold wt;rw[if_neg oM]);omega
  ·rfl
theorem pM (xs:List Int) (t:Nat) (_ht:t<=14):low xs (t+1)=low xs t+jn xs ((t:Int)+1)*2 ^ (14-t):=by
 induction xs with
 | nil=>simp[low,jn]
 | cons x xs ih =>
  simp only[low,jn,List.filter_cons] at *;rw[ih];by_cases h:x=(t:Int)+1
  ·subst h;have b:wt ((t:Int)+1)=2 ^ (14-t):=by
    unfold wt;rw[if_pos oM,show 15-((t:Int)+1).toNat=14-t from oM]
   rw[if_pos oM,if_neg oM,b];simp only[decide_true,if_true,List.length_cons];rw[kv];omega
  ·have e:(if x<=((t+1:Nat):Int) then wt x else 0)=(if x<=(t:Int) then wt x else 0):=by
    by_cases a:x<=(t:Int)
    ·rw[if_pos a,if_pos oM]
    ·rw[if_neg a,if_neg oM]
   rw[e];simp only[h,decide_false];simp only[Bool.false_eq_true,if_false];omega
def base (xs:List Int):Nat->Nat
 | 0=>0
 | t+1=>2*(base xs t+jn xs ((t:Int)+1))
theorem qN (xs:List Int) (t:Nat) (d:t<=14):base xs t*2 ^ (14-t)=low xs t:=by
 induction t with
 | zero=>rw[Cn];simp[base]
 | succ t b =>
  have b:=b oM;rw[base,pM xs t oM,<-b,show 14-t=(14-(t+1))+1 from oM,Nat.pow_succ];generalize 2 ^ (14-(t+1))=p;generalize base xs t=a;generalize jn xs ((t:Int)+1)=c;rw[kw 2,Nat.mul_assoc,kw 2 p,Nat.add_mul]
def bF (xs:List Int) (t k:Nat):Nat:=base xs t+aj xs ((t:Int)+1) k
theorem vW (xs:List Int) (t:Nat):bF xs t 0=base xs t:=by rw[bF,zQ,Nat.add_zero]
theorem vV (xs:List Int) (t:Nat):base xs (t+1)=2*bF xs t xs.length:=by rw[bF,uk];rfl
theorem r9 (xs:List Int) (t k:Nat) (a:t<=14) (g:bN xs<=32768):bF xs t k<=2 ^ (t+1):=by
 have b:=qN xs t a;have e:=pM xs t a;have f:=Cl xs (t+1);have c:=cnt_le xs ((t:Int)+1) k;have d:bF xs t k*2 ^ (14-t)<=2 ^ (t+1)*2 ^ (14-t):=by
  rw[<-Nat.pow_add,show t+1+(14-t)=15 from oM,bF,Nat.add_mul,b];have:=kh (2 ^ (14-t)) c;omega
 exact Nat.le_of_mul_le_mul_right d (Nat.pow_pos dD)
theorem pW (xs:List Int) (t k:Nat) (d:t<=14) (c:bN xs<=32768) (b:k<xs.length) (a:xs[k]=(t:Int)+1):bF xs t k<2 ^ (t+1):=by
 have h:=r9 xs t (k+1) d c;rw[bF,mM xs _ k b,if_pos a] at h;rw[bF];omega
def d8 (xs:List Int) (i:Nat):List UInt8 :=
 if 1<=xs.getD i 0 then aL (bF xs ((xs.getD i 0).toNat-1) i) (xs.getD i 0).toNat else []
def aJ (xs:List Int):List (List UInt8):=(zo xs.length).map (d8 xs)
theorem eY (xs:List Int):(aJ xs).length=xs.length:=by simp[aJ]
theorem yw (xs:List Int) (i:Nat) (h:i<xs.length):(aJ xs)[i]'(by rw[eY];exact h)=d8 xs i:=by simp[aJ]
def g8 (xs:List Int) (t k i:Nat):Bool:=decide (1<=xs.getD i 0/\(xs.getD i 0<=t\/(xs.getD i 0=(t:Int)+1/\i<k)))
def cA (xs:List Int) (t k i:Nat):List UInt8:=if g8 xs t k i=true then d8 xs i else []
def eW (n:Nat) (f:Nat->List UInt8):List Value:=(zo n).map fun i=>Value.string (lh (f i))
theorem nB (n:Nat) (f:Nat->List UInt8):(eW n f).length=n:=by simp[eW]
theorem my (n:Nat) (f:Nat->List UInt8) (i:Nat) (h:i<n):(eW n f)[i]?=some (.string (lh (f i))):=by simp[eW,h]
theorem nA (n:Nat) (f g:Nat->List UInt8) (h:∀i,i<n->f i=g i):eW n f=eW n g:=by
 unfold eW;apply List.map_congr_left;intro i a;rw[h i (by simpa using a)]
theorem yc (n:Nat) (f g:Nat->List UInt8) (k:Nat) (v:List UInt8) (b:g k=v) (c:∀i,i<n->i≠k->g i=f i):(eW n f).set k (.string (lh v))=eW n g:=by
 apply List.ext_getElem?;intro j;rw[List.getElem?_set];by_cases a:j<n
 ·rw[my n g j a];by_cases e:k=j
  ·subst e;rw[if_pos rfl,nB,if_pos a,b]
  ·rw[if_neg e,my n f j a,c j a (fun h=>e h.symm)]
 ·rw[List.getElem?_eq_none (by rw[nB];omega),List.getElem?_eq_none (by rw[nB];omega),nB];by_cases e:k=j
  ·subst e;rw[if_pos rfl,if_neg a]
  ·rw[if_neg e]
theorem G9 (xs:List Int) (i:Nat):cA xs 0 0 i=[]:=by
 unfold cA;rw[if_neg];simp only[g8,decide_eq_true_eq];omega
theorem yq (xs:List Int) (t k i:Nat) (b:k<xs.length) (h:xs[k]≠(t:Int)+1):cA xs t (k+1) i=cA xs t k i:=by
 unfold cA;have c:xs.getD k 0=xs[k]:=by simp[List.getD,kb b]
 have e:g8 xs t (k+1) i=g8 xs t k i:=by
  unfold g8;apply decide_eq_decide.2;by_cases a:i=k
  ·subst a;omega
  ·omega
 rw[e]
theorem yp (xs:List Int) (t k i:Nat) (a:i≠k):cA xs t (k+1) i=cA xs t k i:=by
 unfold cA;have e:g8 xs t (k+1) i=g8 xs t k i:=by
  unfold g8;apply decide_eq_decide.2;omega
 rw[e]
theorem yr (xs:List Int) (t k:Nat) (b:k<xs.length) (h:xs[k]=(t:Int)+1):cA xs t (k+1) k=aL (bF xs t k) (t+1):=by
 have a:xs.getD k 0=xs[k]:=by simp[List.getD,kb b]
 unfold cA;rw[if_pos (by simp only[g8,decide_eq_true_eq];omega),d8,if_pos oM,a,h];simp
theorem yt (xs:List Int) (t i:Nat) (a:i<xs.length):cA xs (t+1) 0 i=cA xs t xs.length i:=by
 unfold cA;have e:g8 xs (t+1) 0 i=g8 xs t xs.length i:=by
  unfold g8;apply decide_eq_decide.2;omega
 rw[e]
theorem yo (xs:List Int) (i:Nat) (a:i<xs.length) (c:fd xs=true):cA xs 15 0 i=d8 xs i:=by
 have d:xs.getD i 0=xs[i]:=by simp[List.getD,kb a]
 have h:=pG c i a;unfold cA;by_cases b:1<=xs.getD i 0
 ·rw[if_pos (by simp only[g8,decide_eq_true_eq];omega)]
 ·rw[if_neg (by simp only[g8,decide_eq_true_eq];omega),d8,if_neg b]
def dd (ts:List (List UInt8)) (n:Int):List UInt8:=if 0<=n/\n<ts.length then ts.getD n.toNat [] else []
def jI (ts:List (List UInt8)) (n:Int):Int:=if dd ts n=[] then 4 else 0
theorem yv (xs:List Int) (c:fd xs=true) (i:Nat):(d8 xs i).length<=15:=by
 unfold d8;split
 ·rename_i h;rw[dW];by_cases a:i<xs.length
  ·have d:=pG c i a;have b:xs.getD i 0=xs[i]:=(by simp[List.getD,kb a]);omega
  ·have b:xs.getD i 0=0:=(by simp[List.getD,List.getElem?_eq_none (show xs.length<=i from oM)]);omega
 ·simp
theorem tj (xs:List Int) (b:fd xs=true) (n:Int):(dd (aJ xs) n).length<=15:=by
 unfold dd;split
 ·rename_i h;have a:n.toNat<xs.length:=by rw[eY] at h;omega
  have:(aJ xs).getD n.toNat []=d8 xs n.toNat:=by simp[List.getD,aJ,a]
  rw[this];exact yv xs b _
 ·simp
theorem De (n a b:Nat):aL n (a+b)=aL (n / 2 ^ b) a++aL n b:=by
 induction b generalizing n with
 | zero=>simp[aL]
 | succ b ih =>
  rw[show a+(b+1)=(a+b)+1 from oM,aL,ih (n / 2),aL,xc,Nat.div_div_eq_div_mul,Nat.pow_succ,kw 2]
theorem Db {x y a:Nat} (c:x<2 ^ a) (d:y<2 ^ a) (h:aL x a=aL y a):x=y:=by
 have b:=qC x a c;rw[h,qC y a d] at b;exact b.symm
theorem Dd {x y a b:Nat} (i:x<2 ^ a) (j:y<2 ^ b) (h:aL x a <+: aL y b):a<=b/\y / 2 ^ (b-a)=x:=by
 have f:=h.length_le;rw[dW,dW] at f;refine ⟨f,?_⟩;have e:b=a+(b-a):=oM;have g:aL y b=aL (y / 2 ^ (b-a)) a++aL y (b-a):=by
  have:=De y a (b-a);rw[<-e] at this;exact this
 have c:(aL y b).take a=aL x a:=by
  have d:=List.prefix_iff_eq_take.1 h;rw[dW] at d;exact d.symm
 rw[g,List.take_append_of_le_length (by rw[dW];exact ka _),km (by rw[dW];exact ka _)] at c;refine Db ?_ i c;rw[Nat.div_lt_iff_lt_mul (Nat.pow_pos dD),<-Nat.pow_add,<-e];exact j
theorem Cm (xs:List Int) (t d:Nat) (h:t+d<=15):low xs t<=low xs (t+d):=by
 induction d with
 | zero=>exact ka _
 | succ d ih =>
  have:=pM xs (t+d) oM;have:=ih oM;rw[show t+(d+1)=t+d+1 from oM];omega
theorem qW (xs:List Int) (s:Int) (i j:Nat) (e:i<j) (b:i<xs.length) (a:xs[i]=s):aj xs s i+1<=aj xs s j:=by
 have c:aj xs s (i+1)=aj xs s i+1:=by rw[mM xs s i b,if_pos a]
 have d:aj xs s (i+1)<=aj xs s j:=by
  unfold aj jn;exact (List.Sublist.filter _ (List.take_sublist_take_left oM)).length_le
 omega
theorem Ef (xs:List Int) (x:aU xs=0) (i j:Nat) (b:i<xs.length) (f:j<xs.length) (z:i≠j) (q:d8 xs i≠[]):¬d8 xs i <+: d8 xs j:=by
 obtain ⟨_,_,o,_,p⟩:=fW x;intro g;have m:xs.getD i 0=xs[i]:=by simp[List.getD,kb b]
 have n:xs.getD j 0=xs[j]:=by simp[List.getD,kb f]
 have oi:=pG o i b;have oj:=pG o j f;have v:1<=xs[i]:=by
  rw[<-m];refine Decidable.byContradiction fun h=>q ?_;rw[d8,if_neg h]
 have w:1<=xs[j]:=by
  rw[<-n];refine Decidable.byContradiction fun h=>q ?_;have e:d8 xs j=[]:=by rw[d8,if_neg h]
  rw[e] at g;exact List.prefix_nil.1 g
 obtain ⟨a,d⟩:∃a:Nat,xs[i]=(a:Int)+1:=⟨(xs[i]-1).toNat,oM⟩;obtain ⟨c,k⟩:∃c:Nat,xs[j]=(c:Int)+1:=⟨(xs[j]-1).toNat,oM⟩;have t:d8 xs i=aL (bF xs a i) (a+1):=by
  rw[d8,m,if_pos v,d,show ((a:Int)+1).toNat=a+1 from oM,show a+1-1=a from oM]
 have u:d8 xs j=aL (bF xs c j) (c+1):=by
  rw[d8,n,if_pos w,k,show ((c:Int)+1).toNat=c+1 from oM,show c+1-1=c from oM]
 rw[t,u] at g;obtain ⟨E,l⟩:=Dd (pW xs a i oM p b d) (pW xs c j oM p f k) g;by_cases y:a=c
 ·subst y;rw[Nat.sub_self,Nat.pow_zero,Nat.div_one,bF,bF] at l;rcases Nat.lt_or_gt_of_ne z with h|h
  ·have:=qW xs _ i j h b d;omega
  ·have:=qW xs _ j i h f k;omega
 ·have F:a<c:=oM;have r:=qN xs a oM;have s:=qN xs c oM;have B:=pM xs a oM;have C:=Cm xs (a+1) (c-(a+1)) oM;rw[show a+1+(c-(a+1))=c from oM] at C;have A:=qW xs _ i xs.length b b d;rw[uk] at A;have H:(bF xs a i+1)*2 ^ (14-a)<=low xs (a+1):=by
   rw[B,bF,<-r,<-Nat.add_mul];exact kh _ oM
  have I:low xs c<=bF xs c j*2 ^ (14-c):=by
   rw[<-s,bF];exact kh _ oM
  have D:bF xs c j<(bF xs a i+1)*2 ^ (c-a):=by
   rw[show c+1-(a+1)=c-a from oM] at l;have:=Nat.lt_mul_div_succ (bF xs c j) (show 0<2 ^ (c-a) from Nat.pow_pos dD);rw[l,kw] at this;exact this
  have K:bF xs c j*2 ^ (14-c)<(bF xs a i+1)*2 ^ (14-a):=by
   have:=Nat.mul_lt_mul_of_pos_right D (show 0<2 ^ (14-c) from Nat.pow_pos dD);rw[Nat.mul_assoc,<-Nat.pow_add,show c-a+(14-c)=14-a from oM] at this;exact this
  omega
def PF (ts:List (List UInt8)):Prop:=∀i j,i<ts.length->j<ts.length->i≠j->ts.getD i []≠[]->¬ts.getD i [] <+: ts.getD j []
theorem tl (xs:List Int) (d:aU xs=0):PF (aJ xs):=by
 intro i j a b g c;rw[eY] at a b;have e:∀k,k<xs.length->(aJ xs).getD k []=d8 xs k:=fun k f=>by simp[List.getD,aJ,f]
 rw[e i a] at c |-;rw[e j b];exact Ef xs d i j a b g c
def fM (f:List UInt8->Option (Int×Bool)) (k:List UInt8) (p:Int×Bool):List UInt8->Option (Int×Bool):=fun a=>if a=k then some p else f a
def kq (f:List UInt8->Option (Int×Bool)) (a:List UInt8):Nat->List UInt8->Option (Int×Bool)
 | 0=>f
 | j+1=>fM (kq f a j) (a.take (j+1)) (0,false)
def kT (f:List UInt8->Option (Int×Bool)) (i:Nat) (a:List UInt8):List UInt8->Option (Int×Bool):=if a=[] then f else fM (kq f a (a.length-1)) a (i,true)
def cd (ts:List (List UInt8)):Nat->List UInt8->Option (Int×Bool)
 | 0=>fun _=>none
 | i+1=>kT (cd ts i) i (ts.getD i [])
theorem Ee (f:List UInt8->Option (Int×Bool)) (b a:List UInt8) (j:Nat) (d:1<=a.length) (g:a.length<=j) (h:a <+: b):kq f b j a=some (0,false):=by
 have c:b.take a.length=a:=(List.prefix_iff_eq_take.1 h).symm
 induction j with
 | zero=>omega
 | succ j ih =>
  rw[kq,fM];by_cases e:a=b.take (j+1)
  ·rw[if_pos e]
  ·rw[if_neg e];refine ih ?_;refine Decidable.byContradiction fun i=>e ?_;have:a.length=j+1:=oM;rw[<-this,c]
theorem ss (f:List UInt8->Option (Int×Bool)) (b a:List UInt8) (j:Nat) (h:¬(1<=a.length/\a <+: b)) (c:b≠[]):kq f b j a=f a:=by
 induction j with
 | zero=>rfl
 | succ j ih =>
  rw[kq,fM,if_neg,ih];intro e;refine h ⟨?_,by rw[e];exact List.take_prefix _ _⟩;rw[e,xe];have:b.length≠0:=fun h=>c (ko h);omega
theorem zj (ts:List (List UInt8)) (c:PF ts) (m:Nat) (f:m<=ts.length) (i:Nat) (d:i<m) (b:ts.getD i []≠[]):cd ts m (ts.getD i [])=some ((i:Int),true):=by
 induction m with
 | zero=>omega
 | succ m ih =>
  rw[cd,kT];by_cases e:i=m
  ·subst e;rw[if_neg b,fM,if_pos rfl]
  ·split
   ·exact ih oM oM
   ·rename_i hmw;have a:=c i m oM oM e b;rw[fM,if_neg (fun h=>a (by rw[h];exact List.prefix_rfl)),ss _ _ _ _ (fun h=>a h.2) hmw];exact ih oM oM
theorem qT (ts:List (List UInt8)) (m:Nat) (r:m<=ts.length) (a:List UInt8) (c:a≠[]) (e:∀i,i<m->ts.getD i []≠a) (j:∃i,i<m/\a <+: ts.getD i []):cd ts m a=some (0,false):=by
 have o:1<=a.length:=by
  have:a.length≠0:=fun h=>c (ko h);omega
 induction m with
 | zero=>obtain ⟨i,n,_⟩:=j;omega
 | succ m ih =>
  obtain ⟨i,n,g⟩:=j;rw[cd,kT];by_cases b:a <+: ts.getD m []
  ·have d:ts.getD m []≠[]:=fun h=>c (by rw[h] at b;exact List.prefix_nil.1 b);have f:=e m oM;rw[if_neg d,fM,if_neg (fun h=>f h.symm)];refine Ee _ _ _ _ o ?_ b;have q:=b.length_le;have:a.length≠(ts.getD m []).length:=fun h=>f (b.eq_of_length h).symm;omega
  ·have p:i≠m:=fun h=>b (by rw[<-h];exact g);have l:=ih oM (fun k c=>e k oM) ⟨i,oM,g⟩;split
   ·exact l
   ·rename_i d;rw[fM,if_neg (fun h=>e m oM h.symm),ss _ _ _ _ (fun h=>b h.2) d];exact l
theorem t8 (ts:List (List UInt8)) (m:Nat) (c:List UInt8) (a:∀i,i<m->¬c <+: ts.getD i []):cd ts m c=none:=by
 induction m with
 | zero=>rfl
 | succ m ih =>
  have b:=ih (fun k d=>a k oM);rw[cd,kT];split
  ·exact b
  ·rename_i hmw;rw[fM,if_neg (fun h=>a m oM (by rw[h];exact List.prefix_rfl)),ss _ _ _ _ (fun h=>a m oM h.2) hmw];exact b
def aQ (f:List UInt8->Option (Int×Bool)):List UInt8->List UInt8->Int×Int×Nat
 | _,[]=>(0,5,0)
 | pre,c::rest =>
  match f (pre++[c]) with
  | none=>(0,4,1)
  | some (n,true)=>(n,0,1)
  | some (_,false)=>((aQ f (pre++[c]) rest).1,(aQ f (pre++[c]) rest).2.1,(aQ f (pre++[c]) rest).2.2+1)
theorem vG (ts:List (List UInt8)) (l:PF ts) (i:Nat) (f:i<ts.length) (q:ts.getD i []≠[]) (rest:List UInt8):∀a,ts.getD i [] <+: a++rest->a.length<(ts.getD i []).length->aQ (cd ts ts.length) a rest=((i:Int),0,(ts.getD i []).length-a.length):=by
 induction rest with
 | nil=>intro a b o;have:=b.length_le;rw[List.append_nil] at this;omega
 | cons c rest ih =>
  intro a b o;have g:a++[c] <+: ts.getD i []:=by
   refine List.prefix_of_prefix_length_le (l₃:=a++c::rest) ⟨rest,sS⟩ b ?_;rw[xa,List.length_singleton];omega
  rw[aQ];by_cases d:a.length+1=(ts.getD i []).length
  ·have e:a++[c]=ts.getD i []:=g.eq_of_length (by rw[xa,List.length_singleton];exact d);rw[e,zj ts l ts.length (ka _) i f q];simp only[];congr 2;omega
  ·have p:∀k,k<ts.length->ts.getD k []≠a++[c]:=by
    intro k m e;have n:ts.getD k []≠[]:=(by rw[e];simp);by_cases j:k=i
    ·subst j;rw[e,xa,List.length_singleton] at d;exact d rfl
    ·exact l k i m f j n (by rw[e];exact g)
   rw[qT ts ts.length (ka _) (a++[c]) sS p ⟨i,f,g⟩];have h:=ih (a++[c]) (by rw[xc];exact b) (by rw[xa,List.length_singleton];omega);simp only[h];congr 2;rw[xa,List.length_singleton];omega
theorem C4 (ts:List (List UInt8)) (rest:List UInt8):∀a,(∀i,i<ts.length->ts.getD i []≠[]->¬ts.getD i [] <+: a++rest)->(∃i,i<ts.length/\a++rest <+: ts.getD i [])->aQ (cd ts ts.length) a rest=(0,5,rest.length):=by
 induction rest with
 | nil=>intro a _ _;rfl
 | cons c rest ih =>
  intro a f l;obtain ⟨i,b,g⟩:=l;have d:a++[c] <+: a++c::rest:=⟨rest,sS⟩;rw[aQ,qT ts ts.length (ka _) (a++[c]) sS (fun k j e=>f k j (by rw[e];simp) (by rw[e];exact d)) ⟨i,b,d.trans g⟩];have h:=ih (a++[c]) (by rw[xc];exact f) ⟨i,b,by rw[xc];exact g⟩;simp only[h];rfl
theorem C3 (ts:List (List UInt8)) (rest:List UInt8):∀a,(∀i,i<ts.length->ts.getD i []≠[]->¬ts.getD i [] <+: a++rest)->(∀i,i<ts.length->ts.getD i []≠[]->¬a++rest <+: ts.getD i [])->(∃i,i<ts.length/\ts.getD i []≠[]/\a <+: ts.getD i []) ->
  (aQ (cd ts ts.length) a rest).1=0/\(aQ (cd ts ts.length) a rest).2.1=4:=by
 induction rest with
 | nil =>
  intro a _ f o;obtain ⟨i,b,n,d⟩:=o;exact absurd (by rw[List.append_nil];exact d) (f i b n)
 | cons c rest ih =>
  intro a f m _;have l:a++[c] <+: a++c::rest:=⟨rest,sS⟩;rw[aQ];by_cases g:∃i,i<ts.length/\a++[c] <+: ts.getD i []
  ·obtain ⟨i,b,d⟩:=g;rw[qT ts ts.length (ka _) (a++[c]) sS (fun k j e=>f k j (by rw[e];simp) (by rw[e];exact l)) ⟨i,b,d⟩];exact ih (a++[c]) (by rw[xc];exact f) (by rw[xc];exact m) ⟨i,b,fun h=>by rw[h] at d;have:=List.prefix_nil.1 d;simp at this,d⟩
  ·rw[t8 ts ts.length (a++[c]) (fun i b h=>g ⟨i,b,h⟩)];exact ⟨rfl,rfl⟩
def aM (n:Int):Bool:=decide (1<=n/\n<=64)
def mu (v:Int):Bool:=decide (0<=v/\v<=65535)
def fo (zs:List Int):Bool:=zs.all mu
def a7 (W H:Int) (zs:List Int):Bool:=aM W && aM H && decide ((zs.length:Int)=W*H) && fo zs
def eC (k:Int):Bool:=decide (1<=k/\k<=7)
theorem xD {zs:List Int} (h:fo zs=true) (k:Nat) (a:k<zs.length):0<=zs[k]/\zs[k]<=65535:=by
 have:=zc.1 h _ (zO a);simpa [mu] using this
theorem jD {zs:List Int} (h:fo zs=true) (k:Nat):0<=zs.getD k 0/\zs.getD k 0<=65535:=by
 by_cases a:k<zs.length
 ·rw[show zs.getD k 0=zs[k] by simp[List.getD,a]];exact xD h k a
 ·rw[show zs.getD k 0=0 by simp[List.getD,a]];omega
theorem xE (zs:List Int) (x:Int):fo (zs++[x])=(fo zs && mu x):=by simp[fo]
theorem FD (zs:List Int) (k:Nat) (b:k<zs.length) (h:mu zs[k]=false):fo zs=false:=by
 rw[Bool.eq_false_iff];intro a;have:=zc.1 a _ (zO b);rw[h] at this;cases this
theorem eT {W H:Int} {zs:List Int} (h:a7 W H zs=true):(1<=W/\W<=64)/\(1<=H/\H<=64)/\(zs.length:Int)=W*H/\fo zs=true:=by
 simp only[a7,aM,kG,decide_eq_true_eq] at h;exact ⟨h.1.1.1,h.1.1.2,h.1.2,h.2⟩
theorem fq {W H:Int} (c:1<=W/\W<=64) (d:1<=H/\H<=64):1<=W*H/\W*H<=4096:=by
 have a:=Int.mul_le_mul c.2 d.2 oM oM;have b:=Int.mul_le_mul c.1 d.1 oM oM;omega
def ei (kind a b c:Int):Int :=
 if kind=1 then a else if kind=2 then b else if kind=3 then c else if kind=4 then a+b-c else if kind=5 then a+(b-c) / 2 else if kind=6 then b+(a-c) / 2 else (a+b) / 2
def bj (zs:List Int) (W:Nat) (kind:Int) (k:Nat):Int :=
 if k % W=0/\k / W=0 then 32768 else if k / W=0 then zs.getD (k-1) 0 else if k % W=0 then zs.getD (k-W) 0 else ei kind (zs.getD (k-1) 0) (zs.getD (k-W) 0) (zs.getD (k-W-1) 0)
theorem BQ (kind a b c:Int) (d:0<=a/\a<=65535) (e:0<=b/\b<=65535) (f:0<=c/\c<=65535):-65536<=ei kind a b c/\ei kind a b c<=131070:=by
 unfold ei
 repeat' split
 all_goals omega
theorem pl (zs:List Int) (W:Nat) (kind:Int) (k:Nat) (h:fo zs=true):-65536<=bj zs W kind k/\bj zs W kind k<=131070:=by
 have a:=jD h (k-1);have b:=jD h (k-W);have c:=jD h (k-W-1);have d:=BQ kind _ _ _ a b c;unfold bj
 repeat' split
 all_goals omega
theorem pk {zs a:List Int} {W:Nat} {kind:Int} {k:Nat} (c:1<=W) (h:∀j,j<k->zs.getD j 0=a.getD j 0):bj zs W kind k=bj a W kind k:=by
 unfold bj;by_cases b:k=0
 ·subst b;simp
 ·rw[h (k-1) oM,h (k-W) oM,h (k-W-1) oM]
def eS (s g:Int):Int:=if 32768<(s-g) % 65536 then (s-g) % 65536-65536 else (s-g) % 65536
theorem oY (s g:Int):-32768<eS s g/\eS s g<=32768:=by unfold eS;split<;>omega
theorem Ax (s g:Int) (a:0<=s) (b:s<=65535):(g+eS s g) % 65536=s:=by unfold eS;split<;>omega
theorem Ay (d g:Int) (a:-32768<d) (b:d<=32768):eS ((g+d) % 65536) g=d:=by unfold eS;split<;>omega
def dm (n:Nat):Nat:=if n=0 then 0 else n.log2+1
theorem qS (n:Nat):n<2 ^ dm n:=by
 unfold dm;split
 ·subst_vars;decide
 ·exact Nat.lt_log2_self
theorem tX (n:Nat) (h:n≠0):2 ^ (dm n-1)<=n:=by
 unfold dm;rw[if_neg h,Nat.add_sub_cancel];exact Nat.log2_self_le h
theorem nL {n k:Nat} (h:n<2 ^ k):dm n<=k:=by
 unfold dm;split
 ·omega
 ·rename_i h0;exact (Nat.log2_lt h0).2 h
theorem tY {n k:Nat} (h:2 ^ k<=n):k<dm n:=by
 refine Decidable.byContradiction fun c=>?_;have a:=qS n;have b:=Nat.pow_le_pow_right (n:=2) dD (show dm n<=k from oM);omega
theorem zh {n k:Nat} (a:2 ^ k<=n) (b:n<2 ^ (k+1)):dm n=k+1:=by
 have:=tY a;have:=nL b;omega
def br (d:Int):Nat:=dm d.natAbs
theorem mL {d:Int} (a:-32768<d) (b:d<=32768):br d<=16:=nL oM
theorem zP {d:Int} (b:-32768<d) (c:d<=32768) (h:br d=16):d=32768:=by
 have a:d.natAbs≠0:=fun e=>by rw[br,e] at h;simp[dm] at h
 have:=tX d.natAbs a;rw[show dm d.natAbs=16 from h] at this;omega
theorem Ib {d:Int} (h:br d=0):d=0:=by
 have:=qS d.natAbs;rw[show dm d.natAbs=0 from h] at this;omega
theorem nN:br 32768=16:=dD
def iy (d:Int):Nat:=(if d<0 then d+2 ^ br d-1 else d).toNat
def cQ (d:Int):List UInt8:=if br d=0\/br d=16 then [] else aL (iy d) (br d)
def eO (ts:List (List UInt8)) (d:Int):List UInt8:=dd ts (br d)++cQ d
def fU (c v:Nat):Int:=if v<2 ^ c / 2 then (v:Int)-(2 ^ c-1) else v
theorem uj (d:Int) (h:br d≠0):∃c,br d=c+1/\2 ^ c<=d.natAbs/\d.natAbs<2*2 ^ c/\(2:Int) ^ br d=((2*2 ^ c:Nat):Int):=by
 have f:d.natAbs≠0:=fun e=>h (by rw[br,e];rfl);have b:=tX _ f;have g:=qS d.natAbs;obtain ⟨c,a⟩:∃c,dm d.natAbs=c+1:=⟨dm d.natAbs-1,by unfold br at h;omega⟩;rw[a,Nat.add_sub_cancel] at b;rw[a,Nat.pow_succ] at g;refine ⟨c,a,b,oM,?_⟩;rw[show br d=c+1 from a,fL,Nat.pow_succ,kw]
theorem ta (c v:Nat):fU (c+1) v=if v<2 ^ c then (v:Int)-(2*((2 ^ c:Nat):Int)-1) else v:=by
 have a:(2:Nat) ^ (c+1) / 2=2 ^ c:=by rw[Nat.pow_succ];omega
 have b:(2:Int) ^ (c+1)=2*((2 ^ c:Nat):Int):=by rw[fL,Nat.pow_succ,kw,Int.natCast_mul];rfl
 unfold fU;rw[a,b]
theorem sZ (d:Int) (c:Nat) (h:br d=c+1):iy d=(if d<0 then d+2*((2 ^ c:Nat):Int)-1 else d).toNat:=by
 have a:(2:Int) ^ (c+1)=2*((2 ^ c:Nat):Int):=by rw[fL,Nat.pow_succ,kw,Int.natCast_mul];rfl
 rw[iy,h,a]
theorem sY (d:Int) (h:br d≠0):iy d<2 ^ br d/\((iy d:Nat):Int)=if d<0 then d+2 ^ br d-1 else d:=by
 obtain ⟨c,a,f,g,b⟩:=uj d h;have e:(2:Nat) ^ br d=2*2 ^ c:=by rw[a,Nat.pow_succ];omega
 rw[sZ d c a,b,e];generalize (2:Nat) ^ c=p at *;split<;>omega
theorem Gv (d:Int) (h:br d≠0):fU (br d) (iy d)=d:=by
 obtain ⟨c,a,e,f,g⟩:=uj d h;have b:=sZ d c a;rw[a,ta];generalize iy d=t at *;generalize (2:Nat) ^ c=p at *;split<;>split at b<;>omega
theorem Gu (c v:Nat) (b:c<=15) (d:v<2 ^ c):br (fU c v)=c/\-32768<fU c v/\fU c v<=32768/\(c≠0->iy (fU c v)=v):=by
 have e:2 ^ c<=32768:=kc (Nat.pow_le_pow_right dD b) dD;cases c with
 | zero =>
  have:v=0:=by simpa using d
  subst this;exact ⟨dD,dD,dD,fun h=>absurd rfl h⟩
 | succ c =>
  have a:br (fU (c+1) v)=c+1:=by
   refine zh ?_ ?_;all_goals
    rw[ta];rw[Nat.pow_succ] at *;generalize (2:Nat) ^ c=p at *;split<;>omega
  rw[sZ _ c a,a,ta];rw[Nat.pow_succ] at *;clear a;generalize (2:Nat) ^ c=p at *;refine ⟨rfl,?_,?_,fun _=>?_⟩
  ·split<;>omega
  ·split<;>omega
  ·(repeat' split);all_goals omega
theorem sX {d:Int} (a:-32768<d) (b:d<=32768):(cQ d).length<=15:=by
 have:=mL a b;unfold cQ;split
 ·simp
 ·rw[dW];omega
theorem Gt (d:Int):bz (cQ d)=true:=by
 unfold cQ;split
 ·rfl
 ·exact pU _ _
theorem C1 (f:List UInt8->Option (Int×Bool)) (a b:List UInt8) (h:(aQ f a b).2.1=0):1<=(aQ f a b).2.2:=by
 cases b with
 | nil=>simp[aQ] at h
 | cons c b =>
  rw[aQ] at h |-;split
  ·exact ka _
  ·exact ka _
  ·simp
def dN (f:List UInt8->Option (Int×Bool)) (b:List UInt8):Option (Int×Nat) :=
  if (aQ f [] b).2.1=0 then
    (if (aQ f [] b).1=16 then some (32768,(aQ f [] b).2.2)
     else if b.length<(aQ f [] b).2.2+(aQ f [] b).1.toNat then none
     else some (fU (aQ f [] b).1.toNat (bS ((b.drop (aQ f [] b).2.2).take (aQ f [] b).1.toNat)),(aQ f [] b).2.2+(aQ f [] b).1.toNat))
  else none
theorem Ha (ts:List (List UInt8)) (c:Nat) (h:dd ts c≠[]):c<ts.length/\dd ts c=ts.getD c []:=by
 unfold dd at h |-;split at h
 ·rename_i hc;exact ⟨oM,by rw[if_pos hc];simp⟩
 ·exact absurd rfl h
theorem Dl (ts:List (List UInt8)) (q:PF ts) (d:Int) (c:-32768<d) (e:d<=32768) (i:dd ts (br d)≠[]) (rest:List UInt8) :
  dN (cd ts ts.length) (eO ts d++rest)=some (d,(eO ts d).length):=by
 obtain ⟨l,a⟩:=Ha ts _ i;have j:ts.getD (br d) []≠[]:=by rw[<-a];exact i
 have o:0<(ts.getD (br d) []).length:=List.length_pos_iff.2 j;have p:=vG ts q (br d) l j (eO ts d++rest) [] (by rw[List.nil_append,eO,a,xc];exact List.prefix_append _ _) (by simpa using o);rw[dN,p];simp only[List.length_nil,Nat.sub_zero,kf,if_true];have r:=mL c e;by_cases f:br d=16
 ·rw[if_pos oM,zP c e f];rw[eO,nN,show cQ 32768=[] by rw[cQ,if_pos (.inr nN)],List.append_nil,<-f,a]
 ·rw[if_neg oM];have g:(cQ d).length=br d:=by
   unfold cQ;split
   ·rename_i h;simp;omega
   ·rw[dW]
  have k:(eO ts d).length=(ts.getD (br d) []).length+br d:=by rw[eO,xa,a,g]
  rw[if_neg (by rw[xa,k];omega)];have n:((eO ts d++rest).drop (ts.getD (br d) []).length).take (br d)=cQ d:=by
   rw[eO,a,xc,List.drop_left,<-g,List.take_left]
  rw[n,k];by_cases b:br d=0
  ·have m:=Ib b;subst m;rfl
  ·rw[cQ,if_neg oM,qC _ _ (sY d b).1,Gv d b]
theorem rZ (ts:List (List UInt8)) (A:ts.length<=17) (b:List UInt8) (s:bz b=true)
  (u:(aQ (cd ts ts.length) [] b).2.1=0->∃i:Nat,i<ts.length/\(aQ (cd ts ts.length) [] b).1=i/\(aQ (cd ts ts.length) [] b).2.2=(ts.getD i []).length/\ts.getD i [] <+: b)
  (d:Int) (n:Nat) (h:dN (cd ts ts.length) b=some (d,n)) :
  n<=b.length/\b.take n=eO ts d/\-32768<d/\d<=32768/\dd ts (br d)≠[]:=by
 rw[dN] at h;split at h
 ·rename_i he;have c:=C1 _ _ _ he;obtain ⟨i,z,r,g,l⟩:=u he;rw[r,g] at h;rw[g] at c;have p:ts.getD i []≠[]:=fun e=>by rw[e] at c;simp at c
  have a:dd ts (i:Int)=ts.getD i []:=by rw[dd,if_pos oM];simp
  have v:=l.length_le;have m:b.take (ts.getD i []).length=ts.getD i []:=(List.prefix_iff_eq_take.1 l).symm;split at h
  ·rename_i h16;simp only[Option.some.injEq,Prod.mk.injEq] at h;obtain ⟨rfl,rfl⟩:=h;have t:i=16:=oM;subst t;refine ⟨v,?_,dD,dD,?_⟩
   ·rw[m,eO,nN,show cQ 32768=[] by rw[cQ,if_pos (.inr nN)],List.append_nil];exact a.symm
   ·rw[nN];show dd ts ((16:Nat):Int)≠[];rw[a];exact p
  ·rename_i h16;split at h
   ·cases h
   ·rename_i hlen;simp only[Option.some.injEq,Prod.mk.injEq,kf] at h hlen;obtain ⟨rfl,rfl⟩:=h;have k:((b.drop (ts.getD i []).length).take i).length=i:=(by rw[xe,yb];omega);have j:bz ((b.drop (ts.getD i []).length).take i)=true:=jO (iH s _) _;have o:=nC _ j;rw[k] at o;obtain ⟨f,w,x,y⟩:=Gu i _ oM o;refine ⟨oM,?_,w,x,by rw[f,a];exact p⟩;rw[eO,f,a,List.take_add,m];congr 1;rw[cQ,f];by_cases q:i=0
    ·subst q;simp
    ·rw[if_neg oM,y q];have:=vN _ j;rw[k] at this;exact this.symm
 ·cases h
def dp (zs:List Int) (W:Nat) (kind:Int) (i:Nat):Int:=eS (zs.getD i 0) (bj zs W kind i)
def cC (ts:List (List UInt8)) (zs:List Int) (W:Nat) (kind:Int) (n:Nat):List UInt8:=(zo n).flatMap fun i=>eO ts (dp zs W kind i)
def gy (ts:List (List UInt8)) (zs:List Int) (W:Nat) (kind:Int) (n:Nat):Bool:=(zo n).all fun i=>decide (dd ts (br (dp zs W kind i))≠[])
theorem ld (ts:List (List UInt8)) (zs:List Int) (W:Nat) (kind:Int) (n:Nat):cC ts zs W kind (n+1)=cC ts zs W kind n++eO ts (dp zs W kind n):=by simp[cC,List.range_succ]
theorem rg (ts:List (List UInt8)) (zs:List Int) (W:Nat) (kind:Int) (n:Nat):gy ts zs W kind (n+1)=(gy ts zs W kind n && decide (dd ts (br (dp zs W kind n))≠[])):=by simp[gy,List.range_succ]
theorem ut (ts:List (List UInt8)) (zs:List Int) (W:Nat) (kind:Int) (n k:Nat) (b:k<n) (h:dd ts (br (dp zs W kind k))=[]):gy ts zs W kind n=false:=by
 rw[Bool.eq_false_iff];intro a;have:=zc.1 a k (List.mem_range.2 b);simp[h] at this
theorem Ap {ts:List (List UInt8)} {zs:List Int} {W:Nat} {kind:Int} {n:Nat} (h:gy ts zs W kind n=true) (k:Nat) (a:k<n):dd ts (br (dp zs W kind k))≠[]:=by
 have:=zc.1 h k (List.mem_range.2 a);simpa using this
theorem Hp (xs:List Int) (c:fd xs=true) (d:Int) (a:-32768<d) (b:d<=32768):(eO (aJ xs) d).length<=30:=by
 have:=tj xs c (br d);have:=sX a b;rw[eO,xa];omega
theorem oX (xs:List Int) (a:fd xs=true) (zs:List Int) (W:Nat) (kind:Int) (n:Nat):(cC (aJ xs) zs W kind n).length<=30*n:=by
 induction n with
 | zero=>simp[cC]
 | succ n ih =>
  have:=oY (zs.getD n 0) (bj zs W kind n);have:=Hp xs a (dp zs W kind n) this.1 this.2;rw[ld,xa];omega
def dE (f:List UInt8->Option (Int×Bool)) (b:List UInt8) (W:Nat) (kind:Int):Nat->Option (Nat×List Int)
 | 0=>some (0,[])
 | k+1=>match dE f b W kind k with
  | none=>none
  | some (pos,zs)=>match dN f (b.drop pos) with
   | none=>none
   | some (d,n)=>some (pos+n,zs++[(bj zs W kind k+d) % 65536])
theorem xm {f:List UInt8->Option (Int×Bool)} {b:List UInt8} {W:Nat} {kind:Int} {k n:Nat} (a:k<=n) (h:dE f b W kind k=none):dE f b W kind n=none:=by
 induction n with
 | zero =>
  obtain rfl:k=0:=oM;exact h
 | succ n ih =>
  by_cases e:k=n+1
  ·subst e;exact h
  ·rw[dE,ih oM]
theorem nk {f:List UInt8->Option (Int×Bool)} {b:List UInt8} {W:Nat} {kind:Int} {k pos:Nat} {zs:List Int} (h:dE f b W kind k=some (pos,zs)):zs.length=k/\fo zs=true:=by
 induction k generalizing pos zs with
 | zero=>rw[dE] at h;cases h;exact ⟨rfl,rfl⟩
 | succ k ih =>
  rw[dE] at h;split at h
  ·cases h
  ·rename_i p ys hy;split at h
   ·cases h
   ·cases h
    obtain ⟨a,c⟩:=ih hy;refine ⟨by simp[a],?_⟩;rw[xE,c,mu];simp;omega
theorem Br (zs:List Int) (x:Int) (j:Nat) (h:j<zs.length):(zs++[x]).getD j 0=zs.getD j 0:=by
 simp[List.getD,List.getElem?_append_left h]
theorem Ex (ts:List (List UInt8)) (B:ts.length<=17) (b:List UInt8) (x:bz b=true) (W:Nat) (w:1<=W) (kind:Int)
  (A:∀b,(aQ (cd ts ts.length) [] b).2.1=0->∃i:Nat,i<ts.length/\(aQ (cd ts ts.length) [] b).1=i/\(aQ (cd ts ts.length) [] b).2.2=(ts.getD i []).length/\ts.getD i [] <+: b)
  (k pos:Nat) (zs:List Int) (h:dE (cd ts ts.length) b W kind k=some (pos,zs)) :
  pos<=b.length/\b.take pos=cC ts zs W kind k/\gy ts zs W kind k=true:=by
 induction k generalizing pos zs with
 | zero=>rw[dE] at h;cases h;simp[cC,gy]
 | succ k ih =>
  rw[dE] at h;split at h
  ·cases h
  ·rename_i p ys hy;split at h
   ·cases h
   ·rename_i d n hd;cases h
    obtain ⟨C,s,t⟩:=ih p ys hy;obtain ⟨z,_⟩:=nk hy;obtain ⟨l,m,o,q,r⟩:=rZ ts B _ (iH x p) (A _) d n hd;rw[yb] at l;have g:∀j,j<k->(ys++[(bj ys W kind k+d) % 65536]).getD j 0=ys.getD j 0:=fun j y=>Br _ _ _ oM;have f:∀i,i<=k->bj (ys++[(bj ys W kind k+d) % 65536]) W kind i=bj ys W kind i:=fun i a=>pk w fun j y=>g j oM;have c:∀i,i<k->dp (ys++[(bj ys W kind k+d) % 65536]) W kind i=dp ys W kind i:=fun i a=>(by rw[dp,dp,g i a,f i oM]);have e:dp (ys++[(bj ys W kind k+d) % 65536]) W kind k=d:=by
     rw[dp,f k (ka _),show (ys++[(bj ys W kind k+d) % 65536]).getD k 0=(bj ys W kind k+d) % 65536 by simp[List.getD,<-z],Ay d _ o q]
    have v:cC ts (ys++[(bj ys W kind k+d) % 65536]) W kind k=cC ts ys W kind k:=by
     unfold cC;rw[List.flatMap_def,List.flatMap_def];congr 1;refine List.map_congr_left fun i a=>?_;rw[c i (List.mem_range.1 a)]
    have u:gy ts (ys++[(bj ys W kind k+d) % 65536]) W kind k=true:=by
     unfold gy;rw[zc];intro i a;rw[c i (List.mem_range.1 a)];exact zc.1 t i a
    refine ⟨oM,?_,?_⟩
    ·rw[ld,v,e,List.take_add,s,m]
    ·rw[rg,u,e];simpa using r
theorem Ey (ts:List (List UInt8)) (n:PF ts) (zs:List Int) (p:fo zs=true) (W:Nat) (f:1<=W) (kind:Int) (g:gy ts zs W kind zs.length=true) (rest:List UInt8) (k:Nat) (a:k<=zs.length) :
  dE (cd ts ts.length) (cC ts zs W kind zs.length++rest) W kind k=some ((cC ts zs W kind k).length,zs.take k):=by
 have o:∀k,k<=zs.length->∃r,cC ts zs W kind zs.length=cC ts zs W kind k++r:=by
  intro k a;obtain ⟨m,c⟩:∃m,zs.length=k+m:=⟨zs.length-k,oM⟩;rw[c];clear c a
  induction m with
  | zero=>exact ⟨[],sS⟩
  | succ m ih=>obtain ⟨r,b⟩:=ih;exact ⟨r++eO ts (dp zs W kind (k+m)),by rw[show k+(m+1)=(k+m)+1 from oM,ld,b,xc]⟩
 induction k with
 | zero=>simp[dE,cC]
 | succ k ih =>
  rw[dE,ih oM];obtain ⟨r,b⟩:=o (k+1) a;have d:=oY (zs.getD k 0) (bj zs W kind k);have h:(cC ts zs W kind zs.length++rest).drop (cC ts zs W kind k).length=eO ts (dp zs W kind k)++(r++rest):=by
   rw[b,ld,xc,xc,List.drop_left]
  simp only[h];rw[Dl ts n (dp zs W kind k) d.1 d.2 (Ap g k oM)];have i:bj (zs.take k) W kind k=bj zs W kind k:=pk f fun j l=>by simp[List.getD,List.getElem?_take_of_lt l]
  have e:=jD p k;simp only[Option.some.injEq,Prod.mk.injEq];refine ⟨by rw[ld,xa],?_⟩;rw[i,dp,Ax _ _ e.1 e.2,kd oM];simp[List.getD,show k<zs.length from oM]
def jq (l:List UInt8):Bool:=decide (l.length<8) && !dV l
theorem A4 (s:List UInt8) (pos:Nat) (d:pos<=8*s.length):dg ((aF s).take pos)=s↔jq ((aF s).drop pos)=true:=by
 have b:((aF s).drop pos).length=8*s.length-pos:=by rw[yb,ig]
 rw[jq,kG,decide_eq_true_eq,b,Bool.not_eq_true'];constructor
 ·intro h;have c:=congrArg List.length h;rw[oU,xe,ig,Nat.min_eq_left d] at c;refine ⟨oM,?_⟩;have:=(pY s pos 1 oM).1 (by rw[Nat.mul_one];exact h)
  rwa [Nat.mul_one] at this
 ·rintro ⟨e,a⟩;have:=(pY s pos 1 oM).2 (by rw[Nat.mul_one];exact a)
  rwa [Nat.mul_one] at this
def cM (W H:Int) (zs:List Int) (kind:Int) (xs:List Int):Int :=
 if a7 W H zs=true then (if eC kind=true then (if aU xs=0 then (if gy (aJ xs) zs W.toNat kind zs.length=true then 0 else 4) else aU xs) else 6) else 1
def ch (W H:Int) (zs:List Int) (kind:Int) (xs:List Int):List UInt8:=if cM W H zs kind xs=0 then dg (cC (aJ xs) zs W.toNat kind zs.length) else []
end Go.Proofs.YtfjeonehdlphiaaGreatDoor
namespace Go.Proofs.YtfjeonehdlphiaaGreatDoor
abbrev Pt:=Int×Int
def an (a:List Pt) (i:Nat):Pt:=a.getD i (0,0)
theorem i7 (a:List Pt) (i:Nat) (h:i<a.length):a[i]=an a i:=by simp[an,List.getD_eq_getElem?_getD,kb h]
def mo (a:List Pt) (i:Nat):Bool:=decide (0<=(an a i).2/\(an a i).2<=65535)
def jB (a:List Pt) (i:Nat):Bool:=decide (0<i->(an a (i-1)).1<(an a i).1/\(an a (i-1)).2<=(an a i).2)
def ie (a:List Pt) (k:Nat):Bool:=(zo k).all fun i=>mo a i && jB a i
def jp (a:List Pt):Bool:=decide (2<=(a.length:Int)/\(a.length:Int)<=16) && decide ((an a 0).1=0) && decide ((an a (a.length-1)).1=65535)
def cY (a:List Pt):Bool:=jp a && ie a a.length
theorem wS (a:List Pt) (k:Nat):ie a (k+1)=(ie a k && (mo a k && jB a k)):=by simp[ie,List.range_succ]
theorem wR (a:List Pt) (k n:Nat) (h:k<n) (c:(mo a k && jB a k)=false):ie a n=false:=by
 rw[Bool.eq_false_iff];intro b;have:=zc.1 b k (List.mem_range.2 h);rw[c] at this;cases this
theorem sw {a:List Pt} {n:Nat} (h:ie a n=true) (k:Nat) (b:k<n):(0<=(an a k).2/\(an a k).2<=65535)/\(0<k->(an a (k-1)).1<(an a k).1/\(an a (k-1)).2<=(an a k).2):=by
 have:=zc.1 h k (List.mem_range.2 b);rw[kG] at this;exact ⟨of_decide_eq_true this.1,of_decide_eq_true this.2⟩
structure gQ (ls:List Pt):Prop where
 two:2<=ls.length
 most:ls.length<=16
 first:(an ls 0).1=0
 last:(an ls (ls.length-1)).1=65535
 y:∀k,k<ls.length->0<=(an ls k).2/\(an ls k).2<=65535
 step:∀k,k+1<ls.length->(an ls k).1<(an ls (k+1)).1/\(an ls k).2<=(an ls (k+1)).2
theorem nY {d:List Pt} (h:cY d=true):gQ d:=by
 rw[cY,jp,kG,kG,kG] at h;obtain ⟨⟨⟨b,e⟩,f⟩,c⟩:=h;have b:=of_decide_eq_true b;exact ⟨oM,oM,of_decide_eq_true e,of_decide_eq_true f,fun k a=>(sw c k a).1,fun k a=>(sw c (k+1) a).2 oM⟩
theorem gQ.lt {a:List Pt} (h:gQ a) (i d:Nat) (b:i+d+1<a.length):(an a i).1<(an a (i+d+1)).1/\(an a i).2<=(an a (i+d+1)).2:=by
 induction d with
 | zero=>exact h.step i b
 | succ d ih =>
  have c:=ih oM;have e:=h.step (i+d+1) oM;rw[show i+(d+1)+1=i+d+1+1 from oM];omega
theorem gQ.x {a:List Pt} (h:gQ a) (k:Nat) (f:k<a.length):0<=(an a k).1/\(an a k).1<=65535:=by
 have b:=h.first;have c:=h.last;have d:=h.two;constructor
 ·rcases Nat.eq_zero_or_pos k with rfl|hp
  ·omega
  ·have:=(h.lt 0 (k-1) oM).1;rw[show 0+(k-1)+1=k from oM] at this;omega
 ·rcases Nat.eq_or_lt_of_le (show k<=a.length-1 from oM) with e|g
  ·rw[e];omega
  ·have:=(h.lt k (a.length-1-k-1) oM).1;rw[show k+(a.length-1-k-1)+1=a.length-1 from oM] at this;omega
def gY (a:List Pt) (i:Nat) (x:Int):Int:=(an a (i-1)).2+((an a i).2-(an a (i-1)).2)*(x-(an a (i-1)).1) / ((an a i).1-(an a (i-1)).1)
def mT (a:List Pt) (x:Int) (i:Nat):Prop:=i<a.length/\x<=(an a i).1/\∀j,j<i->(an a j).1<x
def nR (a:List Pt) (x:Int):Nat:=a.findIdx fun p=>decide (x<=p.1)
def cN (a:List Pt) (x:Int):Int:=if (an a (nR a x)).1=x then (an a (nR a x)).2 else gY a (nR a x) x
theorem B3 {a:List Pt} {x:Int} {i:Nat} (h:mT a x i):nR a x=i:=by
 rw[nR,List.findIdx_eq h.1];refine ⟨by rw[i7 a i h.1];simpa using h.2.1,fun j b=>?_⟩;have:=h.2.2 j b;rw[i7 a j (by have:=h.1;omega)];simp;omega
theorem pw {a:List Pt} {x:Int} {i:Nat} (h:mT a x i):cN a x=if (an a i).1=x then (an a i).2 else gY a i x:=by
 rw[cN,B3 h]
theorem tT {a:List Pt} (h:gQ a) (i:Nat) (c:i+1<a.length):gY a (i+1) (an a (i+1)).1=(an a (i+1)).2/\gY a (i+1) (an a i).1=(an a i).2:=by
 have d:=(h.step i c).1;have b:(an a (i+1)).1-(an a i).1≠0:=oM;constructor
 ·rw[gY,Nat.add_sub_cancel,Int.mul_ediv_cancel _ b];omega
 ·rw[gY,Nat.add_sub_cancel,Int.sub_self,Int.mul_zero,Int.zero_ediv];omega
theorem BK {a:List Pt} (h:gQ a) {x:Int} (p:0<=x) {i:Nat} (f:1<=i) (d:i<a.length) (n:x<=(an a i).1) (c:∀j,1<=j->j<i->(an a j).1<x):cN a x=gY a i x:=by
 by_cases o:x=0
 ·subst o;have b:=h.first;have g:i=1:=by
   rcases Nat.eq_or_lt_of_le f with e|m
   ·exact e.symm
   ·have:=c 1 oM m;have:=h.x 1 oM;omega
  subst g;rw[pw (i:=0) ⟨oM,oM,fun j c=>oM⟩,if_pos b];have:=(tT h 0 d).2;rw[b] at this;exact this.symm
 ·have b:=h.first;rw[pw (i:=i) ⟨d,n,fun j l=>by
   rcases Nat.eq_zero_or_pos j with rfl|hp
   ·omega
   ·exact c j hp l⟩]
  split
  ·rename_i e;obtain ⟨k,rfl⟩:∃k,i=k+1:=⟨i-1,oM⟩;rw[<-e,(tT h k d).1]
  ·rfl
theorem qP {c:List Pt} (h:gQ c) (i:Nat) (d:i+1<c.length) (x:Int) (j:(an c i).1<=x) (k:x<=(an c (i+1)).1) :
  0<=((an c (i+1)).2-(an c i).2)*(x-(an c i).1)/\((an c (i+1)).2-(an c i).2)*(x-(an c i).1)<=4294836225/\(an c i).2<=gY c (i+1) x/\gY c (i+1) x<=(an c (i+1)).2:=by
 have o:=h.step i d;have r:=h.y i oM;have s:=h.y (i+1) d;have p:=h.x i oM;have q:=h.x (i+1) d;have a:0<=(an c (i+1)).2-(an c i).2:=oM;have b:0<=x-(an c i).1:=oM;have f:=Int.mul_nonneg a b;have l:=Int.mul_le_mul (show (an c (i+1)).2-(an c i).2<=65535 from oM) (show x-(an c i).1<=65535 from oM) b oM;have e:0<(an c (i+1)).1-(an c i).1:=oM;have m:=Int.ediv_nonneg f (Int.le_of_lt e);have g:=Int.mul_le_mul_of_nonneg_left (show x-(an c i).1<=(an c (i+1)).1-(an c i).1 from oM) a;have n:=Int.ediv_le_of_le_mul e g;refine ⟨f,oM,?_,?_⟩
 ·rw[gY,Nat.add_sub_cancel];omega
 ·rw[gY,Nat.add_sub_cancel];omega
theorem BJ {b:List Pt} (h:gQ b) {x:Int} {i:Nat} (a:mT b x i) (c:0<=x):0<=cN b x/\cN b x<=65535:=by
 rw[pw a];split
 ·exact h.y i a.1
 ·rename_i hne;have e:=h.first;obtain ⟨k,rfl⟩:∃k,i=k+1:=by
   cases i with
   | zero=>exact absurd (by have:=a.2.1;omega) hne
   | succ k=>exact ⟨k,rfl⟩
  have d:=qP h k a.1 x (Int.le_of_lt (a.2.2 k oM)) a.2.1;have f:=h.y k (by have:=a.1;omega);have g:=h.y (k+1) a.1;omega
theorem BZ {b:List Pt} (h:gQ b) {x:Int} (m:x<=65535):∃i,mT b x i:=by
 have g:∀k,k<=b.length->(∃i,mT b x i)\/∀j,j<k->(an b j).1<x:=by
  intro k
  induction k with
  | zero=>intro _;exact .inr fun j d=>oM
  | succ k ih =>
   intro l;rcases ih oM with a|a
   ·exact .inl a
   ·by_cases c:(an b k).1<x
    ·refine .inr fun j d=>?_;rcases Nat.eq_or_lt_of_le (show j<=k from oM) with e|f
     ·rw[e];exact c
     ·exact a j f
    ·exact .inl ⟨k,oM,oM,a⟩
 rcases g b.length (ka _) with a|a
 ·exact a
 ·have:=a (b.length-1) (by have:=h.two;omega);have:=h.last;omega
end Go.Proofs.YtfjeonehdlphiaaGreatDoor
namespace Go.Proofs.YtfjeonehdlphiaaGreatDoor
open Go.RowKit
def ef (w:World) (base:Nat) (e:TypeId) (v:Value) (l:List UInt8):Prop :=
 ∃g cap a b,v=.slice (some ⟨g,0,none⟩) l.length cap/\base<=g/\w.heap[g]?=some (.cells a e b)/\(b.2=0\/cap<=b.1)/\l.length<=cap/\cap<=maxLen/\a.size=cap/\a.toList.take l.length=aP l
theorem ef.block {w w':World} {base:Nat} {e:TypeId} {v:Value} {l:List UInt8} (h:ef w base e v l) (j:∀k,k<w.heap.size->w'.heap[k]?=w.heap[k]?):ef w' base e v l:=by
 obtain ⟨g,cap,b,c,d,f,a,i⟩:=h;exact ⟨g,cap,b,c,d,f,(j g (lS a)).trans a,i⟩
theorem ef.form {w:World} {base:Nat} {e:TypeId} {v:Value} {l:List UInt8} (h:ef w base e v l):∃g cap,v=.slice (some ⟨g,0,none⟩) l.length cap/\base<=g:=by
 obtain ⟨g,cap,c,d,a,b,_⟩:=h;exact ⟨g,cap,a,b⟩
theorem ef.cells {w:World} {base:Nat} {e:TypeId} {g n cap:Nat} {l:List UInt8} (h:ef w base e (.slice (some ⟨g,0,none⟩) n cap) l):n=l.length/\∀j u,(aP l)[j]?=some u->w.cell? ⟨g,j,none⟩=some u:=by
 obtain ⟨m,f,i,k,b,_,c,_,_,_,_,d⟩:=h;cases b
 refine ⟨rfl,fun j u a=>?_⟩;rw[<-d,List.getElem?_take] at a;split at a
 ·simpa [World.cell?,c] using a
 ·cases a
theorem Cs (w:World) (base:Nat) (e:TypeId) (l:List UInt8) (c:base<=w.heap.size) (f:l.length<=maxLen) :
  ef (w.drew.alloc (.cells (bytesRow (lh l) (grownCap w (lh l).size 0 e)) e ((bytesRow (lh l) (grownCap w (lh l).size 0 e)).size,(bytesRow (lh l) (grownCap w (lh l).size 0 e)).size+1))) base e (.slice (some ⟨w.heap.size,0,none⟩) (lh l).size (grownCap w (lh l).size 0 e)) l:=by
 have a:=bn l;have d:=grownCap_ge w (lh l).size 0 e;have b:(bytesRow (lh l) (grownCap w (lh l).size 0 e)).size=grownCap w (lh l).size 0 e:=by
  simp only[bytesRow,Array.size_append,Array.size_map,Array.size_replicate];have:(lh l).data.size=(lh l).size:=rfl;omega
 refine ⟨w.heap.size,grownCap w (lh l).size 0 e,_,_,by rw[a],c,heap_alloc_new w.drew _,.inr ?_,by rw[<-a];exact d,grownCap_le_maxLen _ _ _ _ (by rw[a];exact f),b,?_⟩
 ·rw[b];exact ka _
 ·simp only[bytesRow,Array.toList_append,Array.toList_map];rw[List.take_left' (by simp[lh])];simp[aP,lh]
theorem vs (w:World) (o:Obj):Below w.heap.size w (w.drew.alloc o):=(Below.refl _ _).drew.alloc (ka _) o
section
variable {P:Program}
theorem Fl (w:World) (base:Nat) (t C e:TypeId) (i:TypeInfo) (B:P.underlying t=some (.slice e)) (s:P.info? e=some i) (hz:i.zero=some (.int .u8 0)) (p:i.size=1) (I:i.bytes=1)
  (v:Value) (l:List UInt8) (A:ef w base e v l) (b o:Nat) (c:Nat) (x:UInt8) (Y:w.cell? ⟨b,o,none⟩=some (.int .u8 x.toNat)) (hlen:l.length+1<=140737488355328) (F:base<=w.heap.size) :
  ∃D w',(Builtin.append_ #[t,t] C #[v,.slice (some ⟨b,o,none⟩) 1 c]).run P w=.ok D w'/\ef w' base e D (l++[x])/\w.grownBy w' v.ownBlock:=by
 have N:=A;obtain ⟨g,cap,a,h,rfl,H,d,r,hnc,L,O,X⟩:=A;have z:∀j u,[Value.int .u8 x.toNat][j]?=some u->w.cell? ((⟨b,o,none⟩:Addr).add j)=some u:=by
  intro j u q;obtain ⟨rfl,rfl⟩:=kE q;have E:(⟨b,o,none⟩:Addr).add 0=⟨b,o,none⟩:=by unfold Addr.add;split<;>simp_all
  rw[E];exact Y
 have f:(l++[x]).length=l.length+1:=sS;by_cases V:l.length+1<=cap
 ·have Q:=run_firstCells_some (P:=P) w 1 1 ⟨b,o,none⟩ 1 c [.int .u8 x.toNat] rfl z;have y:l.length<a.size:=oM;have K:w.cell? ⟨g,l.length,none⟩=some a[l.length]:=by simp[World.cell?,d,y]
  have R:w.frozen? ⟨g,l.length,none⟩=false:=by
   obtain ⟨lo,hi'⟩:=h;simp only[World.frozen?,d,Bool.and_eq_false_iff,decide_eq_false_iff_not];simp only at r;omega
  have W:(storeCells ⟨g,l.length,none⟩ [.int .u8 x.toNat] 0).run P w=.ok () (w.setRow g (a.setIfInBounds l.length (.int .u8 x.toNat))):=by
   have m:(⟨g,l.length,none⟩:Addr).add 0=⟨g,l.length,none⟩:=(by unfold Addr.add;split<;>simp_all);simp only[storeCells,Sem.run_bind,m];rw[run_store P w _ _ _ rfl,K];simp[R,setCell_eq_setRow w g l.length a e h _ d]
  refine ⟨.slice (some ⟨g,0,none⟩) (l.length+1) cap,w.setRow g (a.setIfInBounds l.length (.int .u8 x.toNat)),?_,⟨g,cap,_,h,by rw[f],H,setRow_heap w g a _ e _ d,r,oM,L,by simpa using O,?_⟩,⟨rfl,rfl,rfl,sS,fun k _ n=>setRow_other w g k _ (fun e=>n (by simp[Value.ownBlock,e]))⟩⟩
  ·simp[Builtin.append_,run_underlying B,sizeOf,typeInfo,s,p,Builtin.lenOf,V,Q,Addr.add_lit,W]
  ·rw[f,jl,<-X,Array.toList_setIfInBounds];rw[kd (by simpa using y)];simp[aP,List.take_set_of_le]
 ·have T:∀j u,(aP l)[j]?=some u->w.cell? ((⟨g,0,none⟩:Addr).add j)=some u:=by
   intro j u q;have m:(⟨g,0,none⟩:Addr).add j=⟨g,j,none⟩:=(by unfold Addr.add;split<;>simp_all);rw[m];exact (ef.cells N).2 j u q
  have U:=run_append_grow (P:=P) w t C e i (.int .u8 0) B s hz ⟨g,0,none⟩ l.length cap (aP l) (by simp[aP,p]) T ⟨b,o,none⟩ 1 c [.int .u8 x.toNat] (by simp[p]) z oM oM (growslice_fits oM (by rw[I];omega));have S:=grownCap_ge w (l.length+1) cap e;have M:grownCap w (l.length+1) cap e<=maxLen:=grownCap_le_maxLen w (l.length+1) cap e (by unfold maxLen;omega);refine ⟨_,_,U,⟨w.heap.size,_,_,(0,0),by rw[f],F,heap_alloc_new w.drew _,.inl rfl,by rw[f];exact S,M,?_,?_⟩,⟨rfl,rfl,rfl,sS,fun k n _=>heap_alloc_old w.drew _ n⟩⟩
  ·simp only[Array.size_append,List.size_toArray,size_zeroCells,aP,List.length_map,List.length_cons,List.length_nil];have:(Value.int .u8 0).cells.size=1:=rfl;rw[this];omega
  ·simp only[Array.toList_append];rw[List.take_left' (by simp[aP])];simp[aP]
theorem tn {f:Array Oper} {rest:List Oper} {o:Oper} {a:Act} {Q:Exit->Act->World->Prop} (w:World) (p:o.guard=none) (s y:Operand) (t:TypeId)
  (z:o.op=.call { callee:=.builtin .append,args:=#[s,y],argTypes:=#[t,t] })
  (base:Nat) (e:TypeId) (i:TypeInfo) (E:P.underlying t=some (.slice e)) (r:P.info? e=some i) (I:i.zero=some (.int .u8 0)) (D:i.size=1) (n:i.bytes=1)
  (v:Value) (l:List UInt8) (C:a.eval s=v) (A:ef w base e v l) (b q:Nat) (c:Nat) (x:UInt8) (H:a.eval y=.slice (some ⟨b,q,none⟩) 1 c) (F:w.cell? ⟨b,q,none⟩=some (.int .u8 x.toNat)) (u:l.length+1<=140737488355328) (m:base<=w.heap.size)
  (h:∀d w',ef w' base e d (l++[x])->w.grownBy w' v.ownBlock->wpList P f Q rest (a.put o.dst d) w'):wpList P f Q (o::rest) a w:=by
 refine wpList_plain p fun K k=>?_;obtain ⟨d,w',B,g,j⟩:=Fl (P:=P) w base t o.type e i E r I D n v l A b q c x F u m;unfold Oper.wp execOp;simp only[z,resolve,invoke,builtin,Sem.run_bind,Sem.run_pure,Result.andThen_ok,List.map_toArray,List.map_cons,List.map_nil,C,H,B];exact k _ _ (h d w' g j)
theorem Fx {w:World} {base:Nat} {a e dst:TypeId} {v:Value} {l:List UInt8} (m:P.underlying a=some (.slice e)) (i:P.underlying e=some (.int .u8)) (f:P.underlying dst=some .string) (h:ef w base e v l) :
  (convert a dst v).run P w=.ok (.string (lh l)) w:=by
 obtain ⟨g,cap,rfl,n⟩:=h.form;have d:=(ef.cells h).2;rw[run_convert_bytes_arg (P:=P) w a e m i g 0 l.length cap (l.map fun x=>(x.toNat:Int)) sS (fun j k=>?_) dst f]
 ·congr 2;simp only[strOfNums,lh,List.map_map];congr 2;exact (List.map_congr_left (fun c _=>sS)).trans (List.map_id l)
 ·have b:j<l.length:=by simpa using k
  rw[Nat.zero_add];refine (d j (.int .u8 (l[j].toNat)) ?_).trans ?_
  ·simp[aP,b]
  ·simp[b]
end
end Go.Proofs.YtfjeonehdlphiaaGreatDoor
