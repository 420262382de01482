/- Part 32. -/
import Derived.Test.YtfjeonehdlphiaaGreatDoorC5Sd
import Derived.Test.YtfjeonehdlphiaaGreatDoorC21Sd
open Go.Lib renaming frozen_of_heap → ka, cell_of_heap → kb
open Nat renaming le_refl → kc, lt_of_lt_of_le → kh, le_trans → km, zero_le → kG, mul_le_mul_right → xa, succ_mul → yb, mul_le_mul → zR
open Int renaming eq_ofNat_of_zero_le → kd
open Go.RowKit.Below renaming refl → kf, heap_setCell → kv, heap_alloc → kw
open List renaming take_succ_eq_append_getElem → ko, take_of_length_le → xc, eq_nil_of_length_eq_zero → xe, length_append → ys, append_assoc → zc, length_map → zl, length_take → zo, length_drop → zs
open Go.World renaming cell?_of_block → zv, size_alloc → zB, ownsRow_nil → zO
open Go.Value renaming int → Z, slice → J
open Go.IntKind renaming i64 → G
set_option linter.unusedVariables false
set_option maxHeartbeats 1600000
set_option maxRecDepth 100000
namespace Go.Proofs.YtfjeonehdlphiaaGreatDoor
open Go.RowKit
open _root_.Go.Proofs.Tryz
theorem Bv (B b:Nat) (n:Int) (N:Nat) (d:n=N) (w:World) (a:B<=b) (g:w.heap[b]?=some (.cells #[.pointer none,J none 0 0] 76 (0,0))) (c:B<=w.heap.size) (i:N<=281474976710656) :
  Calls prog 215 #[.pointer (some ⟨b,0,none⟩),Z G n] w fun e w'=>e=.returned (.tuple #[])/\Lib.IsBuilder 76 5 B b (aP []) w'/\Below B w w':=by
 subst d;refine (Tryz.Builder_Grow_fresh B b N w a g c i).mono ?_;rintro e w' ⟨rfl,h,f⟩;exact ⟨rfl,.inr h,f⟩
theorem tr (B b:Nat) (l:List UInt8) (c:Int) (C:Nat) (d:c=C) (g:C<256) (w:World) (h:Lib.IsBuilder 76 5 B b (aP l) w) (i:l.length+1<=140737488355328) (a:B<=w.heap.size) :
  Calls prog 31 #[.pointer (some ⟨b,0,none⟩),.int .u8 c] w fun e w'=>e=.returned .nilIface/\Lib.IsBuilder 76 5 B b (aP (l++[UInt8.ofNat C])) w'/\Below B w w':=by
 subst d;refine (Tryz.Builder_WriteByte B b (aP l) C w h (by rw[kY];exact i) a).mono ?_;rintro e w' ⟨rfl,h,f⟩;refine ⟨rfl,.inr ?_,f⟩;rw[jl,qU C g];exact h
theorem tt (B b:Nat) (l:List UInt8) (s:ByteArray) (w:World) (h:Lib.IsBuilder 76 5 B b (aP l) w) (d:l.length+s.size<=140737488355328) (a:B<=w.heap.size) :
  Calls prog 28 #[.pointer (some ⟨b,0,none⟩),.string s] w fun e w'=>e=.returned (.tuple #[Z G s.size,.nilIface])/\Lib.IsBuilder 76 5 B b (aP (l++s.data.toList)) w'/\Below B w w':=by
 refine (Tryz.Builder_WriteString B b (aP l) s w h (by rw[kY];exact d) a).mono ?_;rintro e w' ⟨rfl,h,c⟩;refine ⟨rfl,.inr ?_,c⟩;rw[jl];exact h
theorem sV (B b:Nat) (l:List UInt8) (w:World) (h:Lib.IsBuilder 76 5 B b (aP l) w) (a:B<=w.heap.size) :
  Calls prog 32 #[.pointer (some ⟨b,0,none⟩)] w fun e w'=>e=.returned (.string (lh l))/\Below B w w' :=
 Tryz.Builder_String_any B b l w h a
theorem tW (s:ByteArray) (D:s.size<=17592186044416) (w:World) :
  Calls prog 197 #[.string s] w (rT w (.string (lh (aF s.data.toList)))):=by
 go_enter func197,ntmps197;go_wp2_with (go_at_call 215;refine (Bv w.heap.size w.heap.size _ (8*s.size) ?_ _ (kc _) ?_ ?_ oM).mono ?_;omega;exact heap_alloc_new w _;simp;rintro e w1 ⟨rfl,a,r⟩)
 go_loopw [12] (fun i wr=>∃k:Nat,k<=s.size/\i=Z G k/\Lib.IsBuilder 76 5 w.heap.size w.heap.size (aP (aF (s.data.toList.take k))) wr/\Below w.heap.size w wr)
  (fun i _=>s.size-(intOf i).toNat)
 case atStart=>exact ⟨0,kG _,rfl,a,((kf _ _).alloc (kc _) _).trans r⟩
 case round =>
  obtain ⟨k,B,rfl,a,b⟩:=hrel;by_cases y:k<s.size
  ·have A:decide ((k:Int)<(s.size:Int))=true:=sO;have l:=ig (s.data.toList.take k);have C:(aF (s.data.toList.take k)).length<=8*k:=(by rw[l];simp;omega);clear l;have o:=qH (show aF (s.data.toList.take (k+1))=aF (s.data.toList.take k)++aL s[k].toNat 8 by rw[qA s k y,sF]);have v:s[k].toNat<256:=s[k].toNat_lt;generalize aF (s.data.toList.take k)=R at *;go_wp2;go_loopw [5] (fun i m=>∃t:Int,-1<=t/\t<=7/\i=Z G t/\Lib.IsBuilder 76 5 w.heap.size w.heap.size (aP (R++(aL s[k].toNat 8).take (7-t).toNat)) m/\Below w.heap.size w m)
    (fun i _=>(intOf i+1).toNat)
   case atStart=>exact ⟨7,oM,oM,rfl,by simpa using a,b⟩
   case round =>
    obtain ⟨t,E,F,rfl,f,c⟩:=hrel;clear a b;by_cases q:0<=t
    ·obtain ⟨u,rfl⟩:=kd q;have H:u<=7:=oM;have x:(R++(aL s[k].toNat 8).take (7-(u:Int)).toNat).length+1<=140737488355328:=by
      rw[ys,zo,dW];omega
     have g:=c.size;have p:=qH (xU s[k].toNat u oM);have n:=qH (tU s[k].toNat u v);(go_wp2_with (go_at_call 31;refine (tr w.heap.size w.heap.size _ _ _ n.1 oM _ f x g).mono ?_;rintro e z ⟨rfl,j,d⟩));go_roundw
     case rel=>exact ⟨(u:Int)-1,oM,oM,rfl,by
      rw[show (7-((u:Int)-1)).toNat=8-u from oM,p.1,<-zc];rw[show (7-(u:Int)).toNat=7-u from oM] at j;exact j,c.trans d⟩
     case measure=>simp[intOf]
    ·obtain rfl:t=-1:=oM;rw[show (7-(-1:Int)).toNat=8 from dD,xc (by rw[dW];exact kc _),<-o.1] at f;go_wp2;go_roundw
     case rel=>exact ⟨k+1,oM,gN,f,c⟩
     case measure=>simp[intOf];omega
  ·obtain rfl:k=s.size:=oM;rw[nu s s.size (kc _)] at a;have g:=b.size;(go_wp2_with (go_at_call 32;refine (sV w.heap.size w.heap.size _ _ a g).mono ?_;rintro e z ⟨rfl,d⟩));go_ret;exact ⟨rfl,b.trans d⟩
theorem xy (s:ByteArray) (U:s.size<=17592186044416) (w:World) :
  Calls prog 205 #[.string s] w (rT w (.string (lh (aF s.data.toList)))):=by
 obtain ⟨z,p,N,y,O⟩:=info_parts Tryz.infoU8;obtain ⟨n,q⟩:∃n,n=8*s.size:=⟨_,rfl⟩;have HN:=qH q;clear q;go_enter func205,ntmps205;go_wp2_with (at_make;refine wpList_make_own _ rfl _ _ 74 rfl w.heap.size 5 z (.int .u8 0) 1 underlying74 p N y .i64 .i64 _ n rfl rfl ?_ ?_ ?_ (kc _) ?_;(have:=HN.1;omega);(have:=HN.1;rw[O];omega);(have:=HN.1;unfold maxLen;omega);intro w1 r o)
 go_loopw [3,4] (fun v i wr=>∃k:Nat,k<=s.size/\i=Z G k/\v=J (some ⟨w.heap.size,0,none⟩) (aF (s.data.toList.take k)).length n /\
   wr.ownsRow w.heap.size 5 1 (J (some ⟨w.heap.size,0,none⟩) (aF (s.data.toList.take k)).length n) (aF (s.data.toList.take k)).length (aP (aF (s.data.toList.take k)))/\Below w.heap.size w wr)
  (fun _ i _=>s.size-(intOf i).toNat)
 case atStart=>exact ⟨0,kG _,rfl,rfl,r,(kf _ _).grown o (kc _) sS⟩
 case round =>
  obtain ⟨k,S,rfl,rfl,d,f⟩:=hrel;clear r o;by_cases L:k<s.size
  ·have Q:decide ((k:Int)<(s.size:Int))=true:=sO;have x:(aF (s.data.toList.take k)).length=8*k:=(by rw[ig];simp;omega);have E:=qH x;clear x;have j:=qH (show aF (s.data.toList.take (k+1))=aF (s.data.toList.take k)++aL s[k].toNat 8 by rw[qA s k L,sF]);have I:s[k].toNat<256:=s[k].toNat_lt;generalize aF (s.data.toList.take k)=R at *;go_wp2;go_loopw [3,5] (fun v i A=>∃t:Int,-1<=t/\t<=7/\i=Z G t/\v=J (some ⟨w.heap.size,0,none⟩) (R++(aL s[k].toNat 8).take (7-t).toNat).length n /\
     A.ownsRow w.heap.size 5 1 (J (some ⟨w.heap.size,0,none⟩) (R++(aL s[k].toNat 8).take (7-t).toNat).length n) (R++(aL s[k].toNat 8).take (7-t).toNat).length (aP (R++(aL s[k].toNat 8).take (7-t).toNat))/\Below w.heap.size w A)
    (fun _ i _=>(intOf i+1).toNat)
   case atStart=>exact ⟨7,oM,oM,rfl,sS,by simpa using d,f⟩
   case round =>
    obtain ⟨t,W,X,rfl,rfl,g,c⟩:=hrel;clear d f;by_cases H:0<=t
    ·obtain ⟨u,rfl⟩:=kd H;have b:u<=7:=oM;have T:(R++(aL s[k].toNat 8).take (7-(u:Int)).toNat).length+1<=n:=by
      rw[ys,zo,dW,E.1,HN.1];omega
     have V:=c.size;have F:=qH (xU s[k].toNat u oM);have C:=qH (tU s[k].toNat u I);have B:=qH (zn (s[k].toNat / 2 ^ u));have D:=qH (show (R++(aL s[k].toNat 8).take (7-(u:Int)).toNat)=(R++(aL s[k].toNat 8).take (7-u)) by rw[show (7-(u:Int)).toNat=7-u from oM]);generalize R++(aL s[k].toNat 8).take (7-(u:Int)).toNat=M at *;(go_wp2_with (at_builtin;refine wpList_append_fits _ rfl _ _ 74 rfl w.heap.size 5 z 1 underlying74 p y w.heap.size M.length n _ rfl (g.alloc _) ⟨_,0,none⟩ 1 1 [.int .u8 ((48+bits BinOp.and IntKind.u8 ((s[k].toNat:Int) / 2 ^ u) 1) % 256)] rfl rfl ?_ ?_ oM ?_;(intro a u b;obtain ⟨rfl,rfl⟩:=kE b;simp[Addr.add]);(intro u b;simp at b;subst b;rfl);intro w2 e K));rw[C.1,<-B.1,<-jl] at e;have l:M++[UInt8.ofNat (48+s[k].toNat / 2 ^ u % 2)]=R++(aL s[k].toNat 8).take (8-u):=by
      rw[D.1,F.1,zc]
     rw[l] at e;have m:M.length+1=(R++(aL s[k].toNat 8).take (8-u)).length:=(by rw[<-l];simp);rw[m] at e;go_roundw
     case rel=>exact ⟨(u:Int)-1,oM,oM,rfl,by
      rw[show (7-((u:Int)-1)).toNat=8-u from oM,m],by
      rw[show (7-((u:Int)-1)).toNat=8-u from oM];exact e,(c.alloc c.size _).grown K sO sS⟩
     case measure=>simp[intOf]
    ·obtain rfl:t=-1:=oM;rw[show (7-(-1:Int)).toNat=8 from dD,xc (by rw[dW];exact kc _),<-j.1] at g;go_wp2;go_roundw
     case rel=>exact ⟨k+1,oM,gN,by
      rw[show (7-(-1:Int)).toNat=8 from dD,xc (by rw[dW];exact kc _),<-j.1],g,c⟩
     case measure=>simp[intOf];omega
  ·obtain rfl:k=s.size:=oM;rw[nu s s.size (kc _)] at d;have P:=ou (dst:=9) underlying74 underlying5 underlying9 d;rw[nu s s.size (kc _)];go_wp2;go_ret;exact ⟨rfl,f⟩
theorem nW {T e:TypeId} {B b:Nat} {a:List Value} {w w':World} (h:Lib.IsBuilder T e B b a w) (c:Below w.heap.size w w') (_:B<=w.heap.size):Lib.IsBuilder T e B b a w':=by
 have i:∀p,Lib.BuilderAt T e B b p a w->Lib.BuilderAt T e B b p a w':=by
  intro p h;have n:=h.lt;obtain ⟨k,v,l,f,o⟩:=h;refine ⟨k,v,by rw[c.block b n];exact l,?_,o⟩;refine ⟨f.1,?_⟩;rcases f.2 with h|⟨g,cap,j,q,m,d,r⟩
  ·exact .inl h
  ·exact .inr ⟨g,cap,j,q,m,by rw[c.block g (lS d)];exact d,r⟩
 rcases h with h|h
 ·exact .inl (i _ h)
 ·exact .inr (i _ h)
def iJ (s w:List UInt8):Bool:=w.isPrefixOf s
theorem nJ (s w:List UInt8):iJ s w=true↔w <+: s:=List.isPrefixOf_iff_prefix
theorem oR (s t:List UInt8) (w:World) (_hs:s.length<=140737488355328) (_ht:t.length<=140737488355328) :
  Calls prog 43 #[.string (lh s),.string (lh t)] w (rQ w (.bool (iJ s t))):=by
 have f:(lh s).size=s.length:=bn s;have g:(lh t).size=t.length:=bn t;by_cases b:t.length<=s.length
 ·have d:=qH (show ((lh s).extract 0 t.length).toList=s.take t.length by rw[Lib.extract_toList,bP];simp);have c:=qH (show (lh t).toList=t by rw[Lib.toList_data,bP]);have a:=qH (show (s.take t.length == t)=iJ s t by
   rw[Bool.eq_iff_iff,beq_iff_eq,nJ,List.prefix_iff_eq_take];exact ⟨fun h=>h.symm,fun h=>h.symm⟩)
  have e:decide ((t.length:Int)<=(s.length:Int))=true:=by simpa using b
  go_enter func43,ntmps43;go_wp2;go_ret;refine ⟨?_,rfl⟩;rw[<-a.1,<-d.1];exact congrArg (fun x=>Ending.returned (.bool (((lh s).extract 0 t.length).toList == x))) c.1
 ·have a:=qH (show iJ s t=false by
   rw[Bool.eq_false_iff];intro h;have:=((nJ s t).1 h).length_le;omega)
  have e:decide ((t.length:Int)<=(s.length:Int))=false:=by simpa using b
  go_enter func43,ntmps43;go_wp2;go_ret;exact ⟨be a.1.symm,rfl⟩
def jU (ts:List (List UInt8)) (b:List UInt8) (i:Nat):Bool:=decide (ts.getD i []≠[]) && iJ b (ts.getD i [])
def gi (ts:List (List UInt8)) (b:List UInt8):Nat->Option Nat
 | 0=>none
 | k+1=>match gi ts b k with
  | some i=>some i
  | none=>if jU ts b k=true then some k else none
def go (ts:List (List UInt8)) (b:List UInt8):Nat->Bool
 | 0=>false
 | k+1=>go ts b k || (decide (ts.getD k []≠[]) && iJ (ts.getD k []) b)
def jT (ts:List (List UInt8)) (b:List UInt8):Int:=match gi ts b ts.length with|some i=>i|none=>0
def gh (ts:List (List UInt8)) (b:List UInt8):Int:=match gi ts b ts.length with|some _=>0|none=>if go ts b ts.length=true then 5 else 4
theorem Be (ts:List (List UInt8)) (b:List UInt8) (k n:Nat) (c:k<n) (a:gi ts b k=none) (h:jU ts b k=true):gi ts b n=some k:=by
 induction n with
 | zero=>omega
 | succ n ih =>
  by_cases e:k=n
  ·subst e;rw[gi,a];simp[h]
  ·rw[gi,ih oM]
theorem Bj {ts:List (List UInt8)} {b:List UInt8} {n i:Nat} (h:gi ts b n=some i):i<n/\jU ts b i=true:=by
 induction n with
 | zero=>cases h
 | succ n ih =>
  rw[gi] at h;split at h
  ·rename_i j hj;cases h
   have:=ih hj;exact ⟨oM,this.2⟩
  ·split at h
   ·cases h;exact ⟨oM,by assumption⟩
   ·cases h
theorem Bi {ts:List (List UInt8)} {b:List UInt8} {n:Nat} (h:gi ts b n=none):∀i,i<n->jU ts b i=false:=by
 induction n with
 | zero=>intro i a;omega
 | succ n ih =>
  rw[gi] at h;split at h
  ·cases h
  ·rename_i hj;split at h
   ·cases h
   ·rename_i hp;intro i a;by_cases e:i=n
    ·subst e;simpa using hp
    ·exact ih hj i oM
theorem xF (ts:List (List UInt8)) (b:List UInt8) (n:Nat):go ts b n=true↔∃i,i<n/\ts.getD i []≠[]/\b <+: ts.getD i []:=by
 induction n with
 | zero=>simp[go]
 | succ n ih =>
  rw[go,Bool.or_eq_true,ih,Bool.and_eq_true,decide_eq_true_eq,nJ];constructor
  ·rintro (⟨i,a,h⟩|h)
   ·exact ⟨i,oM,h⟩
   ·exact ⟨n,oM,h⟩
  ·rintro ⟨i,a,h⟩;by_cases e:i=n
   ·subst e;exact .inr h
   ·exact .inl ⟨i,oM,h⟩
theorem vH (ts:List (List UInt8)) (m:PF ts) (l:∃i,i<ts.length/\ts.getD i []≠[]) (b:List UInt8) :
  (aQ (cd ts ts.length) [] b).1=jT ts b/\(aQ (cd ts ts.length) [] b).2.1=gh ts b/\(gh ts b=0->∃i:Nat,i<ts.length/\jT ts b=i/\(aQ (cd ts ts.length) [] b).2.2=(ts.getD i []).length/\ts.getD i [] <+: b):=by
 unfold jT gh;cases h:gi ts b ts.length with
 | some i =>
  obtain ⟨c,a⟩:=Bj h;rw[jU,Bool.and_eq_true,decide_eq_true_eq,nJ] at a;have n:(ts.getD i []).length≠0:=fun e=>a.1 (xe e);have d:=vG ts m i c a.1 b [] (by rw[List.nil_append];exact a.2) (by rw[List.length_nil];omega);rw[d];exact ⟨rfl,rfl,fun _=>⟨i,c,rfl,sS,a.2⟩⟩
 | none =>
  have k:∀i,i<ts.length->ts.getD i []≠[]->¬ts.getD i [] <+: []++b:=by
   intro i c f a;have:=Bi h i c;rw[jU,Bool.and_eq_false_iff] at this;rcases this with g|g
   ·rw[decide_eq_false_iff_not] at g;exact g f
   ·rw[List.nil_append,<-nJ,g] at a;cases a
  by_cases j:go ts b ts.length=true
  ·obtain ⟨i,c,f,a⟩:=(xF ts b ts.length).1 j;have d:=C4 ts b [] k ⟨i,c,by rw[List.nil_append];exact a⟩;rw[d];simp[j]
  ·have d:=C3 ts b [] k (fun i c f a=>j ((xF ts b ts.length).2 ⟨i,c,f,by rw[List.nil_append] at a;exact a⟩)) (by obtain ⟨i,c,f⟩:=l;exact ⟨i,c,f,List.nil_prefix⟩);rw[d.1,d.2];simp[j]
theorem Bk (v:Value) (ts:List (List UInt8)) (b:List UInt8) (w:World) (K:dr w v ts) (F:1<=ts.length) (o:b.length<=140737488355328) (y:∀i (h:i<ts.length),ts[i].length<=15) :
  Calls prog 207 #[v,.string (lh b)] w (rQ w (.tuple #[Z G (jT ts b),Z G (gh ts b)])):=by
 obtain ⟨E,ca,rfl,R,z⟩:=K;obtain ⟨M,off,H,O,A⟩:∃b off,E=some ⟨b,off,none⟩/\b<w.heap.size/\∀j (h:j<ts.length),w.cell? ⟨b,off+j,none⟩=some (.string (lh ts[j])):=by
  rcases z with h|h
  ·subst h;exact absurd F sS
  ·exact h
 subst H;have C:=qH A;clear A z;have B:=qH y;clear y;go_enter func207,ntmps207;go_wp2;go_loop [6,7] (fun L i=>∃k:Nat,k<=ts.length/\i=Z G k/\L=.bool (go ts b k)/\Hid (gi ts b k=none)) (fun _ i=>ts.length-(intOf i).toNat)
 case atStart=>exact ⟨0,kG _,rfl,rfl,rfl⟩
 case round =>
  obtain ⟨k,P,rfl,rfl,HN⟩:=hrel;by_cases p:k<ts.length
  ·have N:=C.1 k p;have Q:=B.1 k p;have r:ts.getD k []=ts[k]:=(by simp[List.getD,p]);have u:=qH (show go ts b (k+1)=(go ts b k || (decide (ts[k]≠[]) && iJ ts[k] b)) by rw[go,r]);have q:=qH (show jU ts b k=(decide (ts[k]≠[]) && iJ b ts[k]) by rw[jU,r]);have t:=qH (show jU ts b k=false->gi ts b (k+1)=none from fun h=>by rw[gi,HN.out];simp[h]);have D:=qH (show jU ts b k=true->gi ts b ts.length=some k from fun h=>Be ts b k ts.length p HN.out h);clear r;generalize ts[k]=c at *;by_cases d:c=[]
   ·have I:(lh c).toList.isEmpty=true:=(by rw[Lib.toList_data,bP,d];rfl);have f:=qH (show go ts b (k+1)=go ts b k by rw[u.1,d];simp);have m:=au (t.1 (by rw[q.1,d];simp));clear d;go_wp2;go_round
    case rel=>exact ⟨k+1,oM,gN,by rw[f.1],m⟩
    case measure=>simp[intOf];omega
   ·have I:(lh c).toList.isEmpty=false:=(by rw[Lib.toList_data,bP];simpa using d);have x:=qH d;clear d;by_cases l:iJ b c=true
    ·have s:=qH (D.1 (by rw[q.1,l];simpa using x.1));have n:=qH (show jT ts b=(k:Int) by rw[jT,s.1]);have g:=qH (show gh ts b=0 by rw[gh,s.1]);(go_wp2_with (go_at_call 43;refine (oR b c _ o oM).mono ?_;rintro e w1 ⟨rfl,rfl⟩));go_ret2;rw[n.1,g.1];exact ⟨rfl,rfl⟩
    ·have l:iJ b c=false:=(by simpa using l);have m:=au (t.1 (by rw[q.1,l];simp));have f:=qH (show go ts b (k+1)=(go ts b k || iJ c b) by rw[u.1];have:=x.1;simp[this]);cases hsh:go ts b k with
     | true =>
      rw[hsh] at f;(go_wp2_with (go_at_call 43;refine (oR b c _ o oM).mono ?_;rintro e w1 ⟨rfl,rfl⟩));go_round
      case rel=>exact ⟨k+1,oM,gN,by rw[f.1];simp,m⟩
      case measure=>simp[intOf];omega
     | false =>
      rw[hsh] at f;(go_wp2_with fail);refine (oR b c _ o oM).mono ?_;rintro e w1 ⟨rfl,rfl⟩;rw[l];(go_wp2_with fail);refine (oR c b _ oM o).mono ?_;rintro e w1 ⟨rfl,rfl⟩;generalize iJ c b=a at *;go_wp2;go_round
      case rel=>exact ⟨k+1,oM,gN,by rw[f.1];simp,m⟩
      case measure=>simp[intOf];omega
  ·obtain rfl:k=ts.length:=oM;have n:=qH (show jT ts b=0 by rw[jT,HN.out]);cases hsh:go ts b ts.length with
   | true =>
    have g:=qH (show gh ts b=5 by rw[gh,HN.out,hsh];rfl);clear hsh;go_wp2;go_ret2;rw[n.1,g.1];exact ⟨rfl,rfl⟩
   | false =>
    have g:=qH (show gh ts b=4 by rw[gh,HN.out,hsh];rfl);clear hsh;go_wp2;go_ret2;rw[n.1,g.1];exact ⟨rfl,rfl⟩
theorem ot {P:Program} {w:World} {base b e dst:TypeId} {v:Value} {l:List UInt8} (f:P.underlying b=some (.slice e)) (d:P.underlying e=some (.int .u8)) (c:P.underlying dst=some .string)
  (h:w.ownsRow base e 1 v l.length (aP l)):(convert b dst v).run P w=.ok (.string (lh l)) w:=by
 rcases h.2 with ⟨a,i⟩|⟨g,cap,j,a,_⟩
 ·rw[a,run_convert_bytes_nil w b e f d 0 0 dst c,xe i];rfl
 ·subst a;exact ou f d c h
theorem wj (v:Value) (xs:List Int) (D:Nat) (M:D<=16) (hl:xs.length<=4096) (x:iI xs D=true) (w:World) (W:ap w v xs) :
  Calls prog 80 #[v,Z G D] w (rT w (.string (lh (dg (dO xs D))))):=by
 obtain ⟨F,ca,rfl,hla,r⟩:=W;obtain ⟨i0,R,X,Y,aa⟩:=info_parts Tryz.infoU8;have B:=qH r;clear r;have C:=qH x;clear x;go_enter func80,ntmps80;go_wp2;go_loopw [5,6] (fun t i wr=>∃k:Nat,k<=xs.length/\i=Z G k/\wr.ownsRow w.heap.size 5 1 t (dO (xs.take k) D).length (aP (dO (xs.take k) D))/\Below w.heap.size w wr)
  (fun _ i _=>xs.length-(intOf i).toNat)
 case atStart=>exact ⟨0,kG _,rfl,zO _ _ _ _,kf _ _⟩
 case round =>
  obtain ⟨k,hk,rfl,l,c⟩:=hrel;have V:(dO (xs.take k) D).length<=65536:=by
   rw[sf];have a:(xs.take k).length<=4096:=sO;exact km (zR a (show ((D:Int)).toNat<=16 from oM)) dD
  have z:=c.size;by_cases f:k<xs.length
  ·obtain ⟨b,off,N,Q,s⟩:∃b off,F=some ⟨b,off,none⟩/\b<w.heap.size/\∀j (h:j<xs.length),w.cell? ⟨b,off+j,none⟩=some (Z G xs[j]):=by
    rcases B.1 with h|h
    ·subst h;exact absurd f sS
    ·exact h
   subst N;obtain ⟨m,g,T⟩:∃m:Nat,xs[k]=m/\m<65536:=by
    have h:=List.all_eq_true.1 C.1 xs[k] (List.getElem_mem f);rcases vO xs[k] D with ⟨m,j,a,h2,I,K,_⟩|⟨a,_⟩
    ·exact ⟨m,a,kh K (ic I)⟩
    ·rw[a] at h;cases h
   have H:=(c.cell (p:=⟨b,off+k,none⟩) Q).trans (s k f);clear s;rw[g] at H;have E:=qH (show dO (xs.take (k+1)) D=dO (xs.take k) D++aL m D by
    rw[ko f,sg,g];simp)
   clear g;generalize dO (xs.take k) D=L at *;(go_wp2_with (first|(go_at_call 133;refine (xt D m _ M T).mono ?_;rintro e w2 ⟨rfl,d⟩;have n:=cT l d;have hsz2:=d.size)|(at_builtin;refine Lib.wpList_append_own_string _ rfl _ _ 74 9 rfl w.heap.size 5 i0 underlying74 underlying9 R X Y aa _ _ _ rfl n (lh (aL m D)) rfl (by rw[bn,dW];unfold maxLen;omega) (by rw[bn,dW];omega) oM ?_;intro v' o y u _)));have U:o.ownsRow w.heap.size 5 1 v' (dO (xs.take (k+1)) D).length (aP (dO (xs.take (k+1)) D)):=by
    rw[E.1,jl,ys,<-bP (aL m D)];have A:=y;rw[bn] at A;exact A
   have P:Below w.heap.size w o:=(c.trans (d.mono z)).grown u oM (fun j S=>(n.lt j S).1);clear y u n d;go_roundw
   case rel=>exact ⟨k+1,oM,gN,U,P⟩
   case measure=>simp[intOf];omega
  ·have q:xs.take k=xs:=xc oM;rw[q] at l V;clear q;have hcv:=ot (dst:=9) underlying74 underlying5 underlying9 l;(go_wp2_with (go_at_call 134;refine (xq _ (by rw[bn];omega) _).mono ?_;rintro e o ⟨rfl,O⟩));go_ret;exact ⟨rfl,c.trans (O.mono z)⟩
def o9:Value->Option (DataW Unit×List MemPlace)
 | .agg cs=>match cs.toList with
  | [.int .i64 a,.bool b]=>some (.agg [.lit (.int .i64 a),.lit (.bool b)],[])
  | _=>none
 | _=>none
def o8 (p:Int×Bool):DataW Unit:=.agg [.lit (.int .i64 p.1),.lit (.bool p.2)]
def lZ (p:Int×Bool):Value:=.agg #[Z G p.1,.bool p.2]
theorem uE (p:Int×Bool):o9 (lZ p)=some (o8 p,[]):=rfl
theorem uD {v:Value} {p:Int×Bool} {ps:List MemPlace} (h:o9 v=some (o8 p,ps)):v=lZ p:=by
 unfold o9 at h;split at h
 ·rename_i cs;split at h
  ·rename_i a b hcs;simp only[Option.some.injEq,Prod.mk.injEq,o8,DataW.agg.injEq,List.cons.injEq,DataW.lit.injEq,Lit.int.injEq,Lit.bool.injEq] at h;obtain ⟨⟨⟨_,c⟩,d,_⟩,_⟩:=h;have:cs=#[Z G a,.bool b]:=Array.ext' hcs;rw[this,lZ,<-c,<-d]
  ·cases h
 ·cases h
theorem u9 (l:List UInt8):WideAt.IsKeyLit (.string l):=by simp[WideAt.IsKeyLit]
theorem xO:Maps.Keyed prog 9:=Maps.string_keyed underlying9
theorem xN (s:ByteArray) (h:s.size<=maxLen):keyOf prog 9 (.string s)=some (.string s.data.toList):=Go.WideMaps.keyOf_string_mk underlying9 h
def cH (w:World) (b n:Nat) (f:List UInt8->Option (Int×Bool)):Prop :=
 ∃D:DataW Unit,w.ownsMap prog 9 o9 b n D/\∀a,Maps.has D (.string a)=(f a).isSome/\∀p,f a=some p->∀z,D.atKey (.string a) z=o8 p
theorem cH.drew {w:World} {a n:Nat} {f:List UInt8->Option (Int×Bool)} (h:cH w a n f):cH w.drew a n f:=h
theorem cH.kept {w w':World} {a n:Nat} {f:List UInt8->Option (Int×Bool)} {b:Option Nat} (h:cH w a n f) (e:w.grownBy w' b) (g:some a≠b):cH w' a n f:=by
 obtain ⟨D,c,d⟩:=h;exact ⟨D,c.kept e g,d⟩
theorem cH.below {w w':World} {a n B:Nat} {f:List UInt8->Option (Int×Bool)} (h:cH w a n f) (e:Below B w w') (d:w.heap.size<=B):cH w' a n f:=by
 obtain ⟨D,⟨es,c,b,r⟩,g⟩:=h;have i:a<w.heap.size:=lS b;exact ⟨D,⟨es,c,by rw[e.block a (kh i d)];exact b,r⟩,g⟩
theorem cH.mono {w:World} {a n b:Nat} {f:List UInt8->Option (Int×Bool)} (h:cH w a n f) (e:n<=b):cH w a b f:=by
 obtain ⟨D,c,d⟩:=h;exact ⟨D,c.mono e,d⟩
theorem cH.lt {w:World} {a n:Nat} {f:List UInt8->Option (Int×Bool)} (h:cH w a n f):a<w.heap.size:=by
 obtain ⟨D,b,_⟩:=h;exact b.lt
theorem cH.made (w:World):cH (w.alloc (.map #[] 0)) w.heap.size 0 (fun _=>none) :=
 ⟨.map [],World.ownsMap_made w _ _ _,fun a=>⟨rfl,fun p h=>by cases h⟩⟩
theorem cH.put {w:World} {b n:Nat} {f:List UInt8->Option (Int×Bool)} (h:cH w b n f) (r:n<1000) (s:ByteArray) (o:s.size<=maxLen) (p:Int×Bool) :
  ∃w',(Instr.mapUpdate 217 (.map (some b)) (.string s) (lZ p)).run prog w=.ok () w'/\cH w' b (n+1) (fM f s.data.toList p)/\w.grownBy w' (some b):=by
 obtain ⟨D,d,g⟩:=h;obtain ⟨w',m,l,k⟩:=d.update xO underlying217 uO (xN s o) (uE p);refine ⟨w',m,⟨_,l,fun c=>?_⟩,k⟩;have i:=d.isMap;by_cases e:c=s.data.toList
 ·subst e;refine ⟨?_,?_⟩
  ·rw[Maps.has_put_same i (u9 _)];simp[fM]
  ·intro q a z;simp only[fM,if_true,Option.some.injEq] at a;subst a;exact Maps.atKey_put_same i (u9 _) _ z
 ·have j:(Lit.string c)≠(Lit.string s.data.toList):=by intro h;cases h;exact e rfl
  refine ⟨?_,?_⟩
  ·rw[Maps.has_put_other j];simp only[fM,if_neg e];exact (g c).1
  ·intro q a z;simp only[fM,if_neg e] at a;rw[Maps.atKey_put_other j];exact (g c).2 q a z
theorem H2 (w:World):(zeroValue 255).run prog w=.ok (lZ (0,false)) w:=kR
theorem cH.look {w:World} {c n:Nat} {f:List UInt8->Option (Int×Bool)} (h:cH w c n f) (s:ByteArray) (i:s.size<=maxLen) :
  (Instr.lookup 217 (.map (some c)) (.string s) true).run prog w=.ok (.tuple #[lZ ((f s.data.toList).getD (0,false)),.bool (f s.data.toList).isSome]) w:=by
 obtain ⟨D,e,b⟩:=h;obtain ⟨v,ps,g,a⟩:=e.look_ok xO underlying217 (H2 w) (uE (0,false)) (xN s i);have j:v=lZ ((f s.data.toList).getD (0,false)):=by
  cases hq:f s.data.toList with
  | none =>
   have d:=(b s.data.toList).1;rw[hq] at d;rw[Maps.atKey_of_not_has d] at a;rw[uD a];rfl
  | some p =>
   rw[(b s.data.toList).2 p hq] at a;rw[uD a];rfl
 rw[g,(b s.data.toList).1,j]
theorem dr.same {w w':World} {v:Value} {ts:List (List UInt8)} (h:dr w v ts) (e:∀j,j<w.heap.size->w'.heap[j]?=w.heap[j]?) (k:w.heap.size<=w'.heap.size):dr w' v ts:=by
 obtain ⟨c,cap,l,i,h⟩:=h;refine ⟨c,cap,l,i,?_⟩;rcases h with h|⟨b,off,d,a,f⟩
 ·exact .inl h
 ·exact .inr ⟨b,off,d,kh a k,fun j g=>by rw[zv (w:=w) (e b a)];exact f j g⟩
theorem dr.set {w:World} {v:Value} {ts:List (List UInt8)} (h:dr w v ts) {a:Addr} (u:Value) (l:∀off s,w.cell? ⟨a.block,off,none⟩≠some (.string s)):dr (w.setCell a u) v ts:=by
 obtain ⟨f,cap,n,i,h⟩:=h;refine ⟨f,cap,n,i,?_⟩;rcases h with h|⟨b,off,g,k,c⟩
 ·exact .inl h
 ·refine .inr ⟨b,off,g,by simpa [World.setCell] using k,fun j d=>?_⟩;have m:b≠a.block:=fun e=>l (off+j) _ (by rw[<-e];exact c j d);rw[zv (w:=w) (kv _ _ _ _ m)];exact c j d
theorem cH.setCell {w:World} {b n:Nat} {f:List UInt8->Option (Int×Bool)} (h:cH w b n f) {a:Addr} (d:b≠a.block) (u:Value):cH (w.setCell a u) b n f:=by
 obtain ⟨D,c,e⟩:=h;exact ⟨D,c.setCell d u,e⟩
theorem H7 (x y:Value) (o:Nat) (s:ByteArray) (a:x≠.string s) (b:y≠.string s):(#[x,y]:Array Value)[o]?≠some (.string s):=by
 match o with
 | 0=>simpa using a
 | 1=>simpa using b
 | o+2=>simp
theorem Bz {w w':World} {a:Option Nat} (h:w.grownBy w' a):w.grownBy w'.drew a:=⟨h.os,h.tape,h.output,h.size,h.block⟩
theorem zN (v:Value) (ts:List (List UInt8)) (w:World) (s:dr w v ts) (o:1<=ts.length) :
  Calls prog 209 #[v] w fun e w'=>∃d c,e=.returned (J d ts.length c)/\dr w' (J d ts.length c) ts/\Below w.heap.size w w':=by
 obtain ⟨k,cap,rfl,u,q⟩:=s;obtain ⟨b,off,rfl,t,r⟩:∃b off,k=some ⟨b,off,none⟩/\b<w.heap.size/\∀j (h:j<ts.length),w.cell? ⟨b,off+j,none⟩=some (.string (lh ts[j])):=by
  rcases q with h|h
  ·subst h;exact absurd o sS
  ·exact h
 refine (Tryz.slices_Clone_string b off ts.length cap (ts.map lh) w sS oM (fun j a=>?_)).mono ?_
 ·have f:j<ts.length:=by simpa using a
  rw[r j f];simp[List.getD,List.getElem?_eq_getElem f]
 ·rintro e w' ⟨l,rfl,g,_,p⟩;suffices h:dr w' l ts by
   have n:=h;obtain ⟨d,c,rfl,_⟩:=n;exact ⟨d,c,rfl,h,p⟩
  have m:((ts.map lh).take ts.length).map Value.string=eW ts.length (fun i=>ts.getD i []):=by
   apply List.ext_getElem?;intro j;by_cases a:j<ts.length
   ·rw[my _ _ _ a];simp[List.getD,a]
   ·rw[List.getElem?_eq_none sO,List.getElem?_eq_none (by rw[nB];omega)]
  rw[m] at g;have:=dr.own g oM;rw[show (List.range ts.length).map (fun i=>ts.getD i [])=ts by
   apply List.ext_getElem?;intro j;by_cases a:j<ts.length
   ·simp[List.getD,a]
   ·rw[List.getElem?_eq_none sO,List.getElem?_eq_none oM]] at this
  exact this
theorem vF (v:Value) (ts:List (List UInt8)) (w:World) (hv:dr w v ts) (C:1<=ts.length) (h17:ts.length<=17) (T:∀i (h:i<ts.length),ts[i].length<=15) :
  Calls prog 177 #[v] w fun e w'=>∃S R n,e=.returned (.agg #[S,.map (some R)])/\dr w' S ts/\cH w' R n (cd ts ts.length)/\Below w.heap.size w w':=by
 have HV:=qH hv;obtain ⟨ao,ca,rfl,hla,W⟩:=hv;obtain ⟨b,off,hao,hbl,aa⟩:∃b off,ao=some ⟨b,off,none⟩/\b<w.heap.size/\∀j (h:j<ts.length),w.cell? ⟨b,off+j,none⟩=some (.string (lh ts[j])):=by
  rcases W with h|h
  ·subst h;exact absurd C sS
  ·exact h
 subst hao;have HCELL:=qH aa;clear aa W;have H15:=qH T;clear T;have hmm:=@run_makeMap prog;go_enter func177,ntmps177;go_wp2_with (go_at_call 209;refine (zN _ ts _ (HV.1.below (aq _ _) (kc _)) C).mono ?_;rintro e w1 ⟨g,f,rfl,ab,D⟩)
 have hsz1:w.heap.size+1<=w1.heap.size:=by have:=D.size;simpa using this
 have HCV:=qH ab;clear ab;obtain ⟨d,m⟩:∃d,d=(w1.alloc (.map #[] 0)).alloc (.cells #[J g ts.length f,.map (some w1.heap.size)] 219):=⟨_,rfl⟩;have A:=qH (show Below w1.heap.size w1 d by rw[m];exact ((kf _ _).alloc (kc _) _).alloc sS _);have HM2:=qH (show cH d w1.heap.size 0 (fun _=>none) by
  rw[m];exact (cH.made w1).kept (World.grownBy_alloc _ _ none) sS)
 have Q:=qH (show d.heap[w1.heap.size+1]?=some (.cells #[J g ts.length f,.map (some w1.heap.size)] 219 (0,0)) by
  rw[m];have h:=heap_alloc_new (w1.alloc (.map #[] 0)) (.cells #[J g ts.length f,.map (some w1.heap.size)] 219);rw[zB] at h;exact h)
 have HR2:=qH (show d.heap[w.heap.size]?=some (.cells #[J none 0 0,.map none] 219 (0,0)) by
  rw[A.1.block w.heap.size oM,D.block w.heap.size sS];exact heap_alloc_new w _)
 have B:=qH (show d.heap.size=w1.heap.size+2 by rw[m];simp);rw[<-m];clear m hmm;go_loopw [13] (fun i wr=>∃k:Nat,k<=ts.length/\i=Z G k/\cH wr w1.heap.size (16*k) (cd ts k)/\d.grownBy wr (some w1.heap.size)) (fun i _=>ts.length-(intOf i).toNat)
 case atStart=>exact ⟨0,kG _,rfl,HM2.1,World.grownBy.refl _ _⟩
 case round =>
  obtain ⟨k,hk,rfl,E,q⟩:=hrel;have U:∀j,j<w1.heap.size+2->j≠w1.heap.size->wr.heap[j]?=d.heap[j]?:=fun j C h2=>q.block j (by rw[B.1];exact C) (fun e=>h2 (by simpa using e));have r:=qH U;clear U;by_cases O:k<ts.length
  ·have c1:wr.cell? ⟨b,off+k,none⟩=some (.string (lh ts[k])):=by
    rw[zv (w:=d) (r.1 b oM oM),A.1.cell (p:=⟨b,off+k,none⟩) (by show b<_;omega),D.cell (p:=⟨b,off+k,none⟩) sO];rw[zv (w:=w) (kw w _ b hbl)];exact HCELL.1 k O
   have hd:decide ((k:Int)<(ts.length:Int))=true:=sO;have P:=qH (show cd ts (k+1)=kT (cd ts k) k ts[k] by rw[cd];simp[List.getD,O]);have hl15:=H15.1 k O;generalize ts[k]=c at *;have hss:(lh c).size=c.length:=bn c;by_cases z:c=[]
   ·subst z;have he:(lh ([]:List UInt8)).toList.isEmpty=true:=(by rw[Lib.toList_data,bP];rfl);have H:=qH (show kT (cd ts k) k []=cd ts k from if_pos rfl);go_wp2;go_roundw
    case rel=>exact ⟨k+1,oM,gN,by rw[P.1,H.1];exact E.mono oM,q⟩
    case measure=>simp[intOf];omega
   ·have hlen0:c.length≠0:=fun h=>z (xe h);have he:(lh c).toList.isEmpty=false:=(by rw[Lib.toList_data,bP];simpa using z);have H:=qH (show kT (cd ts k) k c=fM (kq (cd ts k) c (c.length-1)) c (k,true) by rw[kT,if_neg z]);clear z;go_wp2;go_loopw [6] (fun i wq=>∃j:Nat,j+1<=c.length/\i=Z G ((j:Int)+1)/\cH wq w1.heap.size (16*k+j) (kq (cd ts k) c j)/\d.grownBy wq (some w1.heap.size)) (fun i _=>c.length+1-(intOf i).toNat)
    case atStart=>exact ⟨0,oM,gN,E,q⟩
    case round =>
     obtain ⟨j,F,rfl,V,N⟩:=hrel;clear E q r;have X:∀u,(wr.drewN u).cell? ⟨w1.heap.size+1,1,none⟩=some (.map (some w1.heap.size)):=fun u=>by
      show wr.cell? _=_;rw[zv (w:=d) (N.block (w1.heap.size+1) (by rw[B.1];omega) sS),kb Q.1];rfl
     have Y:=X 0;have hcb0':wr.cell? ⟨w1.heap.size+1,1,none⟩=some (.map (some w1.heap.size)):=Y;clear X Y;by_cases hjl:j+1<c.length
     ·obtain ⟨w',y,s,t⟩:=V.drew.put oM ((lh c).extract 0 (j+1)) (by rw[Lib.extract_eq,bP];unfold maxLen;simp[ByteArray.size];omega) (0,false);have hrun:(Instr.mapUpdate 217 (.map (some w1.heap.size)) (.string ((lh c).extract 0 (j+1))) (.agg #[Z G 0,.bool false])).run prog wr.drew=.ok () w':=y;clear y;have L:=qH (show kq (cd ts k) c (j+1)=fM (kq (cd ts k) c j) ((lh c).extract 0 (j+1)).data.toList (0,false) by
       rw[kq,Lib.extract_data,bP];simp)
      have I:=qH s;have K:=qH t;clear s t;go_wp2;(go_region);go_wp2;go_roundw
      case rel=>exact ⟨j+1,oM,gN,by rw[L.1];exact I.1,(Bz N).trans K.1⟩
      case measure=>simp[intOf];omega
     ·obtain ⟨w',y,s,t⟩:=V.put oM (lh c) (by rw[hss];unfold maxLen;omega) ((k:Int),true);have hrun:(Instr.mapUpdate 217 (.map (some w1.heap.size)) (.string (lh c)) (.agg #[Z G (k:Int),.bool true])).run prog wr=.ok () w':=y;clear y;have L:=qH (show cd ts (k+1)=fM (kq (cd ts k) c j) (lh c).data.toList ((k:Int),true) by
       rw[P.1,H.1,bP,show c.length-1=j from oM])
      have I:=qH s;have K:=qH t;clear s t;go_wp2;go_roundw
      case rel=>exact ⟨k+1,oM,gN,by rw[L.1];exact I.1.mono oM,N.trans K.1⟩
      case measure=>simp[intOf];omega
  ·obtain rfl:k=ts.length:=oM;have M:=r.1 (w1.heap.size+1) oM oM;rw[Q.1] at M;have l:=r.1 w.heap.size oM oM;rw[HR2.1] at l;have c0:wr.cell? ⟨w1.heap.size+1,0,none⟩=some (J g ts.length f):=kb M _;have c1:wr.cell? ⟨w1.heap.size+1,1,none⟩=some (.map (some w1.heap.size)):=kb M _;have d0:wr.cell? ⟨w.heap.size,0,none⟩=some (J none 0 0):=kb l _;have d1:wr.cell? ⟨w.heap.size,1,none⟩=some (.map none):=kb l _;have f0:wr.frozen? ⟨w.heap.size,0,none⟩=false:=ka l 0;have f1:wr.frozen? ⟨w.heap.size,1,none⟩=false:=ka l 1;have HIT:=qH (show dr wr (J g ts.length f) ts from HCV.1.same (fun j F=>(r.1 j oM oM).trans (A.1.block j F)) (by have:=q.size;rw[B.1] at this;omega));have hbr2:=heap_setCell_same wr w.heap.size 0 _ _ (J g ts.length f) l;have HF:=qH (show Below w.heap.size w wr from (aG (aG (aq w _) D) A.1).grown q (by rw[B.1];omega) (fun j F=>by cases F;omega));go_wp2;refine bodyPost_ret (v:=.agg #[J g ts.length f,.map (some w1.heap.size)]) (by simp[results,results177,go_sem,d0,d1]) rfl ⟨_,w1.heap.size,16*ts.length,rfl,?_,?_,?_⟩
   ·refine (HIT.1.set (a:=⟨w.heap.size,0,none⟩) _ (fun o x h=>?_)).set (a:=⟨w.heap.size,1,none⟩) _ (fun o x h=>?_)
    ·rw[kb l] at h;exact absurd h (H7 _ _ _ _ sS sS)
    ·rw[kb hbr2] at h;exact absurd h (H7 _ _ _ _ sS sS)
   ·exact (E.setCell (a:=⟨w.heap.size,0,none⟩) (by show w1.heap.size≠w.heap.size;omega) _).setCell (a:=⟨w.heap.size,1,none⟩) (by show w1.heap.size≠w.heap.size;omega) _
   ·exact (HF.1.setCell (p:=⟨w.heap.size,0,none⟩) (kc _) _).setCell (p:=⟨w.heap.size,1,none⟩) (kc _) _
theorem yu (g:Value) (r:Nat) (ts:List (List UInt8)) (n:Int) (w:World) (x:dr w g ts) :
  Calls prog 181 #[.agg #[g,.map (some r)],Z G n] w (rT w (.tuple #[.string (lh (dd ts n)),Z G (jI ts n)])):=by
 obtain ⟨q,ca,rfl,z,e⟩:=x;have A:lh []=⟨#[]⟩:=rfl;by_cases i:n<0
 ·have a:=qH (show dd ts n=[] from if_neg oM);have c:=qH (show jI ts n=4 by rw[jI,a.1];rfl);clear e;have t:decide (n<0)=true:=by simpa using i
  go_enter func181,ntmps181;go_wp2;go_ret2;rw[c.1,a.1];exact ⟨rfl,aq _ _⟩
 ·have t:decide (n<0)=false:=by simpa using i
  by_cases l:(ts.length:Int)<=n
  ·have a:=qH (show dd ts n=[] from if_neg oM);have c:=qH (show jI ts n=4 by rw[jI,a.1];rfl);clear e;have u:decide ((ts.length:Int)<=n)=true:=(by simpa using l);go_enter func181,ntmps181;go_wp2;go_ret2;rw[c.1,a.1];exact ⟨rfl,aq _ _⟩
  ·have u:decide ((ts.length:Int)<=n)=false:=(by simpa using l);obtain ⟨k,rfl⟩:=kd (show 0<=n from oM);have f:k<ts.length:=oM;obtain ⟨b,off,rfl,s,m⟩:∃b off,q=some ⟨b,off,none⟩/\b<w.heap.size/\∀j (h:j<ts.length),w.cell? ⟨b,off+j,none⟩=some (.string (lh ts[j])):=by
    rcases e with h|h
    ·subst h;simp at f
    ·exact h
   have a:=qH (show dd ts k=ts[k] by rw[dd,if_pos oM];simp[List.getD,f]);have y:∀o,(w.alloc o).cell? ⟨b,off+k,none⟩=some (.string (lh ts[k])):=fun o=>by
    rw[zv (w:=w) (kw w o b s)];exact m k f
   clear m e;by_cases d:ts[k]=[]
   ·have c:=qH (show jI ts k=4 by rw[jI,a.1,d];rfl);have v:(lh ts[k]).toList.isEmpty=true:=(by rw[Lib.toList_data,bP,d];rfl);have p:=qH d;clear d;go_enter func181,ntmps181;go_wp2;go_ret2;rw[c.1,a.1,p.1];exact ⟨rfl,aq _ _⟩
   ·have c:=qH (show jI ts k=0 by rw[jI,a.1,if_neg d]);have v:(lh ts[k]).toList.isEmpty=false:=(by rw[Lib.toList_data,bP];simpa using d);clear d;go_enter func181,ntmps181;go_wp2;go_ret2;rw[c.1,a.1];exact ⟨rfl,aq _ _⟩
def dt (w:World) (b c:Nat) (a:List UInt8) (pos:Nat):Prop :=
 w.heap[b]?=some (.cells #[Z G pos] 3 (0,0))/\w.heap[c]?=some (.cells #[.string (lh a)] 9 (0,0))/\pos<=a.length/\a.length<=281474976710656
theorem dt.ne {w:World} {a b:Nat} {c:List UInt8} {pos:Nat} (h:dt w a b c pos):a≠b:=by
 intro e;subst e;have:=h.1.symm.trans h.2.1;simp at this
theorem dt.below {w w':World} {a b:Nat} {c:List UInt8} {pos:Nat} (h:dt w a b c pos) (d:Below w.heap.size w w'):dt w' a b c pos :=
 ⟨by rw[d.block a (lS h.1)];exact h.1,by rw[d.block b (lS h.2.1)];exact h.2.1,h.2.2⟩
theorem dt.lt {w:World} {a b:Nat} {c:List UInt8} {pos:Nat} (h:dt w a b c pos):a<w.heap.size/\b<w.heap.size :=
 ⟨(lS h.1),(lS h.2.1)⟩
theorem dt.moved {w:World} {a c:Nat} {b:List UInt8} {pos:Nat} (h:dt w a c b pos) (d:pos<b.length):dt (w.setCell ⟨a,0,none⟩ (Z G ((pos:Int)+1))) a c b (pos+1):=by
 refine ⟨?_,?_,oM,h.2.2.2⟩
 ·have:=heap_setCell_same w a 0 _ _ (Z G ((pos:Int)+1)) h.1;rw[this];rfl
 ·rw[kv _ _ _ _ (fun e=>h.ne e.symm)];exact h.2.1
theorem xV (b c:Nat) (a:List UInt8) (w:World) (h:dt w b c a a.length) :
  Calls prog 217 #[.pointer (some ⟨b,0,none⟩),.pointer (some ⟨c,0,none⟩)] w (rQ w (.tuple #[.int .u8 0,.bool false])):=by
 have d:w.cell? ⟨b,0,none⟩=some (Z G a.length):=kb h.1 _;have e:w.cell? ⟨c,0,none⟩=some (.string (lh a)):=kb h.2.1 _;have f:(lh a).size=a.length:=bn a;clear h;go_enter func217,ntmps217;go_wp2;go_ret2;exact ⟨rfl,rfl⟩
theorem xW (b c:Nat) (a:List UInt8) (pos:Nat) (w:World) (h:dt w b c a pos) (d:pos<a.length) :
  Calls prog 217 #[.pointer (some ⟨b,0,none⟩),.pointer (some ⟨c,0,none⟩)] w fun e w'=>e=.returned (.tuple #[.int .u8 (a[pos].toNat:Nat),.bool true])/\w.setCell ⟨b,0,none⟩ (Z G ((pos:Int)+1))=w':=by
 have i:w.cell? ⟨b,0,none⟩=some (Z G pos):=kb h.1 _;have k:w.frozen? ⟨b,0,none⟩=false:=ka h.1 0;have j:w.cell? ⟨c,0,none⟩=some (.string (lh a)):=kb h.2.1 _;have m:=h.ne;have f:(lh a).size=a.length:=bn a;have l:=h.2.2.2;have n:pos<(lh a).size:=by rw[f];exact d
 have g:=qH (show (lh a)[pos].toNat=a[pos].toNat from rfl);have o:((pos:Int) == (a.length:Int))=false:=sO;clear h;go_enter func217,ntmps217;go_wp2;go_ret2;exact ⟨rfl,rfl⟩
theorem ve (b c:Nat) (a:List UInt8) (pos:Nat) (w:World) (h:dt w b c a pos) :
  Calls prog 218 #[.pointer (some ⟨c,0,none⟩),.pointer (some ⟨b,0,none⟩)] w (rQ w (.string (lh (a.drop pos)))):=by
 have e:w.cell? ⟨b,0,none⟩=some (Z G pos):=kb h.1 _;have f:w.cell? ⟨c,0,none⟩=some (.string (lh a)):=kb h.2.1 _;have i:(lh a).size=a.length:=bn a;have g:=h.2.2.1;have d:=qH (show (lh a).extract pos a.length=lh (a.drop pos) by rw[Lib.extract_eq,bP,xc (by rw[zs];exact kc _)];rfl);clear h;go_enter func218,ntmps218;go_wp2;go_ret;exact ⟨congrArg (fun x=>Ending.returned (.string x)) d.1,rfl⟩
theorem Gz (c:List UInt8) (d:c.length<=281474976710656) (w:World) :
  Calls prog 202 #[.string (lh c)] w fun e w'=>∃a b,e=.returned (.tuple #[.func (.func 217) #[] #[.pointer (some ⟨a,0,none⟩),.pointer (some ⟨b,0,none⟩)],.func (.func 218) #[] #[.pointer (some ⟨b,0,none⟩),.pointer (some ⟨a,0,none⟩)]]) /\
   dt w' a b c 0/\w.heap.size<=a/\w.heap.size<=b/\Below w.heap.size w w':=by
 go_enter func202,ntmps202;go_wp2;go_ret2;refine ⟨w.heap.size+1,w.heap.size,rfl,⟨?_,?_,oM,d⟩,oM,oM,?_⟩
 ·have h:=heap_alloc_new (w.alloc (.cells #[.string (lh c)] 9)) (.cells #[Z G 0] 3);rw[zB] at h;exact h
 ·rw[kw _ _ _ sS];exact heap_alloc_new w _
 ·exact aG (aq w _) (aq _ _)
theorem C0 (f:List UInt8->Option (Int×Bool)) (a rest:List UInt8):(aQ f a rest).2.2<=rest.length:=by
 induction rest generalizing a with
 | nil=>exact kc _
 | cons c rest ih =>
  rw[aQ];split
  ·simp
  ·simp
  ·have:=ih (a++[c]);simp;omega
def ft (f:List UInt8->Option (Int×Bool)) (rest:List UInt8) (j:Nat):Prop :=
 aQ f [] rest=((aQ f (rest.take j) (rest.drop j)).1,(aQ f (rest.take j) (rest.drop j)).2.1,j+(aQ f (rest.take j) (rest.drop j)).2.2)
theorem ft.start (f:List UInt8->Option (Int×Bool)) (rest:List UInt8):ft f rest 0:=by simp[ft]
theorem rz (rest:List UInt8) (j:Nat) (h:j<rest.length):rest.drop j=rest[j]::rest.drop (j+1):=List.drop_eq_getElem_cons h
theorem ft.short {f:List UInt8->Option (Int×Bool)} {rest:List UInt8} {j:Nat} (h:ft f rest j) (a:j=rest.length):aQ f [] rest=(0,5,j):=by
 unfold ft at h;rw[h,List.drop_of_length_le oM];rfl
theorem ft.none {f:List UInt8->Option (Int×Bool)} {rest:List UInt8} {j:Nat} (h:ft f rest j) (b:j<rest.length) (a:f (rest.take (j+1))=.none):aQ f [] rest=(0,4,j+1):=by
 unfold ft at h;rw[ko b] at a;rw[h,rz rest j b,aQ,a]
theorem ft.found {f:List UInt8->Option (Int×Bool)} {rest:List UInt8} {j:Nat} (h:ft f rest j) (b:j<rest.length) {n:Int} (a:f (rest.take (j+1))=some (n,true)):aQ f [] rest=(n,0,j+1):=by
 unfold ft at h;rw[ko b] at a;rw[h,rz rest j b,aQ,a]
theorem ft.more {f:List UInt8->Option (Int×Bool)} {rest:List UInt8} {j:Nat} (h:ft f rest j) (b:j<rest.length) {n:Int} (a:f (rest.take (j+1))=some (n,false)):ft f rest (j+1):=by
 unfold ft at h |-;have e:=ko b;rw[e] at a;rw[h,rz rest j b,aQ,a];simp only[e];congr 2;omega
structure gU (w wr:World) (bm n:Nat) (f:List UInt8->Option (Int×Bool)) (ba bb:Nat) (bits:List UInt8) (p:Nat):Prop where
 cell:wr.cell? ⟨w.heap.size,1,none⟩=some (.map (some bm))
 book:cH wr bm n f
 taker:dt wr ba bb bits p
 grown:w.grownBy wr (some ba)
 size:w.heap.size+1<=wr.heap.size
theorem gU.other {w wr i:World} {g n:Nat} {f:List UInt8->Option (Int×Bool)} {b c:Nat} {j:List UInt8} {p:Nat} (h:gU w wr g n f b c j p) (t:b<w.heap.size) (u:c<w.heap.size) (v:g<w.heap.size)
  {o:Option Nat} (a:wr.grownBy i o) (m:∀k,o=some k->w.heap.size+1<=k):gU w i g n f b c j p:=by
 have r:=h.grown.size;have s:=h.size;have d:∀k,k<w.heap.size+1->i.heap[k]?=wr.heap[k]?:=fun k l=>a.block k oM (fun e=>by have:=m k e.symm;omega);refine ⟨?_,?_,?_,?_,km s a.size⟩
 ·rw[zv (w:=wr) (d w.heap.size oM)];exact h.cell
 ·exact h.book.kept a (fun e=>by have:=m g e.symm;omega)
 ·exact ⟨by rw[d b oM];exact h.taker.1,by rw[d c oM];exact h.taker.2.1,h.taker.2.2⟩
 ·refine ⟨a.os.trans h.grown.os,a.tape.trans h.grown.tape,a.output.trans h.grown.output,km r a.size,fun k l q=>?_⟩;rw[d k oM];exact h.grown.block k l q
theorem gU.alloc {w wr:World} {c n:Nat} {f:List UInt8->Option (Int×Bool)} {a b:Nat} {d:List UInt8} {p:Nat} (h:gU w wr c n f a b d p) (e:a<w.heap.size) (g:b<w.heap.size) (i:c<w.heap.size) (o:Obj):gU w (wr.alloc o) c n f a b d p :=
 h.other e g i (World.grownBy_alloc wr o none) sS
theorem gU.taken {w wr:World} {c n:Nat} {f:List UInt8->Option (Int×Bool)} {a d:Nat} {b:List UInt8} {p:Nat} (h:gU w wr c n f a d b p) (m:a<w.heap.size) (j:c≠a) (l:p<b.length) :
  gU w (wr.setCell ⟨a,0,none⟩ (Z G ((p:Int)+1))) c n f a d b (p+1):=by
 refine ⟨?_,h.book.setCell j _,h.taker.moved l,?_,by simpa [World.setCell] using h.size⟩
 ·rw[zv (w:=wr) (kv _ _ _ _ (by show w.heap.size≠a;omega))];exact h.cell
 ·refine ⟨h.grown.os,h.grown.tape,h.grown.output,by simpa [World.setCell] using h.grown.size,fun k i g=>?_⟩;rw[kv _ _ _ _ (fun e=>g (by rw[e]))];exact h.grown.block k i g
theorem Ck {w:World} {a n:Nat} {f:List UInt8->Option (Int×Bool)} {l:List UInt8} (h:cH w a n f) (c:(lh l).size<=maxLen) (b:f l=none) :
  (Instr.lookup 217 (.map (some a)) (.string (lh l)) true).run prog w=.ok (.tuple #[.agg #[Z G 0,.bool false],.bool false]) w:=by
 rw[h.look (lh l) c,bP,b];rfl
theorem vj {w:World} {a n:Nat} {f:List UInt8->Option (Int×Bool)} {l:List UInt8} {m:Int} {b:Bool} (h:cH w a n f) (d:(lh l).size<=maxLen) (c:f l=some (m,b)) :
  (Instr.lookup 217 (.map (some a)) (.string (lh l)) true).run prog w=.ok (.tuple #[.agg #[Z G m,.bool b],.bool true]) w:=by
 rw[h.look (lh l) d,bP,c];rfl
theorem se {w:World} {base:Nat} {e:TypeId} {v:Value} {k:Nat} {xs:List Value} {l:List UInt8} (a:aP l=xs) (b:l.length=k) (h:w.ownsRow base e 1 v k xs):w.ownsRow base e 1 v l.length (aP l):=by
 rw[a,b];exact h
def lenOf:Value->Nat | J _ n _=>n|_=>0
theorem C2 (cv:Value) (ca:Option Addr) (cl cc:Nat) (L:cv=J ca cl cc) (r n:Nat) (f:List UInt8->Option (Int×Bool)) (d p:Nat) (b:List UInt8) (pos:Nat) (w:World) (O:cH w r n f) (hfl:∀key,f key≠none->key.length<=100) (E:dt w d p b pos) :
  Calls prog 219 #[.agg #[cv,.map (some r)],.func (.func 217) #[] #[.pointer (some ⟨d,0,none⟩),.pointer (some ⟨p,0,none⟩)]] w fun e w' =>
   e=.returned (.tuple #[Z G (aQ f [] (b.drop pos)).1,Z G (aQ f [] (b.drop pos)).2.1])/\dt w' d p b (pos+(aQ f [] (b.drop pos)).2.2)/\w.grownBy w' (some d):=by
 subst L;obtain ⟨S,M,P,Q,R⟩:=info_parts Tryz.infoU8;obtain ⟨k,l⟩:=E.lt;have o:=O.lt;have hple:=E.2.2.1;have hbl:=E.2.2.2;have hma:r≠d:=by
  intro e;subst e;obtain ⟨D,⟨es,clock,hh,_⟩,_⟩:=O;have:=hh.symm.trans E.1;simp at this
 have hrl:(b.drop pos).length=b.length-pos:=by rw[zs]
 have HM:=qH O;clear O;have HT:=qH E;clear E;have HFL:=qH hfl;clear hfl;obtain ⟨rest,ab⟩:∃rest,rest=b.drop pos:=⟨_,rfl⟩;have HREST:=qH ab;rw[<-ab] at hrl |-;clear ab;go_enter func219,ntmps219;go_wp2_with (at_make;refine wpList_make_own _ rfl _ _ 74 rfl (w.heap.size+1) 5 S (.int .u8 0) 1 underlying74 M P Q .i64 .i64 _ 15 rfl rfl rfl (by rw[R];decide) dD sS ?_;intro w1 Y hgr)
 have hinv:gU w w1 r n f d p b (pos+0):=by
  have h0:gU w (w.alloc (.cells #[J ca cl cc,.map (some r)] 219)) r n f d p b pos:=by
   refine ⟨?_,HM.1.kept (World.grownBy_alloc w _ none) sS,?_,?_,sS⟩
   ·rw[kb (heap_alloc_new w _)];rfl
   ·exact HT.1.below (aq w _)
   ·exact World.grownBy_alloc w _ _
  exact h0.other k l o hgr sS
 have HI:=au hinv;clear hinv hgr;go_loopw [6] (fun t wr=>∃j:Nat,j<=rest.length/\j<=100/\(∃V cap,t=J V j cap)/\wr.ownsRow (w.heap.size+1) 5 1 t j (aP (rest.take j))/\Hid (gU w wr r n f d p b (pos+j))/\Hid (ft f rest j))
  (fun t _=>rest.length+1-lenOf t)
 case atStart=>exact ⟨0,kG _,oM,⟨_,_,rfl⟩,by rw[zB] at Y;exact Y,HI,ft.start f rest⟩
 case round =>
  obtain ⟨j,hj,hj100,⟨V,cap,rfl⟩,ho,z,I⟩:=hrel;clear Y HI;by_cases N:j<rest.length
  ·have aa:pos+j<b.length:=oM;have HC:=qH (show b[pos+j]=rest[j] by
    have h:=HREST.1;subst h;rw[List.getElem_drop])
   have hc:=rest[j].toNat_lt;have T:=qH (show aP (rest.take (j+1))=aP (rest.take j)++[.int .u8 (rest[j].toNat:Nat)] by
    rw[ko N,jl];rfl)
   (go_wp2_with fail);refine (xW d p b (pos+j) _ z.out.taker aa).mono ?_;rintro e y ⟨rfl,ac⟩;rw[HC.1];have C:y.ownsRow (w.heap.size+1) 5 1 (J V j cap) j (aP (rest.take j)):=by
    rw[<-ac];exact ownsRow_setCell_below ho (a:=⟨d,0,none⟩) (by show d<_;omega) _
   have K:=qH (show gU w y r n f d p b (pos+j+1) by rw[<-ac];exact z.out.taken k hma aa);have hsz3:w.heap.size+1<=y.heap.size:=K.1.size;clear ac ho z aa HC;generalize rest[j].toNat=c at *;have hrb:rest.length<=281474976710656:=oM;have X:(rest.take (j+1)).length=j+1:=(by rw[zo];omega);have W:(lh (rest.take (j+1))).size<=maxLen:=(by rw[bn,X];unfold maxLen;omega);have A:=qH X;clear X;have U:Hid (pos+(j+1)=pos+j+1):=(by show _=_;omega);cases hfk:f (rest.take (j+1)) with
   | none =>
    have HN:=au (I.out.none N hfk);(go_wp2_with (at_builtin;refine wpList_append_own _ rfl _ _ 74 rfl (w.heap.size+1) 5 S (.int .u8 0) 1 1 underlying74 M P Q R rfl dD _ _ _ rfl (C.alloc _) ⟨y.heap.size,0,none⟩ 1 1 [.int .u8 (c:Nat)] rfl rfl ?_ ?_ ?_ ?_ ?_ ?_;(intro a u g;obtain ⟨rfl,rfl⟩:=kE g;simp[Addr.add]);(intro u g;simp at g;subst g;rfl);(unfold maxLen;omega);omega;(simp;omega);intro v' w4 v s F;clear F;have i:=qH ((K.1.alloc k l o _).other k l o s (fun q H=>(C.lt q H).1));have c4:=i.1.cell;have x:=qH (se T.1 A.1 v);have L:=ot (dst:=9) underlying74 underlying5 underlying9 x.1;have hlook:=Ck i.1.book W hfk;clear s v));go_ret2;rw[HN.out];exact ⟨rfl,by rw[U.out];exact (i.1.alloc k l o _).taker,(i.1.alloc k l o _).grown⟩
   | some q =>
    obtain ⟨m,wh⟩:=q;cases wh with
    | true =>
     have HN:=au (I.out.found N hfk);(go_wp2_with (at_builtin;refine wpList_append_own _ rfl _ _ 74 rfl (w.heap.size+1) 5 S (.int .u8 0) 1 1 underlying74 M P Q R rfl dD _ _ _ rfl (C.alloc _) ⟨y.heap.size,0,none⟩ 1 1 [.int .u8 (c:Nat)] rfl rfl ?_ ?_ ?_ ?_ ?_ ?_;(intro a u g;obtain ⟨rfl,rfl⟩:=kE g;simp[Addr.add]);(intro u g;simp at g;subst g;rfl);(unfold maxLen;omega);omega;(simp;omega);intro v' w4 v s F;clear F;have i:=qH ((K.1.alloc k l o _).other k l o s (fun q H=>(C.lt q H).1));have c4:=i.1.cell;have x:=qH (se T.1 A.1 v);have L:=ot (dst:=9) underlying74 underlying5 underlying9 x.1;have hlook:=vj i.1.book W hfk;clear s v));go_ret2;rw[HN.out];exact ⟨rfl,by rw[U.out];exact (i.1.alloc k l o _).taker,(i.1.alloc k l o _).grown⟩
    | false =>
     have HN:=au (I.out.more N hfk);have hj101:j+1<=100:=(by have h:=HFL.1 (rest.take (j+1)) (by rw[hfk];simp);rw[A.1] at h;exact h);(go_wp2_with (at_builtin;refine wpList_append_own _ rfl _ _ 74 rfl (w.heap.size+1) 5 S (.int .u8 0) 1 1 underlying74 M P Q R rfl dD _ _ _ rfl (C.alloc _) ⟨y.heap.size,0,none⟩ 1 1 [.int .u8 (c:Nat)] rfl rfl ?_ ?_ ?_ ?_ ?_ ?_;(intro a u g;obtain ⟨rfl,rfl⟩:=kE g;simp[Addr.add]);(intro u g;simp at g;subst g;rfl);(unfold maxLen;omega);omega;(simp;omega);intro v' w4 v s F;clear F;have i:=qH ((K.1.alloc k l o _).other k l o s (fun q H=>(C.lt q H).1));have c4:=i.1.cell;have x:=qH (se T.1 A.1 v);have L:=ot (dst:=9) underlying74 underlying5 underlying9 x.1;have hlook:=vj i.1.book W hfk;clear s v));go_roundw
     case rel =>
      have B:=x.1;rw[A.1] at B;exact ⟨j+1,oM,hj101,wd B,B.alloc _,by show gU _ _ _ _ _ _ _ _ _;rw[U.out];exact i.1.alloc k l o _,HN⟩
     case measure =>
      have B:=x.1;rw[A.1] at B;obtain ⟨ao',cap',hv'⟩:=wd B;rw[hv'];simp only[lenOf];omega
  ·obtain rfl:j=rest.length:=oM;have HS:=qH (I.out.short rfl);have hend:pos+rest.length=b.length:=oM;have HTK:=qH (show dt wr d p b b.length by have h:=z.out.taker;rw[hend] at h;exact h);(go_wp2_with (go_at_call 217;refine (xV d p b _ HTK.1).mono ?_;rintro e y ⟨rfl,rfl⟩));go_ret2;rw[HS.1];exact ⟨rfl,z.out.taker,z.out.grown⟩
theorem qF (xs:List Int) (a:fd xs=true):∀i (h:i<(aJ xs).length),(aJ xs)[i].length<=15:=by
 intro i h;rw[eY] at h;rw[yw xs i h];exact yv xs a i
def eb (xs:List Int):List UInt8->Option (Int×Bool):=cd (aJ xs) (aJ xs).length
theorem zi (xs:List Int) (e:fd xs=true):∀a,eb xs a≠none->a.length<=100:=by
 intro a h;refine Decidable.byContradiction fun d=>h ?_;refine t8 _ _ _ fun i b f=>d ?_;have g:=qF xs e i b;have c:=f.length_le;rw[show (aJ xs).getD i []=(aJ xs)[i] by simp[List.getD,b]] at c;omega
theorem xJ (xs:List Int) (d:aU xs=0):∃i,i<(aJ xs).length/\(aJ xs).getD i []≠[]:=by
 obtain ⟨_,_,m,k,_⟩:=fW d;have g:gt xs=true:=by
  cases h:gt xs with
  | true=>rfl
  | false=>have:=(yg xs).2 h;omega
 obtain ⟨x,j,c⟩:=List.any_eq_true.1 g;obtain ⟨i,a,rfl⟩:=List.getElem_of_mem j;refine ⟨i,by rw[eY];exact a,?_⟩;have e:(aJ xs).getD i []=d8 xs i:=by simp[List.getD,aJ,a]
 have b:xs.getD i 0=xs[i]:=by simp[List.getD,List.getElem?_eq_getElem a]
 have l:0<xs[i]:=by simpa using c
 rw[e,d8,b,if_pos oM];intro h;have f:=congrArg List.length h;rw[dW,List.length_nil] at f;omega
theorem BE (l:List UInt8):decide (0<=Lib.indexByte l 49)=dV l:=by
 have f:∀l:List UInt8,-1<=Lib.indexByte l 49/\(0<=Lib.indexByte l 49↔dV l=true):=by
  intro l
  induction l with
  | nil=>exact ⟨dD,dD⟩
  | cons b l ih =>
   obtain ⟨g,e⟩:=ih;simp only[Lib.indexByte,dV,List.any_cons] at *;by_cases c:(b == 49)=true
   ·rw[if_pos c,c];simp
   ·rw[if_neg c];by_cases a:(Lib.indexByte l 49 == -1)=true
    ·rw[if_pos a];have a:Lib.indexByte l 49=-1:=(by simpa using a);rw[a] at e;refine ⟨dD,?_⟩;have d:(b == 49)=false:=(by simpa using c);rw[d,Bool.false_or,<-e]
    ·rw[if_neg a];have a:Lib.indexByte l 49≠-1:=(by simpa using a);have d:(b == 49)=false:=(by simpa using c);refine ⟨oM,?_⟩;rw[d,Bool.false_or,<-e];omega
 rw[Bool.eq_iff_iff,decide_eq_true_eq];exact (f l).2
theorem qZ (l:List UInt8) (w:World) :
  Calls prog 200 #[.string (lh l),.string ⟨#[49]⟩] w (rQ w (.bool (dV l))):=by
 refine (Tryz.strings_Contains_one (lh l) 49 w).mono ?_;rintro e w' ⟨rfl,rfl⟩;rw[bP,BE];exact ⟨rfl,rfl⟩
theorem GT (L:List UInt8) (D:Nat) (i:D<=L.length) (_hL:L.length<=140737488355328) (a:Nat) (w:World) (b:w.heap[a]?=some (.cells #[.string (lh L)] 9 (0,0))) :
  Calls prog 198 #[Z G D,.pointer (some ⟨a,0,none⟩)] w fun e w'=>e=.returned (.string (lh (L.take D)))/\w.setCell ⟨a,0,none⟩ (.string (lh (L.drop D)))=w':=by
 have f:w.cell? ⟨a,0,none⟩=some (.string (lh L)):=kb b _;have g:w.frozen? ⟨a,0,none⟩=false:=ka b 0;have j:(lh L).size=L.length:=bn L;have c:=qH (show (lh L).extract 0 D=lh (L.take D) by rw[Lib.extract_eq];simp[lh]);have d:=qH (show (lh L).extract D L.length=lh (L.drop D) by rw[Lib.extract_eq,bP,xc (by rw[zs];exact kc _)];rfl);generalize lh L=S at *;clear b;go_enter func198,ntmps198;go_wp2;go_ret;exact ⟨congrArg (fun x=>Ending.returned (.string x)) c.1,by rw[<-d.1]⟩
def jG (b:List UInt8) (D n k:Nat):List Value:=(dG b D k).map (Z .i64)++List.replicate (n-k) (Z G 0)
theorem GS (b:List UInt8) (D n:Nat):jG b D n 0=(madeCells (Z .i64 0).cells (n*1)).toList:=by
 rw[show (Z .i64 0).cells=#[Z .i64 0] from rfl,toList_madeCells_one];simp[jG,dG]
theorem GQ (b:List UInt8) (D n k:Nat) (h:k<n):(jG b D n k)[k]?=some (Z G 0):=by
 rw[jG,List.getElem?_append_right (by simp[jg]),zl,jg,Nat.sub_self,List.getElem?_replicate,if_pos oM]
theorem GR (b:List UInt8) (D n k:Nat) (h:k<n):(jG b D n k).set k (Z G (bS ((b.drop (k*D)).take D):Int))=jG b D n (k+1):=by
 rw[jG,jG,qD,List.set_append_right _ _ (by simp[jg]),zl,jg,Nat.sub_self,show n-k=(n-(k+1))+1 from oM,List.replicate_succ,List.set_cons_zero];simp
theorem GP (b:List UInt8) (D n:Nat):jG b D n n=(dG b D n).map (Z .i64):=by simp[jG]
theorem GW (s:ByteArray) (D n:Nat) (hD1:1<=D) (y:D<=16) (hn:n<=4096) (Y:s.size=(n*D+7) / 8) (w:World) :
  Calls prog 166 #[.string s,Z G D,Z G n] w fun e w'=>∃v,e=.returned (.tuple #[v,Z G (if dV ((aF s.data.toList).drop (n*D))=true then 1 else 0)]) /\
   ap w' v (if dV ((aF s.data.toList).drop (n*D))=true then [] else dG (aF s.data.toList) D n)/\Below w.heap.size w w':=by
 obtain ⟨i0,W,hz0,hz1,hz2⟩:=info_parts Tryz.infoInt;have hd:dM D=true:=by simp[dM];omega
 have hm:(n*D:Nat)<=65536:=km (zR hn y) dD;obtain ⟨m,g⟩:∃m:Nat,m=n*D:=⟨_,rfl⟩;have hmi:(n:Int)*(D:Int)=(m:Int):=by rw[g];simp
 have x:=qH g;rw[<-g] at hm Y |-;clear g;have hn0:decide ((n:Int)<0)=false:=sS;have hn1:decide (4096<(n:Int))=false:=sO;have hne:((s.size:Int) != ((m:Int)+7) / 8)=false:=sO;have hsz:s.size<=17592186044416:=oM;have K:=qH (kp s.data.toList);have M:=qH (show m<=(aF s.data.toList).length by rw[ig,gj];omega);have O:=qH (show (aF s.data.toList).length<=140737488355328 by rw[ig,gj];omega);generalize z:aF s.data.toList=R at *;have N:=qH z;clear z;go_enter func166,ntmps166;go_wp2_with (first|(go_at_call 172;refine (nZ _ _).mono ?_;rintro e w1 ⟨rfl,rfl⟩)|(go_at_call 196;refine (qV _ oM oM _).mono ?_;rintro e w1 ⟨rfl,rfl⟩)|(go_at_call 197;refine (tW _ hsz _).mono ?_;rintro e w1 ⟨rfl,d⟩;rw[N.1])|(at_make;refine wpList_make_full _ rfl _ _ 52 rfl (w1.heap.size+1) 3 i0 (Z G 0) 1 underlying52 W hz0 hz1 .i64 .i64 _ _ n rfl rfl rfl rfl (by rw[hz2];omega) uO sS ?_;intro w2 r f))
 have A:Below w.heap.size w w2:=((d.alloc d.size _).grown f (by have:=d.size;simp;omega) sS);have B:w2.heap[w1.heap.size]?=some (.cells #[.string (lh R)] 9 (0,0)):=by
  rw[f.block w1.heap.size sS sS];exact heap_alloc_new w1 _
 have hs2:w1.heap.size+1<=w2.heap.size:=by have:=f.size;simpa using this
 have H:=d.size;clear f;go_loopw [35] (fun i wr=>∃k:Nat,k<=n/\i=Z G k/\wr.heap[w1.heap.size]?=some (.cells #[.string (lh (R.drop (k*D)))] 9 (0,0)) /\
   wr.ownsRow (w1.heap.size+1) 3 1 (J (some ⟨w1.heap.size+1,0,none⟩) n n) n (jG R D n k)/\Below w.heap.size w wr)
  (fun i _=>n-(intOf i).toNat)
 case atStart=>exact ⟨0,kG _,rfl,by simpa using B,by rw[GS];rw[show (w1.alloc (Obj.cells #[Value.string (lh R)] 9)).heap.size=w1.heap.size+1 from sS] at r;exact r,A⟩
 case round =>
  obtain ⟨k,hk,rfl,c,b,j⟩:=hrel;clear r B A;by_cases o:k<n
  ·have E:(k+1)*D<=m:=(by rw[x.1];exact xa _ o);rw[yb] at E;have S:D<=(R.drop (k*D)).length:=(by have:=M.1;rw[zs];omega);have T:(R.drop (k*D)).length<=140737488355328:=(by have:=O.1;rw[zs];omega);have I:=qH (show bz ((R.drop (k*D)).take D)=true from jO (iH K.1 _) _);have l:((R.drop (k*D)).take D).length=D:=(by rw[zo];omega);have hV:oE (lh ((R.drop (k*D)).take D))=bS ((R.drop (k*D)).take D):=if_pos ⟨I.1,by rw[bn,l];exact y⟩;have U:(lh ((R.drop (k*D)).take D)).size<=maxLen:=(by rw[bn,l];unfold maxLen;omega);have Q:=b.cellAt k oM;rw[GQ R D n k o] at Q;have f1:=b.frozenAt k;have P:=qH (GR R D n k o);have u:=qH (show (R.drop (k*D)).drop D=R.drop ((k+1)*D) by rw[List.drop_drop,yb]);clear E l;generalize R.drop (k*D)=L at *;generalize bS (L.take D)=V at *;(go_wp2_with (first|(go_at_call 198;refine (GT L D S T w1.heap.size _ c).mono ?_;rintro e t ⟨rfl,rfl⟩)|(go_at_call 199;refine (G1 _ _ U).mono ?_;rintro e t ⟨rfl,rfl⟩)));have q:=((ownsRow_setCell_below b (a:=⟨w1.heap.size,0,none⟩) (Nat.lt_succ_self _) (.string (lh (L.drop D)))).stored k (Z G (V:Int))).1;rw[P.1] at q;have C:((wr.setCell ⟨w1.heap.size,0,none⟩ (.string (lh (L.drop D)))).setCell ⟨w1.heap.size+1,k,none⟩ (Z G (V:Int))).heap[w1.heap.size]?=some (.cells #[.string (lh (L.drop D))] 9 (0,0)):=by
    rw[kv _ _ _ _ sS];exact heap_setCell_same wr w1.heap.size 0 _ _ _ c
   rw[u.1] at C q;go_roundw
   case rel =>
    rw[u.1];exact ⟨k+1,oM,gN,C,q,(j.setCell (p:=⟨w1.heap.size,0,none⟩) H _).setCell (p:=⟨w1.heap.size+1,k,none⟩) (Nat.le_succ_of_le H) _⟩
   case measure=>simp[intOf];omega
  ·obtain rfl:k=n:=oM;rw[GP] at b;rw[<-x.1] at c;have c0:wr.cell? ⟨w1.heap.size,0,none⟩=some (.string (lh (R.drop m))):=kb c _;have X:ap wr (J (some ⟨w1.heap.size+1,0,none⟩) k k) (dG R D k):=ap.own (by rw[jg];exact b) (by rw[jg];omega);clear b c;by_cases F:dV (R.drop m)=true
   ·(go_wp2_with (go_at_call 200;refine (qZ _ _).mono ?_;rintro e t ⟨rfl,rfl⟩));go_ret2;exact ⟨_,rfl,ap.nil _,j⟩
   ·have F:dV (R.drop m)=false:=(by simpa using F);(go_wp2_with (go_at_call 200;refine (qZ _ _).mono ?_;rintro e t ⟨rfl,rfl⟩));go_ret2;exact ⟨_,rfl,X,j⟩
theorem vz {d n:Int} (e:1<=d) (f:d<=16) (c:0<=n) (g:n<=4096):0<=n*d/\n*d<=65536:=by
 obtain ⟨a,rfl⟩:=kd c;obtain ⟨b,rfl⟩:=kd (show 0<=d from oM);have h:a*b<=4096*16:=zR oM oM;rw[<-Int.natCast_mul];omega
theorem yf (s:List UInt8) (d n:Int) :
  (eM s d n=3/\en s d n=[]/\(dM d=false\/(dM d=true/\n<0))) \/
  (eM s d n=2/\en s d n=[]/\dM d=true/\4096<n) \/
  (eM s d n=1/\en s d n=[]/\dM d=true/\0<=n/\n<=4096/\s.length≠(n.toNat*d.toNat+7) / 8) \/
  (∃D N:Nat,d=D/\n=N/\1<=D/\D<=16/\N<=4096/\s.length=(N*D+7) / 8 /\
   eM s d n=(if dV ((aF s).drop (N*D))=true then 1 else 0)/\en s d n=if dV ((aF s).drop (N*D))=true then [] else dG (aF s) D N):=by
 by_cases b:dM d=true
 ·have i:1<=d/\d<=16:=by simpa [dM] using b
  by_cases e:0<=n
  ·by_cases f:n<=4096
   ·by_cases g:s.length=(n.toNat*d.toNat+7) / 8
    ·right;right;right;refine ⟨d.toNat,n.toNat,oM,oM,oM,oM,oM,g,?_,?_⟩
     ·rw[eM,if_pos ⟨b,e⟩,if_pos f];by_cases a:dV ((aF s).drop (n.toNat*d.toNat))=true
      ·rw[if_pos a,if_neg (by simp[em,a])]
      ·have a:dV ((aF s).drop (n.toNat*d.toNat))=false:=(by simpa using a);have c:em s d n=true:=(by simp only[em,decide_eq_true_eq];exact ⟨b,e,f,g,a⟩);rw[if_pos c,if_neg (by simp[a])]
     ·rw[en];by_cases a:dV ((aF s).drop (n.toNat*d.toNat))=true
      ·rw[if_pos a,if_neg (by simp[em,a])]
      ·have a:dV ((aF s).drop (n.toNat*d.toNat))=false:=(by simpa using a);have c:em s d n=true:=(by simp only[em,decide_eq_true_eq];exact ⟨b,e,f,g,a⟩);rw[if_pos c,if_neg (by simp[a])]
    ·have c:¬em s d n=true:=(by simp only[em,decide_eq_true_eq];exact fun h=>g h.2.2.2.1);exact .inr (.inr (.inl ⟨by rw[eM,if_pos ⟨b,e⟩,if_pos f,if_neg c],by rw[en,if_neg c],b,e,f,g⟩))
   ·have c:¬em s d n=true:=(by simp only[em,decide_eq_true_eq];exact fun h=>f h.2.2.1);exact .inr (.inl ⟨by rw[eM,if_pos ⟨b,e⟩,if_neg f],by rw[en,if_neg c],b,oM⟩)
  ·have c:¬em s d n=true:=(by simp only[em,decide_eq_true_eq];exact fun h=>e h.2.1);exact .inl ⟨by rw[eM,if_neg (fun h=>e h.2)],by rw[en,if_neg c],.inr ⟨b,oM⟩⟩
 ·have c:¬em s d n=true:=by simp only[em,decide_eq_true_eq];exact fun h=>b h.1
  exact .inl ⟨by rw[eM,if_neg (fun h=>b h.1)],by rw[en,if_neg c],.inl (by simpa using b)⟩
theorem GU (s:ByteArray) (d n:Int) (w:World) :
  Calls prog 166 #[.string s,Z G d,Z G n] w fun e w'=>∃v,e=.returned (.tuple #[v,Z G (eM s.data.toList d n)])/\ap w' v (en s.data.toList d n)/\Below w.heap.size w w':=by
 rcases yf s.data.toList d n with ⟨a,b,h|⟨i,g⟩⟩|⟨a,b,i,g⟩|⟨a,b,i,g,k,j⟩|⟨D,N,rfl,rfl,i,g,k,j,a,b⟩
 ·have c:=qH a;have f:=qH b;clear a b;go_enter func166,ntmps166;go_wp2_with (go_at_call 172;refine (nZ _ _).mono ?_;rintro e w1 ⟨rfl,rfl⟩)
  go_ret2;rw[c.1,f.1];exact ⟨_,rfl,ap.nil _,kf _ _⟩
 ·have c:=qH a;have f:=qH b;clear a b;go_enter func166,ntmps166;go_wp2_with (go_at_call 172;refine (nZ _ _).mono ?_;rintro e w1 ⟨rfl,rfl⟩)
  go_ret2;rw[c.1,f.1];exact ⟨_,rfl,ap.nil _,kf _ _⟩
 ·have c:=qH a;have f:=qH b;clear a b;go_enter func166,ntmps166;go_wp2_with (go_at_call 172;refine (nZ _ _).mono ?_;rintro e w1 ⟨rfl,rfl⟩)
  go_ret2;rw[c.1,f.1];exact ⟨_,rfl,ap.nil _,kf _ _⟩
 ·have c:=qH a;have f:=qH b;clear a b;have l:1<=d/\d<=16:=by simpa [dM] using i
  obtain ⟨o,p⟩:=vz l.1 l.2 g k;have m:n*d=((n.toNat*d.toNat:Nat):Int):=by
   rw[Int.natCast_mul,Int.toNat_of_nonneg g,Int.toNat_of_nonneg oM]
  have q:((s.size:Int) != (n*d+7) / 8)=true:=by
   rw[gj] at j;rw[m];generalize n.toNat*d.toNat=z at *;simp;omega
  clear m j l;go_enter func166,ntmps166;go_wp2_with (first|(go_at_call 172;refine (nZ _ _).mono ?_;rintro e w1 ⟨rfl,rfl⟩)|(go_at_call 196;refine (qV _ oM oM _).mono ?_;rintro e w1 ⟨rfl,rfl⟩))
  go_ret2;rw[c.1,f.1];exact ⟨_,rfl,ap.nil _,kf _ _⟩
 ·rw[a,b];exact GW s D N i g k (by rw[<-gj];exact j) w
theorem qy (l:List UInt8) (s:ByteArray):((lh l).toList == s.toList)=decide (l=s.data.toList):=by
 rw[Lib.toList_data,Lib.toList_data,bP,Bool.eq_iff_iff,decide_eq_true_eq,beq_iff_eq]
theorem GY (s:ByteArray) (D n:Nat) (hD1:1<=D) (c:D<=16) (hn:n<=4096) (l:s.size=(n*D+7) / 8) (w:World) :
  Calls prog 168 #[.string s,Z G D,Z G n] w fun e w'=>∃v,e=.returned (.tuple #[v,Z G (if dV ((aF s.data.toList).drop (n*D))=true then 1 else 0)]) /\
   ap w' v (if dV ((aF s.data.toList).drop (n*D))=true then [] else dG (aF s.data.toList) D n)/\Below w.heap.size w w':=by
 obtain ⟨i0,hi,hz0,hz1,hz2⟩:=info_parts Tryz.infoInt;have hm:(n*D:Nat)<=65536:=km (zR hn c) dD;have S:=qH (pY s.data.toList n D (by rw[gj];exact l));obtain ⟨m,o⟩:∃m:Nat,m=n*D:=⟨_,rfl⟩;have hmi:(n:Int)*(D:Int)=(m:Int):=by rw[o];simp
 have b:=qH o;rw[<-o] at hm l |-;clear o;have hdd:decide (1<=(D:Int)/\(D:Int)<=16)=true:=sO;have hn0:decide ((n:Int)<0)=false:=sS;have hn1:decide (4096<(n:Int))=false:=sO;have hne:((s.size:Int) != ((m:Int)+7) / 8)=false:=sO;have hsz:s.size<=17592186044416:=oM;have y:=qH (kp s.data.toList);have z:=qH (show m<=(aF s.data.toList).length by rw[ig,gj];omega);have U:=qH (show (aF s.data.toList).length<=140737488355328 by rw[ig,gj];omega);generalize K:aF s.data.toList=R at *;have T:=qH K;clear K;have l:=au l;go_enter func168,ntmps168;go_wp2_with (first|(go_at_call 33;refine (aI _ _ _ _).mono ?_;rintro e w1 ⟨rfl,rfl⟩)|(go_at_call 205;refine (xy _ hsz _).mono ?_;rintro e w1 ⟨rfl,L⟩;rw[T.1]))
 have hs1:=L.size;go_loopw [9,10] (fun t i wr=>∃k:Nat,k<=n/\i=Z G k/\wr.ownsRow w.heap.size 3 1 t (dG R D k).length ((dG R D k).map (Z .i64))/\Below w.heap.size w wr)
  (fun _ i _=>n-(intOf i).toNat)
 case atStart=>exact ⟨0,kG _,rfl,zO _ _ _ _,L⟩
 case round =>
  obtain ⟨k,hk,rfl,a,f⟩:=hrel;have F:=f.size;by_cases hlt:k<n
  ·have hkm:(k+1)*D<=m:=(by rw[b.1];exact xa _ hlt);have A:(k+1)*D<=R.length:=(by have:=z.1;omega);have hRU:=U.1;have hr0:0<=(k:Int)*(D:Int):=(by rw[<-Int.natCast_mul];omega);have hr1:(k:Int)*(D:Int)<=((k:Int)+1)*(D:Int):=(by rw[Int.add_mul];omega);have hr2:((k:Int)+1)*(D:Int)<=(R.length:Int):=by
    have h:=Int.ofNat_le.2 A;rw[Int.natCast_mul] at h;exact h
   have hRs:(lh R).size=R.length:=bn R;have X:=qH (show (lh R).extract (k*D) ((k+1)*D)=lh ((R.drop (k*D)).take D) by rw[Lib.extract_eq,bP,yb];simp[lh]);have Q:=qH (show bz ((R.drop (k*D)).take D)=true from jO (iH y.1 _) _);have M:((R.drop (k*D)).take D).length=D:=(by rw[zo,zs];rw[yb] at A;omega);have V:=qH (qD R D k);have p:(dG R D k).length=k:=jg R D k;have W:=qH p;rw[p] at a;have ab:(lh ((R.drop (k*D)).take D)).size<=16:=(by rw[bn,M];exact c);clear hkm p M A;generalize dG R D k=Vs at *;generalize Y:(R.drop (k*D)).take D=C at *;clear Y;(go_wp2_with fail);rw[X.1];refine (xv _ _ ab Q.1).mono ?_;rintro e w2 ⟨rfl,rfl⟩;(go_wp2_with (at_builtin;refine wpList_append_own _ rfl _ _ 52 rfl w.heap.size 3 i0 (Z G 0) 1 8 underlying52 hi hz0 hz1 hz2 rfl dD _ _ _ rfl (a.alloc _) ⟨wr.heap.size,0,none⟩ 1 1 [Z G (bS C:Nat)] rfl rfl ?_ ?_ ?_ ?_ ?_ ?_;(intro j u B;obtain ⟨rfl,rfl⟩:=kE B;simp[Addr.add,bP]);(intro u P;simp at P;subst P;rfl);(unfold maxLen;omega);omega;(simp;omega);intro v' q O N _));have ho4:q.ownsRow w.heap.size 3 1 v' (dG R D (k+1)).length ((dG R D (k+1)).map (Z .i64)):=by
    rw[V.1,List.map_append,ys,W.1];exact O
   have aa:Below w.heap.size w q:=(f.alloc F _).grown N sO (fun j B=>(a.lt j B).1);clear O N a;go_roundw
   case rel=>exact ⟨k+1,oM,gN,ho4,aa⟩
   case measure=>simp[intOf];omega
  ·obtain rfl:k=n:=oM;have hints:ap wr _ (dG R D k):=ap.own a (by rw[jg];omega);have x:=qH (wi R D k y.1 (by rw[<-b.1];exact z.1));have I:=qH (yi R D k c y.1 (by rw[<-b.1];exact z.1));have r:=qH hints;have p:=jg R D k;have E:=S.1;rw[<-b.1] at E;rw[<-b.1] at x;have H:=qH E;clear E a;by_cases d:dV (R.drop m)=true
   ·have hq:((lh (dg (R.take m))).toList == s.toList)=false:=by
     rw[qy,decide_eq_false_iff_not];intro h;rw[H.1.1 h] at d;cases d
    (go_wp2_with (go_at_call 80;refine (wj _ _ D c oM I.1 _ r.1).mono ?_;rintro e q ⟨rfl,g⟩;rw[x.1]));go_ret2;exact ⟨_,rfl,ap.nil _,f.trans (g.mono F)⟩
   ·have d:dV (R.drop m)=false:=(by simpa using d);have hq:((lh (dg (R.take m))).toList == s.toList)=true:=by
     rw[qy,decide_eq_true_eq];exact H.1.2 d
    (go_wp2_with (go_at_call 80;refine (wj _ _ D c oM I.1 _ r.1).mono ?_;rintro e q ⟨rfl,g⟩;rw[x.1]));go_ret2;exact ⟨_,rfl,r.1.below g (kc _),f.trans (g.mono F)⟩
theorem GX (s:ByteArray) (d n:Int) (w:World) :
  Calls prog 168 #[.string s,Z G d,Z G n] w fun e w'=>∃v,e=.returned (.tuple #[v,Z G (eM s.data.toList d n)])/\ap w' v (en s.data.toList d n)/\Below w.heap.size w w':=by
 rcases yf s.data.toList d n with ⟨a,b,h|⟨c,i⟩⟩|⟨a,b,c,i⟩|⟨a,b,c,i,k,j⟩|⟨D,N,rfl,rfl,c,i,k,j,a,b⟩
 ·have f:=qH a;have g:=qH b;clear a b;have m:decide (1<=d/\d<=16)=false:=h;go_enter func168,ntmps168;go_wp2_with (go_at_call 33;refine (aI _ _ _ _).mono ?_;rintro e w1 ⟨rfl,rfl⟩)
  go_ret2;rw[f.1,g.1];exact ⟨_,rfl,ap.nil _,kf _ _⟩
 ·have f:=qH a;have g:=qH b;clear a b;have m:decide (1<=d/\d<=16)=true:=c;go_enter func168,ntmps168;go_wp2_with (go_at_call 33;refine (aI _ _ _ _).mono ?_;rintro e w1 ⟨rfl,rfl⟩)
  go_ret2;rw[f.1,g.1];exact ⟨_,rfl,ap.nil _,kf _ _⟩
 ·have f:=qH a;have g:=qH b;clear a b;have m:decide (1<=d/\d<=16)=true:=c;go_enter func168,ntmps168;go_wp2_with (go_at_call 33;refine (aI _ _ _ _).mono ?_;rintro e w1 ⟨rfl,rfl⟩)
  go_ret2;rw[f.1,g.1];exact ⟨_,rfl,ap.nil _,kf _ _⟩
 ·have f:=qH a;have g:=qH b;clear a b;have m:decide (1<=d/\d<=16)=true:=c;have l:1<=d/\d<=16:=by simpa [dM] using c
  obtain ⟨p,q⟩:=vz l.1 l.2 i k;have o:n*d=((n.toNat*d.toNat:Nat):Int):=by
   rw[Int.natCast_mul,Int.toNat_of_nonneg i,Int.toNat_of_nonneg oM]
  have r:((s.size:Int) != (n*d+7) / 8)=true:=by
   rw[gj] at j;rw[o];generalize n.toNat*d.toNat=z at *;simp;omega
  clear o j l;go_enter func168,ntmps168;go_wp2_with (go_at_call 33;refine (aI _ _ _ _).mono ?_;rintro e w1 ⟨rfl,rfl⟩)
  go_ret2;rw[f.1,g.1];exact ⟨_,rfl,ap.nil _,kf _ _⟩
 ·rw[a,b];exact GY s D N c i k (by rw[<-gj];exact j) w
end Go.Proofs.YtfjeonehdlphiaaGreatDoor
