/- Sw: part 5 of what the proofs need. -/
import Derived.Test.YtfjeonehdlphiaaGreatDoorC1Sw
import Derived.Test.YtfjeonehdlphiaaGreatDoorC3Sw
import Derived.Lib.ItoaMem
import Derived.Lib.Strings
set_option linter.unusedVariables false
namespace Go.Proofs.YtfjeonehdlphiaaGreatDoor
abbrev dig (n:Nat):List UInt8:=Lib.decDigits n
def hdM (deep:Bool):Nat:=if deep then 65535 else 255
def headT (a b c:Nat):List UInt8:=(([80,54,10]++(dig a++[32]))++(dig b++[10]))++(dig c++[10])
def gNum (f:Nat) (a b c:Int):Int:=if f=0 then a else if f=1 then b else c
def gEnd (f:Nat):UInt8:=if f=0 then 32 else 10
def gDig (x:UInt8) (f:Nat) (a b c:Int):Bool:=decide (48≤x.toNat) && decide (x.toNat≤57) && decide (gNum f a b c≤65535)
def gRun:List UInt8→Nat→Int→Int→Int→Int×Int×Int
 | [],_,a,b,c=>(a,b,c)
 | x::r,f,a,b,c=>if x=gEnd f then (if f=2 then (a,b,c) else gRun r (f+1) a b c)
  else if gDig x f a b c=true then (if f=0 then gRun r f (10*a+(x.toNat-48:Nat)) b c else if f=1 then gRun r f a (10*b+(x.toNat-48:Nat)) c else gRun r f a b (10*c+(x.toNat-48:Nat))) else (a,b,c)
def guess (s:List UInt8):Int×Int×Int:=gRun (s.drop 3) 0 0 0 0
theorem XWJI (f:Nat):(gEnd f).toNat≤32:=by unfold gEnd;split<;>decide
theorem digN {d:Nat} (h:d<10):(UInt8.ofNat (48+d)).toNat=48+d:=by simp;omega
theorem zWst {d:Nat} (h:d<10) (f:Nat):UInt8.ofNat (48+d)≠gEnd f:=fun e=>by
 have h1:=digN h
 rw[e] at h1
 have:=XWJI f
 omega
theorem q578 {d:Nat} (h:d<10) {f:Nat} {a b c:Int} (hn:gNum f a b c≤65535):gDig (UInt8.ofNat (48+d)) f a b c=true:=by
 unfold gDig
 rw[digN h]
 simp[hn]
 omega
theorem g0 {d:Nat} (h:d<10) (r:List UInt8) {a:Int} (b c:Int) (ha:a≤65535):gRun (UInt8.ofNat (48+d)::r) 0 a b c=gRun r 0 (10*a+d) b c:=by
 rw[gRun,if_neg (zWst h 0),if_pos (q578 h (f:=0) ha),if_pos rfl,digN h,Nat.add_sub_cancel_left]
theorem g1 {d:Nat} (h:d<10) (r:List UInt8) (a:Int) {b:Int} (c:Int) (hb:b≤65535):gRun (UInt8.ofNat (48+d)::r) 1 a b c=gRun r 1 a (10*b+d) c:=by
 rw[gRun,if_neg (zWst h 1),if_pos (q578 h (f:=1) hb),if_neg (by decide),if_pos rfl,digN h,Nat.add_sub_cancel_left]
theorem g2 {d:Nat} (h:d<10) (r:List UInt8) (a b:Int) {c:Int} (hc:c≤65535):gRun (UInt8.ofNat (48+d)::r) 2 a b c=gRun r 2 a b (10*c+d):=by
 rw[gRun,if_neg (zWst h 2),if_pos (q578 h (f:=2) hc),if_neg (by decide),if_neg (by decide),digN h,Nat.add_sub_cancel_left]
theorem gn0 {n:Nat} (h:n<100) (r:List UInt8) (b c:Int):gRun (dig n++(32::r)) 0 0 b c=gRun r 1 n b c:=by
 have he:∀a:Int,gRun (32::r) 0 a b c=gRun r 1 a b c:=fun a=>by rw[gRun,if_pos (show (32:UInt8)=gEnd 0 from rfl),if_neg (by decide)]
 by_cases h1:n<10
 ·rw[dig,Lib.decDigits_one h1,List.cons_append,List.nil_append,g0 h1 _ _ _ (by decide),he]
  congr 1;omega
 ·rw[dig,Lib.decDigits_two h1 h,List.cons_append,List.cons_append,List.nil_append,g0 (by omega) _ _ _ (by decide),g0 (by omega) _ _ _ (by omega),he]
  congr 1;omega
theorem gn1 {n:Nat} (h:n<100) (r:List UInt8) (a c:Int):gRun (dig n++(10::r)) 1 a 0 c=gRun r 2 a n c:=by
 have he:∀b:Int,gRun (10::r) 1 a b c=gRun r 2 a b c:=fun b=>by rw[gRun,if_pos (show (10:UInt8)=gEnd 1 from rfl),if_neg (by decide)]
 by_cases h1:n<10
 ·rw[dig,Lib.decDigits_one h1,List.cons_append,List.nil_append,g1 h1 _ _ _ (by decide),he]
  congr 1;omega
 ·rw[dig,Lib.decDigits_two h1 h,List.cons_append,List.cons_append,List.nil_append,g1 (by omega) _ _ _ (by decide),g1 (by omega) _ _ _ (by omega),he]
  congr 1;omega
theorem z4Wu:dig 255=[UInt8.ofNat (48+2),UInt8.ofNat (48+5),UInt8.ofNat (48+5)]:=by
 rw[dig,Lib.decDigits,dif_neg (by decide),show 255 / 10=25 from rfl,Lib.decDigits_two (by decide) (by decide)];rfl
theorem ja9Q:dig 65535=[UInt8.ofNat (48+6),UInt8.ofNat (48+5),UInt8.ofNat (48+5),UInt8.ofNat (48+3),UInt8.ofNat (48+5)]:=by
 rw[dig,Lib.decDigits,dif_neg (by decide),show 65535 / 10=6553 from rfl,Lib.decDigits,dif_neg (by decide),show 6553 / 10=655 from rfl,Lib.decDigits,dif_neg (by decide),show 655 / 10=65 from rfl,Lib.decDigits_two (by decide) (by decide)];rfl
theorem gn2 (deep:Bool) (r:List UInt8) (a b:Int):gRun (dig (hdM deep)++(10::r)) 2 a b 0=(a,b,(hdM deep:Int)):=by
 have he:∀c:Int,gRun (10::r) 2 a b c=(a,b,c):=fun c=>by rw[gRun,if_pos (show (10:UInt8)=gEnd 2 from rfl),if_pos rfl]
 cases deep
 ·rw[show hdM false=255 from rfl,z4Wu,List.cons_append,List.cons_append,List.cons_append,List.nil_append,g2 (by decide) _ _ _ (by decide),g2 (by decide) _ _ _ (by decide),g2 (by decide) _ _ _ (by decide),he]
  rfl
 ·rw[show hdM true=65535 from rfl,ja9Q,List.cons_append,List.cons_append,List.cons_append,List.cons_append,List.cons_append,List.nil_append,g2 (by decide) _ _ _ (by decide),g2 (by decide) _ _ _ (by decide),g2 (by decide) _ _ _ (by decide),g2 (by decide) _ _ _ (by decide),g2 (by decide) _ _ _ (by decide),he]
  rfl
theorem ji4T {a b:Nat} (ha:a<100) (hb:b<100) (deep:Bool) (r:List UInt8):guess (headT a b (hdM deep)++r)=((a:Int),(b:Int),(hdM deep:Int)):=by
 have h:(headT a b (hdM deep)++r).drop 3=dig a++(32::(dig b++(10::(dig (hdM deep)++(10::r))))):=by
  unfold headT
  simp[List.append_assoc]
 rw[guess,h,gn0 ha,gn1 hb,gn2]
theorem qxjb {x y:Bool} (h:hdM x=hdM y):x=y:=by
 cases x<;>cases y<;>first|rfl|cases h
theorem q517 (deep:Bool):(((hdM deep:Nat):Int) == 65535)=deep:=by cases deep<;>rfl
def szP (deep:Bool):Nat:=if deep then 2 else 1
structure Shot (s:List UInt8) (a b:Nat) (deep:Bool) (L:List UInt8):Prop where
 a1:1≤a
 a2:a≤64
 b1:1≤b
 b2:b≤64
 eq:s=headT a b (hdM deep)++L
 len:L.length=szP deep*(3*a*b)
theorem Shot.one {s:List UInt8} {a b a' b':Nat} {d d':Bool} {L L':List UInt8} (h:Shot s a b d L) (h':Shot s a' b' d' L'):a=a'∧b=b'∧d=d'∧L=L':=by
 have e1:=ji4T (a:=a) (b:=b) (by have:=h.a2;omega) (by have:=h.b2;omega) d L
 have e2:=ji4T (a:=a') (b:=b') (by have:=h'.a2;omega) (by have:=h'.b2;omega) d' L'
 rw[←h.eq] at e1
 rw[←h'.eq,e1] at e2
 simp only[Prod.mk.injEq] at e2
 obtain ⟨x1,x2,x3⟩:=e2
 have ea:a=a':=by omega
 have eb:b=b':=by omega
 have ed:d=d':=qxjb (by omega)
 subst ea eb ed
 refine ⟨rfl,rfl,rfl,?_⟩
 have:=h.eq.symm.trans h'.eq
 exact List.append_cancel_left this
def ptB (deep:Bool) (L:List UInt8) (k:Nat):Int:=if deep then 256*((L.getD (2*k) 0).toNat:Int)+((L.getD (2*k+1) 0).toNat:Int) else 257*((L.getD k 0).toNat:Int)
def pxOf (deep:Bool) (L:List UInt8) (i:Nat):Px:=(ptB deep L (3*i),ptB deep L (3*i+1),ptB deep L (3*i+2))
def pixOf (deep:Bool) (L:List UInt8) (n:Nat):List Px:=(List.range n).map (pxOf deep L)
def u8 (x:Int):UInt8:=UInt8.ofNat x.toNat
def prB (deep:Bool) (x:Int):List UInt8:=if deep then [u8 (x / 256),u8 x] else [u8 (x / 256)]
def pxB (deep:Bool) (p:Px):List UInt8:=prB deep p.1++(prB deep p.2.1++prB deep p.2.2)
def pixB (deep:Bool) (ps:List Px):List UInt8:=ps.flatMap (pxB deep)
def shotB (W H:Int) (ps:List Px) (deep:Bool):List UInt8:=headT W.toNat H.toNat (hdM deep)++pixB deep ps
theorem zssP (deep:Bool) (x:Int):(prB deep x).length=szP deep:=by unfold prB szP;cases deep<;>rfl
theorem qFjj (deep:Bool) (p:Px):(pxB deep p).length=szP deep*3:=by
 unfold pxB
 rw[List.length_append,List.length_append,zssP,zssP,zssP];omega
theorem XF45 (deep:Bool) (ps:List Px):(pixB deep ps).length=szP deep*(3*ps.length):=by
 induction ps with
 | nil=>rfl
 | cons p ps ih =>
  rw[pixB,List.flatMap_cons,List.length_append,qFjj,show (ps.flatMap (pxB deep)).length=_ from ih,List.length_cons,Nat.mul_add 3,Nat.mul_add]
  omega
theorem jAlh {x:Int} (h0:0≤x) (h1:x≤255):((u8 x).toNat:Int)=x:=by
 unfold u8
 simp
 omega
theorem qgjv {x:Int} (h0:0≤x):((u8 x).toNat:Int)=x % 256:=by
 unfold u8
 simp
 omega
def inP (x:Int):Prop:=0≤x∧x≤65535
theorem ptB_at (deep:Bool) (A B:List UInt8) (k:Nat) (hA:A.length=szP deep*k) (x:UInt8) (y:UInt8) :
  ptB deep (A++((if deep then [x,y] else [x])++B)) k=if deep then 256*(x.toNat:Int)+y.toNat else 257*(x.toNat:Int):=by
 unfold ptB szP at *
 cases deep
 ·simp only[Bool.false_eq_true,if_false] at *
  rw[List.getD_eq_getElem?_getD,List.getElem?_append_right (by omega),show k-A.length=0 by omega]
  rfl
 ·simp only[if_true] at *
  have e0:(A++([x,y]++B)).getD (2*k) 0=x:=by
   rw[List.getD_eq_getElem?_getD,List.getElem?_append_right (by omega),show 2*k-A.length=0 by omega];rfl
  have e1:(A++([x,y]++B)).getD (2*k+1) 0=y:=by
   rw[List.getD_eq_getElem?_getD,List.getElem?_append_right (by omega),show 2*k+1-A.length=1 by omega];rfl
  rw[e0,e1]
theorem qGZ9 (A B:List UInt8) (k:Nat) (hA:A.length=2*k) {x:Int} (hx:inP x):ptB true (A++(prB true x++B)) k=x:=by
 have:=ptB_at true A B k hA (u8 (x / 256)) (u8 x)
 simp only[if_true] at this
 rw[prB,if_pos rfl,this,jAlh (by have:=hx.1;omega) (by have:=hx.2;omega),qgjv hx.1]
 omega
theorem zwUh (ps:List Px) (hp:∀p∈ps,inP p.1∧inP p.2.1∧inP p.2.2):pixOf true (pixB true ps) ps.length=ps:=by
 unfold pixOf
 refine List.ext_getElem (by simp) fun i h1 h2=>?_
 rw[List.getElem_map,List.getElem_range]
 have hs:pixB true ps=pixB true (ps.take i)++(pxB true ps[i]++pixB true (ps.drop (i+1))):=by
  conv=>lhs;rw[←List.take_append_drop i ps,List.drop_eq_getElem_cons h2]
  unfold pixB
  rw[List.flatMap_append,List.flatMap_cons]
 have hl:(pixB true (ps.take i)).length=2*(3*i):=by rw[XF45,List.length_take,Nat.min_eq_left (by omega)];rfl
 obtain ⟨q0,q1,q2⟩:=hp ps[i] (List.getElem_mem h2)
 unfold pxOf
 have k0:=zssP true ps[i].1
 have k1:=zssP true ps[i].2.1
 rw[show szP true=2 from rfl] at k0 k1
 have e0:ptB true (pixB true ps) (3*i)=ps[i].1:=by
  rw[hs,pxB,List.append_assoc]
  exact qGZ9 _ _ _ hl q0
 have e1:ptB true (pixB true ps) (3*i+1)=ps[i].2.1:=by
  rw[hs,pxB,List.append_assoc,←List.append_assoc,List.append_assoc (prB true ps[i].2.1)]
  exact qGZ9 _ _ _ (by rw[List.length_append,hl,k0];omega) q1
 have e2:ptB true (pixB true ps) (3*i+2)=ps[i].2.2:=by
  rw[hs,pxB,List.append_assoc,←List.append_assoc,List.append_assoc (prB true ps[i].2.1),←List.append_assoc (pixB true (ps.take i)++prB true ps[i].1)]
  exact qGZ9 _ _ _ (by rw[List.length_append,List.length_append,hl,k0,k1];omega) q2
 rw[e0,e1,e2]
theorem pr_pt (deep:Bool) (L:List UInt8) (k:Nat) (h:szP deep*k+szP deep≤L.length):prB deep (ptB deep L k)=(L.drop (szP deep*k)).take (szP deep):=by
 unfold prB ptB szP at *
 cases deep
 ·simp only[Bool.false_eq_true,if_false] at *
  have hk:k<L.length:=by omega
  rw[Nat.one_mul,List.drop_eq_getElem_cons hk,List.getD_eq_getElem?_getD,List.getElem?_eq_getElem hk]
  have hx:(L[k]).toNat<256:=UInt8.toNat_lt _
  have:u8 (257*(L[k].toNat:Int) / 256)=L[k]:=by
   apply UInt8.toNat_inj.1
   have:=jAlh (x:=257*(L[k].toNat:Int) / 256) (by omega) (by omega)
   omega
  show [u8 (257*(L[k].toNat:Int) / 256)]=[L[k]]
  rw[this]
 ·simp only[if_true] at *
  have hk:2*k+1<L.length:=by omega
  rw[List.drop_eq_getElem_cons (show 2*k<L.length by omega),List.drop_eq_getElem_cons hk,List.getD_eq_getElem?_getD,List.getD_eq_getElem?_getD,List.getElem?_eq_getElem hk,List.getElem?_eq_getElem (show 2*k<L.length by omega)]
  have hx:(L[2*k]).toNat<256:=UInt8.toNat_lt _
  have hy:(L[2*k+1]).toNat<256:=UInt8.toNat_lt _
  have e1:u8 ((256*(L[2*k].toNat:Int)+L[2*k+1].toNat) / 256)=L[2*k]:=by
   apply UInt8.toNat_inj.1
   have:=jAlh (x:=(256*(L[2*k].toNat:Int)+L[2*k+1].toNat) / 256) (by omega) (by omega)
   omega
  have e2:u8 (256*(L[2*k].toNat:Int)+L[2*k+1].toNat)=L[2*k+1]:=by
   apply UInt8.toNat_inj.1
   have:=qgjv (x:=256*(L[2*k].toNat:Int)+L[2*k+1].toNat) (by omega)
   omega
  show [u8 ((256*(L[2*k].toNat:Int)+L[2*k+1].toNat) / 256),u8 (256*(L[2*k].toNat:Int)+L[2*k+1].toNat)]=[L[2*k],L[2*k+1]]
  rw[e1,e2]
theorem jffP (L:List UInt8) (p q r:Nat) (hq:p+q=r) (n:Nat):(L.drop p).take q++(L.drop r).take n=(L.drop p).take (q+n):=by
 subst hq
 rw[←List.drop_drop,List.take_add]
theorem px_pt (deep:Bool) (L:List UInt8) (i:Nat) (h:szP deep*(3*(i+1))≤L.length):pxB deep (pxOf deep L i)=(L.drop (szP deep*(3*i))).take (szP deep*3):=by
 have hm:szP deep*(3*(i+1))=szP deep*(3*i)+szP deep+szP deep+szP deep:=by rw[show 3*(i+1)=3*i+1+1+1 by omega,Nat.mul_add,Nat.mul_add,Nat.mul_add,Nat.mul_one]
 have h1:szP deep*(3*i+1)=szP deep*(3*i)+szP deep:=by rw[Nat.mul_add,Nat.mul_one]
 have h2:szP deep*(3*i+2)=szP deep*(3*i)+szP deep+szP deep:=by rw[Nat.mul_add];omega
 unfold pxB pxOf
 simp only
 rw[pr_pt deep L (3*i) (by omega),pr_pt deep L (3*i+1) (by omega),pr_pt deep L (3*i+2) (by omega),jffP _ _ _ _ (by omega),jffP _ _ _ _ (by omega)]
 congr 1;omega
theorem Xiv3 (deep:Bool) (L:List UInt8):∀n,szP deep*(3*n)≤L.length→pixB deep (pixOf deep L n)=L.take (szP deep*(3*n))
 | 0,_=>by simp[pixOf,pixB]
 | n+1,h=>by
  have hm:szP deep*(3*(n+1))=szP deep*(3*n)+szP deep*3:=by rw[Nat.mul_add 3,Nat.mul_add]
  have ih:=Xiv3 deep L n (by omega)
  rw[pixOf,List.range_succ,List.map_append,pixB,List.flatMap_append,show ((List.range n).map (pxOf deep L)).flatMap (pxB deep)=_ from ih,hm,List.take_add]
  congr 1
  simp only[List.map_cons,List.map_nil,List.flatMap_cons,List.flatMap_nil,List.append_nil]
  exact px_pt deep L n h
theorem Shot.bytes {s:List UInt8} {a b:Nat} {d:Bool} {L:List UInt8} (h:Shot s a b d L):shotB a b (pixOf d L (b*a)) d=s:=by
 have hl:=h.len
 have e:3*a*b=3*(b*a):=by rw[Nat.mul_assoc,Nat.mul_comm a b]
 rw[e] at hl
 rw[shotB,Xiv3 d L _ (by omega),List.take_of_length_le (by omega),h.eq]
 simp
theorem XxVr (d:Bool) (L:List UInt8) (n:Nat):(pixOf d L n).length=n:=by simp[pixOf]
end Go.Proofs.YtfjeonehdlphiaaGreatDoor
