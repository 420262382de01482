/- Re: part 17 of what the proofs need. -/
import Derived.Test.YtfjeonehdlphiaaGreatDoorC1Re
import Derived.Test.YtfjeonehdlphiaaGreatDoorC2Re
import Derived.Lib.ItoaMem
import Derived.Lib.Strings
open List renaming getElem?_eq_getElem → ka, getD_eq_getElem?_getD → kb
set_option linter.unusedVariables false
namespace Go.Proofs.YtfjeonehdlphiaaGreatDoor
abbrev dig (n:Nat):List UInt8:=Lib.decDigits n
def hdM (deep:Bool):Nat:=if deep then 65535 else 255
def headT (a b c:Nat):List UInt8:=(([80,54,10]++(dig a++[32]))++(dig b++[10]))++(dig c++[10])
def gNum (f:Nat) (a b c:Int):Int:=if f=0 then a else if f=1 then b else c
def gEnd (f:Nat):UInt8:=if f=0 then 32 else 10
def gDig (x:UInt8) (f:Nat) (a b c:Int):Bool:=decide (48≤x.toNat) && decide (x.toNat≤57) && decide (gNum f a b c≤65535)
def gRun:List UInt8→Nat→Int→Int→Int→Int×Int×Int
 | [],_,a,b,c=>(a,b,c)
 | x::r,f,a,b,c=>if x=gEnd f then (if f=2 then (a,b,c) else gRun r (f+1) a b c)
  else if gDig x f a b c=true then (if f=0 then gRun r f (10*a+(x.toNat-48:Nat)) b c else if f=1 then gRun r f a (10*b+(x.toNat-48:Nat)) c else gRun r f a b (10*c+(x.toNat-48:Nat))) else (a,b,c)
theorem XWJI (f:Nat):(gEnd f).toNat≤32:=by unfold gEnd;split<;>decide
theorem digN {d:Nat} (h:d<10):(UInt8.ofNat (48+d)).toNat=48+d:=by simp;omega
theorem zWst {d:Nat} (h:d<10) (f:Nat):UInt8.ofNat (48+d)≠gEnd f:=fun e=>by
 have h1:=digN h
 rw[e] at h1
 have:=XWJI f
 omega
theorem q578 {d:Nat} (h:d<10) {f:Nat} {a b c:Int} (hn:gNum f a b c≤65535):gDig (UInt8.ofNat (48+d)) f a b c=true:=by
 unfold gDig
 rw[digN h]
 simp[hn]
 omega
theorem g0 {d:Nat} (h:d<10) (r:List UInt8) {a:Int} (b c:Int) (ha:a≤65535):gRun (UInt8.ofNat (48+d)::r) 0 a b c=gRun r 0 (10*a+d) b c:=by
 rw[gRun,if_neg (zWst h 0),if_pos (q578 h (f:=0) ha),if_pos rfl,digN h,Nat.add_sub_cancel_left]
theorem g1 {d:Nat} (h:d<10) (r:List UInt8) (a:Int) {b:Int} (c:Int) (hb:b≤65535):gRun (UInt8.ofNat (48+d)::r) 1 a b c=gRun r 1 a (10*b+d) c:=by
 rw[gRun,if_neg (zWst h 1),if_pos (q578 h (f:=1) hb),if_neg (by decide),if_pos rfl,digN h,Nat.add_sub_cancel_left]
theorem g2 {d:Nat} (h:d<10) (r:List UInt8) (a b:Int) {c:Int} (hc:c≤65535):gRun (UInt8.ofNat (48+d)::r) 2 a b c=gRun r 2 a b (10*c+d):=by
 rw[gRun,if_neg (zWst h 2),if_pos (q578 h (f:=2) hc),if_neg (by decide),if_neg (by decide),digN h,Nat.add_sub_cancel_left]
def szP (deep:Bool):Nat:=if deep then 2 else 1
structure Shot (s:List UInt8) (a b:Nat) (deep:Bool) (L:List UInt8):Prop where
 a1:1≤a
 a2:a≤64
 b1:1≤b
 b2:b≤64
 eq:s=headT a b (hdM deep)++L
 len:L.length=szP deep*(3*a*b)
def ptB (deep:Bool) (L:List UInt8) (k:Nat):Int:=if deep then 256*((L.getD (2*k) 0).toNat:Int)+((L.getD (2*k+1) 0).toNat:Int) else 257*((L.getD k 0).toNat:Int)
def pxOf (deep:Bool) (L:List UInt8) (i:Nat):Px:=(ptB deep L (3*i),ptB deep L (3*i+1),ptB deep L (3*i+2))
def pixOf (deep:Bool) (L:List UInt8) (n:Nat):List Px:=(List.range n).map (pxOf deep L)
def u8 (x:Int):UInt8:=UInt8.ofNat x.toNat
def prB (deep:Bool) (x:Int):List UInt8:=if deep then [u8 (x / 256),u8 x] else [u8 (x / 256)]
def pxB (deep:Bool) (p:Px):List UInt8:=prB deep p.1++(prB deep p.2.1++prB deep p.2.2)
def pixB (deep:Bool) (ps:List Px):List UInt8:=ps.flatMap (pxB deep)
def shotB (W H:Int) (ps:List Px) (deep:Bool):List UInt8:=headT W.toNat H.toNat (hdM deep)++pixB deep ps
theorem jAlh {x:Int} (h0:0≤x) (h1:x≤255):((u8 x).toNat:Int)=x:=by
 unfold u8
 simp
 omega
theorem u8_mod {x:Int} (h0:0≤x):((u8 x).toNat:Int)=x % 256:=by
 unfold u8
 simp
 omega
theorem pr_pt (deep:Bool) (L:List UInt8) (k:Nat) (h:szP deep*k+szP deep≤L.length):prB deep (ptB deep L k)=(L.drop (szP deep*k)).take (szP deep):=by
 unfold prB ptB szP at *
 cases deep
 ·simp only[Bool.false_eq_true,if_false] at *
  have hk:k<L.length:=by omega
  rw[Nat.one_mul,List.drop_eq_getElem_cons hk,kb,ka hk]
  have hx:(L[k]).toNat<256:=UInt8.toNat_lt _
  have:u8 (257*(L[k].toNat:Int) / 256)=L[k]:=by
   apply UInt8.toNat_inj.1
   have:=jAlh (x:=257*(L[k].toNat:Int) / 256) (by omega) (by omega)
   omega
  show [u8 (257*(L[k].toNat:Int) / 256)]=[L[k]]
  rw[this]
 ·simp only[if_true] at *
  have hk:2*k+1<L.length:=by omega
  rw[List.drop_eq_getElem_cons (show 2*k<L.length by omega),List.drop_eq_getElem_cons hk,kb,kb,ka hk,ka (show 2*k<L.length by omega)]
  have hx:(L[2*k]).toNat<256:=UInt8.toNat_lt _
  have hy:(L[2*k+1]).toNat<256:=UInt8.toNat_lt _
  have e1:u8 ((256*(L[2*k].toNat:Int)+L[2*k+1].toNat) / 256)=L[2*k]:=by
   apply UInt8.toNat_inj.1
   have:=jAlh (x:=(256*(L[2*k].toNat:Int)+L[2*k+1].toNat) / 256) (by omega) (by omega)
   omega
  have e2:u8 (256*(L[2*k].toNat:Int)+L[2*k+1].toNat)=L[2*k+1]:=by
   apply UInt8.toNat_inj.1
   have:=u8_mod (x:=256*(L[2*k].toNat:Int)+L[2*k+1].toNat) (by omega)
   omega
  show [u8 ((256*(L[2*k].toNat:Int)+L[2*k+1].toNat) / 256),u8 (256*(L[2*k].toNat:Int)+L[2*k+1].toNat)]=[L[2*k],L[2*k+1]]
  rw[e1,e2]
theorem jffP (L:List UInt8) (p q r:Nat) (hq:p+q=r) (n:Nat):(L.drop p).take q++(L.drop r).take n=(L.drop p).take (q+n):=by
 subst hq
 rw[←List.drop_drop,List.take_add]
theorem px_pt (deep:Bool) (L:List UInt8) (i:Nat) (h:szP deep*(3*(i+1))≤L.length):pxB deep (pxOf deep L i)=(L.drop (szP deep*(3*i))).take (szP deep*3):=by
 have hm:szP deep*(3*(i+1))=szP deep*(3*i)+szP deep+szP deep+szP deep:=by rw[show 3*(i+1)=3*i+1+1+1 by omega,Nat.mul_add,Nat.mul_add,Nat.mul_add,Nat.mul_one]
 have h1:szP deep*(3*i+1)=szP deep*(3*i)+szP deep:=by rw[Nat.mul_add,Nat.mul_one]
 have h2:szP deep*(3*i+2)=szP deep*(3*i)+szP deep+szP deep:=by rw[Nat.mul_add];omega
 unfold pxB pxOf
 simp only
 rw[pr_pt deep L (3*i) (by omega),pr_pt deep L (3*i+1) (by omega),pr_pt deep L (3*i+2) (by omega),jffP _ _ _ _ (by omega),jffP _ _ _ _ (by omega)]
 congr 1;omega
theorem Xiv3 (deep:Bool) (L:List UInt8):∀n,szP deep*(3*n)≤L.length→pixB deep (pixOf deep L n)=L.take (szP deep*(3*n))
 | 0,_=>by simp[pixOf,pixB]
 | n+1,h=>by
  have hm:szP deep*(3*(n+1))=szP deep*(3*n)+szP deep*3:=by rw[Nat.mul_add 3,Nat.mul_add]
  have ih:=Xiv3 deep L n (by omega)
  rw[pixOf,List.range_succ,List.map_append,pixB,List.flatMap_append,show ((List.range n).map (pxOf deep L)).flatMap (pxB deep)=_ from ih,hm,List.take_add]
  congr 1
  simp only[List.map_cons,List.map_nil,List.flatMap_cons,List.flatMap_nil,List.append_nil]
  exact px_pt deep L n h
theorem Shot.bytes {s:List UInt8} {a b:Nat} {d:Bool} {L:List UInt8} (h:Shot s a b d L):shotB a b (pixOf d L (b*a)) d=s:=by
 have hl:=h.len
 have e:3*a*b=3*(b*a):=by rw[Nat.mul_assoc,Nat.mul_comm a b]
 rw[e] at hl
 rw[shotB,Xiv3 d L _ (by omega),List.take_of_length_le (by omega),h.eq]
 simp
end Go.Proofs.YtfjeonehdlphiaaGreatDoor
