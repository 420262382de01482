/- Part 12. -/
import Derived.Test.YtfjeonehdlphiaaGreatDoorC10Sd
import Derived.Lib.ItoaMem
import Derived.Lib.Strings
open List renaming length_append → ka
set_option linter.unusedVariables false
namespace Go.Proofs.YtfjeonehdlphiaaGreatDoor
open Go.RowKit
open _root_.Go.Proofs.Tryz
abbrev bV (n:Nat):List UInt8:=Lib.decDigits n
def cw (a:Bool):Nat:=if a then 65535 else 255
def eh (a b c:Nat):List UInt8:=(([80,54,10]++(bV a++[32]))++(bV b++[10]))++(bV c++[10])
theorem rs:bV 255=[UInt8.ofNat (48+2),UInt8.ofNat (48+5),UInt8.ofNat (48+5)]:=by
 rw[bV,Lib.decDigits,dif_neg dD,show 255 / 10=25 from rfl,Lib.decDigits_two dD dD];rfl
theorem rt:bV 65535=[UInt8.ofNat (48+6),UInt8.ofNat (48+5),UInt8.ofNat (48+5),UInt8.ofNat (48+3),UInt8.ofNat (48+5)]:=by
 rw[bV,Lib.decDigits,dif_neg dD,show 65535 / 10=6553 from rfl,Lib.decDigits,dif_neg dD,show 6553 / 10=655 from rfl,Lib.decDigits,dif_neg dD,show 655 / 10=65 from rfl,Lib.decDigits_two dD dD];rfl
theorem rL (a:Bool):(((cw a:Nat):Int) == 65535)=a:=by cases a<;>rfl
def B6 (a:Bool):Nat:=if a then 2 else 1
def i8 (a:Bool) (L:List UInt8) (k:Nat):Int:=if a then 256*((L.getD (2*k) 0).toNat:Int)+((L.getD (2*k+1) 0).toNat:Int) else 257*((L.getD k 0).toNat:Int)
def oh (a:Bool) (L:List UInt8) (i:Nat):Px:=(i8 a L (3*i),i8 a L (3*i+1),i8 a L (3*i+2))
def od (a:Bool) (L:List UInt8) (n:Nat):List Px:=(List.range n).map (oh a L)
def u8 (x:Int):UInt8:=UInt8.ofNat x.toNat
def eU (a:Bool) (x:Int):List UInt8:=if a then [u8 (x / 256),u8 x] else [u8 (x / 256)]
def iw (a:Bool) (p:Px):List UInt8:=eU a p.1++(eU a p.2.1++eU a p.2.2)
def dX (a:Bool) (ps:List Px):List UInt8:=ps.flatMap (iw a)
def d6 (W H:Int) (ps:List Px) (a:Bool):List UInt8:=eh W.toNat H.toNat (cw a)++dX a ps
theorem ml (a:Bool) (x:Int):(eU a x).length=B6 a:=by unfold eU B6;cases a<;>rfl
theorem wY (a:Bool) (p:Px):(iw a p).length=B6 a*3:=by
 unfold iw;rw[ka,ka,ml,ml,ml];omega
theorem sk (a:Bool) (ps:List Px):(dX a ps).length=B6 a*(3*ps.length):=by
 induction ps with
 | nil=>rfl
 | cons p ps ih =>
  rw[dX,List.flatMap_cons,ka,wY,show (ps.flatMap (iw a)).length=_ from ih,List.length_cons,Nat.mul_add 3,Nat.mul_add];omega
theorem GM {x:Int} (a:0<=x):((u8 x).toNat:Int)=x % 256:=by
 unfold u8;simp;omega
def H9 (x:Int):Prop:=0<=x/\x<=65535
theorem DL (d:Bool) (L:List UInt8) (n:Nat):(od d L n).length=n:=by simp[od]
end Go.Proofs.YtfjeonehdlphiaaGreatDoor
