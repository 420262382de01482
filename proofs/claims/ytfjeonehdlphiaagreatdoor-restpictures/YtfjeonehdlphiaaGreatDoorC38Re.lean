/- Re: part 38 of what the proofs need. -/
import Derived.Test.YtfjeonehdlphiaaGreatDoorC6Re
import Derived.Test.YtfjeonehdlphiaaGreatDoorC19Re
import Derived.Test.YtfjeonehdlphiaaGreatDoorC35Re
import Derived.Deep.CutRange
open Array renaming getElem?_eq_some_iff → ka
set_option linter.unusedVariables false
namespace Go.Proofs.YtfjeonehdlphiaaGreatDoor
open Go.RowKit
def PlJ (w:World) (r:RawF) (RA:Array Value) (QX k:Nat) (wr:World):Prop :=
 ∃(so:Option Addr) (cap:Nat),stOk r k=true∧wr.heap[QX]?=some (.cells #[.int .i64 r.w,.int .i64 r.h,.slice so (plUp r k).length cap] 54 (0,0))∧wr.ownsRow w.heap.size 3 1 (.slice so (plUp r k).length cap) (plUp r k).length ((plUp r k).map (Value.int .i64)) ∧
  wr.heap[w.heap.size]?=some (.cells RA 57 (0,0))∧wr.heap[w.heap.size+1]?=some (.cells #[.int .i64 0,.int .i64 0,.slice none 0 0] 54 (0,0))∧Below w.heap.size w wr
theorem PlJ.below {w:World} {r:RawF} {RA:Array Value} {QX k:Nat} {wr V:World} (h:PlJ w r RA QX k wr) (hV:Below wr.heap.size wr V):PlJ w r RA QX k V:=by
 obtain ⟨so,cap,h1,h3,h4,h5,h6,h8⟩:=h
 exact ⟨so,cap,h1,(hV.block _ (ka.1 h3).1).trans h3,qw14 h4 hV,(hV.block _ (ka.1 h5).1).trans h5,(hV.block _ (ka.1 h6).1).trans h6,h8.trans (hV.mono h8.size)⟩
theorem zGcC.step {B b:Nat} {u:Value} {ts:List (List UInt8)} {w w':World} (h:zGcC w u ts) (hs:WStep B b w w') (ha:Apart B b u w):zGcC w' u ts:=by
 obtain ⟨ao,cap,rfl,hl,h⟩:=h
 refine ⟨ao,cap,rfl,hl,?_⟩
 rcases h with h|⟨c,off,rfl,hlt,hc⟩
 ·exact .inl h
 ·refine .inr ⟨c,off,rfl,Nat.lt_of_lt_of_le hlt hs.bel.size,fun j hj=>?_⟩
  rw[World.cell?_of_block (a:=⟨c,off+j,none⟩) (hs.block hlt (ha c rfl hlt))]
  exact hc j hj
theorem XNGw {ts:List (List UInt8)} {k:Nat} (hk:k<ts.length):ts.getD k []=ts[k]:=by simp[hk]
theorem qcx1 {ls:List Pt} (h:zamz ls=true):ls.length≤16:=by
 simp only[zamz,jMWf,Bool.and_eq_true,decide_eq_true_eq] at h
 omega
structure Right (r:RawF):Prop where
 head:Head r
 many:r.strips.length=cntN r
 plan:planE r.plan=0
 spots:XepW r.w r.h r.plan.spots=true
 strips:stOk r r.strips.length=true
theorem Right.zero {r:RawF} (h:Right r):XDWf r=0:=by
 rw[XDWf,if_pos h.head.zero,if_pos h.many,if_pos (by rw[pErr,if_pos h.plan,if_pos h.spots]),if_pos h.strips]
end Go.Proofs.YtfjeonehdlphiaaGreatDoor
