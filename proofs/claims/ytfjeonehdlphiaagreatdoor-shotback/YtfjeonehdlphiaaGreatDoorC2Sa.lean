/- Sa: part 2 of what the proofs need. -/
import Derived.Test.YtfjeonehdlphiaaGreatDoorC1Sa
set_option linter.unusedVariables false
namespace Go.Proofs.YtfjeonehdlphiaaGreatDoor
abbrev Pt:=Int×Int
def ptAt (ls:List Pt) (i:Nat):Pt:=ls.getD i (0,0)
theorem jU85 (ls:List Pt) (i:Nat) (h:i<ls.length):ls[i]=ptAt ls i:=by simp[ptAt,List.getD_eq_getElem?_getD,List.getElem?_eq_getElem h]
def ptY (ls:List Pt) (i:Nat):Bool:=decide (0≤(ptAt ls i).2∧(ptAt ls i).2≤65535)
def Xqx5 (ls:List Pt) (i:Nat):Bool:=decide (0<i→(ptAt ls (i-1)).1<(ptAt ls i).1∧(ptAt ls (i-1)).2≤(ptAt ls i).2)
def ptsOk (ls:List Pt) (k:Nat):Bool:=(List.range k).all fun i=>ptY ls i && Xqx5 ls i
def jMWf (ls:List Pt):Bool:=decide (2≤(ls.length:Int)∧(ls.length:Int)≤16) && decide ((ptAt ls 0).1=0) && decide ((ptAt ls (ls.length-1)).1=65535)
def zamz (ls:List Pt):Bool:=jMWf ls && ptsOk ls ls.length
theorem qYjQ (ls:List Pt) (k:Nat):ptsOk ls (k+1)=(ptsOk ls k && (ptY ls k && Xqx5 ls k)):=by simp[ptsOk,List.range_succ]
theorem qhxg (ls:List Pt) (k n:Nat) (h:k<n) (hf:(ptY ls k && Xqx5 ls k)=false):ptsOk ls n=false:=by
 rw[Bool.eq_false_iff];intro he
 have:=List.all_eq_true.1 he k (List.mem_range.2 h)
 rw[hf] at this;cases this
theorem qzFt {ls:List Pt} {n:Nat} (h:ptsOk ls n=true) (k:Nat) (hk:k<n):(0≤(ptAt ls k).2∧(ptAt ls k).2≤65535)∧(0<k→(ptAt ls (k-1)).1<(ptAt ls k).1∧(ptAt ls (k-1)).2≤(ptAt ls k).2):=by
 have:=List.all_eq_true.1 h k (List.mem_range.2 hk)
 rw[Bool.and_eq_true] at this
 exact ⟨of_decide_eq_true this.1,of_decide_eq_true this.2⟩
structure jhAl (ls:List Pt):Prop where
 two:2≤ls.length
 most:ls.length≤16
 first:(ptAt ls 0).1=0
 last:(ptAt ls (ls.length-1)).1=65535
 y:∀k,k<ls.length→0≤(ptAt ls k).2∧(ptAt ls k).2≤65535
 step:∀k,k+1<ls.length→(ptAt ls k).1<(ptAt ls (k+1)).1∧(ptAt ls k).2≤(ptAt ls (k+1)).2
theorem zqz3 {ls:List Pt} (h:zamz ls=true):jhAl ls:=by
 rw[zamz,jMWf,Bool.and_eq_true,Bool.and_eq_true,Bool.and_eq_true] at h
 obtain ⟨⟨⟨h1,h2⟩,h3⟩,h4⟩:=h
 have h1:=of_decide_eq_true h1
 exact ⟨by omega,by omega,of_decide_eq_true h2,of_decide_eq_true h3,fun k hk=>(qzFt h4 k hk).1,fun k hk=>(qzFt h4 (k+1) hk).2 (by omega)⟩
theorem jhAl.lt {ls:List Pt} (h:jhAl ls) (i d:Nat) (hj:i+d+1<ls.length):(ptAt ls i).1<(ptAt ls (i+d+1)).1∧(ptAt ls i).2≤(ptAt ls (i+d+1)).2:=by
 induction d with
 | zero=>exact h.step i hj
 | succ d ih =>
  have h1:=ih (by omega)
  have h2:=h.step (i+d+1) (by omega)
  rw[show i+(d+1)+1=i+d+1+1 by omega]
  omega
theorem jhAl.x {ls:List Pt} (h:jhAl ls) (k:Nat) (hk:k<ls.length):0≤(ptAt ls k).1∧(ptAt ls k).1≤65535:=by
 have h1:=h.first
 have h2:=h.last
 have h3:=h.two
 constructor
 ·rcases Nat.eq_zero_or_pos k with rfl|hp
  ·omega
  ·have:=(h.lt 0 (k-1) (by omega)).1
   rw[show 0+(k-1)+1=k by omega] at this
   omega
 ·rcases Nat.eq_or_lt_of_le (show k≤ls.length-1 by omega) with e|hlt
  ·rw[e];omega
  ·have:=(h.lt k (ls.length-1-k-1) (by omega)).1
   rw[show k+(ls.length-1-k-1)+1=ls.length-1 by omega] at this
   omega
def Xp0K (ls:List Pt) (i:Nat) (x:Int):Int:=(ptAt ls (i-1)).2+((ptAt ls i).2-(ptAt ls (i-1)).2)*(x-(ptAt ls (i-1)).1) / ((ptAt ls i).1-(ptAt ls (i-1)).1)
def isAt (ls:List Pt) (x:Int) (i:Nat):Prop:=i<ls.length∧x≤(ptAt ls i).1∧∀j,j<i→(ptAt ls j).1<x
def XwYM (ls:List Pt) (x:Int):Nat:=ls.findIdx fun p=>decide (x≤p.1)
def qy0p (ls:List Pt) (x:Int):Int:=if (ptAt ls (XwYM ls x)).1=x then (ptAt ls (XwYM ls x)).2 else Xp0K ls (XwYM ls x) x
theorem XJjO {ls:List Pt} {x:Int} {i:Nat} (h:isAt ls x i):XwYM ls x=i:=by
 rw[XwYM,List.findIdx_eq h.1]
 refine ⟨by rw[jU85 ls i h.1];simpa using h.2.1,fun j hj=>?_⟩
 have:=h.2.2 j hj
 rw[jU85 ls j (by have:=h.1;omega)]
 simp;omega
theorem jMoW {ls:List Pt} {x:Int} {i:Nat} (h:isAt ls x i):qy0p ls x=if (ptAt ls i).1=x then (ptAt ls i).2 else Xp0K ls i x:=by
 rw[qy0p,XJjO h]
theorem jwsP {ls:List Pt} (h:jhAl ls) (i:Nat) (hi:i+1<ls.length) (x:Int) (h1:(ptAt ls i).1≤x) (h2:x≤(ptAt ls (i+1)).1) :
  0≤((ptAt ls (i+1)).2-(ptAt ls i).2)*(x-(ptAt ls i).1)∧((ptAt ls (i+1)).2-(ptAt ls i).2)*(x-(ptAt ls i).1)≤4294836225∧(ptAt ls i).2≤Xp0K ls (i+1) x∧Xp0K ls (i+1) x≤(ptAt ls (i+1)).2:=by
 have hs:=h.step i hi
 have y1:=h.y i (by omega)
 have y2:=h.y (i+1) hi
 have x1:=h.x i (by omega)
 have x2:=h.x (i+1) hi
 have a:0≤(ptAt ls (i+1)).2-(ptAt ls i).2:=by omega
 have b:0≤x-(ptAt ls i).1:=by omega
 have hnn:=Int.mul_nonneg a b
 have hle:=Int.mul_le_mul (show (ptAt ls (i+1)).2-(ptAt ls i).2≤65535 by omega) (show x-(ptAt ls i).1≤65535 by omega) b (by omega)
 have hd:0<(ptAt ls (i+1)).1-(ptAt ls i).1:=by omega
 have hq0:=Int.ediv_nonneg hnn (Int.le_of_lt hd)
 have hle2:=Int.mul_le_mul_of_nonneg_left (show x-(ptAt ls i).1≤(ptAt ls (i+1)).1-(ptAt ls i).1 by omega) a
 have hq1:=Int.ediv_le_of_le_mul hd hle2
 refine ⟨hnn,by omega,?_,?_⟩
 ·rw[Xp0K,Nat.add_sub_cancel];omega
 ·rw[Xp0K,Nat.add_sub_cancel];omega
theorem qgIX {ls:List Pt} (h:jhAl ls) {x:Int} {i:Nat} (hi:isAt ls x i) (h0:0≤x):0≤qy0p ls x∧qy0p ls x≤65535:=by
 rw[jMoW hi]
 split
 ·exact h.y i hi.1
 ·rename_i hne
  have hf:=h.first
  obtain ⟨k,rfl⟩:∃k,i=k+1:=by
   cases i with
   | zero=>exact absurd (by have:=hi.2.1;omega) hne
   | succ k=>exact ⟨k,rfl⟩
  have hb:=jwsP h k hi.1 x (Int.le_of_lt (hi.2.2 k (by omega))) hi.2.1
  have y1:=h.y k (by have:=hi.1;omega)
  have y2:=h.y (k+1) hi.1
  omega
theorem jIzf {ls:List Pt} (h:jhAl ls) {x:Int} (hx:x≤65535):∃i,isAt ls x i:=by
 have key:∀k,k≤ls.length→(∃i,isAt ls x i)∨∀j,j<k→(ptAt ls j).1<x:=by
  intro k
  induction k with
  | zero=>intro _;exact .inr fun j hj=>by omega
  | succ k ih =>
   intro hk
   rcases ih (by omega) with h1|h1
   ·exact .inl h1
   ·by_cases hc:(ptAt ls k).1<x
    ·refine .inr fun j hj=>?_
     rcases Nat.eq_or_lt_of_le (show j≤k by omega) with e|hlt
     ·rw[e];exact hc
     ·exact h1 j hlt
    ·exact .inl ⟨k,by omega,by omega,h1⟩
 rcases key ls.length (Nat.le_refl _) with h1|h1
 ·exact h1
 ·have:=h1 (ls.length-1) (by have:=h.two;omega)
  have:=h.last
  omega
theorem jhAl.le {ls:List Pt} (h:jhAl ls) (i j:Nat) (hij:i≤j) (hj:j<ls.length):(ptAt ls i).2≤(ptAt ls j).2:=by
 rcases Nat.eq_or_lt_of_le hij with e|hlt
 ·rw[e];exact Int.le_refl _
 ·have:=(h.lt i (j-i-1) (by omega)).2
  rw[show i+(j-i-1)+1=j by omega] at this
  exact this
end Go.Proofs.YtfjeonehdlphiaaGreatDoor
