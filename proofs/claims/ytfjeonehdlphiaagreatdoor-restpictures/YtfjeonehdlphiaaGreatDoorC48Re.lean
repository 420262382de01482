/- Re: part 48 of what the proofs need. -/
import Derived.Test.YtfjeonehdlphiaaGreatDoorC45Re
import Derived.Test.YtfjeonehdlphiaaGreatDoorC47Re
import Derived.Lib.SmallJoins
set_option linter.unusedVariables false
namespace Go.Proofs.YtfjeonehdlphiaaGreatDoor
open Go.ChangeShapes Go.WideShapes Go.ChangeAt Go.RowKit
theorem XOHi {P:Program} {H:Type} {enc:TypeId×Value→H} {W:World} {base:Nat} {spare:Nat→Bool} {held:Bool} {fuel:Nat} {t e:TypeId} {so:Option Addr} {n c b:Nat} {x:DataW H×List MemPlace}
  (ht:P.underlying t=some (.slice e)) (hb:P.bytesOf e=b) (h:DataW.trod enc P W base spare held fuel t [.slice so n c]=some x) (hw:∀n∈x.1.weights P t,n≤reachBytes):n*b≤140737488355328:=by
 rcases DataW.trod_slice ht h with ⟨hcs,_⟩|⟨a,len,cap,elems,rest,m,_,hcs,rfl,_,_,_,hlen,_⟩
 ·simp at hcs
  obtain ⟨_,h2,_⟩:=hcs
  simp[h2]
 ·simp at hcs
  obtain ⟨_,h2,_⟩:=hcs
  have h3:=hw _ (by simp only[DataW.weights,ht];exact List.mem_cons_self ..)
  have:=reachBytes_lt
  rw[hb] at h3
  simp only[List.length_map] at h3
  rw[Nat.add_mul] at h3
  have h4:elems.length=n:=by omega
  rw[h4] at h3
  omega
theorem jpni {P:Program} {H:Type} {enc:TypeId×Value→H} {W:World} {base:Nat} {spare:Nat→Bool} {held:Bool} {fuel:Nat} {t e:TypeId} {v:Value} {x:DataW H×List MemPlace} {zs:List Int}
  (ht:P.underlying t=some (.slice e)) (hb:P.bytesOf e=8) (h:DataW.trod enc P W base spare held fuel t [v]=some x) (hv:jCvT W v zs) (hw:∀n∈x.1.weights P t,n≤reachBytes):zs.length*8≤140737488355328:=by
 obtain ⟨so,sc,rfl,_⟩:=hv
 exact XOHi ht hb h hw
theorem jMgi {P:Program} {H:Type} {enc:TypeId×Value→H} {W:World} {base:Nat} {spare:Nat→Bool} {held:Bool} {fuel:Nat} {t e:TypeId} {v:Value} {x:DataW H×List MemPlace} {ps:List Px}
  (ht:P.underlying t=some (.slice e)) (hb:P.bytesOf e=24) (h:DataW.trod enc P W base spare held fuel t [v]=some x) (hv:IsPix W v ps) (hw:∀n∈x.1.weights P t,n≤reachBytes):ps.length*24≤140737488355328:=by
 obtain ⟨so,sc,rfl,_⟩:=hv
 exact XOHi ht hb h hw
theorem j6pj {P:Program} {H:Type} {t t2:TypeId} {f0 f1 f2:Field} {a b c:DataW H} {n:Nat} (ht:P.underlying t=some (.struct #[f0,f1,f2])) (h2:f2.type=t2) (hn:n∈c.weights P t2):n∈(DataW.agg [a,b,c]).weights P t:=by
 simp only[DataW.weights,ht]
 exact DataW.weights_mem_each (j:=2) (t:=t2) (d:=c) (by rw[←h2];rfl) rfl n hn
end Go.Proofs.YtfjeonehdlphiaaGreatDoor
