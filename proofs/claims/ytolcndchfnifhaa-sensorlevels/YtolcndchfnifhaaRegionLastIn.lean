/- A region that ends with a store, inside a round of a loop over a function. -/
import Derived.Test.YtolcndchfnifhaaRegionLast
import Derived.Test.YtolcndchfnifhaaInRound
namespace Go.Proofs.Ytolcndchfnifhaa
open Go.RowKit

theorem wpIn_region_last {P : Program} {id l n f : Nat} {ops : Array Oper} {S : World → Prop} {Q : Exit → Act → World → Prop} {a : Act} {w : World} (hm : P.follows .mixedOrders = true) (hd : NoDefer ops) (hno : ¬ LetsOut Q)
    (h : wpAnyF P .any ops Q S f ops.size (Array.replicate ops.size false) a { w with drawn := w.drawn + 1 }) : (Code.region id ops true).wpIn (Fence.wide.inRound l) n P Q a w :=
  wpIn_region_any hm (wpAnyIn_of_wpAny hd hno _ _ _ _ (wpAny_of_F _ _ _ _ h))

end Go.Proofs.Ytolcndchfnifhaa
