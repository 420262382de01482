/- grid: Plane, with what sensor.Level tells of each place. -/
import Derived.Test.YtolcndchfnifhaaPlaces
import Derived.RangeFuncBox
import Derived.Maps.AppendAt
import Derived.Deep.RegionHeld3
import Derived.Deep.AppendLies
import Derived.Test.YtolcndchfnifhaaInRound
namespace Go.Proofs.Ytolcndchfnifhaa
open Go.RowKit Go.Shelf

attribute [local go_sem] Oper.semAt_some

theorem KeepB.trans' {Bg : Nat} {A B C : World} (h : KeepB Bg A B) (k : KeepB Bg B C) : KeepB Bg A C := Eq.trans k h
theorem keepB_put {Bg l : Nat} {X : World} {o : Obj} (h : Bg ≠ l) : KeepB Bg X (X.putObj l o) := by
  show (X.putObj l o).heap[Bg]? = X.heap[Bg]?
  unfold World.putObj
  simp [Ne.symm h]
theorem below_drew'' {B : Nat} {a w : World} (h : Below B a w) : Below B a w.drew := h.drew

set_option maxHeartbeats 400000 in
theorem places_in (F : Fence) (n : Nat) (hf : F.fn 121) (hro : F.round = none) (W H : Int) (w : World) :
    CallsIn F n Try.prog 121 #[.agg #[.int .i64 W, .int .i64 H]] w fun e w' => e = .returned (.func (.func 129) #[] #[.pointer (some ⟨w.heap.size, 0, none⟩)]) ∧ w' = w.alloc (.cells #[.int .i64 W, .int .i64 H] 114) := by
  refine callsIn_of_wp Try.func121 rfl hf ?_ hro
  simp only [Try.ntmps121, List.size_toArray, List.length_cons, List.length_nil, Nat.reduceAdd, Nat.reduceSub, Array.replicate_succ, Array.replicate_zero, List.push_toArray, List.append_toArray, List.nil_append, List.cons_append]
  gi_wp2
  go_ret
  exact ⟨rfl, rfl⟩

theorem places_stops (F : Fence) (n : Nat) (hf : F.fn 129) (hro : F.round = none) (hn : 1 ≤ n) (Bg W H N : Nat) (hW : W ≤ 64) (hH : H ≤ 64) (hN : N = H * W) (w : World) (hBw : Bg < w.heap.size)
    (hc0 : w.cell? ⟨Bg, 0, none⟩ = some (.int .i64 W)) (hc1 : w.cell? ⟨Bg, 1, none⟩ = some (.int .i64 H)) :
    SeqStopsK F n Try.prog 129 #[.pointer (some ⟨Bg, 0, none⟩)] (fun x : Fin N => #[Value.agg #[.int .i64 (x.1 % W : Nat), .int .i64 (x.1 / W : Nat)]]) (KeepB Bg) (fun ys => ys = List.finRange N) (fun pre => pre <+: List.finRange N) N w := fun l J Jx V hV _ _ hY h0 =>
  places1_in F n hf hro hn l Bg W H N hW hH hN J Jx hY V ((hV.cell (p := ⟨Bg, 0, none⟩) hBw).trans hc0) ((hV.cell (p := ⟨Bg, 1, none⟩) hBw).trans hc1) h0

end Go.Proofs.Ytolcndchfnifhaa
