/- grid: what a round of Plane's loop, or Picture's, leaves. -/
import Derived.Test.YtolcndchfnifhaaGridPlane
import Derived.OneCell
namespace Go.Proofs.Ytolcndchfnifhaa
open Go.RowKit

theorem own_ne {V : World} {base : Nat} {et : TypeId} {sz : Nat} {v : Value} {n : Nat} {xs : List Value} (h : V.ownsRow base et sz v n xs) {b : Nat} {cs : Array Value} {t : TypeId} {fr : Nat × Nat} (hb : V.heap[b]? = some (.cells cs t fr)) (ht : t ≠ et) : some b ≠ v.ownBlock := by
  rcases h.2 with ⟨hv, _⟩ | ⟨g, cap, cur, hv, _, hg, _⟩
  · rw [hv]; simp [Value.ownBlock]
  · rw [hv]
    simp only [Value.ownBlock]
    intro e
    simp only [Option.some.injEq] at e
    subst e
    rw [hb] at hg
    simp only [Option.some.injEq, Obj.cells.injEq] at hg
    exact ht hg.2.1
theorem own_cells {V : World} {base : Nat} {et : TypeId} {sz : Nat} {v : Value} {n : Nat} {xs : List Value} (h : V.ownsRow base et sz v n xs) {b : Nat} {o : Obj} (hb : V.heap[b]? = some o) (ho : o.isCells = false) : some b ≠ v.ownBlock := by
  rcases h.2 with ⟨hv, _⟩ | ⟨g, cap, cur, hv, _, hg, _⟩
  · rw [hv]; simp [Value.ownBlock]
  · rw [hv]
    simp only [Value.ownBlock]
    intro e
    simp only [Option.some.injEq] at e
    subst e
    rw [hb] at hg
    cases hg
    simp [Obj.isCells] at ho
theorem lenOf_any {w : World} {base : Nat} {e : TypeId} {sz : Nat} {v : Value} {n : Nat} {xs : List Value} (h : w.ownsRow base e sz v n xs) : ∃ ao cap, v = .slice ao n cap := by
  rcases h.2 with ⟨hv, hn⟩ | ⟨g, cap, cur, hv, _⟩
  · exact ⟨none, 0, by rw [hv, hn]⟩
  · exact ⟨_, _, hv⟩

theorem noDefer_of {ops : Array Oper} (h : (ops.toList.all fun o => match o.op with | .defer _ => false | _ => true) = true) : NoDefer ops := by
  intro i o ho c hc
  have hm : o ∈ ops.toList := by
    rw [← Array.getElem?_toList] at ho
    exact List.mem_of_getElem? ho
  have := List.all_eq_true.1 h o hm
  rw [hc] at this
  cases this

/-- a block of cells stands, where a block that is none is turned. -/
theorem own_keep {B : Nat} {X Y : World} {row : Option Nat} (hg : X.grownBy Y row) (hr : ∀ r, row = some r → B ≤ r ∧ ∃ o : Obj, X.heap[r]? = some o ∧ o.isCells = false) {b : Nat} {cs : Array Value} {t : TypeId} {fr : Nat × Nat} (h : X.heap[b]? = some (.cells cs t fr)) : Y.heap[b]? = some (.cells cs t fr) := by
  refine (hg.block b (Array.getElem?_eq_some_iff.1 h).1 (fun e => ?_)).trans h
  obtain ⟨_, o, ho, hc⟩ := hr b e.symm
  rw [h] at ho; cases ho; cases hc
theorem own_keepRow {B : Nat} {X Y : World} {row : Option Nat} (hg : X.grownBy Y row) (hr : ∀ r, row = some r → B ≤ r ∧ ∃ o : Obj, X.heap[r]? = some o ∧ o.isCells = false) {base : Nat} {et : TypeId} {sz : Nat} {v : Value} {n : Nat} {xs : List Value} (h : X.ownsRow base et sz v n xs) : Y.ownsRow base et sz v n xs := by
  refine h.kept hg ?_
  by_cases hv : v.ownBlock = none
  · exact .inl hv
  · refine .inr fun e => ?_
    cases hrow : row with
    | none => rw [hrow] at e; exact hv e
    | some r =>
      obtain ⟨_, o, ho, hc⟩ := hr r hrow
      exact own_cells h ho hc (by rw [e, hrow])

/-- what lies behind a round, where an element has been appended. -/
theorem grid_tail {et ct ft gt xt : TypeId} {sz : Nat} (ce : ct ≠ et) (fe : ft ≠ et) (ge : gt ≠ et) (xe : xt ≠ et) (cf : ct ≠ ft) (cg : ct ≠ gt) (cx : ct ≠ xt)
    {W' V1 w1 w : World} {base PB Bt Br Bx Bg B0 : Nat} {W H : Int} {so : Option Addr} {scap n g cap : Nat} {fn x0 x1 : Value} {es : Array Value} {xs : List Value}
    (i1 : W'.heap[PB]? = some (.cells #[.int .i64 W, .int .i64 H, .slice so n scap] ct (0, 0))) (i2 : W'.ownsRow base et sz (.slice so n scap) n xs)
    (i3 : W'.heap[Bt]? = some (.cells #[fn] ft (0, 0))) (i4 : W'.heap[Br]? = some (.cells #[.int .i64 0, .int .i64 0, .slice none 0 0] ct (0, 0)))
    (i6 : W'.heap[Bg]? = some (.cells #[.int .i64 W, .int .i64 H] gt (0, 0))) (bX : W'.heap[Bx]? = some (.cells #[x0, x1] xt (0, 0)))
    (i5 : Below w.heap.size w W') (hbase : w.heap.size ≤ base) (hPw : w.heap.size ≤ PB) (hPR : PB ≠ Br)
    (hV1 : Below W'.heap.size W' V1) (hg : (V1.alloc (Obj.cells es et)).grownBy w1 (Value.slice so n scap).ownBlock)
    (ho : w1.ownsRow base et sz (.slice (some ⟨g, 0, none⟩) (n + 1) cap) (n + 1) (xs ++ es.toList)) :
    (w1.cell? ⟨Bt, 0, none⟩ = some fn ∧ w1.cell? ⟨Bx, 0, none⟩ = some x0 ∧ w1.cell? ⟨Bx, 1, none⟩ = some x1) ∧ w1.cell? ⟨PB, 2, none⟩ = some (.slice so n scap) ∧ w1.frozen? ⟨PB, 2, none⟩ = false ∧
    (((w1.setCell ⟨PB, 2, none⟩ (.slice (some ⟨g, 0, none⟩) (n + 1) cap)).cell? ⟨Bt, 0, none⟩ = some fn ∧ (w1.setCell ⟨PB, 2, none⟩ (.slice (some ⟨g, 0, none⟩) (n + 1) cap)).cell? ⟨Bx, 0, none⟩ = some x0 ∧ (w1.setCell ⟨PB, 2, none⟩ (.slice (some ⟨g, 0, none⟩) (n + 1) cap)).cell? ⟨Bx, 1, none⟩ = some x1) ∧
      (KeepsFrom B0 W' (w1.setCell ⟨PB, 2, none⟩ (.slice (some ⟨g, 0, none⟩) (n + 1) cap)) ∧ KeepB Bg W' (w1.setCell ⟨PB, 2, none⟩ (.slice (some ⟨g, 0, none⟩) (n + 1) cap)) ∧
        ((∃ v, (w1.setCell ⟨PB, 2, none⟩ (.slice (some ⟨g, 0, none⟩) (n + 1) cap)).heap[PB]? = some (.cells #[.int .i64 W, .int .i64 H, v] ct (0, 0)) ∧ (w1.setCell ⟨PB, 2, none⟩ (.slice (some ⟨g, 0, none⟩) (n + 1) cap)).ownsRow base et sz v (n + 1) (xs ++ es.toList)) ∧
          (w1.setCell ⟨PB, 2, none⟩ (.slice (some ⟨g, 0, none⟩) (n + 1) cap)).heap[Bt]? = some (.cells #[fn] ft (0, 0)) ∧ (w1.setCell ⟨PB, 2, none⟩ (.slice (some ⟨g, 0, none⟩) (n + 1) cap)).heap[Br]? = some (.cells #[.int .i64 0, .int .i64 0, .slice none 0 0] ct (0, 0)) ∧
          (w1.setCell ⟨PB, 2, none⟩ (.slice (some ⟨g, 0, none⟩) (n + 1) cap)).heap[Bg]? = some (.cells #[.int .i64 W, .int .i64 H] gt (0, 0)) ∧ Below w.heap.size w (w1.setCell ⟨PB, 2, none⟩ (.slice (some ⟨g, 0, none⟩) (n + 1) cap))))) := by
  have keep : ∀ b o, W'.heap[b]? = some o → some b ≠ (Value.slice so n scap).ownBlock → w1.heap[b]? = some o := fun b o hb hne => by
    have hl := (Array.getElem?_eq_some_iff.1 hb).1
    have hs := hV1.size
    rw [hg.block b (by simp; omega) hne, Below.heap_alloc _ _ _ (by omega), hV1.block b hl]; exact hb
  have kP := keep PB _ i1 (own_ne i2 i1 ce)
  have kT := keep Bt _ i3 (own_ne i2 i3 fe)
  have kR := keep Br _ i4 (own_ne i2 i4 ce)
  have kG := keep Bg _ i6 (own_ne i2 i6 ge)
  have kX := keep Bx _ bX (own_ne i2 bX xe)
  have nT : PB ≠ Bt := fun e => by rw [e] at i1; rw [i1] at i3; simp only [Option.some.injEq, Obj.cells.injEq] at i3; exact cf i3.2.1
  have nG : PB ≠ Bg := fun e => by rw [e] at i1; rw [i1] at i6; simp only [Option.some.injEq, Obj.cells.injEq] at i6; exact cg i6.2.1
  have nX : PB ≠ Bx := fun e => by rw [e] at i1; rw [i1] at bX; simp only [Option.some.injEq, Obj.cells.injEq] at bX; exact cx bX.2.1
  have fT := (Below.heap_setCell w1 ⟨PB, 2, none⟩ (.slice (some ⟨g, 0, none⟩) (n + 1) cap) Bt (Ne.symm nT)).trans kT
  have fR := (Below.heap_setCell w1 ⟨PB, 2, none⟩ (.slice (some ⟨g, 0, none⟩) (n + 1) cap) Br (Ne.symm hPR)).trans kR
  have fG := (Below.heap_setCell w1 ⟨PB, 2, none⟩ (.slice (some ⟨g, 0, none⟩) (n + 1) cap) Bg (Ne.symm nG)).trans kG
  have fX := (Below.heap_setCell w1 ⟨PB, 2, none⟩ (.slice (some ⟨g, 0, none⟩) (n + 1) cap) Bx (Ne.symm nX)).trans kX
  refine ⟨⟨by rw [Lib.cell_of_heap kT]; rfl, by rw [Lib.cell_of_heap kX]; rfl, by rw [Lib.cell_of_heap kX]; rfl⟩, by rw [Lib.cell_of_heap kP]; rfl, Lib.frozen_of_heap kP 2,
    ⟨by rw [Lib.cell_of_heap fT]; rfl, by rw [Lib.cell_of_heap fX]; rfl, by rw [Lib.cell_of_heap fX]; rfl⟩, ?_, by rw [KeepB, fG, i6], ⟨_, ?_, ownsRow_setCell_other ho (fun e => own_ne ho kP ce e.symm) _⟩, fT, fR, fG, ?_⟩
  · refine ⟨?_, fun k o _ hk hoc => ?_⟩
    · have h1 := hV1.size
      have h2 := hg.size
      simp only [World.size_alloc] at h2
      simp only [World.setCell, Array.size_modify]
      omega
    · rw [Below.heap_setCell _ _ _ _ (fun e => by rw [show k = PB from e, i1] at hk; cases hk; simp [Obj.isCells] at hoc)]
      exact keep k o hk (own_cells i2 hk hoc)
  · have := heap_setCell_same w1 PB 2 _ _ (.slice (some ⟨g, 0, none⟩) (n + 1) cap) kP
    rw [this]; rfl
  · have hs := hV1.size
    exact ((((i5.trans (hV1.mono i5.size)).alloc (by have := i5.size; omega) _).grown hg (by have := i5.size; simp; omega) (fun j hj => Nat.le_trans hbase (i2.lt j hj).1))).setCell (p := ⟨PB, 2, none⟩) hPw _

theorem box3_set {W' : World} {Br : Nat} {ct : TypeId} {a b c : Value} (i4 : W'.heap[Br]? = some (.cells #[a, b, c] ct (0, 0))) (x y z : Value) (w : World) (hBr : w.heap.size ≤ Br) (i5 : Below w.heap.size w W') :
    (((W'.setCell ⟨Br, 0, none⟩ x).setCell ⟨Br, 1, none⟩ y).setCell ⟨Br, 2, none⟩ z).heap[Br]? = some (.cells #[x, y, z] ct (0, 0)) ∧ (∀ k, k ≠ Br → (((W'.setCell ⟨Br, 0, none⟩ x).setCell ⟨Br, 1, none⟩ y).setCell ⟨Br, 2, none⟩ z).heap[k]? = W'.heap[k]?) ∧
      (((W'.setCell ⟨Br, 0, none⟩ x).setCell ⟨Br, 1, none⟩ y).setCell ⟨Br, 2, none⟩ z).heap.size = W'.heap.size ∧ Below w.heap.size w (((W'.setCell ⟨Br, 0, none⟩ x).setCell ⟨Br, 1, none⟩ y).setCell ⟨Br, 2, none⟩ z) := by
  refine ⟨?_, fun k hk => ?_, by simp [World.setCell], ((i5.setCell (p := ⟨Br, 0, none⟩) hBr _).setCell (p := ⟨Br, 1, none⟩) hBr _).setCell (p := ⟨Br, 2, none⟩) hBr _⟩
  · have h1 := heap_setCell_same W' Br 0 _ _ x i4
    have h2 := heap_setCell_same _ Br 1 _ _ y h1
    have h3 := heap_setCell_same _ Br 2 _ _ z h2
    rw [h3]; rfl
  · rw [Below.heap_setCell _ _ _ _ hk, Below.heap_setCell _ _ _ _ hk, Below.heap_setCell _ _ _ _ hk]
theorem own_other {W' X : World} {Br : Nat} (h : ∀ k, k ≠ Br → X.heap[k]? = W'.heap[k]?) {base : Nat} {et : TypeId} {sz : Nat} {v : Value} {n : Nat} {xs : List Value} (hne : some Br ≠ v.ownBlock) (ho : W'.ownsRow base et sz v n xs) : X.ownsRow base et sz v n xs := by
  refine ⟨ho.1, ?_⟩
  rcases ho.2 with ho | ⟨g, cap, cur, hv, hg, hh, r⟩
  · exact .inl ho
  · refine .inr ⟨g, cap, cur, hv, hg, ?_, r⟩
    rw [h g (fun e => hne (by rw [hv, e]; rfl))]; exact hh

end Go.Proofs.Ytolcndchfnifhaa
