/- Ra: part 3 of what the proofs need. -/
import Derived.Test.YtanebhbfekcplaaGreatC1Ra
import Derived.Test.YtanebhbfekcplaaGreatC2Ra
import Derived.Lib.Builder
import Derived.Deep.Cut
import Derived.Deep.CutRange
import Derived.Lib.UnsafeStr
import Derived.Maps.OwnSet
import Derived.Maps.OwnOps
import Derived.WideKeyEntry
import Derived.DeepKeys4
import Derived.Carry
import Derived.RangeFuncNested
import Derived.RangeFuncCalls
import Derived.OrdersIn
import Derived.OrdersHeld
import Derived.Test.YtanebhbfekcplaaGreatProg
import Derived.RangeFuncBound
import Derived.RangeFuncLeaves
import Derived.Shelf.Abstract
import Derived.Shelf.RegionOpen
import Derived.WalkKit
import Derived.OwnWalkIn
import Derived.TacticsInMore
import Derived.LoopNIn
import Derived.LoopIn
import Derived.RangeFuncBox
import Derived.Maps.AppendAt
import Derived.Deep.RegionHeld3
import Derived.Deep.AppendLies
import Derived.Laws.EntriesVeiled
namespace Go.Proofs.YtanebhbfekcplaaGreat
set_option linter.unusedVariables false
open Go.RowKit
theorem run_bool_cell (W : World) (K : Nat) (c : Bool) (h : W.cell? ⟨K, 0, none⟩ = some (.bool c)) : (loadVar 4 ⟨K, 0, none⟩).run Tryz.prog W = .ok (.bool c) W := by
  have ha := Tryz.isAgg4 W
  simp [loadVar, Sem.run_bind, ha, go_sem, h]
theorem file_results (tmps : Array Value) (R K : Nat) (cs : Array Value) (c : Bool) (W : World) (h2 : tmps.getD 2 undef = .pointer (some ⟨R, 0, none⟩)) (h3 : tmps.getD 3 undef = .pointer (some ⟨K, 0, none⟩))
    (hR : W.heap[R]? = some (.cells cs 32 (0, 0))) (hs : (Tryz.prog.info? 32).map (·.size) = some cs.size) (hK : W.heap[K]? = some (.cells #[.bool c] 4 (0, 0))) :
    (results Tryz.f45 tmps).run Tryz.prog W = .ok (.tuple #[.agg cs, .bool c]) W := by
  have hl := run_loadVar_row (P := Tryz.prog) W R 32 32 cs (0, 0) _ hR Tryz.underlying32 rfl hs
  have hk := run_bool_cell W K c (by rw [Lib.cell_of_heap hK]; rfl)
  have h2' : tmps[2]?.getD undef = .pointer (some ⟨R, 0, none⟩) := by simpa using h2
  have h3' : tmps[3]?.getD undef = .pointer (some ⟨K, 0, none⟩) := by simpa using h3
  simp [results, Tryz.results45, h2', h3', asAddr, hl, hk]
set_option maxRecDepth 100000 in
set_option maxHeartbeats 1600000 in
theorem file_door {w V : World} {cs : List Value} {Post : Ending → World → Prop} {tmps : Array Value} (hb : Below w.heap.size w V) (hR : Holds w.heap.size 32 cs V) (hn : cs.length = 28) (hK : Holds (w.heap.size + 1) 4 [.bool false] V)
    (h2 : tmps.getD 2 undef = .pointer (some ⟨w.heap.size, 0, none⟩)) (h3 : tmps.getD 3 undef = .pointer (some ⟨w.heap.size + 1, 0, none⟩))
    (hP : ∀ W, Below w.heap.size w W → Post (.returned (.tuple #[.agg rawZ, .bool false])) W) :
    bodyPostD Tryz.prog Tryz.f45 Post (Exit.panic [{ v := panV, recovered := false }]) { tmps := tmps, defers := [{ target := Target.fn (Fn.func 79) #[.pointer (some ⟨w.heap.size, 0, none⟩), .pointer (some ⟨w.heap.size + 1, 0, none⟩)], args := #[] }] } V := by
  refine leaves_cons (f := 79) (args := #[.pointer (some ⟨w.heap.size, 0, none⟩), .pointer (some ⟨w.heap.size + 1, 0, none⟩)]) (by simp) (by simp [go_sem]) ?_
  refine (catch_pan w.heap.size (w.heap.size + 1) cs.toArray (.bool false) V hR (by simpa using hn) hK (by omega)).mono ?_
  rintro e u' w'' ⟨rfl, rfl, rfl⟩
  have g1 : ((V.setRow w.heap.size rawZ).setCell ⟨w.heap.size + 1, 0, none⟩ (.bool false)).heap[w.heap.size]? = some (.cells rawZ 32 (0, 0)) := (Below.heap_setCell _ _ _ _ (show w.heap.size ≠ w.heap.size + 1 by omega)).trans (setRow_heap _ _ _ _ _ _ hR)
  have k0 : (V.setRow w.heap.size rawZ).heap[w.heap.size + 1]? = some (.cells #[.bool false] 4 (0, 0)) := (setRow_other _ _ _ _ (by omega)).trans hK
  have g2 : ((V.setRow w.heap.size rawZ).setCell ⟨w.heap.size + 1, 0, none⟩ (.bool false)).heap[w.heap.size + 1]? = some (.cells #[.bool false] 4 (0, 0)) := by
    simp [World.setCell, Array.getElem?_modify, k0]
  have hr := file_results tmps w.heap.size (w.heap.size + 1) rawZ false _ h2 h3 g1 (by kernel_rfl) g2
  have hbb : Below w.heap.size w ((V.setRow w.heap.size rawZ).setCell ⟨w.heap.size + 1, 0, none⟩ (.bool false)) := (below_setRow hb (Nat.le_refl _) _).setCell (p := ⟨w.heap.size + 1, 0, none⟩) (Nat.le_succ _) _
  exact ⟨_, hr, hP _ hbb⟩
set_option maxRecDepth 100000 in
theorem file_ok {R K : Nat} {V : World} {cs : Array Value} {Post : Ending → World → Prop} {tmps : Array Value} (hR : V.heap[R]? = some (.cells cs 32 (0, 0))) (hs : (Tryz.prog.info? 32).map (·.size) = some cs.size) (hK : V.heap[K]? = some (.cells #[.bool true] 4 (0, 0)))
    (h2 : tmps.getD 2 undef = .pointer (some ⟨R, 0, none⟩)) (h3 : tmps.getD 3 undef = .pointer (some ⟨K, 0, none⟩)) (hP : Post (.returned (.tuple #[.agg cs, .bool true])) V) :
    bodyPostD Tryz.prog Tryz.f45 Post Exit.ret { tmps := tmps, defers := [{ target := Target.fn (Fn.func 79) #[.pointer (some ⟨R, 0, none⟩), .pointer (some ⟨K, 0, none⟩)], args := #[] }] } V := by
  refine leaves_cons (f := 79) (args := #[.pointer (some ⟨R, 0, none⟩), .pointer (some ⟨K, 0, none⟩)]) (by simp) (by simp [go_sem]) ?_
  refine (catch_idle R K V).mono ?_
  rintro e u' w'' ⟨rfl, rfl, rfl⟩
  exact ⟨_, file_results tmps R K cs true w'' h2 h3 hR hs hK, hP⟩
theorem leaves_congr {P : Program} {fn : Func} {t1 t2 : Array Value} {R : Ending → World → Prop} (h : ∀ w, (results fn t1).run P w = (results fn t2).run P w) (ds : List Deferred) : ∀ (u : FrameMode) (w : World), Leaves P fn t1 R ds u w → Leaves P fn t2 R ds u w := by
  induction ds with
  | nil =>
    intro u w hl
    cases u with
    | returning => obtain ⟨v, hv, hr⟩ := hl; exact ⟨v, (h w).symm.trans hv, hr⟩
    | panicking chain => exact hl
    | run => exact hl
  | cons d ds ih =>
    intro u w hl
    obtain ⟨hu, fv, cap, f, args, ht, hi, hc⟩ := hl
    refine ⟨hu, fv, cap, f, args, ht, hi, hc.mono ?_⟩
    intro e u' w' he
    cases e with
    | returned v => exact ih _ _ he
    | panicked chain => exact ih _ _ he
    | outgrown => exact he
theorem file_put {Post : Ending → World → Prop} {a : Act} {c : List PanicEntry} {w : World} {d : Nat} {v : Value} (hd : 3 < d) (h : bodyPostD Tryz.prog Tryz.f45 Post (Exit.panic c) (a.put (some d) v) w) : bodyPostD Tryz.prog Tryz.f45 Post (Exit.panic c) a w := by
  refine leaves_congr (fun w => ?_) _ _ _ h
  have e2 : (a.tmps.setIfInBounds d v)[2]? = a.tmps[2]? := Array.getElem?_setIfInBounds_ne (by omega)
  have e3 : (a.tmps.setIfInBounds d v)[3]? = a.tmps[3]? := Array.getElem?_setIfInBounds_ne (by omega)
  simp [results, Tryz.results45, Act.put, e2, e3]
end Go.Proofs.YtanebhbfekcplaaGreat

namespace Go.Proofs.YtanebhbfekcplaaGreat
set_option linter.unusedVariables false
open Go.RowKit
abbrev IsWr (B b : Nat) (l : List UInt8) (w : World) : Prop := Lib.IsBuilder 111 5 B b (byt l) w
def NoBytes (w : World) (k : Nat) : Prop := ∀ cs fr, w.heap[k]? ≠ some (.cells cs 5 fr)
structure WStep (B b : Nat) (w w' : World) : Prop where
  bel : Below B w w'
  keep : ∀ k, k < w.heap.size → k ≠ b → NoBytes w k → w'.heap[k]? = w.heap[k]?
theorem WStep.refl (B b : Nat) (w : World) : WStep B b w w := ⟨Below.refl _ _, fun _ _ _ _ => rfl⟩
theorem WStep.trans {B b : Nat} {w w' w'' : World} (h : WStep B b w w') (k : WStep B b w' w'') : WStep B b w w'' where
  bel := h.bel.trans k.bel
  keep := fun j h1 h2 h3 => by
    have e := h.keep j h1 h2 h3
    exact (k.keep j (Nat.lt_of_lt_of_le h1 h.bel.size) h2 (fun cs fr => by rw [e]; exact h3 cs fr)).trans e
theorem WStep.alloc {B b : Nat} {w : World} (hB : B ≤ w.heap.size) (o : Obj) : WStep B b w (w.alloc o) :=
  ⟨(bel_alloc w o).mono hB, fun k h1 _ _ => (bel_alloc w o).block k h1⟩
theorem IsWr.alloc {B b : Nat} {l : List UInt8} {w : World} (h : IsWr B b l w) (o : Obj) : IsWr B b l (w.alloc o) := by
  rcases h with ⟨h2, v, h3, h4, h5⟩ | ⟨h2, v, h3, h4, h5⟩
  · exact .inl ⟨h2, v, ((bel_alloc w o).block _ (Array.getElem?_eq_some_iff.1 h3).1).trans h3, ownsRow_below h4 (bel_alloc w o), h5⟩
  · exact .inr ⟨h2, v, ((bel_alloc w o).block _ (Array.getElem?_eq_some_iff.1 h3).1).trans h3, ownsRow_below h4 (bel_alloc w o), h5⟩
def Apart (B b : Nat) (u : Value) (w : World) : Prop := ∀ k, u.ownBlock = some k → k < w.heap.size → k < B ∨ (k ≠ b ∧ NoBytes w k)
theorem WStep.block {B b : Nat} {w w' : World} (hs : WStep B b w w') {k : Nat} (hk : k < w.heap.size) (ha : k < B ∨ (k ≠ b ∧ NoBytes w k)) : w'.heap[k]? = w.heap[k]? := by
  rcases ha with h | ⟨h, h'⟩
  · exact hs.bel.block k h
  · exact hs.keep k hk h h'
theorem IsInts.step {B b : Nat} {u : Value} {xs : List Int} {w w' : World} (h : IsInts w u xs) (hs : WStep B b w w') (ha : Apart B b u w) : IsInts w' u xs := by
  obtain ⟨ao, cap, rfl, hl, h⟩ := h
  refine ⟨ao, cap, rfl, hl, ?_⟩
  rcases h with h | ⟨c, off, rfl, hlt, hc⟩
  · exact .inl h
  · refine .inr ⟨c, off, rfl, Nat.lt_of_lt_of_le hlt hs.bel.size, fun j hj => ?_⟩
    rw [World.cell?_of_block (a := ⟨c, off + j, none⟩) (hs.block hlt (ha c rfl hlt))]
    exact hc j hj
theorem noBytes_of {w : World} {k : Nat} {cs : Array Value} {t : TypeId} {fr : Nat × Nat} (h : w.heap[k]? = some (.cells cs t fr)) (ht : t ≠ 5) : NoBytes w k := fun cs' fr' e => by
  rw [h] at e
  simp only [Option.some.injEq, Obj.cells.injEq] at e
  exact ht e.2.1
theorem Tryz.sizeBuilder : (Tryz.prog.info? 109).map (·.size) = some 2 := by kernel_rfl
theorem Tryz.liesWriter : liesAt Tryz.prog Tryz.prog.depth 111 (2 / Tryz.prog.cellsOf 111) 0 109 1 = true := by kernel_rfl
theorem Tryz.infoByteW : (Tryz.prog.info? 5).map (fun i => (i.zero, i.size, i.bytes)) = some (some (.int .u8 0), 1, 1) := by kernel_rfl
set_option maxHeartbeats 1000000 in
set_option maxRecDepth 100000 in
theorem wcopy_any (B b : Nat) (l : List UInt8) (w : World) (h : IsWr B b l w) :
    Calls Tryz.prog 141 #[.pointer (some ⟨b, 0, none⟩)] w fun e w' => e = .returned (.tuple #[]) ∧ (Lib.BuilderAt 111 5 B b (.pointer (some ⟨b, 0, none⟩)) (byt l) w' ∧ WStep B b w w' ∧ w'.heap.size = w.heap.size ∧ ∀ k, k ≠ b → w'.heap[k]? = w.heap[k]?) := by
  obtain ⟨j, hj, hjs⟩ := Option.map_eq_some_iff.1 Tryz.sizeBuilder
  rcases h with hA | hA
  · have c0 := hA.cell0
    have hsh := hA.shape
    have hfz := hA.frozen0
    have HU := hide (hA.used (.pointer (some ⟨b, 0, none⟩)))
    have HF := hide (show WStep B b w (w.setCell ⟨b, 0, none⟩ (.pointer (some ⟨b, 0, none⟩))) from ⟨Below.setCell (p := ⟨b, 0, none⟩) (Below.refl B w) hA.1 _, fun k _ hk _ => Below.heap_setCell _ _ _ _ (fun e => hk e)⟩)
    clear hA
    go_enter Tryz.func141, Tryz.ntmps141
    go_wp2
    rw [Lib.run_to_unsafe w ⟨b, 0, none⟩ Tryz.underlying107 Tryz.underlying169 hj (by rw [hjs]; decide) hsh (Nat.zero_lt_succ 1)]
    simp only [Result.andThen]
    rw [Oper.upon_value]
    go_wp2
    rw [run_callFunc_extern Tryz.func144 (by kernel_rfl) (by kernel_rfl) (by kernel_rfl) (e := Extern.AbiNoEscape.same) (by kernel_rfl)]
    rw [Lib.run_noEscape]
    simp only [Result.andThen]
    rw [Oper.upon_value]
    go_wp2
    rw [Lib.run_from_unsafe w ⟨b, 0, none⟩ Tryz.underlying169 Tryz.underlying107 hj hsh Tryz.liesWriter]
    simp only [Result.andThen]
    rw [Oper.upon_value]
    go_wp2
    go_end0
    exact ⟨rfl, HU.out, HF.out, by simp [World.setCell], fun k hk => Below.heap_setCell _ _ _ _ (fun e => hk e)⟩
  · have c0 := hA.cell0
    have HW := hide hA
    clear hA
    go_enter Tryz.func141, Tryz.ntmps141
    go_wp2
    rw [Lib.run_neq_ptr_same w _ Tryz.underlying107 hj]
    go_wp2
    go_end0
    exact ⟨rfl, HW.out, WStep.refl _ _ _, rfl, fun _ _ => rfl⟩
theorem wput {B b : Nat} {v v' : Value} {l m : List UInt8} {w w1 w2 : World} (hB : B ≤ b) (hBw : B ≤ w.heap.size)
    (h1 : w1.heap[b]? = some (.cells #[.pointer (some ⟨b, 0, none⟩), v] 111 (0, 0))) (hown : w1.ownsRow B 5 1 v l.length (byt l)) (hne : v.ownBlock ≠ some b) (hst : WStep B b w w1)
    (hg : w1.grownBy w2 v.ownBlock) (ho : w2.ownsRow B 5 1 v' (l ++ m).length (byt (l ++ m))) :
    w2.heap[b]? = some (.cells #[.pointer (some ⟨b, 0, none⟩), v] 111 (0, 0)) ∧ IsWr B b (l ++ m) (w2.setCell ⟨b, 1, none⟩ v') ∧ WStep B b w (w2.setCell ⟨b, 1, none⟩ v') := by
  have hlt : b < w1.heap.size := (Array.getElem?_eq_some_iff.1 h1).1
  have h2 : w2.heap[b]? = some (.cells #[.pointer (some ⟨b, 0, none⟩), v] 111 (0, 0)) := (hg.block b hlt (fun e => hne e.symm)).trans h1
  have hP := Lib.BuilderAt.put (T := 111) (e := 5) hB h2 (bs' := byt (l ++ m)) (by rw [byt_length]; exact ho) (by decide)
  refine ⟨h2, .inr hP, hst.trans ⟨((Below.refl B w1).grown hg (Nat.le_trans hBw hst.bel.size) (fun k hk => (hown.lt k hk).1)).setCell (p := ⟨b, 1, none⟩) hB _, fun k h3 h4 h5 => ?_⟩⟩
  rw [Below.heap_setCell _ _ _ _ (fun e => h4 e)]
  refine hg.block k h3 (fun e => ?_)
  rcases hown.2 with ⟨rfl, _⟩ | ⟨g, cap, cur, rfl, _, hgg, _⟩
  · cases e
  · simp only [Value.ownBlock, Option.some.injEq] at e
    subst e
    exact h5 _ _ hgg
set_option maxHeartbeats 2000000 in
set_option maxRecDepth 100000 in
theorem wbytes_any (B b : Nat) (l m : List UInt8) (M c g off : Nat) (w : World) (h : IsWr B b l w) (hM : m.length = M) (hm : ∀ j x, m[j]? = some x → w.cell? ⟨g, off + j, none⟩ = some (.int .u8 x.toNat)) (hgb : g ≠ b) (hlen : l.length + M ≤ 140737488355328) (hBw : B ≤ w.heap.size) :
    Calls Tryz.prog 126 #[.pointer (some ⟨b, 0, none⟩), .slice (some ⟨g, off, none⟩) M c] w fun e w' => e = .returned (.tuple #[.int .i64 M, .nilIface]) ∧ IsWr B b (l ++ m) w' ∧ WStep B b w w' := by
  obtain ⟨i0, hi, hz0, hz1, hz2⟩ := info_parts Tryz.infoByteW
  have HC := hide (wcopy_any B b l w h)
  have HM := hide hm
  clear hm
  go_enter Tryz.func126, Tryz.ntmps126
  go_wp2_with fail
  refine (HC.out).mono ?_
  rintro e w1 ⟨rfl, h1, hst, hsz, hke⟩
  obtain ⟨hB, v, hbk, hown, hne⟩ := h1
  rw [byt_length] at hown
  have c0 : w1.cell? ⟨b, 0, none⟩ = some (.pointer (some ⟨b, 0, none⟩)) := by rw [Lib.cell_of_heap hbk]; rfl
  have c1 : w1.cell? ⟨b, 1, none⟩ = some v := by rw [Lib.cell_of_heap hbk]; rfl
  have HN := hide (show ∀ j u, (byt m)[j]? = some u → w1.cell? ((⟨g, off, none⟩ : Addr).add j) = some u from fun j u hj => by
    rw [byt_get?] at hj
    obtain ⟨x, hx, rfl⟩ := Option.map_eq_some_iff.1 hj
    rw [Addr.add_lit, World.cell?_of_block (a := ⟨g, off + j, none⟩) (hke g hgb)]
    exact HM.out j x hx)
  clear hke
  have HWN := hide hown
  go_wp2_with (at_builtin; refine wpList_append_own _ rfl _ _ 71 rfl B 5 i0 (.int .u8 0) 1 1 Tryz.underlying71 hi hz0 hz1 hz2 rfl (by decide) _ _ _ rfl HWN.out ⟨g, off, none⟩ M c (byt m) rfl ?qc1 ?qc2 ?qc3 ?qc4 ?qc5 ?qc6 ?_)
  case qc1 => rw [byt_length, hM, Nat.mul_one]
  case qc2 => exact HN.out
  case qc3 => exact byt_oneCell m
  case qc4 => unfold maxLen; omega
  case qc5 => omega
  case qc6 => omega
  intro v' w2 hown' hgrow _
  have ho : w2.ownsRow B 5 1 v' (l ++ m).length (byt (l ++ m)) := by rw [List.length_append, hM, byt_append]; exact hown'
  obtain ⟨hb2, hW, hS⟩ := wput hB hBw hbk hown hne hst hgrow ho
  have HW := hide hW
  have HS := hide hS
  have d0 : w2.cell? ⟨b, 0, none⟩ = some (.pointer (some ⟨b, 0, none⟩)) := by rw [Lib.cell_of_heap hb2]; rfl
  have d1 : w2.cell? ⟨b, 1, none⟩ = some v := by rw [Lib.cell_of_heap hb2]; rfl
  have f1 : w2.frozen? ⟨b, 1, none⟩ = false := Lib.frozen_of_heap hb2 1
  obtain ⟨ao, n', cap, rfl⟩ : ∃ ao n' cap, v' = .slice ao n' cap := by
    rcases hown'.2 with ⟨hv, _⟩ | ⟨g, cap, cur, hv, _⟩
    · exact ⟨_, _, _, hv⟩
    · exact ⟨_, _, _, hv⟩
  clear hW hS ho hown' hgrow
  go_wp2
  go_ret2
  exact ⟨rfl, HW.out, HS.out⟩
set_option maxHeartbeats 2000000 in
set_option maxRecDepth 100000 in
theorem wstr_any (B b : Nat) (l m : List UInt8) (w : World) (h : IsWr B b l w) (hlen : l.length + m.length ≤ 140737488355328) (hBw : B ≤ w.heap.size) :
    Calls Tryz.prog 118 #[.pointer (some ⟨b, 0, none⟩), .string (str m)] w fun e w' => e = .returned (.tuple #[.int .i64 m.length, .nilIface]) ∧ IsWr B b (l ++ m) w' ∧ WStep B b w w' := by
  obtain ⟨i0, hi, hz0, hz1, hz2⟩ := info_parts Tryz.infoByteW
  have HC := hide (wcopy_any B b l w h)
  have hsm : (str m).size = m.length := str_size m
  have hcm : Lib.strCells (str m) = byt m := by simp [Lib.strCells, byt, str]
  go_enter Tryz.func118, Tryz.ntmps118
  go_wp2_with fail
  refine (HC.out).mono ?_
  rintro e w1 ⟨rfl, h1, hst, hsz, hke⟩
  obtain ⟨hB, v, hbk, hown, hne⟩ := h1
  rw [byt_length] at hown
  have c0 : w1.cell? ⟨b, 0, none⟩ = some (.pointer (some ⟨b, 0, none⟩)) := by rw [Lib.cell_of_heap hbk]; rfl
  have c1 : w1.cell? ⟨b, 1, none⟩ = some v := by rw [Lib.cell_of_heap hbk]; rfl
  clear hke
  have HWN := hide hown
  go_wp2_with (at_builtin; refine Lib.wpList_append_own_string _ rfl _ _ 71 9 rfl B 5 i0 Tryz.underlying71 Tryz.underlying9 hi hz0 hz1 hz2 _ _ _ rfl HWN.out (str m) rfl ?c3 ?c4 ?c5 ?_)
  case c3 => unfold maxLen; omega
  case c4 => omega
  case c5 => omega
  intro v' w2 hown' hgrow _
  have ho : w2.ownsRow B 5 1 v' (l ++ m).length (byt (l ++ m)) := by rw [List.length_append, byt_append, ← hcm, ← hsm]; exact hown'
  obtain ⟨hb2, hW, hS⟩ := wput hB hBw hbk hown hne hst hgrow ho
  have HW := hide hW
  have HS := hide hS
  have d0 : w2.cell? ⟨b, 0, none⟩ = some (.pointer (some ⟨b, 0, none⟩)) := by rw [Lib.cell_of_heap hb2]; rfl
  have d1 : w2.cell? ⟨b, 1, none⟩ = some v := by rw [Lib.cell_of_heap hb2]; rfl
  have f1 : w2.frozen? ⟨b, 1, none⟩ = false := Lib.frozen_of_heap hb2 1
  obtain ⟨ao, n', cap, rfl⟩ : ∃ ao n' cap, v' = .slice ao n' cap := by
    rcases hown'.2 with ⟨hv, _⟩ | ⟨g, cap, cur, hv, _⟩
    · exact ⟨_, _, _, hv⟩
    · exact ⟨_, _, _, hv⟩
  clear hW hS ho hown' hgrow
  go_wp2
  go_ret2
  exact ⟨rfl, HW.out, HS.out⟩
end Go.Proofs.YtanebhbfekcplaaGreat

namespace Go.Proofs.YtanebhbfekcplaaGreat
set_option linter.unusedVariables false
open Go.RowKit
theorem num4_cells {w : World} {g : Nat} {X : Int} (hg : w.heap[g]? = some (.cells #[.int .u8 (X % 4294967296 / 16777216), .int .u8 (X % 4294967296 / 65536 % 256), .int .u8 (X % 4294967296 / 256 % 256), .int .u8 (X % 256)] 5 (0, 0))) :
    ∀ j x, (num4 X)[j]? = some x → w.cell? ⟨g, 0 + j, none⟩ = some (.int .u8 x.toNat) := by
  intro j x hj
  have hl : j < 4 := (List.getElem?_eq_some_iff.1 hj).1
  rw [Lib.cell_of_heap hg, Nat.zero_add]
  have e : ∀ n : Nat, n < 256 → ((UInt8.ofNat n).toNat : Int) = n := fun n hn => by simp [UInt8.toNat_ofNat']; omega
  rcases (show j = 0 ∨ j = 1 ∨ j = 2 ∨ j = 3 by omega) with rfl | rfl | rfl | rfl
  all_goals
    simp only [num4, List.getElem?_cons_zero, List.getElem?_cons_succ, Option.some.injEq] at hj
    subst hj
    rw [e _ (by omega)]
    simp
    try omega
theorem nums_length (xs : List Int) : (xs.flatMap num4).length = xs.length * 4 := by
  induction xs with
  | nil => rfl
  | cons x xs ih => rw [List.flatMap_cons, List.length_append, ih, num4_length, List.length_cons]; omega
theorem take_nums (xs : List Int) (k : Nat) (hk : k < xs.length) : (xs.take (k + 1)).flatMap num4 = (xs.take k).flatMap num4 ++ num4 xs[k] := by
  rw [List.take_succ_eq_append_getElem hk, List.flatMap_append]; simp
theorem wints {B b : Nat} {xs : List Int} {w : World} {c g : Nat} {t : TypeId} {cs : Array Value} {ca : Nat} (hg : w.heap[g]? = some (.cells cs t (0, 0))) (hb : g ≠ b) (ht : t ≠ 5) : Apart B b (.slice (some ⟨g, 0, none⟩) c ca) w := by
  intro k hk _
  simp only [Value.ownBlock, Option.some.injEq] at hk
  subst hk
  exact .inr ⟨hb, noBytes_of hg ht⟩
set_option maxHeartbeats 3200000 in
set_option maxRecDepth 100000 in
theorem wnumsE_any (B b : Nat) (l : List UInt8) (v : Value) (xs : List Int) (w : World) (h : IsWr B b l w) (hv : IsInts w v xs) (hap : xs = [] ∨ Apart B b v w) (hlen : l.length + xs.length * 4 ≤ 140737488355328) (hBw : B ≤ w.heap.size) (hbw : b < w.heap.size) :
    Calls Tryz.prog 76 #[.pointer (some ⟨b, 0, none⟩), v] w fun e w' => e = .returned (.tuple #[]) ∧ IsWr B b (l ++ xs.flatMap num4) w' ∧ WStep B b w w' := by
  have HV := hide hv
  have HA := hide hap
  obtain ⟨ao, ca, rfl, hxl, hc⟩ := hv
  have HW := hide h
  clear h hap
  go_enter Tryz.func76, Tryz.ntmps76
  go_wp2_with fail
  go_loopw [9] (fun i wr => ∃ k : Nat, k ≤ xs.length ∧ i = .int .i64 k ∧ IsWr B b (l ++ (xs.take k).flatMap num4) wr ∧ WStep B b w wr) (fun i _ => xs.length - (intOf i).toNat)
  case atStart => exact ⟨0, Nat.zero_le _, rfl, by simpa using HW.out, WStep.refl _ _ _⟩
  case round =>
    clear HW
    obtain ⟨k, hk, rfl, hW, hS⟩ := hrel
    have HW := hide hW
    have HS := hide hS
    clear hW hS
    by_cases hlt : k < xs.length
    · have hd : decide ((k : Int) < (xs.length : Int)) = true := by simp; omega
      obtain ⟨cb, off, rfl, hcb, hcell⟩ : ∃ b off, ao = some ⟨b, off, none⟩ ∧ b < wr.heap.size ∧ wr.cell? ⟨b, off + k, none⟩ = some (.int .i64 xs[k]) := by
        obtain ⟨ao', ca', hv', _, h'⟩ := HV.out.step HS.out (HA.out.resolve_left (fun e => by rw [e] at hlt; simp at hlt))
        cases hv'
        rcases h' with h' | ⟨b, off, h1, h2, h3⟩
        · rw [h'] at hlt; simp at hlt
        · exact ⟨b, off, h1, h2, h3 k hlt⟩
      obtain ⟨X, hX⟩ : ∃ X, xs[k] = X := ⟨_, rfl⟩
      rw [hX] at hcell
      clear hc
      go_wp2_with fail
      have HW1 := hide (HW.out.alloc (Obj.cells #[.int .u8 (X % 4294967296 / 16777216), .int .u8 (X % 4294967296 / 65536 % 256), .int .u8 (X % 4294967296 / 256 % 256), .int .u8 (X % 256)] 5))
      have HS1 := hide (HS.out.trans (WStep.alloc (b := b) (Nat.le_trans hBw HS.out.bel.size) (Obj.cells #[.int .u8 (X % 4294967296 / 16777216), .int .u8 (X % 4294967296 / 65536 % 256), .int .u8 (X % 4294967296 / 256 % 256), .int .u8 (X % 256)] 5)))
      have hsz := HS.out.bel.size
      have hg := al1 wr (Obj.cells #[.int .u8 (X % 4294967296 / 16777216), .int .u8 (X % 4294967296 / 65536 % 256), .int .u8 (X % 4294967296 / 256 % 256), .int .u8 (X % 256)] 5)
      have hll : (l ++ (xs.take k).flatMap num4).length = l.length + k * 4 := by rw [List.length_append, nums_length, List.length_take]; omega
      refine (wbytes_any B b (l ++ (xs.take k).flatMap num4) (num4 X) 4 4 wr.heap.size 0 _ HW1.out rfl (num4_cells hg) (by omega) (by rw [hll]; omega) (Nat.le_trans hBw HS1.out.bel.size)).mono ?_
      rintro e w2 ⟨rfl, hW2, hS2⟩
      have HW2 := hide (show IsWr B b (l ++ (xs.take (k + 1)).flatMap num4) w2 by rw [take_nums xs k hlt, hX, ← List.append_assoc]; exact hW2)
      have HS2 := hide (HS1.out.trans hS2)
      clear hW2 hS2 hg hll hcell hX hsz
      go_wp2
      go_roundw
      case rel => exact ⟨k + 1, hlt, by go_num, HW2.out, HS2.out⟩
      case measure => simp [intOf]; omega
    · have hd : decide ((k : Int) < (xs.length : Int)) = false := by simp; omega
      obtain rfl : k = xs.length := by omega
      go_wp2
      go_end0
      exact ⟨rfl, by have := HW.out; rwa [List.take_length] at this, HS.out⟩
theorem wnums_any (B b : Nat) (l : List UInt8) (v : Value) (xs : List Int) (w : World) (h : IsWr B b l w) (hv : IsInts w v xs) (hap : Apart B b v w) (hlen : l.length + xs.length * 4 ≤ 140737488355328) (hBw : B ≤ w.heap.size) (hbw : b < w.heap.size) :
    Calls Tryz.prog 76 #[.pointer (some ⟨b, 0, none⟩), v] w fun e w' => e = .returned (.tuple #[]) ∧ IsWr B b (l ++ xs.flatMap num4) w' ∧ WStep B b w w' :=
  wnumsE_any B b l v xs w h hv (.inr hap) hlen hBw hbw
end Go.Proofs.YtanebhbfekcplaaGreat

namespace Go.Proofs.YtanebhbfekcplaaGreat
set_option linter.unusedVariables false
open Go.RowKit
def blackL (n : Plan) : List Int := [n.black 0, n.black 1, n.black 2, n.black 3]
def gainsL (n : Plan) : List Int := [n.gains 0, n.gains 1, n.gains 2]
def matL (n : Plan) : List Int := [n.matrix 0, n.matrix 1, n.matrix 2, n.matrix 3, n.matrix 4, n.matrix 5, n.matrix 6, n.matrix 7, n.matrix 8]
def planW (n : Plan) : List UInt8 :=
  num4 n.phase ++ ((blackL n).flatMap num4 ++ (num4 n.white ++ (listW pairW n.spots ++ ((gainsL n).flatMap num4 ++ ((matL n).flatMap num4 ++ (listW pairW n.curve ++ num4 n.amount))))))
theorem plan_black {w : World} {b : Nat} {t : TypeId} {fr : Nat × Nat} {n : Plan} {sv cv : Value} (h : w.heap[b]? = some (.cells (planA n sv cv) t fr)) : IsInts w (.slice (some ⟨b, 1, none⟩) 4 4) (blackL n) := by
  refine ⟨_, _, rfl, by simp [blackL], .inr ⟨b, 1, rfl, (Array.getElem?_eq_some_iff.1 h).1, fun j hj => ?_⟩⟩
  rw [Lib.cell_of_heap h]
  rcases (show j = 0 ∨ j = 1 ∨ j = 2 ∨ j = 3 by have : j < 4 := hj; omega) with rfl | rfl | rfl | rfl <;> rfl
theorem plan_gains {w : World} {b : Nat} {t : TypeId} {fr : Nat × Nat} {n : Plan} {sv cv : Value} (h : w.heap[b]? = some (.cells (planA n sv cv) t fr)) : IsInts w (.slice (some ⟨b, 7, none⟩) 3 3) (gainsL n) := by
  refine ⟨_, _, rfl, by simp [gainsL], .inr ⟨b, 7, rfl, (Array.getElem?_eq_some_iff.1 h).1, fun j hj => ?_⟩⟩
  rw [Lib.cell_of_heap h]
  rcases (show j = 0 ∨ j = 1 ∨ j = 2 by have : j < 3 := hj; omega) with rfl | rfl | rfl <;> rfl
theorem plan_mat {w : World} {b : Nat} {t : TypeId} {fr : Nat × Nat} {n : Plan} {sv cv : Value} (h : w.heap[b]? = some (.cells (planA n sv cv) t fr)) : IsInts w (.slice (some ⟨b, 10, none⟩) 9 9) (matL n) := by
  refine ⟨_, _, rfl, by simp [matL], .inr ⟨b, 10, rfl, (Array.getElem?_eq_some_iff.1 h).1, fun j hj => ?_⟩⟩
  rw [Lib.cell_of_heap h]
  rcases (show j = 0 ∨ j = 1 ∨ j = 2 ∨ j = 3 ∨ j = 4 ∨ j = 5 ∨ j = 6 ∨ j = 7 ∨ j = 8 by have : j < 9 := hj; omega) with rfl | rfl | rfl | rfl | rfl | rfl | rfl | rfl | rfl <;> rfl
theorem apart_at {B b : Nat} {w : World} {c g off ca : Nat} {t : TypeId} {cs : Array Value} {fr : Nat × Nat} (hg : w.heap[g]? = some (.cells cs t fr)) (hb : g ≠ b) (ht : t ≠ 5) : Apart B b (.slice (some ⟨g, off, none⟩) c ca) w := by
  intro k hk _
  simp only [Value.ownBlock, Option.some.injEq] at hk
  subst hk
  exact .inr ⟨hb, noBytes_of hg ht⟩
theorem IsPts.step {B b : Nat} {u : Value} {ls : List Pt} {w w' : World} (h : IsPts w u ls) (hs : WStep B b w w') (ha : Apart B b u w) : IsPts w' u ls := by
  obtain ⟨ao, cap, rfl, hl, h⟩ := h
  refine ⟨ao, cap, rfl, hl, ?_⟩
  rcases h with h | ⟨c, off, rfl, hlt, hc⟩
  · exact .inl h
  · have e := hs.block hlt (ha c rfl hlt)
    refine .inr ⟨c, off, rfl, Nat.lt_of_lt_of_le hlt hs.bel.size, fun j hj => ?_⟩
    rw [World.cell?_of_block (a := ⟨c, off + j * 2, none⟩) e, World.cell?_of_block (a := ⟨c, off + j * 2 + 1, none⟩) e]
    exact hc j hj
theorem pair_nums (p : Pt) : [p.1, p.2].flatMap num4 = pairW p := rfl
theorem pairs_length (ls : List Pt) : (ls.flatMap pairW).length = ls.length * 8 := by
  induction ls with
  | nil => rfl
  | cons x xs ih => rw [List.flatMap_cons, List.length_append, ih, List.length_cons, pairW, List.length_append, num4_length, num4_length]; omega
theorem take_pairs (ls : List Pt) (k : Nat) (hk : k < ls.length) : (ls.take (k + 1)).flatMap pairW = (ls.take k).flatMap pairW ++ pairW (ptAt ls k) := by
  rw [List.take_succ_eq_append_getElem hk, List.flatMap_append, ptAt_get]; simp
set_option maxHeartbeats 800000 in
set_option maxRecDepth 100000 in
theorem wtext_any (B b : Nat) (l m : List UInt8) (w : World) (h : IsWr B b l w) (hlen : l.length + m.length + 4 ≤ 140737488355328) (hBw : B ≤ w.heap.size) (hbw : b < w.heap.size) :
    Calls Tryz.prog 75 #[.pointer (some ⟨b, 0, none⟩), .string (str m)] w fun e w' => e = .returned (.tuple #[]) ∧ IsWr B b (l ++ textW m) w' ∧ WStep B b w w' := by
  have hsm : (str m).size = m.length := str_size m
  have HW := hide (h.alloc (Obj.cells #[.int .i64 m.length] 3))
  have HS := hide (WStep.alloc (b := b) hBw (Obj.cells #[.int .i64 m.length] 3))
  have hg := al1 w (Obj.cells #[.int .i64 m.length] 3)
  have HI := hide (ints1 w m.length)
  have HA := hide (wints (B := B) (b := b) (c := 1) (ca := 1) (xs := []) hg (by omega) (by decide))
  have hsz : B ≤ (w.alloc (Obj.cells #[.int .i64 m.length] 3)).heap.size := Nat.le_trans hBw HS.out.bel.size
  have hsb : b < (w.alloc (Obj.cells #[.int .i64 m.length] 3)).heap.size := Nat.lt_of_lt_of_le hbw HS.out.bel.size
  clear h hg
  go_enter Tryz.func75, Tryz.ntmps75
  go_wp2_with fail
  refine (wnums_any B b l _ [(m.length : Int)] _ HW.out HI.out HA.out (by simp; omega) hsz hsb).mono ?_
  rintro e w1 ⟨rfl, hW1, hS1⟩
  have HW1 := hide hW1
  have HS1 := hide (HS.out.trans hS1)
  clear hW1 hS1 HW HI HA HS
  go_wp2_with fail
  refine (wstr_any B b _ m _ HW1.out (by rw [List.length_append, nums_length]; simp; omega) (Nat.le_trans hBw HS1.out.bel.size)).mono ?_
  rintro e w2 ⟨rfl, hW2, hS2⟩
  have HW2 := hide (show IsWr B b (l ++ textW m) w2 by have := hW2; simpa [textW, List.append_assoc] using this)
  have HS2 := hide (HS1.out.trans hS2)
  go_wp2
  go_end0
  exact ⟨rfl, HW2.out, HS2.out⟩
set_option maxHeartbeats 6400000 in
set_option maxRecDepth 100000 in
theorem wplan_any (B b : Nat) (l : List UInt8) (n : Plan) (sv cv : Value) (w : World) (h : IsWr B b l w) (hp : IsPlan w n sv cv) (hs : n.spots = [] ∨ Apart B b sv w) (hc : n.curve = [] ∨ Apart B b cv w) (hl : l.length ≤ 1099511627776) (h1 : n.spots.length ≤ 1048576) (h2 : n.curve.length ≤ 1048576) (hBw : B ≤ w.heap.size) (hbw : b < w.heap.size) :
    Calls Tryz.prog 77 #[.pointer (some ⟨b, 0, none⟩), .agg (planA n sv cv)] w fun e w' => e = .returned (.tuple #[]) ∧ IsWr B b (l ++ planW n) w' ∧ WStep B b w w' := by
  have HP := hide hp
  have HAS := hide hs
  have HAC := hide hc
  obtain ⟨⟨lo, lc, rfl, hll, _⟩, ⟨ko, kc, rfl, hkl, _⟩⟩ := hp
  have a1 := al1 w (Obj.cells (planA n (.slice lo n.spots.length lc) (.slice ko n.curve.length kc)) 30)
  have hkb : w.heap.size ≠ b := by omega
  have HS0 := hide (WStep.alloc (b := b) hBw (Obj.cells (planA n (.slice lo n.spots.length lc) (.slice ko n.curve.length kc)) 30))
  have HW0 := hide (h.alloc (Obj.cells (planA n (.slice lo n.spots.length lc) (.slice ko n.curve.length kc)) 30))
  have HNB := hide (noBytes_of a1 (by decide))
  have hlt := (Array.getElem?_eq_some_iff.1 a1).1
  clear h hs hc
  go_enter Tryz.func77, Tryz.ntmps77
  obtain ⟨c0, c1, c2, c3, c4, c5, c6, c7, c8, c9, c10, c11, c12, c13, c14, c15, c16, c17, c18, c19, c20⟩ := plan_cells a1
  go_wp2_with fail
  clear c0 c1 c2 c3 c4 c5 c6 c7 c8 c9 c10 c11 c12 c13 c14 c15 c16 c17 c18 c19 c20
  have hB0 := HS0.out.bel.size
  have hB0 : B ≤ (w.alloc (Obj.cells (planA n (.slice lo n.spots.length lc) (.slice ko n.curve.length kc)) 30)).heap.size := Nat.le_trans hBw HS0.out.bel.size
  have hb0 : b < (w.alloc (Obj.cells (planA n (.slice lo n.spots.length lc) (.slice ko n.curve.length kc)) 30)).heap.size := Nat.lt_of_lt_of_le hbw HS0.out.bel.size
  have HSZ := hide (show (w.alloc (Obj.cells (planA n (.slice lo n.spots.length lc) (.slice ko n.curve.length kc)) 30)).heap.size = w.heap.size + 1 from World.size_alloc _ _)
  generalize w.alloc (Obj.cells (planA n (.slice lo n.spots.length lc) (.slice ko n.curve.length kc)) 30) = U at *
  have HBK := hide (show ∀ V, WStep B b U V → V.heap[w.heap.size]? = some (.cells (planA n (.slice lo n.spots.length lc) (.slice ko n.curve.length kc)) 30 (0, 0)) from fun V hV => (hV.block hlt (.inr ⟨hkb, HNB.out⟩)).trans a1)
  have HST := hide (WStep.refl B b U)
  have HW := HW0
  have HL := hide hl
  clear a1 HW0 hl
  have hBV : B ≤ U.heap.size := Nat.le_trans hB0 HST.out.bel.size
  have hbV : b < U.heap.size := Nat.lt_of_lt_of_le hb0 HST.out.bel.size
  have HG := hide (WStep.alloc (b := b) hBV (Obj.cells #[.int .i64 n.phase] 3))
  have HWA := hide (HW.out.alloc (Obj.cells #[.int .i64 n.phase] 3))
  have HIA := hide (ints1 U n.phase)
  have hga := al1 U (Obj.cells #[.int .i64 n.phase] 3)
  have HAA := hide (wints (B := B) (b := b) (c := 1) (ca := 1) (xs := []) hga (by omega) (by decide))
  have HLA := hide (show l.length + [(n.phase : Int)].length * 4 ≤ 140737488355328 by have := HL.out; simp; omega)
  have hBA := Nat.le_trans hBV HG.out.bel.size
  have hbA := Nat.lt_of_lt_of_le hbV HG.out.bel.size
  clear hga
  rw [HSZ.out] at HIA HAA
  generalize U.alloc (Obj.cells #[.int .i64 n.phase] 3) = VA at *
  refine (wnums_any B b l _ [(n.phase : Int)] _ HWA.out HIA.out HAA.out HLA.out hBA hbA).mono ?_
  rintro e V1 ⟨rfl, hW', hS'⟩
  replace HST := hide (HST.out.trans (HG.out.trans hS'))
  obtain ⟨L1, HQ1⟩ : ∃ L1, Hid (l ++ [(n.phase : Int)].flatMap num4 = L1) := ⟨_, rfl⟩
  rw [HQ1.out] at hW'
  replace HW := hide hW'
  replace HL := hide (show L1.length ≤ 1099511627776 + 4 by rw [← HQ1.out, List.length_append, nums_length]; have := HL.out; simp; omega)
  clear hW' hS' HG hBV hbV HWA HIA HAA HLA hBA hbA
  obtain ⟨c0, c1, c2, c3, c4, c5, c6, c7, c8, c9, c10, c11, c12, c13, c14, c15, c16, c17, c18, c19, c20⟩ := plan_cells (HBK.out V1 HST.out)
  go_wp2_with fail
  clear c0 c1 c2 c3 c4 c5 c6 c7 c8 c9 c10 c11 c12 c13 c14 c15 c16 c17 c18 c19 c20
  have hBV : B ≤ V1.heap.size := Nat.le_trans hB0 HST.out.bel.size
  have hbV : b < V1.heap.size := Nat.lt_of_lt_of_le hb0 HST.out.bel.size
  refine (wnums_any B b L1 _ (blackL n) _ HW.out (plan_black (HBK.out _ HST.out)) (apart_at (HBK.out _ HST.out) hkb (by decide)) (by have := HL.out; simp [blackL]; omega) hBV hbV).mono ?_
  rintro e V2 ⟨rfl, hW', hS'⟩
  replace HST := hide (HST.out.trans hS')
  obtain ⟨L2, HQ2⟩ : ∃ L2, Hid (L1 ++ (blackL n).flatMap num4 = L2) := ⟨_, rfl⟩
  rw [HQ2.out] at hW'
  replace HW := hide hW'
  replace HL := hide (show L2.length ≤ 1099511627776 + 20 by rw [← HQ2.out, List.length_append, nums_length]; have := HL.out; simp [blackL]; omega)
  clear hW' hS' hBV hbV
  obtain ⟨c0, c1, c2, c3, c4, c5, c6, c7, c8, c9, c10, c11, c12, c13, c14, c15, c16, c17, c18, c19, c20⟩ := plan_cells (HBK.out V2 HST.out)
  go_wp2_with fail
  clear c0 c1 c2 c3 c4 c5 c6 c7 c8 c9 c10 c11 c12 c13 c14 c15 c16 c17 c18 c19 c20
  have hBV : B ≤ V2.heap.size := Nat.le_trans hB0 HST.out.bel.size
  have hbV : b < V2.heap.size := Nat.lt_of_lt_of_le hb0 HST.out.bel.size
  have HG := hide (WStep.alloc (b := b) hBV (Obj.cells #[.int .i64 n.white] 3))
  have HWA := hide (HW.out.alloc (Obj.cells #[.int .i64 n.white] 3))
  have HIA := hide (ints1 V2 n.white)
  have hga := al1 V2 (Obj.cells #[.int .i64 n.white] 3)
  have HAA := hide (wints (B := B) (b := b) (c := 1) (ca := 1) (xs := []) hga (by omega) (by decide))
  have HLA := hide (show L2.length + [(n.white : Int)].length * 4 ≤ 140737488355328 by have := HL.out; simp; omega)
  have hBA := Nat.le_trans hBV HG.out.bel.size
  have hbA := Nat.lt_of_lt_of_le hbV HG.out.bel.size
  clear hga
  generalize V2.alloc (Obj.cells #[.int .i64 n.white] 3) = VA at *
  refine (wnums_any B b L2 _ [(n.white : Int)] _ HWA.out HIA.out HAA.out HLA.out hBA hbA).mono ?_
  rintro e V3 ⟨rfl, hW', hS'⟩
  replace HST := hide (HST.out.trans (HG.out.trans hS'))
  obtain ⟨L3, HQ3⟩ : ∃ L3, Hid (L2 ++ [(n.white : Int)].flatMap num4 = L3) := ⟨_, rfl⟩
  rw [HQ3.out] at hW'
  replace HW := hide hW'
  replace HL := hide (show L3.length ≤ 1099511627776 + 24 by rw [← HQ3.out, List.length_append, nums_length]; have := HL.out; simp; omega)
  clear hW' hS' HG hBV hbV HWA HIA HAA HLA hBA hbA
  obtain ⟨c0, c1, c2, c3, c4, c5, c6, c7, c8, c9, c10, c11, c12, c13, c14, c15, c16, c17, c18, c19, c20⟩ := plan_cells (HBK.out V3 HST.out)
  go_wp2_with fail
  clear c0 c1 c2 c3 c4 c5 c6 c7 c8 c9 c10 c11 c12 c13 c14 c15 c16 c17 c18 c19 c20
  have hBV : B ≤ V3.heap.size := Nat.le_trans hB0 HST.out.bel.size
  have hbV : b < V3.heap.size := Nat.lt_of_lt_of_le hb0 HST.out.bel.size
  have HG := hide (WStep.alloc (b := b) hBV (Obj.cells #[.int .i64 n.spots.length] 3))
  have HWA := hide (HW.out.alloc (Obj.cells #[.int .i64 n.spots.length] 3))
  have HIA := hide (ints1 V3 n.spots.length)
  have hga := al1 V3 (Obj.cells #[.int .i64 n.spots.length] 3)
  have HAA := hide (wints (B := B) (b := b) (c := 1) (ca := 1) (xs := []) hga (by omega) (by decide))
  have HLA := hide (show L3.length + [(n.spots.length : Int)].length * 4 ≤ 140737488355328 by have := HL.out; simp; omega)
  have hBA := Nat.le_trans hBV HG.out.bel.size
  have hbA := Nat.lt_of_lt_of_le hbV HG.out.bel.size
  clear hga
  generalize V3.alloc (Obj.cells #[.int .i64 n.spots.length] 3) = VA at *
  refine (wnums_any B b L3 _ [(n.spots.length : Int)] _ HWA.out HIA.out HAA.out HLA.out hBA hbA).mono ?_
  rintro e V4 ⟨rfl, hW', hS'⟩
  replace HST := hide (HST.out.trans (HG.out.trans hS'))
  obtain ⟨L4, HQ4⟩ : ∃ L4, Hid (L3 ++ [(n.spots.length : Int)].flatMap num4 = L4) := ⟨_, rfl⟩
  rw [HQ4.out] at hW'
  replace HW := hide hW'
  replace HL := hide (show L4.length ≤ 1099511627776 + 28 by rw [← HQ4.out, List.length_append, nums_length]; have := HL.out; simp; omega)
  clear hW' hS' HG hBV hbV HWA HIA HAA HLA hBA hbA
  obtain ⟨c0, c1, c2, c3, c4, c5, c6, c7, c8, c9, c10, c11, c12, c13, c14, c15, c16, c17, c18, c19, c20⟩ := plan_cells (HBK.out V4 HST.out)
  go_wp2_with fail
  clear c0 c1 c2 c3 c4 c5 c6 c7 c8 c9 c10 c11 c12 c13 c14 c15 c16 c17 c18 c19 c20
  go_loopw [31] (fun i wr => ∃ k : Nat, k ≤ n.spots.length ∧ i = .int .i64 k ∧ IsWr B b (L4 ++ (n.spots.take k).flatMap pairW) wr ∧ WStep B b U wr) (fun i _ => n.spots.length - (intOf i).toNat)
  case atStart => exact ⟨0, Nat.zero_le _, rfl, by simpa using HW.out, HST.out⟩
  case round =>
    obtain ⟨k, hk, rfl, hW, hS⟩ := hrel
    have HLL := HL
    clear HST HW
    have HST := hide hS
    have HW := hide hW
    clear hW hS
    by_cases hlt : k < n.spots.length
    · have hd : decide ((k : Int) < (n.spots.length : Int)) = true := by simp; omega
      obtain ⟨bq, oq, rfl, hbq, d0, d1⟩ := (HP.out.spots.step (HS0.out.trans HST.out) (HAS.out.resolve_left (fun e => by rw [e] at hlt; simp at hlt))).at k hlt
      obtain ⟨⟨x, y⟩, hxy⟩ : ∃ t, ptAt n.spots k = t := ⟨_, rfl⟩
      rw [hxy] at d0 d1
      have g1 := al1 wr (Obj.cells #[.int .i64 x, .int .i64 y] 77)
      obtain ⟨e0, e1⟩ := bx2 g1
      have hBV : B ≤ wr.heap.size := Nat.le_trans hB0 HST.out.bel.size
      have hbV : b < wr.heap.size := Nat.lt_of_lt_of_le hb0 HST.out.bel.size
      have HG := hide (WStep.alloc (b := b) hBV (Obj.cells #[.int .i64 x, .int .i64 y] 77))
      have HWA := hide (HW.out.alloc (Obj.cells #[.int .i64 x, .int .i64 y] 77))
      go_wp2_with fail
      clear d0 d1 e0 e1 g1
      have hBX : B ≤ (wr.alloc (Obj.cells #[.int .i64 x, .int .i64 y] 77)).heap.size := Nat.le_trans hBV HG.out.bel.size
      have hbX : b < (wr.alloc (Obj.cells #[.int .i64 x, .int .i64 y] 77)).heap.size := Nat.lt_of_lt_of_le hbV HG.out.bel.size
      have HI := hide (ints2b (wr.alloc (Obj.cells #[.int .i64 x, .int .i64 y] 77)) x y)
      have HK := hide (wints (B := B) (b := b) (c := 2) (ca := 2) (xs := []) (al1 (wr.alloc (Obj.cells #[.int .i64 x, .int .i64 y] 77)) (Obj.cells #[.int .i64 x, .int .i64 y] 3)) (by omega) (by decide))
      rw [World.size_alloc] at HI HK
      generalize wr.alloc (Obj.cells #[.int .i64 x, .int .i64 y] 77) = X at *
      have HG2 := hide (WStep.alloc (b := b) hBX (Obj.cells #[.int .i64 x, .int .i64 y] 3))
      refine (wnums_any B b _ _ [x, y] _ (HWA.out.alloc (Obj.cells #[.int .i64 x, .int .i64 y] 3)) HI.out HK.out (by have := HLL.out; rw [List.length_append, pairs_length, List.length_take]; simp; omega) (Nat.le_trans hBX HG2.out.bel.size) (Nat.lt_of_lt_of_le hbX HG2.out.bel.size)).mono ?_
      rintro e X2 ⟨rfl, hW', hS'⟩
      have HST2 := hide (HST.out.trans (HG.out.trans (HG2.out.trans hS')))
      have HW2 := hide (show IsWr B b (L4 ++ (n.spots.take (k + 1)).flatMap pairW) X2 by rw [take_pairs _ k hlt, hxy, ← List.append_assoc]; exact hW')
      clear hW' hS' HG HG2 HWA HI HK hBV hbV hBX hbX
      go_wp2
      go_roundw
      case rel => exact ⟨k + 1, hlt, by go_num, HW2.out, HST2.out⟩
      case measure => simp [intOf]; omega
    · have hd : decide ((k : Int) < (n.spots.length : Int)) = false := by simp; omega
      obtain rfl : k = n.spots.length := by omega
      rw [List.take_length] at HW
      obtain ⟨L5, HQ5⟩ : ∃ L5, Hid (L4 ++ n.spots.flatMap pairW = L5) := ⟨_, rfl⟩
      rw [HQ5.out] at HW
      clear HL
      have HL := hide (show L5.length ≤ 1099511627776 + 8388636 by rw [← HQ5.out, List.length_append, pairs_length]; have := HLL.out; omega)
      clear HLL
      generalize wr = VS at *
      obtain ⟨c0, c1, c2, c3, c4, c5, c6, c7, c8, c9, c10, c11, c12, c13, c14, c15, c16, c17, c18, c19, c20⟩ := plan_cells (HBK.out VS HST.out)
      go_wp2_with fail
      clear c0 c1 c2 c3 c4 c5 c6 c7 c8 c9 c10 c11 c12 c13 c14 c15 c16 c17 c18 c19 c20
      have hBV : B ≤ VS.heap.size := Nat.le_trans hB0 HST.out.bel.size
      have hbV : b < VS.heap.size := Nat.lt_of_lt_of_le hb0 HST.out.bel.size
      refine (wnums_any B b L5 _ (gainsL n) _ HW.out (plan_gains (HBK.out _ HST.out)) (apart_at (HBK.out _ HST.out) hkb (by decide)) (by have := HL.out; simp [gainsL]; omega) hBV hbV).mono ?_
      rintro e V6 ⟨rfl, hW', hS'⟩
      replace HST := hide (HST.out.trans hS')
      obtain ⟨L6, HQ6⟩ : ∃ L6, Hid (L5 ++ (gainsL n).flatMap num4 = L6) := ⟨_, rfl⟩
      rw [HQ6.out] at hW'
      replace HW := hide hW'
      replace HL := hide (show L6.length ≤ 1099511627776 + 8388648 by rw [← HQ6.out, List.length_append, nums_length]; have := HL.out; simp [gainsL]; omega)
      clear hW' hS' hBV hbV
      obtain ⟨c0, c1, c2, c3, c4, c5, c6, c7, c8, c9, c10, c11, c12, c13, c14, c15, c16, c17, c18, c19, c20⟩ := plan_cells (HBK.out V6 HST.out)
      go_wp2_with fail
      clear c0 c1 c2 c3 c4 c5 c6 c7 c8 c9 c10 c11 c12 c13 c14 c15 c16 c17 c18 c19 c20
      have hBV : B ≤ V6.heap.size := Nat.le_trans hB0 HST.out.bel.size
      have hbV : b < V6.heap.size := Nat.lt_of_lt_of_le hb0 HST.out.bel.size
      refine (wnums_any B b L6 _ (matL n) _ HW.out (plan_mat (HBK.out _ HST.out)) (apart_at (HBK.out _ HST.out) hkb (by decide)) (by have := HL.out; simp [matL]; omega) hBV hbV).mono ?_
      rintro e V7 ⟨rfl, hW', hS'⟩
      replace HST := hide (HST.out.trans hS')
      obtain ⟨L7, HQ7⟩ : ∃ L7, Hid (L6 ++ (matL n).flatMap num4 = L7) := ⟨_, rfl⟩
      rw [HQ7.out] at hW'
      replace HW := hide hW'
      replace HL := hide (show L7.length ≤ 1099511627776 + 8388684 by rw [← HQ7.out, List.length_append, nums_length]; have := HL.out; simp [matL]; omega)
      clear hW' hS' hBV hbV
      obtain ⟨c0, c1, c2, c3, c4, c5, c6, c7, c8, c9, c10, c11, c12, c13, c14, c15, c16, c17, c18, c19, c20⟩ := plan_cells (HBK.out V7 HST.out)
      go_wp2_with fail
      clear c0 c1 c2 c3 c4 c5 c6 c7 c8 c9 c10 c11 c12 c13 c14 c15 c16 c17 c18 c19 c20
      have hBV : B ≤ V7.heap.size := Nat.le_trans hB0 HST.out.bel.size
      have hbV : b < V7.heap.size := Nat.lt_of_lt_of_le hb0 HST.out.bel.size
      have HG := hide (WStep.alloc (b := b) hBV (Obj.cells #[.int .i64 n.curve.length] 3))
      have HWA := hide (HW.out.alloc (Obj.cells #[.int .i64 n.curve.length] 3))
      have HIA := hide (ints1 V7 n.curve.length)
      have hga := al1 V7 (Obj.cells #[.int .i64 n.curve.length] 3)
      have HAA := hide (wints (B := B) (b := b) (c := 1) (ca := 1) (xs := []) hga (by omega) (by decide))
      have HLA := hide (show L7.length + [(n.curve.length : Int)].length * 4 ≤ 140737488355328 by have := HL.out; simp; omega)
      have hBA := Nat.le_trans hBV HG.out.bel.size
      have hbA := Nat.lt_of_lt_of_le hbV HG.out.bel.size
      clear hga
      generalize V7.alloc (Obj.cells #[.int .i64 n.curve.length] 3) = VA at *
      refine (wnums_any B b L7 _ [(n.curve.length : Int)] _ HWA.out HIA.out HAA.out HLA.out hBA hbA).mono ?_
      rintro e V8 ⟨rfl, hW', hS'⟩
      replace HST := hide (HST.out.trans (HG.out.trans hS'))
      obtain ⟨L8, HQ8⟩ : ∃ L8, Hid (L7 ++ [(n.curve.length : Int)].flatMap num4 = L8) := ⟨_, rfl⟩
      rw [HQ8.out] at hW'
      replace HW := hide hW'
      replace HL := hide (show L8.length ≤ 1099511627776 + 8388688 by rw [← HQ8.out, List.length_append, nums_length]; have := HL.out; simp; omega)
      clear hW' hS' HG hBV hbV HWA HIA HAA HLA hBA hbA
      obtain ⟨c0, c1, c2, c3, c4, c5, c6, c7, c8, c9, c10, c11, c12, c13, c14, c15, c16, c17, c18, c19, c20⟩ := plan_cells (HBK.out V8 HST.out)
      go_wp2_with fail
      clear c0 c1 c2 c3 c4 c5 c6 c7 c8 c9 c10 c11 c12 c13 c14 c15 c16 c17 c18 c19 c20
      go_loopw [60] (fun i wr => ∃ k : Nat, k ≤ n.curve.length ∧ i = .int .i64 k ∧ IsWr B b (L8 ++ (n.curve.take k).flatMap pairW) wr ∧ WStep B b U wr) (fun i _ => n.curve.length - (intOf i).toNat)
      case atStart => exact ⟨0, Nat.zero_le _, rfl, by simpa using HW.out, HST.out⟩
      case round =>
        obtain ⟨k, hk, rfl, hW, hS⟩ := hrel
        have HLL := HL
        clear HST HW
        have HST := hide hS
        have HW := hide hW
        clear hW hS
        by_cases hlt : k < n.curve.length
        · have hd : decide ((k : Int) < (n.curve.length : Int)) = true := by simp; omega
          obtain ⟨bq, oq, rfl, hbq, d0, d1⟩ := (HP.out.curve.step (HS0.out.trans HST.out) (HAC.out.resolve_left (fun e => by rw [e] at hlt; simp at hlt))).at k hlt
          obtain ⟨⟨x, y⟩, hxy⟩ : ∃ t, ptAt n.curve k = t := ⟨_, rfl⟩
          rw [hxy] at d0 d1
          have g1 := al1 wr (Obj.cells #[.int .i64 x, .int .i64 y] 78)
          obtain ⟨e0, e1⟩ := bx2 g1
          have hBV : B ≤ wr.heap.size := Nat.le_trans hB0 HST.out.bel.size
          have hbV : b < wr.heap.size := Nat.lt_of_lt_of_le hb0 HST.out.bel.size
          have HG := hide (WStep.alloc (b := b) hBV (Obj.cells #[.int .i64 x, .int .i64 y] 78))
          have HWA := hide (HW.out.alloc (Obj.cells #[.int .i64 x, .int .i64 y] 78))
          go_wp2_with fail
          clear d0 d1 e0 e1 g1
          have hBX : B ≤ (wr.alloc (Obj.cells #[.int .i64 x, .int .i64 y] 78)).heap.size := Nat.le_trans hBV HG.out.bel.size
          have hbX : b < (wr.alloc (Obj.cells #[.int .i64 x, .int .i64 y] 78)).heap.size := Nat.lt_of_lt_of_le hbV HG.out.bel.size
          have HI := hide (ints2b (wr.alloc (Obj.cells #[.int .i64 x, .int .i64 y] 78)) x y)
          have HK := hide (wints (B := B) (b := b) (c := 2) (ca := 2) (xs := []) (al1 (wr.alloc (Obj.cells #[.int .i64 x, .int .i64 y] 78)) (Obj.cells #[.int .i64 x, .int .i64 y] 3)) (by omega) (by decide))
          rw [World.size_alloc] at HI HK
          generalize wr.alloc (Obj.cells #[.int .i64 x, .int .i64 y] 78) = X at *
          have HG2 := hide (WStep.alloc (b := b) hBX (Obj.cells #[.int .i64 x, .int .i64 y] 3))
          refine (wnums_any B b _ _ [x, y] _ (HWA.out.alloc (Obj.cells #[.int .i64 x, .int .i64 y] 3)) HI.out HK.out (by have := HLL.out; rw [List.length_append, pairs_length, List.length_take]; simp; omega) (Nat.le_trans hBX HG2.out.bel.size) (Nat.lt_of_lt_of_le hbX HG2.out.bel.size)).mono ?_
          rintro e X2 ⟨rfl, hW', hS'⟩
          have HST2 := hide (HST.out.trans (HG.out.trans (HG2.out.trans hS')))
          have HW2 := hide (show IsWr B b (L8 ++ (n.curve.take (k + 1)).flatMap pairW) X2 by rw [take_pairs _ k hlt, hxy, ← List.append_assoc]; exact hW')
          clear hW' hS' HG HG2 HWA HI HK hBV hbV hBX hbX
          go_wp2
          go_roundw
          case rel => exact ⟨k + 1, hlt, by go_num, HW2.out, HST2.out⟩
          case measure => simp [intOf]; omega
        · have hd : decide ((k : Int) < (n.curve.length : Int)) = false := by simp; omega
          obtain rfl : k = n.curve.length := by omega
          rw [List.take_length] at HW
          obtain ⟨L9, HQ9⟩ : ∃ L9, Hid (L8 ++ n.curve.flatMap pairW = L9) := ⟨_, rfl⟩
          rw [HQ9.out] at HW
          clear HL
          have HL := hide (show L9.length ≤ 1099511627776 + 16777296 by rw [← HQ9.out, List.length_append, pairs_length]; have := HLL.out; omega)
          clear HLL
          generalize wr = VC at *
          obtain ⟨c0, c1, c2, c3, c4, c5, c6, c7, c8, c9, c10, c11, c12, c13, c14, c15, c16, c17, c18, c19, c20⟩ := plan_cells (HBK.out VC HST.out)
          go_wp2_with fail
          clear c0 c1 c2 c3 c4 c5 c6 c7 c8 c9 c10 c11 c12 c13 c14 c15 c16 c17 c18 c19 c20
          have hBV : B ≤ VC.heap.size := Nat.le_trans hB0 HST.out.bel.size
          have hbV : b < VC.heap.size := Nat.lt_of_lt_of_le hb0 HST.out.bel.size
          have HG := hide (WStep.alloc (b := b) hBV (Obj.cells #[.int .i64 n.amount] 3))
          have HWA := hide (HW.out.alloc (Obj.cells #[.int .i64 n.amount] 3))
          have HIA := hide (ints1 VC n.amount)
          have hga := al1 VC (Obj.cells #[.int .i64 n.amount] 3)
          have HAA := hide (wints (B := B) (b := b) (c := 1) (ca := 1) (xs := []) hga (by omega) (by decide))
          have HLA := hide (show L9.length + [(n.amount : Int)].length * 4 ≤ 140737488355328 by have := HL.out; simp; omega)
          have hBA := Nat.le_trans hBV HG.out.bel.size
          have hbA := Nat.lt_of_lt_of_le hbV HG.out.bel.size
          clear hga
          generalize VC.alloc (Obj.cells #[.int .i64 n.amount] 3) = VA at *
          refine (wnums_any B b L9 _ [(n.amount : Int)] _ HWA.out HIA.out HAA.out HLA.out hBA hbA).mono ?_
          rintro e V10 ⟨rfl, hW', hS'⟩
          replace HST := hide (HST.out.trans (HG.out.trans hS'))
          obtain ⟨L10, HQ10⟩ : ∃ L10, Hid (L9 ++ [(n.amount : Int)].flatMap num4 = L10) := ⟨_, rfl⟩
          rw [HQ10.out] at hW'
          replace HW := hide hW'
          replace HL := hide (show L10.length ≤ 1099511627776 + 16777300 by rw [← HQ10.out, List.length_append, nums_length]; have := HL.out; simp; omega)
          clear hW' hS' HG hBV hbV HWA HIA HAA HLA hBA hbA
          have HF := hide (show IsWr B b (l ++ planW n) V10 by
            have e : l ++ planW n = L10 := by
              rw [← HQ10.out, ← HQ9.out, ← HQ8.out, ← HQ7.out, ← HQ6.out, ← HQ5.out, ← HQ4.out, ← HQ3.out, ← HQ2.out, ← HQ1.out]
              simp [planW, listW, List.append_assoc]
            rw [e]; exact HW.out)
          have HSF := hide (HS0.out.trans HST.out)
          go_wp2
          go_end0
          exact ⟨rfl, HF.out, HSF.out⟩
end Go.Proofs.YtanebhbfekcplaaGreat

namespace Go.Proofs.YtanebhbfekcplaaGreat
set_option linter.unusedVariables false
open Go.RowKit
theorem own_box3 {w : World} {base : Nat} {e : TypeId} {sz : Nat} {v : Value} {n : Nat} {xs : List Value} {k : Nat} (h : w.ownsRow base e sz v n xs) (hne : v.ownBlock ≠ some k) (x y z : Value) : (((w.setCell ⟨k, 0, none⟩ x).setCell ⟨k, 1, none⟩ y).setCell ⟨k, 2, none⟩ z).ownsRow base e sz v n xs := by
  refine ⟨h.1, ?_⟩
  rcases h.2 with h | ⟨g, cap, cur, hv, hg, hh, r⟩
  · exact .inl h
  · refine .inr ⟨g, cap, cur, hv, hg, ?_, r⟩
    rw [set3_heap _ _ _ _ _ g (fun e => hne (by rw [hv, e]; rfl))]
    exact hh
theorem readDZ_length {s : List UInt8} {W H kind : Int} {xs : List Int} (h : readDE s W H kind xs = 0) : (readDZ s W H kind xs).length = W.toNat * H.toNat ∧ 1 ≤ W ∧ 1 ≤ H := by
  rw [readDZ, if_pos h]
  unfold readDE at h
  split at h
  · rename_i h0
    split at h
    · split at h
      · split at h
        · rename_i h3
          obtain ⟨zs, hz⟩ := Option.isSome_iff_exists.1 h3
          rw [hz]
          have h1 := h0.1
          have h2 := h0.2
          simp only [sideOk, decide_eq_true_eq] at h1 h2
          refine ⟨?_, h1.1, h2.1⟩
          rw [readD] at hz
          split at hz
          · split at hz
            · rename_i hq
              split at hz
              · cases hz
                exact (rdD_len hq).1
              · cases hz
            · cases hz
          · cases hz
        · cases h
      · rename_i hc; exact absurd h hc
    · cases h
  · cases h
theorem head_stZ_len {r : RawF} (h : Head r) {i : Nat} (hi : i < cntN r) {s : List UInt8} (h0 : stE r s (rowN r i) = 0) : ((stZ r s (rowN r i)).length : Int) = rowN r i * r.w := by
  obtain ⟨h3, h4⟩ := h.size hi
  obtain ⟨h5, h6⟩ := h.row hi
  have hw := h.w
  by_cases hk : r.kind = 0
  · obtain ⟨e1, e2⟩ := stZ_kind0 hk s (rowN r i)
    rw [e1] at h0
    rw [e2, unpV, if_pos (unpE_zero h0), vals_length]
    omega
  · have hE : readDE s r.w (rowN r i) r.kind r.lens = 0 := by
      rw [stE, if_neg hk] at h0
      split at h0
      · assumption
      · exact h0
    obtain ⟨e1, _, _⟩ := readDZ_length hE
    rw [stZ, if_pos h0, if_neg hk, e1]
    obtain ⟨A, hA⟩ := Int.eq_ofNat_of_zero_le (show 0 ≤ r.w by omega)
    obtain ⟨B, hB⟩ := Int.eq_ofNat_of_zero_le (show 0 ≤ rowN r i by omega)
    rw [hA, hB, Int.toNat_natCast, Int.toNat_natCast, Int.natCast_mul, Int.mul_comm]
theorem plUp_len {r : RawF} (h : Head r) (k : Nat) (hk : k ≤ cntN r) (hs : stOk r k = true) : (plUp r k).length ≤ k * 4096 := by
  induction k with
  | zero => simp [plUp]
  | succ k ih =>
    rw [stOk_succ, Bool.and_eq_true] at hs
    have h1 := ih (by omega) hs.1
    have h2 := head_stZ_len h (show k < cntN r by omega) (of_decide_eq_true hs.2)
    have h3 := h.size (show k < cntN r by omega)
    rw [plUp_succ, List.length_append]
    omega
def PlJ (w : World) (r : RawF) (RA : Array Value) (QX k : Nat) (wr : World) : Prop :=
  ∃ (so : Option Addr) (cap : Nat), stOk r k = true ∧ wr.heap[QX]? = some (.cells #[.int .i64 r.w, .int .i64 r.h, .slice so (plUp r k).length cap] 34 (0, 0)) ∧ wr.ownsRow w.heap.size 3 1 (.slice so (plUp r k).length cap) (plUp r k).length ((plUp r k).map (Value.int .i64)) ∧
    wr.heap[w.heap.size]? = some (.cells RA 32 (0, 0)) ∧ wr.heap[w.heap.size + 1]? = some (.cells #[.int .i64 0, .int .i64 0, .slice none 0 0] 34 (0, 0)) ∧ Below w.heap.size w wr
theorem PlJ.below {w : World} {r : RawF} {RA : Array Value} {QX k : Nat} {wr V : World} (h : PlJ w r RA QX k wr) (hV : Below wr.heap.size wr V) : PlJ w r RA QX k V := by
  obtain ⟨so, cap, h1, h3, h4, h5, h6, h8⟩ := h
  exact ⟨so, cap, h1, (hV.block _ (Array.getElem?_eq_some_iff.1 h3).1).trans h3, ownsRow_below h4 hV, (hV.block _ (Array.getElem?_eq_some_iff.1 h5).1).trans h5, (hV.block _ (Array.getElem?_eq_some_iff.1 h6).1).trans h6, h8.trans (hV.mono h8.size)⟩
set_option maxRecDepth 100000 in
set_option maxHeartbeats 3200000 in
theorem rawPlane_any (r : RawF) (lv tv sv cv : Value) (w : World) (hr : IsRaw w r lv tv sv cv) :
    Calls Tryz.prog 7 #[.agg (rawA r lv tv sv cv)] w fun e w' => ∃ v, e = .returned (.tuple #[.agg #[.int .i64 (planeW r), .int .i64 (planeH r), v], .int .i64 (planeE r)]) ∧ IsInts w' v (planeZ r) ∧ Below w.heap.size w w' ∧ Fresh w.heap.size v := by
  have HR := hide hr
  have HCH := hide (fun (u : World) (hu : Below w.heap.size w u) => checkHead_any r lv tv sv cv u (HR.out.lens.below hu (Nat.le_refl _)))
  have HCP := hide (fun (u : World) (hu : Below w.heap.size w u) => rawPlan_any r lv tv sv cv u (HR.out.plan.below hu (Nat.le_refl _)))
  have HST := hide hr.strips
  obtain ⟨tp, tc, rfl, htl, _⟩ := hr.strips
  have HE := hide (show planeE r = if headE r = 0 then (if r.strips.length = cntN r then (if pErr r = 0 then (if stOk r r.strips.length = true then 0 else 1) else pErr r) else 2) else headE r from rfl)
  have HZ := hide (show planeZ r = if planeE r = 0 then plUp r r.strips.length else [] from rfl)
  have HW := hide (show planeW r = if planeE r = 0 then r.w else 0 from rfl)
  have HH := hide (show planeH r = if planeE r = 0 then r.h else 0 from rfl)
  generalize planeE r = E at *
  generalize planeZ r = Z at *
  generalize planeW r = PW at *
  generalize planeH r = PH at *
  clear hr
  obtain ⟨a1, a2⟩ := al2 w (Obj.cells (rawA r lv (.slice tp r.strips.length tc) sv cv) 32) (Obj.cells #[.int .i64 0, .int .i64 0, .slice none 0 0] 34)
  have HB := hide (be2 w (Obj.cells (rawA r lv (.slice tp r.strips.length tc) sv cv) 32) (Obj.cells #[.int .i64 0, .int .i64 0, .slice none 0 0] 34))
  have hl1 := (Array.getElem?_eq_some_iff.1 a1).1
  have hl2 := (Array.getElem?_eq_some_iff.1 a2).1
  go_enter Tryz.func7, Tryz.ntmps7
  go_wp2_with (refine wpList_load_row rfl 32 _ rfl _ rfl _ _ _ _ a1 Tryz.underlying32 rfl (by kernel_rfl) ?_)
  generalize (w.alloc (Obj.cells (rawA r lv (.slice tp r.strips.length tc) sv cv) 32)).alloc (Obj.cells #[.int .i64 0, .int .i64 0, .slice none 0 0] 34) = U at *
  have HSR0 := hide (fun (k : Nat) (u : World) (h : Head r) (hk : k < cntN r) => stripRows_any r lv (.slice tp r.strips.length tc) sv cv k u h hk)
  have HRS0 := hide (fun (k : Nat) (u : World) (h : Head r) (hk : k < cntN r) (hu : Below w.heap.size w u) => readStrip_any r lv (.slice tp r.strips.length tc) sv cv (stAt r k) (rowN r k) u h (h.row hk) (HR.out.lens.below hu (Nat.le_refl _)))
  have HSC0 := hide (fun (u : World) (h : Head r) => stripCount_any r lv (.slice tp r.strips.length tc) sv cv u h)
  have HRC := hide (fun (v : World) (h : v.heap[w.heap.size]? = some (.cells (rawA r lv (.slice tp r.strips.length tc) sv cv) 32 (0, 0))) => raw_cells h)
  have hi28 : (Tryz.prog.info? 32).map (·.size) = some ((rawA r lv (.slice tp r.strips.length tc) sv cv) : Array Value).size := by kernel_rfl
  generalize (rawA r lv (.slice tp r.strips.length tc) sv cv) = RQ at *
  have HZZ := hide (fun (V : World) (hb : Below U.heap.size U V) => cells3 ((hb.block _ hl2).trans a2))
  have HFZ := hide (fun (V : World) (hb : Below U.heap.size U V) (j : Nat) => Lib.frozen_of_heap ((hb.block _ hl2).trans a2) j)
  have HBZ := hide (fun (V : World) (hb : Below U.heap.size U V) => set3_below (bel_trans HB.out hb) (show w.heap.size ≤ w.heap.size + 1 by omega) (.int .i64 0) (.int .i64 0) (.slice none 0 0))
  refine (HCH.out _ HB.out).mono ?_
  rintro e V1 ⟨rfl, hb1⟩
  by_cases hF : headE r = 0
  · rw [if_pos hF] at HE
    rw [hF]
    have hH := headE_zero hF
    have HHD := hide hH
    have HSC := hide (fun (u : World) => HSC0.out u hH)
    have HS := hide (show ∀ v, Below U.heap.size U v → v.heap[w.heap.size]? = some (.cells RQ 32 (0, 0)) ∧ v.cell? ⟨w.heap.size, 6, none⟩ = some (.slice tp r.strips.length tc) from fun v h => ⟨(h.block _ hl1).trans a1, (HRC.out v ((h.block _ hl1).trans a1)).2.2.2.2.2.2.1⟩)
    clear hF HCH hH
    go_upto_region 4 with fail
    have hWd : Below U.heap.size U V1.drew := hb1.drew
    have hSd := HS.out _ hWd
    have hmx : Tryz.prog.follows .mixedOrders = true := by kernel_rfl
    refine wp_region_last (S := (fun v : World => v.heap[w.heap.size]? = some (.cells RQ 32 (0, 0)) ∧ v.cell? ⟨w.heap.size, 6, none⟩ = some (.slice tp r.strips.length tc))) (f := 5) hmx ?_
    show wpAnyF _ _ _ _ _ _ 6 _ _ V1.drew
    refine wpAnyF_takeP (i := 0) (oi := _) (v := ?vv1) (some 17) [2, 1] rfl rfl (by kernel_rfl) (by kernel_rfl) (by kernel_rfl) (by kernel_rfl) (by kernel_rfl) (fun _ _ _ h => h) (Or.inl ⟨by rfl, ?yy1⟩) hSd ?rr1
    case yy1 => (intro wq hSq; obtain ⟨hq1, hq2⟩ := hSq; go_simp <;> with_reducible rfl)
    simp only [Act.put, List.setIfInBounds_toArray, List.set_cons_succ, List.set_cons_zero]
    refine wpAnyF_takeP (i := 3) (oi := _) (v := .agg RQ) (some 20) [4] rfl rfl (by kernel_rfl) (by kernel_rfl) (by kernel_rfl) (by kernel_rfl) (by kernel_rfl) (fun _ _ _ h => h) (Or.inl ⟨by rfl, ?yy2⟩) hSd ?rr2
    case yy2 => (intro wq hSq; obtain ⟨hq1, hq2⟩ := hSq; exact exec_row 32 _ rfl _ rfl _ _ _ _ hq1 Tryz.underlying32 rfl hi28)
    simp only [Act.put, List.setIfInBounds_toArray, List.set_cons_succ, List.set_cons_zero]
    refine wpAnyF_takeP (i := 1) (oi := _) (v := ?vv3) (some 18) [2] rfl rfl (by kernel_rfl) (by kernel_rfl) (by kernel_rfl) (by kernel_rfl) (by kernel_rfl) (fun _ _ _ h => h) (Or.inl ⟨by rfl, ?yy3⟩) hSd ?rr3
    case yy3 => (intro wq hSq; obtain ⟨hq1, hq2⟩ := hSq; go_simp <;> with_reducible rfl)
    simp only [Act.put, List.setIfInBounds_toArray, List.set_cons_succ, List.set_cons_zero]
    refine wpAnyF_takeP (i := 2) (oi := _) (v := ?vv4) (some 19) [] rfl rfl (by kernel_rfl) (by kernel_rfl) (by kernel_rfl) (by kernel_rfl) (by kernel_rfl) (fun _ _ _ h => h) (Or.inl ⟨by rfl, ?yy4⟩) hSd ?rr4
    case yy4 => (intro wq hSq; obtain ⟨hq1, hq2⟩ := hSq; go_simp <;> with_reducible rfl)
    simp only [Act.put, List.setIfInBounds_toArray, List.set_cons_succ, List.set_cons_zero]
    refine wpAnyF_one (i := 4) (o := _) (by kernel_rfl) rfl (fun K' hK => ?_)
    rw [if_pos (by rfl)]
    go_simp
    refine (HSC.out _).mono ?_
    rintro e V2 ⟨rfl, hb2⟩
    have hB2 : Below U.heap.size U V2 := hWd.trans (hb2.mono hWd.size)
    have hSd := HS.out _ hB2
    refine hK.out _ _ hSd ?_
    clear hK
    try simp only [Act.put]
    refine wpAnyF_last (o := _) (by kernel_rfl) rfl (fun K' hK => ?_)
    rw [if_pos (by rfl)]
    go_simp
    refine hK.out _ _ ?_
    clear hK
    refine wpAnyF_done (by kernel_rfl) ?_ _
    try simp only [Act.put]
    clear hSd hWd hb2
    by_cases hN : r.strips.length = cntN r
    · rw [if_pos hN] at HE
      have hn : ((r.strips.length : Int) != (cntN r : Int)) = false := by simp [hN]
      have g1 := (hB2.block _ hl1).trans a1
      have hcl := HHD.out.cnt_le
      have hsl : r.strips.length ≤ 64 := by omega
      have HNC := hide hN
      clear hcl hN
      go_wp2_with (refine wpList_load_row rfl 32 _ rfl _ rfl _ _ _ _ g1 Tryz.underlying32 rfl hi28 ?_)
      clear hn g1
      refine (HCP.out _ (bel_trans HB.out hB2)).mono ?_
      rintro e V3 ⟨rfl, hb3⟩
      replace hb3 := bel_trans hB2 hb3
      by_cases hP : pErr r = 0
      · rw [if_pos hP] at HE
        rw [hP]
        clear HCP HSC hB2 hP
        have hW := HHD.out.w
        have hHh := HHD.out.h
        obtain ⟨i0, hi, hz0, hz1, hz2⟩ := info_parts Tryz.infoInt
        obtain ⟨M, hM⟩ : ∃ M : Nat, r.w * r.h = M := ⟨(r.w * r.h).toNat, by have := mul_bnd ⟨show 0 ≤ r.w by omega, hW.2⟩ ⟨show 0 ≤ r.h by omega, hHh.2⟩; omega⟩
        have hM4 : M ≤ 4096 := by have := mul_bnd ⟨show 0 ≤ r.w by omega, hW.2⟩ ⟨show 0 ≤ r.h by omega, hHh.2⟩; omega
        have hmk : ∀ V : World, (Instr.makeSlice 22 (.int .i64 0) (.int .i64 M)).run Tryz.prog V = .ok (.slice (some ⟨V.heap.size, 0, none⟩) 0 M) (V.alloc (.cells (madeCells #[.int .i64 0] M) 3)) := fun V => by
          have h := run_make (P := Tryz.prog) V 22 3 i0 (.int .i64 0) Tryz.underlying22 hi hz0 .i64 .i64 0 M (Int.le_refl _) (by omega) (by rw [hz2]; omega) (by omega)
          rw [hz1] at h
          simpa [Value.cells] using h
        have hwm : IntKind.i64.wrap (M : Int) = M := IntWalk.i64_in _ (by omega)
        have HS9 := hide (show ∀ v, Below U.heap.size U v → v.cell? ⟨w.heap.size, 0, none⟩ = some (.int .i64 r.w) ∧ v.cell? ⟨w.heap.size, 1, none⟩ = some (.int .i64 r.h) from fun v h => ⟨(HRC.out v ((h.block _ hl1).trans a1)).1, (HRC.out v ((h.block _ hl1).trans a1)).2.1⟩)
        clear hW hHh
        go_upto_region 9 with fail
        have hs1 := hb3.size
        go_cut [6] from 11 (fun q v => ∃ QX so cap, q = .pointer (some ⟨QX, 0, none⟩) ∧ v.heap[QX]? = some (.cells #[.int .i64 r.w, .int .i64 r.h, .slice so 0 cap] 34 (0, 0)) ∧ v.ownsRow w.heap.size 3 1 (.slice so 0 cap) 0 [] ∧ U.heap.size ≤ QX ∧ Below U.heap.size U v)
        case first =>
          have hWd : Below U.heap.size U V3.drew := hb3.drew
          have hSd := HS9.out _ hWd
          have hmx : Tryz.prog.follows .mixedOrders = true := by kernel_rfl
          refine wp_region_last (S := (fun v : World => v.cell? ⟨w.heap.size, 0, none⟩ = some (.int .i64 r.w) ∧ v.cell? ⟨w.heap.size, 1, none⟩ = some (.int .i64 r.h))) (f := 12) hmx ?_
          show wpAnyF _ _ _ _ _ _ 13 _ _ V3.drew
          refine wpAnyF_takeP (i := 0) (oi := _) (v := ?vv5) (some 30) [] rfl rfl (by kernel_rfl) (by kernel_rfl) (by kernel_rfl) (by kernel_rfl) (by kernel_rfl) (fun _ _ _ h => h) (Or.inl ⟨by rfl, ?yy5⟩) hSd ?rr5
          case yy5 => (intro wq hSq; obtain ⟨_, _⟩ := hSq; go_simp <;> with_reducible rfl)
          simp only [Act.put, List.setIfInBounds_toArray, List.set_cons_succ, List.set_cons_zero]
          refine wpAnyF_takeP (i := 2) (oi := _) (v := ?vv6) (some 32) [] rfl rfl (by kernel_rfl) (by kernel_rfl) (by kernel_rfl) (by kernel_rfl) (by kernel_rfl) (fun _ _ _ h => h) (Or.inl ⟨by rfl, ?yy6⟩) hSd ?rr6
          case yy6 => (intro wq hSq; obtain ⟨_, _⟩ := hSq; go_simp <;> with_reducible rfl)
          simp only [Act.put, List.setIfInBounds_toArray, List.set_cons_succ, List.set_cons_zero]
          refine wpAnyF_takeP (i := 4) (oi := _) (v := ?vv7) (some 34) [] rfl rfl (by kernel_rfl) (by kernel_rfl) (by kernel_rfl) (by kernel_rfl) (by kernel_rfl) (fun _ _ _ h => h) (Or.inl ⟨by rfl, ?yy7⟩) hSd ?rr7
          case yy7 => (intro wq hSq; obtain ⟨_, _⟩ := hSq; go_simp <;> with_reducible rfl)
          simp only [Act.put, List.setIfInBounds_toArray, List.set_cons_succ, List.set_cons_zero]
          refine wpAnyF_takeP (i := 6) (oi := _) (v := ?vv8) (some 36) [] rfl rfl (by kernel_rfl) (by kernel_rfl) (by kernel_rfl) (by kernel_rfl) (by kernel_rfl) (fun _ _ _ h => h) (Or.inl ⟨by rfl, ?yy8⟩) hSd ?rr8
          case yy8 => (intro wq hSq; obtain ⟨_, _⟩ := hSq; go_simp <;> with_reducible rfl)
          simp only [Act.put, List.setIfInBounds_toArray, List.set_cons_succ, List.set_cons_zero]
          refine wpAnyF_takeP (i := 1) (oi := _) (v := ?vv9) (some 31) [] rfl rfl (by kernel_rfl) (by kernel_rfl) (by kernel_rfl) (by kernel_rfl) (by kernel_rfl) (fun _ _ _ h => h) (Or.inl ⟨by rfl, ?yy9⟩) hSd ?rr9
          case yy9 => (intro wq hSq; obtain ⟨_, _⟩ := hSq; go_simp <;> with_reducible rfl)
          simp only [Act.put, List.setIfInBounds_toArray, List.set_cons_succ, List.set_cons_zero]
          refine wpAnyF_takeP (i := 3) (oi := _) (v := ?vv10) (some 33) [] rfl rfl (by kernel_rfl) (by kernel_rfl) (by kernel_rfl) (by kernel_rfl) (by kernel_rfl) (fun _ _ _ h => h) (Or.inl ⟨by rfl, ?yy10⟩) hSd ?rr10
          case yy10 => (intro wq hSq; obtain ⟨_, _⟩ := hSq; go_simp <;> with_reducible rfl)
          simp only [Act.put, List.setIfInBounds_toArray, List.set_cons_succ, List.set_cons_zero]
          refine wpAnyF_takeP (i := 5) (oi := _) (v := ?vv11) (some 35) [] rfl rfl (by kernel_rfl) (by kernel_rfl) (by kernel_rfl) (by kernel_rfl) (by kernel_rfl) (fun _ _ _ h => h) (Or.inl ⟨by rfl, ?yy11⟩) hSd ?rr11
          case yy11 => (intro wq hSq; obtain ⟨_, _⟩ := hSq; go_simp <;> with_reducible rfl)
          simp only [Act.put, List.setIfInBounds_toArray, List.set_cons_succ, List.set_cons_zero]
          refine wpAnyF_takeP (i := 7) (oi := _) (v := ?vv12) (some 37) [] rfl rfl (by kernel_rfl) (by kernel_rfl) (by kernel_rfl) (by kernel_rfl) (by kernel_rfl) (fun _ _ _ h => h) (Or.inl ⟨by rfl, ?yy12⟩) hSd ?rr12
          case yy12 => (intro wq hSq; obtain ⟨_, _⟩ := hSq; go_simp <;> with_reducible rfl)
          simp only [Act.put, List.setIfInBounds_toArray, List.set_cons_succ, List.set_cons_zero]
          refine wpAnyF_takeP (i := 8) (oi := _) (v := .int .i64 M) (some 38) [] rfl rfl (by kernel_rfl) (by kernel_rfl) (by kernel_rfl) (by kernel_rfl) (by kernel_rfl) (fun _ _ _ h => h) (Or.inl ⟨by rfl, ?yy13⟩) hSd ?rr13
          case yy13 => (intro wq hSq; obtain ⟨_, _⟩ := hSq; first | (go_simp; done) | (go_simp; rw [hM]; try (go_simp <;> with_reducible rfl)))
          simp only [Act.put, List.setIfInBounds_toArray, List.set_cons_succ, List.set_cons_zero]
          refine wpAnyF_two (i := 9) (j := 11) (oi := _) (oj := _) (by kernel_rfl) rfl rfl (fun K' hK => ?brA) (fun K' hK => ?brB)
          case brA =>
            rw [if_pos (by rfl)]
            go_simp
            have hB1 : Below U.heap.size U (V3.alloc (Obj.cells (madeCells #[.int .i64 0] M) 3)).drew := (hb3.alloc hb3.size _).drew
            have hSd := HS9.out _ hB1
            refine hK.out _ _ hSd ?_
            clear hK
            try simp only [Act.put]
            refine wpAnyF_takeP (i := 10) (oi := _) (v := ?vv14) (some 40) [] rfl rfl (by kernel_rfl) (by kernel_rfl) (by kernel_rfl) (by kernel_rfl) (by kernel_rfl) (fun _ _ _ h => h) (Or.inl ⟨by rfl, ?yy14⟩) hSd ?rr14
            case yy14 => (intro wq hSq; obtain ⟨_, _⟩ := hSq; go_simp <;> with_reducible rfl)
            simp only [Act.put, List.setIfInBounds_toArray, List.set_cons_succ, List.set_cons_zero]
            refine wpAnyF_one (i := 11) (o := _) (by kernel_rfl) rfl (fun K' hK => ?_)
            rw [if_pos (by rfl)]
            go_simp
            have hB2 : Below U.heap.size U ((V3.alloc (Obj.cells (madeCells #[.int .i64 0] M) 3)).alloc (Obj.cells #[.int .i64 0, .int .i64 0, .slice none 0 0] 34)).drew := ((hb3.alloc hb3.size _).alloc (by simp; omega) _).drew
            have hSd := HS9.out _ hB2
            refine hK.out _ _ hSd ?_
            clear hK
            try simp only [Act.put]
            refine wpAnyF_last (o := _) (by kernel_rfl) rfl (fun K' hK => ?_)
            rw [if_pos (by rfl)]
            go_simp
            refine hK.out _ _ ?_
            clear hK
            refine wpAnyF_done (by kernel_rfl) ?_ _
            try simp only [Act.put]
            clear hSd
            go_wp2
            go_meet
            case rel => exact ⟨V3.heap.size + 1, some ⟨V3.heap.size, 0, none⟩, M, rfl, (al2 V3 (Obj.cells (madeCells #[.int .i64 0] M) 3) (Obj.cells #[.int .i64 r.w, .int .i64 r.h, .slice (some ⟨V3.heap.size, 0, none⟩) 0 M] 34)).2, (World.ownsRow_made (base := w.heap.size) (e := 3) (size := 1) V3 (madeCells #[.int .i64 0] M) M (Nat.le_trans HB.out.size hs1) (by unfold maxLen; omega) (by simp [madeCells])).alloc _, by omega, ((hb3.alloc hb3.size _).alloc (by simp; omega) _).drew⟩
          case brB =>
            rw [if_pos (by rfl)]
            go_simp
            have hBz : Below U.heap.size U (V3.alloc (Obj.cells #[.int .i64 0, .int .i64 0, .slice none 0 0] 34)).drew := (hb3.alloc hb3.size _).drew
            have hSd := HS9.out _ hBz
            refine hK.out _ _ hSd ?_
            clear hK
            try simp only [Act.put]
            have gz0 : (V3.alloc (Obj.cells #[.int .i64 0, .int .i64 0, .slice none 0 0] 34)).drew.heap[V3.heap.size]? = _ := al1 V3 (Obj.cells #[.int .i64 0, .int .i64 0, .slice none 0 0] 34)
            have hlz := (Array.getElem?_eq_some_iff.1 gz0).1
            generalize (V3.alloc (Obj.cells #[.int .i64 0, .int .i64 0, .slice none 0 0] 34)).drew = Vz at *
            have hq : U.heap.size ≤ V3.heap.size := hs1
            generalize V3.heap.size = QX at *
            refine wpAnyF_one (i := 9) (o := _) (by kernel_rfl) rfl (fun K' hK => ?_)
            rw [if_pos (by rfl)]
            go_simp
            have hB1 : Below U.heap.size U (Vz.alloc (Obj.cells (madeCells #[.int .i64 0] M) 3)) := hBz.alloc hBz.size _
            have hSd := HS9.out _ hB1
            refine hK.out _ _ hSd ?_
            clear hK
            try simp only [Act.put]
            refine wpAnyF_takeP (i := 10) (oi := _) (v := ?vv15) (some 40) [] rfl rfl (by kernel_rfl) (by kernel_rfl) (by kernel_rfl) (by kernel_rfl) (by kernel_rfl) (fun _ _ _ h => h) (Or.inl ⟨by rfl, ?yy15⟩) hSd ?rr15
            case yy15 => (intro wq hSq; obtain ⟨_, _⟩ := hSq; go_simp <;> with_reducible rfl)
            simp only [Act.put, List.setIfInBounds_toArray, List.set_cons_succ, List.set_cons_zero]
            have gz := ((bel_alloc Vz (Obj.cells (madeCells #[.int .i64 0] M) 3)).block QX hlz).trans gz0
            have ho := World.ownsRow_made (base := w.heap.size) (e := 3) (size := 1) Vz (madeCells #[.int .i64 0] M) M (Nat.le_trans HB.out.size hBz.size) (by unfold maxLen; omega) (by simp [madeCells])
            generalize Vz.alloc (Obj.cells (madeCells #[.int .i64 0] M) 3) = Vy at *
            generalize Vz.heap.size = MX at *
            obtain ⟨z0, z1, z2⟩ := cells3 gz
            have f0 := Lib.frozen_of_heap gz 0
            have f1 := Lib.frozen_of_heap gz 1
            have f2 := Lib.frozen_of_heap gz 2
            obtain ⟨vS, _, _, _⟩ := box3_set gz (.int .i64 r.w) (.int .i64 r.h) (.slice (some ⟨MX, 0, none⟩) 0 M) w (Nat.le_trans HB.out.size hq) (HB.out.trans (hB1.mono HB.out.size))
            have hB4 := set3_below hB1 hq (.int .i64 r.w) (.int .i64 r.h) (.slice (some ⟨MX, 0, none⟩) 0 M)
            have hne : (Value.slice (some ⟨MX, 0, none⟩) 0 M).ownBlock ≠ some QX := fun e => own_ne ho gz (by decide) e.symm
            have HO := hide (own_box3 ho hne (.int .i64 r.w) (.int .i64 r.h) (.slice (some ⟨MX, 0, none⟩) 0 M))
            refine wpAnyF_last (o := _) (by kernel_rfl) rfl (fun K' hK => ?_)
            rw [if_pos (by rfl)]
            go_simp
            refine hK.out _ _ ?_
            clear hK
            refine wpAnyF_done (by kernel_rfl) ?_ _
            try simp only [Act.put]
            clear hSd
            go_wp2
            go_meet
            case rel => exact ⟨QX, some ⟨MX, 0, none⟩, M, rfl, vS, HO.out, hq, hB4⟩
        case rest =>
          obtain ⟨QX, so0, cap0, rfl, vS0, vO0, hQX, vB0⟩ := hcut
          have HJ0 := hide (show PlJ w r RQ QX 0 wc from ⟨so0, cap0, rfl, vS0, vO0, (vB0.block _ hl1).trans a1, (vB0.block _ hl2).trans a2, bel_trans HB.out vB0⟩)
          have hQw : w.heap.size + 1 < QX := by omega
          obtain ⟨s0, s1, s2, s3, s4, s5, s6, s13, s26⟩ := HRC.out _ ((vB0.block _ hl1).trans a1)
          clear vS0 vO0 vB0 hs1 HS9 HS hmk hM hwm hM4 hb3
          have HUW := hide HB.out.size
          clear HZZ HFZ HBZ a1 a2 hl1 hl2 HB hQX
          go_wp2_with fail
          clear s0 s1 s2 s3 s4 s5 s6 s13 s26
          go_loopw [44] (fun i wr => ∃ k : Nat, k ≤ r.strips.length ∧ i = .int .i64 k ∧ PlJ w r RQ QX k wr) (fun i _ => r.strips.length - (intOf i).toNat)
          case atStart => exact ⟨0, Nat.zero_le _, rfl, HJ0.out⟩
          case round =>
            clear HJ0
            obtain ⟨k, hk, rfl, hJ⟩ := hrel
            have HJ := hide hJ
            obtain ⟨so, cap, j1, j3, j4, j5, j6, j8⟩ := hJ
            by_cases hlt : k < r.strips.length
            · have hd : decide ((k : Int) < (r.strips.length : Int)) = true := by simp; omega
              obtain ⟨sb, soff, rfl, hsb, hsc0⟩ := (HST.out.below j8 (Nat.le_refl _)).at k hlt
              have hlc : k < cntN r := by have := HNC.out; omega
              have HSR := hide (fun (u : World) => HSR0.out k u HHD.out hlc)
              have HRS := hide (fun (u : World) (hu : Below w.heap.size w u) => HRS0.out k u HHD.out hlc hu)
              have HEI := hide (HHD.out.stE hlc (stAt r k))
              have HLN := hide (fun h0 => head_stZ_len HHD.out hlc (s := stAt r k) h0)
              have HSZ := hide (HHD.out.size hlc)
              have hsc : wr.cell? ⟨sb, soff + k, none⟩ = some (.string (str (stAt r k))) := hsc0
              clear hsc0
              have HZF := hide (fun hk0 => stOk_false (r := r) hlt hk0)
              have HPL := hide (plUp_len HHD.out k (by omega) j1)
              have HSU := hide (plUp_succ r k)
              have HOK := hide (show stE r (stAt r k) (rowN r k) = 0 → stOk r (k + 1) = true from fun h0 => by rw [stOk_succ, j1, h0]; rfl)
              generalize stAt r k = SS at *
              generalize rowN r k = RN at *
              have hl1 := (Array.getElem?_eq_some_iff.1 j5).1
              have HS := hide (show ∀ v, Below wr.heap.size wr v → v.heap[w.heap.size]? = some (.cells RQ 32 (0, 0)) ∧ True from fun v h => ⟨(h.block _ hl1).trans j5, trivial⟩)
              clear j1 j3 j4 j5 j6 HSR0 HRS0
              go_upto_region 13 with fail
              have hWd : Below wr.heap.size wr wr.drew := (Below.refl _ _).drew
              have hSd := HS.out _ hWd
              have hmx : Tryz.prog.follows .mixedOrders = true := by kernel_rfl
              refine wp_region_last (S := (fun v : World => v.heap[w.heap.size]? = some (.cells RQ 32 (0, 0)) ∧ True)) (f := 10) hmx ?_
              show wpAnyF _ _ _ _ _ _ 11 _ _ wr.drew
              refine wpAnyF_takeP (i := 0) (oi := _) (v := .agg RQ) (some 50) [] rfl rfl (by kernel_rfl) (by kernel_rfl) (by kernel_rfl) (by kernel_rfl) (by kernel_rfl) (fun _ _ _ h => h) (Or.inl ⟨by rfl, ?yy16⟩) hSd ?rr16
              case yy16 => (intro wq hSq; obtain ⟨hq1, hq2⟩ := hSq; exact exec_row 32 _ rfl _ rfl _ _ _ _ hq1 Tryz.underlying32 rfl hi28)
              simp only [Act.put, List.setIfInBounds_toArray, List.set_cons_succ, List.set_cons_zero]
              refine wpAnyF_takeP (i := 1) (oi := _) (v := ?vv17) (some 51) [] rfl rfl (by kernel_rfl) (by kernel_rfl) (by kernel_rfl) (by kernel_rfl) (by kernel_rfl) (fun _ _ _ h => h) (Or.inl ⟨by rfl, ?yy17⟩) hSd ?rr17
              case yy17 => (intro wq hSq; obtain ⟨hq1, hq2⟩ := hSq; go_simp <;> with_reducible rfl)
              simp only [Act.put, List.setIfInBounds_toArray, List.set_cons_succ, List.set_cons_zero]
              refine wpAnyF_takeP (i := 2) (oi := _) (v := .agg RQ) (some 52) [] rfl rfl (by kernel_rfl) (by kernel_rfl) (by kernel_rfl) (by kernel_rfl) (by kernel_rfl) (fun _ _ _ h => h) (Or.inl ⟨by rfl, ?yy18⟩) hSd ?rr18
              case yy18 => (intro wq hSq; obtain ⟨hq1, hq2⟩ := hSq; exact exec_row 32 _ rfl _ rfl _ _ _ _ hq1 Tryz.underlying32 rfl hi28)
              simp only [Act.put, List.setIfInBounds_toArray, List.set_cons_succ, List.set_cons_zero]
              refine wpAnyF_takeP (i := 3) (oi := _) (v := ?vv19) (some 53) [] rfl rfl (by kernel_rfl) (by kernel_rfl) (by kernel_rfl) (by kernel_rfl) (by kernel_rfl) (fun _ _ _ h => h) (Or.inl ⟨by rfl, ?yy19⟩) hSd ?rr19
              case yy19 => (intro wq hSq; obtain ⟨hq1, hq2⟩ := hSq; go_simp <;> with_reducible rfl)
              simp only [Act.put, List.setIfInBounds_toArray, List.set_cons_succ, List.set_cons_zero]
              refine wpAnyF_one (i := 4) (o := _) (by kernel_rfl) rfl (fun K' hK => ?_)
              rw [if_pos (by rfl)]
              go_simp
              refine (HSR.out _).mono ?_
              rintro e X1 ⟨rfl, hx1⟩
              have hX1 : Below wr.heap.size wr X1 := hWd.trans (hx1.mono hWd.size)
              have hSd := HS.out _ hX1
              refine hK.out _ _ hSd ?_
              clear hK
              try simp only [Act.put]
              refine wpAnyF_one (i := 5) (o := _) (by kernel_rfl) rfl (fun K' hK => ?_)
              rw [if_pos (by rfl)]
              go_simp
              refine (HRS.out _ (bel_trans j8 hX1)).mono ?_
              rintro e X2 ⟨v, rfl, hv, hx2⟩
              have hX2 : Below wr.heap.size wr X2 := bel_trans hX1 hx2
              have HV := hide hv
              obtain ⟨vo, vc, rfl, y1, y2⟩ := hv
              clear y1 y2
              have hSd := HS.out _ hX2
              refine hK.out _ _ hSd ?_
              clear hK
              try simp only [Act.put]
              refine wpAnyF_takeP (i := 6) (oi := _) (v := ?vv20) (some 49) [] rfl rfl (by kernel_rfl) (by kernel_rfl) (by kernel_rfl) (by kernel_rfl) (by kernel_rfl) (fun _ _ _ h => h) (Or.inl ⟨by rfl, ?yy20⟩) hSd ?rr20
              case yy20 => (intro wq hSq; obtain ⟨hq1, hq2⟩ := hSq; go_simp <;> with_reducible rfl)
              simp only [Act.put, List.setIfInBounds_toArray, List.set_cons_succ, List.set_cons_zero]
              refine wpAnyF_takeP (i := 7) (oi := _) (v := ?vv21) (some 56) [] rfl rfl (by kernel_rfl) (by kernel_rfl) (by kernel_rfl) (by kernel_rfl) (by kernel_rfl) (fun _ _ _ h => h) (Or.inl ⟨by rfl, ?yy21⟩) hSd ?rr21
              case yy21 => (intro wq hSq; obtain ⟨hq1, hq2⟩ := hSq; go_simp <;> with_reducible rfl)
              simp only [Act.put, List.setIfInBounds_toArray, List.set_cons_succ, List.set_cons_zero]
              refine wpAnyF_takeP (i := 8) (oi := _) (v := ?vv22) (some 57) [] rfl rfl (by kernel_rfl) (by kernel_rfl) (by kernel_rfl) (by kernel_rfl) (by kernel_rfl) (fun _ _ _ h => h) (Or.inl ⟨by rfl, ?yy22⟩) hSd ?rr22
              case yy22 => (intro wq hSq; obtain ⟨hq1, hq2⟩ := hSq; go_simp <;> with_reducible rfl)
              simp only [Act.put, List.setIfInBounds_toArray, List.set_cons_succ, List.set_cons_zero]
              refine wpAnyF_one (i := 9) (o := _) (by kernel_rfl) rfl (fun K' hK => ?_)
              rw [if_pos (by rfl)]
              go_simp
              have hSd := hSd
              refine hK.out _ _ hSd ?_
              clear hK
              try simp only [Act.put]
              refine wpAnyF_last (o := _) (by kernel_rfl) rfl (fun K' hK => ?_)
              rw [if_pos (by rfl)]
              go_simp
              refine hK.out _ _ ?_
              clear hK
              refine wpAnyF_done (by kernel_rfl) ?_ _
              try simp only [Act.put]
              clear hSd hWd hx1 hx2 hX1
              have HJ2 := hide (HJ.out.below hX2)
              clear HJ j8 HS HRS HSR
              obtain ⟨so, cap, k1, k3, k4, k5, k6, k8⟩ := HJ2.out
              by_cases h0 : stE r SS RN = 0
              · rw [h0]
                have hln := HLN.out h0
                have hsz := HSZ.out
                have HOW := hide k4
                have HK3 := hide k3
                obtain ⟨q0, q1, q2⟩ := cells3 k3
                have hpl := HPL.out
                generalize stZ r SS RN = Y at *
                have HVP := hide (HV.out)
                obtain ⟨vo', vc', hve, _, hvo⟩ := HVP.out
                cases hve
                rcases hvo with hvo | ⟨pb, po, rfl, hpb, hpc⟩
                · exfalso
                  rw [hvo] at hln
                  simp at hln
                  omega
                have HFC := hide (show ∀ j u, (Y.map (Value.int .i64))[j]? = some u → X2.cell? ((⟨pb, po, none⟩ : Addr).add j) = some u from fun j u hj => by
                  rw [List.getElem?_map] at hj
                  obtain ⟨z, hz, rfl⟩ := Option.map_eq_some_iff.1 hj
                  obtain ⟨hl, rfl⟩ := List.getElem?_eq_some_iff.1 hz
                  rw [Addr.add_lit]
                  exact hpc j hl)
                obtain ⟨P, hPU⟩ : ∃ P, plUp r k = P := ⟨_, rfl⟩
                rw [hPU] at HOW HK3 HSU hpl q2
                have hyl : Y.length ≤ 4096 := by omega
                have hy1 : 1 ≤ Y.length := by omega
                have hk8s := k8.size
                clear hpc hln hsz
                go_wp2_with (at_builtin; refine wpList_append_own _ rfl _ _ 22 rfl w.heap.size 3 i0 (.int .i64 0) 1 8 Tryz.underlying22 hi hz0 hz1 hz2 rfl (by decide) _ P.length (P.map (Value.int .i64)) rfl HOW.out ⟨pb, po, none⟩ Y.length vc (Y.map (Value.int .i64)) rfl ?qc1 ?qc2 ?qc3 ?qc4 ?qc5 ?qc6 ?_)
                case qc1 => rw [List.length_map, Nat.mul_one]
                case qc2 => exact HFC.out
                case qc3 => intro u hu; obtain ⟨z, _, rfl⟩ := List.mem_map.1 hu; rfl
                case qc4 => unfold maxLen; omega
                case qc5 => omega
                case qc6 => exact hk8s
                intro v' w1 hown hgrow hnil
                rcases id hown.2 with ⟨_, hn0⟩ | ⟨g, cp, cur, rfl, _⟩
                · exfalso; omega
                obtain ⟨_, c2, fz, g1, g2, g3, g4⟩ := app_gen (by decide) HK3.out HOW.out k8 (Nat.le_refl _) (show w.heap.size ≤ QX by omega) (Below.refl _ _) hgrow hown
                have hpe : (plUp r (k + 1)).length = P.length + Y.length := by rw [HSU.out, List.length_append]
                have hpm : (plUp r (k + 1)).map (Value.int .i64) = P.map (Value.int .i64) ++ Y.map (Value.int .i64) := by rw [HSU.out, List.map_append]
                have HJ3 := hide (show PlJ w r RQ QX (k + 1) _ from ⟨some ⟨g, 0, none⟩, cp, HOK.out h0, by rw [hpe]; exact g1, by rw [hpe, hpm]; exact g2,
                  (g4 _ (Array.getElem?_eq_some_iff.1 k5).1 (own_ne (by rw [hPU] at k4; exact k4) k5 (by decide)) (by omega)).trans k5, (g4 _ (Array.getElem?_eq_some_iff.1 k6).1 (own_ne (by rw [hPU] at k4; exact k4) k6 (by decide)) (by omega)).trans k6, g3⟩)
                clear g1 g2 g3 g4 k1 k3 k4 k5 k6 k8 hown hgrow hnil q0 q1 q2 hpe hpm
                go_wp2
                go_roundw
                case rel => exact ⟨k + 1, hlt, by go_num, HJ3.out⟩
                case measure => simp [intOf]; omega
              · rcases HEI.out with he | he
                · exact absurd he h0
                rw [he]
                have hzf := HZF.out h0
                have hee : E = 1 := by rw [HE.out, hzf]; rfl
                subst hee
                have hz : Z = [] := by rw [HZ.out]; rfl
                have hpw : PW = 0 := by rw [HW.out]; rfl
                have hph : PH = 0 := by rw [HH.out]; rfl
                subst hz hpw hph
                obtain ⟨z0, z1, z2⟩ := cells3 k6
                have f0 := Lib.frozen_of_heap k6 0
                have f1 := Lib.frozen_of_heap k6 1
                have f2 := Lib.frozen_of_heap k6 2
                have HBZ := hide (set3_below k8 (show w.heap.size ≤ w.heap.size + 1 by omega) (.int .i64 0) (.int .i64 0) (.slice none 0 0))
                clear k1 k3 k4 k5 k6 k8
                go_wp2
                refine bodyPost_ret (v := .tuple #[.agg #[.int .i64 0, .int .i64 0, .slice none 0 0], .int .i64 1]) (by simp [results, Tryz.results7, go_sem, z0, z1, z2]) rfl ⟨_, rfl, IsInts.nil _, HBZ.out, Fresh.nil _⟩
            · have hd : decide ((k : Int) < (r.strips.length : Int)) = false := by simp; omega
              obtain rfl : k = r.strips.length := by omega
              have he : E = 0 := by rw [HE.out, if_pos j1]
              subst he
              rw [if_pos rfl] at HZ HW HH
              obtain ⟨y0, y1, y2⟩ := cells3 j3
              obtain ⟨z0, z1, z2⟩ := cells3 j6
              have f0 := Lib.frozen_of_heap j6 0
              have f1 := Lib.frozen_of_heap j6 1
              have f2 := Lib.frozen_of_heap j6 2
              have hpl := plUp_len HHD.out r.strips.length (by have := HNC.out; omega) j1
              have hne : (Value.slice so (plUp r r.strips.length).length cap).ownBlock ≠ some (w.heap.size + 1) := fun e => own_ne j4 j6 (by decide) e.symm
              have hpx : IsInts wr (.slice so (plUp r r.strips.length).length cap) (plUp r r.strips.length) := IsInts.own j4 (by omega)
              have HX := hide (hpx.other (set3_size wr (w.heap.size + 1) (.int .i64 r.w) (.int .i64 r.h) (.slice so (plUp r r.strips.length).length cap)) (fun b hb => set3_heap _ _ _ _ _ b hb) hne)
              have HF := hide (set3_below j8 (show w.heap.size ≤ w.heap.size + 1 by omega) (.int .i64 r.w) (.int .i64 r.h) (.slice so (plUp r r.strips.length).length cap))
              have HFR := hide (Fresh.own j4)
              have hpw := HW.out
              have hph := HH.out
              have hzz := HZ.out
              obtain ⟨N, hN⟩ : ∃ N, (plUp r r.strips.length).length = N := ⟨_, rfl⟩
              rw [hN] at HX HF HFR y2
              rw [← hzz] at HX
              clear j1 j3 j4 j5 j6 j8 hpx hne hN hpl hzz HZ HW HH
              subst hpw hph
              go_wp2
              refine bodyPost_ret (v := .tuple #[.agg #[.int .i64 r.w, .int .i64 r.h, .slice so N cap], .int .i64 0]) (by simp [results, Tryz.results7, go_sem, z0, z1, z2]) rfl ⟨_, rfl, HX.out, HF.out, HFR.out⟩
      · rw [if_neg hP] at HE
        have hn : (pErr r != 0) = true := by simpa using hP
        have he : E = pErr r := HE.out
        subst he
        have HEN := hide hP
        have hz : Z = [] := by rw [HZ.out, if_neg HEN.out]
        have hpw : PW = 0 := by rw [HW.out, if_neg HEN.out]
        have hph : PH = 0 := by rw [HH.out, if_neg HEN.out]
        subst hz hpw hph
        obtain ⟨z0, z1, z2⟩ := HZZ.out V3 hb3
        have f0 := HFZ.out V3 hb3 0
        have f1 := HFZ.out V3 hb3 1
        have f2 := HFZ.out V3 hb3 2
        go_wp2
        refine bodyPost_ret (v := .tuple #[.agg #[.int .i64 0, .int .i64 0, .slice none 0 0], .int .i64 (pErr r)]) (by simp [results, Tryz.results7, go_sem, z0, z1, z2]) rfl ⟨_, rfl, IsInts.nil _, HBZ.out V3 hb3, Fresh.nil _⟩
    · rw [if_neg hN] at HE
      have hn : ((r.strips.length : Int) != (cntN r : Int)) = true := bne_iff_ne.2 (by omega)
      have he : E = 2 := HE.out
      subst he
      have HEN := hide (show ¬ (2 : Int) = 0 by decide)
      clear hN
      generalize cntN r = C at *
      have hz : Z = [] := by rw [HZ.out, if_neg HEN.out]
      have hpw : PW = 0 := by rw [HW.out, if_neg HEN.out]
      have hph : PH = 0 := by rw [HH.out, if_neg HEN.out]
      subst hz hpw hph
      obtain ⟨z0, z1, z2⟩ := HZZ.out V2 hB2
      have f0 := HFZ.out V2 hB2 0
      have f1 := HFZ.out V2 hB2 1
      have f2 := HFZ.out V2 hB2 2
      go_wp2
      refine bodyPost_ret (v := .tuple #[.agg #[.int .i64 0, .int .i64 0, .slice none 0 0], .int .i64 2]) (by simp [results, Tryz.results7, go_sem, z0, z1, z2]) rfl ⟨_, rfl, IsInts.nil _, HBZ.out V2 hB2, Fresh.nil _⟩
  · rw [if_neg hF] at HE
    have hn : (headE r != 0) = true := by simpa using hF
    have he : E = headE r := HE.out
    subst he
    have HEN := hide hF
    have hz : Z = [] := by rw [HZ.out, if_neg HEN.out]
    have hpw : PW = 0 := by rw [HW.out, if_neg HEN.out]
    have hph : PH = 0 := by rw [HH.out, if_neg HEN.out]
    subst hz hpw hph
    obtain ⟨z0, z1, z2⟩ := HZZ.out V1 hb1
    have f0 := HFZ.out V1 hb1 0
    have f1 := HFZ.out V1 hb1 1
    have f2 := HFZ.out V1 hb1 2
    go_wp2
    refine bodyPost_ret (v := .tuple #[.agg #[.int .i64 0, .int .i64 0, .slice none 0 0], .int .i64 (headE r)]) (by simp [results, Tryz.results7, go_sem, z0, z1, z2]) rfl ⟨_, rfl, IsInts.nil _, HBZ.out V1 hb1, Fresh.nil _⟩
set_option maxRecDepth 100000 in
set_option maxHeartbeats 800000 in
theorem rawCheck_any (r : RawF) (lv tv sv cv : Value) (w : World) (hr : IsRaw w r lv tv sv cv) :
    Calls Tryz.prog 10 #[.agg (rawA r lv tv sv cv)] w fun e w' => e = .returned (.int .i64 (planeE r)) ∧ Below w.heap.size w w' := by
  have HB := hide (bel_alloc w (Obj.cells (rawA r lv tv sv cv) 32))
  have a1 := al1 w (Obj.cells (rawA r lv tv sv cv) 32)
  have HC := hide (fun (u : World) (hu : Below w.heap.size w u) => rawPlane_any r lv tv sv cv u (hr.below hu (Nat.le_refl _)))
  generalize planeE r = E at *
  generalize planeW r = PW at *
  generalize planeH r = PH at *
  go_enter Tryz.func10, Tryz.ntmps10
  go_wp2_with (refine wpList_load_row rfl 32 _ rfl _ rfl _ _ _ _ a1 Tryz.underlying32 rfl (by kernel_rfl) ?_)
  refine (HC.out _ HB.out).mono ?_
  rintro e V1 ⟨v, rfl, hv, hb1, _⟩
  obtain ⟨vo, vc, rfl, _, _⟩ := hv
  go_wp2
  go_ret
  exact ⟨rfl, bel_trans (bel_trans HB.out hb1) (bel_alloc _ _)⟩
end Go.Proofs.YtanebhbfekcplaaGreat

namespace Go.Proofs.YtanebhbfekcplaaGreat
set_option linter.unusedVariables false
open Go.RowKit
def darkL : List UInt8 := [100, 97, 114, 107]
def headL (r : RawF) : List Int := [r.w, r.h, r.depth, r.kind, r.rows]
def rawW (r : RawF) : List UInt8 := textW darkL ++ ((headL r).flatMap num4 ++ (listW num4 r.lens ++ (listW textW r.strips ++ planW r.plan)))
set_option maxHeartbeats 1000000 in
set_option maxRecDepth 100000 in
theorem wout_any (B b : Nat) (l : List UInt8) (w : World) (h : IsWr B b l w) (h0 : l ≠ []) :
    Calls Tryz.prog 78 #[.pointer (some ⟨b, 0, none⟩)] w fun e w' => e = .returned (.string (str l)) ∧ Below B w w' := by
  obtain ⟨p, hB, v, hbk, hown, hne⟩ : ∃ p, Lib.BuilderAt 111 5 B b p (byt l) w := by
    rcases h with h | h
    · exact ⟨_, h⟩
    · exact ⟨_, h⟩
  have hl0 : l.length ≠ 0 := by simpa using h0
  rw [byt_length] at hown
  obtain ⟨g, cap, cur, rfl, hbg, hg, hnc, hcm, hcs, htake⟩ : ∃ g cap cur, v = .slice (some ⟨g, 0, none⟩) l.length cap ∧ B ≤ g ∧ w.heap[g]? = some (.cells cur 5 (0, 0)) ∧ l.length ≤ cap ∧ cap ≤ maxLen ∧ cur.size = cap * 1 ∧ cur.toList.take (l.length * 1) = byt l := by
    rcases hown.2 with ⟨_, hz⟩ | ⟨g, cap, cur, hv, r⟩
    · exact absurd hz hl0
    · exact ⟨g, cap, cur, hv, r⟩
  have c1 : w.drew.cell? ⟨b, 1, none⟩ = some (.slice (some ⟨g, 0, none⟩) l.length cap) := by
    have : w.drew.heap[b]? = some (.cells #[p, .slice (some ⟨g, 0, none⟩) l.length cap] 111 (0, 0)) := hbk
    rw [Lib.cell_of_heap this]; rfl
  have hSD : (Builtin.unsafeSliceData_ #[71] 156 #[.slice (some ⟨g, 0, none⟩) l.length cap]).run Tryz.prog w.drew = .ok (.pointer (some ⟨g, 0, none⟩)) w.drew :=
    Lib.run_unsafeSliceData_row _ _ _ _ _ _ (by omega)
  have hUS : (Builtin.unsafeString_ #[156, 3] 9 #[.pointer (some ⟨g, 0, none⟩), .int .i64 l.length]).run Tryz.prog w.drew = .ok (.string (str l)) (w.drew.freeze ⟨g, 0, none⟩ l.length) := by
    refine Lib.run_unsafeString_row w.drew 156 3 9 5 Tryz.underlying156 (by kernel_rfl) g cur.size (by have hg' : w.drew.heap[g]? = some (.cells cur 5 (0, 0)) := hg; simp [World.shape?, hg']) l h0 (by omega) (by unfold maxLen at hcm; omega) ?_
    intro j x hx
    have := hown.cells (g := g) rfl j (.int .u8 x.toNat) (by rw [byt_get?, hx]; rfl)
    exact this
  clear hown htake hnc hcm hcs
  have mixed : Tryz.prog.follows .mixedOrders = true := by kernel_rfl
  go_enter Tryz.func78, Tryz.ntmps78
  go_wp2
  go_region_o
  all_goals (go_wp2; go_ret; exact ⟨rfl, Lib.below_freeze (Below.drew (Below.refl B w)) (p := ⟨g, 0, none⟩) hbg _⟩)
theorem ints5b (w : World) (a b c d e : Int) : IsInts (w.alloc (.cells #[.int .i64 a, .int .i64 b, .int .i64 c, .int .i64 d, .int .i64 e] 3)) (.slice (some ⟨w.heap.size, 0, none⟩) 5 5) [a, b, c, d, e] :=
  IsInts.own (base := w.heap.size) (World.ownsRow_lit w #[.int .i64 a, .int .i64 b, .int .i64 c, .int .i64 d, .int .i64 e] 5 (Nat.le_refl _) (by decide) (by simp)) (by simp)
theorem IsStrs.step {B b : Nat} {u : Value} {ts : List (List UInt8)} {w w' : World} (h : IsStrs w u ts) (hs : WStep B b w w') (ha : Apart B b u w) : IsStrs w' u ts := by
  obtain ⟨ao, cap, rfl, hl, h⟩ := h
  refine ⟨ao, cap, rfl, hl, ?_⟩
  rcases h with h | ⟨c, off, rfl, hlt, hc⟩
  · exact .inl h
  · refine .inr ⟨c, off, rfl, Nat.lt_of_lt_of_le hlt hs.bel.size, fun j hj => ?_⟩
    rw [World.cell?_of_block (a := ⟨c, off + j, none⟩) (hs.block hlt (ha c rfl hlt))]
    exact hc j hj
theorem old_ints {B b : Nat} {u : Value} {xs : List Int} {w V : World} (h : IsInts w u xs) (hB : w.heap.size ≤ B) : xs = [] ∨ Apart B b u V := by
  obtain ⟨ao, cap, rfl, _, h⟩ := h
  rcases h with h | ⟨c, off, rfl, hlt, _⟩
  · exact .inl h
  · exact .inr fun k hk _ => by simp only [Value.ownBlock, Option.some.injEq] at hk; exact .inl (by omega)
theorem old_pts {B b : Nat} {u : Value} {xs : List Pt} {w V : World} (h : IsPts w u xs) (hB : w.heap.size ≤ B) : xs = [] ∨ Apart B b u V := by
  obtain ⟨ao, cap, rfl, _, h⟩ := h
  rcases h with h | ⟨c, off, rfl, hlt, _⟩
  · exact .inl h
  · exact .inr fun k hk _ => by simp only [Value.ownBlock, Option.some.injEq] at hk; exact .inl (by omega)
theorem getD_at {ts : List (List UInt8)} {k : Nat} (hk : k < ts.length) : ts.getD k [] = ts[k] := by simp [hk]
theorem take_texts (ts : List (List UInt8)) (k : Nat) (hk : k < ts.length) : (ts.take (k + 1)).flatMap textW = (ts.take k).flatMap textW ++ textW (ts.getD k []) := by
  rw [List.take_succ_eq_append_getElem hk, List.flatMap_append, getD_at hk]; simp
theorem texts_length {ts : List (List UInt8)} {M : Nat} (h : ∀ s ∈ ts, s.length ≤ M) (k : Nat) : ((ts.take k).flatMap textW).length ≤ k * (M + 4) := by
  induction k generalizing ts with
  | zero => simp
  | succ k ih =>
    cases ts with
    | nil => simp
    | cons s ts =>
      have h1 := ih (ts := ts) (fun x hx => h x (by simp [hx]))
      have h2 := h s (by simp)
      rw [List.take_succ_cons, List.flatMap_cons, List.length_append, textW, List.length_append, num4_length, Nat.add_mul]
      omega
set_option maxHeartbeats 3200000 in
set_option maxRecDepth 100000 in
theorem bytesOf_any (r : RawF) (lv tv sv cv : Value) (w : World) (hr : IsRaw w r lv tv sv cv) (g1 : r.lens.length ≤ 1048576) (g2 : r.strips.length ≤ 64) (g3 : ∀ s ∈ r.strips, s.length ≤ 1048576) (g4 : r.plan.spots.length ≤ 1048576) (g5 : r.plan.curve.length ≤ 1048576) :
    Calls Tryz.prog 42 #[.agg (rawA r lv tv sv cv)] w fun e w' => e = .returned (.string (str (rawW r))) ∧ Below w.heap.size w w' := by
  have HR := hide hr
  obtain ⟨lp, lc, rfl, hll, hlr⟩ := hr.lens
  obtain ⟨tp, tc, rfl, htl, htr⟩ := hr.strips
  have HT := hide (texts_length g3)
  have HGS := hide (show ∀ k, k < r.strips.length → (r.strips.getD k []).length ≤ 1048576 from fun k hk => g3 _ (by rw [getD_at hk]; exact List.getElem_mem hk))
  clear hr g3 hlr htr
  obtain ⟨a1, a2⟩ := al2 w (Obj.cells (rawA r (.slice lp r.lens.length lc) (.slice tp r.strips.length tc) sv cv) 32) (Obj.cells #[.pointer none, .slice none 0 0] 111)
  have HB := hide (be2 w (Obj.cells (rawA r (.slice lp r.lens.length lc) (.slice tp r.strips.length tc) sv cv) 32) (Obj.cells #[.pointer none, .slice none 0 0] 111))
  have hl1 := (Array.getElem?_eq_some_iff.1 a1).1
  have hl2 := (Array.getElem?_eq_some_iff.1 a2).1
  have HT0 := hide (plan_at a1)
  have HWS := hide (show IsWr (w.heap.size + 1) (w.heap.size + 1) [] ((w.alloc (Obj.cells (rawA r (.slice lp r.lens.length lc) (.slice tp r.strips.length tc) sv cv) 32)).alloc (Obj.cells #[.pointer none, .slice none 0 0] 111)) from .inl ⟨Nat.le_refl _, _, a2, ⟨rfl, .inl ⟨rfl, rfl⟩⟩, by simp [Value.ownBlock]⟩)
  have HRC := hide (fun (v : World) (h : v.heap[w.heap.size]? = some (.cells (rawA r (.slice lp r.lens.length lc) (.slice tp r.strips.length tc) sv cv) 32 (0, 0))) => raw_cells h)
  have HPA := hide (fun (v : World) (h : v.heap[w.heap.size]? = some (.cells (rawA r (.slice lp r.lens.length lc) (.slice tp r.strips.length tc) sv cv) 32 (0, 0))) => plan_at h)
  obtain ⟨s0, s1, s2, s3, s4, s5, s6, s13, s26⟩ := raw_cells a1
  go_enter Tryz.func42, Tryz.ntmps42
  go_wp2_with fail
  clear s0 s1 s2 s3 s4 s5 s6 s13 s26 HT0
  generalize (w.alloc (Obj.cells (rawA r (.slice lp r.lens.length lc) (.slice tp r.strips.length tc) sv cv) 32)).alloc (Obj.cells #[.pointer none, .slice none 0 0] 111) = U at *
  generalize (rawA r (.slice lp r.lens.length lc) (.slice tp r.strips.length tc) sv cv) = RQ at *
  have hB0 : w.heap.size + 1 ≤ U.heap.size := by omega
  have hb0 : w.heap.size + 1 < U.heap.size := hl2
  have HBV := hide (show ∀ V, WStep (w.heap.size + 1) (w.heap.size + 1) U V → Below w.heap.size w V from fun V hV => HB.out.trans (hV.bel.mono (by omega)))
  have HBK := hide (show ∀ V, WStep (w.heap.size + 1) (w.heap.size + 1) U V → V.heap[w.heap.size]? = some (.cells RQ 32 (0, 0)) from fun V hV => (hV.bel.block _ (by omega)).trans a1)
  have HST := hide (WStep.refl (w.heap.size + 1) (w.heap.size + 1) U)
  clear a1 a2 hl1 hl2
  have HW := HWS
  have HL := hide (show ([] : List UInt8).length ≤ 0 from Nat.le_refl _)
  clear HWS
  have hBV : w.heap.size + 1 ≤ U.heap.size := Nat.le_trans hB0 HST.out.bel.size
  have hbV : w.heap.size + 1 < U.heap.size := Nat.lt_of_lt_of_le hb0 HST.out.bel.size
  refine (wtext_any (w.heap.size + 1) (w.heap.size + 1) [] darkL _ HW.out (by decide) hBV hbV).mono ?_
  rintro e V1 ⟨rfl, hW', hS'⟩
  replace HST := hide (HST.out.trans hS')
  obtain ⟨L1, HQ1⟩ : ∃ L1, Hid (([] : List UInt8) ++ textW darkL = L1) := ⟨_, rfl⟩
  rw [HQ1.out] at hW'
  replace HW := hide hW'
  replace HL := hide (show L1.length ≤ 8 by rw [← HQ1.out, List.length_append, show (textW darkL).length = 8 from rfl]; have := HL.out; (try simp); (try omega))
  clear hW' hS' hBV hbV
  obtain ⟨s0, s1, s2, s3, s4, s5, s6, s13, s26⟩ := HRC.out _ (HBK.out V1 HST.out)
  go_wp2_with fail
  clear s0 s1 s2 s3 s4 s5 s6 s13 s26
  have hBV : w.heap.size + 1 ≤ V1.heap.size := Nat.le_trans hB0 HST.out.bel.size
  have hbV : w.heap.size + 1 < V1.heap.size := Nat.lt_of_lt_of_le hb0 HST.out.bel.size
  have HG := hide (WStep.alloc (B := (w.heap.size + 1)) (b := (w.heap.size + 1)) hBV (Obj.cells #[.int .i64 r.w, .int .i64 r.h, .int .i64 r.depth, .int .i64 r.kind, .int .i64 r.rows] 3))
  have HWA := hide (HW.out.alloc (Obj.cells #[.int .i64 r.w, .int .i64 r.h, .int .i64 r.depth, .int .i64 r.kind, .int .i64 r.rows] 3))
  have HIA := hide (ints5b V1 r.w r.h r.depth r.kind r.rows)
  have hga := al1 V1 (Obj.cells #[.int .i64 r.w, .int .i64 r.h, .int .i64 r.depth, .int .i64 r.kind, .int .i64 r.rows] 3)
  have HAA := hide (wints (B := (w.heap.size + 1)) (b := (w.heap.size + 1)) (c := 5) (ca := 5) (xs := []) hga (by omega) (by decide))
  have HLA := hide (show L1.length + ([r.w, r.h, r.depth, r.kind, r.rows] : List Int).length * 4 ≤ 140737488355328 by have := HL.out; simp; omega)
  have hBA := Nat.le_trans hBV HG.out.bel.size
  have hbA := Nat.lt_of_lt_of_le hbV HG.out.bel.size
  clear hga
  generalize V1.alloc (Obj.cells #[.int .i64 r.w, .int .i64 r.h, .int .i64 r.depth, .int .i64 r.kind, .int .i64 r.rows] 3) = VA at *
  replace HST := hide (HST.out.trans HG.out)
  refine (wnums_any (w.heap.size + 1) (w.heap.size + 1) L1 _ [r.w, r.h, r.depth, r.kind, r.rows] _ HWA.out HIA.out HAA.out HLA.out hBA hbA).mono ?_
  rintro e V2 ⟨rfl, hW', hS'⟩
  replace HST := hide (HST.out.trans hS')
  obtain ⟨L2, HQ2⟩ : ∃ L2, Hid (L1 ++ ([r.w, r.h, r.depth, r.kind, r.rows] : List Int).flatMap num4 = L2) := ⟨_, rfl⟩
  rw [HQ2.out] at hW'
  replace HW := hide hW'
  replace HL := hide (show L2.length ≤ 28 by rw [← HQ2.out, List.length_append, nums_length]; have := HL.out; (try simp); (try omega))
  clear hW' hS' hBV hbV
  clear HG HWA HIA HAA HLA hBA hbA
  obtain ⟨s0, s1, s2, s3, s4, s5, s6, s13, s26⟩ := HRC.out _ (HBK.out V2 HST.out)
  go_wp2_with fail
  clear s0 s1 s2 s3 s4 s5 s6 s13 s26
  have hBV : w.heap.size + 1 ≤ V2.heap.size := Nat.le_trans hB0 HST.out.bel.size
  have hbV : w.heap.size + 1 < V2.heap.size := Nat.lt_of_lt_of_le hb0 HST.out.bel.size
  have HG := hide (WStep.alloc (B := (w.heap.size + 1)) (b := (w.heap.size + 1)) hBV (Obj.cells #[.int .i64 r.lens.length] 3))
  have HWA := hide (HW.out.alloc (Obj.cells #[.int .i64 r.lens.length] 3))
  have HIA := hide (ints1 V2 r.lens.length)
  have hga := al1 V2 (Obj.cells #[.int .i64 r.lens.length] 3)
  have HAA := hide (wints (B := (w.heap.size + 1)) (b := (w.heap.size + 1)) (c := 1) (ca := 1) (xs := []) hga (by omega) (by decide))
  have HLA := hide (show L2.length + ([(r.lens.length : Int)] : List Int).length * 4 ≤ 140737488355328 by have := HL.out; simp; omega)
  have hBA := Nat.le_trans hBV HG.out.bel.size
  have hbA := Nat.lt_of_lt_of_le hbV HG.out.bel.size
  clear hga
  generalize V2.alloc (Obj.cells #[.int .i64 r.lens.length] 3) = VA at *
  replace HST := hide (HST.out.trans HG.out)
  refine (wnums_any (w.heap.size + 1) (w.heap.size + 1) L2 _ [(r.lens.length : Int)] _ HWA.out HIA.out HAA.out HLA.out hBA hbA).mono ?_
  rintro e V3 ⟨rfl, hW', hS'⟩
  replace HST := hide (HST.out.trans hS')
  obtain ⟨L3, HQ3⟩ : ∃ L3, Hid (L2 ++ ([(r.lens.length : Int)] : List Int).flatMap num4 = L3) := ⟨_, rfl⟩
  rw [HQ3.out] at hW'
  replace HW := hide hW'
  replace HL := hide (show L3.length ≤ 32 by rw [← HQ3.out, List.length_append, nums_length]; have := HL.out; (try simp); (try omega))
  clear hW' hS' hBV hbV
  clear HG HWA HIA HAA HLA hBA hbA
  obtain ⟨s0, s1, s2, s3, s4, s5, s6, s13, s26⟩ := HRC.out _ (HBK.out V3 HST.out)
  go_wp2_with fail
  clear s0 s1 s2 s3 s4 s5 s6 s13 s26
  have hBV : w.heap.size + 1 ≤ V3.heap.size := Nat.le_trans hB0 HST.out.bel.size
  have hbV : w.heap.size + 1 < V3.heap.size := Nat.lt_of_lt_of_le hb0 HST.out.bel.size
  have HI4 := HR.out.lens.below (HBV.out _ HST.out) (Nat.le_refl _)
  have HA4 := old_ints (B := w.heap.size + 1) (b := w.heap.size + 1) (V := V3) HR.out.lens (by omega)
  refine (wnumsE_any (w.heap.size + 1) (w.heap.size + 1) L3 _ r.lens _ HW.out HI4 HA4 (by have := HL.out; omega) hBV hbV).mono ?_
  rintro e V4 ⟨rfl, hW', hS'⟩
  replace HST := hide (HST.out.trans hS')
  obtain ⟨L4, HQ4⟩ : ∃ L4, Hid (L3 ++ r.lens.flatMap num4 = L4) := ⟨_, rfl⟩
  rw [HQ4.out] at hW'
  replace HW := hide hW'
  replace HL := hide (show L4.length ≤ 4194336 by rw [← HQ4.out, List.length_append, nums_length]; have := HL.out; (try simp); (try omega))
  clear hW' hS' hBV hbV
  clear HI4 HA4
  obtain ⟨s0, s1, s2, s3, s4, s5, s6, s13, s26⟩ := HRC.out _ (HBK.out V4 HST.out)
  go_wp2_with fail
  clear s0 s1 s2 s3 s4 s5 s6 s13 s26
  have hBV : w.heap.size + 1 ≤ V4.heap.size := Nat.le_trans hB0 HST.out.bel.size
  have hbV : w.heap.size + 1 < V4.heap.size := Nat.lt_of_lt_of_le hb0 HST.out.bel.size
  have HG := hide (WStep.alloc (B := (w.heap.size + 1)) (b := (w.heap.size + 1)) hBV (Obj.cells #[.int .i64 r.strips.length] 3))
  have HWA := hide (HW.out.alloc (Obj.cells #[.int .i64 r.strips.length] 3))
  have HIA := hide (ints1 V4 r.strips.length)
  have hga := al1 V4 (Obj.cells #[.int .i64 r.strips.length] 3)
  have HAA := hide (wints (B := (w.heap.size + 1)) (b := (w.heap.size + 1)) (c := 1) (ca := 1) (xs := []) hga (by omega) (by decide))
  have HLA := hide (show L4.length + ([(r.strips.length : Int)] : List Int).length * 4 ≤ 140737488355328 by have := HL.out; simp; omega)
  have hBA := Nat.le_trans hBV HG.out.bel.size
  have hbA := Nat.lt_of_lt_of_le hbV HG.out.bel.size
  clear hga
  generalize V4.alloc (Obj.cells #[.int .i64 r.strips.length] 3) = VA at *
  replace HST := hide (HST.out.trans HG.out)
  refine (wnums_any (w.heap.size + 1) (w.heap.size + 1) L4 _ [(r.strips.length : Int)] _ HWA.out HIA.out HAA.out HLA.out hBA hbA).mono ?_
  rintro e V5 ⟨rfl, hW', hS'⟩
  replace HST := hide (HST.out.trans hS')
  obtain ⟨L5, HQ5⟩ : ∃ L5, Hid (L4 ++ ([(r.strips.length : Int)] : List Int).flatMap num4 = L5) := ⟨_, rfl⟩
  rw [HQ5.out] at hW'
  replace HW := hide hW'
  replace HL := hide (show L5.length ≤ 4194340 by rw [← HQ5.out, List.length_append, nums_length]; have := HL.out; (try simp); (try omega))
  clear hW' hS' hBV hbV
  clear HG HWA HIA HAA HLA hBA hbA
  obtain ⟨s0, s1, s2, s3, s4, s5, s6, s13, s26⟩ := HRC.out _ (HBK.out V5 HST.out)
  go_wp2_with fail
  clear s0 s1 s2 s3 s4 s5 s6 s13 s26
  go_loopw [35] (fun i wr => ∃ k : Nat, k ≤ r.strips.length ∧ i = .int .i64 k ∧ IsWr (w.heap.size + 1) (w.heap.size + 1) (L5 ++ (r.strips.take k).flatMap textW) wr ∧ WStep (w.heap.size + 1) (w.heap.size + 1) U wr) (fun i _ => r.strips.length - (intOf i).toNat)
  case atStart => exact ⟨0, Nat.zero_le _, rfl, by simpa using HW.out, HST.out⟩
  case round =>
    obtain ⟨k, hk, rfl, hW, hS⟩ := hrel
    have HLL := HL
    clear HST HW
    have HST := hide hS
    have HW := hide hW
    clear hW hS
    have hBV : w.heap.size + 1 ≤ wr.heap.size := Nat.le_trans hB0 HST.out.bel.size
    have hbV : w.heap.size + 1 < wr.heap.size := Nat.lt_of_lt_of_le hb0 HST.out.bel.size
    have htk := HT.out k
    by_cases hlt : k < r.strips.length
    · have hd : decide ((k : Int) < (r.strips.length : Int)) = true := by simp; omega
      obtain ⟨bq, oq, rfl, hbq, d0⟩ := (HR.out.strips.below (HBV.out _ HST.out) (Nat.le_refl _)).at k hlt
      have hgs := HGS.out k hlt
      obtain ⟨T, hTT⟩ : ∃ T, r.strips.getD k [] = T := ⟨_, rfl⟩
      rw [hTT] at d0 hgs
      have HTT := hide hTT
      clear hTT
      go_wp2_with fail
      clear d0
      refine (wtext_any (w.heap.size + 1) (w.heap.size + 1) _ T _ HW.out (by have := HLL.out; rw [List.length_append]; omega) hBV hbV).mono ?_
      rintro e X2 ⟨rfl, hW', hS'⟩
      have HST2 := hide (HST.out.trans hS')
      have HW2 := hide (show IsWr (w.heap.size + 1) (w.heap.size + 1) (L5 ++ (r.strips.take (k + 1)).flatMap textW) X2 by rw [take_texts _ k hlt, HTT.out, ← List.append_assoc]; exact hW')
      clear hW' hS' hBV hbV htk
      go_wp2
      go_roundw
      case rel => exact ⟨k + 1, hlt, by go_num, HW2.out, HST2.out⟩
      case measure => simp [intOf]; omega
    · have hd : decide ((k : Int) < (r.strips.length : Int)) = false := by simp; omega
      obtain rfl : k = r.strips.length := by omega
      rw [List.take_length] at HW htk
      obtain ⟨L6, HQ6⟩ : ∃ L6, Hid (L5 ++ r.strips.flatMap textW = L6) := ⟨_, rfl⟩
      rw [HQ6.out] at HW
      have HL6 := hide (show L6.length ≤ 1099511627776 by rw [← HQ6.out, List.length_append]; have := HLL.out; omega)
      have HPP := hide (HR.out.plan.below (HBV.out _ HST.out) (Nat.le_refl _))
      have HP0 := hide (HPA.out _ (HBK.out _ HST.out))
      clear HLL HL htk HT HGS
      go_wp2_with (refine wpList_load_at rfl 30 _ rfl _ 7 rfl (planA r.plan sv cv) _ HP0.out Tryz.underlying30 rfl (by kernel_rfl) ?_)
      refine (wplan_any (w.heap.size + 1) (w.heap.size + 1) L6 r.plan sv cv _ HW.out HPP.out (old_pts HR.out.plan.spots (by omega)) (old_pts HR.out.plan.curve (by omega)) HL6.out g4 g5 hBV hbV).mono ?_
      rintro e X3 ⟨rfl, hW', hS'⟩
      have HST3 := hide (HST.out.trans hS')
      have HE := hide (show L6 ++ planW r.plan = rawW r by
        rw [← HQ6.out, ← HQ5.out, ← HQ4.out, ← HQ3.out, ← HQ2.out, ← HQ1.out]
        simp [rawW, headL, listW, List.append_assoc])
      rw [HE.out] at hW'
      have HW3 := hide hW'
      clear hW' hS'
      go_wp2_with fail
      refine (wout_any (w.heap.size + 1) (w.heap.size + 1) (rawW r) _ HW3.out (by simp [rawW, textW, num4])).mono ?_
      rintro e X4 ⟨rfl, hb4⟩
      have HF := hide ((HBV.out _ HST3.out).trans (hb4.mono (by omega)))
      go_wp2
      go_ret
      exact ⟨rfl, HF.out⟩
theorem curve_le {ls : List Pt} (h : curveOk ls = true) : ls.length ≤ 16 := by
  simp only [curveOk, endsOk, Bool.and_eq_true, decide_eq_true_eq] at h
  omega
theorem st_len {r : RawF} (h : Head r) {i : Nat} (hi : i < cntN r) {s : List UInt8} (h0 : stE r s (rowN r i) = 0) : s.length ≤ 15360 := by
  obtain ⟨h3, h4⟩ := h.size hi
  obtain ⟨h5, h6⟩ := h.row hi
  have hw := h.w
  have hd := h.depth
  by_cases hk : r.kind = 0
  · obtain ⟨e1, e2⟩ := stZ_kind0 hk s (rowN r i)
    rw [e1] at h0
    have hf := unpE_zero h0
    simp only [unpFine, decide_eq_true_eq] at hf
    rw [hf.2.2.2.1]
    have : (rowN r i * r.w).toNat * r.depth.toNat ≤ 4096 * 16 := Nat.mul_le_mul (by omega) (by omega)
    omega
  · have hE : readDE s r.w (rowN r i) r.kind r.lens = 0 := by
      rw [stE, if_neg hk] at h0
      split at h0
      · assumption
      · exact h0
    have hS : (readD s r.w (rowN r i) r.kind r.lens).isSome = true := by
      unfold readDE at hE
      split at hE
      · split at hE
        · split at hE
          · split at hE
            · assumption
            · cases hE
          · rename_i hc; exact absurd hE hc
        · cases hE
      · cases hE
    obtain ⟨zs, hz⟩ := Option.isSome_iff_exists.1 hS
    rw [readD] at hz
    split at hz
    · rename_i hl
      have : r.w.toNat * (rowN r i).toNat ≤ 64 * 64 := Nat.mul_le_mul (by omega) (by omega)
      have : r.w.toNat * (rowN r i).toNat * 30 ≤ 4096 * 30 := Nat.mul_le_mul_right _ this
      omega
    · cases hz
structure Right (r : RawF) : Prop where
  head : Head r
  many : r.strips.length = cntN r
  plan : planE r.plan = 0
  spots : spotsB r.w r.h r.plan.spots = true
  strips : stOk r r.strips.length = true
theorem planeE_zero {r : RawF} (h : planeE r = 0) : Right r := by
  unfold planeE at h
  split at h
  · rename_i h1
    split at h
    · rename_i h2
      split at h
      · rename_i h3
        split at h
        · rename_i h4
          unfold pErr at h3
          split at h3
          · rename_i h5
            split at h3
            · rename_i h6
              exact ⟨headE_zero h1, h2, h5, h6, h4⟩
            · cases h3
          · rename_i h5; exact absurd h3 h5
        · cases h
      · rename_i h3; exact absurd h h3
    · cases h
  · rename_i h1; exact absurd h h1
theorem Right.zero {r : RawF} (h : Right r) : planeE r = 0 := by
  rw [planeE, if_pos h.head.zero, if_pos h.many, if_pos (by rw [pErr, if_pos h.plan, if_pos h.spots]), if_pos h.strips]
theorem Right.lens_le {r : RawF} (h : Right r) : r.lens.length ≤ 17 := by
  have := h.head.lens
  unfold kindE at this
  split at this
  · split at this
    · omega
    · cases this
  · exact (checkE_zero this).2.1
theorem Right.strip_le {r : RawF} (h : Right r) : ∀ s ∈ r.strips, s.length ≤ 15360 := by
  intro s hs
  obtain ⟨i, hi, rfl⟩ := List.getElem_of_mem hs
  have h0 := stOk_get h.strips hi
  rw [stAt, getD_at hi] at h0
  exact st_len h.head (by have := h.many; omega) h0
def rawS (r : RawF) : List UInt8 := if planeE r = 0 then rawW r else []
set_option maxRecDepth 100000 in
set_option maxHeartbeats 1600000 in
theorem rawWrite_any (r : RawF) (lv tv sv cv : Value) (w : World) (hr : IsRaw w r lv tv sv cv) :
    Calls Tryz.prog 15 #[.agg (rawA r lv tv sv cv)] w fun e w' => e = .returned (.tuple #[.string (str (rawS r)), .int .i64 (planeE r)]) ∧ Below w.heap.size w w' := by
  have HB := hide (bel_alloc w (Obj.cells (rawA r lv tv sv cv) 32))
  have a1 := al1 w (Obj.cells (rawA r lv tv sv cv) 32)
  have hl1 := (Array.getElem?_eq_some_iff.1 a1).1
  have HC := hide (fun (u : World) (hu : Below w.heap.size w u) => rawCheck_any r lv tv sv cv u (hr.below hu (Nat.le_refl _)))
  have HBO := hide (fun (h0 : planeE r = 0) (u : World) (hu : Below w.heap.size w u) => bytesOf_any r lv tv sv cv u (hr.below hu (Nat.le_refl _)) (by have := (planeE_zero h0).lens_le; omega) (by have := (planeE_zero h0).many; have := (planeE_zero h0).head.cnt_le; omega) (fun s hs => by have := (planeE_zero h0).strip_le s hs; omega) (by have := (planE_zero (planeE_zero h0).plan).2.2.2.2.2.1; omega) (by have := curve_le (planE_zero (planeE_zero h0).plan).2.2.2.2.2.2.2; omega))
  have HS := hide (show rawS r = if planeE r = 0 then rawW r else [] from rfl)
  generalize rawS r = S at *
  generalize rawW r = RW at *
  clear hr
  go_enter Tryz.func15, Tryz.ntmps15
  go_wp2_with (refine wpList_load_row rfl 32 _ rfl _ rfl _ _ _ _ a1 Tryz.underlying32 rfl (by kernel_rfl) ?_)
  generalize w.alloc (Obj.cells (rawA r lv tv sv cv) 32) = U at *
  refine (HC.out _ HB.out).mono ?_
  rintro e V1 ⟨rfl, hb1⟩
  have HB1 := hide (bel_trans HB.out hb1)
  by_cases hE : planeE r = 0
  · rw [hE]
    rw [if_pos hE] at HS
    have hs := HS.out
    subst hs
    have HBB := hide (HBO.out hE)
    have b1 := (hb1.block _ hl1).trans a1
    go_wp2_with (refine wpList_load_row rfl 32 _ rfl _ rfl _ _ _ _ b1 Tryz.underlying32 rfl (by kernel_rfl) ?_)
    refine (HBB.out _ HB1.out).mono ?_
    rintro e V2 ⟨rfl, hb2⟩
    go_wp2
    go_ret2
    exact ⟨ret_tup2 rfl (congrArg (Value.int .i64) hE.symm), bel_trans HB1.out hb2⟩
  · have hn : (planeE r != 0) = true := by simpa using hE
    rw [if_neg hE] at HS
    have hs := HS.out
    subst hs
    clear HBO
    go_wp2
    go_ret2
    exact ⟨rfl, HB1.out⟩
end Go.Proofs.YtanebhbfekcplaaGreat

namespace Go.Proofs.YtanebhbfekcplaaGreat
set_option linter.unusedVariables false
set_option linter.unusedSimpArgs false
open Go.RowKit
def kq9 (w h d k r : Int) (le : List Int) (st : List (List UInt8)) (n : Plan) (l : List UInt8) : Option RawF := if l = [] then some ⟨w, h, d, k, r, le, st, n⟩ else none
def kq8 (b3 b4 : List UInt8 → Nat) (w h d k r : Int) (le : List Int) (st : List (List UInt8)) (l : List UInt8) : Option RawF := match planP b3 b4 l with
  | none => none
  | some (n, u) => kq9 w h d k r le st n u
def kq7 (b2 b3 b4 : List UInt8 → Nat) (w h d k r : Int) (le : List Int) (l : List UInt8) : Option RawF := match listP textP b2 l with
  | none => none
  | some (st, u) => kq8 b3 b4 w h d k r le st u
def kq6 (b1 b2 b3 b4 : List UInt8 → Nat) (w h d k r : Int) (l : List UInt8) : Option RawF := match listP numP b1 l with
  | none => none
  | some (le, u) => kq7 b2 b3 b4 w h d k r le u
def kq5 (b1 b2 b3 b4 : List UInt8 → Nat) (w h d k : Int) (l : List UInt8) : Option RawF := match numP l with
  | none => none
  | some (r, u) => kq6 b1 b2 b3 b4 w h d k r u
def kq4 (b1 b2 b3 b4 : List UInt8 → Nat) (w h d : Int) (l : List UInt8) : Option RawF := match numP l with
  | none => none
  | some (k, u) => kq5 b1 b2 b3 b4 w h d k u
def kq3 (b1 b2 b3 b4 : List UInt8 → Nat) (w h : Int) (l : List UInt8) : Option RawF := match numP l with
  | none => none
  | some (d, u) => kq4 b1 b2 b3 b4 w h d u
def kq2 (b1 b2 b3 b4 : List UInt8 → Nat) (w : Int) (l : List UInt8) : Option RawF := match numP l with
  | none => none
  | some (h, u) => kq3 b1 b2 b3 b4 w h u
def kq1 (b1 b2 b3 b4 : List UInt8 → Nat) (l : List UInt8) : Option RawF := match numP l with
  | none => none
  | some (w, u) => kq2 b1 b2 b3 b4 w u
def rawP (b1 b2 b3 b4 : List UInt8 → Nat) (s : List UInt8) : Option RawF := match textP s with
  | none => none
  | some (m, l) => if m = darkL then kq1 b1 b2 b3 b4 l else none
def strV (s : List UInt8) : Value := .string (str s)
theorem ints_holds {g : Nat} {t : TypeId} {xs : List Int} {V : World} (h : Holds g t (xs.map (Value.int .i64)) V) (hn : xs.length ≤ 1048576) : IsInts V (.slice (some ⟨g, 0, none⟩) xs.length xs.length) xs := by
  refine ⟨_, _, rfl, by omega, .inr ⟨g, 0, rfl, h.lt, fun j hj => ?_⟩⟩
  rw [Nat.zero_add, Lib.cell_of_heap h]
  simp [hj]
theorem strs_holds {g : Nat} {t : TypeId} {ts : List (List UInt8)} {V : World} (h : Holds g t (ts.map strV) V) (hn : ts.length ≤ 1048576) : IsStrs V (.slice (some ⟨g, 0, none⟩) ts.length ts.length) ts := by
  refine ⟨_, _, rfl, by omega, .inr ⟨g, 0, rfl, h.lt, fun j hj => ?_⟩⟩
  rw [Nat.zero_add, Lib.cell_of_heap h]
  simp [hj, strV]
theorem Tryz.infoStrF : (Tryz.prog.info? 9).map (fun i => (i.zero, i.size, i.bytes)) = some (some (.string ⟨#[]⟩), 1, 16) := by kernel_rfl
theorem made_one (z : Value) (N : Nat) : madeCells #[z] N = (List.replicate N z).toArray := by
  refine Array.ext (by simp [madeCells]) fun i h1 h2 => ?_
  simp [madeCells, Nat.mod_one]
theorem strs_room (ns : List (List UInt8)) (M : Nat) (x : List UInt8) : (ns.map strV ++ List.replicate (M + 1) (Value.string ⟨#[]⟩)).set ns.length (.string (str x)) = (ns ++ [x]).map strV ++ List.replicate M (Value.string ⟨#[]⟩) := by
  rw [List.set_append_right _ _ (by simp), List.length_map, Nat.sub_self, List.replicate_succ, List.set_cons_zero]
  simp [strV]
theorem sclone_any (s : List UInt8) (w : World) (hl : s.length ≤ 281474976710656) :
    Calls Tryz.prog 85 #[.string (str s)] w fun e w' => e = .returned (.string (str s)) ∧ Below w.heap.size w w' := by
  have HC := hide (Tryz.stringslite_Clone (str s) w (by rw [str_size]; exact hl))
  go_enter Tryz.func85, Tryz.ntmps85
  go_wp2_with fail
  refine (HC.out).mono ?_
  rintro e w1 ⟨rfl, hb⟩
  go_wp2
  go_ret
  exact ⟨rfl, hb⟩
theorem text_len {l t s : List UInt8} (h : textP l = some (s, t)) : t.length ≤ l.length := by
  rw [(textCod.sound _ _ _ h).1, List.length_append]; omega
theorem textS_len {l t s : List UInt8} (h : textP l = some (s, t)) : s.length ≤ l.length := by
  rw [(textCod.sound _ _ _ h).1, List.length_append, textW, List.length_append]; omega
structure FJ (w : World) (X : List (Nat × TypeId × List Value)) (l : List UInt8) (cs : List Value) (V : World) : Prop where
  sep : ∀ x ∈ X, w.heap.size + 2 < x.1
  bel : Below w.heap.size w V
  rd : IsRd (w.heap.size + 2) l V
  box : Holds w.heap.size 32 cs V
  okb : Holds (w.heap.size + 1) 4 [.bool false] V
  ex : ∀ x ∈ X, Holds x.1 x.2.1 x.2.2 V
theorem FJ.num {w : World} {X : List (Nat × TypeId × List Value)} {l t : List UInt8} {cs : List Value} {V V' : World} (h : FJ w X l cs V) (hs : RSt w.heap.size (w.heap.size + 2) V V') (hr : IsRd (w.heap.size + 2) t V') : FJ w X t cs V' where
  sep := h.sep
  bel := h.bel.trans hs.bel
  rd := hr
  box := (hs.keep _ h.box.lt (by omega)).trans h.box
  okb := (hs.keep _ h.okb.lt (by omega)).trans h.okb
  ex := fun x hx => (hs.keep _ (h.ex x hx).lt (by have := h.sep x hx; omega)).trans (h.ex x hx)
theorem FJ.pan {w : World} {X : List (Nat × TypeId × List Value)} {l : List UInt8} {cs : List Value} {V V' : World} (h : FJ w X l cs V) (hs : RSt w.heap.size (w.heap.size + 2) V V') : Below w.heap.size w V' ∧ Holds w.heap.size 32 cs V' ∧ Holds (w.heap.size + 1) 4 [.bool false] V' :=
  ⟨h.bel.trans hs.bel, (hs.keep _ h.box.lt (by omega)).trans h.box, (hs.keep _ h.okb.lt (by omega)).trans h.okb⟩
theorem FJ.pan2 {w : World} {X : List (Nat × TypeId × List Value)} {l : List UInt8} {cs : List Value} {V V' : World} {g : Nat} (h : FJ w X l cs V) (hg : w.heap.size + 2 < g) (hs : RSt2 w.heap.size (w.heap.size + 2) g V V') : Below w.heap.size w V' ∧ Holds w.heap.size 32 cs V' ∧ Holds (w.heap.size + 1) 4 [.bool false] V' :=
  ⟨h.bel.trans hs.bel, (hs.keep _ h.box.lt (by omega) (by omega)).trans h.box, (hs.keep _ h.okb.lt (by omega) (by omega)).trans h.okb⟩
theorem FJ.put {w : World} {X : List (Nat × TypeId × List Value)} {l : List UInt8} {cs : List Value} {V : World} (h : FJ w X l cs V) (i : Nat) (v : Value) (h1 : v.oneCell' = true) : FJ w X l (cs.set i v) (V.setCell ⟨w.heap.size, i, none⟩ v) := by
  obtain ⟨hh, hs⟩ := h.box.set (B := w.heap.size) (b := w.heap.size + 2) (Nat.le_refl _) i v h1
  have hk : ∀ k, k ≠ w.heap.size → (V.setCell ⟨w.heap.size, i, none⟩ v).heap[k]? = V.heap[k]? := fun k hk => Below.heap_setCell _ _ _ _ (fun e => hk e)
  exact ⟨h.sep, h.bel.trans hs.bel, (hk _ (by omega)).trans h.rd, hh, (hk _ (by omega)).trans h.okb, fun x hx => (hk _ (by have := h.sep x hx; omega)).trans (h.ex x hx)⟩
theorem FJ.alloc {w : World} {X : List (Nat × TypeId × List Value)} {l : List UInt8} {cs : List Value} {V : World} (h : FJ w X l cs V) (ds : List Value) (t : TypeId) : FJ w ((V.heap.size, t, ds) :: X) l cs (V.alloc (.cells ds.toArray t)) where
  sep := fun x hx => by
    rcases List.mem_cons.1 hx with rfl | hx
    · exact (Array.getElem?_eq_some_iff.1 h.rd).1
    · exact h.sep x hx
  bel := h.bel.trans ((bel_alloc V _).mono h.bel.size)
  rd := rd_alloc h.rd _
  box := ((bel_alloc V _).block _ h.box.lt).trans h.box
  okb := ((bel_alloc V _).block _ h.okb.lt).trans h.okb
  ex := fun x hx => by
    rcases List.mem_cons.1 hx with rfl | hx
    · exact al1 V _
    · exact ((bel_alloc V _).block _ (h.ex x hx).lt).trans (h.ex x hx)
theorem FJ.bel2 {w : World} {X : List (Nat × TypeId × List Value)} {l : List UInt8} {cs : List Value} {V V' : World} (h : FJ w X l cs V) (hb : Below V.heap.size V V') : FJ w X l cs V' :=
  ⟨h.sep, h.bel.trans (hb.mono h.bel.size), (hb.block _ (Array.getElem?_eq_some_iff.1 h.rd).1).trans h.rd, (hb.block _ h.box.lt).trans h.box, (hb.block _ h.okb.lt).trans h.okb, fun x hx => (hb.block _ (h.ex x hx).lt).trans (h.ex x hx)⟩
theorem FJ.drew {w : World} {X : List (Nat × TypeId × List Value)} {l : List UInt8} {cs : List Value} {V : World} (h : FJ w X l cs V) : FJ w X l cs V.drew :=
  ⟨h.sep, h.bel.drew, h.rd, h.box, h.okb, h.ex⟩
theorem FJ.fillX {w : World} {X : List (Nat × TypeId × List Value)} {g : Nat} {t : TypeId} {ds ds' : List Value} {l u : List UInt8} {cs : List Value} {V V' : World} (h : FJ w ((g, t, ds) :: X) l cs V) (hX : ∀ x ∈ X, x.1 ≠ g) (hs : RSt2 w.heap.size (w.heap.size + 2) g V V') (hr : IsRd (w.heap.size + 2) u V') (hh : Holds g t ds' V') : FJ w ((g, t, ds') :: X) u cs V' := by
  have hg : w.heap.size + 2 < g := h.sep (g, t, ds) List.mem_cons_self
  refine ⟨?_, h.bel.trans hs.bel, hr, (hs.keep _ h.box.lt (by omega) (by omega)).trans h.box, (hs.keep _ h.okb.lt (by omega) (by omega)).trans h.okb, ?_⟩
  · intro x hx
    rcases List.mem_cons.1 hx with rfl | hx
    · exact hg
    · exact h.sep x (by simp [hx])
  · intro x hx
    rcases List.mem_cons.1 hx with rfl | hx
    · exact hh
    · exact (hs.keep _ (h.ex x (by simp [hx])).lt (by have := h.sep x (by simp [hx]); omega) (hX x hx)).trans (h.ex x (by simp [hx]))
theorem FJ.plan {w : World} {X : List (Nat × TypeId × List Value)} {l : List UInt8} {cs cs' : List Value} {V : World} (h : FJ w X l cs V) : FJ w X l cs' (V.setRow w.heap.size cs'.toArray) := by
  have hk : ∀ k, k ≠ w.heap.size → (V.setRow w.heap.size cs'.toArray).heap[k]? = V.heap[k]? := fun k hk => setRow_other _ _ _ _ hk
  exact ⟨h.sep, below_setRow h.bel (Nat.le_refl _) _, (hk _ (by omega)).trans h.rd, setRow_heap _ _ _ _ _ _ h.box, (hk _ (by omega)).trans h.okb, fun x hx => (hk _ (by have := h.sep x hx; omega)).trans (h.ex x hx)⟩
set_option maxRecDepth 100000 in
set_option maxHeartbeats 3200000 in
theorem fileOf_any (s : List UInt8) (w : World) (hs : s.length ≤ 140737488355328) :
    Calls Tryz.prog 45 #[.string (str s)] w fun e w' => Below w.heap.size w w' ∧ ((∃ r lv tv sv cv, rawP (fun _ => 17) (fun _ => 64) (fun _ => 64) (fun _ => 16) s = some r ∧ e = .returned (.tuple #[.agg (rawA r lv tv sv cv), .bool true]) ∧ IsRaw w' r lv tv sv cv ∧ Fresh w.heap.size lv ∧ Fresh w.heap.size tv ∧ Fresh w.heap.size sv ∧ Fresh w.heap.size cv) ∨ (rawP (fun _ => 17) (fun _ => 64) (fun _ => 64) (fun _ => 16) s = none ∧ e = .returned (.tuple #[.agg rawZ, .bool false]))) := by
  have HJ0 : FJ w [] s rawZ.toList (((w.alloc (.cells rawZ 32)).alloc (.cells #[.bool false] 4)).alloc (.cells #[.string (str s)] 115)) := by
    obtain ⟨a1, a2, a3⟩ := al3 w (Obj.cells rawZ 32) (Obj.cells #[.bool false] 4) (Obj.cells #[.string (str s)] 115)
    exact ⟨by simp, be3 w _ _ _, a3, a1, a2, by simp⟩
  have HJ := hide HJ0
  clear HJ0
  have hmf : ∀ (fn : Fn) (first cap : Array Value) (w : World), (Instr.makeFunc fn first cap).run Tryz.prog w = .ok (.func fn first cap) w := fun _ _ _ _ => rfl
  obtain ⟨R, HP⟩ : ∃ R, Hid (R = rawP (fun _ => 17) (fun _ => 64) (fun _ => 64) (fun _ => 16) s) := ⟨_, rfl⟩
  rw [← HP.out]
  go_enter_defers Tryz.func45, Tryz.ntmps45
  go_wp2_with fail
  generalize ((w.alloc (.cells rawZ 32)).alloc (.cells #[.bool false] 4)).alloc (.cells #[.string (str s)] 115) = V0 at *
  refine (rtext_any w.heap.size (w.heap.size + 2) s V0 (by omega) HJ.out.bel.size HJ.out.rd (by omega)).mono ?_
  rintro e V1 ⟨hS, hc⟩
  rcases hc with ⟨m, l1, hp, rfl, hR⟩ | ⟨hp, rfl⟩
  rotate_left
  · exact (fun q => file_door q.1 q.2.1 rfl q.2.2 rfl rfl (fun W hW => ⟨hW, .inr ⟨by rw [HP.out, rawP, hp], rfl⟩⟩)) (HJ.out.pan hS)
  have hl1 : l1.length ≤ 140737488355328 := by have := text_len hp; omega
  replace HP := hide (show R = if m = darkL then kq1 (fun _ => 17) (fun _ => 64) (fun _ => 64) (fun _ => 16) l1 else none by rw [HP.out, rawP, hp])
  replace HJ := hide (HJ.out.num hS hR)
  have hml := textS_len hp
  clear hp hS hR
  by_cases hm : m = darkL
  rotate_left
  · rw [if_neg hm] at HP
    have hq : ((str m).toList == [100, 97, 114, 107]) = false := by rw [Lib.toList_data, str_data]; exact beq_false_of_ne hm
    go_wp2_with fail
    refine (must_no _).mono ?_
    rintro e V' ⟨rfl, rfl⟩
    exact file_door HJ.out.bel HJ.out.box rfl HJ.out.okb rfl rfl (fun W hW => ⟨hW, .inr ⟨HP.out, rfl⟩⟩)
  subst hm
  rw [if_pos rfl] at HP
  have hq : ((str darkL).toList == [100, 97, 114, 107]) = true := by rw [Lib.toList_data, str_data]; rfl
  go_wp2_with fail
  refine (must_yes _).mono ?_
  rintro e VQ ⟨rfl, rfl⟩
  go_wp2_with fail
  refine (rnum_any w.heap.size (w.heap.size + 2) l1 VQ (by omega) HJ.out.bel.size HJ.out.rd (by omega)).mono ?_
  rintro e V2 ⟨hS, hc⟩
  rcases hc with ⟨rw, l2, hp, rfl, hR⟩ | ⟨hp, rfl⟩
  rotate_left
  · exact (fun q => file_door q.1 q.2.1 rfl q.2.2 rfl rfl (fun W hW => ⟨hW, .inr ⟨by rw [HP.out, kq1, hp], rfl⟩⟩)) (HJ.out.pan hS)
  have hl2 : l2.length ≤ 140737488355328 := by have := num_len hp; omega
  replace HP := hide (show R = kq2 (fun _ => 17) (fun _ => 64) (fun _ => 64) (fun _ => 16) rw l2 by rw [HP.out, kq1, hp])
  replace HJ := hide (HJ.out.num hS hR)
  clear hp hS hR
  go_wp2_with fail
  refine (rnum_any w.heap.size (w.heap.size + 2) l2 V2 (by omega) HJ.out.bel.size HJ.out.rd (by omega)).mono ?_
  rintro e V3 ⟨hS, hc⟩
  rcases hc with ⟨rh, l3, hp, rfl, hR⟩ | ⟨hp, rfl⟩
  rotate_left
  · exact (fun q => file_door q.1 q.2.1 rfl q.2.2 rfl rfl (fun W hW => ⟨hW, .inr ⟨by rw [HP.out, kq2, hp], rfl⟩⟩)) (HJ.out.pan hS)
  have hl3 : l3.length ≤ 140737488355328 := by have := num_len hp; omega
  replace HP := hide (show R = kq3 (fun _ => 17) (fun _ => 64) (fun _ => 64) (fun _ => 16) rw rh l3 by rw [HP.out, kq2, hp])
  replace HJ := hide (HJ.out.num hS hR)
  clear hp hS hR
  have c0 : V3.cell? ⟨w.heap.size, 0, none⟩ = some (.int .i64 0) := by rw [Lib.cell_of_heap HJ.out.box]; rfl
  have f0 : V3.frozen? ⟨w.heap.size, 0, none⟩ = false := Lib.frozen_of_heap HJ.out.box _
  replace HJ := hide (HJ.out.put 0 (.int .i64 rw) rfl)
  replace HJ := hide (show FJ w [] l3 [.int .i64 rw, .int .i64 0, .int .i64 0, .int .i64 0, .int .i64 0, .slice none 0 0, .slice none 0 0, .int .i64 0, .int .i64 0, .int .i64 0, .int .i64 0, .int .i64 0, .int .i64 0, .slice none 0 0, .int .i64 0, .int .i64 0, .int .i64 0, .int .i64 0, .int .i64 0, .int .i64 0, .int .i64 0, .int .i64 0, .int .i64 0, .int .i64 0, .int .i64 0, .int .i64 0, .slice none 0 0, .int .i64 0] (V3.setCell ⟨w.heap.size, 0, none⟩ (.int .i64 rw)) from HJ.out)
  have c1 : (V3.setCell ⟨w.heap.size, 0, none⟩ (.int .i64 rw)).cell? ⟨w.heap.size, 1, none⟩ = some (.int .i64 0) := by rw [Lib.cell_of_heap HJ.out.box]; rfl
  have f1 : (V3.setCell ⟨w.heap.size, 0, none⟩ (.int .i64 rw)).frozen? ⟨w.heap.size, 1, none⟩ = false := Lib.frozen_of_heap HJ.out.box _
  replace HJ := hide (HJ.out.put 1 (.int .i64 rh) rfl)
  replace HJ := hide (show FJ w [] l3 [.int .i64 rw, .int .i64 rh, .int .i64 0, .int .i64 0, .int .i64 0, .slice none 0 0, .slice none 0 0, .int .i64 0, .int .i64 0, .int .i64 0, .int .i64 0, .int .i64 0, .int .i64 0, .slice none 0 0, .int .i64 0, .int .i64 0, .int .i64 0, .int .i64 0, .int .i64 0, .int .i64 0, .int .i64 0, .int .i64 0, .int .i64 0, .int .i64 0, .int .i64 0, .int .i64 0, .slice none 0 0, .int .i64 0] ((V3.setCell ⟨w.heap.size, 0, none⟩ (.int .i64 rw)).setCell ⟨w.heap.size, 1, none⟩ (.int .i64 rh)) from HJ.out)
  go_wp2_with fail
  clear c0 f0 c1 f1
  generalize ((V3.setCell ⟨w.heap.size, 0, none⟩ (.int .i64 rw)).setCell ⟨w.heap.size, 1, none⟩ (.int .i64 rh)) = VB at *
  refine (rnum_any w.heap.size (w.heap.size + 2) l3 VB (by omega) HJ.out.bel.size HJ.out.rd (by omega)).mono ?_
  rintro e V4 ⟨hS, hc⟩
  rcases hc with ⟨rd, l4, hp, rfl, hR⟩ | ⟨hp, rfl⟩
  rotate_left
  · exact (fun q => file_door q.1 q.2.1 rfl q.2.2 rfl rfl (fun W hW => ⟨hW, .inr ⟨by rw [HP.out, kq3, hp], rfl⟩⟩)) (HJ.out.pan hS)
  have hl4 : l4.length ≤ 140737488355328 := by have := num_len hp; omega
  replace HP := hide (show R = kq4 (fun _ => 17) (fun _ => 64) (fun _ => 64) (fun _ => 16) rw rh rd l4 by rw [HP.out, kq3, hp])
  replace HJ := hide (HJ.out.num hS hR)
  clear hp hS hR
  go_wp2_with fail
  refine (rnum_any w.heap.size (w.heap.size + 2) l4 V4 (by omega) HJ.out.bel.size HJ.out.rd (by omega)).mono ?_
  rintro e V5 ⟨hS, hc⟩
  rcases hc with ⟨rk, l5, hp, rfl, hR⟩ | ⟨hp, rfl⟩
  rotate_left
  · exact (fun q => file_door q.1 q.2.1 rfl q.2.2 rfl rfl (fun W hW => ⟨hW, .inr ⟨by rw [HP.out, kq4, hp], rfl⟩⟩)) (HJ.out.pan hS)
  have hl5 : l5.length ≤ 140737488355328 := by have := num_len hp; omega
  replace HP := hide (show R = kq5 (fun _ => 17) (fun _ => 64) (fun _ => 64) (fun _ => 16) rw rh rd rk l5 by rw [HP.out, kq4, hp])
  replace HJ := hide (HJ.out.num hS hR)
  clear hp hS hR
  go_wp2_with fail
  refine (rnum_any w.heap.size (w.heap.size + 2) l5 V5 (by omega) HJ.out.bel.size HJ.out.rd (by omega)).mono ?_
  rintro e V6 ⟨hS, hc⟩
  rcases hc with ⟨rr, l6, hp, rfl, hR⟩ | ⟨hp, rfl⟩
  rotate_left
  · exact (fun q => file_door q.1 q.2.1 rfl q.2.2 rfl rfl (fun W hW => ⟨hW, .inr ⟨by rw [HP.out, kq5, hp], rfl⟩⟩)) (HJ.out.pan hS)
  have hl6 : l6.length ≤ 140737488355328 := by have := num_len hp; omega
  replace HP := hide (show R = kq6 (fun _ => 17) (fun _ => 64) (fun _ => 64) (fun _ => 16) rw rh rd rk rr l6 by rw [HP.out, kq5, hp])
  replace HJ := hide (HJ.out.num hS hR)
  clear hp hS hR
  have c0 : V6.cell? ⟨w.heap.size, 2, none⟩ = some (.int .i64 0) := by rw [Lib.cell_of_heap HJ.out.box]; rfl
  have f0 : V6.frozen? ⟨w.heap.size, 2, none⟩ = false := Lib.frozen_of_heap HJ.out.box _
  replace HJ := hide (HJ.out.put 2 (.int .i64 rd) rfl)
  replace HJ := hide (show FJ w [] l6 [.int .i64 rw, .int .i64 rh, .int .i64 rd, .int .i64 0, .int .i64 0, .slice none 0 0, .slice none 0 0, .int .i64 0, .int .i64 0, .int .i64 0, .int .i64 0, .int .i64 0, .int .i64 0, .slice none 0 0, .int .i64 0, .int .i64 0, .int .i64 0, .int .i64 0, .int .i64 0, .int .i64 0, .int .i64 0, .int .i64 0, .int .i64 0, .int .i64 0, .int .i64 0, .int .i64 0, .slice none 0 0, .int .i64 0] (V6.setCell ⟨w.heap.size, 2, none⟩ (.int .i64 rd)) from HJ.out)
  have c1 : (V6.setCell ⟨w.heap.size, 2, none⟩ (.int .i64 rd)).cell? ⟨w.heap.size, 3, none⟩ = some (.int .i64 0) := by rw [Lib.cell_of_heap HJ.out.box]; rfl
  have f1 : (V6.setCell ⟨w.heap.size, 2, none⟩ (.int .i64 rd)).frozen? ⟨w.heap.size, 3, none⟩ = false := Lib.frozen_of_heap HJ.out.box _
  replace HJ := hide (HJ.out.put 3 (.int .i64 rk) rfl)
  replace HJ := hide (show FJ w [] l6 [.int .i64 rw, .int .i64 rh, .int .i64 rd, .int .i64 rk, .int .i64 0, .slice none 0 0, .slice none 0 0, .int .i64 0, .int .i64 0, .int .i64 0, .int .i64 0, .int .i64 0, .int .i64 0, .slice none 0 0, .int .i64 0, .int .i64 0, .int .i64 0, .int .i64 0, .int .i64 0, .int .i64 0, .int .i64 0, .int .i64 0, .int .i64 0, .int .i64 0, .int .i64 0, .int .i64 0, .slice none 0 0, .int .i64 0] ((V6.setCell ⟨w.heap.size, 2, none⟩ (.int .i64 rd)).setCell ⟨w.heap.size, 3, none⟩ (.int .i64 rk)) from HJ.out)
  have c2 : ((V6.setCell ⟨w.heap.size, 2, none⟩ (.int .i64 rd)).setCell ⟨w.heap.size, 3, none⟩ (.int .i64 rk)).cell? ⟨w.heap.size, 4, none⟩ = some (.int .i64 0) := by rw [Lib.cell_of_heap HJ.out.box]; rfl
  have f2 : ((V6.setCell ⟨w.heap.size, 2, none⟩ (.int .i64 rd)).setCell ⟨w.heap.size, 3, none⟩ (.int .i64 rk)).frozen? ⟨w.heap.size, 4, none⟩ = false := Lib.frozen_of_heap HJ.out.box _
  replace HJ := hide (HJ.out.put 4 (.int .i64 rr) rfl)
  replace HJ := hide (show FJ w [] l6 [.int .i64 rw, .int .i64 rh, .int .i64 rd, .int .i64 rk, .int .i64 rr, .slice none 0 0, .slice none 0 0, .int .i64 0, .int .i64 0, .int .i64 0, .int .i64 0, .int .i64 0, .int .i64 0, .slice none 0 0, .int .i64 0, .int .i64 0, .int .i64 0, .int .i64 0, .int .i64 0, .int .i64 0, .int .i64 0, .int .i64 0, .int .i64 0, .int .i64 0, .int .i64 0, .int .i64 0, .slice none 0 0, .int .i64 0] (((V6.setCell ⟨w.heap.size, 2, none⟩ (.int .i64 rd)).setCell ⟨w.heap.size, 3, none⟩ (.int .i64 rk)).setCell ⟨w.heap.size, 4, none⟩ (.int .i64 rr)) from HJ.out)
  go_wp2_with fail
  clear c0 f0 c1 f1 c2 f2
  generalize (((V6.setCell ⟨w.heap.size, 2, none⟩ (.int .i64 rd)).setCell ⟨w.heap.size, 3, none⟩ (.int .i64 rk)).setCell ⟨w.heap.size, 4, none⟩ (.int .i64 rr)) = VC at *
  refine (rcount_any w.heap.size (w.heap.size + 2) 17 l6 VC (by omega) HJ.out.bel.size HJ.out.rd (by omega)).mono ?_
  rintro e V7 ⟨hS, hc⟩
  rcases hc with ⟨n, l7, hp, rfl, hR⟩ | ⟨hp, rfl⟩
  rotate_left
  · exact (fun q => file_door q.1 q.2.1 rfl q.2.2 rfl rfl (fun W hW => ⟨hW, .inr ⟨by rw [HP.out, kq6, list_no hp], rfl⟩⟩)) (HJ.out.pan hS)
  obtain ⟨N7, rfl, hN7, hlp, hlen⟩ := list_yes (p := numP) hp
  have HLP := hide hlp
  have hl7 : l7.length ≤ 140737488355328 := by omega
  replace HJ := hide (HJ.out.num hS hR)
  clear hp hS hR hlp hlen
  obtain ⟨i0, hi, hz0, hz1, hz2⟩ := info_parts Tryz.infoInt
  obtain ⟨ZA, hZA⟩ : ∃ ZA : Array Value, (List.replicate N7 (Value.int .i64 0)).toArray = ZA := ⟨_, rfl⟩
  have hmk : ∀ V : World, (Instr.makeSlice 22 (.int .i64 N7) (.int .i64 N7)).run Tryz.prog V = .ok (.slice (some ⟨V.heap.size, 0, none⟩) N7 N7) (V.alloc (.cells ZA 3)) := fun V => by
    have h := run_make (P := Tryz.prog) V 22 3 i0 (Value.int .i64 0) Tryz.underlying22 hi hz0 .i64 .i64 N7 N7 (by omega) (Int.le_refl _) (by rw [hz2]; omega) (by omega)
    rw [hz1, Int.toNat_natCast, Nat.mul_one] at h
    rw [← hZA, ← made_one]
    simpa [Value.cells] using h
  clear hi hz0 hz1 hz2
  have hxs7 : ∀ x ∈ ([] : List (Nat × TypeId × List Value)), x.1 ≠ V7.heap.size := fun x hx => by have := (HJ.out.ex x hx).lt; omega
  have ci : V7.cell? ⟨w.heap.size, 5, none⟩ = some (.slice none 0 0) := by rw [Lib.cell_of_heap HJ.out.box]; rfl
  have fi : V7.frozen? ⟨w.heap.size, 5, none⟩ = false := Lib.frozen_of_heap HJ.out.box _
  have hbl : w.heap.size < V7.heap.size := HJ.out.box.lt
  have ci' : (V7.alloc (.cells ZA 3)).cell? ⟨w.heap.size, 5, none⟩ = some (.slice none 0 0) := by rw [Lib.cell_of_heap (((bel_alloc V7 _).block _ HJ.out.box.lt).trans HJ.out.box)]; rfl
  have fi' : (V7.alloc (.cells ZA 3)).frozen? ⟨w.heap.size, 5, none⟩ = false := Lib.frozen_of_heap (((bel_alloc V7 _).block _ HJ.out.box.lt).trans HJ.out.box) _
  replace HJ := hide ((HJ.out.put 5 (.slice (some ⟨V7.heap.size, 0, none⟩) N7 N7) rfl).alloc (List.replicate N7 (Value.int .i64 0)) 3)
  rw [hZA, show (V7.setCell ⟨w.heap.size, 5, none⟩ (.slice (some ⟨V7.heap.size, 0, none⟩) N7 N7)).heap.size = V7.heap.size by simp [World.setCell]] at HJ
  clear hZA
  have hsep7 : w.heap.size + 2 < V7.heap.size := HJ.out.sep _ List.mem_cons_self
  go_upto_region 7 with fail
  clear ci fi ci' fi' hmk hbl
  generalize V7.heap.size = S7 at *
  generalize (V7.setCell ⟨w.heap.size, 5, none⟩ (.slice (some ⟨S7, 0, none⟩) N7 N7)).alloc (.cells ZA 3) = VD at *
  replace HJ := hide (show FJ w [(S7, 3, List.replicate N7 (Value.int .i64 0))] l7 [.int .i64 rw, .int .i64 rh, .int .i64 rd, .int .i64 rk, .int .i64 rr, .slice (some ⟨S7, 0, none⟩) N7 N7, .slice none 0 0, .int .i64 0, .int .i64 0, .int .i64 0, .int .i64 0, .int .i64 0, .int .i64 0, .slice none 0 0, .int .i64 0, .int .i64 0, .int .i64 0, .int .i64 0, .int .i64 0, .int .i64 0, .int .i64 0, .int .i64 0, .int .i64 0, .int .i64 0, .int .i64 0, .int .i64 0, .slice none 0 0, .int .i64 0] VD from HJ.out)
  have cj : VD.cell? ⟨w.heap.size, 5, none⟩ = some (.slice (some ⟨S7, 0, none⟩) N7 N7) := by rw [Lib.cell_of_heap HJ.out.box]; rfl
  go_wp2_with fail
  clear cj
  have hHL := HJ.out.ex (S7, 3, List.replicate N7 (Value.int .i64 0)) (by simp)
  refine (rfill_any w.heap.size (w.heap.size + 2) S7 0 N7 N7 3 (List.replicate N7 (Value.int .i64 0)) l7 VD (by omega) (by omega) (by omega) HJ.out.bel.size HJ.out.rd (by omega) hHL (by simp) (by omega) (fun i hi => ⟨0, by rw [Nat.zero_add, List.getElem?_replicate, if_pos hi]⟩)).mono ?_
  rintro e VE ⟨hS, hc⟩
  rcases hc with ⟨le, lE, hp, rfl, hR, hH⟩ | ⟨hp, rfl⟩
  rotate_left
  · exact (fun q => file_door q.1 q.2.1 rfl q.2.2 rfl rfl (fun W hW => ⟨hW, .inr ⟨by rw [HP.out, kq6, HLP.out, hp], rfl⟩⟩)) (HJ.out.pan2 hsep7 hS)
  have hnl := manyP_length hp
  have hlE : lE.length ≤ 140737488355328 := by have := many_len (fun _ _ _ => num_len) hp; omega
  replace HP := hide (show R = kq7 (fun _ => 64) (fun _ => 64) (fun _ => 16) rw rh rd rk rr le lE by rw [HP.out, kq6, HLP.out, hp])
  have hpe : patch (List.replicate N7 (Value.int .i64 0)) 0 (le.map (Value.int .i64)) = le.map (Value.int .i64) := by
    unfold patch
    rw [List.take_zero, List.nil_append, List.drop_of_length_le (by simp; omega), List.append_nil]
  rw [hpe] at hH
  replace HJ := hide (HJ.out.fillX (by simp) hS hR hH)
  clear hp hS hR hH HLP hHL hpe
  go_wp2_with fail
  refine (rcount_any w.heap.size (w.heap.size + 2) 64 lE VE (by omega) HJ.out.bel.size HJ.out.rd (by omega)).mono ?_
  rintro e V8 ⟨hS, hc⟩
  rcases hc with ⟨n, l8, hp, rfl, hR⟩ | ⟨hp, rfl⟩
  rotate_left
  · exact (fun q => file_door q.1 q.2.1 rfl q.2.2 rfl rfl (fun W hW => ⟨hW, .inr ⟨by rw [HP.out, kq7, list_no hp], rfl⟩⟩)) (HJ.out.pan hS)
  obtain ⟨N8, rfl, hN8, hlp, hlen⟩ := list_yes (p := textP) hp
  have HLP := hide hlp
  have hl8 : l8.length ≤ 140737488355328 := by omega
  replace HJ := hide (HJ.out.num hS hR)
  clear hp hS hR hlp hlen
  obtain ⟨i0, hi, hz0, hz1, hz2⟩ := info_parts Tryz.infoStrF
  obtain ⟨ZA, hZA⟩ : ∃ ZA : Array Value, (List.replicate N8 (Value.string ⟨#[]⟩)).toArray = ZA := ⟨_, rfl⟩
  have hmk : ∀ V : World, (Instr.makeSlice 23 (.int .i64 N8) (.int .i64 N8)).run Tryz.prog V = .ok (.slice (some ⟨V.heap.size, 0, none⟩) N8 N8) (V.alloc (.cells ZA 9)) := fun V => by
    have h := run_make (P := Tryz.prog) V 23 9 i0 (Value.string ⟨#[]⟩) Tryz.underlying23 hi hz0 .i64 .i64 N8 N8 (by omega) (Int.le_refl _) (by rw [hz2]; omega) (by omega)
    rw [hz1, Int.toNat_natCast, Nat.mul_one] at h
    rw [← hZA, ← made_one]
    simpa [Value.cells] using h
  clear hi hz0 hz1 hz2
  have hxs8 : ∀ x ∈ ([(S7, 3, le.map (Value.int .i64))] : List (Nat × TypeId × List Value)), x.1 ≠ V8.heap.size := fun x hx => by have := (HJ.out.ex x hx).lt; omega
  have ci : V8.cell? ⟨w.heap.size, 6, none⟩ = some (.slice none 0 0) := by rw [Lib.cell_of_heap HJ.out.box]; rfl
  have fi : V8.frozen? ⟨w.heap.size, 6, none⟩ = false := Lib.frozen_of_heap HJ.out.box _
  have hbl : w.heap.size < V8.heap.size := HJ.out.box.lt
  have ci' : (V8.alloc (.cells ZA 9)).cell? ⟨w.heap.size, 6, none⟩ = some (.slice none 0 0) := by rw [Lib.cell_of_heap (((bel_alloc V8 _).block _ HJ.out.box.lt).trans HJ.out.box)]; rfl
  have fi' : (V8.alloc (.cells ZA 9)).frozen? ⟨w.heap.size, 6, none⟩ = false := Lib.frozen_of_heap (((bel_alloc V8 _).block _ HJ.out.box.lt).trans HJ.out.box) _
  replace HJ := hide ((HJ.out.put 6 (.slice (some ⟨V8.heap.size, 0, none⟩) N8 N8) rfl).alloc (List.replicate N8 (Value.string ⟨#[]⟩)) 9)
  rw [hZA, show (V8.setCell ⟨w.heap.size, 6, none⟩ (.slice (some ⟨V8.heap.size, 0, none⟩) N8 N8)).heap.size = V8.heap.size by simp [World.setCell]] at HJ
  clear hZA
  have hsep8 : w.heap.size + 2 < V8.heap.size := HJ.out.sep _ List.mem_cons_self
  go_upto_region 9 with fail
  clear ci fi ci' fi' hmk hbl
  generalize V8.heap.size = S8 at *
  generalize (V8.setCell ⟨w.heap.size, 6, none⟩ (.slice (some ⟨S8, 0, none⟩) N8 N8)).alloc (.cells ZA 9) = VF at *
  replace HJ := hide (show FJ w [(S8, 9, [].map strV ++ List.replicate (N8 - 0) (Value.string ⟨#[]⟩)), (S7, 3, le.map (Value.int .i64))] l8 [.int .i64 rw, .int .i64 rh, .int .i64 rd, .int .i64 rk, .int .i64 rr, .slice (some ⟨S7, 0, none⟩) N7 N7, .slice (some ⟨S8, 0, none⟩) N8 N8, .int .i64 0, .int .i64 0, .int .i64 0, .int .i64 0, .int .i64 0, .int .i64 0, .slice none 0 0, .int .i64 0, .int .i64 0, .int .i64 0, .int .i64 0, .int .i64 0, .int .i64 0, .int .i64 0, .int .i64 0, .int .i64 0, .int .i64 0, .int .i64 0, .int .i64 0, .slice none 0 0, .int .i64 0] VF from HJ.out)
  have cj : VF.cell? ⟨w.heap.size, 6, none⟩ = some (.slice (some ⟨S8, 0, none⟩) N8 N8) := by rw [Lib.cell_of_heap HJ.out.box]; rfl
  go_wp2_with fail
  clear cj
  go_loopw [34] (fun i wr => ∃ k : Nat, k ≤ N8 ∧ i = .int .i64 k ∧ ∃ ns u, manyP textP k l8 = some (ns, u) ∧ FJ w [(S8, 9, ns.map strV ++ List.replicate (N8 - k) (Value.string ⟨#[]⟩)), (S7, 3, le.map (Value.int .i64))] u [.int .i64 rw, .int .i64 rh, .int .i64 rd, .int .i64 rk, .int .i64 rr, .slice (some ⟨S7, 0, none⟩) N7 N7, .slice (some ⟨S8, 0, none⟩) N8 N8, .int .i64 0, .int .i64 0, .int .i64 0, .int .i64 0, .int .i64 0, .int .i64 0, .slice none 0 0, .int .i64 0, .int .i64 0, .int .i64 0, .int .i64 0, .int .i64 0, .int .i64 0, .int .i64 0, .int .i64 0, .int .i64 0, .int .i64 0, .int .i64 0, .int .i64 0, .slice none 0 0, .int .i64 0] wr) (fun i _ => N8 - (intOf i).toNat)
  case atStart => exact ⟨0, Nat.zero_le _, rfl, [], l8, rfl, HJ.out⟩
  case round =>
    clear HJ
    obtain ⟨k, hk, rfl, ns, u, hm, hJ⟩ := hrel
    have HJ := hide hJ
    clear hJ
    have hnl2 := manyP_length hm
    have hul := many_len (fun _ _ _ => text_len) hm
    by_cases hlt : k < N8
    · have hd : decide ((k : Int) < (N8 : Int)) = true := by simp; omega
      have HM := hide hm
      have HSQ := hide (fun (v : World) (cs' : List UInt8) (hv : FJ w [(S8, 9, ns.map strV ++ List.replicate (N8 - k) (Value.string ⟨#[]⟩)), (S7, 3, le.map (Value.int .i64))] cs' [.int .i64 rw, .int .i64 rh, .int .i64 rd, .int .i64 rk, .int .i64 rr, .slice (some ⟨S7, 0, none⟩) N7 N7, .slice (some ⟨S8, 0, none⟩) N8 N8, .int .i64 0, .int .i64 0, .int .i64 0, .int .i64 0, .int .i64 0, .int .i64 0, .slice none 0 0, .int .i64 0, .int .i64 0, .int .i64 0, .int .i64 0, .int .i64 0, .int .i64 0, .int .i64 0, .int .i64 0, .int .i64 0, .int .i64 0, .int .i64 0, .int .i64 0, .slice none 0 0, .int .i64 0] v) => show v.cell? ⟨w.heap.size, 6, none⟩ = some (.slice (some ⟨S8, 0, none⟩) N8 N8) ∧ True from ⟨by rw [Lib.cell_of_heap hv.box]; rfl, trivial⟩)
      clear hm
      go_upto_region 12 with fail
      have HJd := hide HJ.out.drew
      have hSd := HSQ.out _ _ HJd.out
      have hmx : Tryz.prog.follows .mixedOrders = true := by kernel_rfl
      refine wp_region_last (S := (fun v : World => v.cell? ⟨w.heap.size, 6, none⟩ = some (.slice (some ⟨S8, 0, none⟩) N8 N8) ∧ True)) (f := 6) hmx ?_
      show wpAnyF _ _ _ _ _ _ 7 _ _ wr.drew
      refine wpAnyF_takeP (i := 0) (oi := _) (v := ?vv1) (some 37) [] rfl rfl (by kernel_rfl) (by kernel_rfl) (by kernel_rfl) (by kernel_rfl) (by kernel_rfl) (fun _ _ _ h => file_put (d := 37) (by decide) h) (Or.inl ⟨by rfl, ?yy1⟩) hSd ?rr1
      case yy1 => (intro wq hSq; obtain ⟨_, _⟩ := hSq; go_simp <;> with_reducible rfl)
      simp only [Act.put, List.setIfInBounds_toArray, List.set_cons_succ, List.set_cons_zero]
      refine wpAnyF_takeP (i := 2) (oi := _) (v := ?vv2) (some 39) [] rfl rfl (by kernel_rfl) (by kernel_rfl) (by kernel_rfl) (by kernel_rfl) (by kernel_rfl) (fun _ _ _ h => file_put (d := 39) (by decide) h) (Or.inl ⟨by rfl, ?yy2⟩) hSd ?rr2
      case yy2 => (intro wq hSq; obtain ⟨_, _⟩ := hSq; go_simp <;> with_reducible rfl)
      simp only [Act.put, List.setIfInBounds_toArray, List.set_cons_succ, List.set_cons_zero]
      refine wpAnyF_takeP (i := 1) (oi := _) (v := ?vv3) (some 38) [] rfl rfl (by kernel_rfl) (by kernel_rfl) (by kernel_rfl) (by kernel_rfl) (by kernel_rfl) (fun _ _ _ h => file_put (d := 38) (by decide) h) (Or.inl ⟨by rfl, ?yy3⟩) hSd ?rr3
      case yy3 => (intro wq hSq; obtain ⟨_, _⟩ := hSq; go_simp <;> with_reducible rfl)
      simp only [Act.put, List.setIfInBounds_toArray, List.set_cons_succ, List.set_cons_zero]
      refine wpAnyF_one (i := 3) (o := _) (by kernel_rfl) rfl (fun K' hK => ?_)
      rw [if_pos (by rfl)]
      go_simp
      refine (rtext_any w.heap.size (w.heap.size + 2) u wr.drew (by omega) HJd.out.bel.size HJd.out.rd (by omega)).mono ?_
      rintro e X1 ⟨hS, hc⟩
      rcases hc with ⟨tx, u1, hp, rfl, hR⟩ | ⟨hp, rfl⟩
      rotate_left
      · exact (fun q => file_door q.1 q.2.1 rfl q.2.2 rfl rfl (fun W hW => ⟨hW, .inr ⟨by rw [HP.out, kq7, HLP.out, manyP_stop HM.out hp hlt], rfl⟩⟩)) (HJd.out.pan hS)
      have HP1 := hide hp
      have hu1 := text_len hp
      have htx := textS_len hp
      have HJ1 := hide (HJd.out.num hS hR)
      clear hp hS hR
      have hSd := HSQ.out _ _ HJ1.out
      refine hK.out _ _ hSd ?_
      clear hK
      try simp only [Act.put]
      refine wpAnyF_one (i := 4) (o := _) (by kernel_rfl) rfl (fun K' hK => ?_)
      rw [if_pos (by rfl)]
      go_simp
      refine (sclone_any tx X1 (by omega)).mono ?_
      rintro e X2 ⟨rfl, hb2⟩
      have HJ2 := hide (HJ1.out.bel2 hb2)
      clear hb2
      have hcl : (ns.map strV ++ List.replicate (N8 - k) (Value.string ⟨#[]⟩)).length = N8 := by rw [List.length_append, List.length_map, List.length_replicate, hnl2]; omega
      have hH := HJ2.out.ex (S8, 9, ns.map strV ++ List.replicate (N8 - k) (Value.string ⟨#[]⟩)) (by simp)
      obtain ⟨z0, c0⟩ : ∃ z, X2.cell? ⟨S8, k, none⟩ = some z := ⟨_, by rw [Lib.cell_of_heap hH, List.getElem?_toArray]; exact List.getElem?_eq_getElem (by rw [hcl]; omega)⟩
      have f0 : X2.frozen? ⟨S8, k, none⟩ = false := Lib.frozen_of_heap hH _
      obtain ⟨hH3, hS3⟩ := hH.set (B := w.heap.size) (b := w.heap.size + 2) (by omega) k (.string (str tx)) rfl
      have HJ3 := hide (HJ2.out.fillX hxs8 hS3 ((Below.heap_setCell _ _ _ _ (show w.heap.size + 2 ≠ S8 by omega)).trans HJ2.out.rd) hH3)
      clear hcl hH hH3 hS3
      have hSd := HSQ.out _ _ HJ2.out
      refine hK.out _ _ hSd ?_
      clear hK
      try simp only [Act.put]
      refine wpAnyF_takeP (i := 5) (oi := _) (v := ?vv4) (some 42) [] rfl rfl (by kernel_rfl) (by kernel_rfl) (by kernel_rfl) (by kernel_rfl) (by kernel_rfl) (fun _ _ _ h => file_put (d := 42) (by decide) h) (Or.inl ⟨by rfl, ?yy4⟩) hSd ?rr4
      case yy4 => (intro wq hSq; obtain ⟨_, _⟩ := hSq; go_simp <;> with_reducible rfl)
      simp only [Act.put, List.setIfInBounds_toArray, List.set_cons_succ, List.set_cons_zero]
      refine wpAnyF_last (o := _) (by kernel_rfl) rfl (fun K' hK => ?_)
      rw [if_pos (by rfl)]
      go_simp
      refine hK.out _ _ ?_
      clear hK
      refine wpAnyF_done (by kernel_rfl) ?_ _
      try simp only [Act.put]
      have HJ4 := hide (show FJ w [(S8, 9, (ns ++ [tx]).map strV ++ List.replicate (N8 - (k + 1)) (Value.string ⟨#[]⟩)), (S7, 3, le.map (Value.int .i64))] u1 [.int .i64 rw, .int .i64 rh, .int .i64 rd, .int .i64 rk, .int .i64 rr, .slice (some ⟨S7, 0, none⟩) N7 N7, .slice (some ⟨S8, 0, none⟩) N8 N8, .int .i64 0, .int .i64 0, .int .i64 0, .int .i64 0, .int .i64 0, .int .i64 0, .slice none 0 0, .int .i64 0, .int .i64 0, .int .i64 0, .int .i64 0, .int .i64 0, .int .i64 0, .int .i64 0, .int .i64 0, .int .i64 0, .int .i64 0, .int .i64 0, .int .i64 0, .slice none 0 0, .int .i64 0] _ from by
        have h := HJ3.out
        rw [show N8 - k = N8 - (k + 1) + 1 by omega, ← hnl2, strs_room, hnl2] at h
        exact h)
      have HM2 := hide (manyP_next HM.out HP1.out)
      clear HJ3 HJ2 HJ1 HJd HJ hSd c0 f0 HSQ
      go_wp2
      go_roundw
      case rel => exact ⟨k + 1, hlt, by go_num, _, _, HM2.out, HJ4.out⟩
      case measure => simp [intOf]; omega
    · have hd : decide ((k : Int) < (N8 : Int)) = false := by simp; omega
      obtain rfl : N8 = k := by omega
      replace HP := hide (show R = kq8 (fun _ => 64) (fun _ => 16) rw rh rd rk rr le ns u by rw [HP.out, kq7, HLP.out, hm])
      replace HJ := hide (show FJ w [(S8, 9, ns.map strV), (S7, 3, le.map (Value.int .i64))] u [.int .i64 rw, .int .i64 rh, .int .i64 rd, .int .i64 rk, .int .i64 rr, .slice (some ⟨S7, 0, none⟩) N7 N7, .slice (some ⟨S8, 0, none⟩) N8 N8, .int .i64 0, .int .i64 0, .int .i64 0, .int .i64 0, .int .i64 0, .int .i64 0, .slice none 0 0, .int .i64 0, .int .i64 0, .int .i64 0, .int .i64 0, .int .i64 0, .int .i64 0, .int .i64 0, .int .i64 0, .int .i64 0, .int .i64 0, .int .i64 0, .int .i64 0, .slice none 0 0, .int .i64 0] wr by have h := HJ.out; rwa [Nat.sub_self, List.replicate_zero, List.append_nil] at h)
      clear hm HLP
      go_wp2_with fail
      refine (rplan_any w.heap.size (w.heap.size + 2) u wr (by omega) HJ.out.rd (by omega)).mono ?_
      rintro e VG ⟨hS, hc⟩
      rcases hc with ⟨n, sv, cv, lG, hp, rfl, hR, hIP, hfs, hfc⟩ | ⟨hp, rfl⟩
      rotate_left
      · exact (fun q => file_door q.1 q.2.1 rfl q.2.2 rfl rfl (fun W hW => ⟨hW, .inr ⟨by rw [HP.out, kq8, hp], rfl⟩⟩)) (HJ.out.pan hS)
      have hwz : w.heap.size + 2 < wr.heap.size := (Array.getElem?_eq_some_iff.1 HJ.out.rd).1
      replace HP := hide (show R = kq9 rw rh rd rk rr le ns n lG by rw [HP.out, kq8, hp])
      replace HJ := hide (HJ.out.num hS hR)
      obtain ⟨CA, hCA⟩ : ∃ CA : List Value, CA = [.int .i64 rw, .int .i64 rh, .int .i64 rd, .int .i64 rk, .int .i64 rr, .slice (some ⟨S7, 0, none⟩) N7 N7, .slice (some ⟨S8, 0, none⟩) N8 N8, .int .i64 0, .int .i64 0, .int .i64 0, .int .i64 0, .int .i64 0, .int .i64 0, .slice none 0 0, .int .i64 0, .int .i64 0, .int .i64 0, .int .i64 0, .int .i64 0, .int .i64 0, .int .i64 0, .int .i64 0, .int .i64 0, .int .i64 0, .int .i64 0, .int .i64 0, .slice none 0 0, .int .i64 0] := ⟨_, rfl⟩
      rw [← hCA] at HJ
      have hbx := HJ.out.box
      have hca : 7 + (planA n sv cv).size = CA.toArray.size := by rw [hCA]; rfl
      have hct : (CA.toArray.toList.take 7 ++ (planA n sv cv).toList).toArray = rawA (⟨rw, rh, rd, rk, rr, le, ns, n⟩ : RawF) (.slice (some ⟨S7, 0, none⟩) N7 N7) (.slice (some ⟨S8, 0, none⟩) N8 N8) sv cv := by rw [hCA]; rfl
      obtain ⟨so, sc, hsv, _, _⟩ := hIP.spots
      obtain ⟨co, cc, hcv, _, _⟩ := hIP.curve
      have hpa : (planA n sv cv).all (·.oneCell') = true := by rw [hsv, hcv]; simp [Value.oneCell']
      have hpi : (Tryz.prog.info? 30).map (·.size) = some (planA n sv cv).size := by kernel_rfl
      have HRO := hide (show (rawA (⟨rw, rh, rd, rk, rr, le, ns, n⟩ : RawF) (.slice (some ⟨S7, 0, none⟩) N7 N7) (.slice (some ⟨S8, 0, none⟩) N8 N8) sv cv).all (·.oneCell') = true by rw [hsv, hcv]; simp [Value.oneCell'])
      have HIP := hide hIP
      clear hp hS hR hCA hIP hsv hcv
      go_upto_region 15 with (refine wpList_store_at rfl 30 _ _ rfl w.heap.size 7 (planA n sv cv) rfl rfl _ _ hbx hpi hca hpa ?_)
      rw [hct]
      replace HJ := hide (HJ.out.plan (cs' := (rawA (⟨rw, rh, rd, rk, rr, le, ns, n⟩ : RawF) (.slice (some ⟨S7, 0, none⟩) N7 N7) (.slice (some ⟨S8, 0, none⟩) N8 N8) sv cv).toList))
      rw [Array.toArray_toList] at HJ
      obtain ⟨RA, hRA⟩ : ∃ RA, RA = rawA (⟨rw, rh, rd, rk, rr, le, ns, n⟩ : RawF) (.slice (some ⟨S7, 0, none⟩) N7 N7) (.slice (some ⟨S8, 0, none⟩) N8 N8) sv cv := ⟨_, rfl⟩
      rw [← hRA] at HJ ⊢
      have HRA := hide hRA
      clear hRA
      replace HIP := hide (show IsPlan (VG.setRow w.heap.size RA) n sv cv from ⟨HIP.out.spots.other (k := w.heap.size) (by simp) (fun b hb => setRow_other _ _ _ _ hb) (hfs.ne (by omega)), HIP.out.curve.other (k := w.heap.size) (by simp) (fun b hb => setRow_other _ _ _ _ hb) (hfc.ne (by omega))⟩)
      clear hct hbx hca hpa hpi
      generalize VG.setRow w.heap.size RA = VH at *
      have crd : VH.cell? ⟨w.heap.size + 2, 0, none⟩ = some (.string (str lG)) := by rw [Lib.cell_of_heap HJ.out.rd]; rfl
      by_cases hlg : lG = []
      rotate_left
      · replace HP := hide (show R = none by rw [HP.out, kq9, if_neg hlg])
        have hq : ((str lG).toList == []) = false := by rw [Lib.toList_data, str_data]; exact beq_false_of_ne hlg
        have hq2 : (str lG).toList.isEmpty = false := by rw [Lib.toList_data, str_data]; simpa using hlg
        go_wp2_with fail
        refine (must_no _).mono ?_
        rintro e V' ⟨rfl, rfl⟩
        exact file_door HJ.out.bel HJ.out.box (by rw [HRA.out]; rfl) HJ.out.okb rfl rfl (fun W hW => ⟨hW, .inr ⟨HP.out, rfl⟩⟩)
      replace HP := hide (show R = some ⟨rw, rh, rd, rk, rr, le, ns, n⟩ by rw [HP.out, kq9, if_pos hlg])
      subst hlg
      have hq2 : (str []).toList.isEmpty = true := by rw [Lib.toList_data, str_data]; rfl
      go_wp2_with fail
      refine (must_yes _).mono ?_
      rintro e VI ⟨rfl, rfl⟩
      clear crd hq2
      subst hnl hnl2
      have hbx : VI.heap[w.heap.size]? = some (.cells RA 32 (0, 0)) := by have := HJ.out.box; unfold Holds at this; rwa [Array.toArray_toList] at this
      have hsz : (Tryz.prog.info? 32).map (·.size) = some RA.size := by rw [HRA.out]; kernel_rfl
      have hro : RA.all (·.oneCell') = true := by rw [HRA.out]; exact HRO.out
      have hx6 := HJ.out.ex (S7, 3, le.map (Value.int .i64)) (by simp)
      have hx7 := HJ.out.ex (S8, 9, ns.map strV) (by simp)
      have hs6 := HJ.out.sep (S7, 3, le.map (Value.int .i64)) (by simp)
      have hs7 := HJ.out.sep (S8, 9, ns.map strV) (by simp)
      simp only at hx6 hx7 hs6 hs7
      have hk0 : (VI.setRow w.heap.size RA).heap[w.heap.size + 1]? = some (.cells #[.bool false] 4 (0, 0)) := (setRow_other _ _ _ _ (by omega)).trans HJ.out.okb
      have ck : (VI.setRow w.heap.size RA).cell? ⟨w.heap.size + 1, 0, none⟩ = some (.bool false) := by rw [Lib.cell_of_heap hk0]; rfl
      have fk : (VI.setRow w.heap.size RA).frozen? ⟨w.heap.size + 1, 0, none⟩ = false := Lib.frozen_of_heap hk0 0
      have HKK := hide (show ((VI.setRow w.heap.size RA).setCell ⟨w.heap.size + 1, 0, none⟩ (.bool true)).heap[w.heap.size + 1]? = some (.cells #[.bool true] 4 (0, 0)) by simp [World.setCell, Array.getElem?_modify, hk0])
      have HRR := hide (show ((VI.setRow w.heap.size RA).setCell ⟨w.heap.size + 1, 0, none⟩ (.bool true)).heap[w.heap.size]? = some (.cells RA 32 (0, 0)) from (Below.heap_setCell _ _ _ _ (show w.heap.size ≠ w.heap.size + 1 by omega)).trans (setRow_heap _ _ _ _ _ _ hbx))
      have HK := hide (show ∀ k, k ≠ w.heap.size → k ≠ w.heap.size + 1 → ((VI.setRow w.heap.size RA).setCell ⟨w.heap.size + 1, 0, none⟩ (.bool true)).heap[k]? = VI.heap[k]? from fun k h1 h2 => (Below.heap_setCell _ _ _ _ (fun e => h2 e)).trans (setRow_other _ _ _ _ h1))
      have HBF := hide (show Below w.heap.size w ((VI.setRow w.heap.size RA).setCell ⟨w.heap.size + 1, 0, none⟩ (.bool true)) from (below_setRow HJ.out.bel (Nat.le_refl _) _).setCell (p := ⟨w.heap.size + 1, 0, none⟩) (Nat.le_succ _) _)
      have HSS := hide (show VI.heap.size ≤ ((VI.setRow w.heap.size RA).setCell ⟨w.heap.size + 1, 0, none⟩ (.bool true)).heap.size by simp [World.setCell])
      have HI6 := hide (ints_holds (V := (VI.setRow w.heap.size RA).setCell ⟨w.heap.size + 1, 0, none⟩ (.bool true)) (g := S7) (t := 3) (xs := le) ((HK.out S7 (by omega) (by omega)).trans hx6) (by omega))
      have HI7 := hide (strs_holds (V := (VI.setRow w.heap.size RA).setCell ⟨w.heap.size + 1, 0, none⟩ (.bool true)) (g := S8) (t := 9) (ts := ns) ((HK.out S8 (by omega) (by omega)).trans hx7) (by omega))
      have HIF := hide (show IsPlan ((VI.setRow w.heap.size RA).setCell ⟨w.heap.size + 1, 0, none⟩ (.bool true)) n sv cv from
        ⟨(HIP.out.spots.other (k := w.heap.size) (w' := VI.setRow w.heap.size RA) (by simp) (fun b hb => setRow_other _ _ _ _ hb) (hfs.ne (by omega))).other (k := w.heap.size + 1) (by simp [World.setCell]) (fun b hb => Below.heap_setCell _ _ _ _ (fun e => hb e)) (hfs.ne (by omega)),
         (HIP.out.curve.other (k := w.heap.size) (w' := VI.setRow w.heap.size RA) (by simp) (fun b hb => setRow_other _ _ _ _ hb) (hfc.ne (by omega))).other (k := w.heap.size + 1) (by simp [World.setCell]) (fun b hb => Below.heap_setCell _ _ _ _ (fun e => hb e)) (hfc.ne (by omega))⟩)
      have HFS := hide (hfs.mono (show w.heap.size ≤ wr.heap.size by omega))
      have HFC := hide (hfc.mono (show w.heap.size ≤ wr.heap.size by omega))
      clear hk0 hx6 hx7 HIP HJ hfs hfc HRO
      go_wp2_with (first | refine wpList_load_row rfl 32 _ rfl _ rfl _ _ _ _ hbx Tryz.underlying32 rfl hsz ?_ | refine wpList_store_row rfl 32 _ _ rfl w.heap.size RA rfl rfl _ _ hbx hsz rfl hro ?_)
      refine file_ok HRR.out hsz HKK.out rfl rfl ⟨HBF.out, .inl ⟨_, _, _, _, _, HP.out, by rw [HRA.out], ⟨HI6.out, HI7.out, HIF.out⟩, ⟨fun b e => ?_, Nat.le_refl _⟩, ⟨fun b e => ?_, Nat.le_refl _⟩, HFS.out, HFC.out⟩⟩
      · simp [Value.ownBlock] at e; omega
      · simp [Value.ownBlock] at e; omega
end Go.Proofs.YtanebhbfekcplaaGreat

namespace Go.Proofs.YtanebhbfekcplaaGreat
set_option linter.unusedVariables false
open Go.RowKit
theorem ix3 {l : List Int} (h : l.length = 3) : [ix l 0, ix l 1, ix l 2] = l := by
  match l, h with
  | [a, b, c], _ => rfl
theorem ix4 {l : List Int} (h : l.length = 4) : [ix l 0, ix l 1, ix l 2, ix l 3] = l := by
  match l, h with
  | [a, b, c, d], _ => rfl
theorem ix9 {l : List Int} (h : l.length = 9) : [ix l 0, ix l 1, ix l 2, ix l 3, ix l 4, ix l 5, ix l 6, ix l 7, ix l 8] = l := by
  match l, h with
  | [a, b, c, d, e, f, g, h, i], _ => rfl
theorem planP_sound {b3 b4 : List UInt8 → Nat} {l t : List UInt8} {n : Plan} (h : planP b3 b4 l = some (n, t)) : l = planW n ++ t := by
  rw [planP] at h; split at h; · cases h
  rename_i h1
  rw [pq2] at h; split at h; · cases h
  rename_i h2
  rw [pq3] at h; split at h; · cases h
  rename_i h3
  rw [pq4] at h; split at h; · cases h
  rename_i h4
  rw [pq5] at h; split at h; · cases h
  rename_i h5
  rw [pq6] at h; split at h; · cases h
  rename_i h6
  rw [pq7] at h; split at h; · cases h
  rename_i h7
  rw [pq8] at h; split at h; · cases h
  rename_i h8
  cases h
  have e2 := ix4 (manyP_length h2)
  have e5 := ix3 (manyP_length h5)
  have e6 := ix9 (manyP_length h6)
  rw [(numCod.sound _ _ _ h1).1, ((manyCod numCod 4).sound _ _ _ h2).1, (numCod.sound _ _ _ h3).1, (listP_sound pairCod h4).1, ((manyCod numCod 3).sound _ _ _ h5).1, ((manyCod numCod 9).sound _ _ _ h6).1, (listP_sound pairCod h7).1, (numCod.sound _ _ _ h8).1]
  simp only [planW, blackL, gainsL, matL, e2, e5, e6, List.append_assoc]
theorem rawP_sound {b1 b2 b3 b4 : List UInt8 → Nat} {s : List UInt8} {r : RawF} (h : rawP b1 b2 b3 b4 s = some r) : s = rawW r := by
  rw [rawP] at h; split at h; · cases h
  rename_i h0
  split at h
  · rename_i hm
    rw [kq1] at h; split at h; · cases h
    rename_i h1
    rw [kq2] at h; split at h; · cases h
    rename_i h2
    rw [kq3] at h; split at h; · cases h
    rename_i h3
    rw [kq4] at h; split at h; · cases h
    rename_i h4
    rw [kq5] at h; split at h; · cases h
    rename_i h5
    rw [kq6] at h; split at h; · cases h
    rename_i h6
    rw [kq7] at h; split at h; · cases h
    rename_i h7
    rw [kq8] at h; split at h; · cases h
    rename_i h8
    rw [kq9] at h
    split at h
    · rename_i h9
      cases h
      rw [(textCod.sound _ _ _ h0).1, hm, (numCod.sound _ _ _ h1).1, (numCod.sound _ _ _ h2).1, (numCod.sound _ _ _ h3).1, (numCod.sound _ _ _ h4).1, (numCod.sound _ _ _ h5).1, (listP_sound numCod h6).1, (listP_sound textCod h7).1, planP_sound h8, h9]
      simp [rawW, headL, List.append_assoc]
    · cases h
  · cases h
end Go.Proofs.YtanebhbfekcplaaGreat

namespace Go.Proofs.YtanebhbfekcplaaGreat
set_option linter.unusedVariables false
open Go.RowKit
def parN (r : RawF) (k : Nat) : Nat := k * r.rows.toNat * r.w.toNat
def parL (r : RawF) (zs : List Int) (k : Nat) : List Int := (zs.drop (parN r k)).take (rowN r k * r.w).toNat
def fiOk (r : RawF) (zs : List Int) (k : Nat) : Bool := (List.range k).all fun i => decide (wsE r (parL r zs i) (rowN r i) = 0)
def fiS (r : RawF) (zs : List Int) (k : Nat) : List (List UInt8) := (List.range k).map fun i => wsS r (parL r zs i) (rowN r i)
theorem fiOk_succ (r : RawF) (zs : List Int) (k : Nat) : fiOk r zs (k + 1) = (fiOk r zs k && decide (wsE r (parL r zs k) (rowN r k) = 0)) := by simp [fiOk, List.range_succ]
theorem fiS_succ (r : RawF) (zs : List Int) (k : Nat) : fiS r zs (k + 1) = fiS r zs k ++ [wsS r (parL r zs k) (rowN r k)] := by simp [fiS, List.range_succ]
theorem fiOk_false {r : RawF} {zs : List Int} {k n : Nat} (h : k < n) (hk : wsE r (parL r zs k) (rowN r k) ≠ 0) : fiOk r zs n = false := by
  rw [Bool.eq_false_iff]; intro he
  have := List.all_eq_true.1 he k (List.mem_range.2 h)
  exact hk (by simpa using this)
def fitP (r : RawF) (PW PH : Int) (zs : List Int) : Bool := planeOk PW PH zs && decide (PW = r.w) && decide (PH = r.h) && deepOk r.depth zs
def fillFE (r : RawF) (PW PH : Int) (zs : List Int) : Int := if headE r = 0 then (if pErr r = 0 then (if fitP r PW PH zs = true then (if fiOk r zs (cntN r) = true then 0 else 4) else 1) else pErr r) else headE r
def fillFR (r : RawF) (zs : List Int) : RawF := { r with strips := fiS r zs (cntN r) }
theorem parN_int {r : RawF} (h : Head r) (k : Nat) : (parN r k : Int) = k * r.rows * r.w := by
  have h1 := h.rows
  have h2 := h.w
  unfold parN
  rw [Int.natCast_mul, Int.natCast_mul, Int.toNat_of_nonneg (by omega), Int.toNat_of_nonneg (by omega)]
theorem par_le {r : RawF} (h : Head r) {k : Nat} (hk : k < cntN r) : (parN r k : Int) + rowN r k * r.w ≤ r.h * r.w := by
  have h2 := h.w
  rw [parN_int h, ← Int.add_mul]
  exact Int.mul_le_mul_of_nonneg_right (by unfold rowN; omega) (by omega)
theorem row_full {r : RawF} (h : Head r) {k : Nat} (hk : k + 1 < cntN r) : rowN r k = r.rows := by
  have h1 := (h.cnt_pos (k + 1)).1 hk
  have e : ((k + 1 : Nat) : Int) * r.rows = k * r.rows + r.rows := by rw [Int.natCast_add, Int.add_mul]; simp
  unfold rowN
  omega
theorem par_next {r : RawF} (h : Head r) {k : Nat} (hk : k + 1 < cntN r) : (parN r (k + 1) : Int) = parN r k + rowN r k * r.w := by
  rw [parN_int h, parN_int h, row_full h hk, ← Int.add_mul, Int.natCast_add, Int.add_mul]
  simp
theorem parL_length {r : RawF} (h : Head r) {k : Nat} (hk : k < cntN r) {zs : List Int} (hz : (zs.length : Int) = r.w * r.h) : ((parL r zs k).length : Int) = rowN r k * r.w := by
  have h1 := par_le h hk
  have h2 := h.size hk
  rw [Int.mul_comm r.w] at hz
  unfold parL
  rw [List.length_take, List.length_drop]
  omega
theorem mem_parL {r : RawF} {zs : List Int} {k : Nat} {z : Int} (h : z ∈ parL r zs k) : z ∈ zs := List.mem_of_mem_drop (List.mem_of_mem_take h)
theorem ws_err {r : RawF} (h : Head r) {k : Nat} (hk : k < cntN r) {PW PH : Int} {zs : List Int} (hf : fitP r PW PH zs = true) : wsE r (parL r zs k) (rowN r k) = 0 ∨ wsE r (parL r zs k) (rowN r k) = 4 := by
  simp only [fitP, Bool.and_eq_true, decide_eq_true_eq] at hf
  obtain ⟨⟨⟨hp, rfl⟩, rfl⟩, hd⟩ := hf
  simp only [planeOk, Bool.and_eq_true, decide_eq_true_eq] at hp
  have hl := parL_length h hk hp.1.2
  obtain ⟨s1, s2⟩ := h.size hk
  obtain ⟨r1, r2⟩ := h.row hk
  have hw := h.w
  have hdp := h.depth
  unfold wsE
  by_cases hz : r.kind = 0
  · rw [if_pos hz, packE, if_pos (by rw [isDepthB, decide_eq_true_eq]; exact hdp), if_pos (by omega), if_pos]
    · exact .inl rfl
    · refine List.all_eq_true.2 fun z hm => ?_
      have := List.all_eq_true.1 hd z (mem_parL hm)
      simp only [decide_eq_true_eq] at this
      simp only [numOk, decide_eq_true_eq]
      omega
  · rw [if_neg hz, writeDE, if_pos, if_pos (by have := h.kind; rw [kindOk, decide_eq_true_eq]; omega), if_pos (h.code hz)]
    · split
      · exact .inl rfl
      · exact .inr rfl
    · simp only [planeOk, Bool.and_eq_true, decide_eq_true_eq, sideOk]
      refine ⟨⟨⟨hw, r1, r2⟩, by rw [hl, Int.mul_comm]⟩, List.all_eq_true.2 fun z hm => List.all_eq_true.1 hp.2 z (mem_parL hm)⟩
end Go.Proofs.YtanebhbfekcplaaGreat

namespace Go.Proofs.YtanebhbfekcplaaGreat
set_option linter.unusedVariables false
open Go.RowKit
def rawRd (s : List UInt8) : Option RawF := match rawP (fun _ => 17) (fun _ => 64) (fun _ => 64) (fun _ => 16) s with
  | none => none
  | some r => if planeE r = 0 then some r else none
theorem IsStrs.other {w w' : World} {v : Value} {ts : List (List UInt8)} {k : Nat} (h : IsStrs w v ts) (hs : w.heap.size ≤ w'.heap.size) (hk : ∀ b, b ≠ k → w'.heap[b]? = w.heap[b]?) (hne : v.ownBlock ≠ some k) : IsStrs w' v ts := by
  obtain ⟨ao, cap, rfl, hl, h⟩ := h
  refine ⟨ao, cap, rfl, hl, ?_⟩
  rcases h with h | ⟨b, off, rfl, hlt, hc⟩
  · exact .inl h
  · have hb : b ≠ k := fun e => hne (by rw [e]; rfl)
    refine .inr ⟨b, off, rfl, Nat.lt_of_lt_of_le hlt hs, fun j hj => ?_⟩
    rw [World.cell?_of_block (a := ⟨b, off + j, none⟩) (hk b hb)]
    exact hc j hj
theorem IsRaw.other {w w' : World} {r : RawF} {lv tv sv cv : Value} {B k : Nat} (h : IsRaw w r lv tv sv cv) (hs : w.heap.size ≤ w'.heap.size) (hk : ∀ b, b ≠ k → w'.heap[b]? = w.heap[b]?) (hB : k < B) (f1 : Fresh B lv) (f2 : Fresh B tv) (f3 : Fresh B sv) (f4 : Fresh B cv) : IsRaw w' r lv tv sv cv :=
  ⟨h.lens.other hs hk (f1.ne hB), h.strips.other hs hk (f2.ne hB), h.plan.spots.other hs hk (f3.ne hB), h.plan.curve.other hs hk (f4.ne hB)⟩
theorem raw_one {w : World} {r : RawF} {lv tv sv cv : Value} (h : IsRaw w r lv tv sv cv) : (rawA r lv tv sv cv).all (·.oneCell') = true := by
  obtain ⟨_, _, e1, _⟩ := h.lens
  obtain ⟨_, _, e2, _⟩ := h.strips
  obtain ⟨_, _, e3, _⟩ := h.plan.spots
  obtain ⟨_, _, e4, _⟩ := h.plan.curve
  rw [e1, e2, e3, e4]
  simp [Value.oneCell']
theorem raw_results {fn : Func} (hfn : fn.results = #[.cell 2 32, .tmp 3]) (tmps : Array Value) (R : Nat) (cs : Array Value) (z : Value) (W : World) (h2 : tmps.getD 2 undef = .pointer (some ⟨R, 0, none⟩)) (h3 : tmps.getD 3 undef = z)
    (hR : W.heap[R]? = some (.cells cs 32 (0, 0))) (hs : (Tryz.prog.info? 32).map (·.size) = some cs.size) :
    (results fn tmps).run Tryz.prog W = .ok (.tuple #[.agg cs, z]) W := by
  have hl := run_loadVar_row (P := Tryz.prog) W R 32 32 cs (0, 0) _ hR Tryz.underlying32 rfl hs
  have h2' : tmps[2]?.getD undef = .pointer (some ⟨R, 0, none⟩) := by simpa using h2
  have h3' : tmps[3]?.getD undef = z := by simpa using h3
  simp [results, hfn, h2', h3', asAddr, hl]
theorem wpList_load_row_w {P : Program} {ops : Array Oper} {rest : List Oper} {o : Oper} {a : Act} {w : World} {Q : Exit → Act → World → Prop} (hw : Region.wanted o (yielded ops a.tmps) = true) (ty : TypeId) (x : Operand) (ho : o.op = .load ty x)
    (g : Nat) (hx : a.eval x = .pointer (some ⟨g, 0, none⟩)) (t : TypeId) (cs : Array Value) (fr : Nat × Nat) (d : TypeDesc) (hg : w.heap[g]? = some (.cells cs t fr))
    (hu : P.underlying ty = some d) (hd : (match d with | .struct _ | .array _ _ => true | _ => false) = true) (hi : (P.info? ty).map (·.size) = some cs.size)
    (h : wpList P ops Q rest (a.put o.dst (.agg cs)) w) : wpList P ops Q (o :: rest) a w := by
  unfold wpList
  rw [if_pos hw]
  exact .inl (wp_load_row ty x ho g hx t cs fr d hg hu hd hi h)
set_option maxRecDepth 100000 in
set_option maxHeartbeats 3200000 in
theorem rawRead_any (s : List UInt8) (w : World) (hs : s.length ≤ 140737488355328) :
    Calls Tryz.prog 17 #[.string (str s)] w fun e w' => Below w.heap.size w w' ∧ ((∃ r lv tv sv cv, rawRd s = some r ∧ e = .returned (.tuple #[.agg (rawA r lv tv sv cv), .int .i64 0]) ∧ IsRaw w' r lv tv sv cv ∧ Fresh w.heap.size lv ∧ Fresh w.heap.size tv ∧ Fresh w.heap.size sv ∧ Fresh w.heap.size cv) ∨ (rawRd s = none ∧ e = .returned (.tuple #[.agg rawZ, .int .i64 1]))) := by
  have HF := hide (fileOf_any s (w.alloc (.cells rawZ 32)) hs)
  have a1 := al1 w (Obj.cells rawZ 32)
  have HB := hide (bel_alloc w (Obj.cells rawZ 32))
  have hl1 := (Array.getElem?_eq_some_iff.1 a1).1
  have HR := hide (show rawRd s = match rawP (fun _ => 17) (fun _ => 64) (fun _ => 64) (fun _ => 16) s with | none => none | some r => if planeE r = 0 then some r else none from rfl)
  generalize rawRd s = RR at *
  have iz : (Tryz.prog.info? 32).map (·.size) = some (rawZ : Array Value).size := by kernel_rfl
  have oz : (rawZ : Array Value).all (·.oneCell') = true := by simp [Value.oneCell']
  go_enter Tryz.func17, Tryz.ntmps17
  go_wp2_with fail
  generalize w.alloc (Obj.cells rawZ 32) = U at *
  refine (HF.out).mono ?_
  rintro e V1 ⟨hb1, hc⟩
  have HB1 := hide (bel_trans HB.out hb1)
  rcases hc with ⟨r, lv, tv, sv, cv, hp, rfl, hI, f1, f2, f3, f4⟩ | ⟨hp, rfl⟩
  · have HO := hide (raw_one hI)
    have i1 : (Tryz.prog.info? 32).map (·.size) = some (rawA r lv tv sv cv).size := by kernel_rfl
    have HC := hide (fun (u : World) (hu : Below V1.heap.size V1 u) => rawCheck_any r lv tv sv cv u (hI.below hu (Nat.le_refl _)))
    replace HR := hide (show RR = if planeE r = 0 then some r else none by rw [HR.out, hp])
    obtain ⟨RA, hRA⟩ : ∃ RA, rawA r lv tv sv cv = RA := ⟨_, rfl⟩
    rw [hRA] at HC i1 HO ⊢
    have HRA := hide hRA
    have z1 := al1 V1 (Obj.cells rawZ 32)
    have i2 : (rawZ : Array Value).size = RA.size := by rw [← hRA]; rfl
    have c1 := setRow_heap _ _ _ RA _ _ z1
    have HBX := hide (below_setRow (g := V1.heap.size) (bel_alloc V1 (Obj.cells rawZ 32)) (Nat.le_refl _) RA)
    have hlx := (Array.getElem?_eq_some_iff.1 c1).1
    have hos := HO.out
    clear hRA hp
    go_upto_region 2 with (refine wpList_store_row rfl 32 _ _ rfl V1.heap.size RA rfl rfl _ _ z1 i1 i2 hos ?_)
    clear z1
    generalize (V1.alloc (Obj.cells rawZ 32)).setRow V1.heap.size RA = V2 at *
    go_wp2_with (refine wpList_load_row_w (by rfl) 32 _ rfl _ rfl _ _ _ _ c1 Tryz.underlying32 rfl i1 ?_)
    refine (HC.out _ HBX.out).mono ?_
    rintro e V3 ⟨rfl, hb3⟩
    have g1 : V3.heap[w.heap.size]? = some (.cells rawZ 32 (0, 0)) := (((hb1.trans (HBX.out.mono hb1.size)).trans (hb3.mono (Nat.le_trans hb1.size HBX.out.size))).block _ hl1).trans a1
    have d1 := (hb3.block _ hlx).trans c1
    have HB3 := hide (bel_trans (bel_trans HB1.out HBX.out) hb3)
    have HI3 := hide (hI.below (bel_trans HBX.out hb3) (Nat.le_refl _))
    clear HC c1 hb3 hI
    by_cases hE : planeE r = 0
    · rw [hE]
      rw [if_pos hE] at HR
      have HG := hide (setRow_heap _ _ _ RA _ _ g1)
      have HBF := hide (below_setRow (g := w.heap.size) HB3.out (Nat.le_refl _) RA)
      have HIF := hide (HI3.out.other (k := w.heap.size) (w' := V3.setRow w.heap.size RA) (B := U.heap.size) (by simp) (fun b hb => setRow_other _ _ _ _ hb) hl1 f1 f2 f3 f4)
      have hw : w.heap.size ≤ U.heap.size := by omega
      have HFR := hide (show Fresh w.heap.size lv ∧ Fresh w.heap.size tv ∧ Fresh w.heap.size sv ∧ Fresh w.heap.size cv from ⟨f1.mono hw, f2.mono hw, f3.mono hw, f4.mono hw⟩)
      clear f1 f2 f3 f4
      go_wp2_with (first | refine wpList_load_row rfl 32 _ rfl _ rfl _ _ _ _ d1 Tryz.underlying32 rfl i1 ?_ | refine wpList_store_row rfl 32 _ _ rfl w.heap.size RA rfl rfl _ _ g1 i1 i2 hos ?_)
      refine bodyPost_ret (v := .tuple #[.agg RA, .int .i64 0]) (raw_results Tryz.results17 _ _ _ _ _ rfl rfl HG.out i1) rfl ⟨HBF.out, .inl ⟨r, lv, tv, sv, cv, HR.out, by rw [HRA.out], HIF.out, HFR.out⟩⟩
    · have hn : (planeE r != 0) = true := by simpa using hE
      rw [if_neg hE] at HR
      have HG := hide (setRow_heap _ _ _ rawZ _ _ g1)
      have HBF := hide (below_setRow (g := w.heap.size) HB3.out (Nat.le_refl _) rawZ)
      clear HI3 f1 f2 f3 f4
      go_wp2_with (refine wpList_store_row rfl 32 _ _ rfl w.heap.size rawZ rfl rfl _ _ g1 iz rfl oz ?_)
      refine bodyPost_ret (v := .tuple #[.agg rawZ, .int .i64 1]) (raw_results Tryz.results17 _ _ _ _ _ rfl rfl HG.out iz) rfl ⟨HBF.out, .inr ⟨HR.out, rfl⟩⟩
  · replace HR := hide (show RR = none by rw [HR.out, hp])
    obtain ⟨ZR, hZR⟩ : ∃ ZR : Array Value, rawZ = ZR := ⟨_, rfl⟩
    rw [show Ending.returned (.tuple #[.agg rawZ, .bool false]) = Ending.returned (.tuple #[.agg ZR, .bool false]) by rw [hZR]]
    have z1 := al1 V1 (Obj.cells rawZ 32)
    have i1 : (Tryz.prog.info? 32).map (·.size) = some ZR.size := by rw [← hZR]; exact iz
    have i2 : (rawZ : Array Value).size = ZR.size := by rw [← hZR]
    have hos : ZR.all (·.oneCell') = true := by rw [← hZR]; exact oz
    have HBX := hide (below_setRow (g := V1.heap.size) (bel_alloc V1 (Obj.cells rawZ 32)) (Nat.le_refl _) ZR)
    have g1 : ((V1.alloc (Obj.cells rawZ 32)).setRow V1.heap.size ZR).heap[w.heap.size]? = some (.cells rawZ 32 (0, 0)) := ((hb1.trans (HBX.out.mono hb1.size)).block _ hl1).trans a1
    have HB3 := hide (bel_trans HB1.out HBX.out)
    have HG := hide (setRow_heap _ _ _ rawZ _ _ g1)
    have HBF := hide (below_setRow (g := w.heap.size) HB3.out (Nat.le_refl _) rawZ)
    clear hp hZR
    go_upto_region 3 with (refine wpList_store_row rfl 32 _ _ rfl V1.heap.size ZR rfl rfl _ _ z1 i1 i2 hos ?_)
    clear z1
    generalize (V1.alloc (Obj.cells rawZ 32)).setRow V1.heap.size ZR = V2 at *
    go_wp2_with (refine wpList_store_row rfl 32 _ _ rfl w.heap.size rawZ rfl rfl _ _ g1 iz rfl oz ?_)
    refine bodyPost_ret (v := .tuple #[.agg rawZ, .int .i64 1]) (raw_results Tryz.results17 _ _ _ _ _ rfl rfl HG.out iz) rfl ⟨HBF.out, .inr ⟨HR.out, rfl⟩⟩
end Go.Proofs.YtanebhbfekcplaaGreat

namespace Go.Proofs.YtanebhbfekcplaaGreat
set_option linter.unusedVariables false
open Go.RowKit
def nrmP (n : Plan) : Plan := ⟨n.phase, ix (blackL n), n.white, n.spots, ix (gainsL n), ix (matL n), n.curve, n.amount⟩
def nrm (r : RawF) : RawF := { r with plan := nrmP r.plan }
theorem rawA_nrm (r : RawF) (lv tv sv cv : Value) : rawA (nrm r) lv tv sv cv = rawA r lv tv sv cv := rfl
theorem isRaw_nrm {w : World} {r : RawF} {lv tv sv cv : Value} : IsRaw w (nrm r) lv tv sv cv ↔ IsRaw w r lv tv sv cv :=
  ⟨fun h => ⟨h.lens, h.strips, h.plan.spots, h.plan.curve⟩, fun h => ⟨h.lens, h.strips, h.plan.spots, h.plan.curve⟩⟩
theorem planE_nrm (n : Plan) : planE (nrmP n) = planE n := by
  have e1 : arrL (nrmP n).black 4 = arrL n.black 4 := rfl
  have e2 : arrL (nrmP n).gains 3 = arrL n.gains 3 := rfl
  have e3 : nineL (nrmP n).matrix = nineL n.matrix := rfl
  simp only [planE, sensOk, toneOk, spotOk, levelsOk, gainsOk, matOk, e1, e2, e3]
  rfl
theorem planeE_nrm (r : RawF) : planeE (nrm r) = planeE r := by
  have e1 : headE (nrm r) = headE r := rfl
  have e2 : pErr (nrm r) = pErr r := by
    unfold pErr
    rw [show (nrm r).plan = nrmP r.plan from rfl, planE_nrm]
    rfl
  have e3 : stOk (nrm r) (nrm r).strips.length = stOk r r.strips.length := rfl
  unfold planeE
  rw [e1, e2, e3]
  rfl
structure Fits (n : Plan) : Prop where
  phase : in32 n.phase
  black : ∀ x ∈ blackL n, in32 x
  white : in32 n.white
  spots : ∀ p ∈ n.spots, in32 p.1 ∧ in32 p.2
  gains : ∀ x ∈ gainsL n, in32 x
  matrix : ∀ x ∈ matL n, in32 x
  curve : ∀ p ∈ n.curve, in32 p.1 ∧ in32 p.2
  amount : in32 n.amount
  many : n.spots.length ≤ 64
  points : n.curve.length ≤ 16
theorem fits_of {n : Plan} (h : planE n = 0) : Fits n := by
  obtain ⟨h1, h2, h3, h4, h5, h6, h7, h8⟩ := planE_zero h
  have hc := isCurve_of h8
  have hl := curve_le h8
  simp only [levelsOk, Bool.and_eq_true, decide_eq_true_eq] at h2
  have hb := fun k hk => arrL_all h2.2 k hk
  have hg := fun k hk => arrL_all h3 k hk
  have hm := fun k hk => matOk_get h4 k hk
  simp only [phaseOk, decide_eq_true_eq] at h1
  simp only [amountOk, decide_eq_true_eq] at h5
  refine ⟨?_, ?_, ?_, ?_, ?_, ?_, ?_, ?_, by omega, by omega⟩
  · unfold in32; omega
  · intro x hx
    have b0 := hb 0 (by omega)
    have b1 := hb 1 (by omega)
    have b2 := hb 2 (by omega)
    have b3 := hb 3 (by omega)
    simp only [blackL, List.mem_cons, List.not_mem_nil, or_false] at hx
    unfold in32
    rcases hx with rfl | rfl | rfl | rfl <;> omega
  · unfold in32; omega
  · intro p hp
    have := List.all_eq_true.1 h7 p hp
    simp only [hasB, decide_eq_true_eq] at this
    unfold in32
    omega
  · intro x hx
    have b0 := hg 0 (by omega)
    have b1 := hg 1 (by omega)
    have b2 := hg 2 (by omega)
    simp only [gainsL, List.mem_cons, List.not_mem_nil, or_false] at hx
    unfold in32
    rcases hx with rfl | rfl | rfl <;> omega
  · intro x hx
    have b0 := hm 0 (by omega)
    have b1 := hm 1 (by omega)
    have b2 := hm 2 (by omega)
    have b3 := hm 3 (by omega)
    have b4 := hm 4 (by omega)
    have b5 := hm 5 (by omega)
    have b6 := hm 6 (by omega)
    have b7 := hm 7 (by omega)
    have b8 := hm 8 (by omega)
    simp only [matL, List.mem_cons, List.not_mem_nil, or_false] at hx
    unfold in32
    rcases hx with rfl | rfl | rfl | rfl | rfl | rfl | rfl | rfl | rfl <;> omega
  · intro p hp
    obtain ⟨i, hi, rfl⟩ := List.getElem_of_mem hp
    rw [ptAt_get _ _ hi]
    have := hc.x i hi
    simp only [curveOk, Bool.and_eq_true] at h8
    have := (ptsOk_get h8.2 i hi).1
    unfold in32
    omega
  · unfold in32; omega
theorem planP_full {b3 b4 : List UInt8 → Nat} {n : Plan} (h : Fits n) (h3 : ∀ t, n.spots.length ≤ b3 (n.spots.flatMap pairW ++ t)) (h4 : ∀ t, n.curve.length ≤ b4 (n.curve.flatMap pairW ++ t)) (t : List UInt8) : planP b3 b4 (planW n ++ t) = some (nrmP n, t) := by
  have hm := h.many
  have hp := h.points
  simp only [planW, List.append_assoc]
  rw [planP, numP_num4 h.phase]
  simp only
  rw [pq2, (manyCod numCod 4).full (blackL n) _ ⟨rfl, h.black⟩]
  simp only
  rw [pq3, numP_num4 h.white]
  simp only
  rw [pq4, listP_full pairCod h.spots (by unfold in32; omega) (h3 _)]
  simp only
  rw [pq5, (manyCod numCod 3).full (gainsL n) _ ⟨rfl, h.gains⟩]
  simp only
  rw [pq6, (manyCod numCod 9).full (matL n) _ ⟨rfl, h.matrix⟩]
  simp only
  rw [pq7, listP_full pairCod h.curve (by unfold in32; omega) (h4 _)]
  simp only
  rw [pq8, numP_num4 h.amount]
  rfl
theorem flat_ge {α : Type} {f : α → List UInt8} (hf : ∀ a, 1 ≤ (f a).length) (l : List α) (t : List UInt8) : l.length ≤ (l.flatMap f ++ t).length := by
  induction l with
  | nil => simp
  | cons a l ih =>
    have := hf a
    simp only [List.flatMap_cons, List.append_assoc, List.length_cons, List.length_append] at ih ⊢
    omega
theorem rawP_full {b1 b2 b3 b4 : List UInt8 → Nat} {r : RawF} (h : Right r) (h1 : ∀ t, r.lens.length ≤ b1 (r.lens.flatMap num4 ++ t)) (h2 : ∀ t, r.strips.length ≤ b2 (r.strips.flatMap textW ++ t)) (h3 : ∀ t, r.plan.spots.length ≤ b3 (r.plan.spots.flatMap pairW ++ t)) (h4 : ∀ t, r.plan.curve.length ≤ b4 (r.plan.curve.flatMap pairW ++ t)) :
    rawP b1 b2 b3 b4 (rawW r) = some (nrm r) := by
  have hw := h.head.w
  have hh := h.head.h
  have hd := h.head.depth
  have hk := h.head.kind
  have hr := h.head.rows
  have hl := h.lens_le
  have hst : r.strips.length ≤ 64 := by have := h.many; have := h.head.cnt_le; omega
  have hsl := h.strip_le
  have hle : ∀ x ∈ r.lens, in32 x := by
    intro x hx
    have := h.head.lens
    unfold kindE at this
    split at this
    · split at this
      · rename_i h0
        rw [List.eq_nil_of_length_eq_zero h0] at hx
        cases hx
      · cases this
    · obtain ⟨_, _, h3, _⟩ := checkE_zero this
      have := List.all_eq_true.1 h3 x hx
      simp only [lenOk, decide_eq_true_eq] at this
      unfold in32
      omega
  rw [rawP, rawW, textCod.full darkL _ (by decide)]
  simp only [headL, List.flatMap_cons, List.flatMap_nil, List.append_nil, List.append_assoc, if_true]
  rw [kq1, numP_num4 (by unfold in32; omega)]
  simp only
  rw [kq2, numP_num4 (by unfold in32; omega)]
  simp only
  rw [kq3, numP_num4 (by unfold in32; omega)]
  simp only
  rw [kq4, numP_num4 (by unfold in32; omega)]
  simp only
  rw [kq5, numP_num4 (by unfold in32; omega)]
  simp only
  rw [kq6, listP_full numCod hle (by unfold in32; omega) (h1 _)]
  simp only
  rw [kq7, listP_full textCod (fun s hs => by have := hsl s hs; unfold in32; omega) (by unfold in32; omega) (h2 _)]
  simp only
  have := planP_full (fits_of h.plan) h3 h4 []
  rw [List.append_nil] at this
  rw [kq8, this]
  simp only
  rw [kq9, if_pos rfl]
  rfl
def rawQ (s : List UInt8) : Option RawF := rawP List.length List.length List.length List.length s
theorem rd_of_right {r : RawF} (h : Right r) : rawRd (rawW r) = some (nrm r) := by
  rw [rawRd, rawP_full h (fun _ => h.lens_le) (fun _ => by have := h.many; have := h.head.cnt_le; omega) (fun _ => (fits_of h.plan).many) (fun _ => (fits_of h.plan).points)]
  simp only
  rw [if_pos (by rw [planeE_nrm]; exact h.zero)]
theorem q_of_right {r : RawF} (h : Right r) : rawQ (rawW r) = some (nrm r) :=
  rawP_full h (flat_ge (fun a => by rw [num4_length]; omega) _) (flat_ge (fun a => by simp [textW, num4_length]; omega) _) (flat_ge (fun a => by simp [pairW, num4_length]) _) (flat_ge (fun a => by simp [pairW, num4_length]) _)
theorem rd_some {s : List UInt8} {r : RawF} (h : rawRd s = some r) : Right r ∧ s = rawW r := by
  rw [rawRd] at h
  split at h
  · cases h
  · rename_i r' h1
    split at h
    · rename_i h2
      cases h
      exact ⟨planeE_zero h2, rawP_sound h1⟩
    · cases h
theorem rd_of_q {s : List UInt8} {r : RawF} (h : rawQ s = some r) (h0 : planeE r = 0) : rawRd s = some (nrm r) := by
  rw [rawP_sound h]
  exact rd_of_right (planeE_zero h0)
theorem q_of_rd {s : List UInt8} {r : RawF} (h : rawRd s = some r) : rawQ s = some (nrm r) := by
  obtain ⟨h1, rfl⟩ := rd_some h
  exact q_of_right h1
theorem rd_none_of_q {s : List UInt8} (h : rawQ s = none) : rawRd s = none := by
  cases h1 : rawRd s with
  | none => rfl
  | some r => rw [q_of_rd h1] at h; cases h
theorem rd_none_of_bad {s : List UInt8} {r : RawF} (h : rawQ s = some r) (h0 : planeE r ≠ 0) : rawRd s = none := by
  cases h1 : rawRd s with
  | none => rfl
  | some r' =>
    rw [q_of_rd h1] at h
    cases h
    rw [planeE_nrm] at h0
    exact absurd (rd_some h1).1.zero h0
end Go.Proofs.YtanebhbfekcplaaGreat

namespace Go.Proofs.YtanebhbfekcplaaGreat
set_option linter.unusedVariables false
open Go.RowKit
theorem fitP_parts {r : RawF} {PW PH : Int} {zs : List Int} (h : fitP r PW PH zs = true) : planeOk PW PH zs = true ∧ PW = r.w ∧ PH = r.h ∧ deepOk r.depth zs = true := by
  simp only [fitP, Bool.and_eq_true, decide_eq_true_eq] at h
  exact ⟨h.1.1.1, h.1.1.2, h.1.2, h.2⟩
theorem fiS_length (r : RawF) (zs : List Int) (k : Nat) : (fiS r zs k).length = k := by simp [fiS]
theorem fiS_at (r : RawF) (zs : List Int) {k i : Nat} (h : i < k) : (fiS r zs k).getD i [] = wsS r (parL r zs i) (rowN r i) := by
  simp [fiS, h]
theorem fiOk_get {r : RawF} {zs : List Int} {k n : Nat} (he : fiOk r zs n = true) (h : k < n) : wsE r (parL r zs k) (rowN r k) = 0 := by
  have := List.all_eq_true.1 he k (List.mem_range.2 h)
  simpa using this
theorem st_of_ws {r : RawF} (h : Head r) {k : Nat} (hk : k < cntN r) {PW PH : Int} {zs : List Int} (hf : fitP r PW PH zs = true) (h0 : wsE r (parL r zs k) (rowN r k) = 0) :
    stE r (wsS r (parL r zs k) (rowN r k)) (rowN r k) = 0 ∧ stZ r (wsS r (parL r zs k) (rowN r k)) (rowN r k) = parL r zs k := by
  obtain ⟨hp, rfl, rfl, hd⟩ := fitP_parts hf
  have hl := parL_length h hk (planeOk_parts hp).2.2.1
  unfold wsE at h0
  unfold wsS
  by_cases hz : r.kind = 0
  · rw [if_pos hz] at h0 ⊢
    obtain ⟨e1, e2⟩ := unpack_of_pack h0
    rw [hl] at e1 e2
    obtain ⟨f1, f2⟩ := stZ_kind0 hz (packS (parL r zs k) r.depth) (rowN r k)
    exact ⟨f1.trans e1, f2.trans e2⟩
  · rw [if_neg hz] at h0 ⊢
    obtain ⟨e1, e2, _, _⟩ := read_of_write h0
    have hdp : deepOk r.depth (parL r zs k) = true := List.all_eq_true.2 fun z hm => List.all_eq_true.1 hd z (mem_parL hm)
    have hs : stE r (writeDS r.w (rowN r k) (parL r zs k) r.kind r.lens) (rowN r k) = 0 := by
      rw [stE, if_neg hz, if_pos e1, e2, if_pos hdp]
    exact ⟨hs, by rw [stZ, if_pos hs, if_neg hz, e2]⟩
theorem parts_take {r : RawF} (h : Head r) {zs : List Int} (hz : (zs.length : Int) = r.w * r.h) (k : Nat) (hk : k ≤ cntN r) : (List.range k).flatMap (fun i => parL r zs i) = zs.take (if k = cntN r then zs.length else parN r k) := by
  induction k with
  | zero =>
    have : cntN r ≠ 0 := by
      have := (h.cnt_pos 0).2 (by have := h.h; simp; omega)
      omega
    rw [if_neg (fun e => this e.symm)]
    simp [parN]
  | succ k ih =>
    have hk' : k < cntN r := hk
    have ih' := ih (by omega)
    rw [if_neg (by omega)] at ih'
    rw [List.range_succ, List.flatMap_append, ih', List.flatMap_singleton, parL]
    have hle := par_le h hk'
    have hsz := h.size hk'
    rw [Int.mul_comm r.w] at hz
    have e : zs.take (parN r k) ++ (zs.drop (parN r k)).take (rowN r k * r.w).toNat = zs.take (parN r k + (rowN r k * r.w).toNat) := by
      rw [List.take_add]
    rw [e]
    by_cases hc : k + 1 = cntN r
    · rw [if_pos hc, List.take_length, List.take_of_length_le]
      have hend : rowN r k = r.h - k * r.rows := by
        have h1 := (not_congr (h.cnt_pos (k + 1))).1 (by omega)
        have e : ((k + 1 : Nat) : Int) * r.rows = k * r.rows + r.rows := by rw [Int.natCast_add, Int.add_mul]; simp
        unfold rowN
        omega
      have e2 : (parN r k : Int) + rowN r k * r.w = r.h * r.w := by
        rw [parN_int h, hend, ← Int.add_mul]
        congr 1
        omega
      omega
    · rw [if_neg hc]
      have := par_next h (show k + 1 < cntN r by omega)
      congr 1
      omega
theorem head_fill {r : RawF} (h : Head r) (zs : List Int) : Head (fillFR r zs) := ⟨h.w, h.h, h.depth, h.rows, h.kind, h.lens⟩
theorem fill_right {r : RawF} {PW PH : Int} {zs : List Int} (h : fillFE r PW PH zs = 0) : Right (fillFR r zs) ∧ planeZ (fillFR r zs) = zs ∧ PW = r.w ∧ PH = r.h ∧ planeW (fillFR r zs) = PW ∧ planeH (fillFR r zs) = PH := by
  unfold fillFE at h
  split at h
  · rename_i h1
    split at h
    · rename_i h2
      split at h
      · rename_i h3
        split at h
        · rename_i h4
          have hH := headE_zero h1
          obtain ⟨hp, rfl, rfl, hd⟩ := fitP_parts h3
          have hst : ∀ k, k < cntN r → stE (fillFR r zs) (stAt (fillFR r zs) k) (rowN (fillFR r zs) k) = 0 ∧ stZ (fillFR r zs) (stAt (fillFR r zs) k) (rowN (fillFR r zs) k) = parL r zs k := by
            intro k hk
            have e : stAt (fillFR r zs) k = wsS r (parL r zs k) (rowN r k) := fiS_at r zs hk
            rw [e]
            exact st_of_ws hH hk h3 (fiOk_get h4 hk)
          have hok : stOk (fillFR r zs) (cntN r) = true := List.all_eq_true.2 fun k hk => by
            rw [decide_eq_true_eq]
            exact (hst k (List.mem_range.1 hk)).1
          have hP : planE r.plan = 0 ∧ spotsB r.w r.h r.plan.spots = true := by
            unfold pErr at h2
            split at h2
            · rename_i h5
              split at h2
              · rename_i h6; exact ⟨h5, h6⟩
              · cases h2
            · rename_i h5; exact absurd h2 h5
          have hl : (fillFR r zs).strips.length = cntN r := fiS_length r zs (cntN r)
          have hR : Right (fillFR r zs) := ⟨head_fill hH zs, hl, hP.1, hP.2, by rw [hl]; exact hok⟩
          refine ⟨hR, ?_, rfl, rfl, by rw [planeW, if_pos hR.zero]; rfl, by rw [planeH, if_pos hR.zero]; rfl⟩
          rw [planeZ, if_pos hR.zero, hl]
          have : plUp (fillFR r zs) (cntN r) = (List.range (cntN r)).flatMap fun i => parL r zs i := by
            unfold plUp
            rw [List.flatMap_def, List.flatMap_def]
            congr 1
            exact List.map_congr_left fun k hk => (hst k (List.mem_range.1 hk)).2
          rw [this, parts_take hH (planeOk_parts hp).2.2.1 _ (Nat.le_refl _), if_pos rfl, List.take_length]
        · cases h
      · cases h
    · rename_i h2; exact absurd h h2
  · rename_i h1; exact absurd h h1
end Go.Proofs.YtanebhbfekcplaaGreat

namespace Go.Proofs.YtanebhbfekcplaaGreat
set_option linter.unusedVariables false
open Go.RowKit
def bareR (r : RawF) : RawF := { r with strips := [] }
theorem IsInts.cell {w : World} {v : Value} {xs : List Int} {B k i : Nat} {u : Value} (h : IsInts w v xs) (hf : Fresh B v) (hk : k < B) : IsInts (w.setCell ⟨k, i, none⟩ u) v xs := h.other (by simp [World.setCell]) (fun b hb => Below.heap_setCell _ _ _ _ (fun e => hb e)) (hf.ne hk)
theorem IsPts.cell {w : World} {v : Value} {xs : List Pt} {B k i : Nat} {u : Value} (h : IsPts w v xs) (hf : Fresh B v) (hk : k < B) : IsPts (w.setCell ⟨k, i, none⟩ u) v xs := h.other (by simp [World.setCell]) (fun b hb => Below.heap_setCell _ _ _ _ (fun e => hb e)) (hf.ne hk)
theorem holds_cell {g : Nat} {t : TypeId} {cs : List Value} {w : World} (h : Holds g t cs w) (i : Nat) (v : Value) : Holds g t (cs.set i v) (w.setCell ⟨g, i, none⟩ v) := by
  unfold Holds at h ⊢
  simp [World.setCell, Array.getElem?_modify, h]
set_option maxRecDepth 100000 in
set_option maxHeartbeats 3200000 in
theorem bare_any (r : RawF) (lv tv sv cv : Value) (w : World) (hr : IsRaw w r lv tv sv cv) (g1 : r.lens.length ≤ 1000000) (g2 : r.plan.spots.length ≤ 1000000) (g3 : r.plan.curve.length ≤ 1000000) :
    Calls Tryz.prog 33 #[.agg (rawA r lv tv sv cv)] w fun e w' => ∃ lv' sv' cv', e = .returned (.agg (rawA (bareR r) lv' (.slice none 0 0) sv' cv')) ∧ IsRaw w' (bareR r) lv' (.slice none 0 0) sv' cv' ∧ Below w.heap.size w w' ∧ Fresh w.heap.size lv' ∧ Fresh w.heap.size sv' ∧ Fresh w.heap.size cv' := by
  have HL := hide hr.lens
  have HS := hide hr.plan.spots
  have HC := hide hr.plan.curve
  obtain ⟨lo, lc, rfl, _, _⟩ := hr.lens
  obtain ⟨tp, tc, rfl, _, _⟩ := hr.strips
  obtain ⟨so, sc, rfl, _, _⟩ := hr.plan.spots
  obtain ⟨co, cc, rfl, _, _⟩ := hr.plan.curve
  obtain ⟨a1, a2⟩ := al2 w (Obj.cells (rawA r (.slice lo r.lens.length lc) (.slice tp r.strips.length tc) (.slice so r.plan.spots.length sc) (.slice co r.plan.curve.length cc)) 32) (Obj.cells rawZ 32)
  have HB := hide (be2 w (Obj.cells (rawA r (.slice lo r.lens.length lc) (.slice tp r.strips.length tc) (.slice so r.plan.spots.length sc) (.slice co r.plan.curve.length cc)) 32) (Obj.cells rawZ 32))
  have hl1 := (Array.getElem?_eq_some_iff.1 a1).1
  have hl2 := (Array.getElem?_eq_some_iff.1 a2).1
  obtain ⟨s0, s1, s2, s3, s4, s5, s6, s13, s26⟩ := raw_cells a1
  clear hr
  go_enter Tryz.func33, Tryz.ntmps33
  go_wp2_with fail
  clear s0 s1 s2 s3 s4 s5 s6 s13 s26
  generalize (w.alloc (Obj.cells (rawA r (.slice lo r.lens.length lc) (.slice tp r.strips.length tc) (.slice so r.plan.spots.length sc) (.slice co r.plan.curve.length cc)) 32)).alloc (Obj.cells rawZ 32) = U at *
  refine (cloneInts_any _ r.lens U (HL.out.below HB.out (Nat.le_refl _)) g1).mono ?_
  rintro e V1 ⟨lv', rfl, hI1, hb1, hf1⟩
  have b1 : Holds w.heap.size 32 (rawA r (.slice lo r.lens.length lc) (.slice tp r.strips.length tc) (.slice so r.plan.spots.length sc) (.slice co r.plan.curve.length cc)).toList V1 := (hb1.block _ hl1).trans a1
  have z1 : V1.heap[w.heap.size + 1]? = some (.cells rawZ 32 (0, 0)) := (hb1.block _ hl2).trans a2
  have c5 : V1.cell? ⟨w.heap.size, 5, none⟩ = some (.slice lo r.lens.length lc) := by rw [Lib.cell_of_heap b1]; rfl
  have f5 : V1.frozen? ⟨w.heap.size, 5, none⟩ = false := Lib.frozen_of_heap b1 _
  have HI1 := hide hI1
  obtain ⟨lo', lc', rfl, _, _⟩ := hI1
  have b2 := holds_cell b1 5 (.slice lo' r.lens.length lc')
  have c6 : (V1.setCell ⟨w.heap.size, 5, none⟩ (.slice lo' r.lens.length lc')).cell? ⟨w.heap.size, 6, none⟩ = some (.slice tp r.strips.length tc) := by rw [Lib.cell_of_heap b2]; rfl
  have f6 : (V1.setCell ⟨w.heap.size, 5, none⟩ (.slice lo' r.lens.length lc')).frozen? ⟨w.heap.size, 6, none⟩ = false := Lib.frozen_of_heap b2 _
  have b3 := holds_cell b2 6 (.slice none 0 0)
  have b3 : Holds w.heap.size 32 (rawA (bareR r) (.slice lo' r.lens.length lc') (.slice none 0 0) (.slice so r.plan.spots.length sc) (.slice co r.plan.curve.length cc)).toList ((V1.setCell ⟨w.heap.size, 5, none⟩ (.slice lo' r.lens.length lc')).setCell ⟨w.heap.size, 6, none⟩ (.slice none 0 0)) := b3
  have hkk : ∀ k, k ≠ w.heap.size → ((V1.setCell ⟨w.heap.size, 5, none⟩ (.slice lo' r.lens.length lc')).setCell ⟨w.heap.size, 6, none⟩ (.slice none 0 0)).heap[k]? = V1.heap[k]? := fun k hk => (Below.heap_setCell _ _ _ _ (fun e => hk e)).trans (Below.heap_setCell _ _ _ _ (fun e => hk e))
  have z2 := (hkk (w.heap.size + 1) (by omega)).trans z1
  have c13 : ((V1.setCell ⟨w.heap.size, 5, none⟩ (.slice lo' r.lens.length lc')).setCell ⟨w.heap.size, 6, none⟩ (.slice none 0 0)).cell? ⟨w.heap.size, 13, none⟩ = some (.slice so r.plan.spots.length sc) := by rw [Lib.cell_of_heap b3]; rfl
  have HI2 := hide ((HI1.out.cell (k := w.heap.size) (i := 5) (u := .slice lo' r.lens.length lc') hf1 hl1).cell (k := w.heap.size) (i := 6) (u := .slice none 0 0) hf1 hl1)
  have HB2 := hide (((bel_trans HB.out hb1).setCell (p := ⟨w.heap.size, 5, none⟩) (Nat.le_refl _) (.slice lo' r.lens.length lc')).setCell (p := ⟨w.heap.size, 6, none⟩) (Nat.le_refl _) (.slice none 0 0))
  have hsz := hb1.size
  have HSZ := hide (show U.heap.size ≤ ((V1.setCell ⟨w.heap.size, 5, none⟩ (.slice lo' r.lens.length lc')).setCell ⟨w.heap.size, 6, none⟩ (.slice none 0 0)).heap.size by simp [World.setCell]; exact hsz)
  clear b1 b2 z1 hkk
  go_wp2_with fail
  clear c5 f5 c6 f6 c13
  generalize (V1.setCell ⟨w.heap.size, 5, none⟩ (.slice lo' r.lens.length lc')).setCell ⟨w.heap.size, 6, none⟩ (.slice none 0 0) = W2 at *
  refine (cloneSpots_any _ r.plan.spots W2 (HS.out.below HB2.out (Nat.le_refl _)) g2).mono ?_
  rintro e V3 ⟨sv', rfl, hI3, hb3, hf3⟩
  have HI3 := hide hI3
  obtain ⟨so', sc', rfl, _, _⟩ := hI3
  have hl3 : w.heap.size < W2.heap.size := Nat.lt_of_lt_of_le hl1 HSZ.out
  have b4 : Holds w.heap.size 32 _ V3 := (hb3.block _ hl3).trans b3
  have z4 : V3.heap[w.heap.size + 1]? = some (.cells rawZ 32 (0, 0)) := (hb3.block _ (Array.getElem?_eq_some_iff.1 z2).1).trans z2
  have HL4 := hide (HI2.out.below hb3 (Nat.le_refl _))
  have c13 : V3.cell? ⟨w.heap.size, 13, none⟩ = some (.slice so r.plan.spots.length sc) := by rw [Lib.cell_of_heap b4]; rfl
  have f13 : V3.frozen? ⟨w.heap.size, 13, none⟩ = false := Lib.frozen_of_heap b4 _
  have b5 := holds_cell b4 13 (.slice so' r.plan.spots.length sc')
  have b5 : Holds w.heap.size 32 (rawA (bareR r) (.slice lo' r.lens.length lc') (.slice none 0 0) (.slice so' r.plan.spots.length sc') (.slice co r.plan.curve.length cc)).toList (V3.setCell ⟨w.heap.size, 13, none⟩ (.slice so' r.plan.spots.length sc')) := b5
  have z5 := (Below.heap_setCell V3 ⟨w.heap.size, 13, none⟩ (.slice so' r.plan.spots.length sc') (w.heap.size + 1) (show w.heap.size + 1 ≠ w.heap.size by omega)).trans z4
  have c26 : (V3.setCell ⟨w.heap.size, 13, none⟩ (.slice so' r.plan.spots.length sc')).cell? ⟨w.heap.size, 26, none⟩ = some (.slice co r.plan.curve.length cc) := by rw [Lib.cell_of_heap b5]; rfl
  have HL5 := hide (HL4.out.cell (k := w.heap.size) (i := 13) (u := .slice so' r.plan.spots.length sc') hf1 hl1)
  have HS5 := hide (HI3.out.cell (k := w.heap.size) (i := 13) (u := .slice so' r.plan.spots.length sc') hf3 hl3)
  have HB5 := hide ((bel_trans HB2.out hb3).setCell (p := ⟨w.heap.size, 13, none⟩) (Nat.le_refl _) (.slice so' r.plan.spots.length sc'))
  have HSZ5 := hide (show W2.heap.size ≤ (V3.setCell ⟨w.heap.size, 13, none⟩ (.slice so' r.plan.spots.length sc')).heap.size by simp [World.setCell]; exact hb3.size)
  clear b4 z4 b3 z2
  go_wp2_with fail
  clear c13 f13 c26
  generalize V3.setCell ⟨w.heap.size, 13, none⟩ (.slice so' r.plan.spots.length sc') = W4 at *
  refine (clonePts_any _ r.plan.curve W4 (HC.out.below HB5.out (Nat.le_refl _)) g3).mono ?_
  rintro e V5 ⟨cv', rfl, hI5, hb5, hf5⟩
  have HI5 := hide hI5
  obtain ⟨co', cc', rfl, _, _⟩ := hI5
  have hl5 : w.heap.size < W4.heap.size := Nat.lt_of_lt_of_le hl3 HSZ5.out
  have b6 : Holds w.heap.size 32 _ V5 := (hb5.block _ hl5).trans b5
  have z6 : V5.heap[w.heap.size + 1]? = some (.cells rawZ 32 (0, 0)) := (hb5.block _ (Array.getElem?_eq_some_iff.1 z5).1).trans z5
  have c26 : V5.cell? ⟨w.heap.size, 26, none⟩ = some (.slice co r.plan.curve.length cc) := by rw [Lib.cell_of_heap b6]; rfl
  have f26 : V5.frozen? ⟨w.heap.size, 26, none⟩ = false := Lib.frozen_of_heap b6 _
  have b7 := holds_cell b6 26 (.slice co' r.plan.curve.length cc')
  obtain ⟨RA, hRA⟩ : ∃ RA, rawA (bareR r) (.slice lo' r.lens.length lc') (.slice none 0 0) (.slice so' r.plan.spots.length sc') (.slice co' r.plan.curve.length cc') = RA := ⟨_, rfl⟩
  have b7 : (V5.setCell ⟨w.heap.size, 26, none⟩ (.slice co' r.plan.curve.length cc')).heap[w.heap.size]? = some (.cells RA 32 (0, 0)) := by rw [← hRA]; exact b7
  have z7 := (Below.heap_setCell V5 ⟨w.heap.size, 26, none⟩ (.slice co' r.plan.curve.length cc') (w.heap.size + 1) (show w.heap.size + 1 ≠ w.heap.size by omega)).trans z6
  have HL7 := hide ((HL5.out.below hb5 (Nat.le_refl _)).cell (k := w.heap.size) (i := 26) (u := .slice co' r.plan.curve.length cc') hf1 hl1)
  have HS7 := hide ((HS5.out.below hb5 (Nat.le_refl _)).cell (k := w.heap.size) (i := 26) (u := .slice co' r.plan.curve.length cc') hf3 hl3)
  have HC7 := hide (HI5.out.cell (k := w.heap.size) (i := 26) (u := .slice co' r.plan.curve.length cc') hf5 hl5)
  have HB7 := hide ((bel_trans HB5.out hb5).setCell (p := ⟨w.heap.size, 26, none⟩) (Nat.le_refl _) (.slice co' r.plan.curve.length cc'))
  have i1 : (Tryz.prog.info? 32).map (·.size) = some RA.size := by rw [← hRA]; kernel_rfl
  have i2 : (rawZ : Array Value).size = RA.size := by rw [← hRA]; rfl
  have i3 : RA.all (·.oneCell') = true := by rw [← hRA]; simp [Value.oneCell']
  have HRA := hide hRA
  clear hRA b6 z6 b5 z5
  go_upto_region 5 with fail
  clear c26 f26
  generalize V5.setCell ⟨w.heap.size, 26, none⟩ (.slice co' r.plan.curve.length cc') = W6 at *
  have HG := hide (setRow_heap _ _ _ RA _ _ z7)
  have hk : ∀ k, k ≠ w.heap.size + 1 → (W6.setRow (w.heap.size + 1) RA).heap[k]? = W6.heap[k]? := fun k hk => setRow_other _ _ _ _ hk
  have HBF := hide (below_setRow (g := w.heap.size + 1) HB7.out (Nat.le_succ _) RA)
  have hu2 : w.heap.size + 1 < U.heap.size := hl2
  have HIF := hide (show IsRaw (W6.setRow (w.heap.size + 1) RA) (bareR r) (.slice lo' r.lens.length lc') (.slice none 0 0) (.slice so' r.plan.spots.length sc') (.slice co' r.plan.curve.length cc') from
    ⟨HL7.out.other (k := w.heap.size + 1) (by simp) hk (hf1.ne hl2), IsStrs.nil _, HS7.out.other (k := w.heap.size + 1) (by simp) hk (hf3.ne (by have := HSZ.out; omega)), HC7.out.other (k := w.heap.size + 1) (by simp) hk (hf5.ne (by have := HSZ.out; have := HSZ5.out; omega))⟩)
  have HFR := hide (show Fresh w.heap.size (.slice lo' r.lens.length lc') ∧ Fresh w.heap.size (.slice so' r.plan.spots.length sc') ∧ Fresh w.heap.size (.slice co' r.plan.curve.length cc') from ⟨hf1.mono (by omega), hf3.mono (by omega), hf5.mono (by omega)⟩)
  clear HL7 HS7 HC7 hf1 hf3 hf5 hk
  go_wp2_with (first | refine wpList_load_row rfl 32 _ rfl _ rfl _ _ _ _ b7 Tryz.underlying32 rfl i1 ?_ | refine wpList_store_row rfl 32 _ _ rfl (w.heap.size + 1) RA rfl rfl _ _ z7 i1 i2 i3 ?_)
  refine bodyPost_ret (v := .agg RA) (results_cell_row Tryz.results33 _ _ _ _ _ _ _ rfl HG.out Tryz.underlying32 rfl i1) rfl ⟨_, _, _, by rw [HRA.out], HIF.out, HBF.out, HFR.out⟩
end Go.Proofs.YtanebhbfekcplaaGreat

namespace Go.Proofs.YtanebhbfekcplaaGreat
set_option linter.unusedVariables false
open Go.RowKit
theorem app_box {et ct : TypeId} {sz : Nat} (ce : ct ≠ et) {V w1 w : World} {B base PB i : Nat} {cs : List Value} {so : Option Addr} {scap k m : Nat} {v' : Value} {xs ys : List Value}
    (i1 : Holds PB ct cs V) (hi : cs[i]? = some (.slice so k scap)) (i2 : V.ownsRow base et sz (.slice so k scap) k xs) (i5 : Below B w V) (hB : B ≤ base) (hPB : B ≤ PB) (hw : B ≤ V.heap.size)
    (hg : V.grownBy w1 (Value.slice so k scap).ownBlock) (ho : w1.ownsRow base et sz v' m ys) :
    w1.cell? ⟨PB, i, none⟩ = some (.slice so k scap) ∧ w1.frozen? ⟨PB, i, none⟩ = false ∧ Holds PB ct (cs.set i v') (w1.setCell ⟨PB, i, none⟩ v') ∧ (w1.setCell ⟨PB, i, none⟩ v').ownsRow base et sz v' m ys ∧
      Below B w (w1.setCell ⟨PB, i, none⟩ v') ∧ (∀ b, b < V.heap.size → some b ≠ (Value.slice so k scap).ownBlock → b ≠ PB → (w1.setCell ⟨PB, i, none⟩ v').heap[b]? = V.heap[b]?) := by
  have keep : ∀ b, b < V.heap.size → some b ≠ (Value.slice so k scap).ownBlock → w1.heap[b]? = V.heap[b]? := fun b hb hne => hg.block b hb hne
  have kP : Holds PB ct cs w1 := (keep PB i1.lt (own_ne i2 i1 ce)).trans i1
  refine ⟨by rw [Lib.cell_of_heap kP]; simpa using hi, Lib.frozen_of_heap kP i, holds_cell kP i v', ownsRow_setCell_other ho (fun e => own_ne ho kP ce e.symm) _, ?_, fun b hb hne hn => (Below.heap_setCell _ _ _ _ hn).trans (keep b hb hne)⟩
  exact (i5.grown hg hw (fun j hj => Nat.le_trans hB (i2.lt j hj).1)).setCell (p := ⟨PB, i, none⟩) hPB _
theorem IsStrs.own {w : World} {base : Nat} {v : Value} {ts : List (List UInt8)} (h : w.ownsRow base 9 1 v ts.length (ts.map strV)) (hl : ts.length ≤ 9223372036854775807) : IsStrs w v ts := by
  rcases h.2 with ⟨hv, hn⟩ | ⟨g, cap, cur, hv, _, hg, _⟩
  · exact ⟨none, 0, by rw [hv, hn], hl, .inl (List.eq_nil_of_length_eq_zero hn)⟩
  · refine ⟨_, cap, hv, hl, .inr ⟨g, 0, rfl, (Array.getElem?_eq_some_iff.1 hg).1, fun j hj => ?_⟩⟩
    subst hv
    rw [Nat.zero_add, h.cellAt j (by omega)]
    simp [hj, strV]
theorem raw_results4 {fn : Func} (hfn : fn.results = #[.cell 4 32, .tmp 5]) (tmps : Array Value) (R : Nat) (cs : Array Value) (z : Value) (W : World) (h2 : tmps.getD 4 undef = .pointer (some ⟨R, 0, none⟩)) (h3 : tmps.getD 5 undef = z)
    (hR : W.heap[R]? = some (.cells cs 32 (0, 0))) (hs : (Tryz.prog.info? 32).map (·.size) = some cs.size) :
    (results fn tmps).run Tryz.prog W = .ok (.tuple #[.agg cs, z]) W := by
  have hl := run_loadVar_row (P := Tryz.prog) W R 32 32 cs (0, 0) _ hR Tryz.underlying32 rfl hs
  have h2' : tmps[4]?.getD undef = .pointer (some ⟨R, 0, none⟩) := by simpa using h2
  have h3' : tmps[5]?.getD undef = z := by simpa using h3
  simp [results, hfn, h2', h3', asAddr, hl]
theorem run_from (P : Program) (t e : TypeId) (ht : P.underlying t = some (.slice (P.elem t))) (hs : ∀ w, (sizeOf (P.elem t)).run P w = .ok 1 w) (a : Addr) (n c M : Nat) (h : M ≤ n) (w : World) :
    (Instr.slice t (.slice (some a) n c) (some (.int .i64 M)) none none).run P w = .ok (.slice (some (if c = M then a else a.add M)) (n - M) (c - M)) w := by
  rw [run_slice_l w t (some a) n c ht .i64 M (by omega) (by omega), hs]
  simp only [Result.andThen, sliced, Int.toNat_natCast, Nat.mul_one, Option.map_some]
  split <;> simp_all
theorem run_upto (P : Program) (t e : TypeId) (ht : P.underlying t = some (.slice (P.elem t))) (hs : ∀ w, (sizeOf (P.elem t)).run P w = .ok 1 w) (b o n c M : Nat) (h : M ≤ c) (w : World) :
    (Instr.slice t (.slice (some ⟨b, o, none⟩) n c) none (some (.int .i64 M)) none).run P w = .ok (.slice (some ⟨b, o, none⟩) M c) w := by
  rw [run_slice_h w t (some ⟨b, o, none⟩) n c ht .i64 M (by omega) (by omega), hs]
  simp only [Result.andThen, sliced, Int.toNat_natCast, Nat.zero_mul, Nat.sub_zero, Option.map_some]
  split <;> simp_all [Addr.add_lit]
theorem part_ints {w : World} {zs : List Int} {bk off ca P M : Nat} (hc : ∀ j, j < zs.length → w.cell? ⟨bk, off + j, none⟩ = some (.int .i64 (zAt zs j))) (hb : bk < w.heap.size) (h : P + M ≤ zs.length) (hz : zs.length ≤ 4096) : IsInts w (.slice (some ⟨bk, off + P, none⟩) M (ca - P)) ((zs.drop P).take M) := by
  have hl : ((zs.drop P).take M).length = M := by rw [List.length_take, List.length_drop]; omega
  refine ⟨_, _, by rw [hl], by omega, .inr ⟨bk, _, rfl, hb, fun j hj => ?_⟩⟩
  rw [Nat.add_assoc, hc (P + j) (by omega)]
  simp [zAt, List.getD_eq_getElem?_getD, show P + j < zs.length by omega]
def FiJ (r : RawF) (zs : List Int) (lv sv cv : Value) (QX k : Nat) (U wr : World) : Prop :=
  ∃ (so : Option Addr) (cap : Nat), fiOk r zs k = true ∧ Holds QX 32 (rawA r lv (.slice so k cap) sv cv).toList wr ∧ wr.ownsRow QX 9 1 (.slice so k cap) k ((fiS r zs k).map strV) ∧ Below QX U wr
theorem FiJ.below {r : RawF} {zs : List Int} {lv sv cv : Value} {QX k : Nat} {U wr V : World} (h : FiJ r zs lv sv cv QX k U wr) (hV : Below wr.heap.size wr V) : FiJ r zs lv sv cv QX k U V := by
  obtain ⟨so, cap, h1, h2, h3, h4⟩ := h
  exact ⟨so, cap, h1, (hV.block _ h2.lt).trans h2, ownsRow_below h3 hV, h4.trans (hV.mono (Nat.le_of_lt h2.lt))⟩
set_option maxRecDepth 100000 in
set_option maxHeartbeats 6400000 in
theorem rawFill_any (r : RawF) (lv tv sv cv : Value) (PW PH : Int) (v : Value) (zs : List Int) (w : World) (hr : IsRaw w r lv tv sv cv) (hv : IsInts w v zs) (hroom : roomy v) :
    Calls Tryz.prog 12 #[.agg (rawA r lv tv sv cv), .agg #[.int .i64 PW, .int .i64 PH, v]] w fun e w' => Below w.heap.size w w' ∧ ((fillFE r PW PH zs = 0 ∧ ∃ lv' tv' sv' cv', e = .returned (.tuple #[.agg (rawA (fillFR r zs) lv' tv' sv' cv'), .int .i64 0]) ∧ IsRaw w' (fillFR r zs) lv' tv' sv' cv' ∧ Fresh w.heap.size lv' ∧ Fresh w.heap.size tv' ∧ Fresh w.heap.size sv' ∧ Fresh w.heap.size cv') ∨
      (fillFE r PW PH zs ≠ 0 ∧ e = .returned (.tuple #[.agg rawZ, .int .i64 (fillFE r PW PH zs)]))) := by
  have HR := hide hr
  have HV := hide hv
  have HCH := hide (fun (u : World) (hu : Below w.heap.size w u) => checkHead_any r lv tv sv cv u (HR.out.lens.below hu (Nat.le_refl _)))
  have HCP := hide (fun (u : World) (hu : Below w.heap.size w u) => rawPlan_any r lv tv sv cv u (HR.out.plan.below hu (Nat.le_refl _)))
  have HPL := hide (fun (u : World) (hu : Below w.heap.size w u) => plane_any PW PH v zs u (HV.out.below hu (Nat.le_refl _)))
  have HDP := hide (fun (hd : 1 ≤ r.depth ∧ r.depth ≤ 16) (u : World) (hu : Below w.heap.size w u) => hasDepth_any v zs r.depth u hd (HV.out.below hu (Nat.le_refl _)))
  have HBA := hide (fun (u : World) (hu : Below w.heap.size w u) g1 g2 g3 => bare_any r lv tv sv cv u (HR.out.below hu (Nat.le_refl _)) g1 g2 g3)
  have HSC0 := hide (fun (u : World) (h : Head r) => stripCount_any r lv tv sv cv u h)
  have HSR0 := hide (fun (k : Nat) (u : World) (h : Head r) (hk : k < cntN r) => stripRows_any r lv tv sv cv k u h hk)
  have HWS0 := hide (fun (v' : Value) (l : List Int) (n : Int) (u : World) (hu : Below w.heap.size w u) (hv' : IsInts u v' l) => writeStrip_any r lv tv sv cv v' l n u (HR.out.lens.below hu (Nat.le_refl _)) hv')
  have HE := hide (show fillFE r PW PH zs = if headE r = 0 then (if pErr r = 0 then (if fitP r PW PH zs = true then (if fiOk r zs (cntN r) = true then 0 else 4) else 1) else pErr r) else headE r from rfl)
  have HFP := hide (show fitP r PW PH zs = (planeOk PW PH zs && decide (PW = r.w) && decide (PH = r.h) && deepOk r.depth zs) from rfl)
  generalize fillFE r PW PH zs = E at *
  obtain ⟨vo, vc, rfl, hvl, _⟩ := hv
  have hvc : zs.length ≤ vc := hroom
  obtain ⟨a1, a2, a3⟩ := al3 w (Obj.cells (rawA r lv tv sv cv) 32) (Obj.cells #[.int .i64 PW, .int .i64 PH, .slice vo zs.length vc] 34) (Obj.cells rawZ 32)
  have HB := hide (be3 w (Obj.cells (rawA r lv tv sv cv) 32) (Obj.cells #[.int .i64 PW, .int .i64 PH, .slice vo zs.length vc] 34) (Obj.cells rawZ 32))
  have hl1 := (Array.getElem?_eq_some_iff.1 a1).1
  have hl2 := (Array.getElem?_eq_some_iff.1 a2).1
  have hl3 := (Array.getElem?_eq_some_iff.1 a3).1
  have iz : (Tryz.prog.info? 32).map (·.size) = some (rawZ : Array Value).size := by kernel_rfl
  have oz : (rawZ : Array Value).all (·.oneCell') = true := by simp [Value.oneCell']
  clear hr hroom
  go_enter Tryz.func12, Tryz.ntmps12
  go_wp2_with (refine wpList_load_row rfl 32 _ rfl _ rfl _ _ _ _ a1 Tryz.underlying32 rfl (by kernel_rfl) ?_)
  generalize ((w.alloc (Obj.cells (rawA r lv tv sv cv) 32)).alloc (Obj.cells #[.int .i64 PW, .int .i64 PH, .slice vo zs.length vc] 34)).alloc (Obj.cells rawZ 32) = U at *
  have HRC := hide (fun (v : World) (h : v.heap[w.heap.size]? = some (.cells (rawA r lv tv sv cv) 32 (0, 0))) => raw_cells h)
  have hi28 : (Tryz.prog.info? 32).map (·.size) = some ((rawA r lv tv sv cv) : Array Value).size := by kernel_rfl
  generalize (rawA r lv tv sv cv) = RQ at *
  refine (HCH.out _ HB.out).mono ?_
  rintro e V1 ⟨rfl, hb1⟩
  by_cases hF : headE r = 0
  rotate_left
  · rw [if_neg hF] at HE
    have he := HE.out
    subst he
    have hn : (headE r != 0) = true := by simpa using hF
    have g3 := (hb1.block _ hl3).trans a3
    have HG := hide (setRow_heap _ _ _ rawZ _ _ g3)
    have HBF := hide (below_setRow (g := w.heap.size + 2) (bel_trans HB.out hb1) (by omega) rawZ)
    go_wp2_with (refine wpList_store_row rfl 32 _ _ rfl (w.heap.size + 2) rawZ rfl rfl _ _ g3 iz rfl oz ?_)
    refine bodyPost_ret (v := .tuple #[.agg rawZ, .int .i64 (headE r)]) (raw_results4 Tryz.results12 _ _ _ _ _ rfl rfl HG.out iz) rfl ⟨HBF.out, .inr ⟨hF, rfl⟩⟩
  rw [if_pos hF] at HE
  rw [hF]
  have hH := headE_zero hF
  have HHD := hide hH
  have g1 := (hb1.block _ hl1).trans a1
  clear HCH hF
  go_wp2_with (refine wpList_load_row rfl 32 _ rfl _ rfl _ _ _ _ g1 Tryz.underlying32 rfl hi28 ?_)
  refine (HCP.out _ (bel_trans HB.out hb1)).mono ?_
  rintro e V2 ⟨rfl, hb2⟩
  replace hb2 := bel_trans hb1 hb2
  clear g1 hb1
  by_cases hP : pErr r = 0
  rotate_left
  · rw [if_neg hP] at HE
    have he := HE.out
    subst he
    have hn : (pErr r != 0) = true := by simpa using hP
    have g3 := (hb2.block _ hl3).trans a3
    have HG := hide (setRow_heap _ _ _ rawZ _ _ g3)
    have HBF := hide (below_setRow (g := w.heap.size + 2) (bel_trans HB.out hb2) (by omega) rawZ)
    go_wp2_with (refine wpList_store_row rfl 32 _ _ rfl (w.heap.size + 2) rawZ rfl rfl _ _ g3 iz rfl oz ?_)
    refine bodyPost_ret (v := .tuple #[.agg rawZ, .int .i64 (pErr r)]) (raw_results4 Tryz.results12 _ _ _ _ _ rfl rfl HG.out iz) rfl ⟨HBF.out, .inr ⟨hP, rfl⟩⟩
  rw [if_pos hP] at HE
  rw [hP]
  have HPZ := hide hP
  clear HCP hP
  have g2 := (hb2.block _ hl2).trans a2
  obtain ⟨p0, p1, p2⟩ := cells3 g2
  go_wp2_with fail
  clear p0 p1 p2
  refine (HPL.out _ (bel_trans HB.out hb2)).mono ?_
  rintro e V3 ⟨rfl, hb3⟩
  replace hb3 := bel_trans hb2 hb3
  clear g2 hb2 HPL
  have g2 := (hb3.block _ hl2).trans a2
  have g1 := (hb3.block _ hl1).trans a1
  obtain ⟨p0, p1, p2⟩ := cells3 g2
  obtain ⟨s0, s1, s2, s3, s4, s5, s6, s13, s26⟩ := HRC.out _ g1
  clear g1 g2
  cases hpo : planeOk PW PH zs
  · have he : E = 1 := by rw [HE.out, HFP.out, hpo]; rfl
    subst he
    clear HFP
    have g3 := (hb3.block _ hl3).trans a3
    have HG := hide (setRow_heap _ _ _ rawZ _ _ g3)
    have HBF := hide (below_setRow (g := w.heap.size + 2) (bel_trans HB.out hb3) (by omega) rawZ)
    go_wp2_with (refine wpList_store_row rfl 32 _ _ rfl (w.heap.size + 2) rawZ rfl rfl _ _ g3 iz rfl oz ?_)
    refine bodyPost_ret (v := .tuple #[.agg rawZ, .int .i64 1]) (raw_results4 Tryz.results12 _ _ _ _ _ rfl rfl HG.out iz) rfl ⟨HBF.out, .inr ⟨by decide, rfl⟩⟩
  by_cases hpw : PW = r.w
  rotate_left
  · have hn1 : (PW != r.w) = true := by simpa using hpw
    have he : E = 1 := by rw [HE.out, HFP.out, decide_eq_false hpw]; simp
    subst he
    clear HFP
    have g3 := (hb3.block _ hl3).trans a3
    have HG := hide (setRow_heap _ _ _ rawZ _ _ g3)
    have HBF := hide (below_setRow (g := w.heap.size + 2) (bel_trans HB.out hb3) (by omega) rawZ)
    go_wp2_with (refine wpList_store_row rfl 32 _ _ rfl (w.heap.size + 2) rawZ rfl rfl _ _ g3 iz rfl oz ?_)
    refine bodyPost_ret (v := .tuple #[.agg rawZ, .int .i64 1]) (raw_results4 Tryz.results12 _ _ _ _ _ rfl rfl HG.out iz) rfl ⟨HBF.out, .inr ⟨by decide, rfl⟩⟩
  have hn1 : (PW != r.w) = false := by simpa using hpw
  by_cases hph : PH = r.h
  rotate_left
  · have hn2 : (PH != r.h) = true := by simpa using hph
    have he : E = 1 := by rw [HE.out, HFP.out, decide_eq_false hph]; simp
    subst he
    clear HFP
    have g3 := (hb3.block _ hl3).trans a3
    have HG := hide (setRow_heap _ _ _ rawZ _ _ g3)
    have HBF := hide (below_setRow (g := w.heap.size + 2) (bel_trans HB.out hb3) (by omega) rawZ)
    go_wp2_with (refine wpList_store_row rfl 32 _ _ rfl (w.heap.size + 2) rawZ rfl rfl _ _ g3 iz rfl oz ?_)
    refine bodyPost_ret (v := .tuple #[.agg rawZ, .int .i64 1]) (raw_results4 Tryz.results12 _ _ _ _ _ rfl rfl HG.out iz) rfl ⟨HBF.out, .inr ⟨by decide, rfl⟩⟩
  have hn2 : (PH != r.h) = false := by simpa using hph
  go_wp2_with fail
  refine (HDP.out HHD.out.depth _ (bel_trans HB.out hb3)).mono ?_
  rintro e V4 ⟨rfl, rfl⟩
  cases hdo : deepOk r.depth zs
  · have he : E = 1 := by rw [HE.out, HFP.out, hdo]; simp
    subst he
    clear HFP p0 p1 p2 s0 s1 s2 s3 s4 s5 s6 s13 s26
    have g3 := (hb3.block _ hl3).trans a3
    have HG := hide (setRow_heap _ _ _ rawZ _ _ g3)
    have HBF := hide (below_setRow (g := w.heap.size + 2) (bel_trans HB.out hb3) (by omega) rawZ)
    go_wp2_with (refine wpList_store_row rfl 32 _ _ rfl (w.heap.size + 2) rawZ rfl rfl _ _ g3 iz rfl oz ?_)
    refine bodyPost_ret (v := .tuple #[.agg rawZ, .int .i64 1]) (raw_results4 Tryz.results12 _ _ _ _ _ rfl rfl HG.out iz) rfl ⟨HBF.out, .inr ⟨by decide, rfl⟩⟩
  have hfit : fitP r PW PH zs = true := by rw [HFP.out, hpo, hdo, decide_eq_true hpw, decide_eq_true hph]; rfl
  rw [if_pos hfit] at HE
  have HFT := hide hfit
  obtain ⟨hW, hHh, hlen, _⟩ := planeOk_parts hpo
  have hsm := side_mul hW hHh
  have hn1' : 1 ≤ zs.length := by omega
  have hz4 : zs.length ≤ 4096 := by omega
  have HLEN := hide (show (zs.length : Int) = r.w * r.h by rw [hlen, hpw, hph])
  obtain ⟨bk, off, ca, hve, hbk, hcell⟩ := HV.out.cells hn1'
  cases hve
  have HC := hide hcell
  clear HFP HDP hfit hpo hdo hpw hph hn1 hn2 p0 p1 p2 s0 s1 s2 s3 s4 s5 s6 s13 s26 hlen hsm hcell hW hHh hH
  have g1 := (hb3.block _ hl1).trans a1
  have hle17 : r.lens.length ≤ 1000000 := by
    have := HHD.out.lens
    unfold kindE at this
    split at this
    · split at this
      · omega
      · cases this
    · have := (checkE_zero this).2.1; omega
  have hplz : planE r.plan = 0 := by
    have := HPZ.out
    unfold pErr at this
    split at this
    · assumption
    · exact this
  have hsp : r.plan.spots.length ≤ 1000000 := by have := (planE_zero hplz).2.2.2.2.2.1; omega
  have hcu : r.plan.curve.length ≤ 1000000 := by have := curve_le (planE_zero hplz).2.2.2.2.2.2.2; omega
  go_wp2_with (refine wpList_load_row rfl 32 _ rfl _ rfl _ _ _ _ g1 Tryz.underlying32 rfl hi28 ?_)
  clear g1
  refine (HBA.out _ (bel_trans HB.out hb3) hle17 hsp hcu).mono ?_
  rintro e VB ⟨lv', sv', cv', rfl, hIB, hbB, f1, f3, f4⟩
  clear HBA hle17 hplz hsp hcu
  have HFR := hide (show Fresh U.heap.size lv' ∧ Fresh U.heap.size sv' ∧ Fresh U.heap.size cv' from ⟨f1.mono hb3.size, f3.mono hb3.size, f4.mono hb3.size⟩)
  replace hbB := bel_trans hb3 hbB
  clear hb3 f1 f3 f4
  have HIB := hide hIB
  have HO := hide (raw_one hIB)
  have HRAW := hide (show rawA (bareR r) lv' (.slice none 0 0) sv' cv' = rawA r lv' (.slice none 0 0) sv' cv' from rfl)
  obtain ⟨RA, hRA⟩ : ∃ RA, rawA (bareR r) lv' (.slice none 0 0) sv' cv' = RA := ⟨_, rfl⟩
  have i1 : (Tryz.prog.info? 32).map (·.size) = some RA.size := by rw [← hRA]; kernel_rfl
  have i2 : (rawZ : Array Value).size = RA.size := by rw [← hRA]; rfl
  rw [hRA] at HO HRAW ⊢
  have HRA := hide hRA
  have hos := HO.out
  clear hRA hIB
  have z1 := al1 VB (Obj.cells rawZ 32)
  have c1 := setRow_heap _ _ _ RA _ _ z1
  have HBX := hide (below_setRow (g := VB.heap.size) (bel_alloc VB (Obj.cells rawZ 32)) (Nat.le_refl _) RA)
  go_upto_region 10 with (refine wpList_store_row rfl 32 _ _ rfl VB.heap.size RA rfl rfl _ _ z1 i1 i2 hos ?_)
  clear z1
  obtain ⟨QX, hQX⟩ : ∃ QX, VB.heap.size = QX := ⟨_, rfl⟩
  rw [hQX] at c1 HBX ⊢
  have HJ0 := hide (show FiJ r zs lv' sv' cv' QX 0 VB ((VB.alloc (Obj.cells rawZ 32)).setRow QX RA) from ⟨none, 0, rfl, c1.trans (by rw [HRAW.out]), ⟨by simp [fiS], .inl ⟨rfl, rfl⟩⟩, HBX.out⟩)
  have hUQ : U.heap.size ≤ QX := by rw [← hQX]; exact hbB.size
  generalize (VB.alloc (Obj.cells rawZ 32)).setRow QX RA = V5 at *
  have hb5 : Below U.heap.size U V5 := hbB.trans (HBX.out.mono hUQ)
  have HSC := hide (fun (u : World) => HSC0.out u HHD.out)
  have g1 := (hb5.block _ hl1).trans a1
  have g2 := (hb5.block _ hl2).trans a2
  obtain ⟨p0, p1, p2⟩ := cells3 g2
  have hcp := HHD.out.cnt_le
  have HPA := hide (parN_int HHD.out)
  clear HBX c1 HO HRAW hos i1 i2 HRA
  clear g2 HSC0
  generalize hC : cntN r = C at *
  have HCN := hide hC
  clear hC
  go_wp2_with (refine wpList_load_row rfl 32 _ rfl _ rfl _ _ _ _ g1 Tryz.underlying32 rfl hi28 ?_)
  refine (HSC.out _).mono ?_
  rintro e V6 ⟨rfl, hb6⟩
  have HJ6 := hide (HJ0.out.below hb6)
  clear HJ0 g1 p0 p1 p2 HSC hb5
  have HBU := hide (show Below U.heap.size U VB from hbB)
  go_wp2_with fail
  go_loopw [9, 58] (fun lf i wr => ∃ k : Nat, k ≤ C ∧ i = .int .i64 k ∧ (∃ ao m c, lf = .slice (some ao) m c ∧ (k < C → ao = ⟨bk, off + parN r k, none⟩ ∧ m = zs.length - parN r k ∧ c = vc - parN r k)) ∧ FiJ r zs lv' sv' cv' QX k VB wr) (fun _ i _ => C - (intOf i).toNat)
  case atStart => exact ⟨0, Nat.zero_le _, rfl, ⟨_, _, _, rfl, fun _ => by simp [parN]⟩, HJ6.out⟩
  case round =>
    clear HJ6
    obtain ⟨k, hk, rfl, ⟨ao, m, c, rfl, hao⟩, hJ⟩ := hrel
    have HJ := hide hJ
    obtain ⟨so, cap, j1, j2, j3, j4⟩ := hJ
    have hUQ2 : Below U.heap.size U wr := hbB.trans (j4.mono hUQ)
    by_cases hlt : k < C
    · have hd : decide ((k : Int) < (C : Int)) = true := by simp; omega
      obtain ⟨rfl, rfl, rfl⟩ := hao hlt
      have hlc : k < cntN r := by have := HCN.out; omega
      have HSR := hide (fun (u : World) => HSR0.out k u HHD.out hlt)
      have hple := par_le HHD.out hlc
      have hsz := HHD.out.size hlc
      have hL := HLEN.out
      rw [Int.mul_comm] at hL
      rw [← hL] at hple
      obtain ⟨M, hM⟩ : ∃ M : Nat, rowN r k * r.w = M := ⟨(rowN r k * r.w).toNat, by omega⟩
      have HPR := hide (show parL r zs k = (zs.drop (parN r k)).take M by rw [parL, hM, Int.toNat_natCast])
      have HNX := hide (show k + 1 < C → parN r (k + 1) = parN r k + M ∧ parN r k + M < zs.length from fun h => by
        have hc2 : k + 1 < cntN r := by have := HCN.out; omega
        have e1 := par_next HHD.out hc2
        have e2 := par_le HHD.out hc2
        have e3 := HHD.out.size hc2
        rw [hM] at e1
        rw [← hL] at e2
        omega)
      have HEI := hide (ws_err HHD.out hlc HFT.out)
      have HFF := hide (fun hk0 => fiOk_false (r := r) (zs := zs) hlc hk0)
      have HFS := hide (fiS_succ r zs k)
      have HOK := hide (show wsE r (parL r zs k) (rowN r k) = 0 → fiOk r zs (k + 1) = true from fun h0 => by rw [fiOk_succ, j1, h0]; rfl)
      rw [hM] at hple hsz
      generalize rowN r k = RN at *
      generalize hPP : parN r k = PP at *
      clear hPP
      have hwm : IntKind.i64.wrap (M : Int) = M := IntWalk.i64_in _ (by omega)
      have hpm : PP + M ≤ zs.length := by omega
      have hM1 : 1 ≤ M := by omega
      have HII := hide (fun (u : World) (hu : Below w.heap.size w u) => part_ints (ca := vc) (fun j hj => (hu.cell (p := ⟨bk, off + j, none⟩) hbk).trans (HC.out j hj)) (Nat.lt_of_lt_of_le hbk hu.size) hpm hz4)
      rw [← HPR.out] at HII
      generalize parL r zs k = PT at *
      have HWS := hide (fun (u : World) (hu : Below w.heap.size w u) => HWS0.out _ PT RN u hu (HII.out u hu))
      obtain ⟨NP, hNP⟩ : ∃ NP, zs.length - PP = NP := ⟨_, rfl⟩
      obtain ⟨CP, hCP⟩ : ∃ CP, vc - PP = CP := ⟨_, rfl⟩
      obtain ⟨OP, hOP⟩ : ∃ OP, off + PP = OP := ⟨_, rfl⟩
      rw [hCP, hOP] at HWS
      rw [hNP, hCP, hOP]
      have hMC : M ≤ CP := by omega
      have hMN : M ≤ NP := by omega
      have HOP := hide hOP
      have HNP := hide hNP
      have HCP2 := hide hCP
      clear hOP hNP hCP hL hple hsz hao
      have hsl1 : ∀ V : World, (Instr.slice 22 (.slice (some ⟨bk, OP, none⟩) NP CP) none (some (.int .i64 M)) none).run Tryz.prog V = .ok (.slice (some ⟨bk, OP, none⟩) M CP) V := fun V => run_upto Tryz.prog 22 3 Tryz.underlying22 (fun _ => by kernel_rfl) bk OP NP CP M hMC V
      obtain ⟨AD, hAD⟩ : ∃ AD : Addr, (if CP = M then (⟨bk, OP, none⟩ : Addr) else (⟨bk, OP, none⟩ : Addr).add M) = AD := ⟨_, rfl⟩
      have hsl2 : ∀ V : World, (Instr.slice 22 (.slice (some ⟨bk, OP, none⟩) NP CP) (some (.int .i64 M)) none none).run Tryz.prog V = .ok (.slice (some AD) (NP - M) (CP - M)) V := fun V => by rw [← hAD]; exact run_from Tryz.prog 22 3 Tryz.underlying22 (fun _ => by kernel_rfl) ⟨bk, OP, none⟩ NP CP M hMN V
      have HAD := hide hAD
      have HM := hide hM
      clear hAD hpm HII HPR
      have hkQ := j2.lt
      have hlw : w.heap.size < wr.heap.size := Nat.lt_of_lt_of_le hl1 hUQ2.size
      have g1 := (hUQ2.block _ hl1).trans a1
      have HS := hide (show ∀ v, Below wr.heap.size wr v → v.heap[w.heap.size]? = some (.cells RQ 32 (0, 0)) ∧ v.cell? ⟨w.heap.size, 0, none⟩ = some (.int .i64 r.w) from fun v h => ⟨(h.block _ hlw).trans g1, (HRC.out v ((h.block _ hlw).trans g1)).1⟩)
      clear j1 j2 j3 HSR0 HWS0
      go_wp2_with (refine wpList_load_row rfl 32 _ rfl _ rfl _ _ _ _ g1 Tryz.underlying32 rfl hi28 ?_)
      clear g1
      refine (HSR.out _).mono ?_
      rintro e X1 ⟨rfl, hx1⟩
      go_upto_region 15 with fail
      have hWd : Below wr.heap.size wr X1.drew := hx1.drew
      have hSd := HS.out _ hWd
      have hmx : Tryz.prog.follows .mixedOrders = true := by kernel_rfl
      refine wp_region_last (S := (fun v : World => v.heap[w.heap.size]? = some (.cells RQ 32 (0, 0)) ∧ v.cell? ⟨w.heap.size, 0, none⟩ = some (.int .i64 r.w))) (f := 13) hmx ?_
      show wpAnyF _ _ _ _ _ _ 14 _ _ X1.drew
      refine wpAnyF_takeP (i := 0) (oi := _) (v := .agg RQ) (some 65) [] rfl rfl (by kernel_rfl) (by kernel_rfl) (by kernel_rfl) (by kernel_rfl) (by kernel_rfl) (fun _ _ _ h => h) (Or.inl ⟨by rfl, ?yy1⟩) hSd ?rr1
      case yy1 => (intro wq hSq; obtain ⟨hq1, hq2⟩ := hSq; exact exec_row 32 _ rfl _ rfl _ _ _ _ hq1 Tryz.underlying32 rfl hi28)
      simp only [Act.put, List.setIfInBounds_toArray, List.set_cons_succ, List.set_cons_zero]
      refine wpAnyF_takeP (i := 1) (oi := _) (v := ?vv2) (some 66) [] rfl rfl (by kernel_rfl) (by kernel_rfl) (by kernel_rfl) (by kernel_rfl) (by kernel_rfl) (fun _ _ _ h => h) (Or.inl ⟨by rfl, ?yy2⟩) hSd ?rr2
      case yy2 => (intro wq hSq; obtain ⟨hq1, hq2⟩ := hSq; go_simp <;> with_reducible rfl)
      simp only [Act.put, List.setIfInBounds_toArray, List.set_cons_succ, List.set_cons_zero]
      refine wpAnyF_takeP (i := 2) (oi := _) (v := ?vv3) (some 67) [] rfl rfl (by kernel_rfl) (by kernel_rfl) (by kernel_rfl) (by kernel_rfl) (by kernel_rfl) (fun _ _ _ h => h) (Or.inl ⟨by rfl, ?yy3⟩) hSd ?rr3
      case yy3 => (intro wq hSq; obtain ⟨hq1, hq2⟩ := hSq; go_simp <;> with_reducible rfl)
      simp only [Act.put, List.setIfInBounds_toArray, List.set_cons_succ, List.set_cons_zero]
      refine wpAnyF_takeP (i := 3) (oi := _) (v := ?vv4) (some 68) [] rfl rfl (by kernel_rfl) (by kernel_rfl) (by kernel_rfl) (by kernel_rfl) (by kernel_rfl) (fun _ _ _ h => h) (Or.inl ⟨by rfl, ?yy4⟩) hSd ?rr4
      case yy4 => (intro wq hSq; obtain ⟨hq1, hq2⟩ := hSq; go_simp <;> with_reducible rfl)
      simp only [Act.put, List.setIfInBounds_toArray, List.set_cons_succ, List.set_cons_zero]
      refine wpAnyF_takeP (i := 7) (oi := _) (v := ?vv5) (some 72) [] rfl rfl (by kernel_rfl) (by kernel_rfl) (by kernel_rfl) (by kernel_rfl) (by kernel_rfl) (fun _ _ _ h => h) (Or.inl ⟨by rfl, ?yy5⟩) hSd ?rr5
      case yy5 => (intro wq hSq; obtain ⟨hq1, hq2⟩ := hSq; go_simp <;> with_reducible rfl)
      simp only [Act.put, List.setIfInBounds_toArray, List.set_cons_succ, List.set_cons_zero]
      refine wpAnyF_takeP (i := 4) (oi := _) (v := ?vv6) (some 69) [] rfl rfl (by kernel_rfl) (by kernel_rfl) (by kernel_rfl) (by kernel_rfl) (by kernel_rfl) (fun _ _ _ h => h) (Or.inl ⟨by rfl, ?yy6⟩) hSd ?rr6
      case yy6 => (intro wq hSq; obtain ⟨hq1, hq2⟩ := hSq; go_simp <;> with_reducible rfl)
      simp only [Act.put, List.setIfInBounds_toArray, List.set_cons_succ, List.set_cons_zero]
      refine wpAnyF_takeP (i := 5) (oi := _) (v := .int .i64 M) (some 70) [] rfl rfl (by kernel_rfl) (by kernel_rfl) (by kernel_rfl) (by kernel_rfl) (by kernel_rfl) (fun _ _ _ h => h) (Or.inl ⟨by rfl, ?yy7⟩) hSd ?rr7
      case yy7 => (intro wq hSq; obtain ⟨hq1, hq2⟩ := hSq; first | (go_simp; done) | (go_simp; rw [hM]; try (go_simp <;> with_reducible rfl)))
      simp only [Act.put, List.setIfInBounds_toArray, List.set_cons_succ, List.set_cons_zero]
      refine wpAnyF_takeP (i := 6) (oi := _) (v := ?vv8) (some 71) [] rfl rfl (by kernel_rfl) (by kernel_rfl) (by kernel_rfl) (by kernel_rfl) (by kernel_rfl) (fun _ _ _ h => h) (Or.inl ⟨by rfl, ?yy8⟩) hSd ?rr8
      case yy8 => (intro wq hSq; obtain ⟨hq1, hq2⟩ := hSq; go_simp <;> with_reducible rfl)
      simp only [Act.put, List.setIfInBounds_toArray, List.set_cons_succ, List.set_cons_zero]
      refine wpAnyF_one (i := 8) (o := _) (by kernel_rfl) rfl (fun K' hK => ?_)
      rw [if_pos (by rfl)]
      go_simp
      refine (HWS.out _ (bel_trans HB.out (bel_trans hUQ2 hWd))).mono ?_
      rintro e X2 ⟨rfl, hx2⟩
      have hX2 : Below wr.heap.size wr X2 := bel_trans hWd hx2
      have hSd := HS.out _ hX2
      refine hK.out _ _ hSd ?_
      clear hK
      try simp only [Act.put]
      refine wpAnyF_takeP (i := 9) (oi := _) (v := ?vv9) (some 64) [] rfl rfl (by kernel_rfl) (by kernel_rfl) (by kernel_rfl) (by kernel_rfl) (by kernel_rfl) (fun _ _ _ h => h) (Or.inl ⟨by rfl, ?yy9⟩) hSd ?rr9
      case yy9 => (intro wq hSq; obtain ⟨hq1, hq2⟩ := hSq; go_simp <;> with_reducible rfl)
      simp only [Act.put, List.setIfInBounds_toArray, List.set_cons_succ, List.set_cons_zero]
      refine wpAnyF_takeP (i := 10) (oi := _) (v := ?vv10) (some 74) [] rfl rfl (by kernel_rfl) (by kernel_rfl) (by kernel_rfl) (by kernel_rfl) (by kernel_rfl) (fun _ _ _ h => h) (Or.inl ⟨by rfl, ?yy10⟩) hSd ?rr10
      case yy10 => (intro wq hSq; obtain ⟨hq1, hq2⟩ := hSq; go_simp <;> with_reducible rfl)
      simp only [Act.put, List.setIfInBounds_toArray, List.set_cons_succ, List.set_cons_zero]
      refine wpAnyF_takeP (i := 11) (oi := _) (v := ?vv11) (some 75) [] rfl rfl (by kernel_rfl) (by kernel_rfl) (by kernel_rfl) (by kernel_rfl) (by kernel_rfl) (fun _ _ _ h => h) (Or.inl ⟨by rfl, ?yy11⟩) hSd ?rr11
      case yy11 => (intro wq hSq; obtain ⟨hq1, hq2⟩ := hSq; go_simp <;> with_reducible rfl)
      simp only [Act.put, List.setIfInBounds_toArray, List.set_cons_succ, List.set_cons_zero]
      refine wpAnyF_one (i := 12) (o := _) (by kernel_rfl) rfl (fun K' hK => ?_)
      rw [if_pos (by rfl)]
      go_simp
      have hSd := hSd
      refine hK.out _ _ hSd ?_
      clear hK
      try simp only [Act.put]
      refine wpAnyF_last (o := _) (by kernel_rfl) rfl (fun K' hK => ?_)
      rw [if_pos (by rfl)]
      go_simp
      refine hK.out _ _ ?_
      clear hK
      refine wpAnyF_done (by kernel_rfl) ?_ _
      try simp only [Act.put]
      clear hSd hWd hx1 hx2
      have HJ2 := hide (HJ.out.below hX2)
      clear HJ HWS HSR
      obtain ⟨so, cap, k1, k2, k3, k4⟩ := HJ2.out
      have hUX : Below U.heap.size U X2 := hbB.trans (k4.mono hUQ)
      by_cases h0 : wsE r PT RN = 0
      · rw [h0]
        obtain ⟨T, hT⟩ : ∃ T, wsS r PT RN = T := ⟨_, rfl⟩
        rw [hT] at HFS ⊢
        clear hT
        obtain ⟨i0, hi, hz0, hz1, hz2⟩ := info_parts Tryz.infoStrF
        obtain ⟨s0, s1, s2, s3, s4, s5, s6, s13, s26⟩ := raw_cells k2
        have hlw2 : w.heap.size < X2.heap.size := Nat.lt_of_lt_of_le hl1 hUX.size
        have hXQ : QX < X2.heap.size := k2.lt
        have b2 : Holds QX 32 (rawA r lv' (.slice so k cap) sv' cv').toList (X2.alloc (Obj.cells #[.string (str T)] 9)) := ((bel_alloc X2 _).block _ hXQ).trans k2
        have o2 := ownsRow_below k3 (bel_alloc X2 (Obj.cells #[.string (str T)] 9))
        have c2 := al1 X2 (Obj.cells #[.string (str T)] 9)
        have b4 : Below QX VB (X2.alloc (Obj.cells #[.string (str T)] 9)) := k4.trans ((bel_alloc X2 _).mono (Nat.le_of_lt hXQ))
        have hkl : k ≤ 64 := by omega
        have gz := ((bel_alloc X2 (Obj.cells #[.string (str T)] 9)).block _ hlw2).trans ((hUX.block _ hl1).trans a1)
        have s6' : (X2.alloc (Obj.cells #[.string (str T)] 9)).cell? ⟨QX, 6, none⟩ = some (.slice so k cap) := by rw [Lib.cell_of_heap b2]; rfl
        have q2 : ∀ j u, [Value.string (str T)][j]? = some u → (X2.alloc (Obj.cells #[.string (str T)] 9)).cell? ((⟨X2.heap.size, 0, none⟩ : Addr).add j) = some u := by
          intro j u hj
          rcases j with _ | j
          · simp only [List.getElem?_cons_zero, Option.some.injEq] at hj
            rw [Addr.add_lit, Lib.cell_of_heap c2, ← hj]; rfl
          · simp at hj
        have q3 : ∀ u ∈ [Value.string (str T)], u.oneCell' = true := by intro u hu; rw [List.mem_singleton.1 hu]; rfl
        have q4 : k + 1 ≤ maxLen := by unfold maxLen; omega
        have q5 : (k + 1) * 16 ≤ 140737488355328 := by omega
        have q6 : QX ≤ (X2.alloc (Obj.cells #[.string (str T)] 9)).heap.size := by simp; omega
        clear s0 s1 s2 s3 s4 s5 s13 s26 k1 k2 k3 HJ2
        go_wp2_with (at_builtin; refine wpList_append_own _ rfl _ _ 23 rfl QX 9 i0 (.string ⟨#[]⟩) 1 16 Tryz.underlying23 hi hz0 hz1 hz2 rfl (by decide) _ k ((fiS r zs k).map strV) rfl o2 ⟨X2.heap.size, 0, none⟩ 1 1 [.string (str T)] rfl rfl q2 q3 q4 q5 q6 ?_)
        intro v' w1 hown hgrow hnil
        obtain ⟨x1, x2, x3, x4, x5, x6⟩ := app_box (i := 6) (by decide) b2 rfl o2 b4 (Nat.le_refl _) (Nat.le_refl _) (by simp; omega) hgrow hown
        rcases id hown.2 with ⟨_, hn0⟩ | ⟨g, cp, cur, rfl, _⟩
        · exfalso; omega
        have HJ3 := hide (show FiJ r zs lv' sv' cv' QX (k + 1) VB (w1.setCell ⟨QX, 6, none⟩ (.slice (some ⟨g, 0, none⟩) (k + 1) cp)) from ⟨some ⟨g, 0, none⟩, cp, HOK.out h0, x3, by rw [HFS.out, List.map_append]; exact x4, x5⟩)
        have gw : (w1.setCell ⟨QX, 6, none⟩ (.slice (some ⟨g, 0, none⟩) (k + 1) cp)).heap[w.heap.size]? = some (.cells RQ 32 (0, 0)) := (x6 _ (by simp; omega) (own_ne o2 gz (by decide)) (by omega)).trans gz
        obtain ⟨r0, _⟩ := HRC.out _ gw
        clear x3 x4 x5 x6 gw gz b2 o2 c2 b4 hown hgrow hnil
        have hwm2 : IntKind.i64.wrap (RN * r.w) = (M : Int) := by rw [hM]; exact hwm
        go_wp2
        go_roundw
        case rel =>
          refine ⟨k + 1, hlt, by go_num, ⟨_, _, _, rfl, fun h => ?_⟩, HJ3.out⟩
          obtain ⟨e, e'⟩ := HNX.out h
          have := HNP.out
          have := HCP2.out
          have := HOP.out
          rw [← HAD.out, if_neg, Addr.add_lit, e]
          · refine ⟨by rw [← HOP.out, Nat.add_assoc], by omega, by omega⟩
          · omega
        case measure => simp [intOf]; omega
      · rcases HEI.out with he | he
        · exact absurd he h0
        rw [he]
        have hzf := HFF.out h0
        rw [HCN.out] at hzf
        have hee : E = 4 := by rw [HE.out, hzf]; rfl
        subst hee
        clear k1 k2 k3 k4
        have g3 := (hUX.block _ hl3).trans a3
        have HG := hide (setRow_heap _ _ _ rawZ _ _ g3)
        have HBF := hide (below_setRow (g := w.heap.size + 2) (bel_trans HB.out hUX) (by omega) rawZ)
        go_wp2_with (refine wpList_store_row rfl 32 _ _ rfl (w.heap.size + 2) rawZ rfl rfl _ _ g3 iz rfl oz ?_)
        refine bodyPost_ret (v := .tuple #[.agg rawZ, .int .i64 4]) (raw_results4 Tryz.results12 _ _ _ _ _ rfl rfl HG.out iz) rfl ⟨HBF.out, .inr ⟨by decide, rfl⟩⟩
    · have hd : decide ((k : Int) < (C : Int)) = false := by simp; omega
      obtain rfl : k = C := by omega
      have he : E = 0 := by rw [HE.out, if_pos j1]
      subst he
      have g3 := (hUQ2.block _ hl3).trans a3
      obtain ⟨RA, hRA⟩ : ∃ RA, rawA r lv' (.slice so k cap) sv' cv' = RA := ⟨_, rfl⟩
      have i1 : (Tryz.prog.info? 32).map (·.size) = some RA.size := by rw [← hRA]; kernel_rfl
      have i2 : (rawZ : Array Value).size = RA.size := by rw [← hRA]; rfl
      have hIF : IsRaw wr (fillFR r zs) lv' (.slice so k cap) sv' cv' := ⟨HIB.out.lens.below j4 (by omega), IsStrs.own (base := QX) (by rw [show (fillFR r zs).strips = fiS r zs k by rw [fillFR, HCN.out]]; simpa [fiS] using j3) (by rw [show (fillFR r zs).strips = fiS r zs k by rw [fillFR, HCN.out]]; simp [fiS]; omega), HIB.out.plan.spots.below j4 (by omega), HIB.out.plan.curve.below j4 (by omega)⟩
      have hos : RA.all (·.oneCell') = true := by rw [← hRA]; exact (raw_one hIF : (rawA (fillFR r zs) lv' (.slice so k cap) sv' cv').all (·.oneCell') = true)
      have HRA := hide hRA
      have d1 : wr.heap[QX]? = some (.cells RA 32 (0, 0)) := by rw [← hRA]; exact j2
      have HG := hide (setRow_heap _ _ _ RA _ _ g3)
      have HBF := hide (below_setRow (g := w.heap.size + 2) (bel_trans HB.out hUQ2) (by omega) RA)
      have hfo := Fresh.own j3
      obtain ⟨f1, f3, f4⟩ := HFR.out
      have HIF := hide (hIF.other (k := w.heap.size + 2) (w' := wr.setRow (w.heap.size + 2) RA) (B := U.heap.size) (by simp) (fun b hb => setRow_other _ _ _ _ hb) hl3 f1 (hfo.mono hUQ) f3 f4)
      have hw : w.heap.size ≤ U.heap.size := by omega
      have HFZ := hide (show Fresh w.heap.size lv' ∧ Fresh w.heap.size (.slice so k cap) ∧ Fresh w.heap.size sv' ∧ Fresh w.heap.size cv' from ⟨f1.mono hw, hfo.mono (by omega), f3.mono hw, f4.mono hw⟩)
      clear hRA f1 f3 f4 hfo hIF j1 j2 j3 j4 HJ hao
      go_wp2_with (first | refine wpList_load_row rfl 32 _ rfl _ rfl _ _ _ _ d1 Tryz.underlying32 rfl i1 ?_ | refine wpList_store_row rfl 32 _ _ rfl (w.heap.size + 2) RA rfl rfl _ _ g3 i1 i2 hos ?_)
      have HRF := hide (show rawA (fillFR r zs) lv' (.slice so k cap) sv' cv' = RA from HRA.out)
      first
      | refine bodyPost_ret (v := .tuple #[.agg RA, .int .i64 0]) (raw_results4 Tryz.results12 _ _ _ _ _ rfl rfl HG.out i1) rfl ⟨HBF.out, _, _, _, _, by rw [HRF.out], HIF.out, HFZ.out⟩
      | refine bodyPost_ret (v := .tuple #[.agg RA, .int .i64 0]) (raw_results4 Tryz.results12 _ _ _ _ _ rfl rfl HG.out i1) rfl ⟨HBF.out, .inl ⟨rfl, _, _, _, _, by rw [HRF.out], HIF.out, HFZ.out⟩⟩
end Go.Proofs.YtanebhbfekcplaaGreat

namespace Go.Proofs.YtanebhbfekcplaaGreat
open Go.RowKit
theorem nineL_get (m : Nat → Int) (k : Nat) (h : k < (nineL m).length) : (nineL m)[k] = m k := by simp [nineL]
set_option maxRecDepth 100000 in
set_option maxHeartbeats 800000 in
theorem mixFine_any (m : Nat → Int) (w : World) : Calls Tryz.prog 109 #[.agg (nine m)] w fun e w' => e = .returned (.bool (matOk m)) ∧ Below w.heap.size w w' := by
  obtain ⟨R, hR⟩ : ∃ R, matOk m = R := ⟨_, rfl⟩
  rw [hR]
  have HR := hide (show R = allIn (-32768) 32768 (nineL m) by rw [← hR]; rfl)
  clear hR
  have g := al1 w (Obj.cells (nine m) 27)
  have HC := hide (fun k (hk : k < 9) => show (w.alloc (Obj.cells (nine m) 27)).cell? ⟨w.heap.size, k, none⟩ = some (.int .i64 (m k)) by rw [Lib.cell_of_heap g, nine_get m k hk])
  have hB := bel_alloc w (Obj.cells (nine m) 27)
  have h9 : (nineL m).length = 9 := by simp [nineL]
  have HL9 := hide h9
  clear g h9
  go_enter Tryz.func109, Tryz.ntmps109
  go_wp2
  generalize w.alloc (Obj.cells (nine m) 27) = U at *
  go_loop [3] (fun i => ∃ k : Nat, k ≤ 9 ∧ i = .int .i64 k ∧ Hid (allIn (-32768) 32768 ((nineL m).take k) = true)) (fun i => 9 - (intOf i).toNat)
  case atStart => exact ⟨0, by omega, rfl, rfl⟩
  case round =>
    obtain ⟨k, hk, rfl, HA⟩ := hrel
    by_cases hlt : k < 9
    · have c1 := HC.out k hlt
      have hlt' : k < (nineL m).length := by rw [HL9.out]; exact hlt
      by_cases hx : -32768 ≤ m k ∧ m k ≤ 32768
      · have hsx : decide (-32768 ≤ m k ∧ m k ≤ 32768) = true := by simpa using hx
        have HT := hide (show allIn (-32768) 32768 ((nineL m).take (k + 1)) = true by rw [List.take_succ_eq_append_getElem hlt', allIn_snoc, HA.out, nineL_get]; exact hsx)
        clear hx
        go_wp2_with (go_at_call 55; refine (within_any _ _ _ _).mono ?_; rintro e wx ⟨rfl, rfl⟩; rw [hsx])
        go_round
        case rel => exact ⟨k + 1, by omega, by go_num, HT⟩
        case measure => simp [intOf]; omega
      · have hsx : decide (-32768 ≤ m k ∧ m k ≤ 32768) = false := by simpa using hx
        have HX := hide (show false = R by rw [HR.out, allIn_false (-32768) 32768 (nineL m) k hlt' (by rw [nineL_get]; exact hx)])
        clear hx
        go_wp2_with (go_at_call 55; refine (within_any _ _ _ _).mono ?_; rintro e wx ⟨rfl, rfl⟩; rw [hsx])
        go_ret
        exact ⟨ret_bool HX.out, hB⟩
    · have HX := hide (show true = R by rw [HR.out, ← HA.out, List.take_of_length_le (by rw [HL9.out]; omega)])
      go_wp2
      go_ret
      exact ⟨ret_bool HX.out, hB⟩
end Go.Proofs.YtanebhbfekcplaaGreat

namespace Go.Proofs.YtanebhbfekcplaaGreat
open Go.RowKit
set_option maxRecDepth 100000 in
set_option maxHeartbeats 1600000 in
theorem curveFine_any (v : Value) (ls : List Pt) (w : World) (hv : IsPts w v ls) :
    Calls Tryz.prog 110 #[v] w fun e w' => e = .returned (.bool (curveOk ls)) ∧ Below w.heap.size w w' := by
  obtain ⟨ao, ca, rfl, hla, hc⟩ := hv
  obtain ⟨R, hR⟩ : ∃ R, curveOk ls = R := ⟨_, rfl⟩
  rw [hR]
  by_cases hn : 2 ≤ (ls.length : Int) ∧ (ls.length : Int) ≤ 16
  · have hdn : decide (2 ≤ (ls.length : Int) ∧ (ls.length : Int) ≤ 16) = true := by simpa using hn
    obtain ⟨bk, off, hao, hbl, hcell⟩ : ∃ b off, ao = some ⟨b, off, none⟩ ∧ b < w.heap.size ∧ ∀ j, j < ls.length →
        w.cell? ⟨b, off + j * 2, none⟩ = some (.int .i64 (ptAt ls j).1) ∧ w.cell? ⟨b, off + j * 2 + 1, none⟩ = some (.int .i64 (ptAt ls j).2) := by
      rcases hc with h | h
      · subst h; simp at hn
      · exact h
    subst hao
    have HCELL := hide hcell; clear hcell hc
    obtain ⟨n0, n1⟩ := hn
    have p0 := (HCELL.out 0 (by omega)).1
    have p1 := (HCELL.out (ls.length - 1) (by omega)).1
    rw [Nat.zero_mul, Nat.add_zero] at p0
    by_cases hf : (ptAt ls 0).1 = 0
    · by_cases ht : (ptAt ls (ls.length - 1)).1 = 65535
      · have HR := hide (show R = ptsOk ls ls.length by rw [← hR, curveOk, endsOk, hdn, hf, ht]; rfl)
        rw [hf] at p0
        rw [ht] at p1
        clear hR hf ht
        go_enter Tryz.func110, Tryz.ntmps110
        go_wp2_with (go_at_call 55; refine (within_any _ _ _ _).mono ?_; rintro e wx ⟨rfl, rfl⟩; rw [hdn])
        clear p0 p1 hdn
        go_loopw [3] (fun i wr => ∃ k : Nat, k ≤ ls.length ∧ i = .int .i64 k ∧ Hid (ptsOk ls k = true) ∧ ∃ n, wr = w.drewN n) (fun i _ => ls.length - (intOf i).toNat)
        case atStart => exact ⟨0, Nat.zero_le _, rfl, rfl, 0, rfl⟩
        case round =>
          obtain ⟨k, hk, rfl, HA, nn, rfl⟩ := hrel
          by_cases hlt : k < ls.length
          · have hlt2 : (k : Int) < (ls.length : Int) := by omega
            obtain ⟨c0, c1⟩ := HCELL.out k hlt
            have HS := hide (ptsOk_succ ls k)
            have HF := hide (fun h => ptsOk_false ls k ls.length hlt h)
            by_cases hy : ptY ls k = true
            · have hyd : decide (0 ≤ (ptAt ls k).2 ∧ (ptAt ls k).2 ≤ 65535) = true := hy
              have HWI := hide (show ∀ w', Calls Tryz.prog 55 #[.int .i64 (ptAt ls k).2, .int .i64 0, .int .i64 65535] w' fun e w'' => e = .returned (.bool true) ∧ w'' = w' from fun w' => by
                have h := withinQ (ptAt ls k).2 0 65535 w'
                rw [hyd] at h; exact h)
              clear hyd
              have hpr : ∀ i, k = i + 1 → w.cell? ⟨bk, off + i * 2, none⟩ = some (.int .i64 (ptAt ls i).1) ∧ w.cell? ⟨bk, off + i * 2 + 1, none⟩ = some (.int .i64 (ptAt ls i).2) := fun i e => HCELL.out i (by omega)
              cases k with
              | zero =>
                have HT := hide (show ptsOk ls (0 + 1) = true by rw [HS.out, HA.out, hy]; simp [ptStep])
                clear hy HS HF hpr
                simp only [Nat.zero_mul, Nat.add_zero] at c0 c1
                go_wp2_with fail
                go_quiet ((go_at_call 55; exact (HWI.out _).mono (fun _ _ h => ⟨h.1, _, h.2⟩)))
                go_wp2
                go_roundw
                case rel => exact ⟨0 + 1, by omega, by go_num, HT, _, rfl⟩
                case measure => simp [intOf]; omega
              | succ i =>
                obtain ⟨d0, d1⟩ := hpr i rfl
                clear hpr
                have hwi : IntKind.i64.wrap (i : Int) = (i : Int) := IntWalk.i64_in _ (by omega)
                have hil : i < ls.length := by omega
                have hil2 : (i : Int) < (ls.length : Int) := by omega
                have hil3 : 0 ≤ (i : Int) := by omega
                have hil4 : (i : Int) + 1 < (ls.length : Int) := by omega
                by_cases hs : (ptAt ls i).1 < (ptAt ls (i + 1)).1
                · have hsb : decide ((ptAt ls (i + 1)).1 ≤ (ptAt ls i).1) = false := by simp; omega
                  by_cases hs2 : (ptAt ls i).2 ≤ (ptAt ls (i + 1)).2
                  · have hsb2 : decide ((ptAt ls (i + 1)).2 < (ptAt ls i).2) = false := by simp; omega
                    have HT := hide (show ptsOk ls (i + 1 + 1) = true by rw [HS.out, HA.out, hy]; simp [ptStep, hs, hs2])
                    clear hy HS HF hs hs2
                    go_wp2_with fail
                    go_quiet ((go_at_call 55; exact (HWI.out _).mono (fun _ _ h => ⟨h.1, _, h.2⟩)))
                    go_wp2
                    go_roundw
                    case rel => exact ⟨i + 1 + 1, by omega, by go_num, HT, _, rfl⟩
                    case measure => simp [intOf]; omega
                  · have hsb2 : decide ((ptAt ls (i + 1)).2 < (ptAt ls i).2) = true := by simp; omega
                    have HX := hide (show false = R by rw [HR.out, HF.out (by rw [hy]; simp [ptStep]; omega)])
                    clear hy HS HF hs hs2
                    go_wp2_with fail
                    go_quiet ((go_at_call 55; exact (HWI.out _).mono (fun _ _ h => ⟨h.1, _, h.2⟩)))
                    go_wp2
                    go_ret
                    exact ⟨ret_bool HX.out, by first | exact below_drewN (Below.refl _ _) _ | exact below_drewN (below_drewN (Below.refl _ _) _) _⟩
                · have hsb : decide ((ptAt ls (i + 1)).1 ≤ (ptAt ls i).1) = true := by simp; omega
                  have HX := hide (show false = R by rw [HR.out, HF.out (by rw [hy]; simp [ptStep]; omega)])
                  clear hy HS HF hs
                  go_wp2_with fail
                  go_quiet ((go_at_call 55; exact (HWI.out _).mono (fun _ _ h => ⟨h.1, _, h.2⟩)))
                  go_wp2
                  go_ret
                  exact ⟨ret_bool HX.out, by first | exact below_drewN (Below.refl _ _) _ | exact below_drewN (below_drewN (Below.refl _ _) _) _⟩
            · have hy : ptY ls k = false := by simpa using hy
              have hyd : decide (0 ≤ (ptAt ls k).2 ∧ (ptAt ls k).2 ≤ 65535) = false := hy
              have HWI := hide (show ∀ w', Calls Tryz.prog 55 #[.int .i64 (ptAt ls k).2, .int .i64 0, .int .i64 65535] w' fun e w'' => e = .returned (.bool false) ∧ w'' = w' from fun w' => by
                have h := withinQ (ptAt ls k).2 0 65535 w'
                rw [hyd] at h; exact h)
              clear hyd
              have HX := hide (show false = R by rw [HR.out, HF.out (by rw [hy]; rfl)])
              clear hy HS HF
              go_wp2_with fail
              go_quiet ((go_at_call 55; exact (HWI.out _).mono (fun _ _ h => ⟨h.1, _, h.2⟩)))
              go_wp2
              go_ret
              exact ⟨ret_bool HX.out, by first | exact below_drewN (Below.refl _ _) _ | exact below_drewN (below_drewN (Below.refl _ _) _) _⟩
          · have HX := hide (show true = R by rw [HR.out, ← HA.out, show k = ls.length by omega])
            have hd : decide ((k : Int) < (ls.length : Int)) = false := by simp; omega
            go_wp2
            go_ret
            exact ⟨ret_bool HX.out, by first | exact below_drewN (Below.refl _ _) _ | exact below_drewN (below_drewN (Below.refl _ _) _) _⟩
      · have HX := hide (show false = R by rw [← hR, curveOk, endsOk]; simp [ht])
        have hb : ((ptAt ls (ls.length - 1)).1 != 65535) = true := by simpa using ht
        rw [hf] at p0
        clear hR hf ht
        go_enter Tryz.func110, Tryz.ntmps110
        go_wp2_with (go_at_call 55; refine (within_any _ _ _ _).mono ?_; rintro e wx ⟨rfl, rfl⟩; rw [hdn])
        go_ret
        exact ⟨ret_bool HX.out, Below.refl _ _⟩
    · have HX := hide (show false = R by rw [← hR, curveOk, endsOk]; simp [hf])
      have hb : ((ptAt ls 0).1 != 0) = true := by simpa using hf
      clear hR hf
      go_enter Tryz.func110, Tryz.ntmps110
      go_wp2_with (go_at_call 55; refine (within_any _ _ _ _).mono ?_; rintro e wx ⟨rfl, rfl⟩; rw [hdn])
      go_ret
      exact ⟨ret_bool HX.out, Below.refl _ _⟩
  · have hdn : decide (2 ≤ (ls.length : Int) ∧ (ls.length : Int) ≤ 16) = false := by simpa using hn
    have HX := hide (show false = R by rw [← hR, curveOk, endsOk, hdn]; rfl)
    clear hR hn
    go_enter Tryz.func110, Tryz.ntmps110
    go_wp2_with (go_at_call 55; refine (within_any _ _ _ _).mono ?_; rintro e wx ⟨rfl, rfl⟩; rw [hdn])
    go_ret
    exact ⟨ret_bool HX.out, Below.refl _ _⟩
end Go.Proofs.YtanebhbfekcplaaGreat

namespace Go.Proofs.YtanebhbfekcplaaGreat
open Go.RowKit
def spotK (p : Pt) : Lit := .string (keyBytes [.int .i64 p.1, .int .i64 p.2])
def ptWf (p : Pt) : Prop := (Lit.int .i64 p.1).wf = true ∧ (Lit.int .i64 p.2).wf = true
def BadMap (w : World) (bm n : Nat) (ls : List Pt) : Prop :=
  ∃ D : DataW Unit, w.ownsMap Tryz.prog 77 (plainElem Tryz.prog 3) bm n D ∧ ∀ p, ptWf p → D.atKey (spotK p) (.lit (.int .i64 0)) = .lit (.int .i64 (ls.count p : Nat))
theorem BadMap.lt {w : World} {bm n : Nat} {ls : List Pt} (h : BadMap w bm n ls) : bm < w.heap.size := by
  obtain ⟨D, hD, _⟩ := h
  exact hD.lt
theorem BadMap.kept {w w' : World} {bm n : Nat} {ls : List Pt} {row : Option Nat} (h : BadMap w bm n ls) (hg : w.grownBy w' row) (hne : some bm ≠ row) : BadMap w' bm n ls := by
  obtain ⟨D, hD, hf⟩ := h
  exact ⟨D, hD.kept hg hne, hf⟩
theorem BadMap.below {w w' : World} {bm n B : Nat} {ls : List Pt} (h : BadMap w bm n ls) (hb : Below B w w') (hB : bm < B) : BadMap w' bm n ls := by
  obtain ⟨D, ⟨es, clock, hh, r⟩, hf⟩ := h
  exact ⟨D, ⟨es, clock, by rw [hb.block bm hB]; exact hh, r⟩, hf⟩
theorem BadMap.alloc {w : World} {bm n : Nat} {ls : List Pt} (h : BadMap w bm n ls) (o : Obj) : BadMap (w.alloc o) bm n ls := h.kept (World.grownBy_alloc w o none) (by simp)
theorem BadMap.drew {w : World} {bm n : Nat} {ls : List Pt} (h : BadMap w bm n ls) : BadMap w.drew bm n ls := h
theorem BadMap.made (w : World) : BadMap (w.alloc (.map #[] 0)) w.heap.size 0 [] :=
  ⟨.map [], World.ownsMap_made w _ _ _, fun _ _ => rfl⟩
theorem BadMap.same {w w' : World} {bm n : Nat} {ls : List Pt} (h : BadMap w bm n ls) (hb : w'.heap[bm]? = w.heap[bm]?) : BadMap w' bm n ls := by
  obtain ⟨D, ⟨es, clock, hh, r⟩, hf⟩ := h
  exact ⟨D, ⟨es, clock, hb.trans hh, r⟩, hf⟩
theorem BadMap.mono {w : World} {bm n n' : Nat} {ls : List Pt} (h : BadMap w bm n ls) (hn : n ≤ n') : BadMap w bm n' ls := by
  obtain ⟨D, hD, hf⟩ := h
  exact ⟨D, hD.mono hn, hf⟩
section
open Go.ChangeMaps Go.MapKept
open Go.WideElems (Fit set_self)
end
end Go.Proofs.YtanebhbfekcplaaGreat

namespace Go.Proofs.YtanebhbfekcplaaGreat
set_option linter.unusedVariables false
open Go.RowKit
def ReJ (w W0 : World) (bm W H : Nat) (ls : List Pt) (k : Nat) (wr : World) : Prop :=
  BadMap wr bm k (ls.take k) ∧ (∀ b, b < W0.heap.size → b ≠ bm → wr.heap[b]? = W0.heap[b]?) ∧ W0.heap.size ≤ wr.heap.size ∧ Below w.heap.size w wr ∧ ∀ i, i < k → hasB W H (ptAt ls i).1 (ptAt ls i).2 = true
theorem ReJ.next {w W0 : World} {bm W H : Nat} {ls : List Pt} {k : Nat} {wr V w2 : World} (h : ReJ w W0 bm W H ls k wr) (hbm : w.heap.size ≤ bm) (hV : Below wr.heap.size wr V) (hk : k < ls.length) (hh : hasB W H (ptAt ls k).1 (ptAt ls k).2 = true)
    (hm : BadMap w2 bm (k + 1) (ls.take k ++ [ptAt ls k])) (hg : V.grownBy w2 (some bm)) : ReJ w W0 bm W H ls (k + 1) w2 := by
  obtain ⟨h1, h2, h3, h4, h5⟩ := h
  refine ⟨?_, fun b hb hne => ?_, ?_, (h4.trans (hV.mono h4.size)).grown hg (Nat.le_trans h4.size hV.size) (fun j hj => by cases hj; exact hbm), fun i hi => ?_⟩
  · rw [List.take_succ_eq_append_getElem hk, ptAt_get]; exact hm
  · rw [hg.block b (Nat.lt_of_lt_of_le hb (Nat.le_trans h3 hV.size)) (fun e => hne (by cases e; rfl)), hV.block b (Nat.lt_of_lt_of_le hb h3)]
    exact h2 b hb hne
  · exact Nat.le_trans h3 (Nat.le_trans hV.size hg.size)
  · rcases Nat.lt_succ_iff_lt_or_eq.1 hi with h | rfl
    · exact h5 i h
    · exact hh
end Go.Proofs.YtanebhbfekcplaaGreat

namespace Go.Proofs.YtanebhbfekcplaaGreat
set_option linter.unusedVariables false
open Go.RowKit
set_option maxRecDepth 100000 in
set_option maxHeartbeats 800000 in
theorem spotsIn_any (v : Value) (ls : List Pt) (W H : Int) (hW : 1 ≤ W ∧ W ≤ 64) (hH : 1 ≤ H ∧ H ≤ 64) (w : World) (hv : IsPts w v ls) :
    Calls Tryz.prog 58 #[v, .int .i64 W, .int .i64 H] w fun e w' => e = .returned (.bool (spotsB W H ls)) ∧ w = w' := by
  obtain ⟨ao, ca, rfl, hla, hc0⟩ := hv
  have HC := hide (fun j hj => IsPts.at ⟨ao, ca, rfl, hla, hc0⟩ j hj)
  clear hc0
  obtain ⟨hW1, hW2⟩ := hW
  obtain ⟨hH1, hH2⟩ := hH
  obtain ⟨R, hR⟩ : ∃ R, spotsB W H ls = R := ⟨_, rfl⟩
  rw [hR]
  have HR := hide hR
  clear hR
  go_enter Tryz.func58, Tryz.ntmps58
  go_wp2
  go_loop [7] (fun i => ∃ k : Nat, k ≤ ls.length ∧ i = .int .i64 k ∧ Hid (∀ i, i < k → hasB W H (ptAt ls i).1 (ptAt ls i).2 = true)) (fun i => ls.length - (intOf i).toNat)
  case atStart => exact ⟨0, Nat.zero_le _, rfl, hide (fun i hi => by omega)⟩
  case round =>
    obtain ⟨k, hk, rfl, HA⟩ := hrel
    by_cases hlt : k < ls.length
    · have hd : decide ((k : Int) < (ls.length : Int)) = true := by simp; omega
      obtain ⟨bq, oq, rfl, hbq, e0, e1⟩ := HC.out k hlt
      have HF := hide (fun h => spotsB_not (W := W) (H := H) k hlt h)
      have HT := hide (show hasB W H (ptAt ls k).1 (ptAt ls k).2 = true → ∀ i, i < k + 1 → hasB W H (ptAt ls i).1 (ptAt ls i).2 = true from fun hn i hi => by
        rcases Nat.lt_succ_iff_lt_or_eq.1 hi with h | rfl
        · exact HA.out i h
        · exact hn)
      obtain ⟨⟨a, b⟩, hab⟩ : ∃ p, ptAt ls k = p := ⟨_, rfl⟩
      rw [hab] at e0 e1 HF HT
      simp only at e0 e1 HF HT
      clear hab
      by_cases hx : 0 ≤ a ∧ a ≤ W - 1
      · have hxd : decide (0 ≤ a ∧ a ≤ W - 1) = true := by simpa using hx
        by_cases hy : 0 ≤ b ∧ b ≤ H - 1
        · have hyd : decide (0 ≤ b ∧ b ≤ H - 1) = true := by simpa using hy
          have HN := hide (HT.out (by simp [hasB]; omega))
          clear hx hy
          go_wp2_with (go_at_call 55; refine (within_any _ _ _ _).mono ?_; rintro e wx ⟨rfl, rfl⟩; first | rw [hxd] | rw [hyd])
          go_round
          case rel => exact ⟨k + 1, by omega, by go_num, HN⟩
          case measure => simp [intOf]; omega
        · have hyd : decide (0 ≤ b ∧ b ≤ H - 1) = false := by simpa using hy
          have hr : R = false := HR.out.symm.trans (HF.out (by simp [hasB]; omega))
          subst hr
          clear hx hy
          go_wp2_with (go_at_call 55; refine (within_any _ _ _ _).mono ?_; rintro e wx ⟨rfl, rfl⟩; first | rw [hxd] | rw [hyd])
          go_ret
          exact ⟨rfl, rfl⟩
      · have hxd : decide (0 ≤ a ∧ a ≤ W - 1) = false := by simpa using hx
        have hr : R = false := HR.out.symm.trans (HF.out (by simp [hasB]; omega))
        subst hr
        clear hx
        go_wp2_with (go_at_call 55; refine (within_any _ _ _ _).mono ?_; rintro e wx ⟨rfl, rfl⟩; rw [hxd])
        go_ret
        exact ⟨rfl, rfl⟩
    · have hd : decide ((k : Int) < (ls.length : Int)) = false := by simp; omega
      have hkl : k = ls.length := by omega
      have hr : R = true := HR.out.symm.trans (spotsB_get (fun i hi => HA.out i (by omega)))
      subst hr
      go_wp2
      go_ret
      exact ⟨rfl, rfl⟩
end Go.Proofs.YtanebhbfekcplaaGreat

namespace Go.Proofs.YtanebhbfekcplaaGreat
set_option linter.unusedVariables false
open Go.RowKit
theorem allIn_arrL (a b : Int) (m : Nat → Int) (n : Nat) : allIn a b (arrL m n) = true ↔ ∀ k, k < n → a ≤ m k ∧ m k ≤ b := by
  constructor
  · intro h k hk; exact arrL_all h k hk
  · intro h
    refine List.all_eq_true.2 fun x hx => ?_
    obtain ⟨k, hk, rfl⟩ := List.mem_map.1 hx
    exact decide_eq_true (h k (List.mem_range.1 hk))
def firstOk (n : Plan) : Bool := phaseOk n.phase && decide (1 ≤ n.white ∧ n.white ≤ 65535) && decide ((n.spots.length : Int) ≤ 64) && spotsB 64 64 n.spots && matOk n.matrix && amountOk n.amount
theorem planE_ref (n : Plan) : planE n = if firstOk n = true ∧ allIn 0 (n.white - 1) (arrL n.black 4) = true ∧ allIn 0 65535 (arrL n.gains 3) = true then (if curveOk n.curve = true then 0 else 1) else 3 := by
  unfold planE firstOk sensOk toneOk spotOk levelsOk gainsOk
  congr 1
  simp only [Bool.and_eq_true]
  apply propext
  constructor
  · rintro ⟨⟨⟨⟨h1, h2, h3⟩, h4⟩, h5, h6⟩, h7, h8⟩
    exact ⟨⟨⟨⟨⟨⟨h1, h2⟩, h7⟩, h8⟩, h5⟩, h6⟩, h3, h4⟩
  · rintro ⟨⟨⟨⟨⟨⟨h1, h2⟩, h7⟩, h8⟩, h5⟩, h6⟩, h3, h4⟩
    exact ⟨⟨⟨⟨h1, h2, h3⟩, h4⟩, h5, h6⟩, h7, h8⟩
set_option maxRecDepth 100000 in
set_option maxHeartbeats 3200000 in
theorem checkPlan_any (n : Plan) (sv cv : Value) (w : World) (hp : IsPlan w n sv cv) :
    Calls Tryz.prog 57 #[.agg (planA n sv cv)] w fun e w' => e = .returned (.int .i64 (planE n)) ∧ Below w.heap.size w w' := by
  have HP := hide hp
  obtain ⟨⟨lo, lc, rfl, hll, _⟩, ⟨ko, kc, rfl, hkl, _⟩⟩ := hp
  have a1 := al1 w (Obj.cells (planA n (.slice lo n.spots.length lc) (.slice ko n.curve.length kc)) 30)
  have HB := hide (bel_alloc w (Obj.cells (planA n (.slice lo n.spots.length lc) (.slice ko n.curve.length kc)) 30))
  have HE := hide (planE_ref n)
  obtain ⟨E, hE⟩ : ∃ E, planE n = E := ⟨_, rfl⟩
  rw [hE] at HE ⊢
  clear hE
  have HFO := hide (show firstOk n = (phaseOk n.phase && decide (1 ≤ n.white ∧ n.white ≤ 65535) && decide ((n.spots.length : Int) ≤ 64) && spotsB 64 64 n.spots && matOk n.matrix && amountOk n.amount) from rfl)
  have hph : decide (0 ≤ n.phase ∧ n.phase ≤ 3) = phaseOk n.phase := rfl
  have ham : decide (0 ≤ n.amount ∧ n.amount ≤ 1024) = amountOk n.amount := rfl
  have HPH := hide hph
  have HAM := hide ham
  clear hph ham
  go_enter Tryz.func57, Tryz.ntmps57
  go_upto_region 1 with fail
  have hl1 := (Array.getElem?_eq_some_iff.1 a1).1
  generalize w.alloc (Obj.cells (planA n (.slice lo n.spots.length lc) (.slice ko n.curve.length kc)) 30) = U at *
  have HCL := hide (fun (v : World) (h : Below U.heap.size U v) => plan_cells ((h.block _ hl1).trans a1))
  go_cut [38] from 5 (fun s v => s = .bool (!firstOk n) ∧ Below U.heap.size U v)
  case first =>
    obtain ⟨c0, c1, c2, c3, c4, c5, c6, c7, c8, c9, c10, c11, c12, c13, c14, c15, c16, c17, c18, c19, c20⟩ := HCL.out U (Below.refl _ _)
    cases p1 : phaseOk n.phase
    · have HS0 := hide (show true = !firstOk n by rw [HFO.out, p1]; rfl)
      go_wp2_with (go_at_call 55; refine (within_any _ _ _ _).mono ?_; rintro e wx ⟨rfl, rfl⟩; rw [HPH.out, p1])
      go_meet
      case rel => exact ⟨by rw [HS0.out], Below.refl _ _⟩
    · cases p2 : decide (1 ≤ n.white ∧ n.white ≤ 65535)
      · have HS0 := hide (show true = !firstOk n by rw [HFO.out, p1, p2]; rfl)
        go_wp2_with (go_at_call 55; refine (within_any _ _ _ _).mono ?_; rintro e wx ⟨rfl, rfl⟩; first | rw [HPH.out, p1] | rw [p2])
        go_meet
        case rel => exact ⟨by rw [HS0.out], Below.refl _ _⟩
      · by_cases p3 : (n.spots.length : Int) ≤ 64
        · have hd : decide (64 < (n.spots.length : Int)) = false := by simp; omega
          have hd3 : decide ((n.spots.length : Int) ≤ 64) = true := by simpa using p3
          cases p4 : spotsB 64 64 n.spots
          · have HS0 := hide (show true = !firstOk n by rw [HFO.out, p1, p2, hd3, p4]; rfl)
            go_wp2_with (first | (go_at_call 55; refine (within_any _ _ _ _).mono ?_; rintro e wx ⟨rfl, rfl⟩; first | rw [HPH.out, p1] | rw [p2]) | (go_at_call 58; refine (spotsIn_any _ n.spots 64 64 (by omega) (by omega) _ (HP.out.spots.below HB.out (Nat.le_refl _))).mono ?_; rintro e wx ⟨rfl, rfl⟩; rw [p4]))
            go_meet
            case rel => exact ⟨by rw [HS0.out], Below.refl _ _⟩
          · go_wp2_with (first | (go_at_call 55; refine (within_any _ _ _ _).mono ?_; rintro e wx ⟨rfl, rfl⟩; first | rw [HPH.out, p1] | rw [p2]) | (go_at_call 58; refine (spotsIn_any _ n.spots 64 64 (by omega) (by omega) _ (HP.out.spots.below HB.out (Nat.le_refl _))).mono ?_; rintro e wx ⟨rfl, rfl⟩; rw [p4]))
            refine (mixFine_any n.matrix _).mono ?_
            rintro e V1 ⟨rfl, hb1⟩
            clear c0 c1 c2 c3 c4 c5 c6 c7 c8 c9 c10 c11 c12 c13 c14 c15 c16 c17 c18 c19 c20
            cases p5 : matOk n.matrix
            · have HS0 := hide (show true = !firstOk n by rw [HFO.out, p1, p2, hd3, p4, p5]; rfl)
              go_wp2
              go_meet
              case rel => exact ⟨by rw [HS0.out], hb1⟩
            · obtain ⟨c0, c1, c2, c3, c4, c5, c6, c7, c8, c9, c10, c11, c12, c13, c14, c15, c16, c17, c18, c19, c20⟩ := HCL.out V1 hb1
              have HS0 := hide (show (!amountOk n.amount) = !firstOk n by rw [HFO.out, p1, p2, hd3, p4, p5]; rfl)
              go_wp2_with (go_at_call 55; refine (within_any _ _ _ _).mono ?_; rintro e wx ⟨rfl, rfl⟩; rw [HAM.out])
              go_meet
              case rel => exact ⟨by rw [HS0.out], hb1⟩
        · have hd : decide (64 < (n.spots.length : Int)) = true := by simp; omega
          have hd3 : decide ((n.spots.length : Int) ≤ 64) = false := by simpa using p3
          have HS0 := hide (show true = !firstOk n by rw [HFO.out, p1, p2, hd3]; rfl)
          go_wp2_with (go_at_call 55; refine (within_any _ _ _ _).mono ?_; rintro e wx ⟨rfl, rfl⟩; first | rw [HPH.out, p1] | rw [p2])
          go_meet
          case rel => exact ⟨by rw [HS0.out], Below.refl _ _⟩
  case rest =>
    obtain ⟨rfl, hbc⟩ := hcut
    have HBC := hide (HB.out.trans (hbc.mono HB.out.size))
    cases pf : firstOk n
    · have he : E = 3 := by rw [HE.out, if_neg (fun h => by rw [pf] at h; cases h.1)]
      subst he
      go_wp2
      go_ret
      exact ⟨rfl, HBC.out⟩
    · have hwh : 1 ≤ n.white ∧ n.white ≤ 65535 := by
        rw [HFO.out] at pf
        simp only [Bool.and_eq_true, decide_eq_true_eq] at pf
        exact pf.1.1.1.1.2
      obtain ⟨hw1, hw2⟩ := hwh
      have HE2 := hide (show E = if allIn 0 (n.white - 1) (arrL n.black 4) = true ∧ allIn 0 65535 (arrL n.gains 3) = true then (if curveOk n.curve = true then 0 else 1) else 3 by rw [HE.out, pf]; simp only [true_and])
      clear pf HE HFO
      go_wp2_with fail
      go_loopw [3] (fun i wr => ∃ k : Nat, k ≤ 4 ∧ i = .int .i64 k ∧ Below U.heap.size U wr ∧ Hid (∀ j, j < k → 0 ≤ n.black j ∧ n.black j ≤ n.white - 1)) (fun i _ => 4 - (intOf i).toNat)
      case atStart => exact ⟨0, by omega, rfl, hbc, hide (fun j hj => by omega)⟩
      case round =>
        clear hbc HBC
        obtain ⟨k, hk, rfl, hbr, HA⟩ := hrel
        by_cases hlt : k < 4
        · have hd : decide ((k : Int) < 4) = true := by simp; omega
          have HCK := hide (show ∀ v, Below U.heap.size U v → v.cell? ⟨w.heap.size, 1 + k, none⟩ = some (.int .i64 (n.black k)) from fun v h => by
            rw [Lib.cell_of_heap ((h.block _ hl1).trans a1)]
            rcases (show k = 0 ∨ k = 1 ∨ k = 2 ∨ k = 3 by omega) with rfl | rfl | rfl | rfl <;> rfl)
          obtain ⟨bl, hbl⟩ : ∃ bl, n.black k = bl := ⟨_, rfl⟩
          have HBL := hide hbl
          rw [hbl] at HCK
          clear hbl
          have hkI : (k : Int) < 4 := by omega
          have hww : IntKind.i64.wrap (n.white - 1) = n.white - 1 := IntWalk.i64_in _ (by omega)
          have HS := hide (show ∀ v, Below U.heap.size U v → v.cell? ⟨w.heap.size, 1 + k, none⟩ = some (.int .i64 bl) ∧ v.cell? ⟨w.heap.size, 5, none⟩ = some (.int .i64 n.white) from fun v h => ⟨HCK.out v h, (HCL.out v h).2.2.2.2.2.1⟩)
          have hWd : Below U.heap.size U wr.drew := hbr.drew
          have hSd := HS.out _ hWd
          obtain ⟨B, hB⟩ : ∃ B, decide (0 ≤ bl ∧ bl ≤ n.white - 1) = B := ⟨_, rfl⟩
          have HBB := hide hB
          clear hB
          go_wp2_with fail
          have hmx : Tryz.prog.follows .mixedOrders = true := by kernel_rfl
          refine wp_region_last (S := fun v : World => v.cell? ⟨w.heap.size, 1 + k, none⟩ = some (.int .i64 bl) ∧ v.cell? ⟨w.heap.size, 5, none⟩ = some (.int .i64 n.white)) (f := 8) hmx ?_
          show wpAnyF _ _ _ _ _ _ 9 _ _ wr.drew
          refine wpAnyF_takeD (i := 0) (oi := _) (v := ?vv1) (some 43) rfl rfl (by kernel_rfl) (by kernel_rfl) (by kernel_rfl) (by kernel_rfl) (by kernel_rfl) (fun _ _ _ h => h) (Or.inl ⟨by rfl, ?yy1⟩) hSd ?rr1
          case yy1 => (intro wq hSq; obtain ⟨_, _⟩ := hSq; go_simp <;> with_reducible rfl)
          simp only [Act.put, List.setIfInBounds_toArray, List.set_cons_succ, List.set_cons_zero]
          refine wpAnyF_takeD (i := 1) (oi := _) (v := ?vv2) (some 44) rfl rfl (by kernel_rfl) (by kernel_rfl) (by kernel_rfl) (by kernel_rfl) (by kernel_rfl) (fun _ _ _ h => h) (Or.inl ⟨by rfl, ?yy2⟩) hSd ?rr2
          case yy2 => (intro wq hSq; obtain ⟨_, _⟩ := hSq; go_simp <;> with_reducible rfl)
          simp only [Act.put, List.setIfInBounds_toArray, List.set_cons_succ, List.set_cons_zero]
          refine wpAnyF_takeD (i := 4) (oi := _) (v := ?vv3) (some 47) rfl rfl (by kernel_rfl) (by kernel_rfl) (by kernel_rfl) (by kernel_rfl) (by kernel_rfl) (fun _ _ _ h => h) (Or.inl ⟨by rfl, ?yy3⟩) hSd ?rr3
          case yy3 => (intro wq hSq; obtain ⟨_, _⟩ := hSq; go_simp <;> with_reducible rfl)
          simp only [Act.put, List.setIfInBounds_toArray, List.set_cons_succ, List.set_cons_zero]
          refine wpAnyF_takeD (i := 2) (oi := _) (v := ?vv4) (some 45) rfl rfl (by kernel_rfl) (by kernel_rfl) (by kernel_rfl) (by kernel_rfl) (by kernel_rfl) (fun _ _ _ h => h) (Or.inl ⟨by rfl, ?yy4⟩) hSd ?rr4
          case yy4 => (intro wq hSq; obtain ⟨_, _⟩ := hSq; go_simp <;> with_reducible rfl)
          simp only [Act.put, List.setIfInBounds_toArray, List.set_cons_succ, List.set_cons_zero]
          refine wpAnyF_takeD (i := 5) (oi := _) (v := ?vv5) (some 48) rfl rfl (by kernel_rfl) (by kernel_rfl) (by kernel_rfl) (by kernel_rfl) (by kernel_rfl) (fun _ _ _ h => h) (Or.inl ⟨by rfl, ?yy5⟩) hSd ?rr5
          case yy5 => (intro wq hSq; obtain ⟨_, _⟩ := hSq; go_simp <;> with_reducible rfl)
          simp only [Act.put, List.setIfInBounds_toArray, List.set_cons_succ, List.set_cons_zero]
          refine wpAnyF_takeD (i := 3) (oi := _) (v := ?vv6) (some 46) rfl rfl (by kernel_rfl) (by kernel_rfl) (by kernel_rfl) (by kernel_rfl) (by kernel_rfl) (fun _ _ _ h => h) (Or.inl ⟨by rfl, ?yy6⟩) hSd ?rr6
          case yy6 => (intro wq hSq; obtain ⟨_, _⟩ := hSq; go_simp <;> with_reducible rfl)
          simp only [Act.put, List.setIfInBounds_toArray, List.set_cons_succ, List.set_cons_zero]
          refine wpAnyF_takeD (i := 6) (oi := _) (v := ?vv7) (some 49) rfl rfl (by kernel_rfl) (by kernel_rfl) (by kernel_rfl) (by kernel_rfl) (by kernel_rfl) (fun _ _ _ h => h) (Or.inl ⟨by rfl, ?yy7⟩) hSd ?rr7
          case yy7 => (intro wq hSq; obtain ⟨_, _⟩ := hSq; go_simp <;> with_reducible rfl)
          simp only [Act.put, List.setIfInBounds_toArray, List.set_cons_succ, List.set_cons_zero]
          refine wpAnyF_one (i := 7) (o := _) (by kernel_rfl) rfl (fun K' hK => ?_)
          rw [if_pos (by rfl)]
          go_simp
          refine (within_any _ _ _ _).mono ?_
          rintro e Vx ⟨rfl, rfl⟩
          rw [HBB.out]
          have hSd := hSd
          refine hK.out _ _ hSd ?_
          clear hK
          try simp only [Act.put]
          refine wpAnyF_last (o := _) (by kernel_rfl) rfl (fun K' hK => ?_)
          rw [if_pos (by rfl)]
          go_simp
          refine hK.out _ _ ?_
          clear hK
          refine wpAnyF_done (by kernel_rfl) ?_ _
          try simp only [Act.put]
          cases B
          · have he : E = 3 := by
              rw [HE2.out, if_neg]
              intro h
              have h2 := (allIn_arrL _ _ _ _).1 h.1 k hlt
              rw [HBL.out] at h2
              exact of_decide_eq_false HBB.out h2
            subst he
            go_wp2
            go_ret
            exact ⟨rfl, HB.out.trans (hWd.mono HB.out.size)⟩
          · have HN := hide (show ∀ j, j < k + 1 → 0 ≤ n.black j ∧ n.black j ≤ n.white - 1 from fun j hj => by
              rcases Nat.lt_succ_iff_lt_or_eq.1 hj with h | rfl
              · exact HA.out j h
              · rw [HBL.out]; exact of_decide_eq_true HBB.out)
            go_wp2
            go_roundw
            case rel => (repeat apply Exists.intro); exact ⟨⟨k + 1, by omega, by go_num, hWd, HN⟩, rfl⟩
            case measure => simp [intOf]; omega
        · have hd : decide ((k : Int) < 4) = false := by simp; omega
          obtain rfl : k = 4 := by omega
          have HE3 := hide (show E = if allIn 0 65535 (arrL n.gains 3) = true then (if curveOk n.curve = true then 0 else 1) else 3 by rw [HE2.out, (allIn_arrL _ _ _ _).2 HA.out]; simp only [true_and])
          clear HA HE2
          go_wp2_with fail
          go_loopw [4] (fun i wv => ∃ k : Nat, k ≤ 3 ∧ i = .int .i64 k ∧ Below U.heap.size U wv ∧ Hid (∀ j, j < k → 0 ≤ n.gains j ∧ n.gains j ≤ 65535)) (fun i _ => 3 - (intOf i).toNat)
          case atStart => exact ⟨0, by omega, rfl, hbr, hide (fun j hj => by omega)⟩
          case round =>
            clear hbr hd
            obtain ⟨k, hk, rfl, hbr, HA⟩ := hrel
            by_cases hlt : k < 3
            · have hd : decide ((k : Int) < 3) = true := by simp; omega
              have hck : wr.cell? ⟨w.heap.size, 7 + k, none⟩ = some (.int .i64 (n.gains k)) := by
                rw [Lib.cell_of_heap ((hbr.block _ hl1).trans a1)]
                rcases (show k = 0 ∨ k = 1 ∨ k = 2 by omega) with rfl | rfl | rfl <;> rfl
              obtain ⟨bl, hbl⟩ : ∃ bl, n.gains k = bl := ⟨_, rfl⟩
              have HBL := hide hbl
              rw [hbl] at hck
              clear hbl
              have hkI : (k : Int) < 3 := by omega
              cases hB : decide (0 ≤ bl ∧ bl ≤ 65535)
              · have he : E = 3 := by
                  rw [HE3.out, if_neg]
                  intro h
                  have h2 := (allIn_arrL _ _ _ _).1 h k hlt
                  rw [HBL.out] at h2
                  exact of_decide_eq_false hB h2
                subst he
                have HBF := hide (HB.out.trans (hbr.mono HB.out.size))
                go_wp2_with (go_at_call 55; refine (within_any _ _ _ _).mono ?_; rintro e wx ⟨rfl, rfl⟩; rw [hB])
                go_ret
                exact ⟨rfl, HBF.out⟩
              · have HN := hide (show ∀ j, j < k + 1 → 0 ≤ n.gains j ∧ n.gains j ≤ 65535 from fun j hj => by
                  rcases Nat.lt_succ_iff_lt_or_eq.1 hj with h | rfl
                  · exact HA.out j h
                  · rw [HBL.out]; exact of_decide_eq_true hB)
                go_wp2_with (go_at_call 55; refine (within_any _ _ _ _).mono ?_; rintro e wx ⟨rfl, rfl⟩; rw [hB])
                go_roundw
                case rel => (repeat apply Exists.intro); exact ⟨⟨k + 1, by omega, by go_num, hbr, HN⟩, rfl⟩
                case measure => simp [intOf]; omega
            · have hd : decide ((k : Int) < 3) = false := by simp; omega
              obtain rfl : k = 3 := by omega
              have HE4 := hide (show E = if curveOk n.curve = true then 0 else 1 by rw [HE3.out, (allIn_arrL _ _ _ _).2 HA.out]; simp)
              clear HA HE3
              have HBF := hide (HB.out.trans (hbr.mono HB.out.size))
              obtain ⟨c0, c1, c2, c3, c4, c5, c6, c7, c8, c9, c10, c11, c12, c13, c14, c15, c16, c17, c18, c19, c20⟩ := HCL.out _ hbr
              go_wp2_with fail
              clear c0 c1 c2 c3 c4 c5 c6 c7 c8 c9 c10 c11 c12 c13 c14 c15 c16 c17 c18 c19 c20
              refine (curveFine_any _ n.curve _ (HP.out.curve.below HBF.out (Nat.le_refl _))).mono ?_
              rintro e V2 ⟨rfl, hb2⟩
              cases hcv : curveOk n.curve
              · have he : E = 1 := by rw [HE4.out, hcv]; rfl
                subst he
                go_wp2
                go_ret
                exact ⟨rfl, bel_trans HBF.out hb2⟩
              · have he : E = 0 := by rw [HE4.out, hcv]; rfl
                subst he
                go_wp2
                go_ret
                exact ⟨rfl, bel_trans HBF.out hb2⟩
end Go.Proofs.YtanebhbfekcplaaGreat
