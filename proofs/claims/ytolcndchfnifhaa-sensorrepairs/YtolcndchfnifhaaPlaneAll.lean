/- (grid.Grid).Plane with whatever a closure tells of each place. -/
import Derived.Test.YtolcndchfnifhaaPlaneTail
namespace Go.Proofs.Ytolcndchfnifhaa
open Go.RowKit Go.Shelf

attribute [local go_sem] Oper.semAt_some

set_option maxRecDepth 100000 in
set_option maxHeartbeats 1000000 in
theorem gridPlane_any (W H N : Nat) (hW : W ≤ 64) (hH : H ≤ 64) (hNHW : N = H * W) (tf : Nat) (caps : Array Value) (T : Nat → Int) (w : World) (eg : ∀ args w, (callFunc tf args).run Try.prog w = .ok (.enter tf args) w)
    (htell : ∀ (j : Nat) (V : World), j < N → Below w.heap.size w V → Calls Try.prog tf (#[.agg #[.int .i64 (j % W : Nat), .int .i64 (j / W : Nat)]] ++ caps) V fun e V' => e = .returned (.int .i64 (T j)) ∧ Below V.heap.size V V') :
    Calls Try.prog 95 #[.agg #[.int .i64 W, .int .i64 H], .func (.func tf) #[] caps] w fun e w' => ∃ r, e = .returned (.agg #[.int .i64 W, .int .i64 H, r]) ∧ IsInts w' r ((List.range N).map T) ∧ Below w.heap.size w w' ∧ Fresh w.heap.size r := by
  obtain ⟨i0, hi, hz0, hz1, hz2⟩ := info_parts Try.infoInt
  refine (callsIn_wide (n := 3)).1 ?_
  refine callsIn_of_wp_marks Try.func95 rfl trivial ?_ rfl
  simp only [Try.ntmps95, List.size_toArray, List.length_cons, List.length_nil, Nat.reduceAdd, Nat.reduceSub, Array.replicate_succ, Array.replicate_zero, List.push_toArray, List.append_toArray, List.nil_append, List.cons_append]
  gi_wp2_with fail
  refine wpIn_wide.2 ?_
  have hN : N = W * H := by rw [hNHW, Nat.mul_comm]
  have HNHW := hide hNHW
  clear hNHW
  have hNi : (W : Int) * (H : Int) = (N : Int) := by rw [hN]; simp
  have hNb : N ≤ 4096 := by rw [hN]; exact Nat.le_trans (Nat.mul_le_mul hW hH) (by decide)
  have hmk : ∀ V : World, (Instr.makeSlice 35 (.int .i64 0) (.int .i64 N)).run Try.prog V = .ok (.slice (some ⟨V.heap.size, 0, none⟩) 0 N) (V.alloc (.cells (madeCells (Value.int .i64 0).cells (N * 1)) 3)) := fun V => by
    have h := run_make (P := Try.prog) V 35 3 i0 (.int .i64 0) Try.underlying35 hi hz0 .i64 .i64 0 N (Int.le_refl _) (by omega) (by rw [hz2]; omega) (by omega)
    rw [hz1] at h
    simpa using h
  have hwN : IntKind.i64.wrap ((W : Int) * (H : Int)) = (N : Int) := by rw [hNi]; exact IntWalk.i64_in _ (by omega)
  have hwM : IntKind.i64.wrap (N : Int) = (N : Int) := IntWalk.i64_in _ (by omega)
  have HN := hide hN
  clear hN
  have hB3 := bel_trans (bel_trans (bel_alloc w (Obj.cells #[.int .i64 W, .int .i64 H] 114)) (bel_alloc _ (Obj.cells #[.func (.func tf) #[] caps] 118))) (bel_alloc _ (Obj.cells #[.int .i64 0, .int .i64 0, .slice none 0 0] 57))
  have g0 : (((w.alloc (Obj.cells #[.int .i64 W, .int .i64 H] 114)).alloc (Obj.cells #[.func (.func tf) #[] caps] 118)).alloc (Obj.cells #[.int .i64 0, .int .i64 0, .slice none 0 0] 57)).heap[w.heap.size]? = some (.cells #[.int .i64 W, .int .i64 H] 114 (0, 0)) := by
    rw [Below.heap_alloc _ _ _ (by simp; omega), Below.heap_alloc _ _ _ (by simp)]; exact heap_alloc_new w _
  have g1 : (((w.alloc (Obj.cells #[.int .i64 W, .int .i64 H] 114)).alloc (Obj.cells #[.func (.func tf) #[] caps] 118)).alloc (Obj.cells #[.int .i64 0, .int .i64 0, .slice none 0 0] 57)).heap[w.heap.size + 1]? = some (.cells #[.func (.func tf) #[] caps] 118 (0, 0)) := by
    rw [Below.heap_alloc _ _ _ (by simp)]
    have h := heap_alloc_new (w.alloc (Obj.cells #[.int .i64 W, .int .i64 H] 114)) (Obj.cells #[.func (.func tf) #[] caps] 118)
    rw [World.size_alloc] at h; exact h
  have g2 : (((w.alloc (Obj.cells #[.int .i64 W, .int .i64 H] 114)).alloc (Obj.cells #[.func (.func tf) #[] caps] 118)).alloc (Obj.cells #[.int .i64 0, .int .i64 0, .slice none 0 0] 57)).heap[w.heap.size + 2]? = some (.cells #[.int .i64 0, .int .i64 0, .slice none 0 0] 57 (0, 0)) := by
    have h := heap_alloc_new ((w.alloc (Obj.cells #[.int .i64 W, .int .i64 H] 114)).alloc (Obj.cells #[.func (.func tf) #[] caps] 118)) (Obj.cells #[.int .i64 0, .int .i64 0, .slice none 0 0] 57)
    rw [World.size_alloc, World.size_alloc] at h; exact h
  have hs3 : (((w.alloc (Obj.cells #[.int .i64 W, .int .i64 H] 114)).alloc (Obj.cells #[.func (.func tf) #[] caps] 118)).alloc (Obj.cells #[.int .i64 0, .int .i64 0, .slice none 0 0] 57)).heap.size = w.heap.size + 3 := by simp
  generalize ((w.alloc (Obj.cells #[.int .i64 W, .int .i64 H] 114)).alloc (Obj.cells #[.func (.func tf) #[] caps] 118)).alloc (Obj.cells #[.int .i64 0, .int .i64 0, .slice none 0 0] 57) = W3 at *
  have k0 : W3.cell? ⟨w.heap.size, 0, none⟩ = some (.int .i64 W) := by rw [Lib.cell_of_heap g0]; rfl
  have k1 : W3.cell? ⟨w.heap.size, 1, none⟩ = some (.int .i64 H) := by rw [Lib.cell_of_heap g0]; rfl
  have HS := hide (show ∀ w', Below W3.heap.size W3 w' → w'.cell? ⟨w.heap.size, 0, none⟩ = some (.int .i64 W) ∧ w'.cell? ⟨w.heap.size, 1, none⟩ = some (.int .i64 H) from fun w' h =>
    ⟨(h.cell (p := ⟨w.heap.size, 0, none⟩) (by show w.heap.size < _; omega)).trans k0, (h.cell (p := ⟨w.heap.size, 1, none⟩) (by show w.heap.size < _; omega)).trans k1⟩)
  have hdrew : Below W3.heap.size W3 W3.drew := (Below.refl _ _).drew
  have HMK := hide hmk
  go_region_held3 (fun w' => w'.cell? ⟨w.heap.size, 0, none⟩ = some (.int .i64 W) ∧ w'.cell? ⟨w.heap.size, 1, none⟩ = some (.int .i64 H))
    (first | (refine HS.out _ ?_; assumption) | (refine HS.out _ ?_; exact bel_trans (by assumption) (bel_alloc _ _)) | go_keep)
    (fail)
  all_goals first
    | (show Exit.then _ _ _ _ ((W3.alloc (Obj.cells (madeCells #[.int .i64 0] N) 3)).alloc (Obj.cells #[.int .i64 W, .int .i64 H, .slice (some ⟨w.heap.size + 3, 0, none⟩) 0 N] 57)).drew
       have hVb : Below W3.heap.size W3 ((W3.alloc (Obj.cells (madeCells #[.int .i64 0] N) 3)).alloc (Obj.cells #[.int .i64 W, .int .i64 H, .slice (some ⟨w.heap.size + 3, 0, none⟩) 0 N] 57)).drew := below_drew'' (bel_trans (bel_alloc _ _) (bel_alloc _ _))
       have vP : ((W3.alloc (Obj.cells (madeCells #[.int .i64 0] N) 3)).alloc (Obj.cells #[.int .i64 W, .int .i64 H, .slice (some ⟨w.heap.size + 3, 0, none⟩) 0 N] 57)).drew.heap[w.heap.size + 3 + 1]? = some (.cells #[.int .i64 W, .int .i64 H, .slice (some ⟨w.heap.size + 3, 0, none⟩) 0 N] 57 (0, 0)) := by
         have h := heap_alloc_new (W3.alloc (Obj.cells (madeCells #[.int .i64 0] N) 3)) (Obj.cells #[.int .i64 W, .int .i64 H, .slice (some ⟨w.heap.size + 3, 0, none⟩) 0 N] 57)
         rw [World.size_alloc, hs3] at h; exact h
       have vS : ((W3.alloc (Obj.cells (madeCells #[.int .i64 0] N) 3)).alloc (Obj.cells #[.int .i64 W, .int .i64 H, .slice (some ⟨w.heap.size + 3, 0, none⟩) 0 N] 57)).drew.ownsRow w.heap.size 3 1 (.slice (some ⟨w.heap.size + 3, 0, none⟩) 0 N) 0 [] := by
         have h := (World.ownsRow_made (base := w.heap.size) (e := 3) (size := 1) W3 (madeCells #[.int .i64 0] N) N (by omega) (by unfold maxLen; omega) (by simp [madeCells])).alloc (Obj.cells #[.int .i64 W, .int .i64 H, .slice (some ⟨w.heap.size + 3, 0, none⟩) 0 N] 57)
         rw [hs3] at h; exact h
       have hPB : w.heap.size + 2 < w.heap.size + 3 + 1 := by omega
       generalize ((W3.alloc (Obj.cells (madeCells #[.int .i64 0] N) 3)).alloc (Obj.cells #[.int .i64 W, .int .i64 H, .slice (some ⟨w.heap.size + 3, 0, none⟩) 0 N] 57)).drew = V at *
       generalize w.heap.size + 3 + 1 = PB at hPB vP ⊢
       generalize hSB : Value.slice (some ⟨w.heap.size + 3, 0, none⟩) 0 N = SV at *
       clear hSB)
    | (have hVb : Below W3.heap.size W3 ((W3.alloc (Obj.cells #[.int .i64 W, .int .i64 H, .slice (some ⟨w.heap.size + 3 + 1, 0, none⟩) 0 N] 57)).alloc (Obj.cells (madeCells #[.int .i64 0] N) 3)).drew := below_drew'' (bel_trans (bel_alloc _ _) (bel_alloc _ _))
       have vP : ((W3.alloc (Obj.cells #[.int .i64 W, .int .i64 H, .slice (some ⟨w.heap.size + 3 + 1, 0, none⟩) 0 N] 57)).alloc (Obj.cells (madeCells #[.int .i64 0] N) 3)).drew.heap[w.heap.size + 3]? = some (.cells #[.int .i64 W, .int .i64 H, .slice (some ⟨w.heap.size + 3 + 1, 0, none⟩) 0 N] 57 (0, 0)) := by
         have h := heap_alloc_new W3 (Obj.cells #[.int .i64 W, .int .i64 H, .slice (some ⟨w.heap.size + 3 + 1, 0, none⟩) 0 N] 57)
         rw [hs3] at h
         exact (Below.heap_alloc _ _ _ (by simp; omega)).trans h
       have vS : ((W3.alloc (Obj.cells #[.int .i64 W, .int .i64 H, .slice (some ⟨w.heap.size + 3 + 1, 0, none⟩) 0 N] 57)).alloc (Obj.cells (madeCells #[.int .i64 0] N) 3)).drew.ownsRow w.heap.size 3 1 (.slice (some ⟨w.heap.size + 3 + 1, 0, none⟩) 0 N) 0 [] := by
         have h := World.ownsRow_made (base := w.heap.size) (e := 3) (size := 1) (W3.alloc (Obj.cells #[.int .i64 W, .int .i64 H, .slice (some ⟨w.heap.size + 3 + 1, 0, none⟩) 0 N] 57)) (madeCells #[.int .i64 0] N) N (by simp; omega) (by unfold maxLen; omega) (by simp [madeCells])
         rw [World.size_alloc, hs3] at h; exact h
       have hPB : w.heap.size + 2 < w.heap.size + 3 := by omega
       generalize ((W3.alloc (Obj.cells #[.int .i64 W, .int .i64 H, .slice (some ⟨w.heap.size + 3 + 1, 0, none⟩) 0 N] 57)).alloc (Obj.cells (madeCells #[.int .i64 0] N) 3)).drew = V at *
       generalize hSB : Value.slice (some ⟨w.heap.size + 3 + 1, 0, none⟩) 0 N = SV at *
       clear hSB
       generalize w.heap.size + 3 = PB at hPB vP ⊢)
  all_goals
    have k0 := (hVb.cell (p := ⟨w.heap.size, 0, none⟩) (by show w.heap.size < _; omega)).trans k0
    have k1 := (hVb.cell (p := ⟨w.heap.size, 1, none⟩) (by show w.heap.size < _; omega)).trans k1
    gi_wp2_with fail
    refine ⟨trivial, ?_⟩
    refine (places_in Fence.wide _ trivial rfl _ _ _).mono ?_
    rintro e w' ⟨rfl, rfl⟩
    gi_wp2_with fail
    have hsV := hVb.size
    have hlP := (Array.getElem?_eq_some_iff.1 vP).1
    have n0 := heap_alloc_new V (Obj.cells #[.int .i64 W, .int .i64 H] 114)
    have hs0 : (V.alloc (Obj.cells #[.int .i64 W, .int .i64 H] 114)).heap.size = V.heap.size + 1 := by simp
    have hB0 : Below w.heap.size w (V.alloc (Obj.cells #[.int .i64 W, .int .i64 H] 114)) := bel_trans (bel_trans hB3 hVb) (bel_alloc _ _)
    have j0 : (V.alloc (Obj.cells #[.int .i64 W, .int .i64 H] 114)).heap[PB]? = some (.cells #[.int .i64 W, .int .i64 H, SV] 57 (0, 0)) := (Below.heap_alloc _ _ _ hlP).trans vP
    have j1 := vS.alloc (Obj.cells #[.int .i64 W, .int .i64 H] 114)
    have j2 : (V.alloc (Obj.cells #[.int .i64 W, .int .i64 H] 114)).heap[w.heap.size + 1]? = some (.cells #[.func (.func tf) #[] caps] 118 (0, 0)) := by
      rw [Below.heap_alloc _ _ _ (by omega), hVb.block _ (by omega)]; exact g1
    have j3 : (V.alloc (Obj.cells #[.int .i64 W, .int .i64 H] 114)).heap[w.heap.size + 2]? = some (.cells #[.int .i64 0, .int .i64 0, .slice none 0 0] 57 (0, 0)) := by
      rw [Below.heap_alloc _ _ _ (by omega), hVb.block _ (by omega)]; exact g2
    generalize V.alloc (Obj.cells #[.int .i64 W, .int .i64 H] 114) = W0 at *
    refine wpIn_rangeFunc_ownH (α := Fin N) rfl (show 1 ≤ 3 by omega) (gf := 129) (lb := #[.pointer (some ⟨V.heap.size, 0, none⟩)]) rfl trivial (enters_of Try.func129 (by kernel_rfl) rfl)
      (places_stops Fence.wide (3 - 1) trivial rfl (by omega) V.heap.size W H N hW hH HNHW.out W0 (by omega) (by rw [Lib.cell_of_heap n0]; rfl) (by rw [Lib.cell_of_heap n0]; rfl)) (fun {A B C} h k => h.trans' k) (fun X l o o' hl _ _ _ => keepB_put (by omega)) (Below.refl _ _) (fun _ => rfl)
      (fun pre W' => (∃ v, W'.heap[PB]? = some (.cells #[.int .i64 W, .int .i64 H, v] 57 (0, 0)) ∧ W'.ownsRow w.heap.size 3 1 v pre.length ((pre.map fun (j : Fin N) => T j.1).map (Value.int .i64))) ∧ W'.heap[w.heap.size + 1]? = some (.cells #[.func (.func tf) #[] caps] 118 (0, 0)) ∧ W'.heap[w.heap.size + 2]? = some (.cells #[.int .i64 0, .int .i64 0, .slice none 0 0] 57 (0, 0)) ∧ W'.heap[V.heap.size]? = some (.cells #[.int .i64 W, .int .i64 H] 114 (0, 0)) ∧ Below w.heap.size w W')
      (fun _ _ _ => False)
      (fun s X Y row ⟨⟨v, a1, a2⟩, a3, a4, a6, a5⟩ hg hr => ⟨⟨v, own_keep hg hr a1, own_keepRow hg hr a2⟩, own_keep hg hr a3, own_keep hg hr a4, own_keep hg hr a6, ownFrom_below (β := Unit) (Nat.le_refl _) (by omega) () X Y row a5 hg hr⟩)
      (fun _ _ _ _ _ hs _ _ => hs)
      ⟨⟨_, j0, j1⟩, j2, j3, n0, hB0⟩
      (fun x a' W' => ∃ Bx, W0.heap.size ≤ Bx ∧ W'.heap[Bx]? = some (.cells #[.int .i64 (x.1 % W : Nat), .int .i64 (x.1 / W : Nat)] 117 (0, 0)) ∧ a' = { tmps := #[.agg #[.int .i64 W, .int .i64 H], .func (.func tf) #[] caps, .pointer (some ⟨w.heap.size, 0, none⟩), .pointer (some ⟨w.heap.size + 1, 0, none⟩), .pointer (some ⟨w.heap.size + 1 + 1, 0, none⟩), .pointer (some ⟨PB, 0, none⟩), .pointer (some ⟨Bx, 0, none⟩), .pointer (some ⟨w.heap.size, 0, none⟩), .int .i64 W, .pointer (some ⟨w.heap.size, 1, none⟩), .int .i64 H, .pointer (some ⟨w.heap.size, 0, none⟩), .int .i64 W, .pointer (some ⟨w.heap.size, 1, none⟩), .int .i64 H, .int .i64 N, SV, .agg #[.int .i64 W, .int .i64 H, SV], .agg #[.int .i64 W, .int .i64 H], .func (.func 129) #[] #[.pointer (some ⟨V.heap.size, 0, none⟩)], .agg #[.int .i64 (x.1 % W : Nat), .int .i64 (x.1 / W : Nat)], undef, undef, undef, undef, undef, undef, undef, undef, undef], defers := [] })
      (fun x a' _ X Y row ⟨Bx, b1, b2, b3⟩ hg hr => ⟨Bx, b1, own_keep hg hr b2, b3⟩)
      ?assign ?body ?done ?stop
    case assign =>
      rintro l pre x W' K ⟨⟨v, i1, i2⟩, i3, i4, i6, i5⟩ hK
      have hl1 := (Array.getElem?_eq_some_iff.1 i1).1
      have hl3 := (Array.getElem?_eq_some_iff.1 i3).1
      have hl4 := (Array.getElem?_eq_some_iff.1 i4).1
      have hl6 := (Array.getElem?_eq_some_iff.1 i6).1
      gi_wp2
      exact hK _ _ ((KeepsOthers.alloc _ _).from _) (Below.heap_alloc _ _ _ hl6) ⟨⟨v, (Below.heap_alloc _ _ _ hl1).trans i1, i2.alloc _⟩, (Below.heap_alloc _ _ _ hl3).trans i3, (Below.heap_alloc _ _ _ hl4).trans i4, (Below.heap_alloc _ _ _ hl6).trans i6, i5.alloc i5.size _⟩ ⟨W'.heap.size, by omega, heap_alloc_new W' _, rfl⟩
    case body =>
      rintro l pre x a' W' hl ⟨r, hr⟩ ⟨⟨sv, i1, i2⟩, i3, i4, i6, i5⟩ ⟨Bx, hBx, bX, rfl⟩ hlt
      obtain ⟨so, scap, rfl⟩ := lenOf_any i2
      have p2 : W'.cell? ⟨PB, 2, none⟩ = some (.slice so pre.length scap) := by rw [Lib.cell_of_heap i1]; rfl
      have t0 : W'.cell? ⟨w.heap.size + 1, 0, none⟩ = some (.func (.func tf) #[] caps) := by rw [Lib.cell_of_heap i3]; rfl
      have x0 : W'.cell? ⟨Bx, 0, none⟩ = some (.int .i64 (x.1 % W : Nat)) := by rw [Lib.cell_of_heap bX]; rfl
      have x1 : W'.cell? ⟨Bx, 1, none⟩ = some (.int .i64 (x.1 / W : Nat)) := by rw [Lib.cell_of_heap bX]; rfl
      have hmx : Try.prog.follows .mixedOrders = true := by kernel_rfl
      have hlP := (Array.getElem?_eq_some_iff.1 i1).1
      have hlT := (Array.getElem?_eq_some_iff.1 i3).1
      have hlX := (Array.getElem?_eq_some_iff.1 bX).1
      have hbW : w.heap.size ≤ W'.heap.size := by omega
      have HL1 := hide (show pre.length + 1 ≤ maxLen by unfold maxLen; omega)
      have HL2 := hide (show (pre.length + 1) * 8 ≤ 140737488355328 by omega)
      have HS := hide (show ∀ v, Below W'.heap.size W' v → v.cell? ⟨w.heap.size + 1, 0, none⟩ = some (.func (.func tf) #[] caps) ∧ v.cell? ⟨Bx, 0, none⟩ = some (.int .i64 (x.1 % W : Nat)) ∧ v.cell? ⟨Bx, 1, none⟩ = some (.int .i64 (x.1 / W : Nat)) from fun v h =>
        ⟨(h.cell (p := ⟨w.heap.size + 1, 0, none⟩) hlT).trans t0, (h.cell (p := ⟨Bx, 0, none⟩) hlX).trans x0, (h.cell (p := ⟨Bx, 1, none⟩) hlX).trans x1⟩)
      have HP2 := hide (show ∀ v, Below W'.heap.size W' v → v.cell? ⟨PB, 2, none⟩ = some (.slice so pre.length scap) from fun v h => (h.cell (p := ⟨PB, 2, none⟩) hlP).trans p2)
      have HTL := hide (fun (V1 : World) (g cap : Nat) (w1 : World) (h1 : Below W'.heap.size W' V1) (h2 : (V1.alloc (Obj.cells #[.int .i64 (T x.1)] 3)).grownBy w1 (Value.slice so pre.length scap).ownBlock) (h3 : w1.ownsRow (w.heap.size) 3 1 (.slice (some ⟨g, 0, none⟩) (pre.length + 1) cap) (pre.length + 1) ((pre.map fun (j : Fin N) => T j.1).map (Value.int .i64) ++ [.int .i64 (T x.1)])) => grid_tail (es := #[.int .i64 (T x.1)]) (by decide) (by decide) (by decide) (by decide) (by decide) (by decide) (by decide) (B0 := W0.heap.size) (PB := PB) i1 i2 i3 i4 i6 bX i5 (by omega) (by omega) (by omega) h1 h2 h3)
      have hWd : Below W'.heap.size W' W'.drew := (Below.refl _ _).drew
      have HT := hide (htell x.1 W'.drew x.2 i5.drew)
      gi_wp2_with fail
      have hSd := HS.out _ hWd
      have p2 := HP2.out _ hWd
      refine wpIn_region_held (S := fun v : World => v.cell? ⟨w.heap.size + 1, 0, none⟩ = some (.func (.func tf) #[] caps) ∧ v.cell? ⟨Bx, 0, none⟩ = some (.int .i64 (x.1 % W : Nat)) ∧ v.cell? ⟨Bx, 1, none⟩ = some (.int .i64 (x.1 / W : Nat))) hmx ?nd ?no ?_
      case nd => exact noDefer_of (by kernel_rfl)
      case no => rintro ⟨_, _, h⟩; exact h
      show wpAnyH _ _ _ _ _ 9 _ _ W'.drew
      refine wpAnyH_take (i := 0) (oi := _) (v := .pointer (some ⟨PB, 2, none⟩)) rfl (by kernel_rfl) (by kernel_rfl) (by kernel_rfl) (fun _ _ _ h => h) (Or.inl ⟨by rfl, fun v hSv => by obtain ⟨s2, s3, s4⟩ := hSv; go_simp⟩) hSd ?_
      simp only [Act.put]
      refine wpAnyH_take (i := 2) (oi := _) (v := .func (.func tf) #[] caps) rfl (by kernel_rfl) (by kernel_rfl) (by kernel_rfl) (fun _ _ _ h => h) (Or.inl ⟨by rfl, fun v hSv => by obtain ⟨s2, s3, s4⟩ := hSv; go_simp⟩) hSd ?_
      simp only [Act.put]
      refine wpAnyH_take (i := 3) (oi := _) (v := .agg #[.int .i64 (x.1 % W : Nat), .int .i64 (x.1 / W : Nat)]) rfl (by kernel_rfl) (by kernel_rfl) (by kernel_rfl) (fun _ _ _ h => h) (Or.inl ⟨by rfl, fun v hSv => by obtain ⟨s2, s3, s4⟩ := hSv; go_simp⟩) hSd ?_
      simp only [Act.put]
      refine wpAnyH_ready (rs := [1, 4]) (by kernel_rfl) (by simp) ?_
      refine AllReadyH.cons (o := _) rfl (fun K hK => ?wA) (AllReadyH.cons (o := _) rfl (fun K hK => ?wB) AllReadyH.nil)
      case wA =>
        rw [if_pos (by rfl)]
        go_simp
        refine hK.out _ _ hSd (fun _ => ?_)
        clear hK
        refine wpAnyH_ready (rs := [4]) (by kernel_rfl) (by simp) ?_
        refine AllReadyH.cons (o := _) rfl (fun K hK => ?_) AllReadyH.nil
        rw [if_pos (by rfl)]
        go_simp
        refine HT.out.mono ?_
        rintro e V1 ⟨rfl, hb1⟩
        have hV1 : Below W'.heap.size W' V1 := hWd.trans hb1
        have hSd := HS.out _ hV1
        have p2 := HP2.out _ hV1
        refine hK.out _ _ hSd (fun _ => ?_)
        clear hK
        refine wpAnyH_ready (rs := [5]) (by kernel_rfl) (by simp) ?_
        refine AllReadyH.cons (o := _) rfl (fun K hK => ?_) AllReadyH.nil
        rw [if_pos (by rfl)]
        go_simp
        have hV2 : Below W'.heap.size W' (V1.alloc (Obj.cells #[.int .i64 (T x.1)] 3)) := hV1.trans ((bel_alloc _ _).mono hV1.size)
        have hSd := HS.out _ hV2
        have p2 := HP2.out _ hV2
        refine hK.out _ _ hSd (fun _ => ?_)
        clear hK
        have ho2 := ((ownsRow_below i2 hV1).alloc (Obj.cells #[.int .i64 (T x.1)] 3))
        refine wpAnyH_ready (rs := [6]) (by kernel_rfl) (by simp) ?_
        refine AllReadyH.cons (o := _) rfl (fun K hK => ?_) AllReadyH.nil
        refine step_append_lies _ rfl _ _ 35 rfl (w.heap.size) 3 i0 (.int .i64 0) 1 8 Try.underlying35 hi hz0 hz1 hz2 rfl Nat.one_pos (.slice so pre.length scap) pre.length ((pre.map fun (j : Fin N) => T j.1).map (Value.int .i64)) rfl ho2 ⟨V1.heap.size, 0, none⟩ 1 1 [.int .i64 (T x.1)] rfl rfl (fun j u hj => by obtain ⟨rfl, rfl⟩ := one_get hj; simp [Addr.add]) (fun u hu => by simp at hu; subst hu; rfl) Nat.one_pos HL1.out HL2.out (Nat.le_trans hbW hV2.size) _ rfl ?_
        intro g cap w1 hown hgrow hat hltg
        obtain ⟨hSd, p2, p2f, HFIN⟩ := HTL.out V1 g cap w1 hV1 hgrow hown
        refine hK.out _ _ hSd (fun _ => ?_)
        clear hK
        refine wpAnyH_ready (rs := [7]) (by kernel_rfl) (by simp) ?_
        refine AllReadyH.cons (o := _) rfl (fun K hK => ?_) AllReadyH.nil
        rw [if_pos (by rfl)]
        go_simp
        refine hK.out _ _ hSd (fun _ => ?_)
        clear hK
        refine wpAnyH_ready (rs := [8]) (by kernel_rfl) (by simp) ?_
        refine AllReadyH.cons (o := _) rfl (fun K hK => ?_) AllReadyH.nil
        rw [if_pos (by rfl)]
        go_simp
        refine hK.out _ _ HFIN.1 (fun _ => ?_)
        clear hK
        refine wpAnyH_done (by kernel_rfl) ?_ _
        obtain ⟨_, f1, f2, ⟨v, f3, f4⟩, f5, f6, f7, f8⟩ := HFIN
        exact ⟨f1, f2, ⟨v, f3, by rw [List.length_append, List.map_append, List.map_append]; exact f4⟩, f5, f6, f7, f8⟩
      case wB =>
        rw [if_pos (by rfl)]
        go_simp
        refine HT.out.mono ?_
        rintro e V1 ⟨rfl, hb1⟩
        have hV1 : Below W'.heap.size W' V1 := hWd.trans hb1
        have hSd := HS.out _ hV1
        have p2 := HP2.out _ hV1
        refine hK.out _ _ hSd (fun _ => ?_)
        clear hK
        refine wpAnyH_ready (rs := [1, 5]) (by kernel_rfl) (by simp) ?_
        refine AllReadyH.cons (o := _) rfl (fun K hK => ?wC) (AllReadyH.cons (o := _) rfl (fun K hK => ?wD) AllReadyH.nil)
        case wC =>
          rw [if_pos (by rfl)]
          go_simp
          refine hK.out _ _ hSd (fun _ => ?_)
          clear hK
          refine wpAnyH_ready (rs := [5]) (by kernel_rfl) (by simp) ?_
          refine AllReadyH.cons (o := _) rfl (fun K hK => ?_) AllReadyH.nil
          rw [if_pos (by rfl)]
          go_simp
          have hV2 : Below W'.heap.size W' (V1.alloc (Obj.cells #[.int .i64 (T x.1)] 3)) := hV1.trans ((bel_alloc _ _).mono hV1.size)
          have hSd := HS.out _ hV2
          have p2 := HP2.out _ hV2
          refine hK.out _ _ hSd (fun _ => ?_)
          clear hK
          have ho2 := ((ownsRow_below i2 hV1).alloc (Obj.cells #[.int .i64 (T x.1)] 3))
          refine wpAnyH_ready (rs := [6]) (by kernel_rfl) (by simp) ?_
          refine AllReadyH.cons (o := _) rfl (fun K hK => ?_) AllReadyH.nil
          refine step_append_lies _ rfl _ _ 35 rfl (w.heap.size) 3 i0 (.int .i64 0) 1 8 Try.underlying35 hi hz0 hz1 hz2 rfl Nat.one_pos (.slice so pre.length scap) pre.length ((pre.map fun (j : Fin N) => T j.1).map (Value.int .i64)) rfl ho2 ⟨V1.heap.size, 0, none⟩ 1 1 [.int .i64 (T x.1)] rfl rfl (fun j u hj => by obtain ⟨rfl, rfl⟩ := one_get hj; simp [Addr.add]) (fun u hu => by simp at hu; subst hu; rfl) Nat.one_pos HL1.out HL2.out (Nat.le_trans hbW hV2.size) _ rfl ?_
          intro g cap w1 hown hgrow hat hltg
          obtain ⟨hSd, p2, p2f, HFIN⟩ := HTL.out V1 g cap w1 hV1 hgrow hown
          refine hK.out _ _ hSd (fun _ => ?_)
          clear hK
          refine wpAnyH_ready (rs := [7]) (by kernel_rfl) (by simp) ?_
          refine AllReadyH.cons (o := _) rfl (fun K hK => ?_) AllReadyH.nil
          rw [if_pos (by rfl)]
          go_simp
          refine hK.out _ _ hSd (fun _ => ?_)
          clear hK
          refine wpAnyH_ready (rs := [8]) (by kernel_rfl) (by simp) ?_
          refine AllReadyH.cons (o := _) rfl (fun K hK => ?_) AllReadyH.nil
          rw [if_pos (by rfl)]
          go_simp
          refine hK.out _ _ HFIN.1 (fun _ => ?_)
          clear hK
          refine wpAnyH_done (by kernel_rfl) ?_ _
          obtain ⟨_, f1, f2, ⟨v, f3, f4⟩, f5, f6, f7, f8⟩ := HFIN
          exact ⟨f1, f2, ⟨v, f3, by rw [List.length_append, List.map_append, List.map_append]; exact f4⟩, f5, f6, f7, f8⟩
        case wD =>
          rw [if_pos (by rfl)]
          go_simp
          have hV2 : Below W'.heap.size W' (V1.alloc (Obj.cells #[.int .i64 (T x.1)] 3)) := hV1.trans ((bel_alloc _ _).mono hV1.size)
          have hSd := HS.out _ hV2
          have p2 := HP2.out _ hV2
          refine hK.out _ _ hSd (fun _ => ?_)
          clear hK
          refine wpAnyH_ready (rs := [1]) (by kernel_rfl) (by simp) ?_
          refine AllReadyH.cons (o := _) rfl (fun K hK => ?_) AllReadyH.nil
          rw [if_pos (by rfl)]
          go_simp
          refine hK.out _ _ hSd (fun _ => ?_)
          clear hK
          have ho2 := ((ownsRow_below i2 hV1).alloc (Obj.cells #[.int .i64 (T x.1)] 3))
          refine wpAnyH_ready (rs := [6]) (by kernel_rfl) (by simp) ?_
          refine AllReadyH.cons (o := _) rfl (fun K hK => ?_) AllReadyH.nil
          refine step_append_lies _ rfl _ _ 35 rfl (w.heap.size) 3 i0 (.int .i64 0) 1 8 Try.underlying35 hi hz0 hz1 hz2 rfl Nat.one_pos (.slice so pre.length scap) pre.length ((pre.map fun (j : Fin N) => T j.1).map (Value.int .i64)) rfl ho2 ⟨V1.heap.size, 0, none⟩ 1 1 [.int .i64 (T x.1)] rfl rfl (fun j u hj => by obtain ⟨rfl, rfl⟩ := one_get hj; simp [Addr.add]) (fun u hu => by simp at hu; subst hu; rfl) Nat.one_pos HL1.out HL2.out (Nat.le_trans hbW hV2.size) _ rfl ?_
          intro g cap w1 hown hgrow hat hltg
          obtain ⟨hSd, p2, p2f, HFIN⟩ := HTL.out V1 g cap w1 hV1 hgrow hown
          refine hK.out _ _ hSd (fun _ => ?_)
          clear hK
          refine wpAnyH_ready (rs := [7]) (by kernel_rfl) (by simp) ?_
          refine AllReadyH.cons (o := _) rfl (fun K hK => ?_) AllReadyH.nil
          rw [if_pos (by rfl)]
          go_simp
          refine hK.out _ _ hSd (fun _ => ?_)
          clear hK
          refine wpAnyH_ready (rs := [8]) (by kernel_rfl) (by simp) ?_
          refine AllReadyH.cons (o := _) rfl (fun K hK => ?_) AllReadyH.nil
          rw [if_pos (by rfl)]
          go_simp
          refine hK.out _ _ HFIN.1 (fun _ => ?_)
          clear hK
          refine wpAnyH_done (by kernel_rfl) ?_ _
          obtain ⟨_, f1, f2, ⟨v, f3, f4⟩, f5, f6, f7, f8⟩ := HFIN
          exact ⟨f1, f2, ⟨v, f3, by rw [List.length_append, List.map_append, List.map_append]; exact f4⟩, f5, f6, f7, f8⟩
    case done =>
      rintro D ys W' hD rfl ⟨⟨v, i1, i2⟩, i3, i4, i6, i5⟩ hK
      have p0 : W'.cell? ⟨PB, 0, none⟩ = some (.int .i64 W) := by rw [Lib.cell_of_heap i1]; rfl
      have p1 : W'.cell? ⟨PB, 1, none⟩ = some (.int .i64 H) := by rw [Lib.cell_of_heap i1]; rfl
      have p2 : W'.cell? ⟨PB, 2, none⟩ = some v := by rw [Lib.cell_of_heap i1]; rfl
      have r0 : W'.cell? ⟨w.heap.size + 1 + 1, 0, none⟩ = some (.int .i64 0) := by rw [Lib.cell_of_heap i4]; rfl
      have r1 : W'.cell? ⟨w.heap.size + 1 + 1, 1, none⟩ = some (.int .i64 0) := by rw [Lib.cell_of_heap i4]; rfl
      have r2 : W'.cell? ⟨w.heap.size + 1 + 1, 2, none⟩ = some (.slice none 0 0) := by rw [Lib.cell_of_heap i4]; rfl
      have f0 : W'.frozen? ⟨w.heap.size + 1 + 1, 0, none⟩ = false := Lib.frozen_of_heap i4 0
      have f1 : W'.frozen? ⟨w.heap.size + 1 + 1, 1, none⟩ = false := Lib.frozen_of_heap i4 1
      have f2 : W'.frozen? ⟨w.heap.size + 1 + 1, 2, none⟩ = false := Lib.frozen_of_heap i4 2
      obtain ⟨ao, cap, rfl⟩ := lenOf_any i2
      gi_wp2
      obtain ⟨x1, x2, x3, x4⟩ := box3_set i4 (.int .i64 W) (.int .i64 H) (.slice ao (List.finRange N).length cap) w (by omega) i5
      have i2' := own_other x2 (own_ne i2 i4 (by decide)) i2
      have hDr : D ≠ w.heap.size + 2 := fun e => by rw [e, i4] at hK; cases hK
      replace hK := (x2 D hDr).trans hK
      simp only [List.length_finRange] at x1 x2 x3 x4 i2' hK
      generalize ((W'.setCell ⟨w.heap.size + 1 + 1, 0, none⟩ (.int .i64 W)).setCell ⟨w.heap.size + 1 + 1, 1, none⟩ (.int .i64 H)).setCell ⟨w.heap.size + 1 + 1, 2, none⟩ (.slice ao N cap) = X at *
      refine ⟨by simp, .inl ⟨_, _, rfl, run_takeDeferred hK, ?_⟩⟩
      have y1 := (World.putObj_heap_other (w := X) (o := .deferred none) (Ne.symm hDr)).trans x1
      have y2 := ownsRow_putObj i2' (.deferred none) hK rfl
      have y3 : Below w.heap.size w (X.putObj D (.deferred none)) := x4.trans (belowK_b (w := w) (Nat.le_refl _) X D _ _ (by omega) hK rfl rfl)
      have c0 : (X.putObj D (.deferred none)).cell? ⟨w.heap.size + 1 + 1, 0, none⟩ = some (.int .i64 W) := by rw [Lib.cell_of_heap y1]; rfl
      have c1 : (X.putObj D (.deferred none)).cell? ⟨w.heap.size + 1 + 1, 1, none⟩ = some (.int .i64 H) := by rw [Lib.cell_of_heap y1]; rfl
      have c2 : (X.putObj D (.deferred none)).cell? ⟨w.heap.size + 1 + 1, 2, none⟩ = some (.slice ao N cap) := by rw [Lib.cell_of_heap y1]; rfl
      generalize X.putObj D (.deferred none) = Z at *
      refine ⟨.agg #[.int .i64 W, .int .i64 H, .slice ao N cap], by simp [results, Try.results95, go_sem, c0, c1, c2], .slice ao N cap, rfl, ?_, y3, Fresh.own (by simpa using y2)⟩
      rw [← map_finRange N T]
      exact IsInts.own (base := w.heap.size) (by simpa using y2) (by simp; omega)
    case stop => rintro D c pre W' _ _ h _; exact h.elim

end Go.Proofs.Ytolcndchfnifhaa
