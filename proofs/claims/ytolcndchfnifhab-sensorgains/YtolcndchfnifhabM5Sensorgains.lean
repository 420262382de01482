/- sensorgains: part 5 of what its proof needs. -/
import Derived.Test.YtolcndchfnifhabM3Sensorgains
import Derived.Test.YtolcndchfnifhabM4Sensorgains
/- (grid.Grid).Plane with whatever a closure tells of each place. -/
namespace Go.Proofs.Ytolcndchfnifhab
open Go.RowKit Go.Shelf

attribute [local go_sem] Oper.semAt_some

set_option maxRecDepth 100000 in
set_option maxHeartbeats 1000000 in
theorem gridPlane_any (W H N : Nat) (hW : W ≤ 64) (hH : H ≤ 64) (hNHW : N = H * W) (tf : Nat) (caps : Array Value) (T : Nat → Int) (w : World) (eg : ∀ args w, (callFunc tf args).run Try.prog w = .ok (.enter tf args) w)
    (htell : ∀ (j : Nat) (V : World), j < N → Below w.heap.size w V → Calls Try.prog tf (#[.agg #[.int .i64 (j % W : Nat), .int .i64 (j / W : Nat)]] ++ caps) V fun e V' => e = .returned (.int .i64 (T j)) ∧ Below V.heap.size V V') :
    Calls Try.prog 55 #[.agg #[.int .i64 W, .int .i64 H], .func (.func tf) #[] caps] w fun e w' => ∃ r, e = .returned (.agg #[.int .i64 W, .int .i64 H, r]) ∧ IsInts w' r ((List.range N).map T) ∧ Below w.heap.size w w' ∧ Fresh w.heap.size r := by
  obtain ⟨i0, hi, hz0, hz1, hz2⟩ := info_parts Try.infoInt
  refine (callsIn_wide (n := 3)).1 ?_
  refine callsIn_of_wp_marks Try.func55 rfl trivial ?_ rfl
  simp only [Try.ntmps55, List.size_toArray, List.length_cons, List.length_nil, Nat.reduceAdd, Nat.reduceSub, Array.replicate_succ, Array.replicate_zero, List.push_toArray, List.append_toArray, List.nil_append, List.cons_append]
  gi_wp2_with fail
  refine wpIn_wide.2 ?_
  have hN : N = W * H := by rw [hNHW, Nat.mul_comm]
  have HNHW := hide hNHW
  clear hNHW
  have hNi : (W : Int) * (H : Int) = (N : Int) := by rw [hN]; simp
  have hNb : N ≤ 4096 := by rw [hN]; exact Nat.le_trans (Nat.mul_le_mul hW hH) (by decide)
  have hmk : ∀ V : World, (Instr.makeSlice 22 (.int .i64 0) (.int .i64 N)).run Try.prog V = .ok (.slice (some ⟨V.heap.size, 0, none⟩) 0 N) (V.alloc (.cells (madeCells (Value.int .i64 0).cells (N * 1)) 3)) := fun V => by
    have h := run_make (P := Try.prog) V 22 3 i0 (.int .i64 0) Try.underlying22 hi hz0 .i64 .i64 0 N (Int.le_refl _) (by omega) (by rw [hz2]; omega) (by omega)
    rw [hz1] at h
    simpa using h
  have hwN : IntKind.i64.wrap ((W : Int) * (H : Int)) = (N : Int) := by rw [hNi]; exact IntWalk.i64_in _ (by omega)
  have hwM : IntKind.i64.wrap (N : Int) = (N : Int) := IntWalk.i64_in _ (by omega)
  have HN := hide hN
  clear hN
  have hB3 := bel_trans (bel_trans (bel_alloc w (Obj.cells #[.int .i64 W, .int .i64 H] 91)) (bel_alloc _ (Obj.cells #[.func (.func tf) #[] caps] 95))) (bel_alloc _ (Obj.cells #[.int .i64 0, .int .i64 0, .slice none 0 0] 24))
  have g0 : (((w.alloc (Obj.cells #[.int .i64 W, .int .i64 H] 91)).alloc (Obj.cells #[.func (.func tf) #[] caps] 95)).alloc (Obj.cells #[.int .i64 0, .int .i64 0, .slice none 0 0] 24)).heap[w.heap.size]? = some (.cells #[.int .i64 W, .int .i64 H] 91 (0, 0)) := by
    rw [Below.heap_alloc _ _ _ (by simp; omega), Below.heap_alloc _ _ _ (by simp)]; exact heap_alloc_new w _
  have g1 : (((w.alloc (Obj.cells #[.int .i64 W, .int .i64 H] 91)).alloc (Obj.cells #[.func (.func tf) #[] caps] 95)).alloc (Obj.cells #[.int .i64 0, .int .i64 0, .slice none 0 0] 24)).heap[w.heap.size + 1]? = some (.cells #[.func (.func tf) #[] caps] 95 (0, 0)) := by
    rw [Below.heap_alloc _ _ _ (by simp)]
    have h := heap_alloc_new (w.alloc (Obj.cells #[.int .i64 W, .int .i64 H] 91)) (Obj.cells #[.func (.func tf) #[] caps] 95)
    rw [World.size_alloc] at h; exact h
  have g2 : (((w.alloc (Obj.cells #[.int .i64 W, .int .i64 H] 91)).alloc (Obj.cells #[.func (.func tf) #[] caps] 95)).alloc (Obj.cells #[.int .i64 0, .int .i64 0, .slice none 0 0] 24)).heap[w.heap.size + 2]? = some (.cells #[.int .i64 0, .int .i64 0, .slice none 0 0] 24 (0, 0)) := by
    have h := heap_alloc_new ((w.alloc (Obj.cells #[.int .i64 W, .int .i64 H] 91)).alloc (Obj.cells #[.func (.func tf) #[] caps] 95)) (Obj.cells #[.int .i64 0, .int .i64 0, .slice none 0 0] 24)
    rw [World.size_alloc, World.size_alloc] at h; exact h
  have hs3 : (((w.alloc (Obj.cells #[.int .i64 W, .int .i64 H] 91)).alloc (Obj.cells #[.func (.func tf) #[] caps] 95)).alloc (Obj.cells #[.int .i64 0, .int .i64 0, .slice none 0 0] 24)).heap.size = w.heap.size + 3 := by simp
  generalize ((w.alloc (Obj.cells #[.int .i64 W, .int .i64 H] 91)).alloc (Obj.cells #[.func (.func tf) #[] caps] 95)).alloc (Obj.cells #[.int .i64 0, .int .i64 0, .slice none 0 0] 24) = W3 at *
  have k0 : W3.cell? ⟨w.heap.size, 0, none⟩ = some (.int .i64 W) := by rw [Lib.cell_of_heap g0]; rfl
  have k1 : W3.cell? ⟨w.heap.size, 1, none⟩ = some (.int .i64 H) := by rw [Lib.cell_of_heap g0]; rfl
  have HS := hide (show ∀ w', Below W3.heap.size W3 w' → w'.cell? ⟨w.heap.size, 0, none⟩ = some (.int .i64 W) ∧ w'.cell? ⟨w.heap.size, 1, none⟩ = some (.int .i64 H) from fun w' h =>
    ⟨(h.cell (p := ⟨w.heap.size, 0, none⟩) (by show w.heap.size < _; omega)).trans k0, (h.cell (p := ⟨w.heap.size, 1, none⟩) (by show w.heap.size < _; omega)).trans k1⟩)
  have hdrew : Below W3.heap.size W3 W3.drew := (Below.refl _ _).drew
  have HMK := hide hmk
  go_region_held3 (fun w' => w'.cell? ⟨w.heap.size, 0, none⟩ = some (.int .i64 W) ∧ w'.cell? ⟨w.heap.size, 1, none⟩ = some (.int .i64 H))
    (first | (refine HS.out _ ?_; assumption) | (refine HS.out _ ?_; exact bel_trans (by assumption) (bel_alloc _ _)) | go_keep)
    (fail)
  all_goals first
    | (show Exit.then _ _ _ _ ((W3.alloc (Obj.cells (madeCells #[.int .i64 0] N) 3)).alloc (Obj.cells #[.int .i64 W, .int .i64 H, .slice (some ⟨w.heap.size + 3, 0, none⟩) 0 N] 24)).drew
       have hVb : Below W3.heap.size W3 ((W3.alloc (Obj.cells (madeCells #[.int .i64 0] N) 3)).alloc (Obj.cells #[.int .i64 W, .int .i64 H, .slice (some ⟨w.heap.size + 3, 0, none⟩) 0 N] 24)).drew := below_drew'' (bel_trans (bel_alloc _ _) (bel_alloc _ _))
       have vP : ((W3.alloc (Obj.cells (madeCells #[.int .i64 0] N) 3)).alloc (Obj.cells #[.int .i64 W, .int .i64 H, .slice (some ⟨w.heap.size + 3, 0, none⟩) 0 N] 24)).drew.heap[w.heap.size + 3 + 1]? = some (.cells #[.int .i64 W, .int .i64 H, .slice (some ⟨w.heap.size + 3, 0, none⟩) 0 N] 24 (0, 0)) := by
         have h := heap_alloc_new (W3.alloc (Obj.cells (madeCells #[.int .i64 0] N) 3)) (Obj.cells #[.int .i64 W, .int .i64 H, .slice (some ⟨w.heap.size + 3, 0, none⟩) 0 N] 24)
         rw [World.size_alloc, hs3] at h; exact h
       have vS : ((W3.alloc (Obj.cells (madeCells #[.int .i64 0] N) 3)).alloc (Obj.cells #[.int .i64 W, .int .i64 H, .slice (some ⟨w.heap.size + 3, 0, none⟩) 0 N] 24)).drew.ownsRow w.heap.size 3 1 (.slice (some ⟨w.heap.size + 3, 0, none⟩) 0 N) 0 [] := by
         have h := (World.ownsRow_made (base := w.heap.size) (e := 3) (size := 1) W3 (madeCells #[.int .i64 0] N) N (by omega) (by unfold maxLen; omega) (by simp [madeCells])).alloc (Obj.cells #[.int .i64 W, .int .i64 H, .slice (some ⟨w.heap.size + 3, 0, none⟩) 0 N] 24)
         rw [hs3] at h; exact h
       have hPB : w.heap.size + 2 < w.heap.size + 3 + 1 := by omega
       generalize ((W3.alloc (Obj.cells (madeCells #[.int .i64 0] N) 3)).alloc (Obj.cells #[.int .i64 W, .int .i64 H, .slice (some ⟨w.heap.size + 3, 0, none⟩) 0 N] 24)).drew = V at *
       generalize w.heap.size + 3 + 1 = PB at hPB vP ⊢
       generalize hSB : Value.slice (some ⟨w.heap.size + 3, 0, none⟩) 0 N = SV at *
       clear hSB)
    | (have hVb : Below W3.heap.size W3 ((W3.alloc (Obj.cells #[.int .i64 W, .int .i64 H, .slice (some ⟨w.heap.size + 3 + 1, 0, none⟩) 0 N] 24)).alloc (Obj.cells (madeCells #[.int .i64 0] N) 3)).drew := below_drew'' (bel_trans (bel_alloc _ _) (bel_alloc _ _))
       have vP : ((W3.alloc (Obj.cells #[.int .i64 W, .int .i64 H, .slice (some ⟨w.heap.size + 3 + 1, 0, none⟩) 0 N] 24)).alloc (Obj.cells (madeCells #[.int .i64 0] N) 3)).drew.heap[w.heap.size + 3]? = some (.cells #[.int .i64 W, .int .i64 H, .slice (some ⟨w.heap.size + 3 + 1, 0, none⟩) 0 N] 24 (0, 0)) := by
         have h := heap_alloc_new W3 (Obj.cells #[.int .i64 W, .int .i64 H, .slice (some ⟨w.heap.size + 3 + 1, 0, none⟩) 0 N] 24)
         rw [hs3] at h
         exact (Below.heap_alloc _ _ _ (by simp; omega)).trans h
       have vS : ((W3.alloc (Obj.cells #[.int .i64 W, .int .i64 H, .slice (some ⟨w.heap.size + 3 + 1, 0, none⟩) 0 N] 24)).alloc (Obj.cells (madeCells #[.int .i64 0] N) 3)).drew.ownsRow w.heap.size 3 1 (.slice (some ⟨w.heap.size + 3 + 1, 0, none⟩) 0 N) 0 [] := by
         have h := World.ownsRow_made (base := w.heap.size) (e := 3) (size := 1) (W3.alloc (Obj.cells #[.int .i64 W, .int .i64 H, .slice (some ⟨w.heap.size + 3 + 1, 0, none⟩) 0 N] 24)) (madeCells #[.int .i64 0] N) N (by simp; omega) (by unfold maxLen; omega) (by simp [madeCells])
         rw [World.size_alloc, hs3] at h; exact h
       have hPB : w.heap.size + 2 < w.heap.size + 3 := by omega
       generalize ((W3.alloc (Obj.cells #[.int .i64 W, .int .i64 H, .slice (some ⟨w.heap.size + 3 + 1, 0, none⟩) 0 N] 24)).alloc (Obj.cells (madeCells #[.int .i64 0] N) 3)).drew = V at *
       generalize hSB : Value.slice (some ⟨w.heap.size + 3 + 1, 0, none⟩) 0 N = SV at *
       clear hSB
       generalize w.heap.size + 3 = PB at hPB vP ⊢)
  all_goals
    have k0 := (hVb.cell (p := ⟨w.heap.size, 0, none⟩) (by show w.heap.size < _; omega)).trans k0
    have k1 := (hVb.cell (p := ⟨w.heap.size, 1, none⟩) (by show w.heap.size < _; omega)).trans k1
    gi_wp2_with fail
    refine ⟨trivial, ?_⟩
    refine (places_in Fence.wide _ trivial rfl _ _ _).mono ?_
    rintro e w' ⟨rfl, rfl⟩
    gi_wp2_with fail
    have hsV := hVb.size
    have hlP := (Array.getElem?_eq_some_iff.1 vP).1
    have n0 := heap_alloc_new V (Obj.cells #[.int .i64 W, .int .i64 H] 91)
    have hs0 : (V.alloc (Obj.cells #[.int .i64 W, .int .i64 H] 91)).heap.size = V.heap.size + 1 := by simp
    have hB0 : Below w.heap.size w (V.alloc (Obj.cells #[.int .i64 W, .int .i64 H] 91)) := bel_trans (bel_trans hB3 hVb) (bel_alloc _ _)
    have j0 : (V.alloc (Obj.cells #[.int .i64 W, .int .i64 H] 91)).heap[PB]? = some (.cells #[.int .i64 W, .int .i64 H, SV] 24 (0, 0)) := (Below.heap_alloc _ _ _ hlP).trans vP
    have j1 := vS.alloc (Obj.cells #[.int .i64 W, .int .i64 H] 91)
    have j2 : (V.alloc (Obj.cells #[.int .i64 W, .int .i64 H] 91)).heap[w.heap.size + 1]? = some (.cells #[.func (.func tf) #[] caps] 95 (0, 0)) := by
      rw [Below.heap_alloc _ _ _ (by omega), hVb.block _ (by omega)]; exact g1
    have j3 : (V.alloc (Obj.cells #[.int .i64 W, .int .i64 H] 91)).heap[w.heap.size + 2]? = some (.cells #[.int .i64 0, .int .i64 0, .slice none 0 0] 24 (0, 0)) := by
      rw [Below.heap_alloc _ _ _ (by omega), hVb.block _ (by omega)]; exact g2
    generalize V.alloc (Obj.cells #[.int .i64 W, .int .i64 H] 91) = W0 at *
    refine wpIn_rangeFunc_ownH (α := Fin N) rfl (show 1 ≤ 3 by omega) (gf := 117) (lb := #[.pointer (some ⟨V.heap.size, 0, none⟩)]) rfl trivial (enters_of Try.func117 (by kernel_rfl) rfl)
      (places_stops Fence.wide (3 - 1) trivial rfl (by omega) V.heap.size W H N hW hH HNHW.out W0 (by omega) (by rw [Lib.cell_of_heap n0]; rfl) (by rw [Lib.cell_of_heap n0]; rfl)) (fun {A B C} h k => h.trans' k) (fun X l o o' hl _ _ _ => keepB_put (by omega)) (Below.refl _ _) (fun _ => rfl)
      (fun pre W' => (∃ v, W'.heap[PB]? = some (.cells #[.int .i64 W, .int .i64 H, v] 24 (0, 0)) ∧ W'.ownsRow w.heap.size 3 1 v pre.length ((pre.map fun (j : Fin N) => T j.1).map (Value.int .i64))) ∧ W'.heap[w.heap.size + 1]? = some (.cells #[.func (.func tf) #[] caps] 95 (0, 0)) ∧ W'.heap[w.heap.size + 2]? = some (.cells #[.int .i64 0, .int .i64 0, .slice none 0 0] 24 (0, 0)) ∧ W'.heap[V.heap.size]? = some (.cells #[.int .i64 W, .int .i64 H] 91 (0, 0)) ∧ Below w.heap.size w W')
      (fun _ _ _ => False)
      (fun s X Y row ⟨⟨v, a1, a2⟩, a3, a4, a6, a5⟩ hg hr => ⟨⟨v, own_keep hg hr a1, own_keepRow hg hr a2⟩, own_keep hg hr a3, own_keep hg hr a4, own_keep hg hr a6, ownFrom_below (β := Unit) (Nat.le_refl _) (by omega) () X Y row a5 hg hr⟩)
      (fun _ _ _ _ _ hs _ _ => hs)
      ⟨⟨_, j0, j1⟩, j2, j3, n0, hB0⟩
      (fun x a' W' => ∃ Bx, W0.heap.size ≤ Bx ∧ W'.heap[Bx]? = some (.cells #[.int .i64 (x.1 % W : Nat), .int .i64 (x.1 / W : Nat)] 93 (0, 0)) ∧ a' = { tmps := #[.agg #[.int .i64 W, .int .i64 H], .func (.func tf) #[] caps, .pointer (some ⟨w.heap.size, 0, none⟩), .pointer (some ⟨w.heap.size + 1, 0, none⟩), .pointer (some ⟨w.heap.size + 1 + 1, 0, none⟩), .pointer (some ⟨PB, 0, none⟩), .pointer (some ⟨Bx, 0, none⟩), .pointer (some ⟨w.heap.size, 0, none⟩), .int .i64 W, .pointer (some ⟨w.heap.size, 1, none⟩), .int .i64 H, .pointer (some ⟨w.heap.size, 0, none⟩), .int .i64 W, .pointer (some ⟨w.heap.size, 1, none⟩), .int .i64 H, .int .i64 N, SV, .agg #[.int .i64 W, .int .i64 H, SV], .agg #[.int .i64 W, .int .i64 H], .func (.func 117) #[] #[.pointer (some ⟨V.heap.size, 0, none⟩)], .agg #[.int .i64 (x.1 % W : Nat), .int .i64 (x.1 / W : Nat)], undef, undef, undef, undef, undef, undef, undef, undef, undef], defers := [] })
      (fun x a' _ X Y row ⟨Bx, b1, b2, b3⟩ hg hr => ⟨Bx, b1, own_keep hg hr b2, b3⟩)
      ?assign ?body ?done ?stop
    case assign =>
      rintro l pre x W' K ⟨⟨v, i1, i2⟩, i3, i4, i6, i5⟩ hK
      have hl1 := (Array.getElem?_eq_some_iff.1 i1).1
      have hl3 := (Array.getElem?_eq_some_iff.1 i3).1
      have hl4 := (Array.getElem?_eq_some_iff.1 i4).1
      have hl6 := (Array.getElem?_eq_some_iff.1 i6).1
      gi_wp2
      exact hK _ _ ((KeepsOthers.alloc _ _).from _) (Below.heap_alloc _ _ _ hl6) ⟨⟨v, (Below.heap_alloc _ _ _ hl1).trans i1, i2.alloc _⟩, (Below.heap_alloc _ _ _ hl3).trans i3, (Below.heap_alloc _ _ _ hl4).trans i4, (Below.heap_alloc _ _ _ hl6).trans i6, i5.alloc i5.size _⟩ ⟨W'.heap.size, by omega, heap_alloc_new W' _, rfl⟩
    case body =>
      rintro l pre x a' W' hl ⟨r, hr⟩ ⟨⟨sv, i1, i2⟩, i3, i4, i6, i5⟩ ⟨Bx, hBx, bX, rfl⟩ hlt
      obtain ⟨so, scap, rfl⟩ := lenOf_any i2
      have p2 : W'.cell? ⟨PB, 2, none⟩ = some (.slice so pre.length scap) := by rw [Lib.cell_of_heap i1]; rfl
      have t0 : W'.cell? ⟨w.heap.size + 1, 0, none⟩ = some (.func (.func tf) #[] caps) := by rw [Lib.cell_of_heap i3]; rfl
      have x0 : W'.cell? ⟨Bx, 0, none⟩ = some (.int .i64 (x.1 % W : Nat)) := by rw [Lib.cell_of_heap bX]; rfl
      have x1 : W'.cell? ⟨Bx, 1, none⟩ = some (.int .i64 (x.1 / W : Nat)) := by rw [Lib.cell_of_heap bX]; rfl
      have hmx : Try.prog.follows .mixedOrders = true := by kernel_rfl
      have hlP := (Array.getElem?_eq_some_iff.1 i1).1
      have hlT := (Array.getElem?_eq_some_iff.1 i3).1
      have hlX := (Array.getElem?_eq_some_iff.1 bX).1
      have hbW : w.heap.size ≤ W'.heap.size := by omega
      have HL1 := hide (show pre.length + 1 ≤ maxLen by unfold maxLen; omega)
      have HL2 := hide (show (pre.length + 1) * 8 ≤ 140737488355328 by omega)
      have HS := hide (show ∀ v, Below W'.heap.size W' v → v.cell? ⟨w.heap.size + 1, 0, none⟩ = some (.func (.func tf) #[] caps) ∧ v.cell? ⟨Bx, 0, none⟩ = some (.int .i64 (x.1 % W : Nat)) ∧ v.cell? ⟨Bx, 1, none⟩ = some (.int .i64 (x.1 / W : Nat)) from fun v h =>
        ⟨(h.cell (p := ⟨w.heap.size + 1, 0, none⟩) hlT).trans t0, (h.cell (p := ⟨Bx, 0, none⟩) hlX).trans x0, (h.cell (p := ⟨Bx, 1, none⟩) hlX).trans x1⟩)
      have HP2 := hide (show ∀ v, Below W'.heap.size W' v → v.cell? ⟨PB, 2, none⟩ = some (.slice so pre.length scap) from fun v h => (h.cell (p := ⟨PB, 2, none⟩) hlP).trans p2)
      have HTL := hide (fun (V1 : World) (g cap : Nat) (w1 : World) (h1 : Below W'.heap.size W' V1) (h2 : (V1.alloc (Obj.cells #[.int .i64 (T x.1)] 3)).grownBy w1 (Value.slice so pre.length scap).ownBlock) (h3 : w1.ownsRow (w.heap.size) 3 1 (.slice (some ⟨g, 0, none⟩) (pre.length + 1) cap) (pre.length + 1) ((pre.map fun (j : Fin N) => T j.1).map (Value.int .i64) ++ [.int .i64 (T x.1)])) => grid_tail (es := #[.int .i64 (T x.1)]) (by decide) (by decide) (by decide) (by decide) (by decide) (by decide) (by decide) (B0 := W0.heap.size) (PB := PB) i1 i2 i3 i4 i6 bX i5 (by omega) (by omega) (by omega) h1 h2 h3)
      have hWd : Below W'.heap.size W' W'.drew := (Below.refl _ _).drew
      have HT := hide (htell x.1 W'.drew x.2 i5.drew)
      gi_wp2_with fail
      have hSd := HS.out _ hWd
      have p2 := HP2.out _ hWd
      refine wpIn_region_held (S := fun v : World => v.cell? ⟨w.heap.size + 1, 0, none⟩ = some (.func (.func tf) #[] caps) ∧ v.cell? ⟨Bx, 0, none⟩ = some (.int .i64 (x.1 % W : Nat)) ∧ v.cell? ⟨Bx, 1, none⟩ = some (.int .i64 (x.1 / W : Nat))) hmx ?nd ?no ?_
      case nd => exact noDefer_of (by kernel_rfl)
      case no => rintro ⟨_, _, h⟩; exact h
      show wpAnyH _ _ _ _ _ 9 _ _ W'.drew
      refine wpAnyH_take (i := 0) (oi := _) (v := .pointer (some ⟨PB, 2, none⟩)) rfl (by kernel_rfl) (by kernel_rfl) (by kernel_rfl) (fun _ _ _ h => h) (Or.inl ⟨by rfl, fun v hSv => by obtain ⟨s2, s3, s4⟩ := hSv; go_simp⟩) hSd ?_
      simp only [Act.put]
      refine wpAnyH_take (i := 2) (oi := _) (v := .func (.func tf) #[] caps) rfl (by kernel_rfl) (by kernel_rfl) (by kernel_rfl) (fun _ _ _ h => h) (Or.inl ⟨by rfl, fun v hSv => by obtain ⟨s2, s3, s4⟩ := hSv; go_simp⟩) hSd ?_
      simp only [Act.put]
      refine wpAnyH_take (i := 3) (oi := _) (v := .agg #[.int .i64 (x.1 % W : Nat), .int .i64 (x.1 / W : Nat)]) rfl (by kernel_rfl) (by kernel_rfl) (by kernel_rfl) (fun _ _ _ h => h) (Or.inl ⟨by rfl, fun v hSv => by obtain ⟨s2, s3, s4⟩ := hSv; go_simp⟩) hSd ?_
      simp only [Act.put]
      refine wpAnyH_ready (rs := [1, 4]) (by kernel_rfl) (by simp) ?_
      refine AllReadyH.cons (o := _) rfl (fun K hK => ?wA) (AllReadyH.cons (o := _) rfl (fun K hK => ?wB) AllReadyH.nil)
      case wA =>
        rw [if_pos (by rfl)]
        go_simp
        refine hK.out _ _ hSd (fun _ => ?_)
        clear hK
        refine wpAnyH_ready (rs := [4]) (by kernel_rfl) (by simp) ?_
        refine AllReadyH.cons (o := _) rfl (fun K hK => ?_) AllReadyH.nil
        rw [if_pos (by rfl)]
        go_simp
        refine HT.out.mono ?_
        rintro e V1 ⟨rfl, hb1⟩
        have hV1 : Below W'.heap.size W' V1 := hWd.trans hb1
        have hSd := HS.out _ hV1
        have p2 := HP2.out _ hV1
        refine hK.out _ _ hSd (fun _ => ?_)
        clear hK
        refine wpAnyH_ready (rs := [5]) (by kernel_rfl) (by simp) ?_
        refine AllReadyH.cons (o := _) rfl (fun K hK => ?_) AllReadyH.nil
        rw [if_pos (by rfl)]
        go_simp
        have hV2 : Below W'.heap.size W' (V1.alloc (Obj.cells #[.int .i64 (T x.1)] 3)) := hV1.trans ((bel_alloc _ _).mono hV1.size)
        have hSd := HS.out _ hV2
        have p2 := HP2.out _ hV2
        refine hK.out _ _ hSd (fun _ => ?_)
        clear hK
        have ho2 := ((ownsRow_below i2 hV1).alloc (Obj.cells #[.int .i64 (T x.1)] 3))
        refine wpAnyH_ready (rs := [6]) (by kernel_rfl) (by simp) ?_
        refine AllReadyH.cons (o := _) rfl (fun K hK => ?_) AllReadyH.nil
        refine step_append_lies _ rfl _ _ 22 rfl (w.heap.size) 3 i0 (.int .i64 0) 1 8 Try.underlying22 hi hz0 hz1 hz2 rfl Nat.one_pos (.slice so pre.length scap) pre.length ((pre.map fun (j : Fin N) => T j.1).map (Value.int .i64)) rfl ho2 ⟨V1.heap.size, 0, none⟩ 1 1 [.int .i64 (T x.1)] rfl rfl (fun j u hj => by obtain ⟨rfl, rfl⟩ := one_get hj; simp [Addr.add]) (fun u hu => by simp at hu; subst hu; rfl) Nat.one_pos HL1.out HL2.out (Nat.le_trans hbW hV2.size) _ rfl ?_
        intro g cap w1 hown hgrow hat hltg
        obtain ⟨hSd, p2, p2f, HFIN⟩ := HTL.out V1 g cap w1 hV1 hgrow hown
        refine hK.out _ _ hSd (fun _ => ?_)
        clear hK
        refine wpAnyH_ready (rs := [7]) (by kernel_rfl) (by simp) ?_
        refine AllReadyH.cons (o := _) rfl (fun K hK => ?_) AllReadyH.nil
        rw [if_pos (by rfl)]
        go_simp
        refine hK.out _ _ hSd (fun _ => ?_)
        clear hK
        refine wpAnyH_ready (rs := [8]) (by kernel_rfl) (by simp) ?_
        refine AllReadyH.cons (o := _) rfl (fun K hK => ?_) AllReadyH.nil
        rw [if_pos (by rfl)]
        go_simp
        refine hK.out _ _ HFIN.1 (fun _ => ?_)
        clear hK
        refine wpAnyH_done (by kernel_rfl) ?_ _
        obtain ⟨_, f1, f2, ⟨v, f3, f4⟩, f5, f6, f7, f8⟩ := HFIN
        exact ⟨f1, f2, ⟨v, f3, by rw [List.length_append, List.map_append, List.map_append]; exact f4⟩, f5, f6, f7, f8⟩
      case wB =>
        rw [if_pos (by rfl)]
        go_simp
        refine HT.out.mono ?_
        rintro e V1 ⟨rfl, hb1⟩
        have hV1 : Below W'.heap.size W' V1 := hWd.trans hb1
        have hSd := HS.out _ hV1
        have p2 := HP2.out _ hV1
        refine hK.out _ _ hSd (fun _ => ?_)
        clear hK
        refine wpAnyH_ready (rs := [1, 5]) (by kernel_rfl) (by simp) ?_
        refine AllReadyH.cons (o := _) rfl (fun K hK => ?wC) (AllReadyH.cons (o := _) rfl (fun K hK => ?wD) AllReadyH.nil)
        case wC =>
          rw [if_pos (by rfl)]
          go_simp
          refine hK.out _ _ hSd (fun _ => ?_)
          clear hK
          refine wpAnyH_ready (rs := [5]) (by kernel_rfl) (by simp) ?_
          refine AllReadyH.cons (o := _) rfl (fun K hK => ?_) AllReadyH.nil
          rw [if_pos (by rfl)]
          go_simp
          have hV2 : Below W'.heap.size W' (V1.alloc (Obj.cells #[.int .i64 (T x.1)] 3)) := hV1.trans ((bel_alloc _ _).mono hV1.size)
          have hSd := HS.out _ hV2
          have p2 := HP2.out _ hV2
          refine hK.out _ _ hSd (fun _ => ?_)
          clear hK
          have ho2 := ((ownsRow_below i2 hV1).alloc (Obj.cells #[.int .i64 (T x.1)] 3))
          refine wpAnyH_ready (rs := [6]) (by kernel_rfl) (by simp) ?_
          refine AllReadyH.cons (o := _) rfl (fun K hK => ?_) AllReadyH.nil
          refine step_append_lies _ rfl _ _ 22 rfl (w.heap.size) 3 i0 (.int .i64 0) 1 8 Try.underlying22 hi hz0 hz1 hz2 rfl Nat.one_pos (.slice so pre.length scap) pre.length ((pre.map fun (j : Fin N) => T j.1).map (Value.int .i64)) rfl ho2 ⟨V1.heap.size, 0, none⟩ 1 1 [.int .i64 (T x.1)] rfl rfl (fun j u hj => by obtain ⟨rfl, rfl⟩ := one_get hj; simp [Addr.add]) (fun u hu => by simp at hu; subst hu; rfl) Nat.one_pos HL1.out HL2.out (Nat.le_trans hbW hV2.size) _ rfl ?_
          intro g cap w1 hown hgrow hat hltg
          obtain ⟨hSd, p2, p2f, HFIN⟩ := HTL.out V1 g cap w1 hV1 hgrow hown
          refine hK.out _ _ hSd (fun _ => ?_)
          clear hK
          refine wpAnyH_ready (rs := [7]) (by kernel_rfl) (by simp) ?_
          refine AllReadyH.cons (o := _) rfl (fun K hK => ?_) AllReadyH.nil
          rw [if_pos (by rfl)]
          go_simp
          refine hK.out _ _ hSd (fun _ => ?_)
          clear hK
          refine wpAnyH_ready (rs := [8]) (by kernel_rfl) (by simp) ?_
          refine AllReadyH.cons (o := _) rfl (fun K hK => ?_) AllReadyH.nil
          rw [if_pos (by rfl)]
          go_simp
          refine hK.out _ _ HFIN.1 (fun _ => ?_)
          clear hK
          refine wpAnyH_done (by kernel_rfl) ?_ _
          obtain ⟨_, f1, f2, ⟨v, f3, f4⟩, f5, f6, f7, f8⟩ := HFIN
          exact ⟨f1, f2, ⟨v, f3, by rw [List.length_append, List.map_append, List.map_append]; exact f4⟩, f5, f6, f7, f8⟩
        case wD =>
          rw [if_pos (by rfl)]
          go_simp
          have hV2 : Below W'.heap.size W' (V1.alloc (Obj.cells #[.int .i64 (T x.1)] 3)) := hV1.trans ((bel_alloc _ _).mono hV1.size)
          have hSd := HS.out _ hV2
          have p2 := HP2.out _ hV2
          refine hK.out _ _ hSd (fun _ => ?_)
          clear hK
          refine wpAnyH_ready (rs := [1]) (by kernel_rfl) (by simp) ?_
          refine AllReadyH.cons (o := _) rfl (fun K hK => ?_) AllReadyH.nil
          rw [if_pos (by rfl)]
          go_simp
          refine hK.out _ _ hSd (fun _ => ?_)
          clear hK
          have ho2 := ((ownsRow_below i2 hV1).alloc (Obj.cells #[.int .i64 (T x.1)] 3))
          refine wpAnyH_ready (rs := [6]) (by kernel_rfl) (by simp) ?_
          refine AllReadyH.cons (o := _) rfl (fun K hK => ?_) AllReadyH.nil
          refine step_append_lies _ rfl _ _ 22 rfl (w.heap.size) 3 i0 (.int .i64 0) 1 8 Try.underlying22 hi hz0 hz1 hz2 rfl Nat.one_pos (.slice so pre.length scap) pre.length ((pre.map fun (j : Fin N) => T j.1).map (Value.int .i64)) rfl ho2 ⟨V1.heap.size, 0, none⟩ 1 1 [.int .i64 (T x.1)] rfl rfl (fun j u hj => by obtain ⟨rfl, rfl⟩ := one_get hj; simp [Addr.add]) (fun u hu => by simp at hu; subst hu; rfl) Nat.one_pos HL1.out HL2.out (Nat.le_trans hbW hV2.size) _ rfl ?_
          intro g cap w1 hown hgrow hat hltg
          obtain ⟨hSd, p2, p2f, HFIN⟩ := HTL.out V1 g cap w1 hV1 hgrow hown
          refine hK.out _ _ hSd (fun _ => ?_)
          clear hK
          refine wpAnyH_ready (rs := [7]) (by kernel_rfl) (by simp) ?_
          refine AllReadyH.cons (o := _) rfl (fun K hK => ?_) AllReadyH.nil
          rw [if_pos (by rfl)]
          go_simp
          refine hK.out _ _ hSd (fun _ => ?_)
          clear hK
          refine wpAnyH_ready (rs := [8]) (by kernel_rfl) (by simp) ?_
          refine AllReadyH.cons (o := _) rfl (fun K hK => ?_) AllReadyH.nil
          rw [if_pos (by rfl)]
          go_simp
          refine hK.out _ _ HFIN.1 (fun _ => ?_)
          clear hK
          refine wpAnyH_done (by kernel_rfl) ?_ _
          obtain ⟨_, f1, f2, ⟨v, f3, f4⟩, f5, f6, f7, f8⟩ := HFIN
          exact ⟨f1, f2, ⟨v, f3, by rw [List.length_append, List.map_append, List.map_append]; exact f4⟩, f5, f6, f7, f8⟩
    case done =>
      rintro D ys W' hD rfl ⟨⟨v, i1, i2⟩, i3, i4, i6, i5⟩ hK
      have p0 : W'.cell? ⟨PB, 0, none⟩ = some (.int .i64 W) := by rw [Lib.cell_of_heap i1]; rfl
      have p1 : W'.cell? ⟨PB, 1, none⟩ = some (.int .i64 H) := by rw [Lib.cell_of_heap i1]; rfl
      have p2 : W'.cell? ⟨PB, 2, none⟩ = some v := by rw [Lib.cell_of_heap i1]; rfl
      have r0 : W'.cell? ⟨w.heap.size + 1 + 1, 0, none⟩ = some (.int .i64 0) := by rw [Lib.cell_of_heap i4]; rfl
      have r1 : W'.cell? ⟨w.heap.size + 1 + 1, 1, none⟩ = some (.int .i64 0) := by rw [Lib.cell_of_heap i4]; rfl
      have r2 : W'.cell? ⟨w.heap.size + 1 + 1, 2, none⟩ = some (.slice none 0 0) := by rw [Lib.cell_of_heap i4]; rfl
      have f0 : W'.frozen? ⟨w.heap.size + 1 + 1, 0, none⟩ = false := Lib.frozen_of_heap i4 0
      have f1 : W'.frozen? ⟨w.heap.size + 1 + 1, 1, none⟩ = false := Lib.frozen_of_heap i4 1
      have f2 : W'.frozen? ⟨w.heap.size + 1 + 1, 2, none⟩ = false := Lib.frozen_of_heap i4 2
      obtain ⟨ao, cap, rfl⟩ := lenOf_any i2
      gi_wp2
      obtain ⟨x1, x2, x3, x4⟩ := box3_set i4 (.int .i64 W) (.int .i64 H) (.slice ao (List.finRange N).length cap) w (by omega) i5
      have i2' := own_other x2 (own_ne i2 i4 (by decide)) i2
      have hDr : D ≠ w.heap.size + 2 := fun e => by rw [e, i4] at hK; cases hK
      replace hK := (x2 D hDr).trans hK
      simp only [List.length_finRange] at x1 x2 x3 x4 i2' hK
      generalize ((W'.setCell ⟨w.heap.size + 1 + 1, 0, none⟩ (.int .i64 W)).setCell ⟨w.heap.size + 1 + 1, 1, none⟩ (.int .i64 H)).setCell ⟨w.heap.size + 1 + 1, 2, none⟩ (.slice ao N cap) = X at *
      refine ⟨by simp, .inl ⟨_, _, rfl, run_takeDeferred hK, ?_⟩⟩
      have y1 := (World.putObj_heap_other (w := X) (o := .deferred none) (Ne.symm hDr)).trans x1
      have y2 := ownsRow_putObj i2' (.deferred none) hK rfl
      have y3 : Below w.heap.size w (X.putObj D (.deferred none)) := x4.trans (belowK_b (w := w) (Nat.le_refl _) X D _ _ (by omega) hK rfl rfl)
      have c0 : (X.putObj D (.deferred none)).cell? ⟨w.heap.size + 1 + 1, 0, none⟩ = some (.int .i64 W) := by rw [Lib.cell_of_heap y1]; rfl
      have c1 : (X.putObj D (.deferred none)).cell? ⟨w.heap.size + 1 + 1, 1, none⟩ = some (.int .i64 H) := by rw [Lib.cell_of_heap y1]; rfl
      have c2 : (X.putObj D (.deferred none)).cell? ⟨w.heap.size + 1 + 1, 2, none⟩ = some (.slice ao N cap) := by rw [Lib.cell_of_heap y1]; rfl
      generalize X.putObj D (.deferred none) = Z at *
      refine ⟨.agg #[.int .i64 W, .int .i64 H, .slice ao N cap], by simp [results, Try.results55, go_sem, c0, c1, c2], .slice ao N cap, rfl, ?_, y3, Fresh.own (by simpa using y2)⟩
      rw [← map_finRange N T]
      exact IsInts.own (base := w.heap.size) (by simpa using y2) (by simp; omega)
    case stop => rintro D c pre W' _ _ h _; exact h.elim

end Go.Proofs.Ytolcndchfnifhab

/- A region that ends with a store: two may come up. -/
namespace Go.Proofs.Ytolcndchfnifhab
open Go

section
variable {P : Program} {ops : Array Oper} {Q : Exit → Act → World → Prop} {md : Region.Mode} {S : World → Prop} {f : Nat}
theorem wpAnyF_two {i j : Nat} {oi oj : Oper} {fuel : Nat} {listed : Array Bool} {a : Act} {w : World} (hr : Region.ready md ops listed = [i, j]) (hoi : ops[i]? = some oi) (hoj : ops[j]? = some oj)
    (h1 : ∀ K' : Act → World → Prop, Shut (∀ a w, S w → wpAnyF P md ops Q S f fuel (listed.setIfInBounds i true) a w → K' a w) → if Region.wanted oi (yielded ops a.tmps) = true then Oper.wp P oi a w K' Q else K' (a.put oi.dst undef) w)
    (h2 : ∀ K' : Act → World → Prop, Shut (∀ a w, S w → wpAnyF P md ops Q S f fuel (listed.setIfInBounds j true) a w → K' a w) → if Region.wanted oj (yielded ops a.tmps) = true then Oper.wp P oj a w K' Q else K' (a.put oj.dst undef) w) :
    wpAnyF P md ops Q S f (fuel + 1) listed a w :=
  ⟨fun h0 => (by rw [hr] at h0; cases h0), fun k hk => by
    rw [hr] at hk
    rcases List.mem_cons.1 hk with e | hk
    · subst e
      exact wpOp_step hoi (fun K' hK => h1 K' (fun a w hS hW => hK a w ⟨fun _ => hS, hW⟩))
    · obtain rfl := List.mem_singleton.1 hk
      exact wpOp_step hoj (fun K' hK => h2 K' (fun a w hS hW => hK a w ⟨fun _ => hS, hW⟩))⟩
/-- take number i first, its slot written out. -/
theorem wpAnyF_takeD {i : Nat} {oi : Oper} {v : Value} {fuel : Nat} {listed : Array Bool} {a : Act} {w : World} (d : Option Nat) (hi : ops[i]? = some oi) (hd : oi.dst = d)
    (hs : Region.noSelect ops = true) (hf : Region.free md ops listed i = true) (hr : (Region.ready md ops listed).contains i = true) (hwt : waits md ops i ops.size f = true) (hcl : closedB md ops listed = true)
    (hQ : ∀ c a w, Q (.panic c) (a.put oi.dst v) w → Q (.panic c) a w) (hy : YieldsIf P ops S oi v a) (hS : S w)
    (h : wpAnyF P md ops Q S f fuel (listed.setIfInBounds i true) (a.put d v) w) : wpAnyF P md ops Q S f (fuel + 1) listed a w := by
  subst hd
  exact wpAnyF_take hi hs hf hr hwt hcl hQ hy hS h
end

end Go.Proofs.Ytolcndchfnifhab

/- sensor: what Level and Gain tell of a place. -/
namespace Go.Proofs.Ytolcndchfnifhab
set_option linter.unusedVariables false
open Go.RowKit

def levelV (zs : List Int) (W : Nat) (m : Nat → Int) (white : Int) (j : Nat) : Int := clampV ((zAt zs j - m (j / W % 2 * 2 + j % W % 2)) * 65535 / (white - m (j / W % 2 * 2 + j % W % 2)))
def gainV (zs : List Int) (W p : Nat) (m : Nat → Int) (j : Nat) : Int := clampV (zAt zs j * m (colV p (j % W) (j / W)) / 256)
theorem colV_lt3 (p X Y : Nat) : colV p X Y < 3 := by unfold colV; split <;> omega

set_option maxRecDepth 100000 in
set_option maxHeartbeats 1600000 in
theorem level1_any (W H j bk off ca : Nat) (hW1 : 1 ≤ W) (hW : W ≤ 64) (hH : H ≤ 64) (zs : List Int) (hlen : zs.length = H * W) (hzs : allIn 0 65535 zs = true) (hj : j < zs.length) (m : Nat → Int) (white : Int) (hw0 : white ≤ 65535) (hm : ∀ k, k < 4 → 0 ≤ m k ∧ m k ≤ white - 1) (Bb Bp Bg Bw : Nat) (w : World) (hBp : Bp < w.heap.size) (hBg : Bg < w.heap.size) (hbk : bk < w.heap.size)
    (k2 : w.cell? ⟨Bp, 2, none⟩ = some (.slice (some ⟨bk, off, none⟩) zs.length ca)) (g0 : w.cell? ⟨Bg, 0, none⟩ = some (.int .i64 W)) (g1 : w.cell? ⟨Bg, 1, none⟩ = some (.int .i64 H)) (hBb : Bb < w.heap.size) (hBw : Bw < w.heap.size) (kb : ∀ k, k < 4 → w.cell? ⟨Bb, k, none⟩ = some (.int .i64 (m k))) (kw : w.cell? ⟨Bw, 0, none⟩ = some (.int .i64 white))
    (hcell : ∀ j, j < zs.length → w.cell? ⟨bk, off + j, none⟩ = some (.int .i64 (zAt zs j))) :
    Calls Try.prog 104 #[.agg #[.int .i64 (j % W : Nat), .int .i64 (j / W : Nat)], .pointer (some ⟨Bb, 0, none⟩), .pointer (some ⟨Bp, 0, none⟩), .pointer (some ⟨Bg, 0, none⟩), .pointer (some ⟨Bw, 0, none⟩)] w fun e w' => e = .returned (.int .i64 (levelV zs W m white j)) ∧ Below w.heap.size w w' := by
  have HT := hide (show levelV zs W m white j = clampV ((zAt zs j - m (j / W % 2 * 2 + j % W % 2)) * 65535 / (white - m (j / W % 2 * 2 + j % W % 2))) from rfl)
  generalize levelV zs W m white j = RES at *
  have hl4 : zs.length ≤ 4096 := by rw [hlen]; exact Nat.le_trans (Nat.mul_le_mul hH hW) (by decide)
  obtain ⟨X, hX⟩ : ∃ X, j % W = X := ⟨_, rfl⟩
  obtain ⟨Y, hY⟩ : ∃ Y, j / W = Y := ⟨_, rfl⟩
  have hk : Y * W + X = j := by rw [← hX, ← hY, Nat.mul_comm]; exact Nat.div_add_mod j W
  have HIX := hide (fun v => index_any W H X Y W j rfl hk (by omega) v)
  have hzr := zAt_ok hzs j
  have hcz := hcell j hj
  have hjI : (j : Int) < (zs.length : Int) := by omega
  rw [hX, hY] at HT
  rw [hX, hY]
  obtain ⟨a, ha⟩ : ∃ a, Y % 2 = a := ⟨_, rfl⟩
  obtain ⟨b, hb⟩ : ∃ b, X % 2 = b := ⟨_, rfl⟩
  have hya : (Y : Int) % 2 = (a : Int) := by rw [← ha]; rfl
  have hxb : (X : Int) % 2 = (b : Int) := by rw [← hb]; rfl
  obtain ⟨A2, hA2⟩ : ∃ A2, a * 2 = A2 := ⟨_, rfl⟩
  have hi1 : (a : Int) * 2 = (A2 : Int) := by omega
  obtain ⟨ix, hix⟩ : ∃ ix, A2 + b = ix := ⟨_, rfl⟩
  have hi2 : (A2 : Int) + (b : Int) = (ix : Int) := by omega
  have hix4 : ix < 4 := by omega
  have hixI : (ix : Int) < 4 := by omega
  rw [ha, hb, hA2, hix] at HT
  obtain ⟨hm0, hm1⟩ := hm ix hix4
  have kb0 := kb ix hix4
  obtain ⟨bl, hbl⟩ : ∃ bl, m ix = bl := ⟨_, rfl⟩
  rw [hbl] at HT hm0 hm1 kb0
  obtain ⟨z, hz⟩ : ∃ z, zAt zs j = z := ⟨_, rfl⟩
  rw [hz] at HT hzr hcz
  obtain ⟨hz1, hz2⟩ := hzr
  obtain ⟨d, hd⟩ : ∃ d, white - bl = d := ⟨_, rfl⟩
  rw [hd] at HT
  have hd1 : 1 ≤ d := by omega
  have hd0 : ¬ (d = 0) := by omega
  obtain ⟨n, hn⟩ : ∃ n, (z - bl) * 65535 = n := ⟨_, rfl⟩
  rw [hn, ← clamp_tdiv n d (by omega)] at HT
  have hn1 : -4294967296 ≤ n ∧ n ≤ 4294967296 := by omega
  have hf := down_facts n d (by omega)
  have hr1 : -4294967296 ≤ n / d := Int.le_ediv_of_mul_le (by omega) (by omega)
  have hr2 : n / d ≤ 4294967296 := Int.ediv_le_of_le_mul (by omega) (by omega)
  obtain ⟨q, hq⟩ : ∃ q, n.tdiv d = q := ⟨_, rfl⟩
  rw [hq] at HT hf
  have hqr : -4294967297 ≤ q ∧ q ≤ 4294967298 := by omega
  obtain ⟨hq1, hq2⟩ := hqr
  have hwd : IntKind.i64.wrap (white - bl) = d := by rw [hd]; exact IntWalk.i64_in _ (by omega)
  have hwd2 : IntKind.i64.wrap d = d := IntWalk.i64_in _ (by omega)
  have hwe : IntKind.i64.wrap (z - bl) = z - bl := IntWalk.i64_in _ (by omega)
  have hwn : IntKind.i64.wrap n = n := IntWalk.i64_in _ (by omega)
  have hwq : IntKind.i64.wrap q = q := IntWalk.i64_in _ (by omega)
  clear hf hr1 hr2 hX hY ha hb hA2 hix hbl hz hk hlen hcell hm kb hzs
  have HB := hide (bel_alloc w (Obj.cells #[.int .i64 X, .int .i64 Y] 93))
  have a1 := al1 w (Obj.cells #[.int .i64 X, .int .i64 Y] 93)
  have kb1 := (HB.out.cell (p := ⟨Bb, ix, none⟩) hBb).trans kb0
  obtain ⟨s0, s1⟩ := bx2 a1
  go_enter Try.func104, Try.ntmps104
  go_wp2_with fail
  have hl1 := (Array.getElem?_eq_some_iff.1 a1).1
  generalize w.alloc (Obj.cells #[.int .i64 X, .int .i64 Y] 93) = U at *
  have HS := hide (show ∀ v, Below U.heap.size U v → v.cell? ⟨Bp, 2, none⟩ = some (.slice (some ⟨bk, off, none⟩) zs.length ca) ∧ v.cell? ⟨Bg, 0, none⟩ = some (.int .i64 W) ∧ v.cell? ⟨Bg, 1, none⟩ = some (.int .i64 H) ∧ v.cell? ⟨w.heap.size, 0, none⟩ = some (.int .i64 X) ∧ v.cell? ⟨w.heap.size, 1, none⟩ = some (.int .i64 Y) ∧ v.cell? ⟨bk, off + j, none⟩ = some (.int .i64 z) ∧ v.cell? ⟨Bw, 0, none⟩ = some (.int .i64 white) from fun v h => by
    have hw := HB.out.trans (h.mono HB.out.size)
    obtain ⟨y0, y1⟩ := bx2 ((h.block _ hl1).trans a1)
    exact ⟨(hw.cell (p := ⟨Bp, 2, none⟩) hBp).trans k2, (hw.cell (p := ⟨Bg, 0, none⟩) hBg).trans g0, (hw.cell (p := ⟨Bg, 1, none⟩) hBg).trans g1, y0, y1, (hw.cell (p := ⟨bk, off + j, none⟩) hbk).trans hcz, (hw.cell (p := ⟨Bw, 0, none⟩) hBw).trans kw⟩)
  have hWd : Below U.heap.size U U.drew := (Below.refl _ _).drew
  have hSd := HS.out _ hWd
  clear s0 s1
  have hmx : Try.prog.follows .mixedOrders = true := by kernel_rfl
  refine wp_region_last (S := fun v : World => v.cell? ⟨Bp, 2, none⟩ = some (.slice (some ⟨bk, off, none⟩) zs.length ca) ∧ v.cell? ⟨Bg, 0, none⟩ = some (.int .i64 W) ∧ v.cell? ⟨Bg, 1, none⟩ = some (.int .i64 H) ∧ v.cell? ⟨w.heap.size, 0, none⟩ = some (.int .i64 X) ∧ v.cell? ⟨w.heap.size, 1, none⟩ = some (.int .i64 Y) ∧ v.cell? ⟨bk, off + j, none⟩ = some (.int .i64 z) ∧ v.cell? ⟨Bw, 0, none⟩ = some (.int .i64 white)) (f := 15) hmx ?_
  show wpAnyF _ _ _ _ _ _ 16 _ _ U.drew
  refine wpAnyF_takeD (i := 0) (oi := _) (v := ?vv1) (some 18) rfl rfl (by kernel_rfl) (by kernel_rfl) (by kernel_rfl) (by kernel_rfl) (by kernel_rfl) (fun _ _ _ h => h) (Or.inl ⟨by rfl, ?yy1⟩) hSd ?rr1
  case yy1 => (intro wq hSq; obtain ⟨_, _, _, _, _, _, _⟩ := hSq; go_simp <;> with_reducible rfl)
  simp only [Act.put, List.setIfInBounds_toArray, List.set_cons_succ, List.set_cons_zero]
  refine wpAnyF_takeD (i := 2) (oi := _) (v := ?vv2) (some 20) rfl rfl (by kernel_rfl) (by kernel_rfl) (by kernel_rfl) (by kernel_rfl) (by kernel_rfl) (fun _ _ _ h => h) (Or.inl ⟨by rfl, ?yy2⟩) hSd ?rr2
  case yy2 => (intro wq hSq; obtain ⟨_, _, _, _, _, _, _⟩ := hSq; go_simp <;> with_reducible rfl)
  simp only [Act.put, List.setIfInBounds_toArray, List.set_cons_succ, List.set_cons_zero]
  refine wpAnyF_takeD (i := 3) (oi := _) (v := ?vv3) (some 21) rfl rfl (by kernel_rfl) (by kernel_rfl) (by kernel_rfl) (by kernel_rfl) (by kernel_rfl) (fun _ _ _ h => h) (Or.inl ⟨by rfl, ?yy3⟩) hSd ?rr3
  case yy3 => (intro wq hSq; obtain ⟨_, _, _, _, _, _, _⟩ := hSq; go_simp <;> with_reducible rfl)
  simp only [Act.put, List.setIfInBounds_toArray, List.set_cons_succ, List.set_cons_zero]
  refine wpAnyF_takeD (i := 7) (oi := _) (v := ?vv4) (some 25) rfl rfl (by kernel_rfl) (by kernel_rfl) (by kernel_rfl) (by kernel_rfl) (by kernel_rfl) (fun _ _ _ h => h) (Or.inl ⟨by rfl, ?yy4⟩) hSd ?rr4
  case yy4 => (intro wq hSq; obtain ⟨_, _, _, _, _, _, _⟩ := hSq; go_simp <;> with_reducible rfl)
  simp only [Act.put, List.setIfInBounds_toArray, List.set_cons_succ, List.set_cons_zero]
  refine wpAnyF_takeD (i := 10) (oi := _) (v := ?vv5) (some 28) rfl rfl (by kernel_rfl) (by kernel_rfl) (by kernel_rfl) (by kernel_rfl) (by kernel_rfl) (fun _ _ _ h => h) (Or.inl ⟨by rfl, ?yy5⟩) hSd ?rr5
  case yy5 => (intro wq hSq; obtain ⟨_, _, _, _, _, _, _⟩ := hSq; go_simp <;> with_reducible rfl)
  simp only [Act.put, List.setIfInBounds_toArray, List.set_cons_succ, List.set_cons_zero]
  refine wpAnyF_takeD (i := 11) (oi := _) (v := ?vv6) (some 29) rfl rfl (by kernel_rfl) (by kernel_rfl) (by kernel_rfl) (by kernel_rfl) (by kernel_rfl) (fun _ _ _ h => h) (Or.inl ⟨by rfl, ?yy6⟩) hSd ?rr6
  case yy6 => (intro wq hSq; obtain ⟨_, _, _, _, _, _, _⟩ := hSq; go_simp <;> with_reducible rfl)
  simp only [Act.put, List.setIfInBounds_toArray, List.set_cons_succ, List.set_cons_zero]
  refine wpAnyF_takeD (i := 1) (oi := _) (v := ?vv7) (some 19) rfl rfl (by kernel_rfl) (by kernel_rfl) (by kernel_rfl) (by kernel_rfl) (by kernel_rfl) (fun _ _ _ h => h) (Or.inl ⟨by rfl, ?yy7⟩) hSd ?rr7
  case yy7 => (intro wq hSq; obtain ⟨_, _, _, _, _, _, _⟩ := hSq; go_simp <;> with_reducible rfl)
  simp only [Act.put, List.setIfInBounds_toArray, List.set_cons_succ, List.set_cons_zero]
  refine wpAnyF_takeD (i := 12) (oi := _) (v := ?vv8) (some 30) rfl rfl (by kernel_rfl) (by kernel_rfl) (by kernel_rfl) (by kernel_rfl) (by kernel_rfl) (fun _ _ _ h => h) (Or.inl ⟨by rfl, ?yy8⟩) hSd ?rr8
  case yy8 => (intro wq hSq; obtain ⟨_, _, _, _, _, _, _⟩ := hSq; go_simp <;> with_reducible rfl)
  simp only [Act.put, List.setIfInBounds_toArray, List.set_cons_succ, List.set_cons_zero]
  refine wpAnyF_one (i := 4) (o := _) (by kernel_rfl) rfl (fun K' hK => ?_)
  rw [if_pos (by rfl)]
  go_simp
  refine (HIX.out _).mono ?_
  rintro e V1 ⟨rfl, hbv⟩
  have hB1 : Below U.heap.size U V1 := hWd.trans (hbv.mono hWd.size)
  have hSd := HS.out _ hB1
  refine hK.out _ _ hSd ?_
  clear hK
  try simp only [Act.put]
  refine wpAnyF_takeD (i := 5) (oi := _) (v := ?vv9) (some 23) rfl rfl (by kernel_rfl) (by kernel_rfl) (by kernel_rfl) (by kernel_rfl) (by kernel_rfl) (fun _ _ _ h => h) (Or.inl ⟨by rfl, ?yy9⟩) hSd ?rr9
  case yy9 => (intro wq hSq; obtain ⟨_, _, _, _, _, _, _⟩ := hSq; go_simp <;> with_reducible rfl)
  simp only [Act.put, List.setIfInBounds_toArray, List.set_cons_succ, List.set_cons_zero]
  refine wpAnyF_takeD (i := 6) (oi := _) (v := ?vv10) (some 24) rfl rfl (by kernel_rfl) (by kernel_rfl) (by kernel_rfl) (by kernel_rfl) (by kernel_rfl) (fun _ _ _ h => h) (Or.inl ⟨by rfl, ?yy10⟩) hSd ?rr10
  case yy10 => (intro wq hSq; obtain ⟨_, _, _, _, _, _, _⟩ := hSq; go_simp <;> with_reducible rfl)
  simp only [Act.put, List.setIfInBounds_toArray, List.set_cons_succ, List.set_cons_zero]
  refine wpAnyF_takeD (i := 8) (oi := _) (v := ?vv11) (some 26) rfl rfl (by kernel_rfl) (by kernel_rfl) (by kernel_rfl) (by kernel_rfl) (by kernel_rfl) (fun _ _ _ h => h) (Or.inl ⟨by rfl, ?yy11⟩) hSd ?rr11
  case yy11 => (intro wq hSq; obtain ⟨_, _, _, _, _, _, _⟩ := hSq; go_simp <;> with_reducible rfl)
  simp only [Act.put, List.setIfInBounds_toArray, List.set_cons_succ, List.set_cons_zero]
  refine wpAnyF_takeD (i := 9) (oi := _) (v := ?vv12) (some 27) rfl rfl (by kernel_rfl) (by kernel_rfl) (by kernel_rfl) (by kernel_rfl) (by kernel_rfl) (fun _ _ _ h => h) (Or.inl ⟨by rfl, ?yy12⟩) hSd ?rr12
  case yy12 => (intro wq hSq; obtain ⟨_, _, _, _, _, _, _⟩ := hSq; go_simp <;> with_reducible rfl)
  simp only [Act.put, List.setIfInBounds_toArray, List.set_cons_succ, List.set_cons_zero]
  refine wpAnyF_takeD (i := 13) (oi := _) (v := ?vv13) (some 31) rfl rfl (by kernel_rfl) (by kernel_rfl) (by kernel_rfl) (by kernel_rfl) (by kernel_rfl) (fun _ _ _ h => h) (Or.inl ⟨by rfl, ?yy13⟩) hSd ?rr13
  case yy13 => (intro wq hSq; obtain ⟨_, _, _, _, _, _, _⟩ := hSq; go_simp <;> with_reducible rfl)
  simp only [Act.put, List.setIfInBounds_toArray, List.set_cons_succ, List.set_cons_zero]
  refine wpAnyF_one (i := 14) (o := _) (by kernel_rfl) rfl (fun K' hK => ?_)
  rw [if_pos (by rfl)]
  go_simp
  refine (held_any _ _).mono ?_
  rintro e Vx ⟨rfl, rfl⟩
  have hSd := hSd
  refine hK.out _ _ hSd ?_
  clear hK
  try simp only [Act.put]
  refine wpAnyF_last (o := _) (by kernel_rfl) rfl (fun K' hK => ?_)
  rw [if_pos (by rfl)]
  go_simp
  refine hK.out _ _ ?_
  clear hK
  refine wpAnyF_done (by kernel_rfl) ?_ _
  try simp only [Act.put]
  go_wp2
  go_ret
  exact ⟨ret_int HT.out.symm, HB.out.trans (hB1.mono HB.out.size)⟩

set_option maxRecDepth 100000 in
set_option maxHeartbeats 1600000 in
theorem gain1_any (W H j bk off ca : Nat) (hW1 : 1 ≤ W) (hW : W ≤ 64) (hH : H ≤ 64) (zs : List Int) (hlen : zs.length = H * W) (hzs : allIn 0 65535 zs = true) (hj : j < zs.length) (p : Nat) (hp : p ≤ 3) (m : Nat → Int) (hm : ∀ k, k < 3 → 0 ≤ m k ∧ m k ≤ 65535) (Bh Bp Bg Bm : Nat) (w : World) (hBp : Bp < w.heap.size) (hBg : Bg < w.heap.size) (hbk : bk < w.heap.size)
    (k2 : w.cell? ⟨Bp, 2, none⟩ = some (.slice (some ⟨bk, off, none⟩) zs.length ca)) (g0 : w.cell? ⟨Bg, 0, none⟩ = some (.int .i64 W)) (g1 : w.cell? ⟨Bg, 1, none⟩ = some (.int .i64 H)) (hBh : Bh < w.heap.size) (hBm : Bm < w.heap.size) (kh : w.cell? ⟨Bh, 0, none⟩ = some (.int .i64 p)) (km : ∀ k, k < 3 → w.cell? ⟨Bm, k, none⟩ = some (.int .i64 (m k)))
    (hcell : ∀ j, j < zs.length → w.cell? ⟨bk, off + j, none⟩ = some (.int .i64 (zAt zs j))) :
    Calls Try.prog 56 #[.agg #[.int .i64 (j % W : Nat), .int .i64 (j / W : Nat)], .pointer (some ⟨Bh, 0, none⟩), .pointer (some ⟨Bp, 0, none⟩), .pointer (some ⟨Bg, 0, none⟩), .pointer (some ⟨Bm, 0, none⟩)] w fun e w' => e = .returned (.int .i64 (gainV zs W p m j)) ∧ Below w.heap.size w w' := by
  have HT := hide (show gainV zs W p m j = clampV (zAt zs j * m (colV p (j % W) (j / W)) / 256) from rfl)
  generalize gainV zs W p m j = RES at *
  have hl4 : zs.length ≤ 4096 := by rw [hlen]; exact Nat.le_trans (Nat.mul_le_mul hH hW) (by decide)
  obtain ⟨X, hX⟩ : ∃ X, j % W = X := ⟨_, rfl⟩
  obtain ⟨Y, hY⟩ : ∃ Y, j / W = Y := ⟨_, rfl⟩
  have hk : Y * W + X = j := by rw [← hX, ← hY, Nat.mul_comm]; exact Nat.div_add_mod j W
  have HIX := hide (fun v => index_any W H X Y W j rfl hk (by omega) v)
  have hzr := zAt_ok hzs j
  have hcz := hcell j hj
  have hjI : (j : Int) < (zs.length : Int) := by omega
  rw [hX, hY] at HT
  rw [hX, hY]
  have HCO := hide (fun v => colour_ok p X Y hp v)
  have hc3 := colV_lt3 p X Y
  obtain ⟨c, hc⟩ : ∃ c, colV p X Y = c := ⟨_, rfl⟩
  rw [hc] at HCO HT hc3
  have hcI : (c : Int) < 3 := by omega
  obtain ⟨hm0, hm1⟩ := hm c hc3
  have km0 := km c hc3
  obtain ⟨gn, hgn⟩ : ∃ gn, m c = gn := ⟨_, rfl⟩
  rw [hgn] at HT hm0 hm1 km0
  obtain ⟨z, hz⟩ : ∃ z, zAt zs j = z := ⟨_, rfl⟩
  rw [hz] at HT hzr hcz
  obtain ⟨hz1, hz2⟩ := hzr
  have hn0 : 0 ≤ z * gn := Int.mul_nonneg hz1 hm0
  have hn1 : z * gn ≤ 65535 * 65535 := Int.mul_le_mul hz2 hm1 hm0 (by omega)
  obtain ⟨n, hn⟩ : ∃ n, z * gn = n := ⟨_, rfl⟩
  rw [hn] at HT hn0 hn1
  have hq0 := Int.tdiv_eq_ediv_of_nonneg (b := 256) hn0
  rw [← hq0] at HT
  have hqr : 0 ≤ n.tdiv 256 ∧ n.tdiv 256 ≤ 4294967296 := by rw [hq0]; omega
  obtain ⟨q, hq⟩ : ∃ q, n.tdiv 256 = q := ⟨_, rfl⟩
  rw [hq] at HT hqr
  obtain ⟨hq1, hq2⟩ := hqr
  have hq3 : n / 256 = q := by rw [← hq0]; exact hq
  have hwn : IntKind.i64.wrap n = n := IntWalk.i64_in _ (by omega)
  have hwq : IntKind.i64.wrap q = q := IntWalk.i64_in _ (by omega)
  clear hq0 hX hY hc hgn hz hk hlen hcell hm km hzs
  have HB := hide (bel_alloc w (Obj.cells #[.int .i64 X, .int .i64 Y] 93))
  have a1 := al1 w (Obj.cells #[.int .i64 X, .int .i64 Y] 93)
  have kh1 := (HB.out.cell (p := ⟨Bh, 0, none⟩) hBh).trans kh
  obtain ⟨s0, s1⟩ := bx2 a1
  go_enter Try.func56, Try.ntmps56
  go_wp2_with fail
  have hl1 := (Array.getElem?_eq_some_iff.1 a1).1
  have hB0 := HB
  generalize w.alloc (Obj.cells #[.int .i64 X, .int .i64 Y] 93) = U0 at *
  refine (HCO.out _).mono ?_
  rintro e U ⟨rfl, hbU⟩
  replace HB := hide (HB.out.trans (hbU.mono HB.out.size))
  replace a1 := (hbU.block _ hl1).trans a1
  replace hl1 := (Array.getElem?_eq_some_iff.1 a1).1
  go_wp2_with fail
  clear kh1 hbU hB0
  have HS := hide (show ∀ v, Below U.heap.size U v → v.cell? ⟨Bp, 2, none⟩ = some (.slice (some ⟨bk, off, none⟩) zs.length ca) ∧ v.cell? ⟨Bg, 0, none⟩ = some (.int .i64 W) ∧ v.cell? ⟨Bg, 1, none⟩ = some (.int .i64 H) ∧ v.cell? ⟨w.heap.size, 0, none⟩ = some (.int .i64 X) ∧ v.cell? ⟨w.heap.size, 1, none⟩ = some (.int .i64 Y) ∧ v.cell? ⟨bk, off + j, none⟩ = some (.int .i64 z) ∧ v.cell? ⟨Bm, c, none⟩ = some (.int .i64 gn) from fun v h => by
    have hw := HB.out.trans (h.mono HB.out.size)
    obtain ⟨y0, y1⟩ := bx2 ((h.block _ hl1).trans a1)
    exact ⟨(hw.cell (p := ⟨Bp, 2, none⟩) hBp).trans k2, (hw.cell (p := ⟨Bg, 0, none⟩) hBg).trans g0, (hw.cell (p := ⟨Bg, 1, none⟩) hBg).trans g1, y0, y1, (hw.cell (p := ⟨bk, off + j, none⟩) hbk).trans hcz, (hw.cell (p := ⟨Bm, c, none⟩) hBm).trans km0⟩)
  have hWd : Below U.heap.size U U.drew := (Below.refl _ _).drew
  have hSd := HS.out _ hWd
  clear s0 s1
  have hmx : Try.prog.follows .mixedOrders = true := by kernel_rfl
  refine wp_region_last (S := fun v : World => v.cell? ⟨Bp, 2, none⟩ = some (.slice (some ⟨bk, off, none⟩) zs.length ca) ∧ v.cell? ⟨Bg, 0, none⟩ = some (.int .i64 W) ∧ v.cell? ⟨Bg, 1, none⟩ = some (.int .i64 H) ∧ v.cell? ⟨w.heap.size, 0, none⟩ = some (.int .i64 X) ∧ v.cell? ⟨w.heap.size, 1, none⟩ = some (.int .i64 Y) ∧ v.cell? ⟨bk, off + j, none⟩ = some (.int .i64 z) ∧ v.cell? ⟨Bm, c, none⟩ = some (.int .i64 gn)) (f := 13) hmx ?_
  show wpAnyF _ _ _ _ _ _ 14 _ _ U.drew
  refine wpAnyF_takeD (i := 0) (oi := _) (v := ?vv14) (some 18) rfl rfl (by kernel_rfl) (by kernel_rfl) (by kernel_rfl) (by kernel_rfl) (by kernel_rfl) (fun _ _ _ h => h) (Or.inl ⟨by rfl, ?yy14⟩) hSd ?rr14
  case yy14 => (intro wq hSq; obtain ⟨_, _, _, _, _, _, _⟩ := hSq; go_simp <;> with_reducible rfl)
  simp only [Act.put, List.setIfInBounds_toArray, List.set_cons_succ, List.set_cons_zero]
  refine wpAnyF_takeD (i := 2) (oi := _) (v := ?vv15) (some 20) rfl rfl (by kernel_rfl) (by kernel_rfl) (by kernel_rfl) (by kernel_rfl) (by kernel_rfl) (fun _ _ _ h => h) (Or.inl ⟨by rfl, ?yy15⟩) hSd ?rr15
  case yy15 => (intro wq hSq; obtain ⟨_, _, _, _, _, _, _⟩ := hSq; go_simp <;> with_reducible rfl)
  simp only [Act.put, List.setIfInBounds_toArray, List.set_cons_succ, List.set_cons_zero]
  refine wpAnyF_takeD (i := 3) (oi := _) (v := ?vv16) (some 21) rfl rfl (by kernel_rfl) (by kernel_rfl) (by kernel_rfl) (by kernel_rfl) (by kernel_rfl) (fun _ _ _ h => h) (Or.inl ⟨by rfl, ?yy16⟩) hSd ?rr16
  case yy16 => (intro wq hSq; obtain ⟨_, _, _, _, _, _, _⟩ := hSq; go_simp <;> with_reducible rfl)
  simp only [Act.put, List.setIfInBounds_toArray, List.set_cons_succ, List.set_cons_zero]
  refine wpAnyF_takeD (i := 7) (oi := _) (v := ?vv17) (some 25) rfl rfl (by kernel_rfl) (by kernel_rfl) (by kernel_rfl) (by kernel_rfl) (by kernel_rfl) (fun _ _ _ h => h) (Or.inl ⟨by rfl, ?yy17⟩) hSd ?rr17
  case yy17 => (intro wq hSq; obtain ⟨_, _, _, _, _, _, _⟩ := hSq; go_simp <;> with_reducible rfl)
  simp only [Act.put, List.setIfInBounds_toArray, List.set_cons_succ, List.set_cons_zero]
  refine wpAnyF_takeD (i := 1) (oi := _) (v := ?vv18) (some 19) rfl rfl (by kernel_rfl) (by kernel_rfl) (by kernel_rfl) (by kernel_rfl) (by kernel_rfl) (fun _ _ _ h => h) (Or.inl ⟨by rfl, ?yy18⟩) hSd ?rr18
  case yy18 => (intro wq hSq; obtain ⟨_, _, _, _, _, _, _⟩ := hSq; go_simp <;> with_reducible rfl)
  simp only [Act.put, List.setIfInBounds_toArray, List.set_cons_succ, List.set_cons_zero]
  refine wpAnyF_takeD (i := 8) (oi := _) (v := ?vv19) (some 26) rfl rfl (by kernel_rfl) (by kernel_rfl) (by kernel_rfl) (by kernel_rfl) (by kernel_rfl) (fun _ _ _ h => h) (Or.inl ⟨by rfl, ?yy19⟩) hSd ?rr19
  case yy19 => (intro wq hSq; obtain ⟨_, _, _, _, _, _, _⟩ := hSq; go_simp <;> with_reducible rfl)
  simp only [Act.put, List.setIfInBounds_toArray, List.set_cons_succ, List.set_cons_zero]
  refine wpAnyF_takeD (i := 9) (oi := _) (v := ?vv20) (some 27) rfl rfl (by kernel_rfl) (by kernel_rfl) (by kernel_rfl) (by kernel_rfl) (by kernel_rfl) (fun _ _ _ h => h) (Or.inl ⟨by rfl, ?yy20⟩) hSd ?rr20
  case yy20 => (intro wq hSq; obtain ⟨_, _, _, _, _, _, _⟩ := hSq; go_simp <;> with_reducible rfl)
  simp only [Act.put, List.setIfInBounds_toArray, List.set_cons_succ, List.set_cons_zero]
  refine wpAnyF_one (i := 4) (o := _) (by kernel_rfl) rfl (fun K' hK => ?_)
  rw [if_pos (by rfl)]
  go_simp
  refine (HIX.out _).mono ?_
  rintro e V1 ⟨rfl, hbv⟩
  have hB1 : Below U.heap.size U V1 := hWd.trans (hbv.mono hWd.size)
  have hSd := HS.out _ hB1
  refine hK.out _ _ hSd ?_
  clear hK
  try simp only [Act.put]
  refine wpAnyF_takeD (i := 5) (oi := _) (v := ?vv21) (some 23) rfl rfl (by kernel_rfl) (by kernel_rfl) (by kernel_rfl) (by kernel_rfl) (by kernel_rfl) (fun _ _ _ h => h) (Or.inl ⟨by rfl, ?yy21⟩) hSd ?rr21
  case yy21 => (intro wq hSq; obtain ⟨_, _, _, _, _, _, _⟩ := hSq; go_simp <;> with_reducible rfl)
  simp only [Act.put, List.setIfInBounds_toArray, List.set_cons_succ, List.set_cons_zero]
  refine wpAnyF_takeD (i := 6) (oi := _) (v := ?vv22) (some 24) rfl rfl (by kernel_rfl) (by kernel_rfl) (by kernel_rfl) (by kernel_rfl) (by kernel_rfl) (fun _ _ _ h => h) (Or.inl ⟨by rfl, ?yy22⟩) hSd ?rr22
  case yy22 => (intro wq hSq; obtain ⟨_, _, _, _, _, _, _⟩ := hSq; go_simp <;> with_reducible rfl)
  simp only [Act.put, List.setIfInBounds_toArray, List.set_cons_succ, List.set_cons_zero]
  refine wpAnyF_takeD (i := 10) (oi := _) (v := ?vv23) (some 28) rfl rfl (by kernel_rfl) (by kernel_rfl) (by kernel_rfl) (by kernel_rfl) (by kernel_rfl) (fun _ _ _ h => h) (Or.inl ⟨by rfl, ?yy23⟩) hSd ?rr23
  case yy23 => (intro wq hSq; obtain ⟨_, _, _, _, _, _, _⟩ := hSq; go_simp <;> with_reducible rfl)
  simp only [Act.put, List.setIfInBounds_toArray, List.set_cons_succ, List.set_cons_zero]
  refine wpAnyF_takeD (i := 11) (oi := _) (v := ?vv24) (some 29) rfl rfl (by kernel_rfl) (by kernel_rfl) (by kernel_rfl) (by kernel_rfl) (by kernel_rfl) (fun _ _ _ h => h) (Or.inl ⟨by rfl, ?yy24⟩) hSd ?rr24
  case yy24 => (intro wq hSq; obtain ⟨_, _, _, _, _, _, _⟩ := hSq; go_simp <;> with_reducible rfl)
  simp only [Act.put, List.setIfInBounds_toArray, List.set_cons_succ, List.set_cons_zero]
  refine wpAnyF_one (i := 12) (o := _) (by kernel_rfl) rfl (fun K' hK => ?_)
  rw [if_pos (by rfl)]
  go_simp
  refine (held_any _ _).mono ?_
  rintro e Vx ⟨rfl, rfl⟩
  have hSd := hSd
  refine hK.out _ _ hSd ?_
  clear hK
  try simp only [Act.put]
  refine wpAnyF_last (o := _) (by kernel_rfl) rfl (fun K' hK => ?_)
  rw [if_pos (by rfl)]
  go_simp
  refine hK.out _ _ ?_
  clear hK
  refine wpAnyF_done (by kernel_rfl) ?_ _
  try simp only [Act.put]
  go_wp2
  go_ret
  exact ⟨ret_int HT.out.symm, HB.out.trans (hB1.mono HB.out.size)⟩

end Go.Proofs.Ytolcndchfnifhab

