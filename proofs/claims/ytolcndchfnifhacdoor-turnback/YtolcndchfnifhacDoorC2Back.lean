/- Back: part 2 of what the proofs need. -/
import Derived.Test.YtolcndchfnifhacDoorC1Back
import Derived.Deep.RegionHeld3
import Derived.OrdersHeld
import Derived.Deep.CutRange
namespace Go.Proofs.YtolcndchfnifhacDoor
open Go.RowKit Go.Shelf
attribute [local go_sem] Oper.semAt_some
set_option maxRecDepth 100000 in
set_option maxHeartbeats 1000000 in
theorem gridPicture_any (W H N : Nat) (hW : W ≤ 64) (hH : H ≤ 64) (hNHW : N = H * W) (tf : Nat) (caps : Array Value) (T : Nat → Int × Int × Int) (w : World) (eg : ∀ args w, (callFunc tf args).run Tryd.prog w = .ok (.enter tf args) w)
    (htell : ∀ (j : Nat) (V : World), j < N → Below w.heap.size w V → Calls Tryd.prog tf (#[.agg #[.int .i64 (j % W : Nat), .int .i64 (j / W : Nat)]] ++ caps) V fun e V' => e = .returned (pixV (T j)) ∧ Below V.heap.size V V') :
    Calls Tryd.prog 19 #[.agg #[.int .i64 W, .int .i64 H], .func (.func tf) #[] caps] w fun e w' => ∃ r, e = .returned (.agg #[.int .i64 W, .int .i64 H, r]) ∧ IsPix w' r ((List.range N).map T) ∧ Below w.heap.size w w' ∧ Fresh w.heap.size r := by
  obtain ⟨i0, hi, hz0, hz1, hz2⟩ := info_parts Tryd.infoPixel
  refine (callsIn_wide (n := 3)).1 ?_
  refine callsIn_of_wp_marks Tryd.func19 rfl trivial ?_ rfl
  simp only [Tryd.ntmps19, List.size_toArray, List.length_cons, List.length_nil, Nat.reduceAdd, Nat.reduceSub, Array.replicate_succ, Array.replicate_zero, List.push_toArray, List.append_toArray, List.nil_append, List.cons_append]
  gi_wp2_with fail
  refine wpIn_wide.2 ?_
  have hN : N = W * H := by rw [hNHW, Nat.mul_comm]
  have HNHW := hide hNHW
  clear hNHW
  have hNi : (W : Int) * (H : Int) = (N : Int) := by rw [hN]; simp
  have hNb : N ≤ 4096 := by rw [hN]; exact Nat.le_trans (Nat.mul_le_mul hW hH) (by decide)
  have hmk : ∀ V : World, (Instr.makeSlice 22 (.int .i64 0) (.int .i64 N)).run Tryd.prog V = .ok (.slice (some ⟨V.heap.size, 0, none⟩) 0 N) (V.alloc (.cells (madeCells #[.int .i64 0, .int .i64 0, .int .i64 0] (N * 3)) 51)) := fun V => by
    have h := run_make (P := Tryd.prog) V 22 51 i0 pixZ Tryd.underlying22 hi hz0 .i64 .i64 0 N (Int.le_refl _) (by omega) (by rw [hz2]; omega) (by omega)
    rw [hz1] at h
    simpa [pixZ, Value.cells] using h
  have hwN : IntKind.i64.wrap ((W : Int) * (H : Int)) = (N : Int) := by rw [hNi]; exact IntWalk.i64_in _ (by omega)
  have hwM : IntKind.i64.wrap (N : Int) = (N : Int) := IntWalk.i64_in _ (by omega)
  have HN := hide hN
  clear hN
  have hB3 := bel_trans (bel_trans (bel_alloc w (Obj.cells #[.int .i64 W, .int .i64 H] 46)) (bel_alloc _ (Obj.cells #[.func (.func tf) #[] caps] 53))) (bel_alloc _ (Obj.cells #[.int .i64 0, .int .i64 0, .slice none 0 0] 24))
  have g0 : (((w.alloc (Obj.cells #[.int .i64 W, .int .i64 H] 46)).alloc (Obj.cells #[.func (.func tf) #[] caps] 53)).alloc (Obj.cells #[.int .i64 0, .int .i64 0, .slice none 0 0] 24)).heap[w.heap.size]? = some (.cells #[.int .i64 W, .int .i64 H] 46 (0, 0)) := by
    rw [Below.heap_alloc _ _ _ (by simp; omega), Below.heap_alloc _ _ _ (by simp)]; exact heap_alloc_new w _
  have g1 : (((w.alloc (Obj.cells #[.int .i64 W, .int .i64 H] 46)).alloc (Obj.cells #[.func (.func tf) #[] caps] 53)).alloc (Obj.cells #[.int .i64 0, .int .i64 0, .slice none 0 0] 24)).heap[w.heap.size + 1]? = some (.cells #[.func (.func tf) #[] caps] 53 (0, 0)) := by
    rw [Below.heap_alloc _ _ _ (by simp)]
    have h := heap_alloc_new (w.alloc (Obj.cells #[.int .i64 W, .int .i64 H] 46)) (Obj.cells #[.func (.func tf) #[] caps] 53)
    rw [World.size_alloc] at h; exact h
  have g2 : (((w.alloc (Obj.cells #[.int .i64 W, .int .i64 H] 46)).alloc (Obj.cells #[.func (.func tf) #[] caps] 53)).alloc (Obj.cells #[.int .i64 0, .int .i64 0, .slice none 0 0] 24)).heap[w.heap.size + 2]? = some (.cells #[.int .i64 0, .int .i64 0, .slice none 0 0] 24 (0, 0)) := by
    have h := heap_alloc_new ((w.alloc (Obj.cells #[.int .i64 W, .int .i64 H] 46)).alloc (Obj.cells #[.func (.func tf) #[] caps] 53)) (Obj.cells #[.int .i64 0, .int .i64 0, .slice none 0 0] 24)
    rw [World.size_alloc, World.size_alloc] at h; exact h
  have hs3 : (((w.alloc (Obj.cells #[.int .i64 W, .int .i64 H] 46)).alloc (Obj.cells #[.func (.func tf) #[] caps] 53)).alloc (Obj.cells #[.int .i64 0, .int .i64 0, .slice none 0 0] 24)).heap.size = w.heap.size + 3 := by simp
  generalize ((w.alloc (Obj.cells #[.int .i64 W, .int .i64 H] 46)).alloc (Obj.cells #[.func (.func tf) #[] caps] 53)).alloc (Obj.cells #[.int .i64 0, .int .i64 0, .slice none 0 0] 24) = W3 at *
  have k0 : W3.cell? ⟨w.heap.size, 0, none⟩ = some (.int .i64 W) := by rw [Lib.cell_of_heap g0]; rfl
  have k1 : W3.cell? ⟨w.heap.size, 1, none⟩ = some (.int .i64 H) := by rw [Lib.cell_of_heap g0]; rfl
  have HS := hide (show ∀ w', Below W3.heap.size W3 w' → w'.cell? ⟨w.heap.size, 0, none⟩ = some (.int .i64 W) ∧ w'.cell? ⟨w.heap.size, 1, none⟩ = some (.int .i64 H) from fun w' h =>
    ⟨(h.cell (p := ⟨w.heap.size, 0, none⟩) (by show w.heap.size < _; omega)).trans k0, (h.cell (p := ⟨w.heap.size, 1, none⟩) (by show w.heap.size < _; omega)).trans k1⟩)
  have hdrew : Below W3.heap.size W3 W3.drew := (Below.refl _ _).drew
  have HMK := hide hmk
  go_region_held3 (fun w' => w'.cell? ⟨w.heap.size, 0, none⟩ = some (.int .i64 W) ∧ w'.cell? ⟨w.heap.size, 1, none⟩ = some (.int .i64 H))
    (first | (refine HS.out _ ?_; assumption) | (refine HS.out _ ?_; exact bel_trans (by assumption) (bel_alloc _ _)) | go_keep)
    (fail)
  all_goals first
    | (show Exit.then _ _ _ _ ((W3.alloc (Obj.cells (madeCells #[.int .i64 0, .int .i64 0, .int .i64 0] (N * 3)) 51)).alloc (Obj.cells #[.int .i64 W, .int .i64 H, .slice (some ⟨w.heap.size + 3, 0, none⟩) 0 N] 24)).drew
       have hVb : Below W3.heap.size W3 ((W3.alloc (Obj.cells (madeCells #[.int .i64 0, .int .i64 0, .int .i64 0] (N * 3)) 51)).alloc (Obj.cells #[.int .i64 W, .int .i64 H, .slice (some ⟨w.heap.size + 3, 0, none⟩) 0 N] 24)).drew := below_drew'' (bel_trans (bel_alloc _ _) (bel_alloc _ _))
       have vP : ((W3.alloc (Obj.cells (madeCells #[.int .i64 0, .int .i64 0, .int .i64 0] (N * 3)) 51)).alloc (Obj.cells #[.int .i64 W, .int .i64 H, .slice (some ⟨w.heap.size + 3, 0, none⟩) 0 N] 24)).drew.heap[w.heap.size + 3 + 1]? = some (.cells #[.int .i64 W, .int .i64 H, .slice (some ⟨w.heap.size + 3, 0, none⟩) 0 N] 24 (0, 0)) := by
         have h := heap_alloc_new (W3.alloc (Obj.cells (madeCells #[.int .i64 0, .int .i64 0, .int .i64 0] (N * 3)) 51)) (Obj.cells #[.int .i64 W, .int .i64 H, .slice (some ⟨w.heap.size + 3, 0, none⟩) 0 N] 24)
         rw [World.size_alloc, hs3] at h; exact h
       have vS : ((W3.alloc (Obj.cells (madeCells #[.int .i64 0, .int .i64 0, .int .i64 0] (N * 3)) 51)).alloc (Obj.cells #[.int .i64 W, .int .i64 H, .slice (some ⟨w.heap.size + 3, 0, none⟩) 0 N] 24)).drew.ownsRow w.heap.size 51 3 (.slice (some ⟨w.heap.size + 3, 0, none⟩) 0 N) 0 [] := by
         have h := (World.ownsRow_made (base := w.heap.size) (e := 51) (size := 3) W3 (madeCells #[.int .i64 0, .int .i64 0, .int .i64 0] (N * 3)) N (by omega) (by unfold maxLen; omega) (by simp [madeCells])).alloc (Obj.cells #[.int .i64 W, .int .i64 H, .slice (some ⟨w.heap.size + 3, 0, none⟩) 0 N] 24)
         rw [hs3] at h; exact h
       have hPB : w.heap.size + 2 < w.heap.size + 3 + 1 := by omega
       generalize ((W3.alloc (Obj.cells (madeCells #[.int .i64 0, .int .i64 0, .int .i64 0] (N * 3)) 51)).alloc (Obj.cells #[.int .i64 W, .int .i64 H, .slice (some ⟨w.heap.size + 3, 0, none⟩) 0 N] 24)).drew = V at *
       generalize w.heap.size + 3 + 1 = PB at hPB vP ⊢
       generalize hSB : Value.slice (some ⟨w.heap.size + 3, 0, none⟩) 0 N = SV at *
       clear hSB)
    | (have hVb : Below W3.heap.size W3 ((W3.alloc (Obj.cells #[.int .i64 W, .int .i64 H, .slice (some ⟨w.heap.size + 3 + 1, 0, none⟩) 0 N] 24)).alloc (Obj.cells (madeCells #[.int .i64 0, .int .i64 0, .int .i64 0] (N * 3)) 51)).drew := below_drew'' (bel_trans (bel_alloc _ _) (bel_alloc _ _))
       have vP : ((W3.alloc (Obj.cells #[.int .i64 W, .int .i64 H, .slice (some ⟨w.heap.size + 3 + 1, 0, none⟩) 0 N] 24)).alloc (Obj.cells (madeCells #[.int .i64 0, .int .i64 0, .int .i64 0] (N * 3)) 51)).drew.heap[w.heap.size + 3]? = some (.cells #[.int .i64 W, .int .i64 H, .slice (some ⟨w.heap.size + 3 + 1, 0, none⟩) 0 N] 24 (0, 0)) := by
         have h := heap_alloc_new W3 (Obj.cells #[.int .i64 W, .int .i64 H, .slice (some ⟨w.heap.size + 3 + 1, 0, none⟩) 0 N] 24)
         rw [hs3] at h
         exact (Below.heap_alloc _ _ _ (by simp; omega)).trans h
       have vS : ((W3.alloc (Obj.cells #[.int .i64 W, .int .i64 H, .slice (some ⟨w.heap.size + 3 + 1, 0, none⟩) 0 N] 24)).alloc (Obj.cells (madeCells #[.int .i64 0, .int .i64 0, .int .i64 0] (N * 3)) 51)).drew.ownsRow w.heap.size 51 3 (.slice (some ⟨w.heap.size + 3 + 1, 0, none⟩) 0 N) 0 [] := by
         have h := World.ownsRow_made (base := w.heap.size) (e := 51) (size := 3) (W3.alloc (Obj.cells #[.int .i64 W, .int .i64 H, .slice (some ⟨w.heap.size + 3 + 1, 0, none⟩) 0 N] 24)) (madeCells #[.int .i64 0, .int .i64 0, .int .i64 0] (N * 3)) N (by simp; omega) (by unfold maxLen; omega) (by simp [madeCells])
         rw [World.size_alloc, hs3] at h; exact h
       have hPB : w.heap.size + 2 < w.heap.size + 3 := by omega
       generalize ((W3.alloc (Obj.cells #[.int .i64 W, .int .i64 H, .slice (some ⟨w.heap.size + 3 + 1, 0, none⟩) 0 N] 24)).alloc (Obj.cells (madeCells #[.int .i64 0, .int .i64 0, .int .i64 0] (N * 3)) 51)).drew = V at *
       generalize hSB : Value.slice (some ⟨w.heap.size + 3 + 1, 0, none⟩) 0 N = SV at *
       clear hSB
       generalize w.heap.size + 3 = PB at hPB vP ⊢)
  all_goals
    have k0 := (hVb.cell (p := ⟨w.heap.size, 0, none⟩) (by show w.heap.size < _; omega)).trans k0
    have k1 := (hVb.cell (p := ⟨w.heap.size, 1, none⟩) (by show w.heap.size < _; omega)).trans k1
    gi_wp2_with fail
    refine ⟨trivial, ?_⟩
    refine (places_in Fence.wide _ trivial rfl _ _ _).mono ?_
    rintro e w' ⟨rfl, rfl⟩
    gi_wp2_with fail
    have hsV := hVb.size
    have hlP := (Array.getElem?_eq_some_iff.1 vP).1
    have n0 := heap_alloc_new V (Obj.cells #[.int .i64 W, .int .i64 H] 46)
    have hs0 : (V.alloc (Obj.cells #[.int .i64 W, .int .i64 H] 46)).heap.size = V.heap.size + 1 := by simp
    have hB0 : Below w.heap.size w (V.alloc (Obj.cells #[.int .i64 W, .int .i64 H] 46)) := bel_trans (bel_trans hB3 hVb) (bel_alloc _ _)
    have j0 : (V.alloc (Obj.cells #[.int .i64 W, .int .i64 H] 46)).heap[PB]? = some (.cells #[.int .i64 W, .int .i64 H, SV] 24 (0, 0)) := (Below.heap_alloc _ _ _ hlP).trans vP
    have j1 := vS.alloc (Obj.cells #[.int .i64 W, .int .i64 H] 46)
    have j2 : (V.alloc (Obj.cells #[.int .i64 W, .int .i64 H] 46)).heap[w.heap.size + 1]? = some (.cells #[.func (.func tf) #[] caps] 53 (0, 0)) := by
      rw [Below.heap_alloc _ _ _ (by omega), hVb.block _ (by omega)]; exact g1
    have j3 : (V.alloc (Obj.cells #[.int .i64 W, .int .i64 H] 46)).heap[w.heap.size + 2]? = some (.cells #[.int .i64 0, .int .i64 0, .slice none 0 0] 24 (0, 0)) := by
      rw [Below.heap_alloc _ _ _ (by omega), hVb.block _ (by omega)]; exact g2
    generalize V.alloc (Obj.cells #[.int .i64 W, .int .i64 H] 46) = W0 at *
    refine wpIn_rangeFunc_ownH (α := Fin N) rfl (show 1 ≤ 3 by omega) (gf := 35) (lb := #[.pointer (some ⟨V.heap.size, 0, none⟩)]) rfl trivial (enters_of Tryd.func35 (by kernel_rfl) rfl)
      (places_stops Fence.wide (3 - 1) trivial rfl (by omega) V.heap.size W H N hW hH HNHW.out W0 (by omega) (by rw [Lib.cell_of_heap n0]; rfl) (by rw [Lib.cell_of_heap n0]; rfl)) (fun {A B C} h k => h.trans' k) (fun X l o o' hl _ _ _ => keepB_put (by omega)) (Below.refl _ _) (fun _ => rfl)
      (fun pre W' => (∃ v, W'.heap[PB]? = some (.cells #[.int .i64 W, .int .i64 H, v] 24 (0, 0)) ∧ W'.ownsRow w.heap.size 51 3 v pre.length ((pre.map fun (j : Fin N) => T j.1).flatMap pixL)) ∧ W'.heap[w.heap.size + 1]? = some (.cells #[.func (.func tf) #[] caps] 53 (0, 0)) ∧ W'.heap[w.heap.size + 2]? = some (.cells #[.int .i64 0, .int .i64 0, .slice none 0 0] 24 (0, 0)) ∧ W'.heap[V.heap.size]? = some (.cells #[.int .i64 W, .int .i64 H] 46 (0, 0)) ∧ Below w.heap.size w W')
      (fun _ _ _ => False)
      (fun s X Y row ⟨⟨v, a1, a2⟩, a3, a4, a6, a5⟩ hg hr => ⟨⟨v, own_keep hg hr a1, own_keepRow hg hr a2⟩, own_keep hg hr a3, own_keep hg hr a4, own_keep hg hr a6, ownFrom_below (β := Unit) (Nat.le_refl _) (by omega) () X Y row a5 hg hr⟩)
      (fun _ _ _ _ _ hs _ _ => hs)
      ⟨⟨_, j0, j1⟩, j2, j3, n0, hB0⟩
      (fun x a' W' => ∃ Bx, W0.heap.size ≤ Bx ∧ W'.heap[Bx]? = some (.cells #[.int .i64 (x.1 % W : Nat), .int .i64 (x.1 / W : Nat)] 49 (0, 0)) ∧ a' = { tmps := #[.agg #[.int .i64 W, .int .i64 H], .func (.func tf) #[] caps, .pointer (some ⟨w.heap.size, 0, none⟩), .pointer (some ⟨w.heap.size + 1, 0, none⟩), .pointer (some ⟨w.heap.size + 1 + 1, 0, none⟩), .pointer (some ⟨PB, 0, none⟩), .pointer (some ⟨Bx, 0, none⟩), .pointer (some ⟨w.heap.size, 0, none⟩), .int .i64 W, .pointer (some ⟨w.heap.size, 1, none⟩), .int .i64 H, .pointer (some ⟨w.heap.size, 0, none⟩), .int .i64 W, .pointer (some ⟨w.heap.size, 1, none⟩), .int .i64 H, .int .i64 N, SV, .agg #[.int .i64 W, .int .i64 H, SV], .agg #[.int .i64 W, .int .i64 H], .func (.func 35) #[] #[.pointer (some ⟨V.heap.size, 0, none⟩)], .agg #[.int .i64 (x.1 % W : Nat), .int .i64 (x.1 / W : Nat)], undef, undef, undef, undef, undef, undef, undef, undef, undef], defers := [] })
      (fun x a' _ X Y row ⟨Bx, b1, b2, b3⟩ hg hr => ⟨Bx, b1, own_keep hg hr b2, b3⟩)
      ?assign ?body ?done ?stop
    case assign =>
      rintro l pre x W' K ⟨⟨v, i1, i2⟩, i3, i4, i6, i5⟩ hK
      have hl1 := (Array.getElem?_eq_some_iff.1 i1).1
      have hl3 := (Array.getElem?_eq_some_iff.1 i3).1
      have hl4 := (Array.getElem?_eq_some_iff.1 i4).1
      have hl6 := (Array.getElem?_eq_some_iff.1 i6).1
      gi_wp2
      exact hK _ _ ((KeepsOthers.alloc _ _).from _) (Below.heap_alloc _ _ _ hl6) ⟨⟨v, (Below.heap_alloc _ _ _ hl1).trans i1, i2.alloc _⟩, (Below.heap_alloc _ _ _ hl3).trans i3, (Below.heap_alloc _ _ _ hl4).trans i4, (Below.heap_alloc _ _ _ hl6).trans i6, i5.alloc i5.size _⟩ ⟨W'.heap.size, by omega, heap_alloc_new W' _, rfl⟩
    case body =>
      rintro l pre x a' W' hl ⟨r, hr⟩ ⟨⟨sv, i1, i2⟩, i3, i4, i6, i5⟩ ⟨Bx, hBx, bX, rfl⟩ hlt
      obtain ⟨so, scap, rfl⟩ := lenOf_any i2
      have p2 : W'.cell? ⟨PB, 2, none⟩ = some (.slice so pre.length scap) := by rw [Lib.cell_of_heap i1]; rfl
      have t0 : W'.cell? ⟨w.heap.size + 1, 0, none⟩ = some (.func (.func tf) #[] caps) := by rw [Lib.cell_of_heap i3]; rfl
      have x0 : W'.cell? ⟨Bx, 0, none⟩ = some (.int .i64 (x.1 % W : Nat)) := by rw [Lib.cell_of_heap bX]; rfl
      have x1 : W'.cell? ⟨Bx, 1, none⟩ = some (.int .i64 (x.1 / W : Nat)) := by rw [Lib.cell_of_heap bX]; rfl
      have hmx : Tryd.prog.follows .mixedOrders = true := by kernel_rfl
      have hlP := (Array.getElem?_eq_some_iff.1 i1).1
      have hlT := (Array.getElem?_eq_some_iff.1 i3).1
      have hlX := (Array.getElem?_eq_some_iff.1 bX).1
      have hbW : w.heap.size ≤ W'.heap.size := by omega
      have HL1 := hide (show pre.length + 1 ≤ maxLen by unfold maxLen; omega)
      have HL2 := hide (show (pre.length + 1) * 24 ≤ 140737488355328 by omega)
      have HS := hide (show ∀ v, Below W'.heap.size W' v → v.cell? ⟨w.heap.size + 1, 0, none⟩ = some (.func (.func tf) #[] caps) ∧ v.cell? ⟨Bx, 0, none⟩ = some (.int .i64 (x.1 % W : Nat)) ∧ v.cell? ⟨Bx, 1, none⟩ = some (.int .i64 (x.1 / W : Nat)) from fun v h =>
        ⟨(h.cell (p := ⟨w.heap.size + 1, 0, none⟩) hlT).trans t0, (h.cell (p := ⟨Bx, 0, none⟩) hlX).trans x0, (h.cell (p := ⟨Bx, 1, none⟩) hlX).trans x1⟩)
      have HP2 := hide (show ∀ v, Below W'.heap.size W' v → v.cell? ⟨PB, 2, none⟩ = some (.slice so pre.length scap) from fun v h => (h.cell (p := ⟨PB, 2, none⟩) hlP).trans p2)
      have HTL := hide (fun (V1 : World) (g cap : Nat) (w1 : World) (h1 : Below W'.heap.size W' V1) (h2 : (V1.alloc (Obj.cells (pixA (T x.1)) 51)).grownBy w1 (Value.slice so pre.length scap).ownBlock) (h3 : w1.ownsRow (w.heap.size) 51 3 (.slice (some ⟨g, 0, none⟩) (pre.length + 1) cap) (pre.length + 1) ((pre.map fun (j : Fin N) => T j.1).flatMap pixL ++ pixL (T x.1))) => grid_tail (es := (pixA (T x.1))) (by decide) (by decide) (by decide) (by decide) (by decide) (by decide) (by decide) (B0 := W0.heap.size) (PB := PB) i1 i2 i3 i4 i6 bX i5 (by omega) (by omega) (by omega) h1 h2 h3)
      have hWd : Below W'.heap.size W' W'.drew := (Below.refl _ _).drew
      have HT := hide (htell x.1 W'.drew x.2 i5.drew)
      gi_wp2_with fail
      have hSd := HS.out _ hWd
      have p2 := HP2.out _ hWd
      refine wpIn_region_held (S := fun v : World => v.cell? ⟨w.heap.size + 1, 0, none⟩ = some (.func (.func tf) #[] caps) ∧ v.cell? ⟨Bx, 0, none⟩ = some (.int .i64 (x.1 % W : Nat)) ∧ v.cell? ⟨Bx, 1, none⟩ = some (.int .i64 (x.1 / W : Nat))) hmx ?nd ?no ?_
      case nd => exact noDefer_of (by kernel_rfl)
      case no => rintro ⟨_, _, h⟩; exact h
      show wpAnyH _ _ _ _ _ 9 _ _ W'.drew
      refine wpAnyH_take (i := 0) (oi := _) (v := .pointer (some ⟨PB, 2, none⟩)) rfl (by kernel_rfl) (by kernel_rfl) (by kernel_rfl) (fun _ _ _ h => h) (Or.inl ⟨by rfl, fun v hSv => by obtain ⟨s2, s3, s4⟩ := hSv; go_simp⟩) hSd ?_
      simp only [Act.put]
      refine wpAnyH_take (i := 2) (oi := _) (v := .func (.func tf) #[] caps) rfl (by kernel_rfl) (by kernel_rfl) (by kernel_rfl) (fun _ _ _ h => h) (Or.inl ⟨by rfl, fun v hSv => by obtain ⟨s2, s3, s4⟩ := hSv; go_simp⟩) hSd ?_
      simp only [Act.put]
      refine wpAnyH_take (i := 3) (oi := _) (v := .agg #[.int .i64 (x.1 % W : Nat), .int .i64 (x.1 / W : Nat)]) rfl (by kernel_rfl) (by kernel_rfl) (by kernel_rfl) (fun _ _ _ h => h) (Or.inl ⟨by rfl, fun v hSv => by obtain ⟨s2, s3, s4⟩ := hSv; go_simp⟩) hSd ?_
      simp only [Act.put]
      refine wpAnyH_ready (rs := [1, 4]) (by kernel_rfl) (by simp) ?_
      refine AllReadyH.cons (o := _) rfl (fun K hK => ?wA) (AllReadyH.cons (o := _) rfl (fun K hK => ?wB) AllReadyH.nil)
      case wA =>
        rw [if_pos (by rfl)]
        go_simp
        refine hK.out _ _ hSd (fun _ => ?_)
        clear hK
        refine wpAnyH_ready (rs := [4]) (by kernel_rfl) (by simp) ?_
        refine AllReadyH.cons (o := _) rfl (fun K hK => ?_) AllReadyH.nil
        rw [if_pos (by rfl)]
        go_simp
        refine HT.out.mono ?_
        rintro e V1 ⟨rfl, hb1⟩
        have hV1 : Below W'.heap.size W' V1 := hWd.trans hb1
        have hSd := HS.out _ hV1
        have p2 := HP2.out _ hV1
        refine hK.out _ _ hSd (fun _ => ?_)
        clear hK
        refine wpAnyH_ready (rs := [5]) (by kernel_rfl) (by simp) ?_
        refine AllReadyH.cons (o := _) rfl (fun K hK => ?_) AllReadyH.nil
        rw [if_pos (by rfl)]
        go_simp
        have hV2 : Below W'.heap.size W' (V1.alloc (Obj.cells (pixA (T x.1)) 51)) := hV1.trans ((bel_alloc _ _).mono hV1.size)
        have hSd := HS.out _ hV2
        have p2 := HP2.out _ hV2
        refine hK.out _ _ hSd (fun _ => ?_)
        clear hK
        have ho2 := ((ownsRow_below i2 hV1).alloc (Obj.cells (pixA (T x.1)) 51))
        refine wpAnyH_ready (rs := [6]) (by kernel_rfl) (by simp) ?_
        refine AllReadyH.cons (o := _) rfl (fun K hK => ?_) AllReadyH.nil
        refine step_append_lies _ rfl _ _ 22 rfl (w.heap.size) 51 i0 pixZ 3 24 Tryd.underlying22 hi hz0 hz1 hz2 rfl (by decide) (.slice so pre.length scap) pre.length ((pre.map fun (j : Fin N) => T j.1).flatMap pixL) rfl ho2 ⟨V1.heap.size, 0, none⟩ 1 1 (pixL (T x.1)) rfl rfl (World.news_of_block (heap_alloc_new V1 _)) (fun u hu => by simp [pixL] at hu; rcases hu with rfl | rfl | rfl <;> rfl) Nat.one_pos HL1.out HL2.out (Nat.le_trans hbW hV2.size) _ rfl ?_
        intro g cap w1 hown hgrow hat hltg
        obtain ⟨hSd, p2, p2f, HFIN⟩ := HTL.out V1 g cap w1 hV1 hgrow hown
        refine hK.out _ _ hSd (fun _ => ?_)
        clear hK
        refine wpAnyH_ready (rs := [7]) (by kernel_rfl) (by simp) ?_
        refine AllReadyH.cons (o := _) rfl (fun K hK => ?_) AllReadyH.nil
        rw [if_pos (by rfl)]
        go_simp
        refine hK.out _ _ hSd (fun _ => ?_)
        clear hK
        refine wpAnyH_ready (rs := [8]) (by kernel_rfl) (by simp) ?_
        refine AllReadyH.cons (o := _) rfl (fun K hK => ?_) AllReadyH.nil
        rw [if_pos (by rfl)]
        go_simp
        refine hK.out _ _ HFIN.1 (fun _ => ?_)
        clear hK
        refine wpAnyH_done (by kernel_rfl) ?_ _
        obtain ⟨_, f1, f2, ⟨v, f3, f4⟩, f5, f6, f7, f8⟩ := HFIN
        exact ⟨f1, f2, ⟨v, f3, by rw [List.length_append, List.map_append, List.flatMap_append]; exact f4⟩, f5, f6, f7, f8⟩
      case wB =>
        rw [if_pos (by rfl)]
        go_simp
        refine HT.out.mono ?_
        rintro e V1 ⟨rfl, hb1⟩
        have hV1 : Below W'.heap.size W' V1 := hWd.trans hb1
        have hSd := HS.out _ hV1
        have p2 := HP2.out _ hV1
        refine hK.out _ _ hSd (fun _ => ?_)
        clear hK
        refine wpAnyH_ready (rs := [1, 5]) (by kernel_rfl) (by simp) ?_
        refine AllReadyH.cons (o := _) rfl (fun K hK => ?wC) (AllReadyH.cons (o := _) rfl (fun K hK => ?wD) AllReadyH.nil)
        case wC =>
          rw [if_pos (by rfl)]
          go_simp
          refine hK.out _ _ hSd (fun _ => ?_)
          clear hK
          refine wpAnyH_ready (rs := [5]) (by kernel_rfl) (by simp) ?_
          refine AllReadyH.cons (o := _) rfl (fun K hK => ?_) AllReadyH.nil
          rw [if_pos (by rfl)]
          go_simp
          have hV2 : Below W'.heap.size W' (V1.alloc (Obj.cells (pixA (T x.1)) 51)) := hV1.trans ((bel_alloc _ _).mono hV1.size)
          have hSd := HS.out _ hV2
          have p2 := HP2.out _ hV2
          refine hK.out _ _ hSd (fun _ => ?_)
          clear hK
          have ho2 := ((ownsRow_below i2 hV1).alloc (Obj.cells (pixA (T x.1)) 51))
          refine wpAnyH_ready (rs := [6]) (by kernel_rfl) (by simp) ?_
          refine AllReadyH.cons (o := _) rfl (fun K hK => ?_) AllReadyH.nil
          refine step_append_lies _ rfl _ _ 22 rfl (w.heap.size) 51 i0 pixZ 3 24 Tryd.underlying22 hi hz0 hz1 hz2 rfl (by decide) (.slice so pre.length scap) pre.length ((pre.map fun (j : Fin N) => T j.1).flatMap pixL) rfl ho2 ⟨V1.heap.size, 0, none⟩ 1 1 (pixL (T x.1)) rfl rfl (World.news_of_block (heap_alloc_new V1 _)) (fun u hu => by simp [pixL] at hu; rcases hu with rfl | rfl | rfl <;> rfl) Nat.one_pos HL1.out HL2.out (Nat.le_trans hbW hV2.size) _ rfl ?_
          intro g cap w1 hown hgrow hat hltg
          obtain ⟨hSd, p2, p2f, HFIN⟩ := HTL.out V1 g cap w1 hV1 hgrow hown
          refine hK.out _ _ hSd (fun _ => ?_)
          clear hK
          refine wpAnyH_ready (rs := [7]) (by kernel_rfl) (by simp) ?_
          refine AllReadyH.cons (o := _) rfl (fun K hK => ?_) AllReadyH.nil
          rw [if_pos (by rfl)]
          go_simp
          refine hK.out _ _ hSd (fun _ => ?_)
          clear hK
          refine wpAnyH_ready (rs := [8]) (by kernel_rfl) (by simp) ?_
          refine AllReadyH.cons (o := _) rfl (fun K hK => ?_) AllReadyH.nil
          rw [if_pos (by rfl)]
          go_simp
          refine hK.out _ _ HFIN.1 (fun _ => ?_)
          clear hK
          refine wpAnyH_done (by kernel_rfl) ?_ _
          obtain ⟨_, f1, f2, ⟨v, f3, f4⟩, f5, f6, f7, f8⟩ := HFIN
          exact ⟨f1, f2, ⟨v, f3, by rw [List.length_append, List.map_append, List.flatMap_append]; exact f4⟩, f5, f6, f7, f8⟩
        case wD =>
          rw [if_pos (by rfl)]
          go_simp
          have hV2 : Below W'.heap.size W' (V1.alloc (Obj.cells (pixA (T x.1)) 51)) := hV1.trans ((bel_alloc _ _).mono hV1.size)
          have hSd := HS.out _ hV2
          have p2 := HP2.out _ hV2
          refine hK.out _ _ hSd (fun _ => ?_)
          clear hK
          refine wpAnyH_ready (rs := [1]) (by kernel_rfl) (by simp) ?_
          refine AllReadyH.cons (o := _) rfl (fun K hK => ?_) AllReadyH.nil
          rw [if_pos (by rfl)]
          go_simp
          refine hK.out _ _ hSd (fun _ => ?_)
          clear hK
          have ho2 := ((ownsRow_below i2 hV1).alloc (Obj.cells (pixA (T x.1)) 51))
          refine wpAnyH_ready (rs := [6]) (by kernel_rfl) (by simp) ?_
          refine AllReadyH.cons (o := _) rfl (fun K hK => ?_) AllReadyH.nil
          refine step_append_lies _ rfl _ _ 22 rfl (w.heap.size) 51 i0 pixZ 3 24 Tryd.underlying22 hi hz0 hz1 hz2 rfl (by decide) (.slice so pre.length scap) pre.length ((pre.map fun (j : Fin N) => T j.1).flatMap pixL) rfl ho2 ⟨V1.heap.size, 0, none⟩ 1 1 (pixL (T x.1)) rfl rfl (World.news_of_block (heap_alloc_new V1 _)) (fun u hu => by simp [pixL] at hu; rcases hu with rfl | rfl | rfl <;> rfl) Nat.one_pos HL1.out HL2.out (Nat.le_trans hbW hV2.size) _ rfl ?_
          intro g cap w1 hown hgrow hat hltg
          obtain ⟨hSd, p2, p2f, HFIN⟩ := HTL.out V1 g cap w1 hV1 hgrow hown
          refine hK.out _ _ hSd (fun _ => ?_)
          clear hK
          refine wpAnyH_ready (rs := [7]) (by kernel_rfl) (by simp) ?_
          refine AllReadyH.cons (o := _) rfl (fun K hK => ?_) AllReadyH.nil
          rw [if_pos (by rfl)]
          go_simp
          refine hK.out _ _ hSd (fun _ => ?_)
          clear hK
          refine wpAnyH_ready (rs := [8]) (by kernel_rfl) (by simp) ?_
          refine AllReadyH.cons (o := _) rfl (fun K hK => ?_) AllReadyH.nil
          rw [if_pos (by rfl)]
          go_simp
          refine hK.out _ _ HFIN.1 (fun _ => ?_)
          clear hK
          refine wpAnyH_done (by kernel_rfl) ?_ _
          obtain ⟨_, f1, f2, ⟨v, f3, f4⟩, f5, f6, f7, f8⟩ := HFIN
          exact ⟨f1, f2, ⟨v, f3, by rw [List.length_append, List.map_append, List.flatMap_append]; exact f4⟩, f5, f6, f7, f8⟩
    case done =>
      rintro D ys W' hD rfl ⟨⟨v, i1, i2⟩, i3, i4, i6, i5⟩ hK
      have p0 : W'.cell? ⟨PB, 0, none⟩ = some (.int .i64 W) := by rw [Lib.cell_of_heap i1]; rfl
      have p1 : W'.cell? ⟨PB, 1, none⟩ = some (.int .i64 H) := by rw [Lib.cell_of_heap i1]; rfl
      have p2 : W'.cell? ⟨PB, 2, none⟩ = some v := by rw [Lib.cell_of_heap i1]; rfl
      have r0 : W'.cell? ⟨w.heap.size + 1 + 1, 0, none⟩ = some (.int .i64 0) := by rw [Lib.cell_of_heap i4]; rfl
      have r1 : W'.cell? ⟨w.heap.size + 1 + 1, 1, none⟩ = some (.int .i64 0) := by rw [Lib.cell_of_heap i4]; rfl
      have r2 : W'.cell? ⟨w.heap.size + 1 + 1, 2, none⟩ = some (.slice none 0 0) := by rw [Lib.cell_of_heap i4]; rfl
      have f0 : W'.frozen? ⟨w.heap.size + 1 + 1, 0, none⟩ = false := Lib.frozen_of_heap i4 0
      have f1 : W'.frozen? ⟨w.heap.size + 1 + 1, 1, none⟩ = false := Lib.frozen_of_heap i4 1
      have f2 : W'.frozen? ⟨w.heap.size + 1 + 1, 2, none⟩ = false := Lib.frozen_of_heap i4 2
      obtain ⟨ao, cap, rfl⟩ := lenOf_any i2
      gi_wp2
      obtain ⟨x1, x2, x3, x4⟩ := box3_set i4 (.int .i64 W) (.int .i64 H) (.slice ao (List.finRange N).length cap) w (by omega) i5
      have i2' := own_other x2 (own_ne i2 i4 (by decide)) i2
      have hDr : D ≠ w.heap.size + 2 := fun e => by rw [e, i4] at hK; cases hK
      replace hK := (x2 D hDr).trans hK
      simp only [List.length_finRange] at x1 x2 x3 x4 i2' hK
      generalize ((W'.setCell ⟨w.heap.size + 1 + 1, 0, none⟩ (.int .i64 W)).setCell ⟨w.heap.size + 1 + 1, 1, none⟩ (.int .i64 H)).setCell ⟨w.heap.size + 1 + 1, 2, none⟩ (.slice ao N cap) = X at *
      refine ⟨by simp, .inl ⟨_, _, rfl, run_takeDeferred hK, ?_⟩⟩
      have y1 := (World.putObj_heap_other (w := X) (o := .deferred none) (Ne.symm hDr)).trans x1
      have y2 := ownsRow_putObj i2' (.deferred none) hK rfl
      have y3 : Below w.heap.size w (X.putObj D (.deferred none)) := x4.trans (belowK_b (w := w) (Nat.le_refl _) X D _ _ (by omega) hK rfl rfl)
      have c0 : (X.putObj D (.deferred none)).cell? ⟨w.heap.size + 1 + 1, 0, none⟩ = some (.int .i64 W) := by rw [Lib.cell_of_heap y1]; rfl
      have c1 : (X.putObj D (.deferred none)).cell? ⟨w.heap.size + 1 + 1, 1, none⟩ = some (.int .i64 H) := by rw [Lib.cell_of_heap y1]; rfl
      have c2 : (X.putObj D (.deferred none)).cell? ⟨w.heap.size + 1 + 1, 2, none⟩ = some (.slice ao N cap) := by rw [Lib.cell_of_heap y1]; rfl
      generalize X.putObj D (.deferred none) = Z at *
      refine ⟨.agg #[.int .i64 W, .int .i64 H, .slice ao N cap], by simp [results, Tryd.results19, go_sem, c0, c1, c2], .slice ao N cap, rfl, ?_, y3, Fresh.own (by simpa using y2)⟩
      rw [← map_finRange N T]
      exact IsPix.own (base := w.heap.size) (by simpa using y2) (by simp; omega)
    case stop => rintro D c pre W' _ _ h _; exact h.elim
end Go.Proofs.YtolcndchfnifhacDoor

namespace Go.Proofs.YtolcndchfnifhacDoor
open Go.RowKit
def pxOk (p : Px) : Bool := allIn 0 65535 [p.1, p.2.1, p.2.2]
def pxsOk (ps : List Px) : Bool := ps.all pxOk
def picOk (W H : Int) (ps : List Px) : Bool := sizeOk W H ps.length && pxsOk ps
theorem pxsOk_snoc (ps : List Px) (p : Px) : pxsOk (ps ++ [p]) = (pxsOk ps && pxOk p) := by simp [pxsOk]
theorem pxsOk_false (ps : List Px) (k : Nat) (hk : k < ps.length) (h : pxOk ps[k] = false) : pxsOk ps = false := by
  rw [Bool.eq_false_iff]; intro he
  have := List.all_eq_true.1 he _ (List.getElem_mem hk)
  rw [h] at this; cases this
theorem picOk_parts {W H : Int} {ps : List Px} (h : picOk W H ps = true) : (1 ≤ W ∧ W ≤ 64) ∧ (1 ≤ H ∧ H ≤ 64) ∧ (ps.length : Int) = W * H ∧ pxsOk ps = true := by
  simp only [picOk, sizeOk, sideOk, Bool.and_eq_true, decide_eq_true_eq] at h
  exact ⟨h.1.1.1, h.1.1.2, h.1.2, h.2⟩
theorem ints3 (w : World) (a b c : Int) : IsInts (w.alloc (.cells #[.int .i64 a, .int .i64 b, .int .i64 c] 3)) (.slice (some ⟨w.heap.size, 0, none⟩) 3 3) [a, b, c] :=
  IsInts.own (base := w.heap.size) (World.ownsRow_lit w #[.int .i64 a, .int .i64 b, .int .i64 c] 3 (Nat.le_refl _) (by decide) (by simp)) (by simp)
set_option maxRecDepth 100000 in
set_option maxHeartbeats 800000 in
theorem picture_any (W H : Int) (v : Value) (ps : List Px) (w : World) (hv : IsPix w v ps) :
    Calls Tryd.prog 17 #[.agg #[.int .i64 W, .int .i64 H, v]] w fun e w' => e = .returned (.bool (picOk W H ps)) ∧ Below w.heap.size w w' := by
  have HV := hide hv
  obtain ⟨ao, ca, rfl, hla, hc⟩ := hv
  by_cases h1 : sizeOk W H ps.length = true
  · have HE := hide (show pxsOk ps = picOk W H ps by rw [picOk, h1]; rfl)
    have hpos : 1 ≤ ps.length := by
      simp only [sizeOk, sideOk, Bool.and_eq_true, decide_eq_true_eq] at h1
      have := side_mul h1.1.1 h1.1.2
      omega
    obtain ⟨bk, off, hao, hbl, hcell⟩ : ∃ b off, ao = some ⟨b, off, none⟩ ∧ b < w.heap.size ∧ ∀ j (h : j < ps.length),
      w.cell? ⟨b, off + j * 3, none⟩ = some (.int .i64 ps[j].1) ∧ w.cell? ⟨b, off + j * 3 + 1, none⟩ = some (.int .i64 ps[j].2.1) ∧ w.cell? ⟨b, off + j * 3 + 2, none⟩ = some (.int .i64 ps[j].2.2) := by
      rcases hc with h | h
      · subst h; simp at hpos
      · exact h
    subst hao
    have HCELL := hide hcell; clear hcell hc
    go_enter Tryd.func17, Tryd.ntmps17
    go_wp2_with fail
    refine (size_any _ _ _ _).mono ?_
    rintro e w1 ⟨rfl, hb1⟩
    rw [h1]
    have c2 := (pl3 hb1).2.2
    have hW := bel_trans (bel_alloc w _) hb1
    clear hb1
    go_wp2_with fail
    go_loopw [17] (fun i wr => ∃ k : Nat, k ≤ ps.length ∧ i = .int .i64 k ∧ Hid (pxsOk (ps.take k) = true) ∧ Below w.heap.size w wr) (fun i _ => ps.length - (intOf i).toNat)
    case atStart => exact ⟨0, Nat.zero_le _, rfl, rfl, hW⟩
    case round =>
      clear c2 hW
      obtain ⟨k, hk, rfl, HA, hbel⟩ := hrel
      by_cases hlt : k < ps.length
      · have hd : decide ((k : Int) < (ps.length : Int)) = true := by simp; omega
        have c0 := (hbel.cell (p := ⟨bk, off + k * 3, none⟩) hbl).trans (HCELL.out k hlt).1
        have c1 := (hbel.cell (p := ⟨bk, off + k * 3 + 1, none⟩) hbl).trans (HCELL.out k hlt).2.1
        have c2 := (hbel.cell (p := ⟨bk, off + k * 3 + 2, none⟩) hbl).trans (HCELL.out k hlt).2.2
        go_wp2_with fail
        refine (rWithin_any 0 65535 _ [ps[k].1, ps[k].2.1, ps[k].2.2] _ (by have := ints3 (wr.alloc (Obj.cells #[.int .i64 ps[k].1, .int .i64 ps[k].2.1, .int .i64 ps[k].2.2] 51)) ps[k].1 ps[k].2.1 ps[k].2.2; rw [World.size_alloc] at this; exact this)).mono ?_
        rintro e w2 ⟨rfl, rfl⟩
        have hbel2 := (hbel.alloc hbel.size (Obj.cells #[.int .i64 ps[k].1, .int .i64 ps[k].2.1, .int .i64 ps[k].2.2] 51)).alloc (by have := hbel.size; simp; omega) (Obj.cells #[.int .i64 ps[k].1, .int .i64 ps[k].2.1, .int .i64 ps[k].2.2] 3)
        change Hid _ at HA
        by_cases hx : pxOk ps[k] = true
        · have HT := hide (show pxsOk (ps.take (k + 1)) = true by rw [List.take_succ_eq_append_getElem hlt, pxsOk_snoc, HA.out, hx]; rfl)
          rw [show allIn 0 65535 [ps[k].1, ps[k].2.1, ps[k].2.2] = true from hx]
          clear hx
          go_wp2
          go_roundw
          case rel => exact ⟨k + 1, by omega, by go_num, HT, hbel2⟩
          case measure => simp [intOf]; omega
        · have hx : pxOk ps[k] = false := by simpa using hx
          have HX := hide (show false = picOk W H ps by rw [← HE.out, pxsOk_false ps k hlt hx])
          rw [show allIn 0 65535 [ps[k].1, ps[k].2.1, ps[k].2.2] = false from hx]
          clear hx
          go_wp2
          go_ret
          exact ⟨ret_bool HX.out, hbel2⟩
      · have hd : decide ((k : Int) < (ps.length : Int)) = false := by simp; omega
        have HX := hide (show true = picOk W H ps by rw [← HE.out, ← HA.out, List.take_of_length_le (by omega)])
        go_wp2
        go_ret
        exact ⟨ret_bool HX.out, hbel⟩
  · have h1 : sizeOk W H ps.length = false := by simpa using h1
    have HE := hide (show false = picOk W H ps by rw [picOk, h1]; rfl)
    go_enter Tryd.func17, Tryd.ntmps17
    go_wp2_with fail
    refine (size_any _ _ _ _).mono ?_
    rintro e w1 ⟨rfl, hb1⟩
    rw [h1]
    go_wp2
    go_ret
    exact ⟨ret_bool HE.out, bel_trans (bel_alloc _ _) hb1⟩
end Go.Proofs.YtolcndchfnifhacDoor

namespace Go.Proofs.YtolcndchfnifhacDoor
open Go.RowKit
def sameB (W1 H1 : Int) (ps : List Px) (W2 H2 : Int) (qs : List Px) : Bool := decide (W1 = W2 ∧ H1 = H2 ∧ ps = qs)
theorem box2 {w : World} {x y : Array Value} {t : TypeId} {w' : World} (hb : Below ((w.alloc (.cells x t)).alloc (.cells y t)).heap.size ((w.alloc (.cells x t)).alloc (.cells y t)) w') :
    w'.heap[w.heap.size]? = some (.cells x t (0, 0)) ∧ w'.heap[w.heap.size + 1]? = some (.cells y t (0, 0)) := by
  constructor
  · rw [hb.block _ (by simp; omega), Below.heap_alloc _ _ _ (by simp)]; exact heap_alloc_new w _
  · rw [hb.block _ (by simp)]
    have h := heap_alloc_new (w.alloc (.cells x t)) (.cells y t)
    rw [World.size_alloc] at h; exact h
set_option maxRecDepth 100000 in
set_option maxHeartbeats 1600000 in
theorem samePictures_any (W1 H1 : Int) (va : Value) (ps : List Px) (W2 H2 : Int) (vb : Value) (qs : List Px) (w : World) (ha : IsPix w va ps) (hb : IsPix w vb qs) :
    Calls Tryd.prog 10 #[.agg #[.int .i64 W1, .int .i64 H1, va], .agg #[.int .i64 W2, .int .i64 H2, vb]] w fun e w' => e = .returned (.bool (sameB W1 H1 ps W2 H2 qs)) ∧ Below w.heap.size w w' := by
  obtain ⟨ao, ca, rfl, hla, ha⟩ := ha
  obtain ⟨bo, cb, rfl, hlb, hb⟩ := hb
  obtain ⟨R, hR⟩ : ∃ R, sameB W1 H1 ps W2 H2 qs = R := ⟨_, rfl⟩
  rw [hR]
  have HR := hide hR
  clear hR
  have HB := hide (bel_trans (bel_alloc w (.cells #[.int .i64 W1, .int .i64 H1, .slice ao ps.length ca] 24)) (bel_alloc _ (.cells #[.int .i64 W2, .int .i64 H2, .slice bo qs.length cb] 24)))
  obtain ⟨k1, k2⟩ := box2 (w := w) (x := #[.int .i64 W1, .int .i64 H1, .slice ao ps.length ca]) (y := #[.int .i64 W2, .int .i64 H2, .slice bo qs.length cb]) (t := 24) (Below.refl _ _)
  obtain ⟨e0, e1, e2⟩ := cells3 k1
  obtain ⟨f0, f1, f2⟩ := cells3 k2
  clear k1 k2
  by_cases hW : W1 = W2
  · subst hW
    have hWb : (W1 != W1) = false := by simp
    by_cases hH : H1 = H2
    · subst hH
      have hHb : (H1 != H1) = false := by simp
      have HR2 := hide (show R = decide (ps = qs) by rw [← HR.out, sameB]; simp)
      clear HR
      by_cases hl : ps.length = qs.length
      · have hlb2 : ((ps.length : Int) != (qs.length : Int)) = false := by simp [hl]
        by_cases h0 : ps.length = 0
        · obtain rfl := List.eq_nil_of_length_eq_zero h0
          obtain rfl := List.eq_nil_of_length_eq_zero (hl.symm.trans h0)
          have HX := hide (show true = R by rw [HR2.out]; rfl)
          clear ha hb h0 hl hlb2
          go_enter Tryd.func10, Tryd.ntmps10
          go_wp2
          go_loop [5] (fun i => i = .int .i64 0) (fun _ => 0)
          case atStart => rfl
          case round =>
            subst hrel
            go_wp2
            go_ret
            exact ⟨ret_bool HX.out, HB.out⟩
        · obtain ⟨ba, oa, hao, hba, hca⟩ : ∃ b off, ao = some ⟨b, off, none⟩ ∧ b < w.heap.size ∧ ∀ j (h : j < ps.length),
              w.cell? ⟨b, off + j * 3, none⟩ = some (.int .i64 ps[j].1) ∧ w.cell? ⟨b, off + j * 3 + 1, none⟩ = some (.int .i64 ps[j].2.1) ∧ w.cell? ⟨b, off + j * 3 + 2, none⟩ = some (.int .i64 ps[j].2.2) := by
            rcases ha with h | h
            · subst h; exact absurd rfl h0
            · exact h
          obtain ⟨bb, ob, hbo, hbb, hcb⟩ : ∃ b off, bo = some ⟨b, off, none⟩ ∧ b < w.heap.size ∧ ∀ j (h : j < qs.length),
              w.cell? ⟨b, off + j * 3, none⟩ = some (.int .i64 qs[j].1) ∧ w.cell? ⟨b, off + j * 3 + 1, none⟩ = some (.int .i64 qs[j].2.1) ∧ w.cell? ⟨b, off + j * 3 + 2, none⟩ = some (.int .i64 qs[j].2.2) := by
            rcases hb with h | h
            · subst h; exact absurd hl h0
            · exact h
          subst hao
          subst hbo
          have HCA := hide hca; clear hca ha
          have HCB := hide hcb; clear hcb hb
          have HL := hide hl; clear hl
          go_enter Tryd.func10, Tryd.ntmps10
          go_wp2_with fail
          generalize (w.alloc (.cells #[.int .i64 W1, .int .i64 H1, .slice (some ⟨ba, oa, none⟩) ps.length ca] 24)).alloc (.cells #[.int .i64 W1, .int .i64 H1, .slice (some ⟨bb, ob, none⟩) qs.length cb] 24) = W0 at *
          go_loopw [5] (fun i wr => ∃ k : Nat, k ≤ ps.length ∧ i = .int .i64 k ∧ Hid (ps.take k = qs.take k) ∧ (∃ n, wr = W0.drewN n)) (fun i _ => ps.length - (intOf i).toNat)
          case atStart => exact ⟨0, Nat.zero_le _, rfl, rfl, 0, rfl⟩
          case round =>
            obtain ⟨k, hk, rfl, HT, nn, rfl⟩ := hrel
            by_cases hlt : k < ps.length
            · have hlt2 : k < qs.length := by have := HL.out; omega
              have a0 := (HB.out.cell (p := ⟨ba, oa + k * 3, none⟩) hba).trans (HCA.out k hlt).1
              have a1 := (HB.out.cell (p := ⟨ba, oa + k * 3 + 1, none⟩) hba).trans (HCA.out k hlt).2.1
              have a2 := (HB.out.cell (p := ⟨ba, oa + k * 3 + 2, none⟩) hba).trans (HCA.out k hlt).2.2
              have b0 := (HB.out.cell (p := ⟨bb, ob + k * 3, none⟩) hbb).trans (HCB.out k hlt2).1
              have b1 := (HB.out.cell (p := ⟨bb, ob + k * 3 + 1, none⟩) hbb).trans (HCB.out k hlt2).2.1
              have b2 := (HB.out.cell (p := ⟨bb, ob + k * 3 + 2, none⟩) hbb).trans (HCB.out k hlt2).2.2
              have HTK := hide (show ps[k] = qs[k] → ps.take (k + 1) = qs.take (k + 1) from fun he => by
                rw [List.take_succ_eq_append_getElem hlt, List.take_succ_eq_append_getElem hlt2, HT.out, he])
              have HNE := hide (show ¬ ps[k] = qs[k] → false = R from fun he => by
                rw [HR2.out]; symm; simp only [decide_eq_false_iff_not]; exact fun h => he (by subst h; rfl))
              obtain ⟨⟨p1, p2, p3⟩, hp⟩ : ∃ p, ps[k] = p := ⟨_, rfl⟩
              obtain ⟨⟨q1, q2, q3⟩, hq⟩ : ∃ q, qs[k] = q := ⟨_, rfl⟩
              rw [hp] at a0 a1 a2
              rw [hq] at b0 b1 b2
              rw [hp, hq] at HTK HNE
              clear hp hq
              simp only at a0 a1 a2 b0 b1 b2
              by_cases h1 : p1 = q1
              · by_cases h2 : p2 = q2
                · by_cases h3 : p3 = q3
                  · subst h1; subst h2; subst h3
                    have HT2 := hide (HTK.out rfl)
                    clear HTK HNE
                    go_wp2
                    go_region
                    go_wp2
                    go_roundw
                    case rel => exact ⟨k + 1, by omega, by go_num, HT2, nn + 1, rfl⟩
                    case measure => simp [intOf]; omega
                  · have HX := hide (HNE.out (fun h => h3 (by cases h; rfl)))
                    subst h1; subst h2
                    clear HTK HNE
                    go_wp2
                    go_region
                    go_wp2
                    go_ret
                    exact ⟨ret_bool HX.out, below_drewN HB.out _⟩
                · have HX := hide (HNE.out (fun h => h2 (by cases h; rfl)))
                  subst h1
                  clear HTK HNE
                  go_wp2
                  go_region
                  go_wp2
                  go_ret
                  exact ⟨ret_bool HX.out, below_drewN HB.out _⟩
              · have HX := hide (HNE.out (fun h => h1 (by cases h; rfl)))
                clear HTK HNE
                go_wp2
                go_region
                go_wp2
                go_ret
                exact ⟨ret_bool HX.out, below_drewN HB.out _⟩
            · have HX := hide (show true = R by
                have h := HT.out
                rw [List.take_of_length_le (by omega), List.take_of_length_le (by have := HL.out; omega)] at h
                rw [HR2.out]; symm; simp [h])
              go_wp2
              go_ret
              exact ⟨ret_bool HX.out, below_drewN HB.out _⟩
      · have HX := hide (show false = R by rw [HR2.out]; symm; simp only [decide_eq_false_iff_not]; exact fun h => hl (by rw [h]))
        have hlb2 : ((ps.length : Int) != (qs.length : Int)) = true := by simp; omega
        clear hl
        go_enter Tryd.func10, Tryd.ntmps10
        go_wp2
        go_ret
        exact ⟨ret_bool HX.out, HB.out⟩
    · have HX := hide (show false = R by rw [← HR.out, sameB]; symm; simp [hH])
      have hHb : (H1 != H2) = true := by simpa using hH
      clear hH
      go_enter Tryd.func10, Tryd.ntmps10
      go_wp2
      go_ret
      exact ⟨ret_bool HX.out, HB.out⟩
  · have HX := hide (show false = R by rw [← HR.out, sameB]; symm; simp [hW])
    have hWb : (W1 != W2) = true := by simpa using hW
    clear hW
    go_enter Tryd.func10, Tryd.ntmps10
    go_wp2
    go_ret
    exact ⟨ret_bool HX.out, HB.out⟩
end Go.Proofs.YtolcndchfnifhacDoor

namespace Go.Proofs.YtolcndchfnifhacDoor
open Go.RowKit
def pxAt (ps : List Px) (j : Nat) : Px := ps.getD j (0, 0, 0)
theorem pxAt_get (ps : List Px) (i : Nat) (h : i < ps.length) : ps[i] = pxAt ps i := by simp [pxAt, List.getD_eq_getElem?_getD, List.getElem?_eq_getElem h]
end Go.Proofs.YtolcndchfnifhacDoor

namespace Go.Proofs.YtolcndchfnifhacDoor
open Go
section
variable {P : Program} {ops : Array Oper} {Q : Exit → Act → World → Prop} {md : Region.Mode} {S : World → Prop} {f : Nat}
def wpAnyF (P : Program) (md : Region.Mode) (ops : Array Oper) (Q : Exit → Act → World → Prop) (S : World → Prop) (f : Nat) : Nat → Array Bool → Act → World → Prop
  | 0, listed, a, w => Region.ready md ops listed = [] ∧ Q .normal a w
  | fuel + 1, listed, a, w =>
    (Region.ready md ops listed = [] → Q .normal a w) ∧
    ∀ i ∈ Region.ready md ops listed, wpOp P ops Q i (fun a' w' => (i ≠ f → S w') ∧ wpAnyF P md ops Q S f fuel (listed.setIfInBounds i true) a' w') a w
theorem wpAny_of_F : ∀ (fuel : Nat) (listed : Array Bool) (a : Act) (w : World), wpAnyF P md ops Q S f fuel listed a w → wpAny P md ops Q fuel listed a w
  | 0, _, _, _, h => h
  | fuel + 1, _, _, _, h => ⟨h.1, fun i hi => wpOp_mono (fun a' w' h' => wpAny_of_F fuel _ a' w' h'.2) (h.2 i hi)⟩
def Closed (md : Region.Mode) (ops : Array Oper) (listed : Array Bool) : Prop := ∀ k o, ops[k]? = some o → listed.getD k false = true → ∀ e ∈ o.after, Region.binds md e = true → listed.getD e.on false = true
def closedB (md : Region.Mode) (ops : Array Oper) (listed : Array Bool) : Bool :=
  (List.range ops.size).all fun k => match ops[k]? with
    | some o => !listed.getD k false || o.after.all fun e => !Region.binds md e || listed.getD e.on false
    | none => true
theorem closed_of {listed : Array Bool} (h : closedB md ops listed = true) : Closed md ops listed := by
  intro k o ho hk e he hb
  have h1 := List.all_eq_true.1 h k (List.mem_range.2 (Array.getElem?_eq_some_iff.1 ho).1)
  simp only [ho, hk, Bool.not_true, Bool.false_or] at h1
  have h2 : (!Region.binds md e || listed.getD e.on false) = true := by
    first
      | exact List.all_eq_true.1 h1 e he
      | exact Array.all_eq_true'.1 h1 e he
  rw [hb] at h2
  simpa using h2
theorem closed_set {j : Nat} {listed : Array Bool} (hc : Closed md ops listed) (hj : j ∈ Region.ready md ops listed) : Closed md ops (listed.setIfInBounds j true) := by
  intro k o ho hk e he hb
  by_cases hkj : j = k
  · subst hkj
    obtain ⟨_, o', ho', hall⟩ := mem_ready.1 hj
    obtain rfl := Option.some.inj (ho.symm.trans ho')
    exact getD_set_true (hall e he hb)
  · rw [getD_set_ne false hkj] at hk
    exact getD_set_true (hc k o ho hk e he hb)
theorem wpAnyF_one {i : Nat} {o : Oper} {fuel : Nat} {listed : Array Bool} {a : Act} {w : World} (hr : Region.ready md ops listed = [i]) (ho : ops[i]? = some o)
    (h : ∀ K' : Act → World → Prop, Shut (∀ a w, S w → wpAnyF P md ops Q S f fuel (listed.setIfInBounds i true) a w → K' a w) → if Region.wanted o (yielded ops a.tmps) = true then Oper.wp P o a w K' Q else K' (a.put o.dst undef) w) :
    wpAnyF P md ops Q S f (fuel + 1) listed a w :=
  ⟨fun h0 => (by rw [hr] at h0; cases h0), fun j hj => by
    rw [hr] at hj
    obtain rfl := List.mem_singleton.1 hj
    exact wpOp_step ho (fun K' hK => h K' (fun a w hS hW => hK a w ⟨fun _ => hS, hW⟩))⟩
theorem wpAnyF_last {o : Oper} {fuel : Nat} {listed : Array Bool} {a : Act} {w : World} (hr : Region.ready md ops listed = [f]) (ho : ops[f]? = some o)
    (h : ∀ K' : Act → World → Prop, Shut (∀ a w, wpAnyF P md ops Q S f fuel (listed.setIfInBounds f true) a w → K' a w) → if Region.wanted o (yielded ops a.tmps) = true then Oper.wp P o a w K' Q else K' (a.put o.dst undef) w) :
    wpAnyF P md ops Q S f (fuel + 1) listed a w :=
  ⟨fun h0 => (by rw [hr] at h0; cases h0), fun j hj => by
    rw [hr] at hj
    obtain rfl := List.mem_singleton.1 hj
    exact wpOp_step ho (fun K' hK => h K' (fun a w hW => hK a w ⟨fun e => absurd rfl e, hW⟩))⟩
theorem wpAnyF_done {listed : Array Bool} {a : Act} {w : World} (hr : Region.ready md ops listed = []) (h : Q .normal a w) :
    ∀ fuel, wpAnyF P md ops Q S f fuel listed a w
  | 0 => ⟨hr, h⟩
  | _ + 1 => ⟨fun _ => h, by rw [hr]; simp⟩
theorem wp_region_last {id : Nat} {a : Act} {w : World} (hm : P.follows .mixedOrders = true)
    (h : wpAnyF P .any ops Q S f ops.size (Array.replicate ops.size false) a { w with drawn := w.drawn + 1 }) : (Code.region id ops true).wp P Q a w :=
  wp_region_any hm (wpAny_of_F _ _ _ _ h)
end
end Go.Proofs.YtolcndchfnifhacDoor

namespace Go.Proofs.YtolcndchfnifhacDoor
open Go
section
variable {P : Program} {ops : Array Oper} {Q : Exit → Act → World → Prop} {md : Region.Mode} {S : World → Prop} {f : Nat}
theorem wpAnyF_two {i j : Nat} {oi oj : Oper} {fuel : Nat} {listed : Array Bool} {a : Act} {w : World} (hr : Region.ready md ops listed = [i, j]) (hoi : ops[i]? = some oi) (hoj : ops[j]? = some oj)
    (h1 : ∀ K' : Act → World → Prop, Shut (∀ a w, S w → wpAnyF P md ops Q S f fuel (listed.setIfInBounds i true) a w → K' a w) → if Region.wanted oi (yielded ops a.tmps) = true then Oper.wp P oi a w K' Q else K' (a.put oi.dst undef) w)
    (h2 : ∀ K' : Act → World → Prop, Shut (∀ a w, S w → wpAnyF P md ops Q S f fuel (listed.setIfInBounds j true) a w → K' a w) → if Region.wanted oj (yielded ops a.tmps) = true then Oper.wp P oj a w K' Q else K' (a.put oj.dst undef) w) :
    wpAnyF P md ops Q S f (fuel + 1) listed a w :=
  ⟨fun h0 => (by rw [hr] at h0; cases h0), fun k hk => by
    rw [hr] at hk
    rcases List.mem_cons.1 hk with e | hk
    · subst e
      exact wpOp_step hoi (fun K' hK => h1 K' (fun a w hS hW => hK a w ⟨fun _ => hS, hW⟩))
    · obtain rfl := List.mem_singleton.1 hk
      exact wpOp_step hoj (fun K' hK => h2 K' (fun a w hS hW => hK a w ⟨fun _ => hS, hW⟩))⟩
end
end Go.Proofs.YtolcndchfnifhacDoor

namespace Go.Proofs.YtolcndchfnifhacDoor
open Go
section
variable {P : Program} {ops : Array Oper} {Q : Exit → Act → World → Prop} {md : Region.Mode} {S : World → Prop} {f : Nat}
def pathB (md : Region.Mode) (ops : Array Oper) (i : Nat) : List Nat → Nat → Bool
  | [], j => match ops[j]? with
    | some o => o.after.any fun e => Region.binds md e && e.on == i
    | none => false
  | k :: r, j => (match ops[j]? with
    | some o => o.after.any fun e => Region.binds md e && e.on == k
    | none => false) && pathB md ops i r k
theorem path_one {i j : Nat} {listed : Array Bool} (hc : Closed md ops listed) (hj : j ∈ Region.ready md ops listed ∨ listed.getD j false = true)
    (h : (match ops[j]? with
    | some o => o.after.any fun e => Region.binds md e && e.on == i
    | none => false) = true) : listed.getD i false = true := by
  cases ho : ops[j]? with
  | none => rw [ho] at h; cases h
  | some o =>
    rw [ho] at h
    have hall : ∀ e ∈ o.after, Region.binds md e = true → listed.getD e.on false = true := by
      rcases hj with hj | hj
      · obtain ⟨_, o', ho', hall⟩ := mem_ready.1 hj
        obtain rfl := Option.some.inj (ho.symm.trans ho')
        exact hall
      · exact hc j o ho hj
    have h' : ∃ e ∈ o.after, (Region.binds md e && e.on == i) = true := by
      first
        | exact List.any_eq_true.1 h
        | exact Array.any_eq_true'.1 h
    obtain ⟨e, he, hx⟩ := h'
    rw [Bool.and_eq_true] at hx
    rw [← eq_of_beq hx.2]
    exact hall e he hx.1
theorem path_spec {i : Nat} {listed : Array Bool} (hc : Closed md ops listed) : ∀ (p : List Nat) (j : Nat), (j ∈ Region.ready md ops listed ∨ listed.getD j false = true) → pathB md ops i p j = true → listed.getD i false = true
  | [], j, hj, h => path_one hc hj h
  | k :: r, j, hj, h => by
    unfold pathB at h
    rw [Bool.and_eq_true] at h
    exact path_spec hc r k (.inr (path_one hc hj h.1)) h.2
theorem wpAnyF_firstP {i : Nat} {p : List Nat} {oi : Oper} {v : Value} (hi : ops[i]? = some oi) (hsel : ∀ (j : Nat) (o : Oper) cs b, ops[j]? = some o → o.op ≠ .select cs b)
    (hQ : ∀ c a w, Q (.panic c) (a.put oi.dst v) w → Q (.panic c) a w) (hwt : pathB md ops i p f = true) :
    ∀ (fuel : Nat) (listed : Array Bool) (a : Act) (w : World),
      (∀ j oj, ops[j]? = some oj → j ≠ i → listed.getD j true = false → (∀ e ∈ oj.after, Region.binds md e = true → e.on ≠ i) → oi.apart ops oj = true) →
      Closed md ops listed →
      i ∈ Region.ready md ops listed → YieldsIf P ops S oi v a → S w →
      wpAnyF P md ops Q S f fuel (listed.setIfInBounds i true) (a.put oi.dst v) w → wpAnyF P md ops Q S f (fuel + 1) listed a w := by
  intro fuel
  induction fuel with
  | zero =>
    intro listed a w _ _ hr hy hS H
    refine ⟨fun h => (by rw [h] at hr; cases hr), fun j hj => ?_⟩
    by_cases hji : j = i
    · subst hji; exact hy.wpOp hi hS ⟨fun _ => hS, H⟩
    · have := ready_mono hj hji
      rw [H.1] at this
      cases this
  | succ fuel ih =>
    intro listed a w hfree hcl hr hy hS H
    refine ⟨fun h => (by rw [h] at hr; cases hr), fun j hj => ?_⟩
    by_cases hji : j = i
    · subst hji; exact hy.wpOp hi hS ⟨fun _ => hS, H⟩
    · have hiun : ¬ listed.getD i false = true := by
        intro h1
        have h0 := (mem_ready.1 hr).1
        rcases Nat.lt_or_ge i listed.size with h' | h'
        · simp [h'] at h0 h1; rw [h0] at h1; cases h1
        · simp [Array.getElem?_eq_none h'] at h1
      have hjf : j ≠ f := fun e => hiun (path_spec hcl p f (.inl (e ▸ hj)) hwt)
      have h1 := H.2 j (ready_mono hj hji)
      obtain ⟨hjun, oj, hoj, hall⟩ := mem_ready.1 hj
      have hnot : ∀ e ∈ oj.after, Region.binds md e = true → e.on ≠ i := fun e he hb heq => by
        have h1 := hall e he hb
        rw [heq] at h1
        exact hiun h1
      have h2 := wpOp_putIf hoj (hfree j oj hoj hji hjun hnot) (fun cs b => hsel i oi cs b hi) (fun cs b => hsel j oj cs b hoj) hQ hy h1
      have hfree' : ∀ k ok, ops[k]? = some ok → k ≠ i → (listed.setIfInBounds j true).getD k true = false →
          (∀ e ∈ ok.after, Region.binds md e = true → e.on ≠ i) → oi.apart ops ok = true := fun k ok hk hki hun hno => by
        refine hfree k ok hk hki ?_ hno
        by_cases hjk : j = k
        · subst hjk; exact hjun
        · rw [getD_set_ne true hjk] at hun; exact hun
      refine wpOp_mono (fun a' w' h3 => ⟨h3.2.1, ih (listed.setIfInBounds j true) a' w' hfree' (closed_set hcl hj) (ready_mono hr (Ne.symm hji)) h3.1 (h3.2.1 hjf) ?_⟩) h2
      rw [Array.setIfInBounds_comm _ _ hji]
      exact h3.2.2
theorem wpAnyF_takeP {i : Nat} {oi : Oper} {v : Value} {fuel : Nat} {listed : Array Bool} {a : Act} {w : World} (d : Option Nat) (p : List Nat) (hi : ops[i]? = some oi) (hd : oi.dst = d)
    (hs : Region.noSelect ops = true) (hf : Region.free md ops listed i = true) (hr : (Region.ready md ops listed).contains i = true) (hwt : pathB md ops i p f = true) (hcl : closedB md ops listed = true)
    (hQ : ∀ c a w, Q (.panic c) (a.put oi.dst v) w → Q (.panic c) a w) (hy : YieldsIf P ops S oi v a) (hS : S w)
    (h : wpAnyF P md ops Q S f fuel (listed.setIfInBounds i true) (a.put d v) w) : wpAnyF P md ops Q S f (fuel + 1) listed a w := by
  subst hd
  exact wpAnyF_firstP hi (Region.noSelect_spec hs) hQ hwt fuel listed a w (Region.free_spec hi hf) (closed_of hcl) (by simpa using hr) hy hS h
end
end Go.Proofs.YtolcndchfnifhacDoor

namespace Go.Proofs.YtolcndchfnifhacDoor
set_option linter.unusedVariables false
open Go.RowKit
def turnedN (m : Mv) (W H : Nat) : Nat := if m.1 = true then H else W
theorem turnedN_int (m : Mv) (W H : Nat) : turnedW m W H = ((turnedN m W H : Nat) : Int) := by unfold turnedW turnedN; split <;> rfl
def srcN (m : Mv) (W H x y : Nat) : Nat := (srcY m H x y).toNat * W + (srcX m W x y).toNat
def turnP (ps : List Px) (W H : Nat) (m : Mv) (j : Nat) : Px := pxAt ps (srcN m W H (j % turnedN m W H) (j / turnedN m W H))
def turnL (W H : Nat) (ps : List Px) (m : Mv) : List Px := (List.range (turnedN m H W * turnedN m W H)).map (turnP ps W H m)
theorem src_in (m : Mv) (W H x y : Nat) (hx : x < turnedN m W H) (hy : y < turnedN m H W) : (0 ≤ srcX m W x y ∧ srcX m W x y < W) ∧ (0 ≤ srcY m H x y ∧ srcY m H x y < H) := by
  obtain ⟨a, b, c⟩ := m
  unfold turnedN at hx hy
  unfold srcX srcY
  cases a <;> cases b <;> cases c <;> simp at hx hy ⊢ <;> omega
set_option maxRecDepth 100000 in
set_option maxHeartbeats 3200000 in
theorem turn1_any (W H X Y : Nat) (hW : W ≤ 64) (hH : H ≤ 64) (m : Mv) (hX : X < turnedN m W H) (hY : Y < turnedN m H W) (ps : List Px) (hlen : ps.length = H * W) (bk off ca Bq Bo Bm : Nat) (V : World) (hBq : Bq < V.heap.size) (hBo : Bo < V.heap.size) (hBm : Bm < V.heap.size) (hbk : bk < V.heap.size)
    (k2 : V.cell? ⟨Bq, 2, none⟩ = some (.slice (some ⟨bk, off, none⟩) ps.length ca)) (o0 : V.cell? ⟨Bo, 0, none⟩ = some (.int .i64 W)) (o1 : V.cell? ⟨Bo, 1, none⟩ = some (.int .i64 H))
    (m0 : V.cell? ⟨Bm, 0, none⟩ = some (.bool m.1)) (m1 : V.cell? ⟨Bm, 1, none⟩ = some (.bool m.2.1)) (m2 : V.cell? ⟨Bm, 2, none⟩ = some (.bool m.2.2))
    (hcell : ∀ j, j < ps.length → V.cell? ⟨bk, off + j * 3, none⟩ = some (.int .i64 (pxAt ps j).1) ∧ V.cell? ⟨bk, off + j * 3 + 1, none⟩ = some (.int .i64 (pxAt ps j).2.1) ∧ V.cell? ⟨bk, off + j * 3 + 2, none⟩ = some (.int .i64 (pxAt ps j).2.2)) :
    Calls Tryd.prog 25 #[.agg #[.int .i64 (X : Nat), .int .i64 (Y : Nat)], .pointer (some ⟨Bq, 0, none⟩), .pointer (some ⟨Bo, 0, none⟩), .pointer (some ⟨Bm, 0, none⟩)] V fun e V' => e = .returned (pixV (pxAt ps (srcN m W H X Y))) ∧ Below V.heap.size V V' := by
  obtain ⟨⟨s1, s2⟩, s3, s4⟩ := src_in m W H X Y hX hY
  have hx64 : X ≤ 64 := by unfold turnedN at hX; split at hX <;> omega
  have hy64 : Y ≤ 64 := by unfold turnedN at hY; split at hY <;> omega
  have HSO := hide (fun (u : World) => source_any m W H X Y ⟨by omega, by omega⟩ ⟨by omega, by omega⟩ ⟨by omega, by omega⟩ ⟨by omega, by omega⟩ u)
  have hK : srcN m W H X Y = (srcY m H X Y).toNat * W + (srcX m W X Y).toNat := rfl
  obtain ⟨SX, hSX⟩ := Int.eq_ofNat_of_zero_le s1
  obtain ⟨SY, hSY⟩ := Int.eq_ofNat_of_zero_le s3
  rw [hSX, hSY] at HSO hK
  rw [hSX] at s2
  rw [hSY] at s4
  simp only [Int.toNat_natCast] at hK
  obtain ⟨k, hk⟩ : ∃ k, srcN m W H X Y = k := ⟨_, rfl⟩
  rw [hk] at hK ⊢
  have hkl : k < ps.length := by
    have h1 := Nat.mul_le_mul_right W (show SY + 1 ≤ H by omega)
    rw [Nat.add_mul, Nat.one_mul] at h1
    rw [hlen]; omega
  have hl4 : ps.length ≤ 4096 := by rw [hlen]; exact Nat.le_trans (Nat.mul_le_mul hH hW) (by decide)
  have HIX := hide (fun (u : World) => index_any W H SX SY W k rfl hK.symm (by omega) u)
  obtain ⟨c0, c1, c2⟩ := hcell k hkl
  have hkI : (k : Int) < (ps.length : Int) := by omega
  generalize pxAt ps k = P at *
  obtain ⟨a, b, c⟩ := m
  simp only at m0 m1 m2
  clear hcell hk hK s1 s2 s3 s4 hSX hSY hX hY hlen
  obtain ⟨n1, n2⟩ := al2 V (Obj.cells #[.int .i64 (X : Nat), .int .i64 (Y : Nat)] 49) (Obj.cells #[.int .i64 0, .int .i64 0, .int .i64 0] 51)
  have HB := hide (be2 V (Obj.cells #[.int .i64 (X : Nat), .int .i64 (Y : Nat)] 49) (Obj.cells #[.int .i64 0, .int .i64 0, .int .i64 0] 51))
  go_enter Tryd.func25, Tryd.ntmps25
  go_upto_region 1 with fail
  have hl1 := (Array.getElem?_eq_some_iff.1 n1).1
  have hl2 := (Array.getElem?_eq_some_iff.1 n2).1
  generalize (V.alloc (Obj.cells #[.int .i64 (X : Nat), .int .i64 (Y : Nat)] 49)).alloc (Obj.cells #[.int .i64 0, .int .i64 0, .int .i64 0] 51) = U at *
  have HS := hide (show ∀ v, Below U.heap.size U v → v.cell? ⟨Bq, 2, none⟩ = some (.slice (some ⟨bk, off, none⟩) ps.length ca) ∧ v.cell? ⟨Bo, 0, none⟩ = some (.int .i64 W) ∧ v.cell? ⟨Bo, 1, none⟩ = some (.int .i64 H) ∧ v.cell? ⟨Bm, 0, none⟩ = some (.bool a) ∧ v.cell? ⟨Bm, 1, none⟩ = some (.bool b) ∧ v.cell? ⟨Bm, 2, none⟩ = some (.bool c) ∧ v.cell? ⟨bk, off + k * 3, none⟩ = some (.int .i64 P.1) ∧ v.cell? ⟨bk, off + k * 3 + 1, none⟩ = some (.int .i64 P.2.1) ∧ v.cell? ⟨bk, off + k * 3 + 2, none⟩ = some (.int .i64 P.2.2) ∧ v.cell? ⟨V.heap.size, 0, none⟩ = some (.int .i64 (X : Nat)) ∧ v.cell? ⟨V.heap.size, 1, none⟩ = some (.int .i64 (Y : Nat)) from fun v h => by
    have hV := HB.out.trans (h.mono HB.out.size)
    have hn := (h.block _ hl1).trans n1
    exact ⟨(hV.cell (p := ⟨Bq, 2, none⟩) hBq).trans k2, (hV.cell (p := ⟨Bo, 0, none⟩) hBo).trans o0, (hV.cell (p := ⟨Bo, 1, none⟩) hBo).trans o1, (hV.cell (p := ⟨Bm, 0, none⟩) hBm).trans m0, (hV.cell (p := ⟨Bm, 1, none⟩) hBm).trans m1, (hV.cell (p := ⟨Bm, 2, none⟩) hBm).trans m2, (hV.cell (p := ⟨bk, off + k * 3, none⟩) hbk).trans c0, (hV.cell (p := ⟨bk, off + k * 3 + 1, none⟩) hbk).trans c1, (hV.cell (p := ⟨bk, off + k * 3 + 2, none⟩) hbk).trans c2, by rw [Lib.cell_of_heap hn]; rfl, by rw [Lib.cell_of_heap hn]; rfl⟩)
  have hWd : Below U.heap.size U U.drew := (Below.refl _ _).drew
  have hSd := HS.out _ hWd
  clear k2 o0 o1 m0 m1 m2 c0 c1 c2
  have hmx : Tryd.prog.follows .mixedOrders = true := by kernel_rfl
  refine wp_region_last (S := fun v : World => v.cell? ⟨Bq, 2, none⟩ = some (.slice (some ⟨bk, off, none⟩) ps.length ca) ∧ v.cell? ⟨Bo, 0, none⟩ = some (.int .i64 W) ∧ v.cell? ⟨Bo, 1, none⟩ = some (.int .i64 H) ∧ v.cell? ⟨Bm, 0, none⟩ = some (.bool a) ∧ v.cell? ⟨Bm, 1, none⟩ = some (.bool b) ∧ v.cell? ⟨Bm, 2, none⟩ = some (.bool c) ∧ v.cell? ⟨bk, off + k * 3, none⟩ = some (.int .i64 P.1) ∧ v.cell? ⟨bk, off + k * 3 + 1, none⟩ = some (.int .i64 P.2.1) ∧ v.cell? ⟨bk, off + k * 3 + 2, none⟩ = some (.int .i64 P.2.2) ∧ v.cell? ⟨V.heap.size, 0, none⟩ = some (.int .i64 (X : Nat)) ∧ v.cell? ⟨V.heap.size, 1, none⟩ = some (.int .i64 (Y : Nat))) (f := 10) hmx ?_
  show wpAnyF _ _ _ _ _ _ 11 _ _ U.drew
  refine wpAnyF_takeP (i := 0) (oi := _) (v := ?vv1) (some 6) [] rfl rfl (by kernel_rfl) (by kernel_rfl) (by kernel_rfl) (by kernel_rfl) (by kernel_rfl) (fun _ _ _ h => h) (Or.inl ⟨by rfl, ?yy1⟩) hSd ?rr1
  case yy1 => (intro wq hSq; obtain ⟨_, _, _, _, _, _, _, _, _, _, _⟩ := hSq; go_simp <;> with_reducible rfl)
  simp only [Act.put, List.setIfInBounds_toArray, List.set_cons_succ, List.set_cons_zero]
  refine wpAnyF_takeP (i := 2) (oi := _) (v := ?vv2) (some 8) [] rfl rfl (by kernel_rfl) (by kernel_rfl) (by kernel_rfl) (by kernel_rfl) (by kernel_rfl) (fun _ _ _ h => h) (Or.inl ⟨by rfl, ?yy2⟩) hSd ?rr2
  case yy2 => (intro wq hSq; obtain ⟨_, _, _, _, _, _, _, _, _, _, _⟩ := hSq; go_simp <;> with_reducible rfl)
  simp only [Act.put, List.setIfInBounds_toArray, List.set_cons_succ, List.set_cons_zero]
  refine wpAnyF_takeP (i := 3) (oi := _) (v := ?vv3) (some 9) [] rfl rfl (by kernel_rfl) (by kernel_rfl) (by kernel_rfl) (by kernel_rfl) (by kernel_rfl) (fun _ _ _ h => h) (Or.inl ⟨by rfl, ?yy3⟩) hSd ?rr3
  case yy3 => (intro wq hSq; obtain ⟨_, _, _, _, _, _, _, _, _, _, _⟩ := hSq; go_simp <;> with_reducible rfl)
  simp only [Act.put, List.setIfInBounds_toArray, List.set_cons_succ, List.set_cons_zero]
  refine wpAnyF_takeP (i := 4) (oi := _) (v := ?vv4) (some 10) [] rfl rfl (by kernel_rfl) (by kernel_rfl) (by kernel_rfl) (by kernel_rfl) (by kernel_rfl) (fun _ _ _ h => h) (Or.inl ⟨by rfl, ?yy4⟩) hSd ?rr4
  case yy4 => (intro wq hSq; obtain ⟨_, _, _, _, _, _, _, _, _, _, _⟩ := hSq; go_simp <;> with_reducible rfl)
  simp only [Act.put, List.setIfInBounds_toArray, List.set_cons_succ, List.set_cons_zero]
  refine wpAnyF_takeP (i := 5) (oi := _) (v := ?vv5) (some 11) [] rfl rfl (by kernel_rfl) (by kernel_rfl) (by kernel_rfl) (by kernel_rfl) (by kernel_rfl) (fun _ _ _ h => h) (Or.inl ⟨by rfl, ?yy5⟩) hSd ?rr5
  case yy5 => (intro wq hSq; obtain ⟨_, _, _, _, _, _, _, _, _, _, _⟩ := hSq; go_simp <;> with_reducible rfl)
  simp only [Act.put, List.setIfInBounds_toArray, List.set_cons_succ, List.set_cons_zero]
  refine wpAnyF_takeP (i := 1) (oi := _) (v := ?vv6) (some 7) [] rfl rfl (by kernel_rfl) (by kernel_rfl) (by kernel_rfl) (by kernel_rfl) (by kernel_rfl) (fun _ _ _ h => h) (Or.inl ⟨by rfl, ?yy6⟩) hSd ?rr6
  case yy6 => (intro wq hSq; obtain ⟨_, _, _, _, _, _, _, _, _, _, _⟩ := hSq; go_simp <;> with_reducible rfl)
  simp only [Act.put, List.setIfInBounds_toArray, List.set_cons_succ, List.set_cons_zero]
  refine wpAnyF_one (i := 6) (o := _) (by kernel_rfl) rfl (fun K' hK => ?_)
  rw [if_pos (by rfl)]
  go_simp
  refine (HSO.out _).mono ?_
  rintro e V1 ⟨rfl, hbvV1⟩
  have hBV1 : Below U.heap.size U V1 := hWd.trans (hbvV1.mono hWd.size)
  have hSd := HS.out _ hBV1
  refine hK.out _ _ hSd ?_
  clear hK
  try simp only [Act.put]
  refine wpAnyF_one (i := 7) (o := _) (by kernel_rfl) rfl (fun K' hK => ?_)
  rw [if_pos (by rfl)]
  go_simp
  refine (HIX.out _).mono ?_
  rintro e V2 ⟨rfl, hbvV2⟩
  have hBV2 : Below U.heap.size U V2 := hBV1.trans (hbvV2.mono hBV1.size)
  have hSd := HS.out _ hBV2
  refine hK.out _ _ hSd ?_
  clear hK
  try simp only [Act.put]
  refine wpAnyF_takeP (i := 8) (oi := _) (v := ?vv7) (some 14) [] rfl rfl (by kernel_rfl) (by kernel_rfl) (by kernel_rfl) (by kernel_rfl) (by kernel_rfl) (fun _ _ _ h => h) (Or.inl ⟨by rfl, ?yy7⟩) hSd ?rr7
  case yy7 => (intro wq hSq; obtain ⟨_, _, _, _, _, _, _, _, _, _, _⟩ := hSq; go_simp <;> with_reducible rfl)
  simp only [Act.put, List.setIfInBounds_toArray, List.set_cons_succ, List.set_cons_zero]
  refine wpAnyF_takeP (i := 9) (oi := _) (v := ?vv8) (some 15) [] rfl rfl (by kernel_rfl) (by kernel_rfl) (by kernel_rfl) (by kernel_rfl) (by kernel_rfl) (fun _ _ _ h => h) (Or.inl ⟨by rfl, ?yy8⟩) hSd ?rr8
  case yy8 => (intro wq hSq; obtain ⟨_, _, _, _, _, _, _, _, _, _, _⟩ := hSq; go_simp <;> with_reducible rfl)
  simp only [Act.put, List.setIfInBounds_toArray, List.set_cons_succ, List.set_cons_zero]
  refine wpAnyF_last (o := _) (by kernel_rfl) rfl (fun K' hK => ?_)
  have g := (hBV2.block _ hl2).trans n2
  obtain ⟨z0, z1, z2⟩ := cells3 (b := V.heap.size + 1) g
  have f0 := Lib.frozen_of_heap (b := V.heap.size + 1) g 0
  have f1 := Lib.frozen_of_heap (b := V.heap.size + 1) g 1
  have f2 := Lib.frozen_of_heap (b := V.heap.size + 1) g 2
  rw [if_pos (by rfl)]
  go_simp
  refine hK.out _ _ ?_
  clear hK
  refine wpAnyF_done (by kernel_rfl) ?_ _
  try simp only [Act.put]
  clear hSd
  have HF := hide (set3_below (HB.out.trans (hBV2.mono HB.out.size)) (show V.heap.size ≤ V.heap.size + 1 by omega) (.int .i64 P.1) (.int .i64 P.2.1) (.int .i64 P.2.2))
  go_wp2
  exact bodyPost_ret (v := .agg #[.int .i64 P.1, .int .i64 P.2.1, .int .i64 P.2.2]) (by simp [results, Tryd.results25, go_sem, z0, z1, z2]) rfl ⟨rfl, HF.out⟩
end Go.Proofs.YtolcndchfnifhacDoor
