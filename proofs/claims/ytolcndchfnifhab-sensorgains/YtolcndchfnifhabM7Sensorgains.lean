/- sensorgains: part 7 of what its proof needs. -/
import Derived.Test.YtolcndchfnifhabM3Sensorgains
import Derived.Test.YtolcndchfnifhabM6Sensorgains
/- (grid.Grid).Picture with whatever a closure tells of each place. -/
namespace Go.Proofs.Ytolcndchfnifhab
open Go.RowKit Go.Shelf

attribute [local go_sem] Oper.semAt_some

set_option maxRecDepth 100000 in
set_option maxHeartbeats 1000000 in
theorem gridPicture_any (W H N : Nat) (hW : W ≤ 64) (hH : H ≤ 64) (hNHW : N = H * W) (tf : Nat) (caps : Array Value) (T : Nat → Int × Int × Int) (w : World) (eg : ∀ args w, (callFunc tf args).run Try.prog w = .ok (.enter tf args) w)
    (htell : ∀ (j : Nat) (V : World), j < N → Below w.heap.size w V → Calls Try.prog tf (#[.agg #[.int .i64 (j % W : Nat), .int .i64 (j / W : Nat)]] ++ caps) V fun e V' => e = .returned (pixV (T j)) ∧ Below V.heap.size V V') :
    Calls Try.prog 65 #[.agg #[.int .i64 W, .int .i64 H], .func (.func tf) #[] caps] w fun e w' => ∃ r, e = .returned (.agg #[.int .i64 W, .int .i64 H, r]) ∧ IsPix w' r ((List.range N).map T) ∧ Below w.heap.size w w' ∧ Fresh w.heap.size r := by
  obtain ⟨i0, hi, hz0, hz1, hz2⟩ := info_parts Try.infoPixel
  refine (callsIn_wide (n := 3)).1 ?_
  refine callsIn_of_wp_marks Try.func65 rfl trivial ?_ rfl
  simp only [Try.ntmps65, List.size_toArray, List.length_cons, List.length_nil, Nat.reduceAdd, Nat.reduceSub, Array.replicate_succ, Array.replicate_zero, List.push_toArray, List.append_toArray, List.nil_append, List.cons_append]
  gi_wp2_with fail
  refine wpIn_wide.2 ?_
  have hN : N = W * H := by rw [hNHW, Nat.mul_comm]
  have HNHW := hide hNHW
  clear hNHW
  have hNi : (W : Int) * (H : Int) = (N : Int) := by rw [hN]; simp
  have hNb : N ≤ 4096 := by rw [hN]; exact Nat.le_trans (Nat.mul_le_mul hW hH) (by decide)
  have hmk : ∀ V : World, (Instr.makeSlice 37 (.int .i64 0) (.int .i64 N)).run Try.prog V = .ok (.slice (some ⟨V.heap.size, 0, none⟩) 0 N) (V.alloc (.cells (madeCells #[.int .i64 0, .int .i64 0, .int .i64 0] (N * 3)) 50)) := fun V => by
    have h := run_make (P := Try.prog) V 37 50 i0 pixZ Try.underlying37 hi hz0 .i64 .i64 0 N (Int.le_refl _) (by omega) (by rw [hz2]; omega) (by omega)
    rw [hz1] at h
    simpa [pixZ, Value.cells] using h
  have hwN : IntKind.i64.wrap ((W : Int) * (H : Int)) = (N : Int) := by rw [hNi]; exact IntWalk.i64_in _ (by omega)
  have hwM : IntKind.i64.wrap (N : Int) = (N : Int) := IntWalk.i64_in _ (by omega)
  have HN := hide hN
  clear hN
  have hB3 := bel_trans (bel_trans (bel_alloc w (Obj.cells #[.int .i64 W, .int .i64 H] 91)) (bel_alloc _ (Obj.cells #[.func (.func tf) #[] caps] 103))) (bel_alloc _ (Obj.cells #[.int .i64 0, .int .i64 0, .slice none 0 0] 39))
  have g0 : (((w.alloc (Obj.cells #[.int .i64 W, .int .i64 H] 91)).alloc (Obj.cells #[.func (.func tf) #[] caps] 103)).alloc (Obj.cells #[.int .i64 0, .int .i64 0, .slice none 0 0] 39)).heap[w.heap.size]? = some (.cells #[.int .i64 W, .int .i64 H] 91 (0, 0)) := by
    rw [Below.heap_alloc _ _ _ (by simp; omega), Below.heap_alloc _ _ _ (by simp)]; exact heap_alloc_new w _
  have g1 : (((w.alloc (Obj.cells #[.int .i64 W, .int .i64 H] 91)).alloc (Obj.cells #[.func (.func tf) #[] caps] 103)).alloc (Obj.cells #[.int .i64 0, .int .i64 0, .slice none 0 0] 39)).heap[w.heap.size + 1]? = some (.cells #[.func (.func tf) #[] caps] 103 (0, 0)) := by
    rw [Below.heap_alloc _ _ _ (by simp)]
    have h := heap_alloc_new (w.alloc (Obj.cells #[.int .i64 W, .int .i64 H] 91)) (Obj.cells #[.func (.func tf) #[] caps] 103)
    rw [World.size_alloc] at h; exact h
  have g2 : (((w.alloc (Obj.cells #[.int .i64 W, .int .i64 H] 91)).alloc (Obj.cells #[.func (.func tf) #[] caps] 103)).alloc (Obj.cells #[.int .i64 0, .int .i64 0, .slice none 0 0] 39)).heap[w.heap.size + 2]? = some (.cells #[.int .i64 0, .int .i64 0, .slice none 0 0] 39 (0, 0)) := by
    have h := heap_alloc_new ((w.alloc (Obj.cells #[.int .i64 W, .int .i64 H] 91)).alloc (Obj.cells #[.func (.func tf) #[] caps] 103)) (Obj.cells #[.int .i64 0, .int .i64 0, .slice none 0 0] 39)
    rw [World.size_alloc, World.size_alloc] at h; exact h
  have hs3 : (((w.alloc (Obj.cells #[.int .i64 W, .int .i64 H] 91)).alloc (Obj.cells #[.func (.func tf) #[] caps] 103)).alloc (Obj.cells #[.int .i64 0, .int .i64 0, .slice none 0 0] 39)).heap.size = w.heap.size + 3 := by simp
  generalize ((w.alloc (Obj.cells #[.int .i64 W, .int .i64 H] 91)).alloc (Obj.cells #[.func (.func tf) #[] caps] 103)).alloc (Obj.cells #[.int .i64 0, .int .i64 0, .slice none 0 0] 39) = W3 at *
  have k0 : W3.cell? ⟨w.heap.size, 0, none⟩ = some (.int .i64 W) := by rw [Lib.cell_of_heap g0]; rfl
  have k1 : W3.cell? ⟨w.heap.size, 1, none⟩ = some (.int .i64 H) := by rw [Lib.cell_of_heap g0]; rfl
  have HS := hide (show ∀ w', Below W3.heap.size W3 w' → w'.cell? ⟨w.heap.size, 0, none⟩ = some (.int .i64 W) ∧ w'.cell? ⟨w.heap.size, 1, none⟩ = some (.int .i64 H) from fun w' h =>
    ⟨(h.cell (p := ⟨w.heap.size, 0, none⟩) (by show w.heap.size < _; omega)).trans k0, (h.cell (p := ⟨w.heap.size, 1, none⟩) (by show w.heap.size < _; omega)).trans k1⟩)
  have hdrew : Below W3.heap.size W3 W3.drew := (Below.refl _ _).drew
  have HMK := hide hmk
  go_region_held3 (fun w' => w'.cell? ⟨w.heap.size, 0, none⟩ = some (.int .i64 W) ∧ w'.cell? ⟨w.heap.size, 1, none⟩ = some (.int .i64 H))
    (first | (refine HS.out _ ?_; assumption) | (refine HS.out _ ?_; exact bel_trans (by assumption) (bel_alloc _ _)) | go_keep)
    (fail)
  all_goals first
    | (show Exit.then _ _ _ _ ((W3.alloc (Obj.cells (madeCells #[.int .i64 0, .int .i64 0, .int .i64 0] (N * 3)) 50)).alloc (Obj.cells #[.int .i64 W, .int .i64 H, .slice (some ⟨w.heap.size + 3, 0, none⟩) 0 N] 39)).drew
       have hVb : Below W3.heap.size W3 ((W3.alloc (Obj.cells (madeCells #[.int .i64 0, .int .i64 0, .int .i64 0] (N * 3)) 50)).alloc (Obj.cells #[.int .i64 W, .int .i64 H, .slice (some ⟨w.heap.size + 3, 0, none⟩) 0 N] 39)).drew := below_drew'' (bel_trans (bel_alloc _ _) (bel_alloc _ _))
       have vP : ((W3.alloc (Obj.cells (madeCells #[.int .i64 0, .int .i64 0, .int .i64 0] (N * 3)) 50)).alloc (Obj.cells #[.int .i64 W, .int .i64 H, .slice (some ⟨w.heap.size + 3, 0, none⟩) 0 N] 39)).drew.heap[w.heap.size + 3 + 1]? = some (.cells #[.int .i64 W, .int .i64 H, .slice (some ⟨w.heap.size + 3, 0, none⟩) 0 N] 39 (0, 0)) := by
         have h := heap_alloc_new (W3.alloc (Obj.cells (madeCells #[.int .i64 0, .int .i64 0, .int .i64 0] (N * 3)) 50)) (Obj.cells #[.int .i64 W, .int .i64 H, .slice (some ⟨w.heap.size + 3, 0, none⟩) 0 N] 39)
         rw [World.size_alloc, hs3] at h; exact h
       have vS : ((W3.alloc (Obj.cells (madeCells #[.int .i64 0, .int .i64 0, .int .i64 0] (N * 3)) 50)).alloc (Obj.cells #[.int .i64 W, .int .i64 H, .slice (some ⟨w.heap.size + 3, 0, none⟩) 0 N] 39)).drew.ownsRow w.heap.size 50 3 (.slice (some ⟨w.heap.size + 3, 0, none⟩) 0 N) 0 [] := by
         have h := (World.ownsRow_made (base := w.heap.size) (e := 50) (size := 3) W3 (madeCells #[.int .i64 0, .int .i64 0, .int .i64 0] (N * 3)) N (by omega) (by unfold maxLen; omega) (by simp [madeCells])).alloc (Obj.cells #[.int .i64 W, .int .i64 H, .slice (some ⟨w.heap.size + 3, 0, none⟩) 0 N] 39)
         rw [hs3] at h; exact h
       have hPB : w.heap.size + 2 < w.heap.size + 3 + 1 := by omega
       generalize ((W3.alloc (Obj.cells (madeCells #[.int .i64 0, .int .i64 0, .int .i64 0] (N * 3)) 50)).alloc (Obj.cells #[.int .i64 W, .int .i64 H, .slice (some ⟨w.heap.size + 3, 0, none⟩) 0 N] 39)).drew = V at *
       generalize w.heap.size + 3 + 1 = PB at hPB vP ⊢
       generalize hSB : Value.slice (some ⟨w.heap.size + 3, 0, none⟩) 0 N = SV at *
       clear hSB)
    | (have hVb : Below W3.heap.size W3 ((W3.alloc (Obj.cells #[.int .i64 W, .int .i64 H, .slice (some ⟨w.heap.size + 3 + 1, 0, none⟩) 0 N] 39)).alloc (Obj.cells (madeCells #[.int .i64 0, .int .i64 0, .int .i64 0] (N * 3)) 50)).drew := below_drew'' (bel_trans (bel_alloc _ _) (bel_alloc _ _))
       have vP : ((W3.alloc (Obj.cells #[.int .i64 W, .int .i64 H, .slice (some ⟨w.heap.size + 3 + 1, 0, none⟩) 0 N] 39)).alloc (Obj.cells (madeCells #[.int .i64 0, .int .i64 0, .int .i64 0] (N * 3)) 50)).drew.heap[w.heap.size + 3]? = some (.cells #[.int .i64 W, .int .i64 H, .slice (some ⟨w.heap.size + 3 + 1, 0, none⟩) 0 N] 39 (0, 0)) := by
         have h := heap_alloc_new W3 (Obj.cells #[.int .i64 W, .int .i64 H, .slice (some ⟨w.heap.size + 3 + 1, 0, none⟩) 0 N] 39)
         rw [hs3] at h
         exact (Below.heap_alloc _ _ _ (by simp; omega)).trans h
       have vS : ((W3.alloc (Obj.cells #[.int .i64 W, .int .i64 H, .slice (some ⟨w.heap.size + 3 + 1, 0, none⟩) 0 N] 39)).alloc (Obj.cells (madeCells #[.int .i64 0, .int .i64 0, .int .i64 0] (N * 3)) 50)).drew.ownsRow w.heap.size 50 3 (.slice (some ⟨w.heap.size + 3 + 1, 0, none⟩) 0 N) 0 [] := by
         have h := World.ownsRow_made (base := w.heap.size) (e := 50) (size := 3) (W3.alloc (Obj.cells #[.int .i64 W, .int .i64 H, .slice (some ⟨w.heap.size + 3 + 1, 0, none⟩) 0 N] 39)) (madeCells #[.int .i64 0, .int .i64 0, .int .i64 0] (N * 3)) N (by simp; omega) (by unfold maxLen; omega) (by simp [madeCells])
         rw [World.size_alloc, hs3] at h; exact h
       have hPB : w.heap.size + 2 < w.heap.size + 3 := by omega
       generalize ((W3.alloc (Obj.cells #[.int .i64 W, .int .i64 H, .slice (some ⟨w.heap.size + 3 + 1, 0, none⟩) 0 N] 39)).alloc (Obj.cells (madeCells #[.int .i64 0, .int .i64 0, .int .i64 0] (N * 3)) 50)).drew = V at *
       generalize hSB : Value.slice (some ⟨w.heap.size + 3 + 1, 0, none⟩) 0 N = SV at *
       clear hSB
       generalize w.heap.size + 3 = PB at hPB vP ⊢)
  all_goals
    have k0 := (hVb.cell (p := ⟨w.heap.size, 0, none⟩) (by show w.heap.size < _; omega)).trans k0
    have k1 := (hVb.cell (p := ⟨w.heap.size, 1, none⟩) (by show w.heap.size < _; omega)).trans k1
    gi_wp2_with fail
    refine ⟨trivial, ?_⟩
    refine (places_in Fence.wide _ trivial rfl _ _ _).mono ?_
    rintro e w' ⟨rfl, rfl⟩
    gi_wp2_with fail
    have hsV := hVb.size
    have hlP := (Array.getElem?_eq_some_iff.1 vP).1
    have n0 := heap_alloc_new V (Obj.cells #[.int .i64 W, .int .i64 H] 91)
    have hs0 : (V.alloc (Obj.cells #[.int .i64 W, .int .i64 H] 91)).heap.size = V.heap.size + 1 := by simp
    have hB0 : Below w.heap.size w (V.alloc (Obj.cells #[.int .i64 W, .int .i64 H] 91)) := bel_trans (bel_trans hB3 hVb) (bel_alloc _ _)
    have j0 : (V.alloc (Obj.cells #[.int .i64 W, .int .i64 H] 91)).heap[PB]? = some (.cells #[.int .i64 W, .int .i64 H, SV] 39 (0, 0)) := (Below.heap_alloc _ _ _ hlP).trans vP
    have j1 := vS.alloc (Obj.cells #[.int .i64 W, .int .i64 H] 91)
    have j2 : (V.alloc (Obj.cells #[.int .i64 W, .int .i64 H] 91)).heap[w.heap.size + 1]? = some (.cells #[.func (.func tf) #[] caps] 103 (0, 0)) := by
      rw [Below.heap_alloc _ _ _ (by omega), hVb.block _ (by omega)]; exact g1
    have j3 : (V.alloc (Obj.cells #[.int .i64 W, .int .i64 H] 91)).heap[w.heap.size + 2]? = some (.cells #[.int .i64 0, .int .i64 0, .slice none 0 0] 39 (0, 0)) := by
      rw [Below.heap_alloc _ _ _ (by omega), hVb.block _ (by omega)]; exact g2
    generalize V.alloc (Obj.cells #[.int .i64 W, .int .i64 H] 91) = W0 at *
    refine wpIn_rangeFunc_ownH (α := Fin N) rfl (show 1 ≤ 3 by omega) (gf := 117) (lb := #[.pointer (some ⟨V.heap.size, 0, none⟩)]) rfl trivial (enters_of Try.func117 (by kernel_rfl) rfl)
      (places_stops Fence.wide (3 - 1) trivial rfl (by omega) V.heap.size W H N hW hH HNHW.out W0 (by omega) (by rw [Lib.cell_of_heap n0]; rfl) (by rw [Lib.cell_of_heap n0]; rfl)) (fun {A B C} h k => h.trans' k) (fun X l o o' hl _ _ _ => keepB_put (by omega)) (Below.refl _ _) (fun _ => rfl)
      (fun pre W' => (∃ v, W'.heap[PB]? = some (.cells #[.int .i64 W, .int .i64 H, v] 39 (0, 0)) ∧ W'.ownsRow w.heap.size 50 3 v pre.length ((pre.map fun (j : Fin N) => T j.1).flatMap pixL)) ∧ W'.heap[w.heap.size + 1]? = some (.cells #[.func (.func tf) #[] caps] 103 (0, 0)) ∧ W'.heap[w.heap.size + 2]? = some (.cells #[.int .i64 0, .int .i64 0, .slice none 0 0] 39 (0, 0)) ∧ W'.heap[V.heap.size]? = some (.cells #[.int .i64 W, .int .i64 H] 91 (0, 0)) ∧ Below w.heap.size w W')
      (fun _ _ _ => False)
      (fun s X Y row ⟨⟨v, a1, a2⟩, a3, a4, a6, a5⟩ hg hr => ⟨⟨v, own_keep hg hr a1, own_keepRow hg hr a2⟩, own_keep hg hr a3, own_keep hg hr a4, own_keep hg hr a6, ownFrom_below (β := Unit) (Nat.le_refl _) (by omega) () X Y row a5 hg hr⟩)
      (fun _ _ _ _ _ hs _ _ => hs)
      ⟨⟨_, j0, j1⟩, j2, j3, n0, hB0⟩
      (fun x a' W' => ∃ Bx, W0.heap.size ≤ Bx ∧ W'.heap[Bx]? = some (.cells #[.int .i64 (x.1 % W : Nat), .int .i64 (x.1 / W : Nat)] 93 (0, 0)) ∧ a' = { tmps := #[.agg #[.int .i64 W, .int .i64 H], .func (.func tf) #[] caps, .pointer (some ⟨w.heap.size, 0, none⟩), .pointer (some ⟨w.heap.size + 1, 0, none⟩), .pointer (some ⟨w.heap.size + 1 + 1, 0, none⟩), .pointer (some ⟨PB, 0, none⟩), .pointer (some ⟨Bx, 0, none⟩), .pointer (some ⟨w.heap.size, 0, none⟩), .int .i64 W, .pointer (some ⟨w.heap.size, 1, none⟩), .int .i64 H, .pointer (some ⟨w.heap.size, 0, none⟩), .int .i64 W, .pointer (some ⟨w.heap.size, 1, none⟩), .int .i64 H, .int .i64 N, SV, .agg #[.int .i64 W, .int .i64 H, SV], .agg #[.int .i64 W, .int .i64 H], .func (.func 117) #[] #[.pointer (some ⟨V.heap.size, 0, none⟩)], .agg #[.int .i64 (x.1 % W : Nat), .int .i64 (x.1 / W : Nat)], undef, undef, undef, undef, undef, undef, undef, undef, undef], defers := [] })
      (fun x a' _ X Y row ⟨Bx, b1, b2, b3⟩ hg hr => ⟨Bx, b1, own_keep hg hr b2, b3⟩)
      ?assign ?body ?done ?stop
    case assign =>
      rintro l pre x W' K ⟨⟨v, i1, i2⟩, i3, i4, i6, i5⟩ hK
      have hl1 := (Array.getElem?_eq_some_iff.1 i1).1
      have hl3 := (Array.getElem?_eq_some_iff.1 i3).1
      have hl4 := (Array.getElem?_eq_some_iff.1 i4).1
      have hl6 := (Array.getElem?_eq_some_iff.1 i6).1
      gi_wp2
      exact hK _ _ ((KeepsOthers.alloc _ _).from _) (Below.heap_alloc _ _ _ hl6) ⟨⟨v, (Below.heap_alloc _ _ _ hl1).trans i1, i2.alloc _⟩, (Below.heap_alloc _ _ _ hl3).trans i3, (Below.heap_alloc _ _ _ hl4).trans i4, (Below.heap_alloc _ _ _ hl6).trans i6, i5.alloc i5.size _⟩ ⟨W'.heap.size, by omega, heap_alloc_new W' _, rfl⟩
    case body =>
      rintro l pre x a' W' hl ⟨r, hr⟩ ⟨⟨sv, i1, i2⟩, i3, i4, i6, i5⟩ ⟨Bx, hBx, bX, rfl⟩ hlt
      obtain ⟨so, scap, rfl⟩ := lenOf_any i2
      have p2 : W'.cell? ⟨PB, 2, none⟩ = some (.slice so pre.length scap) := by rw [Lib.cell_of_heap i1]; rfl
      have t0 : W'.cell? ⟨w.heap.size + 1, 0, none⟩ = some (.func (.func tf) #[] caps) := by rw [Lib.cell_of_heap i3]; rfl
      have x0 : W'.cell? ⟨Bx, 0, none⟩ = some (.int .i64 (x.1 % W : Nat)) := by rw [Lib.cell_of_heap bX]; rfl
      have x1 : W'.cell? ⟨Bx, 1, none⟩ = some (.int .i64 (x.1 / W : Nat)) := by rw [Lib.cell_of_heap bX]; rfl
      have hmx : Try.prog.follows .mixedOrders = true := by kernel_rfl
      have hlP := (Array.getElem?_eq_some_iff.1 i1).1
      have hlT := (Array.getElem?_eq_some_iff.1 i3).1
      have hlX := (Array.getElem?_eq_some_iff.1 bX).1
      have hbW : w.heap.size ≤ W'.heap.size := by omega
      have HL1 := hide (show pre.length + 1 ≤ maxLen by unfold maxLen; omega)
      have HL2 := hide (show (pre.length + 1) * 24 ≤ 140737488355328 by omega)
      have HS := hide (show ∀ v, Below W'.heap.size W' v → v.cell? ⟨w.heap.size + 1, 0, none⟩ = some (.func (.func tf) #[] caps) ∧ v.cell? ⟨Bx, 0, none⟩ = some (.int .i64 (x.1 % W : Nat)) ∧ v.cell? ⟨Bx, 1, none⟩ = some (.int .i64 (x.1 / W : Nat)) from fun v h =>
        ⟨(h.cell (p := ⟨w.heap.size + 1, 0, none⟩) hlT).trans t0, (h.cell (p := ⟨Bx, 0, none⟩) hlX).trans x0, (h.cell (p := ⟨Bx, 1, none⟩) hlX).trans x1⟩)
      have HP2 := hide (show ∀ v, Below W'.heap.size W' v → v.cell? ⟨PB, 2, none⟩ = some (.slice so pre.length scap) from fun v h => (h.cell (p := ⟨PB, 2, none⟩) hlP).trans p2)
      have HTL := hide (fun (V1 : World) (g cap : Nat) (w1 : World) (h1 : Below W'.heap.size W' V1) (h2 : (V1.alloc (Obj.cells (pixA (T x.1)) 50)).grownBy w1 (Value.slice so pre.length scap).ownBlock) (h3 : w1.ownsRow (w.heap.size) 50 3 (.slice (some ⟨g, 0, none⟩) (pre.length + 1) cap) (pre.length + 1) ((pre.map fun (j : Fin N) => T j.1).flatMap pixL ++ pixL (T x.1))) => grid_tail (es := (pixA (T x.1))) (by decide) (by decide) (by decide) (by decide) (by decide) (by decide) (by decide) (B0 := W0.heap.size) (PB := PB) i1 i2 i3 i4 i6 bX i5 (by omega) (by omega) (by omega) h1 h2 h3)
      have hWd : Below W'.heap.size W' W'.drew := (Below.refl _ _).drew
      have HT := hide (htell x.1 W'.drew x.2 i5.drew)
      gi_wp2_with fail
      have hSd := HS.out _ hWd
      have p2 := HP2.out _ hWd
      refine wpIn_region_held (S := fun v : World => v.cell? ⟨w.heap.size + 1, 0, none⟩ = some (.func (.func tf) #[] caps) ∧ v.cell? ⟨Bx, 0, none⟩ = some (.int .i64 (x.1 % W : Nat)) ∧ v.cell? ⟨Bx, 1, none⟩ = some (.int .i64 (x.1 / W : Nat))) hmx ?nd ?no ?_
      case nd => exact noDefer_of (by kernel_rfl)
      case no => rintro ⟨_, _, h⟩; exact h
      show wpAnyH _ _ _ _ _ 9 _ _ W'.drew
      refine wpAnyH_take (i := 0) (oi := _) (v := .pointer (some ⟨PB, 2, none⟩)) rfl (by kernel_rfl) (by kernel_rfl) (by kernel_rfl) (fun _ _ _ h => h) (Or.inl ⟨by rfl, fun v hSv => by obtain ⟨s2, s3, s4⟩ := hSv; go_simp⟩) hSd ?_
      simp only [Act.put]
      refine wpAnyH_take (i := 2) (oi := _) (v := .func (.func tf) #[] caps) rfl (by kernel_rfl) (by kernel_rfl) (by kernel_rfl) (fun _ _ _ h => h) (Or.inl ⟨by rfl, fun v hSv => by obtain ⟨s2, s3, s4⟩ := hSv; go_simp⟩) hSd ?_
      simp only [Act.put]
      refine wpAnyH_take (i := 3) (oi := _) (v := .agg #[.int .i64 (x.1 % W : Nat), .int .i64 (x.1 / W : Nat)]) rfl (by kernel_rfl) (by kernel_rfl) (by kernel_rfl) (fun _ _ _ h => h) (Or.inl ⟨by rfl, fun v hSv => by obtain ⟨s2, s3, s4⟩ := hSv; go_simp⟩) hSd ?_
      simp only [Act.put]
      refine wpAnyH_ready (rs := [1, 4]) (by kernel_rfl) (by simp) ?_
      refine AllReadyH.cons (o := _) rfl (fun K hK => ?wA) (AllReadyH.cons (o := _) rfl (fun K hK => ?wB) AllReadyH.nil)
      case wA =>
        rw [if_pos (by rfl)]
        go_simp
        refine hK.out _ _ hSd (fun _ => ?_)
        clear hK
        refine wpAnyH_ready (rs := [4]) (by kernel_rfl) (by simp) ?_
        refine AllReadyH.cons (o := _) rfl (fun K hK => ?_) AllReadyH.nil
        rw [if_pos (by rfl)]
        go_simp
        refine HT.out.mono ?_
        rintro e V1 ⟨rfl, hb1⟩
        have hV1 : Below W'.heap.size W' V1 := hWd.trans hb1
        have hSd := HS.out _ hV1
        have p2 := HP2.out _ hV1
        refine hK.out _ _ hSd (fun _ => ?_)
        clear hK
        refine wpAnyH_ready (rs := [5]) (by kernel_rfl) (by simp) ?_
        refine AllReadyH.cons (o := _) rfl (fun K hK => ?_) AllReadyH.nil
        rw [if_pos (by rfl)]
        go_simp
        have hV2 : Below W'.heap.size W' (V1.alloc (Obj.cells (pixA (T x.1)) 50)) := hV1.trans ((bel_alloc _ _).mono hV1.size)
        have hSd := HS.out _ hV2
        have p2 := HP2.out _ hV2
        refine hK.out _ _ hSd (fun _ => ?_)
        clear hK
        have ho2 := ((ownsRow_below i2 hV1).alloc (Obj.cells (pixA (T x.1)) 50))
        refine wpAnyH_ready (rs := [6]) (by kernel_rfl) (by simp) ?_
        refine AllReadyH.cons (o := _) rfl (fun K hK => ?_) AllReadyH.nil
        refine step_append_lies _ rfl _ _ 37 rfl (w.heap.size) 50 i0 pixZ 3 24 Try.underlying37 hi hz0 hz1 hz2 rfl (by decide) (.slice so pre.length scap) pre.length ((pre.map fun (j : Fin N) => T j.1).flatMap pixL) rfl ho2 ⟨V1.heap.size, 0, none⟩ 1 1 (pixL (T x.1)) rfl rfl (World.news_of_block (heap_alloc_new V1 _)) (fun u hu => by simp [pixL] at hu; rcases hu with rfl | rfl | rfl <;> rfl) Nat.one_pos HL1.out HL2.out (Nat.le_trans hbW hV2.size) _ rfl ?_
        intro g cap w1 hown hgrow hat hltg
        obtain ⟨hSd, p2, p2f, HFIN⟩ := HTL.out V1 g cap w1 hV1 hgrow hown
        refine hK.out _ _ hSd (fun _ => ?_)
        clear hK
        refine wpAnyH_ready (rs := [7]) (by kernel_rfl) (by simp) ?_
        refine AllReadyH.cons (o := _) rfl (fun K hK => ?_) AllReadyH.nil
        rw [if_pos (by rfl)]
        go_simp
        refine hK.out _ _ hSd (fun _ => ?_)
        clear hK
        refine wpAnyH_ready (rs := [8]) (by kernel_rfl) (by simp) ?_
        refine AllReadyH.cons (o := _) rfl (fun K hK => ?_) AllReadyH.nil
        rw [if_pos (by rfl)]
        go_simp
        refine hK.out _ _ HFIN.1 (fun _ => ?_)
        clear hK
        refine wpAnyH_done (by kernel_rfl) ?_ _
        obtain ⟨_, f1, f2, ⟨v, f3, f4⟩, f5, f6, f7, f8⟩ := HFIN
        exact ⟨f1, f2, ⟨v, f3, by rw [List.length_append, List.map_append, List.flatMap_append]; exact f4⟩, f5, f6, f7, f8⟩
      case wB =>
        rw [if_pos (by rfl)]
        go_simp
        refine HT.out.mono ?_
        rintro e V1 ⟨rfl, hb1⟩
        have hV1 : Below W'.heap.size W' V1 := hWd.trans hb1
        have hSd := HS.out _ hV1
        have p2 := HP2.out _ hV1
        refine hK.out _ _ hSd (fun _ => ?_)
        clear hK
        refine wpAnyH_ready (rs := [1, 5]) (by kernel_rfl) (by simp) ?_
        refine AllReadyH.cons (o := _) rfl (fun K hK => ?wC) (AllReadyH.cons (o := _) rfl (fun K hK => ?wD) AllReadyH.nil)
        case wC =>
          rw [if_pos (by rfl)]
          go_simp
          refine hK.out _ _ hSd (fun _ => ?_)
          clear hK
          refine wpAnyH_ready (rs := [5]) (by kernel_rfl) (by simp) ?_
          refine AllReadyH.cons (o := _) rfl (fun K hK => ?_) AllReadyH.nil
          rw [if_pos (by rfl)]
          go_simp
          have hV2 : Below W'.heap.size W' (V1.alloc (Obj.cells (pixA (T x.1)) 50)) := hV1.trans ((bel_alloc _ _).mono hV1.size)
          have hSd := HS.out _ hV2
          have p2 := HP2.out _ hV2
          refine hK.out _ _ hSd (fun _ => ?_)
          clear hK
          have ho2 := ((ownsRow_below i2 hV1).alloc (Obj.cells (pixA (T x.1)) 50))
          refine wpAnyH_ready (rs := [6]) (by kernel_rfl) (by simp) ?_
          refine AllReadyH.cons (o := _) rfl (fun K hK => ?_) AllReadyH.nil
          refine step_append_lies _ rfl _ _ 37 rfl (w.heap.size) 50 i0 pixZ 3 24 Try.underlying37 hi hz0 hz1 hz2 rfl (by decide) (.slice so pre.length scap) pre.length ((pre.map fun (j : Fin N) => T j.1).flatMap pixL) rfl ho2 ⟨V1.heap.size, 0, none⟩ 1 1 (pixL (T x.1)) rfl rfl (World.news_of_block (heap_alloc_new V1 _)) (fun u hu => by simp [pixL] at hu; rcases hu with rfl | rfl | rfl <;> rfl) Nat.one_pos HL1.out HL2.out (Nat.le_trans hbW hV2.size) _ rfl ?_
          intro g cap w1 hown hgrow hat hltg
          obtain ⟨hSd, p2, p2f, HFIN⟩ := HTL.out V1 g cap w1 hV1 hgrow hown
          refine hK.out _ _ hSd (fun _ => ?_)
          clear hK
          refine wpAnyH_ready (rs := [7]) (by kernel_rfl) (by simp) ?_
          refine AllReadyH.cons (o := _) rfl (fun K hK => ?_) AllReadyH.nil
          rw [if_pos (by rfl)]
          go_simp
          refine hK.out _ _ hSd (fun _ => ?_)
          clear hK
          refine wpAnyH_ready (rs := [8]) (by kernel_rfl) (by simp) ?_
          refine AllReadyH.cons (o := _) rfl (fun K hK => ?_) AllReadyH.nil
          rw [if_pos (by rfl)]
          go_simp
          refine hK.out _ _ HFIN.1 (fun _ => ?_)
          clear hK
          refine wpAnyH_done (by kernel_rfl) ?_ _
          obtain ⟨_, f1, f2, ⟨v, f3, f4⟩, f5, f6, f7, f8⟩ := HFIN
          exact ⟨f1, f2, ⟨v, f3, by rw [List.length_append, List.map_append, List.flatMap_append]; exact f4⟩, f5, f6, f7, f8⟩
        case wD =>
          rw [if_pos (by rfl)]
          go_simp
          have hV2 : Below W'.heap.size W' (V1.alloc (Obj.cells (pixA (T x.1)) 50)) := hV1.trans ((bel_alloc _ _).mono hV1.size)
          have hSd := HS.out _ hV2
          have p2 := HP2.out _ hV2
          refine hK.out _ _ hSd (fun _ => ?_)
          clear hK
          refine wpAnyH_ready (rs := [1]) (by kernel_rfl) (by simp) ?_
          refine AllReadyH.cons (o := _) rfl (fun K hK => ?_) AllReadyH.nil
          rw [if_pos (by rfl)]
          go_simp
          refine hK.out _ _ hSd (fun _ => ?_)
          clear hK
          have ho2 := ((ownsRow_below i2 hV1).alloc (Obj.cells (pixA (T x.1)) 50))
          refine wpAnyH_ready (rs := [6]) (by kernel_rfl) (by simp) ?_
          refine AllReadyH.cons (o := _) rfl (fun K hK => ?_) AllReadyH.nil
          refine step_append_lies _ rfl _ _ 37 rfl (w.heap.size) 50 i0 pixZ 3 24 Try.underlying37 hi hz0 hz1 hz2 rfl (by decide) (.slice so pre.length scap) pre.length ((pre.map fun (j : Fin N) => T j.1).flatMap pixL) rfl ho2 ⟨V1.heap.size, 0, none⟩ 1 1 (pixL (T x.1)) rfl rfl (World.news_of_block (heap_alloc_new V1 _)) (fun u hu => by simp [pixL] at hu; rcases hu with rfl | rfl | rfl <;> rfl) Nat.one_pos HL1.out HL2.out (Nat.le_trans hbW hV2.size) _ rfl ?_
          intro g cap w1 hown hgrow hat hltg
          obtain ⟨hSd, p2, p2f, HFIN⟩ := HTL.out V1 g cap w1 hV1 hgrow hown
          refine hK.out _ _ hSd (fun _ => ?_)
          clear hK
          refine wpAnyH_ready (rs := [7]) (by kernel_rfl) (by simp) ?_
          refine AllReadyH.cons (o := _) rfl (fun K hK => ?_) AllReadyH.nil
          rw [if_pos (by rfl)]
          go_simp
          refine hK.out _ _ hSd (fun _ => ?_)
          clear hK
          refine wpAnyH_ready (rs := [8]) (by kernel_rfl) (by simp) ?_
          refine AllReadyH.cons (o := _) rfl (fun K hK => ?_) AllReadyH.nil
          rw [if_pos (by rfl)]
          go_simp
          refine hK.out _ _ HFIN.1 (fun _ => ?_)
          clear hK
          refine wpAnyH_done (by kernel_rfl) ?_ _
          obtain ⟨_, f1, f2, ⟨v, f3, f4⟩, f5, f6, f7, f8⟩ := HFIN
          exact ⟨f1, f2, ⟨v, f3, by rw [List.length_append, List.map_append, List.flatMap_append]; exact f4⟩, f5, f6, f7, f8⟩
    case done =>
      rintro D ys W' hD rfl ⟨⟨v, i1, i2⟩, i3, i4, i6, i5⟩ hK
      have p0 : W'.cell? ⟨PB, 0, none⟩ = some (.int .i64 W) := by rw [Lib.cell_of_heap i1]; rfl
      have p1 : W'.cell? ⟨PB, 1, none⟩ = some (.int .i64 H) := by rw [Lib.cell_of_heap i1]; rfl
      have p2 : W'.cell? ⟨PB, 2, none⟩ = some v := by rw [Lib.cell_of_heap i1]; rfl
      have r0 : W'.cell? ⟨w.heap.size + 1 + 1, 0, none⟩ = some (.int .i64 0) := by rw [Lib.cell_of_heap i4]; rfl
      have r1 : W'.cell? ⟨w.heap.size + 1 + 1, 1, none⟩ = some (.int .i64 0) := by rw [Lib.cell_of_heap i4]; rfl
      have r2 : W'.cell? ⟨w.heap.size + 1 + 1, 2, none⟩ = some (.slice none 0 0) := by rw [Lib.cell_of_heap i4]; rfl
      have f0 : W'.frozen? ⟨w.heap.size + 1 + 1, 0, none⟩ = false := Lib.frozen_of_heap i4 0
      have f1 : W'.frozen? ⟨w.heap.size + 1 + 1, 1, none⟩ = false := Lib.frozen_of_heap i4 1
      have f2 : W'.frozen? ⟨w.heap.size + 1 + 1, 2, none⟩ = false := Lib.frozen_of_heap i4 2
      obtain ⟨ao, cap, rfl⟩ := lenOf_any i2
      gi_wp2
      obtain ⟨x1, x2, x3, x4⟩ := box3_set i4 (.int .i64 W) (.int .i64 H) (.slice ao (List.finRange N).length cap) w (by omega) i5
      have i2' := own_other x2 (own_ne i2 i4 (by decide)) i2
      have hDr : D ≠ w.heap.size + 2 := fun e => by rw [e, i4] at hK; cases hK
      replace hK := (x2 D hDr).trans hK
      simp only [List.length_finRange] at x1 x2 x3 x4 i2' hK
      generalize ((W'.setCell ⟨w.heap.size + 1 + 1, 0, none⟩ (.int .i64 W)).setCell ⟨w.heap.size + 1 + 1, 1, none⟩ (.int .i64 H)).setCell ⟨w.heap.size + 1 + 1, 2, none⟩ (.slice ao N cap) = X at *
      refine ⟨by simp, .inl ⟨_, _, rfl, run_takeDeferred hK, ?_⟩⟩
      have y1 := (World.putObj_heap_other (w := X) (o := .deferred none) (Ne.symm hDr)).trans x1
      have y2 := ownsRow_putObj i2' (.deferred none) hK rfl
      have y3 : Below w.heap.size w (X.putObj D (.deferred none)) := x4.trans (belowK_b (w := w) (Nat.le_refl _) X D _ _ (by omega) hK rfl rfl)
      have c0 : (X.putObj D (.deferred none)).cell? ⟨w.heap.size + 1 + 1, 0, none⟩ = some (.int .i64 W) := by rw [Lib.cell_of_heap y1]; rfl
      have c1 : (X.putObj D (.deferred none)).cell? ⟨w.heap.size + 1 + 1, 1, none⟩ = some (.int .i64 H) := by rw [Lib.cell_of_heap y1]; rfl
      have c2 : (X.putObj D (.deferred none)).cell? ⟨w.heap.size + 1 + 1, 2, none⟩ = some (.slice ao N cap) := by rw [Lib.cell_of_heap y1]; rfl
      generalize X.putObj D (.deferred none) = Z at *
      refine ⟨.agg #[.int .i64 W, .int .i64 H, .slice ao N cap], by simp [results, Try.results65, go_sem, c0, c1, c2], .slice ao N cap, rfl, ?_, y3, Fresh.own (by simpa using y2)⟩
      rw [← map_finRange N T]
      exact IsPix.own (base := w.heap.size) (by simpa using y2) (by simp; omega)
    case stop => rintro D c pre W' _ _ h _; exact h.elim

end Go.Proofs.Ytolcndchfnifhab

/- Pictures: whether one is right; the code's way and the reference's; whether two are the same. -/
namespace Go.Proofs.Ytolcndchfnifhab
open Go.RowKit

def pxOk (p : Px) : Bool := allIn 0 65535 [p.1, p.2.1, p.2.2]
def pxsOk (ps : List Px) : Bool := ps.all pxOk
def picOk (W H : Int) (ps : List Px) : Bool := sizeOk W H ps.length && pxsOk ps
theorem pxsOk_snoc (ps : List Px) (p : Px) : pxsOk (ps ++ [p]) = (pxsOk ps && pxOk p) := by simp [pxsOk]
theorem pxsOk_false (ps : List Px) (k : Nat) (hk : k < ps.length) (h : pxOk ps[k] = false) : pxsOk ps = false := by
  rw [Bool.eq_false_iff]; intro he
  have := List.all_eq_true.1 he _ (List.getElem_mem hk)
  rw [h] at this; cases this
theorem pxOk_iff (p : Px) : pxOk p = true ↔ (0 ≤ p.1 ∧ p.1 ≤ 65535) ∧ (0 ≤ p.2.1 ∧ p.2.1 ≤ 65535) ∧ (0 ≤ p.2.2 ∧ p.2.2 ≤ 65535) := by simp [pxOk, allIn]
theorem pxsOk_get {ps : List Px} (h : pxsOk ps = true) (k : Nat) (hk : k < ps.length) : (0 ≤ ps[k].1 ∧ ps[k].1 ≤ 65535) ∧ (0 ≤ ps[k].2.1 ∧ ps[k].2.1 ≤ 65535) ∧ (0 ≤ ps[k].2.2 ∧ ps[k].2.2 ≤ 65535) :=
  (pxOk_iff _).1 (List.all_eq_true.1 h _ (List.getElem_mem hk))
theorem picOk_parts {W H : Int} {ps : List Px} (h : picOk W H ps = true) : (1 ≤ W ∧ W ≤ 64) ∧ (1 ≤ H ∧ H ≤ 64) ∧ (ps.length : Int) = W * H ∧ pxsOk ps = true := by
  simp only [picOk, sizeOk, sideOk, Bool.and_eq_true, decide_eq_true_eq] at h
  exact ⟨h.1.1.1, h.1.1.2, h.1.2, h.2⟩

theorem ints3 (w : World) (a b c : Int) : IsInts (w.alloc (.cells #[.int .i64 a, .int .i64 b, .int .i64 c] 3)) (.slice (some ⟨w.heap.size, 0, none⟩) 3 3) [a, b, c] :=
  IsInts.own (base := w.heap.size) (World.ownsRow_lit w #[.int .i64 a, .int .i64 b, .int .i64 c] 3 (Nat.le_refl _) (by decide) (by simp)) (by simp)

theorem px3 {w w' : World} {a b c : Value} {t : TypeId} (hb : Below (w.alloc (.cells #[a, b, c] t)).heap.size (w.alloc (.cells #[a, b, c] t)) w') :
    w'.heap[w.heap.size]? = some (.cells #[a, b, c] t (0, 0)) := by
  rw [hb.block _ (by simp)]; exact heap_alloc_new w _

set_option maxRecDepth 100000 in
set_option maxHeartbeats 800000 in
theorem picture_any (W H : Int) (v : Value) (ps : List Px) (w : World) (hv : IsPix w v ps) :
    Calls Try.prog 68 #[.agg #[.int .i64 W, .int .i64 H, v]] w fun e w' => e = .returned (.bool (picOk W H ps)) ∧ Below w.heap.size w w' := by
  have HV := hide hv
  obtain ⟨ao, ca, rfl, hla, hc⟩ := hv
  by_cases h1 : sizeOk W H ps.length = true
  · have HE := hide (show pxsOk ps = picOk W H ps by rw [picOk, h1]; rfl)
    have hpos : 1 ≤ ps.length := by
      simp only [sizeOk, sideOk, Bool.and_eq_true, decide_eq_true_eq] at h1
      have := side_mul h1.1.1 h1.1.2
      omega
    obtain ⟨bk, off, hao, hbl, hcell⟩ : ∃ b off, ao = some ⟨b, off, none⟩ ∧ b < w.heap.size ∧ ∀ j (h : j < ps.length),
      w.cell? ⟨b, off + j * 3, none⟩ = some (.int .i64 ps[j].1) ∧ w.cell? ⟨b, off + j * 3 + 1, none⟩ = some (.int .i64 ps[j].2.1) ∧ w.cell? ⟨b, off + j * 3 + 2, none⟩ = some (.int .i64 ps[j].2.2) := by
      rcases hc with h | h
      · subst h; simp at hpos
      · exact h
    subst hao
    have HCELL := hide hcell; clear hcell hc
    go_enter Try.func68, Try.ntmps68
    go_wp2_with fail
    refine (size_any _ _ _ _).mono ?_
    rintro e w1 ⟨rfl, hb1⟩
    rw [h1]
    have c2 := (pl3 hb1).2.2
    have hW := bel_trans (bel_alloc w _) hb1
    clear hb1
    go_wp2_with fail
    go_loopw [17] (fun i wr => ∃ k : Nat, k ≤ ps.length ∧ i = .int .i64 k ∧ Hid (pxsOk (ps.take k) = true) ∧ Below w.heap.size w wr) (fun i _ => ps.length - (intOf i).toNat)
    case atStart => exact ⟨0, Nat.zero_le _, rfl, rfl, hW⟩
    case round =>
      clear c2 hW
      obtain ⟨k, hk, rfl, HA, hbel⟩ := hrel
      by_cases hlt : k < ps.length
      · have hd : decide ((k : Int) < (ps.length : Int)) = true := by simp; omega
        have c0 := (hbel.cell (p := ⟨bk, off + k * 3, none⟩) hbl).trans (HCELL.out k hlt).1
        have c1 := (hbel.cell (p := ⟨bk, off + k * 3 + 1, none⟩) hbl).trans (HCELL.out k hlt).2.1
        have c2 := (hbel.cell (p := ⟨bk, off + k * 3 + 2, none⟩) hbl).trans (HCELL.out k hlt).2.2
        go_wp2_with fail
        refine (rWithin_any 0 65535 _ [ps[k].1, ps[k].2.1, ps[k].2.2] _ (by have := ints3 (wr.alloc (Obj.cells #[.int .i64 ps[k].1, .int .i64 ps[k].2.1, .int .i64 ps[k].2.2] 50)) ps[k].1 ps[k].2.1 ps[k].2.2; rw [World.size_alloc] at this; exact this)).mono ?_
        rintro e w2 ⟨rfl, rfl⟩
        have hbel2 := (hbel.alloc hbel.size (Obj.cells #[.int .i64 ps[k].1, .int .i64 ps[k].2.1, .int .i64 ps[k].2.2] 50)).alloc (by have := hbel.size; simp; omega) (Obj.cells #[.int .i64 ps[k].1, .int .i64 ps[k].2.1, .int .i64 ps[k].2.2] 3)
        change Hid _ at HA
        by_cases hx : pxOk ps[k] = true
        · have HT := hide (show pxsOk (ps.take (k + 1)) = true by rw [List.take_succ_eq_append_getElem hlt, pxsOk_snoc, HA.out, hx]; rfl)
          rw [show allIn 0 65535 [ps[k].1, ps[k].2.1, ps[k].2.2] = true from hx]
          clear hx
          go_wp2
          go_roundw
          case rel => exact ⟨k + 1, by omega, by go_num, HT, hbel2⟩
          case measure => simp [intOf]; omega
        · have hx : pxOk ps[k] = false := by simpa using hx
          have HX := hide (show false = picOk W H ps by rw [← HE.out, pxsOk_false ps k hlt hx])
          rw [show allIn 0 65535 [ps[k].1, ps[k].2.1, ps[k].2.2] = false from hx]
          clear hx
          go_wp2
          go_ret
          exact ⟨ret_bool HX.out, hbel2⟩
      · have hd : decide ((k : Int) < (ps.length : Int)) = false := by simp; omega
        have HX := hide (show true = picOk W H ps by rw [← HE.out, ← HA.out, List.take_of_length_le (by omega)])
        go_wp2
        go_ret
        exact ⟨ret_bool HX.out, hbel⟩
  · have h1 : sizeOk W H ps.length = false := by simpa using h1
    have HE := hide (show false = picOk W H ps by rw [picOk, h1]; rfl)
    go_enter Try.func68, Try.ntmps68
    go_wp2_with fail
    refine (size_any _ _ _ _).mono ?_
    rintro e w1 ⟨rfl, hb1⟩
    rw [h1]
    go_wp2
    go_ret
    exact ⟨ret_bool HE.out, bel_trans (bel_alloc _ _) hb1⟩

theorem parts_any (p : Px) (w : World) : Calls Try.prog 73 #[pixV p] w fun e w' => e = .returned (pixV p) ∧ Below w.heap.size w w' := by
  go_enter Try.func73, Try.ntmps73
  go_wp2
  exact bodyPost_ret (v := pixV p) (by simp [results, Try.results73, go_sem]) rfl ⟨rfl, bel_trans (bel_alloc _ _) (bel_alloc _ _)⟩

theorem pixel_any (p : Px) (w : World) : Calls Try.prog 72 #[pixV p] w fun e w' => e = .returned (pixV p) ∧ Below w.heap.size w w' := by
  go_enter Try.func72, Try.ntmps72
  go_wp2
  exact bodyPost_ret (v := pixV p) (by simp [results, Try.results72, go_sem]) rfl ⟨rfl, bel_trans (bel_alloc _ _) (bel_alloc _ _)⟩

def amountOk (n : Int) : Bool := decide (0 ≤ n ∧ n ≤ 1024)
theorem amount_any (n : Int) (w : World) : Calls Try.prog 84 #[.int .i64 n] w fun e w' => e = .returned (.bool (amountOk n)) ∧ Below w.heap.size w w' := by
  have HS := hide (show allIn 0 1024 [n] = amountOk n by simp [allIn, amountOk])
  go_enter Try.func84, Try.ntmps84
  go_wp2_with fail
  refine (rWithin_any 0 1024 _ [n] _ (ints1 w n)).mono ?_
  rintro e w1 ⟨rfl, rfl⟩
  rw [HS.out]
  go_wp2
  go_ret
  exact ⟨rfl, bel_alloc _ _⟩

set_option maxRecDepth 100000 in
set_option maxHeartbeats 1600000 in
theorem pictureFine_any (W H : Int) (v : Value) (ps : List Px) (w : World) (hv : IsPix w v ps) :
    Calls Try.prog 26 #[.agg #[.int .i64 W, .int .i64 H, v]] w fun e w' => e = .returned (.bool (picOk W H ps)) ∧ Below w.heap.size w w' := by
  obtain ⟨ao, ca, rfl, hla, hc⟩ := hv
  obtain ⟨R, hR⟩ : ∃ R, picOk W H ps = R := ⟨_, rfl⟩
  rw [hR]
  obtain ⟨e0, e1, e2⟩ := pl3 (Below.refl (w.alloc (Obj.cells #[.int .i64 W, .int .i64 H, .slice ao ps.length ca] 39)).heap.size _)
  have HB := hide (bel_alloc w (Obj.cells #[.int .i64 W, .int .i64 H, .slice ao ps.length ca] 39))
  have hwi : ∀ n : Int, decide (1 ≤ n ∧ n ≤ 64) = sideOk n := fun n => rfl
  have HWI := hide hwi
  clear hwi
  by_cases h1 : sideOk W = true
  · by_cases h2 : sideOk H = true
    · have b1 : 1 ≤ W ∧ W ≤ 64 := by simpa [sideOk] using h1
      have b2 : 1 ≤ H ∧ H ≤ 64 := by simpa [sideOk] using h2
      obtain ⟨b3, b4⟩ := side_mul b1 b2
      obtain ⟨M, hM⟩ : ∃ M, W * H = M := ⟨_, rfl⟩
      by_cases hl : (ps.length : Int) = M
      · have HP := hide (show R = pxsOk ps by rw [← hR, picOk, sizeOk, h1, h2, hM, hl]; simp)
        rw [hM] at b3 b4
        have hlb : ((ps.length : Int) != M) = false := by simpa using hl
        obtain ⟨bk, off, hao, hbl, hcell⟩ : ∃ b off, ao = some ⟨b, off, none⟩ ∧ b < w.heap.size ∧ ∀ j (h : j < ps.length),
            w.cell? ⟨b, off + j * 3, none⟩ = some (.int .i64 ps[j].1) ∧ w.cell? ⟨b, off + j * 3 + 1, none⟩ = some (.int .i64 ps[j].2.1) ∧ w.cell? ⟨b, off + j * 3 + 2, none⟩ = some (.int .i64 ps[j].2.2) := by
          rcases hc with h | h
          · subst h; simp at hl; omega
          · exact h
        subst hao
        have HCELL := hide hcell; clear hcell hc hR hl
        go_enter Try.func26, Try.ntmps26
        go_wp2_with fail
        have HC2 := hide (show ∀ j (h : j < ps.length), (w.alloc (Obj.cells #[.int .i64 W, .int .i64 H, .slice (some ⟨bk, off, none⟩) ps.length ca] 39)).cell? ⟨bk, off + j * 3, none⟩ = some (.int .i64 ps[j].1) ∧ (w.alloc (Obj.cells #[.int .i64 W, .int .i64 H, .slice (some ⟨bk, off, none⟩) ps.length ca] 39)).cell? ⟨bk, off + j * 3 + 1, none⟩ = some (.int .i64 ps[j].2.1) ∧ (w.alloc (Obj.cells #[.int .i64 W, .int .i64 H, .slice (some ⟨bk, off, none⟩) ps.length ca] 39)).cell? ⟨bk, off + j * 3 + 2, none⟩ = some (.int .i64 ps[j].2.2) from fun j h => by
          have hq := Below.heap_alloc w (Obj.cells #[.int .i64 W, .int .i64 H, .slice (some ⟨bk, off, none⟩) ps.length ca] 39) bk hbl
          rw [World.cell?_of_block (w := w) (a := ⟨bk, off + j * 3, none⟩) hq, World.cell?_of_block (w := w) (a := ⟨bk, off + j * 3 + 1, none⟩) hq, World.cell?_of_block (w := w) (a := ⟨bk, off + j * 3 + 2, none⟩) hq]; exact HCELL.out j h)
        clear HCELL
        generalize w.alloc (Obj.cells #[.int .i64 W, .int .i64 H, .slice (some ⟨bk, off, none⟩) ps.length ca] 39) = W0 at *
        refine (within_any _ _ _ _).mono ?_
        rintro e w1 ⟨rfl, rfl⟩
        rw [HWI.out, h1]
        go_wp2_with fail
        refine (within_any _ _ _ _).mono ?_
        rintro e w1 ⟨rfl, rfl⟩
        rw [HWI.out, h2]
        go_wp2
        clear h1 h2 b1 b2
        go_loop [3] (fun i => ∃ k : Nat, k ≤ ps.length ∧ i = .int .i64 k ∧ Hid (pxsOk (ps.take k) = true)) (fun i => ps.length - (intOf i).toNat)
        case atStart => exact ⟨0, Nat.zero_le _, rfl, rfl⟩
        case round =>
          obtain ⟨k, hk, rfl, HS⟩ := hrel
          by_cases hlt : k < ps.length
          · obtain ⟨c0, c1, c2⟩ := HC2.out k hlt
            have hpx := pxOk_iff ps[k]
            by_cases hx0 : 0 ≤ ps[k].1 ∧ ps[k].1 ≤ 65535
            · have hd0 : decide (0 ≤ ps[k].1 ∧ ps[k].1 ≤ 65535) = true := by simpa using hx0
              by_cases hx1 : 0 ≤ ps[k].2.1 ∧ ps[k].2.1 ≤ 65535
              · have hd1 : decide (0 ≤ ps[k].2.1 ∧ ps[k].2.1 ≤ 65535) = true := by simpa using hx1
                by_cases hx2 : 0 ≤ ps[k].2.2 ∧ ps[k].2.2 ≤ 65535
                · have hd2 : decide (0 ≤ ps[k].2.2 ∧ ps[k].2.2 ≤ 65535) = true := by simpa using hx2
                  have HT := hide (show pxsOk (ps.take (k + 1)) = true by rw [List.take_succ_eq_append_getElem hlt, pxsOk_snoc, HS.out, hpx.2 ⟨hx0, hx1, hx2⟩]; rfl)
                  clear hpx hx0 hx1 hx2
                  go_wp2_with (go_at_call 59; refine (within_any _ _ _ _).mono ?_; rintro e w1 ⟨rfl, rfl⟩; first | rw [hd0] | rw [hd1] | rw [hd2])
                  go_round
                  case rel => exact ⟨k + 1, by omega, by go_num, HT⟩
                  case measure => simp [intOf]; omega
                · have hd2 : decide (0 ≤ ps[k].2.2 ∧ ps[k].2.2 ≤ 65535) = false := by simpa using hx2
                  have HX := hide (show false = R by rw [HP.out, pxsOk_false ps k hlt (by rw [Bool.eq_false_iff]; exact fun h => hx2 (hpx.1 h).2.2)])
                  clear hpx hx0 hx1 hx2
                  go_wp2_with (go_at_call 59; refine (within_any _ _ _ _).mono ?_; rintro e w1 ⟨rfl, rfl⟩; first | rw [hd0] | rw [hd1] | rw [hd2])
                  go_ret
                  exact ⟨ret_bool HX.out, HB.out⟩
              · have hd1 : decide (0 ≤ ps[k].2.1 ∧ ps[k].2.1 ≤ 65535) = false := by simpa using hx1
                have HX := hide (show false = R by rw [HP.out, pxsOk_false ps k hlt (by rw [Bool.eq_false_iff]; exact fun h => hx1 (hpx.1 h).2.1)])
                clear hpx hx0 hx1
                go_wp2_with (go_at_call 59; refine (within_any _ _ _ _).mono ?_; rintro e w1 ⟨rfl, rfl⟩; first | rw [hd0] | rw [hd1])
                go_ret
                exact ⟨ret_bool HX.out, HB.out⟩
            · have hd0 : decide (0 ≤ ps[k].1 ∧ ps[k].1 ≤ 65535) = false := by simpa using hx0
              have HX := hide (show false = R by rw [HP.out, pxsOk_false ps k hlt (by rw [Bool.eq_false_iff]; exact fun h => hx0 (hpx.1 h).1)])
              clear hpx hx0
              go_wp2_with (go_at_call 59; refine (within_any _ _ _ _).mono ?_; rintro e w1 ⟨rfl, rfl⟩; rw [hd0])
              go_ret
              exact ⟨ret_bool HX.out, HB.out⟩
          · have HX := hide (show true = R by rw [HP.out, ← HS.out, List.take_of_length_le (by omega)])
            go_wp2
            go_ret
            exact ⟨ret_bool HX.out, HB.out⟩
      · have HX := hide (show false = R by rw [← hR, picOk, sizeOk, hM]; simp [hl])
        rw [hM] at b3 b4
        have hlb : ((ps.length : Int) != M) = true := by simpa using hl
        clear hc hR hl
        go_enter Try.func26, Try.ntmps26
        go_wp2_with fail
        generalize w.alloc (Obj.cells #[.int .i64 W, .int .i64 H, .slice ao ps.length ca] 39) = W0 at *
        refine (within_any _ _ _ _).mono ?_
        rintro e w1 ⟨rfl, rfl⟩
        rw [HWI.out, h1]
        go_wp2_with fail
        refine (within_any _ _ _ _).mono ?_
        rintro e w1 ⟨rfl, rfl⟩
        rw [HWI.out, h2]
        go_wp2
        go_ret
        exact ⟨ret_bool HX.out, HB.out⟩
    · have h2 : sideOk H = false := by simpa using h2
      have HX := hide (show false = R by rw [← hR, picOk, sizeOk, h2]; simp)
      clear hc hR
      go_enter Try.func26, Try.ntmps26
      go_wp2_with fail
      generalize w.alloc (Obj.cells #[.int .i64 W, .int .i64 H, .slice ao ps.length ca] 39) = W0 at *
      refine (within_any _ _ _ _).mono ?_
      rintro e w1 ⟨rfl, rfl⟩
      rw [HWI.out, h1]
      go_wp2_with fail
      refine (within_any _ _ _ _).mono ?_
      rintro e w1 ⟨rfl, rfl⟩
      rw [HWI.out, h2]
      go_wp2
      go_ret
      exact ⟨ret_bool HX.out, HB.out⟩
  · have h1 : sideOk W = false := by simpa using h1
    have HX := hide (show false = R by rw [← hR, picOk, sizeOk, h1]; simp)
    clear hc hR
    go_enter Try.func26, Try.ntmps26
    go_wp2_with fail
    generalize w.alloc (Obj.cells #[.int .i64 W, .int .i64 H, .slice ao ps.length ca] 39) = W0 at *
    refine (within_any _ _ _ _).mono ?_
    rintro e w1 ⟨rfl, rfl⟩
    rw [HWI.out, h1]
    go_wp2
    go_ret
    exact ⟨ret_bool HX.out, HB.out⟩

end Go.Proofs.Ytolcndchfnifhab

/- The reference's SamePictures, SamePlanes. -/
namespace Go.Proofs.Ytolcndchfnifhab
open Go.RowKit

def sameB (W1 H1 : Int) (ps : List Px) (W2 H2 : Int) (qs : List Px) : Bool := decide (W1 = W2 ∧ H1 = H2 ∧ ps = qs)

theorem box2 {w : World} {x y : Array Value} {t : TypeId} {w' : World} (hb : Below ((w.alloc (.cells x t)).alloc (.cells y t)).heap.size ((w.alloc (.cells x t)).alloc (.cells y t)) w') :
    w'.heap[w.heap.size]? = some (.cells x t (0, 0)) ∧ w'.heap[w.heap.size + 1]? = some (.cells y t (0, 0)) := by
  constructor
  · rw [hb.block _ (by simp; omega), Below.heap_alloc _ _ _ (by simp)]; exact heap_alloc_new w _
  · rw [hb.block _ (by simp)]
    have h := heap_alloc_new (w.alloc (.cells x t)) (.cells y t)
    rw [World.size_alloc] at h; exact h
set_option maxRecDepth 100000 in
set_option maxHeartbeats 1600000 in
theorem samePictures_any (W1 H1 : Int) (va : Value) (ps : List Px) (W2 H2 : Int) (vb : Value) (qs : List Px) (w : World) (ha : IsPix w va ps) (hb : IsPix w vb qs) :
    Calls Try.prog 29 #[.agg #[.int .i64 W1, .int .i64 H1, va], .agg #[.int .i64 W2, .int .i64 H2, vb]] w fun e w' => e = .returned (.bool (sameB W1 H1 ps W2 H2 qs)) ∧ Below w.heap.size w w' := by
  obtain ⟨ao, ca, rfl, hla, ha⟩ := ha
  obtain ⟨bo, cb, rfl, hlb, hb⟩ := hb
  obtain ⟨R, hR⟩ : ∃ R, sameB W1 H1 ps W2 H2 qs = R := ⟨_, rfl⟩
  rw [hR]
  have HR := hide hR
  clear hR
  have HB := hide (bel_trans (bel_alloc w (.cells #[.int .i64 W1, .int .i64 H1, .slice ao ps.length ca] 39)) (bel_alloc _ (.cells #[.int .i64 W2, .int .i64 H2, .slice bo qs.length cb] 39)))
  obtain ⟨k1, k2⟩ := box2 (w := w) (x := #[.int .i64 W1, .int .i64 H1, .slice ao ps.length ca]) (y := #[.int .i64 W2, .int .i64 H2, .slice bo qs.length cb]) (t := 39) (Below.refl _ _)
  obtain ⟨e0, e1, e2⟩ := cells3 k1
  obtain ⟨f0, f1, f2⟩ := cells3 k2
  clear k1 k2
  by_cases hW : W1 = W2
  · subst hW
    have hWb : (W1 != W1) = false := by simp
    by_cases hH : H1 = H2
    · subst hH
      have hHb : (H1 != H1) = false := by simp
      have HR2 := hide (show R = decide (ps = qs) by rw [← HR.out, sameB]; simp)
      clear HR
      by_cases hl : ps.length = qs.length
      · have hlb2 : ((ps.length : Int) != (qs.length : Int)) = false := by simp [hl]
        by_cases h0 : ps.length = 0
        · obtain rfl := List.eq_nil_of_length_eq_zero h0
          obtain rfl := List.eq_nil_of_length_eq_zero (hl.symm.trans h0)
          have HX := hide (show true = R by rw [HR2.out]; rfl)
          clear ha hb h0 hl hlb2
          go_enter Try.func29, Try.ntmps29
          go_wp2
          go_loop [5] (fun i => i = .int .i64 0) (fun _ => 0)
          case atStart => rfl
          case round =>
            subst hrel
            go_wp2
            go_ret
            exact ⟨ret_bool HX.out, HB.out⟩
        · obtain ⟨ba, oa, hao, hba, hca⟩ : ∃ b off, ao = some ⟨b, off, none⟩ ∧ b < w.heap.size ∧ ∀ j (h : j < ps.length),
              w.cell? ⟨b, off + j * 3, none⟩ = some (.int .i64 ps[j].1) ∧ w.cell? ⟨b, off + j * 3 + 1, none⟩ = some (.int .i64 ps[j].2.1) ∧ w.cell? ⟨b, off + j * 3 + 2, none⟩ = some (.int .i64 ps[j].2.2) := by
            rcases ha with h | h
            · subst h; exact absurd rfl h0
            · exact h
          obtain ⟨bb, ob, hbo, hbb, hcb⟩ : ∃ b off, bo = some ⟨b, off, none⟩ ∧ b < w.heap.size ∧ ∀ j (h : j < qs.length),
              w.cell? ⟨b, off + j * 3, none⟩ = some (.int .i64 qs[j].1) ∧ w.cell? ⟨b, off + j * 3 + 1, none⟩ = some (.int .i64 qs[j].2.1) ∧ w.cell? ⟨b, off + j * 3 + 2, none⟩ = some (.int .i64 qs[j].2.2) := by
            rcases hb with h | h
            · subst h; exact absurd hl h0
            · exact h
          subst hao
          subst hbo
          have HCA := hide hca; clear hca ha
          have HCB := hide hcb; clear hcb hb
          have HL := hide hl; clear hl
          go_enter Try.func29, Try.ntmps29
          go_wp2_with fail
          generalize (w.alloc (.cells #[.int .i64 W1, .int .i64 H1, .slice (some ⟨ba, oa, none⟩) ps.length ca] 39)).alloc (.cells #[.int .i64 W1, .int .i64 H1, .slice (some ⟨bb, ob, none⟩) qs.length cb] 39) = W0 at *
          go_loopw [5] (fun i wr => ∃ k : Nat, k ≤ ps.length ∧ i = .int .i64 k ∧ Hid (ps.take k = qs.take k) ∧ (∃ n, wr = W0.drewN n)) (fun i _ => ps.length - (intOf i).toNat)
          case atStart => exact ⟨0, Nat.zero_le _, rfl, rfl, 0, rfl⟩
          case round =>
            obtain ⟨k, hk, rfl, HT, nn, rfl⟩ := hrel
            by_cases hlt : k < ps.length
            · have hlt2 : k < qs.length := by have := HL.out; omega
              have a0 := (HB.out.cell (p := ⟨ba, oa + k * 3, none⟩) hba).trans (HCA.out k hlt).1
              have a1 := (HB.out.cell (p := ⟨ba, oa + k * 3 + 1, none⟩) hba).trans (HCA.out k hlt).2.1
              have a2 := (HB.out.cell (p := ⟨ba, oa + k * 3 + 2, none⟩) hba).trans (HCA.out k hlt).2.2
              have b0 := (HB.out.cell (p := ⟨bb, ob + k * 3, none⟩) hbb).trans (HCB.out k hlt2).1
              have b1 := (HB.out.cell (p := ⟨bb, ob + k * 3 + 1, none⟩) hbb).trans (HCB.out k hlt2).2.1
              have b2 := (HB.out.cell (p := ⟨bb, ob + k * 3 + 2, none⟩) hbb).trans (HCB.out k hlt2).2.2
              have HTK := hide (show ps[k] = qs[k] → ps.take (k + 1) = qs.take (k + 1) from fun he => by
                rw [List.take_succ_eq_append_getElem hlt, List.take_succ_eq_append_getElem hlt2, HT.out, he])
              have HNE := hide (show ¬ ps[k] = qs[k] → false = R from fun he => by
                rw [HR2.out]; symm; simp only [decide_eq_false_iff_not]; exact fun h => he (by subst h; rfl))
              obtain ⟨⟨p1, p2, p3⟩, hp⟩ : ∃ p, ps[k] = p := ⟨_, rfl⟩
              obtain ⟨⟨q1, q2, q3⟩, hq⟩ : ∃ q, qs[k] = q := ⟨_, rfl⟩
              rw [hp] at a0 a1 a2
              rw [hq] at b0 b1 b2
              rw [hp, hq] at HTK HNE
              clear hp hq
              simp only at a0 a1 a2 b0 b1 b2
              by_cases h1 : p1 = q1
              · by_cases h2 : p2 = q2
                · by_cases h3 : p3 = q3
                  · subst h1; subst h2; subst h3
                    have HT2 := hide (HTK.out rfl)
                    clear HTK HNE
                    go_wp2
                    go_region
                    go_wp2
                    go_roundw
                    case rel => exact ⟨k + 1, by omega, by go_num, HT2, nn + 1, rfl⟩
                    case measure => simp [intOf]; omega
                  · have HX := hide (HNE.out (fun h => h3 (by cases h; rfl)))
                    subst h1; subst h2
                    clear HTK HNE
                    go_wp2
                    go_region
                    go_wp2
                    go_ret
                    exact ⟨ret_bool HX.out, below_drewN HB.out _⟩
                · have HX := hide (HNE.out (fun h => h2 (by cases h; rfl)))
                  subst h1
                  clear HTK HNE
                  go_wp2
                  go_region
                  go_wp2
                  go_ret
                  exact ⟨ret_bool HX.out, below_drewN HB.out _⟩
              · have HX := hide (HNE.out (fun h => h1 (by cases h; rfl)))
                clear HTK HNE
                go_wp2
                go_region
                go_wp2
                go_ret
                exact ⟨ret_bool HX.out, below_drewN HB.out _⟩
            · have HX := hide (show true = R by
                have h := HT.out
                rw [List.take_of_length_le (by omega), List.take_of_length_le (by have := HL.out; omega)] at h
                rw [HR2.out]; symm; simp [h])
              go_wp2
              go_ret
              exact ⟨ret_bool HX.out, below_drewN HB.out _⟩
      · have HX := hide (show false = R by rw [HR2.out]; symm; simp only [decide_eq_false_iff_not]; exact fun h => hl (by rw [h]))
        have hlb2 : ((ps.length : Int) != (qs.length : Int)) = true := by simp; omega
        clear hl
        go_enter Try.func29, Try.ntmps29
        go_wp2
        go_ret
        exact ⟨ret_bool HX.out, HB.out⟩
    · have HX := hide (show false = R by rw [← HR.out, sameB]; symm; simp [hH])
      have hHb : (H1 != H2) = true := by simpa using hH
      clear hH
      go_enter Try.func29, Try.ntmps29
      go_wp2
      go_ret
      exact ⟨ret_bool HX.out, HB.out⟩
  · have HX := hide (show false = R by rw [← HR.out, sameB]; symm; simp [hW])
    have hWb : (W1 != W2) = true := by simpa using hW
    clear hW
    go_enter Try.func29, Try.ntmps29
    go_wp2
    go_ret
    exact ⟨ret_bool HX.out, HB.out⟩

def samePB (W1 H1 : Int) (xs : List Int) (W2 H2 : Int) (ys : List Int) : Bool := decide (W1 = W2 ∧ H1 = H2 ∧ xs = ys)
end Go.Proofs.Ytolcndchfnifhab

