/- The law's mosaicBegun. -/
import Derived.Test.YtolcndchfnifhabMosaicTake
import Derived.Test.YtolcndchfnifhabSmallPlane
namespace Go.Proofs.Ytolcndchfnifhab
open Go.RowKit

theorem begFill (W : World) (v : Value) (hv : IsInts W v [10, 65535, 0, 7]) : Calls Try.prog 22 #[.agg #[.int .i64 2, .int .i64 2, v], .int .i64 0] W fun e w' =>
    ∃ ro rc, e = .returned (.tuple #[.agg #[.int .i64 2, .int .i64 2, .slice ro 4 rc], .int .i64 0]) ∧ IsPix w' (.slice ro 4 rc) [(10, 32767, 7), (10, 65535, 7), (10, 0, 7), (10, 32767, 7)] ∧ Below W.heap.size W w' := by
  refine (fill_any 2 2 v [10, 65535, 0, 7] 0 W hv).mono ?_
  rintro e w' ⟨r, rfl, hr, hb, _⟩
  rw [show fillE 2 2 [10, 65535, 0, 7] 0 = 0 by decide +kernel] at hr ⊢
  rw [show okL 0 (fillL 2 2 [10, 65535, 0, 7] 0) = [(10, 32767, 7), (10, 65535, 7), (10, 0, 7), (10, 32767, 7)] by decide +kernel] at hr
  obtain ⟨ro, rc, rfl, h1, h2⟩ := hr
  exact ⟨ro, rc, rfl, ⟨ro, rc, rfl, h1, h2⟩, hb⟩
theorem begTake (W : World) (v : Value) (hv : IsPix W v [(10, 32767, 7), (10, 65535, 7), (10, 0, 7), (10, 32767, 7)]) : Calls Try.prog 23 #[.agg #[.int .i64 2, .int .i64 2, v], .int .i64 0] W fun e w' =>
    ∃ ro rc, e = .returned (.tuple #[.agg #[.int .i64 2, .int .i64 2, .slice ro 4 rc], .int .i64 0]) ∧ IsInts w' (.slice ro 4 rc) [10, 65535, 0, 7] ∧ Below W.heap.size W w' := by
  refine (take_any 2 2 v [(10, 32767, 7), (10, 65535, 7), (10, 0, 7), (10, 32767, 7)] 0 W hv).mono ?_
  rintro e w' ⟨r, rfl, hr, hb, _⟩
  rw [show takeE 2 2 [(10, 32767, 7), (10, 65535, 7), (10, 0, 7), (10, 32767, 7)] 0 = 0 by decide +kernel] at hr ⊢
  rw [show okL 0 (takeL 2 [(10, 32767, 7), (10, 65535, 7), (10, 0, 7), (10, 32767, 7)] 0) = [10, 65535, 0, 7] by decide +kernel] at hr
  obtain ⟨ro, rc, rfl, h1, h2⟩ := hr
  exact ⟨ro, rc, rfl, ⟨ro, rc, rfl, h1, h2⟩, hb⟩
theorem smallS (w : World) : Calls Try.prog 62 #[] w fun e w' => ∃ ro rc, e = .returned (.agg #[.int .i64 2, .int .i64 2, .slice ro 4 rc]) ∧ Hid (IsInts w' (.slice ro 4 rc) [10, 65535, 0, 7]) ∧ Below w.heap.size w w' :=
  (small_any w).mono fun e w' ⟨r, h1, h2, h3⟩ => by
    obtain ⟨ro, rc, rfl, h4, h5⟩ := h2
    exact ⟨ro, rc, h1, ⟨ro, rc, rfl, h4, h5⟩, h3⟩

set_option maxRecDepth 100000 in
set_option maxHeartbeats 16000000 in
theorem mosaicBegun_any (w : World) : Calls Try.prog 28 #[] w fun e w' => e = .returned (.bool true) ∧ Below w.heap.size w w' := by
  go_enter Try.func28, Try.ntmps28
  go_wp2_with fail
  refine (smallS _).mono ?_
  rintro e w1 ⟨so, sc, rfl, HS1, hb1⟩
  go_wp2_with fail
  refine (begFill _ _ HS1.out).mono ?_
  rintro e w2 ⟨fo, fc, rfl, hf2, hb2⟩
  have HF2 := hide hf2
  have t2 := al1 w2 (Obj.cells #[.int .i64 2, .int .i64 2, .slice fo 4 fc] 39)
  have hb3 := bel_trans (bel_trans hb1 hb2) (bel_alloc w2 (Obj.cells #[.int .i64 2, .int .i64 2, .slice fo 4 fc] 39))
  have HF3 := hide (HF2.out.alloc (Obj.cells #[.int .i64 2, .int .i64 2, .slice fo 4 fc] 39))
  clear hf2
  go_wp2_with fail
  generalize w2.alloc (Obj.cells #[.int .i64 2, .int .i64 2, .slice fo 4 fc] 39) = w3 at *
  refine (begTake _ _ HF3.out).mono ?_
  rintro e w4 ⟨ro, rc, rfl, hr4, hb4⟩
  have t2b := (hb4.block w2.heap.size (Array.getElem?_eq_some_iff.1 t2).1).trans t2
  have t4 := al1 w4 (Obj.cells #[.int .i64 2, .int .i64 2, .slice ro 4 rc] 24)
  have t2c := (Below.heap_alloc w4 (Obj.cells #[.int .i64 2, .int .i64 2, .slice ro 4 rc] 24) w2.heap.size (Array.getElem?_eq_some_iff.1 t2b).1).trans t2b
  have HR := hide (hr4.alloc (Obj.cells #[.int .i64 2, .int .i64 2, .slice ro 4 rc] 24))
  have HF4 := (HF3.out.below hb4 (Nat.le_refl _)).alloc (Obj.cells #[.int .i64 2, .int .i64 2, .slice ro 4 rc] 24)
  have HBW := hide (bel_trans (bel_trans hb3 hb4) (bel_alloc w4 (Obj.cells #[.int .i64 2, .int .i64 2, .slice ro 4 rc] 24)))
  have hlt : w2.heap.size < w4.heap.size := (Array.getElem?_eq_some_iff.1 t2b).1
  obtain ⟨fo2, fc2, hfe, _, hor⟩ := HF4
  rcases hor with hor | ⟨fb, ff, rfl, hfb, hfc⟩
  · cases hor
  simp only [List.length_cons, List.length_nil, Value.slice.injEq] at hfe
  obtain ⟨rfl, _, rfl⟩ := hfe
  obtain ⟨x0, x1, x2⟩ := hfc 0 (by simp)
  simp only [Nat.zero_mul, Nat.add_zero, List.getElem_cons_zero] at x0 x1 x2
  clear hfc t2 t2b hr4
  go_wp2_with fail
  have hl2 := (Array.getElem?_eq_some_iff.1 t2c).1
  have hl4 := (Array.getElem?_eq_some_iff.1 t4).1
  generalize w4.alloc (Obj.cells #[.int .i64 2, .int .i64 2, .slice ro 4 rc] 24) = U at *
  have HS := hide (show ∀ v, Below U.heap.size U v → v.cell? ⟨w2.heap.size, 2, none⟩ = some (.slice (some ⟨fb, ff, none⟩) 4 fc) ∧ v.cell? ⟨fb, ff, none⟩ = some (.int .i64 10) ∧ v.cell? ⟨fb, ff + 1, none⟩ = some (.int .i64 32767) ∧ v.cell? ⟨fb, ff + 2, none⟩ = some (.int .i64 7) ∧ v.cell? ⟨w4.heap.size, 0, none⟩ = some (.int .i64 2) ∧ v.cell? ⟨w4.heap.size, 1, none⟩ = some (.int .i64 2) ∧ v.cell? ⟨w4.heap.size, 2, none⟩ = some (.slice ro 4 rc) from fun v h => by
    obtain ⟨_, _, y2⟩ := cells3 ((h.block _ hl2).trans t2c)
    obtain ⟨z0, z1, z2⟩ := cells3 ((h.block _ hl4).trans t4)
    exact ⟨y2, (h.cell (p := ⟨fb, ff, none⟩) hfb).trans x0, (h.cell (p := ⟨fb, ff + 1, none⟩) hfb).trans x1, (h.cell (p := ⟨fb, ff + 2, none⟩) hfb).trans x2, z0, z1, z2⟩)
  have hWd : Below U.heap.size U U.drew := (Below.refl _ _).drew
  have hSd := HS.out _ hWd
  clear x0 x1 x2 t2c t4
  have hmx : Try.prog.follows .mixedOrders = true := by kernel_rfl
  refine wp_region_last (S := fun v : World => v.cell? ⟨w2.heap.size, 2, none⟩ = some (.slice (some ⟨fb, ff, none⟩) 4 fc) ∧ v.cell? ⟨fb, ff, none⟩ = some (.int .i64 10) ∧ v.cell? ⟨fb, ff + 1, none⟩ = some (.int .i64 32767) ∧ v.cell? ⟨fb, ff + 2, none⟩ = some (.int .i64 7) ∧ v.cell? ⟨w4.heap.size, 0, none⟩ = some (.int .i64 2) ∧ v.cell? ⟨w4.heap.size, 1, none⟩ = some (.int .i64 2) ∧ v.cell? ⟨w4.heap.size, 2, none⟩ = some (.slice ro 4 rc)) (f := 25) hmx ?_
  show wpAnyF _ _ _ _ _ _ 26 _ _ U.drew
  refine wpAnyF_takeD (i := 0) (oi := _) (v := ?vv1) (some 15) rfl rfl (by kernel_rfl) (by kernel_rfl) (by kernel_rfl) (by kernel_rfl) (by kernel_rfl) (fun _ _ _ h => h) (Or.inl ⟨by rfl, ?yy1⟩) hSd ?rr1
  case yy1 => (intro wq hSq; obtain ⟨_, _, _, _, _, _, _⟩ := hSq; go_simp <;> with_reducible rfl)
  simp only [Act.put, List.setIfInBounds_toArray, List.set_cons_succ, List.set_cons_zero]
  refine wpAnyF_takeD (i := 1) (oi := _) (v := ?vv2) (some 16) rfl rfl (by kernel_rfl) (by kernel_rfl) (by kernel_rfl) (by kernel_rfl) (by kernel_rfl) (fun _ _ _ h => h) (Or.inl ⟨by rfl, ?yy2⟩) hSd ?rr2
  case yy2 => (intro wq hSq; obtain ⟨_, _, _, _, _, _, _⟩ := hSq; go_simp <;> with_reducible rfl)
  simp only [Act.put, List.setIfInBounds_toArray, List.set_cons_succ, List.set_cons_zero]
  refine wpAnyF_takeD (i := 2) (oi := _) (v := ?vv3) (some 17) rfl rfl (by kernel_rfl) (by kernel_rfl) (by kernel_rfl) (by kernel_rfl) (by kernel_rfl) (fun _ _ _ h => h) (Or.inl ⟨by rfl, ?yy3⟩) hSd ?rr3
  case yy3 => (intro wq hSq; obtain ⟨_, _, _, _, _, _, _⟩ := hSq; go_simp <;> with_reducible rfl)
  simp only [Act.put, List.setIfInBounds_toArray, List.set_cons_succ, List.set_cons_zero]
  refine wpAnyF_takeD (i := 3) (oi := _) (v := ?vv4) (some 18) rfl rfl (by kernel_rfl) (by kernel_rfl) (by kernel_rfl) (by kernel_rfl) (by kernel_rfl) (fun _ _ _ h => h) (Or.inl ⟨by rfl, ?yy4⟩) hSd ?rr4
  case yy4 => (intro wq hSq; obtain ⟨_, _, _, _, _, _, _⟩ := hSq; go_simp <;> with_reducible rfl)
  simp only [Act.put, List.setIfInBounds_toArray, List.set_cons_succ, List.set_cons_zero]
  refine wpAnyF_takeD (i := 4) (oi := _) (v := ?vv5) (some 19) rfl rfl (by kernel_rfl) (by kernel_rfl) (by kernel_rfl) (by kernel_rfl) (by kernel_rfl) (fun _ _ _ h => h) (Or.inl ⟨by rfl, ?yy5⟩) hSd ?rr5
  case yy5 => (intro wq hSq; obtain ⟨_, _, _, _, _, _, _⟩ := hSq; go_simp <;> with_reducible rfl)
  simp only [Act.put, List.setIfInBounds_toArray, List.set_cons_succ, List.set_cons_zero]
  refine wpAnyF_takeD (i := 5) (oi := _) (v := ?vv6) (some 20) rfl rfl (by kernel_rfl) (by kernel_rfl) (by kernel_rfl) (by kernel_rfl) (by kernel_rfl) (fun _ _ _ h => h) (Or.inl ⟨by rfl, ?yy6⟩) hSd ?rr6
  case yy6 => (intro wq hSq; obtain ⟨_, _, _, _, _, _, _⟩ := hSq; go_simp <;> with_reducible rfl)
  simp only [Act.put, List.setIfInBounds_toArray, List.set_cons_succ, List.set_cons_zero]
  refine wpAnyF_takeD (i := 6) (oi := _) (v := ?vv7) (some 21) rfl rfl (by kernel_rfl) (by kernel_rfl) (by kernel_rfl) (by kernel_rfl) (by kernel_rfl) (fun _ _ _ h => h) (Or.inl ⟨by rfl, ?yy7⟩) hSd ?rr7
  case yy7 => (intro wq hSq; obtain ⟨_, _, _, _, _, _, _⟩ := hSq; go_simp <;> with_reducible rfl)
  simp only [Act.put, List.setIfInBounds_toArray, List.set_cons_succ, List.set_cons_zero]
  refine wpAnyF_takeD (i := 7) (oi := _) (v := ?vv8) (some 22) rfl rfl (by kernel_rfl) (by kernel_rfl) (by kernel_rfl) (by kernel_rfl) (by kernel_rfl) (fun _ _ _ h => h) (Or.inl ⟨by rfl, ?yy8⟩) hSd ?rr8
  case yy8 => (intro wq hSq; obtain ⟨_, _, _, _, _, _, _⟩ := hSq; go_simp <;> with_reducible rfl)
  simp only [Act.put, List.setIfInBounds_toArray, List.set_cons_succ, List.set_cons_zero]
  refine wpAnyF_takeD (i := 8) (oi := _) (v := ?vv9) (some 23) rfl rfl (by kernel_rfl) (by kernel_rfl) (by kernel_rfl) (by kernel_rfl) (by kernel_rfl) (fun _ _ _ h => h) (Or.inl ⟨by rfl, ?yy9⟩) hSd ?rr9
  case yy9 => (intro wq hSq; obtain ⟨_, _, _, _, _, _, _⟩ := hSq; go_simp <;> with_reducible rfl)
  simp only [Act.put, List.setIfInBounds_toArray, List.set_cons_succ, List.set_cons_zero]
  refine wpAnyF_takeD (i := 9) (oi := _) (v := ?vv10) (some 24) rfl rfl (by kernel_rfl) (by kernel_rfl) (by kernel_rfl) (by kernel_rfl) (by kernel_rfl) (fun _ _ _ h => h) (Or.inl ⟨by rfl, ?yy10⟩) hSd ?rr10
  case yy10 => (intro wq hSq; obtain ⟨_, _, _, _, _, _, _⟩ := hSq; go_simp <;> with_reducible rfl)
  simp only [Act.put, List.setIfInBounds_toArray, List.set_cons_succ, List.set_cons_zero]
  refine wpAnyF_takeD (i := 10) (oi := _) (v := ?vv11) (some 25) rfl rfl (by kernel_rfl) (by kernel_rfl) (by kernel_rfl) (by kernel_rfl) (by kernel_rfl) (fun _ _ _ h => h) (Or.inl ⟨by rfl, ?yy11⟩) hSd ?rr11
  case yy11 => (intro wq hSq; obtain ⟨_, _, _, _, _, _, _⟩ := hSq; go_simp <;> with_reducible rfl)
  simp only [Act.put, List.setIfInBounds_toArray, List.set_cons_succ, List.set_cons_zero]
  refine wpAnyF_takeD (i := 11) (oi := _) (v := ?vv12) (some 26) rfl rfl (by kernel_rfl) (by kernel_rfl) (by kernel_rfl) (by kernel_rfl) (by kernel_rfl) (fun _ _ _ h => h) (Or.inl ⟨by rfl, ?yy12⟩) hSd ?rr12
  case yy12 => (intro wq hSq; obtain ⟨_, _, _, _, _, _, _⟩ := hSq; go_simp <;> with_reducible rfl)
  simp only [Act.put, List.setIfInBounds_toArray, List.set_cons_succ, List.set_cons_zero]
  refine wpAnyF_takeD (i := 12) (oi := _) (v := ?vv13) (some 27) rfl rfl (by kernel_rfl) (by kernel_rfl) (by kernel_rfl) (by kernel_rfl) (by kernel_rfl) (fun _ _ _ h => h) (Or.inl ⟨by rfl, ?yy13⟩) hSd ?rr13
  case yy13 => (intro wq hSq; obtain ⟨_, _, _, _, _, _, _⟩ := hSq; go_simp <;> with_reducible rfl)
  simp only [Act.put, List.setIfInBounds_toArray, List.set_cons_succ, List.set_cons_zero]
  refine wpAnyF_takeD (i := 13) (oi := _) (v := ?vv14) (some 28) rfl rfl (by kernel_rfl) (by kernel_rfl) (by kernel_rfl) (by kernel_rfl) (by kernel_rfl) (fun _ _ _ h => h) (Or.inl ⟨by rfl, ?yy14⟩) hSd ?rr14
  case yy14 => (intro wq hSq; obtain ⟨_, _, _, _, _, _, _⟩ := hSq; go_simp <;> with_reducible rfl)
  simp only [Act.put, List.setIfInBounds_toArray, List.set_cons_succ, List.set_cons_zero]
  refine wpAnyF_takeD (i := 14) (oi := _) (v := ?vv15) (some 29) rfl rfl (by kernel_rfl) (by kernel_rfl) (by kernel_rfl) (by kernel_rfl) (by kernel_rfl) (fun _ _ _ h => h) (Or.inl ⟨by rfl, ?yy15⟩) hSd ?rr15
  case yy15 => (intro wq hSq; obtain ⟨_, _, _, _, _, _, _⟩ := hSq; go_simp <;> with_reducible rfl)
  simp only [Act.put, List.setIfInBounds_toArray, List.set_cons_succ, List.set_cons_zero]
  refine wpAnyF_takeD (i := 15) (oi := _) (v := ?vv16) (some 30) rfl rfl (by kernel_rfl) (by kernel_rfl) (by kernel_rfl) (by kernel_rfl) (by kernel_rfl) (fun _ _ _ h => h) (Or.inl ⟨by rfl, ?yy16⟩) hSd ?rr16
  case yy16 => (intro wq hSq; obtain ⟨_, _, _, _, _, _, _⟩ := hSq; go_simp <;> with_reducible rfl)
  simp only [Act.put, List.setIfInBounds_toArray, List.set_cons_succ, List.set_cons_zero]
  refine wpAnyF_takeD (i := 16) (oi := _) (v := ?vv17) (some 31) rfl rfl (by kernel_rfl) (by kernel_rfl) (by kernel_rfl) (by kernel_rfl) (by kernel_rfl) (fun _ _ _ h => h) (Or.inl ⟨by rfl, ?yy17⟩) hSd ?rr17
  case yy17 => (intro wq hSq; obtain ⟨_, _, _, _, _, _, _⟩ := hSq; go_simp <;> with_reducible rfl)
  simp only [Act.put, List.setIfInBounds_toArray, List.set_cons_succ, List.set_cons_zero]
  refine wpAnyF_takeD (i := 17) (oi := _) (v := ?vv18) (some 32) rfl rfl (by kernel_rfl) (by kernel_rfl) (by kernel_rfl) (by kernel_rfl) (by kernel_rfl) (fun _ _ _ h => h) (Or.inl ⟨by rfl, ?yy18⟩) hSd ?rr18
  case yy18 => (intro wq hSq; obtain ⟨_, _, _, _, _, _, _⟩ := hSq; go_simp <;> with_reducible rfl)
  simp only [Act.put, List.setIfInBounds_toArray, List.set_cons_succ, List.set_cons_zero]
  refine wpAnyF_takeD (i := 18) (oi := _) (v := ?vv19) (some 33) rfl rfl (by kernel_rfl) (by kernel_rfl) (by kernel_rfl) (by kernel_rfl) (by kernel_rfl) (fun _ _ _ h => h) (Or.inl ⟨by rfl, ?yy19⟩) hSd ?rr19
  case yy19 => (intro wq hSq; obtain ⟨_, _, _, _, _, _, _⟩ := hSq; go_simp <;> with_reducible rfl)
  simp only [Act.put, List.setIfInBounds_toArray, List.set_cons_succ, List.set_cons_zero]
  refine wpAnyF_takeD (i := 19) (oi := _) (v := ?vv20) (some 34) rfl rfl (by kernel_rfl) (by kernel_rfl) (by kernel_rfl) (by kernel_rfl) (by kernel_rfl) (fun _ _ _ h => h) (Or.inl ⟨by rfl, ?yy20⟩) hSd ?rr20
  case yy20 => (intro wq hSq; obtain ⟨_, _, _, _, _, _, _⟩ := hSq; go_simp <;> with_reducible rfl)
  simp only [Act.put, List.setIfInBounds_toArray, List.set_cons_succ, List.set_cons_zero]
  refine wpAnyF_takeD (i := 20) (oi := _) (v := ?vv21) (some 35) rfl rfl (by kernel_rfl) (by kernel_rfl) (by kernel_rfl) (by kernel_rfl) (by kernel_rfl) (fun _ _ _ h => h) (Or.inl ⟨by rfl, ?yy21⟩) hSd ?rr21
  case yy21 => (intro wq hSq; obtain ⟨_, _, _, _, _, _, _⟩ := hSq; go_simp <;> with_reducible rfl)
  simp only [Act.put, List.setIfInBounds_toArray, List.set_cons_succ, List.set_cons_zero]
  refine wpAnyF_takeD (i := 21) (oi := _) (v := ?vv22) (some 36) rfl rfl (by kernel_rfl) (by kernel_rfl) (by kernel_rfl) (by kernel_rfl) (by kernel_rfl) (fun _ _ _ h => h) (Or.inl ⟨by rfl, ?yy22⟩) hSd ?rr22
  case yy22 => (intro wq hSq; obtain ⟨_, _, _, _, _, _, _⟩ := hSq; go_simp <;> with_reducible rfl)
  simp only [Act.put, List.setIfInBounds_toArray, List.set_cons_succ, List.set_cons_zero]
  refine wpAnyF_one (i := 22) (o := _) (by kernel_rfl) rfl (fun K' hK => ?_)
  rw [if_pos (by rfl)]
  go_simp
  refine (smallS _).mono ?_
  rintro e V1 ⟨uo, uc, rfl, HU, hbv⟩
  have hB1 : Below U.heap.size U V1 := hWd.trans (hbv.mono hWd.size)
  have hSd := HS.out _ hB1
  refine hK.out _ _ hSd ?_
  clear hK
  try simp only [Act.put]
  refine wpAnyF_one (i := 23) (o := _) (by kernel_rfl) rfl (fun K' hK => ?_)
  rw [if_pos (by rfl)]
  go_simp
  refine (samePlanes_any 2 2 2 2 _ _ [10, 65535, 0, 7] [10, 65535, 0, 7] _ (HR.out.below hB1 (Nat.le_refl _)) HU.out).mono ?_
  rintro e V2 ⟨rfl, hbv2⟩
  have hB2 : Below U.heap.size U V2 := hB1.trans (hbv2.mono hB1.size)
  rw [show decide ((2 : Int) = 2 ∧ (2 : Int) = 2 ∧ [10, 65535, 0, 7] = ([10, 65535, 0, 7] : List Int)) = true by simp]
  have hSd := HS.out _ hB2
  refine hK.out _ _ hSd ?_
  clear hK
  try simp only [Act.put]
  refine wpAnyF_takeD (i := 24) (oi := _) (v := ?vv23) (some 39) rfl rfl (by kernel_rfl) (by kernel_rfl) (by kernel_rfl) (by kernel_rfl) (by kernel_rfl) (fun _ _ _ h => h) (Or.inl ⟨by rfl, ?yy23⟩) hSd ?rr23
  case yy23 => (intro wq hSq; obtain ⟨_, _, _, _, _, _, _⟩ := hSq; go_simp <;> with_reducible rfl)
  simp only [Act.put, List.setIfInBounds_toArray, List.set_cons_succ, List.set_cons_zero]
  refine wpAnyF_last (o := _) (by kernel_rfl) rfl (fun K' hK => ?_)
  rw [if_pos (by rfl)]
  go_simp
  refine hK.out _ _ ?_
  clear hK
  refine wpAnyF_done (by kernel_rfl) ?_ _
  try simp only [Act.put]
  go_wp2
  go_ret
  exact ⟨rfl, HBW.out.trans (hB2.mono HBW.out.size)⟩

end Go.Proofs.Ytolcndchfnifhab
