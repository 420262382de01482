/- Line: part 12 of what the proofs need. -/
import Derived.Test.YtolcndchfnifhabC1Line
import Derived.Test.YtolcndchfnifhabC2Line
import Derived.Test.YtolcndchfnifhabC3Line
import Derived.Test.YtolcndchfnifhabC4Line
import Derived.Test.YtolcndchfnifhabC6Line
import Derived.Test.YtolcndchfnifhabC8Line
import Derived.Test.YtolcndchfnifhabC10Line
import Derived.Test.YtolcndchfnifhabC11Line
import Derived.Deep.CutRange
import Derived.Deep.Cut
import Derived.ProofKit
import Derived.OpenShut
import Derived.ChangeSame
import Derived.ChangeArms
import Derived.DataReads
namespace Go.Proofs.Ytolcndchfnifhab
set_option linter.unusedVariables false
open Go.RowKit
set_option maxRecDepth 100000 in
set_option maxHeartbeats 6400000 in
theorem wholeOf_any (n : Plan) (sv cv : Value) (W H : Int) (v : Value) (zs : List Int) (w : World) (hp : IsPlan w n sv cv) (hv : IsInts w v zs) (hd : DevOk n W H zs) :
    Calls Try.prog 44 #[.agg (planA n sv cv), .agg #[.int .i64 W, .int .i64 H, v]] w fun e w' => ∃ r, e = .returned (.agg #[.int .i64 W, .int .i64 H, r]) ∧ IsPix w' r (dev7 n W H zs) ∧ Below w.heap.size w w' ∧ Fresh w.heap.size r := by
  have HP := hide hp
  have HV := hide hv
  have HD := hide hd
  obtain ⟨⟨lo, lc, rfl, hll, _⟩, ⟨ko, kc, rfl, hkl, _⟩⟩ := hp
  obtain ⟨ao, ca, rfl, _, _⟩ := hv
  clear hd
  have HC1 := hide (fun (u : World) (hu : Below w.heap.size w u) => ref1 HD.out u _ (HV.out.below hu (Nat.le_refl _)))
  have HC2 := hide (fun (u : World) (hu : Below w.heap.size w u) (v : Value) hv => ref2 HD.out u v hv _ (HP.out.below hu (Nat.le_refl _)).spots)
  have HC3 := hide (fun (u : World) (v : Value) hv => ref3 HD.out u v hv)
  have HC4 := hide (fun (u : World) (v : Value) hv => ref4 HD.out u v hv)
  have HC5 := hide (fun (u : World) (v : Value) hv => ref5 HD.out u v hv)
  have HC6 := hide (fun (u : World) (hu : Below w.heap.size w u) (v : Value) hv => ref6 HD.out u v hv _ (HP.out.below hu (Nat.le_refl _)).curve)
  have HC7 := hide (fun (u : World) (v : Value) hv => ref7 HD.out u v hv)
  generalize dev1 n W zs = D1 at *
  generalize dev2 n W H zs = D2 at *
  generalize dev3 n W H zs = D3 at *
  generalize dev4 n W H zs = D4 at *
  generalize dev5 n W H zs = D5 at *
  generalize dev6 n W H zs = D6 at *
  generalize dev7 n W H zs = D7 at *
  obtain ⟨a1, a2, a3⟩ := al3 w (Obj.cells (planA n (.slice lo n.spots.length lc) (.slice ko n.curve.length kc)) 75) (Obj.cells #[.int .i64 W, .int .i64 H, .slice ao zs.length ca] 24) (Obj.cells #[.int .i64 0, .int .i64 0, .slice none 0 0] 39)
  have HB := hide (be3 w (Obj.cells (planA n (.slice lo n.spots.length lc) (.slice ko n.curve.length kc)) 75) (Obj.cells #[.int .i64 W, .int .i64 H, .slice ao zs.length ca] 24) (Obj.cells #[.int .i64 0, .int .i64 0, .slice none 0 0] 39))
  go_enter Try.func44, Try.ntmps44
  go_upto_region 1 with fail
  have hl1 := (Array.getElem?_eq_some_iff.1 a1).1
  have hl2 := (Array.getElem?_eq_some_iff.1 a2).1
  have hl3 := (Array.getElem?_eq_some_iff.1 a3).1
  generalize ((w.alloc (Obj.cells (planA n (.slice lo n.spots.length lc) (.slice ko n.curve.length kc)) 75)).alloc (Obj.cells #[.int .i64 W, .int .i64 H, .slice ao zs.length ca] 24)).alloc (Obj.cells #[.int .i64 0, .int .i64 0, .slice none 0 0] 39) = U at *
  have HS := hide (show ∀ v, Below U.heap.size U v → v.cell? ⟨w.heap.size + 1, 0, none⟩ = some (.int .i64 W) ∧ v.cell? ⟨w.heap.size + 1, 1, none⟩ = some (.int .i64 H) ∧ v.cell? ⟨w.heap.size + 1, 2, none⟩ = some (.slice ao zs.length ca) ∧ v.cell? ⟨w.heap.size, 0, none⟩ = some (.int .i64 n.phase) ∧ v.cell? ⟨w.heap.size, 1, none⟩ = some (.int .i64 (n.black 0)) ∧ v.cell? ⟨w.heap.size, 2, none⟩ = some (.int .i64 (n.black 1)) ∧ v.cell? ⟨w.heap.size, 3, none⟩ = some (.int .i64 (n.black 2)) ∧ v.cell? ⟨w.heap.size, 4, none⟩ = some (.int .i64 (n.black 3)) ∧ v.cell? ⟨w.heap.size, 5, none⟩ = some (.int .i64 n.white) ∧ v.cell? ⟨w.heap.size, 6, none⟩ = some (.slice lo n.spots.length lc) ∧ v.cell? ⟨w.heap.size, 7, none⟩ = some (.int .i64 (n.gains 0)) ∧ v.cell? ⟨w.heap.size, 8, none⟩ = some (.int .i64 (n.gains 1)) ∧ v.cell? ⟨w.heap.size, 9, none⟩ = some (.int .i64 (n.gains 2)) from fun v h => by
    obtain ⟨y0, y1, y2⟩ := cells3 ((h.block _ hl2).trans a2)
    obtain ⟨e0, e1, e2, e3, e4, e5, e6, e7, e8, e9, _, _, _, _, _, _, _, _, _, _, _⟩ := plan_cells ((h.block _ hl1).trans a1)
    exact ⟨y0, y1, y2, e0, e1, e2, e3, e4, e5, e6, e7, e8, e9⟩)
  go_cut [5] from 6 (fun q v => ∃ PX ro rc, q = .pointer (some ⟨PX, 0, none⟩) ∧ v.heap[PX]? = some (.cells #[.int .i64 W, .int .i64 H, .slice ro D3.length rc] 24 (0, 0)) ∧ IsInts v (.slice ro D3.length rc) D3 ∧ Below U.heap.size U v)
  case first =>
    have hB0 : Below U.heap.size U U.drew := (Below.refl _ _).drew
    have hSd := HS.out _ hB0
    have hmx : Try.prog.follows .mixedOrders = true := by kernel_rfl
    refine wp_region_last (S := fun v : World => v.cell? ⟨w.heap.size + 1, 0, none⟩ = some (.int .i64 W) ∧ v.cell? ⟨w.heap.size + 1, 1, none⟩ = some (.int .i64 H) ∧ v.cell? ⟨w.heap.size + 1, 2, none⟩ = some (.slice ao zs.length ca) ∧ v.cell? ⟨w.heap.size, 0, none⟩ = some (.int .i64 n.phase) ∧ v.cell? ⟨w.heap.size, 1, none⟩ = some (.int .i64 (n.black 0)) ∧ v.cell? ⟨w.heap.size, 2, none⟩ = some (.int .i64 (n.black 1)) ∧ v.cell? ⟨w.heap.size, 3, none⟩ = some (.int .i64 (n.black 2)) ∧ v.cell? ⟨w.heap.size, 4, none⟩ = some (.int .i64 (n.black 3)) ∧ v.cell? ⟨w.heap.size, 5, none⟩ = some (.int .i64 n.white) ∧ v.cell? ⟨w.heap.size, 6, none⟩ = some (.slice lo n.spots.length lc) ∧ v.cell? ⟨w.heap.size, 7, none⟩ = some (.int .i64 (n.gains 0)) ∧ v.cell? ⟨w.heap.size, 8, none⟩ = some (.int .i64 (n.gains 1)) ∧ v.cell? ⟨w.heap.size, 9, none⟩ = some (.int .i64 (n.gains 2))) (f := 15) hmx ?_
    show wpAnyF _ _ _ _ _ _ 16 _ _ U.drew
    refine wpAnyF_takeD (i := 0) (oi := _) (v := ?vv1) (some 6) rfl rfl (by kernel_rfl) (by kernel_rfl) (by kernel_rfl) (by kernel_rfl) (by kernel_rfl) (fun _ _ _ h => h) (Or.inl ⟨by rfl, ?yy1⟩) hSd ?rr1
    case yy1 => (intro wq hSq; obtain ⟨_, _, _, _, _, _, _, _, _, _, _, _, _⟩ := hSq; go_simp <;> with_reducible rfl)
    simp only [Act.put, List.setIfInBounds_toArray, List.set_cons_succ, List.set_cons_zero]
    refine wpAnyF_takeD (i := 1) (oi := _) (v := ?vv2) (some 7) rfl rfl (by kernel_rfl) (by kernel_rfl) (by kernel_rfl) (by kernel_rfl) (by kernel_rfl) (fun _ _ _ h => h) (Or.inl ⟨by rfl, ?yy2⟩) hSd ?rr2
    case yy2 => (intro wq hSq; obtain ⟨_, _, _, _, _, _, _, _, _, _, _, _, _⟩ := hSq; go_simp <;> with_reducible rfl)
    simp only [Act.put, List.setIfInBounds_toArray, List.set_cons_succ, List.set_cons_zero]
    refine wpAnyF_takeD (i := 3) (oi := _) (v := ?vv3) (some 9) rfl rfl (by kernel_rfl) (by kernel_rfl) (by kernel_rfl) (by kernel_rfl) (by kernel_rfl) (fun _ _ _ h => h) (Or.inl ⟨by rfl, ?yy3⟩) hSd ?rr3
    case yy3 => (intro wq hSq; obtain ⟨_, _, _, _, _, _, _, _, _, _, _, _, _⟩ := hSq; go_simp <;> with_reducible rfl)
    simp only [Act.put, List.setIfInBounds_toArray, List.set_cons_succ, List.set_cons_zero]
    refine wpAnyF_takeD (i := 6) (oi := _) (v := ?vv4) (some 12) rfl rfl (by kernel_rfl) (by kernel_rfl) (by kernel_rfl) (by kernel_rfl) (by kernel_rfl) (fun _ _ _ h => h) (Or.inl ⟨by rfl, ?yy4⟩) hSd ?rr4
    case yy4 => (intro wq hSq; obtain ⟨_, _, _, _, _, _, _, _, _, _, _, _, _⟩ := hSq; go_simp <;> with_reducible rfl)
    simp only [Act.put, List.setIfInBounds_toArray, List.set_cons_succ, List.set_cons_zero]
    refine wpAnyF_takeD (i := 9) (oi := _) (v := ?vv5) (some 15) rfl rfl (by kernel_rfl) (by kernel_rfl) (by kernel_rfl) (by kernel_rfl) (by kernel_rfl) (fun _ _ _ h => h) (Or.inl ⟨by rfl, ?yy5⟩) hSd ?rr5
    case yy5 => (intro wq hSq; obtain ⟨_, _, _, _, _, _, _, _, _, _, _, _, _⟩ := hSq; go_simp <;> with_reducible rfl)
    simp only [Act.put, List.setIfInBounds_toArray, List.set_cons_succ, List.set_cons_zero]
    refine wpAnyF_takeD (i := 11) (oi := _) (v := ?vv6) (some 17) rfl rfl (by kernel_rfl) (by kernel_rfl) (by kernel_rfl) (by kernel_rfl) (by kernel_rfl) (fun _ _ _ h => h) (Or.inl ⟨by rfl, ?yy6⟩) hSd ?rr6
    case yy6 => (intro wq hSq; obtain ⟨_, _, _, _, _, _, _, _, _, _, _, _, _⟩ := hSq; go_simp <;> with_reducible rfl)
    simp only [Act.put, List.setIfInBounds_toArray, List.set_cons_succ, List.set_cons_zero]
    refine wpAnyF_takeD (i := 2) (oi := _) (v := ?vv7) (some 8) rfl rfl (by kernel_rfl) (by kernel_rfl) (by kernel_rfl) (by kernel_rfl) (by kernel_rfl) (fun _ _ _ h => h) (Or.inl ⟨by rfl, ?yy7⟩) hSd ?rr7
    case yy7 => (intro wq hSq; obtain ⟨_, _, _, _, _, _, _, _, _, _, _, _, _⟩ := hSq; go_simp <;> with_reducible rfl)
    simp only [Act.put, List.setIfInBounds_toArray, List.set_cons_succ, List.set_cons_zero]
    refine wpAnyF_takeD (i := 4) (oi := _) (v := ?vv8) (some 10) rfl rfl (by kernel_rfl) (by kernel_rfl) (by kernel_rfl) (by kernel_rfl) (by kernel_rfl) (fun _ _ _ h => h) (Or.inl ⟨by rfl, ?yy8⟩) hSd ?rr8
    case yy8 => (intro wq hSq; obtain ⟨_, _, _, _, _, _, _, _, _, _, _, _, _⟩ := hSq; go_simp <;> with_reducible rfl)
    simp only [Act.put, List.setIfInBounds_toArray, List.set_cons_succ, List.set_cons_zero]
    refine wpAnyF_takeD (i := 7) (oi := _) (v := ?vv9) (some 13) rfl rfl (by kernel_rfl) (by kernel_rfl) (by kernel_rfl) (by kernel_rfl) (by kernel_rfl) (fun _ _ _ h => h) (Or.inl ⟨by rfl, ?yy9⟩) hSd ?rr9
    case yy9 => (intro wq hSq; obtain ⟨_, _, _, _, _, _, _, _, _, _, _, _, _⟩ := hSq; go_simp <;> with_reducible rfl)
    simp only [Act.put, List.setIfInBounds_toArray, List.set_cons_succ, List.set_cons_zero]
    refine wpAnyF_takeD (i := 10) (oi := _) (v := ?vv10) (some 16) rfl rfl (by kernel_rfl) (by kernel_rfl) (by kernel_rfl) (by kernel_rfl) (by kernel_rfl) (fun _ _ _ h => h) (Or.inl ⟨by rfl, ?yy10⟩) hSd ?rr10
    case yy10 => (intro wq hSq; obtain ⟨_, _, _, _, _, _, _, _, _, _, _, _, _⟩ := hSq; go_simp <;> with_reducible rfl)
    simp only [Act.put, List.setIfInBounds_toArray, List.set_cons_succ, List.set_cons_zero]
    refine wpAnyF_takeD (i := 12) (oi := _) (v := ?vv11) (some 18) rfl rfl (by kernel_rfl) (by kernel_rfl) (by kernel_rfl) (by kernel_rfl) (by kernel_rfl) (fun _ _ _ h => h) (Or.inl ⟨by rfl, ?yy11⟩) hSd ?rr11
    case yy11 => (intro wq hSq; obtain ⟨_, _, _, _, _, _, _, _, _, _, _, _, _⟩ := hSq; go_simp <;> with_reducible rfl)
    simp only [Act.put, List.setIfInBounds_toArray, List.set_cons_succ, List.set_cons_zero]
    refine wpAnyF_two (i := 5) (j := 14) (oi := _) (oj := _) (by kernel_rfl) rfl rfl (fun K' hK => ?brA0) (fun K' hK => ?brB0)
    case brA0 =>
      rw [if_pos (by rfl)]
      go_simp
      refine (HC1.out _ (HB.out.trans (hB0.mono HB.out.size))).mono ?_
      rintro e V1 ⟨r1, rfl, hr1, hbd, hfr⟩
      have hBV1 : Below U.heap.size U V1 := hB0.trans (hbd.mono hB0.size)
      have hSd := HS.out _ hBV1
      refine hK.out _ _ hSd ?_
      clear hK
      try simp only [Act.put]
      refine wpAnyF_two (i := 8) (j := 14) (oi := _) (oj := _) (by kernel_rfl) rfl rfl (fun K' hK => ?brA1) (fun K' hK => ?brB1)
      case brA1 =>
        rw [if_pos (by rfl)]
        go_simp
        refine (HC2.out _ (HB.out.trans (hBV1.mono HB.out.size)) _ hr1).mono ?_
        rintro e V2 ⟨r2, rfl, hr2, hbd, hfr⟩
        have hBV2 : Below U.heap.size U V2 := hBV1.trans (hbd.mono hBV1.size)
        have hSd := HS.out _ hBV2
        refine hK.out _ _ hSd ?_
        clear hK
        try simp only [Act.put]
        refine wpAnyF_two (i := 13) (j := 14) (oi := _) (oj := _) (by kernel_rfl) rfl rfl (fun K' hK => ?brA2) (fun K' hK => ?brB2)
        case brA2 =>
          rw [if_pos (by rfl)]
          go_simp
          refine (HC3.out _ _ hr2).mono ?_
          rintro e V3 ⟨r3, rfl, hr3, hbd, hfr⟩
          have hBV3 : Below U.heap.size U V3 := hBV2.trans (hbd.mono hBV2.size)
          have hSd := HS.out _ hBV3
          refine hK.out _ _ hSd ?_
          clear hK
          try simp only [Act.put]
          have HR := hide hr3
          obtain ⟨ro, rc, rfl, x1, x2⟩ := hr3
          clear x1 x2
          refine wpAnyF_one (i := 14) (o := _) (by kernel_rfl) rfl (fun K' hK => ?_)
          rw [if_pos (by rfl)]
          go_simp
          have hBz : Below U.heap.size U (V3.alloc (Obj.cells #[.int .i64 0, .int .i64 0, .slice none 0 0] 24)) := hBV3.alloc hBV3.size _
          have hSd := HS.out _ hBz
          refine hK.out _ _ hSd ?_
          clear hK
          try simp only [Act.put]
          refine wpAnyF_last (o := _) (by kernel_rfl) rfl (fun K' hK => ?_)
          rw [if_pos (by rfl)]
          go_simp
          refine hK.out _ _ ?_
          clear hK
          refine wpAnyF_done (by kernel_rfl) ?_ _
          try simp only [Act.put]
          clear hSd
          go_wp2
          go_meet
          case rel => exact ⟨V3.heap.size, ro, rc, rfl, al1 V3 _, HR.out.below (bel_alloc _ _) (Nat.le_refl _), hBV3.alloc hBV3.size _⟩
        case brB2 =>
          rw [if_pos (by rfl)]
          go_simp
          have hBz : Below U.heap.size U (V2.alloc (Obj.cells #[.int .i64 0, .int .i64 0, .slice none 0 0] 24)) := hBV2.alloc hBV2.size _
          have hSd := HS.out _ hBz
          refine hK.out _ _ hSd ?_
          clear hK
          try simp only [Act.put]
          have gz0 : (V2.alloc (Obj.cells #[.int .i64 0, .int .i64 0, .slice none 0 0] 24)).heap[V2.heap.size]? = _ := al1 V2 (Obj.cells #[.int .i64 0, .int .i64 0, .slice none 0 0] 24)
          have hlz := (Array.getElem?_eq_some_iff.1 gz0).1
          have hr2 := hr2.below (bel_alloc V2 (Obj.cells #[.int .i64 0, .int .i64 0, .slice none 0 0] 24)) (Nat.le_refl _)
          have hq : U.heap.size ≤ V2.heap.size := hBV2.size
          generalize V2.alloc (Obj.cells #[.int .i64 0, .int .i64 0, .slice none 0 0] 24) = Vz at *
          generalize V2.heap.size = PX at *
          refine wpAnyF_one (i := 13) (o := _) (by kernel_rfl) rfl (fun K' hK => ?_)
          rw [if_pos (by rfl)]
          go_simp
          refine (HC3.out _ _ hr2).mono ?_
          rintro e V3 ⟨r3, rfl, hr3, hbd, hfr⟩
          have hBV3 : Below U.heap.size U V3 := hBz.trans (hbd.mono hBz.size)
          have hSd := HS.out _ hBV3
          refine hK.out _ _ hSd ?_
          clear hK
          try simp only [Act.put]
          replace gz0 := (hbd.block PX hlz).trans gz0
          have hlz0 := hlz
          replace hlz := (Array.getElem?_eq_some_iff.1 gz0).1
          have HR := hide hr3
          obtain ⟨ro, rc, rfl, x1, x2⟩ := hr3
          clear x1 x2
          obtain ⟨z0, z1, z2⟩ := cells3 gz0
          have f0 := Lib.frozen_of_heap gz0 0
          have f1 := Lib.frozen_of_heap gz0 1
          have f2 := Lib.frozen_of_heap gz0 2
          obtain ⟨vS, _, _, _⟩ := box3_set gz0 (.int .i64 W) (.int .i64 H) (.slice ro D3.length rc) w (Nat.le_trans HB.out.size hq) (HB.out.trans (hBV3.mono HB.out.size))
          have hB4 := set3_below hBV3 hq (.int .i64 W) (.int .i64 H) (.slice ro D3.length rc)
          have HX := hide (HR.out.set3 hfr hlz0 (.int .i64 W) (.int .i64 H) (.slice ro D3.length rc))
          refine wpAnyF_last (o := _) (by kernel_rfl) rfl (fun K' hK => ?_)
          rw [if_pos (by rfl)]
          go_simp
          refine hK.out _ _ ?_
          clear hK
          refine wpAnyF_done (by kernel_rfl) ?_ _
          try simp only [Act.put]
          clear hSd
          go_wp2
          go_meet
          case rel => exact ⟨PX, ro, rc, rfl, vS, HX.out, hB4⟩
      case brB1 =>
        rw [if_pos (by rfl)]
        go_simp
        have hBz : Below U.heap.size U (V1.alloc (Obj.cells #[.int .i64 0, .int .i64 0, .slice none 0 0] 24)) := hBV1.alloc hBV1.size _
        have hSd := HS.out _ hBz
        refine hK.out _ _ hSd ?_
        clear hK
        try simp only [Act.put]
        have gz0 : (V1.alloc (Obj.cells #[.int .i64 0, .int .i64 0, .slice none 0 0] 24)).heap[V1.heap.size]? = _ := al1 V1 (Obj.cells #[.int .i64 0, .int .i64 0, .slice none 0 0] 24)
        have hlz := (Array.getElem?_eq_some_iff.1 gz0).1
        have hr1 := hr1.below (bel_alloc V1 (Obj.cells #[.int .i64 0, .int .i64 0, .slice none 0 0] 24)) (Nat.le_refl _)
        have hq : U.heap.size ≤ V1.heap.size := hBV1.size
        generalize V1.alloc (Obj.cells #[.int .i64 0, .int .i64 0, .slice none 0 0] 24) = Vz at *
        generalize V1.heap.size = PX at *
        refine wpAnyF_one (i := 8) (o := _) (by kernel_rfl) rfl (fun K' hK => ?_)
        rw [if_pos (by rfl)]
        go_simp
        refine (HC2.out _ (HB.out.trans (hBz.mono HB.out.size)) _ hr1).mono ?_
        rintro e V2 ⟨r2, rfl, hr2, hbd, hfr⟩
        have hBV2 : Below U.heap.size U V2 := hBz.trans (hbd.mono hBz.size)
        have hSd := HS.out _ hBV2
        refine hK.out _ _ hSd ?_
        clear hK
        try simp only [Act.put]
        replace gz0 := (hbd.block PX hlz).trans gz0
        have hlz0 := hlz
        replace hlz := (Array.getElem?_eq_some_iff.1 gz0).1
        refine wpAnyF_one (i := 13) (o := _) (by kernel_rfl) rfl (fun K' hK => ?_)
        rw [if_pos (by rfl)]
        go_simp
        refine (HC3.out _ _ hr2).mono ?_
        rintro e V3 ⟨r3, rfl, hr3, hbd, hfr⟩
        have hBV3 : Below U.heap.size U V3 := hBV2.trans (hbd.mono hBV2.size)
        have hSd := HS.out _ hBV3
        refine hK.out _ _ hSd ?_
        clear hK
        try simp only [Act.put]
        replace gz0 := (hbd.block PX hlz).trans gz0
        have hlz0 := hlz
        replace hlz := (Array.getElem?_eq_some_iff.1 gz0).1
        have HR := hide hr3
        obtain ⟨ro, rc, rfl, x1, x2⟩ := hr3
        clear x1 x2
        obtain ⟨z0, z1, z2⟩ := cells3 gz0
        have f0 := Lib.frozen_of_heap gz0 0
        have f1 := Lib.frozen_of_heap gz0 1
        have f2 := Lib.frozen_of_heap gz0 2
        obtain ⟨vS, _, _, _⟩ := box3_set gz0 (.int .i64 W) (.int .i64 H) (.slice ro D3.length rc) w (Nat.le_trans HB.out.size hq) (HB.out.trans (hBV3.mono HB.out.size))
        have hB4 := set3_below hBV3 hq (.int .i64 W) (.int .i64 H) (.slice ro D3.length rc)
        have HX := hide (HR.out.set3 hfr hlz0 (.int .i64 W) (.int .i64 H) (.slice ro D3.length rc))
        refine wpAnyF_last (o := _) (by kernel_rfl) rfl (fun K' hK => ?_)
        rw [if_pos (by rfl)]
        go_simp
        refine hK.out _ _ ?_
        clear hK
        refine wpAnyF_done (by kernel_rfl) ?_ _
        try simp only [Act.put]
        clear hSd
        go_wp2
        go_meet
        case rel => exact ⟨PX, ro, rc, rfl, vS, HX.out, hB4⟩
    case brB0 =>
      rw [if_pos (by rfl)]
      go_simp
      have hBz : Below U.heap.size U (U.alloc (Obj.cells #[.int .i64 0, .int .i64 0, .slice none 0 0] 24)).drew := ((Below.refl _ _).alloc (Nat.le_refl _) _).drew
      have hSd := HS.out _ hBz
      refine hK.out _ _ hSd ?_
      clear hK
      try simp only [Act.put]
      have gz0 : ((U.alloc (Obj.cells #[.int .i64 0, .int .i64 0, .slice none 0 0] 24)).drew).heap[U.heap.size]? = _ := al1 U (Obj.cells #[.int .i64 0, .int .i64 0, .slice none 0 0] 24)
      have hlz := (Array.getElem?_eq_some_iff.1 gz0).1
      have hq : U.heap.size ≤ U.heap.size := Nat.le_refl _
      generalize (U.alloc (Obj.cells #[.int .i64 0, .int .i64 0, .slice none 0 0] 24)).drew = Vz at *
      obtain ⟨PX, hPX⟩ : ∃ PX, U.heap.size = PX := ⟨_, rfl⟩
      have hq : U.heap.size ≤ PX := by omega
      rw [hPX] at gz0 hlz ⊢
      clear hPX
      refine wpAnyF_one (i := 5) (o := _) (by kernel_rfl) rfl (fun K' hK => ?_)
      rw [if_pos (by rfl)]
      go_simp
      refine (HC1.out _ (HB.out.trans (hBz.mono HB.out.size))).mono ?_
      rintro e V1 ⟨r1, rfl, hr1, hbd, hfr⟩
      have hBV1 : Below U.heap.size U V1 := hBz.trans (hbd.mono hBz.size)
      have hSd := HS.out _ hBV1
      refine hK.out _ _ hSd ?_
      clear hK
      try simp only [Act.put]
      replace gz0 := (hbd.block PX hlz).trans gz0
      have hlz0 := hlz
      replace hlz := (Array.getElem?_eq_some_iff.1 gz0).1
      refine wpAnyF_one (i := 8) (o := _) (by kernel_rfl) rfl (fun K' hK => ?_)
      rw [if_pos (by rfl)]
      go_simp
      refine (HC2.out _ (HB.out.trans (hBV1.mono HB.out.size)) _ hr1).mono ?_
      rintro e V2 ⟨r2, rfl, hr2, hbd, hfr⟩
      have hBV2 : Below U.heap.size U V2 := hBV1.trans (hbd.mono hBV1.size)
      have hSd := HS.out _ hBV2
      refine hK.out _ _ hSd ?_
      clear hK
      try simp only [Act.put]
      replace gz0 := (hbd.block PX hlz).trans gz0
      have hlz0 := hlz
      replace hlz := (Array.getElem?_eq_some_iff.1 gz0).1
      refine wpAnyF_one (i := 13) (o := _) (by kernel_rfl) rfl (fun K' hK => ?_)
      rw [if_pos (by rfl)]
      go_simp
      refine (HC3.out _ _ hr2).mono ?_
      rintro e V3 ⟨r3, rfl, hr3, hbd, hfr⟩
      have hBV3 : Below U.heap.size U V3 := hBV2.trans (hbd.mono hBV2.size)
      have hSd := HS.out _ hBV3
      refine hK.out _ _ hSd ?_
      clear hK
      try simp only [Act.put]
      replace gz0 := (hbd.block PX hlz).trans gz0
      have hlz0 := hlz
      replace hlz := (Array.getElem?_eq_some_iff.1 gz0).1
      have HR := hide hr3
      obtain ⟨ro, rc, rfl, x1, x2⟩ := hr3
      clear x1 x2
      obtain ⟨z0, z1, z2⟩ := cells3 gz0
      have f0 := Lib.frozen_of_heap gz0 0
      have f1 := Lib.frozen_of_heap gz0 1
      have f2 := Lib.frozen_of_heap gz0 2
      obtain ⟨vS, _, _, _⟩ := box3_set gz0 (.int .i64 W) (.int .i64 H) (.slice ro D3.length rc) w (Nat.le_trans HB.out.size hq) (HB.out.trans (hBV3.mono HB.out.size))
      have hB4 := set3_below hBV3 hq (.int .i64 W) (.int .i64 H) (.slice ro D3.length rc)
      have HX := hide (HR.out.set3 hfr hlz0 (.int .i64 W) (.int .i64 H) (.slice ro D3.length rc))
      refine wpAnyF_last (o := _) (by kernel_rfl) rfl (fun K' hK => ?_)
      rw [if_pos (by rfl)]
      go_simp
      refine hK.out _ _ ?_
      clear hK
      refine wpAnyF_done (by kernel_rfl) ?_ _
      try simp only [Act.put]
      clear hSd
      go_wp2
      go_meet
      case rel => exact ⟨PX, ro, rc, rfl, vS, HX.out, hB4⟩
  case rest =>
    obtain ⟨PX, ro, rc, rfl, vS, hpx, vB⟩ := hcut
    have hlP := (Array.getElem?_eq_some_iff.1 vS).1
    have hsU := vB.size
    have HS2 := hide (show ∀ v, Below wc.heap.size wc v → v.cell? ⟨PX, 0, none⟩ = some (.int .i64 W) ∧ v.cell? ⟨PX, 1, none⟩ = some (.int .i64 H) ∧ v.cell? ⟨PX, 2, none⟩ = some (.slice ro D3.length rc) ∧ v.cell? ⟨w.heap.size, 0, none⟩ = some (.int .i64 n.phase) ∧ v.cell? ⟨w.heap.size, 10, none⟩ = some (.int .i64 (n.matrix 0)) ∧ v.cell? ⟨w.heap.size, 11, none⟩ = some (.int .i64 (n.matrix 1)) ∧ v.cell? ⟨w.heap.size, 12, none⟩ = some (.int .i64 (n.matrix 2)) ∧ v.cell? ⟨w.heap.size, 13, none⟩ = some (.int .i64 (n.matrix 3)) ∧ v.cell? ⟨w.heap.size, 14, none⟩ = some (.int .i64 (n.matrix 4)) ∧ v.cell? ⟨w.heap.size, 15, none⟩ = some (.int .i64 (n.matrix 5)) ∧ v.cell? ⟨w.heap.size, 16, none⟩ = some (.int .i64 (n.matrix 6)) ∧ v.cell? ⟨w.heap.size, 17, none⟩ = some (.int .i64 (n.matrix 7)) ∧ v.cell? ⟨w.heap.size, 18, none⟩ = some (.int .i64 (n.matrix 8)) ∧ v.cell? ⟨w.heap.size, 19, none⟩ = some (.slice ko n.curve.length kc) ∧ v.cell? ⟨w.heap.size, 20, none⟩ = some (.int .i64 n.amount) from fun v h => by
      obtain ⟨y0, y1, y2⟩ := cells3 ((h.block _ hlP).trans vS)
      obtain ⟨e0, _, _, _, _, _, _, _, _, _, e10, e11, e12, e13, e14, e15, e16, e17, e18, e19, e20⟩ := plan_cells (((bel_trans vB h).block _ hl1).trans a1)
      exact ⟨y0, y1, y2, e0, e10, e11, e12, e13, e14, e15, e16, e17, e18, e19, e20⟩)
    go_upto_region 2 with fail
    have hB0 : Below wc.heap.size wc wc.drew := (Below.refl _ _).drew
    have hSd := HS2.out _ hB0
    have hmx : Try.prog.follows .mixedOrders = true := by kernel_rfl
    refine wp_region_last (S := fun v : World => v.cell? ⟨PX, 0, none⟩ = some (.int .i64 W) ∧ v.cell? ⟨PX, 1, none⟩ = some (.int .i64 H) ∧ v.cell? ⟨PX, 2, none⟩ = some (.slice ro D3.length rc) ∧ v.cell? ⟨w.heap.size, 0, none⟩ = some (.int .i64 n.phase) ∧ v.cell? ⟨w.heap.size, 10, none⟩ = some (.int .i64 (n.matrix 0)) ∧ v.cell? ⟨w.heap.size, 11, none⟩ = some (.int .i64 (n.matrix 1)) ∧ v.cell? ⟨w.heap.size, 12, none⟩ = some (.int .i64 (n.matrix 2)) ∧ v.cell? ⟨w.heap.size, 13, none⟩ = some (.int .i64 (n.matrix 3)) ∧ v.cell? ⟨w.heap.size, 14, none⟩ = some (.int .i64 (n.matrix 4)) ∧ v.cell? ⟨w.heap.size, 15, none⟩ = some (.int .i64 (n.matrix 5)) ∧ v.cell? ⟨w.heap.size, 16, none⟩ = some (.int .i64 (n.matrix 6)) ∧ v.cell? ⟨w.heap.size, 17, none⟩ = some (.int .i64 (n.matrix 7)) ∧ v.cell? ⟨w.heap.size, 18, none⟩ = some (.int .i64 (n.matrix 8)) ∧ v.cell? ⟨w.heap.size, 19, none⟩ = some (.slice ko n.curve.length kc) ∧ v.cell? ⟨w.heap.size, 20, none⟩ = some (.int .i64 n.amount)) (f := 13) hmx ?_
    show wpAnyF _ _ _ _ _ _ 14 _ _ wc.drew
    refine wpAnyF_takeD (i := 0) (oi := _) (v := ?vv12) (some 20) rfl rfl (by kernel_rfl) (by kernel_rfl) (by kernel_rfl) (by kernel_rfl) (by kernel_rfl) (fun _ _ _ h => h) (Or.inl ⟨by rfl, ?yy12⟩) hSd ?rr12
    case yy12 => (intro wq hSq; obtain ⟨_, _, _, _, _, _, _, _, _, _, _, _, _, _, _⟩ := hSq; go_simp <;> with_reducible rfl)
    simp only [Act.put, List.setIfInBounds_toArray, List.set_cons_succ, List.set_cons_zero]
    refine wpAnyF_takeD (i := 1) (oi := _) (v := ?vv13) (some 21) rfl rfl (by kernel_rfl) (by kernel_rfl) (by kernel_rfl) (by kernel_rfl) (by kernel_rfl) (fun _ _ _ h => h) (Or.inl ⟨by rfl, ?yy13⟩) hSd ?rr13
    case yy13 => (intro wq hSq; obtain ⟨_, _, _, _, _, _, _, _, _, _, _, _, _, _, _⟩ := hSq; go_simp <;> with_reducible rfl)
    simp only [Act.put, List.setIfInBounds_toArray, List.set_cons_succ, List.set_cons_zero]
    refine wpAnyF_takeD (i := 4) (oi := _) (v := ?vv14) (some 24) rfl rfl (by kernel_rfl) (by kernel_rfl) (by kernel_rfl) (by kernel_rfl) (by kernel_rfl) (fun _ _ _ h => h) (Or.inl ⟨by rfl, ?yy14⟩) hSd ?rr14
    case yy14 => (intro wq hSq; obtain ⟨_, _, _, _, _, _, _, _, _, _, _, _, _, _, _⟩ := hSq; go_simp <;> with_reducible rfl)
    simp only [Act.put, List.setIfInBounds_toArray, List.set_cons_succ, List.set_cons_zero]
    refine wpAnyF_takeD (i := 7) (oi := _) (v := ?vv15) (some 27) rfl rfl (by kernel_rfl) (by kernel_rfl) (by kernel_rfl) (by kernel_rfl) (by kernel_rfl) (fun _ _ _ h => h) (Or.inl ⟨by rfl, ?yy15⟩) hSd ?rr15
    case yy15 => (intro wq hSq; obtain ⟨_, _, _, _, _, _, _, _, _, _, _, _, _, _, _⟩ := hSq; go_simp <;> with_reducible rfl)
    simp only [Act.put, List.setIfInBounds_toArray, List.set_cons_succ, List.set_cons_zero]
    refine wpAnyF_takeD (i := 10) (oi := _) (v := ?vv16) (some 30) rfl rfl (by kernel_rfl) (by kernel_rfl) (by kernel_rfl) (by kernel_rfl) (by kernel_rfl) (fun _ _ _ h => h) (Or.inl ⟨by rfl, ?yy16⟩) hSd ?rr16
    case yy16 => (intro wq hSq; obtain ⟨_, _, _, _, _, _, _, _, _, _, _, _, _, _, _⟩ := hSq; go_simp <;> with_reducible rfl)
    simp only [Act.put, List.setIfInBounds_toArray, List.set_cons_succ, List.set_cons_zero]
    refine wpAnyF_takeD (i := 2) (oi := _) (v := ?vv17) (some 22) rfl rfl (by kernel_rfl) (by kernel_rfl) (by kernel_rfl) (by kernel_rfl) (by kernel_rfl) (fun _ _ _ h => h) (Or.inl ⟨by rfl, ?yy17⟩) hSd ?rr17
    case yy17 => (intro wq hSq; obtain ⟨_, _, _, _, _, _, _, _, _, _, _, _, _, _, _⟩ := hSq; go_simp <;> with_reducible rfl)
    simp only [Act.put, List.setIfInBounds_toArray, List.set_cons_succ, List.set_cons_zero]
    refine wpAnyF_takeD (i := 5) (oi := _) (v := ?vv18) (some 25) rfl rfl (by kernel_rfl) (by kernel_rfl) (by kernel_rfl) (by kernel_rfl) (by kernel_rfl) (fun _ _ _ h => h) (Or.inl ⟨by rfl, ?yy18⟩) hSd ?rr18
    case yy18 => (intro wq hSq; obtain ⟨_, _, _, _, _, _, _, _, _, _, _, _, _, _, _⟩ := hSq; go_simp <;> with_reducible rfl)
    simp only [Act.put, List.setIfInBounds_toArray, List.set_cons_succ, List.set_cons_zero]
    refine wpAnyF_takeD (i := 8) (oi := _) (v := ?vv19) (some 28) rfl rfl (by kernel_rfl) (by kernel_rfl) (by kernel_rfl) (by kernel_rfl) (by kernel_rfl) (fun _ _ _ h => h) (Or.inl ⟨by rfl, ?yy19⟩) hSd ?rr19
    case yy19 => (intro wq hSq; obtain ⟨_, _, _, _, _, _, _, _, _, _, _, _, _, _, _⟩ := hSq; go_simp <;> with_reducible rfl)
    simp only [Act.put, List.setIfInBounds_toArray, List.set_cons_succ, List.set_cons_zero]
    refine wpAnyF_takeD (i := 11) (oi := _) (v := ?vv20) (some 31) rfl rfl (by kernel_rfl) (by kernel_rfl) (by kernel_rfl) (by kernel_rfl) (by kernel_rfl) (fun _ _ _ h => h) (Or.inl ⟨by rfl, ?yy20⟩) hSd ?rr20
    case yy20 => (intro wq hSq; obtain ⟨_, _, _, _, _, _, _, _, _, _, _, _, _, _, _⟩ := hSq; go_simp <;> with_reducible rfl)
    simp only [Act.put, List.setIfInBounds_toArray, List.set_cons_succ, List.set_cons_zero]
    refine wpAnyF_one (i := 3) (o := _) (by kernel_rfl) rfl (fun K' hK => ?_)
    rw [if_pos (by rfl)]
    go_simp
    refine (HC4.out _ _ (hpx.below hB0 (Nat.le_refl _))).mono ?_
    rintro e V4 ⟨r4, rfl, hr4, hbd, hfr⟩
    have hB4 : Below wc.heap.size wc V4 := hB0.trans (hbd.mono hB0.size)
    have hSd := HS2.out _ hB4
    refine hK.out _ _ hSd ?_
    clear hK
    try simp only [Act.put]
    refine wpAnyF_one (i := 6) (o := _) (by kernel_rfl) rfl (fun K' hK => ?_)
    rw [if_pos (by rfl)]
    go_simp
    refine (HC5.out _ _ hr4).mono ?_
    rintro e V5 ⟨r5, rfl, hr5, hbd, hfr⟩
    have hB5 : Below wc.heap.size wc V5 := hB4.trans (hbd.mono hB4.size)
    have hSd := HS2.out _ hB5
    refine hK.out _ _ hSd ?_
    clear hK
    try simp only [Act.put]
    refine wpAnyF_one (i := 9) (o := _) (by kernel_rfl) rfl (fun K' hK => ?_)
    rw [if_pos (by rfl)]
    go_simp
    refine (HC6.out _ (HB.out.trans ((bel_trans vB hB5).mono HB.out.size)) _ hr5).mono ?_
    rintro e V6 ⟨r6, rfl, hr6, hbd, hfr⟩
    have hB6 : Below wc.heap.size wc V6 := hB5.trans (hbd.mono hB5.size)
    have hSd := HS2.out _ hB6
    refine hK.out _ _ hSd ?_
    clear hK
    try simp only [Act.put]
    refine wpAnyF_one (i := 12) (o := _) (by kernel_rfl) rfl (fun K' hK => ?_)
    rw [if_pos (by rfl)]
    go_simp
    refine (HC7.out _ _ hr6).mono ?_
    rintro e V7 ⟨r7, rfl, hr7, hbd, hfr⟩
    have hB7 : Below wc.heap.size wc V7 := hB6.trans (hbd.mono hB6.size)
    have hBU := bel_trans vB hB7
    have g3 := (hBU.block _ hl3).trans a3
    have HR := hide hr7
    have hlq : w.heap.size + 1 + 1 < V6.heap.size := Nat.lt_of_lt_of_le hl3 (Nat.le_trans vB.size hB6.size)
    obtain ⟨qo, qc, rfl, x1, x2⟩ := hr7
    clear x1 x2
    have hSd := HS2.out _ hB7
    refine hK.out _ _ hSd ?_
    clear hK
    try simp only [Act.put]
    refine wpAnyF_last (o := _) (by kernel_rfl) rfl (fun K' hK => ?_)
    obtain ⟨z0, z1, z2⟩ := cells3 (b := w.heap.size + 1 + 1) g3
    have f0 := Lib.frozen_of_heap (b := w.heap.size + 1 + 1) g3 0
    have f1 := Lib.frozen_of_heap (b := w.heap.size + 1 + 1) g3 1
    have f2 := Lib.frozen_of_heap (b := w.heap.size + 1 + 1) g3 2
    rw [if_pos (by rfl)]
    go_simp
    refine hK.out _ _ ?_
    clear hK
    refine wpAnyF_done (by kernel_rfl) ?_ _
    try simp only [Act.put]
    have HX := hide (HR.out.set3 hfr hlq (.int .i64 W) (.int .i64 H) (.slice qo D7.length qc))
    have HF := hide (set3_below (HB.out.trans (hBU.mono HB.out.size)) (show w.heap.size ≤ w.heap.size + 1 + 1 by omega) (.int .i64 W) (.int .i64 H) (.slice qo D7.length qc))
    have HFR := hide (hfr.mono (show w.heap.size ≤ V6.heap.size by omega))
    clear hSd
    go_wp2
    refine bodyPost_ret (v := .agg #[.int .i64 W, .int .i64 H, .slice qo D7.length qc]) (by simp [results, Try.results44, go_sem, z0, z1, z2]) rfl ⟨_, rfl, HX.out, HF.out, HFR.out⟩
end Go.Proofs.Ytolcndchfnifhab

namespace Go.Proofs.Ytolcndchfnifhab
set_option linter.unusedVariables false
open Go.RowKit
theorem allIn_arrL (a b : Int) (m : Nat → Int) (n : Nat) : allIn a b (arrL m n) = true ↔ ∀ k, k < n → a ≤ m k ∧ m k ≤ b := by
  constructor
  · intro h k hk; exact arrL_all h k hk
  · intro h
    refine List.all_eq_true.2 fun x hx => ?_
    obtain ⟨k, hk, rfl⟩ := List.mem_map.1 hx
    exact decide_eq_true (h k (List.mem_range.1 hk))
def firstOk (n : Plan) : Bool := phaseOk n.phase && decide (1 ≤ n.white ∧ n.white ≤ 65535) && decide ((n.spots.length : Int) ≤ 64) && spotsB 64 64 n.spots && matOk n.matrix && amountOk n.amount
theorem planE_ref (n : Plan) : planE n = if firstOk n = true ∧ allIn 0 (n.white - 1) (arrL n.black 4) = true ∧ allIn 0 65535 (arrL n.gains 3) = true then (if curveOk n.curve = true then 0 else 1) else 3 := by
  unfold planE firstOk sensOk toneOk spotOk levelsOk gainsOk
  congr 1
  simp only [Bool.and_eq_true]
  apply propext
  constructor
  · rintro ⟨⟨⟨⟨h1, h2, h3⟩, h4⟩, h5, h6⟩, h7, h8⟩
    exact ⟨⟨⟨⟨⟨⟨h1, h2⟩, h7⟩, h8⟩, h5⟩, h6⟩, h3, h4⟩
  · rintro ⟨⟨⟨⟨⟨⟨h1, h2⟩, h7⟩, h8⟩, h5⟩, h6⟩, h3, h4⟩
    exact ⟨⟨⟨⟨h1, h2, h3⟩, h4⟩, h5, h6⟩, h7, h8⟩
set_option maxRecDepth 100000 in
set_option maxHeartbeats 3200000 in
theorem checkPlan_any (n : Plan) (sv cv : Value) (w : World) (hp : IsPlan w n sv cv) :
    Calls Try.prog 47 #[.agg (planA n sv cv)] w fun e w' => e = .returned (.int .i64 (planE n)) ∧ Below w.heap.size w w' := by
  have HP := hide hp
  obtain ⟨⟨lo, lc, rfl, hll, _⟩, ⟨ko, kc, rfl, hkl, _⟩⟩ := hp
  have a1 := al1 w (Obj.cells (planA n (.slice lo n.spots.length lc) (.slice ko n.curve.length kc)) 75)
  have HB := hide (bel_alloc w (Obj.cells (planA n (.slice lo n.spots.length lc) (.slice ko n.curve.length kc)) 75))
  have HE := hide (planE_ref n)
  obtain ⟨E, hE⟩ : ∃ E, planE n = E := ⟨_, rfl⟩
  rw [hE] at HE ⊢
  clear hE
  have HFO := hide (show firstOk n = (phaseOk n.phase && decide (1 ≤ n.white ∧ n.white ≤ 65535) && decide ((n.spots.length : Int) ≤ 64) && spotsB 64 64 n.spots && matOk n.matrix && amountOk n.amount) from rfl)
  have hph : decide (0 ≤ n.phase ∧ n.phase ≤ 3) = phaseOk n.phase := rfl
  have ham : decide (0 ≤ n.amount ∧ n.amount ≤ 1024) = amountOk n.amount := rfl
  have HPH := hide hph
  have HAM := hide ham
  clear hph ham
  go_enter Try.func47, Try.ntmps47
  go_upto_region 1 with fail
  have hl1 := (Array.getElem?_eq_some_iff.1 a1).1
  generalize w.alloc (Obj.cells (planA n (.slice lo n.spots.length lc) (.slice ko n.curve.length kc)) 75) = U at *
  have HCL := hide (fun (v : World) (h : Below U.heap.size U v) => plan_cells ((h.block _ hl1).trans a1))
  go_cut [38] from 5 (fun s v => s = .bool (!firstOk n) ∧ Below U.heap.size U v)
  case first =>
    obtain ⟨c0, c1, c2, c3, c4, c5, c6, c7, c8, c9, c10, c11, c12, c13, c14, c15, c16, c17, c18, c19, c20⟩ := HCL.out U (Below.refl _ _)
    cases p1 : phaseOk n.phase
    · have HS0 := hide (show true = !firstOk n by rw [HFO.out, p1]; rfl)
      go_wp2_with (go_at_call 59; refine (within_any _ _ _ _).mono ?_; rintro e wx ⟨rfl, rfl⟩; rw [HPH.out, p1])
      go_meet
      case rel => exact ⟨by rw [HS0.out], Below.refl _ _⟩
    · cases p2 : decide (1 ≤ n.white ∧ n.white ≤ 65535)
      · have HS0 := hide (show true = !firstOk n by rw [HFO.out, p1, p2]; rfl)
        go_wp2_with (go_at_call 59; refine (within_any _ _ _ _).mono ?_; rintro e wx ⟨rfl, rfl⟩; first | rw [HPH.out, p1] | rw [p2])
        go_meet
        case rel => exact ⟨by rw [HS0.out], Below.refl _ _⟩
      · by_cases p3 : (n.spots.length : Int) ≤ 64
        · have hd : decide (64 < (n.spots.length : Int)) = false := by simp; omega
          have hd3 : decide ((n.spots.length : Int) ≤ 64) = true := by simpa using p3
          cases p4 : spotsB 64 64 n.spots
          · have HS0 := hide (show true = !firstOk n by rw [HFO.out, p1, p2, hd3, p4]; rfl)
            go_wp2_with (first | (go_at_call 59; refine (within_any _ _ _ _).mono ?_; rintro e wx ⟨rfl, rfl⟩; first | rw [HPH.out, p1] | rw [p2]) | (go_at_call 90; refine (spotsIn_any _ n.spots 64 64 (by omega) (by omega) _ (HP.out.spots.below HB.out (Nat.le_refl _))).mono ?_; rintro e wx ⟨rfl, rfl⟩; rw [p4]))
            go_meet
            case rel => exact ⟨by rw [HS0.out], Below.refl _ _⟩
          · go_wp2_with (first | (go_at_call 59; refine (within_any _ _ _ _).mono ?_; rintro e wx ⟨rfl, rfl⟩; first | rw [HPH.out, p1] | rw [p2]) | (go_at_call 90; refine (spotsIn_any _ n.spots 64 64 (by omega) (by omega) _ (HP.out.spots.below HB.out (Nat.le_refl _))).mono ?_; rintro e wx ⟨rfl, rfl⟩; rw [p4]))
            refine (mixFine_any n.matrix _).mono ?_
            rintro e V1 ⟨rfl, hb1⟩
            clear c0 c1 c2 c3 c4 c5 c6 c7 c8 c9 c10 c11 c12 c13 c14 c15 c16 c17 c18 c19 c20
            cases p5 : matOk n.matrix
            · have HS0 := hide (show true = !firstOk n by rw [HFO.out, p1, p2, hd3, p4, p5]; rfl)
              go_wp2
              go_meet
              case rel => exact ⟨by rw [HS0.out], hb1⟩
            · obtain ⟨c0, c1, c2, c3, c4, c5, c6, c7, c8, c9, c10, c11, c12, c13, c14, c15, c16, c17, c18, c19, c20⟩ := HCL.out V1 hb1
              have HS0 := hide (show (!amountOk n.amount) = !firstOk n by rw [HFO.out, p1, p2, hd3, p4, p5]; rfl)
              go_wp2_with (go_at_call 59; refine (within_any _ _ _ _).mono ?_; rintro e wx ⟨rfl, rfl⟩; rw [HAM.out])
              go_meet
              case rel => exact ⟨by rw [HS0.out], hb1⟩
        · have hd : decide (64 < (n.spots.length : Int)) = true := by simp; omega
          have hd3 : decide ((n.spots.length : Int) ≤ 64) = false := by simpa using p3
          have HS0 := hide (show true = !firstOk n by rw [HFO.out, p1, p2, hd3]; rfl)
          go_wp2_with (go_at_call 59; refine (within_any _ _ _ _).mono ?_; rintro e wx ⟨rfl, rfl⟩; first | rw [HPH.out, p1] | rw [p2])
          go_meet
          case rel => exact ⟨by rw [HS0.out], Below.refl _ _⟩
  case rest =>
    obtain ⟨rfl, hbc⟩ := hcut
    have HBC := hide (HB.out.trans (hbc.mono HB.out.size))
    cases pf : firstOk n
    · have he : E = 3 := by rw [HE.out, if_neg (fun h => by rw [pf] at h; cases h.1)]
      subst he
      go_wp2
      go_ret
      exact ⟨rfl, HBC.out⟩
    · have hwh : 1 ≤ n.white ∧ n.white ≤ 65535 := by
        rw [HFO.out] at pf
        simp only [Bool.and_eq_true, decide_eq_true_eq] at pf
        exact pf.1.1.1.1.2
      obtain ⟨hw1, hw2⟩ := hwh
      have HE2 := hide (show E = if allIn 0 (n.white - 1) (arrL n.black 4) = true ∧ allIn 0 65535 (arrL n.gains 3) = true then (if curveOk n.curve = true then 0 else 1) else 3 by rw [HE.out, pf]; simp only [true_and])
      clear pf HE HFO
      go_wp2_with fail
      go_loopw [3] (fun i wr => ∃ k : Nat, k ≤ 4 ∧ i = .int .i64 k ∧ Below U.heap.size U wr ∧ Hid (∀ j, j < k → 0 ≤ n.black j ∧ n.black j ≤ n.white - 1)) (fun i _ => 4 - (intOf i).toNat)
      case atStart => exact ⟨0, by omega, rfl, hbc, hide (fun j hj => by omega)⟩
      case round =>
        clear hbc HBC
        obtain ⟨k, hk, rfl, hbr, HA⟩ := hrel
        by_cases hlt : k < 4
        · have hd : decide ((k : Int) < 4) = true := by simp; omega
          have HCK := hide (show ∀ v, Below U.heap.size U v → v.cell? ⟨w.heap.size, 1 + k, none⟩ = some (.int .i64 (n.black k)) from fun v h => by
            rw [Lib.cell_of_heap ((h.block _ hl1).trans a1)]
            rcases (show k = 0 ∨ k = 1 ∨ k = 2 ∨ k = 3 by omega) with rfl | rfl | rfl | rfl <;> rfl)
          obtain ⟨bl, hbl⟩ : ∃ bl, n.black k = bl := ⟨_, rfl⟩
          have HBL := hide hbl
          rw [hbl] at HCK
          clear hbl
          have hkI : (k : Int) < 4 := by omega
          have hww : IntKind.i64.wrap (n.white - 1) = n.white - 1 := IntWalk.i64_in _ (by omega)
          have HS := hide (show ∀ v, Below U.heap.size U v → v.cell? ⟨w.heap.size, 1 + k, none⟩ = some (.int .i64 bl) ∧ v.cell? ⟨w.heap.size, 5, none⟩ = some (.int .i64 n.white) from fun v h => ⟨HCK.out v h, (HCL.out v h).2.2.2.2.2.1⟩)
          have hWd : Below U.heap.size U wr.drew := hbr.drew
          have hSd := HS.out _ hWd
          obtain ⟨B, hB⟩ : ∃ B, decide (0 ≤ bl ∧ bl ≤ n.white - 1) = B := ⟨_, rfl⟩
          have HBB := hide hB
          clear hB
          go_wp2_with fail
          have hmx : Try.prog.follows .mixedOrders = true := by kernel_rfl
          refine wp_region_last (S := fun v : World => v.cell? ⟨w.heap.size, 1 + k, none⟩ = some (.int .i64 bl) ∧ v.cell? ⟨w.heap.size, 5, none⟩ = some (.int .i64 n.white)) (f := 8) hmx ?_
          show wpAnyF _ _ _ _ _ _ 9 _ _ wr.drew
          refine wpAnyF_takeD (i := 0) (oi := _) (v := ?vv1) (some 43) rfl rfl (by kernel_rfl) (by kernel_rfl) (by kernel_rfl) (by kernel_rfl) (by kernel_rfl) (fun _ _ _ h => h) (Or.inl ⟨by rfl, ?yy1⟩) hSd ?rr1
          case yy1 => (intro wq hSq; obtain ⟨_, _⟩ := hSq; go_simp <;> with_reducible rfl)
          simp only [Act.put, List.setIfInBounds_toArray, List.set_cons_succ, List.set_cons_zero]
          refine wpAnyF_takeD (i := 1) (oi := _) (v := ?vv2) (some 44) rfl rfl (by kernel_rfl) (by kernel_rfl) (by kernel_rfl) (by kernel_rfl) (by kernel_rfl) (fun _ _ _ h => h) (Or.inl ⟨by rfl, ?yy2⟩) hSd ?rr2
          case yy2 => (intro wq hSq; obtain ⟨_, _⟩ := hSq; go_simp <;> with_reducible rfl)
          simp only [Act.put, List.setIfInBounds_toArray, List.set_cons_succ, List.set_cons_zero]
          refine wpAnyF_takeD (i := 4) (oi := _) (v := ?vv3) (some 47) rfl rfl (by kernel_rfl) (by kernel_rfl) (by kernel_rfl) (by kernel_rfl) (by kernel_rfl) (fun _ _ _ h => h) (Or.inl ⟨by rfl, ?yy3⟩) hSd ?rr3
          case yy3 => (intro wq hSq; obtain ⟨_, _⟩ := hSq; go_simp <;> with_reducible rfl)
          simp only [Act.put, List.setIfInBounds_toArray, List.set_cons_succ, List.set_cons_zero]
          refine wpAnyF_takeD (i := 2) (oi := _) (v := ?vv4) (some 45) rfl rfl (by kernel_rfl) (by kernel_rfl) (by kernel_rfl) (by kernel_rfl) (by kernel_rfl) (fun _ _ _ h => h) (Or.inl ⟨by rfl, ?yy4⟩) hSd ?rr4
          case yy4 => (intro wq hSq; obtain ⟨_, _⟩ := hSq; go_simp <;> with_reducible rfl)
          simp only [Act.put, List.setIfInBounds_toArray, List.set_cons_succ, List.set_cons_zero]
          refine wpAnyF_takeD (i := 5) (oi := _) (v := ?vv5) (some 48) rfl rfl (by kernel_rfl) (by kernel_rfl) (by kernel_rfl) (by kernel_rfl) (by kernel_rfl) (fun _ _ _ h => h) (Or.inl ⟨by rfl, ?yy5⟩) hSd ?rr5
          case yy5 => (intro wq hSq; obtain ⟨_, _⟩ := hSq; go_simp <;> with_reducible rfl)
          simp only [Act.put, List.setIfInBounds_toArray, List.set_cons_succ, List.set_cons_zero]
          refine wpAnyF_takeD (i := 3) (oi := _) (v := ?vv6) (some 46) rfl rfl (by kernel_rfl) (by kernel_rfl) (by kernel_rfl) (by kernel_rfl) (by kernel_rfl) (fun _ _ _ h => h) (Or.inl ⟨by rfl, ?yy6⟩) hSd ?rr6
          case yy6 => (intro wq hSq; obtain ⟨_, _⟩ := hSq; go_simp <;> with_reducible rfl)
          simp only [Act.put, List.setIfInBounds_toArray, List.set_cons_succ, List.set_cons_zero]
          refine wpAnyF_takeD (i := 6) (oi := _) (v := ?vv7) (some 49) rfl rfl (by kernel_rfl) (by kernel_rfl) (by kernel_rfl) (by kernel_rfl) (by kernel_rfl) (fun _ _ _ h => h) (Or.inl ⟨by rfl, ?yy7⟩) hSd ?rr7
          case yy7 => (intro wq hSq; obtain ⟨_, _⟩ := hSq; go_simp <;> with_reducible rfl)
          simp only [Act.put, List.setIfInBounds_toArray, List.set_cons_succ, List.set_cons_zero]
          refine wpAnyF_one (i := 7) (o := _) (by kernel_rfl) rfl (fun K' hK => ?_)
          rw [if_pos (by rfl)]
          go_simp
          refine (within_any _ _ _ _).mono ?_
          rintro e Vx ⟨rfl, rfl⟩
          rw [HBB.out]
          have hSd := hSd
          refine hK.out _ _ hSd ?_
          clear hK
          try simp only [Act.put]
          refine wpAnyF_last (o := _) (by kernel_rfl) rfl (fun K' hK => ?_)
          rw [if_pos (by rfl)]
          go_simp
          refine hK.out _ _ ?_
          clear hK
          refine wpAnyF_done (by kernel_rfl) ?_ _
          try simp only [Act.put]
          cases B
          · have he : E = 3 := by
              rw [HE2.out, if_neg]
              intro h
              have h2 := (allIn_arrL _ _ _ _).1 h.1 k hlt
              rw [HBL.out] at h2
              exact of_decide_eq_false HBB.out h2
            subst he
            go_wp2
            go_ret
            exact ⟨rfl, HB.out.trans (hWd.mono HB.out.size)⟩
          · have HN := hide (show ∀ j, j < k + 1 → 0 ≤ n.black j ∧ n.black j ≤ n.white - 1 from fun j hj => by
              rcases Nat.lt_succ_iff_lt_or_eq.1 hj with h | rfl
              · exact HA.out j h
              · rw [HBL.out]; exact of_decide_eq_true HBB.out)
            go_wp2
            go_roundw
            case rel => (repeat apply Exists.intro); exact ⟨⟨k + 1, by omega, by go_num, hWd, HN⟩, rfl⟩
            case measure => simp [intOf]; omega
        · have hd : decide ((k : Int) < 4) = false := by simp; omega
          obtain rfl : k = 4 := by omega
          have HE3 := hide (show E = if allIn 0 65535 (arrL n.gains 3) = true then (if curveOk n.curve = true then 0 else 1) else 3 by rw [HE2.out, (allIn_arrL _ _ _ _).2 HA.out]; simp only [true_and])
          clear HA HE2
          go_wp2_with fail
          go_loopw [4] (fun i wv => ∃ k : Nat, k ≤ 3 ∧ i = .int .i64 k ∧ Below U.heap.size U wv ∧ Hid (∀ j, j < k → 0 ≤ n.gains j ∧ n.gains j ≤ 65535)) (fun i _ => 3 - (intOf i).toNat)
          case atStart => exact ⟨0, by omega, rfl, hbr, hide (fun j hj => by omega)⟩
          case round =>
            clear hbr hd
            obtain ⟨k, hk, rfl, hbr, HA⟩ := hrel
            by_cases hlt : k < 3
            · have hd : decide ((k : Int) < 3) = true := by simp; omega
              have hck : wr.cell? ⟨w.heap.size, 7 + k, none⟩ = some (.int .i64 (n.gains k)) := by
                rw [Lib.cell_of_heap ((hbr.block _ hl1).trans a1)]
                rcases (show k = 0 ∨ k = 1 ∨ k = 2 by omega) with rfl | rfl | rfl <;> rfl
              obtain ⟨bl, hbl⟩ : ∃ bl, n.gains k = bl := ⟨_, rfl⟩
              have HBL := hide hbl
              rw [hbl] at hck
              clear hbl
              have hkI : (k : Int) < 3 := by omega
              cases hB : decide (0 ≤ bl ∧ bl ≤ 65535)
              · have he : E = 3 := by
                  rw [HE3.out, if_neg]
                  intro h
                  have h2 := (allIn_arrL _ _ _ _).1 h k hlt
                  rw [HBL.out] at h2
                  exact of_decide_eq_false hB h2
                subst he
                have HBF := hide (HB.out.trans (hbr.mono HB.out.size))
                go_wp2_with (go_at_call 59; refine (within_any _ _ _ _).mono ?_; rintro e wx ⟨rfl, rfl⟩; rw [hB])
                go_ret
                exact ⟨rfl, HBF.out⟩
              · have HN := hide (show ∀ j, j < k + 1 → 0 ≤ n.gains j ∧ n.gains j ≤ 65535 from fun j hj => by
                  rcases Nat.lt_succ_iff_lt_or_eq.1 hj with h | rfl
                  · exact HA.out j h
                  · rw [HBL.out]; exact of_decide_eq_true hB)
                go_wp2_with (go_at_call 59; refine (within_any _ _ _ _).mono ?_; rintro e wx ⟨rfl, rfl⟩; rw [hB])
                go_roundw
                case rel => (repeat apply Exists.intro); exact ⟨⟨k + 1, by omega, by go_num, hbr, HN⟩, rfl⟩
                case measure => simp [intOf]; omega
            · have hd : decide ((k : Int) < 3) = false := by simp; omega
              obtain rfl : k = 3 := by omega
              have HE4 := hide (show E = if curveOk n.curve = true then 0 else 1 by rw [HE3.out, (allIn_arrL _ _ _ _).2 HA.out]; simp)
              clear HA HE3
              have HBF := hide (HB.out.trans (hbr.mono HB.out.size))
              obtain ⟨c0, c1, c2, c3, c4, c5, c6, c7, c8, c9, c10, c11, c12, c13, c14, c15, c16, c17, c18, c19, c20⟩ := HCL.out _ hbr
              go_wp2_with fail
              clear c0 c1 c2 c3 c4 c5 c6 c7 c8 c9 c10 c11 c12 c13 c14 c15 c16 c17 c18 c19 c20
              refine (curveFine_any _ n.curve _ (HP.out.curve.below HBF.out (Nat.le_refl _))).mono ?_
              rintro e V2 ⟨rfl, hb2⟩
              cases hcv : curveOk n.curve
              · have he : E = 1 := by rw [HE4.out, hcv]; rfl
                subst he
                go_wp2
                go_ret
                exact ⟨rfl, bel_trans HBF.out hb2⟩
              · have he : E = 0 := by rw [HE4.out, hcv]; rfl
                subst he
                go_wp2
                go_ret
                exact ⟨rfl, bel_trans HBF.out hb2⟩
set_option maxRecDepth 100000 in
set_option maxHeartbeats 1600000 in
theorem wholeError_any (n : Plan) (sv cv : Value) (W H : Int) (v : Value) (zs : List Int) (w : World) (hp : IsPlan w n sv cv) (hv : IsInts w v zs) :
    Calls Try.prog 43 #[.agg (planA n sv cv), .agg #[.int .i64 W, .int .i64 H, v]] w fun e w' => e = .returned (.int .i64 (fitsE n W H zs H)) ∧ Below w.heap.size w w' := by
  have HP := hide hp
  have HV := hide hv
  obtain ⟨⟨lo, lc, rfl, hll, _⟩, ⟨ko, kc, rfl, hkl, _⟩⟩ := hp
  obtain ⟨ao, ca, rfl, _, _⟩ := hv
  obtain ⟨a1, a2⟩ := al2 w (Obj.cells (planA n (.slice lo n.spots.length lc) (.slice ko n.curve.length kc)) 75) (Obj.cells #[.int .i64 W, .int .i64 H, .slice ao zs.length ca] 24)
  have HB := hide (be2 w (Obj.cells (planA n (.slice lo n.spots.length lc) (.slice ko n.curve.length kc)) 75) (Obj.cells #[.int .i64 W, .int .i64 H, .slice ao zs.length ca] 24))
  have HF := hide (show fitsE n W H zs H = if planE n = 0 then (if planeOk W H zs = true then (if spotsB W H n.spots = true then 0 else 3) else 1) else planE n from rfl)
  obtain ⟨E, hE⟩ : ∃ E, fitsE n W H zs H = E := ⟨_, rfl⟩
  rw [hE] at HF ⊢
  clear hE
  have HCK := hide (fun (u : World) (hu : Below w.heap.size w u) => checkPlan_any n _ _ u (HP.out.below hu (Nat.le_refl _)))
  obtain ⟨F, hF⟩ : ∃ F, planE n = F := ⟨_, rfl⟩
  rw [hF] at HF HCK
  clear hF
  go_enter Try.func43, Try.ntmps43
  go_wp2_with (refine wpList_load_row rfl 75 _ rfl _ rfl _ _ _ _ a1 Try.underlying75 rfl (by kernel_rfl) ?_)
  have hl1 := (Array.getElem?_eq_some_iff.1 a1).1
  have hl2 := (Array.getElem?_eq_some_iff.1 a2).1
  generalize (w.alloc (Obj.cells (planA n (.slice lo n.spots.length lc) (.slice ko n.curve.length kc)) 75)).alloc (Obj.cells #[.int .i64 W, .int .i64 H, .slice ao zs.length ca] 24) = U at *
  refine (HCK.out _ HB.out).mono ?_
  rintro e V1 ⟨rfl, hb1⟩
  have HB1 := hide (HB.out.trans (hb1.mono HB.out.size))
  by_cases hF : F = 0
  · subst hF
    rw [if_pos rfl] at HF
    obtain ⟨p0, p1, p2⟩ := cells3 ((hb1.block _ hl2).trans a2)
    go_wp2_with fail
    clear p0 p1 p2
    refine (planeFine_any W H _ zs _ (HV.out.below HB1.out (Nat.le_refl _))).mono ?_
    rintro e V2 ⟨rfl, hb2⟩
    replace hb2 := bel_trans hb1 hb2
    have HB2 := hide (HB.out.trans (hb2.mono HB.out.size))
    by_cases hp : planeOk W H zs = true
    · rw [if_pos hp] at HF
      rw [hp]
      obtain ⟨hW, hH, _, _⟩ := planeOk_parts hp
      obtain ⟨p0, p1, p2⟩ := cells3 ((hb2.block _ hl2).trans a2)
      obtain ⟨_, _, _, _, _, _, s6, _⟩ := plan_cells ((hb2.block _ hl1).trans a1)
      go_wp2_with fail
      clear p0 p1 p2 s6
      refine (spotsIn_any _ n.spots W H hW hH _ (HP.out.spots.below HB2.out (Nat.le_refl _))).mono ?_
      rintro e V3 ⟨rfl, rfl⟩
      cases hs : spotsB W H n.spots
      · have he : E = 3 := by rw [HF.out, hs]; rfl
        subst he
        go_wp2
        go_ret
        exact ⟨rfl, HB2.out⟩
      · have he : E = 0 := by rw [HF.out, hs]; rfl
        subst he
        go_wp2
        go_ret
        exact ⟨rfl, HB2.out⟩
    · rw [if_neg hp] at HF
      have hp : planeOk W H zs = false := by simpa using hp
      rw [hp]
      have he : E = 1 := HF.out
      subst he
      go_wp2
      go_ret
      exact ⟨rfl, HB2.out⟩
  · rw [if_neg hF] at HF
    have hn : (F != 0) = true := by simpa using hF
    have he : E = F := HF.out
    subst he
    go_wp2
    go_ret
    exact ⟨rfl, HB1.out⟩
end Go.Proofs.Ytolcndchfnifhab

namespace Go.Proofs.Ytolcndchfnifhab
theorem pix_lt {w : World} {ao : Option Addr} {n c : Nat} {ps : List Px} (h : IsPix w (.slice ao n c) ps) {b : Nat} (hb : (Value.slice ao n c).ownBlock = some b) : ps = [] ∨ b < w.heap.size := by
  obtain ⟨x, y, hx, _, hc⟩ := h
  cases hx
  rcases hc with hc | ⟨b', o', rfl, hb', _⟩
  · exact .inl hc
  · right
    have e : b' = b := by simpa [Value.ownBlock] using hb
    rw [← e]
    exact hb'
theorem pix_keep {w1 w5 : World} {ro : Option Addr} {N rc B : Nat} {D : List Px} (h1 : IsPix w1 (.slice ro N rc) D) (h : IsPix w5 (.slice ro N rc) D) (hN : D.length = N) (hB : w1.heap.size ≤ B) (x y z : Value) :
    IsPix (((w5.setCell ⟨B, 0, none⟩ x).setCell ⟨B, 1, none⟩ y).setCell ⟨B, 2, none⟩ z) (.slice ro N rc) D := by
  by_cases h0 : N = 0
  · have hD : D = [] := List.eq_nil_of_length_eq_zero (hN.trans h0)
    subst hD
    subst h0
    obtain ⟨a, b, ha, hb, _⟩ := h
    exact ⟨a, b, ha, hb, .inl rfl⟩
  · refine h.other (set3_size w5 B x y z) (fun b hb => set3_heap _ _ _ _ _ b hb) fun e => ?_
    rcases pix_lt h1 e with h | h
    · exact h0 (by rw [← hN, h]; rfl)
    · omega
end Go.Proofs.Ytolcndchfnifhab

namespace Go.Proofs.Ytolcndchfnifhab
set_option linter.unusedVariables false
open Go.RowKit
set_option maxRecDepth 100000 in
set_option maxHeartbeats 16000000 in
theorem lineWholes_walk (n : Plan) (sv cv : Value) (W H : Int) (v : Value) (zs : List Int) (hls : ∀ j, j < n.spots.length → ptWf (ptAt n.spots j)) (w : World) (hp : IsPlan w n sv cv) (hv : IsInts w v zs) :
    Calls Try.prog 11 #[.agg (planA n sv cv), .agg #[.int .i64 W, .int .i64 H, v]] w fun e w' => e = .returned (.bool true) ∧ Below w.heap.size w w' := by
  have HP := hide hp
  have HV := hide hv
  have HWH := hide (fun (u : World) (hu : Below w.heap.size w u) => whole_any n sv cv W H v zs u (HP.out.below hu (Nat.le_refl _)) hls (HV.out.below hu (Nat.le_refl _)))
  have HWE := hide (fun (u : World) (hu : Below w.heap.size w u) => wholeError_any n sv cv W H v zs u (HP.out.below hu (Nat.le_refl _)) (HV.out.below hu (Nat.le_refl _)))
  have HWO := hide (fun (h : fitsE n W H zs H = 0) (u : World) (hu : Below w.heap.size w u) => wholeOf_any n sv cv W H v zs u (HP.out.below hu (Nat.le_refl _)) (HV.out.below hu (Nat.le_refl _)) (devOk_of (fitsE_zero h).1 (fitsE_zero h).2.1 (fitsE_zero h).2.2))
  have HCA := hide (fun (u : World) (hu : Below w.heap.size w u) => check_any n sv cv u (HP.out.below hu (Nat.le_refl _)))
  have HCB := hide (fun (u : World) (hu : Below w.heap.size w u) => checkPlan_any n sv cv u (HP.out.below hu (Nat.le_refl _)))
  obtain ⟨⟨lo, lc, rfl, hll, _⟩, ⟨ko, kc, rfl, hkl, _⟩⟩ := hp
  obtain ⟨ao, ca, rfl, _, _⟩ := hv
  generalize dev7 n W H zs = D at *
  generalize planE n = F at *
  obtain ⟨E, hE⟩ : ∃ E, fitsE n W H zs H = E := ⟨_, rfl⟩
  rw [hE] at HWH HWE HWO
  clear hE
  obtain ⟨a1, a2⟩ := al2 w (Obj.cells (planA n (.slice lo n.spots.length lc) (.slice ko n.curve.length kc)) 75) (Obj.cells #[.int .i64 W, .int .i64 H, .slice ao zs.length ca] 24)
  have HB := hide (be2 w (Obj.cells (planA n (.slice lo n.spots.length lc) (.slice ko n.curve.length kc)) 75) (Obj.cells #[.int .i64 W, .int .i64 H, .slice ao zs.length ca] 24))
  obtain ⟨p0, p1, p2⟩ := cells3 a2
  go_enter Try.func11, Try.ntmps11
  go_wp2_with (refine wpList_load_row rfl 75 _ rfl _ rfl _ _ _ _ a1 Try.underlying75 rfl (by kernel_rfl) ?_)
  clear p0 p1 p2
  have hl1 := (Array.getElem?_eq_some_iff.1 a1).1
  have hl2 := (Array.getElem?_eq_some_iff.1 a2).1
  generalize (w.alloc (Obj.cells (planA n (.slice lo n.spots.length lc) (.slice ko n.curve.length kc)) 75)).alloc (Obj.cells #[.int .i64 W, .int .i64 H, .slice ao zs.length ca] 24) = U at *
  refine (HWH.out _ HB.out).mono ?_
  rintro e w1 ⟨r, rfl, hr, hb1, hfr⟩
  have HR := hide hr
  obtain ⟨ro, rc, rfl, x1, x2⟩ := hr
  clear x1 x2
  obtain ⟨N, hN⟩ : ∃ N, (okL E D).length = N := ⟨_, rfl⟩
  rw [hN] at HR hfr ⊢
  have HN := hide hN
  clear hN
  have HBw1 := hide (HB.out.trans (hb1.mono HB.out.size))
  have t1 := al1 w1 (Obj.cells #[.int .i64 (okW E W), .int .i64 (okW E H), .slice ro N rc] 39)
  have hbx := bel_trans hb1 (bel_alloc w1 (Obj.cells #[.int .i64 (okW E W), .int .i64 (okW E H), .slice ro N rc] 39))
  have HR2 := hide (HR.out.alloc (Obj.cells #[.int .i64 (okW E W), .int .i64 (okW E H), .slice ro N rc] 39))
  have b1 := (hbx.block _ hl1).trans a1
  obtain ⟨p0, p1, p2⟩ := cells3 ((hbx.block _ hl2).trans a2)
  go_wp2_with (refine wpList_load_row rfl 75 _ rfl _ rfl _ _ _ _ b1 Try.underlying75 rfl (by kernel_rfl) ?_)
  clear p0 p1 p2 b1
  have hlt := (Array.getElem?_eq_some_iff.1 t1).1
  have HSZ := hide hb1.size
  generalize w1.alloc (Obj.cells #[.int .i64 (okW E W), .int .i64 (okW E H), .slice ro N rc] 39) = w2 at *
  have HB2 := hide (HB.out.trans (hbx.mono HB.out.size))
  refine (HWE.out _ HB2.out).mono ?_
  rintro e w3 ⟨rfl, hb3⟩
  have t3 := al1 w3 (Obj.cells #[.int .i64 0, .int .i64 0, .slice none 0 0] 39)
  have hby := bel_trans hb3 (bel_alloc w3 (Obj.cells #[.int .i64 0, .int .i64 0, .slice none 0 0] 39))
  have g1 := (hby.block _ hlt).trans t1
  have HR4 := hide (HR2.out.below hby (Nat.le_refl _))
  have hbz := bel_trans hbx hby
  have HZ := hide hb3.size
  by_cases hE : E = 0
  · subst hE
    have hN2 := HN.out
    rw [show okW 0 W = W from rfl, show okW 0 H = H from rfl] at g1
    rw [show okL 0 D = D from rfl] at HR4 hN2
    have HB4 := hide (HB.out.trans (hbz.mono HB.out.size))
    have b1 := (hbz.block _ hl1).trans a1
    obtain ⟨p0, p1, p2⟩ := cells3 ((hbz.block _ hl2).trans a2)
    go_wp2_with (refine wpList_load_row rfl 75 _ rfl _ rfl _ _ _ _ b1 Try.underlying75 rfl (by kernel_rfl) ?_)
    clear p0 p1 p2 b1
    have hl3 := (Array.getElem?_eq_some_iff.1 t3).1
    generalize w3.alloc (Obj.cells #[.int .i64 0, .int .i64 0, .slice none 0 0] 39) = w4 at *
    refine (HWO.out (by trivial) _ HB4.out).mono ?_
    rintro e w5 ⟨s, rfl, hs, hb5, hfs⟩
    have HSX := hide hs
    obtain ⟨so, sc, rfl, x1, x2⟩ := hs
    clear x1 x2
    rw [hN2] at HSX hfs ⊢
    have g3 := (hb5.block _ hl3).trans t3
    obtain ⟨z0, z1, z2⟩ := cells3 g3
    have f0 := Lib.frozen_of_heap g3 0
    have f1 := Lib.frozen_of_heap g3 1
    have f2 := Lib.frozen_of_heap g3 2
    have hlg := (Array.getElem?_eq_some_iff.1 g1).1
    have hBU5 := bel_trans hbz hb5
    have hz1 := HSZ.out
    have hz2 := HZ.out
    have hz3 := hb5.size
    obtain ⟨y1, y2, y3, y4⟩ := box3_set g3 (.int .i64 W) (.int .i64 H) (.slice so N sc) U (show U.heap.size ≤ w3.heap.size by omega) hBU5
    have HRB := hide (HSX.out.set3 hfs hl3 (.int .i64 W) (.int .i64 H) (.slice so N sc))
    have hne : w1.heap.size ≠ w3.heap.size := by omega
    replace g1 := (y2 w1.heap.size hne).trans ((hb5.block _ hlg).trans g1)
    have hbo : N = 0 ∨ (Value.slice ro N rc).ownBlock ≠ some w3.heap.size := by
      by_cases h0 : N = 0
      · exact .inl h0
      · refine .inr fun e => ?_
        rcases pix_lt HR.out e with h | h
        · exact h0 (by rw [← HN.out, h]; rfl)
        · omega
    have HRA := hide (show IsPix (((w5.setCell ⟨w3.heap.size, 0, none⟩ (.int .i64 W)).setCell ⟨w3.heap.size, 1, none⟩ (.int .i64 H)).setCell ⟨w3.heap.size, 2, none⟩ (.slice so N sc)) (.slice ro N rc) D by
      rcases hbo with h0 | h0
      · have hD : D = [] := List.eq_nil_of_length_eq_zero (hN2.trans h0)
        subst hD
        subst h0
        obtain ⟨x, y, hx, hy, _⟩ := HR4.out
        exact ⟨x, y, hx, hy, .inl rfl⟩
      · exact (HR4.out.below hb5 (Nat.le_refl _)).other (set3_size w5 w3.heap.size (.int .i64 W) (.int .i64 H) (.slice so N sc)) (fun b hb => set3_heap _ _ _ _ _ b hb) h0)
    have HBX := hide y4
    clear hbo hne hz1 hz2 hz3
    go_upto_region 6 with fail
    clear z0 z1 z2 f0 f1 f2
    generalize ((w5.setCell ⟨w3.heap.size, 0, none⟩ (.int .i64 W)).setCell ⟨w3.heap.size, 1, none⟩ (.int .i64 H)).setCell ⟨w3.heap.size, 2, none⟩ (.slice so N sc) = X at *
    have g3 := y1
    clear y1 y2 y3 y4
    generalize w1.heap.size = QB at *
    generalize w3.heap.size = ZB at *
    have k1 := (Array.getElem?_eq_some_iff.1 g1).1
    have k3 := (Array.getElem?_eq_some_iff.1 g3).1
    have HS := hide (show ∀ v, Below X.heap.size X v → v.heap[w.heap.size]? = some (.cells (planA n (.slice lo n.spots.length lc) (.slice ko n.curve.length kc)) 75 (0, 0)) ∧ v.cell? ⟨QB, 0, none⟩ = some (.int .i64 W) ∧ v.cell? ⟨QB, 1, none⟩ = some (.int .i64 H) ∧ v.cell? ⟨QB, 2, none⟩ = some (.slice ro N rc) ∧ v.cell? ⟨ZB, 0, none⟩ = some (.int .i64 W) ∧ v.cell? ⟨ZB, 1, none⟩ = some (.int .i64 H) ∧ v.cell? ⟨ZB, 2, none⟩ = some (.slice so N sc) from fun v h => by
      obtain ⟨c0, c1, c2⟩ := cells3 ((h.block _ k1).trans g1)
      obtain ⟨d0, d1, d2⟩ := cells3 ((h.block _ k3).trans g3)
      exact ⟨(h.block _ (Nat.lt_of_lt_of_le hl1 HBX.out.size)).trans ((HBX.out.block _ hl1).trans a1), c0, c1, c2, d0, d1, d2⟩)
    have hWd : Below X.heap.size X X.drew := (Below.refl _ _).drew
    have hSd := HS.out _ hWd
    have HBW := hide (HB.out.trans (HBX.out.mono HB.out.size))
    have HUP := hide (fun (v : World) (h : Below X.heap.size X v) => HBW.out.trans (h.mono HBW.out.size))
    have hmx : Try.prog.follows .mixedOrders = true := by kernel_rfl
    refine wp_region_last (S := fun v : World => v.heap[w.heap.size]? = some (.cells (planA n (.slice lo n.spots.length lc) (.slice ko n.curve.length kc)) 75 (0, 0)) ∧ v.cell? ⟨QB, 0, none⟩ = some (.int .i64 W) ∧ v.cell? ⟨QB, 1, none⟩ = some (.int .i64 H) ∧ v.cell? ⟨QB, 2, none⟩ = some (.slice ro N rc) ∧ v.cell? ⟨ZB, 0, none⟩ = some (.int .i64 W) ∧ v.cell? ⟨ZB, 1, none⟩ = some (.int .i64 H) ∧ v.cell? ⟨ZB, 2, none⟩ = some (.slice so N sc)) (f := 18) hmx ?_
    show wpAnyF _ _ _ _ _ _ 19 _ _ X.drew
    refine wpAnyF_one (i := 0) (o := _) (by kernel_rfl) rfl (fun K' hK => ?_)
    rw [if_pos (by rfl)]
    go_simp
    refine (lineBegun_any _).mono ?_
    rintro e V0 ⟨rfl, hbvV0⟩
    have hBV0 : Below X.heap.size X V0 := hWd.trans (hbvV0.mono hWd.size)
    have hSd := HS.out _ hBV0
    refine hK.out _ _ hSd ?_
    clear hK
    try simp only [Act.put]
    refine wpAnyF_takeP (i := 1) (oi := _) (v := ?vv1) (some 24) [] rfl rfl (by kernel_rfl) (by kernel_rfl) (by kernel_rfl) (by kernel_rfl) (by kernel_rfl) (fun _ _ _ h => h) (Or.inl ⟨by rfl, ?yy1⟩) hSd ?rr1
    case yy1 => (intro wq hSq; obtain ⟨hq1, _, _, _, _, _, _⟩ := hSq; go_simp <;> with_reducible rfl)
    simp only [Act.put, List.setIfInBounds_toArray, List.set_cons_succ, List.set_cons_zero]
    refine wpAnyF_takeP (i := 2) (oi := _) (v := .agg (planA n (.slice lo n.spots.length lc) (.slice ko n.curve.length kc))) (some 25) [] rfl rfl (by kernel_rfl) (by kernel_rfl) (by kernel_rfl) (by kernel_rfl) (by kernel_rfl) (fun _ _ _ h => h) (Or.inl ⟨by rfl, ?yy2⟩) hSd ?rr2
    case yy2 => (intro wq hSq; obtain ⟨hq1, _, _, _, _, _, _⟩ := hSq; exact exec_load_row 75 _ rfl _ rfl _ _ _ _ hq1 Try.underlying75 rfl (by kernel_rfl))
    simp only [Act.put, List.setIfInBounds_toArray, List.set_cons_succ, List.set_cons_zero]
    refine wpAnyF_takeP (i := 4) (oi := _) (v := .agg (planA n (.slice lo n.spots.length lc) (.slice ko n.curve.length kc))) (some 27) [] rfl rfl (by kernel_rfl) (by kernel_rfl) (by kernel_rfl) (by kernel_rfl) (by kernel_rfl) (fun _ _ _ h => h) (Or.inl ⟨by rfl, ?yy3⟩) hSd ?rr3
    case yy3 => (intro wq hSq; obtain ⟨hq1, _, _, _, _, _, _⟩ := hSq; exact exec_load_row 75 _ rfl _ rfl _ _ _ _ hq1 Try.underlying75 rfl (by kernel_rfl))
    simp only [Act.put, List.setIfInBounds_toArray, List.set_cons_succ, List.set_cons_zero]
    refine wpAnyF_one (i := 3) (o := _) (by kernel_rfl) rfl (fun K' hK => ?_)
    rw [if_pos (by rfl)]
    go_simp
    refine (HCA.out _ (HUP.out _ hBV0)).mono ?_
    rintro e V1 ⟨rfl, hbvV1⟩
    have hBV1 : Below X.heap.size X V1 := hBV0.trans (hbvV1.mono hBV0.size)
    have hSd := HS.out _ hBV1
    refine hK.out _ _ hSd ?_
    clear hK
    try simp only [Act.put]
    refine wpAnyF_one (i := 5) (o := _) (by kernel_rfl) rfl (fun K' hK => ?_)
    rw [if_pos (by rfl)]
    go_simp
    refine (HCB.out _ (HUP.out _ hBV1)).mono ?_
    rintro e V2 ⟨rfl, hbvV2⟩
    have hBV2 : Below X.heap.size X V2 := hBV1.trans (hbvV2.mono hBV1.size)
    have hSd := HS.out _ hBV2
    refine hK.out _ _ hSd ?_
    clear hK
    try simp only [Act.put]
    refine wpAnyF_takeP (i := 6) (oi := _) (v := ?vv4) (some 29) [] rfl rfl (by kernel_rfl) (by kernel_rfl) (by kernel_rfl) (by kernel_rfl) (by kernel_rfl) (fun _ _ _ h => h) (Or.inl ⟨by rfl, ?yy4⟩) hSd ?rr4
    case yy4 => (intro wq hSq; obtain ⟨hq1, _, _, _, _, _, _⟩ := hSq; go_simp <;> with_reducible rfl)
    simp only [Act.put, List.setIfInBounds_toArray, List.set_cons_succ, List.set_cons_zero]
    refine wpAnyF_takeP (i := 7) (oi := _) (v := ?vv5) (some 30) [] rfl rfl (by kernel_rfl) (by kernel_rfl) (by kernel_rfl) (by kernel_rfl) (by kernel_rfl) (fun _ _ _ h => h) (Or.inl ⟨by rfl, ?yy5⟩) hSd ?rr5
    case yy5 => (intro wq hSq; obtain ⟨hq1, _, _, _, _, _, _⟩ := hSq; go_simp <;> with_reducible rfl)
    simp only [Act.put, List.setIfInBounds_toArray, List.set_cons_succ, List.set_cons_zero]
    refine wpAnyF_takeP (i := 8) (oi := _) (v := ?vv6) (some 31) [] rfl rfl (by kernel_rfl) (by kernel_rfl) (by kernel_rfl) (by kernel_rfl) (by kernel_rfl) (fun _ _ _ h => h) (Or.inl ⟨by rfl, ?yy6⟩) hSd ?rr6
    case yy6 => (intro wq hSq; obtain ⟨hq1, _, _, _, _, _, _⟩ := hSq; go_simp <;> with_reducible rfl)
    simp only [Act.put, List.setIfInBounds_toArray, List.set_cons_succ, List.set_cons_zero]
    refine wpAnyF_takeP (i := 9) (oi := _) (v := ?vv7) (some 32) [] rfl rfl (by kernel_rfl) (by kernel_rfl) (by kernel_rfl) (by kernel_rfl) (by kernel_rfl) (fun _ _ _ h => h) (Or.inl ⟨by rfl, ?yy7⟩) hSd ?rr7
    case yy7 => (intro wq hSq; obtain ⟨hq1, _, _, _, _, _, _⟩ := hSq; go_simp <;> with_reducible rfl)
    simp only [Act.put, List.setIfInBounds_toArray, List.set_cons_succ, List.set_cons_zero]
    refine wpAnyF_takeP (i := 10) (oi := _) (v := ?vv8) (some 33) [] rfl rfl (by kernel_rfl) (by kernel_rfl) (by kernel_rfl) (by kernel_rfl) (by kernel_rfl) (fun _ _ _ h => h) (Or.inl ⟨by rfl, ?yy8⟩) hSd ?rr8
    case yy8 => (intro wq hSq; obtain ⟨hq1, _, _, _, _, _, _⟩ := hSq; go_simp <;> with_reducible rfl)
    simp only [Act.put, List.setIfInBounds_toArray, List.set_cons_succ, List.set_cons_zero]
    refine wpAnyF_takeP (i := 11) (oi := _) (v := ?vv9) (some 34) [] rfl rfl (by kernel_rfl) (by kernel_rfl) (by kernel_rfl) (by kernel_rfl) (by kernel_rfl) (fun _ _ _ h => h) (Or.inl ⟨by rfl, ?yy9⟩) hSd ?rr9
    case yy9 => (intro wq hSq; obtain ⟨hq1, _, _, _, _, _, _⟩ := hSq; go_simp <;> with_reducible rfl)
    simp only [Act.put, List.setIfInBounds_toArray, List.set_cons_succ, List.set_cons_zero]
    refine wpAnyF_takeP (i := 12) (oi := _) (v := ?vv10) (some 35) [] rfl rfl (by kernel_rfl) (by kernel_rfl) (by kernel_rfl) (by kernel_rfl) (by kernel_rfl) (fun _ _ _ h => h) (Or.inl ⟨by rfl, ?yy10⟩) hSd ?rr10
    case yy10 => (intro wq hSq; obtain ⟨hq1, _, _, _, _, _, _⟩ := hSq; go_simp <;> with_reducible rfl)
    simp only [Act.put, List.setIfInBounds_toArray, List.set_cons_succ, List.set_cons_zero]
    refine wpAnyF_takeP (i := 13) (oi := _) (v := ?vv11) (some 36) [] rfl rfl (by kernel_rfl) (by kernel_rfl) (by kernel_rfl) (by kernel_rfl) (by kernel_rfl) (fun _ _ _ h => h) (Or.inl ⟨by rfl, ?yy11⟩) hSd ?rr11
    case yy11 => (intro wq hSq; obtain ⟨hq1, _, _, _, _, _, _⟩ := hSq; go_simp <;> with_reducible rfl)
    simp only [Act.put, List.setIfInBounds_toArray, List.set_cons_succ, List.set_cons_zero]
    refine wpAnyF_takeP (i := 14) (oi := _) (v := ?vv12) (some 37) [] rfl rfl (by kernel_rfl) (by kernel_rfl) (by kernel_rfl) (by kernel_rfl) (by kernel_rfl) (fun _ _ _ h => h) (Or.inl ⟨by rfl, ?yy12⟩) hSd ?rr12
    case yy12 => (intro wq hSq; obtain ⟨hq1, _, _, _, _, _, _⟩ := hSq; go_simp <;> with_reducible rfl)
    simp only [Act.put, List.setIfInBounds_toArray, List.set_cons_succ, List.set_cons_zero]
    refine wpAnyF_takeP (i := 15) (oi := _) (v := ?vv13) (some 38) [] rfl rfl (by kernel_rfl) (by kernel_rfl) (by kernel_rfl) (by kernel_rfl) (by kernel_rfl) (fun _ _ _ h => h) (Or.inl ⟨by rfl, ?yy13⟩) hSd ?rr13
    case yy13 => (intro wq hSq; obtain ⟨hq1, _, _, _, _, _, _⟩ := hSq; go_simp <;> with_reducible rfl)
    simp only [Act.put, List.setIfInBounds_toArray, List.set_cons_succ, List.set_cons_zero]
    refine wpAnyF_one (i := 16) (o := _) (by kernel_rfl) rfl (fun K' hK => ?_)
    rw [if_pos (by rfl)]
    go_simp
    refine (samePictures_any W H _ D W H _ D _ (HRA.out.below hBV2 (Nat.le_refl _)) (HRB.out.below hBV2 (Nat.le_refl _))).mono ?_
    rintro e V3 ⟨rfl, hbvV3⟩
    rw [show sameB W H D W H D = true by simp [sameB]]
    have hBV3 : Below X.heap.size X V3 := hBV2.trans (hbvV3.mono hBV2.size)
    have hSd := HS.out _ hBV3
    refine hK.out _ _ hSd ?_
    clear hK
    try simp only [Act.put]
    refine wpAnyF_takeP (i := 17) (oi := _) (v := ?vv14) (some 40) [] rfl rfl (by kernel_rfl) (by kernel_rfl) (by kernel_rfl) (by kernel_rfl) (by kernel_rfl) (fun _ _ _ h => h) (Or.inl ⟨by rfl, ?yy14⟩) hSd ?rr14
    case yy14 => (intro wq hSq; obtain ⟨hq1, _, _, _, _, _, _⟩ := hSq; go_simp <;> with_reducible rfl)
    simp only [Act.put, List.setIfInBounds_toArray, List.set_cons_succ, List.set_cons_zero]
    refine wpAnyF_last (o := _) (by kernel_rfl) rfl (fun K' hK => ?_)
    rw [if_pos (by rfl)]
    go_simp
    refine hK.out _ _ ?_
    clear hK
    refine wpAnyF_done (by kernel_rfl) ?_ _
    try simp only [Act.put]
    go_wp2
    go_ret
    exact ⟨rfl, HUP.out _ hBV3⟩
  · have hn : (E != 0) = true := by simpa using hE
    rw [okW, if_neg hE, okW, if_neg hE] at g1
    have hN2 := HN.out
    rw [okL, if_neg hE] at HR4 hN2
    obtain rfl : N = 0 := hN2.symm
    have g3 := t3
    have HRA := HR4
    have HRB := hide (IsPix.nil (w3.alloc (Obj.cells #[.int .i64 0, .int .i64 0, .slice none 0 0] 39)))
    have HBX := hide hbz
    go_upto_region 6 with fail
    generalize w3.alloc (Obj.cells #[.int .i64 0, .int .i64 0, .slice none 0 0] 39) = X at *
    generalize w1.heap.size = QB at *
    generalize w3.heap.size = ZB at *
    have k1 := (Array.getElem?_eq_some_iff.1 g1).1
    have k3 := (Array.getElem?_eq_some_iff.1 g3).1
    have HS := hide (show ∀ v, Below X.heap.size X v → v.heap[w.heap.size]? = some (.cells (planA n (.slice lo n.spots.length lc) (.slice ko n.curve.length kc)) 75 (0, 0)) ∧ v.cell? ⟨QB, 0, none⟩ = some (.int .i64 0) ∧ v.cell? ⟨QB, 1, none⟩ = some (.int .i64 0) ∧ v.cell? ⟨QB, 2, none⟩ = some (.slice ro 0 rc) ∧ v.cell? ⟨ZB, 0, none⟩ = some (.int .i64 0) ∧ v.cell? ⟨ZB, 1, none⟩ = some (.int .i64 0) ∧ v.cell? ⟨ZB, 2, none⟩ = some (.slice none 0 0) from fun v h => by
      obtain ⟨c0, c1, c2⟩ := cells3 ((h.block _ k1).trans g1)
      obtain ⟨d0, d1, d2⟩ := cells3 ((h.block _ k3).trans g3)
      exact ⟨(h.block _ (Nat.lt_of_lt_of_le hl1 HBX.out.size)).trans ((HBX.out.block _ hl1).trans a1), c0, c1, c2, d0, d1, d2⟩)
    have hWd : Below X.heap.size X X.drew := (Below.refl _ _).drew
    have hSd := HS.out _ hWd
    have HBW := hide (HB.out.trans (HBX.out.mono HB.out.size))
    have HUP := hide (fun (v : World) (h : Below X.heap.size X v) => HBW.out.trans (h.mono HBW.out.size))
    have hmx : Try.prog.follows .mixedOrders = true := by kernel_rfl
    refine wp_region_last (S := fun v : World => v.heap[w.heap.size]? = some (.cells (planA n (.slice lo n.spots.length lc) (.slice ko n.curve.length kc)) 75 (0, 0)) ∧ v.cell? ⟨QB, 0, none⟩ = some (.int .i64 0) ∧ v.cell? ⟨QB, 1, none⟩ = some (.int .i64 0) ∧ v.cell? ⟨QB, 2, none⟩ = some (.slice ro 0 rc) ∧ v.cell? ⟨ZB, 0, none⟩ = some (.int .i64 0) ∧ v.cell? ⟨ZB, 1, none⟩ = some (.int .i64 0) ∧ v.cell? ⟨ZB, 2, none⟩ = some (.slice none 0 0)) (f := 18) hmx ?_
    show wpAnyF _ _ _ _ _ _ 19 _ _ X.drew
    refine wpAnyF_one (i := 0) (o := _) (by kernel_rfl) rfl (fun K' hK => ?_)
    rw [if_pos (by rfl)]
    go_simp
    refine (lineBegun_any _).mono ?_
    rintro e V0 ⟨rfl, hbvV0⟩
    have hBV0 : Below X.heap.size X V0 := hWd.trans (hbvV0.mono hWd.size)
    have hSd := HS.out _ hBV0
    refine hK.out _ _ hSd ?_
    clear hK
    try simp only [Act.put]
    refine wpAnyF_takeP (i := 1) (oi := _) (v := ?vv15) (some 24) [] rfl rfl (by kernel_rfl) (by kernel_rfl) (by kernel_rfl) (by kernel_rfl) (by kernel_rfl) (fun _ _ _ h => h) (Or.inl ⟨by rfl, ?yy15⟩) hSd ?rr15
    case yy15 => (intro wq hSq; obtain ⟨hq1, _, _, _, _, _, _⟩ := hSq; go_simp <;> with_reducible rfl)
    simp only [Act.put, List.setIfInBounds_toArray, List.set_cons_succ, List.set_cons_zero]
    refine wpAnyF_takeP (i := 2) (oi := _) (v := .agg (planA n (.slice lo n.spots.length lc) (.slice ko n.curve.length kc))) (some 25) [] rfl rfl (by kernel_rfl) (by kernel_rfl) (by kernel_rfl) (by kernel_rfl) (by kernel_rfl) (fun _ _ _ h => h) (Or.inl ⟨by rfl, ?yy16⟩) hSd ?rr16
    case yy16 => (intro wq hSq; obtain ⟨hq1, _, _, _, _, _, _⟩ := hSq; exact exec_load_row 75 _ rfl _ rfl _ _ _ _ hq1 Try.underlying75 rfl (by kernel_rfl))
    simp only [Act.put, List.setIfInBounds_toArray, List.set_cons_succ, List.set_cons_zero]
    refine wpAnyF_takeP (i := 4) (oi := _) (v := .agg (planA n (.slice lo n.spots.length lc) (.slice ko n.curve.length kc))) (some 27) [] rfl rfl (by kernel_rfl) (by kernel_rfl) (by kernel_rfl) (by kernel_rfl) (by kernel_rfl) (fun _ _ _ h => h) (Or.inl ⟨by rfl, ?yy17⟩) hSd ?rr17
    case yy17 => (intro wq hSq; obtain ⟨hq1, _, _, _, _, _, _⟩ := hSq; exact exec_load_row 75 _ rfl _ rfl _ _ _ _ hq1 Try.underlying75 rfl (by kernel_rfl))
    simp only [Act.put, List.setIfInBounds_toArray, List.set_cons_succ, List.set_cons_zero]
    refine wpAnyF_one (i := 3) (o := _) (by kernel_rfl) rfl (fun K' hK => ?_)
    rw [if_pos (by rfl)]
    go_simp
    refine (HCA.out _ (HUP.out _ hBV0)).mono ?_
    rintro e V1 ⟨rfl, hbvV1⟩
    have hBV1 : Below X.heap.size X V1 := hBV0.trans (hbvV1.mono hBV0.size)
    have hSd := HS.out _ hBV1
    refine hK.out _ _ hSd ?_
    clear hK
    try simp only [Act.put]
    refine wpAnyF_one (i := 5) (o := _) (by kernel_rfl) rfl (fun K' hK => ?_)
    rw [if_pos (by rfl)]
    go_simp
    refine (HCB.out _ (HUP.out _ hBV1)).mono ?_
    rintro e V2 ⟨rfl, hbvV2⟩
    have hBV2 : Below X.heap.size X V2 := hBV1.trans (hbvV2.mono hBV1.size)
    have hSd := HS.out _ hBV2
    refine hK.out _ _ hSd ?_
    clear hK
    try simp only [Act.put]
    refine wpAnyF_takeP (i := 6) (oi := _) (v := ?vv18) (some 29) [] rfl rfl (by kernel_rfl) (by kernel_rfl) (by kernel_rfl) (by kernel_rfl) (by kernel_rfl) (fun _ _ _ h => h) (Or.inl ⟨by rfl, ?yy18⟩) hSd ?rr18
    case yy18 => (intro wq hSq; obtain ⟨hq1, _, _, _, _, _, _⟩ := hSq; go_simp <;> with_reducible rfl)
    simp only [Act.put, List.setIfInBounds_toArray, List.set_cons_succ, List.set_cons_zero]
    refine wpAnyF_takeP (i := 7) (oi := _) (v := ?vv19) (some 30) [] rfl rfl (by kernel_rfl) (by kernel_rfl) (by kernel_rfl) (by kernel_rfl) (by kernel_rfl) (fun _ _ _ h => h) (Or.inl ⟨by rfl, ?yy19⟩) hSd ?rr19
    case yy19 => (intro wq hSq; obtain ⟨hq1, _, _, _, _, _, _⟩ := hSq; go_simp <;> with_reducible rfl)
    simp only [Act.put, List.setIfInBounds_toArray, List.set_cons_succ, List.set_cons_zero]
    refine wpAnyF_takeP (i := 8) (oi := _) (v := ?vv20) (some 31) [] rfl rfl (by kernel_rfl) (by kernel_rfl) (by kernel_rfl) (by kernel_rfl) (by kernel_rfl) (fun _ _ _ h => h) (Or.inl ⟨by rfl, ?yy20⟩) hSd ?rr20
    case yy20 => (intro wq hSq; obtain ⟨hq1, _, _, _, _, _, _⟩ := hSq; go_simp <;> with_reducible rfl)
    simp only [Act.put, List.setIfInBounds_toArray, List.set_cons_succ, List.set_cons_zero]
    refine wpAnyF_takeP (i := 9) (oi := _) (v := ?vv21) (some 32) [] rfl rfl (by kernel_rfl) (by kernel_rfl) (by kernel_rfl) (by kernel_rfl) (by kernel_rfl) (fun _ _ _ h => h) (Or.inl ⟨by rfl, ?yy21⟩) hSd ?rr21
    case yy21 => (intro wq hSq; obtain ⟨hq1, _, _, _, _, _, _⟩ := hSq; go_simp <;> with_reducible rfl)
    simp only [Act.put, List.setIfInBounds_toArray, List.set_cons_succ, List.set_cons_zero]
    refine wpAnyF_takeP (i := 10) (oi := _) (v := ?vv22) (some 33) [] rfl rfl (by kernel_rfl) (by kernel_rfl) (by kernel_rfl) (by kernel_rfl) (by kernel_rfl) (fun _ _ _ h => h) (Or.inl ⟨by rfl, ?yy22⟩) hSd ?rr22
    case yy22 => (intro wq hSq; obtain ⟨hq1, _, _, _, _, _, _⟩ := hSq; go_simp <;> with_reducible rfl)
    simp only [Act.put, List.setIfInBounds_toArray, List.set_cons_succ, List.set_cons_zero]
    refine wpAnyF_takeP (i := 11) (oi := _) (v := ?vv23) (some 34) [] rfl rfl (by kernel_rfl) (by kernel_rfl) (by kernel_rfl) (by kernel_rfl) (by kernel_rfl) (fun _ _ _ h => h) (Or.inl ⟨by rfl, ?yy23⟩) hSd ?rr23
    case yy23 => (intro wq hSq; obtain ⟨hq1, _, _, _, _, _, _⟩ := hSq; go_simp <;> with_reducible rfl)
    simp only [Act.put, List.setIfInBounds_toArray, List.set_cons_succ, List.set_cons_zero]
    refine wpAnyF_takeP (i := 12) (oi := _) (v := ?vv24) (some 35) [] rfl rfl (by kernel_rfl) (by kernel_rfl) (by kernel_rfl) (by kernel_rfl) (by kernel_rfl) (fun _ _ _ h => h) (Or.inl ⟨by rfl, ?yy24⟩) hSd ?rr24
    case yy24 => (intro wq hSq; obtain ⟨hq1, _, _, _, _, _, _⟩ := hSq; go_simp <;> with_reducible rfl)
    simp only [Act.put, List.setIfInBounds_toArray, List.set_cons_succ, List.set_cons_zero]
    refine wpAnyF_takeP (i := 13) (oi := _) (v := ?vv25) (some 36) [] rfl rfl (by kernel_rfl) (by kernel_rfl) (by kernel_rfl) (by kernel_rfl) (by kernel_rfl) (fun _ _ _ h => h) (Or.inl ⟨by rfl, ?yy25⟩) hSd ?rr25
    case yy25 => (intro wq hSq; obtain ⟨hq1, _, _, _, _, _, _⟩ := hSq; go_simp <;> with_reducible rfl)
    simp only [Act.put, List.setIfInBounds_toArray, List.set_cons_succ, List.set_cons_zero]
    refine wpAnyF_takeP (i := 14) (oi := _) (v := ?vv26) (some 37) [] rfl rfl (by kernel_rfl) (by kernel_rfl) (by kernel_rfl) (by kernel_rfl) (by kernel_rfl) (fun _ _ _ h => h) (Or.inl ⟨by rfl, ?yy26⟩) hSd ?rr26
    case yy26 => (intro wq hSq; obtain ⟨hq1, _, _, _, _, _, _⟩ := hSq; go_simp <;> with_reducible rfl)
    simp only [Act.put, List.setIfInBounds_toArray, List.set_cons_succ, List.set_cons_zero]
    refine wpAnyF_takeP (i := 15) (oi := _) (v := ?vv27) (some 38) [] rfl rfl (by kernel_rfl) (by kernel_rfl) (by kernel_rfl) (by kernel_rfl) (by kernel_rfl) (fun _ _ _ h => h) (Or.inl ⟨by rfl, ?yy27⟩) hSd ?rr27
    case yy27 => (intro wq hSq; obtain ⟨hq1, _, _, _, _, _, _⟩ := hSq; go_simp <;> with_reducible rfl)
    simp only [Act.put, List.setIfInBounds_toArray, List.set_cons_succ, List.set_cons_zero]
    refine wpAnyF_one (i := 16) (o := _) (by kernel_rfl) rfl (fun K' hK => ?_)
    rw [if_pos (by rfl)]
    go_simp
    refine (samePictures_any 0 0 _ ([] : List Px) 0 0 _ ([] : List Px) _ (HRA.out.below hBV2 (Nat.le_refl _)) (HRB.out.below hBV2 (Nat.le_refl _))).mono ?_
    rintro e V3 ⟨rfl, hbvV3⟩
    rw [show sameB 0 0 ([] : List Px) 0 0 ([] : List Px) = true by simp [sameB]]
    have hBV3 : Below X.heap.size X V3 := hBV2.trans (hbvV3.mono hBV2.size)
    have hSd := HS.out _ hBV3
    refine hK.out _ _ hSd ?_
    clear hK
    try simp only [Act.put]
    refine wpAnyF_takeP (i := 17) (oi := _) (v := ?vv28) (some 40) [] rfl rfl (by kernel_rfl) (by kernel_rfl) (by kernel_rfl) (by kernel_rfl) (by kernel_rfl) (fun _ _ _ h => h) (Or.inl ⟨by rfl, ?yy28⟩) hSd ?rr28
    case yy28 => (intro wq hSq; obtain ⟨hq1, _, _, _, _, _, _⟩ := hSq; go_simp <;> with_reducible rfl)
    simp only [Act.put, List.setIfInBounds_toArray, List.set_cons_succ, List.set_cons_zero]
    refine wpAnyF_last (o := _) (by kernel_rfl) rfl (fun K' hK => ?_)
    rw [if_pos (by rfl)]
    go_simp
    refine hK.out _ _ ?_
    clear hK
    refine wpAnyF_done (by kernel_rfl) ?_ _
    try simp only [Act.put]
    go_wp2
    go_ret
    exact ⟨rfl, HUP.out _ hBV3⟩
end Go.Proofs.Ytolcndchfnifhab

namespace Go.Proofs.Ytolcndchfnifhab
open Go.RowKit
theorem ints_of_row {W : World} {x : Addr} {len cap : Nat} {zs : List Int} (hl : len ≤ cap) (hm : cap ≤ maxLen) (hz : zs.length = cap)
    (hcell : ∀ i, i < zs.length → W.cell? (x.add i) = some (.int .i64 (zs.getD i 0))) : IsInts W (.slice (some x) len cap) (zs.take len) := by
  have hlen : (zs.take len).length = len := by rw [List.length_take]; omega
  unfold maxLen at hm
  refine ⟨some x, cap, by rw [hlen], by rw [hlen]; omega, ?_⟩
  by_cases h0 : len = 0
  · left; subst h0; rfl
  · right
    obtain ⟨b, off, rfl, hc⟩ := ints_at hcell (by omega)
    refine ⟨b, off, rfl, World.block_lt_of_cell? W _ (hc 0 (by omega)), fun j hj => ?_⟩
    rw [hlen] at hj
    rw [hc j (by omega)]
    simp [List.getD, List.getElem?_eq_getElem (show j < zs.length by omega)]
end Go.Proofs.Ytolcndchfnifhab

namespace Go.Proofs.Ytolcndchfnifhab
open Go.RowKit Go.ChangeShapes
theorem cells2 {W : World} {base : Nat} {a : Addr} {cs : List Value} (h : W.cells? base a 2 = some cs) : ∃ x y, cs = [x, y] ∧ W.cell? (a.add 0) = some x ∧ W.cell? (a.add 1) = some y := by
  obtain ⟨_, hl, hc⟩ := World.cells?_some h
  match cs, hl with
  | [x, y], _ => exact ⟨x, y, rfl, hc 0 (by omega), hc 1 (by omega)⟩
theorem list_of {α : Type} (P : Nat → α → Prop) (n : Nat) (h : ∀ i, i < n → ∃ p, P i p) (d : α) : ∃ ls : List α, ls.length = n ∧ ∀ i, i < n → P i (ls.getD i d) := by
  induction n with
  | zero => exact ⟨[], rfl, fun i hi => by omega⟩
  | succ n ih =>
    obtain ⟨ls, hl, hp⟩ := ih (fun i hi => h i (by omega))
    obtain ⟨p, hp'⟩ := h n (by omega)
    refine ⟨ls ++ [p], by simp [hl], fun i hi => ?_⟩
    rcases Nat.eq_or_lt_of_le (show i ≤ n by omega) with e | hlt
    · subst e
      rw [List.getD_eq_getElem?_getD, List.getElem?_append_right (by omega), hl]
      simpa using hp'
    · rw [List.getD_eq_getElem?_getD, List.getElem?_append_left (by omega), ← List.getD_eq_getElem?_getD]
      exact hp i hlt
theorem pts_openW {P : Program} {H : Type} {enc : TypeId × Value → H} {W : World} {base : Nat} {spare : Nat → Bool} {held : Bool} {fuel : Nat} {t e : TypeId} {f0 f1 : Field} {v : Value} {x : DataW H × List MemPlace}
    (ht : P.underlying t = some (.slice e)) (he : P.underlying e = some (.struct #[f0, f1])) (h0 : P.underlying f0.type = some (.int .i64)) (h1 : P.underlying f1.type = some (.int .i64)) (o0 : f0.offset = 0) (o1 : f1.offset = 1)
    (ce : P.cellsOf e = 2) (c0 : P.cellsOf f0.type = 1) (c1 : P.cellsOf f1.type = 1) (h : DataW.trod enc P W base spare held fuel t [v] = some x) : ∃ ls, IsPts W v ls ∧ ∀ j, j < ls.length → (Lit.int .i64 (ptAt ls j).1).wf = true ∧ (Lit.int .i64 (ptAt ls j).2).wf = true := by
  rcases DataW.trod_slice ht h with ⟨hcs, _⟩ | ⟨a, len, cap, elems, rest, n, _, hcs, _, hb, hl, hm, hlen, hel, _, _⟩
  · simp at hcs
    subst hcs
    exact ⟨[], IsPts.nil _, fun j hj => by simp at hj⟩
  · simp at hcs
    subst hcs
    have each : ∀ i, i < len → ∃ p : Pt, (W.cell? ((a.add (i * 2)).add 0) = some (.int .i64 p.1) ∧ W.cell? ((a.add (i * 2)).add 1) = some (.int .i64 p.2)) ∧ (Lit.int .i64 p.1).wf = true ∧ (Lit.int .i64 p.2).wf = true := by
      intro i hi
      have h2 := hel i hi
      rw [List.getElem?_eq_getElem (by omega), ce, Option.bind_eq_some_iff] at h2
      obtain ⟨cs, hc, hy⟩ := h2
      obtain ⟨p, q, rfl, hp, hq⟩ := cells2 hc
      obtain ⟨y0, y1, m, _, _, g0, g1⟩ := Go.ChangeShapes.trod_struct2 he hy
      rw [o0, c0] at g0
      rw [o1, c1] at g1
      obtain ⟨z0, e0, _, wf0⟩ := DataW.trod_int h0 g0
      obtain ⟨z1, e1, _, wf1⟩ := DataW.trod_int h1 g1
      simp at e0 e1
      subst e0 e1
      exact ⟨(z0, z1), ⟨hp, hq⟩, wf0, wf1⟩
    obtain ⟨ls, hll, hls⟩ := list_of _ len each (0, 0)
    unfold maxLen at hm
    refine ⟨ls, ⟨some a, cap, by rw [hll], by omega, ?_⟩, fun j hj => (hls j (by omega)).2⟩
    by_cases hz : len = 0
    · exact .inl (List.eq_nil_of_length_eq_zero (by omega))
    · right
      obtain ⟨b, off, spot⟩ := a
      have hspot : spot = none := by simpa [Addr.add] using World.cell?_spot (hls 0 (by omega)).1.1
      subst hspot
      have hk : ∀ j, j < ls.length → W.cell? ⟨b, off + j * 2, none⟩ = some (.int .i64 (ptAt ls j).1) ∧ W.cell? ⟨b, off + j * 2 + 1, none⟩ = some (.int .i64 (ptAt ls j).2) := by
        intro j hj
        have h2 := (hls j (by omega)).1
        rw [Go.WideShapes.add_plain, Go.WideShapes.add_plain, Go.WideShapes.add_plain] at h2
        exact h2
      exact ⟨b, off, rfl, World.block_lt_of_cell? W _ (hk 0 (by omega)).1, hk⟩
end Go.Proofs.Ytolcndchfnifhab

namespace Go.Proofs.Ytolcndchfnifhab
open Go.RowKit Go.ChangeShapes
set_option linter.unusedVariables false
theorem arr_cellsW {P : Program} {H : Type} {enc : TypeId × Value → H} {W : World} {base : Nat} {spare : Nat → Bool} {held : Bool} {fuel : Nat} {t e : TypeId} {n : Nat} {cs : List Value} {x : DataW H × List MemPlace}
    (ht : P.underlying t = some (.array n e)) (he : P.underlying e = some (.int .i64)) (ce : P.cellsOf e = 1) (hf : DataW.trod enc P W base spare held fuel t cs = some x) (i : Nat) (hi : i < n) : ∃ z : Int, cs[i]? = some (.int .i64 z) ∧ (Lit.int .i64 z).wf = true := by
  obtain ⟨xs, m, _, _, _, hl, hel⟩ := DataW.trod_array ht hf
  have hE := hel i hi
  rw [ce, Nat.mul_one, List.getElem?_eq_getElem (by omega)] at hE
  obtain ⟨z, e1, _, wf⟩ := DataW.trod_int he hE
  refine ⟨z, ?_, wf⟩
  have h0 : ((cs.drop i).take 1)[0]? = some (.int .i64 z) := by rw [e1]; rfl
  simpa using h0
theorem drop_take_get {cs : List Value} {a n i : Nat} {v : Value} (hi : i < n) (h : ((cs.drop a).take n)[i]? = some v) : cs[a + i]? = some v := by
  rw [List.getElem?_take_of_lt hi, List.getElem?_drop] at h
  exact h
theorem slot_get {cs : List Value} {a : Nat} {v : Value} (h : (cs.drop a).take 1 = [v]) : cs[a]? = some v := by
  have h0 : ((cs.drop a).take 1)[0]? = some v := by rw [h]; rfl
  simpa using h0
theorem ptsW_slot {P : Program} {H : Type} {enc : TypeId × Value → H} {W : World} {base : Nat} {spare : Nat → Bool} {held : Bool} {fuel : Nat} {t e : TypeId} {f0 f1 : Field} {cs : List Value} {x : DataW H × List MemPlace}
    (ht : P.underlying t = some (.slice e)) (he : P.underlying e = some (.struct #[f0, f1])) (h0 : P.underlying f0.type = some (.int .i64)) (h1 : P.underlying f1.type = some (.int .i64)) (o0 : f0.offset = 0) (o1 : f1.offset = 1)
    (ce : P.cellsOf e = 2) (c0 : P.cellsOf f0.type = 1) (c1 : P.cellsOf f1.type = 1) (h : DataW.trod enc P W base spare held fuel t cs = some x) : ∃ v ls, cs = [v] ∧ IsPts W v ls ∧ roomy v ∧ ∀ j, j < ls.length → ptWf (ptAt ls j) := by
  have hone : ∃ v, cs = [v] ∧ roomy v := by
    rcases DataW.trod_slice ht h with ⟨hcs, _⟩ | ⟨a, len, cap, elems, rest, n, _, hcs, _, _, hl, _, _, _, _, _⟩
    · exact ⟨_, hcs, Nat.le_refl _⟩
    · exact ⟨_, hcs, hl⟩
  obtain ⟨v, rfl, hr⟩ := hone
  obtain ⟨ls, h2, h3⟩ := pts_openW ht he h0 h1 o0 o1 ce c0 c1 h
  exact ⟨v, ls, rfl, h2, hr, h3⟩
set_option maxHeartbeats 1600000 in
theorem plan_open {P : Program} {H : Type} {enc : TypeId × Value → H} {W : World} {base : Nat} {spare : Nat → Bool} {held : Bool} {fuel : Nat} {t ti t4 t3 t9 ts tc es ec : TypeId} {g0 g1 g2 g3 g4 g5 g6 g7 s0 s1 q0 q1 : Field} {cs : List Value} {x : DataW H × List MemPlace}
    (ht : P.underlying t = some (.struct #[g0, g1, g2, g3, g4, g5, g6, g7])) (hi : P.underlying ti = some (.int .i64)) (ci : P.cellsOf ti = 1)
    (y0 : g0.type = ti) (y1 : g1.type = t4) (y2 : g2.type = ti) (y3 : g3.type = ts) (y4 : g4.type = t3) (y5 : g5.type = t9) (y6 : g6.type = tc) (y7 : g7.type = ti)
    (o0 : g0.offset = 0) (o1 : g1.offset = 1) (o2 : g2.offset = 5) (o3 : g3.offset = 6) (o4 : g4.offset = 7) (o5 : g5.offset = 10) (o6 : g6.offset = 19) (o7 : g7.offset = 20)
    (h4 : P.underlying t4 = some (.array 4 ti)) (c4 : P.cellsOf t4 = 4) (h3 : P.underlying t3 = some (.array 3 ti)) (c3 : P.cellsOf t3 = 3) (h9 : P.underlying t9 = some (.array 9 ti)) (c9 : P.cellsOf t9 = 9)
    (hs : P.underlying ts = some (.slice es)) (cs1 : P.cellsOf ts = 1) (hes : P.underlying es = some (.struct #[s0, s1])) (ces : P.cellsOf es = 2) (sy0 : s0.type = ti) (sy1 : s1.type = ti) (so0 : s0.offset = 0) (so1 : s1.offset = 1)
    (hc : P.underlying tc = some (.slice ec)) (cc1 : P.cellsOf tc = 1) (hec : P.underlying ec = some (.struct #[q0, q1])) (cec : P.cellsOf ec = 2) (qy0 : q0.type = ti) (qy1 : q1.type = ti) (qo0 : q0.offset = 0) (qo1 : q1.offset = 1)
    (ct : P.cellsOf t = 21) (h : DataW.trod enc P W base spare held fuel t cs = some x) :
    ∃ n sv cv, cs = (planA n sv cv).toList ∧ IsPlan W n sv cv ∧ (roomy sv ∧ roomy cv) ∧ (∀ j, j < n.spots.length → ptWf (ptAt n.spots j)) ∧ (∀ j, j < n.curve.length → ptWf (ptAt n.curve j)) := by
  obtain ⟨xs, m, _, _, hl, hxl, hx⟩ := DataW.trod_struct ht h
  rw [ct] at hl
  have e0 := hx 0 g0 rfl
  have e1 := hx 1 g1 rfl
  have e2 := hx 2 g2 rfl
  have e3 := hx 3 g3 rfl
  have e4 := hx 4 g4 rfl
  have e5 := hx 5 g5 rfl
  have e6 := hx 6 g6 rfl
  have e7 := hx 7 g7 rfl
  have hxl' : xs.length = 8 := by rw [hxl]; rfl
  rw [o0, y0, ci, List.getElem?_eq_getElem (by omega)] at e0
  rw [o1, y1, c4, List.getElem?_eq_getElem (by omega)] at e1
  rw [o2, y2, ci, List.getElem?_eq_getElem (by omega)] at e2
  rw [o3, y3, cs1, List.getElem?_eq_getElem (by omega)] at e3
  rw [o4, y4, c3, List.getElem?_eq_getElem (by omega)] at e4
  rw [o5, y5, c9, List.getElem?_eq_getElem (by omega)] at e5
  rw [o6, y6, cc1, List.getElem?_eq_getElem (by omega)] at e6
  rw [o7, y7, ci, List.getElem?_eq_getElem (by omega)] at e7
  obtain ⟨ph, p0, _, _⟩ := DataW.trod_int hi e0
  obtain ⟨wh, p2, _, _⟩ := DataW.trod_int hi e2
  obtain ⟨am, p7, _, _⟩ := DataW.trod_int hi e7
  obtain ⟨sv, ls, p3, i3, r3, w3⟩ := ptsW_slot hs hes (by rw [sy0]; exact hi) (by rw [sy1]; exact hi) so0 so1 ces (by rw [sy0]; exact ci) (by rw [sy1]; exact ci) e3
  obtain ⟨cv, lc, p6, i6, r6, w6⟩ := ptsW_slot hc hec (by rw [qy0]; exact hi) (by rw [qy1]; exact hi) qo0 qo1 cec (by rw [qy0]; exact ci) (by rw [qy1]; exact ci) e6
  obtain ⟨lb, lbl, hb⟩ := list_of _ 4 (arr_cellsW h4 hi ci e1) 0
  obtain ⟨lg, lgl, hg⟩ := list_of _ 3 (arr_cellsW h3 hi ci e4) 0
  obtain ⟨lm, lml, hm⟩ := list_of _ 9 (arr_cellsW h9 hi ci e5) 0
  refine ⟨⟨ph, fun k => lb.getD k 0, wh, ls, fun k => lg.getD k 0, fun k => lm.getD k 0, lc, am⟩, sv, cv, ?_, ⟨i3, i6⟩, ⟨r3, r6⟩, w3, w6⟩
  have q0 := slot_get p0
  have q5 := slot_get p2
  have q6 := slot_get p3
  have q19 := slot_get p6
  have q20 := slot_get p7
  have b := fun i hi => drop_take_get hi (hb i hi).1
  have g := fun i hi => drop_take_get hi (hg i hi).1
  have mm := fun i hi => drop_take_get hi (hm i hi).1
  refine List.ext_getElem? fun i => ?_
  by_cases hlt : i < 21
  · have h21 : i = 0 ∨ i = 1 ∨ i = 2 ∨ i = 3 ∨ i = 4 ∨ i = 5 ∨ i = 6 ∨ i = 7 ∨ i = 8 ∨ i = 9 ∨ i = 10 ∨ i = 11 ∨ i = 12 ∨ i = 13 ∨ i = 14 ∨ i = 15 ∨ i = 16 ∨ i = 17 ∨ i = 18 ∨ i = 19 ∨ i = 20 := by omega
    rcases h21 with rfl | rfl | rfl | rfl | rfl | rfl | rfl | rfl | rfl | rfl | rfl | rfl | rfl | rfl | rfl | rfl | rfl | rfl | rfl | rfl | rfl
    · exact q0
    · exact b 0 (by omega)
    · exact b 1 (by omega)
    · exact b 2 (by omega)
    · exact b 3 (by omega)
    · exact q5
    · exact q6
    · exact g 0 (by omega)
    · exact g 1 (by omega)
    · exact g 2 (by omega)
    · exact mm 0 (by omega)
    · exact mm 1 (by omega)
    · exact mm 2 (by omega)
    · exact mm 3 (by omega)
    · exact mm 4 (by omega)
    · exact mm 5 (by omega)
    · exact mm 6 (by omega)
    · exact mm 7 (by omega)
    · exact mm 8 (by omega)
    · exact q19
    · exact q20
  · rw [List.getElem?_eq_none (by omega), List.getElem?_eq_none (by simp; omega)]
theorem agg_cells {P : Program} {H : Type} {enc : TypeId × Value → H} {W : World} {base b0 : Nat} {spare : Nat → Bool} {held : Bool} {r : Reach} {t : TypeId} {fs : Array Field} {v : Value} {d : DataW H} {p : List MemPlace}
    (ht : P.underlying t = some (.struct fs)) (hv : Value.okWide P W r b0 t v) (h : DataW.Trod enc P W base spare held t v d p) : ∃ cs fuel, v = .agg cs ∧ DataW.trod enc P W base spare held fuel t cs.toList = some (d, p) := by
  obtain ⟨cs, rfl, _, _⟩ : ∃ cs, v = .agg cs ∧ cs.size = P.cellsOf t ∧ Row.okWide P W r b0 t cs := by
    simpa [Value.okWide, ht] using hv
  obtain ⟨fuel, hf⟩ := h
  exact ⟨cs, fuel, rfl, hf⟩
end Go.Proofs.Ytolcndchfnifhab

namespace Go.Proofs.Ytolcndchfnifhab
set_option linter.unusedVariables false
open Go.RowKit
theorem partE_no {n : Plan} {W H : Int} {zs : List Int} {top height fm tm : Int} (h1 : planE n = 0) (h2 : planeOk W H zs = true) (h : ¬ (partOk H top height fm tm = true ∧ spotsB W height n.spots = true)) : partE n W H zs top height fm tm = 3 := by
  have hf : fitsE n W H zs height = if spotsB W height n.spots = true then 0 else 3 := by rw [fitsE, if_pos h1, if_pos h2]
  rw [partE, hf]
  by_cases hs : spotsB W height n.spots = true
  · rw [if_pos hs, if_pos rfl, if_neg (fun hk => h ⟨hk, hs⟩)]
  · rw [if_neg hs, if_neg (by decide)]
theorem partE_yes {n : Plan} {W H : Int} {zs : List Int} {top height fm tm : Int} (h1 : planE n = 0) (h2 : planeOk W H zs = true) (h3 : partOk H top height fm tm = true) (h4 : spotsB W height n.spots = true) : partE n W H zs top height fm tm = 0 := by
  rw [partE, fitsE, if_pos h1, if_pos h2, if_pos h4, if_pos rfl, if_pos h3]
theorem partOk_iff {H top height fm tm : Int} : partOk H top height fm tm = true ↔ ((1 ≤ height ∧ height ≤ 64) ∧ (0 ≤ top ∧ top ≤ height) ∧ (0 ≤ fm ∧ fm ≤ height) ∧ (0 ≤ tm ∧ tm ≤ height) ∧ fm < tm ∧ top + H ≤ height ∧ top ≤ max 0 (fm - 4) ∧ min height (tm + 4) ≤ top + H) := by
  unfold partOk; rw [decide_eq_true_eq]
set_option maxRecDepth 100000 in
set_option maxHeartbeats 3200000 in
theorem partError_any (n : Plan) (sv cv : Value) (W H : Int) (v : Value) (zs : List Int) (top height fm tm : Int) (w : World) (hp : IsPlan w n sv cv) (hv : IsInts w v zs) :
    Calls Try.prog 49 #[.agg (planA n sv cv), .agg #[.int .i64 W, .int .i64 H, v], .int .i64 top, .int .i64 height, .int .i64 fm, .int .i64 tm] w fun e w' => e = .returned (.int .i64 (partE n W H zs top height fm tm)) ∧ Below w.heap.size w w' := by
  have HP := hide hp
  have HV := hide hv
  obtain ⟨⟨lo, lc, rfl, hll, _⟩, ⟨ko, kc, rfl, hkl, _⟩⟩ := hp
  obtain ⟨ao, ca, rfl, _, _⟩ := hv
  obtain ⟨a1, a2⟩ := al2 w (Obj.cells (planA n (.slice lo n.spots.length lc) (.slice ko n.curve.length kc)) 75) (Obj.cells #[.int .i64 W, .int .i64 H, .slice ao zs.length ca] 24)
  have HB := hide (be2 w (Obj.cells (planA n (.slice lo n.spots.length lc) (.slice ko n.curve.length kc)) 75) (Obj.cells #[.int .i64 W, .int .i64 H, .slice ao zs.length ca] 24))
  have HCK := hide (fun (u : World) (hu : Below w.heap.size w u) => checkPlan_any n _ _ u (HP.out.below hu (Nat.le_refl _)))
  have HNO := hide (fun h1 h2 h => @partE_no n W H zs top height fm tm h1 h2 h)
  have HYES := hide (fun h1 h2 h3 h4 => @partE_yes n W H zs top height fm tm h1 h2 h3 h4)
  have HF1 := hide (show planE n = 0 → ¬ planeOk W H zs = true → partE n W H zs top height fm tm = 1 from fun h1 h2 => by rw [partE, fitsE, if_pos h1, if_neg h2, if_neg (by decide)])
  have HF0 := hide (show ¬ planE n = 0 → partE n W H zs top height fm tm = planE n from fun h1 => by rw [partE, fitsE, if_neg h1, if_neg h1])
  obtain ⟨E, hE⟩ : ∃ E, partE n W H zs top height fm tm = E := ⟨_, rfl⟩
  rw [hE] at HNO HYES HF1 HF0 ⊢
  clear hE
  obtain ⟨F, hF⟩ : ∃ F, planE n = F := ⟨_, rfl⟩
  rw [hF] at HNO HYES HF1 HF0 HCK
  clear hF
  go_enter Try.func49, Try.ntmps49
  go_wp2_with (refine wpList_load_row rfl 75 _ rfl _ rfl _ _ _ _ a1 Try.underlying75 rfl (by kernel_rfl) ?_)
  have hl1 := (Array.getElem?_eq_some_iff.1 a1).1
  have hl2 := (Array.getElem?_eq_some_iff.1 a2).1
  generalize (w.alloc (Obj.cells (planA n (.slice lo n.spots.length lc) (.slice ko n.curve.length kc)) 75)).alloc (Obj.cells #[.int .i64 W, .int .i64 H, .slice ao zs.length ca] 24) = U at *
  refine (HCK.out _ HB.out).mono ?_
  rintro e V1 ⟨rfl, hb1⟩
  have HB1 := hide (HB.out.trans (hb1.mono HB.out.size))
  by_cases hF : F = 0
  · subst hF
    obtain ⟨p0, p1, p2⟩ := cells3 ((hb1.block _ hl2).trans a2)
    go_wp2_with fail
    clear p0 p1 p2
    refine (planeFine_any W H _ zs _ (HV.out.below HB1.out (Nat.le_refl _))).mono ?_
    rintro e V2 ⟨rfl, hb2⟩
    replace hb2 := bel_trans hb1 hb2
    have HB2 := hide (HB.out.trans (hb2.mono HB.out.size))
    by_cases hp : planeOk W H zs = true
    · have HPL := hide hp
      rw [hp]
      obtain ⟨hW, hH, _, _⟩ := planeOk_parts hp
      clear hp
      obtain ⟨p0, p1, p2⟩ := cells3 ((hb2.block _ hl2).trans a2)
      obtain ⟨_, _, _, _, _, _, s6, _⟩ := plan_cells ((hb2.block _ hl1).trans a1)
      clear HF1 HF0 HCK a1 a2 hl1 hl2 hb1 hb2
      by_cases k1 : 1 ≤ height ∧ height ≤ 64
      case neg =>
        have d1 : decide (1 ≤ height ∧ height ≤ 64) = false := decide_eq_false k1
        obtain rfl : E = 3 := HNO.out (by trivial) HPL.out (fun h => by have := partOk_iff.1 h.1; omega)
        clear k1
        go_wp2_with (go_at_call 59; refine (within_any _ _ _ _).mono ?_; rintro e wx ⟨rfl, rfl⟩; first | rw [d1])
        go_ret
        exact ⟨rfl, HB2.out⟩
      have d1 : decide (1 ≤ height ∧ height ≤ 64) = true := decide_eq_true k1
      obtain ⟨k1a, k1b⟩ := k1
      by_cases k2 : 0 ≤ top ∧ top ≤ height - H
      case neg =>
        have d2 : decide (0 ≤ top ∧ top ≤ height - H) = false := decide_eq_false k2
        obtain rfl : E = 3 := HNO.out (by trivial) HPL.out (fun h => by have := partOk_iff.1 h.1; omega)
        clear k2
        go_wp2_with (go_at_call 59; refine (within_any _ _ _ _).mono ?_; rintro e wx ⟨rfl, rfl⟩; first | rw [d1] | rw [d2])
        go_ret
        exact ⟨rfl, HB2.out⟩
      have d2 : decide (0 ≤ top ∧ top ≤ height - H) = true := decide_eq_true k2
      obtain ⟨k2a, k2b⟩ := k2
      by_cases k3 : 0 ≤ fm ∧ fm ≤ height - 1
      case neg =>
        have d3 : decide (0 ≤ fm ∧ fm ≤ height - 1) = false := decide_eq_false k3
        obtain rfl : E = 3 := HNO.out (by trivial) HPL.out (fun h => by have := partOk_iff.1 h.1; omega)
        clear k3
        go_wp2_with (go_at_call 59; refine (within_any _ _ _ _).mono ?_; rintro e wx ⟨rfl, rfl⟩; first | rw [d1] | rw [d2] | rw [d3])
        go_ret
        exact ⟨rfl, HB2.out⟩
      have d3 : decide (0 ≤ fm ∧ fm ≤ height - 1) = true := decide_eq_true k3
      obtain ⟨k3a, k3b⟩ := k3
      by_cases k4 : fm + 1 ≤ tm ∧ tm ≤ height
      case neg =>
        have d4 : decide (fm + 1 ≤ tm ∧ tm ≤ height) = false := decide_eq_false k4
        obtain rfl : E = 3 := HNO.out (by trivial) HPL.out (fun h => by have := partOk_iff.1 h.1; omega)
        clear k4
        go_wp2_with (go_at_call 59; refine (within_any _ _ _ _).mono ?_; rintro e wx ⟨rfl, rfl⟩; first | rw [d1] | rw [d2] | rw [d3] | rw [d4])
        go_ret
        exact ⟨rfl, HB2.out⟩
      have d4 : decide (fm + 1 ≤ tm ∧ tm ≤ height) = true := decide_eq_true k4
      obtain ⟨k4a, k4b⟩ := k4
      have HRG := hide (show (1 ≤ height ∧ height ≤ 64) ∧ (0 ≤ top ∧ top ≤ height) ∧ (0 ≤ fm ∧ fm ≤ height) ∧ (0 ≤ tm ∧ tm ≤ height) ∧ fm < tm ∧ top + H ≤ height from by omega)
      obtain ⟨MX, hMX⟩ : ∃ MX, max 0 (fm - 4) = MX := ⟨_, rfl⟩
      obtain ⟨MN, hMN⟩ : ∃ MN, min height (tm + 4) = MN := ⟨_, rfl⟩
      have m1 : (if (0 : Int) < fm - 4 then fm - 4 else 0) = MX := by rw [← hMX]; split <;> omega
      have m2 : (if (4 : Int) < fm then fm - 4 else 0) = MX := by rw [← hMX]; split <;> omega
      have m3 : (if tm + 4 < height then tm + 4 else height) = MN := by rw [← hMN]; split <;> omega
      have HMX := hide hMX
      have HMN := hide hMN
      clear hMX hMN
      by_cases k5 : MX < top
      case pos =>
        obtain rfl : E = 3 := HNO.out (by trivial) HPL.out (fun h => by have := partOk_iff.1 h.1; have := HMX.out; omega)
        have d5 : decide (MX < top) = true := decide_eq_true k5
        clear k5
        go_wp2_with (go_at_call 59; refine (within_any _ _ _ _).mono ?_; rintro e wx ⟨rfl, rfl⟩; first | rw [d1] | rw [d2] | rw [d3] | rw [d4])
        go_ret
        exact ⟨rfl, HB2.out⟩
      have d5 : decide (MX < top) = false := decide_eq_false k5
      by_cases k6 : top + H < MN
      case pos =>
        obtain rfl : E = 3 := HNO.out (by trivial) HPL.out (fun h => by have := partOk_iff.1 h.1; have := HMN.out; omega)
        have d6 : decide (top + H < MN) = true := decide_eq_true k6
        clear k5 k6
        go_wp2_with (go_at_call 59; refine (within_any _ _ _ _).mono ?_; rintro e wx ⟨rfl, rfl⟩; first | rw [d1] | rw [d2] | rw [d3] | rw [d4])
        go_ret
        exact ⟨rfl, HB2.out⟩
      have d6 : decide (top + H < MN) = false := decide_eq_false k6
      have HOK := hide (show partOk H top height fm tm = true from partOk_iff.2 (by have := HRG.out; have := HMX.out; have := HMN.out; omega))
      clear k5 k6
      go_wp2_with (go_at_call 59; refine (within_any _ _ _ _).mono ?_; rintro e wx ⟨rfl, rfl⟩; first | rw [d1] | rw [d2] | rw [d3] | rw [d4])
      refine (spotsIn_any _ n.spots W height hW ⟨k1a, k1b⟩ _ (HP.out.spots.below HB2.out (Nat.le_refl _))).mono ?_
      rintro e V3 ⟨rfl, rfl⟩
      cases hs : spotsB W height n.spots
      · obtain rfl : E = 3 := HNO.out (by trivial) HPL.out (fun h => by rw [hs] at h; cases h.2)
        go_wp2
        go_ret
        exact ⟨rfl, HB2.out⟩
      · obtain rfl : E = 0 := HYES.out (by trivial) HPL.out HOK.out hs
        go_wp2
        go_ret
        exact ⟨rfl, HB2.out⟩
    · obtain rfl : E = 1 := HF1.out (by trivial) hp
      have hp : planeOk W H zs = false := by simpa using hp
      rw [hp]
      go_wp2
      go_ret
      exact ⟨rfl, HB2.out⟩
  · have hn : (F != 0) = true := by simpa using hF
    obtain rfl : E = F := HF0.out hF
    go_wp2
    go_ret
    exact ⟨rfl, HB1.out⟩
end Go.Proofs.Ytolcndchfnifhab
