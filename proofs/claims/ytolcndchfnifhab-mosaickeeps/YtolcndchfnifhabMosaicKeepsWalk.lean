/- MosaicKeeps: the walk. -/
import Derived.Test.YtolcndchfnifhabMosaicBegun
import Derived.Test.YtolcndchfnifhabMosaicMath
import Derived.Test.YtolcndchfnifhabChoose
namespace Go.Proofs.Ytolcndchfnifhab
set_option linter.unusedVariables false
open Go.RowKit

set_option maxRecDepth 100000 in
set_option maxHeartbeats 3200000 in
theorem mosaicKeeps_walk (W H : Int) (v : Value) (zs : List Int) (phase c : Int) (hc : (Lit.int .i64 c).wf = true) (w : World) (hv : IsInts w v zs) :
    Calls Try.prog 5 #[.agg #[.int .i64 W, .int .i64 H, v], .int .i64 phase, .int .i64 c] w fun e w' => e = .returned (.bool true) ∧ Below w.heap.size w w' := by
  have HV := hide hv
  obtain ⟨ao, ca, rfl, _, hcs⟩ := hv
  have HU := hide (bel_alloc w (Obj.cells #[.int .i64 W, .int .i64 H, .slice ao zs.length ca] 24))
  have u1 := al1 w (Obj.cells #[.int .i64 W, .int .i64 H, .slice ao zs.length ca] 24)
  have HB := hide (fill_any W H _ zs phase _ (HV.out.alloc (Obj.cells #[.int .i64 W, .int .i64 H, .slice ao zs.length ca] 24)))
  by_cases hE : fillE W H zs phase = 0
  · have hp : planeOk W H zs = true := by
      by_cases h : planeOk W H zs = true
      · exact h
      · rw [fillE, if_neg h] at hE; cases hE
    have hph : phaseOk phase = true := by
      by_cases h : phaseOk phase = true
      · exact h
      · rw [fillE, if_pos hp, if_neg h] at hE; cases hE
    rw [hE] at HB
    rw [show okW 0 W = W from rfl, show okW 0 H = H from rfl, show okL 0 (fillL W H zs phase) = fillL W H zs phase from rfl] at HB
    obtain ⟨hw1, hh1, hl, _⟩ := planeOk_parts hp
    have hsm := side_mul hw1 hh1
    have hn1 : 1 ≤ zs.length := by omega
    have hn2 : zs.length ≤ 4096 := by omega
    have HZ := hide (planeOk_all hp)
    have HTK := hide (fun (u : World) (q : Value) (hq : IsPix u q (fillL W H zs phase)) => take_any W H q (fillL W H zs phase) phase u hq)
    rw [show takeE W H (fillL W H zs phase) phase = 0 by rw [takeE, if_pos (fill_ok phase hp), if_pos hph]] at HTK
    rw [show okW 0 W = W from rfl, show okW 0 H = H from rfl, show okL 0 (takeL W (fillL W H zs phase) phase) = zs from (show takeL W (fillL W H zs phase) phase = zs from take_fill W H zs phase hw1.1)] at HTK
    have HTOP := hide (fun j hj => fillL_top (W := W) (H := H) phase HZ.out j hj)
    have hFL := fillL_length W H zs phase
    obtain ⟨F, hF⟩ : ∃ F, fillL W H zs phase = F := ⟨_, rfl⟩
    rw [hF] at HB HTK HTOP hFL
    obtain ⟨bk, off, hao, hbk, hcell⟩ : ∃ b o, ao = some ⟨b, o, none⟩ ∧ b < w.heap.size ∧ ∀ j (h : j < zs.length), w.cell? ⟨b, o + j, none⟩ = some (.int .i64 zs[j]) := by
      rcases hcs with h | h
      · subst h; simp at hn1
      · exact h
    subst hao
    have HCELL := hide hcell
    obtain ⟨hc0, hc1⟩ := wf_int hc
    clear hE hp hph hw1 hh1 hl hsm hF hcell hcs hc
    go_enter Try.func5, Try.ntmps5
    go_wp2_with fail
    have hl1 := (Array.getElem?_eq_some_iff.1 u1).1
    generalize w.alloc (Obj.cells #[.int .i64 W, .int .i64 H, .slice (some ⟨bk, off, none⟩) zs.length ca] 24) = U at *
    refine HB.out.mono ?_
    rintro e w1 ⟨r, rfl, hr, hb1, _⟩
    have HR1 := hide hr
    obtain ⟨ro, rc, rfl, _, _⟩ := hr
    rw [hFL] at HR1 ⊢
    have t1 := al1 w1 (Obj.cells #[.int .i64 W, .int .i64 H, .slice ro zs.length rc] 39)
    have hb2 := bel_trans hb1 (bel_alloc w1 (Obj.cells #[.int .i64 W, .int .i64 H, .slice ro zs.length rc] 39))
    have HR2 := hide (HR1.out.alloc (Obj.cells #[.int .i64 W, .int .i64 H, .slice ro zs.length rc] 39))
    go_wp2_with fail
    have hl2 := (Array.getElem?_eq_some_iff.1 t1).1
    generalize w1.alloc (Obj.cells #[.int .i64 W, .int .i64 H, .slice ro zs.length rc] 39) = w2 at *
    refine (HTK.out _ _ HR2.out).mono ?_
    rintro e w3 ⟨r2, rfl, hr2, hb3, _⟩
    have HT3 := hide hr2
    obtain ⟨to_, tc, rfl, _, _⟩ := hr2
    have hb23 := bel_trans hb2 hb3
    have t3 := al1 w3 (Obj.cells #[.int .i64 W, .int .i64 H, .slice to_ zs.length tc] 24)
    have hb4 := bel_trans hb23 (bel_alloc w3 (Obj.cells #[.int .i64 W, .int .i64 H, .slice to_ zs.length tc] 24))
    have hb34 := bel_trans hb3 (bel_alloc w3 (Obj.cells #[.int .i64 W, .int .i64 H, .slice to_ zs.length tc] 24))
    have HT4 := hide (HT3.out.alloc (Obj.cells #[.int .i64 W, .int .i64 H, .slice to_ zs.length tc] 24))
    have u4 := (hb4.block _ hl1).trans u1
    have t14 := (hb34.block _ hl2).trans t1
    have HR4 := HR2.out.below hb34 (Nat.le_refl _)
    have HBW := hide (HU.out.trans (hb4.mono HU.out.size))
    obtain ⟨_, _, p2⟩ := cells3 u4
    go_wp2_with fail
    generalize w3.alloc (Obj.cells #[.int .i64 W, .int .i64 H, .slice to_ zs.length tc] 24) = w4 at *
    have HC4 := hide (show ∀ j (h : j < zs.length), w4.cell? ⟨bk, off + j, none⟩ = some (.int .i64 zs[j]) from fun j h => (HBW.out.cell (p := ⟨bk, off + j, none⟩) hbk).trans (HCELL.out j h))
    clear hb1 hb2 hb3 hb23 hb34 u1 t1 HR1 HR2 HT3
    go_loop [11, 12] (fun t i => ∃ k : Nat, k ≤ zs.length ∧ i = .int .i64 k ∧ t = .int .i64 (topV (zs.take k))) (fun _ i => zs.length - (intOf i).toNat)
    case atStart => exact ⟨0, Nat.zero_le _, rfl, rfl⟩
    case round =>
      obtain ⟨k, hk, rfl, rfl⟩ := hrel
      by_cases hlt : k < zs.length
      · have hd : decide ((k : Int) < (zs.length : Int)) = true := by simp; omega
        have c1 := HC4.out k hlt
        have hm : (if topV (zs.take k) < zs[k] then zs[k] else topV (zs.take k)) = topV (zs.take (k + 1)) := by rw [List.take_succ_eq_append_getElem hlt, topV_snoc]; split <;> omega
        generalize topV (zs.take k) = T0 at *
        obtain ⟨T1, hT1⟩ : ∃ T1, topV (zs.take (k + 1)) = T1 := ⟨_, rfl⟩
        rw [hT1] at hm
        have HT1 := hide hT1
        generalize zs[k] = zk at *
        clear hT1
        go_wp2
        go_round
        case rel => exact ⟨k + 1, by omega, by go_num, by rw [HT1.out]⟩
        case measure => simp [intOf]; omega
      · have hd : decide ((k : Int) < (zs.length : Int)) = false := by simp; omega
        have hkn : k = zs.length := by omega
        subst hkn
        rw [List.take_of_length_le (Nat.le_refl _)]
        obtain ⟨_, _, q2⟩ := cells3 t14
        have hd0 : ((zs.length : Int) == 0) = false := by rw [beq_eq_false_iff_ne]; omega
        obtain ⟨fo, fc2, hfe, _, hor⟩ := HR4
        rcases hor with hor | ⟨fb, ff, rfl, hfb, hfc⟩
        · subst hor; rw [List.length_nil] at hFL; omega
        simp only [Value.slice.injEq] at hfe
        obtain ⟨rfl, -, rfl⟩ := hfe
        have HFL := hide hFL
        clear hFL
        have HCH := hide (fun (u : World) => choose_any c zs.length hc0 hc1 hn1 (by omega) u)
        obtain ⟨top, htop⟩ : ∃ t, topV zs = t := ⟨_, rfl⟩
        rw [htop] at HTOP ⊢
        clear htop
        have hl14 := (Array.getElem?_eq_some_iff.1 t14).1
        have hlu4 := (Array.getElem?_eq_some_iff.1 u4).1
        have hlt3 := (Array.getElem?_eq_some_iff.1 t3).1
        have HS := hide (show ∀ v, Below w4.heap.size w4 v → v.cell? ⟨w1.heap.size, 2, none⟩ = some (.slice (some ⟨fb, ff, none⟩) zs.length rc) ∧ (∀ j, j < zs.length → v.cell? ⟨fb, ff + j * 3, none⟩ = some (.int .i64 (pxAt F j).1) ∧ v.cell? ⟨fb, ff + j * 3 + 1, none⟩ = some (.int .i64 (pxAt F j).2.1) ∧ v.cell? ⟨fb, ff + j * 3 + 2, none⟩ = some (.int .i64 (pxAt F j).2.2)) from fun v h => by
          obtain ⟨_, _, y2⟩ := cells3 ((h.block _ hl14).trans t14)
          refine ⟨y2, fun j hj => ?_⟩
          obtain ⟨x0, x1, x2⟩ := hfc j (by have := HFL.out; omega)
          rw [pxAt_get F j (by have := HFL.out; omega)] at x0 x1 x2
          exact ⟨(h.cell (p := ⟨fb, ff + j * 3, none⟩) hfb).trans x0, (h.cell (p := ⟨fb, ff + j * 3 + 1, none⟩) hfb).trans x1, (h.cell (p := ⟨fb, ff + j * 3 + 2, none⟩) hfb).trans x2⟩)
        have HFT := hide (show ∀ v, Below w4.heap.size w4 v → (v.cell? ⟨w.heap.size, 0, none⟩ = some (.int .i64 W) ∧ v.cell? ⟨w.heap.size, 1, none⟩ = some (.int .i64 H) ∧ v.cell? ⟨w.heap.size, 2, none⟩ = some (.slice (some ⟨bk, off, none⟩) zs.length ca)) ∧ (v.cell? ⟨w3.heap.size, 0, none⟩ = some (.int .i64 W) ∧ v.cell? ⟨w3.heap.size, 1, none⟩ = some (.int .i64 H) ∧ v.cell? ⟨w3.heap.size, 2, none⟩ = some (.slice to_ zs.length tc)) from fun v h => ⟨cells3 ((h.block _ hlu4).trans u4), cells3 ((h.block _ hlt3).trans t3)⟩)
        have HVW := hide (HV.out.below HBW.out (Nat.le_refl _))
        have hWd : Below w4.heap.size w4 w4.drew := (Below.refl _ _).drew
        have HFC := hide hfc
        clear hfc t14 u4 t3 hWd
        go_wp2_with fail
        clear p2 q2 hd hd0
        have hWd : Below w4.heap.size w4 w4.drew := (Below.refl _ _).drew
        have hSd := HS.out _ hWd
        have hmx : Try.prog.follows .mixedOrders = true := by kernel_rfl
        refine wp_region_last (S := fun v : World => v.cell? ⟨w1.heap.size, 2, none⟩ = some (.slice (some ⟨fb, ff, none⟩) zs.length rc) ∧ (∀ j, j < zs.length → v.cell? ⟨fb, ff + j * 3, none⟩ = some (.int .i64 (pxAt F j).1) ∧ v.cell? ⟨fb, ff + j * 3 + 1, none⟩ = some (.int .i64 (pxAt F j).2.1) ∧ v.cell? ⟨fb, ff + j * 3 + 2, none⟩ = some (.int .i64 (pxAt F j).2.2))) (f := 10) hmx ?_
        show wpAnyF _ _ _ _ _ _ 11 _ _ w4.drew
        refine wpAnyF_takeD (i := 0) (oi := _) (v := ?vv1) (some 47) rfl rfl (by kernel_rfl) (by kernel_rfl) (by kernel_rfl) (by kernel_rfl) (by kernel_rfl) (fun _ _ _ h => h) (Or.inl ⟨by rfl, ?yy1⟩) hSd ?rr1
        case yy1 => (intro wq hSq; obtain ⟨_, _⟩ := hSq; go_simp <;> with_reducible rfl)
        simp only [Act.put, List.setIfInBounds_toArray, List.set_cons_succ, List.set_cons_zero]
        refine wpAnyF_takeD (i := 1) (oi := _) (v := ?vv2) (some 48) rfl rfl (by kernel_rfl) (by kernel_rfl) (by kernel_rfl) (by kernel_rfl) (by kernel_rfl) (fun _ _ _ h => h) (Or.inl ⟨by rfl, ?yy2⟩) hSd ?rr2
        case yy2 => (intro wq hSq; obtain ⟨_, _⟩ := hSq; go_simp <;> with_reducible rfl)
        simp only [Act.put, List.setIfInBounds_toArray, List.set_cons_succ, List.set_cons_zero]
        refine wpAnyF_takeD (i := 2) (oi := _) (v := ?vv3) (some 49) rfl rfl (by kernel_rfl) (by kernel_rfl) (by kernel_rfl) (by kernel_rfl) (by kernel_rfl) (fun _ _ _ h => h) (Or.inl ⟨by rfl, ?yy3⟩) hSd ?rr3
        case yy3 => (intro wq hSq; obtain ⟨_, _⟩ := hSq; go_simp <;> with_reducible rfl)
        simp only [Act.put, List.setIfInBounds_toArray, List.set_cons_succ, List.set_cons_zero]
        refine wpAnyF_takeD (i := 3) (oi := _) (v := ?vv4) (some 50) rfl rfl (by kernel_rfl) (by kernel_rfl) (by kernel_rfl) (by kernel_rfl) (by kernel_rfl) (fun _ _ _ h => h) (Or.inl ⟨by rfl, ?yy4⟩) hSd ?rr4
        case yy4 => (intro wq hSq; obtain ⟨_, _⟩ := hSq; go_simp <;> with_reducible rfl)
        simp only [Act.put, List.setIfInBounds_toArray, List.set_cons_succ, List.set_cons_zero]
        refine wpAnyF_takeD (i := 4) (oi := _) (v := ?vv5) (some 51) rfl rfl (by kernel_rfl) (by kernel_rfl) (by kernel_rfl) (by kernel_rfl) (by kernel_rfl) (fun _ _ _ h => h) (Or.inl ⟨by rfl, ?yy5⟩) hSd ?rr5
        case yy5 => (intro wq hSq; obtain ⟨_, _⟩ := hSq; go_simp <;> with_reducible rfl)
        simp only [Act.put, List.setIfInBounds_toArray, List.set_cons_succ, List.set_cons_zero]
        refine wpAnyF_takeD (i := 5) (oi := _) (v := ?vv6) (some 52) rfl rfl (by kernel_rfl) (by kernel_rfl) (by kernel_rfl) (by kernel_rfl) (by kernel_rfl) (fun _ _ _ h => h) (Or.inl ⟨by rfl, ?yy6⟩) hSd ?rr6
        case yy6 => (intro wq hSq; obtain ⟨_, _⟩ := hSq; go_simp <;> with_reducible rfl)
        simp only [Act.put, List.setIfInBounds_toArray, List.set_cons_succ, List.set_cons_zero]
        refine wpAnyF_two (i := 6) (j := 9) (oi := _) (oj := _) (by kernel_rfl) rfl rfl (fun K' hK => ?brA) (fun K' hK => ?brB)
        case brA =>
          rw [if_pos (by rfl)]
          go_simp
          refine (HCH.out _).mono ?_
          rintro e V1 ⟨⟨j, hj, rfl⟩, rfl⟩
          refine hK.out _ _ hSd ?_
          clear hK
          try simp only [Act.put]
          have hjI : (j : Int) < (zs.length : Int) := by omega
          obtain ⟨ht0, ht1, ht2⟩ := HTOP.out j hj
          obtain ⟨⟨r, g, u⟩, hpx⟩ : ∃ t, pxAt F j = t := ⟨_, rfl⟩
          rw [hpx] at ht0 ht1 ht2
          simp only at ht0 ht1 ht2
          have dt0 : decide (r ≤ top) = true := by simpa using ht0
          have dt1 : decide (g ≤ top) = true := by simpa using ht1
          have dt2 : decide (u ≤ top) = true := by simpa using ht2
          refine wpAnyF_takeD (i := 7) (oi := _) (v := ?vv7) (some 54) rfl rfl (by kernel_rfl) (by kernel_rfl) (by kernel_rfl) (by kernel_rfl) (by kernel_rfl) (fun _ _ _ h => h) (Or.inl ⟨by rfl, ?yy7⟩) hSd ?rr7
          case yy7 => (intro wq hSq; obtain ⟨_, hall⟩ := hSq; obtain ⟨x0, x1, x2⟩ := hall j hj; rw [hpx] at x0 x1 x2; clear hall; go_simp <;> with_reducible rfl)
          simp only [Act.put, List.setIfInBounds_toArray, List.set_cons_succ, List.set_cons_zero]
          refine wpAnyF_takeD (i := 8) (oi := _) (v := ?vv8) (some 55) rfl rfl (by kernel_rfl) (by kernel_rfl) (by kernel_rfl) (by kernel_rfl) (by kernel_rfl) (fun _ _ _ h => h) (Or.inl ⟨by rfl, ?yy8⟩) hSd ?rr8
          case yy8 => (intro wq hSq; obtain ⟨_, hall⟩ := hSq; obtain ⟨x0, x1, x2⟩ := hall j hj; rw [hpx] at x0 x1 x2; clear hall; go_simp <;> with_reducible rfl)
          simp only [Act.put, List.setIfInBounds_toArray, List.set_cons_succ, List.set_cons_zero]
          refine wpAnyF_one (i := 9) (o := _) (by kernel_rfl) rfl (fun K' hK => ?_)
          rw [if_pos (by rfl)]
          go_simp
          have hBz : Below w4.heap.size w4 (w4.drew.alloc (Obj.cells #[.int .i64 0, .int .i64 0, .int .i64 0] 50)) := hWd.alloc hWd.size _
          have hSd := HS.out _ hBz
          refine hK.out _ _ hSd ?_
          clear hK
          try simp only [Act.put]
          refine wpAnyF_last (o := _) (by kernel_rfl) rfl (fun K' hK => ?_)
          rw [if_pos (by rfl)]
          go_simp
          refine hK.out _ _ ?_
          clear hK
          refine wpAnyF_done (by kernel_rfl) ?_ _
          try simp only [Act.put]
          have vB : Below w4.heap.size w4 (w4.alloc (Obj.cells #[.int .i64 r, .int .i64 g, .int .i64 u] 50)).drew := (bel_alloc w4 _).drew
          have vS : (w4.alloc (Obj.cells #[.int .i64 r, .int .i64 g, .int .i64 u] 50)).drew.heap[w4.heap.size]? = some (Obj.cells #[.int .i64 r, .int .i64 g, .int .i64 u] 50) := al1 w4 (Obj.cells #[.int .i64 r, .int .i64 g, .int .i64 u] 50)
          generalize (w4.alloc (Obj.cells #[.int .i64 r, .int .i64 g, .int .i64 u] 50)).drew = V at *
          generalize w4.heap.size = SB at vS ⊢
          have hlS := (Array.getElem?_eq_some_iff.1 vS).1
          clear hSd
          go_wp2_with fail
          refine (mosaicBegun_any _).mono ?_
          rintro e V3 ⟨rfl, hb5⟩
          have hB5 := bel_trans vB hb5
          obtain ⟨⟨y0, y1, y2⟩, y3, y4, y5⟩ := HFT.out _ hB5
          go_wp2_with fail
          refine (samePlanes_any W H W H _ _ zs zs _ (HT4.out.below hB5 (Nat.le_refl _)) (HVW.out.below hB5 (Nat.le_refl _))).mono ?_
          rintro e V4 ⟨rfl, hb6⟩
          rw [show decide (W = W ∧ H = H ∧ zs = zs) = true by simp]
          have hlS3 := Nat.lt_of_lt_of_le hlS hb5.size
          obtain ⟨d0, d1, d2⟩ := cells3 ((hb6.block SB hlS3).trans ((hb5.block SB hlS).trans vS))
          have HFIN := hide (HBW.out.trans ((bel_trans hB5 hb6).mono HBW.out.size))
          clear y0 y1 y2 y3 y4 y5
          go_wp2
          go_ret
          exact ⟨rfl, HFIN.out⟩
        case brB =>
          rw [if_pos (by rfl)]
          go_simp
          have hBz : Below w4.heap.size w4 (w4.drew.alloc (Obj.cells #[.int .i64 0, .int .i64 0, .int .i64 0] 50)) := hWd.alloc hWd.size _
          have hSd := HS.out _ hBz
          refine hK.out _ _ hSd ?_
          clear hK
          try simp only [Act.put]
          refine wpAnyF_one (i := 6) (o := _) (by kernel_rfl) rfl (fun K' hK => ?_)
          rw [if_pos (by rfl)]
          go_simp
          refine (HCH.out _).mono ?_
          rintro e V1 ⟨⟨j, hj, rfl⟩, rfl⟩
          have hSd := hSd
          refine hK.out _ _ hSd ?_
          clear hK
          try simp only [Act.put]
          have hjI : (j : Int) < (zs.length : Int) := by omega
          obtain ⟨ht0, ht1, ht2⟩ := HTOP.out j hj
          obtain ⟨⟨r, g, u⟩, hpx⟩ : ∃ t, pxAt F j = t := ⟨_, rfl⟩
          rw [hpx] at ht0 ht1 ht2
          simp only at ht0 ht1 ht2
          have dt0 : decide (r ≤ top) = true := by simpa using ht0
          have dt1 : decide (g ≤ top) = true := by simpa using ht1
          have dt2 : decide (u ≤ top) = true := by simpa using ht2
          refine wpAnyF_takeD (i := 7) (oi := _) (v := ?vv9) (some 54) rfl rfl (by kernel_rfl) (by kernel_rfl) (by kernel_rfl) (by kernel_rfl) (by kernel_rfl) (fun _ _ _ h => h) (Or.inl ⟨by rfl, ?yy9⟩) hSd ?rr9
          case yy9 => (intro wq hSq; obtain ⟨_, hall⟩ := hSq; obtain ⟨x0, x1, x2⟩ := hall j hj; rw [hpx] at x0 x1 x2; clear hall; go_simp <;> with_reducible rfl)
          simp only [Act.put, List.setIfInBounds_toArray, List.set_cons_succ, List.set_cons_zero]
          refine wpAnyF_takeD (i := 8) (oi := _) (v := ?vv10) (some 55) rfl rfl (by kernel_rfl) (by kernel_rfl) (by kernel_rfl) (by kernel_rfl) (by kernel_rfl) (fun _ _ _ h => h) (Or.inl ⟨by rfl, ?yy10⟩) hSd ?rr10
          case yy10 => (intro wq hSq; obtain ⟨_, hall⟩ := hSq; obtain ⟨x0, x1, x2⟩ := hall j hj; rw [hpx] at x0 x1 x2; clear hall; go_simp <;> with_reducible rfl)
          simp only [Act.put, List.setIfInBounds_toArray, List.set_cons_succ, List.set_cons_zero]
          have gz : (w4.drew.alloc (Obj.cells #[.int .i64 0, .int .i64 0, .int .i64 0] 50)).heap[w4.heap.size]? = some (Obj.cells #[.int .i64 0, .int .i64 0, .int .i64 0] 50) := al1 w4.drew (Obj.cells #[.int .i64 0, .int .i64 0, .int .i64 0] 50)
          obtain ⟨z0, z1, z2⟩ := cells3 gz
          have f0 := Lib.frozen_of_heap gz 0
          have f1 := Lib.frozen_of_heap gz 1
          have f2 := Lib.frozen_of_heap gz 2
          refine wpAnyF_last (o := _) (by kernel_rfl) rfl (fun K' hK => ?_)
          rw [if_pos (by rfl)]
          go_simp
          refine hK.out _ _ ?_
          clear hK
          refine wpAnyF_done (by kernel_rfl) ?_ _
          try simp only [Act.put]
          have vB : Below w4.heap.size w4 (w4.alloc (Obj.cells #[.int .i64 r, .int .i64 g, .int .i64 u] 50)).drew := (bel_alloc w4 _).drew
          have vS : (w4.alloc (Obj.cells #[.int .i64 r, .int .i64 g, .int .i64 u] 50)).drew.heap[w4.heap.size]? = some (Obj.cells #[.int .i64 r, .int .i64 g, .int .i64 u] 50) := al1 w4 (Obj.cells #[.int .i64 r, .int .i64 g, .int .i64 u] 50)
          clear z0 z1 z2 f0 f1 f2
          generalize (w4.alloc (Obj.cells #[.int .i64 r, .int .i64 g, .int .i64 u] 50)).drew = V at *
          generalize w4.heap.size = SB at vS ⊢
          have hlS := (Array.getElem?_eq_some_iff.1 vS).1
          clear hSd
          go_wp2_with fail
          refine (mosaicBegun_any _).mono ?_
          rintro e V3 ⟨rfl, hb5⟩
          have hB5 := bel_trans vB hb5
          obtain ⟨⟨y0, y1, y2⟩, y3, y4, y5⟩ := HFT.out _ hB5
          go_wp2_with fail
          refine (samePlanes_any W H W H _ _ zs zs _ (HT4.out.below hB5 (Nat.le_refl _)) (HVW.out.below hB5 (Nat.le_refl _))).mono ?_
          rintro e V4 ⟨rfl, hb6⟩
          rw [show decide (W = W ∧ H = H ∧ zs = zs) = true by simp]
          have hlS3 := Nat.lt_of_lt_of_le hlS hb5.size
          obtain ⟨d0, d1, d2⟩ := cells3 ((hb6.block SB hlS3).trans ((hb5.block SB hlS).trans vS))
          have HFIN := hide (HBW.out.trans ((bel_trans hB5 hb6).mono HBW.out.size))
          clear y0 y1 y2 y3 y4 y5
          go_wp2
          go_ret
          exact ⟨rfl, HFIN.out⟩
  · obtain ⟨E, hEE⟩ : ∃ E, fillE W H zs phase = E := ⟨_, rfl⟩
    rw [hEE] at hE HB
    rw [show okW E W = 0 by rw [okW, if_neg hE], show okW E H = 0 by rw [okW, if_neg hE], show okL E (fillL W H zs phase) = [] by rw [okL, if_neg hE]] at HB
    have hd : (E != 0) = true := by simpa using hE
    clear hEE hcs
    go_enter Try.func5, Try.ntmps5
    go_wp2_with fail
    generalize w.alloc (Obj.cells #[.int .i64 W, .int .i64 H, .slice ao zs.length ca] 24) = U at *
    refine HB.out.mono ?_
    rintro e w1 ⟨r, rfl, hr, hb1, _⟩
    obtain ⟨ro, rc, rfl, _, _⟩ := hr
    go_wp2_with fail
    refine (mosaicBegun_any _).mono ?_
    rintro e w3 ⟨rfl, hb3⟩
    go_wp2
    go_ret
    exact ⟨rfl, bel_trans HU.out (bel_trans (bel_trans hb1 (bel_alloc _ _)) hb3)⟩

end Go.Proofs.Ytolcndchfnifhab
