/- ToneFlat: a picture of one colour stays as it is; with the amount 0 any does. -/
import Derived.Test.YtolcndchfnifhabToneBegun
import Derived.Test.YtolcndchfnifhabFlatMath
namespace Go.Proofs.Ytolcndchfnifhab
open Go.RowKit

theorem rep_snoc (k : Nat) (c : Px) : (List.replicate (k + 1) c).flatMap pixL = (List.replicate k c).flatMap pixL ++ pixL c := by
  rw [List.replicate_succ', List.flatMap_append]; simp
theorem rep_at (N : Nat) (c : Px) (j : Nat) (h : j < N) : pxAt (List.replicate N c) j = c := by
  simp [pxAt, List.getD_eq_getElem?_getD, h]

/-- what a round of the loop that appends a pixel leaves. -/
theorem flat_tail {wr w2 w : World} {base PB : Nat} {W H : Int} {so : Option Addr} {scap k g cap : Nat} {c : Px} {xs : List Value}
    (i1 : wr.heap[PB]? = some (.cells #[.int .i64 W, .int .i64 H, .slice so k scap] 39 (0, 0))) (i2 : wr.ownsRow base 50 3 (.slice so k scap) k xs) (i3 : wr.heap[w.heap.size]? = some (.cells (pixA c) 50 (0, 0)))
    (i5 : Below w.heap.size w wr) (hb : w.heap.size < base) (hPB : w.heap.size < PB) (hg : (wr.alloc (Obj.cells (pixA c) 50)).grownBy w2 (Value.slice so k scap).ownBlock)
    (ho : w2.ownsRow base 50 3 (.slice (some ⟨g, 0, none⟩) (k + 1) cap) (k + 1) (xs ++ pixL c)) :
    w2.cell? ⟨PB, 2, none⟩ = some (.slice so k scap) ∧ w2.frozen? ⟨PB, 2, none⟩ = false ∧
      (w2.setCell ⟨PB, 2, none⟩ (.slice (some ⟨g, 0, none⟩) (k + 1) cap)).heap[PB]? = some (.cells #[.int .i64 W, .int .i64 H, .slice (some ⟨g, 0, none⟩) (k + 1) cap] 39 (0, 0)) ∧
      (w2.setCell ⟨PB, 2, none⟩ (.slice (some ⟨g, 0, none⟩) (k + 1) cap)).ownsRow base 50 3 (.slice (some ⟨g, 0, none⟩) (k + 1) cap) (k + 1) (xs ++ pixL c) ∧
      (w2.setCell ⟨PB, 2, none⟩ (.slice (some ⟨g, 0, none⟩) (k + 1) cap)).heap[w.heap.size]? = some (.cells (pixA c) 50 (0, 0)) ∧ Below w.heap.size w (w2.setCell ⟨PB, 2, none⟩ (.slice (some ⟨g, 0, none⟩) (k + 1) cap)) := by
  have l1 := (Array.getElem?_eq_some_iff.1 i1).1
  have l3 := (Array.getElem?_eq_some_iff.1 i3).1
  have n3 : some w.heap.size ≠ (Value.slice so k scap).ownBlock := fun e => by have := (i2.lt _ e.symm).1; omega
  have kP : w2.heap[PB]? = some (.cells #[.int .i64 W, .int .i64 H, .slice so k scap] 39 (0, 0)) := by
    rw [hg.block PB (by simp; omega) (own_ne i2 i1 (by decide)), Below.heap_alloc _ _ _ l1]; exact i1
  have k3 : w2.heap[w.heap.size]? = some (.cells (pixA c) 50 (0, 0)) := by
    rw [hg.block w.heap.size (by simp; omega) n3, Below.heap_alloc _ _ _ l3]; exact i3
  have hs := heap_setCell_same w2 PB 2 _ _ (.slice (some ⟨g, 0, none⟩) (k + 1) cap) kP
  have hsz := i5.size
  refine ⟨by rw [Lib.cell_of_heap kP]; rfl, Lib.frozen_of_heap kP 2, by rw [hs]; rfl, ownsRow_setCell_other ho (fun e => own_ne ho kP (by decide) e.symm) _, (Below.heap_setCell _ _ _ _ (by show w.heap.size ≠ PB; omega)).trans k3, ?_⟩
  exact (((i5.alloc hsz _).grown hg (by simp; omega) (fun j hj => by have := (i2.lt j hj).1; omega))).setCell (p := ⟨PB, 2, none⟩) (Nat.le_of_lt hPB) _

set_option maxRecDepth 100000 in
set_option maxHeartbeats 3200000 in
theorem toneFlat_walk (c : Px) (W H a QW QH : Int) (v : Value) (ps : List Px) (w : World) (hv : IsPix w v ps) :
    Calls Try.prog 10 #[pixV c, .int .i64 W, .int .i64 H, .int .i64 a, .agg #[.int .i64 QW, .int .i64 QH, v]] w fun e w' => e = .returned (.bool true) ∧ Below w.heap.size w w' := by
  have HV := hide hv
  obtain ⟨ao, ca, rfl, hla, _⟩ := hv
  obtain ⟨i0, hi, hz0, hz1, hz2⟩ := info_parts Try.infoPixel
  have HIN := hide (show ∀ N, N ≤ 4096 → N + 1 ≤ maxLen ∧ (N + 1) * 24 ≤ 140737488355328 from fun N h => ⟨by unfold maxLen; omega, by omega⟩)
  go_enter Try.func10, Try.ntmps10
  go_wp2_with fail
  obtain ⟨a1, a2⟩ := al2 w (Obj.cells (pixA c) 50) (Obj.cells #[.int .i64 QW, .int .i64 QH, .slice ao ps.length ca] 39)
  have hB := be2 w (Obj.cells (pixA c) 50) (Obj.cells #[.int .i64 QW, .int .i64 QH, .slice ao ps.length ca] 39)
  have hs2 : ((w.alloc (Obj.cells (pixA c) 50)).alloc (Obj.cells #[.int .i64 QW, .int .i64 QH, .slice ao ps.length ca] 39)).heap.size = w.heap.size + 2 := by simp
  generalize (w.alloc (Obj.cells (pixA c) 50)).alloc (Obj.cells #[.int .i64 QW, .int .i64 QH, .slice ao ps.length ca] 39) = U at *
  replace hs2 := Nat.le_of_eq hs2.symm
  refine (sharpen_any QW QH _ ps 0 U (HV.out.below hB (Nat.le_refl _))).mono ?_
  rintro e w1 ⟨r, rfl, hr, hb1, _⟩
  have hU1 := hb1
  have hsU := hb1.size
  have HB1 := hide (hB.trans (hb1.mono hB.size))
  have HC1 := hide ((hb1.block w.heap.size (by omega)).trans a1)
  obtain ⟨p0, p1, p2⟩ := cells3 ((hb1.block (w.heap.size + 1) (by omega)).trans a2)
  have HVU := hide (HV.out.below HB1.out (Nat.le_refl _))
  have hl1 : w.heap.size + 1 < w1.heap.size := by omega
  clear a1 a2 hB hb1 hU1
  have hcs : (picOk QW QH ps = true ∧ sharpE QW QH ps 0 = 0) ∨ (picOk QW QH ps = false ∧ sharpE QW QH ps 0 = 1) := by
    by_cases h : picOk QW QH ps = true
    · exact .inl ⟨h, by rw [sharpE, if_pos h]; rfl⟩
    · exact .inr ⟨by simpa using h, by rw [sharpE, if_neg h]⟩
  by_cases hin : (1 ≤ W ∧ W ≤ 64) ∧ (1 ≤ H ∧ H ≤ 64)
  · obtain ⟨⟨w1', w2'⟩, h1', h2'⟩ := hin
    obtain ⟨WN, rfl⟩ := Int.eq_ofNat_of_zero_le (show 0 ≤ W by omega)
    obtain ⟨HN, rfl⟩ := Int.eq_ofNat_of_zero_le (show 0 ≤ H by omega)
    obtain ⟨N, hN⟩ : ∃ N : Nat, N = HN * WN := ⟨_, rfl⟩
    have hNi : (WN : Int) * (HN : Int) = (N : Int) := by rw [hN, Nat.mul_comm]; simp
    have hNb : N ≤ 4096 := by rw [hN]; exact Nat.le_trans (Nat.mul_le_mul (show HN ≤ 64 by omega) (show WN ≤ 64 by omega)) (by decide)
    have HN' := hide hN
    clear hN
    rcases hcs with ⟨hp, he⟩ | ⟨hp, he⟩
    all_goals first
      | (rw [he] at hr ⊢
         have hr' : IsPix w1 r ps := by
           have h := hr
           rw [show okL 0 (sharpL QW QH ps 0) = sharpL QW QH ps 0 from rfl, sharpL_zero (picOk_parts hp).2.2.2] at h
           exact h
         have HR := hide hr'
         clear hr he
         obtain ⟨ro, rc, rfl, _, _⟩ := hr'
         simp only [okW, if_true]
         clear hp
         go_wp2_with fail
         refine (samePictures_any QW QH _ ps QW QH _ ps _ (HR.out.alloc _) (HVU.out.alloc _)).mono ?_
         rintro e w3 ⟨rfl, hb3⟩
         rw [show sameB QW QH ps QW QH ps = true by simp [sameB]]
         have HBM := hide (HB1.out.trans ((bel_trans (bel_alloc w1 _) hb3).mono HB1.out.size))
         have HCM := hide (((bel_trans (bel_alloc w1 _) hb3).block w.heap.size (by omega)).trans HC1.out)
         clear p0 p1 p2 HVU HR HB1 HC1 hb3)
      | (rw [he] at hr ⊢
         rw [show okL 1 (sharpL QW QH ps 0) = [] from rfl] at hr
         obtain ⟨ro, rc, rfl, _, _⟩ := hr
         rw [List.length_nil]
         obtain ⟨w3, hw3⟩ : ∃ w3, w1.alloc (Obj.cells #[.int .i64 0, .int .i64 0, .slice ro 0 rc] 39) = w3 := ⟨_, rfl⟩
         have HBM := hide (show Below w.heap.size w w3 by rw [← hw3]; exact HB1.out.alloc HB1.out.size _)
         have HCM := hide (show w3.heap[w.heap.size]? = some (.cells (pixA c) 50 (0, 0)) by rw [← hw3]; exact (Below.heap_alloc _ _ _ (by omega)).trans HC1.out)
         have HW3 := hide hw3
         have HS31 := hide (show w1.heap.size + 1 = w3.heap.size by rw [← hw3]; simp)
         clear p0 p1 p2 HVU HB1 HC1 hw3 he hp
         simp only [okW, show ¬ (1 : Int) = 0 by decide, if_false])
    all_goals
      go_wp2_with fail
      try rw [HW3.out, HS31.out]
      have hlw := (Array.getElem?_eq_some_iff.1 HCM.out).1
      have j1 := al1 w3 (Obj.cells #[.int .i64 (WN : Nat), .int .i64 (HN : Nat), .slice none 0 0] 39)
      have j3 := (Below.heap_alloc w3 (Obj.cells #[.int .i64 (WN : Nat), .int .i64 (HN : Nat), .slice none 0 0] 39) w.heap.size hlw).trans HCM.out
      have j5 := HBM.out.alloc HBM.out.size (Obj.cells #[.int .i64 (WN : Nat), .int .i64 (HN : Nat), .slice none 0 0] 39)
      go_loopw [14] (fun i wr => ∃ k : Nat, k ≤ N ∧ i = .int .i64 k ∧ ∃ so scap, wr.heap[w3.heap.size]? = some (.cells #[.int .i64 (WN : Nat), .int .i64 (HN : Nat), .slice so k scap] 39 (0, 0)) ∧ wr.ownsRow w3.heap.size 50 3 (.slice so k scap) k ((List.replicate k c).flatMap pixL) ∧ wr.heap[w.heap.size]? = some (.cells (pixA c) 50 (0, 0)) ∧ Below w.heap.size w wr) (fun i _ => N - (intOf i).toNat)
      case atStart => exact ⟨0, Nat.zero_le _, rfl, none, 0, j1, World.ownsRow_nil _ _ _ _, j3, j5⟩
      case round =>
        clear j1 j3 j5
        obtain ⟨k, hk, rfl, so, scap, i1, i2, i3, i5⟩ := hrel
        obtain ⟨p0, p1, p2⟩ := cells3 i1
        have hl1' := (Array.getElem?_eq_some_iff.1 i1).1
        by_cases hlt : k < N
        · have hd : decide ((k : Int) < (N : Int)) = true := by simp; omega
          obtain ⟨c0, c1, c2⟩ := cells3 i3
          have hbw : w3.heap.size ≤ (wr.alloc (Obj.cells (pixA c) 50)).heap.size := by simp; omega
          go_wp2_with (at_builtin; refine wpList_append_lies _ rfl _ _ 37 rfl w3.heap.size 50 i0 pixZ 3 24 Try.underlying37 hi hz0 hz1 hz2 rfl (by decide) _ _ _ rfl (i2.alloc _) ⟨wr.heap.size, 0, none⟩ 1 1 (pixL c) rfl rfl (World.news_of_block (al1 wr _)) (fun u hu => by simp [pixL] at hu; rcases hu with rfl | rfl | rfl <;> rfl) Nat.one_pos (HIN.out k (by omega)).1 (HIN.out k (by omega)).2 hbw _ rfl ?_; intro g cap w4 hown hgrow hat hltg; obtain ⟨q2, qf, f1, f2, f3, f5⟩ := flat_tail i1 i2 i3 i5 (by omega) (by omega) hgrow hown; clear hown hgrow hat hltg)
          go_roundw
          case rel => exact ⟨k + 1, by omega, by go_num, some ⟨g, 0, none⟩, cap, f1, by rw [rep_snoc]; exact f2, f3, f5⟩
          case measure => simp [intOf]; omega
        · have hd : decide ((k : Int) < (N : Int)) = false := by simp; omega
          obtain rfl : k = N := by omega
          have hpx : IsPix wr (.slice so (List.replicate k c).length scap) (List.replicate k c) := IsPix.own (base := w3.heap.size) (by rw [List.length_replicate]; exact i2) (by rw [List.length_replicate]; omega)
          have HPX := hide hpx
          rw [List.length_replicate] at HPX
          have HSH := hide (sharpen_any WN HN _ (List.replicate k c) a wr hpx)
          rw [List.length_replicate] at HSH
          have HFL := hide (show sharpE WN HN (List.replicate k c) a = 0 → sharpL WN HN (List.replicate k c) a = List.replicate k c from fun he => by
            have hp : picOk WN HN (List.replicate k c) = true := by
              by_cases h : picOk WN HN (List.replicate k c) = true
              · exact h
              · rw [sharpE, if_neg h] at he; cases he
            exact sharpL_flat (by omega) (by omega) (by rw [List.length_replicate]; exact HN'.out) (picOk_parts hp).2.2.2 (fun j hj => rep_at k c j (by rw [HN'.out]; exact hj)))
          clear hpx
          go_wp2_with fail
          refine HSH.out.mono ?_
          rintro e w4 ⟨r, rfl, hr, hb4, _⟩
          obtain ⟨E2, hE2⟩ : ∃ E2, sharpE WN HN (List.replicate k c) a = E2 := ⟨_, rfl⟩
          rw [hE2] at hr HFL ⊢
          have HR := hide hr
          obtain ⟨ro, rc, rfl, _, _⟩ := hr
          have g1 := (hb4.block w3.heap.size hl1').trans i1
          have HP4 := hide (HPX.out.below hb4 (Nat.le_refl _))
          have HB4 := hide (i5.trans (hb4.mono i5.size))
          have hl4 := (Array.getElem?_eq_some_iff.1 g1).1
          clear hE2 p0 p1 p2 i1 i2 i3 hb4
          go_wp2_with fail
          refine (toneBegun_any _).mono ?_
          rintro e w5 ⟨rfl, hb5⟩
          have hb45 := bel_trans (bel_alloc w4 _) hb5
          have HB5 := hide (HB4.out.trans (hb45.mono HB4.out.size))
          by_cases h0 : E2 = 0
          · subst h0
            rw [show okL 0 (sharpL WN HN (List.replicate k c) a) = sharpL WN HN (List.replicate k c) a from rfl, HFL.out rfl, List.length_replicate] at HR
            obtain ⟨u0, u1, u2⟩ := cells3 ((hb5.block w4.heap.size (by simp)).trans (al1 w4 _))
            obtain ⟨t0, t1, t2⟩ := cells3 ((hb45.block w3.heap.size hl4).trans g1)
            have HLL := hide (show (okL 0 (sharpL WN HN (List.replicate k c) a)).length = k by rw [show okL 0 (sharpL WN HN (List.replicate k c) a) = sharpL WN HN (List.replicate k c) a from rfl, HFL.out rfl, List.length_replicate])
            rw [HLL.out] at u2
            simp only [okW, if_true] at u0 u1
            have HR5 := hide (HR.out.below hb45 (Nat.le_refl _))
            have HP5 := hide (HP4.out.below hb45 (Nat.le_refl _))
            clear HR HFL hb5 hb45 g1
            go_wp2_with fail
            refine (samePictures_any WN HN _ (List.replicate k c) WN HN _ (List.replicate k c) _ HR5.out HP5.out).mono ?_
            rintro e w6 ⟨rfl, hb6⟩
            rw [show sameB WN HN (List.replicate k c) WN HN (List.replicate k c) = true by simp [sameB]]
            go_wp2
            go_ret
            exact ⟨rfl, HB5.out.trans (hb6.mono HB5.out.size)⟩
          · have hb0 : (E2 != 0) = true := by simpa using h0
            clear h0 HR HFL
            go_wp2
            go_ret
            exact ⟨rfl, HB5.out⟩
  · have hor : W < 1 ∨ (1 ≤ W ∧ 64 < W) ∨ (1 ≤ W ∧ W ≤ 64 ∧ H < 1) ∨ (1 ≤ W ∧ W ≤ 64 ∧ 1 ≤ H ∧ 64 < H) := by omega
    clear hin
    rcases hor with h1 | ⟨h1, h2⟩ | ⟨h1, h2, h3⟩ | ⟨h1, h2, h3, h4⟩ <;> rcases hcs with ⟨hp, he⟩ | ⟨hp, he⟩
    all_goals first
      | (rw [he] at hr ⊢
         have hr' : IsPix w1 r ps := by
           have h := hr
           rw [show okL 0 (sharpL QW QH ps 0) = sharpL QW QH ps 0 from rfl, sharpL_zero (picOk_parts hp).2.2.2] at h
           exact h
         have HR := hide hr'
         clear hr he
         obtain ⟨ro, rc, rfl, _, _⟩ := hr'
         simp only [okW, if_true]
         clear hp
         go_wp2_with fail
         refine (samePictures_any QW QH _ ps QW QH _ ps _ (HR.out.alloc _) (HVU.out.alloc _)).mono ?_
         rintro e w3 ⟨rfl, hb3⟩
         rw [show sameB QW QH ps QW QH ps = true by simp [sameB]]
         have HBM := hide (HB1.out.trans ((bel_trans (bel_alloc w1 _) hb3).mono HB1.out.size))
         have HCM := hide (((bel_trans (bel_alloc w1 _) hb3).block w.heap.size (by omega)).trans HC1.out)
         clear p0 p1 p2 HVU HR HB1 HC1 hb3)
      | (rw [he] at hr ⊢
         rw [show okL 1 (sharpL QW QH ps 0) = [] from rfl] at hr
         obtain ⟨ro, rc, rfl, _, _⟩ := hr
         rw [List.length_nil]
         obtain ⟨w3, hw3⟩ : ∃ w3, w1.alloc (Obj.cells #[.int .i64 0, .int .i64 0, .slice ro 0 rc] 39) = w3 := ⟨_, rfl⟩
         have HBM := hide (show Below w.heap.size w w3 by rw [← hw3]; exact HB1.out.alloc HB1.out.size _)
         have HCM := hide (show w3.heap[w.heap.size]? = some (.cells (pixA c) 50 (0, 0)) by rw [← hw3]; exact (Below.heap_alloc _ _ _ (by omega)).trans HC1.out)
         have HW3 := hide hw3
         have HS31 := hide (show w1.heap.size + 1 = w3.heap.size by rw [← hw3]; simp)
         clear p0 p1 p2 HVU HB1 HC1 hw3 he hp
         simp only [okW, show ¬ (1 : Int) = 0 by decide, if_false])
    all_goals
      go_wp2_with fail
      refine (toneBegun_any _).mono ?_
      rintro e w4 ⟨rfl, hb4⟩
      go_wp2
      go_ret
      first
        | exact ⟨rfl, HBM.out.trans (hb4.mono HBM.out.size)⟩
        | (rw [HW3.out] at hb4; exact ⟨rfl, HBM.out.trans (hb4.mono HBM.out.size)⟩)

end Go.Proofs.Ytolcndchfnifhab
