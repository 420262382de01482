/- The reference's ReadDiff, whatever it is handed; darkslidelaw.DiffReads: the walk. -/
import Derived.Test.YtolcndchfnifhaaRefReadDiff
import Derived.Test.YtolcndchfnifhaaDiffBegun
namespace Go.Proofs.Ytolcndchfnifhaa
open Go.RowKit

set_option maxRecDepth 100000 in
set_option maxHeartbeats 800000 in
theorem readDiff_any (sb : List UInt8) (W H kind : Int) (v : Value) (xs : List Int) (w : World) (hv : IsInts w v xs) :
    Calls Try.prog 50 #[.string (str sb), .int .i64 W, .int .i64 H, .int .i64 kind, v] w fun e w' => ∃ r, e = .returned (.tuple #[.agg #[.int .i64 (readDW sb W H kind xs), .int .i64 (readDH sb W H kind xs), r], .int .i64 (readDE sb W H kind xs)]) ∧ IsInts w' r (readDZ sb W H kind xs) ∧ Below w.heap.size w w' := by
  have hws : (str sb).size = sb.length := str_size sb
  by_cases hW : sideOk W = true
  · have hsW : decide (1 ≤ W ∧ W ≤ 64) = true := hW
    by_cases hH : sideOk H = true
    · have hsH : decide (1 ≤ H ∧ H ≤ 64) = true := hH
      by_cases hk : kindOk kind = true
      · have hsK : decide (1 ≤ kind ∧ kind ≤ 7) = true := hk
        by_cases hE : checkE xs = 0
        · have b1 : 1 ≤ W ∧ W ≤ 64 := by simpa [sideOk] using hW
          have b2 : 1 ≤ H ∧ H ≤ 64 := by simpa [sideOk] using hH
          obtain ⟨WN, rfl⟩ := Int.eq_ofNat_of_zero_le (show 0 ≤ W by omega)
          obtain ⟨HN, rfl⟩ := Int.eq_ofNat_of_zero_le (show 0 ≤ H by omega)
          by_cases hl : sb.length ≤ 32768
          · exact readDiff_walk sb WN HN kind v xs w hv hW hH hk hE hl
          · have HNE := hide (show readDE sb WN HN kind xs = 1 by
              have h4 : WN * HN ≤ 4096 := Nat.le_trans (Nat.mul_le_mul (show WN ≤ 64 by omega) (show HN ≤ 64 by omega)) (by decide)
              have hn : readD sb WN HN kind xs = none := by rw [readD, Int.toNat_natCast, Int.toNat_natCast]; exact if_neg (by omega)
              rw [readDE, if_pos ⟨hW, hH⟩, if_pos hk, if_pos hE, hn]; rfl)
            have hl32 : decide (32768 < (sb.length : Int)) = true := by simp; omega
            have HV := hide hv
            have HE := hide hE
            clear hl hv hE
            go_enter Try.func50, Try.ntmps50
            go_wp2_with fail
            have R0 := heap_alloc_new w (Obj.cells #[.int .i64 0, .int .i64 0, .slice none 0 0] 57)
            have HB0 := hide (bel_alloc w (Obj.cells #[.int .i64 0, .int .i64 0, .slice none 0 0] 57))
            have hlt0 : w.heap.size < (w.alloc (Obj.cells #[.int .i64 0, .int .i64 0, .slice none 0 0] 57)).heap.size := by simp
            generalize w.alloc (Obj.cells #[.int .i64 0, .int .i64 0, .slice none 0 0] 57) = w0 at *
            refine (within_any _ _ _ _).mono ?_
            rintro e wx ⟨rfl, rfl⟩
            rw [hsW]
            go_wp2_with fail
            refine (within_any _ _ _ _).mono ?_
            rintro e wx ⟨rfl, rfl⟩
            rw [hsH]
            go_wp2_with fail
            refine (within_any _ _ _ _).mono ?_
            rintro e wx ⟨rfl, rfl⟩
            rw [hsK]
            go_wp2_with fail
            refine (checkCode_any _ _ _ (HV.out.below HB0.out (Nat.le_refl _))).mono ?_
            rintro e wx ⟨rfl, rfl⟩
            rw [HE.out]
            go_wp2_with fail
            refine (wordsOf_any _ _ _ (HV.out.below HB0.out (Nat.le_refl _)) HE.out).mono ?_
            rintro e w1 ⟨r, rfl, hr, hb1⟩
            clear hr
            have hR1 : w1.heap[w.heap.size]? = some (.cells #[.int .i64 0, .int .i64 0, .slice none 0 0] 57 (0, 0)) := by rw [hb1.block _ hlt0]; exact R0
            have HW1 := hide (bel_trans HB0.out hb1)
            clear R0 HB0
            have q0 : w1.cell? ⟨w.heap.size, 0, none⟩ = some (.int .i64 0) := by rw [Lib.cell_of_heap hR1]; rfl
            have q1 : w1.cell? ⟨w.heap.size, 1, none⟩ = some (.int .i64 0) := by rw [Lib.cell_of_heap hR1]; rfl
            have q2 : w1.cell? ⟨w.heap.size, 2, none⟩ = some (.slice none 0 0) := by rw [Lib.cell_of_heap hR1]; rfl
            have f0 := Lib.frozen_of_heap hR1 0
            have f1 := Lib.frozen_of_heap hR1 1
            have f2 := Lib.frozen_of_heap hR1 2
            go_wp2
            refine bodyPost_ret (v := .tuple #[.agg #[.int .i64 0, .int .i64 0, .slice none 0 0], .int .i64 1]) (by simp [results, Try.results50, go_sem, q0, q1, q2]) rfl ⟨.slice none 0 0, ?_, ?_, ?_⟩
            · rw [readDW, readDH, HNE.out]; simp
            · rw [readDZ, HNE.out]; exact IsInts.nil _
            · exact ((HW1.out.setCell (p := ⟨w.heap.size, 0, none⟩) (Nat.le_refl _) _).setCell (p := ⟨w.heap.size, 1, none⟩) (Nat.le_refl _) _).setCell (p := ⟨w.heap.size, 2, none⟩) (Nat.le_refl _) _
        · have HNE := hide (show readDE sb W H kind xs = checkE xs by rw [readDE, if_pos ⟨hW, hH⟩, if_pos hk, if_neg hE])
          have hne : (checkE xs != 0) = true := by simpa using hE
          have HNZ := hide hE
          have HV := hide hv
          clear hE hv
          go_enter Try.func50, Try.ntmps50
          go_wp2_with fail
          have R0 := heap_alloc_new w (Obj.cells #[.int .i64 0, .int .i64 0, .slice none 0 0] 57)
          have HB0 := hide (bel_alloc w (Obj.cells #[.int .i64 0, .int .i64 0, .slice none 0 0] 57))
          have hlt0 : w.heap.size < (w.alloc (Obj.cells #[.int .i64 0, .int .i64 0, .slice none 0 0] 57)).heap.size := by simp
          generalize w.alloc (Obj.cells #[.int .i64 0, .int .i64 0, .slice none 0 0] 57) = w0 at *
          refine (within_any _ _ _ _).mono ?_
          rintro e wx ⟨rfl, rfl⟩
          rw [hsW]
          go_wp2_with fail
          refine (within_any _ _ _ _).mono ?_
          rintro e wx ⟨rfl, rfl⟩
          rw [hsH]
          go_wp2_with fail
          refine (within_any _ _ _ _).mono ?_
          rintro e wx ⟨rfl, rfl⟩
          rw [hsK]
          have q0 : w0.cell? ⟨w.heap.size, 0, none⟩ = some (.int .i64 0) := by rw [Lib.cell_of_heap R0]; rfl
          have q1 : w0.cell? ⟨w.heap.size, 1, none⟩ = some (.int .i64 0) := by rw [Lib.cell_of_heap R0]; rfl
          have q2 : w0.cell? ⟨w.heap.size, 2, none⟩ = some (.slice none 0 0) := by rw [Lib.cell_of_heap R0]; rfl
          have f0 := Lib.frozen_of_heap R0 0
          have f1 := Lib.frozen_of_heap R0 1
          have f2 := Lib.frozen_of_heap R0 2
          go_wp2_with fail
          refine (checkCode_any _ _ _ (HV.out.below HB0.out (Nat.le_refl _))).mono ?_
          rintro e wx ⟨rfl, rfl⟩
          go_wp2
          refine bodyPost_ret (v := .tuple #[.agg #[.int .i64 0, .int .i64 0, .slice none 0 0], .int .i64 (checkE xs)]) (by simp [results, Try.results50, go_sem, q0, q1, q2]) rfl ⟨.slice none 0 0, ?_, ?_, ?_⟩
          · rw [readDW, readDH, HNE.out, if_neg HNZ.out, if_neg HNZ.out]
          · rw [readDZ, HNE.out, if_neg HNZ.out]; exact IsInts.nil _
          · exact ((HB0.out.setCell (p := ⟨w.heap.size, 0, none⟩) (Nat.le_refl _) _).setCell (p := ⟨w.heap.size, 1, none⟩) (Nat.le_refl _) _).setCell (p := ⟨w.heap.size, 2, none⟩) (Nat.le_refl _) _
      · have HNE := hide (show readDE sb W H kind xs = 6 by rw [readDE, if_pos ⟨hW, hH⟩, if_neg hk])
        have hsK : decide (1 ≤ kind ∧ kind ≤ 7) = false := by simpa [kindOk] using hk
        clear hv
        go_enter Try.func50, Try.ntmps50
        go_wp2_with fail
        have R0 := heap_alloc_new w (Obj.cells #[.int .i64 0, .int .i64 0, .slice none 0 0] 57)
        have HB0 := hide (bel_alloc w (Obj.cells #[.int .i64 0, .int .i64 0, .slice none 0 0] 57))
        have hlt0 : w.heap.size < (w.alloc (Obj.cells #[.int .i64 0, .int .i64 0, .slice none 0 0] 57)).heap.size := by simp
        generalize w.alloc (Obj.cells #[.int .i64 0, .int .i64 0, .slice none 0 0] 57) = w0 at *
        refine (within_any _ _ _ _).mono ?_
        rintro e wx ⟨rfl, rfl⟩
        rw [hsW]
        go_wp2_with fail
        refine (within_any _ _ _ _).mono ?_
        rintro e wx ⟨rfl, rfl⟩
        rw [hsH]
        go_wp2_with fail
        refine (within_any _ _ _ _).mono ?_
        rintro e wx ⟨rfl, rfl⟩
        rw [hsK]
        have q0 : w0.cell? ⟨w.heap.size, 0, none⟩ = some (.int .i64 0) := by rw [Lib.cell_of_heap R0]; rfl
        have q1 : w0.cell? ⟨w.heap.size, 1, none⟩ = some (.int .i64 0) := by rw [Lib.cell_of_heap R0]; rfl
        have q2 : w0.cell? ⟨w.heap.size, 2, none⟩ = some (.slice none 0 0) := by rw [Lib.cell_of_heap R0]; rfl
        have f0 := Lib.frozen_of_heap R0 0
        have f1 := Lib.frozen_of_heap R0 1
        have f2 := Lib.frozen_of_heap R0 2
        go_wp2
        refine bodyPost_ret (v := .tuple #[.agg #[.int .i64 0, .int .i64 0, .slice none 0 0], .int .i64 6]) (by simp [results, Try.results50, go_sem, q0, q1, q2]) rfl ⟨.slice none 0 0, ?_, ?_, ?_⟩
        · rw [readDW, readDH, HNE.out]; simp
        · rw [readDZ, HNE.out]; exact IsInts.nil _
        · exact ((HB0.out.setCell (p := ⟨w.heap.size, 0, none⟩) (Nat.le_refl _) _).setCell (p := ⟨w.heap.size, 1, none⟩) (Nat.le_refl _) _).setCell (p := ⟨w.heap.size, 2, none⟩) (Nat.le_refl _) _
    · have HNE := hide (show readDE sb W H kind xs = 3 by rw [readDE, if_neg (fun h => hH h.2)])
      have hsH : decide (1 ≤ H ∧ H ≤ 64) = false := by simpa [sideOk] using hH
      clear hv
      go_enter Try.func50, Try.ntmps50
      go_wp2_with fail
      have R0 := heap_alloc_new w (Obj.cells #[.int .i64 0, .int .i64 0, .slice none 0 0] 57)
      have HB0 := hide (bel_alloc w (Obj.cells #[.int .i64 0, .int .i64 0, .slice none 0 0] 57))
      have hlt0 : w.heap.size < (w.alloc (Obj.cells #[.int .i64 0, .int .i64 0, .slice none 0 0] 57)).heap.size := by simp
      generalize w.alloc (Obj.cells #[.int .i64 0, .int .i64 0, .slice none 0 0] 57) = w0 at *
      refine (within_any _ _ _ _).mono ?_
      rintro e wx ⟨rfl, rfl⟩
      rw [hsW]
      go_wp2_with fail
      refine (within_any _ _ _ _).mono ?_
      rintro e wx ⟨rfl, rfl⟩
      rw [hsH]
      have q0 : w0.cell? ⟨w.heap.size, 0, none⟩ = some (.int .i64 0) := by rw [Lib.cell_of_heap R0]; rfl
      have q1 : w0.cell? ⟨w.heap.size, 1, none⟩ = some (.int .i64 0) := by rw [Lib.cell_of_heap R0]; rfl
      have q2 : w0.cell? ⟨w.heap.size, 2, none⟩ = some (.slice none 0 0) := by rw [Lib.cell_of_heap R0]; rfl
      have f0 := Lib.frozen_of_heap R0 0
      have f1 := Lib.frozen_of_heap R0 1
      have f2 := Lib.frozen_of_heap R0 2
      go_wp2
      refine bodyPost_ret (v := .tuple #[.agg #[.int .i64 0, .int .i64 0, .slice none 0 0], .int .i64 3]) (by simp [results, Try.results50, go_sem, q0, q1, q2]) rfl ⟨.slice none 0 0, ?_, ?_, ?_⟩
      · rw [readDW, readDH, HNE.out]; simp
      · rw [readDZ, HNE.out]; exact IsInts.nil _
      · exact ((HB0.out.setCell (p := ⟨w.heap.size, 0, none⟩) (Nat.le_refl _) _).setCell (p := ⟨w.heap.size, 1, none⟩) (Nat.le_refl _) _).setCell (p := ⟨w.heap.size, 2, none⟩) (Nat.le_refl _) _
  · have HNE := hide (show readDE sb W H kind xs = 3 by rw [readDE, if_neg (fun h => hW h.1)])
    have hsW : decide (1 ≤ W ∧ W ≤ 64) = false := by simpa [sideOk] using hW
    clear hv
    go_enter Try.func50, Try.ntmps50
    go_wp2_with fail
    have R0 := heap_alloc_new w (Obj.cells #[.int .i64 0, .int .i64 0, .slice none 0 0] 57)
    have HB0 := hide (bel_alloc w (Obj.cells #[.int .i64 0, .int .i64 0, .slice none 0 0] 57))
    have hlt0 : w.heap.size < (w.alloc (Obj.cells #[.int .i64 0, .int .i64 0, .slice none 0 0] 57)).heap.size := by simp
    generalize w.alloc (Obj.cells #[.int .i64 0, .int .i64 0, .slice none 0 0] 57) = w0 at *
    refine (within_any _ _ _ _).mono ?_
    rintro e wx ⟨rfl, rfl⟩
    rw [hsW]
    have q0 : w0.cell? ⟨w.heap.size, 0, none⟩ = some (.int .i64 0) := by rw [Lib.cell_of_heap R0]; rfl
    have q1 : w0.cell? ⟨w.heap.size, 1, none⟩ = some (.int .i64 0) := by rw [Lib.cell_of_heap R0]; rfl
    have q2 : w0.cell? ⟨w.heap.size, 2, none⟩ = some (.slice none 0 0) := by rw [Lib.cell_of_heap R0]; rfl
    have f0 := Lib.frozen_of_heap R0 0
    have f1 := Lib.frozen_of_heap R0 1
    have f2 := Lib.frozen_of_heap R0 2
    go_wp2
    refine bodyPost_ret (v := .tuple #[.agg #[.int .i64 0, .int .i64 0, .slice none 0 0], .int .i64 3]) (by simp [results, Try.results50, go_sem, q0, q1, q2]) rfl ⟨.slice none 0 0, ?_, ?_, ?_⟩
    · rw [readDW, readDH, HNE.out]; simp
    · rw [readDZ, HNE.out]; exact IsInts.nil _
    · exact ((HB0.out.setCell (p := ⟨w.heap.size, 0, none⟩) (Nat.le_refl _) _).setCell (p := ⟨w.heap.size, 1, none⟩) (Nat.le_refl _) _).setCell (p := ⟨w.heap.size, 2, none⟩) (Nat.le_refl _) _

set_option maxRecDepth 100000 in
set_option maxHeartbeats 800000 in
theorem diffReads_walk (s : ByteArray) (W H kind : Int) (vc : Value) (xs : List Int) (w : World) (hvc : IsInts w vc xs) :
    Calls Try.prog 11 #[.string s, .int .i64 W, .int .i64 H, .int .i64 kind, vc] w fun e w' => e = .returned (.bool true) ∧ Below w.heap.size w w' := by
  obtain ⟨b, rfl⟩ : ∃ b, s = str b := ⟨s.data.toList, rfl⟩
  have HC := hide hvc
  clear hvc
  obtain ⟨RW, hRW⟩ : ∃ R, readDW b W H kind xs = R := ⟨_, rfl⟩
  obtain ⟨RH, hRH⟩ : ∃ R, readDH b W H kind xs = R := ⟨_, rfl⟩
  obtain ⟨RE, hRE⟩ : ∃ R, readDE b W H kind xs = R := ⟨_, rfl⟩
  obtain ⟨RZ, hRZ⟩ : ∃ R, readDZ b W H kind xs = R := ⟨_, rfl⟩
  have HRW := hide hRW
  have HRH := hide hRH
  have HRE := hide hRE
  have HRZ := hide hRZ
  clear hRW hRH hRE hRZ
  go_enter Try.func11, Try.ntmps11
  go_wp2_with fail
  refine (readD_any _ _ _ _ _ _ _ HC.out).mono ?_
  rintro e w1 ⟨r1, rfl, hr1, hb1⟩
  rw [str_data] at hr1 ⊢
  rw [HRZ.out] at hr1
  rw [HRW.out, HRH.out, HRE.out]
  have HR1 := hide (hr1.alloc (Obj.cells #[.int .i64 RW, .int .i64 RH, r1] 57))
  obtain ⟨ao, ac, rfl, _, _⟩ := hr1
  have HB1 := hide (bel_trans hb1 (bel_alloc w1 (Obj.cells #[.int .i64 RW, .int .i64 RH, .slice ao RZ.length ac] 57)))
  obtain ⟨c0, c1, c2⟩ := pl3 (Below.refl (w1.alloc (Obj.cells #[.int .i64 RW, .int .i64 RH, .slice ao RZ.length ac] 57)).heap.size _)
  have hlt1 : w1.heap.size < (w1.alloc (Obj.cells #[.int .i64 RW, .int .i64 RH, .slice ao RZ.length ac] 57)).heap.size := by simp
  go_wp2_with fail
  generalize w1.alloc (Obj.cells #[.int .i64 RW, .int .i64 RH, .slice ao RZ.length ac] 57) = W1 at *
  refine (readDiff_any _ _ _ _ _ _ _ (HC.out.below HB1.out (Nat.le_refl _))).mono ?_
  rintro e w2 ⟨r2, rfl, hr2, hb2⟩
  rw [HRZ.out] at hr2
  rw [HRW.out, HRH.out, HRE.out]
  have HR2 := hide (hr2.alloc (Obj.cells #[.int .i64 RW, .int .i64 RH, r2] 57))
  obtain ⟨bo, bc, rfl, _, _⟩ := hr2
  have HB2 := hide (bel_trans hb2 (bel_alloc w2 (Obj.cells #[.int .i64 RW, .int .i64 RH, .slice bo RZ.length bc] 57)))
  obtain ⟨d0, d1, d2⟩ := pl3 (Below.refl (w2.alloc (Obj.cells #[.int .i64 RW, .int .i64 RH, .slice bo RZ.length bc] 57)).heap.size _)
  have hlt2 : w2.heap.size < (w2.alloc (Obj.cells #[.int .i64 RW, .int .i64 RH, .slice bo RZ.length bc] 57)).heap.size := by simp
  go_wp2_with fail
  generalize w2.alloc (Obj.cells #[.int .i64 RW, .int .i64 RH, .slice bo RZ.length bc] 57) = W2 at *
  refine (diffBegun_any _).mono ?_
  rintro e w3 ⟨rfl, hb3⟩
  have HB3 := hide (bel_trans HB2.out hb3)
  have c0 := (HB3.out.cell (p := ⟨w1.heap.size, 0, none⟩) hlt1).trans c0
  have c1 := (HB3.out.cell (p := ⟨w1.heap.size, 1, none⟩) hlt1).trans c1
  have c2 := (HB3.out.cell (p := ⟨w1.heap.size, 2, none⟩) hlt1).trans c2
  have d0 := (hb3.cell (p := ⟨w2.heap.size, 0, none⟩) hlt2).trans d0
  have d1 := (hb3.cell (p := ⟨w2.heap.size, 1, none⟩) hlt2).trans d1
  have d2 := (hb3.cell (p := ⟨w2.heap.size, 2, none⟩) hlt2).trans d2
  go_wp2_with fail
  refine (samePlanes_any _ _ _ _ _ _ RZ RZ _ (HR1.out.below HB3.out (Nat.le_refl _)) (HR2.out.below hb3 (Nat.le_refl _))).mono ?_
  rintro e w4 ⟨rfl, hb4⟩
  have hdd : decide (RW = RW ∧ RH = RH ∧ RZ = RZ) = true := by simp
  rw [hdd]
  clear hdd
  go_wp2
  go_ret
  exact ⟨rfl, bel_trans (bel_trans HB1.out HB3.out) hb4⟩

end Go.Proofs.Ytolcndchfnifhaa
