/- The reference's WriteDiff. -/
import Derived.Test.YtolcndchfnifhaaRefDiffs
import Derived.Test.YtolcndchfnifhaaDiffWrite
namespace Go.Proofs.Ytolcndchfnifhaa
open Go.RowKit

theorem dList_get (zs : List Int) (W : Nat) (kind : Int) (n k : Nat) (h : k < (dList zs W kind n).length) : (dList zs W kind n)[k] = dAt zs W kind k := by simp [dList]

theorem grown_cell {w3 wr w4 : World} {e : TypeId} {t : Value} {n : Nat} {xs : List Value} (ho : wr.ownsRow w3.heap.size e 1 t n xs) (hb : Below w3.heap.size w3 wr) {p : Addr} {x : Value} (hp : p.block < w3.heap.size) (hc : w3.cell? p = some x) (hg : wr.grownBy w4 t.ownBlock) : w4.cell? p = some x :=
  ((hb.grown hg hb.size (fun j hj => (ho.lt j hj).1)).cell hp).trans hc

set_option maxRecDepth 100000 in
set_option maxHeartbeats 1600000 in
theorem writeDiff_walk (W H : Nat) (vp v : Value) (zs : List Int) (kind : Int) (xs : List Int) (w : World) (hvp : IsInts w vp zs) (hv : IsInts w v xs) (hp : planeOk W H zs = true) (hk : kindOk kind = true) (hE : checkE xs = 0) :
    Calls Try.prog 48 #[.agg #[.int .i64 W, .int .i64 H, vp], .int .i64 kind, v] w fun e w' => e = .returned (.tuple #[.string (str (writeDS W H zs kind xs)), .int .i64 (writeDE W H zs kind xs)]) ∧ Below w.heap.size w w' := by
  have hnil : str [] = ⟨#[]⟩ := rfl
  obtain ⟨i0, hi, hz0, hz1, hz2⟩ := info_parts Try.infoU8
  obtain ⟨hl1, hl2, hok, _, _⟩ := checkE_zero hE
  obtain ⟨⟨b1, b2⟩, ⟨b3, b4⟩, b5, b6⟩ := planeOk_parts hp
  have h4096 : zs.length ≤ 4096 := by have := side_mul ⟨b1, b2⟩ ⟨b3, b4⟩; omega
  have hz1' : 1 ≤ zs.length := by have := side_mul ⟨b1, b2⟩ ⟨b3, b4⟩; omega
  have HV := hide hv; clear hv
  have HVP := hide hvp
  obtain ⟨po, pc, rfl, hpl, _⟩ := hvp
  have HE := hide hE
  have HOK := hide hok
  have HP := hide hp
  have HK := hide hk
  have hwk : decide (1 ≤ kind ∧ kind ≤ 7) = true := hk
  clear b5 b6 hok hk
  go_enter Try.func48, Try.ntmps48
  go_wp2_with fail
  refine (planeFine_any _ _ _ zs _ (HVP.out.alloc _)).mono ?_
  rintro e w1 ⟨rfl, hb1⟩
  rw [hp]
  have HB1 := hide (bel_trans (bel_alloc w _) hb1)
  obtain ⟨c0, c1, c2⟩ := pl3 hb1
  have hlt0 : w.heap.size < w1.heap.size := by have := hb1.size; simp at this; omega
  clear hb1
  go_wp2_with (go_at_call 61; refine (within_any _ _ _ _).mono ?_; rintro e wx ⟨rfl, rfl⟩; rw [hwk])
  refine (checkCode_any _ _ _ (HV.out.below HB1.out (Nat.le_refl _))).mono ?_
  rintro e wx ⟨rfl, rfl⟩
  rw [HE.out]
  go_wp2_with fail
  refine (wordsOf_any _ _ _ (HV.out.below HB1.out (Nat.le_refl _)) HE.out).mono ?_
  rintro e w2 ⟨r, rfl, hr, hb2⟩
  have c0 := (hb2.cell (p := ⟨w.heap.size, 0, none⟩) hlt0).trans c0
  have c1 := (hb2.cell (p := ⟨w.heap.size, 1, none⟩) hlt0).trans c1
  have c2 := (hb2.cell (p := ⟨w.heap.size, 2, none⟩) hlt0).trans c2
  have HB2 := hide (bel_trans HB1.out hb2)
  obtain ⟨ro, rc, rfl, hrl0, hrc⟩ := hr
  obtain ⟨rb, rof, hro, hrl, hrcell⟩ : ∃ b off, ro = some ⟨b, off, none⟩ ∧ b < w2.heap.size ∧ ∀ j (h : j < (wordsOf xs).length), w2.cell? ⟨b, off + j, none⟩ = some (.string (str (wordsOf xs)[j])) := by
    rcases hrc with h | h
    · have h2 := wordsOf_length xs; rw [h] at h2; simp at h2; omega
    · exact h
  have HRC := hide hrcell
  clear hrcell hrc hrl0 hb2 HB1
  subst hro
  go_wp2_with fail
  refine (differences_any W H _ zs kind _ (HVP.out.below HB2.out (Nat.le_refl _)) HP.out).mono ?_
  rintro e w3 ⟨q, rfl, hq, hb3⟩
  have hql := dList_length zs W kind zs.length
  obtain ⟨qo, qc, rfl, _, hqc⟩ := hq
  obtain ⟨qb, qof, hqo, hqlt, hqcell⟩ : ∃ b off, qo = some ⟨b, off, none⟩ ∧ b < w3.heap.size ∧ ∀ j (h : j < (dList zs W kind zs.length).length), w3.cell? ⟨b, off + j, none⟩ = some (.int .i64 (dList zs W kind zs.length)[j]) := by
    rcases hqc with h | h
    · rw [h] at hql; simp at hql; omega
    · exact h
  subst hqo
  have HQC := hide (show ∀ j, j < zs.length → w3.cell? ⟨qb, qof + j, none⟩ = some (.int .i64 (dAt zs W kind j)) from fun j hj => by
    rw [hqcell j (by rw [hql]; exact hj), dList_get])
  have HB3 := hide (bel_trans HB2.out hb3)
  have HRC3 := hide (show ∀ j (h : j < (wordsOf xs).length), w3.cell? ⟨rb, rof + j, none⟩ = some (.string (str (wordsOf xs)[j])) from fun j h => (hb3.cell (p := ⟨rb, rof + j, none⟩) hrl).trans (HRC.out j h))
  have hrl3 : rb < w3.heap.size := Nat.lt_of_lt_of_le hrl hb3.size
  rw [hql]
  clear hqcell hqc hb3 HRC hrl HB2 c0 c1 c2 hql hlt0 HVP HV
  have HWL := hide (wordsOf_length xs)
  have hwl : (wordsOf xs).length ≤ 17 := by rw [wordsOf_length]; exact hl2
  generalize hts : wordsOf xs = ts at *
  have HTS := hide hts; clear hts
  go_wp2
  go_loopw [11, 12] (fun t i wr => ∃ k : Nat, k ≤ zs.length ∧ i = .int .i64 k ∧ Hid (dAll ts zs W kind k = true) ∧ wr.ownsRow w3.heap.size 5 1 t (dBits ts zs W kind k).length (byt (dBits ts zs W kind k)) ∧ Below w3.heap.size w3 wr) (fun _ i _ => zs.length - (intOf i).toNat)
  case atStart => exact ⟨0, Nat.zero_le _, rfl, rfl, World.ownsRow_nil _ _ _ _, Below.refl _ _⟩
  case round =>
    obtain ⟨k, hk, rfl, HA, ho, hb⟩ := hrel
    have hsz := hb.size
    have hpl2 : (dBits ts zs W kind k).length ≤ 122880 := by
      have h := dBits_length xs HOK.out zs W kind k
      rw [HTS.out] at h
      omega
    by_cases hlt : k < zs.length
    · have HQK := hide (HQC.out k hlt)
      have c1 := (hb.cell (p := ⟨qb, qof + k, none⟩) hqlt).trans HQK.out
      have hdr := dif_range (zs.getD k 0) (gAt zs W kind k)
      have HDA := hide (rfl : dif (zs.getD k 0) (gAt zs W kind k) = dAt zs W kind k)
      have hdr : -32768 < dAt zs W kind k ∧ dAt zs W kind k ≤ 32768 := hdr
      have HBS := hide (dBits_succ ts zs W kind k)
      have HAS := hide (dAll_succ ts zs W kind k)
      have HAF := hide (dAll_false ts zs W kind zs.length k hlt)
      generalize dAt zs W kind k = D at *
      have hcl := cls_le hdr.1 hdr.2
      have HCO := hide (refClassOf_any D hdr.1 hdr.2)
      have HMO := hide (more_any D hdr.1 hdr.2)
      have htl : (tailB D).length ≤ 15 := tailB_length hdr.1 hdr.2
      rw [wrD] at HBS
      generalize tailB D = TB at *
      generalize cls D = C at *
      by_cases hcl2 : C < ts.length
      · have hd2 : decide ((ts.length : Int) ≤ (C : Int)) = false := by simp; omega
        have c2 := (hb.cell (p := ⟨rb, rof + C, none⟩) hrl3).trans (HRC3.out C hcl2)
        have hws : wordS ts C = ts[C] := by rw [wordS, if_pos (by omega)]; simp [List.getD, hcl2]
        have hwl15 : (ts[C]).length ≤ 15 := by
          have h := wordS_length xs HOK.out C
          rw [HTS.out, hws] at h; exact h
        rw [hws] at HBS HAS HAF
        clear hws
        generalize ts[C] = wd at *
        by_cases he : wd = []
        · have hem : (str wd).toList.isEmpty = true := by rw [Lib.toList_data, str_data, he]; rfl
          have HNE := hide (show writeDE W H zs kind xs = 4 by rw [writeDE, if_pos HP.out, if_pos HK.out, if_pos HE.out, HTS.out, Int.toNat_natCast, HAF.out he]; rfl)
          have HNS := hide (show writeDS W H zs kind xs = [] by rw [writeDS, HNE.out, if_neg (by decide)])
          clear he
          go_wp2_with (go_at_call 88; refine (HCO.out _).mono ?_; rintro e wy ⟨rfl, rfl⟩)
          go_ret2
          rw [HNE.out, HNS.out]
          exact ⟨rfl, bel_trans HB3.out hb⟩
        · have hem : (str wd).toList.isEmpty = false := by rw [Lib.toList_data, str_data]; simpa using he
          have HO := hide (show dAll ts zs W kind (k + 1) = true by rw [HAS.out, HA.out]; simpa using he)
          clear he
          generalize dBits ts zs W kind k = L at *
          go_wp2_with (first | (go_at_call 88; refine (HCO.out _).mono ?_; rintro e wy ⟨rfl, rfl⟩) | (at_builtin; refine Lib.wpList_append_own_string _ rfl _ _ 79 9 rfl w3.heap.size 5 i0 Try.underlying79 Try.underlying9 hi hz0 hz1 hz2 _ _ _ rfl ho (str wd) rfl (by rw [str_size]; unfold maxLen; omega) (by rw [str_size]; omega) (by omega) ?_; intro v' w4 hown' hgrow _; have c4 := grown_cell ho hb (p := ⟨qb, qof + k, none⟩) hqlt HQK.out hgrow))
          have hb4 : Below w3.heap.size w3 w4 := hb.grown hgrow (by omega) (fun j hj => (ho.lt j hj).1)
          have ho4 : w4.ownsRow w3.heap.size 5 1 v' (L ++ wd).length (byt (L ++ wd)) := by
            rw [byt_append, List.length_append]
            have hx := hown'
            rw [str_size] at hx
            exact hx
          have hsz4 := hb4.size
          have hlw : (L ++ wd).length ≤ 122895 := by rw [List.length_append]; omega
          clear hown' hgrow ho hb c1 c2
          generalize hLW : L ++ wd = LW at *
          have HLW := hide hLW; clear hLW
          refine (HMO.out _).mono ?_
          rintro e w5 ⟨rfl, hb5⟩
          have ho5 := ownsRow_below ho4 hb5
          have hsz5 := hb5.size
          go_wp2_with (at_builtin; refine Lib.wpList_append_own_string _ rfl _ _ 79 9 rfl w3.heap.size 5 i0 Try.underlying79 Try.underlying9 hi hz0 hz1 hz2 _ _ _ rfl ho5 (str TB) rfl (by rw [str_size]; unfold maxLen; omega) (by rw [str_size]; omega) (by omega) ?_; intro v6 w6 hown6 hgrow6 _)
          have hb6 : Below w3.heap.size w3 w6 := (hb4.trans (hb5.mono hsz4)).grown hgrow6 (by omega) (fun j hj => (ho5.lt j hj).1)
          have ho6 : w6.ownsRow w3.heap.size 5 1 v6 (dBits ts zs W kind (k + 1)).length (byt (dBits ts zs W kind (k + 1))) := by
            rw [HBS.out, ← List.append_assoc, HLW.out, byt_append, List.length_append]
            have hx := hown6
            rw [str_size] at hx
            exact hx
          clear hown6 hgrow6 ho5 ho4
          go_roundw
          case rel => exact ⟨k + 1, by omega, by go_num, HO, ho6, hb6⟩
          case measure => simp [intOf]; omega
      · have hd2 : decide ((ts.length : Int) ≤ (C : Int)) = true := by simp; omega
        have HNE := hide (show writeDE W H zs kind xs = 4 by rw [writeDE, if_pos HP.out, if_pos HK.out, if_pos HE.out, HTS.out, Int.toNat_natCast, HAF.out (by rw [wordS, if_neg (by omega)])]; rfl)
        have HNS := hide (show writeDS W H zs kind xs = [] by rw [writeDS, HNE.out, if_neg (by decide)])
        go_wp2_with (go_at_call 88; refine (HCO.out _).mono ?_; rintro e wy ⟨rfl, rfl⟩)
        go_ret2
        rw [HNE.out, HNS.out]
        exact ⟨rfl, bel_trans HB3.out hb⟩
    · obtain rfl : k = zs.length := by omega
      have HNE := hide (show writeDE W H zs kind xs = 0 by rw [writeDE, if_pos HP.out, if_pos HK.out, if_pos HE.out, HTS.out, Int.toNat_natCast, if_pos HA.out])
      have HNS := hide (show writeDS W H zs kind xs = bytesOf (dBits ts zs W kind zs.length) by rw [writeDS, HNE.out, if_pos rfl, HTS.out, Int.toNat_natCast])
      generalize dBits ts zs W kind zs.length = DB at *
      have hcv := run_string_any (dst := 9) Try.underlying79 Try.underlying5 Try.underlying9 ho
      go_wp2_with fail
      refine (refBytes_any (str DB) (by rw [str_size]; omega) _).mono ?_
      rintro e w4 ⟨rfl, hb4⟩
      go_wp2
      go_ret2
      rw [HNE.out, HNS.out]
      exact ⟨rfl, bel_trans (bel_trans HB3.out hb) hb4⟩

theorem writeDiff_any (W H : Int) (vp v : Value) (zs : List Int) (kind : Int) (xs : List Int) (w : World) (hvp : IsInts w vp zs) (hv : IsInts w v xs) :
    Calls Try.prog 48 #[.agg #[.int .i64 W, .int .i64 H, vp], .int .i64 kind, v] w fun e w' => e = .returned (.tuple #[.string (str (writeDS W H zs kind xs)), .int .i64 (writeDE W H zs kind xs)]) ∧ Below w.heap.size w w' := by
  by_cases hp : planeOk W H zs = true
  · by_cases hk : kindOk kind = true
    · by_cases hE : checkE xs = 0
      · obtain ⟨⟨b1, _⟩, ⟨b3, _⟩, _, _⟩ := planeOk_parts hp
        obtain ⟨WN, rfl⟩ := Int.eq_ofNat_of_zero_le (show 0 ≤ W by omega)
        obtain ⟨HN, rfl⟩ := Int.eq_ofNat_of_zero_le (show 0 ≤ H by omega)
        exact writeDiff_walk WN HN vp v zs kind xs w hvp hv hp hk hE
      · have HNE := hide (show writeDE W H zs kind xs = checkE xs by rw [writeDE, if_pos hp, if_pos hk, if_neg hE])
        have HNS := hide (show writeDS W H zs kind xs = [] by rw [writeDS, HNE.out, if_neg hE])
        have hwk : decide (1 ≤ kind ∧ kind ≤ 7) = true := hk
        have HV := hide hv; clear hv
        have HVP := hide hvp
        obtain ⟨po, pc, rfl, hpl, hpc⟩ := hvp
        have hne : (checkE xs != 0) = true := by simpa using hE
        clear hpc hE hk
        go_enter Try.func48, Try.ntmps48
        go_wp2_with fail
        refine (planeFine_any _ _ _ zs _ (HVP.out.alloc _)).mono ?_
        rintro e w1 ⟨rfl, hb1⟩
        rw [hp]
        have HB1 := hide (bel_trans (bel_alloc w _) hb1)
        go_wp2_with (go_at_call 61; refine (within_any _ _ _ _).mono ?_; rintro e wx ⟨rfl, rfl⟩; rw [hwk])
        refine (checkCode_any _ _ _ (HV.out.below HB1.out (Nat.le_refl _))).mono ?_
        rintro e wx ⟨rfl, rfl⟩
        go_wp2
        go_ret2
        rw [HNE.out, HNS.out]
        exact ⟨rfl, HB1.out⟩
    · have HNE := hide (show writeDE W H zs kind xs = 6 by rw [writeDE, if_pos hp, if_neg hk])
      have HNS := hide (show writeDS W H zs kind xs = [] by rw [writeDS, HNE.out, if_neg (by decide)])
      have hk : kindOk kind = false := by simpa using hk
      have hwk : decide (1 ≤ kind ∧ kind ≤ 7) = false := hk
      have HVP := hide hvp
      obtain ⟨po, pc, rfl, hpl, hpc⟩ := hvp
      clear hpc hv hk
      go_enter Try.func48, Try.ntmps48
      go_wp2_with fail
      refine (planeFine_any _ _ _ zs _ (HVP.out.alloc _)).mono ?_
      rintro e w1 ⟨rfl, hb1⟩
      rw [hp]
      have HB1 := hide (bel_trans (bel_alloc w _) hb1)
      go_wp2_with (go_at_call 61; refine (within_any _ _ _ _).mono ?_; rintro e wx ⟨rfl, rfl⟩; rw [hwk])
      go_ret2
      rw [HNE.out, HNS.out]
      exact ⟨rfl, HB1.out⟩
  · have HNE := hide (show writeDE W H zs kind xs = 1 by rw [writeDE, if_neg hp])
    have HNS := hide (show writeDS W H zs kind xs = [] by rw [writeDS, HNE.out, if_neg (by decide)])
    have hp : planeOk W H zs = false := by simpa using hp
    have HVP := hide hvp
    obtain ⟨po, pc, rfl, hpl, hpc⟩ := hvp
    clear hpc hv
    go_enter Try.func48, Try.ntmps48
    go_wp2_with fail
    refine (planeFine_any _ _ _ zs _ (HVP.out.alloc _)).mono ?_
    rintro e w1 ⟨rfl, hb1⟩
    rw [hp]
    have HB1 := hide (bel_trans (bel_alloc w _) hb1)
    go_wp2
    go_ret2
    rw [HNE.out, HNS.out]
    exact ⟨rfl, HB1.out⟩

end Go.Proofs.Ytolcndchfnifhaa
