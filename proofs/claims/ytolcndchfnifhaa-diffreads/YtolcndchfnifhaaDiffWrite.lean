/- diff.Write. -/
import Derived.Test.YtolcndchfnifhaaTail
import Derived.Test.YtolcndchfnifhaaCodeWrite
import Derived.Deep.RegionHeld3
namespace Go.Proofs.Ytolcndchfnifhaa
open Go.RowKit

theorem wordsBits (xs : List Int) (n : Int) : allB (wordS (wordsOf xs) n) = true := by
  unfold wordS
  split
  · by_cases h : n.toNat < (wordsOf xs).length
    · rw [show (wordsOf xs).getD n.toNat [] = (wordsOf xs)[n.toNat] by simp [List.getD, h]]
      rw [wordsOf_get xs n.toNat (by rw [wordsOf_length] at h; exact h), word]
      split
      · exact numBits_allB _ _
      · rfl
    · rw [show (wordsOf xs).getD n.toNat [] = [] by simp [List.getD, h]]; rfl
  · rfl
theorem dBits_bits (xs zs : List Int) (W : Nat) (kind : Int) (n : Nat) : allB (dBits (wordsOf xs) zs W kind n) = true := by
  induction n with
  | zero => rfl
  | succ n ih => rw [dBits_succ, allB_append, ih, wrD, allB_append, wordsBits, tailB_bits]; rfl

theorem bytes_bits (l : List UInt8) (hb : allB l = true) (hl : l.length ≤ 1000000000000) (w : World) :
    Calls Try.prog 15 #[.string (str l)] w fun e w' => e = .returned (.tuple #[.string (str (bytesOf l)), .int .i64 0]) ∧ Below w.heap.size w w' :=
  bytes_ok (str l) (by rw [str_size]; omega) hb w

set_option maxRecDepth 100000 in
set_option maxHeartbeats 1600000 in
theorem writeD_walk (W H : Nat) (vp v : Value) (zs : List Int) (kind : Int) (xs : List Int) (w : World) (hvp : IsInts w vp zs) (hv : IsInts w v xs) (hp : planeOk W H zs = true) (hk : kindOk kind = true) (hE : checkE xs = 0) :
    Calls Try.prog 47 #[.agg #[.int .i64 W, .int .i64 H, vp], .int .i64 kind, v] w fun e w' => e = .returned (.tuple #[.string (str (writeDS W H zs kind xs)), .int .i64 (writeDE W H zs kind xs)]) ∧ Below w.heap.size w w' := by
  obtain ⟨hl1, hl2, hok, _, _⟩ := checkE_zero hE
  obtain ⟨⟨b1, b2⟩, ⟨b3, b4⟩, b5, b6⟩ := planeOk_parts hp
  have h4096 : zs.length ≤ 4096 := by have := side_mul ⟨b1, b2⟩ ⟨b3, b4⟩; omega
  have hz1 : 1 ≤ zs.length := by have := side_mul ⟨b1, b2⟩ ⟨b3, b4⟩; omega
  have HV := hide hv; clear hv
  have HVP := hide hvp
  obtain ⟨po, pc, rfl, hpl, hpc⟩ := hvp
  obtain ⟨pb, poff, hpo, hpbl, hpcell⟩ : ∃ b off, po = some ⟨b, off, none⟩ ∧ b < w.heap.size ∧ ∀ j (h : j < zs.length), w.cell? ⟨b, off + j, none⟩ = some (.int .i64 zs[j]) := by
    rcases hpc with h | h
    · subst h; simp at hz1
    · exact h
  subst hpo
  have HPC := hide hpcell
  clear hpcell hpc
  have HE := hide hE
  have HOK := hide hok
  have HZ := hide b6
  have HP := hide hp
  have HK := hide hk
  clear b5 b6 hok
  go_enter Try.func47, Try.ntmps47
  go_wp2_with fail
  refine (plane_any _ _ _ zs _ (HVP.out.alloc _)).mono ?_
  rintro e w1 ⟨rfl, hb1⟩
  rw [hp]
  have HB1 := hide (bel_trans (bel_alloc w _) hb1)
  obtain ⟨c0, c1, c2⟩ := pl3 hb1
  have hlt0 : w.heap.size < w1.heap.size := by have := hb1.size; simp at this; omega
  clear hb1
  go_wp2_with (go_at_call 78; refine (isKind_any _ _).mono ?_; rintro e w2 ⟨rfl, rfl⟩; rw [hk])
  refine (words_walk _ _ _ (HV.out.below HB1.out (Nat.le_refl _)) HE.out).mono ?_
  rintro e w2 ⟨r, rfl, hr, hb2⟩
  have HR := hide hr; clear hr
  have HB2 := hide (bel_trans HB1.out hb2)
  have c0 := (hb2.cell (p := ⟨w.heap.size, 0, none⟩) hlt0).trans c0
  have c1 := (hb2.cell (p := ⟨w.heap.size, 1, none⟩) hlt0).trans c1
  have c2 := (hb2.cell (p := ⟨w.heap.size, 2, none⟩) hlt0).trans c2
  have hlt2 : w.heap.size < w2.heap.size := Nat.lt_of_lt_of_le hlt0 hb2.size
  clear hb2 HB1 hlt0
  go_wp2_with fail
  refine (new_any _ _ _ HR.out (by rw [wordsOf_length]; exact hl1) (by rw [wordsOf_length]; exact hl2) (words15 xs HOK.out)).mono ?_
  rintro e w3 ⟨cv, bm, n, rfl, hcv, hbm, hb3⟩
  have HCV := hide hcv
  obtain ⟨co, cc, rfl, _, _⟩ := hcv
  have HB3 := hide (bel_trans HB2.out hb3)
  have c0 := (hb3.cell (p := ⟨w.heap.size, 0, none⟩) hlt2).trans c0
  have c1 := (hb3.cell (p := ⟨w.heap.size, 1, none⟩) hlt2).trans c1
  have c2 := (hb3.cell (p := ⟨w.heap.size, 2, none⟩) hlt2).trans c2
  have hlt3 : w.heap.size < w3.heap.size := Nat.lt_of_lt_of_le hlt2 hb3.size
  clear hbm hb3 HB2 hlt2
  obtain ⟨V, hV⟩ : ∃ V, V = w3.alloc (.cells #[.slice co (wordsOf xs).length cc, .map (some bm)] 98) := ⟨_, rfl⟩
  have hVs : V.heap.size = w3.heap.size + 1 := by rw [hV]; simp
  have hVk : V.heap[w3.heap.size]? = some (.cells #[.slice co (wordsOf xs).length cc, .map (some bm)] 98 (0, 0)) := by rw [hV]; exact heap_alloc_new w3 _
  have hVb : Below w3.heap.size w3 V := by rw [hV]; exact bel_alloc _ _
  have HVB := hide (bel_trans HB3.out hVb)
  have HVT := hide (HCV.out.below hVb (Nat.le_refl _))
  have HVP2 := hide (HVP.out.below HVB.out (Nat.le_refl _))
  have HVC := hide (show ∀ j (h : j < zs.length), V.cell? ⟨pb, poff + j, none⟩ = some (.int .i64 zs[j]) from fun j h => (HVB.out.cell (p := ⟨pb, poff + j, none⟩) hpbl).trans (HPC.out j h))
  have HC0 := hide ((hVb.cell (p := ⟨w.heap.size, 0, none⟩) hlt3).trans c0)
  have HC1 := hide ((hVb.cell (p := ⟨w.heap.size, 1, none⟩) hlt3).trans c1)
  have HC2 := hide ((hVb.cell (p := ⟨w.heap.size, 2, none⟩) hlt3).trans c2)
  have HV0 := hide (show V.cell? ⟨w3.heap.size, 0, none⟩ = some (.slice co (wordsOf xs).length cc) by rw [Lib.cell_of_heap hVk]; rfl)
  have HV1 := hide (show V.cell? ⟨w3.heap.size, 1, none⟩ = some (.map (some bm)) by rw [Lib.cell_of_heap hVk]; rfl)
  have HST := hide (Lib.fresh_isBuilder 84 5 V)
  have hltV : w.heap.size < V.heap.size := by omega
  have hltB : w3.heap.size < V.heap.size := by omega
  go_wp2
  rw [← hV]
  have hbp : (⟨w3.heap.size + 1, 0, none⟩ : Addr) = ⟨V.heap.size, 0, none⟩ := by rw [hVs]
  rw [hbp]
  clear hV hVk hVb hbp c0 c1 c2 hVs HPC HB3 HCV HR HVP HV hlt3
  generalize hts : wordsOf xs = ts at *
  have HTS := hide hts; clear hts
  go_loopw [37] (fun i wr => ∃ k : Nat, k ≤ zs.length ∧ i = .int .i64 k ∧ Hid (dAll ts zs W kind k = true) ∧ Lib.IsBuilder 84 5 V.heap.size V.heap.size (byt (dBits ts zs W kind k)) wr ∧ Below V.heap.size V wr)
    (fun i _ => zs.length - (intOf i).toNat)
  case atStart => exact ⟨0, Nat.zero_le _, rfl, rfl, HST.out, bel_alloc _ _⟩
  case round =>
    obtain ⟨k, hk, rfl, HA, hbd, hb⟩ := hrel
    have hsz := hb.size
    have hpl : (dBits ts zs W kind k).length ≤ 122880 := by
      have h := dBits_length xs HOK.out zs W kind k
      rw [HTS.out] at h
      omega
    by_cases hlt : k < zs.length
    · have HZK := hide (sampsOk_get HZ.out k hlt)
      have hz0 := HZK.out.1
      have hz1 := HZK.out.2
      have c1 := (hb.cell (p := ⟨pb, poff + k, none⟩) (by have := HVB.out.size; show pb < _; omega)).trans (HVC.out k hlt)
      have HZG := hide (show zs.getD k 0 = zs[k] by simp [List.getD, hlt])
      generalize zs[k] = Z at *
      have hw1 : ¬ (W = 0) := by omega
      have hw2 : ¬ ((W : Int) = 0) := by omega
      have hqb : k / W ≤ 4096 := Nat.le_trans (Nat.div_le_self k W) (by omega)
      have HREM := hide (show (k : Int) % (W : Int) = ((k % W : Nat) : Int) from rfl)
      have HQUO := hide (show IntKind.i64.wrap ((k : Int) / (W : Int)) = ((k / W : Nat) : Int) by rw [show (k : Int) / (W : Int) = ((k / W : Nat) : Int) from rfl]; generalize k / W = q at hqb ⊢; exact IntWalk.i64_in _ (by omega))
      have HGU := hide (show ∀ w', Below wr.heap.size wr w' → Calls Try.prog 79 #[.agg #[.int .i64 W, .int .i64 H, .slice (some ⟨pb, poff, none⟩) zs.length pc], .int .i64 kind, .int .i64 ((k % W : Nat) : Int), .int .i64 ((k / W : Nat) : Int)] w' fun e w'' => e = .returned (.int .i64 (gAt zs W kind k)) ∧ Below wr.heap.size wr w'' from fun w' h =>
        (guess_any _ zs W _ _ H kind k w' (((HVP2.out.below hb (Nat.le_refl _)).below h (Nat.le_refl _))) (by omega) (by omega) hlt h4096 HZ.out rfl rfl).mono fun e w'' h2 => ⟨h2.1, h.trans (h2.2.mono h.size)⟩)
      have hgr := gAt_range zs W kind k HZ.out
      have hdr := dif_range (zs.getD k 0) (gAt zs W kind k)
      have HDA := hide (show dif Z (gAt zs W kind k) = dAt zs W kind k by rw [dAt, HZG.out])
      rw [HZG.out] at hdr
      generalize gAt zs W kind k = G at *
      have HDI := hide (difference_any Z G ⟨hz0, hz1⟩ hgr)
      generalize dif Z G = D at *
      have e0 := (hb.cell (p := ⟨w.heap.size, 0, none⟩) hltV).trans HC0.out
      have e1 := (hb.cell (p := ⟨w.heap.size, 1, none⟩) hltV).trans HC1.out
      have e2 := (hb.cell (p := ⟨w.heap.size, 2, none⟩) hltV).trans HC2.out
      have HS := hide (show ∀ w', Below wr.heap.size wr w' → w'.cell? ⟨w.heap.size, 0, none⟩ = some (.int .i64 W) ∧ w'.cell? ⟨w.heap.size, 1, none⟩ = some (.int .i64 H) ∧ w'.cell? ⟨w.heap.size, 2, none⟩ = some (.slice (some ⟨pb, poff, none⟩) zs.length pc) ∧ Below wr.heap.size wr w' from fun w' h =>
        ⟨(h.cell (p := ⟨w.heap.size, 0, none⟩) (by show w.heap.size < _; omega)).trans e0, (h.cell (p := ⟨w.heap.size, 1, none⟩) (by show w.heap.size < _; omega)).trans e1, (h.cell (p := ⟨w.heap.size, 2, none⟩) (by show w.heap.size < _; omega)).trans e2, h⟩)
      go_wp2_with fail
      have hrefl := Below.refl wr.heap.size wr
      have hdrew : Below wr.heap.size wr wr.drew := (Below.refl _ _).drew
      go_region_held3 (fun w' => w'.cell? ⟨w.heap.size, 0, none⟩ = some (.int .i64 W) ∧ w'.cell? ⟨w.heap.size, 1, none⟩ = some (.int .i64 H) ∧ w'.cell? ⟨w.heap.size, 2, none⟩ = some (.slice (some ⟨pb, poff, none⟩) zs.length pc) ∧ Below wr.heap.size wr w')
        (first | (refine HS.out _ ?_; assumption) | go_keep)
        (first | (go_at_call 79; (try rw [HREM.out]); (try rw [HQUO.out]); refine (HGU.out _ ?_).mono ?_; assumption; rintro e wx ⟨rfl, hN⟩) | (go_at_call 84; refine (HDI.out _).mono ?_; rintro e wy ⟨rfl, rfl⟩))
      have hbx : Below V.heap.size V wx := hb.trans (hN.mono hsz)
      have hbdx := isBuilder_below hbd hN hsz
      have hszx := hbx.size
      have hcl := cls_le hdr.1 hdr.2
      have HCO := hide (classOf_any D hdr.1 hdr.2)
      have HTA := hide (fun w => tail_any D hdr.1 hdr.2 (cls D) rfl w)
      have htl : (tailB D).length ≤ 15 := tailB_length hdr.1 hdr.2
      have hts : (str (tailB D)).size ≤ 15 := by rw [str_size]; exact htl
      have HWR := hide (show wrD ts D = wordS ts (cls D) ++ tailB D from rfl)
      clear hb hbd hsz hN HS HGU HDI e0 e1 e2 hrefl hdrew c1
      obtain ⟨C, hC⟩ : ∃ C, cls D = C := ⟨_, rfl⟩
      rw [hC] at hcl HCO HTA HWR
      have HC := hide hC
      clear hC
      generalize tailB D = TB at *
      have c2 := (hbx.cell (p := ⟨w3.heap.size, 0, none⟩) hltB).trans HV0.out
      have c3 := (hbx.cell (p := ⟨w3.heap.size, 1, none⟩) hltB).trans HV1.out
      have HIT := hide (HVT.out.below hbx (Nat.le_refl _))
      have hwl : (wordS ts C).length ≤ 15 := by
        have h := wordS_length xs HOK.out C
        rw [HTS.out] at h; exact h
      have hws : (str (wordS ts C)).size ≤ 15 := by rw [str_size]; exact hwl
      by_cases he : wordS ts C = []
      · have hE4 : wordE ts C = 4 := if_pos he
        have HNE := hide (show writeDE W H zs kind xs = 4 by
          rw [writeDE, if_pos HP.out, if_pos HK.out, if_pos HE.out, HTS.out, Int.toNat_natCast, dAll_false ts zs W kind zs.length k hlt (by rw [← HDA.out, HC.out]; exact he)]; rfl)
        have HNS := hide (show writeDS W H zs kind xs = [] by rw [writeDS, HNE.out, if_neg (by decide)])
        clear he
        go_wp2_with (first | (go_at_call 85; refine (HCO.out _).mono ?_; rintro e wy ⟨rfl, rfl⟩) | (go_at_call 71; refine (word_any _ bm ts _ _ HIT.out).mono ?_; rintro e wz ⟨rfl, hbz⟩))
        go_ret2
        rw [HNE.out, HNS.out]
        exact ⟨rfl, bel_trans (bel_trans HVB.out hbx) hbz⟩
      · have hE0 : wordE ts C = 0 := if_neg he
        have HO := hide (show dAll ts zs W kind (k + 1) = true by rw [dAll_succ, HA.out, ← HDA.out, HC.out]; simpa using he)
        have HP2 := hide (show dBits ts zs W kind (k + 1) = dBits ts zs W kind k ++ wordS ts C ++ TB by rw [dBits_succ, ← HDA.out, HWR.out, List.append_assoc])
        clear he
        generalize dBits ts zs W kind k = DB at *
        go_wp2_with (first | (go_at_call 85; refine (HCO.out _).mono ?_; rintro e wy ⟨rfl, rfl⟩) | (go_at_call 71; refine (word_any _ bm ts _ _ HIT.out).mono ?_; rintro e wz ⟨rfl, hbz⟩; have hbdz := isBuilder_below hbdx hbz hszx; have hszz := hbz.size))
        refine (writeString_any V.heap.size V.heap.size _ _ _ hbdz (by omega) (by omega)).mono ?_
        rintro e w4 ⟨rfl, hbd4, hb4⟩
        have hsz4 := hb4.size
        go_wp2_with fail
        refine (HTA.out _).mono ?_
        rintro e w5 ⟨rfl, hb5⟩
        have hbd5 := isBuilder_below hbd4 hb5 (by omega)
        have hsz5 := hb5.size
        go_wp2_with fail
        refine (writeString_any V.heap.size V.heap.size _ _ _ hbd5 (by rw [List.length_append, str_data]; omega) (by omega)).mono ?_
        rintro e w6 ⟨rfl, hbd6, hb6⟩
        go_wp2
        go_roundw
        case rel => exact ⟨k + 1, by omega, by go_num, HO, by rw [HP2.out]; exact hbd6, (((hbx.trans (hbz.mono hszx)).trans hb4).trans (hb5.mono (by omega))).trans hb6⟩
        case measure => simp [intOf]; omega
    · obtain rfl : k = zs.length := by omega
      have HNE := hide (show writeDE W H zs kind xs = 0 by rw [writeDE, if_pos HP.out, if_pos HK.out, if_pos HE.out, HTS.out, Int.toNat_natCast, if_pos HA.out])
      have HNS := hide (show writeDS W H zs kind xs = bytesOf (dBits ts zs W kind zs.length) by rw [writeDS, HNE.out, if_pos rfl, HTS.out, Int.toNat_natCast])
      have HAB := hide (show allB (dBits ts zs W kind zs.length) = true by rw [← HTS.out]; exact dBits_bits xs zs W kind zs.length)
      generalize dBits ts zs W kind zs.length = DB at *
      go_wp2_with (first | (go_at_call 64; refine (string_any V.heap.size V.heap.size _ _ hbd hsz).mono ?_; rintro e w3 ⟨rfl, hb3⟩) | (go_at_call 15; refine (bytes_bits _ HAB.out (by omega) _).mono ?_; rintro e w4 ⟨rfl, hb4⟩))
      go_ret2
      rw [HNE.out, HNS.out]
      exact ⟨rfl, bel_trans (bel_trans HVB.out (hb.trans hb3)) hb4⟩

theorem writeD_any (W H : Int) (vp v : Value) (zs : List Int) (kind : Int) (xs : List Int) (w : World) (hvp : IsInts w vp zs) (hv : IsInts w v xs) :
    Calls Try.prog 47 #[.agg #[.int .i64 W, .int .i64 H, vp], .int .i64 kind, v] w fun e w' => e = .returned (.tuple #[.string (str (writeDS W H zs kind xs)), .int .i64 (writeDE W H zs kind xs)]) ∧ Below w.heap.size w w' := by
  by_cases hp : planeOk W H zs = true
  · by_cases hk : kindOk kind = true
    · by_cases hE : checkE xs = 0
      · obtain ⟨⟨b1, _⟩, ⟨b3, _⟩, _, _⟩ := planeOk_parts hp
        obtain ⟨WN, rfl⟩ := Int.eq_ofNat_of_zero_le (show 0 ≤ W by omega)
        obtain ⟨HN, rfl⟩ := Int.eq_ofNat_of_zero_le (show 0 ≤ H by omega)
        exact writeD_walk WN HN vp v zs kind xs w hvp hv hp hk hE
      · have HNE := hide (show writeDE W H zs kind xs = checkE xs by rw [writeDE, if_pos hp, if_pos hk, if_neg hE])
        have HNS := hide (show writeDS W H zs kind xs = [] by rw [writeDS, HNE.out, if_neg hE])
        have HV := hide hv; clear hv
        have HVP := hide hvp
        obtain ⟨po, pc, rfl, hpl, hpc⟩ := hvp
        have hne : (checkE xs != 0) = true := by simpa using hE
        clear hpc hE
        go_enter Try.func47, Try.ntmps47
        go_wp2_with fail
        refine (plane_any _ _ _ zs _ (HVP.out.alloc _)).mono ?_
        rintro e w1 ⟨rfl, hb1⟩
        rw [hp]
        have HB1 := hide (bel_trans (bel_alloc w _) hb1)
        go_wp2_with (go_at_call 78; refine (isKind_any _ _).mono ?_; rintro e w2 ⟨rfl, rfl⟩; rw [hk])
        refine (words_any _ _ _ (HV.out.below HB1.out (Nat.le_refl _))).mono ?_
        rintro e w2 ⟨r, rfl, hr, hb2⟩
        clear hr
        go_wp2
        go_ret2
        rw [HNE.out, HNS.out]
        exact ⟨rfl, bel_trans HB1.out hb2⟩
    · have HNE := hide (show writeDE W H zs kind xs = 6 by rw [writeDE, if_pos hp, if_neg hk])
      have HNS := hide (show writeDS W H zs kind xs = [] by rw [writeDS, HNE.out, if_neg (by decide)])
      have hk : kindOk kind = false := by simpa using hk
      have HVP := hide hvp
      obtain ⟨po, pc, rfl, hpl, hpc⟩ := hvp
      clear hpc hv
      go_enter Try.func47, Try.ntmps47
      go_wp2_with fail
      refine (plane_any _ _ _ zs _ (HVP.out.alloc _)).mono ?_
      rintro e w1 ⟨rfl, hb1⟩
      rw [hp]
      have HB1 := hide (bel_trans (bel_alloc w _) hb1)
      go_wp2_with (go_at_call 78; refine (isKind_any _ _).mono ?_; rintro e w2 ⟨rfl, rfl⟩; rw [hk])
      go_ret2
      rw [HNE.out, HNS.out]
      exact ⟨rfl, HB1.out⟩
  · have HNE := hide (show writeDE W H zs kind xs = 1 by rw [writeDE, if_neg hp])
    have HNS := hide (show writeDS W H zs kind xs = [] by rw [writeDS, HNE.out, if_neg (by decide)])
    have hp : planeOk W H zs = false := by simpa using hp
    have HVP := hide hvp
    obtain ⟨po, pc, rfl, hpl, hpc⟩ := hvp
    clear hpc hv
    go_enter Try.func47, Try.ntmps47
    go_wp2_with fail
    refine (plane_any _ _ _ zs _ (HVP.out.alloc _)).mono ?_
    rintro e w1 ⟨rfl, hb1⟩
    rw [hp]
    have HB1 := hide (bel_trans (bel_alloc w _) hb1)
    go_wp2
    go_ret2
    rw [HNE.out, HNS.out]
    exact ⟨rfl, HB1.out⟩

end Go.Proofs.Ytolcndchfnifhaa
