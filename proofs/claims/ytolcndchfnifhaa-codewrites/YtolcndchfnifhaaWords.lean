/- code.Words, and the reference's WordsOf; lists of texts in memory. -/
import Derived.Test.YtolcndchfnifhaaCheck
import Derived.Test.YtolcndchfnifhaaRefNumber
import Derived.Lib.Strings
namespace Go.Proofs.Ytolcndchfnifhaa
open Go.RowKit

theorem Try.infoStr : (Try.prog.info? 9).map (fun i => (i.zero, i.size, i.bytes)) = some (some (.string ⟨#[]⟩), 1, 16) := by kernel_rfl

/-- The slice v holds these texts in the world w. -/
def IsTexts (w : World) (v : Value) (ts : List (List UInt8)) : Prop :=
  ∃ ao cap, v = .slice ao ts.length cap ∧ ts.length ≤ 1000000 ∧ (ts = [] ∨ ∃ b off, ao = some ⟨b, off, none⟩ ∧ b < w.heap.size ∧ ∀ j (h : j < ts.length), w.cell? ⟨b, off + j, none⟩ = some (.string (str ts[j])))
theorem IsTexts.below {w w' : World} {v : Value} {ts : List (List UInt8)} {B : Nat} (h : IsTexts w v ts) (hb : Below B w w') (hB : w.heap.size ≤ B) : IsTexts w' v ts := by
  obtain ⟨ao, cap, hv, hl, h⟩ := h
  refine ⟨ao, cap, hv, hl, ?_⟩
  rcases h with h | ⟨b, off, ha, hlt, hc⟩
  · exact .inl h
  · exact .inr ⟨b, off, ha, Nat.lt_of_lt_of_le hlt hb.size, fun j hj => by rw [hb.cell (p := ⟨b, off + j, none⟩) (by exact Nat.lt_of_lt_of_le hlt hB)]; exact hc j hj⟩
theorem IsTexts.nil (w : World) : IsTexts w (.slice none 0 0) [] := ⟨none, 0, rfl, by simp, .inl rfl⟩
theorem IsTexts.own {w : World} {base : Nat} {v : Value} {n : Nat} {f : Nat → List UInt8} (h : w.ownsRow base 9 1 v n (txtRow n f)) (hl : n ≤ 1000000) : IsTexts w v ((List.range n).map f) := by
  have hlen : ((List.range n).map f).length = n := by simp
  rcases h.2 with ⟨hv, hn⟩ | ⟨g, cap, cur, hv, _, hg, _⟩
  · exact ⟨none, 0, by rw [hv, hlen, hn], by rw [hlen]; exact hl, .inl (by subst hn; rfl)⟩
  · refine ⟨_, cap, by rw [hlen]; exact hv, by rw [hlen]; exact hl, .inr ⟨g, 0, rfl, (Array.getElem?_eq_some_iff.1 hg).1, fun j hj => ?_⟩⟩
    subst hv
    rw [hlen] at hj
    rw [Nat.zero_add, h.cellAt j (by omega), txtRow_get n f j hj]
    simp

theorem txtRow_start (xs : List Int) : txtRow xs.length (wordAt xs 0 0) = (madeCells (Value.string ⟨#[]⟩).cells (xs.length * 1)).toList := by
  rw [show (Value.string ⟨#[]⟩).cells = #[Value.string ⟨#[]⟩] from rfl, toList_madeCells_one]
  apply List.ext_getElem?
  intro j
  by_cases h : j < xs.length
  · rw [txtRow_get _ _ _ h, List.getElem?_replicate, if_pos (by omega), wordAt_start]; rfl
  · rw [List.getElem?_eq_none (by rw [txtRow_length]; omega), List.getElem?_eq_none (by simp; omega)]

/-- the number as it stands ahead of the words of t + 1 bits. -/
def nb (xs : List Int) : Nat → Nat
  | 0 => 0
  | t + 1 => nxt xs t xs.length
theorem base_nb (xs : List Int) (t : Nat) : base xs t = 2 * nb xs t := by
  cases t with
  | zero => rfl
  | succ t => exact nxt_end xs t
theorem nb_fits (xs : List Int) (t : Nat) (ht : t ≤ 15) (hs : ksum xs ≤ 32768) : nb xs t ≤ 65536 := by
  cases t with
  | zero => simp [nb]
  | succ t => exact Nat.le_trans (nxt_fits xs t _ (by omega) hs) (pow16 (by omega))

theorem number_int (n size : Int) (N S : Nat) (hn : n = N) (hS : size = S) (h16 : S ≤ 16) (hlt : N < 2 ^ S) (w : World) :
    Calls Try.prog 20 #[.int .i64 n, .int .i64 size] w fun e w' => e = .returned (.tuple #[.string (str (numBits N S)), .int .i64 0]) ∧ Below w.heap.size w w' := by
  subst hn hS
  exact number_ok N S h16 hlt w

set_option maxRecDepth 100000 in
set_option maxHeartbeats 800000 in
theorem words_walk (v : Value) (xs : List Int) (w : World) (hv : IsInts w v xs) (hE : checkE xs = 0) :
    Calls Try.prog 32 #[v] w fun e w' => ∃ r, e = .returned (.tuple #[r, .int .i64 0]) ∧ IsTexts w' r (wordsOf xs) ∧ Below w.heap.size w w' := by
  obtain ⟨hl1, hl2, hok, hs1, hs2⟩ := checkE_zero hE
  obtain ⟨i0, hi, hz0, hz1, hz2⟩ := info_parts Try.infoStr
  have HV := hide hv
  obtain ⟨ao, ca, rfl, hla, hc⟩ := hv
  obtain ⟨b, off, hao, hbl, hcell⟩ : ∃ b off, ao = some ⟨b, off, none⟩ ∧ b < w.heap.size ∧ ∀ j (h : j < xs.length), w.cell? ⟨b, off + j, none⟩ = some (.int .i64 xs[j]) := by
    rcases hc with h | h
    · subst h; exact absurd hl1 (by simp)
    · exact h
  subst hao
  have HCELL := hide hcell; clear hcell hc
  have HOK := hide hok; clear hok
  have HK := hide hs2; clear hs1 hs2
  go_enter Try.func32, Try.ntmps32
  go_wp2_with (first | (go_at_call 36; refine (check_any _ _ _ HV.out).mono ?_; rintro e w1 ⟨rfl, rfl⟩) | (at_make; refine wpList_make_full _ rfl _ _ 43 rfl w.heap.size 9 i0 (.string ⟨#[]⟩) 1 Try.underlying43 hi hz0 hz1 .i64 .i64 _ _ xs.length rfl rfl rfl rfl (by rw [hz2]; omega) (by unfold maxLen; omega) (Nat.le_refl _) ?_; intro w1 hown hgr))
  have hb1 : Below w.heap.size w w1 := (Below.refl _ _).grown hgr (Nat.le_refl _) (by simp)
  have ho1 : w1.ownsRow w.heap.size 9 1 (.slice (some ⟨w.heap.size, 0, none⟩) xs.length xs.length) xs.length (txtRow xs.length (wordAt xs 0 0)) := by
    rw [show txtRow xs.length (wordAt xs 0 0) = (madeCells (Value.string ⟨#[]⟩).cells (xs.length * 1)).toList from txtRow_start xs]
    exact hown
  clear hown hgr hE
  go_loopw [6, 7] (fun nx sz wr => ∃ t : Nat, t ≤ 15 ∧ sz = .int .i64 ((t : Int) + 1) ∧ nx = .int .i64 (nb xs t : Nat) ∧
      wr.ownsRow w.heap.size 9 1 (.slice (some ⟨w.heap.size, 0, none⟩) xs.length xs.length) xs.length (txtRow xs.length (wordAt xs t 0)) ∧ Below w.heap.size w wr)
    (fun _ sz _ => 16 - (intOf sz).toNat)
  case atStart => exact ⟨0, by omega, by go_num, rfl, ho1, hb1⟩
  case round =>
    obtain ⟨t, ht, rfl, rfl, ho, hb⟩ := hrel
    clear ho1 hb1
    by_cases hlt : t < 15
    · have hd : decide ((t : Int) + 1 ≤ 15) = true := by simp; omega
      have hnb := nb_fits xs t (by omega) HK.out
      have HB := hide (base_nb xs t)
      have HZ := hide (nxt_zero xs t)
      generalize hN : nb xs t = N at *
      clear hN
      go_wp2
      go_loopw [6, 25] (fun nx i wq => ∃ k : Nat, k ≤ xs.length ∧ i = .int .i64 k ∧ nx = .int .i64 (nxt xs t k : Nat) ∧
          wq.ownsRow w.heap.size 9 1 (.slice (some ⟨w.heap.size, 0, none⟩) xs.length xs.length) xs.length (txtRow xs.length (wordAt xs t k)) ∧ Below w.heap.size w wq)
        (fun _ i _ => xs.length - (intOf i).toNat)
      case atStart => exact ⟨0, Nat.zero_le _, rfl, by rw [HZ.out, HB.out]; go_num, ho, hb⟩
      case round =>
        obtain ⟨k, hk, rfl, rfl, ho2, hb2⟩ := hrel
        clear ho hb
        have hfit := nxt_fits xs t k (by omega) HK.out
        have hp16 := pow16 (n := t + 1) (by omega)
        by_cases hkl : k < xs.length
        · have c1 := (hb2.cell (p := ⟨b, off + k, none⟩) hbl).trans (HCELL.out k hkl)
          by_cases he : xs[k] = (t : Int) + 1
          · have hnl := nxt_lt xs t k (by omega) HK.out hkl he
            have HN1 := hide (show nxt xs t (k + 1) = nxt xs t k + 1 by rw [nxt, nxt, cnt_succ xs _ k hkl, if_pos he]; omega)
            have HS := hide (txtRow_set xs.length (wordAt xs t k) (wordAt xs t (k + 1)) k (numBits (nxt xs t k) (t + 1)) (wordAt_this xs t k hkl he) (fun i _ hi => wordAt_other xs t k i hi))
            have c2 := ho2.cellAt k (by omega)
            rw [txtRow_get _ _ _ hkl] at c2
            have f2 := ho2.frozenAt k
            have heq : (xs[k] == (t : Int) + 1) = true := by simpa using he
            have HNL := hide hnl
            have hsz := hb2.size
            clear he
            have hM : nxt xs t k ≤ 65536 := by omega
            clear hfit hp16 hnl
            generalize nxt xs t k = M at *
            go_wp2_with (go_at_call 20; refine (number_int _ _ M (t + 1) rfl (by omega) (by omega) HNL.out _).mono ?_; rintro e w3 ⟨rfl, hb3⟩; have ho3 := ownsRow_below ho2 hb3; have c3 := (ho3.cellAt k (by omega)).trans (ho2.cellAt k (by omega) ▸ c2); have f3 := ho3.frozenAt k)
            have ho4 := (ho3.stored k (.string (str (numBits M (t + 1))))).1
            rw [HS.out] at ho4
            go_roundw
            case rel => exact ⟨k + 1, by omega, by go_num, by rw [HN1.out]; go_num, ho4, (hb2.trans (hb3.mono hsz)).setCell (Nat.le_refl _) _⟩
            case measure => simp [intOf]; omega
          · have HN1 := hide (show nxt xs t (k + 1) = nxt xs t k by rw [nxt, nxt, cnt_succ xs _ k hkl, if_neg he]; omega)
            have HS := hide (txtRow_congr xs.length (wordAt xs t (k + 1)) (wordAt xs t k) (fun i _ => wordAt_skip xs t k i hkl he))
            have heq : (xs[k] == (t : Int) + 1) = false := by simpa using he
            clear he
            go_wp2
            go_roundw
            case rel => exact ⟨k + 1, by omega, by go_num, by rw [HN1.out], by rw [HS.out]; exact ho2, hb2⟩
            case measure => simp [intOf]; omega
        · obtain rfl : k = xs.length := by omega
          have HS := hide (txtRow_congr xs.length (wordAt xs (t + 1) 0) (wordAt xs t xs.length) (fun i hi => wordAt_turn xs t i hi))
          have HN1 := hide (show nb xs (t + 1) = nxt xs t xs.length from rfl)
          go_wp2
          go_roundw
          case rel => exact ⟨t + 1, by omega, by go_num, by rw [HN1.out], by rw [HS.out]; exact ho2, hb2⟩
          case measure => simp [intOf]; omega
    · obtain rfl : t = 15 := by omega
      have HS := hide (txtRow_congr xs.length (wordAt xs 15 0) (word xs) (fun i hi => wordAt_end xs i hi HOK.out))
      rw [HS.out] at ho
      have hT := IsTexts.own ho (by omega)
      go_wp2
      go_ret2
      exact ⟨_, rfl, hT, hb⟩

theorem words_any (v : Value) (xs : List Int) (w : World) (hv : IsInts w v xs) :
    Calls Try.prog 32 #[v] w fun e w' => ∃ r, e = .returned (.tuple #[r, .int .i64 (checkE xs)]) ∧ IsTexts w' r (if checkE xs = 0 then wordsOf xs else []) ∧ Below w.heap.size w w' := by
  by_cases hE : checkE xs = 0
  · rw [if_pos hE, hE]
    exact words_walk v xs w hv hE
  · rw [if_neg hE]
    have hne : (checkE xs != 0) = true := by simpa using hE
    clear hE
    have HV := hide hv; clear hv
    go_enter Try.func32, Try.ntmps32
    go_wp2_with (go_at_call 36; refine (check_any _ _ _ HV.out).mono ?_; rintro e w1 ⟨rfl, rfl⟩)
    go_ret2
    exact ⟨_, rfl, IsTexts.nil _, Below.refl _ _⟩

end Go.Proofs.Ytolcndchfnifhaa
