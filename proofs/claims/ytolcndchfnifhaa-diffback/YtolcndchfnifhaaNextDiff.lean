/- diff: nextDifference, mostBytes, isFill. -/
import Derived.Test.YtolcndchfnifhaaDiffWrite
import Derived.Test.YtolcndchfnifhaaUnpack
namespace Go.Proofs.Ytolcndchfnifhaa
open Go.RowKit

theorem val_next (l : List UInt8) (k : Nat) (h : k < l.length) (hb : allB l = true) (hk : k ≤ 15) :
    valOf (l.take k) < 65536 ∧ 48 ≤ l[k].toNat ∧ l[k].toNat ≤ 49 ∧ valOf (l.take (k + 1)) = 2 * valOf (l.take k) + (l[k].toNat - 48) := by
  have h1 := valOf_lt _ (allB_take hb k)
  have hl : (l.take k).length ≤ 16 := by simp; omega
  have h2 := pow16 hl
  have h3 := allB_get hb k h
  rw [List.take_succ_eq_append_getElem h, valOf_snoc]
  omega

theorem nxD_err {f : List UInt8 → Option (Int × Bool)} {b : List UInt8} (h : (nextF f [] b).2.1 ≠ 0) : nxD f b = none := by rw [nxD, if_neg h]
theorem nxD_top {f : List UInt8 → Option (Int × Bool)} {b : List UInt8} (h : (nextF f [] b).2.1 = 0) (h1 : (nextF f [] b).1 = 16) : nxD f b = some (32768, (nextF f [] b).2.2) := by rw [nxD, if_pos h, if_pos h1]
theorem nxD_short {f : List UInt8 → Option (Int × Bool)} {b : List UInt8} (h : (nextF f [] b).2.1 = 0) (i : Nat) (h1 : (nextF f [] b).1 = i) (hi : i ≤ 15) (hl : b.length < (nextF f [] b).2.2 + i) : nxD f b = none := by
  rw [nxD, if_pos h, if_neg (by omega), h1, Int.toNat_natCast, if_pos hl]
theorem nxD_ok {f : List UInt8 → Option (Int × Bool)} {b : List UInt8} (h : (nextF f [] b).2.1 = 0) (i : Nat) (h1 : (nextF f [] b).1 = i) (hi : i ≤ 15) (hl : (nextF f [] b).2.2 + i ≤ b.length) : nxD f b = some (tailV i (valOf ((b.drop (nextF f [] b).2.2).take i)), (nextF f [] b).2.2 + i) := by
  rw [nxD, if_pos h, if_neg (by omega), h1, Int.toNat_natCast, if_neg (by omega)]

set_option maxRecDepth 100000 in
set_option maxHeartbeats 400000 in
theorem nextD_any (ca : Option Addr) (cl cc bm n : Nat) (f : List UInt8 → Option (Int × Bool)) (ba bb : Nat) (bits : List UInt8) (pos : Nat) (w : World) (hm : BookMap w bm n f) (hfl : ∀ key, f key ≠ none → key.length ≤ 100) (ht : TakerAt w ba bb bits pos) (hbits : allB bits = true)
    (hcls : (nextF f [] (bits.drop pos)).2.1 = 0 → ∃ i : Nat, i ≤ 16 ∧ (nextF f [] (bits.drop pos)).1 = i) :
    Calls Try.prog 92 #[.agg #[.slice ca cl cc, .map (some bm)], .func (.func 113) #[] #[.pointer (some ⟨ba, 0, none⟩), .pointer (some ⟨bb, 0, none⟩)]] w fun e w' =>
      (∀ d m, nxD f (bits.drop pos) = some (d, m) → e = .returned (.tuple #[.int .i64 d, .bool true]) ∧ TakerAt w' ba bb bits (pos + m)) ∧
      (nxD f (bits.drop pos) = none → e = .returned (.tuple #[.int .i64 0, .bool false])) ∧ w.grownBy w' (some ba) := by
  have HBK := hide (hm.below (bel_alloc w (.cells #[.slice ca cl cc, .map (some bm)] 98)) (Nat.le_refl _))
  have HT0 := hide (ht.below (bel_alloc w (.cells #[.slice ca cl cc, .map (some bm)] 98)))
  have hbl := ht.2.2.2
  have hlt := ht.lt
  have HFL := hide hfl
  have hle := nextF_le f [] (bits.drop pos)
  rw [List.length_drop] at hle
  have hpl := ht.2.2.1
  have HX1 := hide (fun h => nxD_err (f := f) (b := bits.drop pos) h)
  have HX2 := hide (fun h => nxD_top (f := f) (b := bits.drop pos) h)
  have HX3 := hide (fun h => nxD_short (f := f) (b := bits.drop pos) h)
  have HX4 := hide (fun h => nxD_ok (f := f) (b := bits.drop pos) h)
  have HC := hide hcls
  clear hcls hm ht hfl
  go_enter Try.func92, Try.ntmps92
  go_wp2_with fail
  refine (next_any _ ca cl cc rfl bm n f ba bb bits pos _ HBK.out HFL.out HT0.out).mono ?_
  rintro e w1 ⟨rfl, ht1, hg1⟩
  have HG1 := hide ((World.grownBy_alloc w (.cells #[.slice ca cl cc, .map (some bm)] 98) (some ba)).trans hg1)
  have HT1 := hide ht1
  clear ht1 hg1 HT0 HBK HFL
  generalize (nextF f [] (bits.drop pos)).2.2 = m0 at *
  generalize (nextF f [] (bits.drop pos)).2.1 = er at *
  generalize (nextF f [] (bits.drop pos)).1 = cl0 at *
  by_cases her : er = 0
  · subst her
    obtain ⟨i, hi16, rfl⟩ := HC.out rfl
    clear HC
    by_cases h16 : i = 16
    · subst h16
      have HNX := hide (HX2.out rfl rfl)
      go_wp2
      go_ret2
      refine ⟨fun d m h => ?_, fun h => ?_, HG1.out⟩
      · rw [HNX.out] at h; cases h; exact ⟨rfl, HT1.out⟩
      · rw [HNX.out] at h; cases h
    · have hi15 : i ≤ 15 := by omega
      have HY3 := hide (HX3.out rfl i rfl hi15)
      have HY4 := hide (HX4.out rfl i rfl hi15)
      clear HX1 HX2 HX3 HX4
      have hib : ((i : Int) == 16) = false := by simp; omega
      have hdl : (bits.drop (pos + m0)).length = bits.length - (pos + m0) := List.length_drop
      have HDD := hide (show (bits.drop pos).drop m0 = bits.drop (pos + m0) from List.drop_drop)
      have HAB := hide (allB_drop hbits (pos + m0))
      have HLD := hide (show (bits.drop pos).length = bits.length - pos from List.length_drop)
      have HGET := hide (show ∀ k (h : pos + m0 + k < bits.length) (h2 : k < (bits.drop (pos + m0)).length), bits[pos + m0 + k] = (bits.drop (pos + m0))[k] from fun k h h2 => by rw [List.getElem_drop])
      rw [HDD.out] at HY4
      rw [HLD.out] at HY3 HY4
      generalize bits.drop (pos + m0) = L at *
      clear HDD h16
      go_wp2
      go_loopw [8, 22] (fun v j wr => ∃ k : Nat, k ≤ i ∧ k ≤ L.length ∧ j = .int .i64 k ∧ v = .int .i64 (valOf (L.take k) : Nat) ∧ Hid (TakerAt wr ba bb bits (pos + m0 + k)) ∧ Hid (w.grownBy wr (some ba)))
        (fun _ j _ => i - (intOf j).toNat)
      case atStart => exact ⟨0, Nat.zero_le _, Nat.zero_le _, rfl, rfl, HT1, HG1⟩
      case round =>
        obtain ⟨k, hk, hkL, rfl, rfl, HTK, HGK⟩ := hrel
        by_cases hki : k < i
        · have hd : decide ((k : Int) < (i : Int)) = true := by simp; omega
          by_cases hkl : k < L.length
          · obtain ⟨v1, v2, v3, v4⟩ := val_next L k hkl HAB.out (by omega)
            have HV4 := hide v4
            have HGT := hide (HGET.out k (by omega) hkl)
            clear v4
            go_wp2_with fail
            refine (take_one ba bb bits (pos + m0 + k) _ HTK.out (by omega)).mono ?_
            rintro e w3 ⟨rfl, hw3⟩
            have HT3 := hide (show TakerAt w3 ba bb bits (pos + m0 + (k + 1)) by rw [← hw3]; exact HTK.out.moved (by omega))
            have HG3 := hide (show w.grownBy w3 (some ba) by
              rw [← hw3]
              refine ⟨HGK.out.os, HGK.out.tape, HGK.out.output, by simpa [World.setCell] using HGK.out.size, fun q hq hne => ?_⟩
              rw [Below.heap_setCell _ _ _ _ (fun e => hne (by rw [e]))]
              exact HGK.out.block q hq hne)
            rw [HGT.out]
            clear hw3 HTK HGK HGT
            generalize L[k].toNat = c at *
            generalize valOf (L.take k) = V at *
            go_wp2
            go_roundw
            case rel => exact ⟨k + 1, by omega, by omega, by go_num, by rw [HV4.out]; go_num, HT3, HG3⟩
            case measure => simp [intOf]; omega
          · obtain rfl : k = L.length := by omega
            have HNX := hide (HY3.out (by omega))
            have HTE := hide (show TakerAt wr ba bb bits bits.length by have h := HTK.out; rw [show pos + m0 + L.length = bits.length by omega] at h; exact h)
            go_wp2_with (go_at_call 113; refine (take_end ba bb bits _ HTE.out).mono ?_; rintro e w3 ⟨rfl, rfl⟩)
            go_ret2
            refine ⟨fun d m h => ?_, fun _ => rfl, HGK.out⟩
            rw [HNX.out] at h; cases h
        · obtain rfl : k = i := by omega
          have hd : decide ((k : Int) < (k : Int)) = false := by simp
          have HNX := hide (HY4.out (by omega))
          have hv := valOf_lt _ (allB_take HAB.out k)
          rw [List.length_take, Nat.min_eq_left hkL] at hv
          have HTV := hide (show tailV k (valOf (L.take k)) = if valOf (L.take k) < 2 ^ k / 2 then ((valOf (L.take k) : Nat) : Int) - ((2 ^ k : Nat) - 1) else ((valOf (L.take k) : Nat) : Int) by rw [tailV, pow_cast])
          have hw := wrap_pow (n := k) (by omega)
          have hp := pow16 (n := k) (by omega)
          generalize valOf (L.take k) = V at *
          generalize tailV k V = TV at *
          obtain ⟨p, hpe⟩ : ∃ p : Nat, 2 ^ k = p := ⟨_, rfl⟩
          rw [hpe] at hw hp hv HTV
          clear hpe
          clear HY3 HY4 HGET HAB hdl hle hpl hbl hbits
          by_cases hlow : V < p / 2
          · have HTV := hide (HTV.out.trans (if_pos hlow))
            go_wp2
            go_ret2
            refine ⟨fun d m h => ?_, fun h => ?_, HGK.out⟩
            · rw [HNX.out] at h
              cases h
              refine ⟨ret_tup2 (congrArg (Value.int IntKind.i64) ?_) rfl, by rw [← Nat.add_assoc]; exact HTK.out⟩
              rw [HTV.out]
            · rw [HNX.out] at h; cases h
          · have HTV := hide (HTV.out.trans (if_neg hlow))
            go_wp2
            go_ret2
            refine ⟨fun d m h => ?_, fun h => ?_, HGK.out⟩
            · rw [HNX.out] at h
              cases h
              refine ⟨ret_tup2 (congrArg (Value.int IntKind.i64) ?_) rfl, by rw [← Nat.add_assoc]; exact HTK.out⟩
              rw [HTV.out]
            · rw [HNX.out] at h; cases h
  · have HNX := hide (HX1.out her)
    have hne : (er != 0) = true := by simpa using her
    clear her HC
    go_wp2
    go_ret2
    refine ⟨fun d m h => ?_, fun _ => rfl, HG1.out⟩
    rw [HNX.out] at h; cases h

theorem mostBytes_any (n : Int) (h0 : 0 ≤ n) (h1 : n ≤ 4096) (w : World) :
    Calls Try.prog 91 #[.int .i64 n] w fun e w' => e = .returned (.int .i64 ((n * 30 + 7) / 8)) ∧ w = w' := by
  go_enter Try.func91, Try.ntmps91
  go_wp2
  go_ret
  exact ⟨rfl, rfl⟩

set_option maxRecDepth 100000 in
theorem isFill_any (l : List UInt8) (hl : l.length ≤ 281474976710656) (w : World) :
    Calls Try.prog 93 #[.string (str l)] w fun e w' => e = .returned (.bool (fillOk l)) ∧ w = w' := by
  have hs : (str l).size = l.length := str_size l
  by_cases h8 : l.length < 8
  · have hd : decide ((l.length : Int) < 8) = true := by simp; omega
    have HE := hide (show (!hasOne l) = fillOk l by rw [fillOk]; simp [h8])
    go_enter Try.func93, Try.ntmps93
    go_wp2_with (go_at_call 68; refine (contains_any l _).mono ?_; rintro e w1 ⟨rfl, rfl⟩)
    go_ret
    exact ⟨ret_bool HE.out, rfl⟩
  · have hd : decide ((l.length : Int) < 8) = false := by simp; omega
    have HE := hide (show false = fillOk l by rw [fillOk]; simp [h8])
    go_enter Try.func93, Try.ntmps93
    go_wp2
    go_ret
    exact ⟨ret_bool HE.out, rfl⟩

end Go.Proofs.Ytolcndchfnifhaa
