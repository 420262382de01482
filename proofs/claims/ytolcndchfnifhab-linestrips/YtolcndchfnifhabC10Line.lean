/- Line: part 10 of what the proofs need. -/
import Derived.Test.YtolcndchfnifhabC2Line
import Derived.Test.YtolcndchfnifhabC3Line
import Derived.Test.YtolcndchfnifhabC9Line
namespace Go.Proofs.Ytolcndchfnifhab
set_option linter.unusedVariables false
open Go.RowKit
def FiJ (w : World) (W H : Nat) (qv : Value) (L : List Px) (k : Nat) (wr : World) : Prop :=
  ∃ so scap, wr.heap[w.heap.size + 2]? = some (.cells #[.int .i64 W, .int .i64 H, .slice so k scap] 39 (0, 0)) ∧ wr.ownsRow w.heap.size 50 3 (.slice so k scap) k ((L.take k).flatMap pixL) ∧ wr.heap[w.heap.size]? = some (.cells #[.int .i64 W, .int .i64 H, qv] 24 (0, 0)) ∧ wr.heap[w.heap.size + 1]? = some (.cells #[.int .i64 0, .int .i64 0, .slice none 0 0] 39 (0, 0)) ∧ Below w.heap.size w wr
theorem FiJ.below {w : World} {W H : Nat} {qv : Value} {L : List Px} {k : Nat} {wr wv : World} (h : FiJ w W H qv L k wr) (hb : Below wr.heap.size wr wv) : FiJ w W H qv L k wv := by
  obtain ⟨so, scap, j1, j2, j3, j4, j5⟩ := h
  exact ⟨so, scap, (hb.block _ (Array.getElem?_eq_some_iff.1 j1).1).trans j1, ownsRow_below j2 hb, (hb.block _ (Array.getElem?_eq_some_iff.1 j3).1).trans j3, (hb.block _ (Array.getElem?_eq_some_iff.1 j4).1).trans j4, j5.trans (hb.mono j5.size)⟩
def FiK (wr : World) (s t : Nat → Int) (wv : World) : Prop :=
  wv.heap[wr.heap.size]? = some (.cells (tri s) 25 (0, 0)) ∧ wv.heap[wr.heap.size + 1]? = some (.cells (tri t) 25 (0, 0)) ∧ Below wr.heap.size wr wv
theorem FiK.below {wr : World} {s t : Nat → Int} {wv wx : World} (h : FiK wr s t wv) (hb : Below wv.heap.size wv wx) : FiK wr s t wx := by
  obtain ⟨k1, k2, k3⟩ := h
  exact ⟨(hb.block _ (Array.getElem?_eq_some_iff.1 k1).1).trans k1, (hb.block _ (Array.getElem?_eq_some_iff.1 k2).1).trans k2, k3.trans (hb.mono k3.size)⟩
theorem FiK.congr {wr : World} {s t s' t' : Nat → Int} {wv : World} (h : FiK wr s t wv) (hs : ∀ j, j < 3 → s j = s' j) (ht : ∀ j, j < 3 → t j = t' j) : FiK wr s' t' wv := by
  obtain ⟨k1, k2, k3⟩ := h
  exact ⟨by rw [← tri_congr s s' hs]; exact k1, by rw [← tri_congr t t' ht]; exact k2, k3⟩
theorem FiK.set {wr : World} {s t s' t' : Nat → Int} {V : World} (h : FiK wr s t V) (k : Nat) (x y : Int) (hk : k < 3) (hx : x = s' k) (hy : y = t' k) (hs : ∀ j, j < 3 → j ≠ k → s j = s' j) (ht : ∀ j, j < 3 → j ≠ k → t j = t' j) : FiK wr s' t' ((V.setCell ⟨wr.heap.size, k, none⟩ (.int .i64 x)).setCell ⟨wr.heap.size + 1, k, none⟩ (.int .i64 y)) := by
  obtain ⟨k1, k2, k3⟩ := h
  have o1 : (V.setCell ⟨wr.heap.size, k, none⟩ (.int .i64 x)).heap[wr.heap.size]? = some (.cells (tri s') 25 (0, 0)) := by
    rw [heap_setCell_same V wr.heap.size k _ _ _ k1, tri_set s s' k x hk hx hs]
  have o2 : (V.setCell ⟨wr.heap.size, k, none⟩ (.int .i64 x)).heap[wr.heap.size + 1]? = some (.cells (tri t) 25 (0, 0)) := (Below.heap_setCell _ _ _ _ (show wr.heap.size + 1 ≠ wr.heap.size by omega)).trans k2
  refine ⟨(Below.heap_setCell _ _ _ _ (show wr.heap.size ≠ wr.heap.size + 1 by omega)).trans o1, ?_, (k3.setCell (p := ⟨wr.heap.size, k, none⟩) (Nat.le_refl _) _).setCell (p := ⟨wr.heap.size + 1, k, none⟩) (Nat.le_succ _) _⟩
  rw [heap_setCell_same _ (wr.heap.size + 1) k _ _ _ o2, tri_set t t' k y hk hy ht]
def FiL (wr : World) (LB : Nat) (s t l : Nat → Int) (wv : World) : Prop := FiK wr s t wv ∧ wv.heap[LB]? = some (.cells (tri l) 25 (0, 0))
theorem FiL.below {wr : World} {LB : Nat} {s t l : Nat → Int} {wv wx : World} (h : FiL wr LB s t l wv) (hb : Below wv.heap.size wv wx) : FiL wr LB s t l wx :=
  ⟨h.1.below hb, (hb.block _ (Array.getElem?_eq_some_iff.1 h.2).1).trans h.2⟩
theorem FiL.set {wr : World} {LB : Nat} {s t l l' : Nat → Int} {V : World} (h : FiL wr LB s t l V) (hLB : wr.heap.size + 2 ≤ LB) (k : Nat) (x : Int) (hk : k < 3) (hx : x = l' k) (hl : ∀ j, j < 3 → j ≠ k → l j = l' j) : FiL wr LB s t l' (V.setCell ⟨LB, k, none⟩ (.int .i64 x)) := by
  obtain ⟨⟨k1, k2, k3⟩, k4⟩ := h
  refine ⟨⟨(Below.heap_setCell _ _ _ _ (show wr.heap.size ≠ LB by omega)).trans k1, (Below.heap_setCell _ _ _ _ (show wr.heap.size + 1 ≠ LB by omega)).trans k2, k3.setCell (p := ⟨LB, k, none⟩) (show wr.heap.size ≤ LB by omega) _⟩, ?_⟩
  rw [heap_setCell_same V LB k _ _ _ k4, tri_set l l' k x hk hx hl]
theorem bnd (Y H : Nat) (h : Y < H) : ∃ a0 a1 : Nat, a0 ≤ 1 ∧ 1 ≤ a1 ∧ a1 ≤ 2 ∧ (if (0 : Int) < (Y : Int) - 1 then (Y : Int) - 1 else 0) = (Y : Int) - 1 + a0 ∧ (if (Y : Int) + 1 < (H : Int) - 1 then (Y : Int) + 1 else (H : Int) - 1) = (Y : Int) - 1 + a1 ∧ (∀ a : Nat, a < a0 → (Y : Int) - 1 + a < 0) ∧ (∀ a : Nat, a1 < a → a < 3 → (H : Int) ≤ (Y : Int) - 1 + a) ∧ 0 ≤ (Y : Int) - 1 + a0 ∧ (Y : Int) - 1 + a1 < H := by
  refine ⟨if Y = 0 then 1 else 0, if Y + 1 < H then 2 else 1, ?_⟩
  split <;> split <;> (refine ⟨by omega, by omega, by omega, ?_, ?_, fun a ha => by omega, fun a ha hb => by omega, by omega, by omega⟩ <;> (split <;> omega))
set_option maxRecDepth 100000 in
set_option maxHeartbeats 16000000 in
theorem filled_any (W H p : Nat) (hW1 : 1 ≤ W) (hW : W ≤ 64) (hH1 : 1 ≤ H) (hH : H ≤ 64) (hp : p ≤ 3) (v : Value) (zs : List Int) (hlen : zs.length = H * W) (hzs : allIn 0 65535 zs = true) (w : World) (hv : IsInts w v zs) :
    Calls Try.prog 25 #[.agg #[.int .i64 W, .int .i64 H, v], .int .i64 p] w fun e w' => ∃ r, e = .returned (.agg #[.int .i64 W, .int .i64 H, r]) ∧ IsPix w' r ((List.range zs.length).map (fillP zs W H p)) ∧ Below w.heap.size w w' ∧ Fresh w.heap.size r := by
  have HZS := hide hzs
  have HV := hide hv
  have HLEN := hide hlen
  have hlb : zs.length ≤ 4096 := by rw [hlen]; exact Nat.le_trans (Nat.mul_le_mul hH hW) (by decide)
  have hLL : ((List.range zs.length).map (fillP zs W H p)).length = zs.length := by simp
  have HLG := hide (show ∀ j, j < zs.length → ((List.range zs.length).map (fillP zs W H p))[j]? = some (fillP zs W H p j) from fun j hj => by simp [hj])
  obtain ⟨L, hL⟩ : ∃ L, (List.range zs.length).map (fillP zs W H p) = L := ⟨_, rfl⟩
  rw [hL] at hLL HLG ⊢
  have HLL := hide hLL
  clear hL hLL hzs hlen
  obtain ⟨ao, ca, rfl, hla, hc⟩ := hv
  clear hc
  obtain ⟨i0, hi, hz0, hz1, hz2⟩ := info_parts Try.infoPixel
  go_enter Try.func25, Try.ntmps25
  go_wp2_with fail
  obtain ⟨a1, a2, a3⟩ := al3 w (Obj.cells #[.int .i64 W, .int .i64 H, .slice ao zs.length ca] 24) (Obj.cells #[.int .i64 0, .int .i64 0, .slice none 0 0] 39) (Obj.cells #[.int .i64 W, .int .i64 H, .slice none 0 0] 39)
  have hB := be3 w (Obj.cells #[.int .i64 W, .int .i64 H, .slice ao zs.length ca] 24) (Obj.cells #[.int .i64 0, .int .i64 0, .slice none 0 0] 39) (Obj.cells #[.int .i64 W, .int .i64 H, .slice none 0 0] 39)
  generalize ((w.alloc (Obj.cells #[.int .i64 W, .int .i64 H, .slice ao zs.length ca] 24)).alloc (Obj.cells #[.int .i64 0, .int .i64 0, .slice none 0 0] 39)).alloc (Obj.cells #[.int .i64 W, .int .i64 H, .slice none 0 0] 39) = U at *
  go_loopw [6] (fun i wr => ∃ Y : Nat, Y ≤ H ∧ i = .int .i64 Y ∧ FiJ w W H (.slice ao zs.length ca) L (Y * W) wr) (fun i _ => H - (intOf i).toNat)
  case atStart => exact ⟨0, Nat.zero_le _, rfl, none, 0, by rw [Nat.zero_mul]; exact a3, by rw [Nat.zero_mul]; exact World.ownsRow_nil _ _ _ _, a1, a2, hB⟩
  case round =>
    clear a1 a2 a3 hB
    obtain ⟨Y, hY, rfl, hJ⟩ := hrel
    have HJ := hide hJ
    obtain ⟨so, scap, j1, j2, j3, j4, j5⟩ := hJ
    obtain ⟨q0, q1, q2⟩ := cells3 j3
    by_cases hlt : Y < H
    · have hd : decide ((Y : Int) < (H : Int)) = true := by simp; omega
      obtain ⟨M, hM⟩ : ∃ M, M = Y * W := ⟨_, rfl⟩
      rw [← hM] at HJ j1 j2
      have hMM : M + W ≤ zs.length := by rw [HLEN.out, hM, ← Nat.succ_mul]; exact Nat.mul_le_mul_right _ hlt
      have HM := hide hM
      clear hM
      go_wp2_with fail
      go_loopw [7] (fun i wr => ∃ X : Nat, X ≤ W ∧ i = .int .i64 X ∧ FiJ w W H (.slice ao zs.length ca) L (M + X) wr) (fun i _ => W - (intOf i).toNat)
      case atStart => exact ⟨0, Nat.zero_le _, rfl, HJ.out⟩
      case round =>
        clear j1 j2 j3 j4 j5 q0 q1 q2 HJ hd
        obtain ⟨X, hX, rfl, hJ⟩ := hrel
        have HJ0 := hide hJ
        obtain ⟨so, scap, j1, j2, j3, j4, j5⟩ := hJ
        obtain ⟨q0, q1, q2⟩ := cells3 j3
        by_cases hlx : X < W
        · have hdx : decide ((X : Int) < (W : Int)) = true := by simp; omega
          have hk : M + X < zs.length := by omega
          obtain ⟨k, hkk⟩ : ∃ k, M + X = k := ⟨_, rfl⟩
          rw [hkk] at HJ0 hk
          have HK := hide hkk
          clear hkk
          have HB0 := hide j5
          have hlj := (Array.getElem?_eq_some_iff.1 j1).1
          generalize wr = R at *
          obtain ⟨a0, a1, ha0, ha1, ha2, hs, he, hlo, hhi, hg0, hg1⟩ := bnd Y H hlt
          obtain ⟨b0, b1, hb0, hb1, hb2, hsx, hex, hlox, hhix, hgx0, hgx1⟩ := bnd X W hlx
          have HLO := hide hlo
          have HHI := hide hhi
          have HLOX := hide hlox
          have HHIX := hide hhix
          clear hlo hhi hlox hhix
          obtain ⟨v0, hv0⟩ : ∃ v0, (Y : Int) - 1 + a0 = v0 := ⟨_, rfl⟩
          obtain ⟨vm, hvm⟩ : ∃ vm, (Y : Int) - 1 + a1 = vm := ⟨_, rfl⟩
          obtain ⟨u0, hu0⟩ : ∃ u0, (X : Int) - 1 + b0 = u0 := ⟨_, rfl⟩
          obtain ⟨um, hum⟩ : ∃ um, (X : Int) - 1 + b1 = um := ⟨_, rfl⟩
          rw [hv0] at hs hg0
          rw [hvm] at he hg1
          rw [hu0] at hsx hgx0
          rw [hum] at hex hgx1
          have hs2 : (if (1 : Int) < (Y : Int) then (Y : Int) - 1 else 0) = v0 := by rw [← hs]; split <;> split <;> omega
          have hsx2 : (if (1 : Int) < (X : Int) then (X : Int) - 1 else 0) = u0 := by rw [← hsx]; split <;> split <;> omega
          have HV0 := hide hv0
          have HVM := hide hvm
          have HU0 := hide hu0
          have HUM := hide hum
          clear hv0 hvm hu0 hum
          obtain ⟨zs0, zn0⟩ := al2 R (Obj.cells #[.int .i64 0, .int .i64 0, .int .i64 0] 25) (Obj.cells #[.int .i64 0, .int .i64 0, .int .i64 0] 25)
          have hZ := be2 R (Obj.cells #[.int .i64 0, .int .i64 0, .int .i64 0] 25) (Obj.cells #[.int .i64 0, .int .i64 0, .int .i64 0] 25)
          clear j1 j2 j3 j4 j5
          go_wp2_with fail
          generalize (R.alloc (Obj.cells #[.int .i64 0, .int .i64 0, .int .i64 0] 25)).alloc (Obj.cells #[.int .i64 0, .int .i64 0, .int .i64 0] 25) = Z0 at *
          clear q0 q1 q2 hdx
          go_loopw [10] (fun i wv => ∃ a : Nat, a0 ≤ a ∧ a ≤ a1 + 1 ∧ i = .int .i64 ((Y : Int) - 1 + a) ∧ FiK R (fun c => sumN (fS zs W H p X Y c) (3 * a)) (fun c => sumN (fN W H p X Y c) (3 * a)) wv) (fun i _ => ((Y : Int) + 2 - intOf i).toNat)
          case atStart =>
            refine ⟨a0, Nat.le_refl _, by omega, by rw [HV0.out], ?_⟩
            have h0 : ∀ c, sumN (fS zs W H p X Y c) (3 * a0) = 0 := fun c => sumN_skip _ 0 _ (Nat.zero_le _) (fun i _ hi => fS_out zs (fun h => by have := HLO.out (i / 3) (by omega); unfold fY at h; omega))
            have h1 : ∀ c, sumN (fN W H p X Y c) (3 * a0) = 0 := fun c => sumN_skip _ 0 _ (Nat.zero_le _) (fun i _ hi => fN_out (fun h => by have := HLO.out (i / 3) (by omega); unfold fY at h; omega))
            exact ⟨by rw [tri_congr _ (fun _ => 0) (fun j _ => h0 j)]; exact zs0, by rw [tri_congr _ (fun _ => 0) (fun j _ => h1 j)]; exact zn0, hZ⟩
          case round =>
            clear zs0 zn0 hZ
            obtain ⟨a, haa, hab, rfl, hK⟩ := hrel
            obtain ⟨so, scap, j1, j2, j3, j4, j5⟩ := HJ0.out.below hK.2.2
            obtain ⟨q0, q1, q2⟩ := cells3 j3
            clear j1 j2 j3 j4 j5 so scap
            obtain ⟨vv, hvv⟩ : ∃ vv : Int, (Y : Int) - 1 + a = vv := ⟨_, rfl⟩
            rw [hvv]
            by_cases hla : a ≤ a1
            · have hdv : decide (vv ≤ vm) = true := by have := HVM.out; simp; omega
              have hvn : 0 ≤ vv ∧ vv < H := by have := HV0.out; have := HVM.out; omega
              obtain ⟨VN, hVN⟩ := Int.eq_ofNat_of_zero_le hvn.1
              rw [hVN] at hdv ⊢
              go_wp2_with fail
              go_loopw [11] (fun i wv => ∃ b : Nat, b0 ≤ b ∧ b ≤ b1 + 1 ∧ i = .int .i64 ((X : Int) - 1 + b) ∧ FiK R (fun c => sumN (fS zs W H p X Y c) (3 * a + b)) (fun c => sumN (fN W H p X Y c) (3 * a + b)) wv) (fun i _ => ((X : Int) + 2 - intOf i).toNat)
              case atStart =>
                refine ⟨b0, Nat.le_refl _, by omega, by rw [HU0.out], hK.congr (fun c _ => ?_) (fun c _ => ?_)⟩
                · exact (sumN_skip _ (3 * a) _ (by omega) (fun i h1 h2 => fS_out zs (fun h => by have := HLOX.out (i % 3) (by omega); unfold fX at h; omega))).symm
                · exact (sumN_skip _ (3 * a) _ (by omega) (fun i h1 h2 => fN_out (fun h => by have := HLOX.out (i % 3) (by omega); unfold fX at h; omega))).symm
              case round =>
                clear hK q0 q1 q2
                obtain ⟨b, hba, hbb, rfl, hK⟩ := hrel
                obtain ⟨so, scap, j1, j2, j3, j4, j5⟩ := HJ0.out.below hK.2.2
                obtain ⟨q0, q1, q2⟩ := cells3 j3
                have hlq := (Array.getElem?_eq_some_iff.1 j3).1
                clear j1 j2 j4 so scap
                obtain ⟨uu, huu⟩ : ∃ uu : Int, (X : Int) - 1 + b = uu := ⟨_, rfl⟩
                rw [huu]
                by_cases hlb2 : b ≤ b1
                · have hdu : decide (uu ≤ um) = true := by have := HUM.out; simp; omega
                  have hun : 0 ≤ uu ∧ uu < W := by have := HU0.out; have := HUM.out; omega
                  obtain ⟨UN, hUN⟩ := Int.eq_ofNat_of_zero_le hun.1
                  obtain ⟨n, hn⟩ : ∃ n, 3 * a + b = n := ⟨_, rfl⟩
                  rw [hn] at hK
                  have HN := hide hn
                  have hfx : fX X n = uu := by unfold fX; rw [← hn, show (3 * a + b) % 3 = b by omega]; exact huu
                  have hfy : fY Y n = vv := by unfold fY; rw [← hn, show (3 * a + b) / 3 = a by omega]; exact hvv
                  have hUNW : UN < W := by omega
                  have hVNH : VN < H := by omega
                  have hkl : VN * W + UN < zs.length := by
                    have h1 : (VN + 1) * W ≤ H * W := Nat.mul_le_mul_right _ hVNH
                    rw [Nat.succ_mul] at h1
                    rw [HLEN.out]; omega
                  obtain ⟨K1, hK1⟩ : ∃ K1, VN * W + UN = K1 := ⟨_, rfl⟩
                  rw [hK1] at hkl
                  obtain ⟨c, hc⟩ : ∃ c, colV p UN VN = c := ⟨_, rfl⟩
                  have hc3 : c < 3 := by rw [← hc]; exact colV_lt p UN VN
                  have HOK := hide (show ∀ j, fOk W H p X Y j n ↔ c = j from fun j => by
                    unfold fOk; rw [hfx, hfy, hVN, hUN, Int.toNat_natCast, Int.toNat_natCast, hc]
                    exact ⟨fun h => h.2, fun h => ⟨by simp [hasB]; omega, h⟩⟩)
                  obtain ⟨z, hz⟩ : ∃ z, zAt zs K1 = z := ⟨_, rfl⟩
                  have hzr := zAt_ok HZS.out K1
                  rw [hz] at hzr
                  obtain ⟨hzr1, hzr2⟩ := hzr
                  have HFS := hide (show ∀ j, fS zs W H p X Y j n = if c = j then z else 0 from fun j => by
                    unfold fS; rw [hfx, hfy, hVN, hUN, Int.toNat_natCast, Int.toNat_natCast, hK1, hz]
                    by_cases h : c = j
                    · rw [if_pos ((HOK.out j).2 h), if_pos h]
                    · rw [if_neg (fun e => h ((HOK.out j).1 e)), if_neg h])
                  have HFN := hide (show ∀ j, fN W H p X Y j n = if c = j then 1 else 0 from fun j => by
                    unfold fN
                    by_cases h : c = j
                    · rw [if_pos ((HOK.out j).2 h), if_pos h]
                    · rw [if_neg (fun e => h ((HOK.out j).1 e)), if_neg h])
                  have HCO := hide (fun u => colourAt_any p UN VN hp (by omega) (by omega) u)
                  rw [hc] at HCO
                  have hvw : Below w.heap.size w wr := j5
                  have HAT := hide (fun (u : World) (hu : Below wr.heap.size wr u) => atZ_any W H UN VN K1 (.slice ao zs.length ca) zs u (HV.out.below (hvw.trans (hu.mono hvw.size)) (Nat.le_refl _)) hK1 hkl hlb)
                  rw [hz] at HAT
                  obtain ⟨sr1, sr2⟩ := sumN_range (fun m => fS_range HZS.out W H p X Y c m) n
                  obtain ⟨nr1, nr2⟩ := sumN_le1 (fun m => fN_range W H p X Y c m) n
                  obtain ⟨sm, hsm⟩ : ∃ sm, sumN (fS zs W H p X Y c) n = sm := ⟨_, rfl⟩
                  obtain ⟨nn, hnn⟩ : ∃ nn, sumN (fN W H p X Y c) n = nn := ⟨_, rfl⟩
                  have hn8 : n ≤ 8 := by omega
                  have HSET := hide (fun (V : World) (hV : Below wr.heap.size wr V) => (hK.below hV).set (s' := fun j => sumN (fS zs W H p X Y j) (n + 1)) (t' := fun j => sumN (fN W H p X Y j) (n + 1)) c (sm + z) (nn + 1) hc3 (by simp only [sumN]; rw [HFS.out, if_pos rfl, hsm]) (by simp only [sumN]; rw [HFN.out, if_pos rfl, hnn]) (fun j _ hne => by simp only [sumN]; rw [HFS.out, if_neg (Ne.symm hne), Int.add_zero]) (fun j _ hne => by simp only [sumN]; rw [HFN.out, if_neg (Ne.symm hne), Int.add_zero]))
                  rw [hsm] at sr1 sr2
                  rw [hnn] at nr1 nr2
                  have hl0 := (Array.getElem?_eq_some_iff.1 hK.1).1
                  have HF := hide (show ∀ v, Below wr.heap.size wr v → v.cell? ⟨R.heap.size, c, none⟩ = some (.int .i64 sm) ∧ v.frozen? ⟨R.heap.size, c, none⟩ = false ∧ v.cell? ⟨R.heap.size + 1, c, none⟩ = some (.int .i64 nn) ∧ v.frozen? ⟨R.heap.size + 1, c, none⟩ = false from fun v h => by
                    obtain ⟨k1, k2, _⟩ := hK.below h
                    exact ⟨by rw [Lib.cell_of_heap k1, tri_get _ c hc3, hsm], Lib.frozen_of_heap k1 c, by rw [Lib.cell_of_heap k2, tri_get _ c hc3, hnn], Lib.frozen_of_heap k2 c⟩)
                  have HS := hide (show ∀ v, Below wr.heap.size wr v → v.cell? ⟨R.heap.size, c, none⟩ = some (.int .i64 sm) ∧ v.cell? ⟨w.heap.size, 0, none⟩ = some (.int .i64 W) ∧ v.cell? ⟨w.heap.size, 1, none⟩ = some (.int .i64 H) ∧ v.cell? ⟨w.heap.size, 2, none⟩ = some (.slice ao zs.length ca) from fun v h => ⟨(HF.out v h).1, cells3 ((h.block _ hlq).trans j3)⟩)
                  have hws : IntKind.i64.wrap (sm + z) = sm + z := IntWalk.i64_in _ (by omega)
                  have hwn : IntKind.i64.wrap (nn + 1) = nn + 1 := IntWalk.i64_in _ (by omega)
                  have hcI : (c : Int) < 3 := by omega
                  rw [hUN]
                  rw [hUN] at hdu
                  have HUU := hide (show (UN : Int) = (X : Int) - 1 + b by rw [huu, hUN])
                  clear hz hK1 hc hsm hnn hfx hfy hn hVN hUN huu hvv j3 j5
                  go_wp2_with fail
                  refine (HCO.out _).mono ?_
                  rintro e wq ⟨rfl, rfl⟩
                  have hWd : Below wr.heap.size wr wr.drew := (Below.refl _ _).drew
                  clear q0 q1 q2
                  go_wp2_with fail
                  have hSd := HS.out _ hWd
                  have hmx : Try.prog.follows .mixedOrders = true := by kernel_rfl
                  refine wp_region_last (S := fun v : World => v.cell? ⟨R.heap.size, c, none⟩ = some (.int .i64 sm) ∧ v.cell? ⟨w.heap.size, 0, none⟩ = some (.int .i64 W) ∧ v.cell? ⟨w.heap.size, 1, none⟩ = some (.int .i64 H) ∧ v.cell? ⟨w.heap.size, 2, none⟩ = some (.slice ao zs.length ca)) (f := 10) hmx ?_
                  show wpAnyF _ _ _ _ _ _ 11 _ _ wr.drew
                  refine wpAnyF_takeD (i := 0) (oi := _) (v := ?vv1) (some 62) rfl rfl (by kernel_rfl) (by kernel_rfl) (by kernel_rfl) (by kernel_rfl) (by kernel_rfl) (fun _ _ _ h => h) (Or.inl ⟨by rfl, ?yy1⟩) hSd ?rr1
                  case yy1 => (intro wq hSq; obtain ⟨_, _, _, _⟩ := hSq; go_simp <;> with_reducible rfl)
                  simp only [Act.put, List.setIfInBounds_toArray, List.set_cons_succ, List.set_cons_zero]
                  refine wpAnyF_takeD (i := 1) (oi := _) (v := ?vv2) (some 63) rfl rfl (by kernel_rfl) (by kernel_rfl) (by kernel_rfl) (by kernel_rfl) (by kernel_rfl) (fun _ _ _ h => h) (Or.inl ⟨by rfl, ?yy2⟩) hSd ?rr2
                  case yy2 => (intro wq hSq; obtain ⟨_, _, _, _⟩ := hSq; go_simp <;> with_reducible rfl)
                  simp only [Act.put, List.setIfInBounds_toArray, List.set_cons_succ, List.set_cons_zero]
                  refine wpAnyF_takeD (i := 4) (oi := _) (v := ?vv3) (some 66) rfl rfl (by kernel_rfl) (by kernel_rfl) (by kernel_rfl) (by kernel_rfl) (by kernel_rfl) (fun _ _ _ h => h) (Or.inl ⟨by rfl, ?yy3⟩) hSd ?rr3
                  case yy3 => (intro wq hSq; obtain ⟨_, _, _, _⟩ := hSq; go_simp <;> with_reducible rfl)
                  simp only [Act.put, List.setIfInBounds_toArray, List.set_cons_succ, List.set_cons_zero]
                  refine wpAnyF_takeD (i := 5) (oi := _) (v := ?vv4) (some 67) rfl rfl (by kernel_rfl) (by kernel_rfl) (by kernel_rfl) (by kernel_rfl) (by kernel_rfl) (fun _ _ _ h => h) (Or.inl ⟨by rfl, ?yy4⟩) hSd ?rr4
                  case yy4 => (intro wq hSq; obtain ⟨_, _, _, _⟩ := hSq; go_simp <;> with_reducible rfl)
                  simp only [Act.put, List.setIfInBounds_toArray, List.set_cons_succ, List.set_cons_zero]
                  refine wpAnyF_takeD (i := 6) (oi := _) (v := ?vv5) (some 68) rfl rfl (by kernel_rfl) (by kernel_rfl) (by kernel_rfl) (by kernel_rfl) (by kernel_rfl) (fun _ _ _ h => h) (Or.inl ⟨by rfl, ?yy5⟩) hSd ?rr5
                  case yy5 => (intro wq hSq; obtain ⟨_, _, _, _⟩ := hSq; go_simp <;> with_reducible rfl)
                  simp only [Act.put, List.setIfInBounds_toArray, List.set_cons_succ, List.set_cons_zero]
                  refine wpAnyF_takeD (i := 2) (oi := _) (v := ?vv6) (some 64) rfl rfl (by kernel_rfl) (by kernel_rfl) (by kernel_rfl) (by kernel_rfl) (by kernel_rfl) (fun _ _ _ h => h) (Or.inl ⟨by rfl, ?yy6⟩) hSd ?rr6
                  case yy6 => (intro wq hSq; obtain ⟨_, _, _, _⟩ := hSq; go_simp <;> with_reducible rfl)
                  simp only [Act.put, List.setIfInBounds_toArray, List.set_cons_succ, List.set_cons_zero]
                  refine wpAnyF_takeD (i := 3) (oi := _) (v := ?vv7) (some 65) rfl rfl (by kernel_rfl) (by kernel_rfl) (by kernel_rfl) (by kernel_rfl) (by kernel_rfl) (fun _ _ _ h => h) (Or.inl ⟨by rfl, ?yy7⟩) hSd ?rr7
                  case yy7 => (intro wq hSq; obtain ⟨_, _, _, _⟩ := hSq; go_simp <;> with_reducible rfl)
                  simp only [Act.put, List.setIfInBounds_toArray, List.set_cons_succ, List.set_cons_zero]
                  refine wpAnyF_one (i := 7) (o := _) (by kernel_rfl) rfl (fun K' hK => ?_)
                  rw [if_pos (by rfl)]
                  go_simp
                  refine (HAT.out _ hWd).mono ?_
                  rintro e V1 ⟨rfl, hbv⟩
                  have hB1 : Below wr.heap.size wr V1 := hWd.trans (hbv.mono hWd.size)
                  have hSd := HS.out _ hB1
                  refine hK.out _ _ hSd ?_
                  clear hK
                  try simp only [Act.put]
                  refine wpAnyF_takeD (i := 8) (oi := _) (v := ?vv8) (some 70) rfl rfl (by kernel_rfl) (by kernel_rfl) (by kernel_rfl) (by kernel_rfl) (by kernel_rfl) (fun _ _ _ h => h) (Or.inl ⟨by rfl, ?yy8⟩) hSd ?rr8
                  case yy8 => (intro wq hSq; obtain ⟨_, _, _, _⟩ := hSq; go_simp <;> with_reducible rfl)
                  simp only [Act.put, List.setIfInBounds_toArray, List.set_cons_succ, List.set_cons_zero]
                  refine wpAnyF_takeD (i := 9) (oi := _) (v := ?vv9) (some 71) rfl rfl (by kernel_rfl) (by kernel_rfl) (by kernel_rfl) (by kernel_rfl) (by kernel_rfl) (fun _ _ _ h => h) (Or.inl ⟨by rfl, ?yy9⟩) hSd ?rr9
                  case yy9 => (intro wq hSq; obtain ⟨_, _, _, _⟩ := hSq; go_simp <;> with_reducible rfl)
                  simp only [Act.put, List.setIfInBounds_toArray, List.set_cons_succ, List.set_cons_zero]
                  refine wpAnyF_last (o := _) (by kernel_rfl) rfl (fun K' hK => ?_)
                  obtain ⟨f1, f2, f3, f4⟩ := HF.out _ hB1
                  rw [if_pos (by rfl)]
                  go_simp
                  refine hK.out _ _ ?_
                  clear hK
                  refine wpAnyF_done (by kernel_rfl) ?_ _
                  try simp only [Act.put]
                  have g3 : (V1.setCell ⟨R.heap.size, c, none⟩ (.int .i64 (sm + z))).cell? ⟨R.heap.size + 1, c, none⟩ = some (.int .i64 nn) := (World.cell?_setCell_far _ _ _ _ (by show R.heap.size ≠ R.heap.size + 1; omega)).trans f3
                  have HST := hide (HSET.out _ hB1)
                  clear f1 f2 f3 hSd
                  go_wp2
                  go_roundw
                  case rel => exact ⟨b + 1, by omega, by omega, congrArg (Value.int .i64) (by have := HUU.out; omega), by rw [show 3 * a + (b + 1) = n + 1 by have := HN.out; omega]; exact HST.out⟩
                  case measure => have := HUU.out; simp [intOf]; omega
                · have hdu : decide (uu ≤ um) = false := by have := HUM.out; simp; omega
                  have hb3 : b = b1 + 1 := by omega
                  have HK1 := hide (show FiK R (fun c => sumN (fS zs W H p X Y c) (3 * (a + 1))) (fun c => sumN (fN W H p X Y c) (3 * (a + 1))) wr from hK.congr
                    (fun c _ => (sumN_skip _ (3 * a + b) _ (by omega) (fun i h1 h2 => fS_out zs (fun h => by have := HHIX.out (i % 3) (by omega) (by omega); unfold fX at h; omega))).symm)
                    (fun c _ => (sumN_skip _ (3 * a + b) _ (by omega) (fun i h1 h2 => fN_out (fun h => by have := HHIX.out (i % 3) (by omega) (by omega); unfold fX at h; omega))).symm))
                  clear hK j3 j5
                  go_wp2
                  go_roundw
                  case rel => exact ⟨a + 1, by omega, by omega, congrArg (Value.int .i64) (by omega), HK1.out⟩
                  case measure => simp [intOf]; omega
            · have hdv : decide (vv ≤ vm) = false := by have := HVM.out; simp; omega
              have ha3 : a = a1 + 1 := by omega
              have HK9 := hide (show FiK R (fun c => sumN (fS zs W H p X Y c) (9)) (fun c => sumN (fN W H p X Y c) (9)) wr from hK.congr
                (fun c _ => (sumN_skip _ (3 * a) 9 (by omega) (fun i h1 h2 => fS_out zs (fun h => by have := HHI.out (i / 3) (by omega) (by omega); unfold fY at h; omega))).symm)
                (fun c _ => (sumN_skip _ (3 * a) 9 (by omega) (fun i h1 h2 => fN_out (fun h => by have := HHI.out (i / 3) (by omega) (by omega); unfold fY at h; omega))).symm))
              have hs9 := (Array.getElem?_eq_some_iff.1 HK9.out.2.1).1
              have zl := al1 wr (Obj.cells #[.int .i64 0, .int .i64 0, .int .i64 0] 25)
              have HKL := hide (HK9.out.below (bel_alloc wr (Obj.cells #[.int .i64 0, .int .i64 0, .int .i64 0] 25)))
              clear hK
              go_wp2_with fail
              have hLB : R.heap.size + 2 ≤ wr.heap.size := by omega
              generalize wr.alloc (Obj.cells #[.int .i64 0, .int .i64 0, .int .i64 0] 25) = Z9 at *
              generalize wr.heap.size = LB at *
              clear q0 q1 q2 HK9 hs9 hdv
              go_loopw [14] (fun i wl => ∃ kk : Nat, kk ≤ 3 ∧ i = .int .i64 kk ∧ FiL R LB (fun c => sumN (fS zs W H p X Y c) 9) (fun c => sumN (fN W H p X Y c) 9) (fun c => if c < kk then fQ zs W H p X Y c else 0) wl) (fun i _ => 3 - (intOf i).toNat)
              case atStart => exact ⟨0, by omega, rfl, HKL.out, zl⟩
              case round =>
                obtain ⟨kk, hkk, rfl, hK⟩ := hrel
                clear zl HKL
                by_cases hlk3 : kk < 3
                · have hdk : decide ((kk : Int) < 3) = true := by simp; omega
                  have hcs : wr.cell? ⟨R.heap.size, kk, none⟩ = some (.int .i64 (sumN (fS zs W H p X Y kk) 9)) := by rw [Lib.cell_of_heap hK.1.1, tri_get _ kk hlk3]
                  have hcn : wr.cell? ⟨R.heap.size + 1, kk, none⟩ = some (.int .i64 (sumN (fN W H p X Y kk) 9)) := by rw [Lib.cell_of_heap hK.1.2.1, tri_get _ kk hlk3]
                  have hcl : wr.cell? ⟨LB, kk, none⟩ = some (.int .i64 0) := by rw [Lib.cell_of_heap hK.2, tri_get _ kk hlk3, if_neg (Nat.lt_irrefl _)]
                  have hcf : wr.frozen? ⟨LB, kk, none⟩ = false := Lib.frozen_of_heap hK.2 kk
                  have HQ := hide (show fQ zs W H p X Y kk = sumN (fS zs W H p X Y kk) 9 / max (sumN (fN W H p X Y kk) 9) 1 from rfl)
                  obtain ⟨s1, s2⟩ := sumN_range (fun m => fS_range HZS.out W H p X Y kk m) 9
                  obtain ⟨n1, n2⟩ := sumN_le1 (fun m => fN_range W H p X Y kk m) 9
                  obtain ⟨sm, hsm⟩ : ∃ sm, sumN (fS zs W H p X Y kk) 9 = sm := ⟨_, rfl⟩
                  obtain ⟨nn, hnn⟩ : ∃ nn, sumN (fN W H p X Y kk) 9 = nn := ⟨_, rfl⟩
                  rw [hsm] at hcs HQ s1 s2
                  rw [hnn] at hcn HQ n1 n2
                  obtain ⟨mm, hmm⟩ : ∃ mm, (if nn < 1 then 1 else nn) = mm := ⟨_, rfl⟩
                  have hmx : max nn 1 = mm := by rw [← hmm]; split <;> omega
                  rw [hmx] at HQ
                  have hm1 : 1 ≤ mm := by omega
                  have hm0 : ¬ (mm = 0) := by omega
                  have hmz : (mm == 0) = false := by rw [beq_eq_false_iff_ne]; omega
                  have hq := Int.tdiv_eq_ediv_of_nonneg (b := mm) s1
                  have hq0 : 0 ≤ sm.tdiv mm := by rw [hq]; exact Int.ediv_nonneg s1 (by omega)
                  have hq1 : sm.tdiv mm ≤ sm := by rw [hq]; exact Int.ediv_le_self _ s1
                  rw [← hq] at HQ
                  obtain ⟨q, hqq⟩ : ∃ q, sm.tdiv mm = q := ⟨_, rfl⟩
                  rw [hqq] at HQ hq0 hq1
                  have hwq : IntKind.i64.wrap q = q := IntWalk.i64_in _ (by omega)
                  have HSET := hide (FiL.below (hK.set (V := wr) (l' := fun j => if j < kk + 1 then fQ zs W H p X Y j else 0) hLB kk q hlk3 (by rw [if_pos (Nat.lt_succ_self kk), HQ.out]) (fun j _ hne => by
                    show (if j < kk then fQ zs W H p X Y j else 0) = (if j < kk + 1 then fQ zs W H p X Y j else 0)
                    by_cases h : j < kk
                    · rw [if_pos h, if_pos (by omega)]
                    · rw [if_neg h, if_neg (by omega)])) ((Below.refl _ _).drew))
                  have hlkI : (kk : Int) < 3 := by omega
                  clear hK hq hmx hsm hnn
                  have hSd : wr.drew.cell? ⟨R.heap.size, kk, none⟩ = some (.int .i64 sm) ∧ wr.drew.cell? ⟨R.heap.size + 1, kk, none⟩ = some (.int .i64 nn) := ⟨hcs, hcn⟩
                  go_wp2_with fail
                  have hmx : Try.prog.follows .mixedOrders = true := by kernel_rfl
                  refine wp_region_last (S := fun v : World => v.cell? ⟨R.heap.size, kk, none⟩ = some (.int .i64 sm) ∧ v.cell? ⟨R.heap.size + 1, kk, none⟩ = some (.int .i64 nn)) (f := 10) hmx ?_
                  show wpAnyF _ _ _ _ _ _ 11 _ _ wr.drew
                  refine wpAnyF_takeD (i := 0) (oi := _) (v := ?vv10) (some 81) rfl rfl (by kernel_rfl) (by kernel_rfl) (by kernel_rfl) (by kernel_rfl) (by kernel_rfl) (fun _ _ _ h => h) (Or.inl ⟨by rfl, ?yy10⟩) hSd ?rr10
                  case yy10 => (intro wq hSq; obtain ⟨_, _⟩ := hSq; go_simp <;> with_reducible rfl)
                  simp only [Act.put, List.setIfInBounds_toArray, List.set_cons_succ, List.set_cons_zero]
                  refine wpAnyF_takeD (i := 1) (oi := _) (v := ?vv11) (some 82) rfl rfl (by kernel_rfl) (by kernel_rfl) (by kernel_rfl) (by kernel_rfl) (by kernel_rfl) (fun _ _ _ h => h) (Or.inl ⟨by rfl, ?yy11⟩) hSd ?rr11
                  case yy11 => (intro wq hSq; obtain ⟨_, _⟩ := hSq; go_simp <;> with_reducible rfl)
                  simp only [Act.put, List.setIfInBounds_toArray, List.set_cons_succ, List.set_cons_zero]
                  refine wpAnyF_takeD (i := 4) (oi := _) (v := ?vv12) (some 85) rfl rfl (by kernel_rfl) (by kernel_rfl) (by kernel_rfl) (by kernel_rfl) (by kernel_rfl) (fun _ _ _ h => h) (Or.inl ⟨by rfl, ?yy12⟩) hSd ?rr12
                  case yy12 => (intro wq hSq; obtain ⟨_, _⟩ := hSq; go_simp <;> with_reducible rfl)
                  simp only [Act.put, List.setIfInBounds_toArray, List.set_cons_succ, List.set_cons_zero]
                  refine wpAnyF_takeD (i := 2) (oi := _) (v := ?vv13) (some 83) rfl rfl (by kernel_rfl) (by kernel_rfl) (by kernel_rfl) (by kernel_rfl) (by kernel_rfl) (fun _ _ _ h => h) (Or.inl ⟨by rfl, ?yy13⟩) hSd ?rr13
                  case yy13 => (intro wq hSq; obtain ⟨_, _⟩ := hSq; go_simp <;> with_reducible rfl)
                  simp only [Act.put, List.setIfInBounds_toArray, List.set_cons_succ, List.set_cons_zero]
                  refine wpAnyF_takeD (i := 5) (oi := _) (v := ?vv14) (some 86) rfl rfl (by kernel_rfl) (by kernel_rfl) (by kernel_rfl) (by kernel_rfl) (by kernel_rfl) (fun _ _ _ h => h) (Or.inl ⟨by rfl, ?yy14⟩) hSd ?rr14
                  case yy14 => (intro wq hSq; obtain ⟨_, _⟩ := hSq; go_simp <;> with_reducible rfl)
                  simp only [Act.put, List.setIfInBounds_toArray, List.set_cons_succ, List.set_cons_zero]
                  refine wpAnyF_takeD (i := 3) (oi := _) (v := ?vv15) (some 84) rfl rfl (by kernel_rfl) (by kernel_rfl) (by kernel_rfl) (by kernel_rfl) (by kernel_rfl) (fun _ _ _ h => h) (Or.inl ⟨by rfl, ?yy15⟩) hSd ?rr15
                  case yy15 => (intro wq hSq; obtain ⟨_, _⟩ := hSq; go_simp <;> with_reducible rfl)
                  simp only [Act.put, List.setIfInBounds_toArray, List.set_cons_succ, List.set_cons_zero]
                  refine wpAnyF_takeD (i := 6) (oi := _) (v := ?vv16) (some 87) rfl rfl (by kernel_rfl) (by kernel_rfl) (by kernel_rfl) (by kernel_rfl) (by kernel_rfl) (fun _ _ _ h => h) (Or.inl ⟨by rfl, ?yy16⟩) hSd ?rr16
                  case yy16 => (intro wq hSq; obtain ⟨_, _⟩ := hSq; go_simp <;> with_reducible rfl)
                  simp only [Act.put, List.setIfInBounds_toArray, List.set_cons_succ, List.set_cons_zero]
                  refine wpAnyF_takeD (i := 7) (oi := _) (v := ?vv17) (some 88) rfl rfl (by kernel_rfl) (by kernel_rfl) (by kernel_rfl) (by kernel_rfl) (by kernel_rfl) (fun _ _ _ h => h) (Or.inl ⟨by rfl, ?yy17⟩) hSd ?rr17
                  case yy17 => (intro wq hSq; obtain ⟨_, _⟩ := hSq; go_simp <;> with_reducible rfl)
                  simp only [Act.put, List.setIfInBounds_toArray, List.set_cons_succ, List.set_cons_zero]
                  refine wpAnyF_takeD (i := 8) (oi := _) (v := ?vv18) (some 89) rfl rfl (by kernel_rfl) (by kernel_rfl) (by kernel_rfl) (by kernel_rfl) (by kernel_rfl) (fun _ _ _ h => h) (Or.inl ⟨by rfl, ?yy18⟩) hSd ?rr18
                  case yy18 => (intro wq hSq; obtain ⟨_, _⟩ := hSq; go_simp <;> with_reducible rfl)
                  simp only [Act.put, List.setIfInBounds_toArray, List.set_cons_succ, List.set_cons_zero]
                  refine wpAnyF_takeD (i := 9) (oi := _) (v := ?vv19) (some 90) rfl rfl (by kernel_rfl) (by kernel_rfl) (by kernel_rfl) (by kernel_rfl) (by kernel_rfl) (fun _ _ _ h => h) (Or.inl ⟨by rfl, ?yy19⟩) hSd ?rr19
                  case yy19 => (intro wq hSq; obtain ⟨_, _⟩ := hSq; go_simp <;> with_reducible rfl)
                  simp only [Act.put, List.setIfInBounds_toArray, List.set_cons_succ, List.set_cons_zero]
                  refine wpAnyF_last (o := _) (by kernel_rfl) rfl (fun K' hK => ?_)
                  rw [if_pos (by rfl)]
                  go_simp
                  refine hK.out _ _ ?_
                  clear hK
                  refine wpAnyF_done (by kernel_rfl) ?_ _
                  try simp only [Act.put]
                  go_wp2
                  go_roundw
                  case rel => exact ⟨kk + 1, by omega, by go_num, HSET.out⟩
                  case measure => simp [intOf]; omega
                · have hdk : decide ((kk : Int) < 3) = false := by simp; omega
                  have h3 : kk = 3 := by omega
                  subst h3
                  have hown3 := colV_lt p X Y
                  obtain ⟨ow, how⟩ : ∃ c, colV p X Y = c := ⟨_, rfl⟩
                  rw [how] at hown3
                  have HCO := hide (fun u => colourAt_any p X Y hp (by omega) (by omega) u)
                  rw [how] at HCO
                  have hkY : Y * W + X = k := by rw [← HM.out]; exact HK.out
                  obtain ⟨so, scap, j1, j2, j3, j4, j5⟩ := HJ0.out.below hK.1.2.2
                  have hlq := (Array.getElem?_eq_some_iff.1 j3).1
                  have hvw : Below w.heap.size w wr := j5
                  have HAT := hide (fun (u : World) (hu : Below wr.heap.size wr u) => atZ_any W H X Y k (.slice ao zs.length ca) zs u (HV.out.below (hvw.trans (hu.mono hvw.size)) (Nat.le_refl _)) hkY hk hlb)
                  obtain ⟨z, hz⟩ : ∃ z, zAt zs k = z := ⟨_, rfl⟩
                  rw [hz] at HAT
                  obtain ⟨l1, hl1⟩ : ∃ l1 : Nat → Int, l1 = fun j => partV zs W H p X Y j := ⟨_, rfl⟩
                  have HSET := hide (fun (V : World) (hV : Below wr.heap.size wr V) => (hK.below hV).set (l' := l1) hLB ow z hown3 (by rw [hl1]; show z = partV zs W H p X Y ow; rw [part_f, if_pos how.symm, hkY, hz]) (fun j hj hne => by
                    rw [if_pos hj, hl1]; show _ = partV zs W H p X Y j; rw [part_f, if_neg (fun e => hne (by rw [e, how]))]))
                  have HFP := hide (show fillP zs W H p k = (l1 0, l1 1, l1 2) by
                    have hm : (Y * W + X) % W = X ∧ (Y * W + X) / W = Y := place_of hlx
                    rw [hl1, fillP, ← hkY, hm.1, hm.2])
                  have HF := hide (show ∀ v, Below wr.heap.size wr v → (∃ x, v.cell? ⟨LB, ow, none⟩ = some (.int .i64 x)) ∧ v.frozen? ⟨LB, ow, none⟩ = false from fun v h => by
                    have h2 := (hK.below h).2
                    exact ⟨⟨_, by rw [Lib.cell_of_heap h2, tri_get _ ow hown3]⟩, Lib.frozen_of_heap h2 ow⟩)
                  have HS := hide (show ∀ v, Below wr.heap.size wr v → v.cell? ⟨w.heap.size, 0, none⟩ = some (.int .i64 W) ∧ v.cell? ⟨w.heap.size, 1, none⟩ = some (.int .i64 H) ∧ v.cell? ⟨w.heap.size, 2, none⟩ = some (.slice ao zs.length ca) from fun v h => cells3 ((h.block _ hlq).trans j3))
                  have howI : (ow : Int) < 3 := by omega
                  have hWd : Below wr.heap.size wr wr.drew := (Below.refl _ _).drew
                  clear j1 j2 j3 j4 j5 so scap hz hl1 how
                  go_wp2_with fail
                  have hSd := HS.out _ hWd
                  have hmx : Try.prog.follows .mixedOrders = true := by kernel_rfl
                  refine wp_region_last (S := fun v : World => v.cell? ⟨w.heap.size, 0, none⟩ = some (.int .i64 W) ∧ v.cell? ⟨w.heap.size, 1, none⟩ = some (.int .i64 H) ∧ v.cell? ⟨w.heap.size, 2, none⟩ = some (.slice ao zs.length ca)) (f := 9) hmx ?_
                  show wpAnyF _ _ _ _ _ _ 10 _ _ wr.drew
                  refine wpAnyF_takeD (i := 0) (oi := _) (v := ?vv20) (some 91) rfl rfl (by kernel_rfl) (by kernel_rfl) (by kernel_rfl) (by kernel_rfl) (by kernel_rfl) (fun _ _ _ h => h) (Or.inl ⟨by rfl, ?yy20⟩) hSd ?rr20
                  case yy20 => (intro wq hSq; obtain ⟨_, _, _⟩ := hSq; go_simp <;> with_reducible rfl)
                  simp only [Act.put, List.setIfInBounds_toArray, List.set_cons_succ, List.set_cons_zero]
                  refine wpAnyF_takeD (i := 1) (oi := _) (v := ?vv21) (some 92) rfl rfl (by kernel_rfl) (by kernel_rfl) (by kernel_rfl) (by kernel_rfl) (by kernel_rfl) (fun _ _ _ h => h) (Or.inl ⟨by rfl, ?yy21⟩) hSd ?rr21
                  case yy21 => (intro wq hSq; obtain ⟨_, _, _⟩ := hSq; go_simp <;> with_reducible rfl)
                  simp only [Act.put, List.setIfInBounds_toArray, List.set_cons_succ, List.set_cons_zero]
                  refine wpAnyF_takeD (i := 2) (oi := _) (v := ?vv22) (some 93) rfl rfl (by kernel_rfl) (by kernel_rfl) (by kernel_rfl) (by kernel_rfl) (by kernel_rfl) (fun _ _ _ h => h) (Or.inl ⟨by rfl, ?yy22⟩) hSd ?rr22
                  case yy22 => (intro wq hSq; obtain ⟨_, _, _⟩ := hSq; go_simp <;> with_reducible rfl)
                  simp only [Act.put, List.setIfInBounds_toArray, List.set_cons_succ, List.set_cons_zero]
                  refine wpAnyF_takeD (i := 4) (oi := _) (v := ?vv23) (some 95) rfl rfl (by kernel_rfl) (by kernel_rfl) (by kernel_rfl) (by kernel_rfl) (by kernel_rfl) (fun _ _ _ h => h) (Or.inl ⟨by rfl, ?yy23⟩) hSd ?rr23
                  case yy23 => (intro wq hSq; obtain ⟨_, _, _⟩ := hSq; go_simp <;> with_reducible rfl)
                  simp only [Act.put, List.setIfInBounds_toArray, List.set_cons_succ, List.set_cons_zero]
                  refine wpAnyF_takeD (i := 5) (oi := _) (v := ?vv24) (some 96) rfl rfl (by kernel_rfl) (by kernel_rfl) (by kernel_rfl) (by kernel_rfl) (by kernel_rfl) (fun _ _ _ h => h) (Or.inl ⟨by rfl, ?yy24⟩) hSd ?rr24
                  case yy24 => (intro wq hSq; obtain ⟨_, _, _⟩ := hSq; go_simp <;> with_reducible rfl)
                  simp only [Act.put, List.setIfInBounds_toArray, List.set_cons_succ, List.set_cons_zero]
                  refine wpAnyF_takeD (i := 6) (oi := _) (v := ?vv25) (some 97) rfl rfl (by kernel_rfl) (by kernel_rfl) (by kernel_rfl) (by kernel_rfl) (by kernel_rfl) (fun _ _ _ h => h) (Or.inl ⟨by rfl, ?yy25⟩) hSd ?rr25
                  case yy25 => (intro wq hSq; obtain ⟨_, _, _⟩ := hSq; go_simp <;> with_reducible rfl)
                  simp only [Act.put, List.setIfInBounds_toArray, List.set_cons_succ, List.set_cons_zero]
                  refine wpAnyF_one (i := 3) (o := _) (by kernel_rfl) rfl (fun K' hK => ?_)
                  rw [if_pos (by rfl)]
                  go_simp
                  refine (HCO.out _).mono ?_
                  rintro e wq ⟨rfl, rfl⟩
                  have hSd := hSd
                  refine hK.out _ _ hSd ?_
                  clear hK
                  try simp only [Act.put]
                  refine wpAnyF_one (i := 7) (o := _) (by kernel_rfl) rfl (fun K' hK => ?_)
                  rw [if_pos (by rfl)]
                  go_simp
                  refine (HAT.out _ hWd).mono ?_
                  rintro e V1 ⟨rfl, hbv⟩
                  have hB1 : Below wr.heap.size wr V1 := hWd.trans (hbv.mono hWd.size)
                  have hSd := HS.out _ hB1
                  refine hK.out _ _ hSd ?_
                  clear hK
                  try simp only [Act.put]
                  refine wpAnyF_takeD (i := 8) (oi := _) (v := ?vv26) (some 99) rfl rfl (by kernel_rfl) (by kernel_rfl) (by kernel_rfl) (by kernel_rfl) (by kernel_rfl) (fun _ _ _ h => h) (Or.inl ⟨by rfl, ?yy26⟩) hSd ?rr26
                  case yy26 => (intro wq hSq; obtain ⟨_, _, _⟩ := hSq; go_simp <;> with_reducible rfl)
                  simp only [Act.put, List.setIfInBounds_toArray, List.set_cons_succ, List.set_cons_zero]
                  refine wpAnyF_last (o := _) (by kernel_rfl) rfl (fun K' hK => ?_)
                  obtain ⟨⟨x0, f1⟩, f2⟩ := HF.out _ hB1
                  rw [if_pos (by rfl)]
                  go_simp
                  refine hK.out _ _ ?_
                  clear hK
                  refine wpAnyF_done (by kernel_rfl) ?_ _
                  try simp only [Act.put]
                  have hK2 := HSET.out _ hB1
                  clear hSd f1 f2 HSET HAT HCO HS HF
                  have iT : (V1.setCell ⟨LB, ow, none⟩ (.int .i64 z)).heap[LB]? = some (.cells #[.int .i64 (l1 0), .int .i64 (l1 1), .int .i64 (l1 2)] 25 (0, 0)) := hK2.2
                  obtain ⟨so, scap, j1, j2, j3, j4, j5⟩ := HJ0.out.below hK2.1.2.2
                  generalize V1.setCell ⟨LB, ow, none⟩ (.int .i64 z) = E at *
                  generalize l1 0 = x at *
                  generalize l1 1 = y at *
                  generalize l1 2 = t at *
                  have HST := hide (show (L.take (k + 1)).flatMap pixL = (L.take k).flatMap pixL ++ pixL (x, y, t) by
                    have hk2 : k < L.length := by rw [HLL.out]; exact hk
                    have hg := HLG.out k hk
                    rw [List.getElem?_eq_getElem hk2] at hg
                    rw [List.take_succ_eq_append_getElem hk2, Option.some.inj hg, List.flatMap_append, HFP.out]; simp)
                  obtain ⟨XS, hXS⟩ : ∃ XS, (L.take k).flatMap pixL = XS := ⟨_, rfl⟩
                  rw [hXS] at j2 HST
                  have hbW := j5.size
                  have hlT := (Array.getElem?_eq_some_iff.1 iT).1
                  have nT := own_ne j2 iT (by decide)
                  have HL1 := hide (show k + 1 ≤ maxLen by unfold maxLen; omega)
                  have HL2 := hide (show (k + 1) * 24 ≤ 140737488355328 by omega)
                  have HS := hide (show ∀ v, Below E.heap.size E v → v.cell? ⟨LB, 0, none⟩ = some (.int .i64 x) ∧ v.cell? ⟨LB, 1, none⟩ = some (.int .i64 y) ∧ v.cell? ⟨LB, 2, none⟩ = some (.int .i64 t) ∧ v.cell? ⟨w.heap.size + 1 + 1, 2, none⟩ = some (.slice so k scap) from fun v h => by
                    obtain ⟨t0, t1, t2⟩ := cells3 ((h.block _ hlT).trans iT)
                    obtain ⟨_, _, t3⟩ := cells3 ((h.block (w.heap.size + 2) (Array.getElem?_eq_some_iff.1 j1).1).trans j1)
                    exact ⟨t0, t1, t2, t3⟩)
                  have HTL := hide (show ∀ (V2 : World) (gg cap : Nat) (w3 : World), Below E.heap.size E V2 → V2.grownBy w3 (Value.slice so k scap).ownBlock → w3.ownsRow w.heap.size 50 3 (.slice (some ⟨gg, 0, none⟩) (k + 1) cap) (k + 1) (XS ++ pixL (x, y, t)) → (w3.cell? ⟨LB, 0, none⟩ = some (.int .i64 x) ∧ w3.cell? ⟨LB, 1, none⟩ = some (.int .i64 y) ∧ w3.cell? ⟨LB, 2, none⟩ = some (.int .i64 t) ∧ w3.cell? ⟨w.heap.size + 1 + 1, 2, none⟩ = some (.slice so k scap)) ∧ w3.frozen? ⟨w.heap.size + 1 + 1, 2, none⟩ = false ∧ FiJ w W H (.slice ao zs.length ca) L (k + 1) (w3.setCell ⟨w.heap.size + 1 + 1, 2, none⟩ (.slice (some ⟨gg, 0, none⟩) (k + 1) cap)) from fun V2 gg cap w3 h1 h2 h3 => by
                    obtain ⟨t1, t2, t3, t4, t5, t6, t7⟩ := app_gen (by decide) j1 j2 j5 (Nat.le_refl _) (by omega) h1 h2 h3
                    obtain ⟨y0, y1, y2⟩ := cells3 ((t1 _ hlT nT).trans iT)
                    exact ⟨⟨y0, y1, y2, t2⟩, t3, some ⟨gg, 0, none⟩, cap, t4, by rw [HST.out]; exact t5, (t7 _ (Array.getElem?_eq_some_iff.1 j3).1 (own_ne j2 j3 (by decide)) (by omega)).trans j3, (t7 _ (Array.getElem?_eq_some_iff.1 j4).1 (own_ne j2 j4 (by decide)) (by omega)).trans j4, t6⟩)
                  have HON := hide (show ∀ v : World, Calls Try.prog 72 #[.agg #[.int .i64 x, .int .i64 y, .int .i64 t]] v fun e v' => e = .returned (.agg #[.int .i64 x, .int .i64 y, .int .i64 t]) ∧ Below v.heap.size v v' from fun v => pixel_any (x, y, t) v)
                  have hWe : Below E.heap.size E E.drew := (Below.refl _ _).drew
                  clear iT j1 j3 j4 hXS hK2
                  go_wp2_with fail
                  have hSd := HS.out _ hWe
                  have hmx : Try.prog.follows .mixedOrders = true := by kernel_rfl
                  refine wp_region_last (S := fun v : World => v.cell? ⟨LB, 0, none⟩ = some (.int .i64 x) ∧ v.cell? ⟨LB, 1, none⟩ = some (.int .i64 y) ∧ v.cell? ⟨LB, 2, none⟩ = some (.int .i64 t) ∧ v.cell? ⟨w.heap.size + 1 + 1, 2, none⟩ = some (.slice so k scap)) (f := 7) hmx ?_
                  show wpAnyF _ _ _ _ _ _ 8 _ _ E.drew
                  refine wpAnyF_takeD (i := 0) (oi := _) (v := ?vv27) (some 100) rfl rfl (by kernel_rfl) (by kernel_rfl) (by kernel_rfl) (by kernel_rfl) (by kernel_rfl) (fun _ _ _ h => h) (Or.inl ⟨by rfl, ?yy27⟩) hSd ?rr27
                  case yy27 => (intro wq hSq; obtain ⟨_, _, _, _⟩ := hSq; go_simp <;> with_reducible rfl)
                  simp only [Act.put, List.setIfInBounds_toArray, List.set_cons_succ, List.set_cons_zero]
                  refine wpAnyF_takeD (i := 2) (oi := _) (v := ?vv28) (some 102) rfl rfl (by kernel_rfl) (by kernel_rfl) (by kernel_rfl) (by kernel_rfl) (by kernel_rfl) (fun _ _ _ h => h) (Or.inl ⟨by rfl, ?yy28⟩) hSd ?rr28
                  case yy28 => (intro wq hSq; obtain ⟨_, _, _, _⟩ := hSq; go_simp <;> with_reducible rfl)
                  simp only [Act.put, List.setIfInBounds_toArray, List.set_cons_succ, List.set_cons_zero]
                  refine wpAnyF_takeD (i := 1) (oi := _) (v := ?vv29) (some 101) rfl rfl (by kernel_rfl) (by kernel_rfl) (by kernel_rfl) (by kernel_rfl) (by kernel_rfl) (fun _ _ _ h => h) (Or.inl ⟨by rfl, ?yy29⟩) hSd ?rr29
                  case yy29 => (intro wq hSq; obtain ⟨_, _, _, _⟩ := hSq; go_simp <;> with_reducible rfl)
                  simp only [Act.put, List.setIfInBounds_toArray, List.set_cons_succ, List.set_cons_zero]
                  refine wpAnyF_one (i := 3) (o := _) (by kernel_rfl) rfl (fun K' hK => ?_)
                  rw [if_pos (by rfl)]
                  go_simp
                  refine (HON.out _).mono ?_
                  rintro e V2 ⟨rfl, hbv2⟩
                  have hB2 : Below E.heap.size E V2 := hWe.trans (hbv2.mono hWe.size)
                  have hSd := HS.out _ hB2
                  refine hK.out _ _ hSd ?_
                  clear hK
                  try simp only [Act.put]
                  refine wpAnyF_one (i := 4) (o := _) (by kernel_rfl) rfl (fun K' hK => ?_)
                  rw [if_pos (by rfl)]
                  go_simp
                  have hBs : Below E.heap.size E (V2.alloc (Obj.cells #[.int .i64 x, .int .i64 y, .int .i64 t] 50)) := hB2.alloc hB2.size _
                  have hSd := HS.out _ hBs
                  refine hK.out _ _ hSd ?_
                  clear hK
                  try simp only [Act.put]
                  refine wpAnyF_one (i := 5) (o := _) (by kernel_rfl) rfl (fun K' hK => ?_)
                  refine step_append_lies _ rfl _ _ 37 rfl w.heap.size 50 i0 pixZ 3 24 Try.underlying37 hi hz0 hz1 hz2 rfl (by decide) (.slice so k scap) k XS rfl ((ownsRow_below j2 hB2).alloc _) ⟨V2.heap.size, 0, none⟩ 1 1 (pixL (x, y, t)) rfl rfl (World.news_of_block (al1 V2 _)) (fun u hu => by simp [pixL] at hu; rcases hu with rfl | rfl | rfl <;> rfl) Nat.one_pos HL1.out HL2.out (Nat.le_trans hbW hBs.size) _ rfl ?_
                  intro gg cap w3 hown hgrow hat hltg
                  obtain ⟨hSx, p2f, HFIN⟩ := HTL.out _ gg cap w3 hBs hgrow hown
                  have hSd := hSx
                  refine hK.out _ _ hSd ?_
                  clear hK
                  try simp only [Act.put]
                  refine wpAnyF_take (i := 6) (oi := _) (v := ?vv30) rfl (by kernel_rfl) (by kernel_rfl) (by kernel_rfl) (by kernel_rfl) (by kernel_rfl) (fun _ _ _ h => h) (Or.inl ⟨by rfl, ?yy30⟩) hSd ?rr30
                  case yy30 => (intro wq hSq; obtain ⟨_, _, _, _⟩ := hSq; go_simp <;> with_reducible rfl)
                  try simp only [Act.put]
                  refine wpAnyF_last (o := _) (by kernel_rfl) rfl (fun K' hK => ?_)
                  rw [if_pos (by rfl)]
                  go_simp
                  refine hK.out _ _ ?_
                  clear hK
                  refine wpAnyF_done (by kernel_rfl) ?_ _
                  try simp only [Act.put]
                  go_wp2
                  go_roundw
                  case rel => exact ⟨X + 1, by omega, by go_num, by rw [show M + (X + 1) = k + 1 by have := HK.out; omega]; exact HFIN⟩
                  case measure => simp [intOf]; omega
        · have hdx : decide ((X : Int) < (W : Int)) = false := by simp; omega
          have h3 : X = W := by omega
          subst h3
          have HJ1 := hide (show FiJ w X H (.slice ao zs.length ca) L ((Y + 1) * X) wr from ⟨so, scap, by rw [Nat.succ_mul, ← HM.out]; exact j1, by rw [Nat.succ_mul, ← HM.out]; exact j2, j3, j4, j5⟩)
          go_wp2
          go_roundw
          case rel => exact ⟨Y + 1, by omega, by go_num, HJ1.out⟩
          case measure => simp [intOf]; omega
    · have hd : decide ((Y : Int) < (H : Int)) = false := by simp; omega
      obtain rfl : Y = H := by omega
      rw [← HLEN.out] at j1 j2
      rw [List.take_of_length_le (by rw [HLL.out]; exact Nat.le_refl _)] at j2
      obtain ⟨p0, p1, p2⟩ := cells3 j1
      obtain ⟨z0, z1, z2⟩ := cells3 j4
      have f0 := Lib.frozen_of_heap j4 0
      have f1 := Lib.frozen_of_heap j4 1
      have f2 := Lib.frozen_of_heap j4 2
      have HFI := hide (set3_below j5 (show w.heap.size ≤ w.heap.size + 1 by omega) (.int .i64 (W : Nat)) (.int .i64 (Y : Nat)) (.slice so zs.length scap))
      have hpx : IsPix wr (.slice so zs.length scap) L := IsPix.own (base := w.heap.size) (ps := L) (v := .slice so zs.length scap) (by rw [HLL.out]; exact j2) (by rw [HLL.out]; omega)
      have hne : (Value.slice so zs.length scap).ownBlock ≠ some (w.heap.size + 1) := fun e => own_ne j2 j4 (by decide) e.symm
      have HX := hide (hpx.other (set3_size wr (w.heap.size + 1) (.int .i64 (W : Nat)) (.int .i64 (Y : Nat)) (.slice so zs.length scap)) (fun b hb => set3_heap _ _ _ _ _ b hb) hne)
      have HF := hide (Fresh.own j2)
      clear hpx hne
      go_wp2
      exact bodyPost_ret (v := .agg #[.int .i64 (W : Nat), .int .i64 (Y : Nat), .slice so zs.length scap]) (by simp [results, Try.results25, go_sem, z0, z1, z2]) rfl ⟨_, rfl, HX.out, HFI.out, HF.out⟩
end Go.Proofs.Ytolcndchfnifhab

namespace Go.Proofs.Ytolcndchfnifhab
open Go.RowKit
theorem nineL_get (m : Nat → Int) (k : Nat) (h : k < (nineL m).length) : (nineL m)[k] = m k := by simp [nineL]
set_option maxRecDepth 100000 in
set_option maxHeartbeats 800000 in
theorem mixFine_any (m : Nat → Int) (w : World) : Calls Try.prog 32 #[.agg (nine m)] w fun e w' => e = .returned (.bool (matOk m)) ∧ Below w.heap.size w w' := by
  obtain ⟨R, hR⟩ : ∃ R, matOk m = R := ⟨_, rfl⟩
  rw [hR]
  have HR := hide (show R = allIn (-32768) 32768 (nineL m) by rw [← hR]; rfl)
  clear hR
  have g := al1 w (Obj.cells (nine m) 53)
  have HC := hide (fun k (hk : k < 9) => show (w.alloc (Obj.cells (nine m) 53)).cell? ⟨w.heap.size, k, none⟩ = some (.int .i64 (m k)) by rw [Lib.cell_of_heap g, nine_get m k hk])
  have hB := bel_alloc w (Obj.cells (nine m) 53)
  have h9 : (nineL m).length = 9 := by simp [nineL]
  have HL9 := hide h9
  clear g h9
  go_enter Try.func32, Try.ntmps32
  go_wp2
  generalize w.alloc (Obj.cells (nine m) 53) = U at *
  go_loop [3] (fun i => ∃ k : Nat, k ≤ 9 ∧ i = .int .i64 k ∧ Hid (allIn (-32768) 32768 ((nineL m).take k) = true)) (fun i => 9 - (intOf i).toNat)
  case atStart => exact ⟨0, by omega, rfl, rfl⟩
  case round =>
    obtain ⟨k, hk, rfl, HA⟩ := hrel
    by_cases hlt : k < 9
    · have c1 := HC.out k hlt
      have hlt' : k < (nineL m).length := by rw [HL9.out]; exact hlt
      by_cases hx : -32768 ≤ m k ∧ m k ≤ 32768
      · have hsx : decide (-32768 ≤ m k ∧ m k ≤ 32768) = true := by simpa using hx
        have HT := hide (show allIn (-32768) 32768 ((nineL m).take (k + 1)) = true by rw [List.take_succ_eq_append_getElem hlt', allIn_snoc, HA.out, nineL_get]; exact hsx)
        clear hx
        go_wp2_with (go_at_call 59; refine (within_any _ _ _ _).mono ?_; rintro e wx ⟨rfl, rfl⟩; rw [hsx])
        go_round
        case rel => exact ⟨k + 1, by omega, by go_num, HT⟩
        case measure => simp [intOf]; omega
      · have hsx : decide (-32768 ≤ m k ∧ m k ≤ 32768) = false := by simpa using hx
        have HX := hide (show false = R by rw [HR.out, allIn_false (-32768) 32768 (nineL m) k hlt' (by rw [nineL_get]; exact hx)])
        clear hx
        go_wp2_with (go_at_call 59; refine (within_any _ _ _ _).mono ?_; rintro e wx ⟨rfl, rfl⟩; rw [hsx])
        go_ret
        exact ⟨ret_bool HX.out, hB⟩
    · have HX := hide (show true = R by rw [HR.out, ← HA.out, List.take_of_length_le (by rw [HL9.out]; omega)])
      go_wp2
      go_ret
      exact ⟨ret_bool HX.out, hB⟩
set_option maxRecDepth 100000 in
set_option maxHeartbeats 1600000 in
theorem onCurve_any (v : Value) (ls : List Pt) (x : Int) (h0 : 0 ≤ x) (h1 : x ≤ 65535) (hcv : IsCurve ls) (w : World) (hv : IsPts w v ls) :
    Calls Try.prog 38 #[v, .int .i64 x] w fun e w' => e = .returned (.int .i64 (heightV ls x)) ∧ Below w.heap.size w w' := by
  obtain ⟨ao, ca, rfl, hla, hc⟩ := hv
  have hl2 := hcv.two
  have hl16 := hcv.most
  obtain ⟨bk, off, hao, hbl, hcell⟩ : ∃ b off, ao = some ⟨b, off, none⟩ ∧ b < w.heap.size ∧ ∀ j, j < ls.length →
      w.cell? ⟨b, off + j * 2, none⟩ = some (.int .i64 (ptAt ls j).1) ∧ w.cell? ⟨b, off + j * 2 + 1, none⟩ = some (.int .i64 (ptAt ls j).2) := by
    rcases hc with h | h
    · subst h; simp at hl2
    · exact h
  subst hao
  have HCELL := hide hcell; clear hcell hc
  have HCV := hide hcv; clear hcv
  go_enter Try.func38, Try.ntmps38
  go_wp2
  go_loop [5] (fun i => ∃ k : Nat, 1 ≤ k ∧ k < ls.length ∧ i = .int .i64 k ∧ Hid (∀ j, 1 ≤ j → j < k → (ptAt ls j).1 < x)) (fun i => ls.length - (intOf i).toNat)
  case atStart => exact ⟨1, by omega, by omega, rfl, fun j hj hj2 => by omega⟩
  case round =>
    obtain ⟨k, hk1, hk, rfl, HJ⟩ := hrel
    obtain ⟨c0, c1⟩ := HCELL.out k hk
    by_cases hx : (ptAt ls k).1 < x
    · have hd : decide ((ptAt ls k).1 < x) = true := by simpa using hx
      have hk2 : k + 1 < ls.length := by
        rcases Nat.eq_or_lt_of_le (show k ≤ ls.length - 1 by omega) with e | hlt
        · have := HCV.out.last; rw [← e] at this; omega
        · omega
      go_wp2
      go_round
      case rel => exact ⟨k + 1, by omega, hk2, by go_num, fun j hj1 hj => by
        rcases Nat.eq_or_lt_of_le (show j ≤ k by omega) with e | hlt
        · rw [e]; exact hx
        · exact HJ.out j hj1 hlt⟩
      case measure => simp [intOf]; omega
    · have hd : decide ((ptAt ls k).1 < x) = false := by simpa using hx
      have HE2 := hide (heightV_ref HCV.out h0 hk1 hk (by omega) HJ.out)
      obtain ⟨i, rfl⟩ : ∃ i, k = i + 1 := ⟨k - 1, by omega⟩
      have hle : (ptAt ls i).1 ≤ x := by
        rcases Nat.eq_zero_or_pos i with e | hp
        · rw [e, HCV.out.first]; exact h0
        · exact Int.le_of_lt (HJ.out i hp (by omega))
      obtain ⟨d0, d1⟩ := HCELL.out i (by omega)
      obtain ⟨m0, m1, m2, m3⟩ := between_bounds HCV.out i hk x hle (by omega)
      obtain ⟨y0, y1⟩ := HCV.out.y i (by omega)
      obtain ⟨y2, y3⟩ := HCV.out.y (i + 1) hk
      obtain ⟨x0, x1⟩ := HCV.out.x i (by omega)
      obtain ⟨x2, x3⟩ := HCV.out.x (i + 1) hk
      obtain ⟨s0, s1⟩ := HCV.out.step i hk
      rw [between, Nat.add_sub_cancel] at m2 m3 HE2
      have hne : ¬ (ptAt ls (i + 1)).1 - (ptAt ls i).1 = 0 := by omega
      clear hx
      generalize (ptAt ls (i + 1)).1 = X2 at *
      generalize (ptAt ls i).1 = X1 at *
      generalize (ptAt ls (i + 1)).2 = Y2 at *
      generalize (ptAt ls i).2 = Y1 at *
      obtain ⟨M, hM⟩ : ∃ M, (Y2 - Y1) * (x - X1) = M := ⟨_, rfl⟩
      rw [hM] at m0 m1 m2 m3 HE2
      obtain ⟨D, hD⟩ : ∃ D, X2 - X1 = D := ⟨_, rfl⟩
      rw [hD] at m2 m3 HE2 hne
      have hD0 : 0 < D := by omega
      have hq0 : 0 ≤ M / D := Int.ediv_nonneg m0 (by omega)
      have hDz : (D == 0) = false := by simpa using hne
      have hwi : IntKind.i64.wrap (i : Int) = (i : Int) := IntWalk.i64_in _ (by omega)
      have hil : i < ls.length := by omega
      have hil2 : (i : Int) < (ls.length : Int) := by omega
      have hil3 : (0 : Int) ≤ (i : Int) := by omega
      have hil4 : (i : Int) + 1 < (ls.length : Int) := by omega
      have hil5 : (0 : Int) ≤ (i : Int) + 1 := by omega
      have hwi2 : IntKind.i64.wrap ((i : Int) + 1) = (i : Int) + 1 := IntWalk.i64_in _ (by omega)
      go_wp2_with fail
      go_region_held3 (fun w' => w'.cell? ⟨bk, off + (i + 1) * 2, none⟩ = some (.int .i64 X2) ∧ w'.cell? ⟨bk, off + (i + 1) * 2 + 1, none⟩ = some (.int .i64 Y2) ∧ w'.cell? ⟨bk, off + i * 2, none⟩ = some (.int .i64 X1) ∧ w'.cell? ⟨bk, off + i * 2 + 1, none⟩ = some (.int .i64 Y1)) (go_keep) (fail)
      all_goals
        go_wp2
        go_region
        go_wp2
        go_ret
        exact ⟨ret_int HE2.out.symm, (be2 _ _ _).drew.drew⟩
end Go.Proofs.Ytolcndchfnifhab

namespace Go.Proofs.Ytolcndchfnifhab
open Go.RowKit
set_option maxRecDepth 100000 in
set_option maxHeartbeats 1600000 in
theorem curveFine_any (v : Value) (ls : List Pt) (w : World) (hv : IsPts w v ls) :
    Calls Try.prog 37 #[v] w fun e w' => e = .returned (.bool (curveOk ls)) ∧ Below w.heap.size w w' := by
  obtain ⟨ao, ca, rfl, hla, hc⟩ := hv
  obtain ⟨R, hR⟩ : ∃ R, curveOk ls = R := ⟨_, rfl⟩
  rw [hR]
  by_cases hn : 2 ≤ (ls.length : Int) ∧ (ls.length : Int) ≤ 16
  · have hdn : decide (2 ≤ (ls.length : Int) ∧ (ls.length : Int) ≤ 16) = true := by simpa using hn
    obtain ⟨bk, off, hao, hbl, hcell⟩ : ∃ b off, ao = some ⟨b, off, none⟩ ∧ b < w.heap.size ∧ ∀ j, j < ls.length →
        w.cell? ⟨b, off + j * 2, none⟩ = some (.int .i64 (ptAt ls j).1) ∧ w.cell? ⟨b, off + j * 2 + 1, none⟩ = some (.int .i64 (ptAt ls j).2) := by
      rcases hc with h | h
      · subst h; simp at hn
      · exact h
    subst hao
    have HCELL := hide hcell; clear hcell hc
    obtain ⟨n0, n1⟩ := hn
    have p0 := (HCELL.out 0 (by omega)).1
    have p1 := (HCELL.out (ls.length - 1) (by omega)).1
    rw [Nat.zero_mul, Nat.add_zero] at p0
    by_cases hf : (ptAt ls 0).1 = 0
    · by_cases ht : (ptAt ls (ls.length - 1)).1 = 65535
      · have HR := hide (show R = ptsOk ls ls.length by rw [← hR, curveOk, endsOk, hdn, hf, ht]; rfl)
        rw [hf] at p0
        rw [ht] at p1
        clear hR hf ht
        go_enter Try.func37, Try.ntmps37
        go_wp2_with (go_at_call 59; refine (within_any _ _ _ _).mono ?_; rintro e wx ⟨rfl, rfl⟩; rw [hdn])
        clear p0 p1 hdn
        go_loopw [3] (fun i wr => ∃ k : Nat, k ≤ ls.length ∧ i = .int .i64 k ∧ Hid (ptsOk ls k = true) ∧ ∃ n, wr = w.drewN n) (fun i _ => ls.length - (intOf i).toNat)
        case atStart => exact ⟨0, Nat.zero_le _, rfl, rfl, 0, rfl⟩
        case round =>
          obtain ⟨k, hk, rfl, HA, nn, rfl⟩ := hrel
          by_cases hlt : k < ls.length
          · have hlt2 : (k : Int) < (ls.length : Int) := by omega
            obtain ⟨c0, c1⟩ := HCELL.out k hlt
            have HS := hide (ptsOk_succ ls k)
            have HF := hide (fun h => ptsOk_false ls k ls.length hlt h)
            by_cases hy : ptY ls k = true
            · have hyd : decide (0 ≤ (ptAt ls k).2 ∧ (ptAt ls k).2 ≤ 65535) = true := hy
              have HWI := hide (show ∀ w', Calls Try.prog 59 #[.int .i64 (ptAt ls k).2, .int .i64 0, .int .i64 65535] w' fun e w'' => e = .returned (.bool true) ∧ w'' = w' from fun w' => by
                have h := withinQ (ptAt ls k).2 0 65535 w'
                rw [hyd] at h; exact h)
              clear hyd
              have hpr : ∀ i, k = i + 1 → w.cell? ⟨bk, off + i * 2, none⟩ = some (.int .i64 (ptAt ls i).1) ∧ w.cell? ⟨bk, off + i * 2 + 1, none⟩ = some (.int .i64 (ptAt ls i).2) := fun i e => HCELL.out i (by omega)
              cases k with
              | zero =>
                have HT := hide (show ptsOk ls (0 + 1) = true by rw [HS.out, HA.out, hy]; simp [ptStep])
                clear hy HS HF hpr
                simp only [Nat.zero_mul, Nat.add_zero] at c0 c1
                go_wp2_with fail
                go_quiet ((go_at_call 59; exact (HWI.out _).mono (fun _ _ h => ⟨h.1, _, h.2⟩)))
                go_wp2
                go_roundw
                case rel => exact ⟨0 + 1, by omega, by go_num, HT, _, rfl⟩
                case measure => simp [intOf]; omega
              | succ i =>
                obtain ⟨d0, d1⟩ := hpr i rfl
                clear hpr
                have hwi : IntKind.i64.wrap (i : Int) = (i : Int) := IntWalk.i64_in _ (by omega)
                have hil : i < ls.length := by omega
                have hil2 : (i : Int) < (ls.length : Int) := by omega
                have hil3 : 0 ≤ (i : Int) := by omega
                have hil4 : (i : Int) + 1 < (ls.length : Int) := by omega
                by_cases hs : (ptAt ls i).1 < (ptAt ls (i + 1)).1
                · have hsb : decide ((ptAt ls (i + 1)).1 ≤ (ptAt ls i).1) = false := by simp; omega
                  by_cases hs2 : (ptAt ls i).2 ≤ (ptAt ls (i + 1)).2
                  · have hsb2 : decide ((ptAt ls (i + 1)).2 < (ptAt ls i).2) = false := by simp; omega
                    have HT := hide (show ptsOk ls (i + 1 + 1) = true by rw [HS.out, HA.out, hy]; simp [ptStep, hs, hs2])
                    clear hy HS HF hs hs2
                    go_wp2_with fail
                    go_quiet ((go_at_call 59; exact (HWI.out _).mono (fun _ _ h => ⟨h.1, _, h.2⟩)))
                    go_wp2
                    go_roundw
                    case rel => exact ⟨i + 1 + 1, by omega, by go_num, HT, _, rfl⟩
                    case measure => simp [intOf]; omega
                  · have hsb2 : decide ((ptAt ls (i + 1)).2 < (ptAt ls i).2) = true := by simp; omega
                    have HX := hide (show false = R by rw [HR.out, HF.out (by rw [hy]; simp [ptStep]; omega)])
                    clear hy HS HF hs hs2
                    go_wp2_with fail
                    go_quiet ((go_at_call 59; exact (HWI.out _).mono (fun _ _ h => ⟨h.1, _, h.2⟩)))
                    go_wp2
                    go_ret
                    exact ⟨ret_bool HX.out, by first | exact below_drewN (Below.refl _ _) _ | exact below_drewN (below_drewN (Below.refl _ _) _) _⟩
                · have hsb : decide ((ptAt ls (i + 1)).1 ≤ (ptAt ls i).1) = true := by simp; omega
                  have HX := hide (show false = R by rw [HR.out, HF.out (by rw [hy]; simp [ptStep]; omega)])
                  clear hy HS HF hs
                  go_wp2_with fail
                  go_quiet ((go_at_call 59; exact (HWI.out _).mono (fun _ _ h => ⟨h.1, _, h.2⟩)))
                  go_wp2
                  go_ret
                  exact ⟨ret_bool HX.out, by first | exact below_drewN (Below.refl _ _) _ | exact below_drewN (below_drewN (Below.refl _ _) _) _⟩
            · have hy : ptY ls k = false := by simpa using hy
              have hyd : decide (0 ≤ (ptAt ls k).2 ∧ (ptAt ls k).2 ≤ 65535) = false := hy
              have HWI := hide (show ∀ w', Calls Try.prog 59 #[.int .i64 (ptAt ls k).2, .int .i64 0, .int .i64 65535] w' fun e w'' => e = .returned (.bool false) ∧ w'' = w' from fun w' => by
                have h := withinQ (ptAt ls k).2 0 65535 w'
                rw [hyd] at h; exact h)
              clear hyd
              have HX := hide (show false = R by rw [HR.out, HF.out (by rw [hy]; rfl)])
              clear hy HS HF
              go_wp2_with fail
              go_quiet ((go_at_call 59; exact (HWI.out _).mono (fun _ _ h => ⟨h.1, _, h.2⟩)))
              go_wp2
              go_ret
              exact ⟨ret_bool HX.out, by first | exact below_drewN (Below.refl _ _) _ | exact below_drewN (below_drewN (Below.refl _ _) _) _⟩
          · have HX := hide (show true = R by rw [HR.out, ← HA.out, show k = ls.length by omega])
            have hd : decide ((k : Int) < (ls.length : Int)) = false := by simp; omega
            go_wp2
            go_ret
            exact ⟨ret_bool HX.out, by first | exact below_drewN (Below.refl _ _) _ | exact below_drewN (below_drewN (Below.refl _ _) _) _⟩
      · have HX := hide (show false = R by rw [← hR, curveOk, endsOk]; simp [ht])
        have hb : ((ptAt ls (ls.length - 1)).1 != 65535) = true := by simpa using ht
        rw [hf] at p0
        clear hR hf ht
        go_enter Try.func37, Try.ntmps37
        go_wp2_with (go_at_call 59; refine (within_any _ _ _ _).mono ?_; rintro e wx ⟨rfl, rfl⟩; rw [hdn])
        go_ret
        exact ⟨ret_bool HX.out, Below.refl _ _⟩
    · have HX := hide (show false = R by rw [← hR, curveOk, endsOk]; simp [hf])
      have hb : ((ptAt ls 0).1 != 0) = true := by simpa using hf
      clear hR hf
      go_enter Try.func37, Try.ntmps37
      go_wp2_with (go_at_call 59; refine (within_any _ _ _ _).mono ?_; rintro e wx ⟨rfl, rfl⟩; rw [hdn])
      go_ret
      exact ⟨ret_bool HX.out, Below.refl _ _⟩
  · have hdn : decide (2 ≤ (ls.length : Int) ∧ (ls.length : Int) ≤ 16) = false := by simpa using hn
    have HX := hide (show false = R by rw [← hR, curveOk, endsOk, hdn]; rfl)
    clear hR hn
    go_enter Try.func37, Try.ntmps37
    go_wp2_with (go_at_call 59; refine (within_any _ _ _ _).mono ?_; rintro e wx ⟨rfl, rfl⟩; rw [hdn])
    go_ret
    exact ⟨ret_bool HX.out, Below.refl _ _⟩
end Go.Proofs.Ytolcndchfnifhab

namespace Go.Proofs.Ytolcndchfnifhab
open Go.RowKit
theorem app_tail {W' V1 w1 w : World} {base PB : Nat} {W H : Int} {so : Option Addr} {scap k g cap : Nat} {q : Px} {xs : List Value}
    (i1 : W'.heap[PB]? = some (.cells #[.int .i64 W, .int .i64 H, .slice so k scap] 39 (0, 0))) (i2 : W'.ownsRow base 50 3 (.slice so k scap) k xs)
    (i5 : Below w.heap.size w W') (hb : w.heap.size ≤ base) (hPB : w.heap.size ≤ PB) (hV1 : Below W'.heap.size W' V1) (hg : (V1.alloc (Obj.cells (pixA q) 50)).grownBy w1 (Value.slice so k scap).ownBlock)
    (ho : w1.ownsRow base 50 3 (.slice (some ⟨g, 0, none⟩) (k + 1) cap) (k + 1) (xs ++ pixL q)) :
    (∀ b, b < W'.heap.size → some b ≠ (Value.slice so k scap).ownBlock → w1.heap[b]? = W'.heap[b]?) ∧ w1.cell? ⟨PB, 2, none⟩ = some (.slice so k scap) ∧ w1.frozen? ⟨PB, 2, none⟩ = false ∧
      (w1.setCell ⟨PB, 2, none⟩ (.slice (some ⟨g, 0, none⟩) (k + 1) cap)).heap[PB]? = some (.cells #[.int .i64 W, .int .i64 H, .slice (some ⟨g, 0, none⟩) (k + 1) cap] 39 (0, 0)) ∧
      (w1.setCell ⟨PB, 2, none⟩ (.slice (some ⟨g, 0, none⟩) (k + 1) cap)).ownsRow base 50 3 (.slice (some ⟨g, 0, none⟩) (k + 1) cap) (k + 1) (xs ++ pixL q) ∧ Below w.heap.size w (w1.setCell ⟨PB, 2, none⟩ (.slice (some ⟨g, 0, none⟩) (k + 1) cap)) ∧
      (∀ b, b < W'.heap.size → some b ≠ (Value.slice so k scap).ownBlock → b ≠ PB → (w1.setCell ⟨PB, 2, none⟩ (.slice (some ⟨g, 0, none⟩) (k + 1) cap)).heap[b]? = W'.heap[b]?) := by
  have hs := hV1.size
  have keep : ∀ b, b < W'.heap.size → some b ≠ (Value.slice so k scap).ownBlock → w1.heap[b]? = W'.heap[b]? := fun b hb hne => by
    rw [hg.block b (by simp; omega) hne, Below.heap_alloc _ _ _ (by omega), hV1.block b hb]
  have l1 := (Array.getElem?_eq_some_iff.1 i1).1
  have kP := (keep PB l1 (own_ne i2 i1 (by decide))).trans i1
  have hc := heap_setCell_same w1 PB 2 _ _ (.slice (some ⟨g, 0, none⟩) (k + 1) cap) kP
  refine ⟨keep, by rw [Lib.cell_of_heap kP]; rfl, Lib.frozen_of_heap kP 2, by rw [hc]; rfl, ownsRow_setCell_other ho (fun e => own_ne ho kP (by decide) e.symm) _, ?_, fun b hb hne hn => (Below.heap_setCell _ _ _ _ hn).trans (keep b hb hne)⟩
  exact ((((i5.trans (hV1.mono i5.size)).alloc (by have := i5.size; omega) _).grown hg (by have := i5.size; simp; omega) (fun j hj => Nat.le_trans hb (i2.lt j hj).1))).setCell (p := ⟨PB, 2, none⟩) hPB _
set_option maxRecDepth 100000 in
set_option maxHeartbeats 3200000 in
theorem bent_any (W H : Int) (v : Value) (ps : List Px) (vl : Value) (ls : List Pt) (hcv : IsCurve ls) (hps : pxsOk ps = true) (h4 : ps.length ≤ 4096) (w : World) (hv : IsPix w v ps) (hvl : IsPts w vl ls) :
    Calls Try.prog 39 #[.agg #[.int .i64 W, .int .i64 H, v], vl] w fun e w' => ∃ r, e = .returned (.agg #[.int .i64 W, .int .i64 H, r]) ∧ IsPix w' r (ps.map (bendP ls)) ∧ Below w.heap.size w w' ∧ Fresh w.heap.size r := by
  have HL := hide hvl
  have HCV := hide hcv
  have HPS := hide hps
  clear hcv hps
  obtain ⟨ao, ca, rfl, hla, hc⟩ := hv
  obtain ⟨lo, lc, rfl, _, _⟩ := hvl
  obtain ⟨i0, hi, hz0, hz1, hz2⟩ := info_parts Try.infoPixel
  have HC := hide (show ∀ j, j < ps.length → ∃ bk off, ao = some ⟨bk, off, none⟩ ∧ bk < w.heap.size ∧ w.cell? ⟨bk, off + j * 3, none⟩ = some (.int .i64 (pxAt ps j).1) ∧ w.cell? ⟨bk, off + j * 3 + 1, none⟩ = some (.int .i64 (pxAt ps j).2.1) ∧ w.cell? ⟨bk, off + j * 3 + 2, none⟩ = some (.int .i64 (pxAt ps j).2.2) from fun j hj => by
    rcases hc with h | ⟨b, off, h1, h2, h3⟩
    · subst h; simp at hj
    · have := h3 j hj
      rw [pxAt_get ps j hj] at this
      exact ⟨b, off, h1, h2, this⟩)
  clear hc
  go_enter Try.func39, Try.ntmps39
  go_wp2_with fail
  obtain ⟨a1, a2, a3⟩ := al3 w (Obj.cells #[.int .i64 W, .int .i64 H, .slice ao ps.length ca] 39) (Obj.cells #[.int .i64 0, .int .i64 0, .slice none 0 0] 39) (Obj.cells #[.int .i64 W, .int .i64 H, .slice none 0 0] 39)
  have hB := be3 w (Obj.cells #[.int .i64 W, .int .i64 H, .slice ao ps.length ca] 39) (Obj.cells #[.int .i64 0, .int .i64 0, .slice none 0 0] 39) (Obj.cells #[.int .i64 W, .int .i64 H, .slice none 0 0] 39)
  generalize ((w.alloc (Obj.cells #[.int .i64 W, .int .i64 H, .slice ao ps.length ca] 39)).alloc (Obj.cells #[.int .i64 0, .int .i64 0, .slice none 0 0] 39)).alloc (Obj.cells #[.int .i64 W, .int .i64 H, .slice none 0 0] 39) = U at *
  go_loopw [6] (fun i wr => ∃ k : Nat, k ≤ ps.length ∧ i = .int .i64 k ∧ ∃ so scap, wr.heap[w.heap.size + 2]? = some (.cells #[.int .i64 W, .int .i64 H, .slice so k scap] 39 (0, 0)) ∧ wr.ownsRow w.heap.size 50 3 (.slice so k scap) k (((ps.take k).map (bendP ls)).flatMap pixL) ∧ wr.heap[w.heap.size]? = some (.cells #[.int .i64 W, .int .i64 H, .slice ao ps.length ca] 39 (0, 0)) ∧ wr.heap[w.heap.size + 1]? = some (.cells #[.int .i64 0, .int .i64 0, .slice none 0 0] 39 (0, 0)) ∧ Below w.heap.size w wr) (fun i _ => ps.length - (intOf i).toNat)
  case atStart => exact ⟨0, Nat.zero_le _, rfl, none, 0, a3, World.ownsRow_nil _ _ _ _, a1, a2, hB⟩
  case round =>
    clear a1 a2 a3 hB
    obtain ⟨k, hk, rfl, so, scap, j1, j2, j3, j4, j5⟩ := hrel
    obtain ⟨_, _, q2⟩ := cells3 j3
    have hlq := (Array.getElem?_eq_some_iff.1 j3).1
    by_cases hlt : k < ps.length
    · have hd : decide ((k : Int) < (ps.length : Int)) = true := by simp; omega
      obtain ⟨bk, off, rfl, hbl, c0, c1, c2⟩ := HC.out k hlt
      have d0 := (j5.cell (p := ⟨bk, off + k * 3, none⟩) hbl).trans c0
      have d1 := (j5.cell (p := ⟨bk, off + k * 3 + 1, none⟩) hbl).trans c1
      have d2 := (j5.cell (p := ⟨bk, off + k * 3 + 2, none⟩) hbl).trans c2
      obtain ⟨⟨r1, r2⟩, ⟨g1, g2⟩, u1, u2⟩ := (pxOk_iff _).1 (pxAt_ok HPS.out k)
      have HST := hide (show ((ps.take (k + 1)).map (bendP ls)).flatMap pixL = ((ps.take k).map (bendP ls)).flatMap pixL ++ pixL (bendP ls (pxAt ps k)) by
        rw [List.take_succ_eq_append_getElem hlt, pxAt_get ps k hlt, List.map_append, List.flatMap_append]; simp)
      obtain ⟨⟨r, g, u⟩, hp⟩ : ∃ p, pxAt ps k = p := ⟨_, rfl⟩
      rw [hp] at d0 d1 d2 r1 r2 g1 g2 u1 u2 HST
      have HQ := hide (show bendP ls (r, g, u) = (heightV ls r, heightV ls g, heightV ls u) from rfl)
      obtain ⟨q, hq⟩ : ∃ q, bendP ls (r, g, u) = q := ⟨_, rfl⟩
      rw [hq] at HST HQ
      clear c0 c1 c2 hp hq
      obtain ⟨XS, hXS⟩ : ∃ XS, ((ps.take k).map (bendP ls)).flatMap pixL = XS := ⟨_, rfl⟩
      rw [hXS] at j2 HST
      clear hXS
      obtain ⟨W', hW'⟩ : ∃ W', wr.alloc (Obj.cells #[.int .i64 r, .int .i64 g, .int .i64 u] 50) = W' := ⟨_, rfl⟩
      have i1 : W'.heap[w.heap.size + 2]? = some (.cells #[.int .i64 W, .int .i64 H, .slice so k scap] 39 (0, 0)) := by rw [← hW']; exact (Below.heap_alloc _ _ _ (Array.getElem?_eq_some_iff.1 j1).1).trans j1
      have i2 : W'.ownsRow w.heap.size 50 3 (.slice so k scap) k XS := by rw [← hW']; exact j2.alloc _
      have i3 : W'.heap[w.heap.size]? = some (.cells #[.int .i64 W, .int .i64 H, .slice (some ⟨bk, off, none⟩) ps.length ca] 39 (0, 0)) := by rw [← hW']; exact (Below.heap_alloc _ _ _ hlq).trans j3
      have i4 : W'.heap[w.heap.size + 1]? = some (.cells #[.int .i64 0, .int .i64 0, .slice none 0 0] 39 (0, 0)) := by rw [← hW']; exact (Below.heap_alloc _ _ _ (Array.getElem?_eq_some_iff.1 j4).1).trans j4
      have i5 : Below w.heap.size w W' := by rw [← hW']; exact j5.alloc j5.size _
      have iT : W'.heap[wr.heap.size]? = some (.cells #[.int .i64 r, .int .i64 g, .int .i64 u] 50 (0, 0)) := by rw [← hW']; exact al1 wr _
      have nT : some wr.heap.size ≠ (Value.slice so k scap).ownBlock := fun e => by have := (j2.lt _ e.symm).2; omega
      have n0 : w.heap.size + 2 < wr.heap.size := (Array.getElem?_eq_some_iff.1 j1).1
      have HW' := hide hW'
      clear hW'
      go_wp2_with fail
      rw [HW'.out]
      clear j1 j2 j3 j4 j5 q2 d0 d1 d2
      obtain ⟨TB, hTB⟩ : ∃ TB, wr.heap.size = TB := ⟨_, rfl⟩
      rw [hTB] at iT nT n0 ⊢
      rw [HQ.out] at HST
      have hlT := (Array.getElem?_eq_some_iff.1 iT).1
      have hlP := (Array.getElem?_eq_some_iff.1 i1).1
      have hbW : w.heap.size ≤ W'.heap.size := i5.size
      have HL1 := hide (show k + 1 ≤ maxLen by unfold maxLen; omega)
      have HL2 := hide (show (k + 1) * 24 ≤ 140737488355328 by omega)
      have HS := hide (show ∀ v, Below W'.heap.size W' v → v.cell? ⟨TB, 0, none⟩ = some (.int .i64 r) ∧ v.cell? ⟨TB, 1, none⟩ = some (.int .i64 g) ∧ v.cell? ⟨TB, 2, none⟩ = some (.int .i64 u) from fun v h => cells3 ((h.block TB hlT).trans iT))
      have HP2 := hide (show ∀ v, Below W'.heap.size W' v → v.cell? ⟨w.heap.size + 1 + 1, 2, none⟩ = some (.slice so k scap) from fun v h => (cells3 ((h.block (w.heap.size + 2) hlP).trans i1)).2.2)
      have HON := hide (show ∀ (x : Int) (v : World), 0 ≤ x → x ≤ 65535 → Below W'.heap.size W' v → Calls Try.prog 38 #[.slice lo ls.length lc, .int .i64 x] v fun e v' => e = .returned (.int .i64 (heightV ls x)) ∧ Below v.heap.size v v' from fun x v x0 x1 h => onCurve_any _ ls x x0 x1 HCV.out v (HL.out.below (i5.trans (h.mono i5.size)) (Nat.le_refl _)))
      have HTL := hide (show ∀ (V1 : World) (gg cap : Nat) (w1 : World), Below W'.heap.size W' V1 → (V1.alloc (Obj.cells #[.int .i64 (heightV ls r), .int .i64 (heightV ls g), .int .i64 (heightV ls u)] 50)).grownBy w1 (Value.slice so k scap).ownBlock → w1.ownsRow w.heap.size 50 3 (.slice (some ⟨gg, 0, none⟩) (k + 1) cap) (k + 1) (XS ++ pixL (heightV ls r, heightV ls g, heightV ls u)) →
          (w1.cell? ⟨TB, 0, none⟩ = some (.int .i64 r) ∧ w1.cell? ⟨TB, 1, none⟩ = some (.int .i64 g) ∧ w1.cell? ⟨TB, 2, none⟩ = some (.int .i64 u)) ∧ w1.cell? ⟨w.heap.size + 1 + 1, 2, none⟩ = some (.slice so k scap) ∧ w1.frozen? ⟨w.heap.size + 1 + 1, 2, none⟩ = false ∧ (((w1.setCell ⟨w.heap.size + 1 + 1, 2, none⟩ (.slice (some ⟨gg, 0, none⟩) (k + 1) cap)).cell? ⟨TB, 0, none⟩ = some (.int .i64 r) ∧ (w1.setCell ⟨w.heap.size + 1 + 1, 2, none⟩ (.slice (some ⟨gg, 0, none⟩) (k + 1) cap)).cell? ⟨TB, 1, none⟩ = some (.int .i64 g) ∧ (w1.setCell ⟨w.heap.size + 1 + 1, 2, none⟩ (.slice (some ⟨gg, 0, none⟩) (k + 1) cap)).cell? ⟨TB, 2, none⟩ = some (.int .i64 u)) ∧
            (w1.setCell ⟨w.heap.size + 1 + 1, 2, none⟩ (.slice (some ⟨gg, 0, none⟩) (k + 1) cap)).heap[w.heap.size + 2]? = some (.cells #[.int .i64 W, .int .i64 H, .slice (some ⟨gg, 0, none⟩) (k + 1) cap] 39 (0, 0)) ∧ (w1.setCell ⟨w.heap.size + 1 + 1, 2, none⟩ (.slice (some ⟨gg, 0, none⟩) (k + 1) cap)).ownsRow w.heap.size 50 3 (.slice (some ⟨gg, 0, none⟩) (k + 1) cap) (k + 1) (XS ++ pixL (heightV ls r, heightV ls g, heightV ls u)) ∧
            (w1.setCell ⟨w.heap.size + 1 + 1, 2, none⟩ (.slice (some ⟨gg, 0, none⟩) (k + 1) cap)).heap[w.heap.size]? = some (.cells #[.int .i64 W, .int .i64 H, .slice (some ⟨bk, off, none⟩) ps.length ca] 39 (0, 0)) ∧ (w1.setCell ⟨w.heap.size + 1 + 1, 2, none⟩ (.slice (some ⟨gg, 0, none⟩) (k + 1) cap)).heap[w.heap.size + 1]? = some (.cells #[.int .i64 0, .int .i64 0, .slice none 0 0] 39 (0, 0)) ∧ Below w.heap.size w (w1.setCell ⟨w.heap.size + 1 + 1, 2, none⟩ (.slice (some ⟨gg, 0, none⟩) (k + 1) cap))) from fun V1 gg cap w1 h1 h2 h3 => by
        obtain ⟨t1, t2, t3, t4, t5, t6, t7⟩ := app_tail (q := (heightV ls r, heightV ls g, heightV ls u)) i1 i2 i5 (Nat.le_refl _) (by omega) h1 h2 h3
        have kT := (t1 TB hlT nT).trans iT
        have xT := (t7 TB hlT nT (by omega)).trans iT
        exact ⟨cells3 kT, t2, t3, cells3 xT, t4, t5, (t7 _ (Array.getElem?_eq_some_iff.1 i3).1 (own_ne i2 i3 (by decide)) (by omega)).trans i3, (t7 _ (Array.getElem?_eq_some_iff.1 i4).1 (own_ne i2 i4 (by decide)) (by omega)).trans i4, t6⟩)
      have hmx : Try.prog.follows .mixedOrders = true := by kernel_rfl
      have hWd : Below W'.heap.size W' W'.drew := (Below.refl _ _).drew
      have hSd := HS.out _ hWd
      have p2 := HP2.out _ hWd
      clear hTB HW' HQ iT i1
      refine wp_region_held (S := fun v : World => v.cell? ⟨TB, 0, none⟩ = some (.int .i64 r) ∧ v.cell? ⟨TB, 1, none⟩ = some (.int .i64 g) ∧ v.cell? ⟨TB, 2, none⟩ = some (.int .i64 u)) hmx ?_
      show wpAnyH _ _ _ _ _ 19 _ _ W'.drew
      refine wpAnyH_take (i := 0) (oi := _) (v := .pointer (some ⟨w.heap.size + 1 + 1, 2, none⟩)) rfl (by kernel_rfl) (by kernel_rfl) (by kernel_rfl) (fun _ _ _ h => h) (Or.inl ⟨by rfl, fun v hSv => by obtain ⟨t0, t1, t2⟩ := hSv; go_simp⟩) hSd ?_
      simp only [Act.put]
      refine wpAnyH_take (i := 2) (oi := _) (v := .slice lo ls.length lc) rfl (by kernel_rfl) (by kernel_rfl) (by kernel_rfl) (fun _ _ _ h => h) (Or.inl ⟨by rfl, fun v hSv => by obtain ⟨t0, t1, t2⟩ := hSv; go_simp⟩) hSd ?_
      simp only [Act.put]
      refine wpAnyH_take (i := 3) (oi := _) (v := .pointer (some ⟨TB, 0, none⟩)) rfl (by kernel_rfl) (by kernel_rfl) (by kernel_rfl) (fun _ _ _ h => h) (Or.inl ⟨by rfl, fun v hSv => by obtain ⟨t0, t1, t2⟩ := hSv; go_simp⟩) hSd ?_
      simp only [Act.put]
      refine wpAnyH_take (i := 4) (oi := _) (v := .int .i64 r) rfl (by kernel_rfl) (by kernel_rfl) (by kernel_rfl) (fun _ _ _ h => h) (Or.inl ⟨by rfl, fun v hSv => by obtain ⟨t0, t1, t2⟩ := hSv; go_simp⟩) hSd ?_
      simp only [Act.put]
      refine wpAnyH_take (i := 6) (oi := _) (v := .slice lo ls.length lc) rfl (by kernel_rfl) (by kernel_rfl) (by kernel_rfl) (fun _ _ _ h => h) (Or.inl ⟨by rfl, fun v hSv => by obtain ⟨t0, t1, t2⟩ := hSv; go_simp⟩) hSd ?_
      simp only [Act.put]
      refine wpAnyH_take (i := 7) (oi := _) (v := .pointer (some ⟨TB, 1, none⟩)) rfl (by kernel_rfl) (by kernel_rfl) (by kernel_rfl) (fun _ _ _ h => h) (Or.inl ⟨by rfl, fun v hSv => by obtain ⟨t0, t1, t2⟩ := hSv; go_simp⟩) hSd ?_
      simp only [Act.put]
      refine wpAnyH_take (i := 8) (oi := _) (v := .int .i64 g) rfl (by kernel_rfl) (by kernel_rfl) (by kernel_rfl) (fun _ _ _ h => h) (Or.inl ⟨by rfl, fun v hSv => by obtain ⟨t0, t1, t2⟩ := hSv; go_simp⟩) hSd ?_
      simp only [Act.put]
      refine wpAnyH_take (i := 10) (oi := _) (v := .slice lo ls.length lc) rfl (by kernel_rfl) (by kernel_rfl) (by kernel_rfl) (fun _ _ _ h => h) (Or.inl ⟨by rfl, fun v hSv => by obtain ⟨t0, t1, t2⟩ := hSv; go_simp⟩) hSd ?_
      simp only [Act.put]
      refine wpAnyH_take (i := 11) (oi := _) (v := .pointer (some ⟨TB, 2, none⟩)) rfl (by kernel_rfl) (by kernel_rfl) (by kernel_rfl) (fun _ _ _ h => h) (Or.inl ⟨by rfl, fun v hSv => by obtain ⟨t0, t1, t2⟩ := hSv; go_simp⟩) hSd ?_
      simp only [Act.put]
      refine wpAnyH_take (i := 12) (oi := _) (v := .int .i64 u) rfl (by kernel_rfl) (by kernel_rfl) (by kernel_rfl) (fun _ _ _ h => h) (Or.inl ⟨by rfl, fun v hSv => by obtain ⟨t0, t1, t2⟩ := hSv; go_simp⟩) hSd ?_
      simp only [Act.put]
      refine wpAnyH_ready (rs := [1, 5]) (by kernel_rfl) (by simp) ?_
      refine AllReadyH.cons (o := _) rfl (fun K' hK => ?w1A) (AllReadyH.cons (o := _) rfl (fun K' hK => ?w1B) AllReadyH.nil)
      case w1A =>
        rw [if_pos (by rfl)]
        go_simp
        refine hK.out _ _ hSd (fun _ => ?_)
        clear hK
        refine wpAnyH_ready (rs := [5]) (by kernel_rfl) (by simp) ?_
        refine AllReadyH.cons (o := _) rfl (fun K' hK => ?_) AllReadyH.nil
        rw [if_pos (by rfl)]
        go_simp
        refine (HON.out r _ r1 r2 (by assumption)).mono ?_
        rintro e V1 ⟨rfl, hb1⟩
        have hB1 : Below W'.heap.size W' V1 := hWd.trans (hb1.mono hWd.size)
        have hSd := HS.out _ hB1
        have p2 := HP2.out _ hB1
        refine hK.out _ _ hSd (fun _ => ?_)
        clear hK
        refine wpAnyH_ready (rs := [9]) (by kernel_rfl) (by simp) ?_
        refine AllReadyH.cons (o := _) rfl (fun K' hK => ?_) AllReadyH.nil
        rw [if_pos (by rfl)]
        go_simp
        refine (HON.out g _ g1 g2 (by assumption)).mono ?_
        rintro e V2 ⟨rfl, hb2⟩
        have hB2 : Below W'.heap.size W' V2 := hB1.trans (hb2.mono hB1.size)
        have hSd := HS.out _ hB2
        have p2 := HP2.out _ hB2
        refine hK.out _ _ hSd (fun _ => ?_)
        clear hK
        refine wpAnyH_ready (rs := [13]) (by kernel_rfl) (by simp) ?_
        refine AllReadyH.cons (o := _) rfl (fun K' hK => ?_) AllReadyH.nil
        rw [if_pos (by rfl)]
        go_simp
        refine (HON.out u _ u1 u2 (by assumption)).mono ?_
        rintro e V3 ⟨rfl, hb3⟩
        have hB3 : Below W'.heap.size W' V3 := hB2.trans (hb3.mono hB2.size)
        have hSd := HS.out _ hB3
        have p2 := HP2.out _ hB3
        refine hK.out _ _ hSd (fun _ => ?_)
        clear hK
        refine wpAnyH_take (i := 14) (oi := _) (v := .agg #[.int .i64 (heightV ls r), .int .i64 (heightV ls g), .int .i64 (heightV ls u)]) rfl (by kernel_rfl) (by kernel_rfl) (by kernel_rfl) (fun _ _ _ h => h) (Or.inl ⟨by rfl, fun v hSv => by obtain ⟨t0, t1, t2⟩ := hSv; go_simp⟩) hSd ?_
        simp only [Act.put]
        refine wpAnyH_ready (rs := [15]) (by kernel_rfl) (by simp) ?_
        refine AllReadyH.cons (o := _) rfl (fun K' hK => ?_) AllReadyH.nil
        rw [if_pos (by rfl)]
        go_simp
        have hBs : Below W'.heap.size W' (V3.alloc (Obj.cells #[.int .i64 (heightV ls r), .int .i64 (heightV ls g), .int .i64 (heightV ls u)] 50)) := hB3.alloc hB3.size _
        have hSd := HS.out _ hBs
        have p2 := HP2.out _ hBs
        refine hK.out _ _ hSd (fun _ => ?_)
        clear hK
        refine wpAnyH_ready (rs := [16]) (by kernel_rfl) (by simp) ?_
        refine AllReadyH.cons (o := _) rfl (fun K' hK => ?_) AllReadyH.nil
        refine step_append_lies _ rfl _ _ 37 rfl w.heap.size 50 i0 pixZ 3 24 Try.underlying37 hi hz0 hz1 hz2 rfl (by decide) (.slice so k scap) k XS rfl ((ownsRow_below i2 hB3).alloc _) ⟨V3.heap.size, 0, none⟩ 1 1 (pixL (heightV ls r, heightV ls g, heightV ls u)) rfl rfl (World.news_of_block (al1 V3 _)) (fun u hu => by simp [pixL] at hu; rcases hu with rfl | rfl | rfl <;> rfl) Nat.one_pos HL1.out HL2.out (Nat.le_trans hbW hBs.size) _ rfl ?_
        intro gg cap w1 hown hgrow hat hltg
        obtain ⟨hSd, p2, p2f, HFIN⟩ := HTL.out V3 gg cap w1 hB3 hgrow hown
        refine hK.out _ _ hSd (fun _ => ?_)
        clear hK
        refine wpAnyH_ready (rs := [17]) (by kernel_rfl) (by simp) ?_
        refine AllReadyH.cons (o := _) rfl (fun K' hK => ?_) AllReadyH.nil
        rw [if_pos (by rfl)]
        go_simp
        refine hK.out _ _ hSd (fun _ => ?_)
        clear hK
        refine wpAnyH_ready (rs := [18]) (by kernel_rfl) (by simp) ?_
        refine AllReadyH.cons (o := _) rfl (fun K' hK => ?_) AllReadyH.nil
        rw [if_pos (by rfl)]
        go_simp
        refine hK.out _ _ HFIN.1 (fun _ => ?_)
        clear hK
        refine wpAnyH_done (by kernel_rfl) ?_ _
        obtain ⟨f0, f1, f2, f3, f4, f5⟩ := HFIN
        go_wp2
        go_roundw
        case rel => exact ⟨k + 1, by omega, by go_num, some ⟨gg, 0, none⟩, cap, f1, by rw [HST.out]; exact f2, f3, f4, f5⟩
        case measure => simp [intOf]; omega
      case w1B =>
        rw [if_pos (by rfl)]
        go_simp
        refine (HON.out r _ r1 r2 (by assumption)).mono ?_
        rintro e V1 ⟨rfl, hb1⟩
        have hB1 : Below W'.heap.size W' V1 := hWd.trans (hb1.mono hWd.size)
        have hSd := HS.out _ hB1
        have p2 := HP2.out _ hB1
        refine hK.out _ _ hSd (fun _ => ?_)
        clear hK
        refine wpAnyH_ready (rs := [1, 9]) (by kernel_rfl) (by simp) ?_
        refine AllReadyH.cons (o := _) rfl (fun K' hK => ?w2A) (AllReadyH.cons (o := _) rfl (fun K' hK => ?w2B) AllReadyH.nil)
        case w2A =>
          rw [if_pos (by rfl)]
          go_simp
          refine hK.out _ _ hSd (fun _ => ?_)
          clear hK
          refine wpAnyH_ready (rs := [9]) (by kernel_rfl) (by simp) ?_
          refine AllReadyH.cons (o := _) rfl (fun K' hK => ?_) AllReadyH.nil
          rw [if_pos (by rfl)]
          go_simp
          refine (HON.out g _ g1 g2 (by assumption)).mono ?_
          rintro e V2 ⟨rfl, hb2⟩
          have hB2 : Below W'.heap.size W' V2 := hB1.trans (hb2.mono hB1.size)
          have hSd := HS.out _ hB2
          have p2 := HP2.out _ hB2
          refine hK.out _ _ hSd (fun _ => ?_)
          clear hK
          refine wpAnyH_ready (rs := [13]) (by kernel_rfl) (by simp) ?_
          refine AllReadyH.cons (o := _) rfl (fun K' hK => ?_) AllReadyH.nil
          rw [if_pos (by rfl)]
          go_simp
          refine (HON.out u _ u1 u2 (by assumption)).mono ?_
          rintro e V3 ⟨rfl, hb3⟩
          have hB3 : Below W'.heap.size W' V3 := hB2.trans (hb3.mono hB2.size)
          have hSd := HS.out _ hB3
          have p2 := HP2.out _ hB3
          refine hK.out _ _ hSd (fun _ => ?_)
          clear hK
          refine wpAnyH_take (i := 14) (oi := _) (v := .agg #[.int .i64 (heightV ls r), .int .i64 (heightV ls g), .int .i64 (heightV ls u)]) rfl (by kernel_rfl) (by kernel_rfl) (by kernel_rfl) (fun _ _ _ h => h) (Or.inl ⟨by rfl, fun v hSv => by obtain ⟨t0, t1, t2⟩ := hSv; go_simp⟩) hSd ?_
          simp only [Act.put]
          refine wpAnyH_ready (rs := [15]) (by kernel_rfl) (by simp) ?_
          refine AllReadyH.cons (o := _) rfl (fun K' hK => ?_) AllReadyH.nil
          rw [if_pos (by rfl)]
          go_simp
          have hBs : Below W'.heap.size W' (V3.alloc (Obj.cells #[.int .i64 (heightV ls r), .int .i64 (heightV ls g), .int .i64 (heightV ls u)] 50)) := hB3.alloc hB3.size _
          have hSd := HS.out _ hBs
          have p2 := HP2.out _ hBs
          refine hK.out _ _ hSd (fun _ => ?_)
          clear hK
          refine wpAnyH_ready (rs := [16]) (by kernel_rfl) (by simp) ?_
          refine AllReadyH.cons (o := _) rfl (fun K' hK => ?_) AllReadyH.nil
          refine step_append_lies _ rfl _ _ 37 rfl w.heap.size 50 i0 pixZ 3 24 Try.underlying37 hi hz0 hz1 hz2 rfl (by decide) (.slice so k scap) k XS rfl ((ownsRow_below i2 hB3).alloc _) ⟨V3.heap.size, 0, none⟩ 1 1 (pixL (heightV ls r, heightV ls g, heightV ls u)) rfl rfl (World.news_of_block (al1 V3 _)) (fun u hu => by simp [pixL] at hu; rcases hu with rfl | rfl | rfl <;> rfl) Nat.one_pos HL1.out HL2.out (Nat.le_trans hbW hBs.size) _ rfl ?_
          intro gg cap w1 hown hgrow hat hltg
          obtain ⟨hSd, p2, p2f, HFIN⟩ := HTL.out V3 gg cap w1 hB3 hgrow hown
          refine hK.out _ _ hSd (fun _ => ?_)
          clear hK
          refine wpAnyH_ready (rs := [17]) (by kernel_rfl) (by simp) ?_
          refine AllReadyH.cons (o := _) rfl (fun K' hK => ?_) AllReadyH.nil
          rw [if_pos (by rfl)]
          go_simp
          refine hK.out _ _ hSd (fun _ => ?_)
          clear hK
          refine wpAnyH_ready (rs := [18]) (by kernel_rfl) (by simp) ?_
          refine AllReadyH.cons (o := _) rfl (fun K' hK => ?_) AllReadyH.nil
          rw [if_pos (by rfl)]
          go_simp
          refine hK.out _ _ HFIN.1 (fun _ => ?_)
          clear hK
          refine wpAnyH_done (by kernel_rfl) ?_ _
          obtain ⟨f0, f1, f2, f3, f4, f5⟩ := HFIN
          go_wp2
          go_roundw
          case rel => exact ⟨k + 1, by omega, by go_num, some ⟨gg, 0, none⟩, cap, f1, by rw [HST.out]; exact f2, f3, f4, f5⟩
          case measure => simp [intOf]; omega
        case w2B =>
          rw [if_pos (by rfl)]
          go_simp
          refine (HON.out g _ g1 g2 (by assumption)).mono ?_
          rintro e V2 ⟨rfl, hb2⟩
          have hB2 : Below W'.heap.size W' V2 := hB1.trans (hb2.mono hB1.size)
          have hSd := HS.out _ hB2
          have p2 := HP2.out _ hB2
          refine hK.out _ _ hSd (fun _ => ?_)
          clear hK
          refine wpAnyH_ready (rs := [1, 13]) (by kernel_rfl) (by simp) ?_
          refine AllReadyH.cons (o := _) rfl (fun K' hK => ?w3A) (AllReadyH.cons (o := _) rfl (fun K' hK => ?w3B) AllReadyH.nil)
          case w3A =>
            rw [if_pos (by rfl)]
            go_simp
            refine hK.out _ _ hSd (fun _ => ?_)
            clear hK
            refine wpAnyH_ready (rs := [13]) (by kernel_rfl) (by simp) ?_
            refine AllReadyH.cons (o := _) rfl (fun K' hK => ?_) AllReadyH.nil
            rw [if_pos (by rfl)]
            go_simp
            refine (HON.out u _ u1 u2 (by assumption)).mono ?_
            rintro e V3 ⟨rfl, hb3⟩
            have hB3 : Below W'.heap.size W' V3 := hB2.trans (hb3.mono hB2.size)
            have hSd := HS.out _ hB3
            have p2 := HP2.out _ hB3
            refine hK.out _ _ hSd (fun _ => ?_)
            clear hK
            refine wpAnyH_take (i := 14) (oi := _) (v := .agg #[.int .i64 (heightV ls r), .int .i64 (heightV ls g), .int .i64 (heightV ls u)]) rfl (by kernel_rfl) (by kernel_rfl) (by kernel_rfl) (fun _ _ _ h => h) (Or.inl ⟨by rfl, fun v hSv => by obtain ⟨t0, t1, t2⟩ := hSv; go_simp⟩) hSd ?_
            simp only [Act.put]
            refine wpAnyH_ready (rs := [15]) (by kernel_rfl) (by simp) ?_
            refine AllReadyH.cons (o := _) rfl (fun K' hK => ?_) AllReadyH.nil
            rw [if_pos (by rfl)]
            go_simp
            have hBs : Below W'.heap.size W' (V3.alloc (Obj.cells #[.int .i64 (heightV ls r), .int .i64 (heightV ls g), .int .i64 (heightV ls u)] 50)) := hB3.alloc hB3.size _
            have hSd := HS.out _ hBs
            have p2 := HP2.out _ hBs
            refine hK.out _ _ hSd (fun _ => ?_)
            clear hK
            refine wpAnyH_ready (rs := [16]) (by kernel_rfl) (by simp) ?_
            refine AllReadyH.cons (o := _) rfl (fun K' hK => ?_) AllReadyH.nil
            refine step_append_lies _ rfl _ _ 37 rfl w.heap.size 50 i0 pixZ 3 24 Try.underlying37 hi hz0 hz1 hz2 rfl (by decide) (.slice so k scap) k XS rfl ((ownsRow_below i2 hB3).alloc _) ⟨V3.heap.size, 0, none⟩ 1 1 (pixL (heightV ls r, heightV ls g, heightV ls u)) rfl rfl (World.news_of_block (al1 V3 _)) (fun u hu => by simp [pixL] at hu; rcases hu with rfl | rfl | rfl <;> rfl) Nat.one_pos HL1.out HL2.out (Nat.le_trans hbW hBs.size) _ rfl ?_
            intro gg cap w1 hown hgrow hat hltg
            obtain ⟨hSd, p2, p2f, HFIN⟩ := HTL.out V3 gg cap w1 hB3 hgrow hown
            refine hK.out _ _ hSd (fun _ => ?_)
            clear hK
            refine wpAnyH_ready (rs := [17]) (by kernel_rfl) (by simp) ?_
            refine AllReadyH.cons (o := _) rfl (fun K' hK => ?_) AllReadyH.nil
            rw [if_pos (by rfl)]
            go_simp
            refine hK.out _ _ hSd (fun _ => ?_)
            clear hK
            refine wpAnyH_ready (rs := [18]) (by kernel_rfl) (by simp) ?_
            refine AllReadyH.cons (o := _) rfl (fun K' hK => ?_) AllReadyH.nil
            rw [if_pos (by rfl)]
            go_simp
            refine hK.out _ _ HFIN.1 (fun _ => ?_)
            clear hK
            refine wpAnyH_done (by kernel_rfl) ?_ _
            obtain ⟨f0, f1, f2, f3, f4, f5⟩ := HFIN
            go_wp2
            go_roundw
            case rel => exact ⟨k + 1, by omega, by go_num, some ⟨gg, 0, none⟩, cap, f1, by rw [HST.out]; exact f2, f3, f4, f5⟩
            case measure => simp [intOf]; omega
          case w3B =>
            rw [if_pos (by rfl)]
            go_simp
            refine (HON.out u _ u1 u2 (by assumption)).mono ?_
            rintro e V3 ⟨rfl, hb3⟩
            have hB3 : Below W'.heap.size W' V3 := hB2.trans (hb3.mono hB2.size)
            have hSd := HS.out _ hB3
            have p2 := HP2.out _ hB3
            refine hK.out _ _ hSd (fun _ => ?_)
            clear hK
            refine wpAnyH_take (i := 14) (oi := _) (v := .agg #[.int .i64 (heightV ls r), .int .i64 (heightV ls g), .int .i64 (heightV ls u)]) rfl (by kernel_rfl) (by kernel_rfl) (by kernel_rfl) (fun _ _ _ h => h) (Or.inl ⟨by rfl, fun v hSv => by obtain ⟨t0, t1, t2⟩ := hSv; go_simp⟩) hSd ?_
            simp only [Act.put]
            refine wpAnyH_ready (rs := [1, 15]) (by kernel_rfl) (by simp) ?_
            refine AllReadyH.cons (o := _) rfl (fun K' hK => ?w4A) (AllReadyH.cons (o := _) rfl (fun K' hK => ?w4B) AllReadyH.nil)
            case w4A =>
              rw [if_pos (by rfl)]
              go_simp
              refine hK.out _ _ hSd (fun _ => ?_)
              clear hK
              refine wpAnyH_ready (rs := [15]) (by kernel_rfl) (by simp) ?_
              refine AllReadyH.cons (o := _) rfl (fun K' hK => ?_) AllReadyH.nil
              rw [if_pos (by rfl)]
              go_simp
              have hBs : Below W'.heap.size W' (V3.alloc (Obj.cells #[.int .i64 (heightV ls r), .int .i64 (heightV ls g), .int .i64 (heightV ls u)] 50)) := hB3.alloc hB3.size _
              have hSd := HS.out _ hBs
              have p2 := HP2.out _ hBs
              refine hK.out _ _ hSd (fun _ => ?_)
              clear hK
              refine wpAnyH_ready (rs := [16]) (by kernel_rfl) (by simp) ?_
              refine AllReadyH.cons (o := _) rfl (fun K' hK => ?_) AllReadyH.nil
              refine step_append_lies _ rfl _ _ 37 rfl w.heap.size 50 i0 pixZ 3 24 Try.underlying37 hi hz0 hz1 hz2 rfl (by decide) (.slice so k scap) k XS rfl ((ownsRow_below i2 hB3).alloc _) ⟨V3.heap.size, 0, none⟩ 1 1 (pixL (heightV ls r, heightV ls g, heightV ls u)) rfl rfl (World.news_of_block (al1 V3 _)) (fun u hu => by simp [pixL] at hu; rcases hu with rfl | rfl | rfl <;> rfl) Nat.one_pos HL1.out HL2.out (Nat.le_trans hbW hBs.size) _ rfl ?_
              intro gg cap w1 hown hgrow hat hltg
              obtain ⟨hSd, p2, p2f, HFIN⟩ := HTL.out V3 gg cap w1 hB3 hgrow hown
              refine hK.out _ _ hSd (fun _ => ?_)
              clear hK
              refine wpAnyH_ready (rs := [17]) (by kernel_rfl) (by simp) ?_
              refine AllReadyH.cons (o := _) rfl (fun K' hK => ?_) AllReadyH.nil
              rw [if_pos (by rfl)]
              go_simp
              refine hK.out _ _ hSd (fun _ => ?_)
              clear hK
              refine wpAnyH_ready (rs := [18]) (by kernel_rfl) (by simp) ?_
              refine AllReadyH.cons (o := _) rfl (fun K' hK => ?_) AllReadyH.nil
              rw [if_pos (by rfl)]
              go_simp
              refine hK.out _ _ HFIN.1 (fun _ => ?_)
              clear hK
              refine wpAnyH_done (by kernel_rfl) ?_ _
              obtain ⟨f0, f1, f2, f3, f4, f5⟩ := HFIN
              go_wp2
              go_roundw
              case rel => exact ⟨k + 1, by omega, by go_num, some ⟨gg, 0, none⟩, cap, f1, by rw [HST.out]; exact f2, f3, f4, f5⟩
              case measure => simp [intOf]; omega
            case w4B =>
              rw [if_pos (by rfl)]
              go_simp
              have hBs : Below W'.heap.size W' (V3.alloc (Obj.cells #[.int .i64 (heightV ls r), .int .i64 (heightV ls g), .int .i64 (heightV ls u)] 50)) := hB3.alloc hB3.size _
              have hSd := HS.out _ hBs
              have p2 := HP2.out _ hBs
              refine hK.out _ _ hSd (fun _ => ?_)
              clear hK
              refine wpAnyH_ready (rs := [1]) (by kernel_rfl) (by simp) ?_
              refine AllReadyH.cons (o := _) rfl (fun K' hK => ?_) AllReadyH.nil
              rw [if_pos (by rfl)]
              go_simp
              refine hK.out _ _ hSd (fun _ => ?_)
              clear hK
              refine wpAnyH_ready (rs := [16]) (by kernel_rfl) (by simp) ?_
              refine AllReadyH.cons (o := _) rfl (fun K' hK => ?_) AllReadyH.nil
              refine step_append_lies _ rfl _ _ 37 rfl w.heap.size 50 i0 pixZ 3 24 Try.underlying37 hi hz0 hz1 hz2 rfl (by decide) (.slice so k scap) k XS rfl ((ownsRow_below i2 hB3).alloc _) ⟨V3.heap.size, 0, none⟩ 1 1 (pixL (heightV ls r, heightV ls g, heightV ls u)) rfl rfl (World.news_of_block (al1 V3 _)) (fun u hu => by simp [pixL] at hu; rcases hu with rfl | rfl | rfl <;> rfl) Nat.one_pos HL1.out HL2.out (Nat.le_trans hbW hBs.size) _ rfl ?_
              intro gg cap w1 hown hgrow hat hltg
              obtain ⟨hSd, p2, p2f, HFIN⟩ := HTL.out V3 gg cap w1 hB3 hgrow hown
              refine hK.out _ _ hSd (fun _ => ?_)
              clear hK
              refine wpAnyH_ready (rs := [17]) (by kernel_rfl) (by simp) ?_
              refine AllReadyH.cons (o := _) rfl (fun K' hK => ?_) AllReadyH.nil
              rw [if_pos (by rfl)]
              go_simp
              refine hK.out _ _ hSd (fun _ => ?_)
              clear hK
              refine wpAnyH_ready (rs := [18]) (by kernel_rfl) (by simp) ?_
              refine AllReadyH.cons (o := _) rfl (fun K' hK => ?_) AllReadyH.nil
              rw [if_pos (by rfl)]
              go_simp
              refine hK.out _ _ HFIN.1 (fun _ => ?_)
              clear hK
              refine wpAnyH_done (by kernel_rfl) ?_ _
              obtain ⟨f0, f1, f2, f3, f4, f5⟩ := HFIN
              go_wp2
              go_roundw
              case rel => exact ⟨k + 1, by omega, by go_num, some ⟨gg, 0, none⟩, cap, f1, by rw [HST.out]; exact f2, f3, f4, f5⟩
              case measure => simp [intOf]; omega
    · have hd : decide ((k : Int) < (ps.length : Int)) = false := by simp; omega
      obtain rfl : k = ps.length := by omega
      rw [List.take_of_length_le (Nat.le_refl _)] at j2
      obtain ⟨p0, p1, p2⟩ := cells3 j1
      obtain ⟨z0, z1, z2⟩ := cells3 j4
      have f0 := Lib.frozen_of_heap j4 0
      have f1 := Lib.frozen_of_heap j4 1
      have f2 := Lib.frozen_of_heap j4 2
      have hfin := set3_below j5 (show w.heap.size ≤ w.heap.size + 1 by omega) (.int .i64 W) (.int .i64 H) (.slice so ps.length scap)
      have hpx : IsPix wr (.slice so ps.length scap) (ps.map (bendP ls)) := by
        have h := IsPix.own (base := w.heap.size) (ps := ps.map (bendP ls)) (v := .slice so ps.length scap) (by rw [List.length_map]; exact j2) (by rw [List.length_map]; omega)
        exact h
      have hne : (Value.slice so ps.length scap).ownBlock ≠ some (w.heap.size + 1) := fun e => own_ne j2 j4 (by decide) e.symm
      have hpx2 := hpx.other (set3_size wr (w.heap.size + 1) (.int .i64 W) (.int .i64 H) (.slice so ps.length scap)) (fun b hb => set3_heap _ _ _ _ _ b hb) hne
      have HF := hide (Fresh.own j2)
      have HX := hide hpx2
      have HFI := hide hfin
      clear hpx hpx2 hfin hne
      go_wp2
      exact bodyPost_ret (v := .agg #[.int .i64 W, .int .i64 H, .slice so ps.length scap]) (by simp [results, Try.results39, go_sem, z0, z1, z2]) rfl ⟨_, rfl, HX.out, HFI.out, HF.out⟩
end Go.Proofs.Ytolcndchfnifhab

namespace Go.Proofs.Ytolcndchfnifhab
open Go.RowKit
theorem downQ (n : Int) (h0 : -8000000000 ≤ n) (h1 : n ≤ 8000000000) (w : World) : Calls Try.prog 78 #[.int .i64 n, .int .i64 4096] w fun e w' => e = .returned (.int .i64 (n / 4096)) ∧ w = w' := by
  have hf := down_facts n 4096 (by omega)
  have hr : n / 4096 = n / 4096 := rfl
  obtain ⟨q, hq⟩ : ∃ q, n.tdiv 4096 = q := ⟨_, rfl⟩
  rw [hq] at hf
  have hqb : -2000000 ≤ q ∧ q ≤ 2000000 := by omega
  obtain ⟨hq1, hq2⟩ := hqb
  rcases hf with ⟨ht, he⟩ | ⟨ht, he⟩
  · have hd : decide (n < q * 4096) = true := by simpa using ht
    have HE := hide he
    clear ht he hr
    go_enter Try.func78, Try.ntmps78
    go_wp2
    go_ret
    exact ⟨ret_int HE.out, rfl⟩
  · have hd : decide (n < q * 4096) = false := by simpa using ht
    have HE := hide he
    clear ht he hr
    go_enter Try.func78, Try.ntmps78
    go_wp2
    go_ret
    exact ⟨ret_int HE.out, rfl⟩
end Go.Proofs.Ytolcndchfnifhab
