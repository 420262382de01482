/- The reference's Filled. -/
import Derived.Test.YtolcndchfnifhabRefColour
import Derived.Test.YtolcndchfnifhabFillMath
namespace Go.Proofs.Ytolcndchfnifhab
set_option linter.unusedVariables false
open Go.RowKit

/-- what stands, when k pixels are out. -/
def FiJ (w : World) (W H : Nat) (qv : Value) (L : List Px) (k : Nat) (wr : World) : Prop :=
  ∃ so scap, wr.heap[w.heap.size + 2]? = some (.cells #[.int .i64 W, .int .i64 H, .slice so k scap] 39 (0, 0)) ∧ wr.ownsRow w.heap.size 50 3 (.slice so k scap) k ((L.take k).flatMap pixL) ∧ wr.heap[w.heap.size]? = some (.cells #[.int .i64 W, .int .i64 H, qv] 24 (0, 0)) ∧ wr.heap[w.heap.size + 1]? = some (.cells #[.int .i64 0, .int .i64 0, .slice none 0 0] 39 (0, 0)) ∧ Below w.heap.size w wr
theorem FiJ.below {w : World} {W H : Nat} {qv : Value} {L : List Px} {k : Nat} {wr wv : World} (h : FiJ w W H qv L k wr) (hb : Below wr.heap.size wr wv) : FiJ w W H qv L k wv := by
  obtain ⟨so, scap, j1, j2, j3, j4, j5⟩ := h
  exact ⟨so, scap, (hb.block _ (Array.getElem?_eq_some_iff.1 j1).1).trans j1, ownsRow_below j2 hb, (hb.block _ (Array.getElem?_eq_some_iff.1 j3).1).trans j3, (hb.block _ (Array.getElem?_eq_some_iff.1 j4).1).trans j4, j5.trans (hb.mono j5.size)⟩
/-- the two arrays, while sums are made. -/
def FiK (wr : World) (s t : Nat → Int) (wv : World) : Prop :=
  wv.heap[wr.heap.size]? = some (.cells (tri s) 25 (0, 0)) ∧ wv.heap[wr.heap.size + 1]? = some (.cells (tri t) 25 (0, 0)) ∧ Below wr.heap.size wr wv
theorem FiK.below {wr : World} {s t : Nat → Int} {wv wx : World} (h : FiK wr s t wv) (hb : Below wv.heap.size wv wx) : FiK wr s t wx := by
  obtain ⟨k1, k2, k3⟩ := h
  exact ⟨(hb.block _ (Array.getElem?_eq_some_iff.1 k1).1).trans k1, (hb.block _ (Array.getElem?_eq_some_iff.1 k2).1).trans k2, k3.trans (hb.mono k3.size)⟩
theorem FiK.congr {wr : World} {s t s' t' : Nat → Int} {wv : World} (h : FiK wr s t wv) (hs : ∀ j, j < 3 → s j = s' j) (ht : ∀ j, j < 3 → t j = t' j) : FiK wr s' t' wv := by
  obtain ⟨k1, k2, k3⟩ := h
  exact ⟨by rw [← tri_congr s s' hs]; exact k1, by rw [← tri_congr t t' ht]; exact k2, k3⟩
theorem FiK.set {wr : World} {s t s' t' : Nat → Int} {V : World} (h : FiK wr s t V) (k : Nat) (x y : Int) (hk : k < 3) (hx : x = s' k) (hy : y = t' k) (hs : ∀ j, j < 3 → j ≠ k → s j = s' j) (ht : ∀ j, j < 3 → j ≠ k → t j = t' j) : FiK wr s' t' ((V.setCell ⟨wr.heap.size, k, none⟩ (.int .i64 x)).setCell ⟨wr.heap.size + 1, k, none⟩ (.int .i64 y)) := by
  obtain ⟨k1, k2, k3⟩ := h
  have o1 : (V.setCell ⟨wr.heap.size, k, none⟩ (.int .i64 x)).heap[wr.heap.size]? = some (.cells (tri s') 25 (0, 0)) := by
    rw [heap_setCell_same V wr.heap.size k _ _ _ k1, tri_set s s' k x hk hx hs]
  have o2 : (V.setCell ⟨wr.heap.size, k, none⟩ (.int .i64 x)).heap[wr.heap.size + 1]? = some (.cells (tri t) 25 (0, 0)) := (Below.heap_setCell _ _ _ _ (show wr.heap.size + 1 ≠ wr.heap.size by omega)).trans k2
  refine ⟨(Below.heap_setCell _ _ _ _ (show wr.heap.size ≠ wr.heap.size + 1 by omega)).trans o1, ?_, (k3.setCell (p := ⟨wr.heap.size, k, none⟩) (Nat.le_refl _) _).setCell (p := ⟨wr.heap.size + 1, k, none⟩) (Nat.le_succ _) _⟩
  rw [heap_setCell_same _ (wr.heap.size + 1) k _ _ _ o2, tri_set t t' k y hk hy ht]
/-- and the third. -/
def FiL (wr : World) (LB : Nat) (s t l : Nat → Int) (wv : World) : Prop := FiK wr s t wv ∧ wv.heap[LB]? = some (.cells (tri l) 25 (0, 0))
theorem FiL.below {wr : World} {LB : Nat} {s t l : Nat → Int} {wv wx : World} (h : FiL wr LB s t l wv) (hb : Below wv.heap.size wv wx) : FiL wr LB s t l wx :=
  ⟨h.1.below hb, (hb.block _ (Array.getElem?_eq_some_iff.1 h.2).1).trans h.2⟩
theorem FiL.set {wr : World} {LB : Nat} {s t l l' : Nat → Int} {V : World} (h : FiL wr LB s t l V) (hLB : wr.heap.size + 2 ≤ LB) (k : Nat) (x : Int) (hk : k < 3) (hx : x = l' k) (hl : ∀ j, j < 3 → j ≠ k → l j = l' j) : FiL wr LB s t l' (V.setCell ⟨LB, k, none⟩ (.int .i64 x)) := by
  obtain ⟨⟨k1, k2, k3⟩, k4⟩ := h
  refine ⟨⟨(Below.heap_setCell _ _ _ _ (show wr.heap.size ≠ LB by omega)).trans k1, (Below.heap_setCell _ _ _ _ (show wr.heap.size + 1 ≠ LB by omega)).trans k2, k3.setCell (p := ⟨LB, k, none⟩) (show wr.heap.size ≤ LB by omega) _⟩, ?_⟩
  rw [heap_setCell_same V LB k _ _ _ k4, tri_set l l' k x hk hx hl]

theorem bnd (Y H : Nat) (h : Y < H) : ∃ a0 a1 : Nat, a0 ≤ 1 ∧ 1 ≤ a1 ∧ a1 ≤ 2 ∧ (if (0 : Int) < (Y : Int) - 1 then (Y : Int) - 1 else 0) = (Y : Int) - 1 + a0 ∧ (if (Y : Int) + 1 < (H : Int) - 1 then (Y : Int) + 1 else (H : Int) - 1) = (Y : Int) - 1 + a1 ∧ (∀ a : Nat, a < a0 → (Y : Int) - 1 + a < 0) ∧ (∀ a : Nat, a1 < a → a < 3 → (H : Int) ≤ (Y : Int) - 1 + a) ∧ 0 ≤ (Y : Int) - 1 + a0 ∧ (Y : Int) - 1 + a1 < H := by
  refine ⟨if Y = 0 then 1 else 0, if Y + 1 < H then 2 else 1, ?_⟩
  split <;> split <;> (refine ⟨by omega, by omega, by omega, ?_, ?_, fun a ha => by omega, fun a ha hb => by omega, by omega, by omega⟩ <;> (split <;> omega))

set_option maxRecDepth 100000 in
set_option maxHeartbeats 16000000 in
theorem filled_any (W H p : Nat) (hW1 : 1 ≤ W) (hW : W ≤ 64) (hH1 : 1 ≤ H) (hH : H ≤ 64) (hp : p ≤ 3) (v : Value) (zs : List Int) (hlen : zs.length = H * W) (hzs : allIn 0 65535 zs = true) (w : World) (hv : IsInts w v zs) :
    Calls Try.prog 25 #[.agg #[.int .i64 W, .int .i64 H, v], .int .i64 p] w fun e w' => ∃ r, e = .returned (.agg #[.int .i64 W, .int .i64 H, r]) ∧ IsPix w' r ((List.range zs.length).map (fillP zs W H p)) ∧ Below w.heap.size w w' ∧ Fresh w.heap.size r := by
  have HZS := hide hzs
  have HV := hide hv
  have HLEN := hide hlen
  have hlb : zs.length ≤ 4096 := by rw [hlen]; exact Nat.le_trans (Nat.mul_le_mul hH hW) (by decide)
  have hLL : ((List.range zs.length).map (fillP zs W H p)).length = zs.length := by simp
  have HLG := hide (show ∀ j, j < zs.length → ((List.range zs.length).map (fillP zs W H p))[j]? = some (fillP zs W H p j) from fun j hj => by simp [hj])
  obtain ⟨L, hL⟩ : ∃ L, (List.range zs.length).map (fillP zs W H p) = L := ⟨_, rfl⟩
  rw [hL] at hLL HLG ⊢
  have HLL := hide hLL
  clear hL hLL hzs hlen
  obtain ⟨ao, ca, rfl, hla, hc⟩ := hv
  clear hc
  obtain ⟨i0, hi, hz0, hz1, hz2⟩ := info_parts Try.infoPixel
  go_enter Try.func25, Try.ntmps25
  go_wp2_with fail
  obtain ⟨a1, a2, a3⟩ := al3 w (Obj.cells #[.int .i64 W, .int .i64 H, .slice ao zs.length ca] 24) (Obj.cells #[.int .i64 0, .int .i64 0, .slice none 0 0] 39) (Obj.cells #[.int .i64 W, .int .i64 H, .slice none 0 0] 39)
  have hB := be3 w (Obj.cells #[.int .i64 W, .int .i64 H, .slice ao zs.length ca] 24) (Obj.cells #[.int .i64 0, .int .i64 0, .slice none 0 0] 39) (Obj.cells #[.int .i64 W, .int .i64 H, .slice none 0 0] 39)
  generalize ((w.alloc (Obj.cells #[.int .i64 W, .int .i64 H, .slice ao zs.length ca] 24)).alloc (Obj.cells #[.int .i64 0, .int .i64 0, .slice none 0 0] 39)).alloc (Obj.cells #[.int .i64 W, .int .i64 H, .slice none 0 0] 39) = U at *
  go_loopw [6] (fun i wr => ∃ Y : Nat, Y ≤ H ∧ i = .int .i64 Y ∧ FiJ w W H (.slice ao zs.length ca) L (Y * W) wr) (fun i _ => H - (intOf i).toNat)
  case atStart => exact ⟨0, Nat.zero_le _, rfl, none, 0, by rw [Nat.zero_mul]; exact a3, by rw [Nat.zero_mul]; exact World.ownsRow_nil _ _ _ _, a1, a2, hB⟩
  case round =>
    clear a1 a2 a3 hB
    obtain ⟨Y, hY, rfl, hJ⟩ := hrel
    have HJ := hide hJ
    obtain ⟨so, scap, j1, j2, j3, j4, j5⟩ := hJ
    obtain ⟨q0, q1, q2⟩ := cells3 j3
    by_cases hlt : Y < H
    · have hd : decide ((Y : Int) < (H : Int)) = true := by simp; omega
      obtain ⟨M, hM⟩ : ∃ M, M = Y * W := ⟨_, rfl⟩
      rw [← hM] at HJ j1 j2
      have hMM : M + W ≤ zs.length := by rw [HLEN.out, hM, ← Nat.succ_mul]; exact Nat.mul_le_mul_right _ hlt
      have HM := hide hM
      clear hM
      go_wp2_with fail
      go_loopw [7] (fun i wr => ∃ X : Nat, X ≤ W ∧ i = .int .i64 X ∧ FiJ w W H (.slice ao zs.length ca) L (M + X) wr) (fun i _ => W - (intOf i).toNat)
      case atStart => exact ⟨0, Nat.zero_le _, rfl, HJ.out⟩
      case round =>
        clear j1 j2 j3 j4 j5 q0 q1 q2 HJ hd
        obtain ⟨X, hX, rfl, hJ⟩ := hrel
        have HJ0 := hide hJ
        obtain ⟨so, scap, j1, j2, j3, j4, j5⟩ := hJ
        obtain ⟨q0, q1, q2⟩ := cells3 j3
        by_cases hlx : X < W
        · have hdx : decide ((X : Int) < (W : Int)) = true := by simp; omega
          have hk : M + X < zs.length := by omega
          obtain ⟨k, hkk⟩ : ∃ k, M + X = k := ⟨_, rfl⟩
          rw [hkk] at HJ0 hk
          have HK := hide hkk
          clear hkk
          have HB0 := hide j5
          have hlj := (Array.getElem?_eq_some_iff.1 j1).1
          generalize wr = R at *
          obtain ⟨a0, a1, ha0, ha1, ha2, hs, he, hlo, hhi, hg0, hg1⟩ := bnd Y H hlt
          obtain ⟨b0, b1, hb0, hb1, hb2, hsx, hex, hlox, hhix, hgx0, hgx1⟩ := bnd X W hlx
          have HLO := hide hlo
          have HHI := hide hhi
          have HLOX := hide hlox
          have HHIX := hide hhix
          clear hlo hhi hlox hhix
          obtain ⟨v0, hv0⟩ : ∃ v0, (Y : Int) - 1 + a0 = v0 := ⟨_, rfl⟩
          obtain ⟨vm, hvm⟩ : ∃ vm, (Y : Int) - 1 + a1 = vm := ⟨_, rfl⟩
          obtain ⟨u0, hu0⟩ : ∃ u0, (X : Int) - 1 + b0 = u0 := ⟨_, rfl⟩
          obtain ⟨um, hum⟩ : ∃ um, (X : Int) - 1 + b1 = um := ⟨_, rfl⟩
          rw [hv0] at hs hg0
          rw [hvm] at he hg1
          rw [hu0] at hsx hgx0
          rw [hum] at hex hgx1
          have hs2 : (if (1 : Int) < (Y : Int) then (Y : Int) - 1 else 0) = v0 := by rw [← hs]; split <;> split <;> omega
          have hsx2 : (if (1 : Int) < (X : Int) then (X : Int) - 1 else 0) = u0 := by rw [← hsx]; split <;> split <;> omega
          have HV0 := hide hv0
          have HVM := hide hvm
          have HU0 := hide hu0
          have HUM := hide hum
          clear hv0 hvm hu0 hum
          obtain ⟨zs0, zn0⟩ := al2 R (Obj.cells #[.int .i64 0, .int .i64 0, .int .i64 0] 25) (Obj.cells #[.int .i64 0, .int .i64 0, .int .i64 0] 25)
          have hZ := be2 R (Obj.cells #[.int .i64 0, .int .i64 0, .int .i64 0] 25) (Obj.cells #[.int .i64 0, .int .i64 0, .int .i64 0] 25)
          clear j1 j2 j3 j4 j5
          go_wp2_with fail
          generalize (R.alloc (Obj.cells #[.int .i64 0, .int .i64 0, .int .i64 0] 25)).alloc (Obj.cells #[.int .i64 0, .int .i64 0, .int .i64 0] 25) = Z0 at *
          clear q0 q1 q2 hdx
          go_loopw [10] (fun i wv => ∃ a : Nat, a0 ≤ a ∧ a ≤ a1 + 1 ∧ i = .int .i64 ((Y : Int) - 1 + a) ∧ FiK R (fun c => sumN (fS zs W H p X Y c) (3 * a)) (fun c => sumN (fN W H p X Y c) (3 * a)) wv) (fun i _ => ((Y : Int) + 2 - intOf i).toNat)
          case atStart =>
            refine ⟨a0, Nat.le_refl _, by omega, by rw [HV0.out], ?_⟩
            have h0 : ∀ c, sumN (fS zs W H p X Y c) (3 * a0) = 0 := fun c => sumN_skip _ 0 _ (Nat.zero_le _) (fun i _ hi => fS_out zs (fun h => by have := HLO.out (i / 3) (by omega); unfold fY at h; omega))
            have h1 : ∀ c, sumN (fN W H p X Y c) (3 * a0) = 0 := fun c => sumN_skip _ 0 _ (Nat.zero_le _) (fun i _ hi => fN_out (fun h => by have := HLO.out (i / 3) (by omega); unfold fY at h; omega))
            exact ⟨by rw [tri_congr _ (fun _ => 0) (fun j _ => h0 j)]; exact zs0, by rw [tri_congr _ (fun _ => 0) (fun j _ => h1 j)]; exact zn0, hZ⟩
          case round =>
            clear zs0 zn0 hZ
            obtain ⟨a, haa, hab, rfl, hK⟩ := hrel
            obtain ⟨so, scap, j1, j2, j3, j4, j5⟩ := HJ0.out.below hK.2.2
            obtain ⟨q0, q1, q2⟩ := cells3 j3
            clear j1 j2 j3 j4 j5 so scap
            obtain ⟨vv, hvv⟩ : ∃ vv : Int, (Y : Int) - 1 + a = vv := ⟨_, rfl⟩
            rw [hvv]
            by_cases hla : a ≤ a1
            · have hdv : decide (vv ≤ vm) = true := by have := HVM.out; simp; omega
              have hvn : 0 ≤ vv ∧ vv < H := by have := HV0.out; have := HVM.out; omega
              obtain ⟨VN, hVN⟩ := Int.eq_ofNat_of_zero_le hvn.1
              rw [hVN] at hdv ⊢
              go_wp2_with fail
              go_loopw [11] (fun i wv => ∃ b : Nat, b0 ≤ b ∧ b ≤ b1 + 1 ∧ i = .int .i64 ((X : Int) - 1 + b) ∧ FiK R (fun c => sumN (fS zs W H p X Y c) (3 * a + b)) (fun c => sumN (fN W H p X Y c) (3 * a + b)) wv) (fun i _ => ((X : Int) + 2 - intOf i).toNat)
              case atStart =>
                refine ⟨b0, Nat.le_refl _, by omega, by rw [HU0.out], hK.congr (fun c _ => ?_) (fun c _ => ?_)⟩
                · exact (sumN_skip _ (3 * a) _ (by omega) (fun i h1 h2 => fS_out zs (fun h => by have := HLOX.out (i % 3) (by omega); unfold fX at h; omega))).symm
                · exact (sumN_skip _ (3 * a) _ (by omega) (fun i h1 h2 => fN_out (fun h => by have := HLOX.out (i % 3) (by omega); unfold fX at h; omega))).symm
              case round =>
                clear hK q0 q1 q2
                obtain ⟨b, hba, hbb, rfl, hK⟩ := hrel
                obtain ⟨so, scap, j1, j2, j3, j4, j5⟩ := HJ0.out.below hK.2.2
                obtain ⟨q0, q1, q2⟩ := cells3 j3
                have hlq := (Array.getElem?_eq_some_iff.1 j3).1
                clear j1 j2 j4 so scap
                obtain ⟨uu, huu⟩ : ∃ uu : Int, (X : Int) - 1 + b = uu := ⟨_, rfl⟩
                rw [huu]
                by_cases hlb2 : b ≤ b1
                · have hdu : decide (uu ≤ um) = true := by have := HUM.out; simp; omega
                  have hun : 0 ≤ uu ∧ uu < W := by have := HU0.out; have := HUM.out; omega
                  obtain ⟨UN, hUN⟩ := Int.eq_ofNat_of_zero_le hun.1
                  obtain ⟨n, hn⟩ : ∃ n, 3 * a + b = n := ⟨_, rfl⟩
                  rw [hn] at hK
                  have HN := hide hn
                  have hfx : fX X n = uu := by unfold fX; rw [← hn, show (3 * a + b) % 3 = b by omega]; exact huu
                  have hfy : fY Y n = vv := by unfold fY; rw [← hn, show (3 * a + b) / 3 = a by omega]; exact hvv
                  have hUNW : UN < W := by omega
                  have hVNH : VN < H := by omega
                  have hkl : VN * W + UN < zs.length := by
                    have h1 : (VN + 1) * W ≤ H * W := Nat.mul_le_mul_right _ hVNH
                    rw [Nat.succ_mul] at h1
                    rw [HLEN.out]; omega
                  obtain ⟨K1, hK1⟩ : ∃ K1, VN * W + UN = K1 := ⟨_, rfl⟩
                  rw [hK1] at hkl
                  obtain ⟨c, hc⟩ : ∃ c, colV p UN VN = c := ⟨_, rfl⟩
                  have hc3 : c < 3 := by rw [← hc]; exact colV_lt p UN VN
                  have HOK := hide (show ∀ j, fOk W H p X Y j n ↔ c = j from fun j => by
                    unfold fOk; rw [hfx, hfy, hVN, hUN, Int.toNat_natCast, Int.toNat_natCast, hc]
                    exact ⟨fun h => h.2, fun h => ⟨by simp [hasB]; omega, h⟩⟩)
                  obtain ⟨z, hz⟩ : ∃ z, zAt zs K1 = z := ⟨_, rfl⟩
                  have hzr := zAt_ok HZS.out K1
                  rw [hz] at hzr
                  obtain ⟨hzr1, hzr2⟩ := hzr
                  have HFS := hide (show ∀ j, fS zs W H p X Y j n = if c = j then z else 0 from fun j => by
                    unfold fS; rw [hfx, hfy, hVN, hUN, Int.toNat_natCast, Int.toNat_natCast, hK1, hz]
                    by_cases h : c = j
                    · rw [if_pos ((HOK.out j).2 h), if_pos h]
                    · rw [if_neg (fun e => h ((HOK.out j).1 e)), if_neg h])
                  have HFN := hide (show ∀ j, fN W H p X Y j n = if c = j then 1 else 0 from fun j => by
                    unfold fN
                    by_cases h : c = j
                    · rw [if_pos ((HOK.out j).2 h), if_pos h]
                    · rw [if_neg (fun e => h ((HOK.out j).1 e)), if_neg h])
                  have HCO := hide (fun u => colourAt_any p UN VN hp (by omega) (by omega) u)
                  rw [hc] at HCO
                  have hvw : Below w.heap.size w wr := j5
                  have HAT := hide (fun (u : World) (hu : Below wr.heap.size wr u) => atZ_any W H UN VN K1 (.slice ao zs.length ca) zs u (HV.out.below (hvw.trans (hu.mono hvw.size)) (Nat.le_refl _)) hK1 hkl hlb)
                  rw [hz] at HAT
                  obtain ⟨sr1, sr2⟩ := sumN_range (fun m => fS_range HZS.out W H p X Y c m) n
                  obtain ⟨nr1, nr2⟩ := sumN_le1 (fun m => fN_range W H p X Y c m) n
                  obtain ⟨sm, hsm⟩ : ∃ sm, sumN (fS zs W H p X Y c) n = sm := ⟨_, rfl⟩
                  obtain ⟨nn, hnn⟩ : ∃ nn, sumN (fN W H p X Y c) n = nn := ⟨_, rfl⟩
                  have hn8 : n ≤ 8 := by omega
                  have HSET := hide (fun (V : World) (hV : Below wr.heap.size wr V) => (hK.below hV).set (s' := fun j => sumN (fS zs W H p X Y j) (n + 1)) (t' := fun j => sumN (fN W H p X Y j) (n + 1)) c (sm + z) (nn + 1) hc3 (by simp only [sumN]; rw [HFS.out, if_pos rfl, hsm]) (by simp only [sumN]; rw [HFN.out, if_pos rfl, hnn]) (fun j _ hne => by simp only [sumN]; rw [HFS.out, if_neg (Ne.symm hne), Int.add_zero]) (fun j _ hne => by simp only [sumN]; rw [HFN.out, if_neg (Ne.symm hne), Int.add_zero]))
                  rw [hsm] at sr1 sr2
                  rw [hnn] at nr1 nr2
                  have hl0 := (Array.getElem?_eq_some_iff.1 hK.1).1
                  have HF := hide (show ∀ v, Below wr.heap.size wr v → v.cell? ⟨R.heap.size, c, none⟩ = some (.int .i64 sm) ∧ v.frozen? ⟨R.heap.size, c, none⟩ = false ∧ v.cell? ⟨R.heap.size + 1, c, none⟩ = some (.int .i64 nn) ∧ v.frozen? ⟨R.heap.size + 1, c, none⟩ = false from fun v h => by
                    obtain ⟨k1, k2, _⟩ := hK.below h
                    exact ⟨by rw [Lib.cell_of_heap k1, tri_get _ c hc3, hsm], Lib.frozen_of_heap k1 c, by rw [Lib.cell_of_heap k2, tri_get _ c hc3, hnn], Lib.frozen_of_heap k2 c⟩)
                  have HS := hide (show ∀ v, Below wr.heap.size wr v → v.cell? ⟨R.heap.size, c, none⟩ = some (.int .i64 sm) ∧ v.cell? ⟨w.heap.size, 0, none⟩ = some (.int .i64 W) ∧ v.cell? ⟨w.heap.size, 1, none⟩ = some (.int .i64 H) ∧ v.cell? ⟨w.heap.size, 2, none⟩ = some (.slice ao zs.length ca) from fun v h => ⟨(HF.out v h).1, cells3 ((h.block _ hlq).trans j3)⟩)
                  have hws : IntKind.i64.wrap (sm + z) = sm + z := IntWalk.i64_in _ (by omega)
                  have hwn : IntKind.i64.wrap (nn + 1) = nn + 1 := IntWalk.i64_in _ (by omega)
                  have hcI : (c : Int) < 3 := by omega
                  rw [hUN]
                  rw [hUN] at hdu
                  have HUU := hide (show (UN : Int) = (X : Int) - 1 + b by rw [huu, hUN])
                  clear hz hK1 hc hsm hnn hfx hfy hn hVN hUN huu hvv j3 j5
                  go_wp2_with fail
                  refine (HCO.out _).mono ?_
                  rintro e wq ⟨rfl, rfl⟩
                  have hWd : Below wr.heap.size wr wr.drew := (Below.refl _ _).drew
                  clear q0 q1 q2
                  go_wp2_with fail
                  have hSd := HS.out _ hWd
                  have hmx : Try.prog.follows .mixedOrders = true := by kernel_rfl
                  refine wp_region_last (S := fun v : World => v.cell? ⟨R.heap.size, c, none⟩ = some (.int .i64 sm) ∧ v.cell? ⟨w.heap.size, 0, none⟩ = some (.int .i64 W) ∧ v.cell? ⟨w.heap.size, 1, none⟩ = some (.int .i64 H) ∧ v.cell? ⟨w.heap.size, 2, none⟩ = some (.slice ao zs.length ca)) (f := 10) hmx ?_
                  show wpAnyF _ _ _ _ _ _ 11 _ _ wr.drew
                  refine wpAnyF_takeD (i := 0) (oi := _) (v := ?vv1) (some 62) rfl rfl (by kernel_rfl) (by kernel_rfl) (by kernel_rfl) (by kernel_rfl) (by kernel_rfl) (fun _ _ _ h => h) (Or.inl ⟨by rfl, ?yy1⟩) hSd ?rr1
                  case yy1 => (intro wq hSq; obtain ⟨_, _, _, _⟩ := hSq; go_simp <;> with_reducible rfl)
                  simp only [Act.put, List.setIfInBounds_toArray, List.set_cons_succ, List.set_cons_zero]
                  refine wpAnyF_takeD (i := 1) (oi := _) (v := ?vv2) (some 63) rfl rfl (by kernel_rfl) (by kernel_rfl) (by kernel_rfl) (by kernel_rfl) (by kernel_rfl) (fun _ _ _ h => h) (Or.inl ⟨by rfl, ?yy2⟩) hSd ?rr2
                  case yy2 => (intro wq hSq; obtain ⟨_, _, _, _⟩ := hSq; go_simp <;> with_reducible rfl)
                  simp only [Act.put, List.setIfInBounds_toArray, List.set_cons_succ, List.set_cons_zero]
                  refine wpAnyF_takeD (i := 4) (oi := _) (v := ?vv3) (some 66) rfl rfl (by kernel_rfl) (by kernel_rfl) (by kernel_rfl) (by kernel_rfl) (by kernel_rfl) (fun _ _ _ h => h) (Or.inl ⟨by rfl, ?yy3⟩) hSd ?rr3
                  case yy3 => (intro wq hSq; obtain ⟨_, _, _, _⟩ := hSq; go_simp <;> with_reducible rfl)
                  simp only [Act.put, List.setIfInBounds_toArray, List.set_cons_succ, List.set_cons_zero]
                  refine wpAnyF_takeD (i := 5) (oi := _) (v := ?vv4) (some 67) rfl rfl (by kernel_rfl) (by kernel_rfl) (by kernel_rfl) (by kernel_rfl) (by kernel_rfl) (fun _ _ _ h => h) (Or.inl ⟨by rfl, ?yy4⟩) hSd ?rr4
                  case yy4 => (intro wq hSq; obtain ⟨_, _, _, _⟩ := hSq; go_simp <;> with_reducible rfl)
                  simp only [Act.put, List.setIfInBounds_toArray, List.set_cons_succ, List.set_cons_zero]
                  refine wpAnyF_takeD (i := 6) (oi := _) (v := ?vv5) (some 68) rfl rfl (by kernel_rfl) (by kernel_rfl) (by kernel_rfl) (by kernel_rfl) (by kernel_rfl) (fun _ _ _ h => h) (Or.inl ⟨by rfl, ?yy5⟩) hSd ?rr5
                  case yy5 => (intro wq hSq; obtain ⟨_, _, _, _⟩ := hSq; go_simp <;> with_reducible rfl)
                  simp only [Act.put, List.setIfInBounds_toArray, List.set_cons_succ, List.set_cons_zero]
                  refine wpAnyF_takeD (i := 2) (oi := _) (v := ?vv6) (some 64) rfl rfl (by kernel_rfl) (by kernel_rfl) (by kernel_rfl) (by kernel_rfl) (by kernel_rfl) (fun _ _ _ h => h) (Or.inl ⟨by rfl, ?yy6⟩) hSd ?rr6
                  case yy6 => (intro wq hSq; obtain ⟨_, _, _, _⟩ := hSq; go_simp <;> with_reducible rfl)
                  simp only [Act.put, List.setIfInBounds_toArray, List.set_cons_succ, List.set_cons_zero]
                  refine wpAnyF_takeD (i := 3) (oi := _) (v := ?vv7) (some 65) rfl rfl (by kernel_rfl) (by kernel_rfl) (by kernel_rfl) (by kernel_rfl) (by kernel_rfl) (fun _ _ _ h => h) (Or.inl ⟨by rfl, ?yy7⟩) hSd ?rr7
                  case yy7 => (intro wq hSq; obtain ⟨_, _, _, _⟩ := hSq; go_simp <;> with_reducible rfl)
                  simp only [Act.put, List.setIfInBounds_toArray, List.set_cons_succ, List.set_cons_zero]
                  refine wpAnyF_one (i := 7) (o := _) (by kernel_rfl) rfl (fun K' hK => ?_)
                  rw [if_pos (by rfl)]
                  go_simp
                  refine (HAT.out _ hWd).mono ?_
                  rintro e V1 ⟨rfl, hbv⟩
                  have hB1 : Below wr.heap.size wr V1 := hWd.trans (hbv.mono hWd.size)
                  have hSd := HS.out _ hB1
                  refine hK.out _ _ hSd ?_
                  clear hK
                  try simp only [Act.put]
                  refine wpAnyF_takeD (i := 8) (oi := _) (v := ?vv8) (some 70) rfl rfl (by kernel_rfl) (by kernel_rfl) (by kernel_rfl) (by kernel_rfl) (by kernel_rfl) (fun _ _ _ h => h) (Or.inl ⟨by rfl, ?yy8⟩) hSd ?rr8
                  case yy8 => (intro wq hSq; obtain ⟨_, _, _, _⟩ := hSq; go_simp <;> with_reducible rfl)
                  simp only [Act.put, List.setIfInBounds_toArray, List.set_cons_succ, List.set_cons_zero]
                  refine wpAnyF_takeD (i := 9) (oi := _) (v := ?vv9) (some 71) rfl rfl (by kernel_rfl) (by kernel_rfl) (by kernel_rfl) (by kernel_rfl) (by kernel_rfl) (fun _ _ _ h => h) (Or.inl ⟨by rfl, ?yy9⟩) hSd ?rr9
                  case yy9 => (intro wq hSq; obtain ⟨_, _, _, _⟩ := hSq; go_simp <;> with_reducible rfl)
                  simp only [Act.put, List.setIfInBounds_toArray, List.set_cons_succ, List.set_cons_zero]
                  refine wpAnyF_last (o := _) (by kernel_rfl) rfl (fun K' hK => ?_)
                  obtain ⟨f1, f2, f3, f4⟩ := HF.out _ hB1
                  rw [if_pos (by rfl)]
                  go_simp
                  refine hK.out _ _ ?_
                  clear hK
                  refine wpAnyF_done (by kernel_rfl) ?_ _
                  try simp only [Act.put]
                  have g3 : (V1.setCell ⟨R.heap.size, c, none⟩ (.int .i64 (sm + z))).cell? ⟨R.heap.size + 1, c, none⟩ = some (.int .i64 nn) := (World.cell?_setCell_far _ _ _ _ (by show R.heap.size ≠ R.heap.size + 1; omega)).trans f3
                  have HST := hide (HSET.out _ hB1)
                  clear f1 f2 f3 hSd
                  go_wp2
                  go_roundw
                  case rel => exact ⟨b + 1, by omega, by omega, congrArg (Value.int .i64) (by have := HUU.out; omega), by rw [show 3 * a + (b + 1) = n + 1 by have := HN.out; omega]; exact HST.out⟩
                  case measure => have := HUU.out; simp [intOf]; omega
                · have hdu : decide (uu ≤ um) = false := by have := HUM.out; simp; omega
                  have hb3 : b = b1 + 1 := by omega
                  have HK1 := hide (show FiK R (fun c => sumN (fS zs W H p X Y c) (3 * (a + 1))) (fun c => sumN (fN W H p X Y c) (3 * (a + 1))) wr from hK.congr
                    (fun c _ => (sumN_skip _ (3 * a + b) _ (by omega) (fun i h1 h2 => fS_out zs (fun h => by have := HHIX.out (i % 3) (by omega) (by omega); unfold fX at h; omega))).symm)
                    (fun c _ => (sumN_skip _ (3 * a + b) _ (by omega) (fun i h1 h2 => fN_out (fun h => by have := HHIX.out (i % 3) (by omega) (by omega); unfold fX at h; omega))).symm))
                  clear hK j3 j5
                  go_wp2
                  go_roundw
                  case rel => exact ⟨a + 1, by omega, by omega, congrArg (Value.int .i64) (by omega), HK1.out⟩
                  case measure => simp [intOf]; omega
            · have hdv : decide (vv ≤ vm) = false := by have := HVM.out; simp; omega
              have ha3 : a = a1 + 1 := by omega
              have HK9 := hide (show FiK R (fun c => sumN (fS zs W H p X Y c) (9)) (fun c => sumN (fN W H p X Y c) (9)) wr from hK.congr
                (fun c _ => (sumN_skip _ (3 * a) 9 (by omega) (fun i h1 h2 => fS_out zs (fun h => by have := HHI.out (i / 3) (by omega) (by omega); unfold fY at h; omega))).symm)
                (fun c _ => (sumN_skip _ (3 * a) 9 (by omega) (fun i h1 h2 => fN_out (fun h => by have := HHI.out (i / 3) (by omega) (by omega); unfold fY at h; omega))).symm))
              have hs9 := (Array.getElem?_eq_some_iff.1 HK9.out.2.1).1
              have zl := al1 wr (Obj.cells #[.int .i64 0, .int .i64 0, .int .i64 0] 25)
              have HKL := hide (HK9.out.below (bel_alloc wr (Obj.cells #[.int .i64 0, .int .i64 0, .int .i64 0] 25)))
              clear hK
              go_wp2_with fail
              have hLB : R.heap.size + 2 ≤ wr.heap.size := by omega
              generalize wr.alloc (Obj.cells #[.int .i64 0, .int .i64 0, .int .i64 0] 25) = Z9 at *
              generalize wr.heap.size = LB at *
              clear q0 q1 q2 HK9 hs9 hdv
              go_loopw [14] (fun i wl => ∃ kk : Nat, kk ≤ 3 ∧ i = .int .i64 kk ∧ FiL R LB (fun c => sumN (fS zs W H p X Y c) 9) (fun c => sumN (fN W H p X Y c) 9) (fun c => if c < kk then fQ zs W H p X Y c else 0) wl) (fun i _ => 3 - (intOf i).toNat)
              case atStart => exact ⟨0, by omega, rfl, HKL.out, zl⟩
              case round =>
                obtain ⟨kk, hkk, rfl, hK⟩ := hrel
                clear zl HKL
                by_cases hlk3 : kk < 3
                · have hdk : decide ((kk : Int) < 3) = true := by simp; omega
                  have hcs : wr.cell? ⟨R.heap.size, kk, none⟩ = some (.int .i64 (sumN (fS zs W H p X Y kk) 9)) := by rw [Lib.cell_of_heap hK.1.1, tri_get _ kk hlk3]
                  have hcn : wr.cell? ⟨R.heap.size + 1, kk, none⟩ = some (.int .i64 (sumN (fN W H p X Y kk) 9)) := by rw [Lib.cell_of_heap hK.1.2.1, tri_get _ kk hlk3]
                  have hcl : wr.cell? ⟨LB, kk, none⟩ = some (.int .i64 0) := by rw [Lib.cell_of_heap hK.2, tri_get _ kk hlk3, if_neg (Nat.lt_irrefl _)]
                  have hcf : wr.frozen? ⟨LB, kk, none⟩ = false := Lib.frozen_of_heap hK.2 kk
                  have HQ := hide (show fQ zs W H p X Y kk = sumN (fS zs W H p X Y kk) 9 / max (sumN (fN W H p X Y kk) 9) 1 from rfl)
                  obtain ⟨s1, s2⟩ := sumN_range (fun m => fS_range HZS.out W H p X Y kk m) 9
                  obtain ⟨n1, n2⟩ := sumN_le1 (fun m => fN_range W H p X Y kk m) 9
                  obtain ⟨sm, hsm⟩ : ∃ sm, sumN (fS zs W H p X Y kk) 9 = sm := ⟨_, rfl⟩
                  obtain ⟨nn, hnn⟩ : ∃ nn, sumN (fN W H p X Y kk) 9 = nn := ⟨_, rfl⟩
                  rw [hsm] at hcs HQ s1 s2
                  rw [hnn] at hcn HQ n1 n2
                  obtain ⟨mm, hmm⟩ : ∃ mm, (if nn < 1 then 1 else nn) = mm := ⟨_, rfl⟩
                  have hmx : max nn 1 = mm := by rw [← hmm]; split <;> omega
                  rw [hmx] at HQ
                  have hm1 : 1 ≤ mm := by omega
                  have hm0 : ¬ (mm = 0) := by omega
                  have hmz : (mm == 0) = false := by rw [beq_eq_false_iff_ne]; omega
                  have hq := Int.tdiv_eq_ediv_of_nonneg (b := mm) s1
                  have hq0 : 0 ≤ sm.tdiv mm := by rw [hq]; exact Int.ediv_nonneg s1 (by omega)
                  have hq1 : sm.tdiv mm ≤ sm := by rw [hq]; exact Int.ediv_le_self _ s1
                  rw [← hq] at HQ
                  obtain ⟨q, hqq⟩ : ∃ q, sm.tdiv mm = q := ⟨_, rfl⟩
                  rw [hqq] at HQ hq0 hq1
                  have hwq : IntKind.i64.wrap q = q := IntWalk.i64_in _ (by omega)
                  have HSET := hide (FiL.below (hK.set (V := wr) (l' := fun j => if j < kk + 1 then fQ zs W H p X Y j else 0) hLB kk q hlk3 (by rw [if_pos (Nat.lt_succ_self kk), HQ.out]) (fun j _ hne => by
                    show (if j < kk then fQ zs W H p X Y j else 0) = (if j < kk + 1 then fQ zs W H p X Y j else 0)
                    by_cases h : j < kk
                    · rw [if_pos h, if_pos (by omega)]
                    · rw [if_neg h, if_neg (by omega)])) ((Below.refl _ _).drew))
                  have hlkI : (kk : Int) < 3 := by omega
                  clear hK hq hmx hsm hnn
                  have hSd : wr.drew.cell? ⟨R.heap.size, kk, none⟩ = some (.int .i64 sm) ∧ wr.drew.cell? ⟨R.heap.size + 1, kk, none⟩ = some (.int .i64 nn) := ⟨hcs, hcn⟩
                  go_wp2_with fail
                  have hmx : Try.prog.follows .mixedOrders = true := by kernel_rfl
                  refine wp_region_last (S := fun v : World => v.cell? ⟨R.heap.size, kk, none⟩ = some (.int .i64 sm) ∧ v.cell? ⟨R.heap.size + 1, kk, none⟩ = some (.int .i64 nn)) (f := 10) hmx ?_
                  show wpAnyF _ _ _ _ _ _ 11 _ _ wr.drew
                  refine wpAnyF_takeD (i := 0) (oi := _) (v := ?vv10) (some 81) rfl rfl (by kernel_rfl) (by kernel_rfl) (by kernel_rfl) (by kernel_rfl) (by kernel_rfl) (fun _ _ _ h => h) (Or.inl ⟨by rfl, ?yy10⟩) hSd ?rr10
                  case yy10 => (intro wq hSq; obtain ⟨_, _⟩ := hSq; go_simp <;> with_reducible rfl)
                  simp only [Act.put, List.setIfInBounds_toArray, List.set_cons_succ, List.set_cons_zero]
                  refine wpAnyF_takeD (i := 1) (oi := _) (v := ?vv11) (some 82) rfl rfl (by kernel_rfl) (by kernel_rfl) (by kernel_rfl) (by kernel_rfl) (by kernel_rfl) (fun _ _ _ h => h) (Or.inl ⟨by rfl, ?yy11⟩) hSd ?rr11
                  case yy11 => (intro wq hSq; obtain ⟨_, _⟩ := hSq; go_simp <;> with_reducible rfl)
                  simp only [Act.put, List.setIfInBounds_toArray, List.set_cons_succ, List.set_cons_zero]
                  refine wpAnyF_takeD (i := 4) (oi := _) (v := ?vv12) (some 85) rfl rfl (by kernel_rfl) (by kernel_rfl) (by kernel_rfl) (by kernel_rfl) (by kernel_rfl) (fun _ _ _ h => h) (Or.inl ⟨by rfl, ?yy12⟩) hSd ?rr12
                  case yy12 => (intro wq hSq; obtain ⟨_, _⟩ := hSq; go_simp <;> with_reducible rfl)
                  simp only [Act.put, List.setIfInBounds_toArray, List.set_cons_succ, List.set_cons_zero]
                  refine wpAnyF_takeD (i := 2) (oi := _) (v := ?vv13) (some 83) rfl rfl (by kernel_rfl) (by kernel_rfl) (by kernel_rfl) (by kernel_rfl) (by kernel_rfl) (fun _ _ _ h => h) (Or.inl ⟨by rfl, ?yy13⟩) hSd ?rr13
                  case yy13 => (intro wq hSq; obtain ⟨_, _⟩ := hSq; go_simp <;> with_reducible rfl)
                  simp only [Act.put, List.setIfInBounds_toArray, List.set_cons_succ, List.set_cons_zero]
                  refine wpAnyF_takeD (i := 5) (oi := _) (v := ?vv14) (some 86) rfl rfl (by kernel_rfl) (by kernel_rfl) (by kernel_rfl) (by kernel_rfl) (by kernel_rfl) (fun _ _ _ h => h) (Or.inl ⟨by rfl, ?yy14⟩) hSd ?rr14
                  case yy14 => (intro wq hSq; obtain ⟨_, _⟩ := hSq; go_simp <;> with_reducible rfl)
                  simp only [Act.put, List.setIfInBounds_toArray, List.set_cons_succ, List.set_cons_zero]
                  refine wpAnyF_takeD (i := 3) (oi := _) (v := ?vv15) (some 84) rfl rfl (by kernel_rfl) (by kernel_rfl) (by kernel_rfl) (by kernel_rfl) (by kernel_rfl) (fun _ _ _ h => h) (Or.inl ⟨by rfl, ?yy15⟩) hSd ?rr15
                  case yy15 => (intro wq hSq; obtain ⟨_, _⟩ := hSq; go_simp <;> with_reducible rfl)
                  simp only [Act.put, List.setIfInBounds_toArray, List.set_cons_succ, List.set_cons_zero]
                  refine wpAnyF_takeD (i := 6) (oi := _) (v := ?vv16) (some 87) rfl rfl (by kernel_rfl) (by kernel_rfl) (by kernel_rfl) (by kernel_rfl) (by kernel_rfl) (fun _ _ _ h => h) (Or.inl ⟨by rfl, ?yy16⟩) hSd ?rr16
                  case yy16 => (intro wq hSq; obtain ⟨_, _⟩ := hSq; go_simp <;> with_reducible rfl)
                  simp only [Act.put, List.setIfInBounds_toArray, List.set_cons_succ, List.set_cons_zero]
                  refine wpAnyF_takeD (i := 7) (oi := _) (v := ?vv17) (some 88) rfl rfl (by kernel_rfl) (by kernel_rfl) (by kernel_rfl) (by kernel_rfl) (by kernel_rfl) (fun _ _ _ h => h) (Or.inl ⟨by rfl, ?yy17⟩) hSd ?rr17
                  case yy17 => (intro wq hSq; obtain ⟨_, _⟩ := hSq; go_simp <;> with_reducible rfl)
                  simp only [Act.put, List.setIfInBounds_toArray, List.set_cons_succ, List.set_cons_zero]
                  refine wpAnyF_takeD (i := 8) (oi := _) (v := ?vv18) (some 89) rfl rfl (by kernel_rfl) (by kernel_rfl) (by kernel_rfl) (by kernel_rfl) (by kernel_rfl) (fun _ _ _ h => h) (Or.inl ⟨by rfl, ?yy18⟩) hSd ?rr18
                  case yy18 => (intro wq hSq; obtain ⟨_, _⟩ := hSq; go_simp <;> with_reducible rfl)
                  simp only [Act.put, List.setIfInBounds_toArray, List.set_cons_succ, List.set_cons_zero]
                  refine wpAnyF_takeD (i := 9) (oi := _) (v := ?vv19) (some 90) rfl rfl (by kernel_rfl) (by kernel_rfl) (by kernel_rfl) (by kernel_rfl) (by kernel_rfl) (fun _ _ _ h => h) (Or.inl ⟨by rfl, ?yy19⟩) hSd ?rr19
                  case yy19 => (intro wq hSq; obtain ⟨_, _⟩ := hSq; go_simp <;> with_reducible rfl)
                  simp only [Act.put, List.setIfInBounds_toArray, List.set_cons_succ, List.set_cons_zero]
                  refine wpAnyF_last (o := _) (by kernel_rfl) rfl (fun K' hK => ?_)
                  rw [if_pos (by rfl)]
                  go_simp
                  refine hK.out _ _ ?_
                  clear hK
                  refine wpAnyF_done (by kernel_rfl) ?_ _
                  try simp only [Act.put]
                  go_wp2
                  go_roundw
                  case rel => exact ⟨kk + 1, by omega, by go_num, HSET.out⟩
                  case measure => simp [intOf]; omega
                · have hdk : decide ((kk : Int) < 3) = false := by simp; omega
                  have h3 : kk = 3 := by omega
                  subst h3
                  -- the own colour
                  have hown3 := colV_lt p X Y
                  obtain ⟨ow, how⟩ : ∃ c, colV p X Y = c := ⟨_, rfl⟩
                  rw [how] at hown3
                  have HCO := hide (fun u => colourAt_any p X Y hp (by omega) (by omega) u)
                  rw [how] at HCO
                  have hkY : Y * W + X = k := by rw [← HM.out]; exact HK.out
                  obtain ⟨so, scap, j1, j2, j3, j4, j5⟩ := HJ0.out.below hK.1.2.2
                  have hlq := (Array.getElem?_eq_some_iff.1 j3).1
                  have hvw : Below w.heap.size w wr := j5
                  have HAT := hide (fun (u : World) (hu : Below wr.heap.size wr u) => atZ_any W H X Y k (.slice ao zs.length ca) zs u (HV.out.below (hvw.trans (hu.mono hvw.size)) (Nat.le_refl _)) hkY hk hlb)
                  obtain ⟨z, hz⟩ : ∃ z, zAt zs k = z := ⟨_, rfl⟩
                  rw [hz] at HAT
                  obtain ⟨l1, hl1⟩ : ∃ l1 : Nat → Int, l1 = fun j => partV zs W H p X Y j := ⟨_, rfl⟩
                  have HSET := hide (fun (V : World) (hV : Below wr.heap.size wr V) => (hK.below hV).set (l' := l1) hLB ow z hown3 (by rw [hl1]; show z = partV zs W H p X Y ow; rw [part_f, if_pos how.symm, hkY, hz]) (fun j hj hne => by
                    rw [if_pos hj, hl1]; show _ = partV zs W H p X Y j; rw [part_f, if_neg (fun e => hne (by rw [e, how]))]))
                  have HFP := hide (show fillP zs W H p k = (l1 0, l1 1, l1 2) by
                    have hm : (Y * W + X) % W = X ∧ (Y * W + X) / W = Y := place_of hlx
                    rw [hl1, fillP, ← hkY, hm.1, hm.2])
                  have HF := hide (show ∀ v, Below wr.heap.size wr v → (∃ x, v.cell? ⟨LB, ow, none⟩ = some (.int .i64 x)) ∧ v.frozen? ⟨LB, ow, none⟩ = false from fun v h => by
                    have h2 := (hK.below h).2
                    exact ⟨⟨_, by rw [Lib.cell_of_heap h2, tri_get _ ow hown3]⟩, Lib.frozen_of_heap h2 ow⟩)
                  have HS := hide (show ∀ v, Below wr.heap.size wr v → v.cell? ⟨w.heap.size, 0, none⟩ = some (.int .i64 W) ∧ v.cell? ⟨w.heap.size, 1, none⟩ = some (.int .i64 H) ∧ v.cell? ⟨w.heap.size, 2, none⟩ = some (.slice ao zs.length ca) from fun v h => cells3 ((h.block _ hlq).trans j3))
                  have howI : (ow : Int) < 3 := by omega
                  have hWd : Below wr.heap.size wr wr.drew := (Below.refl _ _).drew
                  clear j1 j2 j3 j4 j5 so scap hz hl1 how
                  go_wp2_with fail
                  have hSd := HS.out _ hWd
                  have hmx : Try.prog.follows .mixedOrders = true := by kernel_rfl
                  refine wp_region_last (S := fun v : World => v.cell? ⟨w.heap.size, 0, none⟩ = some (.int .i64 W) ∧ v.cell? ⟨w.heap.size, 1, none⟩ = some (.int .i64 H) ∧ v.cell? ⟨w.heap.size, 2, none⟩ = some (.slice ao zs.length ca)) (f := 9) hmx ?_
                  show wpAnyF _ _ _ _ _ _ 10 _ _ wr.drew
                  refine wpAnyF_takeD (i := 0) (oi := _) (v := ?vv20) (some 91) rfl rfl (by kernel_rfl) (by kernel_rfl) (by kernel_rfl) (by kernel_rfl) (by kernel_rfl) (fun _ _ _ h => h) (Or.inl ⟨by rfl, ?yy20⟩) hSd ?rr20
                  case yy20 => (intro wq hSq; obtain ⟨_, _, _⟩ := hSq; go_simp <;> with_reducible rfl)
                  simp only [Act.put, List.setIfInBounds_toArray, List.set_cons_succ, List.set_cons_zero]
                  refine wpAnyF_takeD (i := 1) (oi := _) (v := ?vv21) (some 92) rfl rfl (by kernel_rfl) (by kernel_rfl) (by kernel_rfl) (by kernel_rfl) (by kernel_rfl) (fun _ _ _ h => h) (Or.inl ⟨by rfl, ?yy21⟩) hSd ?rr21
                  case yy21 => (intro wq hSq; obtain ⟨_, _, _⟩ := hSq; go_simp <;> with_reducible rfl)
                  simp only [Act.put, List.setIfInBounds_toArray, List.set_cons_succ, List.set_cons_zero]
                  refine wpAnyF_takeD (i := 2) (oi := _) (v := ?vv22) (some 93) rfl rfl (by kernel_rfl) (by kernel_rfl) (by kernel_rfl) (by kernel_rfl) (by kernel_rfl) (fun _ _ _ h => h) (Or.inl ⟨by rfl, ?yy22⟩) hSd ?rr22
                  case yy22 => (intro wq hSq; obtain ⟨_, _, _⟩ := hSq; go_simp <;> with_reducible rfl)
                  simp only [Act.put, List.setIfInBounds_toArray, List.set_cons_succ, List.set_cons_zero]
                  refine wpAnyF_takeD (i := 4) (oi := _) (v := ?vv23) (some 95) rfl rfl (by kernel_rfl) (by kernel_rfl) (by kernel_rfl) (by kernel_rfl) (by kernel_rfl) (fun _ _ _ h => h) (Or.inl ⟨by rfl, ?yy23⟩) hSd ?rr23
                  case yy23 => (intro wq hSq; obtain ⟨_, _, _⟩ := hSq; go_simp <;> with_reducible rfl)
                  simp only [Act.put, List.setIfInBounds_toArray, List.set_cons_succ, List.set_cons_zero]
                  refine wpAnyF_takeD (i := 5) (oi := _) (v := ?vv24) (some 96) rfl rfl (by kernel_rfl) (by kernel_rfl) (by kernel_rfl) (by kernel_rfl) (by kernel_rfl) (fun _ _ _ h => h) (Or.inl ⟨by rfl, ?yy24⟩) hSd ?rr24
                  case yy24 => (intro wq hSq; obtain ⟨_, _, _⟩ := hSq; go_simp <;> with_reducible rfl)
                  simp only [Act.put, List.setIfInBounds_toArray, List.set_cons_succ, List.set_cons_zero]
                  refine wpAnyF_takeD (i := 6) (oi := _) (v := ?vv25) (some 97) rfl rfl (by kernel_rfl) (by kernel_rfl) (by kernel_rfl) (by kernel_rfl) (by kernel_rfl) (fun _ _ _ h => h) (Or.inl ⟨by rfl, ?yy25⟩) hSd ?rr25
                  case yy25 => (intro wq hSq; obtain ⟨_, _, _⟩ := hSq; go_simp <;> with_reducible rfl)
                  simp only [Act.put, List.setIfInBounds_toArray, List.set_cons_succ, List.set_cons_zero]
                  refine wpAnyF_one (i := 3) (o := _) (by kernel_rfl) rfl (fun K' hK => ?_)
                  rw [if_pos (by rfl)]
                  go_simp
                  refine (HCO.out _).mono ?_
                  rintro e wq ⟨rfl, rfl⟩
                  have hSd := hSd
                  refine hK.out _ _ hSd ?_
                  clear hK
                  try simp only [Act.put]
                  refine wpAnyF_one (i := 7) (o := _) (by kernel_rfl) rfl (fun K' hK => ?_)
                  rw [if_pos (by rfl)]
                  go_simp
                  refine (HAT.out _ hWd).mono ?_
                  rintro e V1 ⟨rfl, hbv⟩
                  have hB1 : Below wr.heap.size wr V1 := hWd.trans (hbv.mono hWd.size)
                  have hSd := HS.out _ hB1
                  refine hK.out _ _ hSd ?_
                  clear hK
                  try simp only [Act.put]
                  refine wpAnyF_takeD (i := 8) (oi := _) (v := ?vv26) (some 99) rfl rfl (by kernel_rfl) (by kernel_rfl) (by kernel_rfl) (by kernel_rfl) (by kernel_rfl) (fun _ _ _ h => h) (Or.inl ⟨by rfl, ?yy26⟩) hSd ?rr26
                  case yy26 => (intro wq hSq; obtain ⟨_, _, _⟩ := hSq; go_simp <;> with_reducible rfl)
                  simp only [Act.put, List.setIfInBounds_toArray, List.set_cons_succ, List.set_cons_zero]
                  refine wpAnyF_last (o := _) (by kernel_rfl) rfl (fun K' hK => ?_)
                  obtain ⟨⟨x0, f1⟩, f2⟩ := HF.out _ hB1
                  rw [if_pos (by rfl)]
                  go_simp
                  refine hK.out _ _ ?_
                  clear hK
                  refine wpAnyF_done (by kernel_rfl) ?_ _
                  try simp only [Act.put]
                  have hK2 := HSET.out _ hB1
                  clear hSd f1 f2 HSET HAT HCO HS HF
                  have iT : (V1.setCell ⟨LB, ow, none⟩ (.int .i64 z)).heap[LB]? = some (.cells #[.int .i64 (l1 0), .int .i64 (l1 1), .int .i64 (l1 2)] 25 (0, 0)) := hK2.2
                  obtain ⟨so, scap, j1, j2, j3, j4, j5⟩ := HJ0.out.below hK2.1.2.2
                  generalize V1.setCell ⟨LB, ow, none⟩ (.int .i64 z) = E at *
                  generalize l1 0 = x at *
                  generalize l1 1 = y at *
                  generalize l1 2 = t at *
                  have HST := hide (show (L.take (k + 1)).flatMap pixL = (L.take k).flatMap pixL ++ pixL (x, y, t) by
                    have hk2 : k < L.length := by rw [HLL.out]; exact hk
                    have hg := HLG.out k hk
                    rw [List.getElem?_eq_getElem hk2] at hg
                    rw [List.take_succ_eq_append_getElem hk2, Option.some.inj hg, List.flatMap_append, HFP.out]; simp)
                  obtain ⟨XS, hXS⟩ : ∃ XS, (L.take k).flatMap pixL = XS := ⟨_, rfl⟩
                  rw [hXS] at j2 HST
                  have hbW := j5.size
                  have hlT := (Array.getElem?_eq_some_iff.1 iT).1
                  have nT := own_ne j2 iT (by decide)
                  have HL1 := hide (show k + 1 ≤ maxLen by unfold maxLen; omega)
                  have HL2 := hide (show (k + 1) * 24 ≤ 140737488355328 by omega)
                  have HS := hide (show ∀ v, Below E.heap.size E v → v.cell? ⟨LB, 0, none⟩ = some (.int .i64 x) ∧ v.cell? ⟨LB, 1, none⟩ = some (.int .i64 y) ∧ v.cell? ⟨LB, 2, none⟩ = some (.int .i64 t) ∧ v.cell? ⟨w.heap.size + 1 + 1, 2, none⟩ = some (.slice so k scap) from fun v h => by
                    obtain ⟨t0, t1, t2⟩ := cells3 ((h.block _ hlT).trans iT)
                    obtain ⟨_, _, t3⟩ := cells3 ((h.block (w.heap.size + 2) (Array.getElem?_eq_some_iff.1 j1).1).trans j1)
                    exact ⟨t0, t1, t2, t3⟩)
                  have HTL := hide (show ∀ (V2 : World) (gg cap : Nat) (w3 : World), Below E.heap.size E V2 → V2.grownBy w3 (Value.slice so k scap).ownBlock → w3.ownsRow w.heap.size 50 3 (.slice (some ⟨gg, 0, none⟩) (k + 1) cap) (k + 1) (XS ++ pixL (x, y, t)) → (w3.cell? ⟨LB, 0, none⟩ = some (.int .i64 x) ∧ w3.cell? ⟨LB, 1, none⟩ = some (.int .i64 y) ∧ w3.cell? ⟨LB, 2, none⟩ = some (.int .i64 t) ∧ w3.cell? ⟨w.heap.size + 1 + 1, 2, none⟩ = some (.slice so k scap)) ∧ w3.frozen? ⟨w.heap.size + 1 + 1, 2, none⟩ = false ∧ FiJ w W H (.slice ao zs.length ca) L (k + 1) (w3.setCell ⟨w.heap.size + 1 + 1, 2, none⟩ (.slice (some ⟨gg, 0, none⟩) (k + 1) cap)) from fun V2 gg cap w3 h1 h2 h3 => by
                    obtain ⟨t1, t2, t3, t4, t5, t6, t7⟩ := app_gen (by decide) j1 j2 j5 (Nat.le_refl _) (by omega) h1 h2 h3
                    obtain ⟨y0, y1, y2⟩ := cells3 ((t1 _ hlT nT).trans iT)
                    exact ⟨⟨y0, y1, y2, t2⟩, t3, some ⟨gg, 0, none⟩, cap, t4, by rw [HST.out]; exact t5, (t7 _ (Array.getElem?_eq_some_iff.1 j3).1 (own_ne j2 j3 (by decide)) (by omega)).trans j3, (t7 _ (Array.getElem?_eq_some_iff.1 j4).1 (own_ne j2 j4 (by decide)) (by omega)).trans j4, t6⟩)
                  have HON := hide (show ∀ v : World, Calls Try.prog 72 #[.agg #[.int .i64 x, .int .i64 y, .int .i64 t]] v fun e v' => e = .returned (.agg #[.int .i64 x, .int .i64 y, .int .i64 t]) ∧ Below v.heap.size v v' from fun v => pixel_any (x, y, t) v)
                  have hWe : Below E.heap.size E E.drew := (Below.refl _ _).drew
                  clear iT j1 j3 j4 hXS hK2
                  go_wp2_with fail
                  have hSd := HS.out _ hWe
                  have hmx : Try.prog.follows .mixedOrders = true := by kernel_rfl
                  refine wp_region_last (S := fun v : World => v.cell? ⟨LB, 0, none⟩ = some (.int .i64 x) ∧ v.cell? ⟨LB, 1, none⟩ = some (.int .i64 y) ∧ v.cell? ⟨LB, 2, none⟩ = some (.int .i64 t) ∧ v.cell? ⟨w.heap.size + 1 + 1, 2, none⟩ = some (.slice so k scap)) (f := 7) hmx ?_
                  show wpAnyF _ _ _ _ _ _ 8 _ _ E.drew
                  refine wpAnyF_takeD (i := 0) (oi := _) (v := ?vv27) (some 100) rfl rfl (by kernel_rfl) (by kernel_rfl) (by kernel_rfl) (by kernel_rfl) (by kernel_rfl) (fun _ _ _ h => h) (Or.inl ⟨by rfl, ?yy27⟩) hSd ?rr27
                  case yy27 => (intro wq hSq; obtain ⟨_, _, _, _⟩ := hSq; go_simp <;> with_reducible rfl)
                  simp only [Act.put, List.setIfInBounds_toArray, List.set_cons_succ, List.set_cons_zero]
                  refine wpAnyF_takeD (i := 2) (oi := _) (v := ?vv28) (some 102) rfl rfl (by kernel_rfl) (by kernel_rfl) (by kernel_rfl) (by kernel_rfl) (by kernel_rfl) (fun _ _ _ h => h) (Or.inl ⟨by rfl, ?yy28⟩) hSd ?rr28
                  case yy28 => (intro wq hSq; obtain ⟨_, _, _, _⟩ := hSq; go_simp <;> with_reducible rfl)
                  simp only [Act.put, List.setIfInBounds_toArray, List.set_cons_succ, List.set_cons_zero]
                  refine wpAnyF_takeD (i := 1) (oi := _) (v := ?vv29) (some 101) rfl rfl (by kernel_rfl) (by kernel_rfl) (by kernel_rfl) (by kernel_rfl) (by kernel_rfl) (fun _ _ _ h => h) (Or.inl ⟨by rfl, ?yy29⟩) hSd ?rr29
                  case yy29 => (intro wq hSq; obtain ⟨_, _, _, _⟩ := hSq; go_simp <;> with_reducible rfl)
                  simp only [Act.put, List.setIfInBounds_toArray, List.set_cons_succ, List.set_cons_zero]
                  refine wpAnyF_one (i := 3) (o := _) (by kernel_rfl) rfl (fun K' hK => ?_)
                  rw [if_pos (by rfl)]
                  go_simp
                  refine (HON.out _).mono ?_
                  rintro e V2 ⟨rfl, hbv2⟩
                  have hB2 : Below E.heap.size E V2 := hWe.trans (hbv2.mono hWe.size)
                  have hSd := HS.out _ hB2
                  refine hK.out _ _ hSd ?_
                  clear hK
                  try simp only [Act.put]
                  refine wpAnyF_one (i := 4) (o := _) (by kernel_rfl) rfl (fun K' hK => ?_)
                  rw [if_pos (by rfl)]
                  go_simp
                  have hBs : Below E.heap.size E (V2.alloc (Obj.cells #[.int .i64 x, .int .i64 y, .int .i64 t] 50)) := hB2.alloc hB2.size _
                  have hSd := HS.out _ hBs
                  refine hK.out _ _ hSd ?_
                  clear hK
                  try simp only [Act.put]
                  refine wpAnyF_one (i := 5) (o := _) (by kernel_rfl) rfl (fun K' hK => ?_)
                  refine step_append_lies _ rfl _ _ 37 rfl w.heap.size 50 i0 pixZ 3 24 Try.underlying37 hi hz0 hz1 hz2 rfl (by decide) (.slice so k scap) k XS rfl ((ownsRow_below j2 hB2).alloc _) ⟨V2.heap.size, 0, none⟩ 1 1 (pixL (x, y, t)) rfl rfl (World.news_of_block (al1 V2 _)) (fun u hu => by simp [pixL] at hu; rcases hu with rfl | rfl | rfl <;> rfl) Nat.one_pos HL1.out HL2.out (Nat.le_trans hbW hBs.size) _ rfl ?_
                  intro gg cap w3 hown hgrow hat hltg
                  obtain ⟨hSx, p2f, HFIN⟩ := HTL.out _ gg cap w3 hBs hgrow hown
                  have hSd := hSx
                  refine hK.out _ _ hSd ?_
                  clear hK
                  try simp only [Act.put]
                  refine wpAnyF_take (i := 6) (oi := _) (v := ?vv30) rfl (by kernel_rfl) (by kernel_rfl) (by kernel_rfl) (by kernel_rfl) (by kernel_rfl) (fun _ _ _ h => h) (Or.inl ⟨by rfl, ?yy30⟩) hSd ?rr30
                  case yy30 => (intro wq hSq; obtain ⟨_, _, _, _⟩ := hSq; go_simp <;> with_reducible rfl)
                  try simp only [Act.put]
                  refine wpAnyF_last (o := _) (by kernel_rfl) rfl (fun K' hK => ?_)
                  rw [if_pos (by rfl)]
                  go_simp
                  refine hK.out _ _ ?_
                  clear hK
                  refine wpAnyF_done (by kernel_rfl) ?_ _
                  try simp only [Act.put]
                  go_wp2
                  go_roundw
                  case rel => exact ⟨X + 1, by omega, by go_num, by rw [show M + (X + 1) = k + 1 by have := HK.out; omega]; exact HFIN⟩
                  case measure => simp [intOf]; omega
        · have hdx : decide ((X : Int) < (W : Int)) = false := by simp; omega
          have h3 : X = W := by omega
          subst h3
          have HJ1 := hide (show FiJ w X H (.slice ao zs.length ca) L ((Y + 1) * X) wr from ⟨so, scap, by rw [Nat.succ_mul, ← HM.out]; exact j1, by rw [Nat.succ_mul, ← HM.out]; exact j2, j3, j4, j5⟩)
          go_wp2
          go_roundw
          case rel => exact ⟨Y + 1, by omega, by go_num, HJ1.out⟩
          case measure => simp [intOf]; omega
    · have hd : decide ((Y : Int) < (H : Int)) = false := by simp; omega
      obtain rfl : Y = H := by omega
      rw [← HLEN.out] at j1 j2
      rw [List.take_of_length_le (by rw [HLL.out]; exact Nat.le_refl _)] at j2
      obtain ⟨p0, p1, p2⟩ := cells3 j1
      obtain ⟨z0, z1, z2⟩ := cells3 j4
      have f0 := Lib.frozen_of_heap j4 0
      have f1 := Lib.frozen_of_heap j4 1
      have f2 := Lib.frozen_of_heap j4 2
      have HFI := hide (set3_below j5 (show w.heap.size ≤ w.heap.size + 1 by omega) (.int .i64 (W : Nat)) (.int .i64 (Y : Nat)) (.slice so zs.length scap))
      have hpx : IsPix wr (.slice so zs.length scap) L := IsPix.own (base := w.heap.size) (ps := L) (v := .slice so zs.length scap) (by rw [HLL.out]; exact j2) (by rw [HLL.out]; omega)
      have hne : (Value.slice so zs.length scap).ownBlock ≠ some (w.heap.size + 1) := fun e => own_ne j2 j4 (by decide) e.symm
      have HX := hide (hpx.other (set3_size wr (w.heap.size + 1) (.int .i64 (W : Nat)) (.int .i64 (Y : Nat)) (.slice so zs.length scap)) (fun b hb => set3_heap _ _ _ _ _ b hb) hne)
      have HF := hide (Fresh.own j2)
      clear hpx hne
      go_wp2
      exact bodyPost_ret (v := .agg #[.int .i64 (W : Nat), .int .i64 (Y : Nat), .slice so zs.length scap]) (by simp [results, Try.results25, go_sem, z0, z1, z2]) rfl ⟨_, rfl, HX.out, HFI.out, HF.out⟩

end Go.Proofs.Ytolcndchfnifhab

