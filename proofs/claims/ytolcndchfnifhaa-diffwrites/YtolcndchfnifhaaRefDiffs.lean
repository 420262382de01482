/- The reference's differences. -/
import Derived.Test.YtolcndchfnifhaaRefDiff
import Derived.Test.YtolcndchfnifhaaTail
import Derived.Test.YtolcndchfnifhaaRefRead
import Derived.Deep.AppendLies
namespace Go.Proofs.Ytolcndchfnifhaa
open Go.RowKit

def dList (zs : List Int) (W : Nat) (kind : Int) (n : Nat) : List Int := (List.range n).map (dAt zs W kind)
theorem dList_length (zs : List Int) (W : Nat) (kind : Int) (n : Nat) : (dList zs W kind n).length = n := by simp [dList]
theorem dList_succ (zs : List Int) (W : Nat) (kind : Int) (n : Nat) : (dList zs W kind (n + 1)).map (Value.int .i64) = (dList zs W kind n).map (Value.int .i64) ++ [.int .i64 (dAt zs W kind n)] := by
  simp [dList, List.range_succ]

set_option maxRecDepth 100000 in
set_option maxHeartbeats 1600000 in
theorem differences_any (W H : Nat) (v : Value) (zs : List Int) (kind : Int) (w : World) (hv : IsInts w v zs) (hp : planeOk W H zs = true) :
    Calls Try.prog 87 #[.agg #[.int .i64 W, .int .i64 H, v], .int .i64 kind] w fun e w' => ∃ r, e = .returned r ∧ IsInts w' r (dList zs W kind zs.length) ∧ Below w.heap.size w w' := by
  obtain ⟨⟨b1, b2⟩, ⟨b3, b4⟩, b5, b6⟩ := planeOk_parts hp
  have h4096 : zs.length ≤ 4096 := by have := side_mul ⟨b1, b2⟩ ⟨b3, b4⟩; omega
  have hlen : zs.length = H * W := by rw [Nat.mul_comm]; exact_mod_cast b5
  have HZ := hide b6
  have HLEN := hide hlen
  clear b5 b6 hp hlen
  obtain ⟨i0, hi, hz0, hz1, hz2⟩ := info_parts Try.infoInt
  have HV := hide hv
  obtain ⟨ao, ca, rfl, hla, _⟩ := hv
  have W0b := bel_alloc w (Obj.cells #[.int .i64 W, .int .i64 H, .slice ao zs.length ca] 57)
  obtain ⟨e0, e1, e2⟩ := pl3 (Below.refl (w.alloc (Obj.cells #[.int .i64 W, .int .i64 H, .slice ao zs.length ca] 57)).heap.size _)
  have hlt0 : w.heap.size < (w.alloc (Obj.cells #[.int .i64 W, .int .i64 H, .slice ao zs.length ca] 57)).heap.size := by simp
  go_enter Try.func87, Try.ntmps87
  go_wp2_with fail
  generalize w.alloc (Obj.cells #[.int .i64 W, .int .i64 H, .slice ao zs.length ca] 57) = W0 at *
  have HW0 := hide W0b
  have HI0 := hide (HV.out.below W0b (Nat.le_refl _))
  have HE0 := hide e0
  have HE1 := hide e1
  have HE2 := hide e2
  have HS := hide (show ∀ w', Below W0.heap.size W0 w' → w'.cell? ⟨w.heap.size, 0, none⟩ = some (.int .i64 W) ∧ w'.cell? ⟨w.heap.size, 1, none⟩ = some (.int .i64 H) ∧ w'.cell? ⟨w.heap.size, 2, none⟩ = some (.slice ao zs.length ca) ∧ Below W0.heap.size W0 w' from fun w' h =>
    ⟨(h.cell (p := ⟨w.heap.size, 0, none⟩) hlt0).trans e0, (h.cell (p := ⟨w.heap.size, 1, none⟩) hlt0).trans e1, (h.cell (p := ⟨w.heap.size, 2, none⟩) hlt0).trans e2, h⟩)
  clear e0 e1 e2 W0b HV
  go_loopw [5, 6] (fun t i wr => ∃ y : Nat, y ≤ H ∧ i = .int .i64 y ∧ (∃ ao cap, t = .slice ao (y * W) cap) ∧ wr.ownsRow W0.heap.size 3 1 t (y * W) ((dList zs W kind (y * W)).map (Value.int .i64)) ∧ Below W0.heap.size W0 wr)
    (fun _ i _ => H - (intOf i).toNat)
  case atStart => exact ⟨0, Nat.zero_le _, rfl, ⟨none, 0, by simp⟩, by rw [Nat.zero_mul]; exact World.ownsRow_nil _ _ _ _, Below.refl _ _⟩
  case round =>
    obtain ⟨y, hy, rfl, ⟨to, tc, rfl⟩, ho, hb⟩ := hrel
    have q0 := (hb.cell (p := ⟨w.heap.size, 0, none⟩) hlt0).trans HE0.out
    have q1 := (hb.cell (p := ⟨w.heap.size, 1, none⟩) hlt0).trans HE1.out
    by_cases hlt : y < H
    · have hmul : y * W + W ≤ zs.length := by
        rw [HLEN.out]
        have := Nat.mul_le_mul_right W (show y + 1 ≤ H from hlt)
        rw [Nat.succ_mul] at this; exact this
      have HM := hide (show (y + 1) * W = y * W + W from Nat.succ_mul y W)
      have HPL := hide (fun x (h : x < W) => place_of (W := W) (X := x) (Y := y) h)
      obtain ⟨M, hM⟩ : ∃ M, M = y * W := ⟨_, rfl⟩
      rw [← hM] at ho hmul HM HPL
      simp only [← hM]
      have HMY := hide hM
      clear hM
      have hd : decide ((y : Int) < (H : Int)) = true := by simp; omega
      go_wp2
      go_loopw [5, 7] (fun t i wr => ∃ x : Nat, x ≤ W ∧ i = .int .i64 x ∧ (∃ ao cap, t = .slice ao (M + x) cap) ∧ wr.ownsRow W0.heap.size 3 1 t (M + x) ((dList zs W kind (M + x)).map (Value.int .i64)) ∧ Below W0.heap.size W0 wr)
        (fun _ i _ => W - (intOf i).toNat)
      case atStart => exact ⟨0, Nat.zero_le _, rfl, ⟨_, _, rfl⟩, ho, hb⟩
      case round =>
        clear ho hb q0 q1
        obtain ⟨x, hx, rfl, ⟨to, tc, rfl⟩, ho, hb⟩ := hrel
        have q0 := (hb.cell (p := ⟨w.heap.size, 0, none⟩) hlt0).trans HE0.out
        have q1 := (hb.cell (p := ⟨w.heap.size, 1, none⟩) hlt0).trans HE1.out
        have hsz := hb.size
        by_cases hxl : x < W
        · have hd2 : decide ((x : Int) < (W : Int)) = true := by simp; omega
          have hkl : M + x < zs.length := by omega
          obtain ⟨m1, m2⟩ := HPL.out x hxl
          have hs := sampsOk_getD HZ.out (M + x)
          have hgr := gAt_range zs W kind (M + x) HZ.out
          have HAT := hide (show ∀ w', Below wr.heap.size wr w' → Calls Try.prog 82 #[.agg #[.int .i64 W, .int .i64 H, .slice ao zs.length ca], .int .i64 x, .int .i64 y] w' fun e w'' => e = .returned (.int .i64 (zs.getD (M + x) 0)) ∧ Below wr.heap.size wr w'' from fun w' h =>
            (at_any _ _ _ zs _ _ x y W (M + x) _ ((HI0.out.below hb (Nat.le_refl _)).below h (Nat.le_refl _)) rfl rfl rfl (by rw [HMY.out]) hkl h4096).mono fun e w'' h2 => ⟨h2.1, h.trans (h2.2.mono h.size)⟩)
          have HGU := hide (show ∀ w', Below wr.heap.size wr w' → Calls Try.prog 46 #[.agg #[.int .i64 W, .int .i64 H, .slice ao zs.length ca], .int .i64 kind, .int .i64 x, .int .i64 y] w' fun e w'' => e = .returned (.int .i64 (gAt zs W kind (M + x))) ∧ Below wr.heap.size wr w'' from fun w' h =>
            (guessOf_any _ zs W x y H kind (M + x) w' ((HI0.out.below hb (Nat.le_refl _)).below h (Nat.le_refl _)) (by omega) (by omega) hkl h4096 HZ.out m1.symm m2.symm).mono fun e w'' h2 => ⟨h2.1, h.trans (h2.2.mono h.size)⟩)
          have HDA := hide (show dif (zs.getD (M + x) 0) (gAt zs W kind (M + x)) = dAt zs W kind (M + x) from rfl)
          have HDI := hide (refDifference_any _ _ hs hgr)
          have HLS := hide (dList_succ zs W kind (M + x))
          rw [HDA.out] at HDI
          clear hs hgr m1 m2 HDA
          generalize zs.getD (M + x) 0 = Z at *
          generalize gAt zs W kind (M + x) = G at *
          generalize dAt zs W kind (M + x) = D at *
          have HWR := hide (show ∀ w', Below wr.heap.size wr w' → Below W0.heap.size W0 w' from fun w' h => hb.trans (h.mono hsz))
          have HWA := hide (show ∀ w' o, Below wr.heap.size wr w' → Below W0.heap.size W0 (w'.alloc o) from fun w' o h => hb.trans ((bel_trans h (bel_alloc _ _)).mono hsz))
          have HOW := hide (show ∀ w' o, Below wr.heap.size wr w' → (w'.alloc o).ownsRow W0.heap.size 3 1 (.slice to (M + x) tc) (M + x) ((dList zs W kind (M + x)).map (Value.int .i64)) from fun w' o h => (ownsRow_below ho h).alloc _)
          have HSZ := hide (show ∀ w' o, Below wr.heap.size wr w' → W0.heap.size ≤ (w'.alloc o).heap.size from fun w' o h => by have := h.size; simp; omega)
          have HGR := hide (show ∀ w' o w1, Below wr.heap.size wr w' → (w'.alloc o).grownBy w1 (Value.slice to (M + x) tc).ownBlock → Below W0.heap.size W0 w1 from fun w' o w1 h hg =>
            (hb.trans ((bel_trans h (bel_alloc _ _)).mono hsz)).grown hg (by have := h.size; simp; omega) (fun j hj => (ho.lt j hj).1))
          have HNW := hide (show ∀ (w' : World), ∀ j u, [Value.int .i64 D][j]? = some u → (w'.alloc (.cells #[.int .i64 D] 3)).cell? ((⟨w'.heap.size, 0, none⟩ : Addr).add j) = some u from fun w' j u hj => by obtain ⟨rfl, rfl⟩ := one_get hj; simp [Addr.add])
          have HON := hide (show ∀ u ∈ [Value.int .i64 D], u.oneCell' = true from fun u hu => by simp at hu; subst hu; rfl)
          have hrefl := Below.refl wr.heap.size wr
          have hdrew : Below wr.heap.size wr wr.drew := (Below.refl _ _).drew
          go_wp2_with fail
          go_region_held3 (fun w' => w'.cell? ⟨w.heap.size, 0, none⟩ = some (.int .i64 W) ∧ w'.cell? ⟨w.heap.size, 1, none⟩ = some (.int .i64 H) ∧ w'.cell? ⟨w.heap.size, 2, none⟩ = some (.slice ao zs.length ca) ∧ Below W0.heap.size W0 w')
            (first | (refine HS.out _ ?_; assumption) | (refine HS.out _ (HWR.out _ ?_); assumption) | (refine HS.out _ (HWA.out _ _ ?_); assumption))
            (first
              | (go_at_call 82; refine (HAT.out _ ?_).mono ?_; assumption; rintro e wx ⟨rfl, hN⟩)
              | (go_at_call 46; refine (HGU.out _ ?_).mono ?_; assumption; rintro e wx ⟨rfl, hN⟩)
              | (go_at_call 120; refine (HDI.out _).mono ?_; rintro e wy ⟨rfl, rfl⟩)
              | (refine step_append_lies _ rfl _ _ 35 rfl W0.heap.size 3 i0 (.int .i64 0) 1 8 Try.underlying35 hi hz0 hz1 hz2 rfl Nat.one_pos _ _ _ rfl (HOW.out _ _ hN) _ 1 1 [.int .i64 D] rfl rfl (HNW.out _) HON.out Nat.one_pos ?_ ?_ (HSZ.out _ _ hN) _ rfl ?_; (unfold maxLen; omega); omega; intro g cap w1 hown hgrow hat hltg; have hB1 := HGR.out _ _ _ hN hgrow))
          have ho4 : w1.ownsRow W0.heap.size 3 1 (.slice (some ⟨g, 0, none⟩) (M + (x + 1)) cap) (M + (x + 1)) ((dList zs W kind (M + (x + 1))).map (Value.int .i64)) := by
            rw [show M + (x + 1) = M + x + 1 from rfl, HLS.out]; exact hown
          clear hown hgrow hat hrefl hdrew ho hb hN
          go_wp2
          go_roundw
          case rel => exact ⟨x + 1, by omega, by go_num, ⟨_, _, rfl⟩, ho4, hB1⟩
          case measure => simp [intOf]; omega
        · have hd2 : decide ((x : Int) < (W : Int)) = false := by simp; omega
          obtain rfl : x = W := by omega
          go_wp2
          go_roundw
          case rel =>
            refine ⟨y + 1, by omega, by go_num, ⟨_, _, by rw [HM.out]⟩, by rw [HM.out]; exact ho, hb⟩
          case measure => simp [intOf]; omega
    · obtain rfl : y = H := by omega
      have hd : decide ((y : Int) < (y : Int)) = false := by simp
      have HIN := hide (show IsInts wr (.slice to (y * W) tc) (dList zs W kind zs.length) by
        rw [HLEN.out]
        exact IsInts.own (by rw [dList_length]; exact ho) (by rw [dList_length, ← HLEN.out]; omega))
      clear ho
      go_wp2
      go_ret
      exact ⟨_, rfl, HIN.out, HW0.out.trans (hb.mono HW0.out.size)⟩

end Go.Proofs.Ytolcndchfnifhaa
