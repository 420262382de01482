/- The reference's Bent. -/
import Derived.Test.YtolcndchfnifhabRefCurveFine
import Derived.Test.YtolcndchfnifhabWSum
namespace Go.Proofs.Ytolcndchfnifhab
open Go.RowKit

/-- what lies behind a pixel's append to a picture that lies in a box. -/
theorem app_tail {W' V1 w1 w : World} {base PB : Nat} {W H : Int} {so : Option Addr} {scap k g cap : Nat} {q : Px} {xs : List Value}
    (i1 : W'.heap[PB]? = some (.cells #[.int .i64 W, .int .i64 H, .slice so k scap] 39 (0, 0))) (i2 : W'.ownsRow base 50 3 (.slice so k scap) k xs)
    (i5 : Below w.heap.size w W') (hb : w.heap.size ≤ base) (hPB : w.heap.size ≤ PB) (hV1 : Below W'.heap.size W' V1) (hg : (V1.alloc (Obj.cells (pixA q) 50)).grownBy w1 (Value.slice so k scap).ownBlock)
    (ho : w1.ownsRow base 50 3 (.slice (some ⟨g, 0, none⟩) (k + 1) cap) (k + 1) (xs ++ pixL q)) :
    (∀ b, b < W'.heap.size → some b ≠ (Value.slice so k scap).ownBlock → w1.heap[b]? = W'.heap[b]?) ∧ w1.cell? ⟨PB, 2, none⟩ = some (.slice so k scap) ∧ w1.frozen? ⟨PB, 2, none⟩ = false ∧
      (w1.setCell ⟨PB, 2, none⟩ (.slice (some ⟨g, 0, none⟩) (k + 1) cap)).heap[PB]? = some (.cells #[.int .i64 W, .int .i64 H, .slice (some ⟨g, 0, none⟩) (k + 1) cap] 39 (0, 0)) ∧
      (w1.setCell ⟨PB, 2, none⟩ (.slice (some ⟨g, 0, none⟩) (k + 1) cap)).ownsRow base 50 3 (.slice (some ⟨g, 0, none⟩) (k + 1) cap) (k + 1) (xs ++ pixL q) ∧ Below w.heap.size w (w1.setCell ⟨PB, 2, none⟩ (.slice (some ⟨g, 0, none⟩) (k + 1) cap)) ∧
      (∀ b, b < W'.heap.size → some b ≠ (Value.slice so k scap).ownBlock → b ≠ PB → (w1.setCell ⟨PB, 2, none⟩ (.slice (some ⟨g, 0, none⟩) (k + 1) cap)).heap[b]? = W'.heap[b]?) := by
  have hs := hV1.size
  have keep : ∀ b, b < W'.heap.size → some b ≠ (Value.slice so k scap).ownBlock → w1.heap[b]? = W'.heap[b]? := fun b hb hne => by
    rw [hg.block b (by simp; omega) hne, Below.heap_alloc _ _ _ (by omega), hV1.block b hb]
  have l1 := (Array.getElem?_eq_some_iff.1 i1).1
  have kP := (keep PB l1 (own_ne i2 i1 (by decide))).trans i1
  have hc := heap_setCell_same w1 PB 2 _ _ (.slice (some ⟨g, 0, none⟩) (k + 1) cap) kP
  refine ⟨keep, by rw [Lib.cell_of_heap kP]; rfl, Lib.frozen_of_heap kP 2, by rw [hc]; rfl, ownsRow_setCell_other ho (fun e => own_ne ho kP (by decide) e.symm) _, ?_, fun b hb hne hn => (Below.heap_setCell _ _ _ _ hn).trans (keep b hb hne)⟩
  exact ((((i5.trans (hV1.mono i5.size)).alloc (by have := i5.size; omega) _).grown hg (by have := i5.size; simp; omega) (fun j hj => Nat.le_trans hb (i2.lt j hj).1))).setCell (p := ⟨PB, 2, none⟩) hPB _

set_option maxRecDepth 100000 in
set_option maxHeartbeats 3200000 in
theorem bent_any (W H : Int) (v : Value) (ps : List Px) (vl : Value) (ls : List Pt) (hcv : IsCurve ls) (hps : pxsOk ps = true) (h4 : ps.length ≤ 4096) (w : World) (hv : IsPix w v ps) (hvl : IsPts w vl ls) :
    Calls Try.prog 39 #[.agg #[.int .i64 W, .int .i64 H, v], vl] w fun e w' => ∃ r, e = .returned (.agg #[.int .i64 W, .int .i64 H, r]) ∧ IsPix w' r (ps.map (bendP ls)) ∧ Below w.heap.size w w' ∧ Fresh w.heap.size r := by
  have HL := hide hvl
  have HCV := hide hcv
  have HPS := hide hps
  clear hcv hps
  obtain ⟨ao, ca, rfl, hla, hc⟩ := hv
  obtain ⟨lo, lc, rfl, _, _⟩ := hvl
  obtain ⟨i0, hi, hz0, hz1, hz2⟩ := info_parts Try.infoPixel
  have HC := hide (show ∀ j, j < ps.length → ∃ bk off, ao = some ⟨bk, off, none⟩ ∧ bk < w.heap.size ∧ w.cell? ⟨bk, off + j * 3, none⟩ = some (.int .i64 (pxAt ps j).1) ∧ w.cell? ⟨bk, off + j * 3 + 1, none⟩ = some (.int .i64 (pxAt ps j).2.1) ∧ w.cell? ⟨bk, off + j * 3 + 2, none⟩ = some (.int .i64 (pxAt ps j).2.2) from fun j hj => by
    rcases hc with h | ⟨b, off, h1, h2, h3⟩
    · subst h; simp at hj
    · have := h3 j hj
      rw [pxAt_get ps j hj] at this
      exact ⟨b, off, h1, h2, this⟩)
  clear hc
  go_enter Try.func39, Try.ntmps39
  go_wp2_with fail
  obtain ⟨a1, a2, a3⟩ := al3 w (Obj.cells #[.int .i64 W, .int .i64 H, .slice ao ps.length ca] 39) (Obj.cells #[.int .i64 0, .int .i64 0, .slice none 0 0] 39) (Obj.cells #[.int .i64 W, .int .i64 H, .slice none 0 0] 39)
  have hB := be3 w (Obj.cells #[.int .i64 W, .int .i64 H, .slice ao ps.length ca] 39) (Obj.cells #[.int .i64 0, .int .i64 0, .slice none 0 0] 39) (Obj.cells #[.int .i64 W, .int .i64 H, .slice none 0 0] 39)
  generalize ((w.alloc (Obj.cells #[.int .i64 W, .int .i64 H, .slice ao ps.length ca] 39)).alloc (Obj.cells #[.int .i64 0, .int .i64 0, .slice none 0 0] 39)).alloc (Obj.cells #[.int .i64 W, .int .i64 H, .slice none 0 0] 39) = U at *
  go_loopw [6] (fun i wr => ∃ k : Nat, k ≤ ps.length ∧ i = .int .i64 k ∧ ∃ so scap, wr.heap[w.heap.size + 2]? = some (.cells #[.int .i64 W, .int .i64 H, .slice so k scap] 39 (0, 0)) ∧ wr.ownsRow w.heap.size 50 3 (.slice so k scap) k (((ps.take k).map (bendP ls)).flatMap pixL) ∧ wr.heap[w.heap.size]? = some (.cells #[.int .i64 W, .int .i64 H, .slice ao ps.length ca] 39 (0, 0)) ∧ wr.heap[w.heap.size + 1]? = some (.cells #[.int .i64 0, .int .i64 0, .slice none 0 0] 39 (0, 0)) ∧ Below w.heap.size w wr) (fun i _ => ps.length - (intOf i).toNat)
  case atStart => exact ⟨0, Nat.zero_le _, rfl, none, 0, a3, World.ownsRow_nil _ _ _ _, a1, a2, hB⟩
  case round =>
    clear a1 a2 a3 hB
    obtain ⟨k, hk, rfl, so, scap, j1, j2, j3, j4, j5⟩ := hrel
    obtain ⟨_, _, q2⟩ := cells3 j3
    have hlq := (Array.getElem?_eq_some_iff.1 j3).1
    by_cases hlt : k < ps.length
    · have hd : decide ((k : Int) < (ps.length : Int)) = true := by simp; omega
      obtain ⟨bk, off, rfl, hbl, c0, c1, c2⟩ := HC.out k hlt
      have d0 := (j5.cell (p := ⟨bk, off + k * 3, none⟩) hbl).trans c0
      have d1 := (j5.cell (p := ⟨bk, off + k * 3 + 1, none⟩) hbl).trans c1
      have d2 := (j5.cell (p := ⟨bk, off + k * 3 + 2, none⟩) hbl).trans c2
      obtain ⟨⟨r1, r2⟩, ⟨g1, g2⟩, u1, u2⟩ := (pxOk_iff _).1 (pxAt_ok HPS.out k)
      have HST := hide (show ((ps.take (k + 1)).map (bendP ls)).flatMap pixL = ((ps.take k).map (bendP ls)).flatMap pixL ++ pixL (bendP ls (pxAt ps k)) by
        rw [List.take_succ_eq_append_getElem hlt, pxAt_get ps k hlt, List.map_append, List.flatMap_append]; simp)
      obtain ⟨⟨r, g, u⟩, hp⟩ : ∃ p, pxAt ps k = p := ⟨_, rfl⟩
      rw [hp] at d0 d1 d2 r1 r2 g1 g2 u1 u2 HST
      have HQ := hide (show bendP ls (r, g, u) = (heightV ls r, heightV ls g, heightV ls u) from rfl)
      obtain ⟨q, hq⟩ : ∃ q, bendP ls (r, g, u) = q := ⟨_, rfl⟩
      rw [hq] at HST HQ
      clear c0 c1 c2 hp hq
      obtain ⟨XS, hXS⟩ : ∃ XS, ((ps.take k).map (bendP ls)).flatMap pixL = XS := ⟨_, rfl⟩
      rw [hXS] at j2 HST
      clear hXS
      obtain ⟨W', hW'⟩ : ∃ W', wr.alloc (Obj.cells #[.int .i64 r, .int .i64 g, .int .i64 u] 50) = W' := ⟨_, rfl⟩
      have i1 : W'.heap[w.heap.size + 2]? = some (.cells #[.int .i64 W, .int .i64 H, .slice so k scap] 39 (0, 0)) := by rw [← hW']; exact (Below.heap_alloc _ _ _ (Array.getElem?_eq_some_iff.1 j1).1).trans j1
      have i2 : W'.ownsRow w.heap.size 50 3 (.slice so k scap) k XS := by rw [← hW']; exact j2.alloc _
      have i3 : W'.heap[w.heap.size]? = some (.cells #[.int .i64 W, .int .i64 H, .slice (some ⟨bk, off, none⟩) ps.length ca] 39 (0, 0)) := by rw [← hW']; exact (Below.heap_alloc _ _ _ hlq).trans j3
      have i4 : W'.heap[w.heap.size + 1]? = some (.cells #[.int .i64 0, .int .i64 0, .slice none 0 0] 39 (0, 0)) := by rw [← hW']; exact (Below.heap_alloc _ _ _ (Array.getElem?_eq_some_iff.1 j4).1).trans j4
      have i5 : Below w.heap.size w W' := by rw [← hW']; exact j5.alloc j5.size _
      have iT : W'.heap[wr.heap.size]? = some (.cells #[.int .i64 r, .int .i64 g, .int .i64 u] 50 (0, 0)) := by rw [← hW']; exact al1 wr _
      have nT : some wr.heap.size ≠ (Value.slice so k scap).ownBlock := fun e => by have := (j2.lt _ e.symm).2; omega
      have n0 : w.heap.size + 2 < wr.heap.size := (Array.getElem?_eq_some_iff.1 j1).1
      have HW' := hide hW'
      clear hW'
      go_wp2_with fail
      rw [HW'.out]
      clear j1 j2 j3 j4 j5 q2 d0 d1 d2
      obtain ⟨TB, hTB⟩ : ∃ TB, wr.heap.size = TB := ⟨_, rfl⟩
      rw [hTB] at iT nT n0 ⊢
      rw [HQ.out] at HST
      have hlT := (Array.getElem?_eq_some_iff.1 iT).1
      have hlP := (Array.getElem?_eq_some_iff.1 i1).1
      have hbW : w.heap.size ≤ W'.heap.size := i5.size
      have HL1 := hide (show k + 1 ≤ maxLen by unfold maxLen; omega)
      have HL2 := hide (show (k + 1) * 24 ≤ 140737488355328 by omega)
      have HS := hide (show ∀ v, Below W'.heap.size W' v → v.cell? ⟨TB, 0, none⟩ = some (.int .i64 r) ∧ v.cell? ⟨TB, 1, none⟩ = some (.int .i64 g) ∧ v.cell? ⟨TB, 2, none⟩ = some (.int .i64 u) from fun v h => cells3 ((h.block TB hlT).trans iT))
      have HP2 := hide (show ∀ v, Below W'.heap.size W' v → v.cell? ⟨w.heap.size + 1 + 1, 2, none⟩ = some (.slice so k scap) from fun v h => (cells3 ((h.block (w.heap.size + 2) hlP).trans i1)).2.2)
      have HON := hide (show ∀ (x : Int) (v : World), 0 ≤ x → x ≤ 65535 → Below W'.heap.size W' v → Calls Try.prog 38 #[.slice lo ls.length lc, .int .i64 x] v fun e v' => e = .returned (.int .i64 (heightV ls x)) ∧ Below v.heap.size v v' from fun x v x0 x1 h => onCurve_any _ ls x x0 x1 HCV.out v (HL.out.below (i5.trans (h.mono i5.size)) (Nat.le_refl _)))
      have HTL := hide (show ∀ (V1 : World) (gg cap : Nat) (w1 : World), Below W'.heap.size W' V1 → (V1.alloc (Obj.cells #[.int .i64 (heightV ls r), .int .i64 (heightV ls g), .int .i64 (heightV ls u)] 50)).grownBy w1 (Value.slice so k scap).ownBlock → w1.ownsRow w.heap.size 50 3 (.slice (some ⟨gg, 0, none⟩) (k + 1) cap) (k + 1) (XS ++ pixL (heightV ls r, heightV ls g, heightV ls u)) →
          (w1.cell? ⟨TB, 0, none⟩ = some (.int .i64 r) ∧ w1.cell? ⟨TB, 1, none⟩ = some (.int .i64 g) ∧ w1.cell? ⟨TB, 2, none⟩ = some (.int .i64 u)) ∧ w1.cell? ⟨w.heap.size + 1 + 1, 2, none⟩ = some (.slice so k scap) ∧ w1.frozen? ⟨w.heap.size + 1 + 1, 2, none⟩ = false ∧ (((w1.setCell ⟨w.heap.size + 1 + 1, 2, none⟩ (.slice (some ⟨gg, 0, none⟩) (k + 1) cap)).cell? ⟨TB, 0, none⟩ = some (.int .i64 r) ∧ (w1.setCell ⟨w.heap.size + 1 + 1, 2, none⟩ (.slice (some ⟨gg, 0, none⟩) (k + 1) cap)).cell? ⟨TB, 1, none⟩ = some (.int .i64 g) ∧ (w1.setCell ⟨w.heap.size + 1 + 1, 2, none⟩ (.slice (some ⟨gg, 0, none⟩) (k + 1) cap)).cell? ⟨TB, 2, none⟩ = some (.int .i64 u)) ∧
            (w1.setCell ⟨w.heap.size + 1 + 1, 2, none⟩ (.slice (some ⟨gg, 0, none⟩) (k + 1) cap)).heap[w.heap.size + 2]? = some (.cells #[.int .i64 W, .int .i64 H, .slice (some ⟨gg, 0, none⟩) (k + 1) cap] 39 (0, 0)) ∧ (w1.setCell ⟨w.heap.size + 1 + 1, 2, none⟩ (.slice (some ⟨gg, 0, none⟩) (k + 1) cap)).ownsRow w.heap.size 50 3 (.slice (some ⟨gg, 0, none⟩) (k + 1) cap) (k + 1) (XS ++ pixL (heightV ls r, heightV ls g, heightV ls u)) ∧
            (w1.setCell ⟨w.heap.size + 1 + 1, 2, none⟩ (.slice (some ⟨gg, 0, none⟩) (k + 1) cap)).heap[w.heap.size]? = some (.cells #[.int .i64 W, .int .i64 H, .slice (some ⟨bk, off, none⟩) ps.length ca] 39 (0, 0)) ∧ (w1.setCell ⟨w.heap.size + 1 + 1, 2, none⟩ (.slice (some ⟨gg, 0, none⟩) (k + 1) cap)).heap[w.heap.size + 1]? = some (.cells #[.int .i64 0, .int .i64 0, .slice none 0 0] 39 (0, 0)) ∧ Below w.heap.size w (w1.setCell ⟨w.heap.size + 1 + 1, 2, none⟩ (.slice (some ⟨gg, 0, none⟩) (k + 1) cap))) from fun V1 gg cap w1 h1 h2 h3 => by
        obtain ⟨t1, t2, t3, t4, t5, t6, t7⟩ := app_tail (q := (heightV ls r, heightV ls g, heightV ls u)) i1 i2 i5 (Nat.le_refl _) (by omega) h1 h2 h3
        have kT := (t1 TB hlT nT).trans iT
        have xT := (t7 TB hlT nT (by omega)).trans iT
        exact ⟨cells3 kT, t2, t3, cells3 xT, t4, t5, (t7 _ (Array.getElem?_eq_some_iff.1 i3).1 (own_ne i2 i3 (by decide)) (by omega)).trans i3, (t7 _ (Array.getElem?_eq_some_iff.1 i4).1 (own_ne i2 i4 (by decide)) (by omega)).trans i4, t6⟩)
      have hmx : Try.prog.follows .mixedOrders = true := by kernel_rfl
      have hWd : Below W'.heap.size W' W'.drew := (Below.refl _ _).drew
      have hSd := HS.out _ hWd
      have p2 := HP2.out _ hWd
      clear hTB HW' HQ iT i1
      refine wp_region_held (S := fun v : World => v.cell? ⟨TB, 0, none⟩ = some (.int .i64 r) ∧ v.cell? ⟨TB, 1, none⟩ = some (.int .i64 g) ∧ v.cell? ⟨TB, 2, none⟩ = some (.int .i64 u)) hmx ?_
      show wpAnyH _ _ _ _ _ 19 _ _ W'.drew
      refine wpAnyH_take (i := 0) (oi := _) (v := .pointer (some ⟨w.heap.size + 1 + 1, 2, none⟩)) rfl (by kernel_rfl) (by kernel_rfl) (by kernel_rfl) (fun _ _ _ h => h) (Or.inl ⟨by rfl, fun v hSv => by obtain ⟨t0, t1, t2⟩ := hSv; go_simp⟩) hSd ?_
      simp only [Act.put]
      refine wpAnyH_take (i := 2) (oi := _) (v := .slice lo ls.length lc) rfl (by kernel_rfl) (by kernel_rfl) (by kernel_rfl) (fun _ _ _ h => h) (Or.inl ⟨by rfl, fun v hSv => by obtain ⟨t0, t1, t2⟩ := hSv; go_simp⟩) hSd ?_
      simp only [Act.put]
      refine wpAnyH_take (i := 3) (oi := _) (v := .pointer (some ⟨TB, 0, none⟩)) rfl (by kernel_rfl) (by kernel_rfl) (by kernel_rfl) (fun _ _ _ h => h) (Or.inl ⟨by rfl, fun v hSv => by obtain ⟨t0, t1, t2⟩ := hSv; go_simp⟩) hSd ?_
      simp only [Act.put]
      refine wpAnyH_take (i := 4) (oi := _) (v := .int .i64 r) rfl (by kernel_rfl) (by kernel_rfl) (by kernel_rfl) (fun _ _ _ h => h) (Or.inl ⟨by rfl, fun v hSv => by obtain ⟨t0, t1, t2⟩ := hSv; go_simp⟩) hSd ?_
      simp only [Act.put]
      refine wpAnyH_take (i := 6) (oi := _) (v := .slice lo ls.length lc) rfl (by kernel_rfl) (by kernel_rfl) (by kernel_rfl) (fun _ _ _ h => h) (Or.inl ⟨by rfl, fun v hSv => by obtain ⟨t0, t1, t2⟩ := hSv; go_simp⟩) hSd ?_
      simp only [Act.put]
      refine wpAnyH_take (i := 7) (oi := _) (v := .pointer (some ⟨TB, 1, none⟩)) rfl (by kernel_rfl) (by kernel_rfl) (by kernel_rfl) (fun _ _ _ h => h) (Or.inl ⟨by rfl, fun v hSv => by obtain ⟨t0, t1, t2⟩ := hSv; go_simp⟩) hSd ?_
      simp only [Act.put]
      refine wpAnyH_take (i := 8) (oi := _) (v := .int .i64 g) rfl (by kernel_rfl) (by kernel_rfl) (by kernel_rfl) (fun _ _ _ h => h) (Or.inl ⟨by rfl, fun v hSv => by obtain ⟨t0, t1, t2⟩ := hSv; go_simp⟩) hSd ?_
      simp only [Act.put]
      refine wpAnyH_take (i := 10) (oi := _) (v := .slice lo ls.length lc) rfl (by kernel_rfl) (by kernel_rfl) (by kernel_rfl) (fun _ _ _ h => h) (Or.inl ⟨by rfl, fun v hSv => by obtain ⟨t0, t1, t2⟩ := hSv; go_simp⟩) hSd ?_
      simp only [Act.put]
      refine wpAnyH_take (i := 11) (oi := _) (v := .pointer (some ⟨TB, 2, none⟩)) rfl (by kernel_rfl) (by kernel_rfl) (by kernel_rfl) (fun _ _ _ h => h) (Or.inl ⟨by rfl, fun v hSv => by obtain ⟨t0, t1, t2⟩ := hSv; go_simp⟩) hSd ?_
      simp only [Act.put]
      refine wpAnyH_take (i := 12) (oi := _) (v := .int .i64 u) rfl (by kernel_rfl) (by kernel_rfl) (by kernel_rfl) (fun _ _ _ h => h) (Or.inl ⟨by rfl, fun v hSv => by obtain ⟨t0, t1, t2⟩ := hSv; go_simp⟩) hSd ?_
      simp only [Act.put]
      refine wpAnyH_ready (rs := [1, 5]) (by kernel_rfl) (by simp) ?_
      refine AllReadyH.cons (o := _) rfl (fun K' hK => ?w1A) (AllReadyH.cons (o := _) rfl (fun K' hK => ?w1B) AllReadyH.nil)
      case w1A =>
        rw [if_pos (by rfl)]
        go_simp
        refine hK.out _ _ hSd (fun _ => ?_)
        clear hK
        refine wpAnyH_ready (rs := [5]) (by kernel_rfl) (by simp) ?_
        refine AllReadyH.cons (o := _) rfl (fun K' hK => ?_) AllReadyH.nil
        rw [if_pos (by rfl)]
        go_simp
        refine (HON.out r _ r1 r2 (by assumption)).mono ?_
        rintro e V1 ⟨rfl, hb1⟩
        have hB1 : Below W'.heap.size W' V1 := hWd.trans (hb1.mono hWd.size)
        have hSd := HS.out _ hB1
        have p2 := HP2.out _ hB1
        refine hK.out _ _ hSd (fun _ => ?_)
        clear hK
        refine wpAnyH_ready (rs := [9]) (by kernel_rfl) (by simp) ?_
        refine AllReadyH.cons (o := _) rfl (fun K' hK => ?_) AllReadyH.nil
        rw [if_pos (by rfl)]
        go_simp
        refine (HON.out g _ g1 g2 (by assumption)).mono ?_
        rintro e V2 ⟨rfl, hb2⟩
        have hB2 : Below W'.heap.size W' V2 := hB1.trans (hb2.mono hB1.size)
        have hSd := HS.out _ hB2
        have p2 := HP2.out _ hB2
        refine hK.out _ _ hSd (fun _ => ?_)
        clear hK
        refine wpAnyH_ready (rs := [13]) (by kernel_rfl) (by simp) ?_
        refine AllReadyH.cons (o := _) rfl (fun K' hK => ?_) AllReadyH.nil
        rw [if_pos (by rfl)]
        go_simp
        refine (HON.out u _ u1 u2 (by assumption)).mono ?_
        rintro e V3 ⟨rfl, hb3⟩
        have hB3 : Below W'.heap.size W' V3 := hB2.trans (hb3.mono hB2.size)
        have hSd := HS.out _ hB3
        have p2 := HP2.out _ hB3
        refine hK.out _ _ hSd (fun _ => ?_)
        clear hK
        refine wpAnyH_take (i := 14) (oi := _) (v := .agg #[.int .i64 (heightV ls r), .int .i64 (heightV ls g), .int .i64 (heightV ls u)]) rfl (by kernel_rfl) (by kernel_rfl) (by kernel_rfl) (fun _ _ _ h => h) (Or.inl ⟨by rfl, fun v hSv => by obtain ⟨t0, t1, t2⟩ := hSv; go_simp⟩) hSd ?_
        simp only [Act.put]
        refine wpAnyH_ready (rs := [15]) (by kernel_rfl) (by simp) ?_
        refine AllReadyH.cons (o := _) rfl (fun K' hK => ?_) AllReadyH.nil
        rw [if_pos (by rfl)]
        go_simp
        have hBs : Below W'.heap.size W' (V3.alloc (Obj.cells #[.int .i64 (heightV ls r), .int .i64 (heightV ls g), .int .i64 (heightV ls u)] 50)) := hB3.alloc hB3.size _
        have hSd := HS.out _ hBs
        have p2 := HP2.out _ hBs
        refine hK.out _ _ hSd (fun _ => ?_)
        clear hK
        refine wpAnyH_ready (rs := [16]) (by kernel_rfl) (by simp) ?_
        refine AllReadyH.cons (o := _) rfl (fun K' hK => ?_) AllReadyH.nil
        refine step_append_lies _ rfl _ _ 37 rfl w.heap.size 50 i0 pixZ 3 24 Try.underlying37 hi hz0 hz1 hz2 rfl (by decide) (.slice so k scap) k XS rfl ((ownsRow_below i2 hB3).alloc _) ⟨V3.heap.size, 0, none⟩ 1 1 (pixL (heightV ls r, heightV ls g, heightV ls u)) rfl rfl (World.news_of_block (al1 V3 _)) (fun u hu => by simp [pixL] at hu; rcases hu with rfl | rfl | rfl <;> rfl) Nat.one_pos HL1.out HL2.out (Nat.le_trans hbW hBs.size) _ rfl ?_
        intro gg cap w1 hown hgrow hat hltg
        obtain ⟨hSd, p2, p2f, HFIN⟩ := HTL.out V3 gg cap w1 hB3 hgrow hown
        refine hK.out _ _ hSd (fun _ => ?_)
        clear hK
        refine wpAnyH_ready (rs := [17]) (by kernel_rfl) (by simp) ?_
        refine AllReadyH.cons (o := _) rfl (fun K' hK => ?_) AllReadyH.nil
        rw [if_pos (by rfl)]
        go_simp
        refine hK.out _ _ hSd (fun _ => ?_)
        clear hK
        refine wpAnyH_ready (rs := [18]) (by kernel_rfl) (by simp) ?_
        refine AllReadyH.cons (o := _) rfl (fun K' hK => ?_) AllReadyH.nil
        rw [if_pos (by rfl)]
        go_simp
        refine hK.out _ _ HFIN.1 (fun _ => ?_)
        clear hK
        refine wpAnyH_done (by kernel_rfl) ?_ _
        obtain ⟨f0, f1, f2, f3, f4, f5⟩ := HFIN
        go_wp2
        go_roundw
        case rel => exact ⟨k + 1, by omega, by go_num, some ⟨gg, 0, none⟩, cap, f1, by rw [HST.out]; exact f2, f3, f4, f5⟩
        case measure => simp [intOf]; omega
      case w1B =>
        rw [if_pos (by rfl)]
        go_simp
        refine (HON.out r _ r1 r2 (by assumption)).mono ?_
        rintro e V1 ⟨rfl, hb1⟩
        have hB1 : Below W'.heap.size W' V1 := hWd.trans (hb1.mono hWd.size)
        have hSd := HS.out _ hB1
        have p2 := HP2.out _ hB1
        refine hK.out _ _ hSd (fun _ => ?_)
        clear hK
        refine wpAnyH_ready (rs := [1, 9]) (by kernel_rfl) (by simp) ?_
        refine AllReadyH.cons (o := _) rfl (fun K' hK => ?w2A) (AllReadyH.cons (o := _) rfl (fun K' hK => ?w2B) AllReadyH.nil)
        case w2A =>
          rw [if_pos (by rfl)]
          go_simp
          refine hK.out _ _ hSd (fun _ => ?_)
          clear hK
          refine wpAnyH_ready (rs := [9]) (by kernel_rfl) (by simp) ?_
          refine AllReadyH.cons (o := _) rfl (fun K' hK => ?_) AllReadyH.nil
          rw [if_pos (by rfl)]
          go_simp
          refine (HON.out g _ g1 g2 (by assumption)).mono ?_
          rintro e V2 ⟨rfl, hb2⟩
          have hB2 : Below W'.heap.size W' V2 := hB1.trans (hb2.mono hB1.size)
          have hSd := HS.out _ hB2
          have p2 := HP2.out _ hB2
          refine hK.out _ _ hSd (fun _ => ?_)
          clear hK
          refine wpAnyH_ready (rs := [13]) (by kernel_rfl) (by simp) ?_
          refine AllReadyH.cons (o := _) rfl (fun K' hK => ?_) AllReadyH.nil
          rw [if_pos (by rfl)]
          go_simp
          refine (HON.out u _ u1 u2 (by assumption)).mono ?_
          rintro e V3 ⟨rfl, hb3⟩
          have hB3 : Below W'.heap.size W' V3 := hB2.trans (hb3.mono hB2.size)
          have hSd := HS.out _ hB3
          have p2 := HP2.out _ hB3
          refine hK.out _ _ hSd (fun _ => ?_)
          clear hK
          refine wpAnyH_take (i := 14) (oi := _) (v := .agg #[.int .i64 (heightV ls r), .int .i64 (heightV ls g), .int .i64 (heightV ls u)]) rfl (by kernel_rfl) (by kernel_rfl) (by kernel_rfl) (fun _ _ _ h => h) (Or.inl ⟨by rfl, fun v hSv => by obtain ⟨t0, t1, t2⟩ := hSv; go_simp⟩) hSd ?_
          simp only [Act.put]
          refine wpAnyH_ready (rs := [15]) (by kernel_rfl) (by simp) ?_
          refine AllReadyH.cons (o := _) rfl (fun K' hK => ?_) AllReadyH.nil
          rw [if_pos (by rfl)]
          go_simp
          have hBs : Below W'.heap.size W' (V3.alloc (Obj.cells #[.int .i64 (heightV ls r), .int .i64 (heightV ls g), .int .i64 (heightV ls u)] 50)) := hB3.alloc hB3.size _
          have hSd := HS.out _ hBs
          have p2 := HP2.out _ hBs
          refine hK.out _ _ hSd (fun _ => ?_)
          clear hK
          refine wpAnyH_ready (rs := [16]) (by kernel_rfl) (by simp) ?_
          refine AllReadyH.cons (o := _) rfl (fun K' hK => ?_) AllReadyH.nil
          refine step_append_lies _ rfl _ _ 37 rfl w.heap.size 50 i0 pixZ 3 24 Try.underlying37 hi hz0 hz1 hz2 rfl (by decide) (.slice so k scap) k XS rfl ((ownsRow_below i2 hB3).alloc _) ⟨V3.heap.size, 0, none⟩ 1 1 (pixL (heightV ls r, heightV ls g, heightV ls u)) rfl rfl (World.news_of_block (al1 V3 _)) (fun u hu => by simp [pixL] at hu; rcases hu with rfl | rfl | rfl <;> rfl) Nat.one_pos HL1.out HL2.out (Nat.le_trans hbW hBs.size) _ rfl ?_
          intro gg cap w1 hown hgrow hat hltg
          obtain ⟨hSd, p2, p2f, HFIN⟩ := HTL.out V3 gg cap w1 hB3 hgrow hown
          refine hK.out _ _ hSd (fun _ => ?_)
          clear hK
          refine wpAnyH_ready (rs := [17]) (by kernel_rfl) (by simp) ?_
          refine AllReadyH.cons (o := _) rfl (fun K' hK => ?_) AllReadyH.nil
          rw [if_pos (by rfl)]
          go_simp
          refine hK.out _ _ hSd (fun _ => ?_)
          clear hK
          refine wpAnyH_ready (rs := [18]) (by kernel_rfl) (by simp) ?_
          refine AllReadyH.cons (o := _) rfl (fun K' hK => ?_) AllReadyH.nil
          rw [if_pos (by rfl)]
          go_simp
          refine hK.out _ _ HFIN.1 (fun _ => ?_)
          clear hK
          refine wpAnyH_done (by kernel_rfl) ?_ _
          obtain ⟨f0, f1, f2, f3, f4, f5⟩ := HFIN
          go_wp2
          go_roundw
          case rel => exact ⟨k + 1, by omega, by go_num, some ⟨gg, 0, none⟩, cap, f1, by rw [HST.out]; exact f2, f3, f4, f5⟩
          case measure => simp [intOf]; omega
        case w2B =>
          rw [if_pos (by rfl)]
          go_simp
          refine (HON.out g _ g1 g2 (by assumption)).mono ?_
          rintro e V2 ⟨rfl, hb2⟩
          have hB2 : Below W'.heap.size W' V2 := hB1.trans (hb2.mono hB1.size)
          have hSd := HS.out _ hB2
          have p2 := HP2.out _ hB2
          refine hK.out _ _ hSd (fun _ => ?_)
          clear hK
          refine wpAnyH_ready (rs := [1, 13]) (by kernel_rfl) (by simp) ?_
          refine AllReadyH.cons (o := _) rfl (fun K' hK => ?w3A) (AllReadyH.cons (o := _) rfl (fun K' hK => ?w3B) AllReadyH.nil)
          case w3A =>
            rw [if_pos (by rfl)]
            go_simp
            refine hK.out _ _ hSd (fun _ => ?_)
            clear hK
            refine wpAnyH_ready (rs := [13]) (by kernel_rfl) (by simp) ?_
            refine AllReadyH.cons (o := _) rfl (fun K' hK => ?_) AllReadyH.nil
            rw [if_pos (by rfl)]
            go_simp
            refine (HON.out u _ u1 u2 (by assumption)).mono ?_
            rintro e V3 ⟨rfl, hb3⟩
            have hB3 : Below W'.heap.size W' V3 := hB2.trans (hb3.mono hB2.size)
            have hSd := HS.out _ hB3
            have p2 := HP2.out _ hB3
            refine hK.out _ _ hSd (fun _ => ?_)
            clear hK
            refine wpAnyH_take (i := 14) (oi := _) (v := .agg #[.int .i64 (heightV ls r), .int .i64 (heightV ls g), .int .i64 (heightV ls u)]) rfl (by kernel_rfl) (by kernel_rfl) (by kernel_rfl) (fun _ _ _ h => h) (Or.inl ⟨by rfl, fun v hSv => by obtain ⟨t0, t1, t2⟩ := hSv; go_simp⟩) hSd ?_
            simp only [Act.put]
            refine wpAnyH_ready (rs := [15]) (by kernel_rfl) (by simp) ?_
            refine AllReadyH.cons (o := _) rfl (fun K' hK => ?_) AllReadyH.nil
            rw [if_pos (by rfl)]
            go_simp
            have hBs : Below W'.heap.size W' (V3.alloc (Obj.cells #[.int .i64 (heightV ls r), .int .i64 (heightV ls g), .int .i64 (heightV ls u)] 50)) := hB3.alloc hB3.size _
            have hSd := HS.out _ hBs
            have p2 := HP2.out _ hBs
            refine hK.out _ _ hSd (fun _ => ?_)
            clear hK
            refine wpAnyH_ready (rs := [16]) (by kernel_rfl) (by simp) ?_
            refine AllReadyH.cons (o := _) rfl (fun K' hK => ?_) AllReadyH.nil
            refine step_append_lies _ rfl _ _ 37 rfl w.heap.size 50 i0 pixZ 3 24 Try.underlying37 hi hz0 hz1 hz2 rfl (by decide) (.slice so k scap) k XS rfl ((ownsRow_below i2 hB3).alloc _) ⟨V3.heap.size, 0, none⟩ 1 1 (pixL (heightV ls r, heightV ls g, heightV ls u)) rfl rfl (World.news_of_block (al1 V3 _)) (fun u hu => by simp [pixL] at hu; rcases hu with rfl | rfl | rfl <;> rfl) Nat.one_pos HL1.out HL2.out (Nat.le_trans hbW hBs.size) _ rfl ?_
            intro gg cap w1 hown hgrow hat hltg
            obtain ⟨hSd, p2, p2f, HFIN⟩ := HTL.out V3 gg cap w1 hB3 hgrow hown
            refine hK.out _ _ hSd (fun _ => ?_)
            clear hK
            refine wpAnyH_ready (rs := [17]) (by kernel_rfl) (by simp) ?_
            refine AllReadyH.cons (o := _) rfl (fun K' hK => ?_) AllReadyH.nil
            rw [if_pos (by rfl)]
            go_simp
            refine hK.out _ _ hSd (fun _ => ?_)
            clear hK
            refine wpAnyH_ready (rs := [18]) (by kernel_rfl) (by simp) ?_
            refine AllReadyH.cons (o := _) rfl (fun K' hK => ?_) AllReadyH.nil
            rw [if_pos (by rfl)]
            go_simp
            refine hK.out _ _ HFIN.1 (fun _ => ?_)
            clear hK
            refine wpAnyH_done (by kernel_rfl) ?_ _
            obtain ⟨f0, f1, f2, f3, f4, f5⟩ := HFIN
            go_wp2
            go_roundw
            case rel => exact ⟨k + 1, by omega, by go_num, some ⟨gg, 0, none⟩, cap, f1, by rw [HST.out]; exact f2, f3, f4, f5⟩
            case measure => simp [intOf]; omega
          case w3B =>
            rw [if_pos (by rfl)]
            go_simp
            refine (HON.out u _ u1 u2 (by assumption)).mono ?_
            rintro e V3 ⟨rfl, hb3⟩
            have hB3 : Below W'.heap.size W' V3 := hB2.trans (hb3.mono hB2.size)
            have hSd := HS.out _ hB3
            have p2 := HP2.out _ hB3
            refine hK.out _ _ hSd (fun _ => ?_)
            clear hK
            refine wpAnyH_take (i := 14) (oi := _) (v := .agg #[.int .i64 (heightV ls r), .int .i64 (heightV ls g), .int .i64 (heightV ls u)]) rfl (by kernel_rfl) (by kernel_rfl) (by kernel_rfl) (fun _ _ _ h => h) (Or.inl ⟨by rfl, fun v hSv => by obtain ⟨t0, t1, t2⟩ := hSv; go_simp⟩) hSd ?_
            simp only [Act.put]
            refine wpAnyH_ready (rs := [1, 15]) (by kernel_rfl) (by simp) ?_
            refine AllReadyH.cons (o := _) rfl (fun K' hK => ?w4A) (AllReadyH.cons (o := _) rfl (fun K' hK => ?w4B) AllReadyH.nil)
            case w4A =>
              rw [if_pos (by rfl)]
              go_simp
              refine hK.out _ _ hSd (fun _ => ?_)
              clear hK
              refine wpAnyH_ready (rs := [15]) (by kernel_rfl) (by simp) ?_
              refine AllReadyH.cons (o := _) rfl (fun K' hK => ?_) AllReadyH.nil
              rw [if_pos (by rfl)]
              go_simp
              have hBs : Below W'.heap.size W' (V3.alloc (Obj.cells #[.int .i64 (heightV ls r), .int .i64 (heightV ls g), .int .i64 (heightV ls u)] 50)) := hB3.alloc hB3.size _
              have hSd := HS.out _ hBs
              have p2 := HP2.out _ hBs
              refine hK.out _ _ hSd (fun _ => ?_)
              clear hK
              refine wpAnyH_ready (rs := [16]) (by kernel_rfl) (by simp) ?_
              refine AllReadyH.cons (o := _) rfl (fun K' hK => ?_) AllReadyH.nil
              refine step_append_lies _ rfl _ _ 37 rfl w.heap.size 50 i0 pixZ 3 24 Try.underlying37 hi hz0 hz1 hz2 rfl (by decide) (.slice so k scap) k XS rfl ((ownsRow_below i2 hB3).alloc _) ⟨V3.heap.size, 0, none⟩ 1 1 (pixL (heightV ls r, heightV ls g, heightV ls u)) rfl rfl (World.news_of_block (al1 V3 _)) (fun u hu => by simp [pixL] at hu; rcases hu with rfl | rfl | rfl <;> rfl) Nat.one_pos HL1.out HL2.out (Nat.le_trans hbW hBs.size) _ rfl ?_
              intro gg cap w1 hown hgrow hat hltg
              obtain ⟨hSd, p2, p2f, HFIN⟩ := HTL.out V3 gg cap w1 hB3 hgrow hown
              refine hK.out _ _ hSd (fun _ => ?_)
              clear hK
              refine wpAnyH_ready (rs := [17]) (by kernel_rfl) (by simp) ?_
              refine AllReadyH.cons (o := _) rfl (fun K' hK => ?_) AllReadyH.nil
              rw [if_pos (by rfl)]
              go_simp
              refine hK.out _ _ hSd (fun _ => ?_)
              clear hK
              refine wpAnyH_ready (rs := [18]) (by kernel_rfl) (by simp) ?_
              refine AllReadyH.cons (o := _) rfl (fun K' hK => ?_) AllReadyH.nil
              rw [if_pos (by rfl)]
              go_simp
              refine hK.out _ _ HFIN.1 (fun _ => ?_)
              clear hK
              refine wpAnyH_done (by kernel_rfl) ?_ _
              obtain ⟨f0, f1, f2, f3, f4, f5⟩ := HFIN
              go_wp2
              go_roundw
              case rel => exact ⟨k + 1, by omega, by go_num, some ⟨gg, 0, none⟩, cap, f1, by rw [HST.out]; exact f2, f3, f4, f5⟩
              case measure => simp [intOf]; omega
            case w4B =>
              rw [if_pos (by rfl)]
              go_simp
              have hBs : Below W'.heap.size W' (V3.alloc (Obj.cells #[.int .i64 (heightV ls r), .int .i64 (heightV ls g), .int .i64 (heightV ls u)] 50)) := hB3.alloc hB3.size _
              have hSd := HS.out _ hBs
              have p2 := HP2.out _ hBs
              refine hK.out _ _ hSd (fun _ => ?_)
              clear hK
              refine wpAnyH_ready (rs := [1]) (by kernel_rfl) (by simp) ?_
              refine AllReadyH.cons (o := _) rfl (fun K' hK => ?_) AllReadyH.nil
              rw [if_pos (by rfl)]
              go_simp
              refine hK.out _ _ hSd (fun _ => ?_)
              clear hK
              refine wpAnyH_ready (rs := [16]) (by kernel_rfl) (by simp) ?_
              refine AllReadyH.cons (o := _) rfl (fun K' hK => ?_) AllReadyH.nil
              refine step_append_lies _ rfl _ _ 37 rfl w.heap.size 50 i0 pixZ 3 24 Try.underlying37 hi hz0 hz1 hz2 rfl (by decide) (.slice so k scap) k XS rfl ((ownsRow_below i2 hB3).alloc _) ⟨V3.heap.size, 0, none⟩ 1 1 (pixL (heightV ls r, heightV ls g, heightV ls u)) rfl rfl (World.news_of_block (al1 V3 _)) (fun u hu => by simp [pixL] at hu; rcases hu with rfl | rfl | rfl <;> rfl) Nat.one_pos HL1.out HL2.out (Nat.le_trans hbW hBs.size) _ rfl ?_
              intro gg cap w1 hown hgrow hat hltg
              obtain ⟨hSd, p2, p2f, HFIN⟩ := HTL.out V3 gg cap w1 hB3 hgrow hown
              refine hK.out _ _ hSd (fun _ => ?_)
              clear hK
              refine wpAnyH_ready (rs := [17]) (by kernel_rfl) (by simp) ?_
              refine AllReadyH.cons (o := _) rfl (fun K' hK => ?_) AllReadyH.nil
              rw [if_pos (by rfl)]
              go_simp
              refine hK.out _ _ hSd (fun _ => ?_)
              clear hK
              refine wpAnyH_ready (rs := [18]) (by kernel_rfl) (by simp) ?_
              refine AllReadyH.cons (o := _) rfl (fun K' hK => ?_) AllReadyH.nil
              rw [if_pos (by rfl)]
              go_simp
              refine hK.out _ _ HFIN.1 (fun _ => ?_)
              clear hK
              refine wpAnyH_done (by kernel_rfl) ?_ _
              obtain ⟨f0, f1, f2, f3, f4, f5⟩ := HFIN
              go_wp2
              go_roundw
              case rel => exact ⟨k + 1, by omega, by go_num, some ⟨gg, 0, none⟩, cap, f1, by rw [HST.out]; exact f2, f3, f4, f5⟩
              case measure => simp [intOf]; omega
    · have hd : decide ((k : Int) < (ps.length : Int)) = false := by simp; omega
      obtain rfl : k = ps.length := by omega
      rw [List.take_of_length_le (Nat.le_refl _)] at j2
      obtain ⟨p0, p1, p2⟩ := cells3 j1
      obtain ⟨z0, z1, z2⟩ := cells3 j4
      have f0 := Lib.frozen_of_heap j4 0
      have f1 := Lib.frozen_of_heap j4 1
      have f2 := Lib.frozen_of_heap j4 2
      have hfin := set3_below j5 (show w.heap.size ≤ w.heap.size + 1 by omega) (.int .i64 W) (.int .i64 H) (.slice so ps.length scap)
      have hpx : IsPix wr (.slice so ps.length scap) (ps.map (bendP ls)) := by
        have h := IsPix.own (base := w.heap.size) (ps := ps.map (bendP ls)) (v := .slice so ps.length scap) (by rw [List.length_map]; exact j2) (by rw [List.length_map]; omega)
        exact h
      have hne : (Value.slice so ps.length scap).ownBlock ≠ some (w.heap.size + 1) := fun e => own_ne j2 j4 (by decide) e.symm
      have hpx2 := hpx.other (set3_size wr (w.heap.size + 1) (.int .i64 W) (.int .i64 H) (.slice so ps.length scap)) (fun b hb => set3_heap _ _ _ _ _ b hb) hne
      have HF := hide (Fresh.own j2)
      have HX := hide hpx2
      have HFI := hide hfin
      clear hpx hpx2 hfin hne
      go_wp2
      exact bodyPost_ret (v := .agg #[.int .i64 W, .int .i64 H, .slice so ps.length scap]) (by simp [results, Try.results39, go_sem, z0, z1, z2]) rfl ⟨_, rfl, HX.out, HFI.out, HF.out⟩

end Go.Proofs.Ytolcndchfnifhab
