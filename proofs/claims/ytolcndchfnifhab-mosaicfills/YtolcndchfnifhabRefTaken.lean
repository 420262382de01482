/- The reference's Taken. -/
import Derived.Test.YtolcndchfnifhabRefColour
namespace Go.Proofs.Ytolcndchfnifhab
set_option linter.unusedVariables false
open Go.RowKit

theorem ix0 (r g u : Int) (w : World) : (Instr.index 25 (.agg #[.int .i64 r, .int .i64 g, .int .i64 u]) (.int .i64 0)).run Try.prog w = .ok (.int .i64 r) w := by kernel_rfl
theorem ix1 (r g u : Int) (w : World) : (Instr.index 25 (.agg #[.int .i64 r, .int .i64 g, .int .i64 u]) (.int .i64 1)).run Try.prog w = .ok (.int .i64 g) w := by kernel_rfl
theorem ix2 (r g u : Int) (w : World) : (Instr.index 25 (.agg #[.int .i64 r, .int .i64 g, .int .i64 u]) (.int .i64 2)).run Try.prog w = .ok (.int .i64 u) w := by kernel_rfl

def TkJ (w : World) (W H : Nat) (qv : Value) (L : List Int) (k : Nat) (wr : World) : Prop :=
  ∃ so scap, wr.heap[w.heap.size + 2]? = some (.cells #[.int .i64 W, .int .i64 H, .slice so k scap] 24 (0, 0)) ∧ wr.ownsRow w.heap.size 3 1 (.slice so k scap) k ((L.take k).map (Value.int .i64)) ∧ wr.heap[w.heap.size]? = some (.cells #[.int .i64 W, .int .i64 H, qv] 39 (0, 0)) ∧ wr.heap[w.heap.size + 1]? = some (.cells #[.int .i64 0, .int .i64 0, .slice none 0 0] 24 (0, 0)) ∧ Below w.heap.size w wr

set_option maxRecDepth 100000 in
set_option maxHeartbeats 3200000 in
theorem taken_any (W H p : Nat) (hW1 : 1 ≤ W) (hW : W ≤ 64) (hH : H ≤ 64) (hp : p ≤ 3) (v : Value) (ps : List Px) (hlen : ps.length = H * W) (w : World) (hv : IsPix w v ps) :
    Calls Try.prog 27 #[.agg #[.int .i64 W, .int .i64 H, v], .int .i64 p] w fun e w' => ∃ r, e = .returned (.agg #[.int .i64 W, .int .i64 H, r]) ∧ IsInts w' r ((List.range ps.length).map (takeV ps W p)) ∧ Below w.heap.size w w' ∧ Fresh w.heap.size r := by
  have HLEN := hide hlen
  have hlb : ps.length ≤ 4096 := by rw [hlen]; exact Nat.le_trans (Nat.mul_le_mul hH hW) (by decide)
  have hLL : ((List.range ps.length).map (takeV ps W p)).length = ps.length := by simp
  have HLG := hide (show ∀ j, j < ps.length → ((List.range ps.length).map (takeV ps W p))[j]? = some (takeV ps W p j) from fun j hj => by simp [hj])
  obtain ⟨L, hL⟩ : ∃ L, (List.range ps.length).map (takeV ps W p) = L := ⟨_, rfl⟩
  rw [hL] at hLL HLG ⊢
  have HLL := hide hLL
  clear hL hLL
  obtain ⟨ao, ca, rfl, hla, hc⟩ := hv
  obtain ⟨i0, hi, hz0, hz1, hz2⟩ := info_parts Try.infoInt
  have HC := hide (show ∀ j, j < ps.length → ∃ bk off, ao = some ⟨bk, off, none⟩ ∧ bk < w.heap.size ∧ w.cell? ⟨bk, off + j * 3, none⟩ = some (.int .i64 (pxAt ps j).1) ∧ w.cell? ⟨bk, off + j * 3 + 1, none⟩ = some (.int .i64 (pxAt ps j).2.1) ∧ w.cell? ⟨bk, off + j * 3 + 2, none⟩ = some (.int .i64 (pxAt ps j).2.2) from fun j hj => by
    rcases hc with h | ⟨b, off, h1, h2, h3⟩
    · subst h; simp at hj
    · have := h3 j hj
      rw [pxAt_get ps j hj] at this
      exact ⟨b, off, h1, h2, this⟩)
  clear hc hlen
  go_enter Try.func27, Try.ntmps27
  go_wp2_with fail
  obtain ⟨a1, a2, a3⟩ := al3 w (Obj.cells #[.int .i64 W, .int .i64 H, .slice ao ps.length ca] 39) (Obj.cells #[.int .i64 0, .int .i64 0, .slice none 0 0] 24) (Obj.cells #[.int .i64 W, .int .i64 H, .slice none 0 0] 24)
  have hB := be3 w (Obj.cells #[.int .i64 W, .int .i64 H, .slice ao ps.length ca] 39) (Obj.cells #[.int .i64 0, .int .i64 0, .slice none 0 0] 24) (Obj.cells #[.int .i64 W, .int .i64 H, .slice none 0 0] 24)
  generalize ((w.alloc (Obj.cells #[.int .i64 W, .int .i64 H, .slice ao ps.length ca] 39)).alloc (Obj.cells #[.int .i64 0, .int .i64 0, .slice none 0 0] 24)).alloc (Obj.cells #[.int .i64 W, .int .i64 H, .slice none 0 0] 24) = U at *
  go_loopw [6] (fun i wr => ∃ k : Nat, k ≤ ps.length ∧ i = .int .i64 k ∧ TkJ w W H (.slice ao ps.length ca) L k wr) (fun i _ => ps.length - (intOf i).toNat)
  case atStart => exact ⟨0, Nat.zero_le _, rfl, none, 0, a3, World.ownsRow_nil _ _ _ _, a1, a2, hB⟩
  case round =>
    clear a1 a2 a3 hB
    obtain ⟨k, hk, rfl, so, scap, j1, j2, j3, j4, j5⟩ := hrel
    obtain ⟨q0, q1, q2⟩ := cells3 j3
    by_cases hlt : k < ps.length
    · have hd : decide ((k : Int) < (ps.length : Int)) = true := by simp; omega
      have hlI : (k : Int) < (ps.length : Int) := by omega
      obtain ⟨bk, off, rfl, hbl, c0, c1, c2⟩ := HC.out k hlt
      have HTV := hide (show takeV ps W p k = pxF (pxAt ps k) (colV p (k % W) (k / W)) from rfl)
      have hXW : k % W < W := Nat.mod_lt _ (by omega)
      have hYl : k / W ≤ 4096 := Nat.le_trans (Nat.div_le_self _ _) (by omega)
      have hm1 : (k : Int).tmod (W : Int) = ((k % W : Nat) : Int) := rfl
      have hm2 : (k : Int) % (W : Int) = ((k % W : Nat) : Int) := rfl
      have hd1 : (k : Int).tdiv (W : Int) = ((k / W : Nat) : Int) := rfl
      have hd2 : (k : Int) / (W : Int) = ((k / W : Nat) : Int) := rfl
      obtain ⟨X, hX⟩ : ∃ X, k % W = X := ⟨_, rfl⟩
      obtain ⟨Y, hY⟩ : ∃ Y, k / W = Y := ⟨_, rfl⟩
      rw [hX] at hm1 hm2 hXW HTV
      rw [hY] at hd1 hd2 hYl HTV
      have hW0 : ¬ (W = 0) := by omega
      have hwz : ((W : Int) == 0) = false := by rw [beq_eq_false_iff_ne]; omega
      have hwX : IntKind.i64.wrap (X : Int) = (X : Int) := IntWalk.i64_in _ (by omega)
      have hwY : IntKind.i64.wrap (Y : Int) = (Y : Int) := IntWalk.i64_in _ (by omega)
      have HCO := hide (fun u => colourAt_any p X Y hp (by omega) hYl u)
      have hq3 := colV_lt p X Y
      obtain ⟨q, hq⟩ : ∃ q, colV p X Y = q := ⟨_, rfl⟩
      rw [hq] at HCO HTV hq3
      obtain ⟨⟨r, g, u⟩, hpx⟩ : ∃ t, pxAt ps k = t := ⟨_, rfl⟩
      rw [hpx] at c0 c1 c2 HTV
      have HST := hide (show (L.take (k + 1)).map (Value.int .i64) = (L.take k).map (Value.int .i64) ++ [.int .i64 (pxF (r, g, u) q)] by
        have hk2 : k < L.length := by rw [HLL.out]; exact hlt
        have hg := HLG.out k hlt
        rw [List.getElem?_eq_getElem hk2] at hg
        rw [List.take_succ_eq_append_getElem hk2, Option.some.inj hg, List.map_append, HTV.out]; rfl)
      obtain ⟨XS, hXS⟩ : ∃ XS, (L.take k).map (Value.int .i64) = XS := ⟨_, rfl⟩
      rw [hXS] at j2 HST
      obtain ⟨z, hz⟩ : ∃ z, pxF (r, g, u) q = z := ⟨_, rfl⟩
      rw [hz] at HST
      have hbW := j5.size
      have HL1 := hide (show k + 1 ≤ maxLen by unfold maxLen; omega)
      have HL2 := hide (show (k + 1) * 8 ≤ 140737488355328 by omega)
      clear hX hY hq hpx hXS
      have HS := hide (show ∀ v, Below wr.heap.size wr v → v.cell? ⟨w.heap.size + 1 + 1, 2, none⟩ = some (.slice so k scap) ∧ v.cell? ⟨w.heap.size, 0, none⟩ = some (.int .i64 W) ∧ v.cell? ⟨w.heap.size, 2, none⟩ = some (.slice (some ⟨bk, off, none⟩) ps.length ca) ∧ v.cell? ⟨bk, off + k * 3, none⟩ = some (.int .i64 r) ∧ v.cell? ⟨bk, off + k * 3 + 1, none⟩ = some (.int .i64 g) ∧ v.cell? ⟨bk, off + k * 3 + 2, none⟩ = some (.int .i64 u) from fun v h => by
        obtain ⟨_, _, t2⟩ := cells3 ((h.block (w.heap.size + 2) (Array.getElem?_eq_some_iff.1 j1).1).trans j1)
        obtain ⟨y0, _, y2⟩ := cells3 ((h.block _ (Array.getElem?_eq_some_iff.1 j3).1).trans j3)
        have hw := j5.trans (h.mono j5.size)
        exact ⟨t2, y0, y2, (hw.cell (p := ⟨bk, off + k * 3, none⟩) hbl).trans c0, (hw.cell (p := ⟨bk, off + k * 3 + 1, none⟩) hbl).trans c1, (hw.cell (p := ⟨bk, off + k * 3 + 2, none⟩) hbl).trans c2⟩)
      have nq := own_ne j2 j3 (by decide)
      have nb : some bk ≠ (Value.slice so k scap).ownBlock := fun e => by have := (j2.lt bk e.symm).1; omega
      have HTL := hide (show ∀ (V1 : World) (gg cap : Nat) (w3 : World), Below wr.heap.size wr V1 → V1.grownBy w3 (Value.slice so k scap).ownBlock → w3.ownsRow w.heap.size 3 1 (.slice (some ⟨gg, 0, none⟩) (k + 1) cap) (k + 1) (XS ++ [.int .i64 z]) → (w3.cell? ⟨w.heap.size + 1 + 1, 2, none⟩ = some (.slice so k scap) ∧ w3.cell? ⟨w.heap.size, 0, none⟩ = some (.int .i64 W) ∧ w3.cell? ⟨w.heap.size, 2, none⟩ = some (.slice (some ⟨bk, off, none⟩) ps.length ca) ∧ w3.cell? ⟨bk, off + k * 3, none⟩ = some (.int .i64 r) ∧ w3.cell? ⟨bk, off + k * 3 + 1, none⟩ = some (.int .i64 g) ∧ w3.cell? ⟨bk, off + k * 3 + 2, none⟩ = some (.int .i64 u)) ∧ w3.frozen? ⟨w.heap.size + 1 + 1, 2, none⟩ = false ∧ TkJ w W H (.slice (some ⟨bk, off, none⟩) ps.length ca) L (k + 1) (w3.setCell ⟨w.heap.size + 1 + 1, 2, none⟩ (.slice (some ⟨gg, 0, none⟩) (k + 1) cap)) from fun V1 gg cap w3 h1 h2 h3 => by
        obtain ⟨t1, t2, t3, t4, t5, t6, t7⟩ := app_gen (by decide) j1 j2 j5 (Nat.le_refl _) (by omega) h1 h2 h3
        obtain ⟨y0, _, y2⟩ := cells3 ((t1 _ (Array.getElem?_eq_some_iff.1 j3).1 nq).trans j3)
        have kb := t1 bk (by omega) nb
        refine ⟨⟨t2, y0, y2, (World.cell?_of_block (a := ⟨bk, off + k * 3, none⟩) kb).trans ((j5.cell (p := ⟨bk, off + k * 3, none⟩) hbl).trans c0), (World.cell?_of_block (a := ⟨bk, off + k * 3 + 1, none⟩) kb).trans ((j5.cell (p := ⟨bk, off + k * 3 + 1, none⟩) hbl).trans c1), (World.cell?_of_block (a := ⟨bk, off + k * 3 + 2, none⟩) kb).trans ((j5.cell (p := ⟨bk, off + k * 3 + 2, none⟩) hbl).trans c2)⟩, t3, some ⟨gg, 0, none⟩, cap, t4, by rw [HST.out]; exact t5, (t7 _ (Array.getElem?_eq_some_iff.1 j3).1 nq (by omega)).trans j3, (t7 _ (Array.getElem?_eq_some_iff.1 j4).1 (own_ne j2 j4 (by decide)) (by omega)).trans j4, t6⟩)
      have HPA := hide (show ∀ v : World, Calls Try.prog 73 #[.agg #[.int .i64 r, .int .i64 g, .int .i64 u]] v fun e v' => e = .returned (.agg #[.int .i64 r, .int .i64 g, .int .i64 u]) ∧ Below v.heap.size v v' from fun v => parts_any (r, g, u) v)
      have hWd : Below wr.heap.size wr wr.drew := (Below.refl _ _).drew
      go_wp2_with fail
      have hSd := HS.out _ hWd
      clear c0 c1 c2 q0 q1 q2 hd j1 j3 j4
      have hmx : Try.prog.follows .mixedOrders = true := by kernel_rfl
      refine wp_region_last (S := fun v : World => v.cell? ⟨w.heap.size + 1 + 1, 2, none⟩ = some (.slice so k scap) ∧ v.cell? ⟨w.heap.size, 0, none⟩ = some (.int .i64 W) ∧ v.cell? ⟨w.heap.size, 2, none⟩ = some (.slice (some ⟨bk, off, none⟩) ps.length ca) ∧ v.cell? ⟨bk, off + k * 3, none⟩ = some (.int .i64 r) ∧ v.cell? ⟨bk, off + k * 3 + 1, none⟩ = some (.int .i64 g) ∧ v.cell? ⟨bk, off + k * 3 + 2, none⟩ = some (.int .i64 u)) (f := 22) hmx ?_
      show wpAnyF _ _ _ _ _ _ 23 _ _ wr.drew
      refine wpAnyF_takeD (i := 0) (oi := _) (v := ?vv1) (some 19) rfl rfl (by kernel_rfl) (by kernel_rfl) (by kernel_rfl) (by kernel_rfl) (by kernel_rfl) (fun _ _ _ h => h) (Or.inl ⟨by rfl, ?yy1⟩) hSd ?rr1
      case yy1 => (intro wq hSq; obtain ⟨_, _, _, _, _, _⟩ := hSq; go_simp <;> with_reducible rfl)
      simp only [Act.put, List.setIfInBounds_toArray, List.set_cons_succ, List.set_cons_zero]
      refine wpAnyF_takeD (i := 2) (oi := _) (v := ?vv2) (some 21) rfl rfl (by kernel_rfl) (by kernel_rfl) (by kernel_rfl) (by kernel_rfl) (by kernel_rfl) (fun _ _ _ h => h) (Or.inl ⟨by rfl, ?yy2⟩) hSd ?rr2
      case yy2 => (intro wq hSq; obtain ⟨_, _, _, _, _, _⟩ := hSq; go_simp <;> with_reducible rfl)
      simp only [Act.put, List.setIfInBounds_toArray, List.set_cons_succ, List.set_cons_zero]
      refine wpAnyF_takeD (i := 4) (oi := _) (v := ?vv3) (some 23) rfl rfl (by kernel_rfl) (by kernel_rfl) (by kernel_rfl) (by kernel_rfl) (by kernel_rfl) (fun _ _ _ h => h) (Or.inl ⟨by rfl, ?yy3⟩) hSd ?rr3
      case yy3 => (intro wq hSq; obtain ⟨_, _, _, _, _, _⟩ := hSq; go_simp <;> with_reducible rfl)
      simp only [Act.put, List.setIfInBounds_toArray, List.set_cons_succ, List.set_cons_zero]
      refine wpAnyF_takeD (i := 8) (oi := _) (v := ?vv4) (some 27) rfl rfl (by kernel_rfl) (by kernel_rfl) (by kernel_rfl) (by kernel_rfl) (by kernel_rfl) (fun _ _ _ h => h) (Or.inl ⟨by rfl, ?yy4⟩) hSd ?rr4
      case yy4 => (intro wq hSq; obtain ⟨_, _, _, _, _, _⟩ := hSq; go_simp <;> with_reducible rfl)
      simp only [Act.put, List.setIfInBounds_toArray, List.set_cons_succ, List.set_cons_zero]
      refine wpAnyF_takeD (i := 9) (oi := _) (v := ?vv5) (some 28) rfl rfl (by kernel_rfl) (by kernel_rfl) (by kernel_rfl) (by kernel_rfl) (by kernel_rfl) (fun _ _ _ h => h) (Or.inl ⟨by rfl, ?yy5⟩) hSd ?rr5
      case yy5 => (intro wq hSq; obtain ⟨_, _, _, _, _, _⟩ := hSq; go_simp <;> with_reducible rfl)
      simp only [Act.put, List.setIfInBounds_toArray, List.set_cons_succ, List.set_cons_zero]
      refine wpAnyF_takeD (i := 10) (oi := _) (v := ?vv6) (some 29) rfl rfl (by kernel_rfl) (by kernel_rfl) (by kernel_rfl) (by kernel_rfl) (by kernel_rfl) (fun _ _ _ h => h) (Or.inl ⟨by rfl, ?yy6⟩) hSd ?rr6
      case yy6 => (intro wq hSq; obtain ⟨_, _, _, _, _, _⟩ := hSq; go_simp <;> with_reducible rfl)
      simp only [Act.put, List.setIfInBounds_toArray, List.set_cons_succ, List.set_cons_zero]
      refine wpAnyF_takeD (i := 13) (oi := _) (v := ?vv7) (some 32) rfl rfl (by kernel_rfl) (by kernel_rfl) (by kernel_rfl) (by kernel_rfl) (by kernel_rfl) (fun _ _ _ h => h) (Or.inl ⟨by rfl, ?yy7⟩) hSd ?rr7
      case yy7 => (intro wq hSq; obtain ⟨_, _, _, _, _, _⟩ := hSq; go_simp <;> with_reducible rfl)
      simp only [Act.put, List.setIfInBounds_toArray, List.set_cons_succ, List.set_cons_zero]
      refine wpAnyF_takeD (i := 14) (oi := _) (v := ?vv8) (some 33) rfl rfl (by kernel_rfl) (by kernel_rfl) (by kernel_rfl) (by kernel_rfl) (by kernel_rfl) (fun _ _ _ h => h) (Or.inl ⟨by rfl, ?yy8⟩) hSd ?rr8
      case yy8 => (intro wq hSq; obtain ⟨_, _, _, _, _, _⟩ := hSq; go_simp <;> with_reducible rfl)
      simp only [Act.put, List.setIfInBounds_toArray, List.set_cons_succ, List.set_cons_zero]
      refine wpAnyF_takeD (i := 1) (oi := _) (v := ?vv9) (some 20) rfl rfl (by kernel_rfl) (by kernel_rfl) (by kernel_rfl) (by kernel_rfl) (by kernel_rfl) (fun _ _ _ h => h) (Or.inl ⟨by rfl, ?yy9⟩) hSd ?rr9
      case yy9 => (intro wq hSq; obtain ⟨_, _, _, _, _, _⟩ := hSq; go_simp <;> with_reducible rfl)
      simp only [Act.put, List.setIfInBounds_toArray, List.set_cons_succ, List.set_cons_zero]
      refine wpAnyF_takeD (i := 3) (oi := _) (v := ?vv10) (some 22) rfl rfl (by kernel_rfl) (by kernel_rfl) (by kernel_rfl) (by kernel_rfl) (by kernel_rfl) (fun _ _ _ h => h) (Or.inl ⟨by rfl, ?yy10⟩) hSd ?rr10
      case yy10 => (intro wq hSq; obtain ⟨_, _, _, _, _, _⟩ := hSq; go_simp <;> with_reducible rfl)
      simp only [Act.put, List.setIfInBounds_toArray, List.set_cons_succ, List.set_cons_zero]
      refine wpAnyF_takeD (i := 11) (oi := _) (v := ?vv11) (some 30) rfl rfl (by kernel_rfl) (by kernel_rfl) (by kernel_rfl) (by kernel_rfl) (by kernel_rfl) (fun _ _ _ h => h) (Or.inl ⟨by rfl, ?yy11⟩) hSd ?rr11
      case yy11 => (intro wq hSq; obtain ⟨_, _, _, _, _, _⟩ := hSq; go_simp <;> with_reducible rfl)
      simp only [Act.put, List.setIfInBounds_toArray, List.set_cons_succ, List.set_cons_zero]
      refine wpAnyF_takeD (i := 15) (oi := _) (v := ?vv12) (some 34) rfl rfl (by kernel_rfl) (by kernel_rfl) (by kernel_rfl) (by kernel_rfl) (by kernel_rfl) (fun _ _ _ h => h) (Or.inl ⟨by rfl, ?yy12⟩) hSd ?rr12
      case yy12 => (intro wq hSq; obtain ⟨_, _, _, _, _, _⟩ := hSq; go_simp <;> with_reducible rfl)
      simp only [Act.put, List.setIfInBounds_toArray, List.set_cons_succ, List.set_cons_zero]
      refine wpAnyF_takeD (i := 5) (oi := _) (v := ?vv13) (some 24) rfl rfl (by kernel_rfl) (by kernel_rfl) (by kernel_rfl) (by kernel_rfl) (by kernel_rfl) (fun _ _ _ h => h) (Or.inl ⟨by rfl, ?yy13⟩) hSd ?rr13
      case yy13 => (intro wq hSq; obtain ⟨_, _, _, _, _, _⟩ := hSq; go_simp <;> with_reducible rfl)
      simp only [Act.put, List.setIfInBounds_toArray, List.set_cons_succ, List.set_cons_zero]
      refine wpAnyF_takeD (i := 12) (oi := _) (v := ?vv14) (some 31) rfl rfl (by kernel_rfl) (by kernel_rfl) (by kernel_rfl) (by kernel_rfl) (by kernel_rfl) (fun _ _ _ h => h) (Or.inl ⟨by rfl, ?yy14⟩) hSd ?rr14
      case yy14 => (intro wq hSq; obtain ⟨_, _, _, _, _, _⟩ := hSq; go_simp <;> with_reducible rfl)
      simp only [Act.put, List.setIfInBounds_toArray, List.set_cons_succ, List.set_cons_zero]
      refine wpAnyF_takeD (i := 16) (oi := _) (v := ?vv15) (some 35) rfl rfl (by kernel_rfl) (by kernel_rfl) (by kernel_rfl) (by kernel_rfl) (by kernel_rfl) (fun _ _ _ h => h) (Or.inl ⟨by rfl, ?yy15⟩) hSd ?rr15
      case yy15 => (intro wq hSq; obtain ⟨_, _, _, _, _, _⟩ := hSq; go_simp <;> with_reducible rfl)
      simp only [Act.put, List.setIfInBounds_toArray, List.set_cons_succ, List.set_cons_zero]
      refine wpAnyF_takeD (i := 6) (oi := _) (v := ?vv16) (some 25) rfl rfl (by kernel_rfl) (by kernel_rfl) (by kernel_rfl) (by kernel_rfl) (by kernel_rfl) (fun _ _ _ h => h) (Or.inl ⟨by rfl, ?yy16⟩) hSd ?rr16
      case yy16 => (intro wq hSq; obtain ⟨_, _, _, _, _, _⟩ := hSq; go_simp <;> with_reducible rfl)
      simp only [Act.put, List.setIfInBounds_toArray, List.set_cons_succ, List.set_cons_zero]
      refine wpAnyF_one (i := 7) (o := _) (by kernel_rfl) rfl (fun K' hK => ?_)
      rw [if_pos (by rfl)]
      go_simp
      refine (HPA.out _).mono ?_
      rintro e V0 ⟨rfl, hb0⟩
      have hB0 : Below wr.heap.size wr V0 := hWd.trans (hb0.mono hWd.size)
      have hSd := HS.out _ hB0
      refine hK.out _ _ hSd ?_
      clear hK
      try simp only [Act.put]
      refine wpAnyF_one (i := 17) (o := _) (by kernel_rfl) rfl (fun K' hK => ?_)
      rw [if_pos (by rfl)]
      go_simp
      refine (HCO.out _).mono ?_
      rintro e Vx ⟨rfl, rfl⟩
      have hSd := hSd
      refine hK.out _ _ hSd ?_
      clear hK
      try simp only [Act.put]
      refine wpAnyF_takeD (i := 18) (oi := _) (v := .int .i64 z) (some 37) rfl rfl (by kernel_rfl) (by kernel_rfl) (by kernel_rfl) (by kernel_rfl) (by kernel_rfl) (fun _ _ _ h => h) (Or.inl ⟨by rfl, ?yy17⟩) hSd ?rr17
      case yy17 => (intro wq hSq; obtain ⟨_, _, _, _, _, _⟩ := hSq; clear HST HTL HTV HCO HS; rcases (show q = 0 ∨ q = 1 ∨ q = 2 by omega) with rfl | rfl | rfl <;> (first | (have hzz : r = z := hz; clear hz; go_simp; rw [ix0, ← hzz]; rfl) | (have hzz : g = z := hz; clear hz; go_simp; rw [ix1, ← hzz]; rfl) | (have hzz : u = z := hz; clear hz; go_simp; rw [ix2, ← hzz]; rfl)))
      simp only [Act.put, List.setIfInBounds_toArray, List.set_cons_succ, List.set_cons_zero]
      refine wpAnyF_one (i := 19) (o := _) (by kernel_rfl) rfl (fun K' hK => ?_)
      rw [if_pos (by rfl)]
      go_simp
      have hBs : Below wr.heap.size wr (V0.alloc (Obj.cells #[.int .i64 z] 3)) := hB0.alloc hB0.size _
      have hSd := HS.out _ hBs
      refine hK.out _ _ hSd ?_
      clear hK
      try simp only [Act.put]
      refine wpAnyF_one (i := 20) (o := _) (by kernel_rfl) rfl (fun K' hK => ?_)
      refine step_append_lies _ rfl _ _ 22 rfl w.heap.size 3 i0 (.int .i64 0) 1 8 Try.underlying22 hi hz0 hz1 hz2 rfl (by decide) (.slice so k scap) k XS rfl ((ownsRow_below j2 hB0).alloc _) ⟨V0.heap.size, 0, none⟩ 1 1 [.int .i64 z] rfl rfl (World.news_of_block (al1 V0 _)) (fun u hu => by simp at hu; subst hu; rfl) Nat.one_pos HL1.out HL2.out (Nat.le_trans hbW hBs.size) _ rfl ?_
      intro gg cap w3 hown hgrow hat hltg
      obtain ⟨hSx, p2f, HFIN⟩ := HTL.out _ gg cap w3 hBs hgrow hown
      have hSd := hSx
      refine hK.out _ _ hSd ?_
      clear hK
      try simp only [Act.put]
      refine wpAnyF_take (i := 21) (oi := _) (v := ?vv18) rfl (by kernel_rfl) (by kernel_rfl) (by kernel_rfl) (by kernel_rfl) (by kernel_rfl) (fun _ _ _ h => h) (Or.inl ⟨by rfl, ?yy18⟩) hSd ?rr18
      case yy18 => (intro wq hSq; obtain ⟨_, _, _, _, _, _⟩ := hSq; go_simp <;> with_reducible rfl)
      try simp only [Act.put]
      refine wpAnyF_last (o := _) (by kernel_rfl) rfl (fun K' hK => ?_)
      rw [if_pos (by rfl)]
      go_simp
      refine hK.out _ _ ?_
      clear hK
      refine wpAnyF_done (by kernel_rfl) ?_ _
      try simp only [Act.put]
      go_wp2
      go_roundw
      case rel => exact ⟨k + 1, by omega, by go_num, HFIN⟩
      case measure => simp [intOf]; omega
    · have hd : decide ((k : Int) < (ps.length : Int)) = false := by simp; omega
      obtain rfl : k = ps.length := by omega
      rw [List.take_of_length_le (by rw [HLL.out]; exact Nat.le_refl _)] at j2
      obtain ⟨p0, p1, p2⟩ := cells3 j1
      obtain ⟨z0, z1, z2⟩ := cells3 j4
      have f0 := Lib.frozen_of_heap j4 0
      have f1 := Lib.frozen_of_heap j4 1
      have f2 := Lib.frozen_of_heap j4 2
      have HFI := hide (set3_below j5 (show w.heap.size ≤ w.heap.size + 1 by omega) (.int .i64 (W : Nat)) (.int .i64 (H : Nat)) (.slice so ps.length scap))
      have hpx : IsInts wr (.slice so ps.length scap) L := IsInts.own (base := w.heap.size) (xs := L) (v := .slice so ps.length scap) (by rw [HLL.out]; exact j2) (by rw [HLL.out]; omega)
      have hne : (Value.slice so ps.length scap).ownBlock ≠ some (w.heap.size + 1) := fun e => own_ne j2 j4 (by decide) e.symm
      have HX := hide (hpx.other (set3_size wr (w.heap.size + 1) (.int .i64 (W : Nat)) (.int .i64 (H : Nat)) (.slice so ps.length scap)) (fun b hb => set3_heap _ _ _ _ _ b hb) hne)
      have HF := hide (Fresh.own j2)
      clear hpx hne
      go_wp2
      exact bodyPost_ret (v := .agg #[.int .i64 (W : Nat), .int .i64 (H : Nat), .slice so ps.length scap]) (by simp [results, Try.results27, go_sem, z0, z1, z2]) rfl ⟨_, rfl, HX.out, HFI.out, HF.out⟩

end Go.Proofs.Ytolcndchfnifhab
