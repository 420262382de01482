/- sensorgains: part 4 of what its proof needs. -/
import Derived.Test.YtolcndchfnifhabM2Sensorgains
import Derived.Test.YtolcndchfnifhabM3Sensorgains
/- grid.Mean, over whatever places a function goes through, counting what a function tells. -/
namespace Go.Proofs.Ytolcndchfnifhab
set_option linter.unusedVariables false
open Go.RowKit Go.Shelf

attribute [local go_sem] Oper.semAt_some

/-- the sum, and how many, of those that have come. -/
def mStep {N : Nat} (zs : List Int) (W H : Nat) (px py : Fin N → Int) (cnt : Fin N → Bool) (s : Int × Nat) (x : Fin N) : Int × Nat :=
  if hasB W H (px x) (py x) = true ∧ cnt x = true then (s.1 + zAt zs ((py x).toNat * W + (px x).toNat), s.2 + 1) else s
def mF {N : Nat} (zs : List Int) (W H : Nat) (px py : Fin N → Int) (cnt : Fin N → Bool) (pre : List (Fin N)) : Int × Nat := pre.foldl (mStep zs W H px py cnt) (0, 0)
theorem mF_snoc {N : Nat} (zs : List Int) (W H : Nat) (px py : Fin N → Int) (cnt : Fin N → Bool) (pre : List (Fin N)) (x : Fin N) : mF zs W H px py cnt (pre ++ [x]) = mStep zs W H px py cnt (mF zs W H px py cnt pre) x := by simp [mF]
theorem mF_range {N : Nat} {zs : List Int} (h : allIn 0 65535 zs = true) (W H : Nat) (px py : Fin N → Int) (cnt : Fin N → Bool) (pre : List (Fin N)) (s : Int × Nat) (n : Nat) (h1 : 0 ≤ s.1) (h2 : s.1 ≤ s.2 * 65535) (h3 : s.2 ≤ n) :
    0 ≤ (pre.foldl (mStep zs W H px py cnt) s).1 ∧ (pre.foldl (mStep zs W H px py cnt) s).1 ≤ (pre.foldl (mStep zs W H px py cnt) s).2 * 65535 ∧ (pre.foldl (mStep zs W H px py cnt) s).2 ≤ n + pre.length := by
  induction pre generalizing s n with
  | nil => exact ⟨h1, h2, h3⟩
  | cons x pre ih =>
    simp only [List.foldl_cons, List.length_cons]
    have hz := zAt_ok h ((py x).toNat * W + (px x).toNat)
    have hs : 0 ≤ (mStep zs W H px py cnt s x).1 ∧ (mStep zs W H px py cnt s x).1 ≤ (mStep zs W H px py cnt s x).2 * 65535 ∧ (mStep zs W H px py cnt s x).2 ≤ n + 1 := by
      unfold mStep
      split
      · refine ⟨?_, ?_, ?_⟩
        · show 0 ≤ s.1 + zAt zs ((py x).toNat * W + (px x).toNat); omega
        · show s.1 + zAt zs ((py x).toNat * W + (px x).toNat) ≤ ((s.2 + 1 : Nat) : Int) * 65535; omega
        · show s.2 + 1 ≤ n + 1; omega
      · exact ⟨h1, h2, by omega⟩
    have := ih (mStep zs W H px py cnt s x) (n + 1) hs.1 hs.2.1 hs.2.2
    refine ⟨this.1, this.2.1, by omega⟩
def meanV {N : Nat} (zs : List Int) (W H : Nat) (px py : Fin N → Int) (cnt : Fin N → Bool) : Int :=
  if (mF zs W H px py cnt (List.finRange N)).2 = 0 then 0 else (mF zs W H px py cnt (List.finRange N)).1 / ((mF zs W H px py cnt (List.finRange N)).2 : Int)

set_option maxRecDepth 100000 in
set_option maxHeartbeats 4000000 in
theorem mean_any (N W H bk off ca : Nat) (hN : N ≤ 8) (hW1 : 1 ≤ W) (hW : W ≤ 64) (hH1 : 1 ≤ H) (hH : H ≤ 64) (zs : List Int) (hlen : zs.length = H * W) (hzs : allIn 0 65535 zs = true) (gf cf Bs : Nat) (lb caps : Array Value) (px py : Fin N → Int) (cnt : Fin N → Bool) (w : World)
    (egg : ∀ args w, (callFunc gf args).run Try.prog w = .ok (.enter gf args) w) (egc : ∀ args w, (callFunc cf args).run Try.prog w = .ok (.enter cf args) w) (hBs : Bs < w.heap.size)
    (hbk : bk < w.heap.size) (hcell : ∀ j, j < zs.length → w.cell? ⟨bk, off + j, none⟩ = some (.int .i64 (zAt zs j)))
    (hseq : ∀ V, Below w.heap.size w V → SeqStopsK Fence.wide (3 - 1) Try.prog gf lb (fun x : Fin N => #[Value.agg #[.int .i64 (px x), .int .i64 (py x)]]) (KeepB Bs) (fun ys => ys = List.finRange N) (fun pre => pre <+: List.finRange N) N V)
    (hcnt : ∀ (x : Fin N) (V : World), hasB W H (px x) (py x) = true → Below w.heap.size w V → Calls Try.prog cf (#[.agg #[.int .i64 (px x), .int .i64 (py x)]] ++ caps) V fun e V' => e = .returned (.bool (cnt x)) ∧ Below V.heap.size V V') :
    Calls Try.prog 108 #[.agg #[.int .i64 W, .int .i64 H, .slice (some ⟨bk, off, none⟩) zs.length ca], .func (.func gf) #[] lb, .func (.func cf) #[] caps] w fun e w' => e = .returned (.int .i64 (meanV zs W H px py cnt)) ∧ Below w.heap.size w w' := by
  have hl4 : zs.length ≤ 4096 := by rw [hlen]; exact Nat.le_trans (Nat.mul_le_mul hH hW) (by decide)
  have HLEN := hide hlen
  have HZS := hide hzs
  have HC := hide hcell
  have HSEQ := hide hseq
  have HCNT := hide hcnt
  clear hlen hzs hcell hseq hcnt
  refine (callsIn_wide (n := 3)).1 ?_
  refine callsIn_of_wp_marks Try.func108 rfl trivial ?_ rfl
  simp only [Try.ntmps108, List.size_toArray, List.length_cons, List.length_nil, Nat.reduceAdd, Nat.reduceSub, Array.replicate_succ, Array.replicate_zero, List.push_toArray, List.append_toArray, List.nil_append, List.cons_append]
  gi_wp2_with fail
  obtain ⟨a1, a2, a3, a4⟩ := al4 w (Obj.cells #[.int .i64 W, .int .i64 H, .slice (some ⟨bk, off, none⟩) zs.length ca] 24) (Obj.cells #[.func (.func cf) #[] caps] 130) (Obj.cells #[.int .i64 W, .int .i64 H] 91) (Obj.cells #[.int .i64 0] 3)
  have hB4 := be4 w (Obj.cells #[.int .i64 W, .int .i64 H, .slice (some ⟨bk, off, none⟩) zs.length ca] 24) (Obj.cells #[.func (.func cf) #[] caps] 130) (Obj.cells #[.int .i64 W, .int .i64 H] 91) (Obj.cells #[.int .i64 0] 3)
  have hs4 : ((((w.alloc (Obj.cells #[.int .i64 W, .int .i64 H, .slice (some ⟨bk, off, none⟩) zs.length ca] 24)).alloc (Obj.cells #[.func (.func cf) #[] caps] 130)).alloc (Obj.cells #[.int .i64 W, .int .i64 H] 91)).alloc (Obj.cells #[.int .i64 0] 3)).heap.size = w.heap.size + 4 := by simp
  generalize (((w.alloc (Obj.cells #[.int .i64 W, .int .i64 H, .slice (some ⟨bk, off, none⟩) zs.length ca] 24)).alloc (Obj.cells #[.func (.func cf) #[] caps] 130)).alloc (Obj.cells #[.int .i64 W, .int .i64 H] 91)).alloc (Obj.cells #[.int .i64 0] 3) = U4 at *
  have b1 := (Below.heap_alloc U4 (Obj.cells #[.int .i64 0] 3) w.heap.size (by omega)).trans a1
  have b2 := (Below.heap_alloc U4 (Obj.cells #[.int .i64 0] 3) (w.heap.size + 1) (by omega)).trans a2
  have b3 := (Below.heap_alloc U4 (Obj.cells #[.int .i64 0] 3) (w.heap.size + 2) (by omega)).trans a3
  have b4 := (Below.heap_alloc U4 (Obj.cells #[.int .i64 0] 3) (w.heap.size + 3) (by omega)).trans a4
  have b5 : (U4.alloc (Obj.cells #[.int .i64 0] 3)).heap[w.heap.size + 4]? = some (Obj.cells #[.int .i64 0] 3) := by have h := al1 U4 (Obj.cells #[.int .i64 0] 3); rw [hs4] at h; exact h
  have hB0 := bel_trans hB4 (bel_alloc U4 (Obj.cells #[.int .i64 0] 3))
  have hs0 : w.heap.size + 5 ≤ (U4.alloc (Obj.cells #[.int .i64 0] 3)).heap.size := by simp; omega
  clear a1 a2 a3 a4 hB4 hs4
  generalize U4.alloc (Obj.cells #[.int .i64 0] 3) = W0 at *
  refine wpIn_rangeFunc_ownH (α := Fin N) rfl (show 1 ≤ 3 by omega) (gf := gf) (lb := lb) rfl trivial egg
    (HSEQ.out W0 hB0) (fun {A B C} h k => h.trans' k) (fun X l o o' hl _ _ _ => keepB_put (by omega)) (Below.refl _ _) (fun _ => rfl)
    (fun pre W' => W'.heap[w.heap.size + 3]? = some (.cells #[.int .i64 (mF zs W H px py cnt pre).1] 3 (0, 0)) ∧ W'.heap[w.heap.size + 4]? = some (.cells #[.int .i64 ((mF zs W H px py cnt pre).2 : Nat)] 3 (0, 0)) ∧ W'.heap[w.heap.size]? = some (.cells #[.int .i64 W, .int .i64 H, .slice (some ⟨bk, off, none⟩) zs.length ca] 24 (0, 0)) ∧ W'.heap[w.heap.size + 1]? = some (.cells #[.func (.func cf) #[] caps] 130 (0, 0)) ∧ W'.heap[w.heap.size + 2]? = some (.cells #[.int .i64 W, .int .i64 H] 91 (0, 0)) ∧ Below w.heap.size w W')
    (fun _ _ _ => False)
    (fun s X Y row ⟨c1, c2, c3, c4, c5, c6⟩ hg hr => ⟨own_keep hg hr c1, own_keep hg hr c2, own_keep hg hr c3, own_keep hg hr c4, own_keep hg hr c5, ownFrom_below (β := Unit) (Nat.le_refl _) (by omega) () X Y row c6 hg hr⟩)
    (fun _ _ _ _ _ hs _ _ => hs)
    ⟨b4, b5, b1, b2, b3, hB0⟩
    (fun x a' W' => ∃ Bx, w.heap.size + 5 ≤ Bx ∧ W'.heap[Bx]? = some (.cells #[.int .i64 (px x), .int .i64 (py x)] 93 (0, 0)) ∧ a' = { tmps := #[.agg #[.int .i64 W, .int .i64 H, .slice (some ⟨bk, off, none⟩) zs.length ca], .func (.func gf) #[] lb, .func (.func cf) #[] caps, .pointer (some ⟨w.heap.size, 0, none⟩), undef, .pointer (some ⟨w.heap.size + 1, 0, none⟩), .int .i64 0, .pointer (some ⟨w.heap.size + 1 + 1, 0, none⟩), .pointer (some ⟨w.heap.size + 1 + 1 + 1, 0, none⟩), .pointer (some ⟨w.heap.size + 1 + 1 + 1 + 1, 0, none⟩), .pointer (some ⟨Bx, 0, none⟩), .pointer (some ⟨w.heap.size, 0, none⟩), .int .i64 W, .pointer (some ⟨w.heap.size, 1, none⟩), .int .i64 H, .agg #[.int .i64 W, .int .i64 H], .func (.func gf) #[] lb, .agg #[.int .i64 (px x), .int .i64 (py x)], undef, undef, undef, undef, undef, undef, undef, undef, undef, undef, undef, undef, undef, undef, undef, undef, undef, undef, undef, undef, undef, undef, undef, undef], defers := [] })
    (fun x a' _ X Y row ⟨Bx, c1, c2, c3⟩ hg hr => ⟨Bx, c1, own_keep hg hr c2, c3⟩)
    ?assign ?body ?done ?stop
  case assign =>
    rintro l pre x W' K ⟨i1, i2, i3, i4, i5, i6⟩ hK
    have hl1 := (Array.getElem?_eq_some_iff.1 i1).1
    have hl2 := (Array.getElem?_eq_some_iff.1 i2).1
    have hl3 := (Array.getElem?_eq_some_iff.1 i3).1
    have hl4 := (Array.getElem?_eq_some_iff.1 i4).1
    have hl5 := (Array.getElem?_eq_some_iff.1 i5).1
    have hl6 := i6.size
    gi_wp2
    exact hK _ _ ((KeepsOthers.alloc _ _).from _) (Below.heap_alloc _ _ _ (by omega)) ⟨(Below.heap_alloc _ _ _ hl1).trans i1, (Below.heap_alloc _ _ _ hl2).trans i2, (Below.heap_alloc _ _ _ hl3).trans i3, (Below.heap_alloc _ _ _ hl4).trans i4, (Below.heap_alloc _ _ _ hl5).trans i5, i6.alloc hl6 _⟩ ⟨W'.heap.size, by omega, al1 W' _, rfl⟩
  case body =>
    rintro l pre x a' W' hl ⟨rr, hrr⟩ ⟨i1, i2, i3, i4, i5, i6⟩ ⟨Bx, hBx, bX, rfl⟩ hlt
    have HSN := hide (mF_snoc zs W H px py cnt pre x)
    have hr : 0 ≤ (mF zs W H px py cnt pre).1 ∧ (mF zs W H px py cnt pre).1 ≤ (mF zs W H px py cnt pre).2 * 65535 ∧ (mF zs W H px py cnt pre).2 ≤ 0 + pre.length := mF_range HZS.out W H px py cnt pre (0, 0) 0 (Int.le_refl _) (by decide) (Nat.le_refl _)
    obtain ⟨⟨sm, nn⟩, hsn⟩ : ∃ t, mF zs W H px py cnt pre = t := ⟨_, rfl⟩
    rw [hsn] at i1 i2 HSN hr
    obtain ⟨hr1, hr2, hr3⟩ := hr
    simp only at hr1 hr2 hr3 i1 i2
    clear hsn
    have HCN := hide (fun V h1 h2 => HCNT.out x V h1 h2)
    have HMS := hide (show mStep zs W H px py cnt (sm, nn) x = if hasB W H (px x) (py x) = true ∧ cnt x = true then (sm + zAt zs ((py x).toNat * W + (px x).toNat), nn + 1) else (sm, nn) from rfl)
    obtain ⟨xa, hxa⟩ : ∃ xa, px x = xa := ⟨_, rfl⟩
    obtain ⟨yb, hyb⟩ : ∃ yb, py x = yb := ⟨_, rfl⟩
    obtain ⟨cx, hcx⟩ : ∃ cx, cnt x = cx := ⟨_, rfl⟩
    rw [hxa, hyb] at bX ⊢
    rw [hxa, hyb, hcx] at HCN HMS
    clear hxa hyb hcx
    have hl1 := (Array.getElem?_eq_some_iff.1 i1).1
    have hl2 := (Array.getElem?_eq_some_iff.1 i2).1
    have hl3 := (Array.getElem?_eq_some_iff.1 i3).1
    have hl4 := (Array.getElem?_eq_some_iff.1 i4).1
    have hl5 := (Array.getElem?_eq_some_iff.1 i5).1
    have hlX := (Array.getElem?_eq_some_iff.1 bX).1
    have hsz := i6.size
    have g0 : W'.cell? ⟨w.heap.size + 1 + 1, 0, none⟩ = some (.int .i64 W) := by rw [Lib.cell_of_heap (b := w.heap.size + 1 + 1) i5]; rfl
    have g1 : W'.cell? ⟨w.heap.size + 1 + 1, 1, none⟩ = some (.int .i64 H) := by rw [Lib.cell_of_heap (b := w.heap.size + 1 + 1) i5]; rfl
    have x0 : W'.cell? ⟨Bx, 0, none⟩ = some (.int .i64 xa) := by rw [Lib.cell_of_heap bX]; rfl
    have x1 : W'.cell? ⟨Bx, 1, none⟩ = some (.int .i64 yb) := by rw [Lib.cell_of_heap bX]; rfl
    have HEND0 := hide (show ∀ V, Below W'.heap.size W' V → mF zs W H px py cnt (pre ++ [x]) = (sm, nn) → KeepsFrom W0.heap.size W' V ∧ KeepB Bs W' V ∧ (V.heap[w.heap.size + 3]? = some (.cells #[.int .i64 (mF zs W H px py cnt (pre ++ [x])).1] 3 (0, 0)) ∧ V.heap[w.heap.size + 4]? = some (.cells #[.int .i64 ((mF zs W H px py cnt (pre ++ [x])).2 : Nat)] 3 (0, 0)) ∧ V.heap[w.heap.size]? = some (.cells #[.int .i64 W, .int .i64 H, .slice (some ⟨bk, off, none⟩) zs.length ca] 24 (0, 0)) ∧ V.heap[w.heap.size + 1]? = some (.cells #[.func (.func cf) #[] caps] 130 (0, 0)) ∧ V.heap[w.heap.size + 2]? = some (.cells #[.int .i64 W, .int .i64 H] 91 (0, 0)) ∧ Below w.heap.size w V) from fun V h hm => by
      rw [hm]
      exact ⟨⟨h.size, fun k o _ hk _ => (h.block k (Array.getElem?_eq_some_iff.1 hk).1).trans hk⟩, h.block Bs (by omega), (h.block _ hl1).trans i1, (h.block _ hl2).trans i2, (h.block _ hl3).trans i3, (h.block _ hl4).trans i4, (h.block _ hl5).trans i5, i6.trans (h.mono hsz)⟩)
    have HEND1 := hide (show ∀ V (z : Int), Below W'.heap.size W' V → mF zs W H px py cnt (pre ++ [x]) = (sm + z, nn + 1) → KeepsFrom W0.heap.size W' ((V.setCell ⟨w.heap.size + 1 + 1 + 1, 0, none⟩ (.int .i64 (sm + z))).setCell ⟨w.heap.size + 1 + 1 + 1 + 1, 0, none⟩ (.int .i64 ((nn + 1 : Nat) : Int))) ∧ KeepB Bs W' ((V.setCell ⟨w.heap.size + 1 + 1 + 1, 0, none⟩ (.int .i64 (sm + z))).setCell ⟨w.heap.size + 1 + 1 + 1 + 1, 0, none⟩ (.int .i64 ((nn + 1 : Nat) : Int))) ∧ (((V.setCell ⟨w.heap.size + 1 + 1 + 1, 0, none⟩ (.int .i64 (sm + z))).setCell ⟨w.heap.size + 1 + 1 + 1 + 1, 0, none⟩ (.int .i64 ((nn + 1 : Nat) : Int))).heap[w.heap.size + 3]? = some (.cells #[.int .i64 (mF zs W H px py cnt (pre ++ [x])).1] 3 (0, 0)) ∧ ((V.setCell ⟨w.heap.size + 1 + 1 + 1, 0, none⟩ (.int .i64 (sm + z))).setCell ⟨w.heap.size + 1 + 1 + 1 + 1, 0, none⟩ (.int .i64 ((nn + 1 : Nat) : Int))).heap[w.heap.size + 4]? = some (.cells #[.int .i64 ((mF zs W H px py cnt (pre ++ [x])).2 : Nat)] 3 (0, 0)) ∧ ((V.setCell ⟨w.heap.size + 1 + 1 + 1, 0, none⟩ (.int .i64 (sm + z))).setCell ⟨w.heap.size + 1 + 1 + 1 + 1, 0, none⟩ (.int .i64 ((nn + 1 : Nat) : Int))).heap[w.heap.size]? = some (.cells #[.int .i64 W, .int .i64 H, .slice (some ⟨bk, off, none⟩) zs.length ca] 24 (0, 0)) ∧ ((V.setCell ⟨w.heap.size + 1 + 1 + 1, 0, none⟩ (.int .i64 (sm + z))).setCell ⟨w.heap.size + 1 + 1 + 1 + 1, 0, none⟩ (.int .i64 ((nn + 1 : Nat) : Int))).heap[w.heap.size + 1]? = some (.cells #[.func (.func cf) #[] caps] 130 (0, 0)) ∧ ((V.setCell ⟨w.heap.size + 1 + 1 + 1, 0, none⟩ (.int .i64 (sm + z))).setCell ⟨w.heap.size + 1 + 1 + 1 + 1, 0, none⟩ (.int .i64 ((nn + 1 : Nat) : Int))).heap[w.heap.size + 2]? = some (.cells #[.int .i64 W, .int .i64 H] 91 (0, 0)) ∧ Below w.heap.size w ((V.setCell ⟨w.heap.size + 1 + 1 + 1, 0, none⟩ (.int .i64 (sm + z))).setCell ⟨w.heap.size + 1 + 1 + 1 + 1, 0, none⟩ (.int .i64 ((nn + 1 : Nat) : Int)))) from fun V z h hm => by
      rw [hm]
      have k3 := (h.block _ hl1).trans i1
      have k4 := (h.block _ hl2).trans i2
      have h3 := heap_setCell_same V (w.heap.size + 3) 0 _ _ (.int .i64 (sm + z)) k3
      have o3 : ∀ b, b ≠ w.heap.size + 3 → (V.setCell ⟨w.heap.size + 3, 0, none⟩ (.int .i64 (sm + z))).heap[b]? = V.heap[b]? := fun b hb => Below.heap_setCell _ _ _ _ hb
      have k4' := (o3 (w.heap.size + 4) (by omega)).trans k4
      have h4 := heap_setCell_same (V.setCell ⟨w.heap.size + 3, 0, none⟩ (.int .i64 (sm + z))) (w.heap.size + 4) 0 _ _ (.int .i64 ((nn + 1 : Nat) : Int)) k4'
      have o4 : ∀ b, b ≠ w.heap.size + 4 → ((V.setCell ⟨w.heap.size + 3, 0, none⟩ (.int .i64 (sm + z))).setCell ⟨w.heap.size + 4, 0, none⟩ (.int .i64 ((nn + 1 : Nat) : Int))).heap[b]? = (V.setCell ⟨w.heap.size + 3, 0, none⟩ (.int .i64 (sm + z))).heap[b]? := fun b hb => Below.heap_setCell _ _ _ _ hb
      have oo : ∀ b, b ≠ w.heap.size + 3 → b ≠ w.heap.size + 4 → b < W'.heap.size → ((V.setCell ⟨w.heap.size + 3, 0, none⟩ (.int .i64 (sm + z))).setCell ⟨w.heap.size + 4, 0, none⟩ (.int .i64 ((nn + 1 : Nat) : Int))).heap[b]? = W'.heap[b]? := fun b h1 h2 h5 => (o4 b h2).trans ((o3 b h1).trans (h.block b h5))
      refine ⟨⟨?_, fun k o hkB hk hoc => ?_⟩, oo Bs (by omega) (by omega) (by omega), ?_, ?_, (oo _ (by omega) (by omega) hl3).trans i3, (oo _ (by omega) (by omega) hl4).trans i4, (oo _ (by omega) (by omega) hl5).trans i5, ?_⟩
      · have := h.size; simpa [World.setCell] using this
      · exact (oo k (by omega) (by omega) (Array.getElem?_eq_some_iff.1 hk).1).trans hk
      · exact (o4 _ (by omega)).trans (by rw [h3]; rfl)
      · show ((V.setCell ⟨w.heap.size + 3, 0, none⟩ (.int .i64 (sm + z))).setCell ⟨w.heap.size + 4, 0, none⟩ (.int .i64 ((nn + 1 : Nat) : Int))).heap[w.heap.size + 4]? = _
        rw [h4]; rfl
      · exact ((i6.trans (h.mono hsz)).setCell (p := ⟨w.heap.size + 3, 0, none⟩) (by show w.heap.size ≤ w.heap.size + 3; omega) _).setCell (p := ⟨w.heap.size + 4, 0, none⟩) (by show w.heap.size ≤ w.heap.size + 4; omega) _)
    gi_wp2_with fail
    refine ⟨trivial, ?_⟩
    refine (CallsIn.inRound l (callsIn_wide.2 (has_any W H xa yb _))).mono ?_
    rintro e V1 ⟨rfl, hb1⟩
    by_cases hh : hasB W H xa yb = true
    · rw [hh]
      have q0 : V1.cell? ⟨w.heap.size + 1, 0, none⟩ = some (.func (.func cf) #[] caps) := by rw [Lib.cell_of_heap ((hb1.block _ hl4).trans i4)]; rfl
      have q1 : V1.cell? ⟨Bx, 0, none⟩ = some (.int .i64 xa) := by rw [Lib.cell_of_heap ((hb1.block _ hlX).trans bX)]; rfl
      have q2 : V1.cell? ⟨Bx, 1, none⟩ = some (.int .i64 yb) := by rw [Lib.cell_of_heap ((hb1.block _ hlX).trans bX)]; rfl
      gi_wp2_with fail
      refine ⟨trivial, ?_⟩
      refine (CallsIn.inRound l (callsIn_wide.2 (HCN.out _ hh (i6.trans (hb1.mono hsz))))).mono ?_
      rintro e V2 ⟨rfl, hb2⟩
      have hb12 := bel_trans hb1 hb2
      cases hcx : cx with
      | false =>
        have HM0 := hide (show mF zs W H px py cnt (pre ++ [x]) = (sm, nn) by rw [HSN.out, HMS.out, hcx]; simp)
        gi_wp2
        exact HEND0.out _ hb12 HM0.out
      | true =>
        obtain ⟨hx0, hx1, hy0, hy1⟩ : 0 ≤ xa ∧ xa < W ∧ 0 ≤ yb ∧ yb < H := by simpa [hasB] using hh
        have HM1 := hide (show mF zs W H px py cnt (pre ++ [x]) = (sm + zAt zs (yb.toNat * W + xa.toNat), nn + 1) by rw [HSN.out, HMS.out, hcx, hh]; simp)
        obtain ⟨X, rfl⟩ := Int.eq_ofNat_of_zero_le hx0
        obtain ⟨Y, rfl⟩ := Int.eq_ofNat_of_zero_le hy0
        rw [Int.toNat_natCast, Int.toNat_natCast] at HM1
        have hkl : Y * W + X < zs.length := by
          have h1 : (Y + 1) * W ≤ H * W := Nat.mul_le_mul_right _ (by omega)
          rw [Nat.succ_mul] at h1
          rw [HLEN.out]; omega
        obtain ⟨K1, hK1⟩ : ∃ K1, Y * W + X = K1 := ⟨_, rfl⟩
        rw [hK1] at HM1 hkl
        have HIX := hide (fun v => index_any W H X Y W K1 rfl hK1 (by omega) v)
        have hz := zAt_ok HZS.out K1
        have hcz := HC.out K1 hkl
        obtain ⟨z, hz0⟩ : ∃ z, zAt zs K1 = z := ⟨_, rfl⟩
        rw [hz0] at hz hcz HM1
        obtain ⟨hz1, hz2⟩ := hz
        clear hz0 hK1 x0 x1 g0 g1 q0 q1 q2
        have HS := hide (show ∀ v, Below W'.heap.size W' v → v.cell? ⟨w.heap.size + 1 + 1 + 1, 0, none⟩ = some (.int .i64 sm) ∧ v.cell? ⟨w.heap.size, 2, none⟩ = some (.slice (some ⟨bk, off, none⟩) zs.length ca) ∧ v.cell? ⟨w.heap.size + 1 + 1, 0, none⟩ = some (.int .i64 W) ∧ v.cell? ⟨w.heap.size + 1 + 1, 1, none⟩ = some (.int .i64 H) ∧ v.cell? ⟨Bx, 0, none⟩ = some (.int .i64 (X : Nat)) ∧ v.cell? ⟨Bx, 1, none⟩ = some (.int .i64 (Y : Nat)) ∧ v.cell? ⟨bk, off + K1, none⟩ = some (.int .i64 z) from fun v h => by
          obtain ⟨_, _, t2⟩ := cells3 ((h.block _ hl3).trans i3)
          have t5 := (h.block _ hl5).trans i5
          have tx := (h.block _ hlX).trans bX
          exact ⟨by rw [Lib.cell_of_heap (b := w.heap.size + 1 + 1 + 1) ((h.block _ hl1).trans i1)]; rfl, t2, by rw [Lib.cell_of_heap (b := w.heap.size + 1 + 1) t5]; rfl, by rw [Lib.cell_of_heap (b := w.heap.size + 1 + 1) t5]; rfl, by rw [Lib.cell_of_heap tx]; rfl, by rw [Lib.cell_of_heap tx]; rfl, ((i6.trans (h.mono hsz)).cell (p := ⟨bk, off + K1, none⟩) hbk).trans hcz⟩)
        have HF := hide (show ∀ v, Below W'.heap.size W' v → v.frozen? ⟨w.heap.size + 1 + 1 + 1, 0, none⟩ = false ∧ v.cell? ⟨w.heap.size + 1 + 1 + 1, 0, none⟩ = some (.int .i64 sm) ∧ v.frozen? ⟨w.heap.size + 1 + 1 + 1 + 1, 0, none⟩ = false ∧ v.cell? ⟨w.heap.size + 1 + 1 + 1 + 1, 0, none⟩ = some (.int .i64 (nn : Nat)) from fun v h => by
          have t3 := (h.block _ hl1).trans i1
          have t4 := (h.block _ hl2).trans i2
          exact ⟨Lib.frozen_of_heap (b := w.heap.size + 1 + 1 + 1) t3 0, by rw [Lib.cell_of_heap (b := w.heap.size + 1 + 1 + 1) t3]; rfl, Lib.frozen_of_heap (b := w.heap.size + 1 + 1 + 1 + 1) t4 0, by rw [Lib.cell_of_heap (b := w.heap.size + 1 + 1 + 1 + 1) t4]; rfl⟩)
        have hws : IntKind.i64.wrap (sm + z) = sm + z := IntWalk.i64_in _ (by omega)
        have hwn : IntKind.i64.wrap ((nn : Int) + 1) = ((nn + 1 : Nat) : Int) := (IntWalk.i64_in _ (by omega)).trans (by omega)
        have hklI : (K1 : Int) < (zs.length : Int) := by omega
        have hWd : Below W'.heap.size W' V2.drew := hb12.drew
        have hSd := HS.out _ hWd
        have hmx : Try.prog.follows .mixedOrders = true := by kernel_rfl
        gi_wp2_with fail
        refine wpIn_region_last (S := fun v : World => v.cell? ⟨w.heap.size + 1 + 1 + 1, 0, none⟩ = some (.int .i64 sm) ∧ v.cell? ⟨w.heap.size, 2, none⟩ = some (.slice (some ⟨bk, off, none⟩) zs.length ca) ∧ v.cell? ⟨w.heap.size + 1 + 1, 0, none⟩ = some (.int .i64 W) ∧ v.cell? ⟨w.heap.size + 1 + 1, 1, none⟩ = some (.int .i64 H) ∧ v.cell? ⟨Bx, 0, none⟩ = some (.int .i64 (X : Nat)) ∧ v.cell? ⟨Bx, 1, none⟩ = some (.int .i64 (Y : Nat)) ∧ v.cell? ⟨bk, off + K1, none⟩ = some (.int .i64 z)) (f := 9) hmx ?nd ?no ?_
        case nd => exact noDefer_of (by kernel_rfl)
        case no => rintro ⟨_, _, h⟩; exact h
        show wpAnyF _ _ _ _ _ _ 10 _ _ V2.drew
        refine wpAnyF_take (i := 0) (oi := _) (v := ?vv1) rfl (by kernel_rfl) (by kernel_rfl) (by kernel_rfl) (by kernel_rfl) (by kernel_rfl) (fun _ _ _ h => h) (Or.inl ⟨by rfl, ?yy1⟩) hSd ?rr1
        case yy1 => (intro wq hSq; obtain ⟨_, _, _, _, _, _, _⟩ := hSq; go_simp <;> with_reducible rfl)
        try simp only [Act.put]
        refine wpAnyF_take (i := 1) (oi := _) (v := ?vv2) rfl (by kernel_rfl) (by kernel_rfl) (by kernel_rfl) (by kernel_rfl) (by kernel_rfl) (fun _ _ _ h => h) (Or.inl ⟨by rfl, ?yy2⟩) hSd ?rr2
        case yy2 => (intro wq hSq; obtain ⟨_, _, _, _, _, _, _⟩ := hSq; go_simp <;> with_reducible rfl)
        try simp only [Act.put]
        refine wpAnyF_take (i := 2) (oi := _) (v := ?vv3) rfl (by kernel_rfl) (by kernel_rfl) (by kernel_rfl) (by kernel_rfl) (by kernel_rfl) (fun _ _ _ h => h) (Or.inl ⟨by rfl, ?yy3⟩) hSd ?rr3
        case yy3 => (intro wq hSq; obtain ⟨_, _, _, _, _, _, _⟩ := hSq; go_simp <;> with_reducible rfl)
        try simp only [Act.put]
        refine wpAnyF_take (i := 3) (oi := _) (v := ?vv4) rfl (by kernel_rfl) (by kernel_rfl) (by kernel_rfl) (by kernel_rfl) (by kernel_rfl) (fun _ _ _ h => h) (Or.inl ⟨by rfl, ?yy4⟩) hSd ?rr4
        case yy4 => (intro wq hSq; obtain ⟨_, _, _, _, _, _, _⟩ := hSq; go_simp <;> with_reducible rfl)
        try simp only [Act.put]
        refine wpAnyF_take (i := 4) (oi := _) (v := ?vv5) rfl (by kernel_rfl) (by kernel_rfl) (by kernel_rfl) (by kernel_rfl) (by kernel_rfl) (fun _ _ _ h => h) (Or.inl ⟨by rfl, ?yy5⟩) hSd ?rr5
        case yy5 => (intro wq hSq; obtain ⟨_, _, _, _, _, _, _⟩ := hSq; go_simp <;> with_reducible rfl)
        try simp only [Act.put]
        refine wpAnyF_one (i := 5) (o := _) (by kernel_rfl) rfl (fun K' hK => ?_)
        rw [if_pos (by rfl)]
        go_simp
        refine (HIX.out _).mono ?_
        rintro e V3 ⟨rfl, hb3⟩
        have hB3 : Below W'.heap.size W' V3 := hWd.trans (hb3.mono hWd.size)
        have hSd := HS.out _ hB3
        refine hK.out _ _ hSd ?_
        clear hK
        try simp only [Act.put]
        refine wpAnyF_take (i := 6) (oi := _) (v := ?vv6) rfl (by kernel_rfl) (by kernel_rfl) (by kernel_rfl) (by kernel_rfl) (by kernel_rfl) (fun _ _ _ h => h) (Or.inl ⟨by rfl, ?yy6⟩) hSd ?rr6
        case yy6 => (intro wq hSq; obtain ⟨_, _, _, _, _, _, _⟩ := hSq; go_simp <;> with_reducible rfl)
        try simp only [Act.put]
        refine wpAnyF_take (i := 7) (oi := _) (v := ?vv7) rfl (by kernel_rfl) (by kernel_rfl) (by kernel_rfl) (by kernel_rfl) (by kernel_rfl) (fun _ _ _ h => h) (Or.inl ⟨by rfl, ?yy7⟩) hSd ?rr7
        case yy7 => (intro wq hSq; obtain ⟨_, _, _, _, _, _, _⟩ := hSq; go_simp <;> with_reducible rfl)
        try simp only [Act.put]
        refine wpAnyF_take (i := 8) (oi := _) (v := ?vv8) rfl (by kernel_rfl) (by kernel_rfl) (by kernel_rfl) (by kernel_rfl) (by kernel_rfl) (fun _ _ _ h => h) (Or.inl ⟨by rfl, ?yy8⟩) hSd ?rr8
        case yy8 => (intro wq hSq; obtain ⟨_, _, _, _, _, _, _⟩ := hSq; go_simp <;> with_reducible rfl)
        try simp only [Act.put]
        obtain ⟨f3, c3, f4, c4⟩ := HF.out _ hB3
        refine wpAnyF_last (o := _) (by kernel_rfl) rfl (fun K' hK => ?_)
        rw [if_pos (by rfl)]
        go_simp
        refine hK.out _ _ ?_
        clear hK
        refine wpAnyF_done (by kernel_rfl) ?_ _
        try simp only [Act.put]
        have n4 : (V3.setCell ⟨w.heap.size + 1 + 1 + 1, 0, none⟩ (.int .i64 (sm + z))).cell? ⟨w.heap.size + 1 + 1 + 1 + 1, 0, none⟩ = some (.int .i64 (nn : Nat)) := (World.cell?_setCell_far _ _ _ _ (by show w.heap.size + 3 ≠ w.heap.size + 4; omega)).trans c4
        gi_wp2
        exact HEND1.out _ z hB3 HM1.out
    · have hh : hasB W H xa yb = false := by simpa using hh
      have HM0 := hide (show mF zs W H px py cnt (pre ++ [x]) = (sm, nn) by rw [HSN.out, HMS.out, hh]; simp)
      rw [hh]
      gi_wp2
      repeat (refine ⟨fun _ h => (by cases h), ?_⟩; gi_wp2)
      exact HEND0.out _ hb1 HM0.out
  case done =>
    rintro D ys W' hD rfl ⟨i1, i2, i3, i4, i5, i6⟩ hK
    have hr : 0 ≤ (mF zs W H px py cnt (List.finRange N)).1 ∧ (mF zs W H px py cnt (List.finRange N)).1 ≤ (mF zs W H px py cnt (List.finRange N)).2 * 65535 ∧ (mF zs W H px py cnt (List.finRange N)).2 ≤ 0 + (List.finRange N).length := mF_range HZS.out W H px py cnt (List.finRange N) (0, 0) 0 (Int.le_refl _) (by decide) (Nat.le_refl _)
    rw [List.length_finRange] at hr
    have HV := hide (show meanV zs W H px py cnt = if (mF zs W H px py cnt (List.finRange N)).2 = 0 then 0 else (mF zs W H px py cnt (List.finRange N)).1 / ((mF zs W H px py cnt (List.finRange N)).2 : Int) from rfl)
    obtain ⟨⟨sm, nn⟩, hsn⟩ : ∃ t, mF zs W H px py cnt (List.finRange N) = t := ⟨_, rfl⟩
    rw [hsn] at i1 i2 HV hr
    simp only at hr i1 i2 HV
    obtain ⟨hr1, hr2, hr3⟩ := hr
    have c3 : W'.cell? ⟨w.heap.size + 1 + 1 + 1, 0, none⟩ = some (.int .i64 sm) := by rw [Lib.cell_of_heap (b := w.heap.size + 1 + 1 + 1) i1]; rfl
    have c4 : W'.cell? ⟨w.heap.size + 1 + 1 + 1 + 1, 0, none⟩ = some (.int .i64 (nn : Nat)) := by rw [Lib.cell_of_heap (b := w.heap.size + 1 + 1 + 1 + 1) i2]; rfl
    have HY := hide (show Below w.heap.size w (W'.putObj D (.deferred none)) from i6.trans (belowK_b (w := w) (Nat.le_refl _) W' D _ _ (by omega) hK rfl rfl))
    by_cases hn : nn = 0
    · subst hn
      rw [if_pos rfl] at HV
      gi_wp2
      refine ⟨by simp, .inl ⟨_, _, rfl, run_takeDeferred hK, ?_⟩⟩
      exact ⟨.int .i64 0, by simp [results, Try.results108, go_sem], by rw [HV.out], HY.out⟩
    · rw [if_neg hn] at HV
      have hq := Int.tdiv_eq_ediv_of_nonneg (b := (nn : Int)) hr1
      rw [← hq] at HV
      have hq0 : 0 ≤ sm.tdiv (nn : Int) := by rw [hq]; exact Int.ediv_nonneg hr1 (by omega)
      have hq1 : sm.tdiv (nn : Int) ≤ sm := by rw [hq]; exact Int.ediv_le_self _ hr1
      obtain ⟨q, hqq⟩ : ∃ q, sm.tdiv (nn : Int) = q := ⟨_, rfl⟩
      rw [hqq] at HV hq0 hq1
      have hbz : ((nn : Int) == 0) = false := by simp; omega
      have hwq : IntKind.i64.wrap q = q := IntWalk.i64_in _ (by omega)
      clear hq
      gi_wp2
      refine ⟨by simp, .inl ⟨_, _, rfl, run_takeDeferred hK, ?_⟩⟩
      exact ⟨.int .i64 q, by simp [results, Try.results108, go_sem], by rw [HV.out], HY.out⟩
  case stop => rintro D c pre W' _ _ h _; exact h.elim

end Go.Proofs.Ytolcndchfnifhab

/- sensor.Colour. -/
namespace Go.Proofs.Ytolcndchfnifhab
open Go.RowKit

/-- the colour of a place, by the phase. -/
def colB (phase x y : Nat) : Bool × Bool := (decide (x % 2 ≠ phase % 2), decide (y % 2 ≠ phase / 2))
def colV (phase x y : Nat) : Nat := match colB phase x y with
  | (true, true) => 2
  | (true, false) => 1
  | (false, true) => 1
  | (false, false) => 0
def colourE (phase x y : Int) : Int := if phaseOk phase = true ∧ 0 ≤ x ∧ 0 ≤ y then 0 else 3
def colourV (phase x y : Int) : Int := if phaseOk phase = true ∧ 0 ≤ x ∧ 0 ≤ y then (colV phase.toNat x.toNat y.toNat : Nat) else 0

set_option maxRecDepth 100000 in
set_option maxHeartbeats 800000 in
theorem colour_ok (p X Y : Nat) (hp : p ≤ 3) (w : World) :
    Calls Try.prog 18 #[.int .i64 p, .int .i64 X, .int .i64 Y] w fun e w' => e = .returned (.tuple #[.int .i64 (colV p X Y : Nat), .int .i64 0]) ∧ Below w.heap.size w w' := by
  have hpo : phaseOk (p : Int) = true := by simp [phaseOk]; omega
  obtain ⟨C, hC⟩ : ∃ C, colV p X Y = C := ⟨_, rfl⟩
  rw [hC]
  have hx : X % 2 = 0 ∨ X % 2 = 1 := by omega
  have hy : Y % 2 = 0 ∨ Y % 2 = 1 := by omega
  have hm : p % 2 = 0 ∨ p % 2 = 1 := by omega
  have hv : p / 2 = 0 ∨ p / 2 = 1 := by omega
  rcases hm with hm | hm <;> rcases hv with hv | hv <;> rcases hx with hx | hx <;> rcases hy with hy | hy
  all_goals
    rw [colV, colB, hx, hy, hm, hv] at hC
    simp at hC
    have HC := hide hC.symm
    have hxi : (X : Int) % 2 = ((X % 2 : Nat) : Int) := rfl
    have hyi : (Y : Int) % 2 = ((Y % 2 : Nat) : Int) := rfl
    have hmi : (p : Int) % 2 = ((p % 2 : Nat) : Int) := rfl
    have hvi : (p : Int) / 2 = ((p / 2 : Nat) : Int) := rfl
    rw [hx] at hxi
    rw [hy] at hyi
    rw [hm] at hmi
    rw [hv] at hvi
    clear hC hx hy hm hv
    go_enter Try.func18, Try.ntmps18
    go_wp2_with fail
    refine (phase_any _ _).mono ?_
    rintro e w1 ⟨rfl, hb1⟩
    rw [hpo]
    go_wp2
    go_ret2
    rw [HC.out]
    exact ⟨rfl, hb1⟩

set_option maxRecDepth 100000 in
theorem colour_any (phase x y : Int) (w : World) :
    Calls Try.prog 18 #[.int .i64 phase, .int .i64 x, .int .i64 y] w fun e w' => e = .returned (.tuple #[.int .i64 (colourV phase x y), .int .i64 (colourE phase x y)]) ∧ Below w.heap.size w w' := by
  by_cases hp : phaseOk phase = true
  · by_cases hx : 0 ≤ x
    · by_cases hy : 0 ≤ y
      · rw [colourV, colourE, if_pos ⟨hp, hx, hy⟩, if_pos ⟨hp, hx, hy⟩]
        have hp2 : 0 ≤ phase ∧ phase ≤ 3 := by simpa [phaseOk] using hp
        obtain ⟨P, rfl⟩ := Int.eq_ofNat_of_zero_le hp2.1
        obtain ⟨X, rfl⟩ := Int.eq_ofNat_of_zero_le hx
        obtain ⟨Y, rfl⟩ := Int.eq_ofNat_of_zero_le hy
        simp only [Int.toNat_natCast]
        exact colour_ok P X Y (by omega) w
      · rw [colourV, colourE, if_neg (fun h => hy h.2.2), if_neg (fun h => hy h.2.2)]
        go_enter Try.func18, Try.ntmps18
        go_wp2_with fail
        refine (phase_any _ _).mono ?_
        rintro e w1 ⟨rfl, hb1⟩
        rw [hp]
        go_wp2
        go_ret2
        exact ⟨rfl, hb1⟩
    · rw [colourV, colourE, if_neg (fun h => hx h.2.1), if_neg (fun h => hx h.2.1)]
      go_enter Try.func18, Try.ntmps18
      go_wp2_with fail
      refine (phase_any _ _).mono ?_
      rintro e w1 ⟨rfl, hb1⟩
      rw [hp]
      go_wp2
      go_ret2
      exact ⟨rfl, hb1⟩
  · rw [colourV, colourE, if_neg (fun h => hp h.1), if_neg (fun h => hp h.1)]
    have hp : phaseOk phase = false := by simpa using hp
    go_enter Try.func18, Try.ntmps18
    go_wp2_with fail
    refine (phase_any _ _).mono ?_
    rintro e w1 ⟨rfl, hb1⟩
    rw [hp]
    go_wp2
    go_ret2
    exact ⟨rfl, hb1⟩

end Go.Proofs.Ytolcndchfnifhab

