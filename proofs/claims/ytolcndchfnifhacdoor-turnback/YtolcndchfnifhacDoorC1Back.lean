/- Back: part 1 of what the proofs need. -/
import Derived.WalkKit
import Derived.Laws.BytesArg
import Derived.Test.YtolcndchfnifhacDoorProg
import Derived.WalkSpells
import Derived.WalkLawsBesides
import Derived.Deep.QuietTactic
import Derived.BigQuiet
import Derived.RangeFuncNested
import Derived.RangeFuncBound
import Derived.RangeFuncCalls
import Derived.RangeFuncLeaves
import Derived.Shelf.Abstract
import Derived.Shelf.RegionOpen
import Derived.OwnWalkIn
import Derived.TacticsInMore
import Derived.LoopNIn
import Derived.LoopIn
import Derived.OrdersIn
import Derived.OrdersHeld
import Derived.RangeFuncBox
import Derived.Maps.AppendAt
import Derived.Deep.RegionHeld3
import Derived.Deep.AppendLies
import Derived.OneCell
namespace Go.Proofs.YtolcndchfnifhacDoor
open Go.RowKit
theorem hide {p : Prop} (h : p) : Hid p := h
theorem ret_int {k : IntKind} {a b : Int} (h : a = b) : Ending.returned (.int k a) = .returned (.int k b) := by rw [h]
theorem ret_bool {a b : Bool} (h : a = b) : Ending.returned (.bool a) = .returned (.bool b) := by rw [h]
end Go.Proofs.YtolcndchfnifhacDoor

namespace Go.Proofs.YtolcndchfnifhacDoor
open Go.RowKit
theorem bel_trans {a b c : World} (h : Below a.heap.size a b) (k : Below b.heap.size b c) : Below a.heap.size a c := h.trans (k.mono h.size)
theorem bel_alloc (w : World) (o : Obj) : Below w.heap.size w (w.alloc o) := (Below.refl _ _).alloc (Nat.le_refl _) o
def IsInts (w : World) (v : Value) (xs : List Int) : Prop :=
  ∃ ao cap, v = .slice ao xs.length cap ∧ xs.length ≤ 9223372036854775807 ∧ (xs = [] ∨ ∃ b off, ao = some ⟨b, off, none⟩ ∧ b < w.heap.size ∧ ∀ j (h : j < xs.length), w.cell? ⟨b, off + j, none⟩ = some (.int .i64 xs[j]))
theorem IsInts.len {w : World} {v : Value} {xs : List Int} (h : IsInts w v xs) : xs.length ≤ 9223372036854775807 := by
  obtain ⟨_, _, _, h, _⟩ := h; exact h
theorem IsInts.below {w w' : World} {v : Value} {xs : List Int} {B : Nat} (h : IsInts w v xs) (hb : Below B w w') (hB : w.heap.size ≤ B) : IsInts w' v xs := by
  obtain ⟨ao, cap, hv, hl, h⟩ := h
  refine ⟨ao, cap, hv, hl, ?_⟩
  rcases h with h | ⟨b, off, ha, hlt, hc⟩
  · exact .inl h
  · exact .inr ⟨b, off, ha, Nat.lt_of_lt_of_le hlt hb.size, fun j hj => by rw [hb.cell (p := ⟨b, off + j, none⟩) (by exact Nat.lt_of_lt_of_le hlt hB)]; exact hc j hj⟩
theorem IsInts.alloc {w : World} {v : Value} {xs : List Int} (h : IsInts w v xs) (o : Obj) : IsInts (w.alloc o) v xs :=
  h.below ((Below.refl _ _).alloc (Nat.le_refl _) o) (Nat.le_refl _)
theorem IsInts.drew {w : World} {v : Value} {xs : List Int} (h : IsInts w v xs) : IsInts w.drew v xs := h
theorem IsInts.nil (w : World) : IsInts w (.slice none 0 0) [] := ⟨none, 0, rfl, by simp, .inl rfl⟩
theorem IsInts.own {w : World} {base : Nat} {v : Value} {xs : List Int} (h : w.ownsRow base 3 1 v xs.length (xs.map (Value.int .i64))) (hl : xs.length ≤ 9223372036854775807) : IsInts w v xs := by
  rcases h.2 with ⟨hv, hn⟩ | ⟨g, cap, cur, hv, _, hg, _⟩
  · exact ⟨none, 0, by rw [hv, hn], hl, .inl (List.eq_nil_of_length_eq_zero hn)⟩
  · refine ⟨_, cap, hv, hl, .inr ⟨g, 0, rfl, (Array.getElem?_eq_some_iff.1 hg).1, fun j hj => ?_⟩⟩
    subst hv
    rw [Nat.zero_add, h.cellAt j (by omega)]
    simp [hj]
def roomy : Value → Prop
  | .slice _ n c => n ≤ c
  | _ => True
def Fresh (B : Nat) (v : Value) : Prop := (∀ b, v.ownBlock = some b → B ≤ b) ∧ roomy v
theorem Fresh.mono {B B' : Nat} {v : Value} (h : Fresh B v) (hb : B' ≤ B) : Fresh B' v := ⟨fun b e => Nat.le_trans hb (h.1 b e), h.2⟩
theorem Fresh.nil (B : Nat) : Fresh B (.slice none 0 0) := ⟨fun b e => (by cases e), Nat.le_refl _⟩
theorem Fresh.own {w : World} {base : Nat} {e : TypeId} {sz : Nat} {v : Value} {n : Nat} {xs : List Value} (h : w.ownsRow base e sz v n xs) : Fresh base v := by
  refine ⟨fun b hb => (h.lt b hb).1, ?_⟩
  rcases h.2 with ⟨rfl, _⟩ | ⟨g, cap, cur, rfl, _, _, hn, _⟩
  · exact Nat.le_refl _
  · exact hn
theorem IsInts.other {w w' : World} {v : Value} {xs : List Int} {k : Nat} (h : IsInts w v xs) (hs : w.heap.size ≤ w'.heap.size) (hk : ∀ b, b ≠ k → w'.heap[b]? = w.heap[b]?) (hne : v.ownBlock ≠ some k) : IsInts w' v xs := by
  obtain ⟨ao, cap, rfl, hl, h⟩ := h
  refine ⟨ao, cap, rfl, hl, ?_⟩
  rcases h with h | ⟨b, off, rfl, hlt, hc⟩
  · exact .inl h
  · have hb : b ≠ k := fun e => hne (by rw [e]; rfl)
    exact .inr ⟨b, off, rfl, Nat.lt_of_lt_of_le hlt hs, fun j hj => (World.cell?_of_block (a := ⟨b, off + j, none⟩) (hk b hb)).trans (hc j hj)⟩
theorem ownsRow_below {w w' : World} {base : Nat} {e : TypeId} {size : Nat} {v : Value} {n : Nat} {xs : List Value} (h : w.ownsRow base e size v n xs) (hb : Below w.heap.size w w') : w'.ownsRow base e size v n xs := by
  refine ⟨h.1, ?_⟩
  rcases h.2 with h | ⟨g, cap, cur, hv, hg, hh, r⟩
  · exact .inl h
  · exact .inr ⟨g, cap, cur, hv, hg, by rw [hb.block g (Array.getElem?_eq_some_iff.1 hh).1]; exact hh, r⟩
end Go.Proofs.YtolcndchfnifhacDoor

namespace Go.Proofs.YtolcndchfnifhacDoor
open Go.RowKit
def wt (x : Int) : Nat := if 0 < x then 2 ^ (15 - x.toNat) else 0
def cntAll (xs : List Int) (s : Int) : Nat := (xs.filter fun x => decide (x = s)).length
def base (xs : List Int) : Nat → Nat
  | 0 => 0
  | t + 1 => 2 * (base xs t + cntAll xs ((t : Int) + 1))
end Go.Proofs.YtolcndchfnifhacDoor

namespace Go.Proofs.YtolcndchfnifhacDoor
open Go.RowKit
def sideOk (n : Int) : Bool := decide (1 ≤ n ∧ n ≤ 64)
theorem side_mul {W H : Int} (h1 : 1 ≤ W ∧ W ≤ 64) (h2 : 1 ≤ H ∧ H ≤ 64) : 1 ≤ W * H ∧ W * H ≤ 4096 := by
  have a := Int.mul_le_mul h1.2 h2.2 (by omega) (by omega)
  have b := Int.mul_le_mul h1.1 h2.1 (by omega) (by omega)
  omega
end Go.Proofs.YtolcndchfnifhacDoor

namespace Go.Proofs.YtolcndchfnifhacDoor
open Go.RowKit
theorem place_of {W X Y : Nat} (h : X < W) : (Y * W + X) % W = X ∧ (Y * W + X) / W = Y := by
  constructor
  · rw [Nat.mul_comm, Nat.mul_add_mod, Nat.mod_eq_of_lt h]
  · rw [Nat.mul_comm, Nat.mul_add_div (by omega), Nat.div_eq_of_lt h, Nat.add_zero]
def allIn (a b : Int) (xs : List Int) : Bool := xs.all fun n => decide (a ≤ n ∧ n ≤ b)
theorem allIn_snoc (a b : Int) (xs : List Int) (x : Int) : allIn a b (xs ++ [x]) = (allIn a b xs && decide (a ≤ x ∧ x ≤ b)) := by simp [allIn]
theorem allIn_false (a b : Int) (xs : List Int) (k : Nat) (hk : k < xs.length) (h : ¬ (a ≤ xs[k] ∧ xs[k] ≤ b)) : allIn a b xs = false := by
  rw [Bool.eq_false_iff]; intro he
  have := List.all_eq_true.1 he _ (List.getElem_mem hk)
  exact h (by simpa using this)
theorem rWithin_any (a b : Int) (v : Value) (xs : List Int) (w : World) (hv : IsInts w v xs) :
    Calls Tryd.prog 32 #[.int .i64 a, .int .i64 b, v] w fun e w' => e = .returned (.bool (allIn a b xs)) ∧ w = w' := by
  obtain ⟨ao, ca, rfl, hla, hc⟩ := hv
  by_cases h0 : xs = []
  · subst h0
    clear hc
    go_enter Tryd.func32, Tryd.ntmps32
    go_wp2
    go_loop [11] (fun i => i = .int .i64 0) (fun _ => 0)
    case atStart => rfl
    case round =>
      subst hrel
      go_wp2
      go_ret
      exact ⟨rfl, rfl⟩
  · obtain ⟨bk, off, hao, hbl, hcell⟩ : ∃ b off, ao = some ⟨b, off, none⟩ ∧ b < w.heap.size ∧ ∀ j (h : j < xs.length), w.cell? ⟨b, off + j, none⟩ = some (.int .i64 xs[j]) := by
      rcases hc with h | h
      · exact absurd h h0
      · exact h
    subst hao
    have HCELL := hide hcell; clear hcell hc h0
    go_enter Tryd.func32, Tryd.ntmps32
    go_wp2
    go_loop [11] (fun i => ∃ k : Nat, k ≤ xs.length ∧ i = .int .i64 k ∧ Hid (allIn a b (xs.take k) = true)) (fun i => xs.length - (intOf i).toNat)
    case atStart => exact ⟨0, Nat.zero_le _, rfl, rfl⟩
    case round =>
      obtain ⟨k, hk, rfl, HA⟩ := hrel
      by_cases hlt : k < xs.length
      · have c1 := HCELL.out k hlt
        by_cases hx0 : a ≤ xs[k]
        · by_cases hx1 : xs[k] ≤ b
          · have HT := hide (show allIn a b (xs.take (k + 1)) = true by rw [List.take_succ_eq_append_getElem hlt, allIn_snoc, HA.out]; simp [hx0, hx1])
            go_wp2
            go_round
            case rel => exact ⟨k + 1, by omega, by go_num, HT⟩
            case measure => simp [intOf]; omega
          · have HE := hide (allIn_false a b xs k hlt (fun h => hx1 h.2))
            go_wp2
            go_ret
            exact ⟨ret_bool HE.out.symm, rfl⟩
        · have HE := hide (allIn_false a b xs k hlt (fun h => hx0 h.1))
          go_wp2
          go_ret
          exact ⟨ret_bool HE.out.symm, rfl⟩
      · have HE := hide (show true = allIn a b xs by rw [← HA.out, List.take_of_length_le (by omega)])
        go_wp2
        go_ret
        exact ⟨ret_bool HE.out, rfl⟩
theorem ints1 (w : World) (n : Int) : IsInts (w.alloc (.cells #[.int .i64 n] 3)) (.slice (some ⟨w.heap.size, 0, none⟩) 1 1) [n] :=
  IsInts.own (base := w.heap.size) (World.ownsRow_lit w #[.int .i64 n] 1 (Nat.le_refl _) (by decide) (by simp)) (by simp)
theorem side_any (n : Int) (w : World) : Calls Tryd.prog 34 #[.int .i64 n] w fun e w' => e = .returned (.bool (sideOk n)) ∧ Below w.heap.size w w' := by
  have HS := hide (show allIn 1 64 [n] = sideOk n by simp [allIn, sideOk])
  go_enter Tryd.func34, Tryd.ntmps34
  go_wp2_with fail
  refine (rWithin_any 1 64 _ [n] _ (ints1 w n)).mono ?_
  rintro e w1 ⟨rfl, rfl⟩
  rw [HS.out]
  go_wp2
  go_ret
  exact ⟨rfl, bel_alloc _ _⟩
def sizeOk (W H m : Int) : Bool := sideOk W && sideOk H && decide (m = W * H)
set_option maxHeartbeats 400000 in
theorem size_any (W H m : Int) (w : World) : Calls Tryd.prog 31 #[.int .i64 W, .int .i64 H, .int .i64 m] w fun e w' => e = .returned (.bool (sizeOk W H m)) ∧ Below w.heap.size w w' := by
  by_cases h1 : sideOk W = true
  · by_cases h2 : sideOk H = true
    · have HE := hide (show decide (m = W * H) = sizeOk W H m by rw [sizeOk, h1, h2]; rfl)
      have b1 : 1 ≤ W ∧ W ≤ 64 := by simpa [sideOk] using h1
      have b2 : 1 ≤ H ∧ H ≤ 64 := by simpa [sideOk] using h2
      obtain ⟨b3, b4⟩ := side_mul b1 b2
      obtain ⟨M, hM⟩ : ∃ M, W * H = M := ⟨_, rfl⟩
      have HEM := hide (show (m == M) = decide (m = W * H) by rw [hM]; rfl)
      rw [hM] at b3 b4
      go_enter Tryd.func31, Tryd.ntmps31
      go_wp2_with fail
      refine (side_any _ _).mono ?_
      rintro e w1 ⟨rfl, hb1⟩
      rw [h1]
      go_wp2_with fail
      refine (side_any _ _).mono ?_
      rintro e w2 ⟨rfl, hb2⟩
      rw [h2]
      go_wp2
      go_ret
      exact ⟨ret_bool (HEM.out.trans HE.out), bel_trans hb1 hb2⟩
    · have h2 : sideOk H = false := by simpa using h2
      have HE := hide (show false = sizeOk W H m by rw [sizeOk, h1, h2]; rfl)
      go_enter Tryd.func31, Tryd.ntmps31
      go_wp2_with fail
      refine (side_any _ _).mono ?_
      rintro e w1 ⟨rfl, hb1⟩
      rw [h1]
      go_wp2_with fail
      refine (side_any _ _).mono ?_
      rintro e w2 ⟨rfl, hb2⟩
      rw [h2]
      go_wp2
      go_ret
      exact ⟨ret_bool HE.out, bel_trans hb1 hb2⟩
  · have h1 : sideOk W = false := by simpa using h1
    have HE := hide (show false = sizeOk W H m by rw [sizeOk, h1]; rfl)
    go_enter Tryd.func31, Tryd.ntmps31
    go_wp2_with fail
    refine (side_any _ _).mono ?_
    rintro e w1 ⟨rfl, hb1⟩
    rw [h1]
    go_wp2
    go_ret
    exact ⟨ret_bool HE.out, hb1⟩
theorem pl3 {w w' : World} {a b c : Value} {t : TypeId} (hb : Below (w.alloc (.cells #[a, b, c] t)).heap.size (w.alloc (.cells #[a, b, c] t)) w') :
    w'.cell? ⟨w.heap.size, 0, none⟩ = some a ∧ w'.cell? ⟨w.heap.size, 1, none⟩ = some b ∧ w'.cell? ⟨w.heap.size, 2, none⟩ = some c := by
  refine ⟨?_, ?_, ?_⟩
  · rw [hb.cell (p := ⟨w.heap.size, 0, none⟩) (by simp), Lib.cell_of_heap (heap_alloc_new w _)]; rfl
  · rw [hb.cell (p := ⟨w.heap.size, 1, none⟩) (by simp), Lib.cell_of_heap (heap_alloc_new w _)]; rfl
  · rw [hb.cell (p := ⟨w.heap.size, 2, none⟩) (by simp), Lib.cell_of_heap (heap_alloc_new w _)]; rfl
end Go.Proofs.YtolcndchfnifhacDoor

namespace Go.Proofs.YtolcndchfnifhacDoor
open Go.RowKit
theorem index_any (W H : Int) (X Y WN k : Nat) (hW : W = WN) (hk : Y * WN + X = k) (hb : k ≤ 4096) (w : World) :
    Calls Tryd.prog 21 #[.agg #[.int .i64 W, .int .i64 H], .agg #[.int .i64 X, .int .i64 Y]] w fun e w' => e = .returned (.int .i64 k) ∧ Below w.heap.size w w' := by
  subst hW
  obtain ⟨M, hM⟩ : ∃ M : Nat, M = Y * WN := ⟨_, rfl⟩
  have hmm : (Y : Int) * (WN : Int) = (M : Int) := by rw [hM]; simp
  rw [← hM] at hk
  have hat : (M : Int) + (X : Int) = (k : Int) := by omega
  clear hM
  go_enter Tryd.func21, Tryd.ntmps21
  go_wp2
  go_ret
  exact ⟨rfl, bel_trans (bel_alloc _ _) (bel_alloc _ _)⟩
end Go.Proofs.YtolcndchfnifhacDoor

namespace Go.Proofs.YtolcndchfnifhacDoor
set_option linter.unusedVariables false
open Go.RowKit
theorem al1 (w : World) (a : Obj) : (w.alloc a).heap[w.heap.size]? = some a := heap_alloc_new w a
theorem al2 (w : World) (a b : Obj) : ((w.alloc a).alloc b).heap[w.heap.size]? = some a ∧ ((w.alloc a).alloc b).heap[w.heap.size + 1]? = some b := by
  refine ⟨(Below.heap_alloc _ _ _ (by simp only [World.size_alloc]; omega)).trans (al1 w a), ?_⟩
  have h := al1 (w.alloc a) b
  rw [World.size_alloc] at h; exact h
theorem al3 (w : World) (a b c : Obj) : (((w.alloc a).alloc b).alloc c).heap[w.heap.size]? = some a ∧ (((w.alloc a).alloc b).alloc c).heap[w.heap.size + 1]? = some b ∧ (((w.alloc a).alloc b).alloc c).heap[w.heap.size + 2]? = some c := by
  obtain ⟨h1, h2⟩ := al2 w a b
  refine ⟨(Below.heap_alloc _ _ _ (by simp only [World.size_alloc]; omega)).trans h1, (Below.heap_alloc _ _ _ (by simp only [World.size_alloc]; omega)).trans h2, ?_⟩
  have h := al1 ((w.alloc a).alloc b) c
  rw [World.size_alloc, World.size_alloc] at h; exact h
theorem be2 (w : World) (a b : Obj) : Below w.heap.size w ((w.alloc a).alloc b) := bel_trans (bel_alloc _ _) (bel_alloc _ _)
theorem be3 (w : World) (a b c : Obj) : Below w.heap.size w (((w.alloc a).alloc b).alloc c) := bel_trans (be2 _ _ _) (bel_alloc _ _)
theorem be4 (w : World) (a b c d : Obj) : Below w.heap.size w ((((w.alloc a).alloc b).alloc c).alloc d) := bel_trans (be3 _ _ _ _) (bel_alloc _ _)
theorem set3_size (w : World) (b : Nat) (x y z : Value) : w.heap.size ≤ (((w.setCell ⟨b, 0, none⟩ x).setCell ⟨b, 1, none⟩ y).setCell ⟨b, 2, none⟩ z).heap.size := by simp [World.setCell]
theorem set3_heap (w : World) (b : Nat) (x y z : Value) (k : Nat) (h : k ≠ b) : (((w.setCell ⟨b, 0, none⟩ x).setCell ⟨b, 1, none⟩ y).setCell ⟨b, 2, none⟩ z).heap[k]? = w.heap[k]? := by
  rw [Below.heap_setCell _ _ _ _ h, Below.heap_setCell _ _ _ _ h, Below.heap_setCell _ _ _ _ h]
theorem Fresh.ne {B k : Nat} {v : Value} (h : Fresh B v) (hk : k < B) : v.ownBlock ≠ some k := fun e => by have := h.1 k e; omega
theorem IsInts.set3 {w : World} {v : Value} {xs : List Int} {B k : Nat} (h : IsInts w v xs) (hf : Fresh B v) (hk : k < B) (x y z : Value) : IsInts (((w.setCell ⟨k, 0, none⟩ x).setCell ⟨k, 1, none⟩ y).setCell ⟨k, 2, none⟩ z) v xs :=
  h.other (set3_size _ _ _ _ _) (fun b hb => set3_heap _ _ _ _ _ b hb) (hf.ne hk)
theorem set3_below {B b : Nat} {w U : World} (h : Below B w U) (hb : B ≤ b) (x y z : Value) : Below B w (((U.setCell ⟨b, 0, none⟩ x).setCell ⟨b, 1, none⟩ y).setCell ⟨b, 2, none⟩ z) :=
  ((h.setCell (p := ⟨b, 0, none⟩) hb _).setCell (p := ⟨b, 1, none⟩) hb _).setCell (p := ⟨b, 2, none⟩) hb _
theorem cells3 {w : World} {b : Nat} {x y z : Value} {t : TypeId} {fr : Nat × Nat} (h : w.heap[b]? = some (.cells #[x, y, z] t fr)) :
    w.cell? ⟨b, 0, none⟩ = some x ∧ w.cell? ⟨b, 1, none⟩ = some y ∧ w.cell? ⟨b, 2, none⟩ = some z :=
  ⟨by rw [Lib.cell_of_heap h]; rfl, by rw [Lib.cell_of_heap h]; rfl, by rw [Lib.cell_of_heap h]; rfl⟩
def okW (e W : Int) : Int := if e = 0 then W else 0
def okL {α : Type} (e : Int) (l : List α) : List α := if e = 0 then l else []
def zAt (zs : List Int) (j : Nat) : Int := zs.getD j 0
theorem zAt_get (zs : List Int) (i : Nat) (h : i < zs.length) : zs[i] = zAt zs i := by simp [zAt, List.getD_eq_getElem?_getD, List.getElem?_eq_getElem h]
theorem IsInts.cells {w : World} {v : Value} {zs : List Int} (h : IsInts w v zs) (hn : 1 ≤ zs.length) : ∃ bk off ca, v = .slice (some ⟨bk, off, none⟩) zs.length ca ∧ bk < w.heap.size ∧ ∀ j, j < zs.length → w.cell? ⟨bk, off + j, none⟩ = some (.int .i64 (zAt zs j)) := by
  obtain ⟨ao, ca, rfl, _, h⟩ := h
  rcases h with h | ⟨b, off, rfl, hlt, hc⟩
  · subst h; simp at hn
  · exact ⟨b, off, ca, rfl, hlt, fun j hj => by rw [hc j hj, zAt_get zs j hj]⟩
end Go.Proofs.YtolcndchfnifhacDoor

namespace Go.Proofs.YtolcndchfnifhacDoor
set_option linter.unusedVariables false
open Go.RowKit
abbrev Mv := Bool × Bool × Bool
def mvL : List Mv := [(false, false, false), (false, true, false), (false, true, true), (false, false, true), (true, false, false), (true, false, true), (true, true, true), (true, true, false)]
def mvAt (k : Nat) : Mv := mvL.getD k (false, false, false)
abbrev mvA (m : Mv) : Array Value := #[.bool m.1, .bool m.2.1, .bool m.2.2]
def MovesAt (w : World) : Prop := 0 < w.heap.size ∧ ∀ k, k < 8 → w.cell? ⟨0, k * 3, none⟩ = some (.bool (mvAt k).1) ∧ w.cell? ⟨0, k * 3 + 1, none⟩ = some (.bool (mvAt k).2.1) ∧ w.cell? ⟨0, k * 3 + 2, none⟩ = some (.bool (mvAt k).2.2)
theorem MovesAt.below {w w' : World} {B : Nat} (h : MovesAt w) (hb : Below B w w') (hB : w.heap.size ≤ B) : MovesAt w' := by
  have h0 := h.1
  refine ⟨Nat.lt_of_lt_of_le h.1 hb.size, fun k hk => ?_⟩
  obtain ⟨c0, c1, c2⟩ := h.2 k hk
  exact ⟨(hb.cell (p := ⟨0, k * 3, none⟩) (show 0 < B by omega)).trans c0, (hb.cell (p := ⟨0, k * 3 + 1, none⟩) (show 0 < B by omega)).trans c1, (hb.cell (p := ⟨0, k * 3 + 2, none⟩) (show 0 < B by omega)).trans c2⟩
theorem MovesAt.alloc {w : World} (h : MovesAt w) (o : Obj) : MovesAt (w.alloc o) := h.below (bel_alloc w o) (Nat.le_refl _)
def howOk (how : Int) : Bool := decide (1 ≤ how ∧ how ≤ 8)
def howE (how : Int) : Int := if howOk how = true then 0 else 3
def mvOf (how : Int) : Mv := if howOk how = true then mvAt (how.toNat - 1) else (false, false, false)
theorem ints1b (w : World) (o : Obj) (n : Int) : IsInts ((w.alloc o).alloc (.cells #[.int .i64 n] 3)) (.slice (some ⟨w.heap.size + 1, 0, none⟩) 1 1) [n] := by
  have h := ints1 (w.alloc o) n
  rw [World.size_alloc] at h
  exact h
abbrev mvZ : Obj := Obj.cells #[.bool false, .bool false, .bool false] 55
set_option maxRecDepth 100000 in
theorem moveOf_ok (k : Nat) (hk : k < 8) (w : World) (hm : MovesAt w) :
    Calls Tryd.prog 23 #[.int .i64 ((k : Int) + 1)] w fun e w' => e = .returned (.tuple #[.agg (mvA (mvAt k)), .int .i64 0]) ∧ Below w.heap.size w w' := by
  have HS := hide (show allIn 1 8 [(k : Int) + 1] = true by simp [allIn]; omega)
  have HB := hide (be2 w mvZ (Obj.cells #[.int .i64 ((k : Int) + 1)] 3))
  obtain ⟨z, _⟩ := al2 w mvZ (Obj.cells #[.int .i64 ((k : Int) + 1)] 3)
  obtain ⟨a0, b0, c0⟩ := (hm.below HB.out (Nat.le_refl _)).2 k hk
  obtain ⟨⟨x0, x1, x2⟩, hM⟩ : ∃ M, mvAt k = M := ⟨_, rfl⟩
  rw [hM] at a0 b0 c0 ⊢
  obtain ⟨z0, z1, z2⟩ := cells3 z
  have f0 := Lib.frozen_of_heap z 0
  have f1 := Lib.frozen_of_heap z 1
  have f2 := Lib.frozen_of_heap z 2
  have HF := hide (fun x y t => set3_below HB.out (Nat.le_refl _) x y t)
  clear hM hm z
  go_enter Tryd.func23, Tryd.ntmps23
  go_wp2_with fail
  refine (rWithin_any 1 8 _ [(k : Int) + 1] _ (ints1b w mvZ _)).mono ?_
  rintro e w1 ⟨rfl, rfl⟩
  rw [HS.out]
  generalize (w.alloc mvZ).alloc (Obj.cells #[.int .i64 ((k : Int) + 1)] 3) = U at *
  have hix : IntKind.i64.wrap ((k : Int) + 1 - 1) = k := by rw [Int.add_sub_cancel]; exact IntWalk.i64_in _ (by omega)
  go_wp2
  exact bodyPost_ret (v := .tuple #[.agg #[.bool x0, .bool x1, .bool x2], .int .i64 0]) (by simp [results, Tryd.results23, go_sem, z0, z1, z2]) rfl ⟨rfl, HF.out _ _ _⟩
set_option maxRecDepth 100000 in
theorem moveOf_no (how : Int) (hh : howOk how = false) (w : World) :
    Calls Tryd.prog 23 #[.int .i64 how] w fun e w' => e = .returned (.tuple #[.agg (mvA (false, false, false)), .int .i64 3]) ∧ Below w.heap.size w w' := by
  have HS := hide (show allIn 1 8 [how] = false by simpa [allIn, howOk] using hh)
  have HB := hide (be2 w mvZ (Obj.cells #[.int .i64 how] 3))
  obtain ⟨z, _⟩ := al2 w mvZ (Obj.cells #[.int .i64 how] 3)
  obtain ⟨z0, z1, z2⟩ := cells3 z
  have f0 := Lib.frozen_of_heap z 0
  have f1 := Lib.frozen_of_heap z 1
  have f2 := Lib.frozen_of_heap z 2
  have HF := hide (fun x y t => set3_below HB.out (Nat.le_refl _) x y t)
  clear z hh
  go_enter Tryd.func23, Tryd.ntmps23
  go_wp2_with fail
  refine (rWithin_any 1 8 _ [how] _ (ints1b w mvZ how)).mono ?_
  rintro e w1 ⟨rfl, rfl⟩
  rw [HS.out]
  generalize (w.alloc mvZ).alloc (Obj.cells #[.int .i64 how] 3) = U at *
  go_wp2
  exact bodyPost_ret (v := .tuple #[.agg #[.bool false, .bool false, .bool false], .int .i64 3]) (by simp [results, Tryd.results23, go_sem, z0, z1, z2]) rfl ⟨rfl, HF.out _ _ _⟩
theorem run_loadVar_cells {P : Program} (w : World) (g : Nat) (ty : TypeId) (cs : Array Value) (d : TypeDesc) (hc : ∀ j v, cs.toList[j]? = some v → w.cell? ⟨g, j, none⟩ = some v)
    (hu : P.underlying ty = some d) (hd : (match d with | .struct _ | .array _ _ => true | _ => false) = true) (hi : (P.info? ty).map (·.size) = some cs.size) :
    (loadVar ty ⟨g, 0, none⟩).run P w = .ok (.agg cs) w := by
  have hl : (loadCells ⟨g, 0, none⟩ cs.toList.length).run P w = .ok cs.toList.toArray w :=
    run_loadCells_list (P := P) w ⟨g, 0, none⟩ cs.toList (fun j v hv => by
      have hadd : (⟨g, 0, none⟩ : Addr).add j = ⟨g, j, none⟩ := by unfold Addr.add; split <;> simp_all
      rw [hadd]
      exact hc j v hv)
  cases hq : P.info? ty with
  | none => simp [hq] at hi
  | some i =>
    have hs : i.size = cs.size := by simpa [hq] using hi
    have hagg : (isAgg ty).run P w = .ok true w := by
      unfold isAgg
      rw [Sem.run_bind, run_underlying hu w]
      cases d <;> simp_all
    simp only [Array.length_toList, Array.toArray_toList] at hl
    simp [loadVar, Sem.run_bind, hagg, sizeOf, typeInfo, hq, hs, hl]
theorem wpList_load_cells {P : Program} {ops : Array Oper} {rest : List Oper} {o : Oper} {a : Act} {w : World} {Q : Exit → Act → World → Prop} (hgd : o.guard = none) (ty : TypeId) (x : Operand) (ho : o.op = .load ty x)
    (g : Nat) (hx : a.eval x = .pointer (some ⟨g, 0, none⟩)) (cs : Array Value) (d : TypeDesc) (hc : ∀ j v, cs.toList[j]? = some v → w.cell? ⟨g, j, none⟩ = some v)
    (hu : P.underlying ty = some d) (hd : (match d with | .struct _ | .array _ _ => true | _ => false) = true) (hi : (P.info? ty).map (·.size) = some cs.size)
    (h : wpList P ops Q rest (a.put o.dst (.agg cs)) w) : wpList P ops Q (o :: rest) a w :=
  wpList_plain hgd fun _ hK => by
    unfold Oper.wp execOp
    simp only [ho, hx, Instr.loadAt, Instr.sureAddr, Sem.run_bind, Sem.run_pure, Result.andThen_ok, run_loadVar_cells w g ty cs d hc hu hd hi]
    exact hK _ _ h
def howN (m : Mv) : Nat := mvL.findIdx (fun x => x == m) + 1
abbrev tabA : Array Value := #[.bool false, .bool false, .bool false, .bool false, .bool true, .bool false, .bool false, .bool true, .bool true, .bool false, .bool false, .bool true, .bool true, .bool false, .bool false, .bool true, .bool false, .bool true, .bool true, .bool true, .bool true, .bool true, .bool true, .bool false]
theorem tab_cells {w : World} (h : MovesAt w) : ∀ j v, tabA.toList[j]? = some v → w.cell? ⟨0, j, none⟩ = some v := by
  intro j v hj
  have hl : j < 24 := (List.getElem?_eq_some_iff.1 hj).1
  have m0 := h.2 0 (by omega)
  have m1 := h.2 1 (by omega)
  have m2 := h.2 2 (by omega)
  have m3 := h.2 3 (by omega)
  have m4 := h.2 4 (by omega)
  have m5 := h.2 5 (by omega)
  have m6 := h.2 6 (by omega)
  have m7 := h.2 7 (by omega)
  have hc : j = 0 ∨ j = 1 ∨ j = 2 ∨ j = 3 ∨ j = 4 ∨ j = 5 ∨ j = 6 ∨ j = 7 ∨ j = 8 ∨ j = 9 ∨ j = 10 ∨ j = 11 ∨ j = 12 ∨ j = 13 ∨ j = 14 ∨ j = 15 ∨ j = 16 ∨ j = 17 ∨ j = 18 ∨ j = 19 ∨ j = 20 ∨ j = 21 ∨ j = 22 ∨ j = 23 := by omega
  rcases hc with rfl | rfl | rfl | rfl | rfl | rfl | rfl | rfl | rfl | rfl | rfl | rfl | rfl | rfl | rfl | rfl | rfl | rfl | rfl | rfl | rfl | rfl | rfl | rfl <;> (cases hj; first | exact m0.1 | exact m0.2.1 | exact m0.2.2 | exact m1.1 | exact m1.2.1 | exact m1.2.2 | exact m2.1 | exact m2.2.1 | exact m2.2.2 | exact m3.1 | exact m3.2.1 | exact m3.2.2 | exact m4.1 | exact m4.2.1 | exact m4.2.2 | exact m5.1 | exact m5.2.1 | exact m5.2.2 | exact m6.1 | exact m6.2.1 | exact m6.2.2 | exact m7.1 | exact m7.2.1 | exact m7.2.2)
theorem howN_at : ∀ (x y z : Bool) (k : Fin 8), (∀ j : Fin 8, j.1 < k.1 → mvAt j.1 ≠ (x, y, z)) → mvAt k.1 = (x, y, z) → howN (x, y, z) = k.1 + 1 := by decide
theorem howN_some : ∀ (x y z : Bool), ∃ k : Fin 8, mvAt k.1 = (x, y, z) := by decide
theorem index_tab (k : Nat) (hk : k < 8) (V : World) : (Instr.index 68 (.agg tabA) (.int .i64 k)).run Tryd.prog V = .ok (.agg (mvA (mvAt k))) V := by
  have hc : k = 0 ∨ k = 1 ∨ k = 2 ∨ k = 3 ∨ k = 4 ∨ k = 5 ∨ k = 6 ∨ k = 7 := by omega
  rcases hc with rfl | rfl | rfl | rfl | rfl | rfl | rfl | rfl
  · exact (show (Instr.index 68 (.agg tabA) (.int .i64 0)).run Tryd.prog V = .ok (.agg (mvA (mvAt 0))) V by kernel_rfl)
  · exact (show (Instr.index 68 (.agg tabA) (.int .i64 1)).run Tryd.prog V = .ok (.agg (mvA (mvAt 1))) V by kernel_rfl)
  · exact (show (Instr.index 68 (.agg tabA) (.int .i64 2)).run Tryd.prog V = .ok (.agg (mvA (mvAt 2))) V by kernel_rfl)
  · exact (show (Instr.index 68 (.agg tabA) (.int .i64 3)).run Tryd.prog V = .ok (.agg (mvA (mvAt 3))) V by kernel_rfl)
  · exact (show (Instr.index 68 (.agg tabA) (.int .i64 4)).run Tryd.prog V = .ok (.agg (mvA (mvAt 4))) V by kernel_rfl)
  · exact (show (Instr.index 68 (.agg tabA) (.int .i64 5)).run Tryd.prog V = .ok (.agg (mvA (mvAt 5))) V by kernel_rfl)
  · exact (show (Instr.index 68 (.agg tabA) (.int .i64 6)).run Tryd.prog V = .ok (.agg (mvA (mvAt 6))) V by kernel_rfl)
  · exact (show (Instr.index 68 (.agg tabA) (.int .i64 7)).run Tryd.prog V = .ok (.agg (mvA (mvAt 7))) V by kernel_rfl)
set_option maxRecDepth 100000 in
set_option maxHeartbeats 3200000 in
theorem how_any (m : Mv) (w : World) (hm : MovesAt w) : Calls Tryd.prog 28 #[.agg (mvA m)] w fun e w' => e = .returned (.int .i64 (howN m : Nat)) ∧ Below w.heap.size w w' := by
  have HI := hide (fun k hk V => index_tab k hk V)
  obtain ⟨x, y, z⟩ := m
  have HB := hide (bel_alloc w (Obj.cells #[.bool x, .bool y, .bool z] 55))
  have b1 := al1 w (Obj.cells #[.bool x, .bool y, .bool z] 55)
  have HT := hide (tab_cells (hm.below HB.out (Nat.le_refl _)))
  clear hm
  go_enter Tryd.func28, Tryd.ntmps28
  go_wp2_with (refine wpList_load_cells rfl 68 _ rfl _ rfl tabA _ HT.out Tryd.underlying68 rfl (by kernel_rfl) ?_)
  have hl1 := (Array.getElem?_eq_some_iff.1 b1).1
  generalize w.alloc (Obj.cells #[.bool x, .bool y, .bool z] 55) = U at *
  generalize tabA = TB at *
  clear HT
  go_loopw [6] (fun i wr => ∃ k : Nat, k < 8 ∧ i = .int .i64 k ∧ Hid (∀ j, j < k → mvAt j ≠ (x, y, z)) ∧ Below U.heap.size U wr) (fun i _ => 8 - (intOf i).toNat)
  case atStart => exact ⟨0, by omega, rfl, fun j hj => absurd hj (by omega), Below.refl _ _⟩
  case round =>
    obtain ⟨k, hk, rfl, HJ, hb⟩ := hrel
    have hix := HI.out k hk
    obtain ⟨⟨p, q, r⟩, hP⟩ : ∃ M, mvAt k = M := ⟨_, rfl⟩
    rw [hP] at hix
    obtain ⟨e0, e1, e2⟩ := cells3 ((hb.block _ hl1).trans b1)
    have u1 := al1 wr (Obj.cells #[.bool p, .bool q, .bool r] 55)
    have hba := hb.alloc hb.size (Obj.cells #[.bool p, .bool q, .bool r] 55)
    obtain ⟨g0, g1, g2⟩ := cells3 ((hba.block _ hl1).trans b1)
    obtain ⟨y0, y1, y2⟩ := cells3 u1
    clear e0 e1 e2
    by_cases hE : (p, q, r) = (x, y, z)
    · have HR := hide (show howN (x, y, z) = k + 1 from howN_at x y z ⟨k, hk⟩ (fun j hj => HJ.out j.1 hj) (hP.trans hE))
      cases hE
      go_wp2
      go_ret
      exact ⟨ret_int (by rw [HR.out]; omega), bel_trans HB.out hba⟩
    · have hlt : k + 1 < 8 := by
        obtain ⟨j, hj⟩ := howN_some x y z
        rcases Nat.lt_or_ge k j.1 with h | h
        · have := j.2; omega
        · rcases Nat.eq_or_lt_of_le h with e | h
          · exact absurd (by rw [← hP, ← e, hj]) hE
          · exact absurd hj (HJ.out j.1 h)
      have HJ2 := hide (show ∀ j, j < k + 1 → mvAt j ≠ (x, y, z) from fun j hj => by
        rcases Nat.eq_or_lt_of_le (show j ≤ k by omega) with e | h
        · rw [e, hP]; exact hE
        · exact HJ.out j h)
      have hD : (p = x ∧ q = y ∧ ¬ r = z) ∨ (p = x ∧ ¬ q = y) ∨ ¬ p = x := by
        by_cases h1 : p = x
        · by_cases h2 : q = y
          · refine .inl ⟨h1, h2, fun h3 => hE (by rw [h1, h2, h3])⟩
          · exact .inr (.inl ⟨h1, h2⟩)
        · exact .inr (.inr h1)
      clear hE
      rcases hD with ⟨rfl, rfl, h3⟩ | ⟨rfl, h2⟩ | h1
      all_goals
        go_wp2
        go_roundw
        case rel => exact ⟨k + 1, hlt, by go_num, HJ2, hba⟩
        case measure => simp [intOf]; omega
def thenM (m n : Mv) : Mv := if m.1 = true then (m.1 != n.1, m.2.1 != n.2.2, m.2.2 != n.2.1) else (m.1 != n.1, m.2.1 != n.2.1, m.2.2 != n.2.2)
def backM (m : Mv) : Mv := if m.1 = true then (m.1, m.2.2, m.2.1) else m
def turnedW (m : Mv) (W H : Int) : Int := if m.1 = true then H else W
def srcX (m : Mv) (W x y : Int) : Int := if m.2.1 = true then W - 1 - (if m.1 = true then y else x) else if m.1 = true then y else x
def srcY (m : Mv) (H x y : Int) : Int := if m.2.2 = true then H - 1 - (if m.1 = true then x else y) else if m.1 = true then x else y
set_option maxRecDepth 100000 in
theorem then_any (m n : Mv) (w : World) : Calls Tryd.prog 29 #[.agg (mvA m), .agg (mvA n)] w fun e w' => e = .returned (.agg (mvA (thenM m n))) ∧ Below w.heap.size w w' := by
  obtain ⟨x, y, z⟩ := m
  obtain ⟨p, q, r⟩ := n
  cases x
  all_goals
    go_enter Tryd.func29, Tryd.ntmps29
    go_wp2
    refine bodyPost_ret (by simp [results, Tryd.results29, go_sem]; rfl) rfl ⟨?_, be3 w _ _ _⟩
    cases p <;> cases q <;> cases r <;> cases y <;> cases z <;> rfl
set_option maxRecDepth 100000 in
theorem back_any (m : Mv) (w : World) : Calls Tryd.prog 27 #[.agg (mvA m)] w fun e w' => e = .returned (.agg (mvA (backM m))) ∧ Below w.heap.size w w' := by
  obtain ⟨x, y, z⟩ := m
  cases x
  all_goals
    go_enter Tryd.func27, Tryd.ntmps27
    go_wp2
    refine bodyPost_ret (by simp [results, Tryd.results27, go_sem]; rfl) rfl ⟨?_, be2 w _ _⟩
    rfl
set_option maxRecDepth 100000 in
theorem turnedG_any (m : Mv) (W H : Int) (w : World) : Calls Tryd.prog 24 #[.agg (mvA m), .agg #[.int .i64 W, .int .i64 H]] w fun e w' => e = .returned (.agg #[.int .i64 (turnedW m W H), .int .i64 (turnedW m H W)]) ∧ Below w.heap.size w w' := by
  obtain ⟨x, y, z⟩ := m
  cases x
  all_goals
    go_enter Tryd.func24, Tryd.ntmps24
    go_wp2
    refine bodyPost_ret (by simp [results, Tryd.results24, go_sem]; rfl) rfl ⟨?_, be3 w _ _ _⟩
    rfl
set_option maxRecDepth 100000 in
theorem source_any (m : Mv) (W H x y : Int) (hW : 0 ≤ W ∧ W ≤ 64) (hH : 0 ≤ H ∧ H ≤ 64) (hx : 0 ≤ x ∧ x ≤ 64) (hy : 0 ≤ y ∧ y ≤ 64) (w : World) : Calls Tryd.prog 26 #[.agg (mvA m), .agg #[.int .i64 W, .int .i64 H], .agg #[.int .i64 x, .int .i64 y]] w fun e w' => e = .returned (.agg #[.int .i64 (srcX m W x y), .int .i64 (srcY m H x y)]) ∧ Below w.heap.size w w' := by
  obtain ⟨a, b, c⟩ := m
  cases a <;> cases b <;> cases c
  all_goals
    go_enter Tryd.func26, Tryd.ntmps26
    go_wp2
    refine bodyPost_ret (by simp [results, Tryd.results26, go_sem]; rfl) rfl ⟨?_, be4 w _ _ _ _⟩
    rfl
end Go.Proofs.YtolcndchfnifhacDoor

namespace Go.Proofs.YtolcndchfnifhacDoor
open Go.RowKit Go.Shelf
attribute [local go_sem] Oper.semAt_some
def idx (N k : Nat) : List (Fin N) := (List.finRange N).take k
theorem idx_succ (N k : Nat) (h : k < N) : idx N (k + 1) = idx N k ++ [⟨k, h⟩] := by
  unfold idx; rw [List.take_succ_eq_append_getElem (by simpa using h)]; simp
theorem idx_length (N k : Nat) (h : k ≤ N) : (idx N k).length = k := by unfold idx; simp; omega
theorem idx_prefix (N k : Nat) : idx N k <+: List.finRange N := List.take_prefix _ _
theorem idx_all (N : Nat) : idx N N = List.finRange N := List.take_of_length_le (by simp)
theorem map_finRange {α : Type} (N : Nat) (f : Nat → α) : (List.finRange N).map (fun j => f j.1) = (List.range N).map f := by
  apply List.ext_getElem
  · simp
  · intro i h1 h2; simp
def KeepB (Bg : Nat) (A B : World) : Prop := B.heap[Bg]? = A.heap[Bg]?
set_option maxRecDepth 100000 in
set_option maxHeartbeats 1000000 in
theorem places1_in (F : Fence) (n : Nat) (hf : F.fn 35) (hro : F.round = none) (hn : 1 ≤ n) (l Bg W H N : Nat) (hW : W ≤ 64) (hH : H ≤ 64) (hN : N = H * W) (J Jx : List (Fin N) → World → Prop)
    (hY : ∀ pre (x : Fin N) V, J pre V → pre.length < N → YieldAt F (n - 1) Tryd.prog l #[.agg #[.int .i64 (x.1 % W : Nat), .int .i64 (x.1 / W : Nat)]] V fun e V' =>
      (e = .returned (.bool true) ∧ J (pre ++ [x]) V' ∧ KeepB Bg V V') ∨ (e = .returned (.bool false) ∧ Jx (pre ++ [x]) V'))
    (V : World) (hc0 : V.cell? ⟨Bg, 0, none⟩ = some (.int .i64 W)) (hc1 : V.cell? ⟨Bg, 1, none⟩ = some (.int .i64 H)) (h0 : J [] V) :
    CallsIn F n Tryd.prog 35 #[.func (.yield l) #[] #[], .pointer (some ⟨Bg, 0, none⟩)] V fun e V' => (∃ v, e = .returned v) ∧
      ((∃ ys, ys = List.finRange N ∧ J ys V') ∨ (∃ pre, pre <+: List.finRange N ∧ Jx pre V')) := by
  have HN := hide hN
  clear hN
  refine callsIn_of_wp Tryd.func35 rfl hf ?_ hro
  simp only [Tryd.ntmps35, List.size_toArray, List.length_cons, List.length_nil, Nat.reduceAdd, Nat.reduceSub, Array.replicate_succ, Array.replicate_zero, List.push_toArray, List.append_toArray, List.nil_append, List.cons_append]
  gi_wp2
  gi_loopw [7] (fun i wr => ∃ y : Nat, y ≤ H ∧ i = .int .i64 y ∧ J (idx N (y * W)) wr ∧ wr.cell? ⟨Bg, 0, none⟩ = some (.int .i64 W)) (fun i _ => H - (intOf i).toNat)
  case atStart => exact ⟨0, Nat.zero_le _, rfl, by rw [Nat.zero_mul]; exact h0, hc0⟩
  case round =>
    obtain ⟨y, hy, rfl, hJ, c0⟩ := hrel
    clear hc0 hc1 h0
    by_cases hlt : y < H
    · have hd : decide ((y : Int) < (H : Int)) = true := by simp; omega
      obtain ⟨M, hM⟩ : ∃ M, M = y * W := ⟨_, rfl⟩
      rw [← hM] at hJ
      have hmul : M + W ≤ N := by
        rw [HN.out, hM, ← Nat.succ_mul]; exact Nat.mul_le_mul_right W hlt
      have HMUL := hide hmul
      have HPL := hide (fun x (hx : x < W) => show (M + x) % W = x ∧ (M + x) / W = y by rw [hM]; exact place_of hx)
      have HNX := hide (show idx N ((y + 1) * W) = idx N (M + W) by rw [Nat.succ_mul, hM])
      clear hM hmul
      gi_wp2
      gi_loopw [12] (fun i wr => ∃ x : Nat, x ≤ W ∧ i = .int .i64 x ∧ J (idx N (M + x)) wr ∧ wr.cell? ⟨Bg, 0, none⟩ = some (.int .i64 W)) (fun i _ => W - (intOf i).toNat)
      case atStart => exact ⟨0, Nat.zero_le _, rfl, hJ, c0⟩
      case round =>
        clear hJ c0
        obtain ⟨x, hx, rfl, hJ, c0⟩ := hrel
        by_cases hxl : x < W
        · have hd2 : decide ((x : Int) < (W : Int)) = true := by simp; omega
          have hxN : M + x < N := by have := HMUL.out; omega
          have HSP := hide (idx_succ N (M + x) hxN)
          have HPR := hide (show idx N (M + x) ++ [⟨M + x, hxN⟩] <+: List.finRange N by
            rw [← HSP.out]; exact idx_prefix N _)
          have hYx := hY (idx N (M + x)) ⟨M + x, hxN⟩ _ hJ (by rw [idx_length _ _ (by omega)]; exact hxN)
          simp only [(HPL.out x hxl).1, (HPL.out x hxl).2] at hYx
          obtain ⟨fn, tmps, assign, body, hy', hR⟩ := hYx
          gi_wp2
          refine hR.mono ?_
          rintro e V3 (⟨rfl, hJ3, hk3⟩ | ⟨rfl, hJx3⟩)
          · have c3 := (World.cell?_of_block (a := ⟨Bg, 0, none⟩) hk3).trans c0
            rw [← HSP.out] at hJ3
            gi_wp2
            go_roundw
            case rel => exact ⟨x + 1, by omega, by go_num, hJ3, c3⟩
            case measure => simp [intOf]; omega
          · gi_wp2
            refine bodyPost_ret (results_none rfl _ _ _) rfl ?_
            exact ⟨⟨_, rfl⟩, .inr ⟨_, HPR.out, hJx3⟩⟩
        · have hd2 : decide ((x : Int) < (W : Int)) = false := by simp; omega
          obtain rfl : x = W := by omega
          gi_wp2
          go_roundw
          case rel => exact ⟨y + 1, by omega, by go_num, by rw [HNX.out]; exact hJ, c0⟩
          case measure => simp [intOf]; omega
    · obtain rfl : y = H := by omega
      have hd : decide ((y : Int) < (y : Int)) = false := by simp
      gi_wp2
      go_end0
      exact ⟨⟨_, rfl⟩, .inl ⟨_, by rw [← HN.out, idx_all], hJ⟩⟩
end Go.Proofs.YtolcndchfnifhacDoor

namespace Go.Proofs.YtolcndchfnifhacDoor
open Go.RowKit
def NoDefer (ops : Array Oper) : Prop := ∀ (i : Nat) (o : Oper), ops[i]? = some o → ∀ c, o.op ≠ .defer c
theorem wpIn_of_wp {P : Program} {o : Oper} {a : Act} {w : World} {K : Act → World → Prop} {Q : Exit → Act → World → Prop} {l n : Nat} (hd : ∀ c, o.op ≠ .defer c)
    (h : o.wp P a w K Q) : o.wpIn (Fence.wide.inRound l) n P a w K Q := by
  unfold Oper.wp at h
  unfold Oper.wpIn
  refine ⟨fun _ _ => trivial, ?_⟩
  rw [Oper.semAt_eq _ _ _ hd]
  generalize (execOp a.eval o).run P w = r at *
  cases r with
  | ok x w' =>
    cases x <;> simp only [Oper.upon, Oper.uponIn] at h ⊢
    all_goals first
      | exact h
      | exact ⟨fun hh => by simp [Fence.wide, Fence.inRound] at hh, CallsIn.inRound l (callsIn_wide.2 h)⟩
      | exact ⟨fun hh => by simp [Fence.wide, Fence.inRound] at hh, fun c cs _ => let ⟨v, w', r, s⟩ := h c cs; ⟨v, w', r, stepsIn_wide.2 s⟩⟩
      | exact h.elim
  | halt x w' => cases x <;> simp only [Oper.upon, Oper.uponIn] at h ⊢ <;> first | exact h | exact h.elim
theorem wpOpIn_of_wpOp {P : Program} {ops : Array Oper} {a : Act} {w : World} {K : Act → World → Prop} {Q : Exit → Act → World → Prop} {l n i : Nat} (hd : NoDefer ops) (hno : ¬ LetsOut Q)
    (h : wpOp P ops Q i K a w) : wpOpIn (Fence.wide.inRound l) n P ops Q i K a w := by
  unfold wpOp at h
  unfold wpOpIn
  cases ho : ops[i]? with
  | none => simp only [ho] at h ⊢; exact h
  | some o =>
    simp only [ho] at h ⊢
    split
    · rename_i hw
      rw [if_pos hw] at h
      rcases h with h | h
      · exact wpIn_of_wp (hd i o ho) h
      · exact absurd h.2 hno
    · rename_i hw
      rw [if_neg hw] at h
      exact ⟨fun _ _ => trivial, h⟩
theorem wpAnyIn_of_wpAny {P : Program} {md : Region.Mode} {ops : Array Oper} {Q : Exit → Act → World → Prop} {l n : Nat} (hd : NoDefer ops) (hno : ¬ LetsOut Q) :
    ∀ (fuel : Nat) (listed : Array Bool) (a : Act) (w : World), wpAny P md ops Q fuel listed a w → wpAnyIn (Fence.wide.inRound l) n P md ops Q fuel listed a w
  | 0, _, _, _, h => h
  | fuel + 1, _, _, _, h => ⟨h.1, fun i hi => wpOpIn_mono (fun a' w' h' => wpAnyIn_of_wpAny hd hno fuel _ a' w' h') (wpOpIn_of_wpOp hd hno (h.2 i hi))⟩
theorem wpIn_region_held {P : Program} {id l n : Nat} {ops : Array Oper} {S : World → Prop} {Q : Exit → Act → World → Prop} {a : Act} {w : World} (hm : P.follows .mixedOrders = true) (hd : NoDefer ops) (hno : ¬ LetsOut Q)
    (h : wpAnyH P .any ops Q S ops.size (Array.replicate ops.size false) a { w with drawn := w.drawn + 1 }) : (Code.region id ops true).wpIn (Fence.wide.inRound l) n P Q a w :=
  wpIn_region_any hm (wpAnyIn_of_wpAny hd hno _ _ _ _ (wpAny_of_held _ _ _ _ h))
end Go.Proofs.YtolcndchfnifhacDoor

namespace Go.Proofs.YtolcndchfnifhacDoor
open Go.RowKit Go.Shelf
attribute [local go_sem] Oper.semAt_some
theorem KeepB.trans' {Bg : Nat} {A B C : World} (h : KeepB Bg A B) (k : KeepB Bg B C) : KeepB Bg A C := Eq.trans k h
theorem keepB_put {Bg l : Nat} {X : World} {o : Obj} (h : Bg ≠ l) : KeepB Bg X (X.putObj l o) := by
  show (X.putObj l o).heap[Bg]? = X.heap[Bg]?
  unfold World.putObj
  simp [Ne.symm h]
theorem below_drew'' {B : Nat} {a w : World} (h : Below B a w) : Below B a w.drew := h.drew
set_option maxHeartbeats 400000 in
theorem places_in (F : Fence) (n : Nat) (hf : F.fn 33) (hro : F.round = none) (W H : Int) (w : World) :
    CallsIn F n Tryd.prog 33 #[.agg #[.int .i64 W, .int .i64 H]] w fun e w' => e = .returned (.func (.func 35) #[] #[.pointer (some ⟨w.heap.size, 0, none⟩)]) ∧ w' = w.alloc (.cells #[.int .i64 W, .int .i64 H] 46) := by
  refine callsIn_of_wp Tryd.func33 rfl hf ?_ hro
  simp only [Tryd.ntmps33, List.size_toArray, List.length_cons, List.length_nil, Nat.reduceAdd, Nat.reduceSub, Array.replicate_succ, Array.replicate_zero, List.push_toArray, List.append_toArray, List.nil_append, List.cons_append]
  gi_wp2
  go_ret
  exact ⟨rfl, rfl⟩
theorem places_stops (F : Fence) (n : Nat) (hf : F.fn 35) (hro : F.round = none) (hn : 1 ≤ n) (Bg W H N : Nat) (hW : W ≤ 64) (hH : H ≤ 64) (hN : N = H * W) (w : World) (hBw : Bg < w.heap.size)
    (hc0 : w.cell? ⟨Bg, 0, none⟩ = some (.int .i64 W)) (hc1 : w.cell? ⟨Bg, 1, none⟩ = some (.int .i64 H)) :
    SeqStopsK F n Tryd.prog 35 #[.pointer (some ⟨Bg, 0, none⟩)] (fun x : Fin N => #[Value.agg #[.int .i64 (x.1 % W : Nat), .int .i64 (x.1 / W : Nat)]]) (KeepB Bg) (fun ys => ys = List.finRange N) (fun pre => pre <+: List.finRange N) N w := fun l J Jx V hV _ _ hY h0 =>
  places1_in F n hf hro hn l Bg W H N hW hH hN J Jx hY V ((hV.cell (p := ⟨Bg, 0, none⟩) hBw).trans hc0) ((hV.cell (p := ⟨Bg, 1, none⟩) hBw).trans hc1) h0
end Go.Proofs.YtolcndchfnifhacDoor

namespace Go.Proofs.YtolcndchfnifhacDoor
open Go.RowKit
theorem own_ne {V : World} {base : Nat} {et : TypeId} {sz : Nat} {v : Value} {n : Nat} {xs : List Value} (h : V.ownsRow base et sz v n xs) {b : Nat} {cs : Array Value} {t : TypeId} {fr : Nat × Nat} (hb : V.heap[b]? = some (.cells cs t fr)) (ht : t ≠ et) : some b ≠ v.ownBlock := by
  rcases h.2 with ⟨hv, _⟩ | ⟨g, cap, cur, hv, _, hg, _⟩
  · rw [hv]; simp [Value.ownBlock]
  · rw [hv]
    simp only [Value.ownBlock]
    intro e
    simp only [Option.some.injEq] at e
    subst e
    rw [hb] at hg
    simp only [Option.some.injEq, Obj.cells.injEq] at hg
    exact ht hg.2.1
theorem own_cells {V : World} {base : Nat} {et : TypeId} {sz : Nat} {v : Value} {n : Nat} {xs : List Value} (h : V.ownsRow base et sz v n xs) {b : Nat} {o : Obj} (hb : V.heap[b]? = some o) (ho : o.isCells = false) : some b ≠ v.ownBlock := by
  rcases h.2 with ⟨hv, _⟩ | ⟨g, cap, cur, hv, _, hg, _⟩
  · rw [hv]; simp [Value.ownBlock]
  · rw [hv]
    simp only [Value.ownBlock]
    intro e
    simp only [Option.some.injEq] at e
    subst e
    rw [hb] at hg
    cases hg
    simp [Obj.isCells] at ho
theorem lenOf_any {w : World} {base : Nat} {e : TypeId} {sz : Nat} {v : Value} {n : Nat} {xs : List Value} (h : w.ownsRow base e sz v n xs) : ∃ ao cap, v = .slice ao n cap := by
  rcases h.2 with ⟨hv, hn⟩ | ⟨g, cap, cur, hv, _⟩
  · exact ⟨none, 0, by rw [hv, hn]⟩
  · exact ⟨_, _, hv⟩
theorem noDefer_of {ops : Array Oper} (h : (ops.toList.all fun o => match o.op with | .defer _ => false | _ => true) = true) : NoDefer ops := by
  intro i o ho c hc
  have hm : o ∈ ops.toList := by
    rw [← Array.getElem?_toList] at ho
    exact List.mem_of_getElem? ho
  have := List.all_eq_true.1 h o hm
  rw [hc] at this
  cases this
theorem own_keep {B : Nat} {X Y : World} {row : Option Nat} (hg : X.grownBy Y row) (hr : ∀ r, row = some r → B ≤ r ∧ ∃ o : Obj, X.heap[r]? = some o ∧ o.isCells = false) {b : Nat} {cs : Array Value} {t : TypeId} {fr : Nat × Nat} (h : X.heap[b]? = some (.cells cs t fr)) : Y.heap[b]? = some (.cells cs t fr) := by
  refine (hg.block b (Array.getElem?_eq_some_iff.1 h).1 (fun e => ?_)).trans h
  obtain ⟨_, o, ho, hc⟩ := hr b e.symm
  rw [h] at ho; cases ho; cases hc
theorem own_keepRow {B : Nat} {X Y : World} {row : Option Nat} (hg : X.grownBy Y row) (hr : ∀ r, row = some r → B ≤ r ∧ ∃ o : Obj, X.heap[r]? = some o ∧ o.isCells = false) {base : Nat} {et : TypeId} {sz : Nat} {v : Value} {n : Nat} {xs : List Value} (h : X.ownsRow base et sz v n xs) : Y.ownsRow base et sz v n xs := by
  refine h.kept hg ?_
  by_cases hv : v.ownBlock = none
  · exact .inl hv
  · refine .inr fun e => ?_
    cases hrow : row with
    | none => rw [hrow] at e; exact hv e
    | some r =>
      obtain ⟨_, o, ho, hc⟩ := hr r hrow
      exact own_cells h ho hc (by rw [e, hrow])
theorem grid_tail {et ct ft gt xt : TypeId} {sz : Nat} (ce : ct ≠ et) (fe : ft ≠ et) (ge : gt ≠ et) (xe : xt ≠ et) (cf : ct ≠ ft) (cg : ct ≠ gt) (cx : ct ≠ xt)
    {W' V1 w1 w : World} {base PB Bt Br Bx Bg B0 : Nat} {W H : Int} {so : Option Addr} {scap n g cap : Nat} {fn x0 x1 : Value} {es : Array Value} {xs : List Value}
    (i1 : W'.heap[PB]? = some (.cells #[.int .i64 W, .int .i64 H, .slice so n scap] ct (0, 0))) (i2 : W'.ownsRow base et sz (.slice so n scap) n xs)
    (i3 : W'.heap[Bt]? = some (.cells #[fn] ft (0, 0))) (i4 : W'.heap[Br]? = some (.cells #[.int .i64 0, .int .i64 0, .slice none 0 0] ct (0, 0)))
    (i6 : W'.heap[Bg]? = some (.cells #[.int .i64 W, .int .i64 H] gt (0, 0))) (bX : W'.heap[Bx]? = some (.cells #[x0, x1] xt (0, 0)))
    (i5 : Below w.heap.size w W') (hbase : w.heap.size ≤ base) (hPw : w.heap.size ≤ PB) (hPR : PB ≠ Br)
    (hV1 : Below W'.heap.size W' V1) (hg : (V1.alloc (Obj.cells es et)).grownBy w1 (Value.slice so n scap).ownBlock)
    (ho : w1.ownsRow base et sz (.slice (some ⟨g, 0, none⟩) (n + 1) cap) (n + 1) (xs ++ es.toList)) :
    (w1.cell? ⟨Bt, 0, none⟩ = some fn ∧ w1.cell? ⟨Bx, 0, none⟩ = some x0 ∧ w1.cell? ⟨Bx, 1, none⟩ = some x1) ∧ w1.cell? ⟨PB, 2, none⟩ = some (.slice so n scap) ∧ w1.frozen? ⟨PB, 2, none⟩ = false ∧
    (((w1.setCell ⟨PB, 2, none⟩ (.slice (some ⟨g, 0, none⟩) (n + 1) cap)).cell? ⟨Bt, 0, none⟩ = some fn ∧ (w1.setCell ⟨PB, 2, none⟩ (.slice (some ⟨g, 0, none⟩) (n + 1) cap)).cell? ⟨Bx, 0, none⟩ = some x0 ∧ (w1.setCell ⟨PB, 2, none⟩ (.slice (some ⟨g, 0, none⟩) (n + 1) cap)).cell? ⟨Bx, 1, none⟩ = some x1) ∧
      (KeepsFrom B0 W' (w1.setCell ⟨PB, 2, none⟩ (.slice (some ⟨g, 0, none⟩) (n + 1) cap)) ∧ KeepB Bg W' (w1.setCell ⟨PB, 2, none⟩ (.slice (some ⟨g, 0, none⟩) (n + 1) cap)) ∧
        ((∃ v, (w1.setCell ⟨PB, 2, none⟩ (.slice (some ⟨g, 0, none⟩) (n + 1) cap)).heap[PB]? = some (.cells #[.int .i64 W, .int .i64 H, v] ct (0, 0)) ∧ (w1.setCell ⟨PB, 2, none⟩ (.slice (some ⟨g, 0, none⟩) (n + 1) cap)).ownsRow base et sz v (n + 1) (xs ++ es.toList)) ∧
          (w1.setCell ⟨PB, 2, none⟩ (.slice (some ⟨g, 0, none⟩) (n + 1) cap)).heap[Bt]? = some (.cells #[fn] ft (0, 0)) ∧ (w1.setCell ⟨PB, 2, none⟩ (.slice (some ⟨g, 0, none⟩) (n + 1) cap)).heap[Br]? = some (.cells #[.int .i64 0, .int .i64 0, .slice none 0 0] ct (0, 0)) ∧
          (w1.setCell ⟨PB, 2, none⟩ (.slice (some ⟨g, 0, none⟩) (n + 1) cap)).heap[Bg]? = some (.cells #[.int .i64 W, .int .i64 H] gt (0, 0)) ∧ Below w.heap.size w (w1.setCell ⟨PB, 2, none⟩ (.slice (some ⟨g, 0, none⟩) (n + 1) cap))))) := by
  have keep : ∀ b o, W'.heap[b]? = some o → some b ≠ (Value.slice so n scap).ownBlock → w1.heap[b]? = some o := fun b o hb hne => by
    have hl := (Array.getElem?_eq_some_iff.1 hb).1
    have hs := hV1.size
    rw [hg.block b (by simp; omega) hne, Below.heap_alloc _ _ _ (by omega), hV1.block b hl]; exact hb
  have kP := keep PB _ i1 (own_ne i2 i1 ce)
  have kT := keep Bt _ i3 (own_ne i2 i3 fe)
  have kR := keep Br _ i4 (own_ne i2 i4 ce)
  have kG := keep Bg _ i6 (own_ne i2 i6 ge)
  have kX := keep Bx _ bX (own_ne i2 bX xe)
  have nT : PB ≠ Bt := fun e => by rw [e] at i1; rw [i1] at i3; simp only [Option.some.injEq, Obj.cells.injEq] at i3; exact cf i3.2.1
  have nG : PB ≠ Bg := fun e => by rw [e] at i1; rw [i1] at i6; simp only [Option.some.injEq, Obj.cells.injEq] at i6; exact cg i6.2.1
  have nX : PB ≠ Bx := fun e => by rw [e] at i1; rw [i1] at bX; simp only [Option.some.injEq, Obj.cells.injEq] at bX; exact cx bX.2.1
  have fT := (Below.heap_setCell w1 ⟨PB, 2, none⟩ (.slice (some ⟨g, 0, none⟩) (n + 1) cap) Bt (Ne.symm nT)).trans kT
  have fR := (Below.heap_setCell w1 ⟨PB, 2, none⟩ (.slice (some ⟨g, 0, none⟩) (n + 1) cap) Br (Ne.symm hPR)).trans kR
  have fG := (Below.heap_setCell w1 ⟨PB, 2, none⟩ (.slice (some ⟨g, 0, none⟩) (n + 1) cap) Bg (Ne.symm nG)).trans kG
  have fX := (Below.heap_setCell w1 ⟨PB, 2, none⟩ (.slice (some ⟨g, 0, none⟩) (n + 1) cap) Bx (Ne.symm nX)).trans kX
  refine ⟨⟨by rw [Lib.cell_of_heap kT]; rfl, by rw [Lib.cell_of_heap kX]; rfl, by rw [Lib.cell_of_heap kX]; rfl⟩, by rw [Lib.cell_of_heap kP]; rfl, Lib.frozen_of_heap kP 2,
    ⟨by rw [Lib.cell_of_heap fT]; rfl, by rw [Lib.cell_of_heap fX]; rfl, by rw [Lib.cell_of_heap fX]; rfl⟩, ?_, by rw [KeepB, fG, i6], ⟨_, ?_, ownsRow_setCell_other ho (fun e => own_ne ho kP ce e.symm) _⟩, fT, fR, fG, ?_⟩
  · refine ⟨?_, fun k o _ hk hoc => ?_⟩
    · have h1 := hV1.size
      have h2 := hg.size
      simp only [World.size_alloc] at h2
      simp only [World.setCell, Array.size_modify]
      omega
    · rw [Below.heap_setCell _ _ _ _ (fun e => by rw [show k = PB from e, i1] at hk; cases hk; simp [Obj.isCells] at hoc)]
      exact keep k o hk (own_cells i2 hk hoc)
  · have := heap_setCell_same w1 PB 2 _ _ (.slice (some ⟨g, 0, none⟩) (n + 1) cap) kP
    rw [this]; rfl
  · have hs := hV1.size
    exact ((((i5.trans (hV1.mono i5.size)).alloc (by have := i5.size; omega) _).grown hg (by have := i5.size; simp; omega) (fun j hj => Nat.le_trans hbase (i2.lt j hj).1))).setCell (p := ⟨PB, 2, none⟩) hPw _
theorem box3_set {W' : World} {Br : Nat} {ct : TypeId} {a b c : Value} (i4 : W'.heap[Br]? = some (.cells #[a, b, c] ct (0, 0))) (x y z : Value) (w : World) (hBr : w.heap.size ≤ Br) (i5 : Below w.heap.size w W') :
    (((W'.setCell ⟨Br, 0, none⟩ x).setCell ⟨Br, 1, none⟩ y).setCell ⟨Br, 2, none⟩ z).heap[Br]? = some (.cells #[x, y, z] ct (0, 0)) ∧ (∀ k, k ≠ Br → (((W'.setCell ⟨Br, 0, none⟩ x).setCell ⟨Br, 1, none⟩ y).setCell ⟨Br, 2, none⟩ z).heap[k]? = W'.heap[k]?) ∧
      (((W'.setCell ⟨Br, 0, none⟩ x).setCell ⟨Br, 1, none⟩ y).setCell ⟨Br, 2, none⟩ z).heap.size = W'.heap.size ∧ Below w.heap.size w (((W'.setCell ⟨Br, 0, none⟩ x).setCell ⟨Br, 1, none⟩ y).setCell ⟨Br, 2, none⟩ z) := by
  refine ⟨?_, fun k hk => ?_, by simp [World.setCell], ((i5.setCell (p := ⟨Br, 0, none⟩) hBr _).setCell (p := ⟨Br, 1, none⟩) hBr _).setCell (p := ⟨Br, 2, none⟩) hBr _⟩
  · have h1 := heap_setCell_same W' Br 0 _ _ x i4
    have h2 := heap_setCell_same _ Br 1 _ _ y h1
    have h3 := heap_setCell_same _ Br 2 _ _ z h2
    rw [h3]; rfl
  · rw [Below.heap_setCell _ _ _ _ hk, Below.heap_setCell _ _ _ _ hk, Below.heap_setCell _ _ _ _ hk]
theorem own_other {W' X : World} {Br : Nat} (h : ∀ k, k ≠ Br → X.heap[k]? = W'.heap[k]?) {base : Nat} {et : TypeId} {sz : Nat} {v : Value} {n : Nat} {xs : List Value} (hne : some Br ≠ v.ownBlock) (ho : W'.ownsRow base et sz v n xs) : X.ownsRow base et sz v n xs := by
  refine ⟨ho.1, ?_⟩
  rcases ho.2 with ho | ⟨g, cap, cur, hv, hg, hh, r⟩
  · exact .inl ho
  · refine .inr ⟨g, cap, cur, hv, hg, ?_, r⟩
    rw [h g (fun e => hne (by rw [hv, e]; rfl))]; exact hh
end Go.Proofs.YtolcndchfnifhacDoor

namespace Go.Proofs.YtolcndchfnifhacDoor
open Go.RowKit
abbrev Px := Int × Int × Int
def pixZ : Value := .agg #[.int .i64 0, .int .i64 0, .int .i64 0]
abbrev pixV (t : Px) : Value := .agg #[.int .i64 t.1, .int .i64 t.2.1, .int .i64 t.2.2]
abbrev pixA (t : Px) : Array Value := #[.int .i64 t.1, .int .i64 t.2.1, .int .i64 t.2.2]
def pixL (t : Px) : List Value := [.int .i64 t.1, .int .i64 t.2.1, .int .i64 t.2.2]
theorem Tryd.infoPixel : (Tryd.prog.info? 51).map (fun i => (i.zero, i.size, i.bytes)) = some (some pixZ, 3, 24) := by kernel_rfl
def IsPix (w : World) (v : Value) (ps : List Px) : Prop :=
  ∃ ao cap, v = .slice ao ps.length cap ∧ ps.length ≤ 9223372036854775807 ∧ (ps = [] ∨ ∃ b off, ao = some ⟨b, off, none⟩ ∧ b < w.heap.size ∧ ∀ j (h : j < ps.length),
    w.cell? ⟨b, off + j * 3, none⟩ = some (.int .i64 ps[j].1) ∧ w.cell? ⟨b, off + j * 3 + 1, none⟩ = some (.int .i64 ps[j].2.1) ∧ w.cell? ⟨b, off + j * 3 + 2, none⟩ = some (.int .i64 ps[j].2.2))
theorem IsPix.len {w : World} {v : Value} {ps : List Px} (h : IsPix w v ps) : ps.length ≤ 9223372036854775807 := by
  obtain ⟨_, _, _, h, _⟩ := h; exact h
theorem IsPix.below {w w' : World} {v : Value} {ps : List Px} {B : Nat} (h : IsPix w v ps) (hb : Below B w w') (hB : w.heap.size ≤ B) : IsPix w' v ps := by
  obtain ⟨ao, cap, hv, hl, h⟩ := h
  refine ⟨ao, cap, hv, hl, ?_⟩
  rcases h with h | ⟨b, off, ha, hlt, hc⟩
  · exact .inl h
  · refine .inr ⟨b, off, ha, Nat.lt_of_lt_of_le hlt hb.size, fun j hj => ?_⟩
    rw [hb.cell (p := ⟨b, off + j * 3, none⟩) (by exact Nat.lt_of_lt_of_le hlt hB), hb.cell (p := ⟨b, off + j * 3 + 1, none⟩) (by exact Nat.lt_of_lt_of_le hlt hB), hb.cell (p := ⟨b, off + j * 3 + 2, none⟩) (by exact Nat.lt_of_lt_of_le hlt hB)]
    exact hc j hj
theorem IsPix.alloc {w : World} {v : Value} {ps : List Px} (h : IsPix w v ps) (o : Obj) : IsPix (w.alloc o) v ps :=
  h.below ((Below.refl _ _).alloc (Nat.le_refl _) o) (Nat.le_refl _)
theorem IsPix.drew {w : World} {v : Value} {ps : List Px} (h : IsPix w v ps) : IsPix w.drew v ps := h
theorem IsPix.nil (w : World) : IsPix w (.slice none 0 0) [] := ⟨none, 0, rfl, by simp, .inl rfl⟩
theorem flat_get (ps : List Px) (j : Nat) (h : j < ps.length) :
    (ps.flatMap pixL)[j * 3]? = some (.int .i64 ps[j].1) ∧ (ps.flatMap pixL)[j * 3 + 1]? = some (.int .i64 ps[j].2.1) ∧ (ps.flatMap pixL)[j * 3 + 2]? = some (.int .i64 ps[j].2.2) := by
  induction ps generalizing j with
  | nil => simp at h
  | cons p ps ih =>
    cases j with
    | zero => simp [pixL, List.flatMap_cons]
    | succ j =>
      have h' : j < ps.length := by simpa using h
      have := ih j h'
      rw [List.flatMap_cons, show (j + 1) * 3 = j * 3 + 3 by omega]
      simp only [pixL, List.cons_append, List.nil_append, List.getElem?_cons_succ, List.getElem_cons_succ]
      exact this
theorem IsPix.own {w : World} {base : Nat} {v : Value} {ps : List Px} (h : w.ownsRow base 51 3 v ps.length (ps.flatMap pixL)) (hl : ps.length ≤ 9223372036854775807) : IsPix w v ps := by
  rcases h.2 with ⟨hv, hn⟩ | ⟨g, cap, cur, hv, _, hg, h1, h2, h3, h4⟩
  · exact ⟨none, 0, by rw [hv, hn], hl, .inl (List.eq_nil_of_length_eq_zero hn)⟩
  · refine ⟨_, cap, hv, hl, .inr ⟨g, 0, rfl, (Array.getElem?_eq_some_iff.1 hg).1, fun j hj => ?_⟩⟩
    have key : ∀ i u, i < ps.length * 3 → (ps.flatMap pixL)[i]? = some u → w.cell? ⟨g, 0 + i, none⟩ = some u := fun i u hi hu => by
      rw [Nat.zero_add, cell_of_row w g i cur _ _ hg]
      rw [← h4, List.getElem?_take_of_lt hi] at hu
      simpa using hu
    obtain ⟨a, b, c⟩ := flat_get ps j hj
    exact ⟨key _ _ (by omega) a, key _ _ (by omega) b, key _ _ (by omega) c⟩
theorem IsPix.other {w w' : World} {v : Value} {ps : List Px} {k : Nat} (h : IsPix w v ps) (hs : w.heap.size ≤ w'.heap.size) (hk : ∀ b, b ≠ k → w'.heap[b]? = w.heap[b]?) (hne : v.ownBlock ≠ some k) : IsPix w' v ps := by
  obtain ⟨ao, cap, rfl, hl, h⟩ := h
  refine ⟨ao, cap, rfl, hl, ?_⟩
  rcases h with h | ⟨b, off, rfl, hlt, hc⟩
  · exact .inl h
  · have hb : b ≠ k := fun e => hne (by rw [e]; rfl)
    refine .inr ⟨b, off, rfl, Nat.lt_of_lt_of_le hlt hs, fun j hj => ?_⟩
    rw [World.cell?_of_block (a := ⟨b, off + j * 3, none⟩) (hk b hb), World.cell?_of_block (a := ⟨b, off + j * 3 + 1, none⟩) (hk b hb), World.cell?_of_block (a := ⟨b, off + j * 3 + 2, none⟩) (hk b hb)]
    exact hc j hj
theorem IsPix.set3 {w : World} {v : Value} {ps : List Px} {B k : Nat} (h : IsPix w v ps) (hf : Fresh B v) (hk : k < B) (x y z : Value) : IsPix (((w.setCell ⟨k, 0, none⟩ x).setCell ⟨k, 1, none⟩ y).setCell ⟨k, 2, none⟩ z) v ps :=
  h.other (set3_size _ _ _ _ _) (fun b hb => set3_heap _ _ _ _ _ b hb) (hf.ne hk)
end Go.Proofs.YtolcndchfnifhacDoor
