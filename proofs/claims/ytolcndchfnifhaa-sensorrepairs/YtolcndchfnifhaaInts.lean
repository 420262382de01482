/- Lists of numbers in memory; the reference's SameInts. -/
import Derived.Test.YtolcndchfnifhaaMath
import Derived.Test.YtolcndchfnifhaaProg
import Derived.WalkSpells
import Derived.WalkLawsBesides
import Derived.Deep.QuietTactic
import Derived.BigQuiet
namespace Go.Proofs.Ytolcndchfnifhaa
open Go.RowKit

theorem Try.infoInt : (Try.prog.info? 3).map (fun i => (i.zero, i.size, i.bytes)) = some (some (.int .i64 0), 1, 8) := by kernel_rfl

theorem bel_trans {a b c : World} (h : Below a.heap.size a b) (k : Below b.heap.size b c) : Below a.heap.size a c := h.trans (k.mono h.size)
theorem bel_alloc (w : World) (o : Obj) : Below w.heap.size w (w.alloc o) := (Below.refl _ _).alloc (Nat.le_refl _) o
theorem bel_drew (w : World) : Below w.heap.size w w.drew := (Below.refl _ _).drew

/-- The slice v holds these numbers in the world w. -/
def IsInts (w : World) (v : Value) (xs : List Int) : Prop :=
  ∃ ao cap, v = .slice ao xs.length cap ∧ xs.length ≤ 9223372036854775807 ∧ (xs = [] ∨ ∃ b off, ao = some ⟨b, off, none⟩ ∧ b < w.heap.size ∧ ∀ j (h : j < xs.length), w.cell? ⟨b, off + j, none⟩ = some (.int .i64 xs[j]))

theorem IsInts.len {w : World} {v : Value} {xs : List Int} (h : IsInts w v xs) : xs.length ≤ 9223372036854775807 := by
  obtain ⟨_, _, _, h, _⟩ := h; exact h
theorem IsInts.below {w w' : World} {v : Value} {xs : List Int} {B : Nat} (h : IsInts w v xs) (hb : Below B w w') (hB : w.heap.size ≤ B) : IsInts w' v xs := by
  obtain ⟨ao, cap, hv, hl, h⟩ := h
  refine ⟨ao, cap, hv, hl, ?_⟩
  rcases h with h | ⟨b, off, ha, hlt, hc⟩
  · exact .inl h
  · exact .inr ⟨b, off, ha, Nat.lt_of_lt_of_le hlt hb.size, fun j hj => by rw [hb.cell (p := ⟨b, off + j, none⟩) (by exact Nat.lt_of_lt_of_le hlt hB)]; exact hc j hj⟩
theorem IsInts.alloc {w : World} {v : Value} {xs : List Int} (h : IsInts w v xs) (o : Obj) : IsInts (w.alloc o) v xs :=
  h.below ((Below.refl _ _).alloc (Nat.le_refl _) o) (Nat.le_refl _)
theorem IsInts.drew {w : World} {v : Value} {xs : List Int} (h : IsInts w v xs) : IsInts w.drew v xs := h
theorem IsInts.nil (w : World) : IsInts w (.slice none 0 0) [] := ⟨none, 0, rfl, by simp, .inl rfl⟩
theorem IsInts.own {w : World} {base : Nat} {v : Value} {xs : List Int} (h : w.ownsRow base 3 1 v xs.length (xs.map (Value.int .i64))) (hl : xs.length ≤ 9223372036854775807) : IsInts w v xs := by
  rcases h.2 with ⟨hv, hn⟩ | ⟨g, cap, cur, hv, _, hg, _⟩
  · exact ⟨none, 0, by rw [hv, hn], hl, .inl (List.eq_nil_of_length_eq_zero hn)⟩
  · refine ⟨_, cap, hv, hl, .inr ⟨g, 0, rfl, (Array.getElem?_eq_some_iff.1 hg).1, fun j hj => ?_⟩⟩
    subst hv
    rw [Nat.zero_add, h.cellAt j (by omega)]
    simp [hj]

/-- the slice lies in memory that was not there. -/
def Fresh (B : Nat) (v : Value) : Prop := ∀ b, v.ownBlock = some b → B ≤ b
theorem Fresh.mono {B B' : Nat} {v : Value} (h : Fresh B v) (hb : B' ≤ B) : Fresh B' v := fun b e => Nat.le_trans hb (h b e)
theorem Fresh.nil (B : Nat) : Fresh B (.slice none 0 0) := fun b e => by cases e
theorem Fresh.own {w : World} {base : Nat} {e : TypeId} {sz : Nat} {v : Value} {n : Nat} {xs : List Value} (h : w.ownsRow base e sz v n xs) : Fresh base v := fun b hb => (h.lt b hb).1
theorem IsInts.other {w w' : World} {v : Value} {xs : List Int} {k : Nat} (h : IsInts w v xs) (hs : w.heap.size ≤ w'.heap.size) (hk : ∀ b, b ≠ k → w'.heap[b]? = w.heap[b]?) (hne : v.ownBlock ≠ some k) : IsInts w' v xs := by
  obtain ⟨ao, cap, rfl, hl, h⟩ := h
  refine ⟨ao, cap, rfl, hl, ?_⟩
  rcases h with h | ⟨b, off, rfl, hlt, hc⟩
  · exact .inl h
  · have hb : b ≠ k := fun e => hne (by rw [e]; rfl)
    exact .inr ⟨b, off, rfl, Nat.lt_of_lt_of_le hlt hs, fun j hj => (World.cell?_of_block (a := ⟨b, off + j, none⟩) (hk b hb)).trans (hc j hj)⟩

theorem ownsRow_below {w w' : World} {base : Nat} {e : TypeId} {size : Nat} {v : Value} {n : Nat} {xs : List Value} (h : w.ownsRow base e size v n xs) (hb : Below w.heap.size w w') : w'.ownsRow base e size v n xs := by
  refine ⟨h.1, ?_⟩
  rcases h.2 with h | ⟨g, cap, cur, hv, hg, hh, r⟩
  · exact .inl h
  · exact .inr ⟨g, cap, cur, hv, hg, by rw [hb.block g (Array.getElem?_eq_some_iff.1 hh).1]; exact hh, r⟩

set_option maxHeartbeats 400000 in
theorem sameInts_any (va vb : Value) (xs ys : List Int) (w : World) (ha : IsInts w va xs) (hb : IsInts w vb ys) :
    Calls Try.prog 31 #[va, vb] w fun e w' => e = .returned (.bool (decide (xs = ys))) ∧ Below w.heap.size w w' := by
  obtain ⟨ao, ca, rfl, hla, ha⟩ := ha
  obtain ⟨bo, cb, rfl, hlb, hb⟩ := hb
  by_cases hl : xs.length = ys.length
  · have hl2 : ((xs.length : Int) != (ys.length : Int)) = false := by simp [hl]
    by_cases h0 : xs.length = 0
    · have e : xs = ys := (List.eq_nil_of_length_eq_zero h0).trans (List.eq_nil_of_length_eq_zero (hl.symm.trans h0)).symm
      have HE := hide e; clear e
      have HL := hide hl; clear hl
      clear ha hb
      go_enter Try.func31, Try.ntmps31
      go_wp2
      go_loop [5] (fun i => i = .int .i64 0) (fun _ => 0)
      case atStart => rfl
      case round =>
        subst hrel
        go_wp2
        go_ret
        exact ⟨ret_bool (by simp [HE.out]), Below.refl _ _⟩
    · have ha : ∃ b off, ao = some ⟨b, off, none⟩ ∧ b < w.heap.size ∧ ∀ j (h : j < xs.length), w.cell? ⟨b, off + j, none⟩ = some (.int .i64 xs[j]) := by
        rcases ha with rfl | ha
        · exact absurd rfl h0
        · exact ha
      have hb : ∃ b off, bo = some ⟨b, off, none⟩ ∧ b < w.heap.size ∧ ∀ j (h : j < ys.length), w.cell? ⟨b, off + j, none⟩ = some (.int .i64 ys[j]) := by
        rcases hb with rfl | hb
        · exact absurd hl h0
        · exact hb
      obtain ⟨ba, oa, rfl, hba, hca⟩ := ha
      obtain ⟨bb, ob, rfl, hbb, hcb⟩ := hb
      have HCA := hide hca; clear hca
      have HCB := hide hcb; clear hcb
      have HL := hide hl
      clear hl
      go_enter Try.func31, Try.ntmps31
      go_wp2
      go_loopw [5] (fun i wr => ∃ k : Nat, k ≤ xs.length ∧ i = .int .i64 k ∧ Hid (xs.take k = ys.take k) ∧ Below w.heap.size w wr) (fun i _ => xs.length - (intOf i).toNat)
      case atStart => exact ⟨0, Nat.zero_le _, rfl, rfl, Below.refl _ _⟩
      case round =>
        obtain ⟨k, hk, rfl, HT, hbel⟩ := hrel
        by_cases hlt : k < xs.length
        · have hlt2 : k < ys.length := by have := HL.out; omega
          have c1 := (hbel.cell (p := ⟨ba, oa + k, none⟩) hba).trans (HCA.out k hlt)
          have c2 := (hbel.cell (p := ⟨bb, ob + k, none⟩) hbb).trans (HCB.out k hlt2)
          by_cases he : xs[k] = ys[k]
          · have he2 : (xs[k] != ys[k]) = false := by simp [he]
            have HT2 : Hid (xs.take (k + 1) = ys.take (k + 1)) := by
              show _ = _
              rw [List.take_succ_eq_append_getElem hlt, List.take_succ_eq_append_getElem hlt2, HT.out, he]
            clear he
            go_wp2
            go_region
            go_wp2
            go_roundw
            case rel => exact ⟨k + 1, by omega, by go_num, HT2, hbel.drew⟩
            case measure => simp [intOf]; omega
          · have he2 : (xs[k] != ys[k]) = true := by simp [he]
            have HNE := hide (show ¬ xs = ys from fun h => he (by subst h; rfl))
            clear he
            go_wp2
            go_region
            go_wp2
            go_ret
            exact ⟨ret_bool (by simp [HNE.out]), hbel.drew⟩
        · have HE := hide (show xs = ys by
            have h := HT.out
            rwa [List.take_of_length_le (by omega), List.take_of_length_le (by have := HL.out; omega)] at h)
          go_wp2
          go_ret
          exact ⟨ret_bool (by simp [HE.out]), hbel⟩
  · have hl2 : ((xs.length : Int) != (ys.length : Int)) = true := by simp; omega
    have HNE := hide (show ¬ xs = ys from fun h => hl (by rw [h]))
    clear hl
    go_enter Try.func31, Try.ntmps31
    go_wp2
    go_ret
    exact ⟨ret_bool (by simp [HNE.out]), Below.refl _ _⟩

end Go.Proofs.Ytolcndchfnifhaa
