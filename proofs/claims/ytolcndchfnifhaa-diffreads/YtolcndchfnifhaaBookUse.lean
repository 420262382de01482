/- The book's Word; the taker of bits. -/
import Derived.Test.YtolcndchfnifhaaBookNew
import Derived.Test.YtolcndchfnifhaaWriteMath
namespace Go.Proofs.Ytolcndchfnifhaa
open Go.RowKit

set_option maxRecDepth 100000 in
set_option maxHeartbeats 400000 in
theorem word_any (cv : Value) (bm : Nat) (ts : List (List UInt8)) (n : Int) (w : World) (hv : IsTexts w cv ts) :
    Calls Try.prog 71 #[.agg #[cv, .map (some bm)], .int .i64 n] w fun e w' => e = .returned (.tuple #[.string (str (wordS ts n)), .int .i64 (wordE ts n)]) ∧ Below w.heap.size w w' := by
  obtain ⟨ao, ca, rfl, hla, hc⟩ := hv
  have hnil : str [] = ⟨#[]⟩ := rfl
  by_cases h0 : n < 0
  · have HS := hide (show wordS ts n = [] from if_neg (by omega))
    have HE := hide (show wordE ts n = 4 by rw [wordE, HS.out]; rfl)
    clear hc
    have hd : decide (n < 0) = true := by simpa using h0
    go_enter Try.func71, Try.ntmps71
    go_wp2
    go_ret2
    rw [HE.out, HS.out]
    exact ⟨rfl, bel_alloc _ _⟩
  · have hd : decide (n < 0) = false := by simpa using h0
    by_cases h1 : (ts.length : Int) ≤ n
    · have HS := hide (show wordS ts n = [] from if_neg (by omega))
      have HE := hide (show wordE ts n = 4 by rw [wordE, HS.out]; rfl)
      clear hc
      have hd2 : decide ((ts.length : Int) ≤ n) = true := by simpa using h1
      go_enter Try.func71, Try.ntmps71
      go_wp2
      go_ret2
      rw [HE.out, HS.out]
      exact ⟨rfl, bel_alloc _ _⟩
    · have hd2 : decide ((ts.length : Int) ≤ n) = false := by simpa using h1
      obtain ⟨k, rfl⟩ := Int.eq_ofNat_of_zero_le (show 0 ≤ n by omega)
      have hk : k < ts.length := by omega
      obtain ⟨b, off, rfl, hbl, hcell⟩ : ∃ b off, ao = some ⟨b, off, none⟩ ∧ b < w.heap.size ∧ ∀ j (h : j < ts.length), w.cell? ⟨b, off + j, none⟩ = some (.string (str ts[j])) := by
        rcases hc with h | h
        · subst h; simp at hk
        · exact h
      have HS := hide (show wordS ts k = ts[k] by rw [wordS, if_pos (by omega)]; simp [List.getD, hk])
      have c1 : ∀ o, (w.alloc o).cell? ⟨b, off + k, none⟩ = some (.string (str ts[k])) := fun o => by
        rw [World.cell?_of_block (w := w) (Below.heap_alloc w o b hbl)]; exact hcell k hk
      clear hcell hc
      by_cases he : ts[k] = []
      · have HE := hide (show wordE ts k = 4 by rw [wordE, HS.out, he]; rfl)
        have hem : (str ts[k]).toList.isEmpty = true := by rw [Lib.toList_data, str_data, he]; rfl
        have HEM := hide he
        clear he
        go_enter Try.func71, Try.ntmps71
        go_wp2
        go_ret2
        rw [HE.out, HS.out, HEM.out]
        exact ⟨rfl, bel_alloc _ _⟩
      · have HE := hide (show wordE ts k = 0 by rw [wordE, HS.out, if_neg he])
        have hem : (str ts[k]).toList.isEmpty = false := by rw [Lib.toList_data, str_data]; simpa using he
        clear he
        go_enter Try.func71, Try.ntmps71
        go_wp2
        go_ret2
        rw [HE.out, HS.out]
        exact ⟨rfl, bel_alloc _ _⟩

/-- the taker's two blocks: the place, and the bits. -/
def TakerAt (w : World) (ba bb : Nat) (bits : List UInt8) (pos : Nat) : Prop :=
  w.heap[ba]? = some (.cells #[.int .i64 pos] 3 (0, 0)) ∧ w.heap[bb]? = some (.cells #[.string (str bits)] 9 (0, 0)) ∧ pos ≤ bits.length ∧ bits.length ≤ 281474976710656
theorem TakerAt.ne {w : World} {ba bb : Nat} {bits : List UInt8} {pos : Nat} (h : TakerAt w ba bb bits pos) : ba ≠ bb := by
  intro e
  subst e
  have := h.1.symm.trans h.2.1
  simp at this
theorem TakerAt.below {w w' : World} {ba bb : Nat} {bits : List UInt8} {pos : Nat} (h : TakerAt w ba bb bits pos) (hb : Below w.heap.size w w') : TakerAt w' ba bb bits pos :=
  ⟨by rw [hb.block ba (Array.getElem?_eq_some_iff.1 h.1).1]; exact h.1, by rw [hb.block bb (Array.getElem?_eq_some_iff.1 h.2.1).1]; exact h.2.1, h.2.2⟩
theorem TakerAt.lt {w : World} {ba bb : Nat} {bits : List UInt8} {pos : Nat} (h : TakerAt w ba bb bits pos) : ba < w.heap.size ∧ bb < w.heap.size :=
  ⟨(Array.getElem?_eq_some_iff.1 h.1).1, (Array.getElem?_eq_some_iff.1 h.2.1).1⟩
theorem TakerAt.moved {w : World} {ba bb : Nat} {bits : List UInt8} {pos : Nat} (h : TakerAt w ba bb bits pos) (hp : pos < bits.length) : TakerAt (w.setCell ⟨ba, 0, none⟩ (.int .i64 ((pos : Int) + 1))) ba bb bits (pos + 1) := by
  refine ⟨?_, ?_, by omega, h.2.2.2⟩
  · have := heap_setCell_same w ba 0 _ _ (.int .i64 ((pos : Int) + 1)) h.1
    rw [this]; rfl
  · rw [Below.heap_setCell _ _ _ _ (fun e => h.ne e.symm)]; exact h.2.1

set_option maxRecDepth 100000 in
theorem take_end (ba bb : Nat) (bits : List UInt8) (w : World) (h : TakerAt w ba bb bits bits.length) :
    Calls Try.prog 113 #[.pointer (some ⟨ba, 0, none⟩), .pointer (some ⟨bb, 0, none⟩)] w fun e w' => e = .returned (.tuple #[.int .u8 0, .bool false]) ∧ w = w' := by
  have c0 : w.cell? ⟨ba, 0, none⟩ = some (.int .i64 bits.length) := by rw [Lib.cell_of_heap h.1]; rfl
  have c1 : w.cell? ⟨bb, 0, none⟩ = some (.string (str bits)) := by rw [Lib.cell_of_heap h.2.1]; rfl
  have hs : (str bits).size = bits.length := str_size bits
  clear h
  go_enter Try.func113, Try.ntmps113
  go_wp2
  go_ret2
  exact ⟨rfl, rfl⟩

set_option maxRecDepth 100000 in
theorem take_one (ba bb : Nat) (bits : List UInt8) (pos : Nat) (w : World) (h : TakerAt w ba bb bits pos) (hp : pos < bits.length) :
    Calls Try.prog 113 #[.pointer (some ⟨ba, 0, none⟩), .pointer (some ⟨bb, 0, none⟩)] w fun e w' => e = .returned (.tuple #[.int .u8 (bits[pos].toNat : Nat), .bool true]) ∧ w.setCell ⟨ba, 0, none⟩ (.int .i64 ((pos : Int) + 1)) = w' := by
  have c0 : w.cell? ⟨ba, 0, none⟩ = some (.int .i64 pos) := by rw [Lib.cell_of_heap h.1]; rfl
  have f0 : w.frozen? ⟨ba, 0, none⟩ = false := Lib.frozen_of_heap h.1 0
  have c1 : w.cell? ⟨bb, 0, none⟩ = some (.string (str bits)) := by rw [Lib.cell_of_heap h.2.1]; rfl
  have hne := h.ne
  have hs : (str bits).size = bits.length := str_size bits
  have hle := h.2.2.2
  have hps : pos < (str bits).size := by rw [hs]; exact hp
  have HG := hide (show (str bits)[pos].toNat = bits[pos].toNat from rfl)
  have hq : ((pos : Int) == (bits.length : Int)) = false := by simp; omega
  clear h
  go_enter Try.func113, Try.ntmps113
  go_wp2
  go_ret2
  exact ⟨rfl, rfl⟩

set_option maxRecDepth 100000 in
theorem left_any (ba bb : Nat) (bits : List UInt8) (pos : Nat) (w : World) (h : TakerAt w ba bb bits pos) :
    Calls Try.prog 114 #[.pointer (some ⟨bb, 0, none⟩), .pointer (some ⟨ba, 0, none⟩)] w fun e w' => e = .returned (.string (str (bits.drop pos))) ∧ w = w' := by
  have c0 : w.cell? ⟨ba, 0, none⟩ = some (.int .i64 pos) := by rw [Lib.cell_of_heap h.1]; rfl
  have c1 : w.cell? ⟨bb, 0, none⟩ = some (.string (str bits)) := by rw [Lib.cell_of_heap h.2.1]; rfl
  have hs : (str bits).size = bits.length := str_size bits
  have hle := h.2.2.1
  have HX2 := hide (show (str bits).extract pos bits.length = str (bits.drop pos) by rw [Lib.extract_eq, str_data, List.take_of_length_le (by rw [List.length_drop]; exact Nat.le_refl _)]; rfl)
  clear h
  go_enter Try.func114, Try.ntmps114
  go_wp2
  go_ret
  exact ⟨congrArg (fun x => Ending.returned (.string x)) HX2.out, rfl⟩

set_option maxRecDepth 100000 in
theorem taker_any (bits : List UInt8) (hl : bits.length ≤ 281474976710656) (w : World) :
    Calls Try.prog 73 #[.string (str bits)] w fun e w' => ∃ ba bb, e = .returned (.tuple #[.func (.func 113) #[] #[.pointer (some ⟨ba, 0, none⟩), .pointer (some ⟨bb, 0, none⟩)], .func (.func 114) #[] #[.pointer (some ⟨bb, 0, none⟩), .pointer (some ⟨ba, 0, none⟩)]]) ∧
      TakerAt w' ba bb bits 0 ∧ w.heap.size ≤ ba ∧ w.heap.size ≤ bb ∧ Below w.heap.size w w' := by
  go_enter Try.func73, Try.ntmps73
  go_wp2
  go_ret2
  refine ⟨w.heap.size + 1, w.heap.size, rfl, ⟨?_, ?_, by omega, hl⟩, by omega, by omega, ?_⟩
  · have h := heap_alloc_new (w.alloc (.cells #[.string (str bits)] 9)) (.cells #[.int .i64 0] 3)
    rw [World.size_alloc] at h
    exact h
  · rw [Below.heap_alloc _ _ _ (by simp)]
    exact heap_alloc_new w _
  · exact bel_trans (bel_alloc w _) (bel_alloc _ _)

end Go.Proofs.Ytolcndchfnifhaa
