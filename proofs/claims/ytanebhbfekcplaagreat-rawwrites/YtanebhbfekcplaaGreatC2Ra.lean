/- Ra: part 2 of what the proofs need. -/
import Derived.Test.YtanebhbfekcplaaGreatC1Ra
import Derived.WalkSmall
import Derived.Deep.RegionHeld3
import Derived.OrdersHeld
import Derived.RangeFuncNested
import Derived.RangeFuncBound
import Derived.RangeFuncCalls
import Derived.RangeFuncLeaves
import Derived.Shelf.Abstract
import Derived.Shelf.RegionOpen
import Derived.WalkKit
import Derived.OwnWalkIn
import Derived.TacticsInMore
import Derived.LoopNIn
import Derived.LoopIn
import Derived.RangeFuncBox
import Derived.Maps.AppendAt
import Derived.Deep.AppendLies
import Derived.OrdersIn
import Derived.Test.YtanebhbfekcplaaGreatProg
import Derived.Deep.Cut
import Derived.Laws.CopyOwn
import Derived.Lib.SliceRun
import Derived.Lib.Walk
import Derived.Defers
import Derived.Recover
import Derived.Laws.Pointers
namespace Go.Proofs.YtanebhbfekcplaaGreat
open Go.RowKit
set_option maxRecDepth 100000 in
set_option maxHeartbeats 400000 in
theorem word_any (cv : Value) (bm : Nat) (ts : List (List UInt8)) (n : Int) (w : World) (hv : IsTexts w cv ts) :
    Calls Tryz.prog 122 #[.agg #[cv, .map (some bm)], .int .i64 n] w fun e w' => e = .returned (.tuple #[.string (str (wordS ts n)), .int .i64 (wordE ts n)]) ∧ Below w.heap.size w w' := by
  obtain ⟨ao, ca, rfl, hla, hc⟩ := hv
  have hnil : str [] = ⟨#[]⟩ := rfl
  by_cases h0 : n < 0
  · have HS := hide (show wordS ts n = [] from if_neg (by omega))
    have HE := hide (show wordE ts n = 4 by rw [wordE, HS.out]; rfl)
    clear hc
    have hd : decide (n < 0) = true := by simpa using h0
    go_enter Tryz.func122, Tryz.ntmps122
    go_wp2
    go_ret2
    rw [HE.out, HS.out]
    exact ⟨rfl, bel_alloc _ _⟩
  · have hd : decide (n < 0) = false := by simpa using h0
    by_cases h1 : (ts.length : Int) ≤ n
    · have HS := hide (show wordS ts n = [] from if_neg (by omega))
      have HE := hide (show wordE ts n = 4 by rw [wordE, HS.out]; rfl)
      clear hc
      have hd2 : decide ((ts.length : Int) ≤ n) = true := by simpa using h1
      go_enter Tryz.func122, Tryz.ntmps122
      go_wp2
      go_ret2
      rw [HE.out, HS.out]
      exact ⟨rfl, bel_alloc _ _⟩
    · have hd2 : decide ((ts.length : Int) ≤ n) = false := by simpa using h1
      obtain ⟨k, rfl⟩ := Int.eq_ofNat_of_zero_le (show 0 ≤ n by omega)
      have hk : k < ts.length := by omega
      obtain ⟨b, off, rfl, hbl, hcell⟩ : ∃ b off, ao = some ⟨b, off, none⟩ ∧ b < w.heap.size ∧ ∀ j (h : j < ts.length), w.cell? ⟨b, off + j, none⟩ = some (.string (str ts[j])) := by
        rcases hc with h | h
        · subst h; simp at hk
        · exact h
      have HS := hide (show wordS ts k = ts[k] by rw [wordS, if_pos (by omega)]; simp [List.getD, hk])
      have c1 : ∀ o, (w.alloc o).cell? ⟨b, off + k, none⟩ = some (.string (str ts[k])) := fun o => by
        rw [World.cell?_of_block (w := w) (Below.heap_alloc w o b hbl)]; exact hcell k hk
      clear hcell hc
      by_cases he : ts[k] = []
      · have HE := hide (show wordE ts k = 4 by rw [wordE, HS.out, he]; rfl)
        have hem : (str ts[k]).toList.isEmpty = true := by rw [Lib.toList_data, str_data, he]; rfl
        have HEM := hide he
        clear he
        go_enter Tryz.func122, Tryz.ntmps122
        go_wp2
        go_ret2
        rw [HE.out, HS.out, HEM.out]
        exact ⟨rfl, bel_alloc _ _⟩
      · have HE := hide (show wordE ts k = 0 by rw [wordE, HS.out, if_neg he])
        have hem : (str ts[k]).toList.isEmpty = false := by rw [Lib.toList_data, str_data]; simpa using he
        clear he
        go_enter Tryz.func122, Tryz.ntmps122
        go_wp2
        go_ret2
        rw [HE.out, HS.out]
        exact ⟨rfl, bel_alloc _ _⟩
def TakerAt (w : World) (ba bb : Nat) (bits : List UInt8) (pos : Nat) : Prop :=
  w.heap[ba]? = some (.cells #[.int .i64 pos] 3 (0, 0)) ∧ w.heap[bb]? = some (.cells #[.string (str bits)] 9 (0, 0)) ∧ pos ≤ bits.length ∧ bits.length ≤ 281474976710656
theorem TakerAt.ne {w : World} {ba bb : Nat} {bits : List UInt8} {pos : Nat} (h : TakerAt w ba bb bits pos) : ba ≠ bb := by
  intro e
  subst e
  have := h.1.symm.trans h.2.1
  simp at this
theorem TakerAt.below {w w' : World} {ba bb : Nat} {bits : List UInt8} {pos : Nat} (h : TakerAt w ba bb bits pos) (hb : Below w.heap.size w w') : TakerAt w' ba bb bits pos :=
  ⟨by rw [hb.block ba (Array.getElem?_eq_some_iff.1 h.1).1]; exact h.1, by rw [hb.block bb (Array.getElem?_eq_some_iff.1 h.2.1).1]; exact h.2.1, h.2.2⟩
theorem TakerAt.lt {w : World} {ba bb : Nat} {bits : List UInt8} {pos : Nat} (h : TakerAt w ba bb bits pos) : ba < w.heap.size ∧ bb < w.heap.size :=
  ⟨(Array.getElem?_eq_some_iff.1 h.1).1, (Array.getElem?_eq_some_iff.1 h.2.1).1⟩
theorem TakerAt.moved {w : World} {ba bb : Nat} {bits : List UInt8} {pos : Nat} (h : TakerAt w ba bb bits pos) (hp : pos < bits.length) : TakerAt (w.setCell ⟨ba, 0, none⟩ (.int .i64 ((pos : Int) + 1))) ba bb bits (pos + 1) := by
  refine ⟨?_, ?_, by omega, h.2.2.2⟩
  · have := heap_setCell_same w ba 0 _ _ (.int .i64 ((pos : Int) + 1)) h.1
    rw [this]; rfl
  · rw [Below.heap_setCell _ _ _ _ (fun e => h.ne e.symm)]; exact h.2.1
set_option maxRecDepth 100000 in
theorem take_end (ba bb : Nat) (bits : List UInt8) (w : World) (h : TakerAt w ba bb bits bits.length) :
    Calls Tryz.prog 136 #[.pointer (some ⟨ba, 0, none⟩), .pointer (some ⟨bb, 0, none⟩)] w fun e w' => e = .returned (.tuple #[.int .u8 0, .bool false]) ∧ w = w' := by
  have c0 : w.cell? ⟨ba, 0, none⟩ = some (.int .i64 bits.length) := by rw [Lib.cell_of_heap h.1]; rfl
  have c1 : w.cell? ⟨bb, 0, none⟩ = some (.string (str bits)) := by rw [Lib.cell_of_heap h.2.1]; rfl
  have hs : (str bits).size = bits.length := str_size bits
  clear h
  go_enter Tryz.func136, Tryz.ntmps136
  go_wp2
  go_ret2
  exact ⟨rfl, rfl⟩
set_option maxRecDepth 100000 in
theorem take_one (ba bb : Nat) (bits : List UInt8) (pos : Nat) (w : World) (h : TakerAt w ba bb bits pos) (hp : pos < bits.length) :
    Calls Tryz.prog 136 #[.pointer (some ⟨ba, 0, none⟩), .pointer (some ⟨bb, 0, none⟩)] w fun e w' => e = .returned (.tuple #[.int .u8 (bits[pos].toNat : Nat), .bool true]) ∧ w.setCell ⟨ba, 0, none⟩ (.int .i64 ((pos : Int) + 1)) = w' := by
  have c0 : w.cell? ⟨ba, 0, none⟩ = some (.int .i64 pos) := by rw [Lib.cell_of_heap h.1]; rfl
  have f0 : w.frozen? ⟨ba, 0, none⟩ = false := Lib.frozen_of_heap h.1 0
  have c1 : w.cell? ⟨bb, 0, none⟩ = some (.string (str bits)) := by rw [Lib.cell_of_heap h.2.1]; rfl
  have hne := h.ne
  have hs : (str bits).size = bits.length := str_size bits
  have hle := h.2.2.2
  have hps : pos < (str bits).size := by rw [hs]; exact hp
  have HG := hide (show (str bits)[pos].toNat = bits[pos].toNat from rfl)
  have hq : ((pos : Int) == (bits.length : Int)) = false := by simp; omega
  clear h
  go_enter Tryz.func136, Tryz.ntmps136
  go_wp2
  go_ret2
  exact ⟨rfl, rfl⟩
set_option maxRecDepth 100000 in
theorem left_any (ba bb : Nat) (bits : List UInt8) (pos : Nat) (w : World) (h : TakerAt w ba bb bits pos) :
    Calls Tryz.prog 137 #[.pointer (some ⟨bb, 0, none⟩), .pointer (some ⟨ba, 0, none⟩)] w fun e w' => e = .returned (.string (str (bits.drop pos))) ∧ w = w' := by
  have c0 : w.cell? ⟨ba, 0, none⟩ = some (.int .i64 pos) := by rw [Lib.cell_of_heap h.1]; rfl
  have c1 : w.cell? ⟨bb, 0, none⟩ = some (.string (str bits)) := by rw [Lib.cell_of_heap h.2.1]; rfl
  have hs : (str bits).size = bits.length := str_size bits
  have hle := h.2.2.1
  have HX2 := hide (show (str bits).extract pos bits.length = str (bits.drop pos) by rw [Lib.extract_eq, str_data, List.take_of_length_le (by rw [List.length_drop]; exact Nat.le_refl _)]; rfl)
  clear h
  go_enter Tryz.func137, Tryz.ntmps137
  go_wp2
  go_ret
  exact ⟨congrArg (fun x => Ending.returned (.string x)) HX2.out, rfl⟩
set_option maxRecDepth 100000 in
theorem taker_any (bits : List UInt8) (hl : bits.length ≤ 281474976710656) (w : World) :
    Calls Tryz.prog 105 #[.string (str bits)] w fun e w' => ∃ ba bb, e = .returned (.tuple #[.func (.func 136) #[] #[.pointer (some ⟨ba, 0, none⟩), .pointer (some ⟨bb, 0, none⟩)], .func (.func 137) #[] #[.pointer (some ⟨bb, 0, none⟩), .pointer (some ⟨ba, 0, none⟩)]]) ∧
      TakerAt w' ba bb bits 0 ∧ w.heap.size ≤ ba ∧ w.heap.size ≤ bb ∧ Below w.heap.size w w' := by
  go_enter Tryz.func105, Tryz.ntmps105
  go_wp2
  go_ret2
  refine ⟨w.heap.size + 1, w.heap.size, rfl, ⟨?_, ?_, by omega, hl⟩, by omega, by omega, ?_⟩
  · have h := heap_alloc_new (w.alloc (.cells #[.string (str bits)] 9)) (.cells #[.int .i64 0] 3)
    rw [World.size_alloc] at h
    exact h
  · rw [Below.heap_alloc _ _ _ (by simp)]
    exact heap_alloc_new w _
  · exact bel_trans (bel_alloc w _) (bel_alloc _ _)
end Go.Proofs.YtanebhbfekcplaaGreat

namespace Go.Proofs.YtanebhbfekcplaaGreat
open Go.RowKit
theorem nextF_le (f : List UInt8 → Option (Int × Bool)) (pre rest : List UInt8) : (nextF f pre rest).2.2 ≤ rest.length := by
  induction rest generalizing pre with
  | nil => exact Nat.le_refl _
  | cons c rest ih =>
    rw [nextF]
    split
    · simp
    · simp
    · have := ih (pre ++ [c]); simp; omega
def AfterJ (f : List UInt8 → Option (Int × Bool)) (rest : List UInt8) (j : Nat) : Prop :=
  nextF f [] rest = ((nextF f (rest.take j) (rest.drop j)).1, (nextF f (rest.take j) (rest.drop j)).2.1, j + (nextF f (rest.take j) (rest.drop j)).2.2)
theorem AfterJ.start (f : List UInt8 → Option (Int × Bool)) (rest : List UInt8) : AfterJ f rest 0 := by simp [AfterJ]
theorem drop_cons (rest : List UInt8) (j : Nat) (h : j < rest.length) : rest.drop j = rest[j] :: rest.drop (j + 1) := List.drop_eq_getElem_cons h
theorem AfterJ.short {f : List UInt8 → Option (Int × Bool)} {rest : List UInt8} {j : Nat} (h : AfterJ f rest j) (hj : j = rest.length) : nextF f [] rest = (0, 5, j) := by
  unfold AfterJ at h
  rw [h, List.drop_of_length_le (by omega)]
  rfl
theorem AfterJ.none {f : List UInt8 → Option (Int × Bool)} {rest : List UInt8} {j : Nat} (h : AfterJ f rest j) (hj : j < rest.length) (hf : f (rest.take (j + 1)) = .none) : nextF f [] rest = (0, 4, j + 1) := by
  unfold AfterJ at h
  rw [List.take_succ_eq_append_getElem hj] at hf
  rw [h, drop_cons rest j hj, nextF, hf]
theorem AfterJ.found {f : List UInt8 → Option (Int × Bool)} {rest : List UInt8} {j : Nat} (h : AfterJ f rest j) (hj : j < rest.length) {n : Int} (hf : f (rest.take (j + 1)) = some (n, true)) : nextF f [] rest = (n, 0, j + 1) := by
  unfold AfterJ at h
  rw [List.take_succ_eq_append_getElem hj] at hf
  rw [h, drop_cons rest j hj, nextF, hf]
theorem AfterJ.more {f : List UInt8 → Option (Int × Bool)} {rest : List UInt8} {j : Nat} (h : AfterJ f rest j) (hj : j < rest.length) {n : Int} (hf : f (rest.take (j + 1)) = some (n, false)) : AfterJ f rest (j + 1) := by
  unfold AfterJ at h ⊢
  have e := List.take_succ_eq_append_getElem hj
  rw [e] at hf
  rw [h, drop_cons rest j hj, nextF, hf]
  simp only [e]
  congr 2
  omega
structure NextInv (w wr : World) (bm n : Nat) (f : List UInt8 → Option (Int × Bool)) (ba bb : Nat) (bits : List UInt8) (p : Nat) : Prop where
  cell : wr.cell? ⟨w.heap.size, 1, none⟩ = some (.map (some bm))
  book : BookMap wr bm n f
  taker : TakerAt wr ba bb bits p
  grown : w.grownBy wr (some ba)
  size : w.heap.size + 1 ≤ wr.heap.size
theorem NextInv.other {w wr w3 : World} {bm n : Nat} {f : List UInt8 → Option (Int × Bool)} {ba bb : Nat} {bits : List UInt8} {p : Nat} (h : NextInv w wr bm n f ba bb bits p) (hba : ba < w.heap.size) (hbb : bb < w.heap.size) (hbm : bm < w.heap.size)
    {row : Option Nat} (hg : wr.grownBy w3 row) (hr : ∀ k, row = some k → w.heap.size + 1 ≤ k) : NextInv w w3 bm n f ba bb bits p := by
  have hs := h.grown.size
  have hz := h.size
  have blk : ∀ k, k < w.heap.size + 1 → w3.heap[k]? = wr.heap[k]? := fun k hk => hg.block k (by omega) (fun e => by have := hr k e.symm; omega)
  refine ⟨?_, ?_, ?_, ?_, Nat.le_trans hz hg.size⟩
  · rw [World.cell?_of_block (w := wr) (blk w.heap.size (by omega))]; exact h.cell
  · exact h.book.kept hg (fun e => by have := hr bm e.symm; omega)
  · exact ⟨by rw [blk ba (by omega)]; exact h.taker.1, by rw [blk bb (by omega)]; exact h.taker.2.1, h.taker.2.2⟩
  · refine ⟨hg.os.trans h.grown.os, hg.tape.trans h.grown.tape, hg.output.trans h.grown.output, Nat.le_trans hs hg.size, fun k hk hne => ?_⟩
    rw [blk k (by omega)]
    exact h.grown.block k hk hne
theorem NextInv.alloc {w wr : World} {bm n : Nat} {f : List UInt8 → Option (Int × Bool)} {ba bb : Nat} {bits : List UInt8} {p : Nat} (h : NextInv w wr bm n f ba bb bits p) (hba : ba < w.heap.size) (hbb : bb < w.heap.size) (hbm : bm < w.heap.size) (o : Obj) : NextInv w (wr.alloc o) bm n f ba bb bits p :=
  h.other hba hbb hbm (World.grownBy_alloc wr o none) (by simp)
theorem NextInv.taken {w wr : World} {bm n : Nat} {f : List UInt8 → Option (Int × Bool)} {ba bb : Nat} {bits : List UInt8} {p : Nat} (h : NextInv w wr bm n f ba bb bits p) (hba : ba < w.heap.size) (hma : bm ≠ ba) (hp : p < bits.length) :
    NextInv w (wr.setCell ⟨ba, 0, none⟩ (.int .i64 ((p : Int) + 1))) bm n f ba bb bits (p + 1) := by
  refine ⟨?_, h.book.setCell hma _, h.taker.moved hp, ?_, by simpa [World.setCell] using h.size⟩
  · rw [World.cell?_of_block (w := wr) (Below.heap_setCell _ _ _ _ (by show w.heap.size ≠ ba; omega))]; exact h.cell
  · refine ⟨h.grown.os, h.grown.tape, h.grown.output, by simpa [World.setCell] using h.grown.size, fun k hk hne => ?_⟩
    rw [Below.heap_setCell _ _ _ _ (fun e => hne (by rw [e]))]
    exact h.grown.block k hk hne
theorem lookNone {w : World} {bm n : Nat} {f : List UInt8 → Option (Int × Bool)} {l : List UInt8} (h : BookMap w bm n f) (hs : (str l).size ≤ maxLen) (hf : f l = none) :
    (Instr.lookup 129 (.map (some bm)) (.string (str l)) true).run Tryz.prog w = .ok (.tuple #[.agg #[.int .i64 0, .bool false], .bool false]) w := by
  rw [h.look (str l) hs, str_data, hf]; rfl
theorem lookSome {w : World} {bm n : Nat} {f : List UInt8 → Option (Int × Bool)} {l : List UInt8} {m : Int} {b : Bool} (h : BookMap w bm n f) (hs : (str l).size ≤ maxLen) (hf : f l = some (m, b)) :
    (Instr.lookup 129 (.map (some bm)) (.string (str l)) true).run Tryz.prog w = .ok (.tuple #[.agg #[.int .i64 m, .bool b], .bool true]) w := by
  rw [h.look (str l) hs, str_data, hf]; rfl
theorem own_next {w : World} {base : Nat} {e : TypeId} {v : Value} {k : Nat} {xs : List Value} {l : List UInt8} (h1 : byt l = xs) (h2 : l.length = k) (h : w.ownsRow base e 1 v k xs) : w.ownsRow base e 1 v l.length (byt l) := by
  rw [h1, h2]; exact h
def lenOf : Value → Nat | .slice _ n _ => n | _ => 0
set_option maxRecDepth 100000 in
set_option maxHeartbeats 1600000 in
theorem next_any (cv : Value) (ca : Option Addr) (cl cc : Nat) (hcv : cv = .slice ca cl cc) (bm n : Nat) (f : List UInt8 → Option (Int × Bool)) (ba bb : Nat) (bits : List UInt8) (pos : Nat) (w : World) (hm : BookMap w bm n f) (hfl : ∀ key, f key ≠ none → key.length ≤ 100) (ht : TakerAt w ba bb bits pos) :
    Calls Tryz.prog 138 #[.agg #[cv, .map (some bm)], .func (.func 136) #[] #[.pointer (some ⟨ba, 0, none⟩), .pointer (some ⟨bb, 0, none⟩)]] w fun e w' =>
      e = .returned (.tuple #[.int .i64 (nextF f [] (bits.drop pos)).1, .int .i64 (nextF f [] (bits.drop pos)).2.1]) ∧ TakerAt w' ba bb bits (pos + (nextF f [] (bits.drop pos)).2.2) ∧ w.grownBy w' (some ba) := by
  subst hcv
  obtain ⟨i0, hi, hz0, hz1, hz2⟩ := info_parts Tryz.infoU8
  obtain ⟨hla, hlb⟩ := ht.lt
  have hmlt := hm.lt
  have hple := ht.2.2.1
  have hbl := ht.2.2.2
  have hma : bm ≠ ba := by
    intro e
    subst e
    obtain ⟨D, ⟨es, clock, hh, _⟩, _⟩ := hm
    have := hh.symm.trans ht.1
    simp at this
  have hrl : (bits.drop pos).length = bits.length - pos := by rw [List.length_drop]
  have HM := hide hm; clear hm
  have HT := hide ht; clear ht
  have HFL := hide hfl; clear hfl
  obtain ⟨rest, hrest⟩ : ∃ rest, rest = bits.drop pos := ⟨_, rfl⟩
  have HREST := hide hrest
  rw [← hrest] at hrl ⊢
  clear hrest
  go_enter Tryz.func138, Tryz.ntmps138
  go_wp2_with (at_make; refine wpList_make_own _ rfl _ _ 71 rfl (w.heap.size + 1) 5 i0 (.int .u8 0) 1 Tryz.underlying71 hi hz0 hz1 .i64 .i64 _ 15 rfl rfl rfl (by rw [hz2]; decide) (by decide) (by simp) ?_; intro w1 hown hgr)
  have hinv : NextInv w w1 bm n f ba bb bits (pos + 0) := by
    have h0 : NextInv w (w.alloc (.cells #[.slice ca cl cc, .map (some bm)] 131)) bm n f ba bb bits pos := by
      refine ⟨?_, HM.out.kept (World.grownBy_alloc w _ none) (by simp), ?_, ?_, by simp⟩
      · rw [Lib.cell_of_heap (heap_alloc_new w _)]; rfl
      · exact HT.out.below (bel_alloc w _)
      · exact World.grownBy_alloc w _ _
    exact h0.other hla hlb hmlt hgr (by simp)
  have HI := hide hinv; clear hinv hgr
  go_loopw [6] (fun t wr => ∃ j : Nat, j ≤ rest.length ∧ j ≤ 100 ∧ (∃ ao cap, t = .slice ao j cap) ∧ wr.ownsRow (w.heap.size + 1) 5 1 t j (byt (rest.take j)) ∧ Hid (NextInv w wr bm n f ba bb bits (pos + j)) ∧ Hid (AfterJ f rest j))
    (fun t _ => rest.length + 1 - lenOf t)
  case atStart => exact ⟨0, Nat.zero_le _, by omega, ⟨_, _, rfl⟩, by rw [World.size_alloc] at hown; exact hown, HI, AfterJ.start f rest⟩
  case round =>
    obtain ⟨j, hj, hj100, ⟨ao, cap, rfl⟩, ho, HIN, HAJ⟩ := hrel
    clear hown HI
    by_cases hlt : j < rest.length
    · have hpj : pos + j < bits.length := by omega
      have HC := hide (show bits[pos + j] = rest[j] by
        have h := HREST.out
        subst h
        rw [List.getElem_drop])
      have hc := rest[j].toNat_lt
      have HBT := hide (show byt (rest.take (j + 1)) = byt (rest.take j) ++ [.int .u8 (rest[j].toNat : Nat)] by
        rw [List.take_succ_eq_append_getElem hlt, byt_append]; rfl)
      go_wp2_with fail
      refine (take_one ba bb bits (pos + j) _ HIN.out.taker hpj).mono ?_
      rintro e w3 ⟨rfl, hw3⟩
      rw [HC.out]
      have ho3 : w3.ownsRow (w.heap.size + 1) 5 1 (.slice ao j cap) j (byt (rest.take j)) := by
        rw [← hw3]; exact ownsRow_setCell_below ho (a := ⟨ba, 0, none⟩) (by show ba < _; omega) _
      have HI3 := hide (show NextInv w w3 bm n f ba bb bits (pos + j + 1) by rw [← hw3]; exact HIN.out.taken hla hma hpj)
      have hsz3 : w.heap.size + 1 ≤ w3.heap.size := HI3.out.size
      clear hw3 ho HIN hpj HC
      generalize rest[j].toNat = c at *
      have hrb : rest.length ≤ 281474976710656 := by omega
      have hl1 : (rest.take (j + 1)).length = j + 1 := by rw [List.length_take]; omega
      have hk1 : (str (rest.take (j + 1))).size ≤ maxLen := by rw [str_size, hl1]; unfold maxLen; omega
      have HL1 := hide hl1
      clear hl1
      have HPS : Hid (pos + (j + 1) = pos + j + 1) := by show _ = _; omega
      cases hfk : f (rest.take (j + 1)) with
      | none =>
        have HN := hide (HAJ.out.none hlt hfk)
        go_wp2_with (at_builtin; refine wpList_append_own _ rfl _ _ 71 rfl (w.heap.size + 1) 5 i0 (.int .u8 0) 1 1 Tryz.underlying71 hi hz0 hz1 hz2 rfl (by decide) _ _ _ rfl (ho3.alloc _) ⟨w3.heap.size, 0, none⟩ 1 1 [.int .u8 (c : Nat)] rfl rfl ?_ ?_ ?_ ?_ ?_ ?_; (intro a u hu; obtain ⟨rfl, rfl⟩ := one_get hu; simp [Addr.add]); (intro u hu; simp at hu; subst hu; rfl); (unfold maxLen; omega); omega; (simp; omega); intro v' w4 hown' hgrow hnn; clear hnn; have HI4 := hide ((HI3.out.alloc hla hlb hmlt _).other hla hlb hmlt hgrow (fun q hq => (ho3.lt q hq).1)); have c4 := HI4.out.cell; have HO4 := hide (own_next HBT.out HL1.out hown'); have hcv := run_string_any (dst := 9) Tryz.underlying71 Tryz.underlying5 Tryz.underlying9 HO4.out; have hlook := lookNone HI4.out.book hk1 hfk; clear hgrow hown')
        go_ret2
        rw [HN.out]
        exact ⟨rfl, by rw [HPS.out]; exact (HI4.out.alloc hla hlb hmlt _).taker, (HI4.out.alloc hla hlb hmlt _).grown⟩
      | some q =>
        obtain ⟨m, wh⟩ := q
        cases wh with
        | true =>
          have HN := hide (HAJ.out.found hlt hfk)
          go_wp2_with (at_builtin; refine wpList_append_own _ rfl _ _ 71 rfl (w.heap.size + 1) 5 i0 (.int .u8 0) 1 1 Tryz.underlying71 hi hz0 hz1 hz2 rfl (by decide) _ _ _ rfl (ho3.alloc _) ⟨w3.heap.size, 0, none⟩ 1 1 [.int .u8 (c : Nat)] rfl rfl ?_ ?_ ?_ ?_ ?_ ?_; (intro a u hu; obtain ⟨rfl, rfl⟩ := one_get hu; simp [Addr.add]); (intro u hu; simp at hu; subst hu; rfl); (unfold maxLen; omega); omega; (simp; omega); intro v' w4 hown' hgrow hnn; clear hnn; have HI4 := hide ((HI3.out.alloc hla hlb hmlt _).other hla hlb hmlt hgrow (fun q hq => (ho3.lt q hq).1)); have c4 := HI4.out.cell; have HO4 := hide (own_next HBT.out HL1.out hown'); have hcv := run_string_any (dst := 9) Tryz.underlying71 Tryz.underlying5 Tryz.underlying9 HO4.out; have hlook := lookSome HI4.out.book hk1 hfk; clear hgrow hown')
          go_ret2
          rw [HN.out]
          exact ⟨rfl, by rw [HPS.out]; exact (HI4.out.alloc hla hlb hmlt _).taker, (HI4.out.alloc hla hlb hmlt _).grown⟩
        | false =>
          have HN := hide (HAJ.out.more hlt hfk)
          have hj101 : j + 1 ≤ 100 := by have h := HFL.out (rest.take (j + 1)) (by rw [hfk]; simp); rw [HL1.out] at h; exact h
          go_wp2_with (at_builtin; refine wpList_append_own _ rfl _ _ 71 rfl (w.heap.size + 1) 5 i0 (.int .u8 0) 1 1 Tryz.underlying71 hi hz0 hz1 hz2 rfl (by decide) _ _ _ rfl (ho3.alloc _) ⟨w3.heap.size, 0, none⟩ 1 1 [.int .u8 (c : Nat)] rfl rfl ?_ ?_ ?_ ?_ ?_ ?_; (intro a u hu; obtain ⟨rfl, rfl⟩ := one_get hu; simp [Addr.add]); (intro u hu; simp at hu; subst hu; rfl); (unfold maxLen; omega); omega; (simp; omega); intro v' w4 hown' hgrow hnn; clear hnn; have HI4 := hide ((HI3.out.alloc hla hlb hmlt _).other hla hlb hmlt hgrow (fun q hq => (ho3.lt q hq).1)); have c4 := HI4.out.cell; have HO4 := hide (own_next HBT.out HL1.out hown'); have hcv := run_string_any (dst := 9) Tryz.underlying71 Tryz.underlying5 Tryz.underlying9 HO4.out; have hlook := lookSome HI4.out.book hk1 hfk; clear hgrow hown')
          go_roundw
          case rel =>
            have h4 := HO4.out
            rw [HL1.out] at h4
            exact ⟨j + 1, by omega, hj101, ownsRow_lenOf h4, h4.alloc _, by show NextInv _ _ _ _ _ _ _ _ _; rw [HPS.out]; exact HI4.out.alloc hla hlb hmlt _, HN⟩
          case measure =>
            have h4 := HO4.out
            rw [HL1.out] at h4
            obtain ⟨ao', cap', hv'⟩ := ownsRow_lenOf h4
            rw [hv']
            simp only [lenOf]
            omega
    · obtain rfl : j = rest.length := by omega
      have HS := hide (HAJ.out.short rfl)
      have hend : pos + rest.length = bits.length := by omega
      have HTK := hide (show TakerAt wr ba bb bits bits.length by have h := HIN.out.taker; rw [hend] at h; exact h)
      go_wp2_with (go_at_call 136; refine (take_end ba bb bits _ HTK.out).mono ?_; rintro e w3 ⟨rfl, rfl⟩)
      go_ret2
      rw [HS.out]
      exact ⟨rfl, HIN.out.taker, HIN.out.grown⟩
end Go.Proofs.YtanebhbfekcplaaGreat

namespace Go.Proofs.YtanebhbfekcplaaGreat
open Go.RowKit
theorem words15 (xs : List Int) (hok : lensOk xs = true) : ∀ i (h : i < (wordsOf xs).length), (wordsOf xs)[i].length ≤ 15 := by
  intro i h
  rw [wordsOf_length] at h
  rw [wordsOf_get xs i h]
  exact word_length xs hok i
end Go.Proofs.YtanebhbfekcplaaGreat

namespace Go.Proofs.YtanebhbfekcplaaGreat
open Go.RowKit
def bookOf (xs : List Int) : List UInt8 → Option (Int × Bool) := bookF (wordsOf xs) (wordsOf xs).length
theorem bookOf_short (xs : List Int) (hok : lensOk xs = true) : ∀ key, bookOf xs key ≠ none → key.length ≤ 100 := by
  intro key h
  refine Decidable.byContradiction fun hl => h ?_
  refine book_none _ _ _ fun i hi hp => hl ?_
  have h1 := words15 xs hok i hi
  have h2 := hp.length_le
  rw [show (wordsOf xs).getD i [] = (wordsOf xs)[i] by simp [List.getD, hi]] at h2
  omega
end Go.Proofs.YtanebhbfekcplaaGreat

namespace Go.Proofs.YtanebhbfekcplaaGreat
open Go.RowKit
theorem some_word (xs : List Int) (hE : checkE xs = 0) : ∃ i, i < (wordsOf xs).length ∧ (wordsOf xs).getD i [] ≠ [] := by
  obtain ⟨_, _, hok, h0, _⟩ := checkE_zero hE
  have hu : anyUsed xs = true := by
    cases h : anyUsed xs with
    | true => rfl
    | false => have := (used_iff xs).2 h; omega
  obtain ⟨x, hx, h1⟩ := List.any_eq_true.1 hu
  obtain ⟨i, hi, rfl⟩ := List.getElem_of_mem hx
  refine ⟨i, by rw [wordsOf_length]; exact hi, ?_⟩
  have e : (wordsOf xs).getD i [] = word xs i := by simp [List.getD, wordsOf, hi]
  have gi : xs.getD i 0 = xs[i] := by simp [List.getD, List.getElem?_eq_getElem hi]
  have h2 : 0 < xs[i] := by simpa using h1
  rw [e, word, gi, if_pos (by omega)]
  intro h
  have hl := congrArg List.length h
  rw [numBits_length, List.length_nil] at hl
  omega
end Go.Proofs.YtanebhbfekcplaaGreat

namespace Go.Proofs.YtanebhbfekcplaaGreat
open Go.RowKit
theorem isKind_any (n : Int) (w : World) : Calls Tryz.prog 101 #[.int .i64 n] w fun e w' => e = .returned (.bool (kindOk n)) ∧ w = w' := by
  by_cases h1 : 1 ≤ n
  all_goals by_cases h2 : n ≤ 7
  all_goals
    go_enter Tryz.func101, Tryz.ntmps101
    go_wp2
    go_ret
    exact ⟨ret_bool (by simp [kindOk, h1, h2]), rfl⟩
end Go.Proofs.YtanebhbfekcplaaGreat

namespace Go.Proofs.YtanebhbfekcplaaGreat
open Go.RowKit
set_option maxHeartbeats 400000 in
theorem guessInside_any (kind a b c : Int) (ha : 0 ≤ a ∧ a ≤ 65535) (hb : 0 ≤ b ∧ b ≤ 65535) (hc : 0 ≤ c ∧ c ≤ 65535) (w : World) :
    Calls Tryz.prog 139 #[.int .i64 kind, .int .i64 a, .int .i64 b, .int .i64 c] w fun e w' => e = .returned (.int .i64 (insideG kind a b c)) ∧ w = w' := by
  by_cases h1 : kind = 1
  · subst h1
    go_enter Tryz.func139, Tryz.ntmps139
    go_wp2
    go_ret
    exact ⟨ret_int (by simp [insideG]), rfl⟩
  by_cases h2 : kind = 2
  · subst h2
    go_enter Tryz.func139, Tryz.ntmps139
    go_wp2
    go_ret
    exact ⟨ret_int (by simp [insideG]), rfl⟩
  by_cases h3 : kind = 3
  · subst h3
    go_enter Tryz.func139, Tryz.ntmps139
    go_wp2
    go_ret
    exact ⟨ret_int (by simp [insideG]), rfl⟩
  by_cases h4 : kind = 4
  · subst h4
    go_enter Tryz.func139, Tryz.ntmps139
    go_wp2
    go_ret
    exact ⟨ret_int (by simp [insideG]), rfl⟩
  by_cases h5 : kind = 5
  · subst h5
    go_enter Tryz.func139, Tryz.ntmps139
    go_wp2
    go_ret
    exact ⟨ret_int (by simp [insideG]), rfl⟩
  by_cases h6 : kind = 6
  · subst h6
    go_enter Tryz.func139, Tryz.ntmps139
    go_wp2
    go_ret
    exact ⟨ret_int (by simp [insideG]), rfl⟩
  have k1 : (kind == 1) = false := by simpa using h1
  have k2 : (kind == 2) = false := by simpa using h2
  have k3 : (kind == 3) = false := by simpa using h3
  have k4 : (kind == 4) = false := by simpa using h4
  have k5 : (kind == 5) = false := by simpa using h5
  have k6 : (kind == 6) = false := by simpa using h6
  have HE := hide (show (a + b) / 2 = insideG kind a b c by simp [insideG, h1, h2, h3, h4, h5, h6])
  clear h1 h2 h3 h4 h5 h6
  go_enter Tryz.func139, Tryz.ntmps139
  go_wp2
  go_ret
  exact ⟨ret_int HE.out, rfl⟩
theorem guessInside_q (kind a b c : Int) (ha : 0 ≤ a ∧ a ≤ 65535) (hb : 0 ≤ b ∧ b ≤ 65535) (hc : 0 ≤ c ∧ c ≤ 65535) (w : World) :
    Calls Tryz.prog 139 #[.int .i64 kind, .int .i64 a, .int .i64 b, .int .i64 c] w fun e w' => e = .returned (.int .i64 (insideG kind a b c)) ∧ w' = w :=
  (guessInside_any kind a b c ha hb hc w).mono fun _ _ h => ⟨h.1, h.2.symm⟩
theorem place_parts (W k : Nat) (hW : 1 ≤ W) : k / W * W + k % W = k ∧ (k / W ≠ 0 → W ≤ k) ∧ (k / W = 0 → k % W = k) ∧ k % W < W := by
  have h1 := Nat.div_add_mod k W
  rw [Nat.mul_comm] at h1
  refine ⟨h1, fun h => ?_, fun h => ?_, Nat.mod_lt _ hW⟩
  · refine Decidable.byContradiction fun hn => h (Nat.div_eq_of_lt (by omega))
  · rw [h, Nat.zero_mul, Nat.zero_add] at h1; exact h1
set_option maxRecDepth 100000 in
set_option maxHeartbeats 800000 in
theorem guess_any (v : Value) (zs : List Int) (W X Y : Nat) (H kind : Int) (k : Nat) (w : World) (hv : IsInts w v zs) (hW1 : 1 ≤ W) (hW : W ≤ 64) (hk : k < zs.length) (hl : zs.length ≤ 4096) (hz : sampsOk zs = true) (hX : X = k % W) (hY : Y = k / W) :
    Calls Tryz.prog 107 #[.agg #[.int .i64 W, .int .i64 H, v], .int .i64 kind, .int .i64 X, .int .i64 Y] w fun e w' => e = .returned (.int .i64 (gAt zs W kind k)) ∧ Below w.heap.size w w' := by
  obtain ⟨p1, p2, p3, p4⟩ := place_parts W k hW1
  rw [← hX, ← hY] at p1
  rw [← hY] at p2 p3
  rw [← hX] at p3 p4
  obtain ⟨ao, ca, rfl, hla, hc⟩ := hv
  obtain ⟨bk, off, hao, hbl, hcell⟩ : ∃ b off, ao = some ⟨b, off, none⟩ ∧ b < w.heap.size ∧ ∀ j (h : j < zs.length), w.cell? ⟨b, off + j, none⟩ = some (.int .i64 zs[j]) := by
    rcases hc with h | h
    · subst h; simp at hk
    · exact h
  subst hao
  have HG : ∀ j, j < zs.length → ∀ o, (w.alloc o).cell? ⟨bk, off + j, none⟩ = some (.int .i64 (zs.getD j 0)) := fun j hj o => by
    rw [World.cell?_of_block (w := w) (Below.heap_alloc w o bk hbl), hcell j hj]; simp [List.getD, hj]
  have HCELL := hide HG
  clear hcell hc HG
  obtain ⟨M, hM⟩ : ∃ M : Nat, M = Y * W := ⟨_, rfl⟩
  rw [← hM] at p1
  have hm : (Y : Int) * (W : Int) = (M : Int) := by rw [hM]; simp
  have hMW : Y ≠ 0 → W ≤ M := fun h => by rw [hM]; exact Nat.le_mul_of_pos_left _ (by omega)
  clear hM
  have hs1 := sampsOk_getD hz (k - 1)
  have hs2 := sampsOk_getD hz (k - W)
  have hs3 := sampsOk_getD hz (k - W - 1)
  clear hz
  by_cases hx : X = 0
  · by_cases hy : Y = 0
    · have HE := hide (show 32768 = gAt zs W kind k by rw [gAt, if_pos ⟨hX ▸ hx, hY ▸ hy⟩])
      subst hx hy
      clear hX hY HCELL hs1 hs2 hs3 p2 p3
      go_enter Tryz.func107, Tryz.ntmps107
      go_wp2
      go_ret
      exact ⟨ret_int HE.out, bel_alloc _ _⟩
    · have HE := hide (show zs.getD (k - W) 0 = gAt zs W kind k by rw [gAt, if_neg (fun h => hy (hY.trans h.2)), if_neg (fun h => hy (hY.trans h)), if_pos (hX ▸ hx)])
      have hkW := p2 hy
      have hc1 := HCELL.out (k - W) (by omega)
      have hyb : ((Y : Int) == 0) = false := by simp; omega
      subst hx
      obtain rfl : M = k := by omega
      clear hX hY HCELL p3 p2 p1 hy hs1 hs3
      generalize zs.getD (M - W) 0 = Z at *
      go_enter Tryz.func107, Tryz.ntmps107
      go_wp2
      go_ret
      exact ⟨ret_int HE.out, bel_alloc _ _⟩
  · have hxb : ((X : Int) == 0) = false := by simp; omega
    by_cases hy : Y = 0
    · have HE := hide (show zs.getD (k - 1) 0 = gAt zs W kind k by rw [gAt, if_neg (fun h => hx (hX.trans h.1)), if_pos (hY ▸ hy)])
      have hc1 := HCELL.out (k - 1) (by omega)
      subst hy
      obtain rfl : M = 0 := by simp at hm; omega
      obtain rfl : X = k := by omega
      clear hX hY HCELL p3 p2 hs2 hs3 p1
      generalize zs.getD (X - 1) 0 = Z at *
      go_enter Tryz.func107, Tryz.ntmps107
      go_wp2
      go_ret
      exact ⟨ret_int HE.out, bel_alloc _ _⟩
    · have HE := hide (show insideG kind (zs.getD (k - 1) 0) (zs.getD (k - W) 0) (zs.getD (k - W - 1) 0) = gAt zs W kind k by rw [gAt, if_neg (fun h => hx (hX.trans h.1)), if_neg (fun h => hy (hY.trans h)), if_neg (fun h => hx (hX.trans h))])
      have hkW := p2 hy
      have hc1 := HCELL.out (k - 1) (by omega)
      have hc2 := HCELL.out (k - W) (by omega)
      have hc3 := HCELL.out (k - W - 1) (by omega)
      have hyb : ((Y : Int) == 0) = false := by simp; omega
      have hMW := hMW hy
      have i1 : (k : Int) - 1 = ((k - 1 : Nat) : Int) := by omega
      have i2 : (k : Int) - (W : Int) = ((k - W : Nat) : Int) := by omega
      have i3 : ((k - W : Nat) : Int) - 1 = ((k - W - 1 : Nat) : Int) := by omega
      have l1 : k - 1 < zs.length := by omega
      have l2 : k - W < zs.length := by omega
      have l3 : k - W - 1 < zs.length := by omega
      have hat : (M : Int) + (X : Int) = (k : Int) := by omega
      clear hX hY HCELL p3 p2 hy p1
      generalize zs.getD (k - 1) 0 = Z1 at *
      generalize zs.getD (k - W) 0 = Z2 at *
      generalize zs.getD (k - W - 1) 0 = Z3 at *
      generalize k - W - 1 = j3 at *
      generalize k - W = j2 at *
      generalize k - 1 = j1 at *
      go_enter Tryz.func107, Tryz.ntmps107
      go_wp2_with fail
      have HW := hide (bel_alloc w (Obj.cells #[.int .i64 W, .int .i64 H, .slice (some ⟨bk, off, none⟩) zs.length ca] 34))
      have hd1 := hc1 (Obj.cells #[.int .i64 W, .int .i64 H, .slice (some ⟨bk, off, none⟩) zs.length ca] 34)
      have hd2 := hc2 (Obj.cells #[.int .i64 W, .int .i64 H, .slice (some ⟨bk, off, none⟩) zs.length ca] 34)
      have hd3 := hc3 (Obj.cells #[.int .i64 W, .int .i64 H, .slice (some ⟨bk, off, none⟩) zs.length ca] 34)
      obtain ⟨e0, e1, e2⟩ := pl3 (Below.refl (w.alloc (Obj.cells #[.int .i64 W, .int .i64 H, .slice (some ⟨bk, off, none⟩) zs.length ca] 34)).heap.size _)
      clear hc1 hc2 hc3
      generalize w.alloc (Obj.cells #[.int .i64 W, .int .i64 H, .slice (some ⟨bk, off, none⟩) zs.length ca] 34) = w1 at *
      go_quiet ((go_at_call 139; exact Calls.quiet_of_same (guessInside_q kind Z1 Z2 Z3 hs1 hs2 hs3 _)))
      go_wp2
      go_ret
      exact ⟨ret_int HE.out, below_drewN HW.out _⟩
set_option maxRecDepth 100000 in
theorem difference_any (s g : Int) (hs : 0 ≤ s ∧ s ≤ 65535) (hg : -65536 ≤ g ∧ g ≤ 131070) (w : World) :
    Calls Tryz.prog 120 #[.int .i64 s, .int .i64 g] w fun e w' => e = .returned (.int .i64 (dif s g)) ∧ w = w' := by
  have ha := andTop (s - g)
  by_cases h : 32768 < (s - g) % 65536
  · have HE := hide (show (s - g) % 65536 - 65536 = dif s g by rw [dif, if_pos h])
    go_enter Tryz.func120, Tryz.ntmps120
    go_wp2
    go_ret
    exact ⟨ret_int HE.out, rfl⟩
  · have HE := hide (show (s - g) % 65536 = dif s g by rw [dif, if_neg h])
    go_enter Tryz.func120, Tryz.ntmps120
    go_wp2
    go_ret
    exact ⟨ret_int HE.out, rfl⟩
theorem halves (N k : Nat) : N / 2 ^ (k + 1) = N / 2 ^ k / 2 := by rw [Nat.pow_succ, Nat.div_div_eq_div_mul]
theorem blen_more {N k : Nat} (h : N / 2 ^ k ≠ 0) : k < blen N := blen_gt (by
  refine Decidable.byContradiction fun hn => h (Nat.div_eq_of_lt (by omega)))
theorem blen_done {N k : Nat} (h : N / 2 ^ k = 0) : blen N ≤ k := blen_le (by
  have := Nat.pow_pos (n := k) (show 0 < 2 by decide)
  rcases Nat.div_eq_zero_iff.1 h with h | h <;> omega)
set_option maxRecDepth 100000 in
set_option maxHeartbeats 400000 in
theorem classOf_any (d : Int) (h0 : -32768 < d) (h1 : d ≤ 32768) (w : World) :
    Calls Tryz.prog 121 #[.int .i64 d] w fun e w' => e = .returned (.int .i64 (cls d : Nat)) ∧ w = w' := by
  have hN : ∃ N : Nat, N ≤ 32768 ∧ (d = N ∨ (d = -(N : Int) ∧ 0 < N)) := ⟨d.natAbs, by omega, by omega⟩
  obtain ⟨N, hNb, hN⟩ := hN
  have HB := hide (show blen N ≤ 16 from blen_le (by omega))
  have HC := hide (show blen N = cls d by rw [cls]; congr 1; omega)
  clear h0 h1
  generalize cls d = C at *
  rcases hN with rfl | ⟨rfl, hpos⟩
  · have hdc : decide ((N : Int) < -(N : Int)) = false := by simp
    go_enter Tryz.func121, Tryz.ntmps121
    go_wp2
    go_loop [3, 4] (fun c n => ∃ k : Nat, k ≤ 16 ∧ c = .int .i64 k ∧ n = .int .i64 ((N / 2 ^ k : Nat) : Int) ∧ Hid (k ≤ blen N)) (fun c _ => 16 - (intOf c).toNat)
    case atStart => exact ⟨0, by omega, rfl, by (simp; try omega), by show _ ≤ _; omega⟩
    case round =>
      obtain ⟨k, hk, rfl, rfl, HK⟩ := hrel
      have HH := hide (halves N k)
      have HM := hide (@blen_more N k)
      have HD := hide (@blen_done N k)
      have hle : N / 2 ^ k ≤ 32768 := Nat.le_trans (Nat.div_le_self _ _) hNb
      generalize N / 2 ^ k = n at *
      by_cases hn : n = 0
      · subst hn
        have HE := hide (show (k : Int) = (C : Nat) by rw [← HC.out]; have := HD.out rfl; have := HK.out; omega)
        go_wp2
        go_ret
        exact ⟨ret_int HE.out, rfl⟩
      · have hlt := HM.out hn
        have HK2 : Hid (k + 1 ≤ blen N) := hlt
        have hk2 : k + 1 ≤ 16 := by have := HB.out; omega
        clear hlt
        go_wp2
        go_round
        case rel => exact ⟨k + 1, hk2, by go_num, by rw [HH.out]; go_num, HK2⟩
        case measure => simp [intOf]; omega
  · have hdc : decide (-(N : Int) < - -(N : Int)) = true := by simp; omega
    have hdd : decide (-(N : Int) < (N : Int)) = true := by simp; omega
    have hnn : - -(N : Int) = (N : Int) := Int.neg_neg _
    go_enter Tryz.func121, Tryz.ntmps121
    go_wp2
    go_loop [3, 4] (fun c n => ∃ k : Nat, k ≤ 16 ∧ c = .int .i64 k ∧ n = .int .i64 ((N / 2 ^ k : Nat) : Int) ∧ Hid (k ≤ blen N)) (fun c _ => 16 - (intOf c).toNat)
    case atStart => exact ⟨0, by omega, rfl, by (simp; try omega), by show _ ≤ _; omega⟩
    case round =>
      obtain ⟨k, hk, rfl, rfl, HK⟩ := hrel
      have HH := hide (halves N k)
      have HM := hide (@blen_more N k)
      have HD := hide (@blen_done N k)
      have hle : N / 2 ^ k ≤ 32768 := Nat.le_trans (Nat.div_le_self _ _) hNb
      generalize N / 2 ^ k = n at *
      by_cases hn : n = 0
      · subst hn
        have HE := hide (show (k : Int) = (C : Nat) by rw [← HC.out]; have := HD.out rfl; have := HK.out; omega)
        go_wp2
        go_ret
        exact ⟨ret_int HE.out, rfl⟩
      · have hlt := HM.out hn
        have HK2 : Hid (k + 1 ≤ blen N) := hlt
        have hk2 : k + 1 ≤ 16 := by have := HB.out; omega
        clear hlt
        go_wp2
        go_round
        case rel => exact ⟨k + 1, hk2, by go_num, by rw [HH.out]; go_num, HK2⟩
        case measure => simp [intOf]; omega
end Go.Proofs.YtanebhbfekcplaaGreat

namespace Go.Proofs.YtanebhbfekcplaaGreat
open Go.RowKit
set_option maxRecDepth 100000 in
set_option maxHeartbeats 400000 in
theorem tail_any (d : Int) (h0 : -32768 < d) (h1 : d ≤ 32768) (C : Nat) (hC : C = cls d) (w : World) :
    Calls Tryz.prog 123 #[.int .i64 d, .int .i64 C] w fun e w' => e = .returned (.string (str (tailB d))) ∧ Below w.heap.size w w' := by
  have hcl := cls_le h0 h1
  rw [← hC] at hcl
  by_cases hz : C = 0
  · have HE := hide (show ⟨#[]⟩ = str (tailB d) by rw [tailB, if_pos (.inl (hC ▸ hz))]; rfl)
    clear hC
    subst hz
    go_enter Tryz.func123, Tryz.ntmps123
    go_wp2
    go_ret
    exact ⟨congrArg (fun x => Ending.returned (.string x)) HE.out, Below.refl _ _⟩
  by_cases ht : C = 16
  · have HE := hide (show ⟨#[]⟩ = str (tailB d) by rw [tailB, if_pos (.inr (hC ▸ ht))]; rfl)
    clear hC
    subst ht
    go_enter Tryz.func123, Tryz.ntmps123
    go_wp2
    go_ret
    exact ⟨congrArg (fun x => Ending.returned (.string x)) HE.out, Below.refl _ _⟩
  have HE := hide (show str (numBits (tailN d) C) = str (tailB d) by rw [tailB, if_neg (by omega), ← hC])
  obtain ⟨hlt, hN⟩ := tailN_lt d (by omega)
  rw [← hC] at hlt hN
  have HLT := hide hlt
  have hw := wrap_pow (n := C) (by omega)
  have hp := pow16 (n := C) (by omega)
  rw [pow_cast] at hN
  have hb0 : ((C : Int) == 0) = false := by simp; omega
  have hb16 : ((C : Int) == 16) = false := by simp; omega
  clear hC hlt
  generalize tailN d = N at *
  by_cases hneg : d < 0
  · have hd : decide (d < 0) = true := by simpa using hneg
    rw [if_pos hneg] at hN
    obtain ⟨p, hpe⟩ : ∃ p : Nat, 2 ^ C = p := ⟨_, rfl⟩
    rw [hpe] at hN hp hw
    have HPE := hide hpe
    go_enter Tryz.func123, Tryz.ntmps123
    go_wp2_with fail
    refine (number_int _ _ N C (by rw [hN]) rfl (by omega) HLT.out _).mono ?_
    rintro e w1 ⟨rfl, hb1⟩
    go_wp2
    go_ret
    exact ⟨congrArg (fun x => Ending.returned (.string x)) HE.out, hb1⟩
  · have hd : decide (d < 0) = false := by simpa using hneg
    rw [if_neg hneg] at hN
    clear hw hp
    go_enter Tryz.func123, Tryz.ntmps123
    go_wp2_with fail
    refine (number_int _ _ N C (by rw [hN]) rfl (by omega) HLT.out _).mono ?_
    rintro e w1 ⟨rfl, hb1⟩
    go_wp2
    go_ret
    exact ⟨congrArg (fun x => Ending.returned (.string x)) HE.out, hb1⟩
end Go.Proofs.YtanebhbfekcplaaGreat

namespace Go.Proofs.YtanebhbfekcplaaGreat
open Go.RowKit
theorem wordsBits (xs : List Int) (n : Int) : allB (wordS (wordsOf xs) n) = true := by
  unfold wordS
  split
  · by_cases h : n.toNat < (wordsOf xs).length
    · rw [show (wordsOf xs).getD n.toNat [] = (wordsOf xs)[n.toNat] by simp [List.getD, h]]
      rw [wordsOf_get xs n.toNat (by rw [wordsOf_length] at h; exact h), word]
      split
      · exact numBits_allB _ _
      · rfl
    · rw [show (wordsOf xs).getD n.toNat [] = [] by simp [List.getD, h]]; rfl
  · rfl
theorem dBits_bits (xs zs : List Int) (W : Nat) (kind : Int) (n : Nat) : allB (dBits (wordsOf xs) zs W kind n) = true := by
  induction n with
  | zero => rfl
  | succ n ih => rw [dBits_succ, allB_append, ih, wrD, allB_append, wordsBits, tailB_bits]; rfl
theorem bytes_bits (l : List UInt8) (hb : allB l = true) (hl : l.length ≤ 1000000000000) (w : World) :
    Calls Tryz.prog 119 #[.string (str l)] w fun e w' => e = .returned (.tuple #[.string (str (bytesOf l)), .int .i64 0]) ∧ Below w.heap.size w w' :=
  bytes_ok (str l) (by rw [str_size]; omega) hb w
set_option maxRecDepth 100000 in
set_option maxHeartbeats 1600000 in
theorem writeD_walk (W H : Nat) (vp v : Value) (zs : List Int) (kind : Int) (xs : List Int) (w : World) (hvp : IsInts w vp zs) (hv : IsInts w v xs) (hp : planeOk W H zs = true) (hk : kindOk kind = true) (hE : checkE xs = 0) :
    Calls Tryz.prog 68 #[.agg #[.int .i64 W, .int .i64 H, vp], .int .i64 kind, v] w fun e w' => e = .returned (.tuple #[.string (str (writeDS W H zs kind xs)), .int .i64 (writeDE W H zs kind xs)]) ∧ Below w.heap.size w w' := by
  obtain ⟨hl1, hl2, hok, _, _⟩ := checkE_zero hE
  obtain ⟨⟨b1, b2⟩, ⟨b3, b4⟩, b5, b6⟩ := planeOk_parts hp
  have h4096 : zs.length ≤ 4096 := by have := side_mul ⟨b1, b2⟩ ⟨b3, b4⟩; omega
  have hz1 : 1 ≤ zs.length := by have := side_mul ⟨b1, b2⟩ ⟨b3, b4⟩; omega
  have HV := hide hv; clear hv
  have HVP := hide hvp
  obtain ⟨po, pc, rfl, hpl, hpc⟩ := hvp
  obtain ⟨pb, poff, hpo, hpbl, hpcell⟩ : ∃ b off, po = some ⟨b, off, none⟩ ∧ b < w.heap.size ∧ ∀ j (h : j < zs.length), w.cell? ⟨b, off + j, none⟩ = some (.int .i64 zs[j]) := by
    rcases hpc with h | h
    · subst h; simp at hz1
    · exact h
  subst hpo
  have HPC := hide hpcell
  clear hpcell hpc
  have HE := hide hE
  have HOK := hide hok
  have HZ := hide b6
  have HP := hide hp
  have HK := hide hk
  clear b5 b6 hok
  go_enter Tryz.func68, Tryz.ntmps68
  go_wp2_with fail
  refine (plane_any _ _ _ zs _ (HVP.out.alloc _)).mono ?_
  rintro e w1 ⟨rfl, hb1⟩
  rw [hp]
  have HB1 := hide (bel_trans (bel_alloc w _) hb1)
  obtain ⟨c0, c1, c2⟩ := pl3 hb1
  have hlt0 : w.heap.size < w1.heap.size := by have := hb1.size; simp at this; omega
  clear hb1
  go_wp2_with (go_at_call 101; refine (isKind_any _ _).mono ?_; rintro e w2 ⟨rfl, rfl⟩; rw [hk])
  refine (words_walk _ _ _ (HV.out.below HB1.out (Nat.le_refl _)) HE.out).mono ?_
  rintro e w2 ⟨r, rfl, hr, hb2⟩
  have HR := hide hr; clear hr
  have HB2 := hide (bel_trans HB1.out hb2)
  have c0 := (hb2.cell (p := ⟨w.heap.size, 0, none⟩) hlt0).trans c0
  have c1 := (hb2.cell (p := ⟨w.heap.size, 1, none⟩) hlt0).trans c1
  have c2 := (hb2.cell (p := ⟨w.heap.size, 2, none⟩) hlt0).trans c2
  have hlt2 : w.heap.size < w2.heap.size := Nat.lt_of_lt_of_le hlt0 hb2.size
  clear hb2 HB1 hlt0
  go_wp2_with fail
  refine (new_any _ _ _ HR.out (by rw [wordsOf_length]; exact hl1) (by rw [wordsOf_length]; exact hl2) (words15 xs HOK.out)).mono ?_
  rintro e w3 ⟨cv, bm, n, rfl, hcv, hbm, hb3⟩
  have HCV := hide hcv
  obtain ⟨co, cc, rfl, _, _⟩ := hcv
  have HB3 := hide (bel_trans HB2.out hb3)
  have c0 := (hb3.cell (p := ⟨w.heap.size, 0, none⟩) hlt2).trans c0
  have c1 := (hb3.cell (p := ⟨w.heap.size, 1, none⟩) hlt2).trans c1
  have c2 := (hb3.cell (p := ⟨w.heap.size, 2, none⟩) hlt2).trans c2
  have hlt3 : w.heap.size < w3.heap.size := Nat.lt_of_lt_of_le hlt2 hb3.size
  clear hbm hb3 HB2 hlt2
  obtain ⟨V, hV⟩ : ∃ V, V = w3.alloc (.cells #[.slice co (wordsOf xs).length cc, .map (some bm)] 131) := ⟨_, rfl⟩
  have hVs : V.heap.size = w3.heap.size + 1 := by rw [hV]; simp
  have hVk : V.heap[w3.heap.size]? = some (.cells #[.slice co (wordsOf xs).length cc, .map (some bm)] 131 (0, 0)) := by rw [hV]; exact heap_alloc_new w3 _
  have hVb : Below w3.heap.size w3 V := by rw [hV]; exact bel_alloc _ _
  have HVB := hide (bel_trans HB3.out hVb)
  have HVT := hide (HCV.out.below hVb (Nat.le_refl _))
  have HVP2 := hide (HVP.out.below HVB.out (Nat.le_refl _))
  have HVC := hide (show ∀ j (h : j < zs.length), V.cell? ⟨pb, poff + j, none⟩ = some (.int .i64 zs[j]) from fun j h => (HVB.out.cell (p := ⟨pb, poff + j, none⟩) hpbl).trans (HPC.out j h))
  have HC0 := hide ((hVb.cell (p := ⟨w.heap.size, 0, none⟩) hlt3).trans c0)
  have HC1 := hide ((hVb.cell (p := ⟨w.heap.size, 1, none⟩) hlt3).trans c1)
  have HC2 := hide ((hVb.cell (p := ⟨w.heap.size, 2, none⟩) hlt3).trans c2)
  have HV0 := hide (show V.cell? ⟨w3.heap.size, 0, none⟩ = some (.slice co (wordsOf xs).length cc) by rw [Lib.cell_of_heap hVk]; rfl)
  have HV1 := hide (show V.cell? ⟨w3.heap.size, 1, none⟩ = some (.map (some bm)) by rw [Lib.cell_of_heap hVk]; rfl)
  have HST := hide (Lib.fresh_isBuilder 109 5 V)
  have hltV : w.heap.size < V.heap.size := by omega
  have hltB : w3.heap.size < V.heap.size := by omega
  go_wp2
  rw [← hV]
  have hbp : (⟨w3.heap.size + 1, 0, none⟩ : Addr) = ⟨V.heap.size, 0, none⟩ := by rw [hVs]
  rw [hbp]
  clear hV hVk hVb hbp c0 c1 c2 hVs HPC HB3 HCV HR HVP HV hlt3
  generalize hts : wordsOf xs = ts at *
  have HTS := hide hts; clear hts
  go_loopw [37] (fun i wr => ∃ k : Nat, k ≤ zs.length ∧ i = .int .i64 k ∧ Hid (dAll ts zs W kind k = true) ∧ Lib.IsBuilder 109 5 V.heap.size V.heap.size (byt (dBits ts zs W kind k)) wr ∧ Below V.heap.size V wr)
    (fun i _ => zs.length - (intOf i).toNat)
  case atStart => exact ⟨0, Nat.zero_le _, rfl, rfl, HST.out, bel_alloc _ _⟩
  case round =>
    obtain ⟨k, hk, rfl, HA, hbd, hb⟩ := hrel
    have hsz := hb.size
    have hpl : (dBits ts zs W kind k).length ≤ 122880 := by
      have h := dBits_length xs HOK.out zs W kind k
      rw [HTS.out] at h
      omega
    by_cases hlt : k < zs.length
    · have HZK := hide (sampsOk_get HZ.out k hlt)
      have hz0 := HZK.out.1
      have hz1 := HZK.out.2
      have c1 := (hb.cell (p := ⟨pb, poff + k, none⟩) (by have := HVB.out.size; show pb < _; omega)).trans (HVC.out k hlt)
      have HZG := hide (show zs.getD k 0 = zs[k] by simp [List.getD, hlt])
      generalize zs[k] = Z at *
      have hw1 : ¬ (W = 0) := by omega
      have hw2 : ¬ ((W : Int) = 0) := by omega
      have hqb : k / W ≤ 4096 := Nat.le_trans (Nat.div_le_self k W) (by omega)
      have HREM := hide (show (k : Int) % (W : Int) = ((k % W : Nat) : Int) from rfl)
      have HQUO := hide (show IntKind.i64.wrap ((k : Int) / (W : Int)) = ((k / W : Nat) : Int) by rw [show (k : Int) / (W : Int) = ((k / W : Nat) : Int) from rfl]; generalize k / W = q at hqb ⊢; exact IntWalk.i64_in _ (by omega))
      have HGU := hide (show ∀ w', Below wr.heap.size wr w' → Calls Tryz.prog 107 #[.agg #[.int .i64 W, .int .i64 H, .slice (some ⟨pb, poff, none⟩) zs.length pc], .int .i64 kind, .int .i64 ((k % W : Nat) : Int), .int .i64 ((k / W : Nat) : Int)] w' fun e w'' => e = .returned (.int .i64 (gAt zs W kind k)) ∧ Below wr.heap.size wr w'' from fun w' h =>
        (guess_any _ zs W _ _ H kind k w' (((HVP2.out.below hb (Nat.le_refl _)).below h (Nat.le_refl _))) (by omega) (by omega) hlt h4096 HZ.out rfl rfl).mono fun e w'' h2 => ⟨h2.1, h.trans (h2.2.mono h.size)⟩)
      have hgr := gAt_range zs W kind k HZ.out
      have hdr := dif_range (zs.getD k 0) (gAt zs W kind k)
      have HDA := hide (show dif Z (gAt zs W kind k) = dAt zs W kind k by rw [dAt, HZG.out])
      rw [HZG.out] at hdr
      generalize gAt zs W kind k = G at *
      have HDI := hide (difference_any Z G ⟨hz0, hz1⟩ hgr)
      generalize dif Z G = D at *
      have e0 := (hb.cell (p := ⟨w.heap.size, 0, none⟩) hltV).trans HC0.out
      have e1 := (hb.cell (p := ⟨w.heap.size, 1, none⟩) hltV).trans HC1.out
      have e2 := (hb.cell (p := ⟨w.heap.size, 2, none⟩) hltV).trans HC2.out
      have HS := hide (show ∀ w', Below wr.heap.size wr w' → w'.cell? ⟨w.heap.size, 0, none⟩ = some (.int .i64 W) ∧ w'.cell? ⟨w.heap.size, 1, none⟩ = some (.int .i64 H) ∧ w'.cell? ⟨w.heap.size, 2, none⟩ = some (.slice (some ⟨pb, poff, none⟩) zs.length pc) ∧ Below wr.heap.size wr w' from fun w' h =>
        ⟨(h.cell (p := ⟨w.heap.size, 0, none⟩) (by show w.heap.size < _; omega)).trans e0, (h.cell (p := ⟨w.heap.size, 1, none⟩) (by show w.heap.size < _; omega)).trans e1, (h.cell (p := ⟨w.heap.size, 2, none⟩) (by show w.heap.size < _; omega)).trans e2, h⟩)
      go_wp2_with fail
      have hrefl := Below.refl wr.heap.size wr
      have hdrew : Below wr.heap.size wr wr.drew := (Below.refl _ _).drew
      go_region_held3 (fun w' => w'.cell? ⟨w.heap.size, 0, none⟩ = some (.int .i64 W) ∧ w'.cell? ⟨w.heap.size, 1, none⟩ = some (.int .i64 H) ∧ w'.cell? ⟨w.heap.size, 2, none⟩ = some (.slice (some ⟨pb, poff, none⟩) zs.length pc) ∧ Below wr.heap.size wr w')
        (first | (refine HS.out _ ?_; assumption) | go_keep)
        (first | (go_at_call 107; (try rw [HREM.out]); (try rw [HQUO.out]); refine (HGU.out _ ?_).mono ?_; assumption; rintro e wx ⟨rfl, hN⟩) | (go_at_call 120; refine (HDI.out _).mono ?_; rintro e wy ⟨rfl, rfl⟩))
      have hbx : Below V.heap.size V wx := hb.trans (hN.mono hsz)
      have hbdx := isBuilder_below hbd hN hsz
      have hszx := hbx.size
      have hcl := cls_le hdr.1 hdr.2
      have HCO := hide (classOf_any D hdr.1 hdr.2)
      have HTA := hide (fun w => tail_any D hdr.1 hdr.2 (cls D) rfl w)
      have htl : (tailB D).length ≤ 15 := tailB_length hdr.1 hdr.2
      have hts : (str (tailB D)).size ≤ 15 := by rw [str_size]; exact htl
      have HWR := hide (show wrD ts D = wordS ts (cls D) ++ tailB D from rfl)
      clear hb hbd hsz hN HS HGU HDI e0 e1 e2 hrefl hdrew c1
      obtain ⟨C, hC⟩ : ∃ C, cls D = C := ⟨_, rfl⟩
      rw [hC] at hcl HCO HTA HWR
      have HC := hide hC
      clear hC
      generalize tailB D = TB at *
      have c2 := (hbx.cell (p := ⟨w3.heap.size, 0, none⟩) hltB).trans HV0.out
      have c3 := (hbx.cell (p := ⟨w3.heap.size, 1, none⟩) hltB).trans HV1.out
      have HIT := hide (HVT.out.below hbx (Nat.le_refl _))
      have hwl : (wordS ts C).length ≤ 15 := by
        have h := wordS_length xs HOK.out C
        rw [HTS.out] at h; exact h
      have hws : (str (wordS ts C)).size ≤ 15 := by rw [str_size]; exact hwl
      by_cases he : wordS ts C = []
      · have hE4 : wordE ts C = 4 := if_pos he
        have HNE := hide (show writeDE W H zs kind xs = 4 by
          rw [writeDE, if_pos HP.out, if_pos HK.out, if_pos HE.out, HTS.out, Int.toNat_natCast, dAll_false ts zs W kind zs.length k hlt (by rw [← HDA.out, HC.out]; exact he)]; rfl)
        have HNS := hide (show writeDS W H zs kind xs = [] by rw [writeDS, HNE.out, if_neg (by decide)])
        clear he
        go_wp2_with (first | (go_at_call 121; refine (HCO.out _).mono ?_; rintro e wy ⟨rfl, rfl⟩) | (go_at_call 122; refine (word_any _ bm ts _ _ HIT.out).mono ?_; rintro e wz ⟨rfl, hbz⟩))
        go_ret2
        rw [HNE.out, HNS.out]
        exact ⟨rfl, bel_trans (bel_trans HVB.out hbx) hbz⟩
      · have hE0 : wordE ts C = 0 := if_neg he
        have HO := hide (show dAll ts zs W kind (k + 1) = true by rw [dAll_succ, HA.out, ← HDA.out, HC.out]; simpa using he)
        have HP2 := hide (show dBits ts zs W kind (k + 1) = dBits ts zs W kind k ++ wordS ts C ++ TB by rw [dBits_succ, ← HDA.out, HWR.out, List.append_assoc])
        clear he
        generalize dBits ts zs W kind k = DB at *
        go_wp2_with (first | (go_at_call 121; refine (HCO.out _).mono ?_; rintro e wy ⟨rfl, rfl⟩) | (go_at_call 122; refine (word_any _ bm ts _ _ HIT.out).mono ?_; rintro e wz ⟨rfl, hbz⟩; have hbdz := isBuilder_below hbdx hbz hszx; have hszz := hbz.size))
        refine (writeString_any V.heap.size V.heap.size _ _ _ hbdz (by omega) (by omega)).mono ?_
        rintro e w4 ⟨rfl, hbd4, hb4⟩
        have hsz4 := hb4.size
        go_wp2_with fail
        refine (HTA.out _).mono ?_
        rintro e w5 ⟨rfl, hb5⟩
        have hbd5 := isBuilder_below hbd4 hb5 (by omega)
        have hsz5 := hb5.size
        go_wp2_with fail
        refine (writeString_any V.heap.size V.heap.size _ _ _ hbd5 (by rw [List.length_append, str_data]; omega) (by omega)).mono ?_
        rintro e w6 ⟨rfl, hbd6, hb6⟩
        go_wp2
        go_roundw
        case rel => exact ⟨k + 1, by omega, by go_num, HO, by rw [HP2.out]; exact hbd6, (((hbx.trans (hbz.mono hszx)).trans hb4).trans (hb5.mono (by omega))).trans hb6⟩
        case measure => simp [intOf]; omega
    · obtain rfl : k = zs.length := by omega
      have HNE := hide (show writeDE W H zs kind xs = 0 by rw [writeDE, if_pos HP.out, if_pos HK.out, if_pos HE.out, HTS.out, Int.toNat_natCast, if_pos HA.out])
      have HNS := hide (show writeDS W H zs kind xs = bytesOf (dBits ts zs W kind zs.length) by rw [writeDS, HNE.out, if_pos rfl, HTS.out, Int.toNat_natCast])
      have HAB := hide (show allB (dBits ts zs W kind zs.length) = true by rw [← HTS.out]; exact dBits_bits xs zs W kind zs.length)
      generalize dBits ts zs W kind zs.length = DB at *
      go_wp2_with (first | (go_at_call 78; refine (string_any V.heap.size V.heap.size _ _ hbd hsz).mono ?_; rintro e w3 ⟨rfl, hb3⟩) | (go_at_call 119; refine (bytes_bits _ HAB.out (by omega) _).mono ?_; rintro e w4 ⟨rfl, hb4⟩))
      go_ret2
      rw [HNE.out, HNS.out]
      exact ⟨rfl, bel_trans (bel_trans HVB.out (hb.trans hb3)) hb4⟩
theorem writeD_any (W H : Int) (vp v : Value) (zs : List Int) (kind : Int) (xs : List Int) (w : World) (hvp : IsInts w vp zs) (hv : IsInts w v xs) :
    Calls Tryz.prog 68 #[.agg #[.int .i64 W, .int .i64 H, vp], .int .i64 kind, v] w fun e w' => e = .returned (.tuple #[.string (str (writeDS W H zs kind xs)), .int .i64 (writeDE W H zs kind xs)]) ∧ Below w.heap.size w w' := by
  by_cases hp : planeOk W H zs = true
  · by_cases hk : kindOk kind = true
    · by_cases hE : checkE xs = 0
      · obtain ⟨⟨b1, _⟩, ⟨b3, _⟩, _, _⟩ := planeOk_parts hp
        obtain ⟨WN, rfl⟩ := Int.eq_ofNat_of_zero_le (show 0 ≤ W by omega)
        obtain ⟨HN, rfl⟩ := Int.eq_ofNat_of_zero_le (show 0 ≤ H by omega)
        exact writeD_walk WN HN vp v zs kind xs w hvp hv hp hk hE
      · have HNE := hide (show writeDE W H zs kind xs = checkE xs by rw [writeDE, if_pos hp, if_pos hk, if_neg hE])
        have HNS := hide (show writeDS W H zs kind xs = [] by rw [writeDS, HNE.out, if_neg hE])
        have HV := hide hv; clear hv
        have HVP := hide hvp
        obtain ⟨po, pc, rfl, hpl, hpc⟩ := hvp
        have hne : (checkE xs != 0) = true := by simpa using hE
        clear hpc hE
        go_enter Tryz.func68, Tryz.ntmps68
        go_wp2_with fail
        refine (plane_any _ _ _ zs _ (HVP.out.alloc _)).mono ?_
        rintro e w1 ⟨rfl, hb1⟩
        rw [hp]
        have HB1 := hide (bel_trans (bel_alloc w _) hb1)
        go_wp2_with (go_at_call 101; refine (isKind_any _ _).mono ?_; rintro e w2 ⟨rfl, rfl⟩; rw [hk])
        refine (words_any _ _ _ (HV.out.below HB1.out (Nat.le_refl _))).mono ?_
        rintro e w2 ⟨r, rfl, hr, hb2⟩
        clear hr
        go_wp2
        go_ret2
        rw [HNE.out, HNS.out]
        exact ⟨rfl, bel_trans HB1.out hb2⟩
    · have HNE := hide (show writeDE W H zs kind xs = 6 by rw [writeDE, if_pos hp, if_neg hk])
      have HNS := hide (show writeDS W H zs kind xs = [] by rw [writeDS, HNE.out, if_neg (by decide)])
      have hk : kindOk kind = false := by simpa using hk
      have HVP := hide hvp
      obtain ⟨po, pc, rfl, hpl, hpc⟩ := hvp
      clear hpc hv
      go_enter Tryz.func68, Tryz.ntmps68
      go_wp2_with fail
      refine (plane_any _ _ _ zs _ (HVP.out.alloc _)).mono ?_
      rintro e w1 ⟨rfl, hb1⟩
      rw [hp]
      have HB1 := hide (bel_trans (bel_alloc w _) hb1)
      go_wp2_with (go_at_call 101; refine (isKind_any _ _).mono ?_; rintro e w2 ⟨rfl, rfl⟩; rw [hk])
      go_ret2
      rw [HNE.out, HNS.out]
      exact ⟨rfl, HB1.out⟩
  · have HNE := hide (show writeDE W H zs kind xs = 1 by rw [writeDE, if_neg hp])
    have HNS := hide (show writeDS W H zs kind xs = [] by rw [writeDS, HNE.out, if_neg (by decide)])
    have hp : planeOk W H zs = false := by simpa using hp
    have HVP := hide hvp
    obtain ⟨po, pc, rfl, hpl, hpc⟩ := hvp
    clear hpc hv
    go_enter Tryz.func68, Tryz.ntmps68
    go_wp2_with fail
    refine (plane_any _ _ _ zs _ (HVP.out.alloc _)).mono ?_
    rintro e w1 ⟨rfl, hb1⟩
    rw [hp]
    have HB1 := hide (bel_trans (bel_alloc w _) hb1)
    go_wp2
    go_ret2
    rw [HNE.out, HNS.out]
    exact ⟨rfl, HB1.out⟩
end Go.Proofs.YtanebhbfekcplaaGreat

namespace Go.Proofs.YtanebhbfekcplaaGreat
open Go.RowKit
def readD (s : List UInt8) (W H kind : Int) (xs : List Int) : Option (List Int) :=
  if s.length ≤ (W.toNat * H.toNat * 30 + 7) / 8 then
    (match rdD (bookOf xs) (rowOf s) W.toNat kind (W.toNat * H.toNat) with
     | some (pos, zs) => if fillOk ((rowOf s).drop pos) = true then some zs else none
     | none => none)
  else none
def readDE (s : List UInt8) (W H kind : Int) (xs : List Int) : Int :=
  if sideOk W = true ∧ sideOk H = true then (if kindOk kind = true then (if checkE xs = 0 then (if (readD s W H kind xs).isSome = true then 0 else 1) else checkE xs) else 6) else 3
def readDZ (s : List UInt8) (W H kind : Int) (xs : List Int) : List Int := if readDE s W H kind xs = 0 then (readD s W H kind xs).getD [] else []
def readDW (s : List UInt8) (W H kind : Int) (xs : List Int) : Int := if readDE s W H kind xs = 0 then W else 0
def readDH (s : List UInt8) (W H kind : Int) (xs : List Int) : Int := if readDE s W H kind xs = 0 then H else 0
theorem readD_rn {s : List UInt8} {W H N : Nat} {kind : Int} {xs : List Int} (hN : W * H = N) (h : rdD (bookOf xs) (rowOf s) W kind N = none) : readD s W H kind xs = none := by
  rw [readD, Int.toNat_natCast, Int.toNat_natCast, hN, h]; split <;> rfl
theorem readD_rs {s : List UInt8} {W H N : Nat} {kind : Int} {xs zs : List Int} {pos : Nat} (hN : W * H = N) (hl : s.length ≤ (N * 30 + 7) / 8) (h : rdD (bookOf xs) (rowOf s) W kind N = some (pos, zs)) : readD s W H kind xs = if fillOk ((rowOf s).drop pos) = true then some zs else none := by
  rw [readD, Int.toNat_natCast, Int.toNat_natCast, hN, h, if_pos hl]
theorem nx_front (xs : List Int) (hE : checkE xs = 0) (b : List UInt8) (h : (nextF (bookOf xs) [] b).2.1 = 0) :
    ∃ i : Nat, i < (wordsOf xs).length ∧ (nextF (bookOf xs) [] b).1 = i ∧ (nextF (bookOf xs) [] b).2.2 = ((wordsOf xs).getD i []).length ∧ (wordsOf xs).getD i [] <+: b := by
  obtain ⟨h1, h2, h3⟩ := next_front (wordsOf xs) (words_pf xs hE) (some_word xs hE) b
  have h0 : frE (wordsOf xs) b = 0 := by rw [← h2]; exact h
  obtain ⟨i, hi, hv, hn, hp⟩ := h3 h0
  exact ⟨i, hi, h1.trans hv, hn, hp⟩
theorem nx_cls (xs : List Int) (hE : checkE xs = 0) (b : List UInt8) (h : (nextF (bookOf xs) [] b).2.1 = 0) : ∃ i : Nat, i ≤ 16 ∧ (nextF (bookOf xs) [] b).1 = i := by
  obtain ⟨i, hi, hv, _⟩ := nx_front xs hE b h
  have := (checkE_zero hE).2.1
  rw [wordsOf_length] at hi
  exact ⟨i, by omega, hv⟩
theorem readD_of {W H kind : Int} {xs zs : List Int} (h : writeDE W H zs kind xs = 0) : readD (writeDS W H zs kind xs) W H kind xs = some zs ∧ sideOk W = true ∧ sideOk H = true ∧ kindOk kind = true ∧ checkE xs = 0 ∧ planeOk W H zs = true := by
  have hS := h
  rw [writeDE] at h
  split at h
  · rename_i hp
    split at h
    · rename_i hk
      split at h
      · rename_i hE
        split at h
        · rename_i hall
          obtain ⟨b1, b2, hl, hs⟩ := planeOk_parts hp
          have hn : zs.length = W.toNat * H.toNat := by
            have : (zs.length : Int) = ((W.toNat * H.toNat : Nat) : Int) := by rw [hl, Int.natCast_mul]; congr 1 <;> omega
            omega
          have hbl := dBits_length xs (checkE_zero hE).2.2.1 zs W.toNat kind zs.length
          have hab := dBits_bits xs zs W.toNat kind zs.length
          refine ⟨?_, by simpa [sideOk] using b1, by simpa [sideOk] using b2, hk, hE, hp⟩
          rw [writeDS, if_pos hS, readD, if_pos (by rw [bytesOf_length, ← hn]; omega), row_bytes _ hab]
          have hr := rdD_of (wordsOf xs) (words_pf xs hE) zs hs W.toNat (by omega) kind hall (List.replicate (8 * (((dBits (wordsOf xs) zs W.toNat kind zs.length).length + 7) / 8) - (dBits (wordsOf xs) zs W.toNat kind zs.length).length) 48) zs.length (Nat.le_refl _)
          rw [← hn]
          show (match rdD (bookF (wordsOf xs) (wordsOf xs).length) _ _ _ _ with | some (pos, zs) => _ | none => none) = _
          rw [hr]
          simp only [List.take_length, List.drop_left]
          rw [if_pos]
          rw [fillOk, hasOne_zeros]
          simp
          omega
        · cases h
      · rename_i hE; exact absurd h hE
    · cases h
  · cases h
theorem readDE_zero {s : List UInt8} {W H kind : Int} {xs : List Int} (h : readDE s W H kind xs = 0) : sideOk W = true ∧ sideOk H = true ∧ kindOk kind = true ∧ checkE xs = 0 ∧ ∃ zs, readD s W H kind xs = some zs ∧ readDZ s W H kind xs = zs ∧ readDW s W H kind xs = W ∧ readDH s W H kind xs = H := by
  have h0 := h
  rw [readDE] at h
  split at h
  · rename_i hs
    split at h
    · rename_i hk
      split at h
      · rename_i hE
        split at h
        · rename_i hi
          obtain ⟨zs, hz⟩ := Option.isSome_iff_exists.1 hi
          exact ⟨hs.1, hs.2, hk, hE, zs, hz, by rw [readDZ, if_pos h0, hz]; rfl, by rw [readDW, if_pos h0], by rw [readDH, if_pos h0]⟩
        · cases h
      · rename_i hE; exact absurd h hE
    · cases h
  · cases h
theorem read_of_write {W H kind : Int} {xs zs : List Int} (h : writeDE W H zs kind xs = 0) : readDE (writeDS W H zs kind xs) W H kind xs = 0 ∧ readDZ (writeDS W H zs kind xs) W H kind xs = zs ∧ readDW (writeDS W H zs kind xs) W H kind xs = W ∧ readDH (writeDS W H zs kind xs) W H kind xs = H := by
  obtain ⟨h1, h2, h3, h4, h5, _⟩ := readD_of h
  have h0 : readDE (writeDS W H zs kind xs) W H kind xs = 0 := by rw [readDE, if_pos ⟨h2, h3⟩, if_pos h4, if_pos h5, h1]; rfl
  obtain ⟨_, _, _, _, ys, hy, e1, e2, e3⟩ := readDE_zero h0
  rw [h1] at hy
  cases hy
  exact ⟨h0, e1, e2, e3⟩
end Go.Proofs.YtanebhbfekcplaaGreat

namespace Go.Proofs.YtanebhbfekcplaaGreat
set_option linter.unusedVariables false
open Go.RowKit
structure RawF where
  w : Int
  h : Int
  depth : Int
  kind : Int
  rows : Int
  lens : List Int
  strips : List (List UInt8)
  plan : Plan
abbrev rawA (r : RawF) (lv tv sv cv : Value) : Array Value := #[.int .i64 r.w, .int .i64 r.h, .int .i64 r.depth, .int .i64 r.kind, .int .i64 r.rows, lv, tv,
  .int .i64 r.plan.phase, .int .i64 (r.plan.black 0), .int .i64 (r.plan.black 1), .int .i64 (r.plan.black 2), .int .i64 (r.plan.black 3), .int .i64 r.plan.white, sv, .int .i64 (r.plan.gains 0), .int .i64 (r.plan.gains 1), .int .i64 (r.plan.gains 2),
  .int .i64 (r.plan.matrix 0), .int .i64 (r.plan.matrix 1), .int .i64 (r.plan.matrix 2), .int .i64 (r.plan.matrix 3), .int .i64 (r.plan.matrix 4), .int .i64 (r.plan.matrix 5), .int .i64 (r.plan.matrix 6), .int .i64 (r.plan.matrix 7), .int .i64 (r.plan.matrix 8), cv, .int .i64 r.plan.amount]
def rangeOk (r : RawF) : Bool := sideOk r.w && sideOk r.h && isDepthB r.depth && decide (1 ≤ r.rows ∧ r.rows ≤ r.h)
def kindE (r : RawF) : Int := if r.kind = 0 then (if r.lens.length = 0 then 0 else 1) else checkE r.lens
def headE (r : RawF) : Int := if rangeOk r = true then (if 0 ≤ r.kind ∧ r.kind ≤ 7 then kindE r else 6) else 3
def pErr (r : RawF) : Int := if planE r.plan = 0 then (if spotsB r.w r.h r.plan.spots = true then 0 else 3) else planE r.plan
def cntN (r : RawF) : Nat := ((r.h + r.rows - 1) / r.rows).toNat
def rowN (r : RawF) (i : Nat) : Int := min r.rows (r.h - i * r.rows)
def deepOk (d : Int) (l : List Int) : Bool := allIn 0 (2 ^ d.toNat - 1) l
def stE (r : RawF) (s : List UInt8) (n : Int) : Int :=
  if r.kind = 0 then unpE s r.depth (n * r.w) else (if readDE s r.w n r.kind r.lens = 0 then (if deepOk r.depth (readDZ s r.w n r.kind r.lens) = true then 0 else 1) else readDE s r.w n r.kind r.lens)
def stZ (r : RawF) (s : List UInt8) (n : Int) : List Int := if stE r s n = 0 then (if r.kind = 0 then unpV s r.depth (n * r.w) else readDZ s r.w n r.kind r.lens) else []
def stAt (r : RawF) (i : Nat) : List UInt8 := r.strips.getD i []
def plUp (r : RawF) (k : Nat) : List Int := (List.range k).flatMap fun i => stZ r (stAt r i) (rowN r i)
def stOk (r : RawF) (k : Nat) : Bool := (List.range k).all fun i => decide (stE r (stAt r i) (rowN r i) = 0)
theorem plUp_succ (r : RawF) (k : Nat) : plUp r (k + 1) = plUp r k ++ stZ r (stAt r k) (rowN r k) := by simp [plUp, List.range_succ]
theorem stOk_succ (r : RawF) (k : Nat) : stOk r (k + 1) = (stOk r k && decide (stE r (stAt r k) (rowN r k) = 0)) := by simp [stOk, List.range_succ]
theorem stOk_false {r : RawF} {k n : Nat} (h : k < n) (hk : stE r (stAt r k) (rowN r k) ≠ 0) : stOk r n = false := by
  rw [Bool.eq_false_iff]; intro he
  have := List.all_eq_true.1 he k (List.mem_range.2 h)
  exact hk (by simpa using this)
theorem stOk_get {r : RawF} {k n : Nat} (he : stOk r n = true) (h : k < n) : stE r (stAt r k) (rowN r k) = 0 := by
  have := List.all_eq_true.1 he k (List.mem_range.2 h)
  simpa using this
def planeE (r : RawF) : Int := if headE r = 0 then (if r.strips.length = cntN r then (if pErr r = 0 then (if stOk r r.strips.length = true then 0 else 1) else pErr r) else 2) else headE r
def planeZ (r : RawF) : List Int := if planeE r = 0 then plUp r r.strips.length else []
def planeW (r : RawF) : Int := if planeE r = 0 then r.w else 0
def planeH (r : RawF) : Int := if planeE r = 0 then r.h else 0
structure Head (r : RawF) : Prop where
  w : 1 ≤ r.w ∧ r.w ≤ 64
  h : 1 ≤ r.h ∧ r.h ≤ 64
  depth : 1 ≤ r.depth ∧ r.depth ≤ 16
  rows : 1 ≤ r.rows ∧ r.rows ≤ r.h
  kind : 0 ≤ r.kind ∧ r.kind ≤ 7
  lens : kindE r = 0
theorem headE_zero {r : RawF} (h : headE r = 0) : Head r := by
  unfold headE at h
  split at h
  · rename_i h1
    split at h
    · rename_i h2
      simp only [rangeOk, sideOk, isDepthB, Bool.and_eq_true, decide_eq_true_eq] at h1
      exact ⟨h1.1.1.1, h1.1.1.2, h1.1.2, h1.2, h2, h⟩
    · exact absurd h (by decide)
  · exact absurd h (by decide)
theorem Head.zero {r : RawF} (h : Head r) : headE r = 0 := by
  rw [headE, if_pos, if_pos h.kind, h.lens]
  simp only [rangeOk, sideOk, isDepthB, Bool.and_eq_true, decide_eq_true_eq]
  exact ⟨⟨⟨h.w, h.h⟩, h.depth⟩, h.rows⟩
theorem Head.code {r : RawF} (h : Head r) (hk : r.kind ≠ 0) : checkE r.lens = 0 := by
  have := h.lens
  rwa [kindE, if_neg hk] at this
theorem Head.cnt_pos {r : RawF} (h : Head r) (i : Nat) : i < cntN r ↔ (i : Int) * r.rows < r.h := by
  obtain ⟨h1, h2⟩ := h.rows
  obtain ⟨h3, _⟩ := h.h
  unfold cntN
  have hp : 0 < r.rows := by omega
  have hq : 0 ≤ (r.h + r.rows - 1) / r.rows := Int.ediv_nonneg (by omega) (by omega)
  constructor
  · intro hi
    have hi' : (i : Int) + 1 ≤ (r.h + r.rows - 1) / r.rows := by omega
    have := (Int.le_ediv_iff_mul_le hp).1 hi'
    have e : ((i : Int) + 1) * r.rows = i * r.rows + r.rows := by rw [Int.add_mul, Int.one_mul]
    omega
  · intro hi
    have e : ((i : Int) + 1) * r.rows = i * r.rows + r.rows := by rw [Int.add_mul, Int.one_mul]
    have : (i : Int) + 1 ≤ (r.h + r.rows - 1) / r.rows := (Int.le_ediv_iff_mul_le hp).2 (by omega)
    omega
theorem Head.cnt_int {r : RawF} (h : Head r) : ((cntN r : Nat) : Int) = (r.h + r.rows - 1) / r.rows := by
  obtain ⟨h1, h2⟩ := h.rows
  have hq : 0 ≤ (r.h + r.rows - 1) / r.rows := Int.ediv_nonneg (by omega) (by omega)
  unfold cntN; omega
theorem Head.cnt_le {r : RawF} (h : Head r) : cntN r ≤ 64 := by
  obtain ⟨h1, h2⟩ := h.rows
  obtain ⟨_, h4⟩ := h.h
  by_cases hh : 64 < cntN r
  · have := (h.cnt_pos 64).1 hh
    have : (64 : Int) * 1 ≤ 64 * r.rows := Int.mul_le_mul_of_nonneg_left h1 (by decide)
    omega
  · omega
theorem Head.row {r : RawF} (h : Head r) {i : Nat} (hi : i < cntN r) : 1 ≤ rowN r i ∧ rowN r i ≤ 64 := by
  have := (h.cnt_pos i).1 hi
  obtain ⟨h1, h2⟩ := h.rows
  obtain ⟨_, h4⟩ := h.h
  unfold rowN; omega
theorem mul_bnd {a b : Int} {A B : Int} (h1 : 0 ≤ a ∧ a ≤ A) (h2 : 0 ≤ b ∧ b ≤ B) : 0 ≤ a * b ∧ a * b ≤ A * B :=
  ⟨Int.mul_nonneg h1.1 h2.1, Int.mul_le_mul h1.2 h2.2 h2.1 (by omega)⟩
theorem Head.size {r : RawF} (h : Head r) {i : Nat} (hi : i < cntN r) : 1 ≤ rowN r i * r.w ∧ rowN r i * r.w ≤ 4096 := by
  obtain ⟨h1, h2⟩ := h.row hi
  obtain ⟨h3, h4⟩ := h.w
  have := mul_bnd ⟨by omega, h2⟩ ⟨by omega, h4⟩
  have : 1 * 1 ≤ rowN r i * r.w := Int.mul_le_mul h1 h3 (by decide) (by omega)
  omega
theorem Head.stE {r : RawF} (h : Head r) {i : Nat} (hi : i < cntN r) (s : List UInt8) : stE r s (rowN r i) = 0 ∨ stE r s (rowN r i) = 1 := by
  obtain ⟨h1, h2⟩ := h.row hi
  obtain ⟨h3, h4⟩ := h.size hi
  have hw := h.w
  have hd := h.depth
  unfold Go.Proofs.YtanebhbfekcplaaGreat.stE
  by_cases hk : r.kind = 0
  · rw [if_pos hk, unpE, if_pos ⟨by rw [isDepthB, decide_eq_true_eq]; exact hd, by omega⟩, if_pos h4]
    split
    · exact .inl rfl
    · exact .inr rfl
  · rw [if_neg hk]
    have hE := h.code hk
    have hk' := h.kind
    have e : readDE s r.w (rowN r i) r.kind r.lens = 0 ∨ readDE s r.w (rowN r i) r.kind r.lens = 1 := by
      rw [readDE, if_pos ⟨by rw [sideOk, decide_eq_true_eq]; exact hw, by rw [sideOk, decide_eq_true_eq]; exact ⟨h1, h2⟩⟩, if_pos (by rw [kindOk, decide_eq_true_eq]; omega), if_pos hE]
      split
      · exact .inl rfl
      · exact .inr rfl
    rcases e with e | e
    · rw [if_pos e]
      split
      · exact .inl rfl
      · exact .inr rfl
    · rw [if_neg (by rw [e]; decide)]
      exact .inr e
end Go.Proofs.YtanebhbfekcplaaGreat

namespace Go.Proofs.YtanebhbfekcplaaGreat
open Go.RowKit
theorem run_loadVar_at {P : Program} (w : World) (g o : Nat) (ty : TypeId) (cs : Array Value) (d : TypeDesc) (hc : ∀ j v, cs.toList[j]? = some v → w.cell? ⟨g, o + j, none⟩ = some v)
    (hu : P.underlying ty = some d) (hd : (match d with | .struct _ | .array _ _ => true | _ => false) = true) (hi : (P.info? ty).map (·.size) = some cs.size) :
    (loadVar ty ⟨g, o, none⟩).run P w = .ok (.agg cs) w := by
  have hl : (loadCells ⟨g, o, none⟩ cs.toList.length).run P w = .ok cs.toList.toArray w :=
    run_loadCells_list (P := P) w ⟨g, o, none⟩ cs.toList (fun j v hv => by
      have hadd : (⟨g, o, none⟩ : Addr).add j = ⟨g, o + j, none⟩ := by unfold Addr.add; split <;> simp_all
      rw [hadd]
      exact hc j v hv)
  cases hq : P.info? ty with
  | none => simp [hq] at hi
  | some i =>
    have hs : i.size = cs.size := by simpa [hq] using hi
    have hagg : (isAgg ty).run P w = .ok true w := by
      unfold isAgg
      rw [Sem.run_bind, run_underlying hu w]
      cases d <;> simp_all
    simp only [Array.length_toList, Array.toArray_toList] at hl
    simp [loadVar, Sem.run_bind, hagg, sizeOf, typeInfo, hq, hs, hl]
theorem wpList_load_at {P : Program} {ops : Array Oper} {rest : List Oper} {o : Oper} {a : Act} {w : World} {Q : Exit → Act → World → Prop} (hgd : o.guard = none) (ty : TypeId) (x : Operand) (ho : o.op = .load ty x)
    (g of : Nat) (hx : a.eval x = .pointer (some ⟨g, of, none⟩)) (cs : Array Value) (d : TypeDesc) (hc : ∀ j v, cs.toList[j]? = some v → w.cell? ⟨g, of + j, none⟩ = some v)
    (hu : P.underlying ty = some d) (hd : (match d with | .struct _ | .array _ _ => true | _ => false) = true) (hi : (P.info? ty).map (·.size) = some cs.size)
    (h : wpList P ops Q rest (a.put o.dst (.agg cs)) w) : wpList P ops Q (o :: rest) a w :=
  wpList_plain hgd fun _ hK => by
    unfold Oper.wp execOp
    simp only [ho, hx, Instr.loadAt, Instr.sureAddr, Sem.run_bind, Sem.run_pure, Result.andThen_ok, run_loadVar_at w g of ty cs d hc hu hd hi]
    exact hK _ _ h
theorem exec_row {P : Program} {o : Oper} {a : Act} {w : World} (ty : TypeId) (x : Operand) (ho : o.op = .load ty x) (g : Nat) (hx : a.eval x = .pointer (some ⟨g, 0, none⟩)) (t : TypeId) (cs : Array Value) (fr : Nat × Nat) (d : TypeDesc) (hg : w.heap[g]? = some (.cells cs t fr))
    (hu : P.underlying ty = some d) (hd : (match d with | .struct _ | .array _ _ => true | _ => false) = true) (hi : (P.info? ty).map (·.size) = some cs.size) : (execOp a.eval o).run P w = .ok (.value (.agg cs)) w := by
  unfold execOp
  simp only [ho, hx, Instr.loadAt, Instr.sureAddr, Sem.run_bind, Sem.run_pure, Result.andThen_ok, run_loadVar_row w g t ty cs fr d hg hu hd hi]
end Go.Proofs.YtanebhbfekcplaaGreat

namespace Go.Proofs.YtanebhbfekcplaaGreat
open Go.RowKit
theorem hasOne_index (l : List UInt8) : decide (0 ≤ Lib.indexByte l 49) = hasOne l := by
  have key : ∀ l : List UInt8, -1 ≤ Lib.indexByte l 49 ∧ (0 ≤ Lib.indexByte l 49 ↔ hasOne l = true) := by
    intro l
    induction l with
    | nil => exact ⟨by decide, by decide⟩
    | cons b l ih =>
      obtain ⟨ih1, ih2⟩ := ih
      simp only [Lib.indexByte, hasOne, List.any_cons] at *
      by_cases hb : (b == 49) = true
      · rw [if_pos hb, hb]; simp
      · rw [if_neg hb]
        by_cases hi : (Lib.indexByte l 49 == -1) = true
        · rw [if_pos hi]
          have hi : Lib.indexByte l 49 = -1 := by simpa using hi
          rw [hi] at ih2
          refine ⟨by decide, ?_⟩
          have hb' : (b == 49) = false := by simpa using hb
          rw [hb', Bool.false_or, ← ih2]
        · rw [if_neg hi]
          have hi : Lib.indexByte l 49 ≠ -1 := by simpa using hi
          have hb' : (b == 49) = false := by simpa using hb
          refine ⟨by omega, ?_⟩
          rw [hb', Bool.false_or, ← ih2]
          omega
  rw [Bool.eq_iff_iff, decide_eq_true_eq]
  exact (key l).2
theorem contains_any (l : List UInt8) (w : World) :
    Calls Tryz.prog 99 #[.string (str l), .string ⟨#[49]⟩] w fun e w' => e = .returned (.bool (hasOne l)) ∧ w = w' := by
  refine (Tryz.strings_Contains_one (str l) 49 w).mono ?_
  rintro e w' ⟨rfl, rfl⟩
  rw [str_data, hasOne_index]
  exact ⟨rfl, rfl⟩
theorem unpTake_any (L : List UInt8) (D : Nat) (hD : D ≤ L.length) (_hL : L.length ≤ 140737488355328) (bl : Nat) (w : World) (hbk : w.heap[bl]? = some (.cells #[.string (str L)] 9 (0, 0))) :
    Calls Tryz.prog 97 #[.int .i64 D, .pointer (some ⟨bl, 0, none⟩)] w fun e w' => e = .returned (.string (str (L.take D))) ∧ w.setCell ⟨bl, 0, none⟩ (.string (str (L.drop D))) = w' := by
  have c0 : w.cell? ⟨bl, 0, none⟩ = some (.string (str L)) := by rw [Lib.cell_of_heap hbk]; rfl
  have f0 : w.frozen? ⟨bl, 0, none⟩ = false := Lib.frozen_of_heap hbk 0
  have hs : (str L).size = L.length := str_size L
  have HX1 := hide (show (str L).extract 0 D = str (L.take D) by rw [Lib.extract_eq]; simp [str])
  have HX2 := hide (show (str L).extract D L.length = str (L.drop D) by rw [Lib.extract_eq, str_data, List.take_of_length_le (by rw [List.length_drop]; exact Nat.le_refl _)]; rfl)
  generalize str L = S at *
  clear hbk
  go_enter Tryz.func97, Tryz.ntmps97
  go_wp2
  go_ret
  exact ⟨congrArg (fun x => Ending.returned (.string x)) HX1.out, by rw [← HX2.out]⟩
def unpRow (b : List UInt8) (D n k : Nat) : List Value := (vals b D k).map (Value.int .i64) ++ List.replicate (n - k) (.int .i64 0)
theorem unpRow_start (b : List UInt8) (D n : Nat) : unpRow b D n 0 = (madeCells (Value.int .i64 0).cells (n * 1)).toList := by
  rw [show (Value.int .i64 0).cells = #[Value.int .i64 0] from rfl, toList_madeCells_one]; simp [unpRow, vals]
theorem unpRow_get (b : List UInt8) (D n k : Nat) (h : k < n) : (unpRow b D n k)[k]? = some (.int .i64 0) := by
  rw [unpRow, List.getElem?_append_right (by simp [vals_length]), List.length_map, vals_length, Nat.sub_self, List.getElem?_replicate, if_pos (by omega)]
theorem unpRow_set (b : List UInt8) (D n k : Nat) (h : k < n) : (unpRow b D n k).set k (.int .i64 (valOf ((b.drop (k * D)).take D) : Int)) = unpRow b D n (k + 1) := by
  rw [unpRow, unpRow, vals_succ, List.set_append_right _ _ (by simp [vals_length]), List.length_map, vals_length, Nat.sub_self, show n - k = (n - (k + 1)) + 1 by omega, List.replicate_succ, List.set_cons_zero]
  simp
theorem unpRow_end (b : List UInt8) (D n : Nat) : unpRow b D n n = (vals b D n).map (Value.int .i64) := by simp [unpRow]
set_option maxRecDepth 100000 in
set_option maxHeartbeats 800000 in
theorem unpack_walk (s : ByteArray) (D n : Nat) (hD1 : 1 ≤ D) (hD : D ≤ 16) (hn : n ≤ 4096) (hl : s.size = (n * D + 7) / 8) (w : World) :
    Calls Tryz.prog 53 #[.string s, .int .i64 D, .int .i64 n] w fun e w' => ∃ v, e = .returned (.tuple #[v, .int .i64 (if hasOne ((rowOf s.data.toList).drop (n * D)) = true then 1 else 0)]) ∧
      IsInts w' v (if hasOne ((rowOf s.data.toList).drop (n * D)) = true then [] else vals (rowOf s.data.toList) D n) ∧ Below w.heap.size w w' := by
  obtain ⟨i0, hi, hz0, hz1, hz2⟩ := info_parts Tryz.infoInt
  have hd : isDepthB D = true := by simp [isDepthB]; omega
  have hm : (n * D : Nat) ≤ 65536 := Nat.le_trans (Nat.mul_le_mul hn hD) (by decide)
  obtain ⟨m, hm0⟩ : ∃ m : Nat, m = n * D := ⟨_, rfl⟩
  have hmi : (n : Int) * (D : Int) = (m : Int) := by rw [hm0]; simp
  have HM := hide hm0
  rw [← hm0] at hm hl ⊢
  clear hm0
  have hn0 : decide ((n : Int) < 0) = false := by simp
  have hn1 : decide (4096 < (n : Int)) = false := by simp; omega
  have hne : ((s.size : Int) != ((m : Int) + 7) / 8) = false := by simp; omega
  have hsz : s.size ≤ 17592186044416 := by omega
  have HR := hide (rowOf_allB s.data.toList)
  have HRL := hide (show m ≤ (rowOf s.data.toList).length by rw [rowOf_length, len_data]; omega)
  have HRU := hide (show (rowOf s.data.toList).length ≤ 140737488355328 by rw [rowOf_length, len_data]; omega)
  generalize hR : rowOf s.data.toList = R at *
  have HRR := hide hR; clear hR
  go_enter Tryz.func53, Tryz.ntmps53
  go_wp2_with (first | (go_at_call 94; refine (isDepth_any _ _).mono ?_; rintro e w1 ⟨rfl, rfl⟩) | (go_at_call 95; refine (byteCount_any _ (by omega) (by omega) _).mono ?_; rintro e w1 ⟨rfl, rfl⟩) | (go_at_call 96; refine (bits_any _ hsz _).mono ?_; rintro e w1 ⟨rfl, hb1⟩; rw [HRR.out]) | (at_make; refine wpList_make_full _ rfl _ _ 22 rfl (w1.heap.size + 1) 3 i0 (.int .i64 0) 1 Tryz.underlying22 hi hz0 hz1 .i64 .i64 _ _ n rfl rfl rfl rfl (by rw [hz2]; omega) (by unfold maxLen; omega) (by simp) ?_; intro w2 hown hgr))
  have hb2 : Below w.heap.size w w2 := ((hb1.alloc hb1.size _).grown hgr (by have := hb1.size; simp; omega) (by simp))
  have hk2 : w2.heap[w1.heap.size]? = some (.cells #[.string (str R)] 9 (0, 0)) := by
    rw [hgr.block w1.heap.size (by simp) (by simp)]; exact heap_alloc_new w1 _
  have hs2 : w1.heap.size + 1 ≤ w2.heap.size := by have := hgr.size; simpa using this
  have hs1 := hb1.size
  clear hgr
  go_loopw [35] (fun i wr => ∃ k : Nat, k ≤ n ∧ i = .int .i64 k ∧ wr.heap[w1.heap.size]? = some (.cells #[.string (str (R.drop (k * D)))] 9 (0, 0)) ∧
      wr.ownsRow (w1.heap.size + 1) 3 1 (.slice (some ⟨w1.heap.size + 1, 0, none⟩) n n) n (unpRow R D n k) ∧ Below w.heap.size w wr)
    (fun i _ => n - (intOf i).toNat)
  case atStart => exact ⟨0, Nat.zero_le _, rfl, by simpa using hk2, by rw [unpRow_start]; rw [show (w1.alloc (Obj.cells #[Value.string (str R)] 9)).heap.size = w1.heap.size + 1 by simp] at hown; exact hown, hb2⟩
  case round =>
    obtain ⟨k, hk, rfl, hbk, ho, hb⟩ := hrel
    clear hown hk2 hb2
    by_cases hlt : k < n
    · have hkm : (k + 1) * D ≤ m := by rw [HM.out]; exact Nat.mul_le_mul_right _ hlt
      rw [Nat.succ_mul] at hkm
      have hL1 : D ≤ (R.drop (k * D)).length := by have := HRL.out; rw [List.length_drop]; omega
      have hL2 : (R.drop (k * D)).length ≤ 140737488355328 := by have := HRU.out; rw [List.length_drop]; omega
      have HB := hide (show allB ((R.drop (k * D)).take D) = true from allB_take (allB_drop HR.out _) _)
      have hcl : ((R.drop (k * D)).take D).length = D := by rw [List.length_take]; omega
      have hV : valueN (str ((R.drop (k * D)).take D)) = valOf ((R.drop (k * D)).take D) := if_pos ⟨HB.out, by rw [str_size, hcl]; exact hD⟩
      have hVs : (str ((R.drop (k * D)).take D)).size ≤ maxLen := by rw [str_size, hcl]; unfold maxLen; omega
      have c1 := ho.cellAt k (by omega)
      rw [unpRow_get R D n k hlt] at c1
      have f1 := ho.frozenAt k
      have HS := hide (unpRow_set R D n k hlt)
      have HD := hide (show (R.drop (k * D)).drop D = R.drop ((k + 1) * D) by rw [List.drop_drop, Nat.succ_mul])
      clear hkm hcl
      generalize R.drop (k * D) = L at *
      generalize valOf (L.take D) = V at *
      go_wp2_with (first | (go_at_call 97; refine (unpTake_any L D hL1 hL2 w1.heap.size _ hbk).mono ?_; rintro e w3 ⟨rfl, rfl⟩) | (go_at_call 98; refine (value_any _ _ hVs).mono ?_; rintro e w3 ⟨rfl, rfl⟩))
      have ho3 := ((ownsRow_setCell_below ho (a := ⟨w1.heap.size, 0, none⟩) (Nat.lt_succ_self _) (.string (str (L.drop D)))).stored k (.int .i64 (V : Int))).1
      rw [HS.out] at ho3
      have hk3 : ((wr.setCell ⟨w1.heap.size, 0, none⟩ (.string (str (L.drop D)))).setCell ⟨w1.heap.size + 1, k, none⟩ (.int .i64 (V : Int))).heap[w1.heap.size]? = some (.cells #[.string (str (L.drop D))] 9 (0, 0)) := by
        rw [Below.heap_setCell _ _ _ _ (by simp)]
        exact heap_setCell_same wr w1.heap.size 0 _ _ _ hbk
      rw [HD.out] at hk3 ho3
      go_roundw
      case rel =>
        rw [HD.out]
        exact ⟨k + 1, by omega, by go_num, hk3, ho3, (hb.setCell (p := ⟨w1.heap.size, 0, none⟩) hs1 _).setCell (p := ⟨w1.heap.size + 1, k, none⟩) (Nat.le_succ_of_le hs1) _⟩
      case measure => simp [intOf]; omega
    · obtain rfl : k = n := by omega
      rw [unpRow_end] at ho
      rw [← HM.out] at hbk
      have c0 : wr.cell? ⟨w1.heap.size, 0, none⟩ = some (.string (str (R.drop m))) := by rw [Lib.cell_of_heap hbk]; rfl
      have hints : IsInts wr (.slice (some ⟨w1.heap.size + 1, 0, none⟩) k k) (vals R D k) := IsInts.own (by rw [vals_length]; exact ho) (by rw [vals_length]; omega)
      clear ho hbk
      by_cases hone : hasOne (R.drop m) = true
      · go_wp2_with (go_at_call 99; refine (contains_any _ _).mono ?_; rintro e w3 ⟨rfl, rfl⟩)
        go_ret2
        exact ⟨_, rfl, IsInts.nil _, hb⟩
      · have hone : hasOne (R.drop m) = false := by simpa using hone
        go_wp2_with (go_at_call 99; refine (contains_any _ _).mono ?_; rintro e w3 ⟨rfl, rfl⟩)
        go_ret2
        exact ⟨_, rfl, hints, hb⟩
theorem mul_fits {d n : Int} (h1 : 1 ≤ d) (h2 : d ≤ 16) (h3 : 0 ≤ n) (h4 : n ≤ 4096) : 0 ≤ n * d ∧ n * d ≤ 65536 := by
  obtain ⟨a, rfl⟩ := Int.eq_ofNat_of_zero_le h3
  obtain ⟨b, rfl⟩ := Int.eq_ofNat_of_zero_le (show 0 ≤ d by omega)
  have h : a * b ≤ 4096 * 16 := Nat.mul_le_mul (by omega) (by omega)
  rw [← Int.natCast_mul]
  omega
theorem unp_ways (s : List UInt8) (d n : Int) :
    (unpE s d n = 3 ∧ unpV s d n = [] ∧ (isDepthB d = false ∨ (isDepthB d = true ∧ n < 0))) ∨
    (unpE s d n = 2 ∧ unpV s d n = [] ∧ isDepthB d = true ∧ 4096 < n) ∨
    (unpE s d n = 1 ∧ unpV s d n = [] ∧ isDepthB d = true ∧ 0 ≤ n ∧ n ≤ 4096 ∧ s.length ≠ (n.toNat * d.toNat + 7) / 8) ∨
    (∃ D N : Nat, d = D ∧ n = N ∧ 1 ≤ D ∧ D ≤ 16 ∧ N ≤ 4096 ∧ s.length = (N * D + 7) / 8 ∧
      unpE s d n = (if hasOne ((rowOf s).drop (N * D)) = true then 1 else 0) ∧ unpV s d n = if hasOne ((rowOf s).drop (N * D)) = true then [] else vals (rowOf s) D N) := by
  by_cases hd : isDepthB d = true
  · have hd16 : 1 ≤ d ∧ d ≤ 16 := by simpa [isDepthB] using hd
    by_cases h0 : 0 ≤ n
    · by_cases h1 : n ≤ 4096
      · by_cases hl : s.length = (n.toNat * d.toNat + 7) / 8
        · right; right; right
          refine ⟨d.toNat, n.toNat, by omega, by omega, by omega, by omega, by omega, hl, ?_, ?_⟩
          · rw [unpE, if_pos ⟨hd, h0⟩, if_pos h1]
            by_cases ho : hasOne ((rowOf s).drop (n.toNat * d.toNat)) = true
            · rw [if_pos ho, if_neg (by simp [unpFine, ho])]
            · have ho : hasOne ((rowOf s).drop (n.toNat * d.toNat)) = false := by simpa using ho
              have hf : unpFine s d n = true := by simp only [unpFine, decide_eq_true_eq]; exact ⟨hd, h0, h1, hl, ho⟩
              rw [if_pos hf, if_neg (by simp [ho])]
          · rw [unpV]
            by_cases ho : hasOne ((rowOf s).drop (n.toNat * d.toNat)) = true
            · rw [if_pos ho, if_neg (by simp [unpFine, ho])]
            · have ho : hasOne ((rowOf s).drop (n.toNat * d.toNat)) = false := by simpa using ho
              have hf : unpFine s d n = true := by simp only [unpFine, decide_eq_true_eq]; exact ⟨hd, h0, h1, hl, ho⟩
              rw [if_pos hf, if_neg (by simp [ho])]
        · have hf : ¬ unpFine s d n = true := by simp only [unpFine, decide_eq_true_eq]; exact fun h => hl h.2.2.2.1
          exact .inr (.inr (.inl ⟨by rw [unpE, if_pos ⟨hd, h0⟩, if_pos h1, if_neg hf], by rw [unpV, if_neg hf], hd, h0, h1, hl⟩))
      · have hf : ¬ unpFine s d n = true := by simp only [unpFine, decide_eq_true_eq]; exact fun h => h1 h.2.2.1
        exact .inr (.inl ⟨by rw [unpE, if_pos ⟨hd, h0⟩, if_neg h1], by rw [unpV, if_neg hf], hd, by omega⟩)
    · have hf : ¬ unpFine s d n = true := by simp only [unpFine, decide_eq_true_eq]; exact fun h => h0 h.2.1
      exact .inl ⟨by rw [unpE, if_neg (fun h => h0 h.2)], by rw [unpV, if_neg hf], .inr ⟨hd, by omega⟩⟩
  · have hf : ¬ unpFine s d n = true := by simp only [unpFine, decide_eq_true_eq]; exact fun h => hd h.1
    exact .inl ⟨by rw [unpE, if_neg (fun h => hd h.1)], by rw [unpV, if_neg hf], .inl (by simpa using hd)⟩
set_option maxRecDepth 100000 in
set_option maxHeartbeats 400000 in
theorem unpackC_any (s : ByteArray) (d n : Int) (w : World) :
    Calls Tryz.prog 53 #[.string s, .int .i64 d, .int .i64 n] w fun e w' => ∃ v, e = .returned (.tuple #[v, .int .i64 (unpE s.data.toList d n)]) ∧ IsInts w' v (unpV s.data.toList d n) ∧ Below w.heap.size w w' := by
  rcases unp_ways s.data.toList d n with ⟨hE, hV, h | ⟨h1, h2⟩⟩ | ⟨hE, hV, h1, h2⟩ | ⟨hE, hV, h1, h2, h3, h4⟩ | ⟨D, N, rfl, rfl, h1, h2, h3, h4, hE, hV⟩
  · have HE := hide hE; have HV := hide hV; clear hE hV
    go_enter Tryz.func53, Tryz.ntmps53
    go_wp2_with (go_at_call 94; refine (isDepth_any _ _).mono ?_; rintro e w1 ⟨rfl, rfl⟩)
    go_ret2
    rw [HE.out, HV.out]
    exact ⟨_, rfl, IsInts.nil _, Below.refl _ _⟩
  · have HE := hide hE; have HV := hide hV; clear hE hV
    go_enter Tryz.func53, Tryz.ntmps53
    go_wp2_with (go_at_call 94; refine (isDepth_any _ _).mono ?_; rintro e w1 ⟨rfl, rfl⟩)
    go_ret2
    rw [HE.out, HV.out]
    exact ⟨_, rfl, IsInts.nil _, Below.refl _ _⟩
  · have HE := hide hE; have HV := hide hV; clear hE hV
    go_enter Tryz.func53, Tryz.ntmps53
    go_wp2_with (go_at_call 94; refine (isDepth_any _ _).mono ?_; rintro e w1 ⟨rfl, rfl⟩)
    go_ret2
    rw [HE.out, HV.out]
    exact ⟨_, rfl, IsInts.nil _, Below.refl _ _⟩
  · have HE := hide hE; have HV := hide hV; clear hE hV
    have hd16 : 1 ≤ d ∧ d ≤ 16 := by simpa [isDepthB] using h1
    obtain ⟨hm0, hm1⟩ := mul_fits hd16.1 hd16.2 h2 h3
    have hmm : n * d = ((n.toNat * d.toNat : Nat) : Int) := by
      rw [Int.natCast_mul, Int.toNat_of_nonneg h2, Int.toNat_of_nonneg (by omega)]
    have hne : ((s.size : Int) != (n * d + 7) / 8) = true := by
      rw [len_data] at h4
      rw [hmm]
      generalize n.toNat * d.toNat = z at *
      simp
      omega
    clear hmm h4 hd16
    go_enter Tryz.func53, Tryz.ntmps53
    go_wp2_with (first | (go_at_call 94; refine (isDepth_any _ _).mono ?_; rintro e w1 ⟨rfl, rfl⟩) | (go_at_call 95; refine (byteCount_any _ (by omega) (by omega) _).mono ?_; rintro e w1 ⟨rfl, rfl⟩))
    go_ret2
    rw [HE.out, HV.out]
    exact ⟨_, rfl, IsInts.nil _, Below.refl _ _⟩
  · rw [hE, hV]
    exact unpack_walk s D N h1 h2 h3 (by rw [← len_data]; exact h4) w
end Go.Proofs.YtanebhbfekcplaaGreat

namespace Go.Proofs.YtanebhbfekcplaaGreat
open Go.RowKit
theorem val_next (l : List UInt8) (k : Nat) (h : k < l.length) (hb : allB l = true) (hk : k ≤ 15) :
    valOf (l.take k) < 65536 ∧ 48 ≤ l[k].toNat ∧ l[k].toNat ≤ 49 ∧ valOf (l.take (k + 1)) = 2 * valOf (l.take k) + (l[k].toNat - 48) := by
  have h1 := valOf_lt _ (allB_take hb k)
  have hl : (l.take k).length ≤ 16 := by simp; omega
  have h2 := pow16 hl
  have h3 := allB_get hb k h
  rw [List.take_succ_eq_append_getElem h, valOf_snoc]
  omega
theorem nxD_err {f : List UInt8 → Option (Int × Bool)} {b : List UInt8} (h : (nextF f [] b).2.1 ≠ 0) : nxD f b = none := by rw [nxD, if_neg h]
theorem nxD_top {f : List UInt8 → Option (Int × Bool)} {b : List UInt8} (h : (nextF f [] b).2.1 = 0) (h1 : (nextF f [] b).1 = 16) : nxD f b = some (32768, (nextF f [] b).2.2) := by rw [nxD, if_pos h, if_pos h1]
theorem nxD_short {f : List UInt8 → Option (Int × Bool)} {b : List UInt8} (h : (nextF f [] b).2.1 = 0) (i : Nat) (h1 : (nextF f [] b).1 = i) (hi : i ≤ 15) (hl : b.length < (nextF f [] b).2.2 + i) : nxD f b = none := by
  rw [nxD, if_pos h, if_neg (by omega), h1, Int.toNat_natCast, if_pos hl]
theorem nxD_ok {f : List UInt8 → Option (Int × Bool)} {b : List UInt8} (h : (nextF f [] b).2.1 = 0) (i : Nat) (h1 : (nextF f [] b).1 = i) (hi : i ≤ 15) (hl : (nextF f [] b).2.2 + i ≤ b.length) : nxD f b = some (tailV i (valOf ((b.drop (nextF f [] b).2.2).take i)), (nextF f [] b).2.2 + i) := by
  rw [nxD, if_pos h, if_neg (by omega), h1, Int.toNat_natCast, if_neg (by omega)]
set_option maxRecDepth 100000 in
set_option maxHeartbeats 400000 in
theorem nextD_any (ca : Option Addr) (cl cc bm n : Nat) (f : List UInt8 → Option (Int × Bool)) (ba bb : Nat) (bits : List UInt8) (pos : Nat) (w : World) (hm : BookMap w bm n f) (hfl : ∀ key, f key ≠ none → key.length ≤ 100) (ht : TakerAt w ba bb bits pos) (hbits : allB bits = true)
    (hcls : (nextF f [] (bits.drop pos)).2.1 = 0 → ∃ i : Nat, i ≤ 16 ∧ (nextF f [] (bits.drop pos)).1 = i) :
    Calls Tryz.prog 106 #[.agg #[.slice ca cl cc, .map (some bm)], .func (.func 136) #[] #[.pointer (some ⟨ba, 0, none⟩), .pointer (some ⟨bb, 0, none⟩)]] w fun e w' =>
      (∀ d m, nxD f (bits.drop pos) = some (d, m) → e = .returned (.tuple #[.int .i64 d, .bool true]) ∧ TakerAt w' ba bb bits (pos + m)) ∧
      (nxD f (bits.drop pos) = none → e = .returned (.tuple #[.int .i64 0, .bool false])) ∧ w.grownBy w' (some ba) := by
  have HBK := hide (hm.below (bel_alloc w (.cells #[.slice ca cl cc, .map (some bm)] 131)) (Nat.le_refl _))
  have HT0 := hide (ht.below (bel_alloc w (.cells #[.slice ca cl cc, .map (some bm)] 131)))
  have hbl := ht.2.2.2
  have hlt := ht.lt
  have HFL := hide hfl
  have hle := nextF_le f [] (bits.drop pos)
  rw [List.length_drop] at hle
  have hpl := ht.2.2.1
  have HX1 := hide (fun h => nxD_err (f := f) (b := bits.drop pos) h)
  have HX2 := hide (fun h => nxD_top (f := f) (b := bits.drop pos) h)
  have HX3 := hide (fun h => nxD_short (f := f) (b := bits.drop pos) h)
  have HX4 := hide (fun h => nxD_ok (f := f) (b := bits.drop pos) h)
  have HC := hide hcls
  clear hcls hm ht hfl
  go_enter Tryz.func106, Tryz.ntmps106
  go_wp2_with fail
  refine (next_any _ ca cl cc rfl bm n f ba bb bits pos _ HBK.out HFL.out HT0.out).mono ?_
  rintro e w1 ⟨rfl, ht1, hg1⟩
  have HG1 := hide ((World.grownBy_alloc w (.cells #[.slice ca cl cc, .map (some bm)] 131) (some ba)).trans hg1)
  have HT1 := hide ht1
  clear ht1 hg1 HT0 HBK HFL
  generalize (nextF f [] (bits.drop pos)).2.2 = m0 at *
  generalize (nextF f [] (bits.drop pos)).2.1 = er at *
  generalize (nextF f [] (bits.drop pos)).1 = cl0 at *
  by_cases her : er = 0
  · subst her
    obtain ⟨i, hi16, rfl⟩ := HC.out rfl
    clear HC
    by_cases h16 : i = 16
    · subst h16
      have HNX := hide (HX2.out rfl rfl)
      go_wp2
      go_ret2
      refine ⟨fun d m h => ?_, fun h => ?_, HG1.out⟩
      · rw [HNX.out] at h; cases h; exact ⟨rfl, HT1.out⟩
      · rw [HNX.out] at h; cases h
    · have hi15 : i ≤ 15 := by omega
      have HY3 := hide (HX3.out rfl i rfl hi15)
      have HY4 := hide (HX4.out rfl i rfl hi15)
      clear HX1 HX2 HX3 HX4
      have hib : ((i : Int) == 16) = false := by simp; omega
      have hdl : (bits.drop (pos + m0)).length = bits.length - (pos + m0) := List.length_drop
      have HDD := hide (show (bits.drop pos).drop m0 = bits.drop (pos + m0) from List.drop_drop)
      have HAB := hide (allB_drop hbits (pos + m0))
      have HLD := hide (show (bits.drop pos).length = bits.length - pos from List.length_drop)
      have HGET := hide (show ∀ k (h : pos + m0 + k < bits.length) (h2 : k < (bits.drop (pos + m0)).length), bits[pos + m0 + k] = (bits.drop (pos + m0))[k] from fun k h h2 => by rw [List.getElem_drop])
      rw [HDD.out] at HY4
      rw [HLD.out] at HY3 HY4
      generalize bits.drop (pos + m0) = L at *
      clear HDD h16
      go_wp2
      go_loopw [8, 22] (fun v j wr => ∃ k : Nat, k ≤ i ∧ k ≤ L.length ∧ j = .int .i64 k ∧ v = .int .i64 (valOf (L.take k) : Nat) ∧ Hid (TakerAt wr ba bb bits (pos + m0 + k)) ∧ Hid (w.grownBy wr (some ba)))
        (fun _ j _ => i - (intOf j).toNat)
      case atStart => exact ⟨0, Nat.zero_le _, Nat.zero_le _, rfl, rfl, HT1, HG1⟩
      case round =>
        obtain ⟨k, hk, hkL, rfl, rfl, HTK, HGK⟩ := hrel
        by_cases hki : k < i
        · have hd : decide ((k : Int) < (i : Int)) = true := by simp; omega
          by_cases hkl : k < L.length
          · obtain ⟨v1, v2, v3, v4⟩ := val_next L k hkl HAB.out (by omega)
            have HV4 := hide v4
            have HGT := hide (HGET.out k (by omega) hkl)
            clear v4
            go_wp2_with fail
            refine (take_one ba bb bits (pos + m0 + k) _ HTK.out (by omega)).mono ?_
            rintro e w3 ⟨rfl, hw3⟩
            have HT3 := hide (show TakerAt w3 ba bb bits (pos + m0 + (k + 1)) by rw [← hw3]; exact HTK.out.moved (by omega))
            have HG3 := hide (show w.grownBy w3 (some ba) by
              rw [← hw3]
              refine ⟨HGK.out.os, HGK.out.tape, HGK.out.output, by simpa [World.setCell] using HGK.out.size, fun q hq hne => ?_⟩
              rw [Below.heap_setCell _ _ _ _ (fun e => hne (by rw [e]))]
              exact HGK.out.block q hq hne)
            rw [HGT.out]
            clear hw3 HTK HGK HGT
            generalize L[k].toNat = c at *
            generalize valOf (L.take k) = V at *
            go_wp2
            go_roundw
            case rel => exact ⟨k + 1, by omega, by omega, by go_num, by rw [HV4.out]; go_num, HT3, HG3⟩
            case measure => simp [intOf]; omega
          · obtain rfl : k = L.length := by omega
            have HNX := hide (HY3.out (by omega))
            have HTE := hide (show TakerAt wr ba bb bits bits.length by have h := HTK.out; rw [show pos + m0 + L.length = bits.length by omega] at h; exact h)
            go_wp2_with (go_at_call 136; refine (take_end ba bb bits _ HTE.out).mono ?_; rintro e w3 ⟨rfl, rfl⟩)
            go_ret2
            refine ⟨fun d m h => ?_, fun _ => rfl, HGK.out⟩
            rw [HNX.out] at h; cases h
        · obtain rfl : k = i := by omega
          have hd : decide ((k : Int) < (k : Int)) = false := by simp
          have HNX := hide (HY4.out (by omega))
          have hv := valOf_lt _ (allB_take HAB.out k)
          rw [List.length_take, Nat.min_eq_left hkL] at hv
          have HTV := hide (show tailV k (valOf (L.take k)) = if valOf (L.take k) < 2 ^ k / 2 then ((valOf (L.take k) : Nat) : Int) - ((2 ^ k : Nat) - 1) else ((valOf (L.take k) : Nat) : Int) by rw [tailV, pow_cast])
          have hw := wrap_pow (n := k) (by omega)
          have hp := pow16 (n := k) (by omega)
          generalize valOf (L.take k) = V at *
          generalize tailV k V = TV at *
          obtain ⟨p, hpe⟩ : ∃ p : Nat, 2 ^ k = p := ⟨_, rfl⟩
          rw [hpe] at hw hp hv HTV
          clear hpe
          clear HY3 HY4 HGET HAB hdl hle hpl hbl hbits
          by_cases hlow : V < p / 2
          · have HTV := hide (HTV.out.trans (if_pos hlow))
            go_wp2
            go_ret2
            refine ⟨fun d m h => ?_, fun h => ?_, HGK.out⟩
            · rw [HNX.out] at h
              cases h
              refine ⟨ret_tup2 (congrArg (Value.int IntKind.i64) ?_) rfl, by rw [← Nat.add_assoc]; exact HTK.out⟩
              rw [HTV.out]
            · rw [HNX.out] at h; cases h
          · have HTV := hide (HTV.out.trans (if_neg hlow))
            go_wp2
            go_ret2
            refine ⟨fun d m h => ?_, fun h => ?_, HGK.out⟩
            · rw [HNX.out] at h
              cases h
              refine ⟨ret_tup2 (congrArg (Value.int IntKind.i64) ?_) rfl, by rw [← Nat.add_assoc]; exact HTK.out⟩
              rw [HTV.out]
            · rw [HNX.out] at h; cases h
  · have HNX := hide (HX1.out her)
    have hne : (er != 0) = true := by simpa using her
    clear her HC
    go_wp2
    go_ret2
    refine ⟨fun d m h => ?_, fun _ => rfl, HG1.out⟩
    rw [HNX.out] at h; cases h
theorem mostBytes_any (n : Int) (h0 : 0 ≤ n) (h1 : n ≤ 4096) (w : World) :
    Calls Tryz.prog 103 #[.int .i64 n] w fun e w' => e = .returned (.int .i64 ((n * 30 + 7) / 8)) ∧ w = w' := by
  go_enter Tryz.func103, Tryz.ntmps103
  go_wp2
  go_ret
  exact ⟨rfl, rfl⟩
set_option maxRecDepth 100000 in
theorem isFill_any (l : List UInt8) (hl : l.length ≤ 281474976710656) (w : World) :
    Calls Tryz.prog 108 #[.string (str l)] w fun e w' => e = .returned (.bool (fillOk l)) ∧ w = w' := by
  have hs : (str l).size = l.length := str_size l
  by_cases h8 : l.length < 8
  · have hd : decide ((l.length : Int) < 8) = true := by simp; omega
    have HE := hide (show (!hasOne l) = fillOk l by rw [fillOk]; simp [h8])
    go_enter Tryz.func108, Tryz.ntmps108
    go_wp2_with (go_at_call 99; refine (contains_any l _).mono ?_; rintro e w1 ⟨rfl, rfl⟩)
    go_ret
    exact ⟨ret_bool HE.out, rfl⟩
  · have hd : decide ((l.length : Int) < 8) = false := by simp; omega
    have HE := hide (show false = fillOk l by rw [fillOk]; simp [h8])
    go_enter Tryz.func108, Tryz.ntmps108
    go_wp2
    go_ret
    exact ⟨ret_bool HE.out, rfl⟩
end Go.Proofs.YtanebhbfekcplaaGreat

namespace Go.Proofs.YtanebhbfekcplaaGreat
open Go.RowKit
def zRow (zs : List Int) (n : Nat) : List Value := zs.map (Value.int .i64) ++ List.replicate (n - zs.length) (.int .i64 0)
theorem zRow_start (n : Nat) : zRow [] n = (madeCells (Value.int .i64 0).cells (n * 1)).toList := by
  rw [show (Value.int .i64 0).cells = #[Value.int .i64 0] from rfl, toList_madeCells_one]; simp [zRow]
theorem zRow_get (zs : List Int) (n : Nat) (h : zs.length < n) : (zRow zs n)[zs.length]? = some (.int .i64 0) := by
  rw [zRow, List.getElem?_append_right (by simp), List.length_map, Nat.sub_self, List.getElem?_replicate, if_pos (by omega)]
theorem zRow_getk (zs : List Int) (n k : Nat) (hk : zs.length = k) (h : k < n) : (zRow zs n)[k]? = some (.int .i64 0) := by subst hk; exact zRow_get zs n h
theorem zRow_setk (zs : List Int) (n k : Nat) (x : Int) (hk : zs.length = k) (h : k < n) : (zRow zs n).set k (.int .i64 x) = zRow (zs ++ [x]) n := by
  subst hk
  rw [zRow, zRow, List.set_append_right _ _ (by simp), List.length_map, Nat.sub_self, show n - zs.length = (n - (zs.length + 1)) + 1 by omega, List.replicate_succ, List.set_cons_zero]
  simp
theorem zRow_end (zs : List Int) : zRow zs zs.length = zs.map (Value.int .i64) := by simp [zRow]
theorem zRow_ints (zs : List Int) (n : Nat) : zRow zs n = (zs ++ List.replicate (n - zs.length) 0).map (Value.int .i64) := by simp [zRow]
theorem pad_ok (zs : List Int) (m : Nat) (h : sampsOk zs = true) : sampsOk (zs ++ List.replicate m 0) = true := by
  rw [sampsOk, List.all_append, Bool.and_eq_true]
  refine ⟨h, ?_⟩
  rw [List.all_eq_true]
  intro x hx
  rw [List.eq_of_mem_replicate hx]; rfl
set_option maxRecDepth 100000 in
set_option maxHeartbeats 1600000 in
theorem readD_walk (s : ByteArray) (W H : Nat) (kind : Int) (v : Value) (xs : List Int) (w : World) (hv : IsInts w v xs) (hW : sideOk W = true) (hH : sideOk H = true) (hk : kindOk kind = true) (hE : checkE xs = 0) (hlen : s.size ≤ (W * H * 30 + 7) / 8) :
    Calls Tryz.prog 54 #[.string s, .int .i64 W, .int .i64 H, .int .i64 kind, v] w fun e w' => ∃ r, e = .returned (.tuple #[.agg #[.int .i64 (readDW s.data.toList W H kind xs), .int .i64 (readDH s.data.toList W H kind xs), r], .int .i64 (readDE s.data.toList W H kind xs)]) ∧ IsInts w' r (readDZ s.data.toList W H kind xs) ∧ Below w.heap.size w w' := by
  obtain ⟨hl1, hl2, hok, _, _⟩ := checkE_zero hE
  obtain ⟨i0, hi, hz0, hz1, hz2⟩ := info_parts Tryz.infoInt
  have b1 : 1 ≤ (W : Int) ∧ (W : Int) ≤ 64 := by simpa [sideOk] using hW
  have b2 : 1 ≤ (H : Int) ∧ (H : Int) ≤ 64 := by simpa [sideOk] using hH
  have b3 := side_mul b1 b2
  obtain ⟨b1, b1'⟩ := b1
  obtain ⟨b2, b2'⟩ := b2
  obtain ⟨N, hN⟩ : ∃ N, W * H = N := ⟨_, rfl⟩
  have hNi : (W : Int) * (H : Int) = (N : Int) := by rw [← hN]; simp
  rw [hNi] at b3
  rw [hN] at hlen
  have HRN := hide (readD_rn (s := s.data.toList) (kind := kind) (xs := xs) hN)
  have HRS := hide (fun pos zs => readD_rs (s := s.data.toList) (kind := kind) (xs := xs) (zs := zs) (pos := pos) hN (by rw [len_data]; exact hlen))
  have HRE := hide (show readDE s.data.toList W H kind xs = if (readD s.data.toList W H kind xs).isSome = true then 0 else 1 by rw [readDE, if_pos ⟨hW, hH⟩, if_pos hk, if_pos hE])
  have HN := hide hN
  clear hN
  have hle2 : s.size ≤ 15361 := by omega
  have HV := hide hv; clear hv
  have HE := hide hE
  have HOK := hide hok
  have hmb : decide (((N : Int) * 30 + 7) / 8 < (s.size : Int)) = false := by simp; omega
  clear hok
  go_enter Tryz.func54, Tryz.ntmps54
  go_wp2_with fail
  have R0 := heap_alloc_new w (Obj.cells #[.int .i64 0, .int .i64 0, .slice none 0 0] 34)
  have HB0 := hide (bel_alloc w (Obj.cells #[.int .i64 0, .int .i64 0, .slice none 0 0] 34))
  have hlt0 : w.heap.size < (w.alloc (Obj.cells #[.int .i64 0, .int .i64 0, .slice none 0 0] 34)).heap.size := by simp
  generalize w.alloc (Obj.cells #[.int .i64 0, .int .i64 0, .slice none 0 0] 34) = w0 at *
  refine (side_any _ _).mono ?_
  rintro e w1 ⟨rfl, hb1⟩
  rw [hW]
  go_wp2_with fail
  refine (side_any _ _).mono ?_
  rintro e w2 ⟨rfl, hb2⟩
  rw [hH]
  go_wp2_with (go_at_call 101; refine (isKind_any _ _).mono ?_; rintro e wx ⟨rfl, rfl⟩; rw [hk])
  have HB2 := hide (bel_trans hb1 hb2)
  refine (words_walk _ _ _ ((HV.out.below HB0.out (Nat.le_refl _)).below HB2.out (Nat.le_refl _)) HE.out).mono ?_
  rintro e w3 ⟨r, rfl, hr, hb3⟩
  have HR := hide hr
  have HB3 := hide (bel_trans HB2.out hb3)
  clear hr hb1 hb2 hb3 HB2
  go_wp2_with (go_at_call 103; refine (mostBytes_any _ (by omega) (by omega) _).mono ?_; rintro e wx ⟨rfl, rfl⟩)
  refine (new_any _ _ _ HR.out (by rw [wordsOf_length]; exact hl1) (by rw [wordsOf_length]; exact hl2) (words15 xs HOK.out)).mono ?_
  rintro e w4 ⟨cv, bm, nn, rfl, hcv, hbm, hb4⟩
  have HBM := hide hbm
  obtain ⟨co, cc, rfl, hx1, hx2⟩ := hcv
  have HB4 := hide (bel_trans HB3.out hb4)
  clear hbm hx1 hx2 hb4 HB3 HR
  go_wp2_with fail
  have hKb := bel_alloc w4 (Obj.cells #[.slice co (wordsOf xs).length cc, .map (some bm)] 131)
  have hK := heap_alloc_new w4 (Obj.cells #[.slice co (wordsOf xs).length cc, .map (some bm)] 131)
  have hKs : (w4.alloc (Obj.cells #[.slice co (wordsOf xs).length cc, .map (some bm)] 131)).heap.size = w4.heap.size + 1 := by simp
  generalize w4.alloc (Obj.cells #[.slice co (wordsOf xs).length cc, .map (some bm)] 131) = V0 at *
  refine (bits_any s (by omega) _).mono ?_
  rintro e w5 ⟨rfl, hb5⟩
  have hbl : (rowOf s.data.toList).length ≤ 122888 := by rw [rowOf_length, len_data]; omega
  have hbm : allB (rowOf s.data.toList) = true := rowOf_allB _
  have HDL := hide (rfl : s.data.toList = s.data.toList)
  have hs5 := hb5.size
  have h45 : w4.heap.size < w5.heap.size := by omega
  have h05 : w.heap.size < w5.heap.size := by have := HB4.out.size; omega
  have HB5 := hide (bel_trans (bel_trans HB4.out hKb) hb5)
  have HBK := hide ((HBM.out.below hKb (Nat.le_refl _)).below hb5 (Nat.le_refl _))
  have hK5 : w5.heap[w4.heap.size]? = some (.cells #[.slice co (wordsOf xs).length cc, .map (some bm)] 131 (0, 0)) := by rw [hb5.block _ (by omega)]; exact hK
  have HK0 := hide (show w5.cell? ⟨w4.heap.size, 0, none⟩ = some (.slice co (wordsOf xs).length cc) by rw [Lib.cell_of_heap hK5]; rfl)
  have HK1 := hide (show w5.cell? ⟨w4.heap.size, 1, none⟩ = some (.map (some bm)) by rw [Lib.cell_of_heap hK5]; rfl)
  have HR5 := hide (show w5.heap[w.heap.size]? = some (.cells #[.int .i64 0, .int .i64 0, .slice none 0 0] 34 (0, 0)) by rw [HB5.out.block _ hlt0]; exact R0)
  have HBK : Hid (BookMap w5 bm nn (bookOf xs)) := HBK
  have HFL := hide (bookOf_short xs HOK.out)
  have HCL := hide (nx_cls xs HE.out)
  have HDR := hide (show ∀ p d n, nxD (bookOf xs) ((rowOf s.data.toList).drop p) = some (d, n) → -32768 < d ∧ d ≤ 32768 from fun p d n h => by
    have := nxD_some (wordsOf xs) (by rw [wordsOf_length]; exact hl2) _ (allB_drop (rowOf_allB s.data.toList) p) (nx_front xs HE.out _) d n h
    exact ⟨this.2.2.1, this.2.2.2.1⟩)
  clear hKb hK hKs hb5 hK5 HBM R0 HB4 hs5
  generalize hbf : bookOf xs = f at *
  have HBF := hide hbf; clear hbf
  generalize hbb : rowOf s.data.toList = b at *
  have HBB := hide hbb; clear hbb
  go_wp2_with fail
  refine (taker_any b (by omega) w5).mono ?_
  rintro e w6 ⟨ba, bb, rfl, ht6, hwa, hwb, hb6⟩
  have HT6 := hide ht6
  have hla := HT6.out.lt
  have h56 := hb6.size
  clear ht6
  go_wp2_with (at_make; refine wpList_make_full _ rfl _ _ 22 rfl w6.heap.size 3 i0 (.int .i64 0) 1 Tryz.underlying22 hi hz0 hz1 .i64 .i64 _ _ N rfl rfl rfl rfl (by rw [hz2]; omega) (by unfold maxLen; omega) (Nat.le_refl _) ?_; intro w7 hown hgr)
  have h67 : w6.heap.size < w7.heap.size := (hown.lt w6.heap.size rfl).2
  have HI := hide (show TakerAt (w7.alloc (Obj.cells #[.int .i64 W, .int .i64 H, .slice (some ⟨w6.heap.size, 0, none⟩) N N] 34)) ba bb b 0 ∧ Below w5.heap.size w5 (w7.alloc (Obj.cells #[.int .i64 W, .int .i64 H, .slice (some ⟨w6.heap.size, 0, none⟩) N N] 34)) from
    ⟨TakerAt.below (⟨by rw [hgr.block ba hla.1 (by simp)]; exact HT6.out.1, by rw [hgr.block bb hla.2 (by simp)]; exact HT6.out.2.1, HT6.out.2.2⟩ : TakerAt w7 ba bb b 0) (bel_alloc _ _), (hb6.grown hgr hb6.size (by simp)).alloc (by omega) _⟩)
  have HP0 := hide (heap_alloc_new w7 (Obj.cells #[.int .i64 W, .int .i64 H, .slice (some ⟨w6.heap.size, 0, none⟩) N N] 34))
  have hown2 := hown.alloc (Obj.cells #[.int .i64 W, .int .i64 H, .slice (some ⟨w6.heap.size, 0, none⟩) N N] 34)
  rw [← zRow_start] at hown2
  have hPs : w7.heap.size < (w7.alloc (Obj.cells #[.int .i64 W, .int .i64 H, .slice (some ⟨w6.heap.size, 0, none⟩) N N] 34)).heap.size := by simp
  generalize w7.alloc (Obj.cells #[.int .i64 W, .int .i64 H, .slice (some ⟨w6.heap.size, 0, none⟩) N N] 34) = W8 at *
  clear hown hgr HT6
  generalize w7.heap.size = PB at *
  go_loopw [69] (fun i wr => ∃ (k pos : Nat) (zs : List Int), k ≤ N ∧ i = .int .i64 k ∧ zs.length = k ∧ Hid (rdD f b W kind k = some (pos, zs)) ∧ Hid (TakerAt wr ba bb b pos) ∧ wr.ownsRow w6.heap.size 3 1 (.slice (some ⟨w6.heap.size, 0, none⟩) N N) N (zRow zs N) ∧ Hid (wr.heap[PB]? = some (.cells #[.int .i64 W, .int .i64 H, .slice (some ⟨w6.heap.size, 0, none⟩) N N] 34 (0, 0))) ∧ Hid (Below w5.heap.size w5 wr) ∧ PB < wr.heap.size)
    (fun i _ => N - (intOf i).toNat)
  case atStart => exact ⟨0, 0, [], Nat.zero_le _, rfl, rfl, rfl, HI.out.1, hown2, HP0, HI.out.2, hPs⟩
  case round =>
    obtain ⟨k, pos, zs, hk, rfl, hzl, HRK, HTK, ho, HPB, HBL, hPl⟩ := hrel
    clear hown2 HI HP0 hPs
    have hsz := HBL.out.size
    by_cases hlt : k < N
    · have hd : decide ((k : Int) < (N : Int)) = true := by simp; omega
      have c2 := (HBL.out.cell (p := ⟨w4.heap.size, 0, none⟩) h45).trans HK0.out
      have c3 := (HBL.out.cell (p := ⟨w4.heap.size, 1, none⟩) h45).trans HK1.out
      have HBW := hide (HBK.out.below HBL.out (Nat.le_refl _))
      go_wp2_with fail
      refine (nextD_any co _ cc bm nn f ba bb b pos _ HBW.out HFL.out HTK.out hbm (HCL.out _)).mono ?_
      rintro e w9 ⟨hsome, hnone, hg9⟩
      have HB9 := hide (HBL.out.grown hg9 hsz (fun j hj => by cases hj; exact hwa))
      cases hnx : nxD f (b.drop pos) with
      | none =>
        obtain rfl := hnone hnx
        have HRDN := hide (show readD s.data.toList W H kind xs = none from HRN.out (by
          refine rdD_none (k := k + 1) hlt ?_
          rw [rdD, HRK.out]; simp only [hnx]))
        have HNE := hide (show readDE s.data.toList W H kind xs = 1 by rw [HRE.out, HRDN.out]; rfl)
        have hR9 : w9.heap[w.heap.size]? = some (.cells #[.int .i64 0, .int .i64 0, .slice none 0 0] 34 (0, 0)) := by rw [HB9.out.block _ h05]; exact HR5.out
        have q0 : w9.cell? ⟨w.heap.size, 0, none⟩ = some (.int .i64 0) := by rw [Lib.cell_of_heap hR9]; rfl
        have q1 : w9.cell? ⟨w.heap.size, 1, none⟩ = some (.int .i64 0) := by rw [Lib.cell_of_heap hR9]; rfl
        have q2 : w9.cell? ⟨w.heap.size, 2, none⟩ = some (.slice none 0 0) := by rw [Lib.cell_of_heap hR9]; rfl
        have f0 := Lib.frozen_of_heap hR9 0
        have f1 := Lib.frozen_of_heap hR9 1
        have f2 := Lib.frozen_of_heap hR9 2
        clear hsome hnone hg9 hnx
        go_wp2
        refine bodyPost_ret (v := .tuple #[.agg #[.int .i64 0, .int .i64 0, .slice none 0 0], .int .i64 1]) (by simp [results, Tryz.results54, go_sem, q0, q1, q2]) rfl ⟨.slice none 0 0, ?_, ?_, ?_⟩
        · rw [readDW, readDH, HNE.out]; rfl
        · rw [readDZ, HNE.out]; exact IsInts.nil _
        · exact (((HB0.out.trans ((HB5.out.trans (HB9.out.mono HB5.out.size)).mono HB0.out.size)).setCell (p := ⟨w.heap.size, 0, none⟩) (Nat.le_refl _) _).setCell (p := ⟨w.heap.size, 1, none⟩) (Nat.le_refl _) _).setCell (p := ⟨w.heap.size, 2, none⟩) (Nat.le_refl _) _
      | some q =>
        obtain ⟨D, m⟩ := q
        obtain ⟨rfl, ht9⟩ := hsome D m hnx
        have HT9 := hide ht9
        obtain ⟨hzs1, hzs2⟩ := rdD_len HRK.out
        have HRK2 := hide (show rdD f b W kind (k + 1) = some (pos + m, zs ++ [(gAt zs W kind k + D) % 65536]) by rw [rdD, HRK.out]; simp only [hnx])
        have ho9 : w9.ownsRow w6.heap.size 3 1 (.slice (some ⟨w6.heap.size, 0, none⟩) N N) N (zRow zs N) := ho.kept hg9 (.inr (by simp only [Value.ownBlock]; intro h; simp only [Option.some.injEq] at h; omega))
        have hs9 := hg9.size
        have hP9 : w9.heap[PB]? = some (.cells #[.int .i64 W, .int .i64 H, .slice (some ⟨w6.heap.size, 0, none⟩) N N] 34 (0, 0)) := by rw [hg9.block PB hPl (by simp; omega)]; exact HPB.out
        clear hsome hnone ht9 HTK ho HPB HBL hg9 HBW c2 c3
        have hDr := HDR.out pos D m hnx
        clear hnx
        have HIN9 := hide (show IsInts w9 (.slice (some ⟨w6.heap.size, 0, none⟩) N N) (zs ++ List.replicate (N - zs.length) 0) by
          have hlp : (zs ++ List.replicate (N - zs.length) 0).length = N := by rw [List.length_append, List.length_replicate]; omega
          refine IsInts.own (base := w6.heap.size) ?_ (by rw [hlp]; omega)
          rw [hlp, ← zRow_ints]; exact ho9)
        have hgp : gAt (zs ++ List.replicate (N - zs.length) 0) W kind k = gAt zs W kind k := gAt_pre (by omega) fun j hj => by simp [List.getD, List.getElem?_append_left (show j < zs.length by omega)]
        have hgr := gAt_range zs W kind k hzs2
        have hw1 : ¬ (W = 0) := by omega
        have hw2 : ¬ ((W : Int) = 0) := by omega
        have hqb : k / W ≤ 4096 := Nat.le_trans (Nat.div_le_self k W) (by omega)
        have HREM := hide (show (k : Int) % (W : Int) = ((k % W : Nat) : Int) from rfl)
        have HQUO := hide (show IntKind.i64.wrap ((k : Int) / (W : Int)) = ((k / W : Nat) : Int) by rw [show (k : Int) / (W : Int) = ((k / W : Nat) : Int) from rfl]; generalize k / W = q at hqb ⊢; exact IntWalk.i64_in _ (by omega))
        have HGU := hide (show ∀ w', Below w9.heap.size w9 w' → Calls Tryz.prog 107 #[.agg #[.int .i64 W, .int .i64 H, .slice (some ⟨w6.heap.size, 0, none⟩) N N], .int .i64 kind, .int .i64 ((k % W : Nat) : Int), .int .i64 ((k / W : Nat) : Int)] w' fun e w'' => e = .returned (.int .i64 (gAt zs W kind k)) ∧ Below w9.heap.size w9 w'' from fun w' h => by
          have hlp : (zs ++ List.replicate (N - zs.length) 0).length = N := by rw [List.length_append, List.length_replicate]; omega
          refine (guess_any _ (zs ++ List.replicate (N - zs.length) 0) W _ _ H kind k w' (HIN9.out.below h (Nat.le_refl _)) (by omega) (by omega) (by rw [hlp]; exact hlt) (by rw [hlp]; omega) (pad_ok _ _ hzs2) rfl rfl).mono fun e w'' h2 => ⟨?_, h.trans (h2.2.mono h.size)⟩
          rw [← hgp]; exact h2.1)
        clear hgp hqb
        generalize gAt zs W kind k = G at *
        have hgd : IntKind.i64.wrap (G + D) = G + D := IntWalk.i64_in _ (by omega)
        have hand := andTop (G + D)
        have p0 : w9.cell? ⟨PB, 0, none⟩ = some (.int .i64 W) := by rw [Lib.cell_of_heap hP9]; rfl
        have p1 : w9.cell? ⟨PB, 1, none⟩ = some (.int .i64 H) := by rw [Lib.cell_of_heap hP9]; rfl
        have p2 : w9.cell? ⟨PB, 2, none⟩ = some (.slice (some ⟨w6.heap.size, 0, none⟩) N N) := by rw [Lib.cell_of_heap hP9]; rfl
        have hPl9 : PB < w9.heap.size := by omega
        have hne6 : PB ≠ w6.heap.size := by omega
        have c9 := ho9.cellAt k (by omega)
        rw [zRow_getk zs N k hzl hlt] at c9
        have f9 := ho9.frozenAt k
        have HCX := hide (show ∀ w', Below w9.heap.size w9 w' → w'.cell? ⟨w6.heap.size, k, none⟩ = some (.int .i64 0) ∧ w'.frozen? ⟨w6.heap.size, k, none⟩ = false from fun w' h =>
          ⟨(h.cell (p := ⟨w6.heap.size, k, none⟩) (by show w6.heap.size < _; omega)).trans c9, (World.frozen?_of_block (h.block w6.heap.size (by omega))).trans f9⟩)
        have HS := hide (show ∀ w', Below w9.heap.size w9 w' → w'.cell? ⟨PB, 0, none⟩ = some (.int .i64 W) ∧ w'.cell? ⟨PB, 1, none⟩ = some (.int .i64 H) ∧ w'.cell? ⟨PB, 2, none⟩ = some (.slice (some ⟨w6.heap.size, 0, none⟩) N N) from fun w' h =>
          ⟨(h.cell (p := ⟨PB, 0, none⟩) hPl9).trans p0, (h.cell (p := ⟨PB, 1, none⟩) hPl9).trans p1, (h.cell (p := ⟨PB, 2, none⟩) hPl9).trans p2⟩)
        have HS2 := hide (show ∀ w' u, Below w9.heap.size w9 w' → (w'.setCell ⟨w6.heap.size, k, none⟩ u).cell? ⟨PB, 0, none⟩ = some (.int .i64 W) ∧ (w'.setCell ⟨w6.heap.size, k, none⟩ u).cell? ⟨PB, 1, none⟩ = some (.int .i64 H) ∧ (w'.setCell ⟨w6.heap.size, k, none⟩ u).cell? ⟨PB, 2, none⟩ = some (.slice (some ⟨w6.heap.size, 0, none⟩) N N) from fun w' u h => by
          obtain ⟨t0, t1, t2⟩ := HS.out w' h
          have hbk := Below.heap_setCell w' ⟨w6.heap.size, k, none⟩ u PB hne6
          exact ⟨(World.cell?_of_block (a := ⟨PB, 0, none⟩) hbk).trans t0, (World.cell?_of_block (a := ⟨PB, 1, none⟩) hbk).trans t1, (World.cell?_of_block (a := ⟨PB, 2, none⟩) hbk).trans t2⟩)
        have hk0 : (0 : Int) ≤ (k : Int) := by omega
        have hkN : (k : Int) < (N : Int) := by omega
        have hrefl := Below.refl w9.heap.size w9
        have hdrew : Below w9.heap.size w9 w9.drew := (Below.refl _ _).drew
        go_wp2_with fail
        go_region_held3 (fun w' => w'.cell? ⟨PB, 0, none⟩ = some (.int .i64 W) ∧ w'.cell? ⟨PB, 1, none⟩ = some (.int .i64 H) ∧ w'.cell? ⟨PB, 2, none⟩ = some (.slice (some ⟨w6.heap.size, 0, none⟩) N N))
          (first | (refine HS.out _ ?_; assumption) | (refine HS2.out _ _ ?_; assumption) | go_keep)
          (first | (go_at_call 107; (try rw [HREM.out]); (try rw [HQUO.out]); refine (HGU.out _ ?_).mono ?_; assumption; rintro e wx ⟨rfl, hNB⟩; obtain ⟨cx, fx⟩ := HCX.out _ hNB))
        have hox := ((ownsRow_below ho9 hNB).stored k (.int .i64 ((G + D) % 65536))).1
        rw [zRow_setk zs N k _ hzl hlt] at hox
        have HTX := hide (show TakerAt (wx.setCell ⟨w6.heap.size, k, none⟩ (.int .i64 ((G + D) % 65536))) ba bb b (pos + m) by
          have h := HT9.out.below hNB
          exact ⟨by rw [Below.heap_setCell _ _ _ _ (by show ba ≠ w6.heap.size; omega)]; exact h.1, by rw [Below.heap_setCell _ _ _ _ (by show bb ≠ w6.heap.size; omega)]; exact h.2.1, h.2.2⟩)
        have HPX := hide (show (wx.setCell ⟨w6.heap.size, k, none⟩ (.int .i64 ((G + D) % 65536))).heap[PB]? = some (.cells #[.int .i64 W, .int .i64 H, .slice (some ⟨w6.heap.size, 0, none⟩) N N] 34 (0, 0)) by
          rw [Below.heap_setCell _ _ _ _ hne6, hNB.block PB hPl9]; exact hP9)
        have HBX := hide (show Below w5.heap.size w5 (wx.setCell ⟨w6.heap.size, k, none⟩ (.int .i64 ((G + D) % 65536))) from (HB9.out.trans (hNB.mono HB9.out.size)).setCell (p := ⟨w6.heap.size, k, none⟩) (by show w5.heap.size ≤ w6.heap.size; omega) _)
        have hszx : PB < (wx.setCell ⟨w6.heap.size, k, none⟩ (.int .i64 ((G + D) % 65536))).heap.size := by have := hNB.size; simp [World.setCell]; omega
        have hzl2 : (zs ++ [(G + D) % 65536]).length = k + 1 := by simp [hzl]
        generalize wx.setCell ⟨w6.heap.size, k, none⟩ (.int .i64 ((G + D) % 65536)) = WX at *
        clear hrefl hdrew cx fx hNB HS HS2 HCX HGU c9 f9 p0 p1 p2 hand hgd ho9
        go_wp2
        go_roundw
        case rel => exact ⟨k + 1, pos + m, zs ++ [(G + D) % 65536], by omega, by go_num, hzl2, HRK2, HTX, hox, HPX, HBX, hszx⟩
        case measure => simp [intOf]; omega
    · obtain rfl : k = N := by omega
      have hd : decide ((k : Int) < (k : Int)) = false := by simp
      have HRSZ := hide (HRS.out pos zs HRK.out)
      have hRr : wr.heap[w.heap.size]? = some (.cells #[.int .i64 0, .int .i64 0, .slice none 0 0] 34 (0, 0)) := by rw [HBL.out.block _ h05]; exact HR5.out
      have q0 : wr.cell? ⟨w.heap.size, 0, none⟩ = some (.int .i64 0) := by rw [Lib.cell_of_heap hRr]; rfl
      have q1 : wr.cell? ⟨w.heap.size, 1, none⟩ = some (.int .i64 0) := by rw [Lib.cell_of_heap hRr]; rfl
      have q2 : wr.cell? ⟨w.heap.size, 2, none⟩ = some (.slice none 0 0) := by rw [Lib.cell_of_heap hRr]; rfl
      have f0 := Lib.frozen_of_heap hRr 0
      have f1 := Lib.frozen_of_heap hRr 1
      have f2 := Lib.frozen_of_heap hRr 2
      have p0 : wr.cell? ⟨PB, 0, none⟩ = some (.int .i64 W) := by rw [Lib.cell_of_heap HPB.out]; rfl
      have p1 : wr.cell? ⟨PB, 1, none⟩ = some (.int .i64 H) := by rw [Lib.cell_of_heap HPB.out]; rfl
      have p2 : wr.cell? ⟨PB, 2, none⟩ = some (.slice (some ⟨w6.heap.size, 0, none⟩) k k) := by rw [Lib.cell_of_heap HPB.out]; rfl
      have HWR := hide (HB0.out.trans ((HB5.out.trans (HBL.out.mono HB5.out.size)).mono HB0.out.size))
      have hdl : (b.drop pos).length ≤ 281474976710656 := by rw [List.length_drop]; omega
      have hR6 : w.heap.size < w6.heap.size := by omega
      have hRP : w.heap.size ≠ PB := by omega
      cases hf : fillOk (b.drop pos) with
      | false =>
        have HNE := hide (show readDE s.data.toList W H kind xs = 1 by rw [HRE.out, HRSZ.out, hf]; rfl)
        clear ho
        go_wp2_with (first | (go_at_call 137; refine (left_any ba bb b _ _ HTK.out).mono ?_; rintro e wx ⟨rfl, rfl⟩) | (go_at_call 108; refine (isFill_any _ hdl _).mono ?_; rintro e wx ⟨rfl, rfl⟩; rw [hf]))
        refine bodyPost_ret (v := .tuple #[.agg #[.int .i64 0, .int .i64 0, .slice none 0 0], .int .i64 1]) (by simp [results, Tryz.results54, go_sem, q0, q1, q2]) rfl ⟨.slice none 0 0, ?_, ?_, ?_⟩
        · rw [readDW, readDH, HNE.out]; rfl
        · rw [readDZ, HNE.out]; exact IsInts.nil _
        · exact ((HWR.out.setCell (p := ⟨w.heap.size, 0, none⟩) (Nat.le_refl _) _).setCell (p := ⟨w.heap.size, 1, none⟩) (Nat.le_refl _) _).setCell (p := ⟨w.heap.size, 2, none⟩) (Nat.le_refl _) _
      | true =>
        have HNS := hide (show readD s.data.toList W H kind xs = some zs by rw [HRSZ.out, hf]; rfl)
        have HNE := hide (show readDE s.data.toList W H kind xs = 0 by rw [HRE.out, HNS.out]; rfl)
        have HOW := hide (((ownsRow_setCell_below (ownsRow_setCell_below (ownsRow_setCell_below ho (a := ⟨w.heap.size, 0, none⟩) hR6 (.int .i64 W)) (a := ⟨w.heap.size, 1, none⟩) hR6 (.int .i64 H)) (a := ⟨w.heap.size, 2, none⟩) hR6 (.slice (some ⟨w6.heap.size, 0, none⟩) k k))))
        clear ho
        go_wp2_with (first | (go_at_call 137; refine (left_any ba bb b _ _ HTK.out).mono ?_; rintro e wx ⟨rfl, rfl⟩) | (go_at_call 108; refine (isFill_any _ hdl _).mono ?_; rintro e wx ⟨rfl, rfl⟩; rw [hf]))
        refine bodyPost_ret (v := .tuple #[.agg #[.int .i64 W, .int .i64 H, .slice (some ⟨w6.heap.size, 0, none⟩) k k], .int .i64 0]) (by simp [results, Tryz.results54, go_sem, q0, q1, q2]) rfl ⟨.slice (some ⟨w6.heap.size, 0, none⟩) k k, ?_, ?_, ?_⟩
        · rw [readDW, readDH, HNE.out]; rfl
        · rw [readDZ, HNE.out, if_pos rfl, HNS.out]
          have h := HOW.out
          rw [← hzl, zRow_end] at h
          rw [← hzl]
          show IsInts _ _ zs
          exact IsInts.own h (by omega)
        · exact ((HWR.out.setCell (p := ⟨w.heap.size, 0, none⟩) (Nat.le_refl _) _).setCell (p := ⟨w.heap.size, 1, none⟩) (Nat.le_refl _) _).setCell (p := ⟨w.heap.size, 2, none⟩) (Nat.le_refl _) _
set_option maxRecDepth 100000 in
set_option maxHeartbeats 800000 in
theorem readD_any (s : ByteArray) (W H kind : Int) (v : Value) (xs : List Int) (w : World) (hv : IsInts w v xs) :
    Calls Tryz.prog 54 #[.string s, .int .i64 W, .int .i64 H, .int .i64 kind, v] w fun e w' => ∃ r, e = .returned (.tuple #[.agg #[.int .i64 (readDW s.data.toList W H kind xs), .int .i64 (readDH s.data.toList W H kind xs), r], .int .i64 (readDE s.data.toList W H kind xs)]) ∧ IsInts w' r (readDZ s.data.toList W H kind xs) ∧ Below w.heap.size w w' := by
  by_cases hW : sideOk W = true
  · by_cases hH : sideOk H = true
    · by_cases hk : kindOk kind = true
      · by_cases hE : checkE xs = 0
        · have b1 : 1 ≤ W ∧ W ≤ 64 := by simpa [sideOk] using hW
          have b2 : 1 ≤ H ∧ H ≤ 64 := by simpa [sideOk] using hH
          obtain ⟨WN, rfl⟩ := Int.eq_ofNat_of_zero_le (show 0 ≤ W by omega)
          obtain ⟨HN, rfl⟩ := Int.eq_ofNat_of_zero_le (show 0 ≤ H by omega)
          by_cases hl : s.size ≤ (WN * HN * 30 + 7) / 8
          · exact readD_walk s WN HN kind v xs w hv hW hH hk hE hl
          · have HNE := hide (show readDE s.data.toList WN HN kind xs = 1 by
              have hn : readD s.data.toList WN HN kind xs = none := by rw [readD, Int.toNat_natCast, Int.toNat_natCast]; exact if_neg (by rw [len_data]; exact hl)
              rw [readDE, if_pos ⟨hW, hH⟩, if_pos hk, if_pos hE, hn]; rfl)
            have b3 := side_mul b1 b2
            obtain ⟨N, hN⟩ : ∃ N, WN * HN = N := ⟨_, rfl⟩
            have hNi : (WN : Int) * (HN : Int) = (N : Int) := by rw [← hN]; simp
            rw [hNi] at b3
            rw [hN] at hl
            clear hN
            have hmb : decide (((N : Int) * 30 + 7) / 8 < (s.size : Int)) = true := by simp; omega
            have HV := hide hv
            have HE := hide hE
            clear hl hv hE
            go_enter Tryz.func54, Tryz.ntmps54
            go_wp2_with fail
            have R0 := heap_alloc_new w (Obj.cells #[.int .i64 0, .int .i64 0, .slice none 0 0] 34)
            have HB0 := hide (bel_alloc w (Obj.cells #[.int .i64 0, .int .i64 0, .slice none 0 0] 34))
            have hlt0 : w.heap.size < (w.alloc (Obj.cells #[.int .i64 0, .int .i64 0, .slice none 0 0] 34)).heap.size := by simp
            generalize w.alloc (Obj.cells #[.int .i64 0, .int .i64 0, .slice none 0 0] 34) = w0 at *
            refine (side_any _ _).mono ?_
            rintro e w1 ⟨rfl, hb1⟩
            rw [hW]
            go_wp2_with fail
            refine (side_any _ _).mono ?_
            rintro e w2 ⟨rfl, hb2⟩
            rw [hH]
            go_wp2_with (go_at_call 101; refine (isKind_any _ _).mono ?_; rintro e wx ⟨rfl, rfl⟩; rw [hk])
            have HB2 := hide (bel_trans hb1 hb2)
            refine (words_walk _ _ _ ((HV.out.below HB0.out (Nat.le_refl _)).below HB2.out (Nat.le_refl _)) HE.out).mono ?_
            rintro e WE ⟨r, rfl, hr, hb3⟩
            have HBE := hide (bel_trans HB2.out hb3)
            clear hr hb1 hb2 hb3 HB2
            have HWR := hide (bel_trans HB0.out HBE.out)
            have hRr : WE.heap[w.heap.size]? = some (.cells #[.int .i64 0, .int .i64 0, .slice none 0 0] 34 (0, 0)) := by rw [HBE.out.block _ hlt0]; exact R0
            have q0 : WE.cell? ⟨w.heap.size, 0, none⟩ = some (.int .i64 0) := by rw [Lib.cell_of_heap hRr]; rfl
            have q1 : WE.cell? ⟨w.heap.size, 1, none⟩ = some (.int .i64 0) := by rw [Lib.cell_of_heap hRr]; rfl
            have q2 : WE.cell? ⟨w.heap.size, 2, none⟩ = some (.slice none 0 0) := by rw [Lib.cell_of_heap hRr]; rfl
            have f0 := Lib.frozen_of_heap hRr 0
            have f1 := Lib.frozen_of_heap hRr 1
            have f2 := Lib.frozen_of_heap hRr 2
            go_wp2_with (go_at_call 103; refine (mostBytes_any _ (by omega) (by omega) _).mono ?_; rintro e wx ⟨rfl, rfl⟩)
            refine bodyPost_ret (v := .tuple #[.agg #[.int .i64 0, .int .i64 0, .slice none 0 0], .int .i64 1]) (by simp [results, Tryz.results54, go_sem, q0, q1, q2]) rfl ⟨.slice none 0 0, ?_, ?_, ?_⟩
            · rw [readDW, readDH, HNE.out]; simp
            · rw [readDZ, HNE.out]; exact IsInts.nil _
            · exact ((HWR.out.setCell (p := ⟨w.heap.size, 0, none⟩) (Nat.le_refl _) _).setCell (p := ⟨w.heap.size, 1, none⟩) (Nat.le_refl _) _).setCell (p := ⟨w.heap.size, 2, none⟩) (Nat.le_refl _) _
        · have HNE := hide (show readDE s.data.toList W H kind xs = checkE xs by rw [readDE, if_pos ⟨hW, hH⟩, if_pos hk, if_neg hE])
          have hne : (checkE xs != 0) = true := by simpa using hE
          have HNZ := hide hE
          have HV := hide hv
          clear hE hv
          go_enter Tryz.func54, Tryz.ntmps54
          go_wp2_with fail
          have R0 := heap_alloc_new w (Obj.cells #[.int .i64 0, .int .i64 0, .slice none 0 0] 34)
          have HB0 := hide (bel_alloc w (Obj.cells #[.int .i64 0, .int .i64 0, .slice none 0 0] 34))
          have hlt0 : w.heap.size < (w.alloc (Obj.cells #[.int .i64 0, .int .i64 0, .slice none 0 0] 34)).heap.size := by simp
          generalize w.alloc (Obj.cells #[.int .i64 0, .int .i64 0, .slice none 0 0] 34) = w0 at *
          refine (side_any _ _).mono ?_
          rintro e w1 ⟨rfl, hb1⟩
          rw [hW]
          go_wp2_with fail
          refine (side_any _ _).mono ?_
          rintro e w2 ⟨rfl, hb2⟩
          rw [hH]
          go_wp2_with (go_at_call 101; refine (isKind_any _ _).mono ?_; rintro e wx ⟨rfl, rfl⟩; rw [hk])
          have HB2 := hide (bel_trans hb1 hb2)
          refine (words_any _ _ _ ((HV.out.below HB0.out (Nat.le_refl _)).below HB2.out (Nat.le_refl _))).mono ?_
          rintro e WE ⟨r, rfl, hr, hb3⟩
          have HBE := hide (bel_trans HB2.out hb3)
          clear hr hb1 hb2 hb3 HB2
          have HWR := hide (bel_trans HB0.out HBE.out)
          have hRr : WE.heap[w.heap.size]? = some (.cells #[.int .i64 0, .int .i64 0, .slice none 0 0] 34 (0, 0)) := by rw [HBE.out.block _ hlt0]; exact R0
          have q0 : WE.cell? ⟨w.heap.size, 0, none⟩ = some (.int .i64 0) := by rw [Lib.cell_of_heap hRr]; rfl
          have q1 : WE.cell? ⟨w.heap.size, 1, none⟩ = some (.int .i64 0) := by rw [Lib.cell_of_heap hRr]; rfl
          have q2 : WE.cell? ⟨w.heap.size, 2, none⟩ = some (.slice none 0 0) := by rw [Lib.cell_of_heap hRr]; rfl
          have f0 := Lib.frozen_of_heap hRr 0
          have f1 := Lib.frozen_of_heap hRr 1
          have f2 := Lib.frozen_of_heap hRr 2
          go_wp2
          refine bodyPost_ret (v := .tuple #[.agg #[.int .i64 0, .int .i64 0, .slice none 0 0], .int .i64 (checkE xs)]) (by simp [results, Tryz.results54, go_sem, q0, q1, q2]) rfl ⟨.slice none 0 0, ?_, ?_, ?_⟩
          · rw [readDW, readDH, HNE.out, if_neg HNZ.out, if_neg HNZ.out]
          · rw [readDZ, HNE.out, if_neg HNZ.out]; exact IsInts.nil _
          · exact ((HWR.out.setCell (p := ⟨w.heap.size, 0, none⟩) (Nat.le_refl _) _).setCell (p := ⟨w.heap.size, 1, none⟩) (Nat.le_refl _) _).setCell (p := ⟨w.heap.size, 2, none⟩) (Nat.le_refl _) _
      · have HNE := hide (show readDE s.data.toList W H kind xs = 6 by rw [readDE, if_pos ⟨hW, hH⟩, if_neg hk])
        have hk : kindOk kind = false := by simpa using hk
        clear hv
        go_enter Tryz.func54, Tryz.ntmps54
        go_wp2_with fail
        have R0 := heap_alloc_new w (Obj.cells #[.int .i64 0, .int .i64 0, .slice none 0 0] 34)
        have HB0 := hide (bel_alloc w (Obj.cells #[.int .i64 0, .int .i64 0, .slice none 0 0] 34))
        have hlt0 : w.heap.size < (w.alloc (Obj.cells #[.int .i64 0, .int .i64 0, .slice none 0 0] 34)).heap.size := by simp
        generalize w.alloc (Obj.cells #[.int .i64 0, .int .i64 0, .slice none 0 0] 34) = w0 at *
        refine (side_any _ _).mono ?_
        rintro e w1 ⟨rfl, hb1⟩
        rw [hW]
        go_wp2_with fail
        refine (side_any _ _).mono ?_
        rintro e WE ⟨rfl, hb2⟩
        rw [hH]
        have HBE := hide (bel_trans hb1 hb2)
        clear hb1 hb2
        have HWR := hide (bel_trans HB0.out HBE.out)
        have hRr : WE.heap[w.heap.size]? = some (.cells #[.int .i64 0, .int .i64 0, .slice none 0 0] 34 (0, 0)) := by rw [HBE.out.block _ hlt0]; exact R0
        have q0 : WE.cell? ⟨w.heap.size, 0, none⟩ = some (.int .i64 0) := by rw [Lib.cell_of_heap hRr]; rfl
        have q1 : WE.cell? ⟨w.heap.size, 1, none⟩ = some (.int .i64 0) := by rw [Lib.cell_of_heap hRr]; rfl
        have q2 : WE.cell? ⟨w.heap.size, 2, none⟩ = some (.slice none 0 0) := by rw [Lib.cell_of_heap hRr]; rfl
        have f0 := Lib.frozen_of_heap hRr 0
        have f1 := Lib.frozen_of_heap hRr 1
        have f2 := Lib.frozen_of_heap hRr 2
        go_wp2_with (go_at_call 101; refine (isKind_any _ _).mono ?_; rintro e wx ⟨rfl, rfl⟩; rw [hk])
        refine bodyPost_ret (v := .tuple #[.agg #[.int .i64 0, .int .i64 0, .slice none 0 0], .int .i64 6]) (by simp [results, Tryz.results54, go_sem, q0, q1, q2]) rfl ⟨.slice none 0 0, ?_, ?_, ?_⟩
        · rw [readDW, readDH, HNE.out]; simp
        · rw [readDZ, HNE.out]; exact IsInts.nil _
        · exact ((HWR.out.setCell (p := ⟨w.heap.size, 0, none⟩) (Nat.le_refl _) _).setCell (p := ⟨w.heap.size, 1, none⟩) (Nat.le_refl _) _).setCell (p := ⟨w.heap.size, 2, none⟩) (Nat.le_refl _) _
    · have HNE := hide (show readDE s.data.toList W H kind xs = 3 by rw [readDE, if_neg (fun h => hH h.2)])
      have hH : sideOk H = false := by simpa using hH
      clear hv
      go_enter Tryz.func54, Tryz.ntmps54
      go_wp2_with fail
      have R0 := heap_alloc_new w (Obj.cells #[.int .i64 0, .int .i64 0, .slice none 0 0] 34)
      have HB0 := hide (bel_alloc w (Obj.cells #[.int .i64 0, .int .i64 0, .slice none 0 0] 34))
      have hlt0 : w.heap.size < (w.alloc (Obj.cells #[.int .i64 0, .int .i64 0, .slice none 0 0] 34)).heap.size := by simp
      generalize w.alloc (Obj.cells #[.int .i64 0, .int .i64 0, .slice none 0 0] 34) = w0 at *
      refine (side_any _ _).mono ?_
      rintro e w1 ⟨rfl, hb1⟩
      rw [hW]
      go_wp2_with fail
      refine (side_any _ _).mono ?_
      rintro e WE ⟨rfl, hb2⟩
      rw [hH]
      have HBE := hide (bel_trans hb1 hb2)
      clear hb1 hb2
      have HWR := hide (bel_trans HB0.out HBE.out)
      have hRr : WE.heap[w.heap.size]? = some (.cells #[.int .i64 0, .int .i64 0, .slice none 0 0] 34 (0, 0)) := by rw [HBE.out.block _ hlt0]; exact R0
      have q0 : WE.cell? ⟨w.heap.size, 0, none⟩ = some (.int .i64 0) := by rw [Lib.cell_of_heap hRr]; rfl
      have q1 : WE.cell? ⟨w.heap.size, 1, none⟩ = some (.int .i64 0) := by rw [Lib.cell_of_heap hRr]; rfl
      have q2 : WE.cell? ⟨w.heap.size, 2, none⟩ = some (.slice none 0 0) := by rw [Lib.cell_of_heap hRr]; rfl
      have f0 := Lib.frozen_of_heap hRr 0
      have f1 := Lib.frozen_of_heap hRr 1
      have f2 := Lib.frozen_of_heap hRr 2
      go_wp2
      refine bodyPost_ret (v := .tuple #[.agg #[.int .i64 0, .int .i64 0, .slice none 0 0], .int .i64 3]) (by simp [results, Tryz.results54, go_sem, q0, q1, q2]) rfl ⟨.slice none 0 0, ?_, ?_, ?_⟩
      · rw [readDW, readDH, HNE.out]; simp
      · rw [readDZ, HNE.out]; exact IsInts.nil _
      · exact ((HWR.out.setCell (p := ⟨w.heap.size, 0, none⟩) (Nat.le_refl _) _).setCell (p := ⟨w.heap.size, 1, none⟩) (Nat.le_refl _) _).setCell (p := ⟨w.heap.size, 2, none⟩) (Nat.le_refl _) _
  · have HNE := hide (show readDE s.data.toList W H kind xs = 3 by rw [readDE, if_neg (fun h => hW h.1)])
    have hW : sideOk W = false := by simpa using hW
    clear hv
    go_enter Tryz.func54, Tryz.ntmps54
    go_wp2_with fail
    have R0 := heap_alloc_new w (Obj.cells #[.int .i64 0, .int .i64 0, .slice none 0 0] 34)
    have HB0 := hide (bel_alloc w (Obj.cells #[.int .i64 0, .int .i64 0, .slice none 0 0] 34))
    have hlt0 : w.heap.size < (w.alloc (Obj.cells #[.int .i64 0, .int .i64 0, .slice none 0 0] 34)).heap.size := by simp
    generalize w.alloc (Obj.cells #[.int .i64 0, .int .i64 0, .slice none 0 0] 34) = w0 at *
    refine (side_any _ _).mono ?_
    rintro e WE ⟨rfl, hb1⟩
    rw [hW]
    have HBE := hide hb1
    clear hb1
    have HWR := hide (bel_trans HB0.out HBE.out)
    have hRr : WE.heap[w.heap.size]? = some (.cells #[.int .i64 0, .int .i64 0, .slice none 0 0] 34 (0, 0)) := by rw [HBE.out.block _ hlt0]; exact R0
    have q0 : WE.cell? ⟨w.heap.size, 0, none⟩ = some (.int .i64 0) := by rw [Lib.cell_of_heap hRr]; rfl
    have q1 : WE.cell? ⟨w.heap.size, 1, none⟩ = some (.int .i64 0) := by rw [Lib.cell_of_heap hRr]; rfl
    have q2 : WE.cell? ⟨w.heap.size, 2, none⟩ = some (.slice none 0 0) := by rw [Lib.cell_of_heap hRr]; rfl
    have f0 := Lib.frozen_of_heap hRr 0
    have f1 := Lib.frozen_of_heap hRr 1
    have f2 := Lib.frozen_of_heap hRr 2
    go_wp2
    refine bodyPost_ret (v := .tuple #[.agg #[.int .i64 0, .int .i64 0, .slice none 0 0], .int .i64 3]) (by simp [results, Tryz.results54, go_sem, q0, q1, q2]) rfl ⟨.slice none 0 0, ?_, ?_, ?_⟩
    · rw [readDW, readDH, HNE.out]; simp
    · rw [readDZ, HNE.out]; exact IsInts.nil _
    · exact ((HWR.out.setCell (p := ⟨w.heap.size, 0, none⟩) (Nat.le_refl _) _).setCell (p := ⟨w.heap.size, 1, none⟩) (Nat.le_refl _) _).setCell (p := ⟨w.heap.size, 2, none⟩) (Nat.le_refl _) _
end Go.Proofs.YtanebhbfekcplaaGreat

namespace Go.Proofs.YtanebhbfekcplaaGreat
set_option linter.unusedVariables false
open Go.RowKit
def IsStrs (w : World) (v : Value) (ts : List (List UInt8)) : Prop :=
  ∃ ao cap, v = .slice ao ts.length cap ∧ ts.length ≤ 9223372036854775807 ∧ (ts = [] ∨ ∃ b off, ao = some ⟨b, off, none⟩ ∧ b < w.heap.size ∧ ∀ j, j < ts.length → w.cell? ⟨b, off + j, none⟩ = some (.string (str (ts.getD j []))))
theorem IsStrs.below {w w' : World} {v : Value} {ts : List (List UInt8)} {B : Nat} (h : IsStrs w v ts) (hb : Below B w w') (hB : w.heap.size ≤ B) : IsStrs w' v ts := by
  obtain ⟨ao, cap, hv, hl, h⟩ := h
  refine ⟨ao, cap, hv, hl, ?_⟩
  rcases h with h | ⟨b, off, ha, hlt, hc⟩
  · exact .inl h
  · exact .inr ⟨b, off, ha, Nat.lt_of_lt_of_le hlt hb.size, fun j hj => by rw [hb.cell (p := ⟨b, off + j, none⟩) (by exact Nat.lt_of_lt_of_le hlt hB)]; exact hc j hj⟩
theorem IsStrs.nil (w : World) : IsStrs w (.slice none 0 0) [] := ⟨none, 0, rfl, by simp, .inl rfl⟩
theorem IsStrs.at {w : World} {ao : Option Addr} {ca n : Nat} {ts : List (List UInt8)} (h : IsStrs w (.slice ao n ca) ts) (j : Nat) (hj : j < ts.length) : ∃ b off, ao = some ⟨b, off, none⟩ ∧ b < w.heap.size ∧ w.cell? ⟨b, off + j, none⟩ = some (.string (str (ts.getD j []))) := by
  obtain ⟨ao', cap, hv, hl, h⟩ := h
  cases hv
  rcases h with h | ⟨b, off, ha, hlt, hc⟩
  · rw [h] at hj; simp at hj
  · exact ⟨b, off, ha, hlt, hc j hj⟩
theorem raw_cells {w : World} {b : Nat} {t : TypeId} {fr : Nat × Nat} {r : RawF} {lv tv sv cv : Value} (h : w.heap[b]? = some (.cells (rawA r lv tv sv cv) t fr)) :
    w.cell? ⟨b, 0, none⟩ = some (.int .i64 r.w) ∧ w.cell? ⟨b, 1, none⟩ = some (.int .i64 r.h) ∧ w.cell? ⟨b, 2, none⟩ = some (.int .i64 r.depth) ∧ w.cell? ⟨b, 3, none⟩ = some (.int .i64 r.kind) ∧ w.cell? ⟨b, 4, none⟩ = some (.int .i64 r.rows) ∧
    w.cell? ⟨b, 5, none⟩ = some lv ∧ w.cell? ⟨b, 6, none⟩ = some tv ∧ w.cell? ⟨b, 13, none⟩ = some sv ∧ w.cell? ⟨b, 26, none⟩ = some cv := by
  refine ⟨?_, ?_, ?_, ?_, ?_, ?_, ?_, ?_, ?_⟩ <;> (rw [Lib.cell_of_heap h]; rfl)
structure IsRaw (w : World) (r : RawF) (lv tv sv cv : Value) : Prop where
  lens : IsInts w lv r.lens
  strips : IsStrs w tv r.strips
  plan : IsPlan w r.plan sv cv
theorem IsRaw.below {w w' : World} {r : RawF} {lv tv sv cv : Value} {B : Nat} (h : IsRaw w r lv tv sv cv) (hb : Below B w w') (hB : w.heap.size ≤ B) : IsRaw w' r lv tv sv cv :=
  ⟨h.lens.below hb hB, h.strips.below hb hB, h.plan.below hb hB⟩
set_option maxRecDepth 100000 in
set_option maxHeartbeats 800000 in
theorem stripCount_any (r : RawF) (lv tv sv cv : Value) (w : World) (h : Head r) :
    Calls Tryz.prog 20 #[.agg (rawA r lv tv sv cv)] w fun e w' => e = .returned (.int .i64 (cntN r)) ∧ Below w.heap.size w w' := by
  have hb := h.rows
  have hc := h.h
  obtain ⟨X, hX⟩ : ∃ X : Int, r.h + r.rows - 1 = X := ⟨_, rfl⟩
  have hp := h.cnt_int
  rw [hX] at hp
  have hx : 0 ≤ X := by omega
  have hn : ¬ r.rows = 0 := by omega
  have a1 := al1 w (Obj.cells (rawA r lv tv sv cv) 32)
  have HB := hide (bel_alloc w (Obj.cells (rawA r lv tv sv cv) 32))
  have t1 : IntKind.i64.wrap (r.h + r.rows) = r.h + r.rows := IntWalk.i64_in _ (by omega)
  have t2 : IntKind.i64.wrap (r.h + r.rows - 1) = X := by rw [← hX]; exact IntWalk.i64_in _ (by omega)
  have hq : X.tdiv r.rows = (cntN r : Int) := by rw [hp]; exact Int.tdiv_eq_ediv_of_nonneg hx
  have hle := h.cnt_le
  have t3 : IntKind.i64.wrap (X.tdiv r.rows) = (cntN r : Int) := by rw [hq]; exact IntWalk.i64_in _ (by omega)
  have HC := hide hp.symm
  clear hp
  generalize cntN r = C at *
  obtain ⟨s0, s1, s2, s3, s4, s5, s6, s13, s26⟩ := raw_cells a1
  go_enter Tryz.func20, Tryz.ntmps20
  go_wp2
  go_ret
  exact ⟨ret_int (by first | rfl | exact HC.out), HB.out⟩
set_option maxRecDepth 100000 in
set_option maxHeartbeats 800000 in
theorem stripRows_any (r : RawF) (lv tv sv cv : Value) (i : Nat) (w : World) (h : Head r) (hi : i < cntN r) :
    Calls Tryz.prog 23 #[.agg (rawA r lv tv sv cv), .int .i64 i] w fun e w' => e = .returned (.int .i64 (rowN r i)) ∧ Below w.heap.size w w' := by
  have hb := h.rows
  have hc := h.h
  have hlt := (h.cnt_pos i).1 hi
  have hle := h.cnt_le
  have a1 := al1 w (Obj.cells (rawA r lv tv sv cv) 32)
  have HB := hide (bel_alloc w (Obj.cells (rawA r lv tv sv cv) 32))
  have h0 : 0 ≤ (i : Int) * r.rows := Int.mul_nonneg (by omega) (by omega)
  have t1 : wrap64 ((i : Int) * r.rows) = i * r.rows := IntWalk.wrap64_in _ (by omega)
  have t2 : wrap64 (r.h - (i : Int) * r.rows) = r.h - i * r.rows := IntWalk.wrap64_in _ (by omega)
  have HR := hide (show min r.rows (wrap64 (r.h - wrap64 ((i : Int) * r.rows))) = rowN r i by rw [t1, t2]; rfl)
  have HR2 := hide (show min r.rows (r.h - (i : Int) * r.rows) = rowN r i from rfl)
  clear t1 t2
  generalize rowN r i = R at *
  obtain ⟨s0, s1, s2, s3, s4, s5, s6, s13, s26⟩ := raw_cells a1
  go_enter Tryz.func23, Tryz.ntmps23
  go_wp2
  go_ret
  exact ⟨ret_int (by first | exact HR.out | exact HR2.out), HB.out⟩
theorem shl_pow {d : Int} (h : 1 ≤ d ∧ d ≤ 16) : (1 : Int) * 2 ^ d.toNat - 1 = 2 ^ d.toNat - 1 ∧ 2 ^ d.toNat ≤ (65536 : Int) ∧ (2 : Int) ≤ 2 ^ d.toNat := by
  obtain ⟨D, rfl⟩ : ∃ D : Nat, d = D := ⟨d.toNat, by omega⟩
  have h1 : 1 ≤ D ∧ D ≤ 16 := by omega
  rw [Int.toNat_natCast]
  have : ∀ D : Nat, 1 ≤ D ∧ D ≤ 16 → (2 : Int) ^ D ≤ 65536 ∧ (2 : Int) ≤ 2 ^ D := by
    intro D hD
    rcases (show D = 1 ∨ D = 2 ∨ D = 3 ∨ D = 4 ∨ D = 5 ∨ D = 6 ∨ D = 7 ∨ D = 8 ∨ D = 9 ∨ D = 10 ∨ D = 11 ∨ D = 12 ∨ D = 13 ∨ D = 14 ∨ D = 15 ∨ D = 16 by omega) with rfl | rfl | rfl | rfl | rfl | rfl | rfl | rfl | rfl | rfl | rfl | rfl | rfl | rfl | rfl | rfl <;> decide
  exact ⟨by omega, this D h1⟩
set_option maxRecDepth 100000 in
set_option maxHeartbeats 800000 in
theorem hasDepth_any (v : Value) (xs : List Int) (d : Int) (w : World) (hd : 1 ≤ d ∧ d ≤ 16) (hv : IsInts w v xs) :
    Calls Tryz.prog 32 #[v, .int .i64 d] w fun e w' => e = .returned (.bool (deepOk d xs)) ∧ w = w' := by
  have HV := hide hv
  obtain ⟨ao, ca, rfl, _, _⟩ := hv
  obtain ⟨q1, q2, q3⟩ := shl_pow hd
  have HD := hide (show deepOk d xs = allIn 0 (2 ^ d.toNat - 1) xs from rfl)
  generalize deepOk d xs = R at *
  obtain ⟨D, rfl⟩ : ∃ D : Nat, d = D := ⟨d.toNat, by omega⟩
  rw [Int.toNat_natCast] at HD q1 q2 q3
  obtain ⟨X, hX⟩ : ∃ X : Int, (2 : Int) ^ D = X := ⟨_, rfl⟩
  rw [hX] at HD q1 q2 q3
  have hx2 : (1 : Int) * 2 ^ D = X := by rw [hX, Int.one_mul]
  have t1 : IntKind.i64.wrap X = X := IntWalk.i64_in _ (by omega)
  have hsh : ((1 : Int) <<< D) = X := by rw [Int.shiftLeft_eq, hX, Int.one_mul]
  go_enter Tryz.func32, Tryz.ntmps32
  go_wp2_with fail
  refine (rWithin_any 0 (X - 1) _ xs _ HV.out).mono ?_
  rintro e w1 ⟨rfl, rfl⟩
  go_wp2
  go_ret
  exact ⟨ret_bool HD.out.symm, rfl⟩
theorem ints2b (w : World) (a b : Int) : IsInts (w.alloc (.cells #[.int .i64 a, .int .i64 b] 3)) (.slice (some ⟨w.heap.size, 0, none⟩) 2 2) [a, b] :=
  IsInts.own (base := w.heap.size) (World.ownsRow_lit w #[.int .i64 a, .int .i64 b] 2 (Nat.le_refl _) (by decide) (by simp)) (by simp)
theorem rangeOk_eq (r : RawF) : rangeOk r = (allIn 1 64 [r.w, r.h] && allIn 1 16 [r.depth] && allIn 1 r.h [r.rows]) := by
  simp [rangeOk, sideOk, isDepthB, allIn]
set_option maxRecDepth 100000 in
set_option maxHeartbeats 1600000 in
theorem checkHead_any (r : RawF) (lv tv sv cv : Value) (w : World) (hl : IsInts w lv r.lens) :
    Calls Tryz.prog 19 #[.agg (rawA r lv tv sv cv)] w fun e w' => e = .returned (.int .i64 (headE r)) ∧ Below w.heap.size w w' := by
  have HL := hide hl
  obtain ⟨ao, ca, rfl, _, _⟩ := hl
  have a1 := al1 w (Obj.cells (rawA r (.slice ao r.lens.length ca) tv sv cv) 32)
  have HB := hide (bel_alloc w (Obj.cells (rawA r (.slice ao r.lens.length ca) tv sv cv) 32))
  have hlt := (Array.getElem?_eq_some_iff.1 a1).1
  have HE := hide (show headE r = if rangeOk r = true then (if 0 ≤ r.kind ∧ r.kind ≤ 7 then kindE r else 6) else 3 from rfl)
  have HG := hide (rangeOk_eq r)
  have HK := hide (show kindE r = if r.kind = 0 then (if r.lens.length = 0 then 0 else 1) else checkE r.lens from rfl)
  generalize headE r = E at *
  obtain ⟨s0, s1, s2, s3, s4, s5, s6, s13, s26⟩ := raw_cells a1
  go_enter Tryz.func19, Tryz.ntmps19
  go_wp2_with fail
  clear s0 s1 s2 s3 s4 s5 s6 s13 s26
  have H1 := hide (ints2b (w.alloc (Obj.cells (rawA r (.slice ao r.lens.length ca) tv sv cv) 32)) r.w r.h)
  have B1 := hide (bel_alloc (w.alloc (Obj.cells (rawA r (.slice ao r.lens.length ca) tv sv cv) 32)) (Obj.cells #[.int .i64 r.w, .int .i64 r.h] 3))
  rw [World.size_alloc] at H1
  generalize w.alloc (Obj.cells (rawA r (.slice ao r.lens.length ca) tv sv cv) 32) = U at *
  have HF := hide (fun (u : World) (hu : Below U.heap.size U u) => raw_cells ((hu.block _ hlt).trans a1))
  have HA := hide a1
  clear a1
  generalize U.alloc (Obj.cells #[.int .i64 r.w, .int .i64 r.h] 3) = U1 at *
  refine (rWithin_any 1 64 _ [r.w, r.h] _ H1.out).mono ?_
  rintro e w1 ⟨rfl, rfl⟩
  cases q1 : allIn 1 64 [r.w, r.h]
  · have he : E = 3 := by rw [HE.out, HG.out, q1]; rfl
    subst he
    go_wp2
    go_ret
    exact ⟨rfl, bel_trans HB.out B1.out⟩
  · obtain ⟨s0, s1, s2, s3, s4, s5, s6, s13, s26⟩ := HF.out U1 B1.out
    go_wp2_with fail
    clear s0 s1 s2 s3 s4 s5 s6 s13 s26
    have B2 := hide (bel_trans B1.out (bel_alloc U1 (Obj.cells #[.int .i64 r.depth] 3)))
    refine (rWithin_any 1 16 _ [r.depth] _ (ints1 U1 r.depth)).mono ?_
    rintro e w1 ⟨rfl, rfl⟩
    generalize U1.alloc (Obj.cells #[.int .i64 r.depth] 3) = U2 at *
    cases q2 : allIn 1 16 [r.depth]
    · have he : E = 3 := by rw [HE.out, HG.out, q1, q2]; rfl
      subst he
      go_wp2
      go_ret
      exact ⟨rfl, bel_trans HB.out B2.out⟩
    · obtain ⟨s0, s1, s2, s3, s4, s5, s6, s13, s26⟩ := HF.out U2 B2.out
      go_wp2_with fail
      clear s0 s1 s2 s3 s4 s5 s6 s13 s26
      have B3 := hide (bel_trans B2.out (bel_alloc U2 (Obj.cells #[.int .i64 r.rows] 3)))
      refine (rWithin_any 1 r.h _ [r.rows] _ (ints1 U2 r.rows)).mono ?_
      rintro e w1 ⟨rfl, rfl⟩
      generalize U2.alloc (Obj.cells #[.int .i64 r.rows] 3) = U3 at *
      cases q3 : allIn 1 r.h [r.rows]
      · have he : E = 3 := by rw [HE.out, HG.out, q1, q2, q3]; rfl
        subst he
        go_wp2
        go_ret
        exact ⟨rfl, bel_trans HB.out B3.out⟩
      · have HE' := hide (show E = if 0 ≤ r.kind ∧ r.kind ≤ 7 then kindE r else 6 by rw [HE.out, HG.out, q1, q2, q3]; rfl)
        clear HE HG q1 q2 q3
        obtain ⟨s0, s1, s2, s3, s4, s5, s6, s13, s26⟩ := HF.out U3 B3.out
        go_wp2_with fail
        clear s0 s1 s2 s3 s4 s5 s6 s13 s26
        have B4 := hide (bel_trans B3.out (bel_alloc U3 (Obj.cells #[.int .i64 r.kind] 3)))
        refine (rWithin_any 0 7 _ [r.kind] _ (ints1 U3 r.kind)).mono ?_
        rintro e w1 ⟨rfl, rfl⟩
        generalize U3.alloc (Obj.cells #[.int .i64 r.kind] 3) = U4 at *
        cases q4 : allIn 0 7 [r.kind]
        · have he : E = 6 := by
            rw [HE'.out, if_neg]
            intro hk
            simp [allIn, hk] at q4
          subst he
          go_wp2
          go_ret
          exact ⟨rfl, bel_trans HB.out B4.out⟩
        · have hk4 : 0 ≤ r.kind ∧ r.kind ≤ 7 := by simpa [allIn] using q4
          have HE2 := hide (show E = if r.kind = 0 then (if r.lens.length = 0 then 0 else 1) else checkE r.lens by rw [HE'.out, if_pos hk4]; exact HK.out)
          clear HE' q4 hk4
          have HL4 := hide (HL.out.below (bel_trans HB.out B4.out) (Nat.le_refl _))
          obtain ⟨s0, s1, s2, s3, s4, s5, s6, s13, s26⟩ := HF.out U4 B4.out
          by_cases hk : r.kind = 0
          · have hk' : (r.kind != 0) = false := by simpa using hk
            rw [if_pos hk] at HE2
            by_cases hn : r.lens.length = 0
            · have he : E = 0 := by rw [HE2.out, if_pos hn]
              have hn' : decide (0 < (r.lens.length : Int)) = false := decide_eq_false (by omega)
              subst he
              go_wp2
              go_ret
              exact ⟨rfl, bel_trans HB.out B4.out⟩
            · have he : E = 1 := by rw [HE2.out, if_neg hn]
              have hn' : decide (0 < (r.lens.length : Int)) = true := decide_eq_true (by omega)
              subst he
              go_wp2
              go_ret
              exact ⟨rfl, bel_trans HB.out B4.out⟩
          · have hk' : (r.kind != 0) = true := by simpa using hk
            rw [if_neg hk] at HE2
            go_wp2_with fail
            refine (codeCheck_any _ r.lens _ HL4.out).mono ?_
            rintro e w1 ⟨rfl, rfl⟩
            go_wp2
            go_ret
            exact ⟨ret_int HE2.out.symm, bel_trans HB.out B4.out⟩
theorem plan_at {w : World} {b : Nat} {t : TypeId} {fr : Nat × Nat} {r : RawF} {lv tv sv cv : Value} (h : w.heap[b]? = some (.cells (rawA r lv tv sv cv) t fr)) :
    ∀ j v, (planA r.plan sv cv).toList[j]? = some v → w.cell? ⟨b, 7 + j, none⟩ = some v := by
  intro j v hj
  rw [Lib.cell_of_heap h, ← hj, ← Array.getElem?_toList, show (rawA r lv tv sv cv).toList = [.int .i64 r.w, .int .i64 r.h, .int .i64 r.depth, .int .i64 r.kind, .int .i64 r.rows, lv, tv] ++ (planA r.plan sv cv).toList from rfl, List.getElem?_append_right (by simp)]
  simp
set_option maxRecDepth 100000 in
set_option maxHeartbeats 1600000 in
theorem rawPlan_any (r : RawF) (lv tv sv cv : Value) (w : World) (hp : IsPlan w r.plan sv cv) :
    Calls Tryz.prog 21 #[.agg (rawA r lv tv sv cv)] w fun e w' => e = .returned (.int .i64 (pErr r)) ∧ Below w.heap.size w w' := by
  have HP := hide hp
  obtain ⟨⟨lo, lc, rfl, hll, _⟩, ⟨ko, kc, rfl, hkl, _⟩⟩ := hp
  have a1 := al1 w (Obj.cells (rawA r lv tv (.slice lo r.plan.spots.length lc) (.slice ko r.plan.curve.length kc)) 32)
  have HB := hide (bel_alloc w (Obj.cells (rawA r lv tv (.slice lo r.plan.spots.length lc) (.slice ko r.plan.curve.length kc)) 32))
  have hlt := (Array.getElem?_eq_some_iff.1 a1).1
  have HE := hide (show pErr r = if planE r.plan = 0 then (if spotsB r.w r.h r.plan.spots = true then 0 else 3) else planE r.plan from rfl)
  generalize pErr r = E at *
  have HT := hide (plan_at a1)
  have HCK := hide (fun (u : World) (hu : Below w.heap.size w u) => check_any r.plan _ _ u (HP.out.below hu (Nat.le_refl _)))
  go_enter Tryz.func21, Tryz.ntmps21
  go_wp2_with (refine wpList_load_at rfl 30 _ rfl _ 7 rfl (planA r.plan (.slice lo r.plan.spots.length lc) (.slice ko r.plan.curve.length kc)) _ HT.out Tryz.underlying30 rfl (by kernel_rfl) ?_)
  generalize w.alloc (Obj.cells (rawA r lv tv (.slice lo r.plan.spots.length lc) (.slice ko r.plan.curve.length kc)) 32) = U at *
  refine (HCK.out _ HB.out).mono ?_
  rintro e V1 ⟨rfl, hb1⟩
  have HB1 := hide (bel_trans HB.out hb1)
  by_cases hF : planE r.plan = 0
  · rw [if_pos hF] at HE
    rw [hF]
    obtain ⟨s0, s1, s2, s3, s4, s5, s6, s13, s26⟩ := raw_cells ((hb1.block _ hlt).trans a1)
    have g1 := al1 V1 (Obj.cells #[.int .i64 r.w, .int .i64 r.h] 89)
    have hb3 := bel_trans hb1 (bel_alloc V1 (Obj.cells #[.int .i64 r.w, .int .i64 r.h] 89))
    obtain ⟨q0, q1⟩ := bx2 g1
    obtain ⟨_, _, _, _, _, _, _, u13, _⟩ := raw_cells ((hb3.block _ hlt).trans a1)
    go_wp2_with fail
    clear s0 s1 s2 s3 s4 s5 s6 s13 s26 u13 q0 q1
    generalize V1.alloc (Obj.cells #[.int .i64 r.w, .int .i64 r.h] 89) = G at *
    have HB3 := hide (bel_trans HB.out hb3)
    refine (hasAll_any r.w r.h _ r.plan.spots _ (HP.out.spots.below HB3.out (Nat.le_refl _))).mono ?_
    rintro e V3 ⟨rfl, hb4⟩
    have HB4 := hide (bel_trans HB3.out hb4)
    cases hs : spotsB r.w r.h r.plan.spots
    · have he : E = 3 := by rw [HE.out, hs]; rfl
      subst he
      go_wp2
      go_ret
      exact ⟨rfl, HB4.out⟩
    · have he : E = 0 := by rw [HE.out, hs]; rfl
      subst he
      go_wp2
      go_ret
      exact ⟨rfl, HB4.out⟩
  · rw [if_neg hF] at HE
    have hn : (planE r.plan != 0) = true := by simpa using hF
    have he : E = planE r.plan := HE.out
    subst he
    go_wp2
    go_ret
    exact ⟨rfl, HB1.out⟩
theorem stZ_kind0 {r : RawF} (hk : r.kind = 0) (s : List UInt8) (n : Int) : stE r s n = unpE s r.depth (n * r.w) ∧ stZ r s n = unpV s r.depth (n * r.w) := by
  have h1 : stE r s n = unpE s r.depth (n * r.w) := by rw [stE, if_pos hk]
  refine ⟨h1, ?_⟩
  rw [stZ, h1, if_pos hk]
  split
  · rfl
  · rename_i hn
    rw [unpV, if_neg]
    intro hf
    have hf' := hf
    simp only [unpFine, decide_eq_true_eq] at hf'
    exact hn (by rw [unpE, if_pos ⟨hf'.1, hf'.2.1⟩, if_pos hf'.2.2.1, if_pos hf])
set_option maxRecDepth 100000 in
set_option maxHeartbeats 1600000 in
theorem readStrip_any (r : RawF) (lv tv sv cv : Value) (s : List UInt8) (n : Int) (w : World) (h : Head r) (hn : 1 ≤ n ∧ n ≤ 64) (hl : IsInts w lv r.lens) :
    Calls Tryz.prog 22 #[.agg (rawA r lv tv sv cv), .string (str s), .int .i64 n] w fun e w' => ∃ v, e = .returned (.tuple #[v, .int .i64 (stE r s n)]) ∧ IsInts w' v (stZ r s n) ∧ Below w.heap.size w w' := by
  have HL := hide hl
  obtain ⟨ao, ca, rfl, _, _⟩ := hl
  have a1 := al1 w (Obj.cells (rawA r (.slice ao r.lens.length ca) tv sv cv) 32)
  have HB := hide (bel_alloc w (Obj.cells (rawA r (.slice ao r.lens.length ca) tv sv cv) 32))
  have hlt := (Array.getElem?_eq_some_iff.1 a1).1
  have hd := h.depth
  have hw := h.w
  have hm := mul_bnd ⟨by omega, hn.2⟩ ⟨by omega, hw.2⟩
  obtain ⟨s0, s1, s2, s3, s4, s5, s6, s13, s26⟩ := raw_cells a1
  by_cases hk : r.kind = 0
  · obtain ⟨e1, e2⟩ := stZ_kind0 hk s n
    have hk' : (r.kind == 0) = true := by simpa using hk
    obtain ⟨M, hM⟩ : ∃ M, n * r.w = M := ⟨_, rfl⟩
    rw [hM] at hm e1 e2
    rw [e1, e2]
    have t1 : IntKind.i64.wrap M = M := IntWalk.i64_in _ (by omega)
    clear hd hw e1 e2 h
    go_enter Tryz.func22, Tryz.ntmps22
    go_wp2_with fail
    refine (unpackC_any (str s) r.depth M _).mono ?_
    rintro e w1 ⟨v, rfl, hv, hb1⟩
    rw [str_data] at hv ⊢
    go_wp2
    go_ret2
    exact ⟨_, rfl, hv, bel_trans HB.out hb1⟩
  · have hk' : (r.kind == 0) = false := by simpa using hk
    have HE := hide (show stE r s n = if readDE s r.w n r.kind r.lens = 0 then (if deepOk r.depth (readDZ s r.w n r.kind r.lens) = true then 0 else 1) else readDE s r.w n r.kind r.lens by rw [stE, if_neg hk])
    have HZ := hide (show stZ r s n = if stE r s n = 0 then readDZ s r.w n r.kind r.lens else [] by rw [stZ, if_neg hk])
    generalize stE r s n = E at *
    generalize stZ r s n = Z at *
    have HR := hide (fun (u : World) (hu : Below w.heap.size w u) => readD_any (str s) r.w n r.kind _ r.lens u (HL.out.below hu (Nat.le_refl _)))
    rw [str_data] at HR
    generalize readDE s r.w n r.kind r.lens = F at *
    generalize readDZ s r.w n r.kind r.lens = Y at *
    generalize readDW s r.w n r.kind r.lens = W' at *
    generalize readDH s r.w n r.kind r.lens = H' at *
    clear h hm
    go_enter Tryz.func22, Tryz.ntmps22
    go_wp2_with fail
    clear s0 s1 s2 s3 s4 s5 s6 s13 s26
    generalize w.alloc (Obj.cells (rawA r (.slice ao r.lens.length ca) tv sv cv) 32) = U at *
    refine (HR.out _ HB.out).mono ?_
    rintro e V1 ⟨v, rfl, hv, hb1⟩
    have HV := hide hv
    obtain ⟨vo, vc, rfl, _, _⟩ := hv
    have g1 := al1 V1 (Obj.cells #[.int .i64 W', .int .i64 H', .slice vo Y.length vc] 34)
    have hb3 := bel_trans hb1 (bel_alloc V1 (Obj.cells #[.int .i64 W', .int .i64 H', .slice vo Y.length vc] 34))
    have HV1 := hide (HV.out.alloc (Obj.cells #[.int .i64 W', .int .i64 H', .slice vo Y.length vc] 34))
    have HB3 := hide (bel_trans HB.out hb3)
    obtain ⟨p0, p1, p2⟩ := cells3 g1
    obtain ⟨s0, s1, s2, s3, s4, s5, s6, s13, s26⟩ := raw_cells ((hb3.block _ hlt).trans a1)
    by_cases hF : F = 0
    · subst hF
      rw [if_pos rfl] at HE
      go_wp2_with fail
      refine (hasDepth_any _ Y r.depth _ hd HV1.out).mono ?_
      rintro e V2 ⟨rfl, rfl⟩
      cases hq : deepOk r.depth Y
      · have he : E = 1 := by rw [HE.out, hq]; rfl
        have hz : Z = [] := by rw [HZ.out, he]; rfl
        subst he hz
        go_wp2
        go_ret2
        exact ⟨_, rfl, IsInts.nil _, HB3.out⟩
      · have he : E = 0 := by rw [HE.out, hq]; rfl
        have hz : Z = Y := by rw [HZ.out, he]; rfl
        subst he hz
        go_wp2
        go_ret2
        exact ⟨_, rfl, HV1.out, HB3.out⟩
    · have hn' : (F != 0) = true := by simpa using hF
      rw [if_neg hF] at HE
      have he : E = F := HE.out
      have hz : Z = [] := by rw [HZ.out, he, if_neg hF]
      subst he hz
      go_wp2
      go_ret2
      exact ⟨_, rfl, IsInts.nil _, HB3.out⟩
def wsE (r : RawF) (l : List Int) (n : Int) : Int := if r.kind = 0 then packE l r.depth else writeDE r.w n l r.kind r.lens
def wsS (r : RawF) (l : List Int) (n : Int) : List UInt8 := if r.kind = 0 then packS l r.depth else writeDS r.w n l r.kind r.lens
set_option maxRecDepth 100000 in
set_option maxHeartbeats 1600000 in
theorem writeStrip_any (r : RawF) (lv tv sv cv : Value) (v : Value) (l : List Int) (n : Int) (w : World) (hl : IsInts w lv r.lens) (hv : IsInts w v l) :
    Calls Tryz.prog 34 #[.agg (rawA r lv tv sv cv), v, .int .i64 n] w fun e w' => e = .returned (.tuple #[.string (str (wsS r l n)), .int .i64 (wsE r l n)]) ∧ Below w.heap.size w w' := by
  have HL := hide hl
  have HV := hide hv
  obtain ⟨ao, ca, rfl, _, _⟩ := hl
  obtain ⟨vo, vc, rfl, _, _⟩ := hv
  have a1 := al1 w (Obj.cells (rawA r (.slice ao r.lens.length ca) tv sv cv) 32)
  have HB := hide (bel_alloc w (Obj.cells (rawA r (.slice ao r.lens.length ca) tv sv cv) 32))
  obtain ⟨s0, s1, s2, s3, s4, s5, s6, s13, s26⟩ := raw_cells a1
  by_cases hk : r.kind = 0
  · have hk' : (r.kind == 0) = true := by simpa using hk
    rw [wsS, wsE, if_pos hk, if_pos hk]
    go_enter Tryz.func34, Tryz.ntmps34
    go_wp2_with fail
    clear s0 s1 s2 s3 s4 s5 s6 s13 s26
    refine (pack_any _ l r.depth _ (HV.out.below HB.out (Nat.le_refl _))).mono ?_
    rintro e w1 ⟨rfl, hb1⟩
    go_wp2
    go_ret2
    exact ⟨rfl, bel_trans HB.out hb1⟩
  · have hk' : (r.kind == 0) = false := by simpa using hk
    rw [wsS, wsE, if_neg hk, if_neg hk]
    go_enter Tryz.func34, Tryz.ntmps34
    go_wp2_with fail
    clear s0 s1 s2 s3 s4 s5 s6 s13 s26
    refine (writeD_any r.w n _ _ l r.kind r.lens _ (HV.out.below HB.out (Nat.le_refl _)) (HL.out.below HB.out (Nat.le_refl _))).mono ?_
    rintro e w1 ⟨rfl, hb1⟩
    go_wp2
    go_ret2
    exact ⟨rfl, bel_trans HB.out hb1⟩
end Go.Proofs.YtanebhbfekcplaaGreat

namespace Go.Proofs.YtanebhbfekcplaaGreat
set_option linter.unusedVariables false
open Go.RowKit
def in32 (n : Int) : Prop := -2147483648 ≤ n ∧ n ≤ 2147483647
instance (n : Int) : Decidable (in32 n) := inferInstanceAs (Decidable (_ ∧ _))
def num4 (n : Int) : List UInt8 :=
  [UInt8.ofNat ((n % 4294967296).toNat / 16777216 % 256), UInt8.ofNat ((n % 4294967296).toNat / 65536 % 256), UInt8.ofNat ((n % 4294967296).toNat / 256 % 256), UInt8.ofNat ((n % 4294967296).toNat % 256)]
def u32 (a b c d : UInt8) : Nat := a.toNat * 16777216 + b.toNat * 65536 + c.toNat * 256 + d.toNat
def sgn32 (u : Nat) : Int := if u < 2147483648 then u else u - 4294967296
def numP : List UInt8 → Option (Int × List UInt8)
  | a :: b :: c :: d :: t => some (sgn32 (u32 a b c d), t)
  | _ => none
theorem num4_length (n : Int) : (num4 n).length = 4 := rfl
theorem num4_u32 (a b c d : UInt8) : num4 (sgn32 (u32 a b c d)) = [a, b, c, d] := by
  have ha := a.toNat_lt
  have hb := b.toNat_lt
  have hc := c.toNat_lt
  have hd := d.toNat_lt
  have e : (sgn32 (u32 a b c d) % 4294967296).toNat = u32 a b c d := by
    unfold sgn32 u32
    split <;> omega
  unfold num4
  rw [e]
  unfold u32
  have e1 : (a.toNat * 16777216 + b.toNat * 65536 + c.toNat * 256 + d.toNat) / 16777216 % 256 = a.toNat := by omega
  have e2 : (a.toNat * 16777216 + b.toNat * 65536 + c.toNat * 256 + d.toNat) / 65536 % 256 = b.toNat := by omega
  have e3 : (a.toNat * 16777216 + b.toNat * 65536 + c.toNat * 256 + d.toNat) / 256 % 256 = c.toNat := by omega
  have e4 : (a.toNat * 16777216 + b.toNat * 65536 + c.toNat * 256 + d.toNat) % 256 = d.toNat := by omega
  rw [e1, e2, e3, e4]
  simp
theorem sgn32_in (a b c d : UInt8) : in32 (sgn32 (u32 a b c d)) := by
  have ha := a.toNat_lt
  have hb := b.toNat_lt
  have hc := c.toNat_lt
  have hd := d.toNat_lt
  unfold in32 sgn32 u32
  split <;> omega
theorem numP_num4 {n : Int} (h : in32 n) (t : List UInt8) : numP (num4 n ++ t) = some (n, t) := by
  show some (sgn32 (u32 _ _ _ _), t) = _
  congr 2
  unfold in32 at h
  obtain ⟨N, hN⟩ : ∃ N, (n % 4294967296).toNat = N := ⟨_, rfl⟩
  have hlt : N < 4294967296 := by omega
  rw [hN]
  unfold u32
  simp only [UInt8.toNat_ofNat']
  unfold sgn32
  split <;> omega
structure Cod {α : Type} (p : List UInt8 → Option (α × List UInt8)) (wr : α → List UInt8) (ok : α → Prop) : Prop where
  sound : ∀ l a t, p l = some (a, t) → l = wr a ++ t ∧ ok a
  full : ∀ a t, ok a → p (wr a ++ t) = some (a, t)
theorem numCod : Cod numP num4 in32 where
  sound := by
    intro l n t h
    match l, h with
    | a :: b :: c :: d :: t', h =>
      simp only [numP, Option.some.injEq, Prod.mk.injEq] at h
      obtain ⟨rfl, rfl⟩ := h
      exact ⟨by rw [num4_u32]; rfl, sgn32_in a b c d⟩
  full := fun n t h => numP_num4 h t
def manyP {α : Type} (p : List UInt8 → Option (α × List UInt8)) : Nat → List UInt8 → Option (List α × List UInt8)
  | 0, l => some ([], l)
  | k + 1, l => match manyP p k l with
    | none => none
    | some (ys, t) => match p t with
      | none => none
      | some (a, t') => some (ys ++ [a], t')
theorem manyP_none {α : Type} {p : List UInt8 → Option (α × List UInt8)} {k n : Nat} {l : List UInt8} (h : manyP p k l = none) (hn : k ≤ n) : manyP p n l = none := by
  induction n with
  | zero => rw [Nat.le_zero.1 hn] at h; exact h
  | succ n ih =>
    by_cases e : k = n + 1
    · rw [← e]; exact h
    · rw [manyP, ih (by omega)]
theorem manyP_stop {α : Type} {p : List UInt8 → Option (α × List UInt8)} {k n : Nat} {l t : List UInt8} {ys : List α} (h : manyP p k l = some (ys, t)) (hp : p t = none) (hn : k < n) : manyP p n l = none :=
  manyP_none (k := k + 1) (by rw [manyP, h]; simp only [hp]) hn
theorem manyP_next {α : Type} {p : List UInt8 → Option (α × List UInt8)} {k : Nat} {l t t' : List UInt8} {ys : List α} {a : α} (h : manyP p k l = some (ys, t)) (hp : p t = some (a, t')) : manyP p (k + 1) l = some (ys ++ [a], t') := by
  rw [manyP, h]; simp only [hp]
theorem manyP_length {α : Type} {p : List UInt8 → Option (α × List UInt8)} {n : Nat} {l t : List UInt8} {ys : List α} (h : manyP p n l = some (ys, t)) : ys.length = n := by
  induction n generalizing ys t with
  | zero => simp only [manyP, Option.some.injEq, Prod.mk.injEq] at h; rw [← h.1]; rfl
  | succ n ih =>
    rw [manyP] at h
    split at h
    · exact absurd h (by simp)
    · rename_i ys' t' h1
      split at h
      · exact absurd h (by simp)
      · simp only [Option.some.injEq, Prod.mk.injEq] at h
        rw [← h.1, List.length_append, ih h1]; rfl
theorem manyCod {α : Type} {p : List UInt8 → Option (α × List UInt8)} {wr : α → List UInt8} {ok : α → Prop} (c : Cod p wr ok) (n : Nat) : Cod (manyP p n) (fun ys => ys.flatMap wr) (fun ys => ys.length = n ∧ ∀ a ∈ ys, ok a) where
  sound := by
    intro l ys t h
    refine ⟨?_, manyP_length h, ?_⟩
    · induction n generalizing ys t with
      | zero => simp only [manyP, Option.some.injEq, Prod.mk.injEq] at h; rw [← h.1, ← h.2]; rfl
      | succ n ih =>
        rw [manyP] at h
        split at h
        · exact absurd h (by simp)
        · rename_i ys' t' h1
          split at h
          · exact absurd h (by simp)
          · rename_i a t'' h2
            simp only [Option.some.injEq, Prod.mk.injEq] at h
            rw [ih ys' t' h1, (c.sound _ _ _ h2).1, ← h.1, ← h.2]
            simp
    · induction n generalizing ys t with
      | zero => simp only [manyP, Option.some.injEq, Prod.mk.injEq] at h; rw [← h.1]; simp
      | succ n ih =>
        rw [manyP] at h
        split at h
        · exact absurd h (by simp)
        · rename_i ys' t' h1
          split at h
          · exact absurd h (by simp)
          · rename_i a t'' h2
            simp only [Option.some.injEq, Prod.mk.injEq] at h
            intro b hb
            rw [← h.1, List.mem_append] at hb
            rcases hb with hb | hb
            · exact ih ys' t' h1 b hb
            · rw [List.mem_singleton.1 hb]; exact (c.sound _ _ _ h2).2
  full := by
    intro ys t h
    obtain ⟨h1, h2⟩ := h
    induction n generalizing ys t with
    | zero => rw [List.eq_nil_of_length_eq_zero h1]; rfl
    | succ n ih =>
      obtain ⟨bs, b, rfl⟩ : ∃ bs b, ys = bs ++ [b] := ⟨ys.dropLast, ys.getLast (by intro e; rw [e] at h1; simp at h1), (List.dropLast_concat_getLast _).symm⟩
      have e1 : bs.length = n := by simpa using h1
      have := ih bs (wr b ++ t) e1 (fun a ha => h2 a (by simp [ha]))
      rw [manyP, show (fun ys => List.flatMap wr ys) (bs ++ [b]) ++ t = bs.flatMap wr ++ (wr b ++ t) by simp, this]
      simp only [c.full b t (h2 b (by simp))]
def listP {α : Type} (p : List UInt8 → Option (α × List UInt8)) (b : List UInt8 → Nat) (l : List UInt8) : Option (List α × List UInt8) :=
  match numP l with
  | none => none
  | some (n, t) => if 0 ≤ n ∧ n ≤ (b t : Int) then manyP p n.toNat t else none
def listW {α : Type} (wr : α → List UInt8) (ys : List α) : List UInt8 := num4 ys.length ++ ys.flatMap wr
theorem listP_sound {α : Type} {p : List UInt8 → Option (α × List UInt8)} {wr : α → List UInt8} {ok : α → Prop} (c : Cod p wr ok) {b : List UInt8 → Nat} {l : List UInt8} {ys : List α} {t : List UInt8} (h : listP p b l = some (ys, t)) :
    l = listW wr ys ++ t ∧ (∀ a ∈ ys, ok a) ∧ in32 ys.length ∧ ys.length ≤ b (ys.flatMap wr ++ t) := by
  rw [listP] at h
  split at h
  · exact absurd h (by simp)
  · rename_i n u h1
    split at h
    · rename_i h2
      obtain ⟨e1, e2, e3⟩ := (manyCod c n.toNat).sound _ _ _ h
      obtain ⟨f1, f2⟩ := numCod.sound _ _ _ h1
      have en : ((ys.length : Nat) : Int) = n := by omega
      subst e1
      refine ⟨?_, e3, by rw [en]; exact f2, by omega⟩
      rw [f1, listW, en, List.append_assoc]
    · exact absurd h (by simp)
theorem listP_full {α : Type} {p : List UInt8 → Option (α × List UInt8)} {wr : α → List UInt8} {ok : α → Prop} (c : Cod p wr ok) {b : List UInt8 → Nat} {ys : List α} {t : List UInt8} (h1 : ∀ a ∈ ys, ok a) (h2 : in32 ys.length) (h3 : ys.length ≤ b (ys.flatMap wr ++ t)) :
    listP p b (listW wr ys ++ t) = some (ys, t) := by
  rw [listP, listW, List.append_assoc, numP_num4 h2]
  simp only
  rw [if_pos ⟨by omega, by omega⟩, Int.toNat_natCast]
  exact (manyCod c ys.length).full ys t ⟨rfl, h1⟩
def textP (l : List UInt8) : Option (List UInt8 × List UInt8) :=
  match numP l with
  | none => none
  | some (n, t) => if 0 ≤ n ∧ n ≤ (t.length : Int) then some (t.take n.toNat, t.drop n.toNat) else none
def textW (s : List UInt8) : List UInt8 := num4 s.length ++ s
theorem textCod : Cod textP textW (fun s => in32 s.length) where
  sound := by
    intro l s t h
    rw [textP] at h
    split at h
    · exact absurd h (by simp)
    · rename_i n u h1
      split at h
      · rename_i h2
        obtain ⟨f1, f2⟩ := numCod.sound _ _ _ h1
        simp only [Option.some.injEq, Prod.mk.injEq] at h
        obtain ⟨rfl, rfl⟩ := h
        have e : ((u.take n.toNat).length : Int) = n := by rw [List.length_take]; omega
        exact ⟨by rw [textW, e, List.append_assoc, List.take_append_drop, f1], by rw [e]; exact f2⟩
      · exact absurd h (by simp)
  full := by
    intro s t h
    rw [textP, textW, List.append_assoc, numP_num4 h]
    simp only
    rw [if_pos ⟨by omega, by rw [List.length_append]; omega⟩, Int.toNat_natCast, List.take_left' rfl, List.drop_left' rfl]
def pairP (l : List UInt8) : Option (Pt × List UInt8) :=
  match numP l with
  | none => none
  | some (x, t) => match numP t with
    | none => none
    | some (y, u) => some ((x, y), u)
def pairW (p : Pt) : List UInt8 := num4 p.1 ++ num4 p.2
theorem pairCod : Cod pairP pairW (fun p => in32 p.1 ∧ in32 p.2) where
  sound := by
    intro l p t h
    rw [pairP] at h
    split at h
    · exact absurd h (by simp)
    · rename_i x u h1
      split at h
      · exact absurd h (by simp)
      · rename_i y v h2
        simp only [Option.some.injEq, Prod.mk.injEq] at h
        obtain ⟨rfl, rfl⟩ := h
        obtain ⟨f1, f2⟩ := numCod.sound _ _ _ h1
        obtain ⟨g1, g2⟩ := numCod.sound _ _ _ h2
        exact ⟨by rw [pairW, List.append_assoc, ← g1, f1], f2, g2⟩
  full := by
    intro p t h
    rw [pairP, pairW, List.append_assoc, numP_num4 h.1]
    simp only
    rw [numP_num4 h.2]
end Go.Proofs.YtanebhbfekcplaaGreat

namespace Go.Proofs.YtanebhbfekcplaaGreat
set_option linter.unusedVariables false
open Go.RowKit
abbrev panV : Value := .iface 35 (.int .i64 1)
abbrev panE : Ending := .panicked [{ v := panV, recovered := false }]
structure RSt (B b : Nat) (w w' : World) : Prop where
  bel : Below B w w'
  keep : ∀ k, k < w.heap.size → k ≠ b → w'.heap[k]? = w.heap[k]?
theorem RSt.refl (B b : Nat) (w : World) : RSt B b w w := ⟨Below.refl _ _, fun _ _ _ => rfl⟩
theorem RSt.trans {B b : Nat} {w w' w'' : World} (h : RSt B b w w') (k : RSt B b w' w'') : RSt B b w w'' :=
  ⟨h.bel.trans k.bel, fun j h1 h2 => (k.keep j (Nat.lt_of_lt_of_le h1 h.bel.size) h2).trans (h.keep j h1 h2)⟩
theorem RSt.alloc {B b : Nat} {w : World} (hB : B ≤ w.heap.size) (o : Obj) : RSt B b w (w.alloc o) := ⟨(bel_alloc w o).mono hB, fun k h1 _ => (bel_alloc w o).block k h1⟩
theorem RSt.drew {B b : Nat} {w : World} : RSt B b w w.drew := ⟨(Below.refl _ _).drew, fun _ _ _ => rfl⟩
theorem RSt.drews (B b n : Nat) (w : World) : RSt B b w (w.drewN n) := ⟨⟨rfl, rfl, rfl, Nat.le_refl _, fun _ _ => rfl⟩, fun _ _ _ => rfl⟩
def IsRd (b : Nat) (l : List UInt8) (w : World) : Prop := w.heap[b]? = some (.cells #[.string (str l)] 115 (0, 0))
def RPost {α : Type} (B b : Nat) (l : List UInt8) (w : World) (p : List UInt8 → Option (α × List UInt8)) (ret : α → Value) (e : Ending) (w' : World) : Prop :=
  RSt B b w w' ∧ ((∃ a t, p l = some (a, t) ∧ e = .returned (ret a) ∧ IsRd b t w') ∨ (p l = none ∧ e = panE))
set_option maxRecDepth 100000 in
theorem must_yes (w : World) : Calls Tryz.prog 80 #[.bool true] w fun e w' => e = .returned (.tuple #[]) ∧ w' = w := by
  go_enter Tryz.func80, Tryz.ntmps80
  go_wp2
  go_end0
  exact ⟨rfl, rfl⟩
set_option maxRecDepth 100000 in
theorem must_no (w : World) : Calls Tryz.prog 80 #[.bool false] w fun e w' => e = panE ∧ w' = w := by
  go_enter Tryz.func80, Tryz.ntmps80
  go_wp2
  exact ⟨rfl, rfl, rfl⟩
def takeP (n : Int) (l : List UInt8) : Option (List UInt8 × List UInt8) := if 0 ≤ n ∧ n ≤ (l.length : Int) then some (l.take n.toNat, l.drop n.toNat) else none
theorem rd_set {B b : Nat} {l t : List UInt8} {w : World} (hB : B ≤ b) (h : IsRd b l w) : IsRd b t (w.setCell ⟨b, 0, none⟩ (.string (str t))) ∧ RSt B b w (w.setCell ⟨b, 0, none⟩ (.string (str t))) := by
  refine ⟨?_, (Below.refl B w).setCell (p := ⟨b, 0, none⟩) hB _, fun k _ hk => Below.heap_setCell _ _ _ _ (fun e => hk e)⟩
  unfold IsRd at h ⊢
  simp [World.setCell, Array.getElem?_modify, h]
theorem rd_alloc {b : Nat} {l : List UInt8} {w : World} (h : IsRd b l w) (o : Obj) : IsRd b l (w.alloc o) := ((bel_alloc w o).block _ (Array.getElem?_eq_some_iff.1 h).1).trans h
set_option maxRecDepth 100000 in
set_option maxHeartbeats 800000 in
theorem rtake_any (B b : Nat) (l : List UInt8) (n : Int) (w : World) (hB : B ≤ b) (hBw : B ≤ w.heap.size) (h : IsRd b l w) (hl : l.length ≤ 140737488355328) :
    Calls Tryz.prog 127 #[.pointer (some ⟨b, 0, none⟩), .int .i64 n] w (RPost B b l w (takeP n) (fun s => .string (str s))) := by
  have c0 : w.cell? ⟨b, 0, none⟩ = some (.string (str l)) := by rw [Lib.cell_of_heap h]; rfl
  have ha := rd_alloc h (Obj.cells #[.int .i64 n] 3)
  have d0 : (w.alloc (Obj.cells #[.int .i64 n] 3)).cell? ⟨b, 0, none⟩ = some (.string (str l)) := by rw [Lib.cell_of_heap ha]; rfl
  have f0 : (w.alloc (Obj.cells #[.int .i64 n] 3)).frozen? ⟨b, 0, none⟩ = false := Lib.frozen_of_heap ha 0
  have HS := hide (RSt.alloc (b := b) hBw (Obj.cells #[.int .i64 n] 3))
  have HP := hide (show takeP n l = if 0 ≤ n ∧ n ≤ (l.length : Int) then some (l.take n.toNat, l.drop n.toNat) else none from rfl)
  have HI := hide (ints1 w n)
  have hs : (str l).size = l.length := str_size l
  by_cases hn : 0 ≤ n ∧ n ≤ (l.length : Int)
  · obtain ⟨N, rfl⟩ := Int.eq_ofNat_of_zero_le hn.1
    have hN : N ≤ l.length := by omega
    rw [if_pos hn, Int.toNat_natCast] at HP
    have HX1 := hide (show (str l).extract 0 N = str (l.take N) by rw [Lib.extract_eq]; simp [str])
    have HX2 := hide (show (str l).extract N l.length = str (l.drop N) by rw [Lib.extract_eq, str_data, List.take_of_length_le (by rw [List.length_drop]; exact Nat.le_refl _)]; rfl)
    have HA := hide (show allIn 0 l.length [(N : Int)] = true by simp [allIn]; omega)
    obtain ⟨R1, R2⟩ := rd_set (B := B) (t := l.drop N) hB ha
    have HR1 := hide R1
    have HR2 := hide (HS.out.trans R2)
    clear R1 R2 h ha
    generalize str l = S at *
    go_enter Tryz.func127, Tryz.ntmps127
    go_wp2_with fail
    refine (rWithin_any 0 l.length _ [(N : Int)] _ HI.out).mono ?_
    rintro e w1 ⟨rfl, rfl⟩
    rw [HA.out]
    go_wp2_with fail
    refine (must_yes _).mono ?_
    rintro e w1 ⟨rfl, rfl⟩
    go_wp2
    go_ret
    have e2 := HX2.out
    rw [e2]
    exact ⟨HR2.out, .inl ⟨_, _, HP.out, congrArg (fun x => Ending.returned (.string x)) HX1.out, HR1.out⟩⟩
  · rw [if_neg hn] at HP
    have HA := hide (show allIn 0 l.length [n] = false by simp only [allIn, List.all_cons, List.all_nil, Bool.and_true]; exact decide_eq_false hn)
    clear h ha
    generalize str l = S at *
    go_enter Tryz.func127, Tryz.ntmps127
    go_wp2_with fail
    refine (rWithin_any 0 l.length _ [n] _ HI.out).mono ?_
    rintro e w1 ⟨rfl, rfl⟩
    rw [HA.out]
    go_wp2_with fail
    refine (must_no _).mono ?_
    rintro e w1 ⟨rfl, rfl⟩
    exact ⟨rfl, HS.out, .inr ⟨HP.out, rfl⟩⟩
theorem or_join {x y : Int} (i : Nat) (hx₀ : 0 ≤ x) (hx : x % 2 ^ i = 0) (hx₁ : x < 2 ^ 32) (h₀ : 0 ≤ y) (h₁ : y < 2 ^ i) (h₂ : y < 2 ^ 32) : bits .or .u32 x y = x + y :=
  bits_join .u32 32 (by decide) (fun n h0 h1 => by rw [IntKind.wrap_u32]; omega) i x y hx₀ hx hx₁ h₀ h₁ h₂
theorem wrap_sgn (U : Nat) (h : U < 4294967296) : wrap64 (wrap32 (U : Int)) = sgn32 U := by
  unfold sgn32 wrap64 wrap32
  split <;> omega
theorem word_eq (c0 c1 c2 c3 : UInt8) : wrap64 (wrap32 (bits .or .u32 (bits .or .u32 (bits .or .u32 (((c0.toNat : Int)) % 4294967296 * 16777216 % 4294967296) ((c1.toNat : Int) % 4294967296 * 65536 % 4294967296)) ((c2.toNat : Int) % 4294967296 * 256 % 4294967296)) ((c3.toNat : Int) % 4294967296))) = sgn32 (u32 c0 c1 c2 c3) := by
  have h0 := c0.toNat_lt
  have h1 := c1.toNat_lt
  have h2 := c2.toNat_lt
  have h3 := c3.toNat_lt
  have hU : u32 c0 c1 c2 c3 < 4294967296 := by unfold u32; omega
  rw [← wrap_sgn _ hU]
  congr 2
  have e0 : (c0.toNat : Int) % 4294967296 * 16777216 % 4294967296 = c0.toNat * 16777216 := by omega
  have e1 : (c1.toNat : Int) % 4294967296 * 65536 % 4294967296 = c1.toNat * 65536 := by omega
  have e2 : (c2.toNat : Int) % 4294967296 * 256 % 4294967296 = c2.toNat * 256 := by omega
  have e3 : (c3.toNat : Int) % 4294967296 = c3.toNat := by omega
  rw [e0, e1, e2, e3]
  have f1 : bits .or .u32 ((c0.toNat : Int) * 16777216) ((c1.toNat : Int) * 65536) = (c0.toNat : Int) * 16777216 + (c1.toNat : Int) * 65536 := or_join 24 (by omega) (by omega) (by omega) (by omega) (by omega) (by omega)
  have f2 : bits .or .u32 ((c0.toNat : Int) * 16777216 + (c1.toNat : Int) * 65536) ((c2.toNat : Int) * 256) = (c0.toNat : Int) * 16777216 + (c1.toNat : Int) * 65536 + (c2.toNat : Int) * 256 := or_join 16 (by omega) (by omega) (by omega) (by omega) (by omega) (by omega)
  have f3 : bits .or .u32 ((c0.toNat : Int) * 16777216 + (c1.toNat : Int) * 65536 + (c2.toNat : Int) * 256) (c3.toNat : Int) = (c0.toNat : Int) * 16777216 + (c1.toNat : Int) * 65536 + (c2.toNat : Int) * 256 + c3.toNat := or_join 8 (by omega) (by omega) (by omega) (by omega) (by omega) (by omega)
  rw [f1, f2, f3, u32]
  omega
set_option maxRecDepth 100000 in
set_option maxHeartbeats 800000 in
theorem rnum_any (B b : Nat) (l : List UInt8) (w : World) (hB : B ≤ b) (hBw : B ≤ w.heap.size) (h : IsRd b l w) (hl : l.length ≤ 140737488355328) :
    Calls Tryz.prog 82 #[.pointer (some ⟨b, 0, none⟩)] w (RPost B b l w numP (fun n => .int .i64 n)) := by
  have HT := hide (rtake_any B b l 4 w hB hBw h hl)
  match l, HT with
  | c0 :: c1 :: c2 :: c3 :: t, HT =>
    have HP := hide (show takeP 4 (c0 :: c1 :: c2 :: c3 :: t) = some ([c0, c1, c2, c3], t) by rw [takeP, if_pos ⟨by decide, by simp; omega⟩]; rfl)
    have q0 : (str [c0, c1, c2, c3]).size = 4 := rfl
    go_enter Tryz.func82, Tryz.ntmps82
    go_wp2_with fail
    refine (HT.out).mono ?_
    rintro e w1 ⟨hS, hc⟩
    rw [HP.out] at hc
    obtain ⟨a, u, he, rfl, hR⟩ : ∃ a u, some ([c0, c1, c2, c3], t) = some (a, u) ∧ e = .returned (.string (str a)) ∧ IsRd b u w1 := by
      rcases hc with hc | ⟨hc, _⟩
      · exact hc
      · cases hc
    cases he
    have HR := hide hR
    have HS := hide hS
    clear hR hS HT h
    go_upto_region 2 with fail
    go_quiet (fail)
    go_wp2
    go_ret
    exact ⟨HS.out.trans (RSt.drews _ _ _ _), .inl ⟨_, _, rfl, ret_int (word_eq c0 c1 c2 c3), HR.out⟩⟩
  | [], HT =>
    have HP := hide (show takeP 4 [] = none from rfl)
    go_enter Tryz.func82, Tryz.ntmps82
    go_wp2_with fail
    refine (HT.out).mono ?_
    rintro e w1 ⟨hS, hc⟩
    rw [HP.out] at hc
    rcases hc with ⟨_, _, hc, _⟩ | ⟨_, rfl⟩
    · cases hc
    · exact ⟨rfl, hS, .inr ⟨rfl, rfl⟩⟩
  | [x0], HT =>
    have HP := hide (show takeP 4 [x0] = none from rfl)
    go_enter Tryz.func82, Tryz.ntmps82
    go_wp2_with fail
    refine (HT.out).mono ?_
    rintro e w1 ⟨hS, hc⟩
    rw [HP.out] at hc
    rcases hc with ⟨_, _, hc, _⟩ | ⟨_, rfl⟩
    · cases hc
    · exact ⟨rfl, hS, .inr ⟨rfl, rfl⟩⟩
  | [x0, x1], HT =>
    have HP := hide (show takeP 4 [x0, x1] = none from rfl)
    go_enter Tryz.func82, Tryz.ntmps82
    go_wp2_with fail
    refine (HT.out).mono ?_
    rintro e w1 ⟨hS, hc⟩
    rw [HP.out] at hc
    rcases hc with ⟨_, _, hc, _⟩ | ⟨_, rfl⟩
    · cases hc
    · exact ⟨rfl, hS, .inr ⟨rfl, rfl⟩⟩
  | [x0, x1, x2], HT =>
    have HP := hide (show takeP 4 [x0, x1, x2] = none from rfl)
    go_enter Tryz.func82, Tryz.ntmps82
    go_wp2_with fail
    refine (HT.out).mono ?_
    rintro e w1 ⟨hS, hc⟩
    rw [HP.out] at hc
    rcases hc with ⟨_, _, hc, _⟩ | ⟨_, rfl⟩
    · cases hc
    · exact ⟨rfl, hS, .inr ⟨rfl, rfl⟩⟩
theorem textP_eq {l t : List UInt8} {n : Int} (h : numP l = some (n, t)) : textP l = takeP n t := by rw [textP, h]; rfl
theorem numP_len {l t : List UInt8} {n : Int} (h : numP l = some (n, t)) : t.length + 4 = l.length := by
  rw [(numCod.sound _ _ _ h).1, List.length_append, num4_length]; omega
def cntP (m : Nat) (l : List UInt8) : Option (Int × List UInt8) := match numP l with
  | none => none
  | some (n, t) => if 0 ≤ n ∧ n ≤ (m : Int) then some (n, t) else none
set_option maxRecDepth 100000 in
set_option maxHeartbeats 800000 in
theorem rtext_any (B b : Nat) (l : List UInt8) (w : World) (hB : B ≤ b) (hBw : B ≤ w.heap.size) (h : IsRd b l w) (hl : l.length ≤ 140737488355328) :
    Calls Tryz.prog 81 #[.pointer (some ⟨b, 0, none⟩)] w (RPost B b l w textP (fun s => .string (str s))) := by
  have HN := hide (rnum_any B b l w hB hBw h hl)
  clear h
  go_enter Tryz.func81, Tryz.ntmps81
  go_wp2_with fail
  refine (HN.out).mono ?_
  rintro e w1 ⟨hS, hc⟩
  rcases hc with ⟨n, t, hp, rfl, hR⟩ | ⟨hp, rfl⟩
  · have HE := hide (textP_eq hp)
    have hlt := numP_len hp
    have HS := hide hS
    go_wp2_with fail
    refine (rtake_any B b t n w1 hB (Nat.le_trans hBw HS.out.bel.size) hR (by omega)).mono ?_
    rintro e w2 ⟨hS2, hc2⟩
    rcases hc2 with ⟨a, u, hp2, rfl, hR2⟩ | ⟨hp2, rfl⟩
    · have HR2 := hide hR2
      have HS2 := hide (HS.out.trans hS2)
      have HP := hide (HE.out.trans hp2)
      clear hp hp2 hR hS hS2 hR2
      go_wp2
      go_ret
      exact ⟨HS2.out, .inl ⟨_, _, HP.out, rfl, HR2.out⟩⟩
    · exact ⟨rfl, HS.out.trans hS2, .inr ⟨HE.out.trans hp2, rfl⟩⟩
  · exact ⟨rfl, hS, .inr ⟨by rw [textP, hp], rfl⟩⟩
set_option maxRecDepth 100000 in
set_option maxHeartbeats 800000 in
theorem rcount_any (B b m : Nat) (l : List UInt8) (w : World) (hB : B ≤ b) (hBw : B ≤ w.heap.size) (h : IsRd b l w) (hl : l.length ≤ 140737488355328) :
    Calls Tryz.prog 83 #[.pointer (some ⟨b, 0, none⟩), .int .i64 m] w (RPost B b l w (cntP m) (fun n => .int .i64 n)) := by
  have HN := hide (rnum_any B b l w hB hBw h hl)
  clear h
  go_enter Tryz.func83, Tryz.ntmps83
  go_wp2_with fail
  refine (HN.out).mono ?_
  rintro e w1 ⟨hS, hc⟩
  rcases hc with ⟨n, t, hp, rfl, hR⟩ | ⟨hp, rfl⟩
  · have HE := hide (show cntP m l = if 0 ≤ n ∧ n ≤ (m : Int) then some (n, t) else none by rw [cntP, hp])
    have HR := hide (rd_alloc hR (Obj.cells #[.int .i64 n] 3))
    have HS := hide (hS.trans (RSt.alloc (b := b) (Nat.le_trans hBw hS.bel.size) (Obj.cells #[.int .i64 n] 3)))
    have HA := hide (show allIn 0 m [n] = decide (0 ≤ n ∧ n ≤ (m : Int)) by simp [allIn])
    clear hp hR hS
    go_wp2_with fail
    refine (rWithin_any 0 m _ [n] _ (ints1 w1 n)).mono ?_
    rintro e w2 ⟨rfl, rfl⟩
    rw [HA.out]
    by_cases hn : 0 ≤ n ∧ n ≤ (m : Int)
    · rw [if_pos hn] at HE
      rw [decide_eq_true hn]
      clear hn HA
      go_wp2_with fail
      refine (must_yes _).mono ?_
      rintro e w3 ⟨rfl, rfl⟩
      go_wp2
      go_ret
      exact ⟨HS.out, .inl ⟨_, _, HE.out, rfl, HR.out⟩⟩
    · rw [if_neg hn] at HE
      rw [decide_eq_false hn]
      clear hn HA
      go_wp2_with fail
      refine (must_no _).mono ?_
      rintro e w3 ⟨rfl, rfl⟩
      exact ⟨rfl, HS.out, .inr ⟨HE.out, rfl⟩⟩
  · exact ⟨rfl, hS, .inr ⟨by rw [cntP, hp], rfl⟩⟩
structure RSt2 (B b g : Nat) (w w' : World) : Prop where
  bel : Below B w w'
  keep : ∀ k, k < w.heap.size → k ≠ b → k ≠ g → w'.heap[k]? = w.heap[k]?
theorem RSt.two {B b g : Nat} {w w' : World} (h : RSt B b w w') : RSt2 B b g w w' := ⟨h.bel, fun k h1 h2 _ => h.keep k h1 h2⟩
theorem RSt2.refl (B b g : Nat) (w : World) : RSt2 B b g w w := ⟨Below.refl _ _, fun _ _ _ _ => rfl⟩
theorem RSt2.trans {B b g : Nat} {w w' w'' : World} (h : RSt2 B b g w w') (k : RSt2 B b g w' w'') : RSt2 B b g w w'' :=
  ⟨h.bel.trans k.bel, fun j h1 h2 h3 => (k.keep j (Nat.lt_of_lt_of_le h1 h.bel.size) h2 h3).trans (h.keep j h1 h2 h3)⟩
def Holds (g : Nat) (t : TypeId) (cs : List Value) (w : World) : Prop := w.heap[g]? = some (.cells cs.toArray t (0, 0))
theorem Holds.set {B b g : Nat} {t : TypeId} {cs : List Value} {w : World} (h : Holds g t cs w) (hB : B ≤ g) (i : Nat) (v : Value) (h1 : v.oneCell' = true) : Holds g t (cs.set i v) (w.setCell ⟨g, i, none⟩ v) ∧ RSt2 B b g w (w.setCell ⟨g, i, none⟩ v) := by
  refine ⟨?_, (Below.refl B w).setCell (p := ⟨g, i, none⟩) hB _, fun k _ _ hk => Below.heap_setCell _ _ _ _ (fun e => hk e)⟩
  unfold Holds at h ⊢
  simp [World.setCell, Array.getElem?_modify, h]
def patch (cs : List Value) (o : Nat) (xs : List Value) : List Value := cs.take o ++ xs ++ cs.drop (o + xs.length)
theorem patch_nil (cs : List Value) (o : Nat) : patch cs o [] = cs := by simp [patch]
theorem patch_set (cs : List Value) (o : Nat) (xs : List Value) (v : Value) (h : o + xs.length < cs.length) : (patch cs o xs).set (o + xs.length) v = patch cs o (xs ++ [v]) := by
  have e1 : (cs.take o ++ xs).length = o + xs.length := by simp; omega
  unfold patch
  rw [List.set_append_right _ _ (by omega), e1, Nat.sub_self, List.drop_eq_getElem_cons h, List.set_cons_zero]
  simp [Nat.add_assoc]
theorem patch_get (cs : List Value) (o : Nat) (xs : List Value) (h : o + xs.length < cs.length) : (patch cs o xs)[o + xs.length]? = cs[o + xs.length]? := by
  unfold patch
  rw [List.getElem?_append_right (by simp; omega)]
  simp
  congr 1
  omega
set_option maxRecDepth 100000 in
set_option maxHeartbeats 1600000 in
theorem rfill_any (B b g off N c : Nat) (t : TypeId) (cs : List Value) (l : List UInt8) (w : World) (hB : B ≤ b) (hBg : B ≤ g) (hgb : g ≠ b) (hBw : B ≤ w.heap.size) (h : IsRd b l w) (hl : l.length ≤ 140737488355328) (hg : Holds g t cs w) (hN : off + N ≤ cs.length) (hN2 : N ≤ 1048576) (hz : ∀ i, i < N → ∃ z : Int, cs[off + i]? = some (.int .i64 z)) :
    Calls Tryz.prog 84 #[.pointer (some ⟨b, 0, none⟩), .slice (some ⟨g, off, none⟩) N c] w fun e w' => RSt2 B b g w w' ∧ ((∃ ns u, manyP numP N l = some (ns, u) ∧ e = .returned (.tuple #[]) ∧ IsRd b u w' ∧ Holds g t (patch cs off (ns.map (Value.int .i64))) w') ∨ (manyP numP N l = none ∧ e = panE)) := by
  have HI := hide h
  have HG := hide hg
  clear h hg
  go_enter Tryz.func84, Tryz.ntmps84
  go_wp2_with fail
  go_loopw [7] (fun i wr => ∃ k : Nat, k ≤ N ∧ i = .int .i64 k ∧ ∃ ns u, manyP numP k l = some (ns, u) ∧ IsRd b u wr ∧ Holds g t (patch cs off (ns.map (Value.int .i64))) wr ∧ RSt2 B b g w wr) (fun i _ => N - (intOf i).toNat)
  case atStart => exact ⟨0, Nat.zero_le _, rfl, [], l, rfl, HI.out, by rw [List.map_nil, patch_nil]; exact HG.out, RSt2.refl _ _ _ _⟩
  case round =>
    clear HI HG
    obtain ⟨k, hk, rfl, ns, u, hm, hR, hH, hS⟩ := hrel
    have hnl := manyP_length hm
    have hul : u.length ≤ l.length := by rw [((manyCod numCod k).sound _ _ _ hm).1]; simp
    by_cases hlt : k < N
    · have hd : decide ((k : Int) < (N : Int)) = true := by simp; omega
      have HM := hide hm
      have HR := hide hR
      have HH := hide hH
      have HS := hide hS
      clear hm hR hH hS
      go_wp2_with fail
      refine (rnum_any B b u wr hB (Nat.le_trans hBw HS.out.bel.size) HR.out (by omega)).mono ?_
      rintro e w1 ⟨hS1, hc1⟩
      rcases hc1 with ⟨n, t1, hp, rfl, hR1⟩ | ⟨hp, rfl⟩
      · have hH1 : Holds g t (patch cs off (ns.map (Value.int .i64))) w1 := (hS1.keep g (Array.getElem?_eq_some_iff.1 HH.out).1 hgb).trans HH.out
        obtain ⟨z, hz'⟩ := hz k hlt
        have hpl : (ns.map (Value.int .i64)).length = k := by rw [List.length_map, hnl]
        have c1 : w1.cell? ⟨g, off + k, none⟩ = some (.int .i64 z) := by
          rw [Lib.cell_of_heap hH1]
          have := patch_get cs off (ns.map (Value.int .i64)) (by rw [hpl]; omega)
          rw [hpl] at this
          simp [this, hz']
        have f1 : w1.frozen? ⟨g, off + k, none⟩ = false := Lib.frozen_of_heap hH1 _
        obtain ⟨hH2, hS2⟩ := hH1.set (B := B) (b := b) hBg (off + k) (.int .i64 n) rfl
        have hR2 : IsRd b t1 (w1.setCell ⟨g, off + k, none⟩ (.int .i64 n)) := (Below.heap_setCell _ _ _ _ (fun e => hgb e.symm)).trans hR1
        have hps := patch_set cs off (ns.map (Value.int .i64)) (.int .i64 n) (by rw [hpl]; omega)
        rw [hpl] at hps
        rw [hps, ← List.map_singleton (f := Value.int .i64), ← List.map_append] at hH2
        have HF := hide (show ∃ ns u, manyP numP (k + 1) l = some (ns, u) ∧ IsRd b u (w1.setCell ⟨g, off + k, none⟩ (.int .i64 n)) ∧ Holds g t (patch cs off (ns.map (Value.int .i64))) (w1.setCell ⟨g, off + k, none⟩ (.int .i64 n)) ∧ RSt2 B b g w (w1.setCell ⟨g, off + k, none⟩ (.int .i64 n)) from ⟨_, _, manyP_next HM.out hp, hR2, hH2, HS.out.trans (hS1.two.trans hS2)⟩)
        clear hH1 hH2 hS2 hR2 hps hp hS1 hR1 hz'
        go_wp2
        go_roundw
        case rel => exact ⟨k + 1, hlt, by go_num, HF.out⟩
        case measure => simp [intOf]; omega
      · exact ⟨rfl, HS.out.trans hS1.two, .inr ⟨manyP_stop HM.out hp hlt, rfl⟩⟩
    · have hd : decide ((k : Int) < (N : Int)) = false := by simp; omega
      obtain rfl : k = N := by omega
      go_wp2
      go_end0
      exact ⟨hS, .inl ⟨ns, u, hm, rfl, hR, hH⟩⟩
end Go.Proofs.YtanebhbfekcplaaGreat

namespace Go.Proofs.YtanebhbfekcplaaGreat
open Go
section
variable {P : Program} {ops : Array Oper} {Q : Exit → Act → World → Prop} {md : Region.Mode} {S : World → Prop} {f : Nat}
def wpAnyF (P : Program) (md : Region.Mode) (ops : Array Oper) (Q : Exit → Act → World → Prop) (S : World → Prop) (f : Nat) : Nat → Array Bool → Act → World → Prop
  | 0, listed, a, w => Region.ready md ops listed = [] ∧ Q .normal a w
  | fuel + 1, listed, a, w =>
    (Region.ready md ops listed = [] → Q .normal a w) ∧
    ∀ i ∈ Region.ready md ops listed, wpOp P ops Q i (fun a' w' => (i ≠ f → S w') ∧ wpAnyF P md ops Q S f fuel (listed.setIfInBounds i true) a' w') a w
theorem wpAny_of_F : ∀ (fuel : Nat) (listed : Array Bool) (a : Act) (w : World), wpAnyF P md ops Q S f fuel listed a w → wpAny P md ops Q fuel listed a w
  | 0, _, _, _, h => h
  | fuel + 1, _, _, _, h => ⟨h.1, fun i hi => wpOp_mono (fun a' w' h' => wpAny_of_F fuel _ a' w' h'.2) (h.2 i hi)⟩
def waits (md : Region.Mode) (ops : Array Oper) (i : Nat) : Nat → Nat → Bool
  | 0, _ => false
  | n + 1, j => match ops[j]? with
    | some o => o.after.any fun e => Region.binds md e && (e.on == i || waits md ops i n e.on)
    | none => false
def Closed (md : Region.Mode) (ops : Array Oper) (listed : Array Bool) : Prop := ∀ k o, ops[k]? = some o → listed.getD k false = true → ∀ e ∈ o.after, Region.binds md e = true → listed.getD e.on false = true
def closedB (md : Region.Mode) (ops : Array Oper) (listed : Array Bool) : Bool :=
  (List.range ops.size).all fun k => match ops[k]? with
    | some o => !listed.getD k false || o.after.all fun e => !Region.binds md e || listed.getD e.on false
    | none => true
theorem closed_of {listed : Array Bool} (h : closedB md ops listed = true) : Closed md ops listed := by
  intro k o ho hk e he hb
  have h1 := List.all_eq_true.1 h k (List.mem_range.2 (Array.getElem?_eq_some_iff.1 ho).1)
  simp only [ho, hk, Bool.not_true, Bool.false_or] at h1
  have h2 : (!Region.binds md e || listed.getD e.on false) = true := by
    first
      | exact List.all_eq_true.1 h1 e he
      | exact Array.all_eq_true'.1 h1 e he
  rw [hb] at h2
  simpa using h2
theorem waits_spec {i : Nat} {listed : Array Bool} (hc : Closed md ops listed) : ∀ (n j : Nat), (j ∈ Region.ready md ops listed ∨ listed.getD j false = true) → waits md ops i n j = true → listed.getD i false = true
  | 0, _, _, h => by cases h
  | n + 1, j, hj, h => by
    unfold waits at h
    cases ho : ops[j]? with
    | none => rw [ho] at h; cases h
    | some o =>
      rw [ho] at h
      have hall : ∀ e ∈ o.after, Region.binds md e = true → listed.getD e.on false = true := by
        rcases hj with hj | hj
        · obtain ⟨_, o', ho', hall⟩ := mem_ready.1 hj
          obtain rfl := Option.some.inj (ho.symm.trans ho')
          exact hall
        · exact hc j o ho hj
      have h' : ∃ e ∈ o.after, (Region.binds md e && (e.on == i || waits md ops i n e.on)) = true := by
        first
          | exact List.any_eq_true.1 h
          | exact Array.any_eq_true'.1 h
      obtain ⟨e, he, hx⟩ := h'
      rw [Bool.and_eq_true] at hx
      have h1 := hall e he hx.1
      rcases Bool.or_eq_true _ _ |>.mp hx.2 with h2 | h2
      · rw [← eq_of_beq h2]; exact h1
      · exact waits_spec hc n e.on (.inr h1) h2
theorem closed_set {j : Nat} {listed : Array Bool} (hc : Closed md ops listed) (hj : j ∈ Region.ready md ops listed) : Closed md ops (listed.setIfInBounds j true) := by
  intro k o ho hk e he hb
  by_cases hkj : j = k
  · subst hkj
    obtain ⟨_, o', ho', hall⟩ := mem_ready.1 hj
    obtain rfl := Option.some.inj (ho.symm.trans ho')
    exact getD_set_true (hall e he hb)
  · rw [getD_set_ne false hkj] at hk
    exact getD_set_true (hc k o ho hk e he hb)
theorem wpAnyF_first {i n : Nat} {oi : Oper} {v : Value} (hi : ops[i]? = some oi) (hsel : ∀ (j : Nat) (o : Oper) cs b, ops[j]? = some o → o.op ≠ .select cs b)
    (hQ : ∀ c a w, Q (.panic c) (a.put oi.dst v) w → Q (.panic c) a w) (hwt : waits md ops i n f = true) :
    ∀ (fuel : Nat) (listed : Array Bool) (a : Act) (w : World),
      (∀ j oj, ops[j]? = some oj → j ≠ i → listed.getD j true = false → (∀ e ∈ oj.after, Region.binds md e = true → e.on ≠ i) → oi.apart ops oj = true) →
      Closed md ops listed →
      i ∈ Region.ready md ops listed → YieldsIf P ops S oi v a → S w →
      wpAnyF P md ops Q S f fuel (listed.setIfInBounds i true) (a.put oi.dst v) w → wpAnyF P md ops Q S f (fuel + 1) listed a w := by
  intro fuel
  induction fuel with
  | zero =>
    intro listed a w _ _ hr hy hS H
    refine ⟨fun h => (by rw [h] at hr; cases hr), fun j hj => ?_⟩
    by_cases hji : j = i
    · subst hji; exact hy.wpOp hi hS ⟨fun _ => hS, H⟩
    · have := ready_mono hj hji
      rw [H.1] at this
      cases this
  | succ fuel ih =>
    intro listed a w hfree hcl hr hy hS H
    refine ⟨fun h => (by rw [h] at hr; cases hr), fun j hj => ?_⟩
    by_cases hji : j = i
    · subst hji; exact hy.wpOp hi hS ⟨fun _ => hS, H⟩
    · have hiun : ¬ listed.getD i false = true := by
        intro h1
        have h0 := (mem_ready.1 hr).1
        rcases Nat.lt_or_ge i listed.size with h' | h'
        · simp [h'] at h0 h1; rw [h0] at h1; cases h1
        · simp [Array.getElem?_eq_none h'] at h1
      have hjf : j ≠ f := fun e => hiun (waits_spec hcl n f (.inl (e ▸ hj)) hwt)
      have h1 := H.2 j (ready_mono hj hji)
      obtain ⟨hjun, oj, hoj, hall⟩ := mem_ready.1 hj
      have hnot : ∀ e ∈ oj.after, Region.binds md e = true → e.on ≠ i := fun e he hb heq => by
        have h1 := hall e he hb
        rw [heq] at h1
        exact hiun h1
      have h2 := wpOp_putIf hoj (hfree j oj hoj hji hjun hnot) (fun cs b => hsel i oi cs b hi) (fun cs b => hsel j oj cs b hoj) hQ hy h1
      have hfree' : ∀ k ok, ops[k]? = some ok → k ≠ i → (listed.setIfInBounds j true).getD k true = false →
          (∀ e ∈ ok.after, Region.binds md e = true → e.on ≠ i) → oi.apart ops ok = true := fun k ok hk hki hun hno => by
        refine hfree k ok hk hki ?_ hno
        by_cases hjk : j = k
        · subst hjk; exact hjun
        · rw [getD_set_ne true hjk] at hun; exact hun
      refine wpOp_mono (fun a' w' h3 => ⟨h3.2.1, ih (listed.setIfInBounds j true) a' w' hfree' (closed_set hcl hj) (ready_mono hr (Ne.symm hji)) h3.1 (h3.2.1 hjf) ?_⟩) h2
      rw [Array.setIfInBounds_comm _ _ hji]
      exact h3.2.2
theorem wpAnyF_take {i : Nat} {oi : Oper} {v : Value} {fuel : Nat} {listed : Array Bool} {a : Act} {w : World} (hi : ops[i]? = some oi)
    (hs : Region.noSelect ops = true) (hf : Region.free md ops listed i = true) (hr : (Region.ready md ops listed).contains i = true) (hwt : waits md ops i ops.size f = true) (hcl : closedB md ops listed = true)
    (hQ : ∀ c a w, Q (.panic c) (a.put oi.dst v) w → Q (.panic c) a w) (hy : YieldsIf P ops S oi v a) (hS : S w)
    (h : wpAnyF P md ops Q S f fuel (listed.setIfInBounds i true) (a.put oi.dst v) w) : wpAnyF P md ops Q S f (fuel + 1) listed a w :=
  wpAnyF_first hi (Region.noSelect_spec hs) hQ hwt fuel listed a w (Region.free_spec hi hf) (closed_of hcl) (by simpa using hr) hy hS h
theorem wpAnyF_one {i : Nat} {o : Oper} {fuel : Nat} {listed : Array Bool} {a : Act} {w : World} (hr : Region.ready md ops listed = [i]) (ho : ops[i]? = some o)
    (h : ∀ K' : Act → World → Prop, Shut (∀ a w, S w → wpAnyF P md ops Q S f fuel (listed.setIfInBounds i true) a w → K' a w) → if Region.wanted o (yielded ops a.tmps) = true then Oper.wp P o a w K' Q else K' (a.put o.dst undef) w) :
    wpAnyF P md ops Q S f (fuel + 1) listed a w :=
  ⟨fun h0 => (by rw [hr] at h0; cases h0), fun j hj => by
    rw [hr] at hj
    obtain rfl := List.mem_singleton.1 hj
    exact wpOp_step ho (fun K' hK => h K' (fun a w hS hW => hK a w ⟨fun _ => hS, hW⟩))⟩
theorem wpAnyF_last {o : Oper} {fuel : Nat} {listed : Array Bool} {a : Act} {w : World} (hr : Region.ready md ops listed = [f]) (ho : ops[f]? = some o)
    (h : ∀ K' : Act → World → Prop, Shut (∀ a w, wpAnyF P md ops Q S f fuel (listed.setIfInBounds f true) a w → K' a w) → if Region.wanted o (yielded ops a.tmps) = true then Oper.wp P o a w K' Q else K' (a.put o.dst undef) w) :
    wpAnyF P md ops Q S f (fuel + 1) listed a w :=
  ⟨fun h0 => (by rw [hr] at h0; cases h0), fun j hj => by
    rw [hr] at hj
    obtain rfl := List.mem_singleton.1 hj
    exact wpOp_step ho (fun K' hK => h K' (fun a w hW => hK a w ⟨fun e => absurd rfl e, hW⟩))⟩
theorem wpAnyF_done {listed : Array Bool} {a : Act} {w : World} (hr : Region.ready md ops listed = []) (h : Q .normal a w) :
    ∀ fuel, wpAnyF P md ops Q S f fuel listed a w
  | 0 => ⟨hr, h⟩
  | _ + 1 => ⟨fun _ => h, by rw [hr]; simp⟩
theorem wp_region_last {id : Nat} {a : Act} {w : World} (hm : P.follows .mixedOrders = true)
    (h : wpAnyF P .any ops Q S f ops.size (Array.replicate ops.size false) a { w with drawn := w.drawn + 1 }) : (Code.region id ops true).wp P Q a w :=
  wp_region_any hm (wpAny_of_F _ _ _ _ h)
end
end Go.Proofs.YtanebhbfekcplaaGreat

namespace Go.Proofs.YtanebhbfekcplaaGreat
open Go
section
variable {P : Program} {ops : Array Oper} {Q : Exit → Act → World → Prop} {md : Region.Mode} {S : World → Prop} {f : Nat}
theorem wpAnyF_two {i j : Nat} {oi oj : Oper} {fuel : Nat} {listed : Array Bool} {a : Act} {w : World} (hr : Region.ready md ops listed = [i, j]) (hoi : ops[i]? = some oi) (hoj : ops[j]? = some oj)
    (h1 : ∀ K' : Act → World → Prop, Shut (∀ a w, S w → wpAnyF P md ops Q S f fuel (listed.setIfInBounds i true) a w → K' a w) → if Region.wanted oi (yielded ops a.tmps) = true then Oper.wp P oi a w K' Q else K' (a.put oi.dst undef) w)
    (h2 : ∀ K' : Act → World → Prop, Shut (∀ a w, S w → wpAnyF P md ops Q S f fuel (listed.setIfInBounds j true) a w → K' a w) → if Region.wanted oj (yielded ops a.tmps) = true then Oper.wp P oj a w K' Q else K' (a.put oj.dst undef) w) :
    wpAnyF P md ops Q S f (fuel + 1) listed a w :=
  ⟨fun h0 => (by rw [hr] at h0; cases h0), fun k hk => by
    rw [hr] at hk
    rcases List.mem_cons.1 hk with e | hk
    · subst e
      exact wpOp_step hoi (fun K' hK => h1 K' (fun a w hS hW => hK a w ⟨fun _ => hS, hW⟩))
    · obtain rfl := List.mem_singleton.1 hk
      exact wpOp_step hoj (fun K' hK => h2 K' (fun a w hS hW => hK a w ⟨fun _ => hS, hW⟩))⟩
theorem wpAnyF_takeD {i : Nat} {oi : Oper} {v : Value} {fuel : Nat} {listed : Array Bool} {a : Act} {w : World} (d : Option Nat) (hi : ops[i]? = some oi) (hd : oi.dst = d)
    (hs : Region.noSelect ops = true) (hf : Region.free md ops listed i = true) (hr : (Region.ready md ops listed).contains i = true) (hwt : waits md ops i ops.size f = true) (hcl : closedB md ops listed = true)
    (hQ : ∀ c a w, Q (.panic c) (a.put oi.dst v) w → Q (.panic c) a w) (hy : YieldsIf P ops S oi v a) (hS : S w)
    (h : wpAnyF P md ops Q S f fuel (listed.setIfInBounds i true) (a.put d v) w) : wpAnyF P md ops Q S f (fuel + 1) listed a w := by
  subst hd
  exact wpAnyF_take hi hs hf hr hwt hcl hQ hy hS h
end
end Go.Proofs.YtanebhbfekcplaaGreat

namespace Go.Proofs.YtanebhbfekcplaaGreat
open Go
section
variable {P : Program} {ops : Array Oper} {Q : Exit → Act → World → Prop} {md : Region.Mode} {S : World → Prop} {f : Nat}
def pathB (md : Region.Mode) (ops : Array Oper) (i : Nat) : List Nat → Nat → Bool
  | [], j => match ops[j]? with
    | some o => o.after.any fun e => Region.binds md e && e.on == i
    | none => false
  | k :: r, j => (match ops[j]? with
    | some o => o.after.any fun e => Region.binds md e && e.on == k
    | none => false) && pathB md ops i r k
theorem path_one {i j : Nat} {listed : Array Bool} (hc : Closed md ops listed) (hj : j ∈ Region.ready md ops listed ∨ listed.getD j false = true)
    (h : (match ops[j]? with
    | some o => o.after.any fun e => Region.binds md e && e.on == i
    | none => false) = true) : listed.getD i false = true := by
  cases ho : ops[j]? with
  | none => rw [ho] at h; cases h
  | some o =>
    rw [ho] at h
    have hall : ∀ e ∈ o.after, Region.binds md e = true → listed.getD e.on false = true := by
      rcases hj with hj | hj
      · obtain ⟨_, o', ho', hall⟩ := mem_ready.1 hj
        obtain rfl := Option.some.inj (ho.symm.trans ho')
        exact hall
      · exact hc j o ho hj
    have h' : ∃ e ∈ o.after, (Region.binds md e && e.on == i) = true := by
      first
        | exact List.any_eq_true.1 h
        | exact Array.any_eq_true'.1 h
    obtain ⟨e, he, hx⟩ := h'
    rw [Bool.and_eq_true] at hx
    rw [← eq_of_beq hx.2]
    exact hall e he hx.1
theorem path_spec {i : Nat} {listed : Array Bool} (hc : Closed md ops listed) : ∀ (p : List Nat) (j : Nat), (j ∈ Region.ready md ops listed ∨ listed.getD j false = true) → pathB md ops i p j = true → listed.getD i false = true
  | [], j, hj, h => path_one hc hj h
  | k :: r, j, hj, h => by
    unfold pathB at h
    rw [Bool.and_eq_true] at h
    exact path_spec hc r k (.inr (path_one hc hj h.1)) h.2
theorem wpAnyF_firstP {i : Nat} {p : List Nat} {oi : Oper} {v : Value} (hi : ops[i]? = some oi) (hsel : ∀ (j : Nat) (o : Oper) cs b, ops[j]? = some o → o.op ≠ .select cs b)
    (hQ : ∀ c a w, Q (.panic c) (a.put oi.dst v) w → Q (.panic c) a w) (hwt : pathB md ops i p f = true) :
    ∀ (fuel : Nat) (listed : Array Bool) (a : Act) (w : World),
      (∀ j oj, ops[j]? = some oj → j ≠ i → listed.getD j true = false → (∀ e ∈ oj.after, Region.binds md e = true → e.on ≠ i) → oi.apart ops oj = true) →
      Closed md ops listed →
      i ∈ Region.ready md ops listed → YieldsIf P ops S oi v a → S w →
      wpAnyF P md ops Q S f fuel (listed.setIfInBounds i true) (a.put oi.dst v) w → wpAnyF P md ops Q S f (fuel + 1) listed a w := by
  intro fuel
  induction fuel with
  | zero =>
    intro listed a w _ _ hr hy hS H
    refine ⟨fun h => (by rw [h] at hr; cases hr), fun j hj => ?_⟩
    by_cases hji : j = i
    · subst hji; exact hy.wpOp hi hS ⟨fun _ => hS, H⟩
    · have := ready_mono hj hji
      rw [H.1] at this
      cases this
  | succ fuel ih =>
    intro listed a w hfree hcl hr hy hS H
    refine ⟨fun h => (by rw [h] at hr; cases hr), fun j hj => ?_⟩
    by_cases hji : j = i
    · subst hji; exact hy.wpOp hi hS ⟨fun _ => hS, H⟩
    · have hiun : ¬ listed.getD i false = true := by
        intro h1
        have h0 := (mem_ready.1 hr).1
        rcases Nat.lt_or_ge i listed.size with h' | h'
        · simp [h'] at h0 h1; rw [h0] at h1; cases h1
        · simp [Array.getElem?_eq_none h'] at h1
      have hjf : j ≠ f := fun e => hiun (path_spec hcl p f (.inl (e ▸ hj)) hwt)
      have h1 := H.2 j (ready_mono hj hji)
      obtain ⟨hjun, oj, hoj, hall⟩ := mem_ready.1 hj
      have hnot : ∀ e ∈ oj.after, Region.binds md e = true → e.on ≠ i := fun e he hb heq => by
        have h1 := hall e he hb
        rw [heq] at h1
        exact hiun h1
      have h2 := wpOp_putIf hoj (hfree j oj hoj hji hjun hnot) (fun cs b => hsel i oi cs b hi) (fun cs b => hsel j oj cs b hoj) hQ hy h1
      have hfree' : ∀ k ok, ops[k]? = some ok → k ≠ i → (listed.setIfInBounds j true).getD k true = false →
          (∀ e ∈ ok.after, Region.binds md e = true → e.on ≠ i) → oi.apart ops ok = true := fun k ok hk hki hun hno => by
        refine hfree k ok hk hki ?_ hno
        by_cases hjk : j = k
        · subst hjk; exact hjun
        · rw [getD_set_ne true hjk] at hun; exact hun
      refine wpOp_mono (fun a' w' h3 => ⟨h3.2.1, ih (listed.setIfInBounds j true) a' w' hfree' (closed_set hcl hj) (ready_mono hr (Ne.symm hji)) h3.1 (h3.2.1 hjf) ?_⟩) h2
      rw [Array.setIfInBounds_comm _ _ hji]
      exact h3.2.2
theorem wpAnyF_takeP {i : Nat} {oi : Oper} {v : Value} {fuel : Nat} {listed : Array Bool} {a : Act} {w : World} (d : Option Nat) (p : List Nat) (hi : ops[i]? = some oi) (hd : oi.dst = d)
    (hs : Region.noSelect ops = true) (hf : Region.free md ops listed i = true) (hr : (Region.ready md ops listed).contains i = true) (hwt : pathB md ops i p f = true) (hcl : closedB md ops listed = true)
    (hQ : ∀ c a w, Q (.panic c) (a.put oi.dst v) w → Q (.panic c) a w) (hy : YieldsIf P ops S oi v a) (hS : S w)
    (h : wpAnyF P md ops Q S f fuel (listed.setIfInBounds i true) (a.put d v) w) : wpAnyF P md ops Q S f (fuel + 1) listed a w := by
  subst hd
  exact wpAnyF_firstP hi (Region.noSelect_spec hs) hQ hwt fuel listed a w (Region.free_spec hi hf) (closed_of hcl) (by simpa using hr) hy hS h
end
end Go.Proofs.YtanebhbfekcplaaGreat

namespace Go.Proofs.YtanebhbfekcplaaGreat
open Go.RowKit
theorem app_gen {et ct : TypeId} {sz : Nat} (ce : ct ≠ et) {W' V1 w1 w : World} {base PB : Nat} {x y : Value} {so : Option Addr} {scap k m g cap : Nat} {xs ys : List Value}
    (i1 : W'.heap[PB]? = some (.cells #[x, y, .slice so k scap] ct (0, 0))) (i2 : W'.ownsRow base et sz (.slice so k scap) k xs)
    (i5 : Below w.heap.size w W') (hb : w.heap.size ≤ base) (hPB : w.heap.size ≤ PB) (hV1 : Below W'.heap.size W' V1) (hg : V1.grownBy w1 (Value.slice so k scap).ownBlock)
    (ho : w1.ownsRow base et sz (.slice (some ⟨g, 0, none⟩) m cap) m ys) :
    (∀ b, b < W'.heap.size → some b ≠ (Value.slice so k scap).ownBlock → w1.heap[b]? = W'.heap[b]?) ∧ w1.cell? ⟨PB, 2, none⟩ = some (.slice so k scap) ∧ w1.frozen? ⟨PB, 2, none⟩ = false ∧
      (w1.setCell ⟨PB, 2, none⟩ (.slice (some ⟨g, 0, none⟩) m cap)).heap[PB]? = some (.cells #[x, y, .slice (some ⟨g, 0, none⟩) m cap] ct (0, 0)) ∧
      (w1.setCell ⟨PB, 2, none⟩ (.slice (some ⟨g, 0, none⟩) m cap)).ownsRow base et sz (.slice (some ⟨g, 0, none⟩) m cap) m ys ∧ Below w.heap.size w (w1.setCell ⟨PB, 2, none⟩ (.slice (some ⟨g, 0, none⟩) m cap)) ∧
      (∀ b, b < W'.heap.size → some b ≠ (Value.slice so k scap).ownBlock → b ≠ PB → (w1.setCell ⟨PB, 2, none⟩ (.slice (some ⟨g, 0, none⟩) m cap)).heap[b]? = W'.heap[b]?) := by
  have hs := hV1.size
  have keep : ∀ b, b < W'.heap.size → some b ≠ (Value.slice so k scap).ownBlock → w1.heap[b]? = W'.heap[b]? := fun b hb hne => by
    rw [hg.block b (by omega) hne, hV1.block b hb]
  have l1 := (Array.getElem?_eq_some_iff.1 i1).1
  have kP := (keep PB l1 (own_ne i2 i1 ce)).trans i1
  have hc := heap_setCell_same w1 PB 2 _ _ (.slice (some ⟨g, 0, none⟩) m cap) kP
  refine ⟨keep, by rw [Lib.cell_of_heap kP]; rfl, Lib.frozen_of_heap kP 2, by rw [hc]; rfl, ownsRow_setCell_other ho (fun e => own_ne ho kP ce e.symm) _, ?_, fun b hb hne hn => (Below.heap_setCell _ _ _ _ hn).trans (keep b hb hne)⟩
  exact ((i5.trans (hV1.mono i5.size)).grown hg (by have := i5.size; omega) (fun j hj => Nat.le_trans hb (i2.lt j hj).1)).setCell (p := ⟨PB, 2, none⟩) hPB _
end Go.Proofs.YtanebhbfekcplaaGreat

namespace Go.Proofs.YtanebhbfekcplaaGreat
set_option linter.unusedVariables false
open Go.RowKit
def inRows (top rows : Nat) (s : Pt) : Bool := decide ((top : Int) ≤ s.2 ∧ s.2 < (top : Int) + rows)
def movedSpots (ls : List Pt) (top rows : Nat) : List Pt := (ls.filter (inRows top rows)).map fun s => (s.1, s.2 - top)
def oddPhase (p : Int) : Int := if p < 2 then p + 2 else p - 2
def oddBlack (m : Nat → Int) (k : Nat) : Int := m ((k + 2) % 4)
def turnedP (n : Plan) (top : Nat) : Plan := { n with phase := if top % 2 = 1 then oddPhase n.phase else n.phase, black := if top % 2 = 1 then oddBlack n.black else n.black }
abbrev planZ : Array Value := #[.int .i64 0, .int .i64 0, .int .i64 0, .int .i64 0, .int .i64 0, .int .i64 0, .slice none 0 0, .int .i64 0, .int .i64 0, .int .i64 0, .int .i64 0, .int .i64 0, .int .i64 0, .int .i64 0, .int .i64 0, .int .i64 0, .int .i64 0, .int .i64 0, .int .i64 0, .slice none 0 0, .int .i64 0]
def ptL (t : Pt) : List Value := [.int .i64 t.1, .int .i64 t.2]
def spZ : Value := .agg #[.int .i64 0, .int .i64 0]
theorem Tryz.infoSpot : (Tryz.prog.info? 77).map (fun i => (i.zero, i.size, i.bytes)) = some (some spZ, 2, 16) := by kernel_rfl
theorem ptFlat_length (ls : List Pt) : (ls.flatMap ptL).length = ls.length * 2 := by
  induction ls with
  | nil => rfl
  | cons p ls ih => rw [List.flatMap_cons, List.length_append, ih]; simp [ptL]; omega
theorem ptFlat_get (ls : List Pt) (j : Nat) (h : j < ls.length) : (ls.flatMap ptL)[j * 2]? = some (.int .i64 (ptAt ls j).1) ∧ (ls.flatMap ptL)[j * 2 + 1]? = some (.int .i64 (ptAt ls j).2) := by
  rw [← ptAt_get ls j h]
  induction ls generalizing j with
  | nil => simp at h
  | cons p ls ih =>
    cases j with
    | zero => simp [ptL, List.flatMap_cons]
    | succ j =>
      have h' : j < ls.length := by simpa using h
      have := ih j h'
      rw [List.flatMap_cons, show (j + 1) * 2 = j * 2 + 2 by omega]
      simp only [ptL, List.cons_append, List.nil_append, List.getElem?_cons_succ, List.getElem_cons_succ]
      exact this
theorem IsPts.own {w : World} {base : Nat} {e : TypeId} {v : Value} {ls : List Pt} (h : w.ownsRow base e 2 v ls.length (ls.flatMap ptL)) (hl : ls.length ≤ 9223372036854775807) : IsPts w v ls := by
  rcases h.2 with ⟨hv, hn⟩ | ⟨g, cap, cur, hv, _, hg, h1, h2, h3, h4⟩
  · exact ⟨none, 0, by rw [hv, hn], hl, .inl (List.eq_nil_of_length_eq_zero hn)⟩
  · refine ⟨_, cap, hv, hl, .inr ⟨g, 0, rfl, (Array.getElem?_eq_some_iff.1 hg).1, fun j hj => ?_⟩⟩
    have key : ∀ i u, i < ls.length * 2 → (ls.flatMap ptL)[i]? = some u → w.cell? ⟨g, 0 + i, none⟩ = some u := fun i u hi hu => by
      rw [Nat.zero_add, cell_of_row w g i cur _ _ hg]
      rw [← h4, List.getElem?_take_of_lt hi] at hu
      simpa using hu
    obtain ⟨a, b⟩ := ptFlat_get ls j hj
    exact ⟨key _ _ (by omega) a, key _ _ (by omega) b⟩
theorem IsPts.other {w w' : World} {v : Value} {ls : List Pt} {k : Nat} (h : IsPts w v ls) (hs : w.heap.size ≤ w'.heap.size) (hk : ∀ b, b ≠ k → w'.heap[b]? = w.heap[b]?) (hne : v.ownBlock ≠ some k) : IsPts w' v ls := by
  obtain ⟨ao, cap, rfl, hl, h⟩ := h
  refine ⟨ao, cap, rfl, hl, ?_⟩
  rcases h with h | ⟨b, off, rfl, hlt, hc⟩
  · exact .inl h
  · have hb : b ≠ k := fun e => hne (by rw [e]; rfl)
    refine .inr ⟨b, off, rfl, Nat.lt_of_lt_of_le hlt hs, fun j hj => ?_⟩
    rw [World.cell?_of_block (a := ⟨b, off + j * 2, none⟩) (hk b hb), World.cell?_of_block (a := ⟨b, off + j * 2 + 1, none⟩) (hk b hb)]
    exact hc j hj
def MvJ (w : World) (n : Plan) (TP R : Nat) (sv cv s : Value) (k : Nat) (wr : World) : Prop :=
  wr.ownsRow w.heap.size 77 2 s (movedSpots (n.spots.take k) TP R).length ((movedSpots (n.spots.take k) TP R).flatMap ptL) ∧ wr.heap[w.heap.size]? = some (.cells (planA (turnedP n TP) sv cv) 30 (0, 0)) ∧ wr.heap[w.heap.size + 1]? = some (.cells planZ 30 (0, 0)) ∧ Below w.heap.size w wr
theorem MvJ.below {w : World} {n : Plan} {TP R : Nat} {sv cv s : Value} {k : Nat} {wr V : World} (h : MvJ w n TP R sv cv s k wr) (hV : Below wr.heap.size wr V) : MvJ w n TP R sv cv s k V :=
  ⟨ownsRow_below h.1 hV, (hV.block _ (Array.getElem?_eq_some_iff.1 h.2.1).1).trans h.2.1, (hV.block _ (Array.getElem?_eq_some_iff.1 h.2.2.1).1).trans h.2.2.1, h.2.2.2.trans (hV.mono h.2.2.2.size)⟩
end Go.Proofs.YtanebhbfekcplaaGreat

namespace Go.Proofs.YtanebhbfekcplaaGreat
set_option linter.unusedVariables false
open Go.RowKit
theorem Tryz.infoPoint : (Tryz.prog.info? 78).map (fun i => (i.zero, i.size, i.bytes)) = some (some spZ, 2, 16) := by kernel_rfl
theorem ptFlat_one (ls : List Pt) : ∀ u ∈ ls.flatMap ptL, u.oneCell' = true := by
  intro u hu
  obtain ⟨t, _, ht⟩ := List.mem_flatMap.1 hu
  simp only [ptL, List.mem_cons, List.not_mem_nil, or_false] at ht
  rcases ht with rfl | rfl <;> rfl
theorem ints_news {w : World} {a : Addr} {xs : List Int} (o : Obj) (hc : xs = [] ∨ ∃ b off, some a = some ⟨b, off, none⟩ ∧ b < w.heap.size ∧ ∀ j (h : j < xs.length), w.cell? ⟨b, off + j, none⟩ = some (.int .i64 xs[j])) :
    ∀ j u, (xs.map (Value.int .i64))[j]? = some u → (w.alloc o).cell? (a.add j) = some u := by
  intro j u hj
  rcases hc with h | ⟨b, off, h, hb, h2⟩
  · subst h; simp at hj
  · cases h
    rw [List.getElem?_map] at hj
    obtain ⟨z, hz, rfl⟩ := Option.map_eq_some_iff.1 hj
    obtain ⟨hl, rfl⟩ := List.getElem?_eq_some_iff.1 hz
    rw [Addr.add_lit]
    exact Lib.cell?_alloc_some _ (h2 j hl)
theorem pts_news {w : World} {a : Addr} {ls : List Pt} (o : Obj) (hc : ls = [] ∨ ∃ b off, some a = some ⟨b, off, none⟩ ∧ b < w.heap.size ∧ ∀ j, j < ls.length → w.cell? ⟨b, off + j * 2, none⟩ = some (.int .i64 (ptAt ls j).1) ∧ w.cell? ⟨b, off + j * 2 + 1, none⟩ = some (.int .i64 (ptAt ls j).2)) :
    ∀ j u, (ls.flatMap ptL)[j]? = some u → (w.alloc o).cell? (a.add j) = some u := by
  intro j u hj
  rcases hc with h | ⟨b, off, h, hb, h2⟩
  · subst h; simp at hj
  · cases h
    have hl : j < ls.length * 2 := by rw [← ptFlat_length]; exact (List.getElem?_eq_some_iff.1 hj).1
    rw [Addr.add_lit]
    refine Lib.cell?_alloc_some _ ?_
    obtain ⟨e1, e2⟩ := ptFlat_get ls (j / 2) (by omega)
    obtain ⟨c1, c2⟩ := h2 (j / 2) (by omega)
    rcases Nat.mod_two_eq_zero_or_one j with hm | hm
    · have hq : j / 2 * 2 = j := by omega
      rw [hq] at e1 c1
      rw [c1, ← hj, e1]
    · have hq : j / 2 * 2 + 1 = j := by omega
      rw [hq] at e2
      rw [Nat.add_assoc, hq] at c2
      rw [c2, ← hj, e2]
set_option maxHeartbeats 800000 in
set_option maxRecDepth 100000 in
theorem cloneInts_any (v : Value) (xs : List Int) (w : World) (hv : IsInts w v xs) (hl : xs.length ≤ 1000000) :
    Calls Tryz.prog 64 #[v] w fun e w' => ∃ r, e = .returned r ∧ IsInts w' r xs ∧ Below w.heap.size w w' ∧ Fresh w.heap.size r := by
  obtain ⟨ao, ca, rfl, hx, hc⟩ := hv
  have q22 : ∀ (w : World) (a : Option Addr) (n c n' c' : Nat), (binOp .eql 22 (.slice a n c) (.slice none n' c')).run Tryz.prog w = .ok (.bool a.isNone) w := fun w a n c n' c' => Lib.run_eql_slice_nil w _ _ a n c n' c' Tryz.underlying22
  cases ao with
  | none =>
    have hn : xs = [] := by
      rcases hc with h | ⟨b, off, h, _⟩
      · exact h
      · cases h
    subst hn
    go_enter Tryz.func64, Tryz.ntmps64
    go_wp2
    go_ret
    exact ⟨_, rfl, IsInts.nil _, Below.refl _ _, Fresh.nil _⟩
  | some a =>
    obtain ⟨i0, hi, hz0, hz1, hz2⟩ := info_parts Tryz.infoInt
    have HA := hide (show ∀ j u, (xs.map (Value.int .i64))[j]? = some u → (w.alloc (.cells #[] 3)).cell? (a.add j) = some u from ints_news _ hc)
    clear hc
    go_enter Tryz.func64, Tryz.ntmps64
    go_wp2_with (at_builtin; refine wpList_append_own _ rfl _ _ 22 rfl w.heap.size 3 i0 (.int .i64 0) 1 8 Tryz.underlying22 hi hz0 hz1 hz2 rfl (by decide) _ _ _ rfl (World.ownsRow_made w #[] 0 (Nat.le_refl _) (Nat.zero_le _) (by simp)) a xs.length ca (xs.map (Value.int .i64)) rfl ?qc1 ?qc2 ?qc3 ?qc4 ?qc5 ?qc6 ?_)
    case qc1 => rw [List.length_map, Nat.mul_one]
    case qc2 => exact HA.out
    case qc3 => intro u hu; obtain ⟨z, _, rfl⟩ := List.mem_map.1 hu; rfl
    case qc4 => unfold maxLen; omega
    case qc5 => omega
    case qc6 => simp
    intro v' w1 hown hgrow hnil
    go_wp2
    go_ret
    have hown' : w1.ownsRow w.heap.size 3 1 v' xs.length (xs.map (Value.int .i64)) := by simpa using hown
    exact ⟨v', rfl, IsInts.own hown' hx, ((Below.refl _ w).alloc (Nat.le_refl _) _).grown hgrow (by simp) (by intro k hk; simp [Value.ownBlock] at hk; omega), Fresh.own hown'⟩
set_option maxHeartbeats 800000 in
set_option maxRecDepth 100000 in
theorem cloneSpots_any (v : Value) (xs : List Pt) (w : World) (hv : IsPts w v xs) (hl : xs.length ≤ 1000000) :
    Calls Tryz.prog 65 #[v] w fun e w' => ∃ r, e = .returned r ∧ IsPts w' r xs ∧ Below w.heap.size w w' ∧ Fresh w.heap.size r := by
  obtain ⟨ao, ca, rfl, hx, hc⟩ := hv
  have q22 : ∀ (w : World) (a : Option Addr) (n c n' c' : Nat), (binOp .eql 25 (.slice a n c) (.slice none n' c')).run Tryz.prog w = .ok (.bool a.isNone) w := fun w a n c n' c' => Lib.run_eql_slice_nil w _ _ a n c n' c' Tryz.underlying25
  cases ao with
  | none =>
    have hn : xs = [] := by
      rcases hc with h | ⟨b, off, h, _⟩
      · exact h
      · cases h
    subst hn
    go_enter Tryz.func65, Tryz.ntmps65
    go_wp2
    go_ret
    exact ⟨_, rfl, IsPts.nil _, Below.refl _ _, Fresh.nil _⟩
  | some a =>
    obtain ⟨i0, hi, hz0, hz1, hz2⟩ := info_parts Tryz.infoSpot
    have HA := hide (show ∀ j u, (xs.flatMap ptL)[j]? = some u → (w.alloc (.cells #[] 77)).cell? (a.add j) = some u from pts_news _ hc)
    clear hc
    go_enter Tryz.func65, Tryz.ntmps65
    go_wp2_with (at_builtin; refine wpList_append_own _ rfl _ _ 25 rfl w.heap.size 77 i0 spZ 2 16 Tryz.underlying25 hi hz0 hz1 hz2 rfl (by decide) _ _ _ rfl (World.ownsRow_made w #[] 0 (Nat.le_refl _) (Nat.zero_le _) (by simp)) a xs.length ca (xs.flatMap ptL) rfl ?qc1 ?qc2 ?qc3 ?qc4 ?qc5 ?qc6 ?_)
    case qc1 => exact ptFlat_length xs
    case qc2 => exact HA.out
    case qc3 => exact ptFlat_one xs
    case qc4 => unfold maxLen; omega
    case qc5 => omega
    case qc6 => simp
    intro v' w1 hown hgrow hnil
    go_wp2
    go_ret
    have hown' : w1.ownsRow w.heap.size 77 2 v' xs.length (xs.flatMap ptL) := by simpa using hown
    exact ⟨v', rfl, IsPts.own hown' hx, ((Below.refl _ w).alloc (Nat.le_refl _) _).grown hgrow (by simp) (by intro k hk; simp [Value.ownBlock] at hk; omega), Fresh.own hown'⟩
set_option maxHeartbeats 800000 in
set_option maxRecDepth 100000 in
theorem clonePts_any (v : Value) (xs : List Pt) (w : World) (hv : IsPts w v xs) (hl : xs.length ≤ 1000000) :
    Calls Tryz.prog 66 #[v] w fun e w' => ∃ r, e = .returned r ∧ IsPts w' r xs ∧ Below w.heap.size w w' ∧ Fresh w.heap.size r := by
  obtain ⟨ao, ca, rfl, hx, hc⟩ := hv
  have q22 : ∀ (w : World) (a : Option Addr) (n c n' c' : Nat), (binOp .eql 28 (.slice a n c) (.slice none n' c')).run Tryz.prog w = .ok (.bool a.isNone) w := fun w a n c n' c' => Lib.run_eql_slice_nil w _ _ a n c n' c' Tryz.underlying28
  cases ao with
  | none =>
    have hn : xs = [] := by
      rcases hc with h | ⟨b, off, h, _⟩
      · exact h
      · cases h
    subst hn
    go_enter Tryz.func66, Tryz.ntmps66
    go_wp2
    go_ret
    exact ⟨_, rfl, IsPts.nil _, Below.refl _ _, Fresh.nil _⟩
  | some a =>
    obtain ⟨i0, hi, hz0, hz1, hz2⟩ := info_parts Tryz.infoPoint
    have HA := hide (show ∀ j u, (xs.flatMap ptL)[j]? = some u → (w.alloc (.cells #[] 78)).cell? (a.add j) = some u from pts_news _ hc)
    clear hc
    go_enter Tryz.func66, Tryz.ntmps66
    go_wp2_with (at_builtin; refine wpList_append_own _ rfl _ _ 28 rfl w.heap.size 78 i0 spZ 2 16 Tryz.underlying28 hi hz0 hz1 hz2 rfl (by decide) _ _ _ rfl (World.ownsRow_made w #[] 0 (Nat.le_refl _) (Nat.zero_le _) (by simp)) a xs.length ca (xs.flatMap ptL) rfl ?qc1 ?qc2 ?qc3 ?qc4 ?qc5 ?qc6 ?_)
    case qc1 => exact ptFlat_length xs
    case qc2 => exact HA.out
    case qc3 => exact ptFlat_one xs
    case qc4 => unfold maxLen; omega
    case qc5 => omega
    case qc6 => simp
    intro v' w1 hown hgrow hnil
    go_wp2
    go_ret
    have hown' : w1.ownsRow w.heap.size 78 2 v' xs.length (xs.flatMap ptL) := by simpa using hown
    exact ⟨v', rfl, IsPts.own hown' hx, ((Below.refl _ w).alloc (Nat.le_refl _) _).grown hgrow (by simp) (by intro k hk; simp [Value.ownBlock] at hk; omega), Fresh.own hown'⟩
end Go.Proofs.YtanebhbfekcplaaGreat

namespace Go.Proofs.YtanebhbfekcplaaGreat
set_option linter.unusedVariables false
set_option linter.unusedSimpArgs false
open Go.RowKit
def ix (l : List Int) (k : Nat) : Int := l.getD k 0
def pq8 (mk : Int → Plan) (l : List UInt8) : Option (Plan × List UInt8) := match numP l with
  | none => none
  | some (am, u) => some (mk am, u)
def pq7 (b4 : List UInt8 → Nat) (ph : Int) (bl : List Int) (wh : Int) (sp : List Pt) (ga ma : List Int) (l : List UInt8) : Option (Plan × List UInt8) := match listP pairP b4 l with
  | none => none
  | some (cu, u) => pq8 (fun am => ⟨ph, ix bl, wh, sp, ix ga, ix ma, cu, am⟩) u
def pq6 (b4 : List UInt8 → Nat) (ph : Int) (bl : List Int) (wh : Int) (sp : List Pt) (ga : List Int) (l : List UInt8) : Option (Plan × List UInt8) := match manyP numP 9 l with
  | none => none
  | some (ma, u) => pq7 b4 ph bl wh sp ga ma u
def pq5 (b4 : List UInt8 → Nat) (ph : Int) (bl : List Int) (wh : Int) (sp : List Pt) (l : List UInt8) : Option (Plan × List UInt8) := match manyP numP 3 l with
  | none => none
  | some (ga, u) => pq6 b4 ph bl wh sp ga u
def pq4 (b3 b4 : List UInt8 → Nat) (ph : Int) (bl : List Int) (wh : Int) (l : List UInt8) : Option (Plan × List UInt8) := match listP pairP b3 l with
  | none => none
  | some (sp, u) => pq5 b4 ph bl wh sp u
def pq3 (b3 b4 : List UInt8 → Nat) (ph : Int) (bl : List Int) (l : List UInt8) : Option (Plan × List UInt8) := match numP l with
  | none => none
  | some (wh, u) => pq4 b3 b4 ph bl wh u
def pq2 (b3 b4 : List UInt8 → Nat) (ph : Int) (l : List UInt8) : Option (Plan × List UInt8) := match manyP numP 4 l with
  | none => none
  | some (bl, u) => pq3 b3 b4 ph bl u
def planP (b3 b4 : List UInt8 → Nat) (l : List UInt8) : Option (Plan × List UInt8) := match numP l with
  | none => none
  | some (ph, u) => pq2 b3 b4 ph u
theorem list_no {α : Type} {p : List UInt8 → Option (α × List UInt8)} {m : Nat} {l : List UInt8} (h : cntP m l = none) : listP p (fun _ => m) l = none := by
  unfold cntP at h
  unfold listP
  cases h1 : numP l with
  | none => rfl
  | some x =>
    obtain ⟨n, t⟩ := x
    rw [h1] at h
    simp only at h ⊢
    split at h
    · cases h
    · rename_i h2; rw [if_neg h2]
theorem list_yes {α : Type} {p : List UInt8 → Option (α × List UInt8)} {m : Nat} {l t : List UInt8} {n : Int} (h : cntP m l = some (n, t)) : ∃ N : Nat, n = N ∧ N ≤ m ∧ listP p (fun _ => m) l = manyP p N t ∧ t.length + 4 = l.length := by
  rw [cntP] at h
  split at h
  · cases h
  · rename_i n' t' h1
    split at h
    · rename_i h2
      cases h
      refine ⟨n.toNat, by omega, by omega, ?_, numP_len h1⟩
      rw [listP]
      simp only [h1]
      rw [if_pos h2]
    · cases h
theorem many_len {α : Type} {p : List UInt8 → Option (α × List UInt8)} (hp : ∀ l a t, p l = some (a, t) → t.length ≤ l.length) {n : Nat} {l t : List UInt8} {ys : List α} (h : manyP p n l = some (ys, t)) : t.length ≤ l.length := by
  induction n generalizing ys t with
  | zero => simp only [manyP, Option.some.injEq, Prod.mk.injEq] at h; rw [h.2]; exact Nat.le_refl _
  | succ n ih =>
    rw [manyP] at h
    split at h
    · cases h
    · rename_i ys' t' h1
      split at h
      · cases h
      · rename_i a t'' h2
        cases h
        exact Nat.le_trans (hp _ _ _ h2) (ih h1)
theorem num_len {l t : List UInt8} {n : Int} (h : numP l = some (n, t)) : t.length ≤ l.length := by have := numP_len h; omega
theorem pair_len {l t : List UInt8} {p : Pt} (h : pairP l = some (p, t)) : t.length ≤ l.length := by
  rw [(pairCod.sound _ _ _ h).1, List.length_append]; omega
structure PJ (B b : Nat) (w : World) (X : List (Nat × TypeId × List Value)) (l : List UInt8) (cs : List Value) (V : World) : Prop where
  bw : b < w.heap.size
  Bw : B ≤ b
  sep : ∀ x ∈ X, w.heap.size + 1 < x.1
  st : RSt B b w V
  rd : IsRd b l V
  res : Holds w.heap.size 30 planZ.toList V
  box : Holds (w.heap.size + 1) 30 cs V
  ex : ∀ x ∈ X, Holds x.1 x.2.1 x.2.2 V
theorem Holds.lt {g : Nat} {t : TypeId} {cs : List Value} {V : World} (h : Holds g t cs V) : g < V.heap.size := (Array.getElem?_eq_some_iff.1 h).1
theorem PJ.num {B b : Nat} {w : World} {X : List (Nat × TypeId × List Value)} {l t : List UInt8} {cs : List Value} {V V' : World} (h : PJ B b w X l cs V) (hs : RSt B b V V') (hr : IsRd b t V') : PJ B b w X t cs V' where
  bw := h.bw
  Bw := h.Bw
  sep := h.sep
  st := h.st.trans hs
  rd := hr
  res := (hs.keep _ h.res.lt (by have := h.bw; omega)).trans h.res
  box := (hs.keep _ h.box.lt (by have := h.bw; omega)).trans h.box
  ex := fun x hx => (hs.keep _ (h.ex x hx).lt (by have := h.bw; have := h.sep x hx; omega)).trans (h.ex x hx)
theorem PJ.fill {B b : Nat} {w : World} {X : List (Nat × TypeId × List Value)} {l t : List UInt8} {cs cs' : List Value} {V V' : World} (h : PJ B b w X l cs V) (hs : RSt2 B b (w.heap.size + 1) V V') (hr : IsRd b t V') (hh : Holds (w.heap.size + 1) 30 cs' V') : PJ B b w X t cs' V' where
  bw := h.bw
  Bw := h.Bw
  sep := h.sep
  st := ⟨h.st.bel.trans hs.bel, fun k h1 h2 => (hs.keep k (Nat.lt_of_lt_of_le h1 h.st.bel.size) h2 (by omega)).trans (h.st.keep k h1 h2)⟩
  rd := hr
  res := (hs.keep _ h.res.lt (by have := h.bw; omega) (by omega)).trans h.res
  box := hh
  ex := fun x hx => (hs.keep _ (h.ex x hx).lt (by have := h.bw; have := h.sep x hx; omega) (by have := h.sep x hx; omega)).trans (h.ex x hx)
theorem PJ.put {B b : Nat} {w : World} {X : List (Nat × TypeId × List Value)} {l : List UInt8} {cs : List Value} {V : World} (h : PJ B b w X l cs V) (i : Nat) (v : Value) (h1 : v.oneCell' = true) : PJ B b w X l (cs.set i v) (V.setCell ⟨w.heap.size + 1, i, none⟩ v) := by
  obtain ⟨hh, hs⟩ := h.box.set (B := B) (b := b) (by have := h.bw; have := h.Bw; omega) i v h1
  exact h.fill hs ((Below.heap_setCell _ _ _ _ (by have := h.bw; show b ≠ w.heap.size + 1; omega)).trans h.rd) hh
theorem PJ.alloc {B b : Nat} {w : World} {X : List (Nat × TypeId × List Value)} {l : List UInt8} {cs : List Value} {V : World} (h : PJ B b w X l cs V) (ds : List Value) (t : TypeId) : PJ B b w ((V.heap.size, t, ds) :: X) l cs (V.alloc (.cells ds.toArray t)) where
  bw := h.bw
  Bw := h.Bw
  sep := fun x hx => by
    rcases List.mem_cons.1 hx with rfl | hx
    · exact h.box.lt
    · exact h.sep x hx
  st := h.st.trans (RSt.alloc (by have := h.st.bel.size; have := h.bw; have := h.Bw; omega) _)
  rd := rd_alloc h.rd _
  res := ((bel_alloc V _).block _ h.res.lt).trans h.res
  box := ((bel_alloc V _).block _ h.box.lt).trans h.box
  ex := fun x hx => by
    rcases List.mem_cons.1 hx with rfl | hx
    · exact al1 V _
    · exact ((bel_alloc V _).block _ (h.ex x hx).lt).trans (h.ex x hx)
theorem PJ.drew {B b : Nat} {w : World} {X : List (Nat × TypeId × List Value)} {l : List UInt8} {cs : List Value} {V : World} (h : PJ B b w X l cs V) : PJ B b w X l cs V.drew :=
  ⟨h.bw, h.Bw, h.sep, h.st.trans RSt.drew, h.rd, h.res, h.box, h.ex⟩
theorem PJ.two {B b : Nat} {w : World} {X : List (Nat × TypeId × List Value)} {g : Nat} {t : TypeId} {ds : List Value} {l : List UInt8} {cs : List Value} {V : World} (h : PJ B b w ((g, t, ds) :: X) l cs V) (hX : ∀ x ∈ X, x.1 ≠ g) (i : Nat) (v u : Value) :
    PJ B b w ((g, t, (ds.set i v).set (i + 1) u) :: X) l cs ((V.setCell ⟨g, i, none⟩ v).setCell ⟨g, i + 1, none⟩ u) := by
  have hg := h.sep (g, t, ds) (by simp)
  have hb := h.bw
  have hk : ∀ k, k ≠ g → ((V.setCell ⟨g, i, none⟩ v).setCell ⟨g, i + 1, none⟩ u).heap[k]? = V.heap[k]? := fun k hk => (Below.heap_setCell _ _ _ _ (fun e => hk e)).trans (Below.heap_setCell _ _ _ _ (fun e => hk e))
  have hB : B ≤ g := by have := h.Bw; simp only at hg; omega
  refine ⟨h.bw, h.Bw, ?_, ?_, (hk b (by simp only at hg; omega)).trans h.rd, (hk _ (by simp only at hg; omega)).trans h.res, (hk _ (by simp only at hg; omega)).trans h.box, ?_⟩
  · intro x hx
    rcases List.mem_cons.1 hx with rfl | hx
    · exact hg
    · exact h.sep x (by simp [hx])
  · refine ⟨(h.st.bel.setCell (p := ⟨g, i, none⟩) hB v).setCell (p := ⟨g, i + 1, none⟩) hB u, fun k h1 h2 => (hk k (by simp only at hg; omega)).trans (h.st.keep k h1 h2)⟩
  · intro x hx
    rcases List.mem_cons.1 hx with rfl | hx
    · have h0 := h.ex (g, t, ds) (by simp)
      unfold Holds at h0 ⊢
      simp [World.setCell, Array.getElem?_modify, h0]
    · exact (hk _ (hX x hx)).trans (h.ex x (by simp [hx]))
theorem pts_room (ns : List Pt) (M : Nat) (x y : Int) : ((ns.flatMap ptL ++ List.replicate (2 * (M + 1)) (Value.int .i64 0)).set (ns.length * 2) (.int .i64 x)).set (ns.length * 2 + 1) (.int .i64 y) = (ns ++ [(x, y)]).flatMap ptL ++ List.replicate (2 * M) (Value.int .i64 0) := by
  have hl := ptFlat_length ns
  rw [List.set_append_right _ _ (by omega), hl, Nat.sub_self, show 2 * (M + 1) = 2 * M + 1 + 1 by omega, List.replicate_succ, List.replicate_succ, List.set_cons_zero, List.set_append_right _ _ (by omega), hl, show ns.length * 2 + 1 - ns.length * 2 = 1 by omega]
  simp [ptL, List.flatMap_append]
theorem pts_holds {g : Nat} {t : TypeId} {ns : List Pt} {V : World} (h : Holds g t (ns.flatMap ptL) V) (hn : ns.length ≤ 1048576) : IsPts V (.slice (some ⟨g, 0, none⟩) ns.length ns.length) ns := by
  refine ⟨_, _, rfl, by omega, .inr ⟨g, 0, rfl, h.lt, fun j hj => ?_⟩⟩
  obtain ⟨e1, e2⟩ := ptFlat_get ns j hj
  rw [Nat.zero_add, Lib.cell_of_heap h, Lib.cell_of_heap h]
  simp only [List.getElem?_toArray]
  exact ⟨e1, e2⟩
theorem made_pts (N : Nat) : (madeCells #[Value.int .i64 0, .int .i64 0] (N * 2)) = (List.replicate (2 * N) (Value.int .i64 0)).toArray := by
  refine Array.ext (by simp [madeCells]; omega) fun i h1 h2 => ?_
  simp only [madeCells, Array.getElem_ofFn, List.getElem_toArray, List.getElem_replicate]
  have : i % (#[Value.int .i64 0, .int .i64 0] : Array Value).size < 2 := Nat.mod_lt _ (by decide)
  rcases (show i % 2 = 0 ∨ i % 2 = 1 by omega) with e | e <;> simp [e]
set_option maxRecDepth 100000 in
set_option maxHeartbeats 6400000 in
theorem rplan_any (B b : Nat) (l : List UInt8) (w : World) (hB : B ≤ b) (h : IsRd b l w) (hl : l.length ≤ 140737488355328) :
    Calls Tryz.prog 86 #[.pointer (some ⟨b, 0, none⟩)] w fun e w' => RSt B b w w' ∧ ((∃ n sv cv u, planP (fun _ => 64) (fun _ => 16) l = some (n, u) ∧ e = .returned (.agg (planA n sv cv)) ∧ IsRd b u w' ∧ IsPlan w' n sv cv ∧ Fresh w.heap.size sv ∧ Fresh w.heap.size cv) ∨ (planP (fun _ => 64) (fun _ => 16) l = none ∧ e = panE)) := by
  have hbw : b < w.heap.size := (Array.getElem?_eq_some_iff.1 h).1
  have hBw : B ≤ w.heap.size := by omega
  have HJ0 : PJ B b w [] l planZ.toList ((w.alloc (.cells planZ 30)).alloc (.cells planZ 30)) := by
    obtain ⟨a1, a2⟩ := al2 w (Obj.cells planZ 30) (Obj.cells planZ 30)
    exact ⟨hbw, hB, by simp, (RSt.alloc hBw _).trans (RSt.alloc (by simp; omega) _), rd_alloc (rd_alloc h _) _, a1, a2, by simp⟩
  have HJ := hide HJ0
  clear HJ0 h
  obtain ⟨R, HP⟩ : ∃ R, Hid (R = planP (fun _ => 64) (fun _ => 16) l) := ⟨_, rfl⟩
  rw [← HP.out]
  go_enter Tryz.func86, Tryz.ntmps86
  go_wp2_with fail
  generalize (w.alloc (.cells planZ 30)).alloc (.cells planZ 30) = V0 at *
  refine (rnum_any B b l V0 hB (Nat.le_trans hBw HJ.out.st.bel.size) HJ.out.rd (by omega)).mono ?_
  rintro e V1 ⟨hS, hc⟩
  rcases hc with ⟨ph, l1, hp, rfl, hR⟩ | ⟨hp, rfl⟩
  rotate_left
  · exact ⟨rfl, HJ.out.st.trans hS, .inr ⟨by rw [HP.out, planP, hp], rfl⟩⟩
  replace HP := hide (show R = pq2 (fun _ => 64) (fun _ => 16) ph l1 by rw [HP.out, planP, hp])
  have hl1 : l1.length ≤ 140737488355328 := by have := num_len hp; omega
  replace HJ := hide (HJ.out.num hS hR)
  have ci : V1.cell? ⟨w.heap.size + 1, 0, none⟩ = some (.int .i64 0) := by rw [Lib.cell_of_heap HJ.out.box]; rfl
  have fi : V1.frozen? ⟨w.heap.size + 1, 0, none⟩ = false := Lib.frozen_of_heap HJ.out.box _
  replace HJ := hide (HJ.out.put 0 (.int .i64 ph) rfl)
  clear hp hS hR
  replace HJ := hide (show PJ B b w [] l1 [.int .i64 ph, .int .i64 0, .int .i64 0, .int .i64 0, .int .i64 0, .int .i64 0, .slice none 0 0, .int .i64 0, .int .i64 0, .int .i64 0, .int .i64 0, .int .i64 0, .int .i64 0, .int .i64 0, .int .i64 0, .int .i64 0, .int .i64 0, .int .i64 0, .int .i64 0, .slice none 0 0, .int .i64 0] (V1.setCell ⟨w.heap.size + 1, 0, none⟩ (.int .i64 ph)) from HJ.out)
  go_wp2_with fail
  clear ci fi
  generalize V1.setCell ⟨w.heap.size + 1, 0, none⟩ (.int .i64 ph) = V1' at *
  have hz : ∀ i, i < 4 → ∃ z : Int, ([.int .i64 ph, .int .i64 0, .int .i64 0, .int .i64 0, .int .i64 0, .int .i64 0, .slice none 0 0, .int .i64 0, .int .i64 0, .int .i64 0, .int .i64 0, .int .i64 0, .int .i64 0, .int .i64 0, .int .i64 0, .int .i64 0, .int .i64 0, .int .i64 0, .int .i64 0, .slice none 0 0, .int .i64 0] : List Value)[1 + i]? = some (.int .i64 z) := fun i hi => by
    rcases (show i = 0 ∨ i = 1 ∨ i = 2 ∨ i = 3 by omega) with rfl | rfl | rfl | rfl <;> exact ⟨_, rfl⟩
  refine (rfill_any B b (w.heap.size + 1) 1 4 4 30 [.int .i64 ph, .int .i64 0, .int .i64 0, .int .i64 0, .int .i64 0, .int .i64 0, .slice none 0 0, .int .i64 0, .int .i64 0, .int .i64 0, .int .i64 0, .int .i64 0, .int .i64 0, .int .i64 0, .int .i64 0, .int .i64 0, .int .i64 0, .int .i64 0, .int .i64 0, .slice none 0 0, .int .i64 0] l1 V1' hB (by omega) (by omega) (Nat.le_trans hBw HJ.out.st.bel.size) HJ.out.rd (by omega) HJ.out.box (by simp) (by omega) hz).mono ?_
  rintro e V2 ⟨hS, hc⟩
  rcases hc with ⟨ns, l2, hp, rfl, hR, hH⟩ | ⟨hp, rfl⟩
  rotate_left
  · exact ⟨rfl, ⟨HJ.out.st.bel.trans hS.bel, fun k h1 h2 => (hS.keep k (Nat.lt_of_lt_of_le h1 HJ.out.st.bel.size) h2 (by omega)).trans (HJ.out.st.keep k h1 h2)⟩, .inr ⟨by rw [HP.out, pq2, hp], rfl⟩⟩
  obtain ⟨a0, a1, a2, a3, rfl⟩ : ∃ a0 a1 a2 a3, ns = [a0, a1, a2, a3] := by
    have hlen := manyP_length hp
    match ns, hlen with
    | [a0, a1, a2, a3], _ => exact ⟨a0, a1, a2, a3, rfl⟩
  replace HP := hide (show R = pq3 (fun _ => 64) (fun _ => 16) ph [a0, a1, a2, a3] l2 by rw [HP.out, pq2, hp])
  have hl2 : l2.length ≤ 140737488355328 := by have := many_len (fun _ _ _ => num_len) hp; omega
  replace HJ := hide (HJ.out.fill hS hR hH)
  clear hp hS hR hH hz
  replace HJ := hide (show PJ B b w [] l2 [.int .i64 ph, .int .i64 a0, .int .i64 a1, .int .i64 a2, .int .i64 a3, .int .i64 0, .slice none 0 0, .int .i64 0, .int .i64 0, .int .i64 0, .int .i64 0, .int .i64 0, .int .i64 0, .int .i64 0, .int .i64 0, .int .i64 0, .int .i64 0, .int .i64 0, .int .i64 0, .slice none 0 0, .int .i64 0] V2 from HJ.out)
  go_wp2_with fail
  refine (rnum_any B b l2 V2 hB (Nat.le_trans hBw HJ.out.st.bel.size) HJ.out.rd (by omega)).mono ?_
  rintro e V3 ⟨hS, hc⟩
  rcases hc with ⟨wh, l3, hp, rfl, hR⟩ | ⟨hp, rfl⟩
  rotate_left
  · exact ⟨rfl, HJ.out.st.trans hS, .inr ⟨by rw [HP.out, pq3, hp], rfl⟩⟩
  replace HP := hide (show R = pq4 (fun _ => 64) (fun _ => 16) ph [a0, a1, a2, a3] wh l3 by rw [HP.out, pq3, hp])
  have hl3 : l3.length ≤ 140737488355328 := by have := num_len hp; omega
  replace HJ := hide (HJ.out.num hS hR)
  have ci : V3.cell? ⟨w.heap.size + 1, 5, none⟩ = some (.int .i64 0) := by rw [Lib.cell_of_heap HJ.out.box]; rfl
  have fi : V3.frozen? ⟨w.heap.size + 1, 5, none⟩ = false := Lib.frozen_of_heap HJ.out.box _
  replace HJ := hide (HJ.out.put 5 (.int .i64 wh) rfl)
  clear hp hS hR
  replace HJ := hide (show PJ B b w [] l3 [.int .i64 ph, .int .i64 a0, .int .i64 a1, .int .i64 a2, .int .i64 a3, .int .i64 wh, .slice none 0 0, .int .i64 0, .int .i64 0, .int .i64 0, .int .i64 0, .int .i64 0, .int .i64 0, .int .i64 0, .int .i64 0, .int .i64 0, .int .i64 0, .int .i64 0, .int .i64 0, .slice none 0 0, .int .i64 0] (V3.setCell ⟨w.heap.size + 1, 5, none⟩ (.int .i64 wh)) from HJ.out)
  go_wp2_with fail
  clear ci fi
  generalize V3.setCell ⟨w.heap.size + 1, 5, none⟩ (.int .i64 wh) = V3' at *
  refine (rcount_any B b 64 l3 V3' hB (Nat.le_trans hBw HJ.out.st.bel.size) HJ.out.rd (by omega)).mono ?_
  rintro e V4 ⟨hS, hc⟩
  rcases hc with ⟨n, l4, hp, rfl, hR⟩ | ⟨hp, rfl⟩
  rotate_left
  · exact ⟨rfl, HJ.out.st.trans hS, .inr ⟨by rw [HP.out, pq4, list_no hp], rfl⟩⟩
  obtain ⟨N4, rfl, hN4, hlp, hlen⟩ := list_yes (p := pairP) hp
  have HLP := hide hlp
  have hl4 : l4.length ≤ 140737488355328 := by omega
  replace HJ := hide (HJ.out.num hS hR)
  clear hp hS hR hlp hlen
  obtain ⟨i0, hi, hz0, hz1, hz2⟩ := info_parts Tryz.infoSpot
  obtain ⟨ZA, hZA⟩ : ∃ ZA : Array Value, (List.replicate (2 * N4) (Value.int .i64 0)).toArray = ZA := ⟨_, rfl⟩
  have hmk : ∀ V : World, (Instr.makeSlice 25 (.int .i64 N4) (.int .i64 N4)).run Tryz.prog V = .ok (.slice (some ⟨V.heap.size, 0, none⟩) N4 N4) (V.alloc (.cells ZA 77)) := fun V => by
    have h := run_make (P := Tryz.prog) V 25 77 i0 spZ Tryz.underlying25 hi hz0 .i64 .i64 N4 N4 (by omega) (Int.le_refl _) (by rw [hz2]; omega) (by omega)
    rw [hz1, Int.toNat_natCast] at h
    rw [← hZA, ← made_pts]
    simpa [spZ, Value.cells] using h
  clear hi hz0 hz1 hz2
  have hxs4 : ∀ x ∈ ([] : List (Nat × TypeId × List Value)), x.1 ≠ V4.heap.size := fun x hx => by have := (HJ.out.ex x hx).lt; omega
  have ci : V4.cell? ⟨w.heap.size + 1, 6, none⟩ = some (.slice none 0 0) := by rw [Lib.cell_of_heap HJ.out.box]; rfl
  have fi : V4.frozen? ⟨w.heap.size + 1, 6, none⟩ = false := Lib.frozen_of_heap HJ.out.box _
  have hbl : w.heap.size + 1 < V4.heap.size := HJ.out.box.lt
  have ci' : (V4.alloc (.cells ZA 77)).cell? ⟨w.heap.size + 1, 6, none⟩ = some (.slice none 0 0) := by rw [Lib.cell_of_heap (((bel_alloc V4 _).block _ HJ.out.box.lt).trans HJ.out.box)]; rfl
  have fi' : (V4.alloc (.cells ZA 77)).frozen? ⟨w.heap.size + 1, 6, none⟩ = false := Lib.frozen_of_heap (((bel_alloc V4 _).block _ HJ.out.box.lt).trans HJ.out.box) _
  replace HJ := hide ((HJ.out.put 6 (.slice (some ⟨V4.heap.size, 0, none⟩) N4 N4) rfl).alloc (List.replicate (2 * N4) (Value.int .i64 0)) 77)
  rw [hZA, show (V4.setCell ⟨w.heap.size + 1, 6, none⟩ (.slice (some ⟨V4.heap.size, 0, none⟩) N4 N4)).heap.size = V4.heap.size by simp [World.setCell]] at HJ
  clear hZA
  have hsep4 : w.heap.size + 1 < V4.heap.size := HJ.out.sep _ List.mem_cons_self
  go_upto_region 6 with fail
  clear ci fi ci' fi' hmk hbl
  generalize V4.heap.size = S4 at *
  generalize (V4.setCell ⟨w.heap.size + 1, 6, none⟩ (.slice (some ⟨S4, 0, none⟩) N4 N4)).alloc (.cells ZA 77) = VA at *
  have cj : VA.cell? ⟨w.heap.size + 1, 6, none⟩ = some (.slice (some ⟨S4, 0, none⟩) N4 N4) := by rw [Lib.cell_of_heap HJ.out.box]; rfl
  go_wp2_with fail
  clear cj
  replace HJ := hide (show PJ B b w [(S4, 77, [].flatMap ptL ++ List.replicate (2 * (N4 - 0)) (Value.int .i64 0))] l4 [.int .i64 ph, .int .i64 a0, .int .i64 a1, .int .i64 a2, .int .i64 a3, .int .i64 wh, .slice (some ⟨S4, 0, none⟩) N4 N4, .int .i64 0, .int .i64 0, .int .i64 0, .int .i64 0, .int .i64 0, .int .i64 0, .int .i64 0, .int .i64 0, .int .i64 0, .int .i64 0, .int .i64 0, .int .i64 0, .slice none 0 0, .int .i64 0] VA from HJ.out)
  go_loopw [23] (fun i wr => ∃ k : Nat, k ≤ N4 ∧ i = .int .i64 k ∧ ∃ ns u, manyP pairP k l4 = some (ns, u) ∧ PJ B b w [(S4, 77, ns.flatMap ptL ++ List.replicate (2 * (N4 - k)) (Value.int .i64 0))] u [.int .i64 ph, .int .i64 a0, .int .i64 a1, .int .i64 a2, .int .i64 a3, .int .i64 wh, .slice (some ⟨S4, 0, none⟩) N4 N4, .int .i64 0, .int .i64 0, .int .i64 0, .int .i64 0, .int .i64 0, .int .i64 0, .int .i64 0, .int .i64 0, .int .i64 0, .int .i64 0, .int .i64 0, .int .i64 0, .slice none 0 0, .int .i64 0] wr) (fun i _ => N4 - (intOf i).toNat)
  case atStart => exact ⟨0, Nat.zero_le _, rfl, [], l4, rfl, HJ.out⟩
  case round =>
    clear HJ
    obtain ⟨k, hk, rfl, ns, u, hm, hJ⟩ := hrel
    have HJ := hide hJ
    clear hJ
    have hnl := manyP_length hm
    have hul := many_len (fun _ _ _ => pair_len) hm
    by_cases hlt : k < N4
    · have hd : decide ((k : Int) < (N4 : Int)) = true := by simp; omega
      have HM := hide hm
      have HSQ := hide (fun (v : World) (cs' : List UInt8) (hv : PJ B b w [(S4, 77, ns.flatMap ptL ++ List.replicate (2 * (N4 - k)) (Value.int .i64 0))] cs' [.int .i64 ph, .int .i64 a0, .int .i64 a1, .int .i64 a2, .int .i64 a3, .int .i64 wh, .slice (some ⟨S4, 0, none⟩) N4 N4, .int .i64 0, .int .i64 0, .int .i64 0, .int .i64 0, .int .i64 0, .int .i64 0, .int .i64 0, .int .i64 0, .int .i64 0, .int .i64 0, .int .i64 0, .int .i64 0, .slice none 0 0, .int .i64 0] v) => show v.cell? ⟨w.heap.size + 1, 6, none⟩ = some (.slice (some ⟨S4, 0, none⟩) N4 N4) ∧ True from ⟨by rw [Lib.cell_of_heap hv.box]; rfl, trivial⟩)
      clear hm
      go_upto_region 9 with fail
      have HJd := hide HJ.out.drew
      have hSd := HSQ.out _ _ HJd.out
      have hmx : Tryz.prog.follows .mixedOrders = true := by kernel_rfl
      refine wp_region_last (S := (fun v : World => v.cell? ⟨w.heap.size + 1, 6, none⟩ = some (.slice (some ⟨S4, 0, none⟩) N4 N4) ∧ True)) (f := 9) hmx ?_
      show wpAnyF _ _ _ _ _ _ 10 _ _ wr.drew
      refine wpAnyF_takeP (i := 0) (oi := _) (v := ?vv1) (some 26) [] rfl rfl (by kernel_rfl) (by kernel_rfl) (by kernel_rfl) (by kernel_rfl) (by kernel_rfl) (fun _ _ _ h => h) (Or.inl ⟨by rfl, ?yy1⟩) hSd ?rr1
      case yy1 => (intro wq hSq; obtain ⟨_, _⟩ := hSq; go_simp <;> with_reducible rfl)
      simp only [Act.put, List.setIfInBounds_toArray, List.set_cons_succ, List.set_cons_zero]
      refine wpAnyF_takeP (i := 2) (oi := _) (v := ?vv2) (some 28) [] rfl rfl (by kernel_rfl) (by kernel_rfl) (by kernel_rfl) (by kernel_rfl) (by kernel_rfl) (fun _ _ _ h => h) (Or.inl ⟨by rfl, ?yy2⟩) hSd ?rr2
      case yy2 => (intro wq hSq; obtain ⟨_, _⟩ := hSq; go_simp <;> with_reducible rfl)
      simp only [Act.put, List.setIfInBounds_toArray, List.set_cons_succ, List.set_cons_zero]
      refine wpAnyF_takeP (i := 3) (oi := _) (v := ?vv3) (some 29) [] rfl rfl (by kernel_rfl) (by kernel_rfl) (by kernel_rfl) (by kernel_rfl) (by kernel_rfl) (fun _ _ _ h => h) (Or.inl ⟨by rfl, ?yy3⟩) hSd ?rr3
      case yy3 => (intro wq hSq; obtain ⟨_, _⟩ := hSq; go_simp <;> with_reducible rfl)
      simp only [Act.put, List.setIfInBounds_toArray, List.set_cons_succ, List.set_cons_zero]
      refine wpAnyF_takeP (i := 5) (oi := _) (v := ?vv4) (some 31) [] rfl rfl (by kernel_rfl) (by kernel_rfl) (by kernel_rfl) (by kernel_rfl) (by kernel_rfl) (fun _ _ _ h => h) (Or.inl ⟨by rfl, ?yy4⟩) hSd ?rr4
      case yy4 => (intro wq hSq; obtain ⟨_, _⟩ := hSq; go_simp <;> with_reducible rfl)
      simp only [Act.put, List.setIfInBounds_toArray, List.set_cons_succ, List.set_cons_zero]
      refine wpAnyF_takeP (i := 1) (oi := _) (v := ?vv5) (some 27) [] rfl rfl (by kernel_rfl) (by kernel_rfl) (by kernel_rfl) (by kernel_rfl) (by kernel_rfl) (fun _ _ _ h => h) (Or.inl ⟨by rfl, ?yy5⟩) hSd ?rr5
      case yy5 => (intro wq hSq; obtain ⟨_, _⟩ := hSq; go_simp <;> with_reducible rfl)
      simp only [Act.put, List.setIfInBounds_toArray, List.set_cons_succ, List.set_cons_zero]
      refine wpAnyF_one (i := 4) (o := _) (by kernel_rfl) rfl (fun K' hK => ?_)
      rw [if_pos (by rfl)]
      go_simp
      refine (rnum_any B b u wr.drew hB (Nat.le_trans hBw HJd.out.st.bel.size) HJd.out.rd (by omega)).mono ?_
      rintro e X1 ⟨hS, hc⟩
      rcases hc with ⟨x, u1, hp, rfl, hR⟩ | ⟨hp, rfl⟩
      rotate_left
      · exact ⟨rfl, HJd.out.st.trans hS, .inr ⟨by rw [HP.out, pq4, HLP.out, manyP_stop HM.out (by rw [pairP, hp]) hlt], rfl⟩⟩
      have HP1 := hide hp
      have hu1 := num_len hp
      have HJ1 := hide (HJd.out.num hS hR)
      clear hp hS hR
      have hSd := HSQ.out _ _ HJ1.out
      refine hK.out _ _ hSd ?_
      clear hK
      try simp only [Act.put]
      refine wpAnyF_one (i := 6) (o := _) (by kernel_rfl) rfl (fun K' hK => ?_)
      rw [if_pos (by rfl)]
      go_simp
      refine (rnum_any B b u1 X1 hB (Nat.le_trans hBw HJ1.out.st.bel.size) HJ1.out.rd (by omega)).mono ?_
      rintro e X2 ⟨hS, hc⟩
      rcases hc with ⟨y, u2, hp, rfl, hR⟩ | ⟨hp, rfl⟩
      rotate_left
      · exact ⟨rfl, HJ1.out.st.trans hS, .inr ⟨by rw [HP.out, pq4, HLP.out, manyP_stop HM.out (by rw [pairP, HP1.out]; simp only [hp]) hlt], rfl⟩⟩
      have HP2 := hide (show pairP u = some ((x, y), u2) by rw [pairP, HP1.out]; simp only [hp])
      have HJ2 := hide (HJ1.out.num hS hR)
      clear hp hS hR
      have hcl : (ns.flatMap ptL ++ List.replicate (2 * (N4 - k)) (Value.int .i64 0)).length = N4 * 2 := by rw [List.length_append, ptFlat_length, List.length_replicate, hnl]; omega
      have hH := HJ2.out.ex (S4, 77, ns.flatMap ptL ++ List.replicate (2 * (N4 - k)) (Value.int .i64 0)) (by simp)
      have g0 : ∃ z, X2.cell? ⟨S4, k * 2, none⟩ = some z := ⟨_, by rw [Lib.cell_of_heap hH, List.getElem?_toArray]; exact List.getElem?_eq_getElem (by rw [hcl]; omega)⟩
      have g1 : ∃ z, X2.cell? ⟨S4, k * 2 + 1, none⟩ = some z := ⟨_, by rw [Lib.cell_of_heap hH, List.getElem?_toArray]; exact List.getElem?_eq_getElem (by rw [hcl]; omega)⟩
      obtain ⟨z0, c0⟩ := g0
      obtain ⟨z1, c1⟩ := g1
      have f0 : X2.frozen? ⟨S4, k * 2, none⟩ = false := Lib.frozen_of_heap hH _
      have f1 : X2.frozen? ⟨S4, k * 2 + 1, none⟩ = false := Lib.frozen_of_heap hH _
      have HJ3 := hide (HJ2.out.two hxs4 (k * 2) (.int .i64 x) (.int .i64 y))
      clear hcl hH
      have hSd := HSQ.out _ _ HJ2.out
      refine hK.out _ _ hSd ?_
      clear hK
      try simp only [Act.put]
      refine wpAnyF_takeP (i := 7) (oi := _) (v := ?vv6) (some 33) [] rfl rfl (by kernel_rfl) (by kernel_rfl) (by kernel_rfl) (by kernel_rfl) (by kernel_rfl) (fun _ _ _ h => h) (Or.inl ⟨by rfl, ?yy6⟩) hSd ?rr6
      case yy6 => (intro wq hSq; obtain ⟨_, _⟩ := hSq; go_simp <;> with_reducible rfl)
      simp only [Act.put, List.setIfInBounds_toArray, List.set_cons_succ, List.set_cons_zero]
      refine wpAnyF_takeP (i := 8) (oi := _) (v := ?vv7) (some 34) [] rfl rfl (by kernel_rfl) (by kernel_rfl) (by kernel_rfl) (by kernel_rfl) (by kernel_rfl) (fun _ _ _ h => h) (Or.inl ⟨by rfl, ?yy7⟩) hSd ?rr7
      case yy7 => (intro wq hSq; obtain ⟨_, _⟩ := hSq; go_simp <;> with_reducible rfl)
      simp only [Act.put, List.setIfInBounds_toArray, List.set_cons_succ, List.set_cons_zero]
      refine wpAnyF_last (o := _) (by kernel_rfl) rfl (fun K' hK => ?_)
      rw [if_pos (by rfl)]
      go_simp
      refine hK.out _ _ ?_
      clear hK
      refine wpAnyF_done (by kernel_rfl) ?_ _
      try simp only [Act.put]
      have HJ4 := hide (show PJ B b w [(S4, 77, (ns ++ [(x, y)]).flatMap ptL ++ List.replicate (2 * (N4 - (k + 1))) (Value.int .i64 0))] u2 [.int .i64 ph, .int .i64 a0, .int .i64 a1, .int .i64 a2, .int .i64 a3, .int .i64 wh, .slice (some ⟨S4, 0, none⟩) N4 N4, .int .i64 0, .int .i64 0, .int .i64 0, .int .i64 0, .int .i64 0, .int .i64 0, .int .i64 0, .int .i64 0, .int .i64 0, .int .i64 0, .int .i64 0, .int .i64 0, .slice none 0 0, .int .i64 0] _ from by
        have h := HJ3.out
        rw [show N4 - k = N4 - (k + 1) + 1 by omega, ← hnl, pts_room, hnl] at h
        exact h)
      have HM2 := hide (manyP_next HM.out HP2.out)
      clear HJ3 HJ2 HJ1 HJd HJ hSd c0 c1 f0 f1 HSQ
      go_wp2
      go_roundw
      case rel => exact ⟨k + 1, hlt, by go_num, _, _, HM2.out, HJ4.out⟩
      case measure => simp [intOf]; omega
    · have hd : decide ((k : Int) < (N4 : Int)) = false := by simp; omega
      obtain rfl : N4 = k := by omega
      replace HP := hide (show R = pq5 (fun _ => 16) ph [a0, a1, a2, a3] wh ns u by rw [HP.out, pq4, HLP.out, hm])
      replace HJ := hide (show PJ B b w [(S4, 77, ns.flatMap ptL)] u [.int .i64 ph, .int .i64 a0, .int .i64 a1, .int .i64 a2, .int .i64 a3, .int .i64 wh, .slice (some ⟨S4, 0, none⟩) N4 N4, .int .i64 0, .int .i64 0, .int .i64 0, .int .i64 0, .int .i64 0, .int .i64 0, .int .i64 0, .int .i64 0, .int .i64 0, .int .i64 0, .int .i64 0, .int .i64 0, .slice none 0 0, .int .i64 0] wr by have h := HJ.out; rwa [Nat.sub_self, Nat.mul_zero, List.replicate_zero, List.append_nil] at h)
      have hn4 := hnl
      clear hm HLP hnl
      generalize ns = sp at *
      generalize u = l4u at *
      generalize wr = W4 at *
      have hl4u : l4u.length ≤ 140737488355328 := by omega
      clear hul
      go_wp2_with fail
      have hz : ∀ i, i < 3 → ∃ z : Int, ([.int .i64 ph, .int .i64 a0, .int .i64 a1, .int .i64 a2, .int .i64 a3, .int .i64 wh, .slice (some ⟨S4, 0, none⟩) N4 N4, .int .i64 0, .int .i64 0, .int .i64 0, .int .i64 0, .int .i64 0, .int .i64 0, .int .i64 0, .int .i64 0, .int .i64 0, .int .i64 0, .int .i64 0, .int .i64 0, .slice none 0 0, .int .i64 0] : List Value)[7 + i]? = some (.int .i64 z) := fun i hi => by
        rcases (show i = 0 ∨ i = 1 ∨ i = 2 by omega) with rfl | rfl | rfl <;> exact ⟨_, rfl⟩
      refine (rfill_any B b (w.heap.size + 1) 7 3 3 30 [.int .i64 ph, .int .i64 a0, .int .i64 a1, .int .i64 a2, .int .i64 a3, .int .i64 wh, .slice (some ⟨S4, 0, none⟩) N4 N4, .int .i64 0, .int .i64 0, .int .i64 0, .int .i64 0, .int .i64 0, .int .i64 0, .int .i64 0, .int .i64 0, .int .i64 0, .int .i64 0, .int .i64 0, .int .i64 0, .slice none 0 0, .int .i64 0] l4u W4 hB (by omega) (by omega) (Nat.le_trans hBw HJ.out.st.bel.size) HJ.out.rd (by omega) HJ.out.box (by simp) (by omega) hz).mono ?_
      rintro e V5 ⟨hS, hc⟩
      rcases hc with ⟨ns, l5, hp, rfl, hR, hH⟩ | ⟨hp, rfl⟩
      rotate_left
      · exact ⟨rfl, ⟨HJ.out.st.bel.trans hS.bel, fun k h1 h2 => (hS.keep k (Nat.lt_of_lt_of_le h1 HJ.out.st.bel.size) h2 (by omega)).trans (HJ.out.st.keep k h1 h2)⟩, .inr ⟨by rw [HP.out, pq5, hp], rfl⟩⟩
      obtain ⟨g0, g1, g2, rfl⟩ : ∃ g0 g1 g2, ns = [g0, g1, g2] := by
        have hlen := manyP_length hp
        match ns, hlen with
        | [g0, g1, g2], _ => exact ⟨g0, g1, g2, rfl⟩
      replace HP := hide (show R = pq6 (fun _ => 16) ph [a0, a1, a2, a3] wh sp [g0, g1, g2] l5 by rw [HP.out, pq5, hp])
      have hl5 : l5.length ≤ 140737488355328 := by have := many_len (fun _ _ _ => num_len) hp; omega
      replace HJ := hide (HJ.out.fill hS hR hH)
      clear hp hS hR hH hz
      replace HJ := hide (show PJ B b w [(S4, 77, sp.flatMap ptL)] l5 [.int .i64 ph, .int .i64 a0, .int .i64 a1, .int .i64 a2, .int .i64 a3, .int .i64 wh, .slice (some ⟨S4, 0, none⟩) N4 N4, .int .i64 g0, .int .i64 g1, .int .i64 g2, .int .i64 0, .int .i64 0, .int .i64 0, .int .i64 0, .int .i64 0, .int .i64 0, .int .i64 0, .int .i64 0, .int .i64 0, .slice none 0 0, .int .i64 0] V5 from HJ.out)
      go_wp2_with fail
      have hz : ∀ i, i < 9 → ∃ z : Int, ([.int .i64 ph, .int .i64 a0, .int .i64 a1, .int .i64 a2, .int .i64 a3, .int .i64 wh, .slice (some ⟨S4, 0, none⟩) N4 N4, .int .i64 g0, .int .i64 g1, .int .i64 g2, .int .i64 0, .int .i64 0, .int .i64 0, .int .i64 0, .int .i64 0, .int .i64 0, .int .i64 0, .int .i64 0, .int .i64 0, .slice none 0 0, .int .i64 0] : List Value)[10 + i]? = some (.int .i64 z) := fun i hi => by
        rcases (show i = 0 ∨ i = 1 ∨ i = 2 ∨ i = 3 ∨ i = 4 ∨ i = 5 ∨ i = 6 ∨ i = 7 ∨ i = 8 by omega) with rfl | rfl | rfl | rfl | rfl | rfl | rfl | rfl | rfl <;> exact ⟨_, rfl⟩
      refine (rfill_any B b (w.heap.size + 1) 10 9 9 30 [.int .i64 ph, .int .i64 a0, .int .i64 a1, .int .i64 a2, .int .i64 a3, .int .i64 wh, .slice (some ⟨S4, 0, none⟩) N4 N4, .int .i64 g0, .int .i64 g1, .int .i64 g2, .int .i64 0, .int .i64 0, .int .i64 0, .int .i64 0, .int .i64 0, .int .i64 0, .int .i64 0, .int .i64 0, .int .i64 0, .slice none 0 0, .int .i64 0] l5 V5 hB (by omega) (by omega) (Nat.le_trans hBw HJ.out.st.bel.size) HJ.out.rd (by omega) HJ.out.box (by simp) (by omega) hz).mono ?_
      rintro e V6 ⟨hS, hc⟩
      rcases hc with ⟨ns, l6, hp, rfl, hR, hH⟩ | ⟨hp, rfl⟩
      rotate_left
      · exact ⟨rfl, ⟨HJ.out.st.bel.trans hS.bel, fun k h1 h2 => (hS.keep k (Nat.lt_of_lt_of_le h1 HJ.out.st.bel.size) h2 (by omega)).trans (HJ.out.st.keep k h1 h2)⟩, .inr ⟨by rw [HP.out, pq6, hp], rfl⟩⟩
      obtain ⟨m0, m1, m2, m3, m4, m5, m6, m7, m8, rfl⟩ : ∃ m0 m1 m2 m3 m4 m5 m6 m7 m8, ns = [m0, m1, m2, m3, m4, m5, m6, m7, m8] := by
        have hlen := manyP_length hp
        match ns, hlen with
        | [m0, m1, m2, m3, m4, m5, m6, m7, m8], _ => exact ⟨m0, m1, m2, m3, m4, m5, m6, m7, m8, rfl⟩
      replace HP := hide (show R = pq7 (fun _ => 16) ph [a0, a1, a2, a3] wh sp [g0, g1, g2] [m0, m1, m2, m3, m4, m5, m6, m7, m8] l6 by rw [HP.out, pq6, hp])
      have hl6 : l6.length ≤ 140737488355328 := by have := many_len (fun _ _ _ => num_len) hp; omega
      replace HJ := hide (HJ.out.fill hS hR hH)
      clear hp hS hR hH hz
      replace HJ := hide (show PJ B b w [(S4, 77, sp.flatMap ptL)] l6 [.int .i64 ph, .int .i64 a0, .int .i64 a1, .int .i64 a2, .int .i64 a3, .int .i64 wh, .slice (some ⟨S4, 0, none⟩) N4 N4, .int .i64 g0, .int .i64 g1, .int .i64 g2, .int .i64 m0, .int .i64 m1, .int .i64 m2, .int .i64 m3, .int .i64 m4, .int .i64 m5, .int .i64 m6, .int .i64 m7, .int .i64 m8, .slice none 0 0, .int .i64 0] V6 from HJ.out)
      go_wp2_with fail
      refine (rcount_any B b 16 l6 V6 hB (Nat.le_trans hBw HJ.out.st.bel.size) HJ.out.rd (by omega)).mono ?_
      rintro e V7 ⟨hS, hc⟩
      rcases hc with ⟨n, l7, hp, rfl, hR⟩ | ⟨hp, rfl⟩
      rotate_left
      · exact ⟨rfl, HJ.out.st.trans hS, .inr ⟨by rw [HP.out, pq7, list_no hp], rfl⟩⟩
      obtain ⟨N7, rfl, hN7, hlp, hlen⟩ := list_yes (p := pairP) hp
      have HLP := hide hlp
      have hl7 : l7.length ≤ 140737488355328 := by omega
      replace HJ := hide (HJ.out.num hS hR)
      clear hp hS hR hlp hlen
      obtain ⟨i0, hi, hz0, hz1, hz2⟩ := info_parts Tryz.infoPoint
      obtain ⟨ZA, hZA⟩ : ∃ ZA : Array Value, (List.replicate (2 * N7) (Value.int .i64 0)).toArray = ZA := ⟨_, rfl⟩
      have hmk : ∀ V : World, (Instr.makeSlice 28 (.int .i64 N7) (.int .i64 N7)).run Tryz.prog V = .ok (.slice (some ⟨V.heap.size, 0, none⟩) N7 N7) (V.alloc (.cells ZA 78)) := fun V => by
        have h := run_make (P := Tryz.prog) V 28 78 i0 spZ Tryz.underlying28 hi hz0 .i64 .i64 N7 N7 (by omega) (Int.le_refl _) (by rw [hz2]; omega) (by omega)
        rw [hz1, Int.toNat_natCast] at h
        rw [← hZA, ← made_pts]
        simpa [spZ, Value.cells] using h
      clear hi hz0 hz1 hz2
      have hxs7 : ∀ x ∈ ([(S4, 77, sp.flatMap ptL)] : List (Nat × TypeId × List Value)), x.1 ≠ V7.heap.size := fun x hx => by have := (HJ.out.ex x hx).lt; omega
      have ci : V7.cell? ⟨w.heap.size + 1, 19, none⟩ = some (.slice none 0 0) := by rw [Lib.cell_of_heap HJ.out.box]; rfl
      have fi : V7.frozen? ⟨w.heap.size + 1, 19, none⟩ = false := Lib.frozen_of_heap HJ.out.box _
      have hbl : w.heap.size + 1 < V7.heap.size := HJ.out.box.lt
      have ci' : (V7.alloc (.cells ZA 78)).cell? ⟨w.heap.size + 1, 19, none⟩ = some (.slice none 0 0) := by rw [Lib.cell_of_heap (((bel_alloc V7 _).block _ HJ.out.box.lt).trans HJ.out.box)]; rfl
      have fi' : (V7.alloc (.cells ZA 78)).frozen? ⟨w.heap.size + 1, 19, none⟩ = false := Lib.frozen_of_heap (((bel_alloc V7 _).block _ HJ.out.box.lt).trans HJ.out.box) _
      replace HJ := hide ((HJ.out.put 19 (.slice (some ⟨V7.heap.size, 0, none⟩) N7 N7) rfl).alloc (List.replicate (2 * N7) (Value.int .i64 0)) 78)
      rw [hZA, show (V7.setCell ⟨w.heap.size + 1, 19, none⟩ (.slice (some ⟨V7.heap.size, 0, none⟩) N7 N7)).heap.size = V7.heap.size by simp [World.setCell]] at HJ
      clear hZA
      have hsep7 : w.heap.size + 1 < V7.heap.size := HJ.out.sep _ List.mem_cons_self
      go_upto_region 14 with fail
      clear ci fi ci' fi' hmk hbl
      generalize V7.heap.size = S7 at *
      generalize (V7.setCell ⟨w.heap.size + 1, 19, none⟩ (.slice (some ⟨S7, 0, none⟩) N7 N7)).alloc (.cells ZA 78) = VA at *
      have cj : VA.cell? ⟨w.heap.size + 1, 19, none⟩ = some (.slice (some ⟨S7, 0, none⟩) N7 N7) := by rw [Lib.cell_of_heap HJ.out.box]; rfl
      go_wp2_with fail
      clear cj
      replace HJ := hide (show PJ B b w [(S7, 78, [].flatMap ptL ++ List.replicate (2 * (N7 - 0)) (Value.int .i64 0)), (S4, 77, sp.flatMap ptL)] l7 [.int .i64 ph, .int .i64 a0, .int .i64 a1, .int .i64 a2, .int .i64 a3, .int .i64 wh, .slice (some ⟨S4, 0, none⟩) N4 N4, .int .i64 g0, .int .i64 g1, .int .i64 g2, .int .i64 m0, .int .i64 m1, .int .i64 m2, .int .i64 m3, .int .i64 m4, .int .i64 m5, .int .i64 m6, .int .i64 m7, .int .i64 m8, .slice (some ⟨S7, 0, none⟩) N7 N7, .int .i64 0] VA from HJ.out)
      go_loopw [51] (fun i wr => ∃ k : Nat, k ≤ N7 ∧ i = .int .i64 k ∧ ∃ ns u, manyP pairP k l7 = some (ns, u) ∧ PJ B b w [(S7, 78, ns.flatMap ptL ++ List.replicate (2 * (N7 - k)) (Value.int .i64 0)), (S4, 77, sp.flatMap ptL)] u [.int .i64 ph, .int .i64 a0, .int .i64 a1, .int .i64 a2, .int .i64 a3, .int .i64 wh, .slice (some ⟨S4, 0, none⟩) N4 N4, .int .i64 g0, .int .i64 g1, .int .i64 g2, .int .i64 m0, .int .i64 m1, .int .i64 m2, .int .i64 m3, .int .i64 m4, .int .i64 m5, .int .i64 m6, .int .i64 m7, .int .i64 m8, .slice (some ⟨S7, 0, none⟩) N7 N7, .int .i64 0] wr) (fun i _ => N7 - (intOf i).toNat)
      case atStart => exact ⟨0, Nat.zero_le _, rfl, [], l7, rfl, HJ.out⟩
      case round =>
        clear HJ
        obtain ⟨k, hk, rfl, ns, u, hm, hJ⟩ := hrel
        have HJ := hide hJ
        clear hJ
        have hnl := manyP_length hm
        have hul := many_len (fun _ _ _ => pair_len) hm
        by_cases hlt : k < N7
        · have hd : decide ((k : Int) < (N7 : Int)) = true := by simp; omega
          have HM := hide hm
          have HSQ := hide (fun (v : World) (cs' : List UInt8) (hv : PJ B b w [(S7, 78, ns.flatMap ptL ++ List.replicate (2 * (N7 - k)) (Value.int .i64 0)), (S4, 77, sp.flatMap ptL)] cs' [.int .i64 ph, .int .i64 a0, .int .i64 a1, .int .i64 a2, .int .i64 a3, .int .i64 wh, .slice (some ⟨S4, 0, none⟩) N4 N4, .int .i64 g0, .int .i64 g1, .int .i64 g2, .int .i64 m0, .int .i64 m1, .int .i64 m2, .int .i64 m3, .int .i64 m4, .int .i64 m5, .int .i64 m6, .int .i64 m7, .int .i64 m8, .slice (some ⟨S7, 0, none⟩) N7 N7, .int .i64 0] v) => show v.cell? ⟨w.heap.size + 1, 19, none⟩ = some (.slice (some ⟨S7, 0, none⟩) N7 N7) ∧ True from ⟨by rw [Lib.cell_of_heap hv.box]; rfl, trivial⟩)
          clear hm
          go_upto_region 17 with fail
          have HJd := hide HJ.out.drew
          have hSd := HSQ.out _ _ HJd.out
          have hmx : Tryz.prog.follows .mixedOrders = true := by kernel_rfl
          refine wp_region_last (S := (fun v : World => v.cell? ⟨w.heap.size + 1, 19, none⟩ = some (.slice (some ⟨S7, 0, none⟩) N7 N7) ∧ True)) (f := 9) hmx ?_
          show wpAnyF _ _ _ _ _ _ 10 _ _ wr.drew
          refine wpAnyF_takeP (i := 0) (oi := _) (v := ?vv8) (some 54) [] rfl rfl (by kernel_rfl) (by kernel_rfl) (by kernel_rfl) (by kernel_rfl) (by kernel_rfl) (fun _ _ _ h => h) (Or.inl ⟨by rfl, ?yy8⟩) hSd ?rr8
          case yy8 => (intro wq hSq; obtain ⟨_, _⟩ := hSq; go_simp <;> with_reducible rfl)
          simp only [Act.put, List.setIfInBounds_toArray, List.set_cons_succ, List.set_cons_zero]
          refine wpAnyF_takeP (i := 2) (oi := _) (v := ?vv9) (some 56) [] rfl rfl (by kernel_rfl) (by kernel_rfl) (by kernel_rfl) (by kernel_rfl) (by kernel_rfl) (fun _ _ _ h => h) (Or.inl ⟨by rfl, ?yy9⟩) hSd ?rr9
          case yy9 => (intro wq hSq; obtain ⟨_, _⟩ := hSq; go_simp <;> with_reducible rfl)
          simp only [Act.put, List.setIfInBounds_toArray, List.set_cons_succ, List.set_cons_zero]
          refine wpAnyF_takeP (i := 3) (oi := _) (v := ?vv10) (some 57) [] rfl rfl (by kernel_rfl) (by kernel_rfl) (by kernel_rfl) (by kernel_rfl) (by kernel_rfl) (fun _ _ _ h => h) (Or.inl ⟨by rfl, ?yy10⟩) hSd ?rr10
          case yy10 => (intro wq hSq; obtain ⟨_, _⟩ := hSq; go_simp <;> with_reducible rfl)
          simp only [Act.put, List.setIfInBounds_toArray, List.set_cons_succ, List.set_cons_zero]
          refine wpAnyF_takeP (i := 5) (oi := _) (v := ?vv11) (some 59) [] rfl rfl (by kernel_rfl) (by kernel_rfl) (by kernel_rfl) (by kernel_rfl) (by kernel_rfl) (fun _ _ _ h => h) (Or.inl ⟨by rfl, ?yy11⟩) hSd ?rr11
          case yy11 => (intro wq hSq; obtain ⟨_, _⟩ := hSq; go_simp <;> with_reducible rfl)
          simp only [Act.put, List.setIfInBounds_toArray, List.set_cons_succ, List.set_cons_zero]
          refine wpAnyF_takeP (i := 1) (oi := _) (v := ?vv12) (some 55) [] rfl rfl (by kernel_rfl) (by kernel_rfl) (by kernel_rfl) (by kernel_rfl) (by kernel_rfl) (fun _ _ _ h => h) (Or.inl ⟨by rfl, ?yy12⟩) hSd ?rr12
          case yy12 => (intro wq hSq; obtain ⟨_, _⟩ := hSq; go_simp <;> with_reducible rfl)
          simp only [Act.put, List.setIfInBounds_toArray, List.set_cons_succ, List.set_cons_zero]
          refine wpAnyF_one (i := 4) (o := _) (by kernel_rfl) rfl (fun K' hK => ?_)
          rw [if_pos (by rfl)]
          go_simp
          refine (rnum_any B b u wr.drew hB (Nat.le_trans hBw HJd.out.st.bel.size) HJd.out.rd (by omega)).mono ?_
          rintro e X1 ⟨hS, hc⟩
          rcases hc with ⟨x, u1, hp, rfl, hR⟩ | ⟨hp, rfl⟩
          rotate_left
          · exact ⟨rfl, HJd.out.st.trans hS, .inr ⟨by rw [HP.out, pq7, HLP.out, manyP_stop HM.out (by rw [pairP, hp]) hlt], rfl⟩⟩
          have HP1 := hide hp
          have hu1 := num_len hp
          have HJ1 := hide (HJd.out.num hS hR)
          clear hp hS hR
          have hSd := HSQ.out _ _ HJ1.out
          refine hK.out _ _ hSd ?_
          clear hK
          try simp only [Act.put]
          refine wpAnyF_one (i := 6) (o := _) (by kernel_rfl) rfl (fun K' hK => ?_)
          rw [if_pos (by rfl)]
          go_simp
          refine (rnum_any B b u1 X1 hB (Nat.le_trans hBw HJ1.out.st.bel.size) HJ1.out.rd (by omega)).mono ?_
          rintro e X2 ⟨hS, hc⟩
          rcases hc with ⟨y, u2, hp, rfl, hR⟩ | ⟨hp, rfl⟩
          rotate_left
          · exact ⟨rfl, HJ1.out.st.trans hS, .inr ⟨by rw [HP.out, pq7, HLP.out, manyP_stop HM.out (by rw [pairP, HP1.out]; simp only [hp]) hlt], rfl⟩⟩
          have HP2 := hide (show pairP u = some ((x, y), u2) by rw [pairP, HP1.out]; simp only [hp])
          have HJ2 := hide (HJ1.out.num hS hR)
          clear hp hS hR
          have hcl : (ns.flatMap ptL ++ List.replicate (2 * (N7 - k)) (Value.int .i64 0)).length = N7 * 2 := by rw [List.length_append, ptFlat_length, List.length_replicate, hnl]; omega
          have hH := HJ2.out.ex (S7, 78, ns.flatMap ptL ++ List.replicate (2 * (N7 - k)) (Value.int .i64 0)) (by simp)
          have g0 : ∃ z, X2.cell? ⟨S7, k * 2, none⟩ = some z := ⟨_, by rw [Lib.cell_of_heap hH, List.getElem?_toArray]; exact List.getElem?_eq_getElem (by rw [hcl]; omega)⟩
          have g1 : ∃ z, X2.cell? ⟨S7, k * 2 + 1, none⟩ = some z := ⟨_, by rw [Lib.cell_of_heap hH, List.getElem?_toArray]; exact List.getElem?_eq_getElem (by rw [hcl]; omega)⟩
          obtain ⟨z0, c0⟩ := g0
          obtain ⟨z1, c1⟩ := g1
          have f0 : X2.frozen? ⟨S7, k * 2, none⟩ = false := Lib.frozen_of_heap hH _
          have f1 : X2.frozen? ⟨S7, k * 2 + 1, none⟩ = false := Lib.frozen_of_heap hH _
          have HJ3 := hide (HJ2.out.two hxs7 (k * 2) (.int .i64 x) (.int .i64 y))
          clear hcl hH
          have hSd := HSQ.out _ _ HJ2.out
          refine hK.out _ _ hSd ?_
          clear hK
          try simp only [Act.put]
          refine wpAnyF_takeP (i := 7) (oi := _) (v := ?vv13) (some 61) [] rfl rfl (by kernel_rfl) (by kernel_rfl) (by kernel_rfl) (by kernel_rfl) (by kernel_rfl) (fun _ _ _ h => h) (Or.inl ⟨by rfl, ?yy13⟩) hSd ?rr13
          case yy13 => (intro wq hSq; obtain ⟨_, _⟩ := hSq; go_simp <;> with_reducible rfl)
          simp only [Act.put, List.setIfInBounds_toArray, List.set_cons_succ, List.set_cons_zero]
          refine wpAnyF_takeP (i := 8) (oi := _) (v := ?vv14) (some 62) [] rfl rfl (by kernel_rfl) (by kernel_rfl) (by kernel_rfl) (by kernel_rfl) (by kernel_rfl) (fun _ _ _ h => h) (Or.inl ⟨by rfl, ?yy14⟩) hSd ?rr14
          case yy14 => (intro wq hSq; obtain ⟨_, _⟩ := hSq; go_simp <;> with_reducible rfl)
          simp only [Act.put, List.setIfInBounds_toArray, List.set_cons_succ, List.set_cons_zero]
          refine wpAnyF_last (o := _) (by kernel_rfl) rfl (fun K' hK => ?_)
          rw [if_pos (by rfl)]
          go_simp
          refine hK.out _ _ ?_
          clear hK
          refine wpAnyF_done (by kernel_rfl) ?_ _
          try simp only [Act.put]
          have HJ4 := hide (show PJ B b w [(S7, 78, (ns ++ [(x, y)]).flatMap ptL ++ List.replicate (2 * (N7 - (k + 1))) (Value.int .i64 0)), (S4, 77, sp.flatMap ptL)] u2 [.int .i64 ph, .int .i64 a0, .int .i64 a1, .int .i64 a2, .int .i64 a3, .int .i64 wh, .slice (some ⟨S4, 0, none⟩) N4 N4, .int .i64 g0, .int .i64 g1, .int .i64 g2, .int .i64 m0, .int .i64 m1, .int .i64 m2, .int .i64 m3, .int .i64 m4, .int .i64 m5, .int .i64 m6, .int .i64 m7, .int .i64 m8, .slice (some ⟨S7, 0, none⟩) N7 N7, .int .i64 0] _ from by
            have h := HJ3.out
            rw [show N7 - k = N7 - (k + 1) + 1 by omega, ← hnl, pts_room, hnl] at h
            exact h)
          have HM2 := hide (manyP_next HM.out HP2.out)
          clear HJ3 HJ2 HJ1 HJd HJ hSd c0 c1 f0 f1 HSQ
          go_wp2
          go_roundw
          case rel => exact ⟨k + 1, hlt, by go_num, _, _, HM2.out, HJ4.out⟩
          case measure => simp [intOf]; omega
        · have hd : decide ((k : Int) < (N7 : Int)) = false := by simp; omega
          obtain rfl : N7 = k := by omega
          replace HP := hide (show R = pq8 (fun am => ⟨ph, ix [a0, a1, a2, a3], wh, sp, ix [g0, g1, g2], ix [m0, m1, m2, m3, m4, m5, m6, m7, m8], ns, am⟩) u by rw [HP.out, pq7, HLP.out, hm])
          replace HJ := hide (show PJ B b w [(S7, 78, ns.flatMap ptL), (S4, 77, sp.flatMap ptL)] u [.int .i64 ph, .int .i64 a0, .int .i64 a1, .int .i64 a2, .int .i64 a3, .int .i64 wh, .slice (some ⟨S4, 0, none⟩) N4 N4, .int .i64 g0, .int .i64 g1, .int .i64 g2, .int .i64 m0, .int .i64 m1, .int .i64 m2, .int .i64 m3, .int .i64 m4, .int .i64 m5, .int .i64 m6, .int .i64 m7, .int .i64 m8, .slice (some ⟨S7, 0, none⟩) N7 N7, .int .i64 0] wr by have h := HJ.out; rwa [Nat.sub_self, Nat.mul_zero, List.replicate_zero, List.append_nil] at h)
          have hn7 := hnl
          clear hm HLP hnl
          generalize ns = cu at *
          generalize u = l7u at *
          generalize wr = W7 at *
          have hl7u : l7u.length ≤ 140737488355328 := by omega
          clear hul
          go_wp2_with fail
          refine (rnum_any B b l7u W7 hB (Nat.le_trans hBw HJ.out.st.bel.size) HJ.out.rd (by omega)).mono ?_
          rintro e V8 ⟨hS, hc⟩
          rcases hc with ⟨am, l8, hp, rfl, hR⟩ | ⟨hp, rfl⟩
          rotate_left
          · exact ⟨rfl, HJ.out.st.trans hS, .inr ⟨by rw [HP.out, pq8, hp], rfl⟩⟩
          replace HP := hide (show R = some (⟨ph, ix [a0, a1, a2, a3], wh, sp, ix [g0, g1, g2], ix [m0, m1, m2, m3, m4, m5, m6, m7, m8], cu, am⟩, l8) by rw [HP.out, pq8, hp])
          replace HJ := hide (HJ.out.num hS hR)
          have ci : V8.cell? ⟨w.heap.size + 1, 20, none⟩ = some (.int .i64 0) := by rw [Lib.cell_of_heap HJ.out.box]; rfl
          have fi : V8.frozen? ⟨w.heap.size + 1, 20, none⟩ = false := Lib.frozen_of_heap HJ.out.box _
          replace HJ := hide (HJ.out.put 20 (.int .i64 am) rfl)
          clear hp hS hR
          obtain ⟨PA, hPA⟩ : ∃ PA, PA = planA (⟨ph, ix [a0, a1, a2, a3], wh, sp, ix [g0, g1, g2], ix [m0, m1, m2, m3, m4, m5, m6, m7, m8], cu, am⟩ : Plan) (.slice (some ⟨S4, 0, none⟩) N4 N4) (.slice (some ⟨S7, 0, none⟩) N7 N7) := ⟨_, rfl⟩
          have hbx : (V8.setCell ⟨w.heap.size + 1, 20, none⟩ (.int .i64 am)).heap[w.heap.size + 1]? = some (.cells PA 30 (0, 0)) := by rw [hPA]; exact HJ.out.box
          have hrs : (V8.setCell ⟨w.heap.size + 1, 20, none⟩ (.int .i64 am)).heap[w.heap.size]? = some (.cells planZ 30 (0, 0)) := HJ.out.res
          have i1 : (Tryz.prog.info? 30).map (·.size) = some PA.size := by rw [hPA]; kernel_rfl
          have i2 : (planZ : Array Value).size = PA.size := by rw [hPA]; rfl
          have i3 : PA.all (·.oneCell') = true := by rw [hPA]; simp [Value.oneCell']
          have hx4 := HJ.out.ex (S4, 77, sp.flatMap ptL) (by simp)
          have hx7 := HJ.out.ex (S7, 78, cu.flatMap ptL) (by simp)
          have hs4 := HJ.out.sep (S4, 77, sp.flatMap ptL) (by simp)
          have hs7 := HJ.out.sep (S7, 78, cu.flatMap ptL) (by simp)
          simp only at hs4 hs7 hx4 hx7
          have HI4 := hide (pts_holds hx4 (by omega))
          have HI7 := hide (pts_holds hx7 (by omega))
          have HST := hide HJ.out.st
          have HRD := hide HJ.out.rd
          clear HJ hx4 hx7
          go_upto_region 20 with fail
          clear ci fi
          generalize V8.setCell ⟨w.heap.size + 1, 20, none⟩ (.int .i64 am) = VF at *
          have HG := hide (setRow_heap _ _ _ PA _ _ hrs)
          have HF := hide (show RSt B b w (VF.setRow w.heap.size PA) from ⟨HST.out.bel.trans (below_setRow (Below.refl _ _) (by omega) PA), fun k h1 h2 => (setRow_other _ _ _ _ (by omega)).trans (HST.out.keep k h1 h2)⟩)
          have HRF := hide (show IsRd b l8 (VF.setRow w.heap.size PA) from (setRow_other _ _ _ _ (by omega)).trans HRD.out)
          have HPF := hide (show IsPlan (VF.setRow w.heap.size PA) ⟨ph, ix [a0, a1, a2, a3], wh, sp, ix [g0, g1, g2], ix [m0, m1, m2, m3, m4, m5, m6, m7, m8], cu, am⟩ (.slice (some ⟨S4, 0, none⟩) N4 N4) (.slice (some ⟨S7, 0, none⟩) N7 N7) from ⟨hn4 ▸ HI4.out.other (k := w.heap.size) (by simp) (fun b hb => setRow_other _ _ _ _ hb) (by simp [Value.ownBlock]; omega), hn7 ▸ HI7.out.other (k := w.heap.size) (by simp) (fun b hb => setRow_other _ _ _ _ hb) (by simp [Value.ownBlock]; omega)⟩)
          clear HST HRD HI4 HI7
          go_wp2_with (first | refine wpList_load_row rfl 30 _ rfl _ rfl _ _ _ _ hbx Tryz.underlying30 rfl i1 ?_ | refine wpList_store_row rfl 30 _ _ rfl w.heap.size PA rfl rfl _ _ hrs i1 i2 i3 ?_)
          refine bodyPost_ret (v := .agg PA) (results_cell_row Tryz.results86 _ _ _ _ _ _ _ rfl HG.out Tryz.underlying30 rfl i1) rfl ⟨HF.out, .inl ⟨_, _, _, _, HP.out, by rw [hPA], HRF.out, HPF.out, ?_, ?_⟩⟩
          · exact ⟨fun b e => by simp [Value.ownBlock] at e; omega, Nat.le_refl _⟩
          · exact ⟨fun b e => by simp [Value.ownBlock] at e; omega, Nat.le_refl _⟩
end Go.Proofs.YtanebhbfekcplaaGreat

namespace Go.Proofs.YtanebhbfekcplaaGreat
set_option linter.unusedVariables false
open Go.RowKit
theorem run_storeCells_at {P : Program} (g o : Nat) (t : TypeId) : ∀ (vs : List Value) (i : Nat) (cur : Array Value) (w : World), w.heap[g]? = some (.cells cur t (0, 0)) → o + i + vs.length = cur.size → (∀ v ∈ vs, v.oneCell' = true) →
    (storeCells ⟨g, o, none⟩ vs i).run P w = .ok () (w.setRow g (cur.toList.take (o + i) ++ vs).toArray)
  | [], i, cur, w, hg, hl, _ => by
    have h0 : cur.toList.take (o + i) = cur.toList := List.take_of_length_le (by simp at hl ⊢; omega)
    simp only [storeCells, List.append_nil, h0, Array.toArray_toList]
    show Result.ok () w = _
    congr 1
    have hv : w.heap[g]'((Array.getElem?_eq_some_iff.1 hg).1) = .cells cur t (0, 0) := (Array.getElem?_eq_some_iff.1 hg).2
    unfold World.setRow
    cases w with
    | mk heap tape drawn os output =>
      congr 1
      apply Array.ext
      · simp
      · intro k h1 h2
        simp only [Array.getElem_modify]
        split
        · rename_i hk; subst hk; simp at hv; simp [hv]
        · rfl
  | v :: rest, i, cur, w, hg, hl, h1 => by
    have hi : o + i < cur.size := by simp at hl; omega
    have hadd : (⟨g, o, none⟩ : Addr).add i = ⟨g, o + i, none⟩ := Addr.add_lit ..
    have hcell : w.cell? ⟨g, o + i, none⟩ = some cur[o + i] := by simp [World.cell?, hg, hi]
    have hfro : w.frozen? ⟨g, o + i, none⟩ = false := by simp [World.frozen?, hg]
    have hst : (store ((⟨g, o, none⟩ : Addr).add i) v).run P w = .ok () (w.setRow g (cur.setIfInBounds (o + i) v)) := by
      rw [hadd, run_store P w _ v _ (h1 v (by simp)), hcell]
      simp [hfro, setCell_eq_setRow w g (o + i) cur t (0, 0) v hg]
    have ih := run_storeCells_at (P := P) g o t rest (i + 1) (cur.setIfInBounds (o + i) v) (w.setRow g (cur.setIfInBounds (o + i) v)) (setRow_heap w g cur _ t _ hg) (by simp at hl ⊢; omega) (fun x hx => h1 x (by simp [hx]))
    simp only [storeCells, Sem.run_bind, hst, Result.andThen_ok, ih, setRow_setRow]
    congr 3
    rw [Array.toList_setIfInBounds, ← Nat.add_assoc, List.take_set, List.take_succ_eq_append_getElem (by simpa using hi)]
    rw [List.set_append_right _ _ (by rw [List.length_take]; exact Nat.min_le_left _ _)]
    simp [Nat.min_eq_left (Nat.le_of_lt hi)]
theorem wpList_store_at {P : Program} {ops : Array Oper} {rest : List Oper} {o : Oper} {a : Act} {w : World} {Q : Exit → Act → World → Prop} (hgd : o.guard = none) (ty : TypeId) (x y : Operand) (ho : o.op = .store ty x y)
    (g of : Nat) (cells : Array Value) (hx : a.eval x = .pointer (some ⟨g, of, none⟩)) (hy : a.eval y = .agg cells) (t : TypeId) (old : Array Value) (hg : w.heap[g]? = some (.cells old t (0, 0))) (hi : (P.info? ty).map (·.size) = some cells.size)
    (hold : of + cells.size = old.size) (h1 : cells.all (·.oneCell') = true)
    (h : wpList P ops Q rest (a.put o.dst undef) (w.setRow g (old.toList.take of ++ cells.toList).toArray)) : wpList P ops Q (o :: rest) a w :=
  wpList_plain hgd fun _ hK => by
    have hr := run_storeCells_at (P := P) g of t cells.toList 0 old w hg (by simp; omega) (fun v hv => (Array.all_eq_true_iff_forall_mem.1 h1) v (by simpa using hv))
    have hs : (storeVar ty ⟨g, of, none⟩ (.agg cells)).run P w = .ok () (w.setRow g (old.toList.take of ++ cells.toList).toArray) := by
      cases hq : P.info? ty with
      | none => simp [hq] at hi
      | some i =>
        have hs : cells.size = i.size := by simp [hq] at hi; omega
        simpa [storeVar, sizeOf, typeInfo, hq, Value.cells, hs] using hr
    unfold Oper.wp execOp
    simp only [ho, hx, hy, Instr.storeAt, Instr.sureAddr, Sem.run_bind, Sem.run_pure, Result.andThen_ok, hs]
    exact hK _ _ h
abbrev rawZ : Array Value := #[.int .i64 0, .int .i64 0, .int .i64 0, .int .i64 0, .int .i64 0, .slice none 0 0, .slice none 0 0,
  .int .i64 0, .int .i64 0, .int .i64 0, .int .i64 0, .int .i64 0, .int .i64 0, .slice none 0 0, .int .i64 0, .int .i64 0, .int .i64 0, .int .i64 0, .int .i64 0, .int .i64 0, .int .i64 0, .int .i64 0, .int .i64 0, .int .i64 0, .int .i64 0, .int .i64 0, .slice none 0 0, .int .i64 0]
set_option maxRecDepth 100000 in
set_option maxHeartbeats 1600000 in
theorem catch_pan (R K : Nat) (old : Array Value) (c : Value) (w : World) (hR : w.heap[R]? = some (.cells old 32 (0, 0))) (ho : old.size = 28) (hK : w.heap[K]? = some (.cells #[c] 4 (0, 0))) (hne : R ≠ K) :
    CallsD Tryz.prog 79 #[.pointer (some ⟨R, 0, none⟩), .pointer (some ⟨K, 0, none⟩)] (.panicking [{ v := panV, recovered := false }]) w fun e u' w' =>
      e = .returned (.tuple #[]) ∧ u' = .panicking [{ v := panV, recovered := true }] ∧ w' = (w.setRow R rawZ).setCell ⟨K, 0, none⟩ (.bool false) := by
  refine callsD_of_wpS Tryz.func79 rfl fun c₀ cs hu => ?_
  apply wpS_seq
  apply wpS_region
  simp [wpOpsS, go_sem, recoverD, hu, Tryz.ntmps79, Exit.thenS]
  refine wpS_cond (t := true) (by simp [Act.eval, Array.replicate]) ?_
  simp only [if_true]
  rw [show (#[Value.pointer (some ⟨R, 0, none⟩), .pointer (some ⟨K, 0, none⟩)] ++ ((Array.replicate 3 undef).setIfInBounds 0 panV).setIfInBounds 1 (.bool true)) = #[.pointer (some ⟨R, 0, none⟩), .pointer (some ⟨K, 0, none⟩), panV, .bool true, undef] from rfl]
  refine wpS_of_wp ?_
  have hK2 : (w.setRow R rawZ).heap[K]? = some (.cells #[c] 4 (0, 0)) := (setRow_other _ _ _ _ (fun e => hne e.symm)).trans hK
  have c1 : (w.setRow R rawZ).cell? ⟨K, 0, none⟩ = some c := by rw [Lib.cell_of_heap hK2]; rfl
  have f1 : (w.setRow R rawZ).frozen? ⟨K, 0, none⟩ = false := Lib.frozen_of_heap hK2 0
  have i1 : (Tryz.prog.info? 32).map (·.size) = some (rawZ : Array Value).size := by kernel_rfl
  have i2 : old.size = (rawZ : Array Value).size := by rw [ho]; rfl
  have i3 : (rawZ : Array Value).all (·.oneCell') = true := by simp [Value.oneCell']
  go_wp2_with (refine wpList_store_row rfl 32 _ _ rfl R rawZ rfl rfl _ old hR i1 i2 i3 ?_)
  cases c₀
  simp_all [bodyPostS, results, Tryz.results79]
set_option maxRecDepth 100000 in
theorem catch_idle (R K : Nat) (w : World) :
    CallsD Tryz.prog 79 #[.pointer (some ⟨R, 0, none⟩), .pointer (some ⟨K, 0, none⟩)] .returning w fun e u' w' => e = .returned (.tuple #[]) ∧ u' = .returning ∧ w' = w := by
  refine callsD_of_wpS Tryz.func79 rfl fun c₀ cs hu => ?_
  apply wpS_seq
  apply wpS_region
  simp [wpOpsS, go_sem, recoverD, hu, Tryz.ntmps79, Exit.thenS]
  refine wpS_cond (t := false) (by simp [Act.eval, Array.replicate]) ?_
  simp only [Bool.false_eq_true, if_false]
  refine wpS_of_wp (wp_skip ?_)
  cases c₀
  simp_all [bodyPostS, results, Tryz.results79]
end Go.Proofs.YtanebhbfekcplaaGreat
