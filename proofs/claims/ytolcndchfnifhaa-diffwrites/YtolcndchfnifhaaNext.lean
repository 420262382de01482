/- The book's Next. -/
import Derived.Test.YtolcndchfnifhaaBookUse
import Derived.Test.YtolcndchfnifhaaPacked
namespace Go.Proofs.Ytolcndchfnifhaa
open Go.RowKit

theorem nextF_le (f : List UInt8 → Option (Int × Bool)) (pre rest : List UInt8) : (nextF f pre rest).2.2 ≤ rest.length := by
  induction rest generalizing pre with
  | nil => exact Nat.le_refl _
  | cons c rest ih =>
    rw [nextF]
    split
    · simp
    · simp
    · have := ih (pre ++ [c]); simp; omega
/-- behind j bits that are no word yet. -/
def AfterJ (f : List UInt8 → Option (Int × Bool)) (rest : List UInt8) (j : Nat) : Prop :=
  nextF f [] rest = ((nextF f (rest.take j) (rest.drop j)).1, (nextF f (rest.take j) (rest.drop j)).2.1, j + (nextF f (rest.take j) (rest.drop j)).2.2)
theorem AfterJ.start (f : List UInt8 → Option (Int × Bool)) (rest : List UInt8) : AfterJ f rest 0 := by simp [AfterJ]
theorem drop_cons (rest : List UInt8) (j : Nat) (h : j < rest.length) : rest.drop j = rest[j] :: rest.drop (j + 1) := List.drop_eq_getElem_cons h
theorem AfterJ.short {f : List UInt8 → Option (Int × Bool)} {rest : List UInt8} {j : Nat} (h : AfterJ f rest j) (hj : j = rest.length) : nextF f [] rest = (0, 5, j) := by
  unfold AfterJ at h
  rw [h, List.drop_of_length_le (by omega)]
  rfl
theorem AfterJ.none {f : List UInt8 → Option (Int × Bool)} {rest : List UInt8} {j : Nat} (h : AfterJ f rest j) (hj : j < rest.length) (hf : f (rest.take (j + 1)) = .none) : nextF f [] rest = (0, 4, j + 1) := by
  unfold AfterJ at h
  rw [List.take_succ_eq_append_getElem hj] at hf
  rw [h, drop_cons rest j hj, nextF, hf]
theorem AfterJ.found {f : List UInt8 → Option (Int × Bool)} {rest : List UInt8} {j : Nat} (h : AfterJ f rest j) (hj : j < rest.length) {n : Int} (hf : f (rest.take (j + 1)) = some (n, true)) : nextF f [] rest = (n, 0, j + 1) := by
  unfold AfterJ at h
  rw [List.take_succ_eq_append_getElem hj] at hf
  rw [h, drop_cons rest j hj, nextF, hf]
theorem AfterJ.more {f : List UInt8 → Option (Int × Bool)} {rest : List UInt8} {j : Nat} (h : AfterJ f rest j) (hj : j < rest.length) {n : Int} (hf : f (rest.take (j + 1)) = some (n, false)) : AfterJ f rest (j + 1) := by
  unfold AfterJ at h ⊢
  have e := List.take_succ_eq_append_getElem hj
  rw [e] at hf
  rw [h, drop_cons rest j hj, nextF, hf]
  simp only [e]
  congr 2
  omega

/-- what stands while Next goes on. -/
structure NextInv (w wr : World) (bm n : Nat) (f : List UInt8 → Option (Int × Bool)) (ba bb : Nat) (bits : List UInt8) (p : Nat) : Prop where
  cell : wr.cell? ⟨w.heap.size, 1, none⟩ = some (.map (some bm))
  book : BookMap wr bm n f
  taker : TakerAt wr ba bb bits p
  grown : w.grownBy wr (some ba)
  size : w.heap.size + 1 ≤ wr.heap.size

theorem NextInv.other {w wr w3 : World} {bm n : Nat} {f : List UInt8 → Option (Int × Bool)} {ba bb : Nat} {bits : List UInt8} {p : Nat} (h : NextInv w wr bm n f ba bb bits p) (hba : ba < w.heap.size) (hbb : bb < w.heap.size) (hbm : bm < w.heap.size)
    {row : Option Nat} (hg : wr.grownBy w3 row) (hr : ∀ k, row = some k → w.heap.size + 1 ≤ k) : NextInv w w3 bm n f ba bb bits p := by
  have hs := h.grown.size
  have hz := h.size
  have blk : ∀ k, k < w.heap.size + 1 → w3.heap[k]? = wr.heap[k]? := fun k hk => hg.block k (by omega) (fun e => by have := hr k e.symm; omega)
  refine ⟨?_, ?_, ?_, ?_, Nat.le_trans hz hg.size⟩
  · rw [World.cell?_of_block (w := wr) (blk w.heap.size (by omega))]; exact h.cell
  · exact h.book.kept hg (fun e => by have := hr bm e.symm; omega)
  · exact ⟨by rw [blk ba (by omega)]; exact h.taker.1, by rw [blk bb (by omega)]; exact h.taker.2.1, h.taker.2.2⟩
  · refine ⟨hg.os.trans h.grown.os, hg.tape.trans h.grown.tape, hg.output.trans h.grown.output, Nat.le_trans hs hg.size, fun k hk hne => ?_⟩
    rw [blk k (by omega)]
    exact h.grown.block k hk hne
theorem NextInv.alloc {w wr : World} {bm n : Nat} {f : List UInt8 → Option (Int × Bool)} {ba bb : Nat} {bits : List UInt8} {p : Nat} (h : NextInv w wr bm n f ba bb bits p) (hba : ba < w.heap.size) (hbb : bb < w.heap.size) (hbm : bm < w.heap.size) (o : Obj) : NextInv w (wr.alloc o) bm n f ba bb bits p :=
  h.other hba hbb hbm (World.grownBy_alloc wr o none) (by simp)
theorem NextInv.taken {w wr : World} {bm n : Nat} {f : List UInt8 → Option (Int × Bool)} {ba bb : Nat} {bits : List UInt8} {p : Nat} (h : NextInv w wr bm n f ba bb bits p) (hba : ba < w.heap.size) (hma : bm ≠ ba) (hp : p < bits.length) :
    NextInv w (wr.setCell ⟨ba, 0, none⟩ (.int .i64 ((p : Int) + 1))) bm n f ba bb bits (p + 1) := by
  refine ⟨?_, h.book.setCell hma _, h.taker.moved hp, ?_, by simpa [World.setCell] using h.size⟩
  · rw [World.cell?_of_block (w := wr) (Below.heap_setCell _ _ _ _ (by show w.heap.size ≠ ba; omega))]; exact h.cell
  · refine ⟨h.grown.os, h.grown.tape, h.grown.output, by simpa [World.setCell] using h.grown.size, fun k hk hne => ?_⟩
    rw [Below.heap_setCell _ _ _ _ (fun e => hne (by rw [e]))]
    exact h.grown.block k hk hne

theorem lookNone {w : World} {bm n : Nat} {f : List UInt8 → Option (Int × Bool)} {l : List UInt8} (h : BookMap w bm n f) (hs : (str l).size ≤ maxLen) (hf : f l = none) :
    (Instr.lookup 96 (.map (some bm)) (.string (str l)) true).run Try.prog w = .ok (.tuple #[.agg #[.int .i64 0, .bool false], .bool false]) w := by
  rw [h.look (str l) hs, str_data, hf]; rfl
theorem lookSome {w : World} {bm n : Nat} {f : List UInt8 → Option (Int × Bool)} {l : List UInt8} {m : Int} {b : Bool} (h : BookMap w bm n f) (hs : (str l).size ≤ maxLen) (hf : f l = some (m, b)) :
    (Instr.lookup 96 (.map (some bm)) (.string (str l)) true).run Try.prog w = .ok (.tuple #[.agg #[.int .i64 m, .bool b], .bool true]) w := by
  rw [h.look (str l) hs, str_data, hf]; rfl

theorem own_next {w : World} {base : Nat} {e : TypeId} {v : Value} {k : Nat} {xs : List Value} {l : List UInt8} (h1 : byt l = xs) (h2 : l.length = k) (h : w.ownsRow base e 1 v k xs) : w.ownsRow base e 1 v l.length (byt l) := by
  rw [h1, h2]; exact h

/-- a slice's length. -/
def lenOf : Value → Nat | .slice _ n _ => n | _ => 0

set_option maxRecDepth 100000 in
set_option maxHeartbeats 1600000 in
theorem next_any (cv : Value) (ca : Option Addr) (cl cc : Nat) (hcv : cv = .slice ca cl cc) (bm n : Nat) (f : List UInt8 → Option (Int × Bool)) (ba bb : Nat) (bits : List UInt8) (pos : Nat) (w : World) (hm : BookMap w bm n f) (hfl : ∀ key, f key ≠ none → key.length ≤ 100) (ht : TakerAt w ba bb bits pos) :
    Calls Try.prog 74 #[.agg #[cv, .map (some bm)], .func (.func 113) #[] #[.pointer (some ⟨ba, 0, none⟩), .pointer (some ⟨bb, 0, none⟩)]] w fun e w' =>
      e = .returned (.tuple #[.int .i64 (nextF f [] (bits.drop pos)).1, .int .i64 (nextF f [] (bits.drop pos)).2.1]) ∧ TakerAt w' ba bb bits (pos + (nextF f [] (bits.drop pos)).2.2) ∧ w.grownBy w' (some ba) := by
  subst hcv
  obtain ⟨i0, hi, hz0, hz1, hz2⟩ := info_parts Try.infoU8
  obtain ⟨hla, hlb⟩ := ht.lt
  have hmlt := hm.lt
  have hple := ht.2.2.1
  have hbl := ht.2.2.2
  have hma : bm ≠ ba := by
    intro e
    subst e
    obtain ⟨D, ⟨es, clock, hh, _⟩, _⟩ := hm
    have := hh.symm.trans ht.1
    simp at this
  have hrl : (bits.drop pos).length = bits.length - pos := by rw [List.length_drop]
  have HM := hide hm; clear hm
  have HT := hide ht; clear ht
  have HFL := hide hfl; clear hfl
  obtain ⟨rest, hrest⟩ : ∃ rest, rest = bits.drop pos := ⟨_, rfl⟩
  have HREST := hide hrest
  rw [← hrest] at hrl ⊢
  clear hrest
  go_enter Try.func74, Try.ntmps74
  go_wp2_with (at_make; refine wpList_make_own _ rfl _ _ 79 rfl (w.heap.size + 1) 5 i0 (.int .u8 0) 1 Try.underlying79 hi hz0 hz1 .i64 .i64 _ 15 rfl rfl rfl (by rw [hz2]; decide) (by decide) (by simp) ?_; intro w1 hown hgr)
  have hinv : NextInv w w1 bm n f ba bb bits (pos + 0) := by
    have h0 : NextInv w (w.alloc (.cells #[.slice ca cl cc, .map (some bm)] 98)) bm n f ba bb bits pos := by
      refine ⟨?_, HM.out.kept (World.grownBy_alloc w _ none) (by simp), ?_, ?_, by simp⟩
      · rw [Lib.cell_of_heap (heap_alloc_new w _)]; rfl
      · exact HT.out.below (bel_alloc w _)
      · exact World.grownBy_alloc w _ _
    exact h0.other hla hlb hmlt hgr (by simp)
  have HI := hide hinv; clear hinv hgr
  go_loopw [6] (fun t wr => ∃ j : Nat, j ≤ rest.length ∧ j ≤ 100 ∧ (∃ ao cap, t = .slice ao j cap) ∧ wr.ownsRow (w.heap.size + 1) 5 1 t j (byt (rest.take j)) ∧ Hid (NextInv w wr bm n f ba bb bits (pos + j)) ∧ Hid (AfterJ f rest j))
    (fun t _ => rest.length + 1 - lenOf t)
  case atStart => exact ⟨0, Nat.zero_le _, by omega, ⟨_, _, rfl⟩, by rw [World.size_alloc] at hown; exact hown, HI, AfterJ.start f rest⟩
  case round =>
    obtain ⟨j, hj, hj100, ⟨ao, cap, rfl⟩, ho, HIN, HAJ⟩ := hrel
    clear hown HI
    by_cases hlt : j < rest.length
    · have hpj : pos + j < bits.length := by omega
      have HC := hide (show bits[pos + j] = rest[j] by
        have h := HREST.out
        subst h
        rw [List.getElem_drop])
      have hc := rest[j].toNat_lt
      have HBT := hide (show byt (rest.take (j + 1)) = byt (rest.take j) ++ [.int .u8 (rest[j].toNat : Nat)] by
        rw [List.take_succ_eq_append_getElem hlt, byt_append]; rfl)
      go_wp2_with fail
      refine (take_one ba bb bits (pos + j) _ HIN.out.taker hpj).mono ?_
      rintro e w3 ⟨rfl, hw3⟩
      rw [HC.out]
      have ho3 : w3.ownsRow (w.heap.size + 1) 5 1 (.slice ao j cap) j (byt (rest.take j)) := by
        rw [← hw3]; exact ownsRow_setCell_below ho (a := ⟨ba, 0, none⟩) (by show ba < _; omega) _
      have HI3 := hide (show NextInv w w3 bm n f ba bb bits (pos + j + 1) by rw [← hw3]; exact HIN.out.taken hla hma hpj)
      have hsz3 : w.heap.size + 1 ≤ w3.heap.size := HI3.out.size
      clear hw3 ho HIN hpj HC
      generalize rest[j].toNat = c at *
      have hrb : rest.length ≤ 281474976710656 := by omega
      have hl1 : (rest.take (j + 1)).length = j + 1 := by rw [List.length_take]; omega
      have hk1 : (str (rest.take (j + 1))).size ≤ maxLen := by rw [str_size, hl1]; unfold maxLen; omega
      have HL1 := hide hl1
      clear hl1
      have HPS : Hid (pos + (j + 1) = pos + j + 1) := by show _ = _; omega
      cases hfk : f (rest.take (j + 1)) with
      | none =>
        have HN := hide (HAJ.out.none hlt hfk)
        go_wp2_with (at_builtin; refine wpList_append_own _ rfl _ _ 79 rfl (w.heap.size + 1) 5 i0 (.int .u8 0) 1 1 Try.underlying79 hi hz0 hz1 hz2 rfl (by decide) _ _ _ rfl (ho3.alloc _) ⟨w3.heap.size, 0, none⟩ 1 1 [.int .u8 (c : Nat)] rfl rfl ?_ ?_ ?_ ?_ ?_ ?_; (intro a u hu; obtain ⟨rfl, rfl⟩ := one_get hu; simp [Addr.add]); (intro u hu; simp at hu; subst hu; rfl); (unfold maxLen; omega); omega; (simp; omega); intro v' w4 hown' hgrow hnn; clear hnn; have HI4 := hide ((HI3.out.alloc hla hlb hmlt _).other hla hlb hmlt hgrow (fun q hq => (ho3.lt q hq).1)); have c4 := HI4.out.cell; have HO4 := hide (own_next HBT.out HL1.out hown'); have hcv := run_string_any (dst := 9) Try.underlying79 Try.underlying5 Try.underlying9 HO4.out; have hlook := lookNone HI4.out.book hk1 hfk; clear hgrow hown')
        go_ret2
        rw [HN.out]
        exact ⟨rfl, by rw [HPS.out]; exact (HI4.out.alloc hla hlb hmlt _).taker, (HI4.out.alloc hla hlb hmlt _).grown⟩
      | some q =>
        obtain ⟨m, wh⟩ := q
        cases wh with
        | true =>
          have HN := hide (HAJ.out.found hlt hfk)
          go_wp2_with (at_builtin; refine wpList_append_own _ rfl _ _ 79 rfl (w.heap.size + 1) 5 i0 (.int .u8 0) 1 1 Try.underlying79 hi hz0 hz1 hz2 rfl (by decide) _ _ _ rfl (ho3.alloc _) ⟨w3.heap.size, 0, none⟩ 1 1 [.int .u8 (c : Nat)] rfl rfl ?_ ?_ ?_ ?_ ?_ ?_; (intro a u hu; obtain ⟨rfl, rfl⟩ := one_get hu; simp [Addr.add]); (intro u hu; simp at hu; subst hu; rfl); (unfold maxLen; omega); omega; (simp; omega); intro v' w4 hown' hgrow hnn; clear hnn; have HI4 := hide ((HI3.out.alloc hla hlb hmlt _).other hla hlb hmlt hgrow (fun q hq => (ho3.lt q hq).1)); have c4 := HI4.out.cell; have HO4 := hide (own_next HBT.out HL1.out hown'); have hcv := run_string_any (dst := 9) Try.underlying79 Try.underlying5 Try.underlying9 HO4.out; have hlook := lookSome HI4.out.book hk1 hfk; clear hgrow hown')
          go_ret2
          rw [HN.out]
          exact ⟨rfl, by rw [HPS.out]; exact (HI4.out.alloc hla hlb hmlt _).taker, (HI4.out.alloc hla hlb hmlt _).grown⟩
        | false =>
          have HN := hide (HAJ.out.more hlt hfk)
          have hj101 : j + 1 ≤ 100 := by have h := HFL.out (rest.take (j + 1)) (by rw [hfk]; simp); rw [HL1.out] at h; exact h
          go_wp2_with (at_builtin; refine wpList_append_own _ rfl _ _ 79 rfl (w.heap.size + 1) 5 i0 (.int .u8 0) 1 1 Try.underlying79 hi hz0 hz1 hz2 rfl (by decide) _ _ _ rfl (ho3.alloc _) ⟨w3.heap.size, 0, none⟩ 1 1 [.int .u8 (c : Nat)] rfl rfl ?_ ?_ ?_ ?_ ?_ ?_; (intro a u hu; obtain ⟨rfl, rfl⟩ := one_get hu; simp [Addr.add]); (intro u hu; simp at hu; subst hu; rfl); (unfold maxLen; omega); omega; (simp; omega); intro v' w4 hown' hgrow hnn; clear hnn; have HI4 := hide ((HI3.out.alloc hla hlb hmlt _).other hla hlb hmlt hgrow (fun q hq => (ho3.lt q hq).1)); have c4 := HI4.out.cell; have HO4 := hide (own_next HBT.out HL1.out hown'); have hcv := run_string_any (dst := 9) Try.underlying79 Try.underlying5 Try.underlying9 HO4.out; have hlook := lookSome HI4.out.book hk1 hfk; clear hgrow hown')
          go_roundw
          case rel =>
            have h4 := HO4.out
            rw [HL1.out] at h4
            exact ⟨j + 1, by omega, hj101, ownsRow_lenOf h4, h4.alloc _, by show NextInv _ _ _ _ _ _ _ _ _; rw [HPS.out]; exact HI4.out.alloc hla hlb hmlt _, HN⟩
          case measure =>
            have h4 := HO4.out
            rw [HL1.out] at h4
            obtain ⟨ao', cap', hv'⟩ := ownsRow_lenOf h4
            rw [hv']
            simp only [lenOf]
            omega
    · obtain rfl : j = rest.length := by omega
      have HS := hide (HAJ.out.short rfl)
      have hend : pos + rest.length = bits.length := by omega
      have HTK := hide (show TakerAt wr ba bb bits bits.length by have h := HIN.out.taker; rw [hend] at h; exact h)
      go_wp2_with (go_at_call 113; refine (take_end ba bb bits _ HTK.out).mono ?_; rintro e w3 ⟨rfl, rfl⟩)
      go_ret2
      rw [HS.out]
      exact ⟨rfl, HIN.out.taker, HIN.out.grown⟩

end Go.Proofs.Ytolcndchfnifhaa
