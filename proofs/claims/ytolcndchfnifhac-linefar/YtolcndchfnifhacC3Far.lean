/- Far: part 3 of what the proofs need. -/
import Derived.Test.YtolcndchfnifhacC1Far
import Derived.Test.YtolcndchfnifhacC2Far
import Derived.Deep.Cut
import Derived.Laws.CopyOwn
import Derived.Lib.SliceRun
namespace Go.Proofs.Ytolcndchfnifhac
set_option linter.unusedVariables false
open Go.RowKit
def rowsL {α : Type} (xs : List α) (W top many : Nat) : List α := (xs.drop (top * W)).take (many * W)
set_option maxRecDepth 100000 in
theorem clonePix_any (b off n c : Nat) (ps : List Px) (w : World) (hn : ps.length = n) (hb : b < w.heap.size) (h4 : n ≤ 4096) (h1 : 1 ≤ n)
    (hc : ∀ j, j < n → w.cell? ⟨b, off + j * 3, none⟩ = some (.int .i64 (pxAt ps j).1) ∧ w.cell? ⟨b, off + j * 3 + 1, none⟩ = some (.int .i64 (pxAt ps j).2.1) ∧ w.cell? ⟨b, off + j * 3 + 2, none⟩ = some (.int .i64 (pxAt ps j).2.2)) :
    Calls Try.prog 24 #[.slice (some ⟨b, off, none⟩) n c] w fun e w' => ∃ r, e = .returned r ∧ IsPix w' r ps ∧ Below w.heap.size w w' ∧ Fresh w.heap.size r := by
  obtain ⟨i0, hi, hz0, hz1, hz2⟩ := info_parts Try.infoPixel
  have q22 : ∀ (w : World) (a : Option Addr) (n c n' c' : Nat), (binOp .eql 32 (.slice a n c) (.slice none n' c')).run Try.prog w = .ok (.bool a.isNone) w := fun w a n c n' c' => Lib.run_eql_slice_nil w _ _ a n c n' c' Try.underlying32
  have HC := hide hc
  have hl : (ps.flatMap pixL).length = n * 3 := by rw [flat_length, hn]
  have HL := hide hl
  clear hc
  go_enter Try.func24, Try.ntmps24
  go_wp2_with (at_builtin; refine wpList_append_own _ rfl _ _ 32 rfl w.heap.size 41 i0 pixZ 3 24 Try.underlying32 hi hz0 hz1 hz2 rfl (by omega) _ _ _ rfl (World.ownsRow_made w #[] 0 (Nat.le_refl _) (Nat.zero_le _) (by simp)) ⟨b, off, none⟩ n c (ps.flatMap pixL) rfl ?qc1 ?qc2 ?qc3 ?qc4 ?qc5 ?qc6 ?_)
  case qc1 => exact HL.out
  case qc2 =>
    intro j u hj
    rw [Addr.add_lit]
    refine Lib.cell?_alloc_some _ ?_
    have hj3 : j < n * 3 := by rw [← HL.out]; exact (List.getElem?_eq_some_iff.1 hj).1
    have hq : j / 3 < n := by omega
    obtain ⟨g0, g1, g2⟩ := flat_get ps (j / 3) (by omega)
    obtain ⟨d0, d1, d2⟩ := HC.out (j / 3) hq
    rw [pxAt_get ps (j / 3) (by omega)] at g0 g1 g2
    rcases (show j % 3 = 0 ∨ j % 3 = 1 ∨ j % 3 = 2 by omega) with h | h | h
    · have e : j = j / 3 * 3 := by omega
      rw [e] at hj ⊢
      rw [← Option.some.inj (g0.symm.trans hj)]; exact d0
    · have e : j = j / 3 * 3 + 1 := by omega
      rw [e] at hj ⊢
      rw [← Option.some.inj (g1.symm.trans hj), ← Nat.add_assoc]; exact d1
    · have e : j = j / 3 * 3 + 2 := by omega
      rw [e] at hj ⊢
      rw [← Option.some.inj (g2.symm.trans hj), ← Nat.add_assoc]; exact d2
  case qc3 =>
    intro u hu
    obtain ⟨p, _, hu⟩ := List.mem_flatMap.1 hu
    simp only [pixL, List.mem_cons, List.not_mem_nil, or_false] at hu
    rcases hu with rfl | rfl | rfl <;> rfl
  case qc4 => rw [Nat.zero_add]; unfold maxLen; omega
  case qc5 => rw [Nat.zero_add]; omega
  case qc6 => simp
  intro v' w1 hown hgrow hnil
  go_wp2
  go_ret
  exact ⟨v', rfl, IsPix.own (by rw [hn]; exact hown) (by omega), (bel_alloc w _).grown hgrow (by simp) (fun k hk => by simp [Value.ownBlock] at hk; omega), Fresh.own hown⟩
set_option maxRecDepth 100000 in
set_option maxHeartbeats 1600000 in
theorem rowsOf_any (W H TP EN bk off ca : Nat) (hW1 : 1 ≤ W) (hW : W ≤ 64) (hH : H ≤ 64) (zs : List Int) (hlen : zs.length = H * W) (hTE : TP < EN) (hEH : EN ≤ H) (hca : zs.length ≤ ca) (w : World) :
    Calls Try.prog 20 #[.agg #[.int .i64 W, .int .i64 H, .slice (some ⟨bk, off, none⟩) zs.length ca], .int .i64 TP, .int .i64 EN] w fun e w' => e = .returned (.agg #[.int .i64 W, .int .i64 (EN - TP : Nat), .slice (some ⟨bk, off + TP * W, none⟩) ((EN - TP) * W) (ca - TP * W)]) ∧ Below w.heap.size w w' := by
  have h1 : (TP + 1) * W ≤ EN * W := Nat.mul_le_mul_right _ hTE
  have h2 : EN * W ≤ H * W := Nat.mul_le_mul_right _ hEH
  have h3 : (EN - TP) * W = EN * W - TP * W := Nat.sub_mul _ _ _
  have h4 : H * W ≤ 64 * 64 := Nat.mul_le_mul hH hW
  rw [Nat.succ_mul] at h1
  rw [h3]
  obtain ⟨A, hA⟩ : ∃ A, TP * W = A := ⟨_, rfl⟩
  obtain ⟨B, hB⟩ : ∃ B, EN * W = B := ⟨_, rfl⟩
  rw [hA] at h1 ⊢
  rw [hB] at h1 h2 ⊢
  rw [← hlen] at h2 h4
  have hAI : (TP : Int) * (W : Int) = (A : Int) := by rw [← hA]; simp
  have hBI : (EN : Int) * (W : Int) = (B : Int) := by rw [← hB]; simp
  have hwA : IntKind.i64.wrap (A : Int) = (A : Int) := IntWalk.i64_in _ (by omega)
  have hwB : IntKind.i64.wrap (B : Int) = (B : Int) := IntWalk.i64_in _ (by omega)
  have hDI : IntKind.i64.wrap ((EN : Int) - (TP : Int)) = ((EN - TP : Nat) : Int) := (IntWalk.i64_in _ (by omega)).trans (by omega)
  have hs1 : (A : Int) ≤ (B : Int) := by omega
  have hs2 : (B : Int) ≤ (ca : Int) := by omega
  have hs3 : ¬ (ca = A) := by omega
  obtain ⟨D, hD⟩ : ∃ D, EN - TP = D := ⟨_, rfl⟩
  rw [hD] at hDI ⊢
  clear hA hB hD h3 hlen
  obtain ⟨a1, a2⟩ := al2 w (Obj.cells #[.int .i64 W, .int .i64 H, .slice (some ⟨bk, off, none⟩) zs.length ca] 31) (Obj.cells #[.int .i64 0, .int .i64 0, .slice none 0 0] 31)
  have HB := hide (be2 w (Obj.cells #[.int .i64 W, .int .i64 H, .slice (some ⟨bk, off, none⟩) zs.length ca] 31) (Obj.cells #[.int .i64 0, .int .i64 0, .slice none 0 0] 31))
  go_enter Try.func20, Try.ntmps20
  go_wp2_with fail
  have hl1 := (Array.getElem?_eq_some_iff.1 a1).1
  have hl2 := (Array.getElem?_eq_some_iff.1 a2).1
  generalize (w.alloc (Obj.cells #[.int .i64 W, .int .i64 H, .slice (some ⟨bk, off, none⟩) zs.length ca] 31)).alloc (Obj.cells #[.int .i64 0, .int .i64 0, .slice none 0 0] 31) = U at *
  have hSd : U.drew.cell? ⟨w.heap.size, 0, none⟩ = some (.int .i64 W) ∧ U.drew.cell? ⟨w.heap.size, 1, none⟩ = some (.int .i64 H) ∧ U.drew.cell? ⟨w.heap.size, 2, none⟩ = some (.slice (some ⟨bk, off, none⟩) zs.length ca) := cells3 (w := U.drew) a1
  obtain ⟨z0, z1, z2⟩ := cells3 a2
  have f0 := Lib.frozen_of_heap a2 0
  have f1 := Lib.frozen_of_heap a2 1
  have f2 := Lib.frozen_of_heap a2 2
  have hmx : Try.prog.follows .mixedOrders = true := by kernel_rfl
  refine wp_region_last (S := fun v : World => v.cell? ⟨w.heap.size, 0, none⟩ = some (.int .i64 W) ∧ v.cell? ⟨w.heap.size, 1, none⟩ = some (.int .i64 H) ∧ v.cell? ⟨w.heap.size, 2, none⟩ = some (.slice (some ⟨bk, off, none⟩) zs.length ca)) (f := 17) hmx ?_
  show wpAnyF _ _ _ _ _ _ 18 _ _ U.drew
  refine wpAnyF_takeD (i := 0) (oi := _) (v := ?vv1) (some 7) rfl rfl (by kernel_rfl) (by kernel_rfl) (by kernel_rfl) (by kernel_rfl) (by kernel_rfl) (fun _ _ _ h => h) (Or.inl ⟨by rfl, ?yy1⟩) hSd ?rr1
  case yy1 => (intro wq hSq; obtain ⟨_, _, _⟩ := hSq; go_simp <;> with_reducible rfl)
  simp only [Act.put, List.setIfInBounds_toArray, List.set_cons_succ, List.set_cons_zero]
  refine wpAnyF_takeD (i := 2) (oi := _) (v := ?vv2) (some 9) rfl rfl (by kernel_rfl) (by kernel_rfl) (by kernel_rfl) (by kernel_rfl) (by kernel_rfl) (fun _ _ _ h => h) (Or.inl ⟨by rfl, ?yy2⟩) hSd ?rr2
  case yy2 => (intro wq hSq; obtain ⟨_, _, _⟩ := hSq; go_simp <;> with_reducible rfl)
  simp only [Act.put, List.setIfInBounds_toArray, List.set_cons_succ, List.set_cons_zero]
  refine wpAnyF_takeD (i := 3) (oi := _) (v := ?vv3) (some 10) rfl rfl (by kernel_rfl) (by kernel_rfl) (by kernel_rfl) (by kernel_rfl) (by kernel_rfl) (fun _ _ _ h => h) (Or.inl ⟨by rfl, ?yy3⟩) hSd ?rr3
  case yy3 => (intro wq hSq; obtain ⟨_, _, _⟩ := hSq; go_simp <;> with_reducible rfl)
  simp only [Act.put, List.setIfInBounds_toArray, List.set_cons_succ, List.set_cons_zero]
  refine wpAnyF_takeD (i := 5) (oi := _) (v := ?vv4) (some 12) rfl rfl (by kernel_rfl) (by kernel_rfl) (by kernel_rfl) (by kernel_rfl) (by kernel_rfl) (fun _ _ _ h => h) (Or.inl ⟨by rfl, ?yy4⟩) hSd ?rr4
  case yy4 => (intro wq hSq; obtain ⟨_, _, _⟩ := hSq; go_simp <;> with_reducible rfl)
  simp only [Act.put, List.setIfInBounds_toArray, List.set_cons_succ, List.set_cons_zero]
  refine wpAnyF_takeD (i := 7) (oi := _) (v := ?vv5) (some 14) rfl rfl (by kernel_rfl) (by kernel_rfl) (by kernel_rfl) (by kernel_rfl) (by kernel_rfl) (fun _ _ _ h => h) (Or.inl ⟨by rfl, ?yy5⟩) hSd ?rr5
  case yy5 => (intro wq hSq; obtain ⟨_, _, _⟩ := hSq; go_simp <;> with_reducible rfl)
  simp only [Act.put, List.setIfInBounds_toArray, List.set_cons_succ, List.set_cons_zero]
  refine wpAnyF_takeD (i := 8) (oi := _) (v := ?vv6) (some 15) rfl rfl (by kernel_rfl) (by kernel_rfl) (by kernel_rfl) (by kernel_rfl) (by kernel_rfl) (fun _ _ _ h => h) (Or.inl ⟨by rfl, ?yy6⟩) hSd ?rr6
  case yy6 => (intro wq hSq; obtain ⟨_, _, _⟩ := hSq; go_simp <;> with_reducible rfl)
  simp only [Act.put, List.setIfInBounds_toArray, List.set_cons_succ, List.set_cons_zero]
  refine wpAnyF_takeD (i := 11) (oi := _) (v := ?vv7) (some 18) rfl rfl (by kernel_rfl) (by kernel_rfl) (by kernel_rfl) (by kernel_rfl) (by kernel_rfl) (fun _ _ _ h => h) (Or.inl ⟨by rfl, ?yy7⟩) hSd ?rr7
  case yy7 => (intro wq hSq; obtain ⟨_, _, _⟩ := hSq; go_simp <;> with_reducible rfl)
  simp only [Act.put, List.setIfInBounds_toArray, List.set_cons_succ, List.set_cons_zero]
  refine wpAnyF_takeD (i := 12) (oi := _) (v := ?vv8) (some 19) rfl rfl (by kernel_rfl) (by kernel_rfl) (by kernel_rfl) (by kernel_rfl) (by kernel_rfl) (fun _ _ _ h => h) (Or.inl ⟨by rfl, ?yy8⟩) hSd ?rr8
  case yy8 => (intro wq hSq; obtain ⟨_, _, _⟩ := hSq; go_simp <;> with_reducible rfl)
  simp only [Act.put, List.setIfInBounds_toArray, List.set_cons_succ, List.set_cons_zero]
  refine wpAnyF_takeD (i := 1) (oi := _) (v := ?vv9) (some 8) rfl rfl (by kernel_rfl) (by kernel_rfl) (by kernel_rfl) (by kernel_rfl) (by kernel_rfl) (fun _ _ _ h => h) (Or.inl ⟨by rfl, ?yy9⟩) hSd ?rr9
  case yy9 => (intro wq hSq; obtain ⟨_, _, _⟩ := hSq; go_simp <;> with_reducible rfl)
  simp only [Act.put, List.setIfInBounds_toArray, List.set_cons_succ, List.set_cons_zero]
  refine wpAnyF_takeD (i := 4) (oi := _) (v := ?vv10) (some 11) rfl rfl (by kernel_rfl) (by kernel_rfl) (by kernel_rfl) (by kernel_rfl) (by kernel_rfl) (fun _ _ _ h => h) (Or.inl ⟨by rfl, ?yy10⟩) hSd ?rr10
  case yy10 => (intro wq hSq; obtain ⟨_, _, _⟩ := hSq; go_simp <;> with_reducible rfl)
  simp only [Act.put, List.setIfInBounds_toArray, List.set_cons_succ, List.set_cons_zero]
  refine wpAnyF_takeD (i := 6) (oi := _) (v := ?vv11) (some 13) rfl rfl (by kernel_rfl) (by kernel_rfl) (by kernel_rfl) (by kernel_rfl) (by kernel_rfl) (fun _ _ _ h => h) (Or.inl ⟨by rfl, ?yy11⟩) hSd ?rr11
  case yy11 => (intro wq hSq; obtain ⟨_, _, _⟩ := hSq; go_simp <;> with_reducible rfl)
  simp only [Act.put, List.setIfInBounds_toArray, List.set_cons_succ, List.set_cons_zero]
  refine wpAnyF_takeD (i := 9) (oi := _) (v := ?vv12) (some 16) rfl rfl (by kernel_rfl) (by kernel_rfl) (by kernel_rfl) (by kernel_rfl) (by kernel_rfl) (fun _ _ _ h => h) (Or.inl ⟨by rfl, ?yy12⟩) hSd ?rr12
  case yy12 => (intro wq hSq; obtain ⟨_, _, _⟩ := hSq; go_simp <;> with_reducible rfl)
  simp only [Act.put, List.setIfInBounds_toArray, List.set_cons_succ, List.set_cons_zero]
  refine wpAnyF_takeD (i := 13) (oi := _) (v := ?vv13) (some 20) rfl rfl (by kernel_rfl) (by kernel_rfl) (by kernel_rfl) (by kernel_rfl) (by kernel_rfl) (fun _ _ _ h => h) (Or.inl ⟨by rfl, ?yy13⟩) hSd ?rr13
  case yy13 => (intro wq hSq; obtain ⟨_, _, _⟩ := hSq; go_simp <;> with_reducible rfl)
  simp only [Act.put, List.setIfInBounds_toArray, List.set_cons_succ, List.set_cons_zero]
  refine wpAnyF_takeD (i := 10) (oi := _) (v := ?vv14) (some 17) rfl rfl (by kernel_rfl) (by kernel_rfl) (by kernel_rfl) (by kernel_rfl) (by kernel_rfl) (fun _ _ _ h => h) (Or.inl ⟨by rfl, ?yy14⟩) hSd ?rr14
  case yy14 => (intro wq hSq; obtain ⟨_, _, _⟩ := hSq; go_simp <;> with_reducible rfl)
  simp only [Act.put, List.setIfInBounds_toArray, List.set_cons_succ, List.set_cons_zero]
  refine wpAnyF_takeD (i := 14) (oi := _) (v := ?vv15) (some 21) rfl rfl (by kernel_rfl) (by kernel_rfl) (by kernel_rfl) (by kernel_rfl) (by kernel_rfl) (fun _ _ _ h => h) (Or.inl ⟨by rfl, ?yy15⟩) hSd ?rr15
  case yy15 => (intro wq hSq; obtain ⟨_, _, _⟩ := hSq; go_simp <;> with_reducible rfl)
  simp only [Act.put, List.setIfInBounds_toArray, List.set_cons_succ, List.set_cons_zero]
  refine wpAnyF_takeD (i := 15) (oi := _) (v := ?vv16) (some 22) rfl rfl (by kernel_rfl) (by kernel_rfl) (by kernel_rfl) (by kernel_rfl) (by kernel_rfl) (fun _ _ _ h => h) (Or.inl ⟨by rfl, ?yy16⟩) hSd ?rr16
  case yy16 => (intro wq hSq; obtain ⟨_, _, _⟩ := hSq; go_simp <;> with_reducible rfl)
  simp only [Act.put, List.setIfInBounds_toArray, List.set_cons_succ, List.set_cons_zero]
  refine wpAnyF_takeD (i := 16) (oi := _) (v := ?vv17) (some 23) rfl rfl (by kernel_rfl) (by kernel_rfl) (by kernel_rfl) (by kernel_rfl) (by kernel_rfl) (fun _ _ _ h => h) (Or.inl ⟨by rfl, ?yy17⟩) hSd ?rr17
  case yy17 => (intro wq hSq; obtain ⟨_, _, _⟩ := hSq; go_simp <;> with_reducible rfl)
  simp only [Act.put, List.setIfInBounds_toArray, List.set_cons_succ, List.set_cons_zero]
  refine wpAnyF_last (o := _) (by kernel_rfl) rfl (fun K' hK => ?_)
  rw [if_pos (by rfl)]
  go_simp
  refine hK.out _ _ ?_
  clear hK
  refine wpAnyF_done (by kernel_rfl) ?_ _
  try simp only [Act.put]
  have HF := hide (set3_below HB.out (show w.heap.size ≤ w.heap.size + 1 by omega) (.int .i64 W) (.int .i64 D) (.slice (some ⟨bk, off + A, none⟩) (B - A) (ca - A)))
  go_wp2
  exact bodyPost_ret (v := .agg #[.int .i64 W, .int .i64 D, .slice (some ⟨bk, off + A, none⟩) (B - A) (ca - A)]) (by simp [results, Try.results20, go_sem, z0, z1, z2]) rfl ⟨rfl, HF.out.drew⟩
end Go.Proofs.Ytolcndchfnifhac

namespace Go.Proofs.Ytolcndchfnifhac
set_option linter.unusedVariables false
open Go.RowKit
def inRows (top rows : Nat) (s : Pt) : Bool := decide ((top : Int) ≤ s.2 ∧ s.2 < (top : Int) + rows)
def movedSpots (ls : List Pt) (top rows : Nat) : List Pt := (ls.filter (inRows top rows)).map fun s => (s.1, s.2 - top)
def oddPhase (p : Int) : Int := if p < 2 then p + 2 else p - 2
def oddBlack (m : Nat → Int) (k : Nat) : Int := m ((k + 2) % 4)
def turnedP (n : Plan) (top : Nat) : Plan := { n with phase := if top % 2 = 1 then oddPhase n.phase else n.phase, black := if top % 2 = 1 then oddBlack n.black else n.black }
def movedP (n : Plan) (top rows : Nat) : Plan := { turnedP n top with spots := movedSpots n.spots top rows }
theorem xorP (p : Int) (h : 0 ≤ p ∧ p ≤ 3) : bits BinOp.xor IntKind.i64 p 2 = oddPhase p := by
  rcases (show p = 0 ∨ p = 1 ∨ p = 2 ∨ p = 3 by omega) with rfl | rfl | rfl | rfl <;> decide +kernel
abbrev planZ : Array Value := #[.int .i64 0, .int .i64 0, .int .i64 0, .int .i64 0, .int .i64 0, .int .i64 0, .slice none 0 0, .int .i64 0, .int .i64 0, .int .i64 0, .int .i64 0, .int .i64 0, .int .i64 0, .int .i64 0, .int .i64 0, .int .i64 0, .int .i64 0, .int .i64 0, .int .i64 0, .slice none 0 0, .int .i64 0]
def ptL (t : Pt) : List Value := [.int .i64 t.1, .int .i64 t.2]
def spZ : Value := .agg #[.int .i64 0, .int .i64 0]
theorem Try.infoSpot : (Try.prog.info? 77).map (fun i => (i.zero, i.size, i.bytes)) = some (some spZ, 2, 16) := by kernel_rfl
theorem ptFlat_get (ls : List Pt) (j : Nat) (h : j < ls.length) : (ls.flatMap ptL)[j * 2]? = some (.int .i64 (ptAt ls j).1) ∧ (ls.flatMap ptL)[j * 2 + 1]? = some (.int .i64 (ptAt ls j).2) := by
  rw [← ptAt_get ls j h]
  induction ls generalizing j with
  | nil => simp at h
  | cons p ls ih =>
    cases j with
    | zero => simp [ptL, List.flatMap_cons]
    | succ j =>
      have h' : j < ls.length := by simpa using h
      have := ih j h'
      rw [List.flatMap_cons, show (j + 1) * 2 = j * 2 + 2 by omega]
      simp only [ptL, List.cons_append, List.nil_append, List.getElem?_cons_succ, List.getElem_cons_succ]
      exact this
theorem IsPts.own {w : World} {base : Nat} {e : TypeId} {v : Value} {ls : List Pt} (h : w.ownsRow base e 2 v ls.length (ls.flatMap ptL)) (hl : ls.length ≤ 9223372036854775807) : IsPts w v ls := by
  rcases h.2 with ⟨hv, hn⟩ | ⟨g, cap, cur, hv, _, hg, h1, h2, h3, h4⟩
  · exact ⟨none, 0, by rw [hv, hn], hl, .inl (List.eq_nil_of_length_eq_zero hn)⟩
  · refine ⟨_, cap, hv, hl, .inr ⟨g, 0, rfl, (Array.getElem?_eq_some_iff.1 hg).1, fun j hj => ?_⟩⟩
    have key : ∀ i u, i < ls.length * 2 → (ls.flatMap ptL)[i]? = some u → w.cell? ⟨g, 0 + i, none⟩ = some u := fun i u hi hu => by
      rw [Nat.zero_add, cell_of_row w g i cur _ _ hg]
      rw [← h4, List.getElem?_take_of_lt hi] at hu
      simpa using hu
    obtain ⟨a, b⟩ := ptFlat_get ls j hj
    exact ⟨key _ _ (by omega) a, key _ _ (by omega) b⟩
theorem IsPts.other {w w' : World} {v : Value} {ls : List Pt} {k : Nat} (h : IsPts w v ls) (hs : w.heap.size ≤ w'.heap.size) (hk : ∀ b, b ≠ k → w'.heap[b]? = w.heap[b]?) (hne : v.ownBlock ≠ some k) : IsPts w' v ls := by
  obtain ⟨ao, cap, rfl, hl, h⟩ := h
  refine ⟨ao, cap, rfl, hl, ?_⟩
  rcases h with h | ⟨b, off, rfl, hlt, hc⟩
  · exact .inl h
  · have hb : b ≠ k := fun e => hne (by rw [e]; rfl)
    refine .inr ⟨b, off, rfl, Nat.lt_of_lt_of_le hlt hs, fun j hj => ?_⟩
    rw [World.cell?_of_block (a := ⟨b, off + j * 2, none⟩) (hk b hb), World.cell?_of_block (a := ⟨b, off + j * 2 + 1, none⟩) (hk b hb)]
    exact hc j hj
theorem movedSpots_snoc (ls : List Pt) (k : Nat) (hk : k < ls.length) (top rows : Nat) : movedSpots (ls.take (k + 1)) top rows = movedSpots (ls.take k) top rows ++ (if inRows top rows (ptAt ls k) = true then [((ptAt ls k).1, (ptAt ls k).2 - top)] else []) := by
  rw [List.take_succ_eq_append_getElem hk, ptAt_get]
  unfold movedSpots
  rw [List.filter_append, List.map_append]
  congr 1
  by_cases h : inRows top rows (ptAt ls k) = true
  · rw [if_pos h, List.filter_cons_of_pos h]; rfl
  · rw [if_neg h, List.filter_cons_of_neg h]; rfl
theorem movedSpots_le (ls : List Pt) (top rows : Nat) : (movedSpots ls top rows).length ≤ ls.length := by
  unfold movedSpots; rw [List.length_map]; exact List.length_filter_le _ _
def MvJ (w : World) (n : Plan) (TP R : Nat) (sv cv s : Value) (k : Nat) (wr : World) : Prop :=
  wr.ownsRow w.heap.size 77 2 s (movedSpots (n.spots.take k) TP R).length ((movedSpots (n.spots.take k) TP R).flatMap ptL) ∧ wr.heap[w.heap.size]? = some (.cells (planA (turnedP n TP) sv cv) 28 (0, 0)) ∧ wr.heap[w.heap.size + 1]? = some (.cells planZ 28 (0, 0)) ∧ Below w.heap.size w wr
theorem MvJ.below {w : World} {n : Plan} {TP R : Nat} {sv cv s : Value} {k : Nat} {wr V : World} (h : MvJ w n TP R sv cv s k wr) (hV : Below wr.heap.size wr V) : MvJ w n TP R sv cv s k V :=
  ⟨ownsRow_below h.1 hV, (hV.block _ (Array.getElem?_eq_some_iff.1 h.2.1).1).trans h.2.1, (hV.block _ (Array.getElem?_eq_some_iff.1 h.2.2.1).1).trans h.2.2.1, h.2.2.2.trans (hV.mono h.2.2.2.size)⟩
set_option maxRecDepth 100000 in
set_option maxHeartbeats 3200000 in
theorem moved_any (n : Plan) (sv cv : Value) (TP R : Nat) (hT : TP ≤ 64) (hR : R ≤ 64) (hph : 0 ≤ n.phase ∧ n.phase ≤ 3) (hln : n.spots.length ≤ 64) (hsp : spotsB 64 64 n.spots = true) (w : World) (hp : IsPlan w n sv cv) :
    Calls Try.prog 23 #[.agg (planA n sv cv), .int .i64 TP, .int .i64 R] w fun e w' => ∃ rv, e = .returned (.agg (planA (movedP n TP R) rv cv)) ∧ IsPlan w' (movedP n TP R) rv cv ∧ Below w.heap.size w w' := by
  have HP := hide hp
  have HSP := hide hsp
  obtain ⟨⟨lo, lc, rfl, hll, hlc⟩, ⟨ko, kc, rfl, hkl, _⟩⟩ := hp
  have HC := hide (fun j hj => IsPts.at ⟨lo, lc, rfl, hll, hlc⟩ j hj)
  clear hlc hsp
  obtain ⟨a1, a2⟩ := al2 w (Obj.cells (planA n (.slice lo n.spots.length lc) (.slice ko n.curve.length kc)) 28) (Obj.cells planZ 28)
  have HB := hide (be2 w (Obj.cells (planA n (.slice lo n.spots.length lc) (.slice ko n.curve.length kc)) 28) (Obj.cells planZ 28))
  obtain ⟨r, hr⟩ : ∃ r, TP % 2 = r := ⟨_, rfl⟩
  have hrm : (TP : Int) % 2 = (r : Int) := by rw [← hr]; rfl
  have HRR := hide hr
  have hr2 : r < 2 := by omega
  clear hr
  have hx := xorP n.phase hph
  go_enter Try.func23, Try.ntmps23
  go_upto_if 12 with fail
  have hl1 := (Array.getElem?_eq_some_iff.1 a1).1
  have hl2 := (Array.getElem?_eq_some_iff.1 a2).1
  generalize (w.alloc (Obj.cells (planA n (.slice lo n.spots.length lc) (.slice ko n.curve.length kc)) 28)).alloc (Obj.cells planZ 28) = U at *
  go_cut [3] from 10 (fun s v => s = .pointer (some ⟨w.heap.size, 0, none⟩) ∧ v.heap[w.heap.size]? = some (.cells (planA (turnedP n TP) (.slice lo n.spots.length lc) (.slice ko n.curve.length kc)) 28 (0, 0)) ∧ v.heap[w.heap.size + 1]? = some (.cells planZ 28 (0, 0)) ∧ Below w.heap.size w v)
  case first =>
    rcases (show r = 0 ∨ r = 1 by omega) with rfl | rfl
    · go_wp2
      go_meet
      case rel =>
        refine ⟨rfl, ?_, a2, HB.out⟩
        rw [show planA (turnedP n TP) (.slice lo n.spots.length lc) (.slice ko n.curve.length kc) = planA n (.slice lo n.spots.length lc) (.slice ko n.curve.length kc) by simp [turnedP, HRR.out]]
        exact a1
    · obtain ⟨c0, c1, c2, c3, c4, c5, c6, c7, c8, c9, c10, c11, c12, c13, c14, c15, c16, c17, c18, c19, c20⟩ := plan_cells a1
      have e1 := heap_setCell_same U w.heap.size 0 _ _ (.int .i64 (oddPhase n.phase)) a1
      have f0 := Lib.frozen_of_heap a1 0
      have f1 := Lib.frozen_of_heap a1 1
      have f2 := Lib.frozen_of_heap a1 2
      have f3 := Lib.frozen_of_heap a1 3
      have f4 := Lib.frozen_of_heap a1 4
      go_wp2
      go_meet
      case rel =>
        refine ⟨rfl, ?_, ?_, ?_⟩
        · have e2 := heap_setCell_same _ w.heap.size 1 _ _ (.int .i64 (n.black 2)) e1
          have e3 := heap_setCell_same _ w.heap.size 2 _ _ (.int .i64 (n.black 3)) e2
          have e4 := heap_setCell_same _ w.heap.size 3 _ _ (.int .i64 (n.black 0)) e3
          have e5 := heap_setCell_same _ w.heap.size 4 _ _ (.int .i64 (n.black 1)) e4
          rw [e5]
          simp [turnedP, HRR.out, oddBlack]
        · rw [Below.heap_setCell _ _ _ _ (show w.heap.size + 1 ≠ w.heap.size by omega), Below.heap_setCell _ _ _ _ (show w.heap.size + 1 ≠ w.heap.size by omega), Below.heap_setCell _ _ _ _ (show w.heap.size + 1 ≠ w.heap.size by omega), Below.heap_setCell _ _ _ _ (show w.heap.size + 1 ≠ w.heap.size by omega), Below.heap_setCell _ _ _ _ (show w.heap.size + 1 ≠ w.heap.size by omega)]
          exact a2
        · exact ((((HB.out.setCell (p := ⟨w.heap.size, 0, none⟩) (Nat.le_refl _) _).setCell (p := ⟨w.heap.size, 1, none⟩) (Nat.le_refl _) _).setCell (p := ⟨w.heap.size, 2, none⟩) (Nat.le_refl _) _).setCell (p := ⟨w.heap.size, 3, none⟩) (Nat.le_refl _) _).setCell (p := ⟨w.heap.size, 4, none⟩) (Nat.le_refl _) _
  case rest =>
    obtain ⟨rfl, b1, b2, hbc⟩ := hcut
    obtain ⟨i0, hi, hz0, hz1, hz2⟩ := info_parts Try.infoSpot
    obtain ⟨_, _, _, _, _, _, c6, _⟩ := plan_cells b1
    have HM0 := hide (show MvJ w n TP R (.slice lo n.spots.length lc) (.slice ko n.curve.length kc) (.slice none 0 0) 0 wc from ⟨World.ownsRow_nil _ _ _ _, b1, b2, hbc⟩)
    clear b1 b2 hbc hx
    go_wp2_with fail
    clear c6
    go_loopw [7, 34] (fun s i wr => ∃ k : Nat, k ≤ n.spots.length ∧ i = .int .i64 k ∧ MvJ w n TP R (.slice lo n.spots.length lc) (.slice ko n.curve.length kc) s k wr) (fun _ i _ => n.spots.length - (intOf i).toNat)
    case atStart => exact ⟨0, Nat.zero_le _, rfl, HM0.out⟩
    case round =>
      clear HM0
      obtain ⟨k, hk, rfl, hJ⟩ := hrel
      by_cases hlt : k < n.spots.length
      · have hd : decide ((k : Int) < (n.spots.length : Int)) = true := by simp; omega
        obtain ⟨bq, oq, rfl, hbq, e0, e1⟩ := HC.out k hlt
        have d0 := (hJ.2.2.2.cell (p := ⟨bq, oq + k * 2, none⟩) hbq).trans e0
        have d1 := (hJ.2.2.2.cell (p := ⟨bq, oq + k * 2 + 1, none⟩) hbq).trans e1
        have HSN := hide (movedSpots_snoc n.spots k hlt TP R)
        have hsb := spotsB_at HSP.out k hlt
        obtain ⟨⟨x, y⟩, hxy⟩ : ∃ p, ptAt n.spots k = p := ⟨_, rfl⟩
        rw [hxy] at d0 d1 HSN hsb
        simp only at d0 d1 HSN hsb
        have hxr : 0 ≤ x ∧ x < 64 ∧ 0 ≤ y ∧ y < 64 := by simpa [hasB] using hsb
        obtain ⟨hx0, hx1, hy0, hy1⟩ := hxr
        clear hxy e0 e1 hsb
        have a5 := al1 wr (Obj.cells #[.int .i64 x, .int .i64 y] 77)
        obtain ⟨s0, s1⟩ := bx2 a5
        have HJ1 := hide (hJ.below (bel_alloc wr (Obj.cells #[.int .i64 x, .int .i64 y] 77)))
        by_cases hin : (TP : Int) ≤ y ∧ y < (TP : Int) + R
        · have hin1 : inRows TP R (x, y) = true := decide_eq_true hin
          rw [if_pos hin1] at HSN
          have hg1 : decide ((TP : Int) ≤ y) = true := by simpa using hin.1
          have hg2 : decide (y < (TP : Int) + (R : Int)) = true := by simpa using hin.2
          have hwy : IntKind.i64.wrap (y - (TP : Int)) = y - (TP : Int) := IntWalk.i64_in _ (by omega)
          have HJ2 := hide (HJ1.out.below (bel_alloc _ (Obj.cells #[.int .i64 x, .int .i64 (y - TP)] 77)))
          have hml := movedSpots_le (n.spots.take k) TP R
          have htl := List.length_take_le k n.spots
          obtain ⟨XS, hXS⟩ : ∃ XS, movedSpots (n.spots.take k) TP R = XS := ⟨_, rfl⟩
          have HXS := hide hXS
          have HOW := hide HJ2.out.1
          rw [hXS] at hml HOW
          clear hXS hJ HJ1
          have hnb := (al2 wr (Obj.cells #[.int .i64 x, .int .i64 y] 77) (Obj.cells #[.int .i64 x, .int .i64 (y - TP)] 77)).2
          go_wp2_with (at_builtin; refine wpList_append_own _ rfl _ _ 23 rfl w.heap.size 77 i0 spZ 2 16 Try.underlying23 hi hz0 hz1 hz2 rfl (by omega) _ XS.length (XS.flatMap ptL) rfl HOW.out ⟨wr.heap.size + 1, 0, none⟩ 1 1 [.int .i64 x, .int .i64 (y - TP)] rfl ?qc1 ?qc2 ?qc3 ?qc4 ?qc5 ?qc6 ?_)
          case qc1 => rfl
          case qc2 => exact World.news_of_block hnb
          case qc3 => exact fun u hu => by simp at hu; rcases hu with rfl | rfl <;> rfl
          case qc4 => unfold maxLen; omega
          case qc5 => omega
          case qc6 => have := HJ2.out.2.2.2.size; exact this
          intro v' w1 hown hgrow hnil
          have HJ3 := hide (show MvJ w n TP R (.slice (some ⟨bq, oq, none⟩) n.spots.length lc) (.slice ko n.curve.length kc) v' (k + 1) w1 from by
            obtain ⟨o1, o2, o3, o4⟩ := HJ2.out
            rw [HXS.out] at o1
            refine ⟨?_, ?_, ?_, ?_⟩
            · rw [HSN.out, HXS.out, List.length_append, List.flatMap_append]
              exact hown
            · exact (hgrow.block _ (Array.getElem?_eq_some_iff.1 o2).1 (own_ne o1 o2 (by decide))).trans o2
            · exact (hgrow.block _ (Array.getElem?_eq_some_iff.1 o3).1 (own_ne o1 o3 (by decide))).trans o3
            · exact o4.grown hgrow o4.size (fun j hj => (o1.lt j hj).1))
          go_wp2
          go_roundw
          case rel => exact ⟨k + 1, by omega, by go_num, HJ3.out⟩
          case measure => simp [intOf]; omega
        · have hin1 : ¬ inRows TP R (x, y) = true := fun h => hin (of_decide_eq_true h)
          rw [if_neg hin1, List.append_nil] at HSN
          have HJ3 := hide (show MvJ w n TP R (.slice (some ⟨bq, oq, none⟩) n.spots.length lc) (.slice ko n.curve.length kc) u7 (k + 1) (wr.alloc (Obj.cells #[.int .i64 x, .int .i64 y] 77)) from by
            obtain ⟨o1, o2, o3, o4⟩ := HJ1.out
            exact ⟨by rw [HSN.out]; exact o1, o2, o3, o4⟩)
          clear hJ HJ1
          rcases (show ¬ (TP : Int) ≤ y ∨ ((TP : Int) ≤ y ∧ ¬ y < (TP : Int) + R) by omega) with hc | hc
          · have hg1 : decide ((TP : Int) ≤ y) = false := by simpa using hc
            go_wp2
            go_roundw
            case rel => exact ⟨k + 1, by omega, by go_num, HJ3.out⟩
            case measure => simp [intOf]; omega
          · have hg1 : decide ((TP : Int) ≤ y) = true := by simpa using hc.1
            have hg2 : decide (y < (TP : Int) + (R : Int)) = false := by simpa using hc.2
            go_wp2
            go_roundw
            case rel => exact ⟨k + 1, by omega, by go_num, HJ3.out⟩
            case measure => simp [intOf]; omega
      · have hd : decide ((k : Int) < (n.spots.length : Int)) = false := by simp; omega
        have hkl : k = n.spots.length := by omega
        subst hkl
        obtain ⟨o1, o2, o3, o4⟩ := hJ
        rw [List.take_length] at o1
        have hml := movedSpots_le n.spots TP R
        have hpts : IsPts wr u7 (movedSpots n.spots TP R) := IsPts.own o1 (by omega)
        have HPT := hide hpts
        obtain ⟨so, sc, rfl, x1, x2⟩ := hpts
        clear x1 x2
        obtain ⟨N, hN⟩ : ∃ N, (movedSpots n.spots TP R).length = N := ⟨_, rfl⟩
        rw [hN] at o1 HPT ⊢
        clear hN
        obtain ⟨_, _, _, _, _, _, c6, _⟩ := plan_cells o2
        have f6 := Lib.frozen_of_heap o2 6
        have e6 : (wr.setCell ⟨w.heap.size, 6, none⟩ (.slice so N sc)).heap[w.heap.size]? = some (.cells (planA (movedP n TP R) (.slice so N sc) (.slice ko n.curve.length kc)) 28 (0, 0)) := (heap_setCell_same wr w.heap.size 6 _ _ (.slice so N sc) o2).trans rfl
        have g1 : (wr.setCell ⟨w.heap.size, 6, none⟩ (.slice so N sc)).heap[w.heap.size + 1]? = some (.cells planZ 28 (0, 0)) := (Below.heap_setCell _ _ _ _ (show w.heap.size + 1 ≠ w.heap.size by omega)).trans o3
        have i1 : (Try.prog.info? 28).map (·.size) = some (planA (movedP n TP R) (.slice so N sc) (.slice ko n.curve.length kc)).size := by kernel_rfl
        have i3 : (planA (movedP n TP R) (.slice so N sc) (.slice ko n.curve.length kc)).all (·.oneCell') = true := by simp [Value.oneCell']
        have hne1 : (Value.slice so N sc).ownBlock ≠ some w.heap.size := fun e => own_ne o1 o2 (by decide) e.symm
        have hne2 : (Value.slice so N sc).ownBlock ≠ some (w.heap.size + 1) := fun e => own_ne o1 o3 (by decide) e.symm
        have HX := hide ((HPT.out.other (k := w.heap.size) (w' := wr.setCell ⟨w.heap.size, 6, none⟩ (.slice so N sc)) (by simp [World.setCell]) (fun b hb => Below.heap_setCell _ _ _ _ hb) hne1).other (k := w.heap.size + 1) (w' := (wr.setCell ⟨w.heap.size, 6, none⟩ (.slice so N sc)).setRow (w.heap.size + 1) (planA (movedP n TP R) (.slice so N sc) (.slice ko n.curve.length kc))) (by simp) (fun b hb => setRow_other _ _ _ _ hb) hne2)
        have HF := hide (below_setRow (g := w.heap.size + 1) (o4.setCell (p := ⟨w.heap.size, 6, none⟩) (Nat.le_refl _) (.slice so N sc)) (by omega) (planA (movedP n TP R) (.slice so N sc) (.slice ko n.curve.length kc)))
        have HG := hide (setRow_heap _ _ _ (planA (movedP n TP R) (.slice so N sc) (.slice ko n.curve.length kc)) _ _ g1)
        clear o1 o3 hne1 hne2
        go_wp2_with (first | refine wpList_load_row rfl 28 _ rfl _ rfl _ _ _ _ e6 Try.underlying28 rfl (by kernel_rfl) ?_ | refine wpList_store_row rfl 28 _ _ rfl (w.heap.size + 1) (planA (movedP n TP R) (.slice so N sc) (.slice ko n.curve.length kc)) rfl rfl _ _ g1 i1 rfl i3 ?_)
        refine bodyPost_ret (v := .agg (planA (movedP n TP R) (.slice so N sc) (.slice ko n.curve.length kc))) (results_cell_row Try.results23 _ _ _ _ _ _ _ rfl HG.out Try.underlying28 rfl (by kernel_rfl)) rfl ⟨_, rfl, ⟨HX.out, HP.out.curve.below HF.out (Nat.le_refl _)⟩, HF.out⟩
end Go.Proofs.Ytolcndchfnifhac

namespace Go.Proofs.Ytolcndchfnifhac
open Go.RowKit
theorem wpIn_region_last {P : Program} {id l n f : Nat} {ops : Array Oper} {S : World → Prop} {Q : Exit → Act → World → Prop} {a : Act} {w : World} (hm : P.follows .mixedOrders = true) (hd : NoDefer ops) (hno : ¬ LetsOut Q)
    (h : wpAnyF P .any ops Q S f ops.size (Array.replicate ops.size false) a { w with drawn := w.drawn + 1 }) : (Code.region id ops true).wpIn (Fence.wide.inRound l) n P Q a w :=
  wpIn_region_any hm (wpAnyIn_of_wpAny hd hno _ _ _ _ (wpAny_of_F _ _ _ _ h))
end Go.Proofs.Ytolcndchfnifhac

namespace Go.Proofs.Ytolcndchfnifhac
set_option linter.unusedVariables false
open Go.RowKit Go.Shelf
attribute [local go_sem] Oper.semAt_some
def mStep {N : Nat} (zs : List Int) (W H : Nat) (px py : Fin N → Int) (cnt : Fin N → Bool) (s : Int × Nat) (x : Fin N) : Int × Nat :=
  if hasB W H (px x) (py x) = true ∧ cnt x = true then (s.1 + zAt zs ((py x).toNat * W + (px x).toNat), s.2 + 1) else s
def mF {N : Nat} (zs : List Int) (W H : Nat) (px py : Fin N → Int) (cnt : Fin N → Bool) (pre : List (Fin N)) : Int × Nat := pre.foldl (mStep zs W H px py cnt) (0, 0)
theorem mF_snoc {N : Nat} (zs : List Int) (W H : Nat) (px py : Fin N → Int) (cnt : Fin N → Bool) (pre : List (Fin N)) (x : Fin N) : mF zs W H px py cnt (pre ++ [x]) = mStep zs W H px py cnt (mF zs W H px py cnt pre) x := by simp [mF]
theorem mF_range {N : Nat} {zs : List Int} (h : allIn 0 65535 zs = true) (W H : Nat) (px py : Fin N → Int) (cnt : Fin N → Bool) (pre : List (Fin N)) (s : Int × Nat) (n : Nat) (h1 : 0 ≤ s.1) (h2 : s.1 ≤ s.2 * 65535) (h3 : s.2 ≤ n) :
    0 ≤ (pre.foldl (mStep zs W H px py cnt) s).1 ∧ (pre.foldl (mStep zs W H px py cnt) s).1 ≤ (pre.foldl (mStep zs W H px py cnt) s).2 * 65535 ∧ (pre.foldl (mStep zs W H px py cnt) s).2 ≤ n + pre.length := by
  induction pre generalizing s n with
  | nil => exact ⟨h1, h2, h3⟩
  | cons x pre ih =>
    simp only [List.foldl_cons, List.length_cons]
    have hz := zAt_ok h ((py x).toNat * W + (px x).toNat)
    have hs : 0 ≤ (mStep zs W H px py cnt s x).1 ∧ (mStep zs W H px py cnt s x).1 ≤ (mStep zs W H px py cnt s x).2 * 65535 ∧ (mStep zs W H px py cnt s x).2 ≤ n + 1 := by
      unfold mStep
      split
      · refine ⟨?_, ?_, ?_⟩
        · show 0 ≤ s.1 + zAt zs ((py x).toNat * W + (px x).toNat); omega
        · show s.1 + zAt zs ((py x).toNat * W + (px x).toNat) ≤ ((s.2 + 1 : Nat) : Int) * 65535; omega
        · show s.2 + 1 ≤ n + 1; omega
      · exact ⟨h1, h2, by omega⟩
    have := ih (mStep zs W H px py cnt s x) (n + 1) hs.1 hs.2.1 hs.2.2
    refine ⟨this.1, this.2.1, by omega⟩
def meanV {N : Nat} (zs : List Int) (W H : Nat) (px py : Fin N → Int) (cnt : Fin N → Bool) : Int :=
  if (mF zs W H px py cnt (List.finRange N)).2 = 0 then 0 else (mF zs W H px py cnt (List.finRange N)).1 / ((mF zs W H px py cnt (List.finRange N)).2 : Int)
set_option maxRecDepth 100000 in
set_option maxHeartbeats 4000000 in
theorem mean_any (N W H bk off ca : Nat) (hN : N ≤ 8) (hW1 : 1 ≤ W) (hW : W ≤ 64) (hH1 : 1 ≤ H) (hH : H ≤ 64) (zs : List Int) (hlen : zs.length = H * W) (hzs : allIn 0 65535 zs = true) (gf cf Bs : Nat) (lb caps : Array Value) (px py : Fin N → Int) (cnt : Fin N → Bool) (w : World)
    (egg : ∀ args w, (callFunc gf args).run Try.prog w = .ok (.enter gf args) w) (egc : ∀ args w, (callFunc cf args).run Try.prog w = .ok (.enter cf args) w) (hBs : Bs < w.heap.size)
    (hbk : bk < w.heap.size) (hcell : ∀ j, j < zs.length → w.cell? ⟨bk, off + j, none⟩ = some (.int .i64 (zAt zs j)))
    (hseq : ∀ V, Below w.heap.size w V → SeqStopsK Fence.wide (3 - 1) Try.prog gf lb (fun x : Fin N => #[Value.agg #[.int .i64 (px x), .int .i64 (py x)]]) (KeepB Bs) (fun ys => ys = List.finRange N) (fun pre => pre <+: List.finRange N) N V)
    (hcnt : ∀ (x : Fin N) (V : World), hasB W H (px x) (py x) = true → Below w.heap.size w V → Calls Try.prog cf (#[.agg #[.int .i64 (px x), .int .i64 (py x)]] ++ caps) V fun e V' => e = .returned (.bool (cnt x)) ∧ Below V.heap.size V V') :
    Calls Try.prog 62 #[.agg #[.int .i64 W, .int .i64 H, .slice (some ⟨bk, off, none⟩) zs.length ca], .func (.func gf) #[] lb, .func (.func cf) #[] caps] w fun e w' => e = .returned (.int .i64 (meanV zs W H px py cnt)) ∧ Below w.heap.size w w' := by
  have hl4 : zs.length ≤ 4096 := by rw [hlen]; exact Nat.le_trans (Nat.mul_le_mul hH hW) (by decide)
  have HLEN := hide hlen
  have HZS := hide hzs
  have HC := hide hcell
  have HSEQ := hide hseq
  have HCNT := hide hcnt
  clear hlen hzs hcell hseq hcnt
  refine (callsIn_wide (n := 3)).1 ?_
  refine callsIn_of_wp_marks Try.func62 rfl trivial ?_ rfl
  simp only [Try.ntmps62, List.size_toArray, List.length_cons, List.length_nil, Nat.reduceAdd, Nat.reduceSub, Array.replicate_succ, Array.replicate_zero, List.push_toArray, List.append_toArray, List.nil_append, List.cons_append]
  gi_wp2_with fail
  obtain ⟨a1, a2, a3, a4⟩ := al4 w (Obj.cells #[.int .i64 W, .int .i64 H, .slice (some ⟨bk, off, none⟩) zs.length ca] 31) (Obj.cells #[.func (.func cf) #[] caps] 78) (Obj.cells #[.int .i64 W, .int .i64 H] 52) (Obj.cells #[.int .i64 0] 3)
  have hB4 := be4 w (Obj.cells #[.int .i64 W, .int .i64 H, .slice (some ⟨bk, off, none⟩) zs.length ca] 31) (Obj.cells #[.func (.func cf) #[] caps] 78) (Obj.cells #[.int .i64 W, .int .i64 H] 52) (Obj.cells #[.int .i64 0] 3)
  have hs4 : ((((w.alloc (Obj.cells #[.int .i64 W, .int .i64 H, .slice (some ⟨bk, off, none⟩) zs.length ca] 31)).alloc (Obj.cells #[.func (.func cf) #[] caps] 78)).alloc (Obj.cells #[.int .i64 W, .int .i64 H] 52)).alloc (Obj.cells #[.int .i64 0] 3)).heap.size = w.heap.size + 4 := by simp
  generalize (((w.alloc (Obj.cells #[.int .i64 W, .int .i64 H, .slice (some ⟨bk, off, none⟩) zs.length ca] 31)).alloc (Obj.cells #[.func (.func cf) #[] caps] 78)).alloc (Obj.cells #[.int .i64 W, .int .i64 H] 52)).alloc (Obj.cells #[.int .i64 0] 3) = U4 at *
  have b1 := (Below.heap_alloc U4 (Obj.cells #[.int .i64 0] 3) w.heap.size (by omega)).trans a1
  have b2 := (Below.heap_alloc U4 (Obj.cells #[.int .i64 0] 3) (w.heap.size + 1) (by omega)).trans a2
  have b3 := (Below.heap_alloc U4 (Obj.cells #[.int .i64 0] 3) (w.heap.size + 2) (by omega)).trans a3
  have b4 := (Below.heap_alloc U4 (Obj.cells #[.int .i64 0] 3) (w.heap.size + 3) (by omega)).trans a4
  have b5 : (U4.alloc (Obj.cells #[.int .i64 0] 3)).heap[w.heap.size + 4]? = some (Obj.cells #[.int .i64 0] 3) := by have h := al1 U4 (Obj.cells #[.int .i64 0] 3); rw [hs4] at h; exact h
  have hB0 := bel_trans hB4 (bel_alloc U4 (Obj.cells #[.int .i64 0] 3))
  have hs0 : w.heap.size + 5 ≤ (U4.alloc (Obj.cells #[.int .i64 0] 3)).heap.size := by simp; omega
  clear a1 a2 a3 a4 hB4 hs4
  generalize U4.alloc (Obj.cells #[.int .i64 0] 3) = W0 at *
  refine wpIn_rangeFunc_ownH (α := Fin N) rfl (show 1 ≤ 3 by omega) (gf := gf) (lb := lb) rfl trivial egg
    (HSEQ.out W0 hB0) (fun {A B C} h k => h.trans' k) (fun X l o o' hl _ _ _ => keepB_put (by omega)) (Below.refl _ _) (fun _ => rfl)
    (fun pre W' => W'.heap[w.heap.size + 3]? = some (.cells #[.int .i64 (mF zs W H px py cnt pre).1] 3 (0, 0)) ∧ W'.heap[w.heap.size + 4]? = some (.cells #[.int .i64 ((mF zs W H px py cnt pre).2 : Nat)] 3 (0, 0)) ∧ W'.heap[w.heap.size]? = some (.cells #[.int .i64 W, .int .i64 H, .slice (some ⟨bk, off, none⟩) zs.length ca] 31 (0, 0)) ∧ W'.heap[w.heap.size + 1]? = some (.cells #[.func (.func cf) #[] caps] 78 (0, 0)) ∧ W'.heap[w.heap.size + 2]? = some (.cells #[.int .i64 W, .int .i64 H] 52 (0, 0)) ∧ Below w.heap.size w W')
    (fun _ _ _ => False)
    (fun s X Y row ⟨c1, c2, c3, c4, c5, c6⟩ hg hr => ⟨own_keep hg hr c1, own_keep hg hr c2, own_keep hg hr c3, own_keep hg hr c4, own_keep hg hr c5, ownFrom_below (β := Unit) (Nat.le_refl _) (by omega) () X Y row c6 hg hr⟩)
    (fun _ _ _ _ _ hs _ _ => hs)
    ⟨b4, b5, b1, b2, b3, hB0⟩
    (fun x a' W' => ∃ Bx, w.heap.size + 5 ≤ Bx ∧ W'.heap[Bx]? = some (.cells #[.int .i64 (px x), .int .i64 (py x)] 77 (0, 0)) ∧ a' = { tmps := #[.agg #[.int .i64 W, .int .i64 H, .slice (some ⟨bk, off, none⟩) zs.length ca], .func (.func gf) #[] lb, .func (.func cf) #[] caps, .pointer (some ⟨w.heap.size, 0, none⟩), undef, .pointer (some ⟨w.heap.size + 1, 0, none⟩), .int .i64 0, .pointer (some ⟨w.heap.size + 1 + 1, 0, none⟩), .pointer (some ⟨w.heap.size + 1 + 1 + 1, 0, none⟩), .pointer (some ⟨w.heap.size + 1 + 1 + 1 + 1, 0, none⟩), .pointer (some ⟨Bx, 0, none⟩), .pointer (some ⟨w.heap.size, 0, none⟩), .int .i64 W, .pointer (some ⟨w.heap.size, 1, none⟩), .int .i64 H, .agg #[.int .i64 W, .int .i64 H], .func (.func gf) #[] lb, .agg #[.int .i64 (px x), .int .i64 (py x)], undef, undef, undef, undef, undef, undef, undef, undef, undef, undef, undef, undef, undef, undef, undef, undef, undef, undef, undef, undef, undef, undef, undef, undef], defers := [] })
    (fun x a' _ X Y row ⟨Bx, c1, c2, c3⟩ hg hr => ⟨Bx, c1, own_keep hg hr c2, c3⟩)
    ?assign ?body ?done ?stop
  case assign =>
    rintro l pre x W' K ⟨i1, i2, i3, i4, i5, i6⟩ hK
    have hl1 := (Array.getElem?_eq_some_iff.1 i1).1
    have hl2 := (Array.getElem?_eq_some_iff.1 i2).1
    have hl3 := (Array.getElem?_eq_some_iff.1 i3).1
    have hl4 := (Array.getElem?_eq_some_iff.1 i4).1
    have hl5 := (Array.getElem?_eq_some_iff.1 i5).1
    have hl6 := i6.size
    gi_wp2
    exact hK _ _ ((KeepsOthers.alloc _ _).from _) (Below.heap_alloc _ _ _ (by omega)) ⟨(Below.heap_alloc _ _ _ hl1).trans i1, (Below.heap_alloc _ _ _ hl2).trans i2, (Below.heap_alloc _ _ _ hl3).trans i3, (Below.heap_alloc _ _ _ hl4).trans i4, (Below.heap_alloc _ _ _ hl5).trans i5, i6.alloc hl6 _⟩ ⟨W'.heap.size, by omega, al1 W' _, rfl⟩
  case body =>
    rintro l pre x a' W' hl ⟨rr, hrr⟩ ⟨i1, i2, i3, i4, i5, i6⟩ ⟨Bx, hBx, bX, rfl⟩ hlt
    have HSN := hide (mF_snoc zs W H px py cnt pre x)
    have hr : 0 ≤ (mF zs W H px py cnt pre).1 ∧ (mF zs W H px py cnt pre).1 ≤ (mF zs W H px py cnt pre).2 * 65535 ∧ (mF zs W H px py cnt pre).2 ≤ 0 + pre.length := mF_range HZS.out W H px py cnt pre (0, 0) 0 (Int.le_refl _) (by decide) (Nat.le_refl _)
    obtain ⟨⟨sm, nn⟩, hsn⟩ : ∃ t, mF zs W H px py cnt pre = t := ⟨_, rfl⟩
    rw [hsn] at i1 i2 HSN hr
    obtain ⟨hr1, hr2, hr3⟩ := hr
    simp only at hr1 hr2 hr3 i1 i2
    clear hsn
    have HCN := hide (fun V h1 h2 => HCNT.out x V h1 h2)
    have HMS := hide (show mStep zs W H px py cnt (sm, nn) x = if hasB W H (px x) (py x) = true ∧ cnt x = true then (sm + zAt zs ((py x).toNat * W + (px x).toNat), nn + 1) else (sm, nn) from rfl)
    obtain ⟨xa, hxa⟩ : ∃ xa, px x = xa := ⟨_, rfl⟩
    obtain ⟨yb, hyb⟩ : ∃ yb, py x = yb := ⟨_, rfl⟩
    obtain ⟨cx, hcx⟩ : ∃ cx, cnt x = cx := ⟨_, rfl⟩
    rw [hxa, hyb] at bX ⊢
    rw [hxa, hyb, hcx] at HCN HMS
    clear hxa hyb hcx
    have hl1 := (Array.getElem?_eq_some_iff.1 i1).1
    have hl2 := (Array.getElem?_eq_some_iff.1 i2).1
    have hl3 := (Array.getElem?_eq_some_iff.1 i3).1
    have hl4 := (Array.getElem?_eq_some_iff.1 i4).1
    have hl5 := (Array.getElem?_eq_some_iff.1 i5).1
    have hlX := (Array.getElem?_eq_some_iff.1 bX).1
    have hsz := i6.size
    have g0 : W'.cell? ⟨w.heap.size + 1 + 1, 0, none⟩ = some (.int .i64 W) := by rw [Lib.cell_of_heap (b := w.heap.size + 1 + 1) i5]; rfl
    have g1 : W'.cell? ⟨w.heap.size + 1 + 1, 1, none⟩ = some (.int .i64 H) := by rw [Lib.cell_of_heap (b := w.heap.size + 1 + 1) i5]; rfl
    have x0 : W'.cell? ⟨Bx, 0, none⟩ = some (.int .i64 xa) := by rw [Lib.cell_of_heap bX]; rfl
    have x1 : W'.cell? ⟨Bx, 1, none⟩ = some (.int .i64 yb) := by rw [Lib.cell_of_heap bX]; rfl
    have HEND0 := hide (show ∀ V, Below W'.heap.size W' V → mF zs W H px py cnt (pre ++ [x]) = (sm, nn) → KeepsFrom W0.heap.size W' V ∧ KeepB Bs W' V ∧ (V.heap[w.heap.size + 3]? = some (.cells #[.int .i64 (mF zs W H px py cnt (pre ++ [x])).1] 3 (0, 0)) ∧ V.heap[w.heap.size + 4]? = some (.cells #[.int .i64 ((mF zs W H px py cnt (pre ++ [x])).2 : Nat)] 3 (0, 0)) ∧ V.heap[w.heap.size]? = some (.cells #[.int .i64 W, .int .i64 H, .slice (some ⟨bk, off, none⟩) zs.length ca] 31 (0, 0)) ∧ V.heap[w.heap.size + 1]? = some (.cells #[.func (.func cf) #[] caps] 78 (0, 0)) ∧ V.heap[w.heap.size + 2]? = some (.cells #[.int .i64 W, .int .i64 H] 52 (0, 0)) ∧ Below w.heap.size w V) from fun V h hm => by
      rw [hm]
      exact ⟨⟨h.size, fun k o _ hk _ => (h.block k (Array.getElem?_eq_some_iff.1 hk).1).trans hk⟩, h.block Bs (by omega), (h.block _ hl1).trans i1, (h.block _ hl2).trans i2, (h.block _ hl3).trans i3, (h.block _ hl4).trans i4, (h.block _ hl5).trans i5, i6.trans (h.mono hsz)⟩)
    have HEND1 := hide (show ∀ V (z : Int), Below W'.heap.size W' V → mF zs W H px py cnt (pre ++ [x]) = (sm + z, nn + 1) → KeepsFrom W0.heap.size W' ((V.setCell ⟨w.heap.size + 1 + 1 + 1, 0, none⟩ (.int .i64 (sm + z))).setCell ⟨w.heap.size + 1 + 1 + 1 + 1, 0, none⟩ (.int .i64 ((nn + 1 : Nat) : Int))) ∧ KeepB Bs W' ((V.setCell ⟨w.heap.size + 1 + 1 + 1, 0, none⟩ (.int .i64 (sm + z))).setCell ⟨w.heap.size + 1 + 1 + 1 + 1, 0, none⟩ (.int .i64 ((nn + 1 : Nat) : Int))) ∧ (((V.setCell ⟨w.heap.size + 1 + 1 + 1, 0, none⟩ (.int .i64 (sm + z))).setCell ⟨w.heap.size + 1 + 1 + 1 + 1, 0, none⟩ (.int .i64 ((nn + 1 : Nat) : Int))).heap[w.heap.size + 3]? = some (.cells #[.int .i64 (mF zs W H px py cnt (pre ++ [x])).1] 3 (0, 0)) ∧ ((V.setCell ⟨w.heap.size + 1 + 1 + 1, 0, none⟩ (.int .i64 (sm + z))).setCell ⟨w.heap.size + 1 + 1 + 1 + 1, 0, none⟩ (.int .i64 ((nn + 1 : Nat) : Int))).heap[w.heap.size + 4]? = some (.cells #[.int .i64 ((mF zs W H px py cnt (pre ++ [x])).2 : Nat)] 3 (0, 0)) ∧ ((V.setCell ⟨w.heap.size + 1 + 1 + 1, 0, none⟩ (.int .i64 (sm + z))).setCell ⟨w.heap.size + 1 + 1 + 1 + 1, 0, none⟩ (.int .i64 ((nn + 1 : Nat) : Int))).heap[w.heap.size]? = some (.cells #[.int .i64 W, .int .i64 H, .slice (some ⟨bk, off, none⟩) zs.length ca] 31 (0, 0)) ∧ ((V.setCell ⟨w.heap.size + 1 + 1 + 1, 0, none⟩ (.int .i64 (sm + z))).setCell ⟨w.heap.size + 1 + 1 + 1 + 1, 0, none⟩ (.int .i64 ((nn + 1 : Nat) : Int))).heap[w.heap.size + 1]? = some (.cells #[.func (.func cf) #[] caps] 78 (0, 0)) ∧ ((V.setCell ⟨w.heap.size + 1 + 1 + 1, 0, none⟩ (.int .i64 (sm + z))).setCell ⟨w.heap.size + 1 + 1 + 1 + 1, 0, none⟩ (.int .i64 ((nn + 1 : Nat) : Int))).heap[w.heap.size + 2]? = some (.cells #[.int .i64 W, .int .i64 H] 52 (0, 0)) ∧ Below w.heap.size w ((V.setCell ⟨w.heap.size + 1 + 1 + 1, 0, none⟩ (.int .i64 (sm + z))).setCell ⟨w.heap.size + 1 + 1 + 1 + 1, 0, none⟩ (.int .i64 ((nn + 1 : Nat) : Int)))) from fun V z h hm => by
      rw [hm]
      have k3 := (h.block _ hl1).trans i1
      have k4 := (h.block _ hl2).trans i2
      have h3 := heap_setCell_same V (w.heap.size + 3) 0 _ _ (.int .i64 (sm + z)) k3
      have o3 : ∀ b, b ≠ w.heap.size + 3 → (V.setCell ⟨w.heap.size + 3, 0, none⟩ (.int .i64 (sm + z))).heap[b]? = V.heap[b]? := fun b hb => Below.heap_setCell _ _ _ _ hb
      have k4' := (o3 (w.heap.size + 4) (by omega)).trans k4
      have h4 := heap_setCell_same (V.setCell ⟨w.heap.size + 3, 0, none⟩ (.int .i64 (sm + z))) (w.heap.size + 4) 0 _ _ (.int .i64 ((nn + 1 : Nat) : Int)) k4'
      have o4 : ∀ b, b ≠ w.heap.size + 4 → ((V.setCell ⟨w.heap.size + 3, 0, none⟩ (.int .i64 (sm + z))).setCell ⟨w.heap.size + 4, 0, none⟩ (.int .i64 ((nn + 1 : Nat) : Int))).heap[b]? = (V.setCell ⟨w.heap.size + 3, 0, none⟩ (.int .i64 (sm + z))).heap[b]? := fun b hb => Below.heap_setCell _ _ _ _ hb
      have oo : ∀ b, b ≠ w.heap.size + 3 → b ≠ w.heap.size + 4 → b < W'.heap.size → ((V.setCell ⟨w.heap.size + 3, 0, none⟩ (.int .i64 (sm + z))).setCell ⟨w.heap.size + 4, 0, none⟩ (.int .i64 ((nn + 1 : Nat) : Int))).heap[b]? = W'.heap[b]? := fun b h1 h2 h5 => (o4 b h2).trans ((o3 b h1).trans (h.block b h5))
      refine ⟨⟨?_, fun k o hkB hk hoc => ?_⟩, oo Bs (by omega) (by omega) (by omega), ?_, ?_, (oo _ (by omega) (by omega) hl3).trans i3, (oo _ (by omega) (by omega) hl4).trans i4, (oo _ (by omega) (by omega) hl5).trans i5, ?_⟩
      · have := h.size; simpa [World.setCell] using this
      · exact (oo k (by omega) (by omega) (Array.getElem?_eq_some_iff.1 hk).1).trans hk
      · exact (o4 _ (by omega)).trans (by rw [h3]; rfl)
      · show ((V.setCell ⟨w.heap.size + 3, 0, none⟩ (.int .i64 (sm + z))).setCell ⟨w.heap.size + 4, 0, none⟩ (.int .i64 ((nn + 1 : Nat) : Int))).heap[w.heap.size + 4]? = _
        rw [h4]; rfl
      · exact ((i6.trans (h.mono hsz)).setCell (p := ⟨w.heap.size + 3, 0, none⟩) (by show w.heap.size ≤ w.heap.size + 3; omega) _).setCell (p := ⟨w.heap.size + 4, 0, none⟩) (by show w.heap.size ≤ w.heap.size + 4; omega) _)
    gi_wp2_with fail
    refine ⟨trivial, ?_⟩
    refine (CallsIn.inRound l (callsIn_wide.2 (has_any W H xa yb _))).mono ?_
    rintro e V1 ⟨rfl, hb1⟩
    by_cases hh : hasB W H xa yb = true
    · rw [hh]
      have q0 : V1.cell? ⟨w.heap.size + 1, 0, none⟩ = some (.func (.func cf) #[] caps) := by rw [Lib.cell_of_heap ((hb1.block _ hl4).trans i4)]; rfl
      have q1 : V1.cell? ⟨Bx, 0, none⟩ = some (.int .i64 xa) := by rw [Lib.cell_of_heap ((hb1.block _ hlX).trans bX)]; rfl
      have q2 : V1.cell? ⟨Bx, 1, none⟩ = some (.int .i64 yb) := by rw [Lib.cell_of_heap ((hb1.block _ hlX).trans bX)]; rfl
      gi_wp2_with fail
      refine ⟨trivial, ?_⟩
      refine (CallsIn.inRound l (callsIn_wide.2 (HCN.out _ hh (i6.trans (hb1.mono hsz))))).mono ?_
      rintro e V2 ⟨rfl, hb2⟩
      have hb12 := bel_trans hb1 hb2
      cases hcx : cx with
      | false =>
        have HM0 := hide (show mF zs W H px py cnt (pre ++ [x]) = (sm, nn) by rw [HSN.out, HMS.out, hcx]; simp)
        gi_wp2
        exact HEND0.out _ hb12 HM0.out
      | true =>
        obtain ⟨hx0, hx1, hy0, hy1⟩ : 0 ≤ xa ∧ xa < W ∧ 0 ≤ yb ∧ yb < H := by simpa [hasB] using hh
        have HM1 := hide (show mF zs W H px py cnt (pre ++ [x]) = (sm + zAt zs (yb.toNat * W + xa.toNat), nn + 1) by rw [HSN.out, HMS.out, hcx, hh]; simp)
        obtain ⟨X, rfl⟩ := Int.eq_ofNat_of_zero_le hx0
        obtain ⟨Y, rfl⟩ := Int.eq_ofNat_of_zero_le hy0
        rw [Int.toNat_natCast, Int.toNat_natCast] at HM1
        have hkl : Y * W + X < zs.length := by
          have h1 : (Y + 1) * W ≤ H * W := Nat.mul_le_mul_right _ (by omega)
          rw [Nat.succ_mul] at h1
          rw [HLEN.out]; omega
        obtain ⟨K1, hK1⟩ : ∃ K1, Y * W + X = K1 := ⟨_, rfl⟩
        rw [hK1] at HM1 hkl
        have HIX := hide (fun v => index_any W H X Y W K1 rfl hK1 (by omega) v)
        have hz := zAt_ok HZS.out K1
        have hcz := HC.out K1 hkl
        obtain ⟨z, hz0⟩ : ∃ z, zAt zs K1 = z := ⟨_, rfl⟩
        rw [hz0] at hz hcz HM1
        obtain ⟨hz1, hz2⟩ := hz
        clear hz0 hK1 x0 x1 g0 g1 q0 q1 q2
        have HS := hide (show ∀ v, Below W'.heap.size W' v → v.cell? ⟨w.heap.size + 1 + 1 + 1, 0, none⟩ = some (.int .i64 sm) ∧ v.cell? ⟨w.heap.size, 2, none⟩ = some (.slice (some ⟨bk, off, none⟩) zs.length ca) ∧ v.cell? ⟨w.heap.size + 1 + 1, 0, none⟩ = some (.int .i64 W) ∧ v.cell? ⟨w.heap.size + 1 + 1, 1, none⟩ = some (.int .i64 H) ∧ v.cell? ⟨Bx, 0, none⟩ = some (.int .i64 (X : Nat)) ∧ v.cell? ⟨Bx, 1, none⟩ = some (.int .i64 (Y : Nat)) ∧ v.cell? ⟨bk, off + K1, none⟩ = some (.int .i64 z) from fun v h => by
          obtain ⟨_, _, t2⟩ := cells3 ((h.block _ hl3).trans i3)
          have t5 := (h.block _ hl5).trans i5
          have tx := (h.block _ hlX).trans bX
          exact ⟨by rw [Lib.cell_of_heap (b := w.heap.size + 1 + 1 + 1) ((h.block _ hl1).trans i1)]; rfl, t2, by rw [Lib.cell_of_heap (b := w.heap.size + 1 + 1) t5]; rfl, by rw [Lib.cell_of_heap (b := w.heap.size + 1 + 1) t5]; rfl, by rw [Lib.cell_of_heap tx]; rfl, by rw [Lib.cell_of_heap tx]; rfl, ((i6.trans (h.mono hsz)).cell (p := ⟨bk, off + K1, none⟩) hbk).trans hcz⟩)
        have HF := hide (show ∀ v, Below W'.heap.size W' v → v.frozen? ⟨w.heap.size + 1 + 1 + 1, 0, none⟩ = false ∧ v.cell? ⟨w.heap.size + 1 + 1 + 1, 0, none⟩ = some (.int .i64 sm) ∧ v.frozen? ⟨w.heap.size + 1 + 1 + 1 + 1, 0, none⟩ = false ∧ v.cell? ⟨w.heap.size + 1 + 1 + 1 + 1, 0, none⟩ = some (.int .i64 (nn : Nat)) from fun v h => by
          have t3 := (h.block _ hl1).trans i1
          have t4 := (h.block _ hl2).trans i2
          exact ⟨Lib.frozen_of_heap (b := w.heap.size + 1 + 1 + 1) t3 0, by rw [Lib.cell_of_heap (b := w.heap.size + 1 + 1 + 1) t3]; rfl, Lib.frozen_of_heap (b := w.heap.size + 1 + 1 + 1 + 1) t4 0, by rw [Lib.cell_of_heap (b := w.heap.size + 1 + 1 + 1 + 1) t4]; rfl⟩)
        have hws : IntKind.i64.wrap (sm + z) = sm + z := IntWalk.i64_in _ (by omega)
        have hwn : IntKind.i64.wrap ((nn : Int) + 1) = ((nn + 1 : Nat) : Int) := (IntWalk.i64_in _ (by omega)).trans (by omega)
        have hklI : (K1 : Int) < (zs.length : Int) := by omega
        have hWd : Below W'.heap.size W' V2.drew := hb12.drew
        have hSd := HS.out _ hWd
        have hmx : Try.prog.follows .mixedOrders = true := by kernel_rfl
        gi_wp2_with fail
        refine wpIn_region_last (S := fun v : World => v.cell? ⟨w.heap.size + 1 + 1 + 1, 0, none⟩ = some (.int .i64 sm) ∧ v.cell? ⟨w.heap.size, 2, none⟩ = some (.slice (some ⟨bk, off, none⟩) zs.length ca) ∧ v.cell? ⟨w.heap.size + 1 + 1, 0, none⟩ = some (.int .i64 W) ∧ v.cell? ⟨w.heap.size + 1 + 1, 1, none⟩ = some (.int .i64 H) ∧ v.cell? ⟨Bx, 0, none⟩ = some (.int .i64 (X : Nat)) ∧ v.cell? ⟨Bx, 1, none⟩ = some (.int .i64 (Y : Nat)) ∧ v.cell? ⟨bk, off + K1, none⟩ = some (.int .i64 z)) (f := 9) hmx ?nd ?no ?_
        case nd => exact noDefer_of (by kernel_rfl)
        case no => rintro ⟨_, _, h⟩; exact h
        show wpAnyF _ _ _ _ _ _ 10 _ _ V2.drew
        refine wpAnyF_take (i := 0) (oi := _) (v := ?vv1) rfl (by kernel_rfl) (by kernel_rfl) (by kernel_rfl) (by kernel_rfl) (by kernel_rfl) (fun _ _ _ h => h) (Or.inl ⟨by rfl, ?yy1⟩) hSd ?rr1
        case yy1 => (intro wq hSq; obtain ⟨_, _, _, _, _, _, _⟩ := hSq; go_simp <;> with_reducible rfl)
        try simp only [Act.put]
        refine wpAnyF_take (i := 1) (oi := _) (v := ?vv2) rfl (by kernel_rfl) (by kernel_rfl) (by kernel_rfl) (by kernel_rfl) (by kernel_rfl) (fun _ _ _ h => h) (Or.inl ⟨by rfl, ?yy2⟩) hSd ?rr2
        case yy2 => (intro wq hSq; obtain ⟨_, _, _, _, _, _, _⟩ := hSq; go_simp <;> with_reducible rfl)
        try simp only [Act.put]
        refine wpAnyF_take (i := 2) (oi := _) (v := ?vv3) rfl (by kernel_rfl) (by kernel_rfl) (by kernel_rfl) (by kernel_rfl) (by kernel_rfl) (fun _ _ _ h => h) (Or.inl ⟨by rfl, ?yy3⟩) hSd ?rr3
        case yy3 => (intro wq hSq; obtain ⟨_, _, _, _, _, _, _⟩ := hSq; go_simp <;> with_reducible rfl)
        try simp only [Act.put]
        refine wpAnyF_take (i := 3) (oi := _) (v := ?vv4) rfl (by kernel_rfl) (by kernel_rfl) (by kernel_rfl) (by kernel_rfl) (by kernel_rfl) (fun _ _ _ h => h) (Or.inl ⟨by rfl, ?yy4⟩) hSd ?rr4
        case yy4 => (intro wq hSq; obtain ⟨_, _, _, _, _, _, _⟩ := hSq; go_simp <;> with_reducible rfl)
        try simp only [Act.put]
        refine wpAnyF_take (i := 4) (oi := _) (v := ?vv5) rfl (by kernel_rfl) (by kernel_rfl) (by kernel_rfl) (by kernel_rfl) (by kernel_rfl) (fun _ _ _ h => h) (Or.inl ⟨by rfl, ?yy5⟩) hSd ?rr5
        case yy5 => (intro wq hSq; obtain ⟨_, _, _, _, _, _, _⟩ := hSq; go_simp <;> with_reducible rfl)
        try simp only [Act.put]
        refine wpAnyF_one (i := 5) (o := _) (by kernel_rfl) rfl (fun K' hK => ?_)
        rw [if_pos (by rfl)]
        go_simp
        refine (HIX.out _).mono ?_
        rintro e V3 ⟨rfl, hb3⟩
        have hB3 : Below W'.heap.size W' V3 := hWd.trans (hb3.mono hWd.size)
        have hSd := HS.out _ hB3
        refine hK.out _ _ hSd ?_
        clear hK
        try simp only [Act.put]
        refine wpAnyF_take (i := 6) (oi := _) (v := ?vv6) rfl (by kernel_rfl) (by kernel_rfl) (by kernel_rfl) (by kernel_rfl) (by kernel_rfl) (fun _ _ _ h => h) (Or.inl ⟨by rfl, ?yy6⟩) hSd ?rr6
        case yy6 => (intro wq hSq; obtain ⟨_, _, _, _, _, _, _⟩ := hSq; go_simp <;> with_reducible rfl)
        try simp only [Act.put]
        refine wpAnyF_take (i := 7) (oi := _) (v := ?vv7) rfl (by kernel_rfl) (by kernel_rfl) (by kernel_rfl) (by kernel_rfl) (by kernel_rfl) (fun _ _ _ h => h) (Or.inl ⟨by rfl, ?yy7⟩) hSd ?rr7
        case yy7 => (intro wq hSq; obtain ⟨_, _, _, _, _, _, _⟩ := hSq; go_simp <;> with_reducible rfl)
        try simp only [Act.put]
        refine wpAnyF_take (i := 8) (oi := _) (v := ?vv8) rfl (by kernel_rfl) (by kernel_rfl) (by kernel_rfl) (by kernel_rfl) (by kernel_rfl) (fun _ _ _ h => h) (Or.inl ⟨by rfl, ?yy8⟩) hSd ?rr8
        case yy8 => (intro wq hSq; obtain ⟨_, _, _, _, _, _, _⟩ := hSq; go_simp <;> with_reducible rfl)
        try simp only [Act.put]
        obtain ⟨f3, c3, f4, c4⟩ := HF.out _ hB3
        refine wpAnyF_last (o := _) (by kernel_rfl) rfl (fun K' hK => ?_)
        rw [if_pos (by rfl)]
        go_simp
        refine hK.out _ _ ?_
        clear hK
        refine wpAnyF_done (by kernel_rfl) ?_ _
        try simp only [Act.put]
        have n4 : (V3.setCell ⟨w.heap.size + 1 + 1 + 1, 0, none⟩ (.int .i64 (sm + z))).cell? ⟨w.heap.size + 1 + 1 + 1 + 1, 0, none⟩ = some (.int .i64 (nn : Nat)) := (World.cell?_setCell_far _ _ _ _ (by show w.heap.size + 3 ≠ w.heap.size + 4; omega)).trans c4
        gi_wp2
        exact HEND1.out _ z hB3 HM1.out
    · have hh : hasB W H xa yb = false := by simpa using hh
      have HM0 := hide (show mF zs W H px py cnt (pre ++ [x]) = (sm, nn) by rw [HSN.out, HMS.out, hh]; simp)
      rw [hh]
      gi_wp2
      repeat (refine ⟨fun _ h => (by cases h), ?_⟩; gi_wp2)
      exact HEND0.out _ hb1 HM0.out
  case done =>
    rintro D ys W' hD rfl ⟨i1, i2, i3, i4, i5, i6⟩ hK
    have hr : 0 ≤ (mF zs W H px py cnt (List.finRange N)).1 ∧ (mF zs W H px py cnt (List.finRange N)).1 ≤ (mF zs W H px py cnt (List.finRange N)).2 * 65535 ∧ (mF zs W H px py cnt (List.finRange N)).2 ≤ 0 + (List.finRange N).length := mF_range HZS.out W H px py cnt (List.finRange N) (0, 0) 0 (Int.le_refl _) (by decide) (Nat.le_refl _)
    rw [List.length_finRange] at hr
    have HV := hide (show meanV zs W H px py cnt = if (mF zs W H px py cnt (List.finRange N)).2 = 0 then 0 else (mF zs W H px py cnt (List.finRange N)).1 / ((mF zs W H px py cnt (List.finRange N)).2 : Int) from rfl)
    obtain ⟨⟨sm, nn⟩, hsn⟩ : ∃ t, mF zs W H px py cnt (List.finRange N) = t := ⟨_, rfl⟩
    rw [hsn] at i1 i2 HV hr
    simp only at hr i1 i2 HV
    obtain ⟨hr1, hr2, hr3⟩ := hr
    have c3 : W'.cell? ⟨w.heap.size + 1 + 1 + 1, 0, none⟩ = some (.int .i64 sm) := by rw [Lib.cell_of_heap (b := w.heap.size + 1 + 1 + 1) i1]; rfl
    have c4 : W'.cell? ⟨w.heap.size + 1 + 1 + 1 + 1, 0, none⟩ = some (.int .i64 (nn : Nat)) := by rw [Lib.cell_of_heap (b := w.heap.size + 1 + 1 + 1 + 1) i2]; rfl
    have HY := hide (show Below w.heap.size w (W'.putObj D (.deferred none)) from i6.trans (belowK_b (w := w) (Nat.le_refl _) W' D _ _ (by omega) hK rfl rfl))
    by_cases hn : nn = 0
    · subst hn
      rw [if_pos rfl] at HV
      gi_wp2
      refine ⟨by simp, .inl ⟨_, _, rfl, run_takeDeferred hK, ?_⟩⟩
      exact ⟨.int .i64 0, by simp [results, Try.results62, go_sem], by rw [HV.out], HY.out⟩
    · rw [if_neg hn] at HV
      have hq := Int.tdiv_eq_ediv_of_nonneg (b := (nn : Int)) hr1
      rw [← hq] at HV
      have hq0 : 0 ≤ sm.tdiv (nn : Int) := by rw [hq]; exact Int.ediv_nonneg hr1 (by omega)
      have hq1 : sm.tdiv (nn : Int) ≤ sm := by rw [hq]; exact Int.ediv_le_self _ hr1
      obtain ⟨q, hqq⟩ : ∃ q, sm.tdiv (nn : Int) = q := ⟨_, rfl⟩
      rw [hqq] at HV hq0 hq1
      have hbz : ((nn : Int) == 0) = false := by simp; omega
      have hwq : IntKind.i64.wrap q = q := IntWalk.i64_in _ (by omega)
      clear hq
      gi_wp2
      refine ⟨by simp, .inl ⟨_, _, rfl, run_takeDeferred hK, ?_⟩⟩
      exact ⟨.int .i64 q, by simp [results, Try.results62, go_sem], by rw [HV.out], HY.out⟩
  case stop => rintro D c pre W' _ _ h _; exact h.elim
end Go.Proofs.Ytolcndchfnifhac

namespace Go.Proofs.Ytolcndchfnifhac
open Go.RowKit
def colB (phase x y : Nat) : Bool × Bool := (decide (x % 2 ≠ phase % 2), decide (y % 2 ≠ phase / 2))
def colV (phase x y : Nat) : Nat := match colB phase x y with
  | (true, true) => 2
  | (true, false) => 1
  | (false, true) => 1
  | (false, false) => 0
set_option maxRecDepth 100000 in
set_option maxHeartbeats 800000 in
theorem colour_ok (p X Y : Nat) (hp : p ≤ 3) (w : World) :
    Calls Try.prog 68 #[.int .i64 p, .int .i64 X, .int .i64 Y] w fun e w' => e = .returned (.tuple #[.int .i64 (colV p X Y : Nat), .int .i64 0]) ∧ Below w.heap.size w w' := by
  have hpo : phaseOk (p : Int) = true := by simp [phaseOk]; omega
  obtain ⟨C, hC⟩ : ∃ C, colV p X Y = C := ⟨_, rfl⟩
  rw [hC]
  have hx : X % 2 = 0 ∨ X % 2 = 1 := by omega
  have hy : Y % 2 = 0 ∨ Y % 2 = 1 := by omega
  have hm : p % 2 = 0 ∨ p % 2 = 1 := by omega
  have hv : p / 2 = 0 ∨ p / 2 = 1 := by omega
  rcases hm with hm | hm <;> rcases hv with hv | hv <;> rcases hx with hx | hx <;> rcases hy with hy | hy
  all_goals
    rw [colV, colB, hx, hy, hm, hv] at hC
    simp at hC
    have HC := hide hC.symm
    have hxi : (X : Int) % 2 = ((X % 2 : Nat) : Int) := rfl
    have hyi : (Y : Int) % 2 = ((Y % 2 : Nat) : Int) := rfl
    have hmi : (p : Int) % 2 = ((p % 2 : Nat) : Int) := rfl
    have hvi : (p : Int) / 2 = ((p / 2 : Nat) : Int) := rfl
    rw [hx] at hxi
    rw [hy] at hyi
    rw [hm] at hmi
    rw [hv] at hvi
    clear hC hx hy hm hv
    go_enter Try.func68, Try.ntmps68
    go_wp2_with fail
    refine (phase_any _ _).mono ?_
    rintro e w1 ⟨rfl, hb1⟩
    rw [hpo]
    go_wp2
    go_ret2
    rw [HC.out]
    exact ⟨rfl, hb1⟩
end Go.Proofs.Ytolcndchfnifhac

namespace Go.Proofs.Ytolcndchfnifhac
open Go.RowKit Go.Shelf
attribute [local go_sem] Oper.semAt_some
set_option maxRecDepth 100000 in
set_option maxHeartbeats 1000000 in
theorem gridPlane_any (W H N : Nat) (hW : W ≤ 64) (hH : H ≤ 64) (hNHW : N = H * W) (tf : Nat) (caps : Array Value) (T : Nat → Int) (w : World) (eg : ∀ args w, (callFunc tf args).run Try.prog w = .ok (.enter tf args) w)
    (htell : ∀ (j : Nat) (V : World), j < N → Below w.heap.size w V → Calls Try.prog tf (#[.agg #[.int .i64 (j % W : Nat), .int .i64 (j / W : Nat)]] ++ caps) V fun e V' => e = .returned (.int .i64 (T j)) ∧ Below V.heap.size V V') :
    Calls Try.prog 53 #[.agg #[.int .i64 W, .int .i64 H], .func (.func tf) #[] caps] w fun e w' => ∃ r, e = .returned (.agg #[.int .i64 W, .int .i64 H, r]) ∧ IsInts w' r ((List.range N).map T) ∧ Below w.heap.size w w' ∧ Fresh w.heap.size r := by
  obtain ⟨i0, hi, hz0, hz1, hz2⟩ := info_parts Try.infoInt
  refine (callsIn_wide (n := 3)).1 ?_
  refine callsIn_of_wp_marks Try.func53 rfl trivial ?_ rfl
  simp only [Try.ntmps53, List.size_toArray, List.length_cons, List.length_nil, Nat.reduceAdd, Nat.reduceSub, Array.replicate_succ, Array.replicate_zero, List.push_toArray, List.append_toArray, List.nil_append, List.cons_append]
  gi_wp2_with fail
  refine wpIn_wide.2 ?_
  have hN : N = W * H := by rw [hNHW, Nat.mul_comm]
  have HNHW := hide hNHW
  clear hNHW
  have hNi : (W : Int) * (H : Int) = (N : Int) := by rw [hN]; simp
  have hNb : N ≤ 4096 := by rw [hN]; exact Nat.le_trans (Nat.mul_le_mul hW hH) (by decide)
  have hmk : ∀ V : World, (Instr.makeSlice 29 (.int .i64 0) (.int .i64 N)).run Try.prog V = .ok (.slice (some ⟨V.heap.size, 0, none⟩) 0 N) (V.alloc (.cells (madeCells (Value.int .i64 0).cells (N * 1)) 3)) := fun V => by
    have h := run_make (P := Try.prog) V 29 3 i0 (.int .i64 0) Try.underlying29 hi hz0 .i64 .i64 0 N (Int.le_refl _) (by omega) (by rw [hz2]; omega) (by omega)
    rw [hz1] at h
    simpa using h
  have hwN : IntKind.i64.wrap ((W : Int) * (H : Int)) = (N : Int) := by rw [hNi]; exact IntWalk.i64_in _ (by omega)
  have hwM : IntKind.i64.wrap (N : Int) = (N : Int) := IntWalk.i64_in _ (by omega)
  have HN := hide hN
  clear hN
  have hB3 := bel_trans (bel_trans (bel_alloc w (Obj.cells #[.int .i64 W, .int .i64 H] 52)) (bel_alloc _ (Obj.cells #[.func (.func tf) #[] caps] 117))) (bel_alloc _ (Obj.cells #[.int .i64 0, .int .i64 0, .slice none 0 0] 31))
  have g0 : (((w.alloc (Obj.cells #[.int .i64 W, .int .i64 H] 52)).alloc (Obj.cells #[.func (.func tf) #[] caps] 117)).alloc (Obj.cells #[.int .i64 0, .int .i64 0, .slice none 0 0] 31)).heap[w.heap.size]? = some (.cells #[.int .i64 W, .int .i64 H] 52 (0, 0)) := by
    rw [Below.heap_alloc _ _ _ (by simp; omega), Below.heap_alloc _ _ _ (by simp)]; exact heap_alloc_new w _
  have g1 : (((w.alloc (Obj.cells #[.int .i64 W, .int .i64 H] 52)).alloc (Obj.cells #[.func (.func tf) #[] caps] 117)).alloc (Obj.cells #[.int .i64 0, .int .i64 0, .slice none 0 0] 31)).heap[w.heap.size + 1]? = some (.cells #[.func (.func tf) #[] caps] 117 (0, 0)) := by
    rw [Below.heap_alloc _ _ _ (by simp)]
    have h := heap_alloc_new (w.alloc (Obj.cells #[.int .i64 W, .int .i64 H] 52)) (Obj.cells #[.func (.func tf) #[] caps] 117)
    rw [World.size_alloc] at h; exact h
  have g2 : (((w.alloc (Obj.cells #[.int .i64 W, .int .i64 H] 52)).alloc (Obj.cells #[.func (.func tf) #[] caps] 117)).alloc (Obj.cells #[.int .i64 0, .int .i64 0, .slice none 0 0] 31)).heap[w.heap.size + 2]? = some (.cells #[.int .i64 0, .int .i64 0, .slice none 0 0] 31 (0, 0)) := by
    have h := heap_alloc_new ((w.alloc (Obj.cells #[.int .i64 W, .int .i64 H] 52)).alloc (Obj.cells #[.func (.func tf) #[] caps] 117)) (Obj.cells #[.int .i64 0, .int .i64 0, .slice none 0 0] 31)
    rw [World.size_alloc, World.size_alloc] at h; exact h
  have hs3 : (((w.alloc (Obj.cells #[.int .i64 W, .int .i64 H] 52)).alloc (Obj.cells #[.func (.func tf) #[] caps] 117)).alloc (Obj.cells #[.int .i64 0, .int .i64 0, .slice none 0 0] 31)).heap.size = w.heap.size + 3 := by simp
  generalize ((w.alloc (Obj.cells #[.int .i64 W, .int .i64 H] 52)).alloc (Obj.cells #[.func (.func tf) #[] caps] 117)).alloc (Obj.cells #[.int .i64 0, .int .i64 0, .slice none 0 0] 31) = W3 at *
  have k0 : W3.cell? ⟨w.heap.size, 0, none⟩ = some (.int .i64 W) := by rw [Lib.cell_of_heap g0]; rfl
  have k1 : W3.cell? ⟨w.heap.size, 1, none⟩ = some (.int .i64 H) := by rw [Lib.cell_of_heap g0]; rfl
  have HS := hide (show ∀ w', Below W3.heap.size W3 w' → w'.cell? ⟨w.heap.size, 0, none⟩ = some (.int .i64 W) ∧ w'.cell? ⟨w.heap.size, 1, none⟩ = some (.int .i64 H) from fun w' h =>
    ⟨(h.cell (p := ⟨w.heap.size, 0, none⟩) (by show w.heap.size < _; omega)).trans k0, (h.cell (p := ⟨w.heap.size, 1, none⟩) (by show w.heap.size < _; omega)).trans k1⟩)
  have hdrew : Below W3.heap.size W3 W3.drew := (Below.refl _ _).drew
  have HMK := hide hmk
  go_region_held3 (fun w' => w'.cell? ⟨w.heap.size, 0, none⟩ = some (.int .i64 W) ∧ w'.cell? ⟨w.heap.size, 1, none⟩ = some (.int .i64 H))
    (first | (refine HS.out _ ?_; assumption) | (refine HS.out _ ?_; exact bel_trans (by assumption) (bel_alloc _ _)) | go_keep)
    (fail)
  all_goals first
    | (show Exit.then _ _ _ _ ((W3.alloc (Obj.cells (madeCells #[.int .i64 0] N) 3)).alloc (Obj.cells #[.int .i64 W, .int .i64 H, .slice (some ⟨w.heap.size + 3, 0, none⟩) 0 N] 31)).drew
       have hVb : Below W3.heap.size W3 ((W3.alloc (Obj.cells (madeCells #[.int .i64 0] N) 3)).alloc (Obj.cells #[.int .i64 W, .int .i64 H, .slice (some ⟨w.heap.size + 3, 0, none⟩) 0 N] 31)).drew := below_drew'' (bel_trans (bel_alloc _ _) (bel_alloc _ _))
       have vP : ((W3.alloc (Obj.cells (madeCells #[.int .i64 0] N) 3)).alloc (Obj.cells #[.int .i64 W, .int .i64 H, .slice (some ⟨w.heap.size + 3, 0, none⟩) 0 N] 31)).drew.heap[w.heap.size + 3 + 1]? = some (.cells #[.int .i64 W, .int .i64 H, .slice (some ⟨w.heap.size + 3, 0, none⟩) 0 N] 31 (0, 0)) := by
         have h := heap_alloc_new (W3.alloc (Obj.cells (madeCells #[.int .i64 0] N) 3)) (Obj.cells #[.int .i64 W, .int .i64 H, .slice (some ⟨w.heap.size + 3, 0, none⟩) 0 N] 31)
         rw [World.size_alloc, hs3] at h; exact h
       have vS : ((W3.alloc (Obj.cells (madeCells #[.int .i64 0] N) 3)).alloc (Obj.cells #[.int .i64 W, .int .i64 H, .slice (some ⟨w.heap.size + 3, 0, none⟩) 0 N] 31)).drew.ownsRow w.heap.size 3 1 (.slice (some ⟨w.heap.size + 3, 0, none⟩) 0 N) 0 [] := by
         have h := (World.ownsRow_made (base := w.heap.size) (e := 3) (size := 1) W3 (madeCells #[.int .i64 0] N) N (by omega) (by unfold maxLen; omega) (by simp [madeCells])).alloc (Obj.cells #[.int .i64 W, .int .i64 H, .slice (some ⟨w.heap.size + 3, 0, none⟩) 0 N] 31)
         rw [hs3] at h; exact h
       have hPB : w.heap.size + 2 < w.heap.size + 3 + 1 := by omega
       generalize ((W3.alloc (Obj.cells (madeCells #[.int .i64 0] N) 3)).alloc (Obj.cells #[.int .i64 W, .int .i64 H, .slice (some ⟨w.heap.size + 3, 0, none⟩) 0 N] 31)).drew = V at *
       generalize w.heap.size + 3 + 1 = PB at hPB vP ⊢
       generalize hSB : Value.slice (some ⟨w.heap.size + 3, 0, none⟩) 0 N = SV at *
       clear hSB)
    | (have hVb : Below W3.heap.size W3 ((W3.alloc (Obj.cells #[.int .i64 W, .int .i64 H, .slice (some ⟨w.heap.size + 3 + 1, 0, none⟩) 0 N] 31)).alloc (Obj.cells (madeCells #[.int .i64 0] N) 3)).drew := below_drew'' (bel_trans (bel_alloc _ _) (bel_alloc _ _))
       have vP : ((W3.alloc (Obj.cells #[.int .i64 W, .int .i64 H, .slice (some ⟨w.heap.size + 3 + 1, 0, none⟩) 0 N] 31)).alloc (Obj.cells (madeCells #[.int .i64 0] N) 3)).drew.heap[w.heap.size + 3]? = some (.cells #[.int .i64 W, .int .i64 H, .slice (some ⟨w.heap.size + 3 + 1, 0, none⟩) 0 N] 31 (0, 0)) := by
         have h := heap_alloc_new W3 (Obj.cells #[.int .i64 W, .int .i64 H, .slice (some ⟨w.heap.size + 3 + 1, 0, none⟩) 0 N] 31)
         rw [hs3] at h
         exact (Below.heap_alloc _ _ _ (by simp; omega)).trans h
       have vS : ((W3.alloc (Obj.cells #[.int .i64 W, .int .i64 H, .slice (some ⟨w.heap.size + 3 + 1, 0, none⟩) 0 N] 31)).alloc (Obj.cells (madeCells #[.int .i64 0] N) 3)).drew.ownsRow w.heap.size 3 1 (.slice (some ⟨w.heap.size + 3 + 1, 0, none⟩) 0 N) 0 [] := by
         have h := World.ownsRow_made (base := w.heap.size) (e := 3) (size := 1) (W3.alloc (Obj.cells #[.int .i64 W, .int .i64 H, .slice (some ⟨w.heap.size + 3 + 1, 0, none⟩) 0 N] 31)) (madeCells #[.int .i64 0] N) N (by simp; omega) (by unfold maxLen; omega) (by simp [madeCells])
         rw [World.size_alloc, hs3] at h; exact h
       have hPB : w.heap.size + 2 < w.heap.size + 3 := by omega
       generalize ((W3.alloc (Obj.cells #[.int .i64 W, .int .i64 H, .slice (some ⟨w.heap.size + 3 + 1, 0, none⟩) 0 N] 31)).alloc (Obj.cells (madeCells #[.int .i64 0] N) 3)).drew = V at *
       generalize hSB : Value.slice (some ⟨w.heap.size + 3 + 1, 0, none⟩) 0 N = SV at *
       clear hSB
       generalize w.heap.size + 3 = PB at hPB vP ⊢)
  all_goals
    have k0 := (hVb.cell (p := ⟨w.heap.size, 0, none⟩) (by show w.heap.size < _; omega)).trans k0
    have k1 := (hVb.cell (p := ⟨w.heap.size, 1, none⟩) (by show w.heap.size < _; omega)).trans k1
    gi_wp2_with fail
    refine ⟨trivial, ?_⟩
    refine (places_in Fence.wide _ trivial rfl _ _ _).mono ?_
    rintro e w' ⟨rfl, rfl⟩
    gi_wp2_with fail
    have hsV := hVb.size
    have hlP := (Array.getElem?_eq_some_iff.1 vP).1
    have n0 := heap_alloc_new V (Obj.cells #[.int .i64 W, .int .i64 H] 52)
    have hs0 : (V.alloc (Obj.cells #[.int .i64 W, .int .i64 H] 52)).heap.size = V.heap.size + 1 := by simp
    have hB0 : Below w.heap.size w (V.alloc (Obj.cells #[.int .i64 W, .int .i64 H] 52)) := bel_trans (bel_trans hB3 hVb) (bel_alloc _ _)
    have j0 : (V.alloc (Obj.cells #[.int .i64 W, .int .i64 H] 52)).heap[PB]? = some (.cells #[.int .i64 W, .int .i64 H, SV] 31 (0, 0)) := (Below.heap_alloc _ _ _ hlP).trans vP
    have j1 := vS.alloc (Obj.cells #[.int .i64 W, .int .i64 H] 52)
    have j2 : (V.alloc (Obj.cells #[.int .i64 W, .int .i64 H] 52)).heap[w.heap.size + 1]? = some (.cells #[.func (.func tf) #[] caps] 117 (0, 0)) := by
      rw [Below.heap_alloc _ _ _ (by omega), hVb.block _ (by omega)]; exact g1
    have j3 : (V.alloc (Obj.cells #[.int .i64 W, .int .i64 H] 52)).heap[w.heap.size + 2]? = some (.cells #[.int .i64 0, .int .i64 0, .slice none 0 0] 31 (0, 0)) := by
      rw [Below.heap_alloc _ _ _ (by omega), hVb.block _ (by omega)]; exact g2
    generalize V.alloc (Obj.cells #[.int .i64 W, .int .i64 H] 52) = W0 at *
    refine wpIn_rangeFunc_ownH (α := Fin N) rfl (show 1 ≤ 3 by omega) (gf := 57) (lb := #[.pointer (some ⟨V.heap.size, 0, none⟩)]) rfl trivial (enters_of Try.func57 (by kernel_rfl) rfl)
      (places_stops Fence.wide (3 - 1) trivial rfl (by omega) V.heap.size W H N hW hH HNHW.out W0 (by omega) (by rw [Lib.cell_of_heap n0]; rfl) (by rw [Lib.cell_of_heap n0]; rfl)) (fun {A B C} h k => h.trans' k) (fun X l o o' hl _ _ _ => keepB_put (by omega)) (Below.refl _ _) (fun _ => rfl)
      (fun pre W' => (∃ v, W'.heap[PB]? = some (.cells #[.int .i64 W, .int .i64 H, v] 31 (0, 0)) ∧ W'.ownsRow w.heap.size 3 1 v pre.length ((pre.map fun (j : Fin N) => T j.1).map (Value.int .i64))) ∧ W'.heap[w.heap.size + 1]? = some (.cells #[.func (.func tf) #[] caps] 117 (0, 0)) ∧ W'.heap[w.heap.size + 2]? = some (.cells #[.int .i64 0, .int .i64 0, .slice none 0 0] 31 (0, 0)) ∧ W'.heap[V.heap.size]? = some (.cells #[.int .i64 W, .int .i64 H] 52 (0, 0)) ∧ Below w.heap.size w W')
      (fun _ _ _ => False)
      (fun s X Y row ⟨⟨v, a1, a2⟩, a3, a4, a6, a5⟩ hg hr => ⟨⟨v, own_keep hg hr a1, own_keepRow hg hr a2⟩, own_keep hg hr a3, own_keep hg hr a4, own_keep hg hr a6, ownFrom_below (β := Unit) (Nat.le_refl _) (by omega) () X Y row a5 hg hr⟩)
      (fun _ _ _ _ _ hs _ _ => hs)
      ⟨⟨_, j0, j1⟩, j2, j3, n0, hB0⟩
      (fun x a' W' => ∃ Bx, W0.heap.size ≤ Bx ∧ W'.heap[Bx]? = some (.cells #[.int .i64 (x.1 % W : Nat), .int .i64 (x.1 / W : Nat)] 77 (0, 0)) ∧ a' = { tmps := #[.agg #[.int .i64 W, .int .i64 H], .func (.func tf) #[] caps, .pointer (some ⟨w.heap.size, 0, none⟩), .pointer (some ⟨w.heap.size + 1, 0, none⟩), .pointer (some ⟨w.heap.size + 1 + 1, 0, none⟩), .pointer (some ⟨PB, 0, none⟩), .pointer (some ⟨Bx, 0, none⟩), .pointer (some ⟨w.heap.size, 0, none⟩), .int .i64 W, .pointer (some ⟨w.heap.size, 1, none⟩), .int .i64 H, .pointer (some ⟨w.heap.size, 0, none⟩), .int .i64 W, .pointer (some ⟨w.heap.size, 1, none⟩), .int .i64 H, .int .i64 N, SV, .agg #[.int .i64 W, .int .i64 H, SV], .agg #[.int .i64 W, .int .i64 H], .func (.func 57) #[] #[.pointer (some ⟨V.heap.size, 0, none⟩)], .agg #[.int .i64 (x.1 % W : Nat), .int .i64 (x.1 / W : Nat)], undef, undef, undef, undef, undef, undef, undef, undef, undef], defers := [] })
      (fun x a' _ X Y row ⟨Bx, b1, b2, b3⟩ hg hr => ⟨Bx, b1, own_keep hg hr b2, b3⟩)
      ?assign ?body ?done ?stop
    case assign =>
      rintro l pre x W' K ⟨⟨v, i1, i2⟩, i3, i4, i6, i5⟩ hK
      have hl1 := (Array.getElem?_eq_some_iff.1 i1).1
      have hl3 := (Array.getElem?_eq_some_iff.1 i3).1
      have hl4 := (Array.getElem?_eq_some_iff.1 i4).1
      have hl6 := (Array.getElem?_eq_some_iff.1 i6).1
      gi_wp2
      exact hK _ _ ((KeepsOthers.alloc _ _).from _) (Below.heap_alloc _ _ _ hl6) ⟨⟨v, (Below.heap_alloc _ _ _ hl1).trans i1, i2.alloc _⟩, (Below.heap_alloc _ _ _ hl3).trans i3, (Below.heap_alloc _ _ _ hl4).trans i4, (Below.heap_alloc _ _ _ hl6).trans i6, i5.alloc i5.size _⟩ ⟨W'.heap.size, by omega, heap_alloc_new W' _, rfl⟩
    case body =>
      rintro l pre x a' W' hl ⟨r, hr⟩ ⟨⟨sv, i1, i2⟩, i3, i4, i6, i5⟩ ⟨Bx, hBx, bX, rfl⟩ hlt
      obtain ⟨so, scap, rfl⟩ := lenOf_any i2
      have p2 : W'.cell? ⟨PB, 2, none⟩ = some (.slice so pre.length scap) := by rw [Lib.cell_of_heap i1]; rfl
      have t0 : W'.cell? ⟨w.heap.size + 1, 0, none⟩ = some (.func (.func tf) #[] caps) := by rw [Lib.cell_of_heap i3]; rfl
      have x0 : W'.cell? ⟨Bx, 0, none⟩ = some (.int .i64 (x.1 % W : Nat)) := by rw [Lib.cell_of_heap bX]; rfl
      have x1 : W'.cell? ⟨Bx, 1, none⟩ = some (.int .i64 (x.1 / W : Nat)) := by rw [Lib.cell_of_heap bX]; rfl
      have hmx : Try.prog.follows .mixedOrders = true := by kernel_rfl
      have hlP := (Array.getElem?_eq_some_iff.1 i1).1
      have hlT := (Array.getElem?_eq_some_iff.1 i3).1
      have hlX := (Array.getElem?_eq_some_iff.1 bX).1
      have hbW : w.heap.size ≤ W'.heap.size := by omega
      have HL1 := hide (show pre.length + 1 ≤ maxLen by unfold maxLen; omega)
      have HL2 := hide (show (pre.length + 1) * 8 ≤ 140737488355328 by omega)
      have HS := hide (show ∀ v, Below W'.heap.size W' v → v.cell? ⟨w.heap.size + 1, 0, none⟩ = some (.func (.func tf) #[] caps) ∧ v.cell? ⟨Bx, 0, none⟩ = some (.int .i64 (x.1 % W : Nat)) ∧ v.cell? ⟨Bx, 1, none⟩ = some (.int .i64 (x.1 / W : Nat)) from fun v h =>
        ⟨(h.cell (p := ⟨w.heap.size + 1, 0, none⟩) hlT).trans t0, (h.cell (p := ⟨Bx, 0, none⟩) hlX).trans x0, (h.cell (p := ⟨Bx, 1, none⟩) hlX).trans x1⟩)
      have HP2 := hide (show ∀ v, Below W'.heap.size W' v → v.cell? ⟨PB, 2, none⟩ = some (.slice so pre.length scap) from fun v h => (h.cell (p := ⟨PB, 2, none⟩) hlP).trans p2)
      have HTL := hide (fun (V1 : World) (g cap : Nat) (w1 : World) (h1 : Below W'.heap.size W' V1) (h2 : (V1.alloc (Obj.cells #[.int .i64 (T x.1)] 3)).grownBy w1 (Value.slice so pre.length scap).ownBlock) (h3 : w1.ownsRow (w.heap.size) 3 1 (.slice (some ⟨g, 0, none⟩) (pre.length + 1) cap) (pre.length + 1) ((pre.map fun (j : Fin N) => T j.1).map (Value.int .i64) ++ [.int .i64 (T x.1)])) => grid_tail (es := #[.int .i64 (T x.1)]) (by decide) (by decide) (by decide) (by decide) (by decide) (by decide) (by decide) (B0 := W0.heap.size) (PB := PB) i1 i2 i3 i4 i6 bX i5 (by omega) (by omega) (by omega) h1 h2 h3)
      have hWd : Below W'.heap.size W' W'.drew := (Below.refl _ _).drew
      have HT := hide (htell x.1 W'.drew x.2 i5.drew)
      gi_wp2_with fail
      have hSd := HS.out _ hWd
      have p2 := HP2.out _ hWd
      refine wpIn_region_held (S := fun v : World => v.cell? ⟨w.heap.size + 1, 0, none⟩ = some (.func (.func tf) #[] caps) ∧ v.cell? ⟨Bx, 0, none⟩ = some (.int .i64 (x.1 % W : Nat)) ∧ v.cell? ⟨Bx, 1, none⟩ = some (.int .i64 (x.1 / W : Nat))) hmx ?nd ?no ?_
      case nd => exact noDefer_of (by kernel_rfl)
      case no => rintro ⟨_, _, h⟩; exact h
      show wpAnyH _ _ _ _ _ 9 _ _ W'.drew
      refine wpAnyH_take (i := 0) (oi := _) (v := .pointer (some ⟨PB, 2, none⟩)) rfl (by kernel_rfl) (by kernel_rfl) (by kernel_rfl) (fun _ _ _ h => h) (Or.inl ⟨by rfl, fun v hSv => by obtain ⟨s2, s3, s4⟩ := hSv; go_simp⟩) hSd ?_
      simp only [Act.put]
      refine wpAnyH_take (i := 2) (oi := _) (v := .func (.func tf) #[] caps) rfl (by kernel_rfl) (by kernel_rfl) (by kernel_rfl) (fun _ _ _ h => h) (Or.inl ⟨by rfl, fun v hSv => by obtain ⟨s2, s3, s4⟩ := hSv; go_simp⟩) hSd ?_
      simp only [Act.put]
      refine wpAnyH_take (i := 3) (oi := _) (v := .agg #[.int .i64 (x.1 % W : Nat), .int .i64 (x.1 / W : Nat)]) rfl (by kernel_rfl) (by kernel_rfl) (by kernel_rfl) (fun _ _ _ h => h) (Or.inl ⟨by rfl, fun v hSv => by obtain ⟨s2, s3, s4⟩ := hSv; go_simp⟩) hSd ?_
      simp only [Act.put]
      refine wpAnyH_ready (rs := [1, 4]) (by kernel_rfl) (by simp) ?_
      refine AllReadyH.cons (o := _) rfl (fun K hK => ?wA) (AllReadyH.cons (o := _) rfl (fun K hK => ?wB) AllReadyH.nil)
      case wA =>
        rw [if_pos (by rfl)]
        go_simp
        refine hK.out _ _ hSd (fun _ => ?_)
        clear hK
        refine wpAnyH_ready (rs := [4]) (by kernel_rfl) (by simp) ?_
        refine AllReadyH.cons (o := _) rfl (fun K hK => ?_) AllReadyH.nil
        rw [if_pos (by rfl)]
        go_simp
        refine HT.out.mono ?_
        rintro e V1 ⟨rfl, hb1⟩
        have hV1 : Below W'.heap.size W' V1 := hWd.trans hb1
        have hSd := HS.out _ hV1
        have p2 := HP2.out _ hV1
        refine hK.out _ _ hSd (fun _ => ?_)
        clear hK
        refine wpAnyH_ready (rs := [5]) (by kernel_rfl) (by simp) ?_
        refine AllReadyH.cons (o := _) rfl (fun K hK => ?_) AllReadyH.nil
        rw [if_pos (by rfl)]
        go_simp
        have hV2 : Below W'.heap.size W' (V1.alloc (Obj.cells #[.int .i64 (T x.1)] 3)) := hV1.trans ((bel_alloc _ _).mono hV1.size)
        have hSd := HS.out _ hV2
        have p2 := HP2.out _ hV2
        refine hK.out _ _ hSd (fun _ => ?_)
        clear hK
        have ho2 := ((ownsRow_below i2 hV1).alloc (Obj.cells #[.int .i64 (T x.1)] 3))
        refine wpAnyH_ready (rs := [6]) (by kernel_rfl) (by simp) ?_
        refine AllReadyH.cons (o := _) rfl (fun K hK => ?_) AllReadyH.nil
        refine step_append_lies _ rfl _ _ 29 rfl (w.heap.size) 3 i0 (.int .i64 0) 1 8 Try.underlying29 hi hz0 hz1 hz2 rfl Nat.one_pos (.slice so pre.length scap) pre.length ((pre.map fun (j : Fin N) => T j.1).map (Value.int .i64)) rfl ho2 ⟨V1.heap.size, 0, none⟩ 1 1 [.int .i64 (T x.1)] rfl rfl (fun j u hj => by obtain ⟨rfl, rfl⟩ := one_get hj; simp [Addr.add]) (fun u hu => by simp at hu; subst hu; rfl) Nat.one_pos HL1.out HL2.out (Nat.le_trans hbW hV2.size) _ rfl ?_
        intro g cap w1 hown hgrow hat hltg
        obtain ⟨hSd, p2, p2f, HFIN⟩ := HTL.out V1 g cap w1 hV1 hgrow hown
        refine hK.out _ _ hSd (fun _ => ?_)
        clear hK
        refine wpAnyH_ready (rs := [7]) (by kernel_rfl) (by simp) ?_
        refine AllReadyH.cons (o := _) rfl (fun K hK => ?_) AllReadyH.nil
        rw [if_pos (by rfl)]
        go_simp
        refine hK.out _ _ hSd (fun _ => ?_)
        clear hK
        refine wpAnyH_ready (rs := [8]) (by kernel_rfl) (by simp) ?_
        refine AllReadyH.cons (o := _) rfl (fun K hK => ?_) AllReadyH.nil
        rw [if_pos (by rfl)]
        go_simp
        refine hK.out _ _ HFIN.1 (fun _ => ?_)
        clear hK
        refine wpAnyH_done (by kernel_rfl) ?_ _
        obtain ⟨_, f1, f2, ⟨v, f3, f4⟩, f5, f6, f7, f8⟩ := HFIN
        exact ⟨f1, f2, ⟨v, f3, by rw [List.length_append, List.map_append, List.map_append]; exact f4⟩, f5, f6, f7, f8⟩
      case wB =>
        rw [if_pos (by rfl)]
        go_simp
        refine HT.out.mono ?_
        rintro e V1 ⟨rfl, hb1⟩
        have hV1 : Below W'.heap.size W' V1 := hWd.trans hb1
        have hSd := HS.out _ hV1
        have p2 := HP2.out _ hV1
        refine hK.out _ _ hSd (fun _ => ?_)
        clear hK
        refine wpAnyH_ready (rs := [1, 5]) (by kernel_rfl) (by simp) ?_
        refine AllReadyH.cons (o := _) rfl (fun K hK => ?wC) (AllReadyH.cons (o := _) rfl (fun K hK => ?wD) AllReadyH.nil)
        case wC =>
          rw [if_pos (by rfl)]
          go_simp
          refine hK.out _ _ hSd (fun _ => ?_)
          clear hK
          refine wpAnyH_ready (rs := [5]) (by kernel_rfl) (by simp) ?_
          refine AllReadyH.cons (o := _) rfl (fun K hK => ?_) AllReadyH.nil
          rw [if_pos (by rfl)]
          go_simp
          have hV2 : Below W'.heap.size W' (V1.alloc (Obj.cells #[.int .i64 (T x.1)] 3)) := hV1.trans ((bel_alloc _ _).mono hV1.size)
          have hSd := HS.out _ hV2
          have p2 := HP2.out _ hV2
          refine hK.out _ _ hSd (fun _ => ?_)
          clear hK
          have ho2 := ((ownsRow_below i2 hV1).alloc (Obj.cells #[.int .i64 (T x.1)] 3))
          refine wpAnyH_ready (rs := [6]) (by kernel_rfl) (by simp) ?_
          refine AllReadyH.cons (o := _) rfl (fun K hK => ?_) AllReadyH.nil
          refine step_append_lies _ rfl _ _ 29 rfl (w.heap.size) 3 i0 (.int .i64 0) 1 8 Try.underlying29 hi hz0 hz1 hz2 rfl Nat.one_pos (.slice so pre.length scap) pre.length ((pre.map fun (j : Fin N) => T j.1).map (Value.int .i64)) rfl ho2 ⟨V1.heap.size, 0, none⟩ 1 1 [.int .i64 (T x.1)] rfl rfl (fun j u hj => by obtain ⟨rfl, rfl⟩ := one_get hj; simp [Addr.add]) (fun u hu => by simp at hu; subst hu; rfl) Nat.one_pos HL1.out HL2.out (Nat.le_trans hbW hV2.size) _ rfl ?_
          intro g cap w1 hown hgrow hat hltg
          obtain ⟨hSd, p2, p2f, HFIN⟩ := HTL.out V1 g cap w1 hV1 hgrow hown
          refine hK.out _ _ hSd (fun _ => ?_)
          clear hK
          refine wpAnyH_ready (rs := [7]) (by kernel_rfl) (by simp) ?_
          refine AllReadyH.cons (o := _) rfl (fun K hK => ?_) AllReadyH.nil
          rw [if_pos (by rfl)]
          go_simp
          refine hK.out _ _ hSd (fun _ => ?_)
          clear hK
          refine wpAnyH_ready (rs := [8]) (by kernel_rfl) (by simp) ?_
          refine AllReadyH.cons (o := _) rfl (fun K hK => ?_) AllReadyH.nil
          rw [if_pos (by rfl)]
          go_simp
          refine hK.out _ _ HFIN.1 (fun _ => ?_)
          clear hK
          refine wpAnyH_done (by kernel_rfl) ?_ _
          obtain ⟨_, f1, f2, ⟨v, f3, f4⟩, f5, f6, f7, f8⟩ := HFIN
          exact ⟨f1, f2, ⟨v, f3, by rw [List.length_append, List.map_append, List.map_append]; exact f4⟩, f5, f6, f7, f8⟩
        case wD =>
          rw [if_pos (by rfl)]
          go_simp
          have hV2 : Below W'.heap.size W' (V1.alloc (Obj.cells #[.int .i64 (T x.1)] 3)) := hV1.trans ((bel_alloc _ _).mono hV1.size)
          have hSd := HS.out _ hV2
          have p2 := HP2.out _ hV2
          refine hK.out _ _ hSd (fun _ => ?_)
          clear hK
          refine wpAnyH_ready (rs := [1]) (by kernel_rfl) (by simp) ?_
          refine AllReadyH.cons (o := _) rfl (fun K hK => ?_) AllReadyH.nil
          rw [if_pos (by rfl)]
          go_simp
          refine hK.out _ _ hSd (fun _ => ?_)
          clear hK
          have ho2 := ((ownsRow_below i2 hV1).alloc (Obj.cells #[.int .i64 (T x.1)] 3))
          refine wpAnyH_ready (rs := [6]) (by kernel_rfl) (by simp) ?_
          refine AllReadyH.cons (o := _) rfl (fun K hK => ?_) AllReadyH.nil
          refine step_append_lies _ rfl _ _ 29 rfl (w.heap.size) 3 i0 (.int .i64 0) 1 8 Try.underlying29 hi hz0 hz1 hz2 rfl Nat.one_pos (.slice so pre.length scap) pre.length ((pre.map fun (j : Fin N) => T j.1).map (Value.int .i64)) rfl ho2 ⟨V1.heap.size, 0, none⟩ 1 1 [.int .i64 (T x.1)] rfl rfl (fun j u hj => by obtain ⟨rfl, rfl⟩ := one_get hj; simp [Addr.add]) (fun u hu => by simp at hu; subst hu; rfl) Nat.one_pos HL1.out HL2.out (Nat.le_trans hbW hV2.size) _ rfl ?_
          intro g cap w1 hown hgrow hat hltg
          obtain ⟨hSd, p2, p2f, HFIN⟩ := HTL.out V1 g cap w1 hV1 hgrow hown
          refine hK.out _ _ hSd (fun _ => ?_)
          clear hK
          refine wpAnyH_ready (rs := [7]) (by kernel_rfl) (by simp) ?_
          refine AllReadyH.cons (o := _) rfl (fun K hK => ?_) AllReadyH.nil
          rw [if_pos (by rfl)]
          go_simp
          refine hK.out _ _ hSd (fun _ => ?_)
          clear hK
          refine wpAnyH_ready (rs := [8]) (by kernel_rfl) (by simp) ?_
          refine AllReadyH.cons (o := _) rfl (fun K hK => ?_) AllReadyH.nil
          rw [if_pos (by rfl)]
          go_simp
          refine hK.out _ _ HFIN.1 (fun _ => ?_)
          clear hK
          refine wpAnyH_done (by kernel_rfl) ?_ _
          obtain ⟨_, f1, f2, ⟨v, f3, f4⟩, f5, f6, f7, f8⟩ := HFIN
          exact ⟨f1, f2, ⟨v, f3, by rw [List.length_append, List.map_append, List.map_append]; exact f4⟩, f5, f6, f7, f8⟩
    case done =>
      rintro D ys W' hD rfl ⟨⟨v, i1, i2⟩, i3, i4, i6, i5⟩ hK
      have p0 : W'.cell? ⟨PB, 0, none⟩ = some (.int .i64 W) := by rw [Lib.cell_of_heap i1]; rfl
      have p1 : W'.cell? ⟨PB, 1, none⟩ = some (.int .i64 H) := by rw [Lib.cell_of_heap i1]; rfl
      have p2 : W'.cell? ⟨PB, 2, none⟩ = some v := by rw [Lib.cell_of_heap i1]; rfl
      have r0 : W'.cell? ⟨w.heap.size + 1 + 1, 0, none⟩ = some (.int .i64 0) := by rw [Lib.cell_of_heap i4]; rfl
      have r1 : W'.cell? ⟨w.heap.size + 1 + 1, 1, none⟩ = some (.int .i64 0) := by rw [Lib.cell_of_heap i4]; rfl
      have r2 : W'.cell? ⟨w.heap.size + 1 + 1, 2, none⟩ = some (.slice none 0 0) := by rw [Lib.cell_of_heap i4]; rfl
      have f0 : W'.frozen? ⟨w.heap.size + 1 + 1, 0, none⟩ = false := Lib.frozen_of_heap i4 0
      have f1 : W'.frozen? ⟨w.heap.size + 1 + 1, 1, none⟩ = false := Lib.frozen_of_heap i4 1
      have f2 : W'.frozen? ⟨w.heap.size + 1 + 1, 2, none⟩ = false := Lib.frozen_of_heap i4 2
      obtain ⟨ao, cap, rfl⟩ := lenOf_any i2
      gi_wp2
      obtain ⟨x1, x2, x3, x4⟩ := box3_set i4 (.int .i64 W) (.int .i64 H) (.slice ao (List.finRange N).length cap) w (by omega) i5
      have i2' := own_other x2 (own_ne i2 i4 (by decide)) i2
      have hDr : D ≠ w.heap.size + 2 := fun e => by rw [e, i4] at hK; cases hK
      replace hK := (x2 D hDr).trans hK
      simp only [List.length_finRange] at x1 x2 x3 x4 i2' hK
      generalize ((W'.setCell ⟨w.heap.size + 1 + 1, 0, none⟩ (.int .i64 W)).setCell ⟨w.heap.size + 1 + 1, 1, none⟩ (.int .i64 H)).setCell ⟨w.heap.size + 1 + 1, 2, none⟩ (.slice ao N cap) = X at *
      refine ⟨by simp, .inl ⟨_, _, rfl, run_takeDeferred hK, ?_⟩⟩
      have y1 := (World.putObj_heap_other (w := X) (o := .deferred none) (Ne.symm hDr)).trans x1
      have y2 := ownsRow_putObj i2' (.deferred none) hK rfl
      have y3 : Below w.heap.size w (X.putObj D (.deferred none)) := x4.trans (belowK_b (w := w) (Nat.le_refl _) X D _ _ (by omega) hK rfl rfl)
      have c0 : (X.putObj D (.deferred none)).cell? ⟨w.heap.size + 1 + 1, 0, none⟩ = some (.int .i64 W) := by rw [Lib.cell_of_heap y1]; rfl
      have c1 : (X.putObj D (.deferred none)).cell? ⟨w.heap.size + 1 + 1, 1, none⟩ = some (.int .i64 H) := by rw [Lib.cell_of_heap y1]; rfl
      have c2 : (X.putObj D (.deferred none)).cell? ⟨w.heap.size + 1 + 1, 2, none⟩ = some (.slice ao N cap) := by rw [Lib.cell_of_heap y1]; rfl
      generalize X.putObj D (.deferred none) = Z at *
      refine ⟨.agg #[.int .i64 W, .int .i64 H, .slice ao N cap], by simp [results, Try.results53, go_sem, c0, c1, c2], .slice ao N cap, rfl, ?_, y3, Fresh.own (by simpa using y2)⟩
      rw [← map_finRange N T]
      exact IsInts.own (base := w.heap.size) (by simpa using y2) (by simp; omega)
    case stop => rintro D c pre W' _ _ h _; exact h.elim
end Go.Proofs.Ytolcndchfnifhac
