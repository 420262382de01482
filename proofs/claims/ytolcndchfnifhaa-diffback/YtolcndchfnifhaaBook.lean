/- A book of words: what its map holds; wordbook.New. -/
import Derived.Test.YtolcndchfnifhaaWords
import Derived.Test.YtolcndchfnifhaaFrontMath
import Derived.Test.YtolcndchfnifhaaShelf
import Derived.Maps.OwnSet
import Derived.Maps.OwnOps
import Derived.Carry
namespace Go.Proofs.Ytolcndchfnifhaa
open Go.RowKit

/-- how an entry's value reads. -/
def entElem : Value → Option (DataW Unit × List MemPlace)
  | .agg cs => match cs.toList with
    | [.int .i64 a, .bool b] => some (.agg [.lit (.int .i64 a), .lit (.bool b)], [])
    | _ => none
  | _ => none
def entD (p : Int × Bool) : DataW Unit := .agg [.lit (.int .i64 p.1), .lit (.bool p.2)]
def entV (p : Int × Bool) : Value := .agg #[.int .i64 p.1, .bool p.2]
theorem entElem_mk (p : Int × Bool) : entElem (entV p) = some (entD p, []) := rfl
theorem entElem_inv {v : Value} {p : Int × Bool} {ps : List MemPlace} (h : entElem v = some (entD p, ps)) : v = entV p := by
  unfold entElem at h
  split at h
  · rename_i cs
    split at h
    · rename_i a b hcs
      simp only [Option.some.injEq, Prod.mk.injEq, entD, DataW.agg.injEq, List.cons.injEq, DataW.lit.injEq, Lit.int.injEq, Lit.bool.injEq] at h
      obtain ⟨⟨⟨_, h1⟩, h2, _⟩, _⟩ := h
      have : cs = #[.int .i64 a, .bool b] := Array.ext' hcs
      rw [this, entV, ← h1, ← h2]
    · cases h
  · cases h

theorem isKey (l : List UInt8) : WideAt.IsKeyLit (.string l) := by simp [WideAt.IsKeyLit]
theorem strLaw : Maps.Keyed Try.prog 9 := Maps.string_keyed Try.underlying9
theorem strKey (s : ByteArray) (h : s.size ≤ maxLen) : keyOf Try.prog 9 (.string s) = some (.string s.data.toList) := Go.WideMaps.keyOf_string_mk Try.underlying9 h

/-- the map of the block bm holds what f says, in at most n stores. -/
def BookMap (w : World) (bm n : Nat) (f : List UInt8 → Option (Int × Bool)) : Prop :=
  ∃ D : DataW Unit, w.ownsMap Try.prog 9 entElem bm n D ∧ ∀ key, Maps.has D (.string key) = (f key).isSome ∧ ∀ p, f key = some p → ∀ z, D.atKey (.string key) z = entD p

theorem BookMap.drew {w : World} {bm n : Nat} {f : List UInt8 → Option (Int × Bool)} (h : BookMap w bm n f) : BookMap w.drew bm n f := h
theorem BookMap.kept {w w' : World} {bm n : Nat} {f : List UInt8 → Option (Int × Bool)} {row : Option Nat} (h : BookMap w bm n f) (hg : w.grownBy w' row) (hne : some bm ≠ row) : BookMap w' bm n f := by
  obtain ⟨D, hD, hf⟩ := h
  exact ⟨D, hD.kept hg hne, hf⟩
theorem BookMap.below {w w' : World} {bm n B : Nat} {f : List UInt8 → Option (Int × Bool)} (h : BookMap w bm n f) (hb : Below B w w') (hB : w.heap.size ≤ B) : BookMap w' bm n f := by
  obtain ⟨D, ⟨es, clock, hh, r⟩, hf⟩ := h
  have hlt : bm < w.heap.size := (Array.getElem?_eq_some_iff.1 hh).1
  exact ⟨D, ⟨es, clock, by rw [hb.block bm (Nat.lt_of_lt_of_le hlt hB)]; exact hh, r⟩, hf⟩
theorem BookMap.mono {w : World} {bm n n' : Nat} {f : List UInt8 → Option (Int × Bool)} (h : BookMap w bm n f) (hn : n ≤ n') : BookMap w bm n' f := by
  obtain ⟨D, hD, hf⟩ := h
  exact ⟨D, hD.mono hn, hf⟩
theorem BookMap.lt {w : World} {bm n : Nat} {f : List UInt8 → Option (Int × Bool)} (h : BookMap w bm n f) : bm < w.heap.size := by
  obtain ⟨D, hD, _⟩ := h
  exact hD.lt

theorem has_empty (k : Lit) : Maps.has (.map [] : DataW Unit) k = false := rfl
theorem BookMap.made (w : World) : BookMap (w.alloc (.map #[] 0)) w.heap.size 0 (fun _ => none) :=
  ⟨.map [], World.ownsMap_made w _ _ _, fun key => ⟨rfl, fun p h => by cases h⟩⟩

/-- one store. -/
theorem BookMap.put {w : World} {bm n : Nat} {f : List UInt8 → Option (Int × Bool)} (h : BookMap w bm n f) (hn : n < 1000) (s : ByteArray) (hs : s.size ≤ maxLen) (p : Int × Bool) :
    ∃ w', (Instr.mapUpdate 96 (.map (some bm)) (.string s) (entV p)).run Try.prog w = .ok () w' ∧ BookMap w' bm (n + 1) (putF f s.data.toList p) ∧ w.grownBy w' (some bm) := by
  obtain ⟨D, hD, hf⟩ := h
  obtain ⟨w', hrun, hown, hgr⟩ := hD.update strLaw Try.underlying96 (by unfold maxLen; omega) (strKey s hs) (entElem_mk p)
  refine ⟨w', hrun, ⟨_, hown, fun key => ?_⟩, hgr⟩
  have hm := hD.isMap
  by_cases e : key = s.data.toList
  · subst e
    refine ⟨?_, ?_⟩
    · rw [Maps.has_put_same hm (isKey _)]; simp [putF]
    · intro q hq z
      simp only [putF, if_true, Option.some.injEq] at hq
      subst hq
      exact Maps.atKey_put_same hm (isKey _) _ z
  · have hne : (Lit.string key) ≠ (Lit.string s.data.toList) := by intro h; cases h; exact e rfl
    refine ⟨?_, ?_⟩
    · rw [Maps.has_put_other hne]; simp only [putF, if_neg e]; exact (hf key).1
    · intro q hq z
      simp only [putF, if_neg e] at hq
      rw [Maps.atKey_put_other hne]
      exact (hf key).2 q hq z

theorem zeroEnt (w : World) : (zeroValue 133).run Try.prog w = .ok (entV (0, false)) w := by kernel_rfl

set_option maxRecDepth 100000 in
/-- one look. -/
theorem BookMap.look {w : World} {bm n : Nat} {f : List UInt8 → Option (Int × Bool)} (h : BookMap w bm n f) (s : ByteArray) (hs : s.size ≤ maxLen) :
    (Instr.lookup 96 (.map (some bm)) (.string s) true).run Try.prog w = .ok (.tuple #[entV ((f s.data.toList).getD (0, false)), .bool (f s.data.toList).isSome]) w := by
  obtain ⟨D, hD, hf⟩ := h
  obtain ⟨v, ps, hrun, hv⟩ := hD.look_ok strLaw Try.underlying96 (zeroEnt w) (entElem_mk (0, false)) (strKey s hs)
  have hvv : v = entV ((f s.data.toList).getD (0, false)) := by
    cases hq : f s.data.toList with
    | none =>
      have h1 := (hf s.data.toList).1
      rw [hq] at h1
      rw [Maps.atKey_of_not_has h1] at hv
      rw [entElem_inv hv]; rfl
    | some p =>
      rw [(hf s.data.toList).2 p hq] at hv
      rw [entElem_inv hv]; rfl
  rw [hrun, (hf s.data.toList).1, hvv]

end Go.Proofs.Ytolcndchfnifhaa
