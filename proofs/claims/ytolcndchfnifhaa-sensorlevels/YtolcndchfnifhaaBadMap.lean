/- The map of bad spots: how often each one stands in the list. -/
import Derived.Test.YtolcndchfnifhaaPts
import Derived.Maps.OwnSet
import Derived.Maps.OwnOps
import Derived.WideKeyEntry
import Derived.DeepKeys4
import Derived.Carry
namespace Go.Proofs.Ytolcndchfnifhaa
open Go.RowKit

def spotV (p : Pt) : Value := .agg #[.int .i64 p.1, .int .i64 p.2]
def spotK (p : Pt) : Lit := .string (keyBytes [.int .i64 p.1, .int .i64 p.2])
def ptWf (p : Pt) : Prop := (Lit.int .i64 p.1).wf = true ∧ (Lit.int .i64 p.2).wf = true

theorem laidB : laidOutB Try.prog = true := by kernel_rfl
theorem spotLaw : WideMaps.KeyLaw Try.prog 117 := deep_law_laid laidB (m := 2) (by omega) (of_decide_eq_true (by kernel_rfl)) (by kernel_rfl) (by kernel_rfl)
theorem spotKeyed : Maps.Keyed Try.prog 117 := Maps.Keyed.of_law spotLaw
theorem typesPos : ∃ m, Try.prog.types.size = m + 2 := ⟨_, (Nat.sub_add_cancel (of_decide_eq_true (by kernel_rfl) : 2 ≤ Try.prog.types.size)).symm⟩
theorem spotType : Try.prog.keyType 117 = true := by kernel_rfl
theorem spotCells : Try.prog.cellsOf 117 = 2 := by kernel_rfl
theorem intCells : Try.prog.cellsOf 3 = 1 := by kernel_rfl
theorem spotKey (p : Pt) (h : ptWf p) : keyOf Try.prog 117 (spotV p) = some (spotK p) := by
  obtain ⟨m, hm⟩ := typesPos
  unfold keyOf
  simp only [Try.underlying117]
  rw [if_pos (by simp [spotType, spotV, Value.formed, Try.underlying117, spotCells]), hm]
  unfold Program.keyLits
  simp only [Try.underlying117, spotV, Value.cells]
  rw [if_pos ⟨by rw [spotCells]; rfl, by simp⟩, List.mapM_cons, List.mapM_cons, List.mapM_nil]
  simp [intCells, Program.keyLits, Try.underlying3, h.1, h.2, spotK]
theorem spotK_inj {p q : Pt} (hp : ptWf p) (hq : ptWf q) (h : spotK p = spotK q) : p = q := by
  have := spotKeyed.inj (spotKey p hp) (by rw [h]; exact spotKey q hq)
  simp only [spotV, Value.agg.injEq, Array.mk.injEq, List.cons.injEq, Value.int.injEq, true_and, and_true] at this
  exact Prod.ext this.1 this.2

/-- the map of the block bm holds how often each spot stands in ls. -/
def BadMap (w : World) (bm n : Nat) (ls : List Pt) : Prop :=
  ∃ D : DataW Unit, w.ownsMap Try.prog 117 (plainElem Try.prog 3) bm n D ∧ ∀ p, ptWf p → D.atKey (spotK p) (.lit (.int .i64 0)) = .lit (.int .i64 (ls.count p : Nat))

theorem BadMap.lt {w : World} {bm n : Nat} {ls : List Pt} (h : BadMap w bm n ls) : bm < w.heap.size := by
  obtain ⟨D, hD, _⟩ := h
  exact hD.lt
theorem BadMap.kept {w w' : World} {bm n : Nat} {ls : List Pt} {row : Option Nat} (h : BadMap w bm n ls) (hg : w.grownBy w' row) (hne : some bm ≠ row) : BadMap w' bm n ls := by
  obtain ⟨D, hD, hf⟩ := h
  exact ⟨D, hD.kept hg hne, hf⟩
theorem BadMap.below {w w' : World} {bm n B : Nat} {ls : List Pt} (h : BadMap w bm n ls) (hb : Below B w w') (hB : bm < B) : BadMap w' bm n ls := by
  obtain ⟨D, ⟨es, clock, hh, r⟩, hf⟩ := h
  exact ⟨D, ⟨es, clock, by rw [hb.block bm hB]; exact hh, r⟩, hf⟩
theorem BadMap.alloc {w : World} {bm n : Nat} {ls : List Pt} (h : BadMap w bm n ls) (o : Obj) : BadMap (w.alloc o) bm n ls := h.kept (World.grownBy_alloc w o none) (by simp)
theorem BadMap.drew {w : World} {bm n : Nat} {ls : List Pt} (h : BadMap w bm n ls) : BadMap w.drew bm n ls := h
theorem BadMap.made (w : World) : BadMap (w.alloc (.map #[] 0)) w.heap.size 0 [] :=
  ⟨.map [], World.ownsMap_made w _ _ _, fun _ _ => rfl⟩
theorem zeroInt (w : World) : (zeroValue 3).run Try.prog w = .ok (.int .i64 0) w := by kernel_rfl

/-- one look. -/
theorem BadMap.look {w : World} {bm n : Nat} {ls : List Pt} (h : BadMap w bm n ls) (p : Pt) (hp : ptWf p) :
    (Instr.lookup 122 (.map (some bm)) (spotV p) false).run Try.prog w = .ok (.int .i64 (ls.count p : Nat)) w := by
  obtain ⟨D, hD, hf⟩ := h
  obtain ⟨c, hrun, hat, _⟩ := hD.lookup_int spotKeyed Try.underlying122 Try.underlying3 (zeroInt w) (spotKey p hp)
  rw [hf p hp] at hat
  rw [hrun]
  simp only [DataW.lit.injEq, Lit.int.injEq, true_and] at hat
  rw [hat]

theorem BadMap.same {w w' : World} {bm n : Nat} {ls : List Pt} (h : BadMap w bm n ls) (hb : w'.heap[bm]? = w.heap[bm]?) : BadMap w' bm n ls := by
  obtain ⟨D, ⟨es, clock, hh, r⟩, hf⟩ := h
  exact ⟨D, ⟨es, clock, hb.trans hh, r⟩, hf⟩
theorem BadMap.mono {w : World} {bm n n' : Nat} {ls : List Pt} (h : BadMap w bm n ls) (hn : n ≤ n') : BadMap w bm n' ls := by
  obtain ⟨D, hD, hf⟩ := h
  exact ⟨D, hD.mono hn, hf⟩

section
open Go.ChangeMaps Go.MapKept
open Go.WideElems (Fit set_self)
/-- what an entry that is only asked for leaves: what was, or what a store of nothing would. -/
theorem entry_leaves {P : Program} {w : World} {t k e : TypeId} {H : Type} {R : Value → Option (DataW H × List MemPlace)} {b : Nat} {es : Array MapEntry} {clock : Nat} (K : WideMaps.KeyLaw P k) (ht : P.underlying t = some (.map k e)) {z : Value} (hz : ∀ u : World, (zeroValue e).run P u = .ok z u) (hb : w.heap[b]? = some (.map es clock)) (F : Fit P k R es clock)
    {key : Value} {kl : Lit} (hkey : keyOf P k key = some kl) :
    ∃ (r : Value) (w1 : World), (Instr.mapEntry t (.map (some b)) key).run P w = .ok r w1 ∧ (w1 = setBlock w b (.map es clock) ∨ ((Instr.mapUpdate t (.map (some b)) key z).run P w = .ok () w1 ∧ (Instr.lookup t (.map (some b)) key false).run P w = .ok z w)) := by
  rcases K.find w hkey es.toList F.keys with ⟨h1, h2⟩ | ⟨j, e0, h1, h2, h3⟩
  · refine ⟨.tuple #[z, goInt clock], setBlock w b (.map (es.push ⟨key, z, clock⟩) (clock + 1)), ?_, .inr ⟨?_, ?_⟩⟩
    · simp [Instr.mapEntry, run_underlying ht, MapKept.run_getObj_map hb, K.check w false hkey, h1, hz, MapKept.run_setObj_map _ hb, Result.andThen, setBlock]
    · simp [Instr.mapUpdate, run_underlying ht, MapKept.run_getObj_map hb, K.check w false hkey, h1, MapKept.run_setObj_map _ hb, Result.andThen, setBlock]
    · simp [Instr.lookup, run_underlying ht, MapKept.run_getObj_map hb, K.check w es.isEmpty hkey, h1, hz, Result.andThen]
  · have hj : es[j]? = some e0 := by simpa using h2
    have hsame : es.modify j (fun e => { e with key := key }) = es := by
      apply Array.ext'
      rw [Array.toList_modify, modify_eq_set _ _ _ _ h2]
      have : ({ e0 with key := key } : MapEntry) = e0 := by rw [← h3]
      rw [this]
      exact set_self _ _ _ h2
    refine ⟨.tuple #[e0.val, goInt e0.born], setBlock w b (.map es clock), ?_, .inl rfl⟩
    simp [Instr.mapEntry, run_underlying ht, MapKept.run_getObj_map hb, K.check w false hkey, h1, hj, h3, K.stays w hkey, hsame, MapKept.run_setObj_map _ hb, Result.andThen, setBlock]

/-- one more. -/
theorem BadMap.entry {w : World} {bm n : Nat} {ls : List Pt} (h : BadMap w bm n ls) (hn : n < 1000) (hl : ls.length < 1000) (p : Pt) (hp : ptWf p) :
    ∃ (v0 : Value) (st : Nat) (w1 : World), (Instr.mapEntry 122 (.map (some bm)) (spotV p)).run Try.prog w = .ok (.tuple #[v0, .int .i64 st]) w1 ∧ w.grownBy w1 (some bm) ∧ BadMap w1 bm (n + 1) ls ∧
      ∃ w2, (Instr.entryStore 122 (.map (some bm)) (.int .i64 st) (.int .i64 ((ls.count p + 1 : Nat) : Int))).run Try.prog w1 = .ok () w2 ∧ BadMap w2 bm (n + 1) (ls ++ [p]) ∧ w.grownBy w2 (some bm) := by
  have HB := h
  obtain ⟨D, hD, hf⟩ := h
  have hm := hD.isMap
  have hput : ∀ (w' : World) (c : Nat) (ls' : List Pt), w'.ownsMap Try.prog 117 (plainElem Try.prog 3) bm (n + 1) (D.put (spotK p) (.lit (.int .i64 (c : Nat)))) → (∀ q, ptWf q → ls'.count q = if q = p then c else ls.count q) → BadMap w' bm (n + 1) ls' := fun w' c ls' hown hc => ⟨_, hown, fun q hq => by
    rw [hc q hq]
    by_cases e : q = p
    · subst e
      rw [if_pos rfl]
      exact Maps.atKey_put_same hm (spotKeyed.key (spotKey q hp)) _ _
    · rw [if_neg e, Maps.atKey_put_other (fun h => e (spotK_inj hq hp h))]
      exact hf q hq⟩
  have hw : (Lit.int .i64 ((ls.count p + 1 : Nat) : Int)).wf = true := WalkArith.wf_i64 (by have := List.count_le_length (a := p) (l := ls); omega)
  obtain ⟨w', hrun, hown, hgr⟩ := hD.update spotKeyed Try.underlying122 (by unfold maxLen; omega) (spotKey p hp) (plainElem_int (H := Unit) Try.underlying3 hw)
  have hlook := BadMap.look HB p hp
  obtain ⟨w0, hrun0, hown0, hgr0⟩ := hD.update spotKeyed Try.underlying122 (by unfold maxLen; omega) (spotKey p hp) (plainElem_int (H := Unit) (a := 0) Try.underlying3 (by decide))
  obtain ⟨es, clock, hb, F, hs, hDe⟩ := hD
  obtain ⟨v0, st, es1, clock1, hent, hv0, hst⟩ := WideElems.entry_then_store spotLaw Try.underlying122 zeroInt hb F (spotKey p hp)
  obtain ⟨r, w1, hent2, hor⟩ := entry_leaves spotLaw Try.underlying122 zeroInt hb F (spotKey p hp)
  obtain ⟨es', clock', hst1, hst2⟩ := hst (setBlock w bm (.map es1 clock1)) (.int .i64 ((ls.count p + 1 : Nat) : Int)) (heap_setBlock_same hb _)
  have hw1 : w1 = setBlock w bm (.map es1 clock1) := by
    have h2 := hent.symm.trans hent2
    rw [Result.ok.injEq] at h2
    exact h2.2.symm
  have hw2 : w' = setBlock w bm (.map es' clock') := by
    have h2 := hrun.symm.trans hst2
    rw [Result.ok.injEq] at h2
    exact h2.2
  have hb1 : (setBlock w bm (.map es1 clock1)).heap[bm]? = some (.map es1 clock1) := heap_setBlock_same hb _
  have hg : ∀ (u : World) (a : Array MapEntry) (c : Nat) (o' : Obj), u.heap[bm]? = some (.map a c) → u.grownBy (setBlock u bm o') (some bm) := fun u a c o' ho => ⟨rfl, rfl, rfl, by simp [setBlock], fun i _ hi => heap_setBlock_other ho _ (fun e => hi (by rw [e]))⟩
  refine ⟨v0, st, _, hent, hg _ _ _ _ hb, ?_, _, hst1, ?_, (hg _ _ _ _ hb).trans (hg _ _ _ _ hb1)⟩
  · rw [← hw1]
    rcases hor with e | ⟨e, e0⟩
    · subst e
      exact (HB.same ((heap_setBlock_same hb _).trans hb.symm)).mono (by omega)
    · have h2 := hrun0.symm.trans e
      have h3 := hlook.symm.trans e0
      rw [Result.ok.injEq] at h2 h3
      have h4 := h3.1
      rw [Value.int.injEq] at h4
      have hc0 : ls.count p = 0 := by have := h4.2; omega
      rw [← h2.2]
      refine hput w0 0 ls hown0 (fun q _ => ?_)
      by_cases e : q = p
      · subst e; simp [hc0]
      · rw [if_neg e]
  · refine BadMap.same (w := w') (hput w' (ls.count p + 1) _ hown (fun q _ => ?_)) ?_
    · by_cases e : q = p
      · subst e; simp
      · rw [if_neg e, List.count_append, List.count_singleton]
        simp [Ne.symm e]
    · rw [hw2, heap_setBlock_same hb _]
      exact heap_setBlock_same hb1 _
end

end Go.Proofs.Ytolcndchfnifhaa
