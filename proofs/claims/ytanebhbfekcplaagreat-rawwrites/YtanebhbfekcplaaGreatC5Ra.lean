/- Ra: part 5 of what the proofs need. -/
import Derived.Test.YtanebhbfekcplaaGreatC1Ra
import Derived.Test.YtanebhbfekcplaaGreatC2Ra
import Derived.Test.YtanebhbfekcplaaGreatC3Ra
import Derived.Test.YtanebhbfekcplaaGreatC4Ra
import Derived.Deep.CutRange
import Derived.Deep.CutBlock
namespace Go.Proofs.YtanebhbfekcplaaGreat
set_option linter.unusedVariables false
open Go.RowKit
def nxtO {α : Type} (p : List UInt8 → Option (α × List UInt8)) (st : Option (List UInt8)) : Option (List UInt8) := (st.bind p).map Prod.snd
def valO {α : Type} (p : List UInt8 → Option (α × List UInt8)) (d : α) (st : Option (List UInt8)) : α := ((st.bind p).map Prod.fst).getD d
def lenO (st : Option (List UInt8)) : Nat := (st.getD []).length
theorem nxtO_none {α : Type} (p : List UInt8 → Option (α × List UInt8)) : nxtO p none = none := rfl
theorem valO_none {α : Type} (p : List UInt8 → Option (α × List UInt8)) (d : α) : valO p d none = d := rfl
theorem step_yes {α : Type} {p : List UInt8 → Option (α × List UInt8)} {l t : List UInt8} {a : α} (h : p l = some (a, t)) (d : α) : nxtO p (some l) = some t ∧ valO p d (some l) = a := by simp [nxtO, valO, h]
theorem step_no {α : Type} {p : List UInt8 → Option (α × List UInt8)} {l : List UInt8} (h : p l = none) (d : α) : nxtO p (some l) = none ∧ valO p d (some l) = d := by simp [nxtO, valO, h]
theorem nxtO_some {α : Type} {p : List UInt8 → Option (α × List UInt8)} {st : Option (List UInt8)} {t : List UInt8} (h : nxtO p st = some t) (d : α) : ∃ l, st = some l ∧ p l = some (valO p d st, t) := by
  cases st with
  | none => cases h
  | some l =>
    cases hp : p l with
    | none => rw [(step_no hp d).1] at h; cases h
    | some x =>
      obtain ⟨a, u⟩ := x
      obtain ⟨e1, e2⟩ := step_yes hp d
      rw [e1] at h
      cases h
      exact ⟨l, rfl, by rw [e2, hp]⟩
theorem nxtO_no {α : Type} {p : List UInt8 → Option (α × List UInt8)} {l : List UInt8} (h : p l = none) : nxtO p (some l) = none := by simp [nxtO, h]
theorem lenO_nxt {α : Type} {p : List UInt8 → Option (α × List UInt8)} (hp : ∀ l a t, p l = some (a, t) → t.length ≤ l.length) (st : Option (List UInt8)) : lenO (nxtO p st) ≤ lenO st := by
  cases st with
  | none => exact Nat.le_refl _
  | some l =>
    cases h : p l with
    | none => rw [nxtO_no h]; exact Nat.zero_le _
    | some x => obtain ⟨a, u⟩ := x; rw [(step_yes h a).1]; exact hp _ _ _ h
def IsEye (b : Nat) (st : Option (List UInt8)) (w : World) : Prop :=
  (∃ l, st = some l ∧ w.heap[b]? = some (.cells #[.string (str l), .bool false] 81 (0, 0))) ∨ (st = none ∧ ∃ l, l.length ≤ 140737488355328 ∧ w.heap[b]? = some (.cells #[.string (str l), .bool true] 81 (0, 0)))
theorem IsEye.of {b : Nat} {st : Option (List UInt8)} {w w' : World} (h : IsEye b st w) (e : w'.heap[b]? = w.heap[b]?) : IsEye b st w' := by
  rcases h with ⟨l, h1, h2⟩ | ⟨h1, l, h3, h2⟩
  · exact .inl ⟨l, h1, e.trans h2⟩
  · exact .inr ⟨h1, l, h3, e.trans h2⟩
theorem IsEye.lt {b : Nat} {st : Option (List UInt8)} {w : World} (h : IsEye b st w) : b < w.heap.size := by
  rcases h with ⟨l, h1, h2⟩ | ⟨h1, l, h3, h2⟩ <;> exact (Array.getElem?_eq_some_iff.1 h2).1
theorem eye_set0 {B b : Nat} {x y u : Value} {w : World} (hB : B ≤ b) (h : w.heap[b]? = some (.cells #[x, y] 81 (0, 0))) : (w.setCell ⟨b, 0, none⟩ u).heap[b]? = some (.cells #[u, y] 81 (0, 0)) ∧ RSt B b w (w.setCell ⟨b, 0, none⟩ u) := by
  refine ⟨?_, (Below.refl B w).setCell (p := ⟨b, 0, none⟩) hB _, fun k _ hk => Below.heap_setCell _ _ _ _ (fun e => hk e)⟩
  simp [World.setCell, Array.getElem?_modify, h]
theorem eye_set1 {B b : Nat} {x y u : Value} {w : World} (hB : B ≤ b) (h : w.heap[b]? = some (.cells #[x, y] 81 (0, 0))) : (w.setCell ⟨b, 1, none⟩ u).heap[b]? = some (.cells #[x, u] 81 (0, 0)) ∧ RSt B b w (w.setCell ⟨b, 1, none⟩ u) := by
  refine ⟨?_, (Below.refl B w).setCell (p := ⟨b, 1, none⟩) hB _, fun k _ hk => Below.heap_setCell _ _ _ _ (fun e => hk e)⟩
  simp [World.setCell, Array.getElem?_modify, h]
theorem or_join64 {x y : Int} (i : Nat) (hx₀ : 0 ≤ x) (hx : x % 2 ^ i = 0) (hx₁ : x < 2 ^ 62) (h₀ : 0 ≤ y) (h₁ : y < 2 ^ i) (h₂ : y < 2 ^ 62) : bits .or .i64 x y = x + y :=
  bits_join .i64 62 (by decide) (fun n h0 h1 => by rw [IntWalk.i64_in _ (by omega)]) i x y hx₀ hx hx₁ h₀ h₁ h₂
set_option maxRecDepth 100000 in
set_option maxHeartbeats 800000 in
theorem eyeNo_any (B b : Nat) (l : List UInt8) (bad : Bool) (w : World) (hB : B ≤ b) (h : w.heap[b]? = some (.cells #[.string (str l), .bool bad] 81 (0, 0))) (hn : bad = true ∨ l.length < 4) (hl : l.length ≤ 140737488355328) :
    Calls Tryz.prog 47 #[.pointer (some ⟨b, 0, none⟩)] w fun e w' => e = .returned (.int .i64 0) ∧ w'.heap[b]? = some (.cells #[.string (str l), .bool true] 81 (0, 0)) ∧ RSt B b w w' := by
  obtain ⟨c0, c1⟩ := bx2 h
  have f1 : w.frozen? ⟨b, 1, none⟩ = false := Lib.frozen_of_heap h 1
  have HS := hide (eye_set1 (u := .bool true) hB h)
  have hs : (str l).size = l.length := str_size l
  clear h
  cases bad
  · have h4 : l.length < 4 := by simpa using hn
    have hd : decide ((l.length : Int) < 4) = true := by simp; omega
    generalize str l = S at *
    go_enter Tryz.func47, Tryz.ntmps47
    go_wp2
    go_ret
    exact ⟨rfl, HS.out.1, HS.out.2⟩
  · generalize str l = S at *
    go_enter Tryz.func47, Tryz.ntmps47
    go_wp2
    go_ret
    exact ⟨rfl, HS.out.1, HS.out.2⟩
theorem u32_lt (c0 c1 c2 c3 : UInt8) : u32 c0 c1 c2 c3 < 4294967296 := by
  have h0 := c0.toNat_lt
  have h1 := c1.toNat_lt
  have h2 := c2.toNat_lt
  have h3 := c3.toNat_lt
  unfold u32; omega
set_option maxRecDepth 10000 in
set_option maxHeartbeats 800000 in
theorem word64 (c0 c1 c2 c3 : UInt8) : bits .or .i64 (bits .or .i64 (bits .or .i64 (wrap64 (wrap64 (c0.toNat : Int) * 16777216)) (wrap64 (wrap64 (c1.toNat : Int) * 65536))) (wrap64 (wrap64 (c2.toNat : Int) * 256))) (wrap64 (c3.toNat : Int)) = ((u32 c0 c1 c2 c3 : Nat) : Int) := by
  have h0 := c0.toNat_lt
  have h1 := c1.toNat_lt
  have h2 := c2.toNat_lt
  have h3 := c3.toNat_lt
  have e0 : wrap64 (wrap64 (c0.toNat : Int) * 16777216) = c0.toNat * 16777216 := by rw [IntWalk.wrap64_in (c0.toNat : Int) (by omega), IntWalk.wrap64_in _ (by omega)]
  have e1 : wrap64 (wrap64 (c1.toNat : Int) * 65536) = c1.toNat * 65536 := by rw [IntWalk.wrap64_in (c1.toNat : Int) (by omega), IntWalk.wrap64_in _ (by omega)]
  have e2 : wrap64 (wrap64 (c2.toNat : Int) * 256) = c2.toNat * 256 := by rw [IntWalk.wrap64_in (c2.toNat : Int) (by omega), IntWalk.wrap64_in _ (by omega)]
  have e3 : wrap64 (c3.toNat : Int) = c3.toNat := IntWalk.wrap64_in _ (by omega)
  rw [e0, e1, e2, e3]
  have f1 : bits .or .i64 ((c0.toNat : Int) * 16777216) ((c1.toNat : Int) * 65536) = (c0.toNat : Int) * 16777216 + (c1.toNat : Int) * 65536 := or_join64 24 (by omega) (by rw [show (2 : Int) ^ 24 = 16777216 from rfl]; omega) (by rw [show (2 : Int) ^ 62 = 4611686018427387904 from rfl]; omega) (by omega) (by rw [show (2 : Int) ^ 24 = 16777216 from rfl]; omega) (by rw [show (2 : Int) ^ 62 = 4611686018427387904 from rfl]; omega)
  have f2 : bits .or .i64 ((c0.toNat : Int) * 16777216 + (c1.toNat : Int) * 65536) ((c2.toNat : Int) * 256) = (c0.toNat : Int) * 16777216 + (c1.toNat : Int) * 65536 + (c2.toNat : Int) * 256 := or_join64 16 (by omega) (by rw [show (2 : Int) ^ 16 = 65536 from rfl]; omega) (by rw [show (2 : Int) ^ 62 = 4611686018427387904 from rfl]; omega) (by omega) (by rw [show (2 : Int) ^ 16 = 65536 from rfl]; omega) (by rw [show (2 : Int) ^ 62 = 4611686018427387904 from rfl]; omega)
  have f3 : bits .or .i64 ((c0.toNat : Int) * 16777216 + (c1.toNat : Int) * 65536 + (c2.toNat : Int) * 256) (c3.toNat : Int) = (c0.toNat : Int) * 16777216 + (c1.toNat : Int) * 65536 + (c2.toNat : Int) * 256 + c3.toNat := or_join64 8 (by omega) (by rw [show (2 : Int) ^ 8 = 256 from rfl]; omega) (by rw [show (2 : Int) ^ 62 = 4611686018427387904 from rfl]; omega) (by omega) (by rw [show (2 : Int) ^ 8 = 256 from rfl]; omega) (by rw [show (2 : Int) ^ 62 = 4611686018427387904 from rfl]; omega)
  rw [f1, f2, f3, u32]
  omega
set_option maxRecDepth 100000 in
set_option maxHeartbeats 800000 in
theorem eyeYes_any (B b : Nat) (c0 c1 c2 c3 : UInt8) (t : List UInt8) (w : World) (hB : B ≤ b) (h : w.heap[b]? = some (.cells #[.string (str (c0 :: c1 :: c2 :: c3 :: t)), .bool false] 81 (0, 0))) (hl : t.length ≤ 140737488355328) :
    Calls Tryz.prog 47 #[.pointer (some ⟨b, 0, none⟩)] w fun e w' => e = .returned (.int .i64 (sgn32 (u32 c0 c1 c2 c3))) ∧ w'.heap[b]? = some (.cells #[.string (str t), .bool false] 81 (0, 0)) ∧ RSt B b w w' := by
  obtain ⟨d0, d1⟩ := bx2 h
  have hs : (str (c0 :: c1 :: c2 :: c3 :: t)).size = t.length + 4 := by rw [str_size]; rfl
  have HX2 := hide (show (str (c0 :: c1 :: c2 :: c3 :: t)).extract 4 (t.length + 4) = str t by rw [Lib.extract_eq]; simp [str])
  have hI : ∀ (i : Nat) (c : UInt8), (c0 :: c1 :: c2 :: c3 :: t)[i]? = some c → ∀ V : World, (Instr.index 9 (.string (str (c0 :: c1 :: c2 :: c3 :: t))) (.int .i64 i)).run Tryz.prog V = .ok (.int .u8 c.toNat) V := by
    intro i c hc V
    obtain ⟨hi, hc⟩ := List.getElem?_eq_some_iff.1 hc
    rw [run_index_string V 9 _ .i64 i Tryz.underlying9, dif_pos ⟨by omega, by rw [str_size]; omega⟩]
    subst hc
    rfl
  have i0 : ∀ V : World, (Instr.index 9 (.string (str (c0 :: c1 :: c2 :: c3 :: t))) (.int .i64 0)).run Tryz.prog V = .ok (.int .u8 c0.toNat) V := hI 0 c0 rfl
  have i1 : ∀ V : World, (Instr.index 9 (.string (str (c0 :: c1 :: c2 :: c3 :: t))) (.int .i64 1)).run Tryz.prog V = .ok (.int .u8 c1.toNat) V := hI 1 c1 rfl
  have i2 : ∀ V : World, (Instr.index 9 (.string (str (c0 :: c1 :: c2 :: c3 :: t))) (.int .i64 2)).run Tryz.prog V = .ok (.int .u8 c2.toNat) V := hI 2 c2 rfl
  have i3 : ∀ V : World, (Instr.index 9 (.string (str (c0 :: c1 :: c2 :: c3 :: t))) (.int .i64 3)).run Tryz.prog V = .ok (.int .u8 c3.toNat) V := hI 3 c3 rfl
  have H := hide h
  clear h hI
  have e1 := word64 c0 c1 c2 c3
  have e2 := u32_lt c0 c1 c2 c3
  have HU := hide (show sgn32 (u32 c0 c1 c2 c3) = if u32 c0 c1 c2 c3 < 2147483648 then (u32 c0 c1 c2 c3 : Int) else u32 c0 c1 c2 c3 - 4294967296 from rfl)
  generalize sgn32 (u32 c0 c1 c2 c3) = SG at *
  generalize u32 c0 c1 c2 c3 = UU at *
  have HW := hide e1
  clear e1
  generalize str (c0 :: c1 :: c2 :: c3 :: t) = S at *
  go_enter Tryz.func47, Tryz.ntmps47
  go_upto_region 4 with fail
  go_quiet (fail)
  rw [HW.out]
  have g0 : (w.drewN nq).cell? ⟨b, 0, none⟩ = some (.string S) := d0
  have f0 : (w.drewN nq).frozen? ⟨b, 0, none⟩ = false := Lib.frozen_of_heap (w := w) H.out 0
  have HR := hide (eye_set0 (B := B) (u := .string (str t)) (w := w.drewN nq) hB H.out)
  have HRS := hide (RSt.drews B b nq w)
  rw [← HX2.out] at HR
  clear d0 d1 i0 i1 i2 i3 HW H
  by_cases hu : UU < 2147483648
  · rw [if_pos hu] at HU
    have hd : decide ((2147483648 : Int) ≤ (UU : Int)) = false := by simp; omega
    go_wp2
    go_ret
    exact ⟨ret_int HU.out.symm, by rw [← HX2.out]; exact HR.out.1, HRS.out.trans HR.out.2⟩
  · rw [if_neg hu] at HU
    have hd : decide ((2147483648 : Int) ≤ (UU : Int)) = true := by simp; omega
    have hw2 : IntKind.i64.wrap ((UU : Int) - 4294967296) = (UU : Int) - 4294967296 := IntWalk.i64_in _ (by omega)
    go_wp2
    go_ret
    exact ⟨ret_int HU.out.symm, by rw [← HX2.out]; exact HR.out.1, HRS.out.trans HR.out.2⟩
theorem eyeNum_any (B b : Nat) (st : Option (List UInt8)) (w : World) (hB : B ≤ b) (h : IsEye b st w) (hl : lenO st ≤ 140737488355328) :
    Calls Tryz.prog 47 #[.pointer (some ⟨b, 0, none⟩)] w fun e w' => e = .returned (.int .i64 (valO numP 0 st)) ∧ IsEye b (nxtO numP st) w' ∧ RSt B b w w' := by
  rcases h with ⟨l, rfl, h2⟩ | ⟨rfl, l, h3, h2⟩
  · have hl' : l.length ≤ 140737488355328 := hl
    by_cases h4 : l.length < 4
    · refine (eyeNo_any B b l false w hB h2 (.inr h4) hl').mono ?_
      rintro e w' ⟨rfl, h5, h6⟩
      have hn : numP l = none := by
        match l, h4 with
        | [], _ => rfl
        | [_], _ => rfl
        | [_, _], _ => rfl
        | [_, _, _], _ => rfl
        | _ :: _ :: _ :: _ :: _, h4 => simp at h4; omega
      obtain ⟨e1, e2⟩ := step_no hn (0 : Int)
      exact ⟨by rw [e2], .inr ⟨e1, l, hl', h5⟩, h6⟩
    · match l, h2, h4, hl' with
      | c0 :: c1 :: c2 :: c3 :: t, h2, _, hl' =>
        refine (eyeYes_any B b c0 c1 c2 c3 t w hB h2 (by simp at hl'; omega)).mono ?_
        rintro e w' ⟨rfl, h5, h6⟩
        obtain ⟨e1, e2⟩ := step_yes (p := numP) (l := c0 :: c1 :: c2 :: c3 :: t) rfl (0 : Int)
        exact ⟨by rw [e2], .inl ⟨_, e1, h5⟩, h6⟩
      | [], _, h4, _ => exact absurd (by decide) h4
      | [_], _, h4, _ => exact absurd (by simp) h4
      | [_, _], _, h4, _ => exact absurd (by simp) h4
      | [_, _, _], _, h4, _ => exact absurd (by simp) h4
  · refine (eyeNo_any B b l true w hB h2 (.inl rfl) h3).mono ?_
    rintro e w' ⟨rfl, h5, h6⟩
    exact ⟨rfl, .inr ⟨rfl, l, h3, h5⟩, h6⟩
def cntL (l : List UInt8) : Option (Int × List UInt8) := match numP l with
  | none => none
  | some (n, t) => if 0 ≤ n ∧ n ≤ (t.length : Int) then some (n, t) else none
set_option maxRecDepth 100000 in
set_option maxHeartbeats 800000 in
theorem eyeCount_any (B b : Nat) (st : Option (List UInt8)) (w : World) (hB : B ≤ b) (h : IsEye b st w) (hl : lenO st ≤ 140737488355328) :
    Calls Tryz.prog 48 #[.pointer (some ⟨b, 0, none⟩)] w fun e w' => e = .returned (.int .i64 (valO cntL 0 st)) ∧ IsEye b (nxtO cntL st) w' ∧ RSt B b w w' := by
  have HN := hide (eyeNum_any B b st w hB h hl)
  clear h
  cases hp : st.bind numP with
  | none =>
    have e1 : nxtO numP st = none := by rw [nxtO, hp]; rfl
    have e2 : valO numP 0 st = 0 := by rw [valO, hp]; rfl
    have hc : st.bind cntL = none := by
      cases st with
      | none => rfl
      | some l => simp only [Option.bind_some] at hp ⊢; rw [cntL, hp]
    have HE1 := hide (show nxtO cntL st = none by rw [nxtO, hc]; rfl)
    have HE2 := hide (show valO cntL 0 st = 0 by rw [valO, hc]; rfl)
    rw [e1, e2] at HN
    clear hp hc e1 e2
    go_enter Tryz.func48, Tryz.ntmps48
    go_wp2_with fail
    refine (HN.out).mono ?_
    rintro e w1 ⟨rfl, h1, h2⟩
    rcases h1 with ⟨_, h1, _⟩ | ⟨_, l, h3, h1⟩
    · cases h1
    obtain ⟨c0, c1⟩ := bx2 h1
    have hs : (str l).size = l.length := str_size l
    have hd : decide ((l.length : Int) < 0) = false := decide_eq_false (by omega)
    have HF := hide (show IsEye b none w1 from .inr ⟨rfl, l, h3, h1⟩)
    have HR := hide h2
    clear h1 h2
    generalize str l = S at *
    go_wp2
    go_ret
    exact ⟨ret_int HE2.out.symm, by rw [HE1.out]; exact HF.out, HR.out⟩
  | some x =>
    obtain ⟨n, t⟩ := x
    have e1 : nxtO numP st = some t := by rw [nxtO, hp]; rfl
    have e2 : valO numP 0 st = n := by rw [valO, hp]; rfl
    obtain ⟨l0, rfl, hp0⟩ : ∃ l0, st = some l0 ∧ numP l0 = some (n, t) := by
      cases st with
      | none => cases hp
      | some l => exact ⟨l, rfl, hp⟩
    have htl : t.length ≤ 140737488355328 := by have := num_len hp0; have : l0.length ≤ 140737488355328 := hl; omega
    have HE1 := hide (show nxtO cntL (some l0) = if 0 ≤ n ∧ n ≤ (t.length : Int) then some t else none by simp only [nxtO, Option.bind_some, cntL, hp0]; split <;> rfl)
    have HE2 := hide (show valO cntL 0 (some l0) = if 0 ≤ n ∧ n ≤ (t.length : Int) then n else 0 by simp only [valO, Option.bind_some, cntL, hp0]; split <;> rfl)
    rw [e1, e2] at HN
    generalize valO cntL 0 (some l0) = VC at *
    generalize nxtO cntL (some l0) = NC at *
    clear hp hp0 e1 e2 hl
    go_enter Tryz.func48, Tryz.ntmps48
    go_wp2_with fail
    refine (HN.out).mono ?_
    rintro e w1 ⟨rfl, h1, h2⟩
    rcases h1 with ⟨t', h1, h3⟩ | ⟨h1, _⟩
    rotate_left
    · cases h1
    cases h1
    obtain ⟨c0, c1⟩ := bx2 h3
    have f1 : w1.frozen? ⟨b, 1, none⟩ = false := Lib.frozen_of_heap h3 1
    have hs : (str t).size = t.length := str_size t
    have HF := hide (show IsEye b (some t) w1 from .inl ⟨t, rfl, h3⟩)
    obtain ⟨q1, q2⟩ := eye_set1 (B := B) (u := .bool true) hB h3
    have HQ := hide (show IsEye b none (w1.setCell ⟨b, 1, none⟩ (.bool true)) from .inr ⟨rfl, t, htl, q1⟩)
    have HR := hide h2
    have HR2 := hide (h2.trans q2)
    have c2 : (w1.setCell ⟨b, 1, none⟩ (.bool true)).cell? ⟨b, 1, none⟩ = some (.bool true) := (bx2 q1).2
    clear h2 h3 q1 q2
    generalize str t = S at *
    by_cases h0 : 0 ≤ n
    · by_cases h9 : n ≤ (t.length : Int)
      · have d1 : decide (n < 0) = false := by simp; omega
        have d2 : decide ((t.length : Int) < n) = false := by simp; omega
        rw [if_pos ⟨h0, h9⟩] at HE1 HE2
        clear c2
        go_wp2
        go_ret
        exact ⟨ret_int HE2.out.symm, by rw [HE1.out]; exact HF.out, HR.out⟩
      · have d1 : decide (n < 0) = false := by simp; omega
        have d2 : decide ((t.length : Int) < n) = true := by simp; omega
        rw [if_neg (fun h => h9 h.2)] at HE1 HE2
        go_wp2
        go_ret
        exact ⟨ret_int HE2.out.symm, by rw [HE1.out]; exact HQ.out, HR2.out⟩
    · have d1 : decide (n < 0) = true := by simp; omega
      rw [if_neg (fun h => h0 h.1)] at HE1 HE2
      go_wp2
      go_ret
      exact ⟨ret_int HE2.out.symm, by rw [HE1.out]; exact HQ.out, HR2.out⟩
theorem textP_cnt (l : List UInt8) : textP l = match cntL l with | none => none | some (n, t) => some (t.take n.toNat, t.drop n.toNat) := by
  rw [textP, cntL]
  cases numP l with
  | none => rfl
  | some x => obtain ⟨n, t⟩ := x; simp only; split <;> rfl
set_option maxRecDepth 100000 in
set_option maxHeartbeats 800000 in
theorem eyeText_any (B b : Nat) (st : Option (List UInt8)) (w : World) (hB : B ≤ b) (h : IsEye b st w) (hl : lenO st ≤ 140737488355328) :
    Calls Tryz.prog 46 #[.pointer (some ⟨b, 0, none⟩)] w fun e w' => e = .returned (.string (str (valO textP [] st))) ∧ IsEye b (nxtO textP st) w' ∧ RSt B b w w' := by
  have HN := hide (eyeCount_any B b st w hB h hl)
  clear h
  cases hp : st.bind cntL with
  | none =>
    have e1 : nxtO cntL st = none := by rw [nxtO, hp]; rfl
    have e2 : valO cntL 0 st = 0 := by rw [valO, hp]; rfl
    have hc : st.bind textP = none := by
      cases st with
      | none => rfl
      | some l => simp only [Option.bind_some] at hp ⊢; rw [textP_cnt, hp]
    have HE1 := hide (show nxtO textP st = none by rw [nxtO, hc]; rfl)
    have HE2 := hide (show valO textP [] st = [] by rw [valO, hc]; rfl)
    rw [e1, e2] at HN
    clear hp hc e1 e2
    go_enter Tryz.func46, Tryz.ntmps46
    go_wp2_with fail
    refine (HN.out).mono ?_
    rintro e w1 ⟨rfl, h1, h2⟩
    rcases h1 with ⟨_, h1, _⟩ | ⟨_, l, h3, h1⟩
    · cases h1
    obtain ⟨c0, c1⟩ := bx2 h1
    have HF := hide (show IsEye b none w1 from .inr ⟨rfl, l, h3, h1⟩)
    have HR := hide h2
    clear h1 h2
    generalize str l = S at *
    go_wp2
    go_ret
    exact ⟨by rw [HE2.out]; rfl, by rw [HE1.out]; exact HF.out, HR.out⟩
  | some x =>
    obtain ⟨n, t⟩ := x
    have e1 : nxtO cntL st = some t := by rw [nxtO, hp]; rfl
    have e2 : valO cntL 0 st = n := by rw [valO, hp]; rfl
    obtain ⟨l0, rfl, hp0⟩ : ∃ l0, st = some l0 ∧ cntL l0 = some (n, t) := by
      cases st with
      | none => cases hp
      | some l => exact ⟨l, rfl, hp⟩
    obtain ⟨hn0, hn1, htl⟩ : 0 ≤ n ∧ n ≤ (t.length : Int) ∧ t.length ≤ 140737488355328 := by
      have hp1 := hp0
      rw [cntL] at hp1
      split at hp1
      · cases hp1
      · rename_i m u hq
        have := num_len hq
        have : l0.length ≤ 140737488355328 := hl
        split at hp1
        · cases hp1; omega
        · cases hp1
    obtain ⟨N, rfl⟩ := Int.eq_ofNat_of_zero_le hn0
    have HE1 := hide (show nxtO textP (some l0) = some (t.drop N) by rw [nxtO, Option.bind_some, textP_cnt, hp0]; rfl)
    have HE2 := hide (show valO textP [] (some l0) = t.take N by rw [valO, Option.bind_some, textP_cnt, hp0]; rfl)
    rw [e1, e2] at HN
    generalize valO textP [] (some l0) = VC at *
    generalize nxtO textP (some l0) = NC at *
    clear hp hp0 e1 e2 hl
    go_enter Tryz.func46, Tryz.ntmps46
    go_wp2_with fail
    refine (HN.out).mono ?_
    rintro e w1 ⟨rfl, h1, h2⟩
    rcases h1 with ⟨t', h1, h3⟩ | ⟨h1, _⟩
    rotate_left
    · cases h1
    cases h1
    obtain ⟨c0, c1⟩ := bx2 h3
    have f0 : w1.frozen? ⟨b, 0, none⟩ = false := Lib.frozen_of_heap h3 0
    have hs : (str t).size = t.length := str_size t
    have hN : N ≤ t.length := by omega
    have HX1 := hide (show (str t).extract 0 N = str (t.take N) by rw [Lib.extract_eq]; simp [str])
    have HX2 := hide (show (str t).extract N t.length = str (t.drop N) by rw [Lib.extract_eq, str_data, List.take_of_length_le (by rw [List.length_drop]; exact Nat.le_refl _)]; rfl)
    obtain ⟨q1, q2⟩ := eye_set0 (B := B) (u := .string (str (t.drop N))) hB h3
    have HQ := hide (show IsEye b (some (t.drop N)) (w1.setCell ⟨b, 0, none⟩ (.string (str (t.drop N)))) from .inl ⟨_, rfl, q1⟩)
    have HR2 := hide (h2.trans q2)
    clear h2 h3 q1 q2
    generalize str t = S at *
    go_wp2
    go_ret
    have x2 := HX2.out
    rw [x2]
    exact ⟨congrArg (fun x => Ending.returned (.string x)) (HX1.out.trans (by rw [HE2.out])), by rw [HE1.out]; exact HQ.out, HR2.out⟩
end Go.Proofs.YtanebhbfekcplaaGreat

namespace Go.Proofs.YtanebhbfekcplaaGreat
set_option linter.unusedVariables false
open Go.RowKit
def MS {α : Type} (p : List UInt8 → Option (α × List UInt8)) (k : Nat) (s0 : Option (List UInt8)) (ys : List α) (st : Option (List UInt8)) : Prop :=
  ys.length = k ∧ st = nxtO (manyP p k) s0 ∧ (st ≠ none → ys = valO (manyP p k) [] s0)
theorem MS.zero {α : Type} (p : List UInt8 → Option (α × List UInt8)) (s0 : Option (List UInt8)) : MS p 0 s0 [] s0 := by
  cases s0 with
  | none => exact ⟨rfl, rfl, fun _ => rfl⟩
  | some l => exact ⟨rfl, rfl, fun _ => rfl⟩
theorem MS.next {α : Type} {p : List UInt8 → Option (α × List UInt8)} {k : Nat} {s0 st : Option (List UInt8)} {ys : List α} (h : MS p k s0 ys st) (d y : α) (hy : nxtO p st ≠ none → y = valO p d st) : MS p (k + 1) s0 (ys ++ [y]) (nxtO p st) := by
  obtain ⟨h1, h2, h3⟩ := h
  refine ⟨by rw [List.length_append, h1]; rfl, ?_⟩
  cases s0 with
  | none =>
    have e : st = none := h2
    subst e
    exact ⟨rfl, fun hn => absurd rfl hn⟩
  | some l =>
    cases hm : manyP p k l with
    | none =>
      rw [nxtO_no hm] at h2
      subst h2
      have hm2 : manyP p (k + 1) l = none := manyP_none hm (by omega)
      exact ⟨by rw [nxtO_no hm2]; rfl, fun hn => absurd rfl hn⟩
    | some x =>
      obtain ⟨zs, t⟩ := x
      obtain ⟨e1, e2⟩ := step_yes hm ([] : List α)
      rw [e1] at h2
      subst h2
      have h3' := h3 (by simp)
      rw [e2] at h3'
      subst h3'
      cases hp : p t with
      | none =>
        have hm2 : manyP p (k + 1) l = none := manyP_stop hm hp (by omega)
        exact ⟨by rw [nxtO_no hm2, nxtO_no hp], fun hn => absurd (nxtO_no hp) hn⟩
      | some z =>
        obtain ⟨a, u⟩ := z
        obtain ⟨f1, f2⟩ := step_yes hp d
        obtain ⟨g1, g2⟩ := step_yes (manyP_next hm hp) ([] : List α)
        exact ⟨by rw [f1, g1], fun hn => by rw [hy hn, f2, g2]⟩
theorem MS.bad {α : Type} {p : List UInt8 → Option (α × List UInt8)} {k N : Nat} {s0 : Option (List UInt8)} {ys : List α} (h : MS p k s0 ys none) (hk : k ≤ N) : nxtO (manyP p N) s0 = none := by
  obtain ⟨_, h2, _⟩ := h
  cases s0 with
  | none => rfl
  | some l =>
    cases hm : manyP p k l with
    | none => exact nxtO_no (manyP_none hm hk)
    | some x =>
      obtain ⟨zs, t⟩ := x
      rw [(step_yes hm ([] : List α)).1] at h2
      cases h2
def LS {α : Type} (p : List UInt8 → Option (α × List UInt8)) (s0 : Option (List UInt8)) (ys : List α) (st : Option (List UInt8)) : Prop :=
  st = nxtO (listP p List.length) s0 ∧ (st ≠ none → ys = valO (listP p List.length) [] s0)
theorem list_cnt {α : Type} (p : List UInt8 → Option (α × List UInt8)) (l : List UInt8) : listP p List.length l = match cntL l with | none => none | some (n, t) => manyP p n.toNat t := by
  rw [listP, cntL]
  cases numP l with
  | none => rfl
  | some x => obtain ⟨n, t⟩ := x; simp only; split <;> rfl
theorem LS.of {α : Type} {p : List UInt8 → Option (α × List UInt8)} {s0 st : Option (List UInt8)} {ys : List α} {k N : Nat} (hN : valO cntL 0 s0 = (N : Int)) (h : MS p k (nxtO cntL s0) ys st) (hk : k = N ∨ (st = none ∧ k ≤ N)) : LS p s0 ys st := by
  have key : nxtO (listP p List.length) s0 = nxtO (manyP p N) (nxtO cntL s0) ∧ valO (listP p List.length) [] s0 = valO (manyP p N) [] (nxtO cntL s0) := by
    cases s0 with
    | none => exact ⟨(nxtO_none _).trans (nxtO_none _).symm, (valO_none _ _).trans (valO_none _ _).symm⟩
    | some l =>
      cases hc : cntL l with
      | none =>
        have : listP p List.length l = none := by rw [list_cnt, hc]
        obtain ⟨e1, e2⟩ := step_no this ([] : List α)
        rw [e1, e2, nxtO_no hc]
        exact ⟨(nxtO_none _).symm, (valO_none _ _).symm⟩
      | some x =>
        obtain ⟨n, t⟩ := x
        obtain ⟨e1, e2⟩ := step_yes hc (0 : Int)
        rw [e2] at hN
        subst hN
        rw [e1]
        have e3 : listP p List.length l = manyP p N t := by rw [list_cnt, hc]; simp only [Int.toNat_natCast]
        exact ⟨by simp only [nxtO, Option.bind_some, e3], by simp only [valO, Option.bind_some, e3]⟩
  rcases hk with rfl | ⟨rfl, hk⟩
  · exact ⟨by rw [key.1]; exact h.2.1, fun hn => by rw [key.2]; exact h.2.2 hn⟩
  · exact ⟨by rw [key.1, h.bad hk], fun hn => absurd rfl hn⟩
theorem cntL_nonneg (s0 : Option (List UInt8)) : ∃ N : Nat, valO cntL 0 s0 = N ∧ N ≤ 2147483647 := by
  cases s0 with
  | none => exact ⟨0, rfl, Nat.zero_le _⟩
  | some l =>
    cases hc : cntL l with
    | none => exact ⟨0, (step_no hc (0 : Int)).2, Nat.zero_le _⟩
    | some x =>
      obtain ⟨n, t⟩ := x
      have hc2 := hc
      rw [cntL] at hc
      split at hc
      · cases hc
      · rename_i m u hq
        have h32 := (numCod.sound _ _ _ hq).2
        unfold in32 at h32
        split at hc
        · cases hc
          exact ⟨n.toNat, by rw [(step_yes hc2 (0 : Int)).2]; omega, by omega⟩
        · cases hc
theorem cntL_len {l t : List UInt8} {n : Int} (h : cntL l = some (n, t)) : t.length ≤ l.length := by
  rw [cntL] at h
  split at h
  · cases h
  · rename_i m u hq
    have := num_len hq
    split at h
    · cases h; omega
    · cases h
theorem pair_step (st : Option (List UInt8)) : nxtO pairP st = nxtO numP (nxtO numP st) ∧ (nxtO pairP st ≠ none → (valO numP 0 st, valO numP 0 (nxtO numP st)) = valO pairP (0, 0) st) := by
  cases st with
  | none => exact ⟨rfl, fun h => absurd rfl h⟩
  | some l =>
    cases h1 : numP l with
    | none =>
      have : pairP l = none := by rw [pairP, h1]
      rw [nxtO_no this, nxtO_no h1]
      exact ⟨rfl, fun h => absurd rfl h⟩
    | some x =>
      obtain ⟨a, t⟩ := x
      obtain ⟨e1, e2⟩ := step_yes h1 (0 : Int)
      rw [e1, e2]
      cases h2 : numP t with
      | none =>
        have : pairP l = none := by rw [pairP, h1]; simp only [h2]
        rw [nxtO_no this, nxtO_no h2]
        exact ⟨rfl, fun h => absurd rfl h⟩
      | some y =>
        obtain ⟨b, u⟩ := y
        have : pairP l = some ((a, b), u) := by rw [pairP, h1]; simp only [h2]
        obtain ⟨f1, f2⟩ := step_yes this ((0, 0) : Pt)
        obtain ⟨g1, g2⟩ := step_yes h2 (0 : Int)
        rw [f1, f2, g1, g2]
        exact ⟨rfl, fun _ => rfl⟩
structure Chain (s : List UInt8) (s2 s3 s4 s5 s6 s7 s8 s9 s10 s11 s12 s13 s14 s15 s16 : Option (List UInt8)) (l1 : List UInt8) (le : List Int) (sl : List (List UInt8)) (bl ga ma : List Int) (sp cu : List Pt) : Prop where
  h1 : textP s = some (darkL, l1)
  h2 : s2 = nxtO numP (some l1)
  h3 : s3 = nxtO numP s2
  h4 : s4 = nxtO numP s3
  h5 : s5 = nxtO numP s4
  h6 : s6 = nxtO numP s5
  h7 : LS numP s6 le s7
  h8 : LS textP s7 sl s8
  h9 : s9 = nxtO numP s8
  h10 : MS numP 4 s9 bl s10
  h11 : s11 = nxtO numP s10
  h12 : LS pairP s11 sp s12
  h13 : MS numP 3 s12 ga s13
  h14 : MS numP 9 s13 ma s14
  h15 : LS pairP s14 cu s15
  h16 : s16 = nxtO numP s15
theorem LS.some {α : Type} {p : List UInt8 → Option (α × List UInt8)} {s0 : Option (List UInt8)} {ys : List α} {t : List UInt8} (h : LS p s0 ys (some t)) : ∃ l, s0 = some l ∧ listP p List.length l = some (ys, t) := by
  obtain ⟨l, e1, e2⟩ := nxtO_some h.1.symm ([] : List α)
  exact ⟨l, e1, by rw [e2, ← h.2 (by simp)]⟩
theorem MS.some {α : Type} {p : List UInt8 → Option (α × List UInt8)} {k : Nat} {s0 : Option (List UInt8)} {ys : List α} {t : List UInt8} (h : MS p k s0 ys (some t)) : ∃ l, s0 = some l ∧ manyP p k l = some (ys, t) := by
  obtain ⟨l, e1, e2⟩ := nxtO_some h.2.1.symm ([] : List α)
  exact ⟨l, e1, by rw [e2, ← h.2.2 (by simp)]⟩
theorem Chain.yes {s : List UInt8} {s2 s3 s4 s5 s6 s7 s8 s9 s10 s11 s12 s13 s14 s15 s16 : Option (List UInt8)} {l1 : List UInt8} {le : List Int} {sl : List (List UInt8)} {bl ga ma : List Int} {sp cu : List Pt}
    (c : Chain s s2 s3 s4 s5 s6 s7 s8 s9 s10 s11 s12 s13 s14 s15 s16 l1 le sl bl ga ma sp cu) (h : s16 = some []) :
    rawQ s = some ⟨valO numP 0 (some l1), valO numP 0 s2, valO numP 0 s3, valO numP 0 s4, valO numP 0 s5, le, sl, ⟨valO numP 0 s8, ix bl, valO numP 0 s10, sp, ix ga, ix ma, cu, valO numP 0 s15⟩⟩ := by
  obtain ⟨h1, h2, h3, h4, h5, h6, h7, h8, h9, h10, h11, h12, h13, h14, h15, h16⟩ := c
  subst h
  obtain ⟨l15, rfl, p16⟩ := nxtO_some h16.symm (0 : Int)
  obtain ⟨l14, rfl, p15⟩ := h15.some
  obtain ⟨l13, rfl, p14⟩ := h14.some
  obtain ⟨l12, rfl, p13⟩ := h13.some
  obtain ⟨l11, rfl, p12⟩ := h12.some
  obtain ⟨l10, rfl, p11⟩ := nxtO_some h11.symm (0 : Int)
  obtain ⟨l9, rfl, p10⟩ := h10.some
  obtain ⟨l8, rfl, p9⟩ := nxtO_some h9.symm (0 : Int)
  obtain ⟨l7, rfl, p8⟩ := h8.some
  obtain ⟨l6, rfl, p7⟩ := h7.some
  obtain ⟨l5, rfl, p6⟩ := nxtO_some h6.symm (0 : Int)
  obtain ⟨l4, rfl, p5⟩ := nxtO_some h5.symm (0 : Int)
  obtain ⟨l3, rfl, p4⟩ := nxtO_some h4.symm (0 : Int)
  obtain ⟨l2, rfl, p3⟩ := nxtO_some h3.symm (0 : Int)
  obtain ⟨l1', e, p2⟩ := nxtO_some h2.symm (0 : Int)
  cases e
  rw [rawQ, rawP, h1]
  simp only [if_true]
  rw [kq1, p2]
  simp only
  rw [kq2, p3]
  simp only
  rw [kq3, p4]
  simp only
  rw [kq4, p5]
  simp only
  rw [kq5, p6]
  simp only
  rw [kq6, p7]
  simp only
  rw [kq7, p8]
  simp only
  rw [kq8, planP, p9]
  simp only
  rw [pq2, p10]
  simp only
  rw [pq3, p11]
  simp only
  rw [pq4, p12]
  simp only
  rw [pq5, p13]
  simp only
  rw [pq6, p14]
  simp only
  rw [pq7, p15]
  simp only
  rw [pq8, p16]
  simp only
  rw [kq9, if_pos rfl]
theorem Chain.no {s : List UInt8} {s2 s3 s4 s5 s6 s7 s8 s9 s10 s11 s12 s13 s14 s15 s16 : Option (List UInt8)} {l1 : List UInt8} {le : List Int} {sl : List (List UInt8)} {bl ga ma : List Int} {sp cu : List Pt}
    (c : Chain s s2 s3 s4 s5 s6 s7 s8 s9 s10 s11 s12 s13 s14 s15 s16 l1 le sl bl ga ma sp cu) (h : s16 ≠ some []) : rawQ s = none := by
  obtain ⟨h1, h2, h3, h4, h5, h6, h7, h8, h9, h10, h11, h12, h13, h14, h15, h16⟩ := c
  cases hq : rawQ s with
  | none => rfl
  | some r =>
    exfalso
    rw [rawQ, rawP, h1] at hq
    simp only [if_true] at hq
    rw [kq1] at hq; split at hq; · cases hq
    rename_i p2
    rw [(step_yes p2 (0 : Int)).1] at h2
    subst h2
    rw [kq2] at hq; split at hq; · cases hq
    rename_i p3
    rw [(step_yes p3 (0 : Int)).1] at h3
    subst h3
    rw [kq3] at hq; split at hq; · cases hq
    rename_i p4
    rw [(step_yes p4 (0 : Int)).1] at h4
    subst h4
    rw [kq4] at hq; split at hq; · cases hq
    rename_i p5
    rw [(step_yes p5 (0 : Int)).1] at h5
    subst h5
    rw [kq5] at hq; split at hq; · cases hq
    rename_i p6
    rw [(step_yes p6 (0 : Int)).1] at h6
    subst h6
    rw [kq6] at hq; split at hq; · cases hq
    rename_i p7
    have e7 := h7.1
    rw [(step_yes p7 ([] : List Int)).1] at e7
    subst e7
    rw [kq7] at hq; split at hq; · cases hq
    rename_i p8
    have e8 := h8.1
    rw [(step_yes p8 ([] : List (List UInt8))).1] at e8
    subst e8
    rw [kq8] at hq; split at hq; · cases hq
    rename_i p9
    rw [kq9] at hq
    split at hq
    rotate_left
    · cases hq
    rename_i hnil
    subst hnil
    rw [planP] at p9; split at p9; · cases p9
    rename_i q9
    rw [(step_yes q9 (0 : Int)).1] at h9
    subst h9
    rw [pq2] at p9; split at p9; · cases p9
    rename_i q10
    have e10 := h10.2.1
    rw [(step_yes q10 ([] : List Int)).1] at e10
    subst e10
    rw [pq3] at p9; split at p9; · cases p9
    rename_i q11
    rw [(step_yes q11 (0 : Int)).1] at h11
    subst h11
    rw [pq4] at p9; split at p9; · cases p9
    rename_i q12
    have e12 := h12.1
    rw [(step_yes q12 ([] : List Pt)).1] at e12
    subst e12
    rw [pq5] at p9; split at p9; · cases p9
    rename_i q13
    have e13 := h13.2.1
    rw [(step_yes q13 ([] : List Int)).1] at e13
    subst e13
    rw [pq6] at p9; split at p9; · cases p9
    rename_i q14
    have e14 := h14.2.1
    rw [(step_yes q14 ([] : List Int)).1] at e14
    subst e14
    rw [pq7] at p9; split at p9; · cases p9
    rename_i q15
    have e15 := h15.1
    rw [(step_yes q15 ([] : List Pt)).1] at e15
    subst e15
    rw [pq8] at p9; split at p9; · cases p9
    rename_i q16
    rw [(step_yes q16 (0 : Int)).1] at h16
    cases p9
    exact h h16
theorem rawQ_mark {s : List UInt8} (h : valO textP [] (some s) ≠ darkL) : rawQ s = none := by
  rw [rawQ, rawP]
  cases ht : textP s with
  | none => rfl
  | some x =>
    obtain ⟨m, l⟩ := x
    rw [(step_yes ht ([] : List UInt8)).2] at h
    simp only
    rw [if_neg h]
theorem mark_of {s : List UInt8} (h : valO textP [] (some s) = darkL) : ∃ l1, textP s = some (darkL, l1) ∧ nxtO textP (some s) = some l1 := by
  cases ht : textP s with
  | none => rw [(step_no ht ([] : List UInt8)).2] at h; cases h
  | some x =>
    obtain ⟨m, l⟩ := x
    obtain ⟨e1, e2⟩ := step_yes ht ([] : List UInt8)
    rw [e2] at h
    exact ⟨l, by rw [h], e1⟩
end Go.Proofs.YtanebhbfekcplaaGreat

namespace Go.Proofs.YtanebhbfekcplaaGreat
set_option linter.unusedVariables false
open Go.RowKit
theorem wpList_build_row {P : Program} {ops : Array Oper} {rest : List Oper} {o : Oper} {a : Act} {w : World} {Q : Exit → Act → World → Prop} (hg : o.guard = none) (t : TypeId) (parts : Array (Nat × Operand)) (ho : o.op = .build t parts) (cs : Array Value)
    (hf : P.built t (parts.map fun (i, x) => (i, a.eval x)).toList = some cs)
    (h : wpList P ops Q rest (a.put o.dst (.agg cs)) w) : wpList P ops Q (o :: rest) a w :=
  wpList_build hg t parts ho (by rw [hf]; rfl) (by rw [hf]; exact h)
theorem ownsRow_keep {w w' : World} {base : Nat} {e : TypeId} {sz : Nat} {v : Value} {n : Nat} {xs : List Value} (h : w.ownsRow base e sz v n xs) (hk : ∀ g, v.ownBlock = some g → w'.heap[g]? = w.heap[g]?) : w'.ownsRow base e sz v n xs := by
  refine ⟨h.1, ?_⟩
  rcases h.2 with h | ⟨g, cap, cur, hv, hg, hh, r⟩
  · exact .inl h
  · exact .inr ⟨g, cap, cur, hv, hg, (hk g (by rw [hv]; rfl)).trans hh, r⟩
abbrev RowX := TypeId × Nat × Value × Nat × List Value
structure EJ (w : World) (QX : Nat) (st : Option (List UInt8)) (cs : List Value) (X : List RowX) (V : World) : Prop where
  qx : w.heap.size + 1 < QX
  bel : Below w.heap.size w V
  res : Holds w.heap.size 32 rawZ.toList V
  eye : IsEye (w.heap.size + 1) st V
  box : Holds QX 32 cs V
  ty : ∀ x ∈ X, 32 ≠ x.1
  rows : ∀ x ∈ X, V.ownsRow QX x.1 x.2.1 x.2.2.1 x.2.2.2.1 x.2.2.2.2
theorem EJ.num {w : World} {QX : Nat} {st st' : Option (List UInt8)} {cs : List Value} {X : List RowX} {V V' : World} (h : EJ w QX st cs X V) (he : IsEye (w.heap.size + 1) st' V') (hs : RSt w.heap.size (w.heap.size + 1) V V') : EJ w QX st' cs X V' where
  qx := h.qx
  bel := h.bel.trans hs.bel
  res := (hs.keep _ h.res.lt (by omega)).trans h.res
  eye := he
  box := (hs.keep _ h.box.lt (by have := h.qx; omega)).trans h.box
  ty := h.ty
  rows := fun x hx => ownsRow_keep (h.rows x hx) (fun g hg => hs.keep g ((h.rows x hx).lt g hg).2 (by have := ((h.rows x hx).lt g hg).1; have := h.qx; omega))
theorem EJ.put {w : World} {QX : Nat} {st : Option (List UInt8)} {cs : List Value} {X : List RowX} {V : World} (h : EJ w QX st cs X V) (i : Nat) (v : Value) : EJ w QX st (cs.set i v) X (V.setCell ⟨QX, i, none⟩ v) where
  qx := h.qx
  bel := h.bel.setCell (p := ⟨QX, i, none⟩) (by have := h.qx; show w.heap.size ≤ QX; omega) _
  res := (Below.heap_setCell _ _ _ _ (by have := h.qx; show w.heap.size ≠ QX; omega)).trans h.res
  eye := h.eye.of (Below.heap_setCell _ _ _ _ (by have := h.qx; show w.heap.size + 1 ≠ QX; omega))
  box := holds_cell h.box i v
  ty := h.ty
  rows := fun x hx => ownsRow_setCell_other (h.rows x hx) (fun e => own_ne (h.rows x hx) h.box (h.ty x hx) e.symm) _
theorem EJ.low {w : World} {QX : Nat} {st : Option (List UInt8)} {cs : List Value} {X : List RowX} {V V' : World} (h : EJ w QX st cs X V) (hb : Below V.heap.size V V') : EJ w QX st cs X V' where
  qx := h.qx
  bel := h.bel.trans (hb.mono h.bel.size)
  res := (hb.block _ h.res.lt).trans h.res
  eye := h.eye.of (hb.block _ h.eye.lt)
  box := (hb.block _ h.box.lt).trans h.box
  ty := h.ty
  rows := fun x hx => ownsRow_below (h.rows x hx) hb
theorem EJ.app {w : World} {QX : Nat} {st : Option (List UInt8)} {cs : List Value} {X : List RowX} {V w1 : World} {e : TypeId} {sz n m i : Nat} {ao : Option Addr} {cap : Nat} {v' : Value} {xs ys : List Value} (h : EJ w QX st cs ((e, sz, .slice ao n cap, n, xs) :: X) V) (hi : cs[i]? = some (.slice ao n cap))
    (hg : V.grownBy w1 (Value.slice ao n cap).ownBlock) (ho : w1.ownsRow QX e sz v' m ys) (hX : ∀ x ∈ X, x.1 ≠ e) :
    w1.cell? ⟨QX, i, none⟩ = some (.slice ao n cap) ∧ w1.frozen? ⟨QX, i, none⟩ = false ∧ EJ w QX st (cs.set i v') ((e, sz, v', m, ys) :: X) (w1.setCell ⟨QX, i, none⟩ v') := by
  have hr := h.rows (e, sz, .slice ao n cap, n, xs) (by simp)
  have hte : 32 ≠ e := h.ty (e, sz, .slice ao n cap, n, xs) (by simp)
  simp only at hr
  have hq := h.qx
  obtain ⟨x1, x2, x3, x4, x5, x6⟩ := app_box (i := i) hte h.box hi hr h.bel (by omega) (by omega) h.bel.size hg ho
  refine ⟨x1, x2, hq, x5, ?_, ?_, x3, ?_, ?_⟩
  · exact (x6 _ h.res.lt (fun e' => by have := (hr.lt _ e'.symm).1; omega) (by omega)).trans h.res
  · exact h.eye.of (x6 _ h.eye.lt (fun e' => by have := (hr.lt _ e'.symm).1; omega) (by omega))
  · intro x hx
    rcases List.mem_cons.1 hx with rfl | hx
    · exact hte
    · exact h.ty x (by simp [hx])
  · intro x hx
    rcases List.mem_cons.1 hx with rfl | hx
    · exact x4
    · have hrx := h.rows x (by simp [hx])
      refine ownsRow_keep hrx (fun g hg' => x6 g (hrx.lt g hg').2 ?_ ?_)
      · intro e'
        rcases hr.2 with ⟨hv, _⟩ | ⟨g2, cap2, cur2, hv2, _, hgg2, _⟩
        · rw [hv] at e'; cases e'
        · rw [hv2] at e'
          simp only [Value.ownBlock, Option.some.injEq] at e'
          subst e'
          exact own_ne hrx hgg2 (fun e'' => hX x hx e''.symm) hg'.symm
      · exact fun e' => own_ne hrx h.box (h.ty x (by simp [hx])) (by rw [← e']; exact hg'.symm)
theorem EJ.row0 {w : World} {QX : Nat} {st : Option (List UInt8)} {cs : List Value} {X : List RowX} {V : World} (h : EJ w QX st cs X V) (e : TypeId) (sz : Nat) (he : 32 ≠ e) : EJ w QX st cs ((e, sz, .slice none 0 0, 0, []) :: X) V where
  qx := h.qx
  bel := h.bel
  res := h.res
  eye := h.eye
  box := h.box
  ty := fun x hx => by
    rcases List.mem_cons.1 hx with rfl | hx
    · exact he
    · exact h.ty x hx
  rows := fun x hx => by
    rcases List.mem_cons.1 hx with rfl | hx
    · exact ⟨by simp, .inl ⟨rfl, rfl⟩⟩
    · exact h.rows x hx
theorem Tryz.infoSpotF : (Tryz.prog.info? 77).map (fun i => (i.zero, i.size, i.bytes)) = some (some (.agg #[.int .i64 0, .int .i64 0]), 2, 16) := by kernel_rfl
theorem Tryz.infoPointF : (Tryz.prog.info? 78).map (fun i => (i.zero, i.size, i.bytes)) = some (some (.agg #[.int .i64 0, .int .i64 0]), 2, 16) := by kernel_rfl
def intV (x : Int) : Value := .int .i64 x
set_option maxRecDepth 100000 in
set_option maxHeartbeats 12800000 in
theorem refFrom_any (s : List UInt8) (w : World) (hs : s.length ≤ 140737488355328) :
    Calls Tryz.prog 18 #[.string (str s)] w fun e w' => Below w.heap.size w w' ∧ ((∃ r lv tv sv cv, rawRd s = some (nrm r) ∧ e = .returned (.tuple #[.agg (rawA r lv tv sv cv), .bool true]) ∧ IsRaw w' r lv tv sv cv ∧ Fresh w.heap.size lv ∧ Fresh w.heap.size tv ∧ Fresh w.heap.size sv ∧ Fresh w.heap.size cv) ∨
      (rawRd s = none ∧ e = .returned (.tuple #[.agg rawZ, .bool false]))) := by
  obtain ⟨a1, a2⟩ := al2 w (Obj.cells rawZ 32) (Obj.cells #[.string (str s), .bool false] 81)
  have HB := hide (be2 w (Obj.cells rawZ 32) (Obj.cells #[.string (str s), .bool false] 81))
  have hl1 := (Array.getElem?_eq_some_iff.1 a1).1
  have iz : (Tryz.prog.info? 32).map (·.size) = some (rawZ : Array Value).size := by kernel_rfl
  have oz : (rawZ : Array Value).all (·.oneCell') = true := by simp [Value.oneCell']
  have HE := hide (show IsEye (w.heap.size + 1) (some s) ((w.alloc (Obj.cells rawZ 32)).alloc (Obj.cells #[.string (str s), .bool false] 81)) from .inl ⟨s, rfl, a2⟩)
  have HRS := hide (show Holds w.heap.size 32 rawZ.toList ((w.alloc (Obj.cells rawZ 32)).alloc (Obj.cells #[.string (str s), .bool false] 81)) from a1)
  obtain ⟨RR, hRR⟩ : ∃ RR, rawRd s = RR := ⟨_, rfl⟩
  rw [hRR]
  have HRR := hide hRR
  clear hRR a1 a2
  go_enter Tryz.func18, Tryz.ntmps18
  go_wp2_with fail
  generalize (w.alloc (Obj.cells rawZ 32)).alloc (Obj.cells #[.string (str s), .bool false] 81) = U at *
  refine (eyeText_any w.heap.size (w.heap.size + 1) (some s) U (by omega) HE.out (by show s.length ≤ _; omega)).mono ?_
  rintro e V1 ⟨rfl, hE1, hS1⟩
  have hb1 := HB.out.trans hS1.bel
  have hr1 : Holds w.heap.size 32 rawZ.toList V1 := (hS1.keep _ hl1 (by omega)).trans HRS.out
  obtain ⟨m, hm⟩ : ∃ m, valO textP [] (some s) = m := ⟨_, rfl⟩
  rw [hm]
  by_cases hd : m = darkL
  rotate_left
  · have HN := hide (show RR = none by rw [← HRR.out]; exact rd_none_of_q (rawQ_mark (by rw [hm]; exact hd)))
    have hq : ((str m).toList == [100, 97, 114, 107]) = false := by rw [Lib.toList_data, str_data]; exact beq_false_of_ne hd
    have hq2 : ((str m).toList != [100, 97, 114, 107]) = true := by rw [bne, hq]; rfl
    have HG := hide (setRow_heap _ _ _ rawZ _ _ hr1)
    have HBF := hide (below_setRow (g := w.heap.size) hb1 (Nat.le_refl _) rawZ)
    clear hE1 hS1 hd hm
    go_wp2_with (refine wpList_store_row rfl 32 _ _ rfl w.heap.size rawZ rfl rfl _ _ hr1 iz rfl oz ?_)
    refine bodyPost_ret (v := .tuple #[.agg rawZ, .bool false]) (raw_results Tryz.results18 _ _ _ _ _ rfl rfl HG.out iz) rfl ⟨HBF.out, .inr ⟨HN.out, rfl⟩⟩
  subst hd
  obtain ⟨l1, ht1, hn1⟩ := mark_of hm
  rw [hn1] at hE1
  have hll : lenO (some l1) ≤ s.length := by have := text_len ht1; exact this
  have HT1 := hide ht1
  have hq : ((str darkL).toList == [100, 97, 114, 107]) = true := by rw [Lib.toList_data, str_data]; rfl
  have hq2 : ((str darkL).toList != [100, 97, 114, 107]) = false := by rw [bne, hq]; rfl
  obtain ⟨s1, hs1⟩ : ∃ s1, some l1 = s1 := ⟨_, rfl⟩
  rw [hs1] at hE1 hll
  have HS1 := hide hs1
  have HE := hide hE1
  have HRS := hide hr1
  have HB1 := hide hb1
  clear hm ht1 hn1 hs1 hE1 hr1 hb1 hS1 HB
  go_wp2_with fail
  refine (eyeNum_any w.heap.size (w.heap.size + 1) s1 V1 (by omega) HE.out (by omega)).mono ?_
  rintro e V2 ⟨rfl, hE, hS⟩
  obtain ⟨s2, hs⟩ : ∃ s', nxtO numP s1 = s' := ⟨_, rfl⟩
  rw [hs] at hE
  obtain ⟨xw, hv⟩ : ∃ x, valO numP 0 s1 = x := ⟨_, rfl⟩
  rw [hv]
  have HS2 := hide hs
  have HV2 := hide hv
  have hl2 : lenO s2 ≤ s.length := by have := lenO_nxt (p := numP) (fun _ _ _ => num_len) s1; rw [hs] at this; omega
  replace HRS := hide (show Holds w.heap.size 32 rawZ.toList V2 from (hS.keep _ HRS.out.lt (by omega)).trans HRS.out)
  replace HB1 := hide (HB1.out.trans hS.bel)
  replace HE := hide hE
  clear hE hS hs hv
  go_wp2_with fail
  refine (eyeNum_any w.heap.size (w.heap.size + 1) s2 V2 (by omega) HE.out (by omega)).mono ?_
  rintro e V3 ⟨rfl, hE, hS⟩
  obtain ⟨s3, hs⟩ : ∃ s', nxtO numP s2 = s' := ⟨_, rfl⟩
  rw [hs] at hE
  obtain ⟨xh, hv⟩ : ∃ x, valO numP 0 s2 = x := ⟨_, rfl⟩
  rw [hv]
  have HS3 := hide hs
  have HV3 := hide hv
  have hl3 : lenO s3 ≤ s.length := by have := lenO_nxt (p := numP) (fun _ _ _ => num_len) s2; rw [hs] at this; omega
  replace HRS := hide (show Holds w.heap.size 32 rawZ.toList V3 from (hS.keep _ HRS.out.lt (by omega)).trans HRS.out)
  replace HB1 := hide (HB1.out.trans hS.bel)
  replace HE := hide hE
  clear hE hS hs hv
  go_wp2_with fail
  refine (eyeNum_any w.heap.size (w.heap.size + 1) s3 V3 (by omega) HE.out (by omega)).mono ?_
  rintro e V4 ⟨rfl, hE, hS⟩
  obtain ⟨s4, hs⟩ : ∃ s', nxtO numP s3 = s' := ⟨_, rfl⟩
  rw [hs] at hE
  obtain ⟨xd, hv⟩ : ∃ x, valO numP 0 s3 = x := ⟨_, rfl⟩
  rw [hv]
  have HS4 := hide hs
  have HV4 := hide hv
  have hl4 : lenO s4 ≤ s.length := by have := lenO_nxt (p := numP) (fun _ _ _ => num_len) s3; rw [hs] at this; omega
  replace HRS := hide (show Holds w.heap.size 32 rawZ.toList V4 from (hS.keep _ HRS.out.lt (by omega)).trans HRS.out)
  replace HB1 := hide (HB1.out.trans hS.bel)
  replace HE := hide hE
  clear hE hS hs hv
  go_wp2_with fail
  refine (eyeNum_any w.heap.size (w.heap.size + 1) s4 V4 (by omega) HE.out (by omega)).mono ?_
  rintro e V5 ⟨rfl, hE, hS⟩
  obtain ⟨s5, hs⟩ : ∃ s', nxtO numP s4 = s' := ⟨_, rfl⟩
  rw [hs] at hE
  obtain ⟨xk, hv⟩ : ∃ x, valO numP 0 s4 = x := ⟨_, rfl⟩
  rw [hv]
  have HS5 := hide hs
  have HV5 := hide hv
  have hl5 : lenO s5 ≤ s.length := by have := lenO_nxt (p := numP) (fun _ _ _ => num_len) s4; rw [hs] at this; omega
  replace HRS := hide (show Holds w.heap.size 32 rawZ.toList V5 from (hS.keep _ HRS.out.lt (by omega)).trans HRS.out)
  replace HB1 := hide (HB1.out.trans hS.bel)
  replace HE := hide hE
  clear hE hS hs hv
  go_wp2_with fail
  refine (eyeNum_any w.heap.size (w.heap.size + 1) s5 V5 (by omega) HE.out (by omega)).mono ?_
  rintro e V6 ⟨rfl, hE, hS⟩
  obtain ⟨s6, hs⟩ : ∃ s', nxtO numP s5 = s' := ⟨_, rfl⟩
  rw [hs] at hE
  obtain ⟨xr, hv⟩ : ∃ x, valO numP 0 s5 = x := ⟨_, rfl⟩
  rw [hv]
  have HS6 := hide hs
  have HV6 := hide hv
  have hl6 : lenO s6 ≤ s.length := by have := lenO_nxt (p := numP) (fun _ _ _ => num_len) s5; rw [hs] at this; omega
  replace HRS := hide (show Holds w.heap.size 32 rawZ.toList V6 from (hS.keep _ HRS.out.lt (by omega)).trans HRS.out)
  replace HB1 := hide (HB1.out.trans hS.bel)
  replace HE := hide hE
  clear hE hS hs hv
  obtain ⟨RA, hRA⟩ : ∃ RA : Array Value, #[.int .i64 xw, .int .i64 xh, .int .i64 xd, .int .i64 xk, .int .i64 xr, .slice none 0 0, .slice none 0 0, .int .i64 0, .int .i64 0, .int .i64 0, .int .i64 0, .int .i64 0, .int .i64 0, .slice none 0 0, .int .i64 0, .int .i64 0, .int .i64 0, .int .i64 0, .int .i64 0, .int .i64 0, .int .i64 0, .int .i64 0, .int .i64 0, .int .i64 0, .int .i64 0, .int .i64 0, .slice none 0 0, .int .i64 0] = RA := ⟨_, rfl⟩
  have hbu : Tryz.prog.built 32 [(0, .int .i64 xw), (1, .int .i64 xh), (2, .int .i64 xd), (3, .int .i64 xk), (4, .int .i64 xr)] = some RA := by rw [← hRA]; kernel_rfl
  have i1 : (Tryz.prog.info? 32).map (·.size) = some RA.size := by rw [← hRA]; exact iz
  have i2 : (rawZ : Array Value).size = RA.size := by rw [← hRA]; rfl
  have hos : RA.all (·.oneCell') = true := by rw [← hRA]; simp [Value.oneCell']
  have z1 := al1 V6 (Obj.cells rawZ 32)
  have c1 := setRow_heap _ _ _ RA _ _ z1
  have HBX := hide (below_setRow (g := V6.heap.size) (bel_alloc V6 (Obj.cells rawZ 32)) (Nat.le_refl _) RA)
  have HEJ := hide (show EJ w V6.heap.size s6 [.int .i64 xw, .int .i64 xh, .int .i64 xd, .int .i64 xk, .int .i64 xr, .slice none 0 0, .slice none 0 0, .int .i64 0, .int .i64 0, .int .i64 0, .int .i64 0, .int .i64 0, .int .i64 0, .slice none 0 0, .int .i64 0, .int .i64 0, .int .i64 0, .int .i64 0, .int .i64 0, .int .i64 0, .int .i64 0, .int .i64 0, .int .i64 0, .int .i64 0, .int .i64 0, .int .i64 0, .slice none 0 0, .int .i64 0] [] ((V6.alloc (Obj.cells rawZ 32)).setRow V6.heap.size RA) from by
    have hq := HE.out.lt
    refine ⟨hq, HB1.out.trans (HBX.out.mono HB1.out.size), (HBX.out.block _ HRS.out.lt).trans HRS.out, HE.out.of (HBX.out.block _ hq), ?_, by simp, by simp⟩
    rw [← hRA] at c1 ⊢
    exact c1)
  clear hRA c1 HBX HRS HB1 HE
  dsimp only
  rename_i hKK
  refine hKK _ _ ?_
  clear hKK
  refine wpList_build_row rfl 32 _ rfl RA ?hf ?_
  case hf => exact Eq.trans (congrArg (Tryz.prog.built 32) (by kernel_rfl)) hbu
  simp only [Act.put, List.setIfInBounds_toArray, List.set_cons_succ, List.set_cons_zero]
  go_upto_region 5 with (refine wpList_store_row rfl 32 _ _ rfl V6.heap.size RA rfl rfl _ _ z1 i1 i2 hos ?_)
  simp only [Act.put]
  clear z1 hbu i1 i2 hos
  generalize (V6.alloc (Obj.cells rawZ 32)).setRow V6.heap.size RA = W6 at *
  generalize V6.heap.size = QX at *
  have HJ := HEJ
  have hQ : w.heap.size + 1 < QX := HJ.out.qx
  clear HEJ
  go_wp2_with fail
  refine (eyeCount_any w.heap.size (w.heap.size + 1) s6 W6 (by omega) HJ.out.eye (by omega)).mono ?_
  rintro e C7 ⟨rfl, hE, hS⟩
  obtain ⟨N7, hN, hN7⟩ := cntL_nonneg s6
  rw [hN]
  have HN7 := hide hN
  obtain ⟨q7, hs'⟩ : ∃ s', nxtO cntL s6 = s' := ⟨_, rfl⟩
  rw [hs'] at hE
  have HC7 := hide hs'
  have hlq7 : lenO q7 ≤ s.length := by have := lenO_nxt (p := cntL) (fun _ _ _ => cntL_len) s6; rw [hs'] at this; omega
  replace HJ := hide ((HJ.out.num hE hS).row0 3 1 (by decide))
  clear hE hS hs' hN
  go_upto_block 0 with fail
  go_cut [6] from 36 (fun i v => ∃ (ys : List Int) (st : Option (List UInt8)) (k : Nat) (ao : Option Addr) (cap : Nat), ys.length = k ∧ k ≤ 2147483647 ∧ LS numP s6 ys st ∧ lenO st ≤ s.length ∧ EJ w QX st [.int .i64 xw, .int .i64 xh, .int .i64 xd, .int .i64 xk, .int .i64 xr, .slice ao k cap, .slice none 0 0, .int .i64 0, .int .i64 0, .int .i64 0, .int .i64 0, .int .i64 0, .int .i64 0, .slice none 0 0, .int .i64 0, .int .i64 0, .int .i64 0, .int .i64 0, .int .i64 0, .int .i64 0, .int .i64 0, .int .i64 0, .int .i64 0, .int .i64 0, .int .i64 0, .int .i64 0, .slice none 0 0, .int .i64 0] [(3, 1, .slice ao k cap, k, ys.map intV)] v)
  case first =>
    go_wp2_with fail
    obtain ⟨i0, hi, hz0, hz1, hz2⟩ := info_parts Tryz.infoInt
    go_loopw [6] (fun i wr => ∃ k : Nat, k ≤ N7 ∧ i = .int .i64 ((N7 : Int) - k) ∧ ∃ (ys : List Int) (st : Option (List UInt8)) (ao : Option Addr) (cap : Nat), MS numP k q7 ys st ∧ lenO st ≤ s.length ∧ EJ w QX st [.int .i64 xw, .int .i64 xh, .int .i64 xd, .int .i64 xk, .int .i64 xr, .slice ao k cap, .slice none 0 0, .int .i64 0, .int .i64 0, .int .i64 0, .int .i64 0, .int .i64 0, .int .i64 0, .slice none 0 0, .int .i64 0, .int .i64 0, .int .i64 0, .int .i64 0, .int .i64 0, .int .i64 0, .int .i64 0, .int .i64 0, .int .i64 0, .int .i64 0, .int .i64 0, .int .i64 0, .slice none 0 0, .int .i64 0] [(3, 1, .slice ao k cap, k, ys.map intV)] wr) (fun i _ => (intOf i).toNat)
    case atStart => exact ⟨0, Nat.zero_le _, by simp, [], q7, none, 0, MS.zero _ _, hlq7, HJ.out⟩
    case round =>
      clear HJ
      obtain ⟨k, hk, rfl, ys, st, ao, cap, hM, hls, hJ⟩ := hrel
      have HJ := hide hJ
      have HM := hide hM
      clear hJ hM
      by_cases hlt : k < N7
      rotate_left
      · obtain rfl : k = N7 := by omega
        have hd : decide ((0 : Int) < (k : Int) - (k : Int)) = false := decide_eq_false (by omega)
        have hd2 : decide ((0 : Int) < 0) = false := rfl
        have hsub : (k : Int) - (k : Int) = 0 := by omega
        rw [hsub]
        go_wp2
        go_meet
        case rel => exact ⟨ys, st, k, ao, cap, HM.out.1, hN7, LS.of HN7.out (by rw [HC7.out]; exact HM.out) (.inl rfl), hls, HJ.out⟩
      obtain ⟨J, hJ⟩ : ∃ J : Int, (N7 : Int) - k = J := ⟨_, rfl⟩
      rw [hJ]
      have hJ0 : 0 < J := by omega
      have hd : decide ((0 : Int) < J) = true := decide_eq_true hJ0
      rcases id HJ.out.eye with ⟨l, rfl, he⟩ | ⟨rfl, l, _, he⟩
      rotate_left
      · have hbad : wr.cell? ⟨w.heap.size + 1, 1, none⟩ = some (.bool true) := (bx2 he).2
        clear he hJ
        go_wp2
        go_meet
        case rel => exact ⟨ys, none, k, ao, cap, HM.out.1, by omega, LS.of HN7.out (by rw [HC7.out]; exact HM.out) (.inr ⟨rfl, hk⟩), hls, HJ.out⟩
      have hbad : wr.cell? ⟨w.heap.size + 1, 1, none⟩ = some (.bool false) := (bx2 he).2
      obtain ⟨st, hst⟩ : ∃ st, some l = st := ⟨_, rfl⟩
      rw [hst] at HJ HM hls
      clear he hst
      have hwJ : IntKind.i64.wrap (J - 1) = J - 1 := IntWalk.i64_in _ (by omega)
      have HSQ := hide (fun (v : World) (st' : Option (List UInt8)) (hv : EJ w QX st' [.int .i64 xw, .int .i64 xh, .int .i64 xd, .int .i64 xk, .int .i64 xr, .slice ao k cap, .slice none 0 0, .int .i64 0, .int .i64 0, .int .i64 0, .int .i64 0, .int .i64 0, .int .i64 0, .slice none 0 0, .int .i64 0, .int .i64 0, .int .i64 0, .int .i64 0, .int .i64 0, .int .i64 0, .int .i64 0, .int .i64 0, .int .i64 0, .int .i64 0, .int .i64 0, .int .i64 0, .slice none 0 0, .int .i64 0] [(3, 1, .slice ao k cap, k, ys.map intV)] v) => show v.cell? ⟨QX, 5, none⟩ = some (.slice ao k cap) ∧ True from ⟨by rw [Lib.cell_of_heap hv.box]; rfl, trivial⟩)
      have HL1 := hide (show k + 1 ≤ maxLen by unfold maxLen; omega)
      have HL2 := hide (show (k + 1) * 8 ≤ 140737488355328 by omega)
      have HJJ := hide hJ
      have HX := hide (show ∀ x ∈ ([] : List RowX), x.1 ≠ 3 from by simp)
      clear hJ
      go_upto_region 8 with fail
      clear hbad
      have HJd := hide (HJ.out.low ((Below.refl wr.heap.size wr).drew))
      have hSd := HSQ.out _ _ HJd.out
      have hmx : Tryz.prog.follows .mixedOrders = true := by kernel_rfl
      refine wp_region_last (S := (fun v : World => v.cell? ⟨QX, 5, none⟩ = some (.slice ao k cap) ∧ True)) (f := 7) hmx ?_
      show wpAnyF _ _ _ _ _ _ 8 _ _ wr.drew
      refine wpAnyF_takeP (i := 0) (oi := _) (v := ?vv1) (some 47) [] rfl rfl (by kernel_rfl) (by kernel_rfl) (by kernel_rfl) (by kernel_rfl) (by kernel_rfl) (fun _ _ _ h => h) (Or.inl ⟨by rfl, ?yy1⟩) hSd ?rr1
      case yy1 => (intro wq hSq; obtain ⟨_, _⟩ := hSq; go_simp <;> with_reducible rfl)
      simp only [Act.put, List.setIfInBounds_toArray, List.set_cons_succ, List.set_cons_zero]
      refine wpAnyF_takeP (i := 2) (oi := _) (v := ?vv2) (some 49) [] rfl rfl (by kernel_rfl) (by kernel_rfl) (by kernel_rfl) (by kernel_rfl) (by kernel_rfl) (fun _ _ _ h => h) (Or.inl ⟨by rfl, ?yy2⟩) hSd ?rr2
      case yy2 => (intro wq hSq; obtain ⟨_, _⟩ := hSq; go_simp <;> with_reducible rfl)
      simp only [Act.put, List.setIfInBounds_toArray, List.set_cons_succ, List.set_cons_zero]
      refine wpAnyF_takeP (i := 1) (oi := _) (v := ?vv3) (some 48) [] rfl rfl (by kernel_rfl) (by kernel_rfl) (by kernel_rfl) (by kernel_rfl) (by kernel_rfl) (fun _ _ _ h => h) (Or.inl ⟨by rfl, ?yy3⟩) hSd ?rr3
      case yy3 => (intro wq hSq; obtain ⟨_, _⟩ := hSq; go_simp <;> with_reducible rfl)
      simp only [Act.put, List.setIfInBounds_toArray, List.set_cons_succ, List.set_cons_zero]
      refine wpAnyF_one (i := 3) (o := _) (by kernel_rfl) rfl (fun K' hK => ?_)
      rw [if_pos (by rfl)]
      go_simp
      refine (eyeNum_any w.heap.size (w.heap.size + 1) st wr.drew (by omega) HJd.out.eye (by omega)).mono ?_
      rintro e X1 ⟨rfl, hE, hS⟩
      obtain ⟨st2, hs'⟩ : ∃ s', nxtO numP st = s' := ⟨_, rfl⟩
      obtain ⟨y, hv⟩ : ∃ x, valO numP 0 st = x := ⟨_, rfl⟩
      rw [hs'] at hE
      rw [hv]
      have HAst2 := hide hs'
      have HBst2 := hide hv
      have hlst2 : lenO st2 ≤ s.length := by have := lenO_nxt (p := numP) (fun _ _ _ => num_len) st; rw [hs'] at this; omega
      have HJ1 := hide (HJd.out.num hE hS)
      clear hE hS hs' hv
      have hSd := HSQ.out _ _ HJ1.out
      refine hK.out _ _ hSd ?_
      clear hK
      try simp only [Act.put]
      refine wpAnyF_one (i := 4) (o := _) (by kernel_rfl) rfl (fun K' hK => ?_)
      rw [if_pos (by rfl)]
      go_simp
      have HJ3 := hide (HJ1.out.low (bel_alloc X1 (Obj.cells #[.int .i64 y] 3)))
      have hSd := HSQ.out _ _ HJ3.out
      refine hK.out _ _ hSd ?_
      clear hK
      try simp only [Act.put]
      refine wpAnyF_one (i := 5) (o := _) (by kernel_rfl) rfl (fun K' hK => ?_)
      refine step_append_lies _ rfl _ _ 22 rfl QX 3 i0 (.int .i64 0) 1 8 Tryz.underlying22 hi hz0 hz1 hz2 rfl (by decide) (.slice ao k cap) k (ys.map intV) rfl (HJ3.out.rows (3, 1, .slice ao k cap, k, ys.map intV) (by simp)) ⟨X1.heap.size, 0, none⟩ 1 1 [.int .i64 y] rfl rfl (World.news_of_block (al1 X1 _)) (fun u hu => by simp at hu; subst hu; rfl) Nat.one_pos HL1.out HL2.out (Nat.le_of_lt HJ3.out.box.lt) _ rfl ?_
      intro gg cp w3 hown hgrow hat hltg
      obtain ⟨x1, x2, x3⟩ := HJ3.out.app (i := 5) rfl hgrow hown HX.out
      have hSd := (⟨x1, trivial⟩ : w3.cell? ⟨QX, 5, none⟩ = some (.slice ao k cap) ∧ True)
      refine hK.out _ _ hSd ?_
      clear hK
      try simp only [Act.put]
      refine wpAnyF_takeP (i := 6) (oi := _) (v := ?vv4) (some 53) [] rfl rfl (by kernel_rfl) (by kernel_rfl) (by kernel_rfl) (by kernel_rfl) (by kernel_rfl) (fun _ _ _ h => h) (Or.inl ⟨by rfl, ?yy4⟩) hSd ?rr4
      case yy4 => (intro wq hSq; obtain ⟨_, _⟩ := hSq; go_simp <;> with_reducible rfl)
      try simp only [Act.put]
      refine wpAnyF_last (o := _) (by kernel_rfl) rfl (fun K' hK => ?_)
      rw [if_pos (by rfl)]
      go_simp
      refine hK.out _ _ ?_
      clear hK
      refine wpAnyF_done (by kernel_rfl) ?_ _
      try simp only [Act.put]
      clear hSd
      have HF := hide (show MS numP (k + 1) q7 (ys ++ [y]) st2 from by
            have hn := HM.out.next 0 y (fun _ => HBst2.out.symm)
            rw [HAst2.out] at hn
            exact hn)
      have HJ4 := hide (show EJ w QX st2 [.int .i64 xw, .int .i64 xh, .int .i64 xd, .int .i64 xk, .int .i64 xr, .slice (some ⟨gg, 0, none⟩) (k + 1) cp, .slice none 0 0, .int .i64 0, .int .i64 0, .int .i64 0, .int .i64 0, .int .i64 0, .int .i64 0, .slice none 0 0, .int .i64 0, .int .i64 0, .int .i64 0, .int .i64 0, .int .i64 0, .int .i64 0, .int .i64 0, .int .i64 0, .int .i64 0, .int .i64 0, .int .i64 0, .int .i64 0, .slice none 0 0, .int .i64 0] [(3, 1, .slice (some ⟨gg, 0, none⟩) (k + 1) cp, (k + 1), (ys ++ [y]).map intV)] (w3.setCell ⟨QX, 5, none⟩ (.slice (some ⟨gg, 0, none⟩) (k + 1) cp)) from by
            have e : (ys ++ [y]).map intV = ys.map intV ++ [.int .i64 y] := by simp [intV]
            rw [e]
            exact x3)
      clear x3 hown hgrow hat hltg
      go_wp2
      go_roundw
      case rel => exact ⟨k + 1, hlt, by (first | (go_num; done) | (congr 1; have := HJJ.out; omega)), _, _, _, _, HF.out, hlst2, HJ4.out⟩
      case measure => simp [intOf]; omega
  case rest =>
    obtain ⟨y7, s7, K7, ao7, cap7, hyl7, hK7, hLS, hl7, hJ⟩ := hcut
    have HLS7 := hide hLS
    have HJ := hide hJ
    clear hLS hJ HN7 HC7 hlq7
    generalize wc = W7 at *
    go_wp2_with fail
    refine (eyeCount_any w.heap.size (w.heap.size + 1) s7 W7 (by omega) HJ.out.eye (by omega)).mono ?_
    rintro e C8 ⟨rfl, hE, hS⟩
    obtain ⟨N8, hN, hN8⟩ := cntL_nonneg s7
    rw [hN]
    have HN8 := hide hN
    obtain ⟨q8, hs'⟩ : ∃ s', nxtO cntL s7 = s' := ⟨_, rfl⟩
    rw [hs'] at hE
    have HC8 := hide hs'
    have hlq8 : lenO q8 ≤ s.length := by have := lenO_nxt (p := cntL) (fun _ _ _ => cntL_len) s7; rw [hs'] at this; omega
    replace HJ := hide ((HJ.out.num hE hS).row0 9 1 (by decide))
    clear hE hS hs' hN
    go_upto_block 2 with fail
    go_cut [7] from 56 (fun i v => ∃ (ys : List (List UInt8)) (st : Option (List UInt8)) (k : Nat) (ao : Option Addr) (cap : Nat), ys.length = k ∧ k ≤ 2147483647 ∧ LS textP s7 ys st ∧ lenO st ≤ s.length ∧ EJ w QX st [.int .i64 xw, .int .i64 xh, .int .i64 xd, .int .i64 xk, .int .i64 xr, .slice ao7 K7 cap7, .slice ao k cap, .int .i64 0, .int .i64 0, .int .i64 0, .int .i64 0, .int .i64 0, .int .i64 0, .slice none 0 0, .int .i64 0, .int .i64 0, .int .i64 0, .int .i64 0, .int .i64 0, .int .i64 0, .int .i64 0, .int .i64 0, .int .i64 0, .int .i64 0, .int .i64 0, .int .i64 0, .slice none 0 0, .int .i64 0] [(9, 1, .slice ao k cap, k, ys.map strV), (3, 1, .slice ao7 K7 cap7, K7, y7.map intV)] v)
    case first =>
      go_wp2_with fail
      obtain ⟨i0, hi, hz0, hz1, hz2⟩ := info_parts Tryz.infoStrF
      go_loopw [7] (fun i wr => ∃ k : Nat, k ≤ N8 ∧ i = .int .i64 ((N8 : Int) - k) ∧ ∃ (ys : List (List UInt8)) (st : Option (List UInt8)) (ao : Option Addr) (cap : Nat), MS textP k q8 ys st ∧ lenO st ≤ s.length ∧ EJ w QX st [.int .i64 xw, .int .i64 xh, .int .i64 xd, .int .i64 xk, .int .i64 xr, .slice ao7 K7 cap7, .slice ao k cap, .int .i64 0, .int .i64 0, .int .i64 0, .int .i64 0, .int .i64 0, .int .i64 0, .slice none 0 0, .int .i64 0, .int .i64 0, .int .i64 0, .int .i64 0, .int .i64 0, .int .i64 0, .int .i64 0, .int .i64 0, .int .i64 0, .int .i64 0, .int .i64 0, .int .i64 0, .slice none 0 0, .int .i64 0] [(9, 1, .slice ao k cap, k, ys.map strV), (3, 1, .slice ao7 K7 cap7, K7, y7.map intV)] wr) (fun i _ => (intOf i).toNat)
      case atStart => exact ⟨0, Nat.zero_le _, by simp, [], q8, none, 0, MS.zero _ _, hlq8, HJ.out⟩
      case round =>
        clear HJ
        obtain ⟨k, hk, rfl, ys, st, ao, cap, hM, hls, hJ⟩ := hrel
        have HJ := hide hJ
        have HM := hide hM
        clear hJ hM
        by_cases hlt : k < N8
        rotate_left
        · obtain rfl : k = N8 := by omega
          have hd : decide ((0 : Int) < (k : Int) - (k : Int)) = false := decide_eq_false (by omega)
          have hd2 : decide ((0 : Int) < 0) = false := rfl
          have hsub : (k : Int) - (k : Int) = 0 := by omega
          rw [hsub]
          go_wp2
          go_meet
          case rel => exact ⟨ys, st, k, ao, cap, HM.out.1, hN8, LS.of HN8.out (by rw [HC8.out]; exact HM.out) (.inl rfl), hls, HJ.out⟩
        obtain ⟨J, hJ⟩ : ∃ J : Int, (N8 : Int) - k = J := ⟨_, rfl⟩
        rw [hJ]
        have hJ0 : 0 < J := by omega
        have hd : decide ((0 : Int) < J) = true := decide_eq_true hJ0
        rcases id HJ.out.eye with ⟨l, rfl, he⟩ | ⟨rfl, l, _, he⟩
        rotate_left
        · have hbad : wr.cell? ⟨w.heap.size + 1, 1, none⟩ = some (.bool true) := (bx2 he).2
          clear he hJ
          go_wp2
          go_meet
          case rel => exact ⟨ys, none, k, ao, cap, HM.out.1, by omega, LS.of HN8.out (by rw [HC8.out]; exact HM.out) (.inr ⟨rfl, hk⟩), hls, HJ.out⟩
        have hbad : wr.cell? ⟨w.heap.size + 1, 1, none⟩ = some (.bool false) := (bx2 he).2
        obtain ⟨st, hst⟩ : ∃ st, some l = st := ⟨_, rfl⟩
        rw [hst] at HJ HM hls
        clear he hst
        have hwJ : IntKind.i64.wrap (J - 1) = J - 1 := IntWalk.i64_in _ (by omega)
        have HSQ := hide (fun (v : World) (st' : Option (List UInt8)) (hv : EJ w QX st' [.int .i64 xw, .int .i64 xh, .int .i64 xd, .int .i64 xk, .int .i64 xr, .slice ao7 K7 cap7, .slice ao k cap, .int .i64 0, .int .i64 0, .int .i64 0, .int .i64 0, .int .i64 0, .int .i64 0, .slice none 0 0, .int .i64 0, .int .i64 0, .int .i64 0, .int .i64 0, .int .i64 0, .int .i64 0, .int .i64 0, .int .i64 0, .int .i64 0, .int .i64 0, .int .i64 0, .int .i64 0, .slice none 0 0, .int .i64 0] [(9, 1, .slice ao k cap, k, ys.map strV), (3, 1, .slice ao7 K7 cap7, K7, y7.map intV)] v) => show v.cell? ⟨QX, 6, none⟩ = some (.slice ao k cap) ∧ True from ⟨by rw [Lib.cell_of_heap hv.box]; rfl, trivial⟩)
        have HL1 := hide (show k + 1 ≤ maxLen by unfold maxLen; omega)
        have HL2 := hide (show (k + 1) * 16 ≤ 140737488355328 by omega)
        have HJJ := hide hJ
        have HX := hide (show ∀ x ∈ ([(3, 1, .slice ao7 K7 cap7, K7, y7.map intV)] : List RowX), x.1 ≠ 9 from by simp)
        clear hJ
        go_upto_region 12 with fail
        clear hbad
        have HJd := hide (HJ.out.low ((Below.refl wr.heap.size wr).drew))
        have hSd := HSQ.out _ _ HJd.out
        have hmx : Tryz.prog.follows .mixedOrders = true := by kernel_rfl
        refine wp_region_last (S := (fun v : World => v.cell? ⟨QX, 6, none⟩ = some (.slice ao k cap) ∧ True)) (f := 7) hmx ?_
        show wpAnyF _ _ _ _ _ _ 8 _ _ wr.drew
        refine wpAnyF_takeP (i := 0) (oi := _) (v := ?vv5) (some 67) [] rfl rfl (by kernel_rfl) (by kernel_rfl) (by kernel_rfl) (by kernel_rfl) (by kernel_rfl) (fun _ _ _ h => h) (Or.inl ⟨by rfl, ?yy5⟩) hSd ?rr5
        case yy5 => (intro wq hSq; obtain ⟨_, _⟩ := hSq; go_simp <;> with_reducible rfl)
        simp only [Act.put, List.setIfInBounds_toArray, List.set_cons_succ, List.set_cons_zero]
        refine wpAnyF_takeP (i := 2) (oi := _) (v := ?vv6) (some 69) [] rfl rfl (by kernel_rfl) (by kernel_rfl) (by kernel_rfl) (by kernel_rfl) (by kernel_rfl) (fun _ _ _ h => h) (Or.inl ⟨by rfl, ?yy6⟩) hSd ?rr6
        case yy6 => (intro wq hSq; obtain ⟨_, _⟩ := hSq; go_simp <;> with_reducible rfl)
        simp only [Act.put, List.setIfInBounds_toArray, List.set_cons_succ, List.set_cons_zero]
        refine wpAnyF_takeP (i := 1) (oi := _) (v := ?vv7) (some 68) [] rfl rfl (by kernel_rfl) (by kernel_rfl) (by kernel_rfl) (by kernel_rfl) (by kernel_rfl) (fun _ _ _ h => h) (Or.inl ⟨by rfl, ?yy7⟩) hSd ?rr7
        case yy7 => (intro wq hSq; obtain ⟨_, _⟩ := hSq; go_simp <;> with_reducible rfl)
        simp only [Act.put, List.setIfInBounds_toArray, List.set_cons_succ, List.set_cons_zero]
        refine wpAnyF_one (i := 3) (o := _) (by kernel_rfl) rfl (fun K' hK => ?_)
        rw [if_pos (by rfl)]
        go_simp
        refine (eyeText_any w.heap.size (w.heap.size + 1) st wr.drew (by omega) HJd.out.eye (by omega)).mono ?_
        rintro e X1 ⟨rfl, hE, hS⟩
        obtain ⟨st2, hs'⟩ : ∃ s', nxtO textP st = s' := ⟨_, rfl⟩
        obtain ⟨y, hv⟩ : ∃ x, valO textP [] st = x := ⟨_, rfl⟩
        rw [hs'] at hE
        rw [hv]
        have HAst2 := hide hs'
        have HBst2 := hide hv
        have hlst2 : lenO st2 ≤ s.length := by have := lenO_nxt (p := textP) (fun _ _ _ => text_len) st; rw [hs'] at this; omega
        have HJ1 := hide (HJd.out.num hE hS)
        clear hE hS hs' hv
        have hSd := HSQ.out _ _ HJ1.out
        refine hK.out _ _ hSd ?_
        clear hK
        try simp only [Act.put]
        refine wpAnyF_one (i := 4) (o := _) (by kernel_rfl) rfl (fun K' hK => ?_)
        rw [if_pos (by rfl)]
        go_simp
        have HJ3 := hide (HJ1.out.low (bel_alloc X1 (Obj.cells #[.string (str y)] 9)))
        have hSd := HSQ.out _ _ HJ3.out
        refine hK.out _ _ hSd ?_
        clear hK
        try simp only [Act.put]
        refine wpAnyF_one (i := 5) (o := _) (by kernel_rfl) rfl (fun K' hK => ?_)
        refine step_append_lies _ rfl _ _ 23 rfl QX 9 i0 (.string ⟨#[]⟩) 1 16 Tryz.underlying23 hi hz0 hz1 hz2 rfl (by decide) (.slice ao k cap) k (ys.map strV) rfl (HJ3.out.rows (9, 1, .slice ao k cap, k, ys.map strV) (by simp)) ⟨X1.heap.size, 0, none⟩ 1 1 [.string (str y)] rfl rfl (World.news_of_block (al1 X1 _)) (fun u hu => by simp at hu; subst hu; rfl) Nat.one_pos HL1.out HL2.out (Nat.le_of_lt HJ3.out.box.lt) _ rfl ?_
        intro gg cp w3 hown hgrow hat hltg
        obtain ⟨x1, x2, x3⟩ := HJ3.out.app (i := 6) rfl hgrow hown HX.out
        have hSd := (⟨x1, trivial⟩ : w3.cell? ⟨QX, 6, none⟩ = some (.slice ao k cap) ∧ True)
        refine hK.out _ _ hSd ?_
        clear hK
        try simp only [Act.put]
        refine wpAnyF_takeP (i := 6) (oi := _) (v := ?vv8) (some 73) [] rfl rfl (by kernel_rfl) (by kernel_rfl) (by kernel_rfl) (by kernel_rfl) (by kernel_rfl) (fun _ _ _ h => h) (Or.inl ⟨by rfl, ?yy8⟩) hSd ?rr8
        case yy8 => (intro wq hSq; obtain ⟨_, _⟩ := hSq; go_simp <;> with_reducible rfl)
        try simp only [Act.put]
        refine wpAnyF_last (o := _) (by kernel_rfl) rfl (fun K' hK => ?_)
        rw [if_pos (by rfl)]
        go_simp
        refine hK.out _ _ ?_
        clear hK
        refine wpAnyF_done (by kernel_rfl) ?_ _
        try simp only [Act.put]
        clear hSd
        have HF := hide (show MS textP (k + 1) q8 (ys ++ [y]) st2 from by
              have hn := HM.out.next [] y (fun _ => HBst2.out.symm)
              rw [HAst2.out] at hn
              exact hn)
        have HJ4 := hide (show EJ w QX st2 [.int .i64 xw, .int .i64 xh, .int .i64 xd, .int .i64 xk, .int .i64 xr, .slice ao7 K7 cap7, .slice (some ⟨gg, 0, none⟩) (k + 1) cp, .int .i64 0, .int .i64 0, .int .i64 0, .int .i64 0, .int .i64 0, .int .i64 0, .slice none 0 0, .int .i64 0, .int .i64 0, .int .i64 0, .int .i64 0, .int .i64 0, .int .i64 0, .int .i64 0, .int .i64 0, .int .i64 0, .int .i64 0, .int .i64 0, .int .i64 0, .slice none 0 0, .int .i64 0] [(9, 1, .slice (some ⟨gg, 0, none⟩) (k + 1) cp, (k + 1), (ys ++ [y]).map strV), (3, 1, .slice ao7 K7 cap7, K7, y7.map intV)] (w3.setCell ⟨QX, 6, none⟩ (.slice (some ⟨gg, 0, none⟩) (k + 1) cp)) from by
              have e : (ys ++ [y]).map strV = ys.map strV ++ [.string (str y)] := by simp [strV]
              rw [e]
              exact x3)
        clear x3 hown hgrow hat hltg
        go_wp2
        go_roundw
        case rel => exact ⟨k + 1, hlt, by (first | (go_num; done) | (congr 1; have := HJJ.out; omega)), _, _, _, _, HF.out, hlst2, HJ4.out⟩
        case measure => simp [intOf]; omega
    case rest =>
      obtain ⟨y8, s8, K8, ao8, cap8, hyl8, hK8, hLS, hl8, hJ⟩ := hcut
      have HLS8 := hide hLS
      have HJ := hide hJ
      clear hLS hJ HN8 HC8 hlq8
      generalize wc = W8 at *
      go_wp2_with fail
      refine (eyeNum_any w.heap.size (w.heap.size + 1) s8 W8 (by omega) HJ.out.eye (by omega)).mono ?_
      rintro e V9 ⟨rfl, hE, hS⟩
      obtain ⟨s9, hs'⟩ : ∃ s', nxtO numP s8 = s' := ⟨_, rfl⟩
      obtain ⟨ph, hv⟩ : ∃ x, valO numP 0 s8 = x := ⟨_, rfl⟩
      rw [hs'] at hE
      rw [hv]
      have HS9 := hide hs'
      have HV9 := hide hv
      have hl9 : lenO s9 ≤ s.length := by have := lenO_nxt (p := numP) (fun _ _ _ => num_len) s8; rw [hs'] at this; omega
      replace HJ := hide (HJ.out.num hE hS)
      have ci : V9.cell? ⟨QX, 7, none⟩ = some (.int .i64 0) := by rw [Lib.cell_of_heap HJ.out.box]; rfl
      have fi : V9.frozen? ⟨QX, 7, none⟩ = false := Lib.frozen_of_heap HJ.out.box _
      replace HJ := hide (HJ.out.put 7 (.int .i64 ph))
      clear hE hS hs' hv
      replace HJ := hide (show EJ w QX s9 [.int .i64 xw, .int .i64 xh, .int .i64 xd, .int .i64 xk, .int .i64 xr, .slice ao7 K7 cap7, .slice ao8 K8 cap8, .int .i64 ph, .int .i64 0, .int .i64 0, .int .i64 0, .int .i64 0, .int .i64 0, .slice none 0 0, .int .i64 0, .int .i64 0, .int .i64 0, .int .i64 0, .int .i64 0, .int .i64 0, .int .i64 0, .int .i64 0, .int .i64 0, .int .i64 0, .int .i64 0, .int .i64 0, .slice none 0 0, .int .i64 0] [(9, 1, .slice ao8 K8 cap8, K8, y8.map strV), (3, 1, .slice ao7 K7 cap7, K7, y7.map intV)] (V9.setCell ⟨QX, 7, none⟩ (.int .i64 ph)) from HJ.out)
      go_upto_region 15 with fail
      clear ci fi
      generalize V9.setCell ⟨QX, 7, none⟩ (.int .i64 ph) = V9' at *
      go_wp2_with fail
      go_loopw [9] (fun i wr => ∃ k : Nat, k ≤ 4 ∧ i = .int .i64 k ∧ ∃ (ys : List Int) (st : Option (List UInt8)), MS numP k s9 ys st ∧ lenO st ≤ s.length ∧ EJ w QX st (patch [.int .i64 xw, .int .i64 xh, .int .i64 xd, .int .i64 xk, .int .i64 xr, .slice ao7 K7 cap7, .slice ao8 K8 cap8, .int .i64 ph, .int .i64 0, .int .i64 0, .int .i64 0, .int .i64 0, .int .i64 0, .slice none 0 0, .int .i64 0, .int .i64 0, .int .i64 0, .int .i64 0, .int .i64 0, .int .i64 0, .int .i64 0, .int .i64 0, .int .i64 0, .int .i64 0, .int .i64 0, .int .i64 0, .slice none 0 0, .int .i64 0] 8 (ys.map intV)) [(9, 1, .slice ao8 K8 cap8, K8, y8.map strV), (3, 1, .slice ao7 K7 cap7, K7, y7.map intV)] wr) (fun i _ => 4 - (intOf i).toNat)
      case atStart => exact ⟨0, Nat.zero_le _, rfl, [], s9, MS.zero _ _, hl9, HJ.out⟩
      case round =>
        clear HJ
        obtain ⟨k, hk, rfl, ys, st, hM, hls, hJ⟩ := hrel
        have HJ := hide hJ
        have HM := hide hM
        clear hJ hM
        by_cases hlt : k < 4
        · have hd : decide ((k : Int) < 4) = true := decide_eq_true (by omega)
          have hd9 : (k : Int) < 4 := by omega
          have hyl : (ys.map intV).length = k := by rw [List.length_map]; exact HM.out.1
          have HCE := hide (show (patch [.int .i64 xw, .int .i64 xh, .int .i64 xd, .int .i64 xk, .int .i64 xr, .slice ao7 K7 cap7, .slice ao8 K8 cap8, .int .i64 ph, .int .i64 0, .int .i64 0, .int .i64 0, .int .i64 0, .int .i64 0, .slice none 0 0, .int .i64 0, .int .i64 0, .int .i64 0, .int .i64 0, .int .i64 0, .int .i64 0, .int .i64 0, .int .i64 0, .int .i64 0, .int .i64 0, .int .i64 0, .int .i64 0, .slice none 0 0, .int .i64 0] 8 (ys.map intV))[8 + k]? = some (.int .i64 0) by
            have e := patch_get [.int .i64 xw, .int .i64 xh, .int .i64 xd, .int .i64 xk, .int .i64 xr, .slice ao7 K7 cap7, .slice ao8 K8 cap8, .int .i64 ph, .int .i64 0, .int .i64 0, .int .i64 0, .int .i64 0, .int .i64 0, .slice none 0 0, .int .i64 0, .int .i64 0, .int .i64 0, .int .i64 0, .int .i64 0, .int .i64 0, .int .i64 0, .int .i64 0, .int .i64 0, .int .i64 0, .int .i64 0, .int .i64 0, .slice none 0 0, .int .i64 0] 8 (ys.map intV) (by rw [hyl]; simp; omega)
            rw [hyl] at e
            rw [e]
            rcases (show k = 0 ∨ k = 1 ∨ k = 2 ∨ k = 3 by omega) with rfl | rfl | rfl | rfl <;> rfl)
          have HPS := hide (fun (z : Int) => show (patch [.int .i64 xw, .int .i64 xh, .int .i64 xd, .int .i64 xk, .int .i64 xr, .slice ao7 K7 cap7, .slice ao8 K8 cap8, .int .i64 ph, .int .i64 0, .int .i64 0, .int .i64 0, .int .i64 0, .int .i64 0, .slice none 0 0, .int .i64 0, .int .i64 0, .int .i64 0, .int .i64 0, .int .i64 0, .int .i64 0, .int .i64 0, .int .i64 0, .int .i64 0, .int .i64 0, .int .i64 0, .int .i64 0, .slice none 0 0, .int .i64 0] 8 (ys.map intV)).set (8 + k) (.int .i64 z) = patch [.int .i64 xw, .int .i64 xh, .int .i64 xd, .int .i64 xk, .int .i64 xr, .slice ao7 K7 cap7, .slice ao8 K8 cap8, .int .i64 ph, .int .i64 0, .int .i64 0, .int .i64 0, .int .i64 0, .int .i64 0, .slice none 0 0, .int .i64 0, .int .i64 0, .int .i64 0, .int .i64 0, .int .i64 0, .int .i64 0, .int .i64 0, .int .i64 0, .int .i64 0, .int .i64 0, .int .i64 0, .int .i64 0, .slice none 0 0, .int .i64 0] 8 ((ys ++ [z]).map intV) by
            have e := patch_set [.int .i64 xw, .int .i64 xh, .int .i64 xd, .int .i64 xk, .int .i64 xr, .slice ao7 K7 cap7, .slice ao8 K8 cap8, .int .i64 ph, .int .i64 0, .int .i64 0, .int .i64 0, .int .i64 0, .int .i64 0, .slice none 0 0, .int .i64 0, .int .i64 0, .int .i64 0, .int .i64 0, .int .i64 0, .int .i64 0, .int .i64 0, .int .i64 0, .int .i64 0, .int .i64 0, .int .i64 0, .int .i64 0, .slice none 0 0, .int .i64 0] 8 (ys.map intV) (.int .i64 z) (by rw [hyl]; simp; omega)
            rw [hyl] at e
            rw [e, List.map_append]; rfl)
          clear hyl
          generalize patch [.int .i64 xw, .int .i64 xh, .int .i64 xd, .int .i64 xk, .int .i64 xr, .slice ao7 K7 cap7, .slice ao8 K8 cap8, .int .i64 ph, .int .i64 0, .int .i64 0, .int .i64 0, .int .i64 0, .int .i64 0, .slice none 0 0, .int .i64 0, .int .i64 0, .int .i64 0, .int .i64 0, .int .i64 0, .int .i64 0, .int .i64 0, .int .i64 0, .int .i64 0, .int .i64 0, .int .i64 0, .int .i64 0, .slice none 0 0, .int .i64 0] 8 (ys.map intV) = PC at *
          have HSQ := hide (fun (v : World) (st' : Option (List UInt8)) (hv : EJ w QX st' PC [(9, 1, .slice ao8 K8 cap8, K8, y8.map strV), (3, 1, .slice ao7 K7 cap7, K7, y7.map intV)] v) => show v.cell? ⟨QX, 8 + k, none⟩ = some (.int .i64 0) ∧ v.frozen? ⟨QX, 8 + k, none⟩ = false from ⟨by rw [Lib.cell_of_heap hv.box]; simpa using HCE.out, Lib.frozen_of_heap hv.box _⟩)
          go_upto_region 18 with fail
          have HJd := hide (HJ.out.low ((Below.refl wr.heap.size wr).drew))
          have hSd : True := trivial
          have hmx : Tryz.prog.follows .mixedOrders = true := by kernel_rfl
          refine wp_region_last (S := (fun v : World => True)) (f := 7) hmx ?_
          show wpAnyF _ _ _ _ _ _ 8 _ _ wr.drew
          refine wpAnyF_takeP (i := 0) (oi := _) (v := ?vv9) (some 84) [] rfl rfl (by kernel_rfl) (by kernel_rfl) (by kernel_rfl) (by kernel_rfl) (by kernel_rfl) (fun _ _ _ h => h) (Or.inl ⟨by rfl, ?yy9⟩) hSd ?rr9
          case yy9 => (intro wq hSq; obtain _ := hSq; go_simp <;> with_reducible rfl)
          simp only [Act.put, List.setIfInBounds_toArray, List.set_cons_succ, List.set_cons_zero]
          refine wpAnyF_takeP (i := 1) (oi := _) (v := ?vv10) (some 85) [] rfl rfl (by kernel_rfl) (by kernel_rfl) (by kernel_rfl) (by kernel_rfl) (by kernel_rfl) (fun _ _ _ h => h) (Or.inl ⟨by rfl, ?yy10⟩) hSd ?rr10
          case yy10 => (intro wq hSq; obtain _ := hSq; go_simp <;> with_reducible rfl)
          simp only [Act.put, List.setIfInBounds_toArray, List.set_cons_succ, List.set_cons_zero]
          refine wpAnyF_takeP (i := 2) (oi := _) (v := ?vv11) (some 86) [] rfl rfl (by kernel_rfl) (by kernel_rfl) (by kernel_rfl) (by kernel_rfl) (by kernel_rfl) (fun _ _ _ h => h) (Or.inl ⟨by rfl, ?yy11⟩) hSd ?rr11
          case yy11 => (intro wq hSq; obtain _ := hSq; go_simp <;> with_reducible rfl)
          simp only [Act.put, List.setIfInBounds_toArray, List.set_cons_succ, List.set_cons_zero]
          refine wpAnyF_takeP (i := 4) (oi := _) (v := ?vv12) (some 88) [6, 5] rfl rfl (by kernel_rfl) (by kernel_rfl) (by kernel_rfl) (by kernel_rfl) (by kernel_rfl) (fun _ _ _ h => h) (Or.inl ⟨by rfl, ?yy12⟩) hSd ?rr12
          case yy12 => (intro wq hSq; obtain _ := hSq; go_simp <;> with_reducible rfl)
          simp only [Act.put, List.setIfInBounds_toArray, List.set_cons_succ, List.set_cons_zero]
          refine wpAnyF_takeP (i := 5) (oi := _) (v := ?vv13) (some 89) [6] rfl rfl (by kernel_rfl) (by kernel_rfl) (by kernel_rfl) (by kernel_rfl) (by kernel_rfl) (fun _ _ _ h => h) (Or.inl ⟨by rfl, ?yy13⟩) hSd ?rr13
          case yy13 => (intro wq hSq; obtain _ := hSq; go_simp <;> with_reducible rfl)
          simp only [Act.put, List.setIfInBounds_toArray, List.set_cons_succ, List.set_cons_zero]
          refine wpAnyF_one (i := 3) (o := _) (by kernel_rfl) rfl (fun K' hK => ?_)
          rw [if_pos (by rfl)]
          go_simp
          refine (eyeNum_any w.heap.size (w.heap.size + 1) st wr.drew (by omega) HJd.out.eye (by omega)).mono ?_
          rintro e X1 ⟨rfl, hE, hS⟩
          obtain ⟨st2, hs'⟩ : ∃ s', nxtO numP st = s' := ⟨_, rfl⟩
          obtain ⟨y, hv⟩ : ∃ x, valO numP 0 st = x := ⟨_, rfl⟩
          rw [hs'] at hE
          rw [hv]
          have HA2 := hide hs'
          have HB2 := hide hv
          have hl2 : lenO st2 ≤ s.length := by have := lenO_nxt (p := numP) (fun _ _ _ => num_len) st; rw [hs'] at this; omega
          have HJ1 := hide (HJd.out.num hE hS)
          clear hE hS hs' hv
          obtain ⟨cx, fx⟩ := HSQ.out _ _ HJ1.out
          have hSd := hSd
          refine hK.out _ _ hSd ?_
          clear hK
          try simp only [Act.put]
          refine wpAnyF_takeP (i := 6) (oi := _) (v := ?vv14) (some 90) [] rfl rfl (by kernel_rfl) (by kernel_rfl) (by kernel_rfl) (by kernel_rfl) (by kernel_rfl) (fun _ _ _ h => h) (Or.inl ⟨by rfl, ?yy14⟩) hSd ?rr14
          case yy14 => (intro wq hSq; obtain _ := hSq; go_simp <;> with_reducible rfl)
          simp only [Act.put, List.setIfInBounds_toArray, List.set_cons_succ, List.set_cons_zero]
          refine wpAnyF_last (o := _) (by kernel_rfl) rfl (fun K' hK => ?_)
          rw [if_pos (by rfl)]
          go_simp
          refine hK.out _ _ ?_
          clear hK
          refine wpAnyF_done (by kernel_rfl) ?_ _
          try simp only [Act.put]
          clear hSd
          have HF := hide (show MS numP (k + 1) s9 (ys ++ [y]) st2 from by
            have hn := HM.out.next 0 y (fun _ => HB2.out.symm)
            rw [HA2.out] at hn
            exact hn)
          have HJ4 := hide (HJ1.out.put (8 + k) (.int .i64 y))
          rw [HPS.out] at HJ4
          clear cx fx
          go_wp2
          go_roundw
          case rel => exact ⟨k + 1, hlt, by go_num, _, _, HF.out, hl2, HJ4.out⟩
          case measure => simp [intOf]; omega
        · have hd : decide ((k : Int) < 4) = false := decide_eq_false (by omega)
          obtain rfl : k = 4 := by omega
          rw [show ((4 : Nat) : Int) = 4 from rfl]
          obtain ⟨b0, b1, b2, b3, rfl⟩ : ∃ b0 b1 b2 b3, ys = [b0, b1, b2, b3] := by
            have hlen := HM.out.1
            match ys, hlen with
            | [b0, b1, b2, b3], _ => exact ⟨b0, b1, b2, b3, rfl⟩
          obtain ⟨s10, hsn⟩ : ∃ x, st = x := ⟨_, rfl⟩
          rw [hsn] at HM HJ hls
          have HMS10 := HM
          have hl10 := hls
          clear hsn hls HM
          replace HJ := hide (show EJ w QX s10 [.int .i64 xw, .int .i64 xh, .int .i64 xd, .int .i64 xk, .int .i64 xr, .slice ao7 K7 cap7, .slice ao8 K8 cap8, .int .i64 ph, .int .i64 b0, .int .i64 b1, .int .i64 b2, .int .i64 b3, .int .i64 0, .slice none 0 0, .int .i64 0, .int .i64 0, .int .i64 0, .int .i64 0, .int .i64 0, .int .i64 0, .int .i64 0, .int .i64 0, .int .i64 0, .int .i64 0, .int .i64 0, .int .i64 0, .slice none 0 0, .int .i64 0] [(9, 1, .slice ao8 K8 cap8, K8, y8.map strV), (3, 1, .slice ao7 K7 cap7, K7, y7.map intV)] wr from HJ.out)
          generalize wr = W10 at *
          go_upto_region 19 with fail
          go_wp2_with fail
          refine (eyeNum_any w.heap.size (w.heap.size + 1) s10 W10 (by omega) HJ.out.eye (by omega)).mono ?_
          rintro e V11 ⟨rfl, hE, hS⟩
          obtain ⟨s11, hs'⟩ : ∃ s', nxtO numP s10 = s' := ⟨_, rfl⟩
          obtain ⟨wh, hv⟩ : ∃ x, valO numP 0 s10 = x := ⟨_, rfl⟩
          rw [hs'] at hE
          rw [hv]
          have HS11 := hide hs'
          have HV11 := hide hv
          have hl11 : lenO s11 ≤ s.length := by have := lenO_nxt (p := numP) (fun _ _ _ => num_len) s10; rw [hs'] at this; omega
          replace HJ := hide (HJ.out.num hE hS)
          have ci : V11.cell? ⟨QX, 12, none⟩ = some (.int .i64 0) := by rw [Lib.cell_of_heap HJ.out.box]; rfl
          have fi : V11.frozen? ⟨QX, 12, none⟩ = false := Lib.frozen_of_heap HJ.out.box _
          replace HJ := hide (HJ.out.put 12 (.int .i64 wh))
          clear hE hS hs' hv
          replace HJ := hide (show EJ w QX s11 [.int .i64 xw, .int .i64 xh, .int .i64 xd, .int .i64 xk, .int .i64 xr, .slice ao7 K7 cap7, .slice ao8 K8 cap8, .int .i64 ph, .int .i64 b0, .int .i64 b1, .int .i64 b2, .int .i64 b3, .int .i64 wh, .slice none 0 0, .int .i64 0, .int .i64 0, .int .i64 0, .int .i64 0, .int .i64 0, .int .i64 0, .int .i64 0, .int .i64 0, .int .i64 0, .int .i64 0, .int .i64 0, .int .i64 0, .slice none 0 0, .int .i64 0] [(9, 1, .slice ao8 K8 cap8, K8, y8.map strV), (3, 1, .slice ao7 K7 cap7, K7, y7.map intV)] (V11.setCell ⟨QX, 12, none⟩ (.int .i64 wh)) from HJ.out)
          go_upto_region 20 with fail
          clear ci fi
          generalize V11.setCell ⟨QX, 12, none⟩ (.int .i64 wh) = V11' at *
          go_wp2_with fail
          refine (eyeCount_any w.heap.size (w.heap.size + 1) s11 V11' (by omega) HJ.out.eye (by omega)).mono ?_
          rintro e C12 ⟨rfl, hE, hS⟩
          obtain ⟨N12, hN, hN12⟩ := cntL_nonneg s11
          rw [hN]
          have HN12 := hide hN
          obtain ⟨q12, hs'⟩ : ∃ s', nxtO cntL s11 = s' := ⟨_, rfl⟩
          rw [hs'] at hE
          have HC12 := hide hs'
          have hlq12 : lenO q12 ≤ s.length := by have := lenO_nxt (p := cntL) (fun _ _ _ => cntL_len) s11; rw [hs'] at this; omega
          replace HJ := hide ((HJ.out.num hE hS).row0 77 2 (by decide))
          clear hE hS hs' hN
          go_upto_block 6 with fail
          go_cut [10] from 98 (fun i v => ∃ (ys : List Pt) (st : Option (List UInt8)) (k : Nat) (ao : Option Addr) (cap : Nat), ys.length = k ∧ k ≤ 2147483647 ∧ LS pairP s11 ys st ∧ lenO st ≤ s.length ∧ EJ w QX st [.int .i64 xw, .int .i64 xh, .int .i64 xd, .int .i64 xk, .int .i64 xr, .slice ao7 K7 cap7, .slice ao8 K8 cap8, .int .i64 ph, .int .i64 b0, .int .i64 b1, .int .i64 b2, .int .i64 b3, .int .i64 wh, .slice ao k cap, .int .i64 0, .int .i64 0, .int .i64 0, .int .i64 0, .int .i64 0, .int .i64 0, .int .i64 0, .int .i64 0, .int .i64 0, .int .i64 0, .int .i64 0, .int .i64 0, .slice none 0 0, .int .i64 0] [(77, 2, .slice ao k cap, k, ys.flatMap ptL), (9, 1, .slice ao8 K8 cap8, K8, y8.map strV), (3, 1, .slice ao7 K7 cap7, K7, y7.map intV)] v)
          case first =>
            go_wp2_with fail
            obtain ⟨i0, hi, hz0, hz1, hz2⟩ := info_parts Tryz.infoSpotF
            go_loopw [10] (fun i wr => ∃ k : Nat, k ≤ N12 ∧ i = .int .i64 ((N12 : Int) - k) ∧ ∃ (ys : List Pt) (st : Option (List UInt8)) (ao : Option Addr) (cap : Nat), MS pairP k q12 ys st ∧ lenO st ≤ s.length ∧ EJ w QX st [.int .i64 xw, .int .i64 xh, .int .i64 xd, .int .i64 xk, .int .i64 xr, .slice ao7 K7 cap7, .slice ao8 K8 cap8, .int .i64 ph, .int .i64 b0, .int .i64 b1, .int .i64 b2, .int .i64 b3, .int .i64 wh, .slice ao k cap, .int .i64 0, .int .i64 0, .int .i64 0, .int .i64 0, .int .i64 0, .int .i64 0, .int .i64 0, .int .i64 0, .int .i64 0, .int .i64 0, .int .i64 0, .int .i64 0, .slice none 0 0, .int .i64 0] [(77, 2, .slice ao k cap, k, ys.flatMap ptL), (9, 1, .slice ao8 K8 cap8, K8, y8.map strV), (3, 1, .slice ao7 K7 cap7, K7, y7.map intV)] wr) (fun i _ => (intOf i).toNat)
            case atStart => exact ⟨0, Nat.zero_le _, by simp, [], q12, none, 0, MS.zero _ _, hlq12, HJ.out⟩
            case round =>
              clear HJ
              obtain ⟨k, hk, rfl, ys, st, ao, cap, hM, hls, hJ⟩ := hrel
              have HJ := hide hJ
              have HM := hide hM
              clear hJ hM
              by_cases hlt : k < N12
              rotate_left
              · obtain rfl : k = N12 := by omega
                have hd : decide ((0 : Int) < (k : Int) - (k : Int)) = false := decide_eq_false (by omega)
                have hd2 : decide ((0 : Int) < 0) = false := rfl
                have hsub : (k : Int) - (k : Int) = 0 := by omega
                rw [hsub]
                go_wp2
                go_meet
                case rel => exact ⟨ys, st, k, ao, cap, HM.out.1, hN12, LS.of HN12.out (by rw [HC12.out]; exact HM.out) (.inl rfl), hls, HJ.out⟩
              obtain ⟨J, hJ⟩ : ∃ J : Int, (N12 : Int) - k = J := ⟨_, rfl⟩
              rw [hJ]
              have hJ0 : 0 < J := by omega
              have hd : decide ((0 : Int) < J) = true := decide_eq_true hJ0
              rcases id HJ.out.eye with ⟨l, rfl, he⟩ | ⟨rfl, l, _, he⟩
              rotate_left
              · have hbad : wr.cell? ⟨w.heap.size + 1, 1, none⟩ = some (.bool true) := (bx2 he).2
                clear he hJ
                go_wp2
                go_meet
                case rel => exact ⟨ys, none, k, ao, cap, HM.out.1, by omega, LS.of HN12.out (by rw [HC12.out]; exact HM.out) (.inr ⟨rfl, hk⟩), hls, HJ.out⟩
              have hbad : wr.cell? ⟨w.heap.size + 1, 1, none⟩ = some (.bool false) := (bx2 he).2
              obtain ⟨st, hst⟩ : ∃ st, some l = st := ⟨_, rfl⟩
              rw [hst] at HJ HM hls
              clear he hst
              have hwJ : IntKind.i64.wrap (J - 1) = J - 1 := IntWalk.i64_in _ (by omega)
              have HSQ := hide (fun (v : World) (st' : Option (List UInt8)) (hv : EJ w QX st' [.int .i64 xw, .int .i64 xh, .int .i64 xd, .int .i64 xk, .int .i64 xr, .slice ao7 K7 cap7, .slice ao8 K8 cap8, .int .i64 ph, .int .i64 b0, .int .i64 b1, .int .i64 b2, .int .i64 b3, .int .i64 wh, .slice ao k cap, .int .i64 0, .int .i64 0, .int .i64 0, .int .i64 0, .int .i64 0, .int .i64 0, .int .i64 0, .int .i64 0, .int .i64 0, .int .i64 0, .int .i64 0, .int .i64 0, .slice none 0 0, .int .i64 0] [(77, 2, .slice ao k cap, k, ys.flatMap ptL), (9, 1, .slice ao8 K8 cap8, K8, y8.map strV), (3, 1, .slice ao7 K7 cap7, K7, y7.map intV)] v) => show v.cell? ⟨QX, 13, none⟩ = some (.slice ao k cap) ∧ True from ⟨by rw [Lib.cell_of_heap hv.box]; rfl, trivial⟩)
              have HL1 := hide (show k + 1 ≤ maxLen by unfold maxLen; omega)
              have HL2 := hide (show (k + 1) * 16 ≤ 140737488355328 by omega)
              have HJJ := hide hJ
              have HX := hide (show ∀ x ∈ ([(9, 1, .slice ao8 K8 cap8, K8, y8.map strV), (3, 1, .slice ao7 K7 cap7, K7, y7.map intV)] : List RowX), x.1 ≠ 77 from by simp)
              clear hJ
              go_upto_region 23 with fail
              clear hbad
              have HJd := hide (HJ.out.low ((Below.refl wr.heap.size wr).drew))
              have hSd := HSQ.out _ _ HJd.out
              have hmx : Tryz.prog.follows .mixedOrders = true := by kernel_rfl
              refine wp_region_last (S := (fun v : World => v.cell? ⟨QX, 13, none⟩ = some (.slice ao k cap) ∧ True)) (f := 14) hmx ?_
              show wpAnyF _ _ _ _ _ _ 15 _ _ wr.drew
              refine wpAnyF_takeP (i := 0) (oi := _) (v := ?vv15) (some 109) [] rfl rfl (by kernel_rfl) (by kernel_rfl) (by kernel_rfl) (by kernel_rfl) (by kernel_rfl) (fun _ _ _ h => h) (Or.inl ⟨by rfl, ?yy15⟩) hSd ?rr15
              case yy15 => (intro wq hSq; obtain ⟨_, _⟩ := hSq; go_simp <;> with_reducible rfl)
              simp only [Act.put, List.setIfInBounds_toArray, List.set_cons_succ, List.set_cons_zero]
              refine wpAnyF_takeP (i := 1) (oi := _) (v := ?vv16) (some 110) [] rfl rfl (by kernel_rfl) (by kernel_rfl) (by kernel_rfl) (by kernel_rfl) (by kernel_rfl) (fun _ _ _ h => h) (Or.inl ⟨by rfl, ?yy16⟩) hSd ?rr16
              case yy16 => (intro wq hSq; obtain ⟨_, _⟩ := hSq; go_simp <;> with_reducible rfl)
              simp only [Act.put, List.setIfInBounds_toArray, List.set_cons_succ, List.set_cons_zero]
              refine wpAnyF_takeP (i := 5) (oi := _) (v := ?vv17) (some 114) [] rfl rfl (by kernel_rfl) (by kernel_rfl) (by kernel_rfl) (by kernel_rfl) (by kernel_rfl) (fun _ _ _ h => h) (Or.inl ⟨by rfl, ?yy17⟩) hSd ?rr17
              case yy17 => (intro wq hSq; obtain ⟨_, _⟩ := hSq; go_simp <;> with_reducible rfl)
              simp only [Act.put, List.setIfInBounds_toArray, List.set_cons_succ, List.set_cons_zero]
              refine wpAnyF_takeP (i := 7) (oi := _) (v := ?vv18) (some 116) [] rfl rfl (by kernel_rfl) (by kernel_rfl) (by kernel_rfl) (by kernel_rfl) (by kernel_rfl) (fun _ _ _ h => h) (Or.inl ⟨by rfl, ?yy18⟩) hSd ?rr18
              case yy18 => (intro wq hSq; obtain ⟨_, _⟩ := hSq; go_simp <;> with_reducible rfl)
              simp only [Act.put, List.setIfInBounds_toArray, List.set_cons_succ, List.set_cons_zero]
              refine wpAnyF_takeP (i := 2) (oi := _) (v := ?vv19) (some 111) [] rfl rfl (by kernel_rfl) (by kernel_rfl) (by kernel_rfl) (by kernel_rfl) (by kernel_rfl) (fun _ _ _ h => h) (Or.inl ⟨by rfl, ?yy19⟩) hSd ?rr19
              case yy19 => (intro wq hSq; obtain ⟨_, _⟩ := hSq; go_simp <;> with_reducible rfl)
              simp only [Act.put, List.setIfInBounds_toArray, List.set_cons_succ, List.set_cons_zero]
              refine wpAnyF_takeP (i := 3) (oi := _) (v := ?vv20) (some 112) [] rfl rfl (by kernel_rfl) (by kernel_rfl) (by kernel_rfl) (by kernel_rfl) (by kernel_rfl) (fun _ _ _ h => h) (Or.inl ⟨by rfl, ?yy20⟩) hSd ?rr20
              case yy20 => (intro wq hSq; obtain ⟨_, _⟩ := hSq; go_simp <;> with_reducible rfl)
              simp only [Act.put, List.setIfInBounds_toArray, List.set_cons_succ, List.set_cons_zero]
              refine wpAnyF_takeP (i := 4) (oi := _) (v := ?vv21) (some 113) [] rfl rfl (by kernel_rfl) (by kernel_rfl) (by kernel_rfl) (by kernel_rfl) (by kernel_rfl) (fun _ _ _ h => h) (Or.inl ⟨by rfl, ?yy21⟩) hSd ?rr21
              case yy21 => (intro wq hSq; obtain ⟨_, _⟩ := hSq; go_simp <;> with_reducible rfl)
              simp only [Act.put, List.setIfInBounds_toArray, List.set_cons_succ, List.set_cons_zero]
              refine wpAnyF_one (i := 6) (o := _) (by kernel_rfl) rfl (fun K' hK => ?_)
              rw [if_pos (by rfl)]
              go_simp
              refine (eyeNum_any w.heap.size (w.heap.size + 1) st wr.drew (by omega) HJd.out.eye (by omega)).mono ?_
              rintro e X1 ⟨rfl, hE, hS⟩
              obtain ⟨st1, hs'⟩ : ∃ s', nxtO numP st = s' := ⟨_, rfl⟩
              obtain ⟨x, hv⟩ : ∃ x, valO numP 0 st = x := ⟨_, rfl⟩
              rw [hs'] at hE
              rw [hv]
              have HAst1 := hide hs'
              have HBst1 := hide hv
              have hlst1 : lenO st1 ≤ s.length := by have := lenO_nxt (p := numP) (fun _ _ _ => num_len) st; rw [hs'] at this; omega
              have HJ1 := hide (HJd.out.num hE hS)
              clear hE hS hs' hv
              have hSd := HSQ.out _ _ HJ1.out
              refine hK.out _ _ hSd ?_
              clear hK
              try simp only [Act.put]
              refine wpAnyF_one (i := 8) (o := _) (by kernel_rfl) rfl (fun K' hK => ?_)
              rw [if_pos (by rfl)]
              go_simp
              refine (eyeNum_any w.heap.size (w.heap.size + 1) st1 X1 (by omega) HJ1.out.eye (by omega)).mono ?_
              rintro e X2 ⟨rfl, hE, hS⟩
              obtain ⟨st2, hs'⟩ : ∃ s', nxtO numP st1 = s' := ⟨_, rfl⟩
              obtain ⟨y, hv⟩ : ∃ x, valO numP 0 st1 = x := ⟨_, rfl⟩
              rw [hs'] at hE
              rw [hv]
              have HAst2 := hide hs'
              have HBst2 := hide hv
              have hlst2 : lenO st2 ≤ s.length := by have := lenO_nxt (p := numP) (fun _ _ _ => num_len) st1; rw [hs'] at this; omega
              have HJ2 := hide (HJ1.out.num hE hS)
              clear hE hS hs' hv
              have hSd := HSQ.out _ _ HJ2.out
              refine hK.out _ _ hSd ?_
              clear hK
              try simp only [Act.put]
              refine wpAnyF_takeP (i := 9) (oi := _) (v := ?vv22) (some 118) [] rfl rfl (by kernel_rfl) (by kernel_rfl) (by kernel_rfl) (by kernel_rfl) (by kernel_rfl) (fun _ _ _ h => h) (Or.inl ⟨by rfl, ?yy22⟩) hSd ?rr22
              case yy22 => (intro wq hSq; obtain ⟨_, _⟩ := hSq; go_simp <;> with_reducible rfl)
              simp only [Act.put, List.setIfInBounds_toArray, List.set_cons_succ, List.set_cons_zero]
              refine wpAnyF_one (i := 10) (o := _) (by kernel_rfl) rfl (fun K' hK => ?_)
              rw [if_pos (by rfl)]
              go_simp
              have HJ3 := hide (HJ2.out.low (bel_alloc X2 (Obj.cells #[.int .i64 x, .int .i64 y] 77)))
              have hSd := HSQ.out _ _ HJ3.out
              refine hK.out _ _ hSd ?_
              clear hK
              try simp only [Act.put]
              refine wpAnyF_one (i := 11) (o := _) (by kernel_rfl) rfl (fun K' hK => ?_)
              refine step_append_lies _ rfl _ _ 25 rfl QX 77 i0 (.agg #[.int .i64 0, .int .i64 0]) 2 16 Tryz.underlying25 hi hz0 hz1 hz2 rfl (by decide) (.slice ao k cap) k (ys.flatMap ptL) rfl (HJ3.out.rows (77, 2, .slice ao k cap, k, ys.flatMap ptL) (by simp)) ⟨X2.heap.size, 0, none⟩ 1 1 [.int .i64 x, .int .i64 y] rfl rfl (World.news_of_block (al1 X2 _)) (fun u hu => by simp at hu; rcases hu with rfl | rfl <;> rfl) Nat.one_pos HL1.out HL2.out (Nat.le_of_lt HJ3.out.box.lt) _ rfl ?_
              intro gg cp w3 hown hgrow hat hltg
              obtain ⟨x1, x2, x3⟩ := HJ3.out.app (i := 13) rfl hgrow hown HX.out
              have hSd := (⟨x1, trivial⟩ : w3.cell? ⟨QX, 13, none⟩ = some (.slice ao k cap) ∧ True)
              refine hK.out _ _ hSd ?_
              clear hK
              try simp only [Act.put]
              refine wpAnyF_takeP (i := 12) (oi := _) (v := ?vv23) (some 121) [13] rfl rfl (by kernel_rfl) (by kernel_rfl) (by kernel_rfl) (by kernel_rfl) (by kernel_rfl) (fun _ _ _ h => h) (Or.inl ⟨by rfl, ?yy23⟩) hSd ?rr23
              case yy23 => (intro wq hSq; obtain ⟨_, _⟩ := hSq; go_simp <;> with_reducible rfl)
              try simp only [Act.put]
              refine wpAnyF_takeP (i := 13) (oi := _) (v := ?vv24) (some 122) [] rfl rfl (by kernel_rfl) (by kernel_rfl) (by kernel_rfl) (by kernel_rfl) (by kernel_rfl) (fun _ _ _ h => h) (Or.inl ⟨by rfl, ?yy24⟩) hSd ?rr24
              case yy24 => (intro wq hSq; obtain ⟨_, _⟩ := hSq; go_simp <;> with_reducible rfl)
              try simp only [Act.put]
              refine wpAnyF_last (o := _) (by kernel_rfl) rfl (fun K' hK => ?_)
              rw [if_pos (by rfl)]
              go_simp
              refine hK.out _ _ ?_
              clear hK
              refine wpAnyF_done (by kernel_rfl) ?_ _
              try simp only [Act.put]
              clear hSd
              have HF := hide (show MS pairP (k + 1) q12 (ys ++ [(x, y)]) st2 from by
                    have hps := pair_step st
                    rw [HAst1.out, HBst1.out, HAst2.out, HBst2.out] at hps
                    have hn := HM.out.next (0, 0) (x, y) (fun h => hps.2 h)
                    rw [hps.1] at hn
                    exact hn)
              have HJ4 := hide (show EJ w QX st2 [.int .i64 xw, .int .i64 xh, .int .i64 xd, .int .i64 xk, .int .i64 xr, .slice ao7 K7 cap7, .slice ao8 K8 cap8, .int .i64 ph, .int .i64 b0, .int .i64 b1, .int .i64 b2, .int .i64 b3, .int .i64 wh, .slice (some ⟨gg, 0, none⟩) (k + 1) cp, .int .i64 0, .int .i64 0, .int .i64 0, .int .i64 0, .int .i64 0, .int .i64 0, .int .i64 0, .int .i64 0, .int .i64 0, .int .i64 0, .int .i64 0, .int .i64 0, .slice none 0 0, .int .i64 0] [(77, 2, .slice (some ⟨gg, 0, none⟩) (k + 1) cp, (k + 1), (ys ++ [(x, y)]).flatMap ptL), (9, 1, .slice ao8 K8 cap8, K8, y8.map strV), (3, 1, .slice ao7 K7 cap7, K7, y7.map intV)] (w3.setCell ⟨QX, 13, none⟩ (.slice (some ⟨gg, 0, none⟩) (k + 1) cp)) from by
                    have e : (ys ++ [(x, y)]).flatMap ptL = ys.flatMap ptL ++ [.int .i64 x, .int .i64 y] := by simp [List.flatMap_append, ptL]
                    rw [e]
                    exact x3)
              clear x3 hown hgrow hat hltg
              go_wp2
              go_roundw
              case rel => exact ⟨k + 1, hlt, by (first | (go_num; done) | (congr 1; have := HJJ.out; omega)), _, _, _, _, HF.out, hlst2, HJ4.out⟩
              case measure => simp [intOf]; omega
          case rest =>
            obtain ⟨y12, s12, K12, ao12, cap12, hyl12, hK12, hLS, hl12, hJ⟩ := hcut
            have HLS12 := hide hLS
            have HJ := hide hJ
            clear hLS hJ HN12 HC12 hlq12
            generalize wc = W12 at *
            go_wp2_with fail
            go_loopw [11] (fun i wr => ∃ k : Nat, k ≤ 3 ∧ i = .int .i64 k ∧ ∃ (ys : List Int) (st : Option (List UInt8)), MS numP k s12 ys st ∧ lenO st ≤ s.length ∧ EJ w QX st (patch [.int .i64 xw, .int .i64 xh, .int .i64 xd, .int .i64 xk, .int .i64 xr, .slice ao7 K7 cap7, .slice ao8 K8 cap8, .int .i64 ph, .int .i64 b0, .int .i64 b1, .int .i64 b2, .int .i64 b3, .int .i64 wh, .slice ao12 K12 cap12, .int .i64 0, .int .i64 0, .int .i64 0, .int .i64 0, .int .i64 0, .int .i64 0, .int .i64 0, .int .i64 0, .int .i64 0, .int .i64 0, .int .i64 0, .int .i64 0, .slice none 0 0, .int .i64 0] 14 (ys.map intV)) [(77, 2, .slice ao12 K12 cap12, K12, y12.flatMap ptL), (9, 1, .slice ao8 K8 cap8, K8, y8.map strV), (3, 1, .slice ao7 K7 cap7, K7, y7.map intV)] wr) (fun i _ => 3 - (intOf i).toNat)
            case atStart => exact ⟨0, Nat.zero_le _, rfl, [], s12, MS.zero _ _, hl12, HJ.out⟩
            case round =>
              clear HJ
              obtain ⟨k, hk, rfl, ys, st, hM, hls, hJ⟩ := hrel
              have HJ := hide hJ
              have HM := hide hM
              clear hJ hM
              by_cases hlt : k < 3
              · have hd : decide ((k : Int) < 3) = true := decide_eq_true (by omega)
                have hd9 : (k : Int) < 3 := by omega
                have hyl : (ys.map intV).length = k := by rw [List.length_map]; exact HM.out.1
                have HCE := hide (show (patch [.int .i64 xw, .int .i64 xh, .int .i64 xd, .int .i64 xk, .int .i64 xr, .slice ao7 K7 cap7, .slice ao8 K8 cap8, .int .i64 ph, .int .i64 b0, .int .i64 b1, .int .i64 b2, .int .i64 b3, .int .i64 wh, .slice ao12 K12 cap12, .int .i64 0, .int .i64 0, .int .i64 0, .int .i64 0, .int .i64 0, .int .i64 0, .int .i64 0, .int .i64 0, .int .i64 0, .int .i64 0, .int .i64 0, .int .i64 0, .slice none 0 0, .int .i64 0] 14 (ys.map intV))[14 + k]? = some (.int .i64 0) by
                  have e := patch_get [.int .i64 xw, .int .i64 xh, .int .i64 xd, .int .i64 xk, .int .i64 xr, .slice ao7 K7 cap7, .slice ao8 K8 cap8, .int .i64 ph, .int .i64 b0, .int .i64 b1, .int .i64 b2, .int .i64 b3, .int .i64 wh, .slice ao12 K12 cap12, .int .i64 0, .int .i64 0, .int .i64 0, .int .i64 0, .int .i64 0, .int .i64 0, .int .i64 0, .int .i64 0, .int .i64 0, .int .i64 0, .int .i64 0, .int .i64 0, .slice none 0 0, .int .i64 0] 14 (ys.map intV) (by rw [hyl]; simp; omega)
                  rw [hyl] at e
                  rw [e]
                  rcases (show k = 0 ∨ k = 1 ∨ k = 2 by omega) with rfl | rfl | rfl <;> rfl)
                have HPS := hide (fun (z : Int) => show (patch [.int .i64 xw, .int .i64 xh, .int .i64 xd, .int .i64 xk, .int .i64 xr, .slice ao7 K7 cap7, .slice ao8 K8 cap8, .int .i64 ph, .int .i64 b0, .int .i64 b1, .int .i64 b2, .int .i64 b3, .int .i64 wh, .slice ao12 K12 cap12, .int .i64 0, .int .i64 0, .int .i64 0, .int .i64 0, .int .i64 0, .int .i64 0, .int .i64 0, .int .i64 0, .int .i64 0, .int .i64 0, .int .i64 0, .int .i64 0, .slice none 0 0, .int .i64 0] 14 (ys.map intV)).set (14 + k) (.int .i64 z) = patch [.int .i64 xw, .int .i64 xh, .int .i64 xd, .int .i64 xk, .int .i64 xr, .slice ao7 K7 cap7, .slice ao8 K8 cap8, .int .i64 ph, .int .i64 b0, .int .i64 b1, .int .i64 b2, .int .i64 b3, .int .i64 wh, .slice ao12 K12 cap12, .int .i64 0, .int .i64 0, .int .i64 0, .int .i64 0, .int .i64 0, .int .i64 0, .int .i64 0, .int .i64 0, .int .i64 0, .int .i64 0, .int .i64 0, .int .i64 0, .slice none 0 0, .int .i64 0] 14 ((ys ++ [z]).map intV) by
                  have e := patch_set [.int .i64 xw, .int .i64 xh, .int .i64 xd, .int .i64 xk, .int .i64 xr, .slice ao7 K7 cap7, .slice ao8 K8 cap8, .int .i64 ph, .int .i64 b0, .int .i64 b1, .int .i64 b2, .int .i64 b3, .int .i64 wh, .slice ao12 K12 cap12, .int .i64 0, .int .i64 0, .int .i64 0, .int .i64 0, .int .i64 0, .int .i64 0, .int .i64 0, .int .i64 0, .int .i64 0, .int .i64 0, .int .i64 0, .int .i64 0, .slice none 0 0, .int .i64 0] 14 (ys.map intV) (.int .i64 z) (by rw [hyl]; simp; omega)
                  rw [hyl] at e
                  rw [e, List.map_append]; rfl)
                clear hyl
                generalize patch [.int .i64 xw, .int .i64 xh, .int .i64 xd, .int .i64 xk, .int .i64 xr, .slice ao7 K7 cap7, .slice ao8 K8 cap8, .int .i64 ph, .int .i64 b0, .int .i64 b1, .int .i64 b2, .int .i64 b3, .int .i64 wh, .slice ao12 K12 cap12, .int .i64 0, .int .i64 0, .int .i64 0, .int .i64 0, .int .i64 0, .int .i64 0, .int .i64 0, .int .i64 0, .int .i64 0, .int .i64 0, .int .i64 0, .int .i64 0, .slice none 0 0, .int .i64 0] 14 (ys.map intV) = PC at *
                have HSQ := hide (fun (v : World) (st' : Option (List UInt8)) (hv : EJ w QX st' PC [(77, 2, .slice ao12 K12 cap12, K12, y12.flatMap ptL), (9, 1, .slice ao8 K8 cap8, K8, y8.map strV), (3, 1, .slice ao7 K7 cap7, K7, y7.map intV)] v) => show v.cell? ⟨QX, 14 + k, none⟩ = some (.int .i64 0) ∧ v.frozen? ⟨QX, 14 + k, none⟩ = false from ⟨by rw [Lib.cell_of_heap hv.box]; simpa using HCE.out, Lib.frozen_of_heap hv.box _⟩)
                go_upto_region 27 with fail
                have HJd := hide (HJ.out.low ((Below.refl wr.heap.size wr).drew))
                have hSd : True := trivial
                have hmx : Tryz.prog.follows .mixedOrders = true := by kernel_rfl
                refine wp_region_last (S := (fun v : World => True)) (f := 7) hmx ?_
                show wpAnyF _ _ _ _ _ _ 8 _ _ wr.drew
                refine wpAnyF_takeP (i := 0) (oi := _) (v := ?vv25) (some 127) [] rfl rfl (by kernel_rfl) (by kernel_rfl) (by kernel_rfl) (by kernel_rfl) (by kernel_rfl) (fun _ _ _ h => h) (Or.inl ⟨by rfl, ?yy25⟩) hSd ?rr25
                case yy25 => (intro wq hSq; obtain _ := hSq; go_simp <;> with_reducible rfl)
                simp only [Act.put, List.setIfInBounds_toArray, List.set_cons_succ, List.set_cons_zero]
                refine wpAnyF_takeP (i := 1) (oi := _) (v := ?vv26) (some 128) [] rfl rfl (by kernel_rfl) (by kernel_rfl) (by kernel_rfl) (by kernel_rfl) (by kernel_rfl) (fun _ _ _ h => h) (Or.inl ⟨by rfl, ?yy26⟩) hSd ?rr26
                case yy26 => (intro wq hSq; obtain _ := hSq; go_simp <;> with_reducible rfl)
                simp only [Act.put, List.setIfInBounds_toArray, List.set_cons_succ, List.set_cons_zero]
                refine wpAnyF_takeP (i := 2) (oi := _) (v := ?vv27) (some 129) [] rfl rfl (by kernel_rfl) (by kernel_rfl) (by kernel_rfl) (by kernel_rfl) (by kernel_rfl) (fun _ _ _ h => h) (Or.inl ⟨by rfl, ?yy27⟩) hSd ?rr27
                case yy27 => (intro wq hSq; obtain _ := hSq; go_simp <;> with_reducible rfl)
                simp only [Act.put, List.setIfInBounds_toArray, List.set_cons_succ, List.set_cons_zero]
                refine wpAnyF_takeP (i := 4) (oi := _) (v := ?vv28) (some 131) [6, 5] rfl rfl (by kernel_rfl) (by kernel_rfl) (by kernel_rfl) (by kernel_rfl) (by kernel_rfl) (fun _ _ _ h => h) (Or.inl ⟨by rfl, ?yy28⟩) hSd ?rr28
                case yy28 => (intro wq hSq; obtain _ := hSq; go_simp <;> with_reducible rfl)
                simp only [Act.put, List.setIfInBounds_toArray, List.set_cons_succ, List.set_cons_zero]
                refine wpAnyF_takeP (i := 5) (oi := _) (v := ?vv29) (some 132) [6] rfl rfl (by kernel_rfl) (by kernel_rfl) (by kernel_rfl) (by kernel_rfl) (by kernel_rfl) (fun _ _ _ h => h) (Or.inl ⟨by rfl, ?yy29⟩) hSd ?rr29
                case yy29 => (intro wq hSq; obtain _ := hSq; go_simp <;> with_reducible rfl)
                simp only [Act.put, List.setIfInBounds_toArray, List.set_cons_succ, List.set_cons_zero]
                refine wpAnyF_one (i := 3) (o := _) (by kernel_rfl) rfl (fun K' hK => ?_)
                rw [if_pos (by rfl)]
                go_simp
                refine (eyeNum_any w.heap.size (w.heap.size + 1) st wr.drew (by omega) HJd.out.eye (by omega)).mono ?_
                rintro e X1 ⟨rfl, hE, hS⟩
                obtain ⟨st2, hs'⟩ : ∃ s', nxtO numP st = s' := ⟨_, rfl⟩
                obtain ⟨y, hv⟩ : ∃ x, valO numP 0 st = x := ⟨_, rfl⟩
                rw [hs'] at hE
                rw [hv]
                have HA2 := hide hs'
                have HB2 := hide hv
                have hl2 : lenO st2 ≤ s.length := by have := lenO_nxt (p := numP) (fun _ _ _ => num_len) st; rw [hs'] at this; omega
                have HJ1 := hide (HJd.out.num hE hS)
                clear hE hS hs' hv
                obtain ⟨cx, fx⟩ := HSQ.out _ _ HJ1.out
                have hSd := hSd
                refine hK.out _ _ hSd ?_
                clear hK
                try simp only [Act.put]
                refine wpAnyF_takeP (i := 6) (oi := _) (v := ?vv30) (some 133) [] rfl rfl (by kernel_rfl) (by kernel_rfl) (by kernel_rfl) (by kernel_rfl) (by kernel_rfl) (fun _ _ _ h => h) (Or.inl ⟨by rfl, ?yy30⟩) hSd ?rr30
                case yy30 => (intro wq hSq; obtain _ := hSq; go_simp <;> with_reducible rfl)
                simp only [Act.put, List.setIfInBounds_toArray, List.set_cons_succ, List.set_cons_zero]
                refine wpAnyF_last (o := _) (by kernel_rfl) rfl (fun K' hK => ?_)
                rw [if_pos (by rfl)]
                go_simp
                refine hK.out _ _ ?_
                clear hK
                refine wpAnyF_done (by kernel_rfl) ?_ _
                try simp only [Act.put]
                clear hSd
                have HF := hide (show MS numP (k + 1) s12 (ys ++ [y]) st2 from by
                  have hn := HM.out.next 0 y (fun _ => HB2.out.symm)
                  rw [HA2.out] at hn
                  exact hn)
                have HJ4 := hide (HJ1.out.put (14 + k) (.int .i64 y))
                rw [HPS.out] at HJ4
                clear cx fx
                go_wp2
                go_roundw
                case rel => exact ⟨k + 1, hlt, by go_num, _, _, HF.out, hl2, HJ4.out⟩
                case measure => simp [intOf]; omega
              · have hd : decide ((k : Int) < 3) = false := decide_eq_false (by omega)
                obtain rfl : k = 3 := by omega
                rw [show ((3 : Nat) : Int) = 3 from rfl]
                obtain ⟨g0, g1, g2, rfl⟩ : ∃ g0 g1 g2, ys = [g0, g1, g2] := by
                  have hlen := HM.out.1
                  match ys, hlen with
                  | [g0, g1, g2], _ => exact ⟨g0, g1, g2, rfl⟩
                obtain ⟨s13, hsn⟩ : ∃ x, st = x := ⟨_, rfl⟩
                rw [hsn] at HM HJ hls
                have HMS13 := HM
                have hl13 := hls
                clear hsn hls HM
                replace HJ := hide (show EJ w QX s13 [.int .i64 xw, .int .i64 xh, .int .i64 xd, .int .i64 xk, .int .i64 xr, .slice ao7 K7 cap7, .slice ao8 K8 cap8, .int .i64 ph, .int .i64 b0, .int .i64 b1, .int .i64 b2, .int .i64 b3, .int .i64 wh, .slice ao12 K12 cap12, .int .i64 g0, .int .i64 g1, .int .i64 g2, .int .i64 0, .int .i64 0, .int .i64 0, .int .i64 0, .int .i64 0, .int .i64 0, .int .i64 0, .int .i64 0, .int .i64 0, .slice none 0 0, .int .i64 0] [(77, 2, .slice ao12 K12 cap12, K12, y12.flatMap ptL), (9, 1, .slice ao8 K8 cap8, K8, y8.map strV), (3, 1, .slice ao7 K7 cap7, K7, y7.map intV)] wr from HJ.out)
                generalize wr = W13 at *
                go_upto_region 28 with fail
                go_wp2_with fail
                go_loopw [12] (fun i wr => ∃ k : Nat, k ≤ 9 ∧ i = .int .i64 k ∧ ∃ (ys : List Int) (st : Option (List UInt8)), MS numP k s13 ys st ∧ lenO st ≤ s.length ∧ EJ w QX st (patch [.int .i64 xw, .int .i64 xh, .int .i64 xd, .int .i64 xk, .int .i64 xr, .slice ao7 K7 cap7, .slice ao8 K8 cap8, .int .i64 ph, .int .i64 b0, .int .i64 b1, .int .i64 b2, .int .i64 b3, .int .i64 wh, .slice ao12 K12 cap12, .int .i64 g0, .int .i64 g1, .int .i64 g2, .int .i64 0, .int .i64 0, .int .i64 0, .int .i64 0, .int .i64 0, .int .i64 0, .int .i64 0, .int .i64 0, .int .i64 0, .slice none 0 0, .int .i64 0] 17 (ys.map intV)) [(77, 2, .slice ao12 K12 cap12, K12, y12.flatMap ptL), (9, 1, .slice ao8 K8 cap8, K8, y8.map strV), (3, 1, .slice ao7 K7 cap7, K7, y7.map intV)] wr) (fun i _ => 9 - (intOf i).toNat)
                case atStart => exact ⟨0, Nat.zero_le _, rfl, [], s13, MS.zero _ _, hl13, HJ.out⟩
                case round =>
                  clear HJ
                  obtain ⟨k, hk, rfl, ys, st, hM, hls, hJ⟩ := hrel
                  have HJ := hide hJ
                  have HM := hide hM
                  clear hJ hM
                  by_cases hlt : k < 9
                  · have hd : decide ((k : Int) < 9) = true := decide_eq_true (by omega)
                    have hd9 : (k : Int) < 9 := by omega
                    have hyl : (ys.map intV).length = k := by rw [List.length_map]; exact HM.out.1
                    have HCE := hide (show (patch [.int .i64 xw, .int .i64 xh, .int .i64 xd, .int .i64 xk, .int .i64 xr, .slice ao7 K7 cap7, .slice ao8 K8 cap8, .int .i64 ph, .int .i64 b0, .int .i64 b1, .int .i64 b2, .int .i64 b3, .int .i64 wh, .slice ao12 K12 cap12, .int .i64 g0, .int .i64 g1, .int .i64 g2, .int .i64 0, .int .i64 0, .int .i64 0, .int .i64 0, .int .i64 0, .int .i64 0, .int .i64 0, .int .i64 0, .int .i64 0, .slice none 0 0, .int .i64 0] 17 (ys.map intV))[17 + k]? = some (.int .i64 0) by
                      have e := patch_get [.int .i64 xw, .int .i64 xh, .int .i64 xd, .int .i64 xk, .int .i64 xr, .slice ao7 K7 cap7, .slice ao8 K8 cap8, .int .i64 ph, .int .i64 b0, .int .i64 b1, .int .i64 b2, .int .i64 b3, .int .i64 wh, .slice ao12 K12 cap12, .int .i64 g0, .int .i64 g1, .int .i64 g2, .int .i64 0, .int .i64 0, .int .i64 0, .int .i64 0, .int .i64 0, .int .i64 0, .int .i64 0, .int .i64 0, .int .i64 0, .slice none 0 0, .int .i64 0] 17 (ys.map intV) (by rw [hyl]; simp; omega)
                      rw [hyl] at e
                      rw [e]
                      rcases (show k = 0 ∨ k = 1 ∨ k = 2 ∨ k = 3 ∨ k = 4 ∨ k = 5 ∨ k = 6 ∨ k = 7 ∨ k = 8 by omega) with rfl | rfl | rfl | rfl | rfl | rfl | rfl | rfl | rfl <;> rfl)
                    have HPS := hide (fun (z : Int) => show (patch [.int .i64 xw, .int .i64 xh, .int .i64 xd, .int .i64 xk, .int .i64 xr, .slice ao7 K7 cap7, .slice ao8 K8 cap8, .int .i64 ph, .int .i64 b0, .int .i64 b1, .int .i64 b2, .int .i64 b3, .int .i64 wh, .slice ao12 K12 cap12, .int .i64 g0, .int .i64 g1, .int .i64 g2, .int .i64 0, .int .i64 0, .int .i64 0, .int .i64 0, .int .i64 0, .int .i64 0, .int .i64 0, .int .i64 0, .int .i64 0, .slice none 0 0, .int .i64 0] 17 (ys.map intV)).set (17 + k) (.int .i64 z) = patch [.int .i64 xw, .int .i64 xh, .int .i64 xd, .int .i64 xk, .int .i64 xr, .slice ao7 K7 cap7, .slice ao8 K8 cap8, .int .i64 ph, .int .i64 b0, .int .i64 b1, .int .i64 b2, .int .i64 b3, .int .i64 wh, .slice ao12 K12 cap12, .int .i64 g0, .int .i64 g1, .int .i64 g2, .int .i64 0, .int .i64 0, .int .i64 0, .int .i64 0, .int .i64 0, .int .i64 0, .int .i64 0, .int .i64 0, .int .i64 0, .slice none 0 0, .int .i64 0] 17 ((ys ++ [z]).map intV) by
                      have e := patch_set [.int .i64 xw, .int .i64 xh, .int .i64 xd, .int .i64 xk, .int .i64 xr, .slice ao7 K7 cap7, .slice ao8 K8 cap8, .int .i64 ph, .int .i64 b0, .int .i64 b1, .int .i64 b2, .int .i64 b3, .int .i64 wh, .slice ao12 K12 cap12, .int .i64 g0, .int .i64 g1, .int .i64 g2, .int .i64 0, .int .i64 0, .int .i64 0, .int .i64 0, .int .i64 0, .int .i64 0, .int .i64 0, .int .i64 0, .int .i64 0, .slice none 0 0, .int .i64 0] 17 (ys.map intV) (.int .i64 z) (by rw [hyl]; simp; omega)
                      rw [hyl] at e
                      rw [e, List.map_append]; rfl)
                    clear hyl
                    generalize patch [.int .i64 xw, .int .i64 xh, .int .i64 xd, .int .i64 xk, .int .i64 xr, .slice ao7 K7 cap7, .slice ao8 K8 cap8, .int .i64 ph, .int .i64 b0, .int .i64 b1, .int .i64 b2, .int .i64 b3, .int .i64 wh, .slice ao12 K12 cap12, .int .i64 g0, .int .i64 g1, .int .i64 g2, .int .i64 0, .int .i64 0, .int .i64 0, .int .i64 0, .int .i64 0, .int .i64 0, .int .i64 0, .int .i64 0, .int .i64 0, .slice none 0 0, .int .i64 0] 17 (ys.map intV) = PC at *
                    have HSQ := hide (fun (v : World) (st' : Option (List UInt8)) (hv : EJ w QX st' PC [(77, 2, .slice ao12 K12 cap12, K12, y12.flatMap ptL), (9, 1, .slice ao8 K8 cap8, K8, y8.map strV), (3, 1, .slice ao7 K7 cap7, K7, y7.map intV)] v) => show v.cell? ⟨QX, 17 + k, none⟩ = some (.int .i64 0) ∧ v.frozen? ⟨QX, 17 + k, none⟩ = false from ⟨by rw [Lib.cell_of_heap hv.box]; simpa using HCE.out, Lib.frozen_of_heap hv.box _⟩)
                    go_upto_region 31 with fail
                    have HJd := hide (HJ.out.low ((Below.refl wr.heap.size wr).drew))
                    have hSd : True := trivial
                    have hmx : Tryz.prog.follows .mixedOrders = true := by kernel_rfl
                    refine wp_region_last (S := (fun v : World => True)) (f := 7) hmx ?_
                    show wpAnyF _ _ _ _ _ _ 8 _ _ wr.drew
                    refine wpAnyF_takeP (i := 0) (oi := _) (v := ?vv31) (some 138) [] rfl rfl (by kernel_rfl) (by kernel_rfl) (by kernel_rfl) (by kernel_rfl) (by kernel_rfl) (fun _ _ _ h => h) (Or.inl ⟨by rfl, ?yy31⟩) hSd ?rr31
                    case yy31 => (intro wq hSq; obtain _ := hSq; go_simp <;> with_reducible rfl)
                    simp only [Act.put, List.setIfInBounds_toArray, List.set_cons_succ, List.set_cons_zero]
                    refine wpAnyF_takeP (i := 1) (oi := _) (v := ?vv32) (some 139) [] rfl rfl (by kernel_rfl) (by kernel_rfl) (by kernel_rfl) (by kernel_rfl) (by kernel_rfl) (fun _ _ _ h => h) (Or.inl ⟨by rfl, ?yy32⟩) hSd ?rr32
                    case yy32 => (intro wq hSq; obtain _ := hSq; go_simp <;> with_reducible rfl)
                    simp only [Act.put, List.setIfInBounds_toArray, List.set_cons_succ, List.set_cons_zero]
                    refine wpAnyF_takeP (i := 2) (oi := _) (v := ?vv33) (some 140) [] rfl rfl (by kernel_rfl) (by kernel_rfl) (by kernel_rfl) (by kernel_rfl) (by kernel_rfl) (fun _ _ _ h => h) (Or.inl ⟨by rfl, ?yy33⟩) hSd ?rr33
                    case yy33 => (intro wq hSq; obtain _ := hSq; go_simp <;> with_reducible rfl)
                    simp only [Act.put, List.setIfInBounds_toArray, List.set_cons_succ, List.set_cons_zero]
                    refine wpAnyF_takeP (i := 4) (oi := _) (v := ?vv34) (some 142) [6, 5] rfl rfl (by kernel_rfl) (by kernel_rfl) (by kernel_rfl) (by kernel_rfl) (by kernel_rfl) (fun _ _ _ h => h) (Or.inl ⟨by rfl, ?yy34⟩) hSd ?rr34
                    case yy34 => (intro wq hSq; obtain _ := hSq; go_simp <;> with_reducible rfl)
                    simp only [Act.put, List.setIfInBounds_toArray, List.set_cons_succ, List.set_cons_zero]
                    refine wpAnyF_takeP (i := 5) (oi := _) (v := ?vv35) (some 143) [6] rfl rfl (by kernel_rfl) (by kernel_rfl) (by kernel_rfl) (by kernel_rfl) (by kernel_rfl) (fun _ _ _ h => h) (Or.inl ⟨by rfl, ?yy35⟩) hSd ?rr35
                    case yy35 => (intro wq hSq; obtain _ := hSq; go_simp <;> with_reducible rfl)
                    simp only [Act.put, List.setIfInBounds_toArray, List.set_cons_succ, List.set_cons_zero]
                    refine wpAnyF_one (i := 3) (o := _) (by kernel_rfl) rfl (fun K' hK => ?_)
                    rw [if_pos (by rfl)]
                    go_simp
                    refine (eyeNum_any w.heap.size (w.heap.size + 1) st wr.drew (by omega) HJd.out.eye (by omega)).mono ?_
                    rintro e X1 ⟨rfl, hE, hS⟩
                    obtain ⟨st2, hs'⟩ : ∃ s', nxtO numP st = s' := ⟨_, rfl⟩
                    obtain ⟨y, hv⟩ : ∃ x, valO numP 0 st = x := ⟨_, rfl⟩
                    rw [hs'] at hE
                    rw [hv]
                    have HA2 := hide hs'
                    have HB2 := hide hv
                    have hl2 : lenO st2 ≤ s.length := by have := lenO_nxt (p := numP) (fun _ _ _ => num_len) st; rw [hs'] at this; omega
                    have HJ1 := hide (HJd.out.num hE hS)
                    clear hE hS hs' hv
                    obtain ⟨cx, fx⟩ := HSQ.out _ _ HJ1.out
                    have hSd := hSd
                    refine hK.out _ _ hSd ?_
                    clear hK
                    try simp only [Act.put]
                    refine wpAnyF_takeP (i := 6) (oi := _) (v := ?vv36) (some 144) [] rfl rfl (by kernel_rfl) (by kernel_rfl) (by kernel_rfl) (by kernel_rfl) (by kernel_rfl) (fun _ _ _ h => h) (Or.inl ⟨by rfl, ?yy36⟩) hSd ?rr36
                    case yy36 => (intro wq hSq; obtain _ := hSq; go_simp <;> with_reducible rfl)
                    simp only [Act.put, List.setIfInBounds_toArray, List.set_cons_succ, List.set_cons_zero]
                    refine wpAnyF_last (o := _) (by kernel_rfl) rfl (fun K' hK => ?_)
                    rw [if_pos (by rfl)]
                    go_simp
                    refine hK.out _ _ ?_
                    clear hK
                    refine wpAnyF_done (by kernel_rfl) ?_ _
                    try simp only [Act.put]
                    clear hSd
                    have HF := hide (show MS numP (k + 1) s13 (ys ++ [y]) st2 from by
                      have hn := HM.out.next 0 y (fun _ => HB2.out.symm)
                      rw [HA2.out] at hn
                      exact hn)
                    have HJ4 := hide (HJ1.out.put (17 + k) (.int .i64 y))
                    rw [HPS.out] at HJ4
                    clear cx fx
                    go_wp2
                    go_roundw
                    case rel => exact ⟨k + 1, hlt, by go_num, _, _, HF.out, hl2, HJ4.out⟩
                    case measure => simp [intOf]; omega
                  · have hd : decide ((k : Int) < 9) = false := decide_eq_false (by omega)
                    obtain rfl : k = 9 := by omega
                    rw [show ((9 : Nat) : Int) = 9 from rfl]
                    obtain ⟨m0, m1, m2, m3, m4, m5, m6, m7, m8, rfl⟩ : ∃ m0 m1 m2 m3 m4 m5 m6 m7 m8, ys = [m0, m1, m2, m3, m4, m5, m6, m7, m8] := by
                      have hlen := HM.out.1
                      match ys, hlen with
                      | [m0, m1, m2, m3, m4, m5, m6, m7, m8], _ => exact ⟨m0, m1, m2, m3, m4, m5, m6, m7, m8, rfl⟩
                    obtain ⟨s14, hsn⟩ : ∃ x, st = x := ⟨_, rfl⟩
                    rw [hsn] at HM HJ hls
                    have HMS14 := HM
                    have hl14 := hls
                    clear hsn hls HM
                    replace HJ := hide (show EJ w QX s14 [.int .i64 xw, .int .i64 xh, .int .i64 xd, .int .i64 xk, .int .i64 xr, .slice ao7 K7 cap7, .slice ao8 K8 cap8, .int .i64 ph, .int .i64 b0, .int .i64 b1, .int .i64 b2, .int .i64 b3, .int .i64 wh, .slice ao12 K12 cap12, .int .i64 g0, .int .i64 g1, .int .i64 g2, .int .i64 m0, .int .i64 m1, .int .i64 m2, .int .i64 m3, .int .i64 m4, .int .i64 m5, .int .i64 m6, .int .i64 m7, .int .i64 m8, .slice none 0 0, .int .i64 0] [(77, 2, .slice ao12 K12 cap12, K12, y12.flatMap ptL), (9, 1, .slice ao8 K8 cap8, K8, y8.map strV), (3, 1, .slice ao7 K7 cap7, K7, y7.map intV)] wr from HJ.out)
                    generalize wr = W14 at *
                    go_upto_region 32 with fail
                    go_wp2_with fail
                    refine (eyeCount_any w.heap.size (w.heap.size + 1) s14 W14 (by omega) HJ.out.eye (by omega)).mono ?_
                    rintro e C15 ⟨rfl, hE, hS⟩
                    obtain ⟨N15, hN, hN15⟩ := cntL_nonneg s14
                    rw [hN]
                    have HN15 := hide hN
                    obtain ⟨q15, hs'⟩ : ∃ s', nxtO cntL s14 = s' := ⟨_, rfl⟩
                    rw [hs'] at hE
                    have HC15 := hide hs'
                    have hlq15 : lenO q15 ≤ s.length := by have := lenO_nxt (p := cntL) (fun _ _ _ => cntL_len) s14; rw [hs'] at this; omega
                    replace HJ := hide ((HJ.out.num hE hS).row0 78 2 (by decide))
                    clear hE hS hs' hN
                    go_upto_block 12 with fail
                    go_cut [13] from 147 (fun i v => ∃ (ys : List Pt) (st : Option (List UInt8)) (k : Nat) (ao : Option Addr) (cap : Nat), ys.length = k ∧ k ≤ 2147483647 ∧ LS pairP s14 ys st ∧ lenO st ≤ s.length ∧ EJ w QX st [.int .i64 xw, .int .i64 xh, .int .i64 xd, .int .i64 xk, .int .i64 xr, .slice ao7 K7 cap7, .slice ao8 K8 cap8, .int .i64 ph, .int .i64 b0, .int .i64 b1, .int .i64 b2, .int .i64 b3, .int .i64 wh, .slice ao12 K12 cap12, .int .i64 g0, .int .i64 g1, .int .i64 g2, .int .i64 m0, .int .i64 m1, .int .i64 m2, .int .i64 m3, .int .i64 m4, .int .i64 m5, .int .i64 m6, .int .i64 m7, .int .i64 m8, .slice ao k cap, .int .i64 0] [(78, 2, .slice ao k cap, k, ys.flatMap ptL), (77, 2, .slice ao12 K12 cap12, K12, y12.flatMap ptL), (9, 1, .slice ao8 K8 cap8, K8, y8.map strV), (3, 1, .slice ao7 K7 cap7, K7, y7.map intV)] v)
                    case first =>
                      go_wp2_with fail
                      obtain ⟨i0, hi, hz0, hz1, hz2⟩ := info_parts Tryz.infoPointF
                      go_loopw [13] (fun i wr => ∃ k : Nat, k ≤ N15 ∧ i = .int .i64 ((N15 : Int) - k) ∧ ∃ (ys : List Pt) (st : Option (List UInt8)) (ao : Option Addr) (cap : Nat), MS pairP k q15 ys st ∧ lenO st ≤ s.length ∧ EJ w QX st [.int .i64 xw, .int .i64 xh, .int .i64 xd, .int .i64 xk, .int .i64 xr, .slice ao7 K7 cap7, .slice ao8 K8 cap8, .int .i64 ph, .int .i64 b0, .int .i64 b1, .int .i64 b2, .int .i64 b3, .int .i64 wh, .slice ao12 K12 cap12, .int .i64 g0, .int .i64 g1, .int .i64 g2, .int .i64 m0, .int .i64 m1, .int .i64 m2, .int .i64 m3, .int .i64 m4, .int .i64 m5, .int .i64 m6, .int .i64 m7, .int .i64 m8, .slice ao k cap, .int .i64 0] [(78, 2, .slice ao k cap, k, ys.flatMap ptL), (77, 2, .slice ao12 K12 cap12, K12, y12.flatMap ptL), (9, 1, .slice ao8 K8 cap8, K8, y8.map strV), (3, 1, .slice ao7 K7 cap7, K7, y7.map intV)] wr) (fun i _ => (intOf i).toNat)
                      case atStart => exact ⟨0, Nat.zero_le _, by simp, [], q15, none, 0, MS.zero _ _, hlq15, HJ.out⟩
                      case round =>
                        clear HJ
                        obtain ⟨k, hk, rfl, ys, st, ao, cap, hM, hls, hJ⟩ := hrel
                        have HJ := hide hJ
                        have HM := hide hM
                        clear hJ hM
                        by_cases hlt : k < N15
                        rotate_left
                        · obtain rfl : k = N15 := by omega
                          have hd : decide ((0 : Int) < (k : Int) - (k : Int)) = false := decide_eq_false (by omega)
                          have hd2 : decide ((0 : Int) < 0) = false := rfl
                          have hsub : (k : Int) - (k : Int) = 0 := by omega
                          rw [hsub]
                          go_wp2
                          go_meet
                          case rel => exact ⟨ys, st, k, ao, cap, HM.out.1, hN15, LS.of HN15.out (by rw [HC15.out]; exact HM.out) (.inl rfl), hls, HJ.out⟩
                        obtain ⟨J, hJ⟩ : ∃ J : Int, (N15 : Int) - k = J := ⟨_, rfl⟩
                        rw [hJ]
                        have hJ0 : 0 < J := by omega
                        have hd : decide ((0 : Int) < J) = true := decide_eq_true hJ0
                        rcases id HJ.out.eye with ⟨l, rfl, he⟩ | ⟨rfl, l, _, he⟩
                        rotate_left
                        · have hbad : wr.cell? ⟨w.heap.size + 1, 1, none⟩ = some (.bool true) := (bx2 he).2
                          clear he hJ
                          go_wp2
                          go_meet
                          case rel => exact ⟨ys, none, k, ao, cap, HM.out.1, by omega, LS.of HN15.out (by rw [HC15.out]; exact HM.out) (.inr ⟨rfl, hk⟩), hls, HJ.out⟩
                        have hbad : wr.cell? ⟨w.heap.size + 1, 1, none⟩ = some (.bool false) := (bx2 he).2
                        obtain ⟨st, hst⟩ : ∃ st, some l = st := ⟨_, rfl⟩
                        rw [hst] at HJ HM hls
                        clear he hst
                        have hwJ : IntKind.i64.wrap (J - 1) = J - 1 := IntWalk.i64_in _ (by omega)
                        have HSQ := hide (fun (v : World) (st' : Option (List UInt8)) (hv : EJ w QX st' [.int .i64 xw, .int .i64 xh, .int .i64 xd, .int .i64 xk, .int .i64 xr, .slice ao7 K7 cap7, .slice ao8 K8 cap8, .int .i64 ph, .int .i64 b0, .int .i64 b1, .int .i64 b2, .int .i64 b3, .int .i64 wh, .slice ao12 K12 cap12, .int .i64 g0, .int .i64 g1, .int .i64 g2, .int .i64 m0, .int .i64 m1, .int .i64 m2, .int .i64 m3, .int .i64 m4, .int .i64 m5, .int .i64 m6, .int .i64 m7, .int .i64 m8, .slice ao k cap, .int .i64 0] [(78, 2, .slice ao k cap, k, ys.flatMap ptL), (77, 2, .slice ao12 K12 cap12, K12, y12.flatMap ptL), (9, 1, .slice ao8 K8 cap8, K8, y8.map strV), (3, 1, .slice ao7 K7 cap7, K7, y7.map intV)] v) => show v.cell? ⟨QX, 26, none⟩ = some (.slice ao k cap) ∧ True from ⟨by rw [Lib.cell_of_heap hv.box]; rfl, trivial⟩)
                        have HL1 := hide (show k + 1 ≤ maxLen by unfold maxLen; omega)
                        have HL2 := hide (show (k + 1) * 16 ≤ 140737488355328 by omega)
                        have HJJ := hide hJ
                        have HX := hide (show ∀ x ∈ ([(77, 2, .slice ao12 K12 cap12, K12, y12.flatMap ptL), (9, 1, .slice ao8 K8 cap8, K8, y8.map strV), (3, 1, .slice ao7 K7 cap7, K7, y7.map intV)] : List RowX), x.1 ≠ 78 from by simp)
                        clear hJ
                        go_upto_region 35 with fail
                        clear hbad
                        have HJd := hide (HJ.out.low ((Below.refl wr.heap.size wr).drew))
                        have hSd := HSQ.out _ _ HJd.out
                        have hmx : Tryz.prog.follows .mixedOrders = true := by kernel_rfl
                        refine wp_region_last (S := (fun v : World => v.cell? ⟨QX, 26, none⟩ = some (.slice ao k cap) ∧ True)) (f := 14) hmx ?_
                        show wpAnyF _ _ _ _ _ _ 15 _ _ wr.drew
                        refine wpAnyF_takeP (i := 0) (oi := _) (v := ?vv37) (some 158) [] rfl rfl (by kernel_rfl) (by kernel_rfl) (by kernel_rfl) (by kernel_rfl) (by kernel_rfl) (fun _ _ _ h => h) (Or.inl ⟨by rfl, ?yy37⟩) hSd ?rr37
                        case yy37 => (intro wq hSq; obtain ⟨_, _⟩ := hSq; go_simp <;> with_reducible rfl)
                        simp only [Act.put, List.setIfInBounds_toArray, List.set_cons_succ, List.set_cons_zero]
                        refine wpAnyF_takeP (i := 1) (oi := _) (v := ?vv38) (some 159) [] rfl rfl (by kernel_rfl) (by kernel_rfl) (by kernel_rfl) (by kernel_rfl) (by kernel_rfl) (fun _ _ _ h => h) (Or.inl ⟨by rfl, ?yy38⟩) hSd ?rr38
                        case yy38 => (intro wq hSq; obtain ⟨_, _⟩ := hSq; go_simp <;> with_reducible rfl)
                        simp only [Act.put, List.setIfInBounds_toArray, List.set_cons_succ, List.set_cons_zero]
                        refine wpAnyF_takeP (i := 5) (oi := _) (v := ?vv39) (some 163) [] rfl rfl (by kernel_rfl) (by kernel_rfl) (by kernel_rfl) (by kernel_rfl) (by kernel_rfl) (fun _ _ _ h => h) (Or.inl ⟨by rfl, ?yy39⟩) hSd ?rr39
                        case yy39 => (intro wq hSq; obtain ⟨_, _⟩ := hSq; go_simp <;> with_reducible rfl)
                        simp only [Act.put, List.setIfInBounds_toArray, List.set_cons_succ, List.set_cons_zero]
                        refine wpAnyF_takeP (i := 7) (oi := _) (v := ?vv40) (some 165) [] rfl rfl (by kernel_rfl) (by kernel_rfl) (by kernel_rfl) (by kernel_rfl) (by kernel_rfl) (fun _ _ _ h => h) (Or.inl ⟨by rfl, ?yy40⟩) hSd ?rr40
                        case yy40 => (intro wq hSq; obtain ⟨_, _⟩ := hSq; go_simp <;> with_reducible rfl)
                        simp only [Act.put, List.setIfInBounds_toArray, List.set_cons_succ, List.set_cons_zero]
                        refine wpAnyF_takeP (i := 2) (oi := _) (v := ?vv41) (some 160) [] rfl rfl (by kernel_rfl) (by kernel_rfl) (by kernel_rfl) (by kernel_rfl) (by kernel_rfl) (fun _ _ _ h => h) (Or.inl ⟨by rfl, ?yy41⟩) hSd ?rr41
                        case yy41 => (intro wq hSq; obtain ⟨_, _⟩ := hSq; go_simp <;> with_reducible rfl)
                        simp only [Act.put, List.setIfInBounds_toArray, List.set_cons_succ, List.set_cons_zero]
                        refine wpAnyF_takeP (i := 3) (oi := _) (v := ?vv42) (some 161) [] rfl rfl (by kernel_rfl) (by kernel_rfl) (by kernel_rfl) (by kernel_rfl) (by kernel_rfl) (fun _ _ _ h => h) (Or.inl ⟨by rfl, ?yy42⟩) hSd ?rr42
                        case yy42 => (intro wq hSq; obtain ⟨_, _⟩ := hSq; go_simp <;> with_reducible rfl)
                        simp only [Act.put, List.setIfInBounds_toArray, List.set_cons_succ, List.set_cons_zero]
                        refine wpAnyF_takeP (i := 4) (oi := _) (v := ?vv43) (some 162) [] rfl rfl (by kernel_rfl) (by kernel_rfl) (by kernel_rfl) (by kernel_rfl) (by kernel_rfl) (fun _ _ _ h => h) (Or.inl ⟨by rfl, ?yy43⟩) hSd ?rr43
                        case yy43 => (intro wq hSq; obtain ⟨_, _⟩ := hSq; go_simp <;> with_reducible rfl)
                        simp only [Act.put, List.setIfInBounds_toArray, List.set_cons_succ, List.set_cons_zero]
                        refine wpAnyF_one (i := 6) (o := _) (by kernel_rfl) rfl (fun K' hK => ?_)
                        rw [if_pos (by rfl)]
                        go_simp
                        refine (eyeNum_any w.heap.size (w.heap.size + 1) st wr.drew (by omega) HJd.out.eye (by omega)).mono ?_
                        rintro e X1 ⟨rfl, hE, hS⟩
                        obtain ⟨st1, hs'⟩ : ∃ s', nxtO numP st = s' := ⟨_, rfl⟩
                        obtain ⟨x, hv⟩ : ∃ x, valO numP 0 st = x := ⟨_, rfl⟩
                        rw [hs'] at hE
                        rw [hv]
                        have HAst1 := hide hs'
                        have HBst1 := hide hv
                        have hlst1 : lenO st1 ≤ s.length := by have := lenO_nxt (p := numP) (fun _ _ _ => num_len) st; rw [hs'] at this; omega
                        have HJ1 := hide (HJd.out.num hE hS)
                        clear hE hS hs' hv
                        have hSd := HSQ.out _ _ HJ1.out
                        refine hK.out _ _ hSd ?_
                        clear hK
                        try simp only [Act.put]
                        refine wpAnyF_one (i := 8) (o := _) (by kernel_rfl) rfl (fun K' hK => ?_)
                        rw [if_pos (by rfl)]
                        go_simp
                        refine (eyeNum_any w.heap.size (w.heap.size + 1) st1 X1 (by omega) HJ1.out.eye (by omega)).mono ?_
                        rintro e X2 ⟨rfl, hE, hS⟩
                        obtain ⟨st2, hs'⟩ : ∃ s', nxtO numP st1 = s' := ⟨_, rfl⟩
                        obtain ⟨y, hv⟩ : ∃ x, valO numP 0 st1 = x := ⟨_, rfl⟩
                        rw [hs'] at hE
                        rw [hv]
                        have HAst2 := hide hs'
                        have HBst2 := hide hv
                        have hlst2 : lenO st2 ≤ s.length := by have := lenO_nxt (p := numP) (fun _ _ _ => num_len) st1; rw [hs'] at this; omega
                        have HJ2 := hide (HJ1.out.num hE hS)
                        clear hE hS hs' hv
                        have hSd := HSQ.out _ _ HJ2.out
                        refine hK.out _ _ hSd ?_
                        clear hK
                        try simp only [Act.put]
                        refine wpAnyF_takeP (i := 9) (oi := _) (v := ?vv44) (some 167) [] rfl rfl (by kernel_rfl) (by kernel_rfl) (by kernel_rfl) (by kernel_rfl) (by kernel_rfl) (fun _ _ _ h => h) (Or.inl ⟨by rfl, ?yy44⟩) hSd ?rr44
                        case yy44 => (intro wq hSq; obtain ⟨_, _⟩ := hSq; go_simp <;> with_reducible rfl)
                        simp only [Act.put, List.setIfInBounds_toArray, List.set_cons_succ, List.set_cons_zero]
                        refine wpAnyF_one (i := 10) (o := _) (by kernel_rfl) rfl (fun K' hK => ?_)
                        rw [if_pos (by rfl)]
                        go_simp
                        have HJ3 := hide (HJ2.out.low (bel_alloc X2 (Obj.cells #[.int .i64 x, .int .i64 y] 78)))
                        have hSd := HSQ.out _ _ HJ3.out
                        refine hK.out _ _ hSd ?_
                        clear hK
                        try simp only [Act.put]
                        refine wpAnyF_one (i := 11) (o := _) (by kernel_rfl) rfl (fun K' hK => ?_)
                        refine step_append_lies _ rfl _ _ 28 rfl QX 78 i0 (.agg #[.int .i64 0, .int .i64 0]) 2 16 Tryz.underlying28 hi hz0 hz1 hz2 rfl (by decide) (.slice ao k cap) k (ys.flatMap ptL) rfl (HJ3.out.rows (78, 2, .slice ao k cap, k, ys.flatMap ptL) (by simp)) ⟨X2.heap.size, 0, none⟩ 1 1 [.int .i64 x, .int .i64 y] rfl rfl (World.news_of_block (al1 X2 _)) (fun u hu => by simp at hu; rcases hu with rfl | rfl <;> rfl) Nat.one_pos HL1.out HL2.out (Nat.le_of_lt HJ3.out.box.lt) _ rfl ?_
                        intro gg cp w3 hown hgrow hat hltg
                        obtain ⟨x1, x2, x3⟩ := HJ3.out.app (i := 26) rfl hgrow hown HX.out
                        have hSd := (⟨x1, trivial⟩ : w3.cell? ⟨QX, 26, none⟩ = some (.slice ao k cap) ∧ True)
                        refine hK.out _ _ hSd ?_
                        clear hK
                        try simp only [Act.put]
                        refine wpAnyF_takeP (i := 12) (oi := _) (v := ?vv45) (some 170) [13] rfl rfl (by kernel_rfl) (by kernel_rfl) (by kernel_rfl) (by kernel_rfl) (by kernel_rfl) (fun _ _ _ h => h) (Or.inl ⟨by rfl, ?yy45⟩) hSd ?rr45
                        case yy45 => (intro wq hSq; obtain ⟨_, _⟩ := hSq; go_simp <;> with_reducible rfl)
                        try simp only [Act.put]
                        refine wpAnyF_takeP (i := 13) (oi := _) (v := ?vv46) (some 171) [] rfl rfl (by kernel_rfl) (by kernel_rfl) (by kernel_rfl) (by kernel_rfl) (by kernel_rfl) (fun _ _ _ h => h) (Or.inl ⟨by rfl, ?yy46⟩) hSd ?rr46
                        case yy46 => (intro wq hSq; obtain ⟨_, _⟩ := hSq; go_simp <;> with_reducible rfl)
                        try simp only [Act.put]
                        refine wpAnyF_last (o := _) (by kernel_rfl) rfl (fun K' hK => ?_)
                        rw [if_pos (by rfl)]
                        go_simp
                        refine hK.out _ _ ?_
                        clear hK
                        refine wpAnyF_done (by kernel_rfl) ?_ _
                        try simp only [Act.put]
                        clear hSd
                        have HF := hide (show MS pairP (k + 1) q15 (ys ++ [(x, y)]) st2 from by
                              have hps := pair_step st
                              rw [HAst1.out, HBst1.out, HAst2.out, HBst2.out] at hps
                              have hn := HM.out.next (0, 0) (x, y) (fun h => hps.2 h)
                              rw [hps.1] at hn
                              exact hn)
                        have HJ4 := hide (show EJ w QX st2 [.int .i64 xw, .int .i64 xh, .int .i64 xd, .int .i64 xk, .int .i64 xr, .slice ao7 K7 cap7, .slice ao8 K8 cap8, .int .i64 ph, .int .i64 b0, .int .i64 b1, .int .i64 b2, .int .i64 b3, .int .i64 wh, .slice ao12 K12 cap12, .int .i64 g0, .int .i64 g1, .int .i64 g2, .int .i64 m0, .int .i64 m1, .int .i64 m2, .int .i64 m3, .int .i64 m4, .int .i64 m5, .int .i64 m6, .int .i64 m7, .int .i64 m8, .slice (some ⟨gg, 0, none⟩) (k + 1) cp, .int .i64 0] [(78, 2, .slice (some ⟨gg, 0, none⟩) (k + 1) cp, (k + 1), (ys ++ [(x, y)]).flatMap ptL), (77, 2, .slice ao12 K12 cap12, K12, y12.flatMap ptL), (9, 1, .slice ao8 K8 cap8, K8, y8.map strV), (3, 1, .slice ao7 K7 cap7, K7, y7.map intV)] (w3.setCell ⟨QX, 26, none⟩ (.slice (some ⟨gg, 0, none⟩) (k + 1) cp)) from by
                              have e : (ys ++ [(x, y)]).flatMap ptL = ys.flatMap ptL ++ [.int .i64 x, .int .i64 y] := by simp [List.flatMap_append, ptL]
                              rw [e]
                              exact x3)
                        clear x3 hown hgrow hat hltg
                        go_wp2
                        go_roundw
                        case rel => exact ⟨k + 1, hlt, by (first | (go_num; done) | (congr 1; have := HJJ.out; omega)), _, _, _, _, HF.out, hlst2, HJ4.out⟩
                        case measure => simp [intOf]; omega
                    case rest =>
                      obtain ⟨y15, s15, K15, ao15, cap15, hyl15, hK15, hLS, hl15, hJ⟩ := hcut
                      have HLS15 := hide hLS
                      have HJ := hide hJ
                      clear hLS hJ HN15 HC15 hlq15
                      generalize wc = W15 at *
                      go_wp2_with fail
                      refine (eyeNum_any w.heap.size (w.heap.size + 1) s15 W15 (by omega) HJ.out.eye (by omega)).mono ?_
                      rintro e V16 ⟨rfl, hE, hS⟩
                      obtain ⟨s16, hs'⟩ : ∃ s', nxtO numP s15 = s' := ⟨_, rfl⟩
                      obtain ⟨am, hv⟩ : ∃ x, valO numP 0 s15 = x := ⟨_, rfl⟩
                      rw [hs'] at hE
                      rw [hv]
                      have HS16 := hide hs'
                      have HV16 := hide hv
                      have hl16 : lenO s16 ≤ s.length := by have := lenO_nxt (p := numP) (fun _ _ _ => num_len) s15; rw [hs'] at this; omega
                      replace HJ := hide (HJ.out.num hE hS)
                      have ci : V16.cell? ⟨QX, 27, none⟩ = some (.int .i64 0) := by rw [Lib.cell_of_heap HJ.out.box]; rfl
                      have fi : V16.frozen? ⟨QX, 27, none⟩ = false := Lib.frozen_of_heap HJ.out.box _
                      replace HJ := hide (HJ.out.put 27 (.int .i64 am))
                      clear hE hS hs' hv
                      replace HJ := hide (show EJ w QX s16 [.int .i64 xw, .int .i64 xh, .int .i64 xd, .int .i64 xk, .int .i64 xr, .slice ao7 K7 cap7, .slice ao8 K8 cap8, .int .i64 ph, .int .i64 b0, .int .i64 b1, .int .i64 b2, .int .i64 b3, .int .i64 wh, .slice ao12 K12 cap12, .int .i64 g0, .int .i64 g1, .int .i64 g2, .int .i64 m0, .int .i64 m1, .int .i64 m2, .int .i64 m3, .int .i64 m4, .int .i64 m5, .int .i64 m6, .int .i64 m7, .int .i64 m8, .slice ao15 K15 cap15, .int .i64 am] [(78, 2, .slice ao15 K15 cap15, K15, y15.flatMap ptL), (77, 2, .slice ao12 K12 cap12, K12, y12.flatMap ptL), (9, 1, .slice ao8 K8 cap8, K8, y8.map strV), (3, 1, .slice ao7 K7 cap7, K7, y7.map intV)] (V16.setCell ⟨QX, 27, none⟩ (.int .i64 am)) from HJ.out)
                      go_upto_region 37 with fail
                      clear ci fi
                      generalize V16.setCell ⟨QX, 27, none⟩ (.int .i64 am) = V16' at *
                      have HCH := hide (show Chain s s2 s3 s4 s5 s6 s7 s8 s9 s10 s11 s12 s13 s14 s15 s16 l1 y7 y8 [b0, b1, b2, b3] [g0, g1, g2] [m0, m1, m2, m3, m4, m5, m6, m7, m8] y12 y15 from ⟨HT1.out, by rw [HS1.out]; exact HS2.out.symm, HS3.out.symm, HS4.out.symm, HS5.out.symm, HS6.out.symm, HLS7.out, HLS8.out, HS9.out.symm, HMS10.out, HS11.out.symm, HLS12.out, HMS13.out, HMS14.out, HLS15.out, HS16.out.symm⟩)
                      have hres := HJ.out.res
                      by_cases hfin : s16 = some []
                      rotate_left
                      · have HNO := hide (show RR = none by rw [← HRR.out]; exact rd_none_of_q (HCH.out.no hfin))
                        have HG := hide (setRow_heap _ _ _ rawZ _ _ hres)
                        have HBF := hide (below_setRow (g := w.heap.size) HJ.out.bel (Nat.le_refl _) rawZ)
                        rcases HJ.out.eye with ⟨l, hsl, he⟩ | ⟨hsl, l, _, he⟩
                        · have hne : l ≠ [] := fun e => hfin (by rw [hsl, e])
                          obtain ⟨e0, e1⟩ := bx2 he
                          have hq3 : ((str l).toList == []) = false := by rw [Lib.toList_data, str_data]; exact beq_false_of_ne hne
                          have hq4 : ((str l).toList != []) = true := by rw [bne, hq3]; rfl
                          clear he hsl hne HCH HJ
                          generalize str l = SL at *
                          go_wp2_with (refine wpList_store_row rfl 32 _ _ rfl w.heap.size rawZ rfl rfl _ _ hres iz rfl oz ?_)
                          refine bodyPost_ret (v := .tuple #[.agg rawZ, .bool false]) (raw_results Tryz.results18 _ _ _ _ _ rfl rfl HG.out iz) rfl ⟨HBF.out, .inr ⟨HNO.out, rfl⟩⟩
                        · obtain ⟨e0, e1⟩ := bx2 he
                          clear he hsl HCH HJ
                          go_wp2_with (refine wpList_store_row rfl 32 _ _ rfl w.heap.size rawZ rfl rfl _ _ hres iz rfl oz ?_)
                          refine bodyPost_ret (v := .tuple #[.agg rawZ, .bool false]) (raw_results Tryz.results18 _ _ _ _ _ rfl rfl HG.out iz) rfl ⟨HBF.out, .inr ⟨HNO.out, rfl⟩⟩
                      have hyes := HCH.out.yes hfin
                      rw [HS1.out, HV2.out, HV3.out, HV4.out, HV5.out, HV6.out, HV9.out, HV11.out, HV16.out] at hyes
                      obtain ⟨r, hr⟩ : ∃ r, (⟨xw, xh, xd, xk, xr, y7, y8, ⟨ph, ix [b0, b1, b2, b3], wh, y12, ix [g0, g1, g2], ix [m0, m1, m2, m3, m4, m5, m6, m7, m8], y15, am⟩⟩ : RawF) = r := ⟨_, rfl⟩
                      rw [hr] at hyes
                      subst hfin
                      have f5 := HJ.out.rows (3, 1, .slice ao7 K7 cap7, K7, y7.map intV) (by simp)
                      have f6 := HJ.out.rows (9, 1, .slice ao8 K8 cap8, K8, y8.map strV) (by simp)
                      have f13 := HJ.out.rows (77, 2, .slice ao12 K12 cap12, K12, y12.flatMap ptL) (by simp)
                      have f26 := HJ.out.rows (78, 2, .slice ao15 K15 cap15, K15, y15.flatMap ptL) (by simp)
                      simp only at f5 f6 f13 f26
                      have hIR : IsRaw V16' r (.slice ao7 K7 cap7) (.slice ao8 K8 cap8) (.slice ao12 K12 cap12) (.slice ao15 K15 cap15) := by
                        rw [← hr]
                        exact ⟨IsInts.own (base := QX) (by rw [hyl7]; exact f5) (by rw [hyl7]; omega), IsStrs.own (base := QX) (by rw [hyl8]; exact f6) (by rw [hyl8]; omega), IsPts.own (base := QX) (by rw [hyl12]; exact f13) (by rw [hyl12]; omega), IsPts.own (base := QX) (by rw [hyl15]; exact f26) (by rw [hyl15]; omega)⟩
                      have hw1 : w.heap.size < QX := by omega
                      have HFRE := hide (show Fresh QX (.slice ao7 K7 cap7) ∧ Fresh QX (.slice ao8 K8 cap8) ∧ Fresh QX (.slice ao12 K12 cap12) ∧ Fresh QX (.slice ao15 K15 cap15) from ⟨Fresh.own f5, Fresh.own f6, Fresh.own f13, Fresh.own f26⟩)
                      obtain ⟨RB, hRB⟩ : ∃ RB, rawA r (.slice ao7 K7 cap7) (.slice ao8 K8 cap8) (.slice ao12 K12 cap12) (.slice ao15 K15 cap15) = RB := ⟨_, rfl⟩
                      have d1 : V16'.heap[QX]? = some (.cells RB 32 (0, 0)) := by rw [← hRB, ← hr]; exact HJ.out.box
                      have i1 : (Tryz.prog.info? 32).map (·.size) = some RB.size := by rw [← hRB]; kernel_rfl
                      have i2 : (rawZ : Array Value).size = RB.size := by rw [← hRB]; rfl
                      have hos : RB.all (·.oneCell') = true := by rw [← hRB]; exact raw_one hIR
                      have HRP := hide (refPlane_any r _ _ _ _ V16' hIR)
                      rw [hRB] at HRP
                      have HRB := hide hRB
                      have HIR := hide hIR
                      have HYES := hide hyes
                      have HJB := hide HJ.out.bel
                      obtain ⟨e0, e1⟩ : V16'.cell? ⟨w.heap.size + 1, 0, none⟩ = some (.string (str [])) ∧ V16'.cell? ⟨w.heap.size + 1, 1, none⟩ = some (.bool false) := by
                        rcases HJ.out.eye with ⟨l, hsl, he⟩ | ⟨hsl, _⟩
                        · cases hsl; exact bx2 he
                        · cases hsl
                      have hq3 : ((str ([] : List UInt8)).toList == []) = true := by rw [Lib.toList_data, str_data]; rfl
                      have hq4 : ((str ([] : List UInt8)).toList != []) = false := by rw [bne, hq3]; rfl
                      clear hyes hIR hRB hr f5 f6 f13 f26 HCH HJ
                      generalize str ([] : List UInt8) = SL at *
                      go_wp2_with (refine wpList_load_row rfl 32 _ rfl _ rfl _ _ _ _ d1 Tryz.underlying32 rfl i1 ?_)
                      clear e0 e1 hq3 hq4
                      refine (HRP.out).mono ?_
                      rintro e Z1 hz
                      obtain ⟨zv, rfl, hzv, hzb⟩ : ∃ zv, e = .returned (.tuple #[.agg #[.int .i64 (planeW r), .int .i64 (planeH r), zv], .int .i64 (planeE r)]) ∧ IsInts Z1 zv (planeZ r) ∧ Below V16'.heap.size V16' Z1 := by
                        obtain ⟨zv, h1, h2, h3⟩ := hz
                        exact ⟨zv, h1, h2, by first | exact h3 | exact h3.1⟩
                      obtain ⟨zo, ZN, zc, rfl⟩ : ∃ zo ZN zc, zv = .slice zo ZN zc := by
                        obtain ⟨a, c, h, _⟩ := hzv
                        exact ⟨a, _, c, h⟩
                      clear hz hzv
                      have hba := bel_trans hzb (bel_alloc Z1 (Obj.cells #[.int .i64 (planeW r), .int .i64 (planeH r), .slice zo ZN zc] 34))
                      have d2 := (hba.block _ (Array.getElem?_eq_some_iff.1 d1).1).trans d1
                      have g3 := (hba.block _ (Array.getElem?_eq_some_iff.1 hres).1).trans hres
                      have HBB := hide (HJB.out.trans (hba.mono HJB.out.size))
                      have HIR2 := hide (HIR.out.below hba (Nat.le_refl _))
                      clear d1 hres hzb hba
                      by_cases hpe : planeE r = 0
                      · have HYY := hide (show RR = some (nrm r) by rw [← HRR.out]; exact rd_of_q HYES.out hpe)
                        rw [hpe]
                        generalize planeW r = ZW at *
                        generalize planeH r = ZH at *
                        go_upto_region 42 with fail
                        generalize Z1.alloc (Obj.cells #[.int .i64 ZW, .int .i64 ZH, .slice zo ZN zc] 34) = Z2 at *
                        have HG := hide (setRow_heap _ _ _ RB _ _ g3)
                        have HBF := hide (below_setRow (g := w.heap.size) HBB.out (Nat.le_refl _) RB)
                        obtain ⟨f1, f2, f3, f4⟩ := HFRE.out
                        have HIF := hide (HIR2.out.other (k := w.heap.size) (w' := Z2.setRow w.heap.size RB) (B := QX) (by simp) (fun b hb => setRow_other _ _ _ _ hb) hw1 f1 f2 f3 f4)
                        have hwq : w.heap.size ≤ QX := by omega
                        have HFZ := hide (show Fresh w.heap.size (.slice ao7 K7 cap7) ∧ Fresh w.heap.size (.slice ao8 K8 cap8) ∧ Fresh w.heap.size (.slice ao12 K12 cap12) ∧ Fresh w.heap.size (.slice ao15 K15 cap15) from ⟨f1.mono hwq, f2.mono hwq, f3.mono hwq, f4.mono hwq⟩)
                        clear f1 f2 f3 f4
                        go_wp2_with (first | refine wpList_load_row rfl 32 _ rfl _ rfl _ _ _ _ d2 Tryz.underlying32 rfl i1 ?_ | refine wpList_store_row rfl 32 _ _ rfl w.heap.size RB rfl rfl _ _ g3 i1 i2 hos ?_)
                        refine bodyPost_ret (v := .tuple #[.agg RB, .bool true]) (raw_results Tryz.results18 _ _ _ _ _ rfl rfl HG.out i1) rfl ⟨HBF.out, .inl ⟨r, _, _, _, _, HYY.out, by rw [HRB.out], HIF.out, HFZ.out⟩⟩
                      · have hn : (planeE r != 0) = true := by simpa using hpe
                        have HNO := hide (show RR = none by rw [← HRR.out]; exact rd_none_of_bad HYES.out hpe)
                        generalize planeW r = ZW at *
                        generalize planeH r = ZH at *
                        generalize planeE r = ZE at *
                        have HG := hide (setRow_heap _ _ _ rawZ _ _ g3)
                        have HBF := hide (below_setRow (g := w.heap.size) HBB.out (Nat.le_refl _) rawZ)
                        go_wp2_with (refine wpList_store_row rfl 32 _ _ rfl w.heap.size rawZ rfl rfl _ _ g3 iz rfl oz ?_)
                        refine bodyPost_ret (v := .tuple #[.agg rawZ, .bool false]) (raw_results Tryz.results18 _ _ _ _ _ rfl rfl HG.out iz) rfl ⟨HBF.out, .inr ⟨HNO.out, rfl⟩⟩
end Go.Proofs.YtanebhbfekcplaaGreat

namespace Go.Proofs.YtanebhbfekcplaaGreat
set_option linter.unusedVariables false
open Go.RowKit
def IsInk (B b : Nat) (l : List UInt8) (w : World) : Prop := B ≤ b ∧ ∃ (so : Option Addr) (cap : Nat), w.heap[b]? = some (.cells #[.slice so l.length cap] 73 (0, 0)) ∧ w.ownsRow B 5 1 (.slice so l.length cap) l.length (byt l)
theorem IsInk.below {B b : Nat} {l : List UInt8} {w w' : World} (h : IsInk B b l w) (hb : Below w.heap.size w w') : IsInk B b l w' := by
  obtain ⟨h0, so, cap, h1, h2⟩ := h
  exact ⟨h0, so, cap, (hb.block _ (Array.getElem?_eq_some_iff.1 h1).1).trans h1, ownsRow_below h2 hb⟩
theorem IsInk.lt {B b : Nat} {l : List UInt8} {w : World} (h : IsInk B b l w) : b < w.heap.size := by
  obtain ⟨_, _, _, h1, _⟩ := h
  exact (Array.getElem?_eq_some_iff.1 h1).1
theorem ink_put {B b : Nat} {l m : List UInt8} {so : Option Addr} {cap : Nat} {g cp : Nat} {w V w2 : World} (hB : B ≤ b) (hBw : B ≤ w.heap.size)
    (h1 : V.heap[b]? = some (.cells #[.slice so l.length cap] 73 (0, 0))) (hown : V.ownsRow B 5 1 (.slice so l.length cap) l.length (byt l)) (hst : WStep B b w V)
    (hg : V.grownBy w2 (Value.slice so l.length cap).ownBlock) (ho : w2.ownsRow B 5 1 (.slice (some ⟨g, 0, none⟩) (l.length + m.length) cp) (l.length + m.length) (byt l ++ byt m)) :
    w2.cell? ⟨b, 0, none⟩ = some (.slice so l.length cap) ∧ w2.frozen? ⟨b, 0, none⟩ = false ∧ IsInk B b (l ++ m) (w2.setCell ⟨b, 0, none⟩ (.slice (some ⟨g, 0, none⟩) (l.length + m.length) cp)) ∧ WStep B b w (w2.setCell ⟨b, 0, none⟩ (.slice (some ⟨g, 0, none⟩) (l.length + m.length) cp)) := by
  obtain ⟨x1, x2, x3, x4, x5, x6⟩ := app_box (i := 0) (by decide) (cs := [.slice so l.length cap]) h1 rfl hown hst.bel (Nat.le_refl _) hB (Nat.le_trans hBw hst.bel.size) hg ho
  refine ⟨x1, x2, ⟨hB, some ⟨g, 0, none⟩, cp, by rw [List.length_append]; exact x3, by rw [List.length_append, show byt (l ++ m) = byt l ++ byt m by simp [byt]]; exact x4⟩, ⟨x5, fun k h3 h4 h5 => ?_⟩⟩
  refine (x6 k (Nat.lt_of_lt_of_le h3 hst.bel.size) (fun e => ?_) h4).trans (hst.keep k h3 h4 h5)
  rcases hown.2 with ⟨hv, _⟩ | ⟨g', cap', cur, hv, _, hgg, _⟩
  · rw [hv] at e; cases e
  · rw [hv] at e
    simp only [Value.ownBlock, Option.some.injEq] at e
    subst e
    rw [hst.keep _ h3 h4 h5] at hgg
    exact h5 _ _ hgg
theorem WStep.drew (B b : Nat) (w : World) : WStep B b w w.drew := ⟨(Below.refl _ _).drew, fun _ _ _ _ => rfl⟩
theorem num4_byt (X : Int) : byt (num4 X) = [.int .u8 (IntKind.u8.wrap (X / 16777216)), .int .u8 (IntKind.u8.wrap (X / 65536)), .int .u8 (IntKind.u8.wrap (X / 256)), .int .u8 (IntKind.u8.wrap X)] := by
  have e : ∀ n : Nat, n < 256 → ((UInt8.ofNat n).toNat : Int) = n := fun n hn => by simp [UInt8.toNat_ofNat']; omega
  simp only [byt, num4, List.map_cons, List.map_nil, IntKind.wrap_u8]
  rw [e _ (by omega), e _ (by omega), e _ (by omega), e _ (by omega)]
  have h1 : (((X % 4294967296).toNat / 16777216 % 256 : Nat) : Int) = X / 16777216 % 256 := by omega
  have h2 : (((X % 4294967296).toNat / 65536 % 256 : Nat) : Int) = X / 65536 % 256 := by omega
  have h3 : (((X % 4294967296).toNat / 256 % 256 : Nat) : Int) = X / 256 % 256 := by omega
  have h4 : (((X % 4294967296).toNat % 256 : Nat) : Int) = X % 256 := by omega
  rw [h1, h2, h3, h4]
set_option maxHeartbeats 3200000 in
set_option maxRecDepth 100000 in
theorem inkNums_any (B b : Nat) (l : List UInt8) (v : Value) (xs : List Int) (w : World) (h : IsInk B b l w) (hv : IsInts w v xs) (hap : xs = [] ∨ Apart B b v w) (hlen : l.length + xs.length * 4 ≤ 140737488355328) (hBw : B ≤ w.heap.size) :
    Calls Tryz.prog 44 #[.pointer (some ⟨b, 0, none⟩), v] w fun e w' => e = .returned (.tuple #[]) ∧ IsInk B b (l ++ xs.flatMap num4) w' ∧ WStep B b w w' := by
  have HV := hide hv
  have HA := hide hap
  obtain ⟨ao, ca, rfl, hxl, hc⟩ := hv
  have HW := hide h
  obtain ⟨i0, hi, hz0, hz1, hz2⟩ := info_parts Tryz.infoByteW
  clear h hap
  go_enter Tryz.func44, Tryz.ntmps44
  go_wp2_with fail
  go_loopw [4] (fun i wr => ∃ k : Nat, k ≤ xs.length ∧ i = .int .i64 k ∧ IsInk B b (l ++ (xs.take k).flatMap num4) wr ∧ WStep B b w wr) (fun i _ => xs.length - (intOf i).toNat)
  case atStart => exact ⟨0, Nat.zero_le _, rfl, by simpa using HW.out, WStep.refl _ _ _⟩
  case round =>
    clear HW
    obtain ⟨k, hk, rfl, hW, hS⟩ := hrel
    have HW := hide hW
    have HST := hide hS
    clear hW hS
    by_cases hlt : k < xs.length
    · have hd : decide ((k : Int) < (xs.length : Int)) = true := by simp; omega
      obtain ⟨cb, off, rfl, hcb, hcell⟩ : ∃ b off, ao = some ⟨b, off, none⟩ ∧ b < wr.heap.size ∧ wr.cell? ⟨b, off + k, none⟩ = some (.int .i64 xs[k]) := by
        obtain ⟨ao', ca', hv', _, h'⟩ := HV.out.step HST.out (HA.out.resolve_left (fun e => by rw [e] at hlt; simp at hlt))
        cases hv'
        rcases h' with h' | ⟨b, off, h1, h2, h3⟩
        · rw [h'] at hlt; simp at hlt
        · exact ⟨b, off, h1, h2, h3 k hlt⟩
      have HTN := hide (take_nums xs k hlt)
      obtain ⟨X, hX⟩ : ∃ X, xs[k] = X := ⟨_, rfl⟩
      rw [hX] at hcell HTN
      have hll : (l ++ (xs.take k).flatMap num4).length = l.length + k * 4 := by rw [List.length_append, nums_length, List.length_take]; omega
      obtain ⟨hB, so, cap, h1, h2⟩ := HW.out
      obtain ⟨Z, hZ⟩ : ∃ Z, l ++ (xs.take k).flatMap num4 = Z := ⟨_, rfl⟩
      rw [hZ] at h1 h2 hll
      have HZ := hide hZ
      clear hZ HW
      have hlb := (Array.getElem?_eq_some_iff.1 h1).1
      have HS := hide (show ∀ v, Below wr.heap.size wr v → v.cell? ⟨b, 0, none⟩ = some (.slice so Z.length cap) ∧ v.cell? ⟨cb, off + k, none⟩ = some (.int .i64 X) from fun v h => ⟨by rw [Lib.cell_of_heap ((h.block _ hlb).trans h1)]; rfl, (h.cell (p := ⟨cb, off + k, none⟩) hcb).trans hcell⟩)
      have HL1 := hide (show Z.length + 4 ≤ maxLen by unfold maxLen; omega)
      have HL2 := hide (show (Z.length + 4) * 1 ≤ 140737488355328 by omega)
      have hcbn : some cb ≠ (Value.slice so Z.length cap).ownBlock := by
        intro e
        have hcw : cb < w.heap.size := by
          obtain ⟨ao', ca', hv', _, h'⟩ := HV.out
          cases hv'
          rcases h' with h' | ⟨b', off', h1', h2', _⟩
          · rw [h'] at hlt; simp at hlt
          · cases h1'; exact h2'
        have hlo := (h2.lt cb e.symm).1
        rcases (HA.out.resolve_left (fun e => by rw [e] at hlt; simp at hlt)) cb rfl hcw with h3 | ⟨h3, h4⟩
        · omega
        · rcases h2.2 with ⟨hv, _⟩ | ⟨g', cap', cur, hv, _, hgg, _⟩
          · rw [hv] at e; cases e
          · rw [hv] at e
            simp only [Value.ownBlock, Option.some.injEq] at e
            subst e
            rw [HST.out.keep _ hcw h3 h4] at hgg
            exact h4 _ _ hgg
      have HO := hide ((h2.alloc (Obj.cells #[.int .u8 (IntKind.u8.wrap (X / 16777216)), .int .u8 (IntKind.u8.wrap (X / 65536)), .int .u8 (IntKind.u8.wrap (X / 256)), .int .u8 (IntKind.u8.wrap X)] 5)).drew)
      have HB1 := hide (show (wr.alloc (Obj.cells #[.int .u8 (IntKind.u8.wrap (X / 16777216)), .int .u8 (IntKind.u8.wrap (X / 65536)), .int .u8 (IntKind.u8.wrap (X / 256)), .int .u8 (IntKind.u8.wrap X)] 5)).drew.heap[b]? = some (.cells #[.slice so Z.length cap] 73 (0, 0)) from ((bel_alloc wr (Obj.cells #[.int .u8 (IntKind.u8.wrap (X / 16777216)), .int .u8 (IntKind.u8.wrap (X / 65536)), .int .u8 (IntKind.u8.wrap (X / 256)), .int .u8 (IntKind.u8.wrap X)] 5)).block _ hlb).trans h1)
      have HS1 := hide ((HST.out.trans (WStep.alloc (b := b) (Nat.le_trans hBw HST.out.bel.size) (Obj.cells #[.int .u8 (IntKind.u8.wrap (X / 16777216)), .int .u8 (IntKind.u8.wrap (X / 65536)), .int .u8 (IntKind.u8.wrap (X / 256)), .int .u8 (IntKind.u8.wrap X)] 5))).trans (WStep.drew B b _))
      have HN4 := hide (show ∀ j u, (byt (num4 X))[j]? = some u → (wr.alloc (Obj.cells #[.int .u8 (IntKind.u8.wrap (X / 16777216)), .int .u8 (IntKind.u8.wrap (X / 65536)), .int .u8 (IntKind.u8.wrap (X / 256)), .int .u8 (IntKind.u8.wrap X)] 5)).drew.cell? ((⟨wr.heap.size, 0, none⟩ : Addr).add j) = some u by rw [num4_byt]; exact World.news_of_block (w := (wr.alloc (Obj.cells #[.int .u8 (IntKind.u8.wrap (X / 16777216)), .int .u8 (IntKind.u8.wrap (X / 65536)), .int .u8 (IntKind.u8.wrap (X / 256)), .int .u8 (IntKind.u8.wrap X)] 5)).drew) (al1 wr _))
      have HCE := hide hcell
      clear hc hX hll
      go_upto_region 3 with fail
      have hWd : Below wr.heap.size wr wr.drew := (Below.refl _ _).drew
      have hSd := HS.out _ hWd
      clear h1 h2 hcell
      have hmx : Tryz.prog.follows .mixedOrders = true := by kernel_rfl
      refine wp_region_last (S := (fun v : World => v.cell? ⟨b, 0, none⟩ = some (.slice so Z.length cap) ∧ v.cell? ⟨cb, off + k, none⟩ = some (.int .i64 X))) (f := 32) hmx ?_
      show wpAnyF _ _ _ _ _ _ 33 _ _ wr.drew
      refine wpAnyF_takeP (i := 0) (oi := _) (v := ?vv1) (some 11) [] rfl rfl (by kernel_rfl) (by kernel_rfl) (by kernel_rfl) (by kernel_rfl) (by kernel_rfl) (fun _ _ _ h => h) (Or.inl ⟨by rfl, ?yy1⟩) hSd ?rr1
      case yy1 => (intro wq hSq; obtain ⟨hq1, hq2⟩ := hSq; go_simp <;> with_reducible rfl)
      simp only [Act.put, List.setIfInBounds_toArray, List.set_cons_succ, List.set_cons_zero]
      refine wpAnyF_takeP (i := 1) (oi := _) (v := ?vv2) (some 12) [] rfl rfl (by kernel_rfl) (by kernel_rfl) (by kernel_rfl) (by kernel_rfl) (by kernel_rfl) (fun _ _ _ h => h) (Or.inl ⟨by rfl, ?yy2⟩) hSd ?rr2
      case yy2 => (intro wq hSq; obtain ⟨hq1, hq2⟩ := hSq; go_simp <;> with_reducible rfl)
      simp only [Act.put, List.setIfInBounds_toArray, List.set_cons_succ, List.set_cons_zero]
      refine wpAnyF_takeP (i := 5) (oi := _) (v := ?vv3) (some 16) [] rfl rfl (by kernel_rfl) (by kernel_rfl) (by kernel_rfl) (by kernel_rfl) (by kernel_rfl) (fun _ _ _ h => h) (Or.inl ⟨by rfl, ?yy3⟩) hSd ?rr3
      case yy3 => (intro wq hSq; obtain ⟨hq1, hq2⟩ := hSq; go_simp <;> with_reducible rfl)
      simp only [Act.put, List.setIfInBounds_toArray, List.set_cons_succ, List.set_cons_zero]
      refine wpAnyF_takeP (i := 6) (oi := _) (v := ?vv4) (some 17) [] rfl rfl (by kernel_rfl) (by kernel_rfl) (by kernel_rfl) (by kernel_rfl) (by kernel_rfl) (fun _ _ _ h => h) (Or.inl ⟨by rfl, ?yy4⟩) hSd ?rr4
      case yy4 => (intro wq hSq; obtain ⟨hq1, hq2⟩ := hSq; go_simp <;> with_reducible rfl)
      simp only [Act.put, List.setIfInBounds_toArray, List.set_cons_succ, List.set_cons_zero]
      refine wpAnyF_takeP (i := 11) (oi := _) (v := ?vv5) (some 22) [] rfl rfl (by kernel_rfl) (by kernel_rfl) (by kernel_rfl) (by kernel_rfl) (by kernel_rfl) (fun _ _ _ h => h) (Or.inl ⟨by rfl, ?yy5⟩) hSd ?rr5
      case yy5 => (intro wq hSq; obtain ⟨hq1, hq2⟩ := hSq; go_simp <;> with_reducible rfl)
      simp only [Act.put, List.setIfInBounds_toArray, List.set_cons_succ, List.set_cons_zero]
      refine wpAnyF_takeP (i := 12) (oi := _) (v := ?vv6) (some 23) [] rfl rfl (by kernel_rfl) (by kernel_rfl) (by kernel_rfl) (by kernel_rfl) (by kernel_rfl) (fun _ _ _ h => h) (Or.inl ⟨by rfl, ?yy6⟩) hSd ?rr6
      case yy6 => (intro wq hSq; obtain ⟨hq1, hq2⟩ := hSq; go_simp <;> with_reducible rfl)
      simp only [Act.put, List.setIfInBounds_toArray, List.set_cons_succ, List.set_cons_zero]
      refine wpAnyF_takeP (i := 17) (oi := _) (v := ?vv7) (some 28) [] rfl rfl (by kernel_rfl) (by kernel_rfl) (by kernel_rfl) (by kernel_rfl) (by kernel_rfl) (fun _ _ _ h => h) (Or.inl ⟨by rfl, ?yy7⟩) hSd ?rr7
      case yy7 => (intro wq hSq; obtain ⟨hq1, hq2⟩ := hSq; go_simp <;> with_reducible rfl)
      simp only [Act.put, List.setIfInBounds_toArray, List.set_cons_succ, List.set_cons_zero]
      refine wpAnyF_takeP (i := 18) (oi := _) (v := ?vv8) (some 29) [] rfl rfl (by kernel_rfl) (by kernel_rfl) (by kernel_rfl) (by kernel_rfl) (by kernel_rfl) (fun _ _ _ h => h) (Or.inl ⟨by rfl, ?yy8⟩) hSd ?rr8
      case yy8 => (intro wq hSq; obtain ⟨hq1, hq2⟩ := hSq; go_simp <;> with_reducible rfl)
      simp only [Act.put, List.setIfInBounds_toArray, List.set_cons_succ, List.set_cons_zero]
      refine wpAnyF_takeP (i := 23) (oi := _) (v := ?vv9) (some 34) [] rfl rfl (by kernel_rfl) (by kernel_rfl) (by kernel_rfl) (by kernel_rfl) (by kernel_rfl) (fun _ _ _ h => h) (Or.inl ⟨by rfl, ?yy9⟩) hSd ?rr9
      case yy9 => (intro wq hSq; obtain ⟨hq1, hq2⟩ := hSq; go_simp <;> with_reducible rfl)
      simp only [Act.put, List.setIfInBounds_toArray, List.set_cons_succ, List.set_cons_zero]
      refine wpAnyF_takeP (i := 24) (oi := _) (v := ?vv10) (some 35) [] rfl rfl (by kernel_rfl) (by kernel_rfl) (by kernel_rfl) (by kernel_rfl) (by kernel_rfl) (fun _ _ _ h => h) (Or.inl ⟨by rfl, ?yy10⟩) hSd ?rr10
      case yy10 => (intro wq hSq; obtain ⟨hq1, hq2⟩ := hSq; go_simp <;> with_reducible rfl)
      simp only [Act.put, List.setIfInBounds_toArray, List.set_cons_succ, List.set_cons_zero]
      refine wpAnyF_takeP (i := 2) (oi := _) (v := ?vv11) (some 13) [] rfl rfl (by kernel_rfl) (by kernel_rfl) (by kernel_rfl) (by kernel_rfl) (by kernel_rfl) (fun _ _ _ h => h) (Or.inl ⟨by rfl, ?yy11⟩) hSd ?rr11
      case yy11 => (intro wq hSq; obtain ⟨hq1, hq2⟩ := hSq; go_simp <;> with_reducible rfl)
      simp only [Act.put, List.setIfInBounds_toArray, List.set_cons_succ, List.set_cons_zero]
      refine wpAnyF_takeP (i := 7) (oi := _) (v := ?vv12) (some 18) [] rfl rfl (by kernel_rfl) (by kernel_rfl) (by kernel_rfl) (by kernel_rfl) (by kernel_rfl) (fun _ _ _ h => h) (Or.inl ⟨by rfl, ?yy12⟩) hSd ?rr12
      case yy12 => (intro wq hSq; obtain ⟨hq1, hq2⟩ := hSq; go_simp <;> with_reducible rfl)
      simp only [Act.put, List.setIfInBounds_toArray, List.set_cons_succ, List.set_cons_zero]
      refine wpAnyF_takeP (i := 13) (oi := _) (v := ?vv13) (some 24) [] rfl rfl (by kernel_rfl) (by kernel_rfl) (by kernel_rfl) (by kernel_rfl) (by kernel_rfl) (fun _ _ _ h => h) (Or.inl ⟨by rfl, ?yy13⟩) hSd ?rr13
      case yy13 => (intro wq hSq; obtain ⟨hq1, hq2⟩ := hSq; go_simp <;> with_reducible rfl)
      simp only [Act.put, List.setIfInBounds_toArray, List.set_cons_succ, List.set_cons_zero]
      refine wpAnyF_takeP (i := 19) (oi := _) (v := ?vv14) (some 30) [] rfl rfl (by kernel_rfl) (by kernel_rfl) (by kernel_rfl) (by kernel_rfl) (by kernel_rfl) (fun _ _ _ h => h) (Or.inl ⟨by rfl, ?yy14⟩) hSd ?rr14
      case yy14 => (intro wq hSq; obtain ⟨hq1, hq2⟩ := hSq; go_simp <;> with_reducible rfl)
      simp only [Act.put, List.setIfInBounds_toArray, List.set_cons_succ, List.set_cons_zero]
      refine wpAnyF_takeP (i := 25) (oi := _) (v := ?vv15) (some 36) [] rfl rfl (by kernel_rfl) (by kernel_rfl) (by kernel_rfl) (by kernel_rfl) (by kernel_rfl) (fun _ _ _ h => h) (Or.inl ⟨by rfl, ?yy15⟩) hSd ?rr15
      case yy15 => (intro wq hSq; obtain ⟨hq1, hq2⟩ := hSq; go_simp <;> with_reducible rfl)
      simp only [Act.put, List.setIfInBounds_toArray, List.set_cons_succ, List.set_cons_zero]
      refine wpAnyF_takeP (i := 3) (oi := _) (v := ?vv16) (some 14) [] rfl rfl (by kernel_rfl) (by kernel_rfl) (by kernel_rfl) (by kernel_rfl) (by kernel_rfl) (fun _ _ _ h => h) (Or.inl ⟨by rfl, ?yy16⟩) hSd ?rr16
      case yy16 => (intro wq hSq; obtain ⟨hq1, hq2⟩ := hSq; go_simp <;> with_reducible rfl)
      simp only [Act.put, List.setIfInBounds_toArray, List.set_cons_succ, List.set_cons_zero]
      refine wpAnyF_takeP (i := 8) (oi := _) (v := ?vv17) (some 19) [] rfl rfl (by kernel_rfl) (by kernel_rfl) (by kernel_rfl) (by kernel_rfl) (by kernel_rfl) (fun _ _ _ h => h) (Or.inl ⟨by rfl, ?yy17⟩) hSd ?rr17
      case yy17 => (intro wq hSq; obtain ⟨hq1, hq2⟩ := hSq; go_simp <;> with_reducible rfl)
      simp only [Act.put, List.setIfInBounds_toArray, List.set_cons_succ, List.set_cons_zero]
      refine wpAnyF_takeP (i := 14) (oi := _) (v := ?vv18) (some 25) [] rfl rfl (by kernel_rfl) (by kernel_rfl) (by kernel_rfl) (by kernel_rfl) (by kernel_rfl) (fun _ _ _ h => h) (Or.inl ⟨by rfl, ?yy18⟩) hSd ?rr18
      case yy18 => (intro wq hSq; obtain ⟨hq1, hq2⟩ := hSq; go_simp <;> with_reducible rfl)
      simp only [Act.put, List.setIfInBounds_toArray, List.set_cons_succ, List.set_cons_zero]
      refine wpAnyF_takeP (i := 20) (oi := _) (v := ?vv19) (some 31) [] rfl rfl (by kernel_rfl) (by kernel_rfl) (by kernel_rfl) (by kernel_rfl) (by kernel_rfl) (fun _ _ _ h => h) (Or.inl ⟨by rfl, ?yy19⟩) hSd ?rr19
      case yy19 => (intro wq hSq; obtain ⟨hq1, hq2⟩ := hSq; go_simp <;> with_reducible rfl)
      simp only [Act.put, List.setIfInBounds_toArray, List.set_cons_succ, List.set_cons_zero]
      refine wpAnyF_takeP (i := 26) (oi := _) (v := ?vv20) (some 37) [] rfl rfl (by kernel_rfl) (by kernel_rfl) (by kernel_rfl) (by kernel_rfl) (by kernel_rfl) (fun _ _ _ h => h) (Or.inl ⟨by rfl, ?yy20⟩) hSd ?rr20
      case yy20 => (intro wq hSq; obtain ⟨hq1, hq2⟩ := hSq; go_simp <;> with_reducible rfl)
      simp only [Act.put, List.setIfInBounds_toArray, List.set_cons_succ, List.set_cons_zero]
      refine wpAnyF_takeP (i := 4) (oi := _) (v := ?vv21) (some 15) [] rfl rfl (by kernel_rfl) (by kernel_rfl) (by kernel_rfl) (by kernel_rfl) (by kernel_rfl) (fun _ _ _ h => h) (Or.inl ⟨by rfl, ?yy21⟩) hSd ?rr21
      case yy21 => (intro wq hSq; obtain ⟨hq1, hq2⟩ := hSq; go_simp <;> with_reducible rfl)
      simp only [Act.put, List.setIfInBounds_toArray, List.set_cons_succ, List.set_cons_zero]
      refine wpAnyF_takeP (i := 9) (oi := _) (v := ?vv22) (some 20) [] rfl rfl (by kernel_rfl) (by kernel_rfl) (by kernel_rfl) (by kernel_rfl) (by kernel_rfl) (fun _ _ _ h => h) (Or.inl ⟨by rfl, ?yy22⟩) hSd ?rr22
      case yy22 => (intro wq hSq; obtain ⟨hq1, hq2⟩ := hSq; go_simp <;> with_reducible rfl)
      simp only [Act.put, List.setIfInBounds_toArray, List.set_cons_succ, List.set_cons_zero]
      refine wpAnyF_takeP (i := 15) (oi := _) (v := ?vv23) (some 26) [] rfl rfl (by kernel_rfl) (by kernel_rfl) (by kernel_rfl) (by kernel_rfl) (by kernel_rfl) (fun _ _ _ h => h) (Or.inl ⟨by rfl, ?yy23⟩) hSd ?rr23
      case yy23 => (intro wq hSq; obtain ⟨hq1, hq2⟩ := hSq; go_simp <;> with_reducible rfl)
      simp only [Act.put, List.setIfInBounds_toArray, List.set_cons_succ, List.set_cons_zero]
      refine wpAnyF_takeP (i := 21) (oi := _) (v := ?vv24) (some 32) [] rfl rfl (by kernel_rfl) (by kernel_rfl) (by kernel_rfl) (by kernel_rfl) (by kernel_rfl) (fun _ _ _ h => h) (Or.inl ⟨by rfl, ?yy24⟩) hSd ?rr24
      case yy24 => (intro wq hSq; obtain ⟨hq1, hq2⟩ := hSq; go_simp <;> with_reducible rfl)
      simp only [Act.put, List.setIfInBounds_toArray, List.set_cons_succ, List.set_cons_zero]
      refine wpAnyF_takeP (i := 27) (oi := _) (v := ?vv25) (some 38) [] rfl rfl (by kernel_rfl) (by kernel_rfl) (by kernel_rfl) (by kernel_rfl) (by kernel_rfl) (fun _ _ _ h => h) (Or.inl ⟨by rfl, ?yy25⟩) hSd ?rr25
      case yy25 => (intro wq hSq; obtain ⟨hq1, hq2⟩ := hSq; go_simp <;> with_reducible rfl)
      simp only [Act.put, List.setIfInBounds_toArray, List.set_cons_succ, List.set_cons_zero]
      refine wpAnyF_takeP (i := 10) (oi := _) (v := ?vv26) (some 21) [] rfl rfl (by kernel_rfl) (by kernel_rfl) (by kernel_rfl) (by kernel_rfl) (by kernel_rfl) (fun _ _ _ h => h) (Or.inl ⟨by rfl, ?yy26⟩) hSd ?rr26
      case yy26 => (intro wq hSq; obtain ⟨hq1, hq2⟩ := hSq; go_simp <;> with_reducible rfl)
      simp only [Act.put, List.setIfInBounds_toArray, List.set_cons_succ, List.set_cons_zero]
      refine wpAnyF_takeP (i := 16) (oi := _) (v := ?vv27) (some 27) [] rfl rfl (by kernel_rfl) (by kernel_rfl) (by kernel_rfl) (by kernel_rfl) (by kernel_rfl) (fun _ _ _ h => h) (Or.inl ⟨by rfl, ?yy27⟩) hSd ?rr27
      case yy27 => (intro wq hSq; obtain ⟨hq1, hq2⟩ := hSq; go_simp <;> with_reducible rfl)
      simp only [Act.put, List.setIfInBounds_toArray, List.set_cons_succ, List.set_cons_zero]
      refine wpAnyF_takeP (i := 22) (oi := _) (v := ?vv28) (some 33) [] rfl rfl (by kernel_rfl) (by kernel_rfl) (by kernel_rfl) (by kernel_rfl) (by kernel_rfl) (fun _ _ _ h => h) (Or.inl ⟨by rfl, ?yy28⟩) hSd ?rr28
      case yy28 => (intro wq hSq; obtain ⟨hq1, hq2⟩ := hSq; go_simp <;> with_reducible rfl)
      simp only [Act.put, List.setIfInBounds_toArray, List.set_cons_succ, List.set_cons_zero]
      refine wpAnyF_one (i := 28) (o := _) (by kernel_rfl) rfl (fun K' hK => ?_)
      rw [if_pos (by rfl)]
      go_simp
      have hBs : Below wr.heap.size wr (wr.alloc (Obj.cells #[.int .u8 (IntKind.u8.wrap (X / 16777216)), .int .u8 (IntKind.u8.wrap (X / 65536)), .int .u8 (IntKind.u8.wrap (X / 256)), .int .u8 (IntKind.u8.wrap X)] 5)).drew := ((Below.refl _ _).alloc (Nat.le_refl _) _).drew
      have hSd := HS.out _ hBs
      refine hK.out _ _ hSd ?_
      clear hK
      try simp only [Act.put]
      refine wpAnyF_one (i := 29) (o := _) (by kernel_rfl) rfl (fun K' hK => ?_)
      refine step_append_lies _ rfl _ _ 71 rfl B 5 i0 (.int .u8 0) 1 1 Tryz.underlying71 hi hz0 hz1 hz2 rfl (by decide) (.slice so Z.length cap) Z.length (byt Z) rfl (HO.out) ⟨wr.heap.size, 0, none⟩ 4 4 (byt (num4 X)) rfl rfl HN4.out (fun u hu => by obtain ⟨c, _, rfl⟩ := List.mem_map.1 hu; rfl) (by decide) HL1.out HL2.out (Nat.le_trans hBw (Nat.le_trans HST.out.bel.size hBs.size)) _ rfl ?_
      intro gg cp w3 hown hgrow hat hltg
      obtain ⟨x1, x2, x3, x4⟩ := ink_put (m := num4 X) hB hBw HB1.out HO.out HS1.out hgrow hown
      have hSx : w3.cell? ⟨b, 0, none⟩ = some (.slice so Z.length cap) ∧ w3.cell? ⟨cb, off + k, none⟩ = some (.int .i64 X) := ⟨x1, (World.cell?_of_block (a := ⟨cb, off + k, none⟩) (hgrow.block cb (Nat.lt_of_lt_of_le hcb hBs.size) hcbn)).trans (hBs.cell (p := ⟨cb, off + k, none⟩) hcb |>.trans HCE.out)⟩
      have hSd := hSx
      refine hK.out _ _ hSd ?_
      clear hK
      try simp only [Act.put]
      refine wpAnyF_takeP (i := 30) (oi := _) (v := ?vv29) (some 41) [31] rfl rfl (by kernel_rfl) (by kernel_rfl) (by kernel_rfl) (by kernel_rfl) (by kernel_rfl) (fun _ _ _ h => h) (Or.inl ⟨by rfl, ?yy29⟩) hSd ?rr29
      case yy29 => (intro wq hSq; obtain ⟨hq1, hq2⟩ := hSq; go_simp <;> with_reducible rfl)
      try simp only [Act.put]
      refine wpAnyF_takeP (i := 31) (oi := _) (v := ?vv30) (some 42) [] rfl rfl (by kernel_rfl) (by kernel_rfl) (by kernel_rfl) (by kernel_rfl) (by kernel_rfl) (fun _ _ _ h => h) (Or.inl ⟨by rfl, ?yy30⟩) hSd ?rr30
      case yy30 => (intro wq hSq; obtain ⟨hq1, hq2⟩ := hSq; go_simp <;> with_reducible rfl)
      try simp only [Act.put]
      refine wpAnyF_last (o := _) (by kernel_rfl) rfl (fun K' hK => ?_)
      rw [if_pos (by rfl)]
      go_simp
      refine hK.out _ _ ?_
      clear hK
      refine wpAnyF_done (by kernel_rfl) ?_ _
      try simp only [Act.put]
      clear hSd
      go_wp2
      go_roundw
      case rel => exact ⟨k + 1, hlt, by go_num, by rw [HTN.out, ← List.append_assoc, HZ.out]; exact x3, x4⟩
      case measure => simp [intOf]; omega
    · have hd : decide ((k : Int) < (xs.length : Int)) = false := by simp; omega
      obtain rfl : k = xs.length := by omega
      go_wp2
      go_end0
      exact ⟨rfl, by have := HW.out; rwa [List.take_length] at this, HST.out⟩
set_option maxHeartbeats 3200000 in
set_option maxRecDepth 100000 in
theorem inkText_any (B b : Nat) (l m : List UInt8) (w : World) (h : IsInk B b l w) (hlen : l.length + m.length + 4 ≤ 140737488355328) (hBw : B ≤ w.heap.size) :
    Calls Tryz.prog 43 #[.pointer (some ⟨b, 0, none⟩), .string (str m)] w fun e w' => e = .returned (.tuple #[]) ∧ IsInk B b (l ++ textW m) w' ∧ WStep B b w w' := by
  have hs : (str m).size = m.length := str_size m
  have HI := hide (ints1 w (m.length : Int))
  have g1 := al1 w (Obj.cells #[.int .i64 (m.length : Int)] 3)
  have hlt := h.lt
  have HA := hide (wints (B := B) (b := b) (xs := [(m.length : Int)]) (c := 1) (ca := 1) g1 (by omega) (by decide))
  have HW := hide (h.below (bel_alloc w (Obj.cells #[.int .i64 (m.length : Int)] 3)))
  have HS0 := hide (WStep.alloc (b := b) hBw (Obj.cells #[.int .i64 (m.length : Int)] 3))
  have hB := h.1
  obtain ⟨i0, hi, hz0, hz1, hz2⟩ := info_parts Tryz.infoByteW
  have HX := hide (show l ++ textW m = l ++ num4 m.length ++ m by rw [textW, List.append_assoc])
  obtain ⟨XX, hXX⟩ : ∃ XX, l ++ textW m = XX := ⟨_, rfl⟩
  rw [hXX] at HX ⊢
  clear h g1 hXX
  generalize hSS : str m = SS at *
  have HSS := hide hSS
  clear hSS
  go_enter Tryz.func43, Tryz.ntmps43
  go_wp2_with fail
  refine (inkNums_any B b l _ [(m.length : Int)] _ HW.out HI.out (.inr HA.out) (by simp; omega) (Nat.le_trans hBw HS0.out.bel.size)).mono ?_
  rintro e V ⟨rfl, hI, hS⟩
  have HST := hide (HS0.out.trans hS)
  clear hS HW HS0 HI HA
  rw [show [(m.length : Int)].flatMap num4 = num4 m.length by simp] at hI
  have hll : (l ++ num4 (m.length : Int)).length = l.length + 4 := by rw [List.length_append, num4_length]
  generalize l ++ num4 (m.length : Int) = Z at *
  obtain ⟨_, so, cap, h1, h2⟩ := hI
  have c0 : V.cell? ⟨b, 0, none⟩ = some (.slice so Z.length cap) := by rw [Lib.cell_of_heap h1]; rfl
  have q4 : Z.length + m.length ≤ maxLen := by unfold maxLen; omega
  have q5 : (Z.length + m.length) * 1 ≤ 140737488355328 := by omega
  have hsm : SS.size = m.length := hs
  have hcm : Lib.strCells SS = byt m := by rw [← HSS.out]; simp [Lib.strCells, byt, str]
  have q6 : B ≤ V.heap.size := Nat.le_trans hBw HST.out.bel.size
  have q4' : Z.length + SS.size ≤ maxLen := by rw [hsm]; exact q4
  have q5' : Z.length + SS.size ≤ 140737488355328 := by rw [hsm]; omega
  have HWN := hide h2
  have HLL := hide hll
  clear hs hll
  go_wp2_with (at_builtin; refine Lib.wpList_append_own_string _ rfl _ _ 71 9 rfl B 5 i0 Tryz.underlying71 Tryz.underlying9 hi hz0 hz1 hz2 _ _ _ rfl HWN.out SS rfl q4' q5' q6 ?_)
  intro v' w2 hown' hgrow _
  try rw [hcm] at hown'
  try rw [hsm] at hown'
  rcases id hown'.2 with ⟨_, hn0⟩ | ⟨g, cp, cur, rfl, _⟩
  · exfalso; have := HLL.out; omega
  obtain ⟨x1, x2, x3, x4⟩ := ink_put (m := m) hB hBw h1 h2 HST.out hgrow hown'
  clear hown' hgrow h1 h2 c0
  have HX3 := hide x3
  have HX4 := hide x4
  clear x3 x4
  go_wp2
  go_end0
  exact ⟨rfl, by rw [HX.out]; exact HX3.out, HX4.out⟩
end Go.Proofs.YtanebhbfekcplaaGreat

namespace Go.Proofs.YtanebhbfekcplaaGreat
set_option linter.unusedVariables false
open Go.RowKit
theorem inkRow_any (B b : Nat) (l : List UInt8) (xs : List Int) (V : World) (h : IsInk B b l V) (hlen : l.length + xs.length * 4 ≤ 140737488355328) (hBV : B ≤ V.heap.size) :
    Calls Tryz.prog 44 #[.pointer (some ⟨b, 0, none⟩), .slice (some ⟨V.heap.size, 0, none⟩) xs.length xs.length] (V.alloc (.cells (xs.map (Value.int .i64)).toArray 3)) fun e w' => e = .returned (.tuple #[]) ∧ IsInk B b (l ++ xs.flatMap num4) w' ∧ WStep B b V w' := by
  have hlt := h.lt
  have g1 := al1 V (Obj.cells (xs.map (Value.int .i64)).toArray 3)
  have hi : IsInts (V.alloc (.cells (xs.map (Value.int .i64)).toArray 3)) (.slice (some ⟨V.heap.size, 0, none⟩) xs.length xs.length) xs := by
    refine ⟨_, _, rfl, by omega, .inr ⟨V.heap.size, 0, rfl, by simp, fun j hj => ?_⟩⟩
    rw [Nat.zero_add, Lib.cell_of_heap g1]
    simp [hj]
  have hs := WStep.alloc (b := b) hBV (Obj.cells (xs.map (Value.int .i64)).toArray 3)
  refine (inkNums_any B b l _ xs _ (h.below (bel_alloc V _)) hi (.inr (wints (xs := xs) g1 (by omega) (by decide))) hlen (Nat.le_trans hBV hs.bel.size)).mono ?_
  rintro e w' ⟨rfl, h1, h2⟩
  exact ⟨rfl, h1, hs.trans h2⟩
theorem matL_get (n : Plan) (k : Nat) (hk : k < 9) : (matL n)[k]'(by simp [matL]; omega) = n.matrix k := by
  rcases (show k = 0 ∨ k = 1 ∨ k = 2 ∨ k = 3 ∨ k = 4 ∨ k = 5 ∨ k = 6 ∨ k = 7 ∨ k = 8 by omega) with rfl | rfl | rfl | rfl | rfl | rfl | rfl | rfl | rfl <;> rfl
theorem take_mat (n : Plan) (k : Nat) (hk : k < 9) : ((matL n).take (k + 1)).flatMap num4 = ((matL n).take k).flatMap num4 ++ [n.matrix k].flatMap num4 := by
  rw [take_nums _ k (by simp [matL]; omega), matL_get n k hk]; simp
theorem plan_mat_at {w : World} {b : Nat} {t : TypeId} {fr : Nat × Nat} {n : Plan} {sv cv : Value} (h : w.heap[b]? = some (.cells (planA n sv cv) t fr)) (k : Nat) (hk : k < 9) : w.cell? ⟨b, 10 + k, none⟩ = some (.int .i64 (n.matrix k)) := by
  rw [Lib.cell_of_heap h]
  rcases (show k = 0 ∨ k = 1 ∨ k = 2 ∨ k = 3 ∨ k = 4 ∨ k = 5 ∨ k = 6 ∨ k = 7 ∨ k = 8 by omega) with rfl | rfl | rfl | rfl | rfl | rfl | rfl | rfl | rfl <;> rfl
theorem take_pairs2 (ls : List Pt) (k : Nat) (hk : k < ls.length) : (ls.take (k + 1)).flatMap pairW = (ls.take k).flatMap pairW ++ [(ptAt ls k).1, (ptAt ls k).2].flatMap num4 := by
  rw [take_pairs ls k hk, pair_nums]
set_option maxHeartbeats 6400000 in
set_option maxRecDepth 100000 in
theorem refRawBytes_any (r : RawF) (lv tv sv cv : Value) (w : World) (hr : IsRaw w r lv tv sv cv) (g1 : r.lens.length ≤ 1048576) (g2 : r.strips.length ≤ 64) (g3 : ∀ s ∈ r.strips, s.length ≤ 1048576) (g4 : r.plan.spots.length ≤ 1048576) (g5 : r.plan.curve.length ≤ 1048576) :
    Calls Tryz.prog 16 #[.agg (rawA r lv tv sv cv)] w fun e w' => e = .returned (.string (str (rawW r))) ∧ Below w.heap.size w w' := by
  have HR := hide hr
  obtain ⟨lp, lc, rfl, hll, hlr⟩ := hr.lens
  obtain ⟨tp, tc, rfl, htl, htr⟩ := hr.strips
  obtain ⟨sp, sc, rfl, hsl, hsr⟩ := hr.plan.spots
  obtain ⟨cp, cc, rfl, hcl, hcr⟩ := hr.plan.curve
  have HT := hide (texts_length g3)
  have HGS := hide (show ∀ k, k < r.strips.length → (r.strips.getD k []).length ≤ 1048576 from fun k hk => g3 _ (by rw [getD_at hk]; exact List.getElem_mem hk))
  clear hr g3 hlr htr hsr hcr
  obtain ⟨a1, a2⟩ := al2 w (Obj.cells (rawA r (.slice lp r.lens.length lc) (.slice tp r.strips.length tc) (.slice sp r.plan.spots.length sc) (.slice cp r.plan.curve.length cc)) 32) (Obj.cells #[.slice none 0 0] 73)
  have HB := hide (be2 w (Obj.cells (rawA r (.slice lp r.lens.length lc) (.slice tp r.strips.length tc) (.slice sp r.plan.spots.length sc) (.slice cp r.plan.curve.length cc)) 32) (Obj.cells #[.slice none 0 0] 73))
  have hl1 := (Array.getElem?_eq_some_iff.1 a1).1
  have hl2 := (Array.getElem?_eq_some_iff.1 a2).1
  have HW := hide (show IsInk (w.heap.size + 1) (w.heap.size + 1) [] ((w.alloc (Obj.cells (rawA r (.slice lp r.lens.length lc) (.slice tp r.strips.length tc) (.slice sp r.plan.spots.length sc) (.slice cp r.plan.curve.length cc)) 32)).alloc (Obj.cells #[.slice none 0 0] 73)) from ⟨Nat.le_refl _, none, 0, a2, ⟨rfl, .inl ⟨rfl, rfl⟩⟩⟩)
  have HRC := hide (fun (v : World) (h : v.heap[w.heap.size]? = some (.cells (rawA r (.slice lp r.lens.length lc) (.slice tp r.strips.length tc) (.slice sp r.plan.spots.length sc) (.slice cp r.plan.curve.length cc)) 32 (0, 0))) => raw_cells h)
  have HPA := hide (fun (v : World) (h : v.heap[w.heap.size]? = some (.cells (rawA r (.slice lp r.lens.length lc) (.slice tp r.strips.length tc) (.slice sp r.plan.spots.length sc) (.slice cp r.plan.curve.length cc)) 32 (0, 0))) => plan_at h)
  have HWF := hide (show rawW r = textW darkL ++ ([r.w, r.h, r.depth, r.kind, r.rows, (r.lens.length : Int)].flatMap num4 ++ (r.lens.flatMap num4 ++ ([(r.strips.length : Int)].flatMap num4 ++ (r.strips.flatMap textW ++ ([r.plan.phase, r.plan.black 0, r.plan.black 1, r.plan.black 2, r.plan.black 3, r.plan.white, (r.plan.spots.length : Int)].flatMap num4 ++ (r.plan.spots.flatMap pairW ++ ([r.plan.gains 0, r.plan.gains 1, r.plan.gains 2].flatMap num4 ++ ((matL r.plan).flatMap num4 ++ ([(r.plan.curve.length : Int)].flatMap num4 ++ (r.plan.curve.flatMap pairW ++ [r.plan.amount].flatMap num4)))))))))) by
    simp [rawW, headL, listW, planW, blackL, gainsL])
  obtain ⟨RWF, hRWF⟩ : ∃ RWF, rawW r = RWF := ⟨_, rfl⟩
  rw [hRWF] at HWF ⊢
  clear hRWF
  go_enter Tryz.func16, Tryz.ntmps16
  go_wp2_with fail
  generalize (w.alloc (Obj.cells (rawA r (.slice lp r.lens.length lc) (.slice tp r.strips.length tc) (.slice sp r.plan.spots.length sc) (.slice cp r.plan.curve.length cc)) 32)).alloc (Obj.cells #[.slice none 0 0] 73) = U at *
  generalize (rawA r (.slice lp r.lens.length lc) (.slice tp r.strips.length tc) (.slice sp r.plan.spots.length sc) (.slice cp r.plan.curve.length cc)) = RQ at *
  have hB0 : w.heap.size + 1 ≤ U.heap.size := by omega
  have HBV := hide (show ∀ V, WStep (w.heap.size + 1) (w.heap.size + 1) U V → Below w.heap.size w V from fun V hV => HB.out.trans (hV.bel.mono (by omega)))
  have HBK := hide (show ∀ V, WStep (w.heap.size + 1) (w.heap.size + 1) U V → V.heap[w.heap.size]? = some (.cells RQ 32 (0, 0)) from fun V hV => (hV.bel.block _ (by omega)).trans a1)
  have HST := hide (WStep.refl (w.heap.size + 1) (w.heap.size + 1) U)
  clear a1 a2 hl1 hl2
  have HL := hide (show ([] : List UInt8).length ≤ 0 from Nat.le_refl _)
  refine (inkText_any (w.heap.size + 1) (w.heap.size + 1) [] darkL _ HW.out (by decide) hB0).mono ?_
  rintro e V1 ⟨rfl, hW', hS'⟩
  replace HST := hide (HST.out.trans hS')
  obtain ⟨L1, HQ1⟩ : ∃ L1, Hid (([] : List UInt8) ++ textW darkL = L1) := ⟨_, rfl⟩
  rw [HQ1.out] at hW'
  replace HW := hide hW'
  replace HL := hide (show L1.length ≤ 8 by rw [← HQ1.out, List.length_append, show (textW darkL).length = 8 from rfl]; simp)
  clear hW' hS'
  obtain ⟨s0, s1, s2, s3, s4, s5, s6, s13, s26⟩ := HRC.out _ (HBK.out V1 HST.out)
  go_wp2_with fail
  clear s0 s1 s2 s3 s4 s5 s6 s13 s26
  refine (inkRow_any (w.heap.size + 1) (w.heap.size + 1) L1 [r.w, r.h, r.depth, r.kind, r.rows, (r.lens.length : Int)] V1 HW.out (by have := HL.out; simp only [List.length_cons, List.length_nil]; omega) (Nat.le_trans hB0 HST.out.bel.size)).mono ?_
  rintro e V2 ⟨rfl, hW', hS'⟩
  replace HST := hide (HST.out.trans hS')
  obtain ⟨L2, HQ2⟩ : ∃ L', Hid (L1 ++ [r.w, r.h, r.depth, r.kind, r.rows, (r.lens.length : Int)].flatMap num4 = L') := ⟨_, rfl⟩
  rw [HQ2.out] at hW'
  replace HW := hide hW'
  replace HL := hide (show L2.length ≤ 32 by rw [← HQ2.out, List.length_append, nums_length]; have := HL.out; (try simp only [List.length_cons, List.length_nil]); omega)
  clear hW' hS'
  obtain ⟨s0, s1, s2, s3, s4, s5, s6, s13, s26⟩ := HRC.out _ (HBK.out V2 HST.out)
  go_wp2_with fail
  clear s0 s1 s2 s3 s4 s5 s6 s13 s26
  refine (inkNums_any (w.heap.size + 1) (w.heap.size + 1) L2 _ r.lens V2 HW.out (HR.out.lens.below (HBV.out _ HST.out) (Nat.le_refl _)) (old_ints HR.out.lens (by omega)) (by have := HL.out; omega) (Nat.le_trans hB0 HST.out.bel.size)).mono ?_
  rintro e V3 ⟨rfl, hW', hS'⟩
  replace HST := hide (HST.out.trans hS')
  obtain ⟨L3, HQ3⟩ : ∃ L', Hid (L2 ++ r.lens.flatMap num4 = L') := ⟨_, rfl⟩
  rw [HQ3.out] at hW'
  replace HW := hide hW'
  replace HL := hide (show L3.length ≤ 4194336 by rw [← HQ3.out, List.length_append, nums_length]; have := HL.out; (try simp only [List.length_cons, List.length_nil]); omega)
  clear hW' hS'
  obtain ⟨s0, s1, s2, s3, s4, s5, s6, s13, s26⟩ := HRC.out _ (HBK.out V3 HST.out)
  go_wp2_with fail
  clear s0 s1 s2 s3 s4 s5 s6 s13 s26
  refine (inkRow_any (w.heap.size + 1) (w.heap.size + 1) L3 [(r.strips.length : Int)] V3 HW.out (by have := HL.out; simp only [List.length_cons, List.length_nil]; omega) (Nat.le_trans hB0 HST.out.bel.size)).mono ?_
  rintro e V4 ⟨rfl, hW', hS'⟩
  replace HST := hide (HST.out.trans hS')
  obtain ⟨L4, HQ4⟩ : ∃ L', Hid (L3 ++ [(r.strips.length : Int)].flatMap num4 = L') := ⟨_, rfl⟩
  rw [HQ4.out] at hW'
  replace HW := hide hW'
  replace HL := hide (show L4.length ≤ 4194340 by rw [← HQ4.out, List.length_append, nums_length]; have := HL.out; (try simp only [List.length_cons, List.length_nil]); omega)
  clear hW' hS'
  go_wp2_with fail
  go_loopw [4] (fun i wr => ∃ k : Nat, k ≤ r.strips.length ∧ i = .int .i64 k ∧ IsInk (w.heap.size + 1) (w.heap.size + 1) (L4 ++ (r.strips.take k).flatMap textW) wr ∧ WStep (w.heap.size + 1) (w.heap.size + 1) U wr) (fun i _ => r.strips.length - (intOf i).toNat)
  case atStart => exact ⟨0, Nat.zero_le _, rfl, by simpa using HW.out, HST.out⟩
  case round =>
    clear HW HST
    obtain ⟨k, hk, rfl, hW, hS⟩ := hrel
    have HW := hide hW
    have HST := hide hS
    clear hW hS
    obtain ⟨s0, s1, s2, s3, s4, s5, s6, s13, s26⟩ := HRC.out _ (HBK.out wr HST.out)
    by_cases hlt : k < r.strips.length
    · have hd : decide ((k : Int) < (r.strips.length : Int)) = true := by simp; omega
      obtain ⟨sb, soff, rfl, hsb, hsc⟩ := (HR.out.strips.below (HBV.out _ HST.out) (Nat.le_refl _)).at k hlt
      have HTT := hide (take_texts r.strips k hlt)
      have hgs := HGS.out k hlt
      have htt := HT.out k
      obtain ⟨SS, hSS⟩ : ∃ SS, r.strips.getD k [] = SS := ⟨_, rfl⟩
      rw [hSS] at hsc HTT hgs
      clear hSS
      go_wp2_with fail
      clear s0 s1 s2 s3 s4 s5 s6 s13 s26 hsc
      refine (inkText_any (w.heap.size + 1) (w.heap.size + 1) _ SS wr HW.out (by rw [List.length_append]; have := HL.out; omega) (Nat.le_trans hB0 HST.out.bel.size)).mono ?_
      rintro e X ⟨rfl, hW', hS'⟩
      have HST2 := hide (HST.out.trans hS')
      have HW2 := hide (show IsInk (w.heap.size + 1) (w.heap.size + 1) (L4 ++ (r.strips.take (k + 1)).flatMap textW) X by rw [HTT.out, ← List.append_assoc]; exact hW')
      clear hW' hS' htt hgs
      go_wp2
      go_roundw
      case rel => exact ⟨k + 1, hlt, by go_num, HW2.out, HST2.out⟩
      case measure => simp [intOf]; omega
    · have hd : decide ((k : Int) < (r.strips.length : Int)) = false := by simp; omega
      obtain rfl : k = r.strips.length := by omega
      have htt := HT.out r.strips.length
      rw [List.take_length] at htt
      replace HW := hide (show IsInk (w.heap.size + 1) (w.heap.size + 1) (L4 ++ r.strips.flatMap textW) wr by have := HW.out; rwa [List.take_length] at this)
      obtain ⟨L5, HQ5⟩ : ∃ L', Hid (L4 ++ r.strips.flatMap textW = L') := ⟨_, rfl⟩
      rw [HQ5.out] at HW
      replace HL := hide (show L5.length ≤ 71303460 by rw [← HQ5.out, List.length_append]; have := HL.out; omega)
      clear htt
      generalize wr = W1 at *
      have hBW := HST.out.bel.size
      obtain ⟨PA, hPA⟩ : ∃ PA, planA r.plan (.slice sp r.plan.spots.length sc) (.slice cp r.plan.curve.length cc) = PA := ⟨_, rfl⟩
      have HPT := hide (show ∀ j v, PA.toList[j]? = some v → W1.cell? ⟨w.heap.size, 7 + j, none⟩ = some v by rw [← hPA]; exact HPA.out _ (HBK.out W1 HST.out))
      have i1 : (Tryz.prog.info? 30).map (·.size) = some PA.size := by rw [← hPA]; kernel_rfl
      have i2 : (planZ : Array Value).size = PA.size := by rw [← hPA]; rfl
      have i3 : PA.all (·.oneCell') = true := by rw [← hPA]; simp [Value.oneCell']
      have z1 := al1 W1 (Obj.cells planZ 30)
      have c1 := setRow_heap _ _ _ PA _ _ z1
      have HBX := hide (below_setRow (g := W1.heap.size) (bel_alloc W1 (Obj.cells planZ 30)) (Nat.le_refl _) PA)
      rw [← hPA] at c1
      have HPC := hide c1
      replace HPC := hide (show ((W1.alloc (Obj.cells planZ 30)).setRow W1.heap.size PA).heap[W1.heap.size]? = some (.cells (planA r.plan (.slice sp r.plan.spots.length sc) (.slice cp r.plan.curve.length cc)) 30 (0, 0)) by rw [← hPA]; exact c1)
      clear c1 hPA
      go_upto_region 11 with (first | refine wpList_load_at rfl 30 _ rfl _ 7 rfl PA _ HPT.out Tryz.underlying30 rfl i1 ?_ | refine wpList_store_row rfl 30 _ _ rfl W1.heap.size PA rfl rfl _ _ z1 i1 i2 i3 ?_)
      clear z1 i1 i2 i3
      have HWL := hide HW.out.lt
      replace HW := hide (HW.out.below HBX.out)
      have hNX : w.heap.size + 1 < W1.heap.size := HWL.out
      have hNX2 : W1.heap.size < ((W1.alloc (Obj.cells planZ 30)).setRow W1.heap.size PA).heap.size := (Array.getElem?_eq_some_iff.1 HPC.out).1
      have HBV2 := hide (show Below w.heap.size w ((W1.alloc (Obj.cells planZ 30)).setRow W1.heap.size PA) from (HBV.out W1 HST.out).trans (HBX.out.mono (by omega)))
      generalize (W1.alloc (Obj.cells planZ 30)).setRow W1.heap.size PA = U2 at *
      generalize W1.heap.size = NX at *
      have HNX := hide hNX
      replace HBV := hide (show ∀ V, WStep (w.heap.size + 1) (w.heap.size + 1) U2 V → Below w.heap.size w V from fun V hV => HBV2.out.trans (hV.bel.mono (by omega)))
      replace HBK := hide (show ∀ V, WStep (w.heap.size + 1) (w.heap.size + 1) U2 V → V.heap[NX]? = some (.cells (planA r.plan (.slice sp r.plan.spots.length sc) (.slice cp r.plan.curve.length cc)) 30 (0, 0)) from fun V hV => (hV.keep _ hNX2 (by omega) (noBytes_of HPC.out (by decide))).trans HPC.out)
      replace HST := hide (WStep.refl (w.heap.size + 1) (w.heap.size + 1) U2)
      have hB0 : w.heap.size + 1 ≤ U2.heap.size := by omega
      clear HBV2 HBX HPC HPT HPA HRC hNX2 hBW s0 s1 s2 s3 s4 s5 s6 s13 s26
      obtain ⟨c0, c1, c2, c3, c4, c5, c6, c7, c8, c9, c10, c11, c12, c13, c14, c15, c16, c17, c18, c19, c20⟩ := plan_cells (HBK.out U2 HST.out)
      clear c10 c11 c12 c13 c14 c15 c16 c17 c18
      go_wp2_with fail
      clear c0 c1 c2 c3 c4 c5 c6 c7 c8 c9 c19 c20
      refine (inkRow_any (w.heap.size + 1) (w.heap.size + 1) L5 [r.plan.phase, r.plan.black 0, r.plan.black 1, r.plan.black 2, r.plan.black 3, r.plan.white, (r.plan.spots.length : Int)] U2 HW.out (by have := HL.out; simp only [List.length_cons, List.length_nil]; omega) (Nat.le_trans hB0 HST.out.bel.size)).mono ?_
      rintro e V6 ⟨rfl, hW', hS'⟩
      replace HST := hide (HST.out.trans hS')
      obtain ⟨L6, HQ6⟩ : ∃ L', Hid (L5 ++ [r.plan.phase, r.plan.black 0, r.plan.black 1, r.plan.black 2, r.plan.black 3, r.plan.white, (r.plan.spots.length : Int)].flatMap num4 = L') := ⟨_, rfl⟩
      rw [HQ6.out] at hW'
      replace HW := hide hW'
      replace HL := hide (show L6.length ≤ 71303488 by rw [← HQ6.out, List.length_append, nums_length]; have := HL.out; (try simp only [List.length_cons, List.length_nil]); omega)
      clear hW' hS'
      go_wp2_with fail
      go_loopw [6] (fun i wr => ∃ k : Nat, k ≤ r.plan.spots.length ∧ i = .int .i64 k ∧ IsInk (w.heap.size + 1) (w.heap.size + 1) (L6 ++ (r.plan.spots.take k).flatMap pairW) wr ∧ WStep (w.heap.size + 1) (w.heap.size + 1) U2 wr) (fun i _ => r.plan.spots.length - (intOf i).toNat)
      case atStart => exact ⟨0, Nat.zero_le _, rfl, by simpa using HW.out, HST.out⟩
      case round =>
        clear HW HST
        obtain ⟨k, hk, rfl, hW, hS⟩ := hrel
        have HW := hide hW
        have HST := hide hS
        clear hW hS
        have hpc := (plan_cells (HBK.out wr HST.out)).2.2.2.2.2.2.1
        by_cases hlt : k < r.plan.spots.length
        · have hd : decide ((k : Int) < (r.plan.spots.length : Int)) = true := by simp; omega
          obtain ⟨sb, soff, rfl, hsb, e0, e1⟩ := (HR.out.plan.spots.below (HBV.out _ HST.out) (Nat.le_refl _)).at k hlt
          have HTT := hide (take_pairs2 r.plan.spots k hlt)
          have HPL := hide (pairs_length (r.plan.spots.take k))
          rw [List.length_take, Nat.min_eq_left hk] at HPL
          obtain ⟨X, hX⟩ : ∃ X, (ptAt r.plan.spots k).1 = X := ⟨_, rfl⟩
          obtain ⟨Y, hY⟩ : ∃ Y, (ptAt r.plan.spots k).2 = Y := ⟨_, rfl⟩
          rw [hX] at e0 HTT
          rw [hY] at e1 HTT
          have hnl := (Array.getElem?_eq_some_iff.1 (HBK.out wr HST.out)).1
          have hnh := HBK.out wr HST.out
          have HS := hide (show ∀ v, Below wr.heap.size wr v → v.cell? ⟨NX, 6, none⟩ = some (.slice (some ⟨sb, soff, none⟩) r.plan.spots.length sc) ∧ v.cell? ⟨sb, soff + k * 2, none⟩ = some (.int .i64 X) ∧ v.cell? ⟨sb, soff + k * 2 + 1, none⟩ = some (.int .i64 Y) from fun v h => ⟨(h.cell (p := ⟨NX, 6, none⟩) hnl).trans hpc, (h.cell (p := ⟨sb, soff + k * 2, none⟩) hsb).trans e0, (h.cell (p := ⟨sb, soff + k * 2 + 1, none⟩) hsb).trans e1⟩)
          clear hX hY hnh
          go_upto_region 15 with fail
          have hWd : Below wr.heap.size wr wr.drew := (Below.refl _ _).drew
          have hSd := HS.out _ hWd
          have HWD := hide (show IsInk (w.heap.size + 1) (w.heap.size + 1) (L6 ++ (r.plan.spots.take k).flatMap pairW) wr.drew from HW.out)
          clear e0 e1 hpc
          have hmx : Tryz.prog.follows .mixedOrders = true := by kernel_rfl
          refine wp_region_last (S := (fun v : World => v.cell? ⟨NX, 6, none⟩ = some (.slice (some ⟨sb, soff, none⟩) r.plan.spots.length sc) ∧ v.cell? ⟨sb, soff + k * 2, none⟩ = some (.int .i64 X) ∧ v.cell? ⟨sb, soff + k * 2 + 1, none⟩ = some (.int .i64 Y))) (f := 14) hmx ?_
          show wpAnyF _ _ _ _ _ _ 15 _ _ wr.drew
          refine wpAnyF_takeP (i := 0) (oi := _) (v := ?vv1) (some 84) [] rfl rfl (by kernel_rfl) (by kernel_rfl) (by kernel_rfl) (by kernel_rfl) (by kernel_rfl) (fun _ _ _ h => h) (Or.inl ⟨by rfl, ?yy1⟩) hSd ?rr1
          case yy1 => (intro wq hSq; obtain ⟨_, _, _⟩ := hSq; go_simp <;> with_reducible rfl)
          simp only [Act.put, List.setIfInBounds_toArray, List.set_cons_succ, List.set_cons_zero]
          refine wpAnyF_takeP (i := 1) (oi := _) (v := ?vv2) (some 85) [13, 6, 5, 4, 2] rfl rfl (by kernel_rfl) (by kernel_rfl) (by kernel_rfl) (by kernel_rfl) (by kernel_rfl) (fun _ _ _ h => h) (Or.inl ⟨by rfl, ?yy2⟩) hSd ?rr2
          case yy2 => (intro wq hSq; obtain ⟨_, _, _⟩ := hSq; go_simp <;> with_reducible rfl)
          simp only [Act.put, List.setIfInBounds_toArray, List.set_cons_succ, List.set_cons_zero]
          refine wpAnyF_takeP (i := 3) (oi := _) (v := ?vv3) (some 87) [13, 6, 5, 4] rfl rfl (by kernel_rfl) (by kernel_rfl) (by kernel_rfl) (by kernel_rfl) (by kernel_rfl) (fun _ _ _ h => h) (Or.inl ⟨by rfl, ?yy3⟩) hSd ?rr3
          case yy3 => (intro wq hSq; obtain ⟨_, _, _⟩ := hSq; go_simp <;> with_reducible rfl)
          simp only [Act.put, List.setIfInBounds_toArray, List.set_cons_succ, List.set_cons_zero]
          refine wpAnyF_takeP (i := 7) (oi := _) (v := ?vv4) (some 91) [13, 12, 11, 10, 8] rfl rfl (by kernel_rfl) (by kernel_rfl) (by kernel_rfl) (by kernel_rfl) (by kernel_rfl) (fun _ _ _ h => h) (Or.inl ⟨by rfl, ?yy4⟩) hSd ?rr4
          case yy4 => (intro wq hSq; obtain ⟨_, _, _⟩ := hSq; go_simp <;> with_reducible rfl)
          simp only [Act.put, List.setIfInBounds_toArray, List.set_cons_succ, List.set_cons_zero]
          refine wpAnyF_takeP (i := 9) (oi := _) (v := ?vv5) (some 93) [13, 12, 11, 10] rfl rfl (by kernel_rfl) (by kernel_rfl) (by kernel_rfl) (by kernel_rfl) (by kernel_rfl) (fun _ _ _ h => h) (Or.inl ⟨by rfl, ?yy5⟩) hSd ?rr5
          case yy5 => (intro wq hSq; obtain ⟨_, _, _⟩ := hSq; go_simp <;> with_reducible rfl)
          simp only [Act.put, List.setIfInBounds_toArray, List.set_cons_succ, List.set_cons_zero]
          refine wpAnyF_takeP (i := 2) (oi := _) (v := ?vv6) (some 86) [13, 6, 5, 4] rfl rfl (by kernel_rfl) (by kernel_rfl) (by kernel_rfl) (by kernel_rfl) (by kernel_rfl) (fun _ _ _ h => h) (Or.inl ⟨by rfl, ?yy6⟩) hSd ?rr6
          case yy6 => (intro wq hSq; obtain ⟨_, _, _⟩ := hSq; go_simp <;> with_reducible rfl)
          simp only [Act.put, List.setIfInBounds_toArray, List.set_cons_succ, List.set_cons_zero]
          refine wpAnyF_takeP (i := 8) (oi := _) (v := ?vv7) (some 92) [13, 12, 11, 10] rfl rfl (by kernel_rfl) (by kernel_rfl) (by kernel_rfl) (by kernel_rfl) (by kernel_rfl) (fun _ _ _ h => h) (Or.inl ⟨by rfl, ?yy7⟩) hSd ?rr7
          case yy7 => (intro wq hSq; obtain ⟨_, _, _⟩ := hSq; go_simp <;> with_reducible rfl)
          simp only [Act.put, List.setIfInBounds_toArray, List.set_cons_succ, List.set_cons_zero]
          refine wpAnyF_takeP (i := 4) (oi := _) (v := ?vv8) (some 88) [13, 6, 5] rfl rfl (by kernel_rfl) (by kernel_rfl) (by kernel_rfl) (by kernel_rfl) (by kernel_rfl) (fun _ _ _ h => h) (Or.inl ⟨by rfl, ?yy8⟩) hSd ?rr8
          case yy8 => (intro wq hSq; obtain ⟨_, _, _⟩ := hSq; go_simp <;> with_reducible rfl)
          simp only [Act.put, List.setIfInBounds_toArray, List.set_cons_succ, List.set_cons_zero]
          refine wpAnyF_takeP (i := 10) (oi := _) (v := ?vv9) (some 94) [13, 12, 11] rfl rfl (by kernel_rfl) (by kernel_rfl) (by kernel_rfl) (by kernel_rfl) (by kernel_rfl) (fun _ _ _ h => h) (Or.inl ⟨by rfl, ?yy9⟩) hSd ?rr9
          case yy9 => (intro wq hSq; obtain ⟨_, _, _⟩ := hSq; go_simp <;> with_reducible rfl)
          simp only [Act.put, List.setIfInBounds_toArray, List.set_cons_succ, List.set_cons_zero]
          refine wpAnyF_takeP (i := 5) (oi := _) (v := ?vv10) (some 89) [13, 6] rfl rfl (by kernel_rfl) (by kernel_rfl) (by kernel_rfl) (by kernel_rfl) (by kernel_rfl) (fun _ _ _ h => h) (Or.inl ⟨by rfl, ?yy10⟩) hSd ?rr10
          case yy10 => (intro wq hSq; obtain ⟨_, _, _⟩ := hSq; go_simp <;> with_reducible rfl)
          simp only [Act.put, List.setIfInBounds_toArray, List.set_cons_succ, List.set_cons_zero]
          refine wpAnyF_takeP (i := 11) (oi := _) (v := ?vv11) (some 95) [13, 12] rfl rfl (by kernel_rfl) (by kernel_rfl) (by kernel_rfl) (by kernel_rfl) (by kernel_rfl) (fun _ _ _ h => h) (Or.inl ⟨by rfl, ?yy11⟩) hSd ?rr11
          case yy11 => (intro wq hSq; obtain ⟨_, _, _⟩ := hSq; go_simp <;> with_reducible rfl)
          simp only [Act.put, List.setIfInBounds_toArray, List.set_cons_succ, List.set_cons_zero]
          refine wpAnyF_takeP (i := 6) (oi := _) (v := ?vv12) (some 90) [13] rfl rfl (by kernel_rfl) (by kernel_rfl) (by kernel_rfl) (by kernel_rfl) (by kernel_rfl) (fun _ _ _ h => h) (Or.inl ⟨by rfl, ?yy12⟩) hSd ?rr12
          case yy12 => (intro wq hSq; obtain ⟨_, _, _⟩ := hSq; go_simp <;> with_reducible rfl)
          simp only [Act.put, List.setIfInBounds_toArray, List.set_cons_succ, List.set_cons_zero]
          refine wpAnyF_takeP (i := 12) (oi := _) (v := ?vv13) (some 96) [13] rfl rfl (by kernel_rfl) (by kernel_rfl) (by kernel_rfl) (by kernel_rfl) (by kernel_rfl) (fun _ _ _ h => h) (Or.inl ⟨by rfl, ?yy13⟩) hSd ?rr13
          case yy13 => (intro wq hSq; obtain ⟨_, _, _⟩ := hSq; go_simp <;> with_reducible rfl)
          simp only [Act.put, List.setIfInBounds_toArray, List.set_cons_succ, List.set_cons_zero]
          refine wpAnyF_one (i := 13) (o := _) (by kernel_rfl) rfl (fun K' hK => ?_)
          rw [if_pos (by rfl)]
          go_simp
          have hBs : Below wr.heap.size wr (wr.alloc (Obj.cells #[.int .i64 X, .int .i64 Y] 3)).drew := ((Below.refl _ _).alloc (Nat.le_refl _) _).drew
          have hSd := HS.out _ hBs
          refine hK.out _ _ hSd ?_
          clear hK
          try simp only [Act.put]
          refine wpAnyF_last (o := _) (by kernel_rfl) rfl (fun K' hK => ?_)
          rw [if_pos (by rfl)]
          go_simp
          refine (inkRow_any (w.heap.size + 1) (w.heap.size + 1) _ [X, Y] wr.drew HWD.out (by rw [List.length_append]; have := HL.out; have := HPL.out; simp only [List.length_cons, List.length_nil]; omega) (Nat.le_trans hB0 HST.out.bel.size)).mono ?_
          rintro e XW ⟨rfl, hW', hS'⟩
          refine hK.out _ _ ?_
          clear hK
          refine wpAnyF_done (by kernel_rfl) ?_ _
          try simp only [Act.put]
          have HST2 := hide ((HST.out.trans (WStep.drew _ _ _)).trans hS')
          have HW2 := hide (show IsInk (w.heap.size + 1) (w.heap.size + 1) (L6 ++ (r.plan.spots.take (k + 1)).flatMap pairW) XW by rw [HTT.out, ← List.append_assoc]; exact hW')
          clear hW' hS' hSd
          go_wp2
          go_roundw
          case rel => exact ⟨k + 1, hlt, by go_num, HW2.out, HST2.out⟩
          case measure => simp [intOf]; omega
        · have hd : decide ((k : Int) < (r.plan.spots.length : Int)) = false := by simp; omega
          obtain rfl : k = r.plan.spots.length := by omega
          replace HW := hide (show IsInk (w.heap.size + 1) (w.heap.size + 1) (L6 ++ r.plan.spots.flatMap pairW) wr by have := HW.out; rwa [List.take_length] at this)
          obtain ⟨L7, HQ7⟩ : ∃ L', Hid (L6 ++ r.plan.spots.flatMap pairW = L') := ⟨_, rfl⟩
          rw [HQ7.out] at HW
          replace HL := hide (show L7.length ≤ 79692096 by rw [← HQ7.out, List.length_append, pairs_length]; have := HL.out; omega)
          clear hpc
          generalize wr = W7 at *
          obtain ⟨c0, c1, c2, c3, c4, c5, c6, c7, c8, c9, c10, c11, c12, c13, c14, c15, c16, c17, c18, c19, c20⟩ := plan_cells (HBK.out W7 HST.out)
          clear c10 c11 c12 c13 c14 c15 c16 c17 c18
          go_wp2_with fail
          clear c0 c1 c2 c3 c4 c5 c6 c7 c8 c9 c19 c20
          refine (inkRow_any (w.heap.size + 1) (w.heap.size + 1) L7 [r.plan.gains 0, r.plan.gains 1, r.plan.gains 2] W7 HW.out (by have := HL.out; simp only [List.length_cons, List.length_nil]; omega) (Nat.le_trans hB0 HST.out.bel.size)).mono ?_
          rintro e V8 ⟨rfl, hW', hS'⟩
          replace HST := hide (HST.out.trans hS')
          obtain ⟨L8, HQ8⟩ : ∃ L', Hid (L7 ++ [r.plan.gains 0, r.plan.gains 1, r.plan.gains 2].flatMap num4 = L') := ⟨_, rfl⟩
          rw [HQ8.out] at hW'
          replace HW := hide hW'
          replace HL := hide (show L8.length ≤ 79692108 by rw [← HQ8.out, List.length_append, nums_length]; have := HL.out; (try simp only [List.length_cons, List.length_nil]); omega)
          clear hW' hS'
          go_wp2_with fail
          go_loopw [7] (fun i wr => ∃ k : Nat, k ≤ 9 ∧ i = .int .i64 k ∧ IsInk (w.heap.size + 1) (w.heap.size + 1) (L8 ++ ((matL r.plan).take k).flatMap num4) wr ∧ WStep (w.heap.size + 1) (w.heap.size + 1) U2 wr) (fun i _ => 9 - (intOf i).toNat)
          case atStart => exact ⟨0, Nat.zero_le _, rfl, by simpa using HW.out, HST.out⟩
          case round =>
            clear HW HST
            obtain ⟨k, hk, rfl, hW, hS⟩ := hrel
            have HW := hide hW
            have HST := hide hS
            clear hW hS
            by_cases hlt : k < 9
            · have hd : decide ((k : Int) < 9) = true := by simp; omega
              have hd9 : (k : Int) < 9 := by omega
              have hmk := plan_mat_at (HBK.out wr HST.out) k hlt
              have HTT := hide (take_mat r.plan k hlt)
              have HPL := hide (nums_length ((matL r.plan).take k))
              rw [List.length_take, show (matL r.plan).length = 9 from rfl, Nat.min_eq_left hk] at HPL
              obtain ⟨X, hX⟩ : ∃ X, r.plan.matrix k = X := ⟨_, rfl⟩
              rw [hX] at hmk HTT
              clear hX
              go_wp2_with fail
              clear hmk
              refine (inkRow_any (w.heap.size + 1) (w.heap.size + 1) _ [X] wr HW.out (by rw [List.length_append]; have := HL.out; have := HPL.out; simp only [List.length_cons, List.length_nil]; omega) (Nat.le_trans hB0 HST.out.bel.size)).mono ?_
              rintro e XW ⟨rfl, hW', hS'⟩
              have HST2 := hide (HST.out.trans hS')
              have HW2 := hide (show IsInk (w.heap.size + 1) (w.heap.size + 1) (L8 ++ ((matL r.plan).take (k + 1)).flatMap num4) XW by rw [HTT.out, ← List.append_assoc]; exact hW')
              clear hW' hS'
              go_wp2
              go_roundw
              case rel => exact ⟨k + 1, hlt, by go_num, HW2.out, HST2.out⟩
              case measure => simp [intOf]; omega
            · have hd : decide ((k : Int) < 9) = false := by simp; omega
              obtain rfl : k = 9 := by omega
              replace HW := hide (show IsInk (w.heap.size + 1) (w.heap.size + 1) (L8 ++ (matL r.plan).flatMap num4) wr from HW.out)
              obtain ⟨L9, HQ9⟩ : ∃ L', Hid (L8 ++ (matL r.plan).flatMap num4 = L') := ⟨_, rfl⟩
              rw [HQ9.out] at HW
              replace HL := hide (show L9.length ≤ 79692144 by rw [← HQ9.out, List.length_append, nums_length, show (matL r.plan).length = 9 from rfl]; have := HL.out; omega)
              generalize wr = W9 at *
              obtain ⟨c0, c1, c2, c3, c4, c5, c6, c7, c8, c9, c10, c11, c12, c13, c14, c15, c16, c17, c18, c19, c20⟩ := plan_cells (HBK.out W9 HST.out)
              clear c10 c11 c12 c13 c14 c15 c16 c17 c18
              go_wp2_with fail
              clear c0 c1 c2 c3 c4 c5 c6 c7 c8 c9 c19 c20
              refine (inkRow_any (w.heap.size + 1) (w.heap.size + 1) L9 [(r.plan.curve.length : Int)] W9 HW.out (by have := HL.out; simp only [List.length_cons, List.length_nil]; omega) (Nat.le_trans hB0 HST.out.bel.size)).mono ?_
              rintro e V10 ⟨rfl, hW', hS'⟩
              replace HST := hide (HST.out.trans hS')
              obtain ⟨L10, HQ10⟩ : ∃ L', Hid (L9 ++ [(r.plan.curve.length : Int)].flatMap num4 = L') := ⟨_, rfl⟩
              rw [HQ10.out] at hW'
              replace HW := hide hW'
              replace HL := hide (show L10.length ≤ 79692148 by rw [← HQ10.out, List.length_append, nums_length]; have := HL.out; (try simp only [List.length_cons, List.length_nil]); omega)
              clear hW' hS'
              go_wp2_with fail
              go_loopw [8] (fun i wr => ∃ k : Nat, k ≤ r.plan.curve.length ∧ i = .int .i64 k ∧ IsInk (w.heap.size + 1) (w.heap.size + 1) (L10 ++ (r.plan.curve.take k).flatMap pairW) wr ∧ WStep (w.heap.size + 1) (w.heap.size + 1) U2 wr) (fun i _ => r.plan.curve.length - (intOf i).toNat)
              case atStart => exact ⟨0, Nat.zero_le _, rfl, by simpa using HW.out, HST.out⟩
              case round =>
                clear HW HST
                obtain ⟨k, hk, rfl, hW, hS⟩ := hrel
                have HW := hide hW
                have HST := hide hS
                clear hW hS
                have hpc := (plan_cells (HBK.out wr HST.out)).2.2.2.2.2.2.2.2.2.2.2.2.2.2.2.2.2.2.2.1
                by_cases hlt : k < r.plan.curve.length
                · have hd : decide ((k : Int) < (r.plan.curve.length : Int)) = true := by simp; omega
                  obtain ⟨sb, soff, rfl, hsb, e0, e1⟩ := (HR.out.plan.curve.below (HBV.out _ HST.out) (Nat.le_refl _)).at k hlt
                  have HTT := hide (take_pairs2 r.plan.curve k hlt)
                  have HPL := hide (pairs_length (r.plan.curve.take k))
                  rw [List.length_take, Nat.min_eq_left hk] at HPL
                  obtain ⟨X, hX⟩ : ∃ X, (ptAt r.plan.curve k).1 = X := ⟨_, rfl⟩
                  obtain ⟨Y, hY⟩ : ∃ Y, (ptAt r.plan.curve k).2 = Y := ⟨_, rfl⟩
                  rw [hX] at e0 HTT
                  rw [hY] at e1 HTT
                  have hnl := (Array.getElem?_eq_some_iff.1 (HBK.out wr HST.out)).1
                  have hnh := HBK.out wr HST.out
                  have HS := hide (show ∀ v, Below wr.heap.size wr v → v.cell? ⟨NX, 19, none⟩ = some (.slice (some ⟨sb, soff, none⟩) r.plan.curve.length cc) ∧ v.cell? ⟨sb, soff + k * 2, none⟩ = some (.int .i64 X) ∧ v.cell? ⟨sb, soff + k * 2 + 1, none⟩ = some (.int .i64 Y) from fun v h => ⟨(h.cell (p := ⟨NX, 19, none⟩) hnl).trans hpc, (h.cell (p := ⟨sb, soff + k * 2, none⟩) hsb).trans e0, (h.cell (p := ⟨sb, soff + k * 2 + 1, none⟩) hsb).trans e1⟩)
                  clear hX hY hnh
                  go_upto_region 25 with fail
                  have hWd : Below wr.heap.size wr wr.drew := (Below.refl _ _).drew
                  have hSd := HS.out _ hWd
                  have HWD := hide (show IsInk (w.heap.size + 1) (w.heap.size + 1) (L10 ++ (r.plan.curve.take k).flatMap pairW) wr.drew from HW.out)
                  clear e0 e1 hpc
                  have hmx : Tryz.prog.follows .mixedOrders = true := by kernel_rfl
                  refine wp_region_last (S := (fun v : World => v.cell? ⟨NX, 19, none⟩ = some (.slice (some ⟨sb, soff, none⟩) r.plan.curve.length cc) ∧ v.cell? ⟨sb, soff + k * 2, none⟩ = some (.int .i64 X) ∧ v.cell? ⟨sb, soff + k * 2 + 1, none⟩ = some (.int .i64 Y))) (f := 14) hmx ?_
                  show wpAnyF _ _ _ _ _ _ 15 _ _ wr.drew
                  refine wpAnyF_takeP (i := 0) (oi := _) (v := ?vv14) (some 135) [] rfl rfl (by kernel_rfl) (by kernel_rfl) (by kernel_rfl) (by kernel_rfl) (by kernel_rfl) (fun _ _ _ h => h) (Or.inl ⟨by rfl, ?yy14⟩) hSd ?rr14
                  case yy14 => (intro wq hSq; obtain ⟨_, _, _⟩ := hSq; go_simp <;> with_reducible rfl)
                  simp only [Act.put, List.setIfInBounds_toArray, List.set_cons_succ, List.set_cons_zero]
                  refine wpAnyF_takeP (i := 1) (oi := _) (v := ?vv15) (some 136) [13, 6, 5, 4, 2] rfl rfl (by kernel_rfl) (by kernel_rfl) (by kernel_rfl) (by kernel_rfl) (by kernel_rfl) (fun _ _ _ h => h) (Or.inl ⟨by rfl, ?yy15⟩) hSd ?rr15
                  case yy15 => (intro wq hSq; obtain ⟨_, _, _⟩ := hSq; go_simp <;> with_reducible rfl)
                  simp only [Act.put, List.setIfInBounds_toArray, List.set_cons_succ, List.set_cons_zero]
                  refine wpAnyF_takeP (i := 3) (oi := _) (v := ?vv16) (some 138) [13, 6, 5, 4] rfl rfl (by kernel_rfl) (by kernel_rfl) (by kernel_rfl) (by kernel_rfl) (by kernel_rfl) (fun _ _ _ h => h) (Or.inl ⟨by rfl, ?yy16⟩) hSd ?rr16
                  case yy16 => (intro wq hSq; obtain ⟨_, _, _⟩ := hSq; go_simp <;> with_reducible rfl)
                  simp only [Act.put, List.setIfInBounds_toArray, List.set_cons_succ, List.set_cons_zero]
                  refine wpAnyF_takeP (i := 7) (oi := _) (v := ?vv17) (some 142) [13, 12, 11, 10, 8] rfl rfl (by kernel_rfl) (by kernel_rfl) (by kernel_rfl) (by kernel_rfl) (by kernel_rfl) (fun _ _ _ h => h) (Or.inl ⟨by rfl, ?yy17⟩) hSd ?rr17
                  case yy17 => (intro wq hSq; obtain ⟨_, _, _⟩ := hSq; go_simp <;> with_reducible rfl)
                  simp only [Act.put, List.setIfInBounds_toArray, List.set_cons_succ, List.set_cons_zero]
                  refine wpAnyF_takeP (i := 9) (oi := _) (v := ?vv18) (some 144) [13, 12, 11, 10] rfl rfl (by kernel_rfl) (by kernel_rfl) (by kernel_rfl) (by kernel_rfl) (by kernel_rfl) (fun _ _ _ h => h) (Or.inl ⟨by rfl, ?yy18⟩) hSd ?rr18
                  case yy18 => (intro wq hSq; obtain ⟨_, _, _⟩ := hSq; go_simp <;> with_reducible rfl)
                  simp only [Act.put, List.setIfInBounds_toArray, List.set_cons_succ, List.set_cons_zero]
                  refine wpAnyF_takeP (i := 2) (oi := _) (v := ?vv19) (some 137) [13, 6, 5, 4] rfl rfl (by kernel_rfl) (by kernel_rfl) (by kernel_rfl) (by kernel_rfl) (by kernel_rfl) (fun _ _ _ h => h) (Or.inl ⟨by rfl, ?yy19⟩) hSd ?rr19
                  case yy19 => (intro wq hSq; obtain ⟨_, _, _⟩ := hSq; go_simp <;> with_reducible rfl)
                  simp only [Act.put, List.setIfInBounds_toArray, List.set_cons_succ, List.set_cons_zero]
                  refine wpAnyF_takeP (i := 8) (oi := _) (v := ?vv20) (some 143) [13, 12, 11, 10] rfl rfl (by kernel_rfl) (by kernel_rfl) (by kernel_rfl) (by kernel_rfl) (by kernel_rfl) (fun _ _ _ h => h) (Or.inl ⟨by rfl, ?yy20⟩) hSd ?rr20
                  case yy20 => (intro wq hSq; obtain ⟨_, _, _⟩ := hSq; go_simp <;> with_reducible rfl)
                  simp only [Act.put, List.setIfInBounds_toArray, List.set_cons_succ, List.set_cons_zero]
                  refine wpAnyF_takeP (i := 4) (oi := _) (v := ?vv21) (some 139) [13, 6, 5] rfl rfl (by kernel_rfl) (by kernel_rfl) (by kernel_rfl) (by kernel_rfl) (by kernel_rfl) (fun _ _ _ h => h) (Or.inl ⟨by rfl, ?yy21⟩) hSd ?rr21
                  case yy21 => (intro wq hSq; obtain ⟨_, _, _⟩ := hSq; go_simp <;> with_reducible rfl)
                  simp only [Act.put, List.setIfInBounds_toArray, List.set_cons_succ, List.set_cons_zero]
                  refine wpAnyF_takeP (i := 10) (oi := _) (v := ?vv22) (some 145) [13, 12, 11] rfl rfl (by kernel_rfl) (by kernel_rfl) (by kernel_rfl) (by kernel_rfl) (by kernel_rfl) (fun _ _ _ h => h) (Or.inl ⟨by rfl, ?yy22⟩) hSd ?rr22
                  case yy22 => (intro wq hSq; obtain ⟨_, _, _⟩ := hSq; go_simp <;> with_reducible rfl)
                  simp only [Act.put, List.setIfInBounds_toArray, List.set_cons_succ, List.set_cons_zero]
                  refine wpAnyF_takeP (i := 5) (oi := _) (v := ?vv23) (some 140) [13, 6] rfl rfl (by kernel_rfl) (by kernel_rfl) (by kernel_rfl) (by kernel_rfl) (by kernel_rfl) (fun _ _ _ h => h) (Or.inl ⟨by rfl, ?yy23⟩) hSd ?rr23
                  case yy23 => (intro wq hSq; obtain ⟨_, _, _⟩ := hSq; go_simp <;> with_reducible rfl)
                  simp only [Act.put, List.setIfInBounds_toArray, List.set_cons_succ, List.set_cons_zero]
                  refine wpAnyF_takeP (i := 11) (oi := _) (v := ?vv24) (some 146) [13, 12] rfl rfl (by kernel_rfl) (by kernel_rfl) (by kernel_rfl) (by kernel_rfl) (by kernel_rfl) (fun _ _ _ h => h) (Or.inl ⟨by rfl, ?yy24⟩) hSd ?rr24
                  case yy24 => (intro wq hSq; obtain ⟨_, _, _⟩ := hSq; go_simp <;> with_reducible rfl)
                  simp only [Act.put, List.setIfInBounds_toArray, List.set_cons_succ, List.set_cons_zero]
                  refine wpAnyF_takeP (i := 6) (oi := _) (v := ?vv25) (some 141) [13] rfl rfl (by kernel_rfl) (by kernel_rfl) (by kernel_rfl) (by kernel_rfl) (by kernel_rfl) (fun _ _ _ h => h) (Or.inl ⟨by rfl, ?yy25⟩) hSd ?rr25
                  case yy25 => (intro wq hSq; obtain ⟨_, _, _⟩ := hSq; go_simp <;> with_reducible rfl)
                  simp only [Act.put, List.setIfInBounds_toArray, List.set_cons_succ, List.set_cons_zero]
                  refine wpAnyF_takeP (i := 12) (oi := _) (v := ?vv26) (some 147) [13] rfl rfl (by kernel_rfl) (by kernel_rfl) (by kernel_rfl) (by kernel_rfl) (by kernel_rfl) (fun _ _ _ h => h) (Or.inl ⟨by rfl, ?yy26⟩) hSd ?rr26
                  case yy26 => (intro wq hSq; obtain ⟨_, _, _⟩ := hSq; go_simp <;> with_reducible rfl)
                  simp only [Act.put, List.setIfInBounds_toArray, List.set_cons_succ, List.set_cons_zero]
                  refine wpAnyF_one (i := 13) (o := _) (by kernel_rfl) rfl (fun K' hK => ?_)
                  rw [if_pos (by rfl)]
                  go_simp
                  have hBs : Below wr.heap.size wr (wr.alloc (Obj.cells #[.int .i64 X, .int .i64 Y] 3)).drew := ((Below.refl _ _).alloc (Nat.le_refl _) _).drew
                  have hSd := HS.out _ hBs
                  refine hK.out _ _ hSd ?_
                  clear hK
                  try simp only [Act.put]
                  refine wpAnyF_last (o := _) (by kernel_rfl) rfl (fun K' hK => ?_)
                  rw [if_pos (by rfl)]
                  go_simp
                  refine (inkRow_any (w.heap.size + 1) (w.heap.size + 1) _ [X, Y] wr.drew HWD.out (by rw [List.length_append]; have := HL.out; have := HPL.out; simp only [List.length_cons, List.length_nil]; omega) (Nat.le_trans hB0 HST.out.bel.size)).mono ?_
                  rintro e XW ⟨rfl, hW', hS'⟩
                  refine hK.out _ _ ?_
                  clear hK
                  refine wpAnyF_done (by kernel_rfl) ?_ _
                  try simp only [Act.put]
                  have HST2 := hide ((HST.out.trans (WStep.drew _ _ _)).trans hS')
                  have HW2 := hide (show IsInk (w.heap.size + 1) (w.heap.size + 1) (L10 ++ (r.plan.curve.take (k + 1)).flatMap pairW) XW by rw [HTT.out, ← List.append_assoc]; exact hW')
                  clear hW' hS' hSd
                  go_wp2
                  go_roundw
                  case rel => exact ⟨k + 1, hlt, by go_num, HW2.out, HST2.out⟩
                  case measure => simp [intOf]; omega
                · have hd : decide ((k : Int) < (r.plan.curve.length : Int)) = false := by simp; omega
                  obtain rfl : k = r.plan.curve.length := by omega
                  replace HW := hide (show IsInk (w.heap.size + 1) (w.heap.size + 1) (L10 ++ r.plan.curve.flatMap pairW) wr by have := HW.out; rwa [List.take_length] at this)
                  obtain ⟨L11, HQ11⟩ : ∃ L', Hid (L10 ++ r.plan.curve.flatMap pairW = L') := ⟨_, rfl⟩
                  rw [HQ11.out] at HW
                  replace HL := hide (show L11.length ≤ 88080756 by rw [← HQ11.out, List.length_append, pairs_length]; have := HL.out; omega)
                  clear hpc
                  generalize wr = W11 at *
                  obtain ⟨c0, c1, c2, c3, c4, c5, c6, c7, c8, c9, c10, c11, c12, c13, c14, c15, c16, c17, c18, c19, c20⟩ := plan_cells (HBK.out W11 HST.out)
                  clear c10 c11 c12 c13 c14 c15 c16 c17 c18
                  go_wp2_with fail
                  clear c0 c1 c2 c3 c4 c5 c6 c7 c8 c9 c19 c20
                  refine (inkRow_any (w.heap.size + 1) (w.heap.size + 1) L11 [r.plan.amount] W11 HW.out (by have := HL.out; simp only [List.length_cons, List.length_nil]; omega) (Nat.le_trans hB0 HST.out.bel.size)).mono ?_
                  rintro e V12 ⟨rfl, hW', hS'⟩
                  replace HST := hide (HST.out.trans hS')
                  obtain ⟨L12, HQ12⟩ : ∃ L', Hid (L11 ++ [r.plan.amount].flatMap num4 = L') := ⟨_, rfl⟩
                  rw [HQ12.out] at hW'
                  replace HW := hide hW'
                  replace HL := hide (show L12.length ≤ 88080760 by rw [← HQ12.out, List.length_append, nums_length]; have := HL.out; (try simp only [List.length_cons, List.length_nil]); omega)
                  clear hW' hS'
                  obtain ⟨hBb, so, cap, h1, h2⟩ := HW.out
                  have c0 : V12.cell? ⟨w.heap.size + 1, 0, none⟩ = some (.slice so L12.length cap) := by rw [Lib.cell_of_heap h1]; rfl
                  have HFI := hide (show L12 = RWF by rw [HWF.out, ← HQ12.out, ← HQ11.out, ← HQ10.out, ← HQ9.out, ← HQ8.out, ← HQ7.out, ← HQ6.out, ← HQ5.out, ← HQ4.out, ← HQ3.out, ← HQ2.out, ← HQ1.out]; simp only [List.append_assoc, List.nil_append])
                  have hcv := run_string_any (P := Tryz.prog) Tryz.underlying71 Tryz.underlying5 Tryz.underlying9 h2
                  have HBF := hide (HBV.out _ HST.out)
                  clear h1 h2
                  go_wp2
                  go_ret
                  exact ⟨by rw [HFI.out]; rfl, HBF.out⟩
end Go.Proofs.YtanebhbfekcplaaGreat

namespace Go.Proofs.YtanebhbfekcplaaGreat
set_option linter.unusedVariables false
open Go.RowKit
def zeroR : RawF := ⟨0, 0, 0, 0, 0, [], [], zeroN⟩
theorem zeroR_is (w : World) : IsRaw w zeroR (.slice none 0 0) (.slice none 0 0) (.slice none 0 0) (.slice none 0 0) := ⟨IsInts.nil _, IsStrs.nil _, IsPts.nil _, IsPts.nil _⟩
set_option maxRecDepth 100000 in
set_option maxHeartbeats 6400000 in
theorem rawWrites_walk (r : RawF) (lv tv sv cv : Value) (a1 : ByteArray) (hs : a1.size ≤ 140737488355328) (w : World) (hr : IsRaw w r lv tv sv cv) :
    Calls Tryz.prog 5 #[.agg (rawA r lv tv sv cv), .string a1] w fun e w' => e = .returned (.bool true) ∧ Below w.heap.size w w' := by
  obtain ⟨s, rfl⟩ : ∃ s, a1 = str s := ⟨a1.data.toList, rfl⟩
  rw [str_size] at hs
  have HW := hide (fun (u : World) (hu : Below w.heap.size w u) => rawWrite_any r lv tv sv cv u (hr.below hu (Nat.le_refl _)))
  have HQ := hide (fun (u : World) (hu : Below w.heap.size w u) => refPlane_any r lv tv sv cv u (hr.below hu (Nat.le_refl _)))
  have HRB := hide (fun (h0 : planeE r = 0) (u : World) (hu : Below w.heap.size w u) => refRawBytes_any r lv tv sv cv u (hr.below hu (Nat.le_refl _)) (by have := (planeE_zero h0).lens_le; omega) (by have := (planeE_zero h0).many; have := (planeE_zero h0).head.cnt_le; omega) (fun s hs => by have := (planeE_zero h0).strip_le s hs; omega) (by have := (planE_zero (planeE_zero h0).plan).2.2.2.2.2.1; omega) (by have := curve_le (planE_zero (planeE_zero h0).plan).2.2.2.2.2.2.2; omega))
  have HS := hide (show rawS r = if planeE r = 0 then rawW r else [] from rfl)
  generalize rawS r = RS at *
  generalize rawW r = RW at *
  have a1 := al1 w (Obj.cells (rawA r lv tv sv cv) 32)
  have HB := hide (bel_alloc w (Obj.cells (rawA r lv tv sv cv) 32))
  have hl1 := (Array.getElem?_eq_some_iff.1 a1).1
  have hi28 : (Tryz.prog.info? 32).map (·.size) = some ((rawA r lv tv sv cv) : Array Value).size := by kernel_rfl
  have iz : (Tryz.prog.info? 32).map (·.size) = some (rawZ : Array Value).size := by kernel_rfl
  have HRD := hide (fun (u : World) => rawRead_any s u hs)
  have HRF := hide (fun (u : World) => refFrom_any s u hs)
  obtain ⟨RD, hRD⟩ : ∃ RD, rawRd s = RD := ⟨_, rfl⟩
  rw [hRD] at HRD HRF
  clear hr hRD
  go_enter Tryz.func5, Tryz.ntmps5
  go_wp2_with (refine wpList_load_row rfl 32 _ rfl _ rfl _ _ _ _ a1 Tryz.underlying32 rfl hi28 ?_)
  generalize w.alloc (Obj.cells (rawA r lv tv sv cv) 32) = U at *
  generalize (rawA r lv tv sv cv) = RQ at *
  refine (HW.out _ HB.out).mono ?_
  rintro e V1 ⟨rfl, hb1⟩
  have g1 := (hb1.block _ hl1).trans a1
  go_wp2_with (refine wpList_load_row rfl 32 _ rfl _ rfl _ _ _ _ g1 Tryz.underlying32 rfl hi28 ?_)
  clear g1
  refine (HQ.out _ (bel_trans HB.out hb1)).mono ?_
  rintro e V2 ⟨qv, rfl, hq, hb2, _⟩
  obtain ⟨qo, QN, qc, rfl⟩ : ∃ zo ZN zc, qv = .slice zo ZN zc := by
    obtain ⟨a, c, h, _⟩ := hq
    exact ⟨a, _, c, h⟩
  clear hq
  generalize planeW r = PW at *
  generalize planeH r = PH at *
  generalize planeE r = PE at *
  have hb3 := bel_trans (bel_trans hb1 hb2) (bel_alloc V2 (Obj.cells #[.int .i64 PW, .int .i64 PH, .slice qo QN qc] 34))
  clear hb1 hb2
  go_upto_if 26 with fail
  generalize V2.alloc (Obj.cells #[.int .i64 PW, .int .i64 PH, .slice qo QN qc] 34) = U1 at *
  generalize V2.heap.size = PB at *
  go_cut [9] from 27 (fun x v => x = .string (str RS) ∧ Below w.heap.size w v)
  case first =>
    by_cases h0 : PE = 0
    · subst h0
      rw [if_pos rfl] at HS
      have g1 := (hb3.block _ hl1).trans a1
      have HRB2 := hide (HRB.out rfl U1 (bel_trans HB.out hb3))
      have HSE := hide (show RW = RS from HS.out.symm)
      clear HRB
      go_wp2_with (refine wpList_load_row rfl 32 _ rfl _ rfl _ _ _ _ g1 Tryz.underlying32 rfl hi28 ?_)
      refine (HRB2.out).mono ?_
      rintro e V3 ⟨rfl, hb4⟩
      have HBF := hide (bel_trans (bel_trans HB.out hb3) hb4)
      clear hb4 g1
      go_wp2
      go_meet
      case rel => exact ⟨by rw [HSE.out], HBF.out⟩
    · rw [if_neg h0] at HS
      have hn : (PE == 0) = false := by simpa using h0
      have HSE := hide (show ([] : List UInt8) = RS from HS.out.symm)
      go_wp2
      go_meet
      case rel => exact ⟨by rw [← HSE.out]; rfl, bel_trans HB.out hb3⟩
  case rest =>
    obtain ⟨rfl, hbc⟩ := hcut
    clear HRB HS HW HQ hb3 a1 hl1 HB
    go_wp2_with fail
    refine (HRD.out _).mono ?_
    rintro e V3 ⟨hb4, hc⟩
    have hst : ((str RS).toList == (str RS).toList) = true := by simp
    have hpe : (PE == PE) = true := by simp
    rcases hc with ⟨r', lu, tu, su, cu, hrd, rfl, hI, _, _, _, _⟩ | ⟨hrd, rfl⟩
    · subst hrd
      obtain ⟨RX, hRX⟩ : ∃ RX, rawA r' lu tu su cu = RX := ⟨_, rfl⟩
      have iRX : (Tryz.prog.info? 32).map (·.size) = some RX.size := by rw [← hRX]; kernel_rfl
      have jRX : (rawZ : Array Value).size = RX.size := by rw [← hRX]; rfl
      have oRX : RX.all (·.oneCell') = true := by rw [← hRX]; exact raw_one hI
      have zRX := al1 V3 (Obj.cells rawZ 32)
      have cRX := setRow_heap _ _ _ RX _ _ zRX
      have XRX := hide (below_setRow (g := V3.heap.size) (bel_alloc V3 (Obj.cells rawZ 32)) (Nat.le_refl _) RX)
      have HRX := hide hRX
      have hbb := bel_trans hbc (bel_trans hb4 XRX.out)
      have HIX := hide (hI.below XRX.out (Nat.le_refl _))
      rw [hRX]
      clear hRX hI hb4
      go_upto_region 7 with (refine wpList_store_row rfl 32 _ _ rfl V3.heap.size RX rfl rfl _ _ zRX iRX jRX oRX ?_)
      clear zRX
      clear XRX
      generalize (V3.alloc (Obj.cells rawZ 32)).setRow V3.heap.size RX = U3 at *
      generalize V3.heap.size = XB at *
      have lx := (Array.getElem?_eq_some_iff.1 cRX).1
      go_wp2_with fail
      refine (HRF.out _).mono ?_
      rintro e V4 ⟨hb5, hc⟩
      rcases hc with ⟨r2, la, ta, sa, ca, hrd, rfl, hI, _, _, _, _⟩ | ⟨hrd, _⟩
      rotate_left
      · cases hrd
      cases hrd
      obtain ⟨RY, hRY⟩ : ∃ RY, rawA r2 la ta sa ca = RY := ⟨_, rfl⟩
      have iRY : (Tryz.prog.info? 32).map (·.size) = some RY.size := by rw [← hRY]; kernel_rfl
      have jRY : (rawZ : Array Value).size = RY.size := by rw [← hRY]; rfl
      have oRY : RY.all (·.oneCell') = true := by rw [← hRY]; exact raw_one hI
      have zRY := al1 V4 (Obj.cells rawZ 32)
      have cRY := setRow_heap _ _ _ RY _ _ zRY
      have XRY := hide (below_setRow (g := V4.heap.size) (bel_alloc V4 (Obj.cells rawZ 32)) (Nat.le_refl _) RY)
      have HRY := hide hRY
      have hb6 := bel_trans hb5 XRY.out
      replace hbb := bel_trans hbb hb6
      have HIY := hide (hI.below XRY.out (Nat.le_refl _))
      replace HIX := hide (isRaw_nrm.1 (HIX.out.below hb6 (Nat.le_refl _)))
      have d1 := (hb6.block _ lx).trans cRX
      rw [rawA_nrm] at HRX
      rw [hRY]
      clear hRY hI hb5 hb6
      go_upto_region 8 with (refine wpList_store_row rfl 32 _ _ rfl V4.heap.size RY rfl rfl _ _ zRY iRY jRY oRY ?_)
      clear zRY XRY
      generalize (V4.alloc (Obj.cells rawZ 32)).setRow V4.heap.size RY = U4 at *
      generalize V4.heap.size = YB at *
      have l1 := (Array.getElem?_eq_some_iff.1 d1).1
      have l2 := (Array.getElem?_eq_some_iff.1 cRY).1
      go_wp2_with fail
      refine (rawBegun_any _).mono ?_
      rintro e V5 ⟨rfl, hb7⟩
      replace d1 := (hb7.block _ l1).trans d1
      have d2 := (hb7.block _ l2).trans cRY
      have HSR := hide (sameRaws_same r2 lu tu su cu la ta sa ca V5 (HIX.out.below hb7 (Nat.le_refl _)) (HIY.out.below hb7 (Nat.le_refl _)))
      rw [HRX.out, HRY.out] at HSR
      replace hbb := bel_trans hbb hb7
      clear hb7
      generalize str RS = TS at *
      go_wp2_with (first | refine wpList_load_row_w (by rfl) 32 _ rfl _ rfl _ _ _ _ d1 Tryz.underlying32 rfl iRX ?_ | refine wpList_load_row_w (by rfl) 32 _ rfl _ rfl _ _ _ _ d2 Tryz.underlying32 rfl iRY ?_)
      refine (HSR.out).mono ?_
      rintro e V6 ⟨rfl, hb8⟩
      have HBF := hide (bel_trans hbb hb8)
      clear hbb hb8 d1 d2
      go_wp2
      go_ret
      exact ⟨rfl, HBF.out⟩
    · subst hrd
      obtain ⟨ZR, hZR⟩ : ∃ ZR : Array Value, rawZ = ZR := ⟨_, rfl⟩
      rw [show Ending.returned (.tuple #[.agg rawZ, .int .i64 1]) = Ending.returned (.tuple #[.agg ZR, .int .i64 1]) by rw [hZR]]
      have i1 : (Tryz.prog.info? 32).map (·.size) = some ZR.size := by rw [← hZR]; exact iz
      have i2 : (rawZ : Array Value).size = ZR.size := by rw [← hZR]
      have hos : ZR.all (·.oneCell') = true := by rw [← hZR]; simp [Value.oneCell']
      have HZR := hide hZR
      have z1 := al1 V3 (Obj.cells rawZ 32)
      have c1 := setRow_heap _ _ _ ZR _ _ z1
      have XZ := hide (below_setRow (g := V3.heap.size) (bel_alloc V3 (Obj.cells rawZ 32)) (Nat.le_refl _) ZR)
      have hbb := bel_trans hbc (bel_trans hb4 XZ.out)
      have lx := (Array.getElem?_eq_some_iff.1 c1).1
      clear hZR hb4 XZ
      go_upto_region 7 with (refine wpList_store_row rfl 32 _ _ rfl V3.heap.size ZR rfl rfl _ _ z1 i1 i2 hos ?_)
      clear z1
      generalize (V3.alloc (Obj.cells rawZ 32)).setRow V3.heap.size ZR = U3 at *
      generalize V3.heap.size = XB at *
      go_wp2_with fail
      refine (HRF.out _).mono ?_
      rintro e V4 ⟨hb5, hc⟩
      rcases hc with ⟨r2, la, ta, sa, ca, hrd, _, _, _, _, _, _⟩ | ⟨_, rfl⟩
      · cases hrd
      rw [show Ending.returned (.tuple #[.agg rawZ, .bool false]) = Ending.returned (.tuple #[.agg ZR, .bool false]) by rw [HZR.out]]
      have z1 := al1 V4 (Obj.cells rawZ 32)
      have c2 := setRow_heap _ _ _ ZR _ _ z1
      have XZ := hide (below_setRow (g := V4.heap.size) (bel_alloc V4 (Obj.cells rawZ 32)) (Nat.le_refl _) ZR)
      have hb6 := bel_trans hb5 XZ.out
      replace hbb := bel_trans hbb hb6
      have d1 := (hb6.block _ lx).trans c1
      clear hb5 hb6 XZ c1 lx
      go_upto_region 8 with (refine wpList_store_row rfl 32 _ _ rfl V4.heap.size ZR rfl rfl _ _ z1 i1 i2 hos ?_)
      clear z1
      generalize (V4.alloc (Obj.cells rawZ 32)).setRow V4.heap.size ZR = U4 at *
      generalize V4.heap.size = YB at *
      have l1 := (Array.getElem?_eq_some_iff.1 d1).1
      have l2 := (Array.getElem?_eq_some_iff.1 c2).1
      go_wp2_with fail
      refine (rawBegun_any _).mono ?_
      rintro e V5 ⟨rfl, hb7⟩
      replace d1 := (hb7.block _ l1).trans d1
      have d2 := (hb7.block _ l2).trans c2
      have HSR := hide (sameRaws_same zeroR (.slice none 0 0) (.slice none 0 0) (.slice none 0 0) (.slice none 0 0) (.slice none 0 0) (.slice none 0 0) (.slice none 0 0) (.slice none 0 0) V5 (zeroR_is V5) (zeroR_is V5))
      rw [show rawA zeroR (.slice none 0 0) (.slice none 0 0) (.slice none 0 0) (.slice none 0 0) = ZR from HZR.out] at HSR
      replace hbb := bel_trans hbb hb7
      clear hb7
      generalize str RS = TS at *
      go_wp2_with (first | refine wpList_load_row_w (by rfl) 32 _ rfl _ rfl _ _ _ _ d1 Tryz.underlying32 rfl i1 ?_ | refine wpList_load_row_w (by rfl) 32 _ rfl _ rfl _ _ _ _ d2 Tryz.underlying32 rfl i1 ?_)
      refine (HSR.out).mono ?_
      rintro e V6 ⟨rfl, hb8⟩
      have HBF := hide (bel_trans hbb hb8)
      clear hbb hb8 d1 d2
      go_wp2
      go_ret
      exact ⟨rfl, HBF.out⟩
end Go.Proofs.YtanebhbfekcplaaGreat
