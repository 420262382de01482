/- Cut: part 3 of what the proofs need. -/
import Derived.Test.YtolcndchfnifhacDoorC1Cut
import Derived.Test.YtolcndchfnifhacDoorC2Cut
import Derived.Deep.AppendLies
import Derived.Test.YtolcndchfnifhacDoorRows
import Derived.Lib.LaidTab
import Derived.ChangeArms
import Derived.OpenShut
import Derived.ProofKit
import Derived.ChangeSame
import Derived.DataReads
namespace Go.Proofs.YtolcndchfnifhacDoor
set_option linter.unusedVariables false
open Go.RowKit
theorem cutE_no {W H : Int} {ps : List Px} {rx ry rw rh : Int} (hp : picOk W H ps = true) (h : ¬ ((1 ≤ rw ∧ rw ≤ W) ∧ (1 ≤ rh ∧ rh ≤ H) ∧ (0 ≤ rx ∧ rx ≤ W - rw) ∧ (0 ≤ ry ∧ ry ≤ H - rh))) : cutE W H ps rx ry rw rh = 3 := by
  rw [cutE, if_pos hp, if_neg]
  intro hk
  refine h ?_
  have : ((1 ≤ rw ∧ rw ≤ W) ∧ (0 ≤ rx ∧ rx ≤ W - rw)) ∧ ((1 ≤ rh ∧ rh ≤ H) ∧ (0 ≤ ry ∧ ry ≤ H - rh)) := by simpa [liesB] using hk
  omega
theorem cutE_yes {W H : Int} {ps : List Px} {rx ry rw rh : Int} (hp : picOk W H ps = true) (h : (1 ≤ rw ∧ rw ≤ W) ∧ (1 ≤ rh ∧ rh ≤ H) ∧ (0 ≤ rx ∧ rx ≤ W - rw) ∧ (0 ≤ ry ∧ ry ≤ H - rh)) : cutE W H ps rx ry rw rh = 0 := by
  rw [cutE, if_pos hp, if_pos]
  simp [liesB]; omega
set_option maxRecDepth 100000 in
set_option maxHeartbeats 1600000 in
theorem cutError_any (W H : Int) (v : Value) (ps : List Px) (rx ry rw rh : Int) (w : World) (hv : IsPix w v ps) :
    Calls Tryd.prog 7 #[.agg #[.int .i64 W, .int .i64 H, v], .agg #[.int .i64 rx, .int .i64 ry, .int .i64 rw, .int .i64 rh]] w fun e w' => e = .returned (.int .i64 (cutE W H ps rx ry rw rh)) ∧ Below w.heap.size w w' := by
  have HV := hide hv
  obtain ⟨ao, ca, rfl, _, _⟩ := hv
  obtain ⟨a1, a2⟩ := al2 w (Obj.cells #[.int .i64 W, .int .i64 H, .slice ao ps.length ca] 24) (Obj.cells #[.int .i64 rx, .int .i64 ry, .int .i64 rw, .int .i64 rh] 26)
  have HB := hide (be2 w (Obj.cells #[.int .i64 W, .int .i64 H, .slice ao ps.length ca] 24) (Obj.cells #[.int .i64 rx, .int .i64 ry, .int .i64 rw, .int .i64 rh] 26))
  have HNO := hide (fun hp h => @cutE_no W H ps rx ry rw rh hp h)
  have HYES := hide (fun hp h => @cutE_yes W H ps rx ry rw rh hp h)
  have HF1 := hide (show ¬ picOk W H ps = true → cutE W H ps rx ry rw rh = 1 from fun h => by rw [cutE, if_neg h])
  obtain ⟨E, hE⟩ : ∃ E, cutE W H ps rx ry rw rh = E := ⟨_, rfl⟩
  rw [hE] at HNO HYES HF1 ⊢
  clear hE
  go_enter Tryd.func7, Tryd.ntmps7
  obtain ⟨p0, p1, p2⟩ := cells3 a1
  go_wp2_with fail
  clear p0 p1 p2
  have hl1 := (Array.getElem?_eq_some_iff.1 a1).1
  have hl2 := (Array.getElem?_eq_some_iff.1 a2).1
  generalize (w.alloc (Obj.cells #[.int .i64 W, .int .i64 H, .slice ao ps.length ca] 24)).alloc (Obj.cells #[.int .i64 rx, .int .i64 ry, .int .i64 rw, .int .i64 rh] 26) = U at *
  refine (pictureFine_any W H _ ps _ (HV.out.below HB.out (Nat.le_refl _))).mono ?_
  rintro e V2 ⟨rfl, hb2⟩
  have HB2 := hide (HB.out.trans (hb2.mono HB.out.size))
  by_cases hp : picOk W H ps = true
  · have HPL := hide hp
    rw [hp]
    obtain ⟨hW, hH, _, _⟩ := picOk_parts hp
    clear hp
    obtain ⟨p0, p1, p2⟩ := cells3 ((hb2.block _ hl1).trans a1)
    obtain ⟨q0, q1, q2, q3⟩ := cells4b (b := w.heap.size + 1) ((hb2.block _ hl2).trans a2)
    clear HF1 a1 a2 hl1 hl2 hb2
    by_cases k1 : 1 ≤ rw ∧ rw ≤ W
    case neg =>
      have d1 : decide (1 ≤ rw ∧ rw ≤ W) = false := decide_eq_false k1
      obtain rfl : E = 3 := HNO.out HPL.out (fun h => by omega)
      clear k1
      go_wp2_with (go_at_call 22; refine (within_any _ _ _ _).mono ?_; rintro e wx ⟨rfl, rfl⟩; first | rw [d1])
      go_ret
      exact ⟨rfl, HB2.out⟩
    have d1 : decide (1 ≤ rw ∧ rw ≤ W) = true := decide_eq_true k1
    obtain ⟨k1a, k1b⟩ := k1
    by_cases k2 : 1 ≤ rh ∧ rh ≤ H
    case neg =>
      have d2 : decide (1 ≤ rh ∧ rh ≤ H) = false := decide_eq_false k2
      obtain rfl : E = 3 := HNO.out HPL.out (fun h => by omega)
      clear k2
      go_wp2_with (go_at_call 22; refine (within_any _ _ _ _).mono ?_; rintro e wx ⟨rfl, rfl⟩; first | rw [d1] | rw [d2])
      go_ret
      exact ⟨rfl, HB2.out⟩
    have d2 : decide (1 ≤ rh ∧ rh ≤ H) = true := decide_eq_true k2
    obtain ⟨k2a, k2b⟩ := k2
    by_cases k3 : 0 ≤ rx ∧ rx ≤ W - rw
    case neg =>
      have d3 : decide (0 ≤ rx ∧ rx ≤ W - rw) = false := decide_eq_false k3
      obtain rfl : E = 3 := HNO.out HPL.out (fun h => by omega)
      clear k3
      go_wp2_with (go_at_call 22; refine (within_any _ _ _ _).mono ?_; rintro e wx ⟨rfl, rfl⟩; first | rw [d1] | rw [d2] | rw [d3])
      go_ret
      exact ⟨rfl, HB2.out⟩
    have d3 : decide (0 ≤ rx ∧ rx ≤ W - rw) = true := decide_eq_true k3
    obtain ⟨k3a, k3b⟩ := k3
    by_cases k4 : 0 ≤ ry ∧ ry ≤ H - rh
    case neg =>
      have d4 : decide (0 ≤ ry ∧ ry ≤ H - rh) = false := decide_eq_false k4
      obtain rfl : E = 3 := HNO.out HPL.out (fun h => by omega)
      clear k4
      go_wp2_with (go_at_call 22; refine (within_any _ _ _ _).mono ?_; rintro e wx ⟨rfl, rfl⟩; first | rw [d1] | rw [d2] | rw [d3] | rw [d4])
      go_ret
      exact ⟨rfl, HB2.out⟩
    have d4 : decide (0 ≤ ry ∧ ry ≤ H - rh) = true := decide_eq_true k4
    obtain ⟨k4a, k4b⟩ := k4
    obtain rfl : E = 0 := HYES.out HPL.out ⟨⟨k1a, k1b⟩, ⟨k2a, k2b⟩, ⟨k3a, k3b⟩, k4a, k4b⟩
    go_wp2_with (go_at_call 22; refine (within_any _ _ _ _).mono ?_; rintro e wx ⟨rfl, rfl⟩; first | rw [d1] | rw [d2] | rw [d3] | rw [d4])
    go_ret
    exact ⟨rfl, HB2.out⟩
  · obtain rfl : E = 1 := HF1.out hp
    have hp : picOk W H ps = false := by simpa using hp
    rw [hp]
    go_wp2
    go_ret
    exact ⟨rfl, HB2.out⟩
theorem pix_news {w : World} {b off : Nat} {ps : List Px} (hc : ∀ j, j < ps.length → w.cell? ⟨b, off + j * 3, none⟩ = some (.int .i64 (pxAt ps j).1) ∧ w.cell? ⟨b, off + j * 3 + 1, none⟩ = some (.int .i64 (pxAt ps j).2.1) ∧ w.cell? ⟨b, off + j * 3 + 2, none⟩ = some (.int .i64 (pxAt ps j).2.2)) :
    ∀ j u, (ps.flatMap pixL)[j]? = some u → w.cell? ((⟨b, off, none⟩ : Addr).add j) = some u := by
  intro j u hj
  rw [Addr.add_lit]
  have hj3 : j < ps.length * 3 := by rw [← flat_length]; exact (List.getElem?_eq_some_iff.1 hj).1
  obtain ⟨g0, g1, g2⟩ := flat_get ps (j / 3) (by omega)
  obtain ⟨d0, d1, d2⟩ := hc (j / 3) (by omega)
  rw [← pxAt_get ps (j / 3) (by omega)] at d0 d1 d2
  rcases (show j % 3 = 0 ∨ j % 3 = 1 ∨ j % 3 = 2 by omega) with h | h | h
  · have e : j = j / 3 * 3 := by omega
    rw [e] at hj ⊢
    rw [← Option.some.inj (g0.symm.trans hj)]; exact d0
  · have e : j = j / 3 * 3 + 1 := by omega
    rw [e] at hj ⊢
    rw [← Option.some.inj (g1.symm.trans hj), ← Nat.add_assoc]; exact d1
  · have e : j = j / 3 * 3 + 2 := by omega
    rw [e] at hj ⊢
    rw [← Option.some.inj (g2.symm.trans hj), ← Nat.add_assoc]; exact d2
theorem pix_ones (ps : List Px) : ∀ u ∈ ps.flatMap pixL, u.oneCell' = true := by
  intro u hu
  obtain ⟨p, _, hu⟩ := List.mem_flatMap.1 hu
  simp only [pixL, List.mem_cons, List.not_mem_nil, or_false] at hu
  rcases hu with rfl | rfl | rfl <;> rfl
theorem cutL_length (W : Nat) (ps : List Px) (RX RY RW RH : Nat) : (cutL W ps RX RY RW RH).length = RH * RW := by simp [cutL]
theorem cut_row {W H : Nat} {ps : List Px} {RX RY RW RH t : Nat} (hl : ps.length = H * W) (hx : RX + RW ≤ W) (hy : RY + RH ≤ H) (ht : t < RH) :
    (cutL W ps RX RY RW RH).take (t * RW + RW) = (cutL W ps RX RY RW RH).take (t * RW) ++ (ps.drop ((RY + t) * W + RX)).take RW := by
  rw [List.take_add]
  congr 1
  have h1 : (RY + t + 1) * W ≤ ps.length := by rw [hl]; exact Nat.mul_le_mul_right _ (by omega)
  rw [Nat.add_mul, Nat.one_mul] at h1
  have h2 : (t + 1) * RW ≤ RH * RW := Nat.mul_le_mul_right _ ht
  rw [Nat.add_mul, Nat.one_mul] at h2
  refine List.ext_getElem? fun i => ?_
  by_cases hi : i < RW
  · rw [List.getElem?_take_of_lt hi, List.getElem?_take_of_lt hi, List.getElem?_drop, List.getElem?_drop]
    unfold cutL
    rw [List.getElem?_map, List.getElem?_range (by omega)]
    have e1 : (t * RW + i) / RW = t := by rw [Nat.add_comm, Nat.add_mul_div_right _ _ (by omega), Nat.div_eq_of_lt hi, Nat.zero_add]
    have e2 : (t * RW + i) % RW = i := by rw [Nat.add_comm, Nat.add_mul_mod_self_right, Nat.mod_eq_of_lt hi]
    simp only [cutP, Option.map_some, e1, e2]
    unfold pxAt
    rw [List.getD_eq_getElem?_getD, ← Nat.add_assoc, List.getElem?_eq_getElem (by omega)]
    rfl
  · rw [List.getElem?_eq_none (by rw [List.length_take]; omega), List.getElem?_eq_none (by rw [List.length_take]; omega)]
def CuJ (w : World) (W H RX RY RW RH : Nat) (qv : Value) (L : List Px) (k : Nat) (wr : World) : Prop :=
  ∃ so scap, wr.heap[w.heap.size + 3]? = some (.cells #[.int .i64 RW, .int .i64 RH, .slice so k scap] 24 (0, 0)) ∧ wr.ownsRow w.heap.size 51 3 (.slice so k scap) k ((L.take k).flatMap pixL) ∧ wr.heap[w.heap.size]? = some (.cells #[.int .i64 W, .int .i64 H, qv] 24 (0, 0)) ∧ wr.heap[w.heap.size + 2]? = some (.cells #[.int .i64 0, .int .i64 0, .slice none 0 0] 24 (0, 0)) ∧ wr.heap[w.heap.size + 1]? = some (.cells #[.int .i64 RX, .int .i64 RY, .int .i64 RW, .int .i64 RH] 26 (0, 0)) ∧ Below w.heap.size w wr
set_option maxRecDepth 100000 in
set_option maxHeartbeats 6400000 in
theorem cutOf_any (W H RX RY RW RH : Nat) (hW : W ≤ 64) (hH : H ≤ 64) (hw1 : 1 ≤ RW) (hx : RX + RW ≤ W) (hy : RY + RH ≤ H) (hh1 : 1 ≤ RH) (v : Value) (ps : List Px) (hlen : ps.length = H * W) (w : World) (hv : IsPix w v ps) (hroom : roomy v) :
    Calls Tryd.prog 8 #[.agg #[.int .i64 W, .int .i64 H, v], .agg #[.int .i64 RX, .int .i64 RY, .int .i64 RW, .int .i64 RH]] w fun e w' => ∃ r, e = .returned (.agg #[.int .i64 RW, .int .i64 RH, r]) ∧ IsPix w' r (cutL W ps RX RY RW RH) ∧ Below w.heap.size w w' ∧ Fresh w.heap.size r := by
  have hlb : ps.length ≤ 4096 := by rw [hlen]; exact Nat.le_trans (Nat.mul_le_mul hH hW) (by decide)
  have HLL := hide (cutL_length W ps RX RY RW RH)
  have HROW := hide (fun t ht => @cut_row W H ps RX RY RW RH t hlen hx hy ht)
  have HIN := hide (show ∀ t, t < RH → ((RY + t) * W + RX) + RW ≤ ps.length from fun t ht => by
    have h1 : (RY + t + 1) * W ≤ ps.length := by rw [hlen]; exact Nat.mul_le_mul_right _ (by omega)
    rw [Nat.add_mul, Nat.one_mul] at h1
    omega)
  have hTT : RH * RW ≤ 4096 := Nat.le_trans (Nat.mul_le_mul (show RH ≤ 64 by omega) (show RW ≤ 64 by omega)) (by decide)
  generalize cutL W ps RX RY RW RH = L at *
  have hpos : 1 ≤ ps.length := by rw [hlen]; exact Nat.mul_le_mul (show 1 ≤ H by omega) (show 1 ≤ W by omega)
  obtain ⟨ao, ca, rfl, hla, hc⟩ := hv
  replace hroom : ps.length ≤ ca := hroom
  obtain ⟨bk, off, rfl, hbl, hcell⟩ : ∃ b off, ao = some ⟨b, off, none⟩ ∧ b < w.heap.size ∧ ∀ j (h : j < ps.length), w.cell? ⟨b, off + j * 3, none⟩ = some (.int .i64 ps[j].1) ∧ w.cell? ⟨b, off + j * 3 + 1, none⟩ = some (.int .i64 ps[j].2.1) ∧ w.cell? ⟨b, off + j * 3 + 2, none⟩ = some (.int .i64 ps[j].2.2) := by
    rcases hc with h | h
    · rw [h] at hpos; simp at hpos
    · exact h
  have HCE := hide (show ∀ j, j < ps.length → w.cell? ⟨bk, off + j * 3, none⟩ = some (.int .i64 (pxAt ps j).1) ∧ w.cell? ⟨bk, off + j * 3 + 1, none⟩ = some (.int .i64 (pxAt ps j).2.1) ∧ w.cell? ⟨bk, off + j * 3 + 2, none⟩ = some (.int .i64 (pxAt ps j).2.2) from fun j hj => by
    have h := hcell j hj
    rw [pxAt_get ps j hj] at h
    exact h)
  clear hcell hlen hc
  obtain ⟨i0, hi, hz0, hz1, hz2⟩ := info_parts Tryd.infoPixel
  go_enter Tryd.func8, Tryd.ntmps8
  go_wp2_with fail
  obtain ⟨a1, a2, a3, a4⟩ := al4 w (Obj.cells #[.int .i64 W, .int .i64 H, .slice (some ⟨bk, off, none⟩) ps.length ca] 24) (Obj.cells #[.int .i64 RX, .int .i64 RY, .int .i64 RW, .int .i64 RH] 26) (Obj.cells #[.int .i64 0, .int .i64 0, .slice none 0 0] 24) (Obj.cells #[.int .i64 RW, .int .i64 RH, .slice none 0 0] 24)
  have hB := be4 w (Obj.cells #[.int .i64 W, .int .i64 H, .slice (some ⟨bk, off, none⟩) ps.length ca] 24) (Obj.cells #[.int .i64 RX, .int .i64 RY, .int .i64 RW, .int .i64 RH] 26) (Obj.cells #[.int .i64 0, .int .i64 0, .slice none 0 0] 24) (Obj.cells #[.int .i64 RW, .int .i64 RH, .slice none 0 0] 24)
  generalize (((w.alloc (Obj.cells #[.int .i64 W, .int .i64 H, .slice (some ⟨bk, off, none⟩) ps.length ca] 24)).alloc (Obj.cells #[.int .i64 RX, .int .i64 RY, .int .i64 RW, .int .i64 RH] 26)).alloc (Obj.cells #[.int .i64 0, .int .i64 0, .slice none 0 0] 24)).alloc (Obj.cells #[.int .i64 RW, .int .i64 RH, .slice none 0 0] 24) = U at *
  go_loopw [6] (fun i wr => ∃ t : Nat, t ≤ RH ∧ i = .int .i64 ((RY : Int) + t) ∧ CuJ w W H RX RY RW RH (.slice (some ⟨bk, off, none⟩) ps.length ca) L (t * RW) wr) (fun i _ => RY + RH - (intOf i).toNat)
  case atStart => exact ⟨0, Nat.zero_le _, by simp, none, 0, by rw [Nat.zero_mul]; exact a4, by rw [Nat.zero_mul]; exact World.ownsRow_nil _ _ _ _, a1, a3, a2, hB⟩
  case round =>
    clear a1 a2 a3 a4 hB
    obtain ⟨t, ht, rfl, hJ⟩ := hrel
    obtain ⟨so, scap, j1, j2, j3, j4, j6, j5⟩ := hJ
    obtain ⟨r0, r1, r2, r3⟩ := cells4b (b := w.heap.size + 1) j6
    by_cases hlt : t < RH
    · have hd : decide ((RY : Int) + (t : Int) < (RY : Int) + (RH : Int)) = true := decide_eq_true (by omega)
      have hin := HIN.out t hlt
      have hrow := HROW.out t hlt
      obtain ⟨k, hk⟩ : ∃ k, t * RW = k := ⟨_, rfl⟩
      have hkl : k + RW ≤ 4096 := by
        have h2 : (t + 1) * RW ≤ RH * RW := Nat.mul_le_mul_right _ hlt
        rw [Nat.add_mul, Nat.one_mul, hk] at h2; omega
      rw [hk] at j1 j2 hrow
      have HK := hide hk
      obtain ⟨Y, hYd⟩ : ∃ Y, RY + t = Y := ⟨_, rfl⟩
      have hY : (RY : Int) + (t : Int) = (Y : Int) := by omega
      rw [hYd] at hin hrow
      obtain ⟨Q, hQ⟩ : ∃ Q, Y * W = Q := ⟨_, rfl⟩
      have m1 : (Y : Int) * (W : Int) = (Q : Int) := by rw [← hQ]; simp
      rw [hQ] at hin hrow
      obtain ⟨A, hA⟩ : ∃ A, Q + RX = A := ⟨_, rfl⟩
      have m2 : (Q : Int) + (RX : Int) = (A : Int) := by omega
      rw [hA] at hin hrow
      obtain ⟨B, hBd⟩ : ∃ B, A + RW = B := ⟨_, rfl⟩
      have m3 : (A : Int) + (RW : Int) = (B : Int) := by omega
      have m4 : IntKind.i64.wrap (Q : Int) = (Q : Int) := IntWalk.i64_in _ (by omega)
      have m5 : IntKind.i64.wrap (A : Int) = (A : Int) := IntWalk.i64_in _ (by omega)
      have m6 : IntKind.i64.wrap (B : Int) = (B : Int) := IntWalk.i64_in _ (by omega)
      have g1 : (A : Int) ≤ (B : Int) := by omega
      have g2 : (B : Int) ≤ (ca : Int) := by omega
      have g3 : ¬ (ca = A) := by omega
      have g4 : A ≤ B := by omega
      have hBA : B - A = RW := by omega
      have HROW2 := hide hrow
      obtain ⟨XS, hXS⟩ : ∃ XS, (L.take k).flatMap pixL = XS := ⟨_, rfl⟩
      obtain ⟨NS, hNS⟩ : ∃ NS, (ps.drop A).take RW = NS := ⟨_, rfl⟩
      have hNL : NS.length = RW := by rw [← hNS, List.length_take, List.length_drop]; omega
      have HST := hide (show (L.take (k + RW)).flatMap pixL = XS ++ NS.flatMap pixL by rw [HROW2.out, List.flatMap_append, hXS, hNS])
      have HNC := hide (show ∀ j, j < NS.length → w.cell? ⟨bk, off + A * 3 + j * 3, none⟩ = some (.int .i64 (pxAt NS j).1) ∧ w.cell? ⟨bk, off + A * 3 + j * 3 + 1, none⟩ = some (.int .i64 (pxAt NS j).2.1) ∧ w.cell? ⟨bk, off + A * 3 + j * 3 + 2, none⟩ = some (.int .i64 (pxAt NS j).2.2) from fun j hj => by
        rw [hNL] at hj
        have h := HCE.out (A + j) (by omega)
        have e : pxAt NS j = pxAt ps (A + j) := by
          rw [← hNS]; unfold pxAt; rw [List.getD_eq_getElem?_getD, List.getD_eq_getElem?_getD, List.getElem?_take_of_lt hj, List.getElem?_drop]
        rw [e, show off + A * 3 + j * 3 = off + (A + j) * 3 by omega]
        exact h)
      rw [hXS] at j2
      have hbW := j5.size
      have HL1 := hide (show k + RW ≤ maxLen by unfold maxLen; omega)
      have HL2 := hide (show (k + RW) * 24 ≤ 140737488355328 by omega)
      have nq := own_ne j2 j3 (by decide)
      have nz := own_ne j2 j4 (by decide)
      have nr := own_ne j2 j6 (by decide)
      have l3 := (Array.getElem?_eq_some_iff.1 j3).1
      have l4 := (Array.getElem?_eq_some_iff.1 j4).1
      have l6 := (Array.getElem?_eq_some_iff.1 j6).1
      go_upto_region 5 with fail
      clear hk hYd hQ hA hBd hXS hNS hin hrow r0 r1 r2 r3 hd
      have HS := hide (show ∀ v, Below wr.heap.size wr v → v.cell? ⟨w.heap.size + 1 + 1 + 1, 2, none⟩ = some (.slice so k scap) ∧ v.cell? ⟨w.heap.size, 0, none⟩ = some (.int .i64 W) ∧ v.cell? ⟨w.heap.size, 2, none⟩ = some (.slice (some ⟨bk, off, none⟩) ps.length ca) ∧ v.cell? ⟨w.heap.size + 1, 0, none⟩ = some (.int .i64 RX) ∧ v.cell? ⟨w.heap.size + 1, 2, none⟩ = some (.int .i64 RW) from fun v h => by
        obtain ⟨_, _, t2⟩ := cells3 ((h.block (w.heap.size + 3) (Array.getElem?_eq_some_iff.1 j1).1).trans j1)
        obtain ⟨u0, _, u2⟩ := cells3 ((h.block _ l3).trans j3)
        obtain ⟨x0, _, x2, _⟩ := cells4b (b := w.heap.size + 1) ((h.block _ l6).trans j6)
        exact ⟨t2, u0, u2, x0, x2⟩)
      have HTL := hide (show ∀ (V1 : World) (gg cap : Nat) (w3 : World), Below wr.heap.size wr V1 → V1.grownBy w3 (Value.slice so k scap).ownBlock → w3.ownsRow w.heap.size 51 3 (.slice (some ⟨gg, 0, none⟩) (k + RW) cap) (k + RW) (XS ++ NS.flatMap pixL) → (w3.cell? ⟨w.heap.size + 1 + 1 + 1, 2, none⟩ = some (.slice so k scap) ∧ w3.cell? ⟨w.heap.size, 0, none⟩ = some (.int .i64 W) ∧ w3.cell? ⟨w.heap.size, 2, none⟩ = some (.slice (some ⟨bk, off, none⟩) ps.length ca) ∧ w3.cell? ⟨w.heap.size + 1, 0, none⟩ = some (.int .i64 RX) ∧ w3.cell? ⟨w.heap.size + 1, 2, none⟩ = some (.int .i64 RW)) ∧ w3.frozen? ⟨w.heap.size + 1 + 1 + 1, 2, none⟩ = false ∧ CuJ w W H RX RY RW RH (.slice (some ⟨bk, off, none⟩) ps.length ca) L (k + RW) (w3.setCell ⟨w.heap.size + 1 + 1 + 1, 2, none⟩ (.slice (some ⟨gg, 0, none⟩) (k + RW) cap)) from fun V1 gg cap w3 h1 h2 h3 => by
        obtain ⟨t1, t2, t3, t4, t5, t6, t7⟩ := app_gen (by decide) j1 j2 j5 (Nat.le_refl _) (by omega) h1 h2 h3
        obtain ⟨u0, _, u2⟩ := cells3 ((t1 _ l3 nq).trans j3)
        obtain ⟨x0, _, x2, _⟩ := cells4b (b := w.heap.size + 1) ((t1 _ l6 nr).trans j6)
        exact ⟨⟨t2, u0, u2, x0, x2⟩, t3, some ⟨gg, 0, none⟩, cap, t4, by rw [HST.out]; exact t5, (t7 _ l3 nq (by omega)).trans j3, (t7 _ l4 nz (by omega)).trans j4, (t7 _ l6 nr (by omega)).trans j6, t6⟩)
      have hWd : Below wr.heap.size wr wr.drew := (Below.refl _ _).drew
      have hSd := HS.out _ hWd
      have HWW := hide (j5.trans (hWd.mono j5.size))
      clear j1 j3 j4 j6
      have hmx : Tryd.prog.follows .mixedOrders = true := by kernel_rfl
      refine wp_region_last (S := fun v : World => v.cell? ⟨w.heap.size + 1 + 1 + 1, 2, none⟩ = some (.slice so k scap) ∧ v.cell? ⟨w.heap.size, 0, none⟩ = some (.int .i64 W) ∧ v.cell? ⟨w.heap.size, 2, none⟩ = some (.slice (some ⟨bk, off, none⟩) ps.length ca) ∧ v.cell? ⟨w.heap.size + 1, 0, none⟩ = some (.int .i64 RX) ∧ v.cell? ⟨w.heap.size + 1, 2, none⟩ = some (.int .i64 RW)) (f := 24) hmx ?_
      show wpAnyF _ _ _ _ _ _ 25 _ _ wr.drew
      refine wpAnyF_takeP (i := 0) (oi := _) (v := ?vv1) (some 23) [] rfl rfl (by kernel_rfl) (by kernel_rfl) (by kernel_rfl) (by kernel_rfl) (by kernel_rfl) (fun _ _ _ h => h) (Or.inl ⟨by rfl, ?yy1⟩) hSd ?rr1
      case yy1 => (intro wq hSq; obtain ⟨_, _, _, _, _⟩ := hSq; go_simp <;> with_reducible rfl)
      simp only [Act.put, List.setIfInBounds_toArray, List.set_cons_succ, List.set_cons_zero]
      refine wpAnyF_takeP (i := 2) (oi := _) (v := ?vv2) (some 25) [] rfl rfl (by kernel_rfl) (by kernel_rfl) (by kernel_rfl) (by kernel_rfl) (by kernel_rfl) (fun _ _ _ h => h) (Or.inl ⟨by rfl, ?yy2⟩) hSd ?rr2
      case yy2 => (intro wq hSq; obtain ⟨_, _, _, _, _⟩ := hSq; go_simp <;> with_reducible rfl)
      simp only [Act.put, List.setIfInBounds_toArray, List.set_cons_succ, List.set_cons_zero]
      refine wpAnyF_takeP (i := 4) (oi := _) (v := ?vv3) (some 27) [] rfl rfl (by kernel_rfl) (by kernel_rfl) (by kernel_rfl) (by kernel_rfl) (by kernel_rfl) (fun _ _ _ h => h) (Or.inl ⟨by rfl, ?yy3⟩) hSd ?rr3
      case yy3 => (intro wq hSq; obtain ⟨_, _, _, _, _⟩ := hSq; go_simp <;> with_reducible rfl)
      simp only [Act.put, List.setIfInBounds_toArray, List.set_cons_succ, List.set_cons_zero]
      refine wpAnyF_takeP (i := 5) (oi := _) (v := ?vv4) (some 28) [] rfl rfl (by kernel_rfl) (by kernel_rfl) (by kernel_rfl) (by kernel_rfl) (by kernel_rfl) (fun _ _ _ h => h) (Or.inl ⟨by rfl, ?yy4⟩) hSd ?rr4
      case yy4 => (intro wq hSq; obtain ⟨_, _, _, _, _⟩ := hSq; go_simp <;> with_reducible rfl)
      simp only [Act.put, List.setIfInBounds_toArray, List.set_cons_succ, List.set_cons_zero]
      refine wpAnyF_takeP (i := 8) (oi := _) (v := ?vv5) (some 31) [] rfl rfl (by kernel_rfl) (by kernel_rfl) (by kernel_rfl) (by kernel_rfl) (by kernel_rfl) (fun _ _ _ h => h) (Or.inl ⟨by rfl, ?yy5⟩) hSd ?rr5
      case yy5 => (intro wq hSq; obtain ⟨_, _, _, _, _⟩ := hSq; go_simp <;> with_reducible rfl)
      simp only [Act.put, List.setIfInBounds_toArray, List.set_cons_succ, List.set_cons_zero]
      refine wpAnyF_takeP (i := 11) (oi := _) (v := ?vv6) (some 34) [] rfl rfl (by kernel_rfl) (by kernel_rfl) (by kernel_rfl) (by kernel_rfl) (by kernel_rfl) (fun _ _ _ h => h) (Or.inl ⟨by rfl, ?yy6⟩) hSd ?rr6
      case yy6 => (intro wq hSq; obtain ⟨_, _, _, _, _⟩ := hSq; go_simp <;> with_reducible rfl)
      simp only [Act.put, List.setIfInBounds_toArray, List.set_cons_succ, List.set_cons_zero]
      refine wpAnyF_takeP (i := 12) (oi := _) (v := ?vv7) (some 35) [] rfl rfl (by kernel_rfl) (by kernel_rfl) (by kernel_rfl) (by kernel_rfl) (by kernel_rfl) (fun _ _ _ h => h) (Or.inl ⟨by rfl, ?yy7⟩) hSd ?rr7
      case yy7 => (intro wq hSq; obtain ⟨_, _, _, _, _⟩ := hSq; go_simp <;> with_reducible rfl)
      simp only [Act.put, List.setIfInBounds_toArray, List.set_cons_succ, List.set_cons_zero]
      refine wpAnyF_takeP (i := 15) (oi := _) (v := ?vv8) (some 38) [] rfl rfl (by kernel_rfl) (by kernel_rfl) (by kernel_rfl) (by kernel_rfl) (by kernel_rfl) (fun _ _ _ h => h) (Or.inl ⟨by rfl, ?yy8⟩) hSd ?rr8
      case yy8 => (intro wq hSq; obtain ⟨_, _, _, _, _⟩ := hSq; go_simp <;> with_reducible rfl)
      simp only [Act.put, List.setIfInBounds_toArray, List.set_cons_succ, List.set_cons_zero]
      refine wpAnyF_takeP (i := 18) (oi := _) (v := ?vv9) (some 41) [] rfl rfl (by kernel_rfl) (by kernel_rfl) (by kernel_rfl) (by kernel_rfl) (by kernel_rfl) (fun _ _ _ h => h) (Or.inl ⟨by rfl, ?yy9⟩) hSd ?rr9
      case yy9 => (intro wq hSq; obtain ⟨_, _, _, _, _⟩ := hSq; go_simp <;> with_reducible rfl)
      simp only [Act.put, List.setIfInBounds_toArray, List.set_cons_succ, List.set_cons_zero]
      refine wpAnyF_takeP (i := 1) (oi := _) (v := ?vv10) (some 24) [] rfl rfl (by kernel_rfl) (by kernel_rfl) (by kernel_rfl) (by kernel_rfl) (by kernel_rfl) (fun _ _ _ h => h) (Or.inl ⟨by rfl, ?yy10⟩) hSd ?rr10
      case yy10 => (intro wq hSq; obtain ⟨_, _, _, _, _⟩ := hSq; go_simp <;> with_reducible rfl)
      simp only [Act.put, List.setIfInBounds_toArray, List.set_cons_succ, List.set_cons_zero]
      refine wpAnyF_takeP (i := 3) (oi := _) (v := ?vv11) (some 26) [] rfl rfl (by kernel_rfl) (by kernel_rfl) (by kernel_rfl) (by kernel_rfl) (by kernel_rfl) (fun _ _ _ h => h) (Or.inl ⟨by rfl, ?yy11⟩) hSd ?rr11
      case yy11 => (intro wq hSq; obtain ⟨_, _, _, _, _⟩ := hSq; go_simp <;> with_reducible rfl)
      simp only [Act.put, List.setIfInBounds_toArray, List.set_cons_succ, List.set_cons_zero]
      refine wpAnyF_takeP (i := 6) (oi := _) (v := ?vv12) (some 29) [] rfl rfl (by kernel_rfl) (by kernel_rfl) (by kernel_rfl) (by kernel_rfl) (by kernel_rfl) (fun _ _ _ h => h) (Or.inl ⟨by rfl, ?yy12⟩) hSd ?rr12
      case yy12 => (intro wq hSq; obtain ⟨_, _, _, _, _⟩ := hSq; go_simp <;> with_reducible rfl)
      simp only [Act.put, List.setIfInBounds_toArray, List.set_cons_succ, List.set_cons_zero]
      refine wpAnyF_takeP (i := 9) (oi := _) (v := ?vv13) (some 32) [] rfl rfl (by kernel_rfl) (by kernel_rfl) (by kernel_rfl) (by kernel_rfl) (by kernel_rfl) (fun _ _ _ h => h) (Or.inl ⟨by rfl, ?yy13⟩) hSd ?rr13
      case yy13 => (intro wq hSq; obtain ⟨_, _, _, _, _⟩ := hSq; go_simp <;> with_reducible rfl)
      simp only [Act.put, List.setIfInBounds_toArray, List.set_cons_succ, List.set_cons_zero]
      refine wpAnyF_takeP (i := 13) (oi := _) (v := ?vv14) (some 36) [] rfl rfl (by kernel_rfl) (by kernel_rfl) (by kernel_rfl) (by kernel_rfl) (by kernel_rfl) (fun _ _ _ h => h) (Or.inl ⟨by rfl, ?yy14⟩) hSd ?rr14
      case yy14 => (intro wq hSq; obtain ⟨_, _, _, _, _⟩ := hSq; go_simp <;> with_reducible rfl)
      simp only [Act.put, List.setIfInBounds_toArray, List.set_cons_succ, List.set_cons_zero]
      refine wpAnyF_takeP (i := 16) (oi := _) (v := ?vv15) (some 39) [] rfl rfl (by kernel_rfl) (by kernel_rfl) (by kernel_rfl) (by kernel_rfl) (by kernel_rfl) (fun _ _ _ h => h) (Or.inl ⟨by rfl, ?yy15⟩) hSd ?rr15
      case yy15 => (intro wq hSq; obtain ⟨_, _, _, _, _⟩ := hSq; go_simp <;> with_reducible rfl)
      simp only [Act.put, List.setIfInBounds_toArray, List.set_cons_succ, List.set_cons_zero]
      refine wpAnyF_takeP (i := 19) (oi := _) (v := ?vv16) (some 42) [] rfl rfl (by kernel_rfl) (by kernel_rfl) (by kernel_rfl) (by kernel_rfl) (by kernel_rfl) (fun _ _ _ h => h) (Or.inl ⟨by rfl, ?yy16⟩) hSd ?rr16
      case yy16 => (intro wq hSq; obtain ⟨_, _, _, _, _⟩ := hSq; go_simp <;> with_reducible rfl)
      simp only [Act.put, List.setIfInBounds_toArray, List.set_cons_succ, List.set_cons_zero]
      refine wpAnyF_takeP (i := 7) (oi := _) (v := ?vv17) (some 30) [] rfl rfl (by kernel_rfl) (by kernel_rfl) (by kernel_rfl) (by kernel_rfl) (by kernel_rfl) (fun _ _ _ h => h) (Or.inl ⟨by rfl, ?yy17⟩) hSd ?rr17
      case yy17 => (intro wq hSq; obtain ⟨_, _, _, _, _⟩ := hSq; go_simp <;> with_reducible rfl)
      simp only [Act.put, List.setIfInBounds_toArray, List.set_cons_succ, List.set_cons_zero]
      refine wpAnyF_takeP (i := 14) (oi := _) (v := ?vv18) (some 37) [] rfl rfl (by kernel_rfl) (by kernel_rfl) (by kernel_rfl) (by kernel_rfl) (by kernel_rfl) (fun _ _ _ h => h) (Or.inl ⟨by rfl, ?yy18⟩) hSd ?rr18
      case yy18 => (intro wq hSq; obtain ⟨_, _, _, _, _⟩ := hSq; go_simp <;> with_reducible rfl)
      simp only [Act.put, List.setIfInBounds_toArray, List.set_cons_succ, List.set_cons_zero]
      refine wpAnyF_takeP (i := 10) (oi := _) (v := ?vv19) (some 33) [] rfl rfl (by kernel_rfl) (by kernel_rfl) (by kernel_rfl) (by kernel_rfl) (by kernel_rfl) (fun _ _ _ h => h) (Or.inl ⟨by rfl, ?yy19⟩) hSd ?rr19
      case yy19 => (intro wq hSq; obtain ⟨_, _, _, _, _⟩ := hSq; go_simp <;> with_reducible rfl)
      simp only [Act.put, List.setIfInBounds_toArray, List.set_cons_succ, List.set_cons_zero]
      refine wpAnyF_takeP (i := 17) (oi := _) (v := ?vv20) (some 40) [] rfl rfl (by kernel_rfl) (by kernel_rfl) (by kernel_rfl) (by kernel_rfl) (by kernel_rfl) (fun _ _ _ h => h) (Or.inl ⟨by rfl, ?yy20⟩) hSd ?rr20
      case yy20 => (intro wq hSq; obtain ⟨_, _, _, _, _⟩ := hSq; go_simp <;> with_reducible rfl)
      simp only [Act.put, List.setIfInBounds_toArray, List.set_cons_succ, List.set_cons_zero]
      refine wpAnyF_takeP (i := 20) (oi := _) (v := ?vv21) (some 43) [] rfl rfl (by kernel_rfl) (by kernel_rfl) (by kernel_rfl) (by kernel_rfl) (by kernel_rfl) (fun _ _ _ h => h) (Or.inl ⟨by rfl, ?yy21⟩) hSd ?rr21
      case yy21 => (intro wq hSq; obtain ⟨_, _, _, _, _⟩ := hSq; go_simp <;> with_reducible rfl)
      simp only [Act.put, List.setIfInBounds_toArray, List.set_cons_succ, List.set_cons_zero]
      refine wpAnyF_takeP (i := 21) (oi := _) (v := ?vv22) (some 44) [] rfl rfl (by kernel_rfl) (by kernel_rfl) (by kernel_rfl) (by kernel_rfl) (by kernel_rfl) (fun _ _ _ h => h) (Or.inl ⟨by rfl, ?yy22⟩) hSd ?rr22
      case yy22 => (intro wq hSq; obtain ⟨_, _, _, _, _⟩ := hSq; go_simp <;> with_reducible rfl)
      simp only [Act.put, List.setIfInBounds_toArray, List.set_cons_succ, List.set_cons_zero]
      refine wpAnyF_one (i := 22) (o := _) (by kernel_rfl) rfl (fun K' hK => ?_)
      refine step_append_lies _ rfl _ _ 22 rfl w.heap.size 51 i0 pixZ 3 24 Tryd.underlying22 hi hz0 hz1 hz2 rfl (by decide) (.slice so k scap) k XS rfl j2.drew ⟨bk, off + A * 3, none⟩ RW (ca - A) (NS.flatMap pixL) (by first | rfl | (rw [hBA]; rfl)) (by rw [flat_length, hNL]) (pix_news (w := wr.drew) (fun j hj => by obtain ⟨x, y, z⟩ := HNC.out j hj; exact ⟨(HWW.out.cell (p := ⟨bk, off + A * 3 + j * 3, none⟩) hbl).trans x, (HWW.out.cell (p := ⟨bk, off + A * 3 + j * 3 + 1, none⟩) hbl).trans y, (HWW.out.cell (p := ⟨bk, off + A * 3 + j * 3 + 2, none⟩) hbl).trans z⟩)) (pix_ones NS) (by omega) HL1.out HL2.out (Nat.le_trans hbW hWd.size) _ rfl ?_
      intro gg cap w3 hown hgrow hat hltg
      obtain ⟨hSx, p2f, HFIN⟩ := HTL.out _ gg cap w3 hWd hgrow hown
      have hSd := hSx
      refine hK.out _ _ hSd ?_
      clear hK
      try simp only [Act.put]
      refine wpAnyF_takeP (i := 23) (oi := _) (v := ?vv23) (some 46) [] rfl rfl (by kernel_rfl) (by kernel_rfl) (by kernel_rfl) (by kernel_rfl) (by kernel_rfl) (fun _ _ _ h => h) (Or.inl ⟨by rfl, ?yy23⟩) hSd ?rr23
      case yy23 => (intro wq hSq; obtain ⟨_, _, _, _, _⟩ := hSq; go_simp <;> with_reducible rfl)
      try simp only [Act.put]
      refine wpAnyF_last (o := _) (by kernel_rfl) rfl (fun K' hK => ?_)
      rw [if_pos (by rfl)]
      go_simp
      refine hK.out _ _ ?_
      clear hK
      refine wpAnyF_done (by kernel_rfl) ?_ _
      try simp only [Act.put]
      go_wp2
      go_roundw
      case rel => exact ⟨t + 1, by omega, congrArg (Value.int .i64) (by omega), by rw [Nat.succ_mul, HK.out]; exact HFIN⟩
      case measure => simp [intOf]; omega
    · have hd : decide ((RY : Int) + (t : Int) < (RY : Int) + (RH : Int)) = false := decide_eq_false (by omega)
      obtain rfl : t = RH := by omega
      rw [List.take_of_length_le (by rw [HLL.out]; exact Nat.le_refl _)] at j2
      obtain ⟨p0, p1, p2⟩ := cells3 (b := w.heap.size + 1 + 1 + 1) j1
      obtain ⟨z0, z1, z2⟩ := cells3 (b := w.heap.size + 1 + 1) j4
      have f0 := Lib.frozen_of_heap (b := w.heap.size + 1 + 1) j4 0
      have f1 := Lib.frozen_of_heap (b := w.heap.size + 1 + 1) j4 1
      have f2 := Lib.frozen_of_heap (b := w.heap.size + 1 + 1) j4 2
      have HFI := hide (set3_below j5 (show w.heap.size ≤ w.heap.size + 1 + 1 by omega) (.int .i64 (RW : Nat)) (.int .i64 (t : Nat)) (.slice so (t * RW) scap))
      have hpx : IsPix wr (.slice so (t * RW) scap) L := IsPix.own (base := w.heap.size) (ps := L) (v := .slice so (t * RW) scap) (by rw [HLL.out]; exact j2) (by rw [HLL.out]; omega)
      have hne : (Value.slice so (t * RW) scap).ownBlock ≠ some (w.heap.size + 1 + 1) := fun e => own_ne j2 j4 (by decide) e.symm
      have HX := hide (hpx.other (set3_size wr (w.heap.size + 1 + 1) (.int .i64 (RW : Nat)) (.int .i64 (t : Nat)) (.slice so (t * RW) scap)) (fun b hb => set3_heap _ _ _ _ _ b hb) hne)
      have HF := hide (Fresh.own j2)
      clear hpx hne
      go_wp2
      exact bodyPost_ret (v := .agg #[.int .i64 (RW : Nat), .int .i64 (t : Nat), .slice so (t * RW) scap]) (by simp [results, Tryd.results8, go_sem, z0, z1, z2]) rfl ⟨_, rfl, HX.out, HFI.out, HF.out⟩
end Go.Proofs.YtolcndchfnifhacDoor

namespace Go.Proofs.YtolcndchfnifhacDoor
theorem pix_lt {w : World} {ao : Option Addr} {n c : Nat} {ps : List Px} (h : IsPix w (.slice ao n c) ps) {b : Nat} (hb : (Value.slice ao n c).ownBlock = some b) : ps = [] ∨ b < w.heap.size := by
  obtain ⟨x, y, hx, _, hc⟩ := h
  cases hx
  rcases hc with hc | ⟨b', o', rfl, hb', _⟩
  · exact .inl hc
  · right
    have e : b' = b := by simpa [Value.ownBlock] using hb
    rw [← e]
    exact hb'
theorem pix_keep {w1 w5 : World} {ro : Option Addr} {N rc B : Nat} {D : List Px} (h1 : IsPix w1 (.slice ro N rc) D) (h : IsPix w5 (.slice ro N rc) D) (hN : D.length = N) (hB : w1.heap.size ≤ B) (x y z : Value) :
    IsPix (((w5.setCell ⟨B, 0, none⟩ x).setCell ⟨B, 1, none⟩ y).setCell ⟨B, 2, none⟩ z) (.slice ro N rc) D := by
  by_cases h0 : N = 0
  · have hD : D = [] := List.eq_nil_of_length_eq_zero (hN.trans h0)
    subst hD
    subst h0
    obtain ⟨a, b, ha, hb, _⟩ := h
    exact ⟨a, b, ha, hb, .inl rfl⟩
  · refine h.other (set3_size w5 B x y z) (fun b hb => set3_heap _ _ _ _ _ b hb) fun e => ?_
    rcases pix_lt h1 e with h | h
    · exact h0 (by rw [← hN, h]; rfl)
    · omega
end Go.Proofs.YtolcndchfnifhacDoor

namespace Go.Proofs.YtolcndchfnifhacDoor
set_option linter.unusedVariables false
open Go.RowKit
set_option maxRecDepth 100000 in
set_option maxHeartbeats 6400000 in
theorem turnCuts_walk (W H : Int) (v : Value) (ps : List Px) (rx ry rw rh : Int) (hroom : roomy v) (w : World) (hm : MovesAt w) (hv : IsPix w v ps) :
    Calls Tryd.prog 3 #[.agg #[.int .i64 W, .int .i64 H, v], .agg #[.int .i64 rx, .int .i64 ry, .int .i64 rw, .int .i64 rh]] w fun e w' => e = .returned (.bool true) ∧ Below w.heap.size w w' := by
  have HM := hide hm
  have HV := hide hv
  have HC := hide (fun (u : World) (hu : Below w.heap.size w u) => cut_any W H v ps rx ry rw rh u (HV.out.below hu (Nat.le_refl _)))
  have HE := hide (fun (u : World) (hu : Below w.heap.size w u) => cutError_any W H v ps rx ry rw rh u (HV.out.below hu (Nat.le_refl _)))
  have HO := hide (show cutE W H ps rx ry rw rh = 0 → ∀ (u : World), Below w.heap.size w u → Calls Tryd.prog 8 #[.agg #[.int .i64 W, .int .i64 H, v], .agg #[.int .i64 rx, .int .i64 ry, .int .i64 rw, .int .i64 rh]] u fun e w' => ∃ r, e = .returned (.agg #[.int .i64 rw, .int .i64 rh, r]) ∧ IsPix w' r (cutL W.toNat ps rx.toNat ry.toNat rw.toNat rh.toNat) ∧ Below u.heap.size u w' ∧ Fresh u.heap.size r from fun h u hu => by
    have hp : picOk W H ps = true := by
      cases hp : picOk W H ps
      · rw [cutE, hp] at h; cases h
      · rfl
    rw [cutE, if_pos hp] at h
    have hl : (liesB rx rw W && liesB ry rh H) = true := by
      cases hl : (liesB rx rw W && liesB ry rh H)
      · rw [hl] at h; cases h
      · rfl
    have hr : ((1 ≤ rw ∧ rw ≤ W) ∧ (0 ≤ rx ∧ rx ≤ W - rw)) ∧ ((1 ≤ rh ∧ rh ≤ H) ∧ (0 ≤ ry ∧ ry ≤ H - rh)) := by simpa [liesB] using hl
    obtain ⟨hg1, hg2, hg3, hg4⟩ := picOk_parts hp
    clear h hl hp
    obtain ⟨WN, rfl⟩ := Int.eq_ofNat_of_zero_le (show 0 ≤ W by omega)
    obtain ⟨HN, rfl⟩ := Int.eq_ofNat_of_zero_le (show 0 ≤ H by omega)
    obtain ⟨RX, rfl⟩ := Int.eq_ofNat_of_zero_le (show 0 ≤ rx by omega)
    obtain ⟨RY, rfl⟩ := Int.eq_ofNat_of_zero_le (show 0 ≤ ry by omega)
    obtain ⟨RW, rfl⟩ := Int.eq_ofNat_of_zero_le (show 0 ≤ rw by omega)
    obtain ⟨RH, rfl⟩ := Int.eq_ofNat_of_zero_le (show 0 ≤ rh by omega)
    exact cutOf_any WN HN RX RY RW RH (by omega) (by omega) (by omega) (by omega) (by omega) (by omega) v ps (by rw [Nat.mul_comm]; exact_mod_cast hg3) u (HV.out.below hu (Nat.le_refl _)) hroom)
  clear hroom
  obtain ⟨ao, ca, rfl, _, _⟩ := hv
  obtain ⟨a1, a2⟩ := al2 w (Obj.cells #[.int .i64 W, .int .i64 H, .slice ao ps.length ca] 24) (Obj.cells #[.int .i64 rx, .int .i64 ry, .int .i64 rw, .int .i64 rh] 26)
  have HB := hide (be2 w (Obj.cells #[.int .i64 W, .int .i64 H, .slice ao ps.length ca] 24) (Obj.cells #[.int .i64 rx, .int .i64 ry, .int .i64 rw, .int .i64 rh] 26))
  have hl1 := (Array.getElem?_eq_some_iff.1 a1).1
  have hl2 := (Array.getElem?_eq_some_iff.1 a2).1
  generalize cutL W.toNat ps rx.toNat ry.toNat rw.toNat rh.toNat = D at *
  by_cases hE : cutE W H ps rx ry rw rh = 0
  · replace HO := hide (HO.out hE)
    rw [hE, show okW 0 rw = rw from rfl, show okW 0 rh = rh from rfl, show okL 0 D = D from rfl] at HC
    rw [hE] at HE
    clear hE
    go_enter Tryd.func3, Tryd.ntmps3
    obtain ⟨p0, p1, p2⟩ := cells3 (a1)
    obtain ⟨q0, q1, q2, q3⟩ := cells4b (b := w.heap.size + 1) (a2)
    go_wp2_with fail
    clear p0 p1 p2 q0 q1 q2 q3
    generalize (w.alloc (Obj.cells #[.int .i64 W, .int .i64 H, .slice ao ps.length ca] 24)).alloc (Obj.cells #[.int .i64 rx, .int .i64 ry, .int .i64 rw, .int .i64 rh] 26) = U at *
    refine (HC.out _ HB.out).mono ?_
    rintro e w1 ⟨r, rfl, hr, hb1, hfr⟩
    have HR := hide hr
    obtain ⟨ro, rc, rfl, x1, x2⟩ := hr
    clear x1 x2
    obtain ⟨N, hN⟩ : ∃ N, (D : List Px).length = N := ⟨_, rfl⟩
    rw [hN] at HR hfr ⊢
    have HN := hide hN
    clear hN
    have t1 := al1 w1 (Obj.cells #[.int .i64 rw, .int .i64 rh, .slice ro N rc] 24)
    have hbx := bel_trans hb1 (bel_alloc w1 (Obj.cells #[.int .i64 rw, .int .i64 rh, .slice ro N rc] 24))
    have HR2 := hide (HR.out.alloc (Obj.cells #[.int .i64 rw, .int .i64 rh, .slice ro N rc] 24))
    obtain ⟨p0, p1, p2⟩ := cells3 ((hbx.block _ hl1).trans a1)
    obtain ⟨q0, q1, q2, q3⟩ := cells4b (b := w.heap.size + 1) ((hbx.block _ hl2).trans a2)
    go_wp2_with fail
    clear p0 p1 p2 q0 q1 q2 q3
    have hlt := (Array.getElem?_eq_some_iff.1 t1).1
    have HSZ := hide hb1.size
    generalize w1.alloc (Obj.cells #[.int .i64 rw, .int .i64 rh, .slice ro N rc] 24) = w2 at *
    have HB2 := hide (HB.out.trans (hbx.mono HB.out.size))
    refine (HE.out _ HB2.out).mono ?_
    rintro e w3 ⟨rfl, hb3⟩
    have t3 := al1 w3 (Obj.cells #[.int .i64 0, .int .i64 0, .slice none 0 0] 24)
    have hby := bel_trans hb3 (bel_alloc w3 (Obj.cells #[.int .i64 0, .int .i64 0, .slice none 0 0] 24))
    have g1 := (hby.block _ hlt).trans t1
    have HR4 := hide (HR2.out.below hby (Nat.le_refl _))
    have hbz := bel_trans hbx hby
    have HZ := hide hb3.size
    have HB4 := hide (HB.out.trans (hbz.mono HB.out.size))
    obtain ⟨p0, p1, p2⟩ := cells3 ((hbz.block _ hl1).trans a1)
    obtain ⟨q0, q1, q2, q3⟩ := cells4b (b := w.heap.size + 1) ((hbz.block _ hl2).trans a2)
    go_wp2_with fail
    clear p0 p1 p2 q0 q1 q2 q3
    have hl3 := (Array.getElem?_eq_some_iff.1 t3).1
    generalize w3.alloc (Obj.cells #[.int .i64 0, .int .i64 0, .slice none 0 0] 24) = w4 at *
    refine (HO.out _ HB4.out).mono ?_
    rintro e w5 ⟨s, rfl, hs, hb5, hfs⟩
    have HSX := hide hs
    obtain ⟨so, sc, rfl, x1, x2⟩ := hs
    clear x1 x2
    rw [HN.out] at HSX hfs ⊢
    have g3 := (hb5.block _ hl3).trans t3
    obtain ⟨z0, z1, z2⟩ := cells3 g3
    have f0 := Lib.frozen_of_heap g3 0
    have f1 := Lib.frozen_of_heap g3 1
    have f2 := Lib.frozen_of_heap g3 2
    have hlg := (Array.getElem?_eq_some_iff.1 g1).1
    have hBU5 := bel_trans hbz hb5
    have hz1 := HSZ.out
    have hz2 := HZ.out
    have hz3 := hb5.size
    obtain ⟨y1, y2, y3, y4⟩ := box3_set g3 (.int .i64 rw) (.int .i64 rh) (.slice so N sc) U (show U.heap.size ≤ w3.heap.size by omega) hBU5
    have HRB := hide (HSX.out.set3 hfs hl3 (.int .i64 rw) (.int .i64 rh) (.slice so N sc))
    have hne : w1.heap.size ≠ w3.heap.size := by omega
    replace g1 := (y2 w1.heap.size hne).trans ((hb5.block _ hlg).trans g1)
    have HRA := hide (pix_keep HR.out (HR4.out.below hb5 (Nat.le_refl _)) HN.out (show w1.heap.size ≤ w3.heap.size by omega) (.int .i64 rw) (.int .i64 rh) (.slice so N sc))
    have HBX := hide y4
    clear hne hz1 hz2 hz3
    go_upto_region 6 with fail
    clear z0 z1 z2 f0 f1 f2
    generalize ((w5.setCell ⟨w3.heap.size, 0, none⟩ (.int .i64 rw)).setCell ⟨w3.heap.size, 1, none⟩ (.int .i64 rh)).setCell ⟨w3.heap.size, 2, none⟩ (.slice so N sc) = X at *
    have g3 := y1
    clear y1 y2 y3 y4
    generalize w1.heap.size = QB at *
    generalize w3.heap.size = ZB at *
    have HBW := hide (HB.out.trans (HBX.out.mono HB.out.size))
    have k1 := (Array.getElem?_eq_some_iff.1 g1).1
    have k3 := (Array.getElem?_eq_some_iff.1 g3).1
    go_wp2_with fail
    refine (turnBegun_any _ (HM.out.below HBW.out (Nat.le_refl _))).mono ?_
    rintro e V0 ⟨rfl, hbv⟩
    obtain ⟨m0, m1, m2⟩ := cells3 ((hbv.block _ k1).trans g1)
    obtain ⟨n0, n1, n2⟩ := cells3 ((hbv.block _ k3).trans g3)
    go_wp2_with fail
    refine (samePictures_any rw rh _ D rw rh _ D _ (HRA.out.below hbv (Nat.le_refl _)) (HRB.out.below hbv (Nat.le_refl _))).mono ?_
    rintro e V3 ⟨rfl, hb9⟩
    rw [show sameB rw rh D rw rh D = true by simp [sameB]]
    go_wp2
    go_ret
    exact ⟨rfl, HBW.out.trans ((bel_trans hbv hb9).mono HBW.out.size)⟩
  · rw [okW, if_neg hE, okW, if_neg hE, okL, if_neg hE] at HC
    generalize cutE W H ps rx ry rw rh = E at *
    have hd : decide (E = 0) = false := decide_eq_false hE
    have hn : (E == 0) = false := by simpa using hE
    go_enter Tryd.func3, Tryd.ntmps3
    obtain ⟨p0, p1, p2⟩ := cells3 (a1)
    obtain ⟨q0, q1, q2, q3⟩ := cells4b (b := w.heap.size + 1) (a2)
    go_wp2_with fail
    clear p0 p1 p2 q0 q1 q2 q3
    generalize (w.alloc (Obj.cells #[.int .i64 W, .int .i64 H, .slice ao ps.length ca] 24)).alloc (Obj.cells #[.int .i64 rx, .int .i64 ry, .int .i64 rw, .int .i64 rh] 26) = U at *
    refine (HC.out _ HB.out).mono ?_
    rintro e w1 ⟨r, rfl, hr, hb1, hfr⟩
    have HR := hide hr
    obtain ⟨ro, rc, rfl, x1, x2⟩ := hr
    clear x1 x2
    obtain ⟨N, hN⟩ : ∃ N, (([] : List Px) : List Px).length = N := ⟨_, rfl⟩
    rw [hN] at HR hfr ⊢
    have HN := hide hN
    clear hN
    have t1 := al1 w1 (Obj.cells #[.int .i64 0, .int .i64 0, .slice ro N rc] 24)
    have hbx := bel_trans hb1 (bel_alloc w1 (Obj.cells #[.int .i64 0, .int .i64 0, .slice ro N rc] 24))
    have HR2 := hide (HR.out.alloc (Obj.cells #[.int .i64 0, .int .i64 0, .slice ro N rc] 24))
    obtain ⟨p0, p1, p2⟩ := cells3 ((hbx.block _ hl1).trans a1)
    obtain ⟨q0, q1, q2, q3⟩ := cells4b (b := w.heap.size + 1) ((hbx.block _ hl2).trans a2)
    go_wp2_with fail
    clear p0 p1 p2 q0 q1 q2 q3
    have hlt := (Array.getElem?_eq_some_iff.1 t1).1
    have HSZ := hide hb1.size
    generalize w1.alloc (Obj.cells #[.int .i64 0, .int .i64 0, .slice ro N rc] 24) = w2 at *
    have HB2 := hide (HB.out.trans (hbx.mono HB.out.size))
    refine (HE.out _ HB2.out).mono ?_
    rintro e w3 ⟨rfl, hb3⟩
    have t3 := al1 w3 (Obj.cells #[.int .i64 0, .int .i64 0, .slice none 0 0] 24)
    have hby := bel_trans hb3 (bel_alloc w3 (Obj.cells #[.int .i64 0, .int .i64 0, .slice none 0 0] 24))
    have g1 := (hby.block _ hlt).trans t1
    have HR4 := hide (HR2.out.below hby (Nat.le_refl _))
    have hbz := bel_trans hbx hby
    have HZ := hide hb3.size
    obtain rfl : N = 0 := HN.out.symm
    have g3 := t3
    have HRA := HR4
    have HRB := hide (IsPix.nil (w3.alloc (Obj.cells #[.int .i64 0, .int .i64 0, .slice none 0 0] 24)))
    have HBX := hide hbz
    go_upto_region 6 with fail
    generalize w3.alloc (Obj.cells #[.int .i64 0, .int .i64 0, .slice none 0 0] 24) = X at *
    generalize w1.heap.size = QB at *
    generalize w3.heap.size = ZB at *
    have HBW := hide (HB.out.trans (HBX.out.mono HB.out.size))
    have k1 := (Array.getElem?_eq_some_iff.1 g1).1
    have k3 := (Array.getElem?_eq_some_iff.1 g3).1
    go_wp2_with fail
    refine (turnBegun_any _ (HM.out.below HBW.out (Nat.le_refl _))).mono ?_
    rintro e V0 ⟨rfl, hbv⟩
    obtain ⟨m0, m1, m2⟩ := cells3 ((hbv.block _ k1).trans g1)
    obtain ⟨n0, n1, n2⟩ := cells3 ((hbv.block _ k3).trans g3)
    go_wp2_with fail
    refine (samePictures_any 0 0 _ ([] : List Px) 0 0 _ ([] : List Px) _ (HRA.out.below hbv (Nat.le_refl _)) (HRB.out.below hbv (Nat.le_refl _))).mono ?_
    rintro e V3 ⟨rfl, hb9⟩
    rw [show sameB 0 0 ([] : List Px) 0 0 ([] : List Px) = true by simp [sameB]]
    go_wp2
    go_ret
    exact ⟨rfl, HBW.out.trans ((bel_trans hbv hb9).mono HBW.out.size)⟩
end Go.Proofs.YtolcndchfnifhacDoor

namespace Go.Proofs.YtolcndchfnifhacDoor
open Go.RowKit Go.ChangeShapes
set_option linter.unusedVariables false
theorem moves_row {H : Type} {enc : TypeId × Value → H} {P : Program} {w : World} {base : Nat} {sp : Nat → Bool} {held : Bool} {fuel : Nat} {t e tb : TypeId} {f0 f1 f2 : Field} {cs : List Value} {p : List MemPlace} {ms : List Mv}
    (ht : P.underlying t = some (.array 8 e)) (he : P.underlying e = some (.struct #[f0, f1, f2])) (h0 : f0.type = tb) (h1 : f1.type = tb) (h2 : f2.type = tb) (o0 : f0.offset = 0) (o1 : f1.offset = 1) (o2 : f2.offset = 2) (hb : P.underlying tb = some .bool) (cb : P.cellsOf tb = 1) (ce : P.cellsOf e = 3)
    (h : DataW.trod enc P w base sp held fuel t cs = some (.agg (ms.map fun m => .agg [.lit (.bool m.1), .lit (.bool m.2.1), .lit (.bool m.2.2)]), p)) (i : Nat) (hi : i < 8) (m : Mv) (hm : ms[i]? = some m) :
    cs[i * 3]? = some (.bool m.1) ∧ cs[i * 3 + 1]? = some (.bool m.2.1) ∧ cs[i * 3 + 2]? = some (.bool m.2.2) := by
  obtain ⟨xs, n, _, hx, _, hl, hel⟩ := DataW.trod_array ht h
  have hE := hel i hi
  rw [ce, List.getElem?_eq_getElem (by omega)] at hE
  obtain ⟨ys, n2, _, hy, _, hyl, hye⟩ := DataW.trod_struct he hE
  have hyl' : ys.length = 3 := hyl
  have e0 := hye 0 f0 rfl
  have e1 := hye 1 f1 rfl
  have e2 := hye 2 f2 rfl
  rw [h0, o0, cb, List.getElem?_eq_getElem (by omega)] at e0
  rw [h1, o1, cb, List.getElem?_eq_getElem (by omega)] at e1
  rw [h2, o2, cb, List.getElem?_eq_getElem (by omega)] at e2
  obtain ⟨b0, c0, y0⟩ := DataW.trod_bool hb e0
  obtain ⟨b1, c1, y1⟩ := DataW.trod_bool hb e1
  obtain ⟨b2, c2, y2⟩ := DataW.trod_bool hb e2
  have hxi : (xs.map (·.1))[i]? = some (.agg [.lit (.bool m.1), .lit (.bool m.2.1), .lit (.bool m.2.2)]) := by
    have := congrArg Prod.fst hx
    simp only at this
    have h3 : ms.map (fun m => (DataW.agg [.lit (.bool m.1), .lit (.bool m.2.1), .lit (.bool m.2.2)] : DataW H)) = xs.map (·.1) := by
      have h4 := this
      simp only [DataW.agg.injEq] at h4
      exact h4
    rw [← h3, List.getElem?_map, hm]
    rfl
  rw [List.getElem?_map, List.getElem?_eq_getElem (by omega), hy] at hxi
  have hyy : ys.map (·.1) = [.lit (.bool m.1), .lit (.bool m.2.1), .lit (.bool m.2.2)] := by
    simpa using hxi
  have z0 : (ys.map (·.1))[0]? = some (DataW.lit (.bool b0) : DataW H) := by rw [List.getElem?_map, List.getElem?_eq_getElem (by omega), y0]; rfl
  have z1 : (ys.map (·.1))[1]? = some (DataW.lit (.bool b1) : DataW H) := by rw [List.getElem?_map, List.getElem?_eq_getElem (by omega), y1]; rfl
  have z2 : (ys.map (·.1))[2]? = some (DataW.lit (.bool b2) : DataW H) := by rw [List.getElem?_map, List.getElem?_eq_getElem (by omega), y2]; rfl
  rw [hyy] at z0 z1 z2
  simp at z0 z1 z2
  subst z0 z1 z2
  have g : ∀ (k : Nat) (v : Value), ((((cs.drop (i * 3)).take 3).drop k).take 1) = [v] → k < 3 → cs[i * 3 + k]? = some v := fun k v hk hk3 => by
    have h0 : ((((cs.drop (i * 3)).take 3).drop k).take 1)[0]? = some v := by rw [hk]; rfl
    rw [List.getElem?_take_of_lt (by omega), List.getElem?_drop, List.getElem?_take_of_lt (by omega), List.getElem?_drop] at h0
    exact h0
  exact ⟨g 0 _ c0 (by omega), g 1 _ c1 (by omega), g 2 _ c2 (by omega)⟩
theorem gMoves : Tryd.prog.globalNamed "darkslide/turn.moves" = some 0 := by kernel_rfl
theorem gMovesType : (Tryd.prog.globals[0]?).map (·.type) = some 68 := by kernel_rfl
theorem cellsMove : Tryd.prog.cellsOf 55 = 3 := by kernel_rfl
theorem cellsBool : Tryd.prog.cellsOf 4 = 1 := by kernel_rfl
theorem moves_laid {W : World} {rest : List (String × DataW Unit)} (h : laidMet Tryd.prog (("darkslide/turn.moves", Rows.laid_darkslide_turn_moves) :: rest) W) : MovesAt W := by
  obtain ⟨ps, ⟨g', t', cs, fuel, p, q, hg', ht', hvar, hd, _, _⟩, _⟩ := h
  obtain rfl := Option.some.inj (gMoves.symm.trans hg')
  obtain rfl := Option.some.inj (gMovesType.symm.trans ht')
  have hrow := fun i hi m hm => moves_row (ms := mvL) Tryd.underlying68 Tryd.underlying55 rfl rfl rfl rfl rfl rfl Tryd.underlying4 cellsBool cellsMove hd i hi m hm
  have hcell := fun i => World.var?_cell gMoves hvar i
  have key : ∀ k, k < 8 → W.cell? ⟨0, k * 3, none⟩ = some (.bool (mvAt k).1) ∧ W.cell? ⟨0, k * 3 + 1, none⟩ = some (.bool (mvAt k).2.1) ∧ W.cell? ⟨0, k * 3 + 2, none⟩ = some (.bool (mvAt k).2.2) := fun k hk => by
    have hmk : mvL[k]? = some (mvAt k) := by
      unfold mvAt
      rw [List.getD_eq_getElem?_getD, List.getElem?_eq_getElem (show k < mvL.length from hk)]
      rfl
    obtain ⟨c0, c1, c2⟩ := hrow k hk _ hmk
    refine ⟨?_, ?_, ?_⟩
    · rw [hcell]; simpa using c0
    · rw [hcell]; simpa using c1
    · rw [hcell]; simpa using c2
  exact ⟨World.block_lt_of_cell? W _ (key 0 (by omega)).1, key⟩
end Go.Proofs.YtolcndchfnifhacDoor

namespace Go.Proofs.YtolcndchfnifhacDoor
abbrev Pt := Int × Int
def ptAt (ls : List Pt) (i : Nat) : Pt := ls.getD i (0, 0)
structure IsCurve (ls : List Pt) : Prop where
  two : 2 ≤ ls.length
  most : ls.length ≤ 16
  first : (ptAt ls 0).1 = 0
  last : (ptAt ls (ls.length - 1)).1 = 65535
  y : ∀ k, k < ls.length → 0 ≤ (ptAt ls k).2 ∧ (ptAt ls k).2 ≤ 65535
  step : ∀ k, k + 1 < ls.length → (ptAt ls k).1 < (ptAt ls (k + 1)).1 ∧ (ptAt ls k).2 ≤ (ptAt ls (k + 1)).2
theorem IsCurve.lt {ls : List Pt} (h : IsCurve ls) (i d : Nat) (hj : i + d + 1 < ls.length) : (ptAt ls i).1 < (ptAt ls (i + d + 1)).1 ∧ (ptAt ls i).2 ≤ (ptAt ls (i + d + 1)).2 := by
  induction d with
  | zero => exact h.step i hj
  | succ d ih =>
    have h1 := ih (by omega)
    have h2 := h.step (i + d + 1) (by omega)
    rw [show i + (d + 1) + 1 = i + d + 1 + 1 by omega]
    omega
theorem IsCurve.x {ls : List Pt} (h : IsCurve ls) (k : Nat) (hk : k < ls.length) : 0 ≤ (ptAt ls k).1 ∧ (ptAt ls k).1 ≤ 65535 := by
  have h1 := h.first
  have h2 := h.last
  have h3 := h.two
  constructor
  · rcases Nat.eq_zero_or_pos k with rfl | hp
    · omega
    · have := (h.lt 0 (k - 1) (by omega)).1
      rw [show 0 + (k - 1) + 1 = k by omega] at this
      omega
  · rcases Nat.eq_or_lt_of_le (show k ≤ ls.length - 1 by omega) with e | hlt
    · rw [e]; omega
    · have := (h.lt k (ls.length - 1 - k - 1) (by omega)).1
      rw [show k + (ls.length - 1 - k - 1) + 1 = ls.length - 1 by omega] at this
      omega
end Go.Proofs.YtolcndchfnifhacDoor

namespace Go.Proofs.YtolcndchfnifhacDoor
open Go.RowKit
def IsPts (w : World) (v : Value) (ls : List Pt) : Prop :=
  ∃ ao cap, v = .slice ao ls.length cap ∧ ls.length ≤ 9223372036854775807 ∧ (ls = [] ∨ ∃ b off, ao = some ⟨b, off, none⟩ ∧ b < w.heap.size ∧ ∀ j, j < ls.length →
    w.cell? ⟨b, off + j * 2, none⟩ = some (.int .i64 (ptAt ls j).1) ∧ w.cell? ⟨b, off + j * 2 + 1, none⟩ = some (.int .i64 (ptAt ls j).2))
theorem IsPts.below {w w' : World} {v : Value} {ls : List Pt} {B : Nat} (h : IsPts w v ls) (hb : Below B w w') (hB : w.heap.size ≤ B) : IsPts w' v ls := by
  obtain ⟨ao, cap, hv, hl, h⟩ := h
  refine ⟨ao, cap, hv, hl, ?_⟩
  rcases h with h | ⟨b, off, ha, hlt, hc⟩
  · exact .inl h
  · refine .inr ⟨b, off, ha, Nat.lt_of_lt_of_le hlt hb.size, fun j hj => ?_⟩
    rw [hb.cell (p := ⟨b, off + j * 2, none⟩) (by exact Nat.lt_of_lt_of_le hlt hB), hb.cell (p := ⟨b, off + j * 2 + 1, none⟩) (by exact Nat.lt_of_lt_of_le hlt hB)]
    exact hc j hj
theorem IsPts.alloc {w : World} {v : Value} {ls : List Pt} (h : IsPts w v ls) (o : Obj) : IsPts (w.alloc o) v ls :=
  h.below ((Below.refl _ _).alloc (Nat.le_refl _) o) (Nat.le_refl _)
theorem IsPts.nil (w : World) : IsPts w (.slice none 0 0) [] := ⟨none, 0, rfl, by simp, .inl rfl⟩
end Go.Proofs.YtolcndchfnifhacDoor

namespace Go.Proofs.YtolcndchfnifhacDoor
open Go.RowKit Go.ChangeShapes
theorem list_of {α : Type} (P : Nat → α → Prop) (n : Nat) (h : ∀ i, i < n → ∃ p, P i p) (d : α) : ∃ ls : List α, ls.length = n ∧ ∀ i, i < n → P i (ls.getD i d) := by
  induction n with
  | zero => exact ⟨[], rfl, fun i hi => by omega⟩
  | succ n ih =>
    obtain ⟨ls, hl, hp⟩ := ih (fun i hi => h i (by omega))
    obtain ⟨p, hp'⟩ := h n (by omega)
    refine ⟨ls ++ [p], by simp [hl], fun i hi => ?_⟩
    rcases Nat.eq_or_lt_of_le (show i ≤ n by omega) with e | hlt
    · subst e
      rw [List.getD_eq_getElem?_getD, List.getElem?_append_right (by omega), hl]
      simpa using hp'
    · rw [List.getD_eq_getElem?_getD, List.getElem?_append_left (by omega), ← List.getD_eq_getElem?_getD]
      exact hp i hlt
end Go.Proofs.YtolcndchfnifhacDoor

namespace Go.Proofs.YtolcndchfnifhacDoor
open Go.RowKit Go.ChangeShapes
theorem cellsQ3 {W : World} {base : Nat} {a : Addr} {cs : List Value} (h : W.cells? base a 3 = some cs) : ∃ x y z, cs = [x, y, z] ∧ W.cell? (a.add 0) = some x ∧ W.cell? (a.add 1) = some y ∧ W.cell? (a.add 2) = some z := by
  obtain ⟨_, hl, hc⟩ := World.cells?_some h
  match cs, hl with
  | [x, y, z], _ => exact ⟨x, y, z, rfl, hc 0 (by omega), hc 1 (by omega), hc 2 (by omega)⟩
theorem pix_open {P : Program} {H : Type} {enc : TypeId × Value → H} {W : World} {base : Nat} {spare : Nat → Bool} {held : Bool} {fuel : Nat} {t e : TypeId} {f0 f1 f2 : Field} {v : Value} {x : DataW H × List MemPlace}
    (ht : P.underlying t = some (.slice e)) (he : P.underlying e = some (.struct #[f0, f1, f2])) (h0 : P.underlying f0.type = some (.int .i64)) (h1 : P.underlying f1.type = some (.int .i64)) (h2 : P.underlying f2.type = some (.int .i64)) (o0 : f0.offset = 0) (o1 : f1.offset = 1) (o2 : f2.offset = 2)
    (ce : P.cellsOf e = 3) (c0 : P.cellsOf f0.type = 1) (c1 : P.cellsOf f1.type = 1) (c2 : P.cellsOf f2.type = 1) (h : DataW.trod enc P W base spare held fuel t [v] = some x) : ∃ ps, IsPix W v ps := by
  rcases DataW.trod_slice ht h with ⟨hcs, _⟩ | ⟨a, len, cap, elems, rest, n, _, hcs, _, hb, hl, hm, hlen, hel, _, _⟩
  · simp at hcs
    subst hcs
    exact ⟨[], IsPix.nil _⟩
  · simp at hcs
    subst hcs
    have each : ∀ i, i < len → ∃ p : Px, W.cell? ((a.add (i * 3)).add 0) = some (.int .i64 p.1) ∧ W.cell? ((a.add (i * 3)).add 1) = some (.int .i64 p.2.1) ∧ W.cell? ((a.add (i * 3)).add 2) = some (.int .i64 p.2.2) := by
      intro i hi
      have h2' := hel i hi
      rw [List.getElem?_eq_getElem (by omega), ce, Option.bind_eq_some_iff] at h2'
      obtain ⟨cs, hc, hy⟩ := h2'
      obtain ⟨p, q, r, rfl, hp, hq, hr⟩ := cellsQ3 hc
      obtain ⟨xs, m, _, _, _, hxl, hx⟩ := DataW.trod_struct he hy
      have g0 := hx 0 f0 rfl
      have g1 := hx 1 f1 rfl
      have g2 := hx 2 f2 rfl
      rw [o0, c0, List.getElem?_eq_getElem (by rw [hxl]; simp)] at g0
      rw [o1, c1, List.getElem?_eq_getElem (by rw [hxl]; simp)] at g1
      rw [o2, c2, List.getElem?_eq_getElem (by rw [hxl]; simp)] at g2
      obtain ⟨z0, e0, _, _⟩ := DataW.trod_int h0 g0
      obtain ⟨z1, e1, _, _⟩ := DataW.trod_int h1 g1
      obtain ⟨z2, e2, _, _⟩ := DataW.trod_int h2 g2
      simp at e0 e1 e2
      subst e0 e1 e2
      exact ⟨(z0, z1, z2), hp, hq, hr⟩
    obtain ⟨ls, hll, hls⟩ := list_of _ len each (0, 0, 0)
    unfold maxLen at hm
    refine ⟨ls, some a, cap, by rw [hll], by omega, ?_⟩
    by_cases hz : len = 0
    · exact .inl (List.eq_nil_of_length_eq_zero (by omega))
    · right
      obtain ⟨b, off, spot⟩ := a
      have hspot : spot = none := by simpa [Addr.add] using World.cell?_spot (hls 0 (by omega)).1
      subst hspot
      have hk : ∀ j (hj : j < ls.length), W.cell? ⟨b, off + j * 3, none⟩ = some (.int .i64 ls[j].1) ∧ W.cell? ⟨b, off + j * 3 + 1, none⟩ = some (.int .i64 ls[j].2.1) ∧ W.cell? ⟨b, off + j * 3 + 2, none⟩ = some (.int .i64 ls[j].2.2) := by
        intro j hj
        have h2' := hls j (by omega)
        rw [Go.WideShapes.add_plain, Go.WideShapes.add_plain, Go.WideShapes.add_plain, Go.WideShapes.add_plain] at h2'
        rw [pxAt_get ls j hj]
        exact h2'
      exact ⟨b, off, rfl, World.block_lt_of_cell? W _ (hk 0 (by omega)).1, hk⟩
end Go.Proofs.YtolcndchfnifhacDoor

namespace Go.Proofs.YtolcndchfnifhacDoor
open Go.RowKit Go.ChangeShapes
set_option linter.unusedVariables false
theorem slice_roomy {P : Program} {H : Type} {enc : TypeId × Value → H} {W : World} {base : Nat} {spare : Nat → Bool} {held : Bool} {fuel : Nat} {t e : TypeId} {v : Value} {x : DataW H × List MemPlace}
    (ht : P.underlying t = some (.slice e)) (h : DataW.trod enc P W base spare held fuel t [v] = some x) : roomy v := by
  rcases DataW.trod_slice ht h with ⟨hcs, _⟩ | ⟨a, len, cap, elems, rest, n, _, hcs, _, _, hl, _, _, _, _, _⟩
  · simp at hcs
    subst hcs
    exact Nat.le_refl _
  · simp at hcs
    subst hcs
    exact hl
theorem aggCells {P : Program} {H : Type} {enc : TypeId × Value → H} {W : World} {base b0 : Nat} {spare : Nat → Bool} {held : Bool} {r : Reach} {t : TypeId} {fs : Array Field} {v : Value} {d : DataW H} {p : List MemPlace}
    (ht : P.underlying t = some (.struct fs)) (hv : Value.okWide P W r b0 t v) (h : DataW.Trod enc P W base spare held t v d p) : ∃ cs fuel, v = .agg cs ∧ DataW.trod enc P W base spare held fuel t cs.toList = some (d, p) := by
  obtain ⟨cs, rfl, _, _⟩ : ∃ cs, v = .agg cs ∧ cs.size = P.cellsOf t ∧ Row.okWide P W r b0 t cs := by
    simpa [Value.okWide, ht] using hv
  obtain ⟨fuel, hf⟩ := h
  exact ⟨cs, fuel, rfl, hf⟩
theorem slotGet {cs : List Value} {a : Nat} {v : Value} (h : (cs.drop a).take 1 = [v]) : cs[a]? = some v := by
  have h0 : ((cs.drop a).take 1)[0]? = some v := by rw [h]; rfl
  simpa using h0
theorem rect_open {P : Program} {H : Type} {enc : TypeId × Value → H} {W : World} {base : Nat} {spare : Nat → Bool} {held : Bool} {fuel : Nat} {t ti : TypeId} {g0 g1 g2 g3 : Field} {cs : List Value} {x : DataW H × List MemPlace}
    (ht : P.underlying t = some (.struct #[g0, g1, g2, g3])) (hi : P.underlying ti = some (.int .i64)) (ci : P.cellsOf ti = 1) (ct : P.cellsOf t = 4)
    (y0 : g0.type = ti) (y1 : g1.type = ti) (y2 : g2.type = ti) (y3 : g3.type = ti) (o0 : g0.offset = 0) (o1 : g1.offset = 1) (o2 : g2.offset = 2) (o3 : g3.offset = 3)
    (h : DataW.trod enc P W base spare held fuel t cs = some x) : ∃ a b c d : Int, cs = [.int .i64 a, .int .i64 b, .int .i64 c, .int .i64 d] := by
  obtain ⟨xs, m, _, _, hl, hxl, hx⟩ := DataW.trod_struct ht h
  rw [ct] at hl
  have hxl' : xs.length = 4 := hxl
  have e0 := hx 0 g0 rfl
  have e1 := hx 1 g1 rfl
  have e2 := hx 2 g2 rfl
  have e3 := hx 3 g3 rfl
  rw [o0, y0, ci, List.getElem?_eq_getElem (by omega)] at e0
  rw [o1, y1, ci, List.getElem?_eq_getElem (by omega)] at e1
  rw [o2, y2, ci, List.getElem?_eq_getElem (by omega)] at e2
  rw [o3, y3, ci, List.getElem?_eq_getElem (by omega)] at e3
  obtain ⟨a, p0, _, _⟩ := DataW.trod_int hi e0
  obtain ⟨b, p1, _, _⟩ := DataW.trod_int hi e1
  obtain ⟨c, p2, _, _⟩ := DataW.trod_int hi e2
  obtain ⟨d, p3, _, _⟩ := DataW.trod_int hi e3
  have q0 := slotGet p0
  have q1 := slotGet p1
  have q2 := slotGet p2
  have q3 := slotGet p3
  match cs, hl with
  | [c0, c1, c2, c3], _ =>
    simp at q0 q1 q2 q3
    subst q0 q1 q2 q3
    exact ⟨a, b, c, d, rfl⟩
end Go.Proofs.YtolcndchfnifhacDoor
